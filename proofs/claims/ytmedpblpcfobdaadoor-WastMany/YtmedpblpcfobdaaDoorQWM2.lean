/- The law of many instructions. -/
import Derived.Test.YtmedpblpcfobdaaDoorQWM1
import Derived.Test.YtmedpblpcfobdaaDoorQK12
import Derived.Deep.RegionLaw
import Derived.Deep.CutRange
import Derived.Laws.MakeOwn
import Derived.OwnWalk
namespace Go.Proofs.YtmedpblpcfobdaaDoor
open Go.RowKit Rep
set_option linter.unusedVariables false
theorem insInfo2 : (Tryd.prog.info? 45).map (fun i => (i.zero, i.size, i.bytes)) = some (some (.agg #[.int .i64 0, .int .i64 0, .int .i64 0, .int .i64 0, .slice none 0 0, .slice none 0 0, .slice none 0 0]), 7, 104) := by kernel_rfl
theorem funInfo : (Tryd.prog.info? 49).map (fun i => (i.zero, i.size, i.bytes)) = some (some (.agg #[.int .i64 0, .slice none 0 0, .slice none 0 0]), 3, 56) := by kernel_rfl
theorem step_appS {P : Program} {ops : Array Oper} {o : Oper} {a : Act} {w : World} {K : Act → World → Prop} {Q : Exit → Act → World → Prop} {E : Prop} (hgd : o.guard = none) (s x : Operand) (t : TypeId)
    (ho : o.op = .call { callee := .builtin .append, args := #[s, x], argTypes := #[t, t] })
    (base : Nat) (e : TypeId) (i : TypeInfo) (z : Value) (size bytes : Nat) (ht : P.underlying t = some (.slice e)) (hi : P.info? e = some i) (hz : i.zero = some z)
    (hsize : i.size = size) (hby : i.bytes = bytes) (hzs : z.cells.size = size) (hsz : 0 < size)
    (v : Value) (n : Nat) (xs : List Value) (hs : a.eval s = v) (hown : w.ownsRow base e size v n xs)
    (xo : Option Addr) (m c : Nat) (news : List Value) (hx : a.eval x = .slice xo m c) (hxo : xo = none → m = 0) (hl : news.length = m * size) (hnews : ∀ ad, xo = some ad → ∀ j u, news[j]? = some u → w.cell? (ad.add j) = some u) (h1 : ∀ u ∈ news, u.oneCell' = true)
    (h63 : n + m ≤ maxLen) (hbytes : (n + m) * bytes ≤ 140737488355328) (hbase : base ≤ w.heap.size)
    (h : ∀ v' w', w'.ownsRow base e size v' (n + m) (xs ++ news) → w.grownBy w' v.ownBlock → (v'.ownBlock = v.ownBlock ∨ v'.ownBlock = some w.heap.size) → K (a.put o.dst v') w') :
    if Region.wanted o (yielded ops a.tmps) = true then Oper.wp P o a w K Q else E := by
  have hw : Region.wanted o (yielded ops a.tmps) = true := by simp [Region.wanted, hgd]
  rw [if_pos hw]
  obtain ⟨v', w', hr, h2, h3, h4⟩ := run_appS w base t o.type e i z size bytes ht hi hz hsize hby hzs hsz v n xs hown xo m c news hxo hl hnews h1 h63 hbytes hbase
  unfold Oper.wp
  simp [execOp, ho, resolve, invoke, builtin, hs, hx, hr, Result.andThen]
  exact h v' w' h2 h3 h4
namespace Rep
/-- a module with one type and these functions, in a block of its own -/
def Blk10 (w : World) (p T : Nat) (v : Value) : Prop := w.heap[p]? = some (.cells #[.slice (some ⟨T, 0, none⟩) 1 1, .slice none 0 0, v, .slice none 0 0, .slice none 0 0, .slice none 0 0, .slice none 0 0, .slice none 0 0, .slice none 0 0, .slice none 0 0] 36 (0, 0))
theorem Blk10.cell {w : World} {p T : Nat} {v : Value} (h : Blk10 w p T v) (i : Nat) (u : Value) (hu : #[Value.slice (some ⟨T, 0, none⟩) 1 1, .slice none 0 0, v, .slice none 0 0, .slice none 0 0, .slice none 0 0, .slice none 0 0, .slice none 0 0, .slice none 0 0, .slice none 0 0][i]? = some u) : w.cell? ⟨p, i, none⟩ = some u := by
  unfold World.cell?
  rw [h]
  exact hu
theorem Blk10.frz {w : World} {p T : Nat} {v : Value} (h : Blk10 w p T v) (i : Nat) : w.frozen? ⟨p, i, none⟩ = false := by
  unfold World.frozen?
  rw [h]
  simp
theorem Blk10.set {w : World} {p T : Nat} {v : Value} (h : Blk10 w p T v) (u : Value) : Blk10 (w.setCell ⟨p, 2, none⟩ u) p T u := heap_setCell_same w p 2 _ _ u h
theorem Blk10.keep {w w' : World} {p T : Nat} {v : Value} (h : Blk10 w p T v) (hk : w'.heap[p]? = w.heap[p]?) : Blk10 w' p T v := by unfold Blk10 at *; rw [hk]; exact h
/-- functions' cells: a body's value and how many instructions it has -/
def fc3 (q : Value × Nat) : List Value := [.int .i64 0, .slice none 0 0, q.1]
/-- the module's functions, so many, each by its body's value -/
def Grew (w3 : World) (M T j : Nat) (svs : List (Value × Nat)) (wx : World) : Prop :=
  ∃ o c, Blk10 wx M T (.slice o j c) ∧ wx.ownsRow (M + 1) 49 3 (.slice o j c) j (svs.flatMap fc3) ∧ Below M w3 wx ∧ M < wx.heap.size
/-- where the k-th function's instructions begin -/
def cutAt (n fs k : Nat) : Nat := n * k / fs
def lenAt (n fs k : Nat) : Nat := cutAt n fs (k + 1) - cutAt n fs k
theorem cutAt_le (n fs k : Nat) (hk : k ≤ fs) (hf : 1 ≤ fs) : cutAt n fs k ≤ n := by
  unfold cutAt
  exact Nat.div_le_of_le_mul (by rw [Nat.mul_comm fs n]; exact Nat.mul_le_mul_left n hk)
theorem cutAt_mono (n fs k : Nat) : cutAt n fs k ≤ cutAt n fs (k + 1) := by
  unfold cutAt
  exact Nat.div_le_div_right (Nat.mul_le_mul_left n (by omega))
theorem cutAt_all (n fs : Nat) (hf : 1 ≤ fs) : cutAt n fs fs = n := Nat.mul_div_cancel n (by omega)
theorem sum_cut (n fs : Nat) : ∀ j, 1 ≤ fs → j ≤ fs → ((List.range j).map (lenAt n fs)).sum = cutAt n fs j
  | 0, _, _ => by show 0 = n * 0 / fs; simp
  | j + 1, hf, hj => by
    rw [List.range_succ, List.map_append, List.sum_append, sum_cut n fs j hf (by omega)]
    have := cutAt_mono n fs j
    show cutAt n fs j + (lenAt n fs j + 0) = _
    unfold lenAt
    omega
theorem fc3_len : ∀ svs : List (Value × Nat), (svs.flatMap fc3).length = svs.length * 3
  | [] => rfl
  | q :: r => by
    rw [List.flatMap_cons, List.length_append, fc3_len r]
    show 3 + _ = (r.length + 1) * 3
    omega
theorem fc3_get : ∀ (svs : List (Value × Nat)) (i : Nat) (q : Value × Nat), svs[i]? = some q → ∀ k v, (fc3 q)[k]? = some v → (svs.flatMap fc3)[i * 3 + k]? = some v
  | [], _, _, h, _, _, _ => by simp at h
  | p :: r, 0, q, h, k, v, hv => by
    have : p = q := by simpa using h
    subst this
    have hk : k < (fc3 p).length := (List.getElem?_eq_some_iff.1 hv).1
    rw [List.flatMap_cons, Nat.zero_mul, Nat.zero_add, List.getElem?_append_left hk]
    exact hv
  | p :: r, i + 1, q, h, k, v, hv => by
    have h' : r[i]? = some q := by simpa using h
    rw [List.flatMap_cons, List.getElem?_append_right (by show 3 ≤ _; omega), show (i + 1) * 3 + k - (fc3 p).length = i * 3 + k by show (i + 1) * 3 + k - 3 = _; omega]
    exact fc3_get r i q h' k v hv
theorem mod_many {w2 w3 wf : World} {M T dp fs b c' : Nat} {oo : Option Addr} {svs : List (Value × Nat)} (hF : FTAt w3 T 0 ⟨[], []⟩) (h3 : Below M w3 wf) (hTM : T < M) (h2 : Below w2.heap.size w2 wf)
    (hA : At w2 (dp + 1) (.slice (some ⟨b, 0, none⟩) 1 1) (nest dp)) (hR : ∀ q ∈ svs, ∃ oq cq, q.1 = .slice oq q.2 cq ∧ Row 7 (InsAt w2 (At w2 dp)) q.1 (nops dp q.2)) (hl : svs.length = fs)
    (hO : wf.ownsRow (M + 1) 49 3 (.slice oo (fs + 1) c') (fs + 1) (svs.flatMap fc3 ++ [Value.int .i64 0, .slice none 0 0, .slice (some ⟨b, 0, none⟩) 1 1])) (hfs : fs ≤ 5) :
    ModAt wf (dp + 1) (.slice (some ⟨T, 0, none⟩) 1 1) (.slice none 0 0) (.slice oo (fs + 1) c') (.slice none 0 0) (.slice none 0 0) (.slice none 0 0) (.slice none 0 0) (.slice none 0 0) (.slice none 0 0) (.slice none 0 0) (mMany dp (svs.map (·.2))) := by
  have hcT : ∀ k v, w3.cell? ⟨T, k, none⟩ = some v → wf.cell? ⟨T, k, none⟩ = some v := fun k v h => (h3.cell (p := ⟨T, k, none⟩) hTM).trans h
  have hft : FTAt wf T 0 ⟨[], []⟩ := by
    obtain ⟨v, a, c⟩ := hF.params
    obtain ⟨v', a', c'⟩ := hF.results
    have n1 : ∃ o cap, v = .slice o 0 cap := Row.len c
    have n2 : ∃ o cap, v' = .slice o 0 cap := Row.len c'
    obtain ⟨o1, p1, rfl⟩ := n1
    obtain ⟨o2, p2, rfl⟩ := n2
    exact ⟨⟨_, hcT _ _ a, ⟨by simp, .inl ⟨rfl, _, _, rfl⟩⟩⟩, ⟨_, hcT _ _ a', ⟨by simp, .inl ⟨rfl, _, _, rfl⟩⟩⟩⟩
  have hfl : svs.flatMap fc3 ++ [Value.int .i64 0, .slice none 0 0, .slice (some ⟨b, 0, none⟩) 1 1] = (svs ++ [(Value.slice (some ⟨b, 0, none⟩) 1 1, 1)]).flatMap fc3 := by
    rw [List.flatMap_append]; simp [fc3]
  rw [hfl] at hO
  rcases hO.2 with ⟨h, _⟩ | ⟨g, cap, cur, hv, _⟩
  · injection h with _ h; omega
  injection hv with hv1 hv2 hv3
  subst hv1
  have hc : ∀ i q, (svs ++ [(Value.slice (some ⟨b, 0, none⟩) 1 1, 1)])[i]? = some q → ∀ k v, (fc3 q)[k]? = some v → wf.cell? ⟨g, 0 + i * 3 + k, none⟩ = some v := fun i q hq k v hv => by
    have := hO.cells (g := g) rfl (i * 3 + k) v (fc3_get _ i q hq k v hv)
    rw [add_addr] at this
    rw [Nat.add_assoc]; exact this
  have hlen : (svs.map (·.2)).length = fs := by rw [List.length_map, hl]
  have hfun : Row 3 (FunAt wf (dp + 1)) (.slice (some ⟨g, 0, none⟩) (fs + 1) c') ((svs.map (·.2)).map (fOf dp) ++ [⟨0, [], nest dp⟩]) := by
    refine ⟨by simp [hl]; omega, .inr ⟨g, 0, c', by simp [hl], fun i x hx => ?_⟩⟩
    by_cases hi : i < fs
    · obtain ⟨q, hq⟩ : ∃ q, svs[i]? = some q := ⟨_, List.getElem?_eq_getElem (by omega)⟩
      have hq' : (svs ++ [(Value.slice (some ⟨b, 0, none⟩) 1 1, 1)])[i]? = some q := by rw [List.getElem?_append_left (by omega)]; exact hq
      have hx' : x = fOf dp q.2 := by
        rw [List.getElem?_append_left (by simp [hl]; omega), List.getElem?_map, List.getElem?_map, hq] at hx
        exact (Option.some.inj hx).symm
      subst hx'
      obtain ⟨oq, cq, hqe, hrow⟩ := hR q (List.mem_of_getElem? hq)
      exact ⟨hc i q hq' 0 _ rfl, ⟨_, hc i q hq' 1 _ rfl, row_nil _ _⟩, ⟨_, hc i q hq' 2 _ rfl, At.on h2 (dp + 1) _ _ hrow⟩⟩
    · have hlt := (List.getElem?_eq_some_iff.1 hx).1
      have hi' : i = fs := by simp [hl] at hlt; omega
      subst hi'
      have hx' : x = ⟨0, [], nest dp⟩ := by
        rw [List.getElem?_append_right (by simp [hl])] at hx
        simp [hl] at hx
        exact hx.symm
      subst hx'
      have hq' : (svs ++ [(Value.slice (some ⟨b, 0, none⟩) 1 1, 1)])[i]? = some (Value.slice (some ⟨b, 0, none⟩) 1 1, 1) := by rw [← hl]; simp
      exact ⟨hc i _ hq' 0 _ rfl, ⟨_, hc i _ hq' 1 _ rfl, row_nil _ _⟩, ⟨_, hc i _ hq' 2 _ rfl, At.on h2 (dp + 1) _ _ hA⟩⟩
  exact ⟨row_one _ _ _ _ _ hft, row_nil _ _, hfun, row_nil _ _, row_nil _ _, row_nil _ _, row_nil _ _, row_nil _ _, row_nil _ _, row_nil _ _⟩
theorem quo_at (n j fs : Nat) (hn : n ≤ 66000) (hj : j ≤ 5) (hf : 1 ≤ fs) : IntKind.i64.wrap ((IntKind.i64.wrap ((n : Int) * (j : Int))).tdiv (fs : Int)) = ((cutAt n fs j : Nat) : Int) := by
  have h1 : n * j ≤ 66000 * 5 := Nat.mul_le_mul hn hj
  have e1 : (n : Int) * (j : Int) = ((n * j : Nat) : Int) := by simp
  have h2 : n * j / fs ≤ n * j := Nat.div_le_self _ _
  unfold cutAt
  rw [e1]
  generalize n * j = a at *
  have e2 : IntKind.i64.wrap (a : Int) = (a : Int) := by rw [IntKind.wrap_i64]; omega
  rw [e2, Int.tdiv_eq_ediv_of_nonneg (by omega), ← Int.natCast_ediv]
  generalize a / fs = c at *
  rw [IntKind.wrap_i64]; omega
end Rep
namespace Rep
theorem made_at (z : Array Value) (hz : z.size = 7) (n k r : Nat) (v : Value) (hk : k < n) (hr : r < 7) (hv : z[r]? = some v) : (madeCells z (n * 7))[k * 7 + r]? = some v := by
  have hlt : k * 7 + r < n * 7 := by omega
  have hm : (k * 7 + r) % 7 = r := by omega
  unfold madeCells
  have e : z[r]! = v := by rw [getElem!_def, hv]
  simp [hlt, hz, hm, e]
theorem marks_new (w : World) (n : Nat) (t : TypeId) : Marks (w.alloc (.cells (madeCells (Value.agg #[.int .i64 0, .int .i64 0, .int .i64 0, .int .i64 0, .slice none 0 0, .slice none 0 0, .slice none 0 0]).cells (n * 7)) t)) w.heap.size n 0 := by
  have hc : ∀ k r v, k < n → r < 7 → (Value.agg #[.int .i64 0, .int .i64 0, .int .i64 0, .int .i64 0, .slice none 0 0, .slice none 0 0, .slice none 0 0]).cells[r]? = some v → (w.alloc (.cells (madeCells (Value.agg #[.int .i64 0, .int .i64 0, .int .i64 0, .int .i64 0, .slice none 0 0, .slice none 0 0, .slice none 0 0]).cells (n * 7)) t)).cell? ⟨w.heap.size, k * 7 + r, none⟩ = some v := fun k r v hk hr hv => by
    rw [World.cell?_alloc_at _ t _ _ rfl]
    exact made_at _ rfl n k r v hk hr hv
  exact ⟨fun k hk => by rw [if_neg (by omega)]; exact hc k 0 _ hk (by omega) rfl, fun k hk => hc k 1 _ hk (by omega) rfl, fun k hk => hc k 2 _ hk (by omega) rfl, fun k hk => hc k 3 _ hk (by omega) rfl, fun k hk => hc k 4 _ hk (by omega) rfl, fun k hk => hc k 5 _ hk (by omega) rfl, fun k hk => hc k 6 _ hk (by omega) rfl, fun o => World.frozen?_alloc_at _ _ _ _ rfl⟩
end Rep
set_option maxRecDepth 100000 in
set_option maxHeartbeats 4000000 in
theorem manyC {I : World → Prop} (C : WastC I) (z f g : Int) (w : World) (hI : I w) :
    Calls Tryd.prog 7 #[.int .i64 z, .int .i64 f, .int .i64 g] w fun e w' => e = .returned (.bool true) ∧ Below w.heap.size w w' := by
  have HI := hideM hI
  clear hI
  by_cases hbad : z < 0 ∨ 66000 < z ∨ f < 1 ∨ 5 < f ∨ g < 0 ∨ 80 < g
  · obtain ⟨B, hB⟩ : ∃ B : Bool, B = true := ⟨_, rfl⟩
    go_enter Tryd.func7, Tryd.ntmps7
    go_upto_region 1 with fail
    go_cut [36] from 15 to 36 (fun c wx => c = .bool true ∧ wx = w)
    case first =>
      by_cases g0 : z < 0
      · go_wp2_with fail
        go_meet
        exact ⟨rfl, rfl⟩
      by_cases g1 : 66000 < z
      · go_wp2_with fail
        go_meet
        exact ⟨rfl, rfl⟩
      by_cases g2 : f < 1
      · go_wp2_with fail
        go_meet
        exact ⟨rfl, rfl⟩
      by_cases g3 : 5 < f
      · go_wp2_with fail
        go_meet
        exact ⟨rfl, rfl⟩
      by_cases g4 : g < 0
      · go_wp2_with fail
        go_meet
        exact ⟨rfl, rfl⟩
      have g5 : 80 < g := by omega
      go_wp2_with fail
      go_meet
      exact ⟨rfl, rfl⟩
    obtain ⟨rfl, hwc⟩ := hcut
    obtain rfl : w = wc := hwc.symm
    go_wp2_with fail
    refine (pWakes C _ HI.out).mono ?_
    rintro e u5 ⟨rfl, hb⟩
    have HB := hideM hb
    clear hb
    go_wp2
    go_ret
    exact ⟨rfl, HB.out⟩
  obtain ⟨n, rfl⟩ : ∃ n : Nat, z = n := ⟨z.toNat, by omega⟩
  obtain ⟨fs, rfl⟩ : ∃ n : Nat, f = n := ⟨f.toNat, by omega⟩
  obtain ⟨dp, rfl⟩ : ∃ n : Nat, g = n := ⟨g.toNat, by omega⟩
  have hn : n ≤ 66000 := by omega
  have hf1 : 1 ≤ fs := by omega
  have hf5 : fs ≤ 5 := by omega
  have hd : dp ≤ 80 := by omega
  clear hbad
  go_enter Tryd.func7, Tryd.ntmps7
  go_upto_region 1 with fail
  go_cut [36] from 15 to 36 (fun c wx => c = .bool false ∧ wx = w)
  case first =>
    have t0 : decide ((n : Int) < 0) = false := decide_eq_false (by omega)
    have t1 : decide ((66000 : Int) < (n : Int)) = false := decide_eq_false (by omega)
    have t2 : decide ((fs : Int) < 1) = false := decide_eq_false (by omega)
    have t3 : decide ((5 : Int) < (fs : Int)) = false := decide_eq_false (by omega)
    have t4 : decide ((dp : Int) < 0) = false := decide_eq_false (by omega)
    have t5 : decide ((80 : Int) < (dp : Int)) = false := decide_eq_false (by omega)
    go_wp2_with fail
    go_meet
    exact ⟨rfl, rfl⟩
  obtain ⟨rfl, hwc⟩ := hcut
  obtain rfl : w = wc := hwc.symm
  obtain ⟨i0, hi, hz0, hz1, hz2⟩ := info_parts insInfo2
  have hmk := run_makeSlice (P := Tryd.prog) w 43 45 i0 _ Tryd.underlying43 hi hz0 .i64 .i64 (n : Int) (n : Int) (by omega) (by omega) (by rw [hz1]; omega) (by rw [hz2]; omega) (by omega)
  rw [Int.toNat_natCast, hz1] at hmk
  have HM0 := hideM (marks_new w n 45)
  generalize hcs : madeCells _ (n * 7) = cs at hmk HM0
  clear hcs hi hz0 hz1 hz2
  have HB0 := hideM (new_on w (.cells cs 45))
  go_wp2_with fail
  go_loopw [8] (fun i wr => ∃ j : Nat, j ≤ n ∧ i = .int .i64 j ∧ Hid (Marks wr w.heap.size n j) ∧ Hid (Below w.heap.size w wr) ∧ Hid (w.heap.size < wr.heap.size)) (fun i _ => n - (intOf i).toNat)
  case atStart => exact ⟨0, by omega, rfl, HM0, HB0, hideM (by simp)⟩
  case round =>
    obtain ⟨j, hj, rfl, HMk, HBk, HSk⟩ := hrel
    by_cases hgo : j < n
    · have k0 := HMk.out.op j hgo
      have f0 := HMk.out.fz (j * 7)
      have HMn := hideM (HMk.out.set hgo)
      have HBn := hideM (HBk.out.setCell (p := ⟨w.heap.size, j * 7, none⟩) (Nat.le_refl _) (.int .i64 1))
      have HSn : Hid (w.heap.size < (wr.setCell ⟨w.heap.size, j * 7, none⟩ (.int .i64 1)).heap.size) := hideM (by simpa using HSk.out)
      go_wp2
      go_roundw
      case rel => exact ⟨j + 1, by omega, by go_num, HMn, HBn, HSn⟩
      case measure => simp [intOf]; omega
    obtain rfl : n = j := by omega
    obtain ⟨w1, rfl⟩ : ∃ w1, w1 = wr := ⟨_, rfl⟩
    generalize hb0 : w.heap.size = b0 at *
    have HA0 := hideM (nest_start w1 45 w1.heap.size rfl)
    have HBa := hideM (new_on w1 (.cells #[.int .i64 1, .int .i64 0, .int .i64 0, .int .i64 0, .slice none 0 0, .slice none 0 0, .slice none 0 0] 45))
    go_wp2_with fail
    go_loopw [9, 10] (fun l i wr => ∃ j b : Nat, j ≤ dp ∧ i = .int .i64 j ∧ l = .slice (some ⟨b, 0, none⟩) 1 1 ∧ Hid (At wr (j + 1) (.slice (some ⟨b, 0, none⟩) 1 1) (nest j)) ∧ Hid (Below w1.heap.size w1 wr)) (fun _ i _ => dp - (intOf i).toNat)
    case atStart => exact ⟨0, _, by omega, rfl, rfl, HA0, HBa⟩
    case round =>
      obtain ⟨j, b, hj2, rfl, rfl, HA, HB⟩ := hrel
      by_cases hgo2 : j < dp
      · have HA2 := hideM (nest_new wr 45 j _ HA.out wr.heap.size rfl)
        have HB2 := hideM (below_go HB.out (new_on wr (.cells #[.int .i64 2, .int .i64 0, .int .i64 0, .int .i64 0, .slice none 0 0, .slice (some ⟨b, 0, none⟩) 1 1, .slice none 0 0] 45)))
        go_wp2
        go_roundw
        case rel => exact ⟨j + 1, _, by omega, by go_num, rfl, HA2, HB2⟩
        case measure => simp [intOf]; omega
      obtain rfl : dp = j := by omega
      obtain ⟨w2, rfl⟩ : ∃ w2, w2 = wr := ⟨_, rfl⟩
      go_upto_region 14 with fail
      obtain ⟨w3, hw3⟩ : ∃ w3, w3 = (w2.alloc (.cells #[.slice none 0 0, .slice none 0 0] 47)).alloc (.cells #[.slice (some ⟨w2.heap.size, 0, none⟩) 1 1, .slice none 0 0, .slice none 0 0, .slice none 0 0, .slice none 0 0, .slice none 0 0, .slice none 0 0, .slice none 0 0, .slice none 0 0, .slice none 0 0] 36) := ⟨_, rfl⟩
      have HBW : Hid (Below w2.heap.size w2 w3) := hideM (by rw [hw3]; exact below_go (new_on _ _) (new_on _ _))
      have HBL : Hid (Blk10 w3 (w2.heap.size + 1) w2.heap.size (.slice none 0 0)) := hideM (by rw [hw3]; unfold Blk10; have := heap_alloc_new (w2.alloc (.cells #[.slice none 0 0, .slice none 0 0] 47)) (.cells #[.slice (some ⟨w2.heap.size, 0, none⟩) 1 1, .slice none 0 0, .slice none 0 0, .slice none 0 0, .slice none 0 0, .slice none 0 0, .slice none 0 0, .slice none 0 0, .slice none 0 0, .slice none 0 0] 36); simpa using this)
      have HMk3 : Hid (Marks w2 b0 n n) := hideM (HMk.out.on HB.out HSk.out)
      have HB12 := hideM (HBk.out.trans (HB.out.mono (Nat.le_of_lt HSk.out)))
      have HFT : Hid (FTAt w3 w2.heap.size 0 ⟨[], []⟩) := hideM (by
        have h1 : FTAt (w2.alloc (.cells #[.slice none 0 0, .slice none 0 0] 47)) w2.heap.size 0 ⟨[], []⟩ := ⟨⟨_, cell_new _ _ _ _ _ _ rfl rfl, row_nil _ _⟩, ⟨_, cell_new _ _ _ _ _ _ rfl rfl, row_nil _ _⟩⟩
        rw [hw3]
        exact h1.on (new_on _ _))
      have HSZ : Hid (w3.heap.size = w2.heap.size + 2) := hideM (by rw [hw3]; simp)
      rw [← hw3]
      clear hw3
      generalize hT : w2.heap.size = T at *
      obtain ⟨M, hM⟩ : ∃ M, M = T + 1 := ⟨_, rfl⟩
      rw [← hM] at HBL ⊢
      have HMM := hideM hM
      clear hM
      obtain ⟨i2, hi2, hy0, hy1, hy2⟩ := info_parts funInfo
      go_wp2_with fail
      go_loopw [12] (fun i wx => ∃ (j : Nat) (svs : List (Value × Nat)) (o : Option Addr) (c : Nat), j ≤ fs ∧ i = .int .i64 j ∧ svs.length = j ∧ Hid (Blk10 wx M T (.slice o j c)) ∧ Hid (wx.ownsRow (M + 1) 49 3 (.slice o j c) j (svs.flatMap fc3)) ∧ Hid (svs.map (·.2) = (List.range j).map (lenAt n fs)) ∧ Hid (∀ q ∈ svs, ∃ oq cq, q.1 = .slice oq q.2 cq ∧ Row 7 (InsAt w2 (At w2 dp)) q.1 (nops dp q.2)) ∧ Hid (Below M w3 wx) ∧ Hid (M < wx.heap.size)) (fun i _ => fs - (intOf i).toNat)
      case atStart => exact ⟨0, [], none, 0, by omega, rfl, rfl, HBL, hideM (World.ownsRow_nil _ _ _ _), hideM rfl, hideM (fun q hq => by cases hq), hideM (Below.refl _ _), hideM (by have := HSZ.out; have := HMM.out; omega)⟩
      case round =>
        obtain ⟨j, svs, o, c, hj3, rfl, hsl, HBK, HO, HMp, HR, HBx, HSx⟩ := hrel
        by_cases hgo3 : j < fs
        · have k2 := HBK.out.cell 2 _ rfl
          obtain ⟨lo, hlo⟩ : ∃ lo, lo = cutAt n fs j := ⟨_, rfl⟩
          obtain ⟨hi', hhi⟩ : ∃ hi', hi' = cutAt n fs (j + 1) := ⟨_, rfl⟩
          have hl1 : lo ≤ hi' := by rw [hlo, hhi]; exact cutAt_mono n fs j
          have hl2 : hi' ≤ n := by rw [hhi]; exact cutAt_le n fs (j + 1) (by omega) hf1
          have hq1 : IntKind.i64.wrap ((IntKind.i64.wrap ((n : Int) * (j : Int))).tdiv (fs : Int)) = (lo : Int) := by rw [hlo]; exact quo_at n j fs hn (by omega) hf1
          have hq2 : IntKind.i64.wrap ((IntKind.i64.wrap ((n : Int) * ((j : Int) + 1))).tdiv (fs : Int)) = (hi' : Int) := by rw [hhi]; exact quo_at n (j + 1) fs hn (by omega) hf1
          have hq3 : IntKind.i64.wrap ((j : Int) + 1) = (j : Int) + 1 := by rw [IntKind.wrap_i64]; omega
          have hf0 : ¬ fs = 0 := by omega
          obtain ⟨ao, hao⟩ : ∃ ao : Option Addr, (if n = lo then some (⟨b0, 0, none⟩ : Addr) else some (⟨b0, lo * 7, none⟩ : Addr)) = ao := ⟨_, rfl⟩
          have HRow : Hid (Row 7 (InsAt w2 (At w2 dp)) (.slice ao (hi' - lo) (n - lo)) (nops dp (hi' - lo))) := hideM (by
            have hMk := HMk3.out
            by_cases hnl : n = lo
            · rw [← hao, if_pos hnl, show hi' - lo = 0 by omega]
              exact ⟨by simp [nops], .inl ⟨rfl, _, _, rfl⟩⟩
            · rw [← hao, if_neg hnl]
              exact hMk.row dp lo (hi' - lo) (n - lo) (by omega) (by omega))
          have HLE : Hid (hi' - lo = lenAt n fs j) := hideM (by unfold lenAt; rw [hlo, hhi])
          have HOd := hideM ((HO.out.alloc (.cells #[.int .i64 0, .slice none 0 0, .slice ao (hi' - lo) (n - lo)] 49)).drew)
          have HNc : Hid (∀ (jx : Nat) (ux : Value), ([Value.int .i64 0, .slice none 0 0, .slice ao (hi' - lo) (n - lo)] : List Value)[jx]? = some ux → ((wr.alloc (.cells #[.int .i64 0, .slice none 0 0, .slice ao (hi' - lo) (n - lo)] 49)).drew).cell? ((⟨wr.heap.size, 0, none⟩ : Addr).add jx) = some ux) := hideM (fun jx ux hx => by
            rw [add_addr, Nat.zero_add]
            show (wr.alloc (.cells #[.int .i64 0, .slice none 0 0, .slice ao (hi' - lo) (n - lo)] 49)).cell? _ = _
            rw [World.cell?_alloc_at _ _ _ _ rfl, ← hx]
            exact List.getElem?_toArray)
          have HAo : Hid (∀ w' v', ((wr.alloc (.cells #[.int .i64 0, .slice none 0 0, .slice ao (hi' - lo) (n - lo)] 49)).drew).grownBy w' (Value.slice o j c).ownBlock → w'.ownsRow (M + 1) 49 3 v' (j + 1) (svs.flatMap fc3 ++ [Value.int .i64 0, .slice none 0 0, .slice ao (hi' - lo) (n - lo)]) → ∃ o' c', v' = .slice o' (j + 1) c' ∧ Blk10 w' M T (.slice o j c) ∧ Grew w3 M T (j + 1) (svs ++ [(.slice ao (hi' - lo) (n - lo), hi' - lo)]) (w'.setCell ⟨M, 2, none⟩ v')) := hideM (fun w' v' hg hown => by
            obtain ⟨o', c', rfl⟩ := own_slice hown
            have hne : some M ≠ (Value.slice o j c).ownBlock := fun e => by have := (HO.out.lt M e.symm).1; omega
            have hbk : Blk10 w' M T (.slice o j c) := HBK.out.keep (by rw [hg.block M (by have := HSx.out; simp; omega) hne]; exact (Below.heap_alloc wr _ M HSx.out))
            refine ⟨o', c', rfl, hbk, o', c', hbk.set _, ?_, ?_, ?_⟩
            · have h1 := ownsRow_setCell_below hown (a := ⟨M, 2, none⟩) (by show M < M + 1; omega) (.slice o' (j + 1) c')
              rw [List.flatMap_append]
              simpa [fc3] using h1
            · have hb1 : Below M w3 ((wr.alloc (.cells #[.int .i64 0, .slice none 0 0, .slice ao (hi' - lo) (n - lo)] 49)).drew) := (HBx.out.alloc (by have := HSx.out; omega) _).drew
              have hb2 : Below M w3 w' := hb1.grown hg (by have := HSx.out; simp; omega) fun k hk => by have := (HO.out.lt k hk).1; omega
              exact hb2.setCell (Nat.le_refl _) _
            · have := hg.size
              have := HSx.out
              simp at *
              omega)
          clear hlo hhi
          have hSx := HSx.out
          go_upto_region 17 with fail
          go_region_law (refine step_appS rfl (.tmp 68) (.tmp 83) 28 rfl (M + 1) 49 i2 _ 3 56 Tryd.underlying28 hi2 hy0 hy1 hy2 rfl (by decide) (.slice o j c) j (svs.flatMap fc3) (by simp [Act.eval]) HOd.out (some ⟨wr.heap.size, 0, none⟩) 1 1 [Value.int .i64 0, .slice none 0 0, .slice ao (hi' - lo) (n - lo)] (by simp [Act.eval]) (fun h => by cases h) rfl (fun ad h => by injection h with h; subst h; exact HNc.out) (by simp; exact ⟨rfl, rfl, rfl⟩) (by unfold maxLen; omega) (by omega) (by have := HSx.out; simp; omega) ?_; intro v' w' hown hg _; obtain ⟨o', c', rfl, hbk, hgr⟩ := HAo.out w' v' hg hown; have k2' := hbk.cell 2 _ rfl; have f2' := hbk.frz 2; have HGR := hideM hgr)
          all_goals (obtain ⟨oG, cG, GB, GO, GW, GS⟩ := HGR.out)
          all_goals (have HGB := hideM GB; have HGO := hideM GO; have HGW := hideM GW; have HGS := hideM GS)
          all_goals (have HMp2 : Hid ((svs ++ [(Value.slice ao (hi' - lo) (n - lo), hi' - lo)]).map (·.2) = (List.range (j + 1)).map (lenAt n fs)) := hideM (by rw [List.map_append, HMp.out, List.range_succ, List.map_append]; simp [HLE.out]))
          all_goals (have HR2 : Hid (∀ q ∈ svs ++ [(Value.slice ao (hi' - lo) (n - lo), hi' - lo)], ∃ oq cq, q.1 = .slice oq q.2 cq ∧ Row 7 (InsAt w2 (At w2 dp)) q.1 (nops dp q.2)) := hideM (fun q hq => by
            rcases List.mem_append.1 hq with hq | hq
            · exact HR.out q hq
            · rw [List.mem_singleton.1 hq]; exact ⟨_, _, rfl, HRow.out⟩))
          all_goals (clear HMp HR HRow HLE HO HBK HBx HSx HOd HNc HAo hSx hq1 hq2 hq3 hf0 hao k2 GB GO GW GS hbk hgr hown hg k2' f2' HGR)
          all_goals (go_wp2; go_roundw; (case rel => exact ⟨j + 1, _, oG, cG, by omega, by go_num, by simp [hsl], HGB, HGO, HMp2, HR2, HGW, HGS⟩); (case measure => simp [intOf]; omega))
        obtain rfl : fs = j := by omega
        obtain ⟨wx, rfl⟩ : ∃ wx, wx = wr := ⟨_, rfl⟩
        have k2 := HBK.out.cell 2 _ rfl
        have HOa := hideM (HO.out.alloc (.cells #[.int .i64 0, .slice none 0 0, .slice (some ⟨b, 0, none⟩) 1 1] 49))
        have HNc : Hid (∀ (jx : Nat) (ux : Value), ([Value.int .i64 0, .slice none 0 0, .slice (some ⟨b, 0, none⟩) 1 1] : List Value)[jx]? = some ux → (wx.alloc (.cells #[.int .i64 0, .slice none 0 0, .slice (some ⟨b, 0, none⟩) 1 1] 49)).cell? ((⟨wx.heap.size, 0, none⟩ : Addr).add jx) = some ux) := hideM (fun jx ux hx => by
          rw [add_addr, Nat.zero_add, World.cell?_alloc_at _ _ _ _ rfl, ← hx]
          exact List.getElem?_toArray)
        have hSx := HSx.out
        have hMp : M + 1 ≤ wx.heap.size + 1 := by omega
        have HSum : Hid ((svs.map (·.2)).sum = n) := hideM (by rw [HMp.out, sum_cut n fs fs hf1 (Nat.le_refl _), cutAt_all n fs hf1])
        have HLn : Hid ((svs.map (·.2)).length ≤ 5) := hideM (by rw [List.length_map, hsl]; exact hf5)
        go_wp2_with (first | (at_builtin; refine wpList_appS rfl _ _ 28 rfl (M + 1) 49 i2 _ 3 56 Tryd.underlying28 hi2 hy0 hy1 hy2 rfl (by decide) _ _ _ rfl HOa.out (some ⟨wx.heap.size, 0, none⟩) 1 1 [Value.int .i64 0, .slice none 0 0, .slice (some ⟨b, 0, none⟩) 1 1] rfl ?c6 ?c0 ?c1 ?c2 ?c3 ?c4 ?c5 ?_))
        case c6 => intro h; cases h
        case c0 => rfl
        case c1 => exact fun ad h => by injection h with h; subst h; exact HNc.out
        case c2 => simp; exact ⟨rfl, rfl, rfl⟩
        case c3 => unfold maxLen; omega
        case c4 => omega
        case c5 => simp; omega
        intro v' w9 hown9 hg9 _
        obtain ⟨o', c', rfl⟩ := own_slice hown9
        have hne : some M ≠ (Value.slice o fs c).ownBlock := fun e => by have := (HO.out.lt M e.symm).1; omega
        have HBK9 : Hid (Blk10 w9 M T (.slice o fs c)) := hideM (HBK.out.keep (by rw [hg9.block M (by simp; omega) hne]; exact (Below.heap_alloc wx _ M hSx)))
        have HB9 : Hid (Below M w3 w9) := hideM ((HBx.out.alloc (by omega) _).grown hg9 (by simp; omega) fun k hk => by have := (HO.out.lt k hk).1; omega)
        have k2' := HBK9.out.cell 2 _ rfl
        have f2' := HBK9.out.frz 2
        have HWF : Hid (Blk10 (w9.setCell ⟨M, 2, none⟩ (.slice o' (fs + 1) c')) M T (.slice o' (fs + 1) c')) := hideM (HBK9.out.set _)
        have HOF : Hid ((w9.setCell ⟨M, 2, none⟩ (.slice o' (fs + 1) c')).ownsRow (M + 1) 49 3 (.slice o' (fs + 1) c') (fs + 1) (svs.flatMap fc3 ++ [Value.int .i64 0, .slice none 0 0, .slice (some ⟨b, 0, none⟩) 1 1])) := hideM (ownsRow_setCell_below hown9 (a := ⟨M, 2, none⟩) (by show M < M + 1; omega) _)
        have HB3F : Hid (Below M w3 (w9.setCell ⟨M, 2, none⟩ (.slice o' (fs + 1) c'))) := hideM (HB9.out.setCell (Nat.le_refl _) _)
        clear hown9 hg9 hne HBK9 HB9 HOa HNc
        go_upto_region 19 with fail
        obtain ⟨wf, hwf⟩ : ∃ wf, wf = w9.setCell ⟨M, 2, none⟩ (.slice o' (fs + 1) c') := ⟨_, rfl⟩
        rw [← hwf] at HWF HOF HB3F ⊢
        clear hwf k2' f2' k2
        have HB2F : Hid (Below T w2 wf) := hideM (HBW.out.trans (HB3F.out.mono (by have := HMM.out; omega)))
        have HBf : Hid (Below b0 w wf) := hideM (HB12.out.trans (HB2F.out.mono (by have := HB12.out.size; have := HB.out.size; have := HSk.out; omega)))
        have HT : Hid (Ten M (.slice (some ⟨T, 0, none⟩) 1 1) (.slice none 0 0) (.slice o' (fs + 1) c') (.slice none 0 0) (.slice none 0 0) (.slice none 0 0) (.slice none 0 0) (.slice none 0 0) (.slice none 0 0) (.slice none 0 0) wf) := hideM ⟨HWF.out.cell 0 _ rfl, HWF.out.cell 1 _ rfl, HWF.out.cell 2 _ rfl, HWF.out.cell 3 _ rfl, HWF.out.cell 4 _ rfl, HWF.out.cell 5 _ rfl, HWF.out.cell 6 _ rfl, HWF.out.cell 7 _ rfl, HWF.out.cell 8 _ rfl, HWF.out.cell 9 _ rfl⟩
        have HMod : Hid (ModAt wf (dp + 1) (.slice (some ⟨T, 0, none⟩) 1 1) (.slice none 0 0) (.slice o' (fs + 1) c') (.slice none 0 0) (.slice none 0 0) (.slice none 0 0) (.slice none 0 0) (.slice none 0 0) (.slice none 0 0) (.slice none 0 0) (mMany dp (svs.map (·.2)))) := hideM (mod_many HFT.out HB3F.out (by have := HMM.out; omega) (by rw [hT]; exact HB2F.out) HA.out HR.out hsl HOF.out (by omega))
        have HOk : Hid (ModOk (.slice none 0 0) (.slice none 0 0) (mMany dp (svs.map (·.2)))) := hideM ⟨by omega, by simp [mMany], ⟨by simp [mMany], by simp [mMany]⟩, by simp, by simp⟩
        have HK := hideM (chk_many dp (svs.map (·.2)) HLn.out)
        have HC := hideM (cnt_many dp (svs.map (·.2)))
        have HIf : Hid (I wf) := hideM (C.keep (by rw [hb0]; exact HBf.out) HI.out)
        have HBf : Hid (Below w.heap.size w wf) := hideM (by rw [hb0]; exact HBf.out)
        clear HWF HOF HB3F HB2F HR HO HBK HBx HSx HMp hSx hMp
        clear hT hsl hb0 hj hj2 hj3 hgo hgo2 hgo3 hi2 hy0 hy1 hy2 hwc
        by_cases hm1 : 65536 < n + dp + 1
        · have HV : Hid (chk (mMany dp (svs.map (·.2))) = 3) := hideM (by rw [HK.out, HSum.out]; rw [if_pos hm1])
          have HN : Hid (((cntM (dp + 1) (mMany dp (svs.map (·.2))).funcs : Nat) : Int) = 65537) := hideM (by rw [HC.out, HSum.out]; omega)
          have tm : decide ((65536 : Int) < (n : Int) + (dp : Int) + 1) = true := decide_eq_true (by omega)
          clear hm1
          obtain ⟨q0, q1, q2, q3, q4, q5, q6, q7, q8, q9⟩ := HT.out
          go_wp2_with fail
          refine (pCheckC C (dp + 1) _ _ _ _ _ _ _ _ _ _ (mMany dp (svs.map (·.2))) _ HIf.out HMod.out HOk.out).mono ?_
          rintro e u3 ⟨rfl, hb⟩
          rw [HV.out]
          clear q0 q1 q2 q3 q4 q5 q6 q7 q8 q9
          have HT := hideM (HT.out.on hb)
          have HMod := hideM (HMod.out.on hb)
          have HIf := hideM (C.keep hb HIf.out)
          have HBf := hideM (below_go HBf.out hb)
          clear hb
          obtain ⟨q0, q1, q2, q3, q4, q5, q6, q7, q8, q9⟩ := HT.out
          go_wp2_with fail
          refine (pCount (dp + 1) (by omega) _ _ _ _ _ _ _ _ _ _ (mMany dp (svs.map (·.2))).funcs _ HMod.out.funcs HMod.out.ten).mono ?_
          rintro e u4 ⟨rfl, hb⟩
          rw [HN.out]
          clear q0 q1 q2 q3 q4 q5 q6 q7 q8 q9
          have HIf := hideM (C.keep hb HIf.out)
          have HBf := hideM (below_go HBf.out hb)
          clear hb
          go_wp2_with fail
          refine (pWakes C _ HIf.out).mono ?_
          rintro e u5 ⟨rfl, hb⟩
          have HBf := hideM (below_go HBf.out hb)
          clear hb
          go_wp2
          go_ret
          exact ⟨rfl, HBf.out⟩
        by_cases hm2 : 64 < dp
        · have HV : Hid (chk (mMany dp (svs.map (·.2))) = 4) := hideM (by rw [HK.out, HSum.out]; rw [if_neg hm1, if_pos hm2])
          have HN : Hid (((cntM (dp + 1) (mMany dp (svs.map (·.2))).funcs : Nat) : Int) = ((n : Int) + (dp : Int) + 1)) := hideM (by rw [HC.out, HSum.out]; omega)
          have tm : decide ((65536 : Int) < (n : Int) + (dp : Int) + 1) = false := decide_eq_false (by omega)
          have td : decide ((64 : Int) < (dp : Int)) = true := decide_eq_true (by omega)
          clear hm1 hm2
          obtain ⟨q0, q1, q2, q3, q4, q5, q6, q7, q8, q9⟩ := HT.out
          go_wp2_with fail
          refine (pCheckC C (dp + 1) _ _ _ _ _ _ _ _ _ _ (mMany dp (svs.map (·.2))) _ HIf.out HMod.out HOk.out).mono ?_
          rintro e u3 ⟨rfl, hb⟩
          rw [HV.out]
          clear q0 q1 q2 q3 q4 q5 q6 q7 q8 q9
          have HT := hideM (HT.out.on hb)
          have HMod := hideM (HMod.out.on hb)
          have HIf := hideM (C.keep hb HIf.out)
          have HBf := hideM (below_go HBf.out hb)
          clear hb
          obtain ⟨q0, q1, q2, q3, q4, q5, q6, q7, q8, q9⟩ := HT.out
          go_wp2_with fail
          refine (pCount (dp + 1) (by omega) _ _ _ _ _ _ _ _ _ _ (mMany dp (svs.map (·.2))).funcs _ HMod.out.funcs HMod.out.ten).mono ?_
          rintro e u4 ⟨rfl, hb⟩
          rw [HN.out]
          clear q0 q1 q2 q3 q4 q5 q6 q7 q8 q9
          have HIf := hideM (C.keep hb HIf.out)
          have HBf := hideM (below_go HBf.out hb)
          clear hb
          go_wp2_with fail
          refine (pWakes C _ HIf.out).mono ?_
          rintro e u5 ⟨rfl, hb⟩
          have HBf := hideM (below_go HBf.out hb)
          clear hb
          go_wp2
          go_ret
          exact ⟨rfl, HBf.out⟩
        · have HV0 : True := trivial
          have HV : Hid (chk (mMany dp (svs.map (·.2))) = 0) := hideM (by rw [HK.out, HSum.out]; rw [if_neg hm1, if_neg hm2])
          have HN : Hid (((cntM (dp + 1) (mMany dp (svs.map (·.2))).funcs : Nat) : Int) = ((n : Int) + (dp : Int) + 1)) := hideM (by rw [HC.out, HSum.out]; omega)
          have tm : decide ((65536 : Int) < (n : Int) + (dp : Int) + 1) = false := decide_eq_false (by omega)
          have td : decide ((64 : Int) < (dp : Int)) = false := decide_eq_false (by omega)
          clear hm1 hm2
          obtain ⟨q0, q1, q2, q3, q4, q5, q6, q7, q8, q9⟩ := HT.out
          go_wp2_with fail
          refine (pCheckC C (dp + 1) _ _ _ _ _ _ _ _ _ _ (mMany dp (svs.map (·.2))) _ HIf.out HMod.out HOk.out).mono ?_
          rintro e u3 ⟨rfl, hb⟩
          rw [HV.out]
          clear q0 q1 q2 q3 q4 q5 q6 q7 q8 q9
          have HT := hideM (HT.out.on hb)
          have HMod := hideM (HMod.out.on hb)
          have HIf := hideM (C.keep hb HIf.out)
          have HBf := hideM (below_go HBf.out hb)
          clear hb
          obtain ⟨q0, q1, q2, q3, q4, q5, q6, q7, q8, q9⟩ := HT.out
          go_wp2_with fail
          refine (pCount (dp + 1) (by omega) _ _ _ _ _ _ _ _ _ _ (mMany dp (svs.map (·.2))).funcs _ HMod.out.funcs HMod.out.ten).mono ?_
          rintro e u4 ⟨rfl, hb⟩
          rw [HN.out]
          clear q0 q1 q2 q3 q4 q5 q6 q7 q8 q9
          have HIf := hideM (C.keep hb HIf.out)
          have HBf := hideM (below_go HBf.out hb)
          clear hb
          go_wp2_with fail
          refine (pWakes C _ HIf.out).mono ?_
          rintro e u5 ⟨rfl, hb⟩
          have HBf := hideM (below_go HBf.out hb)
          clear hb
          go_wp2
          go_ret
          exact ⟨rfl, HBf.out⟩
end Go.Proofs.YtmedpblpcfobdaaDoor

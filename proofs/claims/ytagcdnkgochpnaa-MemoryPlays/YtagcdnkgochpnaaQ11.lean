/- The law: calls one behind the other. -/
import Derived.Test.YtagcdnkgochpnaaQ10
namespace Go.Proofs.Ytagcdnkgochpnaa
open Go.RowKit Mm Rep
set_option linter.unusedVariables false
namespace Mm
theorem cells3 {w u : World} {v0 v1 v2 : Value} {t : TypeId} (hu : Below (w.alloc (.cells #[v0, v1, v2] t)).heap.size (w.alloc (.cells #[v0, v1, v2] t)) u) :
    u.cell? ⟨w.heap.size, 0, none⟩ = some v0 ∧ u.cell? ⟨w.heap.size, 1, none⟩ = some v1 ∧ u.cell? ⟨w.heap.size, 2, none⟩ = some v2 := by
  have h1 : (w.alloc (.cells #[v0, v1, v2] t)).heap.size = w.heap.size + 1 := by show (w.heap.push _).size = _; simp
  have h3 : u.heap[w.heap.size]? = some (.cells #[v0, v1, v2] t) := by rw [hu.block _ (by omega)]; exact Go.Deep.blk_alloc_new _ _
  refine ⟨?_, ?_, ?_⟩ <;> (unfold World.cell?; rw [h3]; rfl)
/-- both made anew: a pair -/
theorem new_pair {w W w1 w2 : World} {k b r c s : Nat} {mo : Int} {p : Nat} {Z Z' : List Int} (hB0 : Below w.heap.size w W) (hk : k < W.heap.size) (hm : Mem w1 b r mo p Z) (hb : W.heap.size ≤ b) (hr : W.heap.size ≤ r) (hz : Z = List.replicate (p * 65536) 0) (hB1 : Below W.heap.size W w1)
    (hq : RM w2 c s mo p Z' []) (hc : w1.heap.size ≤ c) (hs : w1.heap.size ≤ s) (hz' : Z' = List.replicate (p * 65536) 0) (hB2 : Below w1.heap.size w1 w2) : Pair w k (.pointer (some ⟨b, 0, none⟩)) (.pointer (some ⟨c, 0, none⟩)) w2 := by
  have e : Z' = Z := hz'.trans hz.symm
  subst e
  have l1 := hm.lt
  have l2 := hm.ltr
  have l3 := hB0.size
  have l4 := hB1.size
  exact ⟨bel_on (bel_on hB0 hB1) hB2, .inr ⟨b, r, c, s, mo, p, Z', [], rfl, rfl, ⟨hm.on0 hB2, hq, by omega, by omega, by omega, by omega, by omega, by omega, by omega, by omega, by omega, by omega, by omega, by omega⟩⟩⟩
theorem wrap_u64_bd (x : Int) : 0 ≤ IntKind.u64.wrap x ∧ IntKind.u64.wrap x ≤ 18446744073709551615 := by
  show 0 ≤ x % 18446744073709551616 ∧ x % 18446744073709551616 ≤ 18446744073709551615
  omega
/-- the first eight bytes, of both -/
theorem load8 {b r c s : Nat} {mo : Int} {pg : Nat} {bs : List Int} {ex : List Value} (hbd : ∀ x ∈ bs, 0 ≤ x ∧ x ≤ 255) : ∃ (x8 : Int) (ok : Bool), (0 ≤ x8 ∧ x8 ≤ 18446744073709551615) ∧ (∀ u, RM u c s mo pg bs ex → Calls Try.prog 11 #[.pointer (some ⟨c, 0, none⟩), .int .u64 0, .int .i64 8] u fun e w1 => e = .returned (.tuple #[.int .u64 x8, .bool ok]) ∧ w1 = u) ∧
    ∀ u, Mem u b r mo pg bs → Calls Try.prog 16 #[.pointer (some ⟨b, 0, none⟩), .int .u64 0, .int .i64 8] u fun e w1 => e = .returned (.tuple #[.int .u64 x8, .bool ok]) ∧ w1 = u := by
  cases hc : fits bs.length 0 8 with
  | false => exact ⟨0, false, by omega, fun u h => qLoadN h 0 8 (by omega) (by omega) (by rw [show Int.toNat 8 = 8 from rfl, hc]; rfl), fun u h => mLoadN h 0 8 (by omega) (by rw [show Int.toNat 8 = 8 from rfl, hc]; rfl)⟩
  | true =>
    refine ⟨_, true, ?_, fun u h => qLoadY h 0 8 (by omega) hc, fun u h => mLoadY h 0 8 (by omega) hc⟩
    have hb := le_bd ((bs.drop 0).take 8) (fun y hy => hbd y (List.mem_of_mem_drop (List.mem_of_mem_take hy)))
    have hl : ((bs.drop 0).take 8).length = 8 := by have := of_decide_eq_true hc; rw [List.length_take, List.length_drop]; omega
    rw [hl] at hb
    have : (256 : Int) ^ 8 = 18446744073709551616 := rfl
    omega
def LoopI (w : World) (mv qv fv iv : Value) (wr : World) (n : Nat) : Prop := ∃ j c k : Nat, j ≤ n ∧ c ≤ 4 ∧ fv = .int .i64 c ∧ iv = .int .i64 j ∧ Pair w k mv qv wr
end Mm
set_option maxRecDepth 100000 in
set_option maxHeartbeats 4000000 in
theorem memPlays (mi ma : Int) (has : Bool) (v : Value) (l : List St) (w : World) (hl : Row 5 (StAt w) v l) :
    Calls Try.prog 3 #[.agg #[.int .i64 mi, .int .i64 ma, .bool has], v] w fun e w' => e = .returned (.bool true) ∧ Below w.heap.size w w' := by
  obtain ⟨o, cap, rfl⟩ := hl.len
  have HL := hideR hl
  have hlen := hl.1
  clear hl
  generalize hn : l.length = n at *
  have hB0 : Below w.heap.size w (w.alloc (.cells #[.int .i64 mi, .int .i64 ma, .bool has] 23)) := (Below.refl _ _).alloc (Nat.le_refl _) _
  have hkW : w.heap.size < (w.alloc (.cells #[.int .i64 mi, .int .i64 ma, .bool has] 23)).heap.size := by show _ < (w.heap.push _).size; simp
  have HB0 := hideR hB0
  have HK := hideR hkW
  clear hB0 hkW
  by_cases hv : 0 ≤ mi ∧ mi ≤ 32
  · obtain ⟨p, rfl⟩ := Int.eq_ofNat_of_zero_le hv.1
    have HN := hideR (mNew (w := w.alloc (.cells #[.int .i64 p, .int .i64 ma, .bool has] 23)) p ma has (by omega))
    have HQ := fun u => hideR (qNew (w := u) p ma has (by omega))
    generalize mostp p ma has = mo at *
    go_enter Try.func3, Try.ntmps3
    go_wp2_with fail
    refine HN.out.mono ?_
    rintro e w1 ⟨⟨mv, rfl, b, r, Z, rfl, hb, hr, hm, hz⟩, hB1⟩
    obtain ⟨c0, c1, c2⟩ := cells3 hB1
    have H1 := hideR (And.intro hm (And.intro hb (And.intro hr (And.intro hz.out hB1))))
    clear hm hb hr hz hB1 HN
    go_wp2_with fail
    refine (HQ _).out.mono ?_
    rintro e w2 ⟨⟨c, s, Z', rfl, hc, hs, hq, hz'⟩, hB2⟩
    have hP := new_pair HB0.out HK.out H1.out.1 H1.out.2.1 H1.out.2.2.1 H1.out.2.2.2.1 H1.out.2.2.2.2 hq hc hs hz'.out hB2
    have HP := hideR hP
    clear hc hs hq hz' hB2 hP H1 HQ HB0 HK c0 c1 c2
    go_wp2_with fail
    go_loopw [5, 7, 9, 10] (fun m q f i wr => Hid (LoopI w m q f i wr n)) (fun _ _ _ i _ => n - (intOf i).toNat)
    case atStart => exact ⟨0, 0, _, Nat.zero_le _, Nat.zero_le _, rfl, rfl, HP.out⟩
    case round =>
      clear HP
      obtain ⟨j, c, k, hj, hc, rfl, rfl, hP⟩ := hrel.out
      have HP := hideR hP
      clear hrel hP
      by_cases hgo : j < n ∧ j < 60
      · obtain ⟨B, off, cap', hv, hx⟩ := HL.out.some (by rw [hn]; omega)
        injection hv with h1 h2 h3
        subst h1
        clear h2 h3
        obtain ⟨x, hxj⟩ : ∃ x, l[j]? = some x := ⟨_, List.getElem?_eq_getElem (by rw [hn]; omega)⟩
        have hS := (hx j x hxj).on HP.out.1
        clear hx hxj
        obtain ⟨kd, at_, nn, vv, tt⟩ := x
        have ck := hS.kd
        have ca := hS.at_
        have cn := hS.n
        have cv := hS.v
        have ct := hS.t
        have HPL := hideR (playsC HP.out kd at_ nn vv tt hS.ha hS.hn hS.hv hS.ht)
        have hgo1 : j < n := hgo.1
        have dj : decide ((j : Int) < 60) = true := decide_eq_true (by omega)
        clear hS hgo
        simp only at ck ca cn cv ct
        by_cases h5 : kd = 5
        · subst h5
          by_cases hc4 : c < 4
          · have dc : decide ((c : Int) < 4) = true := decide_eq_true (by omega)
            rcases HP.out.2 with ⟨rfl, rfl⟩ | ⟨b, r, c', s, mo', pg, bs, ex, rfl, rfl, h2⟩
            · go_wp2_with (go_at_call 18; refine HPL.out.mono ?_; rintro e w2 ⟨rfl, k', hp⟩; have HP2 := hideR hp; clear hp)
              go_roundw
              case rel => exact ⟨j + 1, c, k', by omega, hc, rfl, by go_num, HP2.out⟩
              case measure => simp [intOf]; omega
            · have H2 := hideR h2
              clear h2 HPL
              have hl8 : ∃ (x8 : Int) (ok : Bool), (0 ≤ x8 ∧ x8 ≤ 18446744073709551615) ∧ (∀ u, RM u c' s mo' pg bs ex → Calls Try.prog 11 #[.pointer (some ⟨c', 0, none⟩), .int .u64 0, .int .i64 8] u fun e w1 => e = .returned (.tuple #[.int .u64 x8, .bool ok]) ∧ w1 = u) ∧ ∀ u, Mem u b r mo' pg bs → Calls Try.prog 16 #[.pointer (some ⟨b, 0, none⟩), .int .u64 0, .int .i64 8] u fun e w1 => e = .returned (.tuple #[.int .u64 x8, .bool ok]) ∧ w1 = u := load8 H2.out.m.bd
              obtain ⟨x8, ok, hx8, hLq, hLm⟩ := hl8
              obtain ⟨y8, hy8⟩ : ∃ y8, y8 = IntKind.u64.wrap (x8 + 1) := ⟨_, rfl⟩
              have hyb : 0 ≤ y8 ∧ y8 ≤ 18446744073709551615 := by rw [hy8]; exact wrap_u64_bd _
              have hy1 : IntKind.u64.wrap (x8 + 1) = y8 := hy8.symm
              have HLQ := hideR hLq
              have HLM := hideR hLm
              clear hLq hLm hy8
              go_wp2_with fail
              refine (qPages H2.out.q).mono ?_
              rintro e w' ⟨rfl, rfl⟩
              go_wp2_with fail
              refine (HLQ.out _ H2.out.q).mono ?_
              rintro e w' ⟨rfl, rfl⟩
              go_wp2_with fail
              refine (mFork H2.out.m).mono ?_
              rintro e w1 ⟨⟨b1, r1, rfl, hb1, hr1, hm1⟩, hB1⟩
              have H3 := hideR (And.intro hm1 (And.intro hb1 (And.intro hr1 hB1)))
              have HF := hideR (qFork (H2.out.q.on0 hB1))
              clear hm1 hb1 hr1 hB1
              go_wp2_with fail
              refine HF.out.mono ?_
              rintro e w2 ⟨⟨c1, s1, ex1, rfl, hc1, hs1, hq1⟩, hB2⟩
              have hF := H2.out.forked H3.out.1 H3.out.2.1 H3.out.2.2.1 H3.out.2.2.2 hq1 hc1 hs1 hB2
              have hkb : b < w2.heap.size := by have := H2.out.m.lt; have := hF.1.size; omega
              obtain ⟨xf, Rf, hRf, hCf⟩ := half_store hF hkb 0 8 y8 (by omega) (by omega) hyb
              have HR := hideR hRf
              have HC := hideR hCf
              clear hRf hCf hF hkb hc1 hs1 hq1 hB2 HF H3
              go_wp2_with fail
              refine (HC.out.2.2 _ HR.out).mono ?_
              rintro e w3 ⟨g, rfl, hg, hh⟩
              have HH := hideR (hh _ (Below.refl _ _))
              clear hg hh HC HR
              go_wp2_with fail
              refine HH.out.mono ?_
              rintro e w4 ⟨rfl, hp4⟩
              have hM4 := H2.out.m.on0 hp4.1
              have HM4 := hideR hM4
              have HP4 := hideR (hp4.weak HP.out.1)
              clear hp4 hM4 HH
              go_wp2_with fail
              refine (HLM.out _ HM4.out).mono ?_
              rintro e w' ⟨rfl, rfl⟩
              go_wp2_with fail
              refine (mPages HM4.out).mono ?_
              rintro e w' ⟨rfl, rfl⟩
              go_wp2
              go_roundw
              case rel => exact ⟨j + 1, c + 1, _, by omega, by omega, by go_num, by go_num, HP4.out⟩
              case measure => simp [intOf]; omega
          · have dc : decide ((c : Int) < 4) = false := decide_eq_false (by omega)
            go_wp2_with (go_at_call 18; refine HPL.out.mono ?_; rintro e w2 ⟨rfl, k', hp⟩; have HP2 := hideR hp; clear hp)
            go_roundw
            case rel => exact ⟨j + 1, c, k', by omega, hc, rfl, by go_num, HP2.out⟩
            case measure => simp [intOf]; omega
        · have q5 : (kd == 5) = false := by simpa using h5
          go_wp2_with (go_at_call 18; refine HPL.out.mono ?_; rintro e w2 ⟨rfl, k', hp⟩; have HP2 := hideR hp; clear hp)
          go_roundw
          case rel => exact ⟨j + 1, c, k', by omega, hc, rfl, by go_num, HP2.out⟩
          case measure => simp [intOf]; omega
      · obtain ⟨x, h1, h2⟩ := both_pages HP.out
        have H1 := hideR h1
        have H2 := hideR h2
        clear h1 h2
        by_cases hjn : j < n
        · have dj : decide ((j : Int) < 60) = false := decide_eq_false (by omega)
          go_wp2_with (first | (go_at_call 17; refine H1.out.mono ?_; rintro e w' ⟨rfl, rfl⟩) | (go_at_call 10; refine H2.out.mono ?_; rintro e w' ⟨rfl, rfl⟩) | (go_at_call 19; refine (mWakes _).mono ?_; rintro e w3 ⟨rfl, hb3⟩; have HB5 := hideR hb3; clear hb3))
          go_ret
          exact ⟨rfl, bel_on HP.out.1 HB5.out⟩
        · go_wp2_with (first | (go_at_call 17; refine H1.out.mono ?_; rintro e w' ⟨rfl, rfl⟩) | (go_at_call 10; refine H2.out.mono ?_; rintro e w' ⟨rfl, rfl⟩) | (go_at_call 19; refine (mWakes _).mono ?_; rintro e w3 ⟨rfl, hb3⟩; have HB5 := hideR hb3; clear hb3))
          go_ret
          exact ⟨rfl, bel_on HP.out.1 HB5.out⟩
  · have HN := hideR (nNew (w.alloc (.cells #[.int .i64 mi, .int .i64 ma, .bool has] 23)) mi ma has (by omega))
    have HQ := fun u => hideR (zNew u mi ma has (by omega))
    go_enter Try.func3, Try.ntmps3
    go_wp2_with fail
    refine HN.out.mono ?_
    rintro e w1 ⟨rfl, hB1⟩
    obtain ⟨c0, c1, c2⟩ := cells3 hB1
    have H1 := hideR hB1
    clear hB1 HN
    go_wp2_with fail
    refine (HQ _).out.mono ?_
    rintro e w2 ⟨rfl, hB2⟩
    have HP : Hid (Pair w 0 (.pointer none) (.pointer none) w2) := hideR ⟨bel_on (bel_on HB0.out H1.out) hB2, .inl ⟨rfl, rfl⟩⟩
    clear hB2 H1 HQ HB0 HK c0 c1 c2
    go_wp2_with fail
    go_loopw [5, 7, 9, 10] (fun m q f i wr => Hid (LoopI w m q f i wr n)) (fun _ _ _ i _ => n - (intOf i).toNat)
    case atStart => exact ⟨0, 0, _, Nat.zero_le _, Nat.zero_le _, rfl, rfl, HP.out⟩
    case round =>
      clear HP
      obtain ⟨j, c, k, hj, hc, rfl, rfl, hP⟩ := hrel.out
      have HP := hideR hP
      clear hrel hP
      by_cases hgo : j < n ∧ j < 60
      · obtain ⟨B, off, cap', hv, hx⟩ := HL.out.some (by rw [hn]; omega)
        injection hv with h1 h2 h3
        subst h1
        clear h2 h3
        obtain ⟨x, hxj⟩ : ∃ x, l[j]? = some x := ⟨_, List.getElem?_eq_getElem (by rw [hn]; omega)⟩
        have hS := (hx j x hxj).on HP.out.1
        clear hx hxj
        obtain ⟨kd, at_, nn, vv, tt⟩ := x
        have ck := hS.kd
        have ca := hS.at_
        have cn := hS.n
        have cv := hS.v
        have ct := hS.t
        have HPL := hideR (playsC HP.out kd at_ nn vv tt hS.ha hS.hn hS.hv hS.ht)
        have hgo1 : j < n := hgo.1
        have dj : decide ((j : Int) < 60) = true := decide_eq_true (by omega)
        clear hS hgo
        simp only at ck ca cn cv ct
        by_cases h5 : kd = 5
        · subst h5
          by_cases hc4 : c < 4
          · have dc : decide ((c : Int) < 4) = true := decide_eq_true (by omega)
            rcases HP.out.2 with ⟨rfl, rfl⟩ | ⟨b, r, c', s, mo', pg, bs, ex, rfl, rfl, h2⟩
            · go_wp2_with (go_at_call 18; refine HPL.out.mono ?_; rintro e w2 ⟨rfl, k', hp⟩; have HP2 := hideR hp; clear hp)
              go_roundw
              case rel => exact ⟨j + 1, c, k', by omega, hc, rfl, by go_num, HP2.out⟩
              case measure => simp [intOf]; omega
            · have H2 := hideR h2
              clear h2 HPL
              have hl8 : ∃ (x8 : Int) (ok : Bool), (0 ≤ x8 ∧ x8 ≤ 18446744073709551615) ∧ (∀ u, RM u c' s mo' pg bs ex → Calls Try.prog 11 #[.pointer (some ⟨c', 0, none⟩), .int .u64 0, .int .i64 8] u fun e w1 => e = .returned (.tuple #[.int .u64 x8, .bool ok]) ∧ w1 = u) ∧ ∀ u, Mem u b r mo' pg bs → Calls Try.prog 16 #[.pointer (some ⟨b, 0, none⟩), .int .u64 0, .int .i64 8] u fun e w1 => e = .returned (.tuple #[.int .u64 x8, .bool ok]) ∧ w1 = u := load8 H2.out.m.bd
              obtain ⟨x8, ok, hx8, hLq, hLm⟩ := hl8
              obtain ⟨y8, hy8⟩ : ∃ y8, y8 = IntKind.u64.wrap (x8 + 1) := ⟨_, rfl⟩
              have hyb : 0 ≤ y8 ∧ y8 ≤ 18446744073709551615 := by rw [hy8]; exact wrap_u64_bd _
              have hy1 : IntKind.u64.wrap (x8 + 1) = y8 := hy8.symm
              have HLQ := hideR hLq
              have HLM := hideR hLm
              clear hLq hLm hy8
              go_wp2_with fail
              refine (qPages H2.out.q).mono ?_
              rintro e w' ⟨rfl, rfl⟩
              go_wp2_with fail
              refine (HLQ.out _ H2.out.q).mono ?_
              rintro e w' ⟨rfl, rfl⟩
              go_wp2_with fail
              refine (mFork H2.out.m).mono ?_
              rintro e w1 ⟨⟨b1, r1, rfl, hb1, hr1, hm1⟩, hB1⟩
              have H3 := hideR (And.intro hm1 (And.intro hb1 (And.intro hr1 hB1)))
              have HF := hideR (qFork (H2.out.q.on0 hB1))
              clear hm1 hb1 hr1 hB1
              go_wp2_with fail
              refine HF.out.mono ?_
              rintro e w2 ⟨⟨c1, s1, ex1, rfl, hc1, hs1, hq1⟩, hB2⟩
              have hF := H2.out.forked H3.out.1 H3.out.2.1 H3.out.2.2.1 H3.out.2.2.2 hq1 hc1 hs1 hB2
              have hkb : b < w2.heap.size := by have := H2.out.m.lt; have := hF.1.size; omega
              obtain ⟨xf, Rf, hRf, hCf⟩ := half_store hF hkb 0 8 y8 (by omega) (by omega) hyb
              have HR := hideR hRf
              have HC := hideR hCf
              clear hRf hCf hF hkb hc1 hs1 hq1 hB2 HF H3
              go_wp2_with fail
              refine (HC.out.2.2 _ HR.out).mono ?_
              rintro e w3 ⟨g, rfl, hg, hh⟩
              have HH := hideR (hh _ (Below.refl _ _))
              clear hg hh HC HR
              go_wp2_with fail
              refine HH.out.mono ?_
              rintro e w4 ⟨rfl, hp4⟩
              have hM4 := H2.out.m.on0 hp4.1
              have HM4 := hideR hM4
              have HP4 := hideR (hp4.weak HP.out.1)
              clear hp4 hM4 HH
              go_wp2_with fail
              refine (HLM.out _ HM4.out).mono ?_
              rintro e w' ⟨rfl, rfl⟩
              go_wp2_with fail
              refine (mPages HM4.out).mono ?_
              rintro e w' ⟨rfl, rfl⟩
              go_wp2
              go_roundw
              case rel => exact ⟨j + 1, c + 1, _, by omega, by omega, by go_num, by go_num, HP4.out⟩
              case measure => simp [intOf]; omega
          · have dc : decide ((c : Int) < 4) = false := decide_eq_false (by omega)
            go_wp2_with (go_at_call 18; refine HPL.out.mono ?_; rintro e w2 ⟨rfl, k', hp⟩; have HP2 := hideR hp; clear hp)
            go_roundw
            case rel => exact ⟨j + 1, c, k', by omega, hc, rfl, by go_num, HP2.out⟩
            case measure => simp [intOf]; omega
        · have q5 : (kd == 5) = false := by simpa using h5
          go_wp2_with (go_at_call 18; refine HPL.out.mono ?_; rintro e w2 ⟨rfl, k', hp⟩; have HP2 := hideR hp; clear hp)
          go_roundw
          case rel => exact ⟨j + 1, c, k', by omega, hc, rfl, by go_num, HP2.out⟩
          case measure => simp [intOf]; omega
      · obtain ⟨x, h1, h2⟩ := both_pages HP.out
        have H1 := hideR h1
        have H2 := hideR h2
        clear h1 h2
        by_cases hjn : j < n
        · have dj : decide ((j : Int) < 60) = false := decide_eq_false (by omega)
          go_wp2_with (first | (go_at_call 17; refine H1.out.mono ?_; rintro e w' ⟨rfl, rfl⟩) | (go_at_call 10; refine H2.out.mono ?_; rintro e w' ⟨rfl, rfl⟩) | (go_at_call 19; refine (mWakes _).mono ?_; rintro e w3 ⟨rfl, hb3⟩; have HB5 := hideR hb3; clear hb3))
          go_ret
          exact ⟨rfl, bel_on HP.out.1 HB5.out⟩
        · go_wp2_with (first | (go_at_call 17; refine H1.out.mono ?_; rintro e w' ⟨rfl, rfl⟩) | (go_at_call 10; refine H2.out.mono ?_; rintro e w' ⟨rfl, rfl⟩) | (go_at_call 19; refine (mWakes _).mono ?_; rintro e w3 ⟨rfl, hb3⟩; have HB5 := hideR hb3; clear hb3))
          go_ret
          exact ⟨rfl, bel_on HP.out.1 HB5.out⟩
end Go.Proofs.Ytagcdnkgochpnaa


/- Texts that the claim needs. -/
import Derived.Test.YtkflfohoinbenaaQTU11
namespace Go.Proofs.Ytkflfohoinbenaa
open Go.RowKit Lx Pz Rep Ty
set_option linter.unusedVariables false
namespace Ty
def PrS (S:Nat->Prop) (B n r:Nat) (vs:Value) (R:Int × Nat × (Nat->Value)) (w:World) (e:Ending) (w':World):Prop:=∃c':Nat,e=.returned (.int .i64 R.1)/\(R.1=0->c'=R.2.1)/\DO S B n R.2.2 r vs (c':Int) w'/\Kp r vs.ownBlock w w'
theorem PrS.of {S:Nat->Prop} {B n r:Nat} {vs:Value} {R:Int × Nat × (Nat->Value)} {w w':World} {z:Int} {c1:Nat} {h1:Nat->Value} (hR:R=(z,c1,h1)) (c':Nat) (h0:z=0->c'=c1) (hd:DO S B n h1 r vs (c':Int) w') (hk:Kp r vs.ownBlock w w'):PrS S B n r vs R w (.returned (.int .i64 z)) w':=by
 subst hR
 exact ⟨c',rfl,h0,hd,hk⟩
theorem cnt_next {c1 c2 f:Nat} (h1:65537<=c1+f) (h2:c1<c2/\c2<=65536):65537<=c2+f/\c2<=65536:=by omega
end Ty
set_option maxRecDepth 100000 in
set_option maxHeartbeats 16000000 in
theorem t_dPair {m : Nat} (hm : 1025 ≤ m) {S : Nat → Prop} {B n r : Nat} {vs : Value} : ∀ (f : Nat) (w : World) (c : Nat) (h : Nat → Value) (a va b vb : Value), DO S B n h r vs (c : Int) w → TyW S w n a va → TyW S w n b vb → (∀ k, S k → k < w.heap.size) → 65537 ≤ c + f → c ≤ 65536 → Calls Try.prog 40 #[.pointer (some ⟨r, 0, none⟩), va, vb] w (PrS S B n r vs (unT m f c h a b) w) := by
  intro f
  induction f with
  | zero => intro w c h a va b vb _ _ _ _ h1 h2; omega
  | succ f ih =>
    intro w c h a va b vb hS hA hB hSl hf hc
    obtain ⟨R, hR⟩ : ∃ R, R = unT m (f + 1) c h a b := ⟨_, rfl⟩
    rw [← hR]
    have hR' : R = if 65536 < c + 1 then (3, c + 1, h) else unN m (unT m f) (c + 1) h (endT h a) (endT h b) := hR
    obtain ⟨k0, x0, m0, u0, rfl, hu0⟩ : ∃ k x m u, va = .agg #[.int .i64 k, .string x, .int .i64 m, u] ∧ u.oneCell' = true := by
      rcases hA.cases with ⟨j, u, _, _, h1, h2⟩ | ⟨k, x, m, u, _, _, h1, h2, _⟩
      · exact ⟨_, _, _, _, h1, h2⟩
      · exact ⟨_, _, _, _, h1, h2⟩
    obtain ⟨k9, x9, m9, u9, rfl, hu9⟩ : ∃ k x m u, vb = .agg #[.int .i64 k, .string x, .int .i64 m, u] ∧ u.oneCell' = true := by
      rcases hB.cases with ⟨j, u, _, _, h1, h2⟩ | ⟨k, x, m, u, _, _, h1, h2, _⟩
      · exact ⟨_, _, _, _, h1, h2⟩
      · exact ⟨_, _, _, _, h1, h2⟩
    obtain ⟨W1, hW1⟩ : ∃ W1, W1 = w.alloc (.cells #[.int .i64 k0, .string x0, .int .i64 m0, u0] 34) := ⟨_, rfl⟩
    obtain ⟨W2, hW2⟩ : ∃ W2, W2 = W1.alloc (.cells #[.int .i64 k9, .string x9, .int .i64 m9, u9] 34) := ⟨_, rfl⟩
    have hs1 : W1.heap.size = w.heap.size + 1 := by rw [hW1]; simp
    have hb1 : Below w.heap.size w W1 := by rw [hW1]; exact new_on' _ _
    have hb12 : Below W1.heap.size W1 W2 := by rw [hW2]; exact new_on' _ _
    have hxA : W2.heap[w.heap.size]? = some (.cells #[.int .i64 k0, .string x0, .int .i64 m0, u0] 34 (0, 0)) := (hb12.block _ (by omega)).trans (by rw [hW1]; exact heap_alloc_new w _)
    have hxB : W2.heap[w.heap.size + 1]? = some (.cells #[.int .i64 k9, .string x9, .int .i64 m9, u9] 34 (0, 0)) := by rw [← hs1, hW2]; exact heap_alloc_new W1 _
    have hb2 : Below w.heap.size w W2 := below_go hb1 hb12
    have hlt := hS.lt
    have hgr : ∀ k, k < w.heap.size → (fun k => S k ∨ k = w.heap.size ∨ k = w.heap.size + 1) k → S k := fun k hk h => h.resolve_right (by omega)
    have hS2 : DO (fun k => S k ∨ k = w.heap.size ∨ k = w.heap.size + 1) B n h r vs (c : Int) W2 := hS.grow hb2 (fun k => .inl) hgr
    have hA2 : TyW (fun k => S k ∨ k = w.heap.size ∨ k = w.heap.size + 1) W2 n a (.agg #[.int .i64 k0, .string x0, .int .i64 m0, u0]) := hA.on (fun k _ hl => hb2.block k hl) hgr
    have hB2 : TyW (fun k => S k ∨ k = w.heap.size ∨ k = w.heap.size + 1) W2 n b (.agg #[.int .i64 k9, .string x9, .int .i64 m9, u9]) := hB.on (fun k _ hl => hb2.block k hl) hgr
    have hS0 : S r ∧ ∀ k, vs.ownBlock = some k → S k := hS.1
    have hblk : W2.heap[r]? = some (.cells #[vs, .int .i64 (c : Int)] 65 (0, 0)) := by obtain ⟨_, xs, rk, hv, _⟩ := hS2; exact hv.blk
    have s1 := put_cell hblk 1 _ rfl
    have hkW : Kp r vs.ownBlock w W2 := (Kp.refl _ _ w).of hb2 (Nat.le_refl _)
    clear hs1 hb1 hb12 hA hB hgr hblk
    by_cases hl : 65536 < c + 1
    · have q1 : ((c : Int) == 65536) = true := by simp; omega
      have HRR := hideR (show R = (3, c + 1, h) by rw [hR', if_pos hl])
      have HS := hideR (hS.bel hb2)
      have HK := hideR hkW
      clear hR hR' ih hS hS2 hA2 hB2 hS0 hlt hxA hxB hkW hSl hf hc hl hb2
      go_enter Try.func40, Try.ntmps40
      go_upto_region 1 with fail
      rw [← hW1, ← hW2]
      clear hW1 hW2
      go_wp2
      refine bodyPost_ret (v := .int .i64 3) (by simp [results, Try.results40, go_sem]) rfl (PrS.of HRR.out c (fun h => absurd h (by decide)) HS.out HK.out)
    · have q1 : ((c : Int) == 65536) = false := by simp; omega
      rw [if_neg hl] at hR'
      have hwc : IntKind.i64.wrap ((c : Int) + 1) = (c : Int) + 1 := by rw [IntKind.wrap_i64]; omega
      have hwc2 : wrap64 ((c : Int) + 1) = (c : Int) + 1 := by unfold wrap64; omega
      obtain ⟨W3, hW3⟩ : ∃ W3, W3 = W2.setCell ⟨r, 1, none⟩ (.int .i64 ((c : Int) + 1)) := ⟨_, rfl⟩
      obtain ⟨f1, hS3, hk3⟩ := hS2.count ((c : Int) + 1)
      rw [← hW3] at hS3 hk3
      have hrq : w.heap.size ≠ r ∧ w.heap.size + 1 ≠ r := by omega
      have hoq : vs.ownBlock ≠ some w.heap.size ∧ vs.ownBlock ≠ some (w.heap.size + 1) := ⟨fun e => by have := hlt.2.1 _ e; omega, fun e => by have := hlt.2.1 _ e; omega⟩
      have hxA3 := kp_ne hk3 hxA hrq.1 hoq.1
      have hxB3 := kp_ne hk3 hxB hrq.2 hoq.2
      have hSr : (fun k => S k ∨ k = w.heap.size ∨ k = w.heap.size + 1) r ∧ ∀ k, vs.ownBlock = some k → (fun k => S k ∨ k = w.heap.size ∨ k = w.heap.size + 1) k := ⟨.inl hS0.1, fun k e => .inl (hS0.2 k e)⟩
      have hA3 := hA2.kp hk3 hSr.1 hSr.2
      have hB3 := hB2.kp hk3 hSr.1 hSr.2
      have HCA := hideR (fun (u : World) (hu : Below W3.heap.size W3 u) => t_dHead (hS3.bel hu) (hA3.bel hu))
      have HCB := hideR (fun (u : World) (hu : Below W3.heap.size W3 u) => t_dHead (hS3.bel hu) (hB3.bel hu))
      have HS3 := hideR hS3
      have HXA := hideR hxA3
      have HXB := hideR hxB3
      have HK3 := hideR (hkW.trans hk3)
      have HR := hideR hR'
      have HIH := hideR ih
      have HS0 := hideR hS0
      have HSR := hideR hSr
      have HQ := hideR (And.intro hrq hoq)
      have HC : Hid (65537 ≤ (c + 1) + f ∧ c + 1 ≤ 65536) := hideR (by omega)
      have HSL := hideR (And.intro hSl hlt)
      have HZ0 := hideR (And.intro (put_cell hxA3 0 _ rfl) (And.intro (put_cell hxA3 1 _ rfl) (And.intro (put_cell hxA3 2 _ rfl) (put_cell hxA3 3 _ rfl))))
      have HZ1 := hideR (And.intro (put_cell hxB3 0 _ rfl) (And.intro (put_cell hxB3 1 _ rfl) (And.intro (put_cell hxB3 2 _ rfl) (put_cell hxB3 3 _ rfl))))
      clear hR hR' ih hS hS2 hA2 hB2 hS0 hlt hxA hxB hkW hSl hf hc hl hb2 hS3 hk3 hrq hoq hxA3 hxB3 hSr hA3 hB3
      go_enter Try.func40, Try.ntmps40
      go_upto_region 1 with fail
      rw [← hW1, ← hW2]
      clear hW1 hW2
      go_upto_region 4 with (first | rw [← hW3] | fail)
      clear hW3 f1 s1 q1 hwc hwc2
      obtain ⟨TL, hTL⟩ : ∃ TL : List Value, TL = [.pointer (some ⟨r, 0, none⟩), .agg #[.int .i64 k0, .string x0, .int .i64 m0, u0], undef, .pointer (some ⟨r, 0, none⟩), .agg #[.int .i64 k9, .string x9, .int .i64 m9, u9], undef] := ⟨_, rfl⟩
      have HTL := hideR hTL
      clear hTL
      refine Reg.wp_region_two 6 (fun i => 23 + i) (fun i v u => if i = 2 then TyW (fun k => S k ∨ k = w.heap.size ∨ k = w.heap.size + 1) u n (endT h a) v ∧ endT h (endT h a) = endT h a else if i = 5 then TyW (fun k => S k ∨ k = w.heap.size ∨ k = w.heap.size + 1) u n (endT h b) v ∧ endT h (endT h b) = endT h b else v = TL.getD i undef) (by kernel_rfl) (by kernel_rfl) (fun i1 i2 h1 h2 h => by have h' : 23 + i1 = 23 + i2 := h; omega) (Reg.dst_ok (dst := fun i => 23 + i) (size := 120) (by kernel_rfl)) (fun i v u u' _ hg hb => by
        by_cases h2 : i = 2
        · rw [if_pos h2] at hg ⊢; exact ⟨hg.1.bel hb, hg.2⟩
        · rw [if_neg h2] at hg ⊢
          by_cases h5 : i = 5
          · rw [if_pos h5] at hg ⊢; exact ⟨hg.1.bel hb, hg.2⟩
          · rw [if_neg h5] at hg ⊢; exact hg) ?hs4 ?ht4
      case hs4 =>
        intro i o' a9 u7 hi ho hF hB hd
        have f0 : a9.tmps[0]?.getD undef = .pointer (some ⟨r, 0, none⟩) := Reg.ev_get (hF.eval 0 (fun i hi => by show 23 + i ≠ 0; omega))
        have f4 : a9.tmps[4]?.getD undef = .pointer (some ⟨w.heap.size, 0, none⟩) := Reg.ev_get (hF.eval 4 (fun i hi => by show 23 + i ≠ 4; omega))
        have f5 : a9.tmps[5]?.getD undef = .pointer (some ⟨w.heap.size + 1, 0, none⟩) := Reg.ev_get (hF.eval 5 (fun i hi => by show 23 + i ≠ 5; omega))
        obtain ⟨z0, z1, z2, z3⟩ := HZ0.out
        obtain ⟨y0, y1, y2, y3⟩ := HZ1.out
        have z0 := cell_on hB z0
        have z1 := cell_on hB z1
        have z2 := cell_on hB z2
        have z3 := cell_on hB z3
        have y0 := cell_on hB y0
        have y1 := cell_on hB y1
        have y2 := cell_on hB y2
        have y3 := cell_on hB y3
        have HEA := hideR (HCA.out u7 hB)
        have HEB := hideR (HCB.out u7 hB)
        have hd2 : ∀ j2 ∈ Reg.deps o', j2 ≠ 2 → j2 ≠ 5 → a9.tmps[23 + j2]?.getD undef = TL.getD j2 undef := fun j2 hj2 h2 h5 => by
          have h := hd j2 hj2
          rw [if_neg h2, if_neg h5] at h
          exact Reg.ev_get h
        have hTL := HTL.out
        subst hTL
        clear hd
        rcases (by omega : i = 2 ∨ i = 5 ∨ (i ≠ 2 ∧ i ≠ 5)) with rfl | rfl | hn6
        · simp only [List.getElem?_toArray, List.getElem?_cons_succ, List.getElem?_cons_zero, Option.some.injEq] at ho
          subst ho
          refine Reg.step_k fun Z9 hZ => ?_
          simp [Reg.deps, Region.binds] at hd2
          go_simp
          refine Calls.mono (show Calls _ _ _ _ _ from HEA.out) ?_
          rintro e w' ⟨v9, rfl, h1, h2, h3⟩
          exact hZ _ _ ⟨_, rfl, h3, h1.bel h3, h2⟩
        · simp only [List.getElem?_toArray, List.getElem?_cons_succ, List.getElem?_cons_zero, Option.some.injEq] at ho
          subst ho
          refine Reg.step_k fun Z9 hZ => ?_
          simp [Reg.deps, Region.binds] at hd2
          go_simp
          refine Calls.mono (show Calls _ _ _ _ _ from HEB.out) ?_
          rintro e w' ⟨v9, rfl, h1, h2, h3⟩
          exact hZ _ _ ⟨_, rfl, h3, h1.bel h3, h2⟩
        · clear HEA HEB
          rcases (by omega : i = 0 ∨ i = 1 ∨ i = 2 ∨ i = 3 ∨ i = 4 ∨ i = 5) with rfl | rfl | rfl | rfl | rfl | rfl
          all_goals (
            simp only [List.getElem?_toArray, List.getElem?_cons_succ, List.getElem?_cons_zero, Option.some.injEq] at ho
            subst ho
            first
            | exact absurd rfl hn6.1
            | exact absurd rfl hn6.2
            | (refine Reg.step_k fun Z9 hZ => ?_
               clear hn6
               simp [Reg.deps, Region.binds] at hd2
               go_simp
               first
               | exact hZ _ _ ⟨_, rfl, Below.refl _ _, rfl⟩
               | exact hZ _ _ ⟨_, rfl, Below.refl _ _, by simp [*]⟩))
      case ht4 =>
        intro a9 u4 hF hB hG
        obtain ⟨xl, hxl, rfl, hev⟩ := hF.lit (by simp)
        obtain ⟨v0, v1, v2, v3, v4, v5, rfl⟩ := tlen6 hxl
        have h2 := hG 2 (by decide)
        have h5 := hG 5 (by decide)
        rw [if_pos rfl] at h2
        rw [if_neg (by decide), if_pos rfl] at h5
        rw [show _ = v2 from hev 2 (by decide)] at h2
        rw [show _ = v5 from hev 5 (by decide)] at h5
        obtain ⟨hx, hzx⟩ := h2
        obtain ⟨hy, hzy⟩ := h5
        have hS4 := HS3.out.bel hB
        have hXA := (hB.block _ (Array.getElem?_eq_some_iff.1 HXA.out).1).trans HXA.out
        have hXB := (hB.block _ (Array.getElem?_eq_some_iff.1 HXB.out).1).trans HXB.out
        have hK4 := HK3.out.of hB HK3.out.size
        clear hev hxl hF hG hB HCA HCB HS3 HXA HXB HK3 HZ0 HZ1 HTL
        generalize endT h a = x at *
        generalize endT h b = y at *
        simp only [List.take_succ_cons, List.take_zero, List.drop_succ_cons, List.drop_zero, List.cons_append, List.nil_append]
        rcases hx.split with ⟨i, ux, hii, rfl, rfl, hux⟩ | ⟨kx, nx, mx, oX, cX, hkx, rfl, hkx2, hkx3, hnx⟩
        · have hui : h i = vr i := by have h1 := hzx; rw [endT_vr] at h1; exact h1
          rcases hy.split with ⟨j, uy, hij, rfl, rfl, huy⟩ | ⟨ky, ny, my, oY, cY, hky, rfl, hky2, hky3, hny⟩
          · by_cases hji : j = i
            · subst hji
              have HRR := hideR (show R = (0, c + 1, h) by rw [HR.out]; unfold unN; rw [if_pos (kind_vr j), if_pos ⟨kind_vr j, rfl⟩])
              clear HR HIH
              obtain ⟨W5, hW5, hth5, hbk5, hkk5, hne5, hsz5⟩ := put4k (w := w) (q := w.heap.size) (z := #[.int .i64 k0, .string x0, .int .i64 m0, u0]) (vs := #[.int .i64 2, .string e0, .int .i64 ((j : Int) + 1), ux]) rfl hXA hK4 (Nat.le_refl _)
              obtain ⟨W6, hW6, hth6, hbk6, hkk6, hne6, hsz6⟩ := put4k (w := w) (q := w.heap.size + 1) (z := #[.int .i64 k9, .string x9, .int .i64 m9, u9]) (vs := #[.int .i64 2, .string e0, .int .i64 ((j : Int) + 1), uy]) rfl ((hne5 _ (by omega)).trans hXB) hkk5 (Nat.le_succ _)
              have HW5 := hideR hW5; have HW6 := hideR hW6; have HTH5 := hideR hth5; have HTH6 := hideR hth6
              have hb46 : ∀ k, ¬ (fun k => S k ∨ k = w.heap.size ∨ k = w.heap.size + 1) k → k < u4.heap.size → W6.heap[k]? = u4.heap[k]? := fun k hk _ => (hne6 k (fun e => hk (.inr (.inr e)))).trans (hne5 k (fun e => hk (.inr (.inl e))))
              have hqq := HQ.out
              have hS6 : DO (fun k => S k ∨ k = w.heap.size ∨ k = w.heap.size + 1) B n h r vs ((c : Int) + 1) W6 := hS4.kpW ((hne6 r (Ne.symm hqq.1.2)).trans (hne5 r (Ne.symm hqq.1.1))) (fun k e => (hne6 k (fun e2 => hqq.2.2 (by rw [e, e2]))).trans (hne5 k (fun e2 => hqq.2.1 (by rw [e, e2])))) hb46
              have hX6 := hx.on hb46 (fun _ _ h => h)
              have hY6 := hy.on hb46 (fun _ _ h => h)
              have hbq := (hne6 w.heap.size (by omega)).trans hbk5
              have HBX := hideR hbq
              have HBY := hideR hbk6
              have HS6 := hideR hS6
              have HX6 := hideR hX6
              have HY6 := hideR hY6
              have HK6 := hideR hkk6
              have p0 : W6.cell? ⟨w.heap.size, 0, none⟩ = some (.int .i64 2) := put_cell hbq 0 _ rfl
              have p1 : W6.cell? ⟨w.heap.size, 1, none⟩ = some (.string e0) := put_cell hbq 1 _ rfl
              have p2 : W6.cell? ⟨w.heap.size, 2, none⟩ = some (.int .i64 ((j : Int) + 1)) := put_cell hbq 2 _ rfl
              have p3 : W6.cell? ⟨w.heap.size, 3, none⟩ = some (ux) := put_cell hbq 3 _ rfl
              have l0 : W6.cell? ⟨w.heap.size + 1, 0, none⟩ = some (.int .i64 2) := put_cell hbk6 0 _ rfl
              have l1 : W6.cell? ⟨w.heap.size + 1, 1, none⟩ = some (.string e0) := put_cell hbk6 1 _ rfl
              have l2 : W6.cell? ⟨w.heap.size + 1, 2, none⟩ = some (.int .i64 ((j : Int) + 1)) := put_cell hbk6 2 _ rfl
              have l3 : W6.cell? ⟨w.heap.size + 1, 3, none⟩ = some (uy) := put_cell hbk6 3 _ rfl
              clear hW5 hW6 hth5 hth6 hbk5 hbk6 hkk5 hkk6 hne5 hne6 hsz5 hsz6 hb46 hqq hS4 hS6 hx hy hX6 hY6 hbq hXA hXB hK4
              have HS7 : Hid (DO S B n h r vs ((c + 1 : Nat) : Int) W6) := hideR (HS6.out.back HS0.out fun k => .inl)
              clear HS6 HX6 HY6 HBX HBY
              go_upto_region 5 with (first | (refine wpList_store_mid rfl 34 (.tmp 4) (.tmp 25) rfl w.heap.size 0 #[.int .i64 2, .string e0, .int .i64 ((j : Int) + 1), ux] rfl rfl HTH5.out sizeTy' (by simp [Value.oneCell'] at hux ⊢; exact hux) ?_; rw [HW5.out]) | (refine wpList_store_mid rfl 34 (.tmp 5) (.tmp 28) rfl (w.heap.size + 1) 0 #[.int .i64 2, .string e0, .int .i64 ((j : Int) + 1), uy] rfl rfl HTH6.out sizeTy' (by simp [Value.oneCell'] at huy ⊢; exact huy) ?_; rw [HW6.out]) | fail)
              go_wp2_with fail
              refine bodyPost_ret (v := .int .i64 0) (by simp [results, Try.results40, go_sem]) rfl (PrS.of HRR.out (c + 1) (fun _ => rfl) HS7.out HK6.out)
            · have q3 : (((i : Int) + 1) == ((j : Int) + 1)) = false := by simp; omega
              have hRU : R = unB m (c + 1) h (vr i) (vr j) := by rw [HR.out]; unfold unN; rw [if_pos (kind_vr i), if_neg (fun e => hji (by have h1 : ((j : Int) + 1) = (i : Int) + 1 := e.2; omega))]
              have hnei : vr j ≠ vr i := fun e => hji (vr_inj e)
              have HZO := hideR hzy
              clear HR HIH hzx hzy hji
              obtain ⟨W5, hW5, hth5, hbk5, hkk5, hne5, hsz5⟩ := put4k (w := w) (q := w.heap.size) (z := #[.int .i64 k0, .string x0, .int .i64 m0, u0]) (vs := #[.int .i64 2, .string e0, .int .i64 ((i : Int) + 1), ux]) rfl hXA hK4 (Nat.le_refl _)
              obtain ⟨W6, hW6, hth6, hbk6, hkk6, hne6, hsz6⟩ := put4k (w := w) (q := w.heap.size + 1) (z := #[.int .i64 k9, .string x9, .int .i64 m9, u9]) (vs := #[.int .i64 2, .string e0, .int .i64 ((j : Int) + 1), uy]) rfl ((hne5 _ (by omega)).trans hXB) hkk5 (Nat.le_succ _)
              have HW5 := hideR hW5; have HW6 := hideR hW6; have HTH5 := hideR hth5; have HTH6 := hideR hth6
              have hb46 : ∀ k, ¬ (fun k => S k ∨ k = w.heap.size ∨ k = w.heap.size + 1) k → k < u4.heap.size → W6.heap[k]? = u4.heap[k]? := fun k hk _ => (hne6 k (fun e => hk (.inr (.inr e)))).trans (hne5 k (fun e => hk (.inr (.inl e))))
              have hqq := HQ.out
              have hS6 : DO (fun k => S k ∨ k = w.heap.size ∨ k = w.heap.size + 1) B n h r vs ((c : Int) + 1) W6 := hS4.kpW ((hne6 r (Ne.symm hqq.1.2)).trans (hne5 r (Ne.symm hqq.1.1))) (fun k e => (hne6 k (fun e2 => hqq.2.2 (by rw [e, e2]))).trans (hne5 k (fun e2 => hqq.2.1 (by rw [e, e2])))) hb46
              have hX6 := hx.on hb46 (fun _ _ h => h)
              have hY6 := hy.on hb46 (fun _ _ h => h)
              have hbq := (hne6 w.heap.size (by omega)).trans hbk5
              have HBX := hideR hbq
              have HBY := hideR hbk6
              have HS6 := hideR hS6
              have HX6 := hideR hX6
              have HY6 := hideR hY6
              have HK6 := hideR hkk6
              have p0 : W6.cell? ⟨w.heap.size, 0, none⟩ = some (.int .i64 2) := put_cell hbq 0 _ rfl
              have p1 : W6.cell? ⟨w.heap.size, 1, none⟩ = some (.string e0) := put_cell hbq 1 _ rfl
              have p2 : W6.cell? ⟨w.heap.size, 2, none⟩ = some (.int .i64 ((i : Int) + 1)) := put_cell hbq 2 _ rfl
              have p3 : W6.cell? ⟨w.heap.size, 3, none⟩ = some (ux) := put_cell hbq 3 _ rfl
              have l0 : W6.cell? ⟨w.heap.size + 1, 0, none⟩ = some (.int .i64 2) := put_cell hbk6 0 _ rfl
              have l1 : W6.cell? ⟨w.heap.size + 1, 1, none⟩ = some (.string e0) := put_cell hbk6 1 _ rfl
              have l2 : W6.cell? ⟨w.heap.size + 1, 2, none⟩ = some (.int .i64 ((j : Int) + 1)) := put_cell hbk6 2 _ rfl
              have l3 : W6.cell? ⟨w.heap.size + 1, 3, none⟩ = some (uy) := put_cell hbk6 3 _ rfl
              clear hW5 hW6 hth5 hth6 hbk5 hbk6 hkk5 hkk6 hne5 hne6 hsz5 hsz6 hb46 hqq hS4 hS6 hx hy hX6 hY6 hbq hXA hXB hK4
              obtain ⟨WW, hWW⟩ : ∃ WW, WW = W6 := ⟨_, rfl⟩
              subst hWW
              have HSW := HS6; have HKW := HK6; have HWX := HBX; have HWY := HBY
              clear HS6 HK6 HBX HBY HX6
              have hii' := hii
              have HM : Hid (Calls Try.prog 43 #[.pointer (some ⟨r, 0, none⟩), .agg #[.int .i64 2, .string e0, .int .i64 ((j : Int) + 1), uy], .int .i64 ((i : Int) + 1), .int .i64 0] WW fun e w' => ∃ c' : Nat, e = .returned (.tuple #[.int .i64 (c' : Int), .int .i64 (lkT h ((i : Int) + 1) m 0 (vr j)).1]) ∧ ((lkT h ((i : Int) + 1) m 0 (vr j)).1 = 0 → c' = (lkT h ((i : Int) + 1) m 0 (vr j)).2) ∧ Below WW.heap.size WW w') := hideR (t_dMet m WW (vr j) _ 0 HSW.out HY6.out (by omega) (by omega))
              have HRU : Hid (R = ((lkT h ((i : Int) + 1) m 0 (vr j)).1, c + 1, if (lkT h ((i : Int) + 1) m 0 (vr j)).1 = 0 then bdH h i (vr j) else h)) := hideR (by rw [hRU]; unfold unB; rw [idx_vr, num_vr])
              clear hRU
              generalize hz9 : (lkT h ((i : Int) + 1) m 0 (vr j)).1 = z at *
              clear hz9
              go_upto_region 5 with (first | (refine wpList_store_mid rfl 34 (.tmp 4) (.tmp 25) rfl w.heap.size 0 #[.int .i64 2, .string e0, .int .i64 ((i : Int) + 1), ux] rfl rfl HTH5.out sizeTy' (by simp [Value.oneCell'] at hux ⊢; exact hux) ?_; rw [HW5.out]) | (refine wpList_store_mid rfl 34 (.tmp 5) (.tmp 28) rfl (w.heap.size + 1) 0 #[.int .i64 2, .string e0, .int .i64 ((j : Int) + 1), uy] rfl rfl HTH6.out sizeTy' (by simp [Value.oneCell'] at huy ⊢; exact huy) ?_; rw [HW6.out]) | fail)
              go_wp2_with fail
              refine Calls.mono (show Calls _ _ _ _ _ from HM.out) ?_
              rintro e w7 ⟨c', rfl, _, hb7⟩
              have hS7 := HSW.out.bel hb7
              have hT7 := HY6.out.bel hb7
              have hK7 := HKW.out.of hb7 HKW.out.size
              have hbx := (hb7.block _ (Array.getElem?_eq_some_iff.1 HWX.out).1).trans HWX.out
              have hby := (hb7.block _ (Array.getElem?_eq_some_iff.1 HWY.out).1).trans HWY.out
              by_cases hz : z = 0
              · subst hz
                have HRR : Hid (R = (0, c + 1, bdH h i (vr j))) := hideR (by rw [HRU.out, if_pos rfl])
                obtain ⟨hrb, g, cap, cur, hvs, hgg, hgc, hn4⟩ := hS7.form (by omega)
                subst hvs
                have hown : (Value.slice (some ⟨g, 0, none⟩) n cap).ownBlock = some g := rfl
                have hwj := wrapS (j := i) (by omega)
                have hwj2 : IntKind.i64.wrap ((i : Int) + 1 - 1) = (i : Int) := by rw [IntKind.wrap_i64]; omega
                obtain ⟨hS9, hK9⟩ := hS7.bind hii hui hT7 HZO.out hnei hown
                have HTH9 := hideR (there_at (o := i * 4) (n := 4) hgg (by omega))
                have HGG := hideR (fun (u : World) (hu : Below w7.heap.size w7 u) => (hu.block g (Array.getElem?_eq_some_iff.1 hgg).1).trans hgg)
                have HS7 := hideR hS7
                have HT7 := hideR hT7
                have HK7 := hideR hK7
                have HGC := hideR (show i * 4 + 4 ≤ cur.size by omega)
                have c0 := put_cell hrb 0 _ rfl
                have z2 := put_cell hbx 2 _ rfl
                have y0 := put_cell hby 0 _ rfl
                have y1 := put_cell hby 1 _ rfl
                have y2 := put_cell hby 2 _ rfl
                have y3 := put_cell hby 3 _ rfl
                have HFA := hideR (And.intro c0 (And.intro z2 (And.intro y0 (And.intro y1 (And.intro y2 y3)))))
                clear hS9 hK9 HRU HM hbx hby hS7 hT7 hK7 hb7 hrb hgg hgc c0 z2 y0 y1 y2 y3
                go_upto_region 13 with fail
                obtain ⟨TL, hTL⟩ : ∃ TL : List Value, TL = [.pointer (some ⟨r, 0, none⟩), .pointer (some ⟨r, 0, none⟩), .pointer (some ⟨r, 0, none⟩), .slice (some ⟨g, 0, none⟩) n cap, .pointer (some ⟨w.heap.size, 2, none⟩), .int .i64 ((i : Int) + 1), .int .i64 (i : Int), .agg #[.int .i64 2, .string e0, .int .i64 ((j : Int) + 1), uy], .pointer (some ⟨g, i * 4, none⟩)] := ⟨_, rfl⟩
                have HTL := hideR hTL
                clear hTL
                refine Reg.wp_region_two 9 (fun i => 68 + i) (fun i v u => v = TL.getD i undef) (by kernel_rfl) (by kernel_rfl) (fun i1 i2 h1 h2 h => by have h' : 68 + i1 = 68 + i2 := h; omega) (Reg.dst_ok (dst := fun i => 68 + i) (size := 120) (by kernel_rfl)) (fun i v u u' _ h hb => h) ?hstep ?htail
                case hstep =>
                  intro i9 o' a9 u9 hi9 ho hF hB hd
                  have f0 : a9.tmps[0]?.getD undef = .pointer (some ⟨r, 0, none⟩) := Reg.ev_get (hF.eval 0 (fun i hi => by show 68 + i ≠ 0; omega))
                  have f4 : a9.tmps[4]?.getD undef = .pointer (some ⟨w.heap.size, 0, none⟩) := Reg.ev_get (hF.eval 4 (fun i hi => by show 68 + i ≠ 4; omega))
                  have f5 : a9.tmps[5]?.getD undef = .pointer (some ⟨w.heap.size + 1, 0, none⟩) := Reg.ev_get (hF.eval 5 (fun i hi => by show 68 + i ≠ 5; omega))
                  obtain ⟨c0, z2, y0, y1, y2, y3⟩ := HFA.out
                  have c0 := cell_on hB c0
                  have z2 := cell_on hB z2
                  have y0 := cell_on hB y0
                  have y1 := cell_on hB y1
                  have y2 := cell_on hB y2
                  have y3 := cell_on hB y3
                  have hd2 : ∀ j2 ∈ Reg.deps o', a9.tmps[68 + j2]?.getD undef = TL.getD j2 undef := fun j2 hj2 => Reg.ev_get (hd j2 hj2)
                  have hTL := HTL.out
                  subst hTL
                  clear hd
                  rcases (by omega : i9 = 0 ∨ i9 = 1 ∨ i9 = 2 ∨ i9 = 3 ∨ i9 = 4 ∨ i9 = 5 ∨ i9 = 6 ∨ i9 = 7 ∨ i9 = 8) with rfl | rfl | rfl | rfl | rfl | rfl | rfl | rfl | rfl
                  all_goals (
                    simp only [List.getElem?_toArray, List.getElem?_cons_succ, List.getElem?_cons_zero, Option.some.injEq] at ho
                    subst ho
                    refine Reg.step_k fun K hK => ?_
                    simp [Reg.deps, Region.binds] at hd2
                    go_simp
                    first
                    | exact hK _ _ ⟨_, rfl, Below.refl _ _, rfl⟩
                    | exact hK _ _ ⟨_, rfl, Below.refl _ _, by simp [*]⟩)
                case htail =>
                  intro a9 u9 hF hB hG
                  obtain ⟨xl, hxl, rfl, hev⟩ := hF.lit (by simp)
                  obtain ⟨t0, t1, t2, t3, t4, t5, t6, t7, t8, rfl⟩ := tlen9 hxl
                  have h7 := hG 7 (by decide)
                  have h8 := hG 8 (by decide)
                  rw [HTL.out] at h7 h8
                  have e7 : t7 = .agg #[.int .i64 2, .string e0, .int .i64 ((j : Int) + 1), uy] := (hev 7 (by decide)).symm.trans h7
                  have e8 : t8 = .pointer (some ⟨g, i * 4, none⟩) := (hev 8 (by decide)).symm.trans h8
                  subst e7 e8
                  obtain ⟨hS9, hK9⟩ := (HS7.out.bel hB).bind hii hui (HT7.out.bel hB) HZO.out hnei hown
                  have HTH9 := hideR (there_at (o := i * 4) (n := 4) (HGG.out u9 hB) HGC.out)
                  obtain ⟨W9, hW9⟩ : ∃ W9, u9.setCells g (i * 4) (#[.int .i64 2, .string e0, .int .i64 ((j : Int) + 1), uy] : Array Value).toList = W9 := ⟨_, rfl⟩
                  have HS9 : Hid (DO S B n (bdH h i (vr j)) r (.slice (some ⟨g, 0, none⟩) n cap) ((c + 1 : Nat) : Int) W9) := hideR (by rw [← hW9]; exact hS9.back HS0.out fun k => .inl)
                  have HK9 : Hid (Kp r (Value.slice (some ⟨g, 0, none⟩) n cap).ownBlock w W9) := hideR (by rw [← hW9]; exact (HK7.out.of hB HK7.out.size).trans (hK9.kp r))
                  have HW9 := hideR hW9
                  clear hev hxl hF hG h7 h8 hB hS9 hK9 hW9 HTL HFA HGG HS7 HT7 HK7
                  simp only [List.take_succ_cons, List.take_zero, List.drop_succ_cons, List.drop_zero, List.cons_append, List.nil_append]
                  go_wp2_with (refine wpList_store_mid rfl 34 (.tmp 76) (.tmp 75) rfl g (i * 4) #[.int .i64 2, .string e0, .int .i64 ((j : Int) + 1), uy] rfl rfl HTH9.out sizeTy' (by simp [Value.oneCell'] at huy ⊢; exact huy) ?_; rw [HW9.out])
                  refine bodyPost_ret (v := .int .i64 0) (by simp [results, Try.results40, go_sem]) rfl (PrS.of HRR.out (c + 1) (fun _ => rfl) HS9.out HK9.out)
              · have q9 : (z != 0) = true := bne_iff_ne.2 hz
                have HRR : Hid (R = (z, c + 1, h)) := hideR (by rw [HRU.out, if_neg hz])
                have HS7 : Hid (DO S B n h r vs ((c + 1 : Nat) : Int) w7) := hideR (hS7.back HS0.out fun k => .inl)
                have HK7 := hideR hK7
                have HZN := hideR hz
                clear HRU HM hbx hby hS7 hT7 hK7 hb7 hz
                go_wp2
                refine bodyPost_ret (v := .int .i64 z) (by simp [results, Try.results40, go_sem]) rfl (PrS.of HRR.out (c + 1) (fun h => absurd h HZN.out) HS7.out HK7.out)
          · have q3 : (ky == 2) = false := by simpa using hky
            have hRU : R = unB m (c + 1) h (vr i) y := by rw [HR.out]; unfold unN; rw [if_pos (kind_vr i), if_neg (fun e => hky2 e.1)]
            have hnei : y ≠ vr i := fun e => hky2 (by rw [e]; exact kind_vr i)
            have HZO := hideR hzy
            clear HR HIH hzx hzy hky hky2 hky3 hny
            obtain ⟨W5, hW5, hth5, hbk5, hkk5, hne5, hsz5⟩ := put4k (w := w) (q := w.heap.size) (z := #[.int .i64 k0, .string x0, .int .i64 m0, u0]) (vs := #[.int .i64 2, .string e0, .int .i64 ((i : Int) + 1), ux]) rfl hXA hK4 (Nat.le_refl _)
            obtain ⟨W6, hW6, hth6, hbk6, hkk6, hne6, hsz6⟩ := put4k (w := w) (q := w.heap.size + 1) (z := #[.int .i64 k9, .string x9, .int .i64 m9, u9]) (vs := #[.int .i64 ky, .string ny, .int .i64 my, .slice oY (argsV y).length cY]) rfl ((hne5 _ (by omega)).trans hXB) hkk5 (Nat.le_succ _)
            have HW5 := hideR hW5; have HW6 := hideR hW6; have HTH5 := hideR hth5; have HTH6 := hideR hth6
            have hb46 : ∀ k, ¬ (fun k => S k ∨ k = w.heap.size ∨ k = w.heap.size + 1) k → k < u4.heap.size → W6.heap[k]? = u4.heap[k]? := fun k hk _ => (hne6 k (fun e => hk (.inr (.inr e)))).trans (hne5 k (fun e => hk (.inr (.inl e))))
            have hqq := HQ.out
            have hS6 : DO (fun k => S k ∨ k = w.heap.size ∨ k = w.heap.size + 1) B n h r vs ((c : Int) + 1) W6 := hS4.kpW ((hne6 r (Ne.symm hqq.1.2)).trans (hne5 r (Ne.symm hqq.1.1))) (fun k e => (hne6 k (fun e2 => hqq.2.2 (by rw [e, e2]))).trans (hne5 k (fun e2 => hqq.2.1 (by rw [e, e2])))) hb46
            have hX6 := hx.on hb46 (fun _ _ h => h)
            have hY6 := hy.on hb46 (fun _ _ h => h)
            have hbq := (hne6 w.heap.size (by omega)).trans hbk5
            have HBX := hideR hbq
            have HBY := hideR hbk6
            have HS6 := hideR hS6
            have HX6 := hideR hX6
            have HY6 := hideR hY6
            have HK6 := hideR hkk6
            have p0 : W6.cell? ⟨w.heap.size, 0, none⟩ = some (.int .i64 2) := put_cell hbq 0 _ rfl
            have p1 : W6.cell? ⟨w.heap.size, 1, none⟩ = some (.string e0) := put_cell hbq 1 _ rfl
            have p2 : W6.cell? ⟨w.heap.size, 2, none⟩ = some (.int .i64 ((i : Int) + 1)) := put_cell hbq 2 _ rfl
            have p3 : W6.cell? ⟨w.heap.size, 3, none⟩ = some (ux) := put_cell hbq 3 _ rfl
            have l0 : W6.cell? ⟨w.heap.size + 1, 0, none⟩ = some (.int .i64 ky) := put_cell hbk6 0 _ rfl
            have l1 : W6.cell? ⟨w.heap.size + 1, 1, none⟩ = some (.string ny) := put_cell hbk6 1 _ rfl
            have l2 : W6.cell? ⟨w.heap.size + 1, 2, none⟩ = some (.int .i64 my) := put_cell hbk6 2 _ rfl
            have l3 : W6.cell? ⟨w.heap.size + 1, 3, none⟩ = some (.slice oY (argsV y).length cY) := put_cell hbk6 3 _ rfl
            clear hW5 hW6 hth5 hth6 hbk5 hbk6 hkk5 hkk6 hne5 hne6 hsz5 hsz6 hb46 hqq hS4 hS6 hx hy hX6 hY6 hbq hXA hXB hK4
            obtain ⟨WW, hWW⟩ : ∃ WW, WW = W6 := ⟨_, rfl⟩
            subst hWW
            have HSW := HS6; have HKW := HK6; have HWX := HBX; have HWY := HBY
            clear HS6 HK6 HBX HBY HX6
            have HM : Hid (Calls Try.prog 43 #[.pointer (some ⟨r, 0, none⟩), .agg #[.int .i64 ky, .string ny, .int .i64 my, .slice oY (argsV y).length cY], .int .i64 ((i : Int) + 1), .int .i64 0] WW fun e w' => ∃ c' : Nat, e = .returned (.tuple #[.int .i64 (c' : Int), .int .i64 (lkT h ((i : Int) + 1) m 0 y).1]) ∧ ((lkT h ((i : Int) + 1) m 0 y).1 = 0 → c' = (lkT h ((i : Int) + 1) m 0 y).2) ∧ Below WW.heap.size WW w') := hideR (t_dMet m WW y _ 0 HSW.out HY6.out (by omega) (by omega))
            have HRU : Hid (R = ((lkT h ((i : Int) + 1) m 0 y).1, c + 1, if (lkT h ((i : Int) + 1) m 0 y).1 = 0 then bdH h i y else h)) := hideR (by rw [hRU]; unfold unB; rw [idx_vr, num_vr])
            clear hRU
            generalize hz9 : (lkT h ((i : Int) + 1) m 0 y).1 = z at *
            clear hz9
            go_upto_region 5 with (first | (refine wpList_store_mid rfl 34 (.tmp 4) (.tmp 25) rfl w.heap.size 0 #[.int .i64 2, .string e0, .int .i64 ((i : Int) + 1), ux] rfl rfl HTH5.out sizeTy' (by simp [Value.oneCell'] at hux ⊢; exact hux) ?_; rw [HW5.out]) | (refine wpList_store_mid rfl 34 (.tmp 5) (.tmp 28) rfl (w.heap.size + 1) 0 #[.int .i64 ky, .string ny, .int .i64 my, .slice oY (argsV y).length cY] rfl rfl HTH6.out sizeTy' (by simp [Value.oneCell']) ?_; rw [HW6.out]) | fail)
            go_wp2_with fail
            refine Calls.mono (show Calls _ _ _ _ _ from HM.out) ?_
            rintro e w7 ⟨c', rfl, _, hb7⟩
            have hS7 := HSW.out.bel hb7
            have hT7 := HY6.out.bel hb7
            have hK7 := HKW.out.of hb7 HKW.out.size
            have hbx := (hb7.block _ (Array.getElem?_eq_some_iff.1 HWX.out).1).trans HWX.out
            have hby := (hb7.block _ (Array.getElem?_eq_some_iff.1 HWY.out).1).trans HWY.out
            by_cases hz : z = 0
            · subst hz
              have HRR : Hid (R = (0, c + 1, bdH h i y)) := hideR (by rw [HRU.out, if_pos rfl])
              obtain ⟨hrb, g, cap, cur, hvs, hgg, hgc, hn4⟩ := hS7.form (by omega)
              subst hvs
              have hown : (Value.slice (some ⟨g, 0, none⟩) n cap).ownBlock = some g := rfl
              have hwj := wrapS (j := i) (by omega)
              have hwj2 : IntKind.i64.wrap ((i : Int) + 1 - 1) = (i : Int) := by rw [IntKind.wrap_i64]; omega
              obtain ⟨hS9, hK9⟩ := hS7.bind hii hui hT7 HZO.out hnei hown
              have HTH9 := hideR (there_at (o := i * 4) (n := 4) hgg (by omega))
              have HGG := hideR (fun (u : World) (hu : Below w7.heap.size w7 u) => (hu.block g (Array.getElem?_eq_some_iff.1 hgg).1).trans hgg)
              have HS7 := hideR hS7
              have HT7 := hideR hT7
              have HK7 := hideR hK7
              have HGC := hideR (show i * 4 + 4 ≤ cur.size by omega)
              have c0 := put_cell hrb 0 _ rfl
              have z2 := put_cell hbx 2 _ rfl
              have y0 := put_cell hby 0 _ rfl
              have y1 := put_cell hby 1 _ rfl
              have y2 := put_cell hby 2 _ rfl
              have y3 := put_cell hby 3 _ rfl
              have HFA := hideR (And.intro c0 (And.intro z2 (And.intro y0 (And.intro y1 (And.intro y2 y3)))))
              clear hS9 hK9 HRU HM hbx hby hS7 hT7 hK7 hb7 hrb hgg hgc c0 z2 y0 y1 y2 y3
              go_upto_region 13 with fail
              obtain ⟨TL, hTL⟩ : ∃ TL : List Value, TL = [.pointer (some ⟨r, 0, none⟩), .pointer (some ⟨r, 0, none⟩), .pointer (some ⟨r, 0, none⟩), .slice (some ⟨g, 0, none⟩) n cap, .pointer (some ⟨w.heap.size, 2, none⟩), .int .i64 ((i : Int) + 1), .int .i64 (i : Int), .agg #[.int .i64 ky, .string ny, .int .i64 my, .slice oY (argsV y).length cY], .pointer (some ⟨g, i * 4, none⟩)] := ⟨_, rfl⟩
              have HTL := hideR hTL
              clear hTL
              refine Reg.wp_region_two 9 (fun i => 68 + i) (fun i v u => v = TL.getD i undef) (by kernel_rfl) (by kernel_rfl) (fun i1 i2 h1 h2 h => by have h' : 68 + i1 = 68 + i2 := h; omega) (Reg.dst_ok (dst := fun i => 68 + i) (size := 120) (by kernel_rfl)) (fun i v u u' _ h hb => h) ?hstep ?htail
              case hstep =>
                intro i9 o' a9 u9 hi9 ho hF hB hd
                have f0 : a9.tmps[0]?.getD undef = .pointer (some ⟨r, 0, none⟩) := Reg.ev_get (hF.eval 0 (fun i hi => by show 68 + i ≠ 0; omega))
                have f4 : a9.tmps[4]?.getD undef = .pointer (some ⟨w.heap.size, 0, none⟩) := Reg.ev_get (hF.eval 4 (fun i hi => by show 68 + i ≠ 4; omega))
                have f5 : a9.tmps[5]?.getD undef = .pointer (some ⟨w.heap.size + 1, 0, none⟩) := Reg.ev_get (hF.eval 5 (fun i hi => by show 68 + i ≠ 5; omega))
                obtain ⟨c0, z2, y0, y1, y2, y3⟩ := HFA.out
                have c0 := cell_on hB c0
                have z2 := cell_on hB z2
                have y0 := cell_on hB y0
                have y1 := cell_on hB y1
                have y2 := cell_on hB y2
                have y3 := cell_on hB y3
                have hd2 : ∀ j2 ∈ Reg.deps o', a9.tmps[68 + j2]?.getD undef = TL.getD j2 undef := fun j2 hj2 => Reg.ev_get (hd j2 hj2)
                have hTL := HTL.out
                subst hTL
                clear hd
                rcases (by omega : i9 = 0 ∨ i9 = 1 ∨ i9 = 2 ∨ i9 = 3 ∨ i9 = 4 ∨ i9 = 5 ∨ i9 = 6 ∨ i9 = 7 ∨ i9 = 8) with rfl | rfl | rfl | rfl | rfl | rfl | rfl | rfl | rfl
                all_goals (
                  simp only [List.getElem?_toArray, List.getElem?_cons_succ, List.getElem?_cons_zero, Option.some.injEq] at ho
                  subst ho
                  refine Reg.step_k fun K hK => ?_
                  simp [Reg.deps, Region.binds] at hd2
                  go_simp
                  first
                  | exact hK _ _ ⟨_, rfl, Below.refl _ _, rfl⟩
                  | exact hK _ _ ⟨_, rfl, Below.refl _ _, by simp [*]⟩)
              case htail =>
                intro a9 u9 hF hB hG
                obtain ⟨xl, hxl, rfl, hev⟩ := hF.lit (by simp)
                obtain ⟨t0, t1, t2, t3, t4, t5, t6, t7, t8, rfl⟩ := tlen9 hxl
                have h7 := hG 7 (by decide)
                have h8 := hG 8 (by decide)
                rw [HTL.out] at h7 h8
                have e7 : t7 = .agg #[.int .i64 ky, .string ny, .int .i64 my, .slice oY (argsV y).length cY] := (hev 7 (by decide)).symm.trans h7
                have e8 : t8 = .pointer (some ⟨g, i * 4, none⟩) := (hev 8 (by decide)).symm.trans h8
                subst e7 e8
                obtain ⟨hS9, hK9⟩ := (HS7.out.bel hB).bind hii hui (HT7.out.bel hB) HZO.out hnei hown
                have HTH9 := hideR (there_at (o := i * 4) (n := 4) (HGG.out u9 hB) HGC.out)
                obtain ⟨W9, hW9⟩ : ∃ W9, u9.setCells g (i * 4) (#[.int .i64 ky, .string ny, .int .i64 my, .slice oY (argsV y).length cY] : Array Value).toList = W9 := ⟨_, rfl⟩
                have HS9 : Hid (DO S B n (bdH h i y) r (.slice (some ⟨g, 0, none⟩) n cap) ((c + 1 : Nat) : Int) W9) := hideR (by rw [← hW9]; exact hS9.back HS0.out fun k => .inl)
                have HK9 : Hid (Kp r (Value.slice (some ⟨g, 0, none⟩) n cap).ownBlock w W9) := hideR (by rw [← hW9]; exact (HK7.out.of hB HK7.out.size).trans (hK9.kp r))
                have HW9 := hideR hW9
                clear hev hxl hF hG h7 h8 hB hS9 hK9 hW9 HTL HFA HGG HS7 HT7 HK7
                simp only [List.take_succ_cons, List.take_zero, List.drop_succ_cons, List.drop_zero, List.cons_append, List.nil_append]
                go_wp2_with (refine wpList_store_mid rfl 34 (.tmp 76) (.tmp 75) rfl g (i * 4) #[.int .i64 ky, .string ny, .int .i64 my, .slice oY (argsV y).length cY] rfl rfl HTH9.out sizeTy' (by simp [Value.oneCell']) ?_; rw [HW9.out])
                refine bodyPost_ret (v := .int .i64 0) (by simp [results, Try.results40, go_sem]) rfl (PrS.of HRR.out (c + 1) (fun _ => rfl) HS9.out HK9.out)
            · have q9 : (z != 0) = true := bne_iff_ne.2 hz
              have HRR : Hid (R = (z, c + 1, h)) := hideR (by rw [HRU.out, if_neg hz])
              have HS7 : Hid (DO S B n h r vs ((c + 1 : Nat) : Int) w7) := hideR (hS7.back HS0.out fun k => .inl)
              have HK7 := hideR hK7
              have HZN := hideR hz
              clear HRU HM hbx hby hS7 hT7 hK7 hb7 hz
              go_wp2
              refine bodyPost_ret (v := .int .i64 z) (by simp [results, Try.results40, go_sem]) rfl (PrS.of HRR.out (c + 1) (fun h => absurd h HZN.out) HS7.out HK7.out)
        · rcases hy.split with ⟨j, uy, hij, rfl, rfl, huy⟩ | ⟨ky, ny, my, oY, cY, hky, rfl, hky2, hky3, hny⟩
          · have huj : h j = vr j := by have h1 := hzy; rw [endT_vr] at h1; exact h1
            have hRU : R = unB m (c + 1) h (vr j) x := by rw [HR.out]; unfold unN; rw [if_neg hkx2, if_pos (kind_vr j)]
            have hnej : x ≠ vr j := fun e => hkx2 (by rw [e]; exact kind_vr j)
            have HZO := hideR hzx
            have q3 : (kx == 2) = false := by simpa using hkx
            have q4 : (kx != 2) = true := bne_iff_ne.2 hkx
            have hij' := hij
            clear HR HIH hzx hzy hkx hkx2 hkx3 hnx
            obtain ⟨W5, hW5, hth5, hbk5, hkk5, hne5, hsz5⟩ := put4k (w := w) (q := w.heap.size) (z := #[.int .i64 k0, .string x0, .int .i64 m0, u0]) (vs := #[.int .i64 kx, .string nx, .int .i64 mx, .slice oX (argsV x).length cX]) rfl hXA hK4 (Nat.le_refl _)
            obtain ⟨W6, hW6, hth6, hbk6, hkk6, hne6, hsz6⟩ := put4k (w := w) (q := w.heap.size + 1) (z := #[.int .i64 k9, .string x9, .int .i64 m9, u9]) (vs := #[.int .i64 2, .string e0, .int .i64 ((j : Int) + 1), uy]) rfl ((hne5 _ (by omega)).trans hXB) hkk5 (Nat.le_succ _)
            have HW5 := hideR hW5; have HW6 := hideR hW6; have HTH5 := hideR hth5; have HTH6 := hideR hth6
            have hb46 : ∀ k, ¬ (fun k => S k ∨ k = w.heap.size ∨ k = w.heap.size + 1) k → k < u4.heap.size → W6.heap[k]? = u4.heap[k]? := fun k hk _ => (hne6 k (fun e => hk (.inr (.inr e)))).trans (hne5 k (fun e => hk (.inr (.inl e))))
            have hqq := HQ.out
            have hS6 : DO (fun k => S k ∨ k = w.heap.size ∨ k = w.heap.size + 1) B n h r vs ((c : Int) + 1) W6 := hS4.kpW ((hne6 r (Ne.symm hqq.1.2)).trans (hne5 r (Ne.symm hqq.1.1))) (fun k e => (hne6 k (fun e2 => hqq.2.2 (by rw [e, e2]))).trans (hne5 k (fun e2 => hqq.2.1 (by rw [e, e2])))) hb46
            have hX6 := hx.on hb46 (fun _ _ h => h)
            have hY6 := hy.on hb46 (fun _ _ h => h)
            have hbq := (hne6 w.heap.size (by omega)).trans hbk5
            have HBX := hideR hbq
            have HBY := hideR hbk6
            have HS6 := hideR hS6
            have HX6 := hideR hX6
            have HY6 := hideR hY6
            have HK6 := hideR hkk6
            have p0 : W6.cell? ⟨w.heap.size, 0, none⟩ = some (.int .i64 kx) := put_cell hbq 0 _ rfl
            have p1 : W6.cell? ⟨w.heap.size, 1, none⟩ = some (.string nx) := put_cell hbq 1 _ rfl
            have p2 : W6.cell? ⟨w.heap.size, 2, none⟩ = some (.int .i64 mx) := put_cell hbq 2 _ rfl
            have p3 : W6.cell? ⟨w.heap.size, 3, none⟩ = some (.slice oX (argsV x).length cX) := put_cell hbq 3 _ rfl
            have l0 : W6.cell? ⟨w.heap.size + 1, 0, none⟩ = some (.int .i64 2) := put_cell hbk6 0 _ rfl
            have l1 : W6.cell? ⟨w.heap.size + 1, 1, none⟩ = some (.string e0) := put_cell hbk6 1 _ rfl
            have l2 : W6.cell? ⟨w.heap.size + 1, 2, none⟩ = some (.int .i64 ((j : Int) + 1)) := put_cell hbk6 2 _ rfl
            have l3 : W6.cell? ⟨w.heap.size + 1, 3, none⟩ = some (uy) := put_cell hbk6 3 _ rfl
            clear hW5 hW6 hth5 hth6 hbk5 hbk6 hkk5 hkk6 hne5 hne6 hsz5 hsz6 hb46 hqq hS4 hS6 hx hy hX6 hY6 hbq hXA hXB hK4
            obtain ⟨W7, hW7, hth7, hbk7, hkk7, hne7, hsz7⟩ := put4k (w := w) (q := w.heap.size) (z := #[.int .i64 kx, .string nx, .int .i64 mx, .slice oX (argsV x).length cX]) (vs := #[.int .i64 2, .string e0, .int .i64 ((j : Int) + 1), uy]) rfl HBX.out HK6.out (Nat.le_refl _)
            obtain ⟨W8, hW8, hth8, hbk8, hkk8, hne8, hsz8⟩ := put4k (w := w) (q := w.heap.size + 1) (z := #[.int .i64 2, .string e0, .int .i64 ((j : Int) + 1), uy]) (vs := #[.int .i64 kx, .string nx, .int .i64 mx, .slice oX (argsV x).length cX]) rfl ((hne7 _ (by omega)).trans HBY.out) hkk7 (Nat.le_succ _)
            have HW7 := hideR hW7; have HW8 := hideR hW8; have HTH7 := hideR hth7; have HTH8 := hideR hth8
            have hb68 : ∀ k, ¬ (fun k => S k ∨ k = w.heap.size ∨ k = w.heap.size + 1) k → k < W6.heap.size → W8.heap[k]? = W6.heap[k]? := fun k hk _ => (hne8 k (fun e => hk (.inr (.inr e)))).trans (hne7 k (fun e => hk (.inr (.inl e))))
            have hqq := HQ.out
            have hS8 : DO (fun k => S k ∨ k = w.heap.size ∨ k = w.heap.size + 1) B n h r vs ((c : Int) + 1) W8 := HS6.out.kpW ((hne8 r (Ne.symm hqq.1.2)).trans (hne7 r (Ne.symm hqq.1.1))) (fun k e => (hne8 k (fun e2 => hqq.2.2 (by rw [e, e2]))).trans (hne7 k (fun e2 => hqq.2.1 (by rw [e, e2])))) hb68
            have HX8 := hideR (HX6.out.on hb68 (fun _ _ h => h))
            have hbq := (hne8 w.heap.size (by omega)).trans hbk7
            have p0' := put_cell hbq 0 _ rfl
            have p2' := put_cell hbq 2 _ rfl
            have l0' := put_cell hbk8 0 _ rfl
            have l1' := put_cell hbk8 1 _ rfl
            have l2' := put_cell hbk8 2 _ rfl
            have l3' := put_cell hbk8 3 _ rfl
            have HSW := hideR hS8
            have HKW := hideR hkk8
            have HWX := hideR hbq
            have HWY := hideR hbk8
            clear hW7 hW8 hth7 hth8 hbk7 hbk8 hkk7 hkk8 hne7 hne8 hsz7 hsz8 hb68 hqq hS8 hbq HS6 HX6 HY6 HK6 HBX HBY
            obtain ⟨WW, hWW⟩ : ∃ WW, WW = W8 := ⟨_, rfl⟩
            subst hWW
            have HM : Hid (Calls Try.prog 43 #[.pointer (some ⟨r, 0, none⟩), .agg #[.int .i64 kx, .string nx, .int .i64 mx, .slice oX (argsV x).length cX], .int .i64 ((j : Int) + 1), .int .i64 0] WW fun e w' => ∃ c' : Nat, e = .returned (.tuple #[.int .i64 (c' : Int), .int .i64 (lkT h ((j : Int) + 1) m 0 x).1]) ∧ ((lkT h ((j : Int) + 1) m 0 x).1 = 0 → c' = (lkT h ((j : Int) + 1) m 0 x).2) ∧ Below WW.heap.size WW w') := hideR (t_dMet m WW x _ 0 HSW.out HX8.out (by omega) (by omega))
            have HRU : Hid (R = ((lkT h ((j : Int) + 1) m 0 x).1, c + 1, if (lkT h ((j : Int) + 1) m 0 x).1 = 0 then bdH h j x else h)) := hideR (by rw [hRU]; unfold unB; rw [idx_vr, num_vr])
            clear hRU
            generalize hz9 : (lkT h ((j : Int) + 1) m 0 x).1 = z at *
            clear hz9
            go_upto_region 5 with (first | (refine wpList_store_mid rfl 34 (.tmp 4) (.tmp 25) rfl w.heap.size 0 #[.int .i64 kx, .string nx, .int .i64 mx, .slice oX (argsV x).length cX] rfl rfl HTH5.out sizeTy' (by simp [Value.oneCell']) ?_; rw [HW5.out]) | (refine wpList_store_mid rfl 34 (.tmp 5) (.tmp 28) rfl (w.heap.size + 1) 0 #[.int .i64 2, .string e0, .int .i64 ((j : Int) + 1), uy] rfl rfl HTH6.out sizeTy' (by simp [Value.oneCell'] at huy ⊢; exact huy) ?_; rw [HW6.out]) | fail)
            go_upto_region 8 with fail
            go_upto_region 9 with (first | (refine wpList_store_mid rfl 34 (.tmp 4) (.tmp 52) rfl w.heap.size 0 #[.int .i64 2, .string e0, .int .i64 ((j : Int) + 1), uy] rfl rfl HTH7.out sizeTy' (by simp [Value.oneCell'] at huy ⊢; exact huy) ?_; rw [HW7.out]) | (refine wpList_store_mid rfl 34 (.tmp 5) (.tmp 53) rfl (w.heap.size + 1) 0 #[.int .i64 kx, .string nx, .int .i64 mx, .slice oX (argsV x).length cX] rfl rfl HTH8.out sizeTy' (by simp [Value.oneCell']) ?_; rw [HW8.out]) | fail)
            go_wp2_with fail
            refine Calls.mono (show Calls _ _ _ _ _ from HM.out) ?_
            rintro e w7 ⟨c', rfl, _, hb7⟩
            have hS7 := HSW.out.bel hb7
            have hT7 := HX8.out.bel hb7
            have hK7 := HKW.out.of hb7 HKW.out.size
            have hbx := (hb7.block _ (Array.getElem?_eq_some_iff.1 HWX.out).1).trans HWX.out
            have hby := (hb7.block _ (Array.getElem?_eq_some_iff.1 HWY.out).1).trans HWY.out
            by_cases hz : z = 0
            · subst hz
              have HRR : Hid (R = (0, c + 1, bdH h j x)) := hideR (by rw [HRU.out, if_pos rfl])
              obtain ⟨hrb, g, cap, cur, hvs, hgg, hgc, hn4⟩ := hS7.form (by omega)
              subst hvs
              have hown : (Value.slice (some ⟨g, 0, none⟩) n cap).ownBlock = some g := rfl
              have hwj := wrapS (j := j) (by omega)
              have hwj2 : IntKind.i64.wrap ((j : Int) + 1 - 1) = (j : Int) := by rw [IntKind.wrap_i64]; omega
              obtain ⟨hS9, hK9⟩ := hS7.bind hij huj hT7 HZO.out hnej hown
              have HTH9 := hideR (there_at (o := j * 4) (n := 4) hgg (by omega))
              have HGG := hideR (fun (u : World) (hu : Below w7.heap.size w7 u) => (hu.block g (Array.getElem?_eq_some_iff.1 hgg).1).trans hgg)
              have HS7 := hideR hS7
              have HT7 := hideR hT7
              have HK7 := hideR hK7
              have HGC := hideR (show j * 4 + 4 ≤ cur.size by omega)
              have c0 := put_cell hrb 0 _ rfl
              have z2 := put_cell hbx 2 _ rfl
              have y0 := put_cell hby 0 _ rfl
              have y1 := put_cell hby 1 _ rfl
              have y2 := put_cell hby 2 _ rfl
              have y3 := put_cell hby 3 _ rfl
              have HFA := hideR (And.intro c0 (And.intro z2 (And.intro y0 (And.intro y1 (And.intro y2 y3)))))
              clear hS9 hK9 HRU HM hbx hby hS7 hT7 hK7 hb7 hrb hgg hgc c0 z2 y0 y1 y2 y3
              go_upto_region 13 with fail
              obtain ⟨TL, hTL⟩ : ∃ TL : List Value, TL = [.pointer (some ⟨r, 0, none⟩), .pointer (some ⟨r, 0, none⟩), .pointer (some ⟨r, 0, none⟩), .slice (some ⟨g, 0, none⟩) n cap, .pointer (some ⟨w.heap.size, 2, none⟩), .int .i64 ((j : Int) + 1), .int .i64 (j : Int), .agg #[.int .i64 kx, .string nx, .int .i64 mx, .slice oX (argsV x).length cX], .pointer (some ⟨g, j * 4, none⟩)] := ⟨_, rfl⟩
              have HTL := hideR hTL
              clear hTL
              refine Reg.wp_region_two 9 (fun i => 68 + i) (fun i v u => v = TL.getD i undef) (by kernel_rfl) (by kernel_rfl) (fun i1 i2 h1 h2 h => by have h' : 68 + i1 = 68 + i2 := h; omega) (Reg.dst_ok (dst := fun i => 68 + i) (size := 120) (by kernel_rfl)) (fun i v u u' _ h hb => h) ?hstep ?htail
              case hstep =>
                intro i9 o' a9 u9 hi9 ho hF hB hd
                have f0 : a9.tmps[0]?.getD undef = .pointer (some ⟨r, 0, none⟩) := Reg.ev_get (hF.eval 0 (fun i hi => by show 68 + i ≠ 0; omega))
                have f4 : a9.tmps[4]?.getD undef = .pointer (some ⟨w.heap.size, 0, none⟩) := Reg.ev_get (hF.eval 4 (fun i hi => by show 68 + i ≠ 4; omega))
                have f5 : a9.tmps[5]?.getD undef = .pointer (some ⟨w.heap.size + 1, 0, none⟩) := Reg.ev_get (hF.eval 5 (fun i hi => by show 68 + i ≠ 5; omega))
                obtain ⟨c0, z2, y0, y1, y2, y3⟩ := HFA.out
                have c0 := cell_on hB c0
                have z2 := cell_on hB z2
                have y0 := cell_on hB y0
                have y1 := cell_on hB y1
                have y2 := cell_on hB y2
                have y3 := cell_on hB y3
                have hd2 : ∀ j2 ∈ Reg.deps o', a9.tmps[68 + j2]?.getD undef = TL.getD j2 undef := fun j2 hj2 => Reg.ev_get (hd j2 hj2)
                have hTL := HTL.out
                subst hTL
                clear hd
                rcases (by omega : i9 = 0 ∨ i9 = 1 ∨ i9 = 2 ∨ i9 = 3 ∨ i9 = 4 ∨ i9 = 5 ∨ i9 = 6 ∨ i9 = 7 ∨ i9 = 8) with rfl | rfl | rfl | rfl | rfl | rfl | rfl | rfl | rfl
                all_goals (
                  simp only [List.getElem?_toArray, List.getElem?_cons_succ, List.getElem?_cons_zero, Option.some.injEq] at ho
                  subst ho
                  refine Reg.step_k fun K hK => ?_
                  simp [Reg.deps, Region.binds] at hd2
                  go_simp
                  first
                  | exact hK _ _ ⟨_, rfl, Below.refl _ _, rfl⟩
                  | exact hK _ _ ⟨_, rfl, Below.refl _ _, by simp [*]⟩)
              case htail =>
                intro a9 u9 hF hB hG
                obtain ⟨xl, hxl, rfl, hev⟩ := hF.lit (by simp)
                obtain ⟨t0, t1, t2, t3, t4, t5, t6, t7, t8, rfl⟩ := tlen9 hxl
                have h7 := hG 7 (by decide)
                have h8 := hG 8 (by decide)
                rw [HTL.out] at h7 h8
                have e7 : t7 = .agg #[.int .i64 kx, .string nx, .int .i64 mx, .slice oX (argsV x).length cX] := (hev 7 (by decide)).symm.trans h7
                have e8 : t8 = .pointer (some ⟨g, j * 4, none⟩) := (hev 8 (by decide)).symm.trans h8
                subst e7 e8
                obtain ⟨hS9, hK9⟩ := (HS7.out.bel hB).bind hij huj (HT7.out.bel hB) HZO.out hnej hown
                have HTH9 := hideR (there_at (o := j * 4) (n := 4) (HGG.out u9 hB) HGC.out)
                obtain ⟨W9, hW9⟩ : ∃ W9, u9.setCells g (j * 4) (#[.int .i64 kx, .string nx, .int .i64 mx, .slice oX (argsV x).length cX] : Array Value).toList = W9 := ⟨_, rfl⟩
                have HS9 : Hid (DO S B n (bdH h j x) r (.slice (some ⟨g, 0, none⟩) n cap) ((c + 1 : Nat) : Int) W9) := hideR (by rw [← hW9]; exact hS9.back HS0.out fun k => .inl)
                have HK9 : Hid (Kp r (Value.slice (some ⟨g, 0, none⟩) n cap).ownBlock w W9) := hideR (by rw [← hW9]; exact (HK7.out.of hB HK7.out.size).trans (hK9.kp r))
                have HW9 := hideR hW9
                clear hev hxl hF hG h7 h8 hB hS9 hK9 hW9 HTL HFA HGG HS7 HT7 HK7
                simp only [List.take_succ_cons, List.take_zero, List.drop_succ_cons, List.drop_zero, List.cons_append, List.nil_append]
                go_wp2_with (refine wpList_store_mid rfl 34 (.tmp 76) (.tmp 75) rfl g (j * 4) #[.int .i64 kx, .string nx, .int .i64 mx, .slice oX (argsV x).length cX] rfl rfl HTH9.out sizeTy' (by simp [Value.oneCell']) ?_; rw [HW9.out])
                refine bodyPost_ret (v := .int .i64 0) (by simp [results, Try.results40, go_sem]) rfl (PrS.of HRR.out (c + 1) (fun _ => rfl) HS9.out HK9.out)
            · have q9 : (z != 0) = true := bne_iff_ne.2 hz
              have HRR : Hid (R = (z, c + 1, h)) := hideR (by rw [HRU.out, if_neg hz])
              have HS7 : Hid (DO S B n h r vs ((c + 1 : Nat) : Int) w7) := hideR (hS7.back HS0.out fun k => .inl)
              have HK7 := hideR hK7
              have HZN := hideR hz
              clear HRU HM hbx hby hS7 hT7 hK7 hb7 hz
              go_wp2
              refine bodyPost_ret (v := .int .i64 z) (by simp [results, Try.results40, go_sem]) rfl (PrS.of HRR.out (c + 1) (fun h => absurd h HZN.out) HS7.out HK7.out)
          · have q3 : (kx == 2) = false := by simpa using hkx
            have q4 : (kx != 2) = true := bne_iff_ne.2 hkx
            have q5 : (ky == 2) = false := by simpa using hky
            have hR0 : R = (if kx = ky ∧ nx = ny ∧ (argsV x).length = (argsV y).length then unL (unT m f) (c + 1) h (argsV x) (argsV y) else (150, c + 1, h)) := by rw [HR.out]; unfold unN; rw [if_neg hkx2, if_neg hky2, hkx3, hky3, hnx, hny]
            clear HR hzx hzy hkx hkx2 hkx3 hky hky2 hky3 hnx hny
            obtain ⟨W5, hW5, hth5, hbk5, hkk5, hne5, hsz5⟩ := put4k (w := w) (q := w.heap.size) (z := #[.int .i64 k0, .string x0, .int .i64 m0, u0]) (vs := #[.int .i64 kx, .string nx, .int .i64 mx, .slice oX (argsV x).length cX]) rfl hXA hK4 (Nat.le_refl _)
            obtain ⟨W6, hW6, hth6, hbk6, hkk6, hne6, hsz6⟩ := put4k (w := w) (q := w.heap.size + 1) (z := #[.int .i64 k9, .string x9, .int .i64 m9, u9]) (vs := #[.int .i64 ky, .string ny, .int .i64 my, .slice oY (argsV y).length cY]) rfl ((hne5 _ (by omega)).trans hXB) hkk5 (Nat.le_succ _)
            have HW5 := hideR hW5; have HW6 := hideR hW6; have HTH5 := hideR hth5; have HTH6 := hideR hth6
            have hb46 : ∀ k, ¬ (fun k => S k ∨ k = w.heap.size ∨ k = w.heap.size + 1) k → k < u4.heap.size → W6.heap[k]? = u4.heap[k]? := fun k hk _ => (hne6 k (fun e => hk (.inr (.inr e)))).trans (hne5 k (fun e => hk (.inr (.inl e))))
            have hqq := HQ.out
            have hS6 : DO (fun k => S k ∨ k = w.heap.size ∨ k = w.heap.size + 1) B n h r vs ((c : Int) + 1) W6 := hS4.kpW ((hne6 r (Ne.symm hqq.1.2)).trans (hne5 r (Ne.symm hqq.1.1))) (fun k e => (hne6 k (fun e2 => hqq.2.2 (by rw [e, e2]))).trans (hne5 k (fun e2 => hqq.2.1 (by rw [e, e2])))) hb46
            have hX6 := hx.on hb46 (fun _ _ h => h)
            have hY6 := hy.on hb46 (fun _ _ h => h)
            have hbq := (hne6 w.heap.size (by omega)).trans hbk5
            have HBX := hideR hbq
            have HBY := hideR hbk6
            have HS6 := hideR hS6
            have HX6 := hideR hX6
            have HY6 := hideR hY6
            have HK6 := hideR hkk6
            have p0 : W6.cell? ⟨w.heap.size, 0, none⟩ = some (.int .i64 kx) := put_cell hbq 0 _ rfl
            have p1 : W6.cell? ⟨w.heap.size, 1, none⟩ = some (.string nx) := put_cell hbq 1 _ rfl
            have p2 : W6.cell? ⟨w.heap.size, 2, none⟩ = some (.int .i64 mx) := put_cell hbq 2 _ rfl
            have p3 : W6.cell? ⟨w.heap.size, 3, none⟩ = some (.slice oX (argsV x).length cX) := put_cell hbq 3 _ rfl
            have l0 : W6.cell? ⟨w.heap.size + 1, 0, none⟩ = some (.int .i64 ky) := put_cell hbk6 0 _ rfl
            have l1 : W6.cell? ⟨w.heap.size + 1, 1, none⟩ = some (.string ny) := put_cell hbk6 1 _ rfl
            have l2 : W6.cell? ⟨w.heap.size + 1, 2, none⟩ = some (.int .i64 my) := put_cell hbk6 2 _ rfl
            have l3 : W6.cell? ⟨w.heap.size + 1, 3, none⟩ = some (.slice oY (argsV y).length cY) := put_cell hbk6 3 _ rfl
            clear hW5 hW6 hth5 hth6 hbk5 hbk6 hkk5 hkk6 hne5 hne6 hsz5 hsz6 hb46 hqq hS4 hS6 hx hy hX6 hY6 hbq hXA hXB hK4
            by_cases hk : kx = ky
            · subst hk
              have q6 : (kx != kx) = false := by simp
              by_cases hxn : nx = ny
              · subst hxn
                have r2 : (nx.toList == nx.toList) = true := by simp
                have p2n : (nx.toList != nx.toList) = false := by simp
                by_cases hln : (argsV x).length = (argsV y).length
                · have q7 : (((argsV x).length : Int) != ((argsV y).length : Int)) = false := by rw [hln]; simp
                  have HST : Hid (unL (unT m f) (c + 1) h ((argsV x).drop 0) ((argsV y).drop 0) = R) := hideR (by rw [hR0, if_pos ⟨rfl, rfl, hln⟩]; rfl)
                  obtain ⟨_, _, _, oX', cX', hvX, _, _, hlX, heX⟩ := HX6.out.open_
                  obtain ⟨_, _, _, oY', cY', hvY, _, _, hlY, heY⟩ := HY6.out.open_
                  injection hvX with hvX
                  injection hvY with hvY
                  simp only [Array.mk.injEq, List.cons.injEq, Value.slice.injEq, and_true, true_and] at hvX hvY
                  obtain ⟨_, _, _, rfl, rfl⟩ := hvX
                  obtain ⟨_, _, _, rfl, rfl⟩ := hvY
                  have HSK : Hid (DO S B n h r vs ((c + 1 : Nat) : Int) W6) := hideR (HS6.out.back HS0.out fun k => .inl)
                  have HLN := hideR (And.intro hln hlX)
                  clear hR0 hln hlX hlY heX heY HS6
                  go_upto_region 5 with (first | (refine wpList_store_mid rfl 34 (.tmp 4) (.tmp 25) rfl w.heap.size 0 #[.int .i64 kx, .string nx, .int .i64 mx, .slice oX (argsV x).length cX] rfl rfl HTH5.out sizeTy' (by simp [Value.oneCell']) ?_; rw [HW5.out]) | (refine wpList_store_mid rfl 34 (.tmp 5) (.tmp 28) rfl (w.heap.size + 1) 0 #[.int .i64 kx, .string nx, .int .i64 my, .slice oY (argsV y).length cY] rfl rfl HTH6.out sizeTy' (by simp [Value.oneCell']) ?_; rw [HW6.out]) | fail)
                  go_wp2_with fail
                  clear p0 p1 p2 p3 l0 l1 l2 l3
                  go_loopw [9] (fun a9 u => ∃ (i c1 : Nat) (h1 : Nat → Value), a9 = .int .i64 i ∧ i ≤ (argsV x).length ∧ Hid (unL (unT m f) c1 h1 ((argsV x).drop i) ((argsV y).drop i) = R) ∧ Hid (DO S B n h1 r vs (c1 : Int) u) ∧ Hid (Kp r vs.ownBlock W6 u) ∧ Hid (65537 ≤ c1 + f ∧ c1 ≤ 65536)) (fun a9 _ => match a9 with | .int _ i => (argsV x).length - i.toNat | _ => 0)
                  case atStart => exact ⟨0, c + 1, h, rfl, Nat.zero_le _, HST, HSK, hideR (Kp.refl _ _ _), HC⟩
                  case round =>
                    obtain ⟨i, c1, h1, rfl, hi, HN, HSr, HKr, HCr⟩ := hrel
                    clear HST HSK HC
                    have hqq := HQ.out
                    have hxr := HX6.out.kp HKr.out HSR.out.1 HSR.out.2
                    have hyr := HY6.out.kp HKr.out HSR.out.1 HSR.out.2
                    have hbx := kp_ne HKr.out HBX.out hqq.1.1 hqq.2.1
                    have hby := kp_ne HKr.out HBY.out hqq.1.2 hqq.2.2
                    have g3 := put_cell hbx 3 _ rfl
                    have l3 := put_cell hby 3 _ rfl
                    by_cases hp : i < (argsV x).length
                    · have q1 : decide ((i : Int) < ((argsV x).length : Int)) = true := decide_eq_true (Int.ofNat_lt.2 hp)
                      have hw2 := wrapI hp HLN.out.2
                      obtain ⟨t1, ht1⟩ : ∃ t1, (argsV x)[i]? = some t1 := ⟨_, List.getElem?_eq_getElem hp⟩
                      have hpy : i < (argsV y).length := HLN.out.1 ▸ hp
                      obtain ⟨t2, ht2⟩ : ∃ t2, (argsV y)[i]? = some t2 := ⟨_, List.getElem?_eq_getElem hpy⟩
                      obtain ⟨_, _, _, oX', cX', hvX, _, _, _, heX⟩ := hxr.open_
                      obtain ⟨_, _, _, oY', cY', hvY, _, _, _, heY⟩ := hyr.open_
                      injection hvX with hvX
                      injection hvY with hvY
                      simp only [Array.mk.injEq, List.cons.injEq, Value.slice.injEq, and_true, true_and] at hvX hvY
                      obtain ⟨_, _, _, rfl, rfl⟩ := hvX
                      obtain ⟨_, _, _, rfl, rfl⟩ := hvY
                      obtain ⟨d1, f1, ka, xa, ma, ua, hoX, a0, a1, a2, a3, hua, hT1⟩ := heX i t1 ht1
                      obtain ⟨d2, f2, kb, xb, mb, ub, hoY, b0, b1, b2, b3, hub, hT2⟩ := heY i t2 ht2
                      subst hoX hoY
                      have hst := HN.out
                      rw [unL_step ht1 ht2] at hst
                      have HOK := hideR (unT_ok (m := m) f c1 h1 t1 t2)
                      have hwl : ∀ k, S k → k < wr.heap.size := fun k hk => Nat.lt_of_lt_of_le (HSL.out.1 k hk) (Nat.le_trans HK6.out.size HKr.out.size)
                      have HIB := hideR (fun u (hu : Below wr.heap.size wr u) => HIH.out u c1 h1 t1 _ t2 _ (HSr.out.bel hu) ((hT1.less fun k => .inl).bel hu) ((hT2.less fun k => .inl).bel hu) (fun k hk => Nat.lt_of_lt_of_le (hwl k hk) hu.size) HCr.out.1 HCr.out.2)
                      generalize unT m f c1 h1 t1 t2 = Q9 at *
                      obtain ⟨rr, c2, h2⟩ := Q9
                      have HST := hideR hst
                      have HGL := hideR (And.intro g3 (And.intro l3 (And.intro a0 (And.intro a1 (And.intro a2 (And.intro a3 (And.intro b0 (And.intro b1 (And.intro b2 b3)))))))))
                      clear hT1 hT2 ht1 ht2 HN hst hxr hyr hbx hby l3 a0 a1 a2 a3 b0 b1 b2 b3 heX heY hwl hqq
                      go_upto_region 20 with fail
                      clear g3
                      obtain ⟨TL, hTL⟩ : ∃ TL : List Value, TL = [.pointer (some ⟨r, 0, none⟩), .pointer (some ⟨w.heap.size, 3, none⟩), .slice (some ⟨d1, f1, none⟩) (argsV x).length cX, .int .i64 (i : Int), .pointer (some ⟨d1, f1 + i * 4, none⟩), .agg #[.int .i64 ka, .string xa, .int .i64 ma, ua], .pointer (some ⟨w.heap.size + 1, 3, none⟩), .slice (some ⟨d2, f2, none⟩) (argsV y).length cY, .int .i64 (i : Int), .pointer (some ⟨d2, f2 + i * 4, none⟩), .agg #[.int .i64 kb, .string xb, .int .i64 mb, ub]] := ⟨_, rfl⟩
                      have HTL := hideR hTL
                      clear hTL
                      refine Reg.wp_region_two 11 (fun i' => 105 + i') (fun i' v u => v = TL.getD i' undef) (by kernel_rfl) (by kernel_rfl) (fun i1 i2 h1 h2 h => by have h' : 105 + i1 = 105 + i2 := h; omega) (Reg.dst_ok (dst := fun i' => 105 + i') (size := 120) (by kernel_rfl)) (fun i' v u u' _ h hb => h) ?hs20 ?ht20
                      case hs20 =>
                        intro j o' a9 u9 hj ho hF hB hd
                        have f0 : a9.tmps[0]?.getD undef = .pointer (some ⟨r, 0, none⟩) := Reg.ev_get (hF.eval 0 (fun i hi => by show 105 + i ≠ 0; omega))
                        have f4 : a9.tmps[4]?.getD undef = .pointer (some ⟨w.heap.size, 0, none⟩) := Reg.ev_get (hF.eval 4 (fun i hi => by show 105 + i ≠ 4; omega))
                        have f5 : a9.tmps[5]?.getD undef = .pointer (some ⟨w.heap.size + 1, 0, none⟩) := Reg.ev_get (hF.eval 5 (fun i hi => by show 105 + i ≠ 5; omega))
                        have f9 : a9.tmps[9]?.getD undef = .int .i64 (i : Int) := Reg.ev_get (hF.eval 9 (fun i hi => by show 105 + i ≠ 9; omega))
                        obtain ⟨g3, l3, a0, a1, a2, a3, b0, b1, b2, b3⟩ := HGL.out
                        have g3 := cell_on hB g3
                        have l3 := cell_on hB l3
                        have a0 := cell_on hB a0
                        have a1 := cell_on hB a1
                        have a2 := cell_on hB a2
                        have a3 := cell_on hB a3
                        have b0 := cell_on hB b0
                        have b1 := cell_on hB b1
                        have b2 := cell_on hB b2
                        have b3 := cell_on hB b3
                        have hd2 : ∀ j2 ∈ Reg.deps o', a9.tmps[105 + j2]?.getD undef = TL.getD j2 undef := fun j2 hj2 => Reg.ev_get (hd j2 hj2)
                        have hTL := HTL.out
                        subst hTL
                        clear hd
                        rcases cases11 hj with rfl | rfl | rfl | rfl | rfl | rfl | rfl | rfl | rfl | rfl | rfl
                        all_goals (
                          simp only [List.getElem?_toArray, List.getElem?_cons_succ, List.getElem?_cons_zero, Option.some.injEq] at ho
                          subst ho
                          refine Reg.step_k fun Z hZ => ?_
                          simp [Reg.deps, Region.binds] at hd2
                          go_simp
                          first
                          | exact hZ _ _ ⟨_, rfl, Below.refl _ _, rfl⟩
                          | exact hZ _ _ ⟨_, rfl, Below.refl _ _, by simp [*]⟩)
                      case ht20 =>
                        intro a9 u9 hF hB hG
                        obtain ⟨xl, hxl, rfl, hev⟩ := hF.lit (by simp)
                        obtain ⟨s0, s1, s2, s3, s4, s5, s6, s7, s8, s9, s10, rfl⟩ := tlen11 hxl
                        have h0 := hG 0 (by decide)
                        have h5 := hG 5 (by decide)
                        have h10 := hG 10 (by decide)
                        rw [HTL.out] at h0 h5 h10
                        obtain rfl : s0 = .pointer (some ⟨r, 0, none⟩) := (hev 0 (by decide)).symm.trans h0
                        obtain rfl : s5 = .agg #[.int .i64 ka, .string xa, .int .i64 ma, ua] := (hev 5 (by decide)).symm.trans h5
                        obtain rfl : s10 = .agg #[.int .i64 kb, .string xb, .int .i64 mb, ub] := (hev 10 (by decide)).symm.trans h10
                        have HIC := hideR (HIB.out u9 hB)
                        have HKu := hideR (HKr.out.of hB HKr.out.size)
                        clear hev hxl hF hG hB h0 h5 h10 HTL HIB HGL HSr HKr
                        simp only [List.take_succ_cons, List.take_zero, List.drop_succ_cons, List.drop_zero, List.cons_append, List.nil_append]
                        by_cases hr : rr = 0
                        · subst hr
                          have HS9 : Hid (unL (unT m f) c2 h2 ((argsV x).drop (i + 1)) ((argsV y).drop (i + 1)) = R) := hideR (by rw [← HST.out]; rfl)
                          have HC9 : Hid (65537 ≤ c2 + f ∧ c2 ≤ 65536) := hideR (cnt_next HCr.out.1 (HOK.out rfl))
                          clear HST HOK HCr
                          go_wp2_with fail
                          refine Calls.mono (show Calls _ _ _ _ _ from HIC.out) ?_
                          rintro e w4 ⟨c', rfl, hc', hs, hk⟩
                          obtain rfl : c' = c2 := by first | exact hc' rfl | exact hc' trivial | simpa using hc'
                          have HS4 := hideR hs
                          have HK4 := hideR (HKu.out.trans hk)
                          clear HIC hc' hs hk HKu
                          go_wp2
                          go_roundw
                          case rel => exact ⟨i + 1, c', h2, by first | rfl | (congr 1), hp, HS9, HS4, HK4, HC9⟩
                          case measure => ((first | rw [wrapI hp HLN.out.2] | skip); simp; exact Nat.sub_lt_sub_left hp (Nat.lt_succ_self _))
                        · have q5 : (rr != 0) = true := bne_iff_ne.2 hr
                          have HS9 : Hid ((rr, c2, h2) = R) := hideR (by rw [← HST.out, if_neg hr])
                          have HZN := hideR hr
                          clear HST HOK HCr hr
                          go_wp2_with fail
                          refine Calls.mono (show Calls _ _ _ _ _ from HIC.out) ?_
                          rintro e w4 ⟨c', rfl, hc', hs, hk⟩
                          have HS4 := hideR hs
                          have HK4 := hideR (HK6.out.trans (HKu.out.trans hk))
                          clear HIC hc' hs hk HKu
                          go_wp2
                          refine bodyPost_ret (v := .int .i64 rr) (by simp [results, Try.results40, go_sem]) rfl (PrS.of HS9.out.symm c' (fun h => absurd h HZN.out) HS4.out HK4.out)
                    · have q1 : decide ((i : Int) < ((argsV x).length : Int)) = false := decide_eq_false (fun h => hp (Int.ofNat_lt.1 h))
                      have HS9 : Hid ((0, c1, h1) = R) := hideR (by rw [← HN.out, List.drop_eq_nil_of_le (Nat.not_lt.1 hp)]; rfl)
                      have HK4 := hideR (HK6.out.trans HKr.out)
                      clear HN hi HKr hxr hyr l3
                      go_wp2
                      refine bodyPost_ret (v := .int .i64 0) (by simp [results, Try.results40, go_sem]) rfl (PrS.of HS9.out.symm c1 (fun _ => rfl) HSr.out HK4.out)
                · have q7 : (((argsV x).length : Int) != ((argsV y).length : Int)) = true := bne_iff_ne.2 (by omega)
                  have HRR := hideR (show R = (150, c + 1, h) by rw [hR0, if_neg (fun e => hln e.2.2)])
                  have HS7 : Hid (DO S B n h r vs ((c + 1 : Nat) : Int) W6) := hideR (HS6.out.back HS0.out fun k => .inl)
                  clear hR0 HIH HS6 HX6 HY6 HBX HBY
                  go_upto_region 5 with (first | (refine wpList_store_mid rfl 34 (.tmp 4) (.tmp 25) rfl w.heap.size 0 #[.int .i64 kx, .string nx, .int .i64 mx, .slice oX (argsV x).length cX] rfl rfl HTH5.out sizeTy' (by simp [Value.oneCell']) ?_; rw [HW5.out]) | (refine wpList_store_mid rfl 34 (.tmp 5) (.tmp 28) rfl (w.heap.size + 1) 0 #[.int .i64 kx, .string nx, .int .i64 my, .slice oY (argsV y).length cY] rfl rfl HTH6.out sizeTy' (by simp [Value.oneCell']) ?_; rw [HW6.out]) | fail)
                  go_wp2_with fail
                  refine bodyPost_ret (v := .int .i64 150) (by simp [results, Try.results40, go_sem]) rfl (PrS.of HRR.out (c + 1) (fun h => absurd h (by decide)) HS7.out HK6.out)
              · have r2 : (nx.toList == ny.toList) = false := by rw [str_eqT, decide_eq_false hxn]
                have p2n : (nx.toList != ny.toList) = true := by rw [bne, r2]; rfl
                have HRR := hideR (show R = (150, c + 1, h) by rw [hR0, if_neg (fun e => hxn e.2.1)])
                have HS7 : Hid (DO S B n h r vs ((c + 1 : Nat) : Int) W6) := hideR (HS6.out.back HS0.out fun k => .inl)
                clear hR0 HIH HS6 HX6 HY6 HBX HBY
                go_upto_region 5 with (first | (refine wpList_store_mid rfl 34 (.tmp 4) (.tmp 25) rfl w.heap.size 0 #[.int .i64 kx, .string nx, .int .i64 mx, .slice oX (argsV x).length cX] rfl rfl HTH5.out sizeTy' (by simp [Value.oneCell']) ?_; rw [HW5.out]) | (refine wpList_store_mid rfl 34 (.tmp 5) (.tmp 28) rfl (w.heap.size + 1) 0 #[.int .i64 kx, .string ny, .int .i64 my, .slice oY (argsV y).length cY] rfl rfl HTH6.out sizeTy' (by simp [Value.oneCell']) ?_; rw [HW6.out]) | fail)
                go_wp2_with fail
                refine bodyPost_ret (v := .int .i64 150) (by simp [results, Try.results40, go_sem]) rfl (PrS.of HRR.out (c + 1) (fun h => absurd h (by decide)) HS7.out HK6.out)
            · have q6 : (kx != ky) = true := bne_iff_ne.2 hk
              have HRR := hideR (show R = (150, c + 1, h) by rw [hR0, if_neg (fun e => hk e.1)])
              have HS7 : Hid (DO S B n h r vs ((c + 1 : Nat) : Int) W6) := hideR (HS6.out.back HS0.out fun k => .inl)
              clear hR0 HIH HS6 HX6 HY6 HBX HBY
              go_upto_region 5 with (first | (refine wpList_store_mid rfl 34 (.tmp 4) (.tmp 25) rfl w.heap.size 0 #[.int .i64 kx, .string nx, .int .i64 mx, .slice oX (argsV x).length cX] rfl rfl HTH5.out sizeTy' (by simp [Value.oneCell']) ?_; rw [HW5.out]) | (refine wpList_store_mid rfl 34 (.tmp 5) (.tmp 28) rfl (w.heap.size + 1) 0 #[.int .i64 ky, .string ny, .int .i64 my, .slice oY (argsV y).length cY] rfl rfl HTH6.out sizeTy' (by simp [Value.oneCell']) ?_; rw [HW6.out]) | fail)
              go_wp2_with fail
              refine bodyPost_ret (v := .int .i64 150) (by simp [results, Try.results40, go_sem]) rfl (PrS.of HRR.out (c + 1) (fun h => absurd h (by decide)) HS7.out HK6.out)
end Go.Proofs.Ytkflfohoinbenaa

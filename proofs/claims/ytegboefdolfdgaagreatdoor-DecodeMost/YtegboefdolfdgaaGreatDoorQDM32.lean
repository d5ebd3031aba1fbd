/- Texts that the claim needs. -/
import Derived.Test.YtegboefdolfdgaaGreatDoorQDM31
import Derived.Deep.RegionLaw
import Derived.Deep.CutRange
namespace Go.Proofs.YtegboefdolfdgaaGreatDoor
open Go.RowKit aA ai
set_option linter.unusedVariables false
set_option maxRecDepth 100000
set_option maxHeartbeats 32000000
namespace ai
theorem FB.OI {g ob L:Nat} {ty:Nat->Int} {a b:Nat->Value} {w:World} (h:FB g ob L ty a b w) {q:Nat} (hq:q<L):FB g ob L ty a b (w.setCell ⟨g,ob+q*3,none⟩ (.int .i64 (ty q))):=by
 obtain ⟨cur,h1,h2⟩:=h;refine ⟨cur.setIfInBounds (ob+q*3) (.int .i64 (ty q)),heap_setCell_same w g _ cur _ _ h1,fun j hj=>?_⟩;have hlt:ob+q*3<cur.size:=(Array.getElem?_eq_some_iff.1 (h2 q hq).1).1;obtain ⟨a1,a2,a3⟩:=h2 j hj;refine ⟨?_,?_,?_⟩
 ·rw [Array.getElem?_setIfInBounds];by_cases hjq:j=q
  ·subst hjq;rw [if_pos rfl,if_pos hlt]
  ·rw [if_neg (by omega)];exact a1
 ·rw [Array.getElem?_setIfInBounds,if_neg (by omega)];exact a2
 ·rw [Array.getElem?_setIfInBounds,if_neg (by omega)];exact a3
def Gf (w0:World) (p q:Nat) (s:ByteArray) (c:Nat->Value) (en g ob L:Nat) (ty:Nat->Int) (w:World) (X:R2 (List (List Int × IL 81))) (e:Ending) (u:World):Prop :=
 e=.returned (.tuple #[])/\∃(i n:Nat) (z:Int),DM w0 p q s en i n z c u/\bn p g w u/\(z=0->n<=65536)/\Fits X (fun fs=>fs.length=L/\(0<L->∃a b,FB g ob L ty a b u/\∀j x,fs[j]?=some x->aH u (Since w.heap.size u none) (a j) x.1/\ah u (Since w.heap.size u none) 81 (b j) x.2)) i n z
def KL (w0:World) (p q:Nat) (s:ByteArray) (c:Nat->Value) (en g ob L:Nat) (ty:Nat->Int) (w:World) (R:R2 (List (List Int × IL 81))) (k:Nat) (wr:World):Prop :=
 (∃(fs:List (List Int × IL 81)) (jq nq:Nat),fs.length=k/\R=oq s en (L-k) fs jq nq/\nq<=65536/\DM w0 p q s en jq nq 0 c wr/\bn p g w wr/\(0<L->∃a b,FB g ob L ty a b wr/\∀j x,fs[j]?=some x->aH wr (Since w.heap.size wr none) (a j) x.1/\ah wr (Since w.heap.size wr none) 81 (b j) x.2)) \/
 ∃(y:Int) (i' n':Nat),y≠0/\R=.error y/\DM w0 p q s en i' n' y c wr/\bn p g w wr
theorem KL.on {w0:World} {p q:Nat} {s:ByteArray} {c:Nat->Value} {en g ob L:Nat} {ty:Nat->Int} {w:World} {R:R2 (List (List Int × IL 81))} {k:Nat} {u u2:World} (h:KL w0 p q s c en g ob L ty w R k u) (hb:Below u.heap.size u u2):KL w0 p q s c en g ob L ty w R k u2:=by
 rcases h with ⟨fs,jq,nq,h1,h2,h3,h4,h5,h6⟩|⟨y,i',n',h1,h2,h3,h4⟩
 ·refine .inl ⟨fs,jq,nq,h1,h2,h3,h4.on hb,h5.trans (bn.of (But.of p hb)),fun h0=>?_⟩;obtain ⟨a,b,hf,hx⟩:=h6 h0;exact ⟨a,b,hf.keep (hb.block g hf.lt),fun j x hj=>⟨(hx j x hj).1.keep (fw hb),ah.keep (fw hb) _ _ _ (hx j x hj).2⟩⟩
 ·exact .inr ⟨y,i',n',h1,h2,h3.on hb,h4.trans (bn.of (But.of p hb))⟩
theorem CS (w:World) (dr:Nat):Below w.heap.size w { w with drawn:=dr }:=⟨rfl,rfl,rfl,Nat.le_refl _,fun _ _=>rfl⟩
theorem OJ {a0 a:Act} {lo N:Nat} (h:af.Low a0 lo (N+1) a) (hs:a0.tmps.size=lo+N):af.Fr a0 (fun i=>lo+i) N a :=
 ⟨h.defers,h.size,fun k hk=>by
  by_cases h1:k<lo
  ·exact h.rest k (.inl h1)
  ·by_cases h2:k<lo+N
   ·exact absurd (show lo+(k-lo)=k by omega) (hk (k-lo) (by omega))
   ·rw [Array.getElem?_eq_none (by rw [h.size,hs];omega),Array.getElem?_eq_none (by rw [hs];omega)]⟩
theorem OL {x:List Value} (h:x.length=7):∃x0 x1 x2 x3 x4 x5 x6,x = [x0,x1,x2,x3,x4,x5,x6]:=by
 match x,h with
 | [x0,x1,x2,x3,x4,x5,x6],_=>exact ⟨x0,x1,x2,x3,x4,x5,x6,rfl⟩
end ai
theorem OM (w0 : World) (p q : Nat) (s : ByteArray) (en i n : Nat) (c : Nat → Value) (g ob L cap : Nat) (o : Option Addr) (ty : Nat → Int) (w : World) (h : DM w0 p q s en i n 0 c w) (hn : n ≤ 65536) (hL : L ≤ 4096) (hc : c 2 = .slice o L cap)
    (hf : 0 < L → o = some ⟨g, ob, none⟩ ∧ (∃ a b, FB g ob L ty a b w) ∧ p < g) :
    Calls Tryz.prog 18 #[.pointer (some ⟨p, 0, none⟩), .int .i64 10, .pointer (some ⟨q, 0, none⟩)] w (Gf w0 p q s c en g ob L ty w (gQ s en L i n)) := by
  have HC := aa (vY w0 p s en i n 0 w h.ds);have hlen := h.ds.len;have hpw := h.ds.lt;have VF := h.qp;have H0 := aa h;have Bi := aa hf;clear h hf;obtain ⟨G, hG⟩ : ∃ G, G = gQ s en L i n := ⟨_, rfl⟩;rw [← hG];have HG := aa hG;clear hG;rw [bJ] at HC;cases hrc : rc s en i with
  | error z =>
    rw [hrc] at HC;have cg : Hid (G = .error z) := aa (by rw [HG.out]; unfold gQ; rw [hrc]; rfl);clear hrc HG Bi;go_enter Tryz.func18, Tryz.ntmps18;go_wp2_with fail;refine HC.out.mono ?_;rintro e u1 ⟨hz, v, i1, n1, rfl, hv, h1, h2⟩;have hv : v = .int .i64 0 := hv;subst hv;have H1 := aa (And.intro (H0.out.call h1 h2) (bn.of (g := g) h2));have HZ := aa hz;have d2 := H1.out.1.cell 2 (by decide);rw [hc] at d2;clear h1 h2 HC H0 hz;have key : ∀ (i2 n2 : Nat) (u : World), DM w0 p q s en i2 n2 z c u → bn p g w u → Gf w0 p q s c en g ob L ty w G (.returned (.tuple #[])) u := fun i2 n2 u h1 h2 => ⟨rfl, i2, n2, z, h1, h2, fun h => absurd h HZ.out, by rw [cg.out]; exact ⟨rfl, HZ.out⟩⟩;have HKEY := aa key;clear key;by_cases Bj : L = 0
    · have q5 : ((0 : Int) != (L : Int)) = false := by simp [Bj]
      go_wp2_with fail;go_loopw [7] (fun v wr => v = .int .i64 0 ∧ wr = u1) (fun _ _ => 0)
      case atStart => exact ⟨rfl, rfl⟩
      case round =>
        obtain ⟨rfl, rfl⟩ := hrel;go_wp2;go_end0;exact HKEY.out _ _ _ H1.out.1 H1.out.2
    · have q5 : ((0 : Int) != (L : Int)) = true := by simp; omega
      go_wp2_with fail;refine (fD w0 p s en i1 n1 z _ H1.out.1.ds 50).mono ?_;rintro e u2 ⟨rfl, h1, h2⟩;rw [if_neg HZ.out] at h1;have H2 := aa (And.intro (H1.out.1.call h1 h2) (H1.out.2.trans (bn.of (g := g) h2)));clear h1 h2 H1 d2;go_wp2_with fail;go_loopw [7] (fun v wr => v = .int .i64 0 ∧ wr = u2) (fun _ _ => 0)
      case atStart => exact ⟨rfl, rfl⟩
      case round =>
        obtain ⟨rfl, rfl⟩ := hrel;go_wp2;go_end0;exact HKEY.out _ _ _ H2.out.1 H2.out.2
  | ok v =>
    obtain ⟨xm, i1⟩ := v;obtain ⟨_, hi1, hm0, hm1⟩ := jl hlen hrc;obtain ⟨m, rfl⟩ : ∃ m : Nat, xm = (m : Int) := ⟨xm.toNat, by omega⟩;rw [hrc] at HC;have vw : Hid (G = if (m : Int) = (L : Int) then oq s en L [] i1 n else .error 50) := aa (by rw [HG.out]; unfold gQ; rw [hrc]; rfl);clear hrc HG;go_enter Tryz.func18, Tryz.ntmps18;go_wp2_with fail;refine HC.out.mono ?_;rintro e u1 ⟨v, rfl, hv, h1, h2⟩;have hv : v = .int .i64 m := hv;subst hv;have H1 := aa (And.intro (H0.out.call h1 h2) (bn.of (g := g) h2));have HB1 := aa h2;have d2 := H1.out.1.cell 2 (by decide);rw [hc] at d2;clear h1 h2 HC H0;by_cases OO : (m : Int) = (L : Int)
    · obtain rfl : m = L := by omega
      have q5 : ((m : Int) != (m : Int)) = false := by simp
      have HR : Hid (G = oq s en m [] i1 n) := aa (by rw [vw.out, if_pos rfl])
      have fC : Hid (0 < m → o = some ⟨g, ob, none⟩ ∧ (∃ a b, FB g ob m ty a b u1) ∧ p < g ∧ g < w.heap.size) := aa (fun h => by
        obtain ⟨e1, ⟨a, b, hb⟩, e2⟩ := Bi.out h;exact ⟨e1, ⟨a, b, hb.keep (HB1.out.block g hb.lt (by simp; omega))⟩, e2, hb.lt⟩)
      clear vw Bi HB1;go_wp2_with fail;go_loopw [7] (fun v wr => ∃ k : Nat, k ≤ m ∧ v = .int .i64 k ∧ Hid (KL w0 p q s c en g ob m ty w G k wr)) (fun v _ => m - (RowKit.intOf v).toNat)
      case atStart => exact ⟨0, by omega, rfl, aa (.inl ⟨[], i1, n, rfl, HR.out, hn, H1.out.1, H1.out.2, fun h => by obtain ⟨_, ⟨a, b, hb⟩, _⟩ := fC.out h; exact ⟨a, b, hb, fun j x hj => by simp at hj⟩⟩)⟩
      case round =>
        clear H1 HR d2;obtain ⟨k, hk, rfl, HS⟩ := hrel;rcases HS.out with ⟨fs, jq, nq, hfs, hP, hnq, hD, hB, wz⟩ | ⟨y, i2, n2, hy, jm, hD, hB⟩
        · have d4 := hD.ds.cell 4 _ rfl
          have HP := aa hP;have HD := aa hD;have HB := aa hB;have da := aa wz;clear hP hD hB wz HS;by_cases hgo : k < m
          · obtain ⟨ho, _, Gd, VG⟩ := fC.out (by omega)
            obtain ⟨a, b, xW, hxs⟩ := da.out (by omega);subst ho;have Gg := aa hxs;obtain ⟨r, hr⟩ : ∃ r, m - k = r + 1 := ⟨m - k - 1, by omega⟩;have HU := aa (OP w0 p s en jq nq wr HD.out.ds hnq);go_wp2_with fail;refine HU.out.mono ?_;rintro e w2 ⟨o4, n4, k4, o5, n5, k5, i2, n2, z2, rfl, h1, h2, hF, jP⟩;obtain ⟨w3, hw3⟩ : ∃ w3, w3 = w2.alloc (.cells #[.int .i64 0, .slice o4 n4 k4, .slice o5 n5 k5] 68) := ⟨_, rfl⟩;obtain ⟨fb, CU⟩ : ∃ fb, fb = w2.heap.size := ⟨_, rfl⟩;have rz : g < wr.heap.size := xW.lt;have tu : DM w0 p q s en i2 n2 z2 c w3 := by rw [hw3]; exact (HD.out.call h1 h2).on (aD _ _)
            have rA : But p wr w3 := by rw [hw3]; exact h2.trans (But.of p (aD _ _))
            have CW : FB g ob m ty a b w3 := xW.keep (rA.block g rz (by simp; omega));have hx3 : w3.heap[fb]? = some (.cells #[.int .i64 0, .slice o4 n4 k4, .slice o5 n5 k5] 68 (0, 0)) := by rw [hw3, CU]; exact fB _ _ rfl
            have wA : fb ≠ g ∧ fb ≠ p ∧ fb ≠ q ∧ wr.heap.size ≤ fb := by have := h2.size; omega
            obtain ⟨w4, hw4⟩ : ∃ w4, w4 = w3.setCell ⟨fb, 0, none⟩ (.int .i64 (ty k)) := ⟨_, rfl⟩;have OQ : Below fb w3 w4 := by rw [hw4]; exact (Below.refl _ w3).setCell (Nat.le_refl fb) _
            have hkp : ∀ j, j ≠ fb → w4.heap[j]? = w3.heap[j]? := fun j hj => by rw [hw4]; exact Below.heap_setCell _ _ _ _ hj
            have rC : DM w0 p q s en i2 n2 z2 c w4 := ⟨by rw [hw4]; exact tu.ds.set (fun e => wA.2.1 e.symm) (by have := tu.lo; have := tu.qp; omega) _ _, by rw [hkp q (fun e => wA.2.2.1 e.symm)]; exact tu.mq, tu.lo, tu.qp⟩;have CX : FB g ob m ty a b w4 := CW.keep (hkp g (fun e => wA.1 e.symm));have Gh : w4.heap[fb]? = some (.cells #[.int .i64 (ty k), .slice o4 n4 k4, .slice o5 n5 k5] 68 (0, 0)) := by rw [hw4]; exact heap_setCell_same w3 fb 0 _ _ _ hx3
            have Bl : w4.heap.size = w3.heap.size := by rw [hw4]; simp
            have OT : w2.heap.size ≤ w3.heap.size := by rw [hw3]; simp
            obtain ⟨W, hW⟩ : ∃ W, W = (((w4.setCell ⟨g, ob + k * 3, none⟩ (.int .i64 (ty k))).setCell ⟨g, ob + k * 3 + 1, none⟩ (.slice o4 n4 k4)).setCell ⟨g, ob + k * 3 + 2, none⟩ (.slice o5 n5 k5)) := ⟨_, rfl⟩;have Gi : FB g ob m ty (upd a k (.slice o4 n4 k4)) (upd b k (.slice o5 n5 k5)) W := by rw [hW]; exact ((CX.OI hgo).Gj hgo _).Gl hgo _
            have hkW : ∀ j, j ≠ g → W.heap[j]? = w4.heap[j]? := fun j hj => by rw [hW, Below.heap_setCell _ _ _ _ hj, Below.heap_setCell _ _ _ _ hj, Below.heap_setCell _ _ _ _ hj]
            have Bm : W.heap.size = w4.heap.size := by rw [hW]; simp
            have CY : DM w0 p q s en i2 n2 z2 c W := ⟨by rw [hW]; exact ((rC.ds.set (by omega) (by have := rC.ds.base; omega) _ _).set (by omega) (by have := rC.ds.base; omega) _ _).set (by omega) (by have := rC.ds.base; omega) _ _, by rw [hkW q (by omega)]; exact rC.mq, rC.lo, rC.qp⟩
            have hBW : bn p g w W := by
              have hb4 : bn p g wr W := ⟨by rw [hW]; simp [hw4]; exact rA.os, by rw [hW]; simp [hw4]; exact rA.tape, by rw [hW]; simp [hw4]; exact rA.output, by rw [Bm, Bl]; exact rA.size, fun j hj h1 h2 => by rw [hkW j h2, hkp j (by have := wA.2.2.2; omega)]; exact rA.block j hj (by simpa using h1)⟩;exact HB.out.trans hb4
            have CZ : ∀ j, Since wr.heap.size w2 none j → Since w.heap.size W none j ∧ W.heap[j]? = w2.heap[j]? := fun j hj => by
              have hne : j ≠ fb := by have := hj.2.1; omega
              refine ⟨⟨Nat.le_trans HB.out.size hj.1, by rw [Bm, Bl]; have := hj.2.1; omega, by simp⟩, ?_⟩;rw [hkW j (by have := hj.1; omega), hkp j hne, hw3];exact (aD w2 _).block j hj.2.1
            have hsO : ∀ j, Since w.heap.size wr none j → Since w.heap.size W none j ∧ W.heap[j]? = wr.heap[j]? := fun j hj => by
              have hg : j ≠ g := by have := hj.1; omega
              refine ⟨⟨hj.1, by rw [Bm, Bl]; have := hj.2.1; have := rA.size; omega, by simp⟩, ?_⟩;rw [hkW j hg, hkp j (by have := hj.2.1; have := wA.2.2.2; omega)];exact rA.block j hj.2.1 (by have := hj.1; simp; omega)
            have pz : Hid (KL w0 p q s c en g ob m ty w G (k + 1) W) := aa (by
              cases hx : nN s en jq nq with
              | error y =>
                rw [hx] at hF;obtain ⟨rfl, hy⟩ := hF;exact .inr ⟨_, i2, n2, hy, by rw [HP.out, hr, xV, hx]; rfl, CY, hBW⟩
              | ok v =>
                obtain ⟨x, j2, m2⟩ := v;rw [hx] at hF;obtain ⟨⟨hi, ha⟩, rfl, rfl, rfl⟩ := hF;refine .inl ⟨fs ++ [x], _, _, by simp [hfs], by rw [HP.out, hr, xV, hx, show m - (k + 1) = r by omega]; rfl, jP rfl, CY, hBW, fun _ => ⟨_, _, Gi, fun j x' hj => ?_⟩⟩;by_cases hjk : j = k
                · subst hjk
                  rw [List.getElem?_append_right (by omega), hfs, Nat.sub_self] at hj;have : x = x' := by simpa using hj
                  subst this;unfold upd;rw [if_pos rfl, if_pos rfl];exact ⟨hi.keep CZ, ah.keep CZ _ _ _ ha⟩
                · have hjl : j < fs.length := by
                    have := (List.getElem?_eq_some_iff.1 hj).1;simp at this;omega
                  rw [List.getElem?_append_left hjl] at hj;unfold upd;rw [if_neg hjk, if_neg hjk];obtain ⟨b1, b2⟩ := Gg.out j x' hj;exact ⟨b1.keep hsO, ah.keep hsO _ _ _ b2⟩)
            have x0 := tu.cell 2 (by decide);rw [hc] at x0;have y0 := (CW.cell hgo).1;have z0 := ko (j := 0) hx3 rfl;have zf : w3.frozen? ⟨fb, 0, none⟩ = false := by unfold World.frozen?; rw [hx3]; simp
            have tv := aa (And.intro rC (And.intro CX Gh));have HW3 := aa hw3;have Bn := aa hw4;have HW := aa hW;have Gm := aa CU;clear h1 h2 hF jP tu rA CW hx3 OQ hkp rC CX Gh Bl OT Gi hkW Bm CY hBW CZ hsO hw3 hw4 hW CU xW hxs Gg HP HD HB da HU d4 rz;go_upto_region 21 with fail;rw [← HW3.out, ← Gm.out];go_upto_region 22 with fail;rw [← Bn.out];clear x0 y0 z0 zf;refine af.qd 8 94 101 (fun j => [.pointer (some ⟨q, 0, none⟩), .pointer (some ⟨q, 0, none⟩), .pointer (some ⟨q, 2, none⟩), .slice (some ⟨g, ob, none⟩) m cap, .int .i64 k, .agg #[.int .i64 (ty k), .slice o4 n4 k4, .slice o5 n5 k5], .pointer (some ⟨g, ob + k * 3, none⟩), undef].getD j undef) [7] (fun u => u.heap = w4.heap ∧ u.os = w4.os ∧ u.tape = w4.tape ∧ u.output = w4.output) (fun j _ u => if j = 0 then True else ∃ dr, u = { W with drawn := dr }) (by kernel_rfl) rfl (by kernel_rfl) rfl (fun _ _ _ _ _ h => h) ?hread ?iV ?hend ⟨rfl, rfl, rfl, rfl⟩ (fun _ => trivial)
            case hread =>
              intro j o a u hi hcc ho hF hS hd;have hcell : ∀ ad, u.cell? ad = w4.cell? ad := fun ad => by unfold World.cell?; rw [hS.1]
              have x0 : u.cell? ⟨q, 2, none⟩ = some (.slice (some ⟨g, ob, none⟩) m cap) := by rw [hcell, tv.out.1.cell 2 (by decide), hc]
              have l0 : u.cell? ⟨fb, 0, none⟩ = _ := (hcell _).trans (ko (j := 0) tv.out.2.2 rfl);have l1 : u.cell? ⟨fb, 1, none⟩ = _ := (hcell _).trans (ko (j := 1) tv.out.2.2 rfl);have l2 : u.cell? ⟨fb, 2, none⟩ = _ := (hcell _).trans (ko (j := 2) tv.out.2.2 rfl);have f2 : a.tmps[2]?.getD undef = .pointer (some ⟨q, 0, none⟩) := af.av (hF.eval 2 (.inl (by decide)));have f7 : a.tmps[7]?.getD undef = .int .i64 k := af.av (hF.eval 7 (.inl (by decide)));have f8 : a.tmps[8]?.getD undef = .pointer (some ⟨fb, 0, none⟩) := af.av (hF.eval 8 (.inl (by decide)));clear hS hcell tv
              iterate 8 (rcases Nat.lt_succ_iff_lt_or_eq.1 hi with hi | rfl)
              exact absurd hi (Nat.not_lt_zero _)
              all_goals (first
                | exact absurd hcc (by decide)
                | (simp only [List.getElem?_toArray, List.getElem?_cons_succ, List.getElem?_cons_zero, Option.some.injEq] at ho
                   subst ho;refine af.aR fun KK au => ?_;simp [af.deps, Region.binds] at hd;go_simp;exact au _ _ ⟨rfl, rfl⟩))
            case iV =>
              intro k' j o a u hk' ho hF hS hU hd;have hkl : k' < 1 := (List.getElem?_eq_some_iff.1 hk').1;obtain rfl : k' = 0 := by omega
              simp only [List.getElem?_cons_zero, Option.some.injEq] at hk';subst hk';simp only [List.getElem?_toArray, List.getElem?_cons_succ, List.getElem?_cons_zero, Option.some.injEq] at ho;subst ho;obtain ⟨dr, rfl⟩ : ∃ dr, u = { w4 with drawn := dr } := ⟨u.drawn, by obtain ⟨h1, h2, h3, h4⟩ := hS; cases u; simp at h1 h2 h3 h4; simp [h1, h2, h3, h4]⟩;have q5 := hd 5 (by decide) (by decide);have q6 := hd 6 (by decide) (by decide);simp at q5 q6;have fc := tv.out.2.1.cell hgo;have c0 : ({ w4 with drawn := dr } : World).cell? ⟨g, ob + k * 3, none⟩ = _ := fc.1;have c1 : ({ w4 with drawn := dr } : World).cell? ⟨g, ob + k * 3 + 1, none⟩ = _ := fc.2.1;have c2 : ({ w4 with drawn := dr } : World).cell? ⟨g, ob + k * 3 + 2, none⟩ = _ := fc.2.2;have fz : ∀ j, ({ w4 with drawn := dr } : World).frozen? ⟨g, j, none⟩ = false := fun j => tv.out.2.1.ag j;have z0 := fz (ob + k * 3);have z1 := fz (ob + k * 3 + 1);have z2 := fz (ob + k * 3 + 2);clear hU hd fc fz;refine af.aR fun KK au => ?_;have aL := aa au;clear au;go_simp;exact aL.out a _ ⟨undef, rfl, fun h => absurd h (by decide), dr, by rw [HW.out]; rfl⟩
            case hend =>
              intro a u hF ⟨f9, _, hU⟩;obtain ⟨dr, hu⟩ : ∃ dr, u = { W with drawn := dr } := hU;have OU : Hid (KL w0 p q s c en g ob m ty w G (k + 1) u) := aa (by rw [hu]; exact pz.out.on (CS W dr));obtain ⟨xl, hxl, rfl, hev⟩ := (OJ hF rfl).lit (by simp);obtain ⟨x0, x1, x2, x3, x4, x5, x6, rfl⟩ := OL hxl;clear hev hxl hF hu pz tv HW3 Bn HW Gm wA;simp only [List.take_succ_cons, List.take_zero, List.drop_succ_cons, List.drop_zero, List.cons_append, List.nil_append];go_wp2;go_roundw
              case rel => exact ⟨k + 1, by omega, by go_num, OU⟩
              case measure => simp [RowKit.intOf]; omega
          · obtain rfl : k = m := by omega
            have C0 : Hid (G = .ok (fs, jq, nq)) := aa (by rw [HP.out, Nat.sub_self]; rfl);clear HP;go_wp2;go_end0;exact ⟨rfl, jq, nq, 0, HD.out, HB.out, fun _ => hnq, by rw [C0.out]; exact ⟨⟨hfs, da.out⟩, rfl, rfl, rfl⟩⟩
        · have d4 := hD.ds.cell 4 _ rfl
          have HD := aa hD;have HB := aa hB;have HZ := aa hy;have xX := aa jm;have q4 : (y == 0) = false := by rw [beq_eq_false_iff_ne]; exact hy
          clear hD hB hy jm HS fC;by_cases hgo : k < m
          · go_wp2
            go_end0;exact ⟨rfl, i2, n2, y, HD.out, HB.out, fun h => absurd h HZ.out, by rw [xX.out]; exact ⟨rfl, HZ.out⟩⟩
          · go_wp2
            go_end0;exact ⟨rfl, i2, n2, y, HD.out, HB.out, fun h => absurd h HZ.out, by rw [xX.out]; exact ⟨rfl, HZ.out⟩⟩
    · have q5 : ((m : Int) != (L : Int)) = true := by simp; omega
      have cg : Hid (G = .error 50) := aa (by rw [vw.out, if_neg OO]);clear vw Bi HB1;go_wp2_with fail;refine (fD w0 p s en i1 n 0 _ H1.out.1.ds 50).mono ?_;rintro e u2 ⟨rfl, h1, h2⟩;rw [if_pos rfl] at h1;have H2 := aa (And.intro (H1.out.1.call h1 h2) (H1.out.2.trans (bn.of (g := g) h2)));have d4 := h1.cell 4 _ rfl;clear h1 h2 H1 d2;go_wp2_with fail;go_loopw [7] (fun v wr => v = .int .i64 0 ∧ wr = u2) (fun _ _ => 0)
      case atStart => exact ⟨rfl, rfl⟩
      case round =>
        obtain ⟨rfl, rfl⟩ := hrel;by_cases VH : 0 < m
        · have q6 : decide ((0 : Int) < (m : Int)) = true := decide_eq_true (by omega)
          go_wp2;go_end0;exact ⟨rfl, i1, n, 50, H2.out.1, H2.out.2, fun h => absurd h (by decide), by rw [cg.out]; exact ⟨rfl, by decide⟩⟩
        · have q6 : decide ((0 : Int) < (m : Int)) = false := decide_eq_false (by omega)
          go_wp2;go_end0;exact ⟨rfl, i1, n, 50, H2.out.1, H2.out.2, fun h => absurd h (by decide), by rw [cg.out]; exact ⟨rfl, by decide⟩⟩
theorem Rv (w0 wS : World) (p q : Nat) (s : ByteArray) (en i n : Nat) (c : Nat → Value) (ps : List (Pe lK)) (u : World) (h : LE w0 wS p q 1 3 65 iX s en i n 0 c ps u) (hps : ps.length ≤ 4096) : Calls Tryz.prog 34 #[.pointer (some ⟨p, 0, none⟩), .int .i64 2, .pointer (some ⟨q, 0, none⟩)] u (YE w0 wS p q 1 3 65 iX s en c ps (lift (jv s en i) n)) := by
  have hK : dH iX := (jB _);have H0 := aa h;clear h;obtain ⟨G, hG⟩ : ∃ G, G = lift (jv s en i) n := ⟨_, rfl⟩;rw [← hG];have HG := aa hG;clear hG;go_enter Tryz.func34, Tryz.ntmps34;obtain ⟨X, hX⟩ : ∃ X, X = aG 0 (lift (jv s en i) n) := ⟨_, rfl⟩;have HX := aa hX;clear hX;go_upto_region 6 with fail;have bG : Hid (LE w0 wS p q 1 3 65 iX s en i n 0 c ps { u with drawn := u.drawn + 1 }) := aa (H0.out.on hK (gV _));clear H0;refine af.qd 12 31 148 (fun j => [.pointer (some ⟨q, 0, none⟩), .pointer (some ⟨q, 0, none⟩), .pointer (some ⟨q, 0, none⟩), .pointer (some ⟨q, 1, none⟩), (c 1), .pointer (some ⟨p, 0, none⟩), undef, undef, undef, undef, undef, undef].getD j undef) [6, 7, 8, 9, 10, 11] (fun w => w.cell? ⟨q, 1, none⟩ = some (c 1)) (uG (LE w0 wS p q 1 3 65 iX s en i n 0 c ps) (UA w0 wS p q 1 3 65 iX s en c ps (fun (y : ByteArray × ByteArray × Int) => [.string y.1, .string y.2.1, .int .i64 y.2.2]) X) (UB w0 wS p q 1 3 65 iX s en c ps (fun (y : ByteArray × ByteArray × Int) => [.string y.1, .string y.2.1, .int .i64 y.2.2]) X) (UC w0 wS p q 1 3 65 iX s en c ps X) (UD w0 wS p q 1 3 65 iX s en c ps X) (.pointer (some ⟨q, 0, none⟩)) (.pointer (some ⟨q, 1, none⟩))) (by kernel_rfl) rfl (by kernel_rfl) rfl xJ ?hread ?iV ?hend ((bG.out.dm.cell 1 (by decide))) (fun _ => bG.out)
  case hread =>
    intro j o a w hi hc ho hF hS hd;clear bG;have f0 : a.tmps[0]?.getD undef = .pointer (some ⟨p, 0, none⟩) := af.av (hF.eval 0 (.inl (by decide)));have f2 : a.tmps[2]?.getD undef = .pointer (some ⟨q, 0, none⟩) := af.av (hF.eval 2 (.inl (by decide)))
    iterate 12 (rcases Nat.lt_succ_iff_lt_or_eq.1 hi with hi | rfl)
    exact absurd hi (Nat.not_lt_zero _)
    all_goals (first
      | exact absurd hc (by decide)
      | (simp only [List.getElem?_toArray, List.getElem?_cons_succ, List.getElem?_cons_zero, Option.some.injEq] at ho
         subst ho;refine af.aR fun KK au => ?_;simp [af.deps, Region.binds] at hd;go_simp;exact au _ _ ⟨rfl, rfl⟩))
  case iV =>
    intro k j o a w hk ho hF hS hU hd;clear bG;have f0 : a.tmps[0]?.getD undef = .pointer (some ⟨p, 0, none⟩) := af.av (hF.eval 0 (.inl (by decide)));have hkl : k < 6 := (List.getElem?_eq_some_iff.1 hk).1
    iterate 6 (rcases Nat.lt_succ_iff_lt_or_eq.1 hkl with hkl | rfl)
    exact absurd hkl (Nat.not_lt_zero _)
    all_goals (simp only [List.getElem?_cons_succ, List.getElem?_cons_zero, Option.some.injEq] at hk; subst hk; simp only [List.getElem?_toArray, List.getElem?_cons_succ, List.getElem?_cons_zero, Option.some.injEq] at ho; subst ho)
    · have hL : LE w0 wS p q 1 3 65 iX s en i n 0 c ps w := hU
      refine af.aR fun KK au => ?_;simp [af.deps, Region.binds] at hd;have aL := aa au;have HL := aa hL;have HC := aa (Nk w0 p s en i n 0 w hL.dm.ds);clear hU hL au;go_simp;refine HC.out.mono ?_;rintro e w2 ⟨ya, yb, yt, i9, n9, z9, rfl, h1, h2, hf⟩;exact aL.out _ _ ⟨_, rfl, fun _ => ⟨(HL.out.dm.call h1 h2).cell 1 (by decide), rfl⟩, ⟨(ya, yb, yt), i9, n9, z9, rfl, HL.out.call hK h1 h2, by rw [HX.out]; exact hf.mono (fun x hx => by subst hx; rfl)⟩⟩
    · have hA : UA w0 wS p q 1 3 65 iX s en c ps (fun (y : ByteArray × ByteArray × Int) => [.string y.1, .string y.2.1, .int .i64 y.2.2]) X (a.eval (.tmp 37)) w := hU
      obtain ⟨y, i9, n9, z9, hv, h1, h2⟩ := id hA;obtain ⟨ya, yb, yt⟩ := y;have q1 : a.tmps[37]?.getD undef = .agg #[.string ya, .string yb, .int .i64 yt] := af.av hv;refine af.aR fun KK au => ?_;have aL := aa au;have HA := aa (UB.of hK hA hv);have HD := aa h1;clear hU hA au h1 h2 hd;go_simp;exact aL.out _ _ ⟨_, rfl, fun _ => ⟨((HD.out.dm.on (aD _ _)).cell 1 (by decide)), rfl⟩, HA.out⟩
    · have hB : UB w0 wS p q 1 3 65 iX s en c ps (fun (y : ByteArray × ByteArray × Int) => [.string y.1, .string y.2.1, .int .i64 y.2.2]) X (a.eval (.tmp 38)) w := hU
      obtain ⟨y, i9, n9, z9, g, hv, hc, h1, h2⟩ := hB;obtain ⟨ya, yb, yt⟩ := y;have q4 : a.eval (.tmp 35) = c 1 := by have := hd 4 (by decide) (by decide); show a.tmps.getD 35 undef = _; rw [Array.getD_eq_getD_getElem?]; exact this
      obtain ⟨i0, hi, hz0, hz1, hz2⟩ := info_parts Ke;refine qQ _ _ 24 rfl wS.heap.size 65 i0 _ 3 40 Tryz.underlying24 hi hz0 hz1 hz2 rfl (by decide) _ _ _ q4 h1.own (some ⟨g, 0, none⟩) 1 1 [.string ya, .string yb, .int .i64 yt] hv (by intro h; cases h) rfl (fun ad h => by injection h with h; subst h; exact hc) (by intro v hv; simp only [List.mem_cons, List.mem_nil_iff, or_false] at hv; rcases hv with rfl | rfl | rfl <;> rfl) (by unfold maxLen; omega) (by omega) h1.bu.size ?_
      intro v9 w9 hown hg aN;have fZ : UC w0 wS p q 1 3 65 iX s en c ps X v9 w9 := UC.of hK (by decide) (y := (ya, yb, yt)) (V := (fun (y : ByteArray × ByteArray × Int) => [.string y.1, .string y.2.1, .int .i64 y.2.2])) rfl h1 h2 hown hg aN;exact ⟨_, rfl, fun _ => ⟨(by obtain ⟨_, _, _, _, hm, _⟩ := fZ; exact hm.cell 1 (by decide)), rfl⟩, fZ⟩
    · have hC : UC w0 wS p q 1 3 65 iX s en c ps X (a.eval (.tmp 39)) w := hU
      have q1 := hd 0 (by decide) (by decide);refine af.aR fun KK au => ?_;have aL := aa au;have HC := aa hC;clear hU hC au hd;simp at q1;go_simp;exact aL.out _ _ ⟨_, rfl, fun _ => ⟨hS, rfl⟩, rfl, HC.out⟩
    · have hC : a.eval (.tmp 40) = .pointer (some ⟨q, 0, none⟩) ∧ UC w0 wS p q 1 3 65 iX s en c ps X (a.eval (.tmp 39)) w := hU
      have q1 : a.tmps[40]?.getD undef = .pointer (some ⟨q, 0, none⟩) := af.av hC.1;refine af.aR fun KK au => ?_;have aL := aa au;have HC := aa hC.2;clear hU hC au hd;go_simp;exact aL.out _ _ ⟨_, rfl, fun _ => ⟨hS, rfl⟩, rfl, HC.out⟩
    · have hC : a.eval (.tmp 41) = .pointer (some ⟨q, 1, none⟩) ∧ UC w0 wS p q 1 3 65 iX s en c ps X (a.eval (.tmp 39)) w := hU
      have q1 : a.tmps[41]?.getD undef = .pointer (some ⟨q, 1, none⟩) := af.av hC.1;obtain ⟨i9, n9, z9, hsl, hm, _, _⟩ := id hC.2;have fz := hm.ag 1;obtain ⟨v9, aN⟩ : ∃ v9, a.eval (.tmp 39) = v9 := ⟨_, rfl⟩;have q2 : a.tmps[39]?.getD undef = v9 := af.av aN;rw [aN] at hC hsl;obtain ⟨o9, k9, m9, rfl⟩ := hsl;have HD := aa (UC.put (by decide) hC.2);refine af.aR fun KK au => ?_;have aL := aa au;clear hU hC au hm hd aN;go_simp;exact aL.out a _ ⟨undef, rfl, fun h => absurd h (by decide), HD.out⟩
  case hend =>
    intro a w hF ⟨f9, _, hU⟩;have hD : UD w0 wS p q 1 3 65 iX s en c ps X (f9 5) w := hU;have HD := aa hD;clear hU hD bG;have kH := aa hF.defers;clear hF;go_wp2;obtain ⟨i9, n9, z9, c9, h1, h2, h3, h4⟩ := HD.out;exact bodyPost_end (results_none rfl _ _ _) kH.out ⟨rfl, i9, n9, z9, c9, h1, h2, h3, by rw [HG.out]; rw [HX.out] at h4; rw [bJ] at h4; exact h4⟩
end Go.Proofs.YtegboefdolfdgaaGreatDoor

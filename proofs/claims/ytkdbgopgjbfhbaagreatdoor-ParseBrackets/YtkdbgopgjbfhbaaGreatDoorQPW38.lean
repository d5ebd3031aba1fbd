/- Texts that the claim needs. -/
import Derived.Test.YtkdbgopgjbfhbaaGreatDoorQPW37
import Derived.Test.YtkdbgopgjbfhbaaGreatDoorQPW30
namespace Go.Proofs.YtkdbgopgjbfhbaaGreatDoor
open Go.RowKit Lx Pz bq
set_option linter.unusedVariables false
set_option maxRecDepth 100000
set_option maxHeartbeats 32000000
namespace aj
section
variable {P:Program} {ops:Array Oper} {Q:Exit->Act->World->Prop} {id:Nat} {a0:Act} {w0:World}
theorem l8 {p:Value->World->Prop} {o oj:Oper} {a:Act} {w:World} {j lo:Nat} {b:Bool} {L:List Value} (hg:o.guard=some (j,b)) (hj:ops[j]?=some oj) (hk:oj.dst=some (j+lo)) (hb:L.getD j undef=.bool (!b)) (hd:a.tmps[j+lo]?.getD undef=L.getD j undef) (h:p undef w):Does P ops Q p o a w :=
 Does.skip hg hj hk (by show a.tmps.getD (j+lo) undef=_;rw [Array.getD_eq_getD_getElem?,hd,hb]) h
end
end aj
namespace Pz
def C9:Nat->Value->Prop
 | 0,_=>True
 | d+1,t=>(wL t).size<=140737488355328/\True/\(-9223372036854775808<=uN t/\uN t<=9223372036854775807)/\(∀x ∈ dE t,C9 d x)/\True
def Jr:Nat->Value->Prop
 | 0,_=>True
 | d+1,t=>(wL t).size<=140737488355328/\(FA t).size<=140737488355328/\(-9223372036854775808<=uN t/\uN t<=9223372036854775807)/\(∀x ∈ dE t,Jr d x)/\(∀x ∈ gV t,C9 d x)
def Pu (m:Nat) (c:Value):Prop:=(wM c).size<=140737488355328/\∀t ∈ yH c,C9 m t
def Pv (m:Nat) (d:Value):Prop:=(wM d).size<=140737488355328/\(∀p ∈ CH d,(wO p).size<=140737488355328)/\∀c ∈ uB d,Pu m c
end Pz
namespace aj
theorem kS {x L:List Value} {n:Nat} (hx:x.length=n) (hL:L.length=n) (h:∀i,i<n->x.getD i undef=L.getD i undef):x=L:=by
 apply List.ext_getElem (by omega);intro i h1 h2
 have:=h i (by omega)
 rw [List.getD_eq_getElem?_getD,List.getD_eq_getElem?_getD,List.getElem?_eq_getElem h1,List.getElem?_eq_getElem h2] at this;exact this
end aj
theorem OQ : ∀ (m : Nat) (l k : List Value) (vl vk : Value) (w : World), mI m l → mJ 0 vl l w → mJ 0 vk k w → Calls Tryz.prog 77 #[vl, vk] w fun e w' => e = .returned (.bool (fQ false m l k)) ∧ Below w.heap.size w w' := by
  intro m
  induction m with
  | zero =>
    intro l k vl vk w hf h hk;have hl : l = [] := hf;subst hl;obtain ⟨d, h⟩ := h;obtain ⟨d2, hk⟩ := hk;obtain ⟨oR, cR, rfl, _⟩ := cF h;obtain ⟨oS, cS, rfl, _⟩ := cF hk;obtain ⟨R, hR⟩ : ∃ R, R = fQ false 0 [] k := ⟨_, rfl⟩;rw [← hR];rw [List.length_nil];clear h hk;cases k with
    | nil =>
      have HS : Hid (true = R) := ae (by rw [hR]; rfl);clear hR;rw [List.length_nil];go_enter Tryz.func77, Tryz.ntmps77;go_wp2_with fail;go_loopw [5] (fun a wr => a = .int .i64 0 ∧ Hid (Below w.heap.size w wr)) (fun _ _ => 0)
      case atStart => exact ⟨rfl, ae (Below.refl _ _)⟩
      case round =>
        obtain ⟨rfl, HB⟩ := hrel;go_wp2;go_ret;exact ⟨bf HS.out, HB.out⟩
    | cons x k =>
      have HS : Hid (false = R) := ae (by rw [hR]; rfl);obtain ⟨n, hn⟩ : ∃ n, n = (x :: k).length := ⟨_, rfl⟩;have hne : ¬ 0 = n := by rw [hn]; simp
      rw [← hn];clear hR hn;go_enter Tryz.func77, Tryz.ntmps77;go_wp2;go_ret;exact ⟨bf HS.out, Below.refl _ _⟩
  | succ m ih =>
    intro l k vl vk w hf h hk;obtain ⟨d, h⟩ := h;obtain ⟨d2, hk⟩ := hk;obtain ⟨oR, cR, rfl, hel⟩ := cF h;obtain ⟨oS, cS, rfl, hes⟩ := cF hk;obtain ⟨R, hR⟩ : ∃ R, R = fQ false (m + 1) l k := ⟨_, rfl⟩;rw [← hR];rw [AO] at hR;by_cases hlen : l.length = k.length
    · have st0 : Hid (dL (sm false m) (l.drop 0) (k.drop 0) = R) := ae (by rw [hR]; rfl)
      have HL := ae h.1;have iT := ae hel;have uF := ae hes;have rU := ae hlen;have yM := ae hf;have nG := ae ih;rw [← hlen];clear hR h hk hel hes hlen hf ih;go_enter Tryz.func77, Tryz.ntmps77;go_wp2_with fail;go_loopw [5] (fun a wr => ∃ i : Nat, a = .int .i64 i ∧ i ≤ l.length ∧ Hid (dL (sm false m) (l.drop i) (k.drop i) = R) ∧ Hid (Below w.heap.size w wr)) (fun a _ => match a with | .int _ i => l.length - i.toNat | _ => 0)
      case atStart => exact ⟨0, rfl, Nat.zero_le _, st0, ae (Below.refl _ _)⟩
      case round =>
        obtain ⟨i, rfl, hi, HN, HB2⟩ := hrel;clear st0;by_cases hp : i < l.length
        · obtain ⟨t1, ht1⟩ : ∃ t1, l[i]? = some t1 := ⟨_, List.getElem?_eq_getElem hp⟩
          obtain ⟨t2, ht2⟩ : ∃ t2, k[i]? = some t2 := ⟨_, List.getElem?_eq_getElem (by have := rU.out; omega)⟩;obtain ⟨b, off, gH, hC⟩ := iT.out i t1 ht1;obtain ⟨b2, bU, yN, hD⟩ := uF.out i t2 ht2;subst gH;subst yN;obtain ⟨pk, px, pn, pu, p1, p2, p3, p4, OT, pT⟩ := OU hC;obtain ⟨qk, qx, qn, qu, q1, q2, q3, q4, OV, qT⟩ := OU hD;have y0 := ai HB2.out p1;have y1 := ai HB2.out p2;have y2 := ai HB2.out p3;have y3 := ai HB2.out p4;have x0 := ai HB2.out q1;have x1 := ai HB2.out q2;have x2 := ai HB2.out q3;have x3 := ai HB2.out q4;obtain ⟨dd, k1, x1', n1, es1, u1, h0, hv1, hr1⟩ := pT;obtain ⟨AQ, k2, x2', n2, es2, u2, h02, hv2, hr2⟩ := qT;injection hv1 with hv1;injection hv2 with hv2;simp only [Array.mk.injEq, List.cons.injEq, Value.int.injEq, Value.string.injEq, true_and, and_true] at hv1 hv2;obtain ⟨rfl, rfl, rfl, rfl⟩ := hv1;obtain ⟨rfl, rfl, rfl, rfl⟩ := hv2;have hfit := yM.out t1 (List.mem_of_getElem? ht1);have hd := wm (f := sm false m) ht1 ht2;rw [HN.out] at hd;have hfa : mI m es1 := by have := (CK hfit).1; rw [h0] at this; exact this
          have hsm : sm false m t1 t2 = (((pk == qk) && (decide (px = qx) && (pn == qn))) && fQ false m es1 es2) := by
            rw [h0, h02];show (((pk == qk) && (decide (px = qx) && (true && ((pn == qn) && true)))) && (fQ false m es1 es2 && fQ false m [] [])) = _;rw [show fQ false m [] [] = true by cases m <;> rfl, Bool.and_true, Bool.and_true, Bool.true_and]
          rw [hsm] at hd;obtain ⟨oA, cA, rfl, _⟩ := cF hr1;obtain ⟨oB, cB, rfl, _⟩ := cF hr2;have gu := ae (fun (u : World) (hu : Below w.heap.size w u) => nG.out es1 es2 (.slice oA es1.length cA) (.slice oB es2.length cB) u hfa ⟨dd, hr1.imp (fun b o t _ ht => eM.but (fun kk _ hl => hu.block kk hl) _ b o t ht)⟩ ⟨AQ, hr2.imp (fun b o t _ ht => eM.but (fun kk _ hl => hu.block kk hl) _ b o t ht)⟩);generalize fQ false m es1 es2 = A at *;have HD := ae hd;have w1 : decide ((i : Int) < (l.length : Int)) = true := decide_eq_true (by omega);have hw1 := wo hp HL.out;have hik : i < l.length := hp;clear hC hD p1 q1 p2 q2 p3 q3 p4 q4 ht1 ht2 HN hd hsm hfit hfa h0 h02 hr1 hr2;cases q0 : (pk == qk) with
          | false =>
            have r0 : (pk != qk) = true := by rw [bne, q0]; rfl
            go_upto_region 6 with fail;refine aj.kT 51 17 68 [.slice (some ⟨b, off, none⟩) l.length cR, .int .i64 (i : Int), .pointer (some ⟨b, off + i * 4, none⟩), .pointer (some ⟨b, off + i * 4, none⟩), .int .i64 pk, .slice (some ⟨b2, bU, none⟩) l.length cS, .int .i64 (i : Int), .pointer (some ⟨b2, bU + i * 4, none⟩), .pointer (some ⟨b2, bU + i * 4, none⟩), .int .i64 qk, .bool true, .bool true, undef, undef, undef, undef, undef, undef, undef, undef, undef, undef, undef, .bool true, .bool true, undef, undef, undef, undef, undef, undef, undef, undef, undef, undef, undef, .bool true, .bool true, undef, undef, undef, undef, undef, undef, undef, undef, undef, undef, undef, undef, .bool true] (by kernel_rfl) (by kernel_rfl) (by kernel_rfl) rfl ?hstep ?hend
            case hstep =>
              intro j o a u hj ho hF hB hd;have f0 : a.tmps[0]?.getD undef = .slice (some ⟨b, off, none⟩) l.length cR := aj.ay (hF.eval 0 (fun i hi => by show 17 + i ≠ 0; omega));have f1 : a.tmps[1]?.getD undef = .slice (some ⟨b2, bU, none⟩) l.length cS := aj.ay (hF.eval 1 (fun i hi => by show 17 + i ≠ 1; omega));have f5 : a.tmps[5]?.getD undef = .int .i64 (i : Int) := aj.ay (hF.eval 5 (fun i hi => by show 17 + i ≠ 5; omega));have y0 := ai hB y0;have y1 := ai hB y1;have y2 := ai hB y2;have y3 := ai hB y3;have x0 := ai hB x0;have x1 := ai hB x1;have x2 := ai hB x2;have x3 := ai hB x3
              skip
              iterate 51 (rcases Nat.lt_succ_iff_lt_or_eq.1 hj with hj | rfl)
              exact absurd hj (Nat.not_lt_zero _)
              all_goals (
                simp only [List.getElem?_toArray, List.getElem?_cons_succ, List.getElem?_cons_zero, Option.some.injEq] at ho;subst ho
                first
                | exact aj.l8 rfl rfl rfl rfl (hd _ (by decide)) rfl
                | (first
                  | refine aj.Does.go rfl (aj.bB fun K hK => ?_)
                  | refine aj.l9 rfl rfl rfl rfl (hd _ (by decide)) (aj.bB fun K hK => ?_)
                   simp [aj.deps, Region.binds] at hd;go_simp
                   first
                   | exact hK _ _ ⟨_, rfl, Below.refl _ _, rfl⟩
                   | exact hK _ _ ⟨_, rfl, Below.refl _ _, by simp [aj.iH, *]⟩))
            case hend =>
              intro a u hF hB hG;have fH := ae (aB HB2.out hB);obtain ⟨xl, hxl, rfl, hev⟩ := hF.lit (by simp);obtain rfl := aj.kS hxl (L := [.slice (some ⟨b, off, none⟩) l.length cR, .int .i64 (i : Int), .pointer (some ⟨b, off + i * 4, none⟩), .pointer (some ⟨b, off + i * 4, none⟩), .int .i64 pk, .slice (some ⟨b2, bU, none⟩) l.length cS, .int .i64 (i : Int), .pointer (some ⟨b2, bU + i * 4, none⟩), .pointer (some ⟨b2, bU + i * 4, none⟩), .int .i64 qk, .bool true, .bool true, undef, undef, undef, undef, undef, undef, undef, undef, undef, undef, undef, .bool true, .bool true, undef, undef, undef, undef, undef, undef, undef, undef, undef, undef, undef, .bool true, .bool true, undef, undef, undef, undef, undef, undef, undef, undef, undef, undef, undef, undef, .bool true]) rfl (fun i hi => by rw [← hev i hi]; exact hG i hi);clear hev hxl hF hG hB;simp only [List.take_succ_cons, List.take_zero, List.drop_succ_cons, List.drop_zero, List.cons_append, List.nil_append];have HS : Hid (R = false) := ae (by rw [HD.out, q0]; simp);clear HD gu;go_wp2;go_ret;exact ⟨bf HS.out.symm, fH.out⟩
          | true =>
            have r0 : (pk != qk) = false := by rw [bne, q0]; rfl
            cases q1 : decide (px = qx) with
            | false =>
              have s1 : (px.toList == qx.toList) = false := by rw [str_eq, q1]
              have r1 : (px.toList != qx.toList) = true := by rw [bne, s1]; rfl
              go_upto_region 6 with fail;refine aj.kT 51 17 68 [.slice (some ⟨b, off, none⟩) l.length cR, .int .i64 (i : Int), .pointer (some ⟨b, off + i * 4, none⟩), .pointer (some ⟨b, off + i * 4, none⟩), .int .i64 pk, .slice (some ⟨b2, bU, none⟩) l.length cS, .int .i64 (i : Int), .pointer (some ⟨b2, bU + i * 4, none⟩), .pointer (some ⟨b2, bU + i * 4, none⟩), .int .i64 qk, .bool false, .bool false, .slice (some ⟨b, off, none⟩) l.length cR, .int .i64 (i : Int), .pointer (some ⟨b, off + i * 4, none⟩), .pointer (some ⟨b, off + i * 4 + 1, none⟩), .string px, .slice (some ⟨b2, bU, none⟩) l.length cS, .int .i64 (i : Int), .pointer (some ⟨b2, bU + i * 4, none⟩), .pointer (some ⟨b2, bU + i * 4 + 1, none⟩), .string qx, .bool true, .bool true, .bool true, undef, undef, undef, undef, undef, undef, undef, undef, undef, undef, undef, .bool true, .bool true, undef, undef, undef, undef, undef, undef, undef, undef, undef, undef, undef, undef, .bool true] (by kernel_rfl) (by kernel_rfl) (by kernel_rfl) rfl ?hstep ?hend
              case hstep =>
                intro j o a u hj ho hF hB hd;have f0 : a.tmps[0]?.getD undef = .slice (some ⟨b, off, none⟩) l.length cR := aj.ay (hF.eval 0 (fun i hi => by show 17 + i ≠ 0; omega));have f1 : a.tmps[1]?.getD undef = .slice (some ⟨b2, bU, none⟩) l.length cS := aj.ay (hF.eval 1 (fun i hi => by show 17 + i ≠ 1; omega));have f5 : a.tmps[5]?.getD undef = .int .i64 (i : Int) := aj.ay (hF.eval 5 (fun i hi => by show 17 + i ≠ 5; omega));have y0 := ai hB y0;have y1 := ai hB y1;have y2 := ai hB y2;have y3 := ai hB y3;have x0 := ai hB x0;have x1 := ai hB x1;have x2 := ai hB x2;have x3 := ai hB x3
                skip
                iterate 51 (rcases Nat.lt_succ_iff_lt_or_eq.1 hj with hj | rfl)
                exact absurd hj (Nat.not_lt_zero _)
                all_goals (
                  simp only [List.getElem?_toArray, List.getElem?_cons_succ, List.getElem?_cons_zero, Option.some.injEq] at ho;subst ho
                  first
                  | exact aj.l8 rfl rfl rfl rfl (hd _ (by decide)) rfl
                  | (first
                    | refine aj.Does.go rfl (aj.bB fun K hK => ?_)
                    | refine aj.l9 rfl rfl rfl rfl (hd _ (by decide)) (aj.bB fun K hK => ?_)
                     simp [aj.deps, Region.binds] at hd;go_simp
                     first
                     | exact hK _ _ ⟨_, rfl, Below.refl _ _, rfl⟩
                     | exact hK _ _ ⟨_, rfl, Below.refl _ _, by simp [aj.iH, *]⟩))
              case hend =>
                intro a u hF hB hG;have fH := ae (aB HB2.out hB);obtain ⟨xl, hxl, rfl, hev⟩ := hF.lit (by simp);obtain rfl := aj.kS hxl (L := [.slice (some ⟨b, off, none⟩) l.length cR, .int .i64 (i : Int), .pointer (some ⟨b, off + i * 4, none⟩), .pointer (some ⟨b, off + i * 4, none⟩), .int .i64 pk, .slice (some ⟨b2, bU, none⟩) l.length cS, .int .i64 (i : Int), .pointer (some ⟨b2, bU + i * 4, none⟩), .pointer (some ⟨b2, bU + i * 4, none⟩), .int .i64 qk, .bool false, .bool false, .slice (some ⟨b, off, none⟩) l.length cR, .int .i64 (i : Int), .pointer (some ⟨b, off + i * 4, none⟩), .pointer (some ⟨b, off + i * 4 + 1, none⟩), .string px, .slice (some ⟨b2, bU, none⟩) l.length cS, .int .i64 (i : Int), .pointer (some ⟨b2, bU + i * 4, none⟩), .pointer (some ⟨b2, bU + i * 4 + 1, none⟩), .string qx, .bool true, .bool true, .bool true, undef, undef, undef, undef, undef, undef, undef, undef, undef, undef, undef, .bool true, .bool true, undef, undef, undef, undef, undef, undef, undef, undef, undef, undef, undef, undef, .bool true]) rfl (fun i hi => by rw [← hev i hi]; exact hG i hi);clear hev hxl hF hG hB;simp only [List.take_succ_cons, List.take_zero, List.drop_succ_cons, List.drop_zero, List.cons_append, List.nil_append];have HS : Hid (R = false) := ae (by rw [HD.out, q0, q1]; simp);clear HD gu;go_wp2;go_ret;exact ⟨bf HS.out.symm, fH.out⟩
            | true =>
              have s1 : (px.toList == qx.toList) = true := by rw [str_eq, q1]
              have r1 : (px.toList != qx.toList) = false := by rw [bne, s1]; rfl
              cases q2 : (pn == qn) with
              | false =>
                have r2 : (pn != qn) = true := by rw [bne, q2]; rfl
                go_upto_region 6 with fail;refine aj.kT 51 17 68 [.slice (some ⟨b, off, none⟩) l.length cR, .int .i64 (i : Int), .pointer (some ⟨b, off + i * 4, none⟩), .pointer (some ⟨b, off + i * 4, none⟩), .int .i64 pk, .slice (some ⟨b2, bU, none⟩) l.length cS, .int .i64 (i : Int), .pointer (some ⟨b2, bU + i * 4, none⟩), .pointer (some ⟨b2, bU + i * 4, none⟩), .int .i64 qk, .bool false, .bool false, .slice (some ⟨b, off, none⟩) l.length cR, .int .i64 (i : Int), .pointer (some ⟨b, off + i * 4, none⟩), .pointer (some ⟨b, off + i * 4 + 1, none⟩), .string px, .slice (some ⟨b2, bU, none⟩) l.length cS, .int .i64 (i : Int), .pointer (some ⟨b2, bU + i * 4, none⟩), .pointer (some ⟨b2, bU + i * 4 + 1, none⟩), .string qx, .bool false, .bool false, .bool false, .slice (some ⟨b, off, none⟩) l.length cR, .int .i64 (i : Int), .pointer (some ⟨b, off + i * 4, none⟩), .pointer (some ⟨b, off + i * 4 + 2, none⟩), .int .i64 pn, .slice (some ⟨b2, bU, none⟩) l.length cS, .int .i64 (i : Int), .pointer (some ⟨b2, bU + i * 4, none⟩), .pointer (some ⟨b2, bU + i * 4 + 2, none⟩), .int .i64 qn, .bool true, .bool true, .bool true, undef, undef, undef, undef, undef, undef, undef, undef, undef, undef, undef, undef, .bool true] (by kernel_rfl) (by kernel_rfl) (by kernel_rfl) rfl ?hstep ?hend
                case hstep =>
                  intro j o a u hj ho hF hB hd;have f0 : a.tmps[0]?.getD undef = .slice (some ⟨b, off, none⟩) l.length cR := aj.ay (hF.eval 0 (fun i hi => by show 17 + i ≠ 0; omega));have f1 : a.tmps[1]?.getD undef = .slice (some ⟨b2, bU, none⟩) l.length cS := aj.ay (hF.eval 1 (fun i hi => by show 17 + i ≠ 1; omega));have f5 : a.tmps[5]?.getD undef = .int .i64 (i : Int) := aj.ay (hF.eval 5 (fun i hi => by show 17 + i ≠ 5; omega));have y0 := ai hB y0;have y1 := ai hB y1;have y2 := ai hB y2;have y3 := ai hB y3;have x0 := ai hB x0;have x1 := ai hB x1;have x2 := ai hB x2;have x3 := ai hB x3
                  skip
                  iterate 51 (rcases Nat.lt_succ_iff_lt_or_eq.1 hj with hj | rfl)
                  exact absurd hj (Nat.not_lt_zero _)
                  all_goals (
                    simp only [List.getElem?_toArray, List.getElem?_cons_succ, List.getElem?_cons_zero, Option.some.injEq] at ho;subst ho
                    first
                    | exact aj.l8 rfl rfl rfl rfl (hd _ (by decide)) rfl
                    | (first
                      | refine aj.Does.go rfl (aj.bB fun K hK => ?_)
                      | refine aj.l9 rfl rfl rfl rfl (hd _ (by decide)) (aj.bB fun K hK => ?_)
                       simp [aj.deps, Region.binds] at hd;go_simp
                       first
                       | exact hK _ _ ⟨_, rfl, Below.refl _ _, rfl⟩
                       | exact hK _ _ ⟨_, rfl, Below.refl _ _, by simp [aj.iH, *]⟩))
                case hend =>
                  intro a u hF hB hG;have fH := ae (aB HB2.out hB);obtain ⟨xl, hxl, rfl, hev⟩ := hF.lit (by simp);obtain rfl := aj.kS hxl (L := [.slice (some ⟨b, off, none⟩) l.length cR, .int .i64 (i : Int), .pointer (some ⟨b, off + i * 4, none⟩), .pointer (some ⟨b, off + i * 4, none⟩), .int .i64 pk, .slice (some ⟨b2, bU, none⟩) l.length cS, .int .i64 (i : Int), .pointer (some ⟨b2, bU + i * 4, none⟩), .pointer (some ⟨b2, bU + i * 4, none⟩), .int .i64 qk, .bool false, .bool false, .slice (some ⟨b, off, none⟩) l.length cR, .int .i64 (i : Int), .pointer (some ⟨b, off + i * 4, none⟩), .pointer (some ⟨b, off + i * 4 + 1, none⟩), .string px, .slice (some ⟨b2, bU, none⟩) l.length cS, .int .i64 (i : Int), .pointer (some ⟨b2, bU + i * 4, none⟩), .pointer (some ⟨b2, bU + i * 4 + 1, none⟩), .string qx, .bool false, .bool false, .bool false, .slice (some ⟨b, off, none⟩) l.length cR, .int .i64 (i : Int), .pointer (some ⟨b, off + i * 4, none⟩), .pointer (some ⟨b, off + i * 4 + 2, none⟩), .int .i64 pn, .slice (some ⟨b2, bU, none⟩) l.length cS, .int .i64 (i : Int), .pointer (some ⟨b2, bU + i * 4, none⟩), .pointer (some ⟨b2, bU + i * 4 + 2, none⟩), .int .i64 qn, .bool true, .bool true, .bool true, undef, undef, undef, undef, undef, undef, undef, undef, undef, undef, undef, undef, .bool true]) rfl (fun i hi => by rw [← hev i hi]; exact hG i hi);clear hev hxl hF hG hB;simp only [List.take_succ_cons, List.take_zero, List.drop_succ_cons, List.drop_zero, List.cons_append, List.nil_append];have HS : Hid (R = false) := ae (by rw [HD.out, q0, q1, q2]; simp);clear HD gu;go_wp2;go_ret;exact ⟨bf HS.out.symm, fH.out⟩
              | true =>
                have r2 : (pn != qn) = false := by rw [bne, q2]; rfl
                go_upto_region 6 with fail;refine aj.kT 51 17 68 [.slice (some ⟨b, off, none⟩) l.length cR, .int .i64 (i : Int), .pointer (some ⟨b, off + i * 4, none⟩), .pointer (some ⟨b, off + i * 4, none⟩), .int .i64 pk, .slice (some ⟨b2, bU, none⟩) l.length cS, .int .i64 (i : Int), .pointer (some ⟨b2, bU + i * 4, none⟩), .pointer (some ⟨b2, bU + i * 4, none⟩), .int .i64 qk, .bool false, .bool false, .slice (some ⟨b, off, none⟩) l.length cR, .int .i64 (i : Int), .pointer (some ⟨b, off + i * 4, none⟩), .pointer (some ⟨b, off + i * 4 + 1, none⟩), .string px, .slice (some ⟨b2, bU, none⟩) l.length cS, .int .i64 (i : Int), .pointer (some ⟨b2, bU + i * 4, none⟩), .pointer (some ⟨b2, bU + i * 4 + 1, none⟩), .string qx, .bool false, .bool false, .bool false, .slice (some ⟨b, off, none⟩) l.length cR, .int .i64 (i : Int), .pointer (some ⟨b, off + i * 4, none⟩), .pointer (some ⟨b, off + i * 4 + 2, none⟩), .int .i64 pn, .slice (some ⟨b2, bU, none⟩) l.length cS, .int .i64 (i : Int), .pointer (some ⟨b2, bU + i * 4, none⟩), .pointer (some ⟨b2, bU + i * 4 + 2, none⟩), .int .i64 qn, .bool false, .bool false, .bool false, .slice (some ⟨b, off, none⟩) l.length cR, .int .i64 (i : Int), .pointer (some ⟨b, off + i * 4, none⟩), .pointer (some ⟨b, off + i * 4 + 3, none⟩), .slice oA es1.length cA, .slice (some ⟨b2, bU, none⟩) l.length cS, .int .i64 (i : Int), .pointer (some ⟨b2, bU + i * 4, none⟩), .pointer (some ⟨b2, bU + i * 4 + 3, none⟩), .slice oB es2.length cB, .bool A, .bool (!A), .bool (!A)] (by kernel_rfl) (by kernel_rfl) (by kernel_rfl) rfl ?hstep ?hend
                case hstep =>
                  intro j o a u hj ho hF hB hd;have f0 : a.tmps[0]?.getD undef = .slice (some ⟨b, off, none⟩) l.length cR := aj.ay (hF.eval 0 (fun i hi => by show 17 + i ≠ 0; omega));have f1 : a.tmps[1]?.getD undef = .slice (some ⟨b2, bU, none⟩) l.length cS := aj.ay (hF.eval 1 (fun i hi => by show 17 + i ≠ 1; omega));have f5 : a.tmps[5]?.getD undef = .int .i64 (i : Int) := aj.ay (hF.eval 5 (fun i hi => by show 17 + i ≠ 5; omega));have y0 := ai hB y0;have y1 := ai hB y1;have y2 := ai hB y2;have y3 := ai hB y3;have x0 := ai hB x0;have x1 := ai hB x1;have x2 := ai hB x2;have x3 := ai hB x3;have uG := ae (gu.out u (aB HB2.out hB))
                  iterate 51 (rcases Nat.lt_succ_iff_lt_or_eq.1 hj with hj | rfl)
                  exact absurd hj (Nat.not_lt_zero _)
                  all_goals (
                    simp only [List.getElem?_toArray, List.getElem?_cons_succ, List.getElem?_cons_zero, Option.some.injEq] at ho;subst ho
                    first
                    | exact aj.l8 rfl rfl rfl rfl (hd _ (by decide)) rfl
                    | (first
                      | refine aj.Does.go rfl (aj.bB fun K hK => ?_)
                      | refine aj.l9 rfl rfl rfl rfl (hd _ (by decide)) (aj.bB fun K hK => ?_)
                       simp [aj.deps, Region.binds] at hd;go_simp
                       first
                       | exact hK _ _ ⟨_, rfl, Below.refl _ _, rfl⟩
                       | exact hK _ _ ⟨_, rfl, Below.refl _ _, by simp [aj.iH, *]⟩
                       | (refine Calls.mono (show Calls _ _ _ _ _ from uG.out) ?_; rintro e w' ⟨rfl, hw⟩; exact hK _ _ ⟨_, rfl, hw, rfl⟩)))
                case hend =>
                  intro a u hF hB hG;have fH := ae (aB HB2.out hB);obtain ⟨xl, hxl, rfl, hev⟩ := hF.lit (by simp);obtain rfl := aj.kS hxl (L := [.slice (some ⟨b, off, none⟩) l.length cR, .int .i64 (i : Int), .pointer (some ⟨b, off + i * 4, none⟩), .pointer (some ⟨b, off + i * 4, none⟩), .int .i64 pk, .slice (some ⟨b2, bU, none⟩) l.length cS, .int .i64 (i : Int), .pointer (some ⟨b2, bU + i * 4, none⟩), .pointer (some ⟨b2, bU + i * 4, none⟩), .int .i64 qk, .bool false, .bool false, .slice (some ⟨b, off, none⟩) l.length cR, .int .i64 (i : Int), .pointer (some ⟨b, off + i * 4, none⟩), .pointer (some ⟨b, off + i * 4 + 1, none⟩), .string px, .slice (some ⟨b2, bU, none⟩) l.length cS, .int .i64 (i : Int), .pointer (some ⟨b2, bU + i * 4, none⟩), .pointer (some ⟨b2, bU + i * 4 + 1, none⟩), .string qx, .bool false, .bool false, .bool false, .slice (some ⟨b, off, none⟩) l.length cR, .int .i64 (i : Int), .pointer (some ⟨b, off + i * 4, none⟩), .pointer (some ⟨b, off + i * 4 + 2, none⟩), .int .i64 pn, .slice (some ⟨b2, bU, none⟩) l.length cS, .int .i64 (i : Int), .pointer (some ⟨b2, bU + i * 4, none⟩), .pointer (some ⟨b2, bU + i * 4 + 2, none⟩), .int .i64 qn, .bool false, .bool false, .bool false, .slice (some ⟨b, off, none⟩) l.length cR, .int .i64 (i : Int), .pointer (some ⟨b, off + i * 4, none⟩), .pointer (some ⟨b, off + i * 4 + 3, none⟩), .slice oA es1.length cA, .slice (some ⟨b2, bU, none⟩) l.length cS, .int .i64 (i : Int), .pointer (some ⟨b2, bU + i * 4, none⟩), .pointer (some ⟨b2, bU + i * 4 + 3, none⟩), .slice oB es2.length cB, .bool A, .bool (!A), .bool (!A)]) rfl (fun i hi => by rw [← hev i hi]; exact hG i hi);clear hev hxl hF hG hB;simp only [List.take_succ_cons, List.take_zero, List.drop_succ_cons, List.drop_zero, List.cons_append, List.nil_append];have hD := HD.out;rw [q0, q1, q2, Bool.true_and, Bool.true_and, Bool.true_and] at hD;have ik := ae hD;clear hD HD gu;cases A with
                  | false =>
                    have HS : Hid (R = false) := ae (by rw [ik.out]; rfl);clear ik;go_wp2;go_ret;exact ⟨bf HS.out.symm, fH.out⟩
                  | true =>
                    have HS : Hid (dL (sm false m) (l.drop (i + 1)) (k.drop (i + 1)) = R) := ae (by rw [ik.out]; rfl);clear ik;go_wp2;go_roundw
                    case rel => exact ⟨i + 1, by first | rfl | (congr 1), hik, HS, fH⟩
                    case measure => simp; omega
        · have q1 : decide ((i : Int) < (l.length : Int)) = false := decide_eq_false (by omega)
          have HS : Hid (R = true) := ae (by rw [← HN.out]; exact wu (by omega) (by have := rU.out; omega));clear HN;go_wp2;go_ret;exact ⟨bf HS.out.symm, HB2.out⟩
    · have HS : Hid (R = false) := ae (by rw [hR, uH hlen])
      clear hR h hk hel hes hf ih;go_enter Tryz.func77, Tryz.ntmps77;go_wp2;go_ret;exact ⟨bf HS.out.symm, Below.refl _ _⟩
end Go.Proofs.YtkdbgopgjbfhbaaGreatDoor

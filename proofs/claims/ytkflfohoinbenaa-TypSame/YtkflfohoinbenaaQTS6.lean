/- Texts that the claim needs. -/
import Derived.Test.YtkflfohoinbenaaQTS5
namespace Go.Proofs.Ytkflfohoinbenaa
open Go.RowKit Lx Pz Rep Ty
set_option linter.unusedVariables false
namespace Ty
def unL (f:Nat->(Nat->Value)->Value->Value->Int × Nat × (Nat->Value)):Nat->(Nat->Value)->List Value->List Value->Int × Nat × (Nat->Value)
 | c,h,a :: la,b :: lb=>if (f c h a b).1=0 then unL f (f c h a b).2.1 (f c h a b).2.2 la lb else f c h a b
 | c,h,[],_=>(0,c,h)
 | c,h,_ :: _,[]=>(0,c,h)
def unB (m c:Nat) (h:Nat->Value) (x y:Value):Int × Nat × (Nat->Value):=((lkT h (numT x) m 0 y).1,c,if (lkT h (numT x) m 0 y).1=0 then bdH h (numT x-1).toNat y else h)
def unN (m:Nat) (F:Nat->(Nat->Value)->Value->Value->Int × Nat × (Nat->Value)) (c:Nat) (h:Nat->Value) (x y:Value):Int × Nat × (Nat->Value) :=
 if kindV x=2 then (if kindV y=2/\numT y=numT x then (0,c,h) else unB m c h x y)
 else if kindV y=2 then unB m c h y x
 else if kindV x=kindV y/\namT x=namT y/\(argsV x).length=(argsV y).length then unL F c h (argsV x) (argsV y) else (150,c,h)
def unT (m:Nat):Nat->Nat->(Nat->Value)->Value->Value->Int × Nat × (Nat->Value)
 | 0,c,h,_,_=>(3,c+1,h)
 | f+1,c,h,a,b=>if 65536<c+1 then (3,c+1,h) else unN m (unT m f) (c+1) h (endT h a) (endT h b)
theorem unT_ok {m:Nat}:∀(f c:Nat) (h:Nat->Value) (a b:Value),(unT m f c h a b).1=0->c<(unT m f c h a b).2.1/\(unT m f c h a b).2.1<=65536
 | 0,c,h,a,b,h0=>by unfold unT at h0;cases h0
 | f+1,c,h,a,b,h0=>by
  unfold unT at h0 ⊢
  by_cases h1:65536<c+1
  ·rw [if_pos h1] at h0;cases h0
  ·rw [if_neg h1] at h0 ⊢
   generalize endT h a=x at *
   generalize endT h b=y at *
   have hL:∀(la lb:List Value) (c:Nat) (h:Nat->Value),c<=65536->(unL (unT m f) c h la lb).1=0->c<=(unL (unT m f) c h la lb).2.1/\(unL (unT m f) c h la lb).2.1<=65536:=fun la=>by
    induction la with
    | nil=>intro lb c h hc _;unfold unL;exact ⟨Nat.le_refl _,hc⟩
    | cons t la ih =>
     intro lb c h hc h0
     cases lb with
     | nil=>unfold unL;exact ⟨Nat.le_refl _,hc⟩
     | cons u lb =>
      unfold unL at h0 ⊢
      by_cases h2:(unT m f c h t u).1=0
      ·rw [if_pos h2] at h0 ⊢
       have h3:=unT_ok f c h t u h2
       have h4:=ih lb _ _ h3.2 h0
       exact ⟨by omega,h4.2⟩
      ·rw [if_neg h2] at h0;exact absurd h0 h2
   unfold unN at h0 ⊢
   have hc1:c+1<=65536:=by omega
   split at h0
   ·rename_i k1
    rw [if_pos k1]
    split at h0
    ·rename_i k2
     rw [if_pos k2]
     exact ⟨Nat.lt_succ_self _,hc1⟩
    ·rename_i k2
     rw [if_neg k2]
     exact ⟨Nat.lt_succ_self _,hc1⟩
   ·rename_i k1
    rw [if_neg k1]
    split at h0
    ·rename_i k2
     rw [if_pos k2]
     exact ⟨Nat.lt_succ_self _,hc1⟩
    ·rename_i k2
     rw [if_neg k2]
     split at h0
     ·rename_i k3
      rw [if_pos k3]
      have h4:=hL _ _ _ _ hc1 h0
      exact ⟨by omega,h4.2⟩
     ·cases h0
theorem unL_step {f:Nat->(Nat->Value)->Value->Value->Int × Nat × (Nat->Value)} {la lb:List Value} {i c:Nat} {h:Nat->Value} {t u:Value} (hx:la[i]?=some t) (hy:lb[i]?=some u):unL f c h (la.drop i) (lb.drop i)=if (f c h t u).1=0 then unL f (f c h t u).2.1 (f c h t u).2.2 (la.drop (i+1)) (lb.drop (i+1)) else f c h t u:=by
 rw [List.drop_eq_getElem_cons (List.getElem?_eq_some_iff.1 hx).1,(List.getElem?_eq_some_iff.1 hx).2,List.drop_eq_getElem_cons (List.getElem?_eq_some_iff.1 hy).1,(List.getElem?_eq_some_iff.1 hy).2]
 rfl
theorem str_eqT (x y:ByteArray):(x.toList == y.toList)=decide (x=y):=by
 rw [ByteArray.toList_eq,ByteArray.toList_eq]
 by_cases h:x=y
 ·subst h;simp
 ·rw [decide_eq_false h]
  simp only [beq_eq_false_iff_ne,ne_eq]
  exact fun e=>h (ByteArray.ext (Array.toList_inj.1 e))
theorem tyE_part {f : Bool} {S : Nat → Prop} {w : World} {n b o : Nat} {k m : Int} {x : ByteArray} {es : List Value} {oR : Option Addr} {l cR : Nat} (h : TyE f S w n b o (nd k x e0 m es [] 0)) (hc : w.cell? ⟨b, o + 3, none⟩ = some (.slice oR l cR)) {i : Nat} {t1 : Value} (ht : es[i]? = some t1) : ∃ d1 f1, oR = some ⟨d1, f1, none⟩ ∧ TyE f S w n d1 (f1 + i * 4) t1 := by
  obtain ⟨k', x', m', es', oR', cR', he, _, _, _, g3, _, hel⟩ := h.ptr
  have hes : es = es' := by have h1 : argsV (nd k x e0 m es [] 0) = argsV (nd k' x' e0 m' es' [] 0) := by rw [he]
                            exact h1
  subst hes
  obtain ⟨b1, off, ho, hx⟩ := hel i t1 ht
  rw [hc] at g3
  injection g3 with g3
  injection g3 with g3
  exact ⟨b1, off, g3.trans ho, hx⟩
theorem plen13 {l:List Value} (h:l.length=13):∃a0 a1 a2 a3 a4 a5 a6 a7 a8 a9 a10 a11 a12,l = [a0,a1,a2,a3,a4,a5,a6,a7,a8,a9,a10,a11,a12]:=by
 match l,h with
 | [a0,a1,a2,a3,a4,a5,a6,a7,a8,a9,a10,a11,a12],_=>exact ⟨_,_,_,_,_,_,_,_,_,_,_,_,_,rfl⟩
theorem cases13 {j:Nat} (h:j<13):j=0\/j=1\/j=2\/j=3\/j=4\/j=5\/j=6\/j=7\/j=8\/j=9\/j=10\/j=11\/j=12:=by omega
theorem t_varOf {f:Bool} {S:Nat->Prop} {B n p b o:Nat} {h:Nat->Value} {vs t:Value} {w:World} (H:SO S B n h p vs w) (hT:TyE f S w n b o t):∃vx,(∀u,Below w.heap.size w u->Calls Try.prog 59 #[.pointer (some ⟨p,0,none⟩),.pointer (some ⟨b,o,none⟩)] u fun e w'=>e=.returned vx/\Below u.heap.size u w')/\((∃j g,j<n/\t=vr j/\vs.ownBlock=some g/\vx=.pointer (some ⟨g,j*2,none⟩))\/(kindV t≠2/\vx=.pointer none)):=by
 rcases hT.cases with ⟨j,hj,rfl,c0,c2⟩|⟨k,hk,c0,hkk,_⟩
 ·obtain ⟨g,hg,hv,_⟩:=H.vars hj
  exact ⟨_,fun u hu=>hv b o u hu (cell_on hu c0) (cell_on hu c2),.inl ⟨j,g,hj,rfl,hg,rfl⟩⟩
 ·exact ⟨_,fun u hu=>t_novar u _ b o k (cell_on hu c0) hk,.inr ⟨by rw [hkk];exact hk,rfl⟩⟩
theorem idx_vr (i:Nat):(numT (vr i)-1).toNat=i:=by
 have e:(numT (vr i)-1).toNat=(((i:Int)+1)-1).toNat:=rfl
 rw [e];omega
theorem num_vr (i:Nat):numT (vr i)=(i:Int)+1:=rfl
theorem varPtrU:Try.prog.underlying 109=some (.pointer 105):=by kernel_rfl
theorem vptr_same (w:World) (a:Addr):(binOp BinOp.eql 109 (.pointer (some a)) (.pointer (some a))).run Try.prog w=.ok (.bool true) w:=by
 obtain ⟨i0,hi,_⟩:=info_parts varInf
 exact run_eql_ptr_same w a varPtrU hi
theorem vptr_other (w:World) (g i j:Nat) (h:i≠j):(binOp BinOp.eql 109 (.pointer (some ⟨g,i,none⟩)) (.pointer (some ⟨g,j,none⟩))).run Try.prog w=.ok (.bool false) w:=by
 obtain ⟨i0,hi,_,hz1,_⟩:=info_parts varInf
 have hs:(sameAddr ⟨g,i,none⟩ ⟨g,j,none⟩).run Try.prog w=.ok false w:=by simp [sameAddr]
 have h:∀d:Nat,(Op.equalIn (d+1) 109 (.pointer (some ⟨g,i,none⟩)) (.pointer (some ⟨g,j,none⟩))).run Try.prog w=.ok false w:=fun d=>by
  simp [Op.equalIn,run_underlying varPtrU,sizeOf,typeInfo,hi,hz1,hs]
 simp only [binOp]
 simp [Op.equal,Op.maxDepth,h 9999]
theorem vptr_nil (w:World) (a:Addr):(binOp BinOp.eql 109 (.pointer (some a)) (.pointer none)).run Try.prog w=.ok (.bool false) w:=by
 have h:∀d:Nat,(Op.equalIn (d+1) 109 (.pointer (some a)) (.pointer none)).run Try.prog w=.ok false w:=fun d=>by
  simp [Op.equalIn,run_underlying varPtrU]
 simp only [binOp]
 simp [Op.equal,Op.maxDepth,h 9999]
end Ty
set_option maxRecDepth 100000 in
set_option maxHeartbeats 16000000 in
theorem t_unify {m : Nat} (hm : 1025 ≤ m) {S : Nat → Prop} {B n p K : Nat} {vs : Value} (hK : S K ∧ K ≠ p ∧ vs.ownBlock ≠ some K) : ∀ (f : Nat) (w : World) (c : Nat) (h : Nat → Value) (b1 o1 : Nat) (a : Value) (b2 o2 : Nat) (b : Value), SO S B n h p vs w → TyE true S w n b1 o1 a → TyE true S w n b2 o2 b → w.heap[K]? = some (.cells #[.pointer (some ⟨p, 0, none⟩), .int .i64 (c : Int)] 71 (0, 0)) → 65537 ≤ c + f → c ≤ 65536 → Calls Try.prog 37 #[.pointer (some ⟨K, 0, none⟩), .pointer (some ⟨b1, o1, none⟩), .pointer (some ⟨b2, o2, none⟩)] w fun e w' => e = .returned (.int .i64 (unT m f c h a b).1) ∧ w'.heap[K]? = some (.cells #[.pointer (some ⟨p, 0, none⟩), .int .i64 ((unT m f c h a b).2.1 : Int)] 71 (0, 0)) ∧ SO S B n (unT m f c h a b).2.2 p vs w' ∧ Kp K vs.ownBlock w w' := by
  intro f
  induction f with
  | zero => intro w c h b1 o1 a b2 o2 b _ _ _ _ h1 h2; omega
  | succ f ih =>
    intro w c h b1 o1 a b2 o2 b hS hA hB hX hf hc
    have HK := hideR hK
    obtain ⟨R, hR⟩ : ∃ R, R = unT m (f + 1) c h a b := ⟨_, rfl⟩
    rw [← hR]
    have hR' : R = if 65536 < c + 1 then (3, c + 1, h) else unN m (unT m f) (c + 1) h (endT h a) (endT h b) := hR
    have c0 := put_cell hX 0 _ rfl
    have c1 := put_cell hX 1 _ rfl
    have f1 : w.frozen? ⟨K, 1, none⟩ = false := by unfold World.frozen?; rw [hX]; simp
    have hwc : wrap64 ((c : Int) + 1) = (c : Int) + 1 := by unfold wrap64; omega
    obtain ⟨W, hW⟩ : ∃ W, W = w.setCell ⟨K, 1, none⟩ (.int .i64 ((c : Int) + 1)) := ⟨_, rfl⟩
    have hX1 : W.heap[K]? = some (.cells #[.pointer (some ⟨p, 0, none⟩), .int .i64 ((c : Int) + 1)] 71 (0, 0)) := by rw [hW]; exact heap_setCell_same w K 1 _ _ _ hX
    have hS1 : SO S B n h p vs W := by rw [hW]; exact hS.set hK.1 hK.2.1 hK.2.2 _ _
    have hk1 : Kp K vs.ownBlock w W := by rw [hW]; exact (Kp.refl _ _ w).set _ _
    have HA := hideR (hA.kp hk1 hK.1 hS.1.2)
    have HB := hideR (hB.kp hk1 hK.1 hS.1.2)
    have HS0 := hideR hS.1
    have HX1 := hideR hX1
    have HS1 := hideR hS1
    have HK1 := hideR hk1
    have HW := hideR hW
    have m0 := put_cell hX1 0 _ rfl
    have m1 := put_cell hX1 1 _ rfl
    by_cases hl : 65536 < c + 1
    · have q2 : decide ((c : Int) + 1 > 65536) = true := decide_eq_true (by omega)
      have q3 : decide ((65536 : Int) < (c : Int) + 1) = true := decide_eq_true (by omega)
      have HRR := hideR (show R = (3, c + 1, h) by rw [hR', if_pos hl])
      clear hR hR' ih hS hA hB hS1 hk1 hX1 hX hf hc hl hK
      go_enter Try.func37, Try.ntmps37
      go_wp2_with (first | rw [← hW] | fail)
      go_wp2
      go_ret
      rw [HRR.out]
      exact ⟨rfl, HX1.out, HS1.out, HK1.out⟩
    · have q2 : decide ((c : Int) + 1 > 65536) = false := decide_eq_false (by omega)
      have q3 : decide ((65536 : Int) < (c : Int) + 1) = false := decide_eq_false (by omega)
      rw [if_neg hl] at hR'
      have HR := hideR hR'
      have HIH := hideR ih
      have HC : Hid (65537 ≤ (c + 1) + f ∧ c + 1 ≤ 65536) := hideR (by omega)
      clear hR hR' ih hS hA hB hS1 hk1 hX1 hX hf hc hl hK
      go_enter Try.func37, Try.ntmps37
      go_wp2_with (first | rw [← hW] | fail)
      go_wp2_with (first | rw [← hW] | fail)
      clear hW HW f1 c0 c1 m0 m1 q2 q3 hwc
      obtain ⟨TL, hTL⟩ : ∃ TL : List Value, TL = [.pointer (some ⟨K, 0, none⟩), .pointer (some ⟨K, 0, none⟩), .pointer (some ⟨K, 0, none⟩), .pointer (some ⟨p, 0, none⟩), .pointer (some ⟨b1, o1, none⟩), undef, .pointer (some ⟨K, 0, none⟩), .pointer (some ⟨K, 0, none⟩), .pointer (some ⟨K, 0, none⟩), .pointer (some ⟨p, 0, none⟩), .pointer (some ⟨b2, o2, none⟩), undef] := ⟨_, rfl⟩
      have HTL := hideR hTL
      clear hTL
      obtain ⟨GG, hGG⟩ : ∃ GG : Value → Value → World → Prop, GG = fun t v u => ∃ b' o', v = .pointer (some ⟨b', o', none⟩) ∧ TyE true S u n b' o' (endT h t) ∧ endT h (endT h t) = endT h t := ⟨_, rfl⟩
      have HGG := hideR hGG
      have hGk : Hid (∀ t v u u', GG t v u → Kv vs u u' → GG t v u') := hideR (fun t v u u' hg hk => by
        rw [hGG] at hg ⊢
        obtain ⟨b', o', h1, h2, h3⟩ := hg
        exact ⟨b', o', h1, h2.kv hk HS0.out.2, h3⟩)
      clear hGG
      refine Reg.wp_region_efft 12 (fun i => 23 + i) (fun _ u u' => Kv vs u u' ∧ (SO S B n h p vs u → SO S B n h p vs u')) (fun u => Kv vs W u ∧ SO S B n h p vs u) (fun _ _ => True) (fun i v u => if i = 5 then GG a v u else if i = 11 then GG b v u else v = TL.getD i undef) (by kernel_rfl) (by kernel_rfl) (fun i1 i2 h1 h2 h => by have h' : 23 + i1 = 23 + i2 := h; omega) (Reg.dst_ok (dst := fun i => 23 + i) (size := 135) (by kernel_rfl)) (fun i k v u u' _ _ _ _ hG hT => by
        by_cases h5 : i = 5
        · rw [if_pos h5] at hG ⊢; exact hGk.out _ _ _ _ hG hT.1
        · rw [if_neg h5] at hG ⊢
          by_cases h11 : i = 11
          · rw [if_pos h11] at hG ⊢; exact hGk.out _ _ _ _ hG hT.1
          · rw [if_neg h11] at hG ⊢; exact hG) (fun _ _ _ _ _ _ _ _ _ => trivial) (fun k u u' _ hk hT => ⟨hk.1.trans hT.1, hT.2 hk.2⟩) ?hs4 ?ht4 ⟨Kv.of (below_drewN' W 1), HS1.out.bel (below_drewN' W 1)⟩ (fun _ _ => trivial)
      case hs4 =>
        intro i o' a9 u9 hi ho hF hKK _ hd
        have f0 : a9.tmps[0]?.getD undef = .pointer (some ⟨K, 0, none⟩) := Reg.ev_get (hF.eval 0 (fun i hi => by show 23 + i ≠ 0; omega))
        have f1 : a9.tmps[1]?.getD undef = .pointer (some ⟨b1, o1, none⟩) := Reg.ev_get (hF.eval 1 (fun i hi => by show 23 + i ≠ 1; omega))
        have f2 : a9.tmps[2]?.getD undef = .pointer (some ⟨b2, o2, none⟩) := Reg.ev_get (hF.eval 2 (fun i hi => by show 23 + i ≠ 2; omega))
        have hX9 : u9.heap[K]? = some (.cells #[.pointer (some ⟨p, 0, none⟩), .int .i64 ((c : Int) + 1)] 71 (0, 0)) := (hKK.1.block K (Array.getElem?_eq_some_iff.1 HX1.out).1 HK.out.2.2).trans HX1.out
        have c0 := put_cell hX9 0 _ rfl
        have HEA := hideR (t_end hKK.2 (HA.out.kv hKK.1 HS0.out.2))
        have HEB := hideR (t_end hKK.2 (HB.out.kv hKK.1 HS0.out.2))
        have hd2 : ∀ j2 ∈ Reg.deps o', j2 ≠ 5 → j2 ≠ 11 → a9.tmps[23 + j2]?.getD undef = ([.pointer (some ⟨K, 0, none⟩), .pointer (some ⟨K, 0, none⟩), .pointer (some ⟨K, 0, none⟩), .pointer (some ⟨p, 0, none⟩), .pointer (some ⟨b1, o1, none⟩), undef, .pointer (some ⟨K, 0, none⟩), .pointer (some ⟨K, 0, none⟩), .pointer (some ⟨K, 0, none⟩), .pointer (some ⟨p, 0, none⟩), .pointer (some ⟨b2, o2, none⟩), undef] : List Value).getD j2 undef := fun j2 hj2 h5 h11 => by
          have h := hd j2 hj2
          rw [if_neg h5, if_neg h11, HTL.out] at h
          exact Reg.ev_get h
        have hTL := HTL.out
        subst hTL
        have hGG := HGG.out
        clear hd hX9
        rcases Nat.decEq i 11 with h11' | rfl
        · rcases cases12 hi with rfl | rfl | rfl | rfl | rfl | rfl | rfl | rfl | rfl | rfl | rfl | rfl
          all_goals (
            simp only [List.getElem?_toArray, List.getElem?_cons_succ, List.getElem?_cons_zero, Option.some.injEq] at ho
            subst ho
            first
            | exact absurd rfl h11'
            | (refine Reg.step_k fun Z hZ => ?_
               simp [Reg.deps, Region.binds] at hd2
               go_simp
               first
               | exact hZ _ _ ⟨_, rfl, ⟨Kv.refl _ _, id⟩, rfl⟩
               | exact hZ _ _ ⟨_, rfl, ⟨Kv.refl _ _, id⟩, by simp [*]⟩
               | (refine Calls.mono (show Calls _ _ _ _ _ from HEA.out) ?_; rintro e w' ⟨b', o', rfl, h1, h2, h3, h4⟩; exact hZ _ _ ⟨_, rfl, ⟨h4, fun _ => h3⟩, by rw [hGG]; exact ⟨_, _, rfl, h1, h2⟩⟩)))
        · simp only [List.getElem?_toArray, List.getElem?_cons_succ, List.getElem?_cons_zero, Option.some.injEq] at ho
          subst ho
          refine Reg.step_k fun Z hZ => ?_
          simp [Reg.deps, Region.binds] at hd2
          go_simp
          refine Calls.mono (show Calls _ _ _ _ _ from HEB.out) ?_
          rintro e w' ⟨b', o', rfl, h1, h2, h3, h4⟩
          exact hZ _ _ ⟨_, rfl, ⟨h4, fun _ => h3⟩, by rw [hGG]; exact ⟨_, _, rfl, h1, h2⟩⟩
      case ht4 =>
        intro a9 u4 hF hKK hG
        obtain ⟨xl, hxl, rfl, hev⟩ := hF.lit (by simp)
        obtain ⟨v0, v1, v2, v3, v4, v5, v6, v7, v8, v9, v10, v11, rfl⟩ := plen12 hxl
        have h5 := hG 5 (by decide)
        have h11 := hG 11 (by decide)
        rw [if_pos rfl] at h5
        rw [if_neg (by decide), if_pos rfl] at h11
        rw [show _ = v5 from hev 5 (by decide), HGG.out] at h5
        rw [show _ = v11 from hev 11 (by decide), HGG.out] at h11
        obtain ⟨bx, ox, rfl, hx, hzx⟩ := h5
        obtain ⟨by1, oy1, rfl, hy, hzy⟩ := h11
        have hX4 : u4.heap[K]? = some (.cells #[.pointer (some ⟨p, 0, none⟩), .int .i64 ((c : Int) + 1)] 71 (0, 0)) := (hKK.1.block K (Array.getElem?_eq_some_iff.1 HX1.out).1 HK.out.2.2).trans HX1.out
        have HX4 := hideR hX4
        have HS4 := hideR hKK.2
        have HK4 := hideR (HK1.out.trans (hKK.1.kp K))
        have HXX := hideR hx
        have HYY := hideR hy
        have HZX := hideR hzx
        have HZY := hideR hzy
        clear hev hxl hF hG hX4 hKK hx hy hzx hzy HX1 HS1 HK1 HA HB hGk HGG HTL
        generalize endT h a = x at *
        generalize endT h b = y at *
        simp only [List.take_succ_cons, List.take_zero, List.drop_succ_cons, List.drop_zero, List.cons_append, List.nil_append]
        obtain ⟨vx, hvx, hcx⟩ := t_varOf HS4.out HXX.out
        obtain ⟨vy, hvy, hcy⟩ := t_varOf HS4.out HYY.out
        have HVX := hideR hvx
        have HVY := hideR hvy
        have HCX := hideR hcx
        have HCY := hideR hcy
        clear hvx hvy hcx hcy
        go_wp2_with fail
        refine Reg.wp_region_two 12 (fun i => 35 + i) (fun i v u => v = ([.pointer (some ⟨K, 0, none⟩), .pointer (some ⟨K, 0, none⟩), .pointer (some ⟨K, 0, none⟩), .pointer (some ⟨p, 0, none⟩), .pointer (some ⟨bx, ox, none⟩), vx, .pointer (some ⟨K, 0, none⟩), .pointer (some ⟨K, 0, none⟩), .pointer (some ⟨K, 0, none⟩), .pointer (some ⟨p, 0, none⟩), .pointer (some ⟨by1, oy1, none⟩), vy] : List Value).getD i undef) (by kernel_rfl) (by kernel_rfl) (fun i1 i2 h1 h2 h => by have h' : 35 + i1 = 35 + i2 := h; omega) (Reg.dst_ok (dst := fun i => 35 + i) (size := 135) (by kernel_rfl)) (fun i v u u' _ h hb => h) ?hs5 ?ht5
        case hs5 =>
          intro i o' a9 u9 hi ho hF hB hd
          have f0 : a9.tmps[0]?.getD undef = .pointer (some ⟨K, 0, none⟩) := Reg.ev_get (hF.eval 0 (fun i hi => by show 35 + i ≠ 0; omega))
          have f1 : a9.tmps[1]?.getD undef = .pointer (some ⟨bx, ox, none⟩) := Reg.ev_get (hF.eval 1 (fun i hi => by show 35 + i ≠ 1; omega))
          have f2 : a9.tmps[2]?.getD undef = .pointer (some ⟨by1, oy1, none⟩) := Reg.ev_get (hF.eval 2 (fun i hi => by show 35 + i ≠ 2; omega))
          have hX9 := (hB.block K (Array.getElem?_eq_some_iff.1 HX4.out).1).trans HX4.out
          have c0 := put_cell hX9 0 _ rfl
          have HEA := hideR (HVX.out u9 hB)
          have HEB := hideR (HVY.out u9 hB)
          have hd2 : ∀ j2 ∈ Reg.deps o', a9.tmps[35 + j2]?.getD undef = ([.pointer (some ⟨K, 0, none⟩), .pointer (some ⟨K, 0, none⟩), .pointer (some ⟨K, 0, none⟩), .pointer (some ⟨p, 0, none⟩), .pointer (some ⟨bx, ox, none⟩), vx, .pointer (some ⟨K, 0, none⟩), .pointer (some ⟨K, 0, none⟩), .pointer (some ⟨K, 0, none⟩), .pointer (some ⟨p, 0, none⟩), .pointer (some ⟨by1, oy1, none⟩), vy] : List Value).getD j2 undef := fun j2 hj2 => Reg.ev_get (hd j2 hj2)
          clear hd hX9
          rcases Nat.decEq i 11 with h11' | rfl
          · rcases cases12 hi with rfl | rfl | rfl | rfl | rfl | rfl | rfl | rfl | rfl | rfl | rfl | rfl
            all_goals (
              simp only [List.getElem?_toArray, List.getElem?_cons_succ, List.getElem?_cons_zero, Option.some.injEq] at ho
              subst ho
              first
              | exact absurd rfl h11'
              | (refine Reg.step_k fun Z hZ => ?_
                 simp [Reg.deps, Region.binds] at hd2
                 go_simp
                 first
                 | exact hZ _ _ ⟨_, rfl, Below.refl _ _, rfl⟩
                 | exact hZ _ _ ⟨_, rfl, Below.refl _ _, by simp [*]⟩
                 | (refine Calls.mono (show Calls _ _ _ _ _ from HEA.out) ?_; rintro e w' ⟨rfl, h1⟩; exact hZ _ _ ⟨_, rfl, h1, rfl⟩)))
          · simp only [List.getElem?_toArray, List.getElem?_cons_succ, List.getElem?_cons_zero, Option.some.injEq] at ho
            subst ho
            refine Reg.step_k fun Z hZ => ?_
            simp [Reg.deps, Region.binds] at hd2
            go_simp
            refine Calls.mono (show Calls _ _ _ _ _ from HEB.out) ?_
            rintro e w' ⟨rfl, h1⟩
            exact hZ _ _ ⟨_, rfl, h1, rfl⟩
        case ht5 =>
          intro a9 u5 hF hB hG
          obtain ⟨xl, hxl, rfl, hev⟩ := hF.lit (by simp)
          obtain ⟨s0, s1, s2, s3, s4, s5, s6, s7, s8, s9, s10, s11, rfl⟩ := plen12 hxl
          obtain rfl : s5 = vx := (hev 5 (by decide)).symm.trans (hG 5 (by decide))
          obtain rfl : s11 = vy := (hev 11 (by decide)).symm.trans (hG 11 (by decide))
          have hX5 := (hB.block K (Array.getElem?_eq_some_iff.1 HX4.out).1).trans HX4.out
          have c0 := put_cell hX5 0 _ rfl
          have HX5 := hideR hX5
          have hS5 := HS4.out.bel hB
          have hx5 := HXX.out.bel hB
          have hy5 := HYY.out.bel hB
          have HK5 := hideR (HK4.out.of hB HK4.out.size)
          clear hev hxl hF hG hB hX5 HX4 HS4 HXX HYY HK4 HVX HVY
          simp only [List.take_succ_cons, List.take_zero, List.drop_succ_cons, List.drop_zero, List.cons_append, List.nil_append]
          rcases HCX.out with ⟨i, g, hi, rfl, hg, rfl⟩ | ⟨hkx, rfl⟩
          · have hu : h i = vr i := by have h1 := HZX.out; rw [endT_vr] at h1; exact h1
            by_cases hxy : y = vr i
            · subst hxy
              have hvy : s11 = .pointer (some ⟨g, i * 2, none⟩) := by
                rcases HCY.out with ⟨j, g', hj, he, hg', hv⟩ | ⟨hk, _⟩
                · rw [hg] at hg'; injection hg' with hg'; subst hg'; rw [hv, vr_inj he]
                · exact absurd (kind_vr i) hk
              subst hvy
              have HRR := hideR (show R = (0, c + 1, h) by rw [HR.out]; unfold unN; rw [if_pos (kind_vr i), if_pos ⟨kind_vr i, rfl⟩])
              have qs := fun u => vptr_same u ⟨g, i * 2, none⟩
              have HS5 := hideR hS5
              clear HR HCX HCY HZX HZY hS5 hx5 hy5 hu HIH c0
              go_wp2
              go_ret
              rw [HRR.out]
              exact ⟨rfl, HX5.out, HS5.out, HK5.out⟩
            · have qd : ∀ u, (binOp BinOp.eql 109 (.pointer (some ⟨g, i * 2, none⟩)) s11).run Try.prog u = .ok (.bool false) u := fun u => by
                rcases HCY.out with ⟨j, g', hj, he, hg', hv⟩ | ⟨hk, hv⟩
                · rw [hg] at hg'; injection hg' with hg'; subst hg'
                  rw [hv]
                  exact vptr_other u g _ _ (fun e => hxy (by rw [he]; congr 1; omega))
                · rw [hv]; exact vptr_nil u _
              have HRR := hideR (show R = unB m (c + 1) h (vr i) y by
                rw [HR.out]; unfold unN
                rw [if_pos (kind_vr i), if_neg (fun e => hxy (by
                  rcases HCY.out with ⟨j, g', hj, he, hg', hv⟩ | ⟨hk, hv⟩
                  · rw [he] at e ⊢
                    have h1 : ((j : Int) + 1) = (i : Int) + 1 := e.2
                    congr 1; omega
                  · exact absurd e.1 hk))])
              have HBI := hideR (t_bind hm u5 hS5 hi hu hy5 HZY.out hxy hg)
              clear HR HCX HCY HZX HZY hS5 hx5 hy5 hu HIH
              go_wp2_with fail
              refine Calls.mono (show Calls _ _ _ _ _ from HBI.out) ?_
              rintro e u6 ⟨rfl, h1, h2⟩
              have HS6 : Hid (SO S B n (unB m (c + 1) h (vr i) y).2.2 p vs u6) := hideR (by unfold unB; rw [idx_vr, num_vr]; exact h1)
              have HX6 := hideR ((h2.block K (Array.getElem?_eq_some_iff.1 HX5.out).1 HK.out.2.2).trans HX5.out)
              have HK6 := hideR (HK5.out.trans (h2.kp K))
              clear h1 h2 HBI c0 HX5 HK5
              go_wp2
              go_ret
              rw [HRR.out]
              exact ⟨rfl, HX6.out, HS6.out, HK6.out⟩
          · rcases HCY.out with ⟨j, g, hj, rfl, hg, rfl⟩ | ⟨hky, rfl⟩
            · have hu : h j = vr j := by have h1 := HZY.out; rw [endT_vr] at h1; exact h1
              have hxy : x ≠ vr j := fun e => hkx (by rw [e]; exact kind_vr j)
              have HRR := hideR (show R = unB m (c + 1) h (vr j) x by rw [HR.out]; unfold unN; rw [if_neg hkx, if_pos (kind_vr j)])
              have HBI := hideR (t_bind hm u5 hS5 hj hu hx5 HZX.out hxy hg)
              clear HR HCX HCY HZX HZY hS5 hx5 hy5 hu HIH
              go_wp2_with fail
              refine Calls.mono (show Calls _ _ _ _ _ from HBI.out) ?_
              rintro e u6 ⟨rfl, h1, h2⟩
              have HS6 : Hid (SO S B n (unB m (c + 1) h (vr j) x).2.2 p vs u6) := hideR (by unfold unB; rw [idx_vr, num_vr]; exact h1)
              have HX6 := hideR ((h2.block K (Array.getElem?_eq_some_iff.1 HX5.out).1 HK.out.2.2).trans HX5.out)
              have HK6 := hideR (HK5.out.trans (h2.kp K))
              clear h1 h2 HBI c0 HX5 HK5
              go_wp2
              go_ret
              rw [HRR.out]
              exact ⟨rfl, HX6.out, HS6.out, HK6.out⟩
            · clear HCX HCY
              obtain ⟨k1, x1, n1, es1, oR1, cR1, rfl, g0, g1, g2, g3, hl1, hel1⟩ := hx5.ptr
              obtain ⟨k2, x2, n2, es2, oR2, cR2, rfl, l0, l1, l2, l3, hl2, hel2⟩ := hy5.ptr
              have HS5 := hideR hS5
              have HX := hideR hx5
              have HY := hideR hy5
              have hR0 : R = (if k1 = k2 ∧ x1 = x2 ∧ es1.length = es2.length then unL (unT m f) (c + 1) h es1 es2 else (150, c + 1, h)) := by rw [HR.out]; unfold unN; rw [if_neg hkx, if_neg hky]; rfl
              clear hS5 hx5 hy5 g2 l2 hkx hky HZX HZY
              by_cases hk : k1 = k2
              · subst hk
                have q1 : (k1 != k1) = false := by simp
                by_cases hxn : x1 = x2
                · subst hxn
                  have r2 : (x1.toList == x1.toList) = true := by simp
                  have p2 : (x1.toList != x1.toList) = false := by simp
                  by_cases hln : es1.length = es2.length
                  · have q3 : ((es1.length : Int) != (es1.length : Int)) = false := by simp
                    rw [← hln] at l3
                    have HST : Hid (unL (unT m f) (c + 1) h (es1.drop 0) (es2.drop 0) = R) := hideR (by rw [hR0, if_pos ⟨rfl, rfl, hln⟩]; rfl)
                    have HLN := hideR hln
                    have HLL := hideR hl1
                    have G3 := hideR g3
                    have L3 := hideR l3
                    clear HR hR0 hel1 hel2 hln hl1 hl2
                    go_wp2_with fail
                    go_quiet (fail)
                    have hbd := below_drewN' u5 nq
                    have HX6 : Hid ((u5.drewN nq).heap[K]? = some (.cells #[.pointer (some ⟨p, 0, none⟩), .int .i64 ((c + 1 : Nat) : Int)] 71 (0, 0))) := hideR ((hbd.block K (Array.getElem?_eq_some_iff.1 HX5.out).1).trans HX5.out)
                    have HS6 := hideR (HS5.out.bel hbd)
                    have HK6 := hideR (HK5.out.of hbd HK5.out.size)
                    have HXe := hideR (HX.out.bel hbd)
                    have HYe := hideR (HY.out.bel hbd)
                    have g3 := cell_on hbd g3
                    have G4 := hideR g3
                    have L4 := hideR (cell_on hbd L3.out)
                    clear hbd HX5 HS5 HK5 HX HY c0 g0 g1 l0 l1 l3 q1 r2 p2 q3 G3 L3
                    generalize u5.drewN nq = u6 at *
                    go_wp2_with fail
                    go_loopw [114] (fun a9 u => ∃ (i c1 : Nat) (h1 : Nat → Value), a9 = .int .i64 i ∧ i ≤ es1.length ∧ Hid (unL (unT m f) c1 h1 (es1.drop i) (es2.drop i) = R) ∧ Hid (u.heap[K]? = some (.cells #[.pointer (some ⟨p, 0, none⟩), .int .i64 (c1 : Int)] 71 (0, 0))) ∧ Hid (SO S B n h1 p vs u) ∧ Hid (Kp K vs.ownBlock u6 u) ∧ Hid (65537 ≤ c1 + f ∧ c1 ≤ 65536)) (fun a9 _ => match a9 with | .int _ i => es1.length - i.toNat | _ => 0)
                    case atStart => exact ⟨0, c + 1, h, rfl, Nat.zero_le _, HST, HX6, HS6, hideR (Kp.refl _ _ _), HC⟩
                    case round =>
                      obtain ⟨i, c1, h1, rfl, hi, HN, HXr, HSr, HKr, HCr⟩ := hrel
                      clear HST HX6 HS6 HC g3
                      have hxr := HXe.out.kp HKr.out HK.out.1 HS0.out.2
                      have hyr := HYe.out.kp HKr.out HK.out.1 HS0.out.2
                      have g3 := HXe.out.keep (HKr.out.x HK.out.1 HS0.out.2) G4.out
                      have l3 := HYe.out.keep (HKr.out.x HK.out.1 HS0.out.2) L4.out
                      by_cases hp : i < es1.length
                      · have q1 : decide ((i : Int) < (es1.length : Int)) = true := decide_eq_true (by omega)
                        obtain ⟨t1, ht1⟩ : ∃ t1, es1[i]? = some t1 := ⟨_, List.getElem?_eq_getElem hp⟩
                        obtain ⟨t2, ht2⟩ : ∃ t2, es2[i]? = some t2 := ⟨_, List.getElem?_eq_getElem (by have := HLN.out; omega)⟩
                        obtain ⟨d1, f1, hoR1, hC1⟩ := tyE_part hxr g3 ht1
                        obtain ⟨d2, f2, hoR2, hC2⟩ := tyE_part hyr l3 ht2
                        subst hoR1 hoR2
                        have hw2 : wrap64 ((i : Int) + 1) = ((i + 1 : Nat) : Int) := by have := HLL.out; unfold wrap64; omega
                        have hst := HN.out
                        rw [unL_step ht1 ht2] at hst
                        have HOK := hideR (unT_ok (m := m) f c1 h1 t1 t2)
                        have HIB := hideR (fun u (hu : Below wr.heap.size wr u) => HIH.out u c1 h1 d1 (f1 + i * 4) t1 d2 (f2 + i * 4) t2 (HSr.out.bel hu) (hC1.bel hu) (hC2.bel hu) ((hu.block K (Array.getElem?_eq_some_iff.1 HXr.out).1).trans HXr.out) HCr.out.1 HCr.out.2)
                        generalize unT m f c1 h1 t1 t2 = Q9 at *
                        obtain ⟨r, c2, h2⟩ := Q9
                        have HST := hideR hst
                        have HGL := hideR (And.intro g3 l3)
                        clear hC1 hC2 ht1 ht2 HN hst hxr hyr g3 l3
                        go_upto_region 17 with fail
                        refine Reg.wp_region_two 13 (fun i' => 117 + i') (fun i' v u => v = ([.pointer (some ⟨K, 0, none⟩), .pointer (some ⟨bx, ox, none⟩), .pointer (some ⟨bx, ox, none⟩), .pointer (some ⟨bx, ox + 3, none⟩), .slice (some ⟨d1, f1, none⟩) es1.length cR1, .int .i64 i, .pointer (some ⟨d1, f1 + i * 4, none⟩), .pointer (some ⟨by1, oy1, none⟩), .pointer (some ⟨by1, oy1, none⟩), .pointer (some ⟨by1, oy1 + 3, none⟩), .slice (some ⟨d2, f2, none⟩) es1.length cR2, .int .i64 i, .pointer (some ⟨d2, f2 + i * 4, none⟩)] : List Value).getD i' undef) (by kernel_rfl) (by kernel_rfl) (fun i1 i2 h1 h2 h => by have h' : 117 + i1 = 117 + i2 := h; omega) (Reg.dst_ok (dst := fun i' => 117 + i') (size := 135) (by kernel_rfl)) (fun i' v u u' _ h hb => h) ?hs17 ?ht17
                        case hs17 =>
                          intro j o' a9 u9 hj ho hF hB hd
                          have f0 : a9.tmps[0]?.getD undef = .pointer (some ⟨K, 0, none⟩) := Reg.ev_get (hF.eval 0 (fun i hi => by show 117 + i ≠ 0; omega))
                          have f1' : a9.tmps[1]?.getD undef = .pointer (some ⟨bx, ox, none⟩) := Reg.ev_get (hF.eval 1 (fun i hi => by show 117 + i ≠ 1; omega))
                          have f2' : a9.tmps[2]?.getD undef = .pointer (some ⟨by1, oy1, none⟩) := Reg.ev_get (hF.eval 2 (fun i hi => by show 117 + i ≠ 2; omega))
                          have f9 : a9.tmps[9]?.getD undef = .int .i64 (i : Int) := Reg.ev_get (hF.eval 9 (fun i hi => by show 117 + i ≠ 9; omega))
                          have g3 := cell_on hB HGL.out.1
                          have l3 := cell_on hB HGL.out.2
                          have hd2 : ∀ j2 ∈ Reg.deps o', a9.tmps[117 + j2]?.getD undef = ([.pointer (some ⟨K, 0, none⟩), .pointer (some ⟨bx, ox, none⟩), .pointer (some ⟨bx, ox, none⟩), .pointer (some ⟨bx, ox + 3, none⟩), .slice (some ⟨d1, f1, none⟩) es1.length cR1, .int .i64 i, .pointer (some ⟨d1, f1 + i * 4, none⟩), .pointer (some ⟨by1, oy1, none⟩), .pointer (some ⟨by1, oy1, none⟩), .pointer (some ⟨by1, oy1 + 3, none⟩), .slice (some ⟨d2, f2, none⟩) es1.length cR2, .int .i64 i, .pointer (some ⟨d2, f2 + i * 4, none⟩)] : List Value).getD j2 undef := fun j2 hj2 => Reg.ev_get (hd j2 hj2)
                          clear hd
                          rcases cases13 hj with rfl | rfl | rfl | rfl | rfl | rfl | rfl | rfl | rfl | rfl | rfl | rfl | rfl
                          all_goals (
                            simp only [List.getElem?_toArray, List.getElem?_cons_succ, List.getElem?_cons_zero, Option.some.injEq] at ho
                            subst ho
                            refine Reg.step_k fun Z hZ => ?_
                            simp [Reg.deps, Region.binds] at hd2
                            go_simp
                            first
                            | exact hZ _ _ ⟨_, rfl, Below.refl _ _, rfl⟩
                            | exact hZ _ _ ⟨_, rfl, Below.refl _ _, by simp [*]⟩)
                        case ht17 =>
                          intro a9 u9 hF hB hG
                          obtain ⟨xl, hxl, rfl, hev⟩ := hF.lit (by simp)
                          obtain ⟨s0, s1, s2, s3, s4, s5, s6, s7, s8, s9, s10, s11, s12, rfl⟩ := plen13 hxl
                          obtain rfl : s0 = .pointer (some ⟨K, 0, none⟩) := (hev 0 (by decide)).symm.trans (hG 0 (by decide))
                          obtain rfl : s6 = .pointer (some ⟨d1, f1 + i * 4, none⟩) := (hev 6 (by decide)).symm.trans (hG 6 (by decide))
                          obtain rfl : s12 = .pointer (some ⟨d2, f2 + i * 4, none⟩) := (hev 12 (by decide)).symm.trans (hG 12 (by decide))
                          have HIC := hideR (HIB.out u9 hB)
                          have HKu := hideR (HKr.out.of hB HKr.out.size)
                          clear hev hxl hF hG hB HIB HGL HXr HSr HKr
                          simp only [List.take_succ_cons, List.take_zero, List.drop_succ_cons, List.drop_zero, List.cons_append, List.nil_append]
                          by_cases hr : r = 0
                          · subst hr
                            have HS9 : Hid (unL (unT m f) c2 h2 (es1.drop (i + 1)) (es2.drop (i + 1)) = R) := hideR (by rw [← HST.out]; rfl)
                            have HC9 : Hid (65537 ≤ c2 + f ∧ c2 ≤ 65536) := hideR (by have h9 : c1 < c2 ∧ c2 ≤ 65536 := HOK.out rfl; have := HCr.out; omega)
                            clear HST HOK HCr
                            go_wp2_with fail
                            refine Calls.mono (show Calls _ _ _ _ _ from HIC.out) ?_
                            rintro e w4 ⟨rfl, hx, hs, hk⟩
                            have HX4 := hideR hx
                            have HS4 := hideR hs
                            have HK4 := hideR (HKu.out.trans hk)
                            clear HIC hx hs hk HKu
                            go_wp2
                            go_roundw
                            case rel => exact ⟨i + 1, c2, h2, by first | rfl | (congr 1), hp, HS9, HX4, HS4, HK4, HC9⟩
                            case measure => simp; omega
                          · have q5 : (r != 0) = true := bne_iff_ne.2 hr
                            have HS9 : Hid ((r, c2, h2) = R) := hideR (by rw [← HST.out, if_neg hr])
                            clear HST HOK HCr
                            go_wp2_with fail
                            refine Calls.mono (show Calls _ _ _ _ _ from HIC.out) ?_
                            rintro e w4 ⟨rfl, hx, hs, hk⟩
                            have HX4 := hideR hx
                            have HS4 := hideR hs
                            have HK4 := hideR (HK6.out.trans (HKu.out.trans hk))
                            clear HIC hx hs hk HKu
                            go_wp2
                            go_ret
                            rw [← HS9.out]
                            exact ⟨rfl, HX4.out, HS4.out, HK4.out⟩
                      · have q1 : decide ((i : Int) < (es1.length : Int)) = false := decide_eq_false (by omega)
                        have HS9 : Hid ((0, c1, h1) = R) := hideR (by rw [← HN.out, List.drop_eq_nil_of_le (by omega)]; rfl)
                        have HK4 := hideR (HK6.out.trans HKr.out)
                        clear HN hi HKr hxr hyr g3 l3
                        go_wp2
                        go_ret
                        rw [← HS9.out]
                        exact ⟨rfl, HXr.out, HSr.out, HK4.out⟩
                  · have q3 : ((es1.length : Int) != (es2.length : Int)) = true := bne_iff_ne.2 (by omega)
                    have HRR := hideR (show R = (150, c + 1, h) by rw [hR0, if_neg (fun e => hln e.2.2)])
                    clear HR hR0 HIH hel1 hel2
                    go_wp2_with fail
                    go_quiet (fail)
                    have hbd := below_drewN' u5 nq
                    have HX6 := hideR ((hbd.block K (Array.getElem?_eq_some_iff.1 HX5.out).1).trans HX5.out)
                    have HS6 := hideR (HS5.out.bel hbd)
                    have HK6 := hideR (HK5.out.of hbd HK5.out.size)
                    clear hbd HX5 HS5 HK5 c0 g0 g1 g3 l0 l1 l3 HX HY
                    generalize u5.drewN nq = u6 at *
                    go_wp2
                    go_ret
                    rw [HRR.out]
                    exact ⟨rfl, HX6.out, HS6.out, HK6.out⟩
                · have r2 : (x1.toList == x2.toList) = false := by rw [str_eqT, decide_eq_false hxn]
                  have p2 : (x1.toList != x2.toList) = true := by rw [bne, r2]; rfl
                  have HRR := hideR (show R = (150, c + 1, h) by rw [hR0, if_neg (fun e => hxn e.2.1)])
                  clear HR hR0 HIH hel1 hel2
                  go_wp2_with fail
                  go_quiet (fail)
                  have hbd := below_drewN' u5 nq
                  have HX6 := hideR ((hbd.block K (Array.getElem?_eq_some_iff.1 HX5.out).1).trans HX5.out)
                  have HS6 := hideR (HS5.out.bel hbd)
                  have HK6 := hideR (HK5.out.of hbd HK5.out.size)
                  clear hbd HX5 HS5 HK5 c0 g0 g1 g3 l0 l1 l3 HX HY
                  generalize u5.drewN nq = u6 at *
                  go_wp2
                  go_ret
                  rw [HRR.out]
                  exact ⟨rfl, HX6.out, HS6.out, HK6.out⟩
              · have q1 : (k1 != k2) = true := bne_iff_ne.2 hk
                have HRR := hideR (show R = (150, c + 1, h) by rw [hR0, if_neg (fun e => hk e.1)])
                clear HR hR0 HIH hel1 hel2
                go_wp2_with fail
                go_quiet (fail)
                have hbd := below_drewN' u5 nq
                have HX6 := hideR ((hbd.block K (Array.getElem?_eq_some_iff.1 HX5.out).1).trans HX5.out)
                have HS6 := hideR (HS5.out.bel hbd)
                have HK6 := hideR (HK5.out.of hbd HK5.out.size)
                clear hbd HX5 HS5 HK5 c0 g0 g1 g3 l0 l1 l3 HX HY
                generalize u5.drewN nq = u6 at *
                go_wp2
                go_ret
                rw [HRR.out]
                exact ⟨rfl, HX6.out, HS6.out, HK6.out⟩
namespace Ty
theorem gdT_up {n:Nat}:∀(d:Nat) (t:Value),gdT n d t=true->gdT n (d+1) t=true
 | 0,t,h=>by cases h
 | d+1,t,h=>by
  have h1:(ndOk n (kindV t) (namT t) (numT t) (argsV t).length && (argsV t).all (gdT n d))=true:=h
  show (ndOk n (kindV t) (namT t) (numT t) (argsV t).length && (argsV t).all (gdT n (d+1)))=true
  rw [Bool.and_eq_true] at h1 ⊢
  exact ⟨h1.1,List.all_eq_true.2 fun x hx=>gdT_up d x (List.all_eq_true.1 h1.2 x hx)⟩
theorem few_up:∀(d:Nat) (t:Value),few d t->few (d+1) t
 | 0,t,h=>by
  obtain ⟨h1,h2,h3⟩:=h
  refine ⟨h1,by rw [h2];simp,by rw [h3];simp,fun x hx=>?_,fun x hx=>?_⟩
  ·rw [h2] at hx;cases hx
  ·rw [h3] at hx;cases hx
 | d+1,t,h=>⟨h.1,h.2.1,h.2.2.1,fun x hx=>few_up d x (h.2.2.2.1 x hx),fun x hx=>few_up d x (h.2.2.2.2 x hx)⟩
theorem smT_up {n:Nat}:∀(d:Nat) (t:Value),gdT n d t=true->smT d t->smT (d+1) t
 | 0,t,h,_=>by cases h
 | d+1,t,h,hs=>by
  have h1:(ndOk n (kindV t) (namT t) (numT t) (argsV t).length && (argsV t).all (gdT n d))=true:=h
  rw [Bool.and_eq_true] at h1
  exact ⟨hs.1,fun x hx=>smT_up d x (List.all_eq_true.1 h1.2 x hx) (hs.2 x hx)⟩
theorem GT.up {n d:Nat} {t:Value} (h:GT n d t):∀e,d<=e->GT n e t:=fun e he=>by
 induction he with
 | refl=>exact h
 | step _ ih=>exact ⟨gdT_up _ _ ih.1,few_up _ _ ih.2.1,smT_up _ _ ih.1 ih.2.2⟩
theorem TyE.new {S:Nat->Prop} {w:World} {n d b:Nat} {t:Value} {cs:Array Value} (h:tyU b t (.agg cs) w) (hx:w.heap[b]?=some (.cells cs 34 (0,0))) (hS:∀k,S k->k<b) (hg:GT n d t):TyE true S w n b 0 t:=by
 obtain ⟨d1,h1⟩:=tyU_cells h (Nat.le_refl _) ⟨_,_,hx⟩ (o:=0) fun j u hj=>by rw [Nat.zero_add];exact put_cell hx j u hj
 cases d1 with
 | zero=>exact h1.elim
 | succ d1=>exact ⟨d1+d,up_le (F:=TyX true S w) TyX.up (by omega) (h1.on (fun _ _ _=>rfl) fun k _ hk=>hS k hk),hg.up _ (by omega)⟩
structure In_ (w:World) (d:Nat) (t v:Value):Prop where
 at_:TyV 0 d w t v
 few:few d t
 sm:∀e,smT e t
theorem In_.on {w w':World} {d:Nat} {t v:Value} (h:In_ w d t v) (hb:Below w.heap.size w w'):In_ w' d t v:=⟨h.at_.but (Abv.of hb),h.few,h.sm⟩
theorem In_.good {w:World} {n d:Nat} {t v:Value} (h:In_ w d t v) (hk:tkT n d t=true):GT n d t:=⟨(Bool.and_eq_true_iff.1 hk).2,h.few,h.sm _⟩
theorem tyv_box {w u:World} {d K:Nat} {t:Value} {cs:Array Value} (h:TyV 0 d w t (.agg cs)) (hb:Below w.heap.size w u) (hx:u.heap[K]?=some (.cells cs 34 (0,0))):TyC 0 u (d+1) K 0 t:=by
 obtain ⟨k,x,n,es,v,h0,h1,h2⟩:=h.but (Abv.of hb)
 injection h1 with h1
 subst h1
 exact ⟨Nat.zero_le _,k,x,n,es,v,h0,put_cell hx 0 _ rfl,put_cell hx 1 _ rfl,put_cell hx 2 _ rfl,put_cell hx 3 _ rfl,h2⟩
theorem SO.sv {S:Nat->Prop} {B n p:Nat} {h:Nat->Value} {vs:Value} {w:World} (H:SO S B n h p vs w):∃ls,ls.length=n/\SV B p ls vs w:=by
 obtain ⟨_,ls,rk,h1,h2⟩:=H
 exact ⟨ls,h2.len,h1⟩
theorem SO.takes {S:Nat->Prop} {B n p:Nat} {h:Nat->Value} {vs:Value} {w:World} (H:SO S B n h p vs w) {d b o:Nat} {t:Value} (ht:TyC 0 w (d+1) b o t):Calls Try.prog 34 #[.pointer (some ⟨p,0,none⟩),.pointer (some ⟨b,o,none⟩)] w fun e w'=>e=.returned (.bool (tkT n d t))/\Below w.heap.size w w':=by
 obtain ⟨ls,hl,hv⟩:=H.sv
 have:=t_takes d w t b o hv ht
 rw [hl] at this
 exact this
end Ty
set_option maxRecDepth 100000 in
set_option maxHeartbeats 8000000 in
theorem t_UnifyP {m:Nat} (hm:1025<=m) {f:Nat} (hf:65537<=f) {S:Nat->Prop} {B n p:Nat} {h:Nat->Value} {vs:Value} (w:World) {da db:Nat} {ta tb va vb:Value} (hS:SO S B n h p vs w) (hSl:∀k,S k->k<w.heap.size) (ha:In_ w da ta va) (hb:In_ w db tb vb):Calls Try.prog 13 #[.pointer (some ⟨p,0,none⟩),va,vb] w fun e w'=>(((tkT n da ta && tkT n db tb)=true/\e=.returned (.int .i64 (unT m f 0 h ta tb).1)/\SO S B n (unT m f 0 h ta tb).2.2 p vs w')\/((tkT n da ta && tkT n db tb)=false/\e=.returned (.int .i64 1)/\SO S B n h p vs w'))/\Kv vs w w':=by
 obtain ⟨k1,x1,n1,es1,u1,hta,hva,hr1⟩:=id ha.at_
 obtain ⟨k2,x2,n2,es2,u2,htb,hvb,hr2⟩:=id hb.at_
 obtain ⟨oR1,cR1,hu1,_⟩:=row_at hr1
 obtain ⟨oR2,cR2,hu2,_⟩:=row_at hr2
 subst hu1 hu2
 clear hr1 hr2 hta htb
 subst hva hvb
 obtain ⟨W,hW⟩:∃W,W=w.alloc (.cells #[.int .i64 k1,.string x1,.int .i64 n1,.slice oR1 es1.length cR1] 34):=⟨_,rfl⟩
 have hw1:Below w.heap.size w W:=by rw [hW];exact new_on' _ _
 have hx1:W.heap[w.heap.size]?=some (.cells #[.int .i64 k1,.string x1,.int .i64 n1,.slice oR1 es1.length cR1] 34 (0,0)):=by rw [hW];exact heap_alloc_new w _
 have hsz:W.heap.size=w.heap.size+1:=by rw [hW];simp
 obtain ⟨W2,hW2⟩:∃W2,W2=W.alloc (.cells #[.int .i64 k2,.string x2,.int .i64 n2,.slice oR2 es2.length cR2] 34):=⟨_,rfl⟩
 have hw2:Below W.heap.size W W2:=by rw [hW2];exact new_on' _ _
 have hx2:W2.heap[w.heap.size+1]?=some (.cells #[.int .i64 k2,.string x2,.int .i64 n2,.slice oR2 es2.length cR2] 34 (0,0)):=by rw [<- hsz,hW2];exact heap_alloc_new W _
 have hx1':W2.heap[w.heap.size]?=some (.cells #[.int .i64 k1,.string x1,.int .i64 n1,.slice oR1 es1.length cR1] 34 (0,0)):=(hw2.block _ (by omega)).trans hx1
 have hb2:Below w.heap.size w W2:=below_go hw1 hw2
 have hs2:W2.heap.size=w.heap.size+1+1:=by rw [hW2,<- hsz];simp
 have hca:TyC 0 W2 (da+1) w.heap.size 0 ta:=tyv_box ha.at_ hb2 hx1'
 have hcb:TyC 0 W2 (db+1) (w.heap.size+1) 0 tb:=tyv_box hb.at_ hb2 hx2
 have HTA:=hideR ((hS.bel hb2).takes hca)
 have HTB:=hideR (fun u (hu:Below W2.heap.size W2 u)=>(hS.bel (below_go hb2 hu)).takes (hcb.but (Abv.of hu)))
 have HBA:=hideR (fun u (hu:Below W2.heap.size W2 u)=>t_built0 da u ta w.heap.size 0 (hca.but (Abv.of hu)) ha.few (ha.sm _))
 have HBB:=hideR (fun u (hu:Below W2.heap.size W2 u)=>t_built0 db u tb (w.heap.size+1) 0 (hcb.but (Abv.of hu)) hb.few (hb.sm _))
 have HGA:=hideR (fun (e:tkT n da ta=true)=>ha.good e)
 have HGB:=hideR (fun (e:tkT n db tb=true)=>hb.good e)
 have HS:=hideR hS
 have HB2:=hideR hb2
 have HX1:=hideR hx1'
 have HX2:=hideR hx2
 have HSZ:=hideR (And.intro hsz hs2)
 have HSL:=hideR hSl
 clear hS hca hcb ha hb hw1 hw2 hx1 hx2 hx1' hb2 hsz hs2 hSl
 cases hA:tkT n da ta with
 | false =>
  rw [hA] at HTA
  clear HTB HBA HBB HGA HGB HX1 HX2 hA
  go_enter Try.func13,Try.ntmps13
  go_upto_region 1 with fail
  rw [<- hW,<- hW2]
  clear hW hW2
  go_wp2_with fail
  refine Calls.mono (show Calls _ _ _ _ _ from HTA.out) ?_
  rintro e u1 ⟨rfl,hb⟩
  have HB:=hideR (below_go HB2.out hb)
  clear hb HTA
  go_wp2
  go_ret
  exact ⟨.inr ⟨rfl,rfl,HS.out.bel HB.out⟩,Kv.of HB.out⟩
 | true =>
  rw [hA] at HTA
  cases hB:tkT n db tb with
  | false =>
   rw [hB] at HTB
   clear HBA HBB HGA HGB HX1 HX2 hA hB
   go_enter Try.func13,Try.ntmps13
   go_upto_region 1 with fail
   rw [<- hW,<- hW2]
   clear hW hW2
   go_wp2_with fail
   refine Calls.mono (show Calls _ _ _ _ _ from HTA.out) ?_
   rintro e u1 ⟨rfl,hb⟩
   have HTB1:=hideR (HTB.out u1 hb)
   have HB:=hideR (below_go HB2.out hb)
   clear hb HTA HTB
   go_wp2_with fail
   refine Calls.mono (show Calls _ _ _ _ _ from HTB1.out) ?_
   rintro e u2 ⟨rfl,hb⟩
   have HC:=hideR (below_go HB.out hb)
   clear hb HTB1
   go_wp2
   go_ret
   exact ⟨.inr ⟨rfl,rfl,HS.out.bel HC.out⟩,Kv.of HC.out⟩
  | true =>
   rw [hB] at HTB
   have HGa:=hideR (HGA.out hA)
   have HGb:=hideR (HGB.out hB)
   clear HGA HGB hA hB
   go_enter Try.func13,Try.ntmps13
   go_upto_region 1 with fail
   rw [<- hW,<- hW2]
   clear hW hW2
   go_wp2_with fail
   refine Calls.mono (show Calls _ _ _ _ _ from HTA.out) ?_
   rintro e u1 ⟨rfl,hb⟩
   have HTB1:=hideR (HTB.out u1 hb)
   have HBu:=hideR hb
   clear hb HTA HTB
   go_wp2_with fail
   refine Calls.mono (show Calls _ _ _ _ _ from HTB1.out) ?_
   rintro e u2 ⟨rfl,hb⟩
   have hbu:=below_go HBu.out hb
   have HC:=hideR hbu
   have HBA2:=hideR (HBA.out u2 hbu)
   clear hb hbu HTB1 HBA HBu
   go_wp2_with fail
   refine Calls.mono (show Calls _ _ _ _ _ from HBA2.out) ?_
   rintro e u3 ⟨va,rfl,hb,hua⟩
   obtain ⟨ka,xa,na,ra,rfl,hone1⟩:=hua.val
   have HC3:=hideR (below_go HC.out hb)
   have HB32:=hideR hb
   have HUA:=hideR hua
   have HBB2:=hideR (HBB.out u3 (below_go HC.out hb))
   clear hb hua HBA2 HBB
   go_wp2_with fail
   refine Calls.mono (show Calls _ _ _ _ _ from HBB2.out) ?_
   rintro e u4 ⟨vb,rfl,hb,hub⟩
   obtain ⟨kb,xb,nb,rb,rfl,hone2⟩:=hub.val
   clear HBB2
   have hc4:=below_go HC3.out hb
   have hX1:=(hc4.block _ (Array.getElem?_eq_some_iff.1 HX1.out).1).trans HX1.out
   obtain ⟨W5,hW5,hth5,hbk5,hbl5,hne5⟩:=put4 (w:=w) (z:=#[.int .i64 k1,.string x1,.int .i64 n1,.slice oR1 es1.length cR1]) (vs:=#[.int .i64 ka,.string xa,.int .i64 na,ra]) rfl hX1 (below_go HB2.out hc4) (Nat.le_refl _)
   have hX2:W5.heap[(w.heap.size+1)]?=some (.cells #[.int .i64 k2,.string x2,.int .i64 n2,.slice oR2 es2.length cR2] 34 (0,0)):=(hne5 _ (by have:=HSZ.out;omega)).trans ((hc4.block _ (Array.getElem?_eq_some_iff.1 HX2.out).1).trans HX2.out)
   obtain ⟨W6,hW6,hth6,hbk6,hbl6,hne6⟩:=put4 (w:=w) (z:=#[.int .i64 k2,.string x2,.int .i64 n2,.slice oR2 es2.length cR2]) (vs:=#[.int .i64 kb,.string xb,.int .i64 nb,rb]) rfl hX2 hbl5 (by have:=HSZ.out;omega)
   have hk6:W6.heap[w.heap.size]?=some (.cells #[.int .i64 ka,.string xa,.int .i64 na,ra] 34 (0,0)):=(hne6 _ (by have:=HSZ.out;omega)).trans hbk5
   have hs3:W2.heap.size<=u2.heap.size:=HC.out.size
   have hs4:u2.heap.size<=u3.heap.size:=HB32.out.size
   have hz:=HSZ.out
   have hua6:tyU w.heap.size ta (.agg #[.int .i64 ka,.string xa,.int .i64 na,ra]) W6:=((HUA.out.on (Abv.of hb) (Nat.le_refl _)).on (C:=u2.heap.size) (w':=W6) (fun k hk hl=>(hne6 k (by omega)).trans (hne5 k (by omega))) (Nat.le_refl _)).on (fun _ _ _=>rfl) (by omega)
   have hub6:tyU (w.heap.size+1) tb (.agg #[.int .i64 kb,.string xb,.int .i64 nb,rb]) W6:=(hub.on (C:=u3.heap.size) (w':=W6) (fun k hk hl=>(hne6 k (by omega)).trans (hne5 k (by omega))) (Nat.le_refl _)).on (fun _ _ _=>rfl) (by omega)
   have hS6:SO S B n h p vs W6:=HS.out.bel hbl6
   have hA6:TyE true S W6 n w.heap.size 0 ta:=TyE.new hua6 hk6 HSL.out HGa.out
   have hB6:TyE true S W6 n (w.heap.size+1) 0 tb:=TyE.new hub6 hbk6 (fun k hk=>by have:=HSL.out k hk;omega) HGb.out
   obtain ⟨W7,hW7⟩:∃W7,W7=W6.alloc (.cells #[.pointer none,.int .i64 0] 71):=⟨_,rfl⟩
   have hb7:Below W6.heap.size W6 W7:=by rw [hW7];exact new_on' _ _
   have hx7:W7.heap[W6.heap.size]?=some (.cells #[.pointer none,.int .i64 0] 71 (0,0)):=by rw [hW7];exact heap_alloc_new W6 _
   obtain ⟨W8,hW8⟩:∃W8,W8=W7.setCells W6.heap.size 0 (#[.pointer (some ⟨p,0,none⟩),.int .i64 0]:Array Value).toList:=⟨_,rfl⟩
   have hth8:W7.there W6.heap.size 0 (#[.pointer (some ⟨p,0,none⟩),.int .i64 0]:Array Value).size:=by have h:=put_there hx7;exact h
   have hx8:W8.heap[W6.heap.size]?=some (.cells #[.pointer (some ⟨p,0,none⟩),.int .i64 ((0:Nat):Int)] 71 (0,0)):=by rw [hW8];exact put_heap hx7 rfl
   have hb8:Below W6.heap.size W6 W8:=by rw [hW8];exact cells_below W6.heap.size W6.heap.size (Nat.le_refl _) _ 0 W6 W7 hb7
   have hlt:=HS.out.lt
   have hsz6:w.heap.size<=W6.heap.size:=hbl6.size
   have hsl6:∀k,k<W6.heap.size->(S k\/k=W6.heap.size)->S k:=fun k hk h=>h.resolve_right (by omega)
   have HU:=hideR (t_unify hm (S:=fun k=>S k\/k=W6.heap.size) (K:=W6.heap.size) (B:=B) (n:=n) (p:=p) (vs:=vs) ⟨.inr rfl,by omega,fun e=>by have:=hlt.2 _ e;omega⟩ f W8 0 h w.heap.size 0 ta (w.heap.size+1) 0 tb (hS6.grow hb8 (fun k=>.inl) hsl6) (hA6.grow hb8 hsl6) (hB6.grow hb8 hsl6) hx8 (by omega) (by omega))
   have HS0:=hideR hS6.1
   have HB68:=hideR (below_go hbl6 hb8)
   have HT5:=hideR hth5;have HT6:=hideR hth6;have HT8:=hideR hth8
   have HW5:=hideR hW5;have HW6:=hideR hW6;have HW7:=hideR hW7;have HW8:=hideR hW8
   have HZ6:=hideR hsz6
   clear hW5 hW6 hW7 hW8 hth5 hth6 hth8 hbk5 hbk6 hbl5 hbl6 hne5 hne6 hX1 hX2 hk6 hs3 hs4 hz hua6 hub6 hS6 hA6 hB6 hb7 hx7 hx8 hb8 hlt hsz6 hsl6 hb hub hc4 HX1 HX2 HC HC3 HB32 HUA HSZ HGa HGb HB2 HS HSL
   go_wp2_with (first|(refine wpList_store_mid rfl 34 (.tmp 4) (.tmp 16) rfl w.heap.size 0 #[.int .i64 ka,.string xa,.int .i64 na,ra] rfl rfl HT5.out sizeTy' (by simp [Value.oneCell'] at hone1 ⊢;exact hone1) ?_;rw [HW5.out])|(refine wpList_store_mid rfl 34 (.tmp 5) (.tmp 17) rfl (w.heap.size+1) 0 #[.int .i64 kb,.string xb,.int .i64 nb,rb] rfl rfl HT6.out sizeTy' (by simp [Value.oneCell'] at hone2 ⊢;exact hone2) ?_;rw [HW6.out])|(rw [<- HW7.out];refine wpList_store_mid rfl 71 (.tmp 7) (.tmp 19) rfl W6.heap.size 0 #[.pointer (some ⟨p,0,none⟩),.int .i64 0] rfl rfl HT8.out (by kernel_rfl) (by simp [Value.oneCell']) ?_;rw [<- HW8.out])|fail)
   refine Calls.mono (show Calls _ _ _ _ _ from HU.out) ?_
   rintro e u9 ⟨rfl,_,hs,hk⟩
   have HS9:=hideR (hs.back HS0.out fun k=>.inl)
   have HK9:Hid (Kv vs w u9):=hideR ⟨hk.os.trans HB68.out.os,hk.tape.trans HB68.out.tape,hk.output.trans HB68.out.output,Nat.le_trans HB68.out.size hk.size,fun k hk1 hk2=>(hk.block k (Nat.lt_of_lt_of_le hk1 HB68.out.size) (by have:=HZ6.out;omega) hk2).trans (HB68.out.block k hk1)⟩
   clear hs hk HU
   go_wp2
   go_ret
   exact ⟨.inl ⟨rfl,rfl,HS9.out⟩,HK9.out⟩
end Go.Proofs.Ytkflfohoinbenaa

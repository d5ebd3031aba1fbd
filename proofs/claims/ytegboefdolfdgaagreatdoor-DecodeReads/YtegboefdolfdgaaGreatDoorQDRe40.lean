/- Texts that the claim needs. -/
import Derived.Test.YtegboefdolfdgaaGreatDoorQDRe37
import Derived.Test.YtegboefdolfdgaaGreatDoorQDRe39
import Derived.Test.YtegboefdolfdgaaGreatDoorQDRe29
import Derived.Deep.MidRow
import Derived.Test.YtegboefdolfdgaaGreatDoorQDRe12
import Derived.Test.YtegboefdolfdgaaGreatDoorRows
import Derived.Lib.LaidIn
import Derived.Lib.LaidU8T
import Derived.ProofKit
namespace Go.Proofs.YtegboefdolfdgaaGreatDoor
open Go.RowKit aA ai
set_option linter.unusedVariables false
set_option maxRecDepth 100000
set_option maxHeartbeats 16000000
namespace ai
theorem K8 {s:ByteArray} {id:Int} {st st':Sg} {en i j:Nat} (h0:0<=id) (h1:id<=11) (he:en<=s.size) (hf:st.m.funcs.length<=4096) (h:bA s id st en i=.ok (st',j)):st'.m.funcs.length<=4096:=by
 by_cases h10:id=10
 ·subst h10
  have h':(match gP s en st.m.funcs.length i st.cnt with
   | .ok (fs,j,n)=>(.ok (⟨{ st.m with funcs:=List.zipWith nV st.m.funcs fs },st.m.funcs.length,n⟩,j):R Sg)
   | .error z=>.error z)=.ok (st',j):=h
  cases hr:gP s en st.m.funcs.length i st.cnt with
  | error z=>rw [hr] at h';cases h'
  | ok v =>
   obtain ⟨fs,k,n⟩:=v;rw [hr] at h';cases h';show (List.zipWith nV st.m.funcs fs).length<=4096;rw [List.length_zipWith];omega
 ·by_cases h3:id=3
  ·subst h3;obtain ⟨a,k,h2,h3⟩:=fH (show bd _ _=_ from h);cases h3;show (a.map uA).length<=4096;rw [List.length_map];exact Fa he h2
  ·rw [(Fb h0 h1 h).2.2 h10 h3];exact hf
theorem Fc (s:ByteArray):∀(f:Nat) (last:Int) (st:Sg) (i:Nat) (st':Sg) (j:Nat),st.m.funcs.length<=4096->vS s f last st i=some (.ok (st',j))->st'.m.funcs.length<=4096
 | 0,last,st,i,st',j,hf,h=>by cases h
 | f+1,last,st,i,st',j,hf,h=>by
  unfold vS lg at h;by_cases hi:i<s.size
  ·rw [if_pos hi] at h;have hn:nx s s.size i=.ok (ae.bt s i,i+1):=by unfold nx;rw [if_pos hi]
   have hb:=ae.lQ s i;rw [hn] at h;simp only [] at h;by_cases h1:11<ae.bt s i
   ·rw [if_pos h1] at h;cases h
   ·rw [if_neg h1] at h;by_cases h2:ae.bt s i≠0/\¬ last<ae.bt s i
    ·rw [if_pos h2] at h;cases h
    ·rw [if_neg h2,if_pos (show uB (ae.bt s i)=true from decide_eq_true ⟨by omega,by omega⟩)] at h;cases hz:dZ (bA s (ae.bt s i)) s st s.size (i+1) with
     | error z=>rw [hz] at h;cases h
     | ok v =>
      obtain ⟨st2,m⟩:=v;rw [hz] at h;refine Fc s f _ st2 m st' j ?_ h;unfold dZ at hz;obtain ⟨z,j,h3,h4⟩:=fH hz;obtain ⟨UT,m2,h5,h6⟩:=fH h4;by_cases hm:m2=j+z.toNat
      ·rw [if_pos hm] at h6;cases h6;exact K8 (by omega) (by omega) (Nat.min_le_left _ _) hf h5
      ·rw [if_neg hm] at h6;cases h6
  ·rw [if_neg hi] at h;by_cases hc:Sg.codes st=pY st
   ·rw [if_pos hc] at h;cases h;exact hf
   ·rw [if_neg hc] at h;cases h
theorem K9 {s:ByteArray} {st:Sg} {j:Nat} (h:lh s=.ok (st,j)):st.m.funcs.length<=4096:=by
 have hr:=Cb s;rw [h] at hr;by_cases h1:262144<s.size
 ·rw [if_pos h1] at hr;cases hr
 ·rw [if_neg h1] at hr;by_cases h2:pfx s=false
  ·rw [if_pos h2] at hr;cases hr
  ·rw [if_neg h2] at hr;exact Fc s _ _ _ _ _ _ (by decide) hr
def zX:R Sg->Int
 | .error z=>z
 | .ok _=>0
def mX:R Sg->Mod 81
 | .error _=>AB
 | .ok (st,_)=>st.m
theorem La (w:World):pO w 81 (.slice none 0 0) (.slice none 0 0) (.slice none 0 0) (.slice none 0 0) (.slice none 0 0) (.slice none 0 0) (.slice none 0 0) (.slice none 0 0) (.slice none 0 0) (.slice none 0 0) AB:=Fe (Cc 0 w) (by decide)
theorem Lb {w u:World} {s:ByteArray} {e:Ending} (h:qa MM w (lh s) e u):∃v0 v1 v2 v3 v4 v5 v6 v7 v8 v9,e=.returned (.tuple #[.agg #[v0,v1,v2,v3,v4,v5,v6,v7,v8,v9],.int .i64 (zX (lh s))])/\pO u 81 v0 v1 v2 v3 v4 v5 v6 v7 v8 v9 (mX (lh s))/\Below w.heap.size w u:=by
 obtain ⟨hb,h⟩:=h;cases hr:lh s with
 | error z=>rw [hr] at h;exact ⟨_,_,_,_,_,_,_,_,_,_,h,La u,hb⟩
 | ok v =>
  obtain ⟨st,j⟩:=v;rw [hr] at h;obtain ⟨p,c,k,n,hM,he⟩:=h;exact ⟨_,_,_,_,_,_,_,_,_,_,he,Fe hM (by have:=K9 hr;omega),hb⟩
theorem Ff (u:World) (vs:Array Value):(u.alloc (.cells vs 33)).heap[u.heap.size]?=some (.cells vs 33 (0,0))/\Below u.heap.size u (u.alloc (.cells vs 33)):=⟨fI _ _ rfl,aD _ _⟩
theorem Fg {u u2:World} {g:Nat} {vs:Array Value} (h:u.heap[g]?=some (.cells vs 33 (0,0))) (hb:Below u.heap.size u u2):u2.heap[g]?=some (.cells vs 33 (0,0)):=by
 rw [hb.block _ (Array.getElem?_eq_some_iff.1 h).1];exact h
end ai
theorem Lc (s:ByteArray) (w:World) (hI:iW w) :
  Calls Tryz.prog 3 #[.string s] w fun e w'=>e=.returned (.bool true)/\Below w.heap.size w w':=by
 have HI:=aa hI;clear hI;by_cases hl:20000<s.size
 ·have dl:decide ((s.size:Int) > 20000)=true:=decide_eq_true (by omega);go_enter Tryz.func3,Tryz.ntmps3;go_wp2_with fail;refine (Fh _ HI.out).mono ?_;rintro e u3 ⟨rfl,hb3⟩;have cQ:=aa hb3;clear hb3;go_wp2;go_ret;exact ⟨rfl,cQ.out⟩
 have dl:decide ((s.size:Int) > 20000)=false:=decide_eq_false (by omega);have H1:=aa (Ld s w (by omega) HI.out);have H2:=aa (fun u=>Le s u (by omega));have Ce:=aa (fun w u e=>Lb (w:=w) (u:=u) (s:=s) (e:=e));clear hl;generalize lh s=X at *;generalize zX X=z at *;generalize mX X=md at *;go_enter Tryz.func3,Tryz.ntmps3;go_wp2_with fail;refine H1.out.mono ?_;intro e u1 xD;obtain ⟨v0,v1,v2,v3,v4,v5,v6,v7,v8,v9,rfl,hm,hb⟩:=Ce.out _ _ _ xD;obtain ⟨o0,k0,rfl⟩:=Row.len hm.types;obtain ⟨o1,k1,rfl⟩:=Row.len hm.imports;obtain ⟨o2,k2,rfl⟩:=Row.len hm.funcs;obtain ⟨o3,k3,rfl⟩:=Row.len hm.tables;obtain ⟨o4,k4,rfl⟩:=Row.len hm.dU;obtain ⟨o5,k5,rfl⟩:=Row.len hm.globals;obtain ⟨o6,k6,rfl⟩:=Row.len hm.exports;obtain ⟨o7,k7,rfl⟩:=Row.len hm.start;obtain ⟨o8,k8,rfl⟩:=Row.len hm.elems;obtain ⟨o9,k9,rfl⟩:=Row.len hm.dV;have HM:=aa hm;have HB:=aa hb;obtain ⟨n0,hn0⟩:∃n,md.types.length=n:=⟨_,rfl⟩;obtain ⟨n1,pQ⟩:∃n,md.imports.length=n:=⟨_,rfl⟩;obtain ⟨n2,jP⟩:∃n,md.funcs.length=n:=⟨_,rfl⟩;obtain ⟨n3,xk⟩:∃n,md.tables.length=n:=⟨_,rfl⟩;obtain ⟨n4,uj⟩:∃n,md.dU.length=n:=⟨_,rfl⟩;obtain ⟨n5,uk⟩:∃n,md.globals.length=n:=⟨_,rfl⟩;obtain ⟨n6,xn⟩:∃n,md.exports.length=n:=⟨_,rfl⟩;obtain ⟨n7,xp⟩:∃n,md.start.length=n:=⟨_,rfl⟩;obtain ⟨n8,xq⟩:∃n,md.elems.length=n:=⟨_,rfl⟩;obtain ⟨n9,xu⟩:∃n,md.dV.length=n:=⟨_,rfl⟩;rw [hn0,pQ,jP,xk,uj,uk,xn,xp,xq,xu] at HM ⊢;clear hm hb xD H1;obtain ⟨g4,gB⟩:=Ff u1 #[.slice o0 n0 k0,.slice o1 n1 k1,.slice o2 n2 k2,.slice o3 n3 k3,.slice o4 n4 k4,.slice o5 n5 k5,.slice o6 n6 k6,.slice o7 n7 k7,.slice o8 n8 k8,.slice o9 n9 k9];have Fj:=aa g4;have Fp:=aa (HM.out.on gB);have qc:=aa (cG HB.out gB);clear g4 gB HM HB;go_wp2_with fail;generalize u1.alloc (.cells #[.slice o0 n0 k0,.slice o1 n1 k1,.slice o2 n2 k2,.slice o3 n3 k3,.slice o4 n4 k4,.slice o5 n5 k5,.slice o6 n6 k6,.slice o7 n7 k7,.slice o8 n8 k8,.slice o9 n9 k9] 33)=W2 at *;generalize u1.heap.size=g at *;refine (H2.out W2).mono ?_;intro e u2 xD;obtain ⟨x0,x1,x2,x3,x4,x5,x6,x7,x8,x9,rfl,hm,hb⟩:=Ce.out _ _ _ xD;obtain ⟨p0,j0,rfl⟩:=Row.len hm.types;obtain ⟨p1,j1,rfl⟩:=Row.len hm.imports;obtain ⟨p2,j2,rfl⟩:=Row.len hm.funcs;obtain ⟨p3,j3,rfl⟩:=Row.len hm.tables;obtain ⟨p4,j4,rfl⟩:=Row.len hm.dU;obtain ⟨p5,j5,rfl⟩:=Row.len hm.globals;obtain ⟨p6,j6,rfl⟩:=Row.len hm.exports;obtain ⟨p7,j7,rfl⟩:=Row.len hm.start;obtain ⟨p8,j8,rfl⟩:=Row.len hm.elems;obtain ⟨p9,j9,rfl⟩:=Row.len hm.dV;have bB:=aa hm;have Fq:=aa (Fp.out.on hb);have Fs:=aa (Fg Fj.out hb);have Ft:=aa (cG qc.out hb);rw [hn0,pQ,jP,xk,uj,uk,xn,xp,xq,xu] at bB ⊢;clear hm hb xD H2 Ce Fp qc Fj hn0 pQ jP xk uj uk xn xp xq xu;obtain ⟨g4,gB⟩:=Ff u2 #[.slice p0 n0 j0,.slice p1 n1 j1,.slice p2 n2 j2,.slice p3 n3 j3,.slice p4 n4 j4,.slice p5 n5 j5,.slice p6 n6 j6,.slice p7 n7 j7,.slice p8 n8 j8,.slice p9 n9 j9];have Fu:=aa (bB.out.on gB);have Fv:=aa (Fq.out.on gB);have AF:=aa (cG Ft.out gB);obtain ⟨c0,c1,c2,c3,c4,c5,c6,c7,c8,c9⟩:=oK (Fg Fs.out gB);obtain ⟨d0,d1,d2,d3,d4,d5,d6,d7,d8,d9⟩:=oK g4;clear g4 gB bB Fq Fs Ft;go_upto_region 5 with fail;generalize u2.alloc (.cells #[.slice p0 n0 j0,.slice p1 n1 j1,.slice p2 n2 j2,.slice p3 n3 j3,.slice p4 n4 j4,.slice p5 n5 j5,.slice p6 n6 j6,.slice p7 n7 j7,.slice p8 n8 j8,.slice p9 n9 j9] 33)=W3 at *;generalize u2.heap.size=g3 at *;go_wp2_with fail;refine (Lf 81 _ _ _ _ _ _ _ _ _ _ _ _ _ _ _ _ _ _ _ _ md W3 Fv.out Fu.out).mono ?_;rintro e u3 ⟨rfl,hb3⟩;have cQ:=aa (cG AF.out hb3);clear hb3 AF Fv Fu c0 c1 c2 c3 c4 c5 c6 c7 c8 c9 d0 d1 d2 d3 d4 d5 d6 d7 d8 d9;go_wp2_with fail;refine (Fh _ (Cf HI.out cQ.out)).mono ?_;rintro e u4 ⟨rfl,hb4⟩;have kH:=aa (cG cQ.out hb4);clear hb4 cQ;go_wp2;go_ret;exact ⟨rfl,kH.out⟩
end Go.Proofs.YtegboefdolfdgaaGreatDoor
namespace Go.Proofs.YtegboefdolfdgaaGreatDoor
open Go.RowKit Go.Shelf Go.Lib aA
theorem own:ownKnob Tryz.prog.godebug=none:=by kernel_rfl
theorem JP:(Rows.laid_unicode_utf8_acceptRanges:DataW Unit)=Lib.acceptData:=by kernel_rfl
theorem JQ:Rows.laid_unicode_utf8_first=Lib.firstData:=by kernel_rfl
theorem Pu {W : World} (hL : laidMetH Tryz.prog [("unicode/utf8.acceptRanges", Rows.laid_unicode_utf8_acceptRanges), ("unicode/utf8.first", Rows.laid_unicode_utf8_first)] W) : iW W := by
 rw [JP,JQ] at hL;have hM : laidMet Tryz.prog [("unicode/utf8.acceptRanges", Lib.acceptData), ("unicode/utf8.first", Lib.firstData)] W := hL
 exact utf8Tabs_of_readsT (U8Types.of196 Tryz.laysValid) ⟨by kernel_rfl,by kernel_rfl,by kernel_rfl,by kernel_rfl,by kernel_rfl,by kernel_rfl,by kernel_rfl⟩ (Lib.laidMet.reads hM (.tail _ (.head _))) (Lib.laidMet.reads hM (.head _))
noncomputable def Da (os:Os):World :=
 let w0:=World.holding Tryz.prog os ⟨#[],#[],[]⟩
 let put (h:Array Obj) (g:Nat) (cs:Array Value):Array Obj:=h.modify g fun
  | .cells _ t frozen=>.cells cs t frozen
  | o=>o
 let h1:=put w0.heap 0 (Lib.firstTab.map fun z=>Value.int .u8 z).toArray
 let h2:=put h1 1 ((List.range 16).flatMap fun i=>[Value.int .u8 (Lib.accLo i),Value.int .u8 (Lib.accHi i)]).toArray
 { w0 with heap:=h2 }
theorem Pv (os : Os) (args : Array Value) : laidMet Tryz.prog [("unicode/utf8.acceptRanges", Rows.laid_unicode_utf8_acceptRanges), ("unicode/utf8.first", Rows.laid_unicode_utf8_first)] ((Da os).forCall (fun _ _ => 0) ⟨#[], args, []⟩).memory := by
 rw [JP,JQ];exact (LaidIn.of_run (l := [("unicode/utf8.acceptRanges", Lib.acceptData), ("unicode/utf8.first", Lib.firstData)]) [1, 0] 8 (by kernel_rfl) (by kernel_rfl) (by kernel_rfl) (by kernel_rfl)).met
end Go.Proofs.YtegboefdolfdgaaGreatDoor

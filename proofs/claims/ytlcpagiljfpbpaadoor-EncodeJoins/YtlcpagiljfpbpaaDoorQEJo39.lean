/- Texts that the claim needs. -/
import Derived.Test.YtlcpagiljfpbpaaDoorQEJo38
import Derived.Test.YtlcpagiljfpbpaaDoorQEJo12
import Derived.Laws.Concat
namespace Go.Proofs.YtlcpagiljfpbpaaDoor
open Go.RowKit Rep Enc Go.Lib
set_option linter.unusedVariables false
namespace Enc
theorem bodyRg {d:Nat} {l:IL d} (hN:NR d l) (h:chk (bodyM l)=0):Rg d l/\(bytesI d l).length<=38000000000000:=by
 obtain ⟨_,⟨c,hc⟩,hL,_,hF⟩:=chk_zero h
 have hR:=rg_of d l 0 (goF_one hF) (goF_one hL) hN
 have hc':=goF_one (f:={ type:=0,locals:=[],body:=l }) hc
 have h1:=goI_tot d l 0 0 c hc'
 have h2:=goI_count_le d l 0 0 c (by omega) hc'
 have h3:=bytesI_len d l hR
 have h4:tot d l<=65536:=by omega
 have h5:tot d l*100000100<=65536*100000100:=Nat.mul_le_mul_right _ h4
 exact ⟨hR,by omega⟩
def sA {d:Nat} (l:IL d):ByteArray:=if chk (bodyM l)=0 then strOfNums (bytesI d l++[11]) else ⟨#[]⟩
theorem bodA_small {d:Nat} {l:IL d} (hN:NR d l) (hw:wt d l<=3000):bodA l=.tuple #[.string (sA l),.int .i64 (chk (bodyM l))]:=by
 unfold bodA sA
 by_cases h:chk (bodyM l)=0
 ·rw [if_pos h,if_pos h,h]
  have h1:=bytesI_wt d l (bodyRg hN h).1
  unfold told
  rw [if_neg (by simp only [List.length_append,List.length_cons,List.length_nil];omega)]
 ·rw [if_neg h,if_neg h]
theorem NR_app {d:Nat} {a b:IL (d+1)} (ha:NR (d+1) a) (hb:NR (d+1) b):NR (d+1) (jn a b):=fun x hx=>by
 rcases List.mem_append.1 hx with h|h
 ·exact ha x h
 ·exact hb x h
theorem wtL_app {α:Type} (f:α->Nat):∀(l k:List (Ins α)),wtL f (l++k)=wtL f l+wtL f k
 | [],k=>by show wtL f k=0+wtL f k;omega
 | x :: r,k=>by
  show wtI f x+wtL f (r++k)=wtI f x+wtL f r+wtL f k
  rw [wtL_app f r k];omega
theorem str_app (x y:List Int):strOfNums x++strOfNums y=strOfNums (x++y):=by
 apply ByteArray.ext
 simp [strOfNums,ByteArray.data_append]
theorem str_cut (x:List Int) (n:Int):(strOfNums (x++[n])).extract 0 ((strOfNums (x++[n])).size-1)=strOfNums x:=by
 apply ByteArray.ext
 rw [strOfNums_size]
 simp [strOfNums,ByteArray.data_extract]
theorem sA_join {d:Nat} {a b:IL (d+1)} (ha:chk (bodyM a)=0) (hb:chk (bodyM b)=0) (h:chk (bodyM (jn a b))=0):sA (jn a b)=(sA a).extract 0 ((sA a).size-1)++sA b:=by
 unfold sA
 rw [if_pos ha,if_pos hb,if_pos h,str_cut,str_app,bytesI_app,List.append_assoc]
theorem sA_pos {d:Nat} {a:IL d} (h:chk (bodyM a)=0):0<(sA a).size:=by
 unfold sA
 rw [if_pos h,strOfNums_size];simp
theorem largeBody {w:World} {b:Nat} {lv:Value} {m:Mod 81} (hM:ModAt w 81 (.slice none 0 0) (.slice none 0 0) (.slice (some ⟨b,0,none⟩) 1 1) (.slice none 0 0) (.slice none 0 0) (.slice none 0 0) (.slice none 0 0) (.slice none 0 0) (.slice none 0 0) (.slice none 0 0) m) (hs:Small m) (hc:w.cell? ⟨b,2,none⟩=some lv):∃k:IL 81,At w 81 lv k/\Lb 81 k/\wt 81 k<=1500:=by
 obtain ⟨o,cap,hv⟩:=Row.len hM.funcs
 injection hv with _ hl _
 obtain ⟨b',off,cap',hv',hcx⟩:=Row.some hM.funcs (by omega)
 injection hv' with ha _ _
 injection ha with ha
 injection ha with hb ho _
 subst hb ho
 obtain ⟨f,hf⟩:∃f,m.funcs[0]?=some f:=⟨_,List.getElem?_eq_getElem (by omega)⟩
 obtain ⟨_,_,v,hv,hA⟩:=hcx 0 f hf
 have:v=lv:=by
  have h1:w.cell? ⟨b,0+0*3+2,none⟩=some v:=hv
  simp only [Nat.zero_mul,Nat.zero_add] at h1
  rw [hc] at h1
  exact (Option.some.inj h1).symm
 subst this
 have h:=hs.funcs f (List.mem_of_getElem? hf)
 exact ⟨f.body,hA,h.2,h.1.2⟩
theorem own_cells {w:World} {B:Nat} {e:TypeId} {s n c:Nat} {o:Option Addr} {xs:List Value} (h:w.ownsRow B e s (.slice o n c) n xs):(o=none->n=0)/\∀ad,o=some ad->∀(j:Nat) u,xs[j]?=some u->w.cell? (ad.add j)=some u:=by
 rcases h.2 with ⟨h1,h2⟩|⟨g,cap,cur,hv,_⟩
 ·injection h1 with h3 h4 _
  subst h3
  exact ⟨fun _=>h2,fun ad e=>by cases e⟩
 ·injection hv with h3 h4 h5
  subst h3 h5
  exact ⟨fun e=>by (cases e),fun ad e=>by injection e with e;subst e;exact h.cells (g:=g) rfl⟩
theorem pc_one {d:Nat} {w:World} {S:Nat->Prop} {ps:List (Pc d)} (h:∀p ∈ ps,PcOk w S p):∀u ∈ flat7 ps,u.oneCell'=true:=flat7_one ps fun p hp=>by
 obtain ⟨o4,c4,e4⟩:=Row.len (h p hp).labels
 obtain ⟨o5,c5,e5⟩:=At.len d _ _ (AtS.at d _ _ (h p hp).body)
 obtain ⟨o6,c6,e6⟩:=At.len d _ _ (AtS.at d _ _ (h p hp).els)
 rw [e4,e5,e6];exact ⟨rfl,rfl,rfl⟩
theorem flat7_app {d:Nat} (a b:List (Pc d)):flat7 (a++b)=flat7 a++flat7 b:=List.flatMap_append ..
theorem at_two {d:Nat} {w0 w1 w2 w9:World} {B:Nat} {v1 v2 v9:Value} (l1 l2:List (Ins (IL d))) (p1 p2:List (Pc d)) (hm1:p1.map (·.1)=l1) (hm2:p2.map (·.1)=l2) (hn1:l1.length<=1500) (hn2:l2.length<=1500)
  (ho1:w1.ownsRow B 50 7 v1 l1.length (flat7 p1)) (hp1:∀p ∈ p1,PcOk w1 (Since B w1 v1.ownBlock) p) (hb:Below w1.heap.size w1 w2) (hB:B<=w1.heap.size)
  (hp2:∀p ∈ p2,PcOk w2 (Since w1.heap.size w2 v2.ownBlock) p)
  (ho9:w9.ownsRow B 50 7 v9 (l1.length+l2.length) (flat7 p1++flat7 p2)) (hg:w2.grownBy w9 v1.ownBlock) (hv:v9.ownBlock=v1.ownBlock\/v9.ownBlock=some w2.heap.size) :
  At w9 (d+1) v9 ((l1++l2:List (Ins (IL d))):IL (d+1)):=by
 have key:∀p ∈ p1++p2,PcOk w9 (Since B w9 v9.ownBlock) p:=fun p hp=>by
  rcases List.mem_append.1 hp with hp|hp
  ·exact ((hp1 p hp).keep (since_below hb)).keep (since_grown hg hv)
  ·have h1:PcOk w2 (Since B w2 v1.ownBlock) p:=(hp2 p hp).keep fun k hk=>⟨⟨Nat.le_trans hB hk.1,hk.2.1,fun e=>by have:=(ho1.lt k e.symm).2;have:=hk.1;omega⟩,rfl⟩
   exact h1.keep (since_grown hg hv)
 exact AtS.at _ _ _ (at_of_row (l1++l2) (p1++p2) (by rw [List.map_append,hm1,hm2]) (by rw [List.length_append];omega) (by rw [flat7_app,show (p1++p2).length=l1.length+l2.length by rw [List.length_append,<- hm1,<- hm2,List.length_map,List.length_map]];exact ho9) key)
end Enc
set_option maxRecDepth 100000 in
set_option maxHeartbeats 8000000 in
theorem refCopiesC (d:Nat) (v:Value) (l:IL d) (w:World) (hA:At w d v l) (hL:Lb d l):Calls Tryd.prog 11 #[v] w (CopyPost d l w):=by
 obtain ⟨oL,kL,rfl⟩:=At.len d _ _ hA
 have HC:=hideR (refCopies d _ l w hA hL)
 clear hA hL
 generalize size d l=n at *
 go_enter Tryd.func11,Tryd.ntmps11
 go_wp2_with fail
 refine HC.out.mono ?_
 rintro e w1 ⟨v1,rfl,h1,h2⟩
 have HF:=hideR (⟨h1,h2⟩:_/\_)
 obtain ⟨o1,k1,rfl⟩:=At.len d _ _ (AtS.at d _ _ h1)
 clear h1 h2 HC
 generalize size d l=n1 at *
 go_wp2
 go_ret
 exact ⟨_,rfl,HF.out.1,HF.out.2⟩
set_option maxRecDepth 100000 in
set_option maxHeartbeats 8000000 in
theorem refCopiesO (d:Nat) (v:Value) (l:List (Ins (IL d))) (w:World) (hA:Row 7 (InsAt w (At w d)) v l) (hL:LbL (Lb d) l):Calls Tryd.prog 11 #[v] w (CopyRow d l w):=by
 obtain ⟨oL,kL,rfl⟩:=Row.len hA
 have HC:=hideR (refCopiesR d (refCopies d) _ l w hA hL)
 clear hA hL
 generalize hn:l.length=n at *
 go_enter Tryd.func11,Tryd.ntmps11
 go_wp2_with fail
 refine HC.out.mono ?_
 rintro e w1 ⟨v1,ps,rfl,h1,h2,h3,h4⟩
 have HF:=hideR (⟨h1,h2,h3,h4⟩:_/\_/\_/\_)
 obtain ⟨o1,k1,rfl⟩:=own_slice h2
 clear h1 h2 h3 h4 HC
 rw [hn] at HF ⊢
 go_wp2
 go_ret
 exact ⟨_,ps,rfl,HF.out.1,by rw [hn];exact HF.out.2.1,HF.out.2.2.1,HF.out.2.2.2⟩
end Go.Proofs.YtlcpagiljfpbpaaDoor

namespace Go.Proofs.YtlcpagiljfpbpaaDoor
open Go.RowKit Rep Enc Go.Lib
set_option linter.unusedVariables false
namespace Enc
def JoinSays (S1 S2 S3:ByteArray) (E1 E2 E3:Int):Prop:=(E1=0->E2=0->E3=0/\0<S1.size/\S1.size<=262144/\(S1.extract 0 (S1.size-1)).size+S2.size<=9223372036854775807/\S3=S1.extract 0 (S1.size-1)++S2)/\(E1≠0\/E2≠0->E3≠0/\S3=⟨#[]⟩)
theorem wt_app {d:Nat} (a b:IL (d+1)) (ha:wt (d+1) a<=1500) (hb:wt (d+1) b<=1500):wt (d+1) (jn a b)<=3000:=by
 have h:wt (d+1) (jn a b)=wt (d+1) a+wt (d+1) b:=wtL_app _ _ _
 omega
theorem sA_size {d:Nat} {a:IL d} (ha:NR d a) (wa:wt d a<=1500) (h1:chk (bodyM a)=0):(sA a).size<=262144:=by
 have h4:=bytesI_wt d a (bodyRg ha h1).1
 unfold sA
 rw [if_pos h1,strOfNums_size]
 simp only [List.length_append,List.length_cons,List.length_nil]
 omega
theorem join_says {d:Nat} {a b:IL (d+1)} (ha:NR (d+1) a) (hb:NR (d+1) b) (wa:wt (d+1) a<=1500) (wb:wt (d+1) b<=1500):JoinSays (sA a) (sA b) (sA (jn a b)) (chk (bodyM a)) (chk (bodyM b)) (chk (bodyM (jn a b))):=by
 have t1:=tot_wt (d+1) a
 have t2:=tot_wt (d+1) b
 have hj:=chk_join a b (by omega)
 constructor
 ·intro h1 h2
  have h3:=hj.2 ⟨h1,h2⟩
  have s1:=sA_size ha wa h1
  have s2:=sA_size hb wb h2
  have s3:((sA a).extract 0 ((sA a).size-1)).size<=(sA a).size:=by rw [ByteArray.size_extract];omega
  exact ⟨h3,sA_pos h1,s1,by omega,sA_join h1 h2 h3⟩
 ·intro h
  have h3:chk (bodyM (jn a b))≠0:=fun e=>by
   have:=hj.1 e
   rcases h with h|h
   ·exact h this.1
   ·exact h this.2
  exact ⟨h3,by unfold sA;rw [if_neg h3]⟩
end Enc
set_option maxRecDepth 100000 in
set_option maxHeartbeats 16000000 in
theorem joinsC {I:World->Prop} (C:WastC I) (d:Nat) (av:Value) (a:IL d) (d2:Nat) (bv:Value) (b:IL d2) (w:World) (hI:I w) (hA:At w d av a) (hN:NR d a) (hB:At w d2 bv b) (hN2:NR d2 b) :
  Calls Tryd.prog 4 #[av,bv] w fun e w'=>e=.returned (.bool true)/\Below w.heap.size w w':=by
 obtain ⟨oA,kA,rfl⟩:=At.len d _ _ hA
 obtain ⟨oB,kB,rfl⟩:=At.len d2 _ _ hB
 obtain ⟨u1,hu1⟩:∃u1,u1=w.alloc (.cells #[.int .i64 0,.slice none 0 0,.slice oA (size d a) kA] 42):=⟨_,rfl⟩
 have hb:Below w.heap.size w u1:=by rw [hu1];exact new_on' w _
 have hx:Bx u1 w.heap.size 42 #[.int .i64 0,.slice none 0 0,.slice oA (size d a) kA]:=by rw [hu1];exact Bx.new rfl
 have HL:=hideR (pLarge d _ _ _ _ _ _ _ _ _ _ (bodyM a) u1 (bodyM_at hA hb hx) (fun x hx=>by simp [bodyM] at hx))
 have HI:=hideR hI
 have HA:=hideR hA
 have HN:=hideR hN
 have HBb:=hideR hB
 have HN2:=hideR hN2
 have HB:=hideR hb
 have HX:=hideR hx
 have HU:=hideR hu1
 clear hI hA hN hB hN2 hb hx hu1
 generalize size d a=na at *
 generalize size d2 b=nb at *
 go_enter Tryd.func4,Tryd.ntmps4
 go_wp2_with fail
 rw [<- HU.out]
 clear HU
 refine HL.out.mono ?_
 rintro e u2 ⟨hb2,hor⟩
 have HB2:=hideR (HB.out.trans (hb2.mono HB.out.size))
 have HI2:=hideR (C.keep HB2.out HI.out)
 rcases hor with rfl|⟨rfl,m,hm,hs,_,_⟩
 ·clear hb2 HL
  go_wp2_with fail
  refine (pWake C _ HI2.out).mono ?_
  rintro e u3 ⟨rfl,hb3⟩
  have HB3:=hideR (HB2.out.trans (hb3.mono HB2.out.size))
  clear hb3
  go_wp2
  go_ret
  exact ⟨rfl,HB3.out⟩
 have hc2:u2.cell? ⟨w.heap.size,2,none⟩=some (.slice oA na kA):=cell_on hb2 (HX.out.cell 2 _ rfl)
 obtain ⟨k,hk,hlb,hwt⟩:=largeBody hm hs hc2
 have HNK:=hideR (NR_on 81 d _ k a hk (At.on HB2.out d _ _ HA.out) HN.out)
 have HKA:=hideR hk
 have HLA:=hideR hlb
 have HWA:=hideR hwt
 clear hb2 HL hm hs hc2 hk hlb hwt HX HA HN
 obtain ⟨u3,hu3⟩:∃u3,u3=u2.alloc (.cells #[.int .i64 0,.slice none 0 0,.slice oB nb kB] 42):=⟨_,rfl⟩
 have hB2:At u2 d2 (.slice oB nb kB) b:=At.on HB2.out d2 _ _ HBb.out
 have hb3:Below u2.heap.size u2 u3:=by rw [hu3];exact new_on' u2 _
 have hx3:Bx u3 u2.heap.size 42 #[.int .i64 0,.slice none 0 0,.slice oB nb kB]:=by rw [hu3];exact Bx.new rfl
 have HL3:=hideR (pLarge d2 _ _ _ _ _ _ _ _ _ _ (bodyM b) u3 (bodyM_at hB2 hb3 hx3) (fun x hx=>by simp [bodyM] at hx))
 have HX3:=hideR hx3
 have HU3:=hideR hu3
 have HB3:=hideR hb3
 clear hB2 hb3 hx3 hu3
 go_wp2_with fail
 rw [<- HU3.out]
 clear HU3
 refine HL3.out.mono ?_
 rintro e u4 ⟨hb4,hor⟩
 have HB24:=hideR (HB3.out.trans (hb4.mono HB3.out.size))
 have HB4:=hideR (HB2.out.trans (HB24.out.mono HB2.out.size))
 have HI4:=hideR (C.keep HB4.out HI.out)
 rcases hor with rfl|⟨rfl,m,hm,hs,_,_⟩
 ·clear hb4 HL3
  go_wp2_with fail
  refine (pWake C _ HI4.out).mono ?_
  rintro e u5 ⟨rfl,hb5⟩
  have HB5:=hideR (HB4.out.trans (hb5.mono HB4.out.size))
  clear hb5
  go_wp2
  go_ret
  exact ⟨rfl,HB5.out⟩
 have hc4:u4.cell? ⟨u2.heap.size,2,none⟩=some (.slice oB nb kB):=cell_on hb4 (HX3.out.cell 2 _ rfl)
 obtain ⟨k2,hk2,hlb2,hwt2⟩:=largeBody hm hs hc4
 have HNK2:=hideR (NR_on 81 d2 _ k2 b hk2 (At.on HB4.out d2 _ _ HBb.out) HN2.out)
 have HKA4:=hideR (At.on HB24.out 81 _ _ HKA.out)
 have HKB4:=hideR hk2
 have HLB:=hideR hlb2
 have HWB:=hideR hwt2
 clear hb4 HL3 hm hs hc4 hk2 hlb2 hwt2 HX3 HBb HN2 HB3 HB24 HKA HI2 HB2 HB
 have HJ:=hideR (join_says HNK.out HNK2.out HWA.out HWB.out)
 have hA1:=bodA_small HNK.out (by have:=HWA.out;omega)
 have hA2:=bodA_small HNK2.out (by have:=HWB.out;omega)
 have hA3:=bodA_small (NR_app HNK.out HNK2.out) (wt_app k k2 HWA.out HWB.out)
 obtain ⟨S1,hS1⟩:∃S1,S1=sA k:=⟨_,rfl⟩
 obtain ⟨S2,hS2⟩:∃S2,S2=sA k2:=⟨_,rfl⟩
 obtain ⟨S3,hS3⟩:∃S3,S3=sA (jn k k2):=⟨_,rfl⟩
 obtain ⟨E1,hE1⟩:∃E1,E1=chk (bodyM k):=⟨_,rfl⟩
 obtain ⟨E2,hE2⟩:∃E2,E2=chk (bodyM k2):=⟨_,rfl⟩
 obtain ⟨E3,hE3⟩:∃E3,E3=chk (bodyM (jn k k2)):=⟨_,rfl⟩
 rw [<- hS1,<- hE1] at hA1
 rw [<- hS2,<- hE2] at hA2
 rw [<- hS3,<- hE3] at hA3
 rw [<- hS1,<- hS2,<- hS3,<- hE1,<- hE2,<- hE3] at HJ
 have HA1:=hideR hA1
 have HA2:=hideR hA2
 have HA3:=hideR hA3
 clear hA1 hA2 hA3 hS1 hS2 hS3 hE1 hE2 hE3
 have HC:=hideR (refCopiesC 81 _ k u4 HKA4.out HLA.out)
 go_wp2_with fail
 refine HC.out.mono ?_
 rintro e u5 ⟨v5,rfl,h5,hb5⟩
 have HB5:=hideR (HB4.out.trans (hb5.mono HB4.out.size))
 have HKA5:=hideR (At.on hb5 81 _ _ HKA4.out)
 have HKB5:=hideR (At.on hb5 81 _ _ HKB4.out)
 have hA5:At u5 81 v5 k:=AtS.at 81 _ _ h5
 have HC2:=hideR (pBody C 81 v5 k u5 (C.keep HB5.out HI.out) hA5 (by decide) (fun h=>bodyRg HNK.out h))
 rw [HA1.out] at HC2
 obtain ⟨o5,k5,rfl⟩:=At.len 81 _ _ hA5
 clear HC h5 hb5 hA5 HKA4 HKB4 HI4
 generalize size 81 k=n5 at *
 go_wp2_with fail
 refine HC2.out.mono ?_
 rintro e u6 ⟨rfl,hb6⟩
 have HB6:=hideR (HB5.out.trans (hb6.mono HB5.out.size))
 have HKA6:=hideR (At.on hb6 81 _ _ HKA5.out)
 have HKB6:=hideR (At.on hb6 81 _ _ HKB5.out)
 clear HC2 hb6 HKA5 HKB5 HB4 HA1
 have HC:=hideR (refCopiesC 81 _ k2 u6 HKB6.out HLB.out)
 go_wp2_with fail
 refine HC.out.mono ?_
 rintro e u7 ⟨v7,rfl,h7,hb7⟩
 have HB7:=hideR (HB6.out.trans (hb7.mono HB6.out.size))
 have HKA7:=hideR (At.on hb7 81 _ _ HKA6.out)
 have HKB7:=hideR (At.on hb7 81 _ _ HKB6.out)
 have hA7:At u7 81 v7 k2:=AtS.at 81 _ _ h7
 have HC2:=hideR (pBody C 81 v7 k2 u7 (C.keep HB7.out HI.out) hA7 (by decide) (fun h=>bodyRg HNK2.out h))
 rw [HA2.out] at HC2
 obtain ⟨o7,k7,rfl⟩:=At.len 81 _ _ hA7
 clear HC h7 hb7 hA7 HKA6 HKB6
 generalize size 81 k2=n7 at *
 go_wp2_with fail
 refine HC2.out.mono ?_
 rintro e u8 ⟨rfl,hb8⟩
 have HB8:=hideR (HB7.out.trans (hb8.mono HB7.out.size))
 have HKA8:=hideR (At.on hb8 81 _ _ HKA7.out)
 have HKB8:=hideR (At.on hb8 81 _ _ HKB7.out)
 clear HC2 hb8 HKA7 HKB7 HB5 HB6 HB7 HA2
 have HC:=hideR (refCopiesO 80 _ k u8 HKA8.out HLA.out)
 go_wp2_with fail
 refine HC.out.mono ?_
 rintro e u9 ⟨v9,p9,rfl,m9,o9,q9,hb9⟩
 have HB9:=hideR (HB8.out.trans (hb9.mono HB8.out.size))
 have HKB9:=hideR (At.on hb9 81 _ _ HKB8.out)
 have HC2:=hideR (refCopiesO 80 _ k2 u9 HKB9.out HLB.out)
 have HM9:=hideR m9
 have HO9:=hideR o9
 have HQ9:=hideR q9
 have HS9:=hideR hb9.size
 have hl9:(show List (Ins (IL 80)) from k).length<=1500:=HLA.out.1
 have hl10:(show List (Ins (IL 80)) from k2).length<=1500:=HLB.out.1
 obtain ⟨w9o,w9c,rfl⟩:=own_slice o9
 clear HC m9 o9 q9 hb9 HKA8 HKB8
 generalize hn9:(show List (Ins (IL 80)) from k).length=n9 at *
 generalize hn10:(show List (Ins (IL 80)) from k2).length=n10 at *
 go_wp2_with fail
 refine HC2.out.mono ?_
 rintro e u10 ⟨v10,p10,rfl,m10,o10,q10,hb10⟩
 have HB10:=hideR (HB9.out.trans (hb10.mono HB9.out.size))
 have HO10:=hideR (own_on HO9.out hb10)
 have HM10:=hideR m10
 have HQ10:=hideR q10
 have HBB:=hideR hb10
 rw [hn10] at o10
 obtain ⟨x10,c10,rfl⟩:=own_slice o10
 have HNN:=hideR (own_cells o10).1
 have HCC:=hideR (own_cells o10).2
 have HON:=hideR (pc_one q10)
 have HSZ:Hid (u8.heap.size<=u10.heap.size):=hideR (Nat.le_trans HS9.out hb10.size)
 have HP10:Hid (p10.length=n10):=hideR (by rw [<- hn10,<- m10,List.length_map])
 clear HC2 m10 o10 q10 hb10
 obtain ⟨i1,hi1,hy0,hy1,hy2⟩:=info_parts insInfo
 go_wp2_with (first|(at_builtin;refine wpList_appS rfl _ _ 40 rfl u8.heap.size 50 i1 _ 7 104 Tryd.underlying40 hi1 hy0 hy1 hy2 rfl (by decide) _ _ _ rfl HO10.out x10 n10 c10 (flat7 p10) rfl HNN.out ?c0 HCC.out HON.out ?c3 ?c4 ?c5 ?_))
 case c0=>rw [flat7_len,HP10.out]
 case c3=>unfold maxLen;omega
 case c4=>omega
 case c5=>exact HSZ.out
 intro v11 u11 hown11 hg11 hv11
 have HB11:Hid (Below w.heap.size w u11):=hideR (HB10.out.grown hg11 (HB10.out.size) fun k hk=>Nat.le_trans HB8.out.size (HO10.out.lt k hk).1)
 have hA11:At u11 81 v11 (jn k k2):=at_two (w0:=u8) (show List (Ins (IL 80)) from k) (show List (Ins (IL 80)) from k2) p9 p10 HM9.out HM10.out (by rw [hn9];exact hl9) (by rw [hn10];exact hl10) (by rw [hn9];exact HO9.out) HQ9.out HBB.out HS9.out HQ10.out (by rw [hn9,hn10];exact hown11) hg11 hv11
 have HC3:=hideR (pBody C 81 v11 (jn k k2) u11 (C.keep HB11.out HI.out) hA11 (by decide) (fun h=>bodyRg (NR_app HNK.out HNK2.out) h))
 rw [HA3.out] at HC3
 obtain ⟨o11,k11,rfl⟩:=At.len 81 _ _ hA11
 clear hown11 hg11 hv11 hA11 HO10 HNN HCC HON HBB HM9 HM10 HQ9 HQ10 HO9 HSZ HP10 HS9 HKB9
 generalize size 81 (jn k k2)=n11 at *
 go_wp2_with fail
 refine HC3.out.mono ?_
 rintro e u12 ⟨rfl,hb12⟩
 have HB12:=hideR (HB11.out.trans (hb12.mono HB11.out.size))
 have HI12:=hideR (C.keep HB12.out HI.out)
 have HW:=hideR (pWake C u12 HI12.out)
 clear HC3 hb12 HA3 HNK HNK2 HLA HLB HWA HWB HB8 HB9 HB10 HB11 hl9 hl10 hn9 hn10 hi1 hy0 hy1 hy2
 by_cases h0:E1=0/\E2=0
 ·obtain ⟨rfl,rfl⟩:=h0
  obtain ⟨rfl,hpos,hle,hcat,rfl⟩:=HJ.out.1 rfl rfl
  clear HJ
  have ht:(((S1.size:Int)-1).toNat)=S1.size-1:=by omega
  go_wp2_with fail
  refine HW.out.mono ?_
  rintro e u13 ⟨rfl,hb13⟩
  have HB13:=hideR (HB12.out.trans (hb13.mono HB12.out.size))
  go_wp2
  go_ret
  exact ⟨rfl,HB13.out⟩
 ·obtain ⟨h3,rfl⟩:=HJ.out.2 (by omega)
  have b3:(E3 == 0)=false:=by rw [beq_eq_false_iff_ne];exact h3
  have b3':(E3 != 0)=true:=by simp [h3]
  by_cases h1:E1=0
  ·subst h1
   have h2:¬ E2=0:=fun e=>h0 ⟨rfl,e⟩
   have b2:(E2 != 0)=true:=by simp [h2]
   clear HJ h0
   go_wp2_with fail
   refine HW.out.mono ?_
   rintro e u13 ⟨rfl,hb13⟩
   have HB13:=hideR (HB12.out.trans (hb13.mono HB12.out.size))
   go_wp2
   go_ret
   exact ⟨rfl,HB13.out⟩
  ·have b1:(E1 != 0)=true:=by simp [h1]
   clear HJ h0
   go_wp2_with fail
   refine HW.out.mono ?_
   rintro e u13 ⟨rfl,hb13⟩
   have HB13:=hideR (HB12.out.trans (hb13.mono HB12.out.size))
   go_wp2
   go_ret
   exact ⟨rfl,HB13.out⟩
end Go.Proofs.YtlcpagiljfpbpaaDoor


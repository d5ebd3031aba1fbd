/- Texts that the claim needs. -/
import Derived.Test.YtegboefdolfdgaaGreatDoorQDM1
import Derived.Test.YtegboefdolfdgaaGreatDoorQDM0
import Derived.Deep.RegionWith
namespace Go.Proofs.YtegboefdolfdgaaGreatDoor
open Go.RowKit
set_option maxHeartbeats 2000000
theorem TI {a b:Int} {p p' q q':Bool} (h:a=b) (h':p=p') (h'':q=q'):Ending.returned (.tuple #[.int .u8 a,.bool p,.bool q])=.returned (.tuple #[.int .u8 b,.bool p',.bool q']):=by rw [h,h',h'']
theorem LD (ba bs:Nat) (t:ByteArray) (w:World) (hs:w.cell? ⟨bs,0,none⟩=some (.string t)) (ha:w.cell? ⟨ba,0,none⟩=some (.int .i64 t.size)) :
  Calls Tryz.prog 107 #[.pointer (some ⟨ba,0,none⟩),.pointer (some ⟨bs,0,none⟩)] w fun e w'=>e=.returned (.tuple #[.int .u8 0,.bool false,.bool false])/\w'=w:=by
 go_enter Tryz.func107,Tryz.ntmps107;go_wp2;go_ret3;exact ⟨rfl,rfl⟩
theorem Fv (ba bs k:Nat) (t:ByteArray) (q:Bool) (w:World) (hlen:t.size<=140737488351232) (hs:w.cell? ⟨bs,0,none⟩=some (.string t)) (ha:w.cell? ⟨ba,0,none⟩=some (.int .i64 k)) (hf:w.frozen? ⟨ba,0,none⟩=false) (hk:k<t.size)
  (hq:decide (ae.bt t k<128)=q) :
  Calls Tryz.prog 107 #[.pointer (some ⟨ba,0,none⟩),.pointer (some ⟨bs,0,none⟩)] w fun e w' =>
   e=.returned (.tuple #[.int .u8 (ae.bt t k%128),.bool q,.bool true])/\w'=w.setCell ⟨ba,0,none⟩ (.int .i64 ((k:Int)+1)):=by
 have hg:=ae.get_bt t;have hbd:=ae.lQ t k;have hmk:=ae.BN _ hbd.1 hbd.2;have hne:((k:Int) == (t.size:Int))=false:=by simp;omega
 have HQ:=fV hq;clear hq;go_enter Tryz.func107,Tryz.ntmps107;go_wp2;go_ret3;exact ⟨TI rfl (bI HQ) rfl,rfl⟩
theorem GX (s:ByteArray) (a bits:Int) (w:World) (di:ae.asks s.size a bits=false) :
  Calls Tryz.prog 84 #[.string s,.int .i64 a,.int .i64 bits] w fun e w' =>
   e=.returned (.tuple #[.agg #[.int .u64 0,.int .i64 0,.int .u8 0],.int .i64 1])/\Below w.heap.size w w':=by
 have hno:=ae.Pk di;clear di
 have lN:((bits != 32)=true/\(bits != 64)=true)\/(((bits != 32)=false\/((bits != 32)=true/\(bits != 64)=false))/\(a<0\/(0<=a/\(s.size:Int)<a))):=by
  simp only [bne_iff_ne,bne_eq_false_iff_eq];omega
 clear hno;rcases lN with ⟨h1,h2⟩|⟨h1|⟨h1,h2⟩,h3|⟨h3,h4⟩⟩
 all_goals
  go_enter Tryz.func84,Tryz.ntmps84;go_wp2;exact bodyPost_ret (v:=.tuple #[.agg #[.int .u64 0,.int .i64 0,.int .u8 0],.int .i64 1]) (by simp [results,Tryz.results84,go_sem]) rfl ⟨rfl,by first|exact ((Below.refl _ _).alloc (Nat.le_refl _) _)⟩
theorem Ch (t:ByteArray) (w:World) :
  Calls Tryz.prog 97 #[.string t] w fun e w' =>
   e=.returned (.func (.func 107) #[] #[.pointer (some ⟨w.heap.size+1,0,none⟩),.pointer (some ⟨w.heap.size,0,none⟩)])/\w'=(w.alloc (.cells #[.string t] 9)).alloc (.cells #[.int .i64 0] 3):=by
 go_enter Tryz.func97,Tryz.ntmps97;go_wp2;go_ret;exact ⟨rfl,rfl⟩
theorem P8 (s:ByteArray) (a i:Nat) (ha:a<=s.size):ae.bt (s.extract a s.size) i=ae.from_ s a i:=by
 unfold ae.from_ ae.bt;have hsz:(s.extract a s.size).size=s.size-a:=by simp [ByteArray.size_extract]
 by_cases h:a+i<s.size
 ·rw [dif_pos (by omega),dif_pos h];simp [ByteArray.getElem_extract]
 ·rw [dif_neg (by omega),dif_neg h]
theorem Ly (f:Nat->Int) (k:Nat) (hk:k<=9):Go.bits .or .u64 (ae.val f k) (IntKind.u64.wrap (f k%128*2 ^ (7*k)))=ae.bO (ae.val f (k+1)):=by
 have hv:=ae.qA f k;have hg:0<=f k%128/\f k%128<=127:=by omega
 have hkk:k=0\/k=1\/k=2\/k=3\/k=4\/k=5\/k=6\/k=7\/k=8\/k=9:=by omega
 have e:ae.val f (k+1)=ae.val f k+128 ^ k*(f k%128):=rfl;rw [e,IntKind.wrap_u64];unfold ae.bO;generalize ae.val f k=v at *;generalize f k%128=g at *;clear e;rcases hkk with rfl|rfl|rfl|rfl|rfl|rfl|rfl|rfl|rfl|rfl
 all_goals
  simp only [Int.reducePow,Nat.reduceMul,Int.mul_one,Int.one_mul] at hv ⊢
 ·rw [ae.jJ 0 _ _ (by omega) (by omega) (by simp only [Int.reducePow];omega) (by omega) (by simp only [Int.reducePow];omega) (by omega)];omega
 ·rw [ae.jJ 7 _ _ (by omega) (by omega) (by simp only [Int.reducePow];omega) (by omega) (by simp only [Int.reducePow];omega) (by omega)];omega
 ·rw [ae.jJ 14 _ _ (by omega) (by omega) (by simp only [Int.reducePow];omega) (by omega) (by simp only [Int.reducePow];omega) (by omega)];omega
 ·rw [ae.jJ 21 _ _ (by omega) (by omega) (by simp only [Int.reducePow];omega) (by omega) (by simp only [Int.reducePow];omega) (by omega)];omega
 ·rw [ae.jJ 28 _ _ (by omega) (by omega) (by simp only [Int.reducePow];omega) (by omega) (by simp only [Int.reducePow];omega) (by omega)];omega
 ·rw [ae.jJ 35 _ _ (by omega) (by omega) (by simp only [Int.reducePow];omega) (by omega) (by simp only [Int.reducePow];omega) (by omega)];omega
 ·rw [ae.jJ 42 _ _ (by omega) (by omega) (by simp only [Int.reducePow];omega) (by omega) (by simp only [Int.reducePow];omega) (by omega)];omega
 ·rw [ae.jJ 49 _ _ (by omega) (by omega) (by simp only [Int.reducePow];omega) (by omega) (by simp only [Int.reducePow];omega) (by omega)];omega
 ·rw [ae.jJ 56 _ _ (by omega) (by omega) (by simp only [Int.reducePow];omega) (by omega) (by simp only [Int.reducePow];omega) (by omega)];omega
 ·rw [ae.jJ 63 _ _ (by omega) (by omega) (by simp only [Int.reducePow];omega) (by omega) (by simp only [Int.reducePow];omega) (by omega)];omega
structure lf (B:Nat) (w wr:World) (t:ByteArray) (k:Nat) (l:Int):Prop where
 out:wr.heap[B]?=some (.cells #[.int .u64 0,.int .i64 0,.int .u8 0] 120 (0,0))
 str:wr.heap[B+1]?=some (.cells #[.string t] 9 (0,0))
 pos:wr.heap[B+1+1]?=some (.cells #[.int .i64 k] 3 (0,0))
 rd:wr.heap[B+1+1+1]?=some (.cells #[.int .u64 l,.int .i64 k,.int .u8 0] 120 (0,0))
 iy:Below B w wr
theorem xc {w:World} {b j:Nat} {u:Value} {cs:Array Value} {t:TypeId} (h:w.heap[b]?=some (.cells cs t (0,0))):(w.setCell ⟨b,j,none⟩ u).heap[b]?=some (.cells (cs.setIfInBounds j u) t (0,0)):=by
 simp [World.setCell,Array.getElem?_modify,h]
theorem kF {w:World} {b c j:Nat} {u:Value} {x:Obj} (h:w.heap[c]?=some x) (hne:c≠b):(w.setCell ⟨b,j,none⟩ u).heap[c]?=some x:=by
 rw [Below.heap_setCell _ _ _ _ hne];exact h
theorem lf.draws {B:Nat} {w wr:World} {t:ByteArray} {k:Nat} {l:Int} (h:lf B w wr t k l) (n:Nat):lf B w (wr.drewN n) t k l :=
 ⟨h.out,h.str,h.pos,h.rd,⟨h.iy.os,h.iy.tape,h.iy.output,h.iy.size,h.iy.block⟩⟩
theorem lf.next {B:Nat} {w wr:World} {t:ByteArray} {k:Nat} {l:Int} (h:lf B w wr t k l) (l':Int) :
  lf B w (((wr.setCell ⟨B+1+1,0,none⟩ (.int .i64 ((k:Int)+1))).setCell ⟨B+1+1+1,0,none⟩ (.int .u64 l')).setCell ⟨B+1+1+1,1,none⟩ (.int .i64 ((k:Int)+1))) t (k+1) l' :=
 ⟨kF (kF (kF h.out (by omega)) (by omega)) (by omega),kF (kF (kF h.str (by omega)) (by omega)) (by omega),kF (kF (xc h.pos) (by omega)) (by omega),
  xc (xc (kF h.rd (by omega))),((h.iy.setCell (by show B<=B+1+1;omega) _).setCell (by show B<=B+1+1+1;omega) _).setCell (by show B<=B+1+1+1;omega) _⟩
theorem cell_of {w:World} {b j:Nat} {cs:Array Value} {t:TypeId} (h:w.heap[b]?=some (.cells cs t (0,0))):w.cell? ⟨b,j,none⟩=cs[j]?:=by simp [World.cell?,h]
theorem nH {w:World} {b j:Nat} {cs:Array Value} {t:TypeId} (h:w.heap[b]?=some (.cells cs t (0,0))):w.frozen? ⟨b,j,none⟩=false:=by simp [World.frozen?,h]
structure xK (B:Nat) (w wr:World) (t:ByteArray) (k:Nat) (l:Int):Prop where
 out:wr.heap[B]?=some (.cells #[.int .u64 0,.int .i64 0,.int .u8 0] 120 (0,0))
 str:wr.heap[B+1]?=some (.cells #[.string t] 9 (0,0))
 pos:wr.heap[B+1+1]?=some (.cells #[.int .i64 ((k:Int)+1)] 3 (0,0))
 rd:wr.heap[B+1+1+1]?=some (.cells #[.int .u64 l,.int .i64 k,.int .u8 0] 120 (0,0))
 iy:Below B w wr
theorem lf.mid {B:Nat} {w wr:World} {t:ByteArray} {k:Nat} {l:Int} (h:lf B w wr t k l) (l':Int) (n:Nat) :
  xK B w (((wr.drewN n).setCell ⟨B+1+1,0,none⟩ (.int .i64 ((k:Int)+1))).setCell ⟨B+1+1+1,0,none⟩ (.int .u64 l')).drew t k l' :=
 ⟨kF (kF h.out (by omega)) (by omega),kF (kF h.str (by omega)) (by omega),kF (xc h.pos) (by omega),
  xc (kF h.rd (by omega)),Below.drew (((h.draws n).iy.setCell (by show B<=B+1+1;omega) _).setCell (by show B<=B+1+1+1;omega) _)⟩
theorem xK.next {B:Nat} {w wr:World} {t:ByteArray} {k:Nat} {l:Int} (h:xK B w wr t k l):lf B w (wr.setCell ⟨B+1+1+1,1,none⟩ (.int .i64 ((k:Int)+1))) t (k+1) l :=
 ⟨kF h.out (by omega),kF h.str (by omega),kF h.pos (by omega),xc h.rd,h.iy.setCell (by show B<=B+1+1+1;omega) _⟩
def sS (f:Nat->Int) (k:Nat):Value :=
 if k=0 then .tuple #[.agg #[.int .u64 0,.int .i64 0,.int .u8 0],.int .i64 10] else .tuple #[.agg #[.int .u64 (ae.bO (ae.val f k)),.int .i64 k,.int .u8 (f (k-1))],.int .i64 0]
theorem AV {f:Nat->Int} {k:Nat} (h:k=0):sS f k=.tuple #[.agg #[.int .u64 0,.int .i64 0,.int .u8 0],.int .i64 10]:=by unfold sS;rw [if_pos h]
theorem LA {f:Nat->Int} {k n:Nat} (h:k=n+1) (hf:0<=f n/\f n<128):sS f k=.tuple #[.agg #[.int .u64 (ae.bO (ae.val f (n+1))),.int .i64 ((n:Int)+1),.int .u8 (f n%128)],.int .i64 0]:=by
 subst h;unfold sS;rw [if_neg (by omega),Nat.add_sub_cancel,show f n%128=f n by omega];rfl
theorem qx {w:World} {o x:Obj} {b:Nat} (h:w.heap[b]?=some x):(w.alloc o).heap[b]?=some x:=by
 rw [Below.heap_alloc _ _ _ (lt_of_block h)];exact h
theorem fB (w:World) (o:Obj) {b:Nat} (h:b=w.heap.size):(w.alloc o).heap[b]?=some o:=by
 subst h;show (w.heap.push o)[w.heap.size]?=_;simp
theorem lf.start (w:World) (t:ByteArray) :
  lf w.heap.size w ((((w.alloc (.cells #[.int .u64 0,.int .i64 0,.int .u8 0] 120)).alloc (.cells #[.string t] 9)).alloc (.cells #[.int .i64 0] 3)).alloc (.cells #[.int .u64 0,.int .i64 0,.int .u8 0] 120)) t 0 (ae.bO (ae.val (ae.bt t) 0)) :=
 ⟨qx (qx (qx (fB _ _ rfl))),qx (qx (fB _ _ (by simp))),qx (fB _ _ (by simp)),fB _ _ (by simp),
  ((((Below.refl _ _).alloc (Nat.le_refl _) _).alloc (by simp) _).alloc (by simp;omega) _).alloc (by simp;omega) _⟩
theorem lf.lower {B:Nat} {w wr wr':World} {t:ByteArray} {k:Nat} {l l':Int} (h:lf B w wr t k l) (h':lf B w wr' t (k+1) l') (hk:k<10) :
  10-(RowKit.intOf ((wr'.cell? ⟨B+1+1,0,none⟩).getD (.int .i64 0))).toNat<10-(RowKit.intOf ((wr.cell? ⟨B+1+1,0,none⟩).getD (.int .i64 0))).toNat:=by
 rw [cell_of h.pos,cell_of h'.pos];simp [RowKit.intOf];omega
theorem oM {B b j:Nat} {w wr:World} {u:Value} (h:Below B w wr) (hb:B<=b):Below B w (wr.setCell ⟨b,j,none⟩ u):=h.setCell hb u
theorem Cq {a b:Value} (h:b=a):Ending.returned a=.returned b:=by rw [h]
theorem c21 (s t:ByteArray) (a:Nat) (bits:Int) (w:World) (hs:s.size<=140737488351232) (ha:a<=s.size) (hb:bits=32\/bits=64) (ht:s.extract a s.size=t) :
  Calls Tryz.prog 84 #[.string s,.int .i64 a,.int .i64 bits] w fun e w' =>
   e=.returned (sS (ae.bt t) (ae.dX (ae.bt t) t.size (ae.most bits)))/\Below w.heap.size w w':=by
 have lN:((bits != 32)=false)\/((bits != 32)=true/\(bits != 64)=false):=by
  simp only [bne_iff_ne,bne_eq_false_iff_eq];omega
 have ha0:decide ((a:Int)<0)=false:=decide_eq_false (by omega);have ha1:decide ((s.size:Int)<(a:Int))=false:=decide_eq_false (by omega);have ha2:decide (s.size<a)=false:=decide_eq_false (by omega);have Vu:ae.most bits<=10:=by rcases hb with rfl|rfl<;>decide
 have HB:=fV hb;have Vv:t.size<=140737488351232:=by rw [<- ht];simp [ByteArray.size_extract];omega
 clear hb;rcases lN with h1|⟨h1,h2⟩
 all_goals
  go_enter Tryz.func84,Tryz.ntmps84;go_wp2_with fail;refine (Ch _ _).mono ?_;rintro e w1 ⟨rfl,rfl⟩;go_wp2;clear ht;go_loopw [10] (fun _ wr=>∃k:Nat,k<=ae.most bits/\k<=t.size/\lf w.heap.size w wr t k (ae.bO (ae.val (ae.bt t) k))/\ae.dX (ae.bt t) t.size (ae.most bits)=ae.iM (ae.bt t) t.size (ae.most bits-k) k) (fun _ wr=>10-(RowKit.intOf ((wr.cell? ⟨w.heap.size+1+1,0,none⟩).getD (.int .i64 0))).toNat)
  case atStart=>exact ⟨0,Nat.zero_le _,Nat.zero_le _,lf.start w t,rfl⟩
  case round =>
   obtain ⟨k,hk1,hk2,hinv,Fs⟩:=hrel;have HI:=fV hinv;have HG:=fV Fs;have AU:wr.cell? ⟨w.heap.size+1+1+1,1,none⟩=some (.int .i64 k):=cell_of hinv.rd;have hcs:wr.cell? ⟨w.heap.size+1,0,none⟩=some (.string t):=cell_of hinv.str;have hcp:wr.cell? ⟨w.heap.size+1+1,0,none⟩=some (.int .i64 k):=cell_of hinv.pos;have hfp:wr.frozen? ⟨w.heap.size+1+1,0,none⟩=false:=nH hinv.pos;have Ci:wr.cell? ⟨w.heap.size,0,none⟩=some (.int .u64 0):=cell_of hinv.out;have Cj:wr.cell? ⟨w.heap.size,1,none⟩=some (.int .i64 0):=cell_of hinv.out;have Ck:wr.cell? ⟨w.heap.size,2,none⟩=some (.int .u8 0):=cell_of hinv.out;have Cm:wr.frozen? ⟨w.heap.size,0,none⟩=false:=nH hinv.out;have Cn:wr.frozen? ⟨w.heap.size,1,none⟩=false:=nH hinv.out;have Co:wr.frozen? ⟨w.heap.size,2,none⟩=false:=nH hinv.out;clear hinv Fs;by_cases Vw:k<ae.most bits
   ·by_cases hkt:k<t.size
    ·have hbd:=ae.lQ t k;have aN:=ae.qR (ae.bt t) k (by omega);have hst:=Ly (ae.bt t) k (by omega)
     have hlow:wr.cell? ⟨w.heap.size+1+1+1,0,none⟩=some (.int .u64 (ae.val (ae.bt t) k)):=by
      rw [<- ae.uH aN.1 (by omega)];exact cell_of (bI HI).rd
     have Ft:wr.frozen? ⟨w.heap.size+1+1+1,0,none⟩=false:=nH (bI HI).rd;by_cases hl:ae.bt t k<128
     ·have HF:=fV (LA ((bI HG).trans (ae.Fu _ _ _ _ (by omega) hkt hl)) ⟨hbd.1,hl⟩);clear Ci Cj Ck Cm Cn Co HG;go_wp2_with fail;go_quiet ((go_at_call 98;exact Calls.quiet_of_same (vX _ _ (bI HB))));go_wp2_with fail;refine (Fv _ _ k t true _ (by omega) (by exact hcs) (by exact hcp) (by exact hfp) hkt (decide_eq_true hl)).mono ?_;rintro e w2 ⟨rfl,rfl⟩;go_wp2_with fail;go_region;generalize aX:World.drew (World.setCell _ _ _)=W2;have hmid:xK w.heap.size w W2 t k (ae.bO (ae.val (ae.bt t) (k+1))):=by rw [<- aX,<- hst];exact (bI HI).mid _ _
      clear aX hlow AU hcs hcp hfp Ft HI hst;have AU:W2.cell? ⟨w.heap.size+1+1+1,1,none⟩=some (.int .i64 k):=cell_of hmid.rd;have Vx:W2.cell? ⟨w.heap.size+1+1+1,0,none⟩=some (.int .u64 (ae.bO (ae.val (ae.bt t) (k+1)))):=cell_of hmid.rd;have Vy:W2.cell? ⟨w.heap.size+1+1+1,2,none⟩=some (.int .u8 0):=cell_of hmid.rd;have LB:W2.frozen? ⟨w.heap.size+1+1+1,1,none⟩=false:=nH hmid.rd;have Vz:W2.frozen? ⟨w.heap.size+1+1+1,2,none⟩=false:=nH hmid.rd;have Cm:W2.frozen? ⟨w.heap.size,0,none⟩=false:=nH hmid.out;have Cn:W2.frozen? ⟨w.heap.size,1,none⟩=false:=nH hmid.out;have Co:W2.frozen? ⟨w.heap.size,2,none⟩=false:=nH hmid.out;have Ci:W2.cell? ⟨w.heap.size,0,none⟩=some (.int .u64 0):=cell_of hmid.out;have Cj:W2.cell? ⟨w.heap.size,1,none⟩=some (.int .i64 0):=cell_of hmid.out;have Ck:W2.cell? ⟨w.heap.size,2,none⟩=some (.int .u8 0):=cell_of hmid.out;have HM:=fV hmid;clear hmid;go_wp2
      exact bodyPost_ret (v:=.tuple #[.agg #[.int .u64 (ae.bO (ae.val (ae.bt t) (k+1))),.int .i64 ((k:Int)+1),.int .u8 (ae.bt t k%128)],.int .i64 0]) (by simp [results,Tryz.results84,go_sem, *]) rfl
       ⟨Cq (bI HF),oM (oM (oM (oM (oM (bI HM).iy (by omega)) (by omega)) (Nat.le_refl _)) (Nat.le_refl _)) (Nat.le_refl _)⟩
     ·have HF:Hid (ae.dX (ae.bt t) t.size (ae.most bits)=ae.iM (ae.bt t) t.size (ae.most bits-(k+1)) (k+1)):=(bI HG).trans (ae.Fw _ _ _ _ (by omega) hkt hl);clear Ci Cj Ck Cm Cn Co HG;go_wp2_with fail;go_quiet ((go_at_call 98;exact Calls.quiet_of_same (vX _ _ (bI HB))));go_wp2_with fail;refine (Fv _ _ k t false _ (by omega) (by exact hcs) (by exact hcp) (by exact hfp) hkt (decide_eq_false (by omega))).mono ?_;rintro e w2 ⟨rfl,rfl⟩;go_wp2_with fail;go_region;generalize aX:World.drew (World.setCell _ _ _)=W2;have hmid:xK w.heap.size w W2 t k (ae.bO (ae.val (ae.bt t) (k+1))):=by rw [<- aX,<- hst];exact (bI HI).mid _ _
      clear aX hlow AU hcs hcp hfp Ft hst;have AU:W2.cell? ⟨w.heap.size+1+1+1,1,none⟩=some (.int .i64 k):=cell_of hmid.rd;have LB:W2.frozen? ⟨w.heap.size+1+1+1,1,none⟩=false:=nH hmid.rd;have HM:=fV hmid;clear hmid;go_wp2;go_roundw
      case rel=>exact ⟨k+1,by omega,by omega,(bI HM).next,bI HF⟩
      case measure=>exact (bI HI).lower (bI HM).next (by omega)
    ·have LC:k=t.size:=by omega
     subst LC;have HF:=fV (AV (f:=ae.bt t) ((bI HG).trans (ae.Fx _ _ _ _ (by omega))));have HM:=fV ((bI HI).iy);clear HG;go_wp2_with fail;go_quiet ((go_at_call 98;exact Calls.quiet_of_same (vX _ _ (bI HB))));go_wp2_with fail;refine (LD _ _ t _ (by exact hcs) (by exact hcp)).mono ?_;rintro e w2 ⟨rfl,rfl⟩;go_wp2
     exact bodyPost_ret (v:=.tuple #[.agg #[.int .u64 0,.int .i64 0,.int .u8 0],.int .i64 10]) (by simp [results,Tryz.results84,go_sem, *]) rfl
      ⟨Cq (bI HF),oM (oM (oM (below_drewN (bI HM) _) (Nat.le_refl _)) (Nat.le_refl _)) (Nat.le_refl _)⟩
   ·have HF:=fV (AV (f:=ae.bt t) ((bI HG).trans (by rw [show ae.most bits-k=0 by omega];rfl)));have HM:=fV ((bI HI).iy);clear HG;go_wp2_with fail;go_quiet ((go_at_call 98;exact Calls.quiet_of_same (vX _ _ (bI HB))));go_wp2
    exact bodyPost_ret (v:=.tuple #[.agg #[.int .u64 0,.int .i64 0,.int .u8 0],.int .i64 10]) (by simp [results,Tryz.results84,go_sem, *]) rfl
     ⟨Cq (bI HF),oM (oM (oM (below_drewN (bI HM) _) (Nat.le_refl _)) (Nat.le_refl _)) (Nat.le_refl _)⟩
theorem GU {f:Nat->Int} {k:Nat} (h:k≠0):sS f k=.tuple #[.agg #[.int .u64 (ae.bO (ae.val f k)),.int .i64 k,.int .u8 (f (k-1))],.int .i64 0]:=by unfold sS;rw [if_neg h]
theorem P7 (s:ByteArray) (a:Nat) (ha:a<=s.size):ae.bt (s.extract a s.size)=ae.from_ s a:=funext fun i=>P8 s a i ha
theorem GV (s:ByteArray) (a:Nat) (bits:Int) (w:World) (hs:s.size<=140737488351232) (ha:a<=s.size) (hb:bits=32\/bits=64) :
  Calls Tryz.prog 84 #[.string s,.int .i64 a,.int .i64 bits] w fun e w' =>
   e=.returned (sS (ae.from_ s a) (ae.dX (ae.from_ s a) (s.size-a) (ae.most bits)))/\Below w.heap.size w w':=by
 have h:=c21 s _ a bits w hs ha hb rfl;rw [P7 s a ha,show (s.extract a s.size).size=s.size-a by simp [ByteArray.size_extract]] at h;exact h
theorem c14 (s:ByteArray) (a bits:Int) (w:World) (hs:s.size<=140737488351232) :
  Calls Tryz.prog 66 #[.string s,.int .i64 a,.int .i64 bits] w fun e w' =>
   e=.returned (.tuple #[.int .u64 (ae.fF s a bits).1,.int .i64 (ae.fF s a bits).2.1,.int .i64 (ae.fF s a bits).2.2])/\Below w.heap.size w w':=by
 by_cases di:ae.asks s.size a bits=true
 ·have hq:=ae.wH di;obtain ⟨gN,ha0,ha1⟩:=hq;obtain ⟨a,rfl⟩:=Int.eq_ofNat_of_zero_le ha0;have hread:ae.fF s a bits=ae.nR (ae.from_ s a) (ae.dX (ae.from_ s a) (s.size-a) (ae.most bits)) a bits:=by unfold ae.fF;rw [if_pos di,Int.toNat_natCast];rfl
  rw [hread];have ha:a<=s.size:=by omega
  have hks:=ae.wG (ae.from_ s a) (s.size-a) (ae.most bits);have hc:=GV s a bits w hs ha gN;clear hread ha0 ha1 di;generalize ae.dX (ae.from_ s a) (s.size-a) (ae.most bits)=k at *;by_cases hk0:k=0
  ·have hfin:ae.nR (ae.from_ s a) k a bits=(0,0,10):=by unfold ae.nR;rw [if_pos (.inl hk0)]
   rw [hfin];rw [AV hk0] at hc;have hC:=fV hc;clear hc hfin hks hk0;go_enter Tryz.func66,Tryz.ntmps66;go_wp2_with fail;refine (bI hC).mono ?_;rintro e w1 ⟨rfl,hbel⟩;go_wp2;go_ret3;exact ⟨rfl,hbel.alloc hbel.size _⟩
  ·rw [GU hk0] at hc;have hC:=fV hc;obtain ⟨k1,k2,k3,k4,k5⟩:=hks hk0;have hbd:=ae.vB s a (k-1);have hsum:(a:Int)+k<=s.size:=by omega
   have Bw:k<=10:=by rcases gN with rfl|rfl<;>exact Nat.le_trans k2 (by decide)
   generalize hR:ae.nR (ae.from_ s a) k a bits=R;have hl:=ae.Bt (ae.val (ae.from_ s a) k)
   have oz:(bits=32/\4294967295<ae.bO (ae.val (ae.from_ s a) k))\/(bits=64/\k=10/\1<ae.from_ s a (k-1))->R=(0,0,10):=by
    intro h;rw [<- hR];unfold ae.nR;rcases h with ⟨rfl,h⟩|⟨rfl,rfl,h⟩
    ·have hm:k<=5:=k2;have hv:=ae.qR (ae.from_ s a) k (by omega);rw [ae.uH hv.1 (by omega)] at h;rw [if_pos (.inr (.inl ⟨rfl,h⟩))]
    ·rw [if_pos (.inr (.inr ⟨rfl,h⟩))]
   have lD:¬ ((bits=32/\4294967295<ae.bO (ae.val (ae.from_ s a) k))\/(k=10/\1<ae.from_ s a (k-1)))->R=(ae.bO (ae.val (ae.from_ s a) k),(a:Int)+(k:Int),0):=by
    intro h;rw [<- hR];unfold ae.nR
    have hv:ae.bO (ae.val (ae.from_ s a) k)=ae.val (ae.from_ s a) k:=by
     by_cases h10:k=10
     ·subst h10;have h9:¬ 1<ae.from_ s a 9:=fun h'=>h (.inr ⟨rfl,h'⟩);have aN:=ae.GG (ae.from_ s a) hbd.1 (by omega);exact ae.uH (ae.qA _ _).1 aN
     ·have hv:=ae.qR (ae.from_ s a) k (by omega);exact ae.uH hv.1 (by omega)
    rw [hv] at h ⊢;rw [if_neg];rintro (h'|⟨h1,h2⟩|⟨rfl,h2⟩)
    ·exact hk0 h'
    ·exact h (.inl ⟨h1,h2⟩)
    ·exact h (.inr ⟨rfl,h2⟩)
   generalize ae.bO (ae.val (ae.from_ s a) k)=l at *;generalize ae.from_ s a (k-1)=d at *;have yw:bits=32->k<=5:=by rintro rfl;exact k2
   have lN:(bits=32/\4294967295<l/\Hid (R=(0,0,10)))\/(bits=32/\l<=4294967295/\((k:Int) == 10)=false/\Hid (R=(l,(a:Int)+(k:Int),0))) \/
     (bits=64/\((k:Int) == 10)=false/\Hid (R=(l,(a:Int)+(k:Int),0)))\/(bits=64/\k=10/\1<d/\Hid (R=(0,0,10)))\/(bits=64/\k=10/\d<=1/\Hid (R=(l,(a:Int)+(k:Int),0))):=by
    simp only [beq_eq_false_iff_ne];rcases gN with rfl|rfl
    ·have:=yw rfl
     by_cases h:4294967295<l
     ·exact .inl ⟨rfl,h,oz (by omega)⟩
     ·exact .inr (.inl ⟨rfl,by omega,by omega,lD (by omega)⟩)
    ·by_cases h:k=10
     ·by_cases h':1<d
      ·exact .inr (.inr (.inr (.inl ⟨rfl,h,h',oz (by omega)⟩)))
      ·exact .inr (.inr (.inr (.inr ⟨rfl,h,by omega,lD (by omega)⟩)))
     ·exact .inr (.inr (.inl ⟨rfl,by omega,lD (by omega)⟩))
   clear yw oz lD hks hc gN hR k2 k5;rcases lN with ⟨rfl,h1,HR⟩|⟨rfl,h1,h2,HR⟩|⟨rfl,h1,HR⟩|⟨rfl,rfl,h1,HR⟩|⟨rfl,rfl,h1,HR⟩
   all_goals
    go_enter Tryz.func66,Tryz.ntmps66;go_wp2_with fail;refine (bI hC).mono ?_;rintro e w1 ⟨rfl,hbel⟩;go_wp2
    try (go_quiet (fail);go_wp2)
    go_ret3;exact ⟨yx (by rw [bI HR]<;>rfl),by first|exact hbel.alloc hbel.size _|exact below_drewN (hbel.alloc hbel.size _) _⟩
 ·have rH:ae.asks s.size a bits=false:=by simpa using di
  have hread:ae.fF s a bits=(0,0,1):=by unfold ae.fF;rw [rH];rfl
  rw [hread];clear hread di;go_enter Tryz.func66,Tryz.ntmps66;go_wp2_with fail;refine (GX _ _ _ _ rH).mono ?_;rintro e w1 ⟨rfl,hbel⟩;go_wp2;go_ret3;exact ⟨rfl,hbel.alloc hbel.size _⟩
theorem Et (n:Int):wrap64 n=ae.gm n:=by unfold wrap64 ae.gm;rfl
theorem Tq (l:Int) (k:Nat) (hk:k<=9) (h0:0<=l) (h1:l<128 ^ k):wrap64 (bits .or .u64 l (IntKind.u64.wrap (18446744073709551615*2 ^ (7*k))))=l-128 ^ k:=by
 have hkk:k=0\/k=1\/k=2\/k=3\/k=4\/k=5\/k=6\/k=7\/k=8\/k=9:=by omega
 rw [IntKind.wrap_u64,Et];unfold ae.gm;rcases hkk with rfl|rfl|rfl|rfl|rfl|rfl|rfl|rfl|rfl|rfl
 all_goals
  simp only [Int.reducePow,Nat.reduceMul,Int.reduceMul,Int.reduceMod] at h1 ⊢
 ·rw [ae.jJ 0 _ _ (by omega) (by omega) (by simp only [Int.reducePow];omega) (by omega) (by simp only [Int.reducePow];omega) (by omega)];omega
 ·rw [ae.jJ 7 _ _ (by omega) (by omega) (by simp only [Int.reducePow];omega) (by omega) (by simp only [Int.reducePow];omega) (by omega)];omega
 ·rw [ae.jJ 14 _ _ (by omega) (by omega) (by simp only [Int.reducePow];omega) (by omega) (by simp only [Int.reducePow];omega) (by omega)];omega
 ·rw [ae.jJ 21 _ _ (by omega) (by omega) (by simp only [Int.reducePow];omega) (by omega) (by simp only [Int.reducePow];omega) (by omega)];omega
 ·rw [ae.jJ 28 _ _ (by omega) (by omega) (by simp only [Int.reducePow];omega) (by omega) (by simp only [Int.reducePow];omega) (by omega)];omega
 ·rw [ae.jJ 35 _ _ (by omega) (by omega) (by simp only [Int.reducePow];omega) (by omega) (by simp only [Int.reducePow];omega) (by omega)];omega
 ·rw [ae.jJ 42 _ _ (by omega) (by omega) (by simp only [Int.reducePow];omega) (by omega) (by simp only [Int.reducePow];omega) (by omega)];omega
 ·rw [ae.jJ 49 _ _ (by omega) (by omega) (by simp only [Int.reducePow];omega) (by omega) (by simp only [Int.reducePow];omega) (by omega)];omega
 ·rw [ae.jJ 56 _ _ (by omega) (by omega) (by simp only [Int.reducePow];omega) (by omega) (by simp only [Int.reducePow];omega) (by omega)];omega
 ·rw [ae.jJ 63 _ _ (by omega) (by omega) (by simp only [Int.reducePow];omega) (by omega) (by simp only [Int.reducePow];omega) (by omega)];omega
def jY (l d:Int) (k:Nat):Int:=if 64<=d/\k<10 then l-128 ^ k else ae.gm l
theorem Tt (l d:Int) (k:Nat) (h0:0<=l) (h1:k<10->l<128 ^ k):-9223372036854775808<=jY l d k/\jY l d k<=9223372036854775807:=by
 unfold jY;split
 ·rename_i h;have h2:=ae.Bs (show k<=9 by omega);have e:(128:Int) ^ 9=9223372036854775808:=by decide
  have h3:=ae.Gy k;have h4:=h1 h.2;omega
 ·exact ae.Bu l
theorem Tu (f:Nat->Int) (k:Nat) (hk:0<k) (hd:0<=f (k-1)/\f (k-1)<128) (h:k<=9\/(k=10/\(f 9=0\/f 9=127))):jY (ae.bO (ae.val f k)) (f (k-1)) k=ae.jE f k:=by
 have hv:=ae.qA f k;have hm:f (k-1)%128=f (k-1):=by omega
 unfold jY ae.jE;rw [hm];rcases h with h|⟨rfl,h⟩
 ·have h9:=ae.qR f k h;rw [ae.uH h9.1 (by omega)];by_cases hs:64<=f (k-1)
  ·rw [if_pos ⟨hs,by omega⟩,if_pos hs];omega
  ·rw [if_neg (by omega),if_neg hs,ae.Di (by omega) (by omega)];omega
 ·have h9:=ae.qR f 9 (by omega);have e:ae.val f 10=ae.val f 9+9223372036854775808*(f 9%128):=rfl;have e2:(128:Int) ^ 10=1180591620717411303424:=by decide
  rw [if_neg (by omega),e,e2];show ae.gm (ae.bO _)=_+_*(if 64<=f 9 then -1 else 0);unfold ae.gm ae.bO;rcases h with h|h<;>rw [h]<;>simp<;>omega
theorem Cz (l d:Int) (k:Nat) (w:World) (h0:0<=l) (_h1:l<=18446744073709551615) (hd0:0<=d) (hd1:d<128) (hk:k<=10) (hkl:k<10->l<128 ^ k) :
  Calls Tryz.prog 112 #[.agg #[.int .u64 l,.int .i64 k,.int .u8 d]] w fun e w'=>e=.returned (.int .i64 (jY l d k))/\Below w.heap.size w w':=by
 have h6:=ae.JV d hd0 (by omega);have H1:=fV hkl;clear hkl
 have lN:(64<=d/\decide ((k:Int)<10)=false/\Hid (jY l d k=wrap64 l))\/(d<64/\Hid (jY l d k=wrap64 l))\/(64<=d/\k<10/\Hid (jY l d k=wrap64 (bits .or .u64 l (IntKind.u64.wrap (18446744073709551615*2 ^ (7*k)))))):=by
  by_cases h:64<=d
  ·by_cases h':k<10
   ·exact .inr (.inr ⟨h,h',by unfold Hid jY;rw [if_pos ⟨h,h'⟩,Tq l k (by omega) h0 (bI H1 h')]⟩)
   ·exact .inl ⟨h,decide_eq_false (by omega),by unfold Hid jY;rw [if_neg (by omega),Et]⟩
  ·exact .inr (.inl ⟨by omega,by unfold Hid jY;rw [if_neg (by omega),Et]⟩)
 clear H1;generalize jY l d k=r at *;rcases lN with ⟨h2,h3,HR⟩|⟨h2,HR⟩|⟨h2,h3,HR⟩
 ·rw [if_pos (by omega)] at h6;go_enter Tryz.func112,Tryz.ntmps112;go_wp2;go_ret;exact ⟨Eu (bI HR).symm,(Below.refl _ _).alloc (Nat.le_refl _) _⟩
 ·rw [if_neg (by omega)] at h6;go_enter Tryz.func112,Tryz.ntmps112;go_wp2;go_ret;exact ⟨Eu (bI HR).symm,(Below.refl _ _).alloc (Nat.le_refl _) _⟩
 ·rw [if_pos (by omega)] at h6;go_enter Tryz.func112,Tryz.ntmps112;go_wp2;go_ret;exact ⟨Eu (bI HR).symm,(Below.refl _ _).alloc (Nat.le_refl _) _⟩
theorem c16 (s:ByteArray) (a bits:Int) (w:World) (hs:s.size<=140737488351232) :
  Calls Tryz.prog 108 #[.string s,.int .i64 a,.int .i64 bits] w fun e w' =>
   e=.returned (.tuple #[.int .i64 (ae.eU s a bits).1,.int .i64 (ae.eU s a bits).2.1,.int .i64 (ae.eU s a bits).2.2])/\Below w.heap.size w w':=by
 by_cases di:ae.asks s.size a bits=true
 ·have hq:=ae.wH di;obtain ⟨gN,ha0,ha1⟩:=hq;obtain ⟨a,rfl⟩:=Int.eq_ofNat_of_zero_le ha0;have hread:ae.eU s a bits=ae.nS (ae.from_ s a) (ae.dX (ae.from_ s a) (s.size-a) (ae.most bits)) a bits:=by unfold ae.eU;rw [if_pos di,Int.toNat_natCast];rfl
  rw [hread];have ha:a<=s.size:=by omega
  have hks:=ae.wG (ae.from_ s a) (s.size-a) (ae.most bits);have hc:=GV s a bits w hs ha gN;clear hread ha0 ha1 di;generalize ae.dX (ae.from_ s a) (s.size-a) (ae.most bits)=k at *;by_cases hk0:k=0
  ·have hfin:ae.nS (ae.from_ s a) k a bits=(0,0,10):=by unfold ae.nS;rw [if_pos (.inl hk0)]
   rw [hfin];rw [AV hk0] at hc;have hC:=fV hc;clear hc hfin hks hk0;go_enter Tryz.func108,Tryz.ntmps108;go_wp2_with fail;refine (bI hC).mono ?_;rintro e w1 ⟨rfl,hbel⟩;go_wp2;go_ret3;exact ⟨rfl,hbel.alloc hbel.size _⟩
  ·rw [GU hk0] at hc;have hC:=fV hc;obtain ⟨k1,k2,k3,k4,k5⟩:=hks hk0;have hbd:=ae.vB s a (k-1);have hsum:(a:Int)+k<=s.size:=by omega
   have Bw:k<=10:=by rcases gN with rfl|rfl<;>exact Nat.le_trans k2 (by decide)
   generalize hR:ae.nS (ae.from_ s a) k a bits=R;have hl:=ae.Bt (ae.val (ae.from_ s a) k)
   have hlk:k<10->ae.bO (ae.val (ae.from_ s a) k)<128 ^ k:=by
    intro h;have h9:=ae.qR (ae.from_ s a) k (by omega);rw [ae.uH h9.1 (by omega)];exact (ae.qA _ _).2
   have hsv:=Tu (ae.from_ s a) k k1 ⟨hbd.1,k4⟩
   have oz:(bits=32/\(jY (ae.bO (ae.val (ae.from_ s a) k)) (ae.from_ s a (k-1)) k < -2147483648\/2147483647<jY (ae.bO (ae.val (ae.from_ s a) k)) (ae.from_ s a (k-1)) k))\/(k=10/\ae.from_ s a (k-1)≠0/\ae.from_ s a (k-1)≠127)->R=(0,0,10):=by
    intro h;rw [<- hR];unfold ae.nS;rcases h with ⟨rfl,h⟩|⟨rfl,h⟩
    ·have hm:k<=5:=k2;rw [hsv (.inl (by omega))] at h;rw [if_pos (.inr (.inl ⟨rfl,h⟩))]
    ·rw [if_pos (.inr (.inr ⟨rfl,h⟩))]
   have lD:¬ ((bits=32/\(jY (ae.bO (ae.val (ae.from_ s a) k)) (ae.from_ s a (k-1)) k < -2147483648\/2147483647<jY (ae.bO (ae.val (ae.from_ s a) k)) (ae.from_ s a (k-1)) k))\/(k=10/\ae.from_ s a (k-1)≠0/\ae.from_ s a (k-1)≠127))->R=(jY (ae.bO (ae.val (ae.from_ s a) k)) (ae.from_ s a (k-1)) k,(a:Int)+(k:Int),0):=by
    intro h;rw [<- hR];unfold ae.nS
    have hok:k<=9\/(k=10/\(ae.from_ s a 9=0\/ae.from_ s a 9=127)):=by
     by_cases h10:k=10
     ·subst h10;by_cases h':ae.from_ s a 9=0
      ·exact .inr ⟨rfl,.inl h'⟩
      ·by_cases h'':ae.from_ s a 9=127
       ·exact .inr ⟨rfl,.inr h''⟩
       ·exact absurd (.inr ⟨rfl,h',h''⟩) h
     ·exact .inl (by omega)
    rw [hsv hok] at h ⊢;rw [if_neg];rintro (h'|h'|⟨rfl,h2⟩)
    ·exact hk0 h'
    ·exact h (.inl h')
    ·exact h (.inr ⟨rfl,h2⟩)
   have Kb:=fun w=>Cz (ae.bO (ae.val (ae.from_ s a) k)) (ae.from_ s a (k-1)) k w hl.1 hl.2 hbd.1 k4 Bw hlk;have hnb:=Tt (ae.bO (ae.val (ae.from_ s a) k)) (ae.from_ s a (k-1)) k hl.1 hlk;clear hsv hlk;generalize jY (ae.bO (ae.val (ae.from_ s a) k)) (ae.from_ s a (k-1)) k=n at *;generalize ae.bO (ae.val (ae.from_ s a) k)=l at *;generalize ae.from_ s a (k-1)=d at *;have HC:=fV Kb;have yw:bits=32->k<=5:=by rintro rfl;exact k2
   have lN:(bits=32/\n < -2147483648/\Hid (R=(0,0,10)))\/(bits=32/\-2147483648<=n/\2147483647<n/\Hid (R=(0,0,10)))\/(bits=32/\-2147483648<=n/\n<=2147483647/\((k:Int) == 10)=false/\Hid (R=(n,(a:Int)+(k:Int),0))) \/
     (bits=64/\((k:Int) == 10)=false/\Hid (R=(n,(a:Int)+(k:Int),0)))\/(bits=64/\k=10/\(d != 0)=true/\(d != 127)=true/\Hid (R=(0,0,10))) \/
     (bits=64/\k=10/\(d != 0)=false/\Hid (R=(n,(a:Int)+(k:Int),0)))\/(bits=64/\k=10/\(d != 0)=true/\(d != 127)=false/\Hid (R=(n,(a:Int)+(k:Int),0))):=by
    simp only [beq_eq_false_iff_ne,bne_iff_ne,bne_eq_false_iff_eq];rcases gN with rfl|rfl
    ·have:=yw rfl
     by_cases h:n < -2147483648
     ·exact .inl ⟨rfl,h,oz (by omega)⟩
     ·by_cases h':2147483647<n
      ·exact .inr (.inl ⟨rfl,by omega,h',oz (by omega)⟩)
      ·exact .inr (.inr (.inl ⟨rfl,by omega,by omega,by omega,lD (by omega)⟩))
    ·by_cases h:k=10
     ·by_cases h':d=0
      ·exact .inr (.inr (.inr (.inr (.inr (.inl ⟨rfl,h,h',lD (by omega)⟩)))))
      ·by_cases h'':d=127
       ·exact .inr (.inr (.inr (.inr (.inr (.inr ⟨rfl,h,h',h'',lD (by omega)⟩)))))
       ·exact .inr (.inr (.inr (.inr (.inl ⟨rfl,h,h',h'',oz (by omega)⟩))))
     ·exact .inr (.inr (.inr (.inl ⟨rfl,by omega,lD (by omega)⟩)))
   clear yw oz lD hks hc gN hR k2 k5 Kb;rcases lN with ⟨rfl,h1,HR⟩|⟨rfl,h1,h2,HR⟩|⟨rfl,h1,h2,h3,HR⟩|⟨rfl,h1,HR⟩|⟨rfl,rfl,h1,h2,HR⟩|⟨rfl,rfl,h1,HR⟩|⟨rfl,rfl,h1,h2,HR⟩
   all_goals
    go_enter Tryz.func108,Tryz.ntmps108;go_wp2_with fail;refine (bI hC).mono ?_;rintro e w1 ⟨rfl,hbel⟩;go_wp2_with fail;refine (bI HC _).mono ?_;rintro e w2 ⟨rfl,Kc⟩;have hcc:=fun j=>Kc.cell (p:=⟨w1.heap.size,j,none⟩) (by simp);have hbf:Below w.heap.size w w2:=(hbel.alloc hbel.size _).trans (Kc.mono (by have:=hbel.size;simp;omega));go_wp2
    try (go_quiet (fail);go_wp2)
    go_ret3;exact ⟨yx (by rw [bI HR]<;>rfl),by first|exact hbf|exact below_drewN hbf _⟩
 ·have rH:ae.asks s.size a bits=false:=by simpa using di
  have hread:ae.eU s a bits=(0,0,1):=by unfold ae.eU;rw [rH];rfl
  rw [hread];clear hread di;go_enter Tryz.func108,Tryz.ntmps108;go_wp2_with fail;refine (GX _ _ _ _ rH).mono ?_;rintro e w1 ⟨rfl,hbel⟩;go_wp2;go_ret3;exact ⟨rfl,hbel.alloc hbel.size _⟩
end Go.Proofs.YtegboefdolfdgaaGreatDoor
namespace Go.Proofs.YtegboefdolfdgaaGreatDoor
open Go.RowKit aA
set_option linter.unusedVariables false
structure VC (I:World->Prop):Prop where
 keep:∀ {w w':World},Below w.heap.size w w'->I w->I w'
 form:∀(op:Int) (w:World),I w->Calls Tryz.prog 89 #[.int .i64 op] w fun e w'=>e=.returned (.int .i64 (form op))/\Below w.heap.size w w'
end Go.Proofs.YtegboefdolfdgaaGreatDoor

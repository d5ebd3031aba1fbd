/- Texts that the claim needs. -/
import Derived.Test.YtcfifbgemfladaaGreatDoorQDPa9
import Derived.Test.YtcfifbgemfladaaGreatDoorQDPa8
import Derived.Test.YtcfifbgemfladaaGreatDoorQDPa1
import Derived.Test.YtcfifbgemfladaaGreatDoorQDPa4
import Derived.Test.YtcfifbgemfladaaGreatDoorQDPa6
import Derived.Test.YtcfifbgemfladaaGreatDoorQDPa3
import Derived.Deep.RegionLaw
import Derived.Laws.EntriesVeiled
namespace Go.Proofs.YtcfifbgemfladaaGreatDoor
open Go.RowKit Go.Proofs.Tryz
set_option maxHeartbeats 2000000
theorem c21 (s t:AH) (a:Nat) (bits:Int) (w:AG) (hs:s.size<=140737488351232) (ha:a<=s.size) (hb:bits=32\/bits=64) (ht:s.extract a s.size=t) :
  Calls prog 106 #[.string s,.int .i64 a,.int .i64 bits] w λe w' =>
   e=.returned (ze (af.bt t) (af.jh (af.bt t) t.size (af.most bits)))/\AS w w':=by
 have qL:((bits != 32)=false)\/((bits != 32)=true/\(bits != 64)=false):=by
  simp only [bne_iff_ne,bne_eq_false_iff_eq];omega
 have ha0:decide ((a:Int)<0)=false:=aj;have ha1:decide ((s.size:Int)<(a:Int))=false:=aj;have ha2:decide (s.size<a)=false:=aj;have afj:af.most bits<=10:=by rcases hb with rfl|rfl<;>decide
 have HB:=ng hb;have ID:t.size<=140737488351232:=by rw [<- ht];simp [ByteArray.size_extract];omega
 clear hb;rcases qL with h1|⟨h1,h2⟩
 all_goals
  go_enter func106,ntmps106;go_wp2_with fail;refine (IG _ _).mono ?_;rintro e w1 ⟨rfl,rfl⟩;go_wp2;clear ht;go_loopw [10] (λ_ wr=>∃k:Nat,k<=af.most bits/\k<=t.size/\qp w.heap.size w wr t k (af.eB (af.val (af.bt t) k))/\af.jh (af.bt t) t.size (af.most bits)=af.fO (af.bt t) t.size (af.most bits-k) k) (λ_ wr=>10-(RowKit.intOf ((wr.cell? ⟨w.heap.size+1+1,0,none⟩).getD (.int .i64 0))).toNat)
  case atStart=>exact ⟨0,Nat.zero_le _,Nat.zero_le _,qp.start w t,rfl⟩
  case round =>
   obtain ⟨k,hk1,hk2,hinv,MV⟩:=hrel;have HI:=ng hinv;have HG:=ng MV;have FU:wr.cell? ⟨w.heap.size+1+1+1,1,none⟩=some (.int .i64 k):=cell_of hinv.rd;have hcs:wr.cell? ⟨w.heap.size+1,0,none⟩=some (.string t):=cell_of hinv.str;have hcp:wr.cell? ⟨w.heap.size+1+1,0,none⟩=some (.int .i64 k):=cell_of hinv.pos;have hfp:wr.frozen? ⟨w.heap.size+1+1,0,none⟩=false:=tj hinv.pos;have II:wr.cell? ⟨w.heap.size,0,none⟩=some (.int .u64 0):=cell_of hinv.out;have IJ:wr.cell? ⟨w.heap.size,1,none⟩=some (.int .i64 0):=cell_of hinv.out;have IK:wr.cell? ⟨w.heap.size,2,none⟩=some (.int .u8 0):=cell_of hinv.out;have IM:wr.frozen? ⟨w.heap.size,0,none⟩=false:=tj hinv.out;have IQ:wr.frozen? ⟨w.heap.size,1,none⟩=false:=tj hinv.out;have IU:wr.frozen? ⟨w.heap.size,2,none⟩=false:=tj hinv.out;clear hinv MV;by_cases hkM:k<af.most bits
   ·by_cases hkt:k<t.size
    ·have hbd:=af.xL t k;have iz:=af.uZ (af.bt t) k (by omega);have hst:=Ux (af.bt t) k (by omega)
     have hlow:wr.cell? ⟨w.heap.size+1+1+1,0,none⟩=some (.int .u64 (af.val (af.bt t) k)):=by
      rw [<- af.Ah iz.1 (by omega)];exact cell_of (fP HI).rd
     have MX:wr.frozen? ⟨w.heap.size+1+1+1,0,none⟩=false:=tj (fP HI).rd;by_cases hl:af.bt t k<128
     ·have HF:=ng (Uy ((fP HG).trans (af.Ai _ _ _ _ (by omega) hkt hl)) ⟨hbd.1,hl⟩);clear II IJ IK IM IQ IU HG;go_wp2_with fail;go_quiet ((go_at_call 118;exact Calls.quiet_of_same (BK _ _ (fP HB))));go_wp2_with fail;refine (MZ _ _ k t true _ (by omega) (by exact hcs) (by exact hcp) (by exact hfp) hkt (ay hl)).mono ?_;rintro e w2 ⟨rfl,rfl⟩;go_wp2_with fail;go_region;generalize gY:World.drew (World.setCell _ _ _)=W2;have hmid:Db w.heap.size w W2 t k (af.eB (af.val (af.bt t) (k+1))):=by rw [<- gY,<- hst];exact (fP HI).mid _ _
      clear gY hlow FU hcs hcp hfp MX HI hst;have FU:W2.cell? ⟨w.heap.size+1+1+1,1,none⟩=some (.int .i64 k):=cell_of hmid.rd;have afk:W2.cell? ⟨w.heap.size+1+1+1,0,none⟩=some (.int .u64 (af.eB (af.val (af.bt t) (k+1)))):=cell_of hmid.rd;have afl:W2.cell? ⟨w.heap.size+1+1+1,2,none⟩=some (.int .u8 0):=cell_of hmid.rd;have Uz:W2.frozen? ⟨w.heap.size+1+1+1,1,none⟩=false:=tj hmid.rd;have afm:W2.frozen? ⟨w.heap.size+1+1+1,2,none⟩=false:=tj hmid.rd;have IM:W2.frozen? ⟨w.heap.size,0,none⟩=false:=tj hmid.out;have IQ:W2.frozen? ⟨w.heap.size,1,none⟩=false:=tj hmid.out;have IU:W2.frozen? ⟨w.heap.size,2,none⟩=false:=tj hmid.out;have II:W2.cell? ⟨w.heap.size,0,none⟩=some (.int .u64 0):=cell_of hmid.out;have IJ:W2.cell? ⟨w.heap.size,1,none⟩=some (.int .i64 0):=cell_of hmid.out;have IK:W2.cell? ⟨w.heap.size,2,none⟩=some (.int .u8 0):=cell_of hmid.out;have HM:=ng hmid;clear hmid;go_wp2
      exact bodyPost_ret (v:=.tuple #[.agg #[.int .u64 (af.eB (af.val (af.bt t) (k+1))),.int .i64 ((k:Int)+1),.int .u8 (af.bt t k%128)],.int .i64 0]) (by simp [results,results106,go_sem, *]) rfl
       ⟨IV (fP HF),vg (vg (vg (vg (vg (fP HM).bQ (by omega)) (by omega)) (aC _)) (aC _)) (aC _)⟩
     have HF:Hid (af.jh (af.bt t) t.size (af.most bits)=af.fO (af.bt t) t.size (af.most bits-(k+1)) (k+1)):=(fP HG).trans (af.zf _ _ _ _ (by omega) hkt hl);clear II IJ IK IM IQ IU HG;go_wp2_with fail;go_quiet ((go_at_call 118;exact Calls.quiet_of_same (BK _ _ (fP HB))));go_wp2_with fail;refine (MZ _ _ k t false _ (by omega) (by exact hcs) (by exact hcp) (by exact hfp) hkt (aj (by omega))).mono ?_;rintro e w2 ⟨rfl,rfl⟩;go_wp2_with fail;go_region;generalize gY:World.drew (World.setCell _ _ _)=W2;have hmid:Db w.heap.size w W2 t k (af.eB (af.val (af.bt t) (k+1))):=by rw [<- gY,<- hst];exact (fP HI).mid _ _
     clear gY hlow FU hcs hcp hfp MX hst;have FU:W2.cell? ⟨w.heap.size+1+1+1,1,none⟩=some (.int .i64 k):=cell_of hmid.rd;have Uz:W2.frozen? ⟨w.heap.size+1+1+1,1,none⟩=false:=tj hmid.rd;have HM:=ng hmid;clear hmid;go_wp2;go_roundw
     case rel=>exact ⟨k+1,by omega,by omega,(fP HM).next,fP HF⟩
     case measure=>exact (fP HI).lower (fP HM).next (by omega)
    have UA:k=t.size:=by omega
    subst UA;have HF:=ng (FV (f:=af.bt t) ((fP HG).trans (af.M0 _ _ _ _ (by omega))));have HM:=ng ((fP HI).bQ);clear HG;go_wp2_with fail;go_quiet ((go_at_call 118;exact Calls.quiet_of_same (BK _ _ (fP HB))));go_wp2_with fail;refine (UB _ _ t _ (by exact hcs) (by exact hcp)).mono ?_;rintro e w2 ⟨rfl,rfl⟩;go_wp2
    exact bodyPost_ret (v:=.tuple #[.agg #[.int .u64 0,.int .i64 0,.int .u8 0],.int .i64 10]) (by simp [results,results106,go_sem, *]) rfl
     ⟨IV (fP HF),vg (vg (vg (below_drewN (fP HM) _) (aC _)) (aC _)) (aC _)⟩
   have HF:=ng (FV (f:=af.bt t) ((fP HG).trans (by rw [show af.most bits-k=0 by omega];rfl)));have HM:=ng ((fP HI).bQ);clear HG;go_wp2_with fail;go_quiet ((go_at_call 118;exact Calls.quiet_of_same (BK _ _ (fP HB))));go_wp2
   exact bodyPost_ret (v:=.tuple #[.agg #[.int .u64 0,.int .i64 0,.int .u8 0],.int .i64 10]) (by simp [results,results106,go_sem, *]) rfl
    ⟨IV (fP HF),vg (vg (vg (below_drewN (fP HM) _) (aC _)) (aC _)) (aC _)⟩
theorem Pu {f:Nat->Int} {k:Nat} (h:k≠0):ze f k=.tuple #[.agg #[.int .u64 (af.eB (af.val f k)),.int .i64 k,.int .u8 (f (k-1))],.int .i64 0]:=by unfold ze;rw [AD h]
theorem ZU (s:AH) (a:Nat) (ha:a<=s.size):af.bt (s.extract a s.size)=af.from_ s a:=funext λi=>ZV s a i ha
theorem Pv (s:AH) (a:Nat) (bits:Int) (w:AG) (hs:s.size<=140737488351232) (ha:a<=s.size) (hb:bits=32\/bits=64) :
  Calls prog 106 #[.string s,.int .i64 a,.int .i64 bits] w λe w' =>
   e=.returned (ze (af.from_ s a) (af.jh (af.from_ s a) (s.size-a) (af.most bits)))/\AS w w':=by
 have h:=c21 s _ a bits w hs ha hb rfl;rw [ZU s a ha,show (s.extract a s.size).size=s.size-a by simp [ByteArray.size_extract]] at h;exact h
theorem c14 (s:AH) (a bits:Int) (w:AG) (hs:s.size<=140737488351232) :
  Calls prog 91 #[.string s,.int .i64 a,.int .i64 bits] w λe w' =>
   e=.returned (.tuple #[.int .u64 (af.ig s a bits).1,.int .i64 (af.ig s a bits).2.1,.int .i64 (af.ig s a bits).2.2])/\AS w w':=by
 by_cases fQ:af.asks s.size a bits=true
 ·have hq:=af.DJ fQ;obtain ⟨oh,ha0,ha1⟩:=hq;obtain ⟨a,rfl⟩:=Int.eq_ofNat_of_zero_le ha0;have hread:af.ig s a bits=af.mK (af.from_ s a) (af.jh (af.from_ s a) (s.size-a) (af.most bits)) a bits:=by unfold af.ig;rw [AE fQ,Int.toNat_natCast];rfl
  rw [hread];have ha:a<=s.size:=by omega
  have hks:=af.DF (af.from_ s a) (s.size-a) (af.most bits);have hc:=Pv s a bits w hs ha oh;clear hread ha0 ha1 fQ;generalize af.jh (af.from_ s a) (s.size-a) (af.most bits)=k at *;by_cases hk0:k=0
  ·have hfin:af.mK (af.from_ s a) k a bits=(0,0,10):=by unfold af.mK;rw [AE (.inl hk0)]
   rw [hfin];rw [FV hk0] at hc;have hC:=ng hc;clear hc hfin hks hk0;go_enter func91,ntmps91;go_wp2_with fail;refine (fP hC).mono ?_;rintro e w1 ⟨rfl,hbel⟩;go_wp2;go_ret3;exact ⟨rfl,hbel.alloc hbel.size _⟩
  rw [Pu hk0] at hc;have hC:=ng hc;obtain ⟨k1,k2,k3,k4,k5⟩:=hks hk0;have hbd:=af.AO s a (k-1);have hsum:(a:Int)+k<=s.size:=by omega
  have vo:k<=10:=by rcases oh with rfl|rfl<;>exact eU k2 (by decide)
  generalize hR:af.mK (af.from_ s a) k a bits=R;have hl:=af.GH (af.val (af.from_ s a) k)
  have jT:(bits=32/\4294967295<af.eB (af.val (af.from_ s a) k))\/(bits=64/\k=10/\1<af.from_ s a (k-1))->R=(0,0,10):=by
   intro h;rw [<- hR];unfold af.mK;rcases h with ⟨rfl,h⟩|⟨rfl,rfl,h⟩
   ·have hm:k<=5:=k2;have hv:=af.uZ (af.from_ s a) k (by omega);rw [af.Ah hv.1 (by omega)] at h;rw [AE (.inr (.inl ⟨rfl,h⟩))]
   rw [AE (.inr (.inr ⟨rfl,h⟩))]
  have qD:¬ ((bits=32/\4294967295<af.eB (af.val (af.from_ s a) k))\/(k=10/\1<af.from_ s a (k-1)))->R=(af.eB (af.val (af.from_ s a) k),(a:Int)+(k:Int),0):=by
   intro h;rw [<- hR];unfold af.mK
   have hv:af.eB (af.val (af.from_ s a) k)=af.val (af.from_ s a) k:=by
    by_cases h10:k=10
    ·subst h10;have h9:¬ 1<af.from_ s a 9:=λh'=>h (.inr ⟨rfl,h'⟩);have iz:=af.OX (af.from_ s a) hbd.1 (by omega);exact af.Ah (af.xf _ _).1 iz
    have hv:=af.uZ (af.from_ s a) k (by omega);exact af.Ah hv.1 (by omega)
   rw [hv] at h ⊢;rw [AD];rintro (h'|⟨h1,h2⟩|⟨rfl,h2⟩)
   ·exact hk0 h'
   ·exact h (.inl ⟨h1,h2⟩)
   exact h (.inr ⟨rfl,h2⟩)
  generalize af.eB (af.val (af.from_ s a) k)=l at *;generalize af.from_ s a (k-1)=d at *;have DU:bits=32->k<=5:=by rintro rfl;exact k2
  have qL:(bits=32/\4294967295<l/\Hid (R=(0,0,10)))\/(bits=32/\l<=4294967295/\((k:Int)==10)=false/\Hid (R=(l,(a:Int)+(k:Int),0))) \/
    (bits=64/\((k:Int)==10)=false/\Hid (R=(l,(a:Int)+(k:Int),0)))\/(bits=64/\k=10/\1<d/\Hid (R=(0,0,10)))\/(bits=64/\k=10/\d<=1/\Hid (R=(l,(a:Int)+(k:Int),0))):=by
   simp only [wY];rcases oh with rfl|rfl
   ·have:=DU rfl
    by_cases h:4294967295<l
    ·exact .inl ⟨rfl,h,jT (by omega)⟩
    exact .inr (.inl ⟨rfl,by omega,by omega,qD (by omega)⟩)
   by_cases h:k=10
   ·by_cases h':1<d
    ·exact .inr (.inr (.inr (.inl ⟨rfl,h,h',jT (by omega)⟩)))
    exact .inr (.inr (.inr (.inr ⟨rfl,h,by omega,qD (by omega)⟩)))
   exact .inr (.inr (.inl ⟨rfl,by omega,qD (by omega)⟩))
  clear DU jT qD hks hc oh hR k2 k5;rcases qL with ⟨rfl,h1,HR⟩|⟨rfl,h1,h2,HR⟩|⟨rfl,h1,HR⟩|⟨rfl,rfl,h1,HR⟩|⟨rfl,rfl,h1,HR⟩
  all_goals
   go_enter func91,ntmps91;go_wp2_with fail;refine (fP hC).mono ?_;rintro e w1 ⟨rfl,hbel⟩;go_wp2
   try (go_quiet (fail);go_wp2)
   go_ret3;exact ⟨Ke (by rw [fP HR]<;>rfl),by first|exact hbel.alloc hbel.size _|exact below_drewN (hbel.alloc hbel.size _) _⟩
 have Bn:af.asks s.size a bits=false:=by simpa using fQ
 have hread:af.ig s a bits=(0,0,1):=by unfold af.ig;rw [Bn];rfl
 rw [hread];clear hread fQ;go_enter func91,ntmps91;go_wp2_with fail;refine (Pw _ _ _ _ Bn).mono ?_;rintro e w1 ⟨rfl,hbel⟩;go_wp2;go_ret3;exact ⟨rfl,hbel.alloc hbel.size _⟩
theorem Lh (n:Int):wrap64 n=af.vQ n:=by unfold wrap64 af.vQ;rfl
theorem acZ (l:Int) (k:Nat) (hk:k<=9) (h0:0<=l) (h1:l<128 ^ k):wrap64 (bits .or .u64 l (IntKind.u64.wrap (18446744073709551615*2 ^ (7*k))))=l-128 ^ k:=by
 have hkk:k=0\/k=1\/k=2\/k=3\/k=4\/k=5\/k=6\/k=7\/k=8\/k=9:=by omega
 rw [IntKind.wrap_u64,Lh];unfold af.vQ;rcases hkk with rfl|rfl|rfl|rfl|rfl|rfl|rfl|rfl|rfl|rfl
 all_goals
  simp only [Int.reducePow,Nat.reduceMul,Int.reduceMul,Int.reduceMod] at h1 ⊢
 ·rw [af.nJ 0 _ _ (by omega) (by omega) (by simp only [Int.reducePow];omega) (by omega) (by simp only [Int.reducePow];omega) (by omega)];omega
 ·rw [af.nJ 7 _ _ (by omega) (by omega) (by simp only [Int.reducePow];omega) (by omega) (by simp only [Int.reducePow];omega) (by omega)];omega
 ·rw [af.nJ 14 _ _ (by omega) (by omega) (by simp only [Int.reducePow];omega) (by omega) (by simp only [Int.reducePow];omega) (by omega)];omega
 ·rw [af.nJ 21 _ _ (by omega) (by omega) (by simp only [Int.reducePow];omega) (by omega) (by simp only [Int.reducePow];omega) (by omega)];omega
 ·rw [af.nJ 28 _ _ (by omega) (by omega) (by simp only [Int.reducePow];omega) (by omega) (by simp only [Int.reducePow];omega) (by omega)];omega
 ·rw [af.nJ 35 _ _ (by omega) (by omega) (by simp only [Int.reducePow];omega) (by omega) (by simp only [Int.reducePow];omega) (by omega)];omega
 ·rw [af.nJ 42 _ _ (by omega) (by omega) (by simp only [Int.reducePow];omega) (by omega) (by simp only [Int.reducePow];omega) (by omega)];omega
 ·rw [af.nJ 49 _ _ (by omega) (by omega) (by simp only [Int.reducePow];omega) (by omega) (by simp only [Int.reducePow];omega) (by omega)];omega
 ·rw [af.nJ 56 _ _ (by omega) (by omega) (by simp only [Int.reducePow];omega) (by omega) (by simp only [Int.reducePow];omega) (by omega)];omega
 rw [af.nJ 63 _ _ (by omega) (by omega) (by simp only [Int.reducePow];omega) (by omega) (by simp only [Int.reducePow];omega) (by omega)];omega
def oz (l d:Int) (k:Nat):Int:=if 64<=d/\k<10 then l-128 ^ k else af.vQ l
theorem ac0 (l d:Int) (k:Nat) (h0:0<=l) (h1:k<10->l<128 ^ k):-9223372036854775808<=oz l d k/\oz l d k<=9223372036854775807:=by
 unfold oz;split
 ·rename_i h;have h2:=af.GG (show k<=9 by omega);have e:(128:Int) ^ 9=9223372036854775808:=by decide
  have h3:=af.OQ k;have h4:=h1 h.2;omega
 exact af.Zu l
theorem ac1 (f:Nat->Int) (k:Nat) (hk:0<k) (hd:0<=f (k-1)/\f (k-1)<128) (h:k<=9\/(k=10/\(f 9=0\/f 9=127))):oz (af.eB (af.val f k)) (f (k-1)) k=af.qC f k:=by
 have hv:=af.xf f k;have hm:f (k-1)%128=f (k-1):=by omega
 unfold oz af.qC;rw [hm];rcases h with h|⟨rfl,h⟩
 ·have h9:=af.uZ f k h;rw [af.Ah h9.1 (by omega)];by_cases hs:64<=f (k-1)
  ·rw [AE ⟨hs,by omega⟩,AE hs];omega
  rw [AD (by omega),AD hs,af.Zv (by omega) (by omega)];omega
 have h9:=af.uZ f 9 (by omega);have e:af.val f 10=af.val f 9+9223372036854775808*(f 9%128):=rfl;have e2:(128:Int) ^ 10=1180591620717411303424:=by decide
 rw [AD (by omega),e,e2];show af.vQ (af.eB _)=_+_*(if 64<=f 9 then -1 else 0);unfold af.vQ af.eB;rcases h with h|h<;>rw [h]<;>simp<;>omega
theorem I3 (l d:Int) (k:Nat) (w:AG) (h0:0<=l) (_h1:l<=18446744073709551615) (hd0:0<=d) (hd1:d<128) (hk:k<=10) (hkl:k<10->l<128 ^ k) :
  Calls prog 132 #[.agg #[.int .u64 l,.int .i64 k,.int .u8 d]] w λe w'=>e=.returned (.int .i64 (oz l d k))/\AS w w':=by
 have h6:=af.acU d hd0 (by omega);have H1:=ng hkl;clear hkl
 have qL:(64<=d/\decide ((k:Int)<10)=false/\Hid (oz l d k=wrap64 l))\/(d<64/\Hid (oz l d k=wrap64 l))\/(64<=d/\k<10/\Hid (oz l d k=wrap64 (bits .or .u64 l (IntKind.u64.wrap (18446744073709551615*2 ^ (7*k)))))):=by
  by_cases h:64<=d
  ·by_cases h':k<10
   ·exact .inr (.inr ⟨h,h',by unfold Hid oz;rw [AE ⟨h,h'⟩,acZ l k (by omega) h0 (fP H1 h')]⟩)
   exact .inl ⟨h,aj (by omega),by unfold Hid oz;rw [AD (by omega),Lh]⟩
  exact .inr (.inl ⟨by omega,by unfold Hid oz;rw [AD (by omega),Lh]⟩)
 clear H1;generalize oz l d k=r at *;rcases qL with ⟨h2,h3,HR⟩|⟨h2,HR⟩|⟨h2,h3,HR⟩
 ·rw [AE (by omega)] at h6;go_enter func132,ntmps132;go_wp2;go_ret;exact ⟨Li (fP HR).symm,(AC _ _).alloc (aC _) _⟩
 ·rw [AD (by omega)] at h6;go_enter func132,ntmps132;go_wp2;go_ret;exact ⟨Li (fP HR).symm,(AC _ _).alloc (aC _) _⟩
 rw [AE (by omega)] at h6;go_enter func132,ntmps132;go_wp2;go_ret;exact ⟨Li (fP HR).symm,(AC _ _).alloc (aC _) _⟩
theorem c16 (s:AH) (a bits:Int) (w:AG) (hs:s.size<=140737488351232) :
  Calls prog 128 #[.string s,.int .i64 a,.int .i64 bits] w λe w' =>
   e=.returned (.tuple #[.int .i64 (af.jW s a bits).1,.int .i64 (af.jW s a bits).2.1,.int .i64 (af.jW s a bits).2.2])/\AS w w':=by
 by_cases fQ:af.asks s.size a bits=true
 ·have hq:=af.DJ fQ;obtain ⟨oh,ha0,ha1⟩:=hq;obtain ⟨a,rfl⟩:=Int.eq_ofNat_of_zero_le ha0;have hread:af.jW s a bits=af.rV (af.from_ s a) (af.jh (af.from_ s a) (s.size-a) (af.most bits)) a bits:=by unfold af.jW;rw [AE fQ,Int.toNat_natCast];rfl
  rw [hread];have ha:a<=s.size:=by omega
  have hks:=af.DF (af.from_ s a) (s.size-a) (af.most bits);have hc:=Pv s a bits w hs ha oh;clear hread ha0 ha1 fQ;generalize af.jh (af.from_ s a) (s.size-a) (af.most bits)=k at *;by_cases hk0:k=0
  ·have hfin:af.rV (af.from_ s a) k a bits=(0,0,10):=by unfold af.rV;rw [AE (.inl hk0)]
   rw [hfin];rw [FV hk0] at hc;have hC:=ng hc;clear hc hfin hks hk0;go_enter func128,ntmps128;go_wp2_with fail;refine (fP hC).mono ?_;rintro e w1 ⟨rfl,hbel⟩;go_wp2;go_ret3;exact ⟨rfl,hbel.alloc hbel.size _⟩
  rw [Pu hk0] at hc;have hC:=ng hc;obtain ⟨k1,k2,k3,k4,k5⟩:=hks hk0;have hbd:=af.AO s a (k-1);have hsum:(a:Int)+k<=s.size:=by omega
  have vo:k<=10:=by rcases oh with rfl|rfl<;>exact eU k2 (by decide)
  generalize hR:af.rV (af.from_ s a) k a bits=R;have hl:=af.GH (af.val (af.from_ s a) k)
  have hlk:k<10->af.eB (af.val (af.from_ s a) k)<128 ^ k:=by
   intro h;have h9:=af.uZ (af.from_ s a) k (by omega);rw [af.Ah h9.1 (by omega)];exact (af.xf _ _).2
  have hsv:=ac1 (af.from_ s a) k k1 ⟨hbd.1,k4⟩
  have jT:(bits=32/\(oz (af.eB (af.val (af.from_ s a) k)) (af.from_ s a (k-1)) k < -2147483648\/2147483647<oz (af.eB (af.val (af.from_ s a) k)) (af.from_ s a (k-1)) k))\/(k=10/\af.from_ s a (k-1)≠0/\af.from_ s a (k-1)≠127)->R=(0,0,10):=by
   intro h;rw [<- hR];unfold af.rV;rcases h with ⟨rfl,h⟩|⟨rfl,h⟩
   ·have hm:k<=5:=k2;rw [hsv (.inl (by omega))] at h;rw [AE (.inr (.inl ⟨rfl,h⟩))]
   rw [AE (.inr (.inr ⟨rfl,h⟩))]
  have qD:¬ ((bits=32/\(oz (af.eB (af.val (af.from_ s a) k)) (af.from_ s a (k-1)) k < -2147483648\/2147483647<oz (af.eB (af.val (af.from_ s a) k)) (af.from_ s a (k-1)) k))\/(k=10/\af.from_ s a (k-1)≠0/\af.from_ s a (k-1)≠127))->R=(oz (af.eB (af.val (af.from_ s a) k)) (af.from_ s a (k-1)) k,(a:Int)+(k:Int),0):=by
   intro h;rw [<- hR];unfold af.rV
   have hok:k<=9\/(k=10/\(af.from_ s a 9=0\/af.from_ s a 9=127)):=by
    by_cases h10:k=10
    ·subst h10;by_cases h':af.from_ s a 9=0
     ·exact .inr ⟨rfl,.inl h'⟩
     by_cases h'':af.from_ s a 9=127
     ·exact .inr ⟨rfl,.inr h''⟩
     exact absurd (.inr ⟨rfl,h',h''⟩) h
    exact .inl (by omega)
   rw [hsv hok] at h ⊢;rw [AD];rintro (h'|h'|⟨rfl,h2⟩)
   ·exact hk0 h'
   ·exact h (.inl h')
   exact h (.inr ⟨rfl,h2⟩)
  have Sb:=λw=>I3 (af.eB (af.val (af.from_ s a) k)) (af.from_ s a (k-1)) k w hl.1 hl.2 hbd.1 k4 vo hlk;have hnb:=ac0 (af.eB (af.val (af.from_ s a) k)) (af.from_ s a (k-1)) k hl.1 hlk;clear hsv hlk;generalize oz (af.eB (af.val (af.from_ s a) k)) (af.from_ s a (k-1)) k=n at *;generalize af.eB (af.val (af.from_ s a) k)=l at *;generalize af.from_ s a (k-1)=d at *;have HC:=ng Sb;have DU:bits=32->k<=5:=by rintro rfl;exact k2
  have qL:(bits=32/\n < -2147483648/\Hid (R=(0,0,10)))\/(bits=32/\-2147483648<=n/\2147483647<n/\Hid (R=(0,0,10)))\/(bits=32/\-2147483648<=n/\n<=2147483647/\((k:Int)==10)=false/\Hid (R=(n,(a:Int)+(k:Int),0))) \/
    (bits=64/\((k:Int)==10)=false/\Hid (R=(n,(a:Int)+(k:Int),0)))\/(bits=64/\k=10/\(d != 0)=true/\(d != 127)=true/\Hid (R=(0,0,10))) \/
    (bits=64/\k=10/\(d != 0)=false/\Hid (R=(n,(a:Int)+(k:Int),0)))\/(bits=64/\k=10/\(d != 0)=true/\(d != 127)=false/\Hid (R=(n,(a:Int)+(k:Int),0))):=by
   simp only [wY,bne_iff_ne,bne_eq_false_iff_eq];rcases oh with rfl|rfl
   ·have:=DU rfl
    by_cases h:n < -2147483648
    ·exact .inl ⟨rfl,h,jT (by omega)⟩
    by_cases h':2147483647<n
    ·exact .inr (.inl ⟨rfl,by omega,h',jT (by omega)⟩)
    exact .inr (.inr (.inl ⟨rfl,by omega,by omega,by omega,qD (by omega)⟩))
   by_cases h:k=10
   ·by_cases h':d=0
    ·exact .inr (.inr (.inr (.inr (.inr (.inl ⟨rfl,h,h',qD (by omega)⟩)))))
    by_cases h'':d=127
    ·exact .inr (.inr (.inr (.inr (.inr (.inr ⟨rfl,h,h',h'',qD (by omega)⟩)))))
    exact .inr (.inr (.inr (.inr (.inl ⟨rfl,h,h',h'',jT (by omega)⟩))))
   exact .inr (.inr (.inr (.inl ⟨rfl,by omega,qD (by omega)⟩)))
  clear DU jT qD hks hc oh hR k2 k5 Sb;rcases qL with ⟨rfl,h1,HR⟩|⟨rfl,h1,h2,HR⟩|⟨rfl,h1,h2,h3,HR⟩|⟨rfl,h1,HR⟩|⟨rfl,rfl,h1,h2,HR⟩|⟨rfl,rfl,h1,HR⟩|⟨rfl,rfl,h1,h2,HR⟩
  all_goals
   go_enter func128,ntmps128;go_wp2_with fail;refine (fP hC).mono ?_;rintro e w1 ⟨rfl,hbel⟩;go_wp2_with fail;refine (fP HC _).mono ?_;rintro e w2 ⟨rfl,Sc⟩;have hcc:=λj=>Sc.cell (p:=⟨w1.heap.size,j,none⟩) (by simp);have hbf:AS w w2:=(hbel.alloc hbel.size _).trans (Sc.mono (by have:=hbel.size;simp;omega));go_wp2
   try (go_quiet (fail);go_wp2)
   go_ret3;exact ⟨Ke (by rw [fP HR]<;>rfl),by first|exact hbf|exact below_drewN hbf _⟩
 have Bn:af.asks s.size a bits=false:=by simpa using fQ
 have hread:af.jW s a bits=(0,0,1):=by unfold af.jW;rw [Bn];rfl
 rw [hread];clear hread fQ;go_enter func128,ntmps128;go_wp2_with fail;refine (Pw _ _ _ _ Bn).mono ?_;rintro e w1 ⟨rfl,hbel⟩;go_wp2;go_ret3;exact ⟨rfl,hbel.alloc hbel.size _⟩
end Go.Proofs.YtcfifbgemfladaaGreatDoor
namespace Go.Proofs.YtcfifbgemfladaaGreatDoor
open Go.RowKit au Go.Proofs.Tryz
set_option linter.unusedVariables false
theorem ac2 (op:Int) (w:AG) (h:op<=68):Calls prog 120 #[.int .i64 op] w λe w'=>e=.returned (.bool false)/\w'=w:=by
 have Cx:(op==167)=false:=ag (by omega);have Cy:(op==172)=false:=ag (by omega);have Cz:(op==173)=false:=ag (by omega);have CB:decide ((69:Int)<=op)=false:=aj;have CC:decide ((103:Int)<=op)=false:=aj;clear h;go_enter func120,ntmps120;go_wp2;go_ret;exact ⟨rfl,rfl⟩
theorem ac3 (op:Int) (w:AG) (h:69<=op/\op<=90):Calls prog 120 #[.int .i64 op] w λe w'=>e=.returned (.bool true)/\w'=w:=by
 have Cx:(op==167)=false:=ag (by omega);have Cy:(op==172)=false:=ag (by omega);have Cz:(op==173)=false:=ag (by omega);have CB:decide ((69:Int)<=op)=true:=ay;have Ff:decide (op<=(90:Int))=true:=ay;have CC:decide ((103:Int)<=op)=false:=aj;clear h;go_enter func120,ntmps120;go_wp2;go_ret;exact ⟨rfl,rfl⟩
theorem ac4 (op:Int) (w:AG) (h:91<=op/\op<=102):Calls prog 120 #[.int .i64 op] w λe w'=>e=.returned (.bool false)/\w'=w:=by
 have Cx:(op==167)=false:=ag (by omega);have Cy:(op==172)=false:=ag (by omega);have Cz:(op==173)=false:=ag (by omega);have CB:decide ((69:Int)<=op)=true:=ay;have Ff:decide (op<=(90:Int))=false:=aj;have CC:decide ((103:Int)<=op)=false:=aj;clear h;go_enter func120,ntmps120;go_wp2;go_ret;exact ⟨rfl,rfl⟩
theorem ac5 (op:Int) (w:AG) (h:103<=op/\op<=138):Calls prog 120 #[.int .i64 op] w λe w'=>e=.returned (.bool true)/\w'=w:=by
 have Cx:(op==167)=false:=ag (by omega);have Cy:(op==172)=false:=ag (by omega);have Cz:(op==173)=false:=ag (by omega);have CB:decide ((69:Int)<=op)=true:=ay;have Ff:decide (op<=(90:Int))=false:=aj;have CC:decide ((103:Int)<=op)=true:=ay;have Lj:decide (op<=(138:Int))=true:=ay;clear h;go_enter func120,ntmps120;go_wp2;go_ret;exact ⟨rfl,rfl⟩
theorem ac6 (op:Int) (w:AG) (h:139<=op/\op<=166):Calls prog 120 #[.int .i64 op] w λe w'=>e=.returned (.bool false)/\w'=w:=by
 have Cx:(op==167)=false:=ag (by omega);have Cy:(op==172)=false:=ag (by omega);have Cz:(op==173)=false:=ag (by omega);have CB:decide ((69:Int)<=op)=true:=ay;have Ff:decide (op<=(90:Int))=false:=aj;have CC:decide ((103:Int)<=op)=true:=ay;have Lj:decide (op<=(138:Int))=false:=aj;clear h;go_enter func120,ntmps120;go_wp2;go_ret;exact ⟨rfl,rfl⟩
theorem ac7 (op:Int) (w:AG) (h:167<=op/\op<=167):Calls prog 120 #[.int .i64 op] w λe w'=>e=.returned (.bool true)/\w'=w:=by
 obtain rfl:op=167:=by omega
 clear h;go_enter func120,ntmps120;go_wp2;go_ret;exact ⟨rfl,rfl⟩
theorem ac8 (op:Int) (w:AG) (h:168<=op/\op<=171):Calls prog 120 #[.int .i64 op] w λe w'=>e=.returned (.bool false)/\w'=w:=by
 have Cx:(op==167)=false:=ag (by omega);have Cy:(op==172)=false:=ag (by omega);have Cz:(op==173)=false:=ag (by omega);have CB:decide ((69:Int)<=op)=true:=ay;have Ff:decide (op<=(90:Int))=false:=aj;have CC:decide ((103:Int)<=op)=true:=ay;have Lj:decide (op<=(138:Int))=false:=aj;clear h;go_enter func120,ntmps120;go_wp2;go_ret;exact ⟨rfl,rfl⟩
theorem ac9 (op:Int) (w:AG) (h:172<=op/\op<=172):Calls prog 120 #[.int .i64 op] w λe w'=>e=.returned (.bool true)/\w'=w:=by
 obtain rfl:op=172:=by omega
 clear h;go_enter func120,ntmps120;go_wp2;go_ret;exact ⟨rfl,rfl⟩
theorem ada (op:Int) (w:AG) (h:173<=op/\op<=173):Calls prog 120 #[.int .i64 op] w λe w'=>e=.returned (.bool true)/\w'=w:=by
 obtain rfl:op=173:=by omega
 clear h;go_enter func120,ntmps120;go_wp2;go_ret;exact ⟨rfl,rfl⟩
theorem adb (op:Int) (w:AG) (h:174<=op):Calls prog 120 #[.int .i64 op] w λe w'=>e=.returned (.bool false)/\w'=w:=by
 have Cx:(op==167)=false:=ag (by omega);have Cy:(op==172)=false:=ag (by omega);have Cz:(op==173)=false:=ag (by omega);have CB:decide ((69:Int)<=op)=true:=ay;have Ff:decide (op<=(90:Int))=false:=aj;have CC:decide ((103:Int)<=op)=true:=ay;have Lj:decide (op<=(138:Int))=false:=aj;clear h;go_enter func120,ntmps120;go_wp2;go_ret;exact ⟨rfl,rfl⟩
theorem ade (op:Int) (w:AG):Calls prog 120 #[.int .i64 op] w λe w'=>e=.returned (.bool (dz op))/\w'=w:=by
 by_cases c0:op<=68
 ·rw [show dz op=false from aj (by omega)];exact ac2 op w (by omega)
 by_cases c1:op<=90
 ·rw [show dz op=true from ay (by omega)];exact ac3 op w (by omega)
 by_cases c2:op<=102
 ·rw [show dz op=false from aj (by omega)];exact ac4 op w (by omega)
 by_cases c3:op<=138
 ·rw [show dz op=true from ay (by omega)];exact ac5 op w (by omega)
 by_cases c4:op<=166
 ·rw [show dz op=false from aj (by omega)];exact ac6 op w (by omega)
 by_cases c5:op<=167
 ·rw [show dz op=true from ay (by omega)];exact ac7 op w (by omega)
 by_cases c6:op<=171
 ·rw [show dz op=false from aj (by omega)];exact ac8 op w (by omega)
 by_cases c7:op<=172
 ·rw [show dz op=true from ay (by omega)];exact ac9 op w (by omega)
 by_cases c8:op<=173
 ·rw [show dz op=true from ay (by omega)];exact ada op w (by omega)
 rw [show dz op=false from aj (by omega)];exact adb op w (by omega)
theorem ZA:fw (λ_=>True):=⟨λ_ _=>trivial,λop w _=>(ade op w).mono λe w' ⟨h1,h2⟩=>⟨h1,by rw [h2];exact AC _ _⟩⟩
end Go.Proofs.YtcfifbgemfladaaGreatDoor
namespace Go.Proofs.YtcfifbgemfladaaGreatDoor
open Go.RowKit au aI Go.Proofs.Tryz
set_option linter.unusedVariables false
set_option maxRecDepth 100000
set_option maxHeartbeats 2000000
namespace aI
structure RS (w0:AG) (p:Nat) (s:AH) (c:Nat->Value) (en k i n:Nat) (w:AG):Prop where
 below:AS w0 w
 base:w0.heap.size<=p
 blk:w.heap[p]?=some (.cells #[.string s,.int .i64 i,.int .i64 en,c 0,c 1,c 2,c 3,c 4,c 5,c 6,c 7,c 8,c 9,.int .i64 k,.int .i64 n] 79 (0,0))
 le:i<=en
 len:en<=s.size
 big:s.size<=262144
section
variable {w0 w w':AG} {p:Nat} {s:AH} {c:Nat->Value} {en k i n:Nat}
theorem RS.cell (h:RS w0 p s c en k i n w) (j:Nat) (v:Value) (hv:#[Value.string s,.int .i64 i,.int .i64 en,c 0,c 1,c 2,c 3,c 4,c 5,c 6,c 7,c 8,c 9,.int .i64 k,.int .i64 n][j]?=some v):w.cell? ⟨p,j,none⟩=some v:=by
 unfold World.cell?;rw [h.blk];exact hv
theorem RS.ax (h:RS w0 p s c en k i n w) (j:Nat):w.frozen? ⟨p,j,none⟩=false:=by unfold World.frozen?;rw [h.blk];simp
theorem RS.lt (h:RS w0 p s c en k i n w):p<w.heap.size:=(gX.1 h.blk).1
theorem RS.on (h:RS w0 p s c en k i n w) (hb:AS w w'):RS w0 p s c en k i n w' :=
 ⟨h.below.trans (hb.mono h.below.size),h.base,by rw [hb.block p h.lt];exact h.blk,h.le,h.len,h.big⟩
theorem RS.at_ (h:RS w0 p s c en k i n w) {j:Nat} (hj:j<=en):RS w0 p s c en k j n (w.setCell ⟨p,1,none⟩ (.int .i64 j)) :=
 ⟨h.below.setCell h.base _,h.base,heap_setCell_same w p 1 _ _ _ h.blk,hj,h.len,h.big⟩
theorem RS.num (h:RS w0 p s c en k i n w) (m:Nat):RS w0 p s c en k i m (w.setCell ⟨p,14,none⟩ (.int .i64 m)) :=
 ⟨h.below.setCell h.base _,h.base,heap_setCell_same w p 14 _ _ _ h.blk,h.le,h.len,h.big⟩
theorem But.refl (p:Nat) (w:AG):But p w w:=⟨rfl,rfl,rfl,aC _,λ_ _ _=>rfl⟩
theorem But.of (p:Nat) (hb:AS w w'):But p w w':=⟨hb.os,hb.tape,hb.output,hb.size,λk hk _=>hb.block k hk⟩
theorem But.trans {u:AG} (h:But p w w') (h':But p w' u):But p w u :=
 ⟨h'.os.trans h.os,h'.tape.trans h.tape,h'.output.trans h.output,eU h.size h'.size,λk hk hp=>(h'.block k (jg hk h.size) hp).trans (h.block k hk hp)⟩
theorem But.set (p j:Nat) (w:AG) (v:Value):But p w (w.setCell ⟨p,j,none⟩ v) :=
 ⟨rfl,rfl,rfl,by simp,λk hk hp=>Below.heap_setCell _ _ _ _ (λe=>hp (by rw [e]))⟩
end
def cz {α:Type} (w0:AG) (p:Nat) (s:AH) (c:Nat->Value) (en k n:Nat) (V:α->Value->AG->Prop) (w:AG) (x:R α) (e:Ending) (w':AG):Prop :=
 match x with
 | .ok (a,j)=>(∃v,e=.returned v/\V a v w')/\RS w0 p s c en k j n w'/\But p w w'
 | .error z=>e=.panicked (gave z)/\AS w0 w'
def BQ (a:Int) (v:Value) (_:AG):Prop:=v=.int .i64 a
def Ko (_:Unit) (v:Value) (_:AG):Prop:=v=.tuple #[]
end aI
theorem Ry (c:Bool) (k:Int) (w:AG):Calls prog 21 #[.bool c,.int .i64 k] w λe w'=>Dj c k e/\w'=w:=by
 cases c
 ·go_enter func21,ntmps21;go_wp2;exact ⟨rfl,.inr ⟨rfl,rfl⟩,rfl⟩
 go_enter func21,ntmps21;go_wp2;go_end0;exact ⟨.inl ⟨rfl,rfl⟩,rfl⟩
theorem dA (k:Int) (w:AG):Calls prog 21 #[.bool true,.int .i64 k] w λe w'=>e=.returned (.tuple #[])/\w'=w :=
 (Ry true k w).mono λe w' h=>⟨h.1.yes,h.2⟩
theorem iX (k:Int) (w:AG):Calls prog 21 #[.bool false,.int .i64 k] w λe w'=>e=.panicked (gave k)/\w'=w :=
 (Ry false k w).mono λe w' h=>⟨h.1.no,h.2⟩
def nG (p i en:Nat):Nat->Value
 | 0=>.pointer (some ⟨p,0,none⟩)
 | 1=>.pointer (some ⟨p,0,none⟩)
 | 2=>.pointer (some ⟨p,1,none⟩)
 | 3=>.int .i64 i
 | 4=>.pointer (some ⟨p,0,none⟩)
 | 5=>.pointer (some ⟨p,0,none⟩)
 | 6=>.pointer (some ⟨p,2,none⟩)
 | 7=>.int .i64 en
 | _=>.bool false
theorem xO (w0:AG) (p:Nat) (s:AH) (c:Nat->Value) (en k i n:Nat) (w:AG) (h:RS w0 p s c en k i n w) :
  Calls prog 48 #[.pointer (some ⟨p,0,none⟩)] w (cz w0 p s c en k n BQ w (nx s en i)):=by
 have c0:=h.cell 0 _ rfl;have c1:=h.cell 1 _ rfl;have c2:=h.cell 2 _ rfl;have f1:=h.ax 1;have H:=aa h;have hle:=h.len;have hbig:=h.big;by_cases hi:i<en
 ·have e:nx s en i=.ok (af.bt s i,i+1):=by unfold nx;rw [AE hi]
  rw [e];have hl:decide ((i:Int)<(en:Int))=true:=ay;have hg:=af.get_bt s;have HF:Hid (∀u,AS w u->RS w0 p s c en k (i+1) n (u.setCell ⟨p,1,none⟩ (.int .i64 ((i:Int)+1)))/\But p w (u.setCell ⟨p,1,none⟩ (.int .i64 ((i:Int)+1)))):=aa (λu hb=>⟨(H.out.on hb).at_ (j:=i+1) (by omega),(But.of p hb).trans (But.set p 1 u _)⟩);have his:i<s.size:=by omega
  clear e h;go_enter func48,ntmps48;go_wp2_with fail;go_quiet (first|(go_at_call 21;exact Calls.quiet_of_same (dA _ _)))
  go_wp2_with fail;go_quiet (fail);go_wp2;go_ret;have hw:wrap64 (af.bt s i)=af.bt s i:=by have:=af.xL s i;unfold wrap64;omega
  exact ⟨⟨_,rfl,by show Value.int .i64 (wrap64 (af.bt s i))=_;rw [hw]⟩,(HF.out _ (mE w _)).1,(HF.out _ (mE w _)).2⟩
 have e:nx s en i=.error 50:=by unfold nx;rw [AD hi]
 rw [e];have hl:decide ((i:Int)<(en:Int))=false:=aj;clear e h;go_enter func48,ntmps48;go_wp2_with fail;refine ai.oQ 9 (λi=>4+i) (λj v _=>v=nG p i en j) (by kernel_rfl) (by kernel_rfl) (λi j h1 h2 h=>by have h':4+i=4+j:=h;omega) (ai.lJ (size:=32) (by kernel_rfl)) (λi v w w' _ h _=>h) ?hstep ?cO
 case hstep =>
  intro j o a u hj ho hF hB hd;have f0:a.tmps[0]?.getD undef=.pointer (some ⟨p,0,none⟩):=ai.aB (hF.eval 0 (λi hi=>by show 4+i≠0;omega));have d1:=ak hB c1;have d2:=ak hB c2;have hcase:j=0\/j=1\/j=2\/j=3\/j=4\/j=5\/j=6\/j=7\/j=8:=by omega
  clear hj c0 c1 c2 f1;rcases hcase with rfl|rfl|rfl|rfl|rfl|rfl|rfl|rfl|rfl
  all_goals (simp only [gz,gU,gV,gN] at ho;subst ho;refine ai.aO λK hK=>?_)
  ·go_simp;exact hK _ _ ⟨_,rfl,AC _ _,rfl⟩
  ·have q:a.tmps[4]?.getD undef=.pointer (some ⟨p,0,none⟩):=ai.aB (hd 0 (by decide));go_simp;exact hK _ _ ⟨_,rfl,AC _ _,rfl⟩
  ·have q:a.tmps[5]?.getD undef=.pointer (some ⟨p,0,none⟩):=ai.aB (hd 1 (by decide));go_simp;exact hK _ _ ⟨_,rfl,AC _ _,rfl⟩
  ·have q:a.tmps[6]?.getD undef=.pointer (some ⟨p,1,none⟩):=ai.aB (hd 2 (by decide));go_simp;exact hK _ _ ⟨_,rfl,AC _ _,rfl⟩
  ·go_simp;exact hK _ _ ⟨_,rfl,AC _ _,rfl⟩
  ·have q:a.tmps[8]?.getD undef=.pointer (some ⟨p,0,none⟩):=ai.aB (hd 4 (by decide));go_simp;exact hK _ _ ⟨_,rfl,AC _ _,rfl⟩
  ·have q:a.tmps[9]?.getD undef=.pointer (some ⟨p,0,none⟩):=ai.aB (hd 5 (by decide));go_simp;exact hK _ _ ⟨_,rfl,AC _ _,rfl⟩
  ·have q:a.tmps[10]?.getD undef=.pointer (some ⟨p,2,none⟩):=ai.aB (hd 6 (by decide));go_simp;exact hK _ _ ⟨_,rfl,AC _ _,rfl⟩
  have q:a.tmps[7]?.getD undef=.int .i64 i:=ai.aB (hd 3 (by decide));have q2:a.tmps[11]?.getD undef=.int .i64 en:=ai.aB (hd 7 (by decide));go_simp;exact hK _ _ ⟨_,rfl,AC _ _,rfl⟩
 case cO =>
  intro a u hF hB hG;have q:a.tmps[12]?.getD undef=.bool false:=ai.aB (hG 8 (by decide));simp only [iw,gP];refine wpList_plain rfl λK hK=>?_;go_simp;refine (iX _ _).mono ?_;rintro e u2 ⟨rfl,rfl⟩;exact ⟨hF.defers,rfl,H.out.below.trans (hB.mono H.out.below.size)⟩
end Go.Proofs.YtcfifbgemfladaaGreatDoor

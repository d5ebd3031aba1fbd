/- Texts that the claim needs. -/
import Derived.Test.YtmfcojpjpgldhaaGreatDoorQEBy0
import Derived.WalkKit
import Derived.Laws.BytesArg
import Derived.Laws.BitsAllLaws
import Derived.Test.YtmfcojpjpgldhaaGreatDoorRows
import Derived.WalkSpells
import Derived.BigQuiet
import Derived.Deep.QuietTactic
import Derived.WalkSmall
import Derived.Test.YtmfcojpjpgldhaaGreatDoorQEBy8
import Derived.Lib.AppendStr
namespace Go.Proofs.YtmfcojpjpgldhaaGreatDoor
namespace ak
def uG:Nat->Int->List Int
 | 0,n=>[n%128]
 | f+1,n=>if n<128 then [n%128] else (n%128+128) :: uG f (n / 128)
def uB (n:Int):List Int:=uG n.toNat n
theorem Ky:∀(f g:Nat) (n:Int),0<=n->n.toNat<=f->n.toNat<=g->uG f n=uG g n
 | 0,0,_,_,_,_=>rfl
 | 0,g+1,n,h,hf,_=>by
  have:n<128:=by omega
  simp [uG,this]
 | f+1,0,n,h,_,hg=>by
  have:n<128:=by omega
  simp [uG,this]
 | f+1,g+1,n,h,hf,hg=>by
  simp only [uG];split
  ·rfl
  rw [Ky f g (n / 128) (by omega) (by omega) (by omega)]
theorem yh {n:Int} (h0:0<=n) (h:n<128):uB n = [n]:=by
 have e:n%128=n:=by omega
 unfold uB;cases n.toNat<;>simp [uG,h,e]
theorem Aw {n:Int} (h:128<=n):uB n=(n%128+128) :: uB (n / 128):=by
 have hn:∃f,n.toNat=f+1:=⟨n.toNat-1,by omega⟩;obtain ⟨f,hf⟩:=hn;unfold uB;rw [hf];simp only [uG];rw [if_neg (by omega),Ky f (n / 128).toNat (n / 128) (by omega) (by omega) (by omega)]
def uH:Nat->Int->List Int
 | 0,n=>[n%128]
 | f+1,n=>if -64<=n/\n<=63 then [n%128] else (n%128+128) :: uH f (n / 128)
def sB (n:Int):List Int:=uH n.natAbs n
theorem Kz:∀(f g:Nat) (n:Int),n.natAbs<=f->n.natAbs<=g->uH f n=uH g n
 | 0,0,_,_,_=>rfl
 | 0,g+1,n,hf,_=>by
  have:-64<=n/\n<=63:=by omega
  simp [uH,this]
 | f+1,0,n,_,hg=>by
  have:-64<=n/\n<=63:=by omega
  simp [uH,this]
 | f+1,g+1,n,hf,hg=>by
  simp only [uH];split
  ·rfl
  rw [Kz f g (n / 128) (by omega) (by omega)]
theorem Ay {n:Int} (h:-64<=n/\n<=63):sB n = [n%128]:=by
 unfold sB;cases n.natAbs<;>simp [uH,h]
theorem D9 {n:Int} (h:¬ (-64<=n/\n<=63)):sB n=(n%128+128) :: sB (n / 128):=by
 have hn:∃f,n.natAbs=f+1:=⟨n.natAbs-1,by omega⟩;obtain ⟨f,hf⟩:=hn;unfold sB;rw [hf];simp only [uH];rw [if_neg h,Kz f (n / 128).natAbs (n / 128) (by omega) (by omega)]
theorem KA:∀(j:Nat) (n:Int),0<=n->n<128 ^ (j+1)->(uB n).length<=j+1
 | 0,n,h0,h=>by rw [yh h0 (by simpa using h)];simp
 | j+1,n,h0,h=>by
  by_cases hs:n<128
  ·rw [yh h0 hs];simp
  rw [Aw (by omega)]
  have hd:n / 128<128 ^ (j+1):=by
   have e:(128:Int) ^ (j+1+1)=128 ^ (j+1)*128:=by rw [Int.pow_succ]
   rw [e] at h;omega
  have:=KA j (n / 128) (by omega) hd
  simp;omega
theorem yt (n:Int):0<(uB n).length:=by
 unfold uB;cases n.toNat with
 | zero=>simp [uG]
 | succ f=>simp only [uG];split<;>simp
theorem KD:∀(j:Nat) (n:Int),-(64*128 ^ j)<=n->n<64*128 ^ j->(sB n).length<=j+1
 | 0,n,h0,h=>by
  have h0':-64<=n:=by simpa using h0
  have h':n<64:=by simpa using h
  rw [Ay ⟨h0',by omega⟩];simp
 | j+1,n,h0,h=>by
  by_cases hs:-64<=n/\n<=63
  ·rw [Ay hs];simp
  rw [D9 hs];have e:(128:Int) ^ (j+1)=128 ^ j*128:=by rw [Int.pow_succ]
  rw [e] at h h0
  have:=KD j (n / 128) (by omega) (by omega)
  simp;omega
theorem Ej (n:Int):0<(sB n).length:=by
 unfold sB;cases n.natAbs with
 | zero=>simp [uH]
 | succ f=>simp only [uH];split<;>simp
theorem gT {n:Int} (h0:0<=n) (h:n<=18446744073709551615):(uB n).length<=10:=by
 have e:(128:Int) ^ 10=1180591620717411303424:=by decide
 exact KA 9 n h0 (by show n<128 ^ 10;rw [e];omega)
theorem Ck {n:Int} (h0:-9223372036854775808<=n) (h:n<=9223372036854775807):(sB n).length<=10:=by
 have e:(64:Int)*128 ^ 9=590295810358705651712:=by decide
 exact KD 9 n (by rw [e];omega) (by rw [e];omega)
end ak
end Go.Proofs.YtmfcojpjpgldhaaGreatDoor
namespace Go.Proofs.YtmfcojpjpgldhaaGreatDoor
open Go.RowKit
namespace ak
theorem Zc (x:Int):((BitVec.ofInt 64 x).toNat:Int)=x%18446744073709551616:=by
 rw [BitVec.toNat_ofInt];have h:0<=x%18446744073709551616:=Int.emod_nonneg _ (by decide);have e:((2 ^ 64:Nat):Int)=18446744073709551616:=by decide
 rw [e];omega
theorem XQ (n:Int) (h0:0<=n) (h1:n<=18446744073709551615):bits .and .u64 n 127=n%128:=by
 rw [u64_and n 127 h0 (by omega) (by decide) (by decide)];have e:(127:Int).toNat=127:=rfl;rw [e,nat_mask7];omega
theorem XR (n:Int):bits .and .i64 n 127=n%128:=by
 have h:=Zc n;show IntKind.i64.wrap (((BitVec.ofInt 64 n &&& BitVec.ofInt 64 127).toNat:Nat):Int)=_;have e:(BitVec.ofInt 64 127).toNat=127:=by decide
 rw [BitVec.toNat_and,e,nat_mask7,IntKind.wrap_i64];omega
theorem H9 (p:Nat->Bool) (h:(List.range 256).all p=true) (c:Int) (h0:0<=c) (h1:c<=255):p c.toNat=true:=by
 rw [iF] at h;exact h _ (List.mem_range.2 (by omega))
theorem XS (c:Int) (h0:0<=c) (h1:c<=255):bits .and .u8 c 127=c%128:=by
 have:=H9 (λn=>bits .and .u8 (n:Int) 127==(n:Int)%128) (by decide +kernel) c h0 h1
 simp only [beq_iff_eq] at this;rwa [Int.toNat_of_nonneg h0] at this
theorem EO (c:Int) (h0:0<=c) (h1:c<=255):bits .or .u8 c 128=c%128+128:=by
 have:=H9 (λn=>bits .or .u8 (n:Int) 128==(n:Int)%128+128) (by decide +kernel) c h0 h1
 simp only [beq_iff_eq] at this;rwa [Int.toNat_of_nonneg h0] at this
theorem Mm (c:Int) (h0:0<=c) (h1:c<=255):bits .and .u8 c 64=if 64<=c%128 then 64 else 0:=by
 have:=H9 (λn=>bits .and .u8 (n:Int) 64==if 64<=(n:Int)%128 then 64 else 0) (by decide +kernel) c h0 h1
 simp only [beq_iff_eq] at this;rwa [Int.toNat_of_nonneg h0] at this
end ak
end Go.Proofs.YtmfcojpjpgldhaaGreatDoor
namespace Go.Proofs.YtmfcojpjpgldhaaGreatDoor
open Go.RowKit Go.Proofs.Tryz
set_option maxRecDepth 100000
set_option maxHeartbeats 1000000
theorem EN:(prog.info? 5).map (λi=>(i.zero,i.size,i.bytes))=some (some (.int .u8 0),1,1):=by kernel_rfl
theorem Hh {a b:Int} {p q:Bool} (h:a=b) (h':p=q):Ending.returned (.tuple #[.int .u8 a,.bool p])=.returned (.tuple #[.int .u8 b,.bool q]):=by rw [h,h']
theorem Av {w:World} {base:Nat} {v:Value} {n:Nat} {xs:List Int} (h:w.ownsRow base 5 1 v n (xs.map (Value.int .u8))) (hn:0<n) :
  ∃g cap,v=.slice (some ⟨g,0,none⟩) n cap/\(convert 59 9 (.slice (some ⟨g,0,none⟩) n cap)).run prog w=.ok (.string (strOfNums xs)) w:=by
 have hl:=h.1;simp only [oI,Nat.mul_one] at hl;rcases h.2 with ⟨_,h0⟩|⟨g,cap,cur,hv,_⟩
 ·omega
 refine ⟨g,cap,hv,?_⟩;subst hv;refine run_convert_bytes_arg w 59 5 underlying59 underlying5 g 0 n cap xs hl (λi hi=>?_) 9 underlying9
 have:=h.cellAt i (by omega)
 rw [Nat.zero_add,this];have hi':i<xs.length:=by omega
 simp [aY hi',List.getD]
theorem c19 (b:Nat) (n:Int) (w:World) (h0:0<=n) (h1:n<=18446744073709551615) (hc:w.cell? ⟨b,0,none⟩=some (.int .u64 n)) (hf:w.frozen? ⟨b,0,none⟩=false) :
  Calls prog 111 #[.pointer (some ⟨b,0,none⟩)] w λe w' =>
   e=.returned (.tuple #[.int .u8 (n%128),.bool (decide (n<128))])/\∃k,w'=(w.setCell ⟨b,0,none⟩ (.int .u64 (n / 128))).drewN k:=by
 have hm:=ak.XQ n h0 h1;go_enter func111,ntmps111;go_wp2;go_quiet (fail);go_wp2;go_ret2;refine ⟨Hh (by omega) ?_,_,rfl⟩;rw [Bool.eq_iff_iff];simp;omega
theorem yQ {w wr w1:World} {base B:Nat} {v v':Value} {bs:List Int} {x:Int} {o:Obj} (hown:wr.ownsRow base 5 1 v bs.length (bs.map (Value.int .u8)))
  (hown':w1.ownsRow base 5 1 v' (bs.length+1) (bs.map (Value.int .u8)++[.int .u8 x])) (hgrow:(wr.alloc o).grownBy w1 v.ownBlock) (hbel:Below B w wr) (hB:B<=base) (hs:B<=wr.heap.size) :
  w1.ownsRow base 5 1 v' (bs++[x]).length ((bs++[x]).map (Value.int .u8))/\Below B w w1 :=
 ⟨by simpa using hown',(hbel.alloc hs o).grown hgrow (by simp;omega) (λj hj=>by have:=(hown.lt j hj).1;omega)⟩
theorem vB (w:World) (x:Value) (t:TypeId):∀(j:Nat) (u:Value),[x][j]?=some u->(w.alloc (.cells #[x] t)).cell? ((⟨w.heap.size,0,none⟩:Addr).add j)=some u:=by
 intro j u hj
 match j,hj with
 | 0,hj=>simp at hj;subst hj;simp [Addr.add]
theorem VS (n:Int) (w:World) (h0:0<=n) (h1:n<=18446744073709551615) :
  Calls prog 116 #[.int .u64 n] w λe w'=>e=.returned (.string (strOfNums (ak.uB n)))/\Below w.heap.size w w':=by
 obtain ⟨i0,hi,hz0,hz1,hz2⟩:=info_parts EN;go_enter func116,ntmps116;go_wp2
 go_loopw [0,3] (λx v wr=>∃(m:Int) (bs:List Int),0<=m/\m<=18446744073709551615/\x=.int .u64 m/\bs++ak.uB m=ak.uB n/\wr.ownsRow w.heap.size 5 1 v bs.length (bs.map (Value.int .u8))/\Below w.heap.size w wr)
  (λx _ _=>(RowKit.intOf x).toNat)
 case atStart=>exact ⟨n,[],h0,h1,rfl,rfl,World.ownsRow_nil _ _ _ _,Below.refl _ _⟩
 case round =>
  obtain ⟨m,bs,hm0,hm1,rfl,hbs,hown,hbel⟩:=hrel;have hlen:bs.length+(ak.uB m).length<=10:=by rw [<- aB,hbs];exact ak.gT h0 h1
  have hpos:=ak.yt m;have HB:Hid (bs++ak.uB m=ak.uB n):=hbs;clear hbs;have hsz:=hbel.size;by_cases hlt:m<128
  ·go_wp2_with (first|(at_builtin;refine wpList_append_own _ rfl _ _ 59 rfl w.heap.size 5 i0 (.int .u8 0) 1 1 underlying59 hi hz0 hz1 hz2 rfl (by decide) _ _ _ rfl (hown.alloc _) ⟨wr.heap.size,0,none⟩ 1 1 [.int .u8 m] rfl rfl (vB _ _ _) ?c2 ?c3 ?c4 ?c5 ?_))
   case c2=>intro u hu;simp at hu;subst hu;rfl
   case c3=>unfold maxLen;omega
   case c4=>omega
   case c5=>first|omega|(simp;omega)
   intro v' w1 hown' hgrow _;obtain ⟨ho,hb⟩:=yQ hown hown' hgrow hbel (aI _) hsz;have hfin:bs++[m]=ak.uB n:=by rw [<- HB.out,ak.yh hm0 hlt]
   rw [hfin] at ho;clear HB hown hown' hgrow hbel hfin;obtain ⟨g,cap,rfl,hcv⟩:=Av ho (ak.yt n);clear ho;go_wp2;go_ret;exact ⟨rfl,hb⟩
  have yI:bits .or .u8 (m%256) 128=m%128+128:=by rw [ak.EO _ (by omega) (by omega)];omega
  go_wp2_with (first|(at_builtin;refine wpList_append_own _ rfl _ _ 59 rfl w.heap.size 5 i0 (.int .u8 0) 1 1 underlying59 hi hz0 hz1 hz2 rfl (by decide) _ _ _ rfl (hown.alloc _) ⟨wr.heap.size,0,none⟩ 1 1 [.int .u8 (m%128+128)] rfl rfl (vB _ _ _) ?d2 ?d3 ?d4 ?d5 ?_))
  case d2=>first|rfl|(intro u hu;simp at hu;subst hu;rfl)
  case d3=>unfold maxLen;omega
  case d4=>omega
  case d5=>first|omega|(simp;omega)
  intro v' w1 hown' hgrow _;obtain ⟨ho,hb⟩:=yQ hown hown' hgrow hbel (aI _) hsz;have hfin:(bs++[m%128+128])++ak.uB (m / 128)=ak.uB n:=by rw [<- HB.out,ak.Aw (by omega:128<=m)];simp
  have pK:Hid ((bs++[m%128+128])++ak.uB (m / 128)=ak.uB n):=hfin;clear HB hown hown' hgrow hbel hfin;go_wp2;go_roundw
  case rel=>exact ⟨m / 128,bs++[m%128+128],by omega,by omega,rfl,pK.out,ho,hb⟩
  case measure=>simp [RowKit.intOf];omega
theorem FV (b:Nat) (n:Int) (w:World) (h0:-9223372036854775808<=n) (h1:n<=9223372036854775807) (hc:w.cell? ⟨b,0,none⟩=some (.int .i64 n)) (hf:w.frozen? ⟨b,0,none⟩=false) :
  Calls prog 131 #[.pointer (some ⟨b,0,none⟩)] w λe w' =>
   e=.returned (.tuple #[.int .u8 (n%128),.bool (decide (-64<=n/\n<=63))])/\∃k,w'=(w.setCell ⟨b,0,none⟩ (.int .i64 (n / 128))).drewN k:=by
 have hm:=ak.XR n;have h6:bits .and .u8 (n%128%256) 64=if 64<=n%128 then 64 else 0:=by rw [ak.Mm _ (by omega) (by omega)];congr 1;rw [eq_iff_iff];omega
 have h6':bits .and .u8 (n%128) 64=if 64<=n%128 then 64 else 0:=by rw [ak.Mm _ (by omega) (by omega)];congr 1;rw [eq_iff_iff];omega
 by_cases h:64<=n%128
 ·rw [if_pos h] at h6 h6';go_enter func131,ntmps131;go_wp2;go_quiet (fail);go_wp2;go_ret2;refine ⟨Hh (by omega) ?_,_,rfl⟩;rw [Bool.eq_iff_iff];simp;omega
 rw [if_neg h] at h6 h6';go_enter func131,ntmps131;go_wp2;go_quiet (fail);go_wp2;go_ret2;refine ⟨Hh (by omega) ?_,_,rfl⟩;rw [Bool.eq_iff_iff];simp;omega
theorem VT (n:Int) (w:World) (h0:-9223372036854775808<=n) (h1:n<=9223372036854775807) :
  Calls prog 130 #[.int .i64 n] w λe w'=>e=.returned (.string (strOfNums (ak.sB n)))/\Below w.heap.size w w':=by
 obtain ⟨i0,hi,hz0,hz1,hz2⟩:=info_parts EN;go_enter func130,ntmps130;go_wp2
 go_loopw [0,3] (λx v wr=>∃(m:Int) (bs:List Int),-9223372036854775808<=m/\m<=9223372036854775807/\x=.int .i64 m/\bs++ak.sB m=ak.sB n/\wr.ownsRow w.heap.size 5 1 v bs.length (bs.map (Value.int .u8))/\Below w.heap.size w wr)
  (λx _ _=>(RowKit.intOf x).natAbs)
 case atStart=>exact ⟨n,[],h0,h1,rfl,rfl,World.ownsRow_nil _ _ _ _,Below.refl _ _⟩
 case round =>
  obtain ⟨m,bs,hm0,hm1,rfl,hbs,hown,hbel⟩:=hrel;have hlen:bs.length+(ak.sB m).length<=10:=by rw [<- aB,hbs];exact ak.Ck h0 h1
  have hpos:=ak.Ej m;have HB:Hid (bs++ak.sB m=ak.sB n):=hbs;clear hbs;have hsz:=hbel.size;by_cases hlt:-64<=m/\m<=63
  ·have hma:bits .and .u8 (m%256) 127=m%128:=by rw [ak.XS _ (by omega) (by omega)];omega
   have hlt':=hlt;obtain ⟨ha,hb⟩:=hlt';have HL:Hid (-64<=m/\m<=63):=hlt;clear hlt;go_wp2_with (first|(at_builtin;refine wpList_append_own _ rfl _ _ 59 rfl w.heap.size 5 i0 (.int .u8 0) 1 1 underlying59 hi hz0 hz1 hz2 rfl (by decide) _ _ _ rfl (hown.alloc _) ⟨wr.heap.size,0,none⟩ 1 1 [.int .u8 (m%128)] rfl rfl (vB _ _ _) ?c2 ?c3 ?c4 ?c5 ?_))
   case c2=>first|rfl|(intro u hu;simp at hu;subst hu;rfl)
   case c3=>unfold maxLen;omega
   case c4=>omega
   case c5=>first|omega|(simp;omega)
   intro v' w1 hown' hgrow _;obtain ⟨ho,hb⟩:=yQ hown hown' hgrow hbel (aI _) hsz;have hfin:bs++[m%128]=ak.sB n:=by rw [<- HB.out,ak.Ay HL.out]
   rw [hfin] at ho;clear HB hown hown' hgrow hbel hfin;obtain ⟨g,cap,rfl,hcv⟩:=Av ho (ak.Ej n);clear ho;go_wp2;go_ret;exact ⟨rfl,hb⟩
  have yI:bits .or .u8 (m%256) 128=m%128+128:=by rw [ak.EO _ (by omega) (by omega)];omega
  have HL:Hid (¬ (-64<=m/\m<=63)):=hlt;have XT:m < -64\/(-64<=m/\63<m):=by omega
  clear hlt;rcases XT with ha|⟨ha,ha'⟩
  all_goals
   go_wp2_with (first|(at_builtin;refine wpList_append_own _ rfl _ _ 59 rfl w.heap.size 5 i0 (.int .u8 0) 1 1 underlying59 hi hz0 hz1 hz2 rfl (by decide) _ _ _ rfl (hown.alloc _) ⟨wr.heap.size,0,none⟩ 1 1 [.int .u8 (m%128+128)] rfl rfl (vB _ _ _) (by intro u hu;simp at hu;subst hu;rfl) (by unfold maxLen;omega) (by omega) (by first|omega|(simp;omega)) ?_))
   intro v' w1 hown' hgrow _;obtain ⟨ho,hb⟩:=yQ hown hown' hgrow hbel (aI _) hsz;have hfin:(bs++[m%128+128])++ak.sB (m / 128)=ak.sB n:=by rw [<- HB.out,ak.D9 HL.out];simp
   have pK:Hid ((bs++[m%128+128])++ak.sB (m / 128)=ak.sB n):=hfin;clear HB hown hown' hgrow hbel hfin;go_wp2;go_roundw
   case rel=>exact ⟨m / 128,bs++[m%128+128],by omega,by omega,rfl,pK.out,ho,hb⟩
   case measure=>simp [RowKit.intOf];omega
def lenOf:Value->Nat | .slice _ n _=>n|_=>0
theorem EM {w:World} {base e size:Nat} {v:Value} {n:Nat} {xs:List Value} (h:w.ownsRow base e size v n xs):lenOf v=n:=by
 rcases h.2 with ⟨rfl,rfl⟩|⟨g,cap,cur,rfl,_⟩<;>rfl
theorem Mc (b base:Nat) (m:Int) (q:Bool) (v:Value) (n:Nat) (xs:List Value) (w wr:World) (h0:0<=m) (h1:m<=18446744073709551615) (hq:decide (m<128)=q)
  (hblk:wr.heap[b]?=some (.cells #[.int .u64 m] 106 (0,0))) (hown:wr.ownsRow base 5 1 v n xs) (hb:b<base) (hbel:Below b w wr) :
  Calls prog 111 #[.pointer (some ⟨b,0,none⟩)] wr λe w' =>
   e=.returned (.tuple #[.int .u8 (m%128),.bool q])/\w'.heap[b]?=some (.cells #[.int .u64 (m / 128)] 106 (0,0))/\w'.ownsRow base 5 1 v n xs/\Below b w w'/\wr.heap.size<=w'.heap.size:=by
 refine (c19 b m wr h0 h1 (cell_of_one hblk) (free_of_one hblk)).mono ?_;rintro e w' ⟨rfl,k,rfl⟩;refine ⟨by rw [hq],one_setCell hblk,ownsRow_setCell_below hown hb _,below_drewN (hbel.setCell (aI _) _) k,?_⟩;simp [World.setCell]
theorem Md (b base:Nat) (m:Int) (q:Bool) (v:Value) (n:Nat) (xs:List Value) (w wr:World) (h0:-9223372036854775808<=m) (h1:m<=9223372036854775807) (hq:decide (-64<=m/\m<=63)=q)
  (hblk:wr.heap[b]?=some (.cells #[.int .i64 m] 2 (0,0))) (hown:wr.ownsRow base 5 1 v n xs) (hb:b<base) (hbel:Below b w wr) :
  Calls prog 131 #[.pointer (some ⟨b,0,none⟩)] wr λe w' =>
   e=.returned (.tuple #[.int .u8 (m%128),.bool q])/\w'.heap[b]?=some (.cells #[.int .i64 (m / 128)] 2 (0,0))/\w'.ownsRow base 5 1 v n xs/\Below b w w'/\wr.heap.size<=w'.heap.size:=by
 refine (FV b m wr h0 h1 (cell_of_one hblk) (free_of_one hblk)).mono ?_;rintro e w' ⟨rfl,k,rfl⟩;refine ⟨by rw [hq],one_setCell hblk,ownsRow_setCell_below hown hb _,below_drewN (hbel.setCell (aI _) _) k,?_⟩;simp [World.setCell]
theorem Me {wr w1:World} {base b n:Nat} {v:Value} {xs:List Value} {o:Obj} {x:Obj} (hown:wr.ownsRow base 5 1 v n xs) (hgrow:(wr.alloc o).grownBy w1 v.ownBlock) (hb:b<base) (hblk:wr.heap[b]?=some x) :
  w1.heap[b]?=some x:=by
 have hlt:=lt_of_block hblk;rw [hgrow.block b (by simp;omega) (λh=>by have:=hown.lt b h.symm;omega),Below.heap_alloc _ _ _ hlt];exact hblk
theorem Xp (b:Nat) (n:Int) (w:World) (h0:0<=n) (h1:n<=18446744073709551615) (xC:w.heap[b]?=some (.cells #[.int .u64 n] 106 (0,0))) :
  Calls prog 110 #[.func (.func 111) #[] #[.pointer (some ⟨b,0,none⟩)]] w λe w'=>e=.returned (.string (strOfNums (ak.uB n)))/\Below b w w':=by
 obtain ⟨i0,hi,hz0,hz1,hz2⟩:=info_parts EN;have hbs:=lt_of_block xC;go_enter func110,ntmps110;go_wp2
 go_loopw [3] (λv wr=>∃(m:Int) (bs:List Int),0<=m/\m<=18446744073709551615/\bs++ak.uB m=ak.uB n/\wr.heap[b]?=some (.cells #[.int .u64 m] 106 (0,0))/\wr.ownsRow w.heap.size 5 1 v bs.length (bs.map (Value.int .u8))/\Below b w wr)
  (λv _=>10-lenOf v)
 case atStart=>exact ⟨n,[],h0,h1,rfl,xC,World.ownsRow_nil _ _ _ _,Below.refl _ _⟩
 case round =>
  obtain ⟨m,bs,hm0,hm1,zT,hblk,hown,hbel⟩:=hrel;have hlen:bs.length+(ak.uB m).length<=10:=by rw [<- aB,zT];exact ak.gT h0 h1
  have hpos:=ak.yt m;have hlo:=EM hown;have Ha:Hid (lenOf u3=bs.length):=hlo;have HB:Hid (bs++ak.uB m=ak.uB n):=zT;have HK:Hid (w.heap[b]?=some (.cells #[.int .u64 n] 106 (0,0))):=xC;clear zT xC hlo;have hsz:=hbel.size;by_cases hlt:m<128
  ·go_wp2_with fail;refine (Mc b w.heap.size m true _ _ _ w wr hm0 hm1 (by simpa using hlt) hblk hown hbs hbel).mono ?_;rintro e w2 ⟨rfl,hblk2,hown2,uW,Hb⟩;clear hblk hown hbel hblk2;go_wp2_with (first|(at_builtin;refine wpList_append_own _ rfl _ _ 59 rfl w.heap.size 5 i0 (.int .u8 0) 1 1 underlying59 hi hz0 hz1 hz2 rfl (by decide) _ _ _ rfl (hown2.alloc _) ⟨w2.heap.size,0,none⟩ 1 1 [.int .u8 (m%128)] rfl rfl (vB _ _ _) ?c2 ?c3 ?c4 ?c5 ?_))
   case c2=>first|rfl|(intro u hu;simp at hu;subst hu;rfl)
   case c3=>unfold maxLen;omega
   case c4=>omega
   case c5=>first|omega|(simp;omega)
   intro v' w1 hown' hgrow _;obtain ⟨ho,hb⟩:=yQ hown2 hown' hgrow uW (by omega) (by omega);have hfin:bs++[m%128]=ak.uB n:=by rw [<- HB.out,ak.yh hm0 hlt];simp;omega
   rw [hfin] at ho;clear HB hown2 hown' hgrow uW hfin;obtain ⟨g,cap,rfl,hcv⟩:=Av ho (ak.yt n);clear ho;go_wp2;go_ret;exact ⟨rfl,hb⟩
  have yI:bits .or .u8 (m%128) 128=m%128+128:=by rw [ak.EO _ (by omega) (by omega)];omega
  go_wp2_with fail;refine (Mc b w.heap.size m false _ _ _ w wr hm0 hm1 (by simpa using hlt) hblk hown hbs hbel).mono ?_;rintro e w2 ⟨rfl,hblk2,hown2,uW,Hb⟩;clear hblk hown hbel;have aW:Hid (w2.heap[b]?=some (.cells #[.int .u64 (m / 128)] 106 (0,0))):=hblk2;clear hblk2;go_wp2_with (first|(at_builtin;refine wpList_append_own _ rfl _ _ 59 rfl w.heap.size 5 i0 (.int .u8 0) 1 1 underlying59 hi hz0 hz1 hz2 rfl (by decide) _ _ _ rfl (hown2.alloc _) ⟨w2.heap.size,0,none⟩ 1 1 [.int .u8 (m%128+128)] rfl rfl (vB _ _ _) ?d2 ?d3 ?d4 ?d5 ?_))
  case d2=>first|rfl|(intro u hu;simp at hu;subst hu;rfl)
  case d3=>unfold maxLen;omega
  case d4=>omega
  case d5=>first|omega|(simp;omega)
  intro v' w1 hown' hgrow _;obtain ⟨ho,hb⟩:=yQ hown2 hown' hgrow uW (by omega) (by omega);have aO:Hid (w1.heap[b]?=some (.cells #[.int .u64 (m / 128)] 106 (0,0))):=Me hown2 hgrow hbs aW.out;have hfin:(bs++[m%128+128])++ak.uB (m / 128)=ak.uB n:=by rw [<- HB.out,ak.Aw (by omega:128<=m)];simp
  have pK:Hid ((bs++[m%128+128])++ak.uB (m / 128)=ak.uB n):=hfin;have Hd:Hid (lenOf v'=(bs++[m%128+128]).length):=EM ho;clear HB hown2 hown' hgrow uW hfin aW;go_wp2;go_roundw
  case rel=>exact ⟨m / 128,bs++[m%128+128],by omega,by omega,pK.out,aO.out,ho,hb⟩
  case measure=>rw [Hd.out,Ha.out];simp;omega
theorem Xq (b:Nat) (n:Int) (w:World) (h0:-9223372036854775808<=n) (h1:n<=9223372036854775807) (xC:w.heap[b]?=some (.cells #[.int .i64 n] 2 (0,0))) :
  Calls prog 110 #[.func (.func 131) #[] #[.pointer (some ⟨b,0,none⟩)]] w λe w'=>e=.returned (.string (strOfNums (ak.sB n)))/\Below b w w':=by
 obtain ⟨i0,hi,hz0,hz1,hz2⟩:=info_parts EN;have hbs:=lt_of_block xC;go_enter func110,ntmps110;go_wp2
 go_loopw [3] (λv wr=>∃(m:Int) (bs:List Int),-9223372036854775808<=m/\m<=9223372036854775807/\bs++ak.sB m=ak.sB n/\wr.heap[b]?=some (.cells #[.int .i64 m] 2 (0,0))/\wr.ownsRow w.heap.size 5 1 v bs.length (bs.map (Value.int .u8))/\Below b w wr)
  (λv _=>10-lenOf v)
 case atStart=>exact ⟨n,[],h0,h1,rfl,xC,World.ownsRow_nil _ _ _ _,Below.refl _ _⟩
 case round =>
  obtain ⟨m,bs,hm0,hm1,zT,hblk,hown,hbel⟩:=hrel;have hlen:bs.length+(ak.sB m).length<=10:=by rw [<- aB,zT];exact ak.Ck h0 h1
  have hpos:=ak.Ej m;have hlo:=EM hown;have Ha:Hid (lenOf u3=bs.length):=hlo;have HB:Hid (bs++ak.sB m=ak.sB n):=zT;have HK:Hid (w.heap[b]?=some (.cells #[.int .i64 n] 2 (0,0))):=xC;clear zT xC hlo;have hsz:=hbel.size;by_cases hlt:-64<=m/\m<=63
  ·have HL:Hid (-64<=m/\m<=63):=hlt;clear hlt;go_wp2_with fail;refine (Md b w.heap.size m true _ _ _ w wr hm0 hm1 (by simpa using HL.out) hblk hown hbs hbel).mono ?_;rintro e w2 ⟨rfl,hblk2,hown2,uW,Hb⟩;clear hblk hown hbel hblk2;go_wp2_with (first|(at_builtin;refine wpList_append_own _ rfl _ _ 59 rfl w.heap.size 5 i0 (.int .u8 0) 1 1 underlying59 hi hz0 hz1 hz2 rfl (by decide) _ _ _ rfl (hown2.alloc _) ⟨w2.heap.size,0,none⟩ 1 1 [.int .u8 (m%128)] rfl rfl (vB _ _ _) ?c2 ?c3 ?c4 ?c5 ?_))
   case c2=>first|rfl|(intro u hu;simp at hu;subst hu;rfl)
   case c3=>unfold maxLen;omega
   case c4=>omega
   case c5=>first|omega|(simp;omega)
   intro v' w1 hown' hgrow _;obtain ⟨ho,hb⟩:=yQ hown2 hown' hgrow uW (by omega) (by omega);have hfin:bs++[m%128]=ak.sB n:=by rw [<- HB.out,ak.Ay HL.out]
   rw [hfin] at ho;clear HB hown2 hown' hgrow uW hfin;obtain ⟨g,cap,rfl,hcv⟩:=Av ho (ak.Ej n);clear ho;go_wp2;go_ret;exact ⟨rfl,hb⟩
  have yI:bits .or .u8 (m%128) 128=m%128+128:=by rw [ak.EO _ (by omega) (by omega)];omega
  have HL:Hid (¬ (-64<=m/\m<=63)):=hlt;clear hlt;go_wp2_with fail;refine (Md b w.heap.size m false _ _ _ w wr hm0 hm1 (au HL.out) hblk hown hbs hbel).mono ?_;rintro e w2 ⟨rfl,hblk2,hown2,uW,Hb⟩;clear hblk hown hbel;have aW:Hid (w2.heap[b]?=some (.cells #[.int .i64 (m / 128)] 2 (0,0))):=hblk2;clear hblk2;go_wp2_with (first|(at_builtin;refine wpList_append_own _ rfl _ _ 59 rfl w.heap.size 5 i0 (.int .u8 0) 1 1 underlying59 hi hz0 hz1 hz2 rfl (by decide) _ _ _ rfl (hown2.alloc _) ⟨w2.heap.size,0,none⟩ 1 1 [.int .u8 (m%128+128)] rfl rfl (vB _ _ _) ?d2 ?d3 ?d4 ?d5 ?_))
  case d2=>first|rfl|(intro u hu;simp at hu;subst hu;rfl)
  case d3=>unfold maxLen;omega
  case d4=>omega
  case d5=>first|omega|(simp;omega)
  intro v' w1 hown' hgrow _;obtain ⟨ho,hb⟩:=yQ hown2 hown' hgrow uW (by omega) (by omega);have aO:Hid (w1.heap[b]?=some (.cells #[.int .i64 (m / 128)] 2 (0,0))):=Me hown2 hgrow hbs aW.out;have hfin:(bs++[m%128+128])++ak.sB (m / 128)=ak.sB n:=by rw [<- HB.out,ak.D9 HL.out];simp
  have pK:Hid ((bs++[m%128+128])++ak.sB (m / 128)=ak.sB n):=hfin;have Hd:Hid (lenOf v'=(bs++[m%128+128]).length):=EM ho;clear HB hown2 hown' hgrow uW hfin aW;go_wp2;go_roundw
  case rel=>exact ⟨m / 128,bs++[m%128+128],by omega,by omega,pK.out,aO.out,ho,hb⟩
  case measure=>rw [Hd.out,Ha.out];simp;omega
theorem tF (w:World) (o:Obj):(w.alloc o).heap[w.heap.size]?=some o:=by
 show (w.heap.push o)[w.heap.size]?=_;simp
theorem F8 (n:Int) (w:World) (h0:0<=n) (h1:n<=18446744073709551615) :
  Calls prog 84 #[.int .u64 n] w λe w'=>e=.returned (.string (strOfNums (ak.uB n)))/\Below w.heap.size w w':=by
 go_enter func84,ntmps84;go_wp2_with fail;refine (Xp w.heap.size n _ h0 h1 (tF _ _)).mono ?_;rintro e w' ⟨rfl,hb⟩;go_wp2;go_ret;exact ⟨rfl,((Below.refl _ _).alloc (aI _) _).trans hb⟩
theorem RV (n:Int) (w:World) (h0:-9223372036854775808<=n) (h1:n<=9223372036854775807) :
  Calls prog 129 #[.int .i64 n] w λe w'=>e=.returned (.string (strOfNums (ak.sB n)))/\Below w.heap.size w w':=by
 go_enter func129,ntmps129;go_wp2_with fail;refine (Xq w.heap.size n _ h0 h1 (tF _ _)).mono ?_;rintro e w' ⟨rfl,hb⟩;go_wp2;go_ret;exact ⟨rfl,((Below.refl _ _).alloc (aI _) _).trans hb⟩
end Go.Proofs.YtmfcojpjpgldhaaGreatDoor
namespace Go.Proofs.YtmfcojpjpgldhaaGreatDoor
open Go.RowKit aA Go.Proofs.Tryz
set_option linter.unusedVariables false
set_option maxRecDepth 100000
set_option maxHeartbeats 1000000
namespace Enc
theorem yf:(prog.info? 5).map (λi=>(i.zero,i.size,i.bytes))=some (some (.int .u8 0),1,1):=by kernel_rfl
def cells (bs:List Int):List Value:=bs.map (Value.int .u8)
structure WS (w0:World) (p:Nat) (c:Nat->Value) (v:Value) (bs:List Int) (w:World):Prop where
 below:Below w0.heap.size w0 w
 base:w0.heap.size<=p
 blk:w.heap[p]?=some (.cells #[c 0,c 1,c 2,c 3,c 4,c 5,c 6,c 7,c 8,c 9,v] 61 (0,0))
 own:w.ownsRow w0.heap.size 5 1 v bs.length (cells bs)
 apart:v.ownBlock≠some p
section
variable {w0 w w':World} {p:Nat} {c:Nat->Value} {v:Value} {bs:List Int}
theorem WS.cell (h:WS w0 p c v bs w):w.cell? ⟨p,10,none⟩=some v:=by unfold World.cell?;rw [h.blk];rfl
theorem WS.fM (h:WS w0 p c v bs w):w.frozen? ⟨p,10,none⟩=false:=by unfold World.frozen?;rw [h.blk];simp
theorem WS.lt (h:WS w0 p c v bs w):p<w.heap.size:=(kD.1 h.blk).1
theorem WS.slice (h:WS w0 p c v bs w):∃o k,v=.slice o bs.length k:=by
 rcases h.own.2 with ⟨rfl,h0⟩|⟨g,cap,cur,rfl,_⟩
 ·rw [h0];exact ⟨none,0,rfl⟩
 exact ⟨_,_,rfl⟩
theorem DY {B:Nat} {e:TypeId} {size:Nat} {v:Value} {n:Nat} {xs:List Value} (h:w.ownsRow B e size v n xs) (hb:Below w.heap.size w w'):w'.ownsRow B e size v n xs :=
 ⟨h.1,h.2.imp id λ⟨g,cap,cur,h1,h2,h3,h4⟩=>⟨g,cap,cur,h1,h2,by rw [hb.block g (kD.1 h3).1];exact h3,h4⟩⟩
theorem WS.on (h:WS w0 p c v bs w) (hb:Below w.heap.size w w'):WS w0 p c v bs w' :=
 ⟨h.below.trans (hb.mono h.below.size),h.base,by rw [hb.block p h.lt];exact h.blk,DY h.own hb,h.apart⟩
theorem WS.store {w9:World} {v':Value} {bs':List Int} (h:WS w0 p c v bs w) (ho:w9.ownsRow w0.heap.size 5 1 v' bs'.length (cells bs')) (hg:w.grownBy w9 v.ownBlock):WS w0 p c v' bs' (w9.setCell ⟨p,10,none⟩ v'):=by
 have nI:w9.heap[p]?=some (.cells #[c 0,c 1,c 2,c 3,c 4,c 5,c 6,c 7,c 8,c 9,v] 61 (0,0)):=by rw [hg.block p h.lt (λe=>h.apart e.symm)];exact h.blk
 have hap:v'.ownBlock≠some p:=by
  rcases ho.2 with ⟨rfl,_⟩|⟨g,cap,cur,rfl,_,hgg,_⟩
  ·simp [Value.ownBlock]
  intro e
  have:g=p:=by simpa [Value.ownBlock] using e
  subst this;rw [hgg] at nI;injection nI with nI;injection nI with _ nI;exact absurd nI (by decide)
 refine ⟨(h.below.grown hg h.below.size λk hk=>(h.own.lt k hk).1).setCell h.base _,h.base,heap_setCell_same w9 p 10 _ _ v' nI,?_,hap⟩;refine ⟨ho.1,ho.2.imp id λ⟨g,cap,cur,k1,k2,k3,k4⟩=>⟨g,cap,cur,k1,k2,?_,k4⟩⟩;rw [Below.heap_setCell _ _ _ _ (by show g≠p;intro e;subst e;exact hap (by rw [k1];rfl))];exact k3
end
def rA (bs add bs':List Int):Prop:=bs'=bs++add\/(262144<bs'.length/\262144<bs.length+add.length/\bs.length<=bs'.length)
theorem rA.le {bs add bs':List Int} (h:rA bs add bs'):bs.length<=bs'.length:=by
 rcases h with rfl|⟨_,_,h⟩
 ·rw [aB];omega
 exact h
theorem rA.refl (bs:List Int):rA bs [] bs:=.inl (by simp)
theorem rA.trans {a b c x y:List Int} (h:rA a x b) (h':rA b y c):rA a (x++y) c:=by
 rcases h with rfl|⟨h1,h2,h5⟩
 ·rcases h' with rfl|⟨h3,h4,h6⟩
  ·exact .inl (by rw [bf])
  exact .inr ⟨h3,by rw [aB] at h4 ⊢;omega,by rw [aB] at h6;omega⟩
 rcases h' with rfl|⟨h3,h4,h6⟩
 ·exact .inr ⟨by rw [aB];omega,by rw [aB];omega,by rw [aB];omega⟩
 exact .inr ⟨h3,by rw [aB];omega,by omega⟩
structure Kept (p:Nat) (v:Value) (w:World) (v':Value) (w':World):Prop where
 size:w.heap.size<=w'.heap.size
 block:∀k,k<w.heap.size->k≠p->some k≠v.ownBlock->w'.heap[k]?=w.heap[k]?
 own:∀k,v'.ownBlock=some k->v.ownBlock=some k\/w.heap.size<=k
theorem Kept.refl (p:Nat) (v:Value) (w:World):Kept p v w v w:=⟨aI _,λ_ _ _ _=>rfl,λk h=>.inl h⟩
theorem Kept.trans {p:Nat} {v v1 v2:Value} {w w1 w2:World} (h:Kept p v w v1 w1) (h':Kept p v1 w1 v2 w2):Kept p v w v2 w2 :=
 ⟨tL h.size h'.size,λk hk hp hv=>by
  rw [h'.block k (nH hk h.size) hp (λe=>?_),h.block k hk hp hv];rcases h.own k e.symm with h1|h1
  ·exact hv h1.symm
  ·omega,λk hk=>by
  rcases h'.own k hk with h1|h1
  ·exact h.own k h1
  exact .inr (tL h.size h1)⟩
theorem Kept.below {p:Nat} {v:Value} {w w1:World} (hb:Below w.heap.size w w1):Kept p v w v w1:=⟨hb.size,λk hk _ _=>hb.block k hk,λk h=>.inl h⟩
theorem Kept.store {p i:Nat} {v v':Value} {w w9:World} (hg:w.grownBy w9 v.ownBlock) (hv:v'.ownBlock=v.ownBlock\/v'.ownBlock=some w.heap.size) (u:Value):Kept p v w v' (w9.setCell ⟨p,i,none⟩ u) :=
 ⟨by simpa using hg.size,λk hk hp ho=>by rw [Below.heap_setCell _ _ _ _ (by show k≠p;exact hp),hg.block k hk ho],λk hk=>by
  rcases hv with h|h
  ·exact .inl (h ▸ hk)
  rw [h] at hk;injection hk with hk;exact .inr (by omega)⟩
def Does (w0:World) (p:Nat) (c:Nat->Value) (v:Value) (w:World) (bs:List Int) (e:Ending) (w':World):Prop:=∃v',e=.returned (.tuple #[])/\WS w0 p c v' bs w'/\Kept p v w v' w'
end Enc
open Enc
theorem wrap_u8 (b:Int):IntKind.u8.wrap b=b%256:=by simp [IntKind.wrap,IntKind.signed,IntKind.bits]
theorem gZ (w0:World) (p:Nat) (c:Nat->Value) (v:Value) (bs:List Int) (b:Int) (w:World) (h:WS w0 p c v bs w) (hn:bs.length<=100000000000000) :
  Calls prog 45 #[.pointer (some ⟨p,0,none⟩),.int .i64 b] w (Does w0 p c v w (bs++[b%256])):=by
 obtain ⟨o,k,rfl⟩:=h.slice;have HS:=aa h;have kc:=h.cell;clear h;obtain ⟨i0,hi,hz0,hz1,hz2⟩:=info_parts yf;have Cb:=aa (HS.out.on (aU w (.cells #[.int .u8 (b%256)] 5)));have hw:=wrap_u8 b;go_enter func45,ntmps45;go_wp2_with (first|(at_builtin;refine rX rfl _ _ 59 rfl w0.heap.size 5 i0 _ 1 1 underlying59 hi hz0 hz1 hz2 rfl (by decide) _ _ _ rfl Cb.out.own (some ⟨w.heap.size,0,none⟩) 1 1 [.int .u8 (b%256)] rfl ?c6 ?c0 ?c1 ?c2 ?c3 ?c4 ?c5 ?_))
 case c6=>intro h;cases h
 case c0=>rfl
 case c1=>exact λad h=>by injection h with h;subst h;exact vB _ _ _
 case c2=>intro u hu;rw [List.mem_singleton.1 hu];rfl
 case c3=>unfold maxLen;omega
 case c4=>omega
 case c5=>exact Cb.out.below.size
 intro v' w9 hown hg hv;have iA:=aa ((Kept.below (p:=p) (v:=.slice o bs.length k) (aU w (.cells #[.int .u8 (b%256)] 5))).trans (Kept.store (i:=10) hg (by simpa using hv) v'));have HE:=aa (Cb.out.store (bs':=bs++[b%256]) (by rw [aB];simpa [cells] using hown) hg)
 obtain ⟨o9,k9,rfl⟩:∃o9 k9,v'=.slice o9 (bs.length+1) k9:=by
  rcases hown.2 with ⟨rfl,h0⟩|⟨g,cap,cur,rfl,_⟩
  ·omega
  exact ⟨_,_,rfl⟩
 have zD:WS w0 p c (.slice o bs.length k) bs (w.alloc (.cells #[.int .u8 (b%256)] 5)):=Cb.out;have Cc:w9.cell? ⟨p,10,none⟩=some (.slice o bs.length k):=by rw [World.cell?_of_block (a:=⟨p,10,none⟩) (hg.block p zD.lt (λe=>zD.apart e.symm))];exact zD.cell
 have Ce:w9.frozen? ⟨p,10,none⟩=false:=by rw [World.frozen?_of_block (a:=⟨p,10,none⟩) (hg.block p zD.lt (λe=>zD.apart e.symm))];exact zD.fM
 clear hown hg hv zD Cb HS kc;go_wp2;go_end0;exact ⟨_,rfl,HE.out,iA.out⟩
end Go.Proofs.YtmfcojpjpgldhaaGreatDoor

/- Texts that the claim needs. -/
import Derived.WalkKit
import Derived.Laws.BytesArg
import Derived.Laws.BitsAllLaws
import Derived.Test.YtlcpagiljfpbpaaGreatDoorRows
import Derived.WalkSpells
import Derived.BigQuiet
import Derived.Deep.QuietTactic
import Derived.WalkSmall
namespace Go.Proofs.YtlcpagiljfpbpaaGreatDoor
namespace Leb
def uBf:Nat->Int->List Int
 | 0,n=>[n%128]
 | f+1,n=>if n<128 then [n%128] else (n%128+128) :: uBf f (n / 128)
def uB (n:Int):List Int:=uBf n.toNat n
theorem uBf_more:∀(f g:Nat) (n:Int),0<=n->n.toNat<=f->n.toNat<=g->uBf f n=uBf g n
 | 0,0,_,_,_,_=>rfl
 | 0,g+1,n,h,hf,_=>by
  have:n<128:=by omega
  simp [uBf,this]
 | f+1,0,n,h,_,hg=>by
  have:n<128:=by omega
  simp [uBf,this]
 | f+1,g+1,n,h,hf,hg=>by
  simp only [uBf]
  split
  ·rfl
  ·rw [uBf_more f g (n / 128) (by omega) (by omega) (by omega)]
theorem uB_small {n:Int} (h0:0<=n) (h:n<128):uB n = [n]:=by
 have e:n%128=n:=by omega
 unfold uB
 cases n.toNat<;>simp [uBf,h,e]
theorem uB_great {n:Int} (h:128<=n):uB n=(n%128+128) :: uB (n / 128):=by
 have hn:∃f,n.toNat=f+1:=⟨n.toNat-1,by omega⟩
 obtain ⟨f,hf⟩:=hn
 unfold uB
 rw [hf]
 simp only [uBf]
 rw [if_neg (by omega),uBf_more f (n / 128).toNat (n / 128) (by omega) (by omega) (by omega)]
def sBf:Nat->Int->List Int
 | 0,n=>[n%128]
 | f+1,n=>if -64<=n/\n<=63 then [n%128] else (n%128+128) :: sBf f (n / 128)
def sB (n:Int):List Int:=sBf n.natAbs n
theorem sBf_more:∀(f g:Nat) (n:Int),n.natAbs<=f->n.natAbs<=g->sBf f n=sBf g n
 | 0,0,_,_,_=>rfl
 | 0,g+1,n,hf,_=>by
  have:-64<=n/\n<=63:=by omega
  simp [sBf,this]
 | f+1,0,n,_,hg=>by
  have:-64<=n/\n<=63:=by omega
  simp [sBf,this]
 | f+1,g+1,n,hf,hg=>by
  simp only [sBf]
  split
  ·rfl
  ·rw [sBf_more f g (n / 128) (by omega) (by omega)]
theorem sB_small {n:Int} (h:-64<=n/\n<=63):sB n = [n%128]:=by
 unfold sB
 cases n.natAbs<;>simp [sBf,h]
theorem sB_great {n:Int} (h:¬ (-64<=n/\n<=63)):sB n=(n%128+128) :: sB (n / 128):=by
 have hn:∃f,n.natAbs=f+1:=⟨n.natAbs-1,by omega⟩
 obtain ⟨f,hf⟩:=hn
 unfold sB
 rw [hf]
 simp only [sBf]
 rw [if_neg h,sBf_more f (n / 128).natAbs (n / 128) (by omega) (by omega)]
theorem uB_len:∀(j:Nat) (n:Int),0<=n->n<128 ^ (j+1)->(uB n).length<=j+1
 | 0,n,h0,h=>by rw [uB_small h0 (by simpa using h)];simp
 | j+1,n,h0,h=>by
  by_cases hs:n<128
  ·rw [uB_small h0 hs];simp
  ·rw [uB_great (by omega)]
   have hd:n / 128<128 ^ (j+1):=by
    have e:(128:Int) ^ (j+1+1)=128 ^ (j+1)*128:=by rw [Int.pow_succ]
    rw [e] at h
    omega
   have:=uB_len j (n / 128) (by omega) hd
   simp;omega
theorem uB_pos (n:Int):0<(uB n).length:=by
 unfold uB
 cases n.toNat with
 | zero=>simp [uBf]
 | succ f=>simp only [uBf];split<;>simp
theorem sB_len:∀(j:Nat) (n:Int),-(64*128 ^ j)<=n->n<64*128 ^ j->(sB n).length<=j+1
 | 0,n,h0,h=>by
  have h0':-64<=n:=by simpa using h0
  have h':n<64:=by simpa using h
  rw [sB_small ⟨h0',by omega⟩];simp
 | j+1,n,h0,h=>by
  by_cases hs:-64<=n/\n<=63
  ·rw [sB_small hs];simp
  ·rw [sB_great hs]
   have e:(128:Int) ^ (j+1)=128 ^ j*128:=by rw [Int.pow_succ]
   rw [e] at h h0
   have:=sB_len j (n / 128) (by omega) (by omega)
   simp;omega
theorem sB_pos (n:Int):0<(sB n).length:=by
 unfold sB
 cases n.natAbs with
 | zero=>simp [sBf]
 | succ f=>simp only [sBf];split<;>simp
theorem uB_ten {n:Int} (h0:0<=n) (h:n<=18446744073709551615):(uB n).length<=10:=by
 have e:(128:Int) ^ 10=1180591620717411303424:=by decide
 exact uB_len 9 n h0 (by show n<128 ^ 10;rw [e];omega)
theorem sB_ten {n:Int} (h0:-9223372036854775808<=n) (h:n<=9223372036854775807):(sB n).length<=10:=by
 have e:(64:Int)*128 ^ 9=590295810358705651712:=by decide
 exact sB_len 9 n (by rw [e];omega) (by rw [e];omega)
end Leb
end Go.Proofs.YtlcpagiljfpbpaaGreatDoor

namespace Go.Proofs.YtlcpagiljfpbpaaGreatDoor
open Go.RowKit
namespace Leb
theorem ofInt_toNat (x:Int):((BitVec.ofInt 64 x).toNat:Int)=x%18446744073709551616:=by
 rw [BitVec.toNat_ofInt]
 have h:0<=x%18446744073709551616:=Int.emod_nonneg _ (by decide)
 have e:((2 ^ 64:Nat):Int)=18446744073709551616:=by decide
 rw [e]
 omega
theorem and127_u64 (n:Int) (h0:0<=n) (h1:n<=18446744073709551615):bits .and .u64 n 127=n%128:=by
 rw [u64_and n 127 h0 (by omega) (by decide) (by decide)]
 have e:(127:Int).toNat=127:=rfl
 rw [e,nat_mask7]
 omega
theorem and127_i64 (n:Int):bits .and .i64 n 127=n%128:=by
 have h:=ofInt_toNat n
 show IntKind.i64.wrap (((BitVec.ofInt 64 n &&& BitVec.ofInt 64 127).toNat:Nat):Int)=_
 have e:(BitVec.ofInt 64 127).toNat=127:=by decide
 rw [BitVec.toNat_and,e,nat_mask7,IntKind.wrap_i64]
 omega
theorem byte_all (p:Nat->Bool) (h:(List.range 256).all p=true) (c:Int) (h0:0<=c) (h1:c<=255):p c.toNat=true:=by
 rw [List.all_eq_true] at h
 exact h _ (List.mem_range.2 (by omega))
theorem and127_u8 (c:Int) (h0:0<=c) (h1:c<=255):bits .and .u8 c 127=c%128:=by
 have:=byte_all (fun n=>bits .and .u8 (n:Int) 127 == (n:Int)%128) (by decide +kernel) c h0 h1
 simp only [beq_iff_eq] at this
 rwa [Int.toNat_of_nonneg h0] at this
theorem or128_u8 (c:Int) (h0:0<=c) (h1:c<=255):bits .or .u8 c 128=c%128+128:=by
 have:=byte_all (fun n=>bits .or .u8 (n:Int) 128 == (n:Int)%128+128) (by decide +kernel) c h0 h1
 simp only [beq_iff_eq] at this
 rwa [Int.toNat_of_nonneg h0] at this
theorem and64_u8 (c:Int) (h0:0<=c) (h1:c<=255):bits .and .u8 c 64=if 64<=c%128 then 64 else 0:=by
 have:=byte_all (fun n=>bits .and .u8 (n:Int) 64 == if 64<=(n:Int)%128 then 64 else 0) (by decide +kernel) c h0 h1
 simp only [beq_iff_eq] at this
 rwa [Int.toNat_of_nonneg h0] at this
end Leb
end Go.Proofs.YtlcpagiljfpbpaaGreatDoor

namespace Go.Proofs.YtlcpagiljfpbpaaGreatDoor
open Go.RowKit
theorem linfo8:(Tryz.prog.info? 5).map (fun i=>(i.zero,i.size,i.bytes))=some (some (.int .u8 0),1,1):=by kernel_rfl
theorem two_ret {a b:Int} {p q:Bool} (h:a=b) (h':p=q):Ending.returned (.tuple #[.int .u8 a,.bool p])=.returned (.tuple #[.int .u8 b,.bool q]):=by rw [h,h']
theorem own_string {w:World} {base:Nat} {v:Value} {n:Nat} {xs:List Int} (h:w.ownsRow base 5 1 v n (xs.map (Value.int .u8))) (hn:0<n) :
  ∃g cap,v=.slice (some ⟨g,0,none⟩) n cap/\(convert 53 9 (.slice (some ⟨g,0,none⟩) n cap)).run Tryz.prog w=.ok (.string (strOfNums xs)) w:=by
 have hl:=h.1
 simp only [List.length_map,Nat.mul_one] at hl
 rcases h.2 with ⟨_,h0⟩|⟨g,cap,cur,hv,_⟩
 ·omega
 ·refine ⟨g,cap,hv,?_⟩
  subst hv
  refine run_convert_bytes_arg w 53 5 Tryz.underlying53 Tryz.underlying5 g 0 n cap xs hl (fun i hi=>?_) 9 Tryz.underlying9
  have:=h.cellAt i (by omega)
  rw [Nat.zero_add,this]
  have hi':i<xs.length:=by omega
  simp [List.getElem?_eq_getElem hi',List.getD]
set_option maxHeartbeats 400000 in
theorem c19 (b:Nat) (n:Int) (w:World) (h0:0<=n) (h1:n<=18446744073709551615) (hc:w.cell? ⟨b,0,none⟩=some (.int .u64 n)) (hf:w.frozen? ⟨b,0,none⟩=false) :
  Calls Tryz.prog 119 #[.pointer (some ⟨b,0,none⟩)] w fun e w' =>
   e=.returned (.tuple #[.int .u8 (n%128),.bool (decide (n<128))])/\∃k,w'=(w.setCell ⟨b,0,none⟩ (.int .u64 (n / 128))).drewN k:=by
 have hm:=Leb.and127_u64 n h0 h1
 go_enter Tryz.func119,Tryz.ntmps119
 go_wp2
 go_quiet (fail)
 go_wp2
 go_ret2
 refine ⟨two_ret (by omega) ?_,_,rfl⟩
 rw [Bool.eq_iff_iff];simp;omega
theorem app_rel {w wr w1:World} {base B:Nat} {v v':Value} {bs:List Int} {x:Int} {o:Obj} (hown:wr.ownsRow base 5 1 v bs.length (bs.map (Value.int .u8)))
  (hown':w1.ownsRow base 5 1 v' (bs.length+1) (bs.map (Value.int .u8)++[.int .u8 x])) (hgrow:(wr.alloc o).grownBy w1 v.ownBlock) (hbel:Below B w wr) (hB:B<=base) (hs:B<=wr.heap.size) :
  w1.ownsRow base 5 1 v' (bs++[x]).length ((bs++[x]).map (Value.int .u8))/\Below B w w1 :=
 ⟨by simpa using hown',(hbel.alloc hs o).grown hgrow (by simp;omega) (fun j hj=>by have:=(hown.lt j hj).1;omega)⟩
theorem one_new (w:World) (x:Value) (t:TypeId):∀(j:Nat) (u:Value),[x][j]?=some u->(w.alloc (.cells #[x] t)).cell? ((⟨w.heap.size,0,none⟩:Addr).add j)=some u:=by
 intro j u hj
 match j,hj with
 | 0,hj=>simp at hj;subst hj;simp [Addr.add]
set_option maxHeartbeats 1000000 in
set_option maxRecDepth 100000 in
theorem refPutU (n:Int) (w:World) (h0:0<=n) (h1:n<=18446744073709551615) :
  Calls Tryz.prog 124 #[.int .u64 n] w fun e w'=>e=.returned (.string (strOfNums (Leb.uB n)))/\Below w.heap.size w w':=by
 obtain ⟨i0,hi,hz0,hz1,hz2⟩:=info_parts linfo8
 go_enter Tryz.func124,Tryz.ntmps124
 go_wp2
 go_loopw [0,3] (fun x v wr=>∃(m:Int) (bs:List Int),0<=m/\m<=18446744073709551615/\x=.int .u64 m/\bs++Leb.uB m=Leb.uB n/\wr.ownsRow w.heap.size 5 1 v bs.length (bs.map (Value.int .u8))/\Below w.heap.size w wr)
  (fun x _ _=>(RowKit.intOf x).toNat)
 case atStart=>exact ⟨n,[],h0,h1,rfl,rfl,World.ownsRow_nil _ _ _ _,Below.refl _ _⟩
 case round =>
  obtain ⟨m,bs,hm0,hm1,rfl,hbs,hown,hbel⟩:=hrel
  have hlen:bs.length+(Leb.uB m).length<=10:=by rw [<- List.length_append,hbs];exact Leb.uB_ten h0 h1
  have hpos:=Leb.uB_pos m
  have HB:Hid (bs++Leb.uB m=Leb.uB n):=hbs
  clear hbs
  have hsz:=hbel.size
  by_cases hlt:m<128
  ·go_wp2_with (first|(at_builtin;refine wpList_append_own _ rfl _ _ 53 rfl w.heap.size 5 i0 (.int .u8 0) 1 1 Tryz.underlying53 hi hz0 hz1 hz2 rfl (by decide) _ _ _ rfl (hown.alloc _) ⟨wr.heap.size,0,none⟩ 1 1 [.int .u8 m] rfl rfl (one_new _ _ _) ?c2 ?c3 ?c4 ?c5 ?_))
   case c2=>intro u hu;simp at hu;subst hu;rfl
   case c3=>unfold maxLen;omega
   case c4=>omega
   case c5=>first|omega|(simp;omega)
   intro v' w1 hown' hgrow _
   obtain ⟨ho,hb⟩:=app_rel hown hown' hgrow hbel (Nat.le_refl _) hsz
   have hfin:bs++[m]=Leb.uB n:=by rw [<- HB.out,Leb.uB_small hm0 hlt]
   rw [hfin] at ho
   clear HB hown hown' hgrow hbel hfin
   obtain ⟨g,cap,rfl,hcv⟩:=own_string ho (Leb.uB_pos n)
   clear ho
   go_wp2
   go_ret
   exact ⟨rfl,hb⟩
  ·have hor:bits .or .u8 (m%256) 128=m%128+128:=by rw [Leb.or128_u8 _ (by omega) (by omega)];omega
   go_wp2_with (first|(at_builtin;refine wpList_append_own _ rfl _ _ 53 rfl w.heap.size 5 i0 (.int .u8 0) 1 1 Tryz.underlying53 hi hz0 hz1 hz2 rfl (by decide) _ _ _ rfl (hown.alloc _) ⟨wr.heap.size,0,none⟩ 1 1 [.int .u8 (m%128+128)] rfl rfl (one_new _ _ _) ?d2 ?d3 ?d4 ?d5 ?_))
   case d2=>first|rfl|(intro u hu;simp at hu;subst hu;rfl)
   case d3=>unfold maxLen;omega
   case d4=>omega
   case d5=>first|omega|(simp;omega)
   intro v' w1 hown' hgrow _
   obtain ⟨ho,hb⟩:=app_rel hown hown' hgrow hbel (Nat.le_refl _) hsz
   have hfin:(bs++[m%128+128])++Leb.uB (m / 128)=Leb.uB n:=by rw [<- HB.out,Leb.uB_great (by omega:128<=m)];simp
   have HB':Hid ((bs++[m%128+128])++Leb.uB (m / 128)=Leb.uB n):=hfin
   clear HB hown hown' hgrow hbel hfin
   go_wp2
   go_roundw
   case rel=>exact ⟨m / 128,bs++[m%128+128],by omega,by omega,rfl,HB'.out,ho,hb⟩
   case measure=>simp [RowKit.intOf];omega
theorem c20 (b:Nat) (n:Int) (w:World) (h0:-9223372036854775808<=n) (h1:n<=9223372036854775807) (hc:w.cell? ⟨b,0,none⟩=some (.int .i64 n)) (hf:w.frozen? ⟨b,0,none⟩=false) :
  Calls Tryz.prog 136 #[.pointer (some ⟨b,0,none⟩)] w fun e w' =>
   e=.returned (.tuple #[.int .u8 (n%128),.bool (decide (-64<=n/\n<=63))])/\∃k,w'=(w.setCell ⟨b,0,none⟩ (.int .i64 (n / 128))).drewN k:=by
 have hm:=Leb.and127_i64 n
 have h6:bits .and .u8 (n%128%256) 64=if 64<=n%128 then 64 else 0:=by rw [Leb.and64_u8 _ (by omega) (by omega)];congr 1;rw [eq_iff_iff];omega
 have h6':bits .and .u8 (n%128) 64=if 64<=n%128 then 64 else 0:=by rw [Leb.and64_u8 _ (by omega) (by omega)];congr 1;rw [eq_iff_iff];omega
 by_cases h:64<=n%128
 ·rw [if_pos h] at h6 h6'
  go_enter Tryz.func136,Tryz.ntmps136
  go_wp2
  go_quiet (fail)
  go_wp2
  go_ret2
  refine ⟨two_ret (by omega) ?_,_,rfl⟩
  rw [Bool.eq_iff_iff];simp;omega
 ·rw [if_neg h] at h6 h6'
  go_enter Tryz.func136,Tryz.ntmps136
  go_wp2
  go_quiet (fail)
  go_wp2
  go_ret2
  refine ⟨two_ret (by omega) ?_,_,rfl⟩
  rw [Bool.eq_iff_iff];simp;omega
set_option maxHeartbeats 1000000 in
set_option maxRecDepth 100000 in
theorem refPutS (n:Int) (w:World) (h0:-9223372036854775808<=n) (h1:n<=9223372036854775807) :
  Calls Tryz.prog 133 #[.int .i64 n] w fun e w'=>e=.returned (.string (strOfNums (Leb.sB n)))/\Below w.heap.size w w':=by
 obtain ⟨i0,hi,hz0,hz1,hz2⟩:=info_parts linfo8
 go_enter Tryz.func133,Tryz.ntmps133
 go_wp2
 go_loopw [0,3] (fun x v wr=>∃(m:Int) (bs:List Int),-9223372036854775808<=m/\m<=9223372036854775807/\x=.int .i64 m/\bs++Leb.sB m=Leb.sB n/\wr.ownsRow w.heap.size 5 1 v bs.length (bs.map (Value.int .u8))/\Below w.heap.size w wr)
  (fun x _ _=>(RowKit.intOf x).natAbs)
 case atStart=>exact ⟨n,[],h0,h1,rfl,rfl,World.ownsRow_nil _ _ _ _,Below.refl _ _⟩
 case round =>
  obtain ⟨m,bs,hm0,hm1,rfl,hbs,hown,hbel⟩:=hrel
  have hlen:bs.length+(Leb.sB m).length<=10:=by rw [<- List.length_append,hbs];exact Leb.sB_ten h0 h1
  have hpos:=Leb.sB_pos m
  have HB:Hid (bs++Leb.sB m=Leb.sB n):=hbs
  clear hbs
  have hsz:=hbel.size
  by_cases hlt:-64<=m/\m<=63
  ·have hma:bits .and .u8 (m%256) 127=m%128:=by rw [Leb.and127_u8 _ (by omega) (by omega)];omega
   have hlt':=hlt
   obtain ⟨ha,hb⟩:=hlt'
   have HL:Hid (-64<=m/\m<=63):=hlt
   clear hlt
   go_wp2_with (first|(at_builtin;refine wpList_append_own _ rfl _ _ 53 rfl w.heap.size 5 i0 (.int .u8 0) 1 1 Tryz.underlying53 hi hz0 hz1 hz2 rfl (by decide) _ _ _ rfl (hown.alloc _) ⟨wr.heap.size,0,none⟩ 1 1 [.int .u8 (m%128)] rfl rfl (one_new _ _ _) ?c2 ?c3 ?c4 ?c5 ?_))
   case c2=>first|rfl|(intro u hu;simp at hu;subst hu;rfl)
   case c3=>unfold maxLen;omega
   case c4=>omega
   case c5=>first|omega|(simp;omega)
   intro v' w1 hown' hgrow _
   obtain ⟨ho,hb⟩:=app_rel hown hown' hgrow hbel (Nat.le_refl _) hsz
   have hfin:bs++[m%128]=Leb.sB n:=by rw [<- HB.out,Leb.sB_small HL.out]
   rw [hfin] at ho
   clear HB hown hown' hgrow hbel hfin
   obtain ⟨g,cap,rfl,hcv⟩:=own_string ho (Leb.sB_pos n)
   clear ho
   go_wp2
   go_ret
   exact ⟨rfl,hb⟩
  ·have hor:bits .or .u8 (m%256) 128=m%128+128:=by rw [Leb.or128_u8 _ (by omega) (by omega)];omega
   have HL:Hid (¬ (-64<=m/\m<=63)):=hlt
   have hway:m < -64\/(-64<=m/\63<m):=by omega
   clear hlt
   rcases hway with ha|⟨ha,ha'⟩
   all_goals
    go_wp2_with (first|(at_builtin;refine wpList_append_own _ rfl _ _ 53 rfl w.heap.size 5 i0 (.int .u8 0) 1 1 Tryz.underlying53 hi hz0 hz1 hz2 rfl (by decide) _ _ _ rfl (hown.alloc _) ⟨wr.heap.size,0,none⟩ 1 1 [.int .u8 (m%128+128)] rfl rfl (one_new _ _ _) (by intro u hu;simp at hu;subst hu;rfl) (by unfold maxLen;omega) (by omega) (by first|omega|(simp;omega)) ?_))
    intro v' w1 hown' hgrow _
    obtain ⟨ho,hb⟩:=app_rel hown hown' hgrow hbel (Nat.le_refl _) hsz
    have hfin:(bs++[m%128+128])++Leb.sB (m / 128)=Leb.sB n:=by rw [<- HB.out,Leb.sB_great HL.out];simp
    have HB':Hid ((bs++[m%128+128])++Leb.sB (m / 128)=Leb.sB n):=hfin
    clear HB hown hown' hgrow hbel hfin
    go_wp2
    go_roundw
    case rel=>exact ⟨m / 128,bs++[m%128+128],by omega,by omega,rfl,HB'.out,ho,hb⟩
    case measure=>simp [RowKit.intOf];omega
end Go.Proofs.YtlcpagiljfpbpaaGreatDoor

namespace Go.Proofs.YtlcpagiljfpbpaaGreatDoor
open Go.RowKit
def lenOf:Value->Nat | .slice _ n _=>n|_=>0
theorem lenOf_own {w:World} {base e size:Nat} {v:Value} {n:Nat} {xs:List Value} (h:w.ownsRow base e size v n xs):lenOf v=n:=by
 rcases h.2 with ⟨rfl,rfl⟩|⟨g,cap,cur,rfl,_⟩<;>rfl
theorem c19' (b base:Nat) (m:Int) (q:Bool) (v:Value) (n:Nat) (xs:List Value) (w wr:World) (h0:0<=m) (h1:m<=18446744073709551615) (hq:decide (m<128)=q)
  (hblk:wr.heap[b]?=some (.cells #[.int .u64 m] 110 (0,0))) (hown:wr.ownsRow base 5 1 v n xs) (hb:b<base) (hbel:Below b w wr) :
  Calls Tryz.prog 119 #[.pointer (some ⟨b,0,none⟩)] wr fun e w' =>
   e=.returned (.tuple #[.int .u8 (m%128),.bool q])/\w'.heap[b]?=some (.cells #[.int .u64 (m / 128)] 110 (0,0))/\w'.ownsRow base 5 1 v n xs/\Below b w w'/\wr.heap.size<=w'.heap.size:=by
 refine (c19 b m wr h0 h1 (cell_of_one hblk) (free_of_one hblk)).mono ?_
 rintro e w' ⟨rfl,k,rfl⟩
 refine ⟨by rw [hq],one_setCell hblk,ownsRow_setCell_below hown hb _,below_drewN (hbel.setCell (Nat.le_refl _) _) k,?_⟩
 simp [World.setCell]
theorem c20' (b base:Nat) (m:Int) (q:Bool) (v:Value) (n:Nat) (xs:List Value) (w wr:World) (h0:-9223372036854775808<=m) (h1:m<=9223372036854775807) (hq:decide (-64<=m/\m<=63)=q)
  (hblk:wr.heap[b]?=some (.cells #[.int .i64 m] 2 (0,0))) (hown:wr.ownsRow base 5 1 v n xs) (hb:b<base) (hbel:Below b w wr) :
  Calls Tryz.prog 136 #[.pointer (some ⟨b,0,none⟩)] wr fun e w' =>
   e=.returned (.tuple #[.int .u8 (m%128),.bool q])/\w'.heap[b]?=some (.cells #[.int .i64 (m / 128)] 2 (0,0))/\w'.ownsRow base 5 1 v n xs/\Below b w w'/\wr.heap.size<=w'.heap.size:=by
 refine (c20 b m wr h0 h1 (cell_of_one hblk) (free_of_one hblk)).mono ?_
 rintro e w' ⟨rfl,k,rfl⟩
 refine ⟨by rw [hq],one_setCell hblk,ownsRow_setCell_below hown hb _,below_drewN (hbel.setCell (Nat.le_refl _) _) k,?_⟩
 simp [World.setCell]
theorem blk_app {wr w1:World} {base b n:Nat} {v:Value} {xs:List Value} {o:Obj} {x:Obj} (hown:wr.ownsRow base 5 1 v n xs) (hgrow:(wr.alloc o).grownBy w1 v.ownBlock) (hb:b<base) (hblk:wr.heap[b]?=some x) :
  w1.heap[b]?=some x:=by
 have hlt:=lt_of_block hblk
 rw [hgrow.block b (by simp;omega) (fun h=>by have:=hown.lt b h.symm;omega),Below.heap_alloc _ _ _ hlt]
 exact hblk
set_option maxHeartbeats 1000000 in
theorem c18u (b:Nat) (n:Int) (w:World) (h0:0<=n) (h1:n<=18446744073709551615) (hblk0:w.heap[b]?=some (.cells #[.int .u64 n] 110 (0,0))) :
  Calls Tryz.prog 118 #[.func (.func 119) #[] #[.pointer (some ⟨b,0,none⟩)]] w fun e w'=>e=.returned (.string (strOfNums (Leb.uB n)))/\Below b w w':=by
 obtain ⟨i0,hi,hz0,hz1,hz2⟩:=info_parts linfo8
 have hbs:=lt_of_block hblk0
 go_enter Tryz.func118,Tryz.ntmps118
 go_wp2
 go_loopw [3] (fun v wr=>∃(m:Int) (bs:List Int),0<=m/\m<=18446744073709551615/\bs++Leb.uB m=Leb.uB n/\wr.heap[b]?=some (.cells #[.int .u64 m] 110 (0,0))/\wr.ownsRow w.heap.size 5 1 v bs.length (bs.map (Value.int .u8))/\Below b w wr)
  (fun v _=>10-lenOf v)
 case atStart=>exact ⟨n,[],h0,h1,rfl,hblk0,World.ownsRow_nil _ _ _ _,Below.refl _ _⟩
 case round =>
  obtain ⟨m,bs,hm0,hm1,hbs',hblk,hown,hbel⟩:=hrel
  have hlen:bs.length+(Leb.uB m).length<=10:=by rw [<- List.length_append,hbs'];exact Leb.uB_ten h0 h1
  have hpos:=Leb.uB_pos m
  have hlo:=lenOf_own hown
  have HLO:Hid (lenOf u3=bs.length):=hlo
  have HB:Hid (bs++Leb.uB m=Leb.uB n):=hbs'
  have HK:Hid (w.heap[b]?=some (.cells #[.int .u64 n] 110 (0,0))):=hblk0
  clear hbs' hblk0 hlo
  have hsz:=hbel.size
  by_cases hlt:m<128
  ·go_wp2_with fail
   refine (c19' b w.heap.size m true _ _ _ w wr hm0 hm1 (by simpa using hlt) hblk hown hbs hbel).mono ?_
   rintro e w2 ⟨rfl,hblk2,hown2,hbel2,hsz2⟩
   clear hblk hown hbel hblk2
   go_wp2_with (first|(at_builtin;refine wpList_append_own _ rfl _ _ 53 rfl w.heap.size 5 i0 (.int .u8 0) 1 1 Tryz.underlying53 hi hz0 hz1 hz2 rfl (by decide) _ _ _ rfl (hown2.alloc _) ⟨w2.heap.size,0,none⟩ 1 1 [.int .u8 (m%128)] rfl rfl (one_new _ _ _) ?c2 ?c3 ?c4 ?c5 ?_))
   case c2=>first|rfl|(intro u hu;simp at hu;subst hu;rfl)
   case c3=>unfold maxLen;omega
   case c4=>omega
   case c5=>first|omega|(simp;omega)
   intro v' w1 hown' hgrow _
   obtain ⟨ho,hb⟩:=app_rel hown2 hown' hgrow hbel2 (by omega) (by omega)
   have hfin:bs++[m%128]=Leb.uB n:=by rw [<- HB.out,Leb.uB_small hm0 hlt];simp;omega
   rw [hfin] at ho
   clear HB hown2 hown' hgrow hbel2 hfin
   obtain ⟨g,cap,rfl,hcv⟩:=own_string ho (Leb.uB_pos n)
   clear ho
   go_wp2
   go_ret
   exact ⟨rfl,hb⟩
  ·have hor:bits .or .u8 (m%128) 128=m%128+128:=by rw [Leb.or128_u8 _ (by omega) (by omega)];omega
   go_wp2_with fail
   refine (c19' b w.heap.size m false _ _ _ w wr hm0 hm1 (by simpa using hlt) hblk hown hbs hbel).mono ?_
   rintro e w2 ⟨rfl,hblk2,hown2,hbel2,hsz2⟩
   clear hblk hown hbel
   have HK2:Hid (w2.heap[b]?=some (.cells #[.int .u64 (m / 128)] 110 (0,0))):=hblk2
   clear hblk2
   go_wp2_with (first|(at_builtin;refine wpList_append_own _ rfl _ _ 53 rfl w.heap.size 5 i0 (.int .u8 0) 1 1 Tryz.underlying53 hi hz0 hz1 hz2 rfl (by decide) _ _ _ rfl (hown2.alloc _) ⟨w2.heap.size,0,none⟩ 1 1 [.int .u8 (m%128+128)] rfl rfl (one_new _ _ _) ?d2 ?d3 ?d4 ?d5 ?_))
   case d2=>first|rfl|(intro u hu;simp at hu;subst hu;rfl)
   case d3=>unfold maxLen;omega
   case d4=>omega
   case d5=>first|omega|(simp;omega)
   intro v' w1 hown' hgrow _
   obtain ⟨ho,hb⟩:=app_rel hown2 hown' hgrow hbel2 (by omega) (by omega)
   have HK1:Hid (w1.heap[b]?=some (.cells #[.int .u64 (m / 128)] 110 (0,0))):=blk_app hown2 hgrow hbs HK2.out
   have hfin:(bs++[m%128+128])++Leb.uB (m / 128)=Leb.uB n:=by rw [<- HB.out,Leb.uB_great (by omega:128<=m)];simp
   have HB':Hid ((bs++[m%128+128])++Leb.uB (m / 128)=Leb.uB n):=hfin
   have HL':Hid (lenOf v'=(bs++[m%128+128]).length):=lenOf_own ho
   clear HB hown2 hown' hgrow hbel2 hfin HK2
   go_wp2
   go_roundw
   case rel=>exact ⟨m / 128,bs++[m%128+128],by omega,by omega,HB'.out,HK1.out,ho,hb⟩
   case measure=>rw [HL'.out,HLO.out];simp;omega
set_option maxHeartbeats 1000000 in
theorem c18s (b:Nat) (n:Int) (w:World) (h0:-9223372036854775808<=n) (h1:n<=9223372036854775807) (hblk0:w.heap[b]?=some (.cells #[.int .i64 n] 2 (0,0))) :
  Calls Tryz.prog 118 #[.func (.func 136) #[] #[.pointer (some ⟨b,0,none⟩)]] w fun e w'=>e=.returned (.string (strOfNums (Leb.sB n)))/\Below b w w':=by
 obtain ⟨i0,hi,hz0,hz1,hz2⟩:=info_parts linfo8
 have hbs:=lt_of_block hblk0
 go_enter Tryz.func118,Tryz.ntmps118
 go_wp2
 go_loopw [3] (fun v wr=>∃(m:Int) (bs:List Int),-9223372036854775808<=m/\m<=9223372036854775807/\bs++Leb.sB m=Leb.sB n/\wr.heap[b]?=some (.cells #[.int .i64 m] 2 (0,0))/\wr.ownsRow w.heap.size 5 1 v bs.length (bs.map (Value.int .u8))/\Below b w wr)
  (fun v _=>10-lenOf v)
 case atStart=>exact ⟨n,[],h0,h1,rfl,hblk0,World.ownsRow_nil _ _ _ _,Below.refl _ _⟩
 case round =>
  obtain ⟨m,bs,hm0,hm1,hbs',hblk,hown,hbel⟩:=hrel
  have hlen:bs.length+(Leb.sB m).length<=10:=by rw [<- List.length_append,hbs'];exact Leb.sB_ten h0 h1
  have hpos:=Leb.sB_pos m
  have hlo:=lenOf_own hown
  have HLO:Hid (lenOf u3=bs.length):=hlo
  have HB:Hid (bs++Leb.sB m=Leb.sB n):=hbs'
  have HK:Hid (w.heap[b]?=some (.cells #[.int .i64 n] 2 (0,0))):=hblk0
  clear hbs' hblk0 hlo
  have hsz:=hbel.size
  by_cases hlt:-64<=m/\m<=63
  ·have HL:Hid (-64<=m/\m<=63):=hlt
   clear hlt
   go_wp2_with fail
   refine (c20' b w.heap.size m true _ _ _ w wr hm0 hm1 (by simpa using HL.out) hblk hown hbs hbel).mono ?_
   rintro e w2 ⟨rfl,hblk2,hown2,hbel2,hsz2⟩
   clear hblk hown hbel hblk2
   go_wp2_with (first|(at_builtin;refine wpList_append_own _ rfl _ _ 53 rfl w.heap.size 5 i0 (.int .u8 0) 1 1 Tryz.underlying53 hi hz0 hz1 hz2 rfl (by decide) _ _ _ rfl (hown2.alloc _) ⟨w2.heap.size,0,none⟩ 1 1 [.int .u8 (m%128)] rfl rfl (one_new _ _ _) ?c2 ?c3 ?c4 ?c5 ?_))
   case c2=>first|rfl|(intro u hu;simp at hu;subst hu;rfl)
   case c3=>unfold maxLen;omega
   case c4=>omega
   case c5=>first|omega|(simp;omega)
   intro v' w1 hown' hgrow _
   obtain ⟨ho,hb⟩:=app_rel hown2 hown' hgrow hbel2 (by omega) (by omega)
   have hfin:bs++[m%128]=Leb.sB n:=by rw [<- HB.out,Leb.sB_small HL.out]
   rw [hfin] at ho
   clear HB hown2 hown' hgrow hbel2 hfin
   obtain ⟨g,cap,rfl,hcv⟩:=own_string ho (Leb.sB_pos n)
   clear ho
   go_wp2
   go_ret
   exact ⟨rfl,hb⟩
  ·have hor:bits .or .u8 (m%128) 128=m%128+128:=by rw [Leb.or128_u8 _ (by omega) (by omega)];omega
   have HL:Hid (¬ (-64<=m/\m<=63)):=hlt
   clear hlt
   go_wp2_with fail
   refine (c20' b w.heap.size m false _ _ _ w wr hm0 hm1 (decide_eq_false HL.out) hblk hown hbs hbel).mono ?_
   rintro e w2 ⟨rfl,hblk2,hown2,hbel2,hsz2⟩
   clear hblk hown hbel
   have HK2:Hid (w2.heap[b]?=some (.cells #[.int .i64 (m / 128)] 2 (0,0))):=hblk2
   clear hblk2
   go_wp2_with (first|(at_builtin;refine wpList_append_own _ rfl _ _ 53 rfl w.heap.size 5 i0 (.int .u8 0) 1 1 Tryz.underlying53 hi hz0 hz1 hz2 rfl (by decide) _ _ _ rfl (hown2.alloc _) ⟨w2.heap.size,0,none⟩ 1 1 [.int .u8 (m%128+128)] rfl rfl (one_new _ _ _) ?d2 ?d3 ?d4 ?d5 ?_))
   case d2=>first|rfl|(intro u hu;simp at hu;subst hu;rfl)
   case d3=>unfold maxLen;omega
   case d4=>omega
   case d5=>first|omega|(simp;omega)
   intro v' w1 hown' hgrow _
   obtain ⟨ho,hb⟩:=app_rel hown2 hown' hgrow hbel2 (by omega) (by omega)
   have HK1:Hid (w1.heap[b]?=some (.cells #[.int .i64 (m / 128)] 2 (0,0))):=blk_app hown2 hgrow hbs HK2.out
   have hfin:(bs++[m%128+128])++Leb.sB (m / 128)=Leb.sB n:=by rw [<- HB.out,Leb.sB_great HL.out];simp
   have HB':Hid ((bs++[m%128+128])++Leb.sB (m / 128)=Leb.sB n):=hfin
   have HL':Hid (lenOf v'=(bs++[m%128+128]).length):=lenOf_own ho
   clear HB hown2 hown' hgrow hbel2 hfin HK2
   go_wp2
   go_roundw
   case rel=>exact ⟨m / 128,bs++[m%128+128],by omega,by omega,HB'.out,HK1.out,ho,hb⟩
   case measure=>rw [HL'.out,HLO.out];simp;omega
theorem heap_new (w:World) (o:Obj):(w.alloc o).heap[w.heap.size]?=some o:=by
 show (w.heap.push o)[w.heap.size]?=_
 simp
set_option maxHeartbeats 400000 in
theorem lebPutU (n:Int) (w:World) (h0:0<=n) (h1:n<=18446744073709551615) :
  Calls Tryz.prog 93 #[.int .u64 n] w fun e w'=>e=.returned (.string (strOfNums (Leb.uB n)))/\Below w.heap.size w w':=by
 go_enter Tryz.func93,Tryz.ntmps93
 go_wp2_with fail
 refine (c18u w.heap.size n _ h0 h1 (heap_new _ _)).mono ?_
 rintro e w' ⟨rfl,hb⟩
 go_wp2
 go_ret
 exact ⟨rfl,((Below.refl _ _).alloc (Nat.le_refl _) _).trans hb⟩
set_option maxHeartbeats 400000 in
theorem lebPutS (n:Int) (w:World) (h0:-9223372036854775808<=n) (h1:n<=9223372036854775807) :
  Calls Tryz.prog 131 #[.int .i64 n] w fun e w'=>e=.returned (.string (strOfNums (Leb.sB n)))/\Below w.heap.size w w':=by
 go_enter Tryz.func131,Tryz.ntmps131
 go_wp2_with fail
 refine (c18s w.heap.size n _ h0 h1 (heap_new _ _)).mono ?_
 rintro e w' ⟨rfl,hb⟩
 go_wp2
 go_ret
 exact ⟨rfl,((Below.refl _ _).alloc (Nat.le_refl _) _).trans hb⟩
end Go.Proofs.YtlcpagiljfpbpaaGreatDoor


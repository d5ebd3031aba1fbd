/- Texts that the claim needs. -/
import Derived.WalkKit
import Derived.Laws.BytesArg
import Derived.Laws.BitsAllLaws
import Derived.Test.YtlcpagiljfpbpaaDoorRows
import Derived.WalkSpells
import Derived.BigQuiet
import Derived.Deep.QuietTactic
import Derived.WalkSmall
import Derived.Test.YtlcpagiljfpbpaaDoorQEUn6
import Derived.Lib.AppendStr
namespace Go.Proofs.YtlcpagiljfpbpaaDoor
namespace Leb
def uBf:Nat->Int->List Int
 | 0,n=>[n%128]
 | f+1,n=>if n<128 then [n%128] else (n%128+128) :: uBf f (n / 128)
def uB (n:Int):List Int:=uBf n.toNat n
theorem uBf_more:∀(f g:Nat) (n:Int),0<=n->n.toNat<=f->n.toNat<=g->uBf f n=uBf g n
 | 0,0,_,_,_,_=>rfl
 | 0,g+1,n,h,hf,_=>by
  have:n<128:=by omega
  simp [uBf,this]
 | f+1,0,n,h,_,hg=>by
  have:n<128:=by omega
  simp [uBf,this]
 | f+1,g+1,n,h,hf,hg=>by
  simp only [uBf]
  split
  ·rfl
  ·rw [uBf_more f g (n / 128) (by omega) (by omega) (by omega)]
theorem uB_small {n:Int} (h0:0<=n) (h:n<128):uB n = [n]:=by
 have e:n%128=n:=by omega
 unfold uB
 cases n.toNat<;>simp [uBf,h,e]
theorem uB_great {n:Int} (h:128<=n):uB n=(n%128+128) :: uB (n / 128):=by
 have hn:∃f,n.toNat=f+1:=⟨n.toNat-1,by omega⟩
 obtain ⟨f,hf⟩:=hn
 unfold uB
 rw [hf]
 simp only [uBf]
 rw [if_neg (by omega),uBf_more f (n / 128).toNat (n / 128) (by omega) (by omega) (by omega)]
def sBf:Nat->Int->List Int
 | 0,n=>[n%128]
 | f+1,n=>if -64<=n/\n<=63 then [n%128] else (n%128+128) :: sBf f (n / 128)
def sB (n:Int):List Int:=sBf n.natAbs n
theorem sBf_more:∀(f g:Nat) (n:Int),n.natAbs<=f->n.natAbs<=g->sBf f n=sBf g n
 | 0,0,_,_,_=>rfl
 | 0,g+1,n,hf,_=>by
  have:-64<=n/\n<=63:=by omega
  simp [sBf,this]
 | f+1,0,n,_,hg=>by
  have:-64<=n/\n<=63:=by omega
  simp [sBf,this]
 | f+1,g+1,n,hf,hg=>by
  simp only [sBf]
  split
  ·rfl
  ·rw [sBf_more f g (n / 128) (by omega) (by omega)]
theorem sB_small {n:Int} (h:-64<=n/\n<=63):sB n = [n%128]:=by
 unfold sB
 cases n.natAbs<;>simp [sBf,h]
theorem sB_great {n:Int} (h:¬ (-64<=n/\n<=63)):sB n=(n%128+128) :: sB (n / 128):=by
 have hn:∃f,n.natAbs=f+1:=⟨n.natAbs-1,by omega⟩
 obtain ⟨f,hf⟩:=hn
 unfold sB
 rw [hf]
 simp only [sBf]
 rw [if_neg h,sBf_more f (n / 128).natAbs (n / 128) (by omega) (by omega)]
theorem uB_len:∀(j:Nat) (n:Int),0<=n->n<128 ^ (j+1)->(uB n).length<=j+1
 | 0,n,h0,h=>by rw [uB_small h0 (by simpa using h)];simp
 | j+1,n,h0,h=>by
  by_cases hs:n<128
  ·rw [uB_small h0 hs];simp
  ·rw [uB_great (by omega)]
   have hd:n / 128<128 ^ (j+1):=by
    have e:(128:Int) ^ (j+1+1)=128 ^ (j+1)*128:=by rw [Int.pow_succ]
    rw [e] at h
    omega
   have:=uB_len j (n / 128) (by omega) hd
   simp;omega
theorem uB_pos (n:Int):0<(uB n).length:=by
 unfold uB
 cases n.toNat with
 | zero=>simp [uBf]
 | succ f=>simp only [uBf];split<;>simp
theorem sB_len:∀(j:Nat) (n:Int),-(64*128 ^ j)<=n->n<64*128 ^ j->(sB n).length<=j+1
 | 0,n,h0,h=>by
  have h0':-64<=n:=by simpa using h0
  have h':n<64:=by simpa using h
  rw [sB_small ⟨h0',by omega⟩];simp
 | j+1,n,h0,h=>by
  by_cases hs:-64<=n/\n<=63
  ·rw [sB_small hs];simp
  ·rw [sB_great hs]
   have e:(128:Int) ^ (j+1)=128 ^ j*128:=by rw [Int.pow_succ]
   rw [e] at h h0
   have:=sB_len j (n / 128) (by omega) (by omega)
   simp;omega
theorem sB_pos (n:Int):0<(sB n).length:=by
 unfold sB
 cases n.natAbs with
 | zero=>simp [sBf]
 | succ f=>simp only [sBf];split<;>simp
theorem uB_ten {n:Int} (h0:0<=n) (h:n<=18446744073709551615):(uB n).length<=10:=by
 have e:(128:Int) ^ 10=1180591620717411303424:=by decide
 exact uB_len 9 n h0 (by show n<128 ^ 10;rw [e];omega)
theorem sB_ten {n:Int} (h0:-9223372036854775808<=n) (h:n<=9223372036854775807):(sB n).length<=10:=by
 have e:(64:Int)*128 ^ 9=590295810358705651712:=by decide
 exact sB_len 9 n (by rw [e];omega) (by rw [e];omega)
end Leb
end Go.Proofs.YtlcpagiljfpbpaaDoor

namespace Go.Proofs.YtlcpagiljfpbpaaDoor
open Go.RowKit
namespace Leb
theorem ofInt_toNat (x:Int):((BitVec.ofInt 64 x).toNat:Int)=x%18446744073709551616:=by
 rw [BitVec.toNat_ofInt]
 have h:0<=x%18446744073709551616:=Int.emod_nonneg _ (by decide)
 have e:((2 ^ 64:Nat):Int)=18446744073709551616:=by decide
 rw [e]
 omega
theorem and127_u64 (n:Int) (h0:0<=n) (h1:n<=18446744073709551615):bits .and .u64 n 127=n%128:=by
 rw [u64_and n 127 h0 (by omega) (by decide) (by decide)]
 have e:(127:Int).toNat=127:=rfl
 rw [e,nat_mask7]
 omega
theorem and127_i64 (n:Int):bits .and .i64 n 127=n%128:=by
 have h:=ofInt_toNat n
 show IntKind.i64.wrap (((BitVec.ofInt 64 n &&& BitVec.ofInt 64 127).toNat:Nat):Int)=_
 have e:(BitVec.ofInt 64 127).toNat=127:=by decide
 rw [BitVec.toNat_and,e,nat_mask7,IntKind.wrap_i64]
 omega
theorem byte_all (p:Nat->Bool) (h:(List.range 256).all p=true) (c:Int) (h0:0<=c) (h1:c<=255):p c.toNat=true:=by
 rw [List.all_eq_true] at h
 exact h _ (List.mem_range.2 (by omega))
theorem and127_u8 (c:Int) (h0:0<=c) (h1:c<=255):bits .and .u8 c 127=c%128:=by
 have:=byte_all (fun n=>bits .and .u8 (n:Int) 127 == (n:Int)%128) (by decide +kernel) c h0 h1
 simp only [beq_iff_eq] at this
 rwa [Int.toNat_of_nonneg h0] at this
theorem or128_u8 (c:Int) (h0:0<=c) (h1:c<=255):bits .or .u8 c 128=c%128+128:=by
 have:=byte_all (fun n=>bits .or .u8 (n:Int) 128 == (n:Int)%128+128) (by decide +kernel) c h0 h1
 simp only [beq_iff_eq] at this
 rwa [Int.toNat_of_nonneg h0] at this
theorem and64_u8 (c:Int) (h0:0<=c) (h1:c<=255):bits .and .u8 c 64=if 64<=c%128 then 64 else 0:=by
 have:=byte_all (fun n=>bits .and .u8 (n:Int) 64 == if 64<=(n:Int)%128 then 64 else 0) (by decide +kernel) c h0 h1
 simp only [beq_iff_eq] at this
 rwa [Int.toNat_of_nonneg h0] at this
end Leb
end Go.Proofs.YtlcpagiljfpbpaaDoor

namespace Go.Proofs.YtlcpagiljfpbpaaDoor
open Go.RowKit
theorem linfo8:(Tryd.prog.info? 5).map (fun i=>(i.zero,i.size,i.bytes))=some (some (.int .u8 0),1,1):=by kernel_rfl
theorem two_ret {a b:Int} {p q:Bool} (h:a=b) (h':p=q):Ending.returned (.tuple #[.int .u8 a,.bool p])=.returned (.tuple #[.int .u8 b,.bool q]):=by rw [h,h']
theorem own_string {w:World} {base:Nat} {v:Value} {n:Nat} {xs:List Int} (h:w.ownsRow base 5 1 v n (xs.map (Value.int .u8))) (hn:0<n) :
  ∃g cap,v=.slice (some ⟨g,0,none⟩) n cap/\(convert 59 9 (.slice (some ⟨g,0,none⟩) n cap)).run Tryd.prog w=.ok (.string (strOfNums xs)) w:=by
 have hl:=h.1
 simp only [List.length_map,Nat.mul_one] at hl
 rcases h.2 with ⟨_,h0⟩|⟨g,cap,cur,hv,_⟩
 ·omega
 ·refine ⟨g,cap,hv,?_⟩
  subst hv
  refine run_convert_bytes_arg w 59 5 Tryd.underlying59 Tryd.underlying5 g 0 n cap xs hl (fun i hi=>?_) 9 Tryd.underlying9
  have:=h.cellAt i (by omega)
  rw [Nat.zero_add,this]
  have hi':i<xs.length:=by omega
  simp [List.getElem?_eq_getElem hi',List.getD]
set_option maxHeartbeats 400000 in
theorem c19 (b:Nat) (n:Int) (w:World) (h0:0<=n) (h1:n<=18446744073709551615) (hc:w.cell? ⟨b,0,none⟩=some (.int .u64 n)) (hf:w.frozen? ⟨b,0,none⟩=false) :
  Calls Tryd.prog 77 #[.pointer (some ⟨b,0,none⟩)] w fun e w' =>
   e=.returned (.tuple #[.int .u8 (n%128),.bool (decide (n<128))])/\∃k,w'=(w.setCell ⟨b,0,none⟩ (.int .u64 (n / 128))).drewN k:=by
 have hm:=Leb.and127_u64 n h0 h1
 go_enter Tryd.func77,Tryd.ntmps77
 go_wp2
 go_quiet (fail)
 go_wp2
 go_ret2
 refine ⟨two_ret (by omega) ?_,_,rfl⟩
 rw [Bool.eq_iff_iff];simp;omega
theorem app_rel {w wr w1:World} {base B:Nat} {v v':Value} {bs:List Int} {x:Int} {o:Obj} (hown:wr.ownsRow base 5 1 v bs.length (bs.map (Value.int .u8)))
  (hown':w1.ownsRow base 5 1 v' (bs.length+1) (bs.map (Value.int .u8)++[.int .u8 x])) (hgrow:(wr.alloc o).grownBy w1 v.ownBlock) (hbel:Below B w wr) (hB:B<=base) (hs:B<=wr.heap.size) :
  w1.ownsRow base 5 1 v' (bs++[x]).length ((bs++[x]).map (Value.int .u8))/\Below B w w1 :=
 ⟨by simpa using hown',(hbel.alloc hs o).grown hgrow (by simp;omega) (fun j hj=>by have:=(hown.lt j hj).1;omega)⟩
theorem one_new (w:World) (x:Value) (t:TypeId):∀(j:Nat) (u:Value),[x][j]?=some u->(w.alloc (.cells #[x] t)).cell? ((⟨w.heap.size,0,none⟩:Addr).add j)=some u:=by
 intro j u hj
 match j,hj with
 | 0,hj=>simp at hj;subst hj;simp [Addr.add]
theorem c20 (b:Nat) (n:Int) (w:World) (h0:-9223372036854775808<=n) (h1:n<=9223372036854775807) (hc:w.cell? ⟨b,0,none⟩=some (.int .i64 n)) (hf:w.frozen? ⟨b,0,none⟩=false) :
  Calls Tryd.prog 87 #[.pointer (some ⟨b,0,none⟩)] w fun e w' =>
   e=.returned (.tuple #[.int .u8 (n%128),.bool (decide (-64<=n/\n<=63))])/\∃k,w'=(w.setCell ⟨b,0,none⟩ (.int .i64 (n / 128))).drewN k:=by
 have hm:=Leb.and127_i64 n
 have h6:bits .and .u8 (n%128%256) 64=if 64<=n%128 then 64 else 0:=by rw [Leb.and64_u8 _ (by omega) (by omega)];congr 1;rw [eq_iff_iff];omega
 have h6':bits .and .u8 (n%128) 64=if 64<=n%128 then 64 else 0:=by rw [Leb.and64_u8 _ (by omega) (by omega)];congr 1;rw [eq_iff_iff];omega
 by_cases h:64<=n%128
 ·rw [if_pos h] at h6 h6'
  go_enter Tryd.func87,Tryd.ntmps87
  go_wp2
  go_quiet (fail)
  go_wp2
  go_ret2
  refine ⟨two_ret (by omega) ?_,_,rfl⟩
  rw [Bool.eq_iff_iff];simp;omega
 ·rw [if_neg h] at h6 h6'
  go_enter Tryd.func87,Tryd.ntmps87
  go_wp2
  go_quiet (fail)
  go_wp2
  go_ret2
  refine ⟨two_ret (by omega) ?_,_,rfl⟩
  rw [Bool.eq_iff_iff];simp;omega
end Go.Proofs.YtlcpagiljfpbpaaDoor

namespace Go.Proofs.YtlcpagiljfpbpaaDoor
open Go.RowKit
def lenOf:Value->Nat | .slice _ n _=>n|_=>0
theorem lenOf_own {w:World} {base e size:Nat} {v:Value} {n:Nat} {xs:List Value} (h:w.ownsRow base e size v n xs):lenOf v=n:=by
 rcases h.2 with ⟨rfl,rfl⟩|⟨g,cap,cur,rfl,_⟩<;>rfl
theorem c19' (b base:Nat) (m:Int) (q:Bool) (v:Value) (n:Nat) (xs:List Value) (w wr:World) (h0:0<=m) (h1:m<=18446744073709551615) (hq:decide (m<128)=q)
  (hblk:wr.heap[b]?=some (.cells #[.int .u64 m] 97 (0,0))) (hown:wr.ownsRow base 5 1 v n xs) (hb:b<base) (hbel:Below b w wr) :
  Calls Tryd.prog 77 #[.pointer (some ⟨b,0,none⟩)] wr fun e w' =>
   e=.returned (.tuple #[.int .u8 (m%128),.bool q])/\w'.heap[b]?=some (.cells #[.int .u64 (m / 128)] 97 (0,0))/\w'.ownsRow base 5 1 v n xs/\Below b w w'/\wr.heap.size<=w'.heap.size:=by
 refine (c19 b m wr h0 h1 (cell_of_one hblk) (free_of_one hblk)).mono ?_
 rintro e w' ⟨rfl,k,rfl⟩
 refine ⟨by rw [hq],one_setCell hblk,ownsRow_setCell_below hown hb _,below_drewN (hbel.setCell (Nat.le_refl _) _) k,?_⟩
 simp [World.setCell]
theorem c20' (b base:Nat) (m:Int) (q:Bool) (v:Value) (n:Nat) (xs:List Value) (w wr:World) (h0:-9223372036854775808<=m) (h1:m<=9223372036854775807) (hq:decide (-64<=m/\m<=63)=q)
  (hblk:wr.heap[b]?=some (.cells #[.int .i64 m] 2 (0,0))) (hown:wr.ownsRow base 5 1 v n xs) (hb:b<base) (hbel:Below b w wr) :
  Calls Tryd.prog 87 #[.pointer (some ⟨b,0,none⟩)] wr fun e w' =>
   e=.returned (.tuple #[.int .u8 (m%128),.bool q])/\w'.heap[b]?=some (.cells #[.int .i64 (m / 128)] 2 (0,0))/\w'.ownsRow base 5 1 v n xs/\Below b w w'/\wr.heap.size<=w'.heap.size:=by
 refine (c20 b m wr h0 h1 (cell_of_one hblk) (free_of_one hblk)).mono ?_
 rintro e w' ⟨rfl,k,rfl⟩
 refine ⟨by rw [hq],one_setCell hblk,ownsRow_setCell_below hown hb _,below_drewN (hbel.setCell (Nat.le_refl _) _) k,?_⟩
 simp [World.setCell]
theorem blk_app {wr w1:World} {base b n:Nat} {v:Value} {xs:List Value} {o:Obj} {x:Obj} (hown:wr.ownsRow base 5 1 v n xs) (hgrow:(wr.alloc o).grownBy w1 v.ownBlock) (hb:b<base) (hblk:wr.heap[b]?=some x) :
  w1.heap[b]?=some x:=by
 have hlt:=lt_of_block hblk
 rw [hgrow.block b (by simp;omega) (fun h=>by have:=hown.lt b h.symm;omega),Below.heap_alloc _ _ _ hlt]
 exact hblk
set_option maxHeartbeats 1000000 in
theorem c18u (b:Nat) (n:Int) (w:World) (h0:0<=n) (h1:n<=18446744073709551615) (hblk0:w.heap[b]?=some (.cells #[.int .u64 n] 97 (0,0))) :
  Calls Tryd.prog 76 #[.func (.func 77) #[] #[.pointer (some ⟨b,0,none⟩)]] w fun e w'=>e=.returned (.string (strOfNums (Leb.uB n)))/\Below b w w':=by
 obtain ⟨i0,hi,hz0,hz1,hz2⟩:=info_parts linfo8
 have hbs:=lt_of_block hblk0
 go_enter Tryd.func76,Tryd.ntmps76
 go_wp2
 go_loopw [3] (fun v wr=>∃(m:Int) (bs:List Int),0<=m/\m<=18446744073709551615/\bs++Leb.uB m=Leb.uB n/\wr.heap[b]?=some (.cells #[.int .u64 m] 97 (0,0))/\wr.ownsRow w.heap.size 5 1 v bs.length (bs.map (Value.int .u8))/\Below b w wr)
  (fun v _=>10-lenOf v)
 case atStart=>exact ⟨n,[],h0,h1,rfl,hblk0,World.ownsRow_nil _ _ _ _,Below.refl _ _⟩
 case round =>
  obtain ⟨m,bs,hm0,hm1,hbs',hblk,hown,hbel⟩:=hrel
  have hlen:bs.length+(Leb.uB m).length<=10:=by rw [<- List.length_append,hbs'];exact Leb.uB_ten h0 h1
  have hpos:=Leb.uB_pos m
  have hlo:=lenOf_own hown
  have HLO:Hid (lenOf u3=bs.length):=hlo
  have HB:Hid (bs++Leb.uB m=Leb.uB n):=hbs'
  have HK:Hid (w.heap[b]?=some (.cells #[.int .u64 n] 97 (0,0))):=hblk0
  clear hbs' hblk0 hlo
  have hsz:=hbel.size
  by_cases hlt:m<128
  ·go_wp2_with fail
   refine (c19' b w.heap.size m true _ _ _ w wr hm0 hm1 (by simpa using hlt) hblk hown hbs hbel).mono ?_
   rintro e w2 ⟨rfl,hblk2,hown2,hbel2,hsz2⟩
   clear hblk hown hbel hblk2
   go_wp2_with (first|(at_builtin;refine wpList_append_own _ rfl _ _ 59 rfl w.heap.size 5 i0 (.int .u8 0) 1 1 Tryd.underlying59 hi hz0 hz1 hz2 rfl (by decide) _ _ _ rfl (hown2.alloc _) ⟨w2.heap.size,0,none⟩ 1 1 [.int .u8 (m%128)] rfl rfl (one_new _ _ _) ?c2 ?c3 ?c4 ?c5 ?_))
   case c2=>first|rfl|(intro u hu;simp at hu;subst hu;rfl)
   case c3=>unfold maxLen;omega
   case c4=>omega
   case c5=>first|omega|(simp;omega)
   intro v' w1 hown' hgrow _
   obtain ⟨ho,hb⟩:=app_rel hown2 hown' hgrow hbel2 (by omega) (by omega)
   have hfin:bs++[m%128]=Leb.uB n:=by rw [<- HB.out,Leb.uB_small hm0 hlt];simp;omega
   rw [hfin] at ho
   clear HB hown2 hown' hgrow hbel2 hfin
   obtain ⟨g,cap,rfl,hcv⟩:=own_string ho (Leb.uB_pos n)
   clear ho
   go_wp2
   go_ret
   exact ⟨rfl,hb⟩
  ·have hor:bits .or .u8 (m%128) 128=m%128+128:=by rw [Leb.or128_u8 _ (by omega) (by omega)];omega
   go_wp2_with fail
   refine (c19' b w.heap.size m false _ _ _ w wr hm0 hm1 (by simpa using hlt) hblk hown hbs hbel).mono ?_
   rintro e w2 ⟨rfl,hblk2,hown2,hbel2,hsz2⟩
   clear hblk hown hbel
   have HK2:Hid (w2.heap[b]?=some (.cells #[.int .u64 (m / 128)] 97 (0,0))):=hblk2
   clear hblk2
   go_wp2_with (first|(at_builtin;refine wpList_append_own _ rfl _ _ 59 rfl w.heap.size 5 i0 (.int .u8 0) 1 1 Tryd.underlying59 hi hz0 hz1 hz2 rfl (by decide) _ _ _ rfl (hown2.alloc _) ⟨w2.heap.size,0,none⟩ 1 1 [.int .u8 (m%128+128)] rfl rfl (one_new _ _ _) ?d2 ?d3 ?d4 ?d5 ?_))
   case d2=>first|rfl|(intro u hu;simp at hu;subst hu;rfl)
   case d3=>unfold maxLen;omega
   case d4=>omega
   case d5=>first|omega|(simp;omega)
   intro v' w1 hown' hgrow _
   obtain ⟨ho,hb⟩:=app_rel hown2 hown' hgrow hbel2 (by omega) (by omega)
   have HK1:Hid (w1.heap[b]?=some (.cells #[.int .u64 (m / 128)] 97 (0,0))):=blk_app hown2 hgrow hbs HK2.out
   have hfin:(bs++[m%128+128])++Leb.uB (m / 128)=Leb.uB n:=by rw [<- HB.out,Leb.uB_great (by omega:128<=m)];simp
   have HB':Hid ((bs++[m%128+128])++Leb.uB (m / 128)=Leb.uB n):=hfin
   have HL':Hid (lenOf v'=(bs++[m%128+128]).length):=lenOf_own ho
   clear HB hown2 hown' hgrow hbel2 hfin HK2
   go_wp2
   go_roundw
   case rel=>exact ⟨m / 128,bs++[m%128+128],by omega,by omega,HB'.out,HK1.out,ho,hb⟩
   case measure=>rw [HL'.out,HLO.out];simp;omega
set_option maxHeartbeats 1000000 in
theorem c18s (b:Nat) (n:Int) (w:World) (h0:-9223372036854775808<=n) (h1:n<=9223372036854775807) (hblk0:w.heap[b]?=some (.cells #[.int .i64 n] 2 (0,0))) :
  Calls Tryd.prog 76 #[.func (.func 87) #[] #[.pointer (some ⟨b,0,none⟩)]] w fun e w'=>e=.returned (.string (strOfNums (Leb.sB n)))/\Below b w w':=by
 obtain ⟨i0,hi,hz0,hz1,hz2⟩:=info_parts linfo8
 have hbs:=lt_of_block hblk0
 go_enter Tryd.func76,Tryd.ntmps76
 go_wp2
 go_loopw [3] (fun v wr=>∃(m:Int) (bs:List Int),-9223372036854775808<=m/\m<=9223372036854775807/\bs++Leb.sB m=Leb.sB n/\wr.heap[b]?=some (.cells #[.int .i64 m] 2 (0,0))/\wr.ownsRow w.heap.size 5 1 v bs.length (bs.map (Value.int .u8))/\Below b w wr)
  (fun v _=>10-lenOf v)
 case atStart=>exact ⟨n,[],h0,h1,rfl,hblk0,World.ownsRow_nil _ _ _ _,Below.refl _ _⟩
 case round =>
  obtain ⟨m,bs,hm0,hm1,hbs',hblk,hown,hbel⟩:=hrel
  have hlen:bs.length+(Leb.sB m).length<=10:=by rw [<- List.length_append,hbs'];exact Leb.sB_ten h0 h1
  have hpos:=Leb.sB_pos m
  have hlo:=lenOf_own hown
  have HLO:Hid (lenOf u3=bs.length):=hlo
  have HB:Hid (bs++Leb.sB m=Leb.sB n):=hbs'
  have HK:Hid (w.heap[b]?=some (.cells #[.int .i64 n] 2 (0,0))):=hblk0
  clear hbs' hblk0 hlo
  have hsz:=hbel.size
  by_cases hlt:-64<=m/\m<=63
  ·have HL:Hid (-64<=m/\m<=63):=hlt
   clear hlt
   go_wp2_with fail
   refine (c20' b w.heap.size m true _ _ _ w wr hm0 hm1 (by simpa using HL.out) hblk hown hbs hbel).mono ?_
   rintro e w2 ⟨rfl,hblk2,hown2,hbel2,hsz2⟩
   clear hblk hown hbel hblk2
   go_wp2_with (first|(at_builtin;refine wpList_append_own _ rfl _ _ 59 rfl w.heap.size 5 i0 (.int .u8 0) 1 1 Tryd.underlying59 hi hz0 hz1 hz2 rfl (by decide) _ _ _ rfl (hown2.alloc _) ⟨w2.heap.size,0,none⟩ 1 1 [.int .u8 (m%128)] rfl rfl (one_new _ _ _) ?c2 ?c3 ?c4 ?c5 ?_))
   case c2=>first|rfl|(intro u hu;simp at hu;subst hu;rfl)
   case c3=>unfold maxLen;omega
   case c4=>omega
   case c5=>first|omega|(simp;omega)
   intro v' w1 hown' hgrow _
   obtain ⟨ho,hb⟩:=app_rel hown2 hown' hgrow hbel2 (by omega) (by omega)
   have hfin:bs++[m%128]=Leb.sB n:=by rw [<- HB.out,Leb.sB_small HL.out]
   rw [hfin] at ho
   clear HB hown2 hown' hgrow hbel2 hfin
   obtain ⟨g,cap,rfl,hcv⟩:=own_string ho (Leb.sB_pos n)
   clear ho
   go_wp2
   go_ret
   exact ⟨rfl,hb⟩
  ·have hor:bits .or .u8 (m%128) 128=m%128+128:=by rw [Leb.or128_u8 _ (by omega) (by omega)];omega
   have HL:Hid (¬ (-64<=m/\m<=63)):=hlt
   clear hlt
   go_wp2_with fail
   refine (c20' b w.heap.size m false _ _ _ w wr hm0 hm1 (decide_eq_false HL.out) hblk hown hbs hbel).mono ?_
   rintro e w2 ⟨rfl,hblk2,hown2,hbel2,hsz2⟩
   clear hblk hown hbel
   have HK2:Hid (w2.heap[b]?=some (.cells #[.int .i64 (m / 128)] 2 (0,0))):=hblk2
   clear hblk2
   go_wp2_with (first|(at_builtin;refine wpList_append_own _ rfl _ _ 59 rfl w.heap.size 5 i0 (.int .u8 0) 1 1 Tryd.underlying59 hi hz0 hz1 hz2 rfl (by decide) _ _ _ rfl (hown2.alloc _) ⟨w2.heap.size,0,none⟩ 1 1 [.int .u8 (m%128+128)] rfl rfl (one_new _ _ _) ?d2 ?d3 ?d4 ?d5 ?_))
   case d2=>first|rfl|(intro u hu;simp at hu;subst hu;rfl)
   case d3=>unfold maxLen;omega
   case d4=>omega
   case d5=>first|omega|(simp;omega)
   intro v' w1 hown' hgrow _
   obtain ⟨ho,hb⟩:=app_rel hown2 hown' hgrow hbel2 (by omega) (by omega)
   have HK1:Hid (w1.heap[b]?=some (.cells #[.int .i64 (m / 128)] 2 (0,0))):=blk_app hown2 hgrow hbs HK2.out
   have hfin:(bs++[m%128+128])++Leb.sB (m / 128)=Leb.sB n:=by rw [<- HB.out,Leb.sB_great HL.out];simp
   have HB':Hid ((bs++[m%128+128])++Leb.sB (m / 128)=Leb.sB n):=hfin
   have HL':Hid (lenOf v'=(bs++[m%128+128]).length):=lenOf_own ho
   clear HB hown2 hown' hgrow hbel2 hfin HK2
   go_wp2
   go_roundw
   case rel=>exact ⟨m / 128,bs++[m%128+128],by omega,by omega,HB'.out,HK1.out,ho,hb⟩
   case measure=>rw [HL'.out,HLO.out];simp;omega
theorem heap_new (w:World) (o:Obj):(w.alloc o).heap[w.heap.size]?=some o:=by
 show (w.heap.push o)[w.heap.size]?=_
 simp
set_option maxHeartbeats 400000 in
theorem lebPutU (n:Int) (w:World) (h0:0<=n) (h1:n<=18446744073709551615) :
  Calls Tryd.prog 68 #[.int .u64 n] w fun e w'=>e=.returned (.string (strOfNums (Leb.uB n)))/\Below w.heap.size w w':=by
 go_enter Tryd.func68,Tryd.ntmps68
 go_wp2_with fail
 refine (c18u w.heap.size n _ h0 h1 (heap_new _ _)).mono ?_
 rintro e w' ⟨rfl,hb⟩
 go_wp2
 go_ret
 exact ⟨rfl,((Below.refl _ _).alloc (Nat.le_refl _) _).trans hb⟩
set_option maxHeartbeats 400000 in
theorem lebPutS (n:Int) (w:World) (h0:-9223372036854775808<=n) (h1:n<=9223372036854775807) :
  Calls Tryd.prog 84 #[.int .i64 n] w fun e w'=>e=.returned (.string (strOfNums (Leb.sB n)))/\Below w.heap.size w w':=by
 go_enter Tryd.func84,Tryd.ntmps84
 go_wp2_with fail
 refine (c18s w.heap.size n _ h0 h1 (heap_new _ _)).mono ?_
 rintro e w' ⟨rfl,hb⟩
 go_wp2
 go_ret
 exact ⟨rfl,((Below.refl _ _).alloc (Nat.le_refl _) _).trans hb⟩
end Go.Proofs.YtlcpagiljfpbpaaDoor

namespace Go.Proofs.YtlcpagiljfpbpaaDoor
open Go.RowKit Rep
set_option linter.unusedVariables false
namespace Enc
theorem u8Info:(Tryd.prog.info? 5).map (fun i=>(i.zero,i.size,i.bytes))=some (some (.int .u8 0),1,1):=by kernel_rfl
def cells (bs:List Int):List Value:=bs.map (Value.int .u8)
structure WS (w0:World) (p:Nat) (c:Nat->Value) (v:Value) (bs:List Int) (w:World):Prop where
 below:Below w0.heap.size w0 w
 base:w0.heap.size<=p
 blk:w.heap[p]?=some (.cells #[c 0,c 1,c 2,c 3,c 4,c 5,c 6,c 7,c 8,c 9,v] 61 (0,0))
 own:w.ownsRow w0.heap.size 5 1 v bs.length (cells bs)
 apart:v.ownBlock≠some p
section
variable {w0 w w':World} {p:Nat} {c:Nat->Value} {v:Value} {bs:List Int}
theorem WS.cell (h:WS w0 p c v bs w):w.cell? ⟨p,10,none⟩=some v:=by unfold World.cell?;rw [h.blk];rfl
theorem WS.frz (h:WS w0 p c v bs w):w.frozen? ⟨p,10,none⟩=false:=by unfold World.frozen?;rw [h.blk];simp
theorem WS.lt (h:WS w0 p c v bs w):p<w.heap.size:=(Array.getElem?_eq_some_iff.1 h.blk).1
theorem WS.slice (h:WS w0 p c v bs w):∃o k,v=.slice o bs.length k:=by
 rcases h.own.2 with ⟨rfl,h0⟩|⟨g,cap,cur,rfl,_⟩
 ·rw [h0];exact ⟨none,0,rfl⟩
 ·exact ⟨_,_,rfl⟩
theorem own_on' {B:Nat} {e:TypeId} {size:Nat} {v:Value} {n:Nat} {xs:List Value} (h:w.ownsRow B e size v n xs) (hb:Below w.heap.size w w'):w'.ownsRow B e size v n xs :=
 ⟨h.1,h.2.imp id fun ⟨g,cap,cur,h1,h2,h3,h4⟩=>⟨g,cap,cur,h1,h2,by rw [hb.block g (Array.getElem?_eq_some_iff.1 h3).1];exact h3,h4⟩⟩
theorem WS.on (h:WS w0 p c v bs w) (hb:Below w.heap.size w w'):WS w0 p c v bs w' :=
 ⟨h.below.trans (hb.mono h.below.size),h.base,by rw [hb.block p h.lt];exact h.blk,own_on' h.own hb,h.apart⟩
theorem WS.store {w9:World} {v':Value} {bs':List Int} (h:WS w0 p c v bs w) (ho:w9.ownsRow w0.heap.size 5 1 v' bs'.length (cells bs')) (hg:w.grownBy w9 v.ownBlock):WS w0 p c v' bs' (w9.setCell ⟨p,10,none⟩ v'):=by
 have hp9:w9.heap[p]?=some (.cells #[c 0,c 1,c 2,c 3,c 4,c 5,c 6,c 7,c 8,c 9,v] 61 (0,0)):=by rw [hg.block p h.lt (fun e=>h.apart e.symm)];exact h.blk
 have hap:v'.ownBlock≠some p:=by
  rcases ho.2 with ⟨rfl,_⟩|⟨g,cap,cur,rfl,_,hgg,_⟩
  ·simp [Value.ownBlock]
  ·intro e
   have:g=p:=by simpa [Value.ownBlock] using e
   subst this
   rw [hgg] at hp9
   injection hp9 with hp9
   injection hp9 with _ hp9
   exact absurd hp9 (by decide)
 refine ⟨(h.below.grown hg h.below.size fun k hk=>(h.own.lt k hk).1).setCell h.base _,h.base,heap_setCell_same w9 p 10 _ _ v' hp9,?_,hap⟩
 refine ⟨ho.1,ho.2.imp id fun ⟨g,cap,cur,k1,k2,k3,k4⟩=>⟨g,cap,cur,k1,k2,?_,k4⟩⟩
 rw [Below.heap_setCell _ _ _ _ (by show g≠p;intro e;subst e;exact hap (by rw [k1];rfl))]
 exact k3
end
def Adds (bs add bs':List Int):Prop:=bs'=bs++add\/(262144<bs'.length/\262144<bs.length+add.length/\bs.length<=bs'.length)
theorem Adds.le {bs add bs':List Int} (h:Adds bs add bs'):bs.length<=bs'.length:=by
 rcases h with rfl|⟨_,_,h⟩
 ·rw [List.length_append];omega
 ·exact h
theorem Adds.refl (bs:List Int):Adds bs [] bs:=.inl (by simp)
theorem Adds.trans {a b c x y:List Int} (h:Adds a x b) (h':Adds b y c):Adds a (x++y) c:=by
 rcases h with rfl|⟨h1,h2,h5⟩
 ·rcases h' with rfl|⟨h3,h4,h6⟩
  ·exact .inl (by rw [List.append_assoc])
  ·exact .inr ⟨h3,by rw [List.length_append] at h4 ⊢;omega,by rw [List.length_append] at h6;omega⟩
 ·rcases h' with rfl|⟨h3,h4,h6⟩
  ·exact .inr ⟨by rw [List.length_append];omega,by rw [List.length_append];omega,by rw [List.length_append];omega⟩
  ·exact .inr ⟨h3,by rw [List.length_append];omega,by omega⟩
structure Kept (p:Nat) (v:Value) (w:World) (v':Value) (w':World):Prop where
 size:w.heap.size<=w'.heap.size
 block:∀k,k<w.heap.size->k≠p->some k≠v.ownBlock->w'.heap[k]?=w.heap[k]?
 own:∀k,v'.ownBlock=some k->v.ownBlock=some k\/w.heap.size<=k
theorem Kept.refl (p:Nat) (v:Value) (w:World):Kept p v w v w:=⟨Nat.le_refl _,fun _ _ _ _=>rfl,fun k h=>.inl h⟩
theorem Kept.trans {p:Nat} {v v1 v2:Value} {w w1 w2:World} (h:Kept p v w v1 w1) (h':Kept p v1 w1 v2 w2):Kept p v w v2 w2 :=
 ⟨Nat.le_trans h.size h'.size,fun k hk hp hv=>by
  rw [h'.block k (Nat.lt_of_lt_of_le hk h.size) hp (fun e=>?_),h.block k hk hp hv]
  rcases h.own k e.symm with h1|h1
  ·exact hv h1.symm
  ·omega,fun k hk=>by
  rcases h'.own k hk with h1|h1
  ·exact h.own k h1
  ·exact .inr (Nat.le_trans h.size h1)⟩
theorem Kept.below {p:Nat} {v:Value} {w w1:World} (hb:Below w.heap.size w w1):Kept p v w v w1:=⟨hb.size,fun k hk _ _=>hb.block k hk,fun k h=>.inl h⟩
theorem Kept.store {p i:Nat} {v v':Value} {w w9:World} (hg:w.grownBy w9 v.ownBlock) (hv:v'.ownBlock=v.ownBlock\/v'.ownBlock=some w.heap.size) (u:Value):Kept p v w v' (w9.setCell ⟨p,i,none⟩ u) :=
 ⟨by simpa using hg.size,fun k hk hp ho=>by rw [Below.heap_setCell _ _ _ _ (by show k≠p;exact hp),hg.block k hk ho],fun k hk=>by
  rcases hv with h|h
  ·exact .inl (h ▸ hk)
  ·rw [h] at hk;injection hk with hk;exact .inr (by omega)⟩
def Does (w0:World) (p:Nat) (c:Nat->Value) (v:Value) (w:World) (bs:List Int) (e:Ending) (w':World):Prop:=∃v',e=.returned (.tuple #[])/\WS w0 p c v' bs w'/\Kept p v w v' w'
end Enc
open Enc
theorem wrap_u8 (b:Int):IntKind.u8.wrap b=b%256:=by simp [IntKind.wrap,IntKind.signed,IntKind.bits]
set_option maxRecDepth 100000 in
set_option maxHeartbeats 1000000 in
theorem wPut (w0:World) (p:Nat) (c:Nat->Value) (v:Value) (bs:List Int) (b:Int) (w:World) (h:WS w0 p c v bs w) (hn:bs.length<=100000000000000) :
  Calls Tryd.prog 45 #[.pointer (some ⟨p,0,none⟩),.int .i64 b] w (Does w0 p c v w (bs++[b%256])):=by
 obtain ⟨o,k,rfl⟩:=h.slice
 have HS:=hideR h
 have kc:=h.cell
 clear h
 obtain ⟨i0,hi,hz0,hz1,hz2⟩:=info_parts u8Info
 have HSA:=hideR (HS.out.on (new_on' w (.cells #[.int .u8 (b%256)] 5)))
 have hw:=wrap_u8 b
 go_enter Tryd.func45,Tryd.ntmps45
 go_wp2_with (first|(at_builtin;refine wpList_appS rfl _ _ 59 rfl w0.heap.size 5 i0 _ 1 1 Tryd.underlying59 hi hz0 hz1 hz2 rfl (by decide) _ _ _ rfl HSA.out.own (some ⟨w.heap.size,0,none⟩) 1 1 [.int .u8 (b%256)] rfl ?c6 ?c0 ?c1 ?c2 ?c3 ?c4 ?c5 ?_))
 case c6=>intro h;cases h
 case c0=>rfl
 case c1=>exact fun ad h=>by injection h with h;subst h;exact one_new _ _ _
 case c2=>intro u hu;rw [List.mem_singleton.1 hu];rfl
 case c3=>unfold maxLen;omega
 case c4=>omega
 case c5=>exact HSA.out.below.size
 intro v' w9 hown hg hv
 have HKP:=hideR ((Kept.below (p:=p) (v:=.slice o bs.length k) (new_on' w (.cells #[.int .u8 (b%256)] 5))).trans (Kept.store (i:=10) hg (by simpa using hv) v'))
 have HE:=hideR (HSA.out.store (bs':=bs++[b%256]) (by rw [List.length_append];simpa [cells] using hown) hg)
 obtain ⟨o9,k9,rfl⟩:∃o9 k9,v'=.slice o9 (bs.length+1) k9:=by
  rcases hown.2 with ⟨rfl,h0⟩|⟨g,cap,cur,rfl,_⟩
  ·omega
  ·exact ⟨_,_,rfl⟩
 have hS9:WS w0 p c (.slice o bs.length k) bs (w.alloc (.cells #[.int .u8 (b%256)] 5)):=HSA.out
 have kc9:w9.cell? ⟨p,10,none⟩=some (.slice o bs.length k):=by rw [World.cell?_of_block (a:=⟨p,10,none⟩) (hg.block p hS9.lt (fun e=>hS9.apart e.symm))];exact hS9.cell
 have kf9:w9.frozen? ⟨p,10,none⟩=false:=by rw [World.frozen?_of_block (a:=⟨p,10,none⟩) (hg.block p hS9.lt (fun e=>hS9.apart e.symm))];exact hS9.frz
 clear hown hg hv hS9 HSA HS kc
 go_wp2
 go_end0
 exact ⟨_,rfl,HE.out,HKP.out⟩
end Go.Proofs.YtlcpagiljfpbpaaDoor


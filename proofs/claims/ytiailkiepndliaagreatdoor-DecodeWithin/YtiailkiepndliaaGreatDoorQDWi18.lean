/- Texts that the claim needs. -/
import Derived.Test.YtiailkiepndliaaGreatDoorQDWi17
import Derived.Test.YtiailkiepndliaaGreatDoorRows
import Derived.Test.YtiailkiepndliaaGreatDoorQDWi0
import Derived.Test.YtiailkiepndliaaGreatDoorQDWi2
import Derived.WalkKit
import Derived.WalkSpells
import Derived.BigQuiet
import Derived.Deep.QuietTactic
import Derived.Laws.BytesArg
import Derived.WalkSmall
import Derived.Test.YtiailkiepndliaaGreatDoorQDWi1
import Derived.Deep.CutRange
import Derived.Deep.Cut
namespace Go.Proofs.YtiailkiepndliaaGreatDoor
namespace Leb
theorem uFin_64 (f:Nat->Int) (k:Nat) (a n:Int) (hk:0<k) (hk10:k<=10) (hf:0<=f 9/\f 9<128\/k<10) (hv:val f k=n) (hn:n<=18446744073709551615):uFin f k a 64=(n,a+k,0):=by
 unfold uFin
 rw [if_neg,hv]
 rintro (h|⟨h,_⟩|⟨rfl,h⟩)
 ·omega
 ·exact absurd h (by decide)
 ·have h9:=val_9 f 9 (by omega)
  have e:val f 10=val f 9+9223372036854775808*(f 9%128):=rfl
  omega
theorem sFin_64 (f:Nat->Int) (k:Nat) (a n:Int) (hk:0<k) (hk10:k<=10) (hf:0<=f 9/\f 9<128\/k<10) (hv:sval f k=n) (hn0:-9223372036854775808<=n) (hn:n<=9223372036854775807):sFin f k a 64=(n,a+k,0):=by
 unfold sFin
 rw [if_neg,hv]
 rintro (h|⟨h,_⟩|⟨rfl,h⟩)
 ·omega
 ·exact absurd h (by decide)
 ·have h9:=val_9 f 9 (by omega)
  have e:val f 10=val f 9+9223372036854775808*(f 9%128):=rfl
  have e2:(128:Int) ^ 10=1180591620717411303424:=by decide
  have e3:sval f 10=val f 10+128 ^ 10*(if 64<=f 9%128 then -1 else 0):=rfl
  rw [e,e2] at e3
  split at e3<;>omega
theorem from_lies {s:ByteArray} {a:Nat} {xs:List Int} (h:∀j,j<xs.length->bt s (a+j)=xs.getD j 0):Lies (from_ s a) 0 xs:=fun j hj=>by
 rw [Nat.zero_add];exact h j hj
theorem sB_last {f:Nat->Int} {g:Nat} {n:Int} (hg:n.natAbs<=g) (hl:Lies f 0 (sB n)):f ((sB n).length-1)<128:=by
 have h:=grp_s f (sB n).length g n 0 (sB n).length hg hl (by omega)
 rw [if_pos (Nat.le_refl _),Nat.zero_add] at h
 have hp:=sB_pos n
 have:=(grpF_some f (sB n).length (sB n).length 0 (by omega)).2.2.2.1
 rwa [h] at this
theorem sRead_at (s:ByteArray) (a:Nat) (n:Int) (h0:-9223372036854775808<=n) (h1:n<=9223372036854775807) (hl:∀j,j<(sB n).length->bt s (a+j)=(sB n).getD j 0) (hs:a+(sB n).length<=s.size) :
  sRead s a 64=(n,(a:Int)+(sB n).length,0):=by
 have hask:asks s.size a 64=true:=decide_eq_true ⟨.inr rfl,by omega,by omega⟩
 have hL:=from_lies hl
 have h10:=sB_ten h0 h1
 have hp:=sB_pos n
 have hg:=grp_s (from_ s a) (s.size-a) n.natAbs n 0 10 (Nat.le_refl _) hL (by omega)
 rw [if_pos h10,Nat.zero_add] at hg
 have hv:=val_s (from_ s a) n.natAbs n 0 (Nat.le_refl _) hL
 rw [Nat.zero_add] at hv
 have hlast:=sB_last (Nat.le_refl _) hL
 unfold sRead
 rw [if_pos hask,Int.toNat_natCast]
 show sFin (from_ s a) (grpF (from_ s a) (s.size-a) 10 0) a 64=_
 rw [hg]
 refine sFin_64 _ _ _ _ hp h10 ?_ (by show val _ _+_*sg _=_;rw [hv];simp [val]) h0 h1
 by_cases hk:(sB n).length=10
 ·left
  rw [hk] at hlast
  exact ⟨(from_bd s a 9).1,hlast⟩
 ·right;omega
theorem bt_cut (x:ByteArray) (n j:Nat) (hj:j<n) (hn:n<=x.size):bt (x.extract 0 n) j=bt x j:=by
 unfold bt
 rw [dif_pos (by rw [ByteArray.size_extract];omega),dif_pos (by omega)]
 simp [ByteArray.getElem_extract]
end Leb
end Go.Proofs.YtiailkiepndliaaGreatDoor

namespace Go.Proofs.YtiailkiepndliaaGreatDoor
open Go.RowKit
theorem linfo8:(Tryz.prog.info? 5).map (fun i=>(i.zero,i.size,i.bytes))=some (some (.int .u8 0),1,1):=by kernel_rfl
theorem two_ret {a b:Int} {p q:Bool} (h:a=b) (h':p=q):Ending.returned (.tuple #[.int .u8 a,.bool p])=.returned (.tuple #[.int .u8 b,.bool q]):=by rw [h,h']
theorem own_string {w:World} {base:Nat} {v:Value} {n:Nat} {xs:List Int} (h:w.ownsRow base 5 1 v n (xs.map (Value.int .u8))) (hn:0<n) :
  ∃g cap,v=.slice (some ⟨g,0,none⟩) n cap/\(convert 61 9 (.slice (some ⟨g,0,none⟩) n cap)).run Tryz.prog w=.ok (.string (strOfNums xs)) w:=by
 have hl:=h.1
 simp only [List.length_map,Nat.mul_one] at hl
 rcases h.2 with ⟨_,h0⟩|⟨g,cap,cur,hv,_⟩
 ·omega
 ·refine ⟨g,cap,hv,?_⟩
  subst hv
  refine run_convert_bytes_arg w 61 5 Tryz.underlying61 Tryz.underlying5 g 0 n cap xs hl (fun i hi=>?_) 9 Tryz.underlying9
  have:=h.cellAt i (by omega)
  rw [Nat.zero_add,this]
  have hi':i<xs.length:=by omega
  simp [List.getElem?_eq_getElem hi',List.getD]
set_option maxHeartbeats 400000 in
theorem c19 (b:Nat) (n:Int) (w:World) (h0:0<=n) (h1:n<=18446744073709551615) (hc:w.cell? ⟨b,0,none⟩=some (.int .u64 n)) (hf:w.frozen? ⟨b,0,none⟩=false) :
  Calls Tryz.prog 108 #[.pointer (some ⟨b,0,none⟩)] w fun e w' =>
   e=.returned (.tuple #[.int .u8 (n%128),.bool (decide (n<128))])/\∃k,w'=(w.setCell ⟨b,0,none⟩ (.int .u64 (n / 128))).drewN k:=by
 have hm:=Leb.and127_u64 n h0 h1
 go_enter Tryz.func108,Tryz.ntmps108
 go_wp2
 go_quiet (fail)
 go_wp2
 go_ret2
 refine ⟨two_ret (by omega) ?_,_,rfl⟩
 rw [Bool.eq_iff_iff];simp;omega
theorem app_rel {w wr w1:World} {base B:Nat} {v v':Value} {bs:List Int} {x:Int} {o:Obj} (hown:wr.ownsRow base 5 1 v bs.length (bs.map (Value.int .u8)))
  (hown':w1.ownsRow base 5 1 v' (bs.length+1) (bs.map (Value.int .u8)++[.int .u8 x])) (hgrow:(wr.alloc o).grownBy w1 v.ownBlock) (hbel:Below B w wr) (hB:B<=base) (hs:B<=wr.heap.size) :
  w1.ownsRow base 5 1 v' (bs++[x]).length ((bs++[x]).map (Value.int .u8))/\Below B w w1 :=
 ⟨by simpa using hown',(hbel.alloc hs o).grown hgrow (by simp;omega) (fun j hj=>by have:=(hown.lt j hj).1;omega)⟩
theorem one_new (w:World) (x:Value) (t:TypeId):∀(j:Nat) (u:Value),[x][j]?=some u->(w.alloc (.cells #[x] t)).cell? ((⟨w.heap.size,0,none⟩:Addr).add j)=some u:=by
 intro j u hj
 match j,hj with
 | 0,hj=>simp at hj;subst hj;simp [Addr.add]
theorem c20 (b:Nat) (n:Int) (w:World) (h0:-9223372036854775808<=n) (h1:n<=9223372036854775807) (hc:w.cell? ⟨b,0,none⟩=some (.int .i64 n)) (hf:w.frozen? ⟨b,0,none⟩=false) :
  Calls Tryz.prog 109 #[.pointer (some ⟨b,0,none⟩)] w fun e w' =>
   e=.returned (.tuple #[.int .u8 (n%128),.bool (decide (-64<=n/\n<=63))])/\∃k,w'=(w.setCell ⟨b,0,none⟩ (.int .i64 (n / 128))).drewN k:=by
 have hm:=Leb.and127_i64 n
 have h6:bits .and .u8 (n%128%256) 64=if 64<=n%128 then 64 else 0:=by rw [Leb.and64_u8 _ (by omega) (by omega)];congr 1;rw [eq_iff_iff];omega
 have h6':bits .and .u8 (n%128) 64=if 64<=n%128 then 64 else 0:=by rw [Leb.and64_u8 _ (by omega) (by omega)];congr 1;rw [eq_iff_iff];omega
 by_cases h:64<=n%128
 ·rw [if_pos h] at h6 h6'
  go_enter Tryz.func109,Tryz.ntmps109
  go_wp2
  go_quiet (fail)
  go_wp2
  go_ret2
  refine ⟨two_ret (by omega) ?_,_,rfl⟩
  rw [Bool.eq_iff_iff];simp;omega
 ·rw [if_neg h] at h6 h6'
  go_enter Tryz.func109,Tryz.ntmps109
  go_wp2
  go_quiet (fail)
  go_wp2
  go_ret2
  refine ⟨two_ret (by omega) ?_,_,rfl⟩
  rw [Bool.eq_iff_iff];simp;omega
end Go.Proofs.YtiailkiepndliaaGreatDoor

namespace Go.Proofs.YtiailkiepndliaaGreatDoor
open Go.RowKit
def lenOf:Value->Nat | .slice _ n _=>n|_=>0
theorem lenOf_own {w:World} {base e size:Nat} {v:Value} {n:Nat} {xs:List Value} (h:w.ownsRow base e size v n xs):lenOf v=n:=by
 rcases h.2 with ⟨rfl,rfl⟩|⟨g,cap,cur,rfl,_⟩<;>rfl
theorem c19' (b base:Nat) (m:Int) (q:Bool) (v:Value) (n:Nat) (xs:List Value) (w wr:World) (h0:0<=m) (h1:m<=18446744073709551615) (hq:decide (m<128)=q)
  (hblk:wr.heap[b]?=some (.cells #[.int .u64 m] 121 (0,0))) (hown:wr.ownsRow base 5 1 v n xs) (hb:b<base) (hbel:Below b w wr) :
  Calls Tryz.prog 108 #[.pointer (some ⟨b,0,none⟩)] wr fun e w' =>
   e=.returned (.tuple #[.int .u8 (m%128),.bool q])/\w'.heap[b]?=some (.cells #[.int .u64 (m / 128)] 121 (0,0))/\w'.ownsRow base 5 1 v n xs/\Below b w w'/\wr.heap.size<=w'.heap.size:=by
 refine (c19 b m wr h0 h1 (cell_of_one hblk) (free_of_one hblk)).mono ?_
 rintro e w' ⟨rfl,k,rfl⟩
 refine ⟨by rw [hq],one_setCell hblk,ownsRow_setCell_below hown hb _,below_drewN (hbel.setCell (Nat.le_refl _) _) k,?_⟩
 simp [World.setCell]
theorem c20' (b base:Nat) (m:Int) (q:Bool) (v:Value) (n:Nat) (xs:List Value) (w wr:World) (h0:-9223372036854775808<=m) (h1:m<=9223372036854775807) (hq:decide (-64<=m/\m<=63)=q)
  (hblk:wr.heap[b]?=some (.cells #[.int .i64 m] 2 (0,0))) (hown:wr.ownsRow base 5 1 v n xs) (hb:b<base) (hbel:Below b w wr) :
  Calls Tryz.prog 109 #[.pointer (some ⟨b,0,none⟩)] wr fun e w' =>
   e=.returned (.tuple #[.int .u8 (m%128),.bool q])/\w'.heap[b]?=some (.cells #[.int .i64 (m / 128)] 2 (0,0))/\w'.ownsRow base 5 1 v n xs/\Below b w w'/\wr.heap.size<=w'.heap.size:=by
 refine (c20 b m wr h0 h1 (cell_of_one hblk) (free_of_one hblk)).mono ?_
 rintro e w' ⟨rfl,k,rfl⟩
 refine ⟨by rw [hq],one_setCell hblk,ownsRow_setCell_below hown hb _,below_drewN (hbel.setCell (Nat.le_refl _) _) k,?_⟩
 simp [World.setCell]
theorem blk_app {wr w1:World} {base b n:Nat} {v:Value} {xs:List Value} {o:Obj} {x:Obj} (hown:wr.ownsRow base 5 1 v n xs) (hgrow:(wr.alloc o).grownBy w1 v.ownBlock) (hb:b<base) (hblk:wr.heap[b]?=some x) :
  w1.heap[b]?=some x:=by
 have hlt:=lt_of_block hblk
 rw [hgrow.block b (by simp;omega) (fun h=>by have:=hown.lt b h.symm;omega),Below.heap_alloc _ _ _ hlt]
 exact hblk
set_option maxHeartbeats 1000000 in
theorem c18u (b:Nat) (n:Int) (w:World) (h0:0<=n) (h1:n<=18446744073709551615) (hblk0:w.heap[b]?=some (.cells #[.int .u64 n] 121 (0,0))) :
  Calls Tryz.prog 107 #[.func (.func 108) #[] #[.pointer (some ⟨b,0,none⟩)]] w fun e w'=>e=.returned (.string (strOfNums (Leb.uB n)))/\Below b w w':=by
 obtain ⟨i0,hi,hz0,hz1,hz2⟩:=info_parts linfo8
 have hbs:=lt_of_block hblk0
 go_enter Tryz.func107,Tryz.ntmps107
 go_wp2
 go_loopw [3] (fun v wr=>∃(m:Int) (bs:List Int),0<=m/\m<=18446744073709551615/\bs++Leb.uB m=Leb.uB n/\wr.heap[b]?=some (.cells #[.int .u64 m] 121 (0,0))/\wr.ownsRow w.heap.size 5 1 v bs.length (bs.map (Value.int .u8))/\Below b w wr)
  (fun v _=>10-lenOf v)
 case atStart=>exact ⟨n,[],h0,h1,rfl,hblk0,World.ownsRow_nil _ _ _ _,Below.refl _ _⟩
 case round =>
  obtain ⟨m,bs,hm0,hm1,hbs',hblk,hown,hbel⟩:=hrel
  have hlen:bs.length+(Leb.uB m).length<=10:=by rw [<- List.length_append,hbs'];exact Leb.uB_ten h0 h1
  have hpos:=Leb.uB_pos m
  have hlo:=lenOf_own hown
  have HLO:Hid (lenOf u3=bs.length):=hlo
  have HB:Hid (bs++Leb.uB m=Leb.uB n):=hbs'
  have HK:Hid (w.heap[b]?=some (.cells #[.int .u64 n] 121 (0,0))):=hblk0
  clear hbs' hblk0 hlo
  have hsz:=hbel.size
  by_cases hlt:m<128
  ·go_wp2_with fail
   refine (c19' b w.heap.size m true _ _ _ w wr hm0 hm1 (by simpa using hlt) hblk hown hbs hbel).mono ?_
   rintro e w2 ⟨rfl,hblk2,hown2,hbel2,hsz2⟩
   clear hblk hown hbel hblk2
   go_wp2_with (first|(at_builtin;refine wpList_append_own _ rfl _ _ 61 rfl w.heap.size 5 i0 (.int .u8 0) 1 1 Tryz.underlying61 hi hz0 hz1 hz2 rfl (by decide) _ _ _ rfl (hown2.alloc _) ⟨w2.heap.size,0,none⟩ 1 1 [.int .u8 (m%128)] rfl rfl (one_new _ _ _) ?c2 ?c3 ?c4 ?c5 ?_))
   case c2=>first|rfl|(intro u hu;simp at hu;subst hu;rfl)
   case c3=>unfold maxLen;omega
   case c4=>omega
   case c5=>first|omega|(simp;omega)
   intro v' w1 hown' hgrow _
   obtain ⟨ho,hb⟩:=app_rel hown2 hown' hgrow hbel2 (by omega) (by omega)
   have hfin:bs++[m%128]=Leb.uB n:=by rw [<- HB.out,Leb.uB_small hm0 hlt];simp;omega
   rw [hfin] at ho
   clear HB hown2 hown' hgrow hbel2 hfin
   obtain ⟨g,cap,rfl,hcv⟩:=own_string ho (Leb.uB_pos n)
   clear ho
   go_wp2
   go_ret
   exact ⟨rfl,hb⟩
  ·have hor:bits .or .u8 (m%128) 128=m%128+128:=by rw [Leb.or128_u8 _ (by omega) (by omega)];omega
   go_wp2_with fail
   refine (c19' b w.heap.size m false _ _ _ w wr hm0 hm1 (by simpa using hlt) hblk hown hbs hbel).mono ?_
   rintro e w2 ⟨rfl,hblk2,hown2,hbel2,hsz2⟩
   clear hblk hown hbel
   have HK2:Hid (w2.heap[b]?=some (.cells #[.int .u64 (m / 128)] 121 (0,0))):=hblk2
   clear hblk2
   go_wp2_with (first|(at_builtin;refine wpList_append_own _ rfl _ _ 61 rfl w.heap.size 5 i0 (.int .u8 0) 1 1 Tryz.underlying61 hi hz0 hz1 hz2 rfl (by decide) _ _ _ rfl (hown2.alloc _) ⟨w2.heap.size,0,none⟩ 1 1 [.int .u8 (m%128+128)] rfl rfl (one_new _ _ _) ?d2 ?d3 ?d4 ?d5 ?_))
   case d2=>first|rfl|(intro u hu;simp at hu;subst hu;rfl)
   case d3=>unfold maxLen;omega
   case d4=>omega
   case d5=>first|omega|(simp;omega)
   intro v' w1 hown' hgrow _
   obtain ⟨ho,hb⟩:=app_rel hown2 hown' hgrow hbel2 (by omega) (by omega)
   have HK1:Hid (w1.heap[b]?=some (.cells #[.int .u64 (m / 128)] 121 (0,0))):=blk_app hown2 hgrow hbs HK2.out
   have hfin:(bs++[m%128+128])++Leb.uB (m / 128)=Leb.uB n:=by rw [<- HB.out,Leb.uB_great (by omega:128<=m)];simp
   have HB':Hid ((bs++[m%128+128])++Leb.uB (m / 128)=Leb.uB n):=hfin
   have HL':Hid (lenOf v'=(bs++[m%128+128]).length):=lenOf_own ho
   clear HB hown2 hown' hgrow hbel2 hfin HK2
   go_wp2
   go_roundw
   case rel=>exact ⟨m / 128,bs++[m%128+128],by omega,by omega,HB'.out,HK1.out,ho,hb⟩
   case measure=>rw [HL'.out,HLO.out];simp;omega
set_option maxHeartbeats 1000000 in
theorem c18s (b:Nat) (n:Int) (w:World) (h0:-9223372036854775808<=n) (h1:n<=9223372036854775807) (hblk0:w.heap[b]?=some (.cells #[.int .i64 n] 2 (0,0))) :
  Calls Tryz.prog 107 #[.func (.func 109) #[] #[.pointer (some ⟨b,0,none⟩)]] w fun e w'=>e=.returned (.string (strOfNums (Leb.sB n)))/\Below b w w':=by
 obtain ⟨i0,hi,hz0,hz1,hz2⟩:=info_parts linfo8
 have hbs:=lt_of_block hblk0
 go_enter Tryz.func107,Tryz.ntmps107
 go_wp2
 go_loopw [3] (fun v wr=>∃(m:Int) (bs:List Int),-9223372036854775808<=m/\m<=9223372036854775807/\bs++Leb.sB m=Leb.sB n/\wr.heap[b]?=some (.cells #[.int .i64 m] 2 (0,0))/\wr.ownsRow w.heap.size 5 1 v bs.length (bs.map (Value.int .u8))/\Below b w wr)
  (fun v _=>10-lenOf v)
 case atStart=>exact ⟨n,[],h0,h1,rfl,hblk0,World.ownsRow_nil _ _ _ _,Below.refl _ _⟩
 case round =>
  obtain ⟨m,bs,hm0,hm1,hbs',hblk,hown,hbel⟩:=hrel
  have hlen:bs.length+(Leb.sB m).length<=10:=by rw [<- List.length_append,hbs'];exact Leb.sB_ten h0 h1
  have hpos:=Leb.sB_pos m
  have hlo:=lenOf_own hown
  have HLO:Hid (lenOf u3=bs.length):=hlo
  have HB:Hid (bs++Leb.sB m=Leb.sB n):=hbs'
  have HK:Hid (w.heap[b]?=some (.cells #[.int .i64 n] 2 (0,0))):=hblk0
  clear hbs' hblk0 hlo
  have hsz:=hbel.size
  by_cases hlt:-64<=m/\m<=63
  ·have HL:Hid (-64<=m/\m<=63):=hlt
   clear hlt
   go_wp2_with fail
   refine (c20' b w.heap.size m true _ _ _ w wr hm0 hm1 (by simpa using HL.out) hblk hown hbs hbel).mono ?_
   rintro e w2 ⟨rfl,hblk2,hown2,hbel2,hsz2⟩
   clear hblk hown hbel hblk2
   go_wp2_with (first|(at_builtin;refine wpList_append_own _ rfl _ _ 61 rfl w.heap.size 5 i0 (.int .u8 0) 1 1 Tryz.underlying61 hi hz0 hz1 hz2 rfl (by decide) _ _ _ rfl (hown2.alloc _) ⟨w2.heap.size,0,none⟩ 1 1 [.int .u8 (m%128)] rfl rfl (one_new _ _ _) ?c2 ?c3 ?c4 ?c5 ?_))
   case c2=>first|rfl|(intro u hu;simp at hu;subst hu;rfl)
   case c3=>unfold maxLen;omega
   case c4=>omega
   case c5=>first|omega|(simp;omega)
   intro v' w1 hown' hgrow _
   obtain ⟨ho,hb⟩:=app_rel hown2 hown' hgrow hbel2 (by omega) (by omega)
   have hfin:bs++[m%128]=Leb.sB n:=by rw [<- HB.out,Leb.sB_small HL.out]
   rw [hfin] at ho
   clear HB hown2 hown' hgrow hbel2 hfin
   obtain ⟨g,cap,rfl,hcv⟩:=own_string ho (Leb.sB_pos n)
   clear ho
   go_wp2
   go_ret
   exact ⟨rfl,hb⟩
  ·have hor:bits .or .u8 (m%128) 128=m%128+128:=by rw [Leb.or128_u8 _ (by omega) (by omega)];omega
   have HL:Hid (¬ (-64<=m/\m<=63)):=hlt
   clear hlt
   go_wp2_with fail
   refine (c20' b w.heap.size m false _ _ _ w wr hm0 hm1 (decide_eq_false HL.out) hblk hown hbs hbel).mono ?_
   rintro e w2 ⟨rfl,hblk2,hown2,hbel2,hsz2⟩
   clear hblk hown hbel
   have HK2:Hid (w2.heap[b]?=some (.cells #[.int .i64 (m / 128)] 2 (0,0))):=hblk2
   clear hblk2
   go_wp2_with (first|(at_builtin;refine wpList_append_own _ rfl _ _ 61 rfl w.heap.size 5 i0 (.int .u8 0) 1 1 Tryz.underlying61 hi hz0 hz1 hz2 rfl (by decide) _ _ _ rfl (hown2.alloc _) ⟨w2.heap.size,0,none⟩ 1 1 [.int .u8 (m%128+128)] rfl rfl (one_new _ _ _) ?d2 ?d3 ?d4 ?d5 ?_))
   case d2=>first|rfl|(intro u hu;simp at hu;subst hu;rfl)
   case d3=>unfold maxLen;omega
   case d4=>omega
   case d5=>first|omega|(simp;omega)
   intro v' w1 hown' hgrow _
   obtain ⟨ho,hb⟩:=app_rel hown2 hown' hgrow hbel2 (by omega) (by omega)
   have HK1:Hid (w1.heap[b]?=some (.cells #[.int .i64 (m / 128)] 2 (0,0))):=blk_app hown2 hgrow hbs HK2.out
   have hfin:(bs++[m%128+128])++Leb.sB (m / 128)=Leb.sB n:=by rw [<- HB.out,Leb.sB_great HL.out];simp
   have HB':Hid ((bs++[m%128+128])++Leb.sB (m / 128)=Leb.sB n):=hfin
   have HL':Hid (lenOf v'=(bs++[m%128+128]).length):=lenOf_own ho
   clear HB hown2 hown' hgrow hbel2 hfin HK2
   go_wp2
   go_roundw
   case rel=>exact ⟨m / 128,bs++[m%128+128],by omega,by omega,HB'.out,HK1.out,ho,hb⟩
   case measure=>rw [HL'.out,HLO.out];simp;omega
theorem heap_new (w:World) (o:Obj):(w.alloc o).heap[w.heap.size]?=some o:=by
 show (w.heap.push o)[w.heap.size]?=_
 simp
set_option maxHeartbeats 400000 in
theorem lebPutU (n:Int) (w:World) (h0:0<=n) (h1:n<=18446744073709551615) :
  Calls Tryz.prog 97 #[.int .u64 n] w fun e w'=>e=.returned (.string (strOfNums (Leb.uB n)))/\Below w.heap.size w w':=by
 go_enter Tryz.func97,Tryz.ntmps97
 go_wp2_with fail
 refine (c18u w.heap.size n _ h0 h1 (heap_new _ _)).mono ?_
 rintro e w' ⟨rfl,hb⟩
 go_wp2
 go_ret
 exact ⟨rfl,((Below.refl _ _).alloc (Nat.le_refl _) _).trans hb⟩
set_option maxHeartbeats 400000 in
theorem lebPutS (n:Int) (w:World) (h0:-9223372036854775808<=n) (h1:n<=9223372036854775807) :
  Calls Tryz.prog 98 #[.int .i64 n] w fun e w'=>e=.returned (.string (strOfNums (Leb.sB n)))/\Below w.heap.size w w':=by
 go_enter Tryz.func98,Tryz.ntmps98
 go_wp2_with fail
 refine (c18s w.heap.size n _ h0 h1 (heap_new _ _)).mono ?_
 rintro e w' ⟨rfl,hb⟩
 go_wp2
 go_ret
 exact ⟨rfl,((Below.refl _ _).alloc (Nat.le_refl _) _).trans hb⟩
end Go.Proofs.YtiailkiepndliaaGreatDoor

namespace Go.Proofs.YtiailkiepndliaaGreatDoor
open Go.RowKit Rep
set_option linter.unusedVariables false
namespace Rep
theorem dec_on {α:Type} [DecidableEq α] {a b:List α} {j:Nat} {x y:α} {R:Bool} (hx:a[j]?=some x) (hy:b[j]?=some y) (h:R=decide (a.drop j=b.drop j)):R=(decide (x=y) && decide (a.drop (j+1)=b.drop (j+1))):=by
 have hl:j<a.length:=(List.getElem?_eq_some_iff.1 hx).1
 have he:a[j]=x:=(List.getElem?_eq_some_iff.1 hx).2
 have hl2:j<b.length:=(List.getElem?_eq_some_iff.1 hy).1
 have he2:b[j]=y:=(List.getElem?_eq_some_iff.1 hy).2
 rw [h,List.drop_eq_getElem_cons hl,he,List.drop_eq_getElem_cons hl2,he2,<- Bool.decide_and]
 simp only [List.cons.injEq]
end Rep
set_option maxRecDepth 100000 in
set_option maxHeartbeats 1000000 in
theorem refKeep (va vb:Value) (a b:List Int) (w:World) (hA:Ints w va a) (hB:Ints w vb b) :
  Calls Tryz.prog 19 #[va,vb] w fun e w'=>e=.returned (.bool (decide (a=b)))/\∃n,w'=w.drewN n:=by
 have la:=hA.1
 have lb:=hB.1
 obtain ⟨oa,ca,rfl⟩:=Row.len hA
 obtain ⟨ob,cb,rfl⟩:=Row.len hB
 have HA:=hideR hA
 have HB:=hideR hB
 obtain ⟨R,hR⟩:∃R,R=decide (a=b):=⟨_,rfl⟩
 rw [<- hR]
 have HR:Hid (R=decide (a.drop 0=b.drop 0)):=hR
 have HL:Hid (a.length≠b.length->R=false):=hideR (fun h=>by rw [hR,decide_eq_false (fun e=>h (by rw [e]))])
 clear hA hB hR
 generalize hn:a.length=n at *
 generalize hm:b.length=k at *
 by_cases hne:n=k
 rotate_left
 ·obtain rfl:=HL.out hne
  have hne':((n:Int) != (k:Int))=true:=by rw [bne_iff_ne];omega
  clear HR HL
  go_enter Tryz.func19,Tryz.ntmps19
  go_wp2
  go_ret
  exact ⟨rfl,0,rfl⟩
 subst hne
 clear HL
 go_enter Tryz.func19,Tryz.ntmps19
 go_wp2_with fail
 go_loopw [5] (fun i wr=>∃j q:Nat,j<=n/\i=.int .i64 j/\Hid (R=decide (a.drop j=b.drop j))/\wr=w.drewN q) (fun i _=>n-(RowKit.intOf i).toNat)
 case atStart=>exact ⟨0,0,by omega,rfl,HR,rfl⟩
 case round =>
  obtain ⟨j,q,hj,rfl,HK,rfl⟩:=hrel
  by_cases hgo:j<n
  ·obtain ⟨b1,off1,cap1,hv1,hx1⟩:=Row.some HA.out (by omega)
   injection hv1 with ho1 e11 e12
   subst ho1
   obtain ⟨b2,off2,cap2,hv2,hx2⟩:=Row.some HB.out (by omega)
   injection hv2 with ho2 e21 e22
   subst ho2
   obtain ⟨x,hxk⟩:∃x,a[j]?=some x:=⟨_,List.getElem?_eq_getElem (by omega)⟩
   obtain ⟨y,hyk⟩:∃y,b[j]?=some y:=⟨_,List.getElem?_eq_getElem (by omega)⟩
   have k1:=hx1 j x hxk
   have k2:=hx2 j y hyk
   rw [Nat.mul_one] at k1 k2
   have HN:=hideR (dec_on hxk hyk HK.out)
   clear hx1 hx2 hxk hyk HK e11 e12 e21 e22
   go_upto_region 6 with fail
   go_quiet (fail)
   by_cases hxy:x=y
   ·subst hxy
    have HN2:Hid (R=decide (a.drop (j+1)=b.drop (j+1))):=hideR (by rw [HN.out,decide_eq_true rfl,Bool.true_and])
    clear HN
    go_wp2
    go_roundw
    case rel=>exact ⟨j+1,q+nq,by omega,by go_num,HN2,by first|rfl|(rw [World.drewN_drewN])⟩
    case measure=>simp [RowKit.intOf];omega
   ·obtain rfl:R=false:=by rw [HN.out,decide_eq_false hxy];rfl
    have hxy':(x != y)=true:=by rw [bne_iff_ne];exact hxy
    clear HN
    go_wp2
    go_ret
    exact ⟨rfl,q+nq,by first|rfl|(rw [World.drewN_drewN])⟩
  ·obtain rfl:R=true:=by rw [HK.out,List.drop_of_length_le (by omega),List.drop_of_length_le (by omega)];rfl
   clear HK
   go_wp2
   go_ret
   exact ⟨rfl,q,rfl⟩
end Go.Proofs.YtiailkiepndliaaGreatDoor


/- Texts that the claim needs. -/
import Derived.Test.YthfapccopngfhaaDoorQDex1
import Derived.WalkKit
import Derived.Laws.BitsAllLaws
import Derived.Test.YthfapccopngfhaaDoorRows
import Derived.Test.YthfapccopngfhaaDoorQDex0
import Derived.WalkSpells
import Derived.WalkSmall
import Derived.BigQuiet
import Derived.Deep.QuietTactic
namespace Go.Proofs.YthfapccopngfhaaDoor
open Go.RowKit Rep
set_option linter.unusedVariables false
namespace Rep
def Blk (w:World) (p:Nat) (op a b n:Int) (v4 v5 v6:Value):Prop:=w.heap[p]?=some (.cells #[.int .i64 op,.int .i64 a,.int .i64 b,.int .i64 n,v4,v5,v6] 56 (0,0))
theorem Blk.new (w:World) (p:Nat) (op a b n:Int) (v4 v5 v6:Value) (hp:p=w.heap.size):Blk (w.alloc (.cells #[.int .i64 op,.int .i64 a,.int .i64 b,.int .i64 n,v4,v5,v6] 56)) p op a b n v4 v5 v6:=by
 subst hp;exact heap_alloc_new w _
theorem Blk.cell {w:World} {p:Nat} {op a b n:Int} {v4 v5 v6:Value} (h:Blk w p op a b n v4 v5 v6) (i:Nat) (v:Value) (hv:#[Value.int .i64 op,.int .i64 a,.int .i64 b,.int .i64 n,v4,v5,v6][i]?=some v):w.cell? ⟨p,i,none⟩=some v:=by
 unfold World.cell?
 rw [h]
 exact hv
theorem Blk.frz {w:World} {p:Nat} {op a b n:Int} {v4 v5 v6:Value} (h:Blk w p op a b n v4 v5 v6) (i:Nat):w.frozen? ⟨p,i,none⟩=false:=by
 unfold World.frozen?
 rw [h]
 simp
theorem Blk.keep {w w':World} {p:Nat} {op a b n:Int} {v4 v5 v6:Value} (h:Blk w p op a b n v4 v5 v6) (hk:w'.heap[p]?=w.heap[p]?):Blk w' p op a b n v4 v5 v6:=by unfold Blk at *;rw [hk];exact h
theorem Blk.set4 {w:World} {p:Nat} {op a b n:Int} {v4 v5 v6:Value} (h:Blk w p op a b n v4 v5 v6) (v:Value):Blk (w.setCell ⟨p,4,none⟩ v) p op a b n v v5 v6:=heap_setCell_same w p 4 _ _ v h
theorem Blk.set5 {w:World} {p:Nat} {op a b n:Int} {v4 v5 v6:Value} (h:Blk w p op a b n v4 v5 v6) (v:Value):Blk (w.setCell ⟨p,5,none⟩ v) p op a b n v4 v v6:=heap_setCell_same w p 5 _ _ v h
theorem Blk.set6 {w:World} {p:Nat} {op a b n:Int} {v4 v5 v6:Value} (h:Blk w p op a b n v4 v5 v6) (v:Value):Blk (w.setCell ⟨p,6,none⟩ v) p op a b n v4 v5 v:=heap_setCell_same w p 6 _ _ v h
theorem Blk.lt {w:World} {p:Nat} {op a b n:Int} {v4 v5 v6:Value} (h:Blk w p op a b n v4 v5 v6):p<w.heap.size:=(Array.getElem?_eq_some_iff.1 h).1
def But (p:Nat) (w w':World):Prop:=w.grownBy w' (some p)
theorem But.below {p:Nat} {w w':World} (h:But p w w'):Below p w w'\/w.heap.size<p:=by
 by_cases hp:p<=w.heap.size
 ·exact .inl ⟨h.os,h.tape,h.output,h.size,fun k hk=>h.block k (by omega) (fun e=>by injection e with e;omega)⟩
 ·exact .inr (by omega)
def Pc (d:Nat):Type:=Ins (IL d) × Value × Value × Value
def pc7 {d:Nat} (p:Pc d):List Value:=[.int .i64 p.1.op,.int .i64 p.1.a,.int .i64 p.1.b,.int .i64 p.1.n,p.2.1,p.2.2.1,p.2.2.2]
def flat7 {d:Nat} (ps:List (Pc d)):List Value:=ps.flatMap pc7
structure PcOk {d:Nat} (w:World) (S:Nat->Prop) (p:Pc d):Prop where
 labels:IntsS w S p.2.1 p.1.labels
 body:AtS w S d p.2.2.1 p.1.body
 els:AtS w S d p.2.2.2 p.1.els
theorem PcOk.keep {d:Nat} {w w':World} {S S':Nat->Prop} (hk:∀k,S k->S' k/\w'.heap[k]?=w.heap[k]?) {p:Pc d} (h:PcOk w S p):PcOk w' S' p:=⟨h.labels.keep hk,AtS.keep hk _ _ _ h.body,AtS.keep hk _ _ _ h.els⟩
theorem flat7_get {d:Nat}:∀(ps:List (Pc d)) (i:Nat) (p:Pc d),ps[i]?=some p->∀k v,(pc7 p)[k]?=some v->(flat7 ps)[i*7+k]?=some v
 | [],_,_,h,_,_,_=>by simp at h
 | q :: r,0,p,h,k,v,hv=>by
  have:q=p:=by simpa using h
  subst this
  show (pc7 q++flat7 r)[0*7+k]?=some v
  have hk:k<(pc7 q).length:=(List.getElem?_eq_some_iff.1 hv).1
  rw [Nat.zero_mul,Nat.zero_add,List.getElem?_append_left hk]
  exact hv
 | q :: r,i+1,p,h,k,v,hv=>by
  have h':r[i]?=some p:=by simpa using h
  show (pc7 q++flat7 r)[(i+1)*7+k]?=some v
  rw [List.getElem?_append_right (by show 7<=_;omega),show (i+1)*7+k-(pc7 q).length=i*7+k by show (i+1)*7+k-7=_;omega]
  exact flat7_get r i p h' k v hv
theorem flat7_one {d:Nat} (ps:List (Pc d)) (h:∀p ∈ ps,p.2.1.oneCell'=true/\p.2.2.1.oneCell'=true/\p.2.2.2.oneCell'=true):∀u ∈ flat7 ps,u.oneCell'=true:=by
 intro u hu
 obtain ⟨p,hp,hu⟩:=List.mem_flatMap.1 hu
 obtain ⟨h1,h2,h3⟩:=h p hp
 simp only [pc7,List.mem_cons,List.mem_nil_iff,or_false] at hu
 rcases hu with rfl|rfl|rfl|rfl|rfl|rfl|rfl
 ·rfl
 ·rfl
 ·rfl
 ·rfl
 ·exact h1
 ·exact h2
 ·exact h3
theorem at_of_row {d:Nat} {w:World} {B:Nat} {t:Value} (l:List (Ins (IL d))) (ps:List (Pc d)) (hm:ps.map (·.1)=l) (hn:l.length<=9223372036854775807) (ho:w.ownsRow B 56 7 t ps.length (flat7 ps)) (hp:∀p ∈ ps,PcOk w (Since B w t.ownBlock) p) :
  AtS w (Since B w none) (d+1) t l:=by
 have hlen:ps.length=l.length:=by rw [<- hm,List.length_map]
 have hup:∀k,Since B w t.ownBlock k->Since B w none k/\w.heap[k]?=w.heap[k]?:=fun k hk=>⟨⟨hk.1,hk.2.1,by simp⟩,rfl⟩
 rcases ho.2 with ⟨rfl,h0⟩|⟨g,cap,cur,rfl,hbg,hg,_,_,_,_⟩
 ·have:l = []:=List.length_eq_zero_iff.1 (by omega)
  subst this
  exact ⟨by simp,.inl ⟨rfl,none,0,rfl⟩⟩
 ·have hgl:g<w.heap.size:=(Array.getElem?_eq_some_iff.1 hg).1
  refine ⟨hn,.inr ⟨g,0,cap,by rw [hlen],fun i x hx=>?_⟩⟩
  have hi:i<ps.length:=by rw [hlen];exact (List.getElem?_eq_some_iff.1 hx).1
  obtain ⟨p,hpi⟩:∃p,ps[i]?=some p:=⟨_,List.getElem?_eq_getElem hi⟩
  have hpx:p.1=x:=by
   have:(ps.map (·.1))[i]?=some p.1:=by rw [List.getElem?_map,hpi];rfl
   rw [hm,hx] at this
   exact (Option.some.inj this).symm
  subst hpx
  have hok:=(hp p (List.mem_of_getElem? hpi)).keep hup
  have hc:∀k v,(pc7 p)[k]?=some v->w.cell? ⟨g,0+i*7+k,none⟩=some v:=fun k v hv=>by
   have:=ho.cells (g:=g) rfl (i*7+k) v (flat7_get ps i p hpi k v hv)
   rw [add_addr] at this
   rw [Nat.add_assoc]
   exact this
  exact ⟨⟨hbg,hgl,by simp⟩,hc 0 _ rfl,hc 1 _ rfl,hc 2 _ rfl,hc 3 _ rfl,⟨_,hc 4 _ rfl,hok.labels⟩,⟨_,hc 5 _ rfl,hok.body⟩,⟨_,hc 6 _ rfl,hok.els⟩⟩
end Rep
theorem intInfo:(Tryd.prog.info? 3).map (fun i=>(i.zero,i.size,i.bytes))=some (some (.int .i64 0),1,8):=by kernel_rfl
theorem insInfo:(Tryd.prog.info? 56).map (fun i=>(i.zero,i.size,i.bytes))=some (some (.agg #[.int .i64 0,.int .i64 0,.int .i64 0,.int .i64 0,.slice none 0 0,.slice none 0 0,.slice none 0 0]),7,104):=by kernel_rfl
namespace Rep
theorem ints_own {w:World} {B:Nat} {v:Value} {l:List Int} (h:w.ownsRow B 3 1 v l.length (l.map fun z=>Value.int .i64 z)) (hn:l.length<=9223372036854775807):IntsS w (Since B w none) v l:=by
 rcases h.2 with ⟨rfl,h0⟩|⟨g,cap,cur,rfl,hbg,hg,_,_,_,_⟩
 ·obtain rfl:l = []:=List.length_eq_zero_iff.1 h0
  exact ⟨hn,.inl ⟨rfl,none,0,rfl⟩⟩
 ·have hgl:g<w.heap.size:=(Array.getElem?_eq_some_iff.1 hg).1
  refine ⟨hn,.inr ⟨g,0,cap,rfl,fun i x hx=>⟨⟨hbg,hgl,by simp⟩,?_⟩⟩⟩
  have:=h.cells (g:=g) rfl i (.int .i64 x) (by rw [List.getElem?_map,hx];rfl)
  rw [add_addr] at this
  rw [Nat.mul_one];exact this
def mkPc {d:Nat} (x:Ins (IL d)) (a b c:Value):Pc d:=(x,a,b,c)
theorem flat7_snoc {d:Nat} (ps:List (Pc d)) (p:Pc d):flat7 (ps++[p])=flat7 ps++pc7 p:=by
 unfold flat7;rw [List.flatMap_append];simp
theorem pc7_one {d:Nat} (p:Pc d) (h1:p.2.1.oneCell'=true) (h2:p.2.2.1.oneCell'=true) (h3:p.2.2.2.oneCell'=true):∀u ∈ pc7 p,u.oneCell'=true:=by
 have:=flat7_one [p] (fun q hq=>by rw [List.mem_singleton.1 hq];exact ⟨h1,h2,h3⟩)
 intro u hu
 exact this u (by show u ∈ List.flatMap pc7 [p];simpa using hu)
theorem pc7_cells {d:Nat} {w:World} {g:Nat} {x:Ins (IL d)} {v4 v5 v6:Value} (h:Blk w g x.op x.a x.b x.n v4 v5 v6):∀j u,(pc7 (mkPc x v4 v5 v6))[j]?=some u->w.cell? ((⟨g,0,none⟩:Addr).add j)=some u:=fun j u hj=>by
 rw [add_addr,Nat.zero_add]
 refine h.cell j u ?_
 rw [<- hj]
 exact List.getElem?_toArray
theorem own_slice {w:World} {B:Nat} {e:TypeId} {size:Nat} {v:Value} {n:Nat} {xs:List Value} (h:w.ownsRow B e size v n xs):∃o c,v=.slice o n c:=by
 rcases h.2 with ⟨rfl,rfl⟩|⟨g,cap,cur,rfl,_⟩
 ·exact ⟨none,0,rfl⟩
 ·exact ⟨_,_,rfl⟩
end Rep
end Go.Proofs.YthfapccopngfhaaDoor

namespace Go.Proofs.YthfapccopngfhaaDoor
open Go.RowKit
namespace Leb
theorem ofInt_toNat (x:Int):((BitVec.ofInt 64 x).toNat:Int)=x%18446744073709551616:=by
 rw [BitVec.toNat_ofInt]
 have h:0<=x%18446744073709551616:=Int.emod_nonneg _ (by decide)
 have e:((2 ^ 64:Nat):Int)=18446744073709551616:=by decide
 rw [e]
 omega
theorem byte_all (p:Nat->Bool) (h:(List.range 256).all p=true) (c:Int) (h0:0<=c) (h1:c<=255):p c.toNat=true:=by
 rw [List.all_eq_true] at h
 exact h _ (List.mem_range.2 (by omega))
theorem and127_u8 (c:Int) (h0:0<=c) (h1:c<=255):bits .and .u8 c 127=c%128:=by
 have:=byte_all (fun n=>bits .and .u8 (n:Int) 127 == (n:Int)%128) (by decide +kernel) c h0 h1
 simp only [beq_iff_eq] at this
 rwa [Int.toNat_of_nonneg h0] at this
theorem and64_u8 (c:Int) (h0:0<=c) (h1:c<=255):bits .and .u8 c 64=if 64<=c%128 then 64 else 0:=by
 have:=byte_all (fun n=>bits .and .u8 (n:Int) 64 == if 64<=(n:Int)%128 then 64 else 0) (by decide +kernel) c h0 h1
 simp only [beq_iff_eq] at this
 rwa [Int.toNat_of_nonneg h0] at this
theorem or_u64 (i:Nat) (x y:Int) (hx0:0<=x) (hx1:x<=18446744073709551615) (hx:x%2 ^ i=0) (hy0:0<=y) (hy:y<2 ^ i) (hy1:y<=18446744073709551615):bits .or .u64 x y=x+y:=by
 rw [u64_or x y hx0 (by omega) hy0 (by omega),nat_join i]
 ·omega
 ·have:((x.toNat%2 ^ i:Nat):Int)=0:=by rw [Int.natCast_emod,Int.toNat_of_nonneg hx0];simpa using hx
  exact_mod_cast this
 ·have:((y.toNat:Nat):Int)<((2 ^ i:Nat):Int):=by rw [Int.toNat_of_nonneg hy0];simpa using hy
  exact_mod_cast this
theorem or_u64' (i:Nat) (x y:Int) (hx0:0<=x) (hx1:x<=18446744073709551615) (hx:x%2 ^ i=0) (hy0:0<=y) (hy:y<2 ^ i) (hy1:y<=18446744073709551615):bits .or .u64 y x=y+x:=by
 rw [u64_or y x hy0 (by omega) hx0 (by omega),Nat.or_comm,nat_join i]
 ·omega
 ·have:((x.toNat%2 ^ i:Nat):Int)=0:=by rw [Int.natCast_emod,Int.toNat_of_nonneg hx0];simpa using hx
  exact_mod_cast this
 ·have:((y.toNat:Nat):Int)<((2 ^ i:Nat):Int):=by rw [Int.toNat_of_nonneg hy0];simpa using hy
  exact_mod_cast this
theorem or_i64 (x y:Int) (hx0:-9223372036854775808<=x) (hx1:x<=9223372036854775807) (hx:x%128=0) (hy0:0<=y) (hy:y<128):bits .or .i64 x y=x+y:=by
 have h:=ofInt_toNat x
 have h':=ofInt_toNat y
 show IntKind.i64.wrap (((BitVec.ofInt 64 x ||| BitVec.ofInt 64 y).toNat:Nat):Int)=_
 rw [BitVec.toNat_or,nat_join 7 _ _ (by simp only [Nat.reducePow];omega) (by simp only [Nat.reducePow];omega),IntKind.wrap_i64]
 omega
end Leb
end Go.Proofs.YthfapccopngfhaaDoor

namespace Go.Proofs.YthfapccopngfhaaDoor
open Go.RowKit
theorem lhide {p:Prop} (h:p):Hid p:=h
theorem lunhide {p:Prop} (h:Hid p):p:=h
theorem lret_bool {a b:Bool} (h:a=b):Ending.returned (.bool a)=.returned (.bool b):=by rw [h]
theorem lret_int {k:IntKind} {a b:Int} (h:a=b):Ending.returned (.int k a)=.returned (.int k b):=by rw [h]
set_option maxHeartbeats 400000 in
theorem c22 (s:ByteArray) (a bits:Int) (w:World) :
  Calls Tryd.prog 79 #[.string s,.int .i64 a,.int .i64 bits] w fun e w'=>e=.returned (.bool (Leb.asks s.size a bits))/\w'=w:=by
 go_enter Tryd.func79,Tryd.ntmps79
 go_wp2
 all_goals go_ret
 all_goals refine ⟨lret_bool ?_,rfl⟩
 all_goals (unfold Leb.asks;rw [Bool.eq_iff_iff];simp only [decide_eq_true_eq];first|omega|(simp;omega))
set_option maxHeartbeats 400000 in
theorem c26 (bits:Int) (w:World) (h:bits=32\/bits=64) :
  Calls Tryd.prog 89 #[.int .i64 bits] w fun e w'=>e=.returned (.int .i64 (Leb.most bits))/\w'=w:=by
 rcases h with rfl|rfl
 all_goals
  go_enter Tryd.func89,Tryd.ntmps89
  go_wp2
  go_ret
  exact ⟨rfl,rfl⟩
set_option maxHeartbeats 1000000 in
theorem c23 (s:ByteArray) (a:Nat) (bits:Int) (w:World) (hs:s.size<=140737488351232) (ha:a<=s.size) (h:bits=32\/bits=64) :
  Calls Tryd.prog 80 #[.string s,.int .i64 a,.int .i64 bits] w fun e w'=>e=.returned (.int .i64 (Leb.grp (Leb.from_ s a) (s.size-a) (Leb.most bits)))/\w'=w:=by
 have hg:=Leb.get_bt s
 have hm:(bits+6) / 7=(Leb.most bits:Int)/\Leb.most bits<=10/\0<=bits/\bits<=64:=by rcases h with rfl|rfl<;>decide
 obtain ⟨hm1,hm2,hm3,hm4⟩:=hm
 clear h
 generalize Leb.most bits=M at *
 go_enter Tryd.func80,Tryd.ntmps80
 go_wp2
 go_loop [8] (fun i=>∃k:Nat,k<=M/\k<=s.size-a/\i=.int .i64 k/\Leb.grp (Leb.from_ s a) (s.size-a) M=Leb.grpF (Leb.from_ s a) (s.size-a) (M-k) k) (fun i=>10-(RowKit.intOf i).toNat)
 case atStart=>exact ⟨0,by omega,by omega,rfl,rfl⟩
 case round =>
  obtain ⟨k,hk,hk2,rfl,hgr⟩:=hrel
  have HG:Hid (Leb.grp (Leb.from_ s a) (s.size-a) M=Leb.grpF (Leb.from_ s a) (s.size-a) (M-k) k):=hgr
  clear hgr
  by_cases h1:k<M
  ·by_cases h2:a+k<s.size
   ·have hf:Leb.from_ s a k=Leb.bt s (a+k):=rfl
    have hbd:=Leb.bt_bd s (a+k)
    by_cases h3:Leb.bt s (a+k)<128
    ·have hfin:Leb.grp (Leb.from_ s a) (s.size-a) M=k+1:=by rw [HG.out];exact Leb.grpF_last _ _ _ _ (by omega) (by omega) h3
     clear HG hf
     go_wp2
     go_ret
     exact ⟨rfl,rfl⟩
    ·have hfin:Leb.grp (Leb.from_ s a) (s.size-a) M=Leb.grpF (Leb.from_ s a) (s.size-a) (M-(k+1)) (k+1):=by rw [HG.out];exact Leb.grpF_on _ _ _ _ (by omega) (by omega) h3
     have HF:Hid (Leb.grp (Leb.from_ s a) (s.size-a) M=Leb.grpF (Leb.from_ s a) (s.size-a) (M-(k+1)) (k+1)):=hfin
     clear HG hf hfin
     go_wp2
     go_round
     case rel=>exact ⟨k+1,by omega,by omega,by go_num,HF.out⟩
     case measure=>simp [RowKit.intOf];omega
   ·have hfin:Leb.grp (Leb.from_ s a) (s.size-a) M=0:=by rw [HG.out];exact Leb.grpF_past _ _ _ _ (by omega)
    clear HG
    go_wp2
    go_ret
    exact ⟨rfl,rfl⟩
  ·have hfin:Leb.grp (Leb.from_ s a) (s.size-a) M=0:=by rw [HG.out,show M-k=0 by omega];rfl
   clear HG
   go_wp2
   go_ret
   exact ⟨rfl,rfl⟩
theorem start_eq {f:Nat->Int} {k:Nat} {V:Int} (h:Leb.val f k=V):Leb.val f k+128 ^ k*0=V:=by rw [Int.mul_zero,Int.add_zero];exact h
theorem step_u64 (N b:Int):bits .or .u64 (IntKind.u64.wrap (Leb.low64 N*128)) (b%128)=Leb.low64 (N*128+b%128):=by
 have hb:0<=b%128/\b%128<128:=by omega
 have e:IntKind.u64.wrap (Leb.low64 N*128)=Leb.low64 (Leb.low64 N*128):=by rw [IntKind.wrap_u64];rfl
 have h1:=Leb.low64_bd (Leb.low64 N*128)
 rw [e,Leb.or_u64 7 _ _ h1.1 h1.2 (Leb.low64_128 _) hb.1 (by simpa using hb.2) (by omega)]
 exact Leb.low64_up N _ hb.1 hb.2
theorem lthree_ret {k:IntKind} {a b c a' b' c':Int} (h:(a,b,c)=(a',b',c')):Ending.returned (.tuple #[.int k a,.int .i64 b,.int .i64 c])=.returned (.tuple #[.int k a',.int .i64 b',.int .i64 c']):=by
 simp only [Prod.mk.injEq] at h
 rw [h.1,h.2.1,h.2.2]
set_option maxHeartbeats 1000000 in
theorem c15 (s : ByteArray) (a bits : Int) (w : World) (hs : s.size ≤ 140737488351232) :
    Calls Tryd.prog 59 #[.string s, .int .i64 a, .int .i64 bits] w fun e w' =>
      e = .returned (.tuple #[.int .u64 (Leb.uRead s a bits).1, .int .i64 (Leb.uRead s a bits).2.1, .int .i64 (Leb.uRead s a bits).2.2]) ∧ w' = w := by
  by_cases hask : Leb.asks s.size a bits = true
  · have hq := Leb.asks_yes hask
    obtain ⟨hbits, ha0, ha1⟩ := hq
    obtain ⟨a, rfl⟩ := Int.eq_ofNat_of_zero_le ha0
    have hread : Leb.uRead s a bits = Leb.uFin (Leb.from_ s a) (Leb.grp (Leb.from_ s a) (s.size - a) (Leb.most bits)) a bits := by unfold Leb.uRead; rw [if_pos hask, Int.toNat_natCast]; rfl
    rw [hread]
    have hg := Leb.get_bt s
    have ha : a ≤ s.size := by omega
    have HASK : Hid (Leb.asks s.size a bits = true) := hask
    have hks := Leb.grp_some (Leb.from_ s a) (s.size - a) (Leb.most bits)
    have hc23 := c23 s a bits w hs ha hbits
    clear hread ha0 ha1 hask
    generalize Leb.grp (Leb.from_ s a) (s.size - a) (Leb.most bits) = k at *
    have hC := lhide hc23
    clear hc23
    by_cases hbad : k = 0 ∨ (bits = 32 ∧ 4294967295 < Leb.val (Leb.from_ s a) k) ∨ (k = 10 ∧ 1 < Leb.from_ s a 9)
    · have hfin : Leb.uFin (Leb.from_ s a) k a bits = (0, 0, 10) := by unfold Leb.uFin; rw [if_pos hbad]
      rw [hfin]
      have hway : k = 0 ∨ (bits = 32 ∧ k = 5 ∧ 15 < Leb.bt s (a + 4) ∧ a + 4 < s.size) ∨ (bits = 64 ∧ k = 10 ∧ 1 < Leb.bt s (a + 9) ∧ a + 9 < s.size) := by
        by_cases hk0 : k = 0
        · exact .inl hk0
        · obtain ⟨k1, k2, k3, k4, k5⟩ := hks hk0
          rcases hbad with h | ⟨rfl, h⟩ | ⟨rfl, h⟩
          · exact .inl h
          · have hm : k ≤ 5 := k2
            have hk : k = 5 := by
              rcases Nat.lt_or_ge k 5 with h' | h'
              · have := Leb.val_5 (Leb.from_ s a) k (by omega); omega
              · omega
            subst hk
            have hbd := Leb.from_bd s a 4
            exact .inr (.inl ⟨rfl, rfl, (Leb.val_four _ hbd.1 k4).1 h, by omega⟩)
          · rcases hbits with rfl | rfl
            · exact absurd k2 (by decide)
            · exact .inr (.inr ⟨rfl, rfl, h, by omega⟩)
      clear hbad hfin hks hbits
      rcases hway with rfl | ⟨rfl, rfl, h1, h2⟩ | ⟨rfl, rfl, h1, h2⟩
      all_goals
        go_enter Tryd.func59, Tryd.ntmps59
        go_wp2_with fail
        refine (c22 _ _ _ _).mono ?_
        rintro e w' ⟨rfl, rfl⟩
        rw [HASK.out]
        go_wp2_with fail
        refine (lunhide hC).mono ?_
        rintro e w' ⟨rfl, rfl⟩
        go_wp2
        go_ret3
        exact ⟨rfl, rfl⟩
    · have hfin : Leb.uFin (Leb.from_ s a) k a bits = (Leb.val (Leb.from_ s a) k, (a : Int) + (k : Int), 0) := by unfold Leb.uFin; rw [if_neg hbad]
      rw [hfin]
      have hk0 : k ≠ 0 := fun h => hbad (.inl h)
      obtain ⟨k1, k2, k3, k4, k5⟩ := hks hk0
      have hsum : (a : Int) + k ≤ s.size := by omega
      have hk10 : k ≤ 10 := by rcases hbits with rfl | rfl <;> exact Nat.le_trans k2 (by decide)
      have hv : Leb.val (Leb.from_ s a) k ≤ 18446744073709551615 := by
        by_cases h10 : k = 10
        · subst h10
          have hbd := Leb.from_bd s a 9
          exact Leb.val_nine _ hbd.1 (by have := fun h => hbad (.inr (.inr ⟨rfl, h⟩)); omega)
        · have := Leb.val_9 (Leb.from_ s a) k (by omega); omega
      have hway : (bits = 32 ∧ ((k = 5 ∧ Leb.bt s (a + 4) ≤ 15 ∧ a + 4 < s.size) ∨ k < 5)) ∨ (bits = 64 ∧ (k = 5 ∨ (k = 10 ∧ Leb.bt s (a + 9) ≤ 1 ∧ a + 9 < s.size) ∨ ((k : Int) ≠ 5 ∧ (k : Int) ≠ 10))) := by
        rcases hbits with rfl | rfl
        · have hm : k ≤ 5 := k2
          by_cases h5 : k = 5
          · subst h5
            have hbd := Leb.from_bd s a 4
            have h4 : ¬ 15 < Leb.from_ s a 4 := fun h => hbad (.inr (.inl ⟨rfl, (Leb.val_four _ hbd.1 k4).2 h⟩))
            exact .inl ⟨rfl, .inl ⟨rfl, by have : Leb.from_ s a 4 = Leb.bt s (a + 4) := rfl
                                           omega, by omega⟩⟩
          · exact .inl ⟨rfl, .inr (by omega)⟩
        · by_cases h5 : k = 5
          · exact .inr ⟨rfl, .inl h5⟩
          · by_cases h10 : k = 10
            · have h9 : ¬ 1 < Leb.from_ s a 9 := fun h => hbad (.inr (.inr ⟨h10, h⟩))
              exact .inr ⟨rfl, .inr (.inl ⟨h10, by have : Leb.from_ s a 9 = Leb.bt s (a + 9) := rfl
                                                   omega, by omega⟩)⟩
            · exact .inr ⟨rfl, .inr (.inr (by omega))⟩
      clear hbad hfin hks hbits k2 k4 k5
      have hk0' : ((k : Int) == 0) = false := by simp; omega
      have hv0 := (Leb.val_bd (Leb.from_ s a) k).1
      generalize hV : Leb.val (Leb.from_ s a) k = V at *
      have HV := lhide hV
      clear hV
      have hway' : (bits = 32 ∧ ((k = 5 ∧ decide (15 < Leb.bt s (a + 4)) = false ∧ a + 4 < s.size) ∨ (((k : Int) == 5) = false ∧ ((k : Int) == 10) = false))) ∨ (bits = 64 ∧ (k = 5 ∨ (k = 10 ∧ decide (1 < Leb.bt s (a + 9)) = false ∧ a + 9 < s.size) ∨ (((k : Int) == 5) = false ∧ ((k : Int) == 10) = false))) := by
        simp only [decide_eq_false_iff_not, beq_eq_false_iff_ne]
        omega
      clear hway hk0
      rcases hway' with ⟨rfl, ⟨rfl, h1, h2⟩ | ⟨h1, h2⟩⟩ | ⟨rfl, rfl | ⟨rfl, h1, h2⟩ | ⟨h1, h2⟩⟩
      all_goals
        go_enter Tryd.func59, Tryd.ntmps59
        go_wp2_with fail
        refine (c22 _ _ _ _).mono ?_
        rintro e w' ⟨rfl, rfl⟩
        rw [HASK.out]
        go_wp2_with fail
        refine (lunhide hC).mono ?_
        rintro e w' ⟨rfl, rfl⟩
        go_wp2
        go_loop [10, 11] (fun x i => ∃ (j : Nat) (N : Int), a + j ≤ s.size ∧ j ≤ 10 ∧ i = .int .i64 ((j : Int) - 1) ∧ x = .int .u64 (Leb.low64 N) ∧ Leb.val (Leb.from_ s a) j + 128 ^ j * N = V) (fun _ i => (RowKit.intOf i + 1).toNat)
        case atStart =>
          refine ⟨_, 0, ?_, ?_, ?_, rfl, start_eq (lunhide HV)⟩
          · omega
          · omega
          · go_num
        case round =>
          obtain ⟨j, N, hj1, hj2, rfl, rfl, hN⟩ := hrel
          have HN := lhide hN
          clear hN
          by_cases hj : j = 0
          · subst hj
            have HN0 := (lunhide HN)
            simp only [Leb.val, Int.pow_zero, Int.one_mul, Int.zero_add] at HN0
            subst HN0
            clear HN
            go_wp2
            go_ret3
            exact ⟨lthree_ret (by rw [Leb.low64_in hv0 hv]), rfl⟩
          · obtain ⟨j, rfl⟩ : ∃ j', j = j' + 1 := ⟨j - 1, by omega⟩
            have hbd := Leb.bt_bd s (a + j)
            have hmk := Leb.and127_u8 _ hbd.1 hbd.2
            have hlow := Leb.low64_bd N
            go_wp2
            go_round
            case rel => exact ⟨j, N * 128 + Leb.bt s (a + j) % 128, by omega, by omega, rfl, by rw [step_u64], (Leb.val_split (Leb.from_ s a) j N).symm.trans (lunhide HN)⟩
            case measure => simp [RowKit.intOf]
  · have hask' : Leb.asks s.size a bits = false := by simpa using hask
    have hread : Leb.uRead s a bits = (0, 0, 1) := by unfold Leb.uRead; rw [hask']; rfl
    rw [hread]
    clear hread hask
    go_enter Tryd.func59, Tryd.ntmps59
    go_wp2_with fail
    refine (c22 _ _ _ _).mono ?_
    rintro e w' ⟨rfl, rfl⟩
    go_wp2
    go_ret3
    exact ⟨rfl, rfl⟩
end Go.Proofs.YthfapccopngfhaaDoor


/- Texts that the claim needs. -/
import Derived.Test.YthfapccopngfhaaDoorQDex2
namespace Go.Proofs.YthfapccopngfhaaDoor
open Go.RowKit
theorem three_ret' {a b:Int} {p p' q q':Bool} (h:a=b) (h':p=p') (h'':q=q'):Ending.returned (.tuple #[.int .u8 a,.bool p,.bool q])=.returned (.tuple #[.int .u8 b,.bool p',.bool q']):=by rw [h,h',h'']
set_option maxHeartbeats 400000 in
theorem c27_end (ba bs:Nat) (t:ByteArray) (w:World) (hs:w.cell? ⟨bs,0,none⟩=some (.string t)) (ha:w.cell? ⟨ba,0,none⟩=some (.int .i64 t.size)) :
  Calls Tryd.prog 93 #[.pointer (some ⟨ba,0,none⟩),.pointer (some ⟨bs,0,none⟩)] w fun e w'=>e=.returned (.tuple #[.int .u8 0,.bool false,.bool false])/\w'=w:=by
 go_enter Tryd.func93,Tryd.ntmps93
 go_wp2
 go_ret3
 exact ⟨rfl,rfl⟩
set_option maxHeartbeats 400000 in
theorem c27_on (ba bs k:Nat) (t:ByteArray) (q:Bool) (w:World) (hlen:t.size<=140737488351232) (hs:w.cell? ⟨bs,0,none⟩=some (.string t)) (ha:w.cell? ⟨ba,0,none⟩=some (.int .i64 k)) (hf:w.frozen? ⟨ba,0,none⟩=false) (hk:k<t.size)
  (hq:decide (Leb.bt t k<128)=q) :
  Calls Tryd.prog 93 #[.pointer (some ⟨ba,0,none⟩),.pointer (some ⟨bs,0,none⟩)] w fun e w' =>
   e=.returned (.tuple #[.int .u8 (Leb.bt t k%128),.bool q,.bool true])/\w'=w.setCell ⟨ba,0,none⟩ (.int .i64 ((k:Int)+1)):=by
 have hg:=Leb.get_bt t
 have hbd:=Leb.bt_bd t k
 have hmk:=Leb.and127_u8 _ hbd.1 hbd.2
 have hne:((k:Int) == (t.size:Int))=false:=by simp;omega
 have HQ:=lhide hq
 clear hq
 go_enter Tryd.func93,Tryd.ntmps93
 go_wp2
 go_ret3
 exact ⟨three_ret' rfl (lunhide HQ) rfl,rfl⟩
set_option maxHeartbeats 400000 in
theorem c21_arg (s:ByteArray) (a bits:Int) (w:World) (hask:Leb.asks s.size a bits=false) :
  Calls Tryd.prog 81 #[.string s,.int .i64 a,.int .i64 bits] w fun e w' =>
   e=.returned (.tuple #[.agg #[.int .u64 0,.int .i64 0,.int .u8 0],.int .i64 1])/\Below w.heap.size w w':=by
 have hno:=Leb.asks_no hask
 clear hask
 have hway:((bits != 32)=true/\(bits != 64)=true)\/(((bits != 32)=false\/((bits != 32)=true/\(bits != 64)=false))/\(a<0\/(0<=a/\(s.size:Int)<a))):=by
  simp only [bne_iff_ne,bne_eq_false_iff_eq]
  omega
 clear hno
 rcases hway with ⟨h1,h2⟩|⟨h1|⟨h1,h2⟩,h3|⟨h3,h4⟩⟩
 all_goals
  go_enter Tryd.func81,Tryd.ntmps81
  go_wp2
  exact bodyPost_ret (v:=.tuple #[.agg #[.int .u64 0,.int .i64 0,.int .u8 0],.int .i64 1]) (by simp [results,Tryd.results81,go_sem]) rfl ⟨rfl,by first|exact ((Below.refl _ _).alloc (Nat.le_refl _) _)⟩
set_option maxHeartbeats 400000 in
theorem c25 (t:ByteArray) (w:World) :
  Calls Tryd.prog 88 #[.string t] w fun e w' =>
   e=.returned (.func (.func 93) #[] #[.pointer (some ⟨w.heap.size+1,0,none⟩),.pointer (some ⟨w.heap.size,0,none⟩)])/\w'=(w.alloc (.cells #[.string t] 9)).alloc (.cells #[.int .i64 0] 3):=by
 go_enter Tryd.func88,Tryd.ntmps88
 go_wp2
 go_ret
 exact ⟨rfl,rfl⟩
theorem bt_extract (s:ByteArray) (a i:Nat) (ha:a<=s.size):Leb.bt (s.extract a s.size) i=Leb.from_ s a i:=by
 unfold Leb.from_ Leb.bt
 have hsz:(s.extract a s.size).size=s.size-a:=by simp [ByteArray.size_extract]
 by_cases h:a+i<s.size
 ·rw [dif_pos (by omega),dif_pos h]
  simp [ByteArray.getElem_extract]
 ·rw [dif_neg (by omega),dif_neg h]
theorem step_low (f:Nat->Int) (k:Nat) (hk:k<=9):Go.bits .or .u64 (Leb.val f k) (IntKind.u64.wrap (f k%128*2 ^ (7*k)))=Leb.low64 (Leb.val f (k+1)):=by
 have hv:=Leb.val_bd f k
 have hg:0<=f k%128/\f k%128<=127:=by omega
 have hkk:k=0\/k=1\/k=2\/k=3\/k=4\/k=5\/k=6\/k=7\/k=8\/k=9:=by omega
 have e:Leb.val f (k+1)=Leb.val f k+128 ^ k*(f k%128):=rfl
 rw [e,IntKind.wrap_u64]
 unfold Leb.low64
 generalize Leb.val f k=v at *
 generalize f k%128=g at *
 clear e
 rcases hkk with rfl|rfl|rfl|rfl|rfl|rfl|rfl|rfl|rfl|rfl
 all_goals
  simp only [Int.reducePow,Nat.reduceMul,Int.mul_one,Int.one_mul] at hv ⊢
 ·rw [Leb.or_u64' 0 _ _ (by omega) (by omega) (by simp only [Int.reducePow];omega) (by omega) (by simp only [Int.reducePow];omega) (by omega)];omega
 ·rw [Leb.or_u64' 7 _ _ (by omega) (by omega) (by simp only [Int.reducePow];omega) (by omega) (by simp only [Int.reducePow];omega) (by omega)];omega
 ·rw [Leb.or_u64' 14 _ _ (by omega) (by omega) (by simp only [Int.reducePow];omega) (by omega) (by simp only [Int.reducePow];omega) (by omega)];omega
 ·rw [Leb.or_u64' 21 _ _ (by omega) (by omega) (by simp only [Int.reducePow];omega) (by omega) (by simp only [Int.reducePow];omega) (by omega)];omega
 ·rw [Leb.or_u64' 28 _ _ (by omega) (by omega) (by simp only [Int.reducePow];omega) (by omega) (by simp only [Int.reducePow];omega) (by omega)];omega
 ·rw [Leb.or_u64' 35 _ _ (by omega) (by omega) (by simp only [Int.reducePow];omega) (by omega) (by simp only [Int.reducePow];omega) (by omega)];omega
 ·rw [Leb.or_u64' 42 _ _ (by omega) (by omega) (by simp only [Int.reducePow];omega) (by omega) (by simp only [Int.reducePow];omega) (by omega)];omega
 ·rw [Leb.or_u64' 49 _ _ (by omega) (by omega) (by simp only [Int.reducePow];omega) (by omega) (by simp only [Int.reducePow];omega) (by omega)];omega
 ·rw [Leb.or_u64' 56 _ _ (by omega) (by omega) (by simp only [Int.reducePow];omega) (by omega) (by simp only [Int.reducePow];omega) (by omega)];omega
 ·rw [Leb.or_u64' 63 _ _ (by omega) (by omega) (by simp only [Int.reducePow];omega) (by omega) (by simp only [Int.reducePow];omega) (by omega)];omega
structure RdInv (B:Nat) (w wr:World) (t:ByteArray) (k:Nat) (l:Int):Prop where
 out:wr.heap[B]?=some (.cells #[.int .u64 0,.int .i64 0,.int .u8 0] 122 (0,0))
 str:wr.heap[B+1]?=some (.cells #[.string t] 9 (0,0))
 pos:wr.heap[B+1+1]?=some (.cells #[.int .i64 k] 3 (0,0))
 rd:wr.heap[B+1+1+1]?=some (.cells #[.int .u64 l,.int .i64 k,.int .u8 0] 122 (0,0))
 bel:Below B w wr
theorem set_here {w:World} {b j:Nat} {u:Value} {cs:Array Value} {t:TypeId} (h:w.heap[b]?=some (.cells cs t (0,0))):(w.setCell ⟨b,j,none⟩ u).heap[b]?=some (.cells (cs.setIfInBounds j u) t (0,0)):=by
 simp [World.setCell,Array.getElem?_modify,h]
theorem set_there {w:World} {b c j:Nat} {u:Value} {x:Obj} (h:w.heap[c]?=some x) (hne:c≠b):(w.setCell ⟨b,j,none⟩ u).heap[c]?=some x:=by
 rw [Below.heap_setCell _ _ _ _ hne];exact h
theorem RdInv.draws {B:Nat} {w wr:World} {t:ByteArray} {k:Nat} {l:Int} (h:RdInv B w wr t k l) (n:Nat):RdInv B w (wr.drewN n) t k l :=
 ⟨h.out,h.str,h.pos,h.rd,⟨h.bel.os,h.bel.tape,h.bel.output,h.bel.size,h.bel.block⟩⟩
theorem RdInv.next {B:Nat} {w wr:World} {t:ByteArray} {k:Nat} {l:Int} (h:RdInv B w wr t k l) (l':Int) :
  RdInv B w (((wr.setCell ⟨B+1+1,0,none⟩ (.int .i64 ((k:Int)+1))).setCell ⟨B+1+1+1,0,none⟩ (.int .u64 l')).setCell ⟨B+1+1+1,1,none⟩ (.int .i64 ((k:Int)+1))) t (k+1) l' :=
 ⟨set_there (set_there (set_there h.out (by omega)) (by omega)) (by omega),set_there (set_there (set_there h.str (by omega)) (by omega)) (by omega),set_there (set_there (set_here h.pos) (by omega)) (by omega),
  set_here (set_here (set_there h.rd (by omega))),((h.bel.setCell (by show B<=B+1+1;omega) _).setCell (by show B<=B+1+1+1;omega) _).setCell (by show B<=B+1+1+1;omega) _⟩
theorem cell_of {w:World} {b j:Nat} {cs:Array Value} {t:TypeId} (h:w.heap[b]?=some (.cells cs t (0,0))):w.cell? ⟨b,j,none⟩=cs[j]?:=by simp [World.cell?,h]
theorem free_of {w:World} {b j:Nat} {cs:Array Value} {t:TypeId} (h:w.heap[b]?=some (.cells cs t (0,0))):w.frozen? ⟨b,j,none⟩=false:=by simp [World.frozen?,h]
structure RdMid (B:Nat) (w wr:World) (t:ByteArray) (k:Nat) (l:Int):Prop where
 out:wr.heap[B]?=some (.cells #[.int .u64 0,.int .i64 0,.int .u8 0] 122 (0,0))
 str:wr.heap[B+1]?=some (.cells #[.string t] 9 (0,0))
 pos:wr.heap[B+1+1]?=some (.cells #[.int .i64 ((k:Int)+1)] 3 (0,0))
 rd:wr.heap[B+1+1+1]?=some (.cells #[.int .u64 l,.int .i64 k,.int .u8 0] 122 (0,0))
 bel:Below B w wr
theorem RdInv.mid {B:Nat} {w wr:World} {t:ByteArray} {k:Nat} {l:Int} (h:RdInv B w wr t k l) (l':Int) (n:Nat) :
  RdMid B w (((wr.drewN n).setCell ⟨B+1+1,0,none⟩ (.int .i64 ((k:Int)+1))).setCell ⟨B+1+1+1,0,none⟩ (.int .u64 l')).drew t k l' :=
 ⟨set_there (set_there h.out (by omega)) (by omega),set_there (set_there h.str (by omega)) (by omega),set_there (set_here h.pos) (by omega),
  set_here (set_there h.rd (by omega)),Below.drew (((h.draws n).bel.setCell (by show B<=B+1+1;omega) _).setCell (by show B<=B+1+1+1;omega) _)⟩
theorem RdMid.next {B:Nat} {w wr:World} {t:ByteArray} {k:Nat} {l:Int} (h:RdMid B w wr t k l):RdInv B w (wr.setCell ⟨B+1+1+1,1,none⟩ (.int .i64 ((k:Int)+1))) t (k+1) l :=
 ⟨set_there h.out (by omega),set_there h.str (by omega),set_there h.pos (by omega),set_here h.rd,h.bel.setCell (by show B<=B+1+1+1;omega) _⟩
def rdVal (f:Nat->Int) (k:Nat):Value :=
 if k=0 then .tuple #[.agg #[.int .u64 0,.int .i64 0,.int .u8 0],.int .i64 10] else .tuple #[.agg #[.int .u64 (Leb.low64 (Leb.val f k)),.int .i64 k,.int .u8 (f (k-1))],.int .i64 0]
theorem rdVal_none {f:Nat->Int} {k:Nat} (h:k=0):rdVal f k=.tuple #[.agg #[.int .u64 0,.int .i64 0,.int .u8 0],.int .i64 10]:=by unfold rdVal;rw [if_pos h]
theorem rdVal_some {f:Nat->Int} {k n:Nat} (h:k=n+1) (hf:0<=f n/\f n<128):rdVal f k=.tuple #[.agg #[.int .u64 (Leb.low64 (Leb.val f (n+1))),.int .i64 ((n:Int)+1),.int .u8 (f n%128)],.int .i64 0]:=by
 subst h
 unfold rdVal
 rw [if_neg (by omega),Nat.add_sub_cancel,show f n%128=f n by omega]
 rfl
theorem heap_alloc_of {w:World} {o x:Obj} {b:Nat} (h:w.heap[b]?=some x):(w.alloc o).heap[b]?=some x:=by
 rw [Below.heap_alloc _ _ _ (lt_of_block h)];exact h
theorem heap_alloc_new' (w:World) (o:Obj) {b:Nat} (h:b=w.heap.size):(w.alloc o).heap[b]?=some o:=by
 subst h
 show (w.heap.push o)[w.heap.size]?=_
 simp
theorem RdInv.start (w:World) (t:ByteArray) :
  RdInv w.heap.size w ((((w.alloc (.cells #[.int .u64 0,.int .i64 0,.int .u8 0] 122)).alloc (.cells #[.string t] 9)).alloc (.cells #[.int .i64 0] 3)).alloc (.cells #[.int .u64 0,.int .i64 0,.int .u8 0] 122)) t 0 (Leb.low64 (Leb.val (Leb.bt t) 0)) :=
 ⟨heap_alloc_of (heap_alloc_of (heap_alloc_of (heap_alloc_new' _ _ rfl))),heap_alloc_of (heap_alloc_of (heap_alloc_new' _ _ (by simp))),heap_alloc_of (heap_alloc_new' _ _ (by simp)),heap_alloc_new' _ _ (by simp),
  ((((Below.refl _ _).alloc (Nat.le_refl _) _).alloc (by simp) _).alloc (by simp;omega) _).alloc (by simp;omega) _⟩
theorem RdInv.lower {B:Nat} {w wr wr':World} {t:ByteArray} {k:Nat} {l l':Int} (h:RdInv B w wr t k l) (h':RdInv B w wr' t (k+1) l') (hk:k<10) :
  10-(RowKit.intOf ((wr'.cell? ⟨B+1+1,0,none⟩).getD (.int .i64 0))).toNat<10-(RowKit.intOf ((wr.cell? ⟨B+1+1,0,none⟩).getD (.int .i64 0))).toNat:=by
 rw [cell_of h.pos,cell_of h'.pos]
 simp [RowKit.intOf]
 omega
theorem bel_set {B b j:Nat} {w wr:World} {u:Value} (h:Below B w wr) (hb:B<=b):Below B w (wr.setCell ⟨b,j,none⟩ u):=h.setCell hb u
theorem ret_val {a b:Value} (h:b=a):Ending.returned a=.returned b:=by rw [h]
end Go.Proofs.YthfapccopngfhaaDoor

namespace Go.Proofs.YthfapccopngfhaaDoor
open Go.RowKit
set_option maxHeartbeats 2000000 in
theorem c21 (s t:ByteArray) (a:Nat) (bits:Int) (w:World) (hs:s.size<=140737488351232) (ha:a<=s.size) (hb:bits=32\/bits=64) (ht:s.extract a s.size=t) :
  Calls Tryd.prog 81 #[.string s,.int .i64 a,.int .i64 bits] w fun e w' =>
   e=.returned (rdVal (Leb.bt t) (Leb.grp (Leb.bt t) t.size (Leb.most bits)))/\Below w.heap.size w w':=by
 have hway:((bits != 32)=false)\/((bits != 32)=true/\(bits != 64)=false):=by
  simp only [bne_iff_ne,bne_eq_false_iff_eq]
  omega
 have ha0:decide ((a:Int)<0)=false:=decide_eq_false (by omega)
 have ha1:decide ((s.size:Int)<(a:Int))=false:=decide_eq_false (by omega)
 have ha2:decide (s.size<a)=false:=decide_eq_false (by omega)
 have hM10:Leb.most bits<=10:=by rcases hb with rfl|rfl<;>decide
 have HB:=lhide hb
 have htz:t.size<=140737488351232:=by rw [<- ht];simp [ByteArray.size_extract];omega
 clear hb
 rcases hway with h1|⟨h1,h2⟩
 all_goals
  go_enter Tryd.func81,Tryd.ntmps81
  go_wp2_with fail
  refine (c25 _ _).mono ?_
  rintro e w1 ⟨rfl,rfl⟩
  go_wp2
  clear ht
  go_loopw [10] (fun _ wr=>∃k:Nat,k<=Leb.most bits/\k<=t.size/\RdInv w.heap.size w wr t k (Leb.low64 (Leb.val (Leb.bt t) k))/\Leb.grp (Leb.bt t) t.size (Leb.most bits)=Leb.grpF (Leb.bt t) t.size (Leb.most bits-k) k) (fun _ wr=>10-(RowKit.intOf ((wr.cell? ⟨w.heap.size+1+1,0,none⟩).getD (.int .i64 0))).toNat)
  case atStart=>exact ⟨0,Nat.zero_le _,Nat.zero_le _,RdInv.start w t,rfl⟩
  case round =>
   obtain ⟨k,hk1,hk2,hinv,hgrp⟩:=hrel
   have HI:=lhide hinv
   have HG:=lhide hgrp
   have hcnt:wr.cell? ⟨w.heap.size+1+1+1,1,none⟩=some (.int .i64 k):=cell_of hinv.rd
   have hcs:wr.cell? ⟨w.heap.size+1,0,none⟩=some (.string t):=cell_of hinv.str
   have hcp:wr.cell? ⟨w.heap.size+1+1,0,none⟩=some (.int .i64 k):=cell_of hinv.pos
   have hfp:wr.frozen? ⟨w.heap.size+1+1,0,none⟩=false:=free_of hinv.pos
   have hco0:wr.cell? ⟨w.heap.size,0,none⟩=some (.int .u64 0):=cell_of hinv.out
   have hco1:wr.cell? ⟨w.heap.size,1,none⟩=some (.int .i64 0):=cell_of hinv.out
   have hco2:wr.cell? ⟨w.heap.size,2,none⟩=some (.int .u8 0):=cell_of hinv.out
   have hfo0:wr.frozen? ⟨w.heap.size,0,none⟩=false:=free_of hinv.out
   have hfo1:wr.frozen? ⟨w.heap.size,1,none⟩=false:=free_of hinv.out
   have hfo2:wr.frozen? ⟨w.heap.size,2,none⟩=false:=free_of hinv.out
   clear hinv hgrp
   by_cases hkM:k<Leb.most bits
   ·by_cases hkt:k<t.size
    ·have hbd:=Leb.bt_bd t k
     have hv9:=Leb.val_9 (Leb.bt t) k (by omega)
     have hst:=step_low (Leb.bt t) k (by omega)
     have hlow:wr.cell? ⟨w.heap.size+1+1+1,0,none⟩=some (.int .u64 (Leb.val (Leb.bt t) k)):=by
      rw [<- Leb.low64_in hv9.1 (by omega)];exact cell_of (lunhide HI).rd
     have hfr0:wr.frozen? ⟨w.heap.size+1+1+1,0,none⟩=false:=free_of (lunhide HI).rd
     by_cases hl:Leb.bt t k<128
     ·have HF:=lhide (rdVal_some ((lunhide HG).trans (Leb.grpF_last _ _ _ _ (by omega) hkt hl)) ⟨hbd.1,hl⟩)
      clear hco0 hco1 hco2 hfo0 hfo1 hfo2 HG
      go_wp2_with fail
      go_quiet ((go_at_call 89;exact Calls.quiet_of_same (c26 _ _ (lunhide HB))))
      go_wp2_with fail
      refine (c27_on _ _ k t true _ (by omega) (by exact hcs) (by exact hcp) (by exact hfp) hkt (decide_eq_true hl)).mono ?_
      rintro e w2 ⟨rfl,rfl⟩
      go_wp2_with fail
      go_region
      generalize hW2:World.drew (World.setCell _ _ _)=W2
      have hmid:RdMid w.heap.size w W2 t k (Leb.low64 (Leb.val (Leb.bt t) (k+1))):=by rw [<- hW2,<- hst];exact (lunhide HI).mid _ _
      clear hW2 hlow hcnt hcs hcp hfp hfr0 HI hst
      have hcnt:W2.cell? ⟨w.heap.size+1+1+1,1,none⟩=some (.int .i64 k):=cell_of hmid.rd
      have hcn0:W2.cell? ⟨w.heap.size+1+1+1,0,none⟩=some (.int .u64 (Leb.low64 (Leb.val (Leb.bt t) (k+1)))):=cell_of hmid.rd
      have hcn2:W2.cell? ⟨w.heap.size+1+1+1,2,none⟩=some (.int .u8 0):=cell_of hmid.rd
      have hfr1:W2.frozen? ⟨w.heap.size+1+1+1,1,none⟩=false:=free_of hmid.rd
      have hfr2:W2.frozen? ⟨w.heap.size+1+1+1,2,none⟩=false:=free_of hmid.rd
      have hfo0:W2.frozen? ⟨w.heap.size,0,none⟩=false:=free_of hmid.out
      have hfo1:W2.frozen? ⟨w.heap.size,1,none⟩=false:=free_of hmid.out
      have hfo2:W2.frozen? ⟨w.heap.size,2,none⟩=false:=free_of hmid.out
      have hco0:W2.cell? ⟨w.heap.size,0,none⟩=some (.int .u64 0):=cell_of hmid.out
      have hco1:W2.cell? ⟨w.heap.size,1,none⟩=some (.int .i64 0):=cell_of hmid.out
      have hco2:W2.cell? ⟨w.heap.size,2,none⟩=some (.int .u8 0):=cell_of hmid.out
      have HM:=lhide hmid
      clear hmid
      go_wp2
      exact bodyPost_ret (v:=.tuple #[.agg #[.int .u64 (Leb.low64 (Leb.val (Leb.bt t) (k+1))),.int .i64 ((k:Int)+1),.int .u8 (Leb.bt t k%128)],.int .i64 0]) (by simp [results,Tryd.results81,go_sem, *]) rfl
       ⟨ret_val (lunhide HF),bel_set (bel_set (bel_set (bel_set (bel_set (lunhide HM).bel (by omega)) (by omega)) (Nat.le_refl _)) (Nat.le_refl _)) (Nat.le_refl _)⟩
     ·have HF:Hid (Leb.grp (Leb.bt t) t.size (Leb.most bits)=Leb.grpF (Leb.bt t) t.size (Leb.most bits-(k+1)) (k+1)):=(lunhide HG).trans (Leb.grpF_on _ _ _ _ (by omega) hkt hl)
      clear hco0 hco1 hco2 hfo0 hfo1 hfo2 HG
      go_wp2_with fail
      go_quiet ((go_at_call 89;exact Calls.quiet_of_same (c26 _ _ (lunhide HB))))
      go_wp2_with fail
      refine (c27_on _ _ k t false _ (by omega) (by exact hcs) (by exact hcp) (by exact hfp) hkt (decide_eq_false (by omega))).mono ?_
      rintro e w2 ⟨rfl,rfl⟩
      go_wp2_with fail
      go_region
      generalize hW2:World.drew (World.setCell _ _ _)=W2
      have hmid:RdMid w.heap.size w W2 t k (Leb.low64 (Leb.val (Leb.bt t) (k+1))):=by rw [<- hW2,<- hst];exact (lunhide HI).mid _ _
      clear hW2 hlow hcnt hcs hcp hfp hfr0 hst
      have hcnt:W2.cell? ⟨w.heap.size+1+1+1,1,none⟩=some (.int .i64 k):=cell_of hmid.rd
      have hfr1:W2.frozen? ⟨w.heap.size+1+1+1,1,none⟩=false:=free_of hmid.rd
      have HM:=lhide hmid
      clear hmid
      go_wp2
      go_roundw
      case rel=>exact ⟨k+1,by omega,by omega,(lunhide HM).next,lunhide HF⟩
      case measure=>exact (lunhide HI).lower (lunhide HM).next (by omega)
    ·have hkt':k=t.size:=by omega
     subst hkt'
     have HF:=lhide (rdVal_none (f:=Leb.bt t) ((lunhide HG).trans (Leb.grpF_past _ _ _ _ (by omega))))
     have HM:=lhide ((lunhide HI).bel)
     clear HG
     go_wp2_with fail
     go_quiet ((go_at_call 89;exact Calls.quiet_of_same (c26 _ _ (lunhide HB))))
     go_wp2_with fail
     refine (c27_end _ _ t _ (by exact hcs) (by exact hcp)).mono ?_
     rintro e w2 ⟨rfl,rfl⟩
     go_wp2
     exact bodyPost_ret (v:=.tuple #[.agg #[.int .u64 0,.int .i64 0,.int .u8 0],.int .i64 10]) (by simp [results,Tryd.results81,go_sem, *]) rfl
      ⟨ret_val (lunhide HF),bel_set (bel_set (bel_set (below_drewN (lunhide HM) _) (Nat.le_refl _)) (Nat.le_refl _)) (Nat.le_refl _)⟩
   ·have HF:=lhide (rdVal_none (f:=Leb.bt t) ((lunhide HG).trans (by rw [show Leb.most bits-k=0 by omega];rfl)))
    have HM:=lhide ((lunhide HI).bel)
    clear HG
    go_wp2_with fail
    go_quiet ((go_at_call 89;exact Calls.quiet_of_same (c26 _ _ (lunhide HB))))
    go_wp2
    exact bodyPost_ret (v:=.tuple #[.agg #[.int .u64 0,.int .i64 0,.int .u8 0],.int .i64 10]) (by simp [results,Tryd.results81,go_sem, *]) rfl
     ⟨ret_val (lunhide HF),bel_set (bel_set (bel_set (below_drewN (lunhide HM) _) (Nat.le_refl _)) (Nat.le_refl _)) (Nat.le_refl _)⟩
end Go.Proofs.YthfapccopngfhaaDoor

namespace Go.Proofs.YthfapccopngfhaaDoor
open Go.RowKit
theorem rdVal_pos {f:Nat->Int} {k:Nat} (h:k≠0):rdVal f k=.tuple #[.agg #[.int .u64 (Leb.low64 (Leb.val f k)),.int .i64 k,.int .u8 (f (k-1))],.int .i64 0]:=by unfold rdVal;rw [if_neg h]
theorem bt_from (s:ByteArray) (a:Nat) (ha:a<=s.size):Leb.bt (s.extract a s.size)=Leb.from_ s a:=funext fun i=>bt_extract s a i ha
theorem c21' (s:ByteArray) (a:Nat) (bits:Int) (w:World) (hs:s.size<=140737488351232) (ha:a<=s.size) (hb:bits=32\/bits=64) :
  Calls Tryd.prog 81 #[.string s,.int .i64 a,.int .i64 bits] w fun e w' =>
   e=.returned (rdVal (Leb.from_ s a) (Leb.grp (Leb.from_ s a) (s.size-a) (Leb.most bits)))/\Below w.heap.size w w':=by
 have h:=c21 s _ a bits w hs ha hb rfl
 rw [bt_from s a ha,show (s.extract a s.size).size=s.size-a by simp [ByteArray.size_extract]] at h
 exact h
set_option maxHeartbeats 1000000 in
theorem c14 (s:ByteArray) (a bits:Int) (w:World) (hs:s.size<=140737488351232) :
  Calls Tryd.prog 62 #[.string s,.int .i64 a,.int .i64 bits] w fun e w' =>
   e=.returned (.tuple #[.int .u64 (Leb.uRead s a bits).1,.int .i64 (Leb.uRead s a bits).2.1,.int .i64 (Leb.uRead s a bits).2.2])/\Below w.heap.size w w':=by
 by_cases hask:Leb.asks s.size a bits=true
 ·have hq:=Leb.asks_yes hask
  obtain ⟨hbits,ha0,ha1⟩:=hq
  obtain ⟨a,rfl⟩:=Int.eq_ofNat_of_zero_le ha0
  have hread:Leb.uRead s a bits=Leb.uFin (Leb.from_ s a) (Leb.grp (Leb.from_ s a) (s.size-a) (Leb.most bits)) a bits:=by unfold Leb.uRead;rw [if_pos hask,Int.toNat_natCast];rfl
  rw [hread]
  have ha:a<=s.size:=by omega
  have hks:=Leb.grp_some (Leb.from_ s a) (s.size-a) (Leb.most bits)
  have hc:=c21' s a bits w hs ha hbits
  clear hread ha0 ha1 hask
  generalize Leb.grp (Leb.from_ s a) (s.size-a) (Leb.most bits)=k at *
  by_cases hk0:k=0
  ·have hfin:Leb.uFin (Leb.from_ s a) k a bits=(0,0,10):=by unfold Leb.uFin;rw [if_pos (.inl hk0)]
   rw [hfin]
   rw [rdVal_none hk0] at hc
   have hC:=lhide hc
   clear hc hfin hks hk0
   go_enter Tryd.func62,Tryd.ntmps62
   go_wp2_with fail
   refine (lunhide hC).mono ?_
   rintro e w1 ⟨rfl,hbel⟩
   go_wp2
   go_ret3
   exact ⟨rfl,hbel.alloc hbel.size _⟩
  ·rw [rdVal_pos hk0] at hc
   have hC:=lhide hc
   obtain ⟨k1,k2,k3,k4,k5⟩:=hks hk0
   have hbd:=Leb.from_bd s a (k-1)
   have hsum:(a:Int)+k<=s.size:=by omega
   have hk10:k<=10:=by rcases hbits with rfl|rfl<;>exact Nat.le_trans k2 (by decide)
   generalize hR:Leb.uFin (Leb.from_ s a) k a bits=R
   have hl:=Leb.low64_bd (Leb.val (Leb.from_ s a) k)
   have hR0:(bits=32/\4294967295<Leb.low64 (Leb.val (Leb.from_ s a) k))\/(bits=64/\k=10/\1<Leb.from_ s a (k-1))->R=(0,0,10):=by
    intro h
    rw [<- hR]
    unfold Leb.uFin
    rcases h with ⟨rfl,h⟩|⟨rfl,rfl,h⟩
    ·have hm:k<=5:=k2
     have hv:=Leb.val_9 (Leb.from_ s a) k (by omega)
     rw [Leb.low64_in hv.1 (by omega)] at h
     rw [if_pos (.inr (.inl ⟨rfl,h⟩))]
    ·rw [if_pos (.inr (.inr ⟨rfl,h⟩))]
   have hR1:¬ ((bits=32/\4294967295<Leb.low64 (Leb.val (Leb.from_ s a) k))\/(k=10/\1<Leb.from_ s a (k-1)))->R=(Leb.low64 (Leb.val (Leb.from_ s a) k),(a:Int)+(k:Int),0):=by
    intro h
    rw [<- hR]
    unfold Leb.uFin
    have hv:Leb.low64 (Leb.val (Leb.from_ s a) k)=Leb.val (Leb.from_ s a) k:=by
     by_cases h10:k=10
     ·subst h10
      have h9:¬ 1<Leb.from_ s a 9:=fun h'=>h (.inr ⟨rfl,h'⟩)
      have hv9:=Leb.val_nine (Leb.from_ s a) hbd.1 (by omega)
      exact Leb.low64_in (Leb.val_bd _ _).1 hv9
     ·have hv:=Leb.val_9 (Leb.from_ s a) k (by omega)
      exact Leb.low64_in hv.1 (by omega)
    rw [hv] at h ⊢
    rw [if_neg]
    rintro (h'|⟨h1,h2⟩|⟨rfl,h2⟩)
    ·exact hk0 h'
    ·exact h (.inl ⟨h1,h2⟩)
    ·exact h (.inr ⟨rfl,h2⟩)
   generalize Leb.low64 (Leb.val (Leb.from_ s a) k)=l at *
   generalize Leb.from_ s a (k-1)=d at *
   have hk32:bits=32->k<=5:=by rintro rfl;exact k2
   have hway:(bits=32/\4294967295<l/\Hid (R=(0,0,10)))\/(bits=32/\l<=4294967295/\((k:Int) == 10)=false/\Hid (R=(l,(a:Int)+(k:Int),0))) \/
     (bits=64/\((k:Int) == 10)=false/\Hid (R=(l,(a:Int)+(k:Int),0)))\/(bits=64/\k=10/\1<d/\Hid (R=(0,0,10)))\/(bits=64/\k=10/\d<=1/\Hid (R=(l,(a:Int)+(k:Int),0))):=by
    simp only [beq_eq_false_iff_ne]
    rcases hbits with rfl|rfl
    ·have:=hk32 rfl
     by_cases h:4294967295<l
     ·exact .inl ⟨rfl,h,hR0 (by omega)⟩
     ·exact .inr (.inl ⟨rfl,by omega,by omega,hR1 (by omega)⟩)
    ·by_cases h:k=10
     ·by_cases h':1<d
      ·exact .inr (.inr (.inr (.inl ⟨rfl,h,h',hR0 (by omega)⟩)))
      ·exact .inr (.inr (.inr (.inr ⟨rfl,h,by omega,hR1 (by omega)⟩)))
     ·exact .inr (.inr (.inl ⟨rfl,by omega,hR1 (by omega)⟩))
   clear hk32 hR0 hR1 hks hc hbits hR k2 k5
   rcases hway with ⟨rfl,h1,HR⟩|⟨rfl,h1,h2,HR⟩|⟨rfl,h1,HR⟩|⟨rfl,rfl,h1,HR⟩|⟨rfl,rfl,h1,HR⟩
   all_goals
    go_enter Tryd.func62,Tryd.ntmps62
    go_wp2_with fail
    refine (lunhide hC).mono ?_
    rintro e w1 ⟨rfl,hbel⟩
    go_wp2
    try (go_quiet (fail);go_wp2)
    go_ret3
    exact ⟨lthree_ret (by rw [lunhide HR]<;>rfl),by first|exact hbel.alloc hbel.size _|exact below_drewN (hbel.alloc hbel.size _) _⟩
 ·have hask':Leb.asks s.size a bits=false:=by simpa using hask
  have hread:Leb.uRead s a bits=(0,0,1):=by unfold Leb.uRead;rw [hask'];rfl
  rw [hread]
  clear hread hask
  go_enter Tryd.func62,Tryd.ntmps62
  go_wp2_with fail
  refine (c21_arg _ _ _ _ hask').mono ?_
  rintro e w1 ⟨rfl,hbel⟩
  go_wp2
  go_ret3
  exact ⟨rfl,hbel.alloc hbel.size _⟩
end Go.Proofs.YthfapccopngfhaaDoor


/- Texts that the claim needs. -/
import Derived.Test.YtlcpagiljfpbpaaGreatDoorQELo37
namespace Go.Proofs.YtlcpagiljfpbpaaGreatDoor
open Go.RowKit Rep Enc Go.Lib
set_option linter.unusedVariables false
namespace Enc
theorem intInfo4:(Tryz.prog.info? 3).map (fun i=>(i.zero,i.size,i.bytes))=some (some (.int .i64 0),1,8):=by kernel_rfl
def iC (l:List Int):List Value:=l.map (Value.int .i64)
def RW (w:World) (B:Nat) (v:Value) (l:List Int):Prop:=w.ownsRow B 3 1 v l.length (iC l)
theorem iC_app (a b:List Int):iC (a++b)=iC a++iC b:=by unfold iC;rw [List.map_append]
theorem iC_inj {a b:List Int} (h:iC a=iC b):a=b:=by
 unfold iC at h
 exact (List.map_inj_right (fun x y h=>by injection h)).1 h
theorem RW.slice {w:World} {B:Nat} {v:Value} {l:List Int} (h:RW w B v l):∃o k,v=.slice o l.length k:=by
 rcases h.2 with ⟨rfl,h0⟩|⟨g,cap,cur,rfl,_⟩
 ·rw [h0];exact ⟨_,_,rfl⟩
 ·exact ⟨_,_,rfl⟩
theorem RW.grown {w w':World} {B:Nat} {v:Value} {l:List Int} {row:Option Nat} (h:RW w B v l) (hg:w.grownBy w' row) (hne:v.ownBlock=none\/v.ownBlock≠row):RW w' B v l:=World.ownsRow.kept h hg hne
theorem RW.cells {w:World} {B:Nat} {v:Value} {l:List Int} (h:RW w B v l) (h0:0<l.length):∃g cap,v=.slice (some ⟨g,0,none⟩) l.length cap/\B<=g/\g<w.heap.size/\(∀(i:Nat) (z:Int),l[i]?=some z->w.cell? ⟨g,i,none⟩=some (.int .i64 z))/\(∀i,w.frozen? ⟨g,i,none⟩=false):=by
 rcases h.2 with ⟨rfl,h1⟩|⟨g,cap,cur,rfl,hb,hg,hn,hc,hs,ht⟩
 ·omega
 ·refine ⟨g,cap,rfl,hb,(Array.getElem?_eq_some_iff.1 hg).1,fun i z hz=>?_,fun i=>by unfold World.frozen?;rw [hg];simp⟩
  have hu:(iC l)[i]?=some (.int .i64 z):=by unfold iC;rw [List.getElem?_map,hz];rfl
  rw [cell_of_row w g i cur _ _ hg]
  rw [<- ht,List.getElem?_take] at hu
  split at hu
  ·simpa using hu
  ·cases hu
theorem RW.bump {w:World} {B:Nat} {pre:List Int} {c:Int} {g cap:Nat} (h:RW w B (.slice (some ⟨g,0,none⟩) (pre.length+1) cap) (pre++[c])) (z:Int) :
  RW (w.setCell ⟨g,pre.length,none⟩ (.int .i64 z)) B (.slice (some ⟨g,0,none⟩) (pre.length+1) cap) (pre++[z]):=by
 rcases h.2 with ⟨h1,_⟩|⟨g',cap',cur,h1,hb,hg,hn,hc,hs,ht⟩
 ·cases h1
 ·injection h1 with h2 _ h3
  injection h2 with h2
  injection h2 with h2 _ _
  subst h2 h3
  refine ⟨by unfold iC;simp,.inr ⟨g,cap,cur.setIfInBounds pre.length (.int .i64 z),by simp,hb,heap_setCell_same w g _ cur _ _ hg,by simpa using hn,hc,by rw [Array.size_setIfInBounds];exact hs,?_⟩⟩
  have e1:(pre++[z]).length*1=(pre++[c]).length*1:=by simp
  rw [Array.toList_setIfInBounds,e1,List.take_set,ht,iC_app,iC_app,List.set_append,if_neg (by unfold iC;simp)]
  rw [show pre.length-(iC pre).length=0 by unfold iC;simp]
  rfl
set_option maxRecDepth 100000 in
theorem op_one {w:World} {B:Nat} {v:Value} {l:List Int} {op:Oper} {a:Act} {K:Act->World->Prop} {Q:Exit->Act->World->Prop} (s x:Operand)
  (ho:op.op=.call { callee:=.builtin .append,args:=#[s,x],argTypes:=#[28,28] }) (hown:RW w B v l) (hs:a.eval s=v) (b:Nat) (hx:a.eval x=.slice (some ⟨b,0,none⟩) 1 1) (u:Int) (hb:w.heap[b]?=some (.cells #[.int .i64 u] 3 (0,0)))
  (hn:l.length<=1000000) (hB:B<=w.heap.size) (h:∀v' w',RW w' B v' (l++[u])->w.grownBy w' v.ownBlock->(v'.ownBlock=v.ownBlock\/v'.ownBlock=some w.heap.size)->K (a.put op.dst v') w'):op.wp Tryz.prog a w K Q:=by
 obtain ⟨i0,hi,hz0,hz1,hz2⟩:=info_parts intInfo4
 obtain ⟨v',w',hr,h2,h3,h4⟩:=run_appS (P:=Tryz.prog) w B 28 op.type 3 i0 _ 1 8 Tryz.underlying28 hi hz0 hz1 hz2 rfl (by decide) v l.length (iC l) hown (some ⟨b,0,none⟩) 1 1 [.int .i64 u] (fun h=>by cases h) rfl (fun ad had j y hj=>by
  rw [<- Option.some.inj had,Addr.add_lit,Nat.zero_add,cell_of_row w b j _ _ _ hb]
  show ([Value.int .i64 u].toArray)[j]?=some y
  rw [List.getElem?_toArray];exact hj) (fun y hy=>by rw [List.mem_singleton.1 hy];rfl) (by unfold maxLen;omega) (by omega) hB
 unfold Oper.wp execOp
 simp only [ho,resolve,invoke,builtin,Sem.run_bind,Sem.run_pure,Result.andThen_ok,List.map_toArray,List.map_cons,List.map_nil,hs,hx,hr]
 exact h v' w' (by unfold RW;rw [List.length_append,iC_app];exact h2) h3 h4
def GC (wr:World) (vc vt:Value) (cs ts:List Int) (bF B:Nat) (lv:Value) (bL off j:Nat) (t:Int):Nat->Value->World->Prop
 | 0,v,_=>v=vc
 | 1,v,w=>∃b,v=.slice (some ⟨b,0,none⟩) 1 1/\wr.heap.size<=b/\w.heap[b]?=some (.cells #[.int .i64 1] 3 (0,0))
 | 2,v,w=>RW w B v (cs++[1])/\(v.ownBlock=vc.ownBlock\/∃k,v.ownBlock=some k/\wr.heap.size<=k)
 | 3,v,_=>v=vt
 | 4,v,_=>v=.pointer (some ⟨bF,1,none⟩)
 | 5,v,_=>v=lv
 | 6,v,_=>v=.int .i64 (j:Nat)
 | 7,v,_=>v=.pointer (some ⟨bL,off+j,none⟩)
 | 8,v,_=>v=.int .i64 t
 | 9,v,w=>∃b,v=.slice (some ⟨b,0,none⟩) 1 1/\wr.heap.size<=b/\w.heap[b]?=some (.cells #[.int .i64 t] 3 (0,0))
 | 10,v,w=>RW w B v (ts++[t])/\(v.ownBlock=vt.ownBlock\/∃k,v.ownBlock=some k/\wr.heap.size<=k)
 | _,_,_=>True
def fpC (vc vt:Value):Nat->Option Nat
 | 2=>vc.ownBlock
 | 10=>vt.ownBlock
 | _=>none
def RC (vc vt:Value) (cs ts:List Int) (B:Nat):Nat->World->Prop
 | 2,w=>RW w B vc cs
 | 10,w=>RW w B vt ts
 | _,_=>True
section
variable {wr:World} {vc vt:Value} {cs ts:List Int} {bF B:Nat} {lv:Value} {bL off j:Nat} {t:Int}
theorem fp_other {k:Nat} (h2:k≠2) (h10:k≠10):fpC vc vt k=none:=by
 unfold fpC
 split
 ·exact absurd rfl h2
 ·exact absurd rfl h10
 ·rfl
theorem ne_row {v:Value} {row:Option Nat} (h:∀q,v.ownBlock=some q->row≠some q):v.ownBlock=none\/v.ownBlock≠row:=by
 cases hv:v.ownBlock with
 | none=>exact .inl rfl
 | some q=>exact .inr fun e=>h q hv e.symm
theorem GC_stab (hvc:∀k,vc.ownBlock=some k->k<wr.heap.size) (hvt:∀k,vt.ownBlock=some k->k<wr.heap.size) (hap:∀k,vc.ownBlock=some k->vt.ownBlock≠some k) (i k:Nat) (v:Value) (u u':World) (hi:i<11) (hik:i≠k)
  (hG:GC wr vc vt cs ts bF B lv bL off j t i v u) (hg:u.grownBy u' (fpC vc vt k)):GC wr vc vt cs ts bF B lv bL off j t i v u':=by
 have hfp:∀q,fpC vc vt k=some q->q<wr.heap.size:=fun q hq=>by
  unfold fpC at hq
  split at hq
  ·exact hvc q hq
  ·exact hvt q hq
  ·cases hq
 have hnew:∀b,wr.heap.size<=b->b<u.heap.size->u'.heap[b]?=u.heap[b]?:=fun b h1 h2=>hg.block b h2 (fun e=>by have:=hfp b e.symm;omega)
 have hcase:i=0\/i=1\/i=2\/i=3\/i=4\/i=5\/i=6\/i=7\/i=8\/i=9\/i=10:=by omega
 rcases hcase with rfl|rfl|rfl|rfl|rfl|rfl|rfl|rfl|rfl|rfl|rfl
 ·exact hG
 ·obtain ⟨b,h1,h2,h3⟩:=hG
  exact ⟨b,h1,h2,by rw [hnew b h2 (Array.getElem?_eq_some_iff.1 h3).1];exact h3⟩
 ·refine ⟨hG.1.grown hg (ne_row fun q hq hf=>?_),hG.2⟩
  have hk10:k=10:=by
   rcases Nat.decEq k 10 with h|h
   ·rw [fp_other (fun e=>hik e.symm) h] at hf;cases hf
   ·exact h
  subst hk10
  rcases hG.2 with h|⟨q',h,hq'⟩
  ·exact hap q (h ▸ hq) hf
  ·rw [hq] at h;injection h with h;have:=hvt q hf;omega
 ·exact hG
 ·exact hG
 ·exact hG
 ·exact hG
 ·exact hG
 ·exact hG
 ·obtain ⟨b,h1,h2,h3⟩:=hG
  exact ⟨b,h1,h2,by rw [hnew b h2 (Array.getElem?_eq_some_iff.1 h3).1];exact h3⟩
 ·refine ⟨hG.1.grown hg (ne_row fun q hq hf=>?_),hG.2⟩
  have hk2:k=2:=by
   rcases Nat.decEq k 2 with h|h
   ·rw [fp_other h (fun e=>hik e.symm)] at hf;cases hf
   ·exact h
  subst hk2
  rcases hG.2 with h|⟨q',h,hq'⟩
  ·exact hap q hf (h ▸ hq)
  ·rw [hq] at h;injection h with h;have:=hvc q hf;omega
theorem RC_stab (hap:∀k,vc.ownBlock=some k->vt.ownBlock≠some k) (i k:Nat) (u u':World) (hik:i≠k) (hR:RC vc vt cs ts B i u) (hg:u.grownBy u' (fpC vc vt k)):RC vc vt cs ts B i u':=by
 by_cases h2:i=2
 ·subst h2
  refine RW.grown hR hg (ne_row fun q hq hf=>?_)
  have hk10:k=10:=by
   rcases Nat.decEq k 10 with h|h
   ·rw [fp_other (fun e=>hik e.symm) h] at hf;cases hf
   ·exact h
  subst hk10
  exact hap q hq hf
 ·by_cases h10:i=10
  ·subst h10
   refine RW.grown hR hg (ne_row fun q hq hf=>?_)
   have hk2:k=2:=by
    rcases Nat.decEq k 2 with h|h
    ·rw [fp_other h (fun e=>hik e.symm)] at hf;cases hf
    ·exact h
   subst hk2
   exact hap q hf hq
  ·unfold RC
   split
   ·exact absurd rfl h2
   ·exact absurd rfl h10
   ·trivial
def KC (wb wr:World) (vc vt:Value) (w:World):Prop:=Below wb.heap.size wb w/\wr.heap.size<=w.heap.size/\∀k,k<wr.heap.size->some k≠vc.ownBlock->some k≠vt.ownBlock->w.heap[k]?=wr.heap[k]?
theorem KC_step {wb:World} (hvc:∀k,vc.ownBlock=some k->wb.heap.size<=k) (hvt:∀k,vt.ownBlock=some k->wb.heap.size<=k) (k:Nat) (u u':World) (h:KC wb wr vc vt u) (hg:u.grownBy u' (fpC vc vt k)):KC wb wr vc vt u':=by
 have hcase:fpC vc vt k=none\/fpC vc vt k=vc.ownBlock\/fpC vc vt k=vt.ownBlock:=by
  unfold fpC;split
  ·exact .inr (.inl rfl)
  ·exact .inr (.inr rfl)
  ·exact .inl rfl
 refine ⟨h.1.grown hg h.1.size fun q hq=>?_,Nat.le_trans h.2.1 hg.size,fun q hq h1 h2=>?_⟩
 ·rcases hcase with e|e|e
  ·rw [e] at hq;cases hq
  ·exact hvc q (by rw [<- e];exact hq)
  ·exact hvt q (by rw [<- e];exact hq)
 ·rw [hg.block q (Nat.lt_of_lt_of_le hq h.2.1) (by
   rcases hcase with e|e|e
   ·rw [e];simp
   ·rw [e];exact h1
   ·rw [e];exact h2)]
  exact h.2.2 q hq h1 h2
theorem KC_cell {wb:World} {w:World} (h:KC wb wr vc vt w) {b o:Nat} {x:Value} (hb:b<wb.heap.size) (hvc:∀k,vc.ownBlock=some k->wb.heap.size<=k) (hvt:∀k,vt.ownBlock=some k->wb.heap.size<=k) (hs:wb.heap.size<=wr.heap.size) (hc:wr.cell? ⟨b,o,none⟩=some x):w.cell? ⟨b,o,none⟩=some x:=by
 rw [World.cell?_of_block (a:=⟨b,o,none⟩) (h.2.2 b (by omega) (fun e=>by have:=hvc b e.symm;omega) (fun e=>by have:=hvt b e.symm;omega))]
 exact hc
theorem grown_refl (w:World) (r:Option Nat):w.grownBy w r:=⟨rfl,rfl,rfl,Nat.le_refl _,fun _ _ _=>rfl⟩
end
end Enc
end Go.Proofs.YtlcpagiljfpbpaaGreatDoor


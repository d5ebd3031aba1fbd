/- Texts that the claim needs. -/
import Derived.Test.YtlcpagiljfpbpaaDoorQEUn6
import Derived.Deep.RegionLaw
namespace Go.Proofs.YtlcpagiljfpbpaaDoor
open Go.RowKit Rep
set_option linter.unusedVariables false
namespace Rep
def Blk (w:World) (p:Nat) (op a b n:Int) (v4 v5 v6:Value):Prop:=w.heap[p]?=some (.cells #[.int .i64 op,.int .i64 a,.int .i64 b,.int .i64 n,v4,v5,v6] 50 (0,0))
theorem Blk.new (w:World) (p:Nat) (op a b n:Int) (v4 v5 v6:Value) (hp:p=w.heap.size):Blk (w.alloc (.cells #[.int .i64 op,.int .i64 a,.int .i64 b,.int .i64 n,v4,v5,v6] 50)) p op a b n v4 v5 v6:=by
 subst hp;exact heap_alloc_new w _
theorem Blk.cell {w:World} {p:Nat} {op a b n:Int} {v4 v5 v6:Value} (h:Blk w p op a b n v4 v5 v6) (i:Nat) (v:Value) (hv:#[Value.int .i64 op,.int .i64 a,.int .i64 b,.int .i64 n,v4,v5,v6][i]?=some v):w.cell? ⟨p,i,none⟩=some v:=by
 unfold World.cell?
 rw [h]
 exact hv
theorem Blk.frz {w:World} {p:Nat} {op a b n:Int} {v4 v5 v6:Value} (h:Blk w p op a b n v4 v5 v6) (i:Nat):w.frozen? ⟨p,i,none⟩=false:=by
 unfold World.frozen?
 rw [h]
 simp
theorem Blk.keep {w w':World} {p:Nat} {op a b n:Int} {v4 v5 v6:Value} (h:Blk w p op a b n v4 v5 v6) (hk:w'.heap[p]?=w.heap[p]?):Blk w' p op a b n v4 v5 v6:=by unfold Blk at *;rw [hk];exact h
theorem Blk.set4 {w:World} {p:Nat} {op a b n:Int} {v4 v5 v6:Value} (h:Blk w p op a b n v4 v5 v6) (v:Value):Blk (w.setCell ⟨p,4,none⟩ v) p op a b n v v5 v6:=heap_setCell_same w p 4 _ _ v h
theorem Blk.set5 {w:World} {p:Nat} {op a b n:Int} {v4 v5 v6:Value} (h:Blk w p op a b n v4 v5 v6) (v:Value):Blk (w.setCell ⟨p,5,none⟩ v) p op a b n v4 v v6:=heap_setCell_same w p 5 _ _ v h
theorem Blk.set6 {w:World} {p:Nat} {op a b n:Int} {v4 v5 v6:Value} (h:Blk w p op a b n v4 v5 v6) (v:Value):Blk (w.setCell ⟨p,6,none⟩ v) p op a b n v4 v5 v:=heap_setCell_same w p 6 _ _ v h
theorem Blk.lt {w:World} {p:Nat} {op a b n:Int} {v4 v5 v6:Value} (h:Blk w p op a b n v4 v5 v6):p<w.heap.size:=(Array.getElem?_eq_some_iff.1 h).1
def But (p:Nat) (w w':World):Prop:=w.grownBy w' (some p)
theorem But.below {p:Nat} {w w':World} (h:But p w w'):Below p w w'\/w.heap.size<p:=by
 by_cases hp:p<=w.heap.size
 ·exact .inl ⟨h.os,h.tape,h.output,h.size,fun k hk=>h.block k (by omega) (fun e=>by injection e with e;omega)⟩
 ·exact .inr (by omega)
def Pc (d:Nat):Type:=Ins (IL d) × Value × Value × Value
def pc7 {d:Nat} (p:Pc d):List Value:=[.int .i64 p.1.op,.int .i64 p.1.a,.int .i64 p.1.b,.int .i64 p.1.n,p.2.1,p.2.2.1,p.2.2.2]
def flat7 {d:Nat} (ps:List (Pc d)):List Value:=ps.flatMap pc7
structure PcOk {d:Nat} (w:World) (S:Nat->Prop) (p:Pc d):Prop where
 labels:IntsS w S p.2.1 p.1.labels
 body:AtS w S d p.2.2.1 p.1.body
 els:AtS w S d p.2.2.2 p.1.els
theorem PcOk.keep {d:Nat} {w w':World} {S S':Nat->Prop} (hk:∀k,S k->S' k/\w'.heap[k]?=w.heap[k]?) {p:Pc d} (h:PcOk w S p):PcOk w' S' p:=⟨h.labels.keep hk,AtS.keep hk _ _ _ h.body,AtS.keep hk _ _ _ h.els⟩
theorem flat7_get {d:Nat}:∀(ps:List (Pc d)) (i:Nat) (p:Pc d),ps[i]?=some p->∀k v,(pc7 p)[k]?=some v->(flat7 ps)[i*7+k]?=some v
 | [],_,_,h,_,_,_=>by simp at h
 | q :: r,0,p,h,k,v,hv=>by
  have:q=p:=by simpa using h
  subst this
  show (pc7 q++flat7 r)[0*7+k]?=some v
  have hk:k<(pc7 q).length:=(List.getElem?_eq_some_iff.1 hv).1
  rw [Nat.zero_mul,Nat.zero_add,List.getElem?_append_left hk]
  exact hv
 | q :: r,i+1,p,h,k,v,hv=>by
  have h':r[i]?=some p:=by simpa using h
  show (pc7 q++flat7 r)[(i+1)*7+k]?=some v
  rw [List.getElem?_append_right (by show 7<=_;omega),show (i+1)*7+k-(pc7 q).length=i*7+k by show (i+1)*7+k-7=_;omega]
  exact flat7_get r i p h' k v hv
theorem flat7_one {d:Nat} (ps:List (Pc d)) (h:∀p ∈ ps,p.2.1.oneCell'=true/\p.2.2.1.oneCell'=true/\p.2.2.2.oneCell'=true):∀u ∈ flat7 ps,u.oneCell'=true:=by
 intro u hu
 obtain ⟨p,hp,hu⟩:=List.mem_flatMap.1 hu
 obtain ⟨h1,h2,h3⟩:=h p hp
 simp only [pc7,List.mem_cons,List.mem_nil_iff,or_false] at hu
 rcases hu with rfl|rfl|rfl|rfl|rfl|rfl|rfl
 ·rfl
 ·rfl
 ·rfl
 ·rfl
 ·exact h1
 ·exact h2
 ·exact h3
theorem at_of_row {d:Nat} {w:World} {B:Nat} {t:Value} (l:List (Ins (IL d))) (ps:List (Pc d)) (hm:ps.map (·.1)=l) (hn:l.length<=9223372036854775807) (ho:w.ownsRow B 50 7 t ps.length (flat7 ps)) (hp:∀p ∈ ps,PcOk w (Since B w t.ownBlock) p) :
  AtS w (Since B w none) (d+1) t l:=by
 have hlen:ps.length=l.length:=by rw [<- hm,List.length_map]
 have hup:∀k,Since B w t.ownBlock k->Since B w none k/\w.heap[k]?=w.heap[k]?:=fun k hk=>⟨⟨hk.1,hk.2.1,by simp⟩,rfl⟩
 rcases ho.2 with ⟨rfl,h0⟩|⟨g,cap,cur,rfl,hbg,hg,_,_,_,_⟩
 ·have:l = []:=List.length_eq_zero_iff.1 (by omega)
  subst this
  exact ⟨by simp,.inl ⟨rfl,none,0,rfl⟩⟩
 ·have hgl:g<w.heap.size:=(Array.getElem?_eq_some_iff.1 hg).1
  refine ⟨hn,.inr ⟨g,0,cap,by rw [hlen],fun i x hx=>?_⟩⟩
  have hi:i<ps.length:=by rw [hlen];exact (List.getElem?_eq_some_iff.1 hx).1
  obtain ⟨p,hpi⟩:∃p,ps[i]?=some p:=⟨_,List.getElem?_eq_getElem hi⟩
  have hpx:p.1=x:=by
   have:(ps.map (·.1))[i]?=some p.1:=by rw [List.getElem?_map,hpi];rfl
   rw [hm,hx] at this
   exact (Option.some.inj this).symm
  subst hpx
  have hok:=(hp p (List.mem_of_getElem? hpi)).keep hup
  have hc:∀k v,(pc7 p)[k]?=some v->w.cell? ⟨g,0+i*7+k,none⟩=some v:=fun k v hv=>by
   have:=ho.cells (g:=g) rfl (i*7+k) v (flat7_get ps i p hpi k v hv)
   rw [add_addr] at this
   rw [Nat.add_assoc]
   exact this
  exact ⟨⟨hbg,hgl,by simp⟩,hc 0 _ rfl,hc 1 _ rfl,hc 2 _ rfl,hc 3 _ rfl,⟨_,hc 4 _ rfl,hok.labels⟩,⟨_,hc 5 _ rfl,hok.body⟩,⟨_,hc 6 _ rfl,hok.els⟩⟩
end Rep
def CopyPost (d:Nat) (l:IL d) (w:World) (e:Ending) (w':World):Prop:=∃v',e=.returned v'/\AtS w' (Since w.heap.size w' none) d v' l/\Below w.heap.size w w'
def CopyRow (d:Nat) (l:List (Ins (IL d))) (w:World) (e:Ending) (w':World):Prop:=∃(v':Value) (ps:List (Pc d)),e=.returned v'/\ps.map (·.1)=l/\w'.ownsRow w.heap.size 50 7 v' l.length (flat7 ps)/\(∀p ∈ ps,PcOk w' (Since w.heap.size w' v'.ownBlock) p)/\Below w.heap.size w w'
def CopySays (d:Nat):Prop:=∀(v:Value) (l:IL d) (w:World),At w d v l->Lb d l->Calls Tryd.prog 17 #[v] w (CopyPost d l w)
set_option maxHeartbeats 1000000 in
theorem refCopies0 (o:Option Addr) (cap:Nat) (w:World) :
  Calls Tryd.prog 17 #[.slice o 0 cap] w fun e w'=>e=.returned (.slice none 0 0)/\w'=w:=by
 go_enter Tryd.func17,Tryd.ntmps17
 go_wp2_with fail
 go_loopw [3,4] (fun t i wr=>t=.slice none 0 0/\i=.int .i64 0/\wr=w) (fun _ _ _=>0)
 case atStart=>exact ⟨rfl,rfl,rfl⟩
 case round =>
  obtain ⟨rfl,rfl,rfl⟩:=hrel
  go_wp2
  go_ret
  exact ⟨rfl,rfl⟩
end Go.Proofs.YtlcpagiljfpbpaaDoor

namespace Go.Proofs.YtlcpagiljfpbpaaDoor
open Go.RowKit Rep
set_option linter.unusedVariables false
theorem intInfo:(Tryd.prog.info? 3).map (fun i=>(i.zero,i.size,i.bytes))=some (some (.int .i64 0),1,8):=by kernel_rfl
theorem insInfo:(Tryd.prog.info? 50).map (fun i=>(i.zero,i.size,i.bytes))=some (some (.agg #[.int .i64 0,.int .i64 0,.int .i64 0,.int .i64 0,.slice none 0 0,.slice none 0 0,.slice none 0 0]),7,104):=by kernel_rfl
namespace Rep
theorem ints_cells {w:World} {ad:Addr} {n c:Nat} {l:List Int} (h:Ints w (.slice (some ad) n c) l):∀j u,(l.map fun z=>Value.int .i64 z)[j]?=some u->w.cell? (ad.add j)=some u:=fun j u hj=>by
 rw [List.getElem?_map] at hj
 obtain ⟨z,hz,rfl⟩:=Option.map_eq_some_iff.1 hj
 rcases h.2 with ⟨rfl,_⟩|⟨b,off,cap,hv,hc⟩
 ·simp at hz
 ·injection hv with hv
  injection hv with hv
  subst hv
  have:=hc j z hz
  rw [Nat.mul_one] at this
  rw [add_addr];exact this
theorem ints_none {w:World} {n c:Nat} {l:List Int} (h:Ints w (.slice none n c) l):l = []:=by
 rcases h.2 with ⟨h,_⟩|⟨_,_,_,h,_⟩
 ·exact h
 ·injection h with h;cases h
theorem ints_one (l:List Int):∀u ∈ l.map (fun z=>Value.int .i64 z),u.oneCell'=true:=fun u hu=>by
 obtain ⟨z,_,rfl⟩:=List.mem_map.1 hu;rfl
theorem ints_own {w:World} {B:Nat} {v:Value} {l:List Int} (h:w.ownsRow B 3 1 v l.length (l.map fun z=>Value.int .i64 z)) (hn:l.length<=9223372036854775807):IntsS w (Since B w none) v l:=by
 rcases h.2 with ⟨rfl,h0⟩|⟨g,cap,cur,rfl,hbg,hg,_,_,_,_⟩
 ·obtain rfl:l = []:=List.length_eq_zero_iff.1 h0
  exact ⟨hn,.inl ⟨rfl,none,0,rfl⟩⟩
 ·have hgl:g<w.heap.size:=(Array.getElem?_eq_some_iff.1 hg).1
  refine ⟨hn,.inr ⟨g,0,cap,rfl,fun i x hx=>⟨⟨hbg,hgl,by simp⟩,?_⟩⟩⟩
  have:=h.cells (g:=g) rfl i (.int .i64 x) (by rw [List.getElem?_map,hx];rfl)
  rw [add_addr] at this
  rw [Nat.mul_one];exact this
theorem below_grow1 {w w':World} {o:Obj} (h:(w.alloc o).grownBy w' (Value.slice (some ⟨w.heap.size,0,none⟩) 0 0).ownBlock):Below w.heap.size w w' :=
 ⟨h.os.trans rfl,h.tape.trans rfl,h.output.trans rfl,by have:=h.size;simp at this;omega,fun k hk=>by
  rw [h.block k (by simp;omega) (by show some k≠some w.heap.size;intro e;injection e with e;omega)]
  exact Below.heap_alloc w o k hk⟩
def After (d:Nat) (x:Ins (IL d)) (p:Nat) (v4:Value) (wr wx:World):Prop :=
 ∃v5 v6,Blk wx p x.op x.a x.b x.n v4 v5 v6/\IntsS wx (Since (p+1) wx none) v4 x.labels/\AtS wx (Since (p+1) wx none) d v5 x.body/\AtS wx (Since (p+1) wx none) d v6 x.els/\Below p wr wx
theorem after_mk {d:Nat} {x:Ins (IL d)} {p:Nat} {v4 v5 v6 bv ev:Value} {wr u3 u4 u5:World} (h3:Below p wr u3) (hI:IntsS u3 (Since (p+1) u3 none) v4 x.labels) (hB:Blk u5 p x.op x.a x.b x.n v4 bv ev)
  (h4:Below u3.drew.heap.size u3.drew u4) (h5:Below u4.heap.size u4 u5) (s5:AtS u4 (Since u3.drew.heap.size u4 none) d v5 x.body) (s6:AtS u5 (Since u4.heap.size u5 none) d v6 x.els) (hp:p<u3.heap.size) :
  After d x p v4 wr ((u5.setCell ⟨p,5,none⟩ v5).setCell ⟨p,6,none⟩ v6):=by
 have e3:u3.drew.heap.size=u3.heap.size:=rfl
 have z4:u3.heap.size<=u4.heap.size:=h4.size
 have z5:u4.heap.size<=u5.heap.size:=h5.size
 have set:∀k,k≠p->((u5.setCell ⟨p,5,none⟩ v5).setCell ⟨p,6,none⟩ v6).heap[k]?=u5.heap[k]?:=fun k hk=>by
  rw [Below.heap_setCell _ _ _ _ (by show k≠p;exact hk),Below.heap_setCell _ _ _ _ (by show k≠p;exact hk)]
 have hsz:((u5.setCell ⟨p,5,none⟩ v5).setCell ⟨p,6,none⟩ v6).heap.size=u5.heap.size:=by simp
 refine ⟨v5,v6,(hB.set5 v5).set6 v6,hI.keep fun k hk=>?_,AtS.keep (fun k hk=>?_) _ _ _ s5,AtS.keep (fun k hk=>?_) _ _ _ s6,?_⟩
 ·have:=hk.1
  have h2:=hk.2.1
  refine ⟨⟨hk.1,by rw [hsz];omega,by simp⟩,?_⟩
  rw [set k (by omega),h5.block k (by omega),h4.block k (by rw [e3];omega)]
  rfl
 ·have h1:=hk.1
  have h2:=hk.2.1
  rw [e3] at h1
  refine ⟨⟨by omega,by rw [hsz];omega,by simp⟩,?_⟩
  rw [set k (by omega),h5.block k (by omega)]
 ·have h1:=hk.1
  have h2:=hk.2.1
  refine ⟨⟨by omega,by rw [hsz];omega,by simp⟩,?_⟩
  rw [set k (by omega)]
 ·have h35:Below p wr u5:=(h3.drew.trans (h4.mono (by rw [e3];omega))).trans (h5.mono (by omega))
  exact (h35.setCell (Nat.le_refl _) _).setCell (Nat.le_refl _) _
theorem own_on {w w':World} {B:Nat} {e:TypeId} {size:Nat} {v:Value} {n:Nat} {xs:List Value} (h:w.ownsRow B e size v n xs) (hb:Below w.heap.size w w'):w'.ownsRow B e size v n xs :=
 ⟨h.1,h.2.imp id fun ⟨g,cap,cur,h1,h2,h3,h4⟩=>⟨g,cap,cur,h1,h2,by rw [hb.block g (Array.getElem?_eq_some_iff.1 h3).1];exact h3,h4⟩⟩
def mkPc {d:Nat} (x:Ins (IL d)) (a b c:Value):Pc d:=(x,a,b,c)
theorem flat7_snoc {d:Nat} (ps:List (Pc d)) (p:Pc d):flat7 (ps++[p])=flat7 ps++pc7 p:=by
 unfold flat7;rw [List.flatMap_append];simp
theorem pc7_one {d:Nat} (p:Pc d) (h1:p.2.1.oneCell'=true) (h2:p.2.2.1.oneCell'=true) (h3:p.2.2.2.oneCell'=true):∀u ∈ pc7 p,u.oneCell'=true:=by
 have:=flat7_one [p] (fun q hq=>by rw [List.mem_singleton.1 hq];exact ⟨h1,h2,h3⟩)
 intro u hu
 exact this u (by show u ∈ List.flatMap pc7 [p];simpa using hu)
theorem pc7_cells {d:Nat} {w:World} {g:Nat} {x:Ins (IL d)} {v4 v5 v6:Value} (h:Blk w g x.op x.a x.b x.n v4 v5 v6):∀j u,(pc7 (mkPc x v4 v5 v6))[j]?=some u->w.cell? ((⟨g,0,none⟩:Addr).add j)=some u:=fun j u hj=>by
 rw [add_addr,Nat.zero_add]
 refine h.cell j u ?_
 rw [<- hj]
 exact List.getElem?_toArray
theorem own_slice {w:World} {B:Nat} {e:TypeId} {size:Nat} {v:Value} {n:Nat} {xs:List Value} (h:w.ownsRow B e size v n xs):∃o c,v=.slice o n c:=by
 rcases h.2 with ⟨rfl,rfl⟩|⟨g,cap,cur,rfl,_⟩
 ·exact ⟨none,0,rfl⟩
 ·exact ⟨_,_,rfl⟩
end Rep
set_option maxRecDepth 100000 in
set_option maxHeartbeats 4000000 in
theorem refCopiesR (d:Nat) (IH:CopySays d) (v:Value) (l:List (Ins (IL d))) (w:World) (hA:Row 7 (InsAt w (At w d)) v l) (hL:LbL (Lb d) l) :
  Calls Tryd.prog 17 #[v] w (CopyRow d l w):=by
 obtain ⟨o,cap,rfl⟩:=Row.len hA
 have hln:=hL.1
 have HA:=hideR hA
 have HLL:=hideR hL.2
 have HLN:=hideR hA.1
 clear hA hL
 generalize hn:l.length=n at *
 go_enter Tryd.func17,Tryd.ntmps17
 go_wp2_with fail
 go_loopw [3,4] (fun t i wr=>∃(j:Nat) (ps:List (Pc d)),j<=n/\i=.int .i64 j/\ps.length=j/\(∃o c,t=.slice o j c)/\Hid (ps.map (·.1)=l.take j)/\Hid (wr.ownsRow w.heap.size 50 7 t j (flat7 ps))/\Hid (∀p ∈ ps,PcOk wr (Since w.heap.size wr t.ownBlock) p)/\Hid (Below w.heap.size w wr)) (fun _ i _=>n-(RowKit.intOf i).toNat)
 case atStart=>exact ⟨0,[],by omega,rfl,rfl,⟨none,0,rfl⟩,hideR rfl,hideR (World.ownsRow_nil _ _ _ _),hideR (fun p hp=>by cases hp),hideR (Below.refl _ _)⟩
 case round =>
  obtain ⟨j,ps,hj,rfl,hpl,⟨oT,cT,rfl⟩,HMP,HO,HOK,HP⟩:=hrel
  by_cases hgo:j<n
  ·obtain ⟨b1,off1,cap1,hv1,hx1⟩:=Row.some HA.out (by omega)
   injection hv1 with ho1 e11 e12
   subst ho1
   obtain ⟨x,hxk⟩:∃x,l[j]?=some x:=⟨_,List.getElem?_eq_getElem (by omega)⟩
   have HX:=hideR ((hx1 j x hxk).on HP.out (At.on HP.out d))
   have HXK:=hideR hxk
   obtain ⟨hlab,hlb5,hlb6⟩:=HLL.out x (List.mem_of_getElem? hxk)
   clear hx1 hxk e11 e12
   obtain ⟨g0,g1,g2,g3,⟨lx,g4,ax4⟩,⟨bx,g5,ax5⟩,⟨ex,g6,ax6⟩⟩:=HX.out
   obtain ⟨lxo,lxc,rfl⟩:=Row.len ax4
   obtain ⟨bxo,bxc,rfl⟩:=At.len d bx _ ax5
   obtain ⟨exo,exc,rfl⟩:=At.len d ex _ ax6
   have AX4:=hideR ax4
   have AX5:=hideR ax5
   have AX6:=hideR ax6
   have HBK:=hideR (Blk.new wr wr.heap.size x.op x.a x.b x.n (.slice lxo x.labels.length lxc) (.slice bxo (size d x.body) bxc) (.slice exo (size d x.els) exc) rfl)
   clear ax4 ax5 ax6 HX
   go_upto_region 6 with fail
   obtain ⟨u1,hu1⟩:∃u1,u1=wr.alloc (.cells #[.int .i64 x.op,.int .i64 x.a,.int .i64 x.b,.int .i64 x.n,.slice lxo x.labels.length lxc,.slice bxo (size d x.body) bxc,.slice exo (size d x.els) exc] 50):=⟨_,rfl⟩
   rw [<- hu1] at HBK ⊢
   have HB1:Hid (Below wr.heap.size wr u1):=hideR (by rw [hu1];exact new_on' _ _)
   have HS1:Hid (u1.heap.size=wr.heap.size+1):=hideR (by rw [hu1];simp)
   clear hu1 g0 g1 g2 g3 g4 g5 g6
   obtain ⟨i0,hi,hz0,hz1,hz2⟩:=info_parts intInfo
   have k4:=HBK.out.cell 4 _ rfl
   have f4:=HBK.out.frz 4
   have z0:wr.heap.size<u1.heap.size:=HBK.out.lt
   have HI4:=hideR (AX4.out.on HB1.out)
   have HROW:=hideR (World.ownsRow_made (e:=3) (size:=1) u1 #[] 0 (Nat.le_refl _) (by unfold maxLen;omega) (by simp))
   have HIA:=hideR (fun ad h=>ints_cells (h ▸ (HI4.out.on (new_on' u1 (.cells #[] 3)))):∀ad,lxo=some ad->_)
   have HNO:Hid (lxo=none->x.labels.length=0):=hideR (fun h=>by have:=HI4.out;rw [h] at this;rw [ints_none this];rfl)
   generalize hpp:wr.heap.size=p at *
   go_wp2_with (first|(at_builtin;refine wpList_appS rfl _ _ 28 rfl u1.heap.size 3 i0 _ 1 8 Tryd.underlying28 hi hz0 hz1 hz2 rfl (by decide) _ _ _ rfl HROW.out lxo x.labels.length lxc (x.labels.map fun z=>Value.int .i64 z) rfl HNO.out ?c0 HIA.out ?c2 ?c3 ?c4 ?c5 ?_))
   case c0=>simp
   case c2=>exact ints_one _
   case c3=>unfold maxLen;omega
   case c4=>omega
   case c5=>simp
   intro v4' u2 hown hg _
   have HB2:=hideR (below_grow1 hg)
   have HI4:=hideR (ints_own (l:=x.labels) (by simpa using hown) (by omega))
   obtain ⟨o4,c4,rfl⟩:=own_slice hown
   have HBK:=hideR (HBK.out.keep (HB2.out.block p (by omega)))
   clear hown hg k4 f4 HROW HIA HNO
   have k4:=HBK.out.cell 4 _ rfl
   have f4:=HBK.out.frz 4
   obtain ⟨u3,hu3⟩:∃u3,u3=u2.setCell ⟨p,4,none⟩ (.slice o4 x.labels.length c4):=⟨_,rfl⟩
   have HBK3:Hid (Blk u3 p x.op x.a x.b x.n (.slice o4 x.labels.length c4) (.slice bxo (size d x.body) bxc) (.slice exo (size d x.els) exc)):=hideR (by rw [hu3];exact HBK.out.set4 _)
   have HB3:Hid (Below p wr u3):=hideR (by
    have h12:Below p wr u2:=HB1.out.trans (HB2.out.mono (by omega))
    rw [hu3]
    exact h12.setCell (Nat.le_refl _) _)
   have HI3:Hid (IntsS u3 (Since (p+1) u3 none) (.slice o4 x.labels.length c4) x.labels):=hideR (by
    refine HI4.out.keep fun k hk=>?_
    have h1:=hk.1
    have h2:=HS1.out
    have h3:=hk.2.1
    rw [hu3]
    exact ⟨⟨by omega,by simpa using h3,by simp⟩,Below.heap_setCell _ _ _ _ (by show k≠p;omega)⟩)
   have HS3:Hid (p<u3.heap.size):=hideR HBK3.out.lt
   have HU3:=hideR hu3
   clear hu3
   go_upto_region 7 with fail
   rw [<- HU3.out]
   clear HU3 k4 f4 HBK HI4 HB1 HB2 HS1 z0
   obtain ⟨bv,hbv⟩:∃bv,bv=Value.slice bxo (size d x.body) bxc:=⟨_,rfl⟩
   obtain ⟨ev,hev⟩:∃ev,ev=Value.slice exo (size d x.els) exc:=⟨_,rfl⟩
   rw [<- hbv] at AX5
   rw [<- hev] at AX6
   rw [<- hbv,<- hev] at HBK3
   rw [<- hbv,<- hev]
   clear hbv hev
   have IHb:∀u,Hid (Below p wr u->Calls Tryd.prog 17 #[bv] u (CopyPost d x.body u)):=fun u=>hideR (fun hb=>IH _ x.body u (At.on (hpp ▸ hb) _ _ _ AX5.out) hlb5)
   have IHe:∀u,Hid (Below p wr u->Calls Tryd.prog 17 #[ev] u (CopyPost d x.els u)):=fun u=>hideR (fun hb=>IH _ x.els u (At.on (hpp ▸ hb) _ _ _ AX6.out) hlb6)
   have k5:=HBK3.out.cell 5 _ rfl
   have k6:=HBK3.out.cell 6 _ rfl
   go_cut [5] from 21 to 28 (fun s5 wx=>s5=.pointer (some ⟨p,0,none⟩)/\Hid (After d x p (.slice o4 x.labels.length c4) wr wx))
   case first =>
    go_region_with (first
     | (go_at_call_of 17 bv;refine ((IHb _).out HB3.out.drew).mono ?_;rintro e u4 ⟨v5',rfl,hS5,hB4⟩;obtain ⟨o5,c5,rfl⟩:=At.len d v5' _ (AtS.at d v5' _ hS5);have HBK4:=hideR (HBK3.out.keep (hB4.block p (by simpa using HS3.out)));have k6':=HBK4.out.cell 6 _ rfl)
     | (go_at_call_of 17 ev;refine ((IHe _).out (HB3.out.drew.trans (hB4.mono (by have:=HS3.out;simp;omega)))).mono ?_;rintro e u5 ⟨v6',rfl,hS6,hB5⟩;obtain ⟨o6,c6,rfl⟩:=At.len d v6' _ (AtS.at d v6' _ hS6);have HBK5:=hideR (HBK4.out.keep (hB5.block p HBK4.out.lt));have k5':=HBK5.out.cell 5 _ rfl;have k6'':=HBK5.out.cell 6 _ rfl;have f5:=HBK5.out.frz 5;have f6:=HBK5.out.frz 6))
    all_goals (go_wp2_with fail;go_meet;exact ⟨rfl,hideR (after_mk HB3.out HI3.out HBK5.out hB4 hB5 hS5 hS6 HS3.out)⟩)
   obtain ⟨rfl,HAF⟩:=hcut
   clear IHb IHe k5 k6 HBK3 HI3 HB3 HS3
   obtain ⟨v5,v6,AB,AI,A5,A6,ABel⟩:=HAF.out
   obtain ⟨o5,c5,rfl⟩:=At.len d v5 _ (AtS.at d v5 _ A5)
   obtain ⟨o6,c6,rfl⟩:=At.len d v6 _ (AtS.at d v6 _ A6)
   have hBw:Below wr.heap.size wr wc:=by rw [hpp];exact ABel
   have HBX:=hideR hBw
   have HOX:=hideR (own_on HO.out hBw)
   have HOKX:=hideR (fun q hq=>(HOK.out q hq).keep (since_below hBw))
   have HPX:=hideR (below_go' HP.out hBw)
   have hBp:w.heap.size<=p:=by rw [<- hpp];exact HP.out.size
   have hown':=fun k hk=>(HO.out.lt k hk)
   have HNEW:Hid (PcOk wc (Since w.heap.size wc (Value.slice oT j cT).ownBlock) (mkPc x (.slice o4 x.labels.length c4) (.slice o5 (size d x.body) c5) (.slice o6 (size d x.els) c6))):=hideR (by
    have hup:∀k,Since (p+1) wc none k->Since w.heap.size wc (Value.slice oT j cT).ownBlock k/\wc.heap[k]?=wc.heap[k]?:=fun k hk=>⟨⟨by have:=hk.1;omega,hk.2.1,fun e=>by have:=(hown' k e.symm).2;have:=hk.1;omega⟩,rfl⟩
    exact ⟨AI.keep hup,AtS.keep hup _ _ _ A5,AtS.keep hup _ _ _ A6⟩)
   have HBK:=hideR AB
   clear HO HOK HP AI A5 A6 ABel HAF AB hown' hBw
   have k0:=HBK.out.cell 0 _ rfl
   have k1:=HBK.out.cell 1 _ rfl
   have k2:=HBK.out.cell 2 _ rfl
   have k3:=HBK.out.cell 3 _ rfl
   have k4:=HBK.out.cell 4 _ rfl
   have k5:=HBK.out.cell 5 _ rfl
   have k6:=HBK.out.cell 6 _ rfl
   have HNB:=hideR (Blk.new wc wc.heap.size x.op x.a x.b x.n (.slice o4 x.labels.length c4) (.slice o5 (size d x.body) c5) (.slice o6 (size d x.els) c6) rfl)
   have HO8:=hideR (HOX.out.alloc (.cells #[.int .i64 x.op,.int .i64 x.a,.int .i64 x.b,.int .i64 x.n,.slice o4 x.labels.length c4,.slice o5 (size d x.body) c5,.slice o6 (size d x.els) c6] 50))
   have HB8:=hideR (new_on' wc (.cells #[.int .i64 x.op,.int .i64 x.a,.int .i64 x.b,.int .i64 x.n,.slice o4 x.labels.length c4,.slice o5 (size d x.body) c5,.slice o6 (size d x.els) c6] 50))
   obtain ⟨i1,hi1,hy0,hy1,hy2⟩:=info_parts insInfo
   have HSZ:Hid (w.heap.size<=wc.heap.size):=hideR HPX.out.size
   go_wp2_with (first|(at_builtin;refine wpList_appS rfl _ _ 40 rfl w.heap.size 50 i1 _ 7 104 Tryd.underlying40 hi1 hy0 hy1 hy2 rfl (by decide) _ _ _ rfl HO8.out (some ⟨wc.heap.size,0,none⟩) 1 1 (pc7 (mkPc x (.slice o4 x.labels.length c4) (.slice o5 (size d x.body) c5) (.slice o6 (size d x.els) c6))) rfl ?c6 ?c0 ?c1 ?c2 ?c3 ?c4 ?c5 ?_))
   case c6=>intro h;cases h
   case c0=>rfl
   case c1=>exact fun ad h=>by injection h with h;subst h;exact pc7_cells HNB.out
   case c2=>exact pc7_one _ rfl rfl rfl
   case c3=>unfold maxLen;omega
   case c4=>omega
   case c5=>have:=HSZ.out;simp;omega
   intro v' w9 hown9 hg9 hv9
   have HB9:Hid (Below w.heap.size w w9):=hideR ((HPX.out.alloc HSZ.out _).grown hg9 (by have:=HSZ.out;simp;omega) fun k hk=>(HO8.out.lt k hk).1)
   have HO9:Hid (w9.ownsRow w.heap.size 50 7 v' (j+1) (flat7 (ps++[(mkPc x (.slice o4 x.labels.length c4) (.slice o5 (size d x.body) c5) (.slice o6 (size d x.els) c6))]))):=hideR (by rw [flat7_snoc];exact hown9)
   have HOK9:Hid (∀q ∈ ps++[(mkPc x (.slice o4 x.labels.length c4) (.slice o5 (size d x.body) c5) (.slice o6 (size d x.els) c6))],PcOk w9 (Since w.heap.size w9 v'.ownBlock) q):=hideR (fun q hq=>by
    have key:∀q:Pc d,PcOk wc (Since w.heap.size wc (Value.slice oT j cT).ownBlock) q->PcOk w9 (Since w.heap.size w9 v'.ownBlock) q:=fun q h=>(h.keep (since_below HB8.out)).keep (since_grown hg9 (by simpa using hv9))
    rcases List.mem_append.1 hq with hq|hq
    ·exact key q (HOKX.out q hq)
    ·rw [List.mem_singleton.1 hq];exact key _ HNEW.out)
   have HM9:Hid ((ps++[(mkPc x (.slice o4 x.labels.length c4) (.slice o5 (size d x.body) c5) (.slice o6 (size d x.els) c6))]).map (·.1)=l.take (j+1)):=hideR (by
    rw [List.map_append,HMP.out,List.take_add_one,HXK.out];rfl)
   have hsl:=own_slice hown9
   clear hown9 hg9 hv9 HO8 HOX HOKX HNEW HNB HB8 HBK HPX k0 k1 k2 k3 k4 k5 k6
   obtain ⟨oN,cN,rfl⟩:=hsl
   go_wp2
   go_roundw
   case rel=>exact ⟨j+1,_,by omega,by go_num,by simp [hpl],⟨_,_,rfl⟩,HM9,HO9,HOK9,HB9⟩
   case measure=>simp [RowKit.intOf];omega
  ·obtain rfl:n=j:=by omega
   have HMF:Hid (ps.map (·.1)=l):=hideR (by rw [HMP.out,List.take_of_length_le (by omega)])
   clear HMP
   go_wp2
   go_ret
   exact ⟨_,_,rfl,HMF.out,by rw [hn];exact HO.out,HOK.out,HP.out⟩
theorem refCopiesS (d:Nat) (IH:CopySays d) (v:Value) (l:List (Ins (IL d))) (w:World) (hA:Row 7 (InsAt w (At w d)) v l) (hL:LbL (Lb d) l) :
  Calls Tryd.prog 17 #[v] w (CopyPost (d+1) l w) :=
 (refCopiesR d IH v l w hA hL).mono fun e w' ⟨v',ps,he,hm,ho,hp,hb⟩=>⟨v',he,at_of_row l ps hm hA.1 (by rw [show ps.length=l.length by rw [<- hm,List.length_map]];exact ho) hp,hb⟩
theorem refCopies:∀(d:Nat),CopySays d
 | 0=>fun v l w ⟨o,cap,hv⟩ _=>by
  subst hv
  exact (refCopies0 o cap w).mono fun e w' ⟨h1,h2⟩=>⟨_,h1,⟨none,0,rfl⟩,by rw [h2];exact Below.refl _ _⟩
 | d+1=>fun v l w hA hL=>refCopiesS d (refCopies d) v l w hA hL
end Go.Proofs.YtlcpagiljfpbpaaDoor


/- Texts that the claim needs. -/
import Derived.Test.YtiailkiepndliaaGreatDoorQDWi20
import Derived.Test.YtiailkiepndliaaGreatDoorQDWi2
import Derived.Deep.RegionLaw
import Derived.Test.YtiailkiepndliaaGreatDoorQDWi25
namespace Go.Proofs.YtiailkiepndliaaGreatDoor
open Go.RowKit Rep
set_option linter.unusedVariables false
def CopyPost (d:Nat) (l:IL d) (w:World) (e:Ending) (w':World):Prop:=∃v',e=.returned v'/\AtS w' (Since w.heap.size w' none) d v' l/\Below w.heap.size w w'
def CopyRow (d:Nat) (l:List (Ins (IL d))) (w:World) (e:Ending) (w':World):Prop:=∃(v':Value) (ps:List (Pc d)),e=.returned v'/\ps.map (·.1)=l/\w'.ownsRow w.heap.size 50 7 v' l.length (flat7 ps)/\(∀p ∈ ps,PcOk w' (Since w.heap.size w' v'.ownBlock) p)/\Below w.heap.size w w'
def CopySays (d:Nat):Prop:=∀(v:Value) (l:IL d) (w:World),At w d v l->Lb d l->Calls Tryz.prog 15 #[v] w (CopyPost d l w)
set_option maxHeartbeats 1000000 in
theorem refCopies0 (o:Option Addr) (cap:Nat) (w:World) :
  Calls Tryz.prog 15 #[.slice o 0 cap] w fun e w'=>e=.returned (.slice none 0 0)/\w'=w:=by
 go_enter Tryz.func15,Tryz.ntmps15
 go_wp2_with fail
 go_loopw [3,4] (fun t i wr=>t=.slice none 0 0/\i=.int .i64 0/\wr=w) (fun _ _ _=>0)
 case atStart=>exact ⟨rfl,rfl,rfl⟩
 case round =>
  obtain ⟨rfl,rfl,rfl⟩:=hrel
  go_wp2
  go_ret
  exact ⟨rfl,rfl⟩
end Go.Proofs.YtiailkiepndliaaGreatDoor

namespace Go.Proofs.YtiailkiepndliaaGreatDoor
open Go.RowKit Rep
set_option linter.unusedVariables false
namespace Rep
def After (d:Nat) (x:Ins (IL d)) (p:Nat) (v4:Value) (wr wx:World):Prop :=
 ∃v5 v6,Blk wx p x.op x.a x.b x.n v4 v5 v6/\IntsS wx (Since (p+1) wx none) v4 x.labels/\AtS wx (Since (p+1) wx none) d v5 x.body/\AtS wx (Since (p+1) wx none) d v6 x.els/\Below p wr wx
theorem after_mk {d:Nat} {x:Ins (IL d)} {p:Nat} {v4 v5 v6 bv ev:Value} {wr u3 u4 u5:World} (h3:Below p wr u3) (hI:IntsS u3 (Since (p+1) u3 none) v4 x.labels) (hB:Blk u5 p x.op x.a x.b x.n v4 bv ev)
  (h4:Below u3.drew.heap.size u3.drew u4) (h5:Below u4.heap.size u4 u5) (s5:AtS u4 (Since u3.drew.heap.size u4 none) d v5 x.body) (s6:AtS u5 (Since u4.heap.size u5 none) d v6 x.els) (hp:p<u3.heap.size) :
  After d x p v4 wr ((u5.setCell ⟨p,5,none⟩ v5).setCell ⟨p,6,none⟩ v6):=by
 have e3:u3.drew.heap.size=u3.heap.size:=rfl
 have z4:u3.heap.size<=u4.heap.size:=h4.size
 have z5:u4.heap.size<=u5.heap.size:=h5.size
 have set:∀k,k≠p->((u5.setCell ⟨p,5,none⟩ v5).setCell ⟨p,6,none⟩ v6).heap[k]?=u5.heap[k]?:=fun k hk=>by
  rw [Below.heap_setCell _ _ _ _ (by show k≠p;exact hk),Below.heap_setCell _ _ _ _ (by show k≠p;exact hk)]
 have hsz:((u5.setCell ⟨p,5,none⟩ v5).setCell ⟨p,6,none⟩ v6).heap.size=u5.heap.size:=by simp
 refine ⟨v5,v6,(hB.set5 v5).set6 v6,hI.keep fun k hk=>?_,AtS.keep (fun k hk=>?_) _ _ _ s5,AtS.keep (fun k hk=>?_) _ _ _ s6,?_⟩
 ·have:=hk.1
  have h2:=hk.2.1
  refine ⟨⟨hk.1,by rw [hsz];omega,by simp⟩,?_⟩
  rw [set k (by omega),h5.block k (by omega),h4.block k (by rw [e3];omega)]
  rfl
 ·have h1:=hk.1
  have h2:=hk.2.1
  rw [e3] at h1
  refine ⟨⟨by omega,by rw [hsz];omega,by simp⟩,?_⟩
  rw [set k (by omega),h5.block k (by omega)]
 ·have h1:=hk.1
  have h2:=hk.2.1
  refine ⟨⟨by omega,by rw [hsz];omega,by simp⟩,?_⟩
  rw [set k (by omega)]
 ·have h35:Below p wr u5:=(h3.drew.trans (h4.mono (by rw [e3];omega))).trans (h5.mono (by omega))
  exact (h35.setCell (Nat.le_refl _) _).setCell (Nat.le_refl _) _
end Rep
set_option maxRecDepth 100000 in
set_option maxHeartbeats 4000000 in
theorem refCopiesR (d:Nat) (IH:CopySays d) (v:Value) (l:List (Ins (IL d))) (w:World) (hA:Row 7 (InsAt w (At w d)) v l) (hL:LbL (Lb d) l) :
  Calls Tryz.prog 15 #[v] w (CopyRow d l w):=by
 obtain ⟨o,cap,rfl⟩:=Row.len hA
 have hln:=hL.1
 have HA:=hideR hA
 have HLL:=hideR hL.2
 have HLN:=hideR hA.1
 clear hA hL
 generalize hn:l.length=n at *
 go_enter Tryz.func15,Tryz.ntmps15
 go_wp2_with fail
 go_loopw [3,4] (fun t i wr=>∃(j:Nat) (ps:List (Pc d)),j<=n/\i=.int .i64 j/\ps.length=j/\(∃o c,t=.slice o j c)/\Hid (ps.map (·.1)=l.take j)/\Hid (wr.ownsRow w.heap.size 50 7 t j (flat7 ps))/\Hid (∀p ∈ ps,PcOk wr (Since w.heap.size wr t.ownBlock) p)/\Hid (Below w.heap.size w wr)) (fun _ i _=>n-(RowKit.intOf i).toNat)
 case atStart=>exact ⟨0,[],by omega,rfl,rfl,⟨none,0,rfl⟩,hideR rfl,hideR (World.ownsRow_nil _ _ _ _),hideR (fun p hp=>by cases hp),hideR (Below.refl _ _)⟩
 case round =>
  obtain ⟨j,ps,hj,rfl,hpl,⟨oT,cT,rfl⟩,HMP,HO,HOK,HP⟩:=hrel
  by_cases hgo:j<n
  ·obtain ⟨b1,off1,cap1,hv1,hx1⟩:=Row.some HA.out (by omega)
   injection hv1 with ho1 e11 e12
   subst ho1
   obtain ⟨x,hxk⟩:∃x,l[j]?=some x:=⟨_,List.getElem?_eq_getElem (by omega)⟩
   have HX:=hideR ((hx1 j x hxk).on HP.out (At.on HP.out d))
   have HXK:=hideR hxk
   obtain ⟨hlab,hlb5,hlb6⟩:=HLL.out x (List.mem_of_getElem? hxk)
   clear hx1 hxk e11 e12
   obtain ⟨g0,g1,g2,g3,⟨lx,g4,ax4⟩,⟨bx,g5,ax5⟩,⟨ex,g6,ax6⟩⟩:=HX.out
   obtain ⟨lxo,lxc,rfl⟩:=Row.len ax4
   obtain ⟨bxo,bxc,rfl⟩:=At.len d bx _ ax5
   obtain ⟨exo,exc,rfl⟩:=At.len d ex _ ax6
   have AX4:=hideR ax4
   have AX5:=hideR ax5
   have AX6:=hideR ax6
   have HBK:=hideR (Blk.new wr wr.heap.size x.op x.a x.b x.n (.slice lxo x.labels.length lxc) (.slice bxo (size d x.body) bxc) (.slice exo (size d x.els) exc) rfl)
   clear ax4 ax5 ax6 HX
   go_upto_region 6 with fail
   obtain ⟨u1,hu1⟩:∃u1,u1=wr.alloc (.cells #[.int .i64 x.op,.int .i64 x.a,.int .i64 x.b,.int .i64 x.n,.slice lxo x.labels.length lxc,.slice bxo (size d x.body) bxc,.slice exo (size d x.els) exc] 50):=⟨_,rfl⟩
   rw [<- hu1] at HBK ⊢
   have HB1:Hid (Below wr.heap.size wr u1):=hideR (by rw [hu1];exact new_on' _ _)
   have HS1:Hid (u1.heap.size=wr.heap.size+1):=hideR (by rw [hu1];simp)
   clear hu1 g0 g1 g2 g3 g4 g5 g6
   obtain ⟨i0,hi,hz0,hz1,hz2⟩:=info_parts intInfo
   have k4:=HBK.out.cell 4 _ rfl
   have f4:=HBK.out.frz 4
   have z0:wr.heap.size<u1.heap.size:=HBK.out.lt
   have HI4:=hideR (AX4.out.on HB1.out)
   have HROW:=hideR (World.ownsRow_made (e:=3) (size:=1) u1 #[] 0 (Nat.le_refl _) (by unfold maxLen;omega) (by simp))
   have HIA:=hideR (fun ad h=>ints_cells (h ▸ (HI4.out.on (new_on' u1 (.cells #[] 3)))):∀ad,lxo=some ad->_)
   have HNO:Hid (lxo=none->x.labels.length=0):=hideR (fun h=>by have:=HI4.out;rw [h] at this;rw [ints_none this];rfl)
   generalize hpp:wr.heap.size=p at *
   go_wp2_with (first|(at_builtin;refine wpList_appS rfl _ _ 24 rfl u1.heap.size 3 i0 _ 1 8 Tryz.underlying24 hi hz0 hz1 hz2 rfl (by decide) _ _ _ rfl HROW.out lxo x.labels.length lxc (x.labels.map fun z=>Value.int .i64 z) rfl HNO.out ?c0 HIA.out ?c2 ?c3 ?c4 ?c5 ?_))
   case c0=>simp
   case c2=>exact ints_one _
   case c3=>unfold maxLen;omega
   case c4=>omega
   case c5=>simp
   intro v4' u2 hown hg _
   have HB2:=hideR (below_grow1 hg)
   have HI4:=hideR (ints_own (l:=x.labels) (by simpa using hown) (by omega))
   obtain ⟨o4,c4,rfl⟩:=own_slice hown
   have HBK:=hideR (HBK.out.keep (HB2.out.block p (by omega)))
   clear hown hg k4 f4 HROW HIA HNO
   have k4:=HBK.out.cell 4 _ rfl
   have f4:=HBK.out.frz 4
   obtain ⟨u3,hu3⟩:∃u3,u3=u2.setCell ⟨p,4,none⟩ (.slice o4 x.labels.length c4):=⟨_,rfl⟩
   have HBK3:Hid (Blk u3 p x.op x.a x.b x.n (.slice o4 x.labels.length c4) (.slice bxo (size d x.body) bxc) (.slice exo (size d x.els) exc)):=hideR (by rw [hu3];exact HBK.out.set4 _)
   have HB3:Hid (Below p wr u3):=hideR (by
    have h12:Below p wr u2:=HB1.out.trans (HB2.out.mono (by omega))
    rw [hu3]
    exact h12.setCell (Nat.le_refl _) _)
   have HI3:Hid (IntsS u3 (Since (p+1) u3 none) (.slice o4 x.labels.length c4) x.labels):=hideR (by
    refine HI4.out.keep fun k hk=>?_
    have h1:=hk.1
    have h2:=HS1.out
    have h3:=hk.2.1
    rw [hu3]
    exact ⟨⟨by omega,by simpa using h3,by simp⟩,Below.heap_setCell _ _ _ _ (by show k≠p;omega)⟩)
   have HS3:Hid (p<u3.heap.size):=hideR HBK3.out.lt
   have HU3:=hideR hu3
   clear hu3
   go_upto_region 7 with fail
   rw [<- HU3.out]
   clear HU3 k4 f4 HBK HI4 HB1 HB2 HS1 z0
   obtain ⟨bv,hbv⟩:∃bv,bv=Value.slice bxo (size d x.body) bxc:=⟨_,rfl⟩
   obtain ⟨ev,hev⟩:∃ev,ev=Value.slice exo (size d x.els) exc:=⟨_,rfl⟩
   rw [<- hbv] at AX5
   rw [<- hev] at AX6
   rw [<- hbv,<- hev] at HBK3
   rw [<- hbv,<- hev]
   clear hbv hev
   have IHb:∀u,Hid (Below p wr u->Calls Tryz.prog 15 #[bv] u (CopyPost d x.body u)):=fun u=>hideR (fun hb=>IH _ x.body u (At.on (hpp ▸ hb) _ _ _ AX5.out) hlb5)
   have IHe:∀u,Hid (Below p wr u->Calls Tryz.prog 15 #[ev] u (CopyPost d x.els u)):=fun u=>hideR (fun hb=>IH _ x.els u (At.on (hpp ▸ hb) _ _ _ AX6.out) hlb6)
   have k5:=HBK3.out.cell 5 _ rfl
   have k6:=HBK3.out.cell 6 _ rfl
   go_cut [5] from 21 to 28 (fun s5 wx=>s5=.pointer (some ⟨p,0,none⟩)/\Hid (After d x p (.slice o4 x.labels.length c4) wr wx))
   case first =>
    go_region_with (first
     | (go_at_call_of 15 bv;refine ((IHb _).out HB3.out.drew).mono ?_;rintro e u4 ⟨v5',rfl,hS5,hB4⟩;obtain ⟨o5,c5,rfl⟩:=At.len d v5' _ (AtS.at d v5' _ hS5);have HBK4:=hideR (HBK3.out.keep (hB4.block p (by simpa using HS3.out)));have k6':=HBK4.out.cell 6 _ rfl)
     | (go_at_call_of 15 ev;refine ((IHe _).out (HB3.out.drew.trans (hB4.mono (by have:=HS3.out;simp;omega)))).mono ?_;rintro e u5 ⟨v6',rfl,hS6,hB5⟩;obtain ⟨o6,c6,rfl⟩:=At.len d v6' _ (AtS.at d v6' _ hS6);have HBK5:=hideR (HBK4.out.keep (hB5.block p HBK4.out.lt));have k5':=HBK5.out.cell 5 _ rfl;have k6'':=HBK5.out.cell 6 _ rfl;have f5:=HBK5.out.frz 5;have f6:=HBK5.out.frz 6))
    all_goals (go_wp2_with fail;go_meet;exact ⟨rfl,hideR (after_mk HB3.out HI3.out HBK5.out hB4 hB5 hS5 hS6 HS3.out)⟩)
   obtain ⟨rfl,HAF⟩:=hcut
   clear IHb IHe k5 k6 HBK3 HI3 HB3 HS3
   obtain ⟨v5,v6,AB,AI,A5,A6,ABel⟩:=HAF.out
   obtain ⟨o5,c5,rfl⟩:=At.len d v5 _ (AtS.at d v5 _ A5)
   obtain ⟨o6,c6,rfl⟩:=At.len d v6 _ (AtS.at d v6 _ A6)
   have hBw:Below wr.heap.size wr wc:=by rw [hpp];exact ABel
   have HBX:=hideR hBw
   have HOX:=hideR (own_on HO.out hBw)
   have HOKX:=hideR (fun q hq=>(HOK.out q hq).keep (since_below hBw))
   have HPX:=hideR (below_go' HP.out hBw)
   have hBp:w.heap.size<=p:=by rw [<- hpp];exact HP.out.size
   have hown':=fun k hk=>(HO.out.lt k hk)
   have HNEW:Hid (PcOk wc (Since w.heap.size wc (Value.slice oT j cT).ownBlock) (mkPc x (.slice o4 x.labels.length c4) (.slice o5 (size d x.body) c5) (.slice o6 (size d x.els) c6))):=hideR (by
    have hup:∀k,Since (p+1) wc none k->Since w.heap.size wc (Value.slice oT j cT).ownBlock k/\wc.heap[k]?=wc.heap[k]?:=fun k hk=>⟨⟨by have:=hk.1;omega,hk.2.1,fun e=>by have:=(hown' k e.symm).2;have:=hk.1;omega⟩,rfl⟩
    exact ⟨AI.keep hup,AtS.keep hup _ _ _ A5,AtS.keep hup _ _ _ A6⟩)
   have HBK:=hideR AB
   clear HO HOK HP AI A5 A6 ABel HAF AB hown' hBw
   have k0:=HBK.out.cell 0 _ rfl
   have k1:=HBK.out.cell 1 _ rfl
   have k2:=HBK.out.cell 2 _ rfl
   have k3:=HBK.out.cell 3 _ rfl
   have k4:=HBK.out.cell 4 _ rfl
   have k5:=HBK.out.cell 5 _ rfl
   have k6:=HBK.out.cell 6 _ rfl
   have HNB:=hideR (Blk.new wc wc.heap.size x.op x.a x.b x.n (.slice o4 x.labels.length c4) (.slice o5 (size d x.body) c5) (.slice o6 (size d x.els) c6) rfl)
   have HO8:=hideR (HOX.out.alloc (.cells #[.int .i64 x.op,.int .i64 x.a,.int .i64 x.b,.int .i64 x.n,.slice o4 x.labels.length c4,.slice o5 (size d x.body) c5,.slice o6 (size d x.els) c6] 50))
   have HB8:=hideR (new_on' wc (.cells #[.int .i64 x.op,.int .i64 x.a,.int .i64 x.b,.int .i64 x.n,.slice o4 x.labels.length c4,.slice o5 (size d x.body) c5,.slice o6 (size d x.els) c6] 50))
   obtain ⟨i1,hi1,hy0,hy1,hy2⟩:=info_parts insInfo
   have HSZ:Hid (w.heap.size<=wc.heap.size):=hideR HPX.out.size
   go_wp2_with (first|(at_builtin;refine wpList_appS rfl _ _ 22 rfl w.heap.size 50 i1 _ 7 104 Tryz.underlying22 hi1 hy0 hy1 hy2 rfl (by decide) _ _ _ rfl HO8.out (some ⟨wc.heap.size,0,none⟩) 1 1 (pc7 (mkPc x (.slice o4 x.labels.length c4) (.slice o5 (size d x.body) c5) (.slice o6 (size d x.els) c6))) rfl ?c6 ?c0 ?c1 ?c2 ?c3 ?c4 ?c5 ?_))
   case c6=>intro h;cases h
   case c0=>rfl
   case c1=>exact fun ad h=>by injection h with h;subst h;exact pc7_cells HNB.out
   case c2=>exact pc7_one _ rfl rfl rfl
   case c3=>unfold maxLen;omega
   case c4=>omega
   case c5=>have:=HSZ.out;simp;omega
   intro v' w9 hown9 hg9 hv9
   have HB9:Hid (Below w.heap.size w w9):=hideR ((HPX.out.alloc HSZ.out _).grown hg9 (by have:=HSZ.out;simp;omega) fun k hk=>(HO8.out.lt k hk).1)
   have HO9:Hid (w9.ownsRow w.heap.size 50 7 v' (j+1) (flat7 (ps++[(mkPc x (.slice o4 x.labels.length c4) (.slice o5 (size d x.body) c5) (.slice o6 (size d x.els) c6))]))):=hideR (by rw [flat7_snoc];exact hown9)
   have HOK9:Hid (∀q ∈ ps++[(mkPc x (.slice o4 x.labels.length c4) (.slice o5 (size d x.body) c5) (.slice o6 (size d x.els) c6))],PcOk w9 (Since w.heap.size w9 v'.ownBlock) q):=hideR (fun q hq=>by
    have key:∀q:Pc d,PcOk wc (Since w.heap.size wc (Value.slice oT j cT).ownBlock) q->PcOk w9 (Since w.heap.size w9 v'.ownBlock) q:=fun q h=>(h.keep (since_below HB8.out)).keep (since_grown hg9 (by simpa using hv9))
    rcases List.mem_append.1 hq with hq|hq
    ·exact key q (HOKX.out q hq)
    ·rw [List.mem_singleton.1 hq];exact key _ HNEW.out)
   have HM9:Hid ((ps++[(mkPc x (.slice o4 x.labels.length c4) (.slice o5 (size d x.body) c5) (.slice o6 (size d x.els) c6))]).map (·.1)=l.take (j+1)):=hideR (by
    rw [List.map_append,HMP.out,List.take_add_one,HXK.out];rfl)
   have hsl:=own_slice hown9
   clear hown9 hg9 hv9 HO8 HOX HOKX HNEW HNB HB8 HBK HPX k0 k1 k2 k3 k4 k5 k6
   obtain ⟨oN,cN,rfl⟩:=hsl
   go_wp2
   go_roundw
   case rel=>exact ⟨j+1,_,by omega,by go_num,by simp [hpl],⟨_,_,rfl⟩,HM9,HO9,HOK9,HB9⟩
   case measure=>simp [RowKit.intOf];omega
  ·obtain rfl:n=j:=by omega
   have HMF:Hid (ps.map (·.1)=l):=hideR (by rw [HMP.out,List.take_of_length_le (by omega)])
   clear HMP
   go_wp2
   go_ret
   exact ⟨_,_,rfl,HMF.out,by rw [hn];exact HO.out,HOK.out,HP.out⟩
theorem refCopiesS (d:Nat) (IH:CopySays d) (v:Value) (l:List (Ins (IL d))) (w:World) (hA:Row 7 (InsAt w (At w d)) v l) (hL:LbL (Lb d) l) :
  Calls Tryz.prog 15 #[v] w (CopyPost (d+1) l w) :=
 (refCopiesR d IH v l w hA hL).mono fun e w' ⟨v',ps,he,hm,ho,hp,hb⟩=>⟨v',he,at_of_row l ps hm hA.1 (by rw [show ps.length=l.length by rw [<- hm,List.length_map]];exact ho) hp,hb⟩
theorem refCopies:∀(d:Nat),CopySays d
 | 0=>fun v l w ⟨o,cap,hv⟩ _=>by
  subst hv
  exact (refCopies0 o cap w).mono fun e w' ⟨h1,h2⟩=>⟨_,h1,⟨none,0,rfl⟩,by rw [h2];exact Below.refl _ _⟩
 | d+1=>fun v l w hA hL=>refCopiesS d (refCopies d) v l w hA hL
end Go.Proofs.YtiailkiepndliaaGreatDoor

namespace Go.Proofs.YtiailkiepndliaaGreatDoor
open Go.RowKit Rep
set_option linter.unusedVariables false
namespace Rep
def BlkM (w:World) (b:Nat) (c0 c1 c2 c3 c4 c5 c6 c7 c8 c9:Value):Prop:=w.heap[b]?=some (.cells #[c0,c1,c2,c3,c4,c5,c6,c7,c8,c9] 36 (0,0))
section Blk
variable {w w':World} {b:Nat} {c0 c1 c2 c3 c4 c5 c6 c7 c8 c9:Value}
theorem BlkM.cell (h:BlkM w b c0 c1 c2 c3 c4 c5 c6 c7 c8 c9) (i:Nat) (v:Value) (hv:#[c0,c1,c2,c3,c4,c5,c6,c7,c8,c9][i]?=some v):w.cell? ⟨b,i,none⟩=some v:=by
 unfold World.cell?;rw [h];exact hv
theorem BlkM.frz (h:BlkM w b c0 c1 c2 c3 c4 c5 c6 c7 c8 c9) (i:Nat):w.frozen? ⟨b,i,none⟩=false:=by
 unfold World.frozen?;rw [h];simp
theorem BlkM.keep (h:BlkM w b c0 c1 c2 c3 c4 c5 c6 c7 c8 c9) (hk:w'.heap[b]?=w.heap[b]?):BlkM w' b c0 c1 c2 c3 c4 c5 c6 c7 c8 c9:=by unfold BlkM at *;rw [hk];exact h
theorem BlkM.lt (h:BlkM w b c0 c1 c2 c3 c4 c5 c6 c7 c8 c9):b<w.heap.size:=(Array.getElem?_eq_some_iff.1 h).1
theorem BlkM.on (h:BlkM w b c0 c1 c2 c3 c4 c5 c6 c7 c8 c9) (hb:Below w.heap.size w w'):BlkM w' b c0 c1 c2 c3 c4 c5 c6 c7 c8 c9:=h.keep (hb.block b h.lt)
theorem BlkM.new (hp:b=w.heap.size):BlkM (w.alloc (.cells #[c0,c1,c2,c3,c4,c5,c6,c7,c8,c9] 36)) b c0 c1 c2 c3 c4 c5 c6 c7 c8 c9:=by
 subst hp;exact heap_alloc_new w _
theorem BlkM.set2 (h:BlkM w b c0 c1 c2 c3 c4 c5 c6 c7 c8 c9) (v:Value):BlkM (w.setCell ⟨b,2,none⟩ v) b c0 c1 v c3 c4 c5 c6 c7 c8 c9:=heap_setCell_same w b 2 _ _ v h
theorem BlkM.set5 (h:BlkM w b c0 c1 c2 c3 c4 c5 c6 c7 c8 c9) (v:Value):BlkM (w.setCell ⟨b,5,none⟩ v) b c0 c1 c2 c3 c4 v c6 c7 c8 c9:=heap_setCell_same w b 5 _ _ v h
end Blk
def Stab:Type:={ p:Value->World->Prop // ∀v w w',p v w->Below w.heap.size w w'->p v w' }
def sEq (x:Value):Stab:=⟨fun v _=>v=x,fun _ _ _ h _=>h⟩
structure InsVals {d:Nat} (R:World) (x:Ins (IL d)) (v4 v5 v6:Value):Prop where
 labels:Ints R v4 x.labels
 body:At R d v5 x.body
 els:At R d v6 x.els
theorem InsVals.sub {d:Nat} {R R':World} {x:Ins (IL d)} {v4 v5 v6:Value} (h:InsVals R x v4 v5 v6) (hs:Sub R R'):InsVals R' x v4 v5 v6:=⟨h.labels.sub hs,At.sub hs _ _ _ h.body,At.sub hs _ _ _ h.els⟩
def Gro {α:Type} (w:World) (B b:Nat) (e:TypeId) (c:Nat) (f:World->Nat->Nat->α->Prop) (l:List α) (j:Nat) (t:Value):Prop :=
 ∃ps:List (α × List Value),ps.map (·.1)=l.take j/\ps.length=j/\w.ownsRow B e c t j (flat ps)/\t.ownBlock≠some b/\∀p ∈ ps,Piece (only w (sel B b t)) c f p.1 p.2
section G
variable {α:Type} {w w':World} {B b:Nat} {e:TypeId} {c:Nat} {f:World->Nat->Nat->α->Prop} {l:List α} {j:Nat} {t:Value}
theorem Gro.nil:Gro w B b e c f l 0 (.slice none 0 0):=⟨[],by simp,rfl,by simpa [flat] using World.ownsRow_nil w B e c,by simp [Value.ownBlock],fun p hp=>by cases hp⟩
theorem Gro.below (h:Gro w B b e c f l j t) (hb:Below w.heap.size w w'):Gro w' B b e c f l j t:=by
 obtain ⟨ps,h1,h2,h3,h4,h5⟩:=h
 exact ⟨ps,h1,h2,own_on h3 hb,h4,fun p hp=>(h5 p hp).sub (sub_below hb)⟩
theorem Gro.slice (h:Gro w B b e c f l j t):∃o k,t=.slice o j k:=by
 obtain ⟨ps,h1,h2,h3,h4,h5⟩:=h
 exact own_slice h3
theorem Gro.lt (h:Gro w B b e c f l j t):∀k,t.ownBlock=some k->B<=k/\k<w.heap.size:=by
 obtain ⟨ps,h1,h2,h3,h4,h5⟩:=h
 exact fun k hk=>h3.lt k hk
theorem Gro.set (h:Gro w B b e c f l j t) (i:Nat) (u:Value):Gro (w.setCell ⟨b,i,none⟩ u) B b e c f l j t:=by
 obtain ⟨ps,h1,h2,h3,h4,h5⟩:=h
 refine ⟨ps,h1,h2,?_,h4,fun p hp=>(h5 p hp).sub sub_set⟩
 refine ⟨h3.1,h3.2.imp id fun ⟨g,cap,cur,k1,k2,k3,k4⟩=>⟨g,cap,cur,k1,k2,?_,k4⟩⟩
 rw [Below.heap_setCell _ _ _ _ (by show g≠b;intro e;subst e;exact h4 (by rw [k1];rfl))]
 exact k3
theorem Gro.fin (h:Gro w B b e c f l l.length t) (hn:l.length<=9223372036854775807):Row c (f (only w (sel B b (.slice none 0 0)))) t l:=by
 obtain ⟨ps,h1,h2,h3,h4,h5⟩:=h
 have hm:ps.map (·.1)=l:=by rw [h1,List.take_of_length_le (Nat.le_refl _)]
 rw [<- hm]
 refine row_of_own (S:=sel B b t) ps (by rw [h2];exact h3) h5 (fun k hk=>?_) (fun g hg=>?_) (by omega)
 ·obtain ⟨k1,k2,k3⟩:=sel_iff.1 hk
  exact sel_iff.2 ⟨k1,k2,by simp [Value.ownBlock]⟩
 ·exact sel_iff.2 ⟨(h3.lt g hg).1,fun e=>h4 (by rw [<- e];exact hg),by simp [Value.ownBlock]⟩
end G
structure Five (R:World) {d:Nat} (m:Mod d) (c1 c3 c4 c6 c7:Value):Prop where
 imports:Row 3 (ImpAt R) c1 m.imports
 tables:Row 3 (LimAt R) c3 m.tables
 mems:Row 3 (LimAt R) c4 m.mems
 exports:Row 3 (ExpAt R) c6 m.exports
 start:Ints R c7 m.start
 cap3:∀n c,c3=.slice none n c->c=0
 cap4:∀n c,c4=.slice none n c->c=0
structure St (k:Nat) {d:Nat} (w1 wr:World) (b:Nat) (t:Value) (m:Mod d) (c0 c1 c2 c3 c4 c5 c6 c7 c8:Value):Prop where
 below:Below w1.heap.size w1 wr
 base:w1.heap.size<=b
 five:Five (only wr (sel w1.heap.size b t)) m c1 c3 c4 c6 c7
 types:1<=k->Row 2 (FTAt (only wr (sel w1.heap.size b t))) c0 m.types
 funcs:2<=k->Row 3 (FunAt (only wr (sel w1.heap.size b t)) d) c2 m.funcs
 globals:3<=k->Row 9 (GloAt (only wr (sel w1.heap.size b t)) d) c5 m.globals
 elems:4<=k->Row 8 (ElmAt (only wr (sel w1.heap.size b t)) d) c8 m.elems
section S
variable {k d:Nat} {w1 wr wr':World} {b:Nat} {t t':Value} {m:Mod d} {c0 c1 c2 c3 c4 c5 c6 c7 c8:Value}
theorem St.keep (h : St k w1 wr b t m c0 c1 c2 c3 c4 c5 c6 c7 c8) (hs : Sub (only wr (sel w1.heap.size b t)) (only wr' (sel w1.heap.size b t'))) (hb : Below w1.heap.size w1 wr') : St k w1 wr' b t' m c0 c1 c2 c3 c4 c5 c6 c7 c8 :=
  ⟨hb, h.base, ⟨h.five.imports.imp fun _ _ _ _ => ImpAt.sub hs, h.five.tables.imp fun _ _ _ _ => LimAt.sub hs, h.five.mems.imp fun _ _ _ _ => LimAt.sub hs, h.five.exports.imp fun _ _ _ _ => ExpAt.sub hs, h.five.start.sub hs, h.five.cap3, h.five.cap4⟩,
   fun hk => (h.types hk).imp fun _ _ _ _ => FTAt.sub hs, fun hk => (h.funcs hk).imp fun _ _ _ _ => FunAt.sub hs, fun hk => (h.globals hk).imp fun _ _ _ _ => GloAt.sub hs, fun hk => (h.elems hk).imp fun _ _ _ _ => ElmAt.sub hs⟩
end S
end Rep
end Go.Proofs.YtiailkiepndliaaGreatDoor


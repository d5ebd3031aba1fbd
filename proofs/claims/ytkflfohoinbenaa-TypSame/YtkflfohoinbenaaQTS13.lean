/- Texts that the claim needs. -/
import Derived.Test.YtkflfohoinbenaaQTS10
import Derived.Test.YtkflfohoinbenaaQTS11
import Derived.SizedLaws
namespace Go.Proofs.Ytkflfohoinbenaa
open Go.RowKit Lx Pz Rep Ty
set_option linter.unusedVariables false
namespace Ty
end Ty
namespace Ty
section Of
variable {H:Type} {enc:TypeId × Value->H} {w:World} {base:Nat} {spare:Nat->Bool} {held:Bool} {P:Program}
theorem weightsAll_mem {e:TypeId}:∀ {l:List (DataW H)} {d:DataW H},d ∈ l->∀n ∈ d.weights P e,n ∈ DataW.weightsAll P e l
 | d0 :: l,d,hd,n,hn=>by
  unfold DataW.weightsAll
  rw [List.mem_append]
  rcases List.mem_cons.1 hd with h|h
  ·subst h;exact .inl hn
  ·exact .inr (weightsAll_mem h n hn)
theorem row_of_trodW {α:Type} {t e:TypeId} {v:Value} {x:DataW H × List MemPlace} {fuel:Nat} (c:Nat) (hc:0<c) (f:Nat->Nat->α->Prop) (ht:P.underlying t=some (.slice e)) (hce:P.cellsOf e=c)
  (h:DataW.trod enc P w base spare held fuel t [v]=some x) (hw:∀n ∈ x.1.weights P t,n<=reachBytes)
  (hel:∀n cs y b o,fuel=n+1->DataW.trod enc P w base spare held n e cs=some y->(∀n ∈ y.1.weights P e,n<=reachBytes)->cs.length=c->(∀j,j<c->w.cell? ⟨b,o+j,none⟩=cs[j]?)->∃z,f b o z) :
  ∃l,Row c f v l:=by
 rcases DataW.trod_slice ht h with ⟨hv,_⟩|⟨a,len,cap,elems,rest,n,hfu,hv,hxx,_,hlc,hcm,hlen,hget,_,_⟩
 ·obtain rfl:v=.slice none 0 0:=by simpa using hv
  exact ⟨[],by simp,.inl ⟨rfl,none,0,rfl⟩⟩
 ·obtain rfl:v=.slice (some a) len cap:=by simpa using hv
  have hwe:∀y ∈ elems,∀n ∈ y.1.weights P e,n<=reachBytes:=fun y hy n hn=>hw n (by
   rw [hxx]
   simp only [DataW.weights,ht]
   exact List.mem_cons_of_mem _ (List.mem_append_left _ (weightsAll_mem (List.mem_map_of_mem hy) n hn)))
  by_cases h0:len=0
  ·subst h0
   exact ⟨[],by simp,.inl ⟨rfl,_,_,rfl⟩⟩
  ·have hbind:∀i,i<len->∃cs y,w.cells? base (a.add (i*c)) c=some cs/\DataW.trod enc P w base spare held n e cs=some y/\y ∈ elems:=fun i hi=>by
    have hg:=hget i hi
    rw [hce] at hg
    obtain ⟨y,hy⟩:∃y,elems[i]?=some y:=⟨_,List.getElem?_eq_getElem (by omega)⟩
    rw [hy] at hg
    obtain ⟨cs,h1,h2⟩:=Option.bind_eq_some_iff.1 hg
    exact ⟨cs,y,h1,h2,List.mem_of_getElem? hy⟩
   have hsp:a.spot=none:=by
    obtain ⟨cs,y,h1,h2,_⟩:=hbind 0 (by omega)
    obtain ⟨_,hl,hcell⟩:=World.cells?_some h1
    have h3:=hcell 0 hc
    rw [Nat.zero_mul] at h3
    have:cs[0]?=some (cs[0]'(by omega)):=List.getElem?_eq_getElem (by omega)
    rw [this] at h3
    have:=spot_none h3
    simpa [Addr.add] using this
   obtain ⟨b,off,sp⟩:=a
   simp only at hsp
   subst hsp
   obtain ⟨l,hl,hf⟩:=choose_list len (fun i z=>f b (off+i*c) z) fun i hi=>by
    obtain ⟨cs,y,h1,h2,hy⟩:=hbind i hi
    obtain ⟨_,hl,hcell⟩:=World.cells?_some h1
    refine hel n cs y b (off+i*c) hfu h2 (hwe y hy) hl fun j hj=>?_
    have:=hcell j hj
    rw [add_addr,add_addr] at this
    exact this
   subst hl
   exact ⟨l,by unfold maxLen at hcm;omega,.inr ⟨b,off,cap,rfl,hf⟩⟩
theorem str_fieldW {t:TypeId} {n:Nat} {cs:List Value} {o:Nat} {y:DataW H × List MemPlace} (ht:P.underlying t=some .string) (hc:P.cellsOf t=1) (h:DataW.trod enc P w base spare held n t ((cs.drop o).take (P.cellsOf t))=some y):∃z:ByteArray,cs[o]?=some (.string z)/\y=(.lit (.string z.data.toList),[]):=by
 rw [hc] at h
 obtain ⟨z,h1,h2,_⟩:=DataW.trod_string ht h
 exact ⟨z,take_one h1,h2⟩
theorem reach48 {n:Nat} (h:n<=reachBytes):n<=281474976710656:=by have:=reachBytes_lt;omega
theorem tyC_ofW {n d:Nat} {cs:List Value} {y:DataW H × List MemPlace} (hy:DataW.trod enc Try.prog w base spare held n 34 cs=some y) (hw:∀k ∈ y.1.weights Try.prog 34,k<=reachBytes)
  (ih:∀m v x,n=m+1->DataW.trod enc Try.prog w base spare held m 32 [v]=some x->(∀k ∈ x.1.weights Try.prog 32,k<=reachBytes)->∃l,Row 4 (fun b o t=>TyC 0 w d b o t/\∀e,smT e t) v l):∃k x n es v t,t=nd k x e0 n es [] 0/\cs[0]?=some (.int .i64 k)/\cs[1]?=some (.string x)/\cs[2]?=some (.int .i64 n)/\cs[3]?=some v/\Row 4 (TyC 0 w d) v es/\∀e,smT e t:=by
 obtain ⟨xs,m,hn,hyx,_,hxl,hall⟩:=DataW.trod_struct Try.underlying34 hy
 have hx1:=hall 1 _ rfl
 have hx3:=hall 3 _ rfl
 obtain ⟨y0,g0⟩:=field_get hxl hall 0 _ rfl
 obtain ⟨y1,g1⟩:=field_get hxl hall 1 _ rfl
 obtain ⟨y2,g2⟩:=field_get hxl hall 2 _ rfl
 obtain ⟨y3,g3⟩:=field_get hxl hall 3 _ rfl
 rw [g1] at hx1
 rw [g3] at hx3
 obtain ⟨z0,e0',_⟩:=int_field Try.underlying3 cInt g0
 obtain ⟨z1,e1,hy1⟩:=str_fieldW Try.underlying9 cStr g1
 obtain ⟨z2,e2,_⟩:=int_field Try.underlying3 cInt g2
 obtain ⟨v3,e3,t3⟩:=slice_field Try.underlying32 cTyps g3
 have hmem:∀(j:Nat) (tt:TypeId) (yy:DataW H × List MemPlace),xs[j]?=some yy->([3,9,3,32]:List TypeId)[j]?=some tt->∀k ∈ yy.1.weights Try.prog tt,k<=reachBytes:=fun j tt yy hj htt k hk=>hw k (by
  rw [hyx]
  simp only [DataW.weights,Try.underlying34]
  exact DataW.weights_mem_each (j:=j) htt (by rw [List.getElem?_map,hj];rfl) k hk)
 have hw3:=hmem 3 _ y3 hx3.symm rfl
 obtain ⟨l3,h3⟩:=ih m v3 _ hn t3 hw3
 have hsz:z1.size<=281474976710656:=by
  have:=hmem 1 _ y1 hx1.symm rfl z1.data.toList.length (by rw [hy1];simp [DataW.weights])
  exact reach48 (by simpa using this)
 exact ⟨z0,z1,z2,l3,v3,_,rfl,e0',e1,e2,e3,h3.imp fun b o t _ h=>h.1,smT_nd hsz fun z hz=>row_mem h3 z hz⟩
theorem tys_ofW (fuel:Nat):∀(d:Nat) (v:Value) (x:DataW H × List MemPlace),fuel<=d->DataW.trod enc Try.prog w base spare held fuel 32 [v]=some x->(∀k ∈ x.1.weights Try.prog 32,k<=reachBytes)->∃l,Row 4 (fun b o t=>TyC 0 w d b o t/\∀e,smT e t) v l:=by
 induction fuel using Nat.strongRecOn with
 | _ fuel ih =>
  intro d v x hd h hw
  cases d with
  | zero =>
   obtain rfl:fuel=0:=by omega
   simp [DataW.trod] at h
  | succ d =>
   exact row_of_trodW 4 (by omega) (fun b o t=>TyC 0 w (d+1) b o t/\∀e,smT e t) Try.underlying32 cTyp h hw fun n cs y b o hn hy hwy _ hc=>by
    obtain ⟨k,x,n',es,v',t,ht,h0,h1,h2,h3,h4,h5⟩:=tyC_ofW (d:=d) hy hwy fun m' v x hm hx hwx=>ih m' (by omega) d v x (by omega) hx hwx
    exact ⟨t,⟨Nat.zero_le _,k,x,n',es,v',ht,(hc 0 (by omega)).trans h0,(hc 1 (by omega)).trans h1,(hc 2 (by omega)).trans h2,(hc 3 (by omega)).trans h3,h4⟩,h5⟩
theorem cPair:Try.prog.cellsOf 37=8:=by kernel_rfl
theorem prs_ofW (fuel d:Nat) (v:Value) (x:DataW H × List MemPlace) (hd:fuel<=d) (h:DataW.trod enc Try.prog w base spare held fuel 22 [v]=some x) (hw:∀k ∈ x.1.weights Try.prog 22,k<=reachBytes):∃l,Row 8 (fun b o z=>PrC w d b o z/\(∀e,smT e z.1)/\∀e,smT e z.2) v l:=by
 refine row_of_trodW 8 (by omega) (fun b o z=>PrC w d b o z/\(∀e,smT e z.1)/\∀e,smT e z.2) Try.underlying22 cPair h hw fun n cs y b o hn hy hwy _ hc=>?_
 obtain ⟨xs,m,hn2,hyx,_,hxl,hall⟩:=DataW.trod_struct Try.underlying37 hy
 have hx0:=hall 0 _ rfl
 have hx1:=hall 1 _ rfl
 obtain ⟨y0,g0⟩:=field_get hxl hall 0 _ rfl
 obtain ⟨y1,g1⟩:=field_get hxl hall 1 _ rfl
 rw [g0] at hx0
 rw [g1] at hx1
 have hmem:∀(j:Nat) (tt:TypeId) (yy:DataW H × List MemPlace),xs[j]?=some yy->([34,34]:List TypeId)[j]?=some tt->∀k ∈ yy.1.weights Try.prog tt,k<=reachBytes:=fun j tt yy hj htt k hk=>hwy k (by
  rw [hyx]
  simp only [DataW.weights,Try.underlying37]
  exact DataW.weights_mem_each (j:=j) htt (by rw [List.getElem?_map,hj];rfl) k hk)
 obtain ⟨k,x,n',es,v',t,ht,h0,h1,h2,h3,h4,h5⟩:=tyC_ofW (d:=d) g0 (hmem 0 _ y0 hx0.symm rfl) fun m' v x hm hx hwx=>tys_ofW m' d v x (by omega) hx hwx
 obtain ⟨k2,x2,n2,es2,v2,t2,ht2,l0,l1,l2,l3,l4,l5⟩:=tyC_ofW (d:=d) g1 (hmem 1 _ y1 hx1.symm rfl) fun m' v x hm hx hwx=>tys_ofW m' d v x (by omega) hx hwx
 have cut:∀(o' j:Nat),j<4->((cs.drop o').take (Try.prog.cellsOf 34))[j]?=cs[o'+j]?:=fun o' j hj=>by
  rw [cTyp,List.getElem?_take_of_lt hj,List.getElem?_drop]
 have a0:=(cut 0 0 (by omega)).symm.trans h0
 have a1:=(cut 0 1 (by omega)).symm.trans h1
 have a2:=(cut 0 2 (by omega)).symm.trans h2
 have a3:=(cut 0 3 (by omega)).symm.trans h3
 have b0:=(cut 4 0 (by omega)).symm.trans l0
 have b1:=(cut 4 1 (by omega)).symm.trans l1
 have b2:=(cut 4 2 (by omega)).symm.trans l2
 have b3:=(cut 4 3 (by omega)).symm.trans l3
 exact ⟨(t,t2),⟨⟨Nat.zero_le _,k,x,n',es,v',ht,(hc 0 (by omega)).trans a0,(hc 1 (by omega)).trans a1,(hc 2 (by omega)).trans a2,(hc 3 (by omega)).trans a3,h4⟩,⟨Nat.zero_le _,k2,x2,n2,es2,v2,ht2,(hc 4 (by omega)).trans b0,(hc 5 (by omega)).trans b1,(hc 6 (by omega)).trans b2,(hc 7 (by omega)).trans b3,l4⟩⟩,h5,l5⟩
end Of
end Ty
namespace Ty
section Of
variable {H:Type} {enc:TypeId × Value->H} {w:World} {base:Nat} {spare:Nat->Bool} {held:Bool}
theorem pr_ofW {fuel d:Nat} {v0 v1 v2 v3 v4 v5 v6 v7:Value} {x:DataW H × List MemPlace} (hd:fuel<=d) (h:DataW.trod enc Try.prog w base spare held fuel 37 [v0,v1,v2,v3,v4,v5,v6,v7]=some x) (hw:∀k ∈ x.1.weights Try.prog 37,k<=reachBytes):∃A B ka xa na ua kb xb nb ub,v0=.int .i64 ka/\v1=.string xa/\v2=.int .i64 na/\v3=ua/\v4=.int .i64 kb/\v5=.string xb/\v6=.int .i64 nb/\v7=ub/\TyV 0 d w A (.agg #[.int .i64 ka,.string xa,.int .i64 na,ua])/\TyV 0 d w B (.agg #[.int .i64 kb,.string xb,.int .i64 nb,ub])/\(∀e,smT e A)/\∀e,smT e B:=by
 obtain ⟨xs,m,hn2,hyx,_,hxl,hall⟩:=DataW.trod_struct Try.underlying37 h
 have hx0:=hall 0 _ rfl
 have hx1:=hall 1 _ rfl
 obtain ⟨y0,g0⟩:=field_get hxl hall 0 _ rfl
 obtain ⟨y1,g1⟩:=field_get hxl hall 1 _ rfl
 rw [g0] at hx0
 rw [g1] at hx1
 have hmem:∀(j:Nat) (tt:TypeId) (yy:DataW H × List MemPlace),xs[j]?=some yy->([34,34]:List TypeId)[j]?=some tt->∀k ∈ yy.1.weights Try.prog tt,k<=reachBytes:=fun j tt yy hj htt k hk=>hw k (by
  rw [hyx]
  simp only [DataW.weights,Try.underlying37]
  exact DataW.weights_mem_each (j:=j) htt (by rw [List.getElem?_map,hj];rfl) k hk)
 obtain ⟨k,x,n',es,v',t,ht,h0,h1,h2,h3,h4,h5⟩:=tyC_ofW (d:=d) g0 (hmem 0 _ y0 hx0.symm rfl) fun m' v x hm hx hwx=>tys_ofW m' d v x (by omega) hx hwx
 obtain ⟨k2,x2,n2,es2,v2',t2,ht2,l0,l1,l2,l3,l4,l5⟩:=tyC_ofW (d:=d) g1 (hmem 1 _ y1 hx1.symm rfl) fun m' v x hm hx hwx=>tys_ofW m' d v x (by omega) hx hwx
 have cut:∀(cs:List Value) (o' j:Nat),j<4->((cs.drop o').take (Try.prog.cellsOf 34))[j]?=cs[o'+j]?:=fun cs o' j hj=>by
  rw [cTyp,List.getElem?_take_of_lt hj,List.getElem?_drop]
 have a0:=(cut _ 0 0 (by omega)).symm.trans h0
 have a1:=(cut _ 0 1 (by omega)).symm.trans h1
 have a2:=(cut _ 0 2 (by omega)).symm.trans h2
 have a3:=(cut _ 0 3 (by omega)).symm.trans h3
 have b0:=(cut _ 4 0 (by omega)).symm.trans l0
 have b1:=(cut _ 4 1 (by omega)).symm.trans l1
 have b2:=(cut _ 4 2 (by omega)).symm.trans l2
 have b3:=(cut _ 4 3 (by omega)).symm.trans l3
 exact ⟨t,t2,k,x,n',v',k2,x2,n2,v2',Option.some.inj a0,Option.some.inj a1,Option.some.inj a2,Option.some.inj a3,Option.some.inj b0,Option.some.inj b1,Option.some.inj b2,Option.some.inj b3,⟨k,x,n',es,v',ht,rfl,h4⟩,⟨k2,x2,n2,es2,v2',ht2,rfl,l4⟩,h5,l5⟩
end Of
end Ty
end Go.Proofs.Ytkflfohoinbenaa

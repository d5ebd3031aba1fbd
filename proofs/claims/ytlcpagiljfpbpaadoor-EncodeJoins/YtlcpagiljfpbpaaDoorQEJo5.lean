/- Texts that the claim needs. -/
import Derived.Test.YtlcpagiljfpbpaaDoorQEJo4
import Derived.Test.YtlcpagiljfpbpaaDoorQEJo3
namespace Go.Proofs.YtlcpagiljfpbpaaDoor
open Go.RowKit Rep
set_option linter.unusedVariables false
set_option maxHeartbeats 2000000 in
theorem pWalkMD {σ:Type} (w0:World) (S:Nat->Prop) (hS:∀k,S k->w0.heap.size<=k) (Inv:σ->World->Prop) (hI:∀s w w',Below w.heap.size w w'->Inv s w->Inv s w')
  (step:σ->Sn->Nat->Option σ) (k:Int) (see:SeeC 32 (fun x y=>#[x,y]) w0 S Inv step k) (d:Nat) (hd:d<=4611686018427387904)
  (v0 v1 v2 v3 v4 v5 v6 v7 v8 v9:Value) (l:List (Fun d)) (s:σ) (w:World) (hAt:Row 3 (FunAt w0 d) v2 l) (hT:TenSlices v0 v1 v3 v4 v5 v6 v7 v8 v9) (hb:Below w0.heap.size w0 w) (hs:Inv s w) (hS2:∀k,S k->k<w.heap.size) :
  Calls Tryd.prog 26 #[.agg #[v0,v1,v2,v3,v4,v5,v6,v7,v8,v9],.func (.func 32) #[] #[]] w fun e w' =>
   Kp S w w'/\((∃s',goF step d l s=some s'/\e=.returned (.tuple #[])/\Inv s' w')\/(goF step d l s=none/\e=.panicked (gave k))):=by
 have hlen:=hAt.1
 obtain ⟨o,cap2,hv⟩:=Row.len hAt
 have hx:=Row.some hAt
 subst hv
 obtain ⟨⟨o0,m0,c0,rfl⟩,⟨o1,m1,c1,rfl⟩,⟨o3,m3,c3,rfl⟩,⟨o4,m4,c4,rfl⟩,⟨o5,m5,c5,rfl⟩,⟨o6,m6,c6,rfl⟩,⟨o7,m7,c7,rfl⟩,⟨o8,m8,c8,rfl⟩,⟨o9,m9,c9,rfl⟩⟩:=hT
 obtain ⟨R,hR⟩:∃R,R=goF step d l s:=⟨_,rfl⟩
 rw [<- hR]
 have HR:Hid (R=goF step d (l.drop 0) s):=hR
 have HX:=hideM hx
 clear hx hAt hR
 generalize hn:l.length=n at *
 have HWk:=hideM (pWalkD w0 S hS Inv hI step k see d)
 have HI:=hideM hI
 have HS:=hideM hS
 have HS2:=hideM hS2
 have HB:=hideM hb
 have Hs:=hideM hs
 clear see hI hS hb hs hS2
 go_enter Tryd.func26,Tryd.ntmps26
 go_wp2_with fail
 go_loopw [9] (fun i wr=>∃(j:Nat) (sj:σ),j<=n/\i=.int .i64 j/\Hid (R=goF step d (l.drop j) sj)/\Hid (Kp S w wr)/\Hid (Inv sj wr)) (fun i _=>n-(RowKit.intOf i).toNat)
 case atStart=>exact ⟨0,s,by omega,rfl,HR,(Kp.refl S w).alloc _,HI.out _ _ _ ((Below.refl _ w).alloc (Nat.le_refl _) _) Hs.out⟩
 case round =>
  obtain ⟨j,sj,hj,rfl,HK,HKP,HSJ⟩:=hrel
  by_cases hgo:j<n
  ·obtain ⟨b,off,cap3,hv2,hx⟩:=HX.out (by omega)
   injection hv2 with ho h2 h3
   subst ho
   obtain ⟨x,hxk⟩:∃x,l[j]?=some x:=⟨_,List.getElem?_eq_getElem (by omega)⟩
   have hbr:=Kp.below HS.out HB.out HKP.out
   have hx':=(hx j x hxk).on hbr
   have c0:=hx'.type
   obtain ⟨lv,c1,a1⟩:=hx'.locals
   obtain ⟨bv',c2',a2⟩:=(hx j x hxk).body
   have c2:=cell_on hbr c2'
   have HN:=hideM (HK.out.trans (goF_on hxk))
   obtain ⟨lo,lc,rfl⟩:=Row.len a1
   obtain ⟨bo,bc,rfl⟩:=At.len d bv' x.body a2
   generalize hnb:size d x.body=nb at *
   generalize hnl:x.locals.length=nl at *
   have A2:=hideM a2
   clear hx' h2 h3 HX a1 a2 hxk hnb hnl hbr hx c2' HK
   go_upto_region 4 with fail
   obtain ⟨wa,hwa⟩:∃wa,wa=wr.alloc (Obj.cells #[.int .i64 x.type,.slice lo nl lc,.slice bo nb bc] 42):=⟨_,rfl⟩
   rw [<- hwa]
   have hsz:wa.heap.size=wr.heap.size+1:=by rw [hwa];exact size_alloc _ _
   have n2:wa.cell? ⟨wr.heap.size,2,none⟩=some (.slice bo nb bc):=by rw [hwa];exact new_cell _ _ _ _ _ rfl
   have hka:Hid (Kp S w wa):=by rw [hwa];exact HKP.out.alloc _
   have hra:Below wr.heap.size wr wa:=by rw [hwa];exact (Below.refl _ wr).alloc (Nat.le_refl _) _
   have HRA:=hideM hra
   clear hwa hra c0 c1 c2
   go_wp2_with fail
   refine (HWk.out _ x.body 0 sj wa A2.out (Kp.below HS.out HB.out hka.out) (HI.out _ _ _ HRA.out HSJ.out) (fun q hq=>Nat.lt_of_lt_of_le (HS2.out q hq) hka.out.size) (by omega)).mono ?_
   rintro e u ⟨hk1,hcase⟩
   have hku:=hideM (hka.out.trans hk1)
   clear hk1
   rcases hcase with ⟨s1,e1,rfl,i1⟩|⟨e1,rfl⟩
   ·have HF:Hid (R=goF step d (l.drop (j+1)) s1):=by
     have:=HN.out;rw [e1,Option.bind_some] at this;exact this
    have I1:=hideM i1
    clear i1 e1
    go_wp2
    go_roundw
    case rel=>exact ⟨j+1,s1,by omega,by go_num,HF,hku,I1⟩
    case measure=>simp [RowKit.intOf];omega
   ·have HF:R=none:=by
     have:=HN.out;rw [e1,Option.bind_none] at this;exact this
    go_wp2
    exact ⟨rfl,hku.out,.inr ⟨HF,rfl⟩⟩
  ·have HE:R=some sj:=HK.out.trans (goF_end (by omega))
   have HEE:=hideM HE
   clear HE HK
   go_wp2
   go_end0
   exact ⟨HKP.out,.inl ⟨sj,HEE.out,rfl,HSJ.out⟩⟩
end Go.Proofs.YtlcpagiljfpbpaaDoor

namespace Go.Proofs.YtlcpagiljfpbpaaDoor
open Go.RowKit Rep
set_option linter.unusedVariables false
namespace Rep
def okS (x:Sn):Bool:=okF (form x.op) x.op x.a x.b x.n x.labels x.nb x.ne
def cst (op:Int):Bool:=op == 65 || op == 66 || op == 35
end Rep
def stepForm (_:Unit) (x:Sn) (_:Nat):Option Unit:=if okS x=true then some () else none
set_option maxHeartbeats 1000000 in
theorem seeForm {I:World->Prop} (C:FormC I) (w0:World):SeeC 32 (fun x y=>#[x,y]) w0 (fun _=>False) (fun (_:Unit) w=>I w) stepForm 30:=by
 intro s x lv bv ev dep w hb hI hl hbv hev hd
 obtain ⟨lo,lc,rfl⟩:=Row.len hl
 obtain ⟨bo,bc,rfl⟩:=hbv
 obtain ⟨eo,ec,rfl⟩:=hev
 generalize hS:stepForm s x dep=R
 unfold stepForm okS at hS
 have HS:=hideM hS
 have HC:=fun (w':World) (h:Below w.heap.size w w')=>pneedForm C x.op x.a x.b x.n x.labels lo bo eo x.nb x.ne lc bc ec w' (C.keep h hI) (hl.on h)
 have HCC:=hideM HC
 have HII:=hideM hI
 clear HC hS hI hl hb
 generalize okF (form x.op) x.op x.a x.b x.n x.labels x.nb x.ne=r at *
 generalize x.labels.length=nl at *
 go_enter Tryd.func32,Tryd.ntmps32
 go_wp2_with fail
 have hw:=(Below.refl w.heap.size w).alloc (Nat.le_refl _) (Obj.cells #[.int .i64 x.op,.int .i64 x.a,.int .i64 x.b,.int .i64 x.n,.slice lo nl lc,.slice bo x.nb bc,.slice eo x.ne ec] 50)
 refine (HCC.out _ hw).mono ?_
 rintro e u ⟨hN,hb2⟩
 have HB2:=hideM (below_go hw hb2)
 clear hb2 hw HCC
 rcases hN with ⟨rfl,rfl⟩|⟨rfl,rfl⟩
 ·have HR:Hid (R=some ()):=by have:=HS.out;rw [if_pos rfl] at this;exact this.symm
  clear HS
  go_wp2
  go_end0
  exact ⟨Kp.of_below HB2.out,.inl ⟨(),HR.out,rfl,C.keep HB2.out HII.out⟩⟩
 ·have HR:Hid (R=none):=by have:=HS.out;rw [if_neg (by decide)] at this;exact this.symm
  clear HS
  go_wp2
  exact ⟨rfl,Kp.of_below HB2.out,.inr ⟨HR.out,rfl⟩⟩
set_option maxHeartbeats 1000000 in
theorem pneedConstanta {I:World->Prop} (C:FormC I) (op a b n:Int) (ls:List Int) (lo bo eo:Option Addr) (nb ne lc bc ec:Nat) (w:World) (d1:(op == 65)=true) (hI:I w) (hl:Ints w (.slice lo ls.length lc) ls) :
  Calls Tryd.prog 57 #[.agg #[.int .i64 op,.int .i64 a,.int .i64 b,.int .i64 n,.slice lo ls.length lc,.slice bo nb bc,.slice eo ne ec]] w fun e w'=>Needs (okF (form op) op a b n ls nb ne) 30 e/\Below w.heap.size w w':=by
 have HCC:=hideM fun (w':World) (h:Below w.heap.size w w')=>pneedForm C op a b n ls lo bo eo nb ne lc bc ec w' (C.keep h hI) (hl.on h)
 clear hl hI
 generalize okF (form op) op a b n ls nb ne=r at *
 generalize ls.length=nl at *
 go_enter Tryd.func57,Tryd.ntmps57
 go_wp2_with fail
 refine (pNeed true _ _).mono ?_
 rintro e u2 ⟨hN,rfl⟩
 obtain rfl:=hN.yes
 go_wp2_with fail
 have hw:=(Below.refl w.heap.size w).alloc (Nat.le_refl _) (Obj.cells #[.int .i64 op,.int .i64 a,.int .i64 b,.int .i64 n,.slice lo nl lc,.slice bo nb bc,.slice eo ne ec] 50)
 refine (HCC.out _ hw).mono ?_
 rintro e u ⟨hN,hb2⟩
 have HB2:=hideM (below_go hw hb2)
 clear hb2 hw HCC
 rcases hN with ⟨rfl,rfl⟩|⟨rfl,rfl⟩
 ·go_wp2
  go_end0
  exact ⟨.inl ⟨rfl,rfl⟩,HB2.out⟩
 ·go_wp2
  exact ⟨rfl,.inr ⟨rfl,rfl⟩,HB2.out⟩
set_option maxHeartbeats 1000000 in
theorem pneedConstantb {I:World->Prop} (C:FormC I) (op a b n:Int) (ls:List Int) (lo bo eo:Option Addr) (nb ne lc bc ec:Nat) (w:World) (d1:(op == 65)=false) (d2:(op == 66)=true) (hI:I w) (hl:Ints w (.slice lo ls.length lc) ls) :
  Calls Tryd.prog 57 #[.agg #[.int .i64 op,.int .i64 a,.int .i64 b,.int .i64 n,.slice lo ls.length lc,.slice bo nb bc,.slice eo ne ec]] w fun e w'=>Needs (okF (form op) op a b n ls nb ne) 30 e/\Below w.heap.size w w':=by
 have HCC:=hideM fun (w':World) (h:Below w.heap.size w w')=>pneedForm C op a b n ls lo bo eo nb ne lc bc ec w' (C.keep h hI) (hl.on h)
 clear hl hI
 generalize okF (form op) op a b n ls nb ne=r at *
 generalize ls.length=nl at *
 go_enter Tryd.func57,Tryd.ntmps57
 go_wp2_with fail
 refine (pNeed true _ _).mono ?_
 rintro e u2 ⟨hN,rfl⟩
 obtain rfl:=hN.yes
 go_wp2_with fail
 have hw:=(Below.refl w.heap.size w).alloc (Nat.le_refl _) (Obj.cells #[.int .i64 op,.int .i64 a,.int .i64 b,.int .i64 n,.slice lo nl lc,.slice bo nb bc,.slice eo ne ec] 50)
 refine (HCC.out _ hw).mono ?_
 rintro e u ⟨hN,hb2⟩
 have HB2:=hideM (below_go hw hb2)
 clear hb2 hw HCC
 rcases hN with ⟨rfl,rfl⟩|⟨rfl,rfl⟩
 ·go_wp2
  go_end0
  exact ⟨.inl ⟨rfl,rfl⟩,HB2.out⟩
 ·go_wp2
  exact ⟨rfl,.inr ⟨rfl,rfl⟩,HB2.out⟩
set_option maxHeartbeats 1000000 in
theorem pneedConstantc {I:World->Prop} (C:FormC I) (op a b n:Int) (ls:List Int) (lo bo eo:Option Addr) (nb ne lc bc ec:Nat) (w:World) (d1:(op == 65)=false) (d2:(op == 66)=false) (d3:(op == 35)=true) (hI:I w) (hl:Ints w (.slice lo ls.length lc) ls) :
  Calls Tryd.prog 57 #[.agg #[.int .i64 op,.int .i64 a,.int .i64 b,.int .i64 n,.slice lo ls.length lc,.slice bo nb bc,.slice eo ne ec]] w fun e w'=>Needs (okF (form op) op a b n ls nb ne) 30 e/\Below w.heap.size w w':=by
 have HCC:=hideM fun (w':World) (h:Below w.heap.size w w')=>pneedForm C op a b n ls lo bo eo nb ne lc bc ec w' (C.keep h hI) (hl.on h)
 clear hl hI
 generalize okF (form op) op a b n ls nb ne=r at *
 generalize ls.length=nl at *
 go_enter Tryd.func57,Tryd.ntmps57
 go_wp2_with fail
 refine (pNeed true _ _).mono ?_
 rintro e u2 ⟨hN,rfl⟩
 obtain rfl:=hN.yes
 go_wp2_with fail
 have hw:=(Below.refl w.heap.size w).alloc (Nat.le_refl _) (Obj.cells #[.int .i64 op,.int .i64 a,.int .i64 b,.int .i64 n,.slice lo nl lc,.slice bo nb bc,.slice eo ne ec] 50)
 refine (HCC.out _ hw).mono ?_
 rintro e u ⟨hN,hb2⟩
 have HB2:=hideM (below_go hw hb2)
 clear hb2 hw HCC
 rcases hN with ⟨rfl,rfl⟩|⟨rfl,rfl⟩
 ·go_wp2
  go_end0
  exact ⟨.inl ⟨rfl,rfl⟩,HB2.out⟩
 ·go_wp2
  exact ⟨rfl,.inr ⟨rfl,rfl⟩,HB2.out⟩
set_option maxHeartbeats 1000000 in
theorem pneedConstantd {I:World->Prop} (C:FormC I) (op a b n:Int) (ls:List Int) (lo bo eo:Option Addr) (nb ne lc bc ec:Nat) (w:World) (d1:(op == 65)=false) (d2:(op == 66)=false) (d3:(op == 35)=false) (hI:I w) (hl:Ints w (.slice lo ls.length lc) ls) :
  Calls Tryd.prog 57 #[.agg #[.int .i64 op,.int .i64 a,.int .i64 b,.int .i64 n,.slice lo ls.length lc,.slice bo nb bc,.slice eo ne ec]] w fun e w'=>Needs (false) 30 e/\Below w.heap.size w w':=by
 clear hl hI
 generalize ls.length=nl at *
 go_enter Tryd.func57,Tryd.ntmps57
 go_wp2_with fail
 refine (pNeed false _ _).mono ?_
 rintro e u2 ⟨hN,rfl⟩
 obtain rfl:=hN.no
 go_wp2
 exact ⟨rfl,.inr ⟨rfl,rfl⟩,(Below.refl w.heap.size w).alloc (Nat.le_refl _) _⟩
theorem pneedConstant {I:World->Prop} (C:FormC I) (op a b n:Int) (ls:List Int) (lo bo eo:Option Addr) (nb ne lc bc ec:Nat) (w:World) (hI:I w) (hl:Ints w (.slice lo ls.length lc) ls) :
  Calls Tryd.prog 57 #[.agg #[.int .i64 op,.int .i64 a,.int .i64 b,.int .i64 n,.slice lo ls.length lc,.slice bo nb bc,.slice eo ne ec]] w fun e w'=>Needs (cst op && okF (form op) op a b n ls nb ne) 30 e/\Below w.heap.size w w':=by
 unfold cst
 cases h1:op == 65
 ·cases h2:op == 66
  ·cases h3:op == 35
   ·exact pneedConstantd C op a b n ls lo bo eo nb ne lc bc ec w h1 h2 h3 hI hl
   ·exact pneedConstantc C op a b n ls lo bo eo nb ne lc bc ec w h1 h2 h3 hI hl
  ·exact pneedConstantb C op a b n ls lo bo eo nb ne lc bc ec w h1 h2 hI hl
 ·exact pneedConstanta C op a b n ls lo bo eo nb ne lc bc ec w h1 hI hl
theorem cntInv_on (cb:Nat):∀(c:Nat) (w w':World),Below w.heap.size w w'->(c<=65536/\w.cell? ⟨cb,0,none⟩=some (.int .i64 c)/\w.frozen? ⟨cb,0,none⟩=false) ->
  (c<=65536/\w'.cell? ⟨cb,0,none⟩=some (.int .i64 c)/\w'.frozen? ⟨cb,0,none⟩=false) :=
 fun c w w' hb ⟨h1,h2,h3⟩=>⟨h1,cell_on hb h2,(hb.frozen (p:=⟨cb,0,none⟩) (World.block_lt_of_cell? _ _ h2)).trans h3⟩
namespace Rep
end Rep
set_option maxHeartbeats 1000000 in
theorem pcountInstructions (d:Nat) (hd:d<=4611686018427387904) (v0 v1 v2 v3 v4 v5 v6 v7 v8 v9:Value) (l:List (Fun d)) (w:World) (hAt:Row 3 (FunAt w d) v2 l) (hT:TenSlices v0 v1 v3 v4 v5 v6 v7 v8 v9) :
  Calls Tryd.prog 25 #[.agg #[v0,v1,v2,v3,v4,v5,v6,v7,v8,v9]] w fun e w' =>
   Below w.heap.size w w'/\((∃c:Nat,goF stepCount d l 0=some c/\c<=65536/\e=.returned (.int .i64 c))\/(goF stepCount d l 0=none/\e=.panicked (gave 3))):=by
 have HAt:=hideM hAt
 have HT:=hideM hT
 obtain ⟨o2,n2,c2,rfl⟩:=Row.slice hAt
 obtain ⟨⟨o0,m0,c0,rfl⟩,⟨o1,m1,c1,rfl⟩,⟨o3,m3,c3,rfl⟩,⟨o4,m4,c4,rfl⟩,⟨o5,m5,c5,rfl⟩,⟨o6,m6,c6,rfl⟩,⟨o7,m7,c7,rfl⟩,⟨o8,m8,c8,rfl⟩,⟨o9,m9,c9,rfl⟩⟩:=hT
 obtain ⟨R,hR⟩:∃R,R=goF stepCount d l 0:=⟨_,rfl⟩
 have HR:=hideM hR
 rw [<- hR]
 clear hAt hR
 have hmf:∀(fn:Fn) (first cap:Array Value) (w:World),(Instr.makeFunc fn first cap).run Tryd.prog w=.ok (.func fn first cap) w:=fun _ _ _ _=>rfl
 go_enter Tryd.func25,Tryd.ntmps25
 go_wp2_with fail
 have hbel:∀(o:Obj),Below w.heap.size w ((w.alloc o).alloc (.cells #[.int .i64 0] 3)):=fun o=>((Below.refl _ w).alloc (Nat.le_refl _) o).alloc (by simp) _
 refine (pWalkMA (.pointer (some ⟨w.heap.size+1,0,none⟩)) w (fun k=>k=w.heap.size+1) (by rintro k rfl;omega) _ (cntInv_on (w.heap.size+1)) stepCount 3 (seeCount w (w.heap.size+1)) d hd _ _ _ _ _ _ _ _ _ _ l 0 _ HAt.out HT.out (hbel _)
  ⟨by omega,by rw [World.cell?_alloc_at _ _ _ _ (by simp)];rfl,by rw [World.frozen?_alloc_at _ _ _ _ (by simp)]⟩ (by rintro k rfl;simp)).mono ?_
 rintro e u ⟨hk,hcase⟩
 have HB:=hideM (Kp.below (S:=fun k=>k=w.heap.size+1) (w0:=w) (by rintro k rfl;omega) (hbel _) hk)
 rw [<- HR.out] at hcase
 clear hk hbel HAt HT
 rcases hcase with ⟨c,hc,rfl,hle,hcell,hfz⟩|⟨hc,rfl⟩
 ·have HC:=hideM hc
  clear hc HR
  go_wp2
  go_ret
  exact ⟨HB.out,.inl ⟨c,HC.out,hle,rfl⟩⟩
 ·have HC:=hideM hc
  clear hc HR
  go_wp2
  exact ⟨rfl,HB.out,.inr ⟨HC.out,rfl⟩⟩
end Go.Proofs.YtlcpagiljfpbpaaDoor


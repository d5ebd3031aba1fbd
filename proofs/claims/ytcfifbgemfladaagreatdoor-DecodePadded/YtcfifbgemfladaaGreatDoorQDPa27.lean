/- Texts that the claim needs. -/
import Derived.Test.YtcfifbgemfladaaGreatDoorQDPa26
import Derived.Test.YtcfifbgemfladaaGreatDoorQDPa7
import Derived.Laws.Strings
namespace Go.Proofs.YtcfifbgemfladaaGreatDoor
open Go.RowKit au Enc Go.Lib Go.Proofs.Tryz
set_option linter.unusedVariables false
set_option maxRecDepth 100000
def zl {d:Nat} (m:Mod d):Prop:=(∀x ∈ m.funcs,NR d x.body)/\(∀x ∈ m.globals,rM (NR d) x.init)/\(∀x ∈ m.elems,rM (NR d) x.offset)/\(∀x ∈ m.aA,rM (NR d) x.offset)
section Of
variable {H:Type} {enc:TypeId × Value->H} {w:AG} {base:Nat} {spare:Nat->Bool} {held:Bool}
theorem Kw {n d:Nat} {cs:List Value} {y:DataW H × List MemPlace} {b o:Nat} (hn:n<=d) (hy:DataW.trod enc prog w base spare held n 59 cs=some y) (hc:∀j,j<7->w.cell? ⟨b,o+j,none⟩=cs[j]?):∃z:Ins (IL d),fM w (At w d) b o z/\rM (NR d) z :=
 M3 hy hc λm v x hm hx=>M4 m d v x (by omega) hx
theorem aa1 {fuel d:Nat} {v0 v1 v2 v3 v4 v5 v6 v7 v8 v9:Value} {x:DataW H × List MemPlace} (hd:fuel<=d) (h:DataW.trod enc prog w base spare held fuel 32 [v0,v1,v2,v3,v4,v5,v6,v7,v8,v9]=some x) :
  ∃m:Mod d,iG w d v0 v1 v2 v3 v4 v5 v6 v7 v8 v9 m/\zl m/\(∀x ∈ m.aA,x.bytes.size<=9223372036854775807)/\(∀x ∈ m.imports,x.mod.size<=9223372036854775807/\x.name.size<=9223372036854775807)/\(∀x ∈ m.exports,x.name.size<=9223372036854775807) /\
   (∀n c,v3=.slice none n c->c=0)/\(∀n c,v4=.slice none n c->c=0):=by
 obtain ⟨xs,m,rfl,_,_,hxl,hall⟩:=DataW.trod_struct underlying32 h;obtain ⟨y0,g0⟩:=gb hxl hall 0 _ rfl;obtain ⟨u0,e0,t0⟩:=oI underlying22 (by kernel_rfl) g0;obtain rfl:v0=u0:=by simpa using e0
 obtain ⟨y1,g1⟩:=gb hxl hall 1 _ rfl;obtain ⟨u1,e1,t1⟩:=oI underlying23 (by kernel_rfl) g1;obtain rfl:v1=u1:=by simpa using e1
 obtain ⟨y2,g2⟩:=gb hxl hall 2 _ rfl;obtain ⟨u2,e2,t2⟩:=oI underlying24 (by kernel_rfl) g2;obtain rfl:v2=u2:=by simpa using e2
 obtain ⟨y3,g3⟩:=gb hxl hall 3 _ rfl;obtain ⟨u3,e3,t3⟩:=oI underlying25 (by kernel_rfl) g3;obtain rfl:v3=u3:=by simpa using e3
 obtain ⟨y4,g4⟩:=gb hxl hall 4 _ rfl;obtain ⟨u4,e4,t4⟩:=oI underlying25 (by kernel_rfl) g4;obtain rfl:v4=u4:=by simpa using e4
 obtain ⟨y5,g5⟩:=gb hxl hall 5 _ rfl;obtain ⟨u5,e5,t5⟩:=oI underlying26 (by kernel_rfl) g5;obtain rfl:v5=u5:=by simpa using e5
 obtain ⟨y6,g6⟩:=gb hxl hall 6 _ rfl;obtain ⟨u6,e6,t6⟩:=oI underlying27 (by kernel_rfl) g6;obtain rfl:v6=u6:=by simpa using e6
 obtain ⟨y7,g7⟩:=gb hxl hall 7 _ rfl;obtain ⟨u7,e7,t7⟩:=oI underlying28 (by kernel_rfl) g7;obtain rfl:v7=u7:=by simpa using e7
 obtain ⟨y8,g8⟩:=gb hxl hall 8 _ rfl;obtain ⟨u8,e8,t8⟩:=oI underlying29 (by kernel_rfl) g8;obtain rfl:v8=u8:=by simpa using e8
 obtain ⟨y9,g9⟩:=gb hxl hall 9 _ rfl;obtain ⟨u9,e9,t9⟩:=oI underlying30 (by kernel_rfl) g9;obtain rfl:v9=u9:=by simpa using e9
 obtain ⟨⟨l0,h0⟩,_⟩:=vk (α:=FT) 2 (by omega) (uY w) underlying22 cFT t0 λn cs y b o hn hy _ hc=>by
  obtain ⟨xs,k,rfl,_,_,hxl,hall⟩:=DataW.trod_struct underlying57 hy;obtain ⟨y0,g0⟩:=gb hxl hall 0 _ rfl;obtain ⟨y1,g1⟩:=gb hxl hall 1 _ rfl;obtain ⟨a0,e0,s0⟩:=oI underlying28 De g0;obtain ⟨a1,e1,s1⟩:=oI underlying28 De g1;obtain ⟨l0,i0⟩:=BL s0;obtain ⟨l1,i1⟩:=BL s1;exact ⟨⟨l0,l1⟩,⟨a0,(hc 0 (by omega)).trans e0,i0⟩,⟨a1,(hc 1 (by omega)).trans e1,i1⟩⟩
 obtain ⟨⟨l1,h1⟩,_⟩:=vk (α:=oG) 3 (by omega) (λb o x=>uu w b o x/\(x.mod.size<=9223372036854775807/\x.name.size<=9223372036854775807)) underlying23 aa2 t1 λn cs y b o hn hy _ hc=>by
  obtain ⟨xs,k,rfl,_,_,hxl,hall⟩:=DataW.trod_struct underlying83 hy;obtain ⟨y0,g0⟩:=gb hxl hall 0 _ rfl;obtain ⟨y1,g1⟩:=gb hxl hall 1 _ rfl;obtain ⟨y2,g2⟩:=gb hxl hall 2 _ rfl;obtain ⟨a0,e0,s0⟩:=G0 underlying9 G3 g0;obtain ⟨a1,e1,s1⟩:=G0 underlying9 G3 g1;obtain ⟨a2,e2,_⟩:=vh underlying3 uD g2;exact ⟨⟨a0,a1,a2⟩,⟨(hc 0 (by omega)).trans e0,(hc 1 (by omega)).trans e1,(hc 2 (by omega)).trans e2⟩,s0,s1⟩
 obtain ⟨⟨l2,h2⟩,_⟩:=vk (α:=fF d) 3 (by omega) (λb o x=>rL w d b o x/\NR d x.body) underlying24 aa3 t2 λn cs y b o hn hy _ hc=>by
  obtain ⟨xs,k,rfl,_,_,hxl,hall⟩:=DataW.trod_struct underlying55 hy;obtain ⟨y0,g0⟩:=gb hxl hall 0 _ rfl;obtain ⟨y1,g1⟩:=gb hxl hall 1 _ rfl;obtain ⟨y2,g2⟩:=gb hxl hall 2 _ rfl;obtain ⟨a0,e0,_⟩:=vh underlying3 uD g0;obtain ⟨a1,e1,s1⟩:=oI underlying28 De g1;obtain ⟨a2,e2,s2⟩:=oI underlying53 IW g2;obtain ⟨i1,j1⟩:=BL s1;obtain ⟨i2,j2,r2⟩:=M4 _ d _ _ (by omega) s2;exact ⟨⟨a0,i1,i2⟩,⟨(hc 0 (by omega)).trans e0,⟨a1,(hc 1 (by omega)).trans e1,j1⟩,⟨a2,(hc 2 (by omega)).trans e2,j2⟩⟩,r2⟩
 have hlim:∀ {n:Nat} {cs:List Value} {y:DataW H × List MemPlace} {b o:Nat},DataW.trod enc prog w base spare held n 86 cs=some y->(∀j,j<3->w.cell? ⟨b,o+j,none⟩=cs[j]?)->∃z,mG w b o z:=λ{n cs y b o} hy hc=>by
  obtain ⟨xs,k,rfl,_,_,hxl,hall⟩:=DataW.trod_struct underlying86 hy;obtain ⟨y0,g0⟩:=gb hxl hall 0 _ rfl;obtain ⟨y1,g1⟩:=gb hxl hall 1 _ rfl;obtain ⟨y2,g2⟩:=gb hxl hall 2 _ rfl;obtain ⟨a0,e0,_⟩:=vh underlying3 uD g0;obtain ⟨a1,e1,_⟩:=vh underlying3 uD g1;obtain ⟨a2,e2⟩:=PU underlying4 PV g2;exact ⟨⟨a0,a1,a2⟩,(hc 0 (by omega)).trans e0,(hc 1 (by omega)).trans e1,(hc 2 (by omega)).trans e2⟩
 obtain ⟨⟨l3,h3⟩,z3⟩:=vk (α:=gu) 3 (by omega) (mG w) underlying25 PW t3 λn cs y b o _ hy _ hc=>hlim hy hc;obtain ⟨⟨l4,h4⟩,z4⟩:=vk (α:=gu) 3 (by omega) (mG w) underlying25 PW t4 λn cs y b o _ hy _ hc=>hlim hy hc
 obtain ⟨⟨l5,h5⟩,_⟩:=vk (α:=mZ d) 9 (by omega) (λb o x=>uw w d b o x/\rM (NR d) x.init) underlying26 aa4 t5 λn cs y b o hn hy hl hc=>by
  obtain ⟨xs,k,rfl,_,_,hxl,hall⟩:=DataW.trod_struct underlying65 hy;obtain ⟨y0,g0⟩:=gb hxl hall 0 _ rfl;obtain ⟨y1,g1⟩:=gb hxl hall 1 _ rfl;obtain ⟨y2,g2⟩:=gb hxl hall 2 _ rfl;obtain ⟨a0,e0,_⟩:=vh underlying3 uD g0;obtain ⟨a1,e1⟩:=PU underlying4 PV g1;have g2:DataW.trod enc prog w base spare held k 59 ((cs.drop 2).take (prog.cellsOf 59))=some y2:=g2;rw [FW] at g2
  obtain ⟨a2,i2,r2⟩:=Kw (d:=d) (b:=b) (o:=o+2) (by omega) g2 λj hj=>by
   rw [List.getElem?_take_of_lt hj,List.getElem?_drop,Nat.add_assoc];exact hc (2+j) (by omega)
  exact ⟨⟨a0,a1,a2⟩,⟨(hc 0 (by omega)).trans e0,(hc 1 (by omega)).trans e1,i2⟩,r2⟩
 obtain ⟨⟨l6,h6⟩,_⟩:=vk (α:=oH) 3 (by omega) (λb o x=>uA w b o x/\x.name.size<=9223372036854775807) underlying27 aa5 t6 λn cs y b o hn hy _ hc=>by
  obtain ⟨xs,k,rfl,_,_,hxl,hall⟩:=DataW.trod_struct underlying89 hy;obtain ⟨y0,g0⟩:=gb hxl hall 0 _ rfl;obtain ⟨y1,g1⟩:=gb hxl hall 1 _ rfl;obtain ⟨y2,g2⟩:=gb hxl hall 2 _ rfl;obtain ⟨a0,e0,s0⟩:=G0 underlying9 G3 g0;obtain ⟨a1,e1,_⟩:=vh underlying3 uD g1;obtain ⟨a2,e2,_⟩:=vh underlying3 uD g2;exact ⟨⟨a0,a1,a2⟩,⟨(hc 0 (by omega)).trans e0,(hc 1 (by omega)).trans e1,(hc 2 (by omega)).trans e2⟩,s0⟩
 obtain ⟨l7,h7⟩:=BL t7
 obtain ⟨⟨l8,h8⟩,_⟩:=vk (α:=lX d) 8 (by omega) (λb o x=>uC w d b o x/\rM (NR d) x.offset) underlying29 aa6 t8 λn cs y b o hn hy hl hc=>by
  obtain ⟨xs,k,rfl,_,_,hxl,hall⟩:=DataW.trod_struct underlying61 hy;obtain ⟨y0,g0⟩:=gb hxl hall 0 _ rfl;obtain ⟨y1,g1⟩:=gb hxl hall 1 _ rfl;have g0:DataW.trod enc prog w base spare held k 59 ((cs.drop 0).take (prog.cellsOf 59))=some y0:=g0;rw [FW] at g0
  obtain ⟨a0,i0,r0⟩:=Kw (d:=d) (b:=b) (o:=o) (by omega) g0 λj hj=>by
   rw [List.getElem?_take_of_lt hj,List.getElem?_drop,Nat.zero_add];exact hc j (by omega)
  obtain ⟨a1,e1,s1⟩:=oI underlying28 De g1;obtain ⟨i1,j1⟩:=BL s1;exact ⟨⟨a0,i1⟩,⟨i0,⟨a1,(hc 7 (by omega)).trans e1,j1⟩⟩,r0⟩
 obtain ⟨⟨l9,h9⟩,_⟩:=vk (α:=Dat d) 8 (by omega) (λb o x=>wK w d b o x/\(rM (NR d) x.offset/\x.bytes.size<=9223372036854775807)) underlying30 aa7 t9 λn cs y b o hn hy hl hc=>by
  obtain ⟨xs,k,rfl,_,_,hxl,hall⟩:=DataW.trod_struct underlying63 hy;obtain ⟨y0,g0⟩:=gb hxl hall 0 _ rfl;obtain ⟨y1,g1⟩:=gb hxl hall 1 _ rfl;have g0:DataW.trod enc prog w base spare held k 59 ((cs.drop 0).take (prog.cellsOf 59))=some y0:=g0;rw [FW] at g0
  obtain ⟨a0,i0,r0⟩:=Kw (d:=d) (b:=b) (o:=o) (by omega) g0 λj hj=>by
   rw [List.getElem?_take_of_lt hj,List.getElem?_drop,Nat.zero_add];exact hc j (by omega)
  obtain ⟨a1,e1,s1⟩:=G0 underlying9 G3 g1;exact ⟨⟨a0,a1⟩,⟨i0,(hc 7 (by omega)).trans e1⟩,r0,s1⟩
 exact ⟨⟨l0,l1,l2,l3,l4,l5,l6,l7,l8,l9⟩,⟨h0,h1.imp λ_ _ _ _ h=>h.1,h2.imp λ_ _ _ _ h=>h.1,h3,h4,h5.imp λ_ _ _ _ h=>h.1,h6.imp λ_ _ _ _ h=>h.1,h7,h8.imp λ_ _ _ _ h=>h.1,h9.imp λ_ _ _ _ h=>h.1⟩,⟨xM h2,xM h5,xM h8,λx hx=>(xM h9 x hx).1⟩,λx hx=>(xM h9 x hx).2,xM h1,xM h6,z3,z4⟩
end Of
end Go.Proofs.YtcfifbgemfladaaGreatDoor
namespace Go.Proofs.YtcfifbgemfladaaGreatDoor
open Go.RowKit au Enc Go.Lib
set_option linter.unusedVariables false
namespace Enc
theorem Ti:∀(d:Nat) (l:IL d),size d l=0->Rg d l
 | 0,_,_=>trivial
 | d+1,l,h=>by
  intro x hx
  have:(show List (Ins (IL d)) from l) = []:=iZ.1 h
  rw [this] at hx;cases hx
theorem Tj:∀(d:Nat) (l:IL d),size d l=0->(aW d l).length=0
 | 0,_,_=>rfl
 | d+1,l,h=>by
  have e:(show List (Ins (IL d)) from l) = []:=iZ.1 h;show (mF (aW d) (size d) (show List (Ins (IL d)) from l)).length=0;rw [e];rfl
theorem Tk {a b n:Int} {nl nb ne:Nat} (h:bV a b n nl nb ne=true):nl=0/\nb=0/\ne=0:=by
 have:=of_decide_eq_true h;exact this.2.2.2
theorem Hj {d:Nat} {x:Ins (IL d)} (h:ui x=true) (hN:rM (NR d) x):dK (Rg d) x/\(fS (aW d) (size d) x).length<=100000100:=by
 unfold ui at h;rw [bH] at h;obtain ⟨h1,h2⟩:=h
 have hf:form x.op=9\/(form x.op=4\/form x.op=6\/form x.op=7):=by
  unfold rG at h1;rw [Bool.or_eq_true,Bool.or_eq_true] at h1;rcases h1 with (h1|h1)|h1
  ·left;rw [eq_of_beq h1];decide
  ·left;rw [eq_of_beq h1];decide
  right;rw [eq_of_beq h1];decide
 have hok:okF (form x.op) x.op x.a x.b x.n x.labels (size d x.body) (size d x.els)=true:=h2
 have hz:x.labels.length=0/\size d x.body=0/\size d x.els=0:=by
  have hok':=hok;unfold okF at hok';rcases hf with hf|hf
  ·rw [hf] at hok';rw [AD (by omega),AD (by omega),AD (by omega),AD (by omega),AD (by omega),AD (by omega),AE rfl,bH] at hok';exact Tk hok'.2
  rw [AD (by omega),AD (by omega),AD (by omega),AE hf,bH] at hok';exact Tk hok'.2
 obtain ⟨z1,z2,z3⟩:=hz;have R:dK (Rg d) x:=Hh hok (by omega) hN.1 (Ti d _ z2) (Ti d _ z3);have hl:=RE (rec:=aW d) (sz:=size d) R;have e1:=Tj d _ z2;have e2:=Tj d _ z3;exact ⟨R,by omega⟩
theorem kg {n:Nat} (h:few n=true):n<=4096:=by
 have:=of_decide_eq_true (p:=((n:Int)<=4096)) h;omega
theorem room_le {d:Nat}:∀(r:Nat) (l:List (Dat d)),room r l=true->∀x ∈ l,x.bytes.size<=r
 | _,[],_,x,hx=>by cases hx
 | r,y :: t,h,x,hx=>by
  have h':(decide (y.bytes.size<=r)&&room (r-y.bytes.size) t)=true:=h;rw [bH] at h';have h1:=of_decide_eq_true h'.1;rcases lI.1 hx with rfl|hx
  ·exact h1
  have:=room_le _ t h'.2 x hx;omega
theorem vL {d:Nat} {step:Unit->Sn->Nat->Option Unit}:∀(l:List (fF d)),pU step d l ()=some ()->∀x ∈ l,lj step d x.body 0 ()=some ()
 | [],_,x,hx=>by cases hx
 | y :: r,h,x,hx=>by
  have h':((lj step d y.body 0 ()).bind λs1=>pU step d r s1)=some ():=h;obtain ⟨s1,e1,h1⟩:=Option.bind_eq_some_iff.1 h';rcases lI.1 hx with rfl|hx
  ·exact e1
  exact vL r h1 x hx
def yw {d:Nat}:List (fF d)->Nat
 | []=>0
 | f :: r=>tot d f.body+yw r
theorem KP {d:Nat}:∀(l:List (fF d)) (c c':Nat),c<=65536->pU og d l c=some c'->c'=c+yw l/\c'<=65536
 | [],c,c',hc,h=>by injection h with h;exact ⟨by show c'=c+0;omega,by omega⟩
 | y :: r,c,c',hc,h=>by
  have h':((lj og d y.body 0 c).bind λs1=>pU og d r s1)=some c':=h;obtain ⟨s1,e1,h1⟩:=Option.bind_eq_some_iff.1 h';have t1:=RB d _ _ _ _ e1;have t2:=K8 d _ _ _ _ hc e1;have t3:=KP r s1 c' t2 h1;exact ⟨by show c'=c+(tot d y.body+yw r);omega,t3.2⟩
theorem CI {α:Type} {f:α->List Int} (k:Nat):∀(l:List α),(∀x ∈ l,(f x).length<=k)->(l.flatMap f).length<=l.length*k
 | [],_=>by simp
 | x :: r,h=>by
  rw [List.flatMap_cons,aT,ik,Nat.add_mul];have h1:=h x (List.mem_cons_self ..);have h2:=CI k r λy hy=>h y (List.mem_cons_of_mem _ hy);omega
theorem zR (n:Nat) (h:n<=18446744073709551615):(af.uB (n:Int)).length<=10:=af.yd (by omega) (by omega)
theorem BG {n:Int} (h:0<=n/\n<=4294967295):(af.uB n).length<=10:=af.yd h.1 (by omega)
theorem wD (id:Int) (n:Nat) (b:List Int) (k:Nat) (h:b.length<=k) (hk:k<=18446744073709551615):(eu id n b).length<=k+11:=by
 unfold eu df
 have:=zR b.length (by omega)
 split
 ·simp
 simp only [aT,ik,mQ];omega
theorem yQ {α:Type} (f:α->List Int) (l:List α) (n k:Nat) (hn:l.length<=n) (fV:n<=18446744073709551615) (h:∀x ∈ l,(f x).length<=k):(aG f l).length<=10+n*k:=by
 unfold aG;have h1:=zR l.length (by omega);have h2:=CI k l h;have h3:l.length*k<=n*k:=Nat.mul_le_mul_right _ hn;rw [aT];omega
theorem Hu (s:AH) (n:Nat) (h:s.size<=n) (hn:n<=18446744073709551615):(jH s).length<=10+n:=by
 unfold jH;have h1:=zR s.size (by omega);rw [aT,BN];omega
theorem aek (l:List Int) (n:Nat) (h:l.length<=n) (hn:n<=18446744073709551615) (hi:∀y ∈ l,0<=y/\y<=4294967295):(mY l).length<=10+n*10:=by
 unfold mY;have h1:=zR l.length (by omega);have h2:=CI (f:=af.uB) 10 l λy hy=>BG (hi y hy);rw [aT];omega
theorem Tm (l:List Int) (n:Nat) (h:l.length<=n) (hn:n<=18446744073709551615):(qE l).length<=10+n:=by
 unfold qE;have h1:=zR l.length (by omega);have h2:=CI (f:=λx:Int=>[x%256]) 1 l λy hy=>by simp
 rw [aT];omega
theorem Tn (x:gu) (h1:0<=x.min/\x.min<=4294967295) (h2:0<=x.max/\x.max<=4294967295):(eT x).length<=21:=by
 unfold eT;have a1:=BG h1;have a2:=BG h2
 have a3:(if x.has then af.uB x.max else []:List Int).length<=10:=by
  split
  ·exact a2
  simp
 simp only [aT,ik,mQ];omega
theorem ael (l:List Int) (n:Nat) (h:l.length<=n) (hn:n<=1000000):(wH l).length<=10+n*11:=by
 unfold wH;obtain ⟨b1,b2⟩:=zY l;have h1:=zR (rn l).length (by omega)
 have h2:=CI (f:=λx:Int × Int=>af.uB x.1++[x.2%256]) 11 (rn l) λy hy=>by
  have:=b2 y hy
  have h3:=af.yd (n:=y.1) (by omega) (by omega);rw [aT];simp only [ik,mQ];omega
 rw [aT];omega
theorem Tp {d:Nat}:∀(l:List (fF d)),(∀x ∈ l,Rg d x.body/\x.locals.length<=256)->yw l<=65536->(l.flatMap λx=>df (cQ x)).length<=l.length*3000+yw l*100000100
 | [],_,_=>by simp
 | x :: r,h,ht=>by
  have ht':tot d x.body+yw r<=65536:=ht;have h1:=h x (List.mem_cons_self ..);have h2:=Tp r (λy hy=>h y (List.mem_cons_of_mem _ hy)) (by omega);have h3:=K9 d x.body h1.1;have h4:=ael x.locals 256 h1.2 (by omega)
  have h5:(cQ x).length<=2900+tot d x.body*100000100:=by
   unfold cQ;simp only [aT,ik,mQ];omega
  have h6:=zR (cQ x).length (by omega)
  have h7:(df (cQ x)).length<=2910+tot d x.body*100000100:=by
   unfold df;rw [aT];omega
  rw [List.flatMap_cons,aT,ik];show _<=_+(tot d x.body+yw r)*100000100;omega
theorem aem {d:Nat} {m:Mod d} (hT:∀x ∈ m.types,x.params.length<=4096/\x.results.length<=4096) (hI:∀x ∈ m.imports,x.mod.size<=64/\x.name.size<=64/\0<=x.type/\x.type<=4294967295) (hF:∀x ∈ m.funcs,(0<=x.type/\x.type<=4294967295)/\Rg d x.body/\x.locals.length<=256)
  (hB:∀x ∈ m.tables,(0<=x.min/\x.min<=4294967295)/\0<=x.max/\x.max<=4294967295) (hM:∀x ∈ m.aF,(0<=x.min/\x.min<=4294967295)/\0<=x.max/\x.max<=4294967295) (hG:∀x ∈ m.globals,(fS (aW d) (size d) x.init).length<=100000100)
  (hX:∀x ∈ m.exports,x.name.size<=64/\0<=x.index/\x.index<=4294967295) (hS:∀x ∈ m.start,0<=x/\x<=4294967295) (hE:∀x ∈ m.elems,(fS (aW d) (size d) x.offset).length<=100000100/\(∀y ∈ x.funcs,0<=y/\y<=4294967295)/\x.funcs.length<=4096)
  (hD:∀x ∈ m.aA,(fS (aW d) (size d) x.offset).length<=100000100/\x.bytes.size<=262144) (ht:yw m.funcs<=65536)
  (n0:m.types.length<=4096) (n1:m.imports.length<=4096) (n2:m.funcs.length<=4096) (n3:m.tables.length<=4096) (n4:m.aF.length<=4096) (n5:m.globals.length<=4096) (n6:m.exports.length<=4096) (n7:m.start.length<=4096) (n8:m.elems.length<=4096) (n9:m.aA.length<=4096):(mR m).length<=38000000000000:=by
 have s0:=wD 1 m.types.length _ _ (yQ kI m.types 4096 9000 n0 (by omega) λx hx=>by
  have h:=hT x hx;have a1:=Tm x.params 4096 h.1 (by omega);have a2:=Tm x.results 4096 h.2 (by omega);unfold kI;simp only [aT,ik,mQ];omega) (by omega)
 have s1:=wD 2 m.imports.length _ _ (yQ kJ m.imports 4096 9000 n1 (by omega) λx hx=>by
  have h:=hI x hx;have a1:=Hu x.mod 64 h.1 (by omega);have a2:=Hu x.name 64 h.2.1 (by omega);have a3:=BG h.2.2;unfold kJ;simp only [aT,ik,mQ];omega) (by omega)
 have s2:=wD 3 m.funcs.length _ _ (yQ (λx:fF d=>af.uB x.type) m.funcs 4096 10 n2 (by omega) λx hx=>BG (hF x hx).1) (by omega)
 have s3:=wD 4 m.tables.length _ _ (yQ (λx:gu=>[112]++eT x) m.tables 4096 30 n3 (by omega) λx hx=>by
  have a:=Tn x (hB x hx).1 (hB x hx).2;simp only [aT,ik,mQ];omega) (by omega)
 have s4:=wD 5 m.aF.length _ _ (yQ eT m.aF 4096 21 n4 (by omega) λx hx=>Tn x (hM x hx).1 (hM x hx).2) (by omega)
 have s5:=wD 6 m.globals.length _ _ (yQ jV m.globals 4096 100000200 n5 (by omega) λx hx=>by
  have h:=hG x hx;unfold jV;simp only [aT,ik,mQ];omega) (by omega)
 have s6:=wD 7 m.exports.length _ _ (yQ kN m.exports 4096 9000 n6 (by omega) λx hx=>by
  have h:=hX x hx;have a1:=Hu x.name 64 h.1 (by omega);have a2:=BG h.2;unfold kN;simp only [aT,ik,mQ];omega) (by omega)
 have s7:=wD 8 m.start.length (m.start.flatMap af.uB) 50000 (by
  have a:=CI (f:=af.uB) 10 m.start λx hx=>BG (hS x hx);omega) (by omega)
 have s8:=wD 9 m.elems.length _ _ (yQ jy m.elems 4096 100100000 n8 (by omega) λx hx=>by
  have h:=hE x hx;have a1:=aek x.funcs 4096 h.2.2 (by omega) h.2.1;have a2:=h.1;unfold jy;simp only [aT,ik,mQ];omega) (by omega)
 have s9:=wD 10 m.funcs.length (aG (λx:fF d=>df (cQ x)) m.funcs) 7000000000000 (by
  have a:=Tp m.funcs (λx hx=>(hF x hx).2) ht;have b:=zR m.funcs.length (by omega);unfold aG;rw [aT];omega) (by omega)
 have s10:=wD 11 m.aA.length _ _ (yQ jA m.aA 4096 101000000 n9 (by omega) λx hx=>by
  have h:=hD x hx;have a1:=Hu x.bytes 262144 h.2 (by omega);have a2:=h.1;unfold jA;simp only [aT,ik,mQ];omega) (by omega)
 unfold mR;simp only [aT,ik,mQ];omega
theorem XU {d:Nat} {m:Mod d} (h:ny m=0) (hN:zl m):Wr m:=by
 obtain ⟨hf,⟨c,hc⟩,hL,hs,hF⟩:=KO h;obtain ⟨N1,N2,N3,N4⟩:=hN;have ht:=(KP m.funcs 0 c (by omega) hc);unfold qW at hf;simp only [bH,List.all_cons,List.all_nil] at hf;unfold zC at hs;simp only [bH] at hs;obtain ⟨⟨f0,f1,f2,f3,f4,_⟩,⟨f5,f6,f8,f9,_⟩,f7,fT,fL,fE,fD⟩:=hf;obtain ⟨sT,sI,sF,sL,sG,sX,sS,sE,sD⟩:=hs;have n0:=kg f0;have n1:=kg f1;have n2:=kg f2;have n3:=kg f3;have n4:=kg f4;have n5:=kg f5;have n6:=kg f6;have n8:=kg f8;have n9:=kg f9
 have n7:m.start.length<=1:=by
  have:=of_decide_eq_true (p:=((m.start.length:Int)<=1)) f7;omega
 have hT:∀x ∈ m.types,x.params.length<=4096/\x.results.length<=4096:=λx hx=>by
  have:=dN.1 fT x hx
  unfold GA at this;simp only [bH] at this;exact ⟨kg this.1,kg this.2.1⟩
 have hI:∀x ∈ m.imports,x.mod.size<=64/\x.name.size<=64/\0<=x.type/\x.type<=4294967295:=λx hx=>by
  have:=dN.1 sI x hx
  unfold D7 nm at this;simp only [bH] at this;obtain ⟨⟨a,b,_⟩,e,_⟩:=this;have a:=of_decide_eq_true a.1;have b:=of_decide_eq_true b.1;exact ⟨by omega,by omega,iH e⟩
 have Tq:∀x ∈ m.funcs,(0<=x.type/\x.type<=4294967295)/\Rg d x.body/\x.locals.length<=256:=λx hx=>by
  have a:=dN.1 sF x hx;have b:=of_decide_eq_true (p:=((x.locals.length:Int)<=256)) (dN.1 fL x hx);unfold Bq at a;simp only [bH] at a;exact ⟨iH a.1.1,rg_of d x.body 0 (vL _ hF x hx) (vL _ hL x hx) (N1 x hx),by omega⟩
 have vS:∀x ∈ m.tables++m.aF,(0<=x.min/\x.min<=4294967295)/\0<=x.max/\x.max<=4294967295:=λx hx=>by
  have a:=dN.1 sL x hx;unfold cu at a;simp only [bH] at a;exact ⟨iH a.1.1,iH a.1.2.1⟩
 have hB:=λx hx=>vS x (List.mem_append_left _ hx);have hM:=λx hx=>vS x (List.mem_append_right _ hx)
 have hG:=λx (hx:x ∈ m.globals)=>by
  have a:=dN.1 sG x hx;unfold D8 at a;simp only [bH] at a;exact Hj a.2 (N2 x hx)
 have hX:∀x ∈ m.exports,x.name.size<=64/\0<=x.index/\x.index<=4294967295:=λx hx=>by
  have a:=dN.1 sX x hx;unfold D9 nm at a;simp only [bH] at a;obtain ⟨⟨a,_⟩,_,e,_⟩:=a;have a:=of_decide_eq_true a.1;exact ⟨by omega,iH e⟩
 have hS:∀x ∈ m.start,0<=x/\x<=4294967295:=λx hx=>iH (dN.1 sS x hx)
 have hE:=λx (hx:x ∈ m.elems)=>by
  have a:=dN.1 sE x hx;simp only [bH] at a;have b:=dN.1 fE x hx;unfold GD at b;simp only [bH] at b;exact (⟨Hj a.1 (N3 x hx),λy hy=>iH (dN.1 a.2 y hy),kg b.1⟩:_/\(∀y ∈ x.funcs,0<=y/\y<=4294967295)/\x.funcs.length<=4096)
 have hD:=λx (hx:x ∈ m.aA)=>by
  have a:=dN.1 sD x hx;exact (⟨Hj a (N4 x hx),room_le _ _ fD x hx⟩:_/\x.bytes.size<=262144)
 refine ⟨λx hx=>?_,λx hx=>?_,λx hx=>?_,hB,hM,λx hx=>(hG x hx).1,λx hx=>?_,hS,λx hx=>?_,λx hx=>?_,by omega,?_,λx hx y hy=>?_,n7⟩
 ·have:=hT x hx;omega
 ·have:=hI x hx;omega
 ·have:=Tq x hx;exact ⟨this.1,this.2.1,by omega⟩
 ·have:=hX x hx;omega
 ·have:=hE x hx;exact ⟨this.1.1,this.2.1,by omega⟩
 ·have:=hD x hx;exact ⟨this.1.1,by omega⟩
 ·exact aem hT hI Tq hB hM (λx hx=>(hG x hx).2) hX hS (λx hx=>⟨(hE x hx).1.2,(hE x hx).2⟩) (λx hx=>⟨(hD x hx).1.2,(hD x hx).2⟩) (by omega) n0 n1 n2 n3 n4 n5 n6 (by omega) n8 n9
 have a:=dN.1 sF x hx;unfold Bq at a;simp only [bH] at a;exact of_decide_eq_true (dN.1 a.2 y hy)
end Enc
end Go.Proofs.YtcfifbgemfladaaGreatDoor
namespace Go.Proofs.YtcfifbgemfladaaGreatDoor
open Go.RowKit au Enc aI Go.Lib
set_option linter.unusedVariables false
namespace aI
theorem ab2 {d:Nat} {m:Mod d} (h:ny m=0):pU Cr d m.funcs ()=some ():=by
 unfold ny at h;split at h
 ·split at h
  ·cases h
  split at h
  ·cases h
  split at h
  ·cases h
  rename_i u1 h1;exact h1
 cases h
theorem KM:∀(d:Nat) (l:IL d) (k:Nat),lj sZ d l k ()=some ()->lj Br d l k ()=some ()->lj Cr d l k ()=some ()->NR d l->VR d k l
 | 0,_,_,_,_,_,_=>trivial
 | d+1,l,k,hF,hL,hD,hN=>by
  intro x hx;obtain ⟨f1,f2,f3⟩:=wJ (show List (Ins (IL d)) from l) hF x hx;obtain ⟨g1,g2,g3⟩:=wJ (show List (Ins (IL d)) from l) hL x hx;obtain ⟨e1,e2,e3⟩:=wJ (show List (Ins (IL d)) from l) hD x hx;obtain ⟨n1,n2,n3⟩:=hN x hx
  have hok:nO (sn x)=true:=by
   unfold sZ at f1;by_cases h:nO (sn x)=true
   ·exact h
   rw [AD h] at f1;cases f1
  have hfw:x.labels.length<=4096:=by
   unfold Br at g1;by_cases h:few (sn x).labels.length=true
   ·have:=of_decide_eq_true (p:=(((sn x).labels.length:Int)<=4096)) h
    have e:(sn x).labels=x.labels:=rfl;rw [e] at this;omega
   rw [AD h] at g1;cases g1
  have hdp:k<=64:=by
   unfold Cr at e1;by_cases h:k<=64
   ·exact h
   rw [AD h] at e1;cases e1
  refine ⟨hdp,⟨FD hok,hfw,Hh hok hfw n1 trivial trivial,λBS=>?_⟩,KM d x.body (k+1) f2 g2 e2 n2,KM d x.els (k+1) f3 g3 e3 n3⟩;have hk:okF (form x.op) x.op x.a x.b x.n x.labels (size d x.body) (size d x.els)=true:=hok;rw [BS,show form 65=9 from rfl] at hk;unfold okF at hk;rw [AD (by decide),AD (by decide),AD (by decide),AD (by decide),AD (by decide),AD (by decide),AE rfl,bH,Bool.or_eq_true,bH] at hk;rcases hk.1 with h|⟨h1,h2⟩
  ·exact absurd h (by decide)
  exact ⟨of_decide_eq_true h1,of_decide_eq_true h2⟩
theorem KN {d:Nat} {x:Ins (IL d)} (h:ui x=true) (hN:rM (NR d) x):xX x/\(x.op=65\/x.op=66\/x.op=35):=by
 have hr:=Hj h hN;unfold ui at h;rw [bH] at h;obtain ⟨h1,h2⟩:=h
 have hc:x.op=65\/x.op=66\/x.op=35:=by
  unfold rG at h1;rw [Bool.or_eq_true,Bool.or_eq_true] at h1;rcases h1 with (h1|h1)|h1
  ·exact .inl (eq_of_beq h1)
  ·exact .inr (.inl (eq_of_beq h1))
  exact .inr (.inr (eq_of_beq h1))
 have ok:=FD h2;have hf5:form x.op≠5:=by rcases hc with e|e|e<;>rw [e]<;>decide
 have hlab:x.labels = []:=ok.labels hf5;have hk:okF (form x.op) x.op x.a x.b x.n x.labels (size d x.body) (size d x.els)=true:=h2;refine ⟨⟨ok,by rw [hlab];simp,Hh hk (by rw [hlab];simp) hN.1 trivial trivial,λBS=>?_⟩,hc⟩;rw [BS,show form 65=9 from rfl] at hk;unfold okF at hk;rw [AD (by decide),AD (by decide),AD (by decide),AD (by decide),AD (by decide),AD (by decide),AE rfl,bH,Bool.or_eq_true,bH] at hk;rcases hk.1 with h|⟨h1,h2⟩
 ·exact absurd h (by decide)
 exact ⟨of_decide_eq_true h1,of_decide_eq_true h2⟩
theorem Af {n:Int} (h:typ n=true):n=126\/n=127:=of_decide_eq_true h
theorem Qm:∀l:List (fF 81),sw l=Enc.yw l
 | []=>rfl
 | x :: r=>by
  have:sw (x :: r)=tot 81 x.body+sw r:=by unfold sw;simp
  rw [this,Qm r];rfl
theorem XX {m:Mod 81} (h:ny m=0) (hN:zl m):Hg m:=by
 have hdp:=ab2 h;obtain ⟨hf,⟨c,hc⟩,hL,hs,hF⟩:=KO h;obtain ⟨N1,N2,N3,N4⟩:=hN;have ht:=(KP m.funcs 0 c (by omega) hc);unfold qW at hf;simp only [bH,List.all_cons,List.all_nil] at hf;unfold zC at hs;simp only [bH] at hs;obtain ⟨⟨f0,f1,f2,f3,f4,_⟩,⟨f5,f6,f8,f9,_⟩,f7,fT,fL,fE,fD⟩:=hf;obtain ⟨sT,sI,sF,sL,sG,sX,sS,sE,sD⟩:=hs
 have vS:∀x ∈ m.tables++m.aF,Put kK eT x:=λx hx=>by
  have a:=dN.1 sL x hx;unfold cu at a;simp only [bH,Bool.or_eq_true] at a;exact ab3 (iH a.1.1) (iH a.1.2.1) (a.2.imp id eq_of_beq)
 refine ⟨⟨kg f0,λx hx=>?_⟩,⟨kg f1,λx hx=>?_⟩,⟨kg f2,λx hx=>?_⟩,⟨kg f3,λx hx=>vS x (List.mem_append_left _ hx)⟩,⟨kg f4,λx hx=>vS x (List.mem_append_right _ hx)⟩,⟨kg f5,λx hx=>?_⟩,⟨kg f6,λx hx=>?_⟩,⟨?_,λx hx=>iH (dN.1 sS x hx)⟩,⟨kg f8,λx hx=>?_⟩,⟨kg f9,λx hx=>?_⟩,by rw [Qm];omega⟩
 ·have a:=dN.1 fT x hx;unfold GA at a;simp only [bH] at a;have b:=dN.1 sT x hx;unfold G9 at b;simp only [bH] at b;exact ab4 (kg a.1) (kg a.2.1) (λy hy=>Af (dN.1 b.1 y hy)) (λy hy=>Af (dN.1 b.2 y hy))
 ·have a:=dN.1 sI x hx;unfold D7 at a;simp only [bH] at a;exact ab5 a.1.1 a.1.2.1 (iH a.2.1)
 ·have a:=dN.1 sF x hx;have b:=of_decide_eq_true (p:=((x.locals.length:Int)<=256)) (dN.1 fL x hx);unfold Bq at a;simp only [bH] at a;exact ⟨iH a.1.1,by omega,λy hy=>Af (dN.1 a.2 y hy),KM 81 x.body 0 (vL _ hF x hx) (vL _ hL x hx) (vL _ hdp x hx) (N1 x hx)⟩
 ·have a:=dN.1 sG x hx;unfold D8 at a;simp only [bH] at a;obtain ⟨o,hc⟩:=KN a.2 (N2 x hx);exact ab6 (Af a.1.1) o hc
 ·have a:=dN.1 sX x hx;unfold D9 at a;simp only [bH] at a;exact ab7 a.1.1 ⟨of_decide_eq_true a.2.1.1,of_decide_eq_true a.2.1.2⟩ (iH a.2.2.1)
 ·have:=of_decide_eq_true (p:=((m.start.length:Int)<=1)) f7;omega
 ·have a:=dN.1 sE x hx;simp only [bH] at a;have b:=dN.1 fE x hx;unfold GD at b;simp only [bH] at b;obtain ⟨o,hc⟩:=KN a.1 (N3 x hx);exact ab8 o hc (kg b.1) (λy hy=>iH (dN.1 a.2 y hy))
 have a:=dN.1 sD x hx;obtain ⟨o,hc⟩:=KN a (N4 x hx);exact ab9 o hc (by have:=room_le _ _ fD x hx;omega)
end aI
namespace aI
def pR:List Int:=[0,97,115,109,1,0,0,0]
theorem aeG (s:AH) (j:Nat) (hj:j<8):(s.extract 0 8).toList[j]?=if h:j<s.size then some (s[j]'h) else none:=by
 rw [ByteArray.toList_eq,ByteArray.data_extract,Array.toList_extract,List.extract_eq_take_drop];simp only [gP,Nat.sub_zero];rw [List.getElem?_take_of_lt hj,Array.getElem?_toList];by_cases h:j<s.size
 ·rw [dif_pos h,wU (show j<s.data.size from h)];rfl
 rw [dif_neg h,Array.getElem?_eq_none (show s.data.size<=j from Nat.le_of_not_lt h)]
theorem aeH {s:AH} (h8:8<=s.size) (h:Ls s 0 pR):pfx s=true:=by
 unfold pfx;rw [bH,decide_eq_true_eq,beq_iff_eq];refine ⟨h8,List.ext_getElem? λj=>?_⟩;by_cases hj:j<8
 ·have hlt:j<s.size:=by omega
  rw [aeG s j hj,dif_pos hlt];have hb:=h j hj;rw [Nat.zero_add,<- af.get_bt s j hlt] at hb;have hc:j=0\/j=1\/j=2\/j=3\/j=4\/j=5\/j=6\/j=7:=by omega
  have key:∀(x:UInt8) (y:Nat),(x.toNat:Int)=(y:Int)->y<256->some x=some (UInt8.ofNat y):=λx y h1 h2=>by
   have:x.toNat=y:=by omega
   rw [<- this];simp
  rcases hc with rfl|rfl|rfl|rfl|rfl|rfl|rfl|rfl
  ·exact key _ 0 hb (by decide)
  ·exact key _ 97 hb (by decide)
  ·exact key _ 115 hb (by decide)
  ·exact key _ 109 hb (by decide)
  ·exact key _ 1 hb (by decide)
  ·exact key _ 0 hb (by decide)
  ·exact key _ 0 hb (by decide)
  exact key _ 0 hb (by decide)
 have hl:(s.extract 0 8).toList.length=8:=by
  rw [ByteArray.toList_eq,Array.length_toList];show (s.extract 0 8).size=8;rw [ByteArray.size_extract];omega
 rw [List.getElem?_eq_none (by rw [hl];omega),List.getElem?_eq_none (by show 8<=j;omega)]
theorem aeI {s:AH} (hz:s.size<=262144) (h8:8<=s.size) (hh:Ls s 0 pR) {X:R Sg} {f:Nat} (hf:f<=s.size+1) (hx:∀g,tY s (g+f) 0 yt 8=some X):zD s=X:=by
 unfold zD;rw [AD (by omega),AD (by rw [aeH h8 hh];decide)]
 have:=hx (s.size+1-f)
 rw [show s.size+1-f+f=s.size+1 by omega] at this;rw [this];rfl
theorem abS {m:Mod 81} {B:Nat->List Int} (hB:∀k,0<k->k<=11->KL m k (B k)) {s:AH} (hz:s.size<=262144) (hh:Ls s 0 pR) (hs:Ls s 8 (eZ B 0 11)) (hlen:8+(eZ B 0 11).length=s.size):zD s=.ok (stA m 11,s.size):=by
 obtain ⟨last,c,x1,x2,x3,x4⟩:=chain (m:=m) (B:=B) (a:=0) 11 (λk h1 h2=>hB k h1 (by omega)) s 8 0 hz (by omega) (by omega) hs (by omega);refine aeI hz (by omega) hh (f:=c+1) (by omega) λg=>?_;have e:=x4 (g+1);rw [abU,hlen] at e;rw [show g+(c+1)=g+1+c by omega,e];exact ab1 g
def qH (n:Nat):List Int:=[(n:Int)%128+128,(n:Int) / 128%128+128,(n:Int) / 16384%128+128,(n:Int) / 2097152%128+128,(n:Int) / 268435456]
theorem abT {n:Nat} (hn:n<=262144):KJ (qH n) n:=λs en i he h hi=>by
 have hi:i+5<=en:=hi;have hz:(s.extract 0 en).size=en:=by rw [ByteArray.size_extract];omega
 have hg:∀j,j<5->af.from_ (s.extract 0 en) i j=(qH n).getD j 0:=λj hj=>by
  have h1:=h j hj;rw [<- h1];show af.bt (s.extract 0 en) (i+j)=_;exact af.NF s en (i+j) (by omega) he
 have b0:=hg 0 (by decide);have b1:=hg 1 (by decide);have b2:=hg 2 (by decide);have b3:=hg 3 (by decide);have b4:=hg 4 (by decide);simp only [qH,nQ,nP] at b0 b1 b2 b3 b4
 have hgr:af.fO (af.from_ (s.extract 0 en) i) ((s.extract 0 en).size-i) 5 0=5:=by
  have g4:af.fO (af.from_ (s.extract 0 en) i) ((s.extract 0 en).size-i) 1 4=5:=af.Ai _ _ 1 4 (by omega) (by omega) (by omega);have g3:af.fO (af.from_ (s.extract 0 en) i) ((s.extract 0 en).size-i) 2 3=5:=(af.zf _ _ 2 3 (by omega) (by omega) (by omega)).trans g4;have g2:af.fO (af.from_ (s.extract 0 en) i) ((s.extract 0 en).size-i) 3 2=5:=(af.zf _ _ 3 2 (by omega) (by omega) (by omega)).trans g3;have g1:af.fO (af.from_ (s.extract 0 en) i) ((s.extract 0 en).size-i) 4 1=5:=(af.zf _ _ 4 1 (by omega) (by omega) (by omega)).trans g2;exact (af.zf _ _ 5 0 (by omega) (by omega) (by omega)).trans g1
 have hv:af.val (af.from_ (s.extract 0 en) i) 5=(n:Int):=by
  simp only [af.val];rw [b0,b1,b2,b3,b4];have e1:(128:Int) ^ 0=1:=by decide
  have e2:(128:Int) ^ 1=128:=by decide
  have e3:(128:Int) ^ 2=16384:=by decide
  have e4:(128:Int) ^ 3=2097152:=by decide
  have e5:(128:Int) ^ 4=268435456:=by decide
  rw [e1,e2,e3,e4,e5];omega
 have hR:af.ig (s.extract 0 en) i 32=((n:Int),(i:Int)+5,0):=by
  have fQ:af.asks (s.extract 0 en).size i 32=true:=ay ⟨.inl rfl,by omega,by omega⟩;unfold af.ig;rw [AE fQ,Int.toNat_natCast];show af.mK _ (af.fO _ _ 5 0) _ 32=_;rw [hgr];unfold af.mK;rw [hv,AD]
  ·rfl
  rintro (h|⟨_,h⟩|⟨h,_⟩)<;>omega
 unfold ru;rw [hR,AE rfl];show (Except.ok ((n:Int),((i:Int)+5).toNat):R Int)=.ok (_,i+5);rw [show ((i:Int)+5).toNat=i+5 by omega]
def ll (m:Mod 81) (k:Nat):List Int:=qF m k (af.uB ((gp m k).length:Int))
def ou (m:Mod 81) (k:Nat):List Int:=qF m k (qH (gp m k).length)
theorem aeJ (m:Mod 81) (k:Nat):eu (k:Int) (nI m k) (gp m k)=ll m k:=by
 unfold eu ll qF df;by_cases h:nI m k=0
 ·rw [AE h,AE h]
 rw [AD h,AD h,bw]
theorem BV (m:Mod 81):mR m=pR++eZ (ll m) 0 11:=by
 have e:∀k,ll m k=eu (k:Int) (nI m k) (gp m k):=λk=>(aeJ m k).symm;simp only [eZ,e];unfold mR;simp only [bw,fN];rfl
end aI
end Go.Proofs.YtcfifbgemfladaaGreatDoor

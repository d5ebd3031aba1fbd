/- Texts that the claim needs. -/
import Derived.Test.YtmfcojpjpgldhaaGreatDoorQEBy45
import Derived.Test.YtmfcojpjpgldhaaGreatDoorQEBy34
import Derived.Test.YtmfcojpjpgldhaaGreatDoorQEBy40
namespace Go.Proofs.YtmfcojpjpgldhaaGreatDoor
open Go.RowKit aA Enc Go.Lib Go.Proofs.Tryz
set_option linter.unusedVariables false
set_option maxRecDepth 100000
def AX {d:Nat} (m:Mod d):Prop:=(∀x ∈ m.funcs,NR d x.body)/\(∀x ∈ m.globals,r9 (NR d) x.init)/\(∀x ∈ m.elems,r9 (NR d) x.offset)/\(∀x ∈ m.ax,r9 (NR d) x.offset)
section Of
variable {H:Type} {enc:TypeId × Value->H} {w:World} {base:Nat} {spare:Nat->Bool} {held:Bool}
theorem G9 {n d:Nat} {cs:List Value} {y:DataW H × List MemPlace} {b o:Nat} (hn:n<=d) (hy:DataW.trod enc prog w base spare held n 49 cs=some y) (hc:∀j,j<7->w.cell? ⟨b,o+j,none⟩=cs[j]?):∃z:Ins (IL d),fA w (At w d) b o z/\r9 (NR d) z :=
 JZ hy hc λm v x hm hx=>J0 m d v x (by omega) hx
theorem Te {fuel d:Nat} {v0 v1 v2 v3 v4 v5 v6 v7 v8 v9:Value} {x:DataW H × List MemPlace} (hd:fuel<=d) (h:DataW.trod enc prog w base spare held fuel 32 [v0,v1,v2,v3,v4,v5,v6,v7,v8,v9]=some x) :
  ∃m:Mod d,da w d v0 v1 v2 v3 v4 v5 v6 v7 v8 v9 m/\AX m/\(∀x ∈ m.ax,x.bytes.size<=9223372036854775807)/\(∀x ∈ m.imports,x.mod.size<=9223372036854775807/\x.name.size<=9223372036854775807)/\(∀x ∈ m.exports,x.name.size<=9223372036854775807) /\
   (∀n c,v3=.slice none n c->c=0)/\(∀n c,v4=.slice none n c->c=0):=by
 obtain ⟨xs,m,rfl,_,_,hxl,hall⟩:=DataW.trod_struct underlying32 h;obtain ⟨y0,g0⟩:=ij hxl hall 0 _ rfl;obtain ⟨u0,e0,t0⟩:=oO underlying22 (by kernel_rfl) g0;obtain rfl:v0=u0:=by simpa using e0
 obtain ⟨y1,g1⟩:=ij hxl hall 1 _ rfl;obtain ⟨u1,e1,t1⟩:=oO underlying23 (by kernel_rfl) g1;obtain rfl:v1=u1:=by simpa using e1
 obtain ⟨y2,g2⟩:=ij hxl hall 2 _ rfl;obtain ⟨u2,e2,t2⟩:=oO underlying24 (by kernel_rfl) g2;obtain rfl:v2=u2:=by simpa using e2
 obtain ⟨y3,g3⟩:=ij hxl hall 3 _ rfl;obtain ⟨u3,e3,t3⟩:=oO underlying25 (by kernel_rfl) g3;obtain rfl:v3=u3:=by simpa using e3
 obtain ⟨y4,g4⟩:=ij hxl hall 4 _ rfl;obtain ⟨u4,e4,t4⟩:=oO underlying25 (by kernel_rfl) g4;obtain rfl:v4=u4:=by simpa using e4
 obtain ⟨y5,g5⟩:=ij hxl hall 5 _ rfl;obtain ⟨u5,e5,t5⟩:=oO underlying26 (by kernel_rfl) g5;obtain rfl:v5=u5:=by simpa using e5
 obtain ⟨y6,g6⟩:=ij hxl hall 6 _ rfl;obtain ⟨u6,e6,t6⟩:=oO underlying27 (by kernel_rfl) g6;obtain rfl:v6=u6:=by simpa using e6
 obtain ⟨y7,g7⟩:=ij hxl hall 7 _ rfl;obtain ⟨u7,e7,t7⟩:=oO underlying28 (by kernel_rfl) g7;obtain rfl:v7=u7:=by simpa using e7
 obtain ⟨y8,g8⟩:=ij hxl hall 8 _ rfl;obtain ⟨u8,e8,t8⟩:=oO underlying29 (by kernel_rfl) g8;obtain rfl:v8=u8:=by simpa using e8
 obtain ⟨y9,g9⟩:=ij hxl hall 9 _ rfl;obtain ⟨u9,e9,t9⟩:=oO underlying30 (by kernel_rfl) g9;obtain rfl:v9=u9:=by simpa using e9
 obtain ⟨⟨l0,h0⟩,_⟩:=uC (α:=FT) 2 (by omega) (nu w) underlying22 WC t0 λn cs y b o hn hy _ hc=>by
  obtain ⟨xs,k,rfl,_,_,hxl,hall⟩:=DataW.trod_struct underlying47 hy;obtain ⟨y0,g0⟩:=ij hxl hall 0 _ rfl;obtain ⟨y1,g1⟩:=ij hxl hall 1 _ rfl;obtain ⟨a0,e0,s0⟩:=oO underlying28 Cg g0;obtain ⟨a1,e1,s1⟩:=oO underlying28 Cg g1;obtain ⟨l0,i0⟩:=Ar s0;obtain ⟨l1,i1⟩:=Ar s1;exact ⟨⟨l0,l1⟩,⟨a0,(hc 0 (by omega)).trans e0,i0⟩,⟨a1,(hc 1 (by omega)).trans e1,i1⟩⟩
 obtain ⟨⟨l1,h1⟩,_⟩:=uC (α:=rY) 3 (by omega) (λb o x=>pU w b o x/\(x.mod.size<=9223372036854775807/\x.name.size<=9223372036854775807)) underlying23 WE t1 λn cs y b o hn hy _ hc=>by
  obtain ⟨xs,k,rfl,_,_,hxl,hall⟩:=DataW.trod_struct underlying77 hy;obtain ⟨y0,g0⟩:=ij hxl hall 0 _ rfl;obtain ⟨y1,g1⟩:=ij hxl hall 1 _ rfl;obtain ⟨y2,g2⟩:=ij hxl hall 2 _ rfl;obtain ⟨a0,e0,s0⟩:=EK underlying9 EL g0;obtain ⟨a1,e1,s1⟩:=EK underlying9 EL g1;obtain ⟨a2,e2,_⟩:=uA underlying3 tN g2;exact ⟨⟨a0,a1,a2⟩,⟨(hc 0 (by omega)).trans e0,(hc 1 (by omega)).trans e1,(hc 2 (by omega)).trans e2⟩,s0,s1⟩
 obtain ⟨⟨l2,h2⟩,_⟩:=uC (α:=gy d) 3 (by omega) (λb o x=>jW w d b o x/\NR d x.body) underlying24 WG t2 λn cs y b o hn hy _ hc=>by
  obtain ⟨xs,k,rfl,_,_,hxl,hall⟩:=DataW.trod_struct underlying45 hy;obtain ⟨y0,g0⟩:=ij hxl hall 0 _ rfl;obtain ⟨y1,g1⟩:=ij hxl hall 1 _ rfl;obtain ⟨y2,g2⟩:=ij hxl hall 2 _ rfl;obtain ⟨a0,e0,_⟩:=uA underlying3 tN g0;obtain ⟨a1,e1,s1⟩:=oO underlying28 Cg g1;obtain ⟨a2,e2,s2⟩:=oO underlying43 FQ g2;obtain ⟨i1,j1⟩:=Ar s1;obtain ⟨i2,j2,r2⟩:=J0 _ d _ _ (by omega) s2;exact ⟨⟨a0,i1,i2⟩,⟨(hc 0 (by omega)).trans e0,⟨a1,(hc 1 (by omega)).trans e1,j1⟩,⟨a2,(hc 2 (by omega)).trans e2,j2⟩⟩,r2⟩
 have hlim:∀ {n:Nat} {cs:List Value} {y:DataW H × List MemPlace} {b o:Nat},DataW.trod enc prog w base spare held n 80 cs=some y->(∀j,j<3->w.cell? ⟨b,o+j,none⟩=cs[j]?)->∃z,gD w b o z:=λ{n cs y b o} hy hc=>by
  obtain ⟨xs,k,rfl,_,_,hxl,hall⟩:=DataW.trod_struct underlying80 hy;obtain ⟨y0,g0⟩:=ij hxl hall 0 _ rfl;obtain ⟨y1,g1⟩:=ij hxl hall 1 _ rfl;obtain ⟨y2,g2⟩:=ij hxl hall 2 _ rfl;obtain ⟨a0,e0,_⟩:=uA underlying3 tN g0;obtain ⟨a1,e1,_⟩:=uA underlying3 tN g1;obtain ⟨a2,e2⟩:=LZ underlying4 L6 g2;exact ⟨⟨a0,a1,a2⟩,(hc 0 (by omega)).trans e0,(hc 1 (by omega)).trans e1,(hc 2 (by omega)).trans e2⟩
 obtain ⟨⟨l3,h3⟩,z3⟩:=uC (α:=gN) 3 (by omega) (gD w) underlying25 L8 t3 λn cs y b o _ hy _ hc=>hlim hy hc;obtain ⟨⟨l4,h4⟩,z4⟩:=uC (α:=gN) 3 (by omega) (gD w) underlying25 L8 t4 λn cs y b o _ hy _ hc=>hlim hy hc
 obtain ⟨⟨l5,h5⟩,_⟩:=uC (α:=qp d) 9 (by omega) (λb o x=>mN w d b o x/\r9 (NR d) x.init) underlying26 WH t5 λn cs y b o hn hy hl hc=>by
  obtain ⟨xs,k,rfl,_,_,hxl,hall⟩:=DataW.trod_struct underlying55 hy;obtain ⟨y0,g0⟩:=ij hxl hall 0 _ rfl;obtain ⟨y1,g1⟩:=ij hxl hall 1 _ rfl;obtain ⟨y2,g2⟩:=ij hxl hall 2 _ rfl;obtain ⟨a0,e0,_⟩:=uA underlying3 tN g0;obtain ⟨a1,e1⟩:=LZ underlying4 L6 g1;have g2:DataW.trod enc prog w base spare held k 49 ((cs.drop 2).take (prog.cellsOf 49))=some y2:=g2;rw [DZ] at g2
  obtain ⟨a2,i2,r2⟩:=G9 (d:=d) (b:=b) (o:=o+2) (by omega) g2 λj hj=>by
   rw [List.getElem?_take_of_lt hj,List.getElem?_drop,Nat.add_assoc];exact hc (2+j) (by omega)
  exact ⟨⟨a0,a1,a2⟩,⟨(hc 0 (by omega)).trans e0,(hc 1 (by omega)).trans e1,i2⟩,r2⟩
 obtain ⟨⟨l6,h6⟩,_⟩:=uC (α:=rZ) 3 (by omega) (λb o x=>pV w b o x/\x.name.size<=9223372036854775807) underlying27 WI t6 λn cs y b o hn hy _ hc=>by
  obtain ⟨xs,k,rfl,_,_,hxl,hall⟩:=DataW.trod_struct underlying83 hy;obtain ⟨y0,g0⟩:=ij hxl hall 0 _ rfl;obtain ⟨y1,g1⟩:=ij hxl hall 1 _ rfl;obtain ⟨y2,g2⟩:=ij hxl hall 2 _ rfl;obtain ⟨a0,e0,s0⟩:=EK underlying9 EL g0;obtain ⟨a1,e1,_⟩:=uA underlying3 tN g1;obtain ⟨a2,e2,_⟩:=uA underlying3 tN g2;exact ⟨⟨a0,a1,a2⟩,⟨(hc 0 (by omega)).trans e0,(hc 1 (by omega)).trans e1,(hc 2 (by omega)).trans e2⟩,s0⟩
 obtain ⟨l7,h7⟩:=Ar t7
 obtain ⟨⟨l8,h8⟩,_⟩:=uC (α:=qq d) 8 (by omega) (λb o x=>mO w d b o x/\r9 (NR d) x.offset) underlying29 WJ t8 λn cs y b o hn hy hl hc=>by
  obtain ⟨xs,k,rfl,_,_,hxl,hall⟩:=DataW.trod_struct underlying51 hy;obtain ⟨y0,g0⟩:=ij hxl hall 0 _ rfl;obtain ⟨y1,g1⟩:=ij hxl hall 1 _ rfl;have g0:DataW.trod enc prog w base spare held k 49 ((cs.drop 0).take (prog.cellsOf 49))=some y0:=g0;rw [DZ] at g0
  obtain ⟨a0,i0,r0⟩:=G9 (d:=d) (b:=b) (o:=o) (by omega) g0 λj hj=>by
   rw [List.getElem?_take_of_lt hj,List.getElem?_drop,Nat.zero_add];exact hc j (by omega)
  obtain ⟨a1,e1,s1⟩:=oO underlying28 Cg g1;obtain ⟨i1,j1⟩:=Ar s1;exact ⟨⟨a0,i1⟩,⟨i0,⟨a1,(hc 7 (by omega)).trans e1,j1⟩⟩,r0⟩
 obtain ⟨⟨l9,h9⟩,_⟩:=uC (α:=Dat d) 8 (by omega) (λb o x=>nR w d b o x/\(r9 (NR d) x.offset/\x.bytes.size<=9223372036854775807)) underlying30 WK t9 λn cs y b o hn hy hl hc=>by
  obtain ⟨xs,k,rfl,_,_,hxl,hall⟩:=DataW.trod_struct underlying53 hy;obtain ⟨y0,g0⟩:=ij hxl hall 0 _ rfl;obtain ⟨y1,g1⟩:=ij hxl hall 1 _ rfl;have g0:DataW.trod enc prog w base spare held k 49 ((cs.drop 0).take (prog.cellsOf 49))=some y0:=g0;rw [DZ] at g0
  obtain ⟨a0,i0,r0⟩:=G9 (d:=d) (b:=b) (o:=o) (by omega) g0 λj hj=>by
   rw [List.getElem?_take_of_lt hj,List.getElem?_drop,Nat.zero_add];exact hc j (by omega)
  obtain ⟨a1,e1,s1⟩:=EK underlying9 EL g1;exact ⟨⟨a0,a1⟩,⟨i0,(hc 7 (by omega)).trans e1⟩,r0,s1⟩
 exact ⟨⟨l0,l1,l2,l3,l4,l5,l6,l7,l8,l9⟩,⟨h0,h1.imp λ_ _ _ _ h=>h.1,h2.imp λ_ _ _ _ h=>h.1,h3,h4,h5.imp λ_ _ _ _ h=>h.1,h6.imp λ_ _ _ _ h=>h.1,h7,h8.imp λ_ _ _ _ h=>h.1,h9.imp λ_ _ _ _ h=>h.1⟩,⟨wQ h2,wQ h5,wQ h8,λx hx=>(wQ h9 x hx).1⟩,λx hx=>(wQ h9 x hx).2,wQ h1,wQ h6,z3,z4⟩
end Of
end Go.Proofs.YtmfcojpjpgldhaaGreatDoor
namespace Go.Proofs.YtmfcojpjpgldhaaGreatDoor
open Go.RowKit aA Enc Go.Lib
set_option linter.unusedVariables false
namespace Enc
theorem NZ:∀(d:Nat) (l:IL d),size d l=0->Rg d l
 | 0,_,_=>trivial
 | d+1,l,h=>by
  intro x hx
  have:(show List (Ins (IL d)) from l) = []:=mM.1 h
  rw [this] at hx;cases hx
theorem N7:∀(d:Nat) (l:IL d),size d l=0->(aQ d l).length=0
 | 0,_,_=>rfl
 | d+1,l,h=>by
  have e:(show List (Ins (IL d)) from l) = []:=mM.1 h;show (iX (aQ d) (size d) (show List (Ins (IL d)) from l)).length=0;rw [e];rfl
theorem N8 {a b n:Int} {nl nb ne:Nat} (h:bu a b n nl nb ne=true):nl=0/\nb=0/\ne=0:=by
 have:=of_decide_eq_true h;exact this.2.2.2
theorem Iq {d:Nat} {x:Ins (IL d)} (h:dX x=true) (hN:r9 (NR d) x):dM (Rg d) x/\(cn (aQ d) (size d) x).length<=100000100:=by
 unfold dX at h;rw [gm] at h;obtain ⟨h1,h2⟩:=h
 have hf:form x.op=9\/(form x.op=4\/form x.op=6\/form x.op=7):=by
  unfold qf at h1;rw [Bool.or_eq_true,Bool.or_eq_true] at h1;rcases h1 with (h1|h1)|h1
  ·left;rw [eq_of_beq h1];decide
  ·left;rw [eq_of_beq h1];decide
  right;rw [eq_of_beq h1];decide
 have hok:okF (form x.op) x.op x.a x.b x.n x.labels (size d x.body) (size d x.els)=true:=h2
 have hz:x.labels.length=0/\size d x.body=0/\size d x.els=0:=by
  have hok':=hok;unfold okF at hok';rcases hf with hf|hf
  ·rw [hf] at hok';rw [if_neg (by omega),if_neg (by omega),if_neg (by omega),if_neg (by omega),if_neg (by omega),if_neg (by omega),if_pos rfl,gm] at hok';exact N8 hok'.2
  rw [if_neg (by omega),if_neg (by omega),if_neg (by omega),if_pos hf,gm] at hok';exact N8 hok'.2
 obtain ⟨z1,z2,z3⟩:=hz;have R:dM (Rg d) x:=MH hok (by omega) hN.1 (NZ d _ z2) (NZ d _ z3);have hl:=MK (rec:=aQ d) (sz:=size d) R;have e1:=N7 d _ z2;have e2:=N7 d _ z3;exact ⟨R,by omega⟩
theorem rN {n:Nat} (h:few n=true):n<=4096:=by
 have:=of_decide_eq_true (p:=((n:Int)<=4096)) h;omega
theorem room_le {d:Nat}:∀(r:Nat) (l:List (Dat d)),room r l=true->∀x ∈ l,x.bytes.size<=r
 | _,[],_,x,hx=>by cases hx
 | r,y :: t,h,x,hx=>by
  have h':(decide (y.bytes.size<=r)&&room (r-y.bytes.size) t)=true:=h;rw [gm] at h';have h1:=of_decide_eq_true h'.1;rcases pR.1 hx with rfl|hx
  ·exact h1
  have:=room_le _ t h'.2 x hx;omega
theorem yD {d:Nat} {step:Unit->Sn->Nat->Option Unit}:∀(l:List (gy d)),fJ step d l ()=some ()->∀x ∈ l,jC step d x.body 0 ()=some ()
 | [],_,x,hx=>by cases hx
 | y :: r,h,x,hx=>by
  have h':((jC step d y.body 0 ()).bind λs1=>fJ step d r s1)=some ():=h;obtain ⟨s1,e1,h1⟩:=Option.bind_eq_some_iff.1 h';rcases pR.1 hx with rfl|hx
  ·exact e1
  exact yD r h1 x hx
def yY {d:Nat}:List (gy d)->Nat
 | []=>0
 | f :: r=>tot d f.body+yY r
theorem Oa {d:Nat}:∀(l:List (gy d)) (c c':Nat),c<=65536->fJ kG d l c=some c'->c'=c+yY l/\c'<=65536
 | [],c,c',hc,h=>by injection h with h;exact ⟨by show c'=c+0;omega,by omega⟩
 | y :: r,c,c',hc,h=>by
  have h':((jC kG d y.body 0 c).bind λs1=>fJ kG d r s1)=some c':=h;obtain ⟨s1,e1,h1⟩:=Option.bind_eq_some_iff.1 h';have t1:=MJ d _ _ _ _ e1;have t2:=Hk d _ _ _ _ hc e1;have t3:=Oa r s1 c' t2 h1;exact ⟨by show c'=c+(tot d y.body+yY r);omega,t3.2⟩
theorem Bu {α:Type} {f:α->List Int} (k:Nat):∀(l:List α),(∀x ∈ l,(f x).length<=k)->(l.flatMap f).length<=l.length*k
 | [],_=>by simp
 | x :: r,h=>by
  rw [List.flatMap_cons,aB,bI,Nat.add_mul];have h1:=h x (List.mem_cons_self ..);have h2:=Bu k r λy hy=>h y (List.mem_cons_of_mem _ hy);omega
theorem yZ (n:Nat) (h:n<=18446744073709551615):(ak.uB (n:Int)).length<=10:=ak.gT (by omega) (by omega)
theorem Ac {n:Int} (h:0<=n/\n<=4294967295):(ak.uB n).length<=10:=ak.gT h.1 (by omega)
theorem vn (id:Int) (n:Nat) (b:List Int) (k:Nat) (h:b.length<=k) (hk:k<=18446744073709551615):(eZ id n b).length<=k+11:=by
 unfold eZ dW
 have:=yZ b.length (by omega)
 split
 ·simp
 simp only [aB,bI,bP];omega
theorem xV {α:Type} (f:α->List Int) (l:List α) (n k:Nat) (hn:l.length<=n) (gW:n<=18446744073709551615) (h:∀x ∈ l,(f x).length<=k):(aZ f l).length<=10+n*k:=by
 unfold aZ;have h1:=yZ l.length (by omega);have h2:=Bu k l h;have h3:l.length*k<=n*k:=Nat.mul_le_mul_right _ hn;rw [aB];omega
theorem E5 (s:ByteArray) (n:Nat) (h:s.size<=n) (hn:n<=18446744073709551615):(sP s).length<=10+n:=by
 unfold sP;have h1:=yZ s.size (by omega);rw [aB,yj];omega
theorem aag (l:List Int) (n:Nat) (h:l.length<=n) (hn:n<=18446744073709551615) (hi:∀y ∈ l,0<=y/\y<=4294967295):(kv l).length<=10+n*10:=by
 unfold kv;have h1:=yZ l.length (by omega);have h2:=Bu (f:=ak.uB) 10 l λy hy=>Ac (hi y hy);rw [aB];omega
theorem Ob (l:List Int) (n:Nat) (h:l.length<=n) (hn:n<=18446744073709551615):(pM l).length<=10+n:=by
 unfold pM;have h1:=yZ l.length (by omega);have h2:=Bu (f:=λx:Int=>[x%256]) 1 l λy hy=>by simp
 rw [aB];omega
theorem Oc (x:gN) (h1:0<=x.min/\x.min<=4294967295) (h2:0<=x.max/\x.max<=4294967295):(ik x).length<=21:=by
 unfold ik;have a1:=Ac h1;have a2:=Ac h2
 have a3:(if x.has then ak.uB x.max else []:List Int).length<=10:=by
  split
  ·exact a2
  simp
 simp only [aB,bI,bP];omega
theorem aah (l:List Int) (n:Nat) (h:l.length<=n) (hn:n<=1000000):(uj l).length<=10+n*11:=by
 unfold uj;obtain ⟨b1,b2⟩:=xZ l;have h1:=yZ (rn l).length (by omega)
 have h2:=Bu (f:=λx:Int × Int=>ak.uB x.1++[x.2%256]) 11 (rn l) λy hy=>by
  have:=b2 y hy
  have h3:=ak.gT (n:=y.1) (by omega) (by omega);rw [aB];simp only [bI,bP];omega
 rw [aB];omega
theorem Od {d:Nat}:∀(l:List (gy d)),(∀x ∈ l,Rg d x.body/\x.locals.length<=256)->yY l<=65536->(l.flatMap λx=>dW (gG x)).length<=l.length*3000+yY l*100000100
 | [],_,_=>by simp
 | x :: r,h,ht=>by
  have ht':tot d x.body+yY r<=65536:=ht;have h1:=h x (List.mem_cons_self ..);have h2:=Od r (λy hy=>h y (List.mem_cons_of_mem _ hy)) (by omega);have h3:=Hl d x.body h1.1;have h4:=aah x.locals 256 h1.2 (by omega)
  have h5:(gG x).length<=2900+tot d x.body*100000100:=by
   unfold gG;simp only [aB,bI,bP];omega
  have h6:=yZ (gG x).length (by omega)
  have h7:(dW (gG x)).length<=2910+tot d x.body*100000100:=by
   unfold dW;rw [aB];omega
  rw [List.flatMap_cons,aB,bI];show _<=_+(tot d x.body+yY r)*100000100;omega
theorem aai {d:Nat} {m:Mod d} (hT:∀x ∈ m.types,x.params.length<=4096/\x.results.length<=4096) (hI:∀x ∈ m.imports,x.mod.size<=64/\x.name.size<=64/\0<=x.type/\x.type<=4294967295) (hF:∀x ∈ m.funcs,(0<=x.type/\x.type<=4294967295)/\Rg d x.body/\x.locals.length<=256)
  (hB:∀x ∈ m.tables,(0<=x.min/\x.min<=4294967295)/\0<=x.max/\x.max<=4294967295) (hM:∀x ∈ m.aD,(0<=x.min/\x.min<=4294967295)/\0<=x.max/\x.max<=4294967295) (hG:∀x ∈ m.globals,(cn (aQ d) (size d) x.init).length<=100000100)
  (hX:∀x ∈ m.exports,x.name.size<=64/\0<=x.index/\x.index<=4294967295) (hS:∀x ∈ m.start,0<=x/\x<=4294967295) (hE:∀x ∈ m.elems,(cn (aQ d) (size d) x.offset).length<=100000100/\(∀y ∈ x.funcs,0<=y/\y<=4294967295)/\x.funcs.length<=4096)
  (hD:∀x ∈ m.ax,(cn (aQ d) (size d) x.offset).length<=100000100/\x.bytes.size<=262144) (ht:yY m.funcs<=65536)
  (n0:m.types.length<=4096) (n1:m.imports.length<=4096) (n2:m.funcs.length<=4096) (n3:m.tables.length<=4096) (n4:m.aD.length<=4096) (n5:m.globals.length<=4096) (n6:m.exports.length<=4096) (n7:m.start.length<=4096) (n8:m.elems.length<=4096) (n9:m.ax.length<=4096):(sQ m).length<=38000000000000:=by
 have s0:=vn 1 m.types.length _ _ (xV nJ m.types 4096 9000 n0 (by omega) λx hx=>by
  have h:=hT x hx;have a1:=Ob x.params 4096 h.1 (by omega);have a2:=Ob x.results 4096 h.2 (by omega);unfold nJ;simp only [aB,bI,bP];omega) (by omega)
 have s1:=vn 2 m.imports.length _ _ (xV nK m.imports 4096 9000 n1 (by omega) λx hx=>by
  have h:=hI x hx;have a1:=E5 x.mod 64 h.1 (by omega);have a2:=E5 x.name 64 h.2.1 (by omega);have a3:=Ac h.2.2;unfold nK;simp only [aB,bI,bP];omega) (by omega)
 have s2:=vn 3 m.funcs.length _ _ (xV (λx:gy d=>ak.uB x.type) m.funcs 4096 10 n2 (by omega) λx hx=>Ac (hF x hx).1) (by omega)
 have s3:=vn 4 m.tables.length _ _ (xV (λx:gN=>[112]++ik x) m.tables 4096 30 n3 (by omega) λx hx=>by
  have a:=Oc x (hB x hx).1 (hB x hx).2;simp only [aB,bI,bP];omega) (by omega)
 have s4:=vn 5 m.aD.length _ _ (xV ik m.aD 4096 21 n4 (by omega) λx hx=>Oc x (hM x hx).1 (hM x hx).2) (by omega)
 have s5:=vn 6 m.globals.length _ _ (xV mb m.globals 4096 100000200 n5 (by omega) λx hx=>by
  have h:=hG x hx;unfold mb;simp only [aB,bI,bP];omega) (by omega)
 have s6:=vn 7 m.exports.length _ _ (xV nM m.exports 4096 9000 n6 (by omega) λx hx=>by
  have h:=hX x hx;have a1:=E5 x.name 64 h.1 (by omega);have a2:=Ac h.2;unfold nM;simp only [aB,bI,bP];omega) (by omega)
 have s7:=vn 8 m.start.length (m.start.flatMap ak.uB) 50000 (by
  have a:=Bu (f:=ak.uB) 10 m.start λx hx=>Ac (hS x hx);omega) (by omega)
 have s8:=vn 9 m.elems.length _ _ (xV lD m.elems 4096 100100000 n8 (by omega) λx hx=>by
  have h:=hE x hx;have a1:=aag x.funcs 4096 h.2.2 (by omega) h.2.1;have a2:=h.1;unfold lD;simp only [aB,bI,bP];omega) (by omega)
 have s9:=vn 10 m.funcs.length (aZ (λx:gy d=>dW (gG x)) m.funcs) 7000000000000 (by
  have a:=Od m.funcs (λx hx=>(hF x hx).2) ht;have b:=yZ m.funcs.length (by omega);unfold aZ;rw [aB];omega) (by omega)
 have s10:=vn 11 m.ax.length _ _ (xV lF m.ax 4096 101000000 n9 (by omega) λx hx=>by
  have h:=hD x hx;have a1:=E5 x.bytes 262144 h.2 (by omega);have a2:=h.1;unfold lF;simp only [aB,bI,bP];omega) (by omega)
 unfold sQ;simp only [aB,bI,bP];omega
theorem LD {d:Nat} {m:Mod d} (h:mF m=0) (hN:AX m):Wr m:=by
 obtain ⟨hf,⟨c,hc⟩,hL,hs,hF⟩:=YH h;obtain ⟨N1,N2,N3,N4⟩:=hN;have ht:=(Oa m.funcs 0 c (by omega) hc);unfold nO at hf;simp only [gm,List.all_cons,List.all_nil] at hf;unfold uJ at hs;simp only [gm] at hs;obtain ⟨⟨f0,f1,f2,f3,f4,_⟩,⟨f5,f6,f8,f9,_⟩,f7,fT,fL,fE,fD⟩:=hf;obtain ⟨sT,sI,sF,sL,sG,sX,sS,sE,sD⟩:=hs;have n0:=rN f0;have n1:=rN f1;have n2:=rN f2;have n3:=rN f3;have n4:=rN f4;have n5:=rN f5;have n6:=rN f6;have n8:=rN f8;have n9:=rN f9
 have n7:m.start.length<=1:=by
  have:=of_decide_eq_true (p:=((m.start.length:Int)<=1)) f7;omega
 have hT:∀x ∈ m.types,x.params.length<=4096/\x.results.length<=4096:=λx hx=>by
  have:=iF.1 fT x hx
  unfold zN at this;simp only [gm] at this;exact ⟨rN this.1,rN this.2.1⟩
 have hI:∀x ∈ m.imports,x.mod.size<=64/\x.name.size<=64/\0<=x.type/\x.type<=4294967295:=λx hx=>by
  have:=iF.1 sI x hx
  unfold vJ nm at this;simp only [gm] at this;obtain ⟨⟨a,b,_⟩,e,_⟩:=this;have a:=of_decide_eq_true a.1;have b:=of_decide_eq_true b.1;exact ⟨by omega,by omega,tX e⟩
 have Oe:∀x ∈ m.funcs,(0<=x.type/\x.type<=4294967295)/\Rg d x.body/\x.locals.length<=256:=λx hx=>by
  have a:=iF.1 sF x hx;have b:=of_decide_eq_true (p:=((x.locals.length:Int)<=256)) (iF.1 fL x hx);unfold rM at a;simp only [gm] at a;exact ⟨tX a.1.1,rg_of d x.body 0 (yD _ hF x hx) (yD _ hL x hx) (N1 x hx),by omega⟩
 have vN:∀x ∈ m.tables++m.aD,(0<=x.min/\x.min<=4294967295)/\0<=x.max/\x.max<=4294967295:=λx hx=>by
  have a:=iF.1 sL x hx;unfold cB at a;simp only [gm] at a;exact ⟨tX a.1.1,tX a.1.2.1⟩
 have hB:=λx hx=>vN x (List.mem_append_left _ hx);have hM:=λx hx=>vN x (List.mem_append_right _ hx)
 have hG:=λx (hx:x ∈ m.globals)=>by
  have a:=iF.1 sG x hx;unfold nP at a;simp only [gm] at a;exact Iq a.2 (N2 x hx)
 have hX:∀x ∈ m.exports,x.name.size<=64/\0<=x.index/\x.index<=4294967295:=λx hx=>by
  have a:=iF.1 sX x hx;unfold mg nm at a;simp only [gm] at a;obtain ⟨⟨a,_⟩,_,e,_⟩:=a;have a:=of_decide_eq_true a.1;exact ⟨by omega,tX e⟩
 have hS:∀x ∈ m.start,0<=x/\x<=4294967295:=λx hx=>tX (iF.1 sS x hx)
 have hE:=λx (hx:x ∈ m.elems)=>by
  have a:=iF.1 sE x hx;simp only [gm] at a;have b:=iF.1 fE x hx;unfold sN at b;simp only [gm] at b;exact (⟨Iq a.1 (N3 x hx),λy hy=>tX (iF.1 a.2 y hy),rN b.1⟩:_/\(∀y ∈ x.funcs,0<=y/\y<=4294967295)/\x.funcs.length<=4096)
 have hD:=λx (hx:x ∈ m.ax)=>by
  have a:=iF.1 sD x hx;exact (⟨Iq a (N4 x hx),room_le _ _ fD x hx⟩:_/\x.bytes.size<=262144)
 refine ⟨λx hx=>?_,λx hx=>?_,λx hx=>?_,hB,hM,λx hx=>(hG x hx).1,λx hx=>?_,hS,λx hx=>?_,λx hx=>?_,by omega,?_,λx hx y hy=>?_,n7⟩
 ·have:=hT x hx;omega
 ·have:=hI x hx;omega
 ·have:=Oe x hx;exact ⟨this.1,this.2.1,by omega⟩
 ·have:=hX x hx;omega
 ·have:=hE x hx;exact ⟨this.1.1,this.2.1,by omega⟩
 ·have:=hD x hx;exact ⟨this.1.1,by omega⟩
 ·exact aai hT hI Oe hB hM (λx hx=>(hG x hx).2) hX hS (λx hx=>⟨(hE x hx).1.2,(hE x hx).2⟩) (λx hx=>⟨(hD x hx).1.2,(hD x hx).2⟩) (by omega) n0 n1 n2 n3 n4 n5 n6 (by omega) n8 n9
 have a:=iF.1 sF x hx;unfold rM at a;simp only [gm] at a;exact of_decide_eq_true (iF.1 a.2 y hy)
end Enc
namespace Enc
theorem Et {α β:Type} {c:Nat} {f:Nat->Nat->α->Prop} {g:Nat->Nat->β->Prop} {P:β->Prop} {Q:α->Prop} {v:Value} {l:List α} {k:List β} (hl:Row c f v l) (hk:Row c g v k) (h:∀b o x y,f b o x->g b o y->P y->Q x) (hP:∀y ∈ k,P y):∀x ∈ l,Q x:=by
 intro x hx;obtain ⟨i,hi,rfl⟩:=List.getElem_of_mem hx;obtain ⟨b,off,cap,hv,hc⟩:=Row.some hl (by omega);obtain ⟨o2,cap2,hv2⟩:=Row.len hk;rw [hv] at hv2;injection hv2 with _ hlen _;obtain ⟨b',off',cap',hv',hc'⟩:=Row.some hk (by omega);rw [hv] at hv';injection hv' with ha _ _;injection ha with ha;injection ha with hb ho _;subst hb ho;obtain ⟨y,hy⟩:∃y,k[i]?=some y:=⟨_,aY (by omega)⟩;exact h _ _ _ _ (hc i _ (aY hi)) (hc' i y hy) (hP y (dK hy))
theorem GD {w:World} {d e:Nat} {b o:Nat} {x:Ins (IL d)} {y:Ins (IL e)} (hX:fA w (At w d) b o x) (hY:fA w (At w e) b o y) (hN:r9 (NR e) y):r9 (NR d) x:=by
 obtain ⟨n1,n2,n3⟩:=hN;obtain ⟨v5,c5,a5⟩:=hX.body;obtain ⟨v6,c6,a6⟩:=hX.els;obtain ⟨u5,d5,b5⟩:=hY.body;obtain ⟨u6,d6,b6⟩:=hY.els;have e5:v5=u5:=by rw [c5] at d5;exact Option.some.inj d5
 have e6:v6=u6:=by rw [c6] at d6;exact Option.some.inj d6
 have en:x.n=y.n:=by
  have h1:=hX.n;rw [hY.n] at h1;injection h1 with h1;injection h1 with _ h1;exact h1.symm
 exact ⟨by rw [en];exact n1,Cf d e v5 _ y.body a5 (e5 ▸ b5) n2,Cf d e v6 _ y.els a6 (e6 ▸ b6) n3⟩
theorem U0 {w:World} {d e:Nat} {v0 v1 v2 v3 v4 v5 v6 v7 v8 v9:Value} {m:Mod d} {k:Mod e} (hM:da w d v0 v1 v2 v3 v4 v5 v6 v7 v8 v9 m) (hK:da w e v0 v1 v2 v3 v4 v5 v6 v7 v8 v9 k) (hN:AX k):AX m:=by
 obtain ⟨N1,N2,N3,N4⟩:=hN;refine ⟨Et hM.funcs hK.funcs (λb o x y hx hy hn=>?_) N1,Et hM.globals hK.globals (λb o x y hx hy hn=>GD hx.init hy.init hn) N2,Et hM.elems hK.elems (λb o x y hx hy hn=>GD hx.offset hy.offset hn) N3,Et hM.ax hK.ax (λb o x y hx hy hn=>GD hx.offset hy.offset hn) N4⟩;obtain ⟨v,c,a⟩:=hx.body;obtain ⟨u,c',a'⟩:=hy.body;have e1:v=u:=by rw [c] at c';exact Option.some.inj c'
 exact Cf d e v _ y.body a (e1 ▸ a') hn
theorem U1 {d:Nat} (m:Mod d):∃S E,AY m=.tuple #[.string S,.int .i64 E]:=by
 unfold AY;split
 ·exact ⟨_,_,GF _⟩
 exact ⟨_,_,rfl⟩
end Enc
end Go.Proofs.YtmfcojpjpgldhaaGreatDoor

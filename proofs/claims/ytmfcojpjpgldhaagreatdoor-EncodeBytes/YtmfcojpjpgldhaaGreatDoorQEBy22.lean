/- Texts that the claim needs. -/
import Derived.Test.YtmfcojpjpgldhaaGreatDoorQEBy21
namespace Go.Proofs.YtmfcojpjpgldhaaGreatDoor
open Go.RowKit aA Enc Go.Lib
set_option linter.unusedVariables false
namespace Enc
theorem MC:∀(f:Nat) (a b:Int),a.toNat<=f->0<=a->a<=b->(ak.uB a).length<=(ak.uB b).length
 | 0,a,b,hf,h0,hab=>by
  rw [ak.yh h0 (by omega)];exact ak.yt b
 | f+1,a,b,hf,h0,hab=>by
  by_cases ha:a<128
  ·rw [ak.yh h0 ha];exact ak.yt b
  rw [ak.Aw (by omega),ak.Aw (n:=b) (by omega)]
  have:=MC f (a / 128) (b / 128) (by omega) (by omega) (by omega)
  simp only [bI];omega
def tC (acc:List (Int × Int)) (t:Int):List (Int × Int) :=
 match acc.getLast? with
 | some (c,t')=>if t'=t then acc.dropLast++[(c+1,t)] else acc++[(1,t)]
 | none=>[(1,t)]
def rn (l:List Int):List (Int × Int):=l.foldl tC []
theorem Yu (l:List Int) (t:Int):rn (l++[t])=tC (rn l) t:=by unfold rn;rw [List.foldl_append];rfl
theorem Ao {l:List Int} {j:Nat} {t:Int} (h:l[j]?=some t):rn (l.take (j+1))=tC (rn (l.take j)) t:=by
 rw [List.take_add_one,h];exact Yu _ _
theorem Yv (acc:List (Int × Int)) (t:Int):∃pre c,tC acc t=pre++[(c,t)]:=by
 unfold tC;split
 ·split
  ·exact ⟨_,_,rfl⟩
  exact ⟨_,_,rfl⟩
 exact ⟨[],1,rfl⟩
theorem Yw {l:List Int} {j:Nat} {t:Int} (h:l[j]?=some t):∃pre c,rn (l.take (j+1))=pre++[(c,t)]:=by
 rw [Ao h];exact Yv _ _
theorem JJ {pre:List (Int × Int)} {c t:Int}:tC (pre++[(c,t)]) t=pre++[(c+1,t)]:=by
 unfold tC;simp
theorem JK {pre:List (Int × Int)} {c t s:Int} (h:s≠t):tC (pre++[(c,s)]) t=(pre++[(c,s)])++[(1,t)]:=by
 unfold tC;simp [h]
theorem PV (t:Int):tC [] t = [(1,t)]:=rfl
theorem xZ (l:List Int):(rn l).length<=l.length/\∀x ∈ rn l,1<=x.1/\x.1<=l.length/\x.2 ∈ l:=by
 have key:∀j,j<=l.length->(rn (l.take j)).length<=j/\∀x ∈ rn (l.take j),1<=x.1/\x.1<=j/\x.2 ∈ l:=by
  intro j
  induction j with
  | zero=>intro _;simp [rn]
  | succ j ih =>
   intro hj;obtain ⟨h1,h2⟩:=ih (by omega);obtain ⟨t,ht⟩:∃t,l[j]?=some t:=⟨_,aY (by omega)⟩;have hm:=dK ht;rw [Ao ht];unfold tC;split
   ·rename_i c t' hl;have hmem:(c,t') ∈ rn (l.take j):=List.mem_of_getLast? hl;obtain ⟨g1,g2,g3⟩:=h2 _ hmem;split
    ·refine ⟨by rw [aB,List.length_dropLast];simp;omega,λx hx=>?_⟩;rcases List.mem_append.1 hx with hx|hx
     ·have:=h2 x (List.dropLast_subset _ hx);exact ⟨this.1,by have:=this.2.1;omega,this.2.2⟩
     rw [List.mem_singleton.1 hx];exact ⟨by show 1<=c+1;simp at g1;omega,by show c+1<=_;simp at g2;omega,hm⟩
    refine ⟨by simp;omega,λx hx=>?_⟩;rcases List.mem_append.1 hx with hx|hx
    ·have:=h2 x hx;exact ⟨this.1,by have:=this.2.1;omega,this.2.2⟩
    rw [List.mem_singleton.1 hx];exact ⟨by show (1:Int)<=1;omega,by show (1:Int)<=_;omega,hm⟩
   refine ⟨by simp,λx hx=>?_⟩;rw [List.mem_singleton.1 hx];exact ⟨by show (1:Int)<=1;omega,by show (1:Int)<=_;omega,hm⟩
 have:=key l.length (aI _)
 rwa [jZ (aI _)] at this
def uj (l:List Int):List Int:=ak.uB ((rn l).length:Int)++(rn l).flatMap λx=>ak.uB x.1++[x.2%256]
def dW (b:List Int):List Int:=ak.uB (b.length:Int)++b
def gG {d:Nat} (x:gy d):List Int:=uj x.locals++(aQ d x.body++[11])
def sP (s:ByteArray):List Int:=ak.uB (s.size:Int)++nums s
def nJ (x:FT):List Int:=[96]++pM x.params++pM x.results
def nK (x:rY):List Int:=sP x.mod++sP x.name++[0]++ak.uB x.type
def nM (x:rZ):List Int:=sP x.name++[x.kind%256]++ak.uB x.index
def mb {d:Nat} (x:qp d):List Int:=[x.type%256]++[one x.jL]++(cn (aQ d) (size d) x.init++[11])
def lD {d:Nat} (x:qq d):List Int:=[0]++(cn (aQ d) (size d) x.offset++[11])++kv x.funcs
def lF {d:Nat} (x:Dat d):List Int:=[0]++(cn (aQ d) (size d) x.offset++[11])++sP x.bytes
def eZ (id:Int) (n:Nat) (b:List Int):List Int:=if n=0 then [] else [id]++dW b
def aZ {α:Type} (f:α->List Int) (l:List α):List Int:=ak.uB (l.length:Int)++l.flatMap f
def sQ {d:Nat} (m:Mod d):List Int :=
 [0,97,115,109,1,0,0,0]++eZ 1 m.types.length (aZ nJ m.types)++eZ 2 m.imports.length (aZ nK m.imports)++eZ 3 m.funcs.length (aZ (λx=>ak.uB x.type) m.funcs) ++
 eZ 4 m.tables.length (aZ (λx=>[112]++ik x) m.tables)++eZ 5 m.aD.length (aZ ik m.aD)++eZ 6 m.globals.length (aZ mb m.globals)++eZ 7 m.exports.length (aZ nM m.exports) ++
 eZ 8 m.start.length (m.start.flatMap ak.uB)++eZ 9 m.elems.length (aZ lD m.elems)++eZ 10 m.funcs.length (aZ (λx=>dW (gG x)) m.funcs)++eZ 11 m.ax.length (aZ lF m.ax)
theorem ry {α:Type} {f:α->List Int} {l:List α} {j:Nat} {x:α} (hx:l[j]?=some x):(l.take (j+1)).flatMap f=(l.take j).flatMap f++f x:=by
 rw [List.take_add_one,hx,vR];simp
theorem So.sized {bs b add:List Int} (h:So bs add b) (x:List Int) (hx:x=b.take bs.length++(ak.uB ((b.length-bs.length:Nat):Int)++b.drop bs.length)) (hle:bs.length<=b.length:=h.1.le):So bs (dW add) x:=by
 have hm:(ak.uB ((b.length-bs.length:Nat):Int)).length<=(ak.uB (add.length:Int)).length:=MC _ _ _ (aI _) (by omega) (by have:=h.2;omega)
 have hl:x.length=b.length+(ak.uB ((b.length-bs.length:Nat):Int)).length:=by
  rw [hx,aB,aB,jY,p7];omega
 have h2:=h.2;refine ⟨?_,by rw [hl];unfold dW;rw [aB];omega⟩;rcases h.1 with rfl|⟨h3,h4,h5⟩
 ·refine .inl ?_;rw [hx];unfold dW;simp
 exact .inr ⟨by omega,by unfold dW;rw [aB];omega,by omega⟩
end Enc
end Go.Proofs.YtmfcojpjpgldhaaGreatDoor
namespace Go.Proofs.YtmfcojpjpgldhaaGreatDoor
open Go.RowKit aA Enc Go.Lib Go.Proofs.Tryz
set_option linter.unusedVariables false
set_option maxRecDepth 100000
set_option maxHeartbeats 4000000
namespace Enc
theorem aap:(prog.info? 125).map (λi=>(i.zero,i.size,i.bytes))=some (some (.agg #[.int .i64 0,.int .i64 0]),2,16):=by kernel_rfl
def mU (l:List (Int × Int)):List Value:=l.flatMap λx=>[.int .i64 x.1,.int .i64 x.2]
theorem E8 (a b:List (Int × Int)):mU (a++b)=mU a++mU b:=by unfold mU;rw [vR]
theorem ID (a:List (Int × Int)):(mU a).length=2*a.length:=by
 induction a with
 | nil=>rfl
 | cons x r ih=>unfold mU at ih ⊢;rw [List.flatMap_cons,aB,ih];simp;omega
theorem Ga:∀(l:List (Int × Int)) (i:Nat) (x:Int × Int),l[i]?=some x->(mU l)[2*i]?=some (.int .i64 x.1)/\(mU l)[2*i+1]?=some (.int .i64 x.2)
 | [],i,x,h=>by simp at h
 | y :: r,0,x,h=>by
  obtain rfl:y=x:=by simpa using h
  exact ⟨rfl,rfl⟩
 | y :: r,i+1,x,h=>by
  have:=Ga r i x (by simpa using h)
  rw [show 2*(i+1)=2*i+2 by omega,show 2*i+2+1=(2*i+1)+2 by omega];exact ⟨by unfold mU at this ⊢;simpa using this.1,by unfold mU at this ⊢;simpa using this.2⟩
theorem aaq {w:World} {B k:Nat} {v:Value} {pre:List (Int × Int)} {c t:Int} (h:w.ownsRow B 125 2 v (pre.length+1) (mU (pre++[(c,t)]))) :
  ∃g cap,v=.slice (some ⟨g,0,none⟩) (pre.length+1) cap/\B<=g/\g<w.heap.size/\w.cell? ⟨g,pre.length*2,none⟩=some (.int .i64 c)/\w.frozen? ⟨g,pre.length*2,none⟩=false /\
   (w.setCell ⟨g,pre.length*2,none⟩ (.int .i64 (c+1))).ownsRow B 125 2 v (pre.length+1) (mU (pre++[(c+1,t)])):=by
 rcases h.2 with ⟨rfl,h0⟩|⟨g,cap,cur,rfl,hb,hg,hn,hc,hs,ht⟩
 ·omega
 have hcell:(mU (pre++[(c,t)]))[2*pre.length]?=some (.int .i64 c):=(Ga _ _ (c,t) (by simp)).1
 have FP:cur[pre.length*2]?=some (.int .i64 c):=by
  rw [<- ht,List.getElem?_take] at hcell;split at hcell
  ·rw [Nat.mul_comm];simpa using hcell
  cases hcell
 refine ⟨g,cap,rfl,hb,(kD.1 hg).1,?_,by unfold World.frozen?;rw [hg];simp,?_⟩
 ·rw [cell_of_row w g _ cur _ _ hg];exact FP
 refine ⟨by rw [ID,aB];simp;omega,.inr ⟨g,cap,cur.setIfInBounds (pre.length*2) (.int .i64 (c+1)),rfl,hb,heap_setCell_same w g _ cur _ _ hg,hn,hc,by rw [Array.size_setIfInBounds];exact hs,?_⟩⟩;rw [Array.toList_setIfInBounds,List.take_set,ht,E8,E8,List.set_append,if_neg (by rw [ID];omega)];rw [show pre.length*2-(mU pre).length=0 by rw [ID];omega];rfl
theorem Ov (w:World) (x y:Value) (t:TypeId):∀(j:Nat) (u:Value),[x,y][j]?=some u->(w.alloc (.cells #[x,y] t)).cell? ((⟨w.heap.size,0,none⟩:Addr).add j)=some u:=by
 intro j u hu;rw [Addr.add_lit,World.cell?_alloc_at _ t _ _ rfl,Nat.zero_add];simpa using hu
theorem Ow (a b:Int):∀u ∈ [Value.int .i64 a,.int .i64 b],u.oneCell'=true:=by
 intro u hu;rcases pR.1 hu with rfl|hu
 ·rfl
 rw [List.mem_singleton.1 hu];rfl
end Enc
theorem RZ (lv:Value) (l:List Int) (w:World) (hL:Ints w lv l) (hl:l.length<=10000000) :
  Calls prog 109 #[lv] w λe w'=>∃v',e=.returned v'/\w'.ownsRow w.heap.size 125 2 v' (rn l).length (mU (rn l))/\Below w.heap.size w w':=by
 obtain ⟨oL,kL,rfl⟩:=Row.len hL;obtain ⟨i0,hi,hz0,hz1,hz2⟩:=info_parts aap;have HL:=aa hL;clear hL;generalize hna:l.length=n at *;go_enter func109,ntmps109;go_wp2_with fail;go_loopw [3,8] (λt i wr=>∃(j:Nat) (tv:Value),j<=n/\i=.int .i64 j/\tv=t/\Hid (wr.ownsRow w.heap.size 125 2 tv (rn (l.take j)).length (mU (rn (l.take j))))/\Hid (Below w.heap.size w wr)) (λ_ i _=>n-(RowKit.intOf i).toNat)
 case atStart=>exact ⟨0,_,by omega,rfl,rfl,aa (by simpa [rn,mU] using World.ownsRow_nil w w.heap.size 125 2),aa (Below.refl _ _)⟩
 case round =>
  obtain ⟨j,tv,hj,rfl,rfl,HO,HB⟩:=hrel;by_cases hgo:j<n
  ·obtain ⟨b1,aJ,gb,hv1,hx1⟩:=Row.some HL.out (by omega);injection hv1 with cJ e11 e12;subst cJ;clear e11 e12;obtain ⟨t,htk⟩:∃t,l[j]?=some t:=⟨_,aY (by omega)⟩;have ct:=aj HB.out (hx1 j t htk);simp only [Nat.mul_one] at ct;have iQ:=aa htk;clear htk;have hsz:w.heap.size<=wr.heap.size:=HB.out.size
   have fin:∀(pre:List (Int × Int)) (c:Int) (v9:Value) (w9:World),rn (l.take (j+1))=pre++[(c+1,t)]->w9.ownsRow w.heap.size 125 2 v9 (pre.length+1) (mU (pre++[(c,t)]))->Below w.heap.size w w9 ->
     ∃g cap,v9=.slice (some ⟨g,0,none⟩) (pre.length+1) cap/\w9.cell? ⟨g,pre.length*2,none⟩=some (.int .i64 c)/\w9.frozen? ⟨g,pre.length*2,none⟩=false /\
      Hid ((w9.setCell ⟨g,pre.length*2,none⟩ (.int .i64 (c+1))).ownsRow w.heap.size 125 2 v9 (rn (l.take (j+1))).length (mU (rn (l.take (j+1)))))/\Hid (Below w.heap.size w (w9.setCell ⟨g,pre.length*2,none⟩ (.int .i64 (c+1)))):=λpre c v9 w9 e h hb=>by
    obtain ⟨g,cap,h1,h2,h3,h4,h5,h6⟩:=aaq (k:=0) h;exact ⟨g,cap,h1,h4,h5,aa (by rw [e,aB];exact h6),aa (hb.setCell (p:=⟨g,_,none⟩) h2 _)⟩
   have wH:=aa fin;clear fin;have hkb:(rn (l.take j)).length<=10000000:=by have:=(xZ (l.take j)).1;rw [jY] at this;omega
   obtain ⟨o3,k3,rfl⟩:∃o3 k3,tv=.slice o3 (rn (l.take j)).length k3:=by
    rcases HO.out.2 with ⟨rfl,h0⟩|⟨g,cap,cur,rfl,_⟩
    ·rw [h0];exact ⟨_,_,rfl⟩
    exact ⟨_,_,rfl⟩
   obtain ⟨K,E9⟩:∃K,(rn (l.take j)).length=K:=⟨_,rfl⟩;have Ae:=aa E9;rw [E9] at HO hkb;have HK:=aa hkb;rw [E9];clear E9 hkb;rcases Nat.eq_zero_or_pos j with rfl|hj0
   ·have e1:rn (l.take (0+1))=rn (l.take 0)++[((0:Int)+1,t)]:=by rw [Ao iQ.out];rfl
    have zR:=aa e1;clear e1;simp only [Nat.add_zero] at ct;go_wp2_with (first|(at_builtin;refine rX rfl _ _ 122 rfl w.heap.size 125 i0 _ 2 16 underlying122 hi hz0 hz1 hz2 rfl (by decide) _ _ _ rfl (DY HO.out (aU _ _)) (some ⟨wr.heap.size,0,none⟩) 1 1 [.int .i64 0,.int .i64 t] rfl ?c6 ?c0 ?c1 ?c2 ?c3 ?c4 ?c5 ?_))
    case c6=>intro h;cases h
    case c0=>rfl
    case c1=>exact λad h=>by injection h with h;subst h;exact Ov _ _ _ _
    case c2=>exact Ow _ _
    case c3=>have:=HK.out;unfold maxLen;omega
    case c4=>have:=HK.out;omega
    case c5=>exact tL hsz (aU _ _).size
    intro v' w9 hown hg hv;have Af:=HB.out.trans ((aU wr (.cells #[.int .i64 0,.int .i64 t] 125)).mono HB.out.size);obtain ⟨g,cap,rfl,Fa,Fb,xF,dA⟩:=wH.out (rn (l.take 0)) 0 v' w9 zR.out (by rw [E8,Ae.out];exact hown) (Af.grown hg Af.size λk hk=>(HO.out.lt k hk).1);clear hown hg hv Af HO wH;rw [Ae.out] at Fa Fb xF dA;rw [Ae.out];generalize hK1:K+1=K1 at *;have iT:(K1:Int)-1=(K:Int):=by omega
    have EB:IntKind.i64.wrap ((K1:Int)-1)=(K:Int):=by have:=HK.out;rw [iT,IntKind.wrap_i64];omega
    have zy:K<K1:=by omega
    have BU:wrap64 (K:Int)=(K:Int):=by have:=HK.out;unfold wrap64;omega
    go_wp2;go_roundw
    case rel=>exact ⟨0+1,_,by omega,by go_num,rfl,xF,dA⟩
    case measure=>simp [RowKit.intOf];omega
   obtain ⟨j',rfl⟩:∃j',j=j'+1:=⟨j-1,by omega⟩;clear hj0;obtain ⟨s,hsk⟩:∃s,l[j']?=some s:=⟨_,aY (by omega)⟩;have cs:=aj HB.out (hx1 j' s hsk);simp only [Nat.mul_one] at cs;have Fc:=aa (Yw hsk);clear hsk hx1;by_cases hst:s=t
   ·subst hst;obtain ⟨pre,c,hp⟩:=Fc.out;have e1:rn (l.take (j'+1+1))=pre++[(c+1,s)]:=by rw [Ao iQ.out,hp,JJ]
    have Ox:K=pre.length+1:=by rw [<- Ae.out,hp,aB];rfl
    obtain ⟨g,cap,lj,Fa,Fb,xF,dA⟩:=wH.out pre c (.slice o3 K k3) wr e1 (by rw [<- Ox,<- hp];exact HO.out) HB.out
    have hcb:-1<=c/\c<=10000000:=by
     have h1:=(xZ (l.take (j'+1))).2 (c,s) (by rw [hp];simp);have h2:(l.take (j'+1)).length<=n:=by rw [jY];omega
     have h3:=h1.1;have h4:=h1.2.1;simp only at h3 h4;omega
    have yc:wrap64 (c+1)=c+1:=by unfold wrap64;omega
    injection lj with hv1 hv2 Fe;subst hv1;clear hv2 Fe hp e1 Fc HO wH;generalize tG:pre.length=K0 at *;have iT:(K:Int)-1=(K0:Int):=by omega
    have zy:K0<K:=by omega
    have BU:wrap64 (K0:Int)=(K0:Int):=by have:=HK.out;unfold wrap64;omega
    clear tG Ox;have hb0:(((j':Int)+1==0):Bool)=false:=by simp;omega
    have hb2:(s != s)=false:=by simp
    go_wp2;go_roundw
    case rel=>exact ⟨j'+1+1,_,by omega,by go_num,rfl,xF,dA⟩
    case measure=>simp [RowKit.intOf];omega
   have e1:rn (l.take (j'+1+1))=rn (l.take (j'+1))++[((0:Int)+1,t)]:=by
    obtain ⟨pre,c,hp⟩:=Fc.out;rw [Ao iQ.out,hp,JK hst];rfl
   have zR:=aa e1;clear e1 Fc;have hb0:(((j':Int)+1==0):Bool)=false:=by simp;omega
   have hb1:(t != s)=true:=by simp;exact λe=>hst e.symm
   have hb3:¬ t=s:=λe=>hst e.symm;go_wp2_with (first|(at_builtin;refine rX rfl _ _ 122 rfl w.heap.size 125 i0 _ 2 16 underlying122 hi hz0 hz1 hz2 rfl (by decide) _ _ _ rfl (DY HO.out (aU _ _)) (some ⟨wr.heap.size,0,none⟩) 1 1 [.int .i64 0,.int .i64 t] rfl ?c6 ?c0 ?c1 ?c2 ?c3 ?c4 ?c5 ?_))
   case c6=>intro h;cases h
   case c0=>rfl
   case c1=>exact λad h=>by injection h with h;subst h;exact Ov _ _ _ _
   case c2=>exact Ow _ _
   case c3=>have:=HK.out;unfold maxLen;omega
   case c4=>have:=HK.out;omega
   case c5=>exact tL hsz (aU _ _).size
   intro v' w9 hown hg hv;have Af:=HB.out.trans ((aU wr (.cells #[.int .i64 0,.int .i64 t] 125)).mono HB.out.size);obtain ⟨g,cap,rfl,Fa,Fb,xF,dA⟩:=wH.out (rn (l.take (j'+1))) 0 v' w9 zR.out (by rw [E8,Ae.out];exact hown) (Af.grown hg Af.size λk hk=>(HO.out.lt k hk).1);clear hown hg hv Af HO wH;rw [Ae.out] at Fa Fb xF dA;rw [Ae.out];generalize hK1:K+1=K1 at *;have iT:(K1:Int)-1=(K:Int):=by omega
   have EB:IntKind.i64.wrap ((K1:Int)-1)=(K:Int):=by have:=HK.out;rw [iT,IntKind.wrap_i64];omega
   have zy:K<K1:=by omega
   have BU:wrap64 (K:Int)=(K:Int):=by have:=HK.out;unfold wrap64;omega
   go_wp2;go_roundw
   case rel=>exact ⟨(j'+1)+1,_,by omega,by go_num,rfl,xF,dA⟩
   case measure=>simp [RowKit.intOf];omega
  obtain rfl:n=j:=by omega
  have e1:rn (l.take n)=rn l:=by rw [jZ (by omega)]
  rw [e1] at HO;go_wp2;go_ret;exact ⟨_,rfl,HO.out,HB.out⟩
namespace Enc
theorem RX {w:World} {B:Nat} {v:Value} {l:List (Int × Int)} (h:w.ownsRow B 125 2 v l.length (mU l)) :
  ∃o cap,v=.slice o l.length cap/\(0<l.length->∃g,o=some ⟨g,0,none⟩/\B<=g/\g<w.heap.size/\∀(i:Nat) (x:Int × Int),l[i]?=some x->w.cell? ⟨g,i*2,none⟩=some (.int .i64 x.1)/\w.cell? ⟨g,i*2+1,none⟩=some (.int .i64 x.2)):=by
 rcases h.2 with ⟨rfl,h0⟩|⟨g,cap,cur,rfl,hb,hg,hn,hc,hs,ht⟩
 ·rw [h0];exact ⟨_,_,rfl,λh=>absurd h (by omega)⟩
 refine ⟨_,_,rfl,λ_=>⟨g,rfl,hb,(kD.1 hg).1,λi x hx=>?_⟩⟩;obtain ⟨h1,h2⟩:=Ga l i x hx
 have key:∀(k:Nat) (u:Value),(mU l)[k]?=some u->w.cell? ⟨g,k,none⟩=some u:=λk u hu=>by
  rw [cell_of_row w g k cur _ _ hg];rw [<- ht,List.getElem?_take] at hu;split at hu
  ·simpa using hu
  cases hu
 rw [show i*2=2*i by omega];exact ⟨key _ _ h1,key _ _ h2⟩
end Enc
theorem RY (w0:World) (p:Nat) (c:Nat->Value) (v:Value) (bs:List Int) (lv:Value) (l:List Int) (w:World) (h:WS w0 p c v bs w) (hL:Ints w0 lv l) (hl:l.length<=1000000) (hn:bs.length<=39000000000000) :
  Calls prog 83 #[.pointer (some ⟨p,0,none⟩),lv] w (Does w0 p c v w (bs++uj l)):=by
 obtain ⟨oL,kL,rfl⟩:=Row.len hL;have HR:=aa (RZ _ l w (hL.on h.below) (by omega));have hbd:=xZ l;obtain ⟨R,hR⟩:∃R,rn l=R:=⟨_,rfl⟩;have hloc:uj l=ak.uB (R.length:Int)++R.flatMap λx:Int × Int=>ak.uB x.1++[x.2%256]:=by unfold uj;rw [hR]
 rw [hloc];rw [hR] at HR hbd
 have hcl:∀j,(List.flatMap (λx:Int × Int=>ak.uB x.1++[x.2%256]) (R.take j)).length<=11000000:=λj=>by
  have key:∀(q:List (Int × Int)),(∀x ∈ q,1<=x.1/\x.1<=1000000)->(q.flatMap λx:Int × Int=>ak.uB x.1++[x.2%256]).length<=11*q.length:=by
   intro q
   induction q with
   | nil=>intro _;simp
   | cons x r ih =>
    intro hq;have h1:=ih λy hy=>hq y (List.mem_cons_of_mem _ hy);have h2:=hq x (List.mem_cons_self ..);have h3:=ak.gT (n:=x.1) (by omega) (by omega);rw [List.flatMap_cons,aB,aB,bI];simp only [bI,bP];omega
  have h1:=key (R.take j) λx hx=>by
   have:=hbd.2 x (List.mem_of_mem_take hx)
   have h4:=this.2.1;exact ⟨this.1,by omega⟩
  rw [jY] at h1
  have:=hbd.1
  omega
 have R3:=aa hcl;have JV:R.length<=1000000:=by have:=hbd.1;omega
 have R4:Hid (∀x ∈ R,1<=x.1/\x.1<=1000000):=aa λx hx=>by have:=hbd.2 x hx;have h4:=this.2.1;exact ⟨this.1,by omega⟩
 have ma:=ak.gT (n:=(R.length:Int)) (by omega) (by omega);have HS:=aa h;have hpw:p<w.heap.size:=h.lt;have HOW:Hid (∀k,v.ownBlock=some k->k<w.heap.size):=aa λk hk=>(h.own.lt k hk).2;generalize hna:l.length=n at *;clear hbd hcl h hL hloc hR;obtain ⟨u0,hu0⟩:∃u0,ak.uB (R.length:Int)=u0:=⟨_,rfl⟩;rw [hu0] at ma ⊢;have lC:=aa hu0;clear hu0;go_enter func83,ntmps83;go_wp2_with fail;refine HR.out.mono ?_;rintro e w1 ⟨v9,rfl,hown,hb1⟩;clear HR;obtain ⟨oR,kR,rfl,hrow⟩:=RX hown;have aV:=aa (HS.out.on hb1);have aO:Hid (Kept p v w v w1):=aa (Kept.below hb1);have hs1:w.heap.size<=w1.heap.size:=hb1.size;have Eb:=aa hrow;clear hown hb1 hrow HS;have HC:=aa (wU w0 p c v bs (R.length:Int) w1 aV.out (by omega) (by omega) (by omega));generalize hm:R.length=m at *;rw [lC.out] at HC;go_wp2_with fail;refine HC.out.mono ?_;rintro e w2 ⟨v2,rfl,hh,kk⟩;have aX:=aa hh;have J6:Hid (Kept p v w1 v2 w2):=aa kk;clear hh kk HC aV;go_wp2_with fail;go_loopw [15] (λi wr=>∃(j:Nat) (v3:Value),j<=m/\i=.int .i64 j/\Hid (WS w0 p c v3 (bs++u0++(R.take j).flatMap λx:Int × Int=>ak.uB x.1++[x.2%256]) wr)/\Hid (Kept p v w1 v3 wr)) (λi _=>m-(RowKit.intOf i).toNat)
 case atStart=>exact ⟨0,v2,by omega,rfl,aa (by simpa using aX.out),J6⟩
 case round =>
  clear aX J6;obtain ⟨j,v3,hj,rfl,aM,ba⟩:=hrel;by_cases hgo:j<m
  ·obtain ⟨g,rfl,hg1,hg2,hcs⟩:=Eb.out (by omega);obtain ⟨x,hxk⟩:∃x,R[j]?=some x:=⟨_,aY (by omega)⟩;have eU:=aa hxk;obtain ⟨bN,cF⟩:=hcs j x hxk;have hblk:=ba.out.block g hg2 (by omega) (λe=>by have:=HOW.out _ e.symm;omega);have lu:=(World.cell?_of_block (a:=⟨g,_,none⟩) hblk).trans bN;have lN:=(World.cell?_of_block (a:=⟨g,_,none⟩) hblk).trans cF;have R5:=R4.out x (dK hxk);clear hcs hxk bN cF hblk;have iQ:Hid ((R.take (j+1)).flatMap (λx:Int × Int=>ak.uB x.1++[x.2%256])=(R.take j).flatMap (λx:Int × Int=>ak.uB x.1++[x.2%256])++(ak.uB x.1++[x.2%256])):=aa (ry eU.out);have R6:=aa (R3.out j);have cZ:Hid ((bs++u0++(R.take j).flatMap λx:Int × Int=>ak.uB x.1++[x.2%256]).length<=40200000000000):=aa (by rw [aB,aB];have:=R6.out;omega);obtain ⟨b3,hb3⟩:∃b3,bs++u0++(R.take j).flatMap (λx:Int × Int=>ak.uB x.1++[x.2%256])=b3:=⟨_,rfl⟩;rw [hb3] at aM cZ;have eX:=aa hb3;clear hb3;obtain ⟨y0,y1⟩:=x;simp only at lu lN R5;go_upto_region 5 with fail;obtain ⟨u1,hu1⟩:∃u1,u1=wr.alloc (.cells #[.int .i64 y0,.int .i64 y1] 125):=⟨_,rfl⟩;have di:Hid (Bx u1 wr.heap.size 125 #[.int .i64 y0,.int .i64 y1]):=aa (by rw [hu1];exact Bx.new rfl);have HU:Hid (Below wr.heap.size wr u1):=aa (by rw [hu1];exact aU _ _);rw [<- hu1];clear hu1 lu lN;have aK:Hid (wr.heap.size≠p):=aa (by have:=aM.out.lt;omega);have Az:Hid (some wr.heap.size≠v3.ownBlock):=aa (λe=>by have:=(aM.out.own.lt _ e.symm).2;omega);have dP:=aa (aM.out.on HU.out);have bO:=aa (ba.out.trans (Kept.below (p:=p) (v:=v3) HU.out));clear aM ba HU;generalize wr.heap.size=p3 at di aK Az ⊢;have k0:=di.out.cell 0 _ rfl;have k1:=di.out.cell 1 _ rfl;have HC:=aa (wU w0 p c v3 b3 y0 u1 dP.out (by omega) (by omega) (by have:=cZ.out;omega));go_wp2_with fail;refine HC.out.mono ?_;rintro e w5 ⟨v5,rfl,hh,kk⟩;obtain ⟨bb,bo⟩:=kk.bx di.out aK.out Az.out;have mV:=aa hh;have jF:=aa bb;have kg:=aa (bO.out.trans kk);clear hh kk bb bo HC dP di bO Az k0 k1;have k0:=jF.out.cell 0 _ rfl;have k1:=jF.out.cell 1 _ rfl;have HC:=aa (gZ w0 p c v5 (b3++ak.uB y0) y1 w5 mV.out (by have h1:=cZ.out;have h2:=ak.gT (n:=y0) (by omega) (by omega);rw [aB];omega));go_wp2_with fail;refine HC.out.mono ?_;rintro e w6 ⟨v6,rfl,hh,kk⟩
   have xd:Hid (WS w0 p c v6 (bs++u0++(R.take (j+1)).flatMap λx:Int × Int=>ak.uB x.1++[x.2%256]) w6):=aa (by
    rw [iQ.out,<- bf,eX.out,<- bf];exact hh)
   have tO:=aa (kg.out.trans kk);clear hh kk HC mV jF kg k0 k1;go_wp2;go_roundw
   case rel=>exact ⟨j+1,v6,by omega,by go_num,xd,tO⟩
   case measure=>simp [RowKit.intOf];omega
  obtain rfl:m=j:=by omega
  have HF:Hid (WS w0 p c v3 (bs++(u0++R.flatMap λx:Int × Int=>ak.uB x.1++[x.2%256])) wr):=aa (by have:=aM.out;rw [jZ (by omega),bf] at this;exact this);go_wp2;go_end0;exact ⟨_,rfl,HF.out,aO.out.trans ba.out⟩
end Go.Proofs.YtmfcojpjpgldhaaGreatDoor

/- Texts that the claim needs. -/
import Derived.Test.YtegboefdolfdgaaGreatDoorQDM23
import Derived.Test.YtegboefdolfdgaaGreatDoorQDM28
import Derived.Test.YtegboefdolfdgaaGreatDoorQDM30
namespace Go.Proofs.YtegboefdolfdgaaGreatDoor
open Go.RowKit aA ai
set_option linter.unusedVariables false
set_option maxRecDepth 100000
set_option maxHeartbeats 8000000
namespace ai
def ten (c:Nat->Value):Array Value:=#[c 0,c 1,c 2,c 3,c 4,c 5,c 6,c 7,c 8,c 9]
structure DM (w0:World) (p q:Nat) (s:ByteArray) (en i n:Nat) (z:Int) (c:Nat->Value) (u:World):Prop where
 ds:DS w0 p s en i n z u
 mq:u.heap[q]?=some (.cells (ten c) 33 (0,0))
 lo:w0.heap.size<=q
 qp:q<p
section
variable {w0 u u2:World} {p q:Nat} {s:ByteArray} {en tN i n i2 n2:Nat} {z z2:Int} {c:Nat->Value}
theorem DM.cell (h:DM w0 p q s en i n z c u) (f:Nat) (hf:f<10):u.cell? ⟨q,f,none⟩=some (c f):=by
 unfold World.cell?;rw [h.mq]
 have:f=0\/f=1\/f=2\/f=3\/f=4\/f=5\/f=6\/f=7\/f=8\/f=9:=by omega
 rcases this with rfl|rfl|rfl|rfl|rfl|rfl|rfl|rfl|rfl|rfl<;>rfl
theorem DM.ag (h:DM w0 p q s en i n z c u) (j:Nat):u.frozen? ⟨q,j,none⟩=false:=by unfold World.frozen?;rw [h.mq];simp
theorem DM.lt (h:DM w0 p q s en i n z c u):q<u.heap.size:=(Array.getElem?_eq_some_iff.1 h.mq).1
theorem DM.call (h:DM w0 p q s en i n z c u) (h1:DS w0 p s tN i2 n2 z2 u2) (h2:But p u u2):DM w0 p q s tN i2 n2 z2 c u2 :=
 ⟨h1,uK h.mq h2 (by have:=h.qp;omega),h.lo,h.qp⟩
theorem DM.on (h:DM w0 p q s en i n z c u) (hb:Below u.heap.size u u2):DM w0 p q s en i n z c u2:=h.call (h.ds.on hb) (But.of p hb)
theorem DM.grown {o:Option Nat} (h:DM w0 p q s en i n z c u) (hg:u.grownBy u2 o) (ho:∀k,o=some k->p<k):DM w0 p q s en i n z c u2 :=
 ⟨h.ds.grown hg ho,by rw [hg.block q h.lt (fun e=>by have:=ho _ e.symm;have:=h.qp;omega)];exact h.mq,h.lo,h.qp⟩
theorem TG (c:Nat->Value) (f:Nat) (hf:f<10) (v:Value):(ten c).setIfInBounds f v=ten (upd c f v):=by
 have:f=0\/f=1\/f=2\/f=3\/f=4\/f=5\/f=6\/f=7\/f=8\/f=9:=by omega
 rcases this with rfl|rfl|rfl|rfl|rfl|rfl|rfl|rfl|rfl|rfl<;>rfl
theorem DM.put (h:DM w0 p q s en i n z c u) (f:Nat) (hf:f<10) (v:Value):DM w0 p q s en i n z (upd c f v) (u.setCell ⟨q,f,none⟩ v) :=
 ⟨h.ds.set (by have:=h.qp;omega) h.lo _ _,by rw [heap_setCell_same u q f _ _ v h.mq,TG c f hf],h.lo,h.qp⟩
end
theorem bn.mod {p g:Nat} (j:Nat) (u:World) (v:Value):bn p g u (u.setCell ⟨g,j,none⟩ v) :=
 have h:=But.set g j u v
 ⟨h.os,h.tape,h.output,h.size,fun k hk _ hg=>h.block k hk (by simpa using hg)⟩
theorem bn.grown {p g:Nat} {w u u9:World} {o:Option Nat} (h:bn p g w u) (hg:u.grownBy u9 o) (ho:∀k,o=some k->w.heap.size<=k):bn p g w u9 :=
 ⟨hg.os.trans h.os,hg.tape.trans h.tape,hg.output.trans h.output,Nat.le_trans h.size hg.size,fun k hk h1 h2=>by rw [hg.block k (Nat.lt_of_lt_of_le hk h.size) (fun e=>by have:=ho k e.symm;omega)];exact h.block k hk h1 h2⟩
structure LE {α:Type} (w0 wS:World) (p q f N:Nat) (T:TypeId) (K:EK α) (s:ByteArray) (en i n:Nat) (z:Int) (c:Nat->Value) (ps:List (Pe α)) (u:World):Prop where
 dm:DM w0 p q s en i n z c u
 bu:bn p q wS u
 pw:p<wS.heap.size
 own:u.ownsRow wS.heap.size T N (c f) ps.length (fI ps)
 wid:∀y ∈ ps,y.2.length=N
 kk:∀y ∈ ps,K u (Since wS.heap.size u (c f).ownBlock) y.1 y.2
def YE {α:Type} (w0 wS:World) (p q f N:Nat) (T:TypeId) (K:EK α) (s:ByteArray) (en:Nat) (c:Nat->Value) (ps:List (Pe α)) (X:R2 α) (e:Ending) (u:World):Prop :=
 e=.returned (.tuple #[])/\∃(i n:Nat) (z:Int) (c':Nat->Value),DM w0 p q s en i n z c' u/\bn p q wS u/\(∀g,g≠f->c' g=c g)/\Fits X (fun x=>∃vs,LE w0 wS p q f N T K s en i n 0 c' (ps++[(x,vs)]) u) i n z
section
variable {α:Type} {w0 wS u u2:World} {p q f N:Nat} {T:TypeId} {K:EK α} {s:ByteArray} {en i n i2 n2:Nat} {z z2:Int} {c:Nat->Value} {ps:List (Pe α)}
theorem LE.call (hK:dH K) (h:LE w0 wS p q f N T K s en i n z c ps u) (h1:DS w0 p s en i2 n2 z2 u2) (h2:But p u u2):LE w0 wS p q f N T K s en i2 n2 z2 c ps u2 :=
 ⟨h.dm.call h1 h2,h.bu.trans (bn.of h2),h.pw,fA h.own h.pw h2,h.wid,fun y hy=>hK _ _ _ _ (jQ h.pw h2) _ _ (h.kk y hy)⟩
theorem LE.on (hK:dH K) (h:LE w0 wS p q f N T K s en i n z c ps u) (hb:Below u.heap.size u u2):LE w0 wS p q f N T K s en i n z c ps u2:=h.call hK (h.dm.ds.on hb) (But.of p hb)
theorem LE.add {x:α} {vs:List Value} {v9:Value} {w2 w9:World} (hK:dH K) (hf:f<10) (h:LE w0 wS p q f N T K s en i n z c ps w2) (hv:vs.length=N) (hk:K w2 (Since wS.heap.size w2 (c f).ownBlock) x vs) (hown:w9.ownsRow wS.heap.size T N v9 (ps.length+1) (fI ps++vs)) (hg:w2.grownBy w9 (c f).ownBlock) (aN:v9.ownBlock=(c f).ownBlock\/v9.ownBlock=some w2.heap.size) :
  LE w0 wS p q f N T K s en i n z (upd c f v9) (ps++[(x,vs)]) (w9.setCell ⟨q,f,none⟩ v9):=by
 have hq:q<wS.heap.size:=by have:=h.dm.qp;have:=h.pw;omega
 have ho:∀k,(c f).ownBlock=some k->wS.heap.size<=k:=fun k hk=>(h.own.lt k hk).1;have hcf:upd c f v9 f=v9:=if_pos rfl
 have key:∀x vs,K w2 (Since wS.heap.size w2 (c f).ownBlock) x vs->K (w9.setCell ⟨q,f,none⟩ v9) (Since wS.heap.size (w9.setCell ⟨q,f,none⟩ v9) v9.ownBlock) x vs:=fun x vs hx=>by
  refine hK _ _ _ _ (fun k hk=>?_) _ _ (hK _ _ _ _ (oC hg aN) _ _ hx);exact ⟨⟨hk.1,by simpa using hk.2.1,hk.2.2⟩,Below.heap_setCell _ _ _ _ (by have:=hk.1;show k≠q;omega)⟩
 refine ⟨(h.dm.grown hg (fun k hk=>by have:=ho k hk;have:=h.pw;omega)).put f hf v9,(h.bu.grown hg ho).trans (bn.mod f w9 v9),h.pw,?_,fun y hy=>?_,fun y hy=>?_⟩
 ·rw [hcf,qH,List.length_append];exact fA hown hq (But.set q f w9 v9)
 ·rcases List.mem_append.1 hy with hy|hy
  ·exact h.wid y hy
  ·rw [List.mem_singleton.1 hy];exact hv
 ·rw [hcf];rcases List.mem_append.1 hy with hy|hy
  ·exact key _ _ (h.kk y hy)
  ·rw [List.mem_singleton.1 hy];exact key _ _ hk
end
end ai
namespace ai
theorem qQ {P:Program} {w:World} {o:Oper} {a:Act} {KK:Act->World->Prop} {Q:Exit->Act->World->Prop} (s x:Operand) (t:TypeId)
  (ho:o.op=.call { callee:=.builtin .append,args:=#[s,x],argTypes:=#[t,t] })
  (base:Nat) (e:TypeId) (i:TypeInfo) (z:Value) (size bytes:Nat) (ht:P.underlying t=some (.slice e)) (hi:P.info? e=some i) (hz:i.zero=some z)
  (hsize:i.size=size) (hby:i.bytes=bytes) (hzs:z.cells.size=size) (hsz:0<size)
  (v:Value) (n:Nat) (xs:List Value) (hs:a.eval s=v) (hown:w.ownsRow base e size v n xs)
  (xo:Option Addr) (m c:Nat) (news:List Value) (hx:a.eval x=.slice xo m c) (xI:xo=none->m=0) (hl:news.length=m*size) (hnews:∀ad,xo=some ad->∀j u,news[j]?=some u->w.cell? (ad.add j)=some u) (h1:∀u ∈ news,u.oneCell'=true)
  (h63:n+m<=maxLen) (hbytes:(n+m)*bytes<=140737488355328) (hbase:base<=w.heap.size)
  (h:∀v' w',w'.ownsRow base e size v' (n+m) (xs++news)->w.grownBy w' v.ownBlock->(v'.ownBlock=v.ownBlock\/v'.ownBlock=some w.heap.size)->KK (a.put o.dst v') w'):o.wp P a w KK Q:=by
 obtain ⟨v',w',hr,h2,h3,h4⟩:=Fp w base t o.type e i z size bytes ht hi hz hsize hby hzs hsz v n xs hown xo m c news xI hl hnews h1 h63 hbytes hbase;unfold Oper.wp;simp [execOp,ho,resolve,invoke,builtin,hs,hx,hr,Result.andThen];exact h v' w' h2 h3 h4
def uG (A0:World->Prop) (A B C D:Value->World->Prop) (v3 v4:Value):Nat->(Nat->Value)->World->Prop
 | 0,_,w=>A0 w
 | 1,f,w=>A (f 0) w
 | 2,f,w=>B (f 1) w
 | 3,f,w=>C (f 2) w
 | 4,f,w=>f 3=v3/\C (f 2) w
 | 5,f,w=>f 4=v4/\C (f 2) w
 | 6,f,w=>D (f 5) w
 | _,_,_=>False
theorem xJ {A0:World->Prop} {A B C D:Value->World->Prop} {v3 v4:Value}:∀k f g w,(∀j,j<k->f j=g j)->uG A0 A B C D v3 v4 k f w->uG A0 A B C D v3 v4 k g w
 | 0,_,_,_,_,h=>h
 | 1,f,g,w,e,h=>by show A (g 0) w;rw [<- e 0 (by decide)];exact h
 | 2,f,g,w,e,h=>by show B (g 1) w;rw [<- e 1 (by decide)];exact h
 | 3,f,g,w,e,h=>by show C (g 2) w;rw [<- e 2 (by decide)];exact h
 | 4,f,g,w,e,h=>by show g 3=v3/\C (g 2) w;rw [<- e 3 (by decide),<- e 2 (by decide)];exact h
 | 5,f,g,w,e,h=>by show g 4=v4/\C (g 2) w;rw [<- e 4 (by decide),<- e 2 (by decide)];exact h
 | 6,f,g,w,e,h=>by show D (g 5) w;rw [<- e 5 (by decide)];exact h
 | _+7,_,_,_,_,h=>h
def vW (A0:World->Prop) (Z A B C D:Value->World->Prop) (v3 v4:Value):Nat->(Nat->Value)->World->Prop
 | 0,_,w=>A0 w
 | 1,f,w=>Z (f 0) w
 | 2,f,w=>A (f 1) w
 | 3,f,w=>B (f 2) w
 | 4,f,w=>C (f 3) w
 | 5,f,w=>f 4=v3/\C (f 3) w
 | 6,f,w=>f 5=v4/\C (f 3) w
 | 7,f,w=>D (f 6) w
 | _,_,_=>False
theorem AQ {A0:World->Prop} {Z A B C D:Value->World->Prop} {v3 v4:Value}:∀k f g w,(∀j,j<k->f j=g j)->vW A0 Z A B C D v3 v4 k f w->vW A0 Z A B C D v3 v4 k g w
 | 0,_,_,_,_,h=>h
 | 1,f,g,w,e,h=>by show Z (g 0) w;rw [<- e 0 (by decide)];exact h
 | 2,f,g,w,e,h=>by show A (g 1) w;rw [<- e 1 (by decide)];exact h
 | 3,f,g,w,e,h=>by show B (g 2) w;rw [<- e 2 (by decide)];exact h
 | 4,f,g,w,e,h=>by show C (g 3) w;rw [<- e 3 (by decide)];exact h
 | 5,f,g,w,e,h=>by show g 4=v3/\C (g 3) w;rw [<- e 4 (by decide),<- e 3 (by decide)];exact h
 | 6,f,g,w,e,h=>by show g 5=v4/\C (g 3) w;rw [<- e 5 (by decide),<- e 3 (by decide)];exact h
 | 7,f,g,w,e,h=>by show D (g 6) w;rw [<- e 6 (by decide)];exact h
 | _+8,_,_,_,_,h=>h
structure GI where
 op:Int
 a:Int
 b:Int
 m:Int
 o4:Option Addr
 n4:Nat
 k4:Nat
 o5:Option Addr
 n5:Nat
 k5:Nat
 o6:Option Addr
 n6:Nat
 k6:Nat
def GI.vs (y:GI):List Value:=[.int .i64 y.op,.int .i64 y.a,.int .i64 y.b,.int .i64 y.m,.slice y.o4 y.n4 y.k4,.slice y.o5 y.n5 y.k5,.slice y.o6 y.n6 y.k6]
theorem Cf {B:Nat} {w w':World} {row:Option Nat} (hg:w.grownBy w' row):∀k,Since B w row k->Since B w' row k/\w'.heap[k]?=w.heap[k]?:=fun k hk =>
 ⟨⟨hk.1,Nat.lt_of_lt_of_le hk.2.1 hg.size,hk.2.2⟩,hg.block k hk.2.1 hk.2.2⟩
theorem Fits.ex {α:Type} {X:R2 α} {P:α->Prop} {i n:Nat} {z:Int} (d0:α) (h:Fits X P i n z):∃x0,Fits X (fun a=>a=x0) i n z/\(z=0->P x0):=by
 cases X with
 | error e=>exact ⟨d0,h,fun hz=>absurd hz h.2⟩
 | ok v=>exact ⟨v.1,⟨rfl,h.2⟩,fun _=>h.1⟩
theorem ko {w:World} {b j:Nat} {cs:Array Value} {t:TypeId} {v:Value} (h:w.heap[b]?=some (.cells cs t (0,0))) (hv:cs[j]?=some v):w.cell? ⟨b,j,none⟩=some v:=by unfold World.cell?;rw [h];exact hv
theorem AR {w w':World} {b:Nat} {o:Obj} (h:w.heap[b]?=some o) (hb:Below w.heap.size w w'):w'.heap[b]?=some o:=by rw [hb.block b (Array.getElem?_eq_some_iff.1 h).1];exact h
theorem Fq {w w':World} {b:Nat} {o:Obj} {row:Option Nat} (h:w.heap[b]?=some o) (hg:w.grownBy w' row) (hr:∀k,row=some k->k<b):w'.heap[b]?=some o:=by rw [hg.block b (Array.getElem?_eq_some_iff.1 h).1 (fun e=>by have:=hr b e.symm;omega)];exact h
theorem Lx {α:Type} (x:R α):(bd x fun a j=>.ok (a,j))=x:=by
 cases x with
 | error e=>rfl
 | ok v=>rfl
theorem Cg {u w:World} {B d:Nat} {row:Option Nat} {op a b m:Int} {v4 v5 v6:Value} {x:Ins (IL d)} (hB:B<=w.heap.size) (hr:∀k,row=some k->k<w.heap.size) (h:lH u w d op a b m v4 v5 v6 x):oL d u (Since B u row) x [.int .i64 op,.int .i64 a,.int .i64 b,.int .i64 m,v4,v5,v6]:=by
 obtain ⟨rfl,rfl,rfl,rfl,h4,h5,h6⟩:=h;exact ⟨v4,v5,v6,rfl,h4.keep (kG hB hr),ah.keep (kG hB hr) _ _ _ h5,ah.keep (kG hB hr) _ _ _ h6⟩
section
variable {α γ:Type} (w0 wS:World) (p q f N:Nat) (T:TypeId) (K:EK α) (s:ByteArray) (en:Nat) (c:Nat->Value) (ps:List (Pe α)) (V:γ->List Value) (X:R2 α)
def UA (vv:Value) (w:World):Prop:=∃(y:γ) (i n:Nat) (z:Int),vv=.agg (V y).toArray/\LE w0 wS p q f N T K s en i n z c ps w/\Fits X (fun x=>K w (Since wS.heap.size w (c f).ownBlock) x (V y)) i n z
def UZ (W:γ->Value) (vv:Value) (w:World):Prop:=∃(y:γ) (i n:Nat) (z:Int),vv=W y/\LE w0 wS p q f N T K s en i n z c ps w/\Fits X (fun x=>K w (Since wS.heap.size w (c f).ownBlock) x (V y)) i n z
def UB (vv:Value) (w:World):Prop:=∃(y:γ) (i n:Nat) (z:Int) (g:Nat),vv=.slice (some ⟨g,0,none⟩) 1 1/\(∀j v,(V y)[j]?=some v->w.cell? ((⟨g,0,none⟩:Addr).add j)=some v)/\LE w0 wS p q f N T K s en i n z c ps w/\Fits X (fun x=>K w (Since wS.heap.size w (c f).ownBlock) x (V y)) i n z
def UC (vv:Value) (w:World):Prop:=∃(i n:Nat) (z:Int),(∃o k m,vv=.slice o k m)/\DM w0 p q s en i n z c w/\bn p q wS w/\Fits X (fun x=>∃vs,LE w0 wS p q f N T K s en i n 0 (upd c f vv) (ps++[(x,vs)]) (w.setCell ⟨q,f,none⟩ vv)) i n z
def UD (_:Value) (w:World):Prop:=∃(i n:Nat) (z:Int) (c':Nat->Value),DM w0 p q s en i n z c' w/\bn p q wS w/\(∀g,g≠f->c' g=c g)/\Fits X (fun x=>∃vs,LE w0 wS p q f N T K s en i n 0 c' (ps++[(x,vs)]) w) i n z
end
section
variable {α γ:Type} {w0 wS:World} {p q f N:Nat} {T:TypeId} {K:EK α} {s:ByteArray} {en:Nat} {c:Nat->Value} {ps:List (Pe α)} {V:γ->List Value} {X:R2 α} {vv:Value} {w:World}
theorem UC.put (hf:f<10) (h:UC w0 wS p q f N T K s en c ps X vv w):UD w0 wS p q f N T K s en c ps X vv (w.setCell ⟨q,f,none⟩ vv) :=
 let ⟨i,n,z,_,h1,h2,h3⟩:=h
 ⟨i,n,z,upd c f vv,h1.put f hf vv,h2.trans (bn.mod f w vv),fun g hg=>if_neg hg,h3⟩
theorem UB.of (hK:dH K) (h:UA w0 wS p q f N T K s en c ps V X vv w) {vs:Array Value} (hv:vv=.agg vs):UB w0 wS p q f N T K s en c ps V X (.slice (some ⟨w.heap.size,0,none⟩) 1 1) (w.alloc (.cells vs T)):=by
 obtain ⟨y,i,n,z,e,h1,h2⟩:=h;rw [hv] at e;injection e with e;subst e;exact ⟨y,i,n,z,_,rfl,qh w (V y) T,h1.on hK (aD _ _),h2.mono fun x hx=>hK _ _ _ _ (fw (aD _ _)) _ _ hx⟩
theorem UC.of (hK:dH K) (hf:f<10) {y:γ} {i n:Nat} {z:Int} {w9:World} (hn:(V y).length=N) (h1:LE w0 wS p q f N T K s en i n z c ps w) (h2:Fits X (fun x=>K w (Since wS.heap.size w (c f).ownBlock) x (V y)) i n z) (hown:w9.ownsRow wS.heap.size T N vv (ps.length+1) (fI ps++V y)) (hg:w.grownBy w9 (c f).ownBlock) (aN:vv.ownBlock=(c f).ownBlock\/vv.ownBlock=some w.heap.size):UC w0 wS p q f N T K s en c ps X vv w9:=by
 have ho:∀k,(c f).ownBlock=some k->wS.heap.size<=k:=fun k hk=>(h1.own.lt k hk).1;refine ⟨i,n,z,by obtain ⟨o,m,e⟩:=fU hown;exact ⟨o,_,m,e⟩,h1.dm.grown hg (fun k hk=>by have:=ho k hk;have:=h1.pw;omega),h1.bu.grown hg ho,?_⟩;cases X with
 | error e=>exact h2
 | ok v =>
  obtain ⟨x,j,m⟩:=v;obtain ⟨a,b,d,e⟩:=h2;subst e;exact ⟨⟨V y,h1.add hK hf hn a hown hg aN⟩,b,d,rfl⟩
end
end ai
namespace ai
def YS (w0:World) (p q:Nat) (s:ByteArray) (en f:Nat) (c:Nat->Value) (w:World) {β:Type} (X:R2 β) (P:Nat->Nat->(Nat->Value)->World->β->Prop) (e:Ending) (u:World):Prop :=
 e=.returned (.tuple #[])/\∃(i n:Nat) (z:Int) (c':Nat->Value),DM w0 p q s en i n z c' u/\bn p q w u/\(∀g,g≠f->c' g=c g)/\Fits X (P i n c' u) i n z
def SL {α:Type} (w0:World) (p q:Nat) (s:ByteArray) (en n f N:Nat) (T:TypeId) (K:EK α) (rd:Nat->R α) (c:Nat->Value) (w:World) (m:Nat) (R:R2 (List α)) (k:Nat) (wr:World):Prop :=
 (∃(ps:List (Pe α)) (j:Nat) (c':Nat->Value),ps.length=k/\R=lift (pre (ps.map (·.1)) (rep rd (m-k) j)) n/\LE w0 w p q f N T K s en j n 0 c' ps wr/\∀g,g≠f->c' g=c g) \/
 ∃(y:Int) (i' n':Nat) (c':Nat->Value),y≠0/\R=.error y/\DM w0 p q s en i' n' y c' wr/\bn p q w wr/\∀g,g≠f->c' g=c g
end ai
theorem rE {α:Type} (id:Int) (f N:Nat) (T:TypeId) (K:EK α) (hK:dH K) (rd:Nat->R α) (w0:World) (p q:Nat) (s:ByteArray) (en:Nat)
  (hid:(id == 0)=false/\(id == 8)=false/\(id == 10)=false)
  (HE:∀wS ps i n c u,LE w0 wS p q f N T K s en i n 0 c ps u->ps.length<=4096->Calls Tryz.prog 34 #[.pointer (some ⟨p,0,none⟩),.int .i64 id,.pointer (some ⟨q,0,none⟩)] u (YE w0 wS p q f N T K s en c ps (lift (rd i) n)))
  (i n:Nat) (c:Nat->Value) (w:World) (h:DM w0 p q s en i n 0 c w) (hc:c f=.slice none 0 0) :
  Calls Tryz.prog 18 #[.pointer (some ⟨p,0,none⟩),.int .i64 id,.pointer (some ⟨q,0,none⟩)] w (YS w0 p q s en f c w (lift (aV rd s en i) n) fun i' n' c' u l=>∃ps,ps.map (·.1)=l/\LE w0 w p q f N T K s en i' n' 0 c' ps u):=by
 obtain ⟨q0,q8,VL⟩:=hid;have HC:=aa (vY w0 p s en i n 0 w h.ds);have hlen:=h.ds.len;have hpw:=h.ds.lt;have H0:=aa h;have PV:=aa HE;clear h HE;obtain ⟨G,hG⟩:∃G,G=lift (aV rd s en i) n:=⟨_,rfl⟩;rw [<- hG];have HG:=aa hG;clear hG;rw [bJ] at HC;cases hrc:rc s en i with
 | error z =>
  rw [hrc] at HC;have cg:Hid (G=.error z):=aa (by rw [HG.out];unfold aV;rw [hrc];rfl);clear hrc HG;go_enter Tryz.func18,Tryz.ntmps18;go_wp2_with fail;refine HC.out.mono ?_;rintro e u1 ⟨hz,v,i1,n1,rfl,hv,h1,h2⟩;have hv:v=.int .i64 0:=hv;subst hv;have H1:=aa (And.intro (H0.out.call h1 h2) (bn.of (g:=q) h2));have HZ:=aa hz;clear h1 h2 HC H0 hz;go_wp2_with fail;go_loopw [10] (fun v wr=>v=.int .i64 0/\wr=u1) (fun _ _=>0)
  case atStart=>exact ⟨rfl,rfl⟩
  case round =>
   obtain ⟨rfl,rfl⟩:=hrel;go_wp2;go_end0;exact ⟨rfl,i1,n1,z,c,H1.out.1,H1.out.2,fun _ _=>rfl,by rw [cg.out];exact ⟨rfl,HZ.out⟩⟩
 | ok v =>
  obtain ⟨xm,i1⟩:=v;obtain ⟨_,hi1,hm0,hm1⟩:=jl hlen hrc;obtain ⟨m,rfl⟩:∃m:Nat,xm=(m:Int):=⟨xm.toNat,by omega⟩;rw [hrc] at HC;have vw:Hid (G=lift (rep rd m i1) n):=aa (by rw [HG.out];unfold aV;rw [hrc];rfl);have hm:m<=4096:=by omega
  clear hrc HG hm0 hm1;go_enter Tryz.func18,Tryz.ntmps18;go_wp2_with fail;refine HC.out.mono ?_;rintro e u1 ⟨v,rfl,hv,h1,h2⟩;have hv:v=.int .i64 m:=hv;subst hv;have H1:Hid (LE w0 w p q f N T K s en i1 n 0 c [] u1):=aa ⟨H0.out.call h1 h2,bn.of h2,hpw,by rw [hc];exact World.ownsRow_nil _ _ _ _,(fun y hy=>by cases hy),(fun y hy=>by cases hy)⟩;clear h1 h2 HC H0;go_wp2_with fail;go_loopw [10] (fun v wr=>∃k:Nat,k<=m/\v=.int .i64 k/\Hid (SL w0 p q s en n f N T K rd c w m G k wr)) (fun v _=>m-(RowKit.intOf v).toNat)
  case atStart=>exact ⟨0,by omega,rfl,aa (.inl ⟨[],i1,c,rfl,by rw [vw.out];show _=lift (pre [] _) n;rw [pre_nil];rfl,H1.out,fun _ _=>rfl⟩)⟩
  case round =>
   clear H1 vw;obtain ⟨k,hk,rfl,HS⟩:=hrel;rcases HS.out with ⟨ps,j,c1,hps,hP,hL,ow⟩|⟨y,i2,n2,c1,hy,jm,hD,hB,ow⟩
   ·have d4:=hL.dm.ds.cell 4 _ rfl;have HP:=aa hP;have HL:=aa hL;have vD:=aa ow;clear hP hL ow HS;by_cases hgo:k<m
    ·have HU:=aa (PV.out w ps j n c1 wr HL.out (by omega));obtain ⟨r,hr⟩:∃r,m-k=r+1:=⟨m-k-1,by omega⟩;go_wp2_with fail;refine HU.out.mono ?_;rintro e w2 ⟨rfl,i2,n2,z2,c2,hm2,hb2,hg2,hF2⟩
     have pz:Hid (SL w0 p q s en n f N T K rd c w m G (k+1) w2):=aa (by
      cases hx:rd j with
      | error y =>
       rw [hx] at hF2;obtain ⟨rfl,hy⟩:=hF2;exact .inr ⟨_,i2,n2,c2,hy,by rw [HP.out,hr,mS _ _ r j _ hx];rfl,hm2,hb2,fun g hg=>(hg2 g hg).trans (vD.out g hg)⟩
      | ok v =>
       obtain ⟨x,j2⟩:=v;rw [hx] at hF2;obtain ⟨⟨vs,hle⟩,rfl,rfl,rfl⟩:=hF2;exact .inl ⟨ps++[(x,vs)],_,c2,by simp [hps],by rw [HP.out,hr,pre_on _ _ r j x _ hx,List.map_append,show m-(k+1)=r by omega];rfl,hle,fun g hg=>(hg2 g hg).trans (vD.out g hg)⟩)
     clear hm2 hb2 hg2 hF2 HU HP HL vD d4;go_wp2;go_roundw
     case rel=>exact ⟨k+1,by omega,by go_num,pz⟩
     case measure=>simp [RowKit.intOf];omega
    ·obtain rfl:k=m:=by omega
     have C0:Hid (G=.ok (ps.map (·.1),j,n)):=aa (by rw [HP.out,Nat.sub_self,mU];rfl);clear HP;go_wp2;go_end0;exact ⟨rfl,j,n,0,c1,HL.out.dm,HL.out.bu,vD.out,by rw [C0.out];exact ⟨⟨ps,rfl,HL.out⟩,rfl,rfl,rfl⟩⟩
   ·have d4:=hD.ds.cell 4 _ rfl;have HD:=aa hD;have HB:=aa hB;have HZ:=aa hy;have vD:=aa ow;have xX:=aa jm;have q4:(y == 0)=false:=by rw [beq_eq_false_iff_ne];exact hy
    clear hD hB hy ow jm HS;by_cases hgo:k<m
    ·go_wp2;go_end0;exact ⟨rfl,i2,n2,y,c1,HD.out,HB.out,vD.out,by rw [xX.out];exact ⟨rfl,HZ.out⟩⟩
    ·go_wp2;go_end0;exact ⟨rfl,i2,n2,y,c1,HD.out,HB.out,vD.out,by rw [xX.out];exact ⟨rfl,HZ.out⟩⟩
theorem PW (w0:World) (p q:Nat) (s:ByteArray) (en i n:Nat) (c:Nat->Value) (w:World) (h:DM w0 p q s en i n 0 c w) :
  Calls Tryz.prog 18 #[.pointer (some ⟨p,0,none⟩),.int .i64 0,.pointer (some ⟨q,0,none⟩)] w (YS w0 p q s en 10 c w (lift (nu s en i) n) fun _ n' c' _ _=>n'=n/\c'=c):=by
 have HY:=aa (Cw w0 p s en i n 0 w h.ds);have HF:Hid (∀(y:ByteArray) (i1 n1:Nat) (z1:Int) (i2 n2:Nat) (z2:Int) (P:Unit->Prop),Fits (aG 0 (lift (lU s en i) n)) (fun a=>a=y) i1 n1 z1->Fits (aG z1 (lift (if Lib.validD y.data.toList then (.ok ((),en):R Unit) else .error 50) n1)) P i2 n2 z2->Fits (lift (nu s en i) n) P i2 n2 z2):=aa (fun _ _ _ _ _ _ _ _ h1 h2=>Fits.bd h1 h2);have H0:=aa h;have hle:=h.ds.len;clear h;generalize lift (nu s en i) n=G at HF ⊢;go_enter Tryz.func18,Tryz.ntmps18;go_wp2_with fail;refine HY.out.mono ?_;rintro e u1 ⟨y,i1,n1,z1,rfl,h1,h2,hF,ht⟩;have H1:=aa (And.intro (H0.out.call h1 h2) (bn.of (g:=q) h2));have da:=aa hF;have tJ:=aa (Gw y (by omega) u1);clear h1 h2 hF HY H0;have fin:∀(z2:Int) (u:World),z2≠0->DM w0 p q s en i1 n1 z2 c u->bn p q w u->Fits G (fun _=>n1=n/\c=c) i1 n1 z2->YS w0 p q s en 10 c w G (fun _ n' c' _ _=>n'=n/\c'=c) (.returned (.tuple #[])) u:=fun z2 u _ h1 h2 h3=>⟨rfl,i1,n1,z2,c,h1,h2,fun _ _=>rfl,h3⟩;have bq:=aa fin;clear fin;cases hm:Lib.validD y.data.toList with
 | false =>
  rw [hm] at tJ;have hz2:(if z1=0 then (50:Int) else z1)≠0:=by split<;>omega
  have pG:=aa hz2;have HX:Hid (Fits G (fun _=>n1=n/\c=c) i1 n1 (if z1=0 then 50 else z1)):=aa (HF.out _ _ _ _ _ _ _ _ da.out (by rw [if_neg (by simp [hm])];exact Fits.bad));have q1:((if z1=0 then (50:Int) else z1) == 0)=false:=by rw [beq_eq_false_iff_ne];exact hz2
  obtain ⟨zz,hzz⟩:∃zz:Int,zz=(if z1=0 then 50 else z1):=⟨_,rfl⟩;rw [<- hzz] at HX q1 pG;have PX:=aa hzz;clear hzz;clear hm HF da hz2;go_wp2_with fail;refine tJ.out.mono ?_;rintro e u2 ⟨rfl,rfl⟩;go_wp2_with fail;refine (fD w0 p s en i1 n1 z1 _ H1.out.1.ds 50).mono ?_;rintro e u3 ⟨rfl,h3,h4⟩;have h3':DS w0 p s en i1 n1 zz u3:=by rw [PX.out];exact h3
  have d4:=h3'.cell 4 _ rfl;have H3:=aa (And.intro (H1.out.1.call h3' h4) (H1.out.2.trans (bn.of (g:=q) h4)));clear h3 h3' h4 tJ;go_wp2;go_end0;exact bq.out _ _ pG.out H3.out.1 H3.out.2 HX.out
 | true =>
  rw [hm] at tJ;by_cases hz:z1=0
  ·subst hz;have hn:=(da.out.ok rfl).2.1;have HX:Hid (Fits G (fun _=>n1=n/\c=c) en n1 0):=aa (HF.out _ _ _ _ _ _ _ _ da.out (by rw [if_pos hm,bJ];exact ⟨⟨hn,rfl⟩,rfl,rfl,rfl⟩));have d4:=H1.out.1.ds.cell 4 _ rfl;have d2:=H1.out.1.ds.cell 2 _ rfl;have d1:=H1.out.1.ds.cell 1 _ rfl;have f1:=H1.out.1.ds.ag 1;have H3:Hid (DM w0 p q s en en n1 0 c (u1.setCell ⟨p,1,none⟩ (.int .i64 en))/\bn p q w (u1.setCell ⟨p,1,none⟩ (.int .i64 en))):=aa ⟨H1.out.1.call (H1.out.1.ds.at_ (Nat.le_refl _)) (But.set p 1 u1 _),H1.out.2.trans (bn.of (g:=q) (But.set p 1 u1 _))⟩;clear hm HF da hn;go_wp2_with fail;refine tJ.out.mono ?_;rintro e u2 ⟨rfl,rfl⟩;clear tJ;go_wp2;go_end0;exact ⟨rfl,en,n1,0,c,H3.out.1,H3.out.2,fun _ _=>rfl,HX.out.mono fun _ h=>⟨h.1,rfl⟩⟩
  ·have HZ:=aa hz;have HX:Hid (Fits G (fun _=>n1=n/\c=c) i1 n1 z1):=aa (HF.out _ _ _ _ _ _ _ _ da.out (by rw [gH hz];exact ⟨rfl,hz⟩));have d4:=H1.out.1.ds.cell 4 _ rfl;have q1:(z1 == 0)=false:=by rw [beq_eq_false_iff_ne];exact hz
   clear hm HF da hz;go_wp2_with fail;refine tJ.out.mono ?_;rintro e u2 ⟨rfl,rfl⟩;clear tJ;go_wp2;go_end0;exact bq.out _ _ HZ.out H1.out.1 H1.out.2 HX.out
theorem LP (w0:World) (p q:Nat) (s:ByteArray) (en i n:Nat) (c:Nat->Value) (w:World) (h:DM w0 p q s en i n 0 c w) :
  Calls Tryz.prog 18 #[.pointer (some ⟨p,0,none⟩),.int .i64 8,.pointer (some ⟨q,0,none⟩)] w (YS w0 p q s en 7 c w (lift (qX s en i) n) fun _ n' c' u l=>n'=n/\aI 1 uL u (Since w.heap.size u none) (c' 7) l):=by
 have HY:=aa (kg w0 p s en i n 0 w h.ds);have H0:=aa h;have hpw:=h.ds.lt;have VB:=h.lt;clear h;obtain ⟨G,hG⟩:∃G,G=lift (qX s en i) n:=⟨_,rfl⟩;rw [<- hG];have HG:=aa hG;clear hG;go_enter Tryz.func18,Tryz.ntmps18;go_wp2_with fail;refine HY.out.mono ?_;rintro e u1 ⟨y,i1,n1,z1,rfl,h1,h2,hF⟩;have H1:=aa (And.intro (H0.out.call h1 h2) (bn.of (g:=q) h2));have da:=aa hF;have bY:Hid (w.heap.size<=u1.heap.size):=aa h2.size;clear h1 h2 hF HY H0;obtain ⟨u2,hu2⟩:∃u2,u2=u1.alloc (.cells #[.int .i64 y] 3):=⟨_,rfl⟩;have H2:Hid (DM w0 p q s en i1 n1 z1 c u2/\bn p q w u2):=aa (by rw [hu2];exact ⟨H1.out.1.on (aD _ _),H1.out.2.trans (bn.of (g:=q) (But.of p (aD _ _)))⟩);have A9:Hid (aI 1 uL u2 (Since w.heap.size u2 none) (.slice (some ⟨u1.heap.size,0,none⟩) 1 1) [y]):=aa (by rw [hu2];exact s5 bY.out y _);have uM:=aa hu2;have x7:=H2.out.1.cell 7 (by decide);have f7:=H2.out.1.ag 7;rw [hu2] at x7 f7;clear hu2 H1;go_wp2;go_end0;rw [<- uM.out];have hk:∀k,Since w.heap.size u2 none k->Since w.heap.size (u2.setCell ⟨q,7,none⟩ (.slice (some ⟨u1.heap.size,0,none⟩) 1 1)) none k/\(u2.setCell ⟨q,7,none⟩ (.slice (some ⟨u1.heap.size,0,none⟩) 1 1)).heap[k]?=u2.heap[k]?:=fun k hk=>⟨⟨hk.1,by simpa using hk.2.1,by simp⟩,Below.heap_setCell _ _ _ _ (by have:=hk.1;show k≠q;omega)⟩;refine ⟨rfl,i1,n1,z1,upd c 7 (.slice (some ⟨u1.heap.size,0,none⟩) 1 1),H2.out.1.put 7 (by decide) _,H2.out.2.trans (bn.mod 7 u2 _),fun g hg=>if_neg hg,?_⟩;rw [HG.out];refine Fits.bd da.out ?_;refine Fits.fin fun hz=>?_;exact ⟨(da.out.ok hz).2.1,aI.keep tj hk A9.out⟩
namespace ai
theorem Gb {s:ByteArray} {en:Nat}:∀(r:Nat) (l:List (List Int × IL 81)) (i n:Nat) (fs:List (List Int × IL 81)) (j m:Nat),n<=65536->oq s en r l i n=.ok (fs,j,m)->m<=65536
 | 0,l,i,n,fs,j,m,hn,h=>by cases h;exact hn
 | r+1,l,i,n,fs,j,m,hn,h=>by
  rw [xV] at h;obtain ⟨x,j1,n1,h1,h2⟩:=fO h;exact Gb r _ _ _ _ _ _ (Gc hn h1) h2
theorem OD {s:ByteArray} {en L i n:Nat} {fs:List (List Int × IL 81)} {j m:Nat} (hn:n<=65536) (h:gQ s en L i n=.ok (fs,j,m)):m<=65536:=by
 unfold gQ at h;obtain ⟨z,j1,n1,h1,h2⟩:=fO h;have e:=(mR h1).2;by_cases hz:z=(L:Int)
 ·rw [if_pos hz] at h2;exact Gb _ _ _ _ _ _ _ (by omega) h2
 ·rw [if_neg hz] at h2;cases h2
theorem MG.code {p g:Nat} {m:Mod 81} {c:Nat->Value} {w w':World} (h:MG p g m c w) (hb:bn p g w w') (hp:p<w.heap.size) {fs:List (List Int × IL 81)} (hl:fs.length=m.funcs.length)
  {o:Option Addr} {ob cap:Nat} {ty:Nat->Int} {a b:Nat->Value} (h1:c 2=.slice o m.funcs.length cap) (h2:0<m.funcs.length->o=some ⟨g,ob,none⟩/\FB g ob m.funcs.length ty a b w/\p<g) (h3:∀j f,m.funcs[j]?=some f->ty j=f.type)
  (hf:0<m.funcs.length->∃a' b',FB g ob m.funcs.length ty a' b' w'/\∀q x,fs[q]?=some x->aH w' (Since w.heap.size w' none) (a' q) x.1/\ah w' (Since w.heap.size w' none) 81 (b' q) x.2) :
  MG p g { m with funcs:=List.zipWith nY m.funcs fs } c w':=by
 have hs:∀k,Sm p g w k->Sm p g w' k/\w'.heap[k]?=w.heap[k]?:=fun k hk=>⟨⟨hk.1,Nat.lt_of_lt_of_le hk.2.1 hb.size,hk.2.2⟩,hb.block k hk.2.1 (by have:=hk.1;omega) hk.2.2⟩;have hlen:(List.zipWith nY m.funcs fs).length=m.funcs.length:=by rw [List.length_zipWith,hl,Nat.min_self]
 refine ⟨aI.keep uO hs h.types,aI.keep uQ hs h.imports,aI.keep mY hs h.tables,aI.keep mY hs h.dU,aI.keep (uV 81) hs h.globals,aI.keep uT hs h.exports,aI.keep tj hs h.start,aI.keep (uX 81) hs h.elems,aI.keep (uZ 81) hs h.dV,?_⟩;by_cases h0:0<m.funcs.length
 ·obtain ⟨rfl,wz,Gd⟩:=h2 h0;have rz:=wz.lt;obtain ⟨a',b',OE,hx⟩:=hf h0;refine ⟨_,ob,cap,ty,a',b',by rw [hlen];exact h1,fun _=>⟨rfl,by rw [hlen];exact OE,Gd⟩,fun j f hj=>?_⟩;have hj:(List.zipWith nY m.funcs fs)[j]?=some f:=hj;rw [List.getElem?_zipWith] at hj;cases hm:m.funcs[j]? with
  | none=>rw [hm] at hj;cases hj
  | some f0 =>
   cases hq:fs[j]? with
   | none=>rw [hm,hq] at hj;cases hj
   | some x =>
    rw [hm,hq] at hj;have hj:nY f0 x=f:=by simpa using hj
    subst hj;obtain ⟨i1,a1⟩:=hx j x hq;exact ⟨h3 j f0 hm,i1.keep (pq hp rz),ah.keep (pq hp rz) _ _ _ a1⟩
 ·have hn:m.funcs = []:=List.length_eq_zero_iff.1 (by omega);refine ⟨o,ob,cap,ty,a,b,by rw [hlen];exact h1,fun h=>absurd h (by rw [hlen];exact h0),fun j f hj=>?_⟩;have hj:(List.zipWith nY m.funcs fs)[j]?=some f:=hj;rw [hn] at hj;simp at hj
theorem MG.none_ {p g:Nat} {m:Mod 81} {c:Nat->Value} {w:World} (h:MG p g m c w) (h0:¬ 0<m.funcs.length):MG p p m c w:=by
 have hs:∀k,Sm p g w k->Sm p p w k/\w.heap[k]?=w.heap[k]?:=fun k hk=>⟨⟨hk.1,hk.2.1,by have:=hk.1;omega⟩,rfl⟩;refine ⟨aI.keep uO hs h.types,aI.keep uQ hs h.imports,aI.keep mY hs h.tables,aI.keep mY hs h.dU,aI.keep (uV 81) hs h.globals,aI.keep uT hs h.exports,aI.keep tj hs h.start,aI.keep (uX 81) hs h.elems,aI.keep (uZ 81) hs h.dV,?_⟩;obtain ⟨o,ob,cap,ty,a,b,h1,h2,h3⟩:=h.funcs;refine ⟨o,ob,cap,ty,a,b,h1,fun h=>absurd h h0,fun j f hj=>?_⟩;have hn:m.funcs = []:=List.length_eq_zero_iff.1 (by omega);rw [hn] at hj;simp at hj
end ai
theorem OG {w0:World} {p:Nat} {s:ByteArray}:kr w0 p s (MM p) (bB s 10) 10:=by
 intro st c en k i n w hr hM;obtain ⟨hk,hn,jP,g,hG⟩:=hM
 have fin:∀g,MG p g st.m c w->(0<st.m.funcs.length\/g=p)->Calls Tryz.prog 28 #[.pointer (some ⟨p,0,none⟩),.int .i64 10] w (iO w0 p s (MM p) en w (bB s 10 st en i)):=by
  intro g hG oZ;obtain ⟨o,ob,cap,ty,a,b,h1,h2,h3⟩:=hG.funcs;have hbase:=hr.base;refine (OH w0 p s c en k i n g ob st.m.funcs.length cap o ty a b w hr jP h1 (fun h0=>⟨(h2 h0).1,(h2 h0).2.1,by have:=(h2 h0).2.2;omega,by have:=(h2 h0).2.2;omega⟩)).mono ?_;intro e w' hx
  show iO w0 p s (MM p) en w (match gQ s en st.m.funcs.length i st.cnt with
   | .ok (fs,j,n)=>.ok (⟨{ st.m with funcs:=List.zipWith nY st.m.funcs fs },st.m.funcs.length,n⟩,j)
   | .error z=>.error z) e w'
  rw [<- hn];cases hR:gQ s en st.m.funcs.length i n with
  | error z=>rw [hR] at hx;exact hx
  | ok v =>
   obtain ⟨fs,j,m⟩:=v;rw [hR] at hx;obtain ⟨rfl,⟨hrs,hl,xW⟩,hb⟩:=hx;refine ⟨rfl,⟨c,_,m,hrs,rfl,rfl,OD jP hR,g,?_⟩,?_⟩
   ·exact hG.code hb hr.lt hl h1 h2 (fun j f hj=>(h3 j f hj).1) xW
   ·rcases oZ with h0|rfl
    ·exact hb.t (h2 h0).2.1
    ·exact ⟨hb.os,hb.tape,hb.output,hb.size,fun k hk hp _=>hb.block k hk hp hp⟩
 by_cases h0:0<st.m.funcs.length
 ·exact fin g hG (.inl h0)
 ·exact fin p (hG.none_ h0) (.inr rfl)
end Go.Proofs.YtegboefdolfdgaaGreatDoor

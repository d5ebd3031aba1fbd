/- Texts that the claim needs. -/
import Derived.Test.YtkdbgopgjbfhbaaGreatDoorQPS4
import Derived.Laws.AppendOwn
import Derived.OwnWalk
import Derived.Test.YtkdbgopgjbfhbaaGreatDoorRows
import Derived.WalkKit
import Derived.WalkSpells
import Derived.WalkSmall
import Derived.BigQuiet
import Derived.Deep.QuietTactic
import Derived.Test.YtkdbgopgjbfhbaaGreatDoorQPS1
import Derived.Deep.RegionWith
import Derived.Laws.AppendOwnNone
import Derived.Orders
namespace Go.Proofs.YtkdbgopgjbfhbaaGreatDoor
open Go.RowKit Lx
set_option linter.unusedVariables false
set_option maxRecDepth 100000
set_option maxHeartbeats 8000000
namespace Lx
def vX (t:Tk):List Value:=[.int .i64 t.k,.string t.x,.int .i64 t.n,.int .i64 t.a]
def flat:List Tk->List Value
 | []=>[]
 | t :: l=>vX t++flat l
theorem OJ:∀(l m:List Tk),flat (l++m)=flat l++flat m
 | [],m=>rfl
 | t :: l,m=>by rw [List.cons_append,flat,flat,OJ l m,List.append_assoc]
theorem OL:∀(l:List Tk) (i:Nat) (t:Tk),l[i]?=some t->∀j,j<4->(flat l)[i*4+j]?=(vX t)[j]?
 | [],i,t,h,_,_=>by simp at h
 | x :: l,0,t,h,j,hj=>by
  simp at h;subst h;rw [flat,Nat.zero_mul,Nat.zero_add,List.getElem?_append_left (show j<(vX x).length from hj)]
 | x :: l,i+1,t,h,j,hj=>by
  have h':l[i]?=some t:=by simpa using h
  rw [flat,List.getElem?_append_right (show (vX x).length<=(i+1)*4+j by show 4<=_;omega),show (i+1)*4+j-(vX x).length=i*4+j by show (i+1)*4+j-4=_;omega];exact OL l i t h' j hj
def lq (w:World) (v:Value) (l:List Tk):Prop :=
 (v=.slice none 0 0/\l = [])\/∃g c,v=.slice (some ⟨g,0,none⟩) l.length c/\∀i t,l[i]?=some t->∀j u,(vX t)[j]?=some u->w.cell? ⟨g,i*4+j,none⟩=some u
theorem lq.nil (w:World):lq w (.slice none 0 0) []:=.inl ⟨rfl,rfl⟩
theorem lq.on {w w':World} {v:Value} {l:List Tk} (h:lq w v l) (hb:Below w.heap.size w w'):lq w' v l:=by
 rcases h with h|⟨g,c,h1,h2⟩
 ·exact .inl h
 ·refine .inr ⟨g,c,h1,fun i t hi j u hj=>?_⟩;have hc:=h2 i t hi j u hj
  have hlt:g<w.heap.size:=by
   unfold World.cell? at hc;rcases Nat.lt_or_ge g w.heap.size with hl|hl
   ·exact hl
   ·rw [Array.getElem?_eq_none hl] at hc;cases hc
  unfold World.cell? at hc ⊢;rw [hb.block g hlt];exact hc
theorem CL {w:World} {B:Nat} {e:TypeId} {v:Value} {l:List Tk} (h:w.ownsRow B e 4 v l.length (flat l)):lq w v l:=by
 rcases h.2 with ⟨h1,h2⟩|⟨g,cap,cur,rfl,_,hg,_,_,hs,ht⟩
 ·exact .inl ⟨h1,List.eq_nil_of_length_eq_zero h2⟩
 ·refine .inr ⟨g,cap,rfl,fun i t hi j u hj=>?_⟩;have h4:j<4:=(List.getElem?_eq_some_iff.1 hj).1;have hf:=(OL l i t hi j h4).trans hj;have hc:=h.cells (g:=g) rfl _ _ hf;rw [Addr.add_mid,Nat.zero_add] at hc;exact hc
theorem I9 {w w':World} {B:Nat} {e:TypeId} {n:Nat} {v:Value} {xs:List Value} (h:w.ownsRow B e 4 v n xs) (hb:Below w.heap.size w w'):w'.ownsRow B e 4 v n xs:=by
 refine ⟨h.1,?_⟩;rcases h.2 with h2|⟨g,cap,cur,h1,h2,hg,h3⟩
 ·exact .inl h2
 ·exact .inr ⟨g,cap,cur,h1,h2,by rw [hb.block g (Array.getElem?_eq_some_iff.1 hg).1];exact hg,h3⟩
theorem OM:(Tryz.prog.info? 47).map (fun i=>(i.zero,i.size,i.bytes))=some (some (.agg #[.int .i64 0,.string ⟨#[]⟩,.int .i64 0,.int .i64 0]),4,40):=by kernel_rfl
theorem OO {s:ByteArray} {i:Nat} {z:Int} (h:one s i=.error z):z=2\/z=110:=by
 unfold one at h
 repeat' split at h
 all_goals first|(injection h with h;omega)|cases h
theorem XC (w:World) (a0 a1 a2 a3:Value) (t:TypeId):∀j u,[a0,a1,a2,a3][j]?=some u->(w.alloc (.cells #[a0,a1,a2,a3] t)).cell? ((⟨w.heap.size,0,none⟩:Addr).add j)=some u:=fun j u h=>by
 rw [Addr.add_mid,Nat.zero_add,World.cell?_alloc_at _ t _ _ rfl];simpa using h
theorem OP (w:World) (g:Nat) (hg:g=w.heap.size) (a0 a1 a2 a3:Value) (t:TypeId):∀j u,[a0,a1,a2,a3][j]?=some u->(w.alloc (.cells #[a0,a1,a2,a3] t)).cell? ((⟨g,0,none⟩:Addr).add j)=some u:=by
 subst hg;exact XC w a0 a1 a2 a3 t
theorem OQ (k:Int) (x:ByteArray) (n i:Int):∀u ∈ [Value.int .i64 k,.string x,.int .i64 n,.int .i64 i],u.oneCell'=true:=by simp [Value.oneCell']
theorem OT {w:World} {B:Nat} {e:TypeId} {v:Value} {acc:List Tk} {k:Int} {x:ByteArray} {n i:Int} (h:w.ownsRow B e 4 v (acc.length+1) (flat acc++[.int .i64 k,.string x,.int .i64 n,.int .i64 i])):w.ownsRow B e 4 v (acc++[Tk.mk k x n i]).length (flat (acc++[Tk.mk k x n i])):=by
 rw [OJ,List.length_append];exact h
theorem OU {w u w':World} {v:Value} {e:TypeId} {m:Nat} {xs:List Value} (hb:Below w.heap.size w u) (ho:u.ownsRow w.heap.size e 4 v m xs) (o1 o2:Obj) (hg:((u.alloc o1).alloc o2).grownBy w' v.ownBlock):Below w.heap.size w w':=by
 have h1:Below w.heap.size w (u.alloc o1):=hb.alloc hb.size _;have h2:Below w.heap.size w ((u.alloc o1).alloc o2):=h1.alloc h1.size _;exact h2.grown hg h2.size fun k hk=>(ho.lt k hk).1
theorem aP (n:Nat) (h:n+1<=4096):n+1<=maxLen/\(n+1)*40<=140737488355328:=by unfold maxLen;omega
theorem aQ {w u:World} (h:Below w.heap.size w u) (o1 o2:Obj):w.heap.size<=((u.alloc o1).alloc o2).heap.size:=by have:=h.size;simp;omega
def Ja (w:World) (R:List Tk × Int × Int) (e:Ending) (w':World):Prop :=
 ∃v,e=.returned (.tuple #[v,.int .i64 R.2.1,.int .i64 R.2.2])/\lq w' v R.1/\Below w.heap.size w w'
theorem Jb {w w':World} {a z:Int} {R:List Tk × Int × Int} (hR:R=([],a,z)) (hb:Below w.heap.size w w'):Ja w R (.returned (.tuple #[.slice none 0 0,.int .i64 a,.int .i64 z])) w':=by
 subst hR;exact ⟨_,rfl,lq.nil _,hb⟩
theorem XD {w w':World} {v:Value} {l:List Tk} {e:TypeId} {R:List Tk × Int × Int} (hR:R=(l,0,0)) (hb:Below w.heap.size w w') (ho:w'.ownsRow w.heap.size e 4 v l.length (flat l)):Ja w R (.returned (.tuple #[v,.int .i64 0,.int .i64 0])) w':=by
 subst hR;exact ⟨_,rfl,CL ho,hb⟩
theorem aJ (n k:Nat) (h:k<n) (hn:n<=8192):decide ((k:Int)<(n:Int))=true:=decide_eq_true (by omega)
theorem aK (n k:Nat) (h:¬ k<n):decide ((k:Int)<(n:Int))=false:=decide_eq_false (by omega)
theorem aL {n:Nat} (h:n=4096):((n:Int) == 4096)=true:=beq_iff_eq.2 (by omega)
theorem aM {n:Nat} (h:¬ n=4096):((n:Int) == 4096)=false:=beq_eq_false_iff_ne.2 (by omega)
theorem aN {z:Int} (h:z=2\/z=110):(z == 0)=false/\(z != 0)=true:=by rcases h with rfl|rfl<;>exact ⟨rfl,rfl⟩
end Lx
theorem XE (s:ByteArray) (w:World):Calls Tryz.prog 20 #[.string s] w (Ja w (lx s)):=by
 by_cases hbig:8192<s.size
 ·have hR:lx s=([],0,2):=if_pos hbig;have HR:=ae hR;have q0:decide ((s.size:Int) > 8192)=true:=decide_eq_true (by omega);generalize lx s=R at *;clear hR;go_enter Tryz.func20,Tryz.ntmps20;go_wp2;refine bodyPost_ret (results_tmp3 rfl _ _ _) rfl ?_;exact Jb HR.out (Below.refl _ _)
 ·have hR:lx s=dP s s.size (sk s false 0) []:=if_neg hbig;have q0:decide ((s.size:Int) > 8192)=false:=decide_eq_false (by omega);obtain ⟨R,hR'⟩:∃R,R=lx s:=⟨_,rfl⟩;rw [<- hR'] at hR ⊢;have st0:Hid (dP s s.size (sk s false 0) []=R):=ae hR.symm;have hsz:s.size<=8192:=by omega
  have nV:=ae (OV s 0 (Nat.zero_le _) (by omega) w);have hsk:=Au s false (Nat.zero_le s.size);have yA:=ae hsz;obtain ⟨i0,hi,hz0,hz1,hz2⟩:=info_parts OM;obtain ⟨p0,hp0⟩:∃p,p=sk s false 0:=⟨_,rfl⟩;rw [<- hp0] at nV st0 hsk;clear hR hR' hp0;go_enter Tryz.func20,Tryz.ntmps20;go_wp2_with fail;refine nV.out.mono ?_;rintro e u ⟨rfl,hu⟩;obtain rfl:w=u:=hu.symm;go_wp2_with fail;go_loopw [5,6] (fun tv av w'=>∃(acc:List Tk) (i f:Nat),av=.int .i64 i/\i<=s.size/\w'.ownsRow w.heap.size 47 4 tv acc.length (flat acc)/\Below w.heap.size w w'/\acc.length<=4096/\Hid (s.size<=i+f)/\Hid (dP s f i acc=R)) (fun _ av _=>match av with | .int _ k=>s.size-k.toNat|_=>0)
  case atStart=>exact ⟨[],p0,s.size,rfl,hsk,World.ownsRow_nil _ _ _ _,Below.refl _ _,by simp,ae (by omega),st0⟩
  case round =>
   obtain ⟨acc,i,f,rfl,hle,hown,hbel,hlen,hf,hR⟩:=hrel;clear st0 nV hsk;by_cases hp:i<s.size
   ·have q1:=aJ s.size i hp yA.out;obtain ⟨g,hg,hst⟩:=Oz s f i acc hp hf.out;rw [hR.out] at hst;have HO:=ae (XF s i hp (by omega) wr)
    obtain ⟨o5,c5,kr⟩:∃o c,u5=.slice o acc.length c:=by
     rcases hown.2 with ⟨h1,h2⟩|⟨g,cap,cur,h1,_⟩
     ·exact ⟨none,0,by rw [h1,h2]⟩
     ·exact ⟨_,_,h1⟩
    cases ho:one s i with
    | error z =>
     rw [ho] at hst HO;obtain ⟨q2,q3⟩:=aN (OO ho);have HR:=ae (show R=([],(i:Int),z) from hst);have HB:=ae hbel;subst kr;clear hst ho hR hf hown hbel hg;go_wp2_with fail;refine Calls.mono (show Calls _ _ _ _ _ from HO.out) ?_;rintro e u ⟨rfl,hb⟩;have HB2:=ae (az HB.out hb);simp only [bQ];clear hb HO;go_wp2;refine bodyPost_ret (results_tmp3 rfl _ _ _) rfl ?_;exact Jb HR.out (HB2.out.alloc (HB2.out.size) _)
    | ok r =>
     obtain ⟨k,x,n,e'⟩:=r;rw [ho] at hst HO;obtain ⟨he1,he2⟩:=yp hp ho;by_cases h4:acc.length=4096
     ·have q2:=aL h4;have HR:=ae (show R=([],(i:Int),3) from by rw [hst];exact if_pos h4);have HB:=ae hbel;subst kr;clear hst ho hR hf hown hbel hg;go_wp2_with fail;refine Calls.mono (show Calls _ _ _ _ _ from HO.out) ?_;rintro e u ⟨rfl,hb⟩;have HB2:=ae (az HB.out hb);simp only [bQ];clear hb HO;go_wp2;refine bodyPost_ret (results_tmp3 rfl _ _ _) rfl ?_;exact Jb HR.out (HB2.out.alloc (HB2.out.size) _)
     ·have q2:=aM h4;have HR:=ae (show R=dP s g (sk s false e') (acc++[⟨k,x,n,i⟩]) from by rw [hst];exact if_neg h4);have HB:=ae hbel;have HOW:=ae hown;have nV:=fun (u:World)=>ae (OV s e' he2 (by omega) u);have hs0:=Fa s false e';have hs1:=Au s false he2;obtain ⟨p1,hp1⟩:∃p,p=sk s false e':=⟨_,rfl⟩;rw [<- hp1] at HR nV hs0 hs1;have HG:Hid (s.size<=p1+g):=ae (by have:=hf.out;omega);have HL:Hid (acc.length+1<=4096):=ae (by omega);have HE:Hid (e'<=p1/\p1<=s.size/\i<e'):=ae ⟨hs0,hs1,he1⟩;clear hst ho hR hf hown hbel hg hp1 hs0 hs1 he1 he2 hlen;subst kr;go_wp2_with fail;refine Calls.mono (show Calls _ _ _ _ _ from HO.out) ?_;rintro e u ⟨rfl,hb⟩;have HB2:=ae (az HB.out hb);have fJ:=ae (I9 HOW.out hb);simp only [bQ];clear hb HO HOW HB;go_wp2_with (first|(at_builtin;refine wpList_append_own _ rfl _ _ 41 rfl w.heap.size 47 i0 _ 4 40 Tryz.underlying41 hi hz0 hz1 hz2 rfl (by decide) _ acc.length (flat acc) rfl ((fJ.out.alloc _).alloc _) ⟨u.heap.size+1,0,none⟩ 1 1 [.int .i64 k,.string x,.int .i64 n,.int .i64 i] rfl rfl ?c1 ?c2 ?c3 ?c4 ?c5 ?c6))
      case c1=>exact OP _ _ (by simp) _ _ _ _ _
      case c2=>exact OQ k x n i
      case c3=>exact (aP _ HL.out).1
      case c4=>exact (aP _ HL.out).2
      case c5=>exact aQ HB2.out _ _
      case c6 =>
       intro v' w9 hown' hgr _;have aW:=ae (OU HB2.out fJ.out _ _ hgr);have Fb:=ae (OT hown');clear hown' hgr HB2 fJ;go_wp2_with fail;refine (nV _).out.mono ?_;rintro e u9 ⟨rfl,XG⟩;obtain rfl:w9=u9:=XG.symm;clear nV;go_wp2;go_roundw
       case rel=>exact ⟨acc++[⟨k,x,n,i⟩],p1,g,rfl,HE.out.2.1,Fb.out,aW.out,by rw [List.length_append];exact HL.out,HG,ae HR.out.symm⟩
       case measure=>have:=HE.out;simp;omega
   ·have q1:=aK s.size i hp;have HR:=ae (hR.out.symm.trans (vJ s f i acc hp));have HOW:=ae hown;have HB:=ae hbel;clear hR hf hown hbel;go_wp2;refine bodyPost_ret (results_tmp3 rfl _ _ _) rfl ?_;exact XD HR.out HB.out HOW.out
end Go.Proofs.YtkdbgopgjbfhbaaGreatDoor
namespace Go.Proofs.YtkdbgopgjbfhbaaGreatDoor
open Go.RowKit
namespace bb
def Row {α:Type} (size:Nat) (f:Nat->Nat->α->Prop) (v:Value) (l:List α):Prop :=
 l.length<=9223372036854775807/\((l = []/\∃o cap,v=.slice o 0 cap)\/∃b off cap,v=.slice (some ⟨b,off,none⟩) l.length cap/\∀(i:Nat) (x:α),l[i]?=some x->f b (off+i*size) x)
theorem Row.len {α:Type} {size:Nat} {f:Nat->Nat->α->Prop} {v:Value} {l:List α} (h:Row size f v l):∃o cap,v=.slice o l.length cap:=by
 rcases h with ⟨_,⟨rfl,o,cap,rfl⟩|⟨b,off,cap,rfl,_⟩⟩
 ·exact ⟨o,cap,rfl⟩
 ·exact ⟨_,cap,rfl⟩
theorem Row.some {α:Type} {size:Nat} {f:Nat->Nat->α->Prop} {v:Value} {l:List α} (h:Row size f v l) (h0:0<l.length):∃b off cap,v=.slice (some ⟨b,off,none⟩) l.length cap/\∀(i:Nat) (x:α),l[i]?=some x->f b (off+i*size) x:=by
 rcases h with ⟨_,⟨rfl,_⟩|h⟩
 ·exact absurd h0 (by simp)
 ·exact h
theorem Row.imp {α:Type} {size:Nat} {f g:Nat->Nat->α->Prop} {v:Value} {l:List α} (h:Row size f v l) (hfg:∀b o x,x ∈ l->f b o x->g b o x):Row size g v l:=by
 rcases h with ⟨hl,h|⟨b,off,cap,hv,hc⟩⟩
 ·exact ⟨hl,.inl h⟩
 ·exact ⟨hl,.inr ⟨b,off,cap,hv,fun i x hi=>hfg _ _ _ (List.mem_of_getElem? hi) (hc i x hi)⟩⟩
def Ints (w:World) (v:Value) (l:List Int):Prop:=Row 1 (fun b o (z:Int)=>w.cell? ⟨b,o,none⟩=.some (.int .i64 z)) v l
theorem ah {w w':World} (hb:Below w.heap.size w w') {b o:Nat} {u:Value} (h:w.cell? ⟨b,o,none⟩=.some u):w'.cell? ⟨b,o,none⟩=.some u:=by
 rw [hb.cell (World.block_lt_of_cell? _ _ h)];exact h
theorem Ints.on {w w':World} (hb:Below w.heap.size w w') {v:Value} {l:List Int} (h:Ints w v l):Ints w' v l:=Row.imp h fun _ _ _ _ h=>ah hb h
structure Ins (α:Type) where
 op:Int
 a:Int
 b:Int
 n:Int
 labels:List Int
 body:α
 els:α
def IL:Nat->Type
 | 0=>Unit
 | d+1=>List (Ins (IL d))
structure sM {α:Type} (w:World) (sub:Value->α->Prop) (bk o:Nat) (x:Ins α):Prop where
 op:w.cell? ⟨bk,o,none⟩=.some (.int .i64 x.op)
 a:w.cell? ⟨bk,o+1,none⟩=.some (.int .i64 x.a)
 b:w.cell? ⟨bk,o+2,none⟩=.some (.int .i64 x.b)
 n:w.cell? ⟨bk,o+3,none⟩=.some (.int .i64 x.n)
 labels:∃v,w.cell? ⟨bk,o+4,none⟩=.some v/\Ints w v x.labels
 body:∃v,w.cell? ⟨bk,o+5,none⟩=.some v/\sub v x.body
 els:∃v,w.cell? ⟨bk,o+6,none⟩=.some v/\sub v x.els
def At (w:World):(d:Nat)->Value->IL d->Prop
 | 0,v,_=>∃o cap,v=.slice o 0 cap
 | d+1,v,l=>Row 7 (sM w (At w d)) v l
theorem sM.on {α : Type} {w w' : World} (hb : Below w.heap.size w w') {f g : Value → α → Prop} (hfg : ∀ v x, f v x → g v x) {b o : Nat} {x : Ins α} (h : sM w f b o x) : sM w' g b o x :=
  ⟨ah hb h.op, ah hb h.a, ah hb h.b, ah hb h.n,
   let ⟨v, h1, h2⟩ := h.labels; ⟨v, ah hb h1, h2.on hb⟩,
   let ⟨v, h1, h2⟩ := h.body; ⟨v, ah hb h1, hfg _ _ h2⟩,
   let ⟨v, h1, h2⟩ := h.els; ⟨v, ah hb h1, hfg _ _ h2⟩⟩
theorem At.on {w w':World} (hb:Below w.heap.size w w'):∀(d:Nat) (v:Value) (l:IL d),At w d v l->At w' d v l
 | 0,_,_,h=>h
 | d+1,_,_,h=>Row.imp (α:=Ins (IL d)) h fun _ _ _ _ h=>h.on hb (At.on hb d)
theorem Gv (w:World) (n:Nat):Below w.heap.size w (w.drewN n):=⟨rfl,rfl,rfl,Nat.le_refl _,fun _ _=>rfl⟩
def dY {α:Type} (f:α->Nat->Nat):List (Ins α)->Nat->Nat
 | [],c=>c
 | x :: r,c=>if c<=65536 then dY f r (f x.els (f x.body (c+1))) else c
theorem A7 {α:Type} {f:α->Nat->Nat} (hf:∀x c,f x c<=max c 65537):∀(l:List (Ins α)) (c:Nat),dY f l c<=max c 65537
 | [],c=>by unfold dY;omega
 | x :: r,c=>by
  unfold dY;split
  ·have h1:=hf x.body (c+1);have h2:=hf x.els (f x.body (c+1));have h3:=A7 hf r (f x.els (f x.body (c+1)));omega
  ·omega
end bb
end Go.Proofs.YtkdbgopgjbfhbaaGreatDoor
namespace Go.Proofs.YtkdbgopgjbfhbaaGreatDoor
open Go.RowKit bb
set_option linter.unusedVariables false
namespace bb
structure FT where
 params:List Int
 results:List Int
structure EY where
 mod:ByteArray
 name:ByteArray
 type:Int
structure EZ (d:Nat) where
 type:Int
 locals:List Int
 body:IL d
structure CK where
 min:Int
 max:Int
 has:Bool
structure E0 (d:Nat) where
 type:Int
 E5:Bool
 init:Ins (IL d)
structure E8 where
 name:ByteArray
 kind:Int
 index:Int
structure E9 (d:Nat) where
 offset:Ins (IL d)
 funcs:List Int
structure Dat (d:Nat) where
 offset:Ins (IL d)
 bytes:ByteArray
structure Mod (d:Nat) where
 types:List FT
 imports:List EY
 funcs:List (EZ d)
 tables:List CK
 I6:List CK
 globals:List (E0 d)
 exports:List E8
 start:List Int
 elems:List (E9 d)
 I7:List (Dat d)
structure vQ (w:World) (bk o:Nat) (x:FT):Prop where
 params:∃v,w.cell? ⟨bk,o,none⟩=.some v/\Ints w v x.params
 results:∃v,w.cell? ⟨bk,o+1,none⟩=.some v/\Ints w v x.results
structure vR (w:World) (bk o:Nat) (x:EY):Prop where
 mod:w.cell? ⟨bk,o,none⟩=.some (.string x.mod)
 name:w.cell? ⟨bk,o+1,none⟩=.some (.string x.name)
 type:w.cell? ⟨bk,o+2,none⟩=.some (.int .i64 x.type)
structure vS (w:World) (d:Nat) (bk o:Nat) (x:EZ d):Prop where
 type:w.cell? ⟨bk,o,none⟩=.some (.int .i64 x.type)
 locals:∃v,w.cell? ⟨bk,o+1,none⟩=.some v/\Ints w v x.locals
 body:∃v,w.cell? ⟨bk,o+2,none⟩=.some v/\At w d v x.body
structure sK (w:World) (bk o:Nat) (x:CK):Prop where
 min:w.cell? ⟨bk,o,none⟩=.some (.int .i64 x.min)
 max:w.cell? ⟨bk,o+1,none⟩=.some (.int .i64 x.max)
 has:w.cell? ⟨bk,o+2,none⟩=.some (.bool x.has)
structure vT (w:World) (d:Nat) (bk o:Nat) (x:E0 d):Prop where
 type:w.cell? ⟨bk,o,none⟩=.some (.int .i64 x.type)
 E5:w.cell? ⟨bk,o+1,none⟩=.some (.bool x.E5)
 init:sM w (At w d) bk (o+2) x.init
structure vU (w:World) (bk o:Nat) (x:E8):Prop where
 name:w.cell? ⟨bk,o,none⟩=.some (.string x.name)
 kind:w.cell? ⟨bk,o+1,none⟩=.some (.int .i64 x.kind)
 index:w.cell? ⟨bk,o+2,none⟩=.some (.int .i64 x.index)
structure vV (w:World) (d:Nat) (bk o:Nat) (x:E9 d):Prop where
 offset:sM w (At w d) bk o x.offset
 funcs:∃v,w.cell? ⟨bk,o+7,none⟩=.some v/\Ints w v x.funcs
structure vW (w:World) (d:Nat) (bk o:Nat) (x:Dat d):Prop where
 offset:sM w (At w d) bk o x.offset
 bytes:w.cell? ⟨bk,o+7,none⟩=.some (.string x.bytes)
structure I8 (w:World) (d:Nat) (v0 v1 v2 v3 v4 v5 v6 v7 v8 v9:Value) (m:Mod d):Prop where
 types:Row 2 (vQ w) v0 m.types
 imports:Row 3 (vR w) v1 m.imports
 funcs:Row 3 (vS w d) v2 m.funcs
 tables:Row 3 (sK w) v3 m.tables
 I6:Row 3 (sK w) v4 m.I6
 globals:Row 9 (vT w d) v5 m.globals
 exports:Row 3 (vU w) v6 m.exports
 start:Ints w v7 m.start
 elems:Row 8 (vV w d) v8 m.elems
 I7:Row 8 (vW w d) v9 m.I7
section On
variable {w w':World} (hb:Below w.heap.size w w')
theorem vQ.on (hb:Below w.heap.size w w') {bk o:Nat} {x:FT} (h:vQ w bk o x):vQ w' bk o x :=
 ⟨let ⟨v,a,b⟩:=h.params;⟨v,ah hb a,b.on hb⟩,let ⟨v,a,b⟩:=h.results;⟨v,ah hb a,b.on hb⟩⟩
theorem vR.on (hb:Below w.heap.size w w') {bk o:Nat} {x:EY} (h:vR w bk o x):vR w' bk o x:=⟨ah hb h.mod,ah hb h.name,ah hb h.type⟩
theorem vS.on (hb:Below w.heap.size w w') {d bk o:Nat} {x:EZ d} (h:vS w d bk o x):vS w' d bk o x :=
 ⟨ah hb h.type,let ⟨v,a,b⟩:=h.locals;⟨v,ah hb a,b.on hb⟩,let ⟨v,a,b⟩:=h.body;⟨v,ah hb a,At.on hb d v _ b⟩⟩
theorem sK.on (hb:Below w.heap.size w w') {bk o:Nat} {x:CK} (h:sK w bk o x):sK w' bk o x:=⟨ah hb h.min,ah hb h.max,ah hb h.has⟩
theorem vT.on (hb:Below w.heap.size w w') {d bk o:Nat} {x:E0 d} (h:vT w d bk o x):vT w' d bk o x:=⟨ah hb h.type,ah hb h.E5,h.init.on hb (At.on hb d)⟩
theorem vU.on (hb:Below w.heap.size w w') {bk o:Nat} {x:E8} (h:vU w bk o x):vU w' bk o x:=⟨ah hb h.name,ah hb h.kind,ah hb h.index⟩
theorem vV.on (hb:Below w.heap.size w w') {d bk o:Nat} {x:E9 d} (h:vV w d bk o x):vV w' d bk o x:=⟨h.offset.on hb (At.on hb d),let ⟨v,a,b⟩:=h.funcs;⟨v,ah hb a,b.on hb⟩⟩
theorem vW.on (hb:Below w.heap.size w w') {d bk o:Nat} {x:Dat d} (h:vW w d bk o x):vW w' d bk o x:=⟨h.offset.on hb (At.on hb d),ah hb h.bytes⟩
theorem I8.on (hb : Below w.heap.size w w') {d : Nat} {v0 v1 v2 v3 v4 v5 v6 v7 v8 v9 : Value} {m : Mod d} (h : I8 w d v0 v1 v2 v3 v4 v5 v6 v7 v8 v9 m) : I8 w' d v0 v1 v2 v3 v4 v5 v6 v7 v8 v9 m :=
  ⟨h.types.imp fun _ _ _ _ => vQ.on hb, h.imports.imp fun _ _ _ _ => vR.on hb, h.funcs.imp fun _ _ _ _ => vS.on hb, h.tables.imp fun _ _ _ _ => sK.on hb, h.I6.imp fun _ _ _ _ => sK.on hb,
   h.globals.imp fun _ _ _ _ => vT.on hb, h.exports.imp fun _ _ _ _ => vU.on hb, h.start.on hb, h.elems.imp fun _ _ _ _ => vV.on hb, h.I7.imp fun _ _ _ _ => vW.on hb⟩
end On
def size:(d:Nat)->IL d->Nat
 | 0,_=>0
 | _+1,l=>List.length l
theorem At.len {w:World}:∀(d:Nat) (v:Value) (l:IL d),At w d v l->∃o cap,v=.slice o (size d l) cap
 | 0,_,_,h=>h
 | _+1,_,_,h=>Row.len h
end bb
set_option linter.unusedVariables false
theorem dh (w:World) (o:Obj):Below w.heap.size w (w.alloc o):=(Below.refl _ w).alloc (Nat.le_refl _) o
theorem gJ (w:World):Below w.heap.size w w.drew:=(Below.refl _ w).drew
section App
variable {P:Program}
theorem abI (w:World) (base:Nat) (t ty e:TypeId) (i:TypeInfo) (z:Value) (size bytes:Nat) (ht:P.underlying t=some (.slice e)) (hi:P.info? e=some i) (hz:i.zero=some z)
  (hsize:i.size=size) (hby:i.bytes=bytes) (hzs:z.cells.size=size) (hsz:0<size)
  (v:Value) (n:Nat) (xs:List Value) (hown:w.ownsRow base e size v n xs)
  (a:Addr) (m c:Nat) (news:List Value) (hl:news.length=m*size) (hnews:∀j u,news[j]?=some u->w.cell? (a.add j)=some u) (h1:∀u ∈ news,u.oneCell'=true)
  (h63:n+m<=maxLen) (hbytes:(n+m)*bytes<=140737488355328) (hbase:base<=w.heap.size) :
  ∃v' w',(Builtin.append_ #[t,t] ty #[v,.slice (some a) m c]).run P w=.ok v' w'/\w'.ownsRow base e size v' (n+m) (xs++news)/\w.grownBy w' v.ownBlock /\
   (v'.ownBlock=v.ownBlock\/v'.ownBlock=some w.heap.size):=by
 obtain ⟨v',w',hr,h2,h3,h4⟩:=run_append_own (P:=P) w base t ty e i z size bytes ht hi hz hsize hby hzs hsz v n xs hown a m c news hl hnews h1 h63 hbytes hbase;refine ⟨v',w',hr,h2,h3,?_⟩;subst hsize;subst hby;unfold maxLen at h63;rcases hown.2 with ⟨rfl,rfl⟩|⟨g,cap,cur,rfl,hbg,hg,hnc,hcm,hcs,htake⟩
 ·by_cases hm:m=0
  ·left;rw [h4.2 ⟨rfl,hm⟩]
  ·rw [run_append_nil (P:=P) w t ty e i z ht hi hz a m c news hl hnews (by omega) (by omega) (by simp only [Nat.zero_add] at hbytes;omega)] at hr;injection hr with hv _;right;rw [<- hv];rfl
 ·by_cases hroom:n+m<=cap
  ·have hfit:n*i.size+news.length<=cur.size:=by rw [hl,hcs,<- Nat.add_mul];exact Nat.mul_le_mul_right _ hroom
   rw [run_append_room (P:=P) w t ty e i ht hi g n cap cur hg a m c news hl hnews h1 hroom hfit] at hr;injection hr with hv _;left;rw [<- hv];rfl
  ·have holds:∀j u,xs[j]?=some u->w.cell? ((⟨g,0,none⟩:Addr).add j)=some u:=hown.cells (g:=g) rfl;rw [run_append_grow (P:=P) w t ty e i z ht hi hz ⟨g,0,none⟩ n cap xs hown.1 holds a m c news hl hnews (by omega) (by omega) (growslice_fits (by omega) hbytes)] at hr;injection hr with hv _;right;rw [<- hv];rfl
theorem abJ (w:World) (base:Nat) (t ty e:TypeId) (i:TypeInfo) (size:Nat) (ht:P.underlying t=some (.slice e)) (hi:P.info? e=some i) (v:Value) (n:Nat) (xs:List Value) (hown:w.ownsRow base e size v n xs) (c:Nat) :
  (Builtin.append_ #[t,t] ty #[v,.slice none 0 c]).run P w=.ok v w:=by
 rcases hown.2 with ⟨rfl,rfl⟩|⟨g,cap,cur,rfl,_,_,hnc,_⟩
 ·simp [Builtin.append_,run_underlying ht,sizeOf,typeInfo,hi,Builtin.lenOf,Builtin.firstCells]
 ·simp [Builtin.append_,run_underlying ht,sizeOf,typeInfo,hi,Builtin.lenOf,Builtin.firstCells,hnc,storeCells]
theorem SD (w:World) (base:Nat) (t ty e:TypeId) (i:TypeInfo) (z:Value) (size bytes:Nat) (ht:P.underlying t=some (.slice e)) (hi:P.info? e=some i) (hz:i.zero=some z)
  (hsize:i.size=size) (hby:i.bytes=bytes) (hzs:z.cells.size=size) (hsz:0<size)
  (v:Value) (n:Nat) (xs:List Value) (hown:w.ownsRow base e size v n xs)
  (xo:Option Addr) (m c:Nat) (news:List Value) (D5:xo=none->m=0) (hl:news.length=m*size) (hnews:∀ad,xo=some ad->∀j u,news[j]?=some u->w.cell? (ad.add j)=some u) (h1:∀u ∈ news,u.oneCell'=true)
  (h63:n+m<=maxLen) (hbytes:(n+m)*bytes<=140737488355328) (hbase:base<=w.heap.size) :
  ∃v' w',(Builtin.append_ #[t,t] ty #[v,.slice xo m c]).run P w=.ok v' w'/\w'.ownsRow base e size v' (n+m) (xs++news)/\w.grownBy w' v.ownBlock /\
   (v'.ownBlock=v.ownBlock\/v'.ownBlock=some w.heap.size):=by
 cases xo with
 | none =>
  obtain rfl:=D5 rfl;obtain rfl:news = []:=List.eq_nil_of_length_eq_zero (by simpa using hl);refine ⟨v,w,abJ w base t ty e i size ht hi v n xs hown c,by simpa using hown,⟨rfl,rfl,rfl,Nat.le_refl _,fun _ _ _=>rfl⟩,.inl rfl⟩
 | some a=>exact abI w base t ty e i z size bytes ht hi hz hsize hby hzs hsz v n xs hown a m c news hl (hnews a rfl) h1 h63 hbytes hbase
theorem KO {w:World} {ops:Array Oper} {rest:List Oper} {o:Oper} {a:Act} {Q:Exit->Act->World->Prop} (hgd:o.guard=none) (s x:Operand) (t:TypeId)
  (ho:o.op=.call { callee:=.builtin .append,args:=#[s,x],argTypes:=#[t,t] })
  (base:Nat) (e:TypeId) (i:TypeInfo) (z:Value) (size bytes:Nat) (ht:P.underlying t=some (.slice e)) (hi:P.info? e=some i) (hz:i.zero=some z)
  (hsize:i.size=size) (hby:i.bytes=bytes) (hzs:z.cells.size=size) (hsz:0<size)
  (v:Value) (n:Nat) (xs:List Value) (hs:a.eval s=v) (hown:w.ownsRow base e size v n xs)
  (xo:Option Addr) (m c:Nat) (news:List Value) (hx:a.eval x=.slice xo m c) (D5:xo=none->m=0) (hl:news.length=m*size) (hnews:∀ad,xo=some ad->∀j u,news[j]?=some u->w.cell? (ad.add j)=some u) (h1:∀u ∈ news,u.oneCell'=true)
  (h63:n+m<=maxLen) (hbytes:(n+m)*bytes<=140737488355328) (hbase:base<=w.heap.size)
  (h:∀v' w',w'.ownsRow base e size v' (n+m) (xs++news)->w.grownBy w' v.ownBlock->(v'.ownBlock=v.ownBlock\/v'.ownBlock=some w.heap.size)->wpList P ops Q rest (a.put o.dst v') w'):wpList P ops Q (o :: rest) a w:=by
 refine wpList_plain hgd fun K hK=>?_;obtain ⟨v',w',hr,h2,h3,h4⟩:=SD w base t o.type e i z size bytes ht hi hz hsize hby hzs hsz v n xs hown xo m c news D5 hl hnews h1 h63 hbytes hbase;unfold Oper.wp;simp [execOp,ho,resolve,invoke,builtin,hs,hx,hr,Result.andThen];exact hK _ _ (h v' w' h2 h3 h4)
end App
namespace bb
def KP (w:World) (S:Nat->Prop) (v:Value) (l:List Int):Prop:=Row 1 (fun b o (z:Int)=>S b/\w.cell? ⟨b,o,none⟩=.some (.int .i64 z)) v l
structure abK {α:Type} (w:World) (S:Nat->Prop) (sub:Value->α->Prop) (bk o:Nat) (x:Ins α):Prop where
 op:w.cell? ⟨bk,o,none⟩=.some (.int .i64 x.op)
 a:w.cell? ⟨bk,o+1,none⟩=.some (.int .i64 x.a)
 b:w.cell? ⟨bk,o+2,none⟩=.some (.int .i64 x.b)
 n:w.cell? ⟨bk,o+3,none⟩=.some (.int .i64 x.n)
 labels:∃v,w.cell? ⟨bk,o+4,none⟩=.some v/\KP w S v x.labels
 body:∃v,w.cell? ⟨bk,o+5,none⟩=.some v/\sub v x.body
 els:∃v,w.cell? ⟨bk,o+6,none⟩=.some v/\sub v x.els
def D6 (w:World) (S:Nat->Prop):(d:Nat)->Value->IL d->Prop
 | 0,v,_=>∃o cap,v=.slice o 0 cap
 | d+1,v,l=>Row 7 (fun b o (x:Ins (IL d))=>S b/\abK w S (D6 w S d) b o x) v l
theorem KP.at {w:World} {S:Nat->Prop} {v:Value} {l:List Int} (h:KP w S v l):Ints w v l:=Row.imp h fun _ _ _ _ h=>h.2
theorem D6.at {w:World} {S:Nat->Prop}:∀(d:Nat) (v:Value) (l:IL d),D6 w S d v l->At w d v l
 | 0,_,_,h=>h
 | d+1,_,_,h=>Row.imp (α:=Ins (IL d)) h fun _ _ _ _ ⟨_,h⟩=>⟨h.op,h.a,h.b,h.n,let ⟨v,a,b⟩:=h.labels;⟨v,a,b.at⟩,let ⟨v,a,b⟩:=h.body;⟨v,a,D6.at d v _ b⟩,let ⟨v,a,b⟩:=h.els;⟨v,a,D6.at d v _ b⟩⟩
end bb
theorem count_set {l:Array Bool} {i:Nat} (h:l.getD i true=false):(l.setIfInBounds i true).toList.count false+1=l.toList.count false:=by
 have hi:i<l.size:=by
  rcases Nat.lt_or_ge i l.size with h'|h'
  ·exact h'
  ·simp [Array.getD,Nat.not_lt.2 h'] at h
 have he:l[i]=false:=by simpa [Array.getD,hi] using h
 have hl:l.toList=l.toList.take i++false :: l.toList.drop (i+1):=by
  rw [<- he]
  have:i<l.toList.length:=by simpa using hi
  conv=>lhs;rw [<- List.take_append_drop i l.toList,List.drop_eq_getElem_cons this]
  simp
 have hs:(l.setIfInBounds i true).toList=l.toList.take i++true :: l.toList.drop (i+1):=by
  rw [Array.toList_setIfInBounds,List.set_eq_take_append_cons_drop,if_pos (by simpa using hi)]
 have e1:=congrArg (List.count false) hl;have e2:=congrArg (List.count false) hs;rw [List.count_append,List.count_cons_self] at e1;rw [List.count_append,List.count_cons_of_ne (by simp)] at e2;omega
theorem ab2 {P:Program} {md:Region.Mode} {ops:Array Oper} {Q:Exit->Act->World->Prop} (Inv:Array Bool->Act->World->Prop)
  (hstep:∀listed i a w,i ∈ Region.ready md ops listed->Inv listed a w->wpOp P ops Q i (Inv (listed.setIfInBounds i true)) a w)
  (hdone:∀listed a w,Region.ready md ops listed = []->Inv listed a w->Q .normal a w) :
  ∀(fuel:Nat) (listed:Array Bool) (a:Act) (w:World),listed.toList.count false<=fuel->Inv listed a w->wpAny P md ops Q fuel listed a w:=by
 intro fuel
 induction fuel with
 | zero =>
  intro listed a w hc hI
  have hr:Region.ready md ops listed = []:=by
   cases hrr:Region.ready md ops listed with
   | nil=>rfl
   | cons i r =>
    have hm:i ∈ Region.ready md ops listed:=by rw [hrr];simp
    have:=count_set (mem_ready.1 hm).1
    omega
  exact ⟨hr,hdone _ _ _ hr hI⟩
 | succ fuel ih =>
  intro listed a w hc hI;refine ⟨fun hr=>hdone _ _ _ hr hI,fun i hi=>?_⟩;refine wpOp_mono (fun a' w' h=>ih _ a' w' ?_ h) (hstep listed i a w hi hI)
  have:=count_set (mem_ready.1 hi).1
  omega
theorem DF {P:Program} {ops:Array Oper} {Q:Exit->Act->World->Prop} {id:Nat} {a:Act} {w:World} (Inv:Array Bool->Act->World->Prop) (hm:P.follows .mixedOrders=true)
  (hstep:∀listed i a w,i ∈ Region.ready .any ops listed->Inv listed a w->wpOp P ops Q i (Inv (listed.setIfInBounds i true)) a w)
  (hdone:∀listed a w,Region.ready .any ops listed = []->Inv listed a w->Q .normal a w)
  (h0:Inv (Array.replicate ops.size false) a { w with drawn:=w.drawn+1 }):(Code.region id ops true).wp P Q a w :=
 wp_region_any hm (ab2 Inv hstep hdone _ _ _ _ (by simp) h0)
end Go.Proofs.YtkdbgopgjbfhbaaGreatDoor

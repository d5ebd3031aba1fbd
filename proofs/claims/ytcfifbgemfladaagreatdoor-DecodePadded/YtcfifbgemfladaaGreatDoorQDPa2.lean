/- Texts that the claim needs. -/
import Derived.Test.YtcfifbgemfladaaGreatDoorQDPa1
import Derived.ProofKit
import Derived.OpenShut
import Derived.Lib.SmallJoins
import Derived.Test.YtcfifbgemfladaaGreatDoorQDPa0
import Derived.Deep.RegionWith
import Derived.Deep.CutRange
import Derived.Deep.Cut
import Derived.Laws.AppendOwn
import Derived.Laws.AppendOwnNone
import Derived.OwnWalk
namespace Go.Proofs.YtcfifbgemfladaaGreatDoor
open Go.RowKit au Go.Proofs.Tryz
set_option linter.unusedVariables false
set_option maxHeartbeats 1000000
set_option maxRecDepth 100000
namespace au
theorem Hy {α:Type} (n:Nat) (f:Nat->α->Prop) (h:∀i,i<n->∃x,f i x):∃l:List α,l.length=n/\∀i x,l[i]?=some x->f i x:=by
 induction n with
 | zero=>exact ⟨[],rfl,λi x hx=>by simp at hx⟩
 | succ n ih =>
  obtain ⟨l,hl,hf⟩:=ih λi hi=>h i (by omega);obtain ⟨x,hx⟩:=h n (by omega);refine ⟨l++[x],by simp [hl],λi y hy=>?_⟩;by_cases hi:i<n
  ·rw [vB (by omega)] at hy;exact hf i y hy
  have hlt:i<(l++[x]).length:=(gq.1 hy).1;have hi':i=n:=by simp [hl] at hlt;omega
  subst hi';rw [<- hl] at hy;simp at hy;subst hy;exact hx
theorem aeO {w:AG} {a:Addr} {v:Value} (h:w.cell? a=some v):a.spot=none:=by
 obtain ⟨b,o,sp⟩:=a;cases sp with
 | none=>rfl
 | some x =>
  unfold World.cell? at h;split at h<;>simp at h
theorem uH (b o k:Nat):(⟨b,o,none⟩:Addr).add k=⟨b,o+k,none⟩:=by
 by_cases hk:k=0
 ·subst hk;rfl
 simp [Addr.add,hk]
variable {H:Type} {enc:TypeId × Value->H} {P:Program} {w:AG} {base:Nat} {spare:Nat->Bool} {held:Bool}
theorem vk {α:Type} {t e:TypeId} {v:Value} {x:DataW H × List MemPlace} {fuel:Nat} (c:Nat) (hc:0<c) (f:Nat->Nat->α->Prop) (ht:P.underlying t=some (.slice e)) (hce:P.cellsOf e=c)
  (h:DataW.trod enc P w base spare held fuel t [v]=some x)
  (hel:∀n cs y b o,fuel=n+1->DataW.trod enc P w base spare held n e cs=some y->cs.length=c->(∀j,j<c->w.cell? ⟨b,o+j,none⟩=cs[j]?)->∃z,f b o z) :
  (∃l,Row c f v l)/\∀n c',v=.slice none n c'->c'=0:=by
 rcases DataW.trod_slice ht h with ⟨hv,_⟩|⟨a,len,cap,elems,rest,n,hfu,hv,_,_,hlc,hcm,hlen,hget,_,_⟩
 ·obtain rfl:v=.slice none 0 0:=by simpa using hv
  exact ⟨⟨[],by simp,.inl ⟨rfl,none,0,rfl⟩⟩,λn c' h=>by injection h with _ _ h3;exact h3.symm⟩
 obtain rfl:v=.slice (some a) len cap:=by simpa using hv
 refine ⟨?_,λn c' h=>by injection h with h1;cases h1⟩;by_cases h0:len=0
 ·subst h0;exact ⟨[],by simp,.inl ⟨rfl,_,_,rfl⟩⟩
 have hbind:∀i,i<len->∃cs y,w.cells? base (a.add (i*c)) c=some cs/\DataW.trod enc P w base spare held n e cs=some y:=λi hi=>by
  have hg:=hget i hi;rw [hce] at hg;obtain ⟨y,hy⟩:∃y,elems[i]?=some y:=⟨_,bG (by omega)⟩;rw [hy] at hg;obtain ⟨cs,h1,h2⟩:=Option.bind_eq_some_iff.1 hg;exact ⟨cs,y,h1,h2⟩
 have hsp:a.spot=none:=by
  obtain ⟨cs,y,h1,h2⟩:=hbind 0 (by omega);obtain ⟨_,hl,hcell⟩:=World.cells?_some h1;have h3:=hcell 0 hc;rw [Nat.zero_mul] at h3
  have:cs[0]?=some (cs[0]'(by omega)):=bG (by omega)
  rw [this] at h3
  have:=aeO h3
  simpa [Addr.add] using this
 obtain ⟨b,off,sp⟩:=a;simp only at hsp;subst hsp
 obtain ⟨l,hl,hf⟩:=Hy len (λi z=>f b (off+i*c) z) λi hi=>by
  obtain ⟨cs,y,h1,h2⟩:=hbind i hi;obtain ⟨_,hl,hcell⟩:=World.cells?_some h1;refine hel n cs y b (off+i*c) hfu h2 hl λj hj=>?_
  have:=hcell j hj
  rw [uH,uH] at this;exact this
 subst hl;exact ⟨l,by unfold maxLen at hcm;omega,.inr ⟨b,off,cap,rfl,hf⟩⟩
theorem gb {fs:Array Field} {xs:List (DataW H × List MemPlace)} {cs:List Value} {n:Nat} (hl:xs.length=fs.size)
  (hall:∀(i:Nat) (f:Field),fs[i]?=some f->DataW.trod enc P w base spare held n f.type ((cs.drop f.offset).take (P.cellsOf f.type))=xs[i]?) (i:Nat) (f:Field) (hf:fs[i]?=some f) :
  ∃y,DataW.trod enc P w base spare held n f.type ((cs.drop f.offset).take (P.cellsOf f.type))=some y:=by
 have hi:i<fs.size:=(gX.1 hf).1;exact ⟨xs[i]'(by omega),by rw [hall i f hf,bG]⟩
theorem take_one {cs:List Value} {o:Nat} {v:Value} (h:(cs.drop o).take 1 = [v]):cs[o]?=some v:=by
 have:=congrArg (·[0]?) h
 simpa [List.getElem?_take,List.getElem?_drop] using this
theorem vh {t:TypeId} {n:Nat} {cs:List Value} {o:Nat} {y:DataW H × List MemPlace} (ht:P.underlying t=some (.int .i64)) (hc:P.cellsOf t=1) (h:DataW.trod enc P w base spare held n t ((cs.drop o).take (P.cellsOf t))=some y):∃z:Int,cs[o]?=some (.int .i64 z)/\(Lit.int .i64 z).wf=true:=by
 rw [hc] at h;obtain ⟨z,h1,_,h2⟩:=DataW.trod_int ht h;exact ⟨z,take_one h1,h2⟩
theorem PU {t:TypeId} {n:Nat} {cs:List Value} {o:Nat} {y:DataW H × List MemPlace} (ht:P.underlying t=some .bool) (hc:P.cellsOf t=1) (h:DataW.trod enc P w base spare held n t ((cs.drop o).take (P.cellsOf t))=some y):∃z:Bool,cs[o]?=some (.bool z):=by
 rw [hc] at h;obtain ⟨z,h1,_⟩:=DataW.trod_bool ht h;exact ⟨z,take_one h1⟩
theorem G0 {t:TypeId} {n:Nat} {cs:List Value} {o:Nat} {y:DataW H × List MemPlace} (ht:P.underlying t=some .string) (hc:P.cellsOf t=1) (h:DataW.trod enc P w base spare held n t ((cs.drop o).take (P.cellsOf t))=some y):∃z:AH,cs[o]?=some (.string z)/\z.size<=9223372036854775807:=by
 rw [hc] at h;obtain ⟨z,h1,_,h2⟩:=DataW.trod_string ht h;exact ⟨z,take_one h1,by unfold maxLen at h2;omega⟩
theorem oI {t e:TypeId} {n:Nat} {cs:List Value} {o:Nat} {y:DataW H × List MemPlace} (ht:P.underlying t=some (.slice e)) (hc:P.cellsOf t=1) (h:DataW.trod enc P w base spare held n t ((cs.drop o).take (P.cellsOf t))=some y):∃v,cs[o]?=some v/\DataW.trod enc P w base spare held n t [v]=some y:=by
 rw [hc] at h;rcases DataW.trod_slice ht h with ⟨hv,_⟩|⟨a,len,cap,_,_,_,_,hv,_⟩
 ·rw [hv] at h;exact ⟨_,take_one hv,h⟩
 rw [hv] at h;exact ⟨_,take_one hv,h⟩
theorem xM {α:Type} {c:Nat} {f:Nat->Nat->α->Prop} {g:α->Prop} {v:Value} {l:List α} (h:Row c (λb o x=>f b o x/\g x) v l):∀x ∈ l,g x:=by
 intro x hx;rcases h.2 with ⟨rfl,_⟩|⟨b,off,cap,_,hc⟩
 ·cases hx
 obtain ⟨i,hi,rfl⟩:=List.getElem_of_mem hx;exact (hc i _ (bG hi)).2
end au
theorem uD:prog.cellsOf 3=1:=by kernel_rfl
theorem PV:prog.cellsOf 4=1:=by kernel_rfl
theorem G3:prog.cellsOf 9=1:=by kernel_rfl
theorem De:prog.cellsOf 28=1:=by kernel_rfl
theorem IW:prog.cellsOf 53=1:=by kernel_rfl
theorem FW:prog.cellsOf 59=7:=by kernel_rfl
theorem cFT:prog.cellsOf 57=2:=by kernel_rfl
theorem aa2:prog.cellsOf 83=3:=by kernel_rfl
theorem aa3:prog.cellsOf 55=3:=by kernel_rfl
theorem PW:prog.cellsOf 86=3:=by kernel_rfl
theorem aa4:prog.cellsOf 65=9:=by kernel_rfl
theorem aa5:prog.cellsOf 89=3:=by kernel_rfl
theorem aa6:prog.cellsOf 61=8:=by kernel_rfl
theorem aa7:prog.cellsOf 63=8:=by kernel_rfl
theorem abO:prog.cellsOf 32=10:=by kernel_rfl
section Of
variable {H:Type} {enc:TypeId × Value->H} {w:AG} {base:Nat} {spare:Nat->Bool} {held:Bool}
theorem BL {fuel:Nat} {v:Value} {x:DataW H × List MemPlace} (h:DataW.trod enc prog w base spare held fuel 28 [v]=some x):∃l,Ints w v l:=by
 refine (vk 1 (by omega) _ underlying28 uD h λn cs y b o _ hy hl hc=>?_).1;obtain ⟨z,h1,_,_⟩:=DataW.trod_int underlying3 hy;refine ⟨z,?_⟩
 have:=hc 0 (by omega)
 rw [h1] at this;simpa using this
end Of
theorem aa {p:Prop} (h:p):Hid p:=h
theorem Sq {P:Program} {f:FuncId} {args:Array Value} {w:AG} {m j:Nat} {v:Value} (h:Calls P f args (w.drewN (m+j)) λe w'=>e=.returned v/\∃n,w'=(w.drewN (m+j)).drewN n) :
  Calls P f args (w.drewN (m+j)) λe w'=>e=.returned v/\∃n,w'=w.drewN (m+n) :=
 h.mono λ_ _ ⟨he,n,hn⟩=>⟨he,j+n,by rw [hn,World.drewN_drewN,Nat.add_assoc]⟩
theorem adg {α:Type} {f:α->Nat->Nat} {l:List (Ins α)} {k c r:Nat} (hk:¬ (k<l.length/\c<=65536)) (h:r=nZ f (l.drop k) c):r=c:=by
 rw [h];by_cases hl:k<l.length
 ·have hc:¬ c<=65536:=λhc=>hk ⟨hl,hc⟩;rw [nN hl];unfold nZ;rw [AD hc]
 rw [List.drop_of_length_le (by omega)];rfl
theorem adh {α:Type} {f:α->Nat->Nat} {l:List (Ins α)} {k c r:Nat} {x:Ins α} (hx:l[k]?=some x) (hc:c<=65536) (h:r=nZ f (l.drop k) c):r=nZ f (l.drop (k+1)) (f x.els (f x.body (c+1))):=by
 have hl:k<l.length:=(gq.1 hx).1;have he:l[k]=x:=(gq.1 hx).2;rw [h,nN hl,he]
 conv=>lhs;unfold nZ
 rw [AE hc]
theorem Sr (o:Option Addr) (cap c:Nat) (w:AG) (hc:c<=65537) :
  Calls prog 52 #[.slice o 0 cap,.int .i64 c] w λe w'=>e=.returned (.int .i64 (c:Nat))/\∃m,w'=w.drewN m:=by
 go_enter func52,ntmps52;go_wp2_with fail;go_loopw [1,5] (λu i wr=>u=.int .i64 c/\i=.int .i64 0/\wr=w) (λ_ _ _=>0)
 case atStart=>exact ⟨rfl,rfl,rfl⟩
 case round =>
  obtain ⟨rfl,rfl,rfl⟩:=hrel;go_wp2;go_ret;exact ⟨rfl,0,rfl⟩
def Ss (d:Nat):Prop:=∀(v:Value) (l:IL d) (c:Nat) (w:AG),At w d v l->c<=65537 ->
  Calls prog 52 #[v,.int .i64 c] w λe w'=>e=.returned (.int .i64 (cnt d l c:Nat))/\∃m,w'=w.drewN m
theorem adi (d:Nat) (IH:Ss d) (v:Value) (l:List (Ins (IL d))) (c:Nat) (w:AG) (hAt:Row 7 (fM w (At w d)) v l) (hc:c<=65537) :
  Calls prog 52 #[v,.int .i64 c] w λe w'=>e=.returned (.int .i64 (nZ (cnt d) l c:Nat))/\∃m,w'=w.drewN m:=by
 have hlen:=hAt.1;by_cases hz:l.length=0
 ·obtain ⟨o,cap,rfl⟩:=hAt.len;rw [hz];obtain rfl:l = []:=iZ.1 hz;exact Sr o cap c w hc
 obtain ⟨b,off,cap,rfl,hx⟩:=hAt.some (by omega);obtain ⟨R,hR⟩:∃R,R=nZ (cnt d) l c:=⟨_,rfl⟩;rw [<- hR];have HR:Hid (R=nZ (cnt d) (l.drop 0) c):=hR;have HX:=aa hx;clear hx hAt hR;generalize hn:l.length=n at *;go_enter func52,ntmps52;go_wp2_with fail;go_loopw [1,5] (λu i wr=>∃k ck m:Nat,k<=n/\ck<=65537/\u=.int .i64 ck/\i=.int .i64 k/\R=nZ (cnt d) (l.drop k) ck/\wr=w.drewN m) (λ_ i _=>n-(RowKit.intOf i).toNat)
 case atStart=>exact ⟨0,c,0,by omega,hc,rfl,rfl,HR.out,rfl⟩
 case round =>
  obtain ⟨k,ck,m,hk,hck,rfl,rfl,hrr,rfl⟩:=hrel;have HK:=aa hrr;clear hrr;by_cases hgo:k<n/\ck<=65536
  ·obtain ⟨x,hxk⟩:∃x,l[k]?=some x:=⟨_,bG (by omega)⟩;have hI:=HX.out k x hxk;obtain ⟨vb,cb,ab⟩:=hI.body;obtain ⟨ve,ce,ae⟩:=hI.els;have HN:=aa (adh hxk hgo.2 HK.out);have afB:=Ce d x.body (ck+1);have hle2:=Ce d x.els (cnt d x.body (ck+1));have e1:((ck+1:Nat):Int)=(ck:Int)+1:=by omega
   have i1:=λ(j:Nat)=>aa (Sq (IH vb x.body (ck+1) (w.drewN (m+j)) (At.on (mE w _) _ _ _ ab) (by omega)));have i2:=λ(j:Nat)=>aa (Sq (IH ve x.els (cnt d x.body (ck+1)) (w.drewN (m+j)) (At.on (mE w _) _ _ _ ae) (by omega)));rw [e1] at i1;clear e1;clear hI hxk ab ae HK;generalize cnt d x.body (ck+1)=c1 at *;generalize cnt d x.els c1=c2 at *;have hg1:k<n:=hgo.1;have hg2:ck<=65536:=hgo.2;clear hgo;go_wp2_with fail;go_quiet (first|(go_at_call_of 52 vb;exact (i1 _).out)|(go_at_call_of 52 ve;exact (i2 _).out))
   go_wp2;go_roundw
   case rel=>exact ⟨k+1,c2,m+nq,by omega,by omega,rfl,by go_num,HN.out,rfl⟩
   case measure=>simp [RowKit.intOf];omega
  have HE:=aa (adg (by omega) HK.out);by_cases hkn:k<n
  ·have hb:decide ((ck:Int)<=65536)=false:=by simp;omega
   go_wp2;go_ret;exact ⟨by rw [HE.out];rfl,m,rfl⟩
  go_wp2;go_ret;exact ⟨by rw [HE.out];rfl,m,rfl⟩
theorem PL:∀(d:Nat),Ss d
 | 0=>λv l c w ⟨o,cap,hv⟩ hc=>by
  subst hv;exact Sr o cap c w hc
 | d+1=>λv l c w hAt hc=>adi d (PL d) v l c w hAt hc
namespace au
theorem adk {α:Type} [DecidableEq α] {a b:List α} {j:Nat} {x y:α} {R:Bool} (hx:a[j]?=some x) (hy:b[j]?=some y) (h:R=decide (a.drop j=b.drop j)):R=(decide (x=y)&&decide (a.drop (j+1)=b.drop (j+1))):=by
 have hl:j<a.length:=(gq.1 hx).1;have he:a[j]=x:=(gq.1 hx).2;have hl2:j<b.length:=(gq.1 hy).1;have he2:b[j]=y:=(gq.1 hy).2;rw [h,nN hl,he,nN hl2,he2,<- Bool.decide_and];simp only [List.cons.injEq]
end au
theorem BI (va vb:Value) (a b:List Int) (w:AG) (hA:Ints w va a) (hB:Ints w vb b) :
  Calls prog 26 #[va,vb] w λe w'=>e=.returned (.bool (decide (a=b)))/\∃n,w'=w.drewN n:=by
 have la:=hA.1;have lb:=hB.1;obtain ⟨oa,ca,rfl⟩:=Row.len hA;obtain ⟨ob,cb,rfl⟩:=Row.len hB;have HA:=aa hA;have HB:=aa hB;obtain ⟨R,hR⟩:∃R,R=decide (a=b):=⟨_,rfl⟩;rw [<- hR];have HR:Hid (R=decide (a.drop 0=b.drop 0)):=hR;have HL:Hid (a.length≠b.length->R=false):=aa (λh=>by rw [hR,aj (λe=>h (by rw [e]))]);clear hA hB hR;generalize hn:a.length=n at *;generalize hm:b.length=k at *;by_cases hne:n=k;rotate_left
 ·obtain rfl:=HL.out hne;have hne':((n:Int) != (k:Int))=true:=by rw [bne_iff_ne];omega
  clear HR HL;go_enter func26,ntmps26;go_wp2;go_ret;exact ⟨rfl,0,rfl⟩
 subst hne;clear HL;go_enter func26,ntmps26;go_wp2_with fail;go_loopw [5] (λi wr=>∃j q:Nat,j<=n/\i=.int .i64 j/\Hid (R=decide (a.drop j=b.drop j))/\wr=w.drewN q) (λi _=>n-(RowKit.intOf i).toNat)
 case atStart=>exact ⟨0,0,by omega,rfl,HR,rfl⟩
 case round =>
  obtain ⟨j,q,hj,rfl,HK,rfl⟩:=hrel;by_cases hgo:j<n
  ·obtain ⟨b1,aY,kG,hv1,hx1⟩:=Row.some HA.out (by omega);injection hv1 with dX e11 e12;subst dX;obtain ⟨b2,dn,cap2,hv2,hx2⟩:=Row.some HB.out (by omega);injection hv2 with lq mN mO;subst lq;obtain ⟨x,hxk⟩:∃x,a[j]?=some x:=⟨_,bG (by omega)⟩;obtain ⟨y,hyk⟩:∃y,b[j]?=some y:=⟨_,bG (by omega)⟩;have k1:=hx1 j x hxk;have k2:=hx2 j y hyk;rw [Nat.mul_one] at k1 k2;have HN:=aa (adk hxk hyk HK.out);clear hx1 hx2 hxk hyk HK e11 e12 mN mO;go_upto_region 6 with fail;go_quiet (fail);by_cases hxy:x=y
   ·subst hxy;have cH:Hid (R=decide (a.drop (j+1)=b.drop (j+1))):=aa (by rw [HN.out,ay rfl,jk]);clear HN;go_wp2;go_roundw
    case rel=>exact ⟨j+1,q+nq,by omega,by go_num,cH,by first|rfl|(rw [World.drewN_drewN])⟩
    case measure=>simp [RowKit.intOf];omega
   obtain rfl:R=false:=by rw [HN.out,aj hxy];rfl
   have afC:(x != y)=true:=by rw [bne_iff_ne];exact hxy
   clear HN;go_wp2;go_ret;exact ⟨rfl,q+nq,by first|rfl|(rw [World.drewN_drewN])⟩
  obtain rfl:R=true:=by rw [HK.out,List.drop_of_length_le (by omega),List.drop_of_length_le (by omega)];rfl
  clear HK;go_wp2;go_ret;exact ⟨rfl,q,rfl⟩
end Go.Proofs.YtcfifbgemfladaaGreatDoor
namespace Go.Proofs.YtcfifbgemfladaaGreatDoor
open Go.RowKit au
set_option linter.unusedVariables false
theorem dM {w u v:AG} (h:AS w u) (k:AS u v):AS w v:=h.trans (k.mono h.size)
theorem aQ (w:AG) (o:Obj):AS w (w.alloc o):=(AC _ w).alloc (aC _) o
theorem wX (w:AG):AS w w.drew:=(AC _ w).drew
section App
variable {P:Program}
theorem ZW (w:AG) (base:Nat) (t ty e:TypeId) (i:TypeInfo) (z:Value) (size bytes:Nat) (ht:P.underlying t=some (.slice e)) (hi:P.info? e=some i) (hz:i.zero=some z)
  (hsize:i.size=size) (hby:i.bytes=bytes) (hzs:z.cells.size=size) (hsz:0<size)
  (v:Value) (n:Nat) (xs:List Value) (hown:w.ownsRow base e size v n xs)
  (a:Addr) (m c:Nat) (news:List Value) (hl:news.length=m*size) (hnews:∀j u,news[j]?=some u->w.cell? (a.add j)=some u) (h1:∀u ∈ news,u.oneCell'=true)
  (h63:n+m<=maxLen) (hbytes:(n+m)*bytes<=140737488355328) (hbase:base<=w.heap.size) :
  ∃v' w',(Builtin.append_ #[t,t] ty #[v,.slice (some a) m c]).run P w=.ok v' w'/\w'.ownsRow base e size v' (n+m) (xs++news)/\w.grownBy w' v.ownBlock /\
   (v'.ownBlock=v.ownBlock\/v'.ownBlock=some w.heap.size):=by
 obtain ⟨v',w',hr,h2,h3,h4⟩:=run_append_own (P:=P) w base t ty e i z size bytes ht hi hz hsize hby hzs hsz v n xs hown a m c news hl hnews h1 h63 hbytes hbase;refine ⟨v',w',hr,h2,h3,?_⟩;subst hsize;subst hby;unfold maxLen at h63;rcases hown.2 with ⟨rfl,rfl⟩|⟨g,cap,cur,rfl,hbg,hg,hnc,hcm,hcs,htake⟩
 ·by_cases hm:m=0
  ·left;rw [h4.2 ⟨rfl,hm⟩]
  rw [run_append_nil (P:=P) w t ty e i z ht hi hz a m c news hl hnews (by omega) (by omega) (by simp only [Nat.zero_add] at hbytes;omega)] at hr;injection hr with hv _;right;rw [<- hv];rfl
 by_cases hroom:n+m<=cap
 ·have hfit:n*i.size+news.length<=cur.size:=by rw [hl,hcs,<- Nat.add_mul];exact Nat.mul_le_mul_right _ hroom
  rw [run_append_room (P:=P) w t ty e i ht hi g n cap cur hg a m c news hl hnews h1 hroom hfit] at hr;injection hr with hv _;left;rw [<- hv];rfl
 have holds:∀j u,xs[j]?=some u->w.cell? ((⟨g,0,none⟩:Addr).add j)=some u:=hown.cells (g:=g) rfl;rw [run_append_grow (P:=P) w t ty e i z ht hi hz ⟨g,0,none⟩ n cap xs hown.1 holds a m c news hl hnews (by omega) (by omega) (growslice_fits (by omega) hbytes)] at hr;injection hr with hv _;right;rw [<- hv];rfl
theorem ZX (w:AG) (base:Nat) (t ty e:TypeId) (i:TypeInfo) (size:Nat) (ht:P.underlying t=some (.slice e)) (hi:P.info? e=some i) (v:Value) (n:Nat) (xs:List Value) (hown:w.ownsRow base e size v n xs) (c:Nat) :
  (Builtin.append_ #[t,t] ty #[v,.slice none 0 c]).run P w=.ok v w:=by
 rcases hown.2 with ⟨rfl,rfl⟩|⟨g,cap,cur,rfl,_,_,hnc,_⟩
 ·simp [Builtin.append_,run_underlying ht,sizeOf,typeInfo,hi,Builtin.lenOf,Builtin.firstCells]
 simp [Builtin.append_,run_underlying ht,sizeOf,typeInfo,hi,Builtin.lenOf,Builtin.firstCells,hnc,storeCells]
theorem M8 (w:AG) (base:Nat) (t ty e:TypeId) (i:TypeInfo) (z:Value) (size bytes:Nat) (ht:P.underlying t=some (.slice e)) (hi:P.info? e=some i) (hz:i.zero=some z)
  (hsize:i.size=size) (hby:i.bytes=bytes) (hzs:z.cells.size=size) (hsz:0<size)
  (v:Value) (n:Nat) (xs:List Value) (hown:w.ownsRow base e size v n xs)
  (xo:Option Addr) (m c:Nat) (news:List Value) (Kg:xo=none->m=0) (hl:news.length=m*size) (hnews:∀ad,xo=some ad->∀j u,news[j]?=some u->w.cell? (ad.add j)=some u) (h1:∀u ∈ news,u.oneCell'=true)
  (h63:n+m<=maxLen) (hbytes:(n+m)*bytes<=140737488355328) (hbase:base<=w.heap.size) :
  ∃v' w',(Builtin.append_ #[t,t] ty #[v,.slice xo m c]).run P w=.ok v' w'/\w'.ownsRow base e size v' (n+m) (xs++news)/\w.grownBy w' v.ownBlock /\
   (v'.ownBlock=v.ownBlock\/v'.ownBlock=some w.heap.size):=by
 cases xo with
 | none =>
  obtain rfl:=Kg rfl;obtain rfl:news = []:=List.eq_nil_of_length_eq_zero (by simpa using hl);refine ⟨v,w,ZX w base t ty e i size ht hi v n xs hown c,by simpa using hown,⟨rfl,rfl,rfl,aC _,λ_ _ _=>rfl⟩,.inl rfl⟩
 | some a=>exact ZW w base t ty e i z size bytes ht hi hz hsize hby hzs hsz v n xs hown a m c news hl (hnews a rfl) h1 h63 hbytes hbase
theorem tO {w:AG} {ops:Array Oper} {rest:List Oper} {o:Oper} {a:Act} {Q:Exit->Act->AG->Prop} (hgd:o.guard=none) (s x:Operand) (t:TypeId)
  (ho:o.op=.call { callee:=.builtin .append,args:=#[s,x],argTypes:=#[t,t] })
  (base:Nat) (e:TypeId) (i:TypeInfo) (z:Value) (size bytes:Nat) (ht:P.underlying t=some (.slice e)) (hi:P.info? e=some i) (hz:i.zero=some z)
  (hsize:i.size=size) (hby:i.bytes=bytes) (hzs:z.cells.size=size) (hsz:0<size)
  (v:Value) (n:Nat) (xs:List Value) (hs:a.eval s=v) (hown:w.ownsRow base e size v n xs)
  (xo:Option Addr) (m c:Nat) (news:List Value) (hx:a.eval x=.slice xo m c) (Kg:xo=none->m=0) (hl:news.length=m*size) (hnews:∀ad,xo=some ad->∀j u,news[j]?=some u->w.cell? (ad.add j)=some u) (h1:∀u ∈ news,u.oneCell'=true)
  (h63:n+m<=maxLen) (hbytes:(n+m)*bytes<=140737488355328) (hbase:base<=w.heap.size)
  (h:∀v' w',w'.ownsRow base e size v' (n+m) (xs++news)->w.grownBy w' v.ownBlock->(v'.ownBlock=v.ownBlock\/v'.ownBlock=some w.heap.size)->wpList P ops Q rest (a.put o.dst v') w'):wpList P ops Q (o :: rest) a w:=by
 refine wpList_plain hgd λK hK=>?_;obtain ⟨v',w',hr,h2,h3,h4⟩:=M8 w base t o.type e i z size bytes ht hi hz hsize hby hzs hsz v n xs hown xo m c news Kg hl hnews h1 h63 hbytes hbase;unfold Oper.wp;simp [execOp,ho,resolve,invoke,builtin,hs,hx,hr,Result.andThen];exact hK _ _ (h v' w' h2 h3 h4)
end App
namespace au
def aU (w:AG) (S:Nat->Prop) (v:Value) (l:List Int):Prop:=Row 1 (λb o (z:Int)=>S b/\w.cell? ⟨b,o,none⟩=.some (.int .i64 z)) v l
structure zg {α:Type} (w:AG) (S:Nat->Prop) (sub:Value->α->Prop) (bk o:Nat) (x:Ins α):Prop where
 op:w.cell? ⟨bk,o,none⟩=.some (.int .i64 x.op)
 a:w.cell? ⟨bk,o+1,none⟩=.some (.int .i64 x.a)
 b:w.cell? ⟨bk,o+2,none⟩=.some (.int .i64 x.b)
 n:w.cell? ⟨bk,o+3,none⟩=.some (.int .i64 x.n)
 labels:∃v,w.cell? ⟨bk,o+4,none⟩=.some v/\aU w S v x.labels
 body:∃v,w.cell? ⟨bk,o+5,none⟩=.some v/\sub v x.body
 els:∃v,w.cell? ⟨bk,o+6,none⟩=.some v/\sub v x.els
def az (w:AG) (S:Nat->Prop):(d:Nat)->Value->IL d->Prop
 | 0,v,_=>∃o cap,v=.slice o 0 cap
 | d+1,v,l=>Row 7 (λb o (x:Ins (IL d))=>S b/\zg w S (az w S d) b o x) v l
theorem aU.at {w:AG} {S:Nat->Prop} {v:Value} {l:List Int} (h:aU w S v l):Ints w v l:=Row.imp h λ_ _ _ _ h=>h.2
theorem az.at {w:AG} {S:Nat->Prop}:∀(d:Nat) (v:Value) (l:IL d),az w S d v l->At w d v l
 | 0,_,_,h=>h
 | d+1,_,_,h=>Row.imp (α:=Ins (IL d)) h λ_ _ _ _ ⟨_,h⟩=>⟨h.op,h.a,h.b,h.n,let ⟨v,a,b⟩:=h.labels;⟨v,a,b.at⟩,let ⟨v,a,b⟩:=h.body;⟨v,a,az.at d v _ b⟩,let ⟨v,a,b⟩:=h.els;⟨v,a,az.at d v _ b⟩⟩
theorem gZ {w w':AG} {S S':Nat->Prop} (hk:∀k,S k->S' k/\w'.heap[k]?=w.heap[k]?) {b o:Nat} {u:Value} (hb:S b) (h:w.cell? ⟨b,o,none⟩=.some u):w'.cell? ⟨b,o,none⟩=.some u :=
 (World.cell?_of_block (a:=⟨b,o,none⟩) (hk b hb).2).trans h
theorem aU.keep {w w':AG} {S S':Nat->Prop} (hk:∀k,S k->S' k/\w'.heap[k]?=w.heap[k]?) {v:Value} {l:List Int} (h:aU w S v l):aU w' S' v l :=
 Row.imp h λb _ _ _ h=>⟨(hk b h.1).1,gZ hk h.1 h.2⟩
theorem az.keep {w w':AG} {S S':Nat->Prop} (hk:∀k,S k->S' k/\w'.heap[k]?=w.heap[k]?):∀(d:Nat) (v:Value) (l:IL d),az w S d v l->az w' S' d v l
 | 0,_,_,h=>h
 | d+1,_,_,h=>Row.imp (α:=Ins (IL d)) h λb _ _ _ ⟨hb,h⟩=>⟨(hk b hb).1,gZ hk hb h.op,gZ hk hb h.a,gZ hk hb h.b,gZ hk hb h.n,let ⟨v,a,c⟩:=h.labels;⟨v,gZ hk hb a,c.keep hk⟩,let ⟨v,a,c⟩:=h.body;⟨v,gZ hk hb a,az.keep hk d v _ c⟩,let ⟨v,a,c⟩:=h.els;⟨v,gZ hk hb a,az.keep hk d v _ c⟩⟩
def Since (B:Nat) (w:AG) (row:Option Nat) (k:Nat):Prop:=B<=k/\k<w.heap.size/\some k≠row
theorem pO {B:Nat} {w w':AG} {row:Option Nat} (hb:AS w w'):∀k,Since B w row k->Since B w' row k/\w'.heap[k]?=w.heap[k]?:=λk hk =>
 ⟨⟨hk.1,jg hk.2.1 hb.size,hk.2.2⟩,hb.block k hk.2.1⟩
theorem xh {B:Nat} {w w':AG} {v v':Value} (hg:w.grownBy w' v.ownBlock) (hv:v'.ownBlock=v.ownBlock\/v'.ownBlock=some w.heap.size):∀k,Since B w v.ownBlock k->Since B w' v'.ownBlock k/\w'.heap[k]?=w.heap[k]?:=λk hk=>by
 refine ⟨⟨hk.1,jg hk.2.1 hg.size,?_⟩,hg.block k hk.2.1 hk.2.2⟩;rcases hv with h|h
 ·rw [h];exact hk.2.2
 rw [h];intro e;injection e with e
 have:=hk.2.1
 omega
end au
end Go.Proofs.YtcfifbgemfladaaGreatDoor
namespace Go.Proofs.YtcfifbgemfladaaGreatDoor
open Go.RowKit au Go.Proofs.Tryz
set_option linter.unusedVariables false
set_option maxRecDepth 100000
set_option maxHeartbeats 4000000
namespace au
def qI {α:Type} (f:α->α->Bool) (x y:Ins α):Bool:=decide (x.op=y.op)&&(decide (x.a=y.a)&&(decide (x.b=y.b)&&(decide (x.n=y.n)&&(decide (x.labels=y.labels)&&(f x.body y.body&&f x.els y.els)))))
def rJ {α:Type} (f:α->α->Bool):List (Ins α)->List (Ins α)->Bool
 | [],[]=>true
 | x :: r,y :: s=>qI f x y&&rJ f r s
 | _,_=>false
def mD:(d:Nat)->IL d->IL d->Bool
 | 0,_,_=>true
 | d+1,l,k=>rJ (mD d) l k
theorem Tt {α:Type} {f:α->α->Bool}:∀(l k:List (Ins α)),l.length≠k.length->rJ f l k=false
 | [],[],h=>absurd rfl h
 | [],_ :: _,_=>rfl
 | _ :: _,[],_=>rfl
 | x :: r,y :: s,h=>by
  show (qI f x y&&rJ f r s)=false;rw [Tt r s (by simpa using h),Bool.and_false]
theorem aen {α:Type} {f:α->α->Bool} {a b:List (Ins α)} {j:Nat} {x y:Ins α} {R:Bool} (hx:a[j]?=some x) (hy:b[j]?=some y) (h:R=rJ f (a.drop j) (b.drop j)):R=(qI f x y&&rJ f (a.drop (j+1)) (b.drop (j+1))):=by
 have hl:j<a.length:=(gq.1 hx).1;have he:a[j]=x:=(gq.1 hx).2;have hl2:j<b.length:=(gq.1 hy).1;have he2:b[j]=y:=(gq.1 hy).2;rw [h,nN hl,he,nN hl2,he2];rfl
structure qi (b:Nat) (v0 v1 v2 v3 v4 v5 v6:Value) (u:AG):Prop where
 c0:u.cell? ⟨b,0,none⟩=some v0
 c1:u.cell? ⟨b,1,none⟩=some v1
 c2:u.cell? ⟨b,2,none⟩=some v2
 c3:u.cell? ⟨b,3,none⟩=some v3
 c4:u.cell? ⟨b,4,none⟩=some v4
 c5:u.cell? ⟨b,5,none⟩=some v5
 c6:u.cell? ⟨b,6,none⟩=some v6
theorem qi.on {u u':AG} (hb:AS u u') {b:Nat} {v0 v1 v2 v3 v4 v5 v6:Value} (h:qi b v0 v1 v2 v3 v4 v5 v6 u):qi b v0 v1 v2 v3 v4 v5 v6 u' :=
 ⟨ak hb h.c0,ak hb h.c1,ak hb h.c2,ak hb h.c3,ak hb h.c4,ak hb h.c5,ak hb h.c6⟩
theorem qi.new (w:AG) (t:TypeId) (b:Nat) (v0 v1 v2 v3 v4 v5 v6:Value) (hb:b=w.heap.size):qi b v0 v1 v2 v3 v4 v5 v6 (w.alloc (.cells #[v0,v1,v2,v3,v4,v5,v6] t)):=by
 refine ⟨?_,?_,?_,?_,?_,?_,?_⟩<;>(rw [World.cell?_alloc_at _ t _ _ hb];rfl)
end au
def Tu (d:Nat):Prop:=∀(va vb:Value) (a b:IL d) (w:AG),At w d va a->At w d vb b ->
  Calls prog 27 #[va,vb] w λe w'=>e=.returned (.bool (mD d a b))/\AS w w'
theorem aeo (oa ob:Option Addr) (n k ca cb:Nat) (w:AG) (hn:n<=9223372036854775807) (hk:k<=9223372036854775807) (hne:n≠k) :
  Calls prog 27 #[.slice oa n ca,.slice ob k cb] w λe w'=>e=.returned (.bool false)/\w'=w:=by
 have hne':((n:Int) != (k:Int))=true:=by rw [bne_iff_ne];omega
 go_enter func27,ntmps27;go_wp2;go_ret;exact ⟨rfl,rfl⟩
theorem aep (oa ob:Option Addr) (ca cb:Nat) (w:AG) :
  Calls prog 27 #[.slice oa 0 ca,.slice ob 0 cb] w λe w'=>e=.returned (.bool true)/\w'=w:=by
 go_enter func27,ntmps27;go_wp2_with fail;go_loopw [5] (λi wr=>i=.int .i64 0/\wr=w) (λ_ _=>0)
 case atStart=>exact ⟨rfl,rfl⟩
 case round =>
  obtain ⟨rfl,rfl⟩:=hrel;go_wp2;go_ret;exact ⟨rfl,rfl⟩
theorem aeq (d:Nat) (IH:Tu d) (va vb:Value) (a b:List (Ins (IL d))) (w:AG) (hA:Row 7 (fM w (At w d)) va a) (hB:Row 7 (fM w (At w d)) vb b) :
  Calls prog 27 #[va,vb] w λe w'=>e=.returned (.bool (rJ (mD d) a b))/\AS w w':=by
 have la:=hA.1;have lb:=hB.1;obtain ⟨oa,ca,rfl⟩:=Row.len hA;obtain ⟨ob,cb,rfl⟩:=Row.len hB;by_cases hne:a.length=b.length;rotate_left
 ·rw [Tt _ _ hne];exact (aeo oa ob _ _ ca cb w la lb hne).mono λe w' ⟨h1,h2⟩=>⟨h1,by rw [h2];exact AC _ _⟩
 have HA:=aa hA;have HB:=aa hB;obtain ⟨R,hR⟩:∃R,R=rJ (mD d) a b:=⟨_,rfl⟩;rw [<- hR];have HR:Hid (R=rJ (mD d) (a.drop 0) (b.drop 0)):=hR;clear hA hB hR;generalize hn:a.length=n at *;generalize hm:b.length=k at *;subst hne;clear lb;go_enter func27,ntmps27;go_wp2_with fail;go_loopw [5] (λi wr=>∃j:Nat,j<=n/\i=.int .i64 j/\Hid (R=rJ (mD d) (a.drop j) (b.drop j))/\Hid (AS w wr)) (λi _=>n-(RowKit.intOf i).toNat)
 case atStart=>exact ⟨0,by omega,rfl,HR,aa (AC _ _)⟩
 case round =>
  obtain ⟨j,hj,rfl,HK,HP⟩:=hrel;by_cases hgo:j<n
  ·obtain ⟨b1,aY,kG,hv1,hx1⟩:=Row.some HA.out (by omega);injection hv1 with dX e11 e12;subst dX;obtain ⟨b2,dn,cap2,hv2,hx2⟩:=Row.some HB.out (by omega);injection hv2 with lq mN mO;subst lq;obtain ⟨x,hxk⟩:∃x,a[j]?=some x:=⟨_,bG (by omega)⟩;obtain ⟨y,hyk⟩:∃y,b[j]?=some y:=⟨_,bG (by omega)⟩;have HX:=aa ((hx1 j x hxk).on HP.out (At.on HP.out d));have HY:=aa ((hx2 j y hyk).on HP.out (At.on HP.out d));have HN:=aa (aen hxk hyk HK.out);clear hx1 hx2 hxk hyk HK e11 e12 mN mO;obtain ⟨g0,g1,g2,g3,⟨lx,g4,kX⟩,⟨bx,g5,kY⟩,⟨ex,g6,kZ⟩⟩:=HX.out;obtain ⟨h0,h1,h2,h3,⟨ly,h4,LL⟩,⟨by_,h5,LM⟩,⟨ey,h6,LN⟩⟩:=HY.out;obtain ⟨lxo,lxc,rfl⟩:=Row.len kX;obtain ⟨lyo,lyc,rfl⟩:=Row.len LL;obtain ⟨bxo,bxc,rfl⟩:=At.len d bx _ kY;obtain ⟨exo,exc,rfl⟩:=At.len d ex _ kZ;obtain ⟨byo,byc,rfl⟩:=At.len d by_ _ LM;obtain ⟨eyo,eyc,rfl⟩:=At.len d ey _ LN;have xB:=aa kX;have uP:=aa kY;have sM:=aa kZ;have xC:=aa LL;have uQ:=aa LM;have sN:=aa LN;clear kX kY kZ LL LM LN HX HY;have z1:b1<wr.heap.size:=World.block_lt_of_cell? _ _ g0;have z2:b2<wr.heap.size:=World.block_lt_of_cell? _ _ h0;go_upto_region 6 with fail;go_cut [6,7] from 19 to 26 (λs6 s7 wx=>∃p q:Nat,s6=.pointer (some ⟨p,0,none⟩)/\s7=.pointer (some ⟨q,0,none⟩)/\Hid (qi p (.int .i64 x.op) (.int .i64 x.a) (.int .i64 x.b) (.int .i64 x.n) (.slice lxo x.labels.length lxc) (.slice bxo (size d x.body) bxc) (.slice exo (size d x.els) exc) wx)/\Hid (qi q (.int .i64 y.op) (.int .i64 y.a) (.int .i64 y.b) (.int .i64 y.n) (.slice lyo y.labels.length lyc) (.slice byo (size d y.body) byc) (.slice eyo (size d y.els) eyc) wx)/\Hid (AS wr wx))
   case first =>
    go_region
    ·go_wp2_with fail
     go_meet
     exact ⟨wr.heap.size,wr.heap.size+1,rfl,rfl,aa (qi.on (wX _) (qi.on (aQ _ _) (qi.new wr _ _ _ _ _ _ _ _ _ rfl))),aa (qi.on (wX _) (qi.new _ _ _ _ _ _ _ _ _ _ (by simp))),aa (dM (dM (aQ _ _) (aQ _ _)) (wX _))⟩
    go_wp2_with fail
    go_meet
    exact ⟨wr.heap.size+1,wr.heap.size,rfl,rfl,aa (qi.on (wX _) (qi.new _ _ _ _ _ _ _ _ _ _ (by simp))),aa (qi.on (wX _) (qi.on (aQ _ _) (qi.new wr _ _ _ _ _ _ _ _ _ rfl))),aa (dM (dM (aQ _ _) (aQ _ _)) (wX _))⟩
   obtain ⟨p,q,rfl,rfl,SX,SY,HC⟩:=hcut;clear g0 g1 g2 g3 g4 g5 g6 h0 h1 h2 h3 h4 h5 h6 z1 z2;have HP:=aa (dM HP.out HC.out);have xB:=aa (xB.out.on HC.out);have xC:=aa (xC.out.on HC.out);have uP:=aa (At.on HC.out _ _ _ uP.out);have uQ:=aa (At.on HC.out _ _ _ uQ.out);have sM:=aa (At.on HC.out _ _ _ sM.out);have sN:=aa (At.on HC.out _ _ _ sN.out);clear HC;obtain ⟨g0,g1,g2,g3,g4,g5,g6⟩:=SX.out;obtain ⟨h0,h1,h2,h3,h4,h5,h6⟩:=SY.out;have cH:Hid (R=(qI (mD d) x y&&rJ (mD d) (a.drop (j+1)) (b.drop (j+1)))):=HN;unfold qI at cH;clear HN;by_cases Hv:x.op=y.op;rotate_left
   ·have top:(x.op != y.op)=true:=by rw [bne_iff_ne];exact Hv
    obtain rfl:R=false:=by rw [cH.out,aj Hv];rfl
    clear cH;go_wp2;go_ret;exact ⟨rfl,HP.out⟩
   have top:(x.op != y.op)=false:=by rw [bne_eq_false_iff_eq];exact Hv
   rw [ay Hv,jk] at cH;by_cases ea:x.a=y.a;rotate_left
   ·have ta:(x.a != y.a)=true:=by rw [bne_iff_ne];exact ea
    obtain rfl:R=false:=by rw [cH.out,aj ea];rfl
    clear cH;go_wp2;go_ret;exact ⟨rfl,HP.out⟩
   have ta:(x.a != y.a)=false:=by rw [bne_eq_false_iff_eq];exact ea
   rw [ay ea,jk] at cH;by_cases eb:x.b=y.b;rotate_left
   ·have tb:(x.b != y.b)=true:=by rw [bne_iff_ne];exact eb
    obtain rfl:R=false:=by rw [cH.out,aj eb];rfl
    clear cH;go_wp2;go_ret;exact ⟨rfl,HP.out⟩
   have tb:(x.b != y.b)=false:=by rw [bne_eq_false_iff_eq];exact eb
   rw [ay eb,jk] at cH;by_cases en:x.n=y.n;rotate_left
   ·have tn:(x.n != y.n)=true:=by rw [bne_iff_ne];exact en
    obtain rfl:R=false:=by rw [cH.out,aj en];rfl
    clear cH;go_wp2;go_ret;exact ⟨rfl,HP.out⟩
   have tn:(x.n != y.n)=false:=by rw [bne_eq_false_iff_eq];exact en
   rw [ay en,jk] at cH;go_wp2_with fail;refine (BI _ _ x.labels y.labels _ xB.out xC.out).mono ?_;rintro e u1 ⟨rfl,nd,hnd⟩;have hb:AS wc u1:=by rw [hnd];exact mE _ _
   clear hnd;have HP:=aa (dM HP.out hb);have SX:=aa (SX.out.on hb);have SY:=aa (SY.out.on hb);have uP:=aa (At.on hb _ _ _ uP.out);have uQ:=aa (At.on hb _ _ _ uQ.out);have sM:=aa (At.on hb _ _ _ sM.out);have sN:=aa (At.on hb _ _ _ sN.out);clear hb g0 g1 g2 g3 g4 g5 g6 h0 h1 h2 h3 h4 h5 h6 xB xC;generalize decide (x.labels=y.labels)=tl at *;cases tl with
   | false =>
    obtain rfl:R=false:=cH.out;clear cH;go_wp2;go_ret;exact ⟨rfl,HP.out⟩
   | true =>
   obtain ⟨g0,g1,g2,g3,g4,g5,g6⟩:=SX.out;obtain ⟨h0,h1,h2,h3,h4,h5,h6⟩:=SY.out;go_wp2_with fail;refine (IH _ _ x.body y.body _ uP.out uQ.out).mono ?_;rintro e u2 ⟨rfl,hb⟩;have HP:=aa (dM HP.out hb);have SX:=aa (SX.out.on hb);have SY:=aa (SY.out.on hb);have sM:=aa (At.on hb _ _ _ sM.out);have sN:=aa (At.on hb _ _ _ sN.out);clear hb g0 g1 g2 g3 g4 g5 g6 h0 h1 h2 h3 h4 h5 h6 uP uQ;generalize mD d x.body y.body=tb at *;cases tb with
   | false =>
    obtain rfl:R=false:=cH.out;clear cH;go_wp2;go_ret;exact ⟨rfl,HP.out⟩
   | true =>
   obtain ⟨g0,g1,g2,g3,g4,g5,g6⟩:=SX.out;obtain ⟨h0,h1,h2,h3,h4,h5,h6⟩:=SY.out;go_wp2_with fail;refine (IH _ _ x.els y.els _ sM.out sN.out).mono ?_;rintro e u3 ⟨rfl,hb⟩;have HP:=aa (dM HP.out hb);clear hb g0 g1 g2 g3 g4 g5 g6 h0 h1 h2 h3 h4 h5 h6 sM sN SX SY;generalize mD d x.els y.els=te at *;cases te with
   | false =>
    obtain rfl:R=false:=cH.out;clear cH;go_wp2;go_ret;exact ⟨rfl,HP.out⟩
   | true =>
   have Ec:Hid (R=rJ (mD d) (a.drop (j+1)) (b.drop (j+1))):=aa (by rw [cH.out];simp only [jk]);clear cH;go_wp2;go_roundw
   case rel=>exact ⟨j+1,by omega,by go_num,Ec,HP⟩
   case measure=>simp [RowKit.intOf];omega
  obtain rfl:R=true:=by rw [HK.out,List.drop_of_length_le (by omega),List.drop_of_length_le (by omega)];rfl
  clear HK;go_wp2;go_ret;exact ⟨rfl,HP.out⟩
theorem Jh:∀(d:Nat),Tu d
 | 0=>λva vb a b w ⟨oa,ca,hva⟩ ⟨ob,cb,hvb⟩=>by
  subst hva;subst hvb;exact (aep oa ob ca cb w).mono λe w' ⟨h1,h2⟩=>⟨h1,by rw [h2];exact AC _ _⟩
 | d+1=>λva vb a b w hA hB=>aeq d (Jh d) va vb a b w hA hB
end Go.Proofs.YtcfifbgemfladaaGreatDoor

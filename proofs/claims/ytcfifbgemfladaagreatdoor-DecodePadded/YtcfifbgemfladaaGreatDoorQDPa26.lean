/- Texts that the claim needs. -/
import Derived.Test.YtcfifbgemfladaaGreatDoorQDPa9
import Derived.Test.YtcfifbgemfladaaGreatDoorQDPa25
import Derived.Test.YtcfifbgemfladaaGreatDoorQDPa7
import Derived.Test.YtcfifbgemfladaaGreatDoorQDPa5
namespace Go.Proofs.YtcfifbgemfladaaGreatDoor
open Go.RowKit au Enc aI Go.Lib
set_option linter.unusedVariables false
namespace aI
def Put {α:Type} (rd:AH->Nat->Nat->R α) (wr:α->List Int) (x:α):Prop:=∀(s:AH) (en i:Nat),en<=s.size->Ls s i (wr x)->i+(wr x).length<=en->rd s en i=.ok (x,i+(wr x).length)
theorem qG {α:Type} {a:α} {p p':Nat} (h1:p=p'):(Except.ok (a,p):R α)=.ok (a,p'):=by rw [h1]
theorem NV {t:AH} {k:Nat} (h:k<t.size):(nums t).getD k 0=af.bt t k:=by
 unfold nums;rw [<- af.get_bt t k h,List.getD_eq_getElem?_getD,List.getElem?_map,Array.getElem?_toList,wU (show k<t.data.size from h)];rfl
theorem NT {s t:AH} {j:Nat} (h:Ls s j (nums t)) (hj:j+t.size<=s.size):s.extract j (j+t.size)=t:=by
 apply ByteArray.ext;apply Array.toList_inj.1;rw [ByteArray.data_extract];apply List.ext_getElem?;intro k;rw [Array.toList_extract,List.extract_eq_take_drop,show j+t.size-j=t.size by omega];by_cases hk:k<t.size
 ·rw [List.getElem?_take_of_lt hk,List.getElem?_drop,Array.getElem?_toList,Array.getElem?_toList,wU (show j+k<s.data.size from (by show j+k<s.size;omega)),wU (show k<t.data.size from hk)];have h1:=h k (by rw [BN];exact hk);rw [NV hk,<- af.get_bt s (j+k) (by omega),<- af.get_bt t k hk] at h1;have h2:(s[j+k]'(by omega)).toNat=(t[k]'hk).toNat:=by omega
  exact congrArg some (UInt8.toNat_inj.1 h2)
 rw [List.getElem?_eq_none (by rw [yY];omega),Array.getElem?_toList,Array.getElem?_eq_none (show t.data.size<=k from (by show t.size<=k;omega))]
theorem Tz {t:AH} (ht:t.size<=4294967295):Put vY jH t:=λs en i he h hi=>by
 have hl:(jH t).length=(af.uB (t.size:Int)).length+t.size:=by unfold jH;rw [aT,BN]
 unfold jH at h;unfold vY;rw [oZ he (by omega) (by omega) h.left (by omega),aK,AE (by omega),Int.toNat_natCast,NT h.right (by omega)];exact qG (by omega)
theorem LQ {t:AH} (hn:nm t=true):Put xn jH t:=λs en i he h hi=>by
 have hs:t.size<=64:=by
  unfold nm at hn;rw [bH] at hn
  have:=of_decide_eq_true hn.1
  omega
 unfold xn;rw [Tz (by omega) s en i he h hi,aK,AE hn]
theorem LR {α:Type} {f:AH->Nat->Nat->R α} {g:α->List Int} {s:AH} {en:Nat} (he:en<=s.size):∀(l:List α) (i:Nat),(∀x ∈ l,Put f g x)->Ls s i (l.flatMap g)->i+(l.flatMap g).length<=en->rep (f s en) l.length i=.ok (l,i+(l.flatMap g).length)
 | [],i,_,_,_=>rfl
 | x :: r,i,hP,h,hi=>by
  rw [List.flatMap_cons] at h hi;rw [aT] at hi;show bd (f s en i) _=_;rw [hP x (by simp) s en i he h.left (by omega),aK,LR he r _ (λy hy=>hP y (by simp [hy])) h.right (by omega),aK];rw [List.flatMap_cons,aT];exact qG (by omega)
theorem Hm {s:AH} {en i n:Nat} (he:en<=s.size) (hn:n<=4096) (h:Ls s i (af.uB (n:Int))) (hi:i+(af.uB (n:Int)).length<=en):rc s en i=.ok ((n:Int),i+(af.uB (n:Int)).length):=by
 unfold rc;rw [oZ he (by omega) (by omega) h hi,aK,AE (by omega)]
theorem yu {α:Type} {f:AH->Nat->Nat->R α} {g:α->List Int} {s:AH} {en i:Nat} {l:List α} (he:en<=s.size) (hl:l.length<=4096) (hP:∀x ∈ l,Put f g x) (h:Ls s i (aG g l)) (hi:i+(aG g l).length<=en):bB (f s en) s en i=.ok (l,i+(aG g l).length):=by
 have hz:(aG g l).length=(af.uB (l.length:Int)).length+(l.flatMap g).length:=by unfold aG;rw [aT]
 unfold aG at h;unfold bB;rw [Hm he hl h.left (by omega),aK,Int.toNat_natCast,LR he l _ hP h.right (by omega)];exact qG (by omega)
theorem Ld {x:Int} (hx:x=126\/x=127):Put rt (λx=>[x%256]) x:=λs en i he h hi=>by
 have hx2:x%256=x:=by omega
 have h:Ls s i [x%256]:=h;rw [hx2] at h;simp only [List.length_singleton] at hi ⊢;unfold rt;rw [vC h (by omega),aK];unfold pg;rw [AD (by omega),AE (by omega)]
theorem TA {l:List Int} (hl:l.length<=4096) (hx:∀x ∈ l,x=126\/x=127):Put zH qE l:=λs en i he h hi=>by
 have hz:(qE l).length=(af.uB (l.length:Int)).length+(l.flatMap λx=>[x%256]).length:=by unfold qE;rw [aT]
 unfold qE at h;unfold zH;rw [Hm he hl h.left (by omega),aK,Int.toNat_natCast,LR (f:=rt) (g:=λx=>[x%256]) he l _ (λx h=>Ld (hx x h)) h.right (by omega)];exact qG (by omega)
theorem ab4 {x:FT} (h1:x.params.length<=4096) (h2:x.results.length<=4096) (h3:∀y ∈ x.params,y=126\/y=127) (h4:∀y ∈ x.results,y=126\/y=127):Put ni kI x:=λs en i he h hi=>by
 have hz:(kI x).length=1+(qE x.params).length+(qE x.results).length:=by unfold kI;simp only [aT,List.length_singleton]
 unfold kI at h;have ha:Ls s i [96]:=h.left.left;have hb:Ls s (i+1) (qE x.params):=h.left.right;have hc:Ls s (i+(1+(qE x.params).length)) (qE x.results):=by have:=h.right;rwa [aT] at this
 unfold ni;rw [zh ha (by omega),aK,TA h1 h3 s en _ he hb (by omega),aK,TA h2 h4 s en _ he (by rw [Nat.add_assoc];exact hc) (by omega),aK];exact qG (by omega)
theorem ab5 {x:oG} (h1:nm x.mod=true) (h2:nm x.name=true) (h3:0<=x.type/\x.type<=4294967295):Put nR kJ x:=λs en i he h hi=>by
 have hz:(kJ x).length=(jH x.mod).length+(jH x.name).length+1+(af.uB x.type).length:=by unfold kJ;simp only [aT,List.length_singleton]
 unfold kJ at h;have ha:=h.left.left.left;have hb:=h.left.left.right;have hc:=h.left.right;have hd:=h.right;simp only [aT,List.length_singleton] at hc hd;unfold nR;rw [LQ h1 s en _ he ha (by omega),aK,LQ h2 s en _ he hb (by omega),aK,zh (xs:=[]) (by rw [Nat.add_assoc];exact hc) (by omega),aK,oZ he h3.1 h3.2 (by rw [show i+(jH x.mod).length+(jH x.name).length+1=i+((jH x.mod).length+(jH x.name).length+1) by omega];exact hd) (by omega),aK];exact qG (by omega)
theorem ab7 {x:oH} (h1:nm x.name=true) (h2:0<=x.kind/\x.kind<=3) (h3:0<=x.index/\x.index<=4294967295):Put nS kN x:=λs en i he h hi=>by
 have hz:(kN x).length=(jH x.name).length+1+(af.uB x.index).length:=by unfold kN;simp only [aT,List.length_singleton]
 unfold kN at h;have ha:=h.left.left;have hb:=h.left.right;have hc:=h.right;simp only [aT,List.length_singleton] at hc;rw [show x.kind%256=x.kind by omega] at hb;unfold nS;rw [LQ h1 s en _ he ha (by omega),aK,vC hb (by omega),aK,AE h2.2,oZ he h3.1 h3.2 (by rw [Nat.add_assoc];exact hc) (by omega),aK];exact qG (by omega)
theorem LU (b:Bool):Put zA (λb=>[one b]) b:=λs en i he h hi=>by
 have h:Ls s i [one b]:=h;simp only [List.length_singleton] at hi ⊢;unfold zA;rw [vC h (by omega),aK];cases b
 ·rfl
 rfl
theorem ab3 {x:gu} (h1:0<=x.min/\x.min<=4294967295) (h2:0<=x.max/\x.max<=4294967295) (h3:x.has=true\/x.max=0):Put kK eT x:=λs en i he h hi=>by
 obtain ⟨mn,mx,has⟩:=x;simp only at h1 h2 h3;cases has with
 | false =>
  obtain rfl:mx=0:=by rcases h3 with h|h;cases h;exact h
  have hz:(eT ⟨mn,0,false⟩).length=1+(af.uB mn).length:=by unfold eT;simp [Nat.add_comm]
  have h:Ls s i ([one false]++af.uB mn++[]):=h;rw [List.append_nil] at h;unfold kK;rw [LU false s en i he h.left (by show i+1<=en;omega),aK,oZ he h1.1 h1.2 h.right (by show i+1+_<=en;omega),aK,AD (by decide)];exact qG (by show i+1+_=_;omega)
 | true =>
  have hz:(eT ⟨mn,mx,true⟩).length=1+(af.uB mn).length+(af.uB mx).length:=by unfold eT;simp only [if_true,aT,List.length_singleton]
  have h:Ls s i ([one true]++af.uB mn++af.uB mx):=h;have hc:=h.right;simp only [aT,List.length_singleton] at hc;unfold kK;rw [LU true s en i he h.left.left (by show i+1<=en;omega),aK,oZ he h1.1 h1.2 h.left.right (by show i+1+_<=en;omega),aK,AE rfl,oZ he h2.1 h2.2 (by rw [List.length_singleton,Nat.add_assoc];exact hc) (by show i+1+_+_<=en;omega),aK];exact qG (by show i+1+_+_=_;omega)
theorem abX {x:gu} (h:Put kK eT x):Put qy (λx=>[112]++eT x) x:=λs en i he hl hi=>by
 have hl:Ls s i ([112]++eT x):=hl;simp only [aT,List.length_singleton] at hi ⊢;unfold qy;rw [zh hl.left (by omega),aK,h s en (i+1) he (show Ls s (i+1) _ from hl.right) (by omega)];exact qG (by omega)
theorem abW {t:Int} (h:0<=t/\t<=4294967295):Put qO af.uB t:=λs en i he hl hi=>by
 unfold qO;rw [oZ he h.1 h.2 hl hi,aK]
theorem MU {α:Type} (rec:α->List Int) (sz:α->Nat) (x:Ins α):fS rec sz x = [x.op%256]++qK rec sz x:=rfl
def rF {d:Nat} (x:Ins (IL d)):List Int:=fS (aW d) (size d) x++[11]
theorem LV {d:Nat} {x:Ins (IL d)} (o:xX x) (hc:x.op=65\/x.op=66\/x.op=35):Put (qP d) rF x:=λs en i he h hi=>by
 have hz:(rF x).length=1+(qK (aW d) (size d) x).length+1:=by unfold rF;rw [MU];simp only [aT,List.length_singleton]
 have h:Ls s i ([x.op%256]++qK (aW d) (size d) x++[11]):=h;have hb:=h.right;simp only [aT,List.length_singleton] at hb;have hf:form x.op≠10/\form x.op≠2/\form x.op≠3:=by rcases hc with e|e|e<;>rw [e]<;>decide
 have ha:Ls s i [x.op]:=by have:=h.left.left;rwa [show x.op%256=x.op by omega] at this
 unfold qP;rw [vC ha (by omega),aK,AD hf.1,AE hc,NN he o hf.2.1 hf.2.2 (show Ls s (i+1) _ from h.left.right) (by omega),aK,zh (xs:=[]) (by rw [Nat.add_assoc];exact hb) (by omega),aK];exact qG (by omega)
theorem ab6 {d:Nat} {x:mZ d} (h1:x.type=126\/x.type=127) (o:xX x.init) (hc:x.init.op=65\/x.init.op=66\/x.init.op=35):Put (oK d) jV x:=λs en i he h hi=>by
 have hz:(jV x).length=1+1+(rF x.init).length:=by unfold jV rF;simp only [aT,List.length_singleton]
 have h:Ls s i ([x.type%256]++[one x.je]++rF x.init):=h;unfold oK;rw [Ld h1 s en i he h.left.left (by show i+1<=en;omega),aK,LU x.je s en _ he h.left.right (by show i+1+1<=en;omega),aK];show bd (qP d s en (i+1+1)) _=_;rw [LV o hc s en (i+1+1) he (show Ls s (i+1+1) _ from h.right) (by omega),aK];exact qG (by omega)
theorem ab8 {d:Nat} {x:lX d} (o:xX x.offset) (hc:x.offset.op=65\/x.offset.op=66\/x.offset.op=35) (h1:x.funcs.length<=4096) (h2:∀y ∈ x.funcs,0<=y/\y<=4294967295):Put (oM d) jy x:=λs en i he h hi=>by
 have hz:(jy x).length=1+(rF x.offset).length+(mY x.funcs).length:=by unfold jy rF;simp only [aT,List.length_singleton]
 have h:Ls s i ([0]++rF x.offset++mY x.funcs):=h;have hb:=h.right;simp only [aT,List.length_singleton] at hb;unfold oM;rw [zh h.left.left (by omega),aK,LV o hc s en (i+1) he (show Ls s (i+1) _ from h.left.right) (by omega),aK,NM he h1 h2 (by rw [Nat.add_assoc];exact hb) (by omega),aK];exact qG (by omega)
theorem ab9 {d:Nat} {x:Dat d} (o:xX x.offset) (hc:x.offset.op=65\/x.offset.op=66\/x.offset.op=35) (h1:x.bytes.size<=4294967295):Put (oO d) jA x:=λs en i he h hi=>by
 have hz:(jA x).length=1+(rF x.offset).length+(jH x.bytes).length:=by unfold jA rF;simp only [aT,List.length_singleton]
 have h:Ls s i ([0]++rF x.offset++jH x.bytes):=h;have hb:=h.right;simp only [aT,List.length_singleton] at hb;unfold oO;rw [zh h.left.left (by omega),aK,LV o hc s en (i+1) he (show Ls s (i+1) _ from h.left.right) (by omega),aK,Tz h1 s en _ he (by rw [Nat.add_assoc];exact hb) (by omega),aK];exact qG (by omega)
theorem abY {t:Int} (h:0<=t/\t<=4294967295) {s:AH} {en i:Nat} (he:en<=s.size) (hl:Ls s i ([t].flatMap af.uB)) (hi:i+([t].flatMap af.uB).length<=en):zE s en i=.ok ([t],i+([t].flatMap af.uB).length):=by
 simp only [List.flatMap_cons,List.flatMap_nil,List.append_nil] at hl hi ⊢;unfold zE;rw [oZ he h.1 h.2 hl hi,aK]
end aI
namespace aI
def sK (l:List (Int × Int)):List Int:=l.flatMap λx=>List.replicate x.1.toNat x.2
theorem La (a b:List (Int × Int)):sK (a++b)=sK a++sK b:=zx
theorem Lc (c t:Int):sK [(c,t)]=List.replicate c.toNat t:=by unfold sK;simp
theorem acP {acc:List (Int × Int)} (h:∀x ∈ acc,0<=x.1) (t:Int):sK (sU acc t)=sK acc++[t]/\∀x ∈ sU acc t,0<=x.1:=by
 rcases List.eq_nil_or_concat acc with rfl|⟨p,x,hx⟩
 ·rw [Mt];exact ⟨rfl,λx hx=>by rw [List.mem_singleton.1 hx];exact Int.le.intro 1 rfl⟩
 obtain ⟨c,t'⟩:=x;have hx:acc=p++[(c,t')]:=by rw [hx];simp
 subst hx;have hc:0<=c:=h (c,t') (by simp);by_cases ht:t'=t
 ·subst ht;rw [MI,La,La,Lc,Lc,bw,show (c+1).toNat=c.toNat+1 by omega,List.replicate_succ'];refine ⟨rfl,λx hx=>?_⟩;rcases List.mem_append.1 hx with hx|hx
  ·exact h x (by simp [hx])
  rw [List.mem_singleton.1 hx];show 0<=c+1;omega
 rw [MK ht,La _ [(1,t)],Lc];refine ⟨rfl,λx hx=>?_⟩;rcases List.mem_append.1 hx with hx|hx
 ·exact h x hx
 rw [List.mem_singleton.1 hx];show (0:Int)<=1;omega
theorem RJ:∀(l:List Int) (acc:List (Int × Int)),(∀x ∈ acc,0<=x.1)->sK (l.foldl sU acc)=sK acc++l
 | [],acc,_=>by simp
 | t :: r,acc,h=>by
  obtain ⟨h1,h2⟩:=acP h t;rw [List.foldl_cons,RJ r _ h2,h1,bw];rfl
theorem RL (l:List Int):sK (rn l)=l:=by unfold rn;rw [RJ l [] (λx hx=>by cases hx)];rfl
theorem RN {s:AH} {en:Nat} (he:en<=s.size):∀(rs:List (Int × Int)) (acc:List Int) (i:Nat),(∀x ∈ rs,0<=x.1/\(x.2=126\/x.2=127))->(acc++sK rs).length<=256->Ls s i (rs.flatMap λx=>af.uB x.1++[x.2%256])->i+(rs.flatMap λx=>af.uB x.1++[x.2%256]).length<=en ->
  wB s en rs.length acc i=.ok (acc++sK rs,i+(rs.flatMap λx=>af.uB x.1++[x.2%256]).length)
 | [],acc,i,_,_,_,_=>by
  show (Except.ok (acc,i):R (List Int))=.ok (acc++[],i+0);rw [List.append_nil];rfl
 | (c,t) :: r,acc,i,hx,hn,h,hi=>by
  obtain ⟨hc,ht⟩:=hx (c,t) (by simp);simp only at hc ht;have hsp:sK ((c,t) :: r)=List.replicate c.toNat t++sK r:=rfl;rw [hsp] at hn ⊢;obtain ⟨Z,hZ⟩:∃Z,Z=r.flatMap λx=>af.uB x.1++[x.2%256]:=⟨_,rfl⟩;have h:Ls s i ((af.uB c++[t%256])++Z):=by rw [hZ];exact h
  have hlen:(((c,t) :: r).flatMap λx=>af.uB x.1++[x.2%256]).length=(af.uB c).length+1+Z.length:=by rw [hZ,List.flatMap_cons,aT,aT];rfl
  rw [hlen] at hi ⊢;simp only [aT,List.length_replicate] at hn;have ha:=h.left.left;have hb:Ls s (i+(af.uB c).length) [t%256]:=h.left.right;have hr:Ls s (i+(af.uB c).length+1) Z:=by have:=h.right;rw [aT] at this;rw [Nat.add_assoc];exact this
  have ih:=RN he r (acc++List.replicate c.toNat t) (i+(af.uB c).length+1) (λx h=>hx x (by simp [h])) (by simp only [aT,List.length_replicate];omega) (by rw [<- hZ];exact hr) (by rw [<- hZ];omega);rw [<- hZ] at ih;show bd (ru s en i) _=_;rw [oZ he hc (by omega) ha (by omega),aK,AE (by omega),Ld ht s en (i+(af.uB c).length) he hb (by show i+(af.uB c).length+1<=en;omega),aK];show wB s en r.length (acc++List.replicate c.toNat t) (i+(af.uB c).length+1)=_;rw [ih,bw];exact qG (by omega)
theorem acQ {l:List Int} (hl:l.length<=256) (ht:∀y ∈ l,y=126\/y=127):Put Co wH l:=λs en i he h hi=>by
 obtain ⟨hb1,hb2⟩:=zY l;have hz:(wH l).length=(af.uB ((rn l).length:Int)).length+((rn l).flatMap λx=>af.uB x.1++[x.2%256]).length:=by unfold wH;rw [aT]
 unfold wH at h;unfold Co;rw [Hm he (by omega) h.left (by omega),aK,Int.toNat_natCast,RN he (rn l) [] _ (λx hx=>⟨by have:=(hb2 x hx).1;omega,ht _ (hb2 x hx).2.2⟩) (by rw [fN,RL];exact hl) h.right (by omega),fN,RL];exact qG (by omega)
theorem acR {s:AH} {en i n:Nat} {l:IL 81} (he:en<=s.size) (hv:VR 81 0 l) (hc:n+tot 81 l<=65536) (h:Ls s i (aW 81 l++[11])) (hi:i+(aW 81 l).length+1<=en):wh s en i n=.ok (l,i+(aW 81 l).length+1,n+tot 81 l):=by
 unfold wh;rw [NS he 81 0 l 11 i n (.inr rfl) hv hc h hi,AP];rfl
structure Eb (x:fF 81):Prop where
 type:0<=x.type/\x.type<=4294967295
 few:x.locals.length<=256
 F9:∀y ∈ x.locals,y=126\/y=127
 body:VR 81 0 x.body
theorem acS {s:AH} {en i n:Nat} {x:fF 81} (he:en<=s.size) (o:Eb x) (hc:n+tot 81 x.body<=65536) (h:Ls s i (cQ x)) (hi:i+(cQ x).length<=en):xq s en i n=.ok ((x.locals,x.body),i+(cQ x).length,n+tot 81 x.body):=by
 have hz:(cQ x).length=(wH x.locals).length+(aW 81 x.body).length+1:=by unfold cQ;simp only [aT,List.length_singleton];omega
 unfold cQ at h;unfold xq;rw [acQ o.few o.F9 s en i he h.left (by omega)];show fU (wh s en (i+(wH x.locals).length) n) _=_;rw [acR he o.body hc h.right (by omega),AP];exact AQ (by omega) rfl
theorem acT {s:AH} {en i n:Nat} {x:fF 81} (he:en<=s.size) (hb:en<=262144) (o:Eb x) (hc:n+tot 81 x.body<=65536) (h:Ls s i (df (cQ x))) (hi:i+(df (cQ x)).length<=en):ym s en i n=.ok ((x.locals,x.body),i+(df (cQ x)).length,n+tot 81 x.body):=by
 have hz:(df (cQ x)).length=(af.uB ((cQ x).length:Int)).length+(cQ x).length:=by unfold df;rw [aT]
 unfold df at h;unfold ym;rw [oZ he (by omega) (by omega) h.left (by omega)];show fU (xq s (min en (i+(af.uB ((cQ x).length:Int)).length+((cQ x).length:Int).toNat)) (i+(af.uB ((cQ x).length:Int)).length) n) _=_;rw [Int.toNat_natCast,Nat.min_eq_right (by omega),acS (by omega) o hc h.right (aC _),AP,AE rfl];exact AQ (by omega) rfl
def sw (l:List (fF 81)):Nat:=(l.map λx=>tot 81 x.body).sum
theorem RO {s:AH} {en:Nat} (he:en<=s.size) (hb:en<=262144):∀(l:List (fF 81)) (acc:List (List Int × IL 81)) (i n:Nat),(∀x ∈ l,Eb x)->n+sw l<=65536->Ls s i (l.flatMap λx=>df (cQ x))->i+(l.flatMap λx=>df (cQ x)).length<=en ->
  vE s en l.length acc i n=.ok (acc++l.map (λx=>(x.locals,x.body)),i+(l.flatMap λx=>df (cQ x)).length,n+sw l)
 | [],acc,i,n,_,_,_,_=>by
  show (Except.ok (acc,i,n):R2 (List (List Int × IL 81)))=.ok (acc++[],i+0,n+0);rw [List.append_nil];rfl
 | x :: r,acc,i,n,ho,hc,h,hi=>by
  have ht:sw (x :: r)=tot 81 x.body+sw r:=by unfold sw;simp
  rw [ht] at hc ⊢;rw [List.flatMap_cons] at h hi ⊢;rw [aT] at hi ⊢;show vE s en (r.length+1) acc i n=_;rw [JC,acT he hb (ho x (by simp)) (by omega) h.left (by omega),AP,RO he hb r _ _ _ (λy hy=>ho y (by simp [hy])) (by omega) h.right (by omega)];rw [bw];exact AQ (by omega) (by omega)
theorem abZ {s:AH} {en i n:Nat} {l:List (fF 81)} (he:en<=s.size) (hb:en<=262144) (hl:l.length<=4096) (ho:∀x ∈ l,Eb x) (hc:n+sw l<=65536) (h:Ls s i (aG (λx=>df (cQ x)) l)) (hi:i+(aG (λx=>df (cQ x)) l).length<=en) :
  qU s en l.length i n=.ok (l.map (λx=>(x.locals,x.body)),i+(aG (λx=>df (cQ x)) l).length,n+sw l):=by
 have hz:(aG (λx=>df (cQ x)) l).length=(af.uB (l.length:Int)).length+(l.flatMap λx=>df (cQ x)).length:=by unfold aG;rw [aT]
 unfold aG at h;unfold qU;rw [Hm he hl h.left (by omega)];show (if (l.length:Int)=(l.length:Int) then vE s en l.length [] (i+(af.uB (l.length:Int)).length) n else _)=_;rw [AE rfl,RO he hb l [] _ n ho hc h.right (by omega),fN];exact AQ (by omega) rfl
end aI
namespace aI
structure Hg (m:Mod 81):Prop where
 types:m.types.length<=4096/\∀x ∈ m.types,Put ni kI x
 imports:m.imports.length<=4096/\∀x ∈ m.imports,Put nR kJ x
 funcs:m.funcs.length<=4096/\∀x ∈ m.funcs,Eb x
 tables:m.tables.length<=4096/\∀x ∈ m.tables,Put kK eT x
 aF:m.aF.length<=4096/\∀x ∈ m.aF,Put kK eT x
 globals:m.globals.length<=4096/\∀x ∈ m.globals,Put (oK 81) jV x
 exports:m.exports.length<=4096/\∀x ∈ m.exports,Put nS kN x
 start:m.start.length<=1/\∀x ∈ m.start,0<=x/\x<=4294967295
 elems:m.elems.length<=4096/\∀x ∈ m.elems,Put (oM 81) jy x
 aA:m.aA.length<=4096/\∀x ∈ m.aA,Put (oO 81) jA x
 tot:sw m.funcs<=65536
def upM (m:Mod 81) (k:Nat):Mod 81 where
 types:=if 1<=k then m.types else []
 imports:=if 2<=k then m.imports else []
 funcs:=if 10<=k then m.funcs else if 3<=k then m.funcs.map (λx=>yp x.type) else []
 tables:=if 4<=k then m.tables else []
 aF:=if 5<=k then m.aF else []
 globals:=if 6<=k then m.globals else []
 exports:=if 7<=k then m.exports else []
 start:=if 8<=k then m.start else []
 elems:=if 9<=k then m.elems else []
 aA:=if 11<=k then m.aA else []
def stA (m:Mod 81) (k:Nat):Sg:=⟨upM m k,if 10<=k then m.funcs.length else 0,if 10<=k then sw m.funcs else 0⟩
def gp (m:Mod 81):Nat->List Int
 | 1=>aG kI m.types
 | 2=>aG kJ m.imports
 | 3=>aG (λx=>af.uB x.type) m.funcs
 | 4=>aG (λx=>[112]++eT x) m.tables
 | 5=>aG eT m.aF
 | 6=>aG jV m.globals
 | 7=>aG kN m.exports
 | 8=>m.start.flatMap af.uB
 | 9=>aG jy m.elems
 | 10=>aG (λx=>df (cQ x)) m.funcs
 | 11=>aG jA m.aA
 | _=>[]
def nI (m:Mod 81):Nat->Nat
 | 1=>m.types.length
 | 2=>m.imports.length
 | 3=>m.funcs.length
 | 4=>m.tables.length
 | 5=>m.aF.length
 | 6=>m.globals.length
 | 7=>m.exports.length
 | 8=>m.start.length
 | 9=>m.elems.length
 | 10=>m.funcs.length
 | 11=>m.aA.length
 | _=>0
theorem Qk {α β:Type} (f:α->β) (g:β->List Int) (l:List α):aG (λx=>g (f x)) l=aG g (l.map f):=by
 unfold aG;rw [jS,List.flatMap_map]
theorem Ql:∀(l:List (fF 81)),List.zipWith vG (l.map λx=>yp x.type) (l.map λx=>(x.locals,x.body))=l
 | []=>rfl
 | x :: r=>by
  show vG (yp x.type) (x.locals,x.body) :: _=_;rw [Ql r];rfl
theorem abU (m:Mod 81):stA m 0=yt:=rfl
theorem Qj {m:Mod 81} {k:Nat} (h1:1<=k) (h11:k<=11) (h:nI m k=0):stA m k=stA m (k-1):=by
 have hc:k=1\/k=2\/k=3\/k=4\/k=5\/k=6\/k=7\/k=8\/k=9\/k=10\/k=11:=by omega
 obtain ⟨ty,im,fu,tb,me,gl,ex,st,el,da⟩:=m;rcases hc with rfl|rfl|rfl|rfl|rfl|rfl|rfl|rfl|rfl|rfl|rfl<;>(obtain rfl:=iZ.1 h;rfl)
theorem abV {m:Mod 81} (o:Hg m) {k:Nat} (h1:1<=k) (h11:k<=11) (hne:nI m k≠0) {s:AH} {en i:Nat} (he:en<=s.size) (hb:en<=262144) (h:Ls s i (gp m k)) (hi:i+(gp m k).length<=en):mb s (k:Int) (stA m (k-1)) en i=.ok (stA m k,i+(gp m k).length):=by
 have hc:k=1\/k=2\/k=3\/k=4\/k=5\/k=6\/k=7\/k=8\/k=9\/k=10\/k=11:=by omega
 rcases hc with rfl|rfl|rfl|rfl|rfl|rfl|rfl|rfl|rfl|rfl|rfl
 ·show bd (bB (ni s en) s en i) _=_;rw [yu (f:=ni) (g:=kI) he o.types.1 o.types.2 h hi];rfl
 ·show bd (bB (nR s en) s en i) _=_;rw [yu (f:=nR) (g:=kJ) he o.imports.1 o.imports.2 h hi];rfl
 ·have hp:gp m 3=aG af.uB (m.funcs.map (·.type)):=Qk (λx:fF 81=>x.type) af.uB m.funcs;rw [hp] at h hi ⊢;show bd (bB (qO s en) s en i) _=_
  rw [yu (f:=qO) (g:=af.uB) he (by rw [jS];exact o.funcs.1) (λx hx=>by
   obtain ⟨y,hy,rfl⟩:=List.mem_map.1 hx;exact abW (o.funcs.2 y hy).type) h hi,aK,List.map_map];rfl
 ·show bd (bB (qy s en) s en i) _=_;rw [yu (f:=qy) (g:=λx=>[112]++eT x) he o.tables.1 (λx hx=>abX (o.tables.2 x hx)) h hi];rfl
 ·show bd (bB (kK s en) s en i) _=_;rw [yu (f:=kK) (g:=eT) he o.aF.1 o.aF.2 h hi];rfl
 ·show bd (bB (oK 81 s en) s en i) _=_;rw [yu (f:=oK 81) (g:=jV) he o.globals.1 o.globals.2 h hi];rfl
 ·show bd (bB (nS s en) s en i) _=_;rw [yu (f:=nS) (g:=kN) he o.exports.1 o.exports.2 h hi];rfl
 ·obtain ⟨t,ht⟩:∃t,m.start = [t]:=by
   have h0:m.start.length≠0:=hne;have h1:=o.start.1
   match hm:m.start with
   | []=>rw [hm] at h0;exact absurd rfl h0
   | [t]=>exact ⟨t,rfl⟩
   | _ :: _ :: _=>rw [hm] at h1;simp at h1
  have hp:gp m 8 = [t].flatMap af.uB:=by show m.start.flatMap af.uB=_;rw [ht]
  have hr:=o.start.2 t (by rw [ht];simp);rw [hp] at h hi ⊢;show bd (zE s en i) _=_;rw [abY hr he h hi,aK,<- ht];rfl
 ·show bd (bB (oM 81 s en) s en i) _=_;rw [yu (f:=oM 81) (g:=jy) he o.elems.1 o.elems.2 h hi];rfl
 ·have hl:(stA m 9).m.funcs.length=m.funcs.length:=by show (m.funcs.map _).length=_;rw [jS]
  show (match qU s en (stA m 9).m.funcs.length i 0 with
   | .ok (fs,j,n)=>(.ok (⟨{ (stA m 9).m with funcs:=List.zipWith vG (stA m 9).m.funcs fs },(stA m 9).m.funcs.length,n⟩,j):R Sg)
   | .error z=>.error z)=_
  rw [hl,abZ he hb o.funcs.1 o.funcs.2 (by have:=o.tot;omega) h hi];show (.ok (⟨{ (stA m 9).m with funcs:=List.zipWith vG (m.funcs.map λx=>yp x.type) (m.funcs.map λx=>(x.locals,x.body)) },m.funcs.length,0+sw m.funcs⟩,_):R Sg)=_;rw [Ql,Nat.zero_add];rfl
 show bd (bB (oO 81 s en) s en i) _=_;rw [yu (f:=oO 81) (g:=jA) he o.aA.1 o.aA.2 h hi];rfl
def KJ (L:List Int) (n:Nat):Prop:=∀(s:AH) (en i:Nat),en<=s.size->Ls s i L->i+L.length<=en->ru s en i=.ok ((n:Int),i+L.length)
theorem ab0 {s:AH} {last id:Int} {st st':Sg} {i:Nat} {L b:List Int} (hL:KJ L b.length) (h:Ls s i ([id]++L++b)) (hi:i+(1+L.length+b.length)<=s.size) (h0:0<=id) (h11:id<=11) (hl:id=0\/last<id)
  (hs:mb s id st (i+(1+L.length+b.length)) (i+(1+L.length))=.ok (st',i+(1+L.length+b.length))) (f:Nat):tY s (f+1) last st i=tY s f (if id=0 then last else id) st' (i+(1+L.length+b.length)):=by
 have ha:Ls s i [id]:=h.left.left;have hb:Ls s (i+1) L:=h.left.right
 have hr:uE (mb s id) s st s.size (i+1)=.ok (st',i+(1+L.length+b.length)):=by
  unfold uE;rw [hL s s.size (i+1) (aC _) hb (by omega),aK,Int.toNat_natCast,Nat.min_eq_right (by omega),show i+1+L.length+b.length=i+(1+L.length+b.length) by omega,show i+1+L.length=i+(1+L.length) by omega,hs,aK,AE rfl]
 show ite _ _ _=_;rw [AE (by omega),vC ha (by omega)];show ite _ _ _=_;rw [AD (by omega),AD (by omega),AE (show Bt id=true from ay ⟨h0,h11⟩),hr];rfl
def KL (m:Mod 81) (k:Nat) (B:List Int):Prop:=∀(s:AH) (i:Nat) (last:Int),s.size<=262144->0<=last->last<(k:Int)->Ls s i B->i+B.length<=s.size ->
 ∃(last':Int) (n:Nat),0<=last'/\last'<=(k:Int)/\n<=B.length/\∀f,tY s (f+n) last (stA m (k-1)) i=tY s f last' (stA m k) (i+B.length)
def qF (m:Mod 81) (k:Nat) (L:List Int):List Int:=if nI m k=0 then [] else [(k:Int)]++L++gp m k
theorem step_ok {m:Mod 81} (o:Hg m) {k:Nat} (h1:1<=k) (h11:k<=11) {L:List Int} (hL:KJ L (gp m k).length):KL m k (qF m k L):=λs i last hz h0 hlt h hi=>by
 unfold qF at h hi ⊢;by_cases hn:nI m k=0
 ·rw [AE hn] at hi ⊢;exact ⟨last,0,h0,by omega,aC _,λf=>by rw [Qj h1 h11 hn];rfl⟩
 rw [AD hn] at h hi ⊢;have hlen:([(k:Int)]++L++gp m k).length=1+L.length+(gp m k).length:=by simp only [aT,List.length_singleton]
 rw [hlen] at hi ⊢;have hp:Ls s (i+(1+L.length)) (gp m k):=by have:=h.right;simp only [aT,List.length_singleton] at this;exact this
 have hs:=abV o h1 h11 hn (s:=s) (en:=i+(1+L.length+(gp m k).length)) (i:=i+(1+L.length)) hi (by omega) hp (by omega);rw [show i+(1+L.length)+(gp m k).length=i+(1+L.length+(gp m k).length) by omega] at hs;refine ⟨(k:Int),1,by omega,Int.le_refl _,by omega,λf=>?_⟩;rw [ab0 hL h hi (by omega) (by omega) (.inr hlt) hs f,AD (by omega)]
def eZ (B:Nat->List Int) (a:Nat):Nat->List Int
 | 0=>[]
 | n+1=>eZ B a n++B (a+n+1)
theorem chain {m:Mod 81} {B:Nat->List Int} {a:Nat}:∀(n:Nat),(∀k,a<k->k<=a+n->KL m k (B k))->∀(s:AH) (i:Nat) (last:Int),s.size<=262144->0<=last->last<=(a:Int)->Ls s i (eZ B a n)->i+(eZ B a n).length<=s.size ->
  ∃(last':Int) (c:Nat),0<=last'/\last'<=((a+n:Nat):Int)/\c<=(eZ B a n).length/\∀f,tY s (f+c) last (stA m a) i=tY s f last' (stA m (a+n)) (i+(eZ B a n).length)
 | 0,_,s,i,last,hz,h0,hl,h,hi=>⟨last,0,h0,by omega,aC _,λf=>rfl⟩
 | n+1,hB,s,i,last,hz,h0,hl,h,hi=>by
  have hlen:(eZ B a (n+1)).length=(eZ B a n).length+(B (a+n+1)).length:=by show (eZ B a n++B (a+n+1)).length=_;rw [aT]
  have h:Ls s i (eZ B a n++B (a+n+1)):=h;rw [hlen] at hi ⊢;obtain ⟨l1,c1,x1,x2,x3,x4⟩:=chain n (λk h1 h2=>hB k h1 (by omega)) s i last hz h0 hl h.left (by omega);obtain ⟨l2,c2,y1,y2,y3,y4⟩:=hB (a+n+1) (by omega) (by omega) s (i+(eZ B a n).length) l1 hz x1 (by omega) h.right (by omega);refine ⟨l2,c2+c1,y1,by rw [show a+(n+1)=a+n+1 by omega];exact y2,by omega,λf=>?_⟩;have e1:=x4 (f+c2);have e2:=y4 f;rw [show a+n+1-1=a+n from rfl] at e2;show tY s (f+(c2+c1)) last (stA m a) i=tY s f l2 (stA m (a+n+1)) (i+((eZ B a n).length+(B (a+n+1)).length));rw [show i+((eZ B a n).length+(B (a+n+1)).length)=i+(eZ B a n).length+(B (a+n+1)).length by omega,show f+(c2+c1)=f+c2+c1 by omega,e1,e2]
theorem ab1 {m:Mod 81} {s:AH} {last:Int} (f:Nat):tY s (f+1) last (stA m 11) s.size=some (.ok (stA m 11,s.size)):=by
 show ite _ _ _=_;rw [AD (by omega),AE (show (stA m 11).codes=Ct (stA m 11) from rfl)]
end aI
end Go.Proofs.YtcfifbgemfladaaGreatDoor
namespace Go.Proofs.YtcfifbgemfladaaGreatDoor
open Go.RowKit au Enc Go.Lib Go.Proofs.Tryz
set_option linter.unusedVariables false
namespace Enc
theorem UC:∀(d:Nat) (l:IL d),size d l=0->NR d l
 | 0,_,_=>trivial
 | d+1,l,h=>by
  intro x hx
  have:(show List (Ins (IL d)) from l) = []:=iZ.1 h
  rw [this] at hx;cases hx
theorem Dc {w:AG}:∀(d e:Nat) (v:Value) (l:IL d) (k:IL e),At w d v l->At w e v k->NR e k->NR d l
 | 0,_,_,_,_,_,_,_=>trivial
 | d+1,0,v,l,k,hl,hk,_=>by
  obtain ⟨o,cap,rfl⟩:=hk;obtain ⟨o',cap',h⟩:=At.len (d+1) _ _ hl;injection h with _ h2 _;exact UC (d+1) l h2.symm
 | d+1,e+1,v,l,k,hl,hk,hN=>by
  intro x hx;have hl':Row 7 (fM w (At w d)) v (show List (Ins (IL d)) from l):=hl;have hk':Row 7 (fM w (At w e)) v (show List (Ins (IL e)) from k):=hk;obtain ⟨i,hi,rfl⟩:=List.getElem_of_mem hx;obtain ⟨b,off,cap,hv,hc⟩:=Row.some hl' (by omega);obtain ⟨o2,cap2,hv2⟩:=Row.len hk';rw [hv] at hv2;injection hv2 with _ hlen _;obtain ⟨b',off',cap',hv',hc'⟩:=Row.some hk' (by omega);rw [hv] at hv';injection hv' with ha _ _;injection ha with ha;injection ha with hb ho _;subst hb ho;obtain ⟨y,hy⟩:∃y,(show List (Ins (IL e)) from k)[i]?=some y:=⟨_,bG (by omega)⟩;have hX:=hc i _ (bG hi);have hY:=hc' i y hy;obtain ⟨n1,n2,n3⟩:=hN y (iF hy);obtain ⟨v5,c5,a5⟩:=hX.body;obtain ⟨v6,c6,a6⟩:=hX.els;obtain ⟨u5,d5,b5⟩:=hY.body;obtain ⟨u6,d6,b6⟩:=hY.els;have e5:v5=u5:=by rw [c5] at d5;exact Option.some.inj d5
  have e6:v6=u6:=by rw [c6] at d6;exact Option.some.inj d6
  have en:((show List (Ins (IL d)) from l)[i]).n=y.n:=by
   have h1:=hX.n;rw [hY.n] at h1;injection h1 with h1;injection h1 with _ h1;exact h1.symm
  refine ⟨by rw [en];exact n1,?_,?_⟩
  ·exact Dc d e v5 _ y.body a5 (e5 ▸ b5) n2
  exact Dc d e v6 _ y.els a6 (e6 ▸ b6) n3
end Enc
section Of
variable {H:Type} {enc:TypeId × Value->H} {w:AG} {base:Nat} {spare:Nat->Bool} {held:Bool}
theorem M3 {n d:Nat} {cs:List Value} {y:DataW H × List MemPlace} {b o:Nat} (hy:DataW.trod enc prog w base spare held n 59 cs=some y) (hc:∀j,j<7->w.cell? ⟨b,o+j,none⟩=cs[j]?)
  (ih:∀m v x,n=m+1->DataW.trod enc prog w base spare held m 53 [v]=some x->∃l:IL d,At w d v l/\NR d l):∃z:Ins (IL d),fM w (At w d) b o z/\rM (NR d) z:=by
 obtain ⟨xs,m,rfl,_,_,hxl,hall⟩:=DataW.trod_struct underlying59 hy;obtain ⟨y0,g0⟩:=gb hxl hall 0 _ rfl;obtain ⟨y1,g1⟩:=gb hxl hall 1 _ rfl;obtain ⟨y2,g2⟩:=gb hxl hall 2 _ rfl;obtain ⟨y3,g3⟩:=gb hxl hall 3 _ rfl;obtain ⟨y4,g4⟩:=gb hxl hall 4 _ rfl;obtain ⟨y5,g5⟩:=gb hxl hall 5 _ rfl;obtain ⟨y6,g6⟩:=gb hxl hall 6 _ rfl;obtain ⟨z0,e0,_⟩:=vh underlying3 uD g0;obtain ⟨z1,e1,_⟩:=vh underlying3 uD g1;obtain ⟨z2,e2,_⟩:=vh underlying3 uD g2;obtain ⟨z3,e3,hw0⟩:=vh underlying3 uD g3;have hw:-9223372036854775808<=z3/\z3<=9223372036854775807:=by have:=bounds_i64 hw0;omega
 obtain ⟨v4,e4,t4⟩:=oI underlying28 De g4;obtain ⟨v5,e5,t5⟩:=oI underlying53 IW g5;obtain ⟨v6,e6,t6⟩:=oI underlying53 IW g6;obtain ⟨l4,h4⟩:=BL t4;obtain ⟨l5,h5,r5⟩:=ih m v5 _ rfl t5;obtain ⟨l6,h6,r6⟩:=ih m v6 _ rfl t6;exact ⟨⟨z0,z1,z2,z3,l4,l5,l6⟩,⟨(hc 0 (by omega)).trans e0,(hc 1 (by omega)).trans e1,(hc 2 (by omega)).trans e2,(hc 3 (by omega)).trans e3,⟨v4,(hc 4 (by omega)).trans e4,h4⟩,⟨v5,(hc 5 (by omega)).trans e5,h5⟩,⟨v6,(hc 6 (by omega)).trans e6,h6⟩⟩,hw,r5,r6⟩
theorem M4 (fuel:Nat):∀(d:Nat) (v:Value) (x:DataW H × List MemPlace),fuel<=d->DataW.trod enc prog w base spare held fuel 53 [v]=some x->∃l:IL d,At w d v l/\NR d l:=by
 induction fuel using Nat.strongRecOn with
 | _ fuel ih =>
  intro d v x hd h;cases d with
  | zero =>
   obtain rfl:fuel=0:=by omega
   simp [DataW.trod] at h
  | succ d =>
   obtain ⟨⟨l,hl⟩,_⟩:=vk (α:=Ins (IL d)) 7 (by omega) (λb o z=>fM w (At w d) b o z/\rM (NR d) z) underlying53 FW h λn cs y b o hn hy _ hc =>
    M3 hy hc λm' v x hm hx=>ih m' (by omega) d v x (by omega) hx
   exact ⟨l,hl.imp λ_ _ _ _ h=>h.1,xM hl⟩
end Of
end Go.Proofs.YtcfifbgemfladaaGreatDoor

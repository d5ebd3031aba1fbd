/- Texts that the claim needs. -/
import Derived.Test.YtcfifbgemfladaaGreatDoorQDPa11
import Derived.Test.YtcfifbgemfladaaGreatDoorQDPa15
namespace Go.Proofs.YtcfifbgemfladaaGreatDoor
open Go.RowKit au aI Go.Proofs.Tryz
set_option linter.unusedVariables false
set_option maxRecDepth 100000
set_option maxHeartbeats 8000000
namespace aI
abbrev Pe (α:Type):=α × List Value
def kS {α:Type} (ps:List (Pe α)):List Value:=ps.flatMap (·.2)
theorem yB {α:Type} (ps:List (Pe α)) (q:Pe α):kS (ps++[q])=kS ps++q.2:=by unfold kS;rw [zx];simp
theorem SD {α:Type} {n:Nat}:∀(ps:List (Pe α)),(∀q ∈ ps,q.2.length=n)->∀(i:Nat) (q:Pe α),ps[i]?=some q->∀k v,q.2[k]?=some v->(kS ps)[i*n+k]?=some v
 | [],_,_,_,h,_,_,_=>by simp at h
 | q0 :: r,hl,0,q,h,k,v,hv=>by
  have:q0=q:=by simpa using h
  subst this;show (q0.2++kS r)[0*n+k]?=some v;have hk:k<q0.2.length:=(gq.1 hv).1;rw [Nat.zero_mul,Nat.zero_add,vB hk];exact hv
 | q0 :: r,hl,i+1,q,h,k,v,hv=>by
  have h':r[i]?=some q:=by simpa using h
  have h0:q0.2.length=n:=hl q0 (by simp);show (q0.2++kS r)[(i+1)*n+k]?=some v;have e:(i+1)*n+k=n+(i*n+k):=by rw [Nat.succ_mul];omega
  rw [e,uV (by rw [h0];omega),h0,Nat.add_sub_cancel_left];exact SD r (λq hq=>hl q (by simp [hq])) i q h' k v hv
abbrev EK (α:Type):=AG->(Nat->Prop)->α->List Value->Prop
def qA {α:Type} (K:EK α):Prop:=∀(w w':AG) (S S':Nat->Prop),(∀k,S k->S' k/\w'.heap[k]?=w.heap[k]?)->∀x vs,K w S x vs->K w' S' x vs
abbrev EA (α:Type):=AG->(Nat->Prop)->Nat->Nat->α->Prop
def iE {α:Type} (e:TypeId) (K:EK α) (F:EA α):Prop:=∀(w:AG) (S:Nat->Prop) (g o:Nat) x vs,K w S x vs->(∃cur,w.heap[g]?=some (.cells cur e (0,0)))->(∀k v,vs[k]?=some v->w.cell? ⟨g,o+k,none⟩=some v)->F w S g o x
def aR {α:Type} (n:Nat) (F:EA α) (w:AG) (S:Nat->Prop) (v:Value) (l:List α):Prop:=Row n (λb o x=>S b/\F w S b o x) v l
theorem row_of {α:Type} {K:EK α} {F:EA α} {e:TypeId} (hK:qA K) (hF:iE e K F) {w:AG} {B n:Nat} {t:Value} (l:List α) (ps:List (Pe α)) (hm:ps.map (·.1)=l) (hn:l.length<=9223372036854775807) (hw:∀q ∈ ps,q.2.length=n) (ho:w.ownsRow B e n t ps.length (kS ps)) (hp:∀q ∈ ps,K w (Since B w t.ownBlock) q.1 q.2) :
  aR n F w (Since B w none) t l:=by
 have hlen:ps.length=l.length:=by rw [<- hm,jS]
 have hup:∀k,Since B w t.ownBlock k->Since B w none k/\w.heap[k]?=w.heap[k]?:=λk hk=>⟨⟨hk.1,hk.2.1,by simp⟩,rfl⟩;rcases ho.2 with ⟨rfl,h0⟩|⟨g,cap,cur,rfl,hbg,hg,_,_,_,_⟩
 ·have:l = []:=iZ.1 (by omega)
  subst this;exact ⟨by simp,.inl ⟨rfl,none,0,rfl⟩⟩
 have hgl:g<w.heap.size:=(gX.1 hg).1;refine ⟨hn,.inr ⟨g,0,cap,by rw [hlen],λi x hx=>?_⟩⟩;have hi:i<ps.length:=by rw [hlen];exact (gq.1 hx).1
 obtain ⟨q,hpi⟩:∃q,ps[i]?=some q:=⟨_,bG hi⟩
 have hpx:q.1=x:=by
  have:(ps.map (·.1))[i]?=some q.1:=by rw [List.getElem?_map,hpi];rfl
  rw [hm,hx] at this;exact (Option.some.inj this).symm
 subst hpx;refine ⟨⟨hbg,hgl,by simp⟩,hF w _ g _ q.1 q.2 (hK _ _ _ _ hup _ _ (hp q (iF hpi))) ⟨cur,hg⟩ λk v hv=>?_⟩
 have:=ho.cells (g:=g) rfl (i*n+k) v (SD ps hw i q hpi k v hv)
 rw [uH] at this;rw [Nat.add_assoc];exact this
theorem yC (w:AG) (vs:List Value) (t:TypeId):∀(j:Nat) (u:Value),vs[j]?=some u->(w.alloc (.cells vs.toArray t)).cell? ((⟨w.heap.size,0,none⟩:Addr).add j)=some u:=λj u hj=>by
 rw [uH,World.cell?_alloc_at _ t _ _ rfl,Nat.zero_add];simpa using hj
def bB {α:Type} (f:Nat->R α) (s:AH) (en i:Nat):R (List α):=bd (rc s en i) λn j=>rep f n.toNat j
end aI
namespace aI
def R9 (K:EK oH) (B:Nat) (x:oH) (v:Value) (u:AG):Prop:=v=.agg #[Value.string x.name,Value.int .i64 x.kind,Value.int .i64 x.index]/\K u (Since B u none) x [Value.string x.name,Value.int .i64 x.kind,Value.int .i64 x.index]
end aI
theorem adG:(prog.info? 89).map (λi=>(i.zero,i.size,i.bytes))=some (some (.agg #[.string ByteArray.empty,.int .i64 0,.int .i64 0]),3,32):=by kernel_rfl
theorem Xf (rd:Nat->R oH) (K:EK oH) (F:EA oH) (hK:qA K) (hF:iE 89 K F) (w0:AG) (p:Nat) (s:AH) (c:Nat->Value) (en k i n:Nat) (w:AG) (h:RS w0 p s c en k i n w)
  (HE:∀j u,RS w0 p s c en k j n u->Calls prog 83 #[.pointer (some ⟨p,0,none⟩)] u (cz w0 p s c en k n (R9 K u.heap.size) u (rd j))) :
  Calls prog 82 #[.pointer (some ⟨p,0,none⟩),.func (.func 83) #[.pointer (some ⟨p,0,none⟩)] #[]] w (cz w0 p s c en k n (λl v u=>aR 3 F u (Since w.heap.size u none) v l) w (bB rd s en i)):=by
 have HC:=aa (tN w0 p s c en k i n w h);have HE:=aa HE;have hpw:=h.lt;have hlen:=h.len;clear h;unfold bB;cases hx:rc s en i with
 | error z =>
  rw [hx] at HC;rw [bW];clear hx;go_enter func82,ntmps82;go_wp2_with fail;refine HC.out.mono ?_;rintro e w1 ⟨rfl,hb⟩;exact ⟨rfl,rfl,hb⟩
 | ok v =>
  obtain ⟨x,j⟩:=v;have hrc:=rW hlen hx;rw [hx] at HC;rw [aK];obtain ⟨m,rfl⟩:∃m:Nat,x=(m:Int):=⟨x.toNat,by omega⟩;have hm:m<=4096:=by omega
  rw [show ((m:Int).toNat)=m by omega];obtain ⟨R,hR⟩:∃R,R=rep rd m j:=⟨_,rfl⟩;rw [<- hR];have HR:=aa hR;clear hx hrc hR hlen;go_enter func82,ntmps82;go_wp2_with fail;refine HC.out.mono ?_;rintro e w1 ⟨⟨v,rfl,hv⟩,h1,h2⟩;have hv:v=.int .i64 m:=hv;subst hv;have H1:=aa h1;have H2:=aa h2;clear h1 h2 HC;go_wp2_with fail;go_loopw [5,8] (λt u wr=>∃(q:Nat) (ps:List (Pe oH)) (jq:Nat),q<=m/\u=.int .i64 q/\ps.length=q/\(∃o c,t=.slice o q c)/\Hid (R=pre (ps.map (·.1)) (rep rd (m-q) jq))/\Hid (RS w0 p s c en k jq n wr)/\Hid (But p w wr)/\Hid (∀y ∈ ps,y.2.length=3)/\Hid (wr.ownsRow w.heap.size 89 3 t q (kS ps))/\Hid (∀y ∈ ps,K wr (Since w.heap.size wr t.ownBlock) y.1 y.2)) (λ_ u _=>m-(intOf u).toNat)
  case atStart=>exact ⟨0,[],j,by omega,rfl,rfl,⟨none,0,rfl⟩,aa (by rw [HR.out];exact (pre_nil _).symm),H1,H2,aa (λy hy=>by cases hy),aa (World.ownsRow_nil _ _ _ _),aa (λy hy=>by cases hy)⟩
  case round =>
   obtain ⟨q,ps,jq,hq,rfl,hl,⟨oT,cT,rfl⟩,HP,HS,HB,HW,HO,HK⟩:=hrel;by_cases hgo:q<m
   ·have hU:=HE.out jq wr HS.out;obtain ⟨r,hr⟩:∃r,m-q=r+1:=⟨m-q-1,by omega⟩;cases hu:rd jq with
    | error z =>
     rw [hu] at hU;have HU:=aa hU;have HZ:Hid (R=.error z):=aa (by rw [HP.out,hr];exact vM _ _ r jq z hu);clear hU hu HP HO HK HW;go_wp2_with fail;refine HU.out.mono ?_;rintro e w2 ⟨rfl,hb⟩;exact ⟨rfl,by rw [HZ.out];exact ⟨rfl,hb⟩⟩
    | ok v =>
     obtain ⟨x,j2⟩:=v;rw [hu] at hU;have HU:=aa hU;have HZ:Hid (R=pre (ps.map (·.1)++[x]) (rep rd (m-(q+1)) j2)):=aa (by rw [HP.out,hr,pre_on _ _ r jq x j2 hu,show m-(q+1)=r by omega]);clear hU hu HP;go_wp2_with fail;refine HU.out.mono ?_;rintro e w2 ⟨⟨v,rfl,hv⟩,h1,h2⟩;obtain ⟨rfl,hk⟩:=hv;have jm:Hid (∀q',(Value.slice oT q cT).ownBlock=some q'->w.heap.size<=q'/\q'<wr.heap.size):=aa (λq' hq'=>HO.out.lt q' hq');have hup:=xz (B:=w.heap.size) (B2:=wr.heap.size) (u:=w2) (row:=(Value.slice oT q cT).ownBlock) HB.out.size (λq' hq'=>(jm.out q' hq').2);have jo:Hid (K w2 (Since w.heap.size w2 (Value.slice oT q cT).ownBlock) x [Value.string x.name,Value.int .i64 x.kind,Value.int .i64 x.index]):=aa (hK _ _ _ _ hup _ _ hk);have bC:=aa ((qV HO.out hpw h2).alloc (.cells #[Value.string x.name,Value.int .i64 x.kind,Value.int .i64 x.index] 89));have HN:=aa (yC w2 [Value.string x.name,Value.int .i64 x.kind,Value.int .i64 x.index] 89);have bK:=aa (λy hy=>hK _ _ _ _ (wC hpw h2) _ _ (HK.out y hy));have HB2:=aa ((HB.out.trans h2).trans (But.of p (aQ w2 (.cells #[Value.string x.name,Value.int .i64 x.kind,Value.int .i64 x.index] 89))));have aM:=aa (h1.on (aQ w2 (.cells #[Value.string x.name,Value.int .i64 x.kind,Value.int .i64 x.index] 89)));have jr:=aa (aQ w2 (.cells #[Value.string x.name,Value.int .i64 x.kind,Value.int .i64 x.index] 89));have iA:Hid (w.heap.size<=w2.heap.size):=aa (eU HB.out.size h2.size);clear h1 h2 hk hup HU HO HS HB HK jm;obtain ⟨i0,hi,hz0,hz1,hz2⟩:=info_parts adG;go_wp2_with (first|(at_builtin;refine tO rfl _ _ 27 rfl w.heap.size 89 i0 _ 3 32 underlying27 hi hz0 hz1 hz2 rfl (by decide) _ _ _ rfl bC.out (some ⟨w2.heap.size,0,none⟩) 1 1 [Value.string x.name,Value.int .i64 x.kind,Value.int .i64 x.index] rfl ?c6 ?c0 ?c1 ?c2 ?c3 ?c4 ?c5 ?_))
     case c6=>intro h;cases h
     case c0=>rfl
     case c1=>exact λad h=>by injection h with h;subst h;exact HN.out
     case c2 =>
      intro u hu;simp only [lI,List.mem_nil_iff,or_false] at hu;rcases hu with rfl|rfl|rfl
      all_goals rfl
     case c3=>unfold maxLen;omega
     case c4=>omega
     case c5=>have:=iA.out;simp;omega
     intro v9 w9 dO cE iz;have dP:∀q',(Value.slice oT q cT).ownBlock=some q'->w.heap.size<=q':=λq' hq'=>(bC.out.lt q' hq').1;have jZ:=aa (aM.out.grown cE (λq' hq'=>jg hpw (dP q' hq')));have jw:=aa (But.grown (p:=p) HB2.out cE dP);have kQ:Hid (w9.ownsRow w.heap.size 89 3 v9 (q+1) (kS (ps++[(x,[Value.string x.name,Value.int .i64 x.kind,Value.int .i64 x.index])]))):=aa (by rw [yB];exact dO)
     have oC:Hid (∀y ∈ ps++[(x,[Value.string x.name,Value.int .i64 x.kind,Value.int .i64 x.index])],K w9 (Since w.heap.size w9 v9.ownBlock) y.1 y.2):=aa (λy hy=>by
      have key:∀x vs,K w2 (Since w.heap.size w2 (Value.slice oT q cT).ownBlock) x vs->K w9 (Since w.heap.size w9 v9.ownBlock) x vs:=λx vs h=>hK _ _ _ _ (xh cE (by simpa using iz)) _ _ (hK _ _ _ _ (pO jr.out) _ _ h);rcases List.mem_append.1 hy with hy|hy
      ·exact key _ _ (bK.out y hy)
      rw [List.mem_singleton.1 hy];exact key _ _ jo.out)
     have qd:Hid (∀y ∈ ps++[(x,[Value.string x.name,Value.int .i64 x.kind,Value.int .i64 x.index])],y.2.length=3):=aa (λy hy=>by
      rcases List.mem_append.1 hy with hy|hy
      ·exact HW.out y hy
      rw [List.mem_singleton.1 hy];rfl)
     have qg:Hid (R=pre ((ps++[(x,[Value.string x.name,Value.int .i64 x.kind,Value.int .i64 x.index])]).map (·.1)) (rep rd (m-(q+1)) j2)):=aa (by rw [qw];exact HZ.out);have hsl:=rU dO;clear dO cE iz dP bC HN HB2 aM bK jo jr HZ HW;obtain ⟨oN,cN,rfl⟩:=hsl;go_wp2;go_roundw
     case rel=>exact ⟨q+1,ps++[(x,[Value.string x.name,Value.int .i64 x.kind,Value.int .i64 x.index])],j2,by omega,by go_num,by simp [hl],⟨_,_,rfl⟩,qg,jZ,jw,qd,kQ,oC⟩
     case measure=>simp [intOf];omega
   obtain rfl:q=m:=by omega
   have HZ:Hid (R=.ok (ps.map (·.1),jq)):=aa (by rw [HP.out,Nat.sub_self];exact vN _ _ jq);have HV:Hid (aR 3 F wr (Since w.heap.size wr none) (.slice oT q cT) (ps.map (·.1))):=aa (row_of hK hF _ ps rfl (by rw [jS];omega) HW.out (by rw [hl];exact HO.out) HK.out);clear HP HO HK HW;go_wp2;go_ret;rw [HZ.out];exact ⟨⟨_,rfl,HV.out⟩,HS.out,HB.out⟩
namespace aI
def R7 (K:EK oG) (B:Nat) (x:oG) (v:Value) (u:AG):Prop:=v=.agg #[Value.string x.mod,Value.string x.name,Value.int .i64 x.type]/\K u (Since B u none) x [Value.string x.mod,Value.string x.name,Value.int .i64 x.type]
end aI
theorem adH:(prog.info? 83).map (λi=>(i.zero,i.size,i.bytes))=some (some (.agg #[.string ByteArray.empty,.string ByteArray.empty,.int .i64 0]),3,40):=by kernel_rfl
theorem Xd (rd:Nat->R oG) (K:EK oG) (F:EA oG) (hK:qA K) (hF:iE 83 K F) (w0:AG) (p:Nat) (s:AH) (c:Nat->Value) (en k i n:Nat) (w:AG) (h:RS w0 p s c en k i n w)
  (HE:∀j u,RS w0 p s c en k j n u->Calls prog 74 #[.pointer (some ⟨p,0,none⟩)] u (cz w0 p s c en k n (R7 K u.heap.size) u (rd j))) :
  Calls prog 73 #[.pointer (some ⟨p,0,none⟩),.func (.func 74) #[.pointer (some ⟨p,0,none⟩)] #[]] w (cz w0 p s c en k n (λl v u=>aR 3 F u (Since w.heap.size u none) v l) w (bB rd s en i)):=by
 have HC:=aa (tN w0 p s c en k i n w h);have HE:=aa HE;have hpw:=h.lt;have hlen:=h.len;clear h;unfold bB;cases hx:rc s en i with
 | error z =>
  rw [hx] at HC;rw [bW];clear hx;go_enter func73,ntmps73;go_wp2_with fail;refine HC.out.mono ?_;rintro e w1 ⟨rfl,hb⟩;exact ⟨rfl,rfl,hb⟩
 | ok v =>
  obtain ⟨x,j⟩:=v;have hrc:=rW hlen hx;rw [hx] at HC;rw [aK];obtain ⟨m,rfl⟩:∃m:Nat,x=(m:Int):=⟨x.toNat,by omega⟩;have hm:m<=4096:=by omega
  rw [show ((m:Int).toNat)=m by omega];obtain ⟨R,hR⟩:∃R,R=rep rd m j:=⟨_,rfl⟩;rw [<- hR];have HR:=aa hR;clear hx hrc hR hlen;go_enter func73,ntmps73;go_wp2_with fail;refine HC.out.mono ?_;rintro e w1 ⟨⟨v,rfl,hv⟩,h1,h2⟩;have hv:v=.int .i64 m:=hv;subst hv;have H1:=aa h1;have H2:=aa h2;clear h1 h2 HC;go_wp2_with fail;go_loopw [5,8] (λt u wr=>∃(q:Nat) (ps:List (Pe oG)) (jq:Nat),q<=m/\u=.int .i64 q/\ps.length=q/\(∃o c,t=.slice o q c)/\Hid (R=pre (ps.map (·.1)) (rep rd (m-q) jq))/\Hid (RS w0 p s c en k jq n wr)/\Hid (But p w wr)/\Hid (∀y ∈ ps,y.2.length=3)/\Hid (wr.ownsRow w.heap.size 83 3 t q (kS ps))/\Hid (∀y ∈ ps,K wr (Since w.heap.size wr t.ownBlock) y.1 y.2)) (λ_ u _=>m-(intOf u).toNat)
  case atStart=>exact ⟨0,[],j,by omega,rfl,rfl,⟨none,0,rfl⟩,aa (by rw [HR.out];exact (pre_nil _).symm),H1,H2,aa (λy hy=>by cases hy),aa (World.ownsRow_nil _ _ _ _),aa (λy hy=>by cases hy)⟩
  case round =>
   obtain ⟨q,ps,jq,hq,rfl,hl,⟨oT,cT,rfl⟩,HP,HS,HB,HW,HO,HK⟩:=hrel;by_cases hgo:q<m
   ·have hU:=HE.out jq wr HS.out;obtain ⟨r,hr⟩:∃r,m-q=r+1:=⟨m-q-1,by omega⟩;cases hu:rd jq with
    | error z =>
     rw [hu] at hU;have HU:=aa hU;have HZ:Hid (R=.error z):=aa (by rw [HP.out,hr];exact vM _ _ r jq z hu);clear hU hu HP HO HK HW;go_wp2_with fail;refine HU.out.mono ?_;rintro e w2 ⟨rfl,hb⟩;exact ⟨rfl,by rw [HZ.out];exact ⟨rfl,hb⟩⟩
    | ok v =>
     obtain ⟨x,j2⟩:=v;rw [hu] at hU;have HU:=aa hU;have HZ:Hid (R=pre (ps.map (·.1)++[x]) (rep rd (m-(q+1)) j2)):=aa (by rw [HP.out,hr,pre_on _ _ r jq x j2 hu,show m-(q+1)=r by omega]);clear hU hu HP;go_wp2_with fail;refine HU.out.mono ?_;rintro e w2 ⟨⟨v,rfl,hv⟩,h1,h2⟩;obtain ⟨rfl,hk⟩:=hv;have jm:Hid (∀q',(Value.slice oT q cT).ownBlock=some q'->w.heap.size<=q'/\q'<wr.heap.size):=aa (λq' hq'=>HO.out.lt q' hq');have hup:=xz (B:=w.heap.size) (B2:=wr.heap.size) (u:=w2) (row:=(Value.slice oT q cT).ownBlock) HB.out.size (λq' hq'=>(jm.out q' hq').2);have jo:Hid (K w2 (Since w.heap.size w2 (Value.slice oT q cT).ownBlock) x [Value.string x.mod,Value.string x.name,Value.int .i64 x.type]):=aa (hK _ _ _ _ hup _ _ hk);have bC:=aa ((qV HO.out hpw h2).alloc (.cells #[Value.string x.mod,Value.string x.name,Value.int .i64 x.type] 83));have HN:=aa (yC w2 [Value.string x.mod,Value.string x.name,Value.int .i64 x.type] 83);have bK:=aa (λy hy=>hK _ _ _ _ (wC hpw h2) _ _ (HK.out y hy));have HB2:=aa ((HB.out.trans h2).trans (But.of p (aQ w2 (.cells #[Value.string x.mod,Value.string x.name,Value.int .i64 x.type] 83))));have aM:=aa (h1.on (aQ w2 (.cells #[Value.string x.mod,Value.string x.name,Value.int .i64 x.type] 83)));have jr:=aa (aQ w2 (.cells #[Value.string x.mod,Value.string x.name,Value.int .i64 x.type] 83));have iA:Hid (w.heap.size<=w2.heap.size):=aa (eU HB.out.size h2.size);clear h1 h2 hk hup HU HO HS HB HK jm;obtain ⟨i0,hi,hz0,hz1,hz2⟩:=info_parts adH;go_wp2_with (first|(at_builtin;refine tO rfl _ _ 23 rfl w.heap.size 83 i0 _ 3 40 underlying23 hi hz0 hz1 hz2 rfl (by decide) _ _ _ rfl bC.out (some ⟨w2.heap.size,0,none⟩) 1 1 [Value.string x.mod,Value.string x.name,Value.int .i64 x.type] rfl ?c6 ?c0 ?c1 ?c2 ?c3 ?c4 ?c5 ?_))
     case c6=>intro h;cases h
     case c0=>rfl
     case c1=>exact λad h=>by injection h with h;subst h;exact HN.out
     case c2 =>
      intro u hu;simp only [lI,List.mem_nil_iff,or_false] at hu;rcases hu with rfl|rfl|rfl
      all_goals rfl
     case c3=>unfold maxLen;omega
     case c4=>omega
     case c5=>have:=iA.out;simp;omega
     intro v9 w9 dO cE iz;have dP:∀q',(Value.slice oT q cT).ownBlock=some q'->w.heap.size<=q':=λq' hq'=>(bC.out.lt q' hq').1;have jZ:=aa (aM.out.grown cE (λq' hq'=>jg hpw (dP q' hq')));have jw:=aa (But.grown (p:=p) HB2.out cE dP);have kQ:Hid (w9.ownsRow w.heap.size 83 3 v9 (q+1) (kS (ps++[(x,[Value.string x.mod,Value.string x.name,Value.int .i64 x.type])]))):=aa (by rw [yB];exact dO)
     have oC:Hid (∀y ∈ ps++[(x,[Value.string x.mod,Value.string x.name,Value.int .i64 x.type])],K w9 (Since w.heap.size w9 v9.ownBlock) y.1 y.2):=aa (λy hy=>by
      have key:∀x vs,K w2 (Since w.heap.size w2 (Value.slice oT q cT).ownBlock) x vs->K w9 (Since w.heap.size w9 v9.ownBlock) x vs:=λx vs h=>hK _ _ _ _ (xh cE (by simpa using iz)) _ _ (hK _ _ _ _ (pO jr.out) _ _ h);rcases List.mem_append.1 hy with hy|hy
      ·exact key _ _ (bK.out y hy)
      rw [List.mem_singleton.1 hy];exact key _ _ jo.out)
     have qd:Hid (∀y ∈ ps++[(x,[Value.string x.mod,Value.string x.name,Value.int .i64 x.type])],y.2.length=3):=aa (λy hy=>by
      rcases List.mem_append.1 hy with hy|hy
      ·exact HW.out y hy
      rw [List.mem_singleton.1 hy];rfl)
     have qg:Hid (R=pre ((ps++[(x,[Value.string x.mod,Value.string x.name,Value.int .i64 x.type])]).map (·.1)) (rep rd (m-(q+1)) j2)):=aa (by rw [qw];exact HZ.out);have hsl:=rU dO;clear dO cE iz dP bC HN HB2 aM bK jo jr HZ HW;obtain ⟨oN,cN,rfl⟩:=hsl;go_wp2;go_roundw
     case rel=>exact ⟨q+1,ps++[(x,[Value.string x.mod,Value.string x.name,Value.int .i64 x.type])],j2,by omega,by go_num,by simp [hl],⟨_,_,rfl⟩,qg,jZ,jw,qd,kQ,oC⟩
     case measure=>simp [intOf];omega
   obtain rfl:q=m:=by omega
   have HZ:Hid (R=.ok (ps.map (·.1),jq)):=aa (by rw [HP.out,Nat.sub_self];exact vN _ _ jq);have HV:Hid (aR 3 F wr (Since w.heap.size wr none) (.slice oT q cT) (ps.map (·.1))):=aa (row_of hK hF _ ps rfl (by rw [jS];omega) HW.out (by rw [hl];exact HO.out) HK.out);clear HP HO HK HW;go_wp2;go_ret;rw [HZ.out];exact ⟨⟨_,rfl,HV.out⟩,HS.out,HB.out⟩
namespace aI
def Ho (K:EK gu) (B:Nat) (x:gu) (v:Value) (u:AG):Prop:=v=.agg #[Value.int .i64 x.min,Value.int .i64 x.max,Value.bool x.has]/\K u (Since B u none) x [Value.int .i64 x.min,Value.int .i64 x.max,Value.bool x.has]
end aI
theorem SE:(prog.info? 86).map (λi=>(i.zero,i.size,i.bytes))=some (some (.agg #[.int .i64 0,.int .i64 0,.bool false]),3,24):=by kernel_rfl
theorem WY (rd:Nat->R gu) (K:EK gu) (F:EA gu) (hK:qA K) (hF:iE 86 K F) (w0:AG) (p:Nat) (s:AH) (c:Nat->Value) (en k i n:Nat) (w:AG) (h:RS w0 p s c en k i n w)
  (HE:∀j u,RS w0 p s c en k j n u->Calls prog 79 #[.pointer (some ⟨p,0,none⟩)] u (cz w0 p s c en k n (Ho K u.heap.size) u (rd j))) :
  Calls prog 77 #[.pointer (some ⟨p,0,none⟩),.func (.func 79) #[.pointer (some ⟨p,0,none⟩)] #[]] w (cz w0 p s c en k n (λl v u=>aR 3 F u (Since w.heap.size u none) v l) w (bB rd s en i)):=by
 have HC:=aa (tN w0 p s c en k i n w h);have HE:=aa HE;have hpw:=h.lt;have hlen:=h.len;clear h;unfold bB;cases hx:rc s en i with
 | error z =>
  rw [hx] at HC;rw [bW];clear hx;go_enter func77,ntmps77;go_wp2_with fail;refine HC.out.mono ?_;rintro e w1 ⟨rfl,hb⟩;exact ⟨rfl,rfl,hb⟩
 | ok v =>
  obtain ⟨x,j⟩:=v;have hrc:=rW hlen hx;rw [hx] at HC;rw [aK];obtain ⟨m,rfl⟩:∃m:Nat,x=(m:Int):=⟨x.toNat,by omega⟩;have hm:m<=4096:=by omega
  rw [show ((m:Int).toNat)=m by omega];obtain ⟨R,hR⟩:∃R,R=rep rd m j:=⟨_,rfl⟩;rw [<- hR];have HR:=aa hR;clear hx hrc hR hlen;go_enter func77,ntmps77;go_wp2_with fail;refine HC.out.mono ?_;rintro e w1 ⟨⟨v,rfl,hv⟩,h1,h2⟩;have hv:v=.int .i64 m:=hv;subst hv;have H1:=aa h1;have H2:=aa h2;clear h1 h2 HC;go_wp2_with fail;go_loopw [5,8] (λt u wr=>∃(q:Nat) (ps:List (Pe gu)) (jq:Nat),q<=m/\u=.int .i64 q/\ps.length=q/\(∃o c,t=.slice o q c)/\Hid (R=pre (ps.map (·.1)) (rep rd (m-q) jq))/\Hid (RS w0 p s c en k jq n wr)/\Hid (But p w wr)/\Hid (∀y ∈ ps,y.2.length=3)/\Hid (wr.ownsRow w.heap.size 86 3 t q (kS ps))/\Hid (∀y ∈ ps,K wr (Since w.heap.size wr t.ownBlock) y.1 y.2)) (λ_ u _=>m-(intOf u).toNat)
  case atStart=>exact ⟨0,[],j,by omega,rfl,rfl,⟨none,0,rfl⟩,aa (by rw [HR.out];exact (pre_nil _).symm),H1,H2,aa (λy hy=>by cases hy),aa (World.ownsRow_nil _ _ _ _),aa (λy hy=>by cases hy)⟩
  case round =>
   obtain ⟨q,ps,jq,hq,rfl,hl,⟨oT,cT,rfl⟩,HP,HS,HB,HW,HO,HK⟩:=hrel;by_cases hgo:q<m
   ·have hU:=HE.out jq wr HS.out;obtain ⟨r,hr⟩:∃r,m-q=r+1:=⟨m-q-1,by omega⟩;cases hu:rd jq with
    | error z =>
     rw [hu] at hU;have HU:=aa hU;have HZ:Hid (R=.error z):=aa (by rw [HP.out,hr];exact vM _ _ r jq z hu);clear hU hu HP HO HK HW;go_wp2_with fail;refine HU.out.mono ?_;rintro e w2 ⟨rfl,hb⟩;exact ⟨rfl,by rw [HZ.out];exact ⟨rfl,hb⟩⟩
    | ok v =>
     obtain ⟨x,j2⟩:=v;rw [hu] at hU;have HU:=aa hU;have HZ:Hid (R=pre (ps.map (·.1)++[x]) (rep rd (m-(q+1)) j2)):=aa (by rw [HP.out,hr,pre_on _ _ r jq x j2 hu,show m-(q+1)=r by omega]);clear hU hu HP;go_wp2_with fail;refine HU.out.mono ?_;rintro e w2 ⟨⟨v,rfl,hv⟩,h1,h2⟩;obtain ⟨rfl,hk⟩:=hv;have jm:Hid (∀q',(Value.slice oT q cT).ownBlock=some q'->w.heap.size<=q'/\q'<wr.heap.size):=aa (λq' hq'=>HO.out.lt q' hq');have hup:=xz (B:=w.heap.size) (B2:=wr.heap.size) (u:=w2) (row:=(Value.slice oT q cT).ownBlock) HB.out.size (λq' hq'=>(jm.out q' hq').2);have jo:Hid (K w2 (Since w.heap.size w2 (Value.slice oT q cT).ownBlock) x [Value.int .i64 x.min,Value.int .i64 x.max,Value.bool x.has]):=aa (hK _ _ _ _ hup _ _ hk);have bC:=aa ((qV HO.out hpw h2).alloc (.cells #[Value.int .i64 x.min,Value.int .i64 x.max,Value.bool x.has] 86));have HN:=aa (yC w2 [Value.int .i64 x.min,Value.int .i64 x.max,Value.bool x.has] 86);have bK:=aa (λy hy=>hK _ _ _ _ (wC hpw h2) _ _ (HK.out y hy));have HB2:=aa ((HB.out.trans h2).trans (But.of p (aQ w2 (.cells #[Value.int .i64 x.min,Value.int .i64 x.max,Value.bool x.has] 86))));have aM:=aa (h1.on (aQ w2 (.cells #[Value.int .i64 x.min,Value.int .i64 x.max,Value.bool x.has] 86)));have jr:=aa (aQ w2 (.cells #[Value.int .i64 x.min,Value.int .i64 x.max,Value.bool x.has] 86));have iA:Hid (w.heap.size<=w2.heap.size):=aa (eU HB.out.size h2.size);clear h1 h2 hk hup HU HO HS HB HK jm;obtain ⟨i0,hi,hz0,hz1,hz2⟩:=info_parts SE;go_wp2_with (first|(at_builtin;refine tO rfl _ _ 25 rfl w.heap.size 86 i0 _ 3 24 underlying25 hi hz0 hz1 hz2 rfl (by decide) _ _ _ rfl bC.out (some ⟨w2.heap.size,0,none⟩) 1 1 [Value.int .i64 x.min,Value.int .i64 x.max,Value.bool x.has] rfl ?c6 ?c0 ?c1 ?c2 ?c3 ?c4 ?c5 ?_))
     case c6=>intro h;cases h
     case c0=>rfl
     case c1=>exact λad h=>by injection h with h;subst h;exact HN.out
     case c2 =>
      intro u hu;simp only [lI,List.mem_nil_iff,or_false] at hu;rcases hu with rfl|rfl|rfl
      all_goals rfl
     case c3=>unfold maxLen;omega
     case c4=>omega
     case c5=>have:=iA.out;simp;omega
     intro v9 w9 dO cE iz;have dP:∀q',(Value.slice oT q cT).ownBlock=some q'->w.heap.size<=q':=λq' hq'=>(bC.out.lt q' hq').1;have jZ:=aa (aM.out.grown cE (λq' hq'=>jg hpw (dP q' hq')));have jw:=aa (But.grown (p:=p) HB2.out cE dP);have kQ:Hid (w9.ownsRow w.heap.size 86 3 v9 (q+1) (kS (ps++[(x,[Value.int .i64 x.min,Value.int .i64 x.max,Value.bool x.has])]))):=aa (by rw [yB];exact dO)
     have oC:Hid (∀y ∈ ps++[(x,[Value.int .i64 x.min,Value.int .i64 x.max,Value.bool x.has])],K w9 (Since w.heap.size w9 v9.ownBlock) y.1 y.2):=aa (λy hy=>by
      have key:∀x vs,K w2 (Since w.heap.size w2 (Value.slice oT q cT).ownBlock) x vs->K w9 (Since w.heap.size w9 v9.ownBlock) x vs:=λx vs h=>hK _ _ _ _ (xh cE (by simpa using iz)) _ _ (hK _ _ _ _ (pO jr.out) _ _ h);rcases List.mem_append.1 hy with hy|hy
      ·exact key _ _ (bK.out y hy)
      rw [List.mem_singleton.1 hy];exact key _ _ jo.out)
     have qd:Hid (∀y ∈ ps++[(x,[Value.int .i64 x.min,Value.int .i64 x.max,Value.bool x.has])],y.2.length=3):=aa (λy hy=>by
      rcases List.mem_append.1 hy with hy|hy
      ·exact HW.out y hy
      rw [List.mem_singleton.1 hy];rfl)
     have qg:Hid (R=pre ((ps++[(x,[Value.int .i64 x.min,Value.int .i64 x.max,Value.bool x.has])]).map (·.1)) (rep rd (m-(q+1)) j2)):=aa (by rw [qw];exact HZ.out);have hsl:=rU dO;clear dO cE iz dP bC HN HB2 aM bK jo jr HZ HW;obtain ⟨oN,cN,rfl⟩:=hsl;go_wp2;go_roundw
     case rel=>exact ⟨q+1,ps++[(x,[Value.int .i64 x.min,Value.int .i64 x.max,Value.bool x.has])],j2,by omega,by go_num,by simp [hl],⟨_,_,rfl⟩,qg,jZ,jw,qd,kQ,oC⟩
     case measure=>simp [intOf];omega
   obtain rfl:q=m:=by omega
   have HZ:Hid (R=.ok (ps.map (·.1),jq)):=aa (by rw [HP.out,Nat.sub_self];exact vN _ _ jq);have HV:Hid (aR 3 F wr (Since w.heap.size wr none) (.slice oT q cT) (ps.map (·.1))):=aa (row_of hK hF _ ps rfl (by rw [jS];omega) HW.out (by rw [hl];exact HO.out) HK.out);clear HP HO HK HW;go_wp2;go_ret;rw [HZ.out];exact ⟨⟨_,rfl,HV.out⟩,HS.out,HB.out⟩
theorem WW (rd:Nat->R gu) (K:EK gu) (F:EA gu) (hK:qA K) (hF:iE 86 K F) (w0:AG) (p:Nat) (s:AH) (c:Nat->Value) (en k i n:Nat) (w:AG) (h:RS w0 p s c en k i n w)
  (HE:∀j u,RS w0 p s c en k j n u->Calls prog 78 #[.pointer (some ⟨p,0,none⟩)] u (cz w0 p s c en k n (Ho K u.heap.size) u (rd j))) :
  Calls prog 77 #[.pointer (some ⟨p,0,none⟩),.func (.func 78) #[.pointer (some ⟨p,0,none⟩)] #[]] w (cz w0 p s c en k n (λl v u=>aR 3 F u (Since w.heap.size u none) v l) w (bB rd s en i)):=by
 have HC:=aa (tN w0 p s c en k i n w h);have HE:=aa HE;have hpw:=h.lt;have hlen:=h.len;clear h;unfold bB;cases hx:rc s en i with
 | error z =>
  rw [hx] at HC;rw [bW];clear hx;go_enter func77,ntmps77;go_wp2_with fail;refine HC.out.mono ?_;rintro e w1 ⟨rfl,hb⟩;exact ⟨rfl,rfl,hb⟩
 | ok v =>
  obtain ⟨x,j⟩:=v;have hrc:=rW hlen hx;rw [hx] at HC;rw [aK];obtain ⟨m,rfl⟩:∃m:Nat,x=(m:Int):=⟨x.toNat,by omega⟩;have hm:m<=4096:=by omega
  rw [show ((m:Int).toNat)=m by omega];obtain ⟨R,hR⟩:∃R,R=rep rd m j:=⟨_,rfl⟩;rw [<- hR];have HR:=aa hR;clear hx hrc hR hlen;go_enter func77,ntmps77;go_wp2_with fail;refine HC.out.mono ?_;rintro e w1 ⟨⟨v,rfl,hv⟩,h1,h2⟩;have hv:v=.int .i64 m:=hv;subst hv;have H1:=aa h1;have H2:=aa h2;clear h1 h2 HC;go_wp2_with fail;go_loopw [5,8] (λt u wr=>∃(q:Nat) (ps:List (Pe gu)) (jq:Nat),q<=m/\u=.int .i64 q/\ps.length=q/\(∃o c,t=.slice o q c)/\Hid (R=pre (ps.map (·.1)) (rep rd (m-q) jq))/\Hid (RS w0 p s c en k jq n wr)/\Hid (But p w wr)/\Hid (∀y ∈ ps,y.2.length=3)/\Hid (wr.ownsRow w.heap.size 86 3 t q (kS ps))/\Hid (∀y ∈ ps,K wr (Since w.heap.size wr t.ownBlock) y.1 y.2)) (λ_ u _=>m-(intOf u).toNat)
  case atStart=>exact ⟨0,[],j,by omega,rfl,rfl,⟨none,0,rfl⟩,aa (by rw [HR.out];exact (pre_nil _).symm),H1,H2,aa (λy hy=>by cases hy),aa (World.ownsRow_nil _ _ _ _),aa (λy hy=>by cases hy)⟩
  case round =>
   obtain ⟨q,ps,jq,hq,rfl,hl,⟨oT,cT,rfl⟩,HP,HS,HB,HW,HO,HK⟩:=hrel;by_cases hgo:q<m
   ·have hU:=HE.out jq wr HS.out;obtain ⟨r,hr⟩:∃r,m-q=r+1:=⟨m-q-1,by omega⟩;cases hu:rd jq with
    | error z =>
     rw [hu] at hU;have HU:=aa hU;have HZ:Hid (R=.error z):=aa (by rw [HP.out,hr];exact vM _ _ r jq z hu);clear hU hu HP HO HK HW;go_wp2_with fail;refine HU.out.mono ?_;rintro e w2 ⟨rfl,hb⟩;exact ⟨rfl,by rw [HZ.out];exact ⟨rfl,hb⟩⟩
    | ok v =>
     obtain ⟨x,j2⟩:=v;rw [hu] at hU;have HU:=aa hU;have HZ:Hid (R=pre (ps.map (·.1)++[x]) (rep rd (m-(q+1)) j2)):=aa (by rw [HP.out,hr,pre_on _ _ r jq x j2 hu,show m-(q+1)=r by omega]);clear hU hu HP;go_wp2_with fail;refine HU.out.mono ?_;rintro e w2 ⟨⟨v,rfl,hv⟩,h1,h2⟩;obtain ⟨rfl,hk⟩:=hv;have jm:Hid (∀q',(Value.slice oT q cT).ownBlock=some q'->w.heap.size<=q'/\q'<wr.heap.size):=aa (λq' hq'=>HO.out.lt q' hq');have hup:=xz (B:=w.heap.size) (B2:=wr.heap.size) (u:=w2) (row:=(Value.slice oT q cT).ownBlock) HB.out.size (λq' hq'=>(jm.out q' hq').2);have jo:Hid (K w2 (Since w.heap.size w2 (Value.slice oT q cT).ownBlock) x [Value.int .i64 x.min,Value.int .i64 x.max,Value.bool x.has]):=aa (hK _ _ _ _ hup _ _ hk);have bC:=aa ((qV HO.out hpw h2).alloc (.cells #[Value.int .i64 x.min,Value.int .i64 x.max,Value.bool x.has] 86));have HN:=aa (yC w2 [Value.int .i64 x.min,Value.int .i64 x.max,Value.bool x.has] 86);have bK:=aa (λy hy=>hK _ _ _ _ (wC hpw h2) _ _ (HK.out y hy));have HB2:=aa ((HB.out.trans h2).trans (But.of p (aQ w2 (.cells #[Value.int .i64 x.min,Value.int .i64 x.max,Value.bool x.has] 86))));have aM:=aa (h1.on (aQ w2 (.cells #[Value.int .i64 x.min,Value.int .i64 x.max,Value.bool x.has] 86)));have jr:=aa (aQ w2 (.cells #[Value.int .i64 x.min,Value.int .i64 x.max,Value.bool x.has] 86));have iA:Hid (w.heap.size<=w2.heap.size):=aa (eU HB.out.size h2.size);clear h1 h2 hk hup HU HO HS HB HK jm;obtain ⟨i0,hi,hz0,hz1,hz2⟩:=info_parts SE;go_wp2_with (first|(at_builtin;refine tO rfl _ _ 25 rfl w.heap.size 86 i0 _ 3 24 underlying25 hi hz0 hz1 hz2 rfl (by decide) _ _ _ rfl bC.out (some ⟨w2.heap.size,0,none⟩) 1 1 [Value.int .i64 x.min,Value.int .i64 x.max,Value.bool x.has] rfl ?c6 ?c0 ?c1 ?c2 ?c3 ?c4 ?c5 ?_))
     case c6=>intro h;cases h
     case c0=>rfl
     case c1=>exact λad h=>by injection h with h;subst h;exact HN.out
     case c2 =>
      intro u hu;simp only [lI,List.mem_nil_iff,or_false] at hu;rcases hu with rfl|rfl|rfl
      all_goals rfl
     case c3=>unfold maxLen;omega
     case c4=>omega
     case c5=>have:=iA.out;simp;omega
     intro v9 w9 dO cE iz;have dP:∀q',(Value.slice oT q cT).ownBlock=some q'->w.heap.size<=q':=λq' hq'=>(bC.out.lt q' hq').1;have jZ:=aa (aM.out.grown cE (λq' hq'=>jg hpw (dP q' hq')));have jw:=aa (But.grown (p:=p) HB2.out cE dP);have kQ:Hid (w9.ownsRow w.heap.size 86 3 v9 (q+1) (kS (ps++[(x,[Value.int .i64 x.min,Value.int .i64 x.max,Value.bool x.has])]))):=aa (by rw [yB];exact dO)
     have oC:Hid (∀y ∈ ps++[(x,[Value.int .i64 x.min,Value.int .i64 x.max,Value.bool x.has])],K w9 (Since w.heap.size w9 v9.ownBlock) y.1 y.2):=aa (λy hy=>by
      have key:∀x vs,K w2 (Since w.heap.size w2 (Value.slice oT q cT).ownBlock) x vs->K w9 (Since w.heap.size w9 v9.ownBlock) x vs:=λx vs h=>hK _ _ _ _ (xh cE (by simpa using iz)) _ _ (hK _ _ _ _ (pO jr.out) _ _ h);rcases List.mem_append.1 hy with hy|hy
      ·exact key _ _ (bK.out y hy)
      rw [List.mem_singleton.1 hy];exact key _ _ jo.out)
     have qd:Hid (∀y ∈ ps++[(x,[Value.int .i64 x.min,Value.int .i64 x.max,Value.bool x.has])],y.2.length=3):=aa (λy hy=>by
      rcases List.mem_append.1 hy with hy|hy
      ·exact HW.out y hy
      rw [List.mem_singleton.1 hy];rfl)
     have qg:Hid (R=pre ((ps++[(x,[Value.int .i64 x.min,Value.int .i64 x.max,Value.bool x.has])]).map (·.1)) (rep rd (m-(q+1)) j2)):=aa (by rw [qw];exact HZ.out);have hsl:=rU dO;clear dO cE iz dP bC HN HB2 aM bK jo jr HZ HW;obtain ⟨oN,cN,rfl⟩:=hsl;go_wp2;go_roundw
     case rel=>exact ⟨q+1,ps++[(x,[Value.int .i64 x.min,Value.int .i64 x.max,Value.bool x.has])],j2,by omega,by go_num,by simp [hl],⟨_,_,rfl⟩,qg,jZ,jw,qd,kQ,oC⟩
     case measure=>simp [intOf];omega
   obtain rfl:q=m:=by omega
   have HZ:Hid (R=.ok (ps.map (·.1),jq)):=aa (by rw [HP.out,Nat.sub_self];exact vN _ _ jq);have HV:Hid (aR 3 F wr (Since w.heap.size wr none) (.slice oT q cT) (ps.map (·.1))):=aa (row_of hK hF _ ps rfl (by rw [jS];omega) HW.out (by rw [hl];exact HO.out) HK.out);clear HP HO HK HW;go_wp2;go_ret;rw [HZ.out];exact ⟨⟨_,rfl,HV.out⟩,HS.out,HB.out⟩
namespace aI
def Sa (K:EK Int) (B:Nat) (x:Int) (v:Value) (u:AG):Prop:=v=.agg #[Value.int .i64 x,Value.slice none 0 0,Value.slice none 0 0]/\K u (Since B u none) x [Value.int .i64 x,Value.slice none 0 0,Value.slice none 0 0]
end aI
theorem adI:(prog.info? 55).map (λi=>(i.zero,i.size,i.bytes))=some (some (.agg #[.int .i64 0,.slice none 0 0,.slice none 0 0]),3,56):=by kernel_rfl
theorem WU (rd:Nat->R Int) (K:EK Int) (F:EA Int) (hK:qA K) (hF:iE 55 K F) (w0:AG) (p:Nat) (s:AH) (c:Nat->Value) (en k i n:Nat) (w:AG) (h:RS w0 p s c en k i n w)
  (HE:∀j u,RS w0 p s c en k j n u->Calls prog 76 #[.pointer (some ⟨p,0,none⟩)] u (cz w0 p s c en k n (Sa K u.heap.size) u (rd j))) :
  Calls prog 75 #[.pointer (some ⟨p,0,none⟩),.func (.func 76) #[.pointer (some ⟨p,0,none⟩)] #[]] w (cz w0 p s c en k n (λl v u=>aR 3 F u (Since w.heap.size u none) v l) w (bB rd s en i)):=by
 have HC:=aa (tN w0 p s c en k i n w h);have HE:=aa HE;have hpw:=h.lt;have hlen:=h.len;clear h;unfold bB;cases hx:rc s en i with
 | error z =>
  rw [hx] at HC;rw [bW];clear hx;go_enter func75,ntmps75;go_wp2_with fail;refine HC.out.mono ?_;rintro e w1 ⟨rfl,hb⟩;exact ⟨rfl,rfl,hb⟩
 | ok v =>
  obtain ⟨x,j⟩:=v;have hrc:=rW hlen hx;rw [hx] at HC;rw [aK];obtain ⟨m,rfl⟩:∃m:Nat,x=(m:Int):=⟨x.toNat,by omega⟩;have hm:m<=4096:=by omega
  rw [show ((m:Int).toNat)=m by omega];obtain ⟨R,hR⟩:∃R,R=rep rd m j:=⟨_,rfl⟩;rw [<- hR];have HR:=aa hR;clear hx hrc hR hlen;go_enter func75,ntmps75;go_wp2_with fail;refine HC.out.mono ?_;rintro e w1 ⟨⟨v,rfl,hv⟩,h1,h2⟩;have hv:v=.int .i64 m:=hv;subst hv;have H1:=aa h1;have H2:=aa h2;clear h1 h2 HC;go_wp2_with fail;go_loopw [5,8] (λt u wr=>∃(q:Nat) (ps:List (Pe Int)) (jq:Nat),q<=m/\u=.int .i64 q/\ps.length=q/\(∃o c,t=.slice o q c)/\Hid (R=pre (ps.map (·.1)) (rep rd (m-q) jq))/\Hid (RS w0 p s c en k jq n wr)/\Hid (But p w wr)/\Hid (∀y ∈ ps,y.2.length=3)/\Hid (wr.ownsRow w.heap.size 55 3 t q (kS ps))/\Hid (∀y ∈ ps,K wr (Since w.heap.size wr t.ownBlock) y.1 y.2)) (λ_ u _=>m-(intOf u).toNat)
  case atStart=>exact ⟨0,[],j,by omega,rfl,rfl,⟨none,0,rfl⟩,aa (by rw [HR.out];exact (pre_nil _).symm),H1,H2,aa (λy hy=>by cases hy),aa (World.ownsRow_nil _ _ _ _),aa (λy hy=>by cases hy)⟩
  case round =>
   obtain ⟨q,ps,jq,hq,rfl,hl,⟨oT,cT,rfl⟩,HP,HS,HB,HW,HO,HK⟩:=hrel;by_cases hgo:q<m
   ·have hU:=HE.out jq wr HS.out;obtain ⟨r,hr⟩:∃r,m-q=r+1:=⟨m-q-1,by omega⟩;cases hu:rd jq with
    | error z =>
     rw [hu] at hU;have HU:=aa hU;have HZ:Hid (R=.error z):=aa (by rw [HP.out,hr];exact vM _ _ r jq z hu);clear hU hu HP HO HK HW;go_wp2_with fail;refine HU.out.mono ?_;rintro e w2 ⟨rfl,hb⟩;exact ⟨rfl,by rw [HZ.out];exact ⟨rfl,hb⟩⟩
    | ok v =>
     obtain ⟨x,j2⟩:=v;rw [hu] at hU;have HU:=aa hU;have HZ:Hid (R=pre (ps.map (·.1)++[x]) (rep rd (m-(q+1)) j2)):=aa (by rw [HP.out,hr,pre_on _ _ r jq x j2 hu,show m-(q+1)=r by omega]);clear hU hu HP;go_wp2_with fail;refine HU.out.mono ?_;rintro e w2 ⟨⟨v,rfl,hv⟩,h1,h2⟩;obtain ⟨rfl,hk⟩:=hv;have jm:Hid (∀q',(Value.slice oT q cT).ownBlock=some q'->w.heap.size<=q'/\q'<wr.heap.size):=aa (λq' hq'=>HO.out.lt q' hq');have hup:=xz (B:=w.heap.size) (B2:=wr.heap.size) (u:=w2) (row:=(Value.slice oT q cT).ownBlock) HB.out.size (λq' hq'=>(jm.out q' hq').2);have jo:Hid (K w2 (Since w.heap.size w2 (Value.slice oT q cT).ownBlock) x [Value.int .i64 x,Value.slice none 0 0,Value.slice none 0 0]):=aa (hK _ _ _ _ hup _ _ hk);have bC:=aa ((qV HO.out hpw h2).alloc (.cells #[Value.int .i64 x,Value.slice none 0 0,Value.slice none 0 0] 55));have HN:=aa (yC w2 [Value.int .i64 x,Value.slice none 0 0,Value.slice none 0 0] 55);have bK:=aa (λy hy=>hK _ _ _ _ (wC hpw h2) _ _ (HK.out y hy));have HB2:=aa ((HB.out.trans h2).trans (But.of p (aQ w2 (.cells #[Value.int .i64 x,Value.slice none 0 0,Value.slice none 0 0] 55))));have aM:=aa (h1.on (aQ w2 (.cells #[Value.int .i64 x,Value.slice none 0 0,Value.slice none 0 0] 55)));have jr:=aa (aQ w2 (.cells #[Value.int .i64 x,Value.slice none 0 0,Value.slice none 0 0] 55));have iA:Hid (w.heap.size<=w2.heap.size):=aa (eU HB.out.size h2.size);clear h1 h2 hk hup HU HO HS HB HK jm;obtain ⟨i0,hi,hz0,hz1,hz2⟩:=info_parts adI;go_wp2_with (first|(at_builtin;refine tO rfl _ _ 24 rfl w.heap.size 55 i0 _ 3 56 underlying24 hi hz0 hz1 hz2 rfl (by decide) _ _ _ rfl bC.out (some ⟨w2.heap.size,0,none⟩) 1 1 [Value.int .i64 x,Value.slice none 0 0,Value.slice none 0 0] rfl ?c6 ?c0 ?c1 ?c2 ?c3 ?c4 ?c5 ?_))
     case c6=>intro h;cases h
     case c0=>rfl
     case c1=>exact λad h=>by injection h with h;subst h;exact HN.out
     case c2 =>
      intro u hu;simp only [lI,List.mem_nil_iff,or_false] at hu;rcases hu with rfl|rfl|rfl
      all_goals rfl
     case c3=>unfold maxLen;omega
     case c4=>omega
     case c5=>have:=iA.out;simp;omega
     intro v9 w9 dO cE iz;have dP:∀q',(Value.slice oT q cT).ownBlock=some q'->w.heap.size<=q':=λq' hq'=>(bC.out.lt q' hq').1;have jZ:=aa (aM.out.grown cE (λq' hq'=>jg hpw (dP q' hq')));have jw:=aa (But.grown (p:=p) HB2.out cE dP);have kQ:Hid (w9.ownsRow w.heap.size 55 3 v9 (q+1) (kS (ps++[(x,[Value.int .i64 x,Value.slice none 0 0,Value.slice none 0 0])]))):=aa (by rw [yB];exact dO)
     have oC:Hid (∀y ∈ ps++[(x,[Value.int .i64 x,Value.slice none 0 0,Value.slice none 0 0])],K w9 (Since w.heap.size w9 v9.ownBlock) y.1 y.2):=aa (λy hy=>by
      have key:∀x vs,K w2 (Since w.heap.size w2 (Value.slice oT q cT).ownBlock) x vs->K w9 (Since w.heap.size w9 v9.ownBlock) x vs:=λx vs h=>hK _ _ _ _ (xh cE (by simpa using iz)) _ _ (hK _ _ _ _ (pO jr.out) _ _ h);rcases List.mem_append.1 hy with hy|hy
      ·exact key _ _ (bK.out y hy)
      rw [List.mem_singleton.1 hy];exact key _ _ jo.out)
     have qd:Hid (∀y ∈ ps++[(x,[Value.int .i64 x,Value.slice none 0 0,Value.slice none 0 0])],y.2.length=3):=aa (λy hy=>by
      rcases List.mem_append.1 hy with hy|hy
      ·exact HW.out y hy
      rw [List.mem_singleton.1 hy];rfl)
     have qg:Hid (R=pre ((ps++[(x,[Value.int .i64 x,Value.slice none 0 0,Value.slice none 0 0])]).map (·.1)) (rep rd (m-(q+1)) j2)):=aa (by rw [qw];exact HZ.out);have hsl:=rU dO;clear dO cE iz dP bC HN HB2 aM bK jo jr HZ HW;obtain ⟨oN,cN,rfl⟩:=hsl;go_wp2;go_roundw
     case rel=>exact ⟨q+1,ps++[(x,[Value.int .i64 x,Value.slice none 0 0,Value.slice none 0 0])],j2,by omega,by go_num,by simp [hl],⟨_,_,rfl⟩,qg,jZ,jw,qd,kQ,oC⟩
     case measure=>simp [intOf];omega
   obtain rfl:q=m:=by omega
   have HZ:Hid (R=.ok (ps.map (·.1),jq)):=aa (by rw [HP.out,Nat.sub_self];exact vN _ _ jq);have HV:Hid (aR 3 F wr (Since w.heap.size wr none) (.slice oT q cT) (ps.map (·.1))):=aa (row_of hK hF _ ps rfl (by rw [jS];omega) HW.out (by rw [hl];exact HO.out) HK.out);clear HP HO HK HW;go_wp2;go_ret;rw [HZ.out];exact ⟨⟨_,rfl,HV.out⟩,HS.out,HB.out⟩
namespace aI
def Qw {d:Nat} (K:EK (mZ d)) (B:Nat) (x:(mZ d)) (v:Value) (u:AG):Prop:=∃o4 n4 k4 o5 n5 k5 o6 n6 k6,v=.agg #[Value.int .i64 x.type,Value.bool x.je,Value.int .i64 x.init.op,Value.int .i64 x.init.a,Value.int .i64 x.init.b,Value.int .i64 x.init.n,Value.slice o4 n4 k4,Value.slice o5 n5 k5,Value.slice o6 n6 k6]/\K u (Since B u none) x [Value.int .i64 x.type,Value.bool x.je,Value.int .i64 x.init.op,Value.int .i64 x.init.a,Value.int .i64 x.init.b,Value.int .i64 x.init.n,Value.slice o4 n4 k4,Value.slice o5 n5 k5,Value.slice o6 n6 k6]
end aI
theorem adJ:(prog.info? 65).map (λi=>(i.zero,i.size,i.bytes))=some (some (.agg #[.int .i64 0,.bool false,.int .i64 0,.int .i64 0,.int .i64 0,.int .i64 0,.slice none 0 0,.slice none 0 0,.slice none 0 0]),9,120):=by kernel_rfl
theorem WZ {d:Nat} (rd:Nat->R (mZ d)) (K:EK (mZ d)) (F:EA (mZ d)) (hK:qA K) (hF:iE 65 K F) (w0:AG) (p:Nat) (s:AH) (c:Nat->Value) (en k i n:Nat) (w:AG) (h:RS w0 p s c en k i n w)
  (HE:∀j u,RS w0 p s c en k j n u->Calls prog 81 #[.pointer (some ⟨p,0,none⟩)] u (cz w0 p s c en k n (Qw K u.heap.size) u (rd j))) :
  Calls prog 80 #[.pointer (some ⟨p,0,none⟩),.func (.func 81) #[.pointer (some ⟨p,0,none⟩)] #[]] w (cz w0 p s c en k n (λl v u=>aR 9 F u (Since w.heap.size u none) v l) w (bB rd s en i)):=by
 have HC:=aa (tN w0 p s c en k i n w h);have HE:=aa HE;have hpw:=h.lt;have hlen:=h.len;clear h;unfold bB;cases hx:rc s en i with
 | error z =>
  rw [hx] at HC;rw [bW];clear hx;go_enter func80,ntmps80;go_wp2_with fail;refine HC.out.mono ?_;rintro e w1 ⟨rfl,hb⟩;exact ⟨rfl,rfl,hb⟩
 | ok v =>
  obtain ⟨x,j⟩:=v;have hrc:=rW hlen hx;rw [hx] at HC;rw [aK];obtain ⟨m,rfl⟩:∃m:Nat,x=(m:Int):=⟨x.toNat,by omega⟩;have hm:m<=4096:=by omega
  rw [show ((m:Int).toNat)=m by omega];obtain ⟨R,hR⟩:∃R,R=rep rd m j:=⟨_,rfl⟩;rw [<- hR];have HR:=aa hR;clear hx hrc hR hlen;go_enter func80,ntmps80;go_wp2_with fail;refine HC.out.mono ?_;rintro e w1 ⟨⟨v,rfl,hv⟩,h1,h2⟩;have hv:v=.int .i64 m:=hv;subst hv;have H1:=aa h1;have H2:=aa h2;clear h1 h2 HC;go_wp2_with fail;go_loopw [5,8] (λt u wr=>∃(q:Nat) (ps:List (Pe (mZ d))) (jq:Nat),q<=m/\u=.int .i64 q/\ps.length=q/\(∃o c,t=.slice o q c)/\Hid (R=pre (ps.map (·.1)) (rep rd (m-q) jq))/\Hid (RS w0 p s c en k jq n wr)/\Hid (But p w wr)/\Hid (∀y ∈ ps,y.2.length=9)/\Hid (wr.ownsRow w.heap.size 65 9 t q (kS ps))/\Hid (∀y ∈ ps,K wr (Since w.heap.size wr t.ownBlock) y.1 y.2)) (λ_ u _=>m-(intOf u).toNat)
  case atStart=>exact ⟨0,[],j,by omega,rfl,rfl,⟨none,0,rfl⟩,aa (by rw [HR.out];exact (pre_nil _).symm),H1,H2,aa (λy hy=>by cases hy),aa (World.ownsRow_nil _ _ _ _),aa (λy hy=>by cases hy)⟩
  case round =>
   obtain ⟨q,ps,jq,hq,rfl,hl,⟨oT,cT,rfl⟩,HP,HS,HB,HW,HO,HK⟩:=hrel;by_cases hgo:q<m
   ·have hU:=HE.out jq wr HS.out;obtain ⟨r,hr⟩:∃r,m-q=r+1:=⟨m-q-1,by omega⟩;cases hu:rd jq with
    | error z =>
     rw [hu] at hU;have HU:=aa hU;have HZ:Hid (R=.error z):=aa (by rw [HP.out,hr];exact vM _ _ r jq z hu);clear hU hu HP HO HK HW;go_wp2_with fail;refine HU.out.mono ?_;rintro e w2 ⟨rfl,hb⟩;exact ⟨rfl,by rw [HZ.out];exact ⟨rfl,hb⟩⟩
    | ok v =>
     obtain ⟨x,j2⟩:=v;rw [hu] at hU;have HU:=aa hU;have HZ:Hid (R=pre (ps.map (·.1)++[x]) (rep rd (m-(q+1)) j2)):=aa (by rw [HP.out,hr,pre_on _ _ r jq x j2 hu,show m-(q+1)=r by omega]);clear hU hu HP;go_wp2_with fail;refine HU.out.mono ?_;rintro e w2 ⟨⟨v,rfl,hv⟩,h1,h2⟩;obtain ⟨o4,n4,k4,o5,n5,k5,o6,n6,k6,rfl,hk⟩:=hv;have jm:Hid (∀q',(Value.slice oT q cT).ownBlock=some q'->w.heap.size<=q'/\q'<wr.heap.size):=aa (λq' hq'=>HO.out.lt q' hq');have hup:=xz (B:=w.heap.size) (B2:=wr.heap.size) (u:=w2) (row:=(Value.slice oT q cT).ownBlock) HB.out.size (λq' hq'=>(jm.out q' hq').2);have jo:Hid (K w2 (Since w.heap.size w2 (Value.slice oT q cT).ownBlock) x [Value.int .i64 x.type,Value.bool x.je,Value.int .i64 x.init.op,Value.int .i64 x.init.a,Value.int .i64 x.init.b,Value.int .i64 x.init.n,Value.slice o4 n4 k4,Value.slice o5 n5 k5,Value.slice o6 n6 k6]):=aa (hK _ _ _ _ hup _ _ hk);have bC:=aa ((qV HO.out hpw h2).alloc (.cells #[Value.int .i64 x.type,Value.bool x.je,Value.int .i64 x.init.op,Value.int .i64 x.init.a,Value.int .i64 x.init.b,Value.int .i64 x.init.n,Value.slice o4 n4 k4,Value.slice o5 n5 k5,Value.slice o6 n6 k6] 65));have HN:=aa (yC w2 [Value.int .i64 x.type,Value.bool x.je,Value.int .i64 x.init.op,Value.int .i64 x.init.a,Value.int .i64 x.init.b,Value.int .i64 x.init.n,Value.slice o4 n4 k4,Value.slice o5 n5 k5,Value.slice o6 n6 k6] 65);have bK:=aa (λy hy=>hK _ _ _ _ (wC hpw h2) _ _ (HK.out y hy));have HB2:=aa ((HB.out.trans h2).trans (But.of p (aQ w2 (.cells #[Value.int .i64 x.type,Value.bool x.je,Value.int .i64 x.init.op,Value.int .i64 x.init.a,Value.int .i64 x.init.b,Value.int .i64 x.init.n,Value.slice o4 n4 k4,Value.slice o5 n5 k5,Value.slice o6 n6 k6] 65))));have aM:=aa (h1.on (aQ w2 (.cells #[Value.int .i64 x.type,Value.bool x.je,Value.int .i64 x.init.op,Value.int .i64 x.init.a,Value.int .i64 x.init.b,Value.int .i64 x.init.n,Value.slice o4 n4 k4,Value.slice o5 n5 k5,Value.slice o6 n6 k6] 65)));have jr:=aa (aQ w2 (.cells #[Value.int .i64 x.type,Value.bool x.je,Value.int .i64 x.init.op,Value.int .i64 x.init.a,Value.int .i64 x.init.b,Value.int .i64 x.init.n,Value.slice o4 n4 k4,Value.slice o5 n5 k5,Value.slice o6 n6 k6] 65));have iA:Hid (w.heap.size<=w2.heap.size):=aa (eU HB.out.size h2.size);clear h1 h2 hk hup HU HO HS HB HK jm;obtain ⟨i0,hi,hz0,hz1,hz2⟩:=info_parts adJ;go_wp2_with (first|(at_builtin;refine tO rfl _ _ 26 rfl w.heap.size 65 i0 _ 9 120 underlying26 hi hz0 hz1 hz2 rfl (by decide) _ _ _ rfl bC.out (some ⟨w2.heap.size,0,none⟩) 1 1 [Value.int .i64 x.type,Value.bool x.je,Value.int .i64 x.init.op,Value.int .i64 x.init.a,Value.int .i64 x.init.b,Value.int .i64 x.init.n,Value.slice o4 n4 k4,Value.slice o5 n5 k5,Value.slice o6 n6 k6] rfl ?c6 ?c0 ?c1 ?c2 ?c3 ?c4 ?c5 ?_))
     case c6=>intro h;cases h
     case c0=>rfl
     case c1=>exact λad h=>by injection h with h;subst h;exact HN.out
     case c2 =>
      intro u hu;simp only [lI,List.mem_nil_iff,or_false] at hu;rcases hu with rfl|rfl|rfl|rfl|rfl|rfl|rfl|rfl|rfl
      all_goals rfl
     case c3=>unfold maxLen;omega
     case c4=>omega
     case c5=>have:=iA.out;simp;omega
     intro v9 w9 dO cE iz;have dP:∀q',(Value.slice oT q cT).ownBlock=some q'->w.heap.size<=q':=λq' hq'=>(bC.out.lt q' hq').1;have jZ:=aa (aM.out.grown cE (λq' hq'=>jg hpw (dP q' hq')));have jw:=aa (But.grown (p:=p) HB2.out cE dP);have kQ:Hid (w9.ownsRow w.heap.size 65 9 v9 (q+1) (kS (ps++[(x,[Value.int .i64 x.type,Value.bool x.je,Value.int .i64 x.init.op,Value.int .i64 x.init.a,Value.int .i64 x.init.b,Value.int .i64 x.init.n,Value.slice o4 n4 k4,Value.slice o5 n5 k5,Value.slice o6 n6 k6])]))):=aa (by rw [yB];exact dO)
     have oC:Hid (∀y ∈ ps++[(x,[Value.int .i64 x.type,Value.bool x.je,Value.int .i64 x.init.op,Value.int .i64 x.init.a,Value.int .i64 x.init.b,Value.int .i64 x.init.n,Value.slice o4 n4 k4,Value.slice o5 n5 k5,Value.slice o6 n6 k6])],K w9 (Since w.heap.size w9 v9.ownBlock) y.1 y.2):=aa (λy hy=>by
      have key:∀x vs,K w2 (Since w.heap.size w2 (Value.slice oT q cT).ownBlock) x vs->K w9 (Since w.heap.size w9 v9.ownBlock) x vs:=λx vs h=>hK _ _ _ _ (xh cE (by simpa using iz)) _ _ (hK _ _ _ _ (pO jr.out) _ _ h);rcases List.mem_append.1 hy with hy|hy
      ·exact key _ _ (bK.out y hy)
      rw [List.mem_singleton.1 hy];exact key _ _ jo.out)
     have qd:Hid (∀y ∈ ps++[(x,[Value.int .i64 x.type,Value.bool x.je,Value.int .i64 x.init.op,Value.int .i64 x.init.a,Value.int .i64 x.init.b,Value.int .i64 x.init.n,Value.slice o4 n4 k4,Value.slice o5 n5 k5,Value.slice o6 n6 k6])],y.2.length=9):=aa (λy hy=>by
      rcases List.mem_append.1 hy with hy|hy
      ·exact HW.out y hy
      rw [List.mem_singleton.1 hy];rfl)
     have qg:Hid (R=pre ((ps++[(x,[Value.int .i64 x.type,Value.bool x.je,Value.int .i64 x.init.op,Value.int .i64 x.init.a,Value.int .i64 x.init.b,Value.int .i64 x.init.n,Value.slice o4 n4 k4,Value.slice o5 n5 k5,Value.slice o6 n6 k6])]).map (·.1)) (rep rd (m-(q+1)) j2)):=aa (by rw [qw];exact HZ.out);have hsl:=rU dO;clear dO cE iz dP bC HN HB2 aM bK jo jr HZ HW;obtain ⟨oN,cN,rfl⟩:=hsl;go_wp2;go_roundw
     case rel=>exact ⟨q+1,ps++[(x,[Value.int .i64 x.type,Value.bool x.je,Value.int .i64 x.init.op,Value.int .i64 x.init.a,Value.int .i64 x.init.b,Value.int .i64 x.init.n,Value.slice o4 n4 k4,Value.slice o5 n5 k5,Value.slice o6 n6 k6])],j2,by omega,by go_num,by simp [hl],⟨_,_,rfl⟩,qg,jZ,jw,qd,kQ,oC⟩
     case measure=>simp [intOf];omega
   obtain rfl:q=m:=by omega
   have HZ:Hid (R=.ok (ps.map (·.1),jq)):=aa (by rw [HP.out,Nat.sub_self];exact vN _ _ jq);have HV:Hid (aR 9 F wr (Since w.heap.size wr none) (.slice oT q cT) (ps.map (·.1))):=aa (row_of hK hF _ ps rfl (by rw [jS];omega) HW.out (by rw [hl];exact HO.out) HK.out);clear HP HO HK HW;go_wp2;go_ret;rw [HZ.out];exact ⟨⟨_,rfl,HV.out⟩,HS.out,HB.out⟩
namespace aI
def Rl {d:Nat} (K:EK (lX d)) (B:Nat) (x:(lX d)) (v:Value) (u:AG):Prop:=∃o4 n4 k4 o5 n5 k5 o6 n6 k6 o7 n7 k7,v=.agg #[Value.int .i64 x.offset.op,Value.int .i64 x.offset.a,Value.int .i64 x.offset.b,Value.int .i64 x.offset.n,Value.slice o4 n4 k4,Value.slice o5 n5 k5,Value.slice o6 n6 k6,Value.slice o7 n7 k7]/\K u (Since B u none) x [Value.int .i64 x.offset.op,Value.int .i64 x.offset.a,Value.int .i64 x.offset.b,Value.int .i64 x.offset.n,Value.slice o4 n4 k4,Value.slice o5 n5 k5,Value.slice o6 n6 k6,Value.slice o7 n7 k7]
end aI
theorem adK:(prog.info? 61).map (λi=>(i.zero,i.size,i.bytes))=some (some (.agg #[.int .i64 0,.int .i64 0,.int .i64 0,.int .i64 0,.slice none 0 0,.slice none 0 0,.slice none 0 0,.slice none 0 0]),8,128):=by kernel_rfl
theorem W7 {d:Nat} (rd:Nat->R (lX d)) (K:EK (lX d)) (F:EA (lX d)) (hK:qA K) (hF:iE 61 K F) (w0:AG) (p:Nat) (s:AH) (c:Nat->Value) (en k i n:Nat) (w:AG) (h:RS w0 p s c en k i n w)
  (HE:∀j u,RS w0 p s c en k j n u->Calls prog 85 #[.pointer (some ⟨p,0,none⟩)] u (cz w0 p s c en k n (Rl K u.heap.size) u (rd j))) :
  Calls prog 84 #[.pointer (some ⟨p,0,none⟩),.func (.func 85) #[.pointer (some ⟨p,0,none⟩)] #[]] w (cz w0 p s c en k n (λl v u=>aR 8 F u (Since w.heap.size u none) v l) w (bB rd s en i)):=by
 have HC:=aa (tN w0 p s c en k i n w h);have HE:=aa HE;have hpw:=h.lt;have hlen:=h.len;clear h;unfold bB;cases hx:rc s en i with
 | error z =>
  rw [hx] at HC;rw [bW];clear hx;go_enter func84,ntmps84;go_wp2_with fail;refine HC.out.mono ?_;rintro e w1 ⟨rfl,hb⟩;exact ⟨rfl,rfl,hb⟩
 | ok v =>
  obtain ⟨x,j⟩:=v;have hrc:=rW hlen hx;rw [hx] at HC;rw [aK];obtain ⟨m,rfl⟩:∃m:Nat,x=(m:Int):=⟨x.toNat,by omega⟩;have hm:m<=4096:=by omega
  rw [show ((m:Int).toNat)=m by omega];obtain ⟨R,hR⟩:∃R,R=rep rd m j:=⟨_,rfl⟩;rw [<- hR];have HR:=aa hR;clear hx hrc hR hlen;go_enter func84,ntmps84;go_wp2_with fail;refine HC.out.mono ?_;rintro e w1 ⟨⟨v,rfl,hv⟩,h1,h2⟩;have hv:v=.int .i64 m:=hv;subst hv;have H1:=aa h1;have H2:=aa h2;clear h1 h2 HC;go_wp2_with fail;go_loopw [5,8] (λt u wr=>∃(q:Nat) (ps:List (Pe (lX d))) (jq:Nat),q<=m/\u=.int .i64 q/\ps.length=q/\(∃o c,t=.slice o q c)/\Hid (R=pre (ps.map (·.1)) (rep rd (m-q) jq))/\Hid (RS w0 p s c en k jq n wr)/\Hid (But p w wr)/\Hid (∀y ∈ ps,y.2.length=8)/\Hid (wr.ownsRow w.heap.size 61 8 t q (kS ps))/\Hid (∀y ∈ ps,K wr (Since w.heap.size wr t.ownBlock) y.1 y.2)) (λ_ u _=>m-(intOf u).toNat)
  case atStart=>exact ⟨0,[],j,by omega,rfl,rfl,⟨none,0,rfl⟩,aa (by rw [HR.out];exact (pre_nil _).symm),H1,H2,aa (λy hy=>by cases hy),aa (World.ownsRow_nil _ _ _ _),aa (λy hy=>by cases hy)⟩
  case round =>
   obtain ⟨q,ps,jq,hq,rfl,hl,⟨oT,cT,rfl⟩,HP,HS,HB,HW,HO,HK⟩:=hrel;by_cases hgo:q<m
   ·have hU:=HE.out jq wr HS.out;obtain ⟨r,hr⟩:∃r,m-q=r+1:=⟨m-q-1,by omega⟩;cases hu:rd jq with
    | error z =>
     rw [hu] at hU;have HU:=aa hU;have HZ:Hid (R=.error z):=aa (by rw [HP.out,hr];exact vM _ _ r jq z hu);clear hU hu HP HO HK HW;go_wp2_with fail;refine HU.out.mono ?_;rintro e w2 ⟨rfl,hb⟩;exact ⟨rfl,by rw [HZ.out];exact ⟨rfl,hb⟩⟩
    | ok v =>
     obtain ⟨x,j2⟩:=v;rw [hu] at hU;have HU:=aa hU;have HZ:Hid (R=pre (ps.map (·.1)++[x]) (rep rd (m-(q+1)) j2)):=aa (by rw [HP.out,hr,pre_on _ _ r jq x j2 hu,show m-(q+1)=r by omega]);clear hU hu HP;go_wp2_with fail;refine HU.out.mono ?_;rintro e w2 ⟨⟨v,rfl,hv⟩,h1,h2⟩;obtain ⟨o4,n4,k4,o5,n5,k5,o6,n6,k6,o7,n7,k7,rfl,hk⟩:=hv;have jm:Hid (∀q',(Value.slice oT q cT).ownBlock=some q'->w.heap.size<=q'/\q'<wr.heap.size):=aa (λq' hq'=>HO.out.lt q' hq');have hup:=xz (B:=w.heap.size) (B2:=wr.heap.size) (u:=w2) (row:=(Value.slice oT q cT).ownBlock) HB.out.size (λq' hq'=>(jm.out q' hq').2);have jo:Hid (K w2 (Since w.heap.size w2 (Value.slice oT q cT).ownBlock) x [Value.int .i64 x.offset.op,Value.int .i64 x.offset.a,Value.int .i64 x.offset.b,Value.int .i64 x.offset.n,Value.slice o4 n4 k4,Value.slice o5 n5 k5,Value.slice o6 n6 k6,Value.slice o7 n7 k7]):=aa (hK _ _ _ _ hup _ _ hk);have bC:=aa ((qV HO.out hpw h2).alloc (.cells #[Value.int .i64 x.offset.op,Value.int .i64 x.offset.a,Value.int .i64 x.offset.b,Value.int .i64 x.offset.n,Value.slice o4 n4 k4,Value.slice o5 n5 k5,Value.slice o6 n6 k6,Value.slice o7 n7 k7] 61));have HN:=aa (yC w2 [Value.int .i64 x.offset.op,Value.int .i64 x.offset.a,Value.int .i64 x.offset.b,Value.int .i64 x.offset.n,Value.slice o4 n4 k4,Value.slice o5 n5 k5,Value.slice o6 n6 k6,Value.slice o7 n7 k7] 61);have bK:=aa (λy hy=>hK _ _ _ _ (wC hpw h2) _ _ (HK.out y hy));have HB2:=aa ((HB.out.trans h2).trans (But.of p (aQ w2 (.cells #[Value.int .i64 x.offset.op,Value.int .i64 x.offset.a,Value.int .i64 x.offset.b,Value.int .i64 x.offset.n,Value.slice o4 n4 k4,Value.slice o5 n5 k5,Value.slice o6 n6 k6,Value.slice o7 n7 k7] 61))));have aM:=aa (h1.on (aQ w2 (.cells #[Value.int .i64 x.offset.op,Value.int .i64 x.offset.a,Value.int .i64 x.offset.b,Value.int .i64 x.offset.n,Value.slice o4 n4 k4,Value.slice o5 n5 k5,Value.slice o6 n6 k6,Value.slice o7 n7 k7] 61)));have jr:=aa (aQ w2 (.cells #[Value.int .i64 x.offset.op,Value.int .i64 x.offset.a,Value.int .i64 x.offset.b,Value.int .i64 x.offset.n,Value.slice o4 n4 k4,Value.slice o5 n5 k5,Value.slice o6 n6 k6,Value.slice o7 n7 k7] 61));have iA:Hid (w.heap.size<=w2.heap.size):=aa (eU HB.out.size h2.size);clear h1 h2 hk hup HU HO HS HB HK jm;obtain ⟨i0,hi,hz0,hz1,hz2⟩:=info_parts adK;go_wp2_with (first|(at_builtin;refine tO rfl _ _ 29 rfl w.heap.size 61 i0 _ 8 128 underlying29 hi hz0 hz1 hz2 rfl (by decide) _ _ _ rfl bC.out (some ⟨w2.heap.size,0,none⟩) 1 1 [Value.int .i64 x.offset.op,Value.int .i64 x.offset.a,Value.int .i64 x.offset.b,Value.int .i64 x.offset.n,Value.slice o4 n4 k4,Value.slice o5 n5 k5,Value.slice o6 n6 k6,Value.slice o7 n7 k7] rfl ?c6 ?c0 ?c1 ?c2 ?c3 ?c4 ?c5 ?_))
     case c6=>intro h;cases h
     case c0=>rfl
     case c1=>exact λad h=>by injection h with h;subst h;exact HN.out
     case c2 =>
      intro u hu;simp only [lI,List.mem_nil_iff,or_false] at hu;rcases hu with rfl|rfl|rfl|rfl|rfl|rfl|rfl|rfl
      all_goals rfl
     case c3=>unfold maxLen;omega
     case c4=>omega
     case c5=>have:=iA.out;simp;omega
     intro v9 w9 dO cE iz;have dP:∀q',(Value.slice oT q cT).ownBlock=some q'->w.heap.size<=q':=λq' hq'=>(bC.out.lt q' hq').1;have jZ:=aa (aM.out.grown cE (λq' hq'=>jg hpw (dP q' hq')));have jw:=aa (But.grown (p:=p) HB2.out cE dP);have kQ:Hid (w9.ownsRow w.heap.size 61 8 v9 (q+1) (kS (ps++[(x,[Value.int .i64 x.offset.op,Value.int .i64 x.offset.a,Value.int .i64 x.offset.b,Value.int .i64 x.offset.n,Value.slice o4 n4 k4,Value.slice o5 n5 k5,Value.slice o6 n6 k6,Value.slice o7 n7 k7])]))):=aa (by rw [yB];exact dO)
     have oC:Hid (∀y ∈ ps++[(x,[Value.int .i64 x.offset.op,Value.int .i64 x.offset.a,Value.int .i64 x.offset.b,Value.int .i64 x.offset.n,Value.slice o4 n4 k4,Value.slice o5 n5 k5,Value.slice o6 n6 k6,Value.slice o7 n7 k7])],K w9 (Since w.heap.size w9 v9.ownBlock) y.1 y.2):=aa (λy hy=>by
      have key:∀x vs,K w2 (Since w.heap.size w2 (Value.slice oT q cT).ownBlock) x vs->K w9 (Since w.heap.size w9 v9.ownBlock) x vs:=λx vs h=>hK _ _ _ _ (xh cE (by simpa using iz)) _ _ (hK _ _ _ _ (pO jr.out) _ _ h);rcases List.mem_append.1 hy with hy|hy
      ·exact key _ _ (bK.out y hy)
      rw [List.mem_singleton.1 hy];exact key _ _ jo.out)
     have qd:Hid (∀y ∈ ps++[(x,[Value.int .i64 x.offset.op,Value.int .i64 x.offset.a,Value.int .i64 x.offset.b,Value.int .i64 x.offset.n,Value.slice o4 n4 k4,Value.slice o5 n5 k5,Value.slice o6 n6 k6,Value.slice o7 n7 k7])],y.2.length=8):=aa (λy hy=>by
      rcases List.mem_append.1 hy with hy|hy
      ·exact HW.out y hy
      rw [List.mem_singleton.1 hy];rfl)
     have qg:Hid (R=pre ((ps++[(x,[Value.int .i64 x.offset.op,Value.int .i64 x.offset.a,Value.int .i64 x.offset.b,Value.int .i64 x.offset.n,Value.slice o4 n4 k4,Value.slice o5 n5 k5,Value.slice o6 n6 k6,Value.slice o7 n7 k7])]).map (·.1)) (rep rd (m-(q+1)) j2)):=aa (by rw [qw];exact HZ.out);have hsl:=rU dO;clear dO cE iz dP bC HN HB2 aM bK jo jr HZ HW;obtain ⟨oN,cN,rfl⟩:=hsl;go_wp2;go_roundw
     case rel=>exact ⟨q+1,ps++[(x,[Value.int .i64 x.offset.op,Value.int .i64 x.offset.a,Value.int .i64 x.offset.b,Value.int .i64 x.offset.n,Value.slice o4 n4 k4,Value.slice o5 n5 k5,Value.slice o6 n6 k6,Value.slice o7 n7 k7])],j2,by omega,by go_num,by simp [hl],⟨_,_,rfl⟩,qg,jZ,jw,qd,kQ,oC⟩
     case measure=>simp [intOf];omega
   obtain rfl:q=m:=by omega
   have HZ:Hid (R=.ok (ps.map (·.1),jq)):=aa (by rw [HP.out,Nat.sub_self];exact vN _ _ jq);have HV:Hid (aR 8 F wr (Since w.heap.size wr none) (.slice oT q cT) (ps.map (·.1))):=aa (row_of hK hF _ ps rfl (by rw [jS];omega) HW.out (by rw [hl];exact HO.out) HK.out);clear HP HO HK HW;go_wp2;go_ret;rw [HZ.out];exact ⟨⟨_,rfl,HV.out⟩,HS.out,HB.out⟩
namespace aI
def Rw {d:Nat} (K:EK (Dat d)) (B:Nat) (x:(Dat d)) (v:Value) (u:AG):Prop:=∃o4 n4 k4 o5 n5 k5 o6 n6 k6,v=.agg #[Value.int .i64 x.offset.op,Value.int .i64 x.offset.a,Value.int .i64 x.offset.b,Value.int .i64 x.offset.n,Value.slice o4 n4 k4,Value.slice o5 n5 k5,Value.slice o6 n6 k6,Value.string x.bytes]/\K u (Since B u none) x [Value.int .i64 x.offset.op,Value.int .i64 x.offset.a,Value.int .i64 x.offset.b,Value.int .i64 x.offset.n,Value.slice o4 n4 k4,Value.slice o5 n5 k5,Value.slice o6 n6 k6,Value.string x.bytes]
end aI
theorem adL:(prog.info? 63).map (λi=>(i.zero,i.size,i.bytes))=some (some (.agg #[.int .i64 0,.int .i64 0,.int .i64 0,.int .i64 0,.slice none 0 0,.slice none 0 0,.slice none 0 0,.string ByteArray.empty]),8,120):=by kernel_rfl
theorem Xa {d:Nat} (rd:Nat->R (Dat d)) (K:EK (Dat d)) (F:EA (Dat d)) (hK:qA K) (hF:iE 63 K F) (w0:AG) (p:Nat) (s:AH) (c:Nat->Value) (en k i n:Nat) (w:AG) (h:RS w0 p s c en k i n w)
  (HE:∀j u,RS w0 p s c en k j n u->Calls prog 88 #[.pointer (some ⟨p,0,none⟩)] u (cz w0 p s c en k n (Rw K u.heap.size) u (rd j))) :
  Calls prog 87 #[.pointer (some ⟨p,0,none⟩),.func (.func 88) #[.pointer (some ⟨p,0,none⟩)] #[]] w (cz w0 p s c en k n (λl v u=>aR 8 F u (Since w.heap.size u none) v l) w (bB rd s en i)):=by
 have HC:=aa (tN w0 p s c en k i n w h);have HE:=aa HE;have hpw:=h.lt;have hlen:=h.len;clear h;unfold bB;cases hx:rc s en i with
 | error z =>
  rw [hx] at HC;rw [bW];clear hx;go_enter func87,ntmps87;go_wp2_with fail;refine HC.out.mono ?_;rintro e w1 ⟨rfl,hb⟩;exact ⟨rfl,rfl,hb⟩
 | ok v =>
  obtain ⟨x,j⟩:=v;have hrc:=rW hlen hx;rw [hx] at HC;rw [aK];obtain ⟨m,rfl⟩:∃m:Nat,x=(m:Int):=⟨x.toNat,by omega⟩;have hm:m<=4096:=by omega
  rw [show ((m:Int).toNat)=m by omega];obtain ⟨R,hR⟩:∃R,R=rep rd m j:=⟨_,rfl⟩;rw [<- hR];have HR:=aa hR;clear hx hrc hR hlen;go_enter func87,ntmps87;go_wp2_with fail;refine HC.out.mono ?_;rintro e w1 ⟨⟨v,rfl,hv⟩,h1,h2⟩;have hv:v=.int .i64 m:=hv;subst hv;have H1:=aa h1;have H2:=aa h2;clear h1 h2 HC;go_wp2_with fail;go_loopw [5,8] (λt u wr=>∃(q:Nat) (ps:List (Pe (Dat d))) (jq:Nat),q<=m/\u=.int .i64 q/\ps.length=q/\(∃o c,t=.slice o q c)/\Hid (R=pre (ps.map (·.1)) (rep rd (m-q) jq))/\Hid (RS w0 p s c en k jq n wr)/\Hid (But p w wr)/\Hid (∀y ∈ ps,y.2.length=8)/\Hid (wr.ownsRow w.heap.size 63 8 t q (kS ps))/\Hid (∀y ∈ ps,K wr (Since w.heap.size wr t.ownBlock) y.1 y.2)) (λ_ u _=>m-(intOf u).toNat)
  case atStart=>exact ⟨0,[],j,by omega,rfl,rfl,⟨none,0,rfl⟩,aa (by rw [HR.out];exact (pre_nil _).symm),H1,H2,aa (λy hy=>by cases hy),aa (World.ownsRow_nil _ _ _ _),aa (λy hy=>by cases hy)⟩
  case round =>
   obtain ⟨q,ps,jq,hq,rfl,hl,⟨oT,cT,rfl⟩,HP,HS,HB,HW,HO,HK⟩:=hrel;by_cases hgo:q<m
   ·have hU:=HE.out jq wr HS.out;obtain ⟨r,hr⟩:∃r,m-q=r+1:=⟨m-q-1,by omega⟩;cases hu:rd jq with
    | error z =>
     rw [hu] at hU;have HU:=aa hU;have HZ:Hid (R=.error z):=aa (by rw [HP.out,hr];exact vM _ _ r jq z hu);clear hU hu HP HO HK HW;go_wp2_with fail;refine HU.out.mono ?_;rintro e w2 ⟨rfl,hb⟩;exact ⟨rfl,by rw [HZ.out];exact ⟨rfl,hb⟩⟩
    | ok v =>
     obtain ⟨x,j2⟩:=v;rw [hu] at hU;have HU:=aa hU;have HZ:Hid (R=pre (ps.map (·.1)++[x]) (rep rd (m-(q+1)) j2)):=aa (by rw [HP.out,hr,pre_on _ _ r jq x j2 hu,show m-(q+1)=r by omega]);clear hU hu HP;go_wp2_with fail;refine HU.out.mono ?_;rintro e w2 ⟨⟨v,rfl,hv⟩,h1,h2⟩;obtain ⟨o4,n4,k4,o5,n5,k5,o6,n6,k6,rfl,hk⟩:=hv;have jm:Hid (∀q',(Value.slice oT q cT).ownBlock=some q'->w.heap.size<=q'/\q'<wr.heap.size):=aa (λq' hq'=>HO.out.lt q' hq');have hup:=xz (B:=w.heap.size) (B2:=wr.heap.size) (u:=w2) (row:=(Value.slice oT q cT).ownBlock) HB.out.size (λq' hq'=>(jm.out q' hq').2);have jo:Hid (K w2 (Since w.heap.size w2 (Value.slice oT q cT).ownBlock) x [Value.int .i64 x.offset.op,Value.int .i64 x.offset.a,Value.int .i64 x.offset.b,Value.int .i64 x.offset.n,Value.slice o4 n4 k4,Value.slice o5 n5 k5,Value.slice o6 n6 k6,Value.string x.bytes]):=aa (hK _ _ _ _ hup _ _ hk);have bC:=aa ((qV HO.out hpw h2).alloc (.cells #[Value.int .i64 x.offset.op,Value.int .i64 x.offset.a,Value.int .i64 x.offset.b,Value.int .i64 x.offset.n,Value.slice o4 n4 k4,Value.slice o5 n5 k5,Value.slice o6 n6 k6,Value.string x.bytes] 63));have HN:=aa (yC w2 [Value.int .i64 x.offset.op,Value.int .i64 x.offset.a,Value.int .i64 x.offset.b,Value.int .i64 x.offset.n,Value.slice o4 n4 k4,Value.slice o5 n5 k5,Value.slice o6 n6 k6,Value.string x.bytes] 63);have bK:=aa (λy hy=>hK _ _ _ _ (wC hpw h2) _ _ (HK.out y hy));have HB2:=aa ((HB.out.trans h2).trans (But.of p (aQ w2 (.cells #[Value.int .i64 x.offset.op,Value.int .i64 x.offset.a,Value.int .i64 x.offset.b,Value.int .i64 x.offset.n,Value.slice o4 n4 k4,Value.slice o5 n5 k5,Value.slice o6 n6 k6,Value.string x.bytes] 63))));have aM:=aa (h1.on (aQ w2 (.cells #[Value.int .i64 x.offset.op,Value.int .i64 x.offset.a,Value.int .i64 x.offset.b,Value.int .i64 x.offset.n,Value.slice o4 n4 k4,Value.slice o5 n5 k5,Value.slice o6 n6 k6,Value.string x.bytes] 63)));have jr:=aa (aQ w2 (.cells #[Value.int .i64 x.offset.op,Value.int .i64 x.offset.a,Value.int .i64 x.offset.b,Value.int .i64 x.offset.n,Value.slice o4 n4 k4,Value.slice o5 n5 k5,Value.slice o6 n6 k6,Value.string x.bytes] 63));have iA:Hid (w.heap.size<=w2.heap.size):=aa (eU HB.out.size h2.size);clear h1 h2 hk hup HU HO HS HB HK jm;obtain ⟨i0,hi,hz0,hz1,hz2⟩:=info_parts adL;go_wp2_with (first|(at_builtin;refine tO rfl _ _ 30 rfl w.heap.size 63 i0 _ 8 120 underlying30 hi hz0 hz1 hz2 rfl (by decide) _ _ _ rfl bC.out (some ⟨w2.heap.size,0,none⟩) 1 1 [Value.int .i64 x.offset.op,Value.int .i64 x.offset.a,Value.int .i64 x.offset.b,Value.int .i64 x.offset.n,Value.slice o4 n4 k4,Value.slice o5 n5 k5,Value.slice o6 n6 k6,Value.string x.bytes] rfl ?c6 ?c0 ?c1 ?c2 ?c3 ?c4 ?c5 ?_))
     case c6=>intro h;cases h
     case c0=>rfl
     case c1=>exact λad h=>by injection h with h;subst h;exact HN.out
     case c2 =>
      intro u hu;simp only [lI,List.mem_nil_iff,or_false] at hu;rcases hu with rfl|rfl|rfl|rfl|rfl|rfl|rfl|rfl
      all_goals rfl
     case c3=>unfold maxLen;omega
     case c4=>omega
     case c5=>have:=iA.out;simp;omega
     intro v9 w9 dO cE iz;have dP:∀q',(Value.slice oT q cT).ownBlock=some q'->w.heap.size<=q':=λq' hq'=>(bC.out.lt q' hq').1;have jZ:=aa (aM.out.grown cE (λq' hq'=>jg hpw (dP q' hq')));have jw:=aa (But.grown (p:=p) HB2.out cE dP);have kQ:Hid (w9.ownsRow w.heap.size 63 8 v9 (q+1) (kS (ps++[(x,[Value.int .i64 x.offset.op,Value.int .i64 x.offset.a,Value.int .i64 x.offset.b,Value.int .i64 x.offset.n,Value.slice o4 n4 k4,Value.slice o5 n5 k5,Value.slice o6 n6 k6,Value.string x.bytes])]))):=aa (by rw [yB];exact dO)
     have oC:Hid (∀y ∈ ps++[(x,[Value.int .i64 x.offset.op,Value.int .i64 x.offset.a,Value.int .i64 x.offset.b,Value.int .i64 x.offset.n,Value.slice o4 n4 k4,Value.slice o5 n5 k5,Value.slice o6 n6 k6,Value.string x.bytes])],K w9 (Since w.heap.size w9 v9.ownBlock) y.1 y.2):=aa (λy hy=>by
      have key:∀x vs,K w2 (Since w.heap.size w2 (Value.slice oT q cT).ownBlock) x vs->K w9 (Since w.heap.size w9 v9.ownBlock) x vs:=λx vs h=>hK _ _ _ _ (xh cE (by simpa using iz)) _ _ (hK _ _ _ _ (pO jr.out) _ _ h);rcases List.mem_append.1 hy with hy|hy
      ·exact key _ _ (bK.out y hy)
      rw [List.mem_singleton.1 hy];exact key _ _ jo.out)
     have qd:Hid (∀y ∈ ps++[(x,[Value.int .i64 x.offset.op,Value.int .i64 x.offset.a,Value.int .i64 x.offset.b,Value.int .i64 x.offset.n,Value.slice o4 n4 k4,Value.slice o5 n5 k5,Value.slice o6 n6 k6,Value.string x.bytes])],y.2.length=8):=aa (λy hy=>by
      rcases List.mem_append.1 hy with hy|hy
      ·exact HW.out y hy
      rw [List.mem_singleton.1 hy];rfl)
     have qg:Hid (R=pre ((ps++[(x,[Value.int .i64 x.offset.op,Value.int .i64 x.offset.a,Value.int .i64 x.offset.b,Value.int .i64 x.offset.n,Value.slice o4 n4 k4,Value.slice o5 n5 k5,Value.slice o6 n6 k6,Value.string x.bytes])]).map (·.1)) (rep rd (m-(q+1)) j2)):=aa (by rw [qw];exact HZ.out);have hsl:=rU dO;clear dO cE iz dP bC HN HB2 aM bK jo jr HZ HW;obtain ⟨oN,cN,rfl⟩:=hsl;go_wp2;go_roundw
     case rel=>exact ⟨q+1,ps++[(x,[Value.int .i64 x.offset.op,Value.int .i64 x.offset.a,Value.int .i64 x.offset.b,Value.int .i64 x.offset.n,Value.slice o4 n4 k4,Value.slice o5 n5 k5,Value.slice o6 n6 k6,Value.string x.bytes])],j2,by omega,by go_num,by simp [hl],⟨_,_,rfl⟩,qg,jZ,jw,qd,kQ,oC⟩
     case measure=>simp [intOf];omega
   obtain rfl:q=m:=by omega
   have HZ:Hid (R=.ok (ps.map (·.1),jq)):=aa (by rw [HP.out,Nat.sub_self];exact vN _ _ jq);have HV:Hid (aR 8 F wr (Since w.heap.size wr none) (.slice oT q cT) (ps.map (·.1))):=aa (row_of hK hF _ ps rfl (by rw [jS];omega) HW.out (by rw [hl];exact HO.out) HK.out);clear HP HO HK HW;go_wp2;go_ret;rw [HZ.out];exact ⟨⟨_,rfl,HV.out⟩,HS.out,HB.out⟩
namespace aI
def RV (K:EK FT) (B:Nat) (x:FT) (v:Value) (u:AG):Prop:=∃o1 n1 k1 o2 n2 k2,v=.agg #[Value.slice o1 n1 k1,Value.slice o2 n2 k2]/\K u (Since B u none) x [Value.slice o1 n1 k1,Value.slice o2 n2 k2]
end aI
theorem adM:(prog.info? 57).map (λi=>(i.zero,i.size,i.bytes))=some (some (.agg #[.slice none 0 0,.slice none 0 0]),2,48):=by kernel_rfl
theorem WS (rd:Nat->R FT) (K:EK FT) (F:EA FT) (hK:qA K) (hF:iE 57 K F) (w0:AG) (p:Nat) (s:AH) (c:Nat->Value) (en k i n:Nat) (w:AG) (h:RS w0 p s c en k i n w)
  (HE:∀j u,RS w0 p s c en k j n u->Calls prog 72 #[.pointer (some ⟨p,0,none⟩)] u (cz w0 p s c en k n (RV K u.heap.size) u (rd j))) :
  Calls prog 71 #[.pointer (some ⟨p,0,none⟩),.func (.func 72) #[.pointer (some ⟨p,0,none⟩)] #[]] w (cz w0 p s c en k n (λl v u=>aR 2 F u (Since w.heap.size u none) v l) w (bB rd s en i)):=by
 have HC:=aa (tN w0 p s c en k i n w h);have HE:=aa HE;have hpw:=h.lt;have hlen:=h.len;clear h;unfold bB;cases hx:rc s en i with
 | error z =>
  rw [hx] at HC;rw [bW];clear hx;go_enter func71,ntmps71;go_wp2_with fail;refine HC.out.mono ?_;rintro e w1 ⟨rfl,hb⟩;exact ⟨rfl,rfl,hb⟩
 | ok v =>
  obtain ⟨x,j⟩:=v;have hrc:=rW hlen hx;rw [hx] at HC;rw [aK];obtain ⟨m,rfl⟩:∃m:Nat,x=(m:Int):=⟨x.toNat,by omega⟩;have hm:m<=4096:=by omega
  rw [show ((m:Int).toNat)=m by omega];obtain ⟨R,hR⟩:∃R,R=rep rd m j:=⟨_,rfl⟩;rw [<- hR];have HR:=aa hR;clear hx hrc hR hlen;go_enter func71,ntmps71;go_wp2_with fail;refine HC.out.mono ?_;rintro e w1 ⟨⟨v,rfl,hv⟩,h1,h2⟩;have hv:v=.int .i64 m:=hv;subst hv;have H1:=aa h1;have H2:=aa h2;clear h1 h2 HC;go_wp2_with fail;go_loopw [5,8] (λt u wr=>∃(q:Nat) (ps:List (Pe FT)) (jq:Nat),q<=m/\u=.int .i64 q/\ps.length=q/\(∃o c,t=.slice o q c)/\Hid (R=pre (ps.map (·.1)) (rep rd (m-q) jq))/\Hid (RS w0 p s c en k jq n wr)/\Hid (But p w wr)/\Hid (∀y ∈ ps,y.2.length=2)/\Hid (wr.ownsRow w.heap.size 57 2 t q (kS ps))/\Hid (∀y ∈ ps,K wr (Since w.heap.size wr t.ownBlock) y.1 y.2)) (λ_ u _=>m-(intOf u).toNat)
  case atStart=>exact ⟨0,[],j,by omega,rfl,rfl,⟨none,0,rfl⟩,aa (by rw [HR.out];exact (pre_nil _).symm),H1,H2,aa (λy hy=>by cases hy),aa (World.ownsRow_nil _ _ _ _),aa (λy hy=>by cases hy)⟩
  case round =>
   obtain ⟨q,ps,jq,hq,rfl,hl,⟨oT,cT,rfl⟩,HP,HS,HB,HW,HO,HK⟩:=hrel;by_cases hgo:q<m
   ·have hU:=HE.out jq wr HS.out;obtain ⟨r,hr⟩:∃r,m-q=r+1:=⟨m-q-1,by omega⟩;cases hu:rd jq with
    | error z =>
     rw [hu] at hU;have HU:=aa hU;have HZ:Hid (R=.error z):=aa (by rw [HP.out,hr];exact vM _ _ r jq z hu);clear hU hu HP HO HK HW;go_wp2_with fail;refine HU.out.mono ?_;rintro e w2 ⟨rfl,hb⟩;exact ⟨rfl,by rw [HZ.out];exact ⟨rfl,hb⟩⟩
    | ok v =>
     obtain ⟨x,j2⟩:=v;rw [hu] at hU;have HU:=aa hU;have HZ:Hid (R=pre (ps.map (·.1)++[x]) (rep rd (m-(q+1)) j2)):=aa (by rw [HP.out,hr,pre_on _ _ r jq x j2 hu,show m-(q+1)=r by omega]);clear hU hu HP;go_wp2_with fail;refine HU.out.mono ?_;rintro e w2 ⟨⟨v,rfl,hv⟩,h1,h2⟩;obtain ⟨o1,n1,k1,o2,n2,k2,rfl,hk⟩:=hv;have jm:Hid (∀q',(Value.slice oT q cT).ownBlock=some q'->w.heap.size<=q'/\q'<wr.heap.size):=aa (λq' hq'=>HO.out.lt q' hq');have hup:=xz (B:=w.heap.size) (B2:=wr.heap.size) (u:=w2) (row:=(Value.slice oT q cT).ownBlock) HB.out.size (λq' hq'=>(jm.out q' hq').2);have jo:Hid (K w2 (Since w.heap.size w2 (Value.slice oT q cT).ownBlock) x [Value.slice o1 n1 k1,Value.slice o2 n2 k2]):=aa (hK _ _ _ _ hup _ _ hk);have bC:=aa ((qV HO.out hpw h2).alloc (.cells #[Value.slice o1 n1 k1,Value.slice o2 n2 k2] 57));have HN:=aa (yC w2 [Value.slice o1 n1 k1,Value.slice o2 n2 k2] 57);have bK:=aa (λy hy=>hK _ _ _ _ (wC hpw h2) _ _ (HK.out y hy));have HB2:=aa ((HB.out.trans h2).trans (But.of p (aQ w2 (.cells #[Value.slice o1 n1 k1,Value.slice o2 n2 k2] 57))));have aM:=aa (h1.on (aQ w2 (.cells #[Value.slice o1 n1 k1,Value.slice o2 n2 k2] 57)));have jr:=aa (aQ w2 (.cells #[Value.slice o1 n1 k1,Value.slice o2 n2 k2] 57));have iA:Hid (w.heap.size<=w2.heap.size):=aa (eU HB.out.size h2.size);clear h1 h2 hk hup HU HO HS HB HK jm;obtain ⟨i0,hi,hz0,hz1,hz2⟩:=info_parts adM;go_wp2_with (first|(at_builtin;refine tO rfl _ _ 22 rfl w.heap.size 57 i0 _ 2 48 underlying22 hi hz0 hz1 hz2 rfl (by decide) _ _ _ rfl bC.out (some ⟨w2.heap.size,0,none⟩) 1 1 [Value.slice o1 n1 k1,Value.slice o2 n2 k2] rfl ?c6 ?c0 ?c1 ?c2 ?c3 ?c4 ?c5 ?_))
     case c6=>intro h;cases h
     case c0=>rfl
     case c1=>exact λad h=>by injection h with h;subst h;exact HN.out
     case c2 =>
      intro u hu;simp only [lI,List.mem_nil_iff,or_false] at hu;rcases hu with rfl|rfl
      all_goals rfl
     case c3=>unfold maxLen;omega
     case c4=>omega
     case c5=>have:=iA.out;simp;omega
     intro v9 w9 dO cE iz;have dP:∀q',(Value.slice oT q cT).ownBlock=some q'->w.heap.size<=q':=λq' hq'=>(bC.out.lt q' hq').1;have jZ:=aa (aM.out.grown cE (λq' hq'=>jg hpw (dP q' hq')));have jw:=aa (But.grown (p:=p) HB2.out cE dP);have kQ:Hid (w9.ownsRow w.heap.size 57 2 v9 (q+1) (kS (ps++[(x,[Value.slice o1 n1 k1,Value.slice o2 n2 k2])]))):=aa (by rw [yB];exact dO)
     have oC:Hid (∀y ∈ ps++[(x,[Value.slice o1 n1 k1,Value.slice o2 n2 k2])],K w9 (Since w.heap.size w9 v9.ownBlock) y.1 y.2):=aa (λy hy=>by
      have key:∀x vs,K w2 (Since w.heap.size w2 (Value.slice oT q cT).ownBlock) x vs->K w9 (Since w.heap.size w9 v9.ownBlock) x vs:=λx vs h=>hK _ _ _ _ (xh cE (by simpa using iz)) _ _ (hK _ _ _ _ (pO jr.out) _ _ h);rcases List.mem_append.1 hy with hy|hy
      ·exact key _ _ (bK.out y hy)
      rw [List.mem_singleton.1 hy];exact key _ _ jo.out)
     have qd:Hid (∀y ∈ ps++[(x,[Value.slice o1 n1 k1,Value.slice o2 n2 k2])],y.2.length=2):=aa (λy hy=>by
      rcases List.mem_append.1 hy with hy|hy
      ·exact HW.out y hy
      rw [List.mem_singleton.1 hy];rfl)
     have qg:Hid (R=pre ((ps++[(x,[Value.slice o1 n1 k1,Value.slice o2 n2 k2])]).map (·.1)) (rep rd (m-(q+1)) j2)):=aa (by rw [qw];exact HZ.out);have hsl:=rU dO;clear dO cE iz dP bC HN HB2 aM bK jo jr HZ HW;obtain ⟨oN,cN,rfl⟩:=hsl;go_wp2;go_roundw
     case rel=>exact ⟨q+1,ps++[(x,[Value.slice o1 n1 k1,Value.slice o2 n2 k2])],j2,by omega,by go_num,by simp [hl],⟨_,_,rfl⟩,qg,jZ,jw,qd,kQ,oC⟩
     case measure=>simp [intOf];omega
   obtain rfl:q=m:=by omega
   have HZ:Hid (R=.ok (ps.map (·.1),jq)):=aa (by rw [HP.out,Nat.sub_self];exact vN _ _ jq);have HV:Hid (aR 2 F wr (Since w.heap.size wr none) (.slice oT q cT) (ps.map (·.1))):=aa (row_of hK hF _ ps rfl (by rw [jS];omega) HW.out (by rw [hl];exact HO.out) HK.out);clear HP HO HK HW;go_wp2;go_ret;rw [HZ.out];exact ⟨⟨_,rfl,HV.out⟩,HS.out,HB.out⟩
end Go.Proofs.YtcfifbgemfladaaGreatDoor

/- Texts that the claim needs. -/
import Derived.Test.YtegboefdolfdgaaGreatDoorQDM12
import Derived.Test.YtegboefdolfdgaaGreatDoorQDM15
namespace Go.Proofs.YtegboefdolfdgaaGreatDoor
open Go.RowKit aA ai
set_option linter.unusedVariables false
set_option maxRecDepth 100000
set_option maxHeartbeats 8000000
namespace ai
abbrev Pe (α:Type):=α × List Value
def fI {α:Type} (ps:List (Pe α)):List Value:=ps.flatMap (·.2)
theorem qH {α:Type} (ps:List (Pe α)) (q:Pe α):fI (ps++[q])=fI ps++q.2:=by unfold fI;rw [List.flatMap_append];simp
theorem Kw {α:Type} {n:Nat}:∀(ps:List (Pe α)),(∀q ∈ ps,q.2.length=n)->∀(i:Nat) (q:Pe α),ps[i]?=some q->∀k v,q.2[k]?=some v->(fI ps)[i*n+k]?=some v
 | [],_,_,_,h,_,_,_=>by simp at h
 | q0 :: r,hl,0,q,h,k,v,hv=>by
  have:q0=q:=by simpa using h
  subst this;show (q0.2++fI r)[0*n+k]?=some v;have hk:k<q0.2.length:=(List.getElem?_eq_some_iff.1 hv).1;rw [Nat.zero_mul,Nat.zero_add,List.getElem?_append_left hk];exact hv
 | q0 :: r,hl,i+1,q,h,k,v,hv=>by
  have h':r[i]?=some q:=by simpa using h
  have h0:q0.2.length=n:=hl q0 (by simp);show (q0.2++fI r)[(i+1)*n+k]?=some v;have e:(i+1)*n+k=n+(i*n+k):=by rw [Nat.succ_mul];omega
  rw [e,List.getElem?_append_right (by rw [h0];omega),h0,Nat.add_sub_cancel_left];exact Kw r (fun q hq=>hl q (by simp [hq])) i q h' k v hv
abbrev EK (α:Type):=World->(Nat->Prop)->α->List Value->Prop
def dH {α:Type} (K:EK α):Prop:=∀(w w':World) (S S':Nat->Prop),(∀k,S k->S' k/\w'.heap[k]?=w.heap[k]?)->∀x vs,K w S x vs->K w' S' x vs
abbrev EA (α:Type):=World->(Nat->Prop)->Nat->Nat->α->Prop
def jT {α:Type} (e:TypeId) (K:EK α) (F:EA α):Prop:=∀(w:World) (S:Nat->Prop) (g o:Nat) x vs,K w S x vs->(∃cur,w.heap[g]?=some (.cells cur e (0,0)))->(∀k v,vs[k]?=some v->w.cell? ⟨g,o+k,none⟩=some v)->F w S g o x
def aI {α:Type} (n:Nat) (F:EA α) (w:World) (S:Nat->Prop) (v:Value) (l:List α):Prop:=Row n (fun b o x=>S b/\F w S b o x) v l
theorem row_of {α:Type} {K:EK α} {F:EA α} {e:TypeId} (hK:dH K) (hF:jT e K F) {w:World} {B n:Nat} {t:Value} (l:List α) (ps:List (Pe α)) (hm:ps.map (·.1)=l) (hn:l.length<=9223372036854775807) (hw:∀q ∈ ps,q.2.length=n) (ho:w.ownsRow B e n t ps.length (fI ps)) (hp:∀q ∈ ps,K w (Since B w t.ownBlock) q.1 q.2) :
  aI n F w (Since B w none) t l:=by
 have hlen:ps.length=l.length:=by rw [<- hm,List.length_map]
 have hup:∀k,Since B w t.ownBlock k->Since B w none k/\w.heap[k]?=w.heap[k]?:=fun k hk=>⟨⟨hk.1,hk.2.1,by simp⟩,rfl⟩;rcases ho.2 with ⟨rfl,h0⟩|⟨g,cap,cur,rfl,hbg,hg,_,_,_,_⟩
 ·have:l = []:=List.length_eq_zero_iff.1 (by omega)
  subst this;exact ⟨by simp,.inl ⟨rfl,none,0,rfl⟩⟩
 ·have hgl:g<w.heap.size:=(Array.getElem?_eq_some_iff.1 hg).1;refine ⟨hn,.inr ⟨g,0,cap,by rw [hlen],fun i x hx=>?_⟩⟩;have hi:i<ps.length:=by rw [hlen];exact (List.getElem?_eq_some_iff.1 hx).1
  obtain ⟨q,hpi⟩:∃q,ps[i]?=some q:=⟨_,List.getElem?_eq_getElem hi⟩
  have hpx:q.1=x:=by
   have:(ps.map (·.1))[i]?=some q.1:=by rw [List.getElem?_map,hpi];rfl
   rw [hm,hx] at this;exact (Option.some.inj this).symm
  subst hpx;refine ⟨⟨hbg,hgl,by simp⟩,hF w _ g _ q.1 q.2 (hK _ _ _ _ hup _ _ (hp q (List.mem_of_getElem? hpi))) ⟨cur,hg⟩ fun k v hv=>?_⟩
  have:=ho.cells (g:=g) rfl (i*n+k) v (Kw ps hw i q hpi k v hv)
  rw [ry] at this;rw [Nat.add_assoc];exact this
theorem qh (w:World) (vs:List Value) (t:TypeId):∀(j:Nat) (u:Value),vs[j]?=some u->(w.alloc (.cells vs.toArray t)).cell? ((⟨w.heap.size,0,none⟩:Addr).add j)=some u:=fun j u hj=>by
 rw [ry,World.cell?_alloc_at _ t _ _ rfl,Nat.zero_add];simpa using hj
def aV {α:Type} (f:Nat->R α) (s:ByteArray) (en i:Nat):R (List α):=bd (rc s en i) fun n j=>rep f n.toNat j
end ai
namespace ai
def J7 (K:EK lM) (B:Nat) (x:lM) (v:Value) (u:World):Prop:=v=.agg #[Value.string x.name,Value.int .i64 x.kind,Value.int .i64 x.index]/\K u (Since B u none) x [Value.string x.name,Value.int .i64 x.kind,Value.int .i64 x.index]
end ai
theorem Ky:(Tryz.prog.info? 78).map (fun i=>(i.zero,i.size,i.bytes))=some (some (.agg #[.string ByteArray.empty,.int .i64 0,.int .i64 0]),3,32):=by kernel_rfl
theorem Om (rd:Nat->R lM) (K:EK lM) (F:EA lM) (hK:dH K) (hF:jT 78 K F) (w0:World) (p:Nat) (s:ByteArray) (c:Nat->Value) (en k i n:Nat) (w:World) (h:RS w0 p s c en k i n w)
  (HE:∀j u,RS w0 p s c en k j n u->Calls Tryz.prog 49 #[.pointer (some ⟨p,0,none⟩)] u (bw w0 p s c en k n (J7 K u.heap.size) u (rd j))) :
  Calls Tryz.prog 48 #[.pointer (some ⟨p,0,none⟩),.func (.func 49) #[.pointer (some ⟨p,0,none⟩)] #[]] w (bw w0 p s c en k n (fun l v u=>aI 3 F u (Since w.heap.size u none) v l) w (aV rd s en i)):=by
 have HC:=aa (nQ w0 p s c en k i n w h);have HE:=aa HE;have hpw:=h.lt;have hlen:=h.len;clear h;unfold aV;cases hx:rc s en i with
 | error z =>
  rw [hx] at HC;rw [bg];clear hx;go_enter Tryz.func48,Tryz.ntmps48;go_wp2_with fail;refine HC.out.mono ?_;rintro e w1 ⟨rfl,hb⟩;exact ⟨rfl,rfl,hb⟩
 | ok v =>
  obtain ⟨x,j⟩:=v;have hrc:=jl hlen hx;rw [hx] at HC;rw [aM];obtain ⟨m,rfl⟩:∃m:Nat,x=(m:Int):=⟨x.toNat,by omega⟩;have hm:m<=4096:=by omega
  rw [show ((m:Int).toNat)=m by omega];obtain ⟨R,hR⟩:∃R,R=rep rd m j:=⟨_,rfl⟩;rw [<- hR];have HR:=aa hR;clear hx hrc hR hlen;go_enter Tryz.func48,Tryz.ntmps48;go_wp2_with fail;refine HC.out.mono ?_;rintro e w1 ⟨⟨v,rfl,hv⟩,h1,h2⟩;have hv:v=.int .i64 m:=hv;subst hv;have H1:=aa h1;have H2:=aa h2;clear h1 h2 HC;go_wp2_with fail;go_loopw [5,8] (fun t u wr=>∃(q:Nat) (ps:List (Pe lM)) (jq:Nat),q<=m/\u=.int .i64 q/\ps.length=q/\(∃o c,t=.slice o q c)/\Hid (R=pre (ps.map (·.1)) (rep rd (m-q) jq))/\Hid (RS w0 p s c en k jq n wr)/\Hid (But p w wr)/\Hid (∀y ∈ ps,y.2.length=3)/\Hid (wr.ownsRow w.heap.size 78 3 t q (fI ps))/\Hid (∀y ∈ ps,K wr (Since w.heap.size wr t.ownBlock) y.1 y.2)) (fun _ u _=>m-(intOf u).toNat)
  case atStart=>exact ⟨0,[],j,by omega,rfl,rfl,⟨none,0,rfl⟩,aa (by rw [HR.out];exact (pre_nil _).symm),H1,H2,aa (fun y hy=>by cases hy),aa (World.ownsRow_nil _ _ _ _),aa (fun y hy=>by cases hy)⟩
  case round =>
   obtain ⟨q,ps,jq,hq,rfl,hl,⟨oT,cT,rfl⟩,HP,HS,HB,HW,HO,HK⟩:=hrel;by_cases hgo:q<m
   ·have hU:=HE.out jq wr HS.out;obtain ⟨r,hr⟩:∃r,m-q=r+1:=⟨m-q-1,by omega⟩;cases hu:rd jq with
    | error z =>
     rw [hu] at hU;have HU:=aa hU;have HZ:Hid (R=.error z):=aa (by rw [HP.out,hr];exact mS _ _ r jq z hu);clear hU hu HP HO HK HW;go_wp2_with fail;refine HU.out.mono ?_;rintro e w2 ⟨rfl,hb⟩;exact ⟨rfl,by rw [HZ.out];exact ⟨rfl,hb⟩⟩
    | ok v =>
     obtain ⟨x,j2⟩:=v;rw [hu] at hU;have HU:=aa hU;have HZ:Hid (R=pre (ps.map (·.1)++[x]) (rep rd (m-(q+1)) j2)):=aa (by rw [HP.out,hr,pre_on _ _ r jq x j2 hu,show m-(q+1)=r by omega]);clear hU hu HP;go_wp2_with fail;refine HU.out.mono ?_;rintro e w2 ⟨⟨v,rfl,hv⟩,h1,h2⟩;obtain ⟨rfl,hk⟩:=hv;have eY:Hid (∀q',(Value.slice oT q cT).ownBlock=some q'->w.heap.size<=q'/\q'<wr.heap.size):=aa (fun q' hq'=>HO.out.lt q' hq');have hup:=kG (B:=w.heap.size) (B2:=wr.heap.size) (u:=w2) (row:=(Value.slice oT q cT).ownBlock) HB.out.size (fun q' hq'=>(eY.out q' hq').2);have dJ:Hid (K w2 (Since w.heap.size w2 (Value.slice oT q cT).ownBlock) x [Value.string x.name,Value.int .i64 x.kind,Value.int .i64 x.index]):=aa (hK _ _ _ _ hup _ _ hk);have aU:=aa ((fA HO.out hpw h2).alloc (.cells #[Value.string x.name,Value.int .i64 x.kind,Value.int .i64 x.index] 78));have HN:=aa (qh w2 [Value.string x.name,Value.int .i64 x.kind,Value.int .i64 x.index] 78);have dh:=aa (fun y hy=>hK _ _ _ _ (jQ hpw h2) _ _ (HK.out y hy));have HB2:=aa ((HB.out.trans h2).trans (But.of p (aD w2 (.cells #[Value.string x.name,Value.int .i64 x.kind,Value.int .i64 x.index] 78))));have az:=aa (h1.on (aD w2 (.cells #[Value.string x.name,Value.int .i64 x.kind,Value.int .i64 x.index] 78)));have bh:=aa (aD w2 (.cells #[Value.string x.name,Value.int .i64 x.kind,Value.int .i64 x.index] 78));have bY:Hid (w.heap.size<=w2.heap.size):=aa (Nat.le_trans HB.out.size h2.size);clear h1 h2 hk hup HU HO HS HB HK eY;obtain ⟨i0,hi,hz0,hz1,hz2⟩:=info_parts Ky;go_wp2_with (first|(at_builtin;refine iN rfl _ _ 28 rfl w.heap.size 78 i0 _ 3 32 Tryz.underlying28 hi hz0 hz1 hz2 rfl (by decide) _ _ _ rfl aU.out (some ⟨w2.heap.size,0,none⟩) 1 1 [Value.string x.name,Value.int .i64 x.kind,Value.int .i64 x.index] rfl ?c6 ?c0 ?c1 ?c2 ?c3 ?c4 ?c5 ?_))
     case c6=>intro h;cases h
     case c0=>rfl
     case c1=>exact fun ad h=>by injection h with h;subst h;exact HN.out
     case c2 =>
      intro u hu;simp only [List.mem_cons,List.mem_nil_iff,or_false] at hu;rcases hu with rfl|rfl|rfl
      all_goals rfl
     case c3=>unfold maxLen;omega
     case c4=>omega
     case c5=>have:=bY.out;simp;omega
     intro v9 w9 aW aP aN;have aS:∀q',(Value.slice oT q cT).ownBlock=some q'->w.heap.size<=q':=fun q' hq'=>(aU.out.lt q' hq').1;have bP:=aa (az.out.grown aP (fun q' hq'=>Nat.lt_of_lt_of_le hpw (aS q' hq')));have cG:=aa (But.grown (p:=p) HB2.out aP aS);have dF:Hid (w9.ownsRow w.heap.size 78 3 v9 (q+1) (fI (ps++[(x,[Value.string x.name,Value.int .i64 x.kind,Value.int .i64 x.index])]))):=aa (by rw [qH];exact aW)
     have jf:Hid (∀y ∈ ps++[(x,[Value.string x.name,Value.int .i64 x.kind,Value.int .i64 x.index])],K w9 (Since w.heap.size w9 v9.ownBlock) y.1 y.2):=aa (fun y hy=>by
      have key:∀x vs,K w2 (Since w.heap.size w2 (Value.slice oT q cT).ownBlock) x vs->K w9 (Since w.heap.size w9 v9.ownBlock) x vs:=fun x vs h=>hK _ _ _ _ (oC aP (by simpa using aN)) _ _ (hK _ _ _ _ (fw bh.out) _ _ h);rcases List.mem_append.1 hy with hy|hy
      ·exact key _ _ (dh.out y hy)
      ·rw [List.mem_singleton.1 hy];exact key _ _ dJ.out)
     have kO:Hid (∀y ∈ ps++[(x,[Value.string x.name,Value.int .i64 x.kind,Value.int .i64 x.index])],y.2.length=3):=aa (fun y hy=>by
      rcases List.mem_append.1 hy with hy|hy
      ·exact HW.out y hy
      ·rw [List.mem_singleton.1 hy];rfl)
     have kP:Hid (R=pre ((ps++[(x,[Value.string x.name,Value.int .i64 x.kind,Value.int .i64 x.index])]).map (·.1)) (rep rd (m-(q+1)) j2)):=aa (by rw [List.map_append];exact HZ.out);have hsl:=fU aW;clear aW aP aN aS aU HN HB2 az dh dJ bh HZ HW;obtain ⟨oN,cN,rfl⟩:=hsl;go_wp2;go_roundw
     case rel=>exact ⟨q+1,ps++[(x,[Value.string x.name,Value.int .i64 x.kind,Value.int .i64 x.index])],j2,by omega,by go_num,by simp [hl],⟨_,_,rfl⟩,kP,bP,cG,kO,dF,jf⟩
     case measure=>simp [intOf];omega
   ·obtain rfl:q=m:=by omega
    have HZ:Hid (R=.ok (ps.map (·.1),jq)):=aa (by rw [HP.out,Nat.sub_self];exact mU _ _ jq);have HV:Hid (aI 3 F wr (Since w.heap.size wr none) (.slice oT q cT) (ps.map (·.1))):=aa (row_of hK hF _ ps rfl (by rw [List.length_map];omega) HW.out (by rw [hl];exact HO.out) HK.out);clear HP HO HK HW;go_wp2;go_ret;rw [HZ.out];exact ⟨⟨_,rfl,HV.out⟩,HS.out,HB.out⟩
namespace ai
def J6 (K:EK lK) (B:Nat) (x:lK) (v:Value) (u:World):Prop:=v=.agg #[Value.string x.mod,Value.string x.name,Value.int .i64 x.type]/\K u (Since B u none) x [Value.string x.mod,Value.string x.name,Value.int .i64 x.type]
end ai
theorem Ke:(Tryz.prog.info? 65).map (fun i=>(i.zero,i.size,i.bytes))=some (some (.agg #[.string ByteArray.empty,.string ByteArray.empty,.int .i64 0]),3,40):=by kernel_rfl
theorem Oj (rd:Nat->R lK) (K:EK lK) (F:EA lK) (hK:dH K) (hF:jT 65 K F) (w0:World) (p:Nat) (s:ByteArray) (c:Nat->Value) (en k i n:Nat) (w:World) (h:RS w0 p s c en k i n w)
  (HE:∀j u,RS w0 p s c en k j n u->Calls Tryz.prog 40 #[.pointer (some ⟨p,0,none⟩)] u (bw w0 p s c en k n (J6 K u.heap.size) u (rd j))) :
  Calls Tryz.prog 39 #[.pointer (some ⟨p,0,none⟩),.func (.func 40) #[.pointer (some ⟨p,0,none⟩)] #[]] w (bw w0 p s c en k n (fun l v u=>aI 3 F u (Since w.heap.size u none) v l) w (aV rd s en i)):=by
 have HC:=aa (nQ w0 p s c en k i n w h);have HE:=aa HE;have hpw:=h.lt;have hlen:=h.len;clear h;unfold aV;cases hx:rc s en i with
 | error z =>
  rw [hx] at HC;rw [bg];clear hx;go_enter Tryz.func39,Tryz.ntmps39;go_wp2_with fail;refine HC.out.mono ?_;rintro e w1 ⟨rfl,hb⟩;exact ⟨rfl,rfl,hb⟩
 | ok v =>
  obtain ⟨x,j⟩:=v;have hrc:=jl hlen hx;rw [hx] at HC;rw [aM];obtain ⟨m,rfl⟩:∃m:Nat,x=(m:Int):=⟨x.toNat,by omega⟩;have hm:m<=4096:=by omega
  rw [show ((m:Int).toNat)=m by omega];obtain ⟨R,hR⟩:∃R,R=rep rd m j:=⟨_,rfl⟩;rw [<- hR];have HR:=aa hR;clear hx hrc hR hlen;go_enter Tryz.func39,Tryz.ntmps39;go_wp2_with fail;refine HC.out.mono ?_;rintro e w1 ⟨⟨v,rfl,hv⟩,h1,h2⟩;have hv:v=.int .i64 m:=hv;subst hv;have H1:=aa h1;have H2:=aa h2;clear h1 h2 HC;go_wp2_with fail;go_loopw [5,8] (fun t u wr=>∃(q:Nat) (ps:List (Pe lK)) (jq:Nat),q<=m/\u=.int .i64 q/\ps.length=q/\(∃o c,t=.slice o q c)/\Hid (R=pre (ps.map (·.1)) (rep rd (m-q) jq))/\Hid (RS w0 p s c en k jq n wr)/\Hid (But p w wr)/\Hid (∀y ∈ ps,y.2.length=3)/\Hid (wr.ownsRow w.heap.size 65 3 t q (fI ps))/\Hid (∀y ∈ ps,K wr (Since w.heap.size wr t.ownBlock) y.1 y.2)) (fun _ u _=>m-(intOf u).toNat)
  case atStart=>exact ⟨0,[],j,by omega,rfl,rfl,⟨none,0,rfl⟩,aa (by rw [HR.out];exact (pre_nil _).symm),H1,H2,aa (fun y hy=>by cases hy),aa (World.ownsRow_nil _ _ _ _),aa (fun y hy=>by cases hy)⟩
  case round =>
   obtain ⟨q,ps,jq,hq,rfl,hl,⟨oT,cT,rfl⟩,HP,HS,HB,HW,HO,HK⟩:=hrel;by_cases hgo:q<m
   ·have hU:=HE.out jq wr HS.out;obtain ⟨r,hr⟩:∃r,m-q=r+1:=⟨m-q-1,by omega⟩;cases hu:rd jq with
    | error z =>
     rw [hu] at hU;have HU:=aa hU;have HZ:Hid (R=.error z):=aa (by rw [HP.out,hr];exact mS _ _ r jq z hu);clear hU hu HP HO HK HW;go_wp2_with fail;refine HU.out.mono ?_;rintro e w2 ⟨rfl,hb⟩;exact ⟨rfl,by rw [HZ.out];exact ⟨rfl,hb⟩⟩
    | ok v =>
     obtain ⟨x,j2⟩:=v;rw [hu] at hU;have HU:=aa hU;have HZ:Hid (R=pre (ps.map (·.1)++[x]) (rep rd (m-(q+1)) j2)):=aa (by rw [HP.out,hr,pre_on _ _ r jq x j2 hu,show m-(q+1)=r by omega]);clear hU hu HP;go_wp2_with fail;refine HU.out.mono ?_;rintro e w2 ⟨⟨v,rfl,hv⟩,h1,h2⟩;obtain ⟨rfl,hk⟩:=hv;have eY:Hid (∀q',(Value.slice oT q cT).ownBlock=some q'->w.heap.size<=q'/\q'<wr.heap.size):=aa (fun q' hq'=>HO.out.lt q' hq');have hup:=kG (B:=w.heap.size) (B2:=wr.heap.size) (u:=w2) (row:=(Value.slice oT q cT).ownBlock) HB.out.size (fun q' hq'=>(eY.out q' hq').2);have dJ:Hid (K w2 (Since w.heap.size w2 (Value.slice oT q cT).ownBlock) x [Value.string x.mod,Value.string x.name,Value.int .i64 x.type]):=aa (hK _ _ _ _ hup _ _ hk);have aU:=aa ((fA HO.out hpw h2).alloc (.cells #[Value.string x.mod,Value.string x.name,Value.int .i64 x.type] 65));have HN:=aa (qh w2 [Value.string x.mod,Value.string x.name,Value.int .i64 x.type] 65);have dh:=aa (fun y hy=>hK _ _ _ _ (jQ hpw h2) _ _ (HK.out y hy));have HB2:=aa ((HB.out.trans h2).trans (But.of p (aD w2 (.cells #[Value.string x.mod,Value.string x.name,Value.int .i64 x.type] 65))));have az:=aa (h1.on (aD w2 (.cells #[Value.string x.mod,Value.string x.name,Value.int .i64 x.type] 65)));have bh:=aa (aD w2 (.cells #[Value.string x.mod,Value.string x.name,Value.int .i64 x.type] 65));have bY:Hid (w.heap.size<=w2.heap.size):=aa (Nat.le_trans HB.out.size h2.size);clear h1 h2 hk hup HU HO HS HB HK eY;obtain ⟨i0,hi,hz0,hz1,hz2⟩:=info_parts Ke;go_wp2_with (first|(at_builtin;refine iN rfl _ _ 24 rfl w.heap.size 65 i0 _ 3 40 Tryz.underlying24 hi hz0 hz1 hz2 rfl (by decide) _ _ _ rfl aU.out (some ⟨w2.heap.size,0,none⟩) 1 1 [Value.string x.mod,Value.string x.name,Value.int .i64 x.type] rfl ?c6 ?c0 ?c1 ?c2 ?c3 ?c4 ?c5 ?_))
     case c6=>intro h;cases h
     case c0=>rfl
     case c1=>exact fun ad h=>by injection h with h;subst h;exact HN.out
     case c2 =>
      intro u hu;simp only [List.mem_cons,List.mem_nil_iff,or_false] at hu;rcases hu with rfl|rfl|rfl
      all_goals rfl
     case c3=>unfold maxLen;omega
     case c4=>omega
     case c5=>have:=bY.out;simp;omega
     intro v9 w9 aW aP aN;have aS:∀q',(Value.slice oT q cT).ownBlock=some q'->w.heap.size<=q':=fun q' hq'=>(aU.out.lt q' hq').1;have bP:=aa (az.out.grown aP (fun q' hq'=>Nat.lt_of_lt_of_le hpw (aS q' hq')));have cG:=aa (But.grown (p:=p) HB2.out aP aS);have dF:Hid (w9.ownsRow w.heap.size 65 3 v9 (q+1) (fI (ps++[(x,[Value.string x.mod,Value.string x.name,Value.int .i64 x.type])]))):=aa (by rw [qH];exact aW)
     have jf:Hid (∀y ∈ ps++[(x,[Value.string x.mod,Value.string x.name,Value.int .i64 x.type])],K w9 (Since w.heap.size w9 v9.ownBlock) y.1 y.2):=aa (fun y hy=>by
      have key:∀x vs,K w2 (Since w.heap.size w2 (Value.slice oT q cT).ownBlock) x vs->K w9 (Since w.heap.size w9 v9.ownBlock) x vs:=fun x vs h=>hK _ _ _ _ (oC aP (by simpa using aN)) _ _ (hK _ _ _ _ (fw bh.out) _ _ h);rcases List.mem_append.1 hy with hy|hy
      ·exact key _ _ (dh.out y hy)
      ·rw [List.mem_singleton.1 hy];exact key _ _ dJ.out)
     have kO:Hid (∀y ∈ ps++[(x,[Value.string x.mod,Value.string x.name,Value.int .i64 x.type])],y.2.length=3):=aa (fun y hy=>by
      rcases List.mem_append.1 hy with hy|hy
      ·exact HW.out y hy
      ·rw [List.mem_singleton.1 hy];rfl)
     have kP:Hid (R=pre ((ps++[(x,[Value.string x.mod,Value.string x.name,Value.int .i64 x.type])]).map (·.1)) (rep rd (m-(q+1)) j2)):=aa (by rw [List.map_append];exact HZ.out);have hsl:=fU aW;clear aW aP aN aS aU HN HB2 az dh dJ bh HZ HW;obtain ⟨oN,cN,rfl⟩:=hsl;go_wp2;go_roundw
     case rel=>exact ⟨q+1,ps++[(x,[Value.string x.mod,Value.string x.name,Value.int .i64 x.type])],j2,by omega,by go_num,by simp [hl],⟨_,_,rfl⟩,kP,bP,cG,kO,dF,jf⟩
     case measure=>simp [intOf];omega
   ·obtain rfl:q=m:=by omega
    have HZ:Hid (R=.ok (ps.map (·.1),jq)):=aa (by rw [HP.out,Nat.sub_self];exact mU _ _ jq);have HV:Hid (aI 3 F wr (Since w.heap.size wr none) (.slice oT q cT) (ps.map (·.1))):=aa (row_of hK hF _ ps rfl (by rw [List.length_map];omega) HW.out (by rw [hl];exact HO.out) HK.out);clear HP HO HK HW;go_wp2;go_ret;rw [HZ.out];exact ⟨⟨_,rfl,HV.out⟩,HS.out,HB.out⟩
namespace ai
def BO (K:EK iL) (B:Nat) (x:iL) (v:Value) (u:World):Prop:=v=.agg #[Value.int .i64 x.min,Value.int .i64 x.max,Value.bool x.has]/\K u (Since B u none) x [Value.int .i64 x.min,Value.int .i64 x.max,Value.bool x.has]
end ai
theorem BU:(Tryz.prog.info? 71).map (fun i=>(i.zero,i.size,i.bytes))=some (some (.agg #[.int .i64 0,.int .i64 0,.bool false]),3,24):=by kernel_rfl
theorem Ob (rd:Nat->R iL) (K:EK iL) (F:EA iL) (hK:dH K) (hF:jT 71 K F) (w0:World) (p:Nat) (s:ByteArray) (c:Nat->Value) (en k i n:Nat) (w:World) (h:RS w0 p s c en k i n w)
  (HE:∀j u,RS w0 p s c en k j n u->Calls Tryz.prog 45 #[.pointer (some ⟨p,0,none⟩)] u (bw w0 p s c en k n (BO K u.heap.size) u (rd j))) :
  Calls Tryz.prog 43 #[.pointer (some ⟨p,0,none⟩),.func (.func 45) #[.pointer (some ⟨p,0,none⟩)] #[]] w (bw w0 p s c en k n (fun l v u=>aI 3 F u (Since w.heap.size u none) v l) w (aV rd s en i)):=by
 have HC:=aa (nQ w0 p s c en k i n w h);have HE:=aa HE;have hpw:=h.lt;have hlen:=h.len;clear h;unfold aV;cases hx:rc s en i with
 | error z =>
  rw [hx] at HC;rw [bg];clear hx;go_enter Tryz.func43,Tryz.ntmps43;go_wp2_with fail;refine HC.out.mono ?_;rintro e w1 ⟨rfl,hb⟩;exact ⟨rfl,rfl,hb⟩
 | ok v =>
  obtain ⟨x,j⟩:=v;have hrc:=jl hlen hx;rw [hx] at HC;rw [aM];obtain ⟨m,rfl⟩:∃m:Nat,x=(m:Int):=⟨x.toNat,by omega⟩;have hm:m<=4096:=by omega
  rw [show ((m:Int).toNat)=m by omega];obtain ⟨R,hR⟩:∃R,R=rep rd m j:=⟨_,rfl⟩;rw [<- hR];have HR:=aa hR;clear hx hrc hR hlen;go_enter Tryz.func43,Tryz.ntmps43;go_wp2_with fail;refine HC.out.mono ?_;rintro e w1 ⟨⟨v,rfl,hv⟩,h1,h2⟩;have hv:v=.int .i64 m:=hv;subst hv;have H1:=aa h1;have H2:=aa h2;clear h1 h2 HC;go_wp2_with fail;go_loopw [5,8] (fun t u wr=>∃(q:Nat) (ps:List (Pe iL)) (jq:Nat),q<=m/\u=.int .i64 q/\ps.length=q/\(∃o c,t=.slice o q c)/\Hid (R=pre (ps.map (·.1)) (rep rd (m-q) jq))/\Hid (RS w0 p s c en k jq n wr)/\Hid (But p w wr)/\Hid (∀y ∈ ps,y.2.length=3)/\Hid (wr.ownsRow w.heap.size 71 3 t q (fI ps))/\Hid (∀y ∈ ps,K wr (Since w.heap.size wr t.ownBlock) y.1 y.2)) (fun _ u _=>m-(intOf u).toNat)
  case atStart=>exact ⟨0,[],j,by omega,rfl,rfl,⟨none,0,rfl⟩,aa (by rw [HR.out];exact (pre_nil _).symm),H1,H2,aa (fun y hy=>by cases hy),aa (World.ownsRow_nil _ _ _ _),aa (fun y hy=>by cases hy)⟩
  case round =>
   obtain ⟨q,ps,jq,hq,rfl,hl,⟨oT,cT,rfl⟩,HP,HS,HB,HW,HO,HK⟩:=hrel;by_cases hgo:q<m
   ·have hU:=HE.out jq wr HS.out;obtain ⟨r,hr⟩:∃r,m-q=r+1:=⟨m-q-1,by omega⟩;cases hu:rd jq with
    | error z =>
     rw [hu] at hU;have HU:=aa hU;have HZ:Hid (R=.error z):=aa (by rw [HP.out,hr];exact mS _ _ r jq z hu);clear hU hu HP HO HK HW;go_wp2_with fail;refine HU.out.mono ?_;rintro e w2 ⟨rfl,hb⟩;exact ⟨rfl,by rw [HZ.out];exact ⟨rfl,hb⟩⟩
    | ok v =>
     obtain ⟨x,j2⟩:=v;rw [hu] at hU;have HU:=aa hU;have HZ:Hid (R=pre (ps.map (·.1)++[x]) (rep rd (m-(q+1)) j2)):=aa (by rw [HP.out,hr,pre_on _ _ r jq x j2 hu,show m-(q+1)=r by omega]);clear hU hu HP;go_wp2_with fail;refine HU.out.mono ?_;rintro e w2 ⟨⟨v,rfl,hv⟩,h1,h2⟩;obtain ⟨rfl,hk⟩:=hv;have eY:Hid (∀q',(Value.slice oT q cT).ownBlock=some q'->w.heap.size<=q'/\q'<wr.heap.size):=aa (fun q' hq'=>HO.out.lt q' hq');have hup:=kG (B:=w.heap.size) (B2:=wr.heap.size) (u:=w2) (row:=(Value.slice oT q cT).ownBlock) HB.out.size (fun q' hq'=>(eY.out q' hq').2);have dJ:Hid (K w2 (Since w.heap.size w2 (Value.slice oT q cT).ownBlock) x [Value.int .i64 x.min,Value.int .i64 x.max,Value.bool x.has]):=aa (hK _ _ _ _ hup _ _ hk);have aU:=aa ((fA HO.out hpw h2).alloc (.cells #[Value.int .i64 x.min,Value.int .i64 x.max,Value.bool x.has] 71));have HN:=aa (qh w2 [Value.int .i64 x.min,Value.int .i64 x.max,Value.bool x.has] 71);have dh:=aa (fun y hy=>hK _ _ _ _ (jQ hpw h2) _ _ (HK.out y hy));have HB2:=aa ((HB.out.trans h2).trans (But.of p (aD w2 (.cells #[Value.int .i64 x.min,Value.int .i64 x.max,Value.bool x.has] 71))));have az:=aa (h1.on (aD w2 (.cells #[Value.int .i64 x.min,Value.int .i64 x.max,Value.bool x.has] 71)));have bh:=aa (aD w2 (.cells #[Value.int .i64 x.min,Value.int .i64 x.max,Value.bool x.has] 71));have bY:Hid (w.heap.size<=w2.heap.size):=aa (Nat.le_trans HB.out.size h2.size);clear h1 h2 hk hup HU HO HS HB HK eY;obtain ⟨i0,hi,hz0,hz1,hz2⟩:=info_parts BU;go_wp2_with (first|(at_builtin;refine iN rfl _ _ 26 rfl w.heap.size 71 i0 _ 3 24 Tryz.underlying26 hi hz0 hz1 hz2 rfl (by decide) _ _ _ rfl aU.out (some ⟨w2.heap.size,0,none⟩) 1 1 [Value.int .i64 x.min,Value.int .i64 x.max,Value.bool x.has] rfl ?c6 ?c0 ?c1 ?c2 ?c3 ?c4 ?c5 ?_))
     case c6=>intro h;cases h
     case c0=>rfl
     case c1=>exact fun ad h=>by injection h with h;subst h;exact HN.out
     case c2 =>
      intro u hu;simp only [List.mem_cons,List.mem_nil_iff,or_false] at hu;rcases hu with rfl|rfl|rfl
      all_goals rfl
     case c3=>unfold maxLen;omega
     case c4=>omega
     case c5=>have:=bY.out;simp;omega
     intro v9 w9 aW aP aN;have aS:∀q',(Value.slice oT q cT).ownBlock=some q'->w.heap.size<=q':=fun q' hq'=>(aU.out.lt q' hq').1;have bP:=aa (az.out.grown aP (fun q' hq'=>Nat.lt_of_lt_of_le hpw (aS q' hq')));have cG:=aa (But.grown (p:=p) HB2.out aP aS);have dF:Hid (w9.ownsRow w.heap.size 71 3 v9 (q+1) (fI (ps++[(x,[Value.int .i64 x.min,Value.int .i64 x.max,Value.bool x.has])]))):=aa (by rw [qH];exact aW)
     have jf:Hid (∀y ∈ ps++[(x,[Value.int .i64 x.min,Value.int .i64 x.max,Value.bool x.has])],K w9 (Since w.heap.size w9 v9.ownBlock) y.1 y.2):=aa (fun y hy=>by
      have key:∀x vs,K w2 (Since w.heap.size w2 (Value.slice oT q cT).ownBlock) x vs->K w9 (Since w.heap.size w9 v9.ownBlock) x vs:=fun x vs h=>hK _ _ _ _ (oC aP (by simpa using aN)) _ _ (hK _ _ _ _ (fw bh.out) _ _ h);rcases List.mem_append.1 hy with hy|hy
      ·exact key _ _ (dh.out y hy)
      ·rw [List.mem_singleton.1 hy];exact key _ _ dJ.out)
     have kO:Hid (∀y ∈ ps++[(x,[Value.int .i64 x.min,Value.int .i64 x.max,Value.bool x.has])],y.2.length=3):=aa (fun y hy=>by
      rcases List.mem_append.1 hy with hy|hy
      ·exact HW.out y hy
      ·rw [List.mem_singleton.1 hy];rfl)
     have kP:Hid (R=pre ((ps++[(x,[Value.int .i64 x.min,Value.int .i64 x.max,Value.bool x.has])]).map (·.1)) (rep rd (m-(q+1)) j2)):=aa (by rw [List.map_append];exact HZ.out);have hsl:=fU aW;clear aW aP aN aS aU HN HB2 az dh dJ bh HZ HW;obtain ⟨oN,cN,rfl⟩:=hsl;go_wp2;go_roundw
     case rel=>exact ⟨q+1,ps++[(x,[Value.int .i64 x.min,Value.int .i64 x.max,Value.bool x.has])],j2,by omega,by go_num,by simp [hl],⟨_,_,rfl⟩,kP,bP,cG,kO,dF,jf⟩
     case measure=>simp [intOf];omega
   ·obtain rfl:q=m:=by omega
    have HZ:Hid (R=.ok (ps.map (·.1),jq)):=aa (by rw [HP.out,Nat.sub_self];exact mU _ _ jq);have HV:Hid (aI 3 F wr (Since w.heap.size wr none) (.slice oT q cT) (ps.map (·.1))):=aa (row_of hK hF _ ps rfl (by rw [List.length_map];omega) HW.out (by rw [hl];exact HO.out) HK.out);clear HP HO HK HW;go_wp2;go_ret;rw [HZ.out];exact ⟨⟨_,rfl,HV.out⟩,HS.out,HB.out⟩
theorem N9 (rd:Nat->R iL) (K:EK iL) (F:EA iL) (hK:dH K) (hF:jT 71 K F) (w0:World) (p:Nat) (s:ByteArray) (c:Nat->Value) (en k i n:Nat) (w:World) (h:RS w0 p s c en k i n w)
  (HE:∀j u,RS w0 p s c en k j n u->Calls Tryz.prog 44 #[.pointer (some ⟨p,0,none⟩)] u (bw w0 p s c en k n (BO K u.heap.size) u (rd j))) :
  Calls Tryz.prog 43 #[.pointer (some ⟨p,0,none⟩),.func (.func 44) #[.pointer (some ⟨p,0,none⟩)] #[]] w (bw w0 p s c en k n (fun l v u=>aI 3 F u (Since w.heap.size u none) v l) w (aV rd s en i)):=by
 have HC:=aa (nQ w0 p s c en k i n w h);have HE:=aa HE;have hpw:=h.lt;have hlen:=h.len;clear h;unfold aV;cases hx:rc s en i with
 | error z =>
  rw [hx] at HC;rw [bg];clear hx;go_enter Tryz.func43,Tryz.ntmps43;go_wp2_with fail;refine HC.out.mono ?_;rintro e w1 ⟨rfl,hb⟩;exact ⟨rfl,rfl,hb⟩
 | ok v =>
  obtain ⟨x,j⟩:=v;have hrc:=jl hlen hx;rw [hx] at HC;rw [aM];obtain ⟨m,rfl⟩:∃m:Nat,x=(m:Int):=⟨x.toNat,by omega⟩;have hm:m<=4096:=by omega
  rw [show ((m:Int).toNat)=m by omega];obtain ⟨R,hR⟩:∃R,R=rep rd m j:=⟨_,rfl⟩;rw [<- hR];have HR:=aa hR;clear hx hrc hR hlen;go_enter Tryz.func43,Tryz.ntmps43;go_wp2_with fail;refine HC.out.mono ?_;rintro e w1 ⟨⟨v,rfl,hv⟩,h1,h2⟩;have hv:v=.int .i64 m:=hv;subst hv;have H1:=aa h1;have H2:=aa h2;clear h1 h2 HC;go_wp2_with fail;go_loopw [5,8] (fun t u wr=>∃(q:Nat) (ps:List (Pe iL)) (jq:Nat),q<=m/\u=.int .i64 q/\ps.length=q/\(∃o c,t=.slice o q c)/\Hid (R=pre (ps.map (·.1)) (rep rd (m-q) jq))/\Hid (RS w0 p s c en k jq n wr)/\Hid (But p w wr)/\Hid (∀y ∈ ps,y.2.length=3)/\Hid (wr.ownsRow w.heap.size 71 3 t q (fI ps))/\Hid (∀y ∈ ps,K wr (Since w.heap.size wr t.ownBlock) y.1 y.2)) (fun _ u _=>m-(intOf u).toNat)
  case atStart=>exact ⟨0,[],j,by omega,rfl,rfl,⟨none,0,rfl⟩,aa (by rw [HR.out];exact (pre_nil _).symm),H1,H2,aa (fun y hy=>by cases hy),aa (World.ownsRow_nil _ _ _ _),aa (fun y hy=>by cases hy)⟩
  case round =>
   obtain ⟨q,ps,jq,hq,rfl,hl,⟨oT,cT,rfl⟩,HP,HS,HB,HW,HO,HK⟩:=hrel;by_cases hgo:q<m
   ·have hU:=HE.out jq wr HS.out;obtain ⟨r,hr⟩:∃r,m-q=r+1:=⟨m-q-1,by omega⟩;cases hu:rd jq with
    | error z =>
     rw [hu] at hU;have HU:=aa hU;have HZ:Hid (R=.error z):=aa (by rw [HP.out,hr];exact mS _ _ r jq z hu);clear hU hu HP HO HK HW;go_wp2_with fail;refine HU.out.mono ?_;rintro e w2 ⟨rfl,hb⟩;exact ⟨rfl,by rw [HZ.out];exact ⟨rfl,hb⟩⟩
    | ok v =>
     obtain ⟨x,j2⟩:=v;rw [hu] at hU;have HU:=aa hU;have HZ:Hid (R=pre (ps.map (·.1)++[x]) (rep rd (m-(q+1)) j2)):=aa (by rw [HP.out,hr,pre_on _ _ r jq x j2 hu,show m-(q+1)=r by omega]);clear hU hu HP;go_wp2_with fail;refine HU.out.mono ?_;rintro e w2 ⟨⟨v,rfl,hv⟩,h1,h2⟩;obtain ⟨rfl,hk⟩:=hv;have eY:Hid (∀q',(Value.slice oT q cT).ownBlock=some q'->w.heap.size<=q'/\q'<wr.heap.size):=aa (fun q' hq'=>HO.out.lt q' hq');have hup:=kG (B:=w.heap.size) (B2:=wr.heap.size) (u:=w2) (row:=(Value.slice oT q cT).ownBlock) HB.out.size (fun q' hq'=>(eY.out q' hq').2);have dJ:Hid (K w2 (Since w.heap.size w2 (Value.slice oT q cT).ownBlock) x [Value.int .i64 x.min,Value.int .i64 x.max,Value.bool x.has]):=aa (hK _ _ _ _ hup _ _ hk);have aU:=aa ((fA HO.out hpw h2).alloc (.cells #[Value.int .i64 x.min,Value.int .i64 x.max,Value.bool x.has] 71));have HN:=aa (qh w2 [Value.int .i64 x.min,Value.int .i64 x.max,Value.bool x.has] 71);have dh:=aa (fun y hy=>hK _ _ _ _ (jQ hpw h2) _ _ (HK.out y hy));have HB2:=aa ((HB.out.trans h2).trans (But.of p (aD w2 (.cells #[Value.int .i64 x.min,Value.int .i64 x.max,Value.bool x.has] 71))));have az:=aa (h1.on (aD w2 (.cells #[Value.int .i64 x.min,Value.int .i64 x.max,Value.bool x.has] 71)));have bh:=aa (aD w2 (.cells #[Value.int .i64 x.min,Value.int .i64 x.max,Value.bool x.has] 71));have bY:Hid (w.heap.size<=w2.heap.size):=aa (Nat.le_trans HB.out.size h2.size);clear h1 h2 hk hup HU HO HS HB HK eY;obtain ⟨i0,hi,hz0,hz1,hz2⟩:=info_parts BU;go_wp2_with (first|(at_builtin;refine iN rfl _ _ 26 rfl w.heap.size 71 i0 _ 3 24 Tryz.underlying26 hi hz0 hz1 hz2 rfl (by decide) _ _ _ rfl aU.out (some ⟨w2.heap.size,0,none⟩) 1 1 [Value.int .i64 x.min,Value.int .i64 x.max,Value.bool x.has] rfl ?c6 ?c0 ?c1 ?c2 ?c3 ?c4 ?c5 ?_))
     case c6=>intro h;cases h
     case c0=>rfl
     case c1=>exact fun ad h=>by injection h with h;subst h;exact HN.out
     case c2 =>
      intro u hu;simp only [List.mem_cons,List.mem_nil_iff,or_false] at hu;rcases hu with rfl|rfl|rfl
      all_goals rfl
     case c3=>unfold maxLen;omega
     case c4=>omega
     case c5=>have:=bY.out;simp;omega
     intro v9 w9 aW aP aN;have aS:∀q',(Value.slice oT q cT).ownBlock=some q'->w.heap.size<=q':=fun q' hq'=>(aU.out.lt q' hq').1;have bP:=aa (az.out.grown aP (fun q' hq'=>Nat.lt_of_lt_of_le hpw (aS q' hq')));have cG:=aa (But.grown (p:=p) HB2.out aP aS);have dF:Hid (w9.ownsRow w.heap.size 71 3 v9 (q+1) (fI (ps++[(x,[Value.int .i64 x.min,Value.int .i64 x.max,Value.bool x.has])]))):=aa (by rw [qH];exact aW)
     have jf:Hid (∀y ∈ ps++[(x,[Value.int .i64 x.min,Value.int .i64 x.max,Value.bool x.has])],K w9 (Since w.heap.size w9 v9.ownBlock) y.1 y.2):=aa (fun y hy=>by
      have key:∀x vs,K w2 (Since w.heap.size w2 (Value.slice oT q cT).ownBlock) x vs->K w9 (Since w.heap.size w9 v9.ownBlock) x vs:=fun x vs h=>hK _ _ _ _ (oC aP (by simpa using aN)) _ _ (hK _ _ _ _ (fw bh.out) _ _ h);rcases List.mem_append.1 hy with hy|hy
      ·exact key _ _ (dh.out y hy)
      ·rw [List.mem_singleton.1 hy];exact key _ _ dJ.out)
     have kO:Hid (∀y ∈ ps++[(x,[Value.int .i64 x.min,Value.int .i64 x.max,Value.bool x.has])],y.2.length=3):=aa (fun y hy=>by
      rcases List.mem_append.1 hy with hy|hy
      ·exact HW.out y hy
      ·rw [List.mem_singleton.1 hy];rfl)
     have kP:Hid (R=pre ((ps++[(x,[Value.int .i64 x.min,Value.int .i64 x.max,Value.bool x.has])]).map (·.1)) (rep rd (m-(q+1)) j2)):=aa (by rw [List.map_append];exact HZ.out);have hsl:=fU aW;clear aW aP aN aS aU HN HB2 az dh dJ bh HZ HW;obtain ⟨oN,cN,rfl⟩:=hsl;go_wp2;go_roundw
     case rel=>exact ⟨q+1,ps++[(x,[Value.int .i64 x.min,Value.int .i64 x.max,Value.bool x.has])],j2,by omega,by go_num,by simp [hl],⟨_,_,rfl⟩,kP,bP,cG,kO,dF,jf⟩
     case measure=>simp [intOf];omega
   ·obtain rfl:q=m:=by omega
    have HZ:Hid (R=.ok (ps.map (·.1),jq)):=aa (by rw [HP.out,Nat.sub_self];exact mU _ _ jq);have HV:Hid (aI 3 F wr (Since w.heap.size wr none) (.slice oT q cT) (ps.map (·.1))):=aa (row_of hK hF _ ps rfl (by rw [List.length_map];omega) HW.out (by rw [hl];exact HO.out) HK.out);clear HP HO HK HW;go_wp2;go_ret;rw [HZ.out];exact ⟨⟨_,rfl,HV.out⟩,HS.out,HB.out⟩
namespace ai
def J8 (K:EK Int) (B:Nat) (x:Int) (v:Value) (u:World):Prop:=v=.agg #[Value.int .i64 x,Value.slice none 0 0,Value.slice none 0 0]/\K u (Since B u none) x [Value.int .i64 x,Value.slice none 0 0,Value.slice none 0 0]
end ai
theorem Kz:(Tryz.prog.info? 68).map (fun i=>(i.zero,i.size,i.bytes))=some (some (.agg #[.int .i64 0,.slice none 0 0,.slice none 0 0]),3,56):=by kernel_rfl
theorem N7 (rd:Nat->R Int) (K:EK Int) (F:EA Int) (hK:dH K) (hF:jT 68 K F) (w0:World) (p:Nat) (s:ByteArray) (c:Nat->Value) (en k i n:Nat) (w:World) (h:RS w0 p s c en k i n w)
  (HE:∀j u,RS w0 p s c en k j n u->Calls Tryz.prog 42 #[.pointer (some ⟨p,0,none⟩)] u (bw w0 p s c en k n (J8 K u.heap.size) u (rd j))) :
  Calls Tryz.prog 41 #[.pointer (some ⟨p,0,none⟩),.func (.func 42) #[.pointer (some ⟨p,0,none⟩)] #[]] w (bw w0 p s c en k n (fun l v u=>aI 3 F u (Since w.heap.size u none) v l) w (aV rd s en i)):=by
 have HC:=aa (nQ w0 p s c en k i n w h);have HE:=aa HE;have hpw:=h.lt;have hlen:=h.len;clear h;unfold aV;cases hx:rc s en i with
 | error z =>
  rw [hx] at HC;rw [bg];clear hx;go_enter Tryz.func41,Tryz.ntmps41;go_wp2_with fail;refine HC.out.mono ?_;rintro e w1 ⟨rfl,hb⟩;exact ⟨rfl,rfl,hb⟩
 | ok v =>
  obtain ⟨x,j⟩:=v;have hrc:=jl hlen hx;rw [hx] at HC;rw [aM];obtain ⟨m,rfl⟩:∃m:Nat,x=(m:Int):=⟨x.toNat,by omega⟩;have hm:m<=4096:=by omega
  rw [show ((m:Int).toNat)=m by omega];obtain ⟨R,hR⟩:∃R,R=rep rd m j:=⟨_,rfl⟩;rw [<- hR];have HR:=aa hR;clear hx hrc hR hlen;go_enter Tryz.func41,Tryz.ntmps41;go_wp2_with fail;refine HC.out.mono ?_;rintro e w1 ⟨⟨v,rfl,hv⟩,h1,h2⟩;have hv:v=.int .i64 m:=hv;subst hv;have H1:=aa h1;have H2:=aa h2;clear h1 h2 HC;go_wp2_with fail;go_loopw [5,8] (fun t u wr=>∃(q:Nat) (ps:List (Pe Int)) (jq:Nat),q<=m/\u=.int .i64 q/\ps.length=q/\(∃o c,t=.slice o q c)/\Hid (R=pre (ps.map (·.1)) (rep rd (m-q) jq))/\Hid (RS w0 p s c en k jq n wr)/\Hid (But p w wr)/\Hid (∀y ∈ ps,y.2.length=3)/\Hid (wr.ownsRow w.heap.size 68 3 t q (fI ps))/\Hid (∀y ∈ ps,K wr (Since w.heap.size wr t.ownBlock) y.1 y.2)) (fun _ u _=>m-(intOf u).toNat)
  case atStart=>exact ⟨0,[],j,by omega,rfl,rfl,⟨none,0,rfl⟩,aa (by rw [HR.out];exact (pre_nil _).symm),H1,H2,aa (fun y hy=>by cases hy),aa (World.ownsRow_nil _ _ _ _),aa (fun y hy=>by cases hy)⟩
  case round =>
   obtain ⟨q,ps,jq,hq,rfl,hl,⟨oT,cT,rfl⟩,HP,HS,HB,HW,HO,HK⟩:=hrel;by_cases hgo:q<m
   ·have hU:=HE.out jq wr HS.out;obtain ⟨r,hr⟩:∃r,m-q=r+1:=⟨m-q-1,by omega⟩;cases hu:rd jq with
    | error z =>
     rw [hu] at hU;have HU:=aa hU;have HZ:Hid (R=.error z):=aa (by rw [HP.out,hr];exact mS _ _ r jq z hu);clear hU hu HP HO HK HW;go_wp2_with fail;refine HU.out.mono ?_;rintro e w2 ⟨rfl,hb⟩;exact ⟨rfl,by rw [HZ.out];exact ⟨rfl,hb⟩⟩
    | ok v =>
     obtain ⟨x,j2⟩:=v;rw [hu] at hU;have HU:=aa hU;have HZ:Hid (R=pre (ps.map (·.1)++[x]) (rep rd (m-(q+1)) j2)):=aa (by rw [HP.out,hr,pre_on _ _ r jq x j2 hu,show m-(q+1)=r by omega]);clear hU hu HP;go_wp2_with fail;refine HU.out.mono ?_;rintro e w2 ⟨⟨v,rfl,hv⟩,h1,h2⟩;obtain ⟨rfl,hk⟩:=hv;have eY:Hid (∀q',(Value.slice oT q cT).ownBlock=some q'->w.heap.size<=q'/\q'<wr.heap.size):=aa (fun q' hq'=>HO.out.lt q' hq');have hup:=kG (B:=w.heap.size) (B2:=wr.heap.size) (u:=w2) (row:=(Value.slice oT q cT).ownBlock) HB.out.size (fun q' hq'=>(eY.out q' hq').2);have dJ:Hid (K w2 (Since w.heap.size w2 (Value.slice oT q cT).ownBlock) x [Value.int .i64 x,Value.slice none 0 0,Value.slice none 0 0]):=aa (hK _ _ _ _ hup _ _ hk);have aU:=aa ((fA HO.out hpw h2).alloc (.cells #[Value.int .i64 x,Value.slice none 0 0,Value.slice none 0 0] 68));have HN:=aa (qh w2 [Value.int .i64 x,Value.slice none 0 0,Value.slice none 0 0] 68);have dh:=aa (fun y hy=>hK _ _ _ _ (jQ hpw h2) _ _ (HK.out y hy));have HB2:=aa ((HB.out.trans h2).trans (But.of p (aD w2 (.cells #[Value.int .i64 x,Value.slice none 0 0,Value.slice none 0 0] 68))));have az:=aa (h1.on (aD w2 (.cells #[Value.int .i64 x,Value.slice none 0 0,Value.slice none 0 0] 68)));have bh:=aa (aD w2 (.cells #[Value.int .i64 x,Value.slice none 0 0,Value.slice none 0 0] 68));have bY:Hid (w.heap.size<=w2.heap.size):=aa (Nat.le_trans HB.out.size h2.size);clear h1 h2 hk hup HU HO HS HB HK eY;obtain ⟨i0,hi,hz0,hz1,hz2⟩:=info_parts Kz;go_wp2_with (first|(at_builtin;refine iN rfl _ _ 25 rfl w.heap.size 68 i0 _ 3 56 Tryz.underlying25 hi hz0 hz1 hz2 rfl (by decide) _ _ _ rfl aU.out (some ⟨w2.heap.size,0,none⟩) 1 1 [Value.int .i64 x,Value.slice none 0 0,Value.slice none 0 0] rfl ?c6 ?c0 ?c1 ?c2 ?c3 ?c4 ?c5 ?_))
     case c6=>intro h;cases h
     case c0=>rfl
     case c1=>exact fun ad h=>by injection h with h;subst h;exact HN.out
     case c2 =>
      intro u hu;simp only [List.mem_cons,List.mem_nil_iff,or_false] at hu;rcases hu with rfl|rfl|rfl
      all_goals rfl
     case c3=>unfold maxLen;omega
     case c4=>omega
     case c5=>have:=bY.out;simp;omega
     intro v9 w9 aW aP aN;have aS:∀q',(Value.slice oT q cT).ownBlock=some q'->w.heap.size<=q':=fun q' hq'=>(aU.out.lt q' hq').1;have bP:=aa (az.out.grown aP (fun q' hq'=>Nat.lt_of_lt_of_le hpw (aS q' hq')));have cG:=aa (But.grown (p:=p) HB2.out aP aS);have dF:Hid (w9.ownsRow w.heap.size 68 3 v9 (q+1) (fI (ps++[(x,[Value.int .i64 x,Value.slice none 0 0,Value.slice none 0 0])]))):=aa (by rw [qH];exact aW)
     have jf:Hid (∀y ∈ ps++[(x,[Value.int .i64 x,Value.slice none 0 0,Value.slice none 0 0])],K w9 (Since w.heap.size w9 v9.ownBlock) y.1 y.2):=aa (fun y hy=>by
      have key:∀x vs,K w2 (Since w.heap.size w2 (Value.slice oT q cT).ownBlock) x vs->K w9 (Since w.heap.size w9 v9.ownBlock) x vs:=fun x vs h=>hK _ _ _ _ (oC aP (by simpa using aN)) _ _ (hK _ _ _ _ (fw bh.out) _ _ h);rcases List.mem_append.1 hy with hy|hy
      ·exact key _ _ (dh.out y hy)
      ·rw [List.mem_singleton.1 hy];exact key _ _ dJ.out)
     have kO:Hid (∀y ∈ ps++[(x,[Value.int .i64 x,Value.slice none 0 0,Value.slice none 0 0])],y.2.length=3):=aa (fun y hy=>by
      rcases List.mem_append.1 hy with hy|hy
      ·exact HW.out y hy
      ·rw [List.mem_singleton.1 hy];rfl)
     have kP:Hid (R=pre ((ps++[(x,[Value.int .i64 x,Value.slice none 0 0,Value.slice none 0 0])]).map (·.1)) (rep rd (m-(q+1)) j2)):=aa (by rw [List.map_append];exact HZ.out);have hsl:=fU aW;clear aW aP aN aS aU HN HB2 az dh dJ bh HZ HW;obtain ⟨oN,cN,rfl⟩:=hsl;go_wp2;go_roundw
     case rel=>exact ⟨q+1,ps++[(x,[Value.int .i64 x,Value.slice none 0 0,Value.slice none 0 0])],j2,by omega,by go_num,by simp [hl],⟨_,_,rfl⟩,kP,bP,cG,kO,dF,jf⟩
     case measure=>simp [intOf];omega
   ·obtain rfl:q=m:=by omega
    have HZ:Hid (R=.ok (ps.map (·.1),jq)):=aa (by rw [HP.out,Nat.sub_self];exact mU _ _ jq);have HV:Hid (aI 3 F wr (Since w.heap.size wr none) (.slice oT q cT) (ps.map (·.1))):=aa (row_of hK hF _ ps rfl (by rw [List.length_map];omega) HW.out (by rw [hl];exact HO.out) HK.out);clear HP HO HK HW;go_wp2;go_ret;rw [HZ.out];exact ⟨⟨_,rfl,HV.out⟩,HS.out,HB.out⟩
namespace ai
def Ir {d:Nat} (K:EK (lL d)) (B:Nat) (x:(lL d)) (v:Value) (u:World):Prop:=∃o4 n4 k4 o5 n5 k5 o6 n6 k6,v=.agg #[Value.int .i64 x.type,Value.bool x.fT,Value.int .i64 x.init.op,Value.int .i64 x.init.a,Value.int .i64 x.init.b,Value.int .i64 x.init.n,Value.slice o4 n4 k4,Value.slice o5 n5 k5,Value.slice o6 n6 k6]/\K u (Since B u none) x [Value.int .i64 x.type,Value.bool x.fT,Value.int .i64 x.init.op,Value.int .i64 x.init.a,Value.int .i64 x.init.b,Value.int .i64 x.init.n,Value.slice o4 n4 k4,Value.slice o5 n5 k5,Value.slice o6 n6 k6]
end ai
theorem KA:(Tryz.prog.info? 75).map (fun i=>(i.zero,i.size,i.bytes))=some (some (.agg #[.int .i64 0,.bool false,.int .i64 0,.int .i64 0,.int .i64 0,.int .i64 0,.slice none 0 0,.slice none 0 0,.slice none 0 0]),9,120):=by kernel_rfl
theorem Oc {d:Nat} (rd:Nat->R (lL d)) (K:EK (lL d)) (F:EA (lL d)) (hK:dH K) (hF:jT 75 K F) (w0:World) (p:Nat) (s:ByteArray) (c:Nat->Value) (en k i n:Nat) (w:World) (h:RS w0 p s c en k i n w)
  (HE:∀j u,RS w0 p s c en k j n u->Calls Tryz.prog 47 #[.pointer (some ⟨p,0,none⟩)] u (bw w0 p s c en k n (Ir K u.heap.size) u (rd j))) :
  Calls Tryz.prog 46 #[.pointer (some ⟨p,0,none⟩),.func (.func 47) #[.pointer (some ⟨p,0,none⟩)] #[]] w (bw w0 p s c en k n (fun l v u=>aI 9 F u (Since w.heap.size u none) v l) w (aV rd s en i)):=by
 have HC:=aa (nQ w0 p s c en k i n w h);have HE:=aa HE;have hpw:=h.lt;have hlen:=h.len;clear h;unfold aV;cases hx:rc s en i with
 | error z =>
  rw [hx] at HC;rw [bg];clear hx;go_enter Tryz.func46,Tryz.ntmps46;go_wp2_with fail;refine HC.out.mono ?_;rintro e w1 ⟨rfl,hb⟩;exact ⟨rfl,rfl,hb⟩
 | ok v =>
  obtain ⟨x,j⟩:=v;have hrc:=jl hlen hx;rw [hx] at HC;rw [aM];obtain ⟨m,rfl⟩:∃m:Nat,x=(m:Int):=⟨x.toNat,by omega⟩;have hm:m<=4096:=by omega
  rw [show ((m:Int).toNat)=m by omega];obtain ⟨R,hR⟩:∃R,R=rep rd m j:=⟨_,rfl⟩;rw [<- hR];have HR:=aa hR;clear hx hrc hR hlen;go_enter Tryz.func46,Tryz.ntmps46;go_wp2_with fail;refine HC.out.mono ?_;rintro e w1 ⟨⟨v,rfl,hv⟩,h1,h2⟩;have hv:v=.int .i64 m:=hv;subst hv;have H1:=aa h1;have H2:=aa h2;clear h1 h2 HC;go_wp2_with fail;go_loopw [5,8] (fun t u wr=>∃(q:Nat) (ps:List (Pe (lL d))) (jq:Nat),q<=m/\u=.int .i64 q/\ps.length=q/\(∃o c,t=.slice o q c)/\Hid (R=pre (ps.map (·.1)) (rep rd (m-q) jq))/\Hid (RS w0 p s c en k jq n wr)/\Hid (But p w wr)/\Hid (∀y ∈ ps,y.2.length=9)/\Hid (wr.ownsRow w.heap.size 75 9 t q (fI ps))/\Hid (∀y ∈ ps,K wr (Since w.heap.size wr t.ownBlock) y.1 y.2)) (fun _ u _=>m-(intOf u).toNat)
  case atStart=>exact ⟨0,[],j,by omega,rfl,rfl,⟨none,0,rfl⟩,aa (by rw [HR.out];exact (pre_nil _).symm),H1,H2,aa (fun y hy=>by cases hy),aa (World.ownsRow_nil _ _ _ _),aa (fun y hy=>by cases hy)⟩
  case round =>
   obtain ⟨q,ps,jq,hq,rfl,hl,⟨oT,cT,rfl⟩,HP,HS,HB,HW,HO,HK⟩:=hrel;by_cases hgo:q<m
   ·have hU:=HE.out jq wr HS.out;obtain ⟨r,hr⟩:∃r,m-q=r+1:=⟨m-q-1,by omega⟩;cases hu:rd jq with
    | error z =>
     rw [hu] at hU;have HU:=aa hU;have HZ:Hid (R=.error z):=aa (by rw [HP.out,hr];exact mS _ _ r jq z hu);clear hU hu HP HO HK HW;go_wp2_with fail;refine HU.out.mono ?_;rintro e w2 ⟨rfl,hb⟩;exact ⟨rfl,by rw [HZ.out];exact ⟨rfl,hb⟩⟩
    | ok v =>
     obtain ⟨x,j2⟩:=v;rw [hu] at hU;have HU:=aa hU;have HZ:Hid (R=pre (ps.map (·.1)++[x]) (rep rd (m-(q+1)) j2)):=aa (by rw [HP.out,hr,pre_on _ _ r jq x j2 hu,show m-(q+1)=r by omega]);clear hU hu HP;go_wp2_with fail;refine HU.out.mono ?_;rintro e w2 ⟨⟨v,rfl,hv⟩,h1,h2⟩;obtain ⟨o4,n4,k4,o5,n5,k5,o6,n6,k6,rfl,hk⟩:=hv;have eY:Hid (∀q',(Value.slice oT q cT).ownBlock=some q'->w.heap.size<=q'/\q'<wr.heap.size):=aa (fun q' hq'=>HO.out.lt q' hq');have hup:=kG (B:=w.heap.size) (B2:=wr.heap.size) (u:=w2) (row:=(Value.slice oT q cT).ownBlock) HB.out.size (fun q' hq'=>(eY.out q' hq').2);have dJ:Hid (K w2 (Since w.heap.size w2 (Value.slice oT q cT).ownBlock) x [Value.int .i64 x.type,Value.bool x.fT,Value.int .i64 x.init.op,Value.int .i64 x.init.a,Value.int .i64 x.init.b,Value.int .i64 x.init.n,Value.slice o4 n4 k4,Value.slice o5 n5 k5,Value.slice o6 n6 k6]):=aa (hK _ _ _ _ hup _ _ hk);have aU:=aa ((fA HO.out hpw h2).alloc (.cells #[Value.int .i64 x.type,Value.bool x.fT,Value.int .i64 x.init.op,Value.int .i64 x.init.a,Value.int .i64 x.init.b,Value.int .i64 x.init.n,Value.slice o4 n4 k4,Value.slice o5 n5 k5,Value.slice o6 n6 k6] 75));have HN:=aa (qh w2 [Value.int .i64 x.type,Value.bool x.fT,Value.int .i64 x.init.op,Value.int .i64 x.init.a,Value.int .i64 x.init.b,Value.int .i64 x.init.n,Value.slice o4 n4 k4,Value.slice o5 n5 k5,Value.slice o6 n6 k6] 75);have dh:=aa (fun y hy=>hK _ _ _ _ (jQ hpw h2) _ _ (HK.out y hy));have HB2:=aa ((HB.out.trans h2).trans (But.of p (aD w2 (.cells #[Value.int .i64 x.type,Value.bool x.fT,Value.int .i64 x.init.op,Value.int .i64 x.init.a,Value.int .i64 x.init.b,Value.int .i64 x.init.n,Value.slice o4 n4 k4,Value.slice o5 n5 k5,Value.slice o6 n6 k6] 75))));have az:=aa (h1.on (aD w2 (.cells #[Value.int .i64 x.type,Value.bool x.fT,Value.int .i64 x.init.op,Value.int .i64 x.init.a,Value.int .i64 x.init.b,Value.int .i64 x.init.n,Value.slice o4 n4 k4,Value.slice o5 n5 k5,Value.slice o6 n6 k6] 75)));have bh:=aa (aD w2 (.cells #[Value.int .i64 x.type,Value.bool x.fT,Value.int .i64 x.init.op,Value.int .i64 x.init.a,Value.int .i64 x.init.b,Value.int .i64 x.init.n,Value.slice o4 n4 k4,Value.slice o5 n5 k5,Value.slice o6 n6 k6] 75));have bY:Hid (w.heap.size<=w2.heap.size):=aa (Nat.le_trans HB.out.size h2.size);clear h1 h2 hk hup HU HO HS HB HK eY;obtain ⟨i0,hi,hz0,hz1,hz2⟩:=info_parts KA;go_wp2_with (first|(at_builtin;refine iN rfl _ _ 27 rfl w.heap.size 75 i0 _ 9 120 Tryz.underlying27 hi hz0 hz1 hz2 rfl (by decide) _ _ _ rfl aU.out (some ⟨w2.heap.size,0,none⟩) 1 1 [Value.int .i64 x.type,Value.bool x.fT,Value.int .i64 x.init.op,Value.int .i64 x.init.a,Value.int .i64 x.init.b,Value.int .i64 x.init.n,Value.slice o4 n4 k4,Value.slice o5 n5 k5,Value.slice o6 n6 k6] rfl ?c6 ?c0 ?c1 ?c2 ?c3 ?c4 ?c5 ?_))
     case c6=>intro h;cases h
     case c0=>rfl
     case c1=>exact fun ad h=>by injection h with h;subst h;exact HN.out
     case c2 =>
      intro u hu;simp only [List.mem_cons,List.mem_nil_iff,or_false] at hu;rcases hu with rfl|rfl|rfl|rfl|rfl|rfl|rfl|rfl|rfl
      all_goals rfl
     case c3=>unfold maxLen;omega
     case c4=>omega
     case c5=>have:=bY.out;simp;omega
     intro v9 w9 aW aP aN;have aS:∀q',(Value.slice oT q cT).ownBlock=some q'->w.heap.size<=q':=fun q' hq'=>(aU.out.lt q' hq').1;have bP:=aa (az.out.grown aP (fun q' hq'=>Nat.lt_of_lt_of_le hpw (aS q' hq')));have cG:=aa (But.grown (p:=p) HB2.out aP aS);have dF:Hid (w9.ownsRow w.heap.size 75 9 v9 (q+1) (fI (ps++[(x,[Value.int .i64 x.type,Value.bool x.fT,Value.int .i64 x.init.op,Value.int .i64 x.init.a,Value.int .i64 x.init.b,Value.int .i64 x.init.n,Value.slice o4 n4 k4,Value.slice o5 n5 k5,Value.slice o6 n6 k6])]))):=aa (by rw [qH];exact aW)
     have jf:Hid (∀y ∈ ps++[(x,[Value.int .i64 x.type,Value.bool x.fT,Value.int .i64 x.init.op,Value.int .i64 x.init.a,Value.int .i64 x.init.b,Value.int .i64 x.init.n,Value.slice o4 n4 k4,Value.slice o5 n5 k5,Value.slice o6 n6 k6])],K w9 (Since w.heap.size w9 v9.ownBlock) y.1 y.2):=aa (fun y hy=>by
      have key:∀x vs,K w2 (Since w.heap.size w2 (Value.slice oT q cT).ownBlock) x vs->K w9 (Since w.heap.size w9 v9.ownBlock) x vs:=fun x vs h=>hK _ _ _ _ (oC aP (by simpa using aN)) _ _ (hK _ _ _ _ (fw bh.out) _ _ h);rcases List.mem_append.1 hy with hy|hy
      ·exact key _ _ (dh.out y hy)
      ·rw [List.mem_singleton.1 hy];exact key _ _ dJ.out)
     have kO:Hid (∀y ∈ ps++[(x,[Value.int .i64 x.type,Value.bool x.fT,Value.int .i64 x.init.op,Value.int .i64 x.init.a,Value.int .i64 x.init.b,Value.int .i64 x.init.n,Value.slice o4 n4 k4,Value.slice o5 n5 k5,Value.slice o6 n6 k6])],y.2.length=9):=aa (fun y hy=>by
      rcases List.mem_append.1 hy with hy|hy
      ·exact HW.out y hy
      ·rw [List.mem_singleton.1 hy];rfl)
     have kP:Hid (R=pre ((ps++[(x,[Value.int .i64 x.type,Value.bool x.fT,Value.int .i64 x.init.op,Value.int .i64 x.init.a,Value.int .i64 x.init.b,Value.int .i64 x.init.n,Value.slice o4 n4 k4,Value.slice o5 n5 k5,Value.slice o6 n6 k6])]).map (·.1)) (rep rd (m-(q+1)) j2)):=aa (by rw [List.map_append];exact HZ.out);have hsl:=fU aW;clear aW aP aN aS aU HN HB2 az dh dJ bh HZ HW;obtain ⟨oN,cN,rfl⟩:=hsl;go_wp2;go_roundw
     case rel=>exact ⟨q+1,ps++[(x,[Value.int .i64 x.type,Value.bool x.fT,Value.int .i64 x.init.op,Value.int .i64 x.init.a,Value.int .i64 x.init.b,Value.int .i64 x.init.n,Value.slice o4 n4 k4,Value.slice o5 n5 k5,Value.slice o6 n6 k6])],j2,by omega,by go_num,by simp [hl],⟨_,_,rfl⟩,kP,bP,cG,kO,dF,jf⟩
     case measure=>simp [intOf];omega
   ·obtain rfl:q=m:=by omega
    have HZ:Hid (R=.ok (ps.map (·.1),jq)):=aa (by rw [HP.out,Nat.sub_self];exact mU _ _ jq);have HV:Hid (aI 9 F wr (Since w.heap.size wr none) (.slice oT q cT) (ps.map (·.1))):=aa (row_of hK hF _ ps rfl (by rw [List.length_map];omega) HW.out (by rw [hl];exact HO.out) HK.out);clear HP HO HK HW;go_wp2;go_ret;rw [HZ.out];exact ⟨⟨_,rfl,HV.out⟩,HS.out,HB.out⟩
namespace ai
def Jm {d:Nat} (K:EK (kZ d)) (B:Nat) (x:(kZ d)) (v:Value) (u:World):Prop:=∃o4 n4 k4 o5 n5 k5 o6 n6 k6 o7 n7 k7,v=.agg #[Value.int .i64 x.offset.op,Value.int .i64 x.offset.a,Value.int .i64 x.offset.b,Value.int .i64 x.offset.n,Value.slice o4 n4 k4,Value.slice o5 n5 k5,Value.slice o6 n6 k6,Value.slice o7 n7 k7]/\K u (Since B u none) x [Value.int .i64 x.offset.op,Value.int .i64 x.offset.a,Value.int .i64 x.offset.b,Value.int .i64 x.offset.n,Value.slice o4 n4 k4,Value.slice o5 n5 k5,Value.slice o6 n6 k6,Value.slice o7 n7 k7]
end ai
theorem FG:(Tryz.prog.info? 80).map (fun i=>(i.zero,i.size,i.bytes))=some (some (.agg #[.int .i64 0,.int .i64 0,.int .i64 0,.int .i64 0,.slice none 0 0,.slice none 0 0,.slice none 0 0,.slice none 0 0]),8,128):=by kernel_rfl
theorem Oe {d:Nat} (rd:Nat->R (kZ d)) (K:EK (kZ d)) (F:EA (kZ d)) (hK:dH K) (hF:jT 80 K F) (w0:World) (p:Nat) (s:ByteArray) (c:Nat->Value) (en k i n:Nat) (w:World) (h:RS w0 p s c en k i n w)
  (HE:∀j u,RS w0 p s c en k j n u->Calls Tryz.prog 51 #[.pointer (some ⟨p,0,none⟩)] u (bw w0 p s c en k n (Jm K u.heap.size) u (rd j))) :
  Calls Tryz.prog 50 #[.pointer (some ⟨p,0,none⟩),.func (.func 51) #[.pointer (some ⟨p,0,none⟩)] #[]] w (bw w0 p s c en k n (fun l v u=>aI 8 F u (Since w.heap.size u none) v l) w (aV rd s en i)):=by
 have HC:=aa (nQ w0 p s c en k i n w h);have HE:=aa HE;have hpw:=h.lt;have hlen:=h.len;clear h;unfold aV;cases hx:rc s en i with
 | error z =>
  rw [hx] at HC;rw [bg];clear hx;go_enter Tryz.func50,Tryz.ntmps50;go_wp2_with fail;refine HC.out.mono ?_;rintro e w1 ⟨rfl,hb⟩;exact ⟨rfl,rfl,hb⟩
 | ok v =>
  obtain ⟨x,j⟩:=v;have hrc:=jl hlen hx;rw [hx] at HC;rw [aM];obtain ⟨m,rfl⟩:∃m:Nat,x=(m:Int):=⟨x.toNat,by omega⟩;have hm:m<=4096:=by omega
  rw [show ((m:Int).toNat)=m by omega];obtain ⟨R,hR⟩:∃R,R=rep rd m j:=⟨_,rfl⟩;rw [<- hR];have HR:=aa hR;clear hx hrc hR hlen;go_enter Tryz.func50,Tryz.ntmps50;go_wp2_with fail;refine HC.out.mono ?_;rintro e w1 ⟨⟨v,rfl,hv⟩,h1,h2⟩;have hv:v=.int .i64 m:=hv;subst hv;have H1:=aa h1;have H2:=aa h2;clear h1 h2 HC;go_wp2_with fail;go_loopw [5,8] (fun t u wr=>∃(q:Nat) (ps:List (Pe (kZ d))) (jq:Nat),q<=m/\u=.int .i64 q/\ps.length=q/\(∃o c,t=.slice o q c)/\Hid (R=pre (ps.map (·.1)) (rep rd (m-q) jq))/\Hid (RS w0 p s c en k jq n wr)/\Hid (But p w wr)/\Hid (∀y ∈ ps,y.2.length=8)/\Hid (wr.ownsRow w.heap.size 80 8 t q (fI ps))/\Hid (∀y ∈ ps,K wr (Since w.heap.size wr t.ownBlock) y.1 y.2)) (fun _ u _=>m-(intOf u).toNat)
  case atStart=>exact ⟨0,[],j,by omega,rfl,rfl,⟨none,0,rfl⟩,aa (by rw [HR.out];exact (pre_nil _).symm),H1,H2,aa (fun y hy=>by cases hy),aa (World.ownsRow_nil _ _ _ _),aa (fun y hy=>by cases hy)⟩
  case round =>
   obtain ⟨q,ps,jq,hq,rfl,hl,⟨oT,cT,rfl⟩,HP,HS,HB,HW,HO,HK⟩:=hrel;by_cases hgo:q<m
   ·have hU:=HE.out jq wr HS.out;obtain ⟨r,hr⟩:∃r,m-q=r+1:=⟨m-q-1,by omega⟩;cases hu:rd jq with
    | error z =>
     rw [hu] at hU;have HU:=aa hU;have HZ:Hid (R=.error z):=aa (by rw [HP.out,hr];exact mS _ _ r jq z hu);clear hU hu HP HO HK HW;go_wp2_with fail;refine HU.out.mono ?_;rintro e w2 ⟨rfl,hb⟩;exact ⟨rfl,by rw [HZ.out];exact ⟨rfl,hb⟩⟩
    | ok v =>
     obtain ⟨x,j2⟩:=v;rw [hu] at hU;have HU:=aa hU;have HZ:Hid (R=pre (ps.map (·.1)++[x]) (rep rd (m-(q+1)) j2)):=aa (by rw [HP.out,hr,pre_on _ _ r jq x j2 hu,show m-(q+1)=r by omega]);clear hU hu HP;go_wp2_with fail;refine HU.out.mono ?_;rintro e w2 ⟨⟨v,rfl,hv⟩,h1,h2⟩;obtain ⟨o4,n4,k4,o5,n5,k5,o6,n6,k6,o7,n7,k7,rfl,hk⟩:=hv;have eY:Hid (∀q',(Value.slice oT q cT).ownBlock=some q'->w.heap.size<=q'/\q'<wr.heap.size):=aa (fun q' hq'=>HO.out.lt q' hq');have hup:=kG (B:=w.heap.size) (B2:=wr.heap.size) (u:=w2) (row:=(Value.slice oT q cT).ownBlock) HB.out.size (fun q' hq'=>(eY.out q' hq').2);have dJ:Hid (K w2 (Since w.heap.size w2 (Value.slice oT q cT).ownBlock) x [Value.int .i64 x.offset.op,Value.int .i64 x.offset.a,Value.int .i64 x.offset.b,Value.int .i64 x.offset.n,Value.slice o4 n4 k4,Value.slice o5 n5 k5,Value.slice o6 n6 k6,Value.slice o7 n7 k7]):=aa (hK _ _ _ _ hup _ _ hk);have aU:=aa ((fA HO.out hpw h2).alloc (.cells #[Value.int .i64 x.offset.op,Value.int .i64 x.offset.a,Value.int .i64 x.offset.b,Value.int .i64 x.offset.n,Value.slice o4 n4 k4,Value.slice o5 n5 k5,Value.slice o6 n6 k6,Value.slice o7 n7 k7] 80));have HN:=aa (qh w2 [Value.int .i64 x.offset.op,Value.int .i64 x.offset.a,Value.int .i64 x.offset.b,Value.int .i64 x.offset.n,Value.slice o4 n4 k4,Value.slice o5 n5 k5,Value.slice o6 n6 k6,Value.slice o7 n7 k7] 80);have dh:=aa (fun y hy=>hK _ _ _ _ (jQ hpw h2) _ _ (HK.out y hy));have HB2:=aa ((HB.out.trans h2).trans (But.of p (aD w2 (.cells #[Value.int .i64 x.offset.op,Value.int .i64 x.offset.a,Value.int .i64 x.offset.b,Value.int .i64 x.offset.n,Value.slice o4 n4 k4,Value.slice o5 n5 k5,Value.slice o6 n6 k6,Value.slice o7 n7 k7] 80))));have az:=aa (h1.on (aD w2 (.cells #[Value.int .i64 x.offset.op,Value.int .i64 x.offset.a,Value.int .i64 x.offset.b,Value.int .i64 x.offset.n,Value.slice o4 n4 k4,Value.slice o5 n5 k5,Value.slice o6 n6 k6,Value.slice o7 n7 k7] 80)));have bh:=aa (aD w2 (.cells #[Value.int .i64 x.offset.op,Value.int .i64 x.offset.a,Value.int .i64 x.offset.b,Value.int .i64 x.offset.n,Value.slice o4 n4 k4,Value.slice o5 n5 k5,Value.slice o6 n6 k6,Value.slice o7 n7 k7] 80));have bY:Hid (w.heap.size<=w2.heap.size):=aa (Nat.le_trans HB.out.size h2.size);clear h1 h2 hk hup HU HO HS HB HK eY;obtain ⟨i0,hi,hz0,hz1,hz2⟩:=info_parts FG;go_wp2_with (first|(at_builtin;refine iN rfl _ _ 30 rfl w.heap.size 80 i0 _ 8 128 Tryz.underlying30 hi hz0 hz1 hz2 rfl (by decide) _ _ _ rfl aU.out (some ⟨w2.heap.size,0,none⟩) 1 1 [Value.int .i64 x.offset.op,Value.int .i64 x.offset.a,Value.int .i64 x.offset.b,Value.int .i64 x.offset.n,Value.slice o4 n4 k4,Value.slice o5 n5 k5,Value.slice o6 n6 k6,Value.slice o7 n7 k7] rfl ?c6 ?c0 ?c1 ?c2 ?c3 ?c4 ?c5 ?_))
     case c6=>intro h;cases h
     case c0=>rfl
     case c1=>exact fun ad h=>by injection h with h;subst h;exact HN.out
     case c2 =>
      intro u hu;simp only [List.mem_cons,List.mem_nil_iff,or_false] at hu;rcases hu with rfl|rfl|rfl|rfl|rfl|rfl|rfl|rfl
      all_goals rfl
     case c3=>unfold maxLen;omega
     case c4=>omega
     case c5=>have:=bY.out;simp;omega
     intro v9 w9 aW aP aN;have aS:∀q',(Value.slice oT q cT).ownBlock=some q'->w.heap.size<=q':=fun q' hq'=>(aU.out.lt q' hq').1;have bP:=aa (az.out.grown aP (fun q' hq'=>Nat.lt_of_lt_of_le hpw (aS q' hq')));have cG:=aa (But.grown (p:=p) HB2.out aP aS);have dF:Hid (w9.ownsRow w.heap.size 80 8 v9 (q+1) (fI (ps++[(x,[Value.int .i64 x.offset.op,Value.int .i64 x.offset.a,Value.int .i64 x.offset.b,Value.int .i64 x.offset.n,Value.slice o4 n4 k4,Value.slice o5 n5 k5,Value.slice o6 n6 k6,Value.slice o7 n7 k7])]))):=aa (by rw [qH];exact aW)
     have jf:Hid (∀y ∈ ps++[(x,[Value.int .i64 x.offset.op,Value.int .i64 x.offset.a,Value.int .i64 x.offset.b,Value.int .i64 x.offset.n,Value.slice o4 n4 k4,Value.slice o5 n5 k5,Value.slice o6 n6 k6,Value.slice o7 n7 k7])],K w9 (Since w.heap.size w9 v9.ownBlock) y.1 y.2):=aa (fun y hy=>by
      have key:∀x vs,K w2 (Since w.heap.size w2 (Value.slice oT q cT).ownBlock) x vs->K w9 (Since w.heap.size w9 v9.ownBlock) x vs:=fun x vs h=>hK _ _ _ _ (oC aP (by simpa using aN)) _ _ (hK _ _ _ _ (fw bh.out) _ _ h);rcases List.mem_append.1 hy with hy|hy
      ·exact key _ _ (dh.out y hy)
      ·rw [List.mem_singleton.1 hy];exact key _ _ dJ.out)
     have kO:Hid (∀y ∈ ps++[(x,[Value.int .i64 x.offset.op,Value.int .i64 x.offset.a,Value.int .i64 x.offset.b,Value.int .i64 x.offset.n,Value.slice o4 n4 k4,Value.slice o5 n5 k5,Value.slice o6 n6 k6,Value.slice o7 n7 k7])],y.2.length=8):=aa (fun y hy=>by
      rcases List.mem_append.1 hy with hy|hy
      ·exact HW.out y hy
      ·rw [List.mem_singleton.1 hy];rfl)
     have kP:Hid (R=pre ((ps++[(x,[Value.int .i64 x.offset.op,Value.int .i64 x.offset.a,Value.int .i64 x.offset.b,Value.int .i64 x.offset.n,Value.slice o4 n4 k4,Value.slice o5 n5 k5,Value.slice o6 n6 k6,Value.slice o7 n7 k7])]).map (·.1)) (rep rd (m-(q+1)) j2)):=aa (by rw [List.map_append];exact HZ.out);have hsl:=fU aW;clear aW aP aN aS aU HN HB2 az dh dJ bh HZ HW;obtain ⟨oN,cN,rfl⟩:=hsl;go_wp2;go_roundw
     case rel=>exact ⟨q+1,ps++[(x,[Value.int .i64 x.offset.op,Value.int .i64 x.offset.a,Value.int .i64 x.offset.b,Value.int .i64 x.offset.n,Value.slice o4 n4 k4,Value.slice o5 n5 k5,Value.slice o6 n6 k6,Value.slice o7 n7 k7])],j2,by omega,by go_num,by simp [hl],⟨_,_,rfl⟩,kP,bP,cG,kO,dF,jf⟩
     case measure=>simp [intOf];omega
   ·obtain rfl:q=m:=by omega
    have HZ:Hid (R=.ok (ps.map (·.1),jq)):=aa (by rw [HP.out,Nat.sub_self];exact mU _ _ jq);have HV:Hid (aI 8 F wr (Since w.heap.size wr none) (.slice oT q cT) (ps.map (·.1))):=aa (row_of hK hF _ ps rfl (by rw [List.length_map];omega) HW.out (by rw [hl];exact HO.out) HK.out);clear HP HO HK HW;go_wp2;go_ret;rw [HZ.out];exact ⟨⟨_,rfl,HV.out⟩,HS.out,HB.out⟩
namespace ai
def Jv {d:Nat} (K:EK (Dat d)) (B:Nat) (x:(Dat d)) (v:Value) (u:World):Prop:=∃o4 n4 k4 o5 n5 k5 o6 n6 k6,v=.agg #[Value.int .i64 x.offset.op,Value.int .i64 x.offset.a,Value.int .i64 x.offset.b,Value.int .i64 x.offset.n,Value.slice o4 n4 k4,Value.slice o5 n5 k5,Value.slice o6 n6 k6,Value.string x.bytes]/\K u (Since B u none) x [Value.int .i64 x.offset.op,Value.int .i64 x.offset.a,Value.int .i64 x.offset.b,Value.int .i64 x.offset.n,Value.slice o4 n4 k4,Value.slice o5 n5 k5,Value.slice o6 n6 k6,Value.string x.bytes]
end ai
theorem FH:(Tryz.prog.info? 82).map (fun i=>(i.zero,i.size,i.bytes))=some (some (.agg #[.int .i64 0,.int .i64 0,.int .i64 0,.int .i64 0,.slice none 0 0,.slice none 0 0,.slice none 0 0,.string ByteArray.empty]),8,120):=by kernel_rfl
theorem Oh {d:Nat} (rd:Nat->R (Dat d)) (K:EK (Dat d)) (F:EA (Dat d)) (hK:dH K) (hF:jT 82 K F) (w0:World) (p:Nat) (s:ByteArray) (c:Nat->Value) (en k i n:Nat) (w:World) (h:RS w0 p s c en k i n w)
  (HE:∀j u,RS w0 p s c en k j n u->Calls Tryz.prog 54 #[.pointer (some ⟨p,0,none⟩)] u (bw w0 p s c en k n (Jv K u.heap.size) u (rd j))) :
  Calls Tryz.prog 53 #[.pointer (some ⟨p,0,none⟩),.func (.func 54) #[.pointer (some ⟨p,0,none⟩)] #[]] w (bw w0 p s c en k n (fun l v u=>aI 8 F u (Since w.heap.size u none) v l) w (aV rd s en i)):=by
 have HC:=aa (nQ w0 p s c en k i n w h);have HE:=aa HE;have hpw:=h.lt;have hlen:=h.len;clear h;unfold aV;cases hx:rc s en i with
 | error z =>
  rw [hx] at HC;rw [bg];clear hx;go_enter Tryz.func53,Tryz.ntmps53;go_wp2_with fail;refine HC.out.mono ?_;rintro e w1 ⟨rfl,hb⟩;exact ⟨rfl,rfl,hb⟩
 | ok v =>
  obtain ⟨x,j⟩:=v;have hrc:=jl hlen hx;rw [hx] at HC;rw [aM];obtain ⟨m,rfl⟩:∃m:Nat,x=(m:Int):=⟨x.toNat,by omega⟩;have hm:m<=4096:=by omega
  rw [show ((m:Int).toNat)=m by omega];obtain ⟨R,hR⟩:∃R,R=rep rd m j:=⟨_,rfl⟩;rw [<- hR];have HR:=aa hR;clear hx hrc hR hlen;go_enter Tryz.func53,Tryz.ntmps53;go_wp2_with fail;refine HC.out.mono ?_;rintro e w1 ⟨⟨v,rfl,hv⟩,h1,h2⟩;have hv:v=.int .i64 m:=hv;subst hv;have H1:=aa h1;have H2:=aa h2;clear h1 h2 HC;go_wp2_with fail;go_loopw [5,8] (fun t u wr=>∃(q:Nat) (ps:List (Pe (Dat d))) (jq:Nat),q<=m/\u=.int .i64 q/\ps.length=q/\(∃o c,t=.slice o q c)/\Hid (R=pre (ps.map (·.1)) (rep rd (m-q) jq))/\Hid (RS w0 p s c en k jq n wr)/\Hid (But p w wr)/\Hid (∀y ∈ ps,y.2.length=8)/\Hid (wr.ownsRow w.heap.size 82 8 t q (fI ps))/\Hid (∀y ∈ ps,K wr (Since w.heap.size wr t.ownBlock) y.1 y.2)) (fun _ u _=>m-(intOf u).toNat)
  case atStart=>exact ⟨0,[],j,by omega,rfl,rfl,⟨none,0,rfl⟩,aa (by rw [HR.out];exact (pre_nil _).symm),H1,H2,aa (fun y hy=>by cases hy),aa (World.ownsRow_nil _ _ _ _),aa (fun y hy=>by cases hy)⟩
  case round =>
   obtain ⟨q,ps,jq,hq,rfl,hl,⟨oT,cT,rfl⟩,HP,HS,HB,HW,HO,HK⟩:=hrel;by_cases hgo:q<m
   ·have hU:=HE.out jq wr HS.out;obtain ⟨r,hr⟩:∃r,m-q=r+1:=⟨m-q-1,by omega⟩;cases hu:rd jq with
    | error z =>
     rw [hu] at hU;have HU:=aa hU;have HZ:Hid (R=.error z):=aa (by rw [HP.out,hr];exact mS _ _ r jq z hu);clear hU hu HP HO HK HW;go_wp2_with fail;refine HU.out.mono ?_;rintro e w2 ⟨rfl,hb⟩;exact ⟨rfl,by rw [HZ.out];exact ⟨rfl,hb⟩⟩
    | ok v =>
     obtain ⟨x,j2⟩:=v;rw [hu] at hU;have HU:=aa hU;have HZ:Hid (R=pre (ps.map (·.1)++[x]) (rep rd (m-(q+1)) j2)):=aa (by rw [HP.out,hr,pre_on _ _ r jq x j2 hu,show m-(q+1)=r by omega]);clear hU hu HP;go_wp2_with fail;refine HU.out.mono ?_;rintro e w2 ⟨⟨v,rfl,hv⟩,h1,h2⟩;obtain ⟨o4,n4,k4,o5,n5,k5,o6,n6,k6,rfl,hk⟩:=hv;have eY:Hid (∀q',(Value.slice oT q cT).ownBlock=some q'->w.heap.size<=q'/\q'<wr.heap.size):=aa (fun q' hq'=>HO.out.lt q' hq');have hup:=kG (B:=w.heap.size) (B2:=wr.heap.size) (u:=w2) (row:=(Value.slice oT q cT).ownBlock) HB.out.size (fun q' hq'=>(eY.out q' hq').2);have dJ:Hid (K w2 (Since w.heap.size w2 (Value.slice oT q cT).ownBlock) x [Value.int .i64 x.offset.op,Value.int .i64 x.offset.a,Value.int .i64 x.offset.b,Value.int .i64 x.offset.n,Value.slice o4 n4 k4,Value.slice o5 n5 k5,Value.slice o6 n6 k6,Value.string x.bytes]):=aa (hK _ _ _ _ hup _ _ hk);have aU:=aa ((fA HO.out hpw h2).alloc (.cells #[Value.int .i64 x.offset.op,Value.int .i64 x.offset.a,Value.int .i64 x.offset.b,Value.int .i64 x.offset.n,Value.slice o4 n4 k4,Value.slice o5 n5 k5,Value.slice o6 n6 k6,Value.string x.bytes] 82));have HN:=aa (qh w2 [Value.int .i64 x.offset.op,Value.int .i64 x.offset.a,Value.int .i64 x.offset.b,Value.int .i64 x.offset.n,Value.slice o4 n4 k4,Value.slice o5 n5 k5,Value.slice o6 n6 k6,Value.string x.bytes] 82);have dh:=aa (fun y hy=>hK _ _ _ _ (jQ hpw h2) _ _ (HK.out y hy));have HB2:=aa ((HB.out.trans h2).trans (But.of p (aD w2 (.cells #[Value.int .i64 x.offset.op,Value.int .i64 x.offset.a,Value.int .i64 x.offset.b,Value.int .i64 x.offset.n,Value.slice o4 n4 k4,Value.slice o5 n5 k5,Value.slice o6 n6 k6,Value.string x.bytes] 82))));have az:=aa (h1.on (aD w2 (.cells #[Value.int .i64 x.offset.op,Value.int .i64 x.offset.a,Value.int .i64 x.offset.b,Value.int .i64 x.offset.n,Value.slice o4 n4 k4,Value.slice o5 n5 k5,Value.slice o6 n6 k6,Value.string x.bytes] 82)));have bh:=aa (aD w2 (.cells #[Value.int .i64 x.offset.op,Value.int .i64 x.offset.a,Value.int .i64 x.offset.b,Value.int .i64 x.offset.n,Value.slice o4 n4 k4,Value.slice o5 n5 k5,Value.slice o6 n6 k6,Value.string x.bytes] 82));have bY:Hid (w.heap.size<=w2.heap.size):=aa (Nat.le_trans HB.out.size h2.size);clear h1 h2 hk hup HU HO HS HB HK eY;obtain ⟨i0,hi,hz0,hz1,hz2⟩:=info_parts FH;go_wp2_with (first|(at_builtin;refine iN rfl _ _ 31 rfl w.heap.size 82 i0 _ 8 120 Tryz.underlying31 hi hz0 hz1 hz2 rfl (by decide) _ _ _ rfl aU.out (some ⟨w2.heap.size,0,none⟩) 1 1 [Value.int .i64 x.offset.op,Value.int .i64 x.offset.a,Value.int .i64 x.offset.b,Value.int .i64 x.offset.n,Value.slice o4 n4 k4,Value.slice o5 n5 k5,Value.slice o6 n6 k6,Value.string x.bytes] rfl ?c6 ?c0 ?c1 ?c2 ?c3 ?c4 ?c5 ?_))
     case c6=>intro h;cases h
     case c0=>rfl
     case c1=>exact fun ad h=>by injection h with h;subst h;exact HN.out
     case c2 =>
      intro u hu;simp only [List.mem_cons,List.mem_nil_iff,or_false] at hu;rcases hu with rfl|rfl|rfl|rfl|rfl|rfl|rfl|rfl
      all_goals rfl
     case c3=>unfold maxLen;omega
     case c4=>omega
     case c5=>have:=bY.out;simp;omega
     intro v9 w9 aW aP aN;have aS:∀q',(Value.slice oT q cT).ownBlock=some q'->w.heap.size<=q':=fun q' hq'=>(aU.out.lt q' hq').1;have bP:=aa (az.out.grown aP (fun q' hq'=>Nat.lt_of_lt_of_le hpw (aS q' hq')));have cG:=aa (But.grown (p:=p) HB2.out aP aS);have dF:Hid (w9.ownsRow w.heap.size 82 8 v9 (q+1) (fI (ps++[(x,[Value.int .i64 x.offset.op,Value.int .i64 x.offset.a,Value.int .i64 x.offset.b,Value.int .i64 x.offset.n,Value.slice o4 n4 k4,Value.slice o5 n5 k5,Value.slice o6 n6 k6,Value.string x.bytes])]))):=aa (by rw [qH];exact aW)
     have jf:Hid (∀y ∈ ps++[(x,[Value.int .i64 x.offset.op,Value.int .i64 x.offset.a,Value.int .i64 x.offset.b,Value.int .i64 x.offset.n,Value.slice o4 n4 k4,Value.slice o5 n5 k5,Value.slice o6 n6 k6,Value.string x.bytes])],K w9 (Since w.heap.size w9 v9.ownBlock) y.1 y.2):=aa (fun y hy=>by
      have key:∀x vs,K w2 (Since w.heap.size w2 (Value.slice oT q cT).ownBlock) x vs->K w9 (Since w.heap.size w9 v9.ownBlock) x vs:=fun x vs h=>hK _ _ _ _ (oC aP (by simpa using aN)) _ _ (hK _ _ _ _ (fw bh.out) _ _ h);rcases List.mem_append.1 hy with hy|hy
      ·exact key _ _ (dh.out y hy)
      ·rw [List.mem_singleton.1 hy];exact key _ _ dJ.out)
     have kO:Hid (∀y ∈ ps++[(x,[Value.int .i64 x.offset.op,Value.int .i64 x.offset.a,Value.int .i64 x.offset.b,Value.int .i64 x.offset.n,Value.slice o4 n4 k4,Value.slice o5 n5 k5,Value.slice o6 n6 k6,Value.string x.bytes])],y.2.length=8):=aa (fun y hy=>by
      rcases List.mem_append.1 hy with hy|hy
      ·exact HW.out y hy
      ·rw [List.mem_singleton.1 hy];rfl)
     have kP:Hid (R=pre ((ps++[(x,[Value.int .i64 x.offset.op,Value.int .i64 x.offset.a,Value.int .i64 x.offset.b,Value.int .i64 x.offset.n,Value.slice o4 n4 k4,Value.slice o5 n5 k5,Value.slice o6 n6 k6,Value.string x.bytes])]).map (·.1)) (rep rd (m-(q+1)) j2)):=aa (by rw [List.map_append];exact HZ.out);have hsl:=fU aW;clear aW aP aN aS aU HN HB2 az dh dJ bh HZ HW;obtain ⟨oN,cN,rfl⟩:=hsl;go_wp2;go_roundw
     case rel=>exact ⟨q+1,ps++[(x,[Value.int .i64 x.offset.op,Value.int .i64 x.offset.a,Value.int .i64 x.offset.b,Value.int .i64 x.offset.n,Value.slice o4 n4 k4,Value.slice o5 n5 k5,Value.slice o6 n6 k6,Value.string x.bytes])],j2,by omega,by go_num,by simp [hl],⟨_,_,rfl⟩,kP,bP,cG,kO,dF,jf⟩
     case measure=>simp [intOf];omega
   ·obtain rfl:q=m:=by omega
    have HZ:Hid (R=.ok (ps.map (·.1),jq)):=aa (by rw [HP.out,Nat.sub_self];exact mU _ _ jq);have HV:Hid (aI 8 F wr (Since w.heap.size wr none) (.slice oT q cT) (ps.map (·.1))):=aa (row_of hK hF _ ps rfl (by rw [List.length_map];omega) HW.out (by rw [hl];exact HO.out) HK.out);clear HP HO HK HW;go_wp2;go_ret;rw [HZ.out];exact ⟨⟨_,rfl,HV.out⟩,HS.out,HB.out⟩
namespace ai
def JY (K:EK FT) (B:Nat) (x:FT) (v:Value) (u:World):Prop:=∃o1 n1 k1 o2 n2 k2,v=.agg #[Value.slice o1 n1 k1,Value.slice o2 n2 k2]/\K u (Since B u none) x [Value.slice o1 n1 k1,Value.slice o2 n2 k2]
end ai
theorem Hf:(Tryz.prog.info? 63).map (fun i=>(i.zero,i.size,i.bytes))=some (some (.agg #[.slice none 0 0,.slice none 0 0]),2,48):=by kernel_rfl
theorem NY (rd:Nat->R FT) (K:EK FT) (F:EA FT) (hK:dH K) (hF:jT 63 K F) (w0:World) (p:Nat) (s:ByteArray) (c:Nat->Value) (en k i n:Nat) (w:World) (h:RS w0 p s c en k i n w)
  (HE:∀j u,RS w0 p s c en k j n u->Calls Tryz.prog 38 #[.pointer (some ⟨p,0,none⟩)] u (bw w0 p s c en k n (JY K u.heap.size) u (rd j))) :
  Calls Tryz.prog 37 #[.pointer (some ⟨p,0,none⟩),.func (.func 38) #[.pointer (some ⟨p,0,none⟩)] #[]] w (bw w0 p s c en k n (fun l v u=>aI 2 F u (Since w.heap.size u none) v l) w (aV rd s en i)):=by
 have HC:=aa (nQ w0 p s c en k i n w h);have HE:=aa HE;have hpw:=h.lt;have hlen:=h.len;clear h;unfold aV;cases hx:rc s en i with
 | error z =>
  rw [hx] at HC;rw [bg];clear hx;go_enter Tryz.func37,Tryz.ntmps37;go_wp2_with fail;refine HC.out.mono ?_;rintro e w1 ⟨rfl,hb⟩;exact ⟨rfl,rfl,hb⟩
 | ok v =>
  obtain ⟨x,j⟩:=v;have hrc:=jl hlen hx;rw [hx] at HC;rw [aM];obtain ⟨m,rfl⟩:∃m:Nat,x=(m:Int):=⟨x.toNat,by omega⟩;have hm:m<=4096:=by omega
  rw [show ((m:Int).toNat)=m by omega];obtain ⟨R,hR⟩:∃R,R=rep rd m j:=⟨_,rfl⟩;rw [<- hR];have HR:=aa hR;clear hx hrc hR hlen;go_enter Tryz.func37,Tryz.ntmps37;go_wp2_with fail;refine HC.out.mono ?_;rintro e w1 ⟨⟨v,rfl,hv⟩,h1,h2⟩;have hv:v=.int .i64 m:=hv;subst hv;have H1:=aa h1;have H2:=aa h2;clear h1 h2 HC;go_wp2_with fail;go_loopw [5,8] (fun t u wr=>∃(q:Nat) (ps:List (Pe FT)) (jq:Nat),q<=m/\u=.int .i64 q/\ps.length=q/\(∃o c,t=.slice o q c)/\Hid (R=pre (ps.map (·.1)) (rep rd (m-q) jq))/\Hid (RS w0 p s c en k jq n wr)/\Hid (But p w wr)/\Hid (∀y ∈ ps,y.2.length=2)/\Hid (wr.ownsRow w.heap.size 63 2 t q (fI ps))/\Hid (∀y ∈ ps,K wr (Since w.heap.size wr t.ownBlock) y.1 y.2)) (fun _ u _=>m-(intOf u).toNat)
  case atStart=>exact ⟨0,[],j,by omega,rfl,rfl,⟨none,0,rfl⟩,aa (by rw [HR.out];exact (pre_nil _).symm),H1,H2,aa (fun y hy=>by cases hy),aa (World.ownsRow_nil _ _ _ _),aa (fun y hy=>by cases hy)⟩
  case round =>
   obtain ⟨q,ps,jq,hq,rfl,hl,⟨oT,cT,rfl⟩,HP,HS,HB,HW,HO,HK⟩:=hrel;by_cases hgo:q<m
   ·have hU:=HE.out jq wr HS.out;obtain ⟨r,hr⟩:∃r,m-q=r+1:=⟨m-q-1,by omega⟩;cases hu:rd jq with
    | error z =>
     rw [hu] at hU;have HU:=aa hU;have HZ:Hid (R=.error z):=aa (by rw [HP.out,hr];exact mS _ _ r jq z hu);clear hU hu HP HO HK HW;go_wp2_with fail;refine HU.out.mono ?_;rintro e w2 ⟨rfl,hb⟩;exact ⟨rfl,by rw [HZ.out];exact ⟨rfl,hb⟩⟩
    | ok v =>
     obtain ⟨x,j2⟩:=v;rw [hu] at hU;have HU:=aa hU;have HZ:Hid (R=pre (ps.map (·.1)++[x]) (rep rd (m-(q+1)) j2)):=aa (by rw [HP.out,hr,pre_on _ _ r jq x j2 hu,show m-(q+1)=r by omega]);clear hU hu HP;go_wp2_with fail;refine HU.out.mono ?_;rintro e w2 ⟨⟨v,rfl,hv⟩,h1,h2⟩;obtain ⟨o1,n1,k1,o2,n2,k2,rfl,hk⟩:=hv;have eY:Hid (∀q',(Value.slice oT q cT).ownBlock=some q'->w.heap.size<=q'/\q'<wr.heap.size):=aa (fun q' hq'=>HO.out.lt q' hq');have hup:=kG (B:=w.heap.size) (B2:=wr.heap.size) (u:=w2) (row:=(Value.slice oT q cT).ownBlock) HB.out.size (fun q' hq'=>(eY.out q' hq').2);have dJ:Hid (K w2 (Since w.heap.size w2 (Value.slice oT q cT).ownBlock) x [Value.slice o1 n1 k1,Value.slice o2 n2 k2]):=aa (hK _ _ _ _ hup _ _ hk);have aU:=aa ((fA HO.out hpw h2).alloc (.cells #[Value.slice o1 n1 k1,Value.slice o2 n2 k2] 63));have HN:=aa (qh w2 [Value.slice o1 n1 k1,Value.slice o2 n2 k2] 63);have dh:=aa (fun y hy=>hK _ _ _ _ (jQ hpw h2) _ _ (HK.out y hy));have HB2:=aa ((HB.out.trans h2).trans (But.of p (aD w2 (.cells #[Value.slice o1 n1 k1,Value.slice o2 n2 k2] 63))));have az:=aa (h1.on (aD w2 (.cells #[Value.slice o1 n1 k1,Value.slice o2 n2 k2] 63)));have bh:=aa (aD w2 (.cells #[Value.slice o1 n1 k1,Value.slice o2 n2 k2] 63));have bY:Hid (w.heap.size<=w2.heap.size):=aa (Nat.le_trans HB.out.size h2.size);clear h1 h2 hk hup HU HO HS HB HK eY;obtain ⟨i0,hi,hz0,hz1,hz2⟩:=info_parts Hf;go_wp2_with (first|(at_builtin;refine iN rfl _ _ 23 rfl w.heap.size 63 i0 _ 2 48 Tryz.underlying23 hi hz0 hz1 hz2 rfl (by decide) _ _ _ rfl aU.out (some ⟨w2.heap.size,0,none⟩) 1 1 [Value.slice o1 n1 k1,Value.slice o2 n2 k2] rfl ?c6 ?c0 ?c1 ?c2 ?c3 ?c4 ?c5 ?_))
     case c6=>intro h;cases h
     case c0=>rfl
     case c1=>exact fun ad h=>by injection h with h;subst h;exact HN.out
     case c2 =>
      intro u hu;simp only [List.mem_cons,List.mem_nil_iff,or_false] at hu;rcases hu with rfl|rfl
      all_goals rfl
     case c3=>unfold maxLen;omega
     case c4=>omega
     case c5=>have:=bY.out;simp;omega
     intro v9 w9 aW aP aN;have aS:∀q',(Value.slice oT q cT).ownBlock=some q'->w.heap.size<=q':=fun q' hq'=>(aU.out.lt q' hq').1;have bP:=aa (az.out.grown aP (fun q' hq'=>Nat.lt_of_lt_of_le hpw (aS q' hq')));have cG:=aa (But.grown (p:=p) HB2.out aP aS);have dF:Hid (w9.ownsRow w.heap.size 63 2 v9 (q+1) (fI (ps++[(x,[Value.slice o1 n1 k1,Value.slice o2 n2 k2])]))):=aa (by rw [qH];exact aW)
     have jf:Hid (∀y ∈ ps++[(x,[Value.slice o1 n1 k1,Value.slice o2 n2 k2])],K w9 (Since w.heap.size w9 v9.ownBlock) y.1 y.2):=aa (fun y hy=>by
      have key:∀x vs,K w2 (Since w.heap.size w2 (Value.slice oT q cT).ownBlock) x vs->K w9 (Since w.heap.size w9 v9.ownBlock) x vs:=fun x vs h=>hK _ _ _ _ (oC aP (by simpa using aN)) _ _ (hK _ _ _ _ (fw bh.out) _ _ h);rcases List.mem_append.1 hy with hy|hy
      ·exact key _ _ (dh.out y hy)
      ·rw [List.mem_singleton.1 hy];exact key _ _ dJ.out)
     have kO:Hid (∀y ∈ ps++[(x,[Value.slice o1 n1 k1,Value.slice o2 n2 k2])],y.2.length=2):=aa (fun y hy=>by
      rcases List.mem_append.1 hy with hy|hy
      ·exact HW.out y hy
      ·rw [List.mem_singleton.1 hy];rfl)
     have kP:Hid (R=pre ((ps++[(x,[Value.slice o1 n1 k1,Value.slice o2 n2 k2])]).map (·.1)) (rep rd (m-(q+1)) j2)):=aa (by rw [List.map_append];exact HZ.out);have hsl:=fU aW;clear aW aP aN aS aU HN HB2 az dh dJ bh HZ HW;obtain ⟨oN,cN,rfl⟩:=hsl;go_wp2;go_roundw
     case rel=>exact ⟨q+1,ps++[(x,[Value.slice o1 n1 k1,Value.slice o2 n2 k2])],j2,by omega,by go_num,by simp [hl],⟨_,_,rfl⟩,kP,bP,cG,kO,dF,jf⟩
     case measure=>simp [intOf];omega
   ·obtain rfl:q=m:=by omega
    have HZ:Hid (R=.ok (ps.map (·.1),jq)):=aa (by rw [HP.out,Nat.sub_self];exact mU _ _ jq);have HV:Hid (aI 2 F wr (Since w.heap.size wr none) (.slice oT q cT) (ps.map (·.1))):=aa (row_of hK hF _ ps rfl (by rw [List.length_map];omega) HW.out (by rw [hl];exact HO.out) HK.out);clear HP HO HK HW;go_wp2;go_ret;rw [HZ.out];exact ⟨⟨_,rfl,HV.out⟩,HS.out,HB.out⟩
end Go.Proofs.YtegboefdolfdgaaGreatDoor

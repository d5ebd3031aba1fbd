/- Texts that the claim needs. -/
import Derived.Test.YtgbbmdknbflilaaDoorQDcu11
import Derived.Test.YtgbbmdknbflilaaDoorQDcu15
namespace Go.Proofs.YtgbbmdknbflilaaDoor
open Go.RowKit Rep Dec
set_option linter.unusedVariables false
namespace Dec
abbrev Pe (α:Type):=α × List Value
def flatE {α:Type} (ps:List (Pe α)):List Value:=ps.flatMap (·.2)
theorem flatE_snoc {α:Type} (ps:List (Pe α)) (q:Pe α):flatE (ps++[q])=flatE ps++q.2:=by unfold flatE;rw [List.flatMap_append];simp
theorem flatE_get {α:Type} {n:Nat}:∀(ps:List (Pe α)),(∀q ∈ ps,q.2.length=n)->∀(i:Nat) (q:Pe α),ps[i]?=some q->∀k v,q.2[k]?=some v->(flatE ps)[i*n+k]?=some v
 | [],_,_,_,h,_,_,_=>by simp at h
 | q0 :: r,hl,0,q,h,k,v,hv=>by
  have:q0=q:=by simpa using h
  subst this
  show (q0.2++flatE r)[0*n+k]?=some v
  have hk:k<q0.2.length:=(List.getElem?_eq_some_iff.1 hv).1
  rw [Nat.zero_mul,Nat.zero_add,List.getElem?_append_left hk]
  exact hv
 | q0 :: r,hl,i+1,q,h,k,v,hv=>by
  have h':r[i]?=some q:=by simpa using h
  have h0:q0.2.length=n:=hl q0 (by simp)
  show (q0.2++flatE r)[(i+1)*n+k]?=some v
  have e:(i+1)*n+k=n+(i*n+k):=by rw [Nat.succ_mul];omega
  rw [e,List.getElem?_append_right (by rw [h0];omega),h0,Nat.add_sub_cancel_left]
  exact flatE_get r (fun q hq=>hl q (by simp [hq])) i q h' k v hv
abbrev EK (α:Type):=World->(Nat->Prop)->α->List Value->Prop
def Keeps {α:Type} (K:EK α):Prop:=∀(w w':World) (S S':Nat->Prop),(∀k,S k->S' k/\w'.heap[k]?=w.heap[k]?)->∀x vs,K w S x vs->K w' S' x vs
abbrev EA (α:Type):=World->(Nat->Prop)->Nat->Nat->α->Prop
def Lies {α:Type} (e:TypeId) (K:EK α) (F:EA α):Prop:=∀(w:World) (S:Nat->Prop) (g o:Nat) x vs,K w S x vs->(∃cur,w.heap[g]?=some (.cells cur e (0,0)))->(∀k v,vs[k]?=some v->w.cell? ⟨g,o+k,none⟩=some v)->F w S g o x
def RowS {α:Type} (n:Nat) (F:EA α) (w:World) (S:Nat->Prop) (v:Value) (l:List α):Prop:=Row n (fun b o x=>S b/\F w S b o x) v l
theorem row_of {α:Type} {K:EK α} {F:EA α} {e:TypeId} (hK:Keeps K) (hF:Lies e K F) {w:World} {B n:Nat} {t:Value} (l:List α) (ps:List (Pe α)) (hm:ps.map (·.1)=l) (hn:l.length<=9223372036854775807) (hw:∀q ∈ ps,q.2.length=n) (ho:w.ownsRow B e n t ps.length (flatE ps)) (hp:∀q ∈ ps,K w (Since B w t.ownBlock) q.1 q.2) :
  RowS n F w (Since B w none) t l:=by
 have hlen:ps.length=l.length:=by rw [<- hm,List.length_map]
 have hup:∀k,Since B w t.ownBlock k->Since B w none k/\w.heap[k]?=w.heap[k]?:=fun k hk=>⟨⟨hk.1,hk.2.1,by simp⟩,rfl⟩
 rcases ho.2 with ⟨rfl,h0⟩|⟨g,cap,cur,rfl,hbg,hg,_,_,_,_⟩
 ·have:l = []:=List.length_eq_zero_iff.1 (by omega)
  subst this
  exact ⟨by simp,.inl ⟨rfl,none,0,rfl⟩⟩
 ·have hgl:g<w.heap.size:=(Array.getElem?_eq_some_iff.1 hg).1
  refine ⟨hn,.inr ⟨g,0,cap,by rw [hlen],fun i x hx=>?_⟩⟩
  have hi:i<ps.length:=by rw [hlen];exact (List.getElem?_eq_some_iff.1 hx).1
  obtain ⟨q,hpi⟩:∃q,ps[i]?=some q:=⟨_,List.getElem?_eq_getElem hi⟩
  have hpx:q.1=x:=by
   have:(ps.map (·.1))[i]?=some q.1:=by rw [List.getElem?_map,hpi];rfl
   rw [hm,hx] at this
   exact (Option.some.inj this).symm
  subst hpx
  refine ⟨⟨hbg,hgl,by simp⟩,hF w _ g _ q.1 q.2 (hK _ _ _ _ hup _ _ (hp q (List.mem_of_getElem? hpi))) ⟨cur,hg⟩ fun k v hv=>?_⟩
  have:=ho.cells (g:=g) rfl (i*n+k) v (flatE_get ps hw i q hpi k v hv)
  rw [add_addr] at this
  rw [Nat.add_assoc]
  exact this
theorem cells_new (w:World) (vs:List Value) (t:TypeId):∀(j:Nat) (u:Value),vs[j]?=some u->(w.alloc (.cells vs.toArray t)).cell? ((⟨w.heap.size,0,none⟩:Addr).add j)=some u:=fun j u hj=>by
 rw [add_addr,World.cell?_alloc_at _ t _ _ rfl,Nat.zero_add]
 simpa using hj
def rents {α:Type} (f:Nat->R α) (s:ByteArray) (en i:Nat):R (List α):=bd (rc s en i) fun n j=>rep f n.toNat j
end Dec
namespace Dec
def vExp (K:EK Exp) (B:Nat) (x:Exp) (v:Value) (u:World):Prop:=v=.agg #[Value.string x.name,Value.int .i64 x.kind,Value.int .i64 x.index]/\K u (Since B u none) x [Value.string x.name,Value.int .i64 x.kind,Value.int .i64 x.index]
end Dec
theorem infoExp:(Tryd.prog.info? 81).map (fun i=>(i.zero,i.size,i.bytes))=some (some (.agg #[.string ByteArray.empty,.int .i64 0,.int .i64 0]),3,32):=by kernel_rfl
set_option maxRecDepth 100000 in
set_option maxHeartbeats 8000000 in
theorem dExps (rd:Nat->R Exp) (K:EK Exp) (F:EA Exp) (hK:Keeps K) (hF:Lies 81 K F) (w0:World) (p:Nat) (s:ByteArray) (c:Nat->Value) (en k i n:Nat) (w:World) (h:RS w0 p s c en k i n w)
  (HE:∀j u,RS w0 p s c en k j n u->Calls Tryd.prog 34 #[.pointer (some ⟨p,0,none⟩)] u (Rds w0 p s c en k n (vExp K u.heap.size) u (rd j))) :
  Calls Tryd.prog 33 #[.pointer (some ⟨p,0,none⟩),.func (.func 34) #[.pointer (some ⟨p,0,none⟩)] #[]] w (Rds w0 p s c en k n (fun l v u=>RowS 3 F u (Since w.heap.size u none) v l) w (rents rd s en i)):=by
 have HC:=hideR (dCnt w0 p s c en k i n w h)
 have HE:=hideR HE
 have hpw:=h.lt
 have hlen:=h.len
 clear h
 unfold rents
 cases hx:rc s en i with
 | error z =>
  rw [hx] at HC
  rw [bd_err]
  clear hx
  go_enter Tryd.func33,Tryd.ntmps33
  go_wp2_with fail
  refine HC.out.mono ?_
  rintro e w1 ⟨rfl,hb⟩
  exact ⟨rfl,rfl,hb⟩
 | ok v =>
  obtain ⟨x,j⟩:=v
  have hrc:=rc_ok hlen hx
  rw [hx] at HC
  rw [bd_ok]
  obtain ⟨m,rfl⟩:∃m:Nat,x=(m:Int):=⟨x.toNat,by omega⟩
  have hm:m<=4096:=by omega
  rw [show ((m:Int).toNat)=m by omega]
  obtain ⟨R,hR⟩:∃R,R=rep rd m j:=⟨_,rfl⟩
  rw [<- hR]
  have HR:=hideR hR
  clear hx hrc hR hlen
  go_enter Tryd.func33,Tryd.ntmps33
  go_wp2_with fail
  refine HC.out.mono ?_
  rintro e w1 ⟨⟨v,rfl,hv⟩,h1,h2⟩
  have hv:v=.int .i64 m:=hv
  subst hv
  have H1:=hideR h1
  have H2:=hideR h2
  clear h1 h2 HC
  go_wp2_with fail
  go_loopw [5,8] (fun t u wr=>∃(q:Nat) (ps:List (Pe Exp)) (jq:Nat),q<=m/\u=.int .i64 q/\ps.length=q/\(∃o c,t=.slice o q c)/\Hid (R=pre (ps.map (·.1)) (rep rd (m-q) jq))/\Hid (RS w0 p s c en k jq n wr)/\Hid (But p w wr)/\Hid (∀y ∈ ps,y.2.length=3)/\Hid (wr.ownsRow w.heap.size 81 3 t q (flatE ps))/\Hid (∀y ∈ ps,K wr (Since w.heap.size wr t.ownBlock) y.1 y.2)) (fun _ u _=>m-(intOf u).toNat)
  case atStart=>exact ⟨0,[],j,by omega,rfl,rfl,⟨none,0,rfl⟩,hideR (by rw [HR.out];exact (pre_nil _).symm),H1,H2,hideR (fun y hy=>by cases hy),hideR (World.ownsRow_nil _ _ _ _),hideR (fun y hy=>by cases hy)⟩
  case round =>
   obtain ⟨q,ps,jq,hq,rfl,hl,⟨oT,cT,rfl⟩,HP,HS,HB,HW,HO,HK⟩:=hrel
   by_cases hgo:q<m
   ·have hU:=HE.out jq wr HS.out
    obtain ⟨r,hr⟩:∃r,m-q=r+1:=⟨m-q-1,by omega⟩
    cases hu:rd jq with
    | error z =>
     rw [hu] at hU
     have HU:=hideR hU
     have HZ:Hid (R=.error z):=hideR (by rw [HP.out,hr];exact pre_err _ _ r jq z hu)
     clear hU hu HP HO HK HW
     go_wp2_with fail
     refine HU.out.mono ?_
     rintro e w2 ⟨rfl,hb⟩
     exact ⟨rfl,by rw [HZ.out];exact ⟨rfl,hb⟩⟩
    | ok v =>
     obtain ⟨x,j2⟩:=v
     rw [hu] at hU
     have HU:=hideR hU
     have HZ:Hid (R=pre (ps.map (·.1)++[x]) (rep rd (m-(q+1)) j2)):=hideR (by rw [HP.out,hr,pre_on _ _ r jq x j2 hu,show m-(q+1)=r by omega])
     clear hU hu HP
     go_wp2_with fail
     refine HU.out.mono ?_
     rintro e w2 ⟨⟨v,rfl,hv⟩,h1,h2⟩
     obtain ⟨rfl,hk⟩:=hv
     have HSZ1:Hid (∀q',(Value.slice oT q cT).ownBlock=some q'->w.heap.size<=q'/\q'<wr.heap.size):=hideR (fun q' hq'=>HO.out.lt q' hq')
     have hup:=since_new (B:=w.heap.size) (B2:=wr.heap.size) (u:=w2) (row:=(Value.slice oT q cT).ownBlock) HB.out.size (fun q' hq'=>(HSZ1.out q' hq').2)
     have HNEW:Hid (K w2 (Since w.heap.size w2 (Value.slice oT q cT).ownBlock) x [Value.string x.name,Value.int .i64 x.kind,Value.int .i64 x.index]):=hideR (hK _ _ _ _ hup _ _ hk)
     have HO2:=hideR ((own_but HO.out hpw h2).alloc (.cells #[Value.string x.name,Value.int .i64 x.kind,Value.int .i64 x.index] 81))
     have HN:=hideR (cells_new w2 [Value.string x.name,Value.int .i64 x.kind,Value.int .i64 x.index] 81)
     have HK2:=hideR (fun y hy=>hK _ _ _ _ (since_butO hpw h2) _ _ (HK.out y hy))
     have HB2:=hideR ((HB.out.trans h2).trans (But.of p (new_on' w2 (.cells #[Value.string x.name,Value.int .i64 x.kind,Value.int .i64 x.index] 81))))
     have HS2:=hideR (h1.on (new_on' w2 (.cells #[Value.string x.name,Value.int .i64 x.kind,Value.int .i64 x.index] 81)))
     have HBL:=hideR (new_on' w2 (.cells #[Value.string x.name,Value.int .i64 x.kind,Value.int .i64 x.index] 81))
     have HSZ:Hid (w.heap.size<=w2.heap.size):=hideR (Nat.le_trans HB.out.size h2.size)
     clear h1 h2 hk hup HU HO HS HB HK HSZ1
     obtain ⟨i0,hi,hz0,hz1,hz2⟩:=info_parts infoExp
     go_wp2_with (first|(at_builtin;refine wpList_appS rfl _ _ 28 rfl w.heap.size 81 i0 _ 3 32 Tryd.underlying28 hi hz0 hz1 hz2 rfl (by decide) _ _ _ rfl HO2.out (some ⟨w2.heap.size,0,none⟩) 1 1 [Value.string x.name,Value.int .i64 x.kind,Value.int .i64 x.index] rfl ?c6 ?c0 ?c1 ?c2 ?c3 ?c4 ?c5 ?_))
     case c6=>intro h;cases h
     case c0=>rfl
     case c1=>exact fun ad h=>by injection h with h;subst h;exact HN.out
     case c2 =>
      intro u hu
      simp only [List.mem_cons,List.mem_nil_iff,or_false] at hu
      rcases hu with rfl|rfl|rfl
      all_goals rfl
     case c3=>unfold maxLen;omega
     case c4=>omega
     case c5=>have:=HSZ.out;simp;omega
     intro v9 w9 hown9 hg9 hv9
     have ho9:∀q',(Value.slice oT q cT).ownBlock=some q'->w.heap.size<=q':=fun q' hq'=>(HO2.out.lt q' hq').1
     have HS9:=hideR (HS2.out.grown hg9 (fun q' hq'=>Nat.lt_of_lt_of_le hpw (ho9 q' hq')))
     have HB9:=hideR (But.grown (p:=p) HB2.out hg9 ho9)
     have HO9:Hid (w9.ownsRow w.heap.size 81 3 v9 (q+1) (flatE (ps++[(x,[Value.string x.name,Value.int .i64 x.kind,Value.int .i64 x.index])]))):=hideR (by rw [flatE_snoc];exact hown9)
     have HK9:Hid (∀y ∈ ps++[(x,[Value.string x.name,Value.int .i64 x.kind,Value.int .i64 x.index])],K w9 (Since w.heap.size w9 v9.ownBlock) y.1 y.2):=hideR (fun y hy=>by
      have key:∀x vs,K w2 (Since w.heap.size w2 (Value.slice oT q cT).ownBlock) x vs->K w9 (Since w.heap.size w9 v9.ownBlock) x vs:=fun x vs h=>hK _ _ _ _ (since_grown hg9 (by simpa using hv9)) _ _ (hK _ _ _ _ (since_below HBL.out) _ _ h)
      rcases List.mem_append.1 hy with hy|hy
      ·exact key _ _ (HK2.out y hy)
      ·rw [List.mem_singleton.1 hy];exact key _ _ HNEW.out)
     have HW9:Hid (∀y ∈ ps++[(x,[Value.string x.name,Value.int .i64 x.kind,Value.int .i64 x.index])],y.2.length=3):=hideR (fun y hy=>by
      rcases List.mem_append.1 hy with hy|hy
      ·exact HW.out y hy
      ·rw [List.mem_singleton.1 hy];rfl)
     have HZ9:Hid (R=pre ((ps++[(x,[Value.string x.name,Value.int .i64 x.kind,Value.int .i64 x.index])]).map (·.1)) (rep rd (m-(q+1)) j2)):=hideR (by rw [List.map_append];exact HZ.out)
     have hsl:=own_slice hown9
     clear hown9 hg9 hv9 ho9 HO2 HN HB2 HS2 HK2 HNEW HBL HZ HW
     obtain ⟨oN,cN,rfl⟩:=hsl
     go_wp2
     go_roundw
     case rel=>exact ⟨q+1,ps++[(x,[Value.string x.name,Value.int .i64 x.kind,Value.int .i64 x.index])],j2,by omega,by go_num,by simp [hl],⟨_,_,rfl⟩,HZ9,HS9,HB9,HW9,HO9,HK9⟩
     case measure=>simp [intOf];omega
   ·obtain rfl:q=m:=by omega
    have HZ:Hid (R=.ok (ps.map (·.1),jq)):=hideR (by rw [HP.out,Nat.sub_self];exact pre_end _ _ jq)
    have HV:Hid (RowS 3 F wr (Since w.heap.size wr none) (.slice oT q cT) (ps.map (·.1))):=hideR (row_of hK hF _ ps rfl (by rw [List.length_map];omega) HW.out (by rw [hl];exact HO.out) HK.out)
    clear HP HO HK HW
    go_wp2
    go_ret
    rw [HZ.out]
    exact ⟨⟨_,rfl,HV.out⟩,HS.out,HB.out⟩
namespace Dec
def vImp (K:EK Imp) (B:Nat) (x:Imp) (v:Value) (u:World):Prop:=v=.agg #[Value.string x.mod,Value.string x.name,Value.int .i64 x.type]/\K u (Since B u none) x [Value.string x.mod,Value.string x.name,Value.int .i64 x.type]
end Dec
theorem infoImp:(Tryd.prog.info? 62).map (fun i=>(i.zero,i.size,i.bytes))=some (some (.agg #[.string ByteArray.empty,.string ByteArray.empty,.int .i64 0]),3,40):=by kernel_rfl
set_option maxRecDepth 100000 in
set_option maxHeartbeats 8000000 in
theorem dImps (rd:Nat->R Imp) (K:EK Imp) (F:EA Imp) (hK:Keeps K) (hF:Lies 62 K F) (w0:World) (p:Nat) (s:ByteArray) (c:Nat->Value) (en k i n:Nat) (w:World) (h:RS w0 p s c en k i n w)
  (HE:∀j u,RS w0 p s c en k j n u->Calls Tryd.prog 25 #[.pointer (some ⟨p,0,none⟩)] u (Rds w0 p s c en k n (vImp K u.heap.size) u (rd j))) :
  Calls Tryd.prog 24 #[.pointer (some ⟨p,0,none⟩),.func (.func 25) #[.pointer (some ⟨p,0,none⟩)] #[]] w (Rds w0 p s c en k n (fun l v u=>RowS 3 F u (Since w.heap.size u none) v l) w (rents rd s en i)):=by
 have HC:=hideR (dCnt w0 p s c en k i n w h)
 have HE:=hideR HE
 have hpw:=h.lt
 have hlen:=h.len
 clear h
 unfold rents
 cases hx:rc s en i with
 | error z =>
  rw [hx] at HC
  rw [bd_err]
  clear hx
  go_enter Tryd.func24,Tryd.ntmps24
  go_wp2_with fail
  refine HC.out.mono ?_
  rintro e w1 ⟨rfl,hb⟩
  exact ⟨rfl,rfl,hb⟩
 | ok v =>
  obtain ⟨x,j⟩:=v
  have hrc:=rc_ok hlen hx
  rw [hx] at HC
  rw [bd_ok]
  obtain ⟨m,rfl⟩:∃m:Nat,x=(m:Int):=⟨x.toNat,by omega⟩
  have hm:m<=4096:=by omega
  rw [show ((m:Int).toNat)=m by omega]
  obtain ⟨R,hR⟩:∃R,R=rep rd m j:=⟨_,rfl⟩
  rw [<- hR]
  have HR:=hideR hR
  clear hx hrc hR hlen
  go_enter Tryd.func24,Tryd.ntmps24
  go_wp2_with fail
  refine HC.out.mono ?_
  rintro e w1 ⟨⟨v,rfl,hv⟩,h1,h2⟩
  have hv:v=.int .i64 m:=hv
  subst hv
  have H1:=hideR h1
  have H2:=hideR h2
  clear h1 h2 HC
  go_wp2_with fail
  go_loopw [5,8] (fun t u wr=>∃(q:Nat) (ps:List (Pe Imp)) (jq:Nat),q<=m/\u=.int .i64 q/\ps.length=q/\(∃o c,t=.slice o q c)/\Hid (R=pre (ps.map (·.1)) (rep rd (m-q) jq))/\Hid (RS w0 p s c en k jq n wr)/\Hid (But p w wr)/\Hid (∀y ∈ ps,y.2.length=3)/\Hid (wr.ownsRow w.heap.size 62 3 t q (flatE ps))/\Hid (∀y ∈ ps,K wr (Since w.heap.size wr t.ownBlock) y.1 y.2)) (fun _ u _=>m-(intOf u).toNat)
  case atStart=>exact ⟨0,[],j,by omega,rfl,rfl,⟨none,0,rfl⟩,hideR (by rw [HR.out];exact (pre_nil _).symm),H1,H2,hideR (fun y hy=>by cases hy),hideR (World.ownsRow_nil _ _ _ _),hideR (fun y hy=>by cases hy)⟩
  case round =>
   obtain ⟨q,ps,jq,hq,rfl,hl,⟨oT,cT,rfl⟩,HP,HS,HB,HW,HO,HK⟩:=hrel
   by_cases hgo:q<m
   ·have hU:=HE.out jq wr HS.out
    obtain ⟨r,hr⟩:∃r,m-q=r+1:=⟨m-q-1,by omega⟩
    cases hu:rd jq with
    | error z =>
     rw [hu] at hU
     have HU:=hideR hU
     have HZ:Hid (R=.error z):=hideR (by rw [HP.out,hr];exact pre_err _ _ r jq z hu)
     clear hU hu HP HO HK HW
     go_wp2_with fail
     refine HU.out.mono ?_
     rintro e w2 ⟨rfl,hb⟩
     exact ⟨rfl,by rw [HZ.out];exact ⟨rfl,hb⟩⟩
    | ok v =>
     obtain ⟨x,j2⟩:=v
     rw [hu] at hU
     have HU:=hideR hU
     have HZ:Hid (R=pre (ps.map (·.1)++[x]) (rep rd (m-(q+1)) j2)):=hideR (by rw [HP.out,hr,pre_on _ _ r jq x j2 hu,show m-(q+1)=r by omega])
     clear hU hu HP
     go_wp2_with fail
     refine HU.out.mono ?_
     rintro e w2 ⟨⟨v,rfl,hv⟩,h1,h2⟩
     obtain ⟨rfl,hk⟩:=hv
     have HSZ1:Hid (∀q',(Value.slice oT q cT).ownBlock=some q'->w.heap.size<=q'/\q'<wr.heap.size):=hideR (fun q' hq'=>HO.out.lt q' hq')
     have hup:=since_new (B:=w.heap.size) (B2:=wr.heap.size) (u:=w2) (row:=(Value.slice oT q cT).ownBlock) HB.out.size (fun q' hq'=>(HSZ1.out q' hq').2)
     have HNEW:Hid (K w2 (Since w.heap.size w2 (Value.slice oT q cT).ownBlock) x [Value.string x.mod,Value.string x.name,Value.int .i64 x.type]):=hideR (hK _ _ _ _ hup _ _ hk)
     have HO2:=hideR ((own_but HO.out hpw h2).alloc (.cells #[Value.string x.mod,Value.string x.name,Value.int .i64 x.type] 62))
     have HN:=hideR (cells_new w2 [Value.string x.mod,Value.string x.name,Value.int .i64 x.type] 62)
     have HK2:=hideR (fun y hy=>hK _ _ _ _ (since_butO hpw h2) _ _ (HK.out y hy))
     have HB2:=hideR ((HB.out.trans h2).trans (But.of p (new_on' w2 (.cells #[Value.string x.mod,Value.string x.name,Value.int .i64 x.type] 62))))
     have HS2:=hideR (h1.on (new_on' w2 (.cells #[Value.string x.mod,Value.string x.name,Value.int .i64 x.type] 62)))
     have HBL:=hideR (new_on' w2 (.cells #[Value.string x.mod,Value.string x.name,Value.int .i64 x.type] 62))
     have HSZ:Hid (w.heap.size<=w2.heap.size):=hideR (Nat.le_trans HB.out.size h2.size)
     clear h1 h2 hk hup HU HO HS HB HK HSZ1
     obtain ⟨i0,hi,hz0,hz1,hz2⟩:=info_parts infoImp
     go_wp2_with (first|(at_builtin;refine wpList_appS rfl _ _ 24 rfl w.heap.size 62 i0 _ 3 40 Tryd.underlying24 hi hz0 hz1 hz2 rfl (by decide) _ _ _ rfl HO2.out (some ⟨w2.heap.size,0,none⟩) 1 1 [Value.string x.mod,Value.string x.name,Value.int .i64 x.type] rfl ?c6 ?c0 ?c1 ?c2 ?c3 ?c4 ?c5 ?_))
     case c6=>intro h;cases h
     case c0=>rfl
     case c1=>exact fun ad h=>by injection h with h;subst h;exact HN.out
     case c2 =>
      intro u hu
      simp only [List.mem_cons,List.mem_nil_iff,or_false] at hu
      rcases hu with rfl|rfl|rfl
      all_goals rfl
     case c3=>unfold maxLen;omega
     case c4=>omega
     case c5=>have:=HSZ.out;simp;omega
     intro v9 w9 hown9 hg9 hv9
     have ho9:∀q',(Value.slice oT q cT).ownBlock=some q'->w.heap.size<=q':=fun q' hq'=>(HO2.out.lt q' hq').1
     have HS9:=hideR (HS2.out.grown hg9 (fun q' hq'=>Nat.lt_of_lt_of_le hpw (ho9 q' hq')))
     have HB9:=hideR (But.grown (p:=p) HB2.out hg9 ho9)
     have HO9:Hid (w9.ownsRow w.heap.size 62 3 v9 (q+1) (flatE (ps++[(x,[Value.string x.mod,Value.string x.name,Value.int .i64 x.type])]))):=hideR (by rw [flatE_snoc];exact hown9)
     have HK9:Hid (∀y ∈ ps++[(x,[Value.string x.mod,Value.string x.name,Value.int .i64 x.type])],K w9 (Since w.heap.size w9 v9.ownBlock) y.1 y.2):=hideR (fun y hy=>by
      have key:∀x vs,K w2 (Since w.heap.size w2 (Value.slice oT q cT).ownBlock) x vs->K w9 (Since w.heap.size w9 v9.ownBlock) x vs:=fun x vs h=>hK _ _ _ _ (since_grown hg9 (by simpa using hv9)) _ _ (hK _ _ _ _ (since_below HBL.out) _ _ h)
      rcases List.mem_append.1 hy with hy|hy
      ·exact key _ _ (HK2.out y hy)
      ·rw [List.mem_singleton.1 hy];exact key _ _ HNEW.out)
     have HW9:Hid (∀y ∈ ps++[(x,[Value.string x.mod,Value.string x.name,Value.int .i64 x.type])],y.2.length=3):=hideR (fun y hy=>by
      rcases List.mem_append.1 hy with hy|hy
      ·exact HW.out y hy
      ·rw [List.mem_singleton.1 hy];rfl)
     have HZ9:Hid (R=pre ((ps++[(x,[Value.string x.mod,Value.string x.name,Value.int .i64 x.type])]).map (·.1)) (rep rd (m-(q+1)) j2)):=hideR (by rw [List.map_append];exact HZ.out)
     have hsl:=own_slice hown9
     clear hown9 hg9 hv9 ho9 HO2 HN HB2 HS2 HK2 HNEW HBL HZ HW
     obtain ⟨oN,cN,rfl⟩:=hsl
     go_wp2
     go_roundw
     case rel=>exact ⟨q+1,ps++[(x,[Value.string x.mod,Value.string x.name,Value.int .i64 x.type])],j2,by omega,by go_num,by simp [hl],⟨_,_,rfl⟩,HZ9,HS9,HB9,HW9,HO9,HK9⟩
     case measure=>simp [intOf];omega
   ·obtain rfl:q=m:=by omega
    have HZ:Hid (R=.ok (ps.map (·.1),jq)):=hideR (by rw [HP.out,Nat.sub_self];exact pre_end _ _ jq)
    have HV:Hid (RowS 3 F wr (Since w.heap.size wr none) (.slice oT q cT) (ps.map (·.1))):=hideR (row_of hK hF _ ps rfl (by rw [List.length_map];omega) HW.out (by rw [hl];exact HO.out) HK.out)
    clear HP HO HK HW
    go_wp2
    go_ret
    rw [HZ.out]
    exact ⟨⟨_,rfl,HV.out⟩,HS.out,HB.out⟩
namespace Dec
def vLim (K:EK Lim) (B:Nat) (x:Lim) (v:Value) (u:World):Prop:=v=.agg #[Value.int .i64 x.min,Value.int .i64 x.max,Value.bool x.has]/\K u (Since B u none) x [Value.int .i64 x.min,Value.int .i64 x.max,Value.bool x.has]
end Dec
theorem infoLim:(Tryd.prog.info? 71).map (fun i=>(i.zero,i.size,i.bytes))=some (some (.agg #[.int .i64 0,.int .i64 0,.bool false]),3,24):=by kernel_rfl
set_option maxRecDepth 100000 in
set_option maxHeartbeats 8000000 in
theorem dLims (rd:Nat->R Lim) (K:EK Lim) (F:EA Lim) (hK:Keeps K) (hF:Lies 71 K F) (w0:World) (p:Nat) (s:ByteArray) (c:Nat->Value) (en k i n:Nat) (w:World) (h:RS w0 p s c en k i n w)
  (HE:∀j u,RS w0 p s c en k j n u->Calls Tryd.prog 30 #[.pointer (some ⟨p,0,none⟩)] u (Rds w0 p s c en k n (vLim K u.heap.size) u (rd j))) :
  Calls Tryd.prog 28 #[.pointer (some ⟨p,0,none⟩),.func (.func 30) #[.pointer (some ⟨p,0,none⟩)] #[]] w (Rds w0 p s c en k n (fun l v u=>RowS 3 F u (Since w.heap.size u none) v l) w (rents rd s en i)):=by
 have HC:=hideR (dCnt w0 p s c en k i n w h)
 have HE:=hideR HE
 have hpw:=h.lt
 have hlen:=h.len
 clear h
 unfold rents
 cases hx:rc s en i with
 | error z =>
  rw [hx] at HC
  rw [bd_err]
  clear hx
  go_enter Tryd.func28,Tryd.ntmps28
  go_wp2_with fail
  refine HC.out.mono ?_
  rintro e w1 ⟨rfl,hb⟩
  exact ⟨rfl,rfl,hb⟩
 | ok v =>
  obtain ⟨x,j⟩:=v
  have hrc:=rc_ok hlen hx
  rw [hx] at HC
  rw [bd_ok]
  obtain ⟨m,rfl⟩:∃m:Nat,x=(m:Int):=⟨x.toNat,by omega⟩
  have hm:m<=4096:=by omega
  rw [show ((m:Int).toNat)=m by omega]
  obtain ⟨R,hR⟩:∃R,R=rep rd m j:=⟨_,rfl⟩
  rw [<- hR]
  have HR:=hideR hR
  clear hx hrc hR hlen
  go_enter Tryd.func28,Tryd.ntmps28
  go_wp2_with fail
  refine HC.out.mono ?_
  rintro e w1 ⟨⟨v,rfl,hv⟩,h1,h2⟩
  have hv:v=.int .i64 m:=hv
  subst hv
  have H1:=hideR h1
  have H2:=hideR h2
  clear h1 h2 HC
  go_wp2_with fail
  go_loopw [5,8] (fun t u wr=>∃(q:Nat) (ps:List (Pe Lim)) (jq:Nat),q<=m/\u=.int .i64 q/\ps.length=q/\(∃o c,t=.slice o q c)/\Hid (R=pre (ps.map (·.1)) (rep rd (m-q) jq))/\Hid (RS w0 p s c en k jq n wr)/\Hid (But p w wr)/\Hid (∀y ∈ ps,y.2.length=3)/\Hid (wr.ownsRow w.heap.size 71 3 t q (flatE ps))/\Hid (∀y ∈ ps,K wr (Since w.heap.size wr t.ownBlock) y.1 y.2)) (fun _ u _=>m-(intOf u).toNat)
  case atStart=>exact ⟨0,[],j,by omega,rfl,rfl,⟨none,0,rfl⟩,hideR (by rw [HR.out];exact (pre_nil _).symm),H1,H2,hideR (fun y hy=>by cases hy),hideR (World.ownsRow_nil _ _ _ _),hideR (fun y hy=>by cases hy)⟩
  case round =>
   obtain ⟨q,ps,jq,hq,rfl,hl,⟨oT,cT,rfl⟩,HP,HS,HB,HW,HO,HK⟩:=hrel
   by_cases hgo:q<m
   ·have hU:=HE.out jq wr HS.out
    obtain ⟨r,hr⟩:∃r,m-q=r+1:=⟨m-q-1,by omega⟩
    cases hu:rd jq with
    | error z =>
     rw [hu] at hU
     have HU:=hideR hU
     have HZ:Hid (R=.error z):=hideR (by rw [HP.out,hr];exact pre_err _ _ r jq z hu)
     clear hU hu HP HO HK HW
     go_wp2_with fail
     refine HU.out.mono ?_
     rintro e w2 ⟨rfl,hb⟩
     exact ⟨rfl,by rw [HZ.out];exact ⟨rfl,hb⟩⟩
    | ok v =>
     obtain ⟨x,j2⟩:=v
     rw [hu] at hU
     have HU:=hideR hU
     have HZ:Hid (R=pre (ps.map (·.1)++[x]) (rep rd (m-(q+1)) j2)):=hideR (by rw [HP.out,hr,pre_on _ _ r jq x j2 hu,show m-(q+1)=r by omega])
     clear hU hu HP
     go_wp2_with fail
     refine HU.out.mono ?_
     rintro e w2 ⟨⟨v,rfl,hv⟩,h1,h2⟩
     obtain ⟨rfl,hk⟩:=hv
     have HSZ1:Hid (∀q',(Value.slice oT q cT).ownBlock=some q'->w.heap.size<=q'/\q'<wr.heap.size):=hideR (fun q' hq'=>HO.out.lt q' hq')
     have hup:=since_new (B:=w.heap.size) (B2:=wr.heap.size) (u:=w2) (row:=(Value.slice oT q cT).ownBlock) HB.out.size (fun q' hq'=>(HSZ1.out q' hq').2)
     have HNEW:Hid (K w2 (Since w.heap.size w2 (Value.slice oT q cT).ownBlock) x [Value.int .i64 x.min,Value.int .i64 x.max,Value.bool x.has]):=hideR (hK _ _ _ _ hup _ _ hk)
     have HO2:=hideR ((own_but HO.out hpw h2).alloc (.cells #[Value.int .i64 x.min,Value.int .i64 x.max,Value.bool x.has] 71))
     have HN:=hideR (cells_new w2 [Value.int .i64 x.min,Value.int .i64 x.max,Value.bool x.has] 71)
     have HK2:=hideR (fun y hy=>hK _ _ _ _ (since_butO hpw h2) _ _ (HK.out y hy))
     have HB2:=hideR ((HB.out.trans h2).trans (But.of p (new_on' w2 (.cells #[Value.int .i64 x.min,Value.int .i64 x.max,Value.bool x.has] 71))))
     have HS2:=hideR (h1.on (new_on' w2 (.cells #[Value.int .i64 x.min,Value.int .i64 x.max,Value.bool x.has] 71)))
     have HBL:=hideR (new_on' w2 (.cells #[Value.int .i64 x.min,Value.int .i64 x.max,Value.bool x.has] 71))
     have HSZ:Hid (w.heap.size<=w2.heap.size):=hideR (Nat.le_trans HB.out.size h2.size)
     clear h1 h2 hk hup HU HO HS HB HK HSZ1
     obtain ⟨i0,hi,hz0,hz1,hz2⟩:=info_parts infoLim
     go_wp2_with (first|(at_builtin;refine wpList_appS rfl _ _ 26 rfl w.heap.size 71 i0 _ 3 24 Tryd.underlying26 hi hz0 hz1 hz2 rfl (by decide) _ _ _ rfl HO2.out (some ⟨w2.heap.size,0,none⟩) 1 1 [Value.int .i64 x.min,Value.int .i64 x.max,Value.bool x.has] rfl ?c6 ?c0 ?c1 ?c2 ?c3 ?c4 ?c5 ?_))
     case c6=>intro h;cases h
     case c0=>rfl
     case c1=>exact fun ad h=>by injection h with h;subst h;exact HN.out
     case c2 =>
      intro u hu
      simp only [List.mem_cons,List.mem_nil_iff,or_false] at hu
      rcases hu with rfl|rfl|rfl
      all_goals rfl
     case c3=>unfold maxLen;omega
     case c4=>omega
     case c5=>have:=HSZ.out;simp;omega
     intro v9 w9 hown9 hg9 hv9
     have ho9:∀q',(Value.slice oT q cT).ownBlock=some q'->w.heap.size<=q':=fun q' hq'=>(HO2.out.lt q' hq').1
     have HS9:=hideR (HS2.out.grown hg9 (fun q' hq'=>Nat.lt_of_lt_of_le hpw (ho9 q' hq')))
     have HB9:=hideR (But.grown (p:=p) HB2.out hg9 ho9)
     have HO9:Hid (w9.ownsRow w.heap.size 71 3 v9 (q+1) (flatE (ps++[(x,[Value.int .i64 x.min,Value.int .i64 x.max,Value.bool x.has])]))):=hideR (by rw [flatE_snoc];exact hown9)
     have HK9:Hid (∀y ∈ ps++[(x,[Value.int .i64 x.min,Value.int .i64 x.max,Value.bool x.has])],K w9 (Since w.heap.size w9 v9.ownBlock) y.1 y.2):=hideR (fun y hy=>by
      have key:∀x vs,K w2 (Since w.heap.size w2 (Value.slice oT q cT).ownBlock) x vs->K w9 (Since w.heap.size w9 v9.ownBlock) x vs:=fun x vs h=>hK _ _ _ _ (since_grown hg9 (by simpa using hv9)) _ _ (hK _ _ _ _ (since_below HBL.out) _ _ h)
      rcases List.mem_append.1 hy with hy|hy
      ·exact key _ _ (HK2.out y hy)
      ·rw [List.mem_singleton.1 hy];exact key _ _ HNEW.out)
     have HW9:Hid (∀y ∈ ps++[(x,[Value.int .i64 x.min,Value.int .i64 x.max,Value.bool x.has])],y.2.length=3):=hideR (fun y hy=>by
      rcases List.mem_append.1 hy with hy|hy
      ·exact HW.out y hy
      ·rw [List.mem_singleton.1 hy];rfl)
     have HZ9:Hid (R=pre ((ps++[(x,[Value.int .i64 x.min,Value.int .i64 x.max,Value.bool x.has])]).map (·.1)) (rep rd (m-(q+1)) j2)):=hideR (by rw [List.map_append];exact HZ.out)
     have hsl:=own_slice hown9
     clear hown9 hg9 hv9 ho9 HO2 HN HB2 HS2 HK2 HNEW HBL HZ HW
     obtain ⟨oN,cN,rfl⟩:=hsl
     go_wp2
     go_roundw
     case rel=>exact ⟨q+1,ps++[(x,[Value.int .i64 x.min,Value.int .i64 x.max,Value.bool x.has])],j2,by omega,by go_num,by simp [hl],⟨_,_,rfl⟩,HZ9,HS9,HB9,HW9,HO9,HK9⟩
     case measure=>simp [intOf];omega
   ·obtain rfl:q=m:=by omega
    have HZ:Hid (R=.ok (ps.map (·.1),jq)):=hideR (by rw [HP.out,Nat.sub_self];exact pre_end _ _ jq)
    have HV:Hid (RowS 3 F wr (Since w.heap.size wr none) (.slice oT q cT) (ps.map (·.1))):=hideR (row_of hK hF _ ps rfl (by rw [List.length_map];omega) HW.out (by rw [hl];exact HO.out) HK.out)
    clear HP HO HK HW
    go_wp2
    go_ret
    rw [HZ.out]
    exact ⟨⟨_,rfl,HV.out⟩,HS.out,HB.out⟩
set_option maxRecDepth 100000 in
set_option maxHeartbeats 8000000 in
theorem dTabs (rd:Nat->R Lim) (K:EK Lim) (F:EA Lim) (hK:Keeps K) (hF:Lies 71 K F) (w0:World) (p:Nat) (s:ByteArray) (c:Nat->Value) (en k i n:Nat) (w:World) (h:RS w0 p s c en k i n w)
  (HE:∀j u,RS w0 p s c en k j n u->Calls Tryd.prog 29 #[.pointer (some ⟨p,0,none⟩)] u (Rds w0 p s c en k n (vLim K u.heap.size) u (rd j))) :
  Calls Tryd.prog 28 #[.pointer (some ⟨p,0,none⟩),.func (.func 29) #[.pointer (some ⟨p,0,none⟩)] #[]] w (Rds w0 p s c en k n (fun l v u=>RowS 3 F u (Since w.heap.size u none) v l) w (rents rd s en i)):=by
 have HC:=hideR (dCnt w0 p s c en k i n w h)
 have HE:=hideR HE
 have hpw:=h.lt
 have hlen:=h.len
 clear h
 unfold rents
 cases hx:rc s en i with
 | error z =>
  rw [hx] at HC
  rw [bd_err]
  clear hx
  go_enter Tryd.func28,Tryd.ntmps28
  go_wp2_with fail
  refine HC.out.mono ?_
  rintro e w1 ⟨rfl,hb⟩
  exact ⟨rfl,rfl,hb⟩
 | ok v =>
  obtain ⟨x,j⟩:=v
  have hrc:=rc_ok hlen hx
  rw [hx] at HC
  rw [bd_ok]
  obtain ⟨m,rfl⟩:∃m:Nat,x=(m:Int):=⟨x.toNat,by omega⟩
  have hm:m<=4096:=by omega
  rw [show ((m:Int).toNat)=m by omega]
  obtain ⟨R,hR⟩:∃R,R=rep rd m j:=⟨_,rfl⟩
  rw [<- hR]
  have HR:=hideR hR
  clear hx hrc hR hlen
  go_enter Tryd.func28,Tryd.ntmps28
  go_wp2_with fail
  refine HC.out.mono ?_
  rintro e w1 ⟨⟨v,rfl,hv⟩,h1,h2⟩
  have hv:v=.int .i64 m:=hv
  subst hv
  have H1:=hideR h1
  have H2:=hideR h2
  clear h1 h2 HC
  go_wp2_with fail
  go_loopw [5,8] (fun t u wr=>∃(q:Nat) (ps:List (Pe Lim)) (jq:Nat),q<=m/\u=.int .i64 q/\ps.length=q/\(∃o c,t=.slice o q c)/\Hid (R=pre (ps.map (·.1)) (rep rd (m-q) jq))/\Hid (RS w0 p s c en k jq n wr)/\Hid (But p w wr)/\Hid (∀y ∈ ps,y.2.length=3)/\Hid (wr.ownsRow w.heap.size 71 3 t q (flatE ps))/\Hid (∀y ∈ ps,K wr (Since w.heap.size wr t.ownBlock) y.1 y.2)) (fun _ u _=>m-(intOf u).toNat)
  case atStart=>exact ⟨0,[],j,by omega,rfl,rfl,⟨none,0,rfl⟩,hideR (by rw [HR.out];exact (pre_nil _).symm),H1,H2,hideR (fun y hy=>by cases hy),hideR (World.ownsRow_nil _ _ _ _),hideR (fun y hy=>by cases hy)⟩
  case round =>
   obtain ⟨q,ps,jq,hq,rfl,hl,⟨oT,cT,rfl⟩,HP,HS,HB,HW,HO,HK⟩:=hrel
   by_cases hgo:q<m
   ·have hU:=HE.out jq wr HS.out
    obtain ⟨r,hr⟩:∃r,m-q=r+1:=⟨m-q-1,by omega⟩
    cases hu:rd jq with
    | error z =>
     rw [hu] at hU
     have HU:=hideR hU
     have HZ:Hid (R=.error z):=hideR (by rw [HP.out,hr];exact pre_err _ _ r jq z hu)
     clear hU hu HP HO HK HW
     go_wp2_with fail
     refine HU.out.mono ?_
     rintro e w2 ⟨rfl,hb⟩
     exact ⟨rfl,by rw [HZ.out];exact ⟨rfl,hb⟩⟩
    | ok v =>
     obtain ⟨x,j2⟩:=v
     rw [hu] at hU
     have HU:=hideR hU
     have HZ:Hid (R=pre (ps.map (·.1)++[x]) (rep rd (m-(q+1)) j2)):=hideR (by rw [HP.out,hr,pre_on _ _ r jq x j2 hu,show m-(q+1)=r by omega])
     clear hU hu HP
     go_wp2_with fail
     refine HU.out.mono ?_
     rintro e w2 ⟨⟨v,rfl,hv⟩,h1,h2⟩
     obtain ⟨rfl,hk⟩:=hv
     have HSZ1:Hid (∀q',(Value.slice oT q cT).ownBlock=some q'->w.heap.size<=q'/\q'<wr.heap.size):=hideR (fun q' hq'=>HO.out.lt q' hq')
     have hup:=since_new (B:=w.heap.size) (B2:=wr.heap.size) (u:=w2) (row:=(Value.slice oT q cT).ownBlock) HB.out.size (fun q' hq'=>(HSZ1.out q' hq').2)
     have HNEW:Hid (K w2 (Since w.heap.size w2 (Value.slice oT q cT).ownBlock) x [Value.int .i64 x.min,Value.int .i64 x.max,Value.bool x.has]):=hideR (hK _ _ _ _ hup _ _ hk)
     have HO2:=hideR ((own_but HO.out hpw h2).alloc (.cells #[Value.int .i64 x.min,Value.int .i64 x.max,Value.bool x.has] 71))
     have HN:=hideR (cells_new w2 [Value.int .i64 x.min,Value.int .i64 x.max,Value.bool x.has] 71)
     have HK2:=hideR (fun y hy=>hK _ _ _ _ (since_butO hpw h2) _ _ (HK.out y hy))
     have HB2:=hideR ((HB.out.trans h2).trans (But.of p (new_on' w2 (.cells #[Value.int .i64 x.min,Value.int .i64 x.max,Value.bool x.has] 71))))
     have HS2:=hideR (h1.on (new_on' w2 (.cells #[Value.int .i64 x.min,Value.int .i64 x.max,Value.bool x.has] 71)))
     have HBL:=hideR (new_on' w2 (.cells #[Value.int .i64 x.min,Value.int .i64 x.max,Value.bool x.has] 71))
     have HSZ:Hid (w.heap.size<=w2.heap.size):=hideR (Nat.le_trans HB.out.size h2.size)
     clear h1 h2 hk hup HU HO HS HB HK HSZ1
     obtain ⟨i0,hi,hz0,hz1,hz2⟩:=info_parts infoLim
     go_wp2_with (first|(at_builtin;refine wpList_appS rfl _ _ 26 rfl w.heap.size 71 i0 _ 3 24 Tryd.underlying26 hi hz0 hz1 hz2 rfl (by decide) _ _ _ rfl HO2.out (some ⟨w2.heap.size,0,none⟩) 1 1 [Value.int .i64 x.min,Value.int .i64 x.max,Value.bool x.has] rfl ?c6 ?c0 ?c1 ?c2 ?c3 ?c4 ?c5 ?_))
     case c6=>intro h;cases h
     case c0=>rfl
     case c1=>exact fun ad h=>by injection h with h;subst h;exact HN.out
     case c2 =>
      intro u hu
      simp only [List.mem_cons,List.mem_nil_iff,or_false] at hu
      rcases hu with rfl|rfl|rfl
      all_goals rfl
     case c3=>unfold maxLen;omega
     case c4=>omega
     case c5=>have:=HSZ.out;simp;omega
     intro v9 w9 hown9 hg9 hv9
     have ho9:∀q',(Value.slice oT q cT).ownBlock=some q'->w.heap.size<=q':=fun q' hq'=>(HO2.out.lt q' hq').1
     have HS9:=hideR (HS2.out.grown hg9 (fun q' hq'=>Nat.lt_of_lt_of_le hpw (ho9 q' hq')))
     have HB9:=hideR (But.grown (p:=p) HB2.out hg9 ho9)
     have HO9:Hid (w9.ownsRow w.heap.size 71 3 v9 (q+1) (flatE (ps++[(x,[Value.int .i64 x.min,Value.int .i64 x.max,Value.bool x.has])]))):=hideR (by rw [flatE_snoc];exact hown9)
     have HK9:Hid (∀y ∈ ps++[(x,[Value.int .i64 x.min,Value.int .i64 x.max,Value.bool x.has])],K w9 (Since w.heap.size w9 v9.ownBlock) y.1 y.2):=hideR (fun y hy=>by
      have key:∀x vs,K w2 (Since w.heap.size w2 (Value.slice oT q cT).ownBlock) x vs->K w9 (Since w.heap.size w9 v9.ownBlock) x vs:=fun x vs h=>hK _ _ _ _ (since_grown hg9 (by simpa using hv9)) _ _ (hK _ _ _ _ (since_below HBL.out) _ _ h)
      rcases List.mem_append.1 hy with hy|hy
      ·exact key _ _ (HK2.out y hy)
      ·rw [List.mem_singleton.1 hy];exact key _ _ HNEW.out)
     have HW9:Hid (∀y ∈ ps++[(x,[Value.int .i64 x.min,Value.int .i64 x.max,Value.bool x.has])],y.2.length=3):=hideR (fun y hy=>by
      rcases List.mem_append.1 hy with hy|hy
      ·exact HW.out y hy
      ·rw [List.mem_singleton.1 hy];rfl)
     have HZ9:Hid (R=pre ((ps++[(x,[Value.int .i64 x.min,Value.int .i64 x.max,Value.bool x.has])]).map (·.1)) (rep rd (m-(q+1)) j2)):=hideR (by rw [List.map_append];exact HZ.out)
     have hsl:=own_slice hown9
     clear hown9 hg9 hv9 ho9 HO2 HN HB2 HS2 HK2 HNEW HBL HZ HW
     obtain ⟨oN,cN,rfl⟩:=hsl
     go_wp2
     go_roundw
     case rel=>exact ⟨q+1,ps++[(x,[Value.int .i64 x.min,Value.int .i64 x.max,Value.bool x.has])],j2,by omega,by go_num,by simp [hl],⟨_,_,rfl⟩,HZ9,HS9,HB9,HW9,HO9,HK9⟩
     case measure=>simp [intOf];omega
   ·obtain rfl:q=m:=by omega
    have HZ:Hid (R=.ok (ps.map (·.1),jq)):=hideR (by rw [HP.out,Nat.sub_self];exact pre_end _ _ jq)
    have HV:Hid (RowS 3 F wr (Since w.heap.size wr none) (.slice oT q cT) (ps.map (·.1))):=hideR (row_of hK hF _ ps rfl (by rw [List.length_map];omega) HW.out (by rw [hl];exact HO.out) HK.out)
    clear HP HO HK HW
    go_wp2
    go_ret
    rw [HZ.out]
    exact ⟨⟨_,rfl,HV.out⟩,HS.out,HB.out⟩
namespace Dec
def vFty (K:EK Int) (B:Nat) (x:Int) (v:Value) (u:World):Prop:=v=.agg #[Value.int .i64 x,Value.slice none 0 0,Value.slice none 0 0]/\K u (Since B u none) x [Value.int .i64 x,Value.slice none 0 0,Value.slice none 0 0]
end Dec
theorem infoFty:(Tryd.prog.info? 67).map (fun i=>(i.zero,i.size,i.bytes))=some (some (.agg #[.int .i64 0,.slice none 0 0,.slice none 0 0]),3,56):=by kernel_rfl
set_option maxRecDepth 100000 in
set_option maxHeartbeats 8000000 in
theorem dFtys (rd:Nat->R Int) (K:EK Int) (F:EA Int) (hK:Keeps K) (hF:Lies 67 K F) (w0:World) (p:Nat) (s:ByteArray) (c:Nat->Value) (en k i n:Nat) (w:World) (h:RS w0 p s c en k i n w)
  (HE:∀j u,RS w0 p s c en k j n u->Calls Tryd.prog 27 #[.pointer (some ⟨p,0,none⟩)] u (Rds w0 p s c en k n (vFty K u.heap.size) u (rd j))) :
  Calls Tryd.prog 26 #[.pointer (some ⟨p,0,none⟩),.func (.func 27) #[.pointer (some ⟨p,0,none⟩)] #[]] w (Rds w0 p s c en k n (fun l v u=>RowS 3 F u (Since w.heap.size u none) v l) w (rents rd s en i)):=by
 have HC:=hideR (dCnt w0 p s c en k i n w h)
 have HE:=hideR HE
 have hpw:=h.lt
 have hlen:=h.len
 clear h
 unfold rents
 cases hx:rc s en i with
 | error z =>
  rw [hx] at HC
  rw [bd_err]
  clear hx
  go_enter Tryd.func26,Tryd.ntmps26
  go_wp2_with fail
  refine HC.out.mono ?_
  rintro e w1 ⟨rfl,hb⟩
  exact ⟨rfl,rfl,hb⟩
 | ok v =>
  obtain ⟨x,j⟩:=v
  have hrc:=rc_ok hlen hx
  rw [hx] at HC
  rw [bd_ok]
  obtain ⟨m,rfl⟩:∃m:Nat,x=(m:Int):=⟨x.toNat,by omega⟩
  have hm:m<=4096:=by omega
  rw [show ((m:Int).toNat)=m by omega]
  obtain ⟨R,hR⟩:∃R,R=rep rd m j:=⟨_,rfl⟩
  rw [<- hR]
  have HR:=hideR hR
  clear hx hrc hR hlen
  go_enter Tryd.func26,Tryd.ntmps26
  go_wp2_with fail
  refine HC.out.mono ?_
  rintro e w1 ⟨⟨v,rfl,hv⟩,h1,h2⟩
  have hv:v=.int .i64 m:=hv
  subst hv
  have H1:=hideR h1
  have H2:=hideR h2
  clear h1 h2 HC
  go_wp2_with fail
  go_loopw [5,8] (fun t u wr=>∃(q:Nat) (ps:List (Pe Int)) (jq:Nat),q<=m/\u=.int .i64 q/\ps.length=q/\(∃o c,t=.slice o q c)/\Hid (R=pre (ps.map (·.1)) (rep rd (m-q) jq))/\Hid (RS w0 p s c en k jq n wr)/\Hid (But p w wr)/\Hid (∀y ∈ ps,y.2.length=3)/\Hid (wr.ownsRow w.heap.size 67 3 t q (flatE ps))/\Hid (∀y ∈ ps,K wr (Since w.heap.size wr t.ownBlock) y.1 y.2)) (fun _ u _=>m-(intOf u).toNat)
  case atStart=>exact ⟨0,[],j,by omega,rfl,rfl,⟨none,0,rfl⟩,hideR (by rw [HR.out];exact (pre_nil _).symm),H1,H2,hideR (fun y hy=>by cases hy),hideR (World.ownsRow_nil _ _ _ _),hideR (fun y hy=>by cases hy)⟩
  case round =>
   obtain ⟨q,ps,jq,hq,rfl,hl,⟨oT,cT,rfl⟩,HP,HS,HB,HW,HO,HK⟩:=hrel
   by_cases hgo:q<m
   ·have hU:=HE.out jq wr HS.out
    obtain ⟨r,hr⟩:∃r,m-q=r+1:=⟨m-q-1,by omega⟩
    cases hu:rd jq with
    | error z =>
     rw [hu] at hU
     have HU:=hideR hU
     have HZ:Hid (R=.error z):=hideR (by rw [HP.out,hr];exact pre_err _ _ r jq z hu)
     clear hU hu HP HO HK HW
     go_wp2_with fail
     refine HU.out.mono ?_
     rintro e w2 ⟨rfl,hb⟩
     exact ⟨rfl,by rw [HZ.out];exact ⟨rfl,hb⟩⟩
    | ok v =>
     obtain ⟨x,j2⟩:=v
     rw [hu] at hU
     have HU:=hideR hU
     have HZ:Hid (R=pre (ps.map (·.1)++[x]) (rep rd (m-(q+1)) j2)):=hideR (by rw [HP.out,hr,pre_on _ _ r jq x j2 hu,show m-(q+1)=r by omega])
     clear hU hu HP
     go_wp2_with fail
     refine HU.out.mono ?_
     rintro e w2 ⟨⟨v,rfl,hv⟩,h1,h2⟩
     obtain ⟨rfl,hk⟩:=hv
     have HSZ1:Hid (∀q',(Value.slice oT q cT).ownBlock=some q'->w.heap.size<=q'/\q'<wr.heap.size):=hideR (fun q' hq'=>HO.out.lt q' hq')
     have hup:=since_new (B:=w.heap.size) (B2:=wr.heap.size) (u:=w2) (row:=(Value.slice oT q cT).ownBlock) HB.out.size (fun q' hq'=>(HSZ1.out q' hq').2)
     have HNEW:Hid (K w2 (Since w.heap.size w2 (Value.slice oT q cT).ownBlock) x [Value.int .i64 x,Value.slice none 0 0,Value.slice none 0 0]):=hideR (hK _ _ _ _ hup _ _ hk)
     have HO2:=hideR ((own_but HO.out hpw h2).alloc (.cells #[Value.int .i64 x,Value.slice none 0 0,Value.slice none 0 0] 67))
     have HN:=hideR (cells_new w2 [Value.int .i64 x,Value.slice none 0 0,Value.slice none 0 0] 67)
     have HK2:=hideR (fun y hy=>hK _ _ _ _ (since_butO hpw h2) _ _ (HK.out y hy))
     have HB2:=hideR ((HB.out.trans h2).trans (But.of p (new_on' w2 (.cells #[Value.int .i64 x,Value.slice none 0 0,Value.slice none 0 0] 67))))
     have HS2:=hideR (h1.on (new_on' w2 (.cells #[Value.int .i64 x,Value.slice none 0 0,Value.slice none 0 0] 67)))
     have HBL:=hideR (new_on' w2 (.cells #[Value.int .i64 x,Value.slice none 0 0,Value.slice none 0 0] 67))
     have HSZ:Hid (w.heap.size<=w2.heap.size):=hideR (Nat.le_trans HB.out.size h2.size)
     clear h1 h2 hk hup HU HO HS HB HK HSZ1
     obtain ⟨i0,hi,hz0,hz1,hz2⟩:=info_parts infoFty
     go_wp2_with (first|(at_builtin;refine wpList_appS rfl _ _ 25 rfl w.heap.size 67 i0 _ 3 56 Tryd.underlying25 hi hz0 hz1 hz2 rfl (by decide) _ _ _ rfl HO2.out (some ⟨w2.heap.size,0,none⟩) 1 1 [Value.int .i64 x,Value.slice none 0 0,Value.slice none 0 0] rfl ?c6 ?c0 ?c1 ?c2 ?c3 ?c4 ?c5 ?_))
     case c6=>intro h;cases h
     case c0=>rfl
     case c1=>exact fun ad h=>by injection h with h;subst h;exact HN.out
     case c2 =>
      intro u hu
      simp only [List.mem_cons,List.mem_nil_iff,or_false] at hu
      rcases hu with rfl|rfl|rfl
      all_goals rfl
     case c3=>unfold maxLen;omega
     case c4=>omega
     case c5=>have:=HSZ.out;simp;omega
     intro v9 w9 hown9 hg9 hv9
     have ho9:∀q',(Value.slice oT q cT).ownBlock=some q'->w.heap.size<=q':=fun q' hq'=>(HO2.out.lt q' hq').1
     have HS9:=hideR (HS2.out.grown hg9 (fun q' hq'=>Nat.lt_of_lt_of_le hpw (ho9 q' hq')))
     have HB9:=hideR (But.grown (p:=p) HB2.out hg9 ho9)
     have HO9:Hid (w9.ownsRow w.heap.size 67 3 v9 (q+1) (flatE (ps++[(x,[Value.int .i64 x,Value.slice none 0 0,Value.slice none 0 0])]))):=hideR (by rw [flatE_snoc];exact hown9)
     have HK9:Hid (∀y ∈ ps++[(x,[Value.int .i64 x,Value.slice none 0 0,Value.slice none 0 0])],K w9 (Since w.heap.size w9 v9.ownBlock) y.1 y.2):=hideR (fun y hy=>by
      have key:∀x vs,K w2 (Since w.heap.size w2 (Value.slice oT q cT).ownBlock) x vs->K w9 (Since w.heap.size w9 v9.ownBlock) x vs:=fun x vs h=>hK _ _ _ _ (since_grown hg9 (by simpa using hv9)) _ _ (hK _ _ _ _ (since_below HBL.out) _ _ h)
      rcases List.mem_append.1 hy with hy|hy
      ·exact key _ _ (HK2.out y hy)
      ·rw [List.mem_singleton.1 hy];exact key _ _ HNEW.out)
     have HW9:Hid (∀y ∈ ps++[(x,[Value.int .i64 x,Value.slice none 0 0,Value.slice none 0 0])],y.2.length=3):=hideR (fun y hy=>by
      rcases List.mem_append.1 hy with hy|hy
      ·exact HW.out y hy
      ·rw [List.mem_singleton.1 hy];rfl)
     have HZ9:Hid (R=pre ((ps++[(x,[Value.int .i64 x,Value.slice none 0 0,Value.slice none 0 0])]).map (·.1)) (rep rd (m-(q+1)) j2)):=hideR (by rw [List.map_append];exact HZ.out)
     have hsl:=own_slice hown9
     clear hown9 hg9 hv9 ho9 HO2 HN HB2 HS2 HK2 HNEW HBL HZ HW
     obtain ⟨oN,cN,rfl⟩:=hsl
     go_wp2
     go_roundw
     case rel=>exact ⟨q+1,ps++[(x,[Value.int .i64 x,Value.slice none 0 0,Value.slice none 0 0])],j2,by omega,by go_num,by simp [hl],⟨_,_,rfl⟩,HZ9,HS9,HB9,HW9,HO9,HK9⟩
     case measure=>simp [intOf];omega
   ·obtain rfl:q=m:=by omega
    have HZ:Hid (R=.ok (ps.map (·.1),jq)):=hideR (by rw [HP.out,Nat.sub_self];exact pre_end _ _ jq)
    have HV:Hid (RowS 3 F wr (Since w.heap.size wr none) (.slice oT q cT) (ps.map (·.1))):=hideR (row_of hK hF _ ps rfl (by rw [List.length_map];omega) HW.out (by rw [hl];exact HO.out) HK.out)
    clear HP HO HK HW
    go_wp2
    go_ret
    rw [HZ.out]
    exact ⟨⟨_,rfl,HV.out⟩,HS.out,HB.out⟩
namespace Dec
def vGlo {d:Nat} (K:EK (Glo d)) (B:Nat) (x:(Glo d)) (v:Value) (u:World):Prop:=∃o4 n4 k4 o5 n5 k5 o6 n6 k6,v=.agg #[Value.int .i64 x.type,Value.bool x.mtb,Value.int .i64 x.init.op,Value.int .i64 x.init.a,Value.int .i64 x.init.b,Value.int .i64 x.init.n,Value.slice o4 n4 k4,Value.slice o5 n5 k5,Value.slice o6 n6 k6]/\K u (Since B u none) x [Value.int .i64 x.type,Value.bool x.mtb,Value.int .i64 x.init.op,Value.int .i64 x.init.a,Value.int .i64 x.init.b,Value.int .i64 x.init.n,Value.slice o4 n4 k4,Value.slice o5 n5 k5,Value.slice o6 n6 k6]
end Dec
theorem infoGlo:(Tryd.prog.info? 77).map (fun i=>(i.zero,i.size,i.bytes))=some (some (.agg #[.int .i64 0,.bool false,.int .i64 0,.int .i64 0,.int .i64 0,.int .i64 0,.slice none 0 0,.slice none 0 0,.slice none 0 0]),9,120):=by kernel_rfl
set_option maxRecDepth 100000 in
set_option maxHeartbeats 8000000 in
theorem dGlos {d:Nat} (rd:Nat->R (Glo d)) (K:EK (Glo d)) (F:EA (Glo d)) (hK:Keeps K) (hF:Lies 77 K F) (w0:World) (p:Nat) (s:ByteArray) (c:Nat->Value) (en k i n:Nat) (w:World) (h:RS w0 p s c en k i n w)
  (HE:∀j u,RS w0 p s c en k j n u->Calls Tryd.prog 32 #[.pointer (some ⟨p,0,none⟩)] u (Rds w0 p s c en k n (vGlo K u.heap.size) u (rd j))) :
  Calls Tryd.prog 31 #[.pointer (some ⟨p,0,none⟩),.func (.func 32) #[.pointer (some ⟨p,0,none⟩)] #[]] w (Rds w0 p s c en k n (fun l v u=>RowS 9 F u (Since w.heap.size u none) v l) w (rents rd s en i)):=by
 have HC:=hideR (dCnt w0 p s c en k i n w h)
 have HE:=hideR HE
 have hpw:=h.lt
 have hlen:=h.len
 clear h
 unfold rents
 cases hx:rc s en i with
 | error z =>
  rw [hx] at HC
  rw [bd_err]
  clear hx
  go_enter Tryd.func31,Tryd.ntmps31
  go_wp2_with fail
  refine HC.out.mono ?_
  rintro e w1 ⟨rfl,hb⟩
  exact ⟨rfl,rfl,hb⟩
 | ok v =>
  obtain ⟨x,j⟩:=v
  have hrc:=rc_ok hlen hx
  rw [hx] at HC
  rw [bd_ok]
  obtain ⟨m,rfl⟩:∃m:Nat,x=(m:Int):=⟨x.toNat,by omega⟩
  have hm:m<=4096:=by omega
  rw [show ((m:Int).toNat)=m by omega]
  obtain ⟨R,hR⟩:∃R,R=rep rd m j:=⟨_,rfl⟩
  rw [<- hR]
  have HR:=hideR hR
  clear hx hrc hR hlen
  go_enter Tryd.func31,Tryd.ntmps31
  go_wp2_with fail
  refine HC.out.mono ?_
  rintro e w1 ⟨⟨v,rfl,hv⟩,h1,h2⟩
  have hv:v=.int .i64 m:=hv
  subst hv
  have H1:=hideR h1
  have H2:=hideR h2
  clear h1 h2 HC
  go_wp2_with fail
  go_loopw [5,8] (fun t u wr=>∃(q:Nat) (ps:List (Pe (Glo d))) (jq:Nat),q<=m/\u=.int .i64 q/\ps.length=q/\(∃o c,t=.slice o q c)/\Hid (R=pre (ps.map (·.1)) (rep rd (m-q) jq))/\Hid (RS w0 p s c en k jq n wr)/\Hid (But p w wr)/\Hid (∀y ∈ ps,y.2.length=9)/\Hid (wr.ownsRow w.heap.size 77 9 t q (flatE ps))/\Hid (∀y ∈ ps,K wr (Since w.heap.size wr t.ownBlock) y.1 y.2)) (fun _ u _=>m-(intOf u).toNat)
  case atStart=>exact ⟨0,[],j,by omega,rfl,rfl,⟨none,0,rfl⟩,hideR (by rw [HR.out];exact (pre_nil _).symm),H1,H2,hideR (fun y hy=>by cases hy),hideR (World.ownsRow_nil _ _ _ _),hideR (fun y hy=>by cases hy)⟩
  case round =>
   obtain ⟨q,ps,jq,hq,rfl,hl,⟨oT,cT,rfl⟩,HP,HS,HB,HW,HO,HK⟩:=hrel
   by_cases hgo:q<m
   ·have hU:=HE.out jq wr HS.out
    obtain ⟨r,hr⟩:∃r,m-q=r+1:=⟨m-q-1,by omega⟩
    cases hu:rd jq with
    | error z =>
     rw [hu] at hU
     have HU:=hideR hU
     have HZ:Hid (R=.error z):=hideR (by rw [HP.out,hr];exact pre_err _ _ r jq z hu)
     clear hU hu HP HO HK HW
     go_wp2_with fail
     refine HU.out.mono ?_
     rintro e w2 ⟨rfl,hb⟩
     exact ⟨rfl,by rw [HZ.out];exact ⟨rfl,hb⟩⟩
    | ok v =>
     obtain ⟨x,j2⟩:=v
     rw [hu] at hU
     have HU:=hideR hU
     have HZ:Hid (R=pre (ps.map (·.1)++[x]) (rep rd (m-(q+1)) j2)):=hideR (by rw [HP.out,hr,pre_on _ _ r jq x j2 hu,show m-(q+1)=r by omega])
     clear hU hu HP
     go_wp2_with fail
     refine HU.out.mono ?_
     rintro e w2 ⟨⟨v,rfl,hv⟩,h1,h2⟩
     obtain ⟨o4,n4,k4,o5,n5,k5,o6,n6,k6,rfl,hk⟩:=hv
     have HSZ1:Hid (∀q',(Value.slice oT q cT).ownBlock=some q'->w.heap.size<=q'/\q'<wr.heap.size):=hideR (fun q' hq'=>HO.out.lt q' hq')
     have hup:=since_new (B:=w.heap.size) (B2:=wr.heap.size) (u:=w2) (row:=(Value.slice oT q cT).ownBlock) HB.out.size (fun q' hq'=>(HSZ1.out q' hq').2)
     have HNEW:Hid (K w2 (Since w.heap.size w2 (Value.slice oT q cT).ownBlock) x [Value.int .i64 x.type,Value.bool x.mtb,Value.int .i64 x.init.op,Value.int .i64 x.init.a,Value.int .i64 x.init.b,Value.int .i64 x.init.n,Value.slice o4 n4 k4,Value.slice o5 n5 k5,Value.slice o6 n6 k6]):=hideR (hK _ _ _ _ hup _ _ hk)
     have HO2:=hideR ((own_but HO.out hpw h2).alloc (.cells #[Value.int .i64 x.type,Value.bool x.mtb,Value.int .i64 x.init.op,Value.int .i64 x.init.a,Value.int .i64 x.init.b,Value.int .i64 x.init.n,Value.slice o4 n4 k4,Value.slice o5 n5 k5,Value.slice o6 n6 k6] 77))
     have HN:=hideR (cells_new w2 [Value.int .i64 x.type,Value.bool x.mtb,Value.int .i64 x.init.op,Value.int .i64 x.init.a,Value.int .i64 x.init.b,Value.int .i64 x.init.n,Value.slice o4 n4 k4,Value.slice o5 n5 k5,Value.slice o6 n6 k6] 77)
     have HK2:=hideR (fun y hy=>hK _ _ _ _ (since_butO hpw h2) _ _ (HK.out y hy))
     have HB2:=hideR ((HB.out.trans h2).trans (But.of p (new_on' w2 (.cells #[Value.int .i64 x.type,Value.bool x.mtb,Value.int .i64 x.init.op,Value.int .i64 x.init.a,Value.int .i64 x.init.b,Value.int .i64 x.init.n,Value.slice o4 n4 k4,Value.slice o5 n5 k5,Value.slice o6 n6 k6] 77))))
     have HS2:=hideR (h1.on (new_on' w2 (.cells #[Value.int .i64 x.type,Value.bool x.mtb,Value.int .i64 x.init.op,Value.int .i64 x.init.a,Value.int .i64 x.init.b,Value.int .i64 x.init.n,Value.slice o4 n4 k4,Value.slice o5 n5 k5,Value.slice o6 n6 k6] 77)))
     have HBL:=hideR (new_on' w2 (.cells #[Value.int .i64 x.type,Value.bool x.mtb,Value.int .i64 x.init.op,Value.int .i64 x.init.a,Value.int .i64 x.init.b,Value.int .i64 x.init.n,Value.slice o4 n4 k4,Value.slice o5 n5 k5,Value.slice o6 n6 k6] 77))
     have HSZ:Hid (w.heap.size<=w2.heap.size):=hideR (Nat.le_trans HB.out.size h2.size)
     clear h1 h2 hk hup HU HO HS HB HK HSZ1
     obtain ⟨i0,hi,hz0,hz1,hz2⟩:=info_parts infoGlo
     go_wp2_with (first|(at_builtin;refine wpList_appS rfl _ _ 27 rfl w.heap.size 77 i0 _ 9 120 Tryd.underlying27 hi hz0 hz1 hz2 rfl (by decide) _ _ _ rfl HO2.out (some ⟨w2.heap.size,0,none⟩) 1 1 [Value.int .i64 x.type,Value.bool x.mtb,Value.int .i64 x.init.op,Value.int .i64 x.init.a,Value.int .i64 x.init.b,Value.int .i64 x.init.n,Value.slice o4 n4 k4,Value.slice o5 n5 k5,Value.slice o6 n6 k6] rfl ?c6 ?c0 ?c1 ?c2 ?c3 ?c4 ?c5 ?_))
     case c6=>intro h;cases h
     case c0=>rfl
     case c1=>exact fun ad h=>by injection h with h;subst h;exact HN.out
     case c2 =>
      intro u hu
      simp only [List.mem_cons,List.mem_nil_iff,or_false] at hu
      rcases hu with rfl|rfl|rfl|rfl|rfl|rfl|rfl|rfl|rfl
      all_goals rfl
     case c3=>unfold maxLen;omega
     case c4=>omega
     case c5=>have:=HSZ.out;simp;omega
     intro v9 w9 hown9 hg9 hv9
     have ho9:∀q',(Value.slice oT q cT).ownBlock=some q'->w.heap.size<=q':=fun q' hq'=>(HO2.out.lt q' hq').1
     have HS9:=hideR (HS2.out.grown hg9 (fun q' hq'=>Nat.lt_of_lt_of_le hpw (ho9 q' hq')))
     have HB9:=hideR (But.grown (p:=p) HB2.out hg9 ho9)
     have HO9:Hid (w9.ownsRow w.heap.size 77 9 v9 (q+1) (flatE (ps++[(x,[Value.int .i64 x.type,Value.bool x.mtb,Value.int .i64 x.init.op,Value.int .i64 x.init.a,Value.int .i64 x.init.b,Value.int .i64 x.init.n,Value.slice o4 n4 k4,Value.slice o5 n5 k5,Value.slice o6 n6 k6])]))):=hideR (by rw [flatE_snoc];exact hown9)
     have HK9:Hid (∀y ∈ ps++[(x,[Value.int .i64 x.type,Value.bool x.mtb,Value.int .i64 x.init.op,Value.int .i64 x.init.a,Value.int .i64 x.init.b,Value.int .i64 x.init.n,Value.slice o4 n4 k4,Value.slice o5 n5 k5,Value.slice o6 n6 k6])],K w9 (Since w.heap.size w9 v9.ownBlock) y.1 y.2):=hideR (fun y hy=>by
      have key:∀x vs,K w2 (Since w.heap.size w2 (Value.slice oT q cT).ownBlock) x vs->K w9 (Since w.heap.size w9 v9.ownBlock) x vs:=fun x vs h=>hK _ _ _ _ (since_grown hg9 (by simpa using hv9)) _ _ (hK _ _ _ _ (since_below HBL.out) _ _ h)
      rcases List.mem_append.1 hy with hy|hy
      ·exact key _ _ (HK2.out y hy)
      ·rw [List.mem_singleton.1 hy];exact key _ _ HNEW.out)
     have HW9:Hid (∀y ∈ ps++[(x,[Value.int .i64 x.type,Value.bool x.mtb,Value.int .i64 x.init.op,Value.int .i64 x.init.a,Value.int .i64 x.init.b,Value.int .i64 x.init.n,Value.slice o4 n4 k4,Value.slice o5 n5 k5,Value.slice o6 n6 k6])],y.2.length=9):=hideR (fun y hy=>by
      rcases List.mem_append.1 hy with hy|hy
      ·exact HW.out y hy
      ·rw [List.mem_singleton.1 hy];rfl)
     have HZ9:Hid (R=pre ((ps++[(x,[Value.int .i64 x.type,Value.bool x.mtb,Value.int .i64 x.init.op,Value.int .i64 x.init.a,Value.int .i64 x.init.b,Value.int .i64 x.init.n,Value.slice o4 n4 k4,Value.slice o5 n5 k5,Value.slice o6 n6 k6])]).map (·.1)) (rep rd (m-(q+1)) j2)):=hideR (by rw [List.map_append];exact HZ.out)
     have hsl:=own_slice hown9
     clear hown9 hg9 hv9 ho9 HO2 HN HB2 HS2 HK2 HNEW HBL HZ HW
     obtain ⟨oN,cN,rfl⟩:=hsl
     go_wp2
     go_roundw
     case rel=>exact ⟨q+1,ps++[(x,[Value.int .i64 x.type,Value.bool x.mtb,Value.int .i64 x.init.op,Value.int .i64 x.init.a,Value.int .i64 x.init.b,Value.int .i64 x.init.n,Value.slice o4 n4 k4,Value.slice o5 n5 k5,Value.slice o6 n6 k6])],j2,by omega,by go_num,by simp [hl],⟨_,_,rfl⟩,HZ9,HS9,HB9,HW9,HO9,HK9⟩
     case measure=>simp [intOf];omega
   ·obtain rfl:q=m:=by omega
    have HZ:Hid (R=.ok (ps.map (·.1),jq)):=hideR (by rw [HP.out,Nat.sub_self];exact pre_end _ _ jq)
    have HV:Hid (RowS 9 F wr (Since w.heap.size wr none) (.slice oT q cT) (ps.map (·.1))):=hideR (row_of hK hF _ ps rfl (by rw [List.length_map];omega) HW.out (by rw [hl];exact HO.out) HK.out)
    clear HP HO HK HW
    go_wp2
    go_ret
    rw [HZ.out]
    exact ⟨⟨_,rfl,HV.out⟩,HS.out,HB.out⟩
namespace Dec
def vElm {d:Nat} (K:EK (Elm d)) (B:Nat) (x:(Elm d)) (v:Value) (u:World):Prop:=∃o4 n4 k4 o5 n5 k5 o6 n6 k6 o7 n7 k7,v=.agg #[Value.int .i64 x.offset.op,Value.int .i64 x.offset.a,Value.int .i64 x.offset.b,Value.int .i64 x.offset.n,Value.slice o4 n4 k4,Value.slice o5 n5 k5,Value.slice o6 n6 k6,Value.slice o7 n7 k7]/\K u (Since B u none) x [Value.int .i64 x.offset.op,Value.int .i64 x.offset.a,Value.int .i64 x.offset.b,Value.int .i64 x.offset.n,Value.slice o4 n4 k4,Value.slice o5 n5 k5,Value.slice o6 n6 k6,Value.slice o7 n7 k7]
end Dec
theorem infoElm:(Tryd.prog.info? 85).map (fun i=>(i.zero,i.size,i.bytes))=some (some (.agg #[.int .i64 0,.int .i64 0,.int .i64 0,.int .i64 0,.slice none 0 0,.slice none 0 0,.slice none 0 0,.slice none 0 0]),8,128):=by kernel_rfl
set_option maxRecDepth 100000 in
set_option maxHeartbeats 8000000 in
theorem dElms {d:Nat} (rd:Nat->R (Elm d)) (K:EK (Elm d)) (F:EA (Elm d)) (hK:Keeps K) (hF:Lies 85 K F) (w0:World) (p:Nat) (s:ByteArray) (c:Nat->Value) (en k i n:Nat) (w:World) (h:RS w0 p s c en k i n w)
  (HE:∀j u,RS w0 p s c en k j n u->Calls Tryd.prog 36 #[.pointer (some ⟨p,0,none⟩)] u (Rds w0 p s c en k n (vElm K u.heap.size) u (rd j))) :
  Calls Tryd.prog 35 #[.pointer (some ⟨p,0,none⟩),.func (.func 36) #[.pointer (some ⟨p,0,none⟩)] #[]] w (Rds w0 p s c en k n (fun l v u=>RowS 8 F u (Since w.heap.size u none) v l) w (rents rd s en i)):=by
 have HC:=hideR (dCnt w0 p s c en k i n w h)
 have HE:=hideR HE
 have hpw:=h.lt
 have hlen:=h.len
 clear h
 unfold rents
 cases hx:rc s en i with
 | error z =>
  rw [hx] at HC
  rw [bd_err]
  clear hx
  go_enter Tryd.func35,Tryd.ntmps35
  go_wp2_with fail
  refine HC.out.mono ?_
  rintro e w1 ⟨rfl,hb⟩
  exact ⟨rfl,rfl,hb⟩
 | ok v =>
  obtain ⟨x,j⟩:=v
  have hrc:=rc_ok hlen hx
  rw [hx] at HC
  rw [bd_ok]
  obtain ⟨m,rfl⟩:∃m:Nat,x=(m:Int):=⟨x.toNat,by omega⟩
  have hm:m<=4096:=by omega
  rw [show ((m:Int).toNat)=m by omega]
  obtain ⟨R,hR⟩:∃R,R=rep rd m j:=⟨_,rfl⟩
  rw [<- hR]
  have HR:=hideR hR
  clear hx hrc hR hlen
  go_enter Tryd.func35,Tryd.ntmps35
  go_wp2_with fail
  refine HC.out.mono ?_
  rintro e w1 ⟨⟨v,rfl,hv⟩,h1,h2⟩
  have hv:v=.int .i64 m:=hv
  subst hv
  have H1:=hideR h1
  have H2:=hideR h2
  clear h1 h2 HC
  go_wp2_with fail
  go_loopw [5,8] (fun t u wr=>∃(q:Nat) (ps:List (Pe (Elm d))) (jq:Nat),q<=m/\u=.int .i64 q/\ps.length=q/\(∃o c,t=.slice o q c)/\Hid (R=pre (ps.map (·.1)) (rep rd (m-q) jq))/\Hid (RS w0 p s c en k jq n wr)/\Hid (But p w wr)/\Hid (∀y ∈ ps,y.2.length=8)/\Hid (wr.ownsRow w.heap.size 85 8 t q (flatE ps))/\Hid (∀y ∈ ps,K wr (Since w.heap.size wr t.ownBlock) y.1 y.2)) (fun _ u _=>m-(intOf u).toNat)
  case atStart=>exact ⟨0,[],j,by omega,rfl,rfl,⟨none,0,rfl⟩,hideR (by rw [HR.out];exact (pre_nil _).symm),H1,H2,hideR (fun y hy=>by cases hy),hideR (World.ownsRow_nil _ _ _ _),hideR (fun y hy=>by cases hy)⟩
  case round =>
   obtain ⟨q,ps,jq,hq,rfl,hl,⟨oT,cT,rfl⟩,HP,HS,HB,HW,HO,HK⟩:=hrel
   by_cases hgo:q<m
   ·have hU:=HE.out jq wr HS.out
    obtain ⟨r,hr⟩:∃r,m-q=r+1:=⟨m-q-1,by omega⟩
    cases hu:rd jq with
    | error z =>
     rw [hu] at hU
     have HU:=hideR hU
     have HZ:Hid (R=.error z):=hideR (by rw [HP.out,hr];exact pre_err _ _ r jq z hu)
     clear hU hu HP HO HK HW
     go_wp2_with fail
     refine HU.out.mono ?_
     rintro e w2 ⟨rfl,hb⟩
     exact ⟨rfl,by rw [HZ.out];exact ⟨rfl,hb⟩⟩
    | ok v =>
     obtain ⟨x,j2⟩:=v
     rw [hu] at hU
     have HU:=hideR hU
     have HZ:Hid (R=pre (ps.map (·.1)++[x]) (rep rd (m-(q+1)) j2)):=hideR (by rw [HP.out,hr,pre_on _ _ r jq x j2 hu,show m-(q+1)=r by omega])
     clear hU hu HP
     go_wp2_with fail
     refine HU.out.mono ?_
     rintro e w2 ⟨⟨v,rfl,hv⟩,h1,h2⟩
     obtain ⟨o4,n4,k4,o5,n5,k5,o6,n6,k6,o7,n7,k7,rfl,hk⟩:=hv
     have HSZ1:Hid (∀q',(Value.slice oT q cT).ownBlock=some q'->w.heap.size<=q'/\q'<wr.heap.size):=hideR (fun q' hq'=>HO.out.lt q' hq')
     have hup:=since_new (B:=w.heap.size) (B2:=wr.heap.size) (u:=w2) (row:=(Value.slice oT q cT).ownBlock) HB.out.size (fun q' hq'=>(HSZ1.out q' hq').2)
     have HNEW:Hid (K w2 (Since w.heap.size w2 (Value.slice oT q cT).ownBlock) x [Value.int .i64 x.offset.op,Value.int .i64 x.offset.a,Value.int .i64 x.offset.b,Value.int .i64 x.offset.n,Value.slice o4 n4 k4,Value.slice o5 n5 k5,Value.slice o6 n6 k6,Value.slice o7 n7 k7]):=hideR (hK _ _ _ _ hup _ _ hk)
     have HO2:=hideR ((own_but HO.out hpw h2).alloc (.cells #[Value.int .i64 x.offset.op,Value.int .i64 x.offset.a,Value.int .i64 x.offset.b,Value.int .i64 x.offset.n,Value.slice o4 n4 k4,Value.slice o5 n5 k5,Value.slice o6 n6 k6,Value.slice o7 n7 k7] 85))
     have HN:=hideR (cells_new w2 [Value.int .i64 x.offset.op,Value.int .i64 x.offset.a,Value.int .i64 x.offset.b,Value.int .i64 x.offset.n,Value.slice o4 n4 k4,Value.slice o5 n5 k5,Value.slice o6 n6 k6,Value.slice o7 n7 k7] 85)
     have HK2:=hideR (fun y hy=>hK _ _ _ _ (since_butO hpw h2) _ _ (HK.out y hy))
     have HB2:=hideR ((HB.out.trans h2).trans (But.of p (new_on' w2 (.cells #[Value.int .i64 x.offset.op,Value.int .i64 x.offset.a,Value.int .i64 x.offset.b,Value.int .i64 x.offset.n,Value.slice o4 n4 k4,Value.slice o5 n5 k5,Value.slice o6 n6 k6,Value.slice o7 n7 k7] 85))))
     have HS2:=hideR (h1.on (new_on' w2 (.cells #[Value.int .i64 x.offset.op,Value.int .i64 x.offset.a,Value.int .i64 x.offset.b,Value.int .i64 x.offset.n,Value.slice o4 n4 k4,Value.slice o5 n5 k5,Value.slice o6 n6 k6,Value.slice o7 n7 k7] 85)))
     have HBL:=hideR (new_on' w2 (.cells #[Value.int .i64 x.offset.op,Value.int .i64 x.offset.a,Value.int .i64 x.offset.b,Value.int .i64 x.offset.n,Value.slice o4 n4 k4,Value.slice o5 n5 k5,Value.slice o6 n6 k6,Value.slice o7 n7 k7] 85))
     have HSZ:Hid (w.heap.size<=w2.heap.size):=hideR (Nat.le_trans HB.out.size h2.size)
     clear h1 h2 hk hup HU HO HS HB HK HSZ1
     obtain ⟨i0,hi,hz0,hz1,hz2⟩:=info_parts infoElm
     go_wp2_with (first|(at_builtin;refine wpList_appS rfl _ _ 30 rfl w.heap.size 85 i0 _ 8 128 Tryd.underlying30 hi hz0 hz1 hz2 rfl (by decide) _ _ _ rfl HO2.out (some ⟨w2.heap.size,0,none⟩) 1 1 [Value.int .i64 x.offset.op,Value.int .i64 x.offset.a,Value.int .i64 x.offset.b,Value.int .i64 x.offset.n,Value.slice o4 n4 k4,Value.slice o5 n5 k5,Value.slice o6 n6 k6,Value.slice o7 n7 k7] rfl ?c6 ?c0 ?c1 ?c2 ?c3 ?c4 ?c5 ?_))
     case c6=>intro h;cases h
     case c0=>rfl
     case c1=>exact fun ad h=>by injection h with h;subst h;exact HN.out
     case c2 =>
      intro u hu
      simp only [List.mem_cons,List.mem_nil_iff,or_false] at hu
      rcases hu with rfl|rfl|rfl|rfl|rfl|rfl|rfl|rfl
      all_goals rfl
     case c3=>unfold maxLen;omega
     case c4=>omega
     case c5=>have:=HSZ.out;simp;omega
     intro v9 w9 hown9 hg9 hv9
     have ho9:∀q',(Value.slice oT q cT).ownBlock=some q'->w.heap.size<=q':=fun q' hq'=>(HO2.out.lt q' hq').1
     have HS9:=hideR (HS2.out.grown hg9 (fun q' hq'=>Nat.lt_of_lt_of_le hpw (ho9 q' hq')))
     have HB9:=hideR (But.grown (p:=p) HB2.out hg9 ho9)
     have HO9:Hid (w9.ownsRow w.heap.size 85 8 v9 (q+1) (flatE (ps++[(x,[Value.int .i64 x.offset.op,Value.int .i64 x.offset.a,Value.int .i64 x.offset.b,Value.int .i64 x.offset.n,Value.slice o4 n4 k4,Value.slice o5 n5 k5,Value.slice o6 n6 k6,Value.slice o7 n7 k7])]))):=hideR (by rw [flatE_snoc];exact hown9)
     have HK9:Hid (∀y ∈ ps++[(x,[Value.int .i64 x.offset.op,Value.int .i64 x.offset.a,Value.int .i64 x.offset.b,Value.int .i64 x.offset.n,Value.slice o4 n4 k4,Value.slice o5 n5 k5,Value.slice o6 n6 k6,Value.slice o7 n7 k7])],K w9 (Since w.heap.size w9 v9.ownBlock) y.1 y.2):=hideR (fun y hy=>by
      have key:∀x vs,K w2 (Since w.heap.size w2 (Value.slice oT q cT).ownBlock) x vs->K w9 (Since w.heap.size w9 v9.ownBlock) x vs:=fun x vs h=>hK _ _ _ _ (since_grown hg9 (by simpa using hv9)) _ _ (hK _ _ _ _ (since_below HBL.out) _ _ h)
      rcases List.mem_append.1 hy with hy|hy
      ·exact key _ _ (HK2.out y hy)
      ·rw [List.mem_singleton.1 hy];exact key _ _ HNEW.out)
     have HW9:Hid (∀y ∈ ps++[(x,[Value.int .i64 x.offset.op,Value.int .i64 x.offset.a,Value.int .i64 x.offset.b,Value.int .i64 x.offset.n,Value.slice o4 n4 k4,Value.slice o5 n5 k5,Value.slice o6 n6 k6,Value.slice o7 n7 k7])],y.2.length=8):=hideR (fun y hy=>by
      rcases List.mem_append.1 hy with hy|hy
      ·exact HW.out y hy
      ·rw [List.mem_singleton.1 hy];rfl)
     have HZ9:Hid (R=pre ((ps++[(x,[Value.int .i64 x.offset.op,Value.int .i64 x.offset.a,Value.int .i64 x.offset.b,Value.int .i64 x.offset.n,Value.slice o4 n4 k4,Value.slice o5 n5 k5,Value.slice o6 n6 k6,Value.slice o7 n7 k7])]).map (·.1)) (rep rd (m-(q+1)) j2)):=hideR (by rw [List.map_append];exact HZ.out)
     have hsl:=own_slice hown9
     clear hown9 hg9 hv9 ho9 HO2 HN HB2 HS2 HK2 HNEW HBL HZ HW
     obtain ⟨oN,cN,rfl⟩:=hsl
     go_wp2
     go_roundw
     case rel=>exact ⟨q+1,ps++[(x,[Value.int .i64 x.offset.op,Value.int .i64 x.offset.a,Value.int .i64 x.offset.b,Value.int .i64 x.offset.n,Value.slice o4 n4 k4,Value.slice o5 n5 k5,Value.slice o6 n6 k6,Value.slice o7 n7 k7])],j2,by omega,by go_num,by simp [hl],⟨_,_,rfl⟩,HZ9,HS9,HB9,HW9,HO9,HK9⟩
     case measure=>simp [intOf];omega
   ·obtain rfl:q=m:=by omega
    have HZ:Hid (R=.ok (ps.map (·.1),jq)):=hideR (by rw [HP.out,Nat.sub_self];exact pre_end _ _ jq)
    have HV:Hid (RowS 8 F wr (Since w.heap.size wr none) (.slice oT q cT) (ps.map (·.1))):=hideR (row_of hK hF _ ps rfl (by rw [List.length_map];omega) HW.out (by rw [hl];exact HO.out) HK.out)
    clear HP HO HK HW
    go_wp2
    go_ret
    rw [HZ.out]
    exact ⟨⟨_,rfl,HV.out⟩,HS.out,HB.out⟩
namespace Dec
def vDat {d:Nat} (K:EK (Dat d)) (B:Nat) (x:(Dat d)) (v:Value) (u:World):Prop:=∃o4 n4 k4 o5 n5 k5 o6 n6 k6,v=.agg #[Value.int .i64 x.offset.op,Value.int .i64 x.offset.a,Value.int .i64 x.offset.b,Value.int .i64 x.offset.n,Value.slice o4 n4 k4,Value.slice o5 n5 k5,Value.slice o6 n6 k6,Value.string x.bytes]/\K u (Since B u none) x [Value.int .i64 x.offset.op,Value.int .i64 x.offset.a,Value.int .i64 x.offset.b,Value.int .i64 x.offset.n,Value.slice o4 n4 k4,Value.slice o5 n5 k5,Value.slice o6 n6 k6,Value.string x.bytes]
end Dec
theorem infoDat:(Tryd.prog.info? 89).map (fun i=>(i.zero,i.size,i.bytes))=some (some (.agg #[.int .i64 0,.int .i64 0,.int .i64 0,.int .i64 0,.slice none 0 0,.slice none 0 0,.slice none 0 0,.string ByteArray.empty]),8,120):=by kernel_rfl
set_option maxRecDepth 100000 in
set_option maxHeartbeats 8000000 in
theorem dDats {d:Nat} (rd:Nat->R (Dat d)) (K:EK (Dat d)) (F:EA (Dat d)) (hK:Keeps K) (hF:Lies 89 K F) (w0:World) (p:Nat) (s:ByteArray) (c:Nat->Value) (en k i n:Nat) (w:World) (h:RS w0 p s c en k i n w)
  (HE:∀j u,RS w0 p s c en k j n u->Calls Tryd.prog 39 #[.pointer (some ⟨p,0,none⟩)] u (Rds w0 p s c en k n (vDat K u.heap.size) u (rd j))) :
  Calls Tryd.prog 38 #[.pointer (some ⟨p,0,none⟩),.func (.func 39) #[.pointer (some ⟨p,0,none⟩)] #[]] w (Rds w0 p s c en k n (fun l v u=>RowS 8 F u (Since w.heap.size u none) v l) w (rents rd s en i)):=by
 have HC:=hideR (dCnt w0 p s c en k i n w h)
 have HE:=hideR HE
 have hpw:=h.lt
 have hlen:=h.len
 clear h
 unfold rents
 cases hx:rc s en i with
 | error z =>
  rw [hx] at HC
  rw [bd_err]
  clear hx
  go_enter Tryd.func38,Tryd.ntmps38
  go_wp2_with fail
  refine HC.out.mono ?_
  rintro e w1 ⟨rfl,hb⟩
  exact ⟨rfl,rfl,hb⟩
 | ok v =>
  obtain ⟨x,j⟩:=v
  have hrc:=rc_ok hlen hx
  rw [hx] at HC
  rw [bd_ok]
  obtain ⟨m,rfl⟩:∃m:Nat,x=(m:Int):=⟨x.toNat,by omega⟩
  have hm:m<=4096:=by omega
  rw [show ((m:Int).toNat)=m by omega]
  obtain ⟨R,hR⟩:∃R,R=rep rd m j:=⟨_,rfl⟩
  rw [<- hR]
  have HR:=hideR hR
  clear hx hrc hR hlen
  go_enter Tryd.func38,Tryd.ntmps38
  go_wp2_with fail
  refine HC.out.mono ?_
  rintro e w1 ⟨⟨v,rfl,hv⟩,h1,h2⟩
  have hv:v=.int .i64 m:=hv
  subst hv
  have H1:=hideR h1
  have H2:=hideR h2
  clear h1 h2 HC
  go_wp2_with fail
  go_loopw [5,8] (fun t u wr=>∃(q:Nat) (ps:List (Pe (Dat d))) (jq:Nat),q<=m/\u=.int .i64 q/\ps.length=q/\(∃o c,t=.slice o q c)/\Hid (R=pre (ps.map (·.1)) (rep rd (m-q) jq))/\Hid (RS w0 p s c en k jq n wr)/\Hid (But p w wr)/\Hid (∀y ∈ ps,y.2.length=8)/\Hid (wr.ownsRow w.heap.size 89 8 t q (flatE ps))/\Hid (∀y ∈ ps,K wr (Since w.heap.size wr t.ownBlock) y.1 y.2)) (fun _ u _=>m-(intOf u).toNat)
  case atStart=>exact ⟨0,[],j,by omega,rfl,rfl,⟨none,0,rfl⟩,hideR (by rw [HR.out];exact (pre_nil _).symm),H1,H2,hideR (fun y hy=>by cases hy),hideR (World.ownsRow_nil _ _ _ _),hideR (fun y hy=>by cases hy)⟩
  case round =>
   obtain ⟨q,ps,jq,hq,rfl,hl,⟨oT,cT,rfl⟩,HP,HS,HB,HW,HO,HK⟩:=hrel
   by_cases hgo:q<m
   ·have hU:=HE.out jq wr HS.out
    obtain ⟨r,hr⟩:∃r,m-q=r+1:=⟨m-q-1,by omega⟩
    cases hu:rd jq with
    | error z =>
     rw [hu] at hU
     have HU:=hideR hU
     have HZ:Hid (R=.error z):=hideR (by rw [HP.out,hr];exact pre_err _ _ r jq z hu)
     clear hU hu HP HO HK HW
     go_wp2_with fail
     refine HU.out.mono ?_
     rintro e w2 ⟨rfl,hb⟩
     exact ⟨rfl,by rw [HZ.out];exact ⟨rfl,hb⟩⟩
    | ok v =>
     obtain ⟨x,j2⟩:=v
     rw [hu] at hU
     have HU:=hideR hU
     have HZ:Hid (R=pre (ps.map (·.1)++[x]) (rep rd (m-(q+1)) j2)):=hideR (by rw [HP.out,hr,pre_on _ _ r jq x j2 hu,show m-(q+1)=r by omega])
     clear hU hu HP
     go_wp2_with fail
     refine HU.out.mono ?_
     rintro e w2 ⟨⟨v,rfl,hv⟩,h1,h2⟩
     obtain ⟨o4,n4,k4,o5,n5,k5,o6,n6,k6,rfl,hk⟩:=hv
     have HSZ1:Hid (∀q',(Value.slice oT q cT).ownBlock=some q'->w.heap.size<=q'/\q'<wr.heap.size):=hideR (fun q' hq'=>HO.out.lt q' hq')
     have hup:=since_new (B:=w.heap.size) (B2:=wr.heap.size) (u:=w2) (row:=(Value.slice oT q cT).ownBlock) HB.out.size (fun q' hq'=>(HSZ1.out q' hq').2)
     have HNEW:Hid (K w2 (Since w.heap.size w2 (Value.slice oT q cT).ownBlock) x [Value.int .i64 x.offset.op,Value.int .i64 x.offset.a,Value.int .i64 x.offset.b,Value.int .i64 x.offset.n,Value.slice o4 n4 k4,Value.slice o5 n5 k5,Value.slice o6 n6 k6,Value.string x.bytes]):=hideR (hK _ _ _ _ hup _ _ hk)
     have HO2:=hideR ((own_but HO.out hpw h2).alloc (.cells #[Value.int .i64 x.offset.op,Value.int .i64 x.offset.a,Value.int .i64 x.offset.b,Value.int .i64 x.offset.n,Value.slice o4 n4 k4,Value.slice o5 n5 k5,Value.slice o6 n6 k6,Value.string x.bytes] 89))
     have HN:=hideR (cells_new w2 [Value.int .i64 x.offset.op,Value.int .i64 x.offset.a,Value.int .i64 x.offset.b,Value.int .i64 x.offset.n,Value.slice o4 n4 k4,Value.slice o5 n5 k5,Value.slice o6 n6 k6,Value.string x.bytes] 89)
     have HK2:=hideR (fun y hy=>hK _ _ _ _ (since_butO hpw h2) _ _ (HK.out y hy))
     have HB2:=hideR ((HB.out.trans h2).trans (But.of p (new_on' w2 (.cells #[Value.int .i64 x.offset.op,Value.int .i64 x.offset.a,Value.int .i64 x.offset.b,Value.int .i64 x.offset.n,Value.slice o4 n4 k4,Value.slice o5 n5 k5,Value.slice o6 n6 k6,Value.string x.bytes] 89))))
     have HS2:=hideR (h1.on (new_on' w2 (.cells #[Value.int .i64 x.offset.op,Value.int .i64 x.offset.a,Value.int .i64 x.offset.b,Value.int .i64 x.offset.n,Value.slice o4 n4 k4,Value.slice o5 n5 k5,Value.slice o6 n6 k6,Value.string x.bytes] 89)))
     have HBL:=hideR (new_on' w2 (.cells #[Value.int .i64 x.offset.op,Value.int .i64 x.offset.a,Value.int .i64 x.offset.b,Value.int .i64 x.offset.n,Value.slice o4 n4 k4,Value.slice o5 n5 k5,Value.slice o6 n6 k6,Value.string x.bytes] 89))
     have HSZ:Hid (w.heap.size<=w2.heap.size):=hideR (Nat.le_trans HB.out.size h2.size)
     clear h1 h2 hk hup HU HO HS HB HK HSZ1
     obtain ⟨i0,hi,hz0,hz1,hz2⟩:=info_parts infoDat
     go_wp2_with (first|(at_builtin;refine wpList_appS rfl _ _ 31 rfl w.heap.size 89 i0 _ 8 120 Tryd.underlying31 hi hz0 hz1 hz2 rfl (by decide) _ _ _ rfl HO2.out (some ⟨w2.heap.size,0,none⟩) 1 1 [Value.int .i64 x.offset.op,Value.int .i64 x.offset.a,Value.int .i64 x.offset.b,Value.int .i64 x.offset.n,Value.slice o4 n4 k4,Value.slice o5 n5 k5,Value.slice o6 n6 k6,Value.string x.bytes] rfl ?c6 ?c0 ?c1 ?c2 ?c3 ?c4 ?c5 ?_))
     case c6=>intro h;cases h
     case c0=>rfl
     case c1=>exact fun ad h=>by injection h with h;subst h;exact HN.out
     case c2 =>
      intro u hu
      simp only [List.mem_cons,List.mem_nil_iff,or_false] at hu
      rcases hu with rfl|rfl|rfl|rfl|rfl|rfl|rfl|rfl
      all_goals rfl
     case c3=>unfold maxLen;omega
     case c4=>omega
     case c5=>have:=HSZ.out;simp;omega
     intro v9 w9 hown9 hg9 hv9
     have ho9:∀q',(Value.slice oT q cT).ownBlock=some q'->w.heap.size<=q':=fun q' hq'=>(HO2.out.lt q' hq').1
     have HS9:=hideR (HS2.out.grown hg9 (fun q' hq'=>Nat.lt_of_lt_of_le hpw (ho9 q' hq')))
     have HB9:=hideR (But.grown (p:=p) HB2.out hg9 ho9)
     have HO9:Hid (w9.ownsRow w.heap.size 89 8 v9 (q+1) (flatE (ps++[(x,[Value.int .i64 x.offset.op,Value.int .i64 x.offset.a,Value.int .i64 x.offset.b,Value.int .i64 x.offset.n,Value.slice o4 n4 k4,Value.slice o5 n5 k5,Value.slice o6 n6 k6,Value.string x.bytes])]))):=hideR (by rw [flatE_snoc];exact hown9)
     have HK9:Hid (∀y ∈ ps++[(x,[Value.int .i64 x.offset.op,Value.int .i64 x.offset.a,Value.int .i64 x.offset.b,Value.int .i64 x.offset.n,Value.slice o4 n4 k4,Value.slice o5 n5 k5,Value.slice o6 n6 k6,Value.string x.bytes])],K w9 (Since w.heap.size w9 v9.ownBlock) y.1 y.2):=hideR (fun y hy=>by
      have key:∀x vs,K w2 (Since w.heap.size w2 (Value.slice oT q cT).ownBlock) x vs->K w9 (Since w.heap.size w9 v9.ownBlock) x vs:=fun x vs h=>hK _ _ _ _ (since_grown hg9 (by simpa using hv9)) _ _ (hK _ _ _ _ (since_below HBL.out) _ _ h)
      rcases List.mem_append.1 hy with hy|hy
      ·exact key _ _ (HK2.out y hy)
      ·rw [List.mem_singleton.1 hy];exact key _ _ HNEW.out)
     have HW9:Hid (∀y ∈ ps++[(x,[Value.int .i64 x.offset.op,Value.int .i64 x.offset.a,Value.int .i64 x.offset.b,Value.int .i64 x.offset.n,Value.slice o4 n4 k4,Value.slice o5 n5 k5,Value.slice o6 n6 k6,Value.string x.bytes])],y.2.length=8):=hideR (fun y hy=>by
      rcases List.mem_append.1 hy with hy|hy
      ·exact HW.out y hy
      ·rw [List.mem_singleton.1 hy];rfl)
     have HZ9:Hid (R=pre ((ps++[(x,[Value.int .i64 x.offset.op,Value.int .i64 x.offset.a,Value.int .i64 x.offset.b,Value.int .i64 x.offset.n,Value.slice o4 n4 k4,Value.slice o5 n5 k5,Value.slice o6 n6 k6,Value.string x.bytes])]).map (·.1)) (rep rd (m-(q+1)) j2)):=hideR (by rw [List.map_append];exact HZ.out)
     have hsl:=own_slice hown9
     clear hown9 hg9 hv9 ho9 HO2 HN HB2 HS2 HK2 HNEW HBL HZ HW
     obtain ⟨oN,cN,rfl⟩:=hsl
     go_wp2
     go_roundw
     case rel=>exact ⟨q+1,ps++[(x,[Value.int .i64 x.offset.op,Value.int .i64 x.offset.a,Value.int .i64 x.offset.b,Value.int .i64 x.offset.n,Value.slice o4 n4 k4,Value.slice o5 n5 k5,Value.slice o6 n6 k6,Value.string x.bytes])],j2,by omega,by go_num,by simp [hl],⟨_,_,rfl⟩,HZ9,HS9,HB9,HW9,HO9,HK9⟩
     case measure=>simp [intOf];omega
   ·obtain rfl:q=m:=by omega
    have HZ:Hid (R=.ok (ps.map (·.1),jq)):=hideR (by rw [HP.out,Nat.sub_self];exact pre_end _ _ jq)
    have HV:Hid (RowS 8 F wr (Since w.heap.size wr none) (.slice oT q cT) (ps.map (·.1))):=hideR (row_of hK hF _ ps rfl (by rw [List.length_map];omega) HW.out (by rw [hl];exact HO.out) HK.out)
    clear HP HO HK HW
    go_wp2
    go_ret
    rw [HZ.out]
    exact ⟨⟨_,rfl,HV.out⟩,HS.out,HB.out⟩
namespace Dec
def vFT (K:EK FT) (B:Nat) (x:FT) (v:Value) (u:World):Prop:=∃o1 n1 k1 o2 n2 k2,v=.agg #[Value.slice o1 n1 k1,Value.slice o2 n2 k2]/\K u (Since B u none) x [Value.slice o1 n1 k1,Value.slice o2 n2 k2]
end Dec
theorem infoFT:(Tryd.prog.info? 58).map (fun i=>(i.zero,i.size,i.bytes))=some (some (.agg #[.slice none 0 0,.slice none 0 0]),2,48):=by kernel_rfl
set_option maxRecDepth 100000 in
set_option maxHeartbeats 8000000 in
theorem dFTs (rd:Nat->R FT) (K:EK FT) (F:EA FT) (hK:Keeps K) (hF:Lies 58 K F) (w0:World) (p:Nat) (s:ByteArray) (c:Nat->Value) (en k i n:Nat) (w:World) (h:RS w0 p s c en k i n w)
  (HE:∀j u,RS w0 p s c en k j n u->Calls Tryd.prog 23 #[.pointer (some ⟨p,0,none⟩)] u (Rds w0 p s c en k n (vFT K u.heap.size) u (rd j))) :
  Calls Tryd.prog 22 #[.pointer (some ⟨p,0,none⟩),.func (.func 23) #[.pointer (some ⟨p,0,none⟩)] #[]] w (Rds w0 p s c en k n (fun l v u=>RowS 2 F u (Since w.heap.size u none) v l) w (rents rd s en i)):=by
 have HC:=hideR (dCnt w0 p s c en k i n w h)
 have HE:=hideR HE
 have hpw:=h.lt
 have hlen:=h.len
 clear h
 unfold rents
 cases hx:rc s en i with
 | error z =>
  rw [hx] at HC
  rw [bd_err]
  clear hx
  go_enter Tryd.func22,Tryd.ntmps22
  go_wp2_with fail
  refine HC.out.mono ?_
  rintro e w1 ⟨rfl,hb⟩
  exact ⟨rfl,rfl,hb⟩
 | ok v =>
  obtain ⟨x,j⟩:=v
  have hrc:=rc_ok hlen hx
  rw [hx] at HC
  rw [bd_ok]
  obtain ⟨m,rfl⟩:∃m:Nat,x=(m:Int):=⟨x.toNat,by omega⟩
  have hm:m<=4096:=by omega
  rw [show ((m:Int).toNat)=m by omega]
  obtain ⟨R,hR⟩:∃R,R=rep rd m j:=⟨_,rfl⟩
  rw [<- hR]
  have HR:=hideR hR
  clear hx hrc hR hlen
  go_enter Tryd.func22,Tryd.ntmps22
  go_wp2_with fail
  refine HC.out.mono ?_
  rintro e w1 ⟨⟨v,rfl,hv⟩,h1,h2⟩
  have hv:v=.int .i64 m:=hv
  subst hv
  have H1:=hideR h1
  have H2:=hideR h2
  clear h1 h2 HC
  go_wp2_with fail
  go_loopw [5,8] (fun t u wr=>∃(q:Nat) (ps:List (Pe FT)) (jq:Nat),q<=m/\u=.int .i64 q/\ps.length=q/\(∃o c,t=.slice o q c)/\Hid (R=pre (ps.map (·.1)) (rep rd (m-q) jq))/\Hid (RS w0 p s c en k jq n wr)/\Hid (But p w wr)/\Hid (∀y ∈ ps,y.2.length=2)/\Hid (wr.ownsRow w.heap.size 58 2 t q (flatE ps))/\Hid (∀y ∈ ps,K wr (Since w.heap.size wr t.ownBlock) y.1 y.2)) (fun _ u _=>m-(intOf u).toNat)
  case atStart=>exact ⟨0,[],j,by omega,rfl,rfl,⟨none,0,rfl⟩,hideR (by rw [HR.out];exact (pre_nil _).symm),H1,H2,hideR (fun y hy=>by cases hy),hideR (World.ownsRow_nil _ _ _ _),hideR (fun y hy=>by cases hy)⟩
  case round =>
   obtain ⟨q,ps,jq,hq,rfl,hl,⟨oT,cT,rfl⟩,HP,HS,HB,HW,HO,HK⟩:=hrel
   by_cases hgo:q<m
   ·have hU:=HE.out jq wr HS.out
    obtain ⟨r,hr⟩:∃r,m-q=r+1:=⟨m-q-1,by omega⟩
    cases hu:rd jq with
    | error z =>
     rw [hu] at hU
     have HU:=hideR hU
     have HZ:Hid (R=.error z):=hideR (by rw [HP.out,hr];exact pre_err _ _ r jq z hu)
     clear hU hu HP HO HK HW
     go_wp2_with fail
     refine HU.out.mono ?_
     rintro e w2 ⟨rfl,hb⟩
     exact ⟨rfl,by rw [HZ.out];exact ⟨rfl,hb⟩⟩
    | ok v =>
     obtain ⟨x,j2⟩:=v
     rw [hu] at hU
     have HU:=hideR hU
     have HZ:Hid (R=pre (ps.map (·.1)++[x]) (rep rd (m-(q+1)) j2)):=hideR (by rw [HP.out,hr,pre_on _ _ r jq x j2 hu,show m-(q+1)=r by omega])
     clear hU hu HP
     go_wp2_with fail
     refine HU.out.mono ?_
     rintro e w2 ⟨⟨v,rfl,hv⟩,h1,h2⟩
     obtain ⟨o1,n1,k1,o2,n2,k2,rfl,hk⟩:=hv
     have HSZ1:Hid (∀q',(Value.slice oT q cT).ownBlock=some q'->w.heap.size<=q'/\q'<wr.heap.size):=hideR (fun q' hq'=>HO.out.lt q' hq')
     have hup:=since_new (B:=w.heap.size) (B2:=wr.heap.size) (u:=w2) (row:=(Value.slice oT q cT).ownBlock) HB.out.size (fun q' hq'=>(HSZ1.out q' hq').2)
     have HNEW:Hid (K w2 (Since w.heap.size w2 (Value.slice oT q cT).ownBlock) x [Value.slice o1 n1 k1,Value.slice o2 n2 k2]):=hideR (hK _ _ _ _ hup _ _ hk)
     have HO2:=hideR ((own_but HO.out hpw h2).alloc (.cells #[Value.slice o1 n1 k1,Value.slice o2 n2 k2] 58))
     have HN:=hideR (cells_new w2 [Value.slice o1 n1 k1,Value.slice o2 n2 k2] 58)
     have HK2:=hideR (fun y hy=>hK _ _ _ _ (since_butO hpw h2) _ _ (HK.out y hy))
     have HB2:=hideR ((HB.out.trans h2).trans (But.of p (new_on' w2 (.cells #[Value.slice o1 n1 k1,Value.slice o2 n2 k2] 58))))
     have HS2:=hideR (h1.on (new_on' w2 (.cells #[Value.slice o1 n1 k1,Value.slice o2 n2 k2] 58)))
     have HBL:=hideR (new_on' w2 (.cells #[Value.slice o1 n1 k1,Value.slice o2 n2 k2] 58))
     have HSZ:Hid (w.heap.size<=w2.heap.size):=hideR (Nat.le_trans HB.out.size h2.size)
     clear h1 h2 hk hup HU HO HS HB HK HSZ1
     obtain ⟨i0,hi,hz0,hz1,hz2⟩:=info_parts infoFT
     go_wp2_with (first|(at_builtin;refine wpList_appS rfl _ _ 23 rfl w.heap.size 58 i0 _ 2 48 Tryd.underlying23 hi hz0 hz1 hz2 rfl (by decide) _ _ _ rfl HO2.out (some ⟨w2.heap.size,0,none⟩) 1 1 [Value.slice o1 n1 k1,Value.slice o2 n2 k2] rfl ?c6 ?c0 ?c1 ?c2 ?c3 ?c4 ?c5 ?_))
     case c6=>intro h;cases h
     case c0=>rfl
     case c1=>exact fun ad h=>by injection h with h;subst h;exact HN.out
     case c2 =>
      intro u hu
      simp only [List.mem_cons,List.mem_nil_iff,or_false] at hu
      rcases hu with rfl|rfl
      all_goals rfl
     case c3=>unfold maxLen;omega
     case c4=>omega
     case c5=>have:=HSZ.out;simp;omega
     intro v9 w9 hown9 hg9 hv9
     have ho9:∀q',(Value.slice oT q cT).ownBlock=some q'->w.heap.size<=q':=fun q' hq'=>(HO2.out.lt q' hq').1
     have HS9:=hideR (HS2.out.grown hg9 (fun q' hq'=>Nat.lt_of_lt_of_le hpw (ho9 q' hq')))
     have HB9:=hideR (But.grown (p:=p) HB2.out hg9 ho9)
     have HO9:Hid (w9.ownsRow w.heap.size 58 2 v9 (q+1) (flatE (ps++[(x,[Value.slice o1 n1 k1,Value.slice o2 n2 k2])]))):=hideR (by rw [flatE_snoc];exact hown9)
     have HK9:Hid (∀y ∈ ps++[(x,[Value.slice o1 n1 k1,Value.slice o2 n2 k2])],K w9 (Since w.heap.size w9 v9.ownBlock) y.1 y.2):=hideR (fun y hy=>by
      have key:∀x vs,K w2 (Since w.heap.size w2 (Value.slice oT q cT).ownBlock) x vs->K w9 (Since w.heap.size w9 v9.ownBlock) x vs:=fun x vs h=>hK _ _ _ _ (since_grown hg9 (by simpa using hv9)) _ _ (hK _ _ _ _ (since_below HBL.out) _ _ h)
      rcases List.mem_append.1 hy with hy|hy
      ·exact key _ _ (HK2.out y hy)
      ·rw [List.mem_singleton.1 hy];exact key _ _ HNEW.out)
     have HW9:Hid (∀y ∈ ps++[(x,[Value.slice o1 n1 k1,Value.slice o2 n2 k2])],y.2.length=2):=hideR (fun y hy=>by
      rcases List.mem_append.1 hy with hy|hy
      ·exact HW.out y hy
      ·rw [List.mem_singleton.1 hy];rfl)
     have HZ9:Hid (R=pre ((ps++[(x,[Value.slice o1 n1 k1,Value.slice o2 n2 k2])]).map (·.1)) (rep rd (m-(q+1)) j2)):=hideR (by rw [List.map_append];exact HZ.out)
     have hsl:=own_slice hown9
     clear hown9 hg9 hv9 ho9 HO2 HN HB2 HS2 HK2 HNEW HBL HZ HW
     obtain ⟨oN,cN,rfl⟩:=hsl
     go_wp2
     go_roundw
     case rel=>exact ⟨q+1,ps++[(x,[Value.slice o1 n1 k1,Value.slice o2 n2 k2])],j2,by omega,by go_num,by simp [hl],⟨_,_,rfl⟩,HZ9,HS9,HB9,HW9,HO9,HK9⟩
     case measure=>simp [intOf];omega
   ·obtain rfl:q=m:=by omega
    have HZ:Hid (R=.ok (ps.map (·.1),jq)):=hideR (by rw [HP.out,Nat.sub_self];exact pre_end _ _ jq)
    have HV:Hid (RowS 2 F wr (Since w.heap.size wr none) (.slice oT q cT) (ps.map (·.1))):=hideR (row_of hK hF _ ps rfl (by rw [List.length_map];omega) HW.out (by rw [hl];exact HO.out) HK.out)
    clear HP HO HK HW
    go_wp2
    go_ret
    rw [HZ.out]
    exact ⟨⟨_,rfl,HV.out⟩,HS.out,HB.out⟩
end Go.Proofs.YtgbbmdknbflilaaDoor


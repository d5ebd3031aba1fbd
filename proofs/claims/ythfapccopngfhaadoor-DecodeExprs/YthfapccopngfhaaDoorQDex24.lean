/- Texts that the claim needs. -/
import Derived.Test.YthfapccopngfhaaDoorQDex23
import Derived.Test.YthfapccopngfhaaDoorQDex19
namespace Go.Proofs.YthfapccopngfhaaDoor
open Go.RowKit Rep Dec
set_option linter.unusedVariables false
namespace Dec
def rflag (s:ByteArray) (en i:Nat):R Bool:=bd (nx s en i) fun b j=>if b<=1 then .ok (b == 1,j) else .error 50
def rname (s:ByteArray) (en i:Nat):R ByteArray:=bd (rtext s en i) fun t j=>if nm t then .ok (t,j) else .error 50
def rcustom (s:ByteArray) (en i:Nat):R Unit:=bd (rtext s en i) fun t j=>if Lib.validD t.data.toList then .ok ((),en) else .error 50
def vBool (a:Bool) (v:Value) (_:World):Prop:=v=.bool a
theorem rtext_ok {s:ByteArray} {en i:Nat} {x:ByteArray} {j:Nat} (he:en<=s.size) (h:rtext s en i=.ok (x,j)):i<j/\j<=en/\x.size<=s.size:=by
 obtain ⟨b,m,h1,h2⟩:=bd_in h
 have h3:=ru_ok he h1
 split at h2
 ·injection h2 with h2;injection h2 with h2 h4
  subst h2
  rw [ByteArray.size_extract]
  omega
 ·cases h2
end Dec
section
variable (w0:World) (p:Nat) (s:ByteArray) (c:Nat->Value) (en k i n:Nat) (w:World) (h:RS w0 p s c en k i n w)
include h
set_option maxRecDepth 100000 in
set_option maxHeartbeats 2000000 in
theorem dVt:Calls Tryd.prog 68 #[.pointer (some ⟨p,0,none⟩)] w (Rds w0 p s c en k n vInt w (rt s en i)):=by
 have HC:=hideR (dNext w0 p s c en k i n w h)
 have hlen:=h.len
 have hbig:=h.big
 clear h
 unfold rt
 cases hx:nx s en i with
 | error z =>
  rw [hx] at HC
  rw [bd_err]
  clear hx
  go_enter Tryd.func68,Tryd.ntmps68
  go_wp2_with fail
  refine HC.out.mono ?_
  rintro e w1 ⟨rfl,hb⟩
  exact ⟨rfl,rfl,hb⟩
 | ok v =>
  obtain ⟨x,j⟩:=v
  rw [hx] at HC
  rw [bd_ok,vty_at]
  clear hx
  have HV:=fun u=>hideR (dTyp w0 x u)
  unfold Vty at HV
  cases hv0:vty x 0 with
  | error z =>
   rw [bd_err]
   rw [hv0] at HV
   clear hv0
   go_enter Tryd.func68,Tryd.ntmps68
   go_wp2_with fail
   refine HC.out.mono ?_
   rintro e w1 ⟨⟨v,rfl,hv⟩,h1,h2⟩
   have hv:v=.int .i64 x:=hv
   subst hv
   have HF:=hideR h1.below
   clear h1 h2 HC
   go_wp2_with fail
   refine (HV _).out.mono ?_
   rintro e w2 ⟨rfl,rfl⟩
   exact ⟨rfl,rfl,HF.out⟩
  | ok v =>
   obtain ⟨a,i0⟩:=v
   rw [bd_ok]
   rw [hv0] at HV
   clear hv0
   go_enter Tryd.func68,Tryd.ntmps68
   go_wp2_with fail
   refine HC.out.mono ?_
   rintro e w1 ⟨⟨v,rfl,hv⟩,h1,h2⟩
   have hv:v=.int .i64 x:=hv
   subst hv
   have HF:=hideR (⟨h1,h2⟩:_/\_)
   clear h1 h2 HC
   go_wp2_with fail
   refine (HV _).out.mono ?_
   rintro e w2 ⟨rfl,rfl⟩
   go_wp2
   go_ret
   exact ⟨⟨_,rfl,rfl⟩,HF.out.1,HF.out.2⟩
set_option maxRecDepth 100000 in
set_option maxHeartbeats 2000000 in
theorem dFlag:Calls Tryd.prog 70 #[.pointer (some ⟨p,0,none⟩)] w (Rds w0 p s c en k n vBool w (rflag s en i)):=by
 have HC:=hideR (dNext w0 p s c en k i n w h)
 have hlen:=h.len
 have hbig:=h.big
 clear h
 unfold rflag
 cases hx:nx s en i with
 | error z =>
  rw [hx] at HC
  rw [bd_err]
  clear hx
  go_enter Tryd.func70,Tryd.ntmps70
  go_wp2_with fail
  refine HC.out.mono ?_
  rintro e w1 ⟨rfl,hb⟩
  exact ⟨rfl,rfl,hb⟩
 | ok v =>
  obtain ⟨x,j⟩:=v
  rw [hx] at HC
  rw [bd_ok]
  clear hx
  by_cases hxb:x<=1
  ·rw [if_pos hxb]
   have hd:decide (x<=(1:Int))=true:=decide_eq_true hxb
   go_enter Tryd.func70,Tryd.ntmps70
   go_wp2_with fail
   refine HC.out.mono ?_
   rintro e w1 ⟨⟨v,rfl,hv⟩,h1,h2⟩
   have hv:v=.int .i64 x:=hv
   subst hv
   have HF:=hideR (⟨h1,h2⟩:_/\_)
   clear h1 h2 HC
   go_wp2_with fail
   refine (needY _ _).mono ?_
   rintro e w2 ⟨rfl,rfl⟩
   go_wp2
   go_ret
   exact ⟨⟨_,rfl,rfl⟩,HF.out.1,HF.out.2⟩
  ·rw [if_neg hxb]
   have hd:decide (x<=(1:Int))=false:=decide_eq_false hxb
   go_enter Tryd.func70,Tryd.ntmps70
   go_wp2_with fail
   refine HC.out.mono ?_
   rintro e w1 ⟨⟨v,rfl,hv⟩,h1,h2⟩
   have hv:v=.int .i64 x:=hv
   subst hv
   have HF:=hideR h1.below
   clear h1 h2 HC
   go_wp2_with fail
   refine (needN _ _).mono ?_
   rintro e w2 ⟨rfl,rfl⟩
   exact ⟨rfl,rfl,HF.out⟩
set_option maxRecDepth 100000 in
set_option maxHeartbeats 2000000 in
theorem dName (hU:∀u,Below w0.heap.size w0 u->UtfI u):Calls Tryd.prog 69 #[.pointer (some ⟨p,0,none⟩)] w (Rds w0 p s c en k n vStr w (rname s en i)):=by
 have HC:=hideR (dText w0 p s c en k i n w h)
 have hlen:=h.len
 have hbig:=h.big
 clear h
 unfold rname
 cases hx:rtext s en i with
 | error z =>
  rw [hx] at HC
  rw [bd_err]
  clear hx
  go_enter Tryd.func69,Tryd.ntmps69
  go_wp2_with fail
  refine HC.out.mono ?_
  rintro e w1 ⟨rfl,hb⟩
  exact ⟨rfl,rfl,hb⟩
 | ok v =>
  obtain ⟨x,j⟩:=v
  have hxs:=rtext_ok hlen hx
  rw [hx] at HC
  rw [bd_ok]
  clear hx
  have HN:∀u,Below w0.heap.size w0 u->Hid (Calls Tryd.prog 85 #[.string x] u fun e w'=>e=.returned (.bool (nm x))/\Below u.heap.size u w'):=fun u hb=>hideR (pName x u (by omega) (hU u hb))
  generalize nm x=y at HN ⊢
  clear hU hxs hlen hbig
  cases y with
  | true =>
   rw [if_pos rfl]
   go_enter Tryd.func69,Tryd.ntmps69
   go_wp2_with fail
   refine HC.out.mono ?_
   rintro e w1 ⟨⟨v,rfl,hv⟩,h1,h2⟩
   have hv:v=.string x:=hv
   subst hv
   have HM:=HN _ h1.below
   have HF:=hideR (⟨h1,h2⟩:_/\_)
   clear h1 h2 HC HN
   go_wp2_with fail
   refine HM.out.mono ?_
   rintro e w2 ⟨rfl,hb⟩
   have HG:=hideR (⟨HF.out.1.on hb,HF.out.2.trans (But.of p hb)⟩:_/\_)
   clear hb HM HF
   go_wp2_with fail
   refine (needY _ _).mono ?_
   rintro e w3 ⟨rfl,rfl⟩
   go_wp2
   go_ret
   exact ⟨⟨_,rfl,rfl⟩,HG.out.1,HG.out.2⟩
  | false =>
   rw [if_neg (by simp)]
   go_enter Tryd.func69,Tryd.ntmps69
   go_wp2_with fail
   refine HC.out.mono ?_
   rintro e w1 ⟨⟨v,rfl,hv⟩,h1,h2⟩
   have hv:v=.string x:=hv
   subst hv
   have HM:=HN _ h1.below
   have HF:=hideR h1.below
   clear h2 HC HN
   have HS:=hideR h1.below.size
   clear h1
   go_wp2_with fail
   refine HM.out.mono ?_
   rintro e w2 ⟨rfl,hb⟩
   have HG:=hideR (HF.out.trans (hb.mono HS.out))
   clear hb HM HF HS
   go_wp2_with fail
   refine (needN _ _).mono ?_
   rintro e w3 ⟨rfl,rfl⟩
   exact ⟨rfl,rfl,HG.out⟩
set_option maxRecDepth 100000 in
set_option maxHeartbeats 2000000 in
theorem dCustom (hU:∀u,Below w0.heap.size w0 u->UtfI u):Calls Tryd.prog 36 #[.pointer (some ⟨p,0,none⟩)] w (Rds w0 p s c en k n vUnit w (rcustom s en i)):=by
 have HC:=hideR (dText w0 p s c en k i n w h)
 have hlen:=h.len
 have hbig:=h.big
 clear h
 unfold rcustom
 cases hx:rtext s en i with
 | error z =>
  rw [hx] at HC
  rw [bd_err]
  clear hx
  go_enter Tryd.func36,Tryd.ntmps36
  go_wp2_with fail
  refine HC.out.mono ?_
  rintro e w1 ⟨rfl,hb⟩
  exact ⟨rfl,rfl,hb⟩
 | ok v =>
  obtain ⟨x,j⟩:=v
  have hxs:=rtext_ok hlen hx
  rw [hx] at HC
  rw [bd_ok]
  clear hx
  have HN:∀u,Below w0.heap.size w0 u->Hid (Calls Tryd.prog 63 #[.string x] u fun e w'=>e=.returned (.bool (Lib.validD x.data.toList))/\Below u.heap.size u w'):=fun u hb=>hideR (Any.utf8_ValidString Tryd.laysValid x u (by omega) (hU u hb))
  generalize Lib.validD x.data.toList=y at HN ⊢
  clear hU hxs hlen hbig
  cases y with
  | true =>
   rw [if_pos rfl]
   go_enter Tryd.func36,Tryd.ntmps36
   go_wp2_with fail
   refine HC.out.mono ?_
   rintro e w1 ⟨⟨v,rfl,hv⟩,h1,h2⟩
   have hv:v=.string x:=hv
   subst hv
   have HM:=HN _ h1.below
   have HF:=hideR (⟨h1,h2⟩:_/\_)
   clear h1 h2 HC HN
   go_wp2_with fail
   refine HM.out.mono ?_
   rintro e w2 ⟨rfl,hb⟩
   have HG:=hideR (⟨HF.out.1.on hb,HF.out.2.trans (But.of p hb)⟩:_/\_)
   clear hb HM HF
   go_wp2_with fail
   refine (needY _ _).mono ?_
   rintro e w3 ⟨rfl,rfl⟩
   have c2:=HG.out.1.cell 2 _ rfl
   have c1:=HG.out.1.cell 1 _ rfl
   have f1:=HG.out.1.frz 1
   have HE:Hid (∀u,Below w3.heap.size w3 u->RS w0 p s c en k en n (u.setCell ⟨p,1,none⟩ (.int .i64 en))/\But p w (u.setCell ⟨p,1,none⟩ (.int .i64 en))):=hideR (fun u hb=>⟨(HG.out.1.on hb).at_ (Nat.le_refl _),(HG.out.2.trans (But.of p hb)).trans (But.set p 1 u _)⟩)
   clear HG
   go_wp2_with fail
   go_end0
   exact ⟨⟨_,rfl,rfl⟩,(HE.out _ (Below.refl _ _)).1,(HE.out _ (Below.refl _ _)).2⟩
  | false =>
   rw [if_neg (by simp)]
   go_enter Tryd.func36,Tryd.ntmps36
   go_wp2_with fail
   refine HC.out.mono ?_
   rintro e w1 ⟨⟨v,rfl,hv⟩,h1,h2⟩
   have hv:v=.string x:=hv
   subst hv
   have HM:=HN _ h1.below
   have HF:=hideR h1.below
   clear h2 HC HN
   have HS:=hideR h1.below.size
   clear h1
   go_wp2_with fail
   refine HM.out.mono ?_
   rintro e w2 ⟨rfl,hb⟩
   have HG:=hideR (HF.out.trans (hb.mono HS.out))
   clear hb HM HF HS
   go_wp2_with fail
   refine (needN _ _).mono ?_
   rintro e w3 ⟨rfl,rfl⟩
   exact ⟨rfl,rfl,HG.out⟩
end
end Go.Proofs.YthfapccopngfhaaDoor

namespace Go.Proofs.YthfapccopngfhaaDoor
open Go.RowKit Rep Dec
set_option linter.unusedVariables false
namespace Dec
abbrev Pe (α:Type):=α × List Value
def flatE {α:Type} (ps:List (Pe α)):List Value:=ps.flatMap (·.2)
theorem flatE_snoc {α:Type} (ps:List (Pe α)) (q:Pe α):flatE (ps++[q])=flatE ps++q.2:=by unfold flatE;rw [List.flatMap_append];simp
theorem flatE_get {α:Type} {n:Nat}:∀(ps:List (Pe α)),(∀q ∈ ps,q.2.length=n)->∀(i:Nat) (q:Pe α),ps[i]?=some q->∀k v,q.2[k]?=some v->(flatE ps)[i*n+k]?=some v
 | [],_,_,_,h,_,_,_=>by simp at h
 | q0 :: r,hl,0,q,h,k,v,hv=>by
  have:q0=q:=by simpa using h
  subst this
  show (q0.2++flatE r)[0*n+k]?=some v
  have hk:k<q0.2.length:=(List.getElem?_eq_some_iff.1 hv).1
  rw [Nat.zero_mul,Nat.zero_add,List.getElem?_append_left hk]
  exact hv
 | q0 :: r,hl,i+1,q,h,k,v,hv=>by
  have h':r[i]?=some q:=by simpa using h
  have h0:q0.2.length=n:=hl q0 (by simp)
  show (q0.2++flatE r)[(i+1)*n+k]?=some v
  have e:(i+1)*n+k=n+(i*n+k):=by rw [Nat.succ_mul];omega
  rw [e,List.getElem?_append_right (by rw [h0];omega),h0,Nat.add_sub_cancel_left]
  exact flatE_get r (fun q hq=>hl q (by simp [hq])) i q h' k v hv
abbrev EK (α:Type):=World->(Nat->Prop)->α->List Value->Prop
def Keeps {α:Type} (K:EK α):Prop:=∀(w w':World) (S S':Nat->Prop),(∀k,S k->S' k/\w'.heap[k]?=w.heap[k]?)->∀x vs,K w S x vs->K w' S' x vs
abbrev EA (α:Type):=World->(Nat->Prop)->Nat->Nat->α->Prop
def Lies {α:Type} (e:TypeId) (K:EK α) (F:EA α):Prop:=∀(w:World) (S:Nat->Prop) (g o:Nat) x vs,K w S x vs->(∃cur,w.heap[g]?=some (.cells cur e (0,0)))->(∀k v,vs[k]?=some v->w.cell? ⟨g,o+k,none⟩=some v)->F w S g o x
def RowS {α:Type} (n:Nat) (F:EA α) (w:World) (S:Nat->Prop) (v:Value) (l:List α):Prop:=Row n (fun b o x=>S b/\F w S b o x) v l
theorem row_of {α:Type} {K:EK α} {F:EA α} {e:TypeId} (hK:Keeps K) (hF:Lies e K F) {w:World} {B n:Nat} {t:Value} (l:List α) (ps:List (Pe α)) (hm:ps.map (·.1)=l) (hn:l.length<=9223372036854775807) (hw:∀q ∈ ps,q.2.length=n) (ho:w.ownsRow B e n t ps.length (flatE ps)) (hp:∀q ∈ ps,K w (Since B w t.ownBlock) q.1 q.2) :
  RowS n F w (Since B w none) t l:=by
 have hlen:ps.length=l.length:=by rw [<- hm,List.length_map]
 have hup:∀k,Since B w t.ownBlock k->Since B w none k/\w.heap[k]?=w.heap[k]?:=fun k hk=>⟨⟨hk.1,hk.2.1,by simp⟩,rfl⟩
 rcases ho.2 with ⟨rfl,h0⟩|⟨g,cap,cur,rfl,hbg,hg,_,_,_,_⟩
 ·have:l = []:=List.length_eq_zero_iff.1 (by omega)
  subst this
  exact ⟨by simp,.inl ⟨rfl,none,0,rfl⟩⟩
 ·have hgl:g<w.heap.size:=(Array.getElem?_eq_some_iff.1 hg).1
  refine ⟨hn,.inr ⟨g,0,cap,by rw [hlen],fun i x hx=>?_⟩⟩
  have hi:i<ps.length:=by rw [hlen];exact (List.getElem?_eq_some_iff.1 hx).1
  obtain ⟨q,hpi⟩:∃q,ps[i]?=some q:=⟨_,List.getElem?_eq_getElem hi⟩
  have hpx:q.1=x:=by
   have:(ps.map (·.1))[i]?=some q.1:=by rw [List.getElem?_map,hpi];rfl
   rw [hm,hx] at this
   exact (Option.some.inj this).symm
  subst hpx
  refine ⟨⟨hbg,hgl,by simp⟩,hF w _ g _ q.1 q.2 (hK _ _ _ _ hup _ _ (hp q (List.mem_of_getElem? hpi))) ⟨cur,hg⟩ fun k v hv=>?_⟩
  have:=ho.cells (g:=g) rfl (i*n+k) v (flatE_get ps hw i q hpi k v hv)
  rw [add_addr] at this
  rw [Nat.add_assoc]
  exact this
theorem cells_new (w:World) (vs:List Value) (t:TypeId):∀(j:Nat) (u:Value),vs[j]?=some u->(w.alloc (.cells vs.toArray t)).cell? ((⟨w.heap.size,0,none⟩:Addr).add j)=some u:=fun j u hj=>by
 rw [add_addr,World.cell?_alloc_at _ t _ _ rfl,Nat.zero_add]
 simpa using hj
def rents {α:Type} (f:Nat->R α) (s:ByteArray) (en i:Nat):R (List α):=bd (rc s en i) fun n j=>rep f n.toNat j
end Dec
namespace Dec
def vExp (K:EK Exp) (B:Nat) (x:Exp) (v:Value) (u:World):Prop:=v=.agg #[Value.string x.name,Value.int .i64 x.kind,Value.int .i64 x.index]/\K u (Since B u none) x [Value.string x.name,Value.int .i64 x.kind,Value.int .i64 x.index]
end Dec
theorem infoExp:(Tryd.prog.info? 94).map (fun i=>(i.zero,i.size,i.bytes))=some (some (.agg #[.string ByteArray.empty,.int .i64 0,.int .i64 0]),3,32):=by kernel_rfl
set_option maxRecDepth 100000 in
set_option maxHeartbeats 8000000 in
theorem dExps (rd:Nat->R Exp) (K:EK Exp) (F:EA Exp) (hK:Keeps K) (hF:Lies 94 K F) (w0:World) (p:Nat) (s:ByteArray) (c:Nat->Value) (en k i n:Nat) (w:World) (h:RS w0 p s c en k i n w)
  (HE:∀j u,RS w0 p s c en k j n u->Calls Tryd.prog 49 #[.pointer (some ⟨p,0,none⟩)] u (Rds w0 p s c en k n (vExp K u.heap.size) u (rd j))) :
  Calls Tryd.prog 48 #[.pointer (some ⟨p,0,none⟩),.func (.func 49) #[.pointer (some ⟨p,0,none⟩)] #[]] w (Rds w0 p s c en k n (fun l v u=>RowS 3 F u (Since w.heap.size u none) v l) w (rents rd s en i)):=by
 have HC:=hideR (dCnt w0 p s c en k i n w h)
 have HE:=hideR HE
 have hpw:=h.lt
 have hlen:=h.len
 clear h
 unfold rents
 cases hx:rc s en i with
 | error z =>
  rw [hx] at HC
  rw [bd_err]
  clear hx
  go_enter Tryd.func48,Tryd.ntmps48
  go_wp2_with fail
  refine HC.out.mono ?_
  rintro e w1 ⟨rfl,hb⟩
  exact ⟨rfl,rfl,hb⟩
 | ok v =>
  obtain ⟨x,j⟩:=v
  have hrc:=rc_ok hlen hx
  rw [hx] at HC
  rw [bd_ok]
  obtain ⟨m,rfl⟩:∃m:Nat,x=(m:Int):=⟨x.toNat,by omega⟩
  have hm:m<=4096:=by omega
  rw [show ((m:Int).toNat)=m by omega]
  obtain ⟨R,hR⟩:∃R,R=rep rd m j:=⟨_,rfl⟩
  rw [<- hR]
  have HR:=hideR hR
  clear hx hrc hR hlen
  go_enter Tryd.func48,Tryd.ntmps48
  go_wp2_with fail
  refine HC.out.mono ?_
  rintro e w1 ⟨⟨v,rfl,hv⟩,h1,h2⟩
  have hv:v=.int .i64 m:=hv
  subst hv
  have H1:=hideR h1
  have H2:=hideR h2
  clear h1 h2 HC
  go_wp2_with fail
  go_loopw [5,8] (fun t u wr=>∃(q:Nat) (ps:List (Pe Exp)) (jq:Nat),q<=m/\u=.int .i64 q/\ps.length=q/\(∃o c,t=.slice o q c)/\Hid (R=pre (ps.map (·.1)) (rep rd (m-q) jq))/\Hid (RS w0 p s c en k jq n wr)/\Hid (But p w wr)/\Hid (∀y ∈ ps,y.2.length=3)/\Hid (wr.ownsRow w.heap.size 94 3 t q (flatE ps))/\Hid (∀y ∈ ps,K wr (Since w.heap.size wr t.ownBlock) y.1 y.2)) (fun _ u _=>m-(RowKit.intOf u).toNat)
  case atStart=>exact ⟨0,[],j,by omega,rfl,rfl,⟨none,0,rfl⟩,hideR (by rw [HR.out];exact (pre_nil _).symm),H1,H2,hideR (fun y hy=>by cases hy),hideR (World.ownsRow_nil _ _ _ _),hideR (fun y hy=>by cases hy)⟩
  case round =>
   obtain ⟨q,ps,jq,hq,rfl,hl,⟨oT,cT,rfl⟩,HP,HS,HB,HW,HO,HK⟩:=hrel
   by_cases hgo:q<m
   ·have hU:=HE.out jq wr HS.out
    obtain ⟨r,hr⟩:∃r,m-q=r+1:=⟨m-q-1,by omega⟩
    cases hu:rd jq with
    | error z =>
     rw [hu] at hU
     have HU:=hideR hU
     have HZ:Hid (R=.error z):=hideR (by rw [HP.out,hr];exact pre_err _ _ r jq z hu)
     clear hU hu HP HO HK HW
     go_wp2_with fail
     refine HU.out.mono ?_
     rintro e w2 ⟨rfl,hb⟩
     exact ⟨rfl,by rw [HZ.out];exact ⟨rfl,hb⟩⟩
    | ok v =>
     obtain ⟨x,j2⟩:=v
     rw [hu] at hU
     have HU:=hideR hU
     have HZ:Hid (R=pre (ps.map (·.1)++[x]) (rep rd (m-(q+1)) j2)):=hideR (by rw [HP.out,hr,pre_on _ _ r jq x j2 hu,show m-(q+1)=r by omega])
     clear hU hu HP
     go_wp2_with fail
     refine HU.out.mono ?_
     rintro e w2 ⟨⟨v,rfl,hv⟩,h1,h2⟩
     obtain ⟨rfl,hk⟩:=hv
     have HSZ1:Hid (∀q',(Value.slice oT q cT).ownBlock=some q'->w.heap.size<=q'/\q'<wr.heap.size):=hideR (fun q' hq'=>HO.out.lt q' hq')
     have hup:=since_new (B:=w.heap.size) (B2:=wr.heap.size) (u:=w2) (row:=(Value.slice oT q cT).ownBlock) HB.out.size (fun q' hq'=>(HSZ1.out q' hq').2)
     have HNEW:Hid (K w2 (Since w.heap.size w2 (Value.slice oT q cT).ownBlock) x [Value.string x.name,Value.int .i64 x.kind,Value.int .i64 x.index]):=hideR (hK _ _ _ _ hup _ _ hk)
     have HO2:=hideR ((own_but HO.out hpw h2).alloc (.cells #[Value.string x.name,Value.int .i64 x.kind,Value.int .i64 x.index] 94))
     have HN:=hideR (cells_new w2 [Value.string x.name,Value.int .i64 x.kind,Value.int .i64 x.index] 94)
     have HK2:=hideR (fun y hy=>hK _ _ _ _ (since_butO hpw h2) _ _ (HK.out y hy))
     have HB2:=hideR ((HB.out.trans h2).trans (But.of p (new_on' w2 (.cells #[Value.string x.name,Value.int .i64 x.kind,Value.int .i64 x.index] 94))))
     have HS2:=hideR (h1.on (new_on' w2 (.cells #[Value.string x.name,Value.int .i64 x.kind,Value.int .i64 x.index] 94)))
     have HBL:=hideR (new_on' w2 (.cells #[Value.string x.name,Value.int .i64 x.kind,Value.int .i64 x.index] 94))
     have HSZ:Hid (w.heap.size<=w2.heap.size):=hideR (Nat.le_trans HB.out.size h2.size)
     clear h1 h2 hk hup HU HO HS HB HK HSZ1
     obtain ⟨i0,hi,hz0,hz1,hz2⟩:=info_parts infoExp
     go_wp2_with (first|(at_builtin;refine wpList_appS rfl _ _ 36 rfl w.heap.size 94 i0 _ 3 32 Tryd.underlying36 hi hz0 hz1 hz2 rfl (by decide) _ _ _ rfl HO2.out (some ⟨w2.heap.size,0,none⟩) 1 1 [Value.string x.name,Value.int .i64 x.kind,Value.int .i64 x.index] rfl ?c6 ?c0 ?c1 ?c2 ?c3 ?c4 ?c5 ?_))
     case c6=>intro h;cases h
     case c0=>rfl
     case c1=>exact fun ad h=>by injection h with h;subst h;exact HN.out
     case c2 =>
      intro u hu
      simp only [List.mem_cons,List.mem_nil_iff,or_false] at hu
      rcases hu with rfl|rfl|rfl
      all_goals rfl
     case c3=>unfold maxLen;omega
     case c4=>omega
     case c5=>have:=HSZ.out;simp;omega
     intro v9 w9 hown9 hg9 hv9
     have ho9:∀q',(Value.slice oT q cT).ownBlock=some q'->w.heap.size<=q':=fun q' hq'=>(HO2.out.lt q' hq').1
     have HS9:=hideR (HS2.out.grown hg9 (fun q' hq'=>Nat.lt_of_lt_of_le hpw (ho9 q' hq')))
     have HB9:=hideR (But.grown (p:=p) HB2.out hg9 ho9)
     have HO9:Hid (w9.ownsRow w.heap.size 94 3 v9 (q+1) (flatE (ps++[(x,[Value.string x.name,Value.int .i64 x.kind,Value.int .i64 x.index])]))):=hideR (by rw [flatE_snoc];exact hown9)
     have HK9:Hid (∀y ∈ ps++[(x,[Value.string x.name,Value.int .i64 x.kind,Value.int .i64 x.index])],K w9 (Since w.heap.size w9 v9.ownBlock) y.1 y.2):=hideR (fun y hy=>by
      have key:∀x vs,K w2 (Since w.heap.size w2 (Value.slice oT q cT).ownBlock) x vs->K w9 (Since w.heap.size w9 v9.ownBlock) x vs:=fun x vs h=>hK _ _ _ _ (since_grown hg9 (by simpa using hv9)) _ _ (hK _ _ _ _ (since_below HBL.out) _ _ h)
      rcases List.mem_append.1 hy with hy|hy
      ·exact key _ _ (HK2.out y hy)
      ·rw [List.mem_singleton.1 hy];exact key _ _ HNEW.out)
     have HW9:Hid (∀y ∈ ps++[(x,[Value.string x.name,Value.int .i64 x.kind,Value.int .i64 x.index])],y.2.length=3):=hideR (fun y hy=>by
      rcases List.mem_append.1 hy with hy|hy
      ·exact HW.out y hy
      ·rw [List.mem_singleton.1 hy];rfl)
     have HZ9:Hid (R=pre ((ps++[(x,[Value.string x.name,Value.int .i64 x.kind,Value.int .i64 x.index])]).map (·.1)) (rep rd (m-(q+1)) j2)):=hideR (by rw [List.map_append];exact HZ.out)
     have hsl:=own_slice hown9
     clear hown9 hg9 hv9 ho9 HO2 HN HB2 HS2 HK2 HNEW HBL HZ HW
     obtain ⟨oN,cN,rfl⟩:=hsl
     go_wp2
     go_roundw
     case rel=>exact ⟨q+1,ps++[(x,[Value.string x.name,Value.int .i64 x.kind,Value.int .i64 x.index])],j2,by omega,by go_num,by simp [hl],⟨_,_,rfl⟩,HZ9,HS9,HB9,HW9,HO9,HK9⟩
     case measure=>simp [RowKit.intOf];omega
   ·obtain rfl:q=m:=by omega
    have HZ:Hid (R=.ok (ps.map (·.1),jq)):=hideR (by rw [HP.out,Nat.sub_self];exact pre_end _ _ jq)
    have HV:Hid (RowS 3 F wr (Since w.heap.size wr none) (.slice oT q cT) (ps.map (·.1))):=hideR (row_of hK hF _ ps rfl (by rw [List.length_map];omega) HW.out (by rw [hl];exact HO.out) HK.out)
    clear HP HO HK HW
    go_wp2
    go_ret
    rw [HZ.out]
    exact ⟨⟨_,rfl,HV.out⟩,HS.out,HB.out⟩
namespace Dec
end Dec
namespace Dec
def vLim (K:EK Lim) (B:Nat) (x:Lim) (v:Value) (u:World):Prop:=v=.agg #[Value.int .i64 x.min,Value.int .i64 x.max,Value.bool x.has]/\K u (Since B u none) x [Value.int .i64 x.min,Value.int .i64 x.max,Value.bool x.has]
end Dec
namespace Dec
end Dec
namespace Dec
end Dec
namespace Dec
end Dec
namespace Dec
end Dec
namespace Dec
def vFT (K:EK FT) (B:Nat) (x:FT) (v:Value) (u:World):Prop:=∃o1 n1 k1 o2 n2 k2,v=.agg #[Value.slice o1 n1 k1,Value.slice o2 n2 k2]/\K u (Since B u none) x [Value.slice o1 n1 k1,Value.slice o2 n2 k2]
end Dec
theorem infoFT:(Tryd.prog.info? 74).map (fun i=>(i.zero,i.size,i.bytes))=some (some (.agg #[.slice none 0 0,.slice none 0 0]),2,48):=by kernel_rfl
set_option maxRecDepth 100000 in
set_option maxHeartbeats 8000000 in
theorem dFTs (rd:Nat->R FT) (K:EK FT) (F:EA FT) (hK:Keeps K) (hF:Lies 74 K F) (w0:World) (p:Nat) (s:ByteArray) (c:Nat->Value) (en k i n:Nat) (w:World) (h:RS w0 p s c en k i n w)
  (HE:∀j u,RS w0 p s c en k j n u->Calls Tryd.prog 38 #[.pointer (some ⟨p,0,none⟩)] u (Rds w0 p s c en k n (vFT K u.heap.size) u (rd j))) :
  Calls Tryd.prog 37 #[.pointer (some ⟨p,0,none⟩),.func (.func 38) #[.pointer (some ⟨p,0,none⟩)] #[]] w (Rds w0 p s c en k n (fun l v u=>RowS 2 F u (Since w.heap.size u none) v l) w (rents rd s en i)):=by
 have HC:=hideR (dCnt w0 p s c en k i n w h)
 have HE:=hideR HE
 have hpw:=h.lt
 have hlen:=h.len
 clear h
 unfold rents
 cases hx:rc s en i with
 | error z =>
  rw [hx] at HC
  rw [bd_err]
  clear hx
  go_enter Tryd.func37,Tryd.ntmps37
  go_wp2_with fail
  refine HC.out.mono ?_
  rintro e w1 ⟨rfl,hb⟩
  exact ⟨rfl,rfl,hb⟩
 | ok v =>
  obtain ⟨x,j⟩:=v
  have hrc:=rc_ok hlen hx
  rw [hx] at HC
  rw [bd_ok]
  obtain ⟨m,rfl⟩:∃m:Nat,x=(m:Int):=⟨x.toNat,by omega⟩
  have hm:m<=4096:=by omega
  rw [show ((m:Int).toNat)=m by omega]
  obtain ⟨R,hR⟩:∃R,R=rep rd m j:=⟨_,rfl⟩
  rw [<- hR]
  have HR:=hideR hR
  clear hx hrc hR hlen
  go_enter Tryd.func37,Tryd.ntmps37
  go_wp2_with fail
  refine HC.out.mono ?_
  rintro e w1 ⟨⟨v,rfl,hv⟩,h1,h2⟩
  have hv:v=.int .i64 m:=hv
  subst hv
  have H1:=hideR h1
  have H2:=hideR h2
  clear h1 h2 HC
  go_wp2_with fail
  go_loopw [5,8] (fun t u wr=>∃(q:Nat) (ps:List (Pe FT)) (jq:Nat),q<=m/\u=.int .i64 q/\ps.length=q/\(∃o c,t=.slice o q c)/\Hid (R=pre (ps.map (·.1)) (rep rd (m-q) jq))/\Hid (RS w0 p s c en k jq n wr)/\Hid (But p w wr)/\Hid (∀y ∈ ps,y.2.length=2)/\Hid (wr.ownsRow w.heap.size 74 2 t q (flatE ps))/\Hid (∀y ∈ ps,K wr (Since w.heap.size wr t.ownBlock) y.1 y.2)) (fun _ u _=>m-(RowKit.intOf u).toNat)
  case atStart=>exact ⟨0,[],j,by omega,rfl,rfl,⟨none,0,rfl⟩,hideR (by rw [HR.out];exact (pre_nil _).symm),H1,H2,hideR (fun y hy=>by cases hy),hideR (World.ownsRow_nil _ _ _ _),hideR (fun y hy=>by cases hy)⟩
  case round =>
   obtain ⟨q,ps,jq,hq,rfl,hl,⟨oT,cT,rfl⟩,HP,HS,HB,HW,HO,HK⟩:=hrel
   by_cases hgo:q<m
   ·have hU:=HE.out jq wr HS.out
    obtain ⟨r,hr⟩:∃r,m-q=r+1:=⟨m-q-1,by omega⟩
    cases hu:rd jq with
    | error z =>
     rw [hu] at hU
     have HU:=hideR hU
     have HZ:Hid (R=.error z):=hideR (by rw [HP.out,hr];exact pre_err _ _ r jq z hu)
     clear hU hu HP HO HK HW
     go_wp2_with fail
     refine HU.out.mono ?_
     rintro e w2 ⟨rfl,hb⟩
     exact ⟨rfl,by rw [HZ.out];exact ⟨rfl,hb⟩⟩
    | ok v =>
     obtain ⟨x,j2⟩:=v
     rw [hu] at hU
     have HU:=hideR hU
     have HZ:Hid (R=pre (ps.map (·.1)++[x]) (rep rd (m-(q+1)) j2)):=hideR (by rw [HP.out,hr,pre_on _ _ r jq x j2 hu,show m-(q+1)=r by omega])
     clear hU hu HP
     go_wp2_with fail
     refine HU.out.mono ?_
     rintro e w2 ⟨⟨v,rfl,hv⟩,h1,h2⟩
     obtain ⟨o1,n1,k1,o2,n2,k2,rfl,hk⟩:=hv
     have HSZ1:Hid (∀q',(Value.slice oT q cT).ownBlock=some q'->w.heap.size<=q'/\q'<wr.heap.size):=hideR (fun q' hq'=>HO.out.lt q' hq')
     have hup:=since_new (B:=w.heap.size) (B2:=wr.heap.size) (u:=w2) (row:=(Value.slice oT q cT).ownBlock) HB.out.size (fun q' hq'=>(HSZ1.out q' hq').2)
     have HNEW:Hid (K w2 (Since w.heap.size w2 (Value.slice oT q cT).ownBlock) x [Value.slice o1 n1 k1,Value.slice o2 n2 k2]):=hideR (hK _ _ _ _ hup _ _ hk)
     have HO2:=hideR ((own_but HO.out hpw h2).alloc (.cells #[Value.slice o1 n1 k1,Value.slice o2 n2 k2] 74))
     have HN:=hideR (cells_new w2 [Value.slice o1 n1 k1,Value.slice o2 n2 k2] 74)
     have HK2:=hideR (fun y hy=>hK _ _ _ _ (since_butO hpw h2) _ _ (HK.out y hy))
     have HB2:=hideR ((HB.out.trans h2).trans (But.of p (new_on' w2 (.cells #[Value.slice o1 n1 k1,Value.slice o2 n2 k2] 74))))
     have HS2:=hideR (h1.on (new_on' w2 (.cells #[Value.slice o1 n1 k1,Value.slice o2 n2 k2] 74)))
     have HBL:=hideR (new_on' w2 (.cells #[Value.slice o1 n1 k1,Value.slice o2 n2 k2] 74))
     have HSZ:Hid (w.heap.size<=w2.heap.size):=hideR (Nat.le_trans HB.out.size h2.size)
     clear h1 h2 hk hup HU HO HS HB HK HSZ1
     obtain ⟨i0,hi,hz0,hz1,hz2⟩:=info_parts infoFT
     go_wp2_with (first|(at_builtin;refine wpList_appS rfl _ _ 31 rfl w.heap.size 74 i0 _ 2 48 Tryd.underlying31 hi hz0 hz1 hz2 rfl (by decide) _ _ _ rfl HO2.out (some ⟨w2.heap.size,0,none⟩) 1 1 [Value.slice o1 n1 k1,Value.slice o2 n2 k2] rfl ?c6 ?c0 ?c1 ?c2 ?c3 ?c4 ?c5 ?_))
     case c6=>intro h;cases h
     case c0=>rfl
     case c1=>exact fun ad h=>by injection h with h;subst h;exact HN.out
     case c2 =>
      intro u hu
      simp only [List.mem_cons,List.mem_nil_iff,or_false] at hu
      rcases hu with rfl|rfl
      all_goals rfl
     case c3=>unfold maxLen;omega
     case c4=>omega
     case c5=>have:=HSZ.out;simp;omega
     intro v9 w9 hown9 hg9 hv9
     have ho9:∀q',(Value.slice oT q cT).ownBlock=some q'->w.heap.size<=q':=fun q' hq'=>(HO2.out.lt q' hq').1
     have HS9:=hideR (HS2.out.grown hg9 (fun q' hq'=>Nat.lt_of_lt_of_le hpw (ho9 q' hq')))
     have HB9:=hideR (But.grown (p:=p) HB2.out hg9 ho9)
     have HO9:Hid (w9.ownsRow w.heap.size 74 2 v9 (q+1) (flatE (ps++[(x,[Value.slice o1 n1 k1,Value.slice o2 n2 k2])]))):=hideR (by rw [flatE_snoc];exact hown9)
     have HK9:Hid (∀y ∈ ps++[(x,[Value.slice o1 n1 k1,Value.slice o2 n2 k2])],K w9 (Since w.heap.size w9 v9.ownBlock) y.1 y.2):=hideR (fun y hy=>by
      have key:∀x vs,K w2 (Since w.heap.size w2 (Value.slice oT q cT).ownBlock) x vs->K w9 (Since w.heap.size w9 v9.ownBlock) x vs:=fun x vs h=>hK _ _ _ _ (since_grown hg9 (by simpa using hv9)) _ _ (hK _ _ _ _ (since_below HBL.out) _ _ h)
      rcases List.mem_append.1 hy with hy|hy
      ·exact key _ _ (HK2.out y hy)
      ·rw [List.mem_singleton.1 hy];exact key _ _ HNEW.out)
     have HW9:Hid (∀y ∈ ps++[(x,[Value.slice o1 n1 k1,Value.slice o2 n2 k2])],y.2.length=2):=hideR (fun y hy=>by
      rcases List.mem_append.1 hy with hy|hy
      ·exact HW.out y hy
      ·rw [List.mem_singleton.1 hy];rfl)
     have HZ9:Hid (R=pre ((ps++[(x,[Value.slice o1 n1 k1,Value.slice o2 n2 k2])]).map (·.1)) (rep rd (m-(q+1)) j2)):=hideR (by rw [List.map_append];exact HZ.out)
     have hsl:=own_slice hown9
     clear hown9 hg9 hv9 ho9 HO2 HN HB2 HS2 HK2 HNEW HBL HZ HW
     obtain ⟨oN,cN,rfl⟩:=hsl
     go_wp2
     go_roundw
     case rel=>exact ⟨q+1,ps++[(x,[Value.slice o1 n1 k1,Value.slice o2 n2 k2])],j2,by omega,by go_num,by simp [hl],⟨_,_,rfl⟩,HZ9,HS9,HB9,HW9,HO9,HK9⟩
     case measure=>simp [RowKit.intOf];omega
   ·obtain rfl:q=m:=by omega
    have HZ:Hid (R=.ok (ps.map (·.1),jq)):=hideR (by rw [HP.out,Nat.sub_self];exact pre_end _ _ jq)
    have HV:Hid (RowS 2 F wr (Since w.heap.size wr none) (.slice oT q cT) (ps.map (·.1))):=hideR (row_of hK hF _ ps rfl (by rw [List.length_map];omega) HW.out (by rw [hl];exact HO.out) HK.out)
    clear HP HO HK HW
    go_wp2
    go_ret
    rw [HZ.out]
    exact ⟨⟨_,rfl,HV.out⟩,HS.out,HB.out⟩
end Go.Proofs.YthfapccopngfhaaDoor


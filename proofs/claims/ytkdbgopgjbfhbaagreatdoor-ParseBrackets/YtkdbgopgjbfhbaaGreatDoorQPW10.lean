/- Texts that the claim needs. -/
import Derived.Test.YtkdbgopgjbfhbaaGreatDoorQPW9
import Derived.Test.YtkdbgopgjbfhbaaGreatDoorQPW8
namespace Go.Proofs.YtkdbgopgjbfhbaaGreatDoor
open Go.RowKit Lx Pz bq
set_option linter.unusedVariables false
set_option maxRecDepth 100000
set_option maxHeartbeats 8000000
theorem acF (w0:World) (p:Nat) (L:List Tk) (vL:Value) (en:Int) (i:Nat) (E:Nat->Rd Value) (HE:∀j u,i<j->PR w0 p L vL en j u->Calls Tryz.prog 240 #[.pointer (some ⟨p,0,none⟩)] u (Rp w0 p L vL en (aX u.heap.size) u (E j))) (w:World) (h:PR w0 p L vL en i w) :
  Calls Tryz.prog 235 #[.pointer (some ⟨p,0,none⟩)] w (Rp w0 p L vL en (aX w.heap.size) w (match aY L en gW i with | .error z=>.error z | .ok j=>match E j with | .error z=>.error z | .ok (e,j)=>.ok (nd 10 e0 e0 0 [e] [] (tk L en i).a,j))):=by
 have HA:=ae (AP.start h 27 bO);have HM:=ae (ig w0 p L vL en i gW _ HA.out.pr);obtain ⟨az,aW⟩:∃X,X=(match aY L en gW i with | .error z=>.error z | .ok j=>match E j with | .error z=>.error z | .ok (e,j)=>.ok (nd 10 e0 e0 0 [e] [] (tk L en i).a,j):Rd Value):=⟨_,rfl⟩
 rw [<- aW];have bT:=ae aW;have cH:=ae HE;clear h aW HE;go_enter Tryz.func235,Tryz.ntmps235;go_wp2_with fail;refine Calls.mono (show Calls _ _ _ _ _ from HM.out) ?_;intro e u hr;cases hR:aY L en gW i with
 | error z =>
  obtain ⟨rfl,hb⟩:=bE hr (dU hR);have HB:=ae hb;have aA:Hid (az=.error z):=ae (by have hq:=bT.out;rw [hR] at hq;exact hq);clear hb HM hR bT hr;go_wp2;exact ⟨rfl,bA aA.out HB.out⟩
 | ok j =>
  obtain ⟨⟨v,rfl,hv⟩,hp,hbt⟩:=bw hr (dU hR);subst hv;have aO:=ae (HA.out.call hp hbt);have iN:=ae (cH.out j u (fK hR) hp);have bD:Hid (az=(match E j with | .error z=>.error z | .ok (e,j)=>.ok (nd 10 e0 e0 0 [e] [] (tk L en i).a,j))):=ae (by have hq:=bT.out;rw [hR] at hq;exact hq)
  clear hp hbt HM HA hR hr bT cH;generalize (tk L en i).a=at' at *;go_wp2_with fail;refine Calls.mono (show Calls _ _ _ _ _ from iN.out) ?_;intro e u5 hr;cases hR:E j with
  | error z =>
   obtain ⟨rfl,hb⟩:=bE hr hR;have HB:=ae hb;have aA:Hid (az=.error z):=ae (by have hq:=bD.out;rw [hR] at hq;exact hq);clear hb hr hR iN bD;go_wp2;exact ⟨rfl,bA aA.out HB.out⟩
  | ok r =>
   obtain ⟨tr,k⟩:=r;obtain ⟨⟨v,rfl,hv0⟩,hp,hbt⟩:=bw hr hR;obtain ⟨vk,vx,vy,vn,vu,vz,va,hv,o1,o2⟩:=hv0.val;subst hv;have bP:=aO.out.lt;have bz:Hid (az=.ok (nd 10 e0 e0 0 [tr] [] at',k)):=ae (by have hq:=bD.out;rw [hR] at hq;exact hq);have hsz:=hbt.size;have dm:=ae (aO.out.call hp hbt);obtain ⟨u6,M9⟩:∃u6,u6=u5.alloc (.cells #[.int .i64 vk,.string vx,.string vy,.int .i64 vn,vu,vz,.int .i64 va] 27):=⟨_,rfl⟩;have fZ:Below u5.heap.size u5 u6:=by rw [M9];exact dF u5 _
   have jP:u6.heap[u5.heap.size]?=some (.cells #[.int .i64 vk,.string vx,.string vy,.int .i64 vn,vu,vz,.int .i64 va] 27 (0,0)):=by rw [M9];exact heap_alloc_new _ _
   have mb:=ae (dm.out.on fZ);have VN:=hv0.on (bX.of fZ) (Nat.le_refl _);obtain ⟨W,hW,hth,hbk,hpr,aU,hab⟩:=mb.out.put #[.int .i64 10,.string e0,.string e0,.int .i64 0,.slice (some ⟨u5.heap.size,0,none⟩) 1 1,.slice none 0 0,.int .i64 at'] rfl
   have HV:Hid (aX w.heap.size (nd 10 e0 e0 0 [tr] [] at') (.agg #[.int .i64 10,.string e0,.string e0,.int .i64 0,.slice (some ⟨u5.heap.size,0,none⟩) 1 1,.slice none 0 0,.int .i64 at']) W):=ae (by
    obtain ⟨d,hd⟩:=D6 (B:=u.heap.size) (b:=u5.heap.size) (o:=0) VN hsz (fun j u hj=>ak jP _ u (by rw [Nat.zero_add];exact hj));have hd2:=dW.lo (q:=w.heap.size) (by omega) d _ _ _ (dW.but (hab.lo (by omega)) d _ _ _ hd);refine ⟨d,10,e0,e0,0,[tr],[],at',_,_,rfl,rfl,⟨by simp,.inr ⟨u5.heap.size,0,1,rfl,fun i x hx=>?_⟩⟩,vv _ _⟩
    match i,hx with
    | 0,hx=>injection hx with hx;subst hx;exact hd2
    | i+1,hx=>simp at hx)
   have HW:=ae hW;have aC:=ae hth;have au:=ae hbk;have HF:=ae (And.intro hpr aU);have VO:=ae M9;clear hW hth hbk hpr aU hab VN jP fZ hp hbt hr hv0 hR bD iN dm mb aO;go_wp2_with (refine wpList_store_mid rfl 27 (.tmp 2) (.tmp 10) rfl w.heap.size 0 #[.int .i64 10,.string e0,.string e0,.int .i64 0,.slice (some ⟨u5.heap.size,0,none⟩) 1 1,.slice none 0 0,.int .i64 at'] rfl rfl (by rw [<- VO.out];exact aC.out) cO (by simp [Value.oneCell']) ?_;rw [<- VO.out,HW.out]);have z0:=ak au.out 0 _ rfl;have z1:=ak au.out 1 _ rfl;have z2:=ak au.out 2 _ rfl;have z3:=ak au.out 3 _ rfl;have z4:=ak au.out 4 _ rfl;have z5:=ak au.out 5 _ rfl;have z6:=ak au.out 6 _ rfl;refine bodyPost_ret (v:=.agg #[.int .i64 10,.string e0,.string e0,.int .i64 0,.slice (some ⟨u5.heap.size,0,none⟩) 1 1,.slice none 0 0,.int .i64 at']) (by simp [results,Tryz.results235,go_sem,z0,z1,z2,z3,z4,z5,z6]) rfl (cz bz.out HV.out HF.out.1 HF.out.2)
namespace Pz
def ia (H:List Nat) (p:Nat) (u w':World):Prop:=∀k,k<u.heap.size->k≠p->k ∉ H->w'.heap[k]?=u.heap[k]?
theorem ia.refl (H:List Nat) (p:Nat) (u:World):ia H p u u:=fun _ _ _ _=>rfl
theorem ia.more {H H':List Nat} {p:Nat} {u w':World} (h:ia H p u w') (hs:∀k ∈ H,k ∈ H'):ia H' p u w':=fun k hk hp hn=>h k hk hp fun hm=>hn (hs k hm)
abbrev Bk:=Nat × Array Value × TypeId
structure ST (w0:World) (p:Nat) (L:List Tk) (vL:Value) (en:Int) (H:List Nat) (w:World) (i:Nat) (Bs:List Bk) (Ts:List (World->Prop)) (u:World):Prop where
 pr:PR w0 p L vL en i u
 but:But p w u
 ek:p<w.heap.size
 hlt:∀k ∈ H,k<u.heap.size
 blk:∀x ∈ Bs,u.heap[x.1]?=some (.cells x.2.1 x.2.2 (0,0))/\w.heap.size<=x.1
 pO:(Bs.map (·.1)).Nodup
 gq:∀F ∈ Ts,∀w',ia (H++Bs.map (·.1)) p u w'->F w'
section
variable {w0 w u u':World} {p:Nat} {L:List Tk} {vL:Value} {en:Int} {H:List Nat} {i j:Nat} {Bs:List Bk} {Ts:List (World->Prop)}
theorem ST.start (h:PR w0 p L vL en i w) (hH:∀k ∈ H,k<w.heap.size) (hT:∀F ∈ Ts,∀w',ia H p w w'->F w'):ST w0 p L vL en H w i [] Ts w :=
 ⟨h,But.refl _ _,h.lt,hH,fun x hx=>(by cases hx),(by simp),fun F hF w' hw=>hT F hF w' (by simpa using hw)⟩
theorem ST.om (h:PR w0 p L vL en i w):ST w0 p L vL en [] w i [] [] w:=ST.start h (fun k hk=>by cases hk) (fun F hF=>by cases hF)
theorem ST.blt (h:ST w0 p L vL en H w i Bs Ts u) {x:Bk} (hx:x ∈ Bs):x.1<u.heap.size:=(Array.getElem?_eq_some_iff.1 (h.blk x hx).1).1
theorem ST.mlt (h:ST w0 p L vL en H w i Bs Ts u) {k:Nat} (hk:k ∈ H++Bs.map (·.1)):k<u.heap.size:=by
 rcases List.mem_append.1 hk with h1|h1
 ·exact h.hlt k h1
 ·obtain ⟨x,hx,rfl⟩:=List.mem_map.1 h1;exact h.blt hx
theorem ST.FV (h:ST w0 p L vL en H w i Bs Ts u) {x:Bk} (hx:x ∈ Bs):x.1≠p:=by
 have:=(h.blk x hx).2;have:=h.ek;omega
theorem ST.on (h : ST w0 p L vL en H w i Bs Ts u) (hb : Below u.heap.size u u') : ST w0 p L vL en H w i Bs Ts u' :=
  ⟨h.pr.on hb, h.but.trans (But.of p hb), h.ek, fun k hk => Nat.lt_of_lt_of_le (h.hlt k hk) hb.size, fun x hx => ⟨by rw [hb.block _ (h.blt hx)]; exact (h.blk x hx).1, (h.blk x hx).2⟩, h.pO,
   fun F hF w' hw => h.gq F hF w' fun k hk hp hn => (hw k (Nat.lt_of_lt_of_le hk hb.size) hp hn).trans (hb.block k hk)⟩
theorem ST.call (h : ST w0 p L vL en H w i Bs Ts u) (h1 : PR w0 p L vL en j u') (h2 : But p u u') : ST w0 p L vL en H w j Bs Ts u' :=
  ⟨h1, h.but.trans h2, h.ek, fun k hk => Nat.lt_of_lt_of_le (h.hlt k hk) h2.size, fun x hx => ⟨by rw [h2.block _ (h.blt hx) (h.FV hx)]; exact (h.blk x hx).1, (h.blk x hx).2⟩, h.pO,
   fun F hF w' hw => h.gq F hF w' fun k hk hp hn => (hw k (Nat.lt_of_lt_of_le hk h2.size) hp hn).trans (h2.block k hk hp)⟩
theorem ST.new (h:ST w0 p L vL en H w i Bs Ts u) (cs:Array Value) (T:TypeId):ST w0 p L vL en H w i (Bs++[(u.heap.size,cs,T)]) Ts (u.alloc (.cells cs T)):=by
 have hb:Below u.heap.size u (u.alloc (.cells cs T)):=(Below.refl _ u).alloc (Nat.le_refl _) _;have h1:=h.on hb;refine ⟨h1.pr,h1.but,h.ek,h1.hlt,fun x hx=>?_,?_,fun F hF w' hw=>?_⟩
 ·rcases List.mem_append.1 hx with h2|h2
  ·exact h1.blk x h2
  ·rw [List.mem_singleton.1 h2];exact ⟨heap_alloc_new _ _,h.but.size⟩
 ·rw [List.map_append,List.nodup_append];refine ⟨h.pO,by simp,fun a ha b hb=>?_⟩;have hb':b=u.heap.size:=by simpa using hb
  have:=h.mlt (List.mem_append_right H ha)
  omega
 ·refine h.gq F hF w' fun k hk hp hn=>(hw k (Nat.lt_of_lt_of_le hk hb.size) hp fun hm=>?_).trans (hb.block k hk);rcases List.mem_append.1 hm with h2|h2
  ·exact hn (List.mem_append_left _ h2)
  ·rw [List.map_append] at h2;rcases List.mem_append.1 h2 with h3|h3
   ·exact hn (List.mem_append_right _ h3)
   ·have:k=u.heap.size:=by simpa using h3
    omega
theorem RF {l:List Bk} {k:Nat} {x y:Bk} (hk:l[k]?=some x) (he:y.1=x.1):(l.set k y).map (·.1)=l.map (·.1):=by
 apply List.ext_getElem?;intro m;rw [List.getElem?_map,List.getElem?_map,List.getElem?_set];split
 ·rename_i hm;subst hm;rw [hk];split
  ·simp [he]
  ·rename_i hn;exact absurd (List.getElem?_eq_some_iff.1 hk).1 hn
 ·rfl
theorem aa6 {l:List Bk} (hn:(l.map (·.1)).Nodup) {k:Nat} {x y z:Bk} (hk:l[k]?=some x) (hz:z ∈ l.set k y):z=y\/(z ∈ l/\z.1≠x.1):=by
 obtain ⟨m,hm⟩:=List.getElem?_of_mem hz;rw [List.getElem?_set] at hm;split at hm
 ·split at hm
  ·injection hm with hm;exact .inl hm.symm
  ·cases hm
 ·rename_i hne;refine .inr ⟨List.mem_of_getElem? hm,fun e=>hne ?_⟩;have a1:=(List.getElem?_eq_some_iff.1 hk);have a2:=(List.getElem?_eq_some_iff.1 hm);obtain ⟨k1,k2⟩:=a1;obtain ⟨m1,m2⟩:=a2;have hp:=List.pairwise_iff_getElem.1 hn;have q1:(l.map (·.1))[k]'(by simpa using k1)=x.1:=by simp [k2]
  have q2:(l.map (·.1))[m]'(by simpa using m1)=z.1:=by simp [m2]
  rcases Nat.lt_trichotomy k m with h|h|h
  ·exact absurd (by rw [q1,q2,e]) (hp k m (by simpa using k1) (by simpa using m1) h)
  ·exact h
  ·exact absurd (by rw [q1,q2,e]) (hp m k (by simpa using m1) (by simpa using k1) h)
theorem ST.wrote (h:ST w0 p L vL en H w i Bs Ts u) {k:Nat} {b:Nat} {cs vs:Array Value} {T:TypeId} (hk:Bs[k]?=some (b,cs,T)) (hb:Below b u u') (hbb:∀m,m≠b->u'.heap[m]?=u.heap[m]?) (hv:u'.heap[b]?=some (.cells vs T (0,0))) (hs:u.heap.size<=u'.heap.size):ST w0 p L vL en H w i (Bs.set k (b,vs,T)) Ts u':=by
 have hx:=List.mem_of_getElem? hk;have hwb:w.heap.size<=b:=(h.blk _ hx).2;have hpb:p≠b:=by have:=h.ek;omega
 refine ⟨⟨h.pr.below.trans (hb.mono (by have:=h.pr.base;have:=h.ek;omega)),h.pr.base,by rw [hbb p hpb];exact h.pr.blk,h.pr.le,?_,h.pr.few,h.pr.rX⟩,?_,h.ek,fun k hk=>Nat.lt_of_lt_of_le (h.hlt k hk) hs,fun x hx=>?_,(by rw [RF (y:=(b,vs,T)) hk rfl];exact h.pO),fun F hF w' hw=>?_⟩
 ·rcases h.pr.toks with h1|⟨g,c,h1,h2⟩
  ·exact .inl h1
  ·refine .inr ⟨g,c,h1,fun a t ha b' v hv'=>?_⟩;have hc:=h2 a t ha b' v hv';have hg:g≠b:=by have:=h.pr.rX g 0 _ c h1;have:=h.ek;omega
   unfold World.cell? at hc ⊢;rw [hbb g hg];exact hc
 ·exact ⟨hb.os.trans h.but.os,hb.tape.trans h.but.tape,hb.output.trans h.but.output,Nat.le_trans h.but.size hs,fun m hm hp=>by rw [hbb m (by omega)];exact h.but.block m hm hp⟩
 ·rcases aa6 h.pO hk hx with rfl|⟨h1,h2⟩
  ·exact ⟨hv,hwb⟩
  ·exact ⟨by rw [hbb _ h2];exact (h.blk x h1).1,(h.blk x h1).2⟩
 ·rw [RF (y:=(b,vs,T)) hk rfl] at hw;refine h.gq F hF w' fun m hm hp hn=>(hw m (Nat.lt_of_lt_of_le hm hs) hp hn).trans (hbb m fun e=>hn ?_);subst e;exact List.mem_append_right _ (List.mem_map.2 ⟨_,hx,rfl⟩)
theorem ST.at_ (h:ST w0 p L vL en H w i Bs Ts u) {k:Nat} {b:Nat} {cs:Array Value} {T:TypeId} (hk:Bs[k]?=some (b,cs,T)):u.heap[b]?=some (.cells cs T (0,0)):=(h.blk _ (List.mem_of_getElem? hk)).1
theorem ST.cell (h:ST w0 p L vL en H w i Bs Ts u) (k:Nat) {b:Nat} {cs:Array Value} {T:TypeId} (hk:Bs[k]?=some (b,cs,T)) (o:Nat) {v:Value} (hv:cs[o]?=some v):u.cell? ⟨b,o,none⟩=some v:=ak (h.at_ hk) o v hv
theorem ST.jb (h:ST w0 p L vL en H w i Bs Ts u) (k:Nat) {b:Nat} {cs:Array Value} {T:TypeId} (hk:Bs[k]?=some (b,cs,T)) (o:Nat):u.frozen? ⟨b,o,none⟩=false:=by
 unfold World.frozen?;rw [h.at_ hk];simp
theorem ST.put (h:ST w0 p L vL en H w i Bs Ts u) (k:Nat) {b:Nat} {cs:Array Value} {T:TypeId} (hk:Bs[k]?=some (b,cs,T)) (vs:Array Value) (hz:cs.size=vs.size) :
  ∃W,u.setCells b 0 vs.toList=W/\u.there b 0 vs.size/\ST w0 p L vL en H w i (Bs.set k (b,vs,T)) Ts W:=by
 have hb:=h.at_ hk;exact ⟨_,rfl,by have:=CP hb;rw [hz] at this;exact this,h.wrote hk (nL b b (Nat.le_refl _) vs.toList 0 u u (Below.refl _ u)) (fun m hm=>wH b m hm vs.toList 0 u) (CQ hb hz) (nL 0 b (Nat.zero_le _) vs.toList 0 u u (Below.refl _ u)).size⟩
theorem ST.set (h:ST w0 p L vL en H w i Bs Ts u) (k:Nat) {b:Nat} {cs:Array Value} {T:TypeId} (hk:Bs[k]?=some (b,cs,T)) (o:Nat) (v:Value) :
  ∃W,u.setCell ⟨b,o,none⟩ v=W/\ST w0 p L vL en H w i (Bs.set k (b,cs.setIfInBounds o v,T)) Ts W:=by
 have hb:=h.at_ hk;exact ⟨_,rfl,h.wrote hk ((Below.refl b u).setCell (Nat.le_refl b) _) (fun m hm=>Below.heap_setCell u ⟨b,o,none⟩ v m hm) (heap_setCell_same u b o cs T v hb) (by simp)⟩
theorem ST.kE (h:ST w0 p L vL en H w i Bs Ts u) (T:TypeId) (z vs:Array Value) (hz:z.size=vs.size) :
  ∃W,(u.alloc (.cells z T)).setCells u.heap.size 0 vs.toList=W/\(u.alloc (.cells z T)).there u.heap.size 0 vs.size/\ST w0 p L vL en H w i (Bs++[(u.heap.size,vs,T)]) Ts W:=by
 obtain ⟨W,h1,h2,h3⟩:=(h.new z T).put Bs.length (b:=u.heap.size) (cs:=z) (T:=T) (by rw [List.getElem?_append_right (Nat.le_refl _)];simp) vs hz;refine ⟨W,h1,h2,?_⟩;rw [List.set_append_right _ _ (Nat.le_refl _)] at h3;simpa using h3
theorem ST.set' (h:ST w0 p L vL en H w i Bs Ts u) (k:Nat) {b:Nat} {cs:Array Value} {T:TypeId} (hk:Bs[k]?=some (b,cs,T)) (o:Nat) (v:Value):ST w0 p L vL en H w i (Bs.set k (b,cs.setIfInBounds o v,T)) Ts (u.setCell ⟨b,o,none⟩ v):=by
 obtain ⟨W,h1,h2⟩:=h.set k hk o v;rw [h1];exact h2
theorem ST.add (h:ST w0 p L vL en H w i Bs Ts u) (F:World->Prop) (hF:∀w',ia (H++Bs.map (·.1)) p u w'->F w'):ST w0 p L vL en H w i Bs (F :: Ts) u :=
 ⟨h.pr,h.but,h.ek,h.hlt,h.blk,h.pO,fun G hG=>by
  rcases List.mem_cons.1 hG with rfl|hG
  ·exact hF
  ·exact h.gq G hG⟩
theorem ST.drop (h:ST w0 p L vL en H w i Bs Ts u) {Ts':List (World->Prop)} (hT:∀F ∈ Ts',F ∈ Ts):ST w0 p L vL en H w i Bs Ts' u :=
 ⟨h.pr,h.but,h.ek,h.hlt,h.blk,h.pO,fun G hG=>h.gq G (hT G hG)⟩
theorem ST.out (h:ST w0 p L vL en H w i Bs Ts u) {F:World->Prop} (hF:F ∈ Ts):F u:=h.gq F hF u (ia.refl _ _ _)
theorem ST.newer {w9:World} (h:ST w0 p L vL en H w i Bs Ts u) (hw:ia (H++Bs.map (·.1)) p u' w9):bX u.heap.size u' w9:=fun k hk hl =>
 hw k hl (by have:=h.pr.lt;omega) fun hm=>by have:=h.mlt hm;omega
theorem ST.jM (h:ST w0 p L vL en H w i Bs Ts u) {t v:Value} {B:Nat} (hB:B<=u.heap.size) (h1:PR w0 p L vL en j u') (h2:But p u u') (hv:aX u.heap.size t v u'):ST w0 p L vL en H w j Bs (aX B t v :: Ts) u' :=
 (h.call h1 h2).add _ fun w' hw=>hv.on (h.newer hw) hB
theorem ST.aa7 (h:ST w0 p L vL en H w i Bs Ts u) {t v:Value} {B:Nat} (hB:B<=u.heap.size) (h1:PR w0 p L vL en j u') (h2:But p u u') (hv:cW u.heap.size t v u'):ST w0 p L vL en H w j Bs (cW B t v :: Ts) u' :=
 (h.call h1 h2).add _ fun w' hw=>hv.on (h.newer hw) hB
theorem ST.DZ (h:ST w0 p L vL en H w i Bs Ts u) {t v:Value} {B:Nat} (hB:B<=u.heap.size) (h1:PR w0 p L vL en j u') (h2:But p u u') (hv:fE u.heap.size t v u'):ST w0 p L vL en H w j Bs (fE B t v :: Ts) u' :=
 (h.call h1 h2).add _ fun w' hw=>hv.on (h.newer hw) hB
end
theorem aX.at_ {B:Nat} {t:Value} {w:World} {k:Int} {x y:ByteArray} {n:Int} {u z:Value} {a:Int} (h:aX B t (.agg #[.int .i64 k,.string x,.string y,.int .i64 n,u,z,.int .i64 a]) w):iS t=a:=by
 obtain ⟨d,k',x',y',n',es,ps,a',u',z',h0,h1,_⟩:=h;subst h0;rw [aa8];injection h1 with h1
 have:=congrArg (fun l:Array Value=>l[6]?) h1
 simpa using this.symm
def mf (B:Nat) (v:Value) (ts:List Value) (w:World):Prop:=∃d,Row 7 (dW B w d) v ts
def kz (B:Nat) (v:Value) (ts:List Value) (w:World):Prop:=∃d,Row 5 (di B w d) v ts
def mJ (B:Nat) (v:Value) (ts:List Value) (w:World):Prop:=∃d,Row 4 (eM B w d) v ts
theorem mf.nil (B:Nat) (w:World):mf B (.slice none 0 0) [] w:=⟨0,vv _ _⟩
theorem kz.nil (B:Nat) (w:World):kz B (.slice none 0 0) [] w:=⟨0,vv _ _⟩
theorem mJ.nil (B:Nat) (w:World):mJ B (.slice none 0 0) [] w:=⟨0,vv _ _⟩
theorem Bi {B:Nat} {w:World} {v z:Value} {es ps:List Value} (k:Int) (x y:ByteArray) (n a:Int) (he:mf B v es w) (hp:kz B z ps w):aX B (nd k x y n es ps a) (.agg #[.int .i64 k,.string x,.string y,.int .i64 n,v,z,.int .i64 a]) w:=by
 obtain ⟨d,hd⟩:=he;obtain ⟨d',hd'⟩:=hp;exact ⟨d+d',k,x,y,n,es,ps,a,v,z,rfl,rfl,hd.imp fun b o t _ h=>ug (F:=dW B w) dW.up (Nat.le_add_right _ _) h,hd'.imp fun b o t _ h=>ug (F:=di B w) di.up (Nat.le_add_left _ _) h⟩
theorem GJ {B:Nat} {w:World} {v:Value} {es:List Value} (k:Int) (x:ByteArray) (n:Int) (he:mJ B v es w):fE B (nd k x e0 n es [] 0) (.agg #[.int .i64 k,.string x,.int .i64 n,v]) w:=by
 obtain ⟨d,hd⟩:=he;exact ⟨d,k,x,n,es,v,rfl,rfl,hd⟩
theorem KJ {F:Nat->Nat->Nat->Value->Prop} (hF:∀d b o t,F d b o t->F (d+1) b o t) {V:Value->Value->World->Prop} {w:World} {b sz c:Nat} {T:TypeId} {cells:Array Value} {ts:List Value} (hn:ts.length<=9223372036854775807) (hb:w.heap[b]?=some (.cells cells T (0,0)))
  (hV:∀(t:Value) (cs:Array Value) (o:Nat),V t (.agg cs) w->(∀j u,cs[j]?=some u->w.cell? ⟨b,o+j,none⟩=some u)->∃d,F d b o t)
  (hx:∀k t,ts[k]?=some t->∃cs:Array Value,V t (.agg cs) w/\∀j u,cs[j]?=some u->cells[k*sz+j]?=some u):∃d,Row sz (F d) (.slice (some ⟨b,0,none⟩) ts.length c) ts:=by
 obtain ⟨d,hd⟩:=D5 (ts:=ts) (P:=fun d k t=>F d b (k*sz) t) (fun d e k t hde hp=>ug hF hde hp) ts.length fun k t _ hk=>by
  obtain ⟨cs,hv,hj⟩:=hx k t hk;exact hV t cs (k*sz) hv fun j u hu=>ak hb _ u (hj j u hu)
 exact ⟨d,hn,.inr ⟨b,0,c,rfl,fun k t hk=>by rw [Nat.zero_add];exact hd k t (List.getElem?_eq_some_iff.1 hk).1 hk⟩⟩
section
variable {w0 w u u':World} {p:Nat} {L:List Tk} {vL:Value} {en:Int} {H:List Nat} {i j:Nat} {Bs:List Bk} {Ts:List (World->Prop)}
theorem KL (u:World) (o:Obj) {H:List Nat} {p:Nat} {w':World} (h:ia H p (u.alloc o) w'):ia H p u w':=fun k hk hp hn=>(h k (by simp;omega) hp hn).trans (((Below.refl _ u).alloc (Nat.le_refl _) o).block k hk)
theorem ST.uA (h:ST w0 p L vL en H w i Bs Ts u) {B:Nat} (hB:B<=u.heap.size) (cells:Array Value) (T:TypeId) (ts:List Value) (c:Nat) (hn:ts.length<=9223372036854775807) (hx:∀k t,ts[k]?=some t->∃cs:Array Value,aX B t (.agg cs) ∈ Ts/\∀j v,cs[j]?=some v->cells[k*7+j]?=some v) :
  ST w0 p L vL en H w i Bs (mf B (.slice (some ⟨u.heap.size,0,none⟩) ts.length c) ts :: Ts) (u.alloc (.cells cells T)) :=
 (h.on (dF u _)).add _ fun w' hw=>by
  have hb:w'.heap[u.heap.size]?=some (.cells cells T (0,0)):=by
   rw [hw _ (by simp) (by have:=h.pr.lt;omega) (fun hm=>by have:=h.mlt hm;omega)];exact heap_alloc_new _ _
  refine KJ (V:=aX B) dW.up hn hb (fun t cs o hv hc=>D6 hv hB hc) fun k t hk=>?_;obtain ⟨cs,hm,hj⟩:=hx k t hk;exact ⟨cs,h.gq _ hm w' (KL u _ hw),hj⟩
theorem ST.rowP (h:ST w0 p L vL en H w i Bs Ts u) {B:Nat} (hB:B<=u.heap.size) (cells:Array Value) (T:TypeId) (ts:List Value) (c:Nat) (hn:ts.length<=9223372036854775807) (hx:∀k t,ts[k]?=some t->∃cs:Array Value,cW B t (.agg cs) ∈ Ts/\∀j v,cs[j]?=some v->cells[k*5+j]?=some v) :
  ST w0 p L vL en H w i Bs (kz B (.slice (some ⟨u.heap.size,0,none⟩) ts.length c) ts :: Ts) (u.alloc (.cells cells T)) :=
 (h.on (dF u _)).add _ fun w' hw=>by
  have hb:w'.heap[u.heap.size]?=some (.cells cells T (0,0)):=by
   rw [hw _ (by simp) (by have:=h.pr.lt;omega) (fun hm=>by have:=h.mlt hm;omega)];exact heap_alloc_new _ _
  refine KJ (V:=cW B) di.up hn hb (fun t cs o hv hc=>KM hv hB hc) fun k t hk=>?_;obtain ⟨cs,hm,hj⟩:=hx k t hk;exact ⟨cs,h.gq _ hm w' (KL u _ hw),hj⟩
theorem ST.aa9 (h:ST w0 p L vL en H w i Bs Ts u) {B:Nat} (hB:B<=u.heap.size) (cells:Array Value) (T:TypeId) (ts:List Value) (c:Nat) (hn:ts.length<=9223372036854775807) (hx:∀k t,ts[k]?=some t->∃cs:Array Value,fE B t (.agg cs) ∈ Ts/\∀j v,cs[j]?=some v->cells[k*4+j]?=some v) :
  ST w0 p L vL en H w i Bs (mJ B (.slice (some ⟨u.heap.size,0,none⟩) ts.length c) ts :: Ts) (u.alloc (.cells cells T)) :=
 (h.on (dF u _)).add _ fun w' hw=>by
  have hb:w'.heap[u.heap.size]?=some (.cells cells T (0,0)):=by
   rw [hw _ (by simp) (by have:=h.pr.lt;omega) (fun hm=>by have:=h.mlt hm;omega)];exact heap_alloc_new _ _
  refine KJ (V:=fE B) eM.up hn hb (fun t cs o hv hc=>RG hv hB hc) fun k t hk=>?_;obtain ⟨cs,hm,hj⟩:=hx k t hk;exact ⟨cs,h.gq _ hm w' (KL u _ hw),hj⟩
theorem ST.Bi (h:ST w0 p L vL en H w i Bs Ts u) {B:Nat} {v z:Value} {es ps:List Value} (k:Int) (x y:ByteArray) (n a:Int) (he:mf B v es ∈ Ts) (hp:kz B z ps ∈ Ts):ST w0 p L vL en H w i Bs (aX B (nd k x y n es ps a) (.agg #[.int .i64 k,.string x,.string y,.int .i64 n,v,z,.int .i64 a]) :: Ts) u :=
 h.add _ fun w' hw=>Pz.Bi k x y n a (h.gq _ he w' hw) (h.gq _ hp w' hw)
theorem ST.yF (h:ST w0 p L vL en H w i Bs Ts u) {B:Nat} {v:Value} {es:List Value} (k:Int) (x y:ByteArray) (n a:Int) (he:mf B v es ∈ Ts):ST w0 p L vL en H w i Bs (aX B (nd k x y n es [] a) (.agg #[.int .i64 k,.string x,.string y,.int .i64 n,v,.slice none 0 0,.int .i64 a]) :: Ts) u :=
 h.add _ fun w' hw=>Pz.Bi k x y n a (h.gq _ he w' hw) (kz.nil _ _)
theorem ST.uW (h:ST w0 p L vL en H w i Bs Ts u) {B:Nat} (k:Int) (x:ByteArray) (n a:Int):ST w0 p L vL en H w i Bs (cW B (nd k x e0 n [] [] a) (.agg #[.int .i64 k,.string x,.int .i64 n,.slice none 0 0,.int .i64 a]) :: Ts) u :=
 h.add _ fun w' hw=>Pz.uW _ _ _ _ _ _
theorem ST.GJ (h:ST w0 p L vL en H w i Bs Ts u) {B:Nat} {v:Value} {es:List Value} (k:Int) (x:ByteArray) (n:Int) (he:mJ B v es ∈ Ts):ST w0 p L vL en H w i Bs (fE B (nd k x e0 n es [] 0) (.agg #[.int .i64 k,.string x,.int .i64 n,v]) :: Ts) u :=
 h.add _ fun w' hw=>Pz.GJ k x n (h.gq _ he w' hw)
end
end Pz
end Go.Proofs.YtkdbgopgjbfhbaaGreatDoor
namespace Go.Proofs.YtkdbgopgjbfhbaaGreatDoor
open Go.RowKit Lx Pz
set_option linter.unusedVariables false
namespace Pz
def cn {α:Type} (E:Nat->Rd α):Prop:=∀i t j,E i=.ok (t,j)->i<j
section
variable {L:List Tk} {en:Int} {E T A:Nat->Rd Value}
theorem Cw {nx:Tk->Bool} (hA:cn A):∀(f i:Nat) (acc ts:List Value) (j:Nat),dK L en nx A f i acc=.ok (ts,j)->i<=j
 | 0,i,acc,ts,j,h=>by injection h with h;injection h with _ h;omega
 | f+1,i,acc,ts,j,h=>by
  rw [dK] at h;split at h
  ·cases h0:A i with
   | error z=>rw [h0] at h;cases h
   | ok r =>
    obtain ⟨e,k⟩:=r;rw [h0] at h
    have:=hA _ _ _ h0
    have:=Cw hA f k _ ts j h
    omega
  ·injection h with h;injection h with _ h;omega
theorem Iz (hE:cn E):cn (brk L en E):=by
 intro i t j h;unfold brk at h;cases h0:aY L en sL i with
 | error z=>rw [h0] at h;cases h
 | ok j0 =>
  have q0:=fK h0;rw [h0] at h;dsimp only at h;cases h1:E j0 with
  | error z=>rw [h1] at h;cases h
  | ok r1 =>
   obtain ⟨a1,j1⟩:=r1;have q1:=hE _ _ _ h1;rw [h1] at h;dsimp only at h;cases h2:aY L en sR j1 with
   | error z=>rw [h2] at h;cases h
   | ok j2 =>
    have q2:=fK h2;rw [h2] at h;dsimp only at h;injection h with h;injection h with _ h;omega
theorem EX (hE:cn E):cn (iO L en E):=by
 intro i t j h;unfold iO at h;split at h
 ·injection h with h;injection h with _ h;omega
 ·skip
  split at h
  ·injection h with h;injection h with _ h;omega
  ·exact Iz hE _ _ _ h
theorem IA (hE:cn E):cn (ju L en E):=by
 intro i t j h;unfold ju at h;split at h
 ·injection h with h;injection h with _ h;omega
 ·skip
  split at h
  ·injection h with h;injection h with _ h;omega
  ·skip
   split at h
   ·injection h with h;injection h with _ h;omega
   ·skip
    split at h
    ·injection h with h;injection h with _ h;omega
    ·exact Iz hE _ _ _ h
theorem AA (hE:cn E):cn (fG L en E):=by
 intro i t j h;unfold fG at h;split at h
 ·injection h with h;injection h with _ h;omega
 ·skip
  split at h
  ·injection h with h;injection h with _ h;omega
  ·skip
   split at h
   ·injection h with h;injection h with _ h;omega
   ·exact Iz hE _ _ _ h
theorem Ol (hE:cn E):cn (mF L en E):=by
 intro i t j h;unfold mF at h;cases h0:iO L en E i with
 | error z=>rw [h0] at h;cases h
 | ok r =>
  obtain ⟨a,j0⟩:=r;have q0:=EX hE _ _ _ h0;rw [h0] at h;dsimp only at h;split at h
  ·cases h1:dK L en qF (iO L en E) (L.length+1) j0 [] with
   | error z=>rw [h1] at h;cases h
   | ok r =>
    obtain ⟨a1,j1⟩:=r;have q1:=Cw (EX hE) _ _ _ _ _ h1;rw [h1] at h;injection h with h;injection h with _ h;omega
  ·injection h with h;injection h with _ h;omega
theorem Cy:∀f,cn (jv L en f)
 | 0=>fun i t j h=>by cases h
 | f+1=>fun i t j h=>by
  rw [jv] at h;cases h0:mF L en (jv L en f) i with
  | error z=>rw [h0] at h;cases h
  | ok r =>
   obtain ⟨a,j0⟩:=r;have q0:=Ol (Cy f) _ _ _ h0;rw [h0] at h;dsimp only at h;cases h1:aY L en gU j0 with
   | error z=>rw [h1] at h;injection h with h;injection h with _ h;omega
   | ok j1 =>
    rw [h1] at h;dsimp only at h;have q1:=fK h1;cases h2:jv L en f j1 with
    | error z=>rw [h2] at h;cases h
    | ok r =>
     obtain ⟨a2,j2⟩:=r;have q2:=Cy f _ _ _ h2;rw [h2] at h;injection h with h;injection h with _ h;omega
theorem Cz:∀f,cn (gG L en f)
 | 0=>fun i t j h=>by cases h
 | f+1=>fun i t j h=>by
  rw [gG] at h;split at h
  ·cases h1:dK L en rR (ju L en (gG L en f)) (L.length+1) (i+1) [] with
   | error z=>rw [h1] at h;cases h
   | ok r =>
    obtain ⟨a1,j1⟩:=r;have q1:=Cw (IA (Cz f)) _ _ _ _ _ h1;rw [h1] at h;injection h with h;injection h with _ h;omega
  ·exact IA (Cz f) _ _ _ h
theorem Om (hE:cn E):∀(f i:Nat) (e t:Value) (j:Nat),jW L en E f i e=.ok (t,j)->i<=j
 | 0,i,e,t,j,h=>by injection h with h;injection h with _ h;omega
 | f+1,i,e,t,j,h=>by
  rw [jW] at h;split at h
  ·cases h0:fG L en E i with
   | error z=>rw [h0] at h;cases h
   | ok r =>
    obtain ⟨a,k⟩:=r;rw [h0] at h
    have:=AA hE _ _ _ h0
    have:=Om hE f k _ t j h
    omega
  ·injection h with h;injection h with _ h;omega
theorem IB (hE:cn E):cn (jd L en E):=by
 intro i t j h;unfold jd at h;split at h
 ·cases h0:fG L en E (i+1) with
  | error z=>rw [h0] at h;cases h
  | ok r =>
   obtain ⟨a,k⟩:=r
   have:=AA hE _ _ _ h0
   rw [h0] at h;injection h with h;injection h with _ h;omega
 ·split at h
  ·cases h1:dK L en mG (fG L en E) (L.length+1) (i+1) [] with
   | error z=>rw [h1] at h;cases h
   | ok r =>
    obtain ⟨a1,j1⟩:=r;have q1:=Cw (AA hE) _ _ _ _ _ h1;rw [h1] at h;injection h with h;injection h with _ h;omega
  ·cases h0:fG L en E i with
   | error z=>rw [h0] at h;cases h
   | ok r =>
    obtain ⟨a,k⟩:=r
    have:=AA hE _ _ _ h0
    rw [h0] at h
    have:=Om hE _ _ _ _ _ h
    omega
theorem EY {sg:Tk->Bool} (hA:cn A):∀(f i:Nat) (e t:Value) (j:Nat),eZ L en sg A f i e=.ok (t,j)->i<=j
 | 0,i,e,t,j,h=>by injection h with h;injection h with _ h;omega
 | f+1,i,e,t,j,h=>by
  rw [eZ] at h;split at h
  ·cases h0:A (i+1) with
   | error z=>rw [h0] at h;cases h
   | ok r =>
    obtain ⟨a,k⟩:=r;rw [h0] at h
    have:=hA _ _ _ h0
    have:=EY hA f k _ t j h
    omega
  ·injection h with h;injection h with _ h;omega
theorem IC (hE:cn E):cn (je L en E):=by
 intro i t j h;unfold je at h;cases h0:jd L en E i with
 | error z=>rw [h0] at h;cases h
 | ok r0 =>
  obtain ⟨a0,j0⟩:=r0;have q0:=IB hE _ _ _ h0;rw [h0] at h;dsimp only at h
  have:=EY (IB hE) _ _ _ _ _ h;omega
theorem ID (hE:cn E):cn (jf L en E):=by
 intro i t j h;unfold jf at h;cases h0:je L en E i with
 | error z=>rw [h0] at h;cases h
 | ok r0 =>
  obtain ⟨a0,j0⟩:=r0;have q0:=IC hE _ _ _ h0;rw [h0] at h;dsimp only at h
  have:=EY (IC hE) _ _ _ _ _ h;omega
theorem Oo (hE:cn E):cn (kP L en E):=by
 intro i t j h;unfold kP at h;cases h0:jf L en E i with
 | error z=>rw [h0] at h;cases h
 | ok r0 =>
  obtain ⟨a0,j0⟩:=r0;have q0:=ID hE _ _ _ h0;rw [h0] at h;dsimp only at h
  have:=EY (ID hE) _ _ _ _ _ h;omega
theorem Xe (hE:cn E):cn (mH L en E):=by
 intro i t j h;unfold mH at h;cases h0:kP L en E i with
 | error z=>rw [h0] at h;cases h
 | ok r =>
  obtain ⟨a,j0⟩:=r;have q0:=Oo hE _ _ _ h0;rw [h0] at h;dsimp only at h;cases h1:aY L en kD j0 with
  | error z=>rw [h1] at h;injection h with h;injection h with _ h;omega
  | ok j1 =>
   rw [h1] at h;dsimp only at h;have q1:=fK h1;cases h2:E j1 with
   | error z=>rw [h2] at h;cases h
   | ok r =>
    obtain ⟨a2,j2⟩:=r;have q2:=hE _ _ _ h2;rw [h2] at h;injection h with h;injection h with _ h;omega
theorem Oq (hE:cn E):cn (jX L en E):=by
 intro i t j h;unfold jX at h;cases h0:gG L en (L.length+1) i with
 | error z=>rw [h0] at h;cases h
 | ok r0 =>
  obtain ⟨a0,j0⟩:=r0;have q0:=Cz _ _ _ _ h0;rw [h0] at h;dsimp only at h;cases h1:aY L en gU j0 with
  | error z=>rw [h1] at h;cases h
  | ok j1 =>
   have q1:=fK h1;rw [h1] at h;dsimp only at h;cases h2:E j1 with
   | error z=>rw [h2] at h;cases h
   | ok r2 =>
    obtain ⟨a2,j2⟩:=r2;have q2:=hE _ _ _ h2;rw [h2] at h;dsimp only at h;injection h with h;injection h with _ h;omega
theorem Ot (hE:cn E):∀(f i:Nat) (ps es:List Value) (t:List Value × List Value) (j:Nat),kQ L en E f i ps es=.ok (t,j)->i<=j
 | 0,i,ps,es,t,j,h=>by injection h with h;injection h with _ h;omega
 | f+1,i,ps,es,t,j,h=>by
  rw [kQ] at h;cases h0:aY L en lg i with
  | error z=>rw [h0] at h;injection h with h;injection h with _ h;omega
  | ok j0 =>
   have q0:=fK h0;rw [h0] at h;dsimp only at h;cases h1:jX L en E j0 with
   | error z=>rw [h1] at h;cases h
   | ok r =>
    obtain ⟨⟨a,b⟩,k⟩:=r;have q1:=Oq hE _ _ _ h1;rw [h1] at h
    have:=Ot hE f k _ _ t j h
    omega
theorem Xf (hE:cn E):cn (nu L en E):=by
 intro i t j h;unfold nu at h;cases h0:bN L en 1 (i+1) with
 | error z=>rw [h0] at h;cases h
 | ok r0 =>
  obtain ⟨a0,j0⟩:=r0;have q0:=lZ h0;rw [h0] at h;dsimp only at h;cases h1:aY L en gU j0 with
  | error z=>rw [h1] at h;cases h
  | ok j1 =>
   have q1:=fK h1;rw [h1] at h;dsimp only at h;cases h2:E j1 with
   | error z=>rw [h2] at h;cases h
   | ok r2 =>
    obtain ⟨a2,j2⟩:=r2;have q2:=hE _ _ _ h2;rw [h2] at h;dsimp only at h;injection h with h;injection h with _ h;omega
theorem Ou (hE:cn E) (k:Int) (x y:ByteArray) (a:Int):cn (jL L en E k x y a):=by
 intro i t j h;unfold jL at h;cases h0:aY L en jJ i with
 | error z=>rw [h0] at h;cases h
 | ok j0 =>
  have q0:=fK h0;rw [h0] at h;dsimp only at h;cases h1:E j0 with
  | error z=>rw [h1] at h;cases h
  | ok r1 =>
   obtain ⟨a1,j1⟩:=r1;have q1:=hE _ _ _ h1;rw [h1] at h;dsimp only at h;cases h2:aY L en lq j1 with
   | error z=>rw [h2] at h;cases h
   | ok j2 =>
    have q2:=fK h2;rw [h2] at h;dsimp only at h;cases h3:E j2 with
    | error z=>rw [h3] at h;cases h
    | ok r3 =>
     obtain ⟨a3,j3⟩:=r3;have q3:=hE _ _ _ h3;rw [h3] at h;dsimp only at h;injection h with h;injection h with _ h;omega
theorem Xg (hE:cn E):cn (ny L en E):=by
 intro i t j h;unfold ny at h;cases h9:aY L en qG (i+1) with
 | error z =>
  rw [h9] at h;dsimp only at h;cases h0:bN L en 1 (i+1) with
  | error z=>rw [h0] at h;cases h
  | ok r0 =>
   obtain ⟨a0,j0⟩:=r0;have q0:=lZ h0;rw [h0] at h;dsimp only at h
   have:=Ou hE _ _ _ _ _ _ _ h;omega
 | ok j9 =>
  have q9:=fK h9;rw [h9] at h;dsimp only at h;cases h0:bN L en 1 j9 with
  | error z=>rw [h0] at h;cases h
  | ok r0 =>
   obtain ⟨a0,j0⟩:=r0;have q0:=lZ h0;rw [h0] at h;dsimp only at h;cases h1:bN L en 1 j0 with
   | error z=>rw [h1] at h;cases h
   | ok r1 =>
    obtain ⟨a1,j1⟩:=r1;have q1:=lZ h1;rw [h1] at h;dsimp only at h
    have:=Ou hE _ _ _ _ _ _ _ h;omega
theorem Xh (hE:cn E):cn (oG L en E):=by
 intro i t j h;unfold oG at h;cases h0:E (i+1) with
 | error z=>rw [h0] at h;cases h
 | ok r0 =>
  obtain ⟨a0,j0⟩:=r0;have q0:=hE _ _ _ h0;rw [h0] at h;dsimp only at h;cases h1:aY L en AB j0 with
  | error z=>rw [h1] at h;cases h
  | ok j1 =>
   have q1:=fK h1;rw [h1] at h;dsimp only at h;cases h2:E j1 with
   | error z=>rw [h2] at h;cases h
   | ok r2 =>
    obtain ⟨a2,j2⟩:=r2;have q2:=hE _ _ _ h2;rw [h2] at h;dsimp only at h;cases h3:aY L en AF j2 with
    | error z=>rw [h3] at h;cases h
    | ok j3 =>
     have q3:=fK h3;rw [h3] at h;dsimp only at h;cases h4:E j3 with
     | error z=>rw [h4] at h;cases h
     | ok r4 =>
      obtain ⟨a4,j4⟩:=r4;have q4:=hE _ _ _ h4;rw [h4] at h;dsimp only at h;injection h with h;injection h with _ h;omega
theorem Xi (hE:cn E):cn (nz L en E):=by
 intro i t j h;unfold nz at h;cases h0:E (i+1) with
 | error z=>rw [h0] at h;cases h
 | ok r0 =>
  obtain ⟨a0,j0⟩:=r0;have q0:=hE _ _ _ h0;rw [h0] at h;dsimp only at h;cases h1:aY L en AJ j0 with
  | error z=>rw [h1] at h;cases h
  | ok j1 =>
   have q1:=fK h1;rw [h1] at h;dsimp only at h;cases h2:jX L en E j1 with
   | error z=>rw [h2] at h;cases h
   | ok r2 =>
    obtain ⟨⟨a2,b2⟩,j2⟩:=r2;have q2:=Oq hE _ _ _ h2;rw [h2] at h;dsimp only at h;cases h3:kQ L en E (L.length+1) j2 [a2] [a0,b2] with
    | error z=>rw [h3] at h;cases h
    | ok r3 =>
     obtain ⟨⟨a3,b3⟩,j3⟩:=r3;have q3:=Ot hE _ _ _ _ _ _ h3;rw [h3] at h;dsimp only at h;cases h4:aY L en yD j3 with
     | error z=>rw [h4] at h;cases h
     | ok j4 =>
      have q4:=fK h4;rw [h4] at h;dsimp only at h;injection h with h;injection h with _ h;omega
theorem yE:∀f,cn (dD L en f)
 | 0=>fun i t j h=>by cases h
 | f+1=>fun i t j h=>by
  rw [dD] at h;split at h
  ·exact Xf (yE f) _ _ _ h
  ·split at h
   ·exact Xg (yE f) _ _ _ h
   ·split at h
    ·exact Xh (yE f) _ _ _ h
    ·split at h
     ·exact Xi (yE f) _ _ _ h
     ·exact Xe (yE f) _ _ _ h
theorem IE:cn (iP L en):=by
 intro i t j h;unfold iP at h;cases h0:bN L en 2 i with
 | error z=>rw [h0] at h;cases h
 | ok r0 =>
  obtain ⟨a0,j0⟩:=r0;have q0:=lZ h0;rw [h0] at h;dsimp only at h;cases h1:dK L en qF (iO L en (jv L en (L.length+1))) (L.length+1) j0 [] with
  | error z=>rw [h1] at h;cases h
  | ok r1 =>
   obtain ⟨a1,j1⟩:=r1;have q1:=Cw (EX (Cy _)) _ _ _ _ _ h1;rw [h1] at h;dsimp only at h;injection h with h;injection h with _ h;omega
theorem Ov:∀(f i:Nat) (acc:List ByteArray),i<=(jT L en f i acc).2
 | 0,i,acc=>Nat.le_refl _
 | f+1,i,acc=>by
  rw [jT];split
  ·have:=Ov f (i+1) (acc++[(tk L en i).x]);omega
  ·exact Nat.le_refl _
theorem Ow:∀(f i:Nat) (acc cs:List Value) (j:Nat),jY L en f i acc=.ok (cs,j)->i<=j
 | 0,i,acc,cs,j,h=>by injection h with h;injection h with _ h;omega
 | f+1,i,acc,cs,j,h=>by
  rw [jY] at h;cases h0:aY L en lg i with
  | error z=>rw [h0] at h;injection h with h;injection h with _ h;omega
  | ok j0 =>
   have q0:=fK h0;rw [h0] at h;dsimp only at h;cases h1:iP L en j0 with
   | error z=>rw [h1] at h;cases h
   | ok r =>
    obtain ⟨a,k⟩:=r;have q1:=IE _ _ _ h1;rw [h1] at h
    have:=Ow f k _ cs j h
    omega
theorem Xj:cn (nA L en):=by
 intro i t j h;unfold nA at h;cases h0:bN L en 1 (i+1) with
 | error z=>rw [h0] at h;cases h
 | ok r0 =>
  obtain ⟨a0,j0⟩:=r0;have q0:=lZ h0;rw [h0] at h;dsimp only at h;cases h1:aY L en jJ (jT L en (L.length+1) j0 []).2 with
  | error z=>rw [h1] at h;cases h
  | ok j1 =>
   have q1:=fK h1;rw [h1] at h;dsimp only at h;cases h2:iP L en j1 with
   | error z=>rw [h2] at h;cases h
   | ok r2 =>
    obtain ⟨a2,j2⟩:=r2;have q2:=IE _ _ _ h2;rw [h2] at h;dsimp only at h;cases h3:jY L en (L.length+1) j2 [a2] with
    | error z=>rw [h3] at h;cases h
    | ok r3 =>
     obtain ⟨a3,j3⟩:=r3;have q3:=Ow _ _ _ _ _ h3;rw [h3] at h;dsimp only at h;cases h4:aY L en kD j3 with
     | error z=>rw [h4] at h;cases h
     | ok j4 =>
      have q4:=fK h4;rw [h4] at h;dsimp only at h
      have:=Ov (L:=L) (en:=en) (L.length+1) j0 [];injection h with h;injection h with _ h;omega
end
end Pz
end Go.Proofs.YtkdbgopgjbfhbaaGreatDoor

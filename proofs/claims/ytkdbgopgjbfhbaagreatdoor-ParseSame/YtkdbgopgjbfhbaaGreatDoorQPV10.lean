/- Texts that the claim needs. -/
import Derived.Test.YtkdbgopgjbfhbaaGreatDoorQPV9
import Derived.Test.YtkdbgopgjbfhbaaGreatDoorQPV8
namespace Go.Proofs.YtkdbgopgjbfhbaaGreatDoor
open Go.RowKit Lx Pz bw
set_option linter.unusedVariables false
set_option maxRecDepth 100000
set_option maxHeartbeats 8000000
theorem abf (w0:World) (p:Nat) (L:List Tk) (vL:Value) (en:Int) (i:Nat) (E:Nat->Rd Value) (HE:∀j u,i<j->PR w0 p L vL en j u->Calls Tryz.prog 240 #[.pointer (some ⟨p,0,none⟩)] u (Rp w0 p L vL en (aW u.heap.size) u (E j))) (w:World) (h:PR w0 p L vL en i w) :
  Calls Tryz.prog 235 #[.pointer (some ⟨p,0,none⟩)] w (Rp w0 p L vL en (aW w.heap.size) w (match bf L en iV i with | .error z=>.error z | .ok j=>match E j with | .error z=>.error z | .ok (e,j)=>.ok (nd 10 e0 e0 0 [e] [] (tk L en i).a,j))):=by
 have HA:=ae (AP.start h 27 bS);have HM:=ae (gQ w0 p L vL en i iV _ HA.out.pr);obtain ⟨au,ba⟩:∃X,X=(match bf L en iV i with | .error z=>.error z | .ok j=>match E j with | .error z=>.error z | .ok (e,j)=>.ok (nd 10 e0 e0 0 [e] [] (tk L en i).a,j):Rd Value):=⟨_,rfl⟩
 rw [<- ba];have bT:=ae ba;have cO:=ae HE;clear h ba HE;go_enter Tryz.func235,Tryz.ntmps235;go_wp2_with fail;refine Calls.mono (show Calls _ _ _ _ _ from HM.out) ?_;intro e u hr;cases hR:bf L en iV i with
 | error z =>
  obtain ⟨rfl,hb⟩:=bC hr (dQ hR);have HB:=ae hb;have ay:Hid (au=.error z):=ae (by have hq:=bT.out;rw [hR] at hq;exact hq);clear hb HM hR bT hr;go_wp2;exact ⟨rfl,bu ay.out HB.out⟩
 | ok j =>
  obtain ⟨⟨v,rfl,hv⟩,hp,hbt⟩:=bn hr (dQ hR);subst hv;have aC:=ae (HA.out.call hp hbt);have iK:=ae (cO.out j u (fF hR) hp);have bb:Hid (au=(match E j with | .error z=>.error z | .ok (e,j)=>.ok (nd 10 e0 e0 0 [e] [] (tk L en i).a,j))):=ae (by have hq:=bT.out;rw [hR] at hq;exact hq)
  clear hp hbt HM HA hR hr bT cO;generalize (tk L en i).a=at' at *;go_wp2_with fail;refine Calls.mono (show Calls _ _ _ _ _ from iK.out) ?_;intro e u5 hr;cases hR:E j with
  | error z =>
   obtain ⟨rfl,hb⟩:=bC hr hR;have HB:=ae hb;have ay:Hid (au=.error z):=ae (by have hq:=bb.out;rw [hR] at hq;exact hq);clear hb hr hR iK bb;go_wp2;exact ⟨rfl,bu ay.out HB.out⟩
  | ok r =>
   obtain ⟨tr,k⟩:=r;obtain ⟨⟨v,rfl,hv0⟩,hp,hbt⟩:=bn hr hR;obtain ⟨vk,vx,vy,vn,vu,vz,va,hv,o1,o2⟩:=hv0.val;subst hv;have bM:=aC.out.lt;have bq:Hid (au=.ok (nd 10 e0 e0 0 [tr] [] at',k)):=ae (by have hq:=bb.out;rw [hR] at hq;exact hq);have hsz:=hbt.size;have di:=ae (aC.out.call hp hbt);obtain ⟨u6,L6⟩:∃u6,u6=u5.alloc (.cells #[.int .i64 vk,.string vx,.string vy,.int .i64 vn,vu,vz,.int .i64 va] 27):=⟨_,rfl⟩;have iH:Below u5.heap.size u5 u6:=by rw [L6];exact bN u5 _
   have jR:u6.heap[u5.heap.size]?=some (.cells #[.int .i64 vk,.string vx,.string vy,.int .i64 vn,vu,vz,.int .i64 va] 27 (0,0)):=by rw [L6];exact heap_alloc_new _ _
   have lJ:=ae (di.out.on iH);have TR:=hv0.on (bF.of iH) (Nat.le_refl _);obtain ⟨W,hW,hth,hbk,hpr,aU,hab⟩:=lJ.out.put #[.int .i64 10,.string e0,.string e0,.int .i64 0,.slice (some ⟨u5.heap.size,0,none⟩) 1 1,.slice none 0 0,.int .i64 at'] rfl
   have HV:Hid (aW w.heap.size (nd 10 e0 e0 0 [tr] [] at') (.agg #[.int .i64 10,.string e0,.string e0,.int .i64 0,.slice (some ⟨u5.heap.size,0,none⟩) 1 1,.slice none 0 0,.int .i64 at']) W):=ae (by
    obtain ⟨d,hd⟩:=AZ (B:=u.heap.size) (b:=u5.heap.size) (o:=0) TR hsz (fun j u hj=>af jR _ u (by rw [Nat.zero_add];exact hj));have hd2:=cf.lo (q:=w.heap.size) (by omega) d _ _ _ (cf.but (hab.lo (by omega)) d _ _ _ hd);refine ⟨d,10,e0,e0,0,[tr],[],at',_,_,rfl,rfl,⟨by simp,.inr ⟨u5.heap.size,0,1,rfl,fun i x hx=>?_⟩⟩,xw _ _⟩
    match i,hx with
    | 0,hx=>injection hx with hx;subst hx;exact hd2
    | i+1,hx=>simp at hx)
   have HW:=ae hW;have az:=ae hth;have ai:=ae hbk;have HF:=ae (And.intro hpr aU);have TS:=ae L6;clear hW hth hbk hpr aU hab TR jR iH hp hbt hr hv0 hR bb iK di lJ aC;go_wp2_with (refine wpList_store_mid rfl 27 (.tmp 2) (.tmp 10) rfl w.heap.size 0 #[.int .i64 10,.string e0,.string e0,.int .i64 0,.slice (some ⟨u5.heap.size,0,none⟩) 1 1,.slice none 0 0,.int .i64 at'] rfl rfl (by rw [<- TS.out];exact az.out) cK (by simp [Value.oneCell']) ?_;rw [<- TS.out,HW.out]);have z0:=af ai.out 0 _ rfl;have z1:=af ai.out 1 _ rfl;have z2:=af ai.out 2 _ rfl;have z3:=af ai.out 3 _ rfl;have z4:=af ai.out 4 _ rfl;have z5:=af ai.out 5 _ rfl;have z6:=af ai.out 6 _ rfl;refine bodyPost_ret (v:=.agg #[.int .i64 10,.string e0,.string e0,.int .i64 0,.slice (some ⟨u5.heap.size,0,none⟩) 1 1,.slice none 0 0,.int .i64 at']) (by simp [results,Tryz.results235,go_sem,z0,z1,z2,z3,z4,z5,z6]) rfl (cH bq.out HV.out HF.out.1 HF.out.2)
namespace Pz
def gL (H:List Nat) (p:Nat) (u w':World):Prop:=∀k,k<u.heap.size->k≠p->k ∉ H->w'.heap[k]?=u.heap[k]?
theorem gL.refl (H:List Nat) (p:Nat) (u:World):gL H p u u:=fun _ _ _ _=>rfl
theorem gL.more {H H':List Nat} {p:Nat} {u w':World} (h:gL H p u w') (hs:∀k ∈ H,k ∈ H'):gL H' p u w':=fun k hk hp hn=>h k hk hp fun hm=>hn (hs k hm)
abbrev Bk:=Nat × Array Value × TypeId
structure ST (w0:World) (p:Nat) (L:List Tk) (vL:Value) (en:Int) (H:List Nat) (w:World) (i:Nat) (Bs:List Bk) (Ts:List (World->Prop)) (u:World):Prop where
 pr:PR w0 p L vL en i u
 but:But p w u
 ek:p<w.heap.size
 hlt:∀k ∈ H,k<u.heap.size
 blk:∀x ∈ Bs,u.heap[x.1]?=some (.cells x.2.1 x.2.2 (0,0))/\w.heap.size<=x.1
 ow:(Bs.map (·.1)).Nodup
 fN:∀F ∈ Ts,∀w',gL (H++Bs.map (·.1)) p u w'->F w'
section
variable {w0 w u u':World} {p:Nat} {L:List Tk} {vL:Value} {en:Int} {H:List Nat} {i j:Nat} {Bs:List Bk} {Ts:List (World->Prop)}
theorem ST.start (h:PR w0 p L vL en i w) (hH:∀k ∈ H,k<w.heap.size) (hT:∀F ∈ Ts,∀w',gL H p w w'->F w'):ST w0 p L vL en H w i [] Ts w :=
 ⟨h,But.refl _ _,h.lt,hH,fun x hx=>(by cases hx),(by simp),fun F hF w' hw=>hT F hF w' (by simpa using hw)⟩
theorem ST.mY (h:PR w0 p L vL en i w):ST w0 p L vL en [] w i [] [] w:=ST.start h (fun k hk=>by cases hk) (fun F hF=>by cases hF)
theorem ST.blt (h:ST w0 p L vL en H w i Bs Ts u) {x:Bk} (hx:x ∈ Bs):x.1<u.heap.size:=(Array.getElem?_eq_some_iff.1 (h.blk x hx).1).1
theorem ST.mlt (h:ST w0 p L vL en H w i Bs Ts u) {k:Nat} (hk:k ∈ H++Bs.map (·.1)):k<u.heap.size:=by
 rcases List.mem_append.1 hk with h1|h1
 ·exact h.hlt k h1
 ·obtain ⟨x,hx,rfl⟩:=List.mem_map.1 h1;exact h.blt hx
theorem ST.Fx (h:ST w0 p L vL en H w i Bs Ts u) {x:Bk} (hx:x ∈ Bs):x.1≠p:=by
 have:=(h.blk x hx).2;have:=h.ek;omega
theorem ST.on (h : ST w0 p L vL en H w i Bs Ts u) (hb : Below u.heap.size u u') : ST w0 p L vL en H w i Bs Ts u' :=
  ⟨h.pr.on hb, h.but.trans (But.of p hb), h.ek, fun k hk => Nat.lt_of_lt_of_le (h.hlt k hk) hb.size, fun x hx => ⟨by rw [hb.block _ (h.blt hx)]; exact (h.blk x hx).1, (h.blk x hx).2⟩, h.ow,
   fun F hF w' hw => h.fN F hF w' fun k hk hp hn => (hw k (Nat.lt_of_lt_of_le hk hb.size) hp hn).trans (hb.block k hk)⟩
theorem ST.call (h : ST w0 p L vL en H w i Bs Ts u) (h1 : PR w0 p L vL en j u') (h2 : But p u u') : ST w0 p L vL en H w j Bs Ts u' :=
  ⟨h1, h.but.trans h2, h.ek, fun k hk => Nat.lt_of_lt_of_le (h.hlt k hk) h2.size, fun x hx => ⟨by rw [h2.block _ (h.blt hx) (h.Fx hx)]; exact (h.blk x hx).1, (h.blk x hx).2⟩, h.ow,
   fun F hF w' hw => h.fN F hF w' fun k hk hp hn => (hw k (Nat.lt_of_lt_of_le hk h2.size) hp hn).trans (h2.block k hk hp)⟩
theorem ST.new (h:ST w0 p L vL en H w i Bs Ts u) (cs:Array Value) (T:TypeId):ST w0 p L vL en H w i (Bs++[(u.heap.size,cs,T)]) Ts (u.alloc (.cells cs T)):=by
 have hb:Below u.heap.size u (u.alloc (.cells cs T)):=(Below.refl _ u).alloc (Nat.le_refl _) _;have h1:=h.on hb;refine ⟨h1.pr,h1.but,h.ek,h1.hlt,fun x hx=>?_,?_,fun F hF w' hw=>?_⟩
 ·rcases List.mem_append.1 hx with h2|h2
  ·exact h1.blk x h2
  ·rw [List.mem_singleton.1 h2];exact ⟨heap_alloc_new _ _,h.but.size⟩
 ·rw [List.map_append,List.nodup_append];refine ⟨h.ow,by simp,fun a ha b hb=>?_⟩;have hb':b=u.heap.size:=by simpa using hb
  have:=h.mlt (List.mem_append_right H ha)
  omega
 ·refine h.fN F hF w' fun k hk hp hn=>(hw k (Nat.lt_of_lt_of_le hk hb.size) hp fun hm=>?_).trans (hb.block k hk);rcases List.mem_append.1 hm with h2|h2
  ·exact hn (List.mem_append_left _ h2)
  ·rw [List.map_append] at h2;rcases List.mem_append.1 h2 with h3|h3
   ·exact hn (List.mem_append_right _ h3)
   ·have:k=u.heap.size:=by simpa using h3
    omega
theorem Rb {l:List Bk} {k:Nat} {x y:Bk} (hk:l[k]?=some x) (he:y.1=x.1):(l.set k y).map (·.1)=l.map (·.1):=by
 apply List.ext_getElem?;intro m;rw [List.getElem?_map,List.getElem?_map,List.getElem?_set];split
 ·rename_i hm;subst hm;rw [hk];split
  ·simp [he]
  ·rename_i hn;exact absurd (List.getElem?_eq_some_iff.1 hk).1 hn
 ·rfl
theorem aae {l:List Bk} (hn:(l.map (·.1)).Nodup) {k:Nat} {x y z:Bk} (hk:l[k]?=some x) (hz:z ∈ l.set k y):z=y\/(z ∈ l/\z.1≠x.1):=by
 obtain ⟨m,hm⟩:=List.getElem?_of_mem hz;rw [List.getElem?_set] at hm;split at hm
 ·split at hm
  ·injection hm with hm;exact .inl hm.symm
  ·cases hm
 ·rename_i hne;refine .inr ⟨List.mem_of_getElem? hm,fun e=>hne ?_⟩;have a1:=(List.getElem?_eq_some_iff.1 hk);have a2:=(List.getElem?_eq_some_iff.1 hm);obtain ⟨k1,k2⟩:=a1;obtain ⟨m1,m2⟩:=a2;have hp:=List.pairwise_iff_getElem.1 hn;have q1:(l.map (·.1))[k]'(by simpa using k1)=x.1:=by simp [k2]
  have q2:(l.map (·.1))[m]'(by simpa using m1)=z.1:=by simp [m2]
  rcases Nat.lt_trichotomy k m with h|h|h
  ·exact absurd (by rw [q1,q2,e]) (hp k m (by simpa using k1) (by simpa using m1) h)
  ·exact h
  ·exact absurd (by rw [q1,q2,e]) (hp m k (by simpa using m1) (by simpa using k1) h)
theorem ST.wrote (h:ST w0 p L vL en H w i Bs Ts u) {k:Nat} {b:Nat} {cs vs:Array Value} {T:TypeId} (hk:Bs[k]?=some (b,cs,T)) (hb:Below b u u') (hbb:∀m,m≠b->u'.heap[m]?=u.heap[m]?) (hv:u'.heap[b]?=some (.cells vs T (0,0))) (hs:u.heap.size<=u'.heap.size):ST w0 p L vL en H w i (Bs.set k (b,vs,T)) Ts u':=by
 have hx:=List.mem_of_getElem? hk;have hwb:w.heap.size<=b:=(h.blk _ hx).2;have hpb:p≠b:=by have:=h.ek;omega
 refine ⟨⟨h.pr.below.trans (hb.mono (by have:=h.pr.base;have:=h.ek;omega)),h.pr.base,by rw [hbb p hpb];exact h.pr.blk,h.pr.le,?_,h.pr.few,h.pr.rL⟩,?_,h.ek,fun k hk=>Nat.lt_of_lt_of_le (h.hlt k hk) hs,fun x hx=>?_,(by rw [Rb (y:=(b,vs,T)) hk rfl];exact h.ow),fun F hF w' hw=>?_⟩
 ·rcases h.pr.toks with h1|⟨g,c,h1,h2⟩
  ·exact .inl h1
  ·refine .inr ⟨g,c,h1,fun a t ha b' v hv'=>?_⟩;have hc:=h2 a t ha b' v hv';have hg:g≠b:=by have:=h.pr.rL g 0 _ c h1;have:=h.ek;omega
   unfold World.cell? at hc ⊢;rw [hbb g hg];exact hc
 ·exact ⟨hb.os.trans h.but.os,hb.tape.trans h.but.tape,hb.output.trans h.but.output,Nat.le_trans h.but.size hs,fun m hm hp=>by rw [hbb m (by omega)];exact h.but.block m hm hp⟩
 ·rcases aae h.ow hk hx with rfl|⟨h1,h2⟩
  ·exact ⟨hv,hwb⟩
  ·exact ⟨by rw [hbb _ h2];exact (h.blk x h1).1,(h.blk x h1).2⟩
 ·rw [Rb (y:=(b,vs,T)) hk rfl] at hw;refine h.fN F hF w' fun m hm hp hn=>(hw m (Nat.lt_of_lt_of_le hm hs) hp hn).trans (hbb m fun e=>hn ?_);subst e;exact List.mem_append_right _ (List.mem_map.2 ⟨_,hx,rfl⟩)
theorem ST.at_ (h:ST w0 p L vL en H w i Bs Ts u) {k:Nat} {b:Nat} {cs:Array Value} {T:TypeId} (hk:Bs[k]?=some (b,cs,T)):u.heap[b]?=some (.cells cs T (0,0)):=(h.blk _ (List.mem_of_getElem? hk)).1
theorem ST.cell (h:ST w0 p L vL en H w i Bs Ts u) (k:Nat) {b:Nat} {cs:Array Value} {T:TypeId} (hk:Bs[k]?=some (b,cs,T)) (o:Nat) {v:Value} (hv:cs[o]?=some v):u.cell? ⟨b,o,none⟩=some v:=af (h.at_ hk) o v hv
theorem ST.je (h:ST w0 p L vL en H w i Bs Ts u) (k:Nat) {b:Nat} {cs:Array Value} {T:TypeId} (hk:Bs[k]?=some (b,cs,T)) (o:Nat):u.frozen? ⟨b,o,none⟩=false:=by
 unfold World.frozen?;rw [h.at_ hk];simp
theorem ST.put (h:ST w0 p L vL en H w i Bs Ts u) (k:Nat) {b:Nat} {cs:Array Value} {T:TypeId} (hk:Bs[k]?=some (b,cs,T)) (vs:Array Value) (hz:cs.size=vs.size) :
  ∃W,u.setCells b 0 vs.toList=W/\u.there b 0 vs.size/\ST w0 p L vL en H w i (Bs.set k (b,vs,T)) Ts W:=by
 have hb:=h.at_ hk;exact ⟨_,rfl,by have:=Ah hb;rw [hz] at this;exact this,h.wrote hk (lZ b b (Nat.le_refl _) vs.toList 0 u u (Below.refl _ u)) (fun m hm=>uw b m hm vs.toList 0 u) (Ai hb hz) (lZ 0 b (Nat.zero_le _) vs.toList 0 u u (Below.refl _ u)).size⟩
theorem ST.set (h:ST w0 p L vL en H w i Bs Ts u) (k:Nat) {b:Nat} {cs:Array Value} {T:TypeId} (hk:Bs[k]?=some (b,cs,T)) (o:Nat) (v:Value) :
  ∃W,u.setCell ⟨b,o,none⟩ v=W/\ST w0 p L vL en H w i (Bs.set k (b,cs.setIfInBounds o v,T)) Ts W:=by
 have hb:=h.at_ hk;exact ⟨_,rfl,h.wrote hk ((Below.refl b u).setCell (Nat.le_refl b) _) (fun m hm=>Below.heap_setCell u ⟨b,o,none⟩ v m hm) (heap_setCell_same u b o cs T v hb) (by simp)⟩
theorem ST.ko (h:ST w0 p L vL en H w i Bs Ts u) (T:TypeId) (z vs:Array Value) (hz:z.size=vs.size) :
  ∃W,(u.alloc (.cells z T)).setCells u.heap.size 0 vs.toList=W/\(u.alloc (.cells z T)).there u.heap.size 0 vs.size/\ST w0 p L vL en H w i (Bs++[(u.heap.size,vs,T)]) Ts W:=by
 obtain ⟨W,h1,h2,h3⟩:=(h.new z T).put Bs.length (b:=u.heap.size) (cs:=z) (T:=T) (by rw [List.getElem?_append_right (Nat.le_refl _)];simp) vs hz;refine ⟨W,h1,h2,?_⟩;rw [List.set_append_right _ _ (Nat.le_refl _)] at h3;simpa using h3
theorem ST.set' (h:ST w0 p L vL en H w i Bs Ts u) (k:Nat) {b:Nat} {cs:Array Value} {T:TypeId} (hk:Bs[k]?=some (b,cs,T)) (o:Nat) (v:Value):ST w0 p L vL en H w i (Bs.set k (b,cs.setIfInBounds o v,T)) Ts (u.setCell ⟨b,o,none⟩ v):=by
 obtain ⟨W,h1,h2⟩:=h.set k hk o v;rw [h1];exact h2
theorem ST.add (h:ST w0 p L vL en H w i Bs Ts u) (F:World->Prop) (hF:∀w',gL (H++Bs.map (·.1)) p u w'->F w'):ST w0 p L vL en H w i Bs (F :: Ts) u :=
 ⟨h.pr,h.but,h.ek,h.hlt,h.blk,h.ow,fun G hG=>by
  rcases List.mem_cons.1 hG with rfl|hG
  ·exact hF
  ·exact h.fN G hG⟩
theorem ST.drop (h:ST w0 p L vL en H w i Bs Ts u) {Ts':List (World->Prop)} (hT:∀F ∈ Ts',F ∈ Ts):ST w0 p L vL en H w i Bs Ts' u :=
 ⟨h.pr,h.but,h.ek,h.hlt,h.blk,h.ow,fun G hG=>h.fN G (hT G hG)⟩
theorem ST.out (h:ST w0 p L vL en H w i Bs Ts u) {F:World->Prop} (hF:F ∈ Ts):F u:=h.fN F hF u (gL.refl _ _ _)
theorem ST.newer {w9:World} (h:ST w0 p L vL en H w i Bs Ts u) (hw:gL (H++Bs.map (·.1)) p u' w9):bF u.heap.size u' w9:=fun k hk hl =>
 hw k hl (by have:=h.pr.lt;omega) fun hm=>by have:=h.mlt hm;omega
theorem ST.jM (h:ST w0 p L vL en H w i Bs Ts u) {t v:Value} {B:Nat} (hB:B<=u.heap.size) (h1:PR w0 p L vL en j u') (h2:But p u u') (hv:aW u.heap.size t v u'):ST w0 p L vL en H w j Bs (aW B t v :: Ts) u' :=
 (h.call h1 h2).add _ fun w' hw=>hv.on (h.newer hw) hB
theorem ST.aaf (h:ST w0 p L vL en H w i Bs Ts u) {t v:Value} {B:Nat} (hB:B<=u.heap.size) (h1:PR w0 p L vL en j u') (h2:But p u u') (hv:bV u.heap.size t v u'):ST w0 p L vL en H w j Bs (bV B t v :: Ts) u' :=
 (h.call h1 h2).add _ fun w' hw=>hv.on (h.newer hw) hB
theorem ST.DT (h:ST w0 p L vL en H w i Bs Ts u) {t v:Value} {B:Nat} (hB:B<=u.heap.size) (h1:PR w0 p L vL en j u') (h2:But p u u') (hv:eu u.heap.size t v u'):ST w0 p L vL en H w j Bs (eu B t v :: Ts) u' :=
 (h.call h1 h2).add _ fun w' hw=>hv.on (h.newer hw) hB
end
theorem aW.at_ {B:Nat} {t:Value} {w:World} {k:Int} {x y:ByteArray} {n:Int} {u z:Value} {a:Int} (h:aW B t (.agg #[.int .i64 k,.string x,.string y,.int .i64 n,u,z,.int .i64 a]) w):jL t=a:=by
 obtain ⟨d,k',x',y',n',es,ps,a',u',z',h0,h1,_⟩:=h;subst h0;rw [aag];injection h1 with h1
 have:=congrArg (fun l:Array Value=>l[6]?) h1
 simpa using this.symm
def iZ (B:Nat) (v:Value) (ts:List Value) (w:World):Prop:=∃d,Row 7 (cf B w d) v ts
def iM (B:Nat) (v:Value) (ts:List Value) (w:World):Prop:=∃d,Row 5 (bR B w d) v ts
def iz (B:Nat) (v:Value) (ts:List Value) (w:World):Prop:=∃d,Row 4 (dw B w d) v ts
theorem iZ.nil (B:Nat) (w:World):iZ B (.slice none 0 0) [] w:=⟨0,xw _ _⟩
theorem iM.nil (B:Nat) (w:World):iM B (.slice none 0 0) [] w:=⟨0,xw _ _⟩
theorem iz.nil (B:Nat) (w:World):iz B (.slice none 0 0) [] w:=⟨0,xw _ _⟩
theorem yS {B:Nat} {w:World} {v z:Value} {es ps:List Value} (k:Int) (x y:ByteArray) (n a:Int) (he:iZ B v es w) (hp:iM B z ps w):aW B (nd k x y n es ps a) (.agg #[.int .i64 k,.string x,.string y,.int .i64 n,v,z,.int .i64 a]) w:=by
 obtain ⟨d,hd⟩:=he;obtain ⟨d',hd'⟩:=hp;exact ⟨d+d',k,x,y,n,es,ps,a,v,z,rfl,rfl,hd.imp fun b o t _ h=>qq (F:=cf B w) cf.up (Nat.le_add_right _ _) h,hd'.imp fun b o t _ h=>qq (F:=bR B w) bR.up (Nat.le_add_left _ _) h⟩
theorem Ip {B:Nat} {w:World} {v:Value} {es:List Value} (k:Int) (x:ByteArray) (n a:Int) (he:iM B v es w):bV B (nd k x e0 n es [] a) (.agg #[.int .i64 k,.string x,.int .i64 n,v,.int .i64 a]) w:=by
 obtain ⟨d,hd⟩:=he;exact ⟨d,k,x,n,es,a,v,rfl,rfl,hd⟩
theorem BZ {B:Nat} {w:World} {v:Value} {es:List Value} (k:Int) (x:ByteArray) (n:Int) (he:iz B v es w):eu B (nd k x e0 n es [] 0) (.agg #[.int .i64 k,.string x,.int .i64 n,v]) w:=by
 obtain ⟨d,hd⟩:=he;exact ⟨d,k,x,n,es,v,rfl,rfl,hd⟩
theorem Kq {F:Nat->Nat->Nat->Value->Prop} (hF:∀d b o t,F d b o t->F (d+1) b o t) {V:Value->Value->World->Prop} {w:World} {b sz c:Nat} {T:TypeId} {cells:Array Value} {ts:List Value} (hn:ts.length<=9223372036854775807) (hb:w.heap[b]?=some (.cells cells T (0,0)))
  (hV:∀(t:Value) (cs:Array Value) (o:Nat),V t (.agg cs) w->(∀j u,cs[j]?=some u->w.cell? ⟨b,o+j,none⟩=some u)->∃d,F d b o t)
  (hx:∀k t,ts[k]?=some t->∃cs:Array Value,V t (.agg cs) w/\∀j u,cs[j]?=some u->cells[k*sz+j]?=some u):∃d,Row sz (F d) (.slice (some ⟨b,0,none⟩) ts.length c) ts:=by
 obtain ⟨d,hd⟩:=DU (ts:=ts) (P:=fun d k t=>F d b (k*sz) t) (fun d e k t hde hp=>qq hF hde hp) ts.length fun k t _ hk=>by
  obtain ⟨cs,hv,hj⟩:=hx k t hk;exact hV t cs (k*sz) hv fun j u hu=>af hb _ u (hj j u hu)
 exact ⟨d,hn,.inr ⟨b,0,c,rfl,fun k t hk=>by rw [Nat.zero_add];exact hd k t (List.getElem?_eq_some_iff.1 hk).1 hk⟩⟩
section
variable {w0 w u u':World} {p:Nat} {L:List Tk} {vL:Value} {en:Int} {H:List Nat} {i j:Nat} {Bs:List Bk} {Ts:List (World->Prop)}
theorem Kr (u:World) (o:Obj) {H:List Nat} {p:Nat} {w':World} (h:gL H p (u.alloc o) w'):gL H p u w':=fun k hk hp hn=>(h k (by simp;omega) hp hn).trans (((Below.refl _ u).alloc (Nat.le_refl _) o).block k hk)
theorem ST.uk (h:ST w0 p L vL en H w i Bs Ts u) {B:Nat} (hB:B<=u.heap.size) (cells:Array Value) (T:TypeId) (ts:List Value) (c:Nat) (hn:ts.length<=9223372036854775807) (hx:∀k t,ts[k]?=some t->∃cs:Array Value,aW B t (.agg cs) ∈ Ts/\∀j v,cs[j]?=some v->cells[k*7+j]?=some v) :
  ST w0 p L vL en H w i Bs (iZ B (.slice (some ⟨u.heap.size,0,none⟩) ts.length c) ts :: Ts) (u.alloc (.cells cells T)) :=
 (h.on (bN u _)).add _ fun w' hw=>by
  have hb:w'.heap[u.heap.size]?=some (.cells cells T (0,0)):=by
   rw [hw _ (by simp) (by have:=h.pr.lt;omega) (fun hm=>by have:=h.mlt hm;omega)];exact heap_alloc_new _ _
  refine Kq (V:=aW B) cf.up hn hb (fun t cs o hv hc=>AZ hv hB hc) fun k t hk=>?_;obtain ⟨cs,hm,hj⟩:=hx k t hk;exact ⟨cs,h.fN _ hm w' (Kr u _ hw),hj⟩
theorem ST.rowP (h:ST w0 p L vL en H w i Bs Ts u) {B:Nat} (hB:B<=u.heap.size) (cells:Array Value) (T:TypeId) (ts:List Value) (c:Nat) (hn:ts.length<=9223372036854775807) (hx:∀k t,ts[k]?=some t->∃cs:Array Value,bV B t (.agg cs) ∈ Ts/\∀j v,cs[j]?=some v->cells[k*5+j]?=some v) :
  ST w0 p L vL en H w i Bs (iM B (.slice (some ⟨u.heap.size,0,none⟩) ts.length c) ts :: Ts) (u.alloc (.cells cells T)) :=
 (h.on (bN u _)).add _ fun w' hw=>by
  have hb:w'.heap[u.heap.size]?=some (.cells cells T (0,0)):=by
   rw [hw _ (by simp) (by have:=h.pr.lt;omega) (fun hm=>by have:=h.mlt hm;omega)];exact heap_alloc_new _ _
  refine Kq (V:=bV B) bR.up hn hb (fun t cs o hv hc=>EE hv hB hc) fun k t hk=>?_;obtain ⟨cs,hm,hj⟩:=hx k t hk;exact ⟨cs,h.fN _ hm w' (Kr u _ hw),hj⟩
theorem ST.aah (h:ST w0 p L vL en H w i Bs Ts u) {B:Nat} (hB:B<=u.heap.size) (cells:Array Value) (T:TypeId) (ts:List Value) (c:Nat) (hn:ts.length<=9223372036854775807) (hx:∀k t,ts[k]?=some t->∃cs:Array Value,eu B t (.agg cs) ∈ Ts/\∀j v,cs[j]?=some v->cells[k*4+j]?=some v) :
  ST w0 p L vL en H w i Bs (iz B (.slice (some ⟨u.heap.size,0,none⟩) ts.length c) ts :: Ts) (u.alloc (.cells cells T)) :=
 (h.on (bN u _)).add _ fun w' hw=>by
  have hb:w'.heap[u.heap.size]?=some (.cells cells T (0,0)):=by
   rw [hw _ (by simp) (by have:=h.pr.lt;omega) (fun hm=>by have:=h.mlt hm;omega)];exact heap_alloc_new _ _
  refine Kq (V:=eu B) dw.up hn hb (fun t cs o hv hc=>Io hv hB hc) fun k t hk=>?_;obtain ⟨cs,hm,hj⟩:=hx k t hk;exact ⟨cs,h.fN _ hm w' (Kr u _ hw),hj⟩
theorem ST.yS (h:ST w0 p L vL en H w i Bs Ts u) {B:Nat} {v z:Value} {es ps:List Value} (k:Int) (x y:ByteArray) (n a:Int) (he:iZ B v es ∈ Ts) (hp:iM B z ps ∈ Ts):ST w0 p L vL en H w i Bs (aW B (nd k x y n es ps a) (.agg #[.int .i64 k,.string x,.string y,.int .i64 n,v,z,.int .i64 a]) :: Ts) u :=
 h.add _ fun w' hw=>Pz.yS k x y n a (h.fN _ he w' hw) (h.fN _ hp w' hw)
theorem ST.yg (h:ST w0 p L vL en H w i Bs Ts u) {B:Nat} {v:Value} {es:List Value} (k:Int) (x y:ByteArray) (n a:Int) (he:iZ B v es ∈ Ts):ST w0 p L vL en H w i Bs (aW B (nd k x y n es [] a) (.agg #[.int .i64 k,.string x,.string y,.int .i64 n,v,.slice none 0 0,.int .i64 a]) :: Ts) u :=
 h.add _ fun w' hw=>Pz.yS k x y n a (h.fN _ he w' hw) (iM.nil _ _)
theorem ST.Ip (h:ST w0 p L vL en H w i Bs Ts u) {B:Nat} {v:Value} {es:List Value} (k:Int) (x:ByteArray) (n a:Int) (he:iM B v es ∈ Ts):ST w0 p L vL en H w i Bs (bV B (nd k x e0 n es [] a) (.agg #[.int .i64 k,.string x,.int .i64 n,v,.int .i64 a]) :: Ts) u :=
 h.add _ fun w' hw=>Pz.Ip k x n a (h.fN _ he w' hw)
theorem ST.uO (h:ST w0 p L vL en H w i Bs Ts u) {B:Nat} (k:Int) (x:ByteArray) (n a:Int):ST w0 p L vL en H w i Bs (bV B (nd k x e0 n [] [] a) (.agg #[.int .i64 k,.string x,.int .i64 n,.slice none 0 0,.int .i64 a]) :: Ts) u :=
 h.add _ fun w' hw=>Pz.uO _ _ _ _ _ _
theorem ST.BZ (h:ST w0 p L vL en H w i Bs Ts u) {B:Nat} {v:Value} {es:List Value} (k:Int) (x:ByteArray) (n:Int) (he:iz B v es ∈ Ts):ST w0 p L vL en H w i Bs (eu B (nd k x e0 n es [] 0) (.agg #[.int .i64 k,.string x,.int .i64 n,v]) :: Ts) u :=
 h.add _ fun w' hw=>Pz.BZ k x n (h.fN _ he w' hw)
end
end Pz
end Go.Proofs.YtkdbgopgjbfhbaaGreatDoor
namespace Go.Proofs.YtkdbgopgjbfhbaaGreatDoor
open Go.RowKit Lx Pz
set_option linter.unusedVariables false
namespace Pz
def cz {α:Type} (E:Nat->Rd α):Prop:=∀i t j,E i=.ok (t,j)->i<j
section
variable {L:List Tk} {en:Int} {E T A:Nat->Rd Value}
theorem BR {nx:Tk->Bool} (hA:cz A):∀(f i:Nat) (acc ts:List Value) (j:Nat),dZ L en nx A f i acc=.ok (ts,j)->i<=j
 | 0,i,acc,ts,j,h=>by injection h with h;injection h with _ h;omega
 | f+1,i,acc,ts,j,h=>by
  rw [dZ] at h;split at h
  ·cases h0:A i with
   | error z=>rw [h0] at h;cases h
   | ok r =>
    obtain ⟨e,k⟩:=r;rw [h0] at h
    have:=hA _ _ _ h0
    have:=BR hA f k _ ts j h
    omega
  ·injection h with h;injection h with _ h;omega
theorem Ic (hE:cz E):cz (brk L en E):=by
 intro i t j h;unfold brk at h;cases h0:bf L en sL i with
 | error z=>rw [h0] at h;cases h
 | ok j0 =>
  have q0:=fF h0;rw [h0] at h;dsimp only at h;cases h1:E j0 with
  | error z=>rw [h1] at h;cases h
  | ok r1 =>
   obtain ⟨a1,j1⟩:=r1;have q1:=hE _ _ _ h1;rw [h1] at h;dsimp only at h;cases h2:bf L en sR j1 with
   | error z=>rw [h2] at h;cases h
   | ok j2 =>
    have q2:=fF h2;rw [h2] at h;dsimp only at h;injection h with h;injection h with _ h;omega
theorem EC (hE:cz E):cz (lF L en E):=by
 intro i t j h;unfold lF at h;split at h
 ·injection h with h;injection h with _ h;omega
 ·skip
  split at h
  ·injection h with h;injection h with _ h;omega
  ·exact Ic hE _ _ _ h
theorem Ie (hE:cz E):cz (mE L en E):=by
 intro i t j h;unfold mE at h;split at h
 ·injection h with h;injection h with _ h;omega
 ·skip
  split at h
  ·injection h with h;injection h with _ h;omega
  ·skip
   split at h
   ·injection h with h;injection h with _ h;omega
   ·skip
    split at h
    ·injection h with h;injection h with _ h;omega
    ·exact Ic hE _ _ _ h
theorem zX (hE:cz E):cz (iy L en E):=by
 intro i t j h;unfold iy at h;split at h
 ·injection h with h;injection h with _ h;omega
 ·skip
  split at h
  ·injection h with h;injection h with _ h;omega
  ·skip
   split at h
   ·injection h with h;injection h with _ h;omega
   ·exact Ic hE _ _ _ h
theorem Nf (hE:cz E):cz (tY L en E):=by
 intro i t j h;unfold tY at h;cases h0:lF L en E i with
 | error z=>rw [h0] at h;cases h
 | ok r =>
  obtain ⟨a,j0⟩:=r;have q0:=EC hE _ _ _ h0;rw [h0] at h;dsimp only at h;split at h
  ·cases h1:dZ L en tZ (lF L en E) (L.length+1) j0 [] with
   | error z=>rw [h1] at h;cases h
   | ok r =>
    obtain ⟨a1,j1⟩:=r;have q1:=BR (EC hE) _ _ _ _ _ h1;rw [h1] at h;injection h with h;injection h with _ h;omega
  ·injection h with h;injection h with _ h;omega
theorem BS:∀f,cz (oH L en f)
 | 0=>fun i t j h=>by cases h
 | f+1=>fun i t j h=>by
  rw [oH] at h;cases h0:tY L en (oH L en f) i with
  | error z=>rw [h0] at h;cases h
  | ok r =>
   obtain ⟨a,j0⟩:=r;have q0:=Nf (BS f) _ _ _ h0;rw [h0] at h;dsimp only at h;cases h1:bf L en jE j0 with
   | error z=>rw [h1] at h;injection h with h;injection h with _ h;omega
   | ok j1 =>
    rw [h1] at h;dsimp only at h;have q1:=fF h1;cases h2:oH L en f j1 with
    | error z=>rw [h2] at h;cases h
    | ok r =>
     obtain ⟨a2,j2⟩:=r;have q2:=BS f _ _ _ h2;rw [h2] at h;injection h with h;injection h with _ h;omega
theorem BU:∀f,cz (ju L en f)
 | 0=>fun i t j h=>by cases h
 | f+1=>fun i t j h=>by
  rw [ju] at h;split at h
  ·cases h1:dZ L en vR (mE L en (ju L en f)) (L.length+1) (i+1) [] with
   | error z=>rw [h1] at h;cases h
   | ok r =>
    obtain ⟨a1,j1⟩:=r;have q1:=BR (Ie (BU f)) _ _ _ _ _ h1;rw [h1] at h;injection h with h;injection h with _ h;omega
  ·exact Ie (BU f) _ _ _ h
theorem Ng (hE:cz E):∀(f i:Nat) (e t:Value) (j:Nat),ub L en E f i e=.ok (t,j)->i<=j
 | 0,i,e,t,j,h=>by injection h with h;injection h with _ h;omega
 | f+1,i,e,t,j,h=>by
  rw [ub] at h;split at h
  ·cases h0:iy L en E i with
   | error z=>rw [h0] at h;cases h
   | ok r =>
    obtain ⟨a,k⟩:=r;rw [h0] at h
    have:=zX hE _ _ _ h0
    have:=Ng hE f k _ t j h
    omega
  ·injection h with h;injection h with _ h;omega
theorem Ig (hE:cz E):cz (nz L en E):=by
 intro i t j h;unfold nz at h;split at h
 ·cases h0:iy L en E (i+1) with
  | error z=>rw [h0] at h;cases h
  | ok r =>
   obtain ⟨a,k⟩:=r
   have:=zX hE _ _ _ h0
   rw [h0] at h;injection h with h;injection h with _ h;omega
 ·split at h
  ·cases h1:dZ L en uf (iy L en E) (L.length+1) (i+1) [] with
   | error z=>rw [h1] at h;cases h
   | ok r =>
    obtain ⟨a1,j1⟩:=r;have q1:=BR (zX hE) _ _ _ _ _ h1;rw [h1] at h;injection h with h;injection h with _ h;omega
  ·cases h0:iy L en E i with
   | error z=>rw [h0] at h;cases h
   | ok r =>
    obtain ⟨a,k⟩:=r
    have:=zX hE _ _ _ h0
    rw [h0] at h
    have:=Ng hE _ _ _ _ _ h
    omega
theorem ED {sg:Tk->Bool} (hA:cz A):∀(f i:Nat) (e t:Value) (j:Nat),gU L en sg A f i e=.ok (t,j)->i<=j
 | 0,i,e,t,j,h=>by injection h with h;injection h with _ h;omega
 | f+1,i,e,t,j,h=>by
  rw [gU] at h;split at h
  ·cases h0:A (i+1) with
   | error z=>rw [h0] at h;cases h
   | ok r =>
    obtain ⟨a,k⟩:=r;rw [h0] at h
    have:=hA _ _ _ h0
    have:=ED hA f k _ t j h
    omega
  ·injection h with h;injection h with _ h;omega
theorem Ih (hE:cz E):cz (nA L en E):=by
 intro i t j h;unfold nA at h;cases h0:nz L en E i with
 | error z=>rw [h0] at h;cases h
 | ok r0 =>
  obtain ⟨a0,j0⟩:=r0;have q0:=Ig hE _ _ _ h0;rw [h0] at h;dsimp only at h
  have:=ED (Ig hE) _ _ _ _ _ h;omega
theorem Ii (hE:cz E):cz (nC L en E):=by
 intro i t j h;unfold nC at h;cases h0:nA L en E i with
 | error z=>rw [h0] at h;cases h
 | ok r0 =>
  obtain ⟨a0,j0⟩:=r0;have q0:=Ih hE _ _ _ h0;rw [h0] at h;dsimp only at h
  have:=ED (Ih hE) _ _ _ _ _ h;omega
theorem Nh (hE:cz E):cz (sG L en E):=by
 intro i t j h;unfold sG at h;cases h0:nC L en E i with
 | error z=>rw [h0] at h;cases h
 | ok r0 =>
  obtain ⟨a0,j0⟩:=r0;have q0:=Ii hE _ _ _ h0;rw [h0] at h;dsimp only at h
  have:=ED (Ii hE) _ _ _ _ _ h;omega
theorem Vb (hE:cz E):cz (vS L en E):=by
 intro i t j h;unfold vS at h;cases h0:sG L en E i with
 | error z=>rw [h0] at h;cases h
 | ok r =>
  obtain ⟨a,j0⟩:=r;have q0:=Nh hE _ _ _ h0;rw [h0] at h;dsimp only at h;cases h1:bf L en lg j0 with
  | error z=>rw [h1] at h;injection h with h;injection h with _ h;omega
  | ok j1 =>
   rw [h1] at h;dsimp only at h;have q1:=fF h1;cases h2:E j1 with
   | error z=>rw [h2] at h;cases h
   | ok r =>
    obtain ⟨a2,j2⟩:=r;have q2:=hE _ _ _ h2;rw [h2] at h;injection h with h;injection h with _ h;omega
theorem Ni (hE:cz E):cz (pW L en E):=by
 intro i t j h;unfold pW at h;cases h0:ju L en (L.length+1) i with
 | error z=>rw [h0] at h;cases h
 | ok r0 =>
  obtain ⟨a0,j0⟩:=r0;have q0:=BU _ _ _ _ h0;rw [h0] at h;dsimp only at h;cases h1:bf L en jE j0 with
  | error z=>rw [h1] at h;cases h
  | ok j1 =>
   have q1:=fF h1;rw [h1] at h;dsimp only at h;cases h2:E j1 with
   | error z=>rw [h2] at h;cases h
   | ok r2 =>
    obtain ⟨a2,j2⟩:=r2;have q2:=hE _ _ _ h2;rw [h2] at h;dsimp only at h;injection h with h;injection h with _ h;omega
theorem Nj (hE:cz E):∀(f i:Nat) (ps es:List Value) (t:List Value × List Value) (j:Nat),sH L en E f i ps es=.ok (t,j)->i<=j
 | 0,i,ps,es,t,j,h=>by injection h with h;injection h with _ h;omega
 | f+1,i,ps,es,t,j,h=>by
  rw [sH] at h;cases h0:bf L en kR i with
  | error z=>rw [h0] at h;injection h with h;injection h with _ h;omega
  | ok j0 =>
   have q0:=fF h0;rw [h0] at h;dsimp only at h;cases h1:pW L en E j0 with
   | error z=>rw [h1] at h;cases h
   | ok r =>
    obtain ⟨⟨a,b⟩,k⟩:=r;have q1:=Ni hE _ _ _ h1;rw [h1] at h
    have:=Nj hE f k _ _ t j h
    omega
theorem Vd (hE:cz E):cz (xW L en E):=by
 intro i t j h;unfold xW at h;cases h0:bU L en 1 (i+1) with
 | error z=>rw [h0] at h;cases h
 | ok r0 =>
  obtain ⟨a0,j0⟩:=r0;have q0:=ll h0;rw [h0] at h;dsimp only at h;cases h1:bf L en jE j0 with
  | error z=>rw [h1] at h;cases h
  | ok j1 =>
   have q1:=fF h1;rw [h1] at h;dsimp only at h;cases h2:E j1 with
   | error z=>rw [h2] at h;cases h
   | ok r2 =>
    obtain ⟨a2,j2⟩:=r2;have q2:=hE _ _ _ h2;rw [h2] at h;dsimp only at h;injection h with h;injection h with _ h;omega
theorem Nk (hE:cz E) (k:Int) (x y:ByteArray) (a:Int):cz (pX L en E k x y a):=by
 intro i t j h;unfold pX at h;cases h0:bf L en pO i with
 | error z=>rw [h0] at h;cases h
 | ok j0 =>
  have q0:=fF h0;rw [h0] at h;dsimp only at h;cases h1:E j0 with
  | error z=>rw [h1] at h;cases h
  | ok r1 =>
   obtain ⟨a1,j1⟩:=r1;have q1:=hE _ _ _ h1;rw [h1] at h;dsimp only at h;cases h2:bf L en zY j1 with
   | error z=>rw [h2] at h;cases h
   | ok j2 =>
    have q2:=fF h2;rw [h2] at h;dsimp only at h;cases h3:E j2 with
    | error z=>rw [h3] at h;cases h
    | ok r3 =>
     obtain ⟨a3,j3⟩:=r3;have q3:=hE _ _ _ h3;rw [h3] at h;dsimp only at h;injection h with h;injection h with _ h;omega
theorem Ve (hE:cz E):cz (xX L en E):=by
 intro i t j h;unfold xX at h;cases h9:bf L en ug (i+1) with
 | error z =>
  rw [h9] at h;dsimp only at h;cases h0:bU L en 1 (i+1) with
  | error z=>rw [h0] at h;cases h
  | ok r0 =>
   obtain ⟨a0,j0⟩:=r0;have q0:=ll h0;rw [h0] at h;dsimp only at h
   have:=Nk hE _ _ _ _ _ _ _ h;omega
 | ok j9 =>
  have q9:=fF h9;rw [h9] at h;dsimp only at h;cases h0:bU L en 1 j9 with
  | error z=>rw [h0] at h;cases h
  | ok r0 =>
   obtain ⟨a0,j0⟩:=r0;have q0:=ll h0;rw [h0] at h;dsimp only at h;cases h1:bU L en 1 j0 with
   | error z=>rw [h1] at h;cases h
   | ok r1 =>
    obtain ⟨a1,j1⟩:=r1;have q1:=ll h1;rw [h1] at h;dsimp only at h
    have:=Nk hE _ _ _ _ _ _ _ h;omega
theorem Vf (hE:cz E):cz (xY L en E):=by
 intro i t j h;unfold xY at h;cases h0:E (i+1) with
 | error z=>rw [h0] at h;cases h
 | ok r0 =>
  obtain ⟨a0,j0⟩:=r0;have q0:=hE _ _ _ h0;rw [h0] at h;dsimp only at h;cases h1:bf L en zZ j0 with
  | error z=>rw [h1] at h;cases h
  | ok j1 =>
   have q1:=fF h1;rw [h1] at h;dsimp only at h;cases h2:E j1 with
   | error z=>rw [h2] at h;cases h
   | ok r2 =>
    obtain ⟨a2,j2⟩:=r2;have q2:=hE _ _ _ h2;rw [h2] at h;dsimp only at h;cases h3:bf L en Aa j2 with
    | error z=>rw [h3] at h;cases h
    | ok j3 =>
     have q3:=fF h3;rw [h3] at h;dsimp only at h;cases h4:E j3 with
     | error z=>rw [h4] at h;cases h
     | ok r4 =>
      obtain ⟨a4,j4⟩:=r4;have q4:=hE _ _ _ h4;rw [h4] at h;dsimp only at h;injection h with h;injection h with _ h;omega
theorem Vg (hE:cz E):cz (vT L en E):=by
 intro i t j h;unfold vT at h;cases h0:E (i+1) with
 | error z=>rw [h0] at h;cases h
 | ok r0 =>
  obtain ⟨a0,j0⟩:=r0;have q0:=hE _ _ _ h0;rw [h0] at h;dsimp only at h;cases h1:bf L en Ab j0 with
  | error z=>rw [h1] at h;cases h
  | ok j1 =>
   have q1:=fF h1;rw [h1] at h;dsimp only at h;cases h2:pW L en E j1 with
   | error z=>rw [h2] at h;cases h
   | ok r2 =>
    obtain ⟨⟨a2,b2⟩,j2⟩:=r2;have q2:=Ni hE _ _ _ h2;rw [h2] at h;dsimp only at h;cases h3:sH L en E (L.length+1) j2 [a2] [a0,b2] with
    | error z=>rw [h3] at h;cases h
    | ok r3 =>
     obtain ⟨⟨a3,b3⟩,j3⟩:=r3;have q3:=Nj hE _ _ _ _ _ _ h3;rw [h3] at h;dsimp only at h;cases h4:bf L en xZ j3 with
     | error z=>rw [h4] at h;cases h
     | ok j4 =>
      have q4:=fF h4;rw [h4] at h;dsimp only at h;injection h with h;injection h with _ h;omega
theorem yc:∀f,cz (iT L en f)
 | 0=>fun i t j h=>by cases h
 | f+1=>fun i t j h=>by
  rw [iT] at h;split at h
  ·exact Vd (yc f) _ _ _ h
  ·split at h
   ·exact Ve (yc f) _ _ _ h
   ·split at h
    ·exact Vf (yc f) _ _ _ h
    ·split at h
     ·exact Vg (yc f) _ _ _ h
     ·exact Vb (yc f) _ _ _ h
theorem Ij:cz (kV L en):=by
 intro i t j h;unfold kV at h;cases h0:bU L en 2 i with
 | error z=>rw [h0] at h;cases h
 | ok r0 =>
  obtain ⟨a0,j0⟩:=r0;have q0:=ll h0;rw [h0] at h;dsimp only at h;cases h1:dZ L en tZ (lF L en (oH L en (L.length+1))) (L.length+1) j0 [] with
  | error z=>rw [h1] at h;cases h
  | ok r1 =>
   obtain ⟨a1,j1⟩:=r1;have q1:=BR (EC (BS _)) _ _ _ _ _ h1;rw [h1] at h;dsimp only at h;injection h with h;injection h with _ h;omega
theorem Nl:∀(f i:Nat) (acc:List ByteArray),i<=(ou L en f i acc).2
 | 0,i,acc=>Nat.le_refl _
 | f+1,i,acc=>by
  rw [ou];split
  ·have:=Nl f (i+1) (acc++[(tk L en i).x]);omega
  ·exact Nat.le_refl _
theorem Nn:∀(f i:Nat) (acc cs:List Value) (j:Nat),qW L en f i acc=.ok (cs,j)->i<=j
 | 0,i,acc,cs,j,h=>by injection h with h;injection h with _ h;omega
 | f+1,i,acc,cs,j,h=>by
  rw [qW] at h;cases h0:bf L en kR i with
  | error z=>rw [h0] at h;injection h with h;injection h with _ h;omega
  | ok j0 =>
   have q0:=fF h0;rw [h0] at h;dsimp only at h;cases h1:kV L en j0 with
   | error z=>rw [h1] at h;cases h
   | ok r =>
    obtain ⟨a,k⟩:=r;have q1:=Ij _ _ _ h1;rw [h1] at h
    have:=Nn f k _ cs j h
    omega
theorem Vh:cz (vU L en):=by
 intro i t j h;unfold vU at h;cases h0:bU L en 1 (i+1) with
 | error z=>rw [h0] at h;cases h
 | ok r0 =>
  obtain ⟨a0,j0⟩:=r0;have q0:=ll h0;rw [h0] at h;dsimp only at h;cases h1:bf L en pO (ou L en (L.length+1) j0 []).2 with
  | error z=>rw [h1] at h;cases h
  | ok j1 =>
   have q1:=fF h1;rw [h1] at h;dsimp only at h;cases h2:kV L en j1 with
   | error z=>rw [h2] at h;cases h
   | ok r2 =>
    obtain ⟨a2,j2⟩:=r2;have q2:=Ij _ _ _ h2;rw [h2] at h;dsimp only at h;cases h3:qW L en (L.length+1) j2 [a2] with
    | error z=>rw [h3] at h;cases h
    | ok r3 =>
     obtain ⟨a3,j3⟩:=r3;have q3:=Nn _ _ _ _ _ h3;rw [h3] at h;dsimp only at h;cases h4:bf L en lg j3 with
     | error z=>rw [h4] at h;cases h
     | ok j4 =>
      have q4:=fF h4;rw [h4] at h;dsimp only at h
      have:=Nl (L:=L) (en:=en) (L.length+1) j0 [];injection h with h;injection h with _ h;omega
end
end Pz
end Go.Proofs.YtkdbgopgjbfhbaaGreatDoor

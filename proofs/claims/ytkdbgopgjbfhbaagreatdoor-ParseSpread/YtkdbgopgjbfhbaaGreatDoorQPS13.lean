/- Texts that the claim needs. -/
import Derived.Test.YtkdbgopgjbfhbaaGreatDoorQPS12
import Derived.Test.YtkdbgopgjbfhbaaGreatDoorQPS11
namespace Go.Proofs.YtkdbgopgjbfhbaaGreatDoor
open Go.RowKit Lx Pz bb
set_option linter.unusedVariables false
set_option maxRecDepth 100000
set_option maxHeartbeats 8000000
theorem acU (w0:World) (p:Nat) (L:List Tk) (vL:Value) (en:Int) (i:Nat) (E:Nat->Rd Value) (HE:∀j u,i<j->PR w0 p L vL en j u->Calls Tryz.prog 240 #[.pointer (some ⟨p,0,none⟩)] u (Rp w0 p L vL en (aY u.heap.size) u (E j))) (w:World) (h:PR w0 p L vL en i w) :
  Calls Tryz.prog 235 #[.pointer (some ⟨p,0,none⟩)] w (Rp w0 p L vL en (aY w.heap.size) w (match aX L en ic i with | .error z=>.error z | .ok j=>match E j with | .error z=>.error z | .ok (e,j)=>.ok (nd 10 e0 e0 0 [e] [] (tk L en i).a,j))):=by
 have HA:=ae (AP.start h 27 bK);have HM:=ae (gZ w0 p L vL en i ic _ HA.out.pr);obtain ⟨ak,aT⟩:∃X,X=(match aX L en ic i with | .error z=>.error z | .ok j=>match E j with | .error z=>.error z | .ok (e,j)=>.ok (nd 10 e0 e0 0 [e] [] (tk L en i).a,j):Rd Value):=⟨_,rfl⟩
 rw [<- aT];have bO:=ae aT;have ck:=ae HE;clear h aT HE;go_enter Tryz.func235,Tryz.ntmps235;go_wp2_with fail;refine Calls.mono (show Calls _ _ _ _ _ from HM.out) ?_;intro e u hr;cases hR:aX L en ic i with
 | error z =>
  obtain ⟨rfl,hb⟩:=bz hr (dO hR);have HB:=ae hb;have ay:Hid (ak=.error z):=ae (by have hq:=bO.out;rw [hR] at hq;exact hq);clear hb HM hR bO hr;go_wp2;exact ⟨rfl,bn ay.out HB.out⟩
 | ok j =>
  obtain ⟨⟨v,rfl,hv⟩,hp,hbt⟩:=bf hr (dO hR);subst hv;have aB:=ae (HA.out.call hp hbt);have iP:=ae (ck.out j u (fL hR) hp);have bu:Hid (ak=(match E j with | .error z=>.error z | .ok (e,j)=>.ok (nd 10 e0 e0 0 [e] [] (tk L en i).a,j))):=ae (by have hq:=bO.out;rw [hR] at hq;exact hq)
  clear hp hbt HM HA hR hr bO ck;generalize (tk L en i).a=at' at *;go_wp2_with fail;refine Calls.mono (show Calls _ _ _ _ _ from iP.out) ?_;intro e u5 hr;cases hR:E j with
  | error z =>
   obtain ⟨rfl,hb⟩:=bz hr hR;have HB:=ae hb;have ay:Hid (ak=.error z):=ae (by have hq:=bu.out;rw [hR] at hq;exact hq);clear hb hr hR iP bu;go_wp2;exact ⟨rfl,bn ay.out HB.out⟩
  | ok r =>
   obtain ⟨tr,k⟩:=r;obtain ⟨⟨v,rfl,hv0⟩,hp,hbt⟩:=bf hr hR;obtain ⟨vk,vx,vy,vn,vu,vz,va,hv,o1,o2⟩:=hv0.val;subst hv;have bL:=aB.out.lt;have bh:Hid (ak=.ok (nd 10 e0 e0 0 [tr] [] at',k)):=ae (by have hq:=bu.out;rw [hR] at hq;exact hq);have hsz:=hbt.size;have cZ:=ae (aB.out.call hp hbt);obtain ⟨u6,MR⟩:∃u6,u6=u5.alloc (.cells #[.int .i64 vk,.string vx,.string vy,.int .i64 vn,vu,vz,.int .i64 va] 27):=⟨_,rfl⟩;have ik:Below u5.heap.size u5 u6:=by rw [MR];exact dh u5 _
   have jQ:u6.heap[u5.heap.size]?=some (.cells #[.int .i64 vk,.string vx,.string vy,.int .i64 vn,vu,vz,.int .i64 va] 27 (0,0)):=by rw [MR];exact heap_alloc_new _ _
   have l5:=ae (cZ.out.on ik);have AB:=hv0.on (bT.of ik) (Nat.le_refl _);obtain ⟨W,hW,hth,hbk,hpr,aO,hab⟩:=l5.out.put #[.int .i64 10,.string e0,.string e0,.int .i64 0,.slice (some ⟨u5.heap.size,0,none⟩) 1 1,.slice none 0 0,.int .i64 at'] rfl
   have HV:Hid (aY w.heap.size (nd 10 e0 e0 0 [tr] [] at') (.agg #[.int .i64 10,.string e0,.string e0,.int .i64 0,.slice (some ⟨u5.heap.size,0,none⟩) 1 1,.slice none 0 0,.int .i64 at']) W):=ae (by
    obtain ⟨d,hd⟩:=DZ (B:=u.heap.size) (b:=u5.heap.size) (o:=0) AB hsz (fun j u hj=>af jQ _ u (by rw [Nat.zero_add];exact hj));have hd2:=dR.lo (q:=w.heap.size) (by omega) d _ _ _ (dR.but (hab.lo (by omega)) d _ _ _ hd);refine ⟨d,10,e0,e0,0,[tr],[],at',_,_,rfl,rfl,⟨by simp,.inr ⟨u5.heap.size,0,1,rfl,fun i x hx=>?_⟩⟩,xy _ _⟩
    match i,hx with
    | 0,hx=>injection hx with hx;subst hx;exact hd2
    | i+1,hx=>simp at hx)
   have HW:=ae hW;have ax:=ae hth;have aj:=ae hbk;have HF:=ae (And.intro hpr aO);have VQ:=ae MR;clear hW hth hbk hpr aO hab AB jQ ik hp hbt hr hv0 hR bu iP cZ l5 aB;go_wp2_with (refine wpList_store_mid rfl 27 (.tmp 2) (.tmp 10) rfl w.heap.size 0 #[.int .i64 10,.string e0,.string e0,.int .i64 0,.slice (some ⟨u5.heap.size,0,none⟩) 1 1,.slice none 0 0,.int .i64 at'] rfl rfl (by rw [<- VQ.out];exact ax.out) cz (by simp [Value.oneCell']) ?_;rw [<- VQ.out,HW.out]);have z0:=af aj.out 0 _ rfl;have z1:=af aj.out 1 _ rfl;have z2:=af aj.out 2 _ rfl;have z3:=af aj.out 3 _ rfl;have z4:=af aj.out 4 _ rfl;have z5:=af aj.out 5 _ rfl;have z6:=af aj.out 6 _ rfl;refine bodyPost_ret (v:=.agg #[.int .i64 10,.string e0,.string e0,.int .i64 0,.slice (some ⟨u5.heap.size,0,none⟩) 1 1,.slice none 0 0,.int .i64 at']) (by simp [results,Tryz.results235,go_sem,z0,z1,z2,z3,z4,z5,z6]) rfl (bY bh.out HV.out HF.out.1 HF.out.2)
namespace Pz
def gV (H:List Nat) (p:Nat) (u w':World):Prop:=∀k,k<u.heap.size->k≠p->k ∉ H->w'.heap[k]?=u.heap[k]?
theorem gV.refl (H:List Nat) (p:Nat) (u:World):gV H p u u:=fun _ _ _ _=>rfl
theorem gV.more {H H':List Nat} {p:Nat} {u w':World} (h:gV H p u w') (hs:∀k ∈ H,k ∈ H'):gV H' p u w':=fun k hk hp hn=>h k hk hp fun hm=>hn (hs k hm)
abbrev Bk:=Nat × Array Value × TypeId
structure ST (w0:World) (p:Nat) (L:List Tk) (vL:Value) (en:Int) (H:List Nat) (w:World) (i:Nat) (Bs:List Bk) (Ts:List (World->Prop)) (u:World):Prop where
 pr:PR w0 p L vL en i u
 but:But p w u
 ed:p<w.heap.size
 hlt:∀k ∈ H,k<u.heap.size
 blk:∀x ∈ Bs,u.heap[x.1]?=some (.cells x.2.1 x.2.2 (0,0))/\w.heap.size<=x.1
 oJ:(Bs.map (·.1)).Nodup
 gp:∀F ∈ Ts,∀w',gV (H++Bs.map (·.1)) p u w'->F w'
section
variable {w0 w u u':World} {p:Nat} {L:List Tk} {vL:Value} {en:Int} {H:List Nat} {i j:Nat} {Bs:List Bk} {Ts:List (World->Prop)}
theorem ST.start (h:PR w0 p L vL en i w) (hH:∀k ∈ H,k<w.heap.size) (hT:∀F ∈ Ts,∀w',gV H p w w'->F w'):ST w0 p L vL en H w i [] Ts w :=
 ⟨h,But.refl _ _,h.lt,hH,fun x hx=>(by cases hx),(by simp),fun F hF w' hw=>hT F hF w' (by simpa using hw)⟩
theorem ST.nH (h:PR w0 p L vL en i w):ST w0 p L vL en [] w i [] [] w:=ST.start h (fun k hk=>by cases hk) (fun F hF=>by cases hF)
theorem ST.blt (h:ST w0 p L vL en H w i Bs Ts u) {x:Bk} (hx:x ∈ Bs):x.1<u.heap.size:=(Array.getElem?_eq_some_iff.1 (h.blk x hx).1).1
theorem ST.mlt (h:ST w0 p L vL en H w i Bs Ts u) {k:Nat} (hk:k ∈ H++Bs.map (·.1)):k<u.heap.size:=by
 rcases List.mem_append.1 hk with h1|h1
 ·exact h.hlt k h1
 ·obtain ⟨x,hx,rfl⟩:=List.mem_map.1 h1;exact h.blt hx
theorem ST.FV (h:ST w0 p L vL en H w i Bs Ts u) {x:Bk} (hx:x ∈ Bs):x.1≠p:=by
 have:=(h.blk x hx).2;have:=h.ed;omega
theorem ST.on (h : ST w0 p L vL en H w i Bs Ts u) (hb : Below u.heap.size u u') : ST w0 p L vL en H w i Bs Ts u' :=
  ⟨h.pr.on hb, h.but.trans (But.of p hb), h.ed, fun k hk => Nat.lt_of_lt_of_le (h.hlt k hk) hb.size, fun x hx => ⟨by rw [hb.block _ (h.blt hx)]; exact (h.blk x hx).1, (h.blk x hx).2⟩, h.oJ,
   fun F hF w' hw => h.gp F hF w' fun k hk hp hn => (hw k (Nat.lt_of_lt_of_le hk hb.size) hp hn).trans (hb.block k hk)⟩
theorem ST.call (h : ST w0 p L vL en H w i Bs Ts u) (h1 : PR w0 p L vL en j u') (h2 : But p u u') : ST w0 p L vL en H w j Bs Ts u' :=
  ⟨h1, h.but.trans h2, h.ed, fun k hk => Nat.lt_of_lt_of_le (h.hlt k hk) h2.size, fun x hx => ⟨by rw [h2.block _ (h.blt hx) (h.FV hx)]; exact (h.blk x hx).1, (h.blk x hx).2⟩, h.oJ,
   fun F hF w' hw => h.gp F hF w' fun k hk hp hn => (hw k (Nat.lt_of_lt_of_le hk h2.size) hp hn).trans (h2.block k hk hp)⟩
theorem ST.new (h:ST w0 p L vL en H w i Bs Ts u) (cs:Array Value) (T:TypeId):ST w0 p L vL en H w i (Bs++[(u.heap.size,cs,T)]) Ts (u.alloc (.cells cs T)):=by
 have hb:Below u.heap.size u (u.alloc (.cells cs T)):=(Below.refl _ u).alloc (Nat.le_refl _) _;have h1:=h.on hb;refine ⟨h1.pr,h1.but,h.ed,h1.hlt,fun x hx=>?_,?_,fun F hF w' hw=>?_⟩
 ·rcases List.mem_append.1 hx with h2|h2
  ·exact h1.blk x h2
  ·rw [List.mem_singleton.1 h2];exact ⟨heap_alloc_new _ _,h.but.size⟩
 ·rw [List.map_append,List.nodup_append];refine ⟨h.oJ,by simp,fun a ha b hb=>?_⟩;have hb':b=u.heap.size:=by simpa using hb
  have:=h.mlt (List.mem_append_right H ha)
  omega
 ·refine h.gp F hF w' fun k hk hp hn=>(hw k (Nat.lt_of_lt_of_le hk hb.size) hp fun hm=>?_).trans (hb.block k hk);rcases List.mem_append.1 hm with h2|h2
  ·exact hn (List.mem_append_left _ h2)
  ·rw [List.map_append] at h2;rcases List.mem_append.1 h2 with h3|h3
   ·exact hn (List.mem_append_right _ h3)
   ·have:k=u.heap.size:=by simpa using h3
    omega
theorem SB {l:List Bk} {k:Nat} {x y:Bk} (hk:l[k]?=some x) (he:y.1=x.1):(l.set k y).map (·.1)=l.map (·.1):=by
 apply List.ext_getElem?;intro m;rw [List.getElem?_map,List.getElem?_map,List.getElem?_set];split
 ·rename_i hm;subst hm;rw [hk];split
  ·simp [he]
  ·rename_i hn;exact absurd (List.getElem?_eq_some_iff.1 hk).1 hn
 ·rfl
theorem abD {l:List Bk} (hn:(l.map (·.1)).Nodup) {k:Nat} {x y z:Bk} (hk:l[k]?=some x) (hz:z ∈ l.set k y):z=y\/(z ∈ l/\z.1≠x.1):=by
 obtain ⟨m,hm⟩:=List.getElem?_of_mem hz;rw [List.getElem?_set] at hm;split at hm
 ·split at hm
  ·injection hm with hm;exact .inl hm.symm
  ·cases hm
 ·rename_i hne;refine .inr ⟨List.mem_of_getElem? hm,fun e=>hne ?_⟩;have a1:=(List.getElem?_eq_some_iff.1 hk);have a2:=(List.getElem?_eq_some_iff.1 hm);obtain ⟨k1,k2⟩:=a1;obtain ⟨m1,m2⟩:=a2;have hp:=List.pairwise_iff_getElem.1 hn;have q1:(l.map (·.1))[k]'(by simpa using k1)=x.1:=by simp [k2]
  have q2:(l.map (·.1))[m]'(by simpa using m1)=z.1:=by simp [m2]
  rcases Nat.lt_trichotomy k m with h|h|h
  ·exact absurd (by rw [q1,q2,e]) (hp k m (by simpa using k1) (by simpa using m1) h)
  ·exact h
  ·exact absurd (by rw [q1,q2,e]) (hp m k (by simpa using m1) (by simpa using k1) h)
theorem ST.wrote (h:ST w0 p L vL en H w i Bs Ts u) {k:Nat} {b:Nat} {cs vs:Array Value} {T:TypeId} (hk:Bs[k]?=some (b,cs,T)) (hb:Below b u u') (hbb:∀m,m≠b->u'.heap[m]?=u.heap[m]?) (hv:u'.heap[b]?=some (.cells vs T (0,0))) (hs:u.heap.size<=u'.heap.size):ST w0 p L vL en H w i (Bs.set k (b,vs,T)) Ts u':=by
 have hx:=List.mem_of_getElem? hk;have hwb:w.heap.size<=b:=(h.blk _ hx).2;have hpb:p≠b:=by have:=h.ed;omega
 refine ⟨⟨h.pr.below.trans (hb.mono (by have:=h.pr.base;have:=h.ed;omega)),h.pr.base,by rw [hbb p hpb];exact h.pr.blk,h.pr.le,?_,h.pr.few,h.pr.rC⟩,?_,h.ed,fun k hk=>Nat.lt_of_lt_of_le (h.hlt k hk) hs,fun x hx=>?_,(by rw [SB (y:=(b,vs,T)) hk rfl];exact h.oJ),fun F hF w' hw=>?_⟩
 ·rcases h.pr.toks with h1|⟨g,c,h1,h2⟩
  ·exact .inl h1
  ·refine .inr ⟨g,c,h1,fun a t ha b' v hv'=>?_⟩;have hc:=h2 a t ha b' v hv';have hg:g≠b:=by have:=h.pr.rC g 0 _ c h1;have:=h.ed;omega
   unfold World.cell? at hc ⊢;rw [hbb g hg];exact hc
 ·exact ⟨hb.os.trans h.but.os,hb.tape.trans h.but.tape,hb.output.trans h.but.output,Nat.le_trans h.but.size hs,fun m hm hp=>by rw [hbb m (by omega)];exact h.but.block m hm hp⟩
 ·rcases abD h.oJ hk hx with rfl|⟨h1,h2⟩
  ·exact ⟨hv,hwb⟩
  ·exact ⟨by rw [hbb _ h2];exact (h.blk x h1).1,(h.blk x h1).2⟩
 ·rw [SB (y:=(b,vs,T)) hk rfl] at hw;refine h.gp F hF w' fun m hm hp hn=>(hw m (Nat.lt_of_lt_of_le hm hs) hp hn).trans (hbb m fun e=>hn ?_);subst e;exact List.mem_append_right _ (List.mem_map.2 ⟨_,hx,rfl⟩)
theorem ST.at_ (h:ST w0 p L vL en H w i Bs Ts u) {k:Nat} {b:Nat} {cs:Array Value} {T:TypeId} (hk:Bs[k]?=some (b,cs,T)):u.heap[b]?=some (.cells cs T (0,0)):=(h.blk _ (List.mem_of_getElem? hk)).1
theorem ST.cell (h:ST w0 p L vL en H w i Bs Ts u) (k:Nat) {b:Nat} {cs:Array Value} {T:TypeId} (hk:Bs[k]?=some (b,cs,T)) (o:Nat) {v:Value} (hv:cs[o]?=some v):u.cell? ⟨b,o,none⟩=some v:=af (h.at_ hk) o v hv
theorem ST.iq (h:ST w0 p L vL en H w i Bs Ts u) (k:Nat) {b:Nat} {cs:Array Value} {T:TypeId} (hk:Bs[k]?=some (b,cs,T)) (o:Nat):u.frozen? ⟨b,o,none⟩=false:=by
 unfold World.frozen?;rw [h.at_ hk];simp
theorem ST.put (h:ST w0 p L vL en H w i Bs Ts u) (k:Nat) {b:Nat} {cs:Array Value} {T:TypeId} (hk:Bs[k]?=some (b,cs,T)) (vs:Array Value) (hz:cs.size=vs.size) :
  ∃W,u.setCells b 0 vs.toList=W/\u.there b 0 vs.size/\ST w0 p L vL en H w i (Bs.set k (b,vs,T)) Ts W:=by
 have hb:=h.at_ hk;exact ⟨_,rfl,by have:=CP hb;rw [hz] at this;exact this,h.wrote hk (mY b b (Nat.le_refl _) vs.toList 0 u u (Below.refl _ u)) (fun m hm=>vY b m hm vs.toList 0 u) (CQ hb hz) (mY 0 b (Nat.zero_le _) vs.toList 0 u u (Below.refl _ u)).size⟩
theorem ST.set (h:ST w0 p L vL en H w i Bs Ts u) (k:Nat) {b:Nat} {cs:Array Value} {T:TypeId} (hk:Bs[k]?=some (b,cs,T)) (o:Nat) (v:Value) :
  ∃W,u.setCell ⟨b,o,none⟩ v=W/\ST w0 p L vL en H w i (Bs.set k (b,cs.setIfInBounds o v,T)) Ts W:=by
 have hb:=h.at_ hk;exact ⟨_,rfl,h.wrote hk ((Below.refl b u).setCell (Nat.le_refl b) _) (fun m hm=>Below.heap_setCell u ⟨b,o,none⟩ v m hm) (heap_setCell_same u b o cs T v hb) (by simp)⟩
theorem ST.kD (h:ST w0 p L vL en H w i Bs Ts u) (T:TypeId) (z vs:Array Value) (hz:z.size=vs.size) :
  ∃W,(u.alloc (.cells z T)).setCells u.heap.size 0 vs.toList=W/\(u.alloc (.cells z T)).there u.heap.size 0 vs.size/\ST w0 p L vL en H w i (Bs++[(u.heap.size,vs,T)]) Ts W:=by
 obtain ⟨W,h1,h2,h3⟩:=(h.new z T).put Bs.length (b:=u.heap.size) (cs:=z) (T:=T) (by rw [List.getElem?_append_right (Nat.le_refl _)];simp) vs hz;refine ⟨W,h1,h2,?_⟩;rw [List.set_append_right _ _ (Nat.le_refl _)] at h3;simpa using h3
theorem ST.set' (h:ST w0 p L vL en H w i Bs Ts u) (k:Nat) {b:Nat} {cs:Array Value} {T:TypeId} (hk:Bs[k]?=some (b,cs,T)) (o:Nat) (v:Value):ST w0 p L vL en H w i (Bs.set k (b,cs.setIfInBounds o v,T)) Ts (u.setCell ⟨b,o,none⟩ v):=by
 obtain ⟨W,h1,h2⟩:=h.set k hk o v;rw [h1];exact h2
theorem ST.add (h:ST w0 p L vL en H w i Bs Ts u) (F:World->Prop) (hF:∀w',gV (H++Bs.map (·.1)) p u w'->F w'):ST w0 p L vL en H w i Bs (F :: Ts) u :=
 ⟨h.pr,h.but,h.ed,h.hlt,h.blk,h.oJ,fun G hG=>by
  rcases List.mem_cons.1 hG with rfl|hG
  ·exact hF
  ·exact h.gp G hG⟩
theorem ST.drop (h:ST w0 p L vL en H w i Bs Ts u) {Ts':List (World->Prop)} (hT:∀F ∈ Ts',F ∈ Ts):ST w0 p L vL en H w i Bs Ts' u :=
 ⟨h.pr,h.but,h.ed,h.hlt,h.blk,h.oJ,fun G hG=>h.gp G (hT G hG)⟩
theorem ST.out (h:ST w0 p L vL en H w i Bs Ts u) {F:World->Prop} (hF:F ∈ Ts):F u:=h.gp F hF u (gV.refl _ _ _)
theorem ST.newer {w9:World} (h:ST w0 p L vL en H w i Bs Ts u) (hw:gV (H++Bs.map (·.1)) p u' w9):bT u.heap.size u' w9:=fun k hk hl =>
 hw k hl (by have:=h.pr.lt;omega) fun hm=>by have:=h.mlt hm;omega
theorem ST.jN (h:ST w0 p L vL en H w i Bs Ts u) {t v:Value} {B:Nat} (hB:B<=u.heap.size) (h1:PR w0 p L vL en j u') (h2:But p u u') (hv:aY u.heap.size t v u'):ST w0 p L vL en H w j Bs (aY B t v :: Ts) u' :=
 (h.call h1 h2).add _ fun w' hw=>hv.on (h.newer hw) hB
theorem ST.abE (h:ST w0 p L vL en H w i Bs Ts u) {t v:Value} {B:Nat} (hB:B<=u.heap.size) (h1:PR w0 p L vL en j u') (h2:But p u u') (hv:cG u.heap.size t v u'):ST w0 p L vL en H w j Bs (cG B t v :: Ts) u' :=
 (h.call h1 h2).add _ fun w' hw=>hv.on (h.newer hw) hB
theorem ST.DY (h:ST w0 p L vL en H w i Bs Ts u) {t v:Value} {B:Nat} (hB:B<=u.heap.size) (h1:PR w0 p L vL en j u') (h2:But p u u') (hv:fC u.heap.size t v u'):ST w0 p L vL en H w j Bs (fC B t v :: Ts) u' :=
 (h.call h1 h2).add _ fun w' hw=>hv.on (h.newer hw) hB
end
theorem aY.at_ {B:Nat} {t:Value} {w:World} {k:Int} {x y:ByteArray} {n:Int} {u z:Value} {a:Int} (h:aY B t (.agg #[.int .i64 k,.string x,.string y,.int .i64 n,u,z,.int .i64 a]) w):ju t=a:=by
 obtain ⟨d,k',x',y',n',es,ps,a',u',z',h0,h1,_⟩:=h;subst h0;rw [abF];injection h1 with h1
 have:=congrArg (fun l:Array Value=>l[6]?) h1
 simpa using this.symm
def pG (B:Nat) (v:Value) (ts:List Value) (w:World):Prop:=∃d,Row 7 (dR B w d) v ts
def lC (B:Nat) (v:Value) (ts:List Value) (w:World):Prop:=∃d,Row 5 (cW B w d) v ts
def nU (B:Nat) (v:Value) (ts:List Value) (w:World):Prop:=∃d,Row 4 (eG B w d) v ts
theorem pG.nil (B:Nat) (w:World):pG B (.slice none 0 0) [] w:=⟨0,xy _ _⟩
theorem lC.nil (B:Nat) (w:World):lC B (.slice none 0 0) [] w:=⟨0,xy _ _⟩
theorem nU.nil (B:Nat) (w:World):nU B (.slice none 0 0) [] w:=⟨0,xy _ _⟩
theorem Bg {B:Nat} {w:World} {v z:Value} {es ps:List Value} (k:Int) (x y:ByteArray) (n a:Int) (he:pG B v es w) (hp:lC B z ps w):aY B (nd k x y n es ps a) (.agg #[.int .i64 k,.string x,.string y,.int .i64 n,v,z,.int .i64 a]) w:=by
 obtain ⟨d,hd⟩:=he;obtain ⟨d',hd'⟩:=hp;exact ⟨d+d',k,x,y,n,es,ps,a,v,z,rfl,rfl,hd.imp fun b o t _ h=>uW (F:=dR B w) dR.up (Nat.le_add_right _ _) h,hd'.imp fun b o t _ h=>uW (F:=cW B w) cW.up (Nat.le_add_left _ _) h⟩
theorem Gz {B:Nat} {w:World} {v:Value} {es:List Value} (k:Int) (x:ByteArray) (n:Int) (he:nU B v es w):fC B (nd k x e0 n es [] 0) (.agg #[.int .i64 k,.string x,.int .i64 n,v]) w:=by
 obtain ⟨d,hd⟩:=he;exact ⟨d,k,x,n,es,v,rfl,rfl,hd⟩
theorem KJ {F:Nat->Nat->Nat->Value->Prop} (hF:∀d b o t,F d b o t->F (d+1) b o t) {V:Value->Value->World->Prop} {w:World} {b sz c:Nat} {T:TypeId} {cells:Array Value} {ts:List Value} (hn:ts.length<=9223372036854775807) (hb:w.heap[b]?=some (.cells cells T (0,0)))
  (hV:∀(t:Value) (cs:Array Value) (o:Nat),V t (.agg cs) w->(∀j u,cs[j]?=some u->w.cell? ⟨b,o+j,none⟩=some u)->∃d,F d b o t)
  (hx:∀k t,ts[k]?=some t->∃cs:Array Value,V t (.agg cs) w/\∀j u,cs[j]?=some u->cells[k*sz+j]?=some u):∃d,Row sz (F d) (.slice (some ⟨b,0,none⟩) ts.length c) ts:=by
 obtain ⟨d,hd⟩:=GA (ts:=ts) (P:=fun d k t=>F d b (k*sz) t) (fun d e k t hde hp=>uW hF hde hp) ts.length fun k t _ hk=>by
  obtain ⟨cs,hv,hj⟩:=hx k t hk;exact hV t cs (k*sz) hv fun j u hu=>af hb _ u (hj j u hu)
 exact ⟨d,hn,.inr ⟨b,0,c,rfl,fun k t hk=>by rw [Nat.zero_add];exact hd k t (List.getElem?_eq_some_iff.1 hk).1 hk⟩⟩
section
variable {w0 w u u':World} {p:Nat} {L:List Tk} {vL:Value} {en:Int} {H:List Nat} {i j:Nat} {Bs:List Bk} {Ts:List (World->Prop)}
theorem KL (u:World) (o:Obj) {H:List Nat} {p:Nat} {w':World} (h:gV H p (u.alloc o) w'):gV H p u w':=fun k hk hp hn=>(h k (by simp;omega) hp hn).trans (((Below.refl _ u).alloc (Nat.le_refl _) o).block k hk)
theorem ST.ug (h:ST w0 p L vL en H w i Bs Ts u) {B:Nat} (hB:B<=u.heap.size) (cells:Array Value) (T:TypeId) (ts:List Value) (c:Nat) (hn:ts.length<=9223372036854775807) (hx:∀k t,ts[k]?=some t->∃cs:Array Value,aY B t (.agg cs) ∈ Ts/\∀j v,cs[j]?=some v->cells[k*7+j]?=some v) :
  ST w0 p L vL en H w i Bs (pG B (.slice (some ⟨u.heap.size,0,none⟩) ts.length c) ts :: Ts) (u.alloc (.cells cells T)) :=
 (h.on (dh u _)).add _ fun w' hw=>by
  have hb:w'.heap[u.heap.size]?=some (.cells cells T (0,0)):=by
   rw [hw _ (by simp) (by have:=h.pr.lt;omega) (fun hm=>by have:=h.mlt hm;omega)];exact heap_alloc_new _ _
  refine KJ (V:=aY B) dR.up hn hb (fun t cs o hv hc=>DZ hv hB hc) fun k t hk=>?_;obtain ⟨cs,hm,hj⟩:=hx k t hk;exact ⟨cs,h.gp _ hm w' (KL u _ hw),hj⟩
theorem ST.rowP (h:ST w0 p L vL en H w i Bs Ts u) {B:Nat} (hB:B<=u.heap.size) (cells:Array Value) (T:TypeId) (ts:List Value) (c:Nat) (hn:ts.length<=9223372036854775807) (hx:∀k t,ts[k]?=some t->∃cs:Array Value,cG B t (.agg cs) ∈ Ts/\∀j v,cs[j]?=some v->cells[k*5+j]?=some v) :
  ST w0 p L vL en H w i Bs (lC B (.slice (some ⟨u.heap.size,0,none⟩) ts.length c) ts :: Ts) (u.alloc (.cells cells T)) :=
 (h.on (dh u _)).add _ fun w' hw=>by
  have hb:w'.heap[u.heap.size]?=some (.cells cells T (0,0)):=by
   rw [hw _ (by simp) (by have:=h.pr.lt;omega) (fun hm=>by have:=h.mlt hm;omega)];exact heap_alloc_new _ _
  refine KJ (V:=cG B) cW.up hn hb (fun t cs o hv hc=>KM hv hB hc) fun k t hk=>?_;obtain ⟨cs,hm,hj⟩:=hx k t hk;exact ⟨cs,h.gp _ hm w' (KL u _ hw),hj⟩
theorem ST.abG (h:ST w0 p L vL en H w i Bs Ts u) {B:Nat} (hB:B<=u.heap.size) (cells:Array Value) (T:TypeId) (ts:List Value) (c:Nat) (hn:ts.length<=9223372036854775807) (hx:∀k t,ts[k]?=some t->∃cs:Array Value,fC B t (.agg cs) ∈ Ts/\∀j v,cs[j]?=some v->cells[k*4+j]?=some v) :
  ST w0 p L vL en H w i Bs (nU B (.slice (some ⟨u.heap.size,0,none⟩) ts.length c) ts :: Ts) (u.alloc (.cells cells T)) :=
 (h.on (dh u _)).add _ fun w' hw=>by
  have hb:w'.heap[u.heap.size]?=some (.cells cells T (0,0)):=by
   rw [hw _ (by simp) (by have:=h.pr.lt;omega) (fun hm=>by have:=h.mlt hm;omega)];exact heap_alloc_new _ _
  refine KJ (V:=fC B) eG.up hn hb (fun t cs o hv hc=>SC hv hB hc) fun k t hk=>?_;obtain ⟨cs,hm,hj⟩:=hx k t hk;exact ⟨cs,h.gp _ hm w' (KL u _ hw),hj⟩
theorem ST.Bg (h:ST w0 p L vL en H w i Bs Ts u) {B:Nat} {v z:Value} {es ps:List Value} (k:Int) (x y:ByteArray) (n a:Int) (he:pG B v es ∈ Ts) (hp:lC B z ps ∈ Ts):ST w0 p L vL en H w i Bs (aY B (nd k x y n es ps a) (.agg #[.int .i64 k,.string x,.string y,.int .i64 n,v,z,.int .i64 a]) :: Ts) u :=
 h.add _ fun w' hw=>Pz.Bg k x y n a (h.gp _ he w' hw) (h.gp _ hp w' hw)
theorem ST.yd (h:ST w0 p L vL en H w i Bs Ts u) {B:Nat} {v:Value} {es:List Value} (k:Int) (x y:ByteArray) (n a:Int) (he:pG B v es ∈ Ts):ST w0 p L vL en H w i Bs (aY B (nd k x y n es [] a) (.agg #[.int .i64 k,.string x,.string y,.int .i64 n,v,.slice none 0 0,.int .i64 a]) :: Ts) u :=
 h.add _ fun w' hw=>Pz.Bg k x y n a (h.gp _ he w' hw) (lC.nil _ _)
theorem ST.uL (h:ST w0 p L vL en H w i Bs Ts u) {B:Nat} (k:Int) (x:ByteArray) (n a:Int):ST w0 p L vL en H w i Bs (cG B (nd k x e0 n [] [] a) (.agg #[.int .i64 k,.string x,.int .i64 n,.slice none 0 0,.int .i64 a]) :: Ts) u :=
 h.add _ fun w' hw=>Pz.uL _ _ _ _ _ _
theorem ST.Gz (h:ST w0 p L vL en H w i Bs Ts u) {B:Nat} {v:Value} {es:List Value} (k:Int) (x:ByteArray) (n:Int) (he:nU B v es ∈ Ts):ST w0 p L vL en H w i Bs (fC B (nd k x e0 n es [] 0) (.agg #[.int .i64 k,.string x,.int .i64 n,v]) :: Ts) u :=
 h.add _ fun w' hw=>Pz.Gz k x n (h.gp _ he w' hw)
end
end Pz
end Go.Proofs.YtkdbgopgjbfhbaaGreatDoor
namespace Go.Proofs.YtkdbgopgjbfhbaaGreatDoor
open Go.RowKit Lx Pz
set_option linter.unusedVariables false
namespace Pz
def bX {α:Type} (E:Nat->Rd α):Prop:=∀i t j,E i=.ok (t,j)->i<j
section
variable {L:List Tk} {en:Int} {E T A:Nat->Rd Value}
theorem Cv {nx:Tk->Bool} (hA:bX A):∀(f i:Nat) (acc ts:List Value) (j:Nat),dE L en nx A f i acc=.ok (ts,j)->i<=j
 | 0,i,acc,ts,j,h=>by injection h with h;injection h with _ h;omega
 | f+1,i,acc,ts,j,h=>by
  rw [dE] at h;split at h
  ·cases h0:A i with
   | error z=>rw [h0] at h;cases h
   | ok r =>
    obtain ⟨e,k⟩:=r;rw [h0] at h
    have:=hA _ _ _ h0
    have:=Cv hA f k _ ts j h
    omega
  ·injection h with h;injection h with _ h;omega
theorem Iq (hE:bX E):bX (brk L en E):=by
 intro i t j h;unfold brk at h;cases h0:aX L en sL i with
 | error z=>rw [h0] at h;cases h
 | ok j0 =>
  have q0:=fL h0;rw [h0] at h;dsimp only at h;cases h1:E j0 with
  | error z=>rw [h1] at h;cases h
  | ok r1 =>
   obtain ⟨a1,j1⟩:=r1;have q1:=hE _ _ _ h1;rw [h1] at h;dsimp only at h;cases h2:aX L en sR j1 with
   | error z=>rw [h2] at h;cases h
   | ok j2 =>
    have q2:=fL h2;rw [h2] at h;dsimp only at h;injection h with h;injection h with _ h;omega
theorem EP (hE:bX E):bX (iQ L en E):=by
 intro i t j h;unfold iQ at h;split at h
 ·injection h with h;injection h with _ h;omega
 ·skip
  split at h
  ·injection h with h;injection h with _ h;omega
  ·exact Iq hE _ _ _ h
theorem Ir (hE:bX E):bX (jq L en E):=by
 intro i t j h;unfold jq at h;split at h
 ·injection h with h;injection h with _ h;omega
 ·skip
  split at h
  ·injection h with h;injection h with _ h;omega
  ·skip
   split at h
   ·injection h with h;injection h with _ h;omega
   ·skip
    split at h
    ·injection h with h;injection h with _ h;omega
    ·exact Iq hE _ _ _ h
theorem Ai (hE:bX E):bX (fI L en E):=by
 intro i t j h;unfold fI at h;split at h
 ·injection h with h;injection h with _ h;omega
 ·skip
  split at h
  ·injection h with h;injection h with _ h;omega
  ·skip
   split at h
   ·injection h with h;injection h with _ h;omega
   ·exact Iq hE _ _ _ h
theorem NZ (hE:bX E):bX (mg L en E):=by
 intro i t j h;unfold mg at h;cases h0:iQ L en E i with
 | error z=>rw [h0] at h;cases h
 | ok r =>
  obtain ⟨a,j0⟩:=r;have q0:=EP hE _ _ _ h0;rw [h0] at h;dsimp only at h;split at h
  ·cases h1:dE L en pX (iQ L en E) (L.length+1) j0 [] with
   | error z=>rw [h1] at h;cases h
   | ok r =>
    obtain ⟨a1,j1⟩:=r;have q1:=Cv (EP hE) _ _ _ _ _ h1;rw [h1] at h;injection h with h;injection h with _ h;omega
  ·injection h with h;injection h with _ h;omega
theorem Cw:∀f,bX (jr L en f)
 | 0=>fun i t j h=>by cases h
 | f+1=>fun i t j h=>by
  rw [jr] at h;cases h0:mg L en (jr L en f) i with
  | error z=>rw [h0] at h;cases h
  | ok r =>
   obtain ⟨a,j0⟩:=r;have q0:=NZ (Cw f) _ _ _ h0;rw [h0] at h;dsimp only at h;cases h1:aX L en jC j0 with
   | error z=>rw [h1] at h;injection h with h;injection h with _ h;omega
   | ok j1 =>
    rw [h1] at h;dsimp only at h;have q1:=fL h1;cases h2:jr L en f j1 with
    | error z=>rw [h2] at h;cases h
    | ok r =>
     obtain ⟨a2,j2⟩:=r;have q2:=Cw f _ _ _ h2;rw [h2] at h;injection h with h;injection h with _ h;omega
theorem Cy:∀f,bX (gD L en f)
 | 0=>fun i t j h=>by cases h
 | f+1=>fun i t j h=>by
  rw [gD] at h;split at h
  ·cases h1:dE L en qP (jq L en (gD L en f)) (L.length+1) (i+1) [] with
   | error z=>rw [h1] at h;cases h
   | ok r =>
    obtain ⟨a1,j1⟩:=r;have q1:=Cv (Ir (Cy f)) _ _ _ _ _ h1;rw [h1] at h;injection h with h;injection h with _ h;omega
  ·exact Ir (Cy f) _ _ _ h
theorem N7 (hE:bX E):∀(f i:Nat) (e t:Value) (j:Nat),lj L en E f i e=.ok (t,j)->i<=j
 | 0,i,e,t,j,h=>by injection h with h;injection h with _ h;omega
 | f+1,i,e,t,j,h=>by
  rw [lj] at h;split at h
  ·cases h0:fI L en E i with
   | error z=>rw [h0] at h;cases h
   | ok r =>
    obtain ⟨a,k⟩:=r;rw [h0] at h
    have:=Ai hE _ _ _ h0
    have:=N7 hE f k _ t j h
    omega
  ·injection h with h;injection h with _ h;omega
theorem Iu (hE:bX E):bX (jD L en E):=by
 intro i t j h;unfold jD at h;split at h
 ·cases h0:fI L en E (i+1) with
  | error z=>rw [h0] at h;cases h
  | ok r =>
   obtain ⟨a,k⟩:=r
   have:=Ai hE _ _ _ h0
   rw [h0] at h;injection h with h;injection h with _ h;omega
 ·split at h
  ·cases h1:dE L en oM (fI L en E) (L.length+1) (i+1) [] with
   | error z=>rw [h1] at h;cases h
   | ok r =>
    obtain ⟨a1,j1⟩:=r;have q1:=Cv (Ai hE) _ _ _ _ _ h1;rw [h1] at h;injection h with h;injection h with _ h;omega
  ·cases h0:fI L en E i with
   | error z=>rw [h0] at h;cases h
   | ok r =>
    obtain ⟨a,k⟩:=r
    have:=Ai hE _ _ _ h0
    rw [h0] at h
    have:=N7 hE _ _ _ _ _ h
    omega
theorem ER {sg:Tk->Bool} (hA:bX A):∀(f i:Nat) (e t:Value) (j:Nat),fw L en sg A f i e=.ok (t,j)->i<=j
 | 0,i,e,t,j,h=>by injection h with h;injection h with _ h;omega
 | f+1,i,e,t,j,h=>by
  rw [fw] at h;split at h
  ·cases h0:A (i+1) with
   | error z=>rw [h0] at h;cases h
   | ok r =>
    obtain ⟨a,k⟩:=r;rw [h0] at h
    have:=hA _ _ _ h0
    have:=ER hA f k _ t j h
    omega
  ·injection h with h;injection h with _ h;omega
theorem Iv (hE:bX E):bX (jE L en E):=by
 intro i t j h;unfold jE at h;cases h0:jD L en E i with
 | error z=>rw [h0] at h;cases h
 | ok r0 =>
  obtain ⟨a0,j0⟩:=r0;have q0:=Iu hE _ _ _ h0;rw [h0] at h;dsimp only at h
  have:=ER (Iu hE) _ _ _ _ _ h;omega
theorem Iw (hE:bX E):bX (jF L en E):=by
 intro i t j h;unfold jF at h;cases h0:jE L en E i with
 | error z=>rw [h0] at h;cases h
 | ok r0 =>
  obtain ⟨a0,j0⟩:=r0;have q0:=Iv hE _ _ _ h0;rw [h0] at h;dsimp only at h
  have:=ER (Iv hE) _ _ _ _ _ h;omega
theorem N8 (hE:bX E):bX (lS L en E):=by
 intro i t j h;unfold lS at h;cases h0:jF L en E i with
 | error z=>rw [h0] at h;cases h
 | ok r0 =>
  obtain ⟨a0,j0⟩:=r0;have q0:=Iw hE _ _ _ h0;rw [h0] at h;dsimp only at h
  have:=ER (Iw hE) _ _ _ _ _ h;omega
theorem Xf (hE:bX E):bX (mM L en E):=by
 intro i t j h;unfold mM at h;cases h0:lS L en E i with
 | error z=>rw [h0] at h;cases h
 | ok r =>
  obtain ⟨a,j0⟩:=r;have q0:=N8 hE _ _ _ h0;rw [h0] at h;dsimp only at h;cases h1:aX L en lI j0 with
  | error z=>rw [h1] at h;injection h with h;injection h with _ h;omega
  | ok j1 =>
   rw [h1] at h;dsimp only at h;have q1:=fL h1;cases h2:E j1 with
   | error z=>rw [h2] at h;cases h
   | ok r =>
    obtain ⟨a2,j2⟩:=r;have q2:=hE _ _ _ h2;rw [h2] at h;injection h with h;injection h with _ h;omega
theorem N9 (hE:bX E):bX (jW L en E):=by
 intro i t j h;unfold jW at h;cases h0:gD L en (L.length+1) i with
 | error z=>rw [h0] at h;cases h
 | ok r0 =>
  obtain ⟨a0,j0⟩:=r0;have q0:=Cy _ _ _ _ h0;rw [h0] at h;dsimp only at h;cases h1:aX L en jC j0 with
  | error z=>rw [h1] at h;cases h
  | ok j1 =>
   have q1:=fL h1;rw [h1] at h;dsimp only at h;cases h2:E j1 with
   | error z=>rw [h2] at h;cases h
   | ok r2 =>
    obtain ⟨a2,j2⟩:=r2;have q2:=hE _ _ _ h2;rw [h2] at h;dsimp only at h;injection h with h;injection h with _ h;omega
theorem Oa (hE:bX E):∀(f i:Nat) (ps es:List Value) (t:List Value × List Value) (j:Nat),kN L en E f i ps es=.ok (t,j)->i<=j
 | 0,i,ps,es,t,j,h=>by injection h with h;injection h with _ h;omega
 | f+1,i,ps,es,t,j,h=>by
  rw [kN] at h;cases h0:aX L en kZ i with
  | error z=>rw [h0] at h;injection h with h;injection h with _ h;omega
  | ok j0 =>
   have q0:=fL h0;rw [h0] at h;dsimp only at h;cases h1:jW L en E j0 with
   | error z=>rw [h1] at h;cases h
   | ok r =>
    obtain ⟨⟨a,b⟩,k⟩:=r;have q1:=N9 hE _ _ _ h1;rw [h1] at h
    have:=Oa hE f k _ _ t j h
    omega
theorem Xg (hE:bX E):bX (nO L en E):=by
 intro i t j h;unfold nO at h;cases h0:bM L en 1 (i+1) with
 | error z=>rw [h0] at h;cases h
 | ok r0 =>
  obtain ⟨a0,j0⟩:=r0;have q0:=lK h0;rw [h0] at h;dsimp only at h;cases h1:aX L en jC j0 with
  | error z=>rw [h1] at h;cases h
  | ok j1 =>
   have q1:=fL h1;rw [h1] at h;dsimp only at h;cases h2:E j1 with
   | error z=>rw [h2] at h;cases h
   | ok r2 =>
    obtain ⟨a2,j2⟩:=r2;have q2:=hE _ _ _ h2;rw [h2] at h;dsimp only at h;injection h with h;injection h with _ h;omega
theorem Ob (hE:bX E) (k:Int) (x y:ByteArray) (a:Int):bX (jX L en E k x y a):=by
 intro i t j h;unfold jX at h;cases h0:aX L en pQ i with
 | error z=>rw [h0] at h;cases h
 | ok j0 =>
  have q0:=fL h0;rw [h0] at h;dsimp only at h;cases h1:E j0 with
  | error z=>rw [h1] at h;cases h
  | ok r1 =>
   obtain ⟨a1,j1⟩:=r1;have q1:=hE _ _ _ h1;rw [h1] at h;dsimp only at h;cases h2:aX L en tZ j1 with
   | error z=>rw [h2] at h;cases h
   | ok j2 =>
    have q2:=fL h2;rw [h2] at h;dsimp only at h;cases h3:E j2 with
    | error z=>rw [h3] at h;cases h
    | ok r3 =>
     obtain ⟨a3,j3⟩:=r3;have q3:=hE _ _ _ h3;rw [h3] at h;dsimp only at h;injection h with h;injection h with _ h;omega
theorem Xh (hE:bX E):bX (nP L en E):=by
 intro i t j h;unfold nP at h;cases h9:aX L en ub (i+1) with
 | error z =>
  rw [h9] at h;dsimp only at h;cases h0:bM L en 1 (i+1) with
  | error z=>rw [h0] at h;cases h
  | ok r0 =>
   obtain ⟨a0,j0⟩:=r0;have q0:=lK h0;rw [h0] at h;dsimp only at h
   have:=Ob hE _ _ _ _ _ _ _ h;omega
 | ok j9 =>
  have q9:=fL h9;rw [h9] at h;dsimp only at h;cases h0:bM L en 1 j9 with
  | error z=>rw [h0] at h;cases h
  | ok r0 =>
   obtain ⟨a0,j0⟩:=r0;have q0:=lK h0;rw [h0] at h;dsimp only at h;cases h1:bM L en 1 j0 with
   | error z=>rw [h1] at h;cases h
   | ok r1 =>
    obtain ⟨a1,j1⟩:=r1;have q1:=lK h1;rw [h1] at h;dsimp only at h
    have:=Ob hE _ _ _ _ _ _ _ h;omega
theorem Xi (hE:bX E):bX (nQ L en E):=by
 intro i t j h;unfold nQ at h;cases h0:E (i+1) with
 | error z=>rw [h0] at h;cases h
 | ok r0 =>
  obtain ⟨a0,j0⟩:=r0;have q0:=hE _ _ _ h0;rw [h0] at h;dsimp only at h;cases h1:aX L en Aj j0 with
  | error z=>rw [h1] at h;cases h
  | ok j1 =>
   have q1:=fL h1;rw [h1] at h;dsimp only at h;cases h2:E j1 with
   | error z=>rw [h2] at h;cases h
   | ok r2 =>
    obtain ⟨a2,j2⟩:=r2;have q2:=hE _ _ _ h2;rw [h2] at h;dsimp only at h;cases h3:aX L en Ak j2 with
    | error z=>rw [h3] at h;cases h
    | ok j3 =>
     have q3:=fL h3;rw [h3] at h;dsimp only at h;cases h4:E j3 with
     | error z=>rw [h4] at h;cases h
     | ok r4 =>
      obtain ⟨a4,j4⟩:=r4;have q4:=hE _ _ _ h4;rw [h4] at h;dsimp only at h;injection h with h;injection h with _ h;omega
theorem Xj (hE:bX E):bX (mN L en E):=by
 intro i t j h;unfold mN at h;cases h0:E (i+1) with
 | error z=>rw [h0] at h;cases h
 | ok r0 =>
  obtain ⟨a0,j0⟩:=r0;have q0:=hE _ _ _ h0;rw [h0] at h;dsimp only at h;cases h1:aX L en Al j0 with
  | error z=>rw [h1] at h;cases h
  | ok j1 =>
   have q1:=fL h1;rw [h1] at h;dsimp only at h;cases h2:jW L en E j1 with
   | error z=>rw [h2] at h;cases h
   | ok r2 =>
    obtain ⟨⟨a2,b2⟩,j2⟩:=r2;have q2:=N9 hE _ _ _ h2;rw [h2] at h;dsimp only at h;cases h3:kN L en E (L.length+1) j2 [a2] [a0,b2] with
    | error z=>rw [h3] at h;cases h
    | ok r3 =>
     obtain ⟨⟨a3,b3⟩,j3⟩:=r3;have q3:=Oa hE _ _ _ _ _ _ h3;rw [h3] at h;dsimp only at h;cases h4:aX L en xZ j3 with
     | error z=>rw [h4] at h;cases h
     | ok j4 =>
      have q4:=fL h4;rw [h4] at h;dsimp only at h;injection h with h;injection h with _ h;omega
theorem yc:∀f,bX (fR L en f)
 | 0=>fun i t j h=>by cases h
 | f+1=>fun i t j h=>by
  rw [fR] at h;split at h
  ·exact Xg (yc f) _ _ _ h
  ·split at h
   ·exact Xh (yc f) _ _ _ h
   ·split at h
    ·exact Xi (yc f) _ _ _ h
    ·split at h
     ·exact Xj (yc f) _ _ _ h
     ·exact Xf (yc f) _ _ _ h
theorem Iy:bX (iR L en):=by
 intro i t j h;unfold iR at h;cases h0:bM L en 2 i with
 | error z=>rw [h0] at h;cases h
 | ok r0 =>
  obtain ⟨a0,j0⟩:=r0;have q0:=lK h0;rw [h0] at h;dsimp only at h;cases h1:dE L en pX (iQ L en (jr L en (L.length+1))) (L.length+1) j0 [] with
  | error z=>rw [h1] at h;cases h
  | ok r1 =>
   obtain ⟨a1,j1⟩:=r1;have q1:=Cv (EP (Cw _)) _ _ _ _ _ h1;rw [h1] at h;dsimp only at h;injection h with h;injection h with _ h;omega
theorem Oc:∀(f i:Nat) (acc:List ByteArray),i<=(jT L en f i acc).2
 | 0,i,acc=>Nat.le_refl _
 | f+1,i,acc=>by
  rw [jT];split
  ·have:=Oc f (i+1) (acc++[(tk L en i).x]);omega
  ·exact Nat.le_refl _
theorem Od:∀(f i:Nat) (acc cs:List Value) (j:Nat),jY L en f i acc=.ok (cs,j)->i<=j
 | 0,i,acc,cs,j,h=>by injection h with h;injection h with _ h;omega
 | f+1,i,acc,cs,j,h=>by
  rw [jY] at h;cases h0:aX L en kZ i with
  | error z=>rw [h0] at h;injection h with h;injection h with _ h;omega
  | ok j0 =>
   have q0:=fL h0;rw [h0] at h;dsimp only at h;cases h1:iR L en j0 with
   | error z=>rw [h1] at h;cases h
   | ok r =>
    obtain ⟨a,k⟩:=r;have q1:=Iy _ _ _ h1;rw [h1] at h
    have:=Od f k _ cs j h
    omega
theorem Xk:bX (mO L en):=by
 intro i t j h;unfold mO at h;cases h0:bM L en 1 (i+1) with
 | error z=>rw [h0] at h;cases h
 | ok r0 =>
  obtain ⟨a0,j0⟩:=r0;have q0:=lK h0;rw [h0] at h;dsimp only at h;cases h1:aX L en pQ (jT L en (L.length+1) j0 []).2 with
  | error z=>rw [h1] at h;cases h
  | ok j1 =>
   have q1:=fL h1;rw [h1] at h;dsimp only at h;cases h2:iR L en j1 with
   | error z=>rw [h2] at h;cases h
   | ok r2 =>
    obtain ⟨a2,j2⟩:=r2;have q2:=Iy _ _ _ h2;rw [h2] at h;dsimp only at h;cases h3:jY L en (L.length+1) j2 [a2] with
    | error z=>rw [h3] at h;cases h
    | ok r3 =>
     obtain ⟨a3,j3⟩:=r3;have q3:=Od _ _ _ _ _ h3;rw [h3] at h;dsimp only at h;cases h4:aX L en lI j3 with
     | error z=>rw [h4] at h;cases h
     | ok j4 =>
      have q4:=fL h4;rw [h4] at h;dsimp only at h
      have:=Oc (L:=L) (en:=en) (L.length+1) j0 [];injection h with h;injection h with _ h;omega
end
end Pz
end Go.Proofs.YtkdbgopgjbfhbaaGreatDoor

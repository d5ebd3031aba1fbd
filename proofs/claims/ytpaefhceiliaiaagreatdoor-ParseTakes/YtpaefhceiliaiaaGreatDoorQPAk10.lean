/- Texts that the claim needs. -/
import Derived.Test.YtpaefhceiliaiaaGreatDoorQPAk9
import Derived.Test.YtpaefhceiliaiaaGreatDoorQPAk8
namespace Go.Proofs.YtpaefhceiliaiaaGreatDoor
open Go.RowKit Lx Pz bB
set_option linter.unusedVariables false
set_option maxRecDepth 100000
set_option maxHeartbeats 8000000
theorem aaC (w0:World) (p:Nat) (L:List Tk) (vL:Value) (en:Int) (i:Nat) (E:Nat->Rd Value) (HE:∀j u,i<j->PR w0 p L vL en j u->Calls Tryz.prog 240 #[.pointer (some ⟨p,0,none⟩)] u (Rp w0 p L vL en (aU u.heap.size) u (E j))) (w:World) (h:PR w0 p L vL en i w) :
  Calls Tryz.prog 235 #[.pointer (some ⟨p,0,none⟩)] w (Rp w0 p L vL en (aU w.heap.size) w (match bb L en iy i with | .error z=>.error z | .ok j=>match E j with | .error z=>.error z | .ok (e,j)=>.ok (nd 10 e0 e0 0 [e] [] (tk L en i).a,j))):=by
 have HA:=ae (AP.start h 27 bG);have HM:=ae (fZ w0 p L vL en i iy _ HA.out.pr);obtain ⟨aj,aW⟩:∃X,X=(match bb L en iy i with | .error z=>.error z | .ok j=>match E j with | .error z=>.error z | .ok (e,j)=>.ok (nd 10 e0 e0 0 [e] [] (tk L en i).a,j):Rd Value):=⟨_,rfl⟩
 rw [<- aW];have bM:=ae aW;have cB:=ae HE;clear h aW HE;go_enter Tryz.func235,Tryz.ntmps235;go_wp2_with fail;refine Calls.mono (show Calls _ _ _ _ _ from HM.out) ?_;intro e u hr;cases hR:bb L en iy i with
 | error z =>
  obtain ⟨rfl,hb⟩:=bw hr (dH hR);have HB:=ae hb;have ax:Hid (aj=.error z):=ae (by have hq:=bM.out;rw [hR] at hq;exact hq);clear hb HM hR bM hr;go_wp2;exact ⟨rfl,bq ax.out HB.out⟩
 | ok j =>
  obtain ⟨⟨v,rfl,hv⟩,hp,hbt⟩:=bh hr (dH hR);subst hv;have aB:=ae (HA.out.call hp hbt);have gX:=ae (cB.out j u (eX hR) hp);have ba:Hid (aj=(match E j with | .error z=>.error z | .ok (e,j)=>.ok (nd 10 e0 e0 0 [e] [] (tk L en i).a,j))):=ae (by have hq:=bM.out;rw [hR] at hq;exact hq)
  clear hp hbt HM HA hR hr bM cB;generalize (tk L en i).a=at' at *;go_wp2_with fail;refine Calls.mono (show Calls _ _ _ _ _ from gX.out) ?_;intro e u5 hr;cases hR:E j with
  | error z =>
   obtain ⟨rfl,hb⟩:=bw hr hR;have HB:=ae hb;have ax:Hid (aj=.error z):=ae (by have hq:=ba.out;rw [hR] at hq;exact hq);clear hb hr hR gX ba;go_wp2;exact ⟨rfl,bq ax.out HB.out⟩
  | ok r =>
   obtain ⟨tr,k⟩:=r;obtain ⟨⟨v,rfl,hv0⟩,hp,hbt⟩:=bh hr hR;obtain ⟨vk,vx,vy,vn,vu,vz,va,hv,o1,o2⟩:=hv0.val;subst hv;have bH:=aB.out.lt;have bn:Hid (aj=.ok (nd 10 e0 e0 0 [tr] [] at',k)):=ae (by have hq:=ba.out;rw [hR] at hq;exact hq);have hsz:=hbt.size;have cO:=ae (aB.out.call hp hbt);obtain ⟨u6,KU⟩:∃u6,u6=u5.alloc (.cells #[.int .i64 vk,.string vx,.string vy,.int .i64 vn,vu,vz,.int .i64 va] 27):=⟨_,rfl⟩;have gp:Below u5.heap.size u5 u6:=by rw [KU];exact bO u5 _
   have jc:u6.heap[u5.heap.size]?=some (.cells #[.int .i64 vk,.string vx,.string vy,.int .i64 vn,vu,vz,.int .i64 va] 27 (0,0)):=by rw [KU];exact heap_alloc_new _ _
   have kI:=ae (cO.out.on gp);have S5:=hv0.on (bS.of gp) (Nat.le_refl _);obtain ⟨W,hW,hth,hbk,hpr,aO,hab⟩:=kI.out.put #[.int .i64 10,.string e0,.string e0,.int .i64 0,.slice (some ⟨u5.heap.size,0,none⟩) 1 1,.slice none 0 0,.int .i64 at'] rfl
   have HV:Hid (aU w.heap.size (nd 10 e0 e0 0 [tr] [] at') (.agg #[.int .i64 10,.string e0,.string e0,.int .i64 0,.slice (some ⟨u5.heap.size,0,none⟩) 1 1,.slice none 0 0,.int .i64 at']) W):=ae (by
    obtain ⟨d,hd⟩:=ES (B:=u.heap.size) (b:=u5.heap.size) (o:=0) S5 hsz (fun j u hj=>af jc _ u (by rw [Nat.zero_add];exact hj));have hd2:=dm.lo (q:=w.heap.size) (by omega) d _ _ _ (dm.but (hab.lo (by omega)) d _ _ _ hd);refine ⟨d,10,e0,e0,0,[tr],[],at',_,_,rfl,rfl,⟨by simp,.inr ⟨u5.heap.size,0,1,rfl,fun i x hx=>?_⟩⟩,vV _ _⟩
    match i,hx with
    | 0,hx=>injection hx with hx;subst hx;exact hd2
    | i+1,hx=>simp at hx)
   have HW:=ae hW;have ay:=ae hth;have ai:=ae hbk;have HF:=ae (And.intro hpr aO);have S9:=ae KU;clear hW hth hbk hpr aO hab S5 jc gp hp hbt hr hv0 hR ba gX cO kI aB;go_wp2_with (refine wpList_store_mid rfl 27 (.tmp 2) (.tmp 10) rfl w.heap.size 0 #[.int .i64 10,.string e0,.string e0,.int .i64 0,.slice (some ⟨u5.heap.size,0,none⟩) 1 1,.slice none 0 0,.int .i64 at'] rfl rfl (by rw [<- S9.out];exact ay.out) bZ (by simp [Value.oneCell']) ?_;rw [<- S9.out,HW.out]);have z0:=af ai.out 0 _ rfl;have z1:=af ai.out 1 _ rfl;have z2:=af ai.out 2 _ rfl;have z3:=af ai.out 3 _ rfl;have z4:=af ai.out 4 _ rfl;have z5:=af ai.out 5 _ rfl;have z6:=af ai.out 6 _ rfl;refine bodyPost_ret (v:=.agg #[.int .i64 10,.string e0,.string e0,.int .i64 0,.slice (some ⟨u5.heap.size,0,none⟩) 1 1,.slice none 0 0,.int .i64 at']) (by simp [results,Tryz.results235,go_sem,z0,z1,z2,z3,z4,z5,z6]) rfl (ck bn.out HV.out HF.out.1 HF.out.2)
namespace Pz
def fU (H:List Nat) (p:Nat) (u w':World):Prop:=∀k,k<u.heap.size->k≠p->k ∉ H->w'.heap[k]?=u.heap[k]?
theorem fU.refl (H:List Nat) (p:Nat) (u:World):fU H p u u:=fun _ _ _ _=>rfl
theorem fU.more {H H':List Nat} {p:Nat} {u w':World} (h:fU H p u w') (hs:∀k ∈ H,k ∈ H'):fU H' p u w':=fun k hk hp hn=>h k hk hp fun hm=>hn (hs k hm)
abbrev Bk:=Nat × Array Value × TypeId
structure ST (w0:World) (p:Nat) (L:List Tk) (vL:Value) (en:Int) (H:List Nat) (w:World) (i:Nat) (Bs:List Bk) (Ts:List (World->Prop)) (u:World):Prop where
 pr:PR w0 p L vL en i u
 but:But p w u
 dP:p<w.heap.size
 hlt:∀k ∈ H,k<u.heap.size
 blk:∀x ∈ Bs,u.heap[x.1]?=some (.cells x.2.1 x.2.2 (0,0))/\w.heap.size<=x.1
 mU:(Bs.map (·.1)).Nodup
 fE:∀F ∈ Ts,∀w',fU (H++Bs.map (·.1)) p u w'->F w'
section
variable {w0 w u u':World} {p:Nat} {L:List Tk} {vL:Value} {en:Int} {H:List Nat} {i j:Nat} {Bs:List Bk} {Ts:List (World->Prop)}
theorem ST.start (h:PR w0 p L vL en i w) (hH:∀k ∈ H,k<w.heap.size) (hT:∀F ∈ Ts,∀w',fU H p w w'->F w'):ST w0 p L vL en H w i [] Ts w :=
 ⟨h,But.refl _ _,h.lt,hH,fun x hx=>(by cases hx),(by simp),fun F hF w' hw=>hT F hF w' (by simpa using hw)⟩
theorem ST.lY (h:PR w0 p L vL en i w):ST w0 p L vL en [] w i [] [] w:=ST.start h (fun k hk=>by cases hk) (fun F hF=>by cases hF)
theorem ST.blt (h:ST w0 p L vL en H w i Bs Ts u) {x:Bk} (hx:x ∈ Bs):x.1<u.heap.size:=(Array.getElem?_eq_some_iff.1 (h.blk x hx).1).1
theorem ST.mlt (h:ST w0 p L vL en H w i Bs Ts u) {k:Nat} (hk:k ∈ H++Bs.map (·.1)):k<u.heap.size:=by
 rcases List.mem_append.1 hk with h1|h1
 ·exact h.hlt k h1
 ·obtain ⟨x,hx,rfl⟩:=List.mem_map.1 h1;exact h.blt hx
theorem ST.D9 (h:ST w0 p L vL en H w i Bs Ts u) {x:Bk} (hx:x ∈ Bs):x.1≠p:=by
 have:=(h.blk x hx).2;have:=h.dP;omega
theorem ST.on (h : ST w0 p L vL en H w i Bs Ts u) (hb : Below u.heap.size u u') : ST w0 p L vL en H w i Bs Ts u' :=
  ⟨h.pr.on hb, h.but.trans (But.of p hb), h.dP, fun k hk => Nat.lt_of_lt_of_le (h.hlt k hk) hb.size, fun x hx => ⟨by rw [hb.block _ (h.blt hx)]; exact (h.blk x hx).1, (h.blk x hx).2⟩, h.mU,
   fun F hF w' hw => h.fE F hF w' fun k hk hp hn => (hw k (Nat.lt_of_lt_of_le hk hb.size) hp hn).trans (hb.block k hk)⟩
theorem ST.call (h : ST w0 p L vL en H w i Bs Ts u) (h1 : PR w0 p L vL en j u') (h2 : But p u u') : ST w0 p L vL en H w j Bs Ts u' :=
  ⟨h1, h.but.trans h2, h.dP, fun k hk => Nat.lt_of_lt_of_le (h.hlt k hk) h2.size, fun x hx => ⟨by rw [h2.block _ (h.blt hx) (h.D9 hx)]; exact (h.blk x hx).1, (h.blk x hx).2⟩, h.mU,
   fun F hF w' hw => h.fE F hF w' fun k hk hp hn => (hw k (Nat.lt_of_lt_of_le hk h2.size) hp hn).trans (h2.block k hk hp)⟩
theorem ST.new (h:ST w0 p L vL en H w i Bs Ts u) (cs:Array Value) (T:TypeId):ST w0 p L vL en H w i (Bs++[(u.heap.size,cs,T)]) Ts (u.alloc (.cells cs T)):=by
 have hb:Below u.heap.size u (u.alloc (.cells cs T)):=(Below.refl _ u).alloc (Nat.le_refl _) _;have h1:=h.on hb;refine ⟨h1.pr,h1.but,h.dP,h1.hlt,fun x hx=>?_,?_,fun F hF w' hw=>?_⟩
 ·rcases List.mem_append.1 hx with h2|h2
  ·exact h1.blk x h2
  ·rw [List.mem_singleton.1 h2];exact ⟨heap_alloc_new _ _,h.but.size⟩
 ·rw [List.map_append,List.nodup_append];refine ⟨h.mU,by simp,fun a ha b hb=>?_⟩;have hb':b=u.heap.size:=by simpa using hb
  have:=h.mlt (List.mem_append_right H ha)
  omega
 ·refine h.fE F hF w' fun k hk hp hn=>(hw k (Nat.lt_of_lt_of_le hk hb.size) hp fun hm=>?_).trans (hb.block k hk);rcases List.mem_append.1 hm with h2|h2
  ·exact hn (List.mem_append_left _ h2)
  ·rw [List.map_append] at h2;rcases List.mem_append.1 h2 with h3|h3
   ·exact hn (List.mem_append_right _ h3)
   ·have:k=u.heap.size:=by simpa using h3
    omega
theorem Qe {l:List Bk} {k:Nat} {x y:Bk} (hk:l[k]?=some x) (he:y.1=x.1):(l.set k y).map (·.1)=l.map (·.1):=by
 apply List.ext_getElem?;intro m;rw [List.getElem?_map,List.getElem?_map,List.getElem?_set];split
 ·rename_i hm;subst hm;rw [hk];split
  ·simp [he]
  ·rename_i hn;exact absurd (List.getElem?_eq_some_iff.1 hk).1 hn
 ·rfl
theorem ZA {l:List Bk} (hn:(l.map (·.1)).Nodup) {k:Nat} {x y z:Bk} (hk:l[k]?=some x) (hz:z ∈ l.set k y):z=y\/(z ∈ l/\z.1≠x.1):=by
 obtain ⟨m,hm⟩:=List.getElem?_of_mem hz;rw [List.getElem?_set] at hm;split at hm
 ·split at hm
  ·injection hm with hm;exact .inl hm.symm
  ·cases hm
 ·rename_i hne;refine .inr ⟨List.mem_of_getElem? hm,fun e=>hne ?_⟩;have a1:=(List.getElem?_eq_some_iff.1 hk);have a2:=(List.getElem?_eq_some_iff.1 hm);obtain ⟨k1,k2⟩:=a1;obtain ⟨m1,m2⟩:=a2;have hp:=List.pairwise_iff_getElem.1 hn;have q1:(l.map (·.1))[k]'(by simpa using k1)=x.1:=by simp [k2]
  have q2:(l.map (·.1))[m]'(by simpa using m1)=z.1:=by simp [m2]
  rcases Nat.lt_trichotomy k m with h|h|h
  ·exact absurd (by rw [q1,q2,e]) (hp k m (by simpa using k1) (by simpa using m1) h)
  ·exact h
  ·exact absurd (by rw [q1,q2,e]) (hp m k (by simpa using m1) (by simpa using k1) h)
theorem ST.wrote (h:ST w0 p L vL en H w i Bs Ts u) {k:Nat} {b:Nat} {cs vs:Array Value} {T:TypeId} (hk:Bs[k]?=some (b,cs,T)) (hb:Below b u u') (hbb:∀m,m≠b->u'.heap[m]?=u.heap[m]?) (hv:u'.heap[b]?=some (.cells vs T (0,0))) (hs:u.heap.size<=u'.heap.size):ST w0 p L vL en H w i (Bs.set k (b,vs,T)) Ts u':=by
 have hx:=List.mem_of_getElem? hk;have hwb:w.heap.size<=b:=(h.blk _ hx).2;have hpb:p≠b:=by have:=h.dP;omega
 refine ⟨⟨h.pr.below.trans (hb.mono (by have:=h.pr.base;have:=h.dP;omega)),h.pr.base,by rw [hbb p hpb];exact h.pr.blk,h.pr.le,?_,h.pr.few,h.pr.pK⟩,?_,h.dP,fun k hk=>Nat.lt_of_lt_of_le (h.hlt k hk) hs,fun x hx=>?_,(by rw [Qe (y:=(b,vs,T)) hk rfl];exact h.mU),fun F hF w' hw=>?_⟩
 ·rcases h.pr.toks with h1|⟨g,c,h1,h2⟩
  ·exact .inl h1
  ·refine .inr ⟨g,c,h1,fun a t ha b' v hv'=>?_⟩;have hc:=h2 a t ha b' v hv';have hg:g≠b:=by have:=h.pr.pK g 0 _ c h1;have:=h.dP;omega
   unfold World.cell? at hc ⊢;rw [hbb g hg];exact hc
 ·exact ⟨hb.os.trans h.but.os,hb.tape.trans h.but.tape,hb.output.trans h.but.output,Nat.le_trans h.but.size hs,fun m hm hp=>by rw [hbb m (by omega)];exact h.but.block m hm hp⟩
 ·rcases ZA h.mU hk hx with rfl|⟨h1,h2⟩
  ·exact ⟨hv,hwb⟩
  ·exact ⟨by rw [hbb _ h2];exact (h.blk x h1).1,(h.blk x h1).2⟩
 ·rw [Qe (y:=(b,vs,T)) hk rfl] at hw;refine h.fE F hF w' fun m hm hp hn=>(hw m (Nat.lt_of_lt_of_le hm hs) hp hn).trans (hbb m fun e=>hn ?_);subst e;exact List.mem_append_right _ (List.mem_map.2 ⟨_,hx,rfl⟩)
theorem ST.at_ (h:ST w0 p L vL en H w i Bs Ts u) {k:Nat} {b:Nat} {cs:Array Value} {T:TypeId} (hk:Bs[k]?=some (b,cs,T)):u.heap[b]?=some (.cells cs T (0,0)):=(h.blk _ (List.mem_of_getElem? hk)).1
theorem ST.cell (h:ST w0 p L vL en H w i Bs Ts u) (k:Nat) {b:Nat} {cs:Array Value} {T:TypeId} (hk:Bs[k]?=some (b,cs,T)) (o:Nat) {v:Value} (hv:cs[o]?=some v):u.cell? ⟨b,o,none⟩=some v:=af (h.at_ hk) o v hv
theorem ST.iD (h:ST w0 p L vL en H w i Bs Ts u) (k:Nat) {b:Nat} {cs:Array Value} {T:TypeId} (hk:Bs[k]?=some (b,cs,T)) (o:Nat):u.frozen? ⟨b,o,none⟩=false:=by
 unfold World.frozen?;rw [h.at_ hk];simp
theorem ST.put (h:ST w0 p L vL en H w i Bs Ts u) (k:Nat) {b:Nat} {cs:Array Value} {T:TypeId} (hk:Bs[k]?=some (b,cs,T)) (vs:Array Value) (hz:cs.size=vs.size) :
  ∃W,u.setCells b 0 vs.toList=W/\u.there b 0 vs.size/\ST w0 p L vL en H w i (Bs.set k (b,vs,T)) Ts W:=by
 have hb:=h.at_ hk;exact ⟨_,rfl,by have:=Au hb;rw [hz] at this;exact this,h.wrote hk (nC b b (Nat.le_refl _) vs.toList 0 u u (Below.refl _ u)) (fun m hm=>uI b m hm vs.toList 0 u) (Av hb hz) (nC 0 b (Nat.zero_le _) vs.toList 0 u u (Below.refl _ u)).size⟩
theorem ST.set (h:ST w0 p L vL en H w i Bs Ts u) (k:Nat) {b:Nat} {cs:Array Value} {T:TypeId} (hk:Bs[k]?=some (b,cs,T)) (o:Nat) (v:Value) :
  ∃W,u.setCell ⟨b,o,none⟩ v=W/\ST w0 p L vL en H w i (Bs.set k (b,cs.setIfInBounds o v,T)) Ts W:=by
 have hb:=h.at_ hk;exact ⟨_,rfl,h.wrote hk ((Below.refl b u).setCell (Nat.le_refl b) _) (fun m hm=>Below.heap_setCell u ⟨b,o,none⟩ v m hm) (heap_setCell_same u b o cs T v hb) (by simp)⟩
theorem ST.ju (h:ST w0 p L vL en H w i Bs Ts u) (T:TypeId) (z vs:Array Value) (hz:z.size=vs.size) :
  ∃W,(u.alloc (.cells z T)).setCells u.heap.size 0 vs.toList=W/\(u.alloc (.cells z T)).there u.heap.size 0 vs.size/\ST w0 p L vL en H w i (Bs++[(u.heap.size,vs,T)]) Ts W:=by
 obtain ⟨W,h1,h2,h3⟩:=(h.new z T).put Bs.length (b:=u.heap.size) (cs:=z) (T:=T) (by rw [List.getElem?_append_right (Nat.le_refl _)];simp) vs hz;refine ⟨W,h1,h2,?_⟩;rw [List.set_append_right _ _ (Nat.le_refl _)] at h3;simpa using h3
theorem ST.set' (h:ST w0 p L vL en H w i Bs Ts u) (k:Nat) {b:Nat} {cs:Array Value} {T:TypeId} (hk:Bs[k]?=some (b,cs,T)) (o:Nat) (v:Value):ST w0 p L vL en H w i (Bs.set k (b,cs.setIfInBounds o v,T)) Ts (u.setCell ⟨b,o,none⟩ v):=by
 obtain ⟨W,h1,h2⟩:=h.set k hk o v;rw [h1];exact h2
theorem ST.add (h:ST w0 p L vL en H w i Bs Ts u) (F:World->Prop) (hF:∀w',fU (H++Bs.map (·.1)) p u w'->F w'):ST w0 p L vL en H w i Bs (F :: Ts) u :=
 ⟨h.pr,h.but,h.dP,h.hlt,h.blk,h.mU,fun G hG=>by
  rcases List.mem_cons.1 hG with rfl|hG
  ·exact hF
  ·exact h.fE G hG⟩
theorem ST.drop (h:ST w0 p L vL en H w i Bs Ts u) {Ts':List (World->Prop)} (hT:∀F ∈ Ts',F ∈ Ts):ST w0 p L vL en H w i Bs Ts' u :=
 ⟨h.pr,h.but,h.dP,h.hlt,h.blk,h.mU,fun G hG=>h.fE G (hT G hG)⟩
theorem ST.out (h:ST w0 p L vL en H w i Bs Ts u) {F:World->Prop} (hF:F ∈ Ts):F u:=h.fE F hF u (fU.refl _ _ _)
theorem ST.newer {w9:World} (h:ST w0 p L vL en H w i Bs Ts u) (hw:fU (H++Bs.map (·.1)) p u' w9):bS u.heap.size u' w9:=fun k hk hl =>
 hw k hl (by have:=h.pr.lt;omega) fun hm=>by have:=h.mlt hm;omega
theorem ST.iX (h:ST w0 p L vL en H w i Bs Ts u) {t v:Value} {B:Nat} (hB:B<=u.heap.size) (h1:PR w0 p L vL en j u') (h2:But p u u') (hv:aU u.heap.size t v u'):ST w0 p L vL en H w j Bs (aU B t v :: Ts) u' :=
 (h.call h1 h2).add _ fun w' hw=>hv.on (h.newer hw) hB
theorem ST.ZB (h:ST w0 p L vL en H w i Bs Ts u) {t v:Value} {B:Nat} (hB:B<=u.heap.size) (h1:PR w0 p L vL en j u') (h2:But p u u') (hv:bU u.heap.size t v u'):ST w0 p L vL en H w j Bs (bU B t v :: Ts) u' :=
 (h.call h1 h2).add _ fun w' hw=>hv.on (h.newer hw) hB
theorem ST.BV (h:ST w0 p L vL en H w i Bs Ts u) {t v:Value} {B:Nat} (hB:B<=u.heap.size) (h1:PR w0 p L vL en j u') (h2:But p u u') (hv:dX u.heap.size t v u'):ST w0 p L vL en H w j Bs (dX B t v :: Ts) u' :=
 (h.call h1 h2).add _ fun w' hw=>hv.on (h.newer hw) hB
end
theorem aU.at_ {B:Nat} {t:Value} {w:World} {k:Int} {x y:ByteArray} {n:Int} {u z:Value} {a:Int} (h:aU B t (.agg #[.int .i64 k,.string x,.string y,.int .i64 n,u,z,.int .i64 a]) w):iW t=a:=by
 obtain ⟨d,k',x',y',n',es,ps,a',u',z',h0,h1,_⟩:=h;subst h0;rw [ZC];injection h1 with h1
 have:=congrArg (fun l:Array Value=>l[6]?) h1
 simpa using this.symm
def qZ (B:Nat) (v:Value) (ts:List Value) (w:World):Prop:=∃d,Row 7 (dm B w d) v ts
def lg (B:Nat) (v:Value) (ts:List Value) (w:World):Prop:=∃d,Row 5 (cf B w d) v ts
def ou (B:Nat) (v:Value) (ts:List Value) (w:World):Prop:=∃d,Row 4 (dN B w d) v ts
theorem qZ.nil (B:Nat) (w:World):qZ B (.slice none 0 0) [] w:=⟨0,vV _ _⟩
theorem lg.nil (B:Nat) (w:World):lg B (.slice none 0 0) [] w:=⟨0,vV _ _⟩
theorem ou.nil (B:Nat) (w:World):ou B (.slice none 0 0) [] w:=⟨0,vV _ _⟩
theorem yR {B:Nat} {w:World} {v z:Value} {es ps:List Value} (k:Int) (x y:ByteArray) (n a:Int) (he:qZ B v es w) (hp:lg B z ps w):aU B (nd k x y n es ps a) (.agg #[.int .i64 k,.string x,.string y,.int .i64 n,v,z,.int .i64 a]) w:=by
 obtain ⟨d,hd⟩:=he;obtain ⟨d',hd'⟩:=hp;exact ⟨d+d',k,x,y,n,es,ps,a,v,z,rfl,rfl,hd.imp fun b o t _ h=>tO (F:=dm B w) dm.up (Nat.le_add_right _ _) h,hd'.imp fun b o t _ h=>tO (F:=cf B w) cf.up (Nat.le_add_left _ _) h⟩
theorem EP {B:Nat} {w:World} {v:Value} {es:List Value} (k:Int) (x:ByteArray) (n:Int) (he:ou B v es w):dX B (nd k x e0 n es [] 0) (.agg #[.int .i64 k,.string x,.int .i64 n,v]) w:=by
 obtain ⟨d,hd⟩:=he;exact ⟨d,k,x,n,es,v,rfl,rfl,hd⟩
theorem Jd {F:Nat->Nat->Nat->Value->Prop} (hF:∀d b o t,F d b o t->F (d+1) b o t) {V:Value->Value->World->Prop} {w:World} {b sz c:Nat} {T:TypeId} {cells:Array Value} {ts:List Value} (hn:ts.length<=9223372036854775807) (hb:w.heap[b]?=some (.cells cells T (0,0)))
  (hV:∀(t:Value) (cs:Array Value) (o:Nat),V t (.agg cs) w->(∀j u,cs[j]?=some u->w.cell? ⟨b,o+j,none⟩=some u)->∃d,F d b o t)
  (hx:∀k t,ts[k]?=some t->∃cs:Array Value,V t (.agg cs) w/\∀j u,cs[j]?=some u->cells[k*sz+j]?=some u):∃d,Row sz (F d) (.slice (some ⟨b,0,none⟩) ts.length c) ts:=by
 obtain ⟨d,hd⟩:=ER (ts:=ts) (P:=fun d k t=>F d b (k*sz) t) (fun d e k t hde hp=>tO hF hde hp) ts.length fun k t _ hk=>by
  obtain ⟨cs,hv,hj⟩:=hx k t hk;exact hV t cs (k*sz) hv fun j u hu=>af hb _ u (hj j u hu)
 exact ⟨d,hn,.inr ⟨b,0,c,rfl,fun k t hk=>by rw [Nat.zero_add];exact hd k t (List.getElem?_eq_some_iff.1 hk).1 hk⟩⟩
section
variable {w0 w u u':World} {p:Nat} {L:List Tk} {vL:Value} {en:Int} {H:List Nat} {i j:Nat} {Bs:List Bk} {Ts:List (World->Prop)}
theorem Je (u:World) (o:Obj) {H:List Nat} {p:Nat} {w':World} (h:fU H p (u.alloc o) w'):fU H p u w':=fun k hk hp hn=>(h k (by simp;omega) hp hn).trans (((Below.refl _ u).alloc (Nat.le_refl _) o).block k hk)
theorem ST.su (h:ST w0 p L vL en H w i Bs Ts u) {B:Nat} (hB:B<=u.heap.size) (cells:Array Value) (T:TypeId) (ts:List Value) (c:Nat) (hn:ts.length<=9223372036854775807) (hx:∀k t,ts[k]?=some t->∃cs:Array Value,aU B t (.agg cs) ∈ Ts/\∀j v,cs[j]?=some v->cells[k*7+j]?=some v) :
  ST w0 p L vL en H w i Bs (qZ B (.slice (some ⟨u.heap.size,0,none⟩) ts.length c) ts :: Ts) (u.alloc (.cells cells T)) :=
 (h.on (bO u _)).add _ fun w' hw=>by
  have hb:w'.heap[u.heap.size]?=some (.cells cells T (0,0)):=by
   rw [hw _ (by simp) (by have:=h.pr.lt;omega) (fun hm=>by have:=h.mlt hm;omega)];exact heap_alloc_new _ _
  refine Jd (V:=aU B) dm.up hn hb (fun t cs o hv hc=>ES hv hB hc) fun k t hk=>?_;obtain ⟨cs,hm,hj⟩:=hx k t hk;exact ⟨cs,h.fE _ hm w' (Je u _ hw),hj⟩
theorem ST.rowP (h:ST w0 p L vL en H w i Bs Ts u) {B:Nat} (hB:B<=u.heap.size) (cells:Array Value) (T:TypeId) (ts:List Value) (c:Nat) (hn:ts.length<=9223372036854775807) (hx:∀k t,ts[k]?=some t->∃cs:Array Value,bU B t (.agg cs) ∈ Ts/\∀j v,cs[j]?=some v->cells[k*5+j]?=some v) :
  ST w0 p L vL en H w i Bs (lg B (.slice (some ⟨u.heap.size,0,none⟩) ts.length c) ts :: Ts) (u.alloc (.cells cells T)) :=
 (h.on (bO u _)).add _ fun w' hw=>by
  have hb:w'.heap[u.heap.size]?=some (.cells cells T (0,0)):=by
   rw [hw _ (by simp) (by have:=h.pr.lt;omega) (fun hm=>by have:=h.mlt hm;omega)];exact heap_alloc_new _ _
  refine Jd (V:=bU B) cf.up hn hb (fun t cs o hv hc=>Jf hv hB hc) fun k t hk=>?_;obtain ⟨cs,hm,hj⟩:=hx k t hk;exact ⟨cs,h.fE _ hm w' (Je u _ hw),hj⟩
theorem ST.ZE (h:ST w0 p L vL en H w i Bs Ts u) {B:Nat} (hB:B<=u.heap.size) (cells:Array Value) (T:TypeId) (ts:List Value) (c:Nat) (hn:ts.length<=9223372036854775807) (hx:∀k t,ts[k]?=some t->∃cs:Array Value,dX B t (.agg cs) ∈ Ts/\∀j v,cs[j]?=some v->cells[k*4+j]?=some v) :
  ST w0 p L vL en H w i Bs (ou B (.slice (some ⟨u.heap.size,0,none⟩) ts.length c) ts :: Ts) (u.alloc (.cells cells T)) :=
 (h.on (bO u _)).add _ fun w' hw=>by
  have hb:w'.heap[u.heap.size]?=some (.cells cells T (0,0)):=by
   rw [hw _ (by simp) (by have:=h.pr.lt;omega) (fun hm=>by have:=h.mlt hm;omega)];exact heap_alloc_new _ _
  refine Jd (V:=dX B) dN.up hn hb (fun t cs o hv hc=>Qf hv hB hc) fun k t hk=>?_;obtain ⟨cs,hm,hj⟩:=hx k t hk;exact ⟨cs,h.fE _ hm w' (Je u _ hw),hj⟩
theorem ST.yR (h:ST w0 p L vL en H w i Bs Ts u) {B:Nat} {v z:Value} {es ps:List Value} (k:Int) (x y:ByteArray) (n a:Int) (he:qZ B v es ∈ Ts) (hp:lg B z ps ∈ Ts):ST w0 p L vL en H w i Bs (aU B (nd k x y n es ps a) (.agg #[.int .i64 k,.string x,.string y,.int .i64 n,v,z,.int .i64 a]) :: Ts) u :=
 h.add _ fun w' hw=>Pz.yR k x y n a (h.fE _ he w' hw) (h.fE _ hp w' hw)
theorem ST.wR (h:ST w0 p L vL en H w i Bs Ts u) {B:Nat} {v:Value} {es:List Value} (k:Int) (x y:ByteArray) (n a:Int) (he:qZ B v es ∈ Ts):ST w0 p L vL en H w i Bs (aU B (nd k x y n es [] a) (.agg #[.int .i64 k,.string x,.string y,.int .i64 n,v,.slice none 0 0,.int .i64 a]) :: Ts) u :=
 h.add _ fun w' hw=>Pz.yR k x y n a (h.fE _ he w' hw) (lg.nil _ _)
theorem ST.sZ (h:ST w0 p L vL en H w i Bs Ts u) {B:Nat} (k:Int) (x:ByteArray) (n a:Int):ST w0 p L vL en H w i Bs (bU B (nd k x e0 n [] [] a) (.agg #[.int .i64 k,.string x,.int .i64 n,.slice none 0 0,.int .i64 a]) :: Ts) u :=
 h.add _ fun w' hw=>Pz.sZ _ _ _ _ _ _
theorem ST.EP (h:ST w0 p L vL en H w i Bs Ts u) {B:Nat} {v:Value} {es:List Value} (k:Int) (x:ByteArray) (n:Int) (he:ou B v es ∈ Ts):ST w0 p L vL en H w i Bs (dX B (nd k x e0 n es [] 0) (.agg #[.int .i64 k,.string x,.int .i64 n,v]) :: Ts) u :=
 h.add _ fun w' hw=>Pz.EP k x n (h.fE _ he w' hw)
end
end Pz
end Go.Proofs.YtpaefhceiliaiaaGreatDoor
namespace Go.Proofs.YtpaefhceiliaiaaGreatDoor
open Go.RowKit Lx Pz
set_option linter.unusedVariables false
namespace Pz
def bY {α:Type} (E:Nat->Rd α):Prop:=∀i t j,E i=.ok (t,j)->i<j
section
variable {L:List Tk} {en:Int} {E T A:Nat->Rd Value}
theorem Af {nx:Tk->Bool} (hA:bY A):∀(f i:Nat) (acc ts:List Value) (j:Nat),dJ L en nx A f i acc=.ok (ts,j)->i<=j
 | 0,i,acc,ts,j,h=>by injection h with h;injection h with _ h;omega
 | f+1,i,acc,ts,j,h=>by
  rw [dJ] at h;split at h
  ·cases h0:A i with
   | error z=>rw [h0] at h;cases h
   | ok r =>
    obtain ⟨e,k⟩:=r;rw [h0] at h
    have:=hA _ _ _ h0
    have:=Af hA f k _ ts j h
    omega
  ·injection h with h;injection h with _ h;omega
theorem Gi (hE:bY E):bY (brk L en E):=by
 intro i t j h;unfold brk at h;cases h0:bb L en sL i with
 | error z=>rw [h0] at h;cases h
 | ok j0 =>
  have q0:=eX h0;rw [h0] at h;dsimp only at h;cases h1:E j0 with
  | error z=>rw [h1] at h;cases h
  | ok r1 =>
   obtain ⟨a1,j1⟩:=r1;have q1:=hE _ _ _ h1;rw [h1] at h;dsimp only at h;cases h2:bb L en sR j1 with
   | error z=>rw [h2] at h;cases h
   | ok j2 =>
    have q2:=eX h2;rw [h2] at h;dsimp only at h;injection h with h;injection h with _ h;omega
theorem C8 (hE:bY E):bY (jH L en E):=by
 intro i t j h;unfold jH at h;split at h
 ·injection h with h;injection h with _ h;omega
 ·skip
  split at h
  ·injection h with h;injection h with _ h;omega
  ·exact Gi hE _ _ _ h
theorem Gj (hE:bY E):bY (kE L en E):=by
 intro i t j h;unfold kE at h;split at h
 ·injection h with h;injection h with _ h;omega
 ·skip
  split at h
  ·injection h with h;injection h with _ h;omega
  ·skip
   split at h
   ·injection h with h;injection h with _ h;omega
   ·skip
    split at h
    ·injection h with h;injection h with _ h;omega
    ·exact Gi hE _ _ _ h
theorem yp (hE:bY E):bY (gh L en E):=by
 intro i t j h;unfold gh at h;split at h
 ·injection h with h;injection h with _ h;omega
 ·skip
  split at h
  ·injection h with h;injection h with _ h;omega
  ·skip
   split at h
   ·injection h with h;injection h with _ h;omega
   ·exact Gi hE _ _ _ h
theorem L8 (hE:bY E):bY (oM L en E):=by
 intro i t j h;unfold oM at h;cases h0:jH L en E i with
 | error z=>rw [h0] at h;cases h
 | ok r =>
  obtain ⟨a,j0⟩:=r;have q0:=C8 hE _ _ _ h0;rw [h0] at h;dsimp only at h;split at h
  ·cases h1:dJ L en rW (jH L en E) (L.length+1) j0 [] with
   | error z=>rw [h1] at h;cases h
   | ok r =>
    obtain ⟨a1,j1⟩:=r;have q1:=Af (C8 hE) _ _ _ _ _ h1;rw [h1] at h;injection h with h;injection h with _ h;omega
  ·injection h with h;injection h with _ h;omega
theorem Ag:∀f,bY (kS L en f)
 | 0=>fun i t j h=>by cases h
 | f+1=>fun i t j h=>by
  rw [kS] at h;cases h0:oM L en (kS L en f) i with
  | error z=>rw [h0] at h;cases h
  | ok r =>
   obtain ⟨a,j0⟩:=r;have q0:=L8 (Ag f) _ _ _ h0;rw [h0] at h;dsimp only at h;cases h1:bb L en iP j0 with
   | error z=>rw [h1] at h;injection h with h;injection h with _ h;omega
   | ok j1 =>
    rw [h1] at h;dsimp only at h;have q1:=eX h1;cases h2:kS L en f j1 with
    | error z=>rw [h2] at h;cases h
    | ok r =>
     obtain ⟨a2,j2⟩:=r;have q2:=Ag f _ _ _ h2;rw [h2] at h;injection h with h;injection h with _ h;omega
theorem Ah:∀f,bY (gY L en f)
 | 0=>fun i t j h=>by cases h
 | f+1=>fun i t j h=>by
  rw [gY] at h;split at h
  ·cases h1:dJ L en uo (kE L en (gY L en f)) (L.length+1) (i+1) [] with
   | error z=>rw [h1] at h;cases h
   | ok r =>
    obtain ⟨a1,j1⟩:=r;have q1:=Af (Gj (Ah f)) _ _ _ _ _ h1;rw [h1] at h;injection h with h;injection h with _ h;omega
  ·exact Gj (Ah f) _ _ _ h
theorem L9 (hE:bY E):∀(f i:Nat) (e t:Value) (j:Nat),nT L en E f i e=.ok (t,j)->i<=j
 | 0,i,e,t,j,h=>by injection h with h;injection h with _ h;omega
 | f+1,i,e,t,j,h=>by
  rw [nT] at h;split at h
  ·cases h0:gh L en E i with
   | error z=>rw [h0] at h;cases h
   | ok r =>
    obtain ⟨a,k⟩:=r;rw [h0] at h
    have:=yp hE _ _ _ h0
    have:=L9 hE f k _ t j h
    omega
  ·injection h with h;injection h with _ h;omega
theorem Gl (hE:bY E):bY (kT L en E):=by
 intro i t j h;unfold kT at h;split at h
 ·cases h0:gh L en E (i+1) with
  | error z=>rw [h0] at h;cases h
  | ok r =>
   obtain ⟨a,k⟩:=r
   have:=yp hE _ _ _ h0
   rw [h0] at h;injection h with h;injection h with _ h;omega
 ·split at h
  ·cases h1:dJ L en rX (gh L en E) (L.length+1) (i+1) [] with
   | error z=>rw [h1] at h;cases h
   | ok r =>
    obtain ⟨a1,j1⟩:=r;have q1:=Af (yp hE) _ _ _ _ _ h1;rw [h1] at h;injection h with h;injection h with _ h;omega
  ·cases h0:gh L en E i with
   | error z=>rw [h0] at h;cases h
   | ok r =>
    obtain ⟨a,k⟩:=r
    have:=yp hE _ _ _ h0
    rw [h0] at h
    have:=L9 hE _ _ _ _ _ h
    omega
theorem C9 {sg:Tk->Bool} (hA:bY A):∀(f i:Nat) (e t:Value) (j:Nat),fI L en sg A f i e=.ok (t,j)->i<=j
 | 0,i,e,t,j,h=>by injection h with h;injection h with _ h;omega
 | f+1,i,e,t,j,h=>by
  rw [fI] at h;split at h
  ·cases h0:A (i+1) with
   | error z=>rw [h0] at h;cases h
   | ok r =>
    obtain ⟨a,k⟩:=r;rw [h0] at h
    have:=hA _ _ _ h0
    have:=C9 hA f k _ t j h
    omega
  ·injection h with h;injection h with _ h;omega
theorem Gm (hE:bY E):bY (kU L en E):=by
 intro i t j h;unfold kU at h;cases h0:kT L en E i with
 | error z=>rw [h0] at h;cases h
 | ok r0 =>
  obtain ⟨a0,j0⟩:=r0;have q0:=Gl hE _ _ _ h0;rw [h0] at h;dsimp only at h
  have:=C9 (Gl hE) _ _ _ _ _ h;omega
theorem Gn (hE:bY E):bY (kV L en E):=by
 intro i t j h;unfold kV at h;cases h0:kU L en E i with
 | error z=>rw [h0] at h;cases h
 | ok r0 =>
  obtain ⟨a0,j0⟩:=r0;have q0:=Gm hE _ _ _ h0;rw [h0] at h;dsimp only at h
  have:=C9 (Gm hE) _ _ _ _ _ h;omega
theorem Ma (hE:bY E):bY (nU L en E):=by
 intro i t j h;unfold nU at h;cases h0:kV L en E i with
 | error z=>rw [h0] at h;cases h
 | ok r0 =>
  obtain ⟨a0,j0⟩:=r0;have q0:=Gn hE _ _ _ h0;rw [h0] at h;dsimp only at h
  have:=C9 (Gn hE) _ _ _ _ _ h;omega
theorem Uw (hE:bY E):bY (qF L en E):=by
 intro i t j h;unfold qF at h;cases h0:nU L en E i with
 | error z=>rw [h0] at h;cases h
 | ok r =>
  obtain ⟨a,j0⟩:=r;have q0:=Ma hE _ _ _ h0;rw [h0] at h;dsimp only at h;cases h1:bb L en kv j0 with
  | error z=>rw [h1] at h;injection h with h;injection h with _ h;omega
  | ok j1 =>
   rw [h1] at h;dsimp only at h;have q1:=eX h1;cases h2:E j1 with
   | error z=>rw [h2] at h;cases h
   | ok r =>
    obtain ⟨a2,j2⟩:=r;have q2:=hE _ _ _ h2;rw [h2] at h;injection h with h;injection h with _ h;omega
theorem Mb (hE:bY E):bY (l9 L en E):=by
 intro i t j h;unfold l9 at h;cases h0:gY L en (L.length+1) i with
 | error z=>rw [h0] at h;cases h
 | ok r0 =>
  obtain ⟨a0,j0⟩:=r0;have q0:=Ah _ _ _ _ h0;rw [h0] at h;dsimp only at h;cases h1:bb L en iP j0 with
  | error z=>rw [h1] at h;cases h
  | ok j1 =>
   have q1:=eX h1;rw [h1] at h;dsimp only at h;cases h2:E j1 with
   | error z=>rw [h2] at h;cases h
   | ok r2 =>
    obtain ⟨a2,j2⟩:=r2;have q2:=hE _ _ _ h2;rw [h2] at h;dsimp only at h;injection h with h;injection h with _ h;omega
theorem Mc (hE:bY E):∀(f i:Nat) (ps es:List Value) (t:List Value × List Value) (j:Nat),mX L en E f i ps es=.ok (t,j)->i<=j
 | 0,i,ps,es,t,j,h=>by injection h with h;injection h with _ h;omega
 | f+1,i,ps,es,t,j,h=>by
  rw [mX] at h;cases h0:bb L en jR i with
  | error z=>rw [h0] at h;injection h with h;injection h with _ h;omega
  | ok j0 =>
   have q0:=eX h0;rw [h0] at h;dsimp only at h;cases h1:l9 L en E j0 with
   | error z=>rw [h1] at h;cases h
   | ok r =>
    obtain ⟨⟨a,b⟩,k⟩:=r;have q1:=Mb hE _ _ _ h1;rw [h1] at h
    have:=Mc hE f k _ _ t j h
    omega
theorem Ux (hE:bY E):bY (rY L en E):=by
 intro i t j h;unfold rY at h;cases h0:bL L en 1 (i+1) with
 | error z=>rw [h0] at h;cases h
 | ok r0 =>
  obtain ⟨a0,j0⟩:=r0;have q0:=ky h0;rw [h0] at h;dsimp only at h;cases h1:bb L en iP j0 with
  | error z=>rw [h1] at h;cases h
  | ok j1 =>
   have q1:=eX h1;rw [h1] at h;dsimp only at h;cases h2:E j1 with
   | error z=>rw [h2] at h;cases h
   | ok r2 =>
    obtain ⟨a2,j2⟩:=r2;have q2:=hE _ _ _ h2;rw [h2] at h;dsimp only at h;injection h with h;injection h with _ h;omega
theorem Mf (hE:bY E) (k:Int) (x y:ByteArray) (a:Int):bY (mb L en E k x y a):=by
 intro i t j h;unfold mb at h;cases h0:bb L en nO i with
 | error z=>rw [h0] at h;cases h
 | ok j0 =>
  have q0:=eX h0;rw [h0] at h;dsimp only at h;cases h1:E j0 with
  | error z=>rw [h1] at h;cases h
  | ok r1 =>
   obtain ⟨a1,j1⟩:=r1;have q1:=hE _ _ _ h1;rw [h1] at h;dsimp only at h;cases h2:bb L en yt j1 with
   | error z=>rw [h2] at h;cases h
   | ok j2 =>
    have q2:=eX h2;rw [h2] at h;dsimp only at h;cases h3:E j2 with
    | error z=>rw [h3] at h;cases h
    | ok r3 =>
     obtain ⟨a3,j3⟩:=r3;have q3:=hE _ _ _ h3;rw [h3] at h;dsimp only at h;injection h with h;injection h with _ h;omega
theorem Uy (hE:bY E):bY (rZ L en E):=by
 intro i t j h;unfold rZ at h;cases h9:bb L en r9 (i+1) with
 | error z =>
  rw [h9] at h;dsimp only at h;cases h0:bL L en 1 (i+1) with
  | error z=>rw [h0] at h;cases h
  | ok r0 =>
   obtain ⟨a0,j0⟩:=r0;have q0:=ky h0;rw [h0] at h;dsimp only at h
   have:=Mf hE _ _ _ _ _ _ _ h;omega
 | ok j9 =>
  have q9:=eX h9;rw [h9] at h;dsimp only at h;cases h0:bL L en 1 j9 with
  | error z=>rw [h0] at h;cases h
  | ok r0 =>
   obtain ⟨a0,j0⟩:=r0;have q0:=ky h0;rw [h0] at h;dsimp only at h;cases h1:bL L en 1 j0 with
   | error z=>rw [h1] at h;cases h
   | ok r1 =>
    obtain ⟨a1,j1⟩:=r1;have q1:=ky h1;rw [h1] at h;dsimp only at h
    have:=Mf hE _ _ _ _ _ _ _ h;omega
theorem Uz (hE:bY E):bY (si L en E):=by
 intro i t j h;unfold si at h;cases h0:E (i+1) with
 | error z=>rw [h0] at h;cases h
 | ok r0 =>
  obtain ⟨a0,j0⟩:=r0;have q0:=hE _ _ _ h0;rw [h0] at h;dsimp only at h;cases h1:bb L en yu j0 with
  | error z=>rw [h1] at h;cases h
  | ok j1 =>
   have q1:=eX h1;rw [h1] at h;dsimp only at h;cases h2:E j1 with
   | error z=>rw [h2] at h;cases h
   | ok r2 =>
    obtain ⟨a2,j2⟩:=r2;have q2:=hE _ _ _ h2;rw [h2] at h;dsimp only at h;cases h3:bb L en yw j2 with
    | error z=>rw [h3] at h;cases h
    | ok j3 =>
     have q3:=eX h3;rw [h3] at h;dsimp only at h;cases h4:E j3 with
     | error z=>rw [h4] at h;cases h
     | ok r4 =>
      obtain ⟨a4,j4⟩:=r4;have q4:=hE _ _ _ h4;rw [h4] at h;dsimp only at h;injection h with h;injection h with _ h;omega
theorem UA (hE:bY E):bY (qG L en E):=by
 intro i t j h;unfold qG at h;cases h0:E (i+1) with
 | error z=>rw [h0] at h;cases h
 | ok r0 =>
  obtain ⟨a0,j0⟩:=r0;have q0:=hE _ _ _ h0;rw [h0] at h;dsimp only at h;cases h1:bb L en yx j0 with
  | error z=>rw [h1] at h;cases h
  | ok j1 =>
   have q1:=eX h1;rw [h1] at h;dsimp only at h;cases h2:l9 L en E j1 with
   | error z=>rw [h2] at h;cases h
   | ok r2 =>
    obtain ⟨⟨a2,b2⟩,j2⟩:=r2;have q2:=Mb hE _ _ _ h2;rw [h2] at h;dsimp only at h;cases h3:mX L en E (L.length+1) j2 [a2] [a0,b2] with
    | error z=>rw [h3] at h;cases h
    | ok r3 =>
     obtain ⟨⟨a3,b3⟩,j3⟩:=r3;have q3:=Mc hE _ _ _ _ _ _ h3;rw [h3] at h;dsimp only at h;cases h4:bb L en wP j3 with
     | error z=>rw [h4] at h;cases h
     | ok j4 =>
      have q4:=eX h4;rw [h4] at h;dsimp only at h;injection h with h;injection h with _ h;omega
theorem wQ:∀f,bY (gI L en f)
 | 0=>fun i t j h=>by cases h
 | f+1=>fun i t j h=>by
  rw [gI] at h;split at h
  ·exact Ux (wQ f) _ _ _ h
  ·split at h
   ·exact Uy (wQ f) _ _ _ h
   ·split at h
    ·exact Uz (wQ f) _ _ _ h
    ·split at h
     ·exact UA (wQ f) _ _ _ h
     ·exact Uw (wQ f) _ _ _ h
theorem Gp:bY (ji L en):=by
 intro i t j h;unfold ji at h;cases h0:bL L en 2 i with
 | error z=>rw [h0] at h;cases h
 | ok r0 =>
  obtain ⟨a0,j0⟩:=r0;have q0:=ky h0;rw [h0] at h;dsimp only at h;cases h1:dJ L en rW (jH L en (kS L en (L.length+1))) (L.length+1) j0 [] with
  | error z=>rw [h1] at h;cases h
  | ok r1 =>
   obtain ⟨a1,j1⟩:=r1;have q1:=Af (C8 (Ag _)) _ _ _ _ _ h1;rw [h1] at h;dsimp only at h;injection h with h;injection h with _ h;omega
theorem Mg:∀(f i:Nat) (acc:List ByteArray),i<=(mS L en f i acc).2
 | 0,i,acc=>Nat.le_refl _
 | f+1,i,acc=>by
  rw [mS];split
  ·have:=Mg f (i+1) (acc++[(tk L en i).x]);omega
  ·exact Nat.le_refl _
theorem Mh:∀(f i:Nat) (acc cs:List Value) (j:Nat),mf L en f i acc=.ok (cs,j)->i<=j
 | 0,i,acc,cs,j,h=>by injection h with h;injection h with _ h;omega
 | f+1,i,acc,cs,j,h=>by
  rw [mf] at h;cases h0:bb L en jR i with
  | error z=>rw [h0] at h;injection h with h;injection h with _ h;omega
  | ok j0 =>
   have q0:=eX h0;rw [h0] at h;dsimp only at h;cases h1:ji L en j0 with
   | error z=>rw [h1] at h;cases h
   | ok r =>
    obtain ⟨a,k⟩:=r;have q1:=Gp _ _ _ h1;rw [h1] at h
    have:=Mh f k _ cs j h
    omega
theorem UB:bY (qH L en):=by
 intro i t j h;unfold qH at h;cases h0:bL L en 1 (i+1) with
 | error z=>rw [h0] at h;cases h
 | ok r0 =>
  obtain ⟨a0,j0⟩:=r0;have q0:=ky h0;rw [h0] at h;dsimp only at h;cases h1:bb L en nO (mS L en (L.length+1) j0 []).2 with
  | error z=>rw [h1] at h;cases h
  | ok j1 =>
   have q1:=eX h1;rw [h1] at h;dsimp only at h;cases h2:ji L en j1 with
   | error z=>rw [h2] at h;cases h
   | ok r2 =>
    obtain ⟨a2,j2⟩:=r2;have q2:=Gp _ _ _ h2;rw [h2] at h;dsimp only at h;cases h3:mf L en (L.length+1) j2 [a2] with
    | error z=>rw [h3] at h;cases h
    | ok r3 =>
     obtain ⟨a3,j3⟩:=r3;have q3:=Mh _ _ _ _ _ h3;rw [h3] at h;dsimp only at h;cases h4:bb L en kv j3 with
     | error z=>rw [h4] at h;cases h
     | ok j4 =>
      have q4:=eX h4;rw [h4] at h;dsimp only at h
      have:=Mg (L:=L) (en:=en) (L.length+1) j0 [];injection h with h;injection h with _ h;omega
end
end Pz
end Go.Proofs.YtpaefhceiliaiaaGreatDoor

/- Texts that the claim needs. -/
import Derived.Test.YtiailkiepndliaaGreatDoorQDWi20
import Derived.Test.YtiailkiepndliaaGreatDoorQDWi26
namespace Go.Proofs.YtiailkiepndliaaGreatDoor
open Go.RowKit Rep Enc Go.Lib
set_option linter.unusedVariables false
namespace Enc
theorem uB_bd:∀(f:Nat) (n:Int),0<=n->n.toNat<=f->∀x ∈ Leb.uB n,0<=x/\x<=255
 | 0,n,h0,hf=>by
  rw [Leb.uB_small h0 (by omega)]
  intro x hx
  rw [List.mem_singleton.1 hx];omega
 | f+1,n,h0,hf=>by
  by_cases h:n<128
  ·rw [Leb.uB_small h0 h]
   intro x hx
   rw [List.mem_singleton.1 hx];omega
  ·rw [Leb.uB_great (by omega)]
   intro x hx
   rcases List.mem_cons.1 hx with rfl|hx
   ·omega
   ·exact uB_bd f (n / 128) (by omega) (by omega) x hx
theorem sB_bd:∀(f:Nat) (n:Int),n.natAbs<=f->∀x ∈ Leb.sB n,0<=x/\x<=255
 | 0,n,hf=>by
  rw [Leb.sB_small (by omega)]
  intro x hx
  rw [List.mem_singleton.1 hx];omega
 | f+1,n,hf=>by
  by_cases h:-64<=n/\n<=63
  ·rw [Leb.sB_small h]
   intro x hx
   rw [List.mem_singleton.1 hx];omega
  ·rw [Leb.sB_great h]
   intro x hx
   rcases List.mem_cons.1 hx with rfl|hx
   ·omega
   ·exact sB_bd f (n / 128) (by omega) x hx
theorem strCells_nums (xs:List Int) (h:∀x ∈ xs,0<=x/\x<=255):strCells (strOfNums xs)=cells xs:=by
 unfold strCells cells
 rw [strOfNums_data,List.map_map]
 refine List.map_congr_left fun x hx=>?_
 obtain ⟨h0,h1⟩:=h x hx
 show Value.int .u8 ((UInt8.ofNat x.toNat).toNat:Int)=Value.int .u8 x
 congr 1
 rw [UInt8.toNat_ofNat']
 omega
def App (w0:World) (p:Nat) (c:Nat->Value) (v:Value) (w:World) (bs bs':List Int) (v':Value) (w9:World):Prop:=∃w8,WS w0 p c v bs w8/\w9.ownsRow w0.heap.size 5 1 v' bs'.length (cells bs')/\w8.grownBy w9 v.ownBlock/\(v'.ownBlock=v.ownBlock\/v'.ownBlock=some w8.heap.size)/\Below w.heap.size w w8
theorem App.cell {w0 w w9:World} {p:Nat} {c:Nat->Value} {v v':Value} {bs bs':List Int} (h:App w0 p c v w bs bs' v' w9):w9.cell? ⟨p,10,none⟩=some v/\w9.frozen? ⟨p,10,none⟩=false:=by
 obtain ⟨w8,h1,h2,h3,h4,h5⟩:=h
 have hb:=h3.block p h1.lt (fun e=>h1.apart e.symm)
 exact ⟨by rw [World.cell?_of_block (a:=⟨p,10,none⟩) hb];exact h1.cell,by rw [World.frozen?_of_block (a:=⟨p,10,none⟩) hb];exact h1.frz⟩
theorem App.slice {w0 w w9:World} {p:Nat} {c:Nat->Value} {v v':Value} {bs bs':List Int} (h:App w0 p c v w bs bs' v' w9):∃o k,v'=.slice o bs'.length k:=by
 obtain ⟨w8,h1,h2,h3,h4,h5⟩:=h
 rcases h2.2 with ⟨rfl,h0⟩|⟨g,cap,cur,rfl,_⟩
 ·rw [h0];exact ⟨none,0,rfl⟩
 ·exact ⟨_,_,rfl⟩
theorem App.ws {w0 w w9:World} {p:Nat} {c:Nat->Value} {v v':Value} {bs bs':List Int} (h:App w0 p c v w bs bs' v' w9):WS w0 p c v' bs' (w9.setCell ⟨p,10,none⟩ v'):=by
 obtain ⟨w8,h1,h2,h3,h4,h5⟩:=h
 exact h1.store h2 h3
theorem App.kept {w0 w w9:World} {p:Nat} {c:Nat->Value} {v v':Value} {bs bs':List Int} (h:App w0 p c v w bs bs' v' w9):Kept p v w v' (w9.setCell ⟨p,10,none⟩ v'):=by
 obtain ⟨w8,h1,h2,h3,h4,h5⟩:=h
 exact (Kept.below h5).trans (Kept.store h3 h4 v')
theorem run_str {P:Program} (w:World) (base:Nat) (t u ty e:TypeId) (i:TypeInfo) (ht:P.underlying t=some (.slice e)) (hu:P.underlying u=some .string) (hi:P.info? e=some i) (hz:i.zero=some (.int .u8 0)) (hsize:i.size=1) (hby:i.bytes=1)
  (v:Value) (n:Nat) (xs:List Value) (hown:w.ownsRow base e 1 v n xs) (s:ByteArray) (h63:n+s.size<=maxLen) (hbytes:n+s.size<=140737488355328) (hbase:base<=w.heap.size) :
  ∃v' w',(Builtin.append_ #[t,u] ty #[v,.string s]).run P w=.ok v' w'/\w'.ownsRow base e 1 v' (n+s.size) (xs++strCells s)/\w.grownBy w' v.ownBlock/\(v'.ownBlock=v.ownBlock\/v'.ownBlock=some w.heap.size):=by
 obtain ⟨v',w',hr,h2,h3,h4⟩:=run_append_own_string (P:=P) w base t u ty e i ht hu hi hz hsize hby v n xs hown s h63 hbytes hbase
 refine ⟨v',w',hr,h2,h3,?_⟩
 have hsmall:n+s.size<=9223372036854775807:=by simp only [maxLen] at h63;omega
 have hxl:xs.length=n:=by simpa using hown.1
 rcases hown.2 with ⟨rfl,rfl⟩|⟨g,cap,cur,rfl,hbg,hg,hnc,hcm,hcs,htake⟩
 ·by_cases hm:s.size=0
  ·left;rw [h4.2 ⟨rfl,hm⟩]
  ·rw [run_append_nil_string (P:=P) w t u ty e i (.int .u8 0) ht hu hi hz s (by omega) (by omega) (by rw [hby];omega)] at hr
   injection hr with hv _
   right;rw [<- hv];rfl
 ·by_cases hroom:n+s.size<=cap
  ·have hcs':cur.size=cap:=by simpa using hcs
   rw [run_append_room_string (P:=P) w t u ty e i ht hu hi hsize g n cap cur hg s hroom (by omega)] at hr
   injection hr with hv _
   left;rw [<- hv];rfl
  ·have holds:∀j u,xs[j]?=some u->w.cell? ((⟨g,0,none⟩:Addr).add j)=some u:=hown.cells (g:=g) rfl
   rw [run_append_grow_string (P:=P) w t u ty e i (.int .u8 0) ht hu hi hz ⟨g,0,none⟩ n cap xs (by rw [hsize];simpa using hxl) holds s (by omega) (by omega) (by rw [hby];exact growslice_fits (by omega) (by omega))] at hr
   injection hr with hv _
   right;rw [<- hv];rfl
theorem op_str {w0 wb w:World} {p:Nat} {c:Nat->Value} {v:Value} {bs:List Int} {op:Oper} {a:Act} {K:Act->World->Prop} {Q:Exit->Act->World->Prop} (s x:Operand)
  (ho:op.op=.call { callee:=.builtin .append,args:=#[s,x],argTypes:=#[61,9] }) (h:WS w0 p c v bs w) (hs:a.eval s=v) (str:ByteArray) (hx:a.eval x=.string str) (add:List Int) (hc:strCells str=cells add) (hl:str.size=add.length) (hbw:Below wb.heap.size wb w) (hn:bs.length+add.length<=140737488355328)
  (hK:∀v' w',App w0 p c v wb bs (bs++add) v' w'->K (a.put op.dst v') w'):op.wp Tryz.prog a w K Q:=by
 obtain ⟨i,hi,hz,hsz,hby⟩:=info_parts u8Info
 obtain ⟨v',w',hr,h2,h3,h4⟩:=run_str (P:=Tryz.prog) w w0.heap.size 61 9 op.type 5 i Tryz.underlying61 Tryz.underlying9 hi hz hsz hby v bs.length (cells bs) h.own str (by unfold maxLen;omega) (by omega) h.below.size
 unfold Oper.wp execOp
 simp only [ho,resolve,invoke,builtin,Sem.run_bind,Sem.run_pure,Result.andThen_ok,List.map_toArray,List.map_cons,List.map_nil,hs,hx,hr]
 refine hK _ _ ⟨w,h,?_,h3,h4,hbw⟩
 rw [List.length_append]
 rw [hc,hl] at h2
 have:cells (bs++add)=cells bs++cells add:=by unfold cells;rw [List.map_append]
 rw [this];exact h2
def TU (p:Nat) (oV:Option Addr) (kV:Nat) (bs:List Int) (n:Int) (s:ByteArray):Nat->Stab
 | 0=>sEq (.pointer (some ⟨p,0,none⟩))
 | 1=>sEq (.pointer (some ⟨p,0,none⟩))
 | 2=>sEq (.pointer (some ⟨p,0,none⟩))
 | 3=>sEq (.pointer (some ⟨p,10,none⟩))
 | 4=>sEq (.slice oV bs.length kV)
 | 5=>sEq (.int .i64 n)
 | 6=>sEq (.int .u64 n)
 | 7=>sEq (.string s)
 | _=>sEq undef
def TS (p:Nat) (oV:Option Addr) (kV:Nat) (bs:List Int) (n:Int) (s:ByteArray):Nat->Stab
 | 0=>sEq (.pointer (some ⟨p,0,none⟩))
 | 1=>sEq (.pointer (some ⟨p,0,none⟩))
 | 2=>sEq (.pointer (some ⟨p,0,none⟩))
 | 3=>sEq (.pointer (some ⟨p,10,none⟩))
 | 4=>sEq (.slice oV bs.length kV)
 | 5=>sEq (.int .i64 n)
 | 6=>sEq (.string s)
 | _=>sEq undef
end Enc
set_option maxRecDepth 100000 in
set_option maxHeartbeats 2000000 in
theorem wU (w0:World) (p:Nat) (c:Nat->Value) (v:Value) (bs:List Int) (n:Int) (w:World) (h:WS w0 p c v bs w) (h0:0<=n) (h1:n<=9223372036854775807) (hn:bs.length<=100000000000000):Calls Tryz.prog 80 #[.pointer (some ⟨p,0,none⟩),.int .i64 n] w (Does w0 p c v w (bs++Leb.uB n)):=by
 obtain ⟨b2,hb2⟩:∃b2,b2=bs++Leb.uB n:=⟨_,rfl⟩
 rw [<- hb2]
 have HB2:=hideR hb2
 clear hb2
 obtain ⟨oV,kV,rfl⟩:=h.slice
 have HS:=hideR h
 clear h
 obtain ⟨s,hs⟩:∃s,s=strOfNums (Leb.uB n):=⟨_,rfl⟩
 have HC:Hid (strCells s=cells (Leb.uB n)):=hideR (by rw [hs];exact strCells_nums _ (uB_bd n.toNat n h0 (Nat.le_refl _)))
 have HL:Hid (s.size=(Leb.uB n).length):=hideR (by rw [hs];exact strOfNums_size _)
 have HT:Hid ((Leb.uB n).length<=10):=hideR (Leb.uB_ten h0 (by omega))
 have HSS:=hideR hs
 clear hs
 have hwr:IntKind.u64.wrap n=n:=by simp [IntKind.wrap,IntKind.signed,IntKind.bits];omega
 go_enter Tryz.func80,Tryz.ntmps80
 refine Reg.wp_region_mid 8 (fun i=>4+i) (fun i=>decide (i=0)) (fun i=>(TU p oV kV bs n s i).1) (App w0 p c (.slice oV bs.length kV) w bs b2) (by kernel_rfl) (by kernel_rfl) (fun i j h1 h2 h=>by have h':4+i=4+j:=h;omega) (Reg.dst_ok (size:=15) (by kernel_rfl)) (fun i v w w' _ h hb=>(TU p oV kV bs n s i).2 v w w' h hb) (fun i v w w' _ hp h=>by obtain rfl:i=0:=of_decide_eq_true hp;exact h) ?hstep ?hstepP ?happ ?htail
 case hstep =>
  intro i o a w2 hi ho hF hB hd
  have f0:a.tmps[0]?.getD undef=.pointer (some ⟨p,0,none⟩):=Reg.ev_get (hF.eval 0 (fun i hi=>by show 4+i≠0;omega))
  have f1:a.tmps[1]?.getD undef=.int .i64 n:=Reg.ev_get (hF.eval 1 (fun i hi=>by show 4+i≠1;omega))
  have kc:=(HS.out.on hB).cell
  have hcase:i=0\/i=1\/i=2\/i=3\/i=4\/i=5\/i=6\/i=7:=by omega
  clear hi
  rcases hcase with rfl|rfl|rfl|rfl|rfl|rfl|rfl|rfl
  all_goals (simp only [List.getElem?_toArray,List.getElem?_cons_succ,List.getElem?_cons_zero,Option.some.injEq] at ho;subst ho)
  ·refine Reg.step_k fun K hK=>?_
   go_simp
   exact hK _ _ ⟨_,rfl,Below.refl _ _,rfl⟩
  ·refine Reg.step_k fun K hK=>?_
   go_simp
   exact hK _ _ ⟨_,rfl,Below.refl _ _,rfl⟩
  ·have q0:a.tmps[5]?.getD undef=.pointer (some ⟨p,0,none⟩):=Reg.ev_get (hd 1 (by decide))
   refine Reg.step_k fun K hK=>?_
   go_simp
   exact hK _ _ ⟨_,rfl,Below.refl _ _,rfl⟩
  ·have q0:a.tmps[6]?.getD undef=.pointer (some ⟨p,0,none⟩):=Reg.ev_get (hd 2 (by decide))
   refine Reg.step_k fun K hK=>?_
   go_simp
   exact hK _ _ ⟨_,rfl,Below.refl _ _,rfl⟩
  ·have q0:a.tmps[7]?.getD undef=.pointer (some ⟨p,10,none⟩):=Reg.ev_get (hd 3 (by decide))
   refine Reg.step_k fun K hK=>?_
   go_simp
   exact hK _ _ ⟨_,rfl,Below.refl _ _,rfl⟩
  ·refine Reg.step_k fun K hK=>?_
   go_simp
   exact hK _ _ ⟨_,rfl,Below.refl _ _,rfl⟩
  ·have q0:a.tmps[9]?.getD undef=.int .i64 n:=Reg.ev_get (hd 5 (by decide))
   refine Reg.step_k fun K hK=>?_
   go_simp
   exact hK _ _ ⟨_,rfl,Below.refl _ _,rfl⟩
  ·have q0:a.tmps[10]?.getD undef=.int .u64 n:=Reg.ev_get (hd 6 (by decide))
   refine Reg.step_k fun K hK=>?_
   have HKK:=hideR hK
   clear hK
   go_simp
   refine (lebPutU n w2 h0 (by omega)).mono ?_
   rintro e w3 ⟨rfl,hb3⟩
   exact HKK.out _ _ ⟨_,rfl,hb3,by rw [HSS.out];rfl⟩
 case hstepP =>
  intro i o a w2 hi hp ho hF
  obtain rfl:i=0:=of_decide_eq_true hp
  have f0:a.tmps[0]?.getD undef=.pointer (some ⟨p,0,none⟩):=Reg.ev_get (hF.eval 0 (fun i hi=>by show 4+i≠0;omega))
  simp only [List.getElem?_toArray,List.getElem?_cons_zero,Option.some.injEq] at ho
  subst ho
  refine Reg.step_k fun K hK=>?_
  go_simp
  exact hK _ _ ⟨_,rfl,rfl,rfl⟩
 case happ =>
  intro o a w2 ho hF hB hG
  simp only [List.getElem?_toArray,List.getElem?_cons_succ,List.getElem?_cons_zero,Option.some.injEq] at ho
  subst ho
  have g4:a.eval (.tmp 8)=.slice oV bs.length kV:=hG 4 (by omega) rfl
  have g7:a.eval (.tmp 11)=.string s:=hG 7 (by omega) rfl
  have hT:=HT.out
  exact op_str _ _ rfl (HS.out.on hB) g4 s g7 (Leb.uB n) HC.out HL.out hB (by omega) fun v' w' hA=>⟨v',rfl,by rw [HB2.out];exact hA⟩
 case htail =>
  intro a w2 hF hG hA
  have g0:a.tmps[4]?.getD undef=.pointer (some ⟨p,0,none⟩):=Reg.ev_get (show a.eval (.tmp 4)=_ from hG 0 (by omega) rfl)
  obtain ⟨o2,k2,hv⟩:=hA.slice
  have g8:=Reg.ev_get (a:=a) (k:=12) hv
  rw [show a.eval (.tmp (4+8))=_ from hv] at hA
  have HA:=hideR hA
  obtain ⟨kc,kf⟩:=hA.cell
  have HAS:=hideR hF.size
  have HDF:=hideR hF.defers
  clear hA hv hG hF
  simp only [List.drop_succ_cons,List.drop_zero]
  refine wpList_plain rfl fun K hK=>?_
  go_simp
  refine hK _ _ ?_
  clear hK
  have has:a.tmps.size=15:=HAS.out
  have h12:a.tmps[12]'(by rw [has];decide)=.slice o2 b2.length k2:=by simpa [has] using g8
  refine wpList_plain rfl fun K hK=>?_
  go_simp
  refine hK _ _ ?_
  clear hK
  refine wpList_plain rfl fun K hK=>?_
  go_simp
  refine hK _ _ (wpList_nil ?_)
  exact bodyPost_end (results_none rfl _ _ _) HDF.out ⟨_,rfl,HA.out.ws,HA.out.kept⟩
set_option maxRecDepth 100000 in
set_option maxHeartbeats 2000000 in
theorem wS (w0:World) (p:Nat) (c:Nat->Value) (v:Value) (bs:List Int) (n:Int) (w:World) (h:WS w0 p c v bs w) (h0:-9223372036854775808<=n) (h1:n<=9223372036854775807) (hn:bs.length<=100000000000000):Calls Tryz.prog 82 #[.pointer (some ⟨p,0,none⟩),.int .i64 n] w (Does w0 p c v w (bs++Leb.sB n)):=by
 obtain ⟨b2,hb2⟩:∃b2,b2=bs++Leb.sB n:=⟨_,rfl⟩
 rw [<- hb2]
 have HB2:=hideR hb2
 clear hb2
 obtain ⟨oV,kV,rfl⟩:=h.slice
 have HS:=hideR h
 clear h
 obtain ⟨s,hs⟩:∃s,s=strOfNums (Leb.sB n):=⟨_,rfl⟩
 have HC:Hid (strCells s=cells (Leb.sB n)):=hideR (by rw [hs];exact strCells_nums _ (sB_bd n.natAbs n (Nat.le_refl _)))
 have HL:Hid (s.size=(Leb.sB n).length):=hideR (by rw [hs];exact strOfNums_size _)
 have HT:Hid ((Leb.sB n).length<=10):=hideR (Leb.sB_ten h0 (by omega))
 have HSS:=hideR hs
 clear hs
 have hwr:IntKind.i64.wrap n=n:=by simp [IntKind.wrap,IntKind.signed,IntKind.bits];omega
 go_enter Tryz.func82,Tryz.ntmps82
 refine Reg.wp_region_mid 7 (fun i=>4+i) (fun i=>decide (i=0)) (fun i=>(TS p oV kV bs n s i).1) (App w0 p c (.slice oV bs.length kV) w bs b2) (by kernel_rfl) (by kernel_rfl) (fun i j h1 h2 h=>by have h':4+i=4+j:=h;omega) (Reg.dst_ok (size:=14) (by kernel_rfl)) (fun i v w w' _ h hb=>(TS p oV kV bs n s i).2 v w w' h hb) (fun i v w w' _ hp h=>by obtain rfl:i=0:=of_decide_eq_true hp;exact h) ?hstep ?hstepP ?happ ?htail
 case hstep =>
  intro i o a w2 hi ho hF hB hd
  have f0:a.tmps[0]?.getD undef=.pointer (some ⟨p,0,none⟩):=Reg.ev_get (hF.eval 0 (fun i hi=>by show 4+i≠0;omega))
  have f1:a.tmps[1]?.getD undef=.int .i64 n:=Reg.ev_get (hF.eval 1 (fun i hi=>by show 4+i≠1;omega))
  have kc:=(HS.out.on hB).cell
  have hcase:i=0\/i=1\/i=2\/i=3\/i=4\/i=5\/i=6:=by omega
  clear hi
  rcases hcase with rfl|rfl|rfl|rfl|rfl|rfl|rfl
  all_goals (simp only [List.getElem?_toArray,List.getElem?_cons_succ,List.getElem?_cons_zero,Option.some.injEq] at ho;subst ho)
  ·refine Reg.step_k fun K hK=>?_
   go_simp
   exact hK _ _ ⟨_,rfl,Below.refl _ _,rfl⟩
  ·refine Reg.step_k fun K hK=>?_
   go_simp
   exact hK _ _ ⟨_,rfl,Below.refl _ _,rfl⟩
  ·have q0:a.tmps[5]?.getD undef=.pointer (some ⟨p,0,none⟩):=Reg.ev_get (hd 1 (by decide))
   refine Reg.step_k fun K hK=>?_
   go_simp
   exact hK _ _ ⟨_,rfl,Below.refl _ _,rfl⟩
  ·have q0:a.tmps[6]?.getD undef=.pointer (some ⟨p,0,none⟩):=Reg.ev_get (hd 2 (by decide))
   refine Reg.step_k fun K hK=>?_
   go_simp
   exact hK _ _ ⟨_,rfl,Below.refl _ _,rfl⟩
  ·have q0:a.tmps[7]?.getD undef=.pointer (some ⟨p,10,none⟩):=Reg.ev_get (hd 3 (by decide))
   refine Reg.step_k fun K hK=>?_
   go_simp
   exact hK _ _ ⟨_,rfl,Below.refl _ _,rfl⟩
  ·refine Reg.step_k fun K hK=>?_
   go_simp
   exact hK _ _ ⟨_,rfl,Below.refl _ _,rfl⟩
  ·have q0:a.tmps[9]?.getD undef=.int .i64 n:=Reg.ev_get (hd 5 (by decide))
   refine Reg.step_k fun K hK=>?_
   have HKK:=hideR hK
   clear hK
   go_simp
   refine (lebPutS n w2 h0 h1).mono ?_
   rintro e w3 ⟨rfl,hb3⟩
   exact HKK.out _ _ ⟨_,rfl,hb3,by rw [HSS.out];rfl⟩
 case hstepP =>
  intro i o a w2 hi hp ho hF
  obtain rfl:i=0:=of_decide_eq_true hp
  have f0:a.tmps[0]?.getD undef=.pointer (some ⟨p,0,none⟩):=Reg.ev_get (hF.eval 0 (fun i hi=>by show 4+i≠0;omega))
  simp only [List.getElem?_toArray,List.getElem?_cons_zero,Option.some.injEq] at ho
  subst ho
  refine Reg.step_k fun K hK=>?_
  go_simp
  exact hK _ _ ⟨_,rfl,rfl,rfl⟩
 case happ =>
  intro o a w2 ho hF hB hG
  simp only [List.getElem?_toArray,List.getElem?_cons_succ,List.getElem?_cons_zero,Option.some.injEq] at ho
  subst ho
  have g4:a.eval (.tmp 8)=.slice oV bs.length kV:=hG 4 (by omega) rfl
  have g7:a.eval (.tmp 10)=.string s:=hG 6 (by omega) rfl
  have hT:=HT.out
  exact op_str _ _ rfl (HS.out.on hB) g4 s g7 (Leb.sB n) HC.out HL.out hB (by omega) fun v' w' hA=>⟨v',rfl,by rw [HB2.out];exact hA⟩
 case htail =>
  intro a w2 hF hG hA
  have g0:a.tmps[4]?.getD undef=.pointer (some ⟨p,0,none⟩):=Reg.ev_get (show a.eval (.tmp 4)=_ from hG 0 (by omega) rfl)
  obtain ⟨o2,k2,hv⟩:=hA.slice
  have g8:=Reg.ev_get (a:=a) (k:=11) hv
  rw [show a.eval (.tmp (4+7))=_ from hv] at hA
  have HA:=hideR hA
  obtain ⟨kc,kf⟩:=hA.cell
  have HAS:=hideR hF.size
  have HDF:=hideR hF.defers
  clear hA hv hG hF
  simp only [List.drop_succ_cons,List.drop_zero]
  refine wpList_plain rfl fun K hK=>?_
  go_simp
  refine hK _ _ ?_
  clear hK
  have has:a.tmps.size=14:=HAS.out
  have h12:a.tmps[11]'(by rw [has];decide)=.slice o2 b2.length k2:=by simpa [has] using g8
  refine wpList_plain rfl fun K hK=>?_
  go_simp
  refine hK _ _ ?_
  clear hK
  refine wpList_plain rfl fun K hK=>?_
  go_simp
  refine hK _ _ (wpList_nil ?_)
  exact bodyPost_end (results_none rfl _ _ _) HDF.out ⟨_,rfl,HA.out.ws,HA.out.kept⟩
end Go.Proofs.YtiailkiepndliaaGreatDoor

namespace Go.Proofs.YtiailkiepndliaaGreatDoor
open Go.RowKit Rep Enc Go.Lib
set_option linter.unusedVariables false
set_option maxRecDepth 100000 in
set_option maxHeartbeats 1000000 in
theorem wFull (w0:World) (p:Nat) (c:Nat->Value) (v:Value) (bs:List Int) (w:World) (h:WS w0 p c v bs w) (hn:bs.length<=100000000000000) :
  Calls Tryz.prog 36 #[.pointer (some ⟨p,0,none⟩)] w fun e w'=>e=.returned (.bool (decide (262144<bs.length)))/\w'=w:=by
 obtain ⟨oV,kV,rfl⟩:=h.slice
 have kc:=h.cell
 clear h
 have hd:decide ((262144:Int)<(bs.length:Int))=decide (262144<bs.length):=by
  by_cases hb:262144<bs.length
  ·rw [decide_eq_true hb];exact decide_eq_true (by omega)
  ·rw [decide_eq_false hb];exact decide_eq_false (by omega)
 rw [<- hd]
 clear hd
 generalize bs.length=n at *
 go_enter Tryz.func36,Tryz.ntmps36
 go_wp2
 go_ret
 exact ⟨rfl,rfl⟩
def one (b:Bool):Int:=if b then 1 else 0
end Go.Proofs.YtiailkiepndliaaGreatDoor

namespace Go.Proofs.YtiailkiepndliaaGreatDoor
open Go.RowKit Rep Enc Go.Lib
set_option linter.unusedVariables false
namespace Enc
def idxB (l:List Int):List Int:=Leb.uB (l.length:Int)++l.flatMap Leb.uB
theorem flat_take {f:Int->List Int} {l:List Int} {j:Nat} {x:Int} (hx:l[j]?=some x):(l.take (j+1)).flatMap f=(l.take j).flatMap f++f x:=by
 rw [List.take_add_one,hx,List.flatMap_append];simp
theorem flat_le {f:Int->List Int} (k:Nat):∀(l:List Int),(∀x ∈ l,(f x).length<=k)->(l.flatMap f).length<=l.length*k
 | [],_=>by simp
 | x :: r,h=>by
  rw [List.flatMap_cons,List.length_append,List.length_cons,Nat.add_mul]
  have h1:=h x (List.mem_cons_self ..)
  have h2:=flat_le k r fun y hy=>h y (List.mem_cons_of_mem _ hy)
  omega
theorem flat_len {f:Int->List Int} (k:Nat) (l:List Int) (j:Nat) (h:∀x ∈ l,(f x).length<=k):((l.take j).flatMap f).length<=l.length*k :=
 Nat.le_trans (flat_le k _ fun x hx=>h x (List.mem_of_mem_take hx)) (Nat.mul_le_mul_right _ (by rw [List.length_take];omega))
end Enc
set_option maxRecDepth 100000 in
set_option maxHeartbeats 2000000 in
theorem wIdx (w0:World) (p:Nat) (c:Nat->Value) (v:Value) (bs:List Int) (lv:Value) (l:List Int) (w:World) (h:WS w0 p c v bs w) (hL:Ints w0 lv l) (hr:∀x ∈ l,0<=x/\x<=4294967295) (hl:l.length<=10000000) (hn:bs.length<=50000000000000):Calls Tryz.prog 81 #[.pointer (some ⟨p,0,none⟩),lv] w (Does w0 p c v w (bs++idxB l)):=by
 obtain ⟨oL,kL,rfl⟩:=Row.len hL
 have HL:=hideR hL
 have HR:=hideR hr
 clear hL hr
 have H1:=hideR (wU w0 p c v bs (l.length:Int) w h (by omega) (by omega) (by omega))
 have hten:=Leb.uB_ten (n:=(l.length:Int)) (by omega) (by omega)
 clear h
 obtain ⟨b2,hb2⟩:∃b2,b2=bs++idxB l:=⟨_,rfl⟩
 rw [<- hb2]
 have HB2:=hideR hb2
 clear hb2
 have HLN0:∀j,Hid ((bs++Leb.uB (l.length:Int)++(l.take j).flatMap Leb.uB).length<=100000000000000):=fun j=>hideR (by
  have:=flat_len (f:=Leb.uB) 10 l j (fun x hx=>Leb.uB_ten (HR.out x hx).1 (by have:=(HR.out x hx).2;omega))
  rw [List.length_append,List.length_append]
  omega)
 clear hten
 unfold idxB at HB2
 generalize hln:l.length=n at *
 go_enter Tryz.func81,Tryz.ntmps81
 go_wp2_with fail
 refine H1.out.mono ?_
 rintro e w1 ⟨v1,rfl,h1,k1⟩
 have HK1:=hideR k1
 clear k1
 have HS1:Hid (WS w0 p c v1 (bs++Leb.uB (n:Int)++(l.take 0).flatMap Leb.uB) w1):=hideR (by simpa using h1)
 clear h1 H1
 go_wp2_with fail
 go_loopw [12] (fun i wr=>∃(j:Nat) (v2:Value),j<=n/\i=.int .i64 j/\Hid (WS w0 p c v2 (bs++Leb.uB (n:Int)++(l.take j).flatMap Leb.uB) wr)/\Hid (Kept p v w v2 wr)) (fun i _=>n-(RowKit.intOf i).toNat)
 case atStart=>exact ⟨0,v1,by omega,rfl,HS1,HK1⟩
 case round =>
  clear HS1 HK1
  obtain ⟨j,v2,hj,rfl,HWS,HKW⟩:=hrel
  by_cases hgo:j<n
  ·obtain ⟨b1,off1,cap1,hv1,hx1⟩:=Row.some HL.out (by omega)
   injection hv1 with ho1 e11 e12
   subst ho1
   clear e11 e12
   obtain ⟨x,hxk⟩:∃x,l[j]?=some x:=⟨_,List.getElem?_eq_getElem (by omega)⟩
   have cx:=cell_on HWS.out.below (hx1 j x hxk)
   simp only [Nat.mul_one] at cx
   have HXK:=hideR hxk
   have HLN:=HLN0 j
   clear hx1 hxk
   have HC:=hideR (wU w0 p c v2 (bs++Leb.uB (n:Int)++(l.take j).flatMap Leb.uB) x wr HWS.out (HR.out x (List.mem_of_getElem? HXK.out)).1 (by have:=(HR.out x (List.mem_of_getElem? HXK.out)).2;omega) HLN.out)
   go_wp2_with fail
   refine HC.out.mono ?_
   rintro e w3 ⟨v3,rfl,h3,k3⟩
   have HK3:=hideR (HKW.out.trans k3)
   clear k3
   have HN:Hid (WS w0 p c v3 (bs++Leb.uB (n:Int)++(l.take (j+1)).flatMap Leb.uB) w3):=hideR (by rw [flat_take HXK.out,<- List.append_assoc];exact h3)
   clear h3 HC cx HWS
   go_wp2
   go_roundw
   case rel=>exact ⟨j+1,v3,by omega,by go_num,HN,HK3⟩
   case measure=>simp [RowKit.intOf];omega
  ·obtain rfl:n=j:=by omega
   have HE:Hid (WS w0 p c v2 b2 wr):=hideR (by have:=HWS.out;rw [List.take_of_length_le (by omega)] at this;rw [HB2.out,<- List.append_assoc];exact this)
   clear HWS
   go_wp2
   go_end0
   exact ⟨_,rfl,HE.out,HKW.out⟩
end Go.Proofs.YtiailkiepndliaaGreatDoor


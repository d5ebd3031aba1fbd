/- Texts that the claim needs. -/
import Derived.Test.YtlcpagiljfpbpaaDoorQEUn29
import Derived.Lib.AppendZeros
import Derived.Deep.AppendSrc
import Derived.Test.YtlcpagiljfpbpaaDoorQEUn4
import Derived.Defers
import Derived.Recover
import Derived.Laws.Pointers
namespace Go.Proofs.YtlcpagiljfpbpaaDoor
open Go.RowKit Rep Enc Go.Lib
set_option linter.unusedVariables false
namespace Enc
def PutC (w0:World) (p:Nat) (c:Nat->Value) (v:Value) (bs:List Int) (w:World):Prop:=∀(b:Int) (w':World),Below w.heap.size w w'->Calls Tryd.prog 45 #[.pointer (some ⟨p,0,none⟩),.int .i64 b] w' (Does w0 p c v w' (bs++[b%256]))
theorem PutC.of {w0:World} {p:Nat} {c:Nat->Value} {v:Value} {bs:List Int} {w:World} (h:WS w0 p c v bs w) (hn:bs.length<=100000000000000):PutC w0 p c v bs w:=fun b w' hb=>wPut w0 p c v bs b w' (h.on hb) hn
def SecIn (w0:World) (p:Nat) (c:Nat->Value) (id:Int) (n:Nat) (F:FuncId) (f:Nat->List Int):Prop:=∀(v:Value) (bs:List Int) (qS qW:Nat) (w:World),WS w0 p c v bs w->Bx w qS 66 #[.int .i64 id,.int .i64 n,.func (.func F) #[.pointer (some ⟨p,0,none⟩)] #[]]->Bx w qW 58 #[.pointer (some ⟨p,0,none⟩)]->qS≠p->qW≠p->some qS≠v.ownBlock->some qW≠v.ownBlock ->
 bs.length+(insideB id n f).length<=38900000000000->Calls Tryd.prog 47 #[.pointer (some ⟨qS,0,none⟩),.pointer (some ⟨qW,0,none⟩)] w (DoesA w0 p c v w bs (insideB id n f))
end Enc
set_option maxRecDepth 100000 in
set_option maxHeartbeats 4000000 in
theorem wSection0 (p:Nat) (id:Int) (F:FuncId) (w:World) :
  Calls Tryd.prog 15 #[.pointer (some ⟨p,0,none⟩),.agg #[.int .i64 id,.int .i64 0,.func (.func F) #[.pointer (some ⟨p,0,none⟩)] #[]]] w fun e w'=>e=.returned (.tuple #[])/\Below w.heap.size w w':=by
 go_enter Tryd.func15,Tryd.ntmps15
 go_wp2
 refine bodyPost_ret (results_none rfl _ _ _) rfl ?_
 exact ⟨rfl,((Below.refl _ w).alloc (Nat.le_refl _) _).alloc (by simp) _⟩
set_option maxRecDepth 100000 in
set_option maxHeartbeats 4000000 in
theorem wSection (w0:World) (p:Nat) (c:Nat->Value) (id:Int) (n:Nat) (F:FuncId) (f:Nat->List Int) (v:Value) (bs:List Int) (w:World) (hP:PutC w0 p c v bs w) (hp:p<w.heap.size) (hv:∀k,v.ownBlock=some k->k<w.heap.size) (hS:SecIn w0 p c id n F f) (hn:0<n) (hid:0<=id/\id<=255) (hlen:bs.length+(insideB id n f).length<=38800000000000) :
  Calls Tryd.prog 15 #[.pointer (some ⟨p,0,none⟩),.agg #[.int .i64 id,.int .i64 n,.func (.func F) #[.pointer (some ⟨p,0,none⟩)] #[]]] w (DoesA w0 p c v w bs ([id]++sizB (insideB id n f))):=by
 have hmf:∀(fn:Fn) (first cap:Array Value) (w:World),(Instr.makeFunc fn first cap).run Tryd.prog w=.ok (.func fn first cap) w:=fun _ _ _ _=>rfl
 have hid':id%256=id:=by omega
 have hn0:¬ ((n:Int)=0):=by omega
 have hu:Below w.heap.size w (w.alloc (.cells #[.pointer (some ⟨p,0,none⟩)] 58)):=new_on' w _
 obtain ⟨u1,hu1⟩:∃u1,u1=w.alloc (.cells #[.pointer (some ⟨p,0,none⟩)] 58):=⟨_,rfl⟩
 rw [<- hu1] at hu
 have hq:u1.heap.size=w.heap.size+1:=by rw [hu1];simp
 obtain ⟨u2,hu2⟩:∃u2,u2=u1.alloc (.cells #[.int .i64 id,.int .i64 n,.func (.func F) #[.pointer (some ⟨p,0,none⟩)] #[]] 66):=⟨_,rfl⟩
 have hb2:Below u1.heap.size u1 u2:=by rw [hu2];exact new_on' u1 _
 have hW:Bx u2 w.heap.size 58 #[.pointer (some ⟨p,0,none⟩)]:=by
  unfold Bx
  rw [hb2.block _ (by omega),hu1];exact heap_new w _
 have hX:Bx u2 (w.heap.size+1) 66 #[.int .i64 id,.int .i64 n,.func (.func F) #[.pointer (some ⟨p,0,none⟩)] #[]]:=by rw [hu2];exact Bx.new hq.symm
 have hbw:Below w.heap.size w u2:=hu.trans (hb2.mono (by omega))
 have HK0:Hid (Kept p v w v u2):=hideR (Kept.below hbw)
 have k0:=hX.cell 0 _ rfl
 have k1:=hX.cell 1 _ rfl
 have kw:=hW.cell 0 _ rfl
 have HC:=hideR (hP id u2 hbw)
 rw [hid'] at HC
 have HW:=hideR hW
 have HX:=hideR hX
 have HN:Hid (w.heap.size≠p/\w.heap.size+1≠p/\some w.heap.size≠v.ownBlock/\some (w.heap.size+1)≠v.ownBlock):=hideR ⟨by omega,by omega,fun e=>by have:=hv _ e.symm;omega,fun e=>by have:=hv _ e.symm;omega⟩
 have HS:=hideR hS
 have HU1:=hideR hu1
 have HU2:=hideR hu2
 have HLEN:=hideR hlen
 clear hu hq hb2 hW hX hbw hP hp hv hS hu1 hu2 hlen hid hid'
 go_enter Tryd.func15,Tryd.ntmps15
 go_upto_region 1 with fail
 rw [<- HU1.out,<- HU2.out]
 clear HU1 HU2
 go_wp2_with fail
 refine HC.out.mono ?_
 rintro e w3 ⟨v3,rfl,h3,k3⟩
 obtain ⟨bW,oW⟩:=k3.bx HW.out HN.out.1 HN.out.2.2.1
 obtain ⟨bX,oX⟩:=k3.bx HX.out HN.out.2.1 HN.out.2.2.2
 have kw3:=bW.cell 0 _ rfl
 have HK3:=hideR (HK0.out.trans k3)
 have HC2:=hideR (wSizedS w0 p c v3 (bs++[id]) (insideB id n f) ⟨w.heap.size+1,0,none⟩ ⟨w.heap.size,0,none⟩ w3 h3 (HS.out v3 (bs++[id]) (w.heap.size+1) w.heap.size w3 h3 bX bW HN.out.2.1 HN.out.1 oX oW (by have:=HLEN.out;rw [List.length_append];simp only [List.length_cons,List.length_nil];omega)) (by have:=HLEN.out;rw [List.length_append];simp only [List.length_cons,List.length_nil];omega))
 clear bW bX oW oX k3 h3 HC HK0 HW HX HN k0 k1 kw
 go_wp2_with fail
 refine HC2.out.mono ?_
 rintro e w4 ⟨v4,b4,rfl,h4,k4,a4,l4⟩
 have HS4:=hideR h4
 have HK4:=hideR (HK3.out.trans k4)
 have HF:Hid (So bs ([id]++sizB (insideB id n f)) b4):=hideR (by
  have h3:=(So.refl bs).app [id]
  rw [List.nil_append] at h3
  exact h3.adds a4 l4)
 clear h4 k4 a4 l4 HC2 kw3
 go_wp2
 go_end0
 exact ⟨_,_,rfl,HS4.out,HK4.out,HF.out.1,HF.out.2⟩
namespace Enc
theorem heap_new1 (w:World) (o1 o2:Obj):((w.alloc o1).alloc o2).heap[w.heap.size+1]?=some o2:=by
 have h:=heap_new (w.alloc o1) o2
 rwa [show (w.alloc o1).heap.size=w.heap.size+1 by simp] at h
def secCells (p:Nat) (n:Nat->Nat):Array Value :=
 #[.int .i64 1,.int .i64 (n 0:Nat),.func (.func 34) #[.pointer (some ⟨p,0,none⟩)] #[],
  .int .i64 2,.int .i64 (n 1:Nat),.func (.func 35) #[.pointer (some ⟨p,0,none⟩)] #[],
  .int .i64 3,.int .i64 (n 2:Nat),.func (.func 36) #[.pointer (some ⟨p,0,none⟩)] #[],
  .int .i64 4,.int .i64 (n 3:Nat),.func (.func 37) #[.pointer (some ⟨p,0,none⟩)] #[],
  .int .i64 5,.int .i64 (n 4:Nat),.func (.func 38) #[.pointer (some ⟨p,0,none⟩)] #[],
  .int .i64 6,.int .i64 (n 5:Nat),.func (.func 39) #[.pointer (some ⟨p,0,none⟩)] #[],
  .int .i64 7,.int .i64 (n 6:Nat),.func (.func 40) #[.pointer (some ⟨p,0,none⟩)] #[],
  .int .i64 8,.int .i64 (n 7:Nat),.func (.func 41) #[.pointer (some ⟨p,0,none⟩)] #[],
  .int .i64 9,.int .i64 (n 8:Nat),.func (.func 42) #[.pointer (some ⟨p,0,none⟩)] #[],
  .int .i64 10,.int .i64 (n 2:Nat),.func (.func 43) #[.pointer (some ⟨p,0,none⟩)] #[],
  .int .i64 11,.int .i64 (n 9:Nat),.func (.func 44) #[.pointer (some ⟨p,0,none⟩)] #[]]
end Enc
set_option maxRecDepth 100000 in
set_option maxHeartbeats 4000000 in
theorem wSections (p:Nat) (o:Nat->Option Addr) (n k:Nat->Nat) (w:World) (hc:∀i,i<10->w.cell? ⟨p,i,none⟩=some (.slice (o i) (n i) (k i))) :
  Calls Tryd.prog 14 #[.pointer (some ⟨p,0,none⟩)] w fun e w'=>e=.returned (.slice (some ⟨w.heap.size+1,0,none⟩) 11 11)/\w'.heap[w.heap.size+1]?=some (.cells (secCells p n) 66 (0,0))/\Below w.heap.size w w':=by
 have hmf:∀(fn:Fn) (first cap:Array Value) (w:World),(Instr.makeFunc fn first cap).run Tryd.prog w=.ok (.func fn first cap) w:=fun _ _ _ _=>rfl
 have c0:=hc 0 (by omega)
 have c1:=hc 1 (by omega)
 have c2:=hc 2 (by omega)
 have c3:=hc 3 (by omega)
 have c4:=hc 4 (by omega)
 have c5:=hc 5 (by omega)
 have c6:=hc 6 (by omega)
 have c7:=hc 7 (by omega)
 have c8:=hc 8 (by omega)
 have c9:=hc 9 (by omega)
 clear hc
 generalize ho0:o 0=o0 at *
 generalize ho1:o 1=o1 at *
 generalize ho2:o 2=o2 at *
 generalize ho3:o 3=o3 at *
 generalize ho4:o 4=o4 at *
 generalize ho5:o 5=o5 at *
 generalize ho6:o 6=o6 at *
 generalize ho7:o 7=o7 at *
 generalize ho8:o 8=o8 at *
 generalize ho9:o 9=o9 at *
 unfold secCells
 generalize hn0:n 0=n0 at *
 generalize hn1:n 1=n1 at *
 generalize hn2:n 2=n2 at *
 generalize hn3:n 3=n3 at *
 generalize hn4:n 4=n4 at *
 generalize hn5:n 5=n5 at *
 generalize hn6:n 6=n6 at *
 generalize hn7:n 7=n7 at *
 generalize hn8:n 8=n8 at *
 generalize hn9:n 9=n9 at *
 clear ho0 ho1 ho2 ho3 ho4 ho5 ho6 ho7 ho8 ho9 hn0 hn1 hn2 hn3 hn4 hn5 hn6 hn7 hn8 hn9
 go_enter Tryd.func14,Tryd.ntmps14
 go_wp2
 go_ret
 refine ⟨rfl,?_,((Below.refl _ w).alloc (Nat.le_refl _) _).alloc (by simp) _⟩
 exact heap_new1 _ _ _
end Go.Proofs.YtlcpagiljfpbpaaDoor

namespace Go.Proofs.YtlcpagiljfpbpaaDoor
open Go.RowKit Rep Enc Go.Lib
set_option linter.unusedVariables false
namespace Enc
def headB:List Int:=[0,97,115,109,1,0,0,0]
structure WN (w0:World) (p:Nat) (c:Nat->Value) (v:Value) (w:World):Prop where
 below:Below w0.heap.size w0 w
 base:w0.heap.size<=p
 blk:w.heap[p]?=some (.cells #[c 0,c 1,c 2,c 3,c 4,c 5,c 6,c 7,c 8,c 9,v] 61 (0,0))
 row:∃g,v=.slice (some ⟨g,0,none⟩) 8 8/\w0.heap.size<=g/\g≠p/\w.heap[g]?=some (.cells (cells headB).toArray 5 (8,9))
section
variable {w0 w w':World} {p:Nat} {c:Nat->Value} {v:Value}
theorem WN.cell (h:WN w0 p c v w):w.cell? ⟨p,10,none⟩=some v:=by unfold World.cell?;rw [h.blk];rfl
theorem WN.frz (h:WN w0 p c v w):w.frozen? ⟨p,10,none⟩=false:=by unfold World.frozen?;rw [h.blk];simp
theorem WN.lt (h:WN w0 p c v w):p<w.heap.size:=(Array.getElem?_eq_some_iff.1 h.blk).1
theorem WN.on (h:WN w0 p c v w) (hb:Below w.heap.size w w'):WN w0 p c v w' :=
 ⟨h.below.trans (hb.mono h.below.size),h.base,by rw [hb.block p h.lt];exact h.blk,by
  obtain ⟨g,h1,h2,h3,h4⟩:=h.row
  exact ⟨g,h1,h2,h3,by rw [hb.block g (Array.getElem?_eq_some_iff.1 h4).1];exact h4⟩⟩
theorem WN.fld (h:WN w0 p c v w) (i:Nat) (hi:i<10):w.cell? ⟨p,i,none⟩=some (c i):=by
 unfold World.cell?;rw [h.blk]
 match i,hi with
 | 0,_=>rfl|1,_=>rfl|2,_=>rfl|3,_=>rfl|4,_=>rfl|5,_=>rfl|6,_=>rfl|7,_=>rfl|8,_=>rfl|9,_=>rfl
end
end Enc
set_option maxRecDepth 100000 in
set_option maxHeartbeats 1000000 in
theorem wPutN (w0:World) (p:Nat) (c:Nat->Value) (v:Value) (b:Int) (w:World) (h:WN w0 p c v w) :
  Calls Tryd.prog 45 #[.pointer (some ⟨p,0,none⟩),.int .i64 b] w (Does w0 p c v w (headB++[b%256])):=by
 obtain ⟨g,rfl,hgb,hgp,hg⟩:=h.row
 obtain ⟨i0,hi0,hz0,hzs,hzb⟩:=info_parts u8Info
 have hw:=wrap_u8 b
 have kc:=h.cell
 obtain ⟨W,hW⟩:∃W,W=w.alloc (.cells #[.int .u8 (b%256)] 5):=⟨_,rfl⟩
 have hbW:Below w.heap.size w W:=by rw [hW];exact new_on' w _
 have hWs:W.heap.size=w.heap.size+1:=by rw [hW];simp
 have hglt:g<w.heap.size:=(Array.getElem?_eq_some_iff.1 hg).1
 have hgW:W.heap[g]?=some (.cells (cells headB).toArray 5 (8,9)):=by rw [hbW.block g hglt];exact hg
 have hnew:∀(j:Nat) (u:Value),[Value.int .u8 (b%256)][j]?=some u->W.cell? ((⟨w.heap.size,0,none⟩:Addr).add j)=some u:=by rw [hW];exact one_new _ _ _
 have hsrc:Src Tryd.prog i0.size 59 (.slice (some ⟨w.heap.size,0,none⟩) 1 1) 1 [.int .u8 (b%256)] W:=by
  rw [hzs]
  exact Src.ofSlice W Tryd.underlying59 ⟨w.heap.size,0,none⟩ 1 1 [.int .u8 (b%256)] rfl hnew (fun u hu=>by rw [List.mem_singleton.1 hu];rfl)
 have hold:(Builtin.firstCells i0.size 8 (.slice (some ⟨g,0,none⟩) 8 8)).run Tryd.prog W.drew=.ok (cells headB).toArray W.drew:=by
  rw [hzs]
  exact run_firstCells_some W.drew 1 8 ⟨g,0,none⟩ 8 8 (cells headB) rfl (fun j u hj=>by
   rw [Addr.add_lit,Nat.zero_add,cell_of_row W.drew g j _ _ _ hgW];simpa using hj)
 have hrun:∀ty,(Builtin.append_ #[59,59] ty #[.slice (some ⟨g,0,none⟩) 8 8,.slice (some ⟨w.heap.size,0,none⟩) 1 1]).run Tryd.prog W=_:=fun ty =>
  run_append_grow_src W 59 59 ty 5 i0 _ Tryd.underlying59 hi0 hz0 (some ⟨g,0,none⟩) 8 8 (cells headB) hold _ 1 _ hsrc (by omega) (by omega) (by rw [hzb];exact growslice_fits (by omega) (by omega))
 have hge:=grownCap_ge W (8+1) 8 5
 have hcm:grownCap W (8+1) 8 5<=maxLen:=grownCap_le_maxLen W _ 8 5 (by unfold maxLen;omega)
 generalize grownCap W (8+1) 8 5=G at hrun hge hcm
 obtain ⟨w9,hw9⟩:∃w9,w9=W.drew.alloc (.cells ((cells headB++[Value.int .u8 (b%256)]).toArray++Builtin.zeroCells (Value.int .u8 0).cells (G-(8+1))) 5):=⟨_,rfl⟩
 rw [<- hw9] at hrun
 have hb9:Below W.heap.size W w9:=by rw [hw9];exact ⟨rfl,rfl,rfl,by simp,fun k hk=>(new_on' W.drew _).block k hk⟩
 have ho9:w9.ownsRow w0.heap.size 5 1 (.slice (some ⟨W.heap.size,0,none⟩) (8+1) G) (headB++[b%256]).length (cells (headB++[b%256])):=by
  refine ⟨rfl,.inr ⟨W.heap.size,G,_,rfl,by rw [hWs];have:=h.below.size;omega,by rw [hw9];exact heap_new W.drew _,hge,hcm,?_,?_⟩⟩
  ·simp [Builtin.zeroCells,Value.cells,cells,headB]
   omega
  ·rw [Array.toList_append,List.take_append_of_le_length (by simp [cells,headB])]
   rfl
 have hbw9:Below w.heap.size w w9:=hbW.trans (hb9.mono (by omega))
 have hp9:w9.heap[p]?=some (.cells #[c 0,c 1,c 2,c 3,c 4,c 5,c 6,c 7,c 8,c 9,.slice (some ⟨g,0,none⟩) 8 8] 61 (0,0)):=by rw [hbw9.block p h.lt];exact h.blk
 have hE:WS w0 p c (.slice (some ⟨W.heap.size,0,none⟩) (8+1) G) (headB++[b%256]) (w9.setCell ⟨p,10,none⟩ (.slice (some ⟨W.heap.size,0,none⟩) (8+1) G)):=by
  have hne:W.heap.size≠p:=by have:=h.lt;omega
  refine ⟨(h.below.trans (hbw9.mono h.below.size)).setCell h.base _,h.base,heap_setCell_same w9 p 10 _ _ _ hp9,?_,by simp [Value.ownBlock];omega⟩
  refine ⟨ho9.1,ho9.2.imp id fun ⟨g,cap,cur,k1,k2,k3,k4⟩=>⟨g,cap,cur,k1,k2,?_,k4⟩⟩
  injection k1 with k1 _ _
  injection k1 with k1
  injection k1 with k1 _ _
  rw [Below.heap_setCell _ _ _ _ (by show g≠p;omega)]
  exact k3
 have hK:Kept p (.slice (some ⟨g,0,none⟩) 8 8) w (.slice (some ⟨W.heap.size,0,none⟩) (8+1) G) (w9.setCell ⟨p,10,none⟩ (.slice (some ⟨W.heap.size,0,none⟩) (8+1) G)) :=
  ⟨by have:=hbw9.size;simpa using this,fun k hk hkp _=>by rw [Below.heap_setCell _ _ _ _ (by show k≠p;exact hkp),hbw9.block k hk],fun k hk=>.inr (by
   have:W.heap.size=k:=by simpa [Value.ownBlock] using hk
   omega)⟩
 have HE:=hideR hE
 have HK:=hideR hK
 have kc9:w9.cell? ⟨p,10,none⟩=some (.slice (some ⟨g,0,none⟩) 8 8):=by unfold World.cell?;rw [hp9];rfl
 have kf9:w9.frozen? ⟨p,10,none⟩=false:=by unfold World.frozen?;rw [hp9];simp
 have HW:=hideR hW
 clear hE hK ho9 hb9 hbw9 hp9 hbW hgW hnew hsrc hold hge hcm hw9 hW h hg hgb hgp hglt hWs
 go_enter Tryd.func45,Tryd.ntmps45
 go_wp2_with (at_builtin;rw [<- HW.out];refine Lib.wpList_append_run _ rfl _ _ _ _ rfl _ _ rfl rfl _ _ (hrun _) ?_)
 go_end0
 exact ⟨_,rfl,HE.out,HK.out⟩
set_option maxRecDepth 100000 in
set_option maxHeartbeats 1000000 in
theorem wToldN (w0:World) (p:Nat) (c:Nat->Value) (v:Value) (w:World) (h:WN w0 p c v w) :
  Calls Tryd.prog 16 #[.pointer (some ⟨p,0,none⟩)] w fun e w'=>e=.returned (told headB)/\w'=w:=by
 obtain ⟨g,rfl,hgb,hgp,hg⟩:=h.row
 have kc:=h.cell
 have hcv:(convert 59 9 (.slice (some ⟨g,0,none⟩) 8 8)).run Tryd.prog w=.ok (.string (strOfNums headB)) w :=
  run_convert_bytes_arg w 59 5 Tryd.underlying59 Tryd.underlying5 g 0 8 8 headB rfl (fun i hi=>by
   rw [Nat.zero_add,cell_of_row w g i _ _ _ hg]
   match i,hi with
   | 0,_=>rfl|1,_=>rfl|2,_=>rfl|3,_=>rfl|4,_=>rfl|5,_=>rfl|6,_=>rfl|7,_=>rfl) 9 Tryd.underlying9
 have ht:told headB=.tuple #[.string (strOfNums headB),.int .i64 0]:=by unfold told;rw [if_neg (by decide)]
 rw [ht]
 generalize strOfNums headB=S at hcv ⊢
 clear h hg ht
 go_enter Tryd.func16,Tryd.ntmps16
 go_wp2
 go_ret2
 exact ⟨rfl,rfl⟩
end Go.Proofs.YtlcpagiljfpbpaaDoor

namespace Go.Proofs.YtlcpagiljfpbpaaDoor
open Go.RowKit Rep Enc Go.Lib
set_option linter.unusedVariables false
namespace Enc
structure Wr {d:Nat} (m:Mod d):Prop where
 types:∀x ∈ m.types,x.params.length<=1000000/\x.results.length<=1000000
 imports:∀x ∈ m.imports,x.mod.size<=1000000/\x.name.size<=1000000/\0<=x.type/\x.type<=4294967295
 funcs:∀x ∈ m.funcs,(0<=x.type/\x.type<=4294967295)/\Rg d x.body/\x.locals.length<=1000000
 tables:∀x ∈ m.tables,(0<=x.min/\x.min<=4294967295)/\0<=x.max/\x.max<=4294967295
 mems:∀x ∈ m.mems,(0<=x.min/\x.min<=4294967295)/\0<=x.max/\x.max<=4294967295
 globals:∀x ∈ m.globals,Rg1 (Rg d) x.init
 exports:∀x ∈ m.exports,x.name.size<=1000000/\0<=x.index/\x.index<=4294967295
 start:∀x ∈ m.start,0<=x/\x<=4294967295
 elems:∀x ∈ m.elems,Rg1 (Rg d) x.offset/\(∀y ∈ x.funcs,0<=y/\y<=4294967295)/\x.funcs.length<=1000000
 datas:∀x ∈ m.datas,Rg1 (Rg d) x.offset/\x.bytes.size<=1000000
 few:m.types.length<=1000000/\m.imports.length<=1000000/\m.funcs.length<=1000000/\m.tables.length<=1000000/\m.mems.length<=1000000/\m.globals.length<=1000000/\m.exports.length<=1000000/\m.start.length<=1000000/\m.elems.length<=1000000/\m.datas.length<=1000000
 short:(modB m).length<=38000000000000
 typs:∀x ∈ m.funcs,∀y ∈ x.locals,y=126\/y=127
 once:m.start.length<=1
def ent {α:Type} (l:List α) (g:α->List Int) (i:Nat):List Int:=((l[i]?).map g).getD []
theorem ent_at {α:Type} {l:List α} {g:α->List Int} {i:Nat} {x:α} (h:l[i]?=some x):ent l g i=g x:=by unfold ent;rw [h];rfl
theorem ent_fst {α:Type} (l:List α) (g:α->List Int):∀j,j<=l.length->fstB (ent l g) j=(l.take j).flatMap g
 | 0,_=>by simp [fstB]
 | j+1,h=>by
  obtain ⟨x,hx⟩:∃x,l[j]?=some x:=⟨_,List.getElem?_eq_getElem (by omega)⟩
  show fstB (ent l g) j++ent l g j=_
  rw [ent_fst l g j (by omega),ent_at hx,fm_take hx]
theorem ent_all {α:Type} (l:List α) (g:α->List Int):fstB (ent l g) l.length=l.flatMap g:=by
 rw [ent_fst l g _ (Nat.le_refl _),List.take_of_length_le (Nat.le_refl _)]
theorem inside_lis {α:Type} (id:Int) (hid:id≠8) (l:List α) (g:α->List Int):insideB id l.length (ent l g)=lisB g l:=by
 unfold insideB lisB
 rw [if_neg hid,ent_all]
theorem inside_st {α:Type} (l:List α) (g:α->List Int):insideB 8 l.length (ent l g)=l.flatMap g:=by
 unfold insideB
 rw [if_pos rfl,ent_all];simp
def sb {d:Nat} (m:Mod d):Nat->List Int
 | 0=>secB 1 m.types.length (lisB ftB m.types)
 | 1=>secB 2 m.imports.length (lisB impB m.imports)
 | 2=>secB 3 m.funcs.length (lisB (fun x=>Leb.uB x.type) m.funcs)
 | 3=>secB 4 m.tables.length (lisB (fun x=>[112]++limB x) m.tables)
 | 4=>secB 5 m.mems.length (lisB limB m.mems)
 | 5=>secB 6 m.globals.length (lisB gloB m.globals)
 | 6=>secB 7 m.exports.length (lisB expB m.exports)
 | 7=>secB 8 m.start.length (m.start.flatMap Leb.uB)
 | 8=>secB 9 m.elems.length (lisB elmB m.elems)
 | 9=>secB 10 m.funcs.length (lisB (fun x=>sizB (codB x)) m.funcs)
 | 10=>secB 11 m.datas.length (lisB datB m.datas)
 | _=>[]
theorem modB_sb {d:Nat} (m:Mod d):modB m=headB++fstB (sb m) 11:=by
 show modB m=headB++(((((((((((([]:List Int)++sb m 0)++sb m 1)++sb m 2)++sb m 3)++sb m 4)++sb m 5)++sb m 6)++sb m 7)++sb m 8)++sb m 9)++sb m 10)
 simp only [List.nil_append,<- List.append_assoc]
 rfl
def ln {d:Nat} (m:Mod d):Nat->Nat
 | 0=>m.types.length
 | 1=>m.imports.length
 | 2=>m.funcs.length
 | 3=>m.tables.length
 | 4=>m.mems.length
 | 5=>m.globals.length
 | 6=>m.exports.length
 | 7=>m.start.length
 | 8=>m.elems.length
 | 9=>m.datas.length
 | _=>0
end Enc
theorem sec1 {I:World->Prop} (C:FormC I) (w0:World) (hI:I w0) (p:Nat) (c:Nat->Value) (d:Nat) (m:Mod d) (hM:ModAt w0 d (c 0) (c 1) (c 2) (c 3) (c 4) (c 5) (c 6) (c 7) (c 8) (c 9) m) (W:Wr m):SecIn w0 p c 1 m.types.length 34 (ent m.types ftB):=fun v bs qS qW w h hS hW n1 n2 n3 n4 hlen =>
 wSec1 w0 p c v bs m.types.length (ent m.types ftB) qS qW w h (fun i v bs w hi h hl=>by
  obtain ⟨x,hx⟩:∃x,m.types[i]?=some x:=⟨_,List.getElem?_eq_getElem hi⟩
  have r:=W.types x (List.mem_of_getElem? hx)
  rw [ent_at hx]
  exact (eType w0 p c v bs d m w h hM i x hx r.1 r.2 (by omega)).mono fun _ _ h=>DoesA.of h) hS hW n1 n2 n3 n4 (by have:=W.few;omega) hlen
theorem sec2 {I:World->Prop} (C:FormC I) (w0:World) (hI:I w0) (p:Nat) (c:Nat->Value) (d:Nat) (m:Mod d) (hM:ModAt w0 d (c 0) (c 1) (c 2) (c 3) (c 4) (c 5) (c 6) (c 7) (c 8) (c 9) m) (W:Wr m):SecIn w0 p c 2 m.imports.length 35 (ent m.imports impB):=fun v bs qS qW w h hS hW n1 n2 n3 n4 hlen =>
 wSec2 w0 p c v bs m.imports.length (ent m.imports impB) qS qW w h (fun i v bs w hi h hl=>by
  obtain ⟨x,hx⟩:∃x,m.imports[i]?=some x:=⟨_,List.getElem?_eq_getElem hi⟩
  have r:=W.imports x (List.mem_of_getElem? hx)
  rw [ent_at hx]
  exact (eImp w0 p c v bs d m w h hM i x hx r.1 r.2.1 r.2.2 (by omega)).mono fun _ _ h=>DoesA.of h) hS hW n1 n2 n3 n4 (by have:=W.few;omega) hlen
theorem sec3 {I:World->Prop} (C:FormC I) (w0:World) (hI:I w0) (p:Nat) (c:Nat->Value) (d:Nat) (m:Mod d) (hM:ModAt w0 d (c 0) (c 1) (c 2) (c 3) (c 4) (c 5) (c 6) (c 7) (c 8) (c 9) m) (W:Wr m):SecIn w0 p c 3 m.funcs.length 36 (ent m.funcs (fun x=>Leb.uB x.type)):=fun v bs qS qW w h hS hW n1 n2 n3 n4 hlen =>
 wSec3 w0 p c v bs m.funcs.length (ent m.funcs (fun x=>Leb.uB x.type)) qS qW w h (fun i v bs w hi h hl=>by
  obtain ⟨x,hx⟩:∃x,m.funcs[i]?=some x:=⟨_,List.getElem?_eq_getElem hi⟩
  have r:=W.funcs x (List.mem_of_getElem? hx)
  rw [ent_at hx]
  exact (eFun w0 p c v bs d m w h hM i x hx r.1 (by omega)).mono fun _ _ h=>DoesA.of h) hS hW n1 n2 n3 n4 (by have:=W.few;omega) hlen
theorem sec4 {I:World->Prop} (C:FormC I) (w0:World) (hI:I w0) (p:Nat) (c:Nat->Value) (d:Nat) (m:Mod d) (hM:ModAt w0 d (c 0) (c 1) (c 2) (c 3) (c 4) (c 5) (c 6) (c 7) (c 8) (c 9) m) (W:Wr m):SecIn w0 p c 4 m.tables.length 37 (ent m.tables (fun x=>[112]++limB x)):=fun v bs qS qW w h hS hW n1 n2 n3 n4 hlen =>
 wSec4 w0 p c v bs m.tables.length (ent m.tables (fun x=>[112]++limB x)) qS qW w h (fun i v bs w hi h hl=>by
  obtain ⟨x,hx⟩:∃x,m.tables[i]?=some x:=⟨_,List.getElem?_eq_getElem hi⟩
  have r:=W.tables x (List.mem_of_getElem? hx)
  rw [ent_at hx]
  exact (eTab w0 p c v bs d m w h hM i x hx r.1 r.2 (by omega)).mono fun _ _ h=>DoesA.of h) hS hW n1 n2 n3 n4 (by have:=W.few;omega) hlen
theorem sec5 {I:World->Prop} (C:FormC I) (w0:World) (hI:I w0) (p:Nat) (c:Nat->Value) (d:Nat) (m:Mod d) (hM:ModAt w0 d (c 0) (c 1) (c 2) (c 3) (c 4) (c 5) (c 6) (c 7) (c 8) (c 9) m) (W:Wr m):SecIn w0 p c 5 m.mems.length 38 (ent m.mems limB):=fun v bs qS qW w h hS hW n1 n2 n3 n4 hlen =>
 wSec5 w0 p c v bs m.mems.length (ent m.mems limB) qS qW w h (fun i v bs w hi h hl=>by
  obtain ⟨x,hx⟩:∃x,m.mems[i]?=some x:=⟨_,List.getElem?_eq_getElem hi⟩
  have r:=W.mems x (List.mem_of_getElem? hx)
  rw [ent_at hx]
  exact (eMem w0 p c v bs d m w h hM i x hx r.1 r.2 (by omega)).mono fun _ _ h=>DoesA.of h) hS hW n1 n2 n3 n4 (by have:=W.few;omega) hlen
theorem sec6 {I:World->Prop} (C:FormC I) (w0:World) (hI:I w0) (p:Nat) (c:Nat->Value) (d:Nat) (m:Mod d) (hM:ModAt w0 d (c 0) (c 1) (c 2) (c 3) (c 4) (c 5) (c 6) (c 7) (c 8) (c 9) m) (W:Wr m):SecIn w0 p c 6 m.globals.length 39 (ent m.globals gloB):=fun v bs qS qW w h hS hW n1 n2 n3 n4 hlen =>
 wSec6 w0 p c v bs m.globals.length (ent m.globals gloB) qS qW w h (fun i v bs w hi h hl=>by
  obtain ⟨x,hx⟩:∃x,m.globals[i]?=some x:=⟨_,List.getElem?_eq_getElem hi⟩
  have r:=W.globals x (List.mem_of_getElem? hx)
  rw [ent_at hx]
  exact eGlo C w0 hI p c v bs d m w h hM i x hx r (by rw [ent_at hx] at hl;unfold gloB at hl;omega)) hS hW n1 n2 n3 n4 (by have:=W.few;omega) hlen
theorem sec7 {I:World->Prop} (C:FormC I) (w0:World) (hI:I w0) (p:Nat) (c:Nat->Value) (d:Nat) (m:Mod d) (hM:ModAt w0 d (c 0) (c 1) (c 2) (c 3) (c 4) (c 5) (c 6) (c 7) (c 8) (c 9) m) (W:Wr m):SecIn w0 p c 7 m.exports.length 40 (ent m.exports expB):=fun v bs qS qW w h hS hW n1 n2 n3 n4 hlen =>
 wSec7 w0 p c v bs m.exports.length (ent m.exports expB) qS qW w h (fun i v bs w hi h hl=>by
  obtain ⟨x,hx⟩:∃x,m.exports[i]?=some x:=⟨_,List.getElem?_eq_getElem hi⟩
  have r:=W.exports x (List.mem_of_getElem? hx)
  rw [ent_at hx]
  exact (eExp w0 p c v bs d m w h hM i x hx r.1 r.2 (by omega)).mono fun _ _ h=>DoesA.of h) hS hW n1 n2 n3 n4 (by have:=W.few;omega) hlen
theorem sec8 {I:World->Prop} (C:FormC I) (w0:World) (hI:I w0) (p:Nat) (c:Nat->Value) (d:Nat) (m:Mod d) (hM:ModAt w0 d (c 0) (c 1) (c 2) (c 3) (c 4) (c 5) (c 6) (c 7) (c 8) (c 9) m) (W:Wr m):SecIn w0 p c 8 m.start.length 41 (ent m.start Leb.uB):=fun v bs qS qW w h hS hW n1 n2 n3 n4 hlen =>
 wSec8 w0 p c v bs m.start.length (ent m.start Leb.uB) qS qW w h (fun i v bs w hi h hl=>by
  obtain ⟨x,hx⟩:∃x,m.start[i]?=some x:=⟨_,List.getElem?_eq_getElem hi⟩
  have r:=W.start x (List.mem_of_getElem? hx)
  rw [ent_at hx]
  exact (eStart w0 p c v bs d m w h hM i x hx r (by omega)).mono fun _ _ h=>DoesA.of h) hS hW n1 n2 n3 n4 (by have:=W.few;omega) hlen
theorem sec9 {I:World->Prop} (C:FormC I) (w0:World) (hI:I w0) (p:Nat) (c:Nat->Value) (d:Nat) (m:Mod d) (hM:ModAt w0 d (c 0) (c 1) (c 2) (c 3) (c 4) (c 5) (c 6) (c 7) (c 8) (c 9) m) (W:Wr m):SecIn w0 p c 9 m.elems.length 42 (ent m.elems elmB):=fun v bs qS qW w h hS hW n1 n2 n3 n4 hlen =>
 wSec9 w0 p c v bs m.elems.length (ent m.elems elmB) qS qW w h (fun i v bs w hi h hl=>by
  obtain ⟨x,hx⟩:∃x,m.elems[i]?=some x:=⟨_,List.getElem?_eq_getElem hi⟩
  have r:=W.elems x (List.mem_of_getElem? hx)
  rw [ent_at hx]
  exact eElm C w0 hI p c v bs d m w h hM i x hx r.1 r.2.1 r.2.2 (by rw [ent_at hx] at hl;unfold elmB at hl;omega)) hS hW n1 n2 n3 n4 (by have:=W.few;omega) hlen
theorem sec10 {I:World->Prop} (C:FormC I) (w0:World) (hI:I w0) (p:Nat) (c:Nat->Value) (d:Nat) (m:Mod d) (hM:ModAt w0 d (c 0) (c 1) (c 2) (c 3) (c 4) (c 5) (c 6) (c 7) (c 8) (c 9) m) (W:Wr m):SecIn w0 p c 10 m.funcs.length 43 (ent m.funcs (fun x=>sizB (codB x))):=fun v bs qS qW w h hS hW n1 n2 n3 n4 hlen =>
 wSec10 w0 p c v bs m.funcs.length (ent m.funcs (fun x=>sizB (codB x))) qS qW w h (fun i v bs w hi h hl=>by
  obtain ⟨x,hx⟩:∃x,m.funcs[i]?=some x:=⟨_,List.getElem?_eq_getElem hi⟩
  have r:=W.funcs x (List.mem_of_getElem? hx)
  rw [ent_at hx]
  exact eCode C w0 hI p c v bs d m w h hM i x hx r.2.1 r.2.2 (by rw [ent_at hx] at hl;unfold sizB at hl;rw [List.length_append] at hl;omega)) hS hW n1 n2 n3 n4 (by have:=W.few;omega) hlen
theorem sec11 {I:World->Prop} (C:FormC I) (w0:World) (hI:I w0) (p:Nat) (c:Nat->Value) (d:Nat) (m:Mod d) (hM:ModAt w0 d (c 0) (c 1) (c 2) (c 3) (c 4) (c 5) (c 6) (c 7) (c 8) (c 9) m) (W:Wr m):SecIn w0 p c 11 m.datas.length 44 (ent m.datas datB):=fun v bs qS qW w h hS hW n1 n2 n3 n4 hlen =>
 wSec11 w0 p c v bs m.datas.length (ent m.datas datB) qS qW w h (fun i v bs w hi h hl=>by
  obtain ⟨x,hx⟩:∃x,m.datas[i]?=some x:=⟨_,List.getElem?_eq_getElem hi⟩
  have r:=W.datas x (List.mem_of_getElem? hx)
  rw [ent_at hx]
  exact eDat C w0 hI p c v bs d m w h hM i x hx r.1 r.2 (by rw [ent_at hx] at hl;unfold datB texB at hl;omega)) hS hW n1 n2 n3 n4 (by have:=W.few;omega) hlen
theorem secs_ok {I:World->Prop} (C:FormC I) (w0:World) (hI:I w0) (p:Nat) (c:Nat->Value) (d:Nat) (m:Mod d) (hM:ModAt w0 d (c 0) (c 1) (c 2) (c 3) (c 4) (c 5) (c 6) (c 7) (c 8) (c 9) m) (W:Wr m) (j:Nat) (hj:j<11):∃(id:Int) (n:Nat) (F:FuncId) (f:Nat->List Int),(secCells p (ln m))[j*3]?=some (.int .i64 id)/\(secCells p (ln m))[j*3+1]?=some (.int .i64 (n:Nat))/\(secCells p (ln m))[j*3+2]?=some (.func (.func F) #[.pointer (some ⟨p,0,none⟩)] #[])/\(0<=id/\id<=255)/\SecIn w0 p c id n F f/\sb m j=secB id n (insideB id n f) :=
 match j,hj with
 | 0,_=>⟨1,m.types.length,34,ent m.types ftB,rfl,rfl,rfl,by omega,sec1 C w0 hI p c d m hM W,by rw [inside_lis 1 (by decide) _ _];rfl⟩
 | 1,_=>⟨2,m.imports.length,35,ent m.imports impB,rfl,rfl,rfl,by omega,sec2 C w0 hI p c d m hM W,by rw [inside_lis 2 (by decide) _ _];rfl⟩
 | 2,_=>⟨3,m.funcs.length,36,ent m.funcs (fun x=>Leb.uB x.type),rfl,rfl,rfl,by omega,sec3 C w0 hI p c d m hM W,by rw [inside_lis 3 (by decide) _ _];rfl⟩
 | 3,_=>⟨4,m.tables.length,37,ent m.tables (fun x=>[112]++limB x),rfl,rfl,rfl,by omega,sec4 C w0 hI p c d m hM W,by rw [inside_lis 4 (by decide) _ _];rfl⟩
 | 4,_=>⟨5,m.mems.length,38,ent m.mems limB,rfl,rfl,rfl,by omega,sec5 C w0 hI p c d m hM W,by rw [inside_lis 5 (by decide) _ _];rfl⟩
 | 5,_=>⟨6,m.globals.length,39,ent m.globals gloB,rfl,rfl,rfl,by omega,sec6 C w0 hI p c d m hM W,by rw [inside_lis 6 (by decide) _ _];rfl⟩
 | 6,_=>⟨7,m.exports.length,40,ent m.exports expB,rfl,rfl,rfl,by omega,sec7 C w0 hI p c d m hM W,by rw [inside_lis 7 (by decide) _ _];rfl⟩
 | 7,_=>⟨8,m.start.length,41,ent m.start Leb.uB,rfl,rfl,rfl,by omega,sec8 C w0 hI p c d m hM W,by rw [inside_st _ _];rfl⟩
 | 8,_=>⟨9,m.elems.length,42,ent m.elems elmB,rfl,rfl,rfl,by omega,sec9 C w0 hI p c d m hM W,by rw [inside_lis 9 (by decide) _ _];rfl⟩
 | 9,_=>⟨10,m.funcs.length,43,ent m.funcs (fun x=>sizB (codB x)),rfl,rfl,rfl,by omega,sec10 C w0 hI p c d m hM W,by rw [inside_lis 10 (by decide) _ _];rfl⟩
 | 10,_=>⟨11,m.datas.length,44,ent m.datas datB,rfl,rfl,rfl,by omega,sec11 C w0 hI p c d m hM W,by rw [inside_lis 11 (by decide) _ _];rfl⟩
end Go.Proofs.YtlcpagiljfpbpaaDoor

namespace Go.Proofs.YtlcpagiljfpbpaaDoor
open Go.RowKit Rep
set_option linter.unusedVariables false
namespace Rep
end Rep
end Go.Proofs.YtlcpagiljfpbpaaDoor


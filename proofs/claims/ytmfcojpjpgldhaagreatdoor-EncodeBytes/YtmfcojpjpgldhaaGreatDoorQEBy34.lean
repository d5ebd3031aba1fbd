/- Texts that the claim needs. -/
import Derived.Test.YtmfcojpjpgldhaaGreatDoorQEBy33
import Derived.Lib.AppendZeros
import Derived.Deep.AppendSrc
namespace Go.Proofs.YtmfcojpjpgldhaaGreatDoor
open Go.RowKit aA Enc Go.Lib Go.Proofs.Tryz
set_option linter.unusedVariables false
set_option maxRecDepth 100000
set_option maxHeartbeats 4000000
namespace Enc
def CS (w0:World) (p:Nat) (c:Nat->Value) (v:Value) (bs:List Int) (w:World):Prop:=∀(b:Int) (w':World),Below w.heap.size w w'->Calls prog 45 #[.pointer (some ⟨p,0,none⟩),.int .i64 b] w' (Does w0 p c v w' (bs++[b%256]))
theorem CS.of {w0:World} {p:Nat} {c:Nat->Value} {v:Value} {bs:List Int} {w:World} (h:WS w0 p c v bs w) (hn:bs.length<=100000000000000):CS w0 p c v bs w:=λb w' hb=>gZ w0 p c v bs b w' (h.on hb) hn
def qL (w0:World) (p:Nat) (c:Nat->Value) (id:Int) (n:Nat) (F:FuncId) (f:Nat->List Int):Prop:=∀(v:Value) (bs:List Int) (qS qW:Nat) (w:World),WS w0 p c v bs w->Bx w qS 66 #[.int .i64 id,.int .i64 n,.func (.func F) #[.pointer (some ⟨p,0,none⟩)] #[]]->Bx w qW 58 #[.pointer (some ⟨p,0,none⟩)]->qS≠p->qW≠p->some qS≠v.ownBlock->some qW≠v.ownBlock ->
 bs.length+(gV id n f).length<=38900000000000->Calls prog 47 #[.pointer (some ⟨qS,0,none⟩),.pointer (some ⟨qW,0,none⟩)] w (DoesA w0 p c v w bs (gV id n f))
end Enc
theorem XU (p:Nat) (id:Int) (F:FuncId) (w:World) :
  Calls prog 14 #[.pointer (some ⟨p,0,none⟩),.agg #[.int .i64 id,.int .i64 0,.func (.func F) #[.pointer (some ⟨p,0,none⟩)] #[]]] w λe w'=>e=.returned (.tuple #[])/\Below w.heap.size w w':=by
 go_enter func14,ntmps14;go_wp2;refine bodyPost_ret (results_none rfl _ _ _) rfl ?_;exact ⟨rfl,((Below.refl _ w).alloc (aI _) _).alloc (by simp) _⟩
theorem XV (w0:World) (p:Nat) (c:Nat->Value) (id:Int) (n:Nat) (F:FuncId) (f:Nat->List Int) (v:Value) (bs:List Int) (w:World) (hP:CS w0 p c v bs w) (hp:p<w.heap.size) (hv:∀k,v.ownBlock=some k->k<w.heap.size) (hS:qL w0 p c id n F f) (hn:0<n) (hid:0<=id/\id<=255) (hlen:bs.length+(gV id n f).length<=38800000000000) :
  Calls prog 14 #[.pointer (some ⟨p,0,none⟩),.agg #[.int .i64 id,.int .i64 n,.func (.func F) #[.pointer (some ⟨p,0,none⟩)] #[]]] w (DoesA w0 p c v w bs ([id]++dW (gV id n f))):=by
 have AL:∀(fn:Fn) (first cap:Array Value) (w:World),(Instr.makeFunc fn first cap).run prog w=.ok (.func fn first cap) w:=λ_ _ _ _=>rfl;have Mo:id%256=id:=by omega
 have hn0:¬ ((n:Int)=0):=by omega
 have hu:Below w.heap.size w (w.alloc (.cells #[.pointer (some ⟨p,0,none⟩)] 58)):=aU w _;obtain ⟨u1,hu1⟩:∃u1,u1=w.alloc (.cells #[.pointer (some ⟨p,0,none⟩)] 58):=⟨_,rfl⟩;rw [<- hu1] at hu;have hq:u1.heap.size=w.heap.size+1:=by rw [hu1];simp
 obtain ⟨u2,hu2⟩:∃u2,u2=u1.alloc (.cells #[.int .i64 id,.int .i64 n,.func (.func F) #[.pointer (some ⟨p,0,none⟩)] #[]] 66):=⟨_,rfl⟩;have hb2:Below u1.heap.size u1 u2:=by rw [hu2];exact aU u1 _
 have hW:Bx u2 w.heap.size 58 #[.pointer (some ⟨p,0,none⟩)]:=by
  unfold Bx;rw [hb2.block _ (by omega),hu1];exact tF w _
 have hX:Bx u2 (w.heap.size+1) 66 #[.int .i64 id,.int .i64 n,.func (.func F) #[.pointer (some ⟨p,0,none⟩)] #[]]:=by rw [hu2];exact Bx.new hq.symm
 have hbw:Below w.heap.size w u2:=hu.trans (hb2.mono (by omega));have aN:Hid (Kept p v w v u2):=aa (Kept.below hbw);have k0:=hX.cell 0 _ rfl;have k1:=hX.cell 1 _ rfl;have kw:=hW.cell 0 _ rfl;have HC:=aa (hP id u2 hbw);rw [Mo] at HC;have HW:=aa hW;have HX:=aa hX;have HN:Hid (w.heap.size≠p/\w.heap.size+1≠p/\some w.heap.size≠v.ownBlock/\some (w.heap.size+1)≠v.ownBlock):=aa ⟨by omega,by omega,λe=>by have:=hv _ e.symm;omega,λe=>by have:=hv _ e.symm;omega⟩;have HS:=aa hS;have bU:=aa hu1;have CU:=aa hu2;have HLEN:=aa hlen;clear hu hq hb2 hW hX hbw hP hp hv hS hu1 hu2 hlen hid Mo;go_enter func14,ntmps14;go_upto_region 1 with fail;rw [<- bU.out,<- CU.out];clear bU CU;go_wp2_with fail;refine HC.out.mono ?_;rintro e w3 ⟨v3,rfl,h3,k3⟩;obtain ⟨bW,oW⟩:=k3.bx HW.out HN.out.1 HN.out.2.2.1;obtain ⟨bX,oX⟩:=k3.bx HX.out HN.out.2.1 HN.out.2.2.2;have XW:=bW.cell 0 _ rfl;have bE:=aa (aN.out.trans k3);have cz:=aa (XX w0 p c v3 (bs++[id]) (gV id n f) ⟨w.heap.size+1,0,none⟩ ⟨w.heap.size,0,none⟩ w3 h3 (HS.out v3 (bs++[id]) (w.heap.size+1) w.heap.size w3 h3 bX bW HN.out.2.1 HN.out.1 oX oW (by have:=HLEN.out;rw [aB];simp only [bI,bP];omega)) (by have:=HLEN.out;rw [aB];simp only [bI,bP];omega));clear bW bX oW oX k3 h3 HC aN HW HX HN k0 k1 kw;go_wp2_with fail;refine cz.out.mono ?_;rintro e w4 ⟨v4,b4,rfl,h4,k4,a4,l4⟩;have dP:=aa h4;have bO:=aa (bE.out.trans k4)
 have HF:Hid (So bs ([id]++dW (gV id n f)) b4):=aa (by
  have h3:=(So.refl bs).app [id];rw [ed] at h3;exact h3.adds a4 l4)
 clear h4 k4 a4 l4 cz XW;go_wp2;go_end0;exact ⟨_,_,rfl,dP.out,bO.out,HF.out.1,HF.out.2⟩
namespace Enc
theorem Mq (w:World) (o1 o2:Obj):((w.alloc o1).alloc o2).heap[w.heap.size+1]?=some o2:=by
 have h:=tF (w.alloc o1) o2;rwa [show (w.alloc o1).heap.size=w.heap.size+1 by simp] at h
def xB (p:Nat) (n:Nat->Nat):Array Value :=
 #[.int .i64 1,.int .i64 (n 0:Nat),.func (.func 34) #[.pointer (some ⟨p,0,none⟩)] #[],
  .int .i64 2,.int .i64 (n 1:Nat),.func (.func 35) #[.pointer (some ⟨p,0,none⟩)] #[],
  .int .i64 3,.int .i64 (n 2:Nat),.func (.func 36) #[.pointer (some ⟨p,0,none⟩)] #[],
  .int .i64 4,.int .i64 (n 3:Nat),.func (.func 37) #[.pointer (some ⟨p,0,none⟩)] #[],
  .int .i64 5,.int .i64 (n 4:Nat),.func (.func 38) #[.pointer (some ⟨p,0,none⟩)] #[],
  .int .i64 6,.int .i64 (n 5:Nat),.func (.func 39) #[.pointer (some ⟨p,0,none⟩)] #[],
  .int .i64 7,.int .i64 (n 6:Nat),.func (.func 40) #[.pointer (some ⟨p,0,none⟩)] #[],
  .int .i64 8,.int .i64 (n 7:Nat),.func (.func 41) #[.pointer (some ⟨p,0,none⟩)] #[],
  .int .i64 9,.int .i64 (n 8:Nat),.func (.func 42) #[.pointer (some ⟨p,0,none⟩)] #[],
  .int .i64 10,.int .i64 (n 2:Nat),.func (.func 43) #[.pointer (some ⟨p,0,none⟩)] #[],
  .int .i64 11,.int .i64 (n 9:Nat),.func (.func 44) #[.pointer (some ⟨p,0,none⟩)] #[]]
end Enc
theorem XY (p:Nat) (o:Nat->Option Addr) (n k:Nat->Nat) (w:World) (hc:∀i,i<10->w.cell? ⟨p,i,none⟩=some (.slice (o i) (n i) (k i))) :
  Calls prog 13 #[.pointer (some ⟨p,0,none⟩)] w λe w'=>e=.returned (.slice (some ⟨w.heap.size+1,0,none⟩) 11 11)/\w'.heap[w.heap.size+1]?=some (.cells (xB p n) 66 (0,0))/\Below w.heap.size w w':=by
 have AL:∀(fn:Fn) (first cap:Array Value) (w:World),(Instr.makeFunc fn first cap).run prog w=.ok (.func fn first cap) w:=λ_ _ _ _=>rfl;have c0:=hc 0 (by omega);have c1:=hc 1 (by omega);have c2:=hc 2 (by omega);have c3:=hc 3 (by omega);have c4:=hc 4 (by omega);have c5:=hc 5 (by omega);have c6:=hc 6 (by omega);have c7:=hc 7 (by omega);have c8:=hc 8 (by omega);have c9:=hc 9 (by omega);clear hc;generalize ho0:o 0=o0 at *;generalize cJ:o 1=o1 at *;generalize kQ:o 2=o2 at *;generalize XZ:o 3=o3 at *;generalize X0:o 4=o4 at *;generalize X3:o 5=o5 at *;generalize X4:o 6=o6 at *;generalize X5:o 7=o7 at *;generalize X6:o 8=o8 at *;generalize ny:o 9=o9 at *;unfold xB;generalize hn0:n 0=n0 at *;generalize iK:n 1=n1 at *;generalize gW:n 2=n2 at *;generalize ja:n 3=n3 at *;generalize iG:n 4=n4 at *;generalize iS:n 5=n5 at *;generalize jD:n 6=n6 at *;generalize iE:n 7=n7 at *;generalize iO:n 8=n8 at *;generalize jb:n 9=n9 at *;clear ho0 cJ kQ XZ X0 X3 X4 X5 X6 ny hn0 iK gW ja iG iS jD iE iO jb;go_enter func13,ntmps13;go_wp2;go_ret;refine ⟨rfl,?_,((Below.refl _ w).alloc (aI _) _).alloc (by simp) _⟩;exact Mq _ _ _
namespace Enc
def jI:List Int:=[0,97,115,109,1,0,0,0]
structure WN (w0:World) (p:Nat) (c:Nat->Value) (v:Value) (w:World):Prop where
 below:Below w0.heap.size w0 w
 base:w0.heap.size<=p
 blk:w.heap[p]?=some (.cells #[c 0,c 1,c 2,c 3,c 4,c 5,c 6,c 7,c 8,c 9,v] 61 (0,0))
 row:∃g,v=.slice (some ⟨g,0,none⟩) 8 8/\w0.heap.size<=g/\g≠p/\w.heap[g]?=some (.cells (cells jI).toArray 5 (8,9))
section
variable {w0 w w':World} {p:Nat} {c:Nat->Value} {v:Value}
theorem WN.cell (h:WN w0 p c v w):w.cell? ⟨p,10,none⟩=some v:=by unfold World.cell?;rw [h.blk];rfl
theorem WN.fM (h:WN w0 p c v w):w.frozen? ⟨p,10,none⟩=false:=by unfold World.frozen?;rw [h.blk];simp
theorem WN.lt (h:WN w0 p c v w):p<w.heap.size:=(kD.1 h.blk).1
theorem WN.on (h:WN w0 p c v w) (hb:Below w.heap.size w w'):WN w0 p c v w' :=
 ⟨h.below.trans (hb.mono h.below.size),h.base,by rw [hb.block p h.lt];exact h.blk,by
  obtain ⟨g,h1,h2,h3,h4⟩:=h.row;exact ⟨g,h1,h2,h3,by rw [hb.block g (kD.1 h4).1];exact h4⟩⟩
theorem WN.rJ (h:WN w0 p c v w) (i:Nat) (hi:i<10):w.cell? ⟨p,i,none⟩=some (c i):=by
 unfold World.cell?;rw [h.blk]
 match i,hi with
 | 0,_=>rfl|1,_=>rfl|2,_=>rfl|3,_=>rfl|4,_=>rfl|5,_=>rfl|6,_=>rfl|7,_=>rfl|8,_=>rfl|9,_=>rfl
end
end Enc
theorem ZI (w0:World) (p:Nat) (c:Nat->Value) (v:Value) (b:Int) (w:World) (h:WN w0 p c v w) :
  Calls prog 45 #[.pointer (some ⟨p,0,none⟩),.int .i64 b] w (Does w0 p c v w (jI++[b%256])):=by
 obtain ⟨g,rfl,hgb,ND,hg⟩:=h.row;obtain ⟨i0,hi0,hz0,hzs,hzb⟩:=info_parts yf;have hw:=wrap_u8 b;have kc:=h.cell;obtain ⟨W,hW⟩:∃W,W=w.alloc (.cells #[.int .u8 (b%256)] 5):=⟨_,rfl⟩;have hbW:Below w.heap.size w W:=by rw [hW];exact aU w _
 have NF:W.heap.size=w.heap.size+1:=by rw [hW];simp
 have NG:g<w.heap.size:=(kD.1 hg).1;have hgW:W.heap[g]?=some (.cells (cells jI).toArray 5 (8,9)):=by rw [hbW.block g NG];exact hg
 have hnew:∀(j:Nat) (u:Value),[Value.int .u8 (b%256)][j]?=some u->W.cell? ((⟨w.heap.size,0,none⟩:Addr).add j)=some u:=by rw [hW];exact vB _ _ _
 have hsrc:Src prog i0.size 59 (.slice (some ⟨w.heap.size,0,none⟩) 1 1) 1 [.int .u8 (b%256)] W:=by
  rw [hzs];exact Src.ofSlice W underlying59 ⟨w.heap.size,0,none⟩ 1 1 [.int .u8 (b%256)] rfl hnew (λu hu=>by rw [List.mem_singleton.1 hu];rfl)
 have hold:(Builtin.firstCells i0.size 8 (.slice (some ⟨g,0,none⟩) 8 8)).run prog W.drew=.ok (cells jI).toArray W.drew:=by
  rw [hzs]
  exact run_firstCells_some W.drew 1 8 ⟨g,0,none⟩ 8 8 (cells jI) rfl (λj u hj=>by
   rw [Addr.add_lit,Nat.zero_add,cell_of_row W.drew g j _ _ _ hgW];simpa using hj)
 have hrun:∀ty,(Builtin.append_ #[59,59] ty #[.slice (some ⟨g,0,none⟩) 8 8,.slice (some ⟨w.heap.size,0,none⟩) 1 1]).run prog W=_:=λty =>
  run_append_grow_src W 59 59 ty 5 i0 _ underlying59 hi0 hz0 (some ⟨g,0,none⟩) 8 8 (cells jI) hold _ 1 _ hsrc (by omega) (by omega) (by rw [hzb];exact growslice_fits (by omega) (by omega))
 have hge:=grownCap_ge W (8+1) 8 5;have hcm:grownCap W (8+1) 8 5<=maxLen:=grownCap_le_maxLen W _ 8 5 (by unfold maxLen;omega);generalize grownCap W (8+1) 8 5=G at hrun hge hcm;obtain ⟨w9,yc⟩:∃w9,w9=W.drew.alloc (.cells ((cells jI++[Value.int .u8 (b%256)]).toArray++Builtin.zeroCells (Value.int .u8 0).cells (G-(8+1))) 5):=⟨_,rfl⟩;rw [<- yc] at hrun;have cO:Below W.heap.size W w9:=by rw [yc];exact ⟨rfl,rfl,rfl,by simp,λk hk=>(aU W.drew _).block k hk⟩
 have ny:w9.ownsRow w0.heap.size 5 1 (.slice (some ⟨W.heap.size,0,none⟩) (8+1) G) (jI++[b%256]).length (cells (jI++[b%256])):=by
  refine ⟨rfl,.inr ⟨W.heap.size,G,_,rfl,by rw [NF];have:=h.below.size;omega,by rw [yc];exact tF W.drew _,hge,hcm,?_,?_⟩⟩
  ·simp [Builtin.zeroCells,Value.cells,cells,jI];omega
  rw [Array.toList_append,List.take_append_of_le_length (by simp [cells,jI])];rfl
 have Db:Below w.heap.size w w9:=hbW.trans (cO.mono (by omega));have nI:w9.heap[p]?=some (.cells #[c 0,c 1,c 2,c 3,c 4,c 5,c 6,c 7,c 8,c 9,.slice (some ⟨g,0,none⟩) 8 8] 61 (0,0)):=by rw [Db.block p h.lt];exact h.blk
 have hE:WS w0 p c (.slice (some ⟨W.heap.size,0,none⟩) (8+1) G) (jI++[b%256]) (w9.setCell ⟨p,10,none⟩ (.slice (some ⟨W.heap.size,0,none⟩) (8+1) G)):=by
  have hne:W.heap.size≠p:=by have:=h.lt;omega
  refine ⟨(h.below.trans (Db.mono h.below.size)).setCell h.base _,h.base,heap_setCell_same w9 p 10 _ _ _ nI,?_,by simp [Value.ownBlock];omega⟩;refine ⟨ny.1,ny.2.imp id λ⟨g,cap,cur,k1,k2,k3,k4⟩=>⟨g,cap,cur,k1,k2,?_,k4⟩⟩;injection k1 with k1 _ _;injection k1 with k1;injection k1 with k1 _ _;rw [Below.heap_setCell _ _ _ _ (by show g≠p;omega)];exact k3
 have hK:Kept p (.slice (some ⟨g,0,none⟩) 8 8) w (.slice (some ⟨W.heap.size,0,none⟩) (8+1) G) (w9.setCell ⟨p,10,none⟩ (.slice (some ⟨W.heap.size,0,none⟩) (8+1) G)) :=
  ⟨by have:=Db.size;simpa using this,λk hk hkp _=>by rw [Below.heap_setCell _ _ _ _ (by show k≠p;exact hkp),Db.block k hk],λk hk=>.inr (by
   have:W.heap.size=k:=by simpa [Value.ownBlock] using hk
   omega)⟩
 have HE:=aa hE;have HK:=aa hK;have Cc:w9.cell? ⟨p,10,none⟩=some (.slice (some ⟨g,0,none⟩) 8 8):=by unfold World.cell?;rw [nI];rfl
 have Ce:w9.frozen? ⟨p,10,none⟩=false:=by unfold World.frozen?;rw [nI];simp
 have HW:=aa hW;clear hE hK ny cO Db nI hbW hgW hnew hsrc hold hge hcm yc hW h hg hgb ND NG NF;go_enter func45,ntmps45;go_wp2_with (at_builtin;rw [<- HW.out];refine Lib.wpList_append_run _ rfl _ _ _ _ rfl _ _ rfl rfl _ _ (hrun _) ?_);go_end0;exact ⟨_,rfl,HE.out,HK.out⟩
theorem ZJ (w0:World) (p:Nat) (c:Nat->Value) (v:Value) (w:World) (h:WN w0 p c v w) :
  Calls prog 15 #[.pointer (some ⟨p,0,none⟩)] w λe w'=>e=.returned (told jI)/\w'=w:=by
 obtain ⟨g,rfl,hgb,ND,hg⟩:=h.row;have kc:=h.cell
 have hcv:(convert 59 9 (.slice (some ⟨g,0,none⟩) 8 8)).run prog w=.ok (.string (strOfNums jI)) w :=
  run_convert_bytes_arg w 59 5 underlying59 underlying5 g 0 8 8 jI rfl (λi hi=>by
   rw [Nat.zero_add,cell_of_row w g i _ _ _ hg]
   match i,hi with
   | 0,_=>rfl|1,_=>rfl|2,_=>rfl|3,_=>rfl|4,_=>rfl|5,_=>rfl|6,_=>rfl|7,_=>rfl) 9 underlying9
 have ht:told jI=.tuple #[.string (strOfNums jI),.int .i64 0]:=by unfold told;rw [if_neg (by decide)]
 rw [ht];generalize strOfNums jI=S at hcv ⊢;clear h hg ht;go_enter func15,ntmps15;go_wp2;go_ret2;exact ⟨rfl,rfl⟩
end Go.Proofs.YtmfcojpjpgldhaaGreatDoor
namespace Go.Proofs.YtmfcojpjpgldhaaGreatDoor
open Go.RowKit aA Enc Go.Lib
set_option linter.unusedVariables false
namespace Enc
structure Wr {d:Nat} (m:Mod d):Prop where
 types:∀x ∈ m.types,x.params.length<=1000000/\x.results.length<=1000000
 imports:∀x ∈ m.imports,x.mod.size<=1000000/\x.name.size<=1000000/\0<=x.type/\x.type<=4294967295
 funcs:∀x ∈ m.funcs,(0<=x.type/\x.type<=4294967295)/\Rg d x.body/\x.locals.length<=1000000
 tables:∀x ∈ m.tables,(0<=x.min/\x.min<=4294967295)/\0<=x.max/\x.max<=4294967295
 aD:∀x ∈ m.aD,(0<=x.min/\x.min<=4294967295)/\0<=x.max/\x.max<=4294967295
 globals:∀x ∈ m.globals,dM (Rg d) x.init
 exports:∀x ∈ m.exports,x.name.size<=1000000/\0<=x.index/\x.index<=4294967295
 start:∀x ∈ m.start,0<=x/\x<=4294967295
 elems:∀x ∈ m.elems,dM (Rg d) x.offset/\(∀y ∈ x.funcs,0<=y/\y<=4294967295)/\x.funcs.length<=1000000
 ax:∀x ∈ m.ax,dM (Rg d) x.offset/\x.bytes.size<=1000000
 few:m.types.length<=1000000/\m.imports.length<=1000000/\m.funcs.length<=1000000/\m.tables.length<=1000000/\m.aD.length<=1000000/\m.globals.length<=1000000/\m.exports.length<=1000000/\m.start.length<=1000000/\m.elems.length<=1000000/\m.ax.length<=1000000
 short:(sQ m).length<=38000000000000
 Kg:∀x ∈ m.funcs,∀y ∈ x.locals,y=126\/y=127
 once:m.start.length<=1
def gP {α:Type} (l:List α) (g:α->List Int) (i:Nat):List Int:=((l[i]?).map g).getD []
theorem qi {α:Type} {l:List α} {g:α->List Int} {i:Nat} {x:α} (h:l[i]?=some x):gP l g i=g x:=by unfold gP;rw [h];rfl
theorem L9 {α:Type} (l:List α) (g:α->List Int):∀j,j<=l.length->aH (gP l g) j=(l.take j).flatMap g
 | 0,_=>by simp [aH]
 | j+1,h=>by
  obtain ⟨x,hx⟩:∃x,l[j]?=some x:=⟨_,aY (by omega)⟩;show aH (gP l g) j++gP l g j=_;rw [L9 l g j (by omega),qi hx,ry hx]
theorem Ma {α:Type} (l:List α) (g:α->List Int):aH (gP l g) l.length=l.flatMap g:=by
 rw [L9 l g _ (aI _),jZ (aI _)]
theorem vV {α:Type} (id:Int) (hid:id≠8) (l:List α) (g:α->List Int):gV id l.length (gP l g)=aZ g l:=by
 unfold gV aZ;rw [if_neg hid,Ma]
theorem WL {α:Type} (l:List α) (g:α->List Int):gV 8 l.length (gP l g)=l.flatMap g:=by
 unfold gV;rw [if_pos rfl,Ma];simp
def sb {d:Nat} (m:Mod d):Nat->List Int
 | 0=>eZ 1 m.types.length (aZ nJ m.types)
 | 1=>eZ 2 m.imports.length (aZ nK m.imports)
 | 2=>eZ 3 m.funcs.length (aZ (λx=>ak.uB x.type) m.funcs)
 | 3=>eZ 4 m.tables.length (aZ (λx=>[112]++ik x) m.tables)
 | 4=>eZ 5 m.aD.length (aZ ik m.aD)
 | 5=>eZ 6 m.globals.length (aZ mb m.globals)
 | 6=>eZ 7 m.exports.length (aZ nM m.exports)
 | 7=>eZ 8 m.start.length (m.start.flatMap ak.uB)
 | 8=>eZ 9 m.elems.length (aZ lD m.elems)
 | 9=>eZ 10 m.funcs.length (aZ (λx=>dW (gG x)) m.funcs)
 | 10=>eZ 11 m.ax.length (aZ lF m.ax)
 | _=>[]
theorem Mb {d:Nat} (m:Mod d):sQ m=jI++aH (sb m) 11:=by
 show sQ m=jI++(((((((((((([]:List Int)++sb m 0)++sb m 1)++sb m 2)++sb m 3)++sb m 4)++sb m 5)++sb m 6)++sb m 7)++sb m 8)++sb m 9)++sb m 10);simp only [ed,<- bf];rfl
def ln {d:Nat} (m:Mod d):Nat->Nat
 | 0=>m.types.length
 | 1=>m.imports.length
 | 2=>m.funcs.length
 | 3=>m.tables.length
 | 4=>m.aD.length
 | 5=>m.globals.length
 | 6=>m.exports.length
 | 7=>m.start.length
 | 8=>m.elems.length
 | 9=>m.ax.length
 | _=>0
end Enc
theorem WM {I:World->Prop} (C:dB I) (w0:World) (hI:I w0) (p:Nat) (c:Nat->Value) (d:Nat) (m:Mod d) (hM:da w0 d (c 0) (c 1) (c 2) (c 3) (c 4) (c 5) (c 6) (c 7) (c 8) (c 9) m) (W:Wr m):qL w0 p c 1 m.types.length 34 (gP m.types nJ):=λv bs qS qW w h hS hW n1 n2 n3 n4 hlen =>
 WO w0 p c v bs m.types.length (gP m.types nJ) qS qW w h (λi v bs w hi h hl=>by
  obtain ⟨x,hx⟩:∃x,m.types[i]?=some x:=⟨_,aY hi⟩;have r:=W.types x (dK hx);rw [qi hx];exact (WQ w0 p c v bs d m w h hM i x hx r.1 r.2 (by omega)).mono λ_ _ h=>DoesA.of h) hS hW n1 n2 n3 n4 (by have:=W.few;omega) hlen
theorem WR {I:World->Prop} (C:dB I) (w0:World) (hI:I w0) (p:Nat) (c:Nat->Value) (d:Nat) (m:Mod d) (hM:da w0 d (c 0) (c 1) (c 2) (c 3) (c 4) (c 5) (c 6) (c 7) (c 8) (c 9) m) (W:Wr m):qL w0 p c 2 m.imports.length 35 (gP m.imports nK):=λv bs qS qW w h hS hW n1 n2 n3 n4 hlen =>
 WT w0 p c v bs m.imports.length (gP m.imports nK) qS qW w h (λi v bs w hi h hl=>by
  obtain ⟨x,hx⟩:∃x,m.imports[i]?=some x:=⟨_,aY hi⟩;have r:=W.imports x (dK hx);rw [qi hx];exact (WU w0 p c v bs d m w h hM i x hx r.1 r.2.1 r.2.2 (by omega)).mono λ_ _ h=>DoesA.of h) hS hW n1 n2 n3 n4 (by have:=W.few;omega) hlen
theorem WV {I:World->Prop} (C:dB I) (w0:World) (hI:I w0) (p:Nat) (c:Nat->Value) (d:Nat) (m:Mod d) (hM:da w0 d (c 0) (c 1) (c 2) (c 3) (c 4) (c 5) (c 6) (c 7) (c 8) (c 9) m) (W:Wr m):qL w0 p c 3 m.funcs.length 36 (gP m.funcs (λx=>ak.uB x.type)):=λv bs qS qW w h hS hW n1 n2 n3 n4 hlen =>
 WW w0 p c v bs m.funcs.length (gP m.funcs (λx=>ak.uB x.type)) qS qW w h (λi v bs w hi h hl=>by
  obtain ⟨x,hx⟩:∃x,m.funcs[i]?=some x:=⟨_,aY hi⟩;have r:=W.funcs x (dK hx);rw [qi hx];exact (UJ w0 p c v bs d m w h hM i x hx r.1 (by omega)).mono λ_ _ h=>DoesA.of h) hS hW n1 n2 n3 n4 (by have:=W.few;omega) hlen
theorem WY {I:World->Prop} (C:dB I) (w0:World) (hI:I w0) (p:Nat) (c:Nat->Value) (d:Nat) (m:Mod d) (hM:da w0 d (c 0) (c 1) (c 2) (c 3) (c 4) (c 5) (c 6) (c 7) (c 8) (c 9) m) (W:Wr m):qL w0 p c 4 m.tables.length 37 (gP m.tables (λx=>[112]++ik x)):=λv bs qS qW w h hS hW n1 n2 n3 n4 hlen =>
 WZ w0 p c v bs m.tables.length (gP m.tables (λx=>[112]++ik x)) qS qW w h (λi v bs w hi h hl=>by
  obtain ⟨x,hx⟩:∃x,m.tables[i]?=some x:=⟨_,aY hi⟩;have r:=W.tables x (dK hx);rw [qi hx];exact (UK w0 p c v bs d m w h hM i x hx r.1 r.2 (by omega)).mono λ_ _ h=>DoesA.of h) hS hW n1 n2 n3 n4 (by have:=W.few;omega) hlen
theorem W5 {I:World->Prop} (C:dB I) (w0:World) (hI:I w0) (p:Nat) (c:Nat->Value) (d:Nat) (m:Mod d) (hM:da w0 d (c 0) (c 1) (c 2) (c 3) (c 4) (c 5) (c 6) (c 7) (c 8) (c 9) m) (W:Wr m):qL w0 p c 5 m.aD.length 38 (gP m.aD ik):=λv bs qS qW w h hS hW n1 n2 n3 n4 hlen =>
 W6 w0 p c v bs m.aD.length (gP m.aD ik) qS qW w h (λi v bs w hi h hl=>by
  obtain ⟨x,hx⟩:∃x,m.aD[i]?=some x:=⟨_,aY hi⟩;have r:=W.aD x (dK hx);rw [qi hx];exact (UL w0 p c v bs d m w h hM i x hx r.1 r.2 (by omega)).mono λ_ _ h=>DoesA.of h) hS hW n1 n2 n3 n4 (by have:=W.few;omega) hlen
theorem W7 {I:World->Prop} (C:dB I) (w0:World) (hI:I w0) (p:Nat) (c:Nat->Value) (d:Nat) (m:Mod d) (hM:da w0 d (c 0) (c 1) (c 2) (c 3) (c 4) (c 5) (c 6) (c 7) (c 8) (c 9) m) (W:Wr m):qL w0 p c 6 m.globals.length 39 (gP m.globals mb):=λv bs qS qW w h hS hW n1 n2 n3 n4 hlen =>
 W8 w0 p c v bs m.globals.length (gP m.globals mb) qS qW w h (λi v bs w hi h hl=>by
  obtain ⟨x,hx⟩:∃x,m.globals[i]?=some x:=⟨_,aY hi⟩;have r:=W.globals x (dK hx);rw [qi hx];exact W9 C w0 hI p c v bs d m w h hM i x hx r (by rw [qi hx] at hl;unfold mb at hl;omega)) hS hW n1 n2 n3 n4 (by have:=W.few;omega) hlen
theorem Xa {I:World->Prop} (C:dB I) (w0:World) (hI:I w0) (p:Nat) (c:Nat->Value) (d:Nat) (m:Mod d) (hM:da w0 d (c 0) (c 1) (c 2) (c 3) (c 4) (c 5) (c 6) (c 7) (c 8) (c 9) m) (W:Wr m):qL w0 p c 7 m.exports.length 40 (gP m.exports nM):=λv bs qS qW w h hS hW n1 n2 n3 n4 hlen =>
 Xb w0 p c v bs m.exports.length (gP m.exports nM) qS qW w h (λi v bs w hi h hl=>by
  obtain ⟨x,hx⟩:∃x,m.exports[i]?=some x:=⟨_,aY hi⟩;have r:=W.exports x (dK hx);rw [qi hx];exact (Xc w0 p c v bs d m w h hM i x hx r.1 r.2 (by omega)).mono λ_ _ h=>DoesA.of h) hS hW n1 n2 n3 n4 (by have:=W.few;omega) hlen
theorem Xd {I:World->Prop} (C:dB I) (w0:World) (hI:I w0) (p:Nat) (c:Nat->Value) (d:Nat) (m:Mod d) (hM:da w0 d (c 0) (c 1) (c 2) (c 3) (c 4) (c 5) (c 6) (c 7) (c 8) (c 9) m) (W:Wr m):qL w0 p c 8 m.start.length 41 (gP m.start ak.uB):=λv bs qS qW w h hS hW n1 n2 n3 n4 hlen =>
 Xe w0 p c v bs m.start.length (gP m.start ak.uB) qS qW w h (λi v bs w hi h hl=>by
  obtain ⟨x,hx⟩:∃x,m.start[i]?=some x:=⟨_,aY hi⟩;have r:=W.start x (dK hx);rw [qi hx];exact (UM w0 p c v bs d m w h hM i x hx r (by omega)).mono λ_ _ h=>DoesA.of h) hS hW n1 n2 n3 n4 (by have:=W.few;omega) hlen
theorem Xf {I:World->Prop} (C:dB I) (w0:World) (hI:I w0) (p:Nat) (c:Nat->Value) (d:Nat) (m:Mod d) (hM:da w0 d (c 0) (c 1) (c 2) (c 3) (c 4) (c 5) (c 6) (c 7) (c 8) (c 9) m) (W:Wr m):qL w0 p c 9 m.elems.length 42 (gP m.elems lD):=λv bs qS qW w h hS hW n1 n2 n3 n4 hlen =>
 Xg w0 p c v bs m.elems.length (gP m.elems lD) qS qW w h (λi v bs w hi h hl=>by
  obtain ⟨x,hx⟩:∃x,m.elems[i]?=some x:=⟨_,aY hi⟩;have r:=W.elems x (dK hx);rw [qi hx];exact Xh C w0 hI p c v bs d m w h hM i x hx r.1 r.2.1 r.2.2 (by rw [qi hx] at hl;unfold lD at hl;omega)) hS hW n1 n2 n3 n4 (by have:=W.few;omega) hlen
theorem Xi {I:World->Prop} (C:dB I) (w0:World) (hI:I w0) (p:Nat) (c:Nat->Value) (d:Nat) (m:Mod d) (hM:da w0 d (c 0) (c 1) (c 2) (c 3) (c 4) (c 5) (c 6) (c 7) (c 8) (c 9) m) (W:Wr m):qL w0 p c 10 m.funcs.length 43 (gP m.funcs (λx=>dW (gG x))):=λv bs qS qW w h hS hW n1 n2 n3 n4 hlen =>
 Xj w0 p c v bs m.funcs.length (gP m.funcs (λx=>dW (gG x))) qS qW w h (λi v bs w hi h hl=>by
  obtain ⟨x,hx⟩:∃x,m.funcs[i]?=some x:=⟨_,aY hi⟩;have r:=W.funcs x (dK hx);rw [qi hx];exact Xk C w0 hI p c v bs d m w h hM i x hx r.2.1 r.2.2 (by rw [qi hx] at hl;unfold dW at hl;rw [aB] at hl;omega)) hS hW n1 n2 n3 n4 (by have:=W.few;omega) hlen
theorem Xl {I:World->Prop} (C:dB I) (w0:World) (hI:I w0) (p:Nat) (c:Nat->Value) (d:Nat) (m:Mod d) (hM:da w0 d (c 0) (c 1) (c 2) (c 3) (c 4) (c 5) (c 6) (c 7) (c 8) (c 9) m) (W:Wr m):qL w0 p c 11 m.ax.length 44 (gP m.ax lF):=λv bs qS qW w h hS hW n1 n2 n3 n4 hlen =>
 Xm w0 p c v bs m.ax.length (gP m.ax lF) qS qW w h (λi v bs w hi h hl=>by
  obtain ⟨x,hx⟩:∃x,m.ax[i]?=some x:=⟨_,aY hi⟩;have r:=W.ax x (dK hx);rw [qi hx];exact Xn C w0 hI p c v bs d m w h hM i x hx r.1 r.2 (by rw [qi hx] at hl;unfold lF sP at hl;omega)) hS hW n1 n2 n3 n4 (by have:=W.few;omega) hlen
theorem Xo {I:World->Prop} (C:dB I) (w0:World) (hI:I w0) (p:Nat) (c:Nat->Value) (d:Nat) (m:Mod d) (hM:da w0 d (c 0) (c 1) (c 2) (c 3) (c 4) (c 5) (c 6) (c 7) (c 8) (c 9) m) (W:Wr m) (j:Nat) (hj:j<11):∃(id:Int) (n:Nat) (F:FuncId) (f:Nat->List Int),(xB p (ln m))[j*3]?=some (.int .i64 id)/\(xB p (ln m))[j*3+1]?=some (.int .i64 (n:Nat))/\(xB p (ln m))[j*3+2]?=some (.func (.func F) #[.pointer (some ⟨p,0,none⟩)] #[])/\(0<=id/\id<=255)/\qL w0 p c id n F f/\sb m j=eZ id n (gV id n f) :=
 match j,hj with
 | 0,_=>⟨1,m.types.length,34,gP m.types nJ,rfl,rfl,rfl,by omega,WM C w0 hI p c d m hM W,by rw [vV 1 (by decide) _ _];rfl⟩
 | 1,_=>⟨2,m.imports.length,35,gP m.imports nK,rfl,rfl,rfl,by omega,WR C w0 hI p c d m hM W,by rw [vV 2 (by decide) _ _];rfl⟩
 | 2,_=>⟨3,m.funcs.length,36,gP m.funcs (λx=>ak.uB x.type),rfl,rfl,rfl,by omega,WV C w0 hI p c d m hM W,by rw [vV 3 (by decide) _ _];rfl⟩
 | 3,_=>⟨4,m.tables.length,37,gP m.tables (λx=>[112]++ik x),rfl,rfl,rfl,by omega,WY C w0 hI p c d m hM W,by rw [vV 4 (by decide) _ _];rfl⟩
 | 4,_=>⟨5,m.aD.length,38,gP m.aD ik,rfl,rfl,rfl,by omega,W5 C w0 hI p c d m hM W,by rw [vV 5 (by decide) _ _];rfl⟩
 | 5,_=>⟨6,m.globals.length,39,gP m.globals mb,rfl,rfl,rfl,by omega,W7 C w0 hI p c d m hM W,by rw [vV 6 (by decide) _ _];rfl⟩
 | 6,_=>⟨7,m.exports.length,40,gP m.exports nM,rfl,rfl,rfl,by omega,Xa C w0 hI p c d m hM W,by rw [vV 7 (by decide) _ _];rfl⟩
 | 7,_=>⟨8,m.start.length,41,gP m.start ak.uB,rfl,rfl,rfl,by omega,Xd C w0 hI p c d m hM W,by rw [WL _ _];rfl⟩
 | 8,_=>⟨9,m.elems.length,42,gP m.elems lD,rfl,rfl,rfl,by omega,Xf C w0 hI p c d m hM W,by rw [vV 9 (by decide) _ _];rfl⟩
 | 9,_=>⟨10,m.funcs.length,43,gP m.funcs (λx=>dW (gG x)),rfl,rfl,rfl,by omega,Xi C w0 hI p c d m hM W,by rw [vV 10 (by decide) _ _];rfl⟩
 | 10,_=>⟨11,m.ax.length,44,gP m.ax lF,rfl,rfl,rfl,by omega,Xl C w0 hI p c d m hM W,by rw [vV 11 (by decide) _ _];rfl⟩
end Go.Proofs.YtmfcojpjpgldhaaGreatDoor

/- Texts that the claim needs. -/
import Derived.Test.YtlcpagiljfpbpaaGreatDoorQELo8
import Derived.Test.YtlcpagiljfpbpaaGreatDoorQELo6
namespace Go.Proofs.YtlcpagiljfpbpaaGreatDoor
open Go.RowKit Rep
set_option linter.unusedVariables false
namespace Rep
def BlkM (w:World) (b:Nat) (c0 c1 c2 c3 c4 c5 c6 c7 c8 c9:Value):Prop:=w.heap[b]?=some (.cells #[c0,c1,c2,c3,c4,c5,c6,c7,c8,c9] 32 (0,0))
section Blk
variable {w w':World} {b:Nat} {c0 c1 c2 c3 c4 c5 c6 c7 c8 c9:Value}
theorem BlkM.cell (h:BlkM w b c0 c1 c2 c3 c4 c5 c6 c7 c8 c9) (i:Nat) (v:Value) (hv:#[c0,c1,c2,c3,c4,c5,c6,c7,c8,c9][i]?=some v):w.cell? ⟨b,i,none⟩=some v:=by
 unfold World.cell?;rw [h];exact hv
theorem BlkM.frz (h:BlkM w b c0 c1 c2 c3 c4 c5 c6 c7 c8 c9) (i:Nat):w.frozen? ⟨b,i,none⟩=false:=by
 unfold World.frozen?;rw [h];simp
theorem BlkM.keep (h:BlkM w b c0 c1 c2 c3 c4 c5 c6 c7 c8 c9) (hk:w'.heap[b]?=w.heap[b]?):BlkM w' b c0 c1 c2 c3 c4 c5 c6 c7 c8 c9:=by unfold BlkM at *;rw [hk];exact h
theorem BlkM.lt (h:BlkM w b c0 c1 c2 c3 c4 c5 c6 c7 c8 c9):b<w.heap.size:=(Array.getElem?_eq_some_iff.1 h).1
theorem BlkM.on (h:BlkM w b c0 c1 c2 c3 c4 c5 c6 c7 c8 c9) (hb:Below w.heap.size w w'):BlkM w' b c0 c1 c2 c3 c4 c5 c6 c7 c8 c9:=h.keep (hb.block b h.lt)
theorem BlkM.new (hp:b=w.heap.size):BlkM (w.alloc (.cells #[c0,c1,c2,c3,c4,c5,c6,c7,c8,c9] 32)) b c0 c1 c2 c3 c4 c5 c6 c7 c8 c9:=by
 subst hp;exact heap_alloc_new w _
end Blk
def Stab:Type:={ p:Value->World->Prop // ∀v w w',p v w->Below w.heap.size w w'->p v w' }
def sEq (x:Value):Stab:=⟨fun v _=>v=x,fun _ _ _ h _=>h⟩
structure InsVals {d:Nat} (R:World) (x:Ins (IL d)) (v4 v5 v6:Value):Prop where
 labels:Ints R v4 x.labels
 body:At R d v5 x.body
 els:At R d v6 x.els
theorem InsVals.sub {d:Nat} {R R':World} {x:Ins (IL d)} {v4 v5 v6:Value} (h:InsVals R x v4 v5 v6) (hs:Sub R R'):InsVals R' x v4 v5 v6:=⟨h.labels.sub hs,At.sub hs _ _ _ h.body,At.sub hs _ _ _ h.els⟩
def Gro {α:Type} (w:World) (B b:Nat) (e:TypeId) (c:Nat) (f:World->Nat->Nat->α->Prop) (l:List α) (j:Nat) (t:Value):Prop :=
 ∃ps:List (α × List Value),ps.map (·.1)=l.take j/\ps.length=j/\w.ownsRow B e c t j (flat ps)/\t.ownBlock≠some b/\∀p ∈ ps,Piece (only w (sel B b t)) c f p.1 p.2
section G
variable {α:Type} {w w':World} {B b:Nat} {e:TypeId} {c:Nat} {f:World->Nat->Nat->α->Prop} {l:List α} {j:Nat} {t:Value}
theorem Gro.nil:Gro w B b e c f l 0 (.slice none 0 0):=⟨[],by simp,rfl,by simpa [flat] using World.ownsRow_nil w B e c,by simp [Value.ownBlock],fun p hp=>by cases hp⟩
theorem Gro.below (h:Gro w B b e c f l j t) (hb:Below w.heap.size w w'):Gro w' B b e c f l j t:=by
 obtain ⟨ps,h1,h2,h3,h4,h5⟩:=h
 exact ⟨ps,h1,h2,own_on h3 hb,h4,fun p hp=>(h5 p hp).sub (sub_below hb)⟩
theorem Gro.slice (h:Gro w B b e c f l j t):∃o k,t=.slice o j k:=by
 obtain ⟨ps,h1,h2,h3,h4,h5⟩:=h
 exact own_slice h3
theorem Gro.lt (h:Gro w B b e c f l j t):∀k,t.ownBlock=some k->B<=k/\k<w.heap.size:=by
 obtain ⟨ps,h1,h2,h3,h4,h5⟩:=h
 exact fun k hk=>h3.lt k hk
theorem Gro.set (h:Gro w B b e c f l j t) (i:Nat) (u:Value):Gro (w.setCell ⟨b,i,none⟩ u) B b e c f l j t:=by
 obtain ⟨ps,h1,h2,h3,h4,h5⟩:=h
 refine ⟨ps,h1,h2,?_,h4,fun p hp=>(h5 p hp).sub sub_set⟩
 refine ⟨h3.1,h3.2.imp id fun ⟨g,cap,cur,k1,k2,k3,k4⟩=>⟨g,cap,cur,k1,k2,?_,k4⟩⟩
 rw [Below.heap_setCell _ _ _ _ (by show g≠b;intro e;subst e;exact h4 (by rw [k1];rfl))]
 exact k3
theorem Gro.fin (h:Gro w B b e c f l l.length t) (hn:l.length<=9223372036854775807):Row c (f (only w (sel B b (.slice none 0 0)))) t l:=by
 obtain ⟨ps,h1,h2,h3,h4,h5⟩:=h
 have hm:ps.map (·.1)=l:=by rw [h1,List.take_of_length_le (Nat.le_refl _)]
 rw [<- hm]
 refine row_of_own (S:=sel B b t) ps (by rw [h2];exact h3) h5 (fun k hk=>?_) (fun g hg=>?_) (by omega)
 ·obtain ⟨k1,k2,k3⟩:=sel_iff.1 hk
  exact sel_iff.2 ⟨k1,k2,by simp [Value.ownBlock]⟩
 ·exact sel_iff.2 ⟨(h3.lt g hg).1,fun e=>h4 (by rw [<- e];exact hg),by simp [Value.ownBlock]⟩
end G
structure Five (R:World) {d:Nat} (m:Mod d) (c1 c3 c4 c6 c7:Value):Prop where
 imports:Row 3 (ImpAt R) c1 m.imports
 tables:Row 3 (LimAt R) c3 m.tables
 mems:Row 3 (LimAt R) c4 m.mems
 exports:Row 3 (ExpAt R) c6 m.exports
 start:Ints R c7 m.start
 cap3:∀n c,c3=.slice none n c->c=0
 cap4:∀n c,c4=.slice none n c->c=0
structure St (k:Nat) {d:Nat} (w1 wr:World) (b:Nat) (t:Value) (m:Mod d) (c0 c1 c2 c3 c4 c5 c6 c7 c8:Value):Prop where
 below:Below w1.heap.size w1 wr
 base:w1.heap.size<=b
 five:Five (only wr (sel w1.heap.size b t)) m c1 c3 c4 c6 c7
 types:1<=k->Row 2 (FTAt (only wr (sel w1.heap.size b t))) c0 m.types
 funcs:2<=k->Row 3 (FunAt (only wr (sel w1.heap.size b t)) d) c2 m.funcs
 globals:3<=k->Row 9 (GloAt (only wr (sel w1.heap.size b t)) d) c5 m.globals
 elems:4<=k->Row 8 (ElmAt (only wr (sel w1.heap.size b t)) d) c8 m.elems
section S
variable {k d:Nat} {w1 wr wr':World} {b:Nat} {t t':Value} {m:Mod d} {c0 c1 c2 c3 c4 c5 c6 c7 c8:Value}
theorem St.keep (h : St k w1 wr b t m c0 c1 c2 c3 c4 c5 c6 c7 c8) (hs : Sub (only wr (sel w1.heap.size b t)) (only wr' (sel w1.heap.size b t'))) (hb : Below w1.heap.size w1 wr') : St k w1 wr' b t' m c0 c1 c2 c3 c4 c5 c6 c7 c8 :=
  ⟨hb, h.base, ⟨h.five.imports.imp fun _ _ _ _ => ImpAt.sub hs, h.five.tables.imp fun _ _ _ _ => LimAt.sub hs, h.five.mems.imp fun _ _ _ _ => LimAt.sub hs, h.five.exports.imp fun _ _ _ _ => ExpAt.sub hs, h.five.start.sub hs, h.five.cap3, h.five.cap4⟩,
   fun hk => (h.types hk).imp fun _ _ _ _ => FTAt.sub hs, fun hk => (h.funcs hk).imp fun _ _ _ _ => FunAt.sub hs, fun hk => (h.globals hk).imp fun _ _ _ _ => GloAt.sub hs, fun hk => (h.elems hk).imp fun _ _ _ _ => ElmAt.sub hs⟩
end S
end Rep
end Go.Proofs.YtlcpagiljfpbpaaGreatDoor

namespace Go.Proofs.YtlcpagiljfpbpaaGreatDoor
open Go.RowKit Rep Enc Go.Lib
set_option linter.unusedVariables false
namespace Enc
theorem uB_bd:∀(f:Nat) (n:Int),0<=n->n.toNat<=f->∀x ∈ Leb.uB n,0<=x/\x<=255
 | 0,n,h0,hf=>by
  rw [Leb.uB_small h0 (by omega)]
  intro x hx
  rw [List.mem_singleton.1 hx];omega
 | f+1,n,h0,hf=>by
  by_cases h:n<128
  ·rw [Leb.uB_small h0 h]
   intro x hx
   rw [List.mem_singleton.1 hx];omega
  ·rw [Leb.uB_great (by omega)]
   intro x hx
   rcases List.mem_cons.1 hx with rfl|hx
   ·omega
   ·exact uB_bd f (n / 128) (by omega) (by omega) x hx
theorem sB_bd:∀(f:Nat) (n:Int),n.natAbs<=f->∀x ∈ Leb.sB n,0<=x/\x<=255
 | 0,n,hf=>by
  rw [Leb.sB_small (by omega)]
  intro x hx
  rw [List.mem_singleton.1 hx];omega
 | f+1,n,hf=>by
  by_cases h:-64<=n/\n<=63
  ·rw [Leb.sB_small h]
   intro x hx
   rw [List.mem_singleton.1 hx];omega
  ·rw [Leb.sB_great h]
   intro x hx
   rcases List.mem_cons.1 hx with rfl|hx
   ·omega
   ·exact sB_bd f (n / 128) (by omega) x hx
theorem strCells_nums (xs:List Int) (h:∀x ∈ xs,0<=x/\x<=255):strCells (strOfNums xs)=cells xs:=by
 unfold strCells cells
 rw [strOfNums_data,List.map_map]
 refine List.map_congr_left fun x hx=>?_
 obtain ⟨h0,h1⟩:=h x hx
 show Value.int .u8 ((UInt8.ofNat x.toNat).toNat:Int)=Value.int .u8 x
 congr 1
 rw [UInt8.toNat_ofNat']
 omega
def nums (s:ByteArray):List Int:=s.data.toList.map fun b=>(b.toNat:Int)
theorem nums_len (s:ByteArray):(nums s).length=s.size:=by unfold nums;rw [List.length_map,Array.length_toList];rfl
theorem strCells_cells (s:ByteArray):strCells s=cells (nums s):=by unfold strCells cells nums;rw [List.map_map];rfl
def App (w0:World) (p:Nat) (c:Nat->Value) (v:Value) (w:World) (bs bs':List Int) (v':Value) (w9:World):Prop:=∃w8,WS w0 p c v bs w8/\w9.ownsRow w0.heap.size 5 1 v' bs'.length (cells bs')/\w8.grownBy w9 v.ownBlock/\(v'.ownBlock=v.ownBlock\/v'.ownBlock=some w8.heap.size)/\Below w.heap.size w w8
theorem App.cell {w0 w w9:World} {p:Nat} {c:Nat->Value} {v v':Value} {bs bs':List Int} (h:App w0 p c v w bs bs' v' w9):w9.cell? ⟨p,10,none⟩=some v/\w9.frozen? ⟨p,10,none⟩=false:=by
 obtain ⟨w8,h1,h2,h3,h4,h5⟩:=h
 have hb:=h3.block p h1.lt (fun e=>h1.apart e.symm)
 exact ⟨by rw [World.cell?_of_block (a:=⟨p,10,none⟩) hb];exact h1.cell,by rw [World.frozen?_of_block (a:=⟨p,10,none⟩) hb];exact h1.frz⟩
theorem App.slice {w0 w w9:World} {p:Nat} {c:Nat->Value} {v v':Value} {bs bs':List Int} (h:App w0 p c v w bs bs' v' w9):∃o k,v'=.slice o bs'.length k:=by
 obtain ⟨w8,h1,h2,h3,h4,h5⟩:=h
 rcases h2.2 with ⟨rfl,h0⟩|⟨g,cap,cur,rfl,_⟩
 ·rw [h0];exact ⟨none,0,rfl⟩
 ·exact ⟨_,_,rfl⟩
theorem App.ws {w0 w w9:World} {p:Nat} {c:Nat->Value} {v v':Value} {bs bs':List Int} (h:App w0 p c v w bs bs' v' w9):WS w0 p c v' bs' (w9.setCell ⟨p,10,none⟩ v'):=by
 obtain ⟨w8,h1,h2,h3,h4,h5⟩:=h
 exact h1.store h2 h3
theorem App.kept {w0 w w9:World} {p:Nat} {c:Nat->Value} {v v':Value} {bs bs':List Int} (h:App w0 p c v w bs bs' v' w9):Kept p v w v' (w9.setCell ⟨p,10,none⟩ v'):=by
 obtain ⟨w8,h1,h2,h3,h4,h5⟩:=h
 exact (Kept.below h5).trans (Kept.store h3 h4 v')
theorem run_str {P:Program} (w:World) (base:Nat) (t u ty e:TypeId) (i:TypeInfo) (ht:P.underlying t=some (.slice e)) (hu:P.underlying u=some .string) (hi:P.info? e=some i) (hz:i.zero=some (.int .u8 0)) (hsize:i.size=1) (hby:i.bytes=1)
  (v:Value) (n:Nat) (xs:List Value) (hown:w.ownsRow base e 1 v n xs) (s:ByteArray) (h63:n+s.size<=maxLen) (hbytes:n+s.size<=140737488355328) (hbase:base<=w.heap.size) :
  ∃v' w',(Builtin.append_ #[t,u] ty #[v,.string s]).run P w=.ok v' w'/\w'.ownsRow base e 1 v' (n+s.size) (xs++strCells s)/\w.grownBy w' v.ownBlock/\(v'.ownBlock=v.ownBlock\/v'.ownBlock=some w.heap.size):=by
 obtain ⟨v',w',hr,h2,h3,h4⟩:=run_append_own_string (P:=P) w base t u ty e i ht hu hi hz hsize hby v n xs hown s h63 hbytes hbase
 refine ⟨v',w',hr,h2,h3,?_⟩
 have hsmall:n+s.size<=9223372036854775807:=by simp only [maxLen] at h63;omega
 have hxl:xs.length=n:=by simpa using hown.1
 rcases hown.2 with ⟨rfl,rfl⟩|⟨g,cap,cur,rfl,hbg,hg,hnc,hcm,hcs,htake⟩
 ·by_cases hm:s.size=0
  ·left;rw [h4.2 ⟨rfl,hm⟩]
  ·rw [run_append_nil_string (P:=P) w t u ty e i (.int .u8 0) ht hu hi hz s (by omega) (by omega) (by rw [hby];omega)] at hr
   injection hr with hv _
   right;rw [<- hv];rfl
 ·by_cases hroom:n+s.size<=cap
  ·have hcs':cur.size=cap:=by simpa using hcs
   rw [run_append_room_string (P:=P) w t u ty e i ht hu hi hsize g n cap cur hg s hroom (by omega)] at hr
   injection hr with hv _
   left;rw [<- hv];rfl
  ·have holds:∀j u,xs[j]?=some u->w.cell? ((⟨g,0,none⟩:Addr).add j)=some u:=hown.cells (g:=g) rfl
   rw [run_append_grow_string (P:=P) w t u ty e i (.int .u8 0) ht hu hi hz ⟨g,0,none⟩ n cap xs (by rw [hsize];simpa using hxl) holds s (by omega) (by omega) (by rw [hby];exact growslice_fits (by omega) (by omega))] at hr
   injection hr with hv _
   right;rw [<- hv];rfl
theorem op_str {w0 wb w:World} {p:Nat} {c:Nat->Value} {v:Value} {bs:List Int} {op:Oper} {a:Act} {K:Act->World->Prop} {Q:Exit->Act->World->Prop} (s x:Operand)
  (ho:op.op=.call { callee:=.builtin .append,args:=#[s,x],argTypes:=#[53,9] }) (h:WS w0 p c v bs w) (hs:a.eval s=v) (str:ByteArray) (hx:a.eval x=.string str) (add:List Int) (hc:strCells str=cells add) (hl:str.size=add.length) (hbw:Below wb.heap.size wb w) (hn:bs.length+add.length<=140737488355328)
  (hK:∀v' w',App w0 p c v wb bs (bs++add) v' w'->K (a.put op.dst v') w'):op.wp Tryz.prog a w K Q:=by
 obtain ⟨i,hi,hz,hsz,hby⟩:=info_parts u8Info
 obtain ⟨v',w',hr,h2,h3,h4⟩:=run_str (P:=Tryz.prog) w w0.heap.size 53 9 op.type 5 i Tryz.underlying53 Tryz.underlying9 hi hz hsz hby v bs.length (cells bs) h.own str (by unfold maxLen;omega) (by omega) h.below.size
 unfold Oper.wp execOp
 simp only [ho,resolve,invoke,builtin,Sem.run_bind,Sem.run_pure,Result.andThen_ok,List.map_toArray,List.map_cons,List.map_nil,hs,hx,hr]
 refine hK _ _ ⟨w,h,?_,h3,h4,hbw⟩
 rw [List.length_append]
 rw [hc,hl] at h2
 have:cells (bs++add)=cells bs++cells add:=by unfold cells;rw [List.map_append]
 rw [this];exact h2
def TU (p:Nat) (oV:Option Addr) (kV:Nat) (bs:List Int) (n:Int) (s:ByteArray):Nat->Stab
 | 0=>sEq (.pointer (some ⟨p,0,none⟩))
 | 1=>sEq (.pointer (some ⟨p,0,none⟩))
 | 2=>sEq (.pointer (some ⟨p,0,none⟩))
 | 3=>sEq (.pointer (some ⟨p,10,none⟩))
 | 4=>sEq (.slice oV bs.length kV)
 | 5=>sEq (.int .i64 n)
 | 6=>sEq (.int .u64 n)
 | 7=>sEq (.string s)
 | _=>sEq undef
def TS (p:Nat) (oV:Option Addr) (kV:Nat) (bs:List Int) (n:Int) (s:ByteArray):Nat->Stab
 | 0=>sEq (.pointer (some ⟨p,0,none⟩))
 | 1=>sEq (.pointer (some ⟨p,0,none⟩))
 | 2=>sEq (.pointer (some ⟨p,0,none⟩))
 | 3=>sEq (.pointer (some ⟨p,10,none⟩))
 | 4=>sEq (.slice oV bs.length kV)
 | 5=>sEq (.int .i64 n)
 | 6=>sEq (.string s)
 | _=>sEq undef
end Enc
set_option maxRecDepth 100000 in
set_option maxHeartbeats 2000000 in
theorem wU (w0:World) (p:Nat) (c:Nat->Value) (v:Value) (bs:List Int) (n:Int) (w:World) (h:WS w0 p c v bs w) (h0:0<=n) (h1:n<=9223372036854775807) (hn:bs.length<=100000000000000):Calls Tryz.prog 55 #[.pointer (some ⟨p,0,none⟩),.int .i64 n] w (Does w0 p c v w (bs++Leb.uB n)):=by
 obtain ⟨b2,hb2⟩:∃b2,b2=bs++Leb.uB n:=⟨_,rfl⟩
 rw [<- hb2]
 have HB2:=hideR hb2
 clear hb2
 obtain ⟨oV,kV,rfl⟩:=h.slice
 have HS:=hideR h
 clear h
 obtain ⟨s,hs⟩:∃s,s=strOfNums (Leb.uB n):=⟨_,rfl⟩
 have HC:Hid (strCells s=cells (Leb.uB n)):=hideR (by rw [hs];exact strCells_nums _ (uB_bd n.toNat n h0 (Nat.le_refl _)))
 have HL:Hid (s.size=(Leb.uB n).length):=hideR (by rw [hs];exact strOfNums_size _)
 have HT:Hid ((Leb.uB n).length<=10):=hideR (Leb.uB_ten h0 (by omega))
 have HSS:=hideR hs
 clear hs
 have hwr:IntKind.u64.wrap n=n:=by simp [IntKind.wrap,IntKind.signed,IntKind.bits];omega
 go_enter Tryz.func55,Tryz.ntmps55
 refine Reg.wp_region_mid 8 (fun i=>4+i) (fun i=>decide (i=0)) (fun i=>(TU p oV kV bs n s i).1) (App w0 p c (.slice oV bs.length kV) w bs b2) (by kernel_rfl) (by kernel_rfl) (fun i j h1 h2 h=>by have h':4+i=4+j:=h;omega) (Reg.dst_ok (size:=15) (by kernel_rfl)) (fun i v w w' _ h hb=>(TU p oV kV bs n s i).2 v w w' h hb) (fun i v w w' _ hp h=>by obtain rfl:i=0:=of_decide_eq_true hp;exact h) ?hstep ?hstepP ?happ ?htail
 case hstep =>
  intro i o a w2 hi ho hF hB hd
  have f0:a.tmps[0]?.getD undef=.pointer (some ⟨p,0,none⟩):=Reg.ev_get (hF.eval 0 (fun i hi=>by show 4+i≠0;omega))
  have f1:a.tmps[1]?.getD undef=.int .i64 n:=Reg.ev_get (hF.eval 1 (fun i hi=>by show 4+i≠1;omega))
  have kc:=(HS.out.on hB).cell
  have hcase:i=0\/i=1\/i=2\/i=3\/i=4\/i=5\/i=6\/i=7:=by omega
  clear hi
  rcases hcase with rfl|rfl|rfl|rfl|rfl|rfl|rfl|rfl
  all_goals (simp only [List.getElem?_toArray,List.getElem?_cons_succ,List.getElem?_cons_zero,Option.some.injEq] at ho;subst ho)
  ·refine Reg.step_k fun K hK=>?_
   go_simp
   exact hK _ _ ⟨_,rfl,Below.refl _ _,rfl⟩
  ·refine Reg.step_k fun K hK=>?_
   go_simp
   exact hK _ _ ⟨_,rfl,Below.refl _ _,rfl⟩
  ·have q0:a.tmps[5]?.getD undef=.pointer (some ⟨p,0,none⟩):=Reg.ev_get (hd 1 (by decide))
   refine Reg.step_k fun K hK=>?_
   go_simp
   exact hK _ _ ⟨_,rfl,Below.refl _ _,rfl⟩
  ·have q0:a.tmps[6]?.getD undef=.pointer (some ⟨p,0,none⟩):=Reg.ev_get (hd 2 (by decide))
   refine Reg.step_k fun K hK=>?_
   go_simp
   exact hK _ _ ⟨_,rfl,Below.refl _ _,rfl⟩
  ·have q0:a.tmps[7]?.getD undef=.pointer (some ⟨p,10,none⟩):=Reg.ev_get (hd 3 (by decide))
   refine Reg.step_k fun K hK=>?_
   go_simp
   exact hK _ _ ⟨_,rfl,Below.refl _ _,rfl⟩
  ·refine Reg.step_k fun K hK=>?_
   go_simp
   exact hK _ _ ⟨_,rfl,Below.refl _ _,rfl⟩
  ·have q0:a.tmps[9]?.getD undef=.int .i64 n:=Reg.ev_get (hd 5 (by decide))
   refine Reg.step_k fun K hK=>?_
   go_simp
   exact hK _ _ ⟨_,rfl,Below.refl _ _,rfl⟩
  ·have q0:a.tmps[10]?.getD undef=.int .u64 n:=Reg.ev_get (hd 6 (by decide))
   refine Reg.step_k fun K hK=>?_
   have HKK:=hideR hK
   clear hK
   go_simp
   refine (lebPutU n w2 h0 (by omega)).mono ?_
   rintro e w3 ⟨rfl,hb3⟩
   exact HKK.out _ _ ⟨_,rfl,hb3,by rw [HSS.out];rfl⟩
 case hstepP =>
  intro i o a w2 hi hp ho hF
  obtain rfl:i=0:=of_decide_eq_true hp
  have f0:a.tmps[0]?.getD undef=.pointer (some ⟨p,0,none⟩):=Reg.ev_get (hF.eval 0 (fun i hi=>by show 4+i≠0;omega))
  simp only [List.getElem?_toArray,List.getElem?_cons_zero,Option.some.injEq] at ho
  subst ho
  refine Reg.step_k fun K hK=>?_
  go_simp
  exact hK _ _ ⟨_,rfl,rfl,rfl⟩
 case happ =>
  intro o a w2 ho hF hB hG
  simp only [List.getElem?_toArray,List.getElem?_cons_succ,List.getElem?_cons_zero,Option.some.injEq] at ho
  subst ho
  have g4:a.eval (.tmp 8)=.slice oV bs.length kV:=hG 4 (by omega) rfl
  have g7:a.eval (.tmp 11)=.string s:=hG 7 (by omega) rfl
  have hT:=HT.out
  exact op_str _ _ rfl (HS.out.on hB) g4 s g7 (Leb.uB n) HC.out HL.out hB (by omega) fun v' w' hA=>⟨v',rfl,by rw [HB2.out];exact hA⟩
 case htail =>
  intro a w2 hF hG hA
  have g0:a.tmps[4]?.getD undef=.pointer (some ⟨p,0,none⟩):=Reg.ev_get (show a.eval (.tmp 4)=_ from hG 0 (by omega) rfl)
  obtain ⟨o2,k2,hv⟩:=hA.slice
  have g8:=Reg.ev_get (a:=a) (k:=12) hv
  rw [show a.eval (.tmp (4+8))=_ from hv] at hA
  have HA:=hideR hA
  obtain ⟨kc,kf⟩:=hA.cell
  have HAS:=hideR hF.size
  have HDF:=hideR hF.defers
  clear hA hv hG hF
  simp only [List.drop_succ_cons,List.drop_zero]
  refine wpList_plain rfl fun K hK=>?_
  go_simp
  refine hK _ _ ?_
  clear hK
  have has:a.tmps.size=15:=HAS.out
  have h12:a.tmps[12]'(by rw [has];decide)=.slice o2 b2.length k2:=by simpa [has] using g8
  refine wpList_plain rfl fun K hK=>?_
  go_simp
  refine hK _ _ ?_
  clear hK
  refine wpList_plain rfl fun K hK=>?_
  go_simp
  refine hK _ _ (wpList_nil ?_)
  exact bodyPost_end (results_none rfl _ _ _) HDF.out ⟨_,rfl,HA.out.ws,HA.out.kept⟩
set_option maxRecDepth 100000 in
set_option maxHeartbeats 2000000 in
theorem wS (w0:World) (p:Nat) (c:Nat->Value) (v:Value) (bs:List Int) (n:Int) (w:World) (h:WS w0 p c v bs w) (h0:-9223372036854775808<=n) (h1:n<=9223372036854775807) (hn:bs.length<=100000000000000):Calls Tryz.prog 126 #[.pointer (some ⟨p,0,none⟩),.int .i64 n] w (Does w0 p c v w (bs++Leb.sB n)):=by
 obtain ⟨b2,hb2⟩:∃b2,b2=bs++Leb.sB n:=⟨_,rfl⟩
 rw [<- hb2]
 have HB2:=hideR hb2
 clear hb2
 obtain ⟨oV,kV,rfl⟩:=h.slice
 have HS:=hideR h
 clear h
 obtain ⟨s,hs⟩:∃s,s=strOfNums (Leb.sB n):=⟨_,rfl⟩
 have HC:Hid (strCells s=cells (Leb.sB n)):=hideR (by rw [hs];exact strCells_nums _ (sB_bd n.natAbs n (Nat.le_refl _)))
 have HL:Hid (s.size=(Leb.sB n).length):=hideR (by rw [hs];exact strOfNums_size _)
 have HT:Hid ((Leb.sB n).length<=10):=hideR (Leb.sB_ten h0 (by omega))
 have HSS:=hideR hs
 clear hs
 have hwr:IntKind.i64.wrap n=n:=by simp [IntKind.wrap,IntKind.signed,IntKind.bits];omega
 go_enter Tryz.func126,Tryz.ntmps126
 refine Reg.wp_region_mid 7 (fun i=>4+i) (fun i=>decide (i=0)) (fun i=>(TS p oV kV bs n s i).1) (App w0 p c (.slice oV bs.length kV) w bs b2) (by kernel_rfl) (by kernel_rfl) (fun i j h1 h2 h=>by have h':4+i=4+j:=h;omega) (Reg.dst_ok (size:=14) (by kernel_rfl)) (fun i v w w' _ h hb=>(TS p oV kV bs n s i).2 v w w' h hb) (fun i v w w' _ hp h=>by obtain rfl:i=0:=of_decide_eq_true hp;exact h) ?hstep ?hstepP ?happ ?htail
 case hstep =>
  intro i o a w2 hi ho hF hB hd
  have f0:a.tmps[0]?.getD undef=.pointer (some ⟨p,0,none⟩):=Reg.ev_get (hF.eval 0 (fun i hi=>by show 4+i≠0;omega))
  have f1:a.tmps[1]?.getD undef=.int .i64 n:=Reg.ev_get (hF.eval 1 (fun i hi=>by show 4+i≠1;omega))
  have kc:=(HS.out.on hB).cell
  have hcase:i=0\/i=1\/i=2\/i=3\/i=4\/i=5\/i=6:=by omega
  clear hi
  rcases hcase with rfl|rfl|rfl|rfl|rfl|rfl|rfl
  all_goals (simp only [List.getElem?_toArray,List.getElem?_cons_succ,List.getElem?_cons_zero,Option.some.injEq] at ho;subst ho)
  ·refine Reg.step_k fun K hK=>?_
   go_simp
   exact hK _ _ ⟨_,rfl,Below.refl _ _,rfl⟩
  ·refine Reg.step_k fun K hK=>?_
   go_simp
   exact hK _ _ ⟨_,rfl,Below.refl _ _,rfl⟩
  ·have q0:a.tmps[5]?.getD undef=.pointer (some ⟨p,0,none⟩):=Reg.ev_get (hd 1 (by decide))
   refine Reg.step_k fun K hK=>?_
   go_simp
   exact hK _ _ ⟨_,rfl,Below.refl _ _,rfl⟩
  ·have q0:a.tmps[6]?.getD undef=.pointer (some ⟨p,0,none⟩):=Reg.ev_get (hd 2 (by decide))
   refine Reg.step_k fun K hK=>?_
   go_simp
   exact hK _ _ ⟨_,rfl,Below.refl _ _,rfl⟩
  ·have q0:a.tmps[7]?.getD undef=.pointer (some ⟨p,10,none⟩):=Reg.ev_get (hd 3 (by decide))
   refine Reg.step_k fun K hK=>?_
   go_simp
   exact hK _ _ ⟨_,rfl,Below.refl _ _,rfl⟩
  ·refine Reg.step_k fun K hK=>?_
   go_simp
   exact hK _ _ ⟨_,rfl,Below.refl _ _,rfl⟩
  ·have q0:a.tmps[9]?.getD undef=.int .i64 n:=Reg.ev_get (hd 5 (by decide))
   refine Reg.step_k fun K hK=>?_
   have HKK:=hideR hK
   clear hK
   go_simp
   refine (lebPutS n w2 h0 h1).mono ?_
   rintro e w3 ⟨rfl,hb3⟩
   exact HKK.out _ _ ⟨_,rfl,hb3,by rw [HSS.out];rfl⟩
 case hstepP =>
  intro i o a w2 hi hp ho hF
  obtain rfl:i=0:=of_decide_eq_true hp
  have f0:a.tmps[0]?.getD undef=.pointer (some ⟨p,0,none⟩):=Reg.ev_get (hF.eval 0 (fun i hi=>by show 4+i≠0;omega))
  simp only [List.getElem?_toArray,List.getElem?_cons_zero,Option.some.injEq] at ho
  subst ho
  refine Reg.step_k fun K hK=>?_
  go_simp
  exact hK _ _ ⟨_,rfl,rfl,rfl⟩
 case happ =>
  intro o a w2 ho hF hB hG
  simp only [List.getElem?_toArray,List.getElem?_cons_succ,List.getElem?_cons_zero,Option.some.injEq] at ho
  subst ho
  have g4:a.eval (.tmp 8)=.slice oV bs.length kV:=hG 4 (by omega) rfl
  have g7:a.eval (.tmp 10)=.string s:=hG 6 (by omega) rfl
  have hT:=HT.out
  exact op_str _ _ rfl (HS.out.on hB) g4 s g7 (Leb.sB n) HC.out HL.out hB (by omega) fun v' w' hA=>⟨v',rfl,by rw [HB2.out];exact hA⟩
 case htail =>
  intro a w2 hF hG hA
  have g0:a.tmps[4]?.getD undef=.pointer (some ⟨p,0,none⟩):=Reg.ev_get (show a.eval (.tmp 4)=_ from hG 0 (by omega) rfl)
  obtain ⟨o2,k2,hv⟩:=hA.slice
  have g8:=Reg.ev_get (a:=a) (k:=11) hv
  rw [show a.eval (.tmp (4+7))=_ from hv] at hA
  have HA:=hideR hA
  obtain ⟨kc,kf⟩:=hA.cell
  have HAS:=hideR hF.size
  have HDF:=hideR hF.defers
  clear hA hv hG hF
  simp only [List.drop_succ_cons,List.drop_zero]
  refine wpList_plain rfl fun K hK=>?_
  go_simp
  refine hK _ _ ?_
  clear hK
  have has:a.tmps.size=14:=HAS.out
  have h12:a.tmps[11]'(by rw [has];decide)=.slice o2 b2.length k2:=by simpa [has] using g8
  refine wpList_plain rfl fun K hK=>?_
  go_simp
  refine hK _ _ ?_
  clear hK
  refine wpList_plain rfl fun K hK=>?_
  go_simp
  refine hK _ _ (wpList_nil ?_)
  exact bodyPost_end (results_none rfl _ _ _) HDF.out ⟨_,rfl,HA.out.ws,HA.out.kept⟩
end Go.Proofs.YtlcpagiljfpbpaaGreatDoor

namespace Go.Proofs.YtlcpagiljfpbpaaGreatDoor
open Go.RowKit Rep Enc Go.Lib
set_option linter.unusedVariables false
set_option maxRecDepth 100000 in
set_option maxHeartbeats 1000000 in
theorem wFull (w0:World) (p:Nat) (c:Nat->Value) (v:Value) (bs:List Int) (w:World) (h:WS w0 p c v bs w) (hn:bs.length<=100000000000000) :
  Calls Tryz.prog 56 #[.pointer (some ⟨p,0,none⟩)] w fun e w'=>e=.returned (.bool (decide (262144<bs.length)))/\w'=w:=by
 obtain ⟨oV,kV,rfl⟩:=h.slice
 have kc:=h.cell
 clear h
 have hd:decide ((262144:Int)<(bs.length:Int))=decide (262144<bs.length):=by
  by_cases hb:262144<bs.length
  ·rw [decide_eq_true hb];exact decide_eq_true (by omega)
  ·rw [decide_eq_false hb];exact decide_eq_false (by omega)
 rw [<- hd]
 clear hd
 generalize bs.length=n at *
 go_enter Tryz.func56,Tryz.ntmps56
 go_wp2
 go_ret
 exact ⟨rfl,rfl⟩
def one (b:Bool):Int:=if b then 1 else 0
set_option maxRecDepth 100000 in
set_option maxHeartbeats 1000000 in
theorem wFlag (w0:World) (p:Nat) (c:Nat->Value) (v:Value) (bs:List Int) (b:Bool) (w:World) (h:WS w0 p c v bs w) (hn:bs.length<=100000000000000) :
  Calls Tryz.prog 89 #[.pointer (some ⟨p,0,none⟩),.bool b] w (Does w0 p c v w (bs++[one b])):=by
 have H1:=hideR (wPut w0 p c v bs 1 w h hn)
 have H0:=hideR (wPut w0 p c v bs 0 w h hn)
 clear h
 cases b
 ·go_enter Tryz.func89,Tryz.ntmps89
  go_wp2_with fail
  refine H0.out.mono ?_
  rintro e w1 ⟨v1,rfl,h1,k1⟩
  have HE:=hideR h1
  have HK:=hideR k1
  clear h1 k1
  go_wp2
  go_end0
  exact ⟨_,rfl,HE.out,HK.out⟩
 ·go_enter Tryz.func89,Tryz.ntmps89
  go_wp2_with fail
  refine H1.out.mono ?_
  rintro e w1 ⟨v1,rfl,h1,k1⟩
  have HE:=hideR h1
  have HK:=hideR k1
  clear h1 k1
  go_wp2
  go_end0
  exact ⟨_,rfl,HE.out,HK.out⟩
theorem wpList_str {P:Program} {w:World} {ops:Array Oper} {rest:List Oper} {o:Oper} {a:Act} {Q:Exit->Act->World->Prop} (hgd:o.guard=none) (sl x:Operand) (t u:TypeId)
  (ho:o.op=.call { callee:=.builtin .append,args:=#[sl,x],argTypes:=#[t,u] })
  (base:Nat) (e:TypeId) (i:TypeInfo) (ht:P.underlying t=some (.slice e)) (hu:P.underlying u=some .string) (hi:P.info? e=some i) (hz:i.zero=some (.int .u8 0)) (hsize:i.size=1) (hby:i.bytes=1)
  (v:Value) (n:Nat) (xs:List Value) (hs:a.eval sl=v) (hown:w.ownsRow base e 1 v n xs) (s:ByteArray) (hx:a.eval x=.string s) (h63:n+s.size<=maxLen) (hbytes:n+s.size<=140737488355328) (hbase:base<=w.heap.size)
  (h:∀v' w',w'.ownsRow base e 1 v' (n+s.size) (xs++strCells s)->w.grownBy w' v.ownBlock->(v'.ownBlock=v.ownBlock\/v'.ownBlock=some w.heap.size)->wpList P ops Q rest (a.put o.dst v') w'):wpList P ops Q (o :: rest) a w:=by
 refine wpList_plain hgd fun K hK=>?_
 obtain ⟨v',w',hr,h2,h3,h4⟩:=run_str (P:=P) w base t u o.type e i ht hu hi hz hsize hby v n xs hown s h63 hbytes hbase
 unfold Oper.wp execOp
 simp only [ho,resolve,invoke,builtin,Sem.run_bind,Sem.run_pure,Result.andThen_ok,List.map_toArray,List.map_cons,List.map_nil,hs,hx,hr]
 exact hK _ _ (h v' w' h2 h3 h4)
set_option maxRecDepth 100000 in
set_option maxHeartbeats 1000000 in
theorem wText (w0:World) (p:Nat) (c:Nat->Value) (v:Value) (bs:List Int) (s:ByteArray) (w:World) (h:WS w0 p c v bs w) (hn:bs.length<=100000000000000) (hs:s.size<=100000000) :
  Calls Tryz.prog 87 #[.pointer (some ⟨p,0,none⟩),.string s] w (Does w0 p c v w (bs++Leb.uB (s.size:Int)++nums s)):=by
 have H1:=hideR (wU w0 p c v bs (s.size:Int) w h (by omega) (by omega) hn)
 have hten:=Leb.uB_ten (n:=(s.size:Int)) (by omega) (by omega)
 have HLEN:Hid ((bs++Leb.uB (s.size:Int)).length<=100000001000000):=hideR (by rw [List.length_append];omega)
 clear h hten
 obtain ⟨i0,hi,hz0,hz1,hz2⟩:=info_parts u8Info
 go_enter Tryz.func87,Tryz.ntmps87
 go_wp2_with fail
 refine H1.out.mono ?_
 rintro e w1 ⟨v1,rfl,h1,k1⟩
 have HK1:=hideR k1
 clear k1
 obtain ⟨oV,kV,rfl⟩:=h1.slice
 have HS:=hideR h1
 have kc:=h1.cell
 clear h1 H1
 have hlen:=HLEN.out
 generalize hbs:bs++Leb.uB (s.size:Int)=b1 at *
 go_wp2_with (first|(at_builtin;refine wpList_str rfl _ _ 53 9 rfl w0.heap.size 5 i0 Tryz.underlying53 Tryz.underlying9 hi hz0 hz1 hz2 _ _ _ rfl HS.out.own s rfl ?c3 ?c4 ?c5 ?_))
 case c3=>unfold maxLen;omega
 case c4=>omega
 case c5=>exact HS.out.below.size
 intro v' w9 hown hg hv
 have hA:App w0 p c (.slice oV b1.length kV) w1 b1 (b1++nums s) v' w9:=⟨w1,HS.out,by
  rw [List.length_append,nums_len]
  have:cells (b1++nums s)=cells b1++strCells s:=by rw [strCells_cells];unfold cells;rw [List.map_append]
  rw [this];exact hown,hg,hv,Below.refl _ _⟩
 clear hown hg hv
 generalize hb2:b1++nums s=b2 at *
 obtain ⟨o9,k9,rfl⟩:=hA.slice
 obtain ⟨kc9,kf9⟩:=hA.cell
 have HE:=hideR hA.ws
 have HK2:=hideR (HK1.out.trans hA.kept)
 clear hA HS kc
 go_wp2
 go_end0
 exact ⟨_,rfl,HE.out,HK2.out⟩
end Go.Proofs.YtlcpagiljfpbpaaGreatDoor


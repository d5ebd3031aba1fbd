/- Texts that the claim needs. -/
import Derived.Test.YtkdbgopgjbfhbaaGreatDoorQPW34
import Derived.Test.YtkdbgopgjbfhbaaGreatDoorQPW13
namespace Go.Proofs.YtkdbgopgjbfhbaaGreatDoor
open Go.RowKit Lx Pz bq
set_option linter.unusedVariables false
set_option maxRecDepth 100000
set_option maxHeartbeats 8000000
theorem ad5 (s:ByteArray) (w:World) (fT:WL w) (h0:(lx s).2.2≠0):Calls Tryz.prog 10 #[.string s] w fun e w'=>zH w (.error ((lx s).2.1,(lx s).2.2)) e w':=by
 have H0:=ae (PE.start w);have TG:∀(fn:Fn) (first cap:Array Value) (w:World),(Instr.makeFunc fn first cap).run Tryz.prog w=.ok (.func fn first cap) w:=fun _ _ _ _=>rfl;have kC:=ae (LJ s (rf w) (fT.on (PE.start w).below));obtain ⟨⟨L,db,er⟩,hL⟩:∃R,R=lx s:=⟨_,rfl⟩;rw [<- hL] at kC h0 ⊢
 change er≠0 at h0
 have hq:(er != 0)=true:=bne_iff_ne.2 h0;show Calls _ _ _ _ fun e w'=>zH w (.error (db,er)) e w';clear hL fT h0
 go_enter_defers Tryz.func10,Tryz.ntmps10
 go_upto_region 2 with fail;obtain ⟨wb,hwb⟩:∃wb,wb=rf w:=⟨_,rfl⟩;rw [<- hwb] at H0 kC;have sP:=hwb;unfold rf at sP;rw [<- sP];clear hwb sP;go_wp2_with fail;refine kC.out.mono ?_;rintro e u ⟨v,rfl,hown,hb⟩;obtain ⟨oV,cV,rfl⟩:=DR (Fj hown);have H1:=ae (H0.out.on hb);have c1:=ak H1.out.b1 0 _ rfl;have c2:=ak H1.out.b2 0 _ rfl;have f1:u.frozen? ⟨w.heap.size+1,0,none⟩=false:=by unfold World.frozen?;rw [H1.out.b1];simp
 have f2:u.frozen? ⟨w.heap.size+2,0,none⟩=false:=by unfold World.frozen?;rw [H1.out.b2];simp
 clear hown hb kC;go_upto_region 3 with fail;obtain ⟨t1,ht1⟩:∃t1,t1=(u.setCell ⟨w.heap.size+1,0,none⟩ (.int .i64 db)).setCell ⟨w.heap.size+2,0,none⟩ (.int .i64 er):=⟨_,rfl⟩;have P1:Hid (PE w dG db er t1):=ae (by rw [ht1];exact (H1.out.set1 db).set2 er);have d2:=ak P1.out.b2 0 _ rfl;rw [<- ht1];clear ht1 H1 c1 c2 f1 f2 H0;go_wp2_with fail;refine aj.J0 6 35 (fun i=>16+i) [3,4,5] [] (fun _ _ u'=>PE w dG db er u') (fun u=>PE w dG db er u) (fun _ _=>True) (fun i v _=>(i=0->v=.agg dG)/\(i=1->v=.int .i64 db)/\(i=2->v=.int .i64 er)) (by kernel_rfl) (by kernel_rfl) (by kernel_rfl) (by kernel_rfl) rfl ?hN (fun i k v u u' _ _ _ _ _ _ hG _=>hG) (fun _ _ _ _ _ _ _ _ _ _ _=>trivial) (fun k u u' _ _ hT=>hT) ?hstep ?hend (P1.out.on (iF _)) (fun _ _=>trivial)
 case hN =>
  intro i hi v v' u h;have hc:i=3\/i=4\/i=5:=by simpa using hi
  rcases hc with rfl|rfl|rfl<;>exact ⟨fun h=>absurd h (by decide),fun h=>absurd h (by decide),fun h=>absurd h (by decide)⟩
 case hstep =>
  intro j o a v hj ho hF hK hR hd;have f2:a.eval (.tmp 2)=.pointer (some ⟨w.heap.size,0,none⟩):=hF.eval 2 (fun i hi=>by show 16+i≠2;omega);have f3:a.tmps[3]?.getD undef=.pointer (some ⟨w.heap.size+1,0,none⟩):=aj.ay (hF.eval 3 (fun i hi=>by show 16+i≠3;omega));have f4:a.tmps[4]?.getD undef=.pointer (some ⟨w.heap.size+1+1,0,none⟩):=aj.ay (hF.eval 4 (fun i hi=>by show 16+i≠4;omega));have HK:=ae hK;have c1:=ak hK.b1 0 _ rfl;have c2:=ak hK.b2 0 _ rfl;have g1:=hK.Hj;have g2:=hK.Hk;have hcase:j=0\/j=1\/j=2\/j=3\/j=4\/j=5:=by omega
  clear hj hR hK;rcases hcase with rfl|rfl|rfl|rfl|rfl|rfl
  all_goals (simp only [List.getElem?_toArray,List.getElem?_cons_succ,List.getElem?_cons_zero,Option.some.injEq] at ho;subst ho;refine aj.bB fun K ax=>?_)
  ·go_simp;exact ax _ _ ⟨_,rfl,HK.out,fun _=>rfl,fun h=>absurd h (by decide),fun h=>absurd h (by decide)⟩
  ·go_simp;exact ax _ _ ⟨_,rfl,HK.out,fun h=>absurd h (by decide),fun _=>rfl,fun h=>absurd h (by decide)⟩
  ·go_simp;exact ax _ _ ⟨_,rfl,HK.out,fun h=>absurd h (by decide),fun h=>absurd h (by decide),fun _=>rfl⟩
  ·have q:a.eval (.tmp 16)=.agg dG:=(hd 0 (by decide)).1 rfl;obtain ⟨W,hW,hth,hP⟩:=HK.out.put dG rfl;refine wp_store_mid 29 (.tmp 2) (.tmp 16) rfl w.heap.size 0 dG f2 q hth nO (by simp [Value.oneCell']) ?_;rw [hW];exact ax _ _ ⟨undef,rfl,hP,fun h=>absurd h (by decide),fun h=>absurd h (by decide),fun h=>absurd h (by decide)⟩
  ·have q:a.tmps[17]?.getD undef=.int .i64 db:=aj.ay ((hd 1 (by decide)).2.1 rfl);go_simp;exact ax _ _ ⟨undef,rfl,HK.out.set1 db,fun h=>absurd h (by decide),fun h=>absurd h (by decide),fun h=>absurd h (by decide)⟩
  ·have q:a.tmps[18]?.getD undef=.int .i64 er:=aj.ay ((hd 2 (by decide)).2.2 rfl);go_simp;exact ax _ _ ⟨undef,rfl,HK.out.set2 er,fun h=>absurd h (by decide),fun h=>absurd h (by decide),fun h=>absurd h (by decide)⟩
 case hend =>
  intro a v hF hK hn;obtain ⟨xl,hxl,rfl,hev⟩:=hF.lit (by simp)
  obtain ⟨x0,x1,x2,x3,x4,x5,rfl⟩:∃x0 x1 x2 x3 x4 x5,xl = [x0,x1,x2,x3,x4,x5]:=by
   match xl,hxl with
   | [x0,x1,x2,x3,x4,x5],_=>exact ⟨x0,x1,x2,x3,x4,x5,rfl⟩
  have HK:=ae hK;clear hev hxl hF hn hK;simp only [List.take_succ_cons,List.take_zero,List.drop_succ_cons,List.drop_zero,List.cons_append,List.nil_append];go_wp2_with fail;refine leaves_cons (f:=22) (args:=#[.pointer (some ⟨w.heap.size,0,none⟩),.pointer (some ⟨w.heap.size+1,0,none⟩),.pointer (some ⟨w.heap.size+2,0,none⟩)]) (by simp) (by simp [go_sem]) ?_;refine (Fq w.heap.size (w.heap.size+1) (w.heap.size+2) _).mono ?_;rintro e u' w9 ⟨rfl,rfl,rfl⟩;have eH:=HK.out;have z0:=ak eH.b0 0 _ rfl;have z1:=ak eH.b0 1 _ rfl;have z2:=ak eH.b0 2 _ rfl;have z3:=ak eH.b0 3 _ rfl;have z4:=ak eH.b0 4 _ rfl;have z5:=ak eH.b0 5 _ rfl;have z6:=ak eH.b0 6 _ rfl;have z7:=ak eH.b0 7 _ rfl;have qZ:=ak eH.b1 0 _ rfl;have Au:=ak eH.b2 0 _ rfl;simp [Leaves,settle,results,Tryz.results10,go_sem,z0,z1,z2,z3,z4,z5,z6,z7,qZ,Au];exact ⟨eH.below,rfl⟩
namespace Pz
def Says (s:ByteArray) (R:Except (Int × Int) (List Value × Value)):Prop :=
 if (lx s).2.2≠0 then R=.error ((lx s).2.1,(lx s).2.2) else
 match jQ (lx s).1 s.size with
 | .error z=>R=.error (z,120)
 | .ok ((ds,t),_)=>∃d,fit d t/\R=kX d ds t
theorem ad6 {d e:Nat} {t:Value} (hd:fit d t) (he:fit e t) (ds:List Value):kX e ds t=kX d ds t:=by
 unfold kX;rw [Px hd he]
theorem Says.one {s:ByteArray} {R R':Except (Int × Int) (List Value × Value)} (h:Says s R) (h':Says s R'):R=R':=by
 unfold Says at h h';split at h
 ·rename_i hc;rw [if_pos hc] at h';rw [h,h']
 ·rename_i hc;rw [if_neg hc] at h';cases hp:jQ (lx s).1 s.size with
  | error z=>rw [hp] at h h';rw [h,h']
  | ok r =>
   obtain ⟨⟨ds,t⟩,j⟩:=r;rw [hp] at h h';obtain ⟨d,hd,rfl⟩:=h;obtain ⟨e,he,rfl⟩:=h';exact ad6 he hd ds
theorem Says.good {s:ByteArray} {ds:List Value} {t:Value} (h:Says s (.ok (ds,t))):∃j d,jQ (lx s).1 s.size=.ok ((ds,t),j)/\fit d t/\kV d ds t=false/\pq 256 ds t=false:=by
 unfold Says at h;split at h
 ·cases h
 ·split at h
  ·cases h
  ·rename_i ds' t' j hp;obtain ⟨d,hd,hl⟩:=h;unfold kX at hl;split at hl
   ·cases hl
   ·rename_i h1;split at hl
    ·cases hl
    ·rename_i h2;injection hl with hl;injection hl with e1 e2;subst e1 e2;exact ⟨j,d,hp,hd,by simpa using h1,by simpa using h2⟩
end Pz
theorem Bd (s:ByteArray) (w:World) (fT:WL w):Calls Tryz.prog 10 #[.string s] w fun e w'=>∃R,Says s R/\zH w R e w':=by
 by_cases h0:(lx s).2.2=0
 ·cases hp:jQ (lx s).1 s.size with
  | error z =>
   refine (ab6 s w fT z h0 hp).mono ?_;rintro e w' ⟨he,hb⟩;exact ⟨.error (z,120),by unfold Says;rw [if_neg (by simpa using h0),hp],hb,he⟩
  | ok r =>
   obtain ⟨⟨ds,t⟩,j⟩:=r;refine (ad7 s w fT ds t j h0 hp).mono ?_;rintro e w' ⟨d,hd,hP⟩;exact ⟨_,by unfold Says;rw [if_neg (by simpa using h0),hp];exact ⟨d,hd,rfl⟩,hP⟩
 ·refine (ad5 s w fT h0).mono ?_;rintro e w' hP;exact ⟨_,by unfold Says;rw [if_pos h0],hP⟩
theorem ad9 (w:World):Calls Tryz.prog 78 #[.slice none 0 0,.slice none 0 0,.bool true] w fun e w'=>e=.returned (.bool true)/\Below w.heap.size w w':=by
 go_enter Tryz.func78,Tryz.ntmps78;go_wp2_with fail;go_loopw [7] (fun a wr=>a=.int .i64 0/\Hid (Below w.heap.size w wr)) (fun _ _=>0)
 case atStart=>exact ⟨rfl,ae (Below.refl _ _)⟩
 case round =>
  obtain ⟨rfl,HB⟩:=hrel;go_wp2;go_ret;exact ⟨rfl,HB.out⟩
theorem aea (w:World):Calls Tryz.prog 33 #[.slice none 0 0,.slice none 0 0,.bool true] w fun e w'=>e=.returned (.bool true)/\Below w.heap.size w w':=by
 go_enter Tryz.func33,Tryz.ntmps33;go_wp2_with fail;go_loopw [7] (fun a wr=>a=.int .i64 0/\Hid (Below w.heap.size w wr)) (fun _ _=>0)
 case atStart=>exact ⟨rfl,ae (Below.refl _ _)⟩
 case round =>
  obtain ⟨rfl,HB⟩:=hrel;go_wp2;go_ret;exact ⟨rfl,HB.out⟩
theorem aeb (w:World):Calls Tryz.prog 32 #[.slice none 0 0,.slice none 0 0,.bool true] w fun e w'=>e=.returned (.bool true)/\Below w.heap.size w w':=by
 go_enter Tryz.func32,Tryz.ntmps32;go_wp2_with fail;go_loopw [7] (fun a wr=>a=.int .i64 0/\Hid (Below w.heap.size w wr)) (fun _ _=>0)
 case atStart=>exact ⟨rfl,ae (Below.refl _ _)⟩
 case round =>
  obtain ⟨rfl,HB⟩:=hrel;go_wp2;go_ret;exact ⟨rfl,HB.out⟩
namespace aj
theorem Fr.two {l:List Value} {ds:List Deferred} {N:Nat} {dst:Nat->Nat} {a:Act} {s1 s2 lo n:Nat} {v1 v2:Value} (hF:Fr ⟨l.toArray,ds⟩ dst N a) (h1:a.eval (.tmp s1)=v1) (h2:a.eval (.tmp s2)=v2) (hs:s1<l.length/\s2<l.length/\s1≠s2) (hd:∀k,k≠s1->k≠s2->(∀i,i<n->lo+i≠k)->∀i,i<N->dst i≠k):Fr ⟨((l.set s1 v1).set s2 v2).toArray,ds⟩ (fun i=>lo+i) n a:=by
 obtain ⟨hs1,hs2,hne⟩:=hs;have hsz:a.tmps.size=l.length:=by rw [hF.size];simp
 have key:∀s v,s<l.length->a.eval (.tmp s)=v->a.tmps[s]?=some v:=fun s v hs h=>by
  have hl:s<a.tmps.size:=by omega
  rw [Array.getElem?_eq_getElem hl];have h':a.tmps.getD s undef=v:=h;simp [Array.getD,hl] at h';rw [h']
 refine ⟨hF.defers,by simpa using hF.size,fun k hk=>?_⟩;simp only [List.getElem?_toArray];by_cases e2:k=s2
 ·subst e2;rw [List.getElem?_set_self (by simpa using hs2)];exact key _ _ hs2 h2
 ·rw [List.getElem?_set_ne (fun e=>e2 e.symm)];by_cases e1:k=s1
  ·subst e1;rw [List.getElem?_set_self hs1];exact key _ _ hs1 h1
  ·rw [List.getElem?_set_ne (fun e=>e1 e.symm)]
   have:=hF.rest k (hd k e1 e2 hk)
   simpa using this
end aj
namespace Pz
theorem Hl (i k:Nat) (hk:k≠8/\k≠9/\(k<21\/33<=k)) (hi:i<12):(if i<8 then 21+i else if i=8 then 8 else if i=9 then 9 else 21+i)≠k:=by
 repeat' split
 all_goals omega
def KZ (B:Nat) (w w':World):Prop:=Below B w w'/\∀b,B<=b->w.heap[b]?=some (.cells bO 27 (0,0))->w'.heap[b]?=some (.cells bO 27 (0,0))
theorem KZ.refl (B:Nat) (w:World):KZ B w w:=⟨Below.refl _ _,fun _ _ h=>h⟩
theorem KZ.alloc {B:Nat} (w:World) (hB:B<=w.heap.size) (o:Obj):KZ B w (w.alloc o) :=
 ⟨(Below.refl _ _).alloc hB _,fun b _ h=>by rw [((Below.refl _ w).alloc (Nat.le_refl _) o).block b (Array.getElem?_eq_some_iff.1 h).1];exact h⟩
def aec (B:Nat) (v:Value) (w:World):Prop:=∃b,v=.pointer (some ⟨b,0,none⟩)/\B<=b/\w.heap[b]?=some (.cells bO 27 (0,0))
theorem KZ.put {B b:Nat} {w:World} (hB:B<=b) (h:w.heap[b]?=some (.cells bO 27 (0,0))):∃W,w.setCells b 0 bO.toList=W/\w.there b 0 bO.size/\KZ B w W:=by
 obtain ⟨W,hW,hth,hbk,hoth⟩:=CO w 27 bO bO h rfl;refine ⟨W,hW,hth,?_,fun b' hb' h'=>?_⟩
 ·rw [<- hW];exact nL B b hB bO.toList 0 w w (Below.refl _ w)
 ·by_cases he:b'=b
  ·subst he;exact hbk
  ·rw [hoth b' he];exact h'
end Pz
theorem aed (w:World) (g g2 c c2:Nat) (hg:w.heap[g]?=some (.cells bO 27 (0,0))) (hg2:w.heap[g2]?=some (.cells bO 27 (0,0))):Calls Tryz.prog 33 #[.slice (some ⟨g,0,none⟩) 1 c,.slice (some ⟨g2,0,none⟩) 1 c2,.bool true] w fun e w'=>e=.returned (.bool true)/\Below w.heap.size w w':=by
 have HG:=ae hg;have HG2:=ae hg2;have HP:=ae ad9;have HE:=ae aea;clear hg hg2;go_enter Tryz.func33,Tryz.ntmps33;go_wp2_with fail;go_loopw [7] (fun a wr=>∃i:Nat,a=.int .i64 i/\i<=1/\Hid (Below w.heap.size w wr)) (fun a _=>match a with | .int _ i=>1-i.toNat|_=>0)
 case atStart=>exact ⟨0,rfl,by omega,ae (Below.refl _ _)⟩
 case round =>
  obtain ⟨i,rfl,hi,HB⟩:=hrel;by_cases h0:i=0
  ·subst h0;have hX:=(HB.out.block _ (Array.getElem?_eq_some_iff.1 HG.out).1).trans HG.out;have hY:=(HB.out.block _ (Array.getElem?_eq_some_iff.1 HG2.out).1).trans HG2.out;have HX:=ae hX;have HY:=ae hY;clear hX hY;go_upto_region 6 with fail;refine aj.J0 12 83 (fun i=>if i<8 then 21+i else if i=8 then 8 else if i=9 then 9 else 21+i) [10,11] [8,9] (fun _ u u'=>KZ wr.heap.size u u') (fun u=>Below wr.heap.size wr u) (fun _ _=>True) (fun i v u=>(i=0->v=.slice (some ⟨g,0,none⟩) 1 c)/\(i=1->v=.int .i64 0)/\(i=2->v=.pointer (some ⟨g,0,none⟩))/\(i=3->v=.agg bO)/\(i=4->v=.slice (some ⟨g2,0,none⟩) 1 c2)/\(i=5->v=.int .i64 0)/\(i=6->v=.pointer (some ⟨g2,0,none⟩))/\(i=7->v=.agg bO)/\(i=8\/i=9->aec wr.heap.size v u)) (by kernel_rfl) (by kernel_rfl) (by kernel_rfl) (by kernel_rfl) rfl ?hN ?mg (fun _ _ _ _ _ _ _ _ _ _ _=>trivial) (fun k u u' _ hK hT=>hK.trans hT.1) ?hstep ?hend (iF _) (fun _ _=>trivial)
   case hN =>
    intro i hi v v' u h;have hc:i=10\/i=11:=by simpa using hi
    rcases hc with rfl|rfl<;>exact ⟨fun h=>absurd h (by decide),fun h=>absurd h (by decide),fun h=>absurd h (by decide),fun h=>absurd h (by decide),fun h=>absurd h (by decide),fun h=>absurd h (by decide),fun h=>absurd h (by decide),fun h=>absurd h (by decide),fun h=>absurd h (by decide)⟩
   case mg =>
    intro i k v u u' _ _ _ _ _ _ hG hT;obtain ⟨a0,a1,a2,a3,a4,a5,a6,a7,a8⟩:=hG;refine ⟨a0,a1,a2,a3,a4,a5,a6,a7,fun h=>?_⟩;obtain ⟨b,h1,h2,h3⟩:=a8 h;exact ⟨b,h1,h2,hT.2 b h2 h3⟩
   case hstep =>
    intro j o a u hj ho hF hK hR hd;have f0:a.tmps[0]?.getD undef=.slice (some ⟨g,0,none⟩) 1 c:=aj.ay (hF.eval 0 (fun i hi=>Hl i 0 (by decide) hi));have f1:a.tmps[1]?.getD undef=.slice (some ⟨g2,0,none⟩) 1 c2:=aj.ay (hF.eval 1 (fun i hi=>Hl i 1 (by decide) hi));have f7:a.tmps[7]?.getD undef=.int .i64 0:=aj.ay (hF.eval 7 (fun i hi=>Hl i 7 (by decide) hi));have HK:=ae hK;have hX:=(hK.block _ (Array.getElem?_eq_some_iff.1 HX.out).1).trans HX.out;have hY:=(hK.block _ (Array.getElem?_eq_some_iff.1 HY.out).1).trans HY.out;have c0:=ak hX 0 _ rfl;have c1:=ak hX 1 _ rfl;have c2:=ak hX 2 _ rfl;have c3:=ak hX 3 _ rfl;have c4:=ak hX 4 _ rfl;have c5:=ak hX 5 _ rfl;have c6:=ak hX 6 _ rfl;have d0:=ak hY 0 _ rfl;have d1:=ak hY 1 _ rfl;have d2:=ak hY 2 _ rfl;have d3:=ak hY 3 _ rfl;have d4:=ak hY 4 _ rfl;have d5:=ak hY 5 _ rfl;have d6:=ak hY 6 _ rfl;have hcase:j=0\/j=1\/j=2\/j=3\/j=4\/j=5\/j=6\/j=7\/j=8\/j=9\/j=10\/j=11:=by omega
    clear hj hR hK hX hY;rcases hcase with rfl|rfl|rfl|rfl|rfl|rfl|rfl|rfl|rfl|rfl|rfl|rfl
    all_goals (simp only [List.getElem?_toArray,List.getElem?_cons_succ,List.getElem?_cons_zero,Option.some.injEq] at ho;subst ho;refine aj.bB fun K ax=>?_)
    ·go_simp;exact ax _ _ ⟨_,rfl,KZ.refl _ _,by simp⟩
    ·go_simp;exact ax _ _ ⟨_,rfl,KZ.refl _ _,by simp⟩
    ·have q0:a.tmps[21]?.getD undef=_:=aj.ay ((hd 0 (by decide)).1 rfl);have q1:a.tmps[22]?.getD undef=_:=aj.ay ((hd 1 (by decide)).2.1 rfl);go_simp;exact ax _ _ ⟨_,rfl,KZ.refl _ _,by simp⟩
    ·have q0:a.tmps[23]?.getD undef=_:=aj.ay ((hd 2 (by decide)).2.2.1 rfl);go_simp;exact ax _ _ ⟨_,rfl,KZ.refl _ _,by simp⟩
    ·go_simp;exact ax _ _ ⟨_,rfl,KZ.refl _ _,by simp⟩
    ·go_simp;exact ax _ _ ⟨_,rfl,KZ.refl _ _,by simp⟩
    ·have q0:a.tmps[25]?.getD undef=_:=aj.ay ((hd 4 (by decide)).2.2.2.2.1 rfl);have q1:a.tmps[26]?.getD undef=_:=aj.ay ((hd 5 (by decide)).2.2.2.2.2.1 rfl);go_simp;exact ax _ _ ⟨_,rfl,KZ.refl _ _,by simp⟩
    ·have q0:a.tmps[27]?.getD undef=_:=aj.ay ((hd 6 (by decide)).2.2.2.2.2.2.1 rfl);go_simp;exact ax _ _ ⟨_,rfl,KZ.refl _ _,by simp⟩
    ·go_simp;exact ax _ _ ⟨_,rfl,KZ.alloc _ HK.out.size _,by simp;exact ⟨_,rfl,HK.out.size,heap_alloc_new _ _⟩⟩
    ·go_simp;exact ax _ _ ⟨_,rfl,KZ.alloc _ HK.out.size _,by simp;exact ⟨_,rfl,HK.out.size,heap_alloc_new _ _⟩⟩
    ·obtain ⟨b,h1,h2,h3⟩:=(hd 8 (by decide)).2.2.2.2.2.2.2.2 (.inl rfl);have q:a.eval (.tmp 24)=.agg bO:=(hd 3 (by decide)).2.2.2.1 rfl;obtain ⟨W,hW,hth,MP⟩:=KZ.put h2 h3;refine wp_store_mid 27 (.tmp 8) (.tmp 24) rfl b 0 bO h1 q hth cO (by simp [Value.oneCell']) ?_;rw [hW];exact ax _ _ ⟨undef,rfl,MP,by simp⟩
    ·obtain ⟨b,h1,h2,h3⟩:=(hd 9 (by decide)).2.2.2.2.2.2.2.2 (.inr rfl);have q:a.eval (.tmp 28)=.agg bO:=(hd 7 (by decide)).2.2.2.2.2.2.2.1 rfl;obtain ⟨W,hW,hth,MP⟩:=KZ.put h2 h3;refine wp_store_mid 27 (.tmp 9) (.tmp 28) rfl b 0 bO h1 q hth cO (by simp [Value.oneCell']) ?_;rw [hW];exact ax _ _ ⟨undef,rfl,MP,by simp⟩
   case hend =>
    intro a u hF hK hn;obtain ⟨b,h1,h2,h3⟩:=(hn 8 (by simp) (by decide)).2.2.2.2.2.2.2.2 (.inl rfl);obtain ⟨b',h1',h2',h3'⟩:=(hn 9 (by simp) (by decide)).2.2.2.2.2.2.2.2 (.inr rfl);have fH:=ae (aB HB.out hK);have c0:=ak h3 0 _ rfl;have c1:=ak h3 1 _ rfl;have c2:=ak h3 2 _ rfl;have c3:=ak h3 3 _ rfl;have c4:=ak h3 4 _ rfl;have c5:=ak h3 5 _ rfl;have c6:=ak h3 6 _ rfl;have d0:=ak h3' 0 _ rfl;have d1:=ak h3' 1 _ rfl;have d2:=ak h3' 2 _ rfl;have d3:=ak h3' 3 _ rfl;have d4:=ak h3' 4 _ rfl;have d5:=ak h3' 5 _ rfl;have d6:=ak h3' 6 _ rfl;have H3:=ae h3;have gJ:=ae h3'
    obtain ⟨xl,hxl,rfl,hev⟩:=(aj.Fr.two (s1:=8) (s2:=9) (lo:=21) (n:=12) hF h1 h1' (by simp) (fun k e1 e2 e3 i hi=>Hl i k ⟨e1,e2,by
     rcases Nat.lt_or_ge k 21 with h|h
     ·exact .inl h
     ·refine .inr (Nat.le_of_not_lt fun hl=>e3 (k-21) (by omega) (by omega))⟩ hi)).lit (by simp)
    obtain ⟨x0,x1,x2,x3,x4,x5,x6,x7,x8,x9,gD,iD,rfl⟩:∃x0 x1 x2 x3 x4 x5 x6 x7 x8 x9 gD iD,xl = [x0,x1,x2,x3,x4,x5,x6,x7,x8,x9,gD,iD]:=by
     match xl,hxl with
     | [x0,x1,x2,x3,x4,x5,x6,x7,x8,x9,gD,iD],_=>exact ⟨x0,x1,x2,x3,x4,x5,x6,x7,x8,x9,gD,iD,rfl⟩
    clear hev hxl hF hn hK h1 h1' h2 h2' h3 h3';simp only [List.set_cons_succ,List.set_cons_zero,List.take_succ_cons,List.take_zero,List.drop_succ_cons,List.drop_zero,List.cons_append,List.nil_append];go_wp2_with fail;refine Calls.mono (show Calls _ _ _ _ _ from HP.out _) ?_;rintro e w2 ⟨rfl,hb2⟩;have k3:=(hb2.block _ (Array.getElem?_eq_some_iff.1 H3.out).1).trans H3.out;have jo:=(hb2.block _ (Array.getElem?_eq_some_iff.1 gJ.out).1).trans gJ.out;have m4:=ak k3 4 _ rfl;have n4:=ak jo 4 _ rfl;have HB2:=ae (aB fH.out hb2);clear hb2 k3 jo c0 c1 c2 c3 c4 c5 c6 d0 d1 d2 d3 d4 d5 d6;go_wp2_with fail;refine Calls.mono (show Calls _ _ _ _ _ from HE.out _) ?_;rintro e w3 ⟨rfl,hb3⟩;have bb:=ae (aB HB2.out hb3);clear hb3 m4 n4;go_wp2;go_roundw
    case rel=>exact ⟨1,rfl,Nat.le_refl _,bb⟩
    case measure=>simp
  ·have h1:i=1:=by omega
   subst h1;go_wp2;go_ret;exact ⟨rfl,HB.out⟩
theorem abu (w:World):Calls Tryz.prog 12 #[.agg dG,.agg dG,.bool true] w fun e w'=>e=.returned (.bool true)/\Below w.heap.size w w':=by
 obtain ⟨W,hW⟩:∃W,W=(w.alloc (.cells dG 29)).alloc (.cells dG 29):=⟨_,rfl⟩;have hb1:=dF w (.cells dG 29);have hb2:=dF (w.alloc (.cells dG 29)) (.cells dG 29);have HB:Hid (Below w.heap.size w W):=ae (by rw [hW];exact aB hb1 hb2);have HX:Hid (W.heap[w.heap.size]?=some (.cells dG 29 (0,0))):=ae (by rw [hW,hb2.block _ (by simp)];exact heap_alloc_new w _);have HY:Hid (W.heap[w.heap.size+1]?=some (.cells dG 29 (0,0))):=ae (by rw [hW];exact Bf _ _ (by simp));have HD:=ae (aeb W);clear hb1 hb2;have z0:=ak HX.out 0 _ rfl;have u0:=ak HY.out 0 _ rfl;go_enter Tryz.func12,Tryz.ntmps12;go_upto_region 1 with fail;rw [<- hW];clear hW;go_wp2_with fail;refine Calls.mono (show Calls _ _ _ _ _ from HD.out) ?_;rintro e w1 ⟨rfl,hb1⟩;have HB1:=ae (aB HB.out hb1);have hx1:=(hb1.block _ (Array.getElem?_eq_some_iff.1 HX.out).1).trans HX.out;have hy1:=(hb1.block _ (Array.getElem?_eq_some_iff.1 HY.out).1).trans HY.out;have z1:=ak hx1 1 _ rfl;have z2:=ak hx1 2 _ rfl;have z3:=ak hx1 3 _ rfl;have z4:=ak hx1 4 _ rfl;have z5:=ak hx1 5 _ rfl;have z6:=ak hx1 6 _ rfl;have z7:=ak hx1 7 _ rfl;have n1:=dF w1 (.cells bO 27);have n2:=dF (w1.alloc (.cells bO 27)) (.cells bO 27);have v1:=ai n1 (ak hy1 1 _ rfl);have v2:=ai n1 (ak hy1 2 _ rfl);have v3:=ai n1 (ak hy1 3 _ rfl);have v4:=ai n1 (ak hy1 4 _ rfl);have v5:=ai n1 (ak hy1 5 _ rfl);have v6:=ai n1 (ak hy1 6 _ rfl);have v7:=ai n1 (ak hy1 7 _ rfl);have HN:=ae (aB n1 n2);have HE:=ae (aed ((w1.alloc (.cells bO 27)).alloc (.cells bO 27)) w1.heap.size (w1.heap.size+1) 1 1 (by rw [n2.block _ (by simp)];exact heap_alloc_new w1 _) (Bf _ _ (by simp)));clear hb1 hx1 hy1 HX HY HB HD z0 u0 n1 n2;go_wp2_with fail;refine Calls.mono (show Calls _ _ _ _ _ from HE.out) ?_;rintro e w2 ⟨rfl,hb2⟩;have HB2:=ae (aB (aB HB1.out HN.out) hb2);clear hb2 HE;go_wp2;go_ret;exact ⟨rfl,HB2.out⟩
namespace Pz
abbrev Zt:=Option Nat × Option Nat
abbrev cl (cs:Array Value) (TY:TypeId):Obj:=.cells cs TY (0,0)
def dN (TY:TypeId) (zc CA CB:Array Value) (L:List Value) (z:Zt) (i:Nat) (v:Value) (u:World):Prop :=
 (i<8->v=L.getD i undef) /\
 (i=8->∃b,z.1=some b/\v=.pointer (some ⟨b,0,none⟩)/\(u.heap[b]?=some (cl zc TY)\/u.heap[b]?=some (cl CA TY))) /\
 (i=9->∃b,z.2=some b/\v=.pointer (some ⟨b,0,none⟩)/\(u.heap[b]?=some (cl zc TY)\/u.heap[b]?=some (cl CB TY))) /\
 (i=10->∃b,z.1=some b/\u.heap[b]?=some (cl CA TY)) /\
 (i=11->∃b,z.2=some b/\u.heap[b]?=some (cl CB TY))
structure yX (B:Nat) (wr:World) (z:Zt) (u:World):Prop where
 eG:Below B wr u
 a:∀b,z.1=some b->B<=b/\b<u.heap.size
 b:∀b,z.2=some b->B<=b/\b<u.heap.size
 ne:∀b b',z.1=some b->z.2=some b'->b≠b'
 sz:B<=u.heap.size
structure dY (B:Nat) (TY:TypeId) (CA CB:Array Value) (k:Nat) (z z':Zt) (u u':World):Prop where
 eG:Below B u u'
 r:k<8->z'=z/\∀b:Nat,u'.heap[b]?=u.heap[b]?
 n8:k=8->z'=(some u.heap.size,z.2)/\u.heap.size<u'.heap.size/\∀b:Nat,b<u.heap.size->u'.heap[b]?=u.heap[b]?
 n9:k=9->z'=(z.1,some u.heap.size)/\u.heap.size<u'.heap.size/\∀b:Nat,b<u.heap.size->u'.heap[b]?=u.heap[b]?
 s8:k=10->z'=z/\(∀b,z.1=some b->u'.heap[b]?=some (cl CA TY))/\∀b:Nat,z.1≠some b->u'.heap[b]?=u.heap[b]?
 s9:k=11->z'=z/\(∀b,z.2=some b->u'.heap[b]?=some (cl CB TY))/\∀b:Nat,z.2≠some b->u'.heap[b]?=u.heap[b]?
section
variable {B:Nat} {TY:TypeId} {zc CA CB:Array Value} {L:List Value} {wr u u':World} {z z':Zt} {i k:Nat}
theorem yX.step (hk:k<12) (h:yX B wr z u) (t:dY B TY CA CB k z z' u u'):yX B wr z' u':=by
 have hs:=t.eG.size;have hc:k<8\/k=8\/k=9\/k=10\/k=11:=by omega
 have h1:=h.a;have h2:=h.b;have h3:=h.ne;have h4:=h.sz;refine ⟨h.eG.trans t.eG,?_,?_,?_,by omega⟩
 all_goals rcases hc with hk'|hk'|hk'|hk'|hk'
 ·obtain ⟨rfl,_⟩:=t.r hk';exact fun b hb=>⟨(h1 b hb).1,by have:=(h1 b hb).2;omega⟩
 ·obtain ⟨rfl,hlt,_⟩:=t.n8 hk';intro b hb;injection hb with hb;subst hb;exact ⟨h4,hlt⟩
 ·obtain ⟨rfl,_⟩:=t.n9 hk';exact fun b hb=>⟨(h1 b hb).1,by have:=(h1 b hb).2;omega⟩
 ·obtain ⟨rfl,_⟩:=t.s8 hk';exact fun b hb=>⟨(h1 b hb).1,by have:=(h1 b hb).2;omega⟩
 ·obtain ⟨rfl,_⟩:=t.s9 hk';exact fun b hb=>⟨(h1 b hb).1,by have:=(h1 b hb).2;omega⟩
 ·obtain ⟨rfl,_⟩:=t.r hk';exact fun b hb=>⟨(h2 b hb).1,by have:=(h2 b hb).2;omega⟩
 ·obtain ⟨rfl,_⟩:=t.n8 hk';exact fun b hb=>⟨(h2 b hb).1,by have:=(h2 b hb).2;omega⟩
 ·obtain ⟨rfl,hlt,_⟩:=t.n9 hk';intro b hb;injection hb with hb;subst hb;exact ⟨h4,hlt⟩
 ·obtain ⟨rfl,_⟩:=t.s8 hk';exact fun b hb=>⟨(h2 b hb).1,by have:=(h2 b hb).2;omega⟩
 ·obtain ⟨rfl,_⟩:=t.s9 hk';exact fun b hb=>⟨(h2 b hb).1,by have:=(h2 b hb).2;omega⟩
 ·obtain ⟨rfl,_⟩:=t.r hk';exact h3
 ·obtain ⟨rfl,_⟩:=t.n8 hk';intro b b' hb hb';injection hb with hb;have:=(h2 b' hb').2;omega
 ·obtain ⟨rfl,_⟩:=t.n9 hk';intro b b' hb hb';injection hb' with hb';have:=(h1 b hb).2;omega
 ·obtain ⟨rfl,_⟩:=t.s8 hk';exact h3
 ·obtain ⟨rfl,_⟩:=t.s9 hk';exact h3
theorem dN.Jt {v:Value} (hk:k<12) (hne:i≠k) (h10:i=10->k≠8) (h11:i=11->k≠9) (h:yX B wr z u) (g:dN TY zc CA CB L z i v u) (t:dY B TY CA CB k z z' u u'):dN TY zc CA CB L z' i v u':=by
 obtain ⟨g0,g8,g9,g10,g11⟩:=g;have hc:k<8\/k=8\/k=9\/k=10\/k=11:=by omega
 refine ⟨g0,fun hi=>?_,fun hi=>?_,fun hi=>?_,fun hi=>?_⟩
 ·obtain ⟨b,e1,e2,e3⟩:=g8 hi;have hb:=(h.a b e1).2;rcases hc with hk'|hk'|hk'|hk'|hk'
  ·obtain ⟨rfl,hs⟩:=t.r hk';exact ⟨b,e1,e2,by rw [hs b];exact e3⟩
  ·exact absurd (hi.trans hk'.symm) hne
  ·obtain ⟨rfl,_,hs⟩:=t.n9 hk';exact ⟨b,e1,e2,by rw [hs b hb];exact e3⟩
  ·obtain ⟨rfl,hs,_⟩:=t.s8 hk';exact ⟨b,e1,e2,.inr (hs b e1)⟩
  ·obtain ⟨rfl,_,hs⟩:=t.s9 hk';exact ⟨b,e1,e2,by rw [hs b (fun e=>h.ne b b e1 e rfl)];exact e3⟩
 ·obtain ⟨b,e1,e2,e3⟩:=g9 hi;have hb:=(h.b b e1).2;rcases hc with hk'|hk'|hk'|hk'|hk'
  ·obtain ⟨rfl,hs⟩:=t.r hk';exact ⟨b,e1,e2,by rw [hs b];exact e3⟩
  ·obtain ⟨rfl,_,hs⟩:=t.n8 hk';exact ⟨b,e1,e2,by rw [hs b hb];exact e3⟩
  ·exact absurd (hi.trans hk'.symm) hne
  ·obtain ⟨rfl,_,hs⟩:=t.s8 hk';exact ⟨b,e1,e2,by rw [hs b (fun e=>h.ne b b e e1 rfl)];exact e3⟩
  ·obtain ⟨rfl,hs,_⟩:=t.s9 hk';exact ⟨b,e1,e2,.inr (hs b e1)⟩
 ·obtain ⟨b,e1,e3⟩:=g10 hi;have hb:=(h.a b e1).2;rcases hc with hk'|hk'|hk'|hk'|hk'
  ·obtain ⟨rfl,hs⟩:=t.r hk';exact ⟨b,e1,by rw [hs b];exact e3⟩
  ·exact absurd hk' (h10 hi)
  ·obtain ⟨rfl,_,hs⟩:=t.n9 hk';exact ⟨b,e1,by rw [hs b hb];exact e3⟩
  ·exact absurd (hi.trans hk'.symm) hne
  ·obtain ⟨rfl,_,hs⟩:=t.s9 hk';exact ⟨b,e1,by rw [hs b (fun e=>h.ne b b e1 e rfl)];exact e3⟩
 ·obtain ⟨b,e1,e3⟩:=g11 hi;have hb:=(h.b b e1).2;rcases hc with hk'|hk'|hk'|hk'|hk'
  ·obtain ⟨rfl,hs⟩:=t.r hk';exact ⟨b,e1,by rw [hs b];exact e3⟩
  ·obtain ⟨rfl,_,hs⟩:=t.n8 hk';exact ⟨b,e1,by rw [hs b hb];exact e3⟩
  ·exact absurd hk' (h11 hi)
  ·obtain ⟨rfl,_,hs⟩:=t.s8 hk';exact ⟨b,e1,by rw [hs b (fun e=>h.ne b b e e1 rfl)];exact e3⟩
  ·exact absurd (hi.trans hk'.symm) hne
theorem dN.rd {v:Value} (hi:i<8) (hv:v=L.getD i undef):dN TY zc CA CB L z i v u:=⟨fun _=>hv,fun h=>absurd h (by omega),fun h=>absurd h (by omega),fun h=>absurd h (by omega),fun h=>absurd h (by omega)⟩
theorem dY.rd (hk:k<8):dY B TY CA CB k z z u u:=⟨Below.refl _ _,fun _=>⟨rfl,fun _=>rfl⟩,fun h=>absurd h (by omega),fun h=>absurd h (by omega),fun h=>absurd h (by omega),fun h=>absurd h (by omega)⟩
theorem dY.yY (hB:B<=u.heap.size) (o:Obj):dY B TY CA CB 8 z (some u.heap.size,z.2) u (u.alloc o):=⟨(Below.refl _ _).alloc hB _,fun h=>absurd h (by omega),fun _=>⟨rfl,by simp,fun b hb=>((Below.refl _ u).alloc (Nat.le_refl _) o).block b hb⟩,fun h=>absurd h (by omega),fun h=>absurd h (by omega),fun h=>absurd h (by omega)⟩
theorem dY.yZ (hB:B<=u.heap.size) (o:Obj):dY B TY CA CB 9 z (z.1,some u.heap.size) u (u.alloc o):=⟨(Below.refl _ _).alloc hB _,fun h=>absurd h (by omega),fun h=>absurd h (by omega),fun _=>⟨rfl,by simp,fun b hb=>((Below.refl _ u).alloc (Nat.le_refl _) o).block b hb⟩,fun h=>absurd h (by omega),fun h=>absurd h (by omega)⟩
theorem dN.yY (Dc:Array Value) (hz:Dc=zc):dN TY zc CA CB L (some u.heap.size,z.2) 8 (.pointer (some ⟨u.heap.size,0,none⟩)) (u.alloc (.cells Dc TY)):=⟨fun h=>absurd h (by omega),fun _=>⟨_,rfl,rfl,.inl (by subst hz;exact heap_alloc_new _ _)⟩,fun h=>absurd h (by omega),fun h=>absurd h (by omega),fun h=>absurd h (by omega)⟩
theorem dN.yZ (Dc:Array Value) (hz:Dc=zc):dN TY zc CA CB L (z.1,some u.heap.size) 9 (.pointer (some ⟨u.heap.size,0,none⟩)) (u.alloc (.cells Dc TY)):=⟨fun h=>absurd h (by omega),fun h=>absurd h (by omega),fun _=>⟨_,rfl,rfl,.inl (by subst hz;exact heap_alloc_new _ _)⟩,fun h=>absurd h (by omega),fun h=>absurd h (by omega)⟩
theorem A7 {b:Nat} {C:Array Value} (hB:B<=b) (hz:zc.size=C.size) (h:u.heap[b]?=some (cl zc TY)\/u.heap[b]?=some (cl C TY)):∃W,u.setCells b 0 C.toList=W/\u.there b 0 C.size/\Below B u W/\W.heap[b]?=some (cl C TY)/\∀m,m≠b->W.heap[m]?=u.heap[m]?:=by
 rcases h with h|h
 ·obtain ⟨W,h1,h2,h3,h4⟩:=CO u TY zc C h hz;exact ⟨W,h1,h2,by rw [<- h1];exact nL B b hB C.toList 0 u u (Below.refl _ u),h3,h4⟩
 ·obtain ⟨W,h1,h2,h3,h4⟩:=CO u TY C C h rfl;exact ⟨W,h1,h2,by rw [<- h1];exact nL B b hB C.toList 0 u u (Below.refl _ u),h3,h4⟩
theorem dY.y8 {b:Nat} {W:World} (hz:z.1=some b) (hb:Below B u W) (h1:W.heap[b]?=some (cl CA TY)) (h2:∀m,m≠b->W.heap[m]?=u.heap[m]?):dY B TY CA CB 10 z z u W:=⟨hb,fun h=>absurd h (by omega),fun h=>absurd h (by omega),fun h=>absurd h (by omega),fun _=>⟨rfl,fun b' hb'=>by rw [hz] at hb';injection hb' with hb';subst hb';exact h1,fun b' hb'=>h2 b' (fun e=>hb' (by rw [e];exact hz))⟩,fun h=>absurd h (by omega)⟩
theorem dY.za {b:Nat} {W:World} (hz:z.2=some b) (hb:Below B u W) (h1:W.heap[b]?=some (cl CB TY)) (h2:∀m,m≠b->W.heap[m]?=u.heap[m]?):dY B TY CA CB 11 z z u W:=⟨hb,fun h=>absurd h (by omega),fun h=>absurd h (by omega),fun h=>absurd h (by omega),fun h=>absurd h (by omega),fun _=>⟨rfl,fun b' hb'=>by rw [hz] at hb';injection hb' with hb';subst hb';exact h1,fun b' hb'=>h2 b' (fun e=>hb' (by rw [e];exact hz))⟩⟩
theorem dN.y8 {b:Nat} {v:Value} (hz:z.1=some b) (h1:u.heap[b]?=some (cl CA TY)):dN TY zc CA CB L z 10 v u:=⟨fun h=>absurd h (by omega),fun h=>absurd h (by omega),fun h=>absurd h (by omega),fun _=>⟨b,hz,h1⟩,fun h=>absurd h (by omega)⟩
theorem dN.za {b:Nat} {v:Value} (hz:z.2=some b) (h1:u.heap[b]?=some (cl CB TY)):dN TY zc CA CB L z 11 v u:=⟨fun h=>absurd h (by omega),fun h=>absurd h (by omega),fun h=>absurd h (by omega),fun h=>absurd h (by omega),fun _=>⟨b,hz,h1⟩⟩
theorem dN.st {v v':Value} (hi:i=10\/i=11) (g:dN TY zc CA CB L z i v u):dN TY zc CA CB L z i v' u:=⟨fun h=>absurd h (by omega),fun h=>absurd h (by omega),fun h=>absurd h (by omega),g.2.2.2.1,g.2.2.2.2⟩
end
theorem qX (lo i k:Nat) (hlo:10<=lo) (hk:k≠8/\k≠9/\(k<lo\/lo+12<=k)) (hi:i<12):(if i<8 then lo+i else if i=8 then 8 else if i=9 then 9 else lo+i)≠k:=by
 repeat' split
 all_goals omega
end Pz
end Go.Proofs.YtkdbgopgjbfhbaaGreatDoor

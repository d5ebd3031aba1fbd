/- Texts that the claim needs. -/
import Derived.Test.YtmfcojpjpgldhaaGreatDoorQEBy36
namespace Go.Proofs.YtmfcojpjpgldhaaGreatDoor
open Go.RowKit aA Go.Proofs.Tryz
set_option linter.unusedVariables false
set_option maxHeartbeats 8000000
structure vF (I:World->Prop):Prop extends dB I where
 name:∀(s:ByteArray) (w:World),I w->s.size<=9223372036854775807->Calls prog 104 #[.string s] w λe w'=>e=.returned (.bool (nm s))/\Below w.heap.size w w'
namespace aA
def Strs (w:World) (v:Value) (l:List ByteArray):Prop:=Row 1 (λb o (z:ByteArray)=>w.cell? ⟨b,o,none⟩=.some (.string z)) v l
theorem Strs.on {w w':World} (hb:Below w.heap.size w w') {v:Value} {l:List ByteArray} (h:Strs w v l):Strs w' v l:=Row.imp h λ_ _ _ _ h=>aj hb h
theorem Gn (w:World) (t:TypeId) (b cap:Nat) (zs:List ByteArray) (hb:b=w.heap.size) (hl:zs.length<=9223372036854775807):Strs (w.alloc (.cells (zs.map λz=>Value.string z).toArray t)) (.slice (some ⟨b,0,none⟩) zs.length cap) zs:=by
 refine ⟨hl,.inr ⟨b,0,cap,rfl,λi x hi=>?_⟩⟩;show (w.alloc (.cells (zs.map λz=>Value.string z).toArray t)).cell? ⟨b,0+i*1,none⟩=_;rw [World.cell?_alloc_at _ t _ _ hb];simp [hi]
theorem Row.AO {w w':World} (hb:Below w.heap.size w w') {v:Value} {l:List gN} (h:Row 3 (gD w) v l):Row 3 (gD w') v l:=h.imp λ_ _ _ _=>gD.on hb
theorem UN {a b:ByteArray} (h:a.size<=9223372036854775807/\b.size<=9223372036854775807):∀s ∈ [a,b],s.size<=9223372036854775807:=by
 intro s hs;simp at hs;rcases hs with rfl|rfl;exact h.1;exact h.2
theorem KG {a:ByteArray} (h:a.size<=9223372036854775807):∀s ∈ [a],s.size<=9223372036854775807:=by
 intro s hs;simp at hs;subst hs;exact h
theorem yx {u v:World} (h:v=u):Below u.heap.size u v:=by rw [h];exact Below.refl _ _
theorem pG {u v:World} {o:Obj} (h:v=u.alloc o):Below u.heap.size u v:=by rw [h];exact (Below.refl _ u).alloc (aI _) o
structure zF {d:Nat} (m:Mod d):Prop where
 imports:∀x ∈ m.imports,x.mod.size<=9223372036854775807/\x.name.size<=9223372036854775807
 exports:∀x ∈ m.exports,x.name.size<=9223372036854775807
end aA
theorem Gp {I:World->Prop} (C:vF I) (v:Value) (l:List ByteArray) (w:World) (hI:I w) (hAt:Strs w v l) (hsz:∀s ∈ l,s.size<=9223372036854775807) :
  Calls prog 69 #[v] w λe w'=>iN (l.all nm) 30 e/\Below w.heap.size w w':=by
 have hlen:=hAt.1;obtain ⟨o,cap,hv⟩:=Row.len hAt;have HA:=ag hAt;subst hv;obtain ⟨R,hR⟩:∃R,R=l.all nm:=⟨_,rfl⟩;rw [<- hR];have HR:Hid (R=(l.drop 0).all nm):=hR;have sM:=ag hsz;have ou:=ag hI;clear hAt hR hsz hI;generalize hn:l.length=n at *;go_enter func69,ntmps69;go_wp2_with fail;go_loopw [6] (λi wr=>∃j:Nat,j<=n/\i=.int .i64 j/\Hid (R=(l.drop j).all nm)/\Hid (Below w.heap.size w wr)) (λi _=>n-(intOf i).toNat)
 case atStart=>exact ⟨0,by omega,rfl,HR,Below.refl _ _⟩
 case round =>
  obtain ⟨j,hj,rfl,HK,cK⟩:=hrel;by_cases hgo:j<n
  ·obtain ⟨b,off,cap2,hv2,hx⟩:=Row.some (HA.out.on cK.out) (by omega);injection hv2 with ho h2 h3;subst ho;obtain ⟨x,hxk⟩:∃x,l[j]?=some x:=⟨_,aY (by omega)⟩;have hc:=hx j x hxk;rw [Nat.mul_one] at hc;have HN:=ag (HK.out.trans (gK hxk rfl));have rL:=ag (sM.out x (dK hxk));clear hx hxk HK h2 h3;go_wp2_with fail;refine (C.name x _ (C.keep cK.out ou.out) rL.out).mono ?_;rintro e u ⟨rfl,hb⟩;have HB2:=ag (db cK.out hb);clear hb hc cK;generalize nm x=r at *;go_wp2_with fail;refine (gJ r _ _).mono ?_;rintro e u2 ⟨hN,rfl⟩;rcases hN with ⟨rfl,rfl⟩|⟨rfl,rfl⟩
   ·have lQ:Hid (R=(l.drop (j+1)).all nm):=ag (by rw [HN.out,fN]);clear HN;go_wp2;go_roundw
    case rel=>exact ⟨j+1,by omega,by go_num,lQ,HB2⟩
    case measure=>simp [intOf];omega
   have HF:R=false:=by rw [HN.out,Bool.false_and]
   go_wp2;exact ⟨rfl,.inr ⟨HF,rfl⟩,HB2.out⟩
  have HE:R=true:=oQ (by omega) HK.out;have kH:=ag HE;clear HE HK;go_wp2;go_end0;exact ⟨.inl ⟨kH.out,rfl⟩,cK.out⟩
theorem Sl {I:World->Prop} (C:vF I) (d:Nat) (v0 v1 v2 v3 v4 v5 v6 v7 v8 v9:Value) (m:Mod d) (w:World) (hI:I w) (hM:da w d v0 v1 v2 v3 v4 v5 v6 v7 v8 v9 m) (hX:zF m)
  (KH:∀(u:World) (b:Nat),Below w.heap.size w u->u.cell? ⟨b,0,none⟩=some v3->u.cell? ⟨b,1,none⟩=some v4 ->
   Calls prog 71 #[.slice (some ⟨b,0,none⟩) 2 2] u λe u'=>(∃o c,e=.returned (.slice o (m.tables++m.aD).length c)/\Row 3 (gD u') (.slice o (m.tables++m.aD).length c) (m.tables++m.aD))/\Below u.heap.size u u') :
  Calls prog 31 #[.agg #[v0,v1,v2,v3,v4,v5,v6,v7,v8,v9]] w λe w'=>iN (uJ m) 30 e/\Below w.heap.size w w':=by
 have l0:=hM.types.1;have l1:=hM.imports.1;have l2:=hM.funcs.1;have l5:=hM.globals.1;have l6:=hM.exports.1;have l8:=hM.elems.1;have l9:=hM.ax.1;have HM:=ag hM;have KI:=ag hX;have ou:=ag hI;have KJ:=ag KH;obtain ⟨o0,c0,rfl⟩:=Row.len hM.types;obtain ⟨o1,c1,rfl⟩:=Row.len hM.imports;obtain ⟨o2,c2,rfl⟩:=Row.len hM.funcs;obtain ⟨o3,c3,rfl⟩:=Row.len hM.tables;obtain ⟨o4,c4,rfl⟩:=Row.len hM.aD;obtain ⟨o5,c5,rfl⟩:=Row.len hM.globals;obtain ⟨o6,c6,rfl⟩:=Row.len hM.exports;obtain ⟨o7,c7,rfl⟩:=Row.len hM.start;obtain ⟨o8,c8,rfl⟩:=Row.len hM.elems;obtain ⟨o9,c9,rfl⟩:=Row.len hM.ax;have yz:=ag (dN.start w 32 (.slice o0 m.types.length c0) (.slice o1 m.imports.length c1) (.slice o2 m.funcs.length c2) (.slice o3 m.tables.length c3) (.slice o4 m.aD.length c4) (.slice o5 m.globals.length c5) (.slice o6 m.exports.length c6) (.slice o7 m.start.length c7) (.slice o8 m.elems.length c8) (.slice o9 m.ax.length c9));obtain ⟨R,hR⟩:∃R,R=uJ m:=⟨_,rfl⟩;rw [<- hR];unfold uJ at hR;have HR:=ag hR;clear hM hR hX hI KH;generalize hn0:m.types.length=n0 at *;generalize iK:m.imports.length=n1 at *;generalize gW:m.funcs.length=n2 at *;generalize ja:m.tables.length=n3 at *;generalize iG:m.aD.length=n4 at *;generalize iS:m.globals.length=n5 at *;generalize jD:m.exports.length=n6 at *;generalize iE:m.start.length=n7 at *;generalize iO:m.elems.length=n8 at *;generalize jb:m.ax.length=n9 at *;go_enter func31,ntmps31;go_upto_region 1 with fail;obtain ⟨wb,hwb⟩:∃wb,wb=w.alloc (.cells #[.slice o0 n0 c0,.slice o1 n1 c1,.slice o2 n2 c2,.slice o3 n3 c3,.slice o4 n4 c4,.slice o5 n5 c5,.slice o6 n6 c6,.slice o7 n7 c7,.slice o8 n8 c8,.slice o9 n9 c9] 32):=⟨_,rfl⟩;rw [<- hwb];have HB1:Hid (dN w (.slice o0 n0 c0) (.slice o1 n1 c1) (.slice o2 n2 c2) (.slice o3 n3 c3) (.slice o4 n4 c4) (.slice o5 n5 c5) (.slice o6 n6 c6) (.slice o7 n7 c7) (.slice o8 n8 c8) (.slice o9 n9 c9) wb):=by rw [hwb];exact yz
 clear hwb yz;obtain ⟨q0,q1,q2,q3,q4,q5,q6,q7,q8,q9,qb⟩:=HB1.out;clear qb;go_wp2_with fail;go_loopw [21] (λi wr=>∃j:Nat,j<=n0/\i=.int .i64 j/\Hid (R=((m.types.drop j).all AP&&(m.imports.all vJ&&(m.funcs.all rM&&((m.tables++m.aD).all cB&&(m.globals.all nP&&(m.exports.all mg&&(m.start.all idx&&(m.elems.all (λe=>dX e.offset&&e.funcs.all idx)&&m.ax.all λx=>dX x.offset)))))))))/\Hid (dN w (.slice o0 n0 c0) (.slice o1 n1 c1) (.slice o2 n2 c2) (.slice o3 n3 c3) (.slice o4 n4 c4) (.slice o5 n5 c5) (.slice o6 n6 c6) (.slice o7 n7 c7) (.slice o8 n8 c8) (.slice o9 n9 c9) wr)) (λi _=>n0-(intOf i).toNat)
 case atStart=>exact ⟨0,by omega,rfl,HR,HB1⟩
 case round =>
  obtain ⟨j,hj,rfl,HK,Cv⟩:=hrel;clear HR HB1;clear q0 q1 q2 q3 q4 q5 q6 q7 q8 q9;by_cases hgo:j<n0
  ·have hmr:=HM.out.on Cv.out.aL;obtain ⟨b,off,mf,hv2,hx⟩:=Row.some hmr.types (by omega);injection hv2 with ho h2 h3;subst ho;obtain ⟨x,hxk⟩:∃x,m.types[j]?=some x:=⟨_,aY (by omega)⟩;have hx':=hx j x hxk;have HN:=ag hxk;obtain ⟨pv,k0,a0⟩:=hx'.params;obtain ⟨rv,k1,a1⟩:=hx'.results;obtain ⟨po,pc,rfl⟩:=Row.len a0;obtain ⟨ro,rc,rfl⟩:=Row.len a1;have A0:=ag a0;have A1:=ag a1;have HP:Hid (AP x=(x.params.all typ&&x.results.all typ)):=rfl;clear a0 a1;clear hmr hx h2 h3 hxk hx';go_upto_region 4 with fail;obtain ⟨wa,aG⟩:∃wa,wa=wr.alloc (Obj.cells #[.slice po x.params.length pc,.slice ro x.results.length rc] 47):=⟨_,rfl⟩;rw [<- aG];have z0:wa.cell? ⟨wr.heap.size,0,none⟩=some (.slice po x.params.length pc):=by rw [aG];exact bQ _ _ _ _ _ rfl
   have z1:wa.cell? ⟨wr.heap.size,1,none⟩=some (.slice ro x.results.length rc):=by rw [aG];exact bQ _ _ _ _ _ rfl
   have eP:Below wr.heap.size wr wa:=pG aG;have lS:=ag (Cv.out.on eP);have mH:=ag eP;clear aG eP k0 k1;go_wp2_with fail;refine (Cw _ x.params _ (A0.out.on mH.out)).mono ?_;rintro e x0 ⟨hN,hu⟩;have hbb:Below wa.heap.size wa x0:=yx hu;have jH:=ag (lS.out.on hbb);have mI:=ag (db mH.out hbb);have y0:=aj hbb z0;have y1:=aj hbb z1;clear hu z0 z1;have z0:=y0;have z1:=y1;clear hbb y0 y1;rcases hN with ⟨h,rfl⟩|⟨h,rfl⟩
   rotate_left
   ·have HF:R=false:=by rw [HK.out,gK HN.out rfl,HP.out,h];first|done|simp
    go_wp2;exact ⟨rfl,.inr ⟨HF,rfl⟩,jH.out.aL⟩
   have iB:=ag h;clear h;go_wp2_with fail;refine (Cw _ x.results _ (A1.out.on mI.out)).mono ?_;rintro e x1 ⟨hN,hu⟩;have hbb:Below x0.heap.size x0 x1:=yx hu;have lH:=ag (jH.out.on hbb);have xu:=ag (db mI.out hbb);have y0:=aj hbb z0;have y1:=aj hbb z1;clear hu z0 z1;have z0:=y0;have z1:=y1;clear hbb y0 y1;rcases hN with ⟨h,rfl⟩|⟨h,rfl⟩
   rotate_left
   ·have HF:R=false:=by rw [HK.out,gK HN.out rfl,HP.out,iB.out,h];first|done|simp
    go_wp2;exact ⟨rfl,.inr ⟨HF,rfl⟩,lH.out.aL⟩
   have lT:=ag h;clear h;have HF:Hid (R=((m.types.drop (j+1)).all AP&&(m.imports.all vJ&&(m.funcs.all rM&&((m.tables++m.aD).all cB&&(m.globals.all nP&&(m.exports.all mg&&(m.start.all idx&&(m.elems.all (λe=>dX e.offset&&e.funcs.all idx)&&m.ax.all λx=>dX x.offset))))))))):=ag (by rw [HK.out,gK HN.out rfl,HP.out,iB.out,lT.out];first|done|simp)
   clear HK HN HP iB lT;go_wp2;go_roundw
   case rel=>exact ⟨j+1,by omega,by go_num,HF,lH⟩
   case measure=>simp [intOf];omega
  have Cx:Hid (R=(m.imports.all vJ&&(m.funcs.all rM&&((m.tables++m.aD).all cB&&(m.globals.all nP&&(m.exports.all mg&&(m.start.all idx&&(m.elems.all (λe=>dX e.offset&&e.funcs.all idx)&&m.ax.all λx=>dX x.offset)))))))):=ag (by rw [HK.out,oQ (by omega) (rfl:_=(m.types.drop j).all AP)];first|done|rfl|simp)
  clear HK;generalize wr=woa at *;obtain ⟨q0,q1,q2,q3,q4,q5,q6,q7,q8,q9,qb⟩:=Cv.out;clear qb;go_wp2_with fail;go_loopw [35] (λi wr=>∃j:Nat,j<=n1/\i=.int .i64 j/\Hid (R=((m.imports.drop j).all vJ&&(m.funcs.all rM&&((m.tables++m.aD).all cB&&(m.globals.all nP&&(m.exports.all mg&&(m.start.all idx&&(m.elems.all (λe=>dX e.offset&&e.funcs.all idx)&&m.ax.all λx=>dX x.offset))))))))/\Hid (dN w (.slice o0 n0 c0) (.slice o1 n1 c1) (.slice o2 n2 c2) (.slice o3 n3 c3) (.slice o4 n4 c4) (.slice o5 n5 c5) (.slice o6 n6 c6) (.slice o7 n7 c7) (.slice o8 n8 c8) (.slice o9 n9 c9) wr)) (λi _=>n1-(intOf i).toNat)
  case atStart=>exact ⟨0,by omega,rfl,Cx,Cv⟩
  case round =>
   obtain ⟨j,hj,rfl,HK,Cy⟩:=hrel;clear Cx Cv;clear q0 q1 q2 q3 q4 q5 q6 q7 q8 q9;by_cases hgo:j<n1
   ·have hmr:=HM.out.on Cy.out.aL;obtain ⟨b,off,mf,hv2,hx⟩:=Row.some hmr.imports (by omega);injection hv2 with ho h2 h3;subst ho;obtain ⟨x,hxk⟩:∃x,m.imports[j]?=some x:=⟨_,aY (by omega)⟩;have hx':=hx j x hxk;have HN:=ag hxk;have k0:=hx'.mod;have k1:=hx'.name;have k2:=hx'.type;have rL:=ag (KI.out.imports x (dK hxk));have HP:Hid (vJ x=([x.mod,x.name].all nm&&[x.type].all idx)):=rfl;clear hmr hx h2 h3 hxk hx';go_upto_region 10 with fail;obtain ⟨wa,aG⟩:∃wa,wa=wr.alloc (Obj.cells #[.string x.mod,.string x.name,.int .i64 x.type] 77):=⟨_,rfl⟩;rw [<- aG];have z0:wa.cell? ⟨wr.heap.size,0,none⟩=some (.string x.mod):=by rw [aG];exact bQ _ _ _ _ _ rfl
    have z1:wa.cell? ⟨wr.heap.size,1,none⟩=some (.string x.name):=by rw [aG];exact bQ _ _ _ _ _ rfl
    have z2:wa.cell? ⟨wr.heap.size,2,none⟩=some (.int .i64 x.type):=by rw [aG];exact bQ _ _ _ _ _ rfl
    have eP:Below wr.heap.size wr wa:=pG aG;have lS:=ag (Cy.out.on eP);have mH:=ag eP;clear aG eP k0 k1 k2;go_wp2_with fail;refine (Gp C _ [x.mod,x.name] _ (C.keep (Ee lS.out.aL _) ou.out) (Gn _ _ _ _ _ (by simp) (by simp)) (UN rL.out)).mono ?_;rintro e x0 ⟨hN,hu⟩;have hbb:Below wa.heap.size wa x0:=db ((Below.refl _ _).alloc (aI _) _) hu;have jH:=ag (lS.out.on hbb);have mI:=ag (db mH.out hbb);have y0:=aj hbb z0;have y1:=aj hbb z1;have y2:=aj hbb z2;clear hu z0 z1 z2;have z0:=y0;have z1:=y1;have z2:=y2;clear hbb y0 y1 y2;rcases hN with ⟨h,rfl⟩|⟨h,rfl⟩
    rotate_left
    ·have HF:R=false:=by rw [HK.out,gK HN.out rfl,HP.out,h];first|done|simp
     go_wp2;exact ⟨rfl,.inr ⟨HF,rfl⟩,jH.out.aL⟩
    have iB:=ag h;clear h;go_wp2_with fail;refine (sK _ [x.type] _ (oP _ _ _ _ _ (by simp) (by simp))).mono ?_;rintro e x1 ⟨hN,hu⟩;have hbb:Below x0.heap.size x0 x1:=pG hu;have lH:=ag (jH.out.on hbb);have xu:=ag (db mI.out hbb);have y0:=aj hbb z0;have y1:=aj hbb z1;have y2:=aj hbb z2;clear hu z0 z1 z2;have z0:=y0;have z1:=y1;have z2:=y2;clear hbb y0 y1 y2;rcases hN with ⟨h,rfl⟩|⟨h,rfl⟩
    rotate_left
    ·have HF:R=false:=by rw [HK.out,gK HN.out rfl,HP.out,iB.out,h];first|done|simp
     go_wp2;exact ⟨rfl,.inr ⟨HF,rfl⟩,lH.out.aL⟩
    have lT:=ag h;clear h;have HF:Hid (R=((m.imports.drop (j+1)).all vJ&&(m.funcs.all rM&&((m.tables++m.aD).all cB&&(m.globals.all nP&&(m.exports.all mg&&(m.start.all idx&&(m.elems.all (λe=>dX e.offset&&e.funcs.all idx)&&m.ax.all λx=>dX x.offset)))))))):=ag (by rw [HK.out,gK HN.out rfl,HP.out,iB.out,lT.out];first|done|simp)
    clear HK HN HP iB lT;go_wp2;go_roundw
    case rel=>exact ⟨j+1,by omega,by go_num,HF,lH⟩
    case measure=>simp [intOf];omega
   have Cz:Hid (R=(m.funcs.all rM&&((m.tables++m.aD).all cB&&(m.globals.all nP&&(m.exports.all mg&&(m.start.all idx&&(m.elems.all (λe=>dX e.offset&&e.funcs.all idx)&&m.ax.all λx=>dX x.offset))))))):=ag (by rw [HK.out,oQ (by omega) (rfl:_=(m.imports.drop j).all vJ)];first|done|rfl|simp)
   clear HK;generalize wr=wob at *;obtain ⟨q0,q1,q2,q3,q4,q5,q6,q7,q8,q9,qb⟩:=Cy.out;clear qb;go_wp2_with fail;go_loopw [53] (λi wr=>∃j:Nat,j<=n2/\i=.int .i64 j/\Hid (R=((m.funcs.drop j).all rM&&((m.tables++m.aD).all cB&&(m.globals.all nP&&(m.exports.all mg&&(m.start.all idx&&(m.elems.all (λe=>dX e.offset&&e.funcs.all idx)&&m.ax.all λx=>dX x.offset)))))))/\Hid (dN w (.slice o0 n0 c0) (.slice o1 n1 c1) (.slice o2 n2 c2) (.slice o3 n3 c3) (.slice o4 n4 c4) (.slice o5 n5 c5) (.slice o6 n6 c6) (.slice o7 n7 c7) (.slice o8 n8 c8) (.slice o9 n9 c9) wr)) (λi _=>n2-(intOf i).toNat)
   case atStart=>exact ⟨0,by omega,rfl,Cz,Cy⟩
   case round =>
    obtain ⟨j,hj,rfl,HK,AQ⟩:=hrel;clear Cz Cy;clear q0 q1 q2 q3 q4 q5 q6 q7 q8 q9;by_cases hgo:j<n2
    ·have hmr:=HM.out.on AQ.out.aL;obtain ⟨b,off,mf,hv2,hx⟩:=Row.some hmr.funcs (by omega);injection hv2 with ho h2 h3;subst ho;obtain ⟨x,hxk⟩:∃x,m.funcs[j]?=some x:=⟨_,aY (by omega)⟩;have hx':=hx j x hxk;have HN:=ag hxk;have k0:=hx'.type;obtain ⟨pv,k1,a0⟩:=hx'.locals;obtain ⟨rv,k2,a1⟩:=hx'.body;obtain ⟨po,pc,rfl⟩:=Row.len a0;obtain ⟨ro,rc,rfl⟩:=At.len d rv x.body a1;have A0:=ag a0;have HP:Hid (rM x=([x.type].all idx&&x.locals.all typ)):=rfl;generalize size d x.body=nr at *;clear a0 a1;clear hmr hx h2 h3 hxk hx';go_upto_region 16 with fail;obtain ⟨wa,aG⟩:∃wa,wa=wr.alloc (Obj.cells #[.int .i64 x.type,.slice po x.locals.length pc,.slice ro nr rc] 45):=⟨_,rfl⟩;rw [<- aG];have z0:wa.cell? ⟨wr.heap.size,0,none⟩=some (.int .i64 x.type):=by rw [aG];exact bQ _ _ _ _ _ rfl
     have z1:wa.cell? ⟨wr.heap.size,1,none⟩=some (.slice po x.locals.length pc):=by rw [aG];exact bQ _ _ _ _ _ rfl
     have z2:wa.cell? ⟨wr.heap.size,2,none⟩=some (.slice ro nr rc):=by rw [aG];exact bQ _ _ _ _ _ rfl
     have eP:Below wr.heap.size wr wa:=pG aG;have lS:=ag (AQ.out.on eP);have mH:=ag eP;clear aG eP k0 k1 k2;go_wp2_with fail;refine (sK _ [x.type] _ (oP _ _ _ _ _ (by simp) (by simp))).mono ?_;rintro e x0 ⟨hN,hu⟩;have hbb:Below wa.heap.size wa x0:=pG hu;have jH:=ag (lS.out.on hbb);have mI:=ag (db mH.out hbb);have y0:=aj hbb z0;have y1:=aj hbb z1;have y2:=aj hbb z2;clear hu z0 z1 z2;have z0:=y0;have z1:=y1;have z2:=y2;clear hbb y0 y1 y2;rcases hN with ⟨h,rfl⟩|⟨h,rfl⟩
     rotate_left
     ·have HF:R=false:=by rw [HK.out,gK HN.out rfl,HP.out,h];first|done|simp
      go_wp2;exact ⟨rfl,.inr ⟨HF,rfl⟩,jH.out.aL⟩
     have iB:=ag h;clear h;go_wp2_with fail;refine (Cw _ x.locals _ (A0.out.on mI.out)).mono ?_;rintro e x1 ⟨hN,hu⟩;have hbb:Below x0.heap.size x0 x1:=yx hu;have lH:=ag (jH.out.on hbb);have xu:=ag (db mI.out hbb);have y0:=aj hbb z0;have y1:=aj hbb z1;have y2:=aj hbb z2;clear hu z0 z1 z2;have z0:=y0;have z1:=y1;have z2:=y2;clear hbb y0 y1 y2;rcases hN with ⟨h,rfl⟩|⟨h,rfl⟩
     rotate_left
     ·have HF:R=false:=by rw [HK.out,gK HN.out rfl,HP.out,iB.out,h];first|done|simp
      go_wp2;exact ⟨rfl,.inr ⟨HF,rfl⟩,lH.out.aL⟩
     have lT:=ag h;clear h;have HF:Hid (R=((m.funcs.drop (j+1)).all rM&&((m.tables++m.aD).all cB&&(m.globals.all nP&&(m.exports.all mg&&(m.start.all idx&&(m.elems.all (λe=>dX e.offset&&e.funcs.all idx)&&m.ax.all λx=>dX x.offset))))))):=ag (by rw [HK.out,gK HN.out rfl,HP.out,iB.out,lT.out];first|done|simp)
     clear HK HN HP iB lT;go_wp2;go_roundw
     case rel=>exact ⟨j+1,by omega,by go_num,HF,lH⟩
     case measure=>simp [intOf];omega
    have CB:Hid (R=((m.tables++m.aD).all cB&&(m.globals.all nP&&(m.exports.all mg&&(m.start.all idx&&(m.elems.all (λe=>dX e.offset&&e.funcs.all idx)&&m.ax.all λx=>dX x.offset)))))):=ag (by rw [HK.out,oQ (by omega) (rfl:_=(m.funcs.drop j).all rM)];first|done|rfl|simp)
    clear HK;generalize wr=woc at *;obtain ⟨q0,q1,q2,q3,q4,q5,q6,q7,q8,q9,qb⟩:=AQ.out;clear qb;go_wp2_with fail;refine (KJ.out _ _ (Ee AQ.out.aL _) (by rw [World.cell?_alloc_at _ _ _ _ rfl];rfl) (by rw [World.cell?_alloc_at _ _ _ _ rfl];rfl)).mono ?_;rintro e wc ⟨⟨oL,cL,rfl,hrow⟩,hbb⟩;have Gq:=ag ((AQ.out.new _).on hbb);have lL:=hrow.1;generalize hnL:(m.tables++m.aD).length=nL at *;have KL:=ag hrow;clear hbb hrow AQ KJ q0 q1 q2 q3 q4 q5 q6 q7 q8 q9;obtain ⟨q0,q1,q2,q3,q4,q5,q6,q7,q8,q9,qb⟩:=Gq.out;clear qb;go_wp2_with fail;go_loopw [72] (λi wr=>∃j:Nat,j<=nL/\i=.int .i64 j/\Hid (R=(((m.tables++m.aD).drop j).all cB&&(m.globals.all nP&&(m.exports.all mg&&(m.start.all idx&&(m.elems.all (λe=>dX e.offset&&e.funcs.all idx)&&m.ax.all λx=>dX x.offset))))))/\Hid (dN w (.slice o0 n0 c0) (.slice o1 n1 c1) (.slice o2 n2 c2) (.slice o3 n3 c3) (.slice o4 n4 c4) (.slice o5 n5 c5) (.slice o6 n6 c6) (.slice o7 n7 c7) (.slice o8 n8 c8) (.slice o9 n9 c9) wr)/\Hid (Row 3 (gD wr) (.slice oL nL cL) (m.tables++m.aD))) (λi _=>nL-(intOf i).toNat)
    case atStart=>exact ⟨0,by omega,rfl,CB,Gq,KL⟩
    case round =>
     obtain ⟨j,hj,rfl,HK,CC,vK⟩:=hrel;clear CB Gq KL;clear q0 q1 q2 q3 q4 q5 q6 q7 q8 q9;by_cases hgo:j<nL
     ·obtain ⟨b,off,mf,hv2,hx⟩:=Row.some vK.out (by omega);injection hv2 with ho h2 h3;subst ho;obtain ⟨x,hxk⟩:∃x,(m.tables++m.aD)[j]?=some x:=⟨_,aY (by omega)⟩;have hx':=hx j x hxk;have HN:=ag hxk;have k0:=hx'.min;have k1:=hx'.max;have k2:=hx'.has;have HP:Hid (cB x=([x.min,x.max].all idx&&(x.has || x.max==0))):=rfl;clear hx h2 h3 hxk hx';cases hh:x.has
      ·rw [hh] at k2;have HP:=ag (HP.out.trans (by rw [hh,Bool.false_or]));clear hh;go_upto_region 22 with fail;obtain ⟨wa,aG⟩:∃wa,wa=wr.alloc (Obj.cells #[.int .i64 x.min,.int .i64 x.max,.bool false] 80):=⟨_,rfl⟩;rw [<- aG];have z0:wa.cell? ⟨wr.heap.size,0,none⟩=some (.int .i64 x.min):=by rw [aG];exact bQ _ _ _ _ _ rfl
       have z1:wa.cell? ⟨wr.heap.size,1,none⟩=some (.int .i64 x.max):=by rw [aG];exact bQ _ _ _ _ _ rfl
       have z2:wa.cell? ⟨wr.heap.size,2,none⟩=some (.bool false):=by rw [aG];exact bQ _ _ _ _ _ rfl
       have eP:Below wr.heap.size wr wa:=pG aG;have lS:=ag (CC.out.on eP);have mh:=ag (Row.AO eP vK.out);have mH:=ag eP;clear aG eP k0 k1 k2;go_wp2_with fail;refine (sK _ [x.min,x.max] _ (oP _ _ _ _ _ (by simp) (by simp))).mono ?_;rintro e x0 ⟨hN,hu⟩;have hbb:Below wa.heap.size wa x0:=pG hu;have jH:=ag (lS.out.on hbb);have mI:=ag (db mH.out hbb);have Gr:=ag (Row.AO hbb mh.out);have y0:=aj hbb z0;have y1:=aj hbb z1;have y2:=aj hbb z2;clear hu z0 z1 z2;have z0:=y0;have z1:=y1;have z2:=y2;clear hbb y0 y1 y2;rcases hN with ⟨h,rfl⟩|⟨h,rfl⟩
       rotate_left
       ·have HF:R=false:=by rw [HK.out,gK HN.out rfl,HP.out,h];first|done|simp
        go_wp2;exact ⟨rfl,.inr ⟨HF,rfl⟩,jH.out.aL⟩
       have iB:=ag h;clear h;go_wp2_with fail;refine (gJ (x.max==0) 30 _).mono ?_;rintro e x1 ⟨hN,hu⟩;have hbb:Below x0.heap.size x0 x1:=yx hu;have lH:=ag (jH.out.on hbb);have xu:=ag (db mI.out hbb);have Gs:=ag (Row.AO hbb Gr.out);have y0:=aj hbb z0;have y1:=aj hbb z1;have y2:=aj hbb z2;clear hu z0 z1 z2;have z0:=y0;have z1:=y1;have z2:=y2;clear hbb y0 y1 y2;rcases hN with ⟨h,rfl⟩|⟨h,rfl⟩
       rotate_left
       ·have HF:R=false:=by rw [HK.out,gK HN.out rfl,HP.out,iB.out,h];first|done|simp
        go_wp2;exact ⟨rfl,.inr ⟨HF,rfl⟩,lH.out.aL⟩
       have lT:=ag h;clear h;have HF:Hid (R=(((m.tables++m.aD).drop (j+1)).all cB&&(m.globals.all nP&&(m.exports.all mg&&(m.start.all idx&&(m.elems.all (λe=>dX e.offset&&e.funcs.all idx)&&m.ax.all λx=>dX x.offset)))))):=ag (by rw [HK.out,gK HN.out rfl,HP.out,iB.out,lT.out];first|done|simp)
       clear HK HN HP iB lT;go_wp2;go_roundw
       case rel=>exact ⟨j+1,by omega,by go_num,HF,lH,Gs⟩
       case measure=>simp [intOf];omega
      rw [hh] at k2;have HP:=ag (HP.out.trans (by rw [hh,Bool.true_or]));clear hh;go_upto_region 22 with fail;obtain ⟨wa,aG⟩:∃wa,wa=wr.alloc (Obj.cells #[.int .i64 x.min,.int .i64 x.max,.bool true] 80):=⟨_,rfl⟩;rw [<- aG];have z0:wa.cell? ⟨wr.heap.size,0,none⟩=some (.int .i64 x.min):=by rw [aG];exact bQ _ _ _ _ _ rfl
      have z1:wa.cell? ⟨wr.heap.size,1,none⟩=some (.int .i64 x.max):=by rw [aG];exact bQ _ _ _ _ _ rfl
      have z2:wa.cell? ⟨wr.heap.size,2,none⟩=some (.bool true):=by rw [aG];exact bQ _ _ _ _ _ rfl
      have eP:Below wr.heap.size wr wa:=pG aG;have lS:=ag (CC.out.on eP);have mh:=ag (Row.AO eP vK.out);have mH:=ag eP;clear aG eP k0 k1 k2;go_wp2_with fail;refine (sK _ [x.min,x.max] _ (oP _ _ _ _ _ (by simp) (by simp))).mono ?_;rintro e x0 ⟨hN,hu⟩;have hbb:Below wa.heap.size wa x0:=pG hu;have jH:=ag (lS.out.on hbb);have mI:=ag (db mH.out hbb);have Gr:=ag (Row.AO hbb mh.out);have y0:=aj hbb z0;have y1:=aj hbb z1;have y2:=aj hbb z2;clear hu z0 z1 z2;have z0:=y0;have z1:=y1;have z2:=y2;clear hbb y0 y1 y2;rcases hN with ⟨h,rfl⟩|⟨h,rfl⟩
      rotate_left
      ·have HF:R=false:=by rw [HK.out,gK HN.out rfl,HP.out,h];first|done|simp
       go_wp2;exact ⟨rfl,.inr ⟨HF,rfl⟩,jH.out.aL⟩
      have iB:=ag h;clear h;go_wp2_with fail;refine (gJ true 30 _).mono ?_;rintro e x1 ⟨hN,hu⟩;have hbb:Below x0.heap.size x0 x1:=yx hu;have lH:=ag (jH.out.on hbb);have xu:=ag (db mI.out hbb);have Gs:=ag (Row.AO hbb Gr.out);have y0:=aj hbb z0;have y1:=aj hbb z1;have y2:=aj hbb z2;clear hu z0 z1 z2;have z0:=y0;have z1:=y1;have z2:=y2;clear hbb y0 y1 y2;rcases hN with ⟨h,rfl⟩|⟨h,rfl⟩
      rotate_left
      ·have HF:R=false:=by rw [HK.out,gK HN.out rfl,HP.out,iB.out,h];first|done|simp
       go_wp2;exact ⟨rfl,.inr ⟨HF,rfl⟩,lH.out.aL⟩
      have lT:=ag h;clear h;have HF:Hid (R=(((m.tables++m.aD).drop (j+1)).all cB&&(m.globals.all nP&&(m.exports.all mg&&(m.start.all idx&&(m.elems.all (λe=>dX e.offset&&e.funcs.all idx)&&m.ax.all λx=>dX x.offset)))))):=ag (by rw [HK.out,gK HN.out rfl,HP.out,iB.out,lT.out];first|done|simp)
      clear HK HN HP iB lT;go_wp2;go_roundw
      case rel=>exact ⟨j+1,by omega,by go_num,HF,lH,Gs⟩
      case measure=>simp [intOf];omega
     have KM:Hid (R=(m.globals.all nP&&(m.exports.all mg&&(m.start.all idx&&(m.elems.all (λe=>dX e.offset&&e.funcs.all idx)&&m.ax.all λx=>dX x.offset))))):=ag (by rw [HK.out,oQ (by omega) (rfl:_=((m.tables++m.aD).drop j).all cB)];first|done|rfl|simp)
     clear HK vK;generalize wr=woe at *;obtain ⟨q0,q1,q2,q3,q4,q5,q6,q7,q8,q9,qb⟩:=CC.out;clear qb;go_wp2_with fail;go_loopw [94] (λi wr=>∃j:Nat,j<=n5/\i=.int .i64 j/\Hid (R=((m.globals.drop j).all nP&&(m.exports.all mg&&(m.start.all idx&&(m.elems.all (λe=>dX e.offset&&e.funcs.all idx)&&m.ax.all λx=>dX x.offset)))))/\Hid (dN w (.slice o0 n0 c0) (.slice o1 n1 c1) (.slice o2 n2 c2) (.slice o3 n3 c3) (.slice o4 n4 c4) (.slice o5 n5 c5) (.slice o6 n6 c6) (.slice o7 n7 c7) (.slice o8 n8 c8) (.slice o9 n9 c9) wr)) (λi _=>n5-(intOf i).toNat)
     case atStart=>exact ⟨0,by omega,rfl,KM,CC⟩
     case round =>
      obtain ⟨j,hj,rfl,HK,CE⟩:=hrel;clear KM CC;clear q0 q1 q2 q3 q4 q5 q6 q7 q8 q9;by_cases hgo:j<n5
      ·have hmr:=HM.out.on CE.out.aL;obtain ⟨b,off,mf,hv2,hx⟩:=Row.some hmr.globals (by omega);injection hv2 with ho h2 h3;subst ho;obtain ⟨x,hxk⟩:∃x,m.globals[j]?=some x:=⟨_,aY (by omega)⟩;have hx':=hx j x hxk;have HN:=ag hxk;have k0:=hx'.type;have k1:=hx'.jL;obtain ⟨g0,g1,g2,g3,⟨lv,g4,a4⟩,⟨bv,g5,a5⟩,⟨ev,g6,a6⟩⟩:=hx'.init;obtain ⟨lo,lc,rfl⟩:=Row.len a4;obtain ⟨bo,bc,rfl⟩:=At.len d bv x.init.body a5;obtain ⟨eo,ec,rfl⟩:=At.len d ev x.init.els a6;have A4:=ag a4;have HP:Hid (nP x=([x.type].all typ&&(qf x.init.op&&okF (form x.init.op) x.init.op x.init.a x.init.b x.init.n x.init.labels (size d x.init.body) (size d x.init.els)))):=rfl;have k2:wr.cell? ⟨b,off+j*9+2,none⟩=_:=g0;have k3:wr.cell? ⟨b,off+j*9+3,none⟩=_:=g1;have k4:wr.cell? ⟨b,off+j*9+4,none⟩=_:=g2;have k5:wr.cell? ⟨b,off+j*9+5,none⟩=_:=g3;have k6:wr.cell? ⟨b,off+j*9+6,none⟩=_:=g4;have k7:wr.cell? ⟨b,off+j*9+7,none⟩=_:=g5;have k8:wr.cell? ⟨b,off+j*9+8,none⟩=_:=g6;clear g0 g1 g2 g3 g4 g5 g6;generalize size d x.init.body=nb at *;generalize size d x.init.els=ne at *;clear a4 a5 a6;clear hmr hx h2 h3 hxk hx';go_upto_region 28 with fail;obtain ⟨wa,aG⟩:∃wa,wa=wr.alloc (Obj.cells #[.int .i64 x.type,.bool x.jL,.int .i64 x.init.op,.int .i64 x.init.a,.int .i64 x.init.b,.int .i64 x.init.n,.slice lo x.init.labels.length lc,.slice bo nb bc,.slice eo ne ec] 55):=⟨_,rfl⟩;rw [<- aG];have z0:wa.cell? ⟨wr.heap.size,0,none⟩=some (.int .i64 x.type):=by rw [aG];exact bQ _ _ _ _ _ rfl
       have z1:wa.cell? ⟨wr.heap.size,1,none⟩=some (.bool x.jL):=by rw [aG];exact bQ _ _ _ _ _ rfl
       have z2:wa.cell? ⟨wr.heap.size,2,none⟩=some (.int .i64 x.init.op):=by rw [aG];exact bQ _ _ _ _ _ rfl
       have z3:wa.cell? ⟨wr.heap.size,3,none⟩=some (.int .i64 x.init.a):=by rw [aG];exact bQ _ _ _ _ _ rfl
       have z4:wa.cell? ⟨wr.heap.size,4,none⟩=some (.int .i64 x.init.b):=by rw [aG];exact bQ _ _ _ _ _ rfl
       have z5:wa.cell? ⟨wr.heap.size,5,none⟩=some (.int .i64 x.init.n):=by rw [aG];exact bQ _ _ _ _ _ rfl
       have z6:wa.cell? ⟨wr.heap.size,6,none⟩=some (.slice lo x.init.labels.length lc):=by rw [aG];exact bQ _ _ _ _ _ rfl
       have z7:wa.cell? ⟨wr.heap.size,7,none⟩=some (.slice bo nb bc):=by rw [aG];exact bQ _ _ _ _ _ rfl
       have z8:wa.cell? ⟨wr.heap.size,8,none⟩=some (.slice eo ne ec):=by rw [aG];exact bQ _ _ _ _ _ rfl
       have eP:Below wr.heap.size wr wa:=pG aG;have lS:=ag (CE.out.on eP);have mH:=ag eP;clear aG eP k0 k1 k2 k3 k4 k5 k6 k7 k8;go_wp2_with fail;refine (Cw _ [x.type] _ (oP _ _ _ _ _ (by simp) (by simp))).mono ?_;rintro e x0 ⟨hN,hu⟩;have hbb:Below wa.heap.size wa x0:=pG hu;have jH:=ag (lS.out.on hbb);have mI:=ag (db mH.out hbb);have y0:=aj hbb z0;have y1:=aj hbb z1;have y2:=aj hbb z2;have y3:=aj hbb z3;have y4:=aj hbb z4;have y5:=aj hbb z5;have y6:=aj hbb z6;have y7:=aj hbb z7;have y8:=aj hbb z8;clear hu z0 z1 z2 z3 z4 z5 z6 z7 z8;have z0:=y0;have z1:=y1;have z2:=y2;have z3:=y3;have z4:=y4;have z5:=y5;have z6:=y6;have z7:=y7;have z8:=y8;clear hbb y0 y1 y2 y3 y4 y5 y6 y7 y8;rcases hN with ⟨h,rfl⟩|⟨h,rfl⟩
       rotate_left
       ·have HF:R=false:=by rw [HK.out,gK HN.out rfl,HP.out,h];first|done|simp
        go_wp2;exact ⟨rfl,.inr ⟨HF,rfl⟩,jH.out.aL⟩
       have iB:=ag h;clear h;go_wp2_with fail;refine (Gm C.todB x.init.op x.init.a x.init.b x.init.n x.init.labels lo bo eo nb ne lc bc ec _ (C.keep jH.out.aL ou.out) (A4.out.on mI.out)).mono ?_;rintro e x1 ⟨hN,hu⟩;have hbb:Below x0.heap.size x0 x1:=hu;have lH:=ag (jH.out.on hbb);have xu:=ag (db mI.out hbb);have y0:=aj hbb z0;have y1:=aj hbb z1;have y2:=aj hbb z2;have y3:=aj hbb z3;have y4:=aj hbb z4;have y5:=aj hbb z5;have y6:=aj hbb z6;have y7:=aj hbb z7;have y8:=aj hbb z8;clear hu z0 z1 z2 z3 z4 z5 z6 z7 z8;have z0:=y0;have z1:=y1;have z2:=y2;have z3:=y3;have z4:=y4;have z5:=y5;have z6:=y6;have z7:=y7;have z8:=y8;clear hbb y0 y1 y2 y3 y4 y5 y6 y7 y8;rcases hN with ⟨h,rfl⟩|⟨h,rfl⟩
       rotate_left
       ·have HF:R=false:=by rw [HK.out,gK HN.out rfl,HP.out,iB.out,h];first|done|simp
        go_wp2;exact ⟨rfl,.inr ⟨HF,rfl⟩,lH.out.aL⟩
       have lT:=ag h;clear h;have HF:Hid (R=((m.globals.drop (j+1)).all nP&&(m.exports.all mg&&(m.start.all idx&&(m.elems.all (λe=>dX e.offset&&e.funcs.all idx)&&m.ax.all λx=>dX x.offset))))):=ag (by rw [HK.out,gK HN.out rfl,HP.out,iB.out,lT.out];first|done|simp)
       clear HK HN HP iB lT;go_wp2;go_roundw
       case rel=>exact ⟨j+1,by omega,by go_num,HF,lH⟩
       case measure=>simp [intOf];omega
      have KN:Hid (R=(m.exports.all mg&&(m.start.all idx&&(m.elems.all (λe=>dX e.offset&&e.funcs.all idx)&&m.ax.all λx=>dX x.offset)))):=ag (by rw [HK.out,oQ (by omega) (rfl:_=(m.globals.drop j).all nP)];first|done|rfl|simp)
      clear HK;generalize wr=wof at *;obtain ⟨q0,q1,q2,q3,q4,q5,q6,q7,q8,q9,qb⟩:=CE.out;clear qb;go_wp2_with fail;go_loopw [109] (λi wr=>∃j:Nat,j<=n6/\i=.int .i64 j/\Hid (R=((m.exports.drop j).all mg&&(m.start.all idx&&(m.elems.all (λe=>dX e.offset&&e.funcs.all idx)&&m.ax.all λx=>dX x.offset))))/\Hid (dN w (.slice o0 n0 c0) (.slice o1 n1 c1) (.slice o2 n2 c2) (.slice o3 n3 c3) (.slice o4 n4 c4) (.slice o5 n5 c5) (.slice o6 n6 c6) (.slice o7 n7 c7) (.slice o8 n8 c8) (.slice o9 n9 c9) wr)) (λi _=>n6-(intOf i).toNat)
      case atStart=>exact ⟨0,by omega,rfl,KN,CE⟩
      case round =>
       obtain ⟨j,hj,rfl,HK,yA⟩:=hrel;clear KN CE;clear q0 q1 q2 q3 q4 q5 q6 q7 q8 q9;by_cases hgo:j<n6
       ·have hmr:=HM.out.on yA.out.aL;obtain ⟨b,off,mf,hv2,hx⟩:=Row.some hmr.exports (by omega);injection hv2 with ho h2 h3;subst ho;obtain ⟨x,hxk⟩:∃x,m.exports[j]?=some x:=⟨_,aY (by omega)⟩;have hx':=hx j x hxk;have HN:=ag hxk;have k0:=hx'.name;have k1:=hx'.kind;have k2:=hx'.index;have rL:=ag (KI.out.exports x (dK hxk));have HP:Hid (mg x=([x.name].all nm&&((decide (0<=x.kind)&&decide (x.kind<=3))&&[x.index].all idx))):=rfl;clear hmr hx h2 h3 hxk hx';cases hh:decide (0<=x.kind)
        ·have HP:=ag (HP.out.trans (by rw [hh,Bool.false_and]));go_upto_region 34 with fail;obtain ⟨wa,aG⟩:∃wa,wa=wr.alloc (Obj.cells #[.string x.name,.int .i64 x.kind,.int .i64 x.index] 83):=⟨_,rfl⟩;rw [<- aG];have z0:wa.cell? ⟨wr.heap.size,0,none⟩=some (.string x.name):=by rw [aG];exact bQ _ _ _ _ _ rfl
         have z1:wa.cell? ⟨wr.heap.size,1,none⟩=some (.int .i64 x.kind):=by rw [aG];exact bQ _ _ _ _ _ rfl
         have z2:wa.cell? ⟨wr.heap.size,2,none⟩=some (.int .i64 x.index):=by rw [aG];exact bQ _ _ _ _ _ rfl
         have eP:Below wr.heap.size wr wa:=pG aG;have lS:=ag (yA.out.on eP);have mH:=ag eP;clear aG eP k0 k1 k2;go_wp2_with fail;refine (Gp C _ [x.name] _ (C.keep (Ee lS.out.aL _) ou.out) (Gn _ _ _ _ _ (by simp) (by simp)) (KG rL.out)).mono ?_;rintro e x0 ⟨hN,hu⟩;have hbb:Below wa.heap.size wa x0:=db ((Below.refl _ _).alloc (aI _) _) hu;have jH:=ag (lS.out.on hbb);have mI:=ag (db mH.out hbb);have y0:=aj hbb z0;have y1:=aj hbb z1;have y2:=aj hbb z2;clear hu z0 z1 z2;have z0:=y0;have z1:=y1;have z2:=y2;clear hbb y0 y1 y2;rcases hN with ⟨h,rfl⟩|⟨h,rfl⟩
         rotate_left
         ·have HF:R=false:=by rw [HK.out,gK HN.out rfl,HP.out,h];first|done|simp
          go_wp2;exact ⟨rfl,.inr ⟨HF,rfl⟩,jH.out.aL⟩
         have iB:=ag h;clear h;go_wp2_with fail;refine (gJ false 30 _).mono ?_;rintro e x1 ⟨hN,hu⟩;have hbb:Below x0.heap.size x0 x1:=yx hu;have lH:=ag (jH.out.on hbb);have xu:=ag (db mI.out hbb);have y0:=aj hbb z0;have y1:=aj hbb z1;have y2:=aj hbb z2;clear hu z0 z1 z2;have z0:=y0;have z1:=y1;have z2:=y2;clear hbb y0 y1 y2;rcases hN with ⟨h,rfl⟩|⟨h,rfl⟩
         rotate_left
         ·have HF:R=false:=by rw [HK.out,gK HN.out rfl,HP.out,iB.out,h];first|done|simp
          go_wp2;exact ⟨rfl,.inr ⟨HF,rfl⟩,lH.out.aL⟩
         cases h
        have HP:=ag (HP.out.trans (by rw [hh,fN]));go_upto_region 34 with fail;obtain ⟨wa,aG⟩:∃wa,wa=wr.alloc (Obj.cells #[.string x.name,.int .i64 x.kind,.int .i64 x.index] 83):=⟨_,rfl⟩;rw [<- aG];have z0:wa.cell? ⟨wr.heap.size,0,none⟩=some (.string x.name):=by rw [aG];exact bQ _ _ _ _ _ rfl
        have z1:wa.cell? ⟨wr.heap.size,1,none⟩=some (.int .i64 x.kind):=by rw [aG];exact bQ _ _ _ _ _ rfl
        have z2:wa.cell? ⟨wr.heap.size,2,none⟩=some (.int .i64 x.index):=by rw [aG];exact bQ _ _ _ _ _ rfl
        have eP:Below wr.heap.size wr wa:=pG aG;have lS:=ag (yA.out.on eP);have mH:=ag eP;clear aG eP k0 k1 k2;go_wp2_with fail;refine (Gp C _ [x.name] _ (C.keep (Ee lS.out.aL _) ou.out) (Gn _ _ _ _ _ (by simp) (by simp)) (KG rL.out)).mono ?_;rintro e x0 ⟨hN,hu⟩;have hbb:Below wa.heap.size wa x0:=db ((Below.refl _ _).alloc (aI _) _) hu;have jH:=ag (lS.out.on hbb);have mI:=ag (db mH.out hbb);have y0:=aj hbb z0;have y1:=aj hbb z1;have y2:=aj hbb z2;clear hu z0 z1 z2;have z0:=y0;have z1:=y1;have z2:=y2;clear hbb y0 y1 y2;rcases hN with ⟨h,rfl⟩|⟨h,rfl⟩
        rotate_left
        ·have HF:R=false:=by rw [HK.out,gK HN.out rfl,HP.out,h];first|done|simp
         go_wp2;exact ⟨rfl,.inr ⟨HF,rfl⟩,jH.out.aL⟩
        have iB:=ag h;clear h;go_wp2_with fail;refine (gJ (decide (x.kind<=3)) 30 _).mono ?_;rintro e x1 ⟨hN,hu⟩;have hbb:Below x0.heap.size x0 x1:=yx hu;have lH:=ag (jH.out.on hbb);have xu:=ag (db mI.out hbb);have y0:=aj hbb z0;have y1:=aj hbb z1;have y2:=aj hbb z2;clear hu z0 z1 z2;have z0:=y0;have z1:=y1;have z2:=y2;clear hbb y0 y1 y2;rcases hN with ⟨h,rfl⟩|⟨h,rfl⟩
        rotate_left
        ·have HF:R=false:=by rw [HK.out,gK HN.out rfl,HP.out,iB.out,h];first|done|simp
         go_wp2;exact ⟨rfl,.inr ⟨HF,rfl⟩,lH.out.aL⟩
        have lT:=ag h;clear h;go_wp2_with fail;refine (sK _ [x.index] _ (oP _ _ _ _ _ (by simp) (by simp))).mono ?_;rintro e x2 ⟨hN,hu⟩;have hbb:Below x1.heap.size x1 x2:=pG hu;have KO:=ag (lH.out.on hbb);have aaS:=ag (db xu.out hbb);have y0:=aj hbb z0;have y1:=aj hbb z1;have y2:=aj hbb z2;clear hu z0 z1 z2;have z0:=y0;have z1:=y1;have z2:=y2;clear hbb y0 y1 y2;rcases hN with ⟨h,rfl⟩|⟨h,rfl⟩
        rotate_left
        ·have HF:R=false:=by rw [HK.out,gK HN.out rfl,HP.out,iB.out,lT.out,h];first|done|simp
         go_wp2;exact ⟨rfl,.inr ⟨HF,rfl⟩,KO.out.aL⟩
        have KP:=ag h;clear h;have HF:Hid (R=((m.exports.drop (j+1)).all mg&&(m.start.all idx&&(m.elems.all (λe=>dX e.offset&&e.funcs.all idx)&&m.ax.all λx=>dX x.offset)))):=ag (by rw [HK.out,gK HN.out rfl,HP.out,iB.out,lT.out,KP.out];first|done|simp)
        clear HK HN HP iB lT KP;go_wp2;go_roundw
        case rel=>exact ⟨j+1,by omega,by go_num,HF,KO⟩
        case measure=>simp [intOf];omega
       have Gt:Hid (R=(m.start.all idx&&(m.elems.all (λe=>dX e.offset&&e.funcs.all idx)&&m.ax.all λx=>dX x.offset))):=ag (by rw [HK.out,oQ (by omega) (rfl:_=(m.exports.drop j).all mg)];first|done|rfl|simp)
       clear HK;generalize wr=wog at *;obtain ⟨q0,q1,q2,q3,q4,q5,q6,q7,q8,q9,qb⟩:=yA.out;clear qb;go_wp2_with fail;refine (sK _ m.start _ (HM.out.on yA.out.aL).start).mono ?_;rintro e u ⟨hN,rfl⟩;rcases hN with ⟨h,rfl⟩|⟨h,rfl⟩
       rotate_left
       ·have HF:R=false:=by rw [Gt.out,h,Bool.false_and]
        go_wp2;exact ⟨rfl,.inr ⟨HF,rfl⟩,yA.out.aL⟩
       have KQ:=ag (Gt.out.trans (by rw [h,fN]));clear h Gt;go_wp2_with fail;go_loopw [137] (λi wr=>∃j:Nat,j<=n8/\i=.int .i64 j/\Hid (R=((m.elems.drop j).all (λe=>dX e.offset&&e.funcs.all idx)&&m.ax.all λx=>dX x.offset))/\Hid (dN w (.slice o0 n0 c0) (.slice o1 n1 c1) (.slice o2 n2 c2) (.slice o3 n3 c3) (.slice o4 n4 c4) (.slice o5 n5 c5) (.slice o6 n6 c6) (.slice o7 n7 c7) (.slice o8 n8 c8) (.slice o9 n9 c9) wr)) (λi _=>n8-(intOf i).toNat)
       case atStart=>exact ⟨0,by omega,rfl,KQ,yA⟩
       case round =>
        obtain ⟨j,hj,rfl,HK,CF⟩:=hrel;clear KQ yA;clear q0 q1 q2 q3 q4 q5 q6 q7 q8 q9;by_cases hgo:j<n8
        ·have hmr:=HM.out.on CF.out.aL;obtain ⟨b,off,mf,hv2,hx⟩:=Row.some hmr.elems (by omega);injection hv2 with ho h2 h3;subst ho;obtain ⟨x,hxk⟩:∃x,m.elems[j]?=some x:=⟨_,aY (by omega)⟩;have hx':=hx j x hxk;have HN:=ag hxk;obtain ⟨g0,g1,g2,g3,⟨lv,g4,a4⟩,⟨bv,g5,a5⟩,⟨ev,g6,a6⟩⟩:=hx'.offset;obtain ⟨lo,lc,rfl⟩:=Row.len a4;obtain ⟨bo,bc,rfl⟩:=At.len d bv x.offset.body a5;obtain ⟨eo,ec,rfl⟩:=At.len d ev x.offset.els a6;have A4:=ag a4;obtain ⟨pv,k7,a0⟩:=hx'.funcs;obtain ⟨po,pc,rfl⟩:=Row.len a0;have A0:=ag a0;have HP:Hid ((λe:qq d=>dX e.offset&&e.funcs.all idx) x=((qf x.offset.op&&okF (form x.offset.op) x.offset.op x.offset.a x.offset.b x.offset.n x.offset.labels (size d x.offset.body) (size d x.offset.els))&&x.funcs.all idx)):=rfl;have k0:=g0;have k1:=g1;have k2:=g2;have k3:=g3;have k4:=g4;have k5:=g5;have k6:=g6;clear g0 g1 g2 g3 g4 g5 g6 a0;generalize size d x.offset.body=nb at *;generalize size d x.offset.els=ne at *;clear a4 a5 a6;clear hmr hx h2 h3 hxk hx';go_upto_region 42 with fail;obtain ⟨wa,aG⟩:∃wa,wa=wr.alloc (Obj.cells #[.int .i64 x.offset.op,.int .i64 x.offset.a,.int .i64 x.offset.b,.int .i64 x.offset.n,.slice lo x.offset.labels.length lc,.slice bo nb bc,.slice eo ne ec,.slice po x.funcs.length pc] 51):=⟨_,rfl⟩;rw [<- aG];have z0:wa.cell? ⟨wr.heap.size,0,none⟩=some (.int .i64 x.offset.op):=by rw [aG];exact bQ _ _ _ _ _ rfl
         have z1:wa.cell? ⟨wr.heap.size,1,none⟩=some (.int .i64 x.offset.a):=by rw [aG];exact bQ _ _ _ _ _ rfl
         have z2:wa.cell? ⟨wr.heap.size,2,none⟩=some (.int .i64 x.offset.b):=by rw [aG];exact bQ _ _ _ _ _ rfl
         have z3:wa.cell? ⟨wr.heap.size,3,none⟩=some (.int .i64 x.offset.n):=by rw [aG];exact bQ _ _ _ _ _ rfl
         have z4:wa.cell? ⟨wr.heap.size,4,none⟩=some (.slice lo x.offset.labels.length lc):=by rw [aG];exact bQ _ _ _ _ _ rfl
         have z5:wa.cell? ⟨wr.heap.size,5,none⟩=some (.slice bo nb bc):=by rw [aG];exact bQ _ _ _ _ _ rfl
         have z6:wa.cell? ⟨wr.heap.size,6,none⟩=some (.slice eo ne ec):=by rw [aG];exact bQ _ _ _ _ _ rfl
         have z7:wa.cell? ⟨wr.heap.size,7,none⟩=some (.slice po x.funcs.length pc):=by rw [aG];exact bQ _ _ _ _ _ rfl
         have eP:Below wr.heap.size wr wa:=pG aG;have lS:=ag (CF.out.on eP);have mH:=ag eP;clear aG eP k0 k1 k2 k3 k4 k5 k6 k7;go_wp2_with fail;refine (Gm C.todB x.offset.op x.offset.a x.offset.b x.offset.n x.offset.labels lo bo eo nb ne lc bc ec _ (C.keep lS.out.aL ou.out) (A4.out.on mH.out)).mono ?_;rintro e x0 ⟨hN,hu⟩;have hbb:Below wa.heap.size wa x0:=hu;have jH:=ag (lS.out.on hbb);have mI:=ag (db mH.out hbb);have y0:=aj hbb z0;have y1:=aj hbb z1;have y2:=aj hbb z2;have y3:=aj hbb z3;have y4:=aj hbb z4;have y5:=aj hbb z5;have y6:=aj hbb z6;have y7:=aj hbb z7;clear hu z0 z1 z2 z3 z4 z5 z6 z7;have z0:=y0;have z1:=y1;have z2:=y2;have z3:=y3;have z4:=y4;have z5:=y5;have z6:=y6;have z7:=y7;clear hbb y0 y1 y2 y3 y4 y5 y6 y7;rcases hN with ⟨h,rfl⟩|⟨h,rfl⟩
         rotate_left
         ·have HF:R=false:=by rw [HK.out,gK HN.out rfl,HP.out,h];first|done|simp
          go_wp2;exact ⟨rfl,.inr ⟨HF,rfl⟩,jH.out.aL⟩
         have iB:=ag h;clear h;go_wp2_with fail;refine (sK _ x.funcs _ (A0.out.on mI.out)).mono ?_;rintro e x1 ⟨hN,hu⟩;have hbb:Below x0.heap.size x0 x1:=yx hu;have lH:=ag (jH.out.on hbb);have xu:=ag (db mI.out hbb);have y0:=aj hbb z0;have y1:=aj hbb z1;have y2:=aj hbb z2;have y3:=aj hbb z3;have y4:=aj hbb z4;have y5:=aj hbb z5;have y6:=aj hbb z6;have y7:=aj hbb z7;clear hu z0 z1 z2 z3 z4 z5 z6 z7;have z0:=y0;have z1:=y1;have z2:=y2;have z3:=y3;have z4:=y4;have z5:=y5;have z6:=y6;have z7:=y7;clear hbb y0 y1 y2 y3 y4 y5 y6 y7;rcases hN with ⟨h,rfl⟩|⟨h,rfl⟩
         rotate_left
         ·have HF:R=false:=by rw [HK.out,gK HN.out rfl,HP.out,iB.out,h];first|done|simp
          go_wp2;exact ⟨rfl,.inr ⟨HF,rfl⟩,lH.out.aL⟩
         have lT:=ag h;clear h;have HF:Hid (R=((m.elems.drop (j+1)).all (λe=>dX e.offset&&e.funcs.all idx)&&m.ax.all λx=>dX x.offset)):=ag (by rw [HK.out,gK HN.out rfl,HP.out,iB.out,lT.out];first|done|simp)
         clear HK HN HP iB lT;go_wp2;go_roundw
         case rel=>exact ⟨j+1,by omega,by go_num,HF,lH⟩
         case measure=>simp [intOf];omega
        have KR:Hid (R=m.ax.all λx=>dX x.offset):=ag (by rw [HK.out,oQ (by omega) (rfl:_=(m.elems.drop j).all (λe=>dX e.offset&&e.funcs.all idx))];first|done|rfl|simp)
        clear HK;generalize wr=woi at *;obtain ⟨q0,q1,q2,q3,q4,q5,q6,q7,q8,q9,qb⟩:=CF.out;clear qb;go_wp2_with fail;go_loopw [151] (λi wr=>∃j:Nat,j<=n9/\i=.int .i64 j/\Hid (R=((m.ax.drop j).all (λx=>dX x.offset)))/\Hid (dN w (.slice o0 n0 c0) (.slice o1 n1 c1) (.slice o2 n2 c2) (.slice o3 n3 c3) (.slice o4 n4 c4) (.slice o5 n5 c5) (.slice o6 n6 c6) (.slice o7 n7 c7) (.slice o8 n8 c8) (.slice o9 n9 c9) wr)) (λi _=>n9-(intOf i).toNat)
        case atStart=>exact ⟨0,by omega,rfl,KR,CF⟩
        case round =>
         obtain ⟨j,hj,rfl,HK,En⟩:=hrel;clear KR CF;clear q0 q1 q2 q3 q4 q5 q6 q7 q8 q9;by_cases hgo:j<n9
         ·have hmr:=HM.out.on En.out.aL;obtain ⟨b,off,mf,hv2,hx⟩:=Row.some hmr.ax (by omega);injection hv2 with ho h2 h3;subst ho;obtain ⟨x,hxk⟩:∃x,m.ax[j]?=some x:=⟨_,aY (by omega)⟩;have hx':=hx j x hxk;have HN:=ag hxk;obtain ⟨g0,g1,g2,g3,⟨lv,g4,a4⟩,⟨bv,g5,a5⟩,⟨ev,g6,a6⟩⟩:=hx'.offset;obtain ⟨lo,lc,rfl⟩:=Row.len a4;obtain ⟨bo,bc,rfl⟩:=At.len d bv x.offset.body a5;obtain ⟨eo,ec,rfl⟩:=At.len d ev x.offset.els a6;have A4:=ag a4;have k7:=hx'.bytes;have HP:Hid ((λx:Dat d=>dX x.offset) x=(qf x.offset.op&&okF (form x.offset.op) x.offset.op x.offset.a x.offset.b x.offset.n x.offset.labels (size d x.offset.body) (size d x.offset.els))):=rfl;have k0:=g0;have k1:=g1;have k2:=g2;have k3:=g3;have k4:=g4;have k5:=g5;have k6:=g6;clear g0 g1 g2 g3 g4 g5 g6;generalize size d x.offset.body=nb at *;generalize size d x.offset.els=ne at *;clear a4 a5 a6;clear hmr hx h2 h3 hxk hx';go_upto_region 48 with fail;obtain ⟨wa,aG⟩:∃wa,wa=wr.alloc (Obj.cells #[.int .i64 x.offset.op,.int .i64 x.offset.a,.int .i64 x.offset.b,.int .i64 x.offset.n,.slice lo x.offset.labels.length lc,.slice bo nb bc,.slice eo ne ec,.string x.bytes] 53):=⟨_,rfl⟩;rw [<- aG];have z0:wa.cell? ⟨wr.heap.size,0,none⟩=some (.int .i64 x.offset.op):=by rw [aG];exact bQ _ _ _ _ _ rfl
          have z1:wa.cell? ⟨wr.heap.size,1,none⟩=some (.int .i64 x.offset.a):=by rw [aG];exact bQ _ _ _ _ _ rfl
          have z2:wa.cell? ⟨wr.heap.size,2,none⟩=some (.int .i64 x.offset.b):=by rw [aG];exact bQ _ _ _ _ _ rfl
          have z3:wa.cell? ⟨wr.heap.size,3,none⟩=some (.int .i64 x.offset.n):=by rw [aG];exact bQ _ _ _ _ _ rfl
          have z4:wa.cell? ⟨wr.heap.size,4,none⟩=some (.slice lo x.offset.labels.length lc):=by rw [aG];exact bQ _ _ _ _ _ rfl
          have z5:wa.cell? ⟨wr.heap.size,5,none⟩=some (.slice bo nb bc):=by rw [aG];exact bQ _ _ _ _ _ rfl
          have z6:wa.cell? ⟨wr.heap.size,6,none⟩=some (.slice eo ne ec):=by rw [aG];exact bQ _ _ _ _ _ rfl
          have z7:wa.cell? ⟨wr.heap.size,7,none⟩=some (.string x.bytes):=by rw [aG];exact bQ _ _ _ _ _ rfl
          have eP:Below wr.heap.size wr wa:=pG aG;have lS:=ag (En.out.on eP);have mH:=ag eP;clear aG eP k0 k1 k2 k3 k4 k5 k6 k7;go_wp2_with fail;refine (Gm C.todB x.offset.op x.offset.a x.offset.b x.offset.n x.offset.labels lo bo eo nb ne lc bc ec _ (C.keep lS.out.aL ou.out) (A4.out.on mH.out)).mono ?_;rintro e x0 ⟨hN,hu⟩;have hbb:Below wa.heap.size wa x0:=hu;have jH:=ag (lS.out.on hbb);have mI:=ag (db mH.out hbb);have y0:=aj hbb z0;have y1:=aj hbb z1;have y2:=aj hbb z2;have y3:=aj hbb z3;have y4:=aj hbb z4;have y5:=aj hbb z5;have y6:=aj hbb z6;have y7:=aj hbb z7;clear hu z0 z1 z2 z3 z4 z5 z6 z7;have z0:=y0;have z1:=y1;have z2:=y2;have z3:=y3;have z4:=y4;have z5:=y5;have z6:=y6;have z7:=y7;clear hbb y0 y1 y2 y3 y4 y5 y6 y7;rcases hN with ⟨h,rfl⟩|⟨h,rfl⟩
          rotate_left
          ·have HF:R=false:=by rw [HK.out,gK HN.out rfl,HP.out,h];first|done|simp
           go_wp2;exact ⟨rfl,.inr ⟨HF,rfl⟩,jH.out.aL⟩
          have iB:=ag h;clear h;have HF:Hid (R=((m.ax.drop (j+1)).all (λx=>dX x.offset))):=ag (by rw [HK.out,gK HN.out rfl,HP.out,iB.out];first|done|simp)
          clear HK HN HP iB;go_wp2;go_roundw
          case rel=>exact ⟨j+1,by omega,by go_num,HF,jH⟩
          case measure=>simp [intOf];omega
         have UO:Hid (R=true):=ag (by rw [HK.out,oQ (by omega) (rfl:_=(m.ax.drop j).all (λx=>dX x.offset))];first|done|rfl|simp)
         clear HK;generalize wr=wok at *;obtain ⟨q0,q1,q2,q3,q4,q5,q6,q7,q8,q9,qb⟩:=En.out;clear qb;go_wp2;go_end0;exact ⟨.inl ⟨UO.out,rfl⟩,En.out.aL⟩
end Go.Proofs.YtmfcojpjpgldhaaGreatDoor

/- Texts that the claim needs. -/
import Derived.Test.YtkdbgopgjbfhbaaGreatDoorQPW31
import Derived.Test.YtkdbgopgjbfhbaaGreatDoorQPW2
import Derived.WalkMore
namespace Go.Proofs.YtkdbgopgjbfhbaaGreatDoor
open Go.RowKit Lx
set_option linter.unusedVariables false
set_option maxRecDepth 100000
set_option maxHeartbeats 8000000
namespace Lx
structure WL (w:World):Prop where
 keys:w.rangeAt 1 0 (keys.map Value.string)
 signs:w.rangeAt 2 0 (signs.map Value.string)
theorem TH {w w':World} {b:Nat} {v:Value} {l:List Value} (h:w.rangeAt b 0 (v :: l)) (hb:Below w.heap.size w w'):w'.rangeAt b 0 (v :: l):=fun j x hx=>by
 have h0:=h 0 v rfl
 have hlt:b<w.heap.size:=by
  unfold World.cell? at h0;rcases Nat.lt_or_ge b w.heap.size with hl|hl
  ·exact hl
  ·rw [Array.getElem?_eq_none hl] at h0;cases h0
 have hj:=h j x hx;unfold World.cell? at hj ⊢;rw [hb.block b hlt];exact hj
theorem WL.on {w w':World} (h:WL w) (hb:Below w.heap.size w w'):WL w':=⟨TH h.keys hb,TH h.signs hb⟩
theorem ab7:(Tryz.prog.info? 134).map (·.size)=some 12:=by kernel_rfl
theorem Zb:(Tryz.prog.info? 135).map (·.size)=some 14:=by kernel_rfl
theorem TI (l:List Value) (k:Nat) (x:ByteArray) (h:l[k]?=some (.string x)) (hk:k<12) (w:World):(Instr.index 134 (.agg l.toArray) (.int .i64 k)).run Tryz.prog w=.ok (.string x) w:=by
 obtain ⟨i,hi,hs⟩:∃i,Tryz.prog.info? 9=some i/\i.size=1:=Option.map_eq_some_iff.1 (show (Tryz.prog.info? 9).map (·.size)=some 1 by kernel_rfl);simp [Instr.index,run_underlying Tryz.underlying134,asIntOf,sizeOf,typeInfo,hi,hs,part,isAgg,run_underlying Tryz.underlying9,h,go_sem];omega
theorem Zd (l:List Value) (k:Nat) (x:ByteArray) (h:l[k]?=some (.string x)) (hk:k<14) (w:World):(Instr.index 135 (.agg l.toArray) (.int .i64 k)).run Tryz.prog w=.ok (.string x) w:=by
 obtain ⟨i,hi,hs⟩:∃i,Tryz.prog.info? 9=some i/\i.size=1:=Option.map_eq_some_iff.1 (show (Tryz.prog.info? 9).map (·.size)=some 1 by kernel_rfl);simp [Instr.index,run_underlying Tryz.underlying135,asIntOf,sizeOf,typeInfo,hi,hs,part,isAgg,run_underlying Tryz.underlying9,h,go_sem];omega
theorem ab8 (s:ByteArray) (hi:1<s.size) (w:World) {P:Program} (t:TypeId) (h:P.underlying t=some .string):(Instr.index t (.string s) (.int .i64 1)).run P w=.ok (.int .u8 (bt s 1)) w:=by
 have e:=Rm s 1 hi w t h;simpa using e
theorem aF (E L n:Nat) (h:E=1+L) (hE:E<=n) (hn:n<4611686018427387904):wrap64 (1+(L:Int))=(E:Int)/\1+(L:Int)=(E:Int)/\L<=n/\E-1=L:=by subst h;unfold wrap64;omega
theorem aH (R y n:Nat) (h:R=y) (h1:1<=y/\y<=2) (h2:y<=n):R≠0/\(y:Int)=(R:Int)/\decide ((R:Int) > 32)=false/\wrap64 (R:Int)=(R:Int)/\R<=n/\¬ 32<R:=by
 subst h;refine ⟨by omega,rfl,decide_eq_false (by omega),?_,h2,by omega⟩;unfold wrap64;omega
theorem aI (k:Nat) (h:k<14):decide ((k:Int)<14)=true/\wrap64 ((k:Int)+1)=((k+1:Nat):Int):=by
 refine ⟨decide_eq_true (by omega),?_⟩;unfold wrap64;omega
theorem FU (s:ByteArray) (a b:Nat):(s.extract a b).size<=s.size:=by rw [ByteArray.size_extract];omega
theorem LK {L:Nat} (h:32<L):decide ((L:Int) > 32)=true:=decide_eq_true (by omega)
theorem LL {L:Nat} (h:¬ 32<L):decide ((L:Int) > 32)=false:=decide_eq_false (by omega)
theorem aG (E:Nat) (h:1<=E):∃L,E=1+L:=⟨E-1,by omega⟩
theorem JW:signs.length=14:=by simp [signs,tH,pU]
theorem Ze (t:ByteArray) (l:List ByteArray) (k:Nat) (x:ByteArray) (h:l[k]?=some x):fst t (l.drop k)=if pfx t x=true then x.size else fst t (l.drop (k+1)):=by
 obtain ⟨hk,hx⟩:=List.getElem?_eq_some_iff.1 h;rw [List.drop_eq_getElem_cons hk,fst,hx]
theorem Za (t:ByteArray) (h0:0<t.size) (hsm:sm (bt t 0)=false) (hcp:cp (bt t 0)=false) (mN:bt t 0≠39) (qb:bt t 0≠126) (mO:dg (bt t 0)=false):one t 0=if fst t signs=0 then .error 110 else .ok (6,t.extract 0 (fst t signs),0,fst t signs):=by
 unfold one;rw [if_neg (by rw [hsm,hcp];rintro (h|h)<;>cases h),if_neg mN,if_neg (by rw [mO];rintro (h|h);exact qb h;cases h),Xx]
 simp only [Nat.zero_add];by_cases h2:2<=t.size/\cK (t.extract 0 2) signs=true
 ·rw [if_pos h2,if_pos h2];rfl
 ·rw [if_neg h2,if_neg h2];by_cases h1:1<=t.size/\cK (t.extract 0 1) signs=true
  ·rw [if_pos h1,if_pos h1];rfl
  ·rw [if_neg h1,if_neg h1];rfl
theorem Zg {t x:ByteArray} (h:pfx t x=true):x.size<=t.size:=by unfold pfx at h;rw [Bool.and_eq_true,decide_eq_true_eq] at h;exact h.1
theorem Zf:∀x ∈ signs,1<=x.size/\x.size<=2:=fun x hx=>by
 unfold signs at hx;rcases List.mem_append.1 hx with h|h
 ·have:=I6 x h;omega
 ·have:=I7 x h;omega
end Lx
theorem Zl (s:ByteArray) (hi:0<s.size) (h63:s.size<4611686018427387904) (hz:s.size<=281474976710656) (w:World) (fT:WL w) (hc:bt s 0=126):Calls Tryz.prog 57 #[.string s] w fun e w'=>e=.returned (gM 0 (one s 0))/\Below w.heap.size w w':=by
 have hx:=fun (w:World)=>ky s hi w (P:=Tryz.prog) 9 Tryz.underlying9;have hc0:=wS s 0;have iR:=fun (u:World)=>ae (gZ (bt s 0) u);have iW:=fun (u:World)=>ae (wW (bt s 0) u);have kY:=fun (u:World)=>ae (zw (bt s 0) u);have hcv:IntKind.i32.wrap (bt s 0)=bt s 0:=by rw [IntKind.wrap_i32];omega
 have uV:wrap32 (bt s 0)=bt s 0:=by unfold wrap32;omega
 have wQ:=uU w;have hsm:sm (bt s 0)=false:=by rw [hc];rfl
 have hcp:cp (bt s 0)=false:=by rw [hc];rfl
 have mO:dg (bt s 0)=false:=by rw [hc];rfl
 have mN:bt s 0≠39:=by rw [hc];decide
 have qb:(bt s 0 == 126)=true:=beq_iff_eq.2 hc;have Eo:bt s 0=126\/dg (bt s 0)=true:=.inl hc;simp only [mO] at iR;have HN:=ae (TJ s hi (by omega) (wA w))
 have hone:gM 0 (one s 0)=iC (num s 0 (if bt s 0=126 then 1 else 0)):=by
  unfold one;rw [if_neg (by rw [hsm,hcp];rintro (h|h)<;>cases h),if_neg mN,if_pos Eo,show (if bt s 0=126 then 0+1 else 0)=(if bt s 0=126 then 1 else 0) from rfl]
  cases num s 0 (if bt s 0=126 then 1 else 0)<;>rfl
 rw [hone]
 have hshape:∃K T N A E z,iC (num s 0 (if bt s 0=126 then 1 else 0))=.tuple #[.agg #[.int .i64 K,.string T,.int .i64 N,.int .i64 A],.int .i64 E,.int .i64 z]:=by
  cases num s 0 (if bt s 0=126 then 1 else 0) with
  | none=>exact ⟨_,_,_,_,_,_,rfl⟩
  | some p=>exact ⟨_,_,_,_,_,_,rfl⟩
 obtain ⟨K,T,N,A,E,z,hO⟩:=hshape;rw [hO] at HN ⊢;have HO:Hid (Value.tuple #[.agg #[.int .i64 K,.string T,.int .i64 N,.int .i64 A],.int .i64 E,.int .i64 z]=.tuple #[.agg #[.int .i64 K,.string T,.int .i64 N,.int .i64 A],.int .i64 E,.int .i64 z]):=ae rfl;clear hO hone Eo mN hc hc0;generalize bt s 0=c at *;go_enter Tryz.func57,Tryz.ntmps57;go_wp2_with fail
 go_step3
 go_wp2_with fail
 go_step3
 go_wp2_with fail;refine Calls.mono (show Calls _ _ _ _ _ from (iR _).out) ?_;rintro e u ⟨rfl,rfl⟩;go_wp2_with fail;refine Calls.mono (show Calls _ _ _ _ _ from HN.out) ?_;rintro e u ⟨rfl,hb⟩;have A9:=(An.start w).on hb;clear hb;obtain ⟨W2,bu,hth,z5,z6,z7,z8,hbl⟩:=(A9).put (.int .i64 K) (.string T) (.int .i64 N) (.int .i64 A);have HW2:=ae bu;have aC:=ae hth;have cf:=ae hbl;clear bu hth hbl;clear A9;go_wp2_with (refine wpList_store_mid rfl 47 (.tmp 2) (.tmp 33) rfl w.heap.size 0 #[.int .i64 K,.string T,.int .i64 N,.int .i64 A] rfl rfl aC.out fI (by simp [Value.oneCell']) ?_;rw [HW2.out])
 first|(show Exit.noGoto (bodyPost _ _ _) _ _ _;rw [Exit.noGoto_ret])|skip
 refine bodyPost_ret (v:=.tuple #[.agg #[.int .i64 K,.string T,.int .i64 N,.int .i64 A],.int .i64 E,.int .i64 z]) (by simp [results,Tryz.results57,go_sem,z5,z6,z7,z8]) rfl ⟨rfl,cf.out⟩
theorem Zm (s:ByteArray) (hi:0<s.size) (h63:s.size<4611686018427387904) (hz:s.size<=281474976710656) (w:World) (fT:WL w) (hc:dg (bt s 0)=true):Calls Tryz.prog 57 #[.string s] w fun e w'=>e=.returned (gM 0 (one s 0))/\Below w.heap.size w w':=by
 have hx:=fun (w:World)=>ky s hi w (P:=Tryz.prog) 9 Tryz.underlying9;have hc0:=wS s 0;have iR:=fun (u:World)=>ae (gZ (bt s 0) u);have iW:=fun (u:World)=>ae (wW (bt s 0) u);have kY:=fun (u:World)=>ae (zw (bt s 0) u);have hcv:IntKind.i32.wrap (bt s 0)=bt s 0:=by rw [IntKind.wrap_i32];omega
 have uV:wrap32 (bt s 0)=bt s 0:=by unfold wrap32;omega
 have wQ:=uU w;have hd:=kv hc;have hsm:sm (bt s 0)=false:=by unfold sm;rw [decide_eq_false (by omega)];rfl
 have hcp:cp (bt s 0)=false:=by unfold cp;rw [decide_eq_false (by omega)];rfl
 have mN:bt s 0≠39:=by omega
 have Eo:bt s 0=126\/dg (bt s 0)=true:=.inr hc;simp only [hc] at iR;have HN:=ae (TJ s hi (by omega) (wA w))
 have hone:gM 0 (one s 0)=iC (num s 0 (if bt s 0=126 then 1 else 0)):=by
  unfold one;rw [if_neg (by rw [hsm,hcp];rintro (h|h)<;>cases h),if_neg mN,if_pos Eo,show (if bt s 0=126 then 0+1 else 0)=(if bt s 0=126 then 1 else 0) from rfl]
  cases num s 0 (if bt s 0=126 then 1 else 0)<;>rfl
 rw [hone]
 have hshape:∃K T N A E z,iC (num s 0 (if bt s 0=126 then 1 else 0))=.tuple #[.agg #[.int .i64 K,.string T,.int .i64 N,.int .i64 A],.int .i64 E,.int .i64 z]:=by
  cases num s 0 (if bt s 0=126 then 1 else 0) with
  | none=>exact ⟨_,_,_,_,_,_,rfl⟩
  | some p=>exact ⟨_,_,_,_,_,_,rfl⟩
 obtain ⟨K,T,N,A,E,z,hO⟩:=hshape;rw [hO] at HN ⊢;have HO:Hid (Value.tuple #[.agg #[.int .i64 K,.string T,.int .i64 N,.int .i64 A],.int .i64 E,.int .i64 z]=.tuple #[.agg #[.int .i64 K,.string T,.int .i64 N,.int .i64 A],.int .i64 E,.int .i64 z]):=ae rfl;clear hO hone Eo mN hc hc0 hd;generalize bt s 0=c at *;go_enter Tryz.func57,Tryz.ntmps57;go_wp2_with fail
 go_step3
 go_wp2_with fail
 go_step3
 go_wp2_with fail;refine Calls.mono (show Calls _ _ _ _ _ from (iR _).out) ?_;rintro e u ⟨rfl,rfl⟩;go_wp2_with fail;refine Calls.mono (show Calls _ _ _ _ _ from HN.out) ?_;rintro e u ⟨rfl,hb⟩;have A9:=(An.start w).on hb;clear hb;obtain ⟨W2,bu,hth,z5,z6,z7,z8,hbl⟩:=(A9).put (.int .i64 K) (.string T) (.int .i64 N) (.int .i64 A);have HW2:=ae bu;have aC:=ae hth;have cf:=ae hbl;clear bu hth hbl;clear A9;go_wp2_with (refine wpList_store_mid rfl 47 (.tmp 2) (.tmp 33) rfl w.heap.size 0 #[.int .i64 K,.string T,.int .i64 N,.int .i64 A] rfl rfl aC.out fI (by simp [Value.oneCell']) ?_;rw [HW2.out])
 first|(show Exit.noGoto (bodyPost _ _ _) _ _ _;rw [Exit.noGoto_ret])|skip
 refine bodyPost_ret (v:=.tuple #[.agg #[.int .i64 K,.string T,.int .i64 N,.int .i64 A],.int .i64 E,.int .i64 z]) (by simp [results,Tryz.results57,go_sem,z5,z6,z7,z8]) rfl ⟨rfl,cf.out⟩
theorem Zj (s:ByteArray) (hi:0<s.size) (h63:s.size<4611686018427387904) (hz:s.size<=281474976710656) (w:World) (fT:WL w) (hc:cp (bt s 0)=true):Calls Tryz.prog 57 #[.string s] w fun e w'=>e=.returned (gM 0 (one s 0))/\Below w.heap.size w w':=by
 have hx:=fun (w:World)=>ky s hi w (P:=Tryz.prog) 9 Tryz.underlying9;have hc0:=wS s 0;have iR:=fun (u:World)=>ae (gZ (bt s 0) u);have iW:=fun (u:World)=>ae (wW (bt s 0) u);have kY:=fun (u:World)=>ae (zw (bt s 0) u);have hcv:IntKind.i32.wrap (bt s 0)=bt s 0:=by rw [IntKind.wrap_i32];omega
 have uV:wrap32 (bt s 0)=bt s 0:=by unfold wrap32;omega
 have wQ:=uU w;have mO:dg (bt s 0)=false:=by cases h:dg (bt s 0);rfl;have h1:=kv h;unfold cp at hc;rw [Bool.and_eq_true,decide_eq_true_eq,decide_eq_true_eq] at hc;omega
 have qb:(bt s 0 == 126)=false:=beq_eq_false_iff_ne.2 (fun h=>by rw [h] at hc;cases hc);simp only [mO] at iR;have hsm:sm (bt s 0)=false:=by cases h:sm (bt s 0);rfl;rw [PD h] at hc;cases hc
 have hone:one s 0=if 32<en s pt 0-0 then .error 2 else .ok (2,s.extract 0 (en s pt 0),0,en s pt 0):=by unfold one;rw [if_pos (.inr hc),hc];rfl
 rw [Nat.sub_zero] at hone;simp only [hsm] at iW;simp only [hc] at kY;have uk:=fun (u:World)=>ae (KD s u);have he1:=jw s pt (Nat.zero_le s.size);generalize en s pt 0=E at *;by_cases h32:32<E
 ·have q1:decide ((E:Int) > 32)=true:=LK h32;rw [if_pos h32] at hone;rw [hone];have HO:Hid (gM 0 (.error 2)=.tuple #[.agg #[.int .i64 0,.string ⟨#[]⟩,.int .i64 0,.int .i64 0],.int .i64 0,.int .i64 2]):=ae rfl;generalize gM 0 (.error 2)=OUT at HO ⊢;clear hone hc hc0;generalize bt s 0=c at *;go_enter Tryz.func57,Tryz.ntmps57;go_wp2_with fail
  go_step3
  go_wp2_with fail
  go_step3
  go_wp2_with fail;refine Calls.mono (show Calls _ _ _ _ _ from (iR _).out) ?_;rintro e u ⟨rfl,rfl⟩;go_wp2_with fail;refine Calls.mono (show Calls _ _ _ _ _ from (iW _).out) ?_;rintro e u ⟨rfl,rfl⟩;go_wp2_with fail;refine Calls.mono (show Calls _ _ _ _ _ from (kY _).out) ?_;rintro e u ⟨rfl,rfl⟩;go_wp2_with fail;refine Calls.mono (show Calls _ _ _ _ _ from (uk _).out) ?_;rintro e u ⟨rfl,hb⟩;have A8:=(An.start w).on hb;clear hb;obtain ⟨W2,bu,hth,z5,z6,z7,z8,hbl⟩:=(A8).put (.int .i64 0) (.string ⟨#[]⟩) (.int .i64 0) (.int .i64 0);have HW2:=ae bu;have aC:=ae hth;have cf:=ae hbl;clear bu hth hbl;clear A8;go_wp2_with (refine wpList_store_mid rfl 47 (.tmp 2) (.tmp 79) rfl w.heap.size 0 #[.int .i64 0,.string ⟨#[]⟩,.int .i64 0,.int .i64 0] rfl rfl aC.out fI (by simp [Value.oneCell']) ?_;rw [HW2.out])
  first|(show Exit.noGoto (bodyPost _ _ _) _ _ _;rw [Exit.noGoto_ret])|skip
  refine bodyPost_ret (v:=.tuple #[.agg #[.int .i64 0,.string ⟨#[]⟩,.int .i64 0,.int .i64 0],.int .i64 0,.int .i64 2]) (by simp [results,Tryz.results57,go_sem,z5,z6,z7,z8]) rfl ⟨congrArg _ HO.out.symm,cf.out⟩
 ·have q1:decide ((E:Int) > 32)=false:=LL h32;rw [if_neg h32] at hone;rw [hone];have q8:=fun (u:World)=>ae (FR (s.extract 0 E) u (Nat.le_trans (FU s 0 E) hz));have JX:wrap64 (E:Int)=(E:Int):=by unfold wrap64;omega
  obtain ⟨x,hx1⟩:∃x,x=s.extract 0 E:=⟨_,rfl⟩;have hsl:s.extract 0 E=x:=hx1.symm;rw [<- hx1];simp only [<- hx1] at q8;have HO:Hid (gM 0 (.ok (2,x,0,E))=.tuple #[.agg #[.int .i64 2,.string x,.int .i64 0,.int .i64 0],.int .i64 (E:Nat),.int .i64 0]):=ae rfl;generalize gM 0 (.ok (2,x,0,E))=OUT at HO ⊢;clear hone hc hc0 hx1;generalize bt s 0=c at *;go_enter Tryz.func57,Tryz.ntmps57;go_wp2_with fail
  go_step3
  go_wp2_with fail
  go_step3
  go_wp2_with fail;refine Calls.mono (show Calls _ _ _ _ _ from (iR _).out) ?_;rintro e u ⟨rfl,rfl⟩;go_wp2_with fail;refine Calls.mono (show Calls _ _ _ _ _ from (iW _).out) ?_;rintro e u ⟨rfl,rfl⟩;go_wp2_with fail;refine Calls.mono (show Calls _ _ _ _ _ from (kY _).out) ?_;rintro e u ⟨rfl,rfl⟩;go_wp2_with fail;refine Calls.mono (show Calls _ _ _ _ _ from (uk _).out) ?_;rintro e u ⟨rfl,hb⟩;have A8:=(An.start w).on hb;clear hb;go_wp2_with fail;refine (q8 _).out.mono ?_;rintro e uc ⟨rfl,hbc⟩;have A9:=(A8).on hbc;clear hbc;obtain ⟨W2,bu,hth,z5,z6,z7,z8,hbl⟩:=(A9).put (.int .i64 2) (.string x) (.int .i64 0) (.int .i64 0);have HW2:=ae bu;have aC:=ae hth;have cf:=ae hbl;clear bu hth hbl;clear A9;go_wp2_with (refine wpList_store_mid rfl 47 (.tmp 2) (.tmp 88) rfl w.heap.size 0 #[.int .i64 2,.string x,.int .i64 0,.int .i64 0] rfl rfl aC.out fI (by simp [Value.oneCell']) ?_;rw [HW2.out])
  first|(show Exit.noGoto (bodyPost _ _ _) _ _ _;rw [Exit.noGoto_ret])|skip
  refine bodyPost_ret (v:=.tuple #[.agg #[.int .i64 2,.string x,.int .i64 0,.int .i64 0],.int .i64 (E:Nat),.int .i64 0]) (by simp [results,Tryz.results57,go_sem,z5,z6,z7,z8]) rfl ⟨congrArg _ HO.out.symm,cf.out⟩
theorem Zi (s:ByteArray) (hi:0<s.size) (h63:s.size<4611686018427387904) (hz:s.size<=281474976710656) (w:World) (fT:WL w) (hc:sm (bt s 0)=true):Calls Tryz.prog 57 #[.string s] w fun e w'=>e=.returned (gM 0 (one s 0))/\Below w.heap.size w w':=by
 have hx:=fun (w:World)=>ky s hi w (P:=Tryz.prog) 9 Tryz.underlying9;have hc0:=wS s 0;have iR:=fun (u:World)=>ae (gZ (bt s 0) u);have iW:=fun (u:World)=>ae (wW (bt s 0) u);have kY:=fun (u:World)=>ae (zw (bt s 0) u);have hcv:IntKind.i32.wrap (bt s 0)=bt s 0:=by rw [IntKind.wrap_i32];omega
 have uV:wrap32 (bt s 0)=bt s 0:=by unfold wrap32;omega
 have wQ:=uU w;have mO:dg (bt s 0)=false:=by cases h:dg (bt s 0);rfl;have h1:=kv h;unfold sm at hc;rw [Bool.and_eq_true,decide_eq_true_eq,decide_eq_true_eq] at hc;omega
 have qb:(bt s 0 == 126)=false:=beq_eq_false_iff_ne.2 (fun h=>by rw [h] at hc;cases hc);simp only [mO] at iR;have hcp:=PD hc;have hone:one s 0=if 32<en s pt 0-0 then .error 2 else .ok (if cK (s.extract 0 (en s pt 0)) keys=true then 5 else 1,s.extract 0 (en s pt 0),0,en s pt 0):=by unfold one;rw [if_pos (.inl hc),hcp];rfl
 rw [Nat.sub_zero] at hone;simp only [hc] at iW;have uk:=fun (u:World)=>ae (KD s u);have he1:=jw s pt (Nat.zero_le s.size);generalize en s pt 0=E at *;have q8:=fun (u:World)=>ae (FR (s.extract 0 E) u (Nat.le_trans (FU s 0 E) hz));have JX:wrap64 (E:Int)=(E:Int):=by unfold wrap64;omega
 obtain ⟨x,hx1⟩:∃x,x=s.extract 0 E:=⟨_,rfl⟩;have hsl:s.extract 0 E=x:=hx1.symm;rw [<- hx1] at hone;simp only [<- hx1] at q8;obtain ⟨R,hR⟩:∃R,R=cK x keys:=⟨_,rfl⟩;rw [<- hR] at hone;have st0:Hid (cK x (keys.drop 0)=R):=ae hR.symm;obtain ⟨KS,tV⟩:∃KS:List Value,KS=keys.map Value.string:=⟨_,rfl⟩;have FP:Hid (∀k y,keys[k]?=some y->KS[k]?=some (Value.string y)):=ae (fun k y h=>by rw [tV,List.getElem?_map,h];rfl);have wJ:KS.length=12:=by rw [tV];rfl
 have qc:Hid ((Tryz.prog.info? 134).map (·.size)=some KS.length):=ae (by rw [wJ];exact ab7);have HWK:=ae fT.keys;rw [<- tV] at HWK;have G0:Hid (∀u,Below w.heap.size w u->u.rangeAt 1 0 KS):=ae fun u hb=>by rw [tV];exact (fT.on hb).keys
 clear tV wJ fT hR hx1;by_cases h32:32<E
 ·have q1:decide ((E:Int) > 32)=true:=LK h32;rw [if_pos h32] at hone;rw [hone];have HO:Hid (gM 0 (.error 2)=.tuple #[.agg #[.int .i64 0,.string ⟨#[]⟩,.int .i64 0,.int .i64 0],.int .i64 0,.int .i64 2]):=ae rfl;generalize gM 0 (.error 2)=OUT at HO ⊢;clear hone hc hc0;generalize bt s 0=c at *;go_enter Tryz.func57,Tryz.ntmps57;go_wp2_with fail
  go_step3
  go_wp2_with fail
  go_step3
  go_wp2_with fail;refine Calls.mono (show Calls _ _ _ _ _ from (iR _).out) ?_;rintro e u ⟨rfl,rfl⟩;go_wp2_with fail;refine Calls.mono (show Calls _ _ _ _ _ from (iW _).out) ?_;rintro e u ⟨rfl,rfl⟩;go_wp2_with fail;refine Calls.mono (show Calls _ _ _ _ _ from (uk _).out) ?_;rintro e u ⟨rfl,hb⟩;have A8:=ae ((An.start w).on hb);have Dv:=ae (G0.out u A8.out.eG);clear hb G0;go_wp2_with (refine wpList_load_mid rfl 134 (.global 1) rfl 1 0 rfl KS _ Dv.out Tryz.underlying134 rfl qc.out ?_)
  go_loop [42] (fun a=>∃k:Nat,a=.int .i64 k/\k<=12/\Hid (cK x (keys.drop k)=R)) (fun a=>match a with | .int _ k=>12-k.toNat|_=>0)
  case atStart=>exact ⟨0,rfl,by omega,st0⟩
  case round =>
   obtain ⟨k,rfl,hk,hRk⟩:=hrel;clear st0;by_cases hp:k<12
   ·have q3:decide ((k:Int)<12)=true:=decide_eq_true (by omega);obtain ⟨y,hy⟩:∃y,keys[k]?=some y:=⟨_,List.getElem?_eq_getElem hp⟩;have hidx:=fun (u:World)=>TI KS k y (FP.out k y hy) hp u;have hs:=TK x keys k y hy;rw [hRk.out] at hs;have hw1:wrap64 ((k:Int)+1)=((k+1:Nat):Int):=by unfold wrap64;omega
    by_cases h:y=x
    ·rw [if_pos h] at hs;have q2:(x.toList == y.toList)=true:=uJ h.symm;have HS:=ae hs;clear hs hy h hRk;obtain ⟨W2,bu,hth,z5,z6,z7,z8,hbl⟩:=(A8.out).put (.int .i64 0) (.string ⟨#[]⟩) (.int .i64 0) (.int .i64 0);have HW2:=ae bu;have aC:=ae hth;have cf:=ae hbl;clear bu hth hbl;go_wp2_with (refine wpList_store_mid rfl 47 (.tmp 2) (.tmp 79) rfl w.heap.size 0 #[.int .i64 0,.string ⟨#[]⟩,.int .i64 0,.int .i64 0] rfl rfl aC.out fI (by simp [Value.oneCell']) ?_;rw [HW2.out])
     first|(show Exit.noGoto (bodyPost _ _ _) _ _ _;rw [Exit.noGoto_ret])|skip
     refine bodyPost_ret (v:=.tuple #[.agg #[.int .i64 0,.string ⟨#[]⟩,.int .i64 0,.int .i64 0],.int .i64 0,.int .i64 2]) (by simp [results,Tryz.results57,go_sem,z5,z6,z7,z8]) rfl ⟨congrArg _ HO.out.symm,cf.out⟩
    ·rw [if_neg h] at hs;have q2:(x.toList == y.toList)=false:=tN fun e=>h e.symm;have HS:=ae hs;clear hs hy h hRk;go_wp2
     go_round
     case rel=>exact ⟨k+1,by first|rfl|(congr 1),by omega,ae HS.out.symm⟩
     case measure=>simp;omega
   ·have q3:decide ((k:Int)<12)=false:=decide_eq_false (by omega);clear hRk;obtain ⟨W2,bu,hth,z5,z6,z7,z8,hbl⟩:=(A8.out).put (.int .i64 0) (.string ⟨#[]⟩) (.int .i64 0) (.int .i64 0);have HW2:=ae bu;have aC:=ae hth;have cf:=ae hbl;clear bu hth hbl;go_wp2_with (refine wpList_store_mid rfl 47 (.tmp 2) (.tmp 79) rfl w.heap.size 0 #[.int .i64 0,.string ⟨#[]⟩,.int .i64 0,.int .i64 0] rfl rfl aC.out fI (by simp [Value.oneCell']) ?_;rw [HW2.out])
    first|(show Exit.noGoto (bodyPost _ _ _) _ _ _;rw [Exit.noGoto_ret])|skip
    refine bodyPost_ret (v:=.tuple #[.agg #[.int .i64 0,.string ⟨#[]⟩,.int .i64 0,.int .i64 0],.int .i64 0,.int .i64 2]) (by simp [results,Tryz.results57,go_sem,z5,z6,z7,z8]) rfl ⟨congrArg _ HO.out.symm,cf.out⟩
 ·have q1:decide ((E:Int) > 32)=false:=LL h32;rw [if_neg h32] at hone;rw [hone];have vW:Hid (R=true->gM 0 (.ok (if R=true then 5 else 1,x,0,E))=.tuple #[.agg #[.int .i64 5,.string x,.int .i64 0,.int .i64 0],.int .i64 (E:Nat),.int .i64 0]):=ae fun h=>by rw [h];rfl
  have fD:Hid (R=false->gM 0 (.ok (if R=true then 5 else 1,x,0,E))=.tuple #[.agg #[.int .i64 1,.string x,.int .i64 0,.int .i64 0],.int .i64 (E:Nat),.int .i64 0]):=ae fun h=>by rw [h];rfl
  generalize gM 0 (.ok (if R=true then 5 else 1,x,0,E))=OUT at vW fD ⊢;clear hone hc hc0;generalize bt s 0=c at *;go_enter Tryz.func57,Tryz.ntmps57;go_wp2_with fail
  go_step3
  go_wp2_with fail
  go_step3
  go_wp2_with fail;refine Calls.mono (show Calls _ _ _ _ _ from (iR _).out) ?_;rintro e u ⟨rfl,rfl⟩;go_wp2_with fail;refine Calls.mono (show Calls _ _ _ _ _ from (iW _).out) ?_;rintro e u ⟨rfl,rfl⟩;go_wp2_with fail;refine Calls.mono (show Calls _ _ _ _ _ from (uk _).out) ?_;rintro e u ⟨rfl,hb⟩;have A8:=ae ((An.start w).on hb);have Dv:=ae (G0.out u A8.out.eG);clear hb G0;go_wp2_with (refine wpList_load_mid rfl 134 (.global 1) rfl 1 0 rfl KS _ Dv.out Tryz.underlying134 rfl qc.out ?_)
  go_loop [42] (fun a=>∃k:Nat,a=.int .i64 k/\k<=12/\Hid (cK x (keys.drop k)=R)) (fun a=>match a with | .int _ k=>12-k.toNat|_=>0)
  case atStart=>exact ⟨0,rfl,by omega,st0⟩
  case round =>
   obtain ⟨k,rfl,hk,hRk⟩:=hrel;clear st0;by_cases hp:k<12
   ·have q3:decide ((k:Int)<12)=true:=decide_eq_true (by omega);obtain ⟨y,hy⟩:∃y,keys[k]?=some y:=⟨_,List.getElem?_eq_getElem hp⟩;have hidx:=fun (u:World)=>TI KS k y (FP.out k y hy) hp u;have hs:=TK x keys k y hy;rw [hRk.out] at hs;have hw1:wrap64 ((k:Int)+1)=((k+1:Nat):Int):=by unfold wrap64;omega
    by_cases h:y=x
    ·rw [if_pos h] at hs;have q2:(x.toList == y.toList)=true:=uJ h.symm;have HS:=ae hs;clear hs hy h hRk;have HO:=ae (vW.out HS.out);clear vW fD HS;go_wp2_with fail;refine (q8 _).out.mono ?_;rintro e uc ⟨rfl,hbc⟩;have A9:=(A8.out).on hbc;clear hbc;obtain ⟨W2,bu,hth,z5,z6,z7,z8,hbl⟩:=(A9).put (.int .i64 5) (.string x) (.int .i64 0) (.int .i64 0);have HW2:=ae bu;have aC:=ae hth;have cf:=ae hbl;clear bu hth hbl;clear A9;go_wp2_with (refine wpList_store_mid rfl 47 (.tmp 2) (.tmp 88) rfl w.heap.size 0 #[.int .i64 5,.string x,.int .i64 0,.int .i64 0] rfl rfl aC.out fI (by simp [Value.oneCell']) ?_;rw [HW2.out])
     first|(show Exit.noGoto (bodyPost _ _ _) _ _ _;rw [Exit.noGoto_ret])|skip
     refine bodyPost_ret (v:=.tuple #[.agg #[.int .i64 5,.string x,.int .i64 0,.int .i64 0],.int .i64 (E:Nat),.int .i64 0]) (by simp [results,Tryz.results57,go_sem,z5,z6,z7,z8]) rfl ⟨congrArg _ HO.out.symm,cf.out⟩
    ·rw [if_neg h] at hs;have q2:(x.toList == y.toList)=false:=tN fun e=>h e.symm;have HS:=ae hs;clear hs hy h hRk vW fD;go_wp2
     go_round
     case rel=>exact ⟨k+1,by first|rfl|(congr 1),by omega,ae HS.out.symm⟩
     case measure=>simp;omega
   ·have q3:decide ((k:Int)<12)=false:=decide_eq_false (by omega);have hs:R=false:=by rw [<- hRk.out,List.drop_eq_nil_of_le (show keys.length<=k from (by show 12<=k;omega))];rfl
    have HO:=ae (fD.out hs);clear hRk hs vW fD;go_wp2_with fail;refine (q8 _).out.mono ?_;rintro e uc ⟨rfl,hbc⟩;have A9:=(A8.out).on hbc;clear hbc;obtain ⟨W2,bu,hth,z5,z6,z7,z8,hbl⟩:=(A9).put (.int .i64 1) (.string x) (.int .i64 0) (.int .i64 0);have HW2:=ae bu;have aC:=ae hth;have cf:=ae hbl;clear bu hth hbl;clear A9;go_wp2_with (refine wpList_store_mid rfl 47 (.tmp 2) (.tmp 88) rfl w.heap.size 0 #[.int .i64 1,.string x,.int .i64 0,.int .i64 0] rfl rfl aC.out fI (by simp [Value.oneCell']) ?_;rw [HW2.out])
    first|(show Exit.noGoto (bodyPost _ _ _) _ _ _;rw [Exit.noGoto_ret])|skip
    refine bodyPost_ret (v:=.tuple #[.agg #[.int .i64 1,.string x,.int .i64 0,.int .i64 0],.int .i64 (E:Nat),.int .i64 0]) (by simp [results,Tryz.results57,go_sem,z5,z6,z7,z8]) rfl ⟨congrArg _ HO.out.symm,cf.out⟩
theorem Zk (s:ByteArray) (hi:0<s.size) (h63:s.size<4611686018427387904) (hz:s.size<=281474976710656) (w:World) (fT:WL w) (hc:bt s 0=39):Calls Tryz.prog 57 #[.string s] w fun e w'=>e=.returned (gM 0 (one s 0))/\Below w.heap.size w w':=by
 have hx:=fun (w:World)=>ky s hi w (P:=Tryz.prog) 9 Tryz.underlying9;have hc0:=wS s 0;have iR:=fun (u:World)=>ae (gZ (bt s 0) u);have iW:=fun (u:World)=>ae (wW (bt s 0) u);have kY:=fun (u:World)=>ae (zw (bt s 0) u);have hcv:IntKind.i32.wrap (bt s 0)=bt s 0:=by rw [IntKind.wrap_i32];omega
 have uV:wrap32 (bt s 0)=bt s 0:=by unfold wrap32;omega
 have wQ:=uU w;have hsm:sm (bt s 0)=false:=by rw [hc];rfl
 have hcp:cp (bt s 0)=false:=by rw [hc];rfl
 have mO:dg (bt s 0)=false:=by rw [hc];rfl
 have qb:(bt s 0 == 126)=false:=by rw [hc];rfl
 have mN:(bt s 0 == 39)=true:=by rw [hc];rfl
 simp only [mO] at iR;simp only [hsm] at iW;simp only [hcp] at kY
 have hone:one s 0=if 0+1=s.size\/sm (bt s (0+1))=false then .error 110 else if 32<en s pt (0+1)-(0+1) then .error 2 else .ok (3,s.extract (0+1) (en s pt (0+1)),0,en s pt (0+1)):=by
  unfold one;rw [if_neg (by rw [hsm,hcp];rintro (h|h)<;>cases h),if_pos hc]
 rw [Nat.zero_add] at hone;clear hc;by_cases hend:1=s.size
 ·have qe:((s.size:Int) == 1)=true:=beq_iff_eq.2 (by omega);rw [if_pos (.inl hend)] at hone;rw [hone];have HO:Hid (gM 0 (.error 110)=.tuple #[.agg #[.int .i64 0,.string ⟨#[]⟩,.int .i64 0,.int .i64 0],.int .i64 0,.int .i64 110]):=ae rfl;generalize gM 0 (.error 110)=OUT at HO ⊢;clear hone hend hc0;obtain ⟨c,hcc⟩:∃c,bt s 0=c:=⟨_,rfl⟩;rw [hcc] at hx hcv uV iR iW kY qb mN;clear hcc hsm hcp mO;go_enter Tryz.func57,Tryz.ntmps57;go_wp2_with fail
  go_step3
  go_wp2_with fail
  go_step3
  go_wp2_with fail;refine Calls.mono (show Calls _ _ _ _ _ from (iR _).out) ?_;rintro e u ⟨rfl,rfl⟩;go_wp2_with fail;refine Calls.mono (show Calls _ _ _ _ _ from (iW _).out) ?_;rintro e u ⟨rfl,rfl⟩;go_wp2_with fail;refine Calls.mono (show Calls _ _ _ _ _ from (kY _).out) ?_;rintro e u ⟨rfl,rfl⟩;go_wp2
  first|(show Exit.noGoto (bodyPost _ _ _) _ _ _;rw [Exit.noGoto_ret])|skip
  refine bodyPost_ret (v:=.tuple #[.agg #[.int .i64 0,.string ⟨#[]⟩,.int .i64 0,.int .i64 0],.int .i64 0,.int .i64 110]) (by simp [results,Tryz.results57,go_sem]) rfl ⟨congrArg _ HO.out.symm,wP w⟩
 ·have qe:((s.size:Int) == 1)=false:=beq_eq_false_iff_ne.2 (by omega);have hjs:1<s.size:=by omega
  have hy:=fun (w:World)=>ab8 s hjs w (P:=Tryz.prog) 9 Tryz.underlying9;have hc1:=wS s 1;have LM:IntKind.i32.wrap (bt s 1)=bt s 1:=by rw [IntKind.wrap_i32];omega
  have LN:wrap32 (bt s 1)=bt s 1:=by unfold wrap32;omega
  have ba:=fun (u:World)=>ae (wW (bt s 1) u);cases hs2:sm (bt s 1) with
  | false =>
   rw [if_pos (.inr hs2)] at hone;rw [hone];simp only [hs2] at ba;have HO:Hid (gM 0 (.error 110)=.tuple #[.agg #[.int .i64 0,.string ⟨#[]⟩,.int .i64 0,.int .i64 0],.int .i64 0,.int .i64 110]):=ae rfl;generalize gM 0 (.error 110)=OUT at HO ⊢;clear hone hc0 hc1;obtain ⟨c,hcc⟩:∃c,bt s 0=c:=⟨_,rfl⟩;rw [hcc] at hx hcv uV iR iW kY qb mN;obtain ⟨c2,xV⟩:∃c,bt s 1=c:=⟨_,rfl⟩;rw [xV] at hy LM LN ba;clear hcc xV hsm hcp mO hs2;go_enter Tryz.func57,Tryz.ntmps57;go_wp2_with fail
   go_step3
   go_wp2_with fail
   go_step3
   go_wp2_with fail;refine Calls.mono (show Calls _ _ _ _ _ from (iR _).out) ?_;rintro e u ⟨rfl,rfl⟩;go_wp2_with fail;refine Calls.mono (show Calls _ _ _ _ _ from (iW _).out) ?_;rintro e u ⟨rfl,rfl⟩;go_wp2_with fail;refine Calls.mono (show Calls _ _ _ _ _ from (kY _).out) ?_;rintro e u ⟨rfl,rfl⟩;go_wp2_with fail;refine Calls.mono (show Calls _ _ _ _ _ from (ba _).out) ?_;rintro e u ⟨rfl,rfl⟩;go_wp2
   first|(show Exit.noGoto (bodyPost _ _ _) _ _ _;rw [Exit.noGoto_ret])|skip
   refine bodyPost_ret (v:=.tuple #[.agg #[.int .i64 0,.string ⟨#[]⟩,.int .i64 0,.int .i64 0],.int .i64 0,.int .i64 110]) (by simp [results,Tryz.results57,go_sem]) rfl ⟨congrArg _ HO.out.symm,wP w⟩
  | true =>
   rw [if_neg (by rintro (h|h);exact hend h;rw [hs2] at h;cases h)] at hone;simp only [hs2] at ba;have he0:=pR s pt 1;have he1:=jw s pt (Nat.le_of_lt hjs);obtain ⟨E,hE⟩:∃E,en s pt 1=E:=⟨_,rfl⟩;have hw0:en (s.extract 1 s.size) pt 0=E-1:=(E9 s pt 1 0 (Nat.le_of_lt hjs)).trans (congrArg (·-1) hE);obtain ⟨t1,ht1⟩:∃t,s.extract 1 s.size=t:=⟨_,rfl⟩;rw [ht1] at hw0;have uk:=fun (u:World)=>ae (KD t1 u);rw [hw0] at uk;rw [hE] at hone he0 he1;clear hE hw0;obtain ⟨L,hL⟩:=aG E he0;obtain ⟨JX,aeV,hL1,TL⟩:=aF E L s.size hL he1 h63;rw [TL] at hone uk;clear TL;by_cases h32:32<L
   ·have q1:decide ((L:Int) > 32)=true:=LK h32;rw [if_pos h32] at hone;rw [hone];have HO:Hid (gM 0 (.error 2)=.tuple #[.agg #[.int .i64 0,.string ⟨#[]⟩,.int .i64 0,.int .i64 0],.int .i64 0,.int .i64 2]):=ae rfl;generalize gM 0 (.error 2)=OUT at HO ⊢;clear hone hc0 hc1 hL;obtain ⟨c,hcc⟩:∃c,bt s 0=c:=⟨_,rfl⟩;rw [hcc] at hx hcv uV iR iW kY qb mN;obtain ⟨c2,xV⟩:∃c,bt s 1=c:=⟨_,rfl⟩;rw [xV] at hy LM LN ba;clear hcc xV hsm hcp mO hs2;go_enter Tryz.func57,Tryz.ntmps57;go_wp2_with fail
    go_step3
    go_wp2_with fail
    go_step3
    go_wp2_with fail;refine Calls.mono (show Calls _ _ _ _ _ from (iR _).out) ?_;rintro e u ⟨rfl,rfl⟩;go_wp2_with fail;refine Calls.mono (show Calls _ _ _ _ _ from (iW _).out) ?_;rintro e u ⟨rfl,rfl⟩;go_wp2_with fail;refine Calls.mono (show Calls _ _ _ _ _ from (kY _).out) ?_;rintro e u ⟨rfl,rfl⟩;go_wp2_with fail;refine Calls.mono (show Calls _ _ _ _ _ from (ba _).out) ?_;rintro e u ⟨rfl,rfl⟩;go_wp2_with fail;refine Calls.mono (show Calls _ _ _ _ _ from (uk _).out) ?_;rintro e u ⟨rfl,hb⟩;have A8:=(An.start w).on hb;clear hb;obtain ⟨W2,bu,hth,z5,z6,z7,z8,hbl⟩:=(A8).put (.int .i64 0) (.string ⟨#[]⟩) (.int .i64 0) (.int .i64 0);have HW2:=ae bu;have aC:=ae hth;have cf:=ae hbl;clear bu hth hbl;clear A8;go_wp2_with (refine wpList_store_mid rfl 47 (.tmp 2) (.tmp 79) rfl w.heap.size 0 #[.int .i64 0,.string ⟨#[]⟩,.int .i64 0,.int .i64 0] rfl rfl aC.out fI (by simp [Value.oneCell']) ?_;rw [HW2.out])
    first|(show Exit.noGoto (bodyPost _ _ _) _ _ _;rw [Exit.noGoto_ret])|skip
    refine bodyPost_ret (v:=.tuple #[.agg #[.int .i64 0,.string ⟨#[]⟩,.int .i64 0,.int .i64 0],.int .i64 0,.int .i64 2]) (by simp [results,Tryz.results57,go_sem,z5,z6,z7,z8]) rfl ⟨congrArg _ HO.out.symm,cf.out⟩
   ·have q1:decide ((L:Int) > 32)=false:=LL h32;rw [if_neg h32] at hone;rw [hone];have q8:=fun (u:World)=>ae (FR (s.extract 1 E) u (Nat.le_trans (FU s 1 E) hz));obtain ⟨x,hx1⟩:∃x,x=s.extract 1 E:=⟨_,rfl⟩;have hsl:s.extract 1 E=x:=hx1.symm;rw [<- hx1];simp only [<- hx1] at q8;clear hx1;have HO:Hid (gM 0 (.ok (3,x,0,E))=.tuple #[.agg #[.int .i64 3,.string x,.int .i64 0,.int .i64 0],.int .i64 (E:Nat),.int .i64 0]):=ae rfl;generalize gM 0 (.ok (3,x,0,E))=OUT at HO ⊢;clear hone hc0 hc1 hL;obtain ⟨c,hcc⟩:∃c,bt s 0=c:=⟨_,rfl⟩;rw [hcc] at hx hcv uV iR iW kY qb mN;obtain ⟨c2,xV⟩:∃c,bt s 1=c:=⟨_,rfl⟩;rw [xV] at hy LM LN ba;clear hcc xV hsm hcp mO hs2;go_enter Tryz.func57,Tryz.ntmps57;go_wp2_with fail
    go_step3
    go_wp2_with fail
    go_step3
    go_wp2_with fail;refine Calls.mono (show Calls _ _ _ _ _ from (iR _).out) ?_;rintro e u ⟨rfl,rfl⟩;go_wp2_with fail;refine Calls.mono (show Calls _ _ _ _ _ from (iW _).out) ?_;rintro e u ⟨rfl,rfl⟩;go_wp2_with fail;refine Calls.mono (show Calls _ _ _ _ _ from (kY _).out) ?_;rintro e u ⟨rfl,rfl⟩;go_wp2_with fail;refine Calls.mono (show Calls _ _ _ _ _ from (ba _).out) ?_;rintro e u ⟨rfl,rfl⟩;go_wp2_with fail;refine Calls.mono (show Calls _ _ _ _ _ from (uk _).out) ?_;rintro e u ⟨rfl,hb⟩;have A8:=(An.start w).on hb;clear hb;go_wp2_with fail;refine (q8 _).out.mono ?_;rintro e uc ⟨rfl,hbc⟩;have A9:=(A8).on hbc;clear hbc;obtain ⟨W2,bu,hth,z5,z6,z7,z8,hbl⟩:=(A9).put (.int .i64 3) (.string x) (.int .i64 0) (.int .i64 0);have HW2:=ae bu;have aC:=ae hth;have cf:=ae hbl;clear bu hth hbl;clear A9;go_wp2_with (refine wpList_store_mid rfl 47 (.tmp 2) (.tmp 88) rfl w.heap.size 0 #[.int .i64 3,.string x,.int .i64 0,.int .i64 0] rfl rfl aC.out fI (by simp [Value.oneCell']) ?_;rw [HW2.out])
    first|(show Exit.noGoto (bodyPost _ _ _) _ _ _;rw [Exit.noGoto_ret])|skip
    refine bodyPost_ret (v:=.tuple #[.agg #[.int .i64 3,.string x,.int .i64 0,.int .i64 0],.int .i64 (E:Nat),.int .i64 0]) (by simp [results,Tryz.results57,go_sem,z5,z6,z7,z8]) rfl ⟨congrArg _ HO.out.symm,cf.out⟩
end Go.Proofs.YtkdbgopgjbfhbaaGreatDoor

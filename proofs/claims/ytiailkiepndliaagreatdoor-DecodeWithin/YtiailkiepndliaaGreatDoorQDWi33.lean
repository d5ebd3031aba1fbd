/- Texts that the claim needs. -/
import Derived.Test.YtiailkiepndliaaGreatDoorQDWi1
import Derived.Test.YtiailkiepndliaaGreatDoorQDWi18
import Derived.Test.YtiailkiepndliaaGreatDoorQDWi32
import Derived.Laws.Strings
namespace Go.Proofs.YtiailkiepndliaaGreatDoor
open Go.RowKit Rep Enc Dec Go.Lib
set_option linter.unusedVariables false
namespace Dec
def Ls (s:ByteArray) (i:Nat) (xs:List Int):Prop:=∀j,j<xs.length->Leb.bt s (i+j)=xs.getD j 0
theorem Ls.left {s:ByteArray} {i:Nat} {xs ys:List Int} (h:Ls s i (xs++ys)):Ls s i xs:=fun j hj=>by
 rw [h j (by rw [List.length_append];omega)]
 simp [List.getD,List.getElem?_append_left hj]
theorem Ls.right {s:ByteArray} {i:Nat} {xs ys:List Int} (h:Ls s i (xs++ys)):Ls s (i+xs.length) ys:=fun j hj=>by
 have:=h (xs.length+j) (by rw [List.length_append];omega)
 rw [Nat.add_assoc,this]
 simp [List.getD,List.getElem?_append_right]
theorem Ls.head {s:ByteArray} {i:Nat} {x:Int} {xs:List Int} (h:Ls s i (x :: xs)):Leb.bt s i=x:=by simpa using h 0 (by simp)
theorem Ls.tail {s:ByteArray} {i:Nat} {x:Int} {xs:List Int} (h:Ls s i (x :: xs)):Ls s (i+1) xs:=fun j hj=>by
 have:=h (j+1) (by simp;omega)
 rw [show i+1+j=i+(j+1) by omega,this];simp
theorem nx_put {s:ByteArray} {en i:Nat} {x:Int} {xs:List Int} (h:Ls s i (x :: xs)) (hi:i<en):nx s en i=.ok (x,i+1):=by
 unfold nx;rw [if_pos hi,h.head]
theorem cut_lies {s:ByteArray} {en i:Nat} {xs:List Int} (he:en<=s.size) (h:Ls s i xs) (hi:i+xs.length<=en):Leb.Lies (Leb.from_ (s.extract 0 en) i) 0 xs:=Leb.from_lies fun j hj=>by
 rw [Leb.bt_cut s en (i+j) (by omega) he];exact h j hj
theorem ru_put {s:ByteArray} {en i:Nat} {n:Int} (he:en<=s.size) (h0:0<=n) (h1:n<=4294967295) (h:Ls s i (Leb.uB n)) (hi:i+(Leb.uB n).length<=en):ru s en i=.ok (n,i+(Leb.uB n).length):=by
 have hz:(s.extract 0 en).size=en:=by rw [ByteArray.size_extract];omega
 have hL:=cut_lies he h hi
 have h5:(Leb.uB n).length<=5:=by
  have e:(128:Int) ^ 5=34359738368:=by decide
  exact Leb.uB_len 4 n h0 (by show n<128 ^ 5;rw [e];omega)
 have hp:=Leb.uB_pos n
 have hg:=Leb.grp_u (Leb.from_ (s.extract 0 en) i) ((s.extract 0 en).size-i) n.toNat n 0 5 h0 (Nat.le_refl _) hL (by omega)
 rw [if_pos h5,Nat.zero_add] at hg
 have hv:=Leb.val_u (Leb.from_ (s.extract 0 en) i) n.toNat n 0 h0 (Nat.le_refl _) hL
 rw [Nat.zero_add] at hv
 have hv':Leb.val (Leb.from_ (s.extract 0 en) i) (Leb.uB n).length=n:=by rw [hv];simp [Leb.val]
 have hR:Leb.uRead (s.extract 0 en) i 32=(n,(i:Int)+(Leb.uB n).length,0):=by
  have hask:Leb.asks (s.extract 0 en).size i 32=true:=decide_eq_true ⟨.inl rfl,by omega,by omega⟩
  unfold Leb.uRead
  rw [if_pos hask,Int.toNat_natCast]
  show Leb.uFin _ (Leb.grpF _ _ 5 0) _ 32=_
  rw [hg]
  unfold Leb.uFin
  rw [hv',if_neg]
  rintro (h|⟨_,h⟩|⟨h,_⟩)<;>omega
 unfold ru
 rw [hR,if_pos rfl]
 show (Except.ok (n,((i:Int)+((Leb.uB n).length:Int)).toNat):R Int)=_
 rw [show ((i:Int)+((Leb.uB n).length:Int)).toNat=i+(Leb.uB n).length by omega]
theorem sB_five {n:Int} (h0:-2147483648<=n) (h1:n<=2147483647):(Leb.sB n).length<=5:=by
 by_cases h:-64<=n/\n<=63
 ·rw [Leb.sB_small h];simp
 rw [Leb.sB_great h]
 by_cases h:-64<=n / 128/\n / 128<=63
 ·rw [Leb.sB_small h];simp
 rw [Leb.sB_great h]
 by_cases h:-64<=n / 128 / 128/\n / 128 / 128<=63
 ·rw [Leb.sB_small h];simp
 rw [Leb.sB_great h]
 by_cases h:-64<=n / 128 / 128 / 128/\n / 128 / 128 / 128<=63
 ·rw [Leb.sB_small h];simp
 rw [Leb.sB_great h,Leb.sB_small (n:=n / 128 / 128 / 128 / 128) (by omega)];simp
theorem rs_put {s:ByteArray} {en i:Nat} {n bits:Int} (he:en<=s.size) (hb:bits=32\/bits=64) (h0:-9223372036854775808<=n) (h1:n<=9223372036854775807) (h32:bits=32->-2147483648<=n/\n<=2147483647) (h:Ls s i (Leb.sB n)) (hi:i+(Leb.sB n).length<=en):rs s en bits i=.ok (n,i+(Leb.sB n).length):=by
 have hz:(s.extract 0 en).size=en:=by rw [ByteArray.size_extract];omega
 have hL:=cut_lies he h hi
 have hm:(Leb.sB n).length<=Leb.most bits:=by
  rcases hb with rfl|rfl
  ·exact sB_five (h32 rfl).1 (h32 rfl).2
  ·exact Leb.sB_ten h0 h1
 have h10:=Leb.sB_ten h0 h1
 have hp:=Leb.sB_pos n
 have hg:=Leb.grp_s (Leb.from_ (s.extract 0 en) i) ((s.extract 0 en).size-i) n.natAbs n 0 (Leb.most bits) (Nat.le_refl _) hL (by omega)
 rw [if_pos hm,Nat.zero_add] at hg
 have hv:=Leb.val_s (Leb.from_ (s.extract 0 en) i) n.natAbs n 0 (Nat.le_refl _) hL
 rw [Nat.zero_add] at hv
 have hv':Leb.sval (Leb.from_ (s.extract 0 en) i) (Leb.sB n).length=n:=by show Leb.val _ _+_*Leb.sg _=_;rw [hv];simp [Leb.val]
 have hlast:=Leb.sB_last (Nat.le_refl _) hL
 have hR:Leb.sRead (s.extract 0 en) i bits=(n,(i:Int)+(Leb.sB n).length,0):=by
  rcases hb with rfl|rfl
  ·have hask:Leb.asks (s.extract 0 en).size i 32=true:=decide_eq_true ⟨.inl rfl,by omega,by omega⟩
   unfold Leb.sRead
   rw [if_pos hask,Int.toNat_natCast]
   show Leb.sFin _ (Leb.grpF _ _ (Leb.most 32) 0) _ 32=_
   rw [hg]
   unfold Leb.sFin
   have hm5:(Leb.sB n).length<=5:=hm
   have:=h32 rfl
   rw [hv',if_neg]
   rintro (h|⟨_,h⟩|⟨h,_⟩)<;>omega
  ·have hask:Leb.asks (s.extract 0 en).size i 64=true:=decide_eq_true ⟨.inr rfl,by omega,by omega⟩
   unfold Leb.sRead
   rw [if_pos hask,Int.toNat_natCast]
   show Leb.sFin _ (Leb.grpF _ _ (Leb.most 64) 0) _ 64=_
   rw [hg]
   refine Leb.sFin_64 _ _ _ _ hp h10 ?_ hv' h0 h1
   by_cases hk:(Leb.sB n).length=10
   ·left
    rw [hk] at hlast
    exact ⟨(Leb.from_bd (s.extract 0 en) i 9).1,hlast⟩
   ·right;omega
 unfold rs
 rw [hR,if_pos rfl]
 show (Except.ok (n,((i:Int)+((Leb.sB n).length:Int)).toNat):R Int)=_
 rw [show ((i:Int)+((Leb.sB n).length:Int)).toNat=i+(Leb.sB n).length by omega]
theorem must_put {s:ByteArray} {en i:Nat} {x:Int} {xs:List Int} (h:Ls s i (x :: xs)) (hi:i<en):must s en x i=.ok ((),i+1):=by
 unfold must;rw [nx_put h hi,bd_ok,if_pos rfl]
theorem rep_put {s:ByteArray} {en:Nat} (he:en<=s.size):∀(l:List Int) (i:Nat),(∀y ∈ l,0<=y/\y<=4294967295)->Ls s i (l.flatMap Leb.uB)->i+(l.flatMap Leb.uB).length<=en->rep (ru s en) l.length i=.ok (l,i+(l.flatMap Leb.uB).length)
 | [],i,_,_,_=>rfl
 | x :: l,i,hb,h,hi=>by
  rw [List.flatMap_cons] at h hi ⊢
  rw [List.length_append] at hi ⊢
  have hx:=hb x (List.mem_cons_self ..)
  show bd (ru s en i) _=_
  rw [ru_put he hx.1 hx.2 h.left (by omega),bd_ok,rep_put he l _ (fun y hy=>hb y (List.mem_cons_of_mem _ hy)) h.right (by omega),bd_ok]
  congr 2;omega
theorem rl_put {s:ByteArray} {en i:Nat} {l:List Int} (he:en<=s.size) (hl:l.length<=4096) (hb:∀y ∈ l,0<=y/\y<=4294967295) (h:Ls s i (idxB l)) (hi:i+(idxB l).length<=en):rl s en i=.ok (l,i+(idxB l).length):=by
 unfold idxB at h hi ⊢
 rw [List.length_append] at hi ⊢
 unfold rl rc
 rw [ru_put he (by omega) (by omega) h.left (by omega),bd_ok,if_pos (by omega),bd_ok,Int.toNat_natCast,rep_put he l _ hb h.right (by omega)]
 congr 2;omega
structure Rd1 {d:Nat} (x:Ins (IL d)):Prop where
 ok:Ok1 x
 few:x.labels.length<=4096
 rg:Rg1 (fun _=>True) x
 c32:x.op=65->-2147483648<=x.n/\x.n<=2147483647
theorem ins_all {d:Nat} {x:Ins (IL d)} {a b n:Int} {l:List Int} {y z:IL d} (h1:x.a=a) (h2:x.b=b) (h3:x.n=n) (h4:x.labels=l) (h5:x.body=y) (h6:x.els=z):({ op:=x.op,a:=a,b:=b,n:=n,labels:=l,body:=y,els:=z }:Ins (IL d))=x:=by
 cases x;simp only at *;subst h1 h2 h3 h4 h5 h6;rfl
theorem none_size:∀d,size d (none_ d)=0
 | 0=>rfl
 | _+1=>rfl
theorem rsim_put {d:Nat} {s:ByteArray} {en i:Nat} {x:Ins (IL d)} (he:en<=s.size) (o:Rd1 x) (h2:form x.op≠2) (h3:form x.op≠3) (h:Ls s i (tlB (bytesI d) (size d) x)) (hi:i+(tlB (bytesI d) (size d) x).length<=en):rsim (none_ d) s en x.op i=.ok (x,i+(tlB (bytesI d) (size d) x).length):=by
 have k:=o.ok
 have fm:=k.fm
 have eb:x.body=none_ d:=none_eq d _ _ (k.body h2 h3) (none_size d)
 have ee:x.els=none_ d:=none_eq d _ _ (k.els h3) (none_size d)
 unfold tlB at h hi ⊢
 unfold rsim
 simp only
 by_cases f1:form x.op=1
 ·rw [if_pos f1] at h hi ⊢
  rw [if_pos f1]
  have e:=ins_all (k.a (.inl f1)) (k.b (by omega)) (k.n (by omega)) (k.labels (by omega)) eb ee
  by_cases hz:x.op=63\/x.op=64
  ·rw [if_pos hz] at h hi ⊢
   rw [if_pos hz,must_put h (by simp at hi;omega),bd_ok,e];rfl
  ·rw [if_neg hz] at h hi ⊢
   rw [if_neg hz,e];rfl
 have f23:¬ (form x.op=2\/form x.op=3):=by omega
 rw [if_neg f1,if_neg f23] at h hi
 rw [if_neg f1,if_neg f1,if_neg f23]
 by_cases f4:form x.op=4\/form x.op=6
 ·rw [if_pos f4] at h hi ⊢
  rw [if_pos f4]
  have ra:=o.rg.a (by omega) (by omega)
  rw [ru_put he ra.1 ra.2 h hi,bd_ok,ins_all rfl (k.b (by omega)) (k.n (by omega)) (k.labels (by omega)) eb ee]
 rw [if_neg f4] at h hi ⊢
 rw [if_neg f4]
 by_cases f5:form x.op=5
 ·rw [if_pos f5] at h hi ⊢
  rw [if_pos f5]
  rw [List.length_append] at hi ⊢
  have ra:=o.rg.a (by omega) (by omega)
  rw [rl_put he o.few (o.rg.labels f5) h.left (by omega),bd_ok,ru_put he ra.1 ra.2 h.right (by omega),bd_ok,ins_all rfl (k.b (by omega)) (k.n (by omega)) rfl eb ee]
  congr 2;omega
 rw [if_neg f5] at h hi ⊢
 rw [if_neg f5]
 by_cases f7:form x.op=7
 ·rw [if_pos f7] at h hi ⊢
  rw [if_pos f7]
  rw [List.length_append] at hi ⊢
  have ra:=o.rg.a (by omega) (by omega)
  simp only [List.length_cons,List.length_nil] at hi
  rw [ru_put he ra.1 ra.2 h.left (by omega),bd_ok,must_put h.right (by omega),bd_ok,ins_all rfl (k.b (by omega)) (k.n (by omega)) (k.labels (by omega)) eb ee]
  rfl
 rw [if_neg f7] at h hi ⊢
 rw [if_neg f7]
 by_cases f8:form x.op=8
 ·rw [if_pos f8] at h hi ⊢
  rw [if_pos f8]
  rw [List.length_append] at hi ⊢
  have ra:=o.rg.a (by omega) (by omega)
  have rb:=o.rg.b f8
  rw [ru_put he ra.1 ra.2 h.left (by omega),bd_ok,ru_put he rb.1 rb.2 h.right (by omega),bd_ok,ins_all rfl rfl (k.n (by omega)) (k.labels (by omega)) eb ee]
  congr 2;omega
 rw [if_neg f8] at h hi ⊢
 rw [if_neg f8]
 have f9:form x.op=9:=by omega
 rw [if_pos f9] at h hi ⊢
 rw [if_pos f9]
 have rn:=o.rg.n f9
 rw [rs_put he (by split;exact .inl rfl;exact .inr rfl) rn.1 rn.2 (fun e=>by
  by_cases h65:x.op=65
  ·exact o.c32 h65
  ·rw [if_neg h65] at e;cases e) h hi,bd_ok,ins_all (k.a (.inr f9)) (k.b (by omega)) rfl (k.labels (by omega)) eb ee]
def VR:(d:Nat)->Nat->IL d->Prop
 | 0,_,_=>True
 | d+1,dep,l=>∀x,x ∈ (show List (Ins (IL d)) from l)->dep<=64/\Rd1 x/\VR d (dep+1) x.body/\VR d (dep+1) x.els
def SeqP (s:ByteArray) (en d dep:Nat):Prop:=∀(l:IL d) (t:Int) (i n:Nat),(t=5\/t=11)->VR d dep l->n+tot d l<=65536->Ls s i (bytesI d l++[t])->i+(bytesI d l).length+1<=en->rseq s en d dep i n=.ok ((l,t),i+(bytesI d l).length+1,n+tot d l)
theorem bd2_ok {α β:Type} (a:α) (i n:Nat) (f:α->Nat->Nat->R2 β):bd2 (.ok (a,i,n)) f=f a i n:=rfl
theorem ok2 {α:Type} {a:α} {p p' q q':Nat} (h1:p=p') (h2:q=q'):(Except.ok (a,p,q):R2 α)=.ok (a,p',q'):=by rw [h1,h2]
theorem rask_none {dep:Nat} {op:Int} {n:Nat} (h1:1<=form op/\form op<=9) (h2:n+1<=65536) (h3:dep<=64):rask dep op n=none:=by
 unfold rask
 rw [if_neg (by omega),if_neg (by omega),if_neg (by omega),if_neg (by omega)]
theorem rblk_put {d:Nat} {s:ByteArray} {en dep i n:Nat} {x:Ins (IL d)} (he:en<=s.size) (IH:SeqP s en d (dep+1)) (o:Rd1 x) (hf:form x.op=2\/form x.op=3) (v1:VR d (dep+1) x.body) (v2:VR d (dep+1) x.els) (hc:n+tot d x.body+tot d x.els<=65536) (h:Ls s i (tlB (bytesI d) (size d) x)) (hi:i+(tlB (bytesI d) (size d) x).length<=en) :
  rblk (none_ d) s en (rseq s en d (dep+1)) x.op i n=.ok (x,i+(tlB (bytesI d) (size d) x).length,n+tot d x.body+tot d x.els):=by
 have k:=o.ok
 have ea:=k.a2 hf
 have htl:tlB (bytesI d) (size d) x=(if x.a=0 then [64] else [x.a%256])++(bytesI d x.body++((if 0<size d x.els then [5]++bytesI d x.els else [])++[11])):=by
  unfold tlB
  rw [if_neg (by omega),if_pos hf]
  simp only [List.append_assoc]
 rw [htl] at h hi ⊢
 have hres:rres s en i=.ok (x.a,i+1):=by
  unfold rres
  by_cases a0:x.a=0
  ·rw [if_pos a0] at h hi
   rw [nx_put h (by simp at hi;omega),bd_ok,if_pos rfl,a0]
  ·rw [if_neg a0] at h hi
   have e:x.a%256=x.a:=by omega
   rw [e] at h
   rw [nx_put h (by simp at hi;omega),bd_ok,if_neg (by omega)]
   unfold vty
   rw [if_neg (by omega),if_pos (by omega)]
 have hone:(if x.a=0 then [64] else [x.a%256]:List Int).length=1:=by split<;>rfl
 have h2:=h.right
 rw [List.length_append,hone] at hi ⊢
 rw [hone] at h2
 unfold rblk
 rw [hres]
 show bd2 (rseq s en d (dep+1) (i+1) n) _=_
 by_cases hz:0<size d x.els
 ·rw [if_pos hz] at h2 hi ⊢
  simp only [List.length_append,List.length_cons,List.length_nil] at hi ⊢
  have h3:Ls s (i+1) (bytesI d x.body++[5]++(bytesI d x.els++[11])):=by simpa using h2
  rw [IH x.body 5 (i+1) n (.inl rfl) v1 (by omega) h3.left (by omega)]
  have hf3:form x.op=3:=by
   by_cases e:form x.op=3
   ·exact e
   ·have:=k.els e;omega
  rw [bd2_ok]
  dsimp only
  rw [if_pos ⟨rfl,hf3⟩]
  have h4:=h3.right
  simp only [List.length_append,List.length_cons,List.length_nil] at h4
  rw [IH x.els 11 (i+1+(bytesI d x.body).length+1) (n+tot d x.body) (.inr rfl) v2 hc (by rw [show i+1+(bytesI d x.body).length+1=i+1+((bytesI d x.body).length+(0+1)) by omega];exact h4) (by omega)]
  rw [bd2_ok]
  dsimp only
  rw [if_pos rfl,ins_all rfl (k.b (by omega)) (k.n (by omega)) (k.labels (by omega)) rfl rfl]
  exact ok2 (by omega) (by omega)
 ·rw [if_neg hz] at h2 hi ⊢
  simp only [List.length_append,List.length_cons,List.length_nil] at hi ⊢
  have h3:Ls s (i+1) (bytesI d x.body++[11]):=by simpa using h2
  rw [IH x.body 11 (i+1) n (.inr rfl) v1 (by omega) h3 (by omega)]
  rw [bd2_ok]
  dsimp only
  rw [if_neg (by omega)]
  have ez:size d x.els=0:=by omega
  have et:tot d x.els=0:=by
   have e:=none_eq d x.els (none_ d) ez (none_size d)
   rw [e]
   cases d<;>rfl
  rw [if_pos rfl,ins_all rfl (k.b (by omega)) (k.n (by omega)) (k.labels (by omega)) rfl (none_eq d _ _ ez (none_size d)),et]
  exact ok2 (by omega) (by omega)
theorem rloop_put {d:Nat} {s:ByteArray} {en dep:Nat} (he:en<=s.size) (IH:SeqP s en d (dep+1)) (t:Int) (ht:t=5\/t=11):∀(l:List (Ins (IL d))) (f i n:Nat),(∀x ∈ l,dep<=64/\Rd1 x/\VR d (dep+1) x.body/\VR d (dep+1) x.els)->n+totL (tot d) l<=65536->Ls s i (insL (bytesI d) (size d) l++[t])->i+(insL (bytesI d) (size d) l).length+1<=en->en-i+1<=f ->
  rloop (rseq s en d (dep+1)) s en dep f i n=.ok ((l,t),i+(insL (bytesI d) (size d) l).length+1,n+totL (tot d) l)
 | l,0,i,n,_,_,_,_,hf=>by omega
 | [],f+1,i,n,_,_,h,hi,_=>by
  have h:Ls s i [t]:=h
  have hi:i+0+1<=en:=hi
  unfold rloop
  rw [nx_put h (by omega)]
  show (if t=11\/t=5 then _ else _)=_
  rw [if_pos (by omega)]
  rfl
 | x :: l,f+1,i,n,hv,hc,h,hi,hf=>by
  have e:insL (bytesI d) (size d) (x :: l)=insB (bytesI d) (size d) x++insL (bytesI d) (size d) l:=List.flatMap_cons
  have ec:totL (tot d) (x :: l)=1+tot d x.body+tot d x.els+totL (tot d) l:=rfl
  rw [e,insB_tl] at h hi ⊢
  rw [ec] at hc ⊢
  simp only [List.cons_append,List.length_cons,List.length_append] at h hi ⊢
  obtain ⟨hd,o,v1,v2⟩:=hv x (List.mem_cons_self ..)
  have hb:=form_byte x.op o.ok.fm.1 o.ok.fm.2
  have e256:x.op%256=x.op:=by omega
  rw [e256] at h
  unfold rloop
  rw [nx_put h (by omega)]
  show (if x.op=11\/x.op=5 then _ else _)=_
  rw [if_neg (by omega)]
  have h2:=h.tail
  rw [List.append_assoc] at h2
  have hr:rins (rseq s en d (dep+1)) s en dep x.op (i+1) n=.ok (x,i+1+(tlB (bytesI d) (size d) x).length,n+1+tot d x.body+tot d x.els):=by
   unfold rins
   rw [rask_none o.ok.fm (by omega) hd]
   show (if form x.op=2\/form x.op=3 then _ else _)=_
   by_cases hf:form x.op=2\/form x.op=3
   ·rw [if_pos hf]
    exact rblk_put he IH o hf v1 v2 (by omega) h2.left (by omega)
   ·rw [if_neg hf,rsim_put he o (by omega) (by omega) h2.left (by omega)]
    have z:∀y:IL d,size d y=0->tot d y=0:=fun y hy=>by
     rw [none_eq d y (none_ d) hy (none_size d)]
     cases d<;>rfl
    rw [z _ (o.ok.body (by omega) (by omega)),z _ (o.ok.els (by omega))]
    rfl
  rw [hr]
  show bd2 (rloop (rseq s en d (dep+1)) s en dep f (i+1+(tlB (bytesI d) (size d) x).length) (n+1+tot d x.body+tot d x.els)) _=_
  rw [rloop_put he IH t ht l f _ _ (fun y hy=>hv y (List.mem_cons_of_mem _ hy)) (by omega) h2.right (by omega) (by omega)]
  show (Except.ok ((x :: l,t),_,_):R2 (List (Ins (IL d)) × Int))=_
  exact ok2 (by omega) (by omega)
theorem seq_put {s:ByteArray} {en:Nat} (he:en<=s.size):∀(d dep:Nat),SeqP s en d dep
 | 0,dep=>fun l t i n ht _ _ h hi=>by
  have h:Ls s i [t]:=h
  have hi:i+0+1<=en:=hi
  show bd2 (lift (nx s en i) n) _=_
  rw [nx_put h (by omega)]
  show (if t=11\/t=5 then _ else _)=_
  rw [if_pos (by omega)]
  rfl
 | d+1,dep=>fun l t i n ht hv hc h hi=>rloop_put he (seq_put he d (dep+1)) t ht (show List (Ins (IL d)) from l) (en-i+1) i n hv hc h hi (Nat.le_refl _)
end Dec
end Go.Proofs.YtiailkiepndliaaGreatDoor

namespace Go.Proofs.YtiailkiepndliaaGreatDoor
open Go.RowKit Rep Enc Go.Lib
set_option linter.unusedVariables false
namespace Enc
def Bd (l:List Int):Prop:=∀x ∈ l,0<=x/\x<=255
theorem bd_nil:Bd []:=fun x hx=>by cases hx
theorem bd_one {n:Int} (h:0<=n/\n<=255):Bd [n]:=fun x hx=>by rw [List.mem_singleton.1 hx];exact h
theorem bd_mod (n:Int):Bd [n%256]:=bd_one (by omega)
theorem bd_app {a b:List Int} (ha:Bd a) (hb:Bd b):Bd (a++b):=fun x hx=>by
 rcases List.mem_append.1 hx with h|h
 ·exact ha x h
 ·exact hb x h
theorem bd_fm {α:Type} {e:α->List Int} {l:List α} (h:∀x ∈ l,Bd (e x)):Bd (l.flatMap e):=fun x hx=>by
 obtain ⟨y,hy,hx⟩:=List.mem_flatMap.1 hx
 exact h y hy x hx
theorem bd_uB {n:Int} (h:0<=n):Bd (Leb.uB n):=uB_bd _ n h (Nat.le_refl _)
theorem bd_sB (n:Int):Bd (Leb.sB n):=sB_bd _ n (Nat.le_refl _)
theorem bd_lis {α:Type} {e:α->List Int} {l:List α} (h:∀x ∈ l,Bd (e x)):Bd (Leb.uB (l.length:Int)++l.flatMap e):=bd_app (bd_uB (by omega)) (bd_fm h)
theorem bd_ins {d:Nat} {x:Ins (IL d)} (o:Ok1 x) (h1:Bd (bytesI d x.body)) (h2:Bd (bytesI d x.els)):Bd (insB (bytesI d) (size d) x):=by
 refine bd_app (bd_mod x.op) ?_
 have z:Bd [0]:=bd_one (by omega)
 split
 ·split
  ·exact z
  ·exact bd_nil
 split
 ·refine bd_app (bd_app (bd_app ?_ h1) ?_) (bd_one (by omega))
  ·split
   ·exact bd_one (by omega)
   ·exact bd_mod _
  ·split
   ·exact bd_app (bd_one (by omega)) h2
   ·exact bd_nil
 split
 ·exact bd_uB (o.a4 (by omega) (by omega))
 split
 ·exact bd_app (bd_lis fun y hy=>bd_uB (o.l5 (by omega) y hy)) (bd_uB (o.a4 (by omega) (by omega)))
 split
 ·exact bd_app (bd_uB (o.a4 (by omega) (by omega))) z
 split
 ·exact bd_app (bd_uB (o.a4 (by omega) (by omega))) (bd_uB (o.b8 (by omega)))
 split
 ·exact bd_sB _
 ·exact bd_nil
theorem bd_bytesI:∀(d:Nat) (l:IL d),VI d l->Bd (bytesI d l)
 | 0,_,_=>bd_nil
 | d+1,l,h=>bd_fm (l:=(show List (Ins (IL d)) from l)) fun x hx=>bd_ins (ok1_of (h x hx).1) (bd_bytesI d _ (h x hx).2.1) (bd_bytesI d _ (h x hx).2.2)
end Enc
end Go.Proofs.YtiailkiepndliaaGreatDoor


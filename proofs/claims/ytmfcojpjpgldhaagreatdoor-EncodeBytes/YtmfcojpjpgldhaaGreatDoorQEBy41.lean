/- Texts that the claim needs. -/
import Derived.Test.YtmfcojpjpgldhaaGreatDoorQEBy4
import Derived.Test.YtmfcojpjpgldhaaGreatDoorQEBy26
namespace Go.Proofs.YtmfcojpjpgldhaaGreatDoor
open Go.RowKit aA Go.Proofs.Tryz
set_option linter.unusedVariables false
set_option maxHeartbeats 2000000
abbrev dH (f:FuncId) (op a b n:Int) (lo:Option Addr) (nl lc:Nat) (bo:Option Addr) (nb bc:Nat) (eo:Option Addr) (ne ec:Nat) (w:World) (Q:Ending->World->Prop):Prop:=Calls prog f #[.agg #[.int .i64 op,.int .i64 a,.int .i64 b,.int .i64 n,.slice lo nl lc,.slice bo nb bc,.slice eo ne ec]] w Q
namespace aA
theorem AJ (op:Int) (h:form op≠9):op≠65/\op≠66:=by
 constructor
 ·rintro rfl;exact h (by decide)
 rintro rfl;exact h (by decide)
end aA
theorem Tj (op a b n:Int) (ls:List Int) (lo bo eo:Option Addr) (nl nb ne lc bc ec:Nat) (w:World) (hf:form op=0) (hl:Ints w (.slice lo nl lc) ls) (hnl:ls.length=nl) :
  dH 115 op a b n lo nl lc bo nb bc eo ne ec w λe w'=>e=.returned (.bool false)/\Below w.heap.size w w':=by
 have hlen:=hl.1;have HL:=ag hl;have HF:=ag hf;have bV:=ag hnl;rw [hnl] at hlen;clear hl hf hnl;go_enter func115,ntmps115;go_wp2_with fail;refine (bY _ _).mono ?_;rintro e u ⟨rfl,rfl⟩;rw [HF.out];go_wp2;go_ret;exact ⟨rfl,(Below.refl _ w).alloc (aI _) _⟩
theorem Tk (op a b n:Int) (ls:List Int) (lo bo eo:Option Addr) (nl nb ne lc bc ec:Nat) (w:World) (hf:form op=1) (hl:Ints w (.slice lo nl lc) ls) (hnl:ls.length=nl) (d0:(a != 0)=true) :
  dH 115 op a b n lo nl lc bo nb bc eo ne ec w λe w'=>e=.returned (.bool false)/\Below w.heap.size w w':=by
 have hlen:=hl.1;have HL:=ag hl;have HF:=ag hf;have bV:=ag hnl;rw [hnl] at hlen;clear hl hf hnl;go_enter func115,ntmps115;go_wp2_with fail;refine (bY _ _).mono ?_;rintro e u ⟨rfl,rfl⟩;rw [HF.out];go_wp2;go_ret;exact ⟨rfl,(Below.refl _ w).alloc (aI _) _⟩
theorem Tm (op a b n:Int) (ls:List Int) (lo bo eo:Option Addr) (nl nb ne lc bc ec:Nat) (w:World) (hf:form op=1) (hl:Ints w (.slice lo nl lc) ls) (hnl:ls.length=nl) (d0:(a != 0)=false) (d1:(b != 0)=true) :
  dH 115 op a b n lo nl lc bo nb bc eo ne ec w λe w'=>e=.returned (.bool false)/\Below w.heap.size w w':=by
 have hlen:=hl.1;have HL:=ag hl;have HF:=ag hf;have bV:=ag hnl;rw [hnl] at hlen;clear hl hf hnl;go_enter func115,ntmps115;go_wp2_with fail;refine (bY _ _).mono ?_;rintro e u ⟨rfl,rfl⟩;rw [HF.out];go_wp2;go_ret;exact ⟨rfl,(Below.refl _ w).alloc (aI _) _⟩
theorem Tn (op a b n:Int) (ls:List Int) (lo bo eo:Option Addr) (nl nb ne lc bc ec:Nat) (w:World) (hf:form op=1) (hl:Ints w (.slice lo nl lc) ls) (hnl:ls.length=nl) (d0:(a != 0)=false) (d1:(b != 0)=false) (d2:(n != 0)=true) :
  dH 115 op a b n lo nl lc bo nb bc eo ne ec w λe w'=>e=.returned (.bool false)/\Below w.heap.size w w':=by
 have hlen:=hl.1;have HL:=ag hl;have HF:=ag hf;have bV:=ag hnl;rw [hnl] at hlen;clear hl hf hnl;go_enter func115,ntmps115;go_wp2_with fail;refine (bY _ _).mono ?_;rintro e u ⟨rfl,rfl⟩;rw [HF.out];go_wp2;go_ret;exact ⟨rfl,(Below.refl _ w).alloc (aI _) _⟩
theorem Tp (op a b n:Int) (ls:List Int) (lo bo eo:Option Addr) (nl nb ne lc bc ec:Nat) (w:World) (hf:form op=1) (hl:Ints w (.slice lo nl lc) ls) (hnl:ls.length=nl) (d0:(a != 0)=false) (d1:(b != 0)=false) (d2:(n != 0)=false) (d3:0<nl) :
  dH 115 op a b n lo nl lc bo nb bc eo ne ec w λe w'=>e=.returned (.bool false)/\Below w.heap.size w w':=by
 have hlen:=hl.1;have HL:=ag hl;have HF:=ag hf;have bV:=ag hnl;rw [hnl] at hlen;clear hl hf hnl;have zG:¬ nl=0:=by omega
 have zH:(0:Int)<(nl:Int):=by omega
 go_enter func115,ntmps115;go_wp2_with fail;refine (bY _ _).mono ?_;rintro e u ⟨rfl,rfl⟩;rw [HF.out];go_wp2;go_ret;exact ⟨rfl,(Below.refl _ w).alloc (aI _) _⟩
theorem Tq (op a b n:Int) (ls:List Int) (lo bo eo:Option Addr) (nl nb ne lc bc ec:Nat) (w:World) (hf:form op=1) (hl:Ints w (.slice lo nl lc) ls) (hnl:ls.length=nl) (d0:(a != 0)=false) (d1:(b != 0)=false) (d2:(n != 0)=false) (d3:nl=0) (d4:0<nb) :
  dH 115 op a b n lo nl lc bo nb bc eo ne ec w λe w'=>e=.returned (.bool false)/\Below w.heap.size w w':=by
 have hlen:=hl.1;have HL:=ag hl;have HF:=ag hf;have bV:=ag hnl;rw [hnl] at hlen;clear hl hf hnl;have Eh:¬ nb=0:=by omega
 have Ei:(0:Int)<(nb:Int):=by omega
 subst d3;go_enter func115,ntmps115;go_wp2_with fail;refine (bY _ _).mono ?_;rintro e u ⟨rfl,rfl⟩;rw [HF.out];go_wp2;go_ret;exact ⟨rfl,(Below.refl _ w).alloc (aI _) _⟩
theorem Tt (op a b n:Int) (ls:List Int) (lo bo eo:Option Addr) (nl nb ne lc bc ec:Nat) (w:World) (hf:form op=1) (hl:Ints w (.slice lo nl lc) ls) (hnl:ls.length=nl) (d0:(a != 0)=false) (d1:(b != 0)=false) (d2:(n != 0)=false) (d3:nl=0) (d4:nb=0) (d5:0<ne) :
  dH 115 op a b n lo nl lc bo nb bc eo ne ec w λe w'=>e=.returned (.bool false)/\Below w.heap.size w w':=by
 have hlen:=hl.1;have HL:=ag hl;have HF:=ag hf;have bV:=ag hnl;rw [hnl] at hlen;clear hl hf hnl;have d5a:¬ ne=0:=by omega
 have d5b:(0:Int)<(ne:Int):=by omega
 subst d3;subst d4;go_enter func115,ntmps115;go_wp2_with fail;refine (bY _ _).mono ?_;rintro e u ⟨rfl,rfl⟩;rw [HF.out];go_wp2;go_ret;exact ⟨rfl,(Below.refl _ w).alloc (aI _) _⟩
theorem Tu (op a b n:Int) (ls:List Int) (lo bo eo:Option Addr) (nl nb ne lc bc ec:Nat) (w:World) (hf:form op=1) (hl:Ints w (.slice lo nl lc) ls) (hnl:ls.length=nl) (d0:(a != 0)=false) (d1:(b != 0)=false) (d2:(n != 0)=false) (d3:nl=0) (d4:nb=0) (d5:ne=0) (s1:¬ op=65) :
  dH 115 op a b n lo nl lc bo nb bc eo ne ec w λe w'=>e=.returned (.bool (idx a&&(idx b&&ls.all idx)))/\Below w.heap.size w w':=by
 have hlen:=hl.1;have HL:=ag hl;have HF:=ag hf;have bV:=ag hnl;rw [hnl] at hlen;clear hl hf hnl;subst d3;subst d4;subst d5;have AK:(op==65)=false:=by simp [s1]
 have i1:=ag λ(w:World)=>mG a w;have i2:=ag λ(w:World)=>mG b w;have i3:=ag λ(w':World) (h:Below w.heap.size w w')=>vH _ ls w' (HL.out.on h);generalize idx a=r1 at *;generalize idx b=r2 at *;generalize ls.all idx=r3 at *;go_enter func115,ntmps115;go_wp2_with fail;refine (bY _ _).mono ?_;rintro e u ⟨rfl,rfl⟩;rw [HF.out];go_wp2_with fail;refine (i1.out _).mono ?_;rintro e u ⟨rfl,rfl⟩;cases r1
 ·go_wp2;go_ret;exact ⟨rfl,(Below.refl _ w).alloc (aI _) _⟩
 go_wp2_with fail;refine (i2.out _).mono ?_;rintro e u ⟨rfl,rfl⟩;cases r2
 ·go_wp2;go_ret;exact ⟨rfl,(Below.refl _ w).alloc (aI _) _⟩
 go_wp2_with fail;refine (i3.out _ ((Below.refl _ w).alloc (aI _) _)).mono ?_;rintro e u ⟨rfl,rfl⟩;go_wp2;go_ret;exact ⟨rfl,(Below.refl _ w).alloc (aI _) _⟩
theorem Tv (op a b n:Int) (ls:List Int) (lo bo eo:Option Addr) (nl nb ne lc bc ec:Nat) (w:World) (hf:form op=2) (hl:Ints w (.slice lo nl lc) ls) (hnl:ls.length=nl) (d0:(b != 0)=true) :
  dH 115 op a b n lo nl lc bo nb bc eo ne ec w λe w'=>e=.returned (.bool false)/\Below w.heap.size w w':=by
 have hlen:=hl.1;have HL:=ag hl;have HF:=ag hf;have bV:=ag hnl;rw [hnl] at hlen;clear hl hf hnl;go_enter func115,ntmps115;go_wp2_with fail;refine (bY _ _).mono ?_;rintro e u ⟨rfl,rfl⟩;rw [HF.out];go_wp2;go_ret;exact ⟨rfl,(Below.refl _ w).alloc (aI _) _⟩
theorem Tw (op a b n:Int) (ls:List Int) (lo bo eo:Option Addr) (nl nb ne lc bc ec:Nat) (w:World) (hf:form op=2) (hl:Ints w (.slice lo nl lc) ls) (hnl:ls.length=nl) (d0:(b != 0)=false) (d1:(n != 0)=true) :
  dH 115 op a b n lo nl lc bo nb bc eo ne ec w λe w'=>e=.returned (.bool false)/\Below w.heap.size w w':=by
 have hlen:=hl.1;have HL:=ag hl;have HF:=ag hf;have bV:=ag hnl;rw [hnl] at hlen;clear hl hf hnl;go_enter func115,ntmps115;go_wp2_with fail;refine (bY _ _).mono ?_;rintro e u ⟨rfl,rfl⟩;rw [HF.out];go_wp2;go_ret;exact ⟨rfl,(Below.refl _ w).alloc (aI _) _⟩
theorem Tx (op a b n:Int) (ls:List Int) (lo bo eo:Option Addr) (nl nb ne lc bc ec:Nat) (w:World) (hf:form op=2) (hl:Ints w (.slice lo nl lc) ls) (hnl:ls.length=nl) (d0:(b != 0)=false) (d1:(n != 0)=false) (d2:0<nl) :
  dH 115 op a b n lo nl lc bo nb bc eo ne ec w λe w'=>e=.returned (.bool false)/\Below w.heap.size w w':=by
 have hlen:=hl.1;have HL:=ag hl;have HF:=ag hf;have bV:=ag hnl;rw [hnl] at hlen;clear hl hf hnl;have zI:¬ nl=0:=by omega
 have zJ:(0:Int)<(nl:Int):=by omega
 go_enter func115,ntmps115;go_wp2_with fail;refine (bY _ _).mono ?_;rintro e u ⟨rfl,rfl⟩;rw [HF.out];go_wp2;go_ret;exact ⟨rfl,(Below.refl _ w).alloc (aI _) _⟩
theorem Ty (op a b n:Int) (ls:List Int) (lo bo eo:Option Addr) (nl nb ne lc bc ec:Nat) (w:World) (hf:form op=2) (hl:Ints w (.slice lo nl lc) ls) (hnl:ls.length=nl) (d0:(b != 0)=false) (d1:(n != 0)=false) (d2:nl=0) (d3:0<ne) :
  dH 115 op a b n lo nl lc bo nb bc eo ne ec w λe w'=>e=.returned (.bool false)/\Below w.heap.size w w':=by
 have hlen:=hl.1;have HL:=ag hl;have HF:=ag hf;have bV:=ag hnl;rw [hnl] at hlen;clear hl hf hnl;have zG:¬ ne=0:=by omega
 have zH:(0:Int)<(ne:Int):=by omega
 subst d2;go_enter func115,ntmps115;go_wp2_with fail;refine (bY _ _).mono ?_;rintro e u ⟨rfl,rfl⟩;rw [HF.out];go_wp2;go_ret;exact ⟨rfl,(Below.refl _ w).alloc (aI _) _⟩
theorem Tz (op a b n:Int) (ls:List Int) (lo bo eo:Option Addr) (nl nb ne lc bc ec:Nat) (w:World) (hf:form op=2) (hl:Ints w (.slice lo nl lc) ls) (hnl:ls.length=nl) (d0:(b != 0)=false) (d1:(n != 0)=false) (d2:nl=0) (d3:ne=0) (e1:(a==0)=true) :
  dH 115 op a b n lo nl lc bo nb bc eo ne ec w λe w'=>e=.returned (.bool true)/\Below w.heap.size w w':=by
 have hlen:=hl.1;have HL:=ag hl;have HF:=ag hf;have bV:=ag hnl;rw [hnl] at hlen;clear hl hf hnl;subst d2;subst d3;go_enter func115,ntmps115;go_wp2_with fail;refine (bY _ _).mono ?_;rintro e u ⟨rfl,rfl⟩;rw [HF.out];go_wp2;go_ret;exact ⟨rfl,(Below.refl _ w).alloc (aI _) _⟩
theorem TA (op a b n:Int) (ls:List Int) (lo bo eo:Option Addr) (nl nb ne lc bc ec:Nat) (w:World) (hf:form op=2) (hl:Ints w (.slice lo nl lc) ls) (hnl:ls.length=nl) (d0:(b != 0)=false) (d1:(n != 0)=false) (d2:nl=0) (d3:ne=0) (e1:(a==0)=false) (e2:(a==126)=true) :
  dH 115 op a b n lo nl lc bo nb bc eo ne ec w λe w'=>e=.returned (.bool true)/\Below w.heap.size w w':=by
 have hlen:=hl.1;have HL:=ag hl;have HF:=ag hf;have bV:=ag hnl;rw [hnl] at hlen;clear hl hf hnl;subst d2;subst d3;go_enter func115,ntmps115;go_wp2_with fail;refine (bY _ _).mono ?_;rintro e u ⟨rfl,rfl⟩;rw [HF.out];go_wp2;go_ret;exact ⟨rfl,(Below.refl _ w).alloc (aI _) _⟩
theorem TB (op a b n:Int) (ls:List Int) (lo bo eo:Option Addr) (nl nb ne lc bc ec:Nat) (w:World) (hf:form op=2) (hl:Ints w (.slice lo nl lc) ls) (hnl:ls.length=nl) (d0:(b != 0)=false) (d1:(n != 0)=false) (d2:nl=0) (d3:ne=0) (e1:(a==0)=false) (e2:(a==126)=false) :
  dH 115 op a b n lo nl lc bo nb bc eo ne ec w λe w'=>e=.returned (.bool (a==127))/\Below w.heap.size w w':=by
 have hlen:=hl.1;have HL:=ag hl;have HF:=ag hf;have bV:=ag hnl;rw [hnl] at hlen;clear hl hf hnl;subst d2;subst d3;go_enter func115,ntmps115;go_wp2_with fail;refine (bY _ _).mono ?_;rintro e u ⟨rfl,rfl⟩;rw [HF.out];go_wp2;go_ret;exact ⟨rfl,(Below.refl _ w).alloc (aI _) _⟩
theorem TC (op a b n:Int) (ls:List Int) (lo bo eo:Option Addr) (nl nb ne lc bc ec:Nat) (w:World) (hf:form op=3) (hl:Ints w (.slice lo nl lc) ls) (hnl:ls.length=nl) (d0:(b != 0)=true) :
  dH 115 op a b n lo nl lc bo nb bc eo ne ec w λe w'=>e=.returned (.bool false)/\Below w.heap.size w w':=by
 have hlen:=hl.1;have HL:=ag hl;have HF:=ag hf;have bV:=ag hnl;rw [hnl] at hlen;clear hl hf hnl;go_enter func115,ntmps115;go_wp2_with fail;refine (bY _ _).mono ?_;rintro e u ⟨rfl,rfl⟩;rw [HF.out];go_wp2;go_ret;exact ⟨rfl,(Below.refl _ w).alloc (aI _) _⟩
theorem TD (op a b n:Int) (ls:List Int) (lo bo eo:Option Addr) (nl nb ne lc bc ec:Nat) (w:World) (hf:form op=3) (hl:Ints w (.slice lo nl lc) ls) (hnl:ls.length=nl) (d0:(b != 0)=false) (d1:(n != 0)=true) :
  dH 115 op a b n lo nl lc bo nb bc eo ne ec w λe w'=>e=.returned (.bool false)/\Below w.heap.size w w':=by
 have hlen:=hl.1;have HL:=ag hl;have HF:=ag hf;have bV:=ag hnl;rw [hnl] at hlen;clear hl hf hnl;go_enter func115,ntmps115;go_wp2_with fail;refine (bY _ _).mono ?_;rintro e u ⟨rfl,rfl⟩;rw [HF.out];go_wp2;go_ret;exact ⟨rfl,(Below.refl _ w).alloc (aI _) _⟩
theorem TE (op a b n:Int) (ls:List Int) (lo bo eo:Option Addr) (nl nb ne lc bc ec:Nat) (w:World) (hf:form op=3) (hl:Ints w (.slice lo nl lc) ls) (hnl:ls.length=nl) (d0:(b != 0)=false) (d1:(n != 0)=false) (d2:0<nl) :
  dH 115 op a b n lo nl lc bo nb bc eo ne ec w λe w'=>e=.returned (.bool false)/\Below w.heap.size w w':=by
 have hlen:=hl.1;have HL:=ag hl;have HF:=ag hf;have bV:=ag hnl;rw [hnl] at hlen;clear hl hf hnl;have zI:¬ nl=0:=by omega
 have zJ:(0:Int)<(nl:Int):=by omega
 go_enter func115,ntmps115;go_wp2_with fail;refine (bY _ _).mono ?_;rintro e u ⟨rfl,rfl⟩;rw [HF.out];go_wp2;go_ret;exact ⟨rfl,(Below.refl _ w).alloc (aI _) _⟩
theorem TF (op a b n:Int) (ls:List Int) (lo bo eo:Option Addr) (nl nb ne lc bc ec:Nat) (w:World) (hf:form op=3) (hl:Ints w (.slice lo nl lc) ls) (hnl:ls.length=nl) (d0:(b != 0)=false) (d1:(n != 0)=false) (d2:nl=0) (e1:(a==0)=true) :
  dH 115 op a b n lo nl lc bo nb bc eo ne ec w λe w'=>e=.returned (.bool true)/\Below w.heap.size w w':=by
 have hlen:=hl.1;have HL:=ag hl;have HF:=ag hf;have bV:=ag hnl;rw [hnl] at hlen;clear hl hf hnl;subst d2;go_enter func115,ntmps115;go_wp2_with fail;refine (bY _ _).mono ?_;rintro e u ⟨rfl,rfl⟩;rw [HF.out];go_wp2;go_ret;exact ⟨rfl,(Below.refl _ w).alloc (aI _) _⟩
theorem TG (op a b n:Int) (ls:List Int) (lo bo eo:Option Addr) (nl nb ne lc bc ec:Nat) (w:World) (hf:form op=3) (hl:Ints w (.slice lo nl lc) ls) (hnl:ls.length=nl) (d0:(b != 0)=false) (d1:(n != 0)=false) (d2:nl=0) (e1:(a==0)=false) (e2:(a==126)=true) :
  dH 115 op a b n lo nl lc bo nb bc eo ne ec w λe w'=>e=.returned (.bool true)/\Below w.heap.size w w':=by
 have hlen:=hl.1;have HL:=ag hl;have HF:=ag hf;have bV:=ag hnl;rw [hnl] at hlen;clear hl hf hnl;subst d2;go_enter func115,ntmps115;go_wp2_with fail;refine (bY _ _).mono ?_;rintro e u ⟨rfl,rfl⟩;rw [HF.out];go_wp2;go_ret;exact ⟨rfl,(Below.refl _ w).alloc (aI _) _⟩
theorem TH (op a b n:Int) (ls:List Int) (lo bo eo:Option Addr) (nl nb ne lc bc ec:Nat) (w:World) (hf:form op=3) (hl:Ints w (.slice lo nl lc) ls) (hnl:ls.length=nl) (d0:(b != 0)=false) (d1:(n != 0)=false) (d2:nl=0) (e1:(a==0)=false) (e2:(a==126)=false) :
  dH 115 op a b n lo nl lc bo nb bc eo ne ec w λe w'=>e=.returned (.bool (a==127))/\Below w.heap.size w w':=by
 have hlen:=hl.1;have HL:=ag hl;have HF:=ag hf;have bV:=ag hnl;rw [hnl] at hlen;clear hl hf hnl;subst d2;go_enter func115,ntmps115;go_wp2_with fail;refine (bY _ _).mono ?_;rintro e u ⟨rfl,rfl⟩;rw [HF.out];go_wp2;go_ret;exact ⟨rfl,(Below.refl _ w).alloc (aI _) _⟩
theorem TI (op a b n:Int) (ls:List Int) (lo bo eo:Option Addr) (nl nb ne lc bc ec:Nat) (w:World) (hf:form op=4) (hl:Ints w (.slice lo nl lc) ls) (hnl:ls.length=nl) (d0:(b != 0)=true) :
  dH 115 op a b n lo nl lc bo nb bc eo ne ec w λe w'=>e=.returned (.bool false)/\Below w.heap.size w w':=by
 have hlen:=hl.1;have HL:=ag hl;have HF:=ag hf;have bV:=ag hnl;rw [hnl] at hlen;clear hl hf hnl;go_enter func115,ntmps115;go_wp2_with fail;refine (bY _ _).mono ?_;rintro e u ⟨rfl,rfl⟩;rw [HF.out];go_wp2;go_ret;exact ⟨rfl,(Below.refl _ w).alloc (aI _) _⟩
theorem TJ (op a b n:Int) (ls:List Int) (lo bo eo:Option Addr) (nl nb ne lc bc ec:Nat) (w:World) (hf:form op=4) (hl:Ints w (.slice lo nl lc) ls) (hnl:ls.length=nl) (d0:(b != 0)=false) (d1:(n != 0)=true) :
  dH 115 op a b n lo nl lc bo nb bc eo ne ec w λe w'=>e=.returned (.bool false)/\Below w.heap.size w w':=by
 have hlen:=hl.1;have HL:=ag hl;have HF:=ag hf;have bV:=ag hnl;rw [hnl] at hlen;clear hl hf hnl;go_enter func115,ntmps115;go_wp2_with fail;refine (bY _ _).mono ?_;rintro e u ⟨rfl,rfl⟩;rw [HF.out];go_wp2;go_ret;exact ⟨rfl,(Below.refl _ w).alloc (aI _) _⟩
theorem TK (op a b n:Int) (ls:List Int) (lo bo eo:Option Addr) (nl nb ne lc bc ec:Nat) (w:World) (hf:form op=4) (hl:Ints w (.slice lo nl lc) ls) (hnl:ls.length=nl) (d0:(b != 0)=false) (d1:(n != 0)=false) (d2:0<nl) :
  dH 115 op a b n lo nl lc bo nb bc eo ne ec w λe w'=>e=.returned (.bool false)/\Below w.heap.size w w':=by
 have hlen:=hl.1;have HL:=ag hl;have HF:=ag hf;have bV:=ag hnl;rw [hnl] at hlen;clear hl hf hnl;have zI:¬ nl=0:=by omega
 have zJ:(0:Int)<(nl:Int):=by omega
 go_enter func115,ntmps115;go_wp2_with fail;refine (bY _ _).mono ?_;rintro e u ⟨rfl,rfl⟩;rw [HF.out];go_wp2;go_ret;exact ⟨rfl,(Below.refl _ w).alloc (aI _) _⟩
theorem TL (op a b n:Int) (ls:List Int) (lo bo eo:Option Addr) (nl nb ne lc bc ec:Nat) (w:World) (hf:form op=4) (hl:Ints w (.slice lo nl lc) ls) (hnl:ls.length=nl) (d0:(b != 0)=false) (d1:(n != 0)=false) (d2:nl=0) (d3:0<nb) :
  dH 115 op a b n lo nl lc bo nb bc eo ne ec w λe w'=>e=.returned (.bool false)/\Below w.heap.size w w':=by
 have hlen:=hl.1;have HL:=ag hl;have HF:=ag hf;have bV:=ag hnl;rw [hnl] at hlen;clear hl hf hnl;have zG:¬ nb=0:=by omega
 have zH:(0:Int)<(nb:Int):=by omega
 subst d2;go_enter func115,ntmps115;go_wp2_with fail;refine (bY _ _).mono ?_;rintro e u ⟨rfl,rfl⟩;rw [HF.out];go_wp2;go_ret;exact ⟨rfl,(Below.refl _ w).alloc (aI _) _⟩
theorem TM (op a b n:Int) (ls:List Int) (lo bo eo:Option Addr) (nl nb ne lc bc ec:Nat) (w:World) (hf:form op=4) (hl:Ints w (.slice lo nl lc) ls) (hnl:ls.length=nl) (d0:(b != 0)=false) (d1:(n != 0)=false) (d2:nl=0) (d3:nb=0) (d4:0<ne) :
  dH 115 op a b n lo nl lc bo nb bc eo ne ec w λe w'=>e=.returned (.bool false)/\Below w.heap.size w w':=by
 have hlen:=hl.1;have HL:=ag hl;have HF:=ag hf;have bV:=ag hnl;rw [hnl] at hlen;clear hl hf hnl;have Eh:¬ ne=0:=by omega
 have Ei:(0:Int)<(ne:Int):=by omega
 subst d2;subst d3;go_enter func115,ntmps115;go_wp2_with fail;refine (bY _ _).mono ?_;rintro e u ⟨rfl,rfl⟩;rw [HF.out];go_wp2;go_ret;exact ⟨rfl,(Below.refl _ w).alloc (aI _) _⟩
theorem TN (op a b n:Int) (ls:List Int) (lo bo eo:Option Addr) (nl nb ne lc bc ec:Nat) (w:World) (hf:form op=4) (hl:Ints w (.slice lo nl lc) ls) (hnl:ls.length=nl) (d0:(b != 0)=false) (d1:(n != 0)=false) (d2:nl=0) (d3:nb=0) (d4:ne=0) (s1:¬ op=65) :
  dH 115 op a b n lo nl lc bo nb bc eo ne ec w λe w'=>e=.returned (.bool (idx a&&(idx b&&ls.all idx)))/\Below w.heap.size w w':=by
 have hlen:=hl.1;have HL:=ag hl;have HF:=ag hf;have bV:=ag hnl;rw [hnl] at hlen;clear hl hf hnl;subst d2;subst d3;subst d4;have AK:(op==65)=false:=by simp [s1]
 have i1:=ag λ(w:World)=>mG a w;have i2:=ag λ(w:World)=>mG b w;have i3:=ag λ(w':World) (h:Below w.heap.size w w')=>vH _ ls w' (HL.out.on h);generalize idx a=r1 at *;generalize idx b=r2 at *;generalize ls.all idx=r3 at *;go_enter func115,ntmps115;go_wp2_with fail;refine (bY _ _).mono ?_;rintro e u ⟨rfl,rfl⟩;rw [HF.out];go_wp2_with fail;refine (i1.out _).mono ?_;rintro e u ⟨rfl,rfl⟩;cases r1
 ·go_wp2;go_ret;exact ⟨rfl,(Below.refl _ w).alloc (aI _) _⟩
 go_wp2_with fail;refine (i2.out _).mono ?_;rintro e u ⟨rfl,rfl⟩;cases r2
 ·go_wp2;go_ret;exact ⟨rfl,(Below.refl _ w).alloc (aI _) _⟩
 go_wp2_with fail;refine (i3.out _ ((Below.refl _ w).alloc (aI _) _)).mono ?_;rintro e u ⟨rfl,rfl⟩;go_wp2;go_ret;exact ⟨rfl,(Below.refl _ w).alloc (aI _) _⟩
theorem TP (op a b n:Int) (ls:List Int) (lo bo eo:Option Addr) (nl nb ne lc bc ec:Nat) (w:World) (hf:form op=5) (hl:Ints w (.slice lo nl lc) ls) (hnl:ls.length=nl) (d0:(b != 0)=true) :
  dH 115 op a b n lo nl lc bo nb bc eo ne ec w λe w'=>e=.returned (.bool false)/\Below w.heap.size w w':=by
 have hlen:=hl.1;have HL:=ag hl;have HF:=ag hf;have bV:=ag hnl;rw [hnl] at hlen;clear hl hf hnl;go_enter func115,ntmps115;go_wp2_with fail;refine (bY _ _).mono ?_;rintro e u ⟨rfl,rfl⟩;rw [HF.out];go_wp2;go_ret;exact ⟨rfl,(Below.refl _ w).alloc (aI _) _⟩
theorem TQ (op a b n:Int) (ls:List Int) (lo bo eo:Option Addr) (nl nb ne lc bc ec:Nat) (w:World) (hf:form op=5) (hl:Ints w (.slice lo nl lc) ls) (hnl:ls.length=nl) (d0:(b != 0)=false) (d1:(n != 0)=true) :
  dH 115 op a b n lo nl lc bo nb bc eo ne ec w λe w'=>e=.returned (.bool false)/\Below w.heap.size w w':=by
 have hlen:=hl.1;have HL:=ag hl;have HF:=ag hf;have bV:=ag hnl;rw [hnl] at hlen;clear hl hf hnl;go_enter func115,ntmps115;go_wp2_with fail;refine (bY _ _).mono ?_;rintro e u ⟨rfl,rfl⟩;rw [HF.out];go_wp2;go_ret;exact ⟨rfl,(Below.refl _ w).alloc (aI _) _⟩
theorem TR (op a b n:Int) (ls:List Int) (lo bo eo:Option Addr) (nl nb ne lc bc ec:Nat) (w:World) (hf:form op=5) (hl:Ints w (.slice lo nl lc) ls) (hnl:ls.length=nl) (d0:(b != 0)=false) (d1:(n != 0)=false) (d2:0<nb) :
  dH 115 op a b n lo nl lc bo nb bc eo ne ec w λe w'=>e=.returned (.bool false)/\Below w.heap.size w w':=by
 have hlen:=hl.1;have HL:=ag hl;have HF:=ag hf;have bV:=ag hnl;rw [hnl] at hlen;clear hl hf hnl;have zI:¬ nb=0:=by omega
 have zJ:(0:Int)<(nb:Int):=by omega
 go_enter func115,ntmps115;go_wp2_with fail;refine (bY _ _).mono ?_;rintro e u ⟨rfl,rfl⟩;rw [HF.out];go_wp2;go_ret;exact ⟨rfl,(Below.refl _ w).alloc (aI _) _⟩
theorem TT (op a b n:Int) (ls:List Int) (lo bo eo:Option Addr) (nl nb ne lc bc ec:Nat) (w:World) (hf:form op=5) (hl:Ints w (.slice lo nl lc) ls) (hnl:ls.length=nl) (d0:(b != 0)=false) (d1:(n != 0)=false) (d2:nb=0) (d3:0<ne) :
  dH 115 op a b n lo nl lc bo nb bc eo ne ec w λe w'=>e=.returned (.bool false)/\Below w.heap.size w w':=by
 have hlen:=hl.1;have HL:=ag hl;have HF:=ag hf;have bV:=ag hnl;rw [hnl] at hlen;clear hl hf hnl;have zG:¬ ne=0:=by omega
 have zH:(0:Int)<(ne:Int):=by omega
 subst d2;go_enter func115,ntmps115;go_wp2_with fail;refine (bY _ _).mono ?_;rintro e u ⟨rfl,rfl⟩;rw [HF.out];go_wp2;go_ret;exact ⟨rfl,(Below.refl _ w).alloc (aI _) _⟩
theorem TV (op a b n:Int) (ls:List Int) (lo bo eo:Option Addr) (nl nb ne lc bc ec:Nat) (w:World) (hf:form op=5) (hl:Ints w (.slice lo nl lc) ls) (hnl:ls.length=nl) (d0:(b != 0)=false) (d1:(n != 0)=false) (d2:nb=0) (d3:ne=0) (s1:¬ op=65) :
  dH 115 op a b n lo nl lc bo nb bc eo ne ec w λe w'=>e=.returned (.bool (idx a&&(idx b&&ls.all idx)))/\Below w.heap.size w w':=by
 have hlen:=hl.1;have HL:=ag hl;have HF:=ag hf;have bV:=ag hnl;rw [hnl] at hlen;clear hl hf hnl;subst d2;subst d3;have AK:(op==65)=false:=by simp [s1]
 have i1:=ag λ(w:World)=>mG a w;have i2:=ag λ(w:World)=>mG b w;have i3:=ag λ(w':World) (h:Below w.heap.size w w')=>vH _ ls w' (HL.out.on h);generalize idx a=r1 at *;generalize idx b=r2 at *;generalize ls.all idx=r3 at *;go_enter func115,ntmps115;go_wp2_with fail;refine (bY _ _).mono ?_;rintro e u ⟨rfl,rfl⟩;rw [HF.out];go_wp2_with fail;refine (i1.out _).mono ?_;rintro e u ⟨rfl,rfl⟩;cases r1
 ·go_wp2;go_ret;exact ⟨rfl,(Below.refl _ w).alloc (aI _) _⟩
 go_wp2_with fail;refine (i2.out _).mono ?_;rintro e u ⟨rfl,rfl⟩;cases r2
 ·go_wp2;go_ret;exact ⟨rfl,(Below.refl _ w).alloc (aI _) _⟩
 go_wp2_with fail;refine (i3.out _ ((Below.refl _ w).alloc (aI _) _)).mono ?_;rintro e u ⟨rfl,rfl⟩;go_wp2;go_ret;exact ⟨rfl,(Below.refl _ w).alloc (aI _) _⟩
theorem TW (op a b n:Int) (ls:List Int) (lo bo eo:Option Addr) (nl nb ne lc bc ec:Nat) (w:World) (hf:form op=6) (hl:Ints w (.slice lo nl lc) ls) (hnl:ls.length=nl) (d0:(b != 0)=true) :
  dH 115 op a b n lo nl lc bo nb bc eo ne ec w λe w'=>e=.returned (.bool false)/\Below w.heap.size w w':=by
 have hlen:=hl.1;have HL:=ag hl;have HF:=ag hf;have bV:=ag hnl;rw [hnl] at hlen;clear hl hf hnl;go_enter func115,ntmps115;go_wp2_with fail;refine (bY _ _).mono ?_;rintro e u ⟨rfl,rfl⟩;rw [HF.out];go_wp2;go_ret;exact ⟨rfl,(Below.refl _ w).alloc (aI _) _⟩
theorem TY (op a b n:Int) (ls:List Int) (lo bo eo:Option Addr) (nl nb ne lc bc ec:Nat) (w:World) (hf:form op=6) (hl:Ints w (.slice lo nl lc) ls) (hnl:ls.length=nl) (d0:(b != 0)=false) (d1:(n != 0)=true) :
  dH 115 op a b n lo nl lc bo nb bc eo ne ec w λe w'=>e=.returned (.bool false)/\Below w.heap.size w w':=by
 have hlen:=hl.1;have HL:=ag hl;have HF:=ag hf;have bV:=ag hnl;rw [hnl] at hlen;clear hl hf hnl;go_enter func115,ntmps115;go_wp2_with fail;refine (bY _ _).mono ?_;rintro e u ⟨rfl,rfl⟩;rw [HF.out];go_wp2;go_ret;exact ⟨rfl,(Below.refl _ w).alloc (aI _) _⟩
theorem TZ (op a b n:Int) (ls:List Int) (lo bo eo:Option Addr) (nl nb ne lc bc ec:Nat) (w:World) (hf:form op=6) (hl:Ints w (.slice lo nl lc) ls) (hnl:ls.length=nl) (d0:(b != 0)=false) (d1:(n != 0)=false) (d2:0<nl) :
  dH 115 op a b n lo nl lc bo nb bc eo ne ec w λe w'=>e=.returned (.bool false)/\Below w.heap.size w w':=by
 have hlen:=hl.1;have HL:=ag hl;have HF:=ag hf;have bV:=ag hnl;rw [hnl] at hlen;clear hl hf hnl;have zI:¬ nl=0:=by omega
 have zJ:(0:Int)<(nl:Int):=by omega
 go_enter func115,ntmps115;go_wp2_with fail;refine (bY _ _).mono ?_;rintro e u ⟨rfl,rfl⟩;rw [HF.out];go_wp2;go_ret;exact ⟨rfl,(Below.refl _ w).alloc (aI _) _⟩
theorem Ua (op a b n:Int) (ls:List Int) (lo bo eo:Option Addr) (nl nb ne lc bc ec:Nat) (w:World) (hf:form op=6) (hl:Ints w (.slice lo nl lc) ls) (hnl:ls.length=nl) (d0:(b != 0)=false) (d1:(n != 0)=false) (d2:nl=0) (d3:0<nb) :
  dH 115 op a b n lo nl lc bo nb bc eo ne ec w λe w'=>e=.returned (.bool false)/\Below w.heap.size w w':=by
 have hlen:=hl.1;have HL:=ag hl;have HF:=ag hf;have bV:=ag hnl;rw [hnl] at hlen;clear hl hf hnl;have zG:¬ nb=0:=by omega
 have zH:(0:Int)<(nb:Int):=by omega
 subst d2;go_enter func115,ntmps115;go_wp2_with fail;refine (bY _ _).mono ?_;rintro e u ⟨rfl,rfl⟩;rw [HF.out];go_wp2;go_ret;exact ⟨rfl,(Below.refl _ w).alloc (aI _) _⟩
theorem Ub (op a b n:Int) (ls:List Int) (lo bo eo:Option Addr) (nl nb ne lc bc ec:Nat) (w:World) (hf:form op=6) (hl:Ints w (.slice lo nl lc) ls) (hnl:ls.length=nl) (d0:(b != 0)=false) (d1:(n != 0)=false) (d2:nl=0) (d3:nb=0) (d4:0<ne) :
  dH 115 op a b n lo nl lc bo nb bc eo ne ec w λe w'=>e=.returned (.bool false)/\Below w.heap.size w w':=by
 have hlen:=hl.1;have HL:=ag hl;have HF:=ag hf;have bV:=ag hnl;rw [hnl] at hlen;clear hl hf hnl;have Eh:¬ ne=0:=by omega
 have Ei:(0:Int)<(ne:Int):=by omega
 subst d2;subst d3;go_enter func115,ntmps115;go_wp2_with fail;refine (bY _ _).mono ?_;rintro e u ⟨rfl,rfl⟩;rw [HF.out];go_wp2;go_ret;exact ⟨rfl,(Below.refl _ w).alloc (aI _) _⟩
theorem Uc (op a b n:Int) (ls:List Int) (lo bo eo:Option Addr) (nl nb ne lc bc ec:Nat) (w:World) (hf:form op=6) (hl:Ints w (.slice lo nl lc) ls) (hnl:ls.length=nl) (d0:(b != 0)=false) (d1:(n != 0)=false) (d2:nl=0) (d3:nb=0) (d4:ne=0) (s1:¬ op=65) :
  dH 115 op a b n lo nl lc bo nb bc eo ne ec w λe w'=>e=.returned (.bool (idx a&&(idx b&&ls.all idx)))/\Below w.heap.size w w':=by
 have hlen:=hl.1;have HL:=ag hl;have HF:=ag hf;have bV:=ag hnl;rw [hnl] at hlen;clear hl hf hnl;subst d2;subst d3;subst d4;have AK:(op==65)=false:=by simp [s1]
 have i1:=ag λ(w:World)=>mG a w;have i2:=ag λ(w:World)=>mG b w;have i3:=ag λ(w':World) (h:Below w.heap.size w w')=>vH _ ls w' (HL.out.on h);generalize idx a=r1 at *;generalize idx b=r2 at *;generalize ls.all idx=r3 at *;go_enter func115,ntmps115;go_wp2_with fail;refine (bY _ _).mono ?_;rintro e u ⟨rfl,rfl⟩;rw [HF.out];go_wp2_with fail;refine (i1.out _).mono ?_;rintro e u ⟨rfl,rfl⟩;cases r1
 ·go_wp2;go_ret;exact ⟨rfl,(Below.refl _ w).alloc (aI _) _⟩
 go_wp2_with fail;refine (i2.out _).mono ?_;rintro e u ⟨rfl,rfl⟩;cases r2
 ·go_wp2;go_ret;exact ⟨rfl,(Below.refl _ w).alloc (aI _) _⟩
 go_wp2_with fail;refine (i3.out _ ((Below.refl _ w).alloc (aI _) _)).mono ?_;rintro e u ⟨rfl,rfl⟩;go_wp2;go_ret;exact ⟨rfl,(Below.refl _ w).alloc (aI _) _⟩
theorem Ud (op a b n:Int) (ls:List Int) (lo bo eo:Option Addr) (nl nb ne lc bc ec:Nat) (w:World) (hf:form op=7) (hl:Ints w (.slice lo nl lc) ls) (hnl:ls.length=nl) (d0:(b != 0)=true) :
  dH 115 op a b n lo nl lc bo nb bc eo ne ec w λe w'=>e=.returned (.bool false)/\Below w.heap.size w w':=by
 have hlen:=hl.1;have HL:=ag hl;have HF:=ag hf;have bV:=ag hnl;rw [hnl] at hlen;clear hl hf hnl;go_enter func115,ntmps115;go_wp2_with fail;refine (bY _ _).mono ?_;rintro e u ⟨rfl,rfl⟩;rw [HF.out];go_wp2;go_ret;exact ⟨rfl,(Below.refl _ w).alloc (aI _) _⟩
theorem Ue (op a b n:Int) (ls:List Int) (lo bo eo:Option Addr) (nl nb ne lc bc ec:Nat) (w:World) (hf:form op=7) (hl:Ints w (.slice lo nl lc) ls) (hnl:ls.length=nl) (d0:(b != 0)=false) (d1:(n != 0)=true) :
  dH 115 op a b n lo nl lc bo nb bc eo ne ec w λe w'=>e=.returned (.bool false)/\Below w.heap.size w w':=by
 have hlen:=hl.1;have HL:=ag hl;have HF:=ag hf;have bV:=ag hnl;rw [hnl] at hlen;clear hl hf hnl;go_enter func115,ntmps115;go_wp2_with fail;refine (bY _ _).mono ?_;rintro e u ⟨rfl,rfl⟩;rw [HF.out];go_wp2;go_ret;exact ⟨rfl,(Below.refl _ w).alloc (aI _) _⟩
theorem Uf (op a b n:Int) (ls:List Int) (lo bo eo:Option Addr) (nl nb ne lc bc ec:Nat) (w:World) (hf:form op=7) (hl:Ints w (.slice lo nl lc) ls) (hnl:ls.length=nl) (d0:(b != 0)=false) (d1:(n != 0)=false) (d2:0<nl) :
  dH 115 op a b n lo nl lc bo nb bc eo ne ec w λe w'=>e=.returned (.bool false)/\Below w.heap.size w w':=by
 have hlen:=hl.1;have HL:=ag hl;have HF:=ag hf;have bV:=ag hnl;rw [hnl] at hlen;clear hl hf hnl;have zI:¬ nl=0:=by omega
 have zJ:(0:Int)<(nl:Int):=by omega
 go_enter func115,ntmps115;go_wp2_with fail;refine (bY _ _).mono ?_;rintro e u ⟨rfl,rfl⟩;rw [HF.out];go_wp2;go_ret;exact ⟨rfl,(Below.refl _ w).alloc (aI _) _⟩
theorem Ug (op a b n:Int) (ls:List Int) (lo bo eo:Option Addr) (nl nb ne lc bc ec:Nat) (w:World) (hf:form op=7) (hl:Ints w (.slice lo nl lc) ls) (hnl:ls.length=nl) (d0:(b != 0)=false) (d1:(n != 0)=false) (d2:nl=0) (d3:0<nb) :
  dH 115 op a b n lo nl lc bo nb bc eo ne ec w λe w'=>e=.returned (.bool false)/\Below w.heap.size w w':=by
 have hlen:=hl.1;have HL:=ag hl;have HF:=ag hf;have bV:=ag hnl;rw [hnl] at hlen;clear hl hf hnl;have zG:¬ nb=0:=by omega
 have zH:(0:Int)<(nb:Int):=by omega
 subst d2;go_enter func115,ntmps115;go_wp2_with fail;refine (bY _ _).mono ?_;rintro e u ⟨rfl,rfl⟩;rw [HF.out];go_wp2;go_ret;exact ⟨rfl,(Below.refl _ w).alloc (aI _) _⟩
theorem Uh (op a b n:Int) (ls:List Int) (lo bo eo:Option Addr) (nl nb ne lc bc ec:Nat) (w:World) (hf:form op=7) (hl:Ints w (.slice lo nl lc) ls) (hnl:ls.length=nl) (d0:(b != 0)=false) (d1:(n != 0)=false) (d2:nl=0) (d3:nb=0) (d4:0<ne) :
  dH 115 op a b n lo nl lc bo nb bc eo ne ec w λe w'=>e=.returned (.bool false)/\Below w.heap.size w w':=by
 have hlen:=hl.1;have HL:=ag hl;have HF:=ag hf;have bV:=ag hnl;rw [hnl] at hlen;clear hl hf hnl;have Eh:¬ ne=0:=by omega
 have Ei:(0:Int)<(ne:Int):=by omega
 subst d2;subst d3;go_enter func115,ntmps115;go_wp2_with fail;refine (bY _ _).mono ?_;rintro e u ⟨rfl,rfl⟩;rw [HF.out];go_wp2;go_ret;exact ⟨rfl,(Below.refl _ w).alloc (aI _) _⟩
theorem Ui (op a b n:Int) (ls:List Int) (lo bo eo:Option Addr) (nl nb ne lc bc ec:Nat) (w:World) (hf:form op=7) (hl:Ints w (.slice lo nl lc) ls) (hnl:ls.length=nl) (d0:(b != 0)=false) (d1:(n != 0)=false) (d2:nl=0) (d3:nb=0) (d4:ne=0) (s1:¬ op=65) :
  dH 115 op a b n lo nl lc bo nb bc eo ne ec w λe w'=>e=.returned (.bool (idx a&&(idx b&&ls.all idx)))/\Below w.heap.size w w':=by
 have hlen:=hl.1;have HL:=ag hl;have HF:=ag hf;have bV:=ag hnl;rw [hnl] at hlen;clear hl hf hnl;subst d2;subst d3;subst d4;have AK:(op==65)=false:=by simp [s1]
 have i1:=ag λ(w:World)=>mG a w;have i2:=ag λ(w:World)=>mG b w;have i3:=ag λ(w':World) (h:Below w.heap.size w w')=>vH _ ls w' (HL.out.on h);generalize idx a=r1 at *;generalize idx b=r2 at *;generalize ls.all idx=r3 at *;go_enter func115,ntmps115;go_wp2_with fail;refine (bY _ _).mono ?_;rintro e u ⟨rfl,rfl⟩;rw [HF.out];go_wp2_with fail;refine (i1.out _).mono ?_;rintro e u ⟨rfl,rfl⟩;cases r1
 ·go_wp2;go_ret;exact ⟨rfl,(Below.refl _ w).alloc (aI _) _⟩
 go_wp2_with fail;refine (i2.out _).mono ?_;rintro e u ⟨rfl,rfl⟩;cases r2
 ·go_wp2;go_ret;exact ⟨rfl,(Below.refl _ w).alloc (aI _) _⟩
 go_wp2_with fail;refine (i3.out _ ((Below.refl _ w).alloc (aI _) _)).mono ?_;rintro e u ⟨rfl,rfl⟩;go_wp2;go_ret;exact ⟨rfl,(Below.refl _ w).alloc (aI _) _⟩
theorem Uj (op a b n:Int) (ls:List Int) (lo bo eo:Option Addr) (nl nb ne lc bc ec:Nat) (w:World) (hf:form op=8) (hl:Ints w (.slice lo nl lc) ls) (hnl:ls.length=nl) (d0:(n != 0)=true) :
  dH 115 op a b n lo nl lc bo nb bc eo ne ec w λe w'=>e=.returned (.bool false)/\Below w.heap.size w w':=by
 have hlen:=hl.1;have HL:=ag hl;have HF:=ag hf;have bV:=ag hnl;rw [hnl] at hlen;clear hl hf hnl;go_enter func115,ntmps115;go_wp2_with fail;refine (bY _ _).mono ?_;rintro e u ⟨rfl,rfl⟩;rw [HF.out];go_wp2;go_ret;exact ⟨rfl,(Below.refl _ w).alloc (aI _) _⟩
theorem Uk (op a b n:Int) (ls:List Int) (lo bo eo:Option Addr) (nl nb ne lc bc ec:Nat) (w:World) (hf:form op=8) (hl:Ints w (.slice lo nl lc) ls) (hnl:ls.length=nl) (d0:(n != 0)=false) (d1:0<nl) :
  dH 115 op a b n lo nl lc bo nb bc eo ne ec w λe w'=>e=.returned (.bool false)/\Below w.heap.size w w':=by
 have hlen:=hl.1;have HL:=ag hl;have HF:=ag hf;have bV:=ag hnl;rw [hnl] at hlen;clear hl hf hnl;have d1a:¬ nl=0:=by omega
 have d1b:(0:Int)<(nl:Int):=by omega
 go_enter func115,ntmps115;go_wp2_with fail;refine (bY _ _).mono ?_;rintro e u ⟨rfl,rfl⟩;rw [HF.out];go_wp2;go_ret;exact ⟨rfl,(Below.refl _ w).alloc (aI _) _⟩
theorem Ul (op a b n:Int) (ls:List Int) (lo bo eo:Option Addr) (nl nb ne lc bc ec:Nat) (w:World) (hf:form op=8) (hl:Ints w (.slice lo nl lc) ls) (hnl:ls.length=nl) (d0:(n != 0)=false) (d1:nl=0) (d2:0<nb) :
  dH 115 op a b n lo nl lc bo nb bc eo ne ec w λe w'=>e=.returned (.bool false)/\Below w.heap.size w w':=by
 have hlen:=hl.1;have HL:=ag hl;have HF:=ag hf;have bV:=ag hnl;rw [hnl] at hlen;clear hl hf hnl;have zI:¬ nb=0:=by omega
 have zJ:(0:Int)<(nb:Int):=by omega
 subst d1;go_enter func115,ntmps115;go_wp2_with fail;refine (bY _ _).mono ?_;rintro e u ⟨rfl,rfl⟩;rw [HF.out];go_wp2;go_ret;exact ⟨rfl,(Below.refl _ w).alloc (aI _) _⟩
theorem Um (op a b n:Int) (ls:List Int) (lo bo eo:Option Addr) (nl nb ne lc bc ec:Nat) (w:World) (hf:form op=8) (hl:Ints w (.slice lo nl lc) ls) (hnl:ls.length=nl) (d0:(n != 0)=false) (d1:nl=0) (d2:nb=0) (d3:0<ne) :
  dH 115 op a b n lo nl lc bo nb bc eo ne ec w λe w'=>e=.returned (.bool false)/\Below w.heap.size w w':=by
 have hlen:=hl.1;have HL:=ag hl;have HF:=ag hf;have bV:=ag hnl;rw [hnl] at hlen;clear hl hf hnl;have zG:¬ ne=0:=by omega
 have zH:(0:Int)<(ne:Int):=by omega
 subst d1;subst d2;go_enter func115,ntmps115;go_wp2_with fail;refine (bY _ _).mono ?_;rintro e u ⟨rfl,rfl⟩;rw [HF.out];go_wp2;go_ret;exact ⟨rfl,(Below.refl _ w).alloc (aI _) _⟩
theorem Un (op a b n:Int) (ls:List Int) (lo bo eo:Option Addr) (nl nb ne lc bc ec:Nat) (w:World) (hf:form op=8) (hl:Ints w (.slice lo nl lc) ls) (hnl:ls.length=nl) (d0:(n != 0)=false) (d1:nl=0) (d2:nb=0) (d3:ne=0) (s1:¬ op=65) :
  dH 115 op a b n lo nl lc bo nb bc eo ne ec w λe w'=>e=.returned (.bool (idx a&&(idx b&&ls.all idx)))/\Below w.heap.size w w':=by
 have hlen:=hl.1;have HL:=ag hl;have HF:=ag hf;have bV:=ag hnl;rw [hnl] at hlen;clear hl hf hnl;subst d1;subst d2;subst d3;have AK:(op==65)=false:=by simp [s1]
 have i1:=ag λ(w:World)=>mG a w;have i2:=ag λ(w:World)=>mG b w;have i3:=ag λ(w':World) (h:Below w.heap.size w w')=>vH _ ls w' (HL.out.on h);generalize idx a=r1 at *;generalize idx b=r2 at *;generalize ls.all idx=r3 at *;go_enter func115,ntmps115;go_wp2_with fail;refine (bY _ _).mono ?_;rintro e u ⟨rfl,rfl⟩;rw [HF.out];go_wp2_with fail;refine (i1.out _).mono ?_;rintro e u ⟨rfl,rfl⟩;cases r1
 ·go_wp2;go_ret;exact ⟨rfl,(Below.refl _ w).alloc (aI _) _⟩
 go_wp2_with fail;refine (i2.out _).mono ?_;rintro e u ⟨rfl,rfl⟩;cases r2
 ·go_wp2;go_ret;exact ⟨rfl,(Below.refl _ w).alloc (aI _) _⟩
 go_wp2_with fail;refine (i3.out _ ((Below.refl _ w).alloc (aI _) _)).mono ?_;rintro e u ⟨rfl,rfl⟩;go_wp2;go_ret;exact ⟨rfl,(Below.refl _ w).alloc (aI _) _⟩
theorem Uo (op a b n:Int) (ls:List Int) (lo bo eo:Option Addr) (nl nb ne lc bc ec:Nat) (w:World) (hf:form op=9) (hl:Ints w (.slice lo nl lc) ls) (hnl:ls.length=nl) (d0:(a != 0)=true) :
  dH 115 op a b n lo nl lc bo nb bc eo ne ec w λe w'=>e=.returned (.bool false)/\Below w.heap.size w w':=by
 have hlen:=hl.1;have HL:=ag hl;have HF:=ag hf;have bV:=ag hnl;rw [hnl] at hlen;clear hl hf hnl;go_enter func115,ntmps115;go_wp2_with fail;refine (bY _ _).mono ?_;rintro e u ⟨rfl,rfl⟩;rw [HF.out];go_wp2;go_ret;exact ⟨rfl,(Below.refl _ w).alloc (aI _) _⟩
theorem Uq (op a b n:Int) (ls:List Int) (lo bo eo:Option Addr) (nl nb ne lc bc ec:Nat) (w:World) (hf:form op=9) (hl:Ints w (.slice lo nl lc) ls) (hnl:ls.length=nl) (d0:(a != 0)=false) (d1:(b != 0)=true) :
  dH 115 op a b n lo nl lc bo nb bc eo ne ec w λe w'=>e=.returned (.bool false)/\Below w.heap.size w w':=by
 have hlen:=hl.1;have HL:=ag hl;have HF:=ag hf;have bV:=ag hnl;rw [hnl] at hlen;clear hl hf hnl;go_enter func115,ntmps115;go_wp2_with fail;refine (bY _ _).mono ?_;rintro e u ⟨rfl,rfl⟩;rw [HF.out];go_wp2;go_ret;exact ⟨rfl,(Below.refl _ w).alloc (aI _) _⟩
theorem Ur (op a b n:Int) (ls:List Int) (lo bo eo:Option Addr) (nl nb ne lc bc ec:Nat) (w:World) (hf:form op=9) (hl:Ints w (.slice lo nl lc) ls) (hnl:ls.length=nl) (d0:(a != 0)=false) (d1:(b != 0)=false) (d2:0<nl) :
  dH 115 op a b n lo nl lc bo nb bc eo ne ec w λe w'=>e=.returned (.bool false)/\Below w.heap.size w w':=by
 have hlen:=hl.1;have HL:=ag hl;have HF:=ag hf;have bV:=ag hnl;rw [hnl] at hlen;clear hl hf hnl;have zI:¬ nl=0:=by omega
 have zJ:(0:Int)<(nl:Int):=by omega
 go_enter func115,ntmps115;go_wp2_with fail;refine (bY _ _).mono ?_;rintro e u ⟨rfl,rfl⟩;rw [HF.out];go_wp2;go_ret;exact ⟨rfl,(Below.refl _ w).alloc (aI _) _⟩
theorem Us (op a b n:Int) (ls:List Int) (lo bo eo:Option Addr) (nl nb ne lc bc ec:Nat) (w:World) (hf:form op=9) (hl:Ints w (.slice lo nl lc) ls) (hnl:ls.length=nl) (d0:(a != 0)=false) (d1:(b != 0)=false) (d2:nl=0) (d3:0<nb) :
  dH 115 op a b n lo nl lc bo nb bc eo ne ec w λe w'=>e=.returned (.bool false)/\Below w.heap.size w w':=by
 have hlen:=hl.1;have HL:=ag hl;have HF:=ag hf;have bV:=ag hnl;rw [hnl] at hlen;clear hl hf hnl;have zG:¬ nb=0:=by omega
 have zH:(0:Int)<(nb:Int):=by omega
 subst d2;go_enter func115,ntmps115;go_wp2_with fail;refine (bY _ _).mono ?_;rintro e u ⟨rfl,rfl⟩;rw [HF.out];go_wp2;go_ret;exact ⟨rfl,(Below.refl _ w).alloc (aI _) _⟩
theorem Ut (op a b n:Int) (ls:List Int) (lo bo eo:Option Addr) (nl nb ne lc bc ec:Nat) (w:World) (hf:form op=9) (hl:Ints w (.slice lo nl lc) ls) (hnl:ls.length=nl) (d0:(a != 0)=false) (d1:(b != 0)=false) (d2:nl=0) (d3:nb=0) (d4:0<ne) :
  dH 115 op a b n lo nl lc bo nb bc eo ne ec w λe w'=>e=.returned (.bool false)/\Below w.heap.size w w':=by
 have hlen:=hl.1;have HL:=ag hl;have HF:=ag hf;have bV:=ag hnl;rw [hnl] at hlen;clear hl hf hnl;have Eh:¬ ne=0:=by omega
 have Ei:(0:Int)<(ne:Int):=by omega
 subst d2;subst d3;go_enter func115,ntmps115;go_wp2_with fail;refine (bY _ _).mono ?_;rintro e u ⟨rfl,rfl⟩;rw [HF.out];go_wp2;go_ret;exact ⟨rfl,(Below.refl _ w).alloc (aI _) _⟩
theorem Uu (op a b n:Int) (ls:List Int) (lo bo eo:Option Addr) (nl nb ne lc bc ec:Nat) (w:World) (hf:form op=9) (hl:Ints w (.slice lo nl lc) ls) (hnl:ls.length=nl) (d0:(a != 0)=false) (d1:(b != 0)=false) (d2:nl=0) (d3:nb=0) (d4:ne=0) (s1:¬ op=65) :
  dH 115 op a b n lo nl lc bo nb bc eo ne ec w λe w'=>e=.returned (.bool (idx a&&(idx b&&ls.all idx)))/\Below w.heap.size w w':=by
 have hlen:=hl.1;have HL:=ag hl;have HF:=ag hf;have bV:=ag hnl;rw [hnl] at hlen;clear hl hf hnl;subst d2;subst d3;subst d4;have AK:(op==65)=false:=by simp [s1]
 have i1:=ag λ(w:World)=>mG a w;have i2:=ag λ(w:World)=>mG b w;have i3:=ag λ(w':World) (h:Below w.heap.size w w')=>vH _ ls w' (HL.out.on h);generalize idx a=r1 at *;generalize idx b=r2 at *;generalize ls.all idx=r3 at *;go_enter func115,ntmps115;go_wp2_with fail;refine (bY _ _).mono ?_;rintro e u ⟨rfl,rfl⟩;rw [HF.out];go_wp2_with fail;refine (i1.out _).mono ?_;rintro e u ⟨rfl,rfl⟩;cases r1
 ·go_wp2;go_ret;exact ⟨rfl,(Below.refl _ w).alloc (aI _) _⟩
 go_wp2_with fail;refine (i2.out _).mono ?_;rintro e u ⟨rfl,rfl⟩;cases r2
 ·go_wp2;go_ret;exact ⟨rfl,(Below.refl _ w).alloc (aI _) _⟩
 go_wp2_with fail;refine (i3.out _ ((Below.refl _ w).alloc (aI _) _)).mono ?_;rintro e u ⟨rfl,rfl⟩;go_wp2;go_ret;exact ⟨rfl,(Below.refl _ w).alloc (aI _) _⟩
theorem Uv (op a b n:Int) (ls:List Int) (lo bo eo:Option Addr) (nl nb ne lc bc ec:Nat) (w:World) (hf:form op=9) (hl:Ints w (.slice lo nl lc) ls) (hnl:ls.length=nl) (d0:(a != 0)=false) (d1:(b != 0)=false) (d2:nl=0) (d3:nb=0) (d4:ne=0) (s1:op=65) (s2:n < -2147483648) :
  dH 115 op a b n lo nl lc bo nb bc eo ne ec w λe w'=>e=.returned (.bool false)/\Below w.heap.size w w':=by
 have hlen:=hl.1;have HL:=ag hl;have HF:=ag hf;have bV:=ag hnl;rw [hnl] at hlen;clear hl hf hnl;subst d2;subst d3;subst d4;subst s1;have Kw:decide (n < -2147483648)=true:=by simp [s2]
 go_enter func115,ntmps115;go_wp2_with fail;refine (bY _ _).mono ?_;rintro e u ⟨rfl,rfl⟩;rw [HF.out];go_wp2;go_ret;exact ⟨rfl,(Below.refl _ w).alloc (aI _) _⟩
theorem Uw (op a b n:Int) (ls:List Int) (lo bo eo:Option Addr) (nl nb ne lc bc ec:Nat) (w:World) (hf:form op=9) (hl:Ints w (.slice lo nl lc) ls) (hnl:ls.length=nl) (d0:(a != 0)=false) (d1:(b != 0)=false) (d2:nl=0) (d3:nb=0) (d4:ne=0) (s1:op=65) (s2:-2147483648<=n) (s3:2147483647<n) :
  dH 115 op a b n lo nl lc bo nb bc eo ne ec w λe w'=>e=.returned (.bool false)/\Below w.heap.size w w':=by
 have hlen:=hl.1;have HL:=ag hl;have HF:=ag hf;have bV:=ag hnl;rw [hnl] at hlen;clear hl hf hnl;subst d2;subst d3;subst d4;subst s1;have Kw:decide (n < -2147483648)=false:=by simp;omega
 have Ux:decide (2147483647<n)=true:=by simp [s3]
 go_enter func115,ntmps115;go_wp2_with fail;refine (bY _ _).mono ?_;rintro e u ⟨rfl,rfl⟩;rw [HF.out];go_wp2;go_ret;exact ⟨rfl,(Below.refl _ w).alloc (aI _) _⟩
theorem Uy (op a b n:Int) (ls:List Int) (lo bo eo:Option Addr) (nl nb ne lc bc ec:Nat) (w:World) (hf:form op=9) (hl:Ints w (.slice lo nl lc) ls) (hnl:ls.length=nl) (d0:(a != 0)=false) (d1:(b != 0)=false) (d2:nl=0) (d3:nb=0) (d4:ne=0) (s1:op=65) (s2:-2147483648<=n) (s3:n<=2147483647) :
  dH 115 op a b n lo nl lc bo nb bc eo ne ec w λe w'=>e=.returned (.bool (idx a&&(idx b&&ls.all idx)))/\Below w.heap.size w w':=by
 have hlen:=hl.1;have HL:=ag hl;have HF:=ag hf;have bV:=ag hnl;rw [hnl] at hlen;clear hl hf hnl;subst d2;subst d3;subst d4;subst s1;have Kw:decide (n < -2147483648)=false:=by simp;omega
 have Ux:decide (2147483647<n)=false:=by simp;omega
 have i1:=ag λ(w:World)=>mG a w;have i2:=ag λ(w:World)=>mG b w;have i3:=ag λ(w':World) (h:Below w.heap.size w w')=>vH _ ls w' (HL.out.on h);generalize idx a=r1 at *;generalize idx b=r2 at *;generalize ls.all idx=r3 at *;go_enter func115,ntmps115;go_wp2_with fail;refine (bY _ _).mono ?_;rintro e u ⟨rfl,rfl⟩;rw [HF.out];go_wp2_with fail;refine (i1.out _).mono ?_;rintro e u ⟨rfl,rfl⟩;cases r1
 ·go_wp2;go_ret;exact ⟨rfl,(Below.refl _ w).alloc (aI _) _⟩
 go_wp2_with fail;refine (i2.out _).mono ?_;rintro e u ⟨rfl,rfl⟩;cases r2
 ·go_wp2;go_ret;exact ⟨rfl,(Below.refl _ w).alloc (aI _) _⟩
 go_wp2_with fail;refine (i3.out _ ((Below.refl _ w).alloc (aI _) _)).mono ?_;rintro e u ⟨rfl,rfl⟩;go_wp2;go_ret;exact ⟨rfl,(Below.refl _ w).alloc (aI _) _⟩
theorem Uz (op a b n:Int) (ls:List Int) (lo bo eo:Option Addr) (nl nb ne lc bc ec:Nat) (w:World) (hf:form op=10) (hl:Ints w (.slice lo nl lc) ls) (hnl:ls.length=nl) :
  dH 115 op a b n lo nl lc bo nb bc eo ne ec w λe w'=>e=.returned (.bool false)/\Below w.heap.size w w':=by
 have hlen:=hl.1;have HL:=ag hl;have HF:=ag hf;have bV:=ag hnl;rw [hnl] at hlen;clear hl hf hnl;go_enter func115,ntmps115;go_wp2_with fail;refine (bY _ _).mono ?_;rintro e u ⟨rfl,rfl⟩;rw [HF.out];go_wp2;go_ret;exact ⟨rfl,(Below.refl _ w).alloc (aI _) _⟩
end Go.Proofs.YtmfcojpjpgldhaaGreatDoor

/- Texts that the claim needs. -/
import Derived.Test.YtcfifbgemfladaaGreatDoorQDPa4
import Derived.Test.YtcfifbgemfladaaGreatDoorQDPa32
namespace Go.Proofs.YtcfifbgemfladaaGreatDoor
open Go.RowKit au Go.Proofs.Tryz
set_option linter.unusedVariables false
set_option maxHeartbeats 2000000
abbrev cG (f:FuncId) (op a b n:Int) (lo:Option Addr) (nl lc:Nat) (bo:Option Addr) (nb bc:Nat) (eo:Option Addr) (ne ec:Nat) (w:AG) (Q:Ending->AG->Prop):Prop:=Calls prog f #[.agg #[.int .i64 op,.int .i64 a,.int .i64 b,.int .i64 n,.slice lo nl lc,.slice bo nb bc,.slice eo ne ec]] w Q
namespace au
theorem BZ (op:Int) (h:form op≠9):op≠65/\op≠66:=by
 constructor
 ·rintro rfl;exact h (by decide)
 rintro rfl;exact h (by decide)
end au
theorem Yf (op a b n:Int) (ls:List Int) (lo bo eo:Option Addr) (nl nb ne lc bc ec:Nat) (w:AG) (hf:form op=0) (hl:Ints w (.slice lo nl lc) ls) (hnl:ls.length=nl) :
  cG 89 op a b n lo nl lc bo nb bc eo ne ec w λe w'=>e=.returned (.bool false)/\AS w w':=by
 have hlen:=hl.1;have HL:=ah hl;have HF:=ah hf;have cK:=ah hnl;rw [hnl] at hlen;clear hl hf hnl;go_enter func89,ntmps89;go_wp2_with fail;refine (bN _ _).mono ?_;rintro e u ⟨rfl,rfl⟩;rw [HF.out];go_wp2;go_ret;exact ⟨rfl,(AC _ w).alloc (aC _) _⟩
theorem Yg (op a b n:Int) (ls:List Int) (lo bo eo:Option Addr) (nl nb ne lc bc ec:Nat) (w:AG) (hf:form op=1) (hl:Ints w (.slice lo nl lc) ls) (hnl:ls.length=nl) (d0:(a != 0)=true) :
  cG 89 op a b n lo nl lc bo nb bc eo ne ec w λe w'=>e=.returned (.bool false)/\AS w w':=by
 have hlen:=hl.1;have HL:=ah hl;have HF:=ah hf;have cK:=ah hnl;rw [hnl] at hlen;clear hl hf hnl;go_enter func89,ntmps89;go_wp2_with fail;refine (bN _ _).mono ?_;rintro e u ⟨rfl,rfl⟩;rw [HF.out];go_wp2;go_ret;exact ⟨rfl,(AC _ w).alloc (aC _) _⟩
theorem Yh (op a b n:Int) (ls:List Int) (lo bo eo:Option Addr) (nl nb ne lc bc ec:Nat) (w:AG) (hf:form op=1) (hl:Ints w (.slice lo nl lc) ls) (hnl:ls.length=nl) (d0:(a != 0)=false) (d1:(b != 0)=true) :
  cG 89 op a b n lo nl lc bo nb bc eo ne ec w λe w'=>e=.returned (.bool false)/\AS w w':=by
 have hlen:=hl.1;have HL:=ah hl;have HF:=ah hf;have cK:=ah hnl;rw [hnl] at hlen;clear hl hf hnl;go_enter func89,ntmps89;go_wp2_with fail;refine (bN _ _).mono ?_;rintro e u ⟨rfl,rfl⟩;rw [HF.out];go_wp2;go_ret;exact ⟨rfl,(AC _ w).alloc (aC _) _⟩
theorem Yi (op a b n:Int) (ls:List Int) (lo bo eo:Option Addr) (nl nb ne lc bc ec:Nat) (w:AG) (hf:form op=1) (hl:Ints w (.slice lo nl lc) ls) (hnl:ls.length=nl) (d0:(a != 0)=false) (d1:(b != 0)=false) (d2:(n != 0)=true) :
  cG 89 op a b n lo nl lc bo nb bc eo ne ec w λe w'=>e=.returned (.bool false)/\AS w w':=by
 have hlen:=hl.1;have HL:=ah hl;have HF:=ah hf;have cK:=ah hnl;rw [hnl] at hlen;clear hl hf hnl;go_enter func89,ntmps89;go_wp2_with fail;refine (bN _ _).mono ?_;rintro e u ⟨rfl,rfl⟩;rw [HF.out];go_wp2;go_ret;exact ⟨rfl,(AC _ w).alloc (aC _) _⟩
theorem Yj (op a b n:Int) (ls:List Int) (lo bo eo:Option Addr) (nl nb ne lc bc ec:Nat) (w:AG) (hf:form op=1) (hl:Ints w (.slice lo nl lc) ls) (hnl:ls.length=nl) (d0:(a != 0)=false) (d1:(b != 0)=false) (d2:(n != 0)=false) (d3:0<nl) :
  cG 89 op a b n lo nl lc bo nb bc eo ne ec w λe w'=>e=.returned (.bool false)/\AS w w':=by
 have hlen:=hl.1;have HL:=ah hl;have HF:=ah hf;have cK:=ah hnl;rw [hnl] at hlen;clear hl hf hnl;have AZ:¬ nl=0:=by omega
 have A7:(0:Int)<(nl:Int):=by omega
 go_enter func89,ntmps89;go_wp2_with fail;refine (bN _ _).mono ?_;rintro e u ⟨rfl,rfl⟩;rw [HF.out];go_wp2;go_ret;exact ⟨rfl,(AC _ w).alloc (aC _) _⟩
theorem Yk (op a b n:Int) (ls:List Int) (lo bo eo:Option Addr) (nl nb ne lc bc ec:Nat) (w:AG) (hf:form op=1) (hl:Ints w (.slice lo nl lc) ls) (hnl:ls.length=nl) (d0:(a != 0)=false) (d1:(b != 0)=false) (d2:(n != 0)=false) (d3:nl=0) (d4:0<nb) :
  cG 89 op a b n lo nl lc bo nb bc eo ne ec w λe w'=>e=.returned (.bool false)/\AS w w':=by
 have hlen:=hl.1;have HL:=ah hl;have HF:=ah hf;have cK:=ah hnl;rw [hnl] at hlen;clear hl hf hnl;have Gr:¬ nb=0:=by omega
 have Gs:(0:Int)<(nb:Int):=by omega
 subst d3;go_enter func89,ntmps89;go_wp2_with fail;refine (bN _ _).mono ?_;rintro e u ⟨rfl,rfl⟩;rw [HF.out];go_wp2;go_ret;exact ⟨rfl,(AC _ w).alloc (aC _) _⟩
theorem Yl (op a b n:Int) (ls:List Int) (lo bo eo:Option Addr) (nl nb ne lc bc ec:Nat) (w:AG) (hf:form op=1) (hl:Ints w (.slice lo nl lc) ls) (hnl:ls.length=nl) (d0:(a != 0)=false) (d1:(b != 0)=false) (d2:(n != 0)=false) (d3:nl=0) (d4:nb=0) (d5:0<ne) :
  cG 89 op a b n lo nl lc bo nb bc eo ne ec w λe w'=>e=.returned (.bool false)/\AS w w':=by
 have hlen:=hl.1;have HL:=ah hl;have HF:=ah hf;have cK:=ah hnl;rw [hnl] at hlen;clear hl hf hnl;have d5a:¬ ne=0:=by omega
 have d5b:(0:Int)<(ne:Int):=by omega
 subst d3;subst d4;go_enter func89,ntmps89;go_wp2_with fail;refine (bN _ _).mono ?_;rintro e u ⟨rfl,rfl⟩;rw [HF.out];go_wp2;go_ret;exact ⟨rfl,(AC _ w).alloc (aC _) _⟩
theorem Ym (op a b n:Int) (ls:List Int) (lo bo eo:Option Addr) (nl nb ne lc bc ec:Nat) (w:AG) (hf:form op=1) (hl:Ints w (.slice lo nl lc) ls) (hnl:ls.length=nl) (d0:(a != 0)=false) (d1:(b != 0)=false) (d2:(n != 0)=false) (d3:nl=0) (d4:nb=0) (d5:ne=0) (s1:¬ op=65) :
  cG 89 op a b n lo nl lc bo nb bc eo ne ec w λe w'=>e=.returned (.bool (idx a&&(idx b&&ls.all idx)))/\AS w w':=by
 have hlen:=hl.1;have HL:=ah hl;have HF:=ah hf;have cK:=ah hnl;rw [hnl] at hlen;clear hl hf hnl;subst d3;subst d4;subst d5;have B0:(op==65)=false:=by simp [s1]
 have i1:=ah λ(w:AG)=>mf a w;have i2:=ah λ(w:AG)=>mf b w;have i3:=ah λ(w':AG) (h:AS w w')=>xb _ ls w' (HL.out.on h);generalize idx a=r1 at *;generalize idx b=r2 at *;generalize ls.all idx=r3 at *;go_enter func89,ntmps89;go_wp2_with fail;refine (bN _ _).mono ?_;rintro e u ⟨rfl,rfl⟩;rw [HF.out];go_wp2_with fail;refine (i1.out _).mono ?_;rintro e u ⟨rfl,rfl⟩;cases r1
 ·go_wp2;go_ret;exact ⟨rfl,(AC _ w).alloc (aC _) _⟩
 go_wp2_with fail;refine (i2.out _).mono ?_;rintro e u ⟨rfl,rfl⟩;cases r2
 ·go_wp2;go_ret;exact ⟨rfl,(AC _ w).alloc (aC _) _⟩
 go_wp2_with fail;refine (i3.out _ ((AC _ w).alloc (aC _) _)).mono ?_;rintro e u ⟨rfl,rfl⟩;go_wp2;go_ret;exact ⟨rfl,(AC _ w).alloc (aC _) _⟩
theorem Yn (op a b n:Int) (ls:List Int) (lo bo eo:Option Addr) (nl nb ne lc bc ec:Nat) (w:AG) (hf:form op=2) (hl:Ints w (.slice lo nl lc) ls) (hnl:ls.length=nl) (d0:(b != 0)=true) :
  cG 89 op a b n lo nl lc bo nb bc eo ne ec w λe w'=>e=.returned (.bool false)/\AS w w':=by
 have hlen:=hl.1;have HL:=ah hl;have HF:=ah hf;have cK:=ah hnl;rw [hnl] at hlen;clear hl hf hnl;go_enter func89,ntmps89;go_wp2_with fail;refine (bN _ _).mono ?_;rintro e u ⟨rfl,rfl⟩;rw [HF.out];go_wp2;go_ret;exact ⟨rfl,(AC _ w).alloc (aC _) _⟩
theorem Yo (op a b n:Int) (ls:List Int) (lo bo eo:Option Addr) (nl nb ne lc bc ec:Nat) (w:AG) (hf:form op=2) (hl:Ints w (.slice lo nl lc) ls) (hnl:ls.length=nl) (d0:(b != 0)=false) (d1:(n != 0)=true) :
  cG 89 op a b n lo nl lc bo nb bc eo ne ec w λe w'=>e=.returned (.bool false)/\AS w w':=by
 have hlen:=hl.1;have HL:=ah hl;have HF:=ah hf;have cK:=ah hnl;rw [hnl] at hlen;clear hl hf hnl;go_enter func89,ntmps89;go_wp2_with fail;refine (bN _ _).mono ?_;rintro e u ⟨rfl,rfl⟩;rw [HF.out];go_wp2;go_ret;exact ⟨rfl,(AC _ w).alloc (aC _) _⟩
theorem Yp (op a b n:Int) (ls:List Int) (lo bo eo:Option Addr) (nl nb ne lc bc ec:Nat) (w:AG) (hf:form op=2) (hl:Ints w (.slice lo nl lc) ls) (hnl:ls.length=nl) (d0:(b != 0)=false) (d1:(n != 0)=false) (d2:0<nl) :
  cG 89 op a b n lo nl lc bo nb bc eo ne ec w λe w'=>e=.returned (.bool false)/\AS w w':=by
 have hlen:=hl.1;have HL:=ah hl;have HF:=ah hf;have cK:=ah hnl;rw [hnl] at hlen;clear hl hf hnl;have A8:¬ nl=0:=by omega
 have A9:(0:Int)<(nl:Int):=by omega
 go_enter func89,ntmps89;go_wp2_with fail;refine (bN _ _).mono ?_;rintro e u ⟨rfl,rfl⟩;rw [HF.out];go_wp2;go_ret;exact ⟨rfl,(AC _ w).alloc (aC _) _⟩
theorem Yq (op a b n:Int) (ls:List Int) (lo bo eo:Option Addr) (nl nb ne lc bc ec:Nat) (w:AG) (hf:form op=2) (hl:Ints w (.slice lo nl lc) ls) (hnl:ls.length=nl) (d0:(b != 0)=false) (d1:(n != 0)=false) (d2:nl=0) (d3:0<ne) :
  cG 89 op a b n lo nl lc bo nb bc eo ne ec w λe w'=>e=.returned (.bool false)/\AS w w':=by
 have hlen:=hl.1;have HL:=ah hl;have HF:=ah hf;have cK:=ah hnl;rw [hnl] at hlen;clear hl hf hnl;have AZ:¬ ne=0:=by omega
 have A7:(0:Int)<(ne:Int):=by omega
 subst d2;go_enter func89,ntmps89;go_wp2_with fail;refine (bN _ _).mono ?_;rintro e u ⟨rfl,rfl⟩;rw [HF.out];go_wp2;go_ret;exact ⟨rfl,(AC _ w).alloc (aC _) _⟩
theorem Yr (op a b n:Int) (ls:List Int) (lo bo eo:Option Addr) (nl nb ne lc bc ec:Nat) (w:AG) (hf:form op=2) (hl:Ints w (.slice lo nl lc) ls) (hnl:ls.length=nl) (d0:(b != 0)=false) (d1:(n != 0)=false) (d2:nl=0) (d3:ne=0) (e1:(a==0)=true) :
  cG 89 op a b n lo nl lc bo nb bc eo ne ec w λe w'=>e=.returned (.bool true)/\AS w w':=by
 have hlen:=hl.1;have HL:=ah hl;have HF:=ah hf;have cK:=ah hnl;rw [hnl] at hlen;clear hl hf hnl;subst d2;subst d3;go_enter func89,ntmps89;go_wp2_with fail;refine (bN _ _).mono ?_;rintro e u ⟨rfl,rfl⟩;rw [HF.out];go_wp2;go_ret;exact ⟨rfl,(AC _ w).alloc (aC _) _⟩
theorem Yt (op a b n:Int) (ls:List Int) (lo bo eo:Option Addr) (nl nb ne lc bc ec:Nat) (w:AG) (hf:form op=2) (hl:Ints w (.slice lo nl lc) ls) (hnl:ls.length=nl) (d0:(b != 0)=false) (d1:(n != 0)=false) (d2:nl=0) (d3:ne=0) (e1:(a==0)=false) (e2:(a==126)=true) :
  cG 89 op a b n lo nl lc bo nb bc eo ne ec w λe w'=>e=.returned (.bool true)/\AS w w':=by
 have hlen:=hl.1;have HL:=ah hl;have HF:=ah hf;have cK:=ah hnl;rw [hnl] at hlen;clear hl hf hnl;subst d2;subst d3;go_enter func89,ntmps89;go_wp2_with fail;refine (bN _ _).mono ?_;rintro e u ⟨rfl,rfl⟩;rw [HF.out];go_wp2;go_ret;exact ⟨rfl,(AC _ w).alloc (aC _) _⟩
theorem Yu (op a b n:Int) (ls:List Int) (lo bo eo:Option Addr) (nl nb ne lc bc ec:Nat) (w:AG) (hf:form op=2) (hl:Ints w (.slice lo nl lc) ls) (hnl:ls.length=nl) (d0:(b != 0)=false) (d1:(n != 0)=false) (d2:nl=0) (d3:ne=0) (e1:(a==0)=false) (e2:(a==126)=false) :
  cG 89 op a b n lo nl lc bo nb bc eo ne ec w λe w'=>e=.returned (.bool (a==127))/\AS w w':=by
 have hlen:=hl.1;have HL:=ah hl;have HF:=ah hf;have cK:=ah hnl;rw [hnl] at hlen;clear hl hf hnl;subst d2;subst d3;go_enter func89,ntmps89;go_wp2_with fail;refine (bN _ _).mono ?_;rintro e u ⟨rfl,rfl⟩;rw [HF.out];go_wp2;go_ret;exact ⟨rfl,(AC _ w).alloc (aC _) _⟩
theorem Yv (op a b n:Int) (ls:List Int) (lo bo eo:Option Addr) (nl nb ne lc bc ec:Nat) (w:AG) (hf:form op=3) (hl:Ints w (.slice lo nl lc) ls) (hnl:ls.length=nl) (d0:(b != 0)=true) :
  cG 89 op a b n lo nl lc bo nb bc eo ne ec w λe w'=>e=.returned (.bool false)/\AS w w':=by
 have hlen:=hl.1;have HL:=ah hl;have HF:=ah hf;have cK:=ah hnl;rw [hnl] at hlen;clear hl hf hnl;go_enter func89,ntmps89;go_wp2_with fail;refine (bN _ _).mono ?_;rintro e u ⟨rfl,rfl⟩;rw [HF.out];go_wp2;go_ret;exact ⟨rfl,(AC _ w).alloc (aC _) _⟩
theorem Yw (op a b n:Int) (ls:List Int) (lo bo eo:Option Addr) (nl nb ne lc bc ec:Nat) (w:AG) (hf:form op=3) (hl:Ints w (.slice lo nl lc) ls) (hnl:ls.length=nl) (d0:(b != 0)=false) (d1:(n != 0)=true) :
  cG 89 op a b n lo nl lc bo nb bc eo ne ec w λe w'=>e=.returned (.bool false)/\AS w w':=by
 have hlen:=hl.1;have HL:=ah hl;have HF:=ah hf;have cK:=ah hnl;rw [hnl] at hlen;clear hl hf hnl;go_enter func89,ntmps89;go_wp2_with fail;refine (bN _ _).mono ?_;rintro e u ⟨rfl,rfl⟩;rw [HF.out];go_wp2;go_ret;exact ⟨rfl,(AC _ w).alloc (aC _) _⟩
theorem Yx (op a b n:Int) (ls:List Int) (lo bo eo:Option Addr) (nl nb ne lc bc ec:Nat) (w:AG) (hf:form op=3) (hl:Ints w (.slice lo nl lc) ls) (hnl:ls.length=nl) (d0:(b != 0)=false) (d1:(n != 0)=false) (d2:0<nl) :
  cG 89 op a b n lo nl lc bo nb bc eo ne ec w λe w'=>e=.returned (.bool false)/\AS w w':=by
 have hlen:=hl.1;have HL:=ah hl;have HF:=ah hf;have cK:=ah hnl;rw [hnl] at hlen;clear hl hf hnl;have A8:¬ nl=0:=by omega
 have A9:(0:Int)<(nl:Int):=by omega
 go_enter func89,ntmps89;go_wp2_with fail;refine (bN _ _).mono ?_;rintro e u ⟨rfl,rfl⟩;rw [HF.out];go_wp2;go_ret;exact ⟨rfl,(AC _ w).alloc (aC _) _⟩
theorem Yy (op a b n:Int) (ls:List Int) (lo bo eo:Option Addr) (nl nb ne lc bc ec:Nat) (w:AG) (hf:form op=3) (hl:Ints w (.slice lo nl lc) ls) (hnl:ls.length=nl) (d0:(b != 0)=false) (d1:(n != 0)=false) (d2:nl=0) (e1:(a==0)=true) :
  cG 89 op a b n lo nl lc bo nb bc eo ne ec w λe w'=>e=.returned (.bool true)/\AS w w':=by
 have hlen:=hl.1;have HL:=ah hl;have HF:=ah hf;have cK:=ah hnl;rw [hnl] at hlen;clear hl hf hnl;subst d2;go_enter func89,ntmps89;go_wp2_with fail;refine (bN _ _).mono ?_;rintro e u ⟨rfl,rfl⟩;rw [HF.out];go_wp2;go_ret;exact ⟨rfl,(AC _ w).alloc (aC _) _⟩
theorem Yz (op a b n:Int) (ls:List Int) (lo bo eo:Option Addr) (nl nb ne lc bc ec:Nat) (w:AG) (hf:form op=3) (hl:Ints w (.slice lo nl lc) ls) (hnl:ls.length=nl) (d0:(b != 0)=false) (d1:(n != 0)=false) (d2:nl=0) (e1:(a==0)=false) (e2:(a==126)=true) :
  cG 89 op a b n lo nl lc bo nb bc eo ne ec w λe w'=>e=.returned (.bool true)/\AS w w':=by
 have hlen:=hl.1;have HL:=ah hl;have HF:=ah hf;have cK:=ah hnl;rw [hnl] at hlen;clear hl hf hnl;subst d2;go_enter func89,ntmps89;go_wp2_with fail;refine (bN _ _).mono ?_;rintro e u ⟨rfl,rfl⟩;rw [HF.out];go_wp2;go_ret;exact ⟨rfl,(AC _ w).alloc (aC _) _⟩
theorem YA (op a b n:Int) (ls:List Int) (lo bo eo:Option Addr) (nl nb ne lc bc ec:Nat) (w:AG) (hf:form op=3) (hl:Ints w (.slice lo nl lc) ls) (hnl:ls.length=nl) (d0:(b != 0)=false) (d1:(n != 0)=false) (d2:nl=0) (e1:(a==0)=false) (e2:(a==126)=false) :
  cG 89 op a b n lo nl lc bo nb bc eo ne ec w λe w'=>e=.returned (.bool (a==127))/\AS w w':=by
 have hlen:=hl.1;have HL:=ah hl;have HF:=ah hf;have cK:=ah hnl;rw [hnl] at hlen;clear hl hf hnl;subst d2;go_enter func89,ntmps89;go_wp2_with fail;refine (bN _ _).mono ?_;rintro e u ⟨rfl,rfl⟩;rw [HF.out];go_wp2;go_ret;exact ⟨rfl,(AC _ w).alloc (aC _) _⟩
theorem YB (op a b n:Int) (ls:List Int) (lo bo eo:Option Addr) (nl nb ne lc bc ec:Nat) (w:AG) (hf:form op=4) (hl:Ints w (.slice lo nl lc) ls) (hnl:ls.length=nl) (d0:(b != 0)=true) :
  cG 89 op a b n lo nl lc bo nb bc eo ne ec w λe w'=>e=.returned (.bool false)/\AS w w':=by
 have hlen:=hl.1;have HL:=ah hl;have HF:=ah hf;have cK:=ah hnl;rw [hnl] at hlen;clear hl hf hnl;go_enter func89,ntmps89;go_wp2_with fail;refine (bN _ _).mono ?_;rintro e u ⟨rfl,rfl⟩;rw [HF.out];go_wp2;go_ret;exact ⟨rfl,(AC _ w).alloc (aC _) _⟩
theorem YC (op a b n:Int) (ls:List Int) (lo bo eo:Option Addr) (nl nb ne lc bc ec:Nat) (w:AG) (hf:form op=4) (hl:Ints w (.slice lo nl lc) ls) (hnl:ls.length=nl) (d0:(b != 0)=false) (d1:(n != 0)=true) :
  cG 89 op a b n lo nl lc bo nb bc eo ne ec w λe w'=>e=.returned (.bool false)/\AS w w':=by
 have hlen:=hl.1;have HL:=ah hl;have HF:=ah hf;have cK:=ah hnl;rw [hnl] at hlen;clear hl hf hnl;go_enter func89,ntmps89;go_wp2_with fail;refine (bN _ _).mono ?_;rintro e u ⟨rfl,rfl⟩;rw [HF.out];go_wp2;go_ret;exact ⟨rfl,(AC _ w).alloc (aC _) _⟩
theorem YD (op a b n:Int) (ls:List Int) (lo bo eo:Option Addr) (nl nb ne lc bc ec:Nat) (w:AG) (hf:form op=4) (hl:Ints w (.slice lo nl lc) ls) (hnl:ls.length=nl) (d0:(b != 0)=false) (d1:(n != 0)=false) (d2:0<nl) :
  cG 89 op a b n lo nl lc bo nb bc eo ne ec w λe w'=>e=.returned (.bool false)/\AS w w':=by
 have hlen:=hl.1;have HL:=ah hl;have HF:=ah hf;have cK:=ah hnl;rw [hnl] at hlen;clear hl hf hnl;have A8:¬ nl=0:=by omega
 have A9:(0:Int)<(nl:Int):=by omega
 go_enter func89,ntmps89;go_wp2_with fail;refine (bN _ _).mono ?_;rintro e u ⟨rfl,rfl⟩;rw [HF.out];go_wp2;go_ret;exact ⟨rfl,(AC _ w).alloc (aC _) _⟩
theorem YE (op a b n:Int) (ls:List Int) (lo bo eo:Option Addr) (nl nb ne lc bc ec:Nat) (w:AG) (hf:form op=4) (hl:Ints w (.slice lo nl lc) ls) (hnl:ls.length=nl) (d0:(b != 0)=false) (d1:(n != 0)=false) (d2:nl=0) (d3:0<nb) :
  cG 89 op a b n lo nl lc bo nb bc eo ne ec w λe w'=>e=.returned (.bool false)/\AS w w':=by
 have hlen:=hl.1;have HL:=ah hl;have HF:=ah hf;have cK:=ah hnl;rw [hnl] at hlen;clear hl hf hnl;have AZ:¬ nb=0:=by omega
 have A7:(0:Int)<(nb:Int):=by omega
 subst d2;go_enter func89,ntmps89;go_wp2_with fail;refine (bN _ _).mono ?_;rintro e u ⟨rfl,rfl⟩;rw [HF.out];go_wp2;go_ret;exact ⟨rfl,(AC _ w).alloc (aC _) _⟩
theorem YF (op a b n:Int) (ls:List Int) (lo bo eo:Option Addr) (nl nb ne lc bc ec:Nat) (w:AG) (hf:form op=4) (hl:Ints w (.slice lo nl lc) ls) (hnl:ls.length=nl) (d0:(b != 0)=false) (d1:(n != 0)=false) (d2:nl=0) (d3:nb=0) (d4:0<ne) :
  cG 89 op a b n lo nl lc bo nb bc eo ne ec w λe w'=>e=.returned (.bool false)/\AS w w':=by
 have hlen:=hl.1;have HL:=ah hl;have HF:=ah hf;have cK:=ah hnl;rw [hnl] at hlen;clear hl hf hnl;have Gr:¬ ne=0:=by omega
 have Gs:(0:Int)<(ne:Int):=by omega
 subst d2;subst d3;go_enter func89,ntmps89;go_wp2_with fail;refine (bN _ _).mono ?_;rintro e u ⟨rfl,rfl⟩;rw [HF.out];go_wp2;go_ret;exact ⟨rfl,(AC _ w).alloc (aC _) _⟩
theorem YG (op a b n:Int) (ls:List Int) (lo bo eo:Option Addr) (nl nb ne lc bc ec:Nat) (w:AG) (hf:form op=4) (hl:Ints w (.slice lo nl lc) ls) (hnl:ls.length=nl) (d0:(b != 0)=false) (d1:(n != 0)=false) (d2:nl=0) (d3:nb=0) (d4:ne=0) (s1:¬ op=65) :
  cG 89 op a b n lo nl lc bo nb bc eo ne ec w λe w'=>e=.returned (.bool (idx a&&(idx b&&ls.all idx)))/\AS w w':=by
 have hlen:=hl.1;have HL:=ah hl;have HF:=ah hf;have cK:=ah hnl;rw [hnl] at hlen;clear hl hf hnl;subst d2;subst d3;subst d4;have B0:(op==65)=false:=by simp [s1]
 have i1:=ah λ(w:AG)=>mf a w;have i2:=ah λ(w:AG)=>mf b w;have i3:=ah λ(w':AG) (h:AS w w')=>xb _ ls w' (HL.out.on h);generalize idx a=r1 at *;generalize idx b=r2 at *;generalize ls.all idx=r3 at *;go_enter func89,ntmps89;go_wp2_with fail;refine (bN _ _).mono ?_;rintro e u ⟨rfl,rfl⟩;rw [HF.out];go_wp2_with fail;refine (i1.out _).mono ?_;rintro e u ⟨rfl,rfl⟩;cases r1
 ·go_wp2;go_ret;exact ⟨rfl,(AC _ w).alloc (aC _) _⟩
 go_wp2_with fail;refine (i2.out _).mono ?_;rintro e u ⟨rfl,rfl⟩;cases r2
 ·go_wp2;go_ret;exact ⟨rfl,(AC _ w).alloc (aC _) _⟩
 go_wp2_with fail;refine (i3.out _ ((AC _ w).alloc (aC _) _)).mono ?_;rintro e u ⟨rfl,rfl⟩;go_wp2;go_ret;exact ⟨rfl,(AC _ w).alloc (aC _) _⟩
theorem YH (op a b n:Int) (ls:List Int) (lo bo eo:Option Addr) (nl nb ne lc bc ec:Nat) (w:AG) (hf:form op=5) (hl:Ints w (.slice lo nl lc) ls) (hnl:ls.length=nl) (d0:(b != 0)=true) :
  cG 89 op a b n lo nl lc bo nb bc eo ne ec w λe w'=>e=.returned (.bool false)/\AS w w':=by
 have hlen:=hl.1;have HL:=ah hl;have HF:=ah hf;have cK:=ah hnl;rw [hnl] at hlen;clear hl hf hnl;go_enter func89,ntmps89;go_wp2_with fail;refine (bN _ _).mono ?_;rintro e u ⟨rfl,rfl⟩;rw [HF.out];go_wp2;go_ret;exact ⟨rfl,(AC _ w).alloc (aC _) _⟩
theorem YI (op a b n:Int) (ls:List Int) (lo bo eo:Option Addr) (nl nb ne lc bc ec:Nat) (w:AG) (hf:form op=5) (hl:Ints w (.slice lo nl lc) ls) (hnl:ls.length=nl) (d0:(b != 0)=false) (d1:(n != 0)=true) :
  cG 89 op a b n lo nl lc bo nb bc eo ne ec w λe w'=>e=.returned (.bool false)/\AS w w':=by
 have hlen:=hl.1;have HL:=ah hl;have HF:=ah hf;have cK:=ah hnl;rw [hnl] at hlen;clear hl hf hnl;go_enter func89,ntmps89;go_wp2_with fail;refine (bN _ _).mono ?_;rintro e u ⟨rfl,rfl⟩;rw [HF.out];go_wp2;go_ret;exact ⟨rfl,(AC _ w).alloc (aC _) _⟩
theorem YJ (op a b n:Int) (ls:List Int) (lo bo eo:Option Addr) (nl nb ne lc bc ec:Nat) (w:AG) (hf:form op=5) (hl:Ints w (.slice lo nl lc) ls) (hnl:ls.length=nl) (d0:(b != 0)=false) (d1:(n != 0)=false) (d2:0<nb) :
  cG 89 op a b n lo nl lc bo nb bc eo ne ec w λe w'=>e=.returned (.bool false)/\AS w w':=by
 have hlen:=hl.1;have HL:=ah hl;have HF:=ah hf;have cK:=ah hnl;rw [hnl] at hlen;clear hl hf hnl;have A8:¬ nb=0:=by omega
 have A9:(0:Int)<(nb:Int):=by omega
 go_enter func89,ntmps89;go_wp2_with fail;refine (bN _ _).mono ?_;rintro e u ⟨rfl,rfl⟩;rw [HF.out];go_wp2;go_ret;exact ⟨rfl,(AC _ w).alloc (aC _) _⟩
theorem YK (op a b n:Int) (ls:List Int) (lo bo eo:Option Addr) (nl nb ne lc bc ec:Nat) (w:AG) (hf:form op=5) (hl:Ints w (.slice lo nl lc) ls) (hnl:ls.length=nl) (d0:(b != 0)=false) (d1:(n != 0)=false) (d2:nb=0) (d3:0<ne) :
  cG 89 op a b n lo nl lc bo nb bc eo ne ec w λe w'=>e=.returned (.bool false)/\AS w w':=by
 have hlen:=hl.1;have HL:=ah hl;have HF:=ah hf;have cK:=ah hnl;rw [hnl] at hlen;clear hl hf hnl;have AZ:¬ ne=0:=by omega
 have A7:(0:Int)<(ne:Int):=by omega
 subst d2;go_enter func89,ntmps89;go_wp2_with fail;refine (bN _ _).mono ?_;rintro e u ⟨rfl,rfl⟩;rw [HF.out];go_wp2;go_ret;exact ⟨rfl,(AC _ w).alloc (aC _) _⟩
theorem YL (op a b n:Int) (ls:List Int) (lo bo eo:Option Addr) (nl nb ne lc bc ec:Nat) (w:AG) (hf:form op=5) (hl:Ints w (.slice lo nl lc) ls) (hnl:ls.length=nl) (d0:(b != 0)=false) (d1:(n != 0)=false) (d2:nb=0) (d3:ne=0) (s1:¬ op=65) :
  cG 89 op a b n lo nl lc bo nb bc eo ne ec w λe w'=>e=.returned (.bool (idx a&&(idx b&&ls.all idx)))/\AS w w':=by
 have hlen:=hl.1;have HL:=ah hl;have HF:=ah hf;have cK:=ah hnl;rw [hnl] at hlen;clear hl hf hnl;subst d2;subst d3;have B0:(op==65)=false:=by simp [s1]
 have i1:=ah λ(w:AG)=>mf a w;have i2:=ah λ(w:AG)=>mf b w;have i3:=ah λ(w':AG) (h:AS w w')=>xb _ ls w' (HL.out.on h);generalize idx a=r1 at *;generalize idx b=r2 at *;generalize ls.all idx=r3 at *;go_enter func89,ntmps89;go_wp2_with fail;refine (bN _ _).mono ?_;rintro e u ⟨rfl,rfl⟩;rw [HF.out];go_wp2_with fail;refine (i1.out _).mono ?_;rintro e u ⟨rfl,rfl⟩;cases r1
 ·go_wp2;go_ret;exact ⟨rfl,(AC _ w).alloc (aC _) _⟩
 go_wp2_with fail;refine (i2.out _).mono ?_;rintro e u ⟨rfl,rfl⟩;cases r2
 ·go_wp2;go_ret;exact ⟨rfl,(AC _ w).alloc (aC _) _⟩
 go_wp2_with fail;refine (i3.out _ ((AC _ w).alloc (aC _) _)).mono ?_;rintro e u ⟨rfl,rfl⟩;go_wp2;go_ret;exact ⟨rfl,(AC _ w).alloc (aC _) _⟩
theorem YM (op a b n:Int) (ls:List Int) (lo bo eo:Option Addr) (nl nb ne lc bc ec:Nat) (w:AG) (hf:form op=6) (hl:Ints w (.slice lo nl lc) ls) (hnl:ls.length=nl) (d0:(b != 0)=true) :
  cG 89 op a b n lo nl lc bo nb bc eo ne ec w λe w'=>e=.returned (.bool false)/\AS w w':=by
 have hlen:=hl.1;have HL:=ah hl;have HF:=ah hf;have cK:=ah hnl;rw [hnl] at hlen;clear hl hf hnl;go_enter func89,ntmps89;go_wp2_with fail;refine (bN _ _).mono ?_;rintro e u ⟨rfl,rfl⟩;rw [HF.out];go_wp2;go_ret;exact ⟨rfl,(AC _ w).alloc (aC _) _⟩
theorem YN (op a b n:Int) (ls:List Int) (lo bo eo:Option Addr) (nl nb ne lc bc ec:Nat) (w:AG) (hf:form op=6) (hl:Ints w (.slice lo nl lc) ls) (hnl:ls.length=nl) (d0:(b != 0)=false) (d1:(n != 0)=true) :
  cG 89 op a b n lo nl lc bo nb bc eo ne ec w λe w'=>e=.returned (.bool false)/\AS w w':=by
 have hlen:=hl.1;have HL:=ah hl;have HF:=ah hf;have cK:=ah hnl;rw [hnl] at hlen;clear hl hf hnl;go_enter func89,ntmps89;go_wp2_with fail;refine (bN _ _).mono ?_;rintro e u ⟨rfl,rfl⟩;rw [HF.out];go_wp2;go_ret;exact ⟨rfl,(AC _ w).alloc (aC _) _⟩
theorem YO (op a b n:Int) (ls:List Int) (lo bo eo:Option Addr) (nl nb ne lc bc ec:Nat) (w:AG) (hf:form op=6) (hl:Ints w (.slice lo nl lc) ls) (hnl:ls.length=nl) (d0:(b != 0)=false) (d1:(n != 0)=false) (d2:0<nl) :
  cG 89 op a b n lo nl lc bo nb bc eo ne ec w λe w'=>e=.returned (.bool false)/\AS w w':=by
 have hlen:=hl.1;have HL:=ah hl;have HF:=ah hf;have cK:=ah hnl;rw [hnl] at hlen;clear hl hf hnl;have A8:¬ nl=0:=by omega
 have A9:(0:Int)<(nl:Int):=by omega
 go_enter func89,ntmps89;go_wp2_with fail;refine (bN _ _).mono ?_;rintro e u ⟨rfl,rfl⟩;rw [HF.out];go_wp2;go_ret;exact ⟨rfl,(AC _ w).alloc (aC _) _⟩
theorem YP (op a b n:Int) (ls:List Int) (lo bo eo:Option Addr) (nl nb ne lc bc ec:Nat) (w:AG) (hf:form op=6) (hl:Ints w (.slice lo nl lc) ls) (hnl:ls.length=nl) (d0:(b != 0)=false) (d1:(n != 0)=false) (d2:nl=0) (d3:0<nb) :
  cG 89 op a b n lo nl lc bo nb bc eo ne ec w λe w'=>e=.returned (.bool false)/\AS w w':=by
 have hlen:=hl.1;have HL:=ah hl;have HF:=ah hf;have cK:=ah hnl;rw [hnl] at hlen;clear hl hf hnl;have AZ:¬ nb=0:=by omega
 have A7:(0:Int)<(nb:Int):=by omega
 subst d2;go_enter func89,ntmps89;go_wp2_with fail;refine (bN _ _).mono ?_;rintro e u ⟨rfl,rfl⟩;rw [HF.out];go_wp2;go_ret;exact ⟨rfl,(AC _ w).alloc (aC _) _⟩
theorem YQ (op a b n:Int) (ls:List Int) (lo bo eo:Option Addr) (nl nb ne lc bc ec:Nat) (w:AG) (hf:form op=6) (hl:Ints w (.slice lo nl lc) ls) (hnl:ls.length=nl) (d0:(b != 0)=false) (d1:(n != 0)=false) (d2:nl=0) (d3:nb=0) (d4:0<ne) :
  cG 89 op a b n lo nl lc bo nb bc eo ne ec w λe w'=>e=.returned (.bool false)/\AS w w':=by
 have hlen:=hl.1;have HL:=ah hl;have HF:=ah hf;have cK:=ah hnl;rw [hnl] at hlen;clear hl hf hnl;have Gr:¬ ne=0:=by omega
 have Gs:(0:Int)<(ne:Int):=by omega
 subst d2;subst d3;go_enter func89,ntmps89;go_wp2_with fail;refine (bN _ _).mono ?_;rintro e u ⟨rfl,rfl⟩;rw [HF.out];go_wp2;go_ret;exact ⟨rfl,(AC _ w).alloc (aC _) _⟩
theorem YR (op a b n:Int) (ls:List Int) (lo bo eo:Option Addr) (nl nb ne lc bc ec:Nat) (w:AG) (hf:form op=6) (hl:Ints w (.slice lo nl lc) ls) (hnl:ls.length=nl) (d0:(b != 0)=false) (d1:(n != 0)=false) (d2:nl=0) (d3:nb=0) (d4:ne=0) (s1:¬ op=65) :
  cG 89 op a b n lo nl lc bo nb bc eo ne ec w λe w'=>e=.returned (.bool (idx a&&(idx b&&ls.all idx)))/\AS w w':=by
 have hlen:=hl.1;have HL:=ah hl;have HF:=ah hf;have cK:=ah hnl;rw [hnl] at hlen;clear hl hf hnl;subst d2;subst d3;subst d4;have B0:(op==65)=false:=by simp [s1]
 have i1:=ah λ(w:AG)=>mf a w;have i2:=ah λ(w:AG)=>mf b w;have i3:=ah λ(w':AG) (h:AS w w')=>xb _ ls w' (HL.out.on h);generalize idx a=r1 at *;generalize idx b=r2 at *;generalize ls.all idx=r3 at *;go_enter func89,ntmps89;go_wp2_with fail;refine (bN _ _).mono ?_;rintro e u ⟨rfl,rfl⟩;rw [HF.out];go_wp2_with fail;refine (i1.out _).mono ?_;rintro e u ⟨rfl,rfl⟩;cases r1
 ·go_wp2;go_ret;exact ⟨rfl,(AC _ w).alloc (aC _) _⟩
 go_wp2_with fail;refine (i2.out _).mono ?_;rintro e u ⟨rfl,rfl⟩;cases r2
 ·go_wp2;go_ret;exact ⟨rfl,(AC _ w).alloc (aC _) _⟩
 go_wp2_with fail;refine (i3.out _ ((AC _ w).alloc (aC _) _)).mono ?_;rintro e u ⟨rfl,rfl⟩;go_wp2;go_ret;exact ⟨rfl,(AC _ w).alloc (aC _) _⟩
theorem YS (op a b n:Int) (ls:List Int) (lo bo eo:Option Addr) (nl nb ne lc bc ec:Nat) (w:AG) (hf:form op=7) (hl:Ints w (.slice lo nl lc) ls) (hnl:ls.length=nl) (d0:(b != 0)=true) :
  cG 89 op a b n lo nl lc bo nb bc eo ne ec w λe w'=>e=.returned (.bool false)/\AS w w':=by
 have hlen:=hl.1;have HL:=ah hl;have HF:=ah hf;have cK:=ah hnl;rw [hnl] at hlen;clear hl hf hnl;go_enter func89,ntmps89;go_wp2_with fail;refine (bN _ _).mono ?_;rintro e u ⟨rfl,rfl⟩;rw [HF.out];go_wp2;go_ret;exact ⟨rfl,(AC _ w).alloc (aC _) _⟩
theorem YT (op a b n:Int) (ls:List Int) (lo bo eo:Option Addr) (nl nb ne lc bc ec:Nat) (w:AG) (hf:form op=7) (hl:Ints w (.slice lo nl lc) ls) (hnl:ls.length=nl) (d0:(b != 0)=false) (d1:(n != 0)=true) :
  cG 89 op a b n lo nl lc bo nb bc eo ne ec w λe w'=>e=.returned (.bool false)/\AS w w':=by
 have hlen:=hl.1;have HL:=ah hl;have HF:=ah hf;have cK:=ah hnl;rw [hnl] at hlen;clear hl hf hnl;go_enter func89,ntmps89;go_wp2_with fail;refine (bN _ _).mono ?_;rintro e u ⟨rfl,rfl⟩;rw [HF.out];go_wp2;go_ret;exact ⟨rfl,(AC _ w).alloc (aC _) _⟩
theorem YU (op a b n:Int) (ls:List Int) (lo bo eo:Option Addr) (nl nb ne lc bc ec:Nat) (w:AG) (hf:form op=7) (hl:Ints w (.slice lo nl lc) ls) (hnl:ls.length=nl) (d0:(b != 0)=false) (d1:(n != 0)=false) (d2:0<nl) :
  cG 89 op a b n lo nl lc bo nb bc eo ne ec w λe w'=>e=.returned (.bool false)/\AS w w':=by
 have hlen:=hl.1;have HL:=ah hl;have HF:=ah hf;have cK:=ah hnl;rw [hnl] at hlen;clear hl hf hnl;have A8:¬ nl=0:=by omega
 have A9:(0:Int)<(nl:Int):=by omega
 go_enter func89,ntmps89;go_wp2_with fail;refine (bN _ _).mono ?_;rintro e u ⟨rfl,rfl⟩;rw [HF.out];go_wp2;go_ret;exact ⟨rfl,(AC _ w).alloc (aC _) _⟩
theorem YV (op a b n:Int) (ls:List Int) (lo bo eo:Option Addr) (nl nb ne lc bc ec:Nat) (w:AG) (hf:form op=7) (hl:Ints w (.slice lo nl lc) ls) (hnl:ls.length=nl) (d0:(b != 0)=false) (d1:(n != 0)=false) (d2:nl=0) (d3:0<nb) :
  cG 89 op a b n lo nl lc bo nb bc eo ne ec w λe w'=>e=.returned (.bool false)/\AS w w':=by
 have hlen:=hl.1;have HL:=ah hl;have HF:=ah hf;have cK:=ah hnl;rw [hnl] at hlen;clear hl hf hnl;have AZ:¬ nb=0:=by omega
 have A7:(0:Int)<(nb:Int):=by omega
 subst d2;go_enter func89,ntmps89;go_wp2_with fail;refine (bN _ _).mono ?_;rintro e u ⟨rfl,rfl⟩;rw [HF.out];go_wp2;go_ret;exact ⟨rfl,(AC _ w).alloc (aC _) _⟩
theorem YW (op a b n:Int) (ls:List Int) (lo bo eo:Option Addr) (nl nb ne lc bc ec:Nat) (w:AG) (hf:form op=7) (hl:Ints w (.slice lo nl lc) ls) (hnl:ls.length=nl) (d0:(b != 0)=false) (d1:(n != 0)=false) (d2:nl=0) (d3:nb=0) (d4:0<ne) :
  cG 89 op a b n lo nl lc bo nb bc eo ne ec w λe w'=>e=.returned (.bool false)/\AS w w':=by
 have hlen:=hl.1;have HL:=ah hl;have HF:=ah hf;have cK:=ah hnl;rw [hnl] at hlen;clear hl hf hnl;have Gr:¬ ne=0:=by omega
 have Gs:(0:Int)<(ne:Int):=by omega
 subst d2;subst d3;go_enter func89,ntmps89;go_wp2_with fail;refine (bN _ _).mono ?_;rintro e u ⟨rfl,rfl⟩;rw [HF.out];go_wp2;go_ret;exact ⟨rfl,(AC _ w).alloc (aC _) _⟩
theorem YX (op a b n:Int) (ls:List Int) (lo bo eo:Option Addr) (nl nb ne lc bc ec:Nat) (w:AG) (hf:form op=7) (hl:Ints w (.slice lo nl lc) ls) (hnl:ls.length=nl) (d0:(b != 0)=false) (d1:(n != 0)=false) (d2:nl=0) (d3:nb=0) (d4:ne=0) (s1:¬ op=65) :
  cG 89 op a b n lo nl lc bo nb bc eo ne ec w λe w'=>e=.returned (.bool (idx a&&(idx b&&ls.all idx)))/\AS w w':=by
 have hlen:=hl.1;have HL:=ah hl;have HF:=ah hf;have cK:=ah hnl;rw [hnl] at hlen;clear hl hf hnl;subst d2;subst d3;subst d4;have B0:(op==65)=false:=by simp [s1]
 have i1:=ah λ(w:AG)=>mf a w;have i2:=ah λ(w:AG)=>mf b w;have i3:=ah λ(w':AG) (h:AS w w')=>xb _ ls w' (HL.out.on h);generalize idx a=r1 at *;generalize idx b=r2 at *;generalize ls.all idx=r3 at *;go_enter func89,ntmps89;go_wp2_with fail;refine (bN _ _).mono ?_;rintro e u ⟨rfl,rfl⟩;rw [HF.out];go_wp2_with fail;refine (i1.out _).mono ?_;rintro e u ⟨rfl,rfl⟩;cases r1
 ·go_wp2;go_ret;exact ⟨rfl,(AC _ w).alloc (aC _) _⟩
 go_wp2_with fail;refine (i2.out _).mono ?_;rintro e u ⟨rfl,rfl⟩;cases r2
 ·go_wp2;go_ret;exact ⟨rfl,(AC _ w).alloc (aC _) _⟩
 go_wp2_with fail;refine (i3.out _ ((AC _ w).alloc (aC _) _)).mono ?_;rintro e u ⟨rfl,rfl⟩;go_wp2;go_ret;exact ⟨rfl,(AC _ w).alloc (aC _) _⟩
theorem YY (op a b n:Int) (ls:List Int) (lo bo eo:Option Addr) (nl nb ne lc bc ec:Nat) (w:AG) (hf:form op=8) (hl:Ints w (.slice lo nl lc) ls) (hnl:ls.length=nl) (d0:(n != 0)=true) :
  cG 89 op a b n lo nl lc bo nb bc eo ne ec w λe w'=>e=.returned (.bool false)/\AS w w':=by
 have hlen:=hl.1;have HL:=ah hl;have HF:=ah hf;have cK:=ah hnl;rw [hnl] at hlen;clear hl hf hnl;go_enter func89,ntmps89;go_wp2_with fail;refine (bN _ _).mono ?_;rintro e u ⟨rfl,rfl⟩;rw [HF.out];go_wp2;go_ret;exact ⟨rfl,(AC _ w).alloc (aC _) _⟩
theorem YZ (op a b n:Int) (ls:List Int) (lo bo eo:Option Addr) (nl nb ne lc bc ec:Nat) (w:AG) (hf:form op=8) (hl:Ints w (.slice lo nl lc) ls) (hnl:ls.length=nl) (d0:(n != 0)=false) (d1:0<nl) :
  cG 89 op a b n lo nl lc bo nb bc eo ne ec w λe w'=>e=.returned (.bool false)/\AS w w':=by
 have hlen:=hl.1;have HL:=ah hl;have HF:=ah hf;have cK:=ah hnl;rw [hnl] at hlen;clear hl hf hnl;have d1a:¬ nl=0:=by omega
 have d1b:(0:Int)<(nl:Int):=by omega
 go_enter func89,ntmps89;go_wp2_with fail;refine (bN _ _).mono ?_;rintro e u ⟨rfl,rfl⟩;rw [HF.out];go_wp2;go_ret;exact ⟨rfl,(AC _ w).alloc (aC _) _⟩
theorem Y0 (op a b n:Int) (ls:List Int) (lo bo eo:Option Addr) (nl nb ne lc bc ec:Nat) (w:AG) (hf:form op=8) (hl:Ints w (.slice lo nl lc) ls) (hnl:ls.length=nl) (d0:(n != 0)=false) (d1:nl=0) (d2:0<nb) :
  cG 89 op a b n lo nl lc bo nb bc eo ne ec w λe w'=>e=.returned (.bool false)/\AS w w':=by
 have hlen:=hl.1;have HL:=ah hl;have HF:=ah hf;have cK:=ah hnl;rw [hnl] at hlen;clear hl hf hnl;have A8:¬ nb=0:=by omega
 have A9:(0:Int)<(nb:Int):=by omega
 subst d1;go_enter func89,ntmps89;go_wp2_with fail;refine (bN _ _).mono ?_;rintro e u ⟨rfl,rfl⟩;rw [HF.out];go_wp2;go_ret;exact ⟨rfl,(AC _ w).alloc (aC _) _⟩
theorem Y1 (op a b n:Int) (ls:List Int) (lo bo eo:Option Addr) (nl nb ne lc bc ec:Nat) (w:AG) (hf:form op=8) (hl:Ints w (.slice lo nl lc) ls) (hnl:ls.length=nl) (d0:(n != 0)=false) (d1:nl=0) (d2:nb=0) (d3:0<ne) :
  cG 89 op a b n lo nl lc bo nb bc eo ne ec w λe w'=>e=.returned (.bool false)/\AS w w':=by
 have hlen:=hl.1;have HL:=ah hl;have HF:=ah hf;have cK:=ah hnl;rw [hnl] at hlen;clear hl hf hnl;have AZ:¬ ne=0:=by omega
 have A7:(0:Int)<(ne:Int):=by omega
 subst d1;subst d2;go_enter func89,ntmps89;go_wp2_with fail;refine (bN _ _).mono ?_;rintro e u ⟨rfl,rfl⟩;rw [HF.out];go_wp2;go_ret;exact ⟨rfl,(AC _ w).alloc (aC _) _⟩
theorem Y2 (op a b n:Int) (ls:List Int) (lo bo eo:Option Addr) (nl nb ne lc bc ec:Nat) (w:AG) (hf:form op=8) (hl:Ints w (.slice lo nl lc) ls) (hnl:ls.length=nl) (d0:(n != 0)=false) (d1:nl=0) (d2:nb=0) (d3:ne=0) (s1:¬ op=65) :
  cG 89 op a b n lo nl lc bo nb bc eo ne ec w λe w'=>e=.returned (.bool (idx a&&(idx b&&ls.all idx)))/\AS w w':=by
 have hlen:=hl.1;have HL:=ah hl;have HF:=ah hf;have cK:=ah hnl;rw [hnl] at hlen;clear hl hf hnl;subst d1;subst d2;subst d3;have B0:(op==65)=false:=by simp [s1]
 have i1:=ah λ(w:AG)=>mf a w;have i2:=ah λ(w:AG)=>mf b w;have i3:=ah λ(w':AG) (h:AS w w')=>xb _ ls w' (HL.out.on h);generalize idx a=r1 at *;generalize idx b=r2 at *;generalize ls.all idx=r3 at *;go_enter func89,ntmps89;go_wp2_with fail;refine (bN _ _).mono ?_;rintro e u ⟨rfl,rfl⟩;rw [HF.out];go_wp2_with fail;refine (i1.out _).mono ?_;rintro e u ⟨rfl,rfl⟩;cases r1
 ·go_wp2;go_ret;exact ⟨rfl,(AC _ w).alloc (aC _) _⟩
 go_wp2_with fail;refine (i2.out _).mono ?_;rintro e u ⟨rfl,rfl⟩;cases r2
 ·go_wp2;go_ret;exact ⟨rfl,(AC _ w).alloc (aC _) _⟩
 go_wp2_with fail;refine (i3.out _ ((AC _ w).alloc (aC _) _)).mono ?_;rintro e u ⟨rfl,rfl⟩;go_wp2;go_ret;exact ⟨rfl,(AC _ w).alloc (aC _) _⟩
theorem Y3 (op a b n:Int) (ls:List Int) (lo bo eo:Option Addr) (nl nb ne lc bc ec:Nat) (w:AG) (hf:form op=9) (hl:Ints w (.slice lo nl lc) ls) (hnl:ls.length=nl) (d0:(a != 0)=true) :
  cG 89 op a b n lo nl lc bo nb bc eo ne ec w λe w'=>e=.returned (.bool false)/\AS w w':=by
 have hlen:=hl.1;have HL:=ah hl;have HF:=ah hf;have cK:=ah hnl;rw [hnl] at hlen;clear hl hf hnl;go_enter func89,ntmps89;go_wp2_with fail;refine (bN _ _).mono ?_;rintro e u ⟨rfl,rfl⟩;rw [HF.out];go_wp2;go_ret;exact ⟨rfl,(AC _ w).alloc (aC _) _⟩
theorem Y4 (op a b n:Int) (ls:List Int) (lo bo eo:Option Addr) (nl nb ne lc bc ec:Nat) (w:AG) (hf:form op=9) (hl:Ints w (.slice lo nl lc) ls) (hnl:ls.length=nl) (d0:(a != 0)=false) (d1:(b != 0)=true) :
  cG 89 op a b n lo nl lc bo nb bc eo ne ec w λe w'=>e=.returned (.bool false)/\AS w w':=by
 have hlen:=hl.1;have HL:=ah hl;have HF:=ah hf;have cK:=ah hnl;rw [hnl] at hlen;clear hl hf hnl;go_enter func89,ntmps89;go_wp2_with fail;refine (bN _ _).mono ?_;rintro e u ⟨rfl,rfl⟩;rw [HF.out];go_wp2;go_ret;exact ⟨rfl,(AC _ w).alloc (aC _) _⟩
theorem Y5 (op a b n:Int) (ls:List Int) (lo bo eo:Option Addr) (nl nb ne lc bc ec:Nat) (w:AG) (hf:form op=9) (hl:Ints w (.slice lo nl lc) ls) (hnl:ls.length=nl) (d0:(a != 0)=false) (d1:(b != 0)=false) (d2:0<nl) :
  cG 89 op a b n lo nl lc bo nb bc eo ne ec w λe w'=>e=.returned (.bool false)/\AS w w':=by
 have hlen:=hl.1;have HL:=ah hl;have HF:=ah hf;have cK:=ah hnl;rw [hnl] at hlen;clear hl hf hnl;have A8:¬ nl=0:=by omega
 have A9:(0:Int)<(nl:Int):=by omega
 go_enter func89,ntmps89;go_wp2_with fail;refine (bN _ _).mono ?_;rintro e u ⟨rfl,rfl⟩;rw [HF.out];go_wp2;go_ret;exact ⟨rfl,(AC _ w).alloc (aC _) _⟩
theorem Y6 (op a b n:Int) (ls:List Int) (lo bo eo:Option Addr) (nl nb ne lc bc ec:Nat) (w:AG) (hf:form op=9) (hl:Ints w (.slice lo nl lc) ls) (hnl:ls.length=nl) (d0:(a != 0)=false) (d1:(b != 0)=false) (d2:nl=0) (d3:0<nb) :
  cG 89 op a b n lo nl lc bo nb bc eo ne ec w λe w'=>e=.returned (.bool false)/\AS w w':=by
 have hlen:=hl.1;have HL:=ah hl;have HF:=ah hf;have cK:=ah hnl;rw [hnl] at hlen;clear hl hf hnl;have AZ:¬ nb=0:=by omega
 have A7:(0:Int)<(nb:Int):=by omega
 subst d2;go_enter func89,ntmps89;go_wp2_with fail;refine (bN _ _).mono ?_;rintro e u ⟨rfl,rfl⟩;rw [HF.out];go_wp2;go_ret;exact ⟨rfl,(AC _ w).alloc (aC _) _⟩
theorem Y7 (op a b n:Int) (ls:List Int) (lo bo eo:Option Addr) (nl nb ne lc bc ec:Nat) (w:AG) (hf:form op=9) (hl:Ints w (.slice lo nl lc) ls) (hnl:ls.length=nl) (d0:(a != 0)=false) (d1:(b != 0)=false) (d2:nl=0) (d3:nb=0) (d4:0<ne) :
  cG 89 op a b n lo nl lc bo nb bc eo ne ec w λe w'=>e=.returned (.bool false)/\AS w w':=by
 have hlen:=hl.1;have HL:=ah hl;have HF:=ah hf;have cK:=ah hnl;rw [hnl] at hlen;clear hl hf hnl;have Gr:¬ ne=0:=by omega
 have Gs:(0:Int)<(ne:Int):=by omega
 subst d2;subst d3;go_enter func89,ntmps89;go_wp2_with fail;refine (bN _ _).mono ?_;rintro e u ⟨rfl,rfl⟩;rw [HF.out];go_wp2;go_ret;exact ⟨rfl,(AC _ w).alloc (aC _) _⟩
theorem Y8 (op a b n:Int) (ls:List Int) (lo bo eo:Option Addr) (nl nb ne lc bc ec:Nat) (w:AG) (hf:form op=9) (hl:Ints w (.slice lo nl lc) ls) (hnl:ls.length=nl) (d0:(a != 0)=false) (d1:(b != 0)=false) (d2:nl=0) (d3:nb=0) (d4:ne=0) (s1:¬ op=65) :
  cG 89 op a b n lo nl lc bo nb bc eo ne ec w λe w'=>e=.returned (.bool (idx a&&(idx b&&ls.all idx)))/\AS w w':=by
 have hlen:=hl.1;have HL:=ah hl;have HF:=ah hf;have cK:=ah hnl;rw [hnl] at hlen;clear hl hf hnl;subst d2;subst d3;subst d4;have B0:(op==65)=false:=by simp [s1]
 have i1:=ah λ(w:AG)=>mf a w;have i2:=ah λ(w:AG)=>mf b w;have i3:=ah λ(w':AG) (h:AS w w')=>xb _ ls w' (HL.out.on h);generalize idx a=r1 at *;generalize idx b=r2 at *;generalize ls.all idx=r3 at *;go_enter func89,ntmps89;go_wp2_with fail;refine (bN _ _).mono ?_;rintro e u ⟨rfl,rfl⟩;rw [HF.out];go_wp2_with fail;refine (i1.out _).mono ?_;rintro e u ⟨rfl,rfl⟩;cases r1
 ·go_wp2;go_ret;exact ⟨rfl,(AC _ w).alloc (aC _) _⟩
 go_wp2_with fail;refine (i2.out _).mono ?_;rintro e u ⟨rfl,rfl⟩;cases r2
 ·go_wp2;go_ret;exact ⟨rfl,(AC _ w).alloc (aC _) _⟩
 go_wp2_with fail;refine (i3.out _ ((AC _ w).alloc (aC _) _)).mono ?_;rintro e u ⟨rfl,rfl⟩;go_wp2;go_ret;exact ⟨rfl,(AC _ w).alloc (aC _) _⟩
theorem Y9 (op a b n:Int) (ls:List Int) (lo bo eo:Option Addr) (nl nb ne lc bc ec:Nat) (w:AG) (hf:form op=9) (hl:Ints w (.slice lo nl lc) ls) (hnl:ls.length=nl) (d0:(a != 0)=false) (d1:(b != 0)=false) (d2:nl=0) (d3:nb=0) (d4:ne=0) (s1:op=65) (s2:n < -2147483648) :
  cG 89 op a b n lo nl lc bo nb bc eo ne ec w λe w'=>e=.returned (.bool false)/\AS w w':=by
 have hlen:=hl.1;have HL:=ah hl;have HF:=ah hf;have cK:=ah hnl;rw [hnl] at hlen;clear hl hf hnl;subst d2;subst d3;subst d4;subst s1;have OE:decide (n < -2147483648)=true:=by simp [s2]
 go_enter func89,ntmps89;go_wp2_with fail;refine (bN _ _).mono ?_;rintro e u ⟨rfl,rfl⟩;rw [HF.out];go_wp2;go_ret;exact ⟨rfl,(AC _ w).alloc (aC _) _⟩
theorem Za (op a b n:Int) (ls:List Int) (lo bo eo:Option Addr) (nl nb ne lc bc ec:Nat) (w:AG) (hf:form op=9) (hl:Ints w (.slice lo nl lc) ls) (hnl:ls.length=nl) (d0:(a != 0)=false) (d1:(b != 0)=false) (d2:nl=0) (d3:nb=0) (d4:ne=0) (s1:op=65) (s2:-2147483648<=n) (s3:2147483647<n) :
  cG 89 op a b n lo nl lc bo nb bc eo ne ec w λe w'=>e=.returned (.bool false)/\AS w w':=by
 have hlen:=hl.1;have HL:=ah hl;have HF:=ah hf;have cK:=ah hnl;rw [hnl] at hlen;clear hl hf hnl;subst d2;subst d3;subst d4;subst s1;have OE:decide (n < -2147483648)=false:=by simp;omega
 have Zb:decide (2147483647<n)=true:=by simp [s3]
 go_enter func89,ntmps89;go_wp2_with fail;refine (bN _ _).mono ?_;rintro e u ⟨rfl,rfl⟩;rw [HF.out];go_wp2;go_ret;exact ⟨rfl,(AC _ w).alloc (aC _) _⟩
theorem Zc (op a b n:Int) (ls:List Int) (lo bo eo:Option Addr) (nl nb ne lc bc ec:Nat) (w:AG) (hf:form op=9) (hl:Ints w (.slice lo nl lc) ls) (hnl:ls.length=nl) (d0:(a != 0)=false) (d1:(b != 0)=false) (d2:nl=0) (d3:nb=0) (d4:ne=0) (s1:op=65) (s2:-2147483648<=n) (s3:n<=2147483647) :
  cG 89 op a b n lo nl lc bo nb bc eo ne ec w λe w'=>e=.returned (.bool (idx a&&(idx b&&ls.all idx)))/\AS w w':=by
 have hlen:=hl.1;have HL:=ah hl;have HF:=ah hf;have cK:=ah hnl;rw [hnl] at hlen;clear hl hf hnl;subst d2;subst d3;subst d4;subst s1;have OE:decide (n < -2147483648)=false:=by simp;omega
 have Zb:decide (2147483647<n)=false:=by simp;omega
 have i1:=ah λ(w:AG)=>mf a w;have i2:=ah λ(w:AG)=>mf b w;have i3:=ah λ(w':AG) (h:AS w w')=>xb _ ls w' (HL.out.on h);generalize idx a=r1 at *;generalize idx b=r2 at *;generalize ls.all idx=r3 at *;go_enter func89,ntmps89;go_wp2_with fail;refine (bN _ _).mono ?_;rintro e u ⟨rfl,rfl⟩;rw [HF.out];go_wp2_with fail;refine (i1.out _).mono ?_;rintro e u ⟨rfl,rfl⟩;cases r1
 ·go_wp2;go_ret;exact ⟨rfl,(AC _ w).alloc (aC _) _⟩
 go_wp2_with fail;refine (i2.out _).mono ?_;rintro e u ⟨rfl,rfl⟩;cases r2
 ·go_wp2;go_ret;exact ⟨rfl,(AC _ w).alloc (aC _) _⟩
 go_wp2_with fail;refine (i3.out _ ((AC _ w).alloc (aC _) _)).mono ?_;rintro e u ⟨rfl,rfl⟩;go_wp2;go_ret;exact ⟨rfl,(AC _ w).alloc (aC _) _⟩
theorem Zd (op a b n:Int) (ls:List Int) (lo bo eo:Option Addr) (nl nb ne lc bc ec:Nat) (w:AG) (hf:form op=10) (hl:Ints w (.slice lo nl lc) ls) (hnl:ls.length=nl) :
  cG 89 op a b n lo nl lc bo nb bc eo ne ec w λe w'=>e=.returned (.bool false)/\AS w w':=by
 have hlen:=hl.1;have HL:=ah hl;have HF:=ah hf;have cK:=ah hnl;rw [hnl] at hlen;clear hl hf hnl;go_enter func89,ntmps89;go_wp2_with fail;refine (bN _ _).mono ?_;rintro e u ⟨rfl,rfl⟩;rw [HF.out];go_wp2;go_ret;exact ⟨rfl,(AC _ w).alloc (aC _) _⟩
end Go.Proofs.YtcfifbgemfladaaGreatDoor

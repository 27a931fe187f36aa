/- Single operations on machine words and on slices that are only read, in the form that a region's plan asks for. -/
import Derived.Test.YtdopbgnkneeceaaGreatqCon
set_option linter.unusedSectionVars false
set_option linter.unusedVariables false
set_option linter.unusedSimpArgs false
set_option maxRecDepth 100000
namespace Go.Proofs.YtdopbgnkneeceaaGreat
open Go.RowKit
section
variable {ρ : Operand → Value} {w : World} {ty ty2 : TypeId} {x y : Operand} {a b z : Int}
theorem Jn{ad:Addr}{l c k:Nat}(hk:k<l)(hx:(Am (.slice (some ad) l c)).p (ρ x) w)(hy:(Am (.int .i64 (k:Int))).p (ρ y) w):FU (.indexAddr 32 x y) ρ w (Am (.pointer (some (ad.add k)))):=by
 have hx:ρ x = .slice (some ad) l c:=hx;have hy:ρ y = .int .i64 (k:Int):=hy;exact BY λo ho=>by unfold execOp; rw [ho]; simp [go_sem,hx,hy,hk]
theorem C8(h0:0≤a)(h1:a<4294967296)(hx:(Am (.int .u32 a)).p (ρ x) w):FU (.convert 114 112 x) ρ w (Am (.int .u64 a)):=by
 have hx:ρ x = .int .u32 a:=hx;have e:IntKind.u64.wrap a=a:=by rw [IntKind.wrap_u64]; omega
 exact BY λo ho=>by unfold execOp; rw [ho]; simp [go_sem,hx,e]
theorem TQ(e:IntKind.u32.wrap a=z)(hx:(Am (.int .u64 a)).p (ρ x) w):FU (.convert 112 114 x) ρ w (Am (.int .u32 z)):=by
 have hx:ρ x = .int .u64 a:=hx;subst e;exact BY λo ho=>by unfold execOp; rw [ho]; simp [go_sem,hx]
theorem Q6(e:IntKind.u64.wrap (a*4294967296)=z)(hx:(Am (.int .u64 a)).p (ρ x) w)(hy:(Am (.int .u64 32)).p (ρ y) w):FU (.binOp .shl 112 x y ty2) ρ w (Am (.int .u64 z)):=by
 have hx:ρ x = .int .u64 a:=hx;have hy:ρ y = .int .u64 32:=hy;subst e;exact BY λo ho=>by unfold execOp; rw [ho]; simp [go_sem,hx,hy]
theorem Vk(e:bits .or .u64 a b=z)(hx:(Am (.int .u64 a)).p (ρ x) w)(hy:(Am (.int .u64 b)).p (ρ y) w):FU (.binOp .or 112 x y ty2) ρ w (Am (.int .u64 z)):=by
 have hx:ρ x = .int .u64 a:=hx;have hy:ρ y = .int .u64 b:=hy;subst e;exact BY λo ho=>by unfold execOp; rw [ho]; simp [go_sem,hx,hy]
theorem tS(hb:b≠0)(e:IntKind.u64.wrap (a.tdiv b)=z)(hx:(Am (.int .u64 a)).p (ρ x) w)(hy:(Am (.int .u64 b)).p (ρ y) w):FU (.binOp .quo 112 x y ty2) ρ w (Am (.int .u64 z)):=by
 have hx:ρ x = .int .u64 a:=hx;have hy:ρ y = .int .u64 b:=hy;subst e;exact BY λo ho=>by unfold execOp; rw [ho]; simp [go_sem,hx,hy,hb]
end
section
variable {ops : Array Oper} {N : Nat} {Wb W0 : World} {a0 : Act} {F : List PF} {BX : List Bm} {AD : List (Nat × Nat × Nat)} {i : Nat} {g : Option (Nat × Bool)}
end
theorem Cr{p:Addr}{x:Int}(w:World)(h:w.cell? p=some (.int .u32 x)):(Instr.loadAt 114 (.pointer (some p))).run Tryz.prog w = .ok (.int .u32 x) w:=by simp [go_sem,h]
theorem IA{Wb:World}{N:Nat}{S:List (Nat × PF)}{B:List (Nat × CF)}{a:Act}{w:World}{fn:Func}{t:Nat}{f R:PF}(hst:St Wb N S B a w)(hr:fn.results = #[.tmp t])(k:Nat)(hk:S[k]? = some (t,f))(h:∀ v w,f.p v w→R.p v w):bodyPost Tryz.prog fn (Aj R Wb) .ret a w:=by
 obtain ⟨v,h1,h2⟩:=hst.slots.get hk;refine bodyPost_ret (results_tmp hr a.tmps _ w) hst.defers ?_;have hv:a.tmps.getD t undef=v:=by
  have:=BZ h1;simpa [Act.eval] using this
 rw [hv];exact ⟨v,rfl,h v w h2,hst.below⟩
theorem aC{pn pn1 d1 t:Nat}(ht:pn*4294967296+pn1=t)(h1:pn1<4294967296)(hle:pn≤d1)(hd:2147483648≤d1)(hd32:d1<4294967296):t / d1≤4294967297∧t / d1*d1+t % d1=t∧t % d1<d1∧t<18446744073709551616:=by
 have h2:=Nat.div_add_mod t d1;have h3:=Nat.mod_lt t (show 0<d1 by omega);have hm:pn*4294967296≤d1*4294967296:=Nat.mul_le_mul_right _ hle;refine ⟨?_,by rw [Nat.mul_comm]; exact h2,h3,by omega⟩;rw [Nat.div_le_iff_le_mul_add_pred (by omega)];omega
theorem bQ{q r d1 d2 t pn2 Qt:Nat}(hq:q*d1+r=t)(hQ:∀ q,t*4294967296+pn2<q*(d1*4294967296+d2)→Qt<q)(hlt:r*4294967296+pn2<q*d2):Qt<q:=by
 apply hQ;rw [← hq,Nat.add_mul,Nat.mul_add,Nat.mul_assoc];omega
theorem L5{q r d1 d2 t pn2:Nat}(hq:q*d1+r=t)(h:q*d2≤r*4294967296+pn2):q*(d1*4294967296+d2)≤t*4294967296+pn2:=by
 rw [← hq,Nat.add_mul,Nat.mul_add,Nat.mul_assoc];omega
theorem Oo{q r d1 d2 t pn pn1 pn2:Nat}(hq:q*d1+r=t)(ht:pn*4294967296+pn1=t)(h1:pn1<4294967296)(hle:pn≤d1)(_h0:0<d1)(hd2:d2<4294967296)(hr:4294967296≤r):q<4294967296∧q*d2≤r*4294967296+pn2:=by
 have hm:pn*4294967296≤d1*4294967296:=Nat.mul_le_mul_right _ hle;have hqb:q<4294967296:=by
  rcases Nat.lt_or_ge q 4294967296 with h | h
  ·exact h
  ·have:=Nat.mul_le_mul_right d1 h
   rw [Nat.mul_comm d1 4294967296] at hm;omega
 refine ⟨hqb,?_⟩;have h2:q*d2≤4294967296*4294967296:=Nat.mul_le_mul (by omega) (by omega);have h3:4294967296*4294967296≤r*4294967296:=Nat.mul_le_mul_right _ hr;omega
theorem DZ{q r d1 t:Nat}(hq:q*d1+r=t)(h0:0<q):(q - 1)*d1+(r+d1)=t:=by
 obtain ⟨m,rfl⟩:∃ m,q=m+1:=⟨q - 1,by omega⟩;rw [Nat.add_mul] at hq;simp only [Nat.add_sub_cancel];omega
end Go.Proofs.YtdopbgnkneeceaaGreat

/- Rational numbers: isOne, and the ends of functions whose results lie in boxes. -/
import Derived.Test.YtdopbgnkneeceaaGreatqGcdL
set_option linter.unusedSectionVars false
set_option linter.unusedVariables false
set_option linter.unusedSimpArgs false
set_option maxRecDepth 100000
namespace Go.Proofs.YtdopbgnkneeceaaGreat
open Go.RowKit
set_option maxHeartbeats 1600000 in
theorem eP(v:Value)(z:Int)(w:World)(h:Al w v z)(hl:len z.natAbs≤4398046511104):Calls Tryz.prog 78 #[v] w λe w'=>e = .returned (.bool (decide (z=1)))∧Below w.heap.size w w':=by
 obtain ⟨n,hn⟩:∃ n,z.natAbs=n:=⟨_,rfl⟩;obtain ⟨b,hb⟩:∃ b,decide (z<0)=b:=⟨_,rfl⟩;obtain ⟨A,c,rfl,H⟩:=h.parts_ hn hb;rw [hn] at hl;have hm:=H.out.mem.2.2;clear h
 cases b with
 | true =>
  have hz:decide (z=1)=false:=by simp at hb ⊢; omega
  have HZ:=Lib.hid hz;clear hz hb hn hm
  go_enter Tryz.func78,Tryz.ntmps78
  go_wp2
  go_ret
  rw [HZ.out];exact ⟨rfl,Ai _ _⟩
 | false =>
  by_cases h1:len n=1
  ·have h1':(Ae n).length=1:=h1
   obtain ⟨x,hx⟩:∃ x,Ae n=[x]:=List.length_eq_one_iff.1 h1';have hnx:n=x:=by
    have:=Ao n;rw [hx] at this;simp [val] at this;exact this.symm
   obtain ⟨ad,rfl,hlt,hc⟩:=hm.at_ (k:=0) (by omega);have hx0:(Ae n)[0]'(by omega)=n:=by simp [hx,← hnx]
   have hadd:ad.add 0=ad:=by unfold Addr.add; simp
   rw [hx0,hadd] at hc;have hcell:=(World.cell?_alloc_lt w (Obj.cells #[.bool false,.slice (some ad) 1 c] 34) ad hlt).trans hc;have hz:decide (z=1)=decide (n=1):=by
    have:¬ z<0:=by simpa using hb
    rw [decide_eq_decide]; omega
   have HZ:=Lib.hid hz;have HC:=Lib.hid hc;rw [h1];clear hz hb hn hm hx hx0 hnx h1' hc
   go_enter Tryz.func78,Tryz.ntmps78
   go_wp2
   go_ret
   rw [HZ.out];refine ⟨congrArg (λb=>Ending.returned (Value.bool b)) ?_,Ai _ _⟩;show ((n:Int) == 1)=decide (n=1);rw [Bool.eq_iff_iff];simp;omega
  ·have hz:decide (z=1)=false:=by
    simp only [decide_eq_false_iff_not]
    rintro rfl
    apply h1;rw [← hn];decide +kernel
   have HZ:=Lib.hid hz;have hne:((len n:Int) == 1)=false:=by simp; omega
   clear hz hb hn hm
   go_enter Tryz.func78,Tryz.ntmps78
   go_wp2
   go_ret
   rw [HZ.out];exact ⟨rfl,Ai _ _⟩
theorem Ags{x:Int}{i:Nat}{va:Value}{w:World}(ha:(Af x).p va w)(sx:Sm x i)(hi:i≤1000000000):Calls Tryz.prog 78 #[va] w (Aj (Am (.bool (decide (x=1)))) w):=
 (eP va x w ha (Nat.le_trans (sx.len hi) (by decide))).mono λ_ _ ⟨e,hb⟩=>⟨_,e,rfl,hb⟩
theorem JB{x:Int}{i:Nat}{va:Value}{w:World}(ha:(Af x).p va w)(sx:Sm x i)(hi:i≤1000000000)(e:x=1):Calls Tryz.prog 78 #[va] w (Aj (Am (.bool true)) w):=by
 have:=Ags ha sx hi;rwa [decide_eq_true e] at this
theorem Ij{x:Int}{i:Nat}{va:Value}{w:World}(ha:(Af x).p va w)(sx:Sm x i)(hi:i≤1000000000)(e:x≠1):Calls Tryz.prog 78 #[va] w (Aj (Am (.bool false)) w):=by
 have:=Ags ha sx hi;rwa [decide_eq_false e] at this
section
variable {Wb : World} {N : Nat} {S : List (Nat × PF)} {B : List (Nat × CF)} {a : Act} {w : World}
theorem pA{fn:Func}{t:Nat}{n d:Int}(hst:St Wb N S B a w)(hr:fn.results = #[.cell t 36])(k:Nat)(hk:B[k]? = some (t,FQ n d)):bodyPost Tryz.prog fn (Aj (CO n d) Wb) .ret a w:=by
 obtain ⟨g,h1,_,b,A,n,c,b',A',n',c',hh,hi,hi'⟩:=hst.boxes.get hk;obtain ⟨e0,e1,e2,e3⟩:=Ev hh;refine bodyPost_ret (v:=.agg #[.bool b,.slice A n c,.bool b',.slice A' n' c']) ?_ hst.defers ⟨_,rfl,⟨_,_,_,_,_,_,_,_,rfl,hi,hi'⟩,hst.below⟩;simp [results,hr,go_sem,e0,e1,e2,e3,Array.getD_eq_getD_getElem?,h1]
end
theorem Aaj{x y:Int}{i j:Nat}(va:Value)(vb:Value)(W:World)(hva:(Af x).p va W)(hvb:(Af y).p vb W)(sx:Sm x i)(sy:Sm y j)(_hi:i≤600000000)(_hj:j≤600000000)(ny:y≠0):Calls Tryz.prog 107 #[va,vb] W (Aj (Af (x / y)) W):=by
  let E:List PF:=[(Af x),(Af y),(Af (x / y)),(Af (x % y))]
  let EB:List CF:=[(Ak x),(Ak y),AS,(Ak (x / y)),(Ak (x % y))]
  exact Av (E:=E) (EB:=EB) (fs:=[(.ref 0),(.ref 1)]) (r:=(.ref 2))
   { calls:=[c2 119 (.ref 0) (.ref 1) (.tup3 (.ref 2) (.ref 3) (.int .i64 0)) λw v0 v1 hb h0 h1=>vA h0 h1 sx sy (by first | decide | assumption | omega) (by first | decide | assumption | omega) ny],
     loads:=[⟨34,0,0,(.ref 0),λw q h=>Ah w q h⟩,
      ⟨34,0,1,(.ref 1),λw q h=>Ah w q h⟩,
      ⟨34,0,3,(.ref 2),λw q h=>Ah w q h⟩],
     allocs:=[⟨34,2,_,AU,AT⟩],
     boxes:=[⟨34,(.ref 0),0,λw v h=>AW w v h⟩,
      ⟨34,(.ref 1),1,λw v h=>AW w v h⟩],
     stores:=[⟨34,0,2,(.ref 2),3,(Ag _)⟩,
      ⟨34,0,2,(.ref 3),4,(Ag _)⟩] }
   Tryz.func107 ⟨hva,hvb,trivial⟩ (by kernel_rfl)
theorem AiU{x y:Int}{i j:Nat}{va vb:Value}{w:World}(ha:(Af x).p va w)(hb:(Af y).p vb w)(sx:Sm x i)(sy:Sm y j)(hi:i≤600000000)(hj:j≤600000000)(ny:y≠0):Calls Tryz.prog 107 #[va,vb] w (Aj (Af (x / y)) w):=Aaj va vb w ha hb sx sy hi hj ny
theorem Ai7{x y:Int}{i j:Nat}(va:Value)(vb:Value)(W:World)(hva:(Af x).p va W)(hvb:(Af y).p vb W)(sx:Sm x i)(_sy:Sm y j)(_hi:i≤600000000)(_hj:j≤600000000)(h1:x=1):Calls Tryz.prog 80 #[va,vb] W (Aj (DS (Af x) (Af y) (Af 1)) W):=by
  let E:List PF:=[(Af x),(Af y),(Af 1)]
  let EB:List CF:=[(Ak x),(Ak y),AS,(Ak 1)]
  exact Av (E:=E) (EB:=EB) (fs:=[(.ref 0),(.ref 1)]) (r:=(.tup3 (.ref 0) (.ref 1) (.ref 2)))
   { calls:=[c1 78 (.ref 0) (.bool true) λw v0 hb h0=>JB h0 sx (by first | decide | assumption | omega) h1,
      c1 77 (.int .i64 1) (.ref 2) λw v0 hb h0=>kOf 1 (by omega) (by omega) h0],
     loads:=[⟨34,0,0,(.ref 0),λw q h=>Ah w q h⟩,
      ⟨34,0,1,(.ref 1),λw q h=>Ah w q h⟩,
      ⟨34,0,3,(.ref 2),λw q h=>Ah w q h⟩],
     allocs:=[⟨34,2,_,AU,AT⟩],
     boxes:=[⟨34,(.ref 0),0,λw v h=>AW w v h⟩,
      ⟨34,(.ref 1),1,λw v h=>AW w v h⟩],
     stores:=[⟨34,0,2,(.ref 0),0,(Ag _)⟩,
      ⟨34,0,2,(.ref 1),1,(Ag _)⟩,
      ⟨34,0,2,(.ref 2),3,(Ag _)⟩] }
   Tryz.func80 ⟨hva,hvb,trivial⟩ (by kernel_rfl)
theorem Ai5{x y:Int}{i j:Nat}(va:Value)(vb:Value)(W:World)(hva:(Af x).p va W)(hvb:(Af y).p vb W)(sx:Sm x i)(sy:Sm y j)(_hi:i≤600000000)(_hj:j≤600000000)(h1:x≠1)(h2:y=1):Calls Tryz.prog 80 #[va,vb] W (Aj (DS (Af x) (Af y) (Af 1)) W):=by
  let E:List PF:=[(Af x),(Af y),(Af 1)]
  let EB:List CF:=[(Ak x),(Ak y),AS,(Ak 1)]
  exact Av (E:=E) (EB:=EB) (fs:=[(.ref 0),(.ref 1)]) (r:=(.tup3 (.ref 0) (.ref 1) (.ref 2)))
   { calls:=[c1 78 (.ref 0) (.bool false) λw v0 hb h0=>Ij h0 sx (by first | decide | assumption | omega) h1,
      c1 78 (.ref 1) (.bool true) λw v0 hb h0=>JB h0 sy (by first | decide | assumption | omega) h2,
      c1 77 (.int .i64 1) (.ref 2) λw v0 hb h0=>kOf 1 (by omega) (by omega) h0],
     loads:=[⟨34,0,0,(.ref 0),λw q h=>Ah w q h⟩,
      ⟨34,0,1,(.ref 1),λw q h=>Ah w q h⟩,
      ⟨34,0,3,(.ref 2),λw q h=>Ah w q h⟩],
     allocs:=[⟨34,2,_,AU,AT⟩],
     boxes:=[⟨34,(.ref 0),0,λw v h=>AW w v h⟩,
      ⟨34,(.ref 1),1,λw v h=>AW w v h⟩],
     stores:=[⟨34,0,2,(.ref 0),0,(Ag _)⟩,
      ⟨34,0,2,(.ref 1),1,(Ag _)⟩,
      ⟨34,0,2,(.ref 2),3,(Ag _)⟩] }
   Tryz.func80 ⟨hva,hvb,trivial⟩ (by kernel_rfl)
theorem Ajl{x y:Int}{i j:Nat}(va:Value)(vb:Value)(W:World)(hva:(Af x).p va W)(hvb:(Af y).p vb W)(sx:Sm x i)(sy:Sm y j)(_hi:i≤600000000)(_hj:j≤600000000)(h1:x≠1)(h2:y≠1)(h3:((Int.gcd x y:Nat):Int)=1):Calls Tryz.prog 80 #[va,vb] W (Aj (DS (Af x) (Af y) (Af ((Int.gcd x y:Nat):Int))) W):=by
  let E:List PF:=[(Af x),(Af y),(Af ((Int.gcd x y:Nat):Int))]
  let EB:List CF:=[(Ak x),(Ak y),AS,(Ak ((Int.gcd x y:Nat):Int))]
  exact Av (E:=E) (EB:=EB) (fs:=[(.ref 0),(.ref 1)]) (r:=(.tup3 (.ref 0) (.ref 1) (.ref 2)))
   { calls:=[c1 78 (.ref 0) (.bool false) λw v0 hb h0=>Ij h0 sx (by first | decide | assumption | omega) h1,
      c1 78 (.ref 1) (.bool false) λw v0 hb h0=>Ij h0 sy (by first | decide | assumption | omega) h2,
      c2 106 (.ref 0) (.ref 1) (.ref 2) λw v0 v1 hb h0 h1=>Afa h0 h1 sx sy (by first | decide | assumption | omega) (by first | decide | assumption | omega),
      c1 78 (.ref 2) (.bool true) λw v0 hb h0=>JB h0 (Dc sx sy) (by first | decide | assumption | omega) h3],
     loads:=[⟨34,0,0,(.ref 0),λw q h=>Ah w q h⟩,
      ⟨34,0,1,(.ref 1),λw q h=>Ah w q h⟩,
      ⟨34,0,3,(.ref 2),λw q h=>Ah w q h⟩],
     allocs:=[⟨34,2,_,AU,AT⟩],
     boxes:=[⟨34,(.ref 0),0,λw v h=>AW w v h⟩,
      ⟨34,(.ref 1),1,λw v h=>AW w v h⟩],
     stores:=[⟨34,0,2,(.ref 2),3,(Ag _)⟩,
      ⟨34,0,2,(.ref 0),0,(Ag _)⟩,
      ⟨34,0,2,(.ref 1),1,(Ag _)⟩] }
   Tryz.func80 ⟨hva,hvb,trivial⟩ (by kernel_rfl)
theorem AgE{x y:Int}{i j:Nat}(va:Value)(vb:Value)(W:World)(hva:(Af x).p va W)(hvb:(Af y).p vb W)(sx:Sm x i)(sy:Sm y j)(_hi:i≤600000000)(_hj:j≤600000000)(h1:x≠1)(h2:y≠1)(h3:((Int.gcd x y:Nat):Int)≠1)(h4:((Int.gcd x y:Nat):Int)≠0):Calls Tryz.prog 80 #[va,vb] W (Aj (DS (Af (x / ((Int.gcd x y:Nat):Int))) (Af (y / ((Int.gcd x y:Nat):Int))) (Af ((Int.gcd x y:Nat):Int))) W):=by
  let E:List PF:=[(Af x),(Af y),(Af ((Int.gcd x y:Nat):Int)),(Af (x / ((Int.gcd x y:Nat):Int))),(Af (y / ((Int.gcd x y:Nat):Int)))]
  let EB:List CF:=[(Ak x),(Ak y),AS,(Ak ((Int.gcd x y:Nat):Int)),(Ak (x / ((Int.gcd x y:Nat):Int))),(Ak (y / ((Int.gcd x y:Nat):Int)))]
  exact Av (E:=E) (EB:=EB) (fs:=[(.ref 0),(.ref 1)]) (r:=(.tup3 (.ref 3) (.ref 4) (.ref 2)))
   { calls:=[c1 78 (.ref 0) (.bool false) λw v0 hb h0=>Ij h0 sx (by first | decide | assumption | omega) h1,
      c1 78 (.ref 1) (.bool false) λw v0 hb h0=>Ij h0 sy (by first | decide | assumption | omega) h2,
      c2 106 (.ref 0) (.ref 1) (.ref 2) λw v0 v1 hb h0 h1=>Afa h0 h1 sx sy (by first | decide | assumption | omega) (by first | decide | assumption | omega),
      c1 78 (.ref 2) (.bool false) λw v0 hb h0=>Ij h0 (Dc sx sy) (by first | decide | assumption | omega) h3,
      c2 107 (.ref 0) (.ref 2) (.ref 3) λw v0 v1 hb h0 h1=>AiU h0 h1 sx (Dc sx sy) (by first | decide | assumption | omega) (by first | decide | assumption | omega) h4,
      c2 107 (.ref 1) (.ref 2) (.ref 4) λw v0 v1 hb h0 h1=>AiU h0 h1 sy (Dc sx sy) (by first | decide | assumption | omega) (by first | decide | assumption | omega) h4],
     loads:=[⟨34,0,0,(.ref 0),λw q h=>Ah w q h⟩,
      ⟨34,0,1,(.ref 1),λw q h=>Ah w q h⟩,
      ⟨34,0,3,(.ref 2),λw q h=>Ah w q h⟩,
      ⟨34,0,4,(.ref 3),λw q h=>Ah w q h⟩,
      ⟨34,0,5,(.ref 4),λw q h=>Ah w q h⟩],
     allocs:=[⟨34,2,_,AU,AT⟩],
     boxes:=[⟨34,(.ref 0),0,λw v h=>AW w v h⟩,
      ⟨34,(.ref 1),1,λw v h=>AW w v h⟩],
     stores:=[⟨34,0,2,(.ref 2),3,(Ag _)⟩,
      ⟨34,0,2,(.ref 3),4,(Ag _)⟩,
      ⟨34,0,2,(.ref 4),5,(Ag _)⟩] }
   Tryz.func80 ⟨hva,hvb,trivial⟩ (by kernel_rfl)
theorem Fd{x y:Int}{i j:Nat}{va vb:Value}{w:World}(ha:(Af x).p va w)(hb:(Af y).p vb w)(sx:Sm x i)(sy:Sm y j)(hi:i≤600000000)(hj:j≤600000000)(ny:y≠0):Calls Tryz.prog 80 #[va,vb] w (Aj (DS (Af (x / ((Int.gcd x y:Nat):Int))) (Af (y / ((Int.gcd x y:Nat):Int))) (Af ((Int.gcd x y:Nat):Int))) w):=by
 by_cases h1:x=1
 ·have e:((Int.gcd x y:Nat):Int)=1:=by rw [h1,Int.one_gcd]; rfl
  rw [e,Int.ediv_one,Int.ediv_one];exact Ai7 va vb w ha hb sx sy hi hj h1
 by_cases h2:y=1
 ·have e:((Int.gcd x y:Nat):Int)=1:=by rw [h2,Int.gcd_one]; rfl
  rw [e,Int.ediv_one,Int.ediv_one];exact Ai5 va vb w ha hb sx sy hi hj h1 h2
 by_cases h3:((Int.gcd x y:Nat):Int)=1
 ·have:=Ajl va vb w ha hb sx sy hi hj h1 h2 h3
  rw [h3] at this ⊢;rw [Int.ediv_one,Int.ediv_one];exact this
 ·refine AgE va vb w ha hb sx sy hi hj h1 h2 h3 ?_
  have:=Int.gcd_ne_zero_right (a:=x) ny;omega
theorem gM{z:Int}(h0 : -9223372036854775808≤z)(h1:z≤9223372036854775807):Sm z 2:=by
 show z.natAbs<4294967296 ^ 2;have:(4294967296:Nat) ^ 2=18446744073709551616:=by decide
 omega
theorem L7(x:Int)(y:Rat):((Int.gcd x (y.den:Int):Nat):Int)≠0:=by
 have:=Int.gcd_ne_zero_right (a:=x) (Int.ne_of_gt (Cy y));omega
theorem QO(x:Int){y:Int}(ny:y≠0):((Int.gcd x y:Nat):Int)≠0:=by
 have:=Int.gcd_ne_zero_right (a:=x) ny;omega
theorem TP(x y:Rat)(h1:(x.den:Int)=1)(h2:(y.den:Int)=1):(x+y).num=x.num+y.num∧((x+y).den:Int)=1:=by
 have h:=Hp x y 1 (x.num+y.num) (by rw [h1,h2]; rfl) (by rw [h1,h2]; simp);rw [h1,h2] at h;simpa using h
theorem Xy(x y:Rat)(h1:(x.den:Int)=1)(h2:(y.den:Int)=1):(x*y).num=x.num*y.num∧((x*y).den:Int)=1:=by
 have h:=KB x y;rw [h1,h2] at h;simpa using h
theorem Ad6{x y:Rat}{i j:Nat}(va:Value)(vb:Value)(W:World)(hva:(An x).p va W)(hvb:(An y).p vb W)(sx:AR x i)(sy:AR y j)(_hi:i≤250000000)(_hj:j≤250000000)(h1:(x.den:Int)=1)(h2:(y.den:Int)=1):Calls Tryz.prog 123 #[va,vb] W (Aj (An (x+y)) W):=by
  let E:List PF:=[(An x),(An y),(Af (x.den:Int)),(Af (y.den:Int)),(Af x.num),(Af y.num),(Af (x.num+y.num)),(Af 1),(An (x+y))]
  let EB:List CF:=[(A8 x),(A8 y),Bd,(A8 (x+y))]
  exact Av (E:=E) (EB:=EB) (fs:=[(.ref 0),(.ref 1)]) (r:=(.ref 8))
   { pures:=[p2 (.bld 36 [0,1]) (.ref 6) (.ref 7) (.ref 8) λ_ _ _ _ _ hx hy=>BA (TP x y h1 h2).1.symm (TP x y h1 h2).2.symm hx hy],
     calls:=[c1 78 (.ref 2) (.bool true) λw v0 hb h0=>JB h0 sx.2 (by first | decide | assumption | omega) h1,
      c1 78 (.ref 3) (.bool true) λw v0 hb h0=>JB h0 sy.2 (by first | decide | assumption | omega) h2,
      c2 134 (.ref 4) (.ref 5) (.ref 6) λw v0 v1 hb h0 h1=>Ael h0 h1 sx.1 sy.1 (by first | decide | assumption | omega) (by first | decide | assumption | omega),
      c1 77 (.int .i64 1) (.ref 7) λw v0 hb h0=>kOf 1 (by omega) (by omega) h0],
     loads:=[⟨34,2,0,(.ref 2),λw q h=>Bs w q h⟩,
      ⟨34,2,1,(.ref 3),λw q h=>Bs w q h⟩,
      ⟨34,0,0,(.ref 4),λw q h=>Bc w q h⟩,
      ⟨34,0,1,(.ref 5),λw q h=>Bc w q h⟩,
      ⟨36,0,3,(.ref 8),λw q h=>AH w q h⟩],
     allocs:=[⟨36,2,_,AN,AP⟩],
     boxes:=[⟨36,(.ref 0),0,λw v h=>AL w v h⟩,
      ⟨36,(.ref 1),1,λw v h=>AL w v h⟩],
     stores:=[⟨36,0,2,(.ref 8),3,AK⟩],
     flds:=[⟨36,1,2,Et⟩,
      ⟨36,0,0,DC⟩] }
   Tryz.func123 ⟨hva,hvb,trivial⟩ (by kernel_rfl)
theorem AdI{x y:Rat}{i j:Nat}(va:Value)(vb:Value)(W:World)(hva:(An x).p va W)(hvb:(An y).p vb W)(sx:AR x i)(sy:AR y j)(_hi:i≤250000000)(_hj:j≤250000000)(h1:(x.den:Int)=1)(h2:(y.den:Int)≠1):Calls Tryz.prog 123 #[va,vb] W (Aj (An (x+y)) W):=by
  let E:List PF:=[(An x),(An y),(Af (x.den:Int)),(Af (y.den:Int)),(Af ((x.den:Int) / ((Int.gcd (x.den:Int) (y.den:Int):Nat):Int))),(Af ((y.den:Int) / ((Int.gcd (x.den:Int) (y.den:Int):Nat):Int))),(Af ((Int.gcd (x.den:Int) (y.den:Int):Nat):Int)),(Af x.num),(Af (x.num*((y.den:Int) / ((Int.gcd (x.den:Int) (y.den:Int):Nat):Int)))),(Af y.num),(Af (y.num*((x.den:Int) / ((Int.gcd (x.den:Int) (y.den:Int):Nat):Int)))),(Af ((x.num*((y.den:Int) / ((Int.gcd (x.den:Int) (y.den:Int):Nat):Int)))+(y.num*((x.den:Int) / ((Int.gcd (x.den:Int) (y.den:Int):Nat):Int))))),(Af (((x.num*((y.den:Int) / ((Int.gcd (x.den:Int) (y.den:Int):Nat):Int)))+(y.num*((x.den:Int) / ((Int.gcd (x.den:Int) (y.den:Int):Nat):Int)))) / ((Int.gcd ((x.num*((y.den:Int) / ((Int.gcd (x.den:Int) (y.den:Int):Nat):Int)))+(y.num*((x.den:Int) / ((Int.gcd (x.den:Int) (y.den:Int):Nat):Int)))) ((Int.gcd (x.den:Int) (y.den:Int):Nat):Int):Nat):Int))),(Af (((Int.gcd (x.den:Int) (y.den:Int):Nat):Int) / ((Int.gcd ((x.num*((y.den:Int) / ((Int.gcd (x.den:Int) (y.den:Int):Nat):Int)))+(y.num*((x.den:Int) / ((Int.gcd (x.den:Int) (y.den:Int):Nat):Int)))) ((Int.gcd (x.den:Int) (y.den:Int):Nat):Int):Nat):Int))),(Af ((Int.gcd ((x.num*((y.den:Int) / ((Int.gcd (x.den:Int) (y.den:Int):Nat):Int)))+(y.num*((x.den:Int) / ((Int.gcd (x.den:Int) (y.den:Int):Nat):Int)))) ((Int.gcd (x.den:Int) (y.den:Int):Nat):Int):Nat):Int)),(Af (((x.den:Int) / ((Int.gcd (x.den:Int) (y.den:Int):Nat):Int))*((y.den:Int) / ((Int.gcd (x.den:Int) (y.den:Int):Nat):Int)))),(Af ((((Int.gcd (x.den:Int) (y.den:Int):Nat):Int) / ((Int.gcd ((x.num*((y.den:Int) / ((Int.gcd (x.den:Int) (y.den:Int):Nat):Int)))+(y.num*((x.den:Int) / ((Int.gcd (x.den:Int) (y.den:Int):Nat):Int)))) ((Int.gcd (x.den:Int) (y.den:Int):Nat):Int):Nat):Int))*(((x.den:Int) / ((Int.gcd (x.den:Int) (y.den:Int):Nat):Int))*((y.den:Int) / ((Int.gcd (x.den:Int) (y.den:Int):Nat):Int))))),(An (x+y))]
  let EB:List CF:=[(A8 x),(A8 y),Bd,AS,(Ak ((x.den:Int) / ((Int.gcd (x.den:Int) (y.den:Int):Nat):Int))),(Ak ((y.den:Int) / ((Int.gcd (x.den:Int) (y.den:Int):Nat):Int))),(Ak ((Int.gcd (x.den:Int) (y.den:Int):Nat):Int)),(Ak ((x.num*((y.den:Int) / ((Int.gcd (x.den:Int) (y.den:Int):Nat):Int)))+(y.num*((x.den:Int) / ((Int.gcd (x.den:Int) (y.den:Int):Nat):Int))))),(Ak (((x.num*((y.den:Int) / ((Int.gcd (x.den:Int) (y.den:Int):Nat):Int)))+(y.num*((x.den:Int) / ((Int.gcd (x.den:Int) (y.den:Int):Nat):Int)))) / ((Int.gcd ((x.num*((y.den:Int) / ((Int.gcd (x.den:Int) (y.den:Int):Nat):Int)))+(y.num*((x.den:Int) / ((Int.gcd (x.den:Int) (y.den:Int):Nat):Int)))) ((Int.gcd (x.den:Int) (y.den:Int):Nat):Int):Nat):Int))),(Ak (((Int.gcd (x.den:Int) (y.den:Int):Nat):Int) / ((Int.gcd ((x.num*((y.den:Int) / ((Int.gcd (x.den:Int) (y.den:Int):Nat):Int)))+(y.num*((x.den:Int) / ((Int.gcd (x.den:Int) (y.den:Int):Nat):Int)))) ((Int.gcd (x.den:Int) (y.den:Int):Nat):Int):Nat):Int))),(A8 (x+y))]
  exact Av (E:=E) (EB:=EB) (fs:=[(.ref 0),(.ref 1)]) (r:=(.ref 17))
   { pures:=[p2 (.bld 36 [0,1]) (.ref 12) (.ref 16) (.ref 17) λ_ _ _ _ _ hx hy=>BA (Hp x y _ _ rfl rfl).1.symm (Hp x y _ _ rfl rfl).2.symm hx hy],
     calls:=[c1 78 (.ref 2) (.bool true) λw v0 hb h0=>JB h0 sx.2 (by first | decide | assumption | omega) h1,
      c1 78 (.ref 3) (.bool false) λw v0 hb h0=>Ij h0 sy.2 (by first | decide | assumption | omega) h2,
      c2 80 (.ref 2) (.ref 3) (.tup3 (.ref 4) (.ref 5) (.ref 6)) λw v0 v1 hb h0 h1=>Fd h0 h1 sx.2 sy.2 (by first | decide | assumption | omega) (by first | decide | assumption | omega) (Int.ne_of_gt (Cy y)),
      c2 79 (.ref 7) (.ref 5) (.ref 8) λw v0 v1 hb h0 h1=>Ko h0 h1 sx.1 sy.2.div (by first | decide | assumption | omega) (by first | decide | assumption | omega),
      c2 79 (.ref 9) (.ref 4) (.ref 10) λw v0 v1 hb h0 h1=>Ko h0 h1 sy.1 sx.2.div (by first | decide | assumption | omega) (by first | decide | assumption | omega),
      c2 134 (.ref 8) (.ref 10) (.ref 11) λw v0 v1 hb h0 h1=>Ael h0 h1 (sx.1.mul sy.2.div) (sy.1.mul sx.2.div) (by first | decide | assumption | omega) (by first | decide | assumption | omega),
      c2 80 (.ref 11) (.ref 6) (.tup3 (.ref 12) (.ref 13) (.ref 14)) λw v0 v1 hb h0 h1=>Fd h0 h1 ((sx.1.mul sy.2.div).add (sy.1.mul sx.2.div)) (Dc sx.2 sy.2) (by first | decide | assumption | omega) (by first | decide | assumption | omega) (L7 _ y),
      c2 79 (.ref 4) (.ref 5) (.ref 15) λw v0 v1 hb h0 h1=>Ko h0 h1 sx.2.div sy.2.div (by first | decide | assumption | omega) (by first | decide | assumption | omega),
      c2 79 (.ref 13) (.ref 15) (.ref 16) λw v0 v1 hb h0 h1=>Ko h0 h1 (Dc sx.2 sy.2).div (sx.2.div.mul sy.2.div) (by first | decide | assumption | omega) (by first | decide | assumption | omega)],
     loads:=[⟨34,2,0,(.ref 2),λw q h=>Bs w q h⟩,
      ⟨34,2,1,(.ref 3),λw q h=>Bs w q h⟩,
      ⟨34,0,0,(.ref 7),λw q h=>Bc w q h⟩,
      ⟨34,0,5,(.ref 5),λw q h=>Ah w q h⟩,
      ⟨34,0,1,(.ref 9),λw q h=>Bc w q h⟩,
      ⟨34,0,4,(.ref 4),λw q h=>Ah w q h⟩,
      ⟨34,0,7,(.ref 11),λw q h=>Ah w q h⟩,
      ⟨34,0,6,(.ref 6),λw q h=>Ah w q h⟩,
      ⟨34,0,8,(.ref 12),λw q h=>Ah w q h⟩,
      ⟨34,0,9,(.ref 13),λw q h=>Ah w q h⟩,
      ⟨36,0,10,(.ref 17),λw q h=>AH w q h⟩],
     allocs:=[⟨36,2,_,AN,AP⟩,
      ⟨34,3,_,AU,AT⟩],
     boxes:=[⟨36,(.ref 0),0,λw v h=>AL w v h⟩,
      ⟨36,(.ref 1),1,λw v h=>AL w v h⟩],
     stores:=[⟨34,0,3,(.ref 4),4,(Ag _)⟩,
      ⟨34,0,3,(.ref 5),5,(Ag _)⟩,
      ⟨34,0,3,(.ref 6),6,(Ag _)⟩,
      ⟨34,0,3,(.ref 11),7,(Ag _)⟩,
      ⟨34,0,7,(.ref 12),8,(AM _ _)⟩,
      ⟨34,0,6,(.ref 13),9,(AM _ _)⟩,
      ⟨36,0,2,(.ref 17),10,AK⟩],
     flds:=[⟨36,1,2,Et⟩,
      ⟨36,0,0,DC⟩] }
   Tryz.func123 ⟨hva,hvb,trivial⟩ (by kernel_rfl)
theorem AdX{x y:Rat}{i j:Nat}(va:Value)(vb:Value)(W:World)(hva:(An x).p va W)(hvb:(An y).p vb W)(sx:AR x i)(sy:AR y j)(_hi:i≤250000000)(_hj:j≤250000000)(h1:(x.den:Int)≠1):Calls Tryz.prog 123 #[va,vb] W (Aj (An (x+y)) W):=by
  let E:List PF:=[(An x),(An y),(Af (x.den:Int)),(Af (y.den:Int)),(Af ((x.den:Int) / ((Int.gcd (x.den:Int) (y.den:Int):Nat):Int))),(Af ((y.den:Int) / ((Int.gcd (x.den:Int) (y.den:Int):Nat):Int))),(Af ((Int.gcd (x.den:Int) (y.den:Int):Nat):Int)),(Af x.num),(Af (x.num*((y.den:Int) / ((Int.gcd (x.den:Int) (y.den:Int):Nat):Int)))),(Af y.num),(Af (y.num*((x.den:Int) / ((Int.gcd (x.den:Int) (y.den:Int):Nat):Int)))),(Af ((x.num*((y.den:Int) / ((Int.gcd (x.den:Int) (y.den:Int):Nat):Int)))+(y.num*((x.den:Int) / ((Int.gcd (x.den:Int) (y.den:Int):Nat):Int))))),(Af (((x.num*((y.den:Int) / ((Int.gcd (x.den:Int) (y.den:Int):Nat):Int)))+(y.num*((x.den:Int) / ((Int.gcd (x.den:Int) (y.den:Int):Nat):Int)))) / ((Int.gcd ((x.num*((y.den:Int) / ((Int.gcd (x.den:Int) (y.den:Int):Nat):Int)))+(y.num*((x.den:Int) / ((Int.gcd (x.den:Int) (y.den:Int):Nat):Int)))) ((Int.gcd (x.den:Int) (y.den:Int):Nat):Int):Nat):Int))),(Af (((Int.gcd (x.den:Int) (y.den:Int):Nat):Int) / ((Int.gcd ((x.num*((y.den:Int) / ((Int.gcd (x.den:Int) (y.den:Int):Nat):Int)))+(y.num*((x.den:Int) / ((Int.gcd (x.den:Int) (y.den:Int):Nat):Int)))) ((Int.gcd (x.den:Int) (y.den:Int):Nat):Int):Nat):Int))),(Af ((Int.gcd ((x.num*((y.den:Int) / ((Int.gcd (x.den:Int) (y.den:Int):Nat):Int)))+(y.num*((x.den:Int) / ((Int.gcd (x.den:Int) (y.den:Int):Nat):Int)))) ((Int.gcd (x.den:Int) (y.den:Int):Nat):Int):Nat):Int)),(Af (((x.den:Int) / ((Int.gcd (x.den:Int) (y.den:Int):Nat):Int))*((y.den:Int) / ((Int.gcd (x.den:Int) (y.den:Int):Nat):Int)))),(Af ((((Int.gcd (x.den:Int) (y.den:Int):Nat):Int) / ((Int.gcd ((x.num*((y.den:Int) / ((Int.gcd (x.den:Int) (y.den:Int):Nat):Int)))+(y.num*((x.den:Int) / ((Int.gcd (x.den:Int) (y.den:Int):Nat):Int)))) ((Int.gcd (x.den:Int) (y.den:Int):Nat):Int):Nat):Int))*(((x.den:Int) / ((Int.gcd (x.den:Int) (y.den:Int):Nat):Int))*((y.den:Int) / ((Int.gcd (x.den:Int) (y.den:Int):Nat):Int))))),(An (x+y))]
  let EB:List CF:=[(A8 x),(A8 y),Bd,AS,(Ak ((x.den:Int) / ((Int.gcd (x.den:Int) (y.den:Int):Nat):Int))),(Ak ((y.den:Int) / ((Int.gcd (x.den:Int) (y.den:Int):Nat):Int))),(Ak ((Int.gcd (x.den:Int) (y.den:Int):Nat):Int)),(Ak ((x.num*((y.den:Int) / ((Int.gcd (x.den:Int) (y.den:Int):Nat):Int)))+(y.num*((x.den:Int) / ((Int.gcd (x.den:Int) (y.den:Int):Nat):Int))))),(Ak (((x.num*((y.den:Int) / ((Int.gcd (x.den:Int) (y.den:Int):Nat):Int)))+(y.num*((x.den:Int) / ((Int.gcd (x.den:Int) (y.den:Int):Nat):Int)))) / ((Int.gcd ((x.num*((y.den:Int) / ((Int.gcd (x.den:Int) (y.den:Int):Nat):Int)))+(y.num*((x.den:Int) / ((Int.gcd (x.den:Int) (y.den:Int):Nat):Int)))) ((Int.gcd (x.den:Int) (y.den:Int):Nat):Int):Nat):Int))),(Ak (((Int.gcd (x.den:Int) (y.den:Int):Nat):Int) / ((Int.gcd ((x.num*((y.den:Int) / ((Int.gcd (x.den:Int) (y.den:Int):Nat):Int)))+(y.num*((x.den:Int) / ((Int.gcd (x.den:Int) (y.den:Int):Nat):Int)))) ((Int.gcd (x.den:Int) (y.den:Int):Nat):Int):Nat):Int))),(A8 (x+y))]
  exact Av (E:=E) (EB:=EB) (fs:=[(.ref 0),(.ref 1)]) (r:=(.ref 17))
   { pures:=[p2 (.bld 36 [0,1]) (.ref 12) (.ref 16) (.ref 17) λ_ _ _ _ _ hx hy=>BA (Hp x y _ _ rfl rfl).1.symm (Hp x y _ _ rfl rfl).2.symm hx hy],
     calls:=[c1 78 (.ref 2) (.bool false) λw v0 hb h0=>Ij h0 sx.2 (by first | decide | assumption | omega) h1,
      c2 80 (.ref 2) (.ref 3) (.tup3 (.ref 4) (.ref 5) (.ref 6)) λw v0 v1 hb h0 h1=>Fd h0 h1 sx.2 sy.2 (by first | decide | assumption | omega) (by first | decide | assumption | omega) (Int.ne_of_gt (Cy y)),
      c2 79 (.ref 7) (.ref 5) (.ref 8) λw v0 v1 hb h0 h1=>Ko h0 h1 sx.1 sy.2.div (by first | decide | assumption | omega) (by first | decide | assumption | omega),
      c2 79 (.ref 9) (.ref 4) (.ref 10) λw v0 v1 hb h0 h1=>Ko h0 h1 sy.1 sx.2.div (by first | decide | assumption | omega) (by first | decide | assumption | omega),
      c2 134 (.ref 8) (.ref 10) (.ref 11) λw v0 v1 hb h0 h1=>Ael h0 h1 (sx.1.mul sy.2.div) (sy.1.mul sx.2.div) (by first | decide | assumption | omega) (by first | decide | assumption | omega),
      c2 80 (.ref 11) (.ref 6) (.tup3 (.ref 12) (.ref 13) (.ref 14)) λw v0 v1 hb h0 h1=>Fd h0 h1 ((sx.1.mul sy.2.div).add (sy.1.mul sx.2.div)) (Dc sx.2 sy.2) (by first | decide | assumption | omega) (by first | decide | assumption | omega) (L7 _ y),
      c2 79 (.ref 4) (.ref 5) (.ref 15) λw v0 v1 hb h0 h1=>Ko h0 h1 sx.2.div sy.2.div (by first | decide | assumption | omega) (by first | decide | assumption | omega),
      c2 79 (.ref 13) (.ref 15) (.ref 16) λw v0 v1 hb h0 h1=>Ko h0 h1 (Dc sx.2 sy.2).div (sx.2.div.mul sy.2.div) (by first | decide | assumption | omega) (by first | decide | assumption | omega)],
     loads:=[⟨34,2,0,(.ref 2),λw q h=>Bs w q h⟩,
      ⟨34,2,1,(.ref 3),λw q h=>Bs w q h⟩,
      ⟨34,0,0,(.ref 7),λw q h=>Bc w q h⟩,
      ⟨34,0,5,(.ref 5),λw q h=>Ah w q h⟩,
      ⟨34,0,1,(.ref 9),λw q h=>Bc w q h⟩,
      ⟨34,0,4,(.ref 4),λw q h=>Ah w q h⟩,
      ⟨34,0,7,(.ref 11),λw q h=>Ah w q h⟩,
      ⟨34,0,6,(.ref 6),λw q h=>Ah w q h⟩,
      ⟨34,0,8,(.ref 12),λw q h=>Ah w q h⟩,
      ⟨34,0,9,(.ref 13),λw q h=>Ah w q h⟩,
      ⟨36,0,10,(.ref 17),λw q h=>AH w q h⟩],
     allocs:=[⟨36,2,_,AN,AP⟩,
      ⟨34,3,_,AU,AT⟩],
     boxes:=[⟨36,(.ref 0),0,λw v h=>AL w v h⟩,
      ⟨36,(.ref 1),1,λw v h=>AL w v h⟩],
     stores:=[⟨34,0,3,(.ref 4),4,(Ag _)⟩,
      ⟨34,0,3,(.ref 5),5,(Ag _)⟩,
      ⟨34,0,3,(.ref 6),6,(Ag _)⟩,
      ⟨34,0,3,(.ref 11),7,(Ag _)⟩,
      ⟨34,0,7,(.ref 12),8,(AM _ _)⟩,
      ⟨34,0,6,(.ref 13),9,(AM _ _)⟩,
      ⟨36,0,2,(.ref 17),10,AK⟩],
     flds:=[⟨36,1,2,Et⟩,
      ⟨36,0,0,DC⟩] }
   Tryz.func123 ⟨hva,hvb,trivial⟩ (by kernel_rfl)
theorem AfP{x y:Rat}{i j:Nat}(va:Value)(vb:Value)(W:World)(hva:(An x).p va W)(hvb:(An y).p vb W)(sx:AR x i)(sy:AR y j)(_hi:i≤250000000)(_hj:j≤250000000)(h1:(x.den:Int)=1)(h2:(y.den:Int)=1):Calls Tryz.prog 48 #[va,vb] W (Aj (An (x*y)) W):=by
  let E:List PF:=[(An x),(An y),(Af (x.den:Int)),(Af (y.den:Int)),(Af x.num),(Af y.num),(Af (x.num*y.num)),(Af 1),(An (x*y))]
  let EB:List CF:=[(A8 x),(A8 y),Bd,(A8 (x*y))]
  exact Av (E:=E) (EB:=EB) (fs:=[(.ref 0),(.ref 1)]) (r:=(.ref 8))
   { pures:=[p2 (.bld 36 [0,1]) (.ref 6) (.ref 7) (.ref 8) λ_ _ _ _ _ hx hy=>BA (Xy x y h1 h2).1.symm (Xy x y h1 h2).2.symm hx hy],
     calls:=[c1 78 (.ref 2) (.bool true) λw v0 hb h0=>JB h0 sx.2 (by first | decide | assumption | omega) h1,
      c1 78 (.ref 3) (.bool true) λw v0 hb h0=>JB h0 sy.2 (by first | decide | assumption | omega) h2,
      c2 79 (.ref 4) (.ref 5) (.ref 6) λw v0 v1 hb h0 h1=>Ko h0 h1 sx.1 sy.1 (by first | decide | assumption | omega) (by first | decide | assumption | omega),
      c1 77 (.int .i64 1) (.ref 7) λw v0 hb h0=>kOf 1 (by omega) (by omega) h0],
     loads:=[⟨34,2,0,(.ref 2),λw q h=>Bs w q h⟩,
      ⟨34,2,1,(.ref 3),λw q h=>Bs w q h⟩,
      ⟨34,0,0,(.ref 4),λw q h=>Bc w q h⟩,
      ⟨34,0,1,(.ref 5),λw q h=>Bc w q h⟩,
      ⟨36,0,3,(.ref 8),λw q h=>AH w q h⟩],
     allocs:=[⟨36,2,_,AN,AP⟩],
     boxes:=[⟨36,(.ref 0),0,λw v h=>AL w v h⟩,
      ⟨36,(.ref 1),1,λw v h=>AL w v h⟩],
     stores:=[⟨36,0,2,(.ref 8),3,AK⟩],
     flds:=[⟨36,1,2,Et⟩,
      ⟨36,0,0,DC⟩] }
   Tryz.func48 ⟨hva,hvb,trivial⟩ (by kernel_rfl)
theorem AfQ{x y:Rat}{i j:Nat}(va:Value)(vb:Value)(W:World)(hva:(An x).p va W)(hvb:(An y).p vb W)(sx:AR x i)(sy:AR y j)(_hi:i≤250000000)(_hj:j≤250000000)(h1:(x.den:Int)=1)(h2:(y.den:Int)≠1):Calls Tryz.prog 48 #[va,vb] W (Aj (An (x*y)) W):=by
  let E:List PF:=[(An x),(An y),(Af (x.den:Int)),(Af (y.den:Int)),(Af x.num),(Af (x.num / ((Int.gcd x.num (y.den:Int):Nat):Int))),(Af ((y.den:Int) / ((Int.gcd x.num (y.den:Int):Nat):Int))),(Af ((Int.gcd x.num (y.den:Int):Nat):Int)),(Af y.num),(Af (y.num / ((Int.gcd y.num (x.den:Int):Nat):Int))),(Af ((x.den:Int) / ((Int.gcd y.num (x.den:Int):Nat):Int))),(Af ((Int.gcd y.num (x.den:Int):Nat):Int)),(Af ((x.num / ((Int.gcd x.num (y.den:Int):Nat):Int))*(y.num / ((Int.gcd y.num (x.den:Int):Nat):Int)))),(Af (((x.den:Int) / ((Int.gcd y.num (x.den:Int):Nat):Int))*((y.den:Int) / ((Int.gcd x.num (y.den:Int):Nat):Int)))),(An (x*y))]
  let EB:List CF:=[(A8 x),(A8 y),Bd,AS,(Ak (x.num / ((Int.gcd x.num (y.den:Int):Nat):Int))),(Ak ((y.den:Int) / ((Int.gcd x.num (y.den:Int):Nat):Int))),(Ak ((Int.gcd x.num (y.den:Int):Nat):Int)),(Ak (y.num / ((Int.gcd y.num (x.den:Int):Nat):Int))),(Ak ((x.den:Int) / ((Int.gcd y.num (x.den:Int):Nat):Int))),(Ak ((Int.gcd y.num (x.den:Int):Nat):Int)),(A8 (x*y))]
  exact Av (E:=E) (EB:=EB) (fs:=[(.ref 0),(.ref 1)]) (r:=(.ref 14))
   { pures:=[p2 (.bld 36 [0,1]) (.ref 12) (.ref 13) (.ref 14) λ_ _ _ _ _ hx hy=>BA (KB x y).1.symm (KB x y).2.symm hx hy],
     calls:=[c1 78 (.ref 2) (.bool true) λw v0 hb h0=>JB h0 sx.2 (by first | decide | assumption | omega) h1,
      c1 78 (.ref 3) (.bool false) λw v0 hb h0=>Ij h0 sy.2 (by first | decide | assumption | omega) h2,
      c2 80 (.ref 4) (.ref 3) (.tup3 (.ref 5) (.ref 6) (.ref 7)) λw v0 v1 hb h0 h1=>Fd h0 h1 sx.1 sy.2 (by first | decide | assumption | omega) (by first | decide | assumption | omega) (Int.ne_of_gt (Cy y)),
      c2 80 (.ref 8) (.ref 2) (.tup3 (.ref 9) (.ref 10) (.ref 11)) λw v0 v1 hb h0 h1=>Fd h0 h1 sy.1 sx.2 (by first | decide | assumption | omega) (by first | decide | assumption | omega) (Int.ne_of_gt (Cy x)),
      c2 79 (.ref 5) (.ref 9) (.ref 12) λw v0 v1 hb h0 h1=>Ko h0 h1 sx.1.div sy.1.div (by first | decide | assumption | omega) (by first | decide | assumption | omega),
      c2 79 (.ref 10) (.ref 6) (.ref 13) λw v0 v1 hb h0 h1=>Ko h0 h1 sx.2.div sy.2.div (by first | decide | assumption | omega) (by first | decide | assumption | omega)],
     loads:=[⟨34,2,0,(.ref 2),λw q h=>Bs w q h⟩,
      ⟨34,2,1,(.ref 3),λw q h=>Bs w q h⟩,
      ⟨34,0,0,(.ref 4),λw q h=>Bc w q h⟩,
      ⟨34,0,1,(.ref 8),λw q h=>Bc w q h⟩,
      ⟨34,0,4,(.ref 5),λw q h=>Ah w q h⟩,
      ⟨34,0,7,(.ref 9),λw q h=>Ah w q h⟩,
      ⟨34,0,8,(.ref 10),λw q h=>Ah w q h⟩,
      ⟨34,0,5,(.ref 6),λw q h=>Ah w q h⟩,
      ⟨36,0,10,(.ref 14),λw q h=>AH w q h⟩],
     allocs:=[⟨36,2,_,AN,AP⟩,
      ⟨34,3,_,AU,AT⟩],
     boxes:=[⟨36,(.ref 0),0,λw v h=>AL w v h⟩,
      ⟨36,(.ref 1),1,λw v h=>AL w v h⟩],
     stores:=[⟨34,0,3,(.ref 5),4,(Ag _)⟩,
      ⟨34,0,3,(.ref 6),5,(Ag _)⟩,
      ⟨34,0,3,(.ref 7),6,(Ag _)⟩,
      ⟨34,0,3,(.ref 9),7,(Ag _)⟩,
      ⟨34,0,3,(.ref 10),8,(Ag _)⟩,
      ⟨34,0,3,(.ref 11),9,(Ag _)⟩,
      ⟨36,0,2,(.ref 14),10,AK⟩],
     flds:=[⟨36,1,2,Et⟩,
      ⟨36,0,0,DC⟩] }
   Tryz.func48 ⟨hva,hvb,trivial⟩ (by kernel_rfl)
theorem Aei{x y:Rat}{i j:Nat}(va:Value)(vb:Value)(W:World)(hva:(An x).p va W)(hvb:(An y).p vb W)(sx:AR x i)(sy:AR y j)(_hi:i≤250000000)(_hj:j≤250000000)(h1:(x.den:Int)≠1):Calls Tryz.prog 48 #[va,vb] W (Aj (An (x*y)) W):=by
  let E:List PF:=[(An x),(An y),(Af (x.den:Int)),(Af x.num),(Af (y.den:Int)),(Af (x.num / ((Int.gcd x.num (y.den:Int):Nat):Int))),(Af ((y.den:Int) / ((Int.gcd x.num (y.den:Int):Nat):Int))),(Af ((Int.gcd x.num (y.den:Int):Nat):Int)),(Af y.num),(Af (y.num / ((Int.gcd y.num (x.den:Int):Nat):Int))),(Af ((x.den:Int) / ((Int.gcd y.num (x.den:Int):Nat):Int))),(Af ((Int.gcd y.num (x.den:Int):Nat):Int)),(Af ((x.num / ((Int.gcd x.num (y.den:Int):Nat):Int))*(y.num / ((Int.gcd y.num (x.den:Int):Nat):Int)))),(Af (((x.den:Int) / ((Int.gcd y.num (x.den:Int):Nat):Int))*((y.den:Int) / ((Int.gcd x.num (y.den:Int):Nat):Int)))),(An (x*y))]
  let EB:List CF:=[(A8 x),(A8 y),Bd,AS,(Ak (x.num / ((Int.gcd x.num (y.den:Int):Nat):Int))),(Ak ((y.den:Int) / ((Int.gcd x.num (y.den:Int):Nat):Int))),(Ak ((Int.gcd x.num (y.den:Int):Nat):Int)),(Ak (y.num / ((Int.gcd y.num (x.den:Int):Nat):Int))),(Ak ((x.den:Int) / ((Int.gcd y.num (x.den:Int):Nat):Int))),(Ak ((Int.gcd y.num (x.den:Int):Nat):Int)),(A8 (x*y))]
  exact Av (E:=E) (EB:=EB) (fs:=[(.ref 0),(.ref 1)]) (r:=(.ref 14))
   { pures:=[p2 (.bld 36 [0,1]) (.ref 12) (.ref 13) (.ref 14) λ_ _ _ _ _ hx hy=>BA (KB x y).1.symm (KB x y).2.symm hx hy],
     calls:=[c1 78 (.ref 2) (.bool false) λw v0 hb h0=>Ij h0 sx.2 (by first | decide | assumption | omega) h1,
      c2 80 (.ref 3) (.ref 4) (.tup3 (.ref 5) (.ref 6) (.ref 7)) λw v0 v1 hb h0 h1=>Fd h0 h1 sx.1 sy.2 (by first | decide | assumption | omega) (by first | decide | assumption | omega) (Int.ne_of_gt (Cy y)),
      c2 80 (.ref 8) (.ref 2) (.tup3 (.ref 9) (.ref 10) (.ref 11)) λw v0 v1 hb h0 h1=>Fd h0 h1 sy.1 sx.2 (by first | decide | assumption | omega) (by first | decide | assumption | omega) (Int.ne_of_gt (Cy x)),
      c2 79 (.ref 5) (.ref 9) (.ref 12) λw v0 v1 hb h0 h1=>Ko h0 h1 sx.1.div sy.1.div (by first | decide | assumption | omega) (by first | decide | assumption | omega),
      c2 79 (.ref 10) (.ref 6) (.ref 13) λw v0 v1 hb h0 h1=>Ko h0 h1 sx.2.div sy.2.div (by first | decide | assumption | omega) (by first | decide | assumption | omega)],
     loads:=[⟨34,2,0,(.ref 2),λw q h=>Bs w q h⟩,
      ⟨34,0,0,(.ref 3),λw q h=>Bc w q h⟩,
      ⟨34,2,1,(.ref 4),λw q h=>Bs w q h⟩,
      ⟨34,0,1,(.ref 8),λw q h=>Bc w q h⟩,
      ⟨34,0,4,(.ref 5),λw q h=>Ah w q h⟩,
      ⟨34,0,7,(.ref 9),λw q h=>Ah w q h⟩,
      ⟨34,0,8,(.ref 10),λw q h=>Ah w q h⟩,
      ⟨34,0,5,(.ref 6),λw q h=>Ah w q h⟩,
      ⟨36,0,10,(.ref 14),λw q h=>AH w q h⟩],
     allocs:=[⟨36,2,_,AN,AP⟩,
      ⟨34,3,_,AU,AT⟩],
     boxes:=[⟨36,(.ref 0),0,λw v h=>AL w v h⟩,
      ⟨36,(.ref 1),1,λw v h=>AL w v h⟩],
     stores:=[⟨34,0,3,(.ref 5),4,(Ag _)⟩,
      ⟨34,0,3,(.ref 6),5,(Ag _)⟩,
      ⟨34,0,3,(.ref 7),6,(Ag _)⟩,
      ⟨34,0,3,(.ref 9),7,(Ag _)⟩,
      ⟨34,0,3,(.ref 10),8,(Ag _)⟩,
      ⟨34,0,3,(.ref 11),9,(Ag _)⟩,
      ⟨36,0,2,(.ref 14),10,AK⟩],
     flds:=[⟨36,1,2,Et⟩,
      ⟨36,0,0,DC⟩] }
   Tryz.func48 ⟨hva,hvb,trivial⟩ (by kernel_rfl)
theorem iG{x y:Rat}{i j:Nat}(va:Value)(vb:Value)(W:World)(hva:(An x).p va W)(hvb:(An y).p vb W)(sx:AR x i)(sy:AR y j)(_hi:i≤250000000)(_hj:j≤250000000):Calls Tryz.prog 123 #[va,vb] W (Aj (An (x+y)) W):=by
 by_cases h1:(x.den:Int)=1
 ·by_cases h2:(y.den:Int)=1
  ·exact Ad6 va vb W hva hvb sx sy _hi _hj h1 h2
  ·exact AdI va vb W hva hvb sx sy _hi _hj h1 h2
 ·exact AdX va vb W hva hvb sx sy _hi _hj h1
theorem kD{x y:Rat}{i j:Nat}(va:Value)(vb:Value)(W:World)(hva:(An x).p va W)(hvb:(An y).p vb W)(sx:AR x i)(sy:AR y j)(_hi:i≤250000000)(_hj:j≤250000000):Calls Tryz.prog 48 #[va,vb] W (Aj (An (x*y)) W):=by
 by_cases h1:(x.den:Int)=1
 ·by_cases h2:(y.den:Int)=1
  ·exact AfP va vb W hva hvb sx sy _hi _hj h1 h2
  ·exact AfQ va vb W hva hvb sx sy _hi _hj h1 h2
 ·exact Aei va vb W hva hvb sx sy _hi _hj h1
theorem Kr{x:Rat}{i:Nat}(va:Value)(W:World)(hva:(An x).p va W)(sx:AR x i)(_hi:i≤250000000):Calls Tryz.prog 95 #[va] W (Aj (Am (.int .i64 (Int.sign x.num))) W):=by
  let E:List PF:=[(An x),(Af x.num),(Am (.int .i64 (Int.sign x.num)))]
  let EB:List CF:=[(A8 x)]
  exact Av (E:=E) (EB:=EB) (fs:=[(.ref 0)]) (r:=(.ref 2))
   { calls:=[c1 114 (.ref 1) (.ref 2) λw v0 hb h0=>Ab6 h0 sx.1 (by first | decide | assumption | omega)],
     loads:=[⟨34,0,0,(.ref 1),λw q h=>Bc w q h⟩],
     boxes:=[⟨36,(.ref 0),0,λw v h=>AL w v h⟩],
     flds:=[⟨36,0,0,DC⟩] }
   Tryz.func95 ⟨hva,trivial⟩ (by kernel_rfl)
theorem lU{x:Rat}{i:Nat}(va:Value)(W:World)(hva:(An x).p va W)(sx:AR x i)(_hi:i≤250000000)(nx:x.num<0):Calls Tryz.prog 122 #[va] W (Aj (An x⁻¹) W):=by
  let E:List PF:=[(An x),(Am (.int .i64 (Int.sign x.num))),(Af (x.den:Int)),(Af (-(x.den:Int))),(Af x.num),(Af (-x.num)),(An x⁻¹)]
  let EB:List CF:=[(A8 x),Bd,(A8 x⁻¹)]
  exact Av (E:=E) (EB:=EB) (fs:=[(.ref 0)]) (r:=(.ref 6))
   { pures:=[p2 (.bin .lss 3 3) (.ref 1) (.int .i64 0) (.bool true) λ_ _ _ _ _ hx hy=>GV (r:=true) (by rw [Int.sign_eq_neg_one_of_neg nx]; rfl) hx hy,
      p2 (.bld 36 [0,1]) (.ref 3) (.ref 5) (.ref 6) λ_ _ _ _ _ hx hy=>BA (NL x nx).1.symm (NL x nx).2.symm hx hy],
     calls:=[c1 95 (.ref 0) (.ref 1) λw v0 hb h0=>Kr _ _ h0 sx (by omega),
      c1 87 (.ref 2) (.ref 3) λw v0 hb h0=>Agu h0 sx.2 (by first | decide | assumption | omega),
      c1 87 (.ref 4) (.ref 5) λw v0 hb h0=>Agu h0 sx.1 (by first | decide | assumption | omega)],
     loads:=[⟨36,0,0,(.ref 0),λw q h=>AH w q h⟩,
      ⟨34,2,0,(.ref 2),λw q h=>Bs w q h⟩,
      ⟨34,0,0,(.ref 4),λw q h=>Bc w q h⟩,
      ⟨36,0,2,(.ref 6),λw q h=>AH w q h⟩],
     allocs:=[⟨36,1,_,AN,AP⟩],
     boxes:=[⟨36,(.ref 0),0,λw v h=>AL w v h⟩],
     stores:=[⟨36,0,1,(.ref 6),2,AK⟩],
     flds:=[⟨36,1,2,Et⟩,
      ⟨36,0,0,DC⟩] }
   Tryz.func122 ⟨hva,trivial⟩ (by kernel_rfl)
theorem kT{x:Rat}{i:Nat}(va:Value)(W:World)(hva:(An x).p va W)(sx:AR x i)(_hi:i≤250000000)(nx:0<x.num):Calls Tryz.prog 122 #[va] W (Aj (An x⁻¹) W):=by
  let E:List PF:=[(An x),(Am (.int .i64 (Int.sign x.num))),(Af (x.den:Int)),(Af x.num),(An x⁻¹)]
  let EB:List CF:=[(A8 x),Bd,(A8 x⁻¹)]
  exact Av (E:=E) (EB:=EB) (fs:=[(.ref 0)]) (r:=(.ref 4))
   { pures:=[p2 (.bin .lss 3 3) (.ref 1) (.int .i64 0) (.bool false) λ_ _ _ _ _ hx hy=>GV (r:=false) (by rw [Int.sign_eq_one_of_pos nx]; rfl) hx hy,
      p2 (.bld 36 [0,1]) (.ref 2) (.ref 3) (.ref 4) λ_ _ _ _ _ hx hy=>BA (Nv x nx).1.symm (Nv x nx).2.symm hx hy],
     calls:=[c1 95 (.ref 0) (.ref 1) λw v0 hb h0=>Kr _ _ h0 sx (by omega)],
     loads:=[⟨36,0,0,(.ref 0),λw q h=>AH w q h⟩,
      ⟨34,2,0,(.ref 2),λw q h=>Bs w q h⟩,
      ⟨34,0,0,(.ref 3),λw q h=>Bc w q h⟩,
      ⟨36,0,2,(.ref 4),λw q h=>AH w q h⟩],
     allocs:=[⟨36,1,_,AN,AP⟩],
     boxes:=[⟨36,(.ref 0),0,λw v h=>AL w v h⟩],
     stores:=[⟨36,0,1,(.ref 4),2,AK⟩],
     flds:=[⟨36,1,2,Et⟩,
      ⟨36,0,0,DC⟩] }
   Tryz.func122 ⟨hva,trivial⟩ (by kernel_rfl)
theorem S_{x:Rat}{i:Nat}(va:Value)(W:World)(hva:(An x).p va W)(sx:AR x i)(_hi:i≤250000000):Calls Tryz.prog 56 #[va] W (Aj (An (-x)) W):=by
  let E:List PF:=[(An x),(Af x.num),(Af (-x.num)),(Af (x.den:Int)),(An (-x))]
  let EB:List CF:=[(A8 x),Bd,(A8 (-x))]
  exact Av (E:=E) (EB:=EB) (fs:=[(.ref 0)]) (r:=(.ref 4))
   { pures:=[p2 (.bld 36 [0,1]) (.ref 2) (.ref 3) (.ref 4) λ_ _ _ _ _ hx hy=>BA (Rat.neg_num x).symm (by rw [Rat.neg_den]) hx hy],
     calls:=[c1 87 (.ref 1) (.ref 2) λw v0 hb h0=>Agu h0 sx.1 (by first | decide | assumption | omega)],
     loads:=[⟨34,0,0,(.ref 1),λw q h=>Bc w q h⟩,
      ⟨34,2,0,(.ref 3),λw q h=>Bs w q h⟩,
      ⟨36,0,2,(.ref 4),λw q h=>AH w q h⟩],
     allocs:=[⟨36,1,_,AN,AP⟩],
     boxes:=[⟨36,(.ref 0),0,λw v h=>AL w v h⟩],
     stores:=[⟨36,0,1,(.ref 4),2,AK⟩],
     flds:=[⟨36,0,0,DC⟩,
      ⟨36,1,2,Et⟩] }
   Tryz.func56 ⟨hva,trivial⟩ (by kernel_rfl)
theorem UK{z:Int}(W:World)(hz0 : -9223372036854775808≤z)(hz1:z≤9223372036854775807):Calls Tryz.prog 47 #[.int .i64 z] W (Aj (An (z:Rat)) W):=by
  let E:List PF:=[(Am (.int .i64 z)),(Af z),(Af 1),(An ((z:Int):Rat))]
  let EB:List CF:=[Bd,(A8 ((z:Int):Rat))]
  exact Av (E:=E) (EB:=EB) (fs:=[(.ref 0)]) (r:=(.ref 3))
   { pures:=[p2 (.bld 36 [0,1]) (.ref 1) (.ref 2) (.ref 3) λ_ _ _ _ _ hx hy=>BA (HU z).1.symm (HU z).2.symm hx hy],
     calls:=[c1 77 (.ref 0) (.ref 1) λw v0 hb h0=>kOf z hz0 hz1 h0,
      c1 77 (.int .i64 1) (.ref 2) λw v0 hb h0=>kOf 1 (by omega) (by omega) h0],
     loads:=[⟨36,0,1,(.ref 3),λw q h=>AH w q h⟩],
     allocs:=[⟨36,0,_,AN,AP⟩],
     stores:=[⟨36,0,0,(.ref 3),1,AK⟩] }
   Tryz.func47 ⟨rfl,trivial⟩ (by kernel_rfl)
def C2(x y:Rat)(k:Nat):Rat:=if k=0 then x else x+y
def cV(w:World)(g:Nat)(y:Rat):Prop:=∃ b A k c b' A' k' c',w.heap[g]? = some (.cells #[.bool b,.slice A k c,.bool b',.slice A' k' c'] 36 (0,0))∧B4 w (.agg #[.bool b,.slice A k c,.bool b',.slice A' k' c']) y.num (y.den:Int)
theorem Afd{ρ:Operand→Value}{w:World}{x:Operand}{A:Option Addr}{k c:Nat}(hx:(Am (.slice A k c)).p (ρ x) w):FU (.call { callee:=.builtin .len,args:=#[x],argTypes:=#[40] }) ρ w (Am (.int .i64 k)):=by
 have hx:ρ x = .slice A k c:=hx;exact BY λo ho=>by unfold execOp; rw [ho]; simp [go_sem,hx]
theorem wL{ρ:Operand→Value}{w:World}{x y:Operand}{g k:Nat}(hk:k<1)(hx:(Am (.slice (some ⟨g,0,none⟩) 1 1)).p (ρ x) w)(hy:(Am (.int .i64 (k:Int))).p (ρ y) w):FU (.indexAddr 40 x y) ρ w (Am (.pointer (some ⟨g,0,none⟩))):=by
 have e:k=0:=by omega
 subst e;have hx:ρ x = .slice (some ⟨g,0,none⟩) 1 1:=hx;have hy:ρ y = .int .i64 0:=hy;exact BY λo ho=>by unfold execOp; rw [ho]; simp [go_sem,hx,hy]
section
variable {ops : Array Oper} {N : Nat} {Wb W0 : World} {a0 : Act} {F : List PF} {BX : List Bm} {AD : List (Nat × Nat × Nat)} {i : Nat} {g : Option (Nat × Bool)}
theorem fX(hP:EV ops N BX AD){x:Operand}{r:Nat}{y:Rat}(ho:C7 ops i g (.load 36 x))(hp:BF BX i=true)(hna:Du AD i=true)(hg:Mh ops N Wb W0 a0 F BX AD i g true)(hx:RW ops N Wb W0 a0 F BX AD i x (Am (.pointer (some ⟨r,0,none⟩))))
  (hr:cV Wb r y) (hF:F.getD i Ca=An y):CU ops N Wb W0 a0 F BX AD i:=
 C9 hP ho hp hna λm a w hI hrd=>by
  have e:a.eval x = .pointer (some ⟨r,0,none⟩):=hx m a w hI hrd;obtain ⟨b,A,k,c,b',A',k',c',hh,hq⟩:=hr;have hh':=(hI.below.block r (AJ hh)).trans hh;obtain ⟨e0,e1,e2,e3⟩:=Ev hh';refine ⟨hg m a w hI hrd,.agg #[.bool b,.slice A k c,.bool b',.slice A' k' c'],w,λo ho=>?_,Below.refl _ _,by rw [hF]; exact hq.grow (Bt.of_below hI.below)⟩;unfold execOp;rw [ho];show Sem.run _ (Instr.loadAt 36 (a.eval x) >>= λx=>pure (Next.value x)) w=_;rw [e];exact CA (by simp [go_sem,e0,e1,e2,e3])
end
theorem qE{x y:Rat}{i j k:Nat}{va vb:Value}{w:World}(ha:(An (C2 x y k)).p va w)(hb:(An y).p vb w)(sx:AR x i)(sy:AR y j)(hi:i≤100000000)(hj:j≤100000000)(hlt:k<1):Calls Tryz.prog 123 #[va,vb] w (Aj (An (C2 x y (k+1))) w):=by
 have e:k=0:=by omega
 subst e;exact iG va vb w ha hb sx sy (by omega) (by omega)
noncomputable def Qu:=DH Tryz.f116
noncomputable def Ut:=cl Qu
noncomputable def Nd:=cr Qu
theorem Ae7:Qu = .seq Ut Nd:=by kernel_rfl
noncomputable def rO:=Ba Ut
theorem Adw:Ut = .region 0 rO false:=by kernel_rfl
noncomputable def W7:=cl Nd
noncomputable def NB:=cr Nd
theorem Adq:Nd = .seq W7 NB:=by kernel_rfl
noncomputable def kK:=Ba W7
theorem Aer:W7 = .region 1 kK false:=by kernel_rfl
noncomputable def QI:=cl NB
noncomputable def Nm:=cr NB
theorem Ac2:NB = .seq QI Nm:=by kernel_rfl
noncomputable def Uv:=cl QI
noncomputable def Qm:=cr QI
theorem AfF:QI = .seq Uv Qm:=by kernel_rfl
noncomputable def iA:=Ba Uv
theorem AfV:Uv = .region 2 iA false:=by kernel_rfl
noncomputable def Qx:=cl Qm
theorem AdO:Qm = .block 0 Qx:=by kernel_rfl
noncomputable def Jo:=cl Qx
theorem Agp:Qx = .loop Jo:=by kernel_rfl
noncomputable def P4:=cl Jo
noncomputable def Hs:=cr Jo
theorem XW:Jo = .seq P4 Hs:=by kernel_rfl
noncomputable def VQ:=Ba P4
theorem Zf:P4 = .region 3 VQ false:=by kernel_rfl
noncomputable def Lj:=cl Hs
noncomputable def JD:=cr Hs
theorem Ze:Hs = .seq Lj JD:=by kernel_rfl
noncomputable def RM:=cl Lj
noncomputable def Q5:=cr Lj
theorem Zw:Lj = .cond (.tmp 12) RM Q5:=by kernel_rfl
theorem uY:RM = .skip:=by kernel_rfl
theorem wQ:Q5 = .exit 0:=by kernel_rfl
noncomputable def PQ:=cl JD
noncomputable def LY:=cr JD
theorem zR:JD = .seq PQ LY:=by kernel_rfl
noncomputable def JM:=cl PQ
theorem vJ:PQ = .block 1 JM:=by kernel_rfl
noncomputable def PO:=cl JM
noncomputable def LO:=cr JM
theorem zS:JM = .seq PO LO:=by kernel_rfl
noncomputable def G3:=Ba PO
theorem Aak:PO = .region 4 G3 false:=by kernel_rfl
noncomputable def jI:=Ba LO
theorem yM:LO = .region 5 jI false:=by kernel_rfl
noncomputable def gS:=Ba LY
theorem uF:LY = .region 6 gS false:=by kernel_rfl
noncomputable def RP:=cl Nm
noncomputable def Rw:=cr Nm
theorem Ae5:Nm = .seq RP Rw:=by kernel_rfl
noncomputable def nH:=Ba RP
theorem AaD:RP = .region 7 nH false:=by kernel_rfl
theorem wI:Rw = .ret:=by kernel_rfl
section
set_option linter.unusedSectionVars false
variable {Wb : World} {x y : Rat} {i j r : Nat} (sx : AR x i) (sy : AR y j) (hi : i ≤ 100000000) (hj : j ≤ 100000000) (hr : cV Wb r y)
include sx sy hi hj hr
theorem AfE:RA 20 [(An x),(Am (.slice (some ⟨r,0,none⟩) 1 1))] [(A8 x),Bd] ⟨[(0,(.ref 0)),(1,(.ref 1))],[]⟩ ⟨[(0,(.ref 0)),(1,(.ref 1))],[(2,0),(4,1)]⟩ Wb 0 rO false:=RA.of
   { allocs:=[⟨36,1,_,AN,AP⟩],
     boxes:=[⟨36,(.ref 0),0,λw v h=>AL w v h⟩] } (by kernel_rfl)
theorem Afl:RA 20 [(An x),(Am (.slice (some ⟨r,0,none⟩) 1 1))] [(A8 x),Bd] ⟨[(0,(.ref 0)),(1,(.ref 1))],[(2,0),(4,1)]⟩ ⟨[(0,(.ref 0)),(1,(.ref 1))],[(2,0),(4,1),(5,0)]⟩ Wb 1 kK false:=RA.of
   { loads:=[⟨36,0,0,(.ref 0),λw q h=>AH w q h⟩],
     allocs:=[⟨36,1,_,AN,AP⟩],
     stores:=[⟨36,0,1,(.ref 0),0,AK⟩] } (by kernel_rfl)
theorem AcH:RA 20 [(Am (.slice (some ⟨r,0,none⟩) 1 1)),(Am (.int .i64 ((1:Nat):Int))),(An x)] [(A8 x),Bd] ⟨[(0,(.ref 2)),(1,(.ref 0))],[(2,0),(4,1),(5,0)]⟩ ⟨[(0,(.ref 2)),(1,(.ref 0)),(9,(.ref 0)),(10,(.ref 1)),(11,(.int .i64 0))],[(2,0),(4,1),(5,0)]⟩ Wb 2 iA false:=RA.of
   { pures:=[p1 (.blt .len [40]) (.ref 0) (.ref 1) λ_ _ _ _ hx=>Afd hx] } (by kernel_rfl)
theorem Ago{k:Nat}(hlt:k<1):RA 20 [(Am (.int .i64 ((k:Nat):Int))),(Am (.int .i64 ((1:Nat):Int))),(An x),(Am (.slice (some ⟨r,0,none⟩) 1 1))] [(A8 x),Bd,(A8 (C2 x y k))] ⟨[(0,(.ref 2)),(1,(.ref 3)),(9,(.ref 3)),(10,(.ref 1)),(11,(.ref 0))],[(2,0),(4,1),(5,2)]⟩ ⟨[(0,(.ref 2)),(1,(.ref 3)),(9,(.ref 3)),(10,(.ref 1)),(11,(.ref 0)),(12,(.bool true))],[(2,0),(4,1),(5,2)]⟩ Wb 3 VQ false:=RA.of
   { pures:=[p2 (.bin .lss 3 3) (.ref 0) (.ref 1) (.bool true) λ_ _ _ _ _ hx hy=>GV (r:=true) (by simp; omega) hx hy] } (by kernel_rfl)
end
theorem Ac0{Q:Exit→Act→World→Prop}{Wb W0:World}{a0:Act}{x y:Rat}{i j r:Nat}(_sx:AR x i)(_sy:AR y j)(_hi:i≤100000000)(_hj:j≤100000000)(hr:cV Wb r y){k:Nat}(hlt:k<1)(hst:St Wb 20 [(0,(An x)),(1,(Am (.slice (some ⟨r,0,none⟩) 1 1))),(9,(Am (.slice (some ⟨r,0,none⟩) 1 1))),(10,(Am (.int .i64 ((1:Nat):Int)))),(11,(Am (.int .i64 ((k:Nat):Int)))),(12,(Am (.bool true)))] [(2,(A8 x)),(4,Bd),(5,(A8 (C2 x y k)))] a0 W0)
  (fin:∀ a w,St Wb 20 [(0,(An x)),(1,(Am (.slice (some ⟨r,0,none⟩) 1 1))),(9,(Am (.slice (some ⟨r,0,none⟩) 1 1))),(10,(Am (.int .i64 ((1:Nat):Int)))),(11,(Am (.int .i64 ((k:Nat):Int)))),(12,(Am (.bool true)))] [(2,(A8 x)),(4,Bd),(5,(A8 (C2 x y k))),(7,(A8 y))] a w→Q .normal a w):(Code.region 4 G3 false).wp Tryz.prog Q a0 W0:=by
 have hP:EV G3 20 ([⟨2,none,none,(A8 x),(A8 x)⟩,⟨4,none,none,Bd,Bd⟩,⟨5,none,none,(A8 (C2 x y k)),(A8 (C2 x y k))⟩,⟨7,some 2,some 3,Bd,(A8 y)⟩]:List Bm) []:=⟨by kernel_rfl,by kernel_rfl,by kernel_rfl,by kernel_rfl,by kernel_rfl,by kernel_rfl⟩;refine Oq (F:=[(Am (.pointer (some ⟨r,0,none⟩))),(An y),Ca,Ca]) hP hst rfl rfl ?_ ?_ fin
 ·show M8 G3 20 Wb W0 a0 _ _ _ 4
  refine Gq (k:=3) ?_ (Yr (i:=3) 3 _ (Lw (by kernel_rfl):C7 G3 3 none (.store 36 (.tmp 7) (.tmp 14))) (by kernel_rfl) rfl rfl rfl (by kernel_rfl) (by kernel_rfl) (by kernel_rfl) (WA (f:=(An y)) 1 (by kernel_rfl) (by kernel_rfl) rfl) AK);refine Gq (k:=2) ?_ (X3 (i:=2) (d:=7) hP 3 _ (Lw (by kernel_rfl):C7 G3 2 none (.alloc 36)) (by kernel_rfl) rfl rfl rfl (by kernel_rfl) (by kernel_rfl) (by kernel_rfl) (by kernel_rfl) rfl AN AP);refine Gq (k:=1) ?_ (fX (i:=1) hP (g:=none) (Lw (by kernel_rfl):C7 G3 1 none (.load 36 (.tmp 13))) (by kernel_rfl) (by kernel_rfl) (Mu) (WA (f:=(Am (.pointer (some ⟨r,0,none⟩)))) 0 (by kernel_rfl) (by kernel_rfl) rfl) hr rfl);refine Gq (k:=0) ?_ (Aja (i:=0) hP (g:=none) (Lw (by kernel_rfl):C7 G3 0 none (.indexAddr 40 (.tmp 9) (.tmp 11))) (by kernel_rfl) (by kernel_rfl) (Mu) (RK hst 2 rfl (by kernel_rfl)) (RK hst 4 rfl (by kernel_rfl)) (λρ w hx hy=>wL hlt hx hy) rfl);exact Z0
 ·intro m a w hI hm
  exact ⟨(EJ hst 0 rfl (by kernel_rfl) hI),(EJ hst 1 rfl (by kernel_rfl) hI),(EJ hst 2 rfl (by kernel_rfl) hI),(EJ hst 3 rfl (by kernel_rfl) hI),(EJ hst 4 rfl (by kernel_rfl) hI),(EJ hst 5 rfl (by kernel_rfl) hI),trivial⟩
section
set_option linter.unusedSectionVars false
variable {Wb : World} {x y : Rat} {i j r : Nat} (sx : AR x i) (sy : AR y j) (hi : i ≤ 100000000) (hj : j ≤ 100000000) (hr : cV Wb r y)
include sx sy hi hj hr
theorem AdQ{k:Nat}(hlt:k<1):RA 20 [(An (C2 x y k)),(An y),(An (C2 x y (k+1))),(An x),(Am (.slice (some ⟨r,0,none⟩) 1 1)),(Am (.int .i64 ((1:Nat):Int))),(Am (.int .i64 ((k:Nat):Int)))] [(A8 (C2 x y k)),(A8 y),(A8 (C2 x y (k+1))),(A8 x),Bd] ⟨[(0,(.ref 3)),(1,(.ref 4)),(9,(.ref 4)),(10,(.ref 5)),(11,(.ref 6)),(12,(.bool true))],[(2,3),(4,4),(5,0),(7,1)]⟩ ⟨[(0,(.ref 3)),(1,(.ref 4)),(9,(.ref 4)),(10,(.ref 5)),(11,(.ref 6)),(12,(.bool true))],[(2,3),(4,4),(5,2),(7,1)]⟩ Wb 5 jI false:=RA.of
   { calls:=[c2 123 (.ref 0) (.ref 1) (.ref 2) λw v0 v1 hb h0 h1=>qE h0 h1 sx sy (by omega) (by omega) hlt],
     loads:=[⟨36,0,0,(.ref 0),λw q h=>AH w q h⟩,
      ⟨36,0,1,(.ref 1),λw q h=>AH w q h⟩],
     stores:=[⟨36,0,0,(.ref 2),2,VF⟩] } (by kernel_rfl)
theorem Adh{k:Nat}(hlt:k<1):RA 20 [(Am (.int .i64 ((k:Nat):Int))),(Am (.int .i64 ((k+1:Nat):Int))),(An x),(Am (.slice (some ⟨r,0,none⟩) 1 1)),(Am (.int .i64 ((1:Nat):Int)))] [(A8 x),Bd,(A8 (C2 x y (k+1))),(A8 y)] ⟨[(0,(.ref 2)),(1,(.ref 3)),(9,(.ref 3)),(10,(.ref 4)),(11,(.ref 0)),(12,(.bool true))],[(2,0),(4,1),(5,2),(7,3)]⟩ ⟨[(0,(.ref 2)),(1,(.ref 3)),(9,(.ref 3)),(10,(.ref 4)),(11,(.ref 1)),(12,(.bool true))],[(2,0),(4,1),(5,2),(7,3)]⟩ Wb 6 gS false:=RA.of
   { pures:=[p2 (.bin .add 3 3) (.ref 0) (.int .i64 1) (.ref 1) λ_ _ _ _ _ hx hy=>AbT (z:=((k+1:Nat):Int)) (by rw [IntKind.wrap_i64]; omega) hx hy] } (by kernel_rfl)
theorem xS{k:Nat}(hlt:¬ k<1):RA 20 [(Am (.int .i64 ((k:Nat):Int))),(Am (.int .i64 ((1:Nat):Int))),(An x),(Am (.slice (some ⟨r,0,none⟩) 1 1))] [(A8 x),Bd,(A8 (C2 x y k))] ⟨[(0,(.ref 2)),(1,(.ref 3)),(9,(.ref 3)),(10,(.ref 1)),(11,(.ref 0))],[(2,0),(4,1),(5,2)]⟩ ⟨[(0,(.ref 2)),(1,(.ref 3)),(9,(.ref 3)),(10,(.ref 1)),(11,(.ref 0)),(12,(.bool false))],[(2,0),(4,1),(5,2)]⟩ Wb 3 VQ false:=RA.of
   { pures:=[p2 (.bin .lss 3 3) (.ref 0) (.ref 1) (.bool false) λ_ _ _ _ _ hx hy=>GV (r:=false) (by simp; omega) hx hy] } (by kernel_rfl)
theorem AcW:RA 20 [(An (C2 x y 1)),(An x),(Am (.slice (some ⟨r,0,none⟩) 1 1)),(Am (.int .i64 ((1:Nat):Int)))] [(A8 (C2 x y 1)),Bd,(A8 x)] ⟨[(0,(.ref 1)),(1,(.ref 2)),(9,(.ref 2)),(10,(.ref 3)),(11,(.ref 3)),(12,(.bool false))],[(2,2),(4,1),(5,0)]⟩ ⟨[(0,(.ref 1)),(1,(.ref 2)),(9,(.ref 2)),(10,(.ref 3)),(11,(.ref 3)),(12,(.bool false))],[(2,2),(4,0),(5,0)]⟩ Wb 7 nH false:=RA.of
   { loads:=[⟨36,0,0,(.ref 0),λw q h=>AH w q h⟩],
     stores:=[⟨36,0,1,(.ref 0),0,AK⟩] } (by kernel_rfl)
end
theorem zW{x y:Rat}{i j r:Nat}(va:Value)(W:World)(ha:(An x).p va W)(sx:AR x i)(sy:AR y j)(hi:i≤100000000)(hj:j≤100000000)(hr:cV W r y) :
  Calls Tryz.prog 116 #[va,.slice (some ⟨r,0,none⟩) 1 1] W (Aj (An (x+y)) W):=by
 refine Do (S:=[(0,(An x)),(1,(Am (.slice (some ⟨r,0,none⟩) 1 1)))]) Tryz.func116 (by kernel_rfl) Tryz.ntmps116 (by simp) (λx hx=>?_) λa w hst=>?_
 ·simp only [List.mem_cons,List.not_mem_nil,or_false] at hx
  rcases hx with rfl | rfl
  ·exact ⟨_,rfl,ha⟩
  ·exact ⟨_,rfl,rfl⟩
 show Code.wp _ Qu _ a w;rw [Ae7];refine wp_seq ?_;rw [Adw];refine (AfE sx sy hi hj hr).run hst ?_;clear hst;intro a w hst;show Code.wp _ Nd _ a w;rw [Adq];refine wp_seq ?_;rw [Aer];refine (Afl sx sy hi hj hr).run hst ?_;clear hst;intro a w hst;show Code.wp _ NB _ a w;rw [Ac2];refine wp_seq ?_;rw [AfF];refine wp_seq ?_;rw [AfV];refine (AcH sx sy hi hj hr).run hst ?_;clear hst;intro a w hst;show Code.wp _ Qm _ a w;rw [AdO];refine wp_block ?_;show Code.wp _ Qx _ a w;rw [Agp];refine CN (fun (k:Nat) a w=>St W 20 [(0,(An x)),(1,(Am (.slice (some ⟨r,0,none⟩) 1 1))),(9,(Am (.slice (some ⟨r,0,none⟩) 1 1))),(10,(Am (.int .i64 ((1:Nat):Int)))),(11,(Am (.int .i64 ((k:Nat):Int))))] [(2,(A8 x)),(4,Bd),(5,(A8 (C2 x y k)))] a w∧k≤1) (λk=>1 - k) ?_ (0:Nat) ⟨hst,Nat.zero_le _⟩;intro k a w ⟨hst,hk⟩;show Code.wp _ Jo _ a w
 by_cases hlt:k<1
 ·rw [XW]
  refine wp_seq ?_;rw [Zf];refine (Ago sx sy hi hj hr hlt).run hst ?_;clear hst;intro a w hst;show Code.wp _ Hs _ a w;rw [Ze];refine wp_seq ?_;rw [Zw];refine wp_cond_true (A7 hst 5 rfl) ?_;show Code.wp _ RM _ a w;rw [uY];refine wp_skip ?_;show Code.wp _ JD _ a w;rw [zR];refine wp_seq ?_;rw [vJ];refine wp_block ?_;show Code.wp _ JM _ a w;rw [zS];refine wp_seq ?_;rw [Aak];refine Ac0 sx sy hi hj hr hlt hst ?_;clear hst;intro a w hst;show Code.wp _ LO _ a w;rw [yM];refine (AdQ sx sy hi hj hr hlt).run hst ?_;clear hst;intro a w hst;show Code.wp _ LY _ a w;rw [uF];refine (Adh sx sy hi hj hr hlt).run hst ?_;clear hst;intro a w hst;exact ⟨k+1,⟨((hst.to (S':=[(0,(An x)),(1,(Am (.slice (some ⟨r,0,none⟩) 1 1))),(9,(Am (.slice (some ⟨r,0,none⟩) 1 1))),(10,(Am (.int .i64 ((1:Nat):Int)))),(11,(Am (.int .i64 (((k+1):Nat):Int))))]) ⟨hst.slots.get (k:=0) rfl,hst.slots.get (k:=1) rfl,hst.slots.get (k:=2) rfl,hst.slots.get (k:=3) rfl,hst.slots.get (k:=4) rfl,trivial⟩).firstB 3),by omega⟩,by omega⟩
 ·rw [XW]
  refine wp_seq ?_;rw [Zf];refine (xS sx sy hi hj hr hlt).run hst ?_;clear hst;intro a w hst;show Code.wp _ Hs _ a w;rw [Ze];refine wp_seq ?_;rw [Zw];refine wp_cond_false (A7 hst 5 rfl) ?_;show Code.wp _ Q5 _ a w;rw [wQ];refine wp_exit ?_;have e:k=1:=by omega
  subst e;show Code.wp _ Nm _ a w;rw [Ae5];refine wp_seq ?_;rw [AaD];refine (AcW sx sy hi hj hr).run hst ?_;clear hst;intro a w hst;show Code.wp _ Rw _ a w;rw [wI];refine wp_ret ?_;exact pA hst rfl 1 rfl
theorem B4.open_{w:World}{v:Value}{n d:Int}(h:B4 w v n d):∃ b A k c b' A' k' c',v = .agg #[.bool b,.slice A k c,.bool b',.slice A' k' c']∧Hid (B4 w (.agg #[.bool b,.slice A k c,.bool b',.slice A' k' c']) n d):=by
 obtain ⟨b,A,k,c,b',A',k',c',rfl,h1,h2⟩:=h;exact ⟨b,A,k,c,b',A',k',c',rfl,⟨b,A,k,c,b',A',k',c',rfl,h1,h2⟩⟩
theorem B4.into{w w':World}{v:Value}{n d:Int}(h:B4 w v n d)(hb:Below w.heap.size w w'):B4 w' v n d:=h.grow (Bt.of_below hb)
theorem mL{w w1:World}{g:Nat}{x0 x1 x2 x3:Value}{b b':Bool}{A A':Option Addr}{k c k' c':Nat}{n d:Int}{B:Nat}(hh:w1.heap[g]? = some (.cells #[x0,x1,x2,x3] 36 (0,0)))(hB:Below B w w1)(hg:B≤g)(hp:B4 w1 (.agg #[.bool b,.slice A k c,.bool b',.slice A' k' c']) n d) :
  B4 ((((w1.setCell ⟨g,0,none⟩ (.bool b)).setCell ⟨g,1,none⟩ (.slice A k c)).setCell ⟨g,2,none⟩ (.bool b')).setCell ⟨g,3,none⟩ (.slice A' k' c')) (.agg #[.bool b,.slice A k c,.bool b',.slice A' k' c']) n d ∧
  Below B w ((((w1.setCell ⟨g,0,none⟩ (.bool b)).setCell ⟨g,1,none⟩ (.slice A k c)).setCell ⟨g,2,none⟩ (.bool b')).setCell ⟨g,3,none⟩ (.slice A' k' c')):=by
 have hne:(36:TypeId)≠114:=by decide
 have g0:=Bt.set hh hne 0 (.bool b);have b0:=Az hh 0 (.bool b);have g1:=Bt.set b0 hne 1 (.slice A k c);have b1:=Az b0 1 (.slice A k c);have g2:=Bt.set b1 hne 2 (.bool b');have b2:=Az b1 2 (.bool b');have g3:=Bt.set b2 hne 3 (.slice A' k' c');exact ⟨hp.grow (((g0.trans g1).trans g2).trans g3),(((hB.setCell hg _).setCell hg _).setCell hg _).setCell hg _⟩
theorem JG{w w1:World}{g:Nat}{x0 x1 x2 x3:Value}(hh:w.heap[g]? = some (.cells #[x0,x1,x2,x3] 36 (0,0)))(hb:Below w.heap.size w w1):w1.cell? ⟨g,0,none⟩=some x0∧w1.cell? ⟨g,1,none⟩=some x1∧w1.cell? ⟨g,2,none⟩=some x2∧w1.cell? ⟨g,3,none⟩=some x3:=by
 have:=(hb.block g (AJ hh)).trans hh;exact Ev this
theorem rE{w:World}{b b':Bool}{A A':Option Addr}{k c k' c':Nat}{y:Rat}(h:B4 w (.agg #[.bool b,.slice A k c,.bool b',.slice A' k' c']) y.num (y.den:Int)):cV (w.alloc (Obj.cells #[.bool b,.slice A k c,.bool b',.slice A' k' c'] 36)) w.heap.size y:=
 ⟨_,_,_,_,_,_,_,_,heap_alloc_new w _,h.into (Ai w _)⟩
theorem Sg{w:World}{g g':Nat}(hne:g'≠g)(i:Nat)(u0 u1 u2 u3:Value){x:Value}(h:w.cell? ⟨g,i,none⟩=some x):((((w.setCell ⟨g',0,none⟩ u0).setCell ⟨g',1,none⟩ u1).setCell ⟨g',2,none⟩ u2).setCell ⟨g',3,none⟩ u3).cell? ⟨g,i,none⟩=some x:=by
 rw [World.cell?_setCell_far _ _ _ _ (by simpa using hne),World.cell?_setCell_far _ _ _ _ (by simpa using hne),World.cell?_setCell_far _ _ _ _ (by simpa using hne),World.cell?_setCell_far _ _ _ _ (by simpa using hne)];exact h
set_option maxHeartbeats 3200000 in
theorem oP{x y:Rat}{i j:Nat}(va vb:Value)(W:World)(ha:(An x).p va W)(hb:(An y).p vb W)(sx:AR x i)(sy:AR y j)(hi:i≤100000000)(hj:j≤100000000):Calls Tryz.prog 100 #[va,vb] W (Aj (An (x - y)) W):=by
  obtain ⟨b,A,k,c,b',A',k',c',rfl,H⟩:=B4.open_ ha
  obtain ⟨e,D,l,f,e',D',l',f',rfl,K⟩:=B4.open_ hb
  rw [Rat.sub_eq_add_neg]
  have SX:=Lib.hid sx
  have SY:=Lib.hid sy
  have HH:=Lib.hid (EW W (.cells #[.bool b,.slice A k c,.bool b',.slice A' k' c'] 36) (.cells #[.bool e,.slice D l f,.bool e',.slice D' l' f'] 36) (.cells #[.bool false,.slice none 0 0,.bool false,.slice none 0 0] 36))
  have HW:=Lib.hid (D8 W (.cells #[.bool b,.slice A k c,.bool b',.slice A' k' c'] 36) (.cells #[.bool e,.slice D l f,.bool e',.slice D' l' f'] 36) (.cells #[.bool false,.slice none 0 0,.bool false,.slice none 0 0] 36))
  obtain ⟨a0,a1,a2,a3⟩:=JG HH.out.1 (Below.refl _ _)
  obtain ⟨b0,b1,b2,b3⟩:=JG HH.out.2.1 (Below.refl _ _)
  obtain ⟨c0,c1,c2,c3⟩:=JG HH.out.2.2 (Below.refl _ _)
  clear ha hb sx sy
  go_enter Tryz.func100,Tryz.ntmps100
  go_wp2_with fail
  generalize (((W.alloc (.cells #[.bool b,.slice A k c,.bool b',.slice A' k' c'] 36)).alloc (.cells #[.bool e,.slice D l f,.bool e',.slice D' l' f'] 36)).alloc (.cells #[.bool false,.slice none 0 0,.bool false,.slice none 0 0] 36))=W3 at *
  have HELD:Hid (∀ w':World,Below W3.heap.size W3 w'→(w'.cell? ⟨W.heap.size,0,none⟩=some (.bool b)∧w'.cell? ⟨W.heap.size,1,none⟩=some (.slice A k c)∧w'.cell? ⟨W.heap.size,2,none⟩=some (.bool b')∧w'.cell? ⟨W.heap.size,3,none⟩=some (.slice A' k' c'))∧(w'.cell? ⟨W.heap.size+1,0,none⟩=some (.bool e)∧w'.cell? ⟨W.heap.size+1,1,none⟩=some (.slice D l f)∧w'.cell? ⟨W.heap.size+1,2,none⟩=some (.bool e')∧w'.cell? ⟨W.heap.size+1,3,none⟩=some (.slice D' l' f'))):=
    Lib.hid λw' hb=>⟨JG HH.out.1 hb,JG HH.out.2.1 hb⟩
  have HELD2:Hid (∀ w':World,Below W3.heap.size W3 w'→∀ u0 u1 u2 u3:Value,(((((w'.setCell ⟨W.heap.size+1+1,0,none⟩ u0).setCell ⟨W.heap.size+1+1,1,none⟩ u1).setCell ⟨W.heap.size+1+1,2,none⟩ u2).setCell ⟨W.heap.size+1+1,3,none⟩ u3).cell? ⟨W.heap.size,0,none⟩=some (.bool b)∧((((w'.setCell ⟨W.heap.size+1+1,0,none⟩ u0).setCell ⟨W.heap.size+1+1,1,none⟩ u1).setCell ⟨W.heap.size+1+1,2,none⟩ u2).setCell ⟨W.heap.size+1+1,3,none⟩ u3).cell? ⟨W.heap.size,1,none⟩=some (.slice A k c)∧((((w'.setCell ⟨W.heap.size+1+1,0,none⟩ u0).setCell ⟨W.heap.size+1+1,1,none⟩ u1).setCell ⟨W.heap.size+1+1,2,none⟩ u2).setCell ⟨W.heap.size+1+1,3,none⟩ u3).cell? ⟨W.heap.size,2,none⟩=some (.bool b')∧((((w'.setCell ⟨W.heap.size+1+1,0,none⟩ u0).setCell ⟨W.heap.size+1+1,1,none⟩ u1).setCell ⟨W.heap.size+1+1,2,none⟩ u2).setCell ⟨W.heap.size+1+1,3,none⟩ u3).cell? ⟨W.heap.size,3,none⟩=some (.slice A' k' c'))∧(((((w'.setCell ⟨W.heap.size+1+1,0,none⟩ u0).setCell ⟨W.heap.size+1+1,1,none⟩ u1).setCell ⟨W.heap.size+1+1,2,none⟩ u2).setCell ⟨W.heap.size+1+1,3,none⟩ u3).cell? ⟨W.heap.size+1,0,none⟩=some (.bool e)∧((((w'.setCell ⟨W.heap.size+1+1,0,none⟩ u0).setCell ⟨W.heap.size+1+1,1,none⟩ u1).setCell ⟨W.heap.size+1+1,2,none⟩ u2).setCell ⟨W.heap.size+1+1,3,none⟩ u3).cell? ⟨W.heap.size+1,1,none⟩=some (.slice D l f)∧((((w'.setCell ⟨W.heap.size+1+1,0,none⟩ u0).setCell ⟨W.heap.size+1+1,1,none⟩ u1).setCell ⟨W.heap.size+1+1,2,none⟩ u2).setCell ⟨W.heap.size+1+1,3,none⟩ u3).cell? ⟨W.heap.size+1,2,none⟩=some (.bool e')∧((((w'.setCell ⟨W.heap.size+1+1,0,none⟩ u0).setCell ⟨W.heap.size+1+1,1,none⟩ u1).setCell ⟨W.heap.size+1+1,2,none⟩ u2).setCell ⟨W.heap.size+1+1,3,none⟩ u3).cell? ⟨W.heap.size+1,3,none⟩=some (.slice D' l' f'))):=by
    refine Lib.hid λw' hb u0 u1 u2 u3=>?_
    obtain ⟨⟨h0,h1,h2,h3⟩,⟨k0,k1,k2,k3⟩⟩:=HELD.out w' hb
    exact ⟨⟨Sg (by omega) 0 _ _ _ _ h0,Sg (by omega) 1 _ _ _ _ h1,Sg (by omega) 2 _ _ _ _ h2,Sg (by omega) 3 _ _ _ _ h3⟩,⟨Sg (by omega) 0 _ _ _ _ k0,Sg (by omega) 1 _ _ _ _ k1,Sg (by omega) 2 _ _ _ _ k2,Sg (by omega) 3 _ _ _ _ k3⟩⟩
  have HWW:=Lib.hid (Below.refl W3.heap.size W3)
  go_region_held3 (λw'=>(w'.cell? ⟨W.heap.size,0,none⟩=some (.bool b)∧w'.cell? ⟨W.heap.size,1,none⟩=some (.slice A k c)∧w'.cell? ⟨W.heap.size,2,none⟩=some (.bool b')∧w'.cell? ⟨W.heap.size,3,none⟩=some (.slice A' k' c'))∧(w'.cell? ⟨W.heap.size+1,0,none⟩=some (.bool e)∧w'.cell? ⟨W.heap.size+1,1,none⟩=some (.slice D l f)∧w'.cell? ⟨W.heap.size+1,2,none⟩=some (.bool e')∧w'.cell? ⟨W.heap.size+1,3,none⟩=some (.slice D' l' f')))
    (first | (go_keep; done) | exact HELD.out _ HB1.out | exact HELD.out _ HB1.out.drew | exact HELD.out _ (Ac HB1.out (Ai _ _)) | exact HELD.out _ HB2.out | exact HELD.out _ HB2.out.drew | exact HELD2.out _ HB2.out _ _ _ _)
    (first
      | (go_at_call 56
         refine (S_ _ _ (K.out.into (by first | exact HW.out | exact HW.out.drew | exact HW.out.drew.drew)) SY.out (by omega)).mono ?_
         rintro z w1 ⟨v1,rfl,hv1,hb1⟩
         obtain ⟨p1,E1,m1,q1,p1',E1',m1',q1',rfl,V1⟩:=B4.open_ hv1
         have HB1:Hid (Below W3.heap.size W3 w1):=Ac (by first | exact HWW.out | exact HWW.out.drew | exact HWW.out.drew.drew) hb1
         clear hb1 hv1)
      | (go_at_call 116
         refine (zW _ _ (H.out.into (Ac HW.out (Ac HB1.out (Ai _ _)))) SX.out SY.out.neg (by omega) (by omega) (rE V1.out)).mono ?_
         rintro z w2 ⟨v2,rfl,hv2,hb2⟩
         obtain ⟨p,E,m,q,p',E',m',q',rfl,V⟩:=B4.open_ hv2
         have HB2:Hid (Below W3.heap.size W3 w2):=Ac (Ac HB1.out (Ai _ _)) hb2
         have hz1:=(HB2.out.block (W.heap.size+1+1) (AJ HH.out.2.2)).trans HH.out.2.2
         obtain ⟨e0,e1,e2,e3⟩:=Ev hz1
         have f0:=AA hz1 0
         have f1:=AA hz1 1
         have f2:=AA hz1 2
         have f3:=AA hz1 3
         have HE:=Lib.hid (mL hz1 (Ac HW.out HB2.out) (by omega) V.out)
         clear hb2 hv2 hz1))
  go_wp2
  refine bodyPost_ret (v:=.agg #[.bool p,.slice E m q,.bool p',.slice E' m' q']) (by simp [results,Tryz.results100,go_sem,e0,e1,e2,e3]) rfl ⟨_,rfl,HE.out.1,HE.out.2⟩
section
variable {w : World} {va vb : Value} {x y : Rat} {i j : Nat}
theorem AbM(ha:(An x).p va w)(hb:(An y).p vb w)(sx:AR x i)(sy:AR y j)(hi:i≤100000000)(hj:j≤100000000):Calls Tryz.prog 100 #[va,vb] w (Aj (An (x - y)) w):=oP va vb w ha hb sx sy hi hj
theorem nJ(ha:(An x).p va w)(hb:(An y).p vb w)(sx:AR x i)(sy:AR y j)(hi:i≤200000000)(hj:j≤200000000):Calls Tryz.prog 48 #[va,vb] w (Aj (An (x*y)) w):=kD va vb w ha hb sx sy (by omega) (by omega)
theorem Abo(ha:(An x).p va w)(sx:AR x i)(hi:i≤200000000):Calls Tryz.prog 56 #[va] w (Aj (An (-x)) w):=S_ va w ha sx (by omega)
theorem Qy(ha:(An x).p va w)(sx:AR x i)(hi:i≤200000000):Calls Tryz.prog 95 #[va] w (Aj (Am (.int .i64 (FV x 0))) w):=by
 rw [← Tf]; exact Kr va w ha sx (by omega)
theorem Ajg(ha:(An x).p va w)(sx:AR x i)(hi:i≤200000000)(nx:x≠0):Calls Tryz.prog 122 #[va] w (Aj (An x⁻¹) w):=by
 have hn:x.num≠0:=λh=>nx (Rat.num_eq_zero.1 h)
 rcases Int.lt_or_gt_of_ne hn with h | h
 ·exact lU va w ha sx (by omega) h
 ·exact kT va w ha sx (by omega) h
theorem X8(z:Int)(h0 : -9223372036854775808≤z)(h1:z≤9223372036854775807)(hv:(Am (.int .i64 z)).p va w):Calls Tryz.prog 47 #[va] w (Aj (An (z:Rat)) w):=by
 have hv:va = .int .i64 z:=hv;rw [hv];exact UK w h0 h1
end
section
variable {w : World} {va vb : Value} {x y : Int} {i j : Nat}
end
theorem xV{x:Rat}(h:x≠0):(FV x 0 == 0)=false:=by
 unfold FV;rw [if_neg h];split <;> rfl
theorem AaT{x:Rat}(h:x=0):(FV x 0 == 0)=true:=by subst h; decide
theorem Yi(n d:Int)(hd:d<0):(Rat.divInt n d).num = -n / (Int.gcd (-n) (-d):Nat)∧((Rat.divInt n d).den:Int) = -d / (Int.gcd (-n) (-d):Nat):=by
 have h:=L2 (-n) (-d) (by omega);rwa [Rat.neg_divInt_neg] at h
theorem iS{x y:Int}{i j:Nat}{va vb:Value}{w:World}(ha:(Af x).p va w)(hb:(Af y).p vb w)(sx:Sm x i)(sy:Sm y j)(hi:i≤400000000)(hj:j≤400000000):Calls Tryz.prog 111 #[va,vb] w (Aj (Af ((Int.gcd x y:Nat):Int)) w):=
 AhH ha hb (sx.mono (Nat.le_max_left i j)) (sy.mono (Nat.le_max_right i j)) (by omega)
theorem kR{x y:Int}{i j:Nat}{va vb:Value}{w:World}(ha:(Af x).p va w)(hb:(Af y).p vb w)(sx:Sm x i)(sy:Sm y j)(hi:i≤1000000000)(hj:j≤1000000000)(e:x≠y):Calls Tryz.prog 57 #[va,vb] w (Aj (Am (.bool false)) w):=by
 have:=Ab5 ha hb sx sy hi hj;rwa [decide_eq_false e] at this
theorem uA{x y:Rat}(h1:x.num=y.num)(h2:(x.den:Int)=(y.den:Int)):x=y:=Rat.ext h1 (by omega)
theorem AgO{x y:Int}{i j:Nat}(va:Value)(vb:Value)(W:World)(hva:(Af x).p va W)(hvb:(Af y).p vb W)(_sx:Sm x i)(sy:Sm y j)(_hi:i≤300000000)(_hj:j≤300000000)(ny:y=0):Calls Tryz.prog 90 #[va,vb] W (Aj (B7 (CO 0 0) (Am (.int .i64 3))) W):=by
  let E:List PF:=[(Af x),(Af y),(Am (.int .i64 (Int.sign y))),(CO 0 0)]
  let EB:List CF:=[(Ak x),(Ak y),Bd,(FQ 0 0)]
  exact Av (E:=E) (EB:=EB) (fs:=[(.ref 0),(.ref 1)]) (r:=(.tup2 (.ref 3) (.int .i64 3)))
   { pures:=[p2 (.bin .eql 3 3) (.ref 2) (.int .i64 0) (.bool true) λ_ _ _ _ _ hx hy=>Cm (r:=true) (by rw [ny]; rfl) hx hy,
      p0 (.bld 36 []) (.ref 3) λ_ _ _=>Ok],
     calls:=[c1 63 (.ref 1) (.ref 2) λw v0 hb h0=>C1 h0 sy (by first | decide | assumption | omega)],
     loads:=[⟨34,0,1,(.ref 1),λw q h=>Ah w q h⟩,
      ⟨36,0,3,(.ref 3),λw q h=>AH w q h⟩],
     allocs:=[⟨36,2,_,AN,AP⟩],
     boxes:=[⟨34,(.ref 0),0,λw v h=>AW w v h⟩,
      ⟨34,(.ref 1),1,λw v h=>AW w v h⟩],
     stores:=[⟨36,0,2,(.ref 3),3,AK⟩] }
   Tryz.func90 ⟨hva,hvb,trivial⟩ (by kernel_rfl)
theorem vF{x y:Int}{i j:Nat}(va:Value)(vb:Value)(W:World)(hva:(Af x).p va W)(hvb:(Af y).p vb W)(sx:Sm x i)(sy:Sm y j)(_hi:i≤300000000)(_hj:j≤300000000)(ny:0<y):Calls Tryz.prog 90 #[va,vb] W (Aj (B7 (An (Rat.divInt x y)) (Am (.int .i64 0))) W):=by
  let E:List PF:=[(Af x),(Af y),(Am (.int .i64 (Int.sign y))),(Af ((Int.gcd x y:Nat):Int)),(Af (x / ((Int.gcd x y:Nat):Int))),(Af (x % ((Int.gcd x y:Nat):Int))),(Af (y / ((Int.gcd x y:Nat):Int))),(Af (y % ((Int.gcd x y:Nat):Int))),(An (Rat.divInt x y))]
  let EB:List CF:=[(Ak x),(Ak y),Bd,AS,(Ak ((Int.gcd x y:Nat):Int)),(Ak (x / ((Int.gcd x y:Nat):Int))),(Ak (x % ((Int.gcd x y:Nat):Int))),(Ak (y / ((Int.gcd x y:Nat):Int))),(Ak (y % ((Int.gcd x y:Nat):Int))),(A8 (Rat.divInt x y))]
  exact Av (E:=E) (EB:=EB) (fs:=[(.ref 0),(.ref 1)]) (r:=(.tup2 (.ref 8) (.int .i64 0)))
   { pures:=[p2 (.bin .eql 3 3) (.ref 2) (.int .i64 0) (.bool false) λ_ _ _ _ _ hx hy=>Cm (r:=false) (by rw [Int.sign_eq_one_of_pos ny]; rfl) hx hy,
      p2 (.bin .lss 3 3) (.ref 2) (.int .i64 0) (.bool false) λ_ _ _ _ _ hx hy=>GV (r:=false) (by rw [Int.sign_eq_one_of_pos ny]; rfl) hx hy,
      p2 (.bld 36 [0,1]) (.ref 4) (.ref 6) (.ref 8) λ_ _ _ _ _ hx hy=>BA (L2 x y ny).1.symm (L2 x y ny).2.symm hx hy],
     calls:=[c1 63 (.ref 1) (.ref 2) λw v0 hb h0=>C1 h0 sy (by first | decide | assumption | omega),
      c2 111 (.ref 0) (.ref 1) (.ref 3) λw v0 v1 hb h0 h1=>iS h0 h1 sx sy (by first | decide | assumption | omega) (by first | decide | assumption | omega),
      c2 112 (.ref 0) (.ref 3) (.tup3 (.ref 4) (.ref 5) (.int .i64 0)) λw v0 v1 hb h0 h1=>GF h0 h1 sx (Dc sx sy) (by first | decide | assumption | omega) (by first | decide | assumption | omega) (QO x (by omega)),
      c2 112 (.ref 1) (.ref 3) (.tup3 (.ref 6) (.ref 7) (.int .i64 0)) λw v0 v1 hb h0 h1=>GF h0 h1 sy (Dc sx sy) (by first | decide | assumption | omega) (by first | decide | assumption | omega) (QO x (by omega))],
     loads:=[⟨34,0,1,(.ref 1),λw q h=>Ah w q h⟩,
      ⟨34,0,0,(.ref 0),λw q h=>Ah w q h⟩,
      ⟨34,0,4,(.ref 3),λw q h=>Ah w q h⟩,
      ⟨34,0,5,(.ref 4),λw q h=>Ah w q h⟩,
      ⟨34,0,7,(.ref 6),λw q h=>Ah w q h⟩,
      ⟨36,0,9,(.ref 8),λw q h=>AH w q h⟩],
     allocs:=[⟨36,2,_,AN,AP⟩,
      ⟨34,3,_,AU,AT⟩],
     boxes:=[⟨34,(.ref 0),0,λw v h=>AW w v h⟩,
      ⟨34,(.ref 1),1,λw v h=>AW w v h⟩],
     stores:=[⟨34,0,3,(.ref 3),4,(Ag _)⟩,
      ⟨34,0,3,(.ref 4),5,(Ag _)⟩,
      ⟨34,0,3,(.ref 5),6,(Ag _)⟩,
      ⟨34,0,3,(.ref 6),7,(Ag _)⟩,
      ⟨34,0,3,(.ref 7),8,(Ag _)⟩,
      ⟨36,0,2,(.ref 8),9,AK⟩] }
   Tryz.func90 ⟨hva,hvb,trivial⟩ (by kernel_rfl)
theorem AaJ{x y:Int}{i j:Nat}(va:Value)(vb:Value)(W:World)(hva:(Af x).p va W)(hvb:(Af y).p vb W)(sx:Sm x i)(sy:Sm y j)(_hi:i≤300000000)(_hj:j≤300000000)(ny:y<0):Calls Tryz.prog 90 #[va,vb] W (Aj (B7 (An (Rat.divInt x y)) (Am (.int .i64 0))) W):=by
  let E:List PF:=[(Af x),(Af y),(Am (.int .i64 (Int.sign y))),(Af (-x)),(Af (-y)),(Af ((Int.gcd (-x) (-y):Nat):Int)),(Af ((-x) / ((Int.gcd (-x) (-y):Nat):Int))),(Af ((-x) % ((Int.gcd (-x) (-y):Nat):Int))),(Af ((-y) / ((Int.gcd (-x) (-y):Nat):Int))),(Af ((-y) % ((Int.gcd (-x) (-y):Nat):Int))),(An (Rat.divInt x y))]
  let EB:List CF:=[(Ak x),(Ak y),Bd,(Ak (-x)),(Ak (-y)),AS,(Ak ((Int.gcd (-x) (-y):Nat):Int)),(Ak ((-x) / ((Int.gcd (-x) (-y):Nat):Int))),(Ak ((-x) % ((Int.gcd (-x) (-y):Nat):Int))),(Ak ((-y) / ((Int.gcd (-x) (-y):Nat):Int))),(Ak ((-y) % ((Int.gcd (-x) (-y):Nat):Int))),(A8 (Rat.divInt x y))]
  exact Av (E:=E) (EB:=EB) (fs:=[(.ref 0),(.ref 1)]) (r:=(.tup2 (.ref 10) (.int .i64 0)))
   { pures:=[p2 (.bin .eql 3 3) (.ref 2) (.int .i64 0) (.bool false) λ_ _ _ _ _ hx hy=>Cm (r:=false) (by rw [Int.sign_eq_neg_one_of_neg ny]; rfl) hx hy,
      p2 (.bin .lss 3 3) (.ref 2) (.int .i64 0) (.bool true) λ_ _ _ _ _ hx hy=>GV (r:=true) (by rw [Int.sign_eq_neg_one_of_neg ny]; rfl) hx hy,
      p2 (.bld 36 [0,1]) (.ref 6) (.ref 8) (.ref 10) λ_ _ _ _ _ hx hy=>BA (Yi x y ny).1.symm (Yi x y ny).2.symm hx hy],
     calls:=[c1 63 (.ref 1) (.ref 2) λw v0 hb h0=>C1 h0 sy (by first | decide | assumption | omega),
      c1 60 (.ref 0) (.ref 3) λw v0 hb h0=>OZ h0 sx (by first | decide | assumption | omega),
      c1 60 (.ref 1) (.ref 4) λw v0 hb h0=>OZ h0 sy (by first | decide | assumption | omega),
      c2 111 (.ref 3) (.ref 4) (.ref 5) λw v0 v1 hb h0 h1=>iS h0 h1 sx.neg sy.neg (by first | decide | assumption | omega) (by first | decide | assumption | omega),
      c2 112 (.ref 3) (.ref 5) (.tup3 (.ref 6) (.ref 7) (.int .i64 0)) λw v0 v1 hb h0 h1=>GF h0 h1 sx.neg (Dc sx.neg sy.neg) (by first | decide | assumption | omega) (by first | decide | assumption | omega) (QO (-x) (by omega)),
      c2 112 (.ref 4) (.ref 5) (.tup3 (.ref 8) (.ref 9) (.int .i64 0)) λw v0 v1 hb h0 h1=>GF h0 h1 sy.neg (Dc sx.neg sy.neg) (by first | decide | assumption | omega) (by first | decide | assumption | omega) (QO (-x) (by omega))],
     loads:=[⟨34,0,1,(.ref 1),λw q h=>Ah w q h⟩,
      ⟨34,0,0,(.ref 0),λw q h=>Ah w q h⟩,
      ⟨34,0,3,(.ref 3),λw q h=>Ah w q h⟩,
      ⟨34,0,4,(.ref 4),λw q h=>Ah w q h⟩,
      ⟨34,0,6,(.ref 5),λw q h=>Ah w q h⟩,
      ⟨34,0,7,(.ref 6),λw q h=>Ah w q h⟩,
      ⟨34,0,9,(.ref 8),λw q h=>Ah w q h⟩,
      ⟨36,0,11,(.ref 10),λw q h=>AH w q h⟩],
     allocs:=[⟨36,2,_,AN,AP⟩,
      ⟨34,5,_,AU,AT⟩],
     boxes:=[⟨34,(.ref 0),0,λw v h=>AW w v h⟩,
      ⟨34,(.ref 1),1,λw v h=>AW w v h⟩],
     stores:=[⟨34,0,0,(.ref 3),3,(AM _ _)⟩,
      ⟨34,0,1,(.ref 4),4,(AM _ _)⟩,
      ⟨34,0,5,(.ref 5),6,(Ag _)⟩,
      ⟨34,0,5,(.ref 6),7,(Ag _)⟩,
      ⟨34,0,5,(.ref 7),8,(Ag _)⟩,
      ⟨34,0,5,(.ref 8),9,(Ag _)⟩,
      ⟨34,0,5,(.ref 9),10,(Ag _)⟩,
      ⟨36,0,2,(.ref 10),11,AK⟩] }
   Tryz.func90 ⟨hva,hvb,trivial⟩ (by kernel_rfl)
theorem AgU{x y:Int}{i j:Nat}{va vb:Value}{w:World}(ha:(Af x).p va w)(hb:(Af y).p vb w)(sx:Sm x i)(sy:Sm y j)(hi:i≤300000000)(hj:j≤300000000)(ny:y≠0):Calls Tryz.prog 90 #[va,vb] w (Aj (B7 (An (Rat.divInt x y)) (Am (.int .i64 0))) w):=by
 rcases Int.lt_or_gt_of_ne ny with h | h
 ·exact AaJ va vb w ha hb sx sy hi hj h
 ·exact vF va vb w ha hb sx sy hi hj h
theorem AgB{x y:Int}{i j:Nat}{va vb:Value}{w:World}(ha:(Af x).p va w)(hb:(Af y).p vb w)(sx:Sm x i)(sy:Sm y j)(hi:i≤300000000)(hj:j≤300000000)(ny:y=0):Calls Tryz.prog 90 #[va,vb] w (Aj (B7 (CO 0 0) (Am (.int .i64 3))) w):=AgO va vb w ha hb sx sy hi hj ny
theorem PH{x y:Int}{i j:Nat}(va:Value)(vb:Value)(W:World)(hva:(Af x).p va W)(hvb:(Af y).p vb W)(sx:Sm x i)(sy:Sm y j)(_hi:i≤300000000)(_hj:j≤300000000)(ny:y≠0):Calls Tryz.prog 61 #[va,vb] W (Aj (An (Rat.divInt x y)) W):=by
  let E:List PF:=[(Af x),(Af y),(An (Rat.divInt x y))]
  let EB:List CF:=[(Ak x),(Ak y),Bd,(A8 (Rat.divInt x y))]
  exact Av (E:=E) (EB:=EB) (fs:=[(.ref 0),(.ref 1)]) (r:=(.ref 2))
   { calls:=[c2 90 (.ref 0) (.ref 1) (.tup2 (.ref 2) (.int .i64 0)) λw v0 v1 hb h0 h1=>AgU h0 h1 sx sy (by first | decide | assumption | omega) (by first | decide | assumption | omega) ny],
     loads:=[⟨34,0,0,(.ref 0),λw q h=>Ah w q h⟩,
      ⟨34,0,1,(.ref 1),λw q h=>Ah w q h⟩,
      ⟨36,0,3,(.ref 2),λw q h=>AH w q h⟩],
     allocs:=[⟨36,2,_,AN,AP⟩],
     boxes:=[⟨34,(.ref 0),0,λw v h=>AW w v h⟩,
      ⟨34,(.ref 1),1,λw v h=>AW w v h⟩],
     stores:=[⟨36,0,2,(.ref 2),3,AK⟩] }
   Tryz.func61 ⟨hva,hvb,trivial⟩ (by kernel_rfl)
theorem qO{x:Rat}{i:Nat}(va:Value)(W:World)(hva:(An x).p va W)(sx:AR x i)(_hi:i≤300000000):Calls Tryz.prog 36 #[va] W (Aj (An (-x)) W):=by
  let E:List PF:=[(An x),(Af x.num),(Af (-x.num)),(Af (x.den:Int)),(An (-x))]
  let EB:List CF:=[(A8 x),Bd,(A8 (-x))]
  exact Av (E:=E) (EB:=EB) (fs:=[(.ref 0)]) (r:=(.ref 4))
   { pures:=[p2 (.bld 36 [0,1]) (.ref 2) (.ref 3) (.ref 4) λ_ _ _ _ _ hx hy=>BA (Rat.neg_num x).symm (by rw [Rat.neg_den]) hx hy],
     calls:=[c1 60 (.ref 1) (.ref 2) λw v0 hb h0=>OZ h0 sx.1 (by first | decide | assumption | omega)],
     loads:=[⟨34,0,0,(.ref 1),λw q h=>Bc w q h⟩,
      ⟨34,2,0,(.ref 3),λw q h=>Bs w q h⟩,
      ⟨36,0,2,(.ref 4),λw q h=>AH w q h⟩],
     allocs:=[⟨36,1,_,AN,AP⟩],
     boxes:=[⟨36,(.ref 0),0,λw v h=>AL w v h⟩],
     stores:=[⟨36,0,1,(.ref 4),2,AK⟩],
     flds:=[⟨36,0,0,DC⟩,
      ⟨36,1,2,Et⟩] }
   Tryz.func36 ⟨hva,trivial⟩ (by kernel_rfl)
theorem Wh(x y:Rat):Rat.divInt (x.num*(y.den:Int)+y.num*(x.den:Int)) ((x.den:Int)*(y.den:Int))=x+y:=by
 have h:=Rat.divInt_add_divInt x.num y.num (Int.ne_of_gt (Cy x)) (Int.ne_of_gt (Cy y));rw [Rat.num_divInt_den,Rat.num_divInt_den] at h;exact h.symm
theorem Us(x y:Rat):Rat.divInt (x.num*y.num) ((x.den:Int)*(y.den:Int))=x*y:=by
 have h:=Rat.divInt_mul_divInt x.num y.num (d₁:=(x.den:Int)) (d₂:=(y.den:Int));rw [Rat.num_divInt_den,Rat.num_divInt_den] at h;exact h.symm
theorem W9(x y:Rat):Rat.divInt (x.num*(y.den:Int)) ((x.den:Int)*y.num)=x / y:=by
 have h:=Rat.divInt_mul_divInt x.num (y.den:Int) (d₁:=(x.den:Int)) (d₂:=y.num);rw [Rat.num_divInt_den,← Rat.inv_divInt,Rat.num_divInt_den,← Rat.div_def] at h;exact h.symm
theorem Acq(x y:Rat):(x.den:Int)*(y.den:Int)≠0:=Int.mul_ne_zero (Int.ne_of_gt (Cy x)) (Int.ne_of_gt (Cy y))
theorem Ajk{x y:Rat}(h:y≠0):(x.den:Int)*y.num≠0:=Int.mul_ne_zero (Int.ne_of_gt (Cy x)) (λe=>h (Rat.num_eq_zero.1 e))
theorem AiC{x y:Rat}(h:y=0):(x.den:Int)*y.num=0:=by subst h; exact Int.mul_zero _
theorem Aau{x y:Rat}{i j:Nat}{va vb:Value}{w:World}(ha:(Af (x.num*(y.den:Int)+y.num*(x.den:Int))).p va w)(hb:(Af ((x.den:Int)*(y.den:Int))).p vb w)(sx:AR x i)(sy:AR y j)(hi:i≤140000000)(hj:j≤140000000):Calls Tryz.prog 61 #[va,vb] w (Aj (An (x+y)) w):=by
 rw [← Wh];exact PH va vb w ha hb ((sx.1.mul sy.2).add (sy.1.mul sx.2)) (sx.2.mul sy.2) (by omega) (by omega) (Acq x y)
theorem uW{x y:Rat}{i j:Nat}{va vb:Value}{w:World}(ha:(Af (x.num*y.num)).p va w)(hb:(Af ((x.den:Int)*(y.den:Int))).p vb w)(sx:AR x i)(sy:AR y j)(hi:i≤140000000)(hj:j≤140000000):Calls Tryz.prog 61 #[va,vb] w (Aj (An (x*y)) w):=by
 rw [← Us];exact PH va vb w ha hb (sx.1.mul sy.1) (sx.2.mul sy.2) (by omega) (by omega) (Acq x y)
theorem vY{x y:Rat}{i j:Nat}{va vb:Value}{w:World}(ha:(Af (x.num*(y.den:Int))).p va w)(hb:(Af ((x.den:Int)*y.num)).p vb w)(sx:AR x i)(sy:AR y j)(hi:i≤140000000)(hj:j≤140000000)(ny:y≠0):Calls Tryz.prog 90 #[va,vb] w (Aj (B7 (An (x / y)) (Am (.int .i64 0))) w):=by
 rw [← W9];exact AgU ha hb (sx.1.mul sy.2) (sx.2.mul sy.1) (by omega) (by omega) (Ajk ny)
theorem iM{x y:Rat}{i j:Nat}{va vb:Value}{w:World}(ha:(Af (x.num*(y.den:Int))).p va w)(hb:(Af ((x.den:Int)*y.num)).p vb w)(sx:AR x i)(sy:AR y j)(hi:i≤140000000)(hj:j≤140000000)(ny:y=0):Calls Tryz.prog 90 #[va,vb] w (Aj (B7 (CO 0 0) (Am (.int .i64 3))) w):=
 AgB ha hb (sx.1.mul sy.2) (sx.2.mul sy.1) (by omega) (by omega) (AiC ny)
theorem rT{x y:Rat}{i j:Nat}(va:Value)(vb:Value)(W:World)(hva:(An x).p va W)(hvb:(An y).p vb W)(sx:AR x i)(sy:AR y j)(hi:i≤140000000)(hj:j≤140000000):Calls Tryz.prog 49 #[va,vb] W (Aj (An (x+y)) W):=by
  let E:List PF:=[(An x),(An y),(Af x.num),(Af (y.den:Int)),(Af (x.num*(y.den:Int))),(Af y.num),(Af (x.den:Int)),(Af (y.num*(x.den:Int))),(Af ((x.num*(y.den:Int))+(y.num*(x.den:Int)))),(Af ((x.den:Int)*(y.den:Int))),(An (x+y))]
  let EB:List CF:=[(A8 x),(A8 y),Bd,AS,(Ak ((x.num*(y.den:Int))+(y.num*(x.den:Int)))),(A8 (x+y))]
  exact Av (E:=E) (EB:=EB) (fs:=[(.ref 0),(.ref 1)]) (r:=(.ref 10))
   { calls:=[c2 62 (.ref 2) (.ref 3) (.ref 4) λw v0 v1 hb h0 h1=>Gw h0 h1 sx.1 sy.2 (by first | decide | assumption | omega) (by first | decide | assumption | omega),
      c2 62 (.ref 5) (.ref 6) (.ref 7) λw v0 v1 hb h0 h1=>Gw h0 h1 sy.1 sx.2 (by first | decide | assumption | omega) (by first | decide | assumption | omega),
      c2 81 (.ref 4) (.ref 7) (.ref 8) λw v0 v1 hb h0 h1=>X4 h0 h1 (sx.1.mul sy.2) (sy.1.mul sx.2) (by first | decide | assumption | omega) (by first | decide | assumption | omega),
      c2 62 (.ref 6) (.ref 3) (.ref 9) λw v0 v1 hb h0 h1=>Gw h0 h1 sx.2 sy.2 (by first | decide | assumption | omega) (by first | decide | assumption | omega),
      c2 61 (.ref 8) (.ref 9) (.ref 10) λw v0 v1 hb h0 h1=>Aau h0 h1 sx sy hi hj],
     loads:=[⟨34,0,0,(.ref 2),λw q h=>Bc w q h⟩,
      ⟨34,2,1,(.ref 3),λw q h=>Bs w q h⟩,
      ⟨34,0,1,(.ref 5),λw q h=>Bc w q h⟩,
      ⟨34,2,0,(.ref 6),λw q h=>Bs w q h⟩,
      ⟨34,0,4,(.ref 8),λw q h=>Ah w q h⟩,
      ⟨36,0,5,(.ref 10),λw q h=>AH w q h⟩],
     allocs:=[⟨36,2,_,AN,AP⟩,
      ⟨34,3,_,AU,AT⟩],
     boxes:=[⟨36,(.ref 0),0,λw v h=>AL w v h⟩,
      ⟨36,(.ref 1),1,λw v h=>AL w v h⟩],
     stores:=[⟨34,0,3,(.ref 8),4,(Ag _)⟩,
      ⟨36,0,2,(.ref 10),5,AK⟩],
     flds:=[⟨36,0,0,DC⟩,
      ⟨36,1,2,Et⟩] }
   Tryz.func49 ⟨hva,hvb,trivial⟩ (by kernel_rfl)
theorem AeZ{x y:Rat}{i j:Nat}(va:Value)(vb:Value)(W:World)(hva:(An x).p va W)(hvb:(An y).p vb W)(sx:AR x i)(sy:AR y j)(hi:i≤140000000)(hj:j≤140000000):Calls Tryz.prog 37 #[va,vb] W (Aj (An (x*y)) W):=by
  let E:List PF:=[(An x),(An y),(Af x.num),(Af y.num),(Af (x.num*y.num)),(Af (x.den:Int)),(Af (y.den:Int)),(Af ((x.den:Int)*(y.den:Int))),(An (x*y))]
  let EB:List CF:=[(A8 x),(A8 y),Bd,(A8 (x*y))]
  exact Av (E:=E) (EB:=EB) (fs:=[(.ref 0),(.ref 1)]) (r:=(.ref 8))
   { calls:=[c2 62 (.ref 2) (.ref 3) (.ref 4) λw v0 v1 hb h0 h1=>Gw h0 h1 sx.1 sy.1 (by first | decide | assumption | omega) (by first | decide | assumption | omega),
      c2 62 (.ref 5) (.ref 6) (.ref 7) λw v0 v1 hb h0 h1=>Gw h0 h1 sx.2 sy.2 (by first | decide | assumption | omega) (by first | decide | assumption | omega),
      c2 61 (.ref 4) (.ref 7) (.ref 8) λw v0 v1 hb h0 h1=>uW h0 h1 sx sy hi hj],
     loads:=[⟨34,0,0,(.ref 2),λw q h=>Bc w q h⟩,
      ⟨34,0,1,(.ref 3),λw q h=>Bc w q h⟩,
      ⟨34,2,0,(.ref 5),λw q h=>Bs w q h⟩,
      ⟨34,2,1,(.ref 6),λw q h=>Bs w q h⟩,
      ⟨36,0,3,(.ref 8),λw q h=>AH w q h⟩],
     allocs:=[⟨36,2,_,AN,AP⟩],
     boxes:=[⟨36,(.ref 0),0,λw v h=>AL w v h⟩,
      ⟨36,(.ref 1),1,λw v h=>AL w v h⟩],
     stores:=[⟨36,0,2,(.ref 8),3,AK⟩],
     flds:=[⟨36,0,0,DC⟩,
      ⟨36,1,2,Et⟩] }
   Tryz.func37 ⟨hva,hvb,trivial⟩ (by kernel_rfl)
theorem AdV{x y:Rat}{i j:Nat}(va:Value)(vb:Value)(W:World)(hva:(An x).p va W)(hvb:(An y).p vb W)(sx:AR x i)(sy:AR y j)(hi:i≤140000000)(hj:j≤140000000):Calls Tryz.prog 32 #[va,vb] W (Aj (An (x + -y)) W):=by
  let E:List PF:=[(An x),(An y),(An (-y)),(An (x + -y))]
  let EB:List CF:=[(A8 x),(A8 y),Bd,(A8 (x + -y))]
  exact Av (E:=E) (EB:=EB) (fs:=[(.ref 0),(.ref 1)]) (r:=(.ref 3))
   { calls:=[c1 36 (.ref 1) (.ref 2) λw v0 hb h0=>qO _ _ h0 sy (by omega),
      c2 49 (.ref 0) (.ref 2) (.ref 3) λw v0 v1 hb h0 h1=>rT _ _ _ h0 h1 sx sy.neg hi hj],
     loads:=[⟨36,0,0,(.ref 0),λw q h=>AH w q h⟩,
      ⟨36,0,1,(.ref 1),λw q h=>AH w q h⟩,
      ⟨36,0,3,(.ref 3),λw q h=>AH w q h⟩],
     allocs:=[⟨36,2,_,AN,AP⟩],
     boxes:=[⟨36,(.ref 0),0,λw v h=>AL w v h⟩,
      ⟨36,(.ref 1),1,λw v h=>AL w v h⟩],
     stores:=[⟨36,0,2,(.ref 3),3,AK⟩] }
   Tryz.func32 ⟨hva,hvb,trivial⟩ (by kernel_rfl)
theorem uN{x:Rat}{i:Nat}(va:Value)(W:World)(hva:(An x).p va W)(sx:AR x i)(_hi:i≤600000000):Calls Tryz.prog 38 #[va] W (Aj (Am (.int .i64 (Int.sign x.num))) W):=by
  let E:List PF:=[(An x),(Af x.num),(Am (.int .i64 (Int.sign x.num)))]
  let EB:List CF:=[(A8 x)]
  exact Av (E:=E) (EB:=EB) (fs:=[(.ref 0)]) (r:=(.ref 2))
   { calls:=[c1 63 (.ref 1) (.ref 2) λw v0 hb h0=>C1 h0 sx.1 (by first | decide | assumption | omega)],
     loads:=[⟨34,0,0,(.ref 1),λw q h=>Bc w q h⟩],
     boxes:=[⟨36,(.ref 0),0,λw v h=>AL w v h⟩],
     flds:=[⟨36,0,0,DC⟩] }
   Tryz.func38 ⟨hva,trivial⟩ (by kernel_rfl)
theorem Aeg{x y:Rat}{i j:Nat}{va vb:Value}{w:World}(ha:(An x).p va w)(hb:(An y).p vb w)(sx:AR x i)(sy:AR y j)(hi:i≤140000000)(hj:j≤140000000):Calls Tryz.prog 32 #[va,vb] w (Aj (An (x - y)) w):=by
 rw [Rat.sub_eq_add_neg]; exact AdV va vb w ha hb sx sy hi hj
theorem AfM{x y:Rat}{i j:Nat}(va:Value)(vb:Value)(W:World)(hva:(An x).p va W)(hvb:(An y).p vb W)(sx:AR x i)(sy:AR y j)(hi:i≤140000000)(hj:j≤140000000)(ny:y≠0):Calls Tryz.prog 110 #[va,vb] W (Aj (B7 (An (x / y)) (Am (.int .i64 0))) W):=by
  let E:List PF:=[(An x),(An y),(Af x.num),(Af (y.den:Int)),(Af (x.num*(y.den:Int))),(Af (x.den:Int)),(Af y.num),(Af ((x.den:Int)*y.num)),(An (x / y))]
  let EB:List CF:=[(A8 x),(A8 y),Bd,(A8 (x / y))]
  exact Av (E:=E) (EB:=EB) (fs:=[(.ref 0),(.ref 1)]) (r:=(.tup2 (.ref 8) (.int .i64 0)))
   { calls:=[c2 62 (.ref 2) (.ref 3) (.ref 4) λw v0 v1 hb h0 h1=>Gw h0 h1 sx.1 sy.2 (by first | decide | assumption | omega) (by first | decide | assumption | omega),
      c2 62 (.ref 5) (.ref 6) (.ref 7) λw v0 v1 hb h0 h1=>Gw h0 h1 sx.2 sy.1 (by first | decide | assumption | omega) (by first | decide | assumption | omega),
      c2 90 (.ref 4) (.ref 7) (.tup2 (.ref 8) (.int .i64 0)) λw v0 v1 hb h0 h1=>vY h0 h1 sx sy hi hj ny],
     loads:=[⟨34,0,0,(.ref 2),λw q h=>Bc w q h⟩,
      ⟨34,2,1,(.ref 3),λw q h=>Bs w q h⟩,
      ⟨34,2,0,(.ref 5),λw q h=>Bs w q h⟩,
      ⟨34,0,1,(.ref 6),λw q h=>Bc w q h⟩,
      ⟨36,0,3,(.ref 8),λw q h=>AH w q h⟩],
     allocs:=[⟨36,2,_,AN,AP⟩],
     boxes:=[⟨36,(.ref 0),0,λw v h=>AL w v h⟩,
      ⟨36,(.ref 1),1,λw v h=>AL w v h⟩],
     stores:=[⟨36,0,2,(.ref 8),3,AK⟩],
     flds:=[⟨36,0,0,DC⟩,
      ⟨36,1,2,Et⟩] }
   Tryz.func110 ⟨hva,hvb,trivial⟩ (by kernel_rfl)
theorem Aed{x y:Rat}{i j:Nat}(va:Value)(vb:Value)(W:World)(hva:(An x).p va W)(hvb:(An y).p vb W)(sx:AR x i)(sy:AR y j)(hi:i≤140000000)(hj:j≤140000000)(ny:y=0):Calls Tryz.prog 110 #[va,vb] W (Aj (B7 (CO 0 0) (Am (.int .i64 3))) W):=by
  let E:List PF:=[(An x),(An y),(Af x.num),(Af (y.den:Int)),(Af (x.num*(y.den:Int))),(Af (x.den:Int)),(Af y.num),(Af ((x.den:Int)*y.num)),(CO 0 0)]
  let EB:List CF:=[(A8 x),(A8 y),Bd,(FQ 0 0)]
  exact Av (E:=E) (EB:=EB) (fs:=[(.ref 0),(.ref 1)]) (r:=(.tup2 (.ref 8) (.int .i64 3)))
   { calls:=[c2 62 (.ref 2) (.ref 3) (.ref 4) λw v0 v1 hb h0 h1=>Gw h0 h1 sx.1 sy.2 (by first | decide | assumption | omega) (by first | decide | assumption | omega),
      c2 62 (.ref 5) (.ref 6) (.ref 7) λw v0 v1 hb h0 h1=>Gw h0 h1 sx.2 sy.1 (by first | decide | assumption | omega) (by first | decide | assumption | omega),
      c2 90 (.ref 4) (.ref 7) (.tup2 (.ref 8) (.int .i64 3)) λw v0 v1 hb h0 h1=>iM h0 h1 sx sy hi hj ny],
     loads:=[⟨34,0,0,(.ref 2),λw q h=>Bc w q h⟩,
      ⟨34,2,1,(.ref 3),λw q h=>Bs w q h⟩,
      ⟨34,2,0,(.ref 5),λw q h=>Bs w q h⟩,
      ⟨34,0,1,(.ref 6),λw q h=>Bc w q h⟩,
      ⟨36,0,3,(.ref 8),λw q h=>AH w q h⟩],
     allocs:=[⟨36,2,_,AN,AP⟩],
     boxes:=[⟨36,(.ref 0),0,λw v h=>AL w v h⟩,
      ⟨36,(.ref 1),1,λw v h=>AL w v h⟩],
     stores:=[⟨36,0,2,(.ref 8),3,AK⟩],
     flds:=[⟨36,0,0,DC⟩,
      ⟨36,1,2,Et⟩] }
   Tryz.func110 ⟨hva,hvb,trivial⟩ (by kernel_rfl)
theorem Tp{z:Int}(W:World)(hz0 : -9223372036854775808≤z)(hz1:z≤9223372036854775807):Calls Tryz.prog 28 #[.int .i64 z] W (Aj (An (z:Rat)) W):=by
  let E:List PF:=[(Am (.int .i64 z)),(Af z),(Af 1),(An ((z:Int):Rat))]
  let EB:List CF:=[Bd,(A8 ((z:Int):Rat))]
  exact Av (E:=E) (EB:=EB) (fs:=[(.ref 0)]) (r:=(.ref 3))
   { pures:=[p2 (.bld 36 [0,1]) (.ref 1) (.ref 2) (.ref 3) λ_ _ _ _ _ hx hy=>BA (HU z).1.symm (HU z).2.symm hx hy],
     calls:=[c1 58 (.ref 0) (.ref 1) λw v0 hb h0=>bF z hz0 hz1 h0,
      c1 58 (.int .i64 1) (.ref 2) λw v0 hb h0=>bF 1 (by omega) (by omega) h0],
     loads:=[⟨36,0,1,(.ref 3),λw q h=>AH w q h⟩],
     allocs:=[⟨36,0,_,AN,AP⟩],
     stores:=[⟨36,0,0,(.ref 3),1,AK⟩] }
   Tryz.func28 ⟨rfl,trivial⟩ (by kernel_rfl)
theorem zH{x y:Rat}{i j:Nat}(va:Value)(vb:Value)(W:World)(hva:(An x).p va W)(hvb:(An y).p vb W)(sx:AR x i)(sy:AR y j)(_hi:i≤600000000)(_hj:j≤600000000)(e1:x.num=y.num)(e2:(x.den:Int)=(y.den:Int)):Calls Tryz.prog 24 #[va,vb] W (Aj (Am (.bool true)) W):=by
  let E:List PF:=[(An x),(An y),(Af x.num),(Af y.num),(Af (x.den:Int)),(Af (y.den:Int))]
  let EB:List CF:=[(A8 x),(A8 y)]
  exact Av (E:=E) (EB:=EB) (fs:=[(.ref 0),(.ref 1)]) (r:=(.bool true))
   { calls:=[c2 57 (.ref 2) (.ref 3) (.bool true) λw v0 v1 hb h0 h1=>W6 h0 h1 sx.1 sy.1 (by first | decide | assumption | omega) (by first | decide | assumption | omega) e1,
      c2 57 (.ref 4) (.ref 5) (.bool true) λw v0 v1 hb h0 h1=>W6 h0 h1 sx.2 sy.2 (by first | decide | assumption | omega) (by first | decide | assumption | omega) e2],
     loads:=[⟨34,0,0,(.ref 2),λw q h=>Bc w q h⟩,
      ⟨34,0,1,(.ref 3),λw q h=>Bc w q h⟩,
      ⟨34,2,0,(.ref 4),λw q h=>Bs w q h⟩,
      ⟨34,2,1,(.ref 5),λw q h=>Bs w q h⟩],
     boxes:=[⟨36,(.ref 0),0,λw v h=>AL w v h⟩,
      ⟨36,(.ref 1),1,λw v h=>AL w v h⟩],
     flds:=[⟨36,0,0,DC⟩,
      ⟨36,1,2,Et⟩] }
   Tryz.func24 ⟨hva,hvb,trivial⟩ (by kernel_rfl)
theorem AaR{x y:Rat}{i j:Nat}(va:Value)(vb:Value)(W:World)(hva:(An x).p va W)(hvb:(An y).p vb W)(sx:AR x i)(sy:AR y j)(_hi:i≤600000000)(_hj:j≤600000000)(e1:x.num≠y.num):Calls Tryz.prog 24 #[va,vb] W (Aj (Am (.bool false)) W):=by
  let E:List PF:=[(An x),(An y),(Af x.num),(Af y.num)]
  let EB:List CF:=[(A8 x),(A8 y)]
  exact Av (E:=E) (EB:=EB) (fs:=[(.ref 0),(.ref 1)]) (r:=(.bool false))
   { calls:=[c2 57 (.ref 2) (.ref 3) (.bool false) λw v0 v1 hb h0 h1=>kR h0 h1 sx.1 sy.1 (by omega) (by omega) e1],
     loads:=[⟨34,0,0,(.ref 2),λw q h=>Bc w q h⟩,
      ⟨34,0,1,(.ref 3),λw q h=>Bc w q h⟩],
     boxes:=[⟨36,(.ref 0),0,λw v h=>AL w v h⟩,
      ⟨36,(.ref 1),1,λw v h=>AL w v h⟩],
     flds:=[⟨36,0,0,DC⟩] }
   Tryz.func24 ⟨hva,hvb,trivial⟩ (by kernel_rfl)
theorem vX{x y:Rat}{i j:Nat}(va:Value)(vb:Value)(W:World)(hva:(An x).p va W)(hvb:(An y).p vb W)(sx:AR x i)(sy:AR y j)(_hi:i≤600000000)(_hj:j≤600000000)(e1:x.num=y.num)(e2:(x.den:Int)≠(y.den:Int)):Calls Tryz.prog 24 #[va,vb] W (Aj (Am (.bool false)) W):=by
  let E:List PF:=[(An x),(An y),(Af x.num),(Af y.num),(Af (x.den:Int)),(Af (y.den:Int))]
  let EB:List CF:=[(A8 x),(A8 y)]
  exact Av (E:=E) (EB:=EB) (fs:=[(.ref 0),(.ref 1)]) (r:=(.bool false))
   { calls:=[c2 57 (.ref 2) (.ref 3) (.bool true) λw v0 v1 hb h0 h1=>W6 h0 h1 sx.1 sy.1 (by first | decide | assumption | omega) (by first | decide | assumption | omega) e1,
      c2 57 (.ref 4) (.ref 5) (.bool false) λw v0 v1 hb h0 h1=>kR h0 h1 sx.2 sy.2 (by omega) (by omega) e2],
     loads:=[⟨34,0,0,(.ref 2),λw q h=>Bc w q h⟩,
      ⟨34,0,1,(.ref 3),λw q h=>Bc w q h⟩,
      ⟨34,2,0,(.ref 4),λw q h=>Bs w q h⟩,
      ⟨34,2,1,(.ref 5),λw q h=>Bs w q h⟩],
     boxes:=[⟨36,(.ref 0),0,λw v h=>AL w v h⟩,
      ⟨36,(.ref 1),1,λw v h=>AL w v h⟩],
     flds:=[⟨36,0,0,DC⟩,
      ⟨36,1,2,Et⟩] }
   Tryz.func24 ⟨hva,hvb,trivial⟩ (by kernel_rfl)
theorem Ka{x y:Int}(W:World)(hx0 : -9223372036854775808≤x)(hx1:x≤9223372036854775807)(hy0 : -9223372036854775808≤y)(hy1:y≤9223372036854775807)(ny:y≠0):Calls Tryz.prog 40 #[.int .i64 x,.int .i64 y] W (Aj (An (Rat.divInt x y)) W):=by
  let E:List PF:=[(Am (.int .i64 x)),(Am (.int .i64 y)),(Af x),(Af y),(An (Rat.divInt x y))]
  let EB:List CF:=[Bd,(A8 (Rat.divInt x y))]
  exact Av (E:=E) (EB:=EB) (fs:=[(.ref 0),(.ref 1)]) (r:=(.ref 4))
   { pures:=[p2 (.bin .eql 2 2) (.ref 1) (.int .i64 0) (.bool false) λ_ _ _ _ _ hx hy=>Cm (r:=false) (by simpa using ny) hx hy],
     calls:=[c1 58 (.ref 0) (.ref 2) λw v0 hb h0=>bF x hx0 hx1 h0,
      c1 58 (.ref 1) (.ref 3) λw v0 hb h0=>bF y hy0 hy1 h0,
      c2 61 (.ref 2) (.ref 3) (.ref 4) λw v0 v1 hb h0 h1=>PH _ _ _ h0 h1 (gM hx0 hx1) (gM hy0 hy1) (by decide) (by decide) ny],
     loads:=[⟨36,0,1,(.ref 4),λw q h=>AH w q h⟩],
     allocs:=[⟨36,0,_,AN,AP⟩],
     stores:=[⟨36,0,0,(.ref 4),1,AK⟩] }
   Tryz.func40 ⟨rfl,rfl,trivial⟩ (by kernel_rfl)
theorem AcR{x y:Rat}{i j:Nat}(va:Value)(vb:Value)(W:World)(hva:(An x).p va W)(hvb:(An y).p vb W)(sx:AR x i)(sy:AR y j)(_hi:i≤100000000)(_hj:j≤100000000)(ny:y≠0):Calls Tryz.prog 113 #[va,vb] W (Aj (B7 (An (x*y⁻¹)) (Am (.int .i64 0))) W):=by
  let E:List PF:=[(An x),(An y),(Am (.int .i64 (FV y 0))),(An y⁻¹),(An (x*y⁻¹))]
  let EB:List CF:=[(A8 x),(A8 y),Bd,(A8 (x*y⁻¹))]
  exact Av (E:=E) (EB:=EB) (fs:=[(.ref 0),(.ref 1)]) (r:=(.tup2 (.ref 4) (.int .i64 0)))
   { pures:=[p2 (.bin .eql 3 3) (.ref 2) (.int .i64 0) (.bool false) λ_ _ _ _ _ hx hy=>Cm (r:=false) (xV ny) hx hy],
     calls:=[c1 95 (.ref 1) (.ref 2) λw v0 hb h0=>Qy h0 sy (by first | decide | assumption | omega),
      c1 122 (.ref 1) (.ref 3) λw v0 hb h0=>Ajg h0 sy (by first | decide | assumption | omega) ny,
      c2 48 (.ref 0) (.ref 3) (.ref 4) λw v0 v1 hb h0 h1=>nJ h0 h1 sx sy.inv (by first | decide | assumption | omega) (by first | decide | assumption | omega)],
     loads:=[⟨36,0,1,(.ref 1),λw q h=>AH w q h⟩,
      ⟨36,0,0,(.ref 0),λw q h=>AH w q h⟩,
      ⟨36,0,3,(.ref 4),λw q h=>AH w q h⟩],
     allocs:=[⟨36,2,_,AN,AP⟩],
     boxes:=[⟨36,(.ref 0),0,λw v h=>AL w v h⟩,
      ⟨36,(.ref 1),1,λw v h=>AL w v h⟩],
     stores:=[⟨36,0,2,(.ref 4),3,AK⟩] }
   Tryz.func113 ⟨hva,hvb,trivial⟩ (by kernel_rfl)
theorem Agh{x y:Rat}{i j:Nat}(va:Value)(vb:Value)(W:World)(hva:(An x).p va W)(hvb:(An y).p vb W)(_sx:AR x i)(sy:AR y j)(_hi:i≤100000000)(_hj:j≤100000000)(ny:y=0):Calls Tryz.prog 113 #[va,vb] W (Aj (B7 (CO 0 0) (Am (.int .i64 3))) W):=by
  let E:List PF:=[(An x),(An y),(Am (.int .i64 (FV y 0))),(CO 0 0)]
  let EB:List CF:=[(A8 x),(A8 y),Bd,(FQ 0 0)]
  exact Av (E:=E) (EB:=EB) (fs:=[(.ref 0),(.ref 1)]) (r:=(.tup2 (.ref 3) (.int .i64 3)))
   { pures:=[p2 (.bin .eql 3 3) (.ref 2) (.int .i64 0) (.bool true) λ_ _ _ _ _ hx hy=>Cm (r:=true) (AaT ny) hx hy,
      p0 (.bld 36 []) (.ref 3) λ_ _ _=>Ok],
     calls:=[c1 95 (.ref 1) (.ref 2) λw v0 hb h0=>Qy h0 sy (by first | decide | assumption | omega)],
     loads:=[⟨36,0,1,(.ref 1),λw q h=>AH w q h⟩,
      ⟨36,0,3,(.ref 3),λw q h=>AH w q h⟩],
     allocs:=[⟨36,2,_,AN,AP⟩],
     boxes:=[⟨36,(.ref 0),0,λw v h=>AL w v h⟩,
      ⟨36,(.ref 1),1,λw v h=>AL w v h⟩],
     stores:=[⟨36,0,2,(.ref 3),3,AK⟩] }
   Tryz.func113 ⟨hva,hvb,trivial⟩ (by kernel_rfl)
section
variable {w : World} {va vb : Value} {x y : Rat} {i j : Nat}
theorem Acx(ha:(An x).p va w)(hb:(An y).p vb w)(sx:AR x i)(sy:AR y j)(hi:i≤140000000)(hj:j≤140000000):Calls Tryz.prog 49 #[va,vb] w (Aj (An (x+y)) w):=rT va vb w ha hb sx sy hi hj
theorem AiZ(ha:(An x).p va w)(hb:(An y).p vb w)(sx:AR x i)(sy:AR y j)(hi:i≤140000000)(hj:j≤140000000):Calls Tryz.prog 32 #[va,vb] w (Aj (An (x - y)) w):=Aeg ha hb sx sy hi hj
theorem Aa3(ha:(An x).p va w)(hb:(An y).p vb w)(sx:AR x i)(sy:AR y j)(hi:i≤140000000)(hj:j≤140000000):Calls Tryz.prog 37 #[va,vb] w (Aj (An (x*y)) w):=AeZ va vb w ha hb sx sy hi hj
theorem AaW(ha:(An x).p va w)(sx:AR x i)(hi:i≤300000000):Calls Tryz.prog 36 #[va] w (Aj (An (-x)) w):=qO va w ha sx hi
theorem mE(ha:(An x).p va w)(sx:AR x i)(hi:i≤300000000):Calls Tryz.prog 38 #[va] w (Aj (Am (.int .i64 (FV x 0))) w):=by
 rw [← Tf]; exact uN va w ha sx (by omega)
theorem AhD(ha:(An x).p va w)(hb:(An y).p vb w)(sx:AR x i)(sy:AR y j)(hi:i≤140000000)(hj:j≤140000000)(ny:y≠0):Calls Tryz.prog 110 #[va,vb] w (Aj (B7 (An (x / y)) (Am (.int .i64 0))) w):=AfM va vb w ha hb sx sy hi hj ny
theorem AeI(ha:(An x).p va w)(hb:(An y).p vb w)(sx:AR x i)(sy:AR y j)(hi:i≤140000000)(hj:j≤140000000)(ny:y=0):Calls Tryz.prog 110 #[va,vb] w (Aj (B7 (CO 0 0) (Am (.int .i64 3))) w):=Aed va vb w ha hb sx sy hi hj ny
theorem Ab4(ha:(An x).p va w)(hb:(An y).p vb w)(sx:AR x i)(sy:AR y j)(hi:i≤100000000)(hj:j≤100000000)(ny:y≠0):Calls Tryz.prog 113 #[va,vb] w (Aj (B7 (An (x / y)) (Am (.int .i64 0))) w):=by
 rw [Rat.div_def]; exact AcR va vb w ha hb sx sy hi hj ny
theorem AfG(ha:(An x).p va w)(hb:(An y).p vb w)(sx:AR x i)(sy:AR y j)(hi:i≤100000000)(hj:j≤100000000)(ny:y=0):Calls Tryz.prog 113 #[va,vb] w (Aj (B7 (CO 0 0) (Am (.int .i64 3))) w):=Agh va vb w ha hb sx sy hi hj ny
theorem Aaa(z:Int)(h0 : -9223372036854775808≤z)(h1:z≤9223372036854775807)(hv:(Am (.int .i64 z)).p va w):Calls Tryz.prog 28 #[va] w (Aj (An (z:Rat)) w):=by
 have hv:va = .int .i64 z:=hv;rw [hv];exact Tp w h0 h1
theorem Adb(ha:(An x).p va w)(hb:(An y).p vb w)(sx:AR x i)(sy:AR y j)(hi:i≤300000000)(hj:j≤300000000):Calls Tryz.prog 24 #[va,vb] w (Aj (Am (.bool (decide (x=y)))) w):=by
 by_cases e1:x.num=y.num
 ·by_cases e2:(x.den:Int)=(y.den:Int)
  ·rw [decide_eq_true (uA e1 e2)]
   exact zH va vb w ha hb sx sy (by omega) (by omega) e1 e2
  ·rw [decide_eq_false (λe=>e2 (by rw [e]))]
   exact vX va vb w ha hb sx sy (by omega) (by omega) e1 e2
 ·rw [decide_eq_false (λe=>e1 (by rw [e]))]
  exact AaR va vb w ha hb sx sy (by omega) (by omega) e1
end
section
open Go.RowKit
end
def Ahl(W:World)(wr:World)(z:Rat):Prop:=(A8 z).p W.heap.size wr∧Below W.heap.size W wr∧Bt W wr
theorem Ahl.cells{W wr:World}{z:Rat}(h:Ahl W wr z):∃ b A k c b' A' k' c',wr.cell? ⟨W.heap.size,0,none⟩=some (.bool b)∧wr.cell? ⟨W.heap.size,1,none⟩=some (.slice A k c)∧wr.cell? ⟨W.heap.size,2,none⟩=some (.bool b')∧wr.cell? ⟨W.heap.size,3,none⟩=some (.slice A' k' c')∧Hid (B4 wr (.agg #[.bool b,.slice A k c,.bool b',.slice A' k' c']) z.num (z.den:Int)):=by
 obtain ⟨⟨b,A,k,c,b',A',k',c',hh,h1,h2⟩,_,_⟩:=h;obtain ⟨e0,e1,e2,e3⟩:=Ev hh;exact ⟨b,A,k,c,b',A',k',c',e0,e1,e2,e3,⟨_,_,_,_,_,_,_,_,rfl,h1,h2⟩⟩
end Go.Proofs.YtdopbgnkneeceaaGreat

/- Rational numbers: isOne, and the ends of functions whose results lie in boxes. -/
import Derived.Test.YtgaehhapjnbieaaGreatqGcdL
set_option linter.unusedSectionVars false
set_option linter.unusedVariables false
set_option linter.unusedSimpArgs false
set_option maxRecDepth 100000
namespace Go.Proofs.YtgaehhapjnbieaaGreat
open Go.RowKit
set_option maxHeartbeats 1600000 in
theorem oQ(v:Value)(z:Int)(w:World)(h:Aw w v z)(hl:len z.natAbs≤4398046511104):Calls Tryz.prog 113 #[v] w λe w'=>e = .returned (.bool (decide (z=1)))∧Below w.heap.size w w':=by
 obtain ⟨n,hn⟩:∃ n,z.natAbs=n:=⟨_,rfl⟩;obtain ⟨b,hb⟩:∃ b,decide (z<0)=b:=⟨_,rfl⟩;obtain ⟨A,c,rfl,H⟩:=h.parts_ hn hb;rw [hn] at hl;have hm:=H.out.mem.2.2;clear h
 cases b with
 | true =>
  have hz:decide (z=1)=false:=by simp at hb ⊢; omega
  have HZ:=Lib.hid hz;clear hz hb hn hm
  go_enter Tryz.func113,Tryz.ntmps113
  go_wp2
  go_ret
  rw [HZ.out];exact ⟨rfl,Aj _ _⟩
 | false =>
  by_cases h1:len n=1
  ·have h1':(Ac n).length=1:=h1
   obtain ⟨x,hx⟩:∃ x,Ac n=[x]:=List.length_eq_one_iff.1 h1';have hnx:n=x:=by
    have:=Az n;rw [hx] at this;simp [val] at this;exact this.symm
   obtain ⟨ad,rfl,hlt,hc⟩:=hm.at_ (k:=0) (by omega);have hx0:(Ac n)[0]'(by omega)=n:=by simp [hx,← hnx]
   have hadd:ad.add 0=ad:=by unfold Addr.add; simp
   rw [hx0,hadd] at hc;have hcell:=(World.cell?_alloc_lt w (Obj.cells #[.bool false,.slice (some ad) 1 c] 34) ad hlt).trans hc;have hz:decide (z=1)=decide (n=1):=by
    have:¬ z<0:=by simpa using hb
    rw [decide_eq_decide]; omega
   have HZ:=Lib.hid hz;have HC:=Lib.hid hc;rw [h1];clear hz hb hn hm hx hx0 hnx h1' hc
   go_enter Tryz.func113,Tryz.ntmps113
   go_wp2
   go_ret
   rw [HZ.out];refine ⟨congrArg (λb=>Ending.returned (Value.bool b)) ?_,Aj _ _⟩;show ((n:Int) == 1)=decide (n=1);rw [Bool.eq_iff_iff];simp;omega
  ·have hz:decide (z=1)=false:=by
    simp only [decide_eq_false_iff_not]
    rintro rfl
    apply h1;rw [← hn];decide +kernel
   have HZ:=Lib.hid hz;have hne:((len n:Int) == 1)=false:=by simp; omega
   clear hz hb hn hm
   go_enter Tryz.func113,Tryz.ntmps113
   go_wp2
   go_ret
   rw [HZ.out];exact ⟨rfl,Aj _ _⟩
theorem AlQ{x:Int}{i:Nat}{va:Value}{w:World}(ha:(Ah x).p va w)(sx:Sm x i)(hi:i≤1000000000):Calls Tryz.prog 113 #[va] w (Ak (Ap (.bool (decide (x=1)))) w):=
 (oQ va x w ha (Nat.le_trans (sx.len hi) (by decide))).mono λ_ _ ⟨e,hb⟩=>⟨_,e,rfl,hb⟩
theorem kR{x:Int}{i:Nat}{va:Value}{w:World}(ha:(Ah x).p va w)(sx:Sm x i)(hi:i≤1000000000)(e:x=1):Calls Tryz.prog 113 #[va] w (Ak (Ap (.bool true)) w):=by
 have:=AlQ ha sx hi;rwa [decide_eq_true e] at this
theorem QK{x:Int}{i:Nat}{va:Value}{w:World}(ha:(Ah x).p va w)(sx:Sm x i)(hi:i≤1000000000)(e:x≠1):Calls Tryz.prog 113 #[va] w (Ak (Ap (.bool false)) w):=by
 have:=AlQ ha sx hi;rwa [decide_eq_false e] at this
section
variable {Wb : World} {N : Nat} {S : List (Nat × PF)} {B : List (Nat × CF)} {a : Act} {w : World}
theorem yO{fn:Func}{t:Nat}{n d:Int}(hst:St Wb N S B a w)(hr:fn.results = #[.cell t 36])(k:Nat)(hk:B[k]? = some (t,Hj n d)):bodyPost Tryz.prog fn (Ak (DH n d) Wb) .ret a w:=by
 obtain ⟨g,h1,_,b,A,n,c,b',A',n',c',hh,hi,hi'⟩:=hst.boxes.get hk;obtain ⟨e0,e1,e2,e3⟩:=Ff hh;refine bodyPost_ret (v:=.agg #[.bool b,.slice A n c,.bool b',.slice A' n' c']) ?_ hst.defers ⟨_,rfl,⟨_,_,_,_,_,_,_,_,rfl,hi,hi'⟩,hst.below⟩;simp [results,hr,go_sem,e0,e1,e2,e3,Array.getD_eq_getD_getElem?,h1]
end
theorem Afs{x y:Int}{i j:Nat}(va:Value)(vb:Value)(W:World)(hva:(Ah x).p va W)(hvb:(Ah y).p vb W)(sx:Sm x i)(sy:Sm y j)(_hi:i≤600000000)(_hj:j≤600000000)(ny:y≠0):Calls Tryz.prog 124 #[va,vb] W (Ak (Ah (x / y)) W):=by
  let E:List PF:=[(Ah x),(Ah y),(Ah (x / y)),(Ah (x % y))]
  let EB:List CF:=[(Ao x),(Ao y),Bf,(Ao (x / y)),(Ao (x % y))]
  exact AK (E:=E) (EB:=EB) (fs:=[(.ref 0),(.ref 1)]) (r:=(.ref 2))
   { calls:=[c2 136 (.ref 0) (.ref 1) (.tup3 (.ref 2) (.ref 3) (.int .i64 0)) λw v0 v1 hb h0 h1=>Ad9 h0 h1 sx sy (by first | decide | assumption | omega) (by first | decide | assumption | omega) ny],
     loads:=[⟨34,0,0,(.ref 0),λw q h=>An w q h⟩,
      ⟨34,0,1,(.ref 1),λw q h=>An w q h⟩,
      ⟨34,0,3,(.ref 2),λw q h=>An w q h⟩],
     allocs:=[⟨34,2,_,Bn,Bl⟩],
     boxes:=[⟨34,(.ref 0),0,λw v h=>Bk w v h⟩,
      ⟨34,(.ref 1),1,λw v h=>Bk w v h⟩],
     stores:=[⟨34,0,2,(.ref 2),3,(Al _)⟩,
      ⟨34,0,2,(.ref 3),4,(Al _)⟩] }
   Tryz.func124 ⟨hva,hvb,trivial⟩ (by kernel_rfl)
theorem AmQ{x y:Int}{i j:Nat}{va vb:Value}{w:World}(ha:(Ah x).p va w)(hb:(Ah y).p vb w)(sx:Sm x i)(sy:Sm y j)(hi:i≤600000000)(hj:j≤600000000)(ny:y≠0):Calls Tryz.prog 124 #[va,vb] w (Ak (Ah (x / y)) w):=Afs va vb w ha hb sx sy hi hj ny
theorem Aqm{x y:Int}{i j:Nat}(va:Value)(vb:Value)(W:World)(hva:(Ah x).p va W)(hvb:(Ah y).p vb W)(sx:Sm x i)(_sy:Sm y j)(_hi:i≤600000000)(_hj:j≤600000000)(h1:x=1):Calls Tryz.prog 103 #[va,vb] W (Ak (ER (Ah x) (Ah y) (Ah 1)) W):=by
  let E:List PF:=[(Ah x),(Ah y),(Ah 1)]
  let EB:List CF:=[(Ao x),(Ao y),Bf,(Ao 1)]
  exact AK (E:=E) (EB:=EB) (fs:=[(.ref 0),(.ref 1)]) (r:=(.tup3 (.ref 0) (.ref 1) (.ref 2)))
   { calls:=[c1 113 (.ref 0) (.bool true) λw v0 hb h0=>kR h0 sx (by first | decide | assumption | omega) h1,
      c1 106 (.int .i64 1) (.ref 2) λw v0 hb h0=>kOf 1 (by omega) (by omega) h0],
     loads:=[⟨34,0,0,(.ref 0),λw q h=>An w q h⟩,
      ⟨34,0,1,(.ref 1),λw q h=>An w q h⟩,
      ⟨34,0,3,(.ref 2),λw q h=>An w q h⟩],
     allocs:=[⟨34,2,_,Bn,Bl⟩],
     boxes:=[⟨34,(.ref 0),0,λw v h=>Bk w v h⟩,
      ⟨34,(.ref 1),1,λw v h=>Bk w v h⟩],
     stores:=[⟨34,0,2,(.ref 0),0,(Al _)⟩,
      ⟨34,0,2,(.ref 1),1,(Al _)⟩,
      ⟨34,0,2,(.ref 2),3,(Al _)⟩] }
   Tryz.func103 ⟨hva,hvb,trivial⟩ (by kernel_rfl)
theorem Ane{x y:Int}{i j:Nat}(va:Value)(vb:Value)(W:World)(hva:(Ah x).p va W)(hvb:(Ah y).p vb W)(sx:Sm x i)(sy:Sm y j)(_hi:i≤600000000)(_hj:j≤600000000)(h1:x≠1)(h2:y=1):Calls Tryz.prog 103 #[va,vb] W (Ak (ER (Ah x) (Ah y) (Ah 1)) W):=by
  let E:List PF:=[(Ah x),(Ah y),(Ah 1)]
  let EB:List CF:=[(Ao x),(Ao y),Bf,(Ao 1)]
  exact AK (E:=E) (EB:=EB) (fs:=[(.ref 0),(.ref 1)]) (r:=(.tup3 (.ref 0) (.ref 1) (.ref 2)))
   { calls:=[c1 113 (.ref 0) (.bool false) λw v0 hb h0=>QK h0 sx (by first | decide | assumption | omega) h1,
      c1 113 (.ref 1) (.bool true) λw v0 hb h0=>kR h0 sy (by first | decide | assumption | omega) h2,
      c1 106 (.int .i64 1) (.ref 2) λw v0 hb h0=>kOf 1 (by omega) (by omega) h0],
     loads:=[⟨34,0,0,(.ref 0),λw q h=>An w q h⟩,
      ⟨34,0,1,(.ref 1),λw q h=>An w q h⟩,
      ⟨34,0,3,(.ref 2),λw q h=>An w q h⟩],
     allocs:=[⟨34,2,_,Bn,Bl⟩],
     boxes:=[⟨34,(.ref 0),0,λw v h=>Bk w v h⟩,
      ⟨34,(.ref 1),1,λw v h=>Bk w v h⟩],
     stores:=[⟨34,0,2,(.ref 0),0,(Al _)⟩,
      ⟨34,0,2,(.ref 1),1,(Al _)⟩,
      ⟨34,0,2,(.ref 2),3,(Al _)⟩] }
   Tryz.func103 ⟨hva,hvb,trivial⟩ (by kernel_rfl)
theorem AmW{x y:Int}{i j:Nat}(va:Value)(vb:Value)(W:World)(hva:(Ah x).p va W)(hvb:(Ah y).p vb W)(sx:Sm x i)(sy:Sm y j)(_hi:i≤600000000)(_hj:j≤600000000)(h1:x≠1)(h2:y≠1)(h3:((Int.gcd x y:Nat):Int)=1):Calls Tryz.prog 103 #[va,vb] W (Ak (ER (Ah x) (Ah y) (Ah ((Int.gcd x y:Nat):Int))) W):=by
  let E:List PF:=[(Ah x),(Ah y),(Ah ((Int.gcd x y:Nat):Int))]
  let EB:List CF:=[(Ao x),(Ao y),Bf,(Ao ((Int.gcd x y:Nat):Int))]
  exact AK (E:=E) (EB:=EB) (fs:=[(.ref 0),(.ref 1)]) (r:=(.tup3 (.ref 0) (.ref 1) (.ref 2)))
   { calls:=[c1 113 (.ref 0) (.bool false) λw v0 hb h0=>QK h0 sx (by first | decide | assumption | omega) h1,
      c1 113 (.ref 1) (.bool false) λw v0 hb h0=>QK h0 sy (by first | decide | assumption | omega) h2,
      c2 114 (.ref 0) (.ref 1) (.ref 2) λw v0 v1 hb h0 h1=>AcG h0 h1 sx sy (by first | decide | assumption | omega) (by first | decide | assumption | omega),
      c1 113 (.ref 2) (.bool true) λw v0 hb h0=>kR h0 (Fi sx sy) (by first | decide | assumption | omega) h3],
     loads:=[⟨34,0,0,(.ref 0),λw q h=>An w q h⟩,
      ⟨34,0,1,(.ref 1),λw q h=>An w q h⟩,
      ⟨34,0,3,(.ref 2),λw q h=>An w q h⟩],
     allocs:=[⟨34,2,_,Bn,Bl⟩],
     boxes:=[⟨34,(.ref 0),0,λw v h=>Bk w v h⟩,
      ⟨34,(.ref 1),1,λw v h=>Bk w v h⟩],
     stores:=[⟨34,0,2,(.ref 2),3,(Al _)⟩,
      ⟨34,0,2,(.ref 0),0,(Al _)⟩,
      ⟨34,0,2,(.ref 1),1,(Al _)⟩] }
   Tryz.func103 ⟨hva,hvb,trivial⟩ (by kernel_rfl)
theorem Ark{x y:Int}{i j:Nat}(va:Value)(vb:Value)(W:World)(hva:(Ah x).p va W)(hvb:(Ah y).p vb W)(sx:Sm x i)(sy:Sm y j)(_hi:i≤600000000)(_hj:j≤600000000)(h1:x≠1)(h2:y≠1)(h3:((Int.gcd x y:Nat):Int)≠1)(h4:((Int.gcd x y:Nat):Int)≠0):Calls Tryz.prog 103 #[va,vb] W (Ak (ER (Ah (x / ((Int.gcd x y:Nat):Int))) (Ah (y / ((Int.gcd x y:Nat):Int))) (Ah ((Int.gcd x y:Nat):Int))) W):=by
  let E:List PF:=[(Ah x),(Ah y),(Ah ((Int.gcd x y:Nat):Int)),(Ah (x / ((Int.gcd x y:Nat):Int))),(Ah (y / ((Int.gcd x y:Nat):Int)))]
  let EB:List CF:=[(Ao x),(Ao y),Bf,(Ao ((Int.gcd x y:Nat):Int)),(Ao (x / ((Int.gcd x y:Nat):Int))),(Ao (y / ((Int.gcd x y:Nat):Int)))]
  exact AK (E:=E) (EB:=EB) (fs:=[(.ref 0),(.ref 1)]) (r:=(.tup3 (.ref 3) (.ref 4) (.ref 2)))
   { calls:=[c1 113 (.ref 0) (.bool false) λw v0 hb h0=>QK h0 sx (by first | decide | assumption | omega) h1,
      c1 113 (.ref 1) (.bool false) λw v0 hb h0=>QK h0 sy (by first | decide | assumption | omega) h2,
      c2 114 (.ref 0) (.ref 1) (.ref 2) λw v0 v1 hb h0 h1=>AcG h0 h1 sx sy (by first | decide | assumption | omega) (by first | decide | assumption | omega),
      c1 113 (.ref 2) (.bool false) λw v0 hb h0=>QK h0 (Fi sx sy) (by first | decide | assumption | omega) h3,
      c2 124 (.ref 0) (.ref 2) (.ref 3) λw v0 v1 hb h0 h1=>AmQ h0 h1 sx (Fi sx sy) (by first | decide | assumption | omega) (by first | decide | assumption | omega) h4,
      c2 124 (.ref 1) (.ref 2) (.ref 4) λw v0 v1 hb h0 h1=>AmQ h0 h1 sy (Fi sx sy) (by first | decide | assumption | omega) (by first | decide | assumption | omega) h4],
     loads:=[⟨34,0,0,(.ref 0),λw q h=>An w q h⟩,
      ⟨34,0,1,(.ref 1),λw q h=>An w q h⟩,
      ⟨34,0,3,(.ref 2),λw q h=>An w q h⟩,
      ⟨34,0,4,(.ref 3),λw q h=>An w q h⟩,
      ⟨34,0,5,(.ref 4),λw q h=>An w q h⟩],
     allocs:=[⟨34,2,_,Bn,Bl⟩],
     boxes:=[⟨34,(.ref 0),0,λw v h=>Bk w v h⟩,
      ⟨34,(.ref 1),1,λw v h=>Bk w v h⟩],
     stores:=[⟨34,0,2,(.ref 2),3,(Al _)⟩,
      ⟨34,0,2,(.ref 3),4,(Al _)⟩,
      ⟨34,0,2,(.ref 4),5,(Al _)⟩] }
   Tryz.func103 ⟨hva,hvb,trivial⟩ (by kernel_rfl)
theorem Nr{x y:Int}{i j:Nat}{va vb:Value}{w:World}(ha:(Ah x).p va w)(hb:(Ah y).p vb w)(sx:Sm x i)(sy:Sm y j)(hi:i≤600000000)(hj:j≤600000000)(ny:y≠0):Calls Tryz.prog 103 #[va,vb] w (Ak (ER (Ah (x / ((Int.gcd x y:Nat):Int))) (Ah (y / ((Int.gcd x y:Nat):Int))) (Ah ((Int.gcd x y:Nat):Int))) w):=by
 by_cases h1:x=1
 ·have e:((Int.gcd x y:Nat):Int)=1:=by rw [h1,Int.one_gcd]; rfl
  rw [e,Int.ediv_one,Int.ediv_one];exact Aqm va vb w ha hb sx sy hi hj h1
 by_cases h2:y=1
 ·have e:((Int.gcd x y:Nat):Int)=1:=by rw [h2,Int.gcd_one]; rfl
  rw [e,Int.ediv_one,Int.ediv_one];exact Ane va vb w ha hb sx sy hi hj h1 h2
 by_cases h3:((Int.gcd x y:Nat):Int)=1
 ·have:=AmW va vb w ha hb sx sy hi hj h1 h2 h3
  rw [h3] at this ⊢;rw [Int.ediv_one,Int.ediv_one];exact this
 ·refine Ark va vb w ha hb sx sy hi hj h1 h2 h3 ?_
  have:=Int.gcd_ne_zero_right (a:=x) ny;omega
theorem At.of2{n d:Int}{i j:Nat}(hn:Sm n i)(hd:Sm d j)(h0:d≠0):At (Rat.divInt n d) (max i j):=At.of (hn.mono (Nat.le_max_left _ _)) (hd.mono (Nat.le_max_right _ _)) h0
theorem Zr{z:Int}(h0 : -9223372036854775808≤z)(h1:z≤9223372036854775807):Sm z 2:=by
 show z.natAbs<4294967296 ^ 2;have:(4294967296:Nat) ^ 2=18446744073709551616:=by decide
 omega
theorem Yq(x:Int)(y:Rat):((Int.gcd x (y.den:Int):Nat):Int)≠0:=by
 have:=Int.gcd_ne_zero_right (a:=x) (Int.ne_of_gt (Ev y));omega
theorem To(x:Int){y:Int}(ny:y≠0):((Int.gcd x y:Nat):Int)≠0:=by
 have:=Int.gcd_ne_zero_right (a:=x) ny;omega
theorem xL{x y:Rat}{i j:Nat}(va:Value)(vb:Value)(W:World)(hva:(As x).p va W)(hvb:(As y).p vb W)(sx:At x i)(sy:At y j)(_hi:i≤250000000)(_hj:j≤250000000):Calls Tryz.prog 122 #[va,vb] W (Ak (As (x+y)) W):=by
  let E:List PF:=[(As x),(As y),(Ah (x.den:Int)),(Ah (y.den:Int)),(Ah ((x.den:Int) / ((Int.gcd (x.den:Int) (y.den:Int):Nat):Int))),(Ah ((y.den:Int) / ((Int.gcd (x.den:Int) (y.den:Int):Nat):Int))),(Ah ((Int.gcd (x.den:Int) (y.den:Int):Nat):Int)),(Ah x.num),(Ah (x.num*((y.den:Int) / ((Int.gcd (x.den:Int) (y.den:Int):Nat):Int)))),(Ah y.num),(Ah (y.num*((x.den:Int) / ((Int.gcd (x.den:Int) (y.den:Int):Nat):Int)))),(Ah ((x.num*((y.den:Int) / ((Int.gcd (x.den:Int) (y.den:Int):Nat):Int)))+(y.num*((x.den:Int) / ((Int.gcd (x.den:Int) (y.den:Int):Nat):Int))))),(Ah (((x.num*((y.den:Int) / ((Int.gcd (x.den:Int) (y.den:Int):Nat):Int)))+(y.num*((x.den:Int) / ((Int.gcd (x.den:Int) (y.den:Int):Nat):Int)))) / ((Int.gcd ((x.num*((y.den:Int) / ((Int.gcd (x.den:Int) (y.den:Int):Nat):Int)))+(y.num*((x.den:Int) / ((Int.gcd (x.den:Int) (y.den:Int):Nat):Int)))) ((Int.gcd (x.den:Int) (y.den:Int):Nat):Int):Nat):Int))),(Ah (((Int.gcd (x.den:Int) (y.den:Int):Nat):Int) / ((Int.gcd ((x.num*((y.den:Int) / ((Int.gcd (x.den:Int) (y.den:Int):Nat):Int)))+(y.num*((x.den:Int) / ((Int.gcd (x.den:Int) (y.den:Int):Nat):Int)))) ((Int.gcd (x.den:Int) (y.den:Int):Nat):Int):Nat):Int))),(Ah ((Int.gcd ((x.num*((y.den:Int) / ((Int.gcd (x.den:Int) (y.den:Int):Nat):Int)))+(y.num*((x.den:Int) / ((Int.gcd (x.den:Int) (y.den:Int):Nat):Int)))) ((Int.gcd (x.den:Int) (y.den:Int):Nat):Int):Nat):Int)),(Ah (((x.den:Int) / ((Int.gcd (x.den:Int) (y.den:Int):Nat):Int))*((y.den:Int) / ((Int.gcd (x.den:Int) (y.den:Int):Nat):Int)))),(Ah ((((Int.gcd (x.den:Int) (y.den:Int):Nat):Int) / ((Int.gcd ((x.num*((y.den:Int) / ((Int.gcd (x.den:Int) (y.den:Int):Nat):Int)))+(y.num*((x.den:Int) / ((Int.gcd (x.den:Int) (y.den:Int):Nat):Int)))) ((Int.gcd (x.den:Int) (y.den:Int):Nat):Int):Nat):Int))*(((x.den:Int) / ((Int.gcd (x.den:Int) (y.den:Int):Nat):Int))*((y.den:Int) / ((Int.gcd (x.den:Int) (y.den:Int):Nat):Int))))),(As (x+y))]
  let EB:List CF:=[(BD x),(BD y),BG,Bf,(Ao ((x.den:Int) / ((Int.gcd (x.den:Int) (y.den:Int):Nat):Int))),(Ao ((y.den:Int) / ((Int.gcd (x.den:Int) (y.den:Int):Nat):Int))),(Ao ((Int.gcd (x.den:Int) (y.den:Int):Nat):Int)),(Ao ((x.num*((y.den:Int) / ((Int.gcd (x.den:Int) (y.den:Int):Nat):Int)))+(y.num*((x.den:Int) / ((Int.gcd (x.den:Int) (y.den:Int):Nat):Int))))),(Ao (((x.num*((y.den:Int) / ((Int.gcd (x.den:Int) (y.den:Int):Nat):Int)))+(y.num*((x.den:Int) / ((Int.gcd (x.den:Int) (y.den:Int):Nat):Int)))) / ((Int.gcd ((x.num*((y.den:Int) / ((Int.gcd (x.den:Int) (y.den:Int):Nat):Int)))+(y.num*((x.den:Int) / ((Int.gcd (x.den:Int) (y.den:Int):Nat):Int)))) ((Int.gcd (x.den:Int) (y.den:Int):Nat):Int):Nat):Int))),(Ao (((Int.gcd (x.den:Int) (y.den:Int):Nat):Int) / ((Int.gcd ((x.num*((y.den:Int) / ((Int.gcd (x.den:Int) (y.den:Int):Nat):Int)))+(y.num*((x.den:Int) / ((Int.gcd (x.den:Int) (y.den:Int):Nat):Int)))) ((Int.gcd (x.den:Int) (y.den:Int):Nat):Int):Nat):Int))),(BD (x+y))]
  exact AK (E:=E) (EB:=EB) (fs:=[(.ref 0),(.ref 1)]) (r:=(.ref 17))
   { pures:=[p2 (.bld 36 [0,1]) (.ref 12) (.ref 16) (.ref 17) λ_ _ _ _ _ hx hy=>Cn (T5 x y _ _ rfl rfl).1.symm (T5 x y _ _ rfl rfl).2.symm hx hy],
     calls:=[c2 103 (.ref 2) (.ref 3) (.tup3 (.ref 4) (.ref 5) (.ref 6)) λw v0 v1 hb h0 h1=>Nr h0 h1 sx.2 sy.2 (by first | decide | assumption | omega) (by first | decide | assumption | omega) (Int.ne_of_gt (Ev y)),
      c2 104 (.ref 7) (.ref 5) (.ref 8) λw v0 v1 hb h0 h1=>Xf h0 h1 sx.1 sy.2.div (by first | decide | assumption | omega) (by first | decide | assumption | omega),
      c2 104 (.ref 9) (.ref 4) (.ref 10) λw v0 v1 hb h0 h1=>Xf h0 h1 sy.1 sx.2.div (by first | decide | assumption | omega) (by first | decide | assumption | omega),
      c2 135 (.ref 8) (.ref 10) (.ref 11) λw v0 v1 hb h0 h1=>Ass h0 h1 (sx.1.mul sy.2.div) (sy.1.mul sx.2.div) (by first | decide | assumption | omega) (by first | decide | assumption | omega),
      c2 103 (.ref 11) (.ref 6) (.tup3 (.ref 12) (.ref 13) (.ref 14)) λw v0 v1 hb h0 h1=>Nr h0 h1 ((sx.1.mul sy.2.div).add (sy.1.mul sx.2.div)) (Fi sx.2 sy.2) (by first | decide | assumption | omega) (by first | decide | assumption | omega) (Yq _ y),
      c2 104 (.ref 4) (.ref 5) (.ref 15) λw v0 v1 hb h0 h1=>Xf h0 h1 sx.2.div sy.2.div (by first | decide | assumption | omega) (by first | decide | assumption | omega),
      c2 104 (.ref 13) (.ref 15) (.ref 16) λw v0 v1 hb h0 h1=>Xf h0 h1 (Fi sx.2 sy.2).div (sx.2.div.mul sy.2.div) (by first | decide | assumption | omega) (by first | decide | assumption | omega)],
     loads:=[⟨34,2,0,(.ref 2),λw q h=>Ci w q h⟩,
      ⟨34,2,1,(.ref 3),λw q h=>Ci w q h⟩,
      ⟨34,0,0,(.ref 7),λw q h=>Ca w q h⟩,
      ⟨34,0,5,(.ref 5),λw q h=>An w q h⟩,
      ⟨34,0,1,(.ref 9),λw q h=>Ca w q h⟩,
      ⟨34,0,4,(.ref 4),λw q h=>An w q h⟩,
      ⟨34,0,7,(.ref 11),λw q h=>An w q h⟩,
      ⟨34,0,6,(.ref 6),λw q h=>An w q h⟩,
      ⟨34,0,8,(.ref 12),λw q h=>An w q h⟩,
      ⟨34,0,9,(.ref 13),λw q h=>An w q h⟩,
      ⟨36,0,10,(.ref 17),λw q h=>A8 w q h⟩],
     allocs:=[⟨36,2,_,Bg,Be⟩,
      ⟨34,3,_,Bn,Bl⟩],
     boxes:=[⟨36,(.ref 0),0,λw v h=>Bo w v h⟩,
      ⟨36,(.ref 1),1,λw v h=>Bo w v h⟩],
     stores:=[⟨34,0,3,(.ref 4),4,(Al _)⟩,
      ⟨34,0,3,(.ref 5),5,(Al _)⟩,
      ⟨34,0,3,(.ref 6),6,(Al _)⟩,
      ⟨34,0,3,(.ref 11),7,(Al _)⟩,
      ⟨34,0,7,(.ref 12),8,(Bd _ _)⟩,
      ⟨34,0,6,(.ref 13),9,(Bd _ _)⟩,
      ⟨36,0,2,(.ref 17),10,Ba⟩],
     flds:=[⟨36,1,2,H9⟩,
      ⟨36,0,0,GN⟩] }
   Tryz.func122 ⟨hva,hvb,trivial⟩ (by kernel_rfl)
theorem sJ{x y:Rat}{i j:Nat}(va:Value)(vb:Value)(W:World)(hva:(As x).p va W)(hvb:(As y).p vb W)(sx:At x i)(sy:At y j)(_hi:i≤250000000)(_hj:j≤250000000):Calls Tryz.prog 58 #[va,vb] W (Ak (As (x*y)) W):=by
  let E:List PF:=[(As x),(As y),(Ah x.num),(Ah (y.den:Int)),(Ah (x.num / ((Int.gcd x.num (y.den:Int):Nat):Int))),(Ah ((y.den:Int) / ((Int.gcd x.num (y.den:Int):Nat):Int))),(Ah ((Int.gcd x.num (y.den:Int):Nat):Int)),(Ah y.num),(Ah (x.den:Int)),(Ah (y.num / ((Int.gcd y.num (x.den:Int):Nat):Int))),(Ah ((x.den:Int) / ((Int.gcd y.num (x.den:Int):Nat):Int))),(Ah ((Int.gcd y.num (x.den:Int):Nat):Int)),(Ah ((x.num / ((Int.gcd x.num (y.den:Int):Nat):Int))*(y.num / ((Int.gcd y.num (x.den:Int):Nat):Int)))),(Ah (((x.den:Int) / ((Int.gcd y.num (x.den:Int):Nat):Int))*((y.den:Int) / ((Int.gcd x.num (y.den:Int):Nat):Int)))),(As (x*y))]
  let EB:List CF:=[(BD x),(BD y),BG,Bf,(Ao (x.num / ((Int.gcd x.num (y.den:Int):Nat):Int))),(Ao ((y.den:Int) / ((Int.gcd x.num (y.den:Int):Nat):Int))),(Ao ((Int.gcd x.num (y.den:Int):Nat):Int)),(Ao (y.num / ((Int.gcd y.num (x.den:Int):Nat):Int))),(Ao ((x.den:Int) / ((Int.gcd y.num (x.den:Int):Nat):Int))),(Ao ((Int.gcd y.num (x.den:Int):Nat):Int)),(BD (x*y))]
  exact AK (E:=E) (EB:=EB) (fs:=[(.ref 0),(.ref 1)]) (r:=(.ref 14))
   { pures:=[p2 (.bld 36 [0,1]) (.ref 12) (.ref 13) (.ref 14) λ_ _ _ _ _ hx hy=>Cn (ZP x y).1.symm (ZP x y).2.symm hx hy],
     calls:=[c2 103 (.ref 2) (.ref 3) (.tup3 (.ref 4) (.ref 5) (.ref 6)) λw v0 v1 hb h0 h1=>Nr h0 h1 sx.1 sy.2 (by first | decide | assumption | omega) (by first | decide | assumption | omega) (Int.ne_of_gt (Ev y)),
      c2 103 (.ref 7) (.ref 8) (.tup3 (.ref 9) (.ref 10) (.ref 11)) λw v0 v1 hb h0 h1=>Nr h0 h1 sy.1 sx.2 (by first | decide | assumption | omega) (by first | decide | assumption | omega) (Int.ne_of_gt (Ev x)),
      c2 104 (.ref 4) (.ref 9) (.ref 12) λw v0 v1 hb h0 h1=>Xf h0 h1 sx.1.div sy.1.div (by first | decide | assumption | omega) (by first | decide | assumption | omega),
      c2 104 (.ref 10) (.ref 5) (.ref 13) λw v0 v1 hb h0 h1=>Xf h0 h1 sx.2.div sy.2.div (by first | decide | assumption | omega) (by first | decide | assumption | omega)],
     loads:=[⟨34,0,0,(.ref 2),λw q h=>Ca w q h⟩,
      ⟨34,2,1,(.ref 3),λw q h=>Ci w q h⟩,
      ⟨34,0,1,(.ref 7),λw q h=>Ca w q h⟩,
      ⟨34,2,0,(.ref 8),λw q h=>Ci w q h⟩,
      ⟨34,0,4,(.ref 4),λw q h=>An w q h⟩,
      ⟨34,0,7,(.ref 9),λw q h=>An w q h⟩,
      ⟨34,0,8,(.ref 10),λw q h=>An w q h⟩,
      ⟨34,0,5,(.ref 5),λw q h=>An w q h⟩,
      ⟨36,0,10,(.ref 14),λw q h=>A8 w q h⟩],
     allocs:=[⟨36,2,_,Bg,Be⟩,
      ⟨34,3,_,Bn,Bl⟩],
     boxes:=[⟨36,(.ref 0),0,λw v h=>Bo w v h⟩,
      ⟨36,(.ref 1),1,λw v h=>Bo w v h⟩],
     stores:=[⟨34,0,3,(.ref 4),4,(Al _)⟩,
      ⟨34,0,3,(.ref 5),5,(Al _)⟩,
      ⟨34,0,3,(.ref 6),6,(Al _)⟩,
      ⟨34,0,3,(.ref 9),7,(Al _)⟩,
      ⟨34,0,3,(.ref 10),8,(Al _)⟩,
      ⟨34,0,3,(.ref 11),9,(Al _)⟩,
      ⟨36,0,2,(.ref 14),10,Ba⟩],
     flds:=[⟨36,0,0,GN⟩,
      ⟨36,1,2,H9⟩] }
   Tryz.func58 ⟨hva,hvb,trivial⟩ (by kernel_rfl)
theorem Md{x:Rat}{i:Nat}(va:Value)(W:World)(hva:(As x).p va W)(sx:At x i)(_hi:i≤250000000):Calls Tryz.prog 100 #[va] W (Ak (Ap (.int .i64 (Int.sign x.num))) W):=by
  let E:List PF:=[(As x),(Ah x.num),(Ap (.int .i64 (Int.sign x.num)))]
  let EB:List CF:=[(BD x)]
  exact AK (E:=E) (EB:=EB) (fs:=[(.ref 0)]) (r:=(.ref 2))
   { calls:=[c1 112 (.ref 1) (.ref 2) λw v0 hb h0=>zY h0 sx.1 (by first | decide | assumption | omega)],
     loads:=[⟨34,0,0,(.ref 1),λw q h=>Ca w q h⟩],
     boxes:=[⟨36,(.ref 0),0,λw v h=>Bo w v h⟩],
     flds:=[⟨36,0,0,GN⟩] }
   Tryz.func100 ⟨hva,trivial⟩ (by kernel_rfl)
theorem qB{x:Rat}{i:Nat}(va:Value)(W:World)(hva:(As x).p va W)(sx:At x i)(_hi:i≤250000000)(nx:x.num<0):Calls Tryz.prog 121 #[va] W (Ak (As x⁻¹) W):=by
  let E:List PF:=[(As x),(Ap (.int .i64 (Int.sign x.num))),(Ah (x.den:Int)),(Ah (-(x.den:Int))),(Ah x.num),(Ah (-x.num)),(As x⁻¹)]
  let EB:List CF:=[(BD x),BG,(BD x⁻¹)]
  exact AK (E:=E) (EB:=EB) (fs:=[(.ref 0)]) (r:=(.ref 6))
   { pures:=[p2 (.bin .lss 3 3) (.ref 1) (.int .i64 0) (.bool true) λ_ _ _ _ _ hx hy=>IA (r:=true) (by rw [Int.sign_eq_neg_one_of_neg nx]; rfl) hx hy,
      p2 (.bld 36 [0,1]) (.ref 3) (.ref 5) (.ref 6) λ_ _ _ _ _ hx hy=>Cn (O4 x nx).1.symm (O4 x nx).2.symm hx hy],
     calls:=[c1 100 (.ref 0) (.ref 1) λw v0 hb h0=>Md _ _ h0 sx (by omega),
      c1 123 (.ref 2) (.ref 3) λw v0 hb h0=>Alq h0 sx.2 (by first | decide | assumption | omega),
      c1 123 (.ref 4) (.ref 5) λw v0 hb h0=>Alq h0 sx.1 (by first | decide | assumption | omega)],
     loads:=[⟨36,0,0,(.ref 0),λw q h=>A8 w q h⟩,
      ⟨34,2,0,(.ref 2),λw q h=>Ci w q h⟩,
      ⟨34,0,0,(.ref 4),λw q h=>Ca w q h⟩,
      ⟨36,0,2,(.ref 6),λw q h=>A8 w q h⟩],
     allocs:=[⟨36,1,_,Bg,Be⟩],
     boxes:=[⟨36,(.ref 0),0,λw v h=>Bo w v h⟩],
     stores:=[⟨36,0,1,(.ref 6),2,Ba⟩],
     flds:=[⟨36,1,2,H9⟩,
      ⟨36,0,0,GN⟩] }
   Tryz.func121 ⟨hva,trivial⟩ (by kernel_rfl)
theorem AbP{x:Rat}{i:Nat}(va:Value)(W:World)(hva:(As x).p va W)(sx:At x i)(_hi:i≤250000000)(nx:0<x.num):Calls Tryz.prog 121 #[va] W (Ak (As x⁻¹) W):=by
  let E:List PF:=[(As x),(Ap (.int .i64 (Int.sign x.num))),(Ah (x.den:Int)),(Ah x.num),(As x⁻¹)]
  let EB:List CF:=[(BD x),BG,(BD x⁻¹)]
  exact AK (E:=E) (EB:=EB) (fs:=[(.ref 0)]) (r:=(.ref 4))
   { pures:=[p2 (.bin .lss 3 3) (.ref 1) (.int .i64 0) (.bool false) λ_ _ _ _ _ hx hy=>IA (r:=false) (by rw [Int.sign_eq_one_of_pos nx]; rfl) hx hy,
      p2 (.bld 36 [0,1]) (.ref 2) (.ref 3) (.ref 4) λ_ _ _ _ _ hx hy=>Cn (Ok x nx).1.symm (Ok x nx).2.symm hx hy],
     calls:=[c1 100 (.ref 0) (.ref 1) λw v0 hb h0=>Md _ _ h0 sx (by omega)],
     loads:=[⟨36,0,0,(.ref 0),λw q h=>A8 w q h⟩,
      ⟨34,2,0,(.ref 2),λw q h=>Ci w q h⟩,
      ⟨34,0,0,(.ref 3),λw q h=>Ca w q h⟩,
      ⟨36,0,2,(.ref 4),λw q h=>A8 w q h⟩],
     allocs:=[⟨36,1,_,Bg,Be⟩],
     boxes:=[⟨36,(.ref 0),0,λw v h=>Bo w v h⟩],
     stores:=[⟨36,0,1,(.ref 4),2,Ba⟩],
     flds:=[⟨36,1,2,H9⟩,
      ⟨36,0,0,GN⟩] }
   Tryz.func121 ⟨hva,trivial⟩ (by kernel_rfl)
theorem Wf{x:Rat}{i:Nat}(va:Value)(W:World)(hva:(As x).p va W)(sx:At x i)(_hi:i≤250000000):Calls Tryz.prog 102 #[va] W (Ak (As (-x)) W):=by
  let E:List PF:=[(As x),(Ah x.num),(Ah (-x.num)),(Ah (x.den:Int)),(As (-x))]
  let EB:List CF:=[(BD x),BG,(BD (-x))]
  exact AK (E:=E) (EB:=EB) (fs:=[(.ref 0)]) (r:=(.ref 4))
   { pures:=[p2 (.bld 36 [0,1]) (.ref 2) (.ref 3) (.ref 4) λ_ _ _ _ _ hx hy=>Cn (Rat.neg_num x).symm (by rw [Rat.neg_den]) hx hy],
     calls:=[c1 123 (.ref 1) (.ref 2) λw v0 hb h0=>Alq h0 sx.1 (by first | decide | assumption | omega)],
     loads:=[⟨34,0,0,(.ref 1),λw q h=>Ca w q h⟩,
      ⟨34,2,0,(.ref 3),λw q h=>Ci w q h⟩,
      ⟨36,0,2,(.ref 4),λw q h=>A8 w q h⟩],
     allocs:=[⟨36,1,_,Bg,Be⟩],
     boxes:=[⟨36,(.ref 0),0,λw v h=>Bo w v h⟩],
     stores:=[⟨36,0,1,(.ref 4),2,Ba⟩],
     flds:=[⟨36,0,0,GN⟩,
      ⟨36,1,2,H9⟩] }
   Tryz.func102 ⟨hva,trivial⟩ (by kernel_rfl)
theorem ZH{z:Int}(W:World)(hz0 : -9223372036854775808≤z)(hz1:z≤9223372036854775807):Calls Tryz.prog 63 #[.int .i64 z] W (Ak (As (z:Rat)) W):=by
  let E:List PF:=[(Ap (.int .i64 z)),(Ah z),(Ah 1),(As ((z:Int):Rat))]
  let EB:List CF:=[BG,(BD ((z:Int):Rat))]
  exact AK (E:=E) (EB:=EB) (fs:=[(.ref 0)]) (r:=(.ref 3))
   { pures:=[p2 (.bld 36 [0,1]) (.ref 1) (.ref 2) (.ref 3) λ_ _ _ _ _ hx hy=>Cn (Ja z).1.symm (Ja z).2.symm hx hy],
     calls:=[c1 106 (.ref 0) (.ref 1) λw v0 hb h0=>kOf z hz0 hz1 h0,
      c1 106 (.int .i64 1) (.ref 2) λw v0 hb h0=>kOf 1 (by omega) (by omega) h0],
     loads:=[⟨36,0,1,(.ref 3),λw q h=>A8 w q h⟩],
     allocs:=[⟨36,0,_,Bg,Be⟩],
     stores:=[⟨36,0,0,(.ref 3),1,Ba⟩] }
   Tryz.func63 ⟨rfl,trivial⟩ (by kernel_rfl)
theorem xZ{x y:Rat}{i j:Nat}(va:Value)(vb:Value)(W:World)(hva:(As x).p va W)(hvb:(As y).p vb W)(sx:At x i)(sy:At y j)(_hi:i≤250000000)(_hj:j≤250000000):Calls Tryz.prog 84 #[va,vb] W (Ak (Ap (.int .i64 (Hd (x.num*(y.den:Int)) (y.num*(x.den:Int))))) W):=by
  let E:List PF:=[(As x),(As y),(Ah x.num),(Ah (y.den:Int)),(Ah (x.num*(y.den:Int))),(Ah y.num),(Ah (x.den:Int)),(Ah (y.num*(x.den:Int))),(Ap (.int .i64 (Hd (x.num*(y.den:Int)) (y.num*(x.den:Int)))))]
  let EB:List CF:=[(BD x),(BD y)]
  exact AK (E:=E) (EB:=EB) (fs:=[(.ref 0),(.ref 1)]) (r:=(.ref 8))
   { calls:=[c2 104 (.ref 2) (.ref 3) (.ref 4) λw v0 v1 hb h0 h1=>Xf h0 h1 sx.1 sy.2 (by first | decide | assumption | omega) (by first | decide | assumption | omega),
      c2 104 (.ref 5) (.ref 6) (.ref 7) λw v0 v1 hb h0 h1=>Xf h0 h1 sy.1 sx.2 (by first | decide | assumption | omega) (by first | decide | assumption | omega),
      c2 110 (.ref 4) (.ref 7) (.ref 8) λw v0 v1 hb h0 h1=>Atj h0 h1 (sx.1.mul sy.2) (sy.1.mul sx.2) (by first | decide | assumption | omega) (by first | decide | assumption | omega)],
     loads:=[⟨34,0,0,(.ref 2),λw q h=>Ca w q h⟩,
      ⟨34,2,1,(.ref 3),λw q h=>Ci w q h⟩,
      ⟨34,0,1,(.ref 5),λw q h=>Ca w q h⟩,
      ⟨34,2,0,(.ref 6),λw q h=>Ci w q h⟩],
     boxes:=[⟨36,(.ref 0),0,λw v h=>Bo w v h⟩,
      ⟨36,(.ref 1),1,λw v h=>Bo w v h⟩],
     flds:=[⟨36,0,0,GN⟩,
      ⟨36,1,2,H9⟩] }
   Tryz.func84 ⟨hva,hvb,trivial⟩ (by kernel_rfl)
def DQ(x y:Rat)(k:Nat):Rat:=if k=0 then x else x+y
def XB(w:World)(g:Nat)(y:Rat):Prop:=∃ b A k c b' A' k' c',w.heap[g]? = some (.cells #[.bool b,.slice A k c,.bool b',.slice A' k' c'] 36 (0,0))∧Cb w (.agg #[.bool b,.slice A k c,.bool b',.slice A' k' c']) y.num (y.den:Int)
theorem Alz{ρ:Operand→Value}{w:World}{x:Operand}{A:Option Addr}{k c:Nat}(hx:(Ap (.slice A k c)).p (ρ x) w):Hl (.call { callee:=.builtin .len,args:=#[x],argTypes:=#[28] }) ρ w (Ap (.int .i64 k)):=by
 have hx:ρ x = .slice A k c:=hx;exact Cu λo ho=>by unfold execOp; rw [ho]; simp [go_sem,hx]
theorem AeD{ρ:Operand→Value}{w:World}{x y:Operand}{g k:Nat}(hk:k<1)(hx:(Ap (.slice (some ⟨g,0,none⟩) 1 1)).p (ρ x) w)(hy:(Ap (.int .i64 (k:Int))).p (ρ y) w):Hl (.indexAddr 28 x y) ρ w (Ap (.pointer (some ⟨g,0,none⟩))):=by
 have e:k=0:=by omega
 subst e;have hx:ρ x = .slice (some ⟨g,0,none⟩) 1 1:=hx;have hy:ρ y = .int .i64 0:=hy;exact Cu λo ho=>by unfold execOp; rw [ho]; simp [go_sem,hx,hy]
section
variable {ops : Array Oper} {N : Nat} {Wb W0 : World} {a0 : Act} {F : List PF} {BX : List BF} {AD : List (Nat × Nat × Nat)} {i : Nat} {g : Option (Nat × Bool)}
theorem lP(hP:Gh ops N BX AD){x:Operand}{r:Nat}{y:Rat}(ho:DU ops i g (.load 36 x))(hp:B9 BX i=true)(hna:EO AD i=true)(hg:PZ ops N Wb W0 a0 F BX AD i g true)(hx:UV ops N Wb W0 a0 F BX AD i x (Ap (.pointer (some ⟨r,0,none⟩))))
  (hr:XB Wb r y) (hF:F.getD i CM=As y):DK ops N Wb W0 a0 F BX AD i:=
 DT hP ho hp hna λm a w hI hrd=>by
  have e:a.eval x = .pointer (some ⟨r,0,none⟩):=hx m a w hI hrd;obtain ⟨b,A,k,c,b',A',k',c',hh,hq⟩:=hr;have hh':=(hI.below.block r (Bu hh)).trans hh;obtain ⟨e0,e1,e2,e3⟩:=Ff hh';refine ⟨hg m a w hI hrd,.agg #[.bool b,.slice A k c,.bool b',.slice A' k' c'],w,λo ho=>?_,Below.refl _ _,by rw [hF]; exact hq.grow (Bz.of_below hI.below)⟩;unfold execOp;rw [ho];show Sem.run _ (Instr.loadAt 36 (a.eval x) >>= λx=>pure (Next.value x)) w=_;rw [e];exact DC (by simp [go_sem,e0,e1,e2,e3])
end
theorem vE{x y:Rat}{i j k:Nat}{va vb:Value}{w:World}(ha:(As (DQ x y k)).p va w)(hb:(As y).p vb w)(sx:At x i)(sy:At y j)(hi:i≤100000000)(hj:j≤100000000)(hlt:k<1):Calls Tryz.prog 122 #[va,vb] w (Ak (As (DQ x y (k+1))) w):=by
 have e:k=0:=by omega
 subst e;exact xL va vb w ha hb sx sy (by omega) (by omega)
noncomputable def UK:=Bw Tryz.f101
noncomputable def Yr:=cl UK
noncomputable def O3:=cr UK
theorem Aj5:UK = .seq Yr O3:=by kernel_rfl
noncomputable def sF:=Bt Yr
theorem AjT:Yr = .region 0 sF false:=by kernel_rfl
noncomputable def Xt:=cl O3
noncomputable def PQ:=cr O3
theorem Ai7:O3 = .seq Xt PQ:=by kernel_rfl
noncomputable def AaV:=Bt Xt
theorem AiF:Xt = .region 1 AaV false:=by kernel_rfl
noncomputable def RW:=cl PQ
noncomputable def OA:=cr PQ
theorem AkA:PQ = .seq RW OA:=by kernel_rfl
noncomputable def Ym:=cl RW
noncomputable def Uq:=cr RW
theorem AjV:RW = .seq Ym Uq:=by kernel_rfl
noncomputable def Ab1:=Bt Ym
theorem Ak6:Ym = .region 2 Ab1 false:=by kernel_rfl
noncomputable def SN:=cl Uq
theorem Aim:Uq = .block 0 SN:=by kernel_rfl
noncomputable def Ku:=cl SN
theorem AjM:SN = .loop Ku:=by kernel_rfl
noncomputable def Tk:=cl Ku
noncomputable def IU:=cr Ku
theorem jB:Ku = .seq Tk IU:=by kernel_rfl
noncomputable def Xu:=Bt Tk
theorem aZ:Tk = .region 3 Xu false:=by kernel_rfl
noncomputable def NF:=cl IU
noncomputable def K2:=cr IU
theorem jZ:IU = .seq NF K2:=by kernel_rfl
noncomputable def SJ:=cl NF
noncomputable def TP:=cr NF
theorem iJ:NF = .cond (.tmp 12) SJ TP:=by kernel_rfl
theorem AfO:SJ = .skip:=by kernel_rfl
theorem AfR:TP = .exit 0:=by kernel_rfl
noncomputable def UA:=cl K2
noncomputable def NR:=cr K2
theorem Afy:K2 = .seq UA NR:=by kernel_rfl
noncomputable def Ll:=cl UA
theorem Ae4:UA = .block 1 Ll:=by kernel_rfl
noncomputable def Sb:=cl Ll
noncomputable def ND:=cr Ll
theorem Aeb:Ll = .seq Sb ND:=by kernel_rfl
noncomputable def II:=Bt Sb
theorem Afj:Sb = .region 4 II false:=by kernel_rfl
noncomputable def Abj:=Bt ND
theorem AdQ:ND = .region 5 Abj false:=by kernel_rfl
noncomputable def vA:=Bt NR
theorem Adb:NR = .region 6 vA false:=by kernel_rfl
noncomputable def TG:=cl OA
noncomputable def T7:=cr OA
theorem Ai4:OA = .seq TG T7:=by kernel_rfl
noncomputable def tQ:=Bt TG
theorem AdS:TG = .region 7 tQ false:=by kernel_rfl
theorem Afk:T7 = .ret:=by kernel_rfl
section
set_option linter.unusedSectionVars false
variable {Wb : World} {x y : Rat} {i j r : Nat} (sx : At x i) (sy : At y j) (hi : i ≤ 100000000) (hj : j ≤ 100000000) (hr : XB Wb r y)
include sx sy hi hj hr
theorem Ajg:RA 20 [(As x),(Ap (.slice (some ⟨r,0,none⟩) 1 1))] [(BD x),BG] ⟨[(0,(.ref 0)),(1,(.ref 1))],[]⟩ ⟨[(0,(.ref 0)),(1,(.ref 1))],[(2,0),(4,1)]⟩ Wb 0 sF false:=RA.of
   { allocs:=[⟨36,1,_,Bg,Be⟩],
     boxes:=[⟨36,(.ref 0),0,λw v h=>Bo w v h⟩] } (by kernel_rfl)
theorem All:RA 20 [(As x),(Ap (.slice (some ⟨r,0,none⟩) 1 1))] [(BD x),BG] ⟨[(0,(.ref 0)),(1,(.ref 1))],[(2,0),(4,1)]⟩ ⟨[(0,(.ref 0)),(1,(.ref 1))],[(2,0),(4,1),(5,0)]⟩ Wb 1 AaV false:=RA.of
   { loads:=[⟨36,0,0,(.ref 0),λw q h=>A8 w q h⟩],
     allocs:=[⟨36,1,_,Bg,Be⟩],
     stores:=[⟨36,0,1,(.ref 0),0,Ba⟩] } (by kernel_rfl)
theorem AlA:RA 20 [(Ap (.slice (some ⟨r,0,none⟩) 1 1)),(Ap (.int .i64 ((1:Nat):Int))),(As x)] [(BD x),BG] ⟨[(0,(.ref 2)),(1,(.ref 0))],[(2,0),(4,1),(5,0)]⟩ ⟨[(0,(.ref 2)),(1,(.ref 0)),(9,(.ref 0)),(10,(.ref 1)),(11,(.int .i64 0))],[(2,0),(4,1),(5,0)]⟩ Wb 2 Ab1 false:=RA.of
   { pures:=[p1 (.blt .len [28]) (.ref 0) (.ref 1) λ_ _ _ _ hx=>Alz hx] } (by kernel_rfl)
theorem Aju{k:Nat}(hlt:k<1):RA 20 [(Ap (.int .i64 ((k:Nat):Int))),(Ap (.int .i64 ((1:Nat):Int))),(As x),(Ap (.slice (some ⟨r,0,none⟩) 1 1))] [(BD x),BG,(BD (DQ x y k))] ⟨[(0,(.ref 2)),(1,(.ref 3)),(9,(.ref 3)),(10,(.ref 1)),(11,(.ref 0))],[(2,0),(4,1),(5,2)]⟩ ⟨[(0,(.ref 2)),(1,(.ref 3)),(9,(.ref 3)),(10,(.ref 1)),(11,(.ref 0)),(12,(.bool true))],[(2,0),(4,1),(5,2)]⟩ Wb 3 Xu false:=RA.of
   { pures:=[p2 (.bin .lss 3 3) (.ref 0) (.ref 1) (.bool true) λ_ _ _ _ _ hx hy=>IA (r:=true) (by simp; omega) hx hy] } (by kernel_rfl)
end
theorem Alh{Q:Exit→Act→World→Prop}{Wb W0:World}{a0:Act}{x y:Rat}{i j r:Nat}(_sx:At x i)(_sy:At y j)(_hi:i≤100000000)(_hj:j≤100000000)(hr:XB Wb r y){k:Nat}(hlt:k<1)(hst:St Wb 20 [(0,(As x)),(1,(Ap (.slice (some ⟨r,0,none⟩) 1 1))),(9,(Ap (.slice (some ⟨r,0,none⟩) 1 1))),(10,(Ap (.int .i64 ((1:Nat):Int)))),(11,(Ap (.int .i64 ((k:Nat):Int)))),(12,(Ap (.bool true)))] [(2,(BD x)),(4,BG),(5,(BD (DQ x y k)))] a0 W0)
  (fin:∀ a w,St Wb 20 [(0,(As x)),(1,(Ap (.slice (some ⟨r,0,none⟩) 1 1))),(9,(Ap (.slice (some ⟨r,0,none⟩) 1 1))),(10,(Ap (.int .i64 ((1:Nat):Int)))),(11,(Ap (.int .i64 ((k:Nat):Int)))),(12,(Ap (.bool true)))] [(2,(BD x)),(4,BG),(5,(BD (DQ x y k))),(7,(BD y))] a w→Q .normal a w):(Code.region 4 II false).wp Tryz.prog Q a0 W0:=by
 have hP:Gh II 20 ([⟨2,none,none,(BD x),(BD x)⟩,⟨4,none,none,BG,BG⟩,⟨5,none,none,(BD (DQ x y k)),(BD (DQ x y k))⟩,⟨7,some 2,some 3,BG,(BD y)⟩]:List BF) []:=⟨by kernel_rfl,by kernel_rfl,by kernel_rfl,by kernel_rfl,by kernel_rfl,by kernel_rfl⟩;refine RI (F:=[(Ap (.pointer (some ⟨r,0,none⟩))),(As y),CM,CM]) hP hst rfl rfl ?_ ?_ fin
 ·show ON II 20 Wb W0 a0 _ _ _ 4
  refine Ho (k:=3) ?_ (fA (i:=3) 3 _ (NB (by kernel_rfl):DU II 3 none (.store 36 (.tmp 7) (.tmp 14))) (by kernel_rfl) rfl rfl rfl (by kernel_rfl) (by kernel_rfl) (by kernel_rfl) (Xy (f:=(As y)) 1 (by kernel_rfl) (by kernel_rfl) rfl) Ba);refine Ho (k:=2) ?_ (iK (i:=2) (d:=7) hP 3 _ (NB (by kernel_rfl):DU II 2 none (.alloc 36)) (by kernel_rfl) rfl rfl rfl (by kernel_rfl) (by kernel_rfl) (by kernel_rfl) (by kernel_rfl) rfl Bg Be);refine Ho (k:=1) ?_ (lP (i:=1) hP (g:=none) (NB (by kernel_rfl):DU II 1 none (.load 36 (.tmp 13))) (by kernel_rfl) (by kernel_rfl) (Ox) (Xy (f:=(Ap (.pointer (some ⟨r,0,none⟩)))) 0 (by kernel_rfl) (by kernel_rfl) rfl) hr rfl);refine Ho (k:=0) ?_ (Aq0 (i:=0) hP (g:=none) (NB (by kernel_rfl):DU II 0 none (.indexAddr 28 (.tmp 9) (.tmp 11))) (by kernel_rfl) (by kernel_rfl) (Ox) (T0 hst 2 rfl (by kernel_rfl)) (T0 hst 4 rfl (by kernel_rfl)) (λρ w hx hy=>AeD hlt hx hy) rfl);exact nE
 ·intro m a w hI hm
  exact ⟨(Ge hst 0 rfl (by kernel_rfl) hI),(Ge hst 1 rfl (by kernel_rfl) hI),(Ge hst 2 rfl (by kernel_rfl) hI),(Ge hst 3 rfl (by kernel_rfl) hI),(Ge hst 4 rfl (by kernel_rfl) hI),(Ge hst 5 rfl (by kernel_rfl) hI),trivial⟩
section
set_option linter.unusedSectionVars false
variable {Wb : World} {x y : Rat} {i j r : Nat} (sx : At x i) (sy : At y j) (hi : i ≤ 100000000) (hj : j ≤ 100000000) (hr : XB Wb r y)
include sx sy hi hj hr
theorem Ak8{k:Nat}(hlt:k<1):RA 20 [(As (DQ x y k)),(As y),(As (DQ x y (k+1))),(As x),(Ap (.slice (some ⟨r,0,none⟩) 1 1)),(Ap (.int .i64 ((1:Nat):Int))),(Ap (.int .i64 ((k:Nat):Int)))] [(BD (DQ x y k)),(BD y),(BD (DQ x y (k+1))),(BD x),BG] ⟨[(0,(.ref 3)),(1,(.ref 4)),(9,(.ref 4)),(10,(.ref 5)),(11,(.ref 6)),(12,(.bool true))],[(2,3),(4,4),(5,0),(7,1)]⟩ ⟨[(0,(.ref 3)),(1,(.ref 4)),(9,(.ref 4)),(10,(.ref 5)),(11,(.ref 6)),(12,(.bool true))],[(2,3),(4,4),(5,2),(7,1)]⟩ Wb 5 Abj false:=RA.of
   { calls:=[c2 122 (.ref 0) (.ref 1) (.ref 2) λw v0 v1 hb h0 h1=>vE h0 h1 sx sy (by omega) (by omega) hlt],
     loads:=[⟨36,0,0,(.ref 0),λw q h=>A8 w q h⟩,
      ⟨36,0,1,(.ref 1),λw q h=>A8 w q h⟩],
     stores:=[⟨36,0,0,(.ref 2),2,Xs⟩] } (by kernel_rfl)
theorem Aln{k:Nat}(hlt:k<1):RA 20 [(Ap (.int .i64 ((k:Nat):Int))),(Ap (.int .i64 ((k+1:Nat):Int))),(As x),(Ap (.slice (some ⟨r,0,none⟩) 1 1)),(Ap (.int .i64 ((1:Nat):Int)))] [(BD x),BG,(BD (DQ x y (k+1))),(BD y)] ⟨[(0,(.ref 2)),(1,(.ref 3)),(9,(.ref 3)),(10,(.ref 4)),(11,(.ref 0)),(12,(.bool true))],[(2,0),(4,1),(5,2),(7,3)]⟩ ⟨[(0,(.ref 2)),(1,(.ref 3)),(9,(.ref 3)),(10,(.ref 4)),(11,(.ref 1)),(12,(.bool true))],[(2,0),(4,1),(5,2),(7,3)]⟩ Wb 6 vA false:=RA.of
   { pures:=[p2 (.bin .add 3 3) (.ref 0) (.int .i64 1) (.ref 1) λ_ _ _ _ _ hx hy=>Ag4 (z:=((k+1:Nat):Int)) (by rw [IntKind.wrap_i64]; omega) hx hy] } (by kernel_rfl)
theorem Adu{k:Nat}(hlt:¬ k<1):RA 20 [(Ap (.int .i64 ((k:Nat):Int))),(Ap (.int .i64 ((1:Nat):Int))),(As x),(Ap (.slice (some ⟨r,0,none⟩) 1 1))] [(BD x),BG,(BD (DQ x y k))] ⟨[(0,(.ref 2)),(1,(.ref 3)),(9,(.ref 3)),(10,(.ref 1)),(11,(.ref 0))],[(2,0),(4,1),(5,2)]⟩ ⟨[(0,(.ref 2)),(1,(.ref 3)),(9,(.ref 3)),(10,(.ref 1)),(11,(.ref 0)),(12,(.bool false))],[(2,0),(4,1),(5,2)]⟩ Wb 3 Xu false:=RA.of
   { pures:=[p2 (.bin .lss 3 3) (.ref 0) (.ref 1) (.bool false) λ_ _ _ _ _ hx hy=>IA (r:=false) (by simp; omega) hx hy] } (by kernel_rfl)
theorem Aie:RA 20 [(As (DQ x y 1)),(As x),(Ap (.slice (some ⟨r,0,none⟩) 1 1)),(Ap (.int .i64 ((1:Nat):Int)))] [(BD (DQ x y 1)),BG,(BD x)] ⟨[(0,(.ref 1)),(1,(.ref 2)),(9,(.ref 2)),(10,(.ref 3)),(11,(.ref 3)),(12,(.bool false))],[(2,2),(4,1),(5,0)]⟩ ⟨[(0,(.ref 1)),(1,(.ref 2)),(9,(.ref 2)),(10,(.ref 3)),(11,(.ref 3)),(12,(.bool false))],[(2,2),(4,0),(5,0)]⟩ Wb 7 tQ false:=RA.of
   { loads:=[⟨36,0,0,(.ref 0),λw q h=>A8 w q h⟩],
     stores:=[⟨36,0,1,(.ref 0),0,Ba⟩] } (by kernel_rfl)
end
theorem bU{x y:Rat}{i j r:Nat}(va:Value)(W:World)(ha:(As x).p va W)(sx:At x i)(sy:At y j)(hi:i≤100000000)(hj:j≤100000000)(hr:XB W r y) :
  Calls Tryz.prog 101 #[va,.slice (some ⟨r,0,none⟩) 1 1] W (Ak (As (x+y)) W):=by
 refine Em (S:=[(0,(As x)),(1,(Ap (.slice (some ⟨r,0,none⟩) 1 1)))]) Tryz.func101 (by kernel_rfl) Tryz.ntmps101 (by simp) (λx hx=>?_) λa w hst=>?_
 ·simp only [List.mem_cons,List.not_mem_nil,or_false] at hx
  rcases hx with rfl | rfl
  ·exact ⟨_,rfl,ha⟩
  ·exact ⟨_,rfl,rfl⟩
 show Code.wp _ UK _ a w;rw [Aj5];refine wp_seq ?_;rw [AjT];refine (Ajg sx sy hi hj hr).run hst ?_;clear hst;intro a w hst;show Code.wp _ O3 _ a w;rw [Ai7];refine wp_seq ?_;rw [AiF];refine (All sx sy hi hj hr).run hst ?_;clear hst;intro a w hst;show Code.wp _ PQ _ a w;rw [AkA];refine wp_seq ?_;rw [AjV];refine wp_seq ?_;rw [Ak6];refine (AlA sx sy hi hj hr).run hst ?_;clear hst;intro a w hst;show Code.wp _ Uq _ a w;rw [Aim];refine wp_block ?_;show Code.wp _ SN _ a w;rw [AjM];refine DI (fun (k:Nat) a w=>St W 20 [(0,(As x)),(1,(Ap (.slice (some ⟨r,0,none⟩) 1 1))),(9,(Ap (.slice (some ⟨r,0,none⟩) 1 1))),(10,(Ap (.int .i64 ((1:Nat):Int)))),(11,(Ap (.int .i64 ((k:Nat):Int))))] [(2,(BD x)),(4,BG),(5,(BD (DQ x y k)))] a w∧k≤1) (λk=>1 - k) ?_ (0:Nat) ⟨hst,Nat.zero_le _⟩;intro k a w ⟨hst,hk⟩;show Code.wp _ Ku _ a w
 by_cases hlt:k<1
 ·rw [jB]
  refine wp_seq ?_;rw [aZ];refine (Aju sx sy hi hj hr hlt).run hst ?_;clear hst;intro a w hst;show Code.wp _ IU _ a w;rw [jZ];refine wp_seq ?_;rw [iJ];refine wp_cond_true (Bp hst 5 rfl) ?_;show Code.wp _ SJ _ a w;rw [AfO];refine wp_skip ?_;show Code.wp _ K2 _ a w;rw [Afy];refine wp_seq ?_;rw [Ae4];refine wp_block ?_;show Code.wp _ Ll _ a w;rw [Aeb];refine wp_seq ?_;rw [Afj];refine Alh sx sy hi hj hr hlt hst ?_;clear hst;intro a w hst;show Code.wp _ ND _ a w;rw [AdQ];refine (Ak8 sx sy hi hj hr hlt).run hst ?_;clear hst;intro a w hst;show Code.wp _ NR _ a w;rw [Adb];refine (Aln sx sy hi hj hr hlt).run hst ?_;clear hst;intro a w hst;exact ⟨k+1,⟨((hst.to (S':=[(0,(As x)),(1,(Ap (.slice (some ⟨r,0,none⟩) 1 1))),(9,(Ap (.slice (some ⟨r,0,none⟩) 1 1))),(10,(Ap (.int .i64 ((1:Nat):Int)))),(11,(Ap (.int .i64 (((k+1):Nat):Int))))]) ⟨hst.slots.get (k:=0) rfl,hst.slots.get (k:=1) rfl,hst.slots.get (k:=2) rfl,hst.slots.get (k:=3) rfl,hst.slots.get (k:=4) rfl,trivial⟩).firstB 3),by omega⟩,by omega⟩
 ·rw [jB]
  refine wp_seq ?_;rw [aZ];refine (Adu sx sy hi hj hr hlt).run hst ?_;clear hst;intro a w hst;show Code.wp _ IU _ a w;rw [jZ];refine wp_seq ?_;rw [iJ];refine wp_cond_false (Bp hst 5 rfl) ?_;show Code.wp _ TP _ a w;rw [AfR];refine wp_exit ?_;have e:k=1:=by omega
  subst e;show Code.wp _ OA _ a w;rw [Ai4];refine wp_seq ?_;rw [AdS];refine (Aie sx sy hi hj hr).run hst ?_;clear hst;intro a w hst;show Code.wp _ T7 _ a w;rw [Afk];refine wp_ret ?_;exact yO hst rfl 1 rfl
theorem Cb.open_{w:World}{v:Value}{n d:Int}(h:Cb w v n d):∃ b A k c b' A' k' c',v = .agg #[.bool b,.slice A k c,.bool b',.slice A' k' c']∧Hid (Cb w (.agg #[.bool b,.slice A k c,.bool b',.slice A' k' c']) n d):=by
 obtain ⟨b,A,k,c,b',A',k',c',rfl,h1,h2⟩:=h;exact ⟨b,A,k,c,b',A',k',c',rfl,⟨b,A,k,c,b',A',k',c',rfl,h1,h2⟩⟩
theorem Cb.into{w w':World}{v:Value}{n d:Int}(h:Cb w v n d)(hb:Below w.heap.size w w'):Cb w' v n d:=h.grow (Bz.of_below hb)
theorem Vu{w w1:World}{g:Nat}{x0 x1 x2 x3:Value}{b b':Bool}{A A':Option Addr}{k c k' c':Nat}{n d:Int}{B:Nat}(hh:w1.heap[g]? = some (.cells #[x0,x1,x2,x3] 36 (0,0)))(hB:Below B w w1)(hg:B≤g)(hp:Cb w1 (.agg #[.bool b,.slice A k c,.bool b',.slice A' k' c']) n d) :
  Cb ((((w1.setCell ⟨g,0,none⟩ (.bool b)).setCell ⟨g,1,none⟩ (.slice A k c)).setCell ⟨g,2,none⟩ (.bool b')).setCell ⟨g,3,none⟩ (.slice A' k' c')) (.agg #[.bool b,.slice A k c,.bool b',.slice A' k' c']) n d ∧
  Below B w ((((w1.setCell ⟨g,0,none⟩ (.bool b)).setCell ⟨g,1,none⟩ (.slice A k c)).setCell ⟨g,2,none⟩ (.bool b')).setCell ⟨g,3,none⟩ (.slice A' k' c')):=by
 have hne:(36:TypeId)≠109:=by decide
 have g0:=Bz.set hh hne 0 (.bool b);have b0:=AI hh 0 (.bool b);have g1:=Bz.set b0 hne 1 (.slice A k c);have b1:=AI b0 1 (.slice A k c);have g2:=Bz.set b1 hne 2 (.bool b');have b2:=AI b1 2 (.bool b');have g3:=Bz.set b2 hne 3 (.slice A' k' c');exact ⟨hp.grow (((g0.trans g1).trans g2).trans g3),(((hB.setCell hg _).setCell hg _).setCell hg _).setCell hg _⟩
set_option maxHeartbeats 1600000 in
theorem Acf{x y:Rat}{i j:Nat}(va vb:Value)(W:World)(ha:(As x).p va W)(hb:(As y).p vb W)(sx:At x i)(sy:At y j)(hi:i≤100000000)(hj:j≤100000000):Calls Tryz.prog 72 #[va,vb] W (Ak (As (x+y)) W):=by
 obtain ⟨b,A,k,c,b',A',k',c',rfl,H⟩:=Cb.open_ ha;obtain ⟨e,D,l,f,e',D',l',f',rfl,K⟩:=Cb.open_ hb;clear ha hb
 go_enter Tryz.func72,Tryz.ntmps72
 go_wp2_with fail
 have hB3:Below W.heap.size W (((W.alloc (Obj.cells #[.bool b,.slice A k c,.bool b',.slice A' k' c'] 36)).alloc (Obj.cells #[.bool e,.slice D l f,.bool e',.slice D' l' f'] 36)).alloc (Obj.cells #[.bool false,.slice none 0 0,.bool false,.slice none 0 0] 36)):=
  ((Aj W _).alloc (by simp) _).alloc (by simp; omega) _
 have hz:=heap_alloc_new ((W.alloc (Obj.cells #[.bool b,.slice A k c,.bool b',.slice A' k' c'] 36)).alloc (Obj.cells #[.bool e,.slice D l f,.bool e',.slice D' l' f'] 36)) (Obj.cells #[.bool false,.slice none 0 0,.bool false,.slice none 0 0] 36);have hs:(((W.alloc (Obj.cells #[.bool b,.slice A k c,.bool b',.slice A' k' c'] 36)).alloc (Obj.cells #[.bool e,.slice D l f,.bool e',.slice D' l' f'] 36)).alloc (Obj.cells #[.bool false,.slice none 0 0,.bool false,.slice none 0 0] 36)).heap.size=W.heap.size+1+1+1:=by simp
 rw [show ((W.alloc (Obj.cells #[.bool b,.slice A k c,.bool b',.slice A' k' c'] 36)).alloc (Obj.cells #[.bool e,.slice D l f,.bool e',.slice D' l' f'] 36)).heap.size=W.heap.size+1+1 by simp] at hz;generalize (((W.alloc (Obj.cells #[.bool b,.slice A k c,.bool b',.slice A' k' c'] 36)).alloc (Obj.cells #[.bool e,.slice D l f,.bool e',.slice D' l' f'] 36)).alloc (Obj.cells #[.bool false,.slice none 0 0,.bool false,.slice none 0 0] 36))=W3 at *;have hB4:=hB3.alloc (by omega) (Obj.cells #[.bool e,.slice D l f,.bool e',.slice D' l' f'] 36);have hr:XB (W3.alloc (Obj.cells #[.bool e,.slice D l f,.bool e',.slice D' l' f'] 36)) (W.heap.size+1+1+1) y:=⟨_,_,_,_,_,_,_,_,by rw [← hs]; exact heap_alloc_new W3 _,K.out.into hB4⟩;have hz4:=(Aj W3 (Obj.cells #[.bool e,.slice D l f,.bool e',.slice D' l' f'] 36)).block (W.heap.size+1+1) (by omega);have hs4:(W3.alloc (Obj.cells #[.bool e,.slice D l f,.bool e',.slice D' l' f'] 36)).heap.size=W.heap.size+1+1+1+1:=by simp [hs]
 refine (bU _ _ (H.out.into hB4) sx sy hi hj hr).mono ?_
 rintro z w1 ⟨v,rfl,hv,hb1⟩
 obtain ⟨p,E,m,q,p',E',m',q',rfl,V⟩:=Cb.open_ hv;have hz1:=(hb1.block (W.heap.size+1+1) (by omega)).trans (hz4.trans hz);obtain ⟨e0,e1,e2,e3⟩:=Ff hz1;have f0:=AF hz1 0;have f1:=AF hz1 1;have f2:=AF hz1 2;have f3:=AF hz1 3;have HE:=Lib.hid (Vu hz1 (hB4.trans (hb1.mono (by omega))) (by omega) V.out);clear hz1 hz4 hz hv hb1 hr hB4 hB3 hs4 hs
 go_wp2
 refine bodyPost_ret (v:=.agg #[.bool p,.slice E m q,.bool p',.slice E' m' q']) (by simp [results,Tryz.results72,go_sem,e0,e1,e2,e3]) rfl ⟨_,rfl,HE.out.1,HE.out.2⟩
theorem Ls{w w1:World}{g:Nat}{x0 x1 x2 x3:Value}(hh:w.heap[g]? = some (.cells #[x0,x1,x2,x3] 36 (0,0)))(hb:Below w.heap.size w w1):w1.cell? ⟨g,0,none⟩=some x0∧w1.cell? ⟨g,1,none⟩=some x1∧w1.cell? ⟨g,2,none⟩=some x2∧w1.cell? ⟨g,3,none⟩=some x3:=by
 have:=(hb.block g (Bu hh)).trans hh;exact Ff this
theorem sZ{w:World}{b b':Bool}{A A':Option Addr}{k c k' c':Nat}{y:Rat}(h:Cb w (.agg #[.bool b,.slice A k c,.bool b',.slice A' k' c']) y.num (y.den:Int)):XB (w.alloc (Obj.cells #[.bool b,.slice A k c,.bool b',.slice A' k' c'] 36)) w.heap.size y:=
 ⟨_,_,_,_,_,_,_,_,heap_alloc_new w _,h.into (Aj w _)⟩
theorem Xd{w:World}{g g':Nat}(hne:g'≠g)(i:Nat)(u0 u1 u2 u3:Value){x:Value}(h:w.cell? ⟨g,i,none⟩=some x):((((w.setCell ⟨g',0,none⟩ u0).setCell ⟨g',1,none⟩ u1).setCell ⟨g',2,none⟩ u2).setCell ⟨g',3,none⟩ u3).cell? ⟨g,i,none⟩=some x:=by
 rw [World.cell?_setCell_far _ _ _ _ (by simpa using hne),World.cell?_setCell_far _ _ _ _ (by simpa using hne),World.cell?_setCell_far _ _ _ _ (by simpa using hne),World.cell?_setCell_far _ _ _ _ (by simpa using hne)];exact h
set_option maxHeartbeats 3200000 in
theorem sO{x y:Rat}{i j:Nat}(va vb:Value)(W:World)(ha:(As x).p va W)(hb:(As y).p vb W)(sx:At x i)(sy:At y j)(hi:i≤100000000)(hj:j≤100000000):Calls Tryz.prog 57 #[va,vb] W (Ak (As (x - y)) W):=by
  obtain ⟨b,A,k,c,b',A',k',c',rfl,H⟩:=Cb.open_ ha
  obtain ⟨e,D,l,f,e',D',l',f',rfl,K⟩:=Cb.open_ hb
  rw [Rat.sub_eq_add_neg]
  have SX:=Lib.hid sx
  have SY:=Lib.hid sy
  have HH:=Lib.hid (Gj W (.cells #[.bool b,.slice A k c,.bool b',.slice A' k' c'] 36) (.cells #[.bool e,.slice D l f,.bool e',.slice D' l' f'] 36) (.cells #[.bool false,.slice none 0 0,.bool false,.slice none 0 0] 36))
  have HW:=Lib.hid (Fd W (.cells #[.bool b,.slice A k c,.bool b',.slice A' k' c'] 36) (.cells #[.bool e,.slice D l f,.bool e',.slice D' l' f'] 36) (.cells #[.bool false,.slice none 0 0,.bool false,.slice none 0 0] 36))
  obtain ⟨a0,a1,a2,a3⟩:=Ls HH.out.1 (Below.refl _ _)
  obtain ⟨b0,b1,b2,b3⟩:=Ls HH.out.2.1 (Below.refl _ _)
  obtain ⟨c0,c1,c2,c3⟩:=Ls HH.out.2.2 (Below.refl _ _)
  clear ha hb sx sy
  go_enter Tryz.func57,Tryz.ntmps57
  go_wp2_with fail
  generalize (((W.alloc (.cells #[.bool b,.slice A k c,.bool b',.slice A' k' c'] 36)).alloc (.cells #[.bool e,.slice D l f,.bool e',.slice D' l' f'] 36)).alloc (.cells #[.bool false,.slice none 0 0,.bool false,.slice none 0 0] 36))=W3 at *
  have HELD:Hid (∀ w':World,Below W3.heap.size W3 w'→(w'.cell? ⟨W.heap.size,0,none⟩=some (.bool b)∧w'.cell? ⟨W.heap.size,1,none⟩=some (.slice A k c)∧w'.cell? ⟨W.heap.size,2,none⟩=some (.bool b')∧w'.cell? ⟨W.heap.size,3,none⟩=some (.slice A' k' c'))∧(w'.cell? ⟨W.heap.size+1,0,none⟩=some (.bool e)∧w'.cell? ⟨W.heap.size+1,1,none⟩=some (.slice D l f)∧w'.cell? ⟨W.heap.size+1,2,none⟩=some (.bool e')∧w'.cell? ⟨W.heap.size+1,3,none⟩=some (.slice D' l' f'))):=
    Lib.hid λw' hb=>⟨Ls HH.out.1 hb,Ls HH.out.2.1 hb⟩
  have HELD2:Hid (∀ w':World,Below W3.heap.size W3 w'→∀ u0 u1 u2 u3:Value,(((((w'.setCell ⟨W.heap.size+1+1,0,none⟩ u0).setCell ⟨W.heap.size+1+1,1,none⟩ u1).setCell ⟨W.heap.size+1+1,2,none⟩ u2).setCell ⟨W.heap.size+1+1,3,none⟩ u3).cell? ⟨W.heap.size,0,none⟩=some (.bool b)∧((((w'.setCell ⟨W.heap.size+1+1,0,none⟩ u0).setCell ⟨W.heap.size+1+1,1,none⟩ u1).setCell ⟨W.heap.size+1+1,2,none⟩ u2).setCell ⟨W.heap.size+1+1,3,none⟩ u3).cell? ⟨W.heap.size,1,none⟩=some (.slice A k c)∧((((w'.setCell ⟨W.heap.size+1+1,0,none⟩ u0).setCell ⟨W.heap.size+1+1,1,none⟩ u1).setCell ⟨W.heap.size+1+1,2,none⟩ u2).setCell ⟨W.heap.size+1+1,3,none⟩ u3).cell? ⟨W.heap.size,2,none⟩=some (.bool b')∧((((w'.setCell ⟨W.heap.size+1+1,0,none⟩ u0).setCell ⟨W.heap.size+1+1,1,none⟩ u1).setCell ⟨W.heap.size+1+1,2,none⟩ u2).setCell ⟨W.heap.size+1+1,3,none⟩ u3).cell? ⟨W.heap.size,3,none⟩=some (.slice A' k' c'))∧(((((w'.setCell ⟨W.heap.size+1+1,0,none⟩ u0).setCell ⟨W.heap.size+1+1,1,none⟩ u1).setCell ⟨W.heap.size+1+1,2,none⟩ u2).setCell ⟨W.heap.size+1+1,3,none⟩ u3).cell? ⟨W.heap.size+1,0,none⟩=some (.bool e)∧((((w'.setCell ⟨W.heap.size+1+1,0,none⟩ u0).setCell ⟨W.heap.size+1+1,1,none⟩ u1).setCell ⟨W.heap.size+1+1,2,none⟩ u2).setCell ⟨W.heap.size+1+1,3,none⟩ u3).cell? ⟨W.heap.size+1,1,none⟩=some (.slice D l f)∧((((w'.setCell ⟨W.heap.size+1+1,0,none⟩ u0).setCell ⟨W.heap.size+1+1,1,none⟩ u1).setCell ⟨W.heap.size+1+1,2,none⟩ u2).setCell ⟨W.heap.size+1+1,3,none⟩ u3).cell? ⟨W.heap.size+1,2,none⟩=some (.bool e')∧((((w'.setCell ⟨W.heap.size+1+1,0,none⟩ u0).setCell ⟨W.heap.size+1+1,1,none⟩ u1).setCell ⟨W.heap.size+1+1,2,none⟩ u2).setCell ⟨W.heap.size+1+1,3,none⟩ u3).cell? ⟨W.heap.size+1,3,none⟩=some (.slice D' l' f'))):=by
    refine Lib.hid λw' hb u0 u1 u2 u3=>?_
    obtain ⟨⟨h0,h1,h2,h3⟩,⟨k0,k1,k2,k3⟩⟩:=HELD.out w' hb
    exact ⟨⟨Xd (by omega) 0 _ _ _ _ h0,Xd (by omega) 1 _ _ _ _ h1,Xd (by omega) 2 _ _ _ _ h2,Xd (by omega) 3 _ _ _ _ h3⟩,⟨Xd (by omega) 0 _ _ _ _ k0,Xd (by omega) 1 _ _ _ _ k1,Xd (by omega) 2 _ _ _ _ k2,Xd (by omega) 3 _ _ _ _ k3⟩⟩
  have HWW:=Lib.hid (Below.refl W3.heap.size W3)
  go_region_held3 (λw'=>(w'.cell? ⟨W.heap.size,0,none⟩=some (.bool b)∧w'.cell? ⟨W.heap.size,1,none⟩=some (.slice A k c)∧w'.cell? ⟨W.heap.size,2,none⟩=some (.bool b')∧w'.cell? ⟨W.heap.size,3,none⟩=some (.slice A' k' c'))∧(w'.cell? ⟨W.heap.size+1,0,none⟩=some (.bool e)∧w'.cell? ⟨W.heap.size+1,1,none⟩=some (.slice D l f)∧w'.cell? ⟨W.heap.size+1,2,none⟩=some (.bool e')∧w'.cell? ⟨W.heap.size+1,3,none⟩=some (.slice D' l' f')))
    (first | (go_keep; done) | exact HELD.out _ HB1.out | exact HELD.out _ HB1.out.drew | exact HELD.out _ (Ab HB1.out (Aj _ _)) | exact HELD.out _ HB2.out | exact HELD.out _ HB2.out.drew | exact HELD2.out _ HB2.out _ _ _ _)
    (first
      | (go_at_call 102
         refine (Wf _ _ (K.out.into (by first | exact HW.out | exact HW.out.drew | exact HW.out.drew.drew)) SY.out (by omega)).mono ?_
         rintro z w1 ⟨v1,rfl,hv1,hb1⟩
         obtain ⟨p1,E1,m1,q1,p1',E1',m1',q1',rfl,V1⟩:=Cb.open_ hv1
         have HB1:Hid (Below W3.heap.size W3 w1):=Ab (by first | exact HWW.out | exact HWW.out.drew | exact HWW.out.drew.drew) hb1
         clear hb1 hv1)
      | (go_at_call 101
         refine (bU _ _ (H.out.into (Ab HW.out (Ab HB1.out (Aj _ _)))) SX.out SY.out.neg (by omega) (by omega) (sZ V1.out)).mono ?_
         rintro z w2 ⟨v2,rfl,hv2,hb2⟩
         obtain ⟨p,E,m,q,p',E',m',q',rfl,V⟩:=Cb.open_ hv2
         have HB2:Hid (Below W3.heap.size W3 w2):=Ab (Ab HB1.out (Aj _ _)) hb2
         have hz1:=(HB2.out.block (W.heap.size+1+1) (Bu HH.out.2.2)).trans HH.out.2.2
         obtain ⟨e0,e1,e2,e3⟩:=Ff hz1
         have f0:=AF hz1 0
         have f1:=AF hz1 1
         have f2:=AF hz1 2
         have f3:=AF hz1 3
         have HE:=Lib.hid (Vu hz1 (Ab HW.out HB2.out) (by omega) V.out)
         clear hb2 hv2 hz1))
  go_wp2
  refine bodyPost_ret (v:=.agg #[.bool p,.slice E m q,.bool p',.slice E' m' q']) (by simp [results,Tryz.results57,go_sem,e0,e1,e2,e3]) rfl ⟨_,rfl,HE.out.1,HE.out.2⟩
theorem nH(p q:Int):Hd p q=Int.sign (p - q):=by
 unfold Hd;split
 ·rename_i h; exact (Int.sign_eq_neg_one_of_neg (by omega)).symm
 ·split
  ·rename_i h; rw [h,Int.sub_self]; rfl
  ·rename_i h1 h2; rw [Int.sign_eq_one_of_pos (by omega)]
theorem Acq(x y:Rat):Hd (x.num*(y.den:Int)) (y.num*(x.den:Int))=DR x y:=by rw [nH,Qz]
section
variable {w : World} {va vb : Value} {x y : Rat} {i j : Nat}
theorem Ahp(ha:(As x).p va w)(hb:(As y).p vb w)(sx:At x i)(sy:At y j)(hi:i≤100000000)(hj:j≤100000000):Calls Tryz.prog 72 #[va,vb] w (Ak (As (x+y)) w):=Acf va vb w ha hb sx sy hi hj
theorem Ahh(ha:(As x).p va w)(hb:(As y).p vb w)(sx:At x i)(sy:At y j)(hi:i≤100000000)(hj:j≤100000000):Calls Tryz.prog 57 #[va,vb] w (Ak (As (x - y)) w):=sO va vb w ha hb sx sy hi hj
theorem cW(ha:(As x).p va w)(hb:(As y).p vb w)(sx:At x i)(sy:At y j)(hi:i≤200000000)(hj:j≤200000000):Calls Tryz.prog 58 #[va,vb] w (Ak (As (x*y)) w):=sJ va vb w ha hb sx sy (by omega) (by omega)
theorem Ahd(ha:(As x).p va w)(sx:At x i)(hi:i≤200000000):Calls Tryz.prog 102 #[va] w (Ak (As (-x)) w):=Wf va w ha sx (by omega)
theorem SU(ha:(As x).p va w)(sx:At x i)(hi:i≤200000000):Calls Tryz.prog 100 #[va] w (Ak (Ap (.int .i64 (DR x 0))) w):=by
 rw [← Po]; exact Md va w ha sx (by omega)
theorem AhF(ha:(As x).p va w)(hb:(As y).p vb w)(sx:At x i)(sy:At y j)(hi:i≤200000000)(hj:j≤200000000):Calls Tryz.prog 84 #[va,vb] w (Ak (Ap (.int .i64 (DR x y))) w):=by
 rw [← Acq]; exact xZ va vb w ha hb sx sy (by omega) (by omega)
theorem AmR(ha:(As x).p va w)(sx:At x i)(hi:i≤200000000)(nx:x≠0):Calls Tryz.prog 121 #[va] w (Ak (As x⁻¹) w):=by
 have hn:x.num≠0:=λh=>nx (Rat.num_eq_zero.1 h)
 rcases Int.lt_or_gt_of_ne hn with h | h
 ·exact qB va w ha sx (by omega) h
 ·exact AbP va w ha sx (by omega) h
theorem fG(z:Int)(h0 : -9223372036854775808≤z)(h1:z≤9223372036854775807)(hv:(Ap (.int .i64 z)).p va w):Calls Tryz.prog 63 #[va] w (Ak (As (z:Rat)) w):=by
 have hv:va = .int .i64 z:=hv;rw [hv];exact ZH w h0 h1
end
section
variable {w : World} {va vb : Value} {x y : Int} {i j : Nat}
end
theorem Ac2{x:Rat}(h:x≠0):(DR x 0 == 0)=false:=by
 unfold DR;rw [if_neg h];split <;> rfl
theorem Adg{x:Rat}(h:x=0):(DR x 0 == 0)=true:=by subst h; decide
theorem kS(n d:Int)(hd:d<0):(Rat.divInt n d).num = -n / (Int.gcd (-n) (-d):Nat)∧((Rat.divInt n d).den:Int) = -d / (Int.gcd (-n) (-d):Nat):=by
 have h:=L6 (-n) (-d) (by omega);rwa [Rat.neg_divInt_neg] at h
theorem pK{x y:Int}{i j:Nat}{va vb:Value}{w:World}(ha:(Ah x).p va w)(hb:(Ah y).p vb w)(sx:Sm x i)(sy:Sm y j)(hi:i≤400000000)(hj:j≤400000000):Calls Tryz.prog 131 #[va,vb] w (Ak (Ah ((Int.gcd x y:Nat):Int)) w):=
 Ani ha hb (sx.mono (Nat.le_max_left i j)) (sy.mono (Nat.le_max_right i j)) (by omega)
theorem AqE{x y:Int}{i j:Nat}(va:Value)(vb:Value)(W:World)(hva:(Ah x).p va W)(hvb:(Ah y).p vb W)(_sx:Sm x i)(sy:Sm y j)(_hi:i≤300000000)(_hj:j≤300000000)(ny:y=0):Calls Tryz.prog 119 #[va,vb] W (Ak (CJ (DH 0 0) (Ap (.int .i64 3))) W):=by
  let E:List PF:=[(Ah x),(Ah y),(Ap (.int .i64 (Int.sign y))),(DH 0 0)]
  let EB:List CF:=[(Ao x),(Ao y),BG,(Hj 0 0)]
  exact AK (E:=E) (EB:=EB) (fs:=[(.ref 0),(.ref 1)]) (r:=(.tup2 (.ref 3) (.int .i64 3)))
   { pures:=[p2 (.bin .eql 3 3) (.ref 2) (.int .i64 0) (.bool true) λ_ _ _ _ _ hx hy=>CR (r:=true) (by rw [ny]; rfl) hx hy,
      p0 (.bld 36 []) (.ref 3) λ_ _ _=>RE],
     calls:=[c1 98 (.ref 1) (.ref 2) λw v0 hb h0=>DS h0 sy (by first | decide | assumption | omega)],
     loads:=[⟨34,0,1,(.ref 1),λw q h=>An w q h⟩,
      ⟨36,0,3,(.ref 3),λw q h=>A8 w q h⟩],
     allocs:=[⟨36,2,_,Bg,Be⟩],
     boxes:=[⟨34,(.ref 0),0,λw v h=>Bk w v h⟩,
      ⟨34,(.ref 1),1,λw v h=>Bk w v h⟩],
     stores:=[⟨36,0,2,(.ref 3),3,Ba⟩] }
   Tryz.func119 ⟨hva,hvb,trivial⟩ (by kernel_rfl)
theorem AcT{x y:Int}{i j:Nat}(va:Value)(vb:Value)(W:World)(hva:(Ah x).p va W)(hvb:(Ah y).p vb W)(sx:Sm x i)(sy:Sm y j)(_hi:i≤300000000)(_hj:j≤300000000)(ny:0<y):Calls Tryz.prog 119 #[va,vb] W (Ak (CJ (As (Rat.divInt x y)) (Ap (.int .i64 0))) W):=by
  let E:List PF:=[(Ah x),(Ah y),(Ap (.int .i64 (Int.sign y))),(Ah ((Int.gcd x y:Nat):Int)),(Ah (x / ((Int.gcd x y:Nat):Int))),(Ah (x % ((Int.gcd x y:Nat):Int))),(Ah (y / ((Int.gcd x y:Nat):Int))),(Ah (y % ((Int.gcd x y:Nat):Int))),(As (Rat.divInt x y))]
  let EB:List CF:=[(Ao x),(Ao y),BG,Bf,(Ao ((Int.gcd x y:Nat):Int)),(Ao (x / ((Int.gcd x y:Nat):Int))),(Ao (x % ((Int.gcd x y:Nat):Int))),(Ao (y / ((Int.gcd x y:Nat):Int))),(Ao (y % ((Int.gcd x y:Nat):Int))),(BD (Rat.divInt x y))]
  exact AK (E:=E) (EB:=EB) (fs:=[(.ref 0),(.ref 1)]) (r:=(.tup2 (.ref 8) (.int .i64 0)))
   { pures:=[p2 (.bin .eql 3 3) (.ref 2) (.int .i64 0) (.bool false) λ_ _ _ _ _ hx hy=>CR (r:=false) (by rw [Int.sign_eq_one_of_pos ny]; rfl) hx hy,
      p2 (.bin .lss 3 3) (.ref 2) (.int .i64 0) (.bool false) λ_ _ _ _ _ hx hy=>IA (r:=false) (by rw [Int.sign_eq_one_of_pos ny]; rfl) hx hy,
      p2 (.bld 36 [0,1]) (.ref 4) (.ref 6) (.ref 8) λ_ _ _ _ _ hx hy=>Cn (L6 x y ny).1.symm (L6 x y ny).2.symm hx hy],
     calls:=[c1 98 (.ref 1) (.ref 2) λw v0 hb h0=>DS h0 sy (by first | decide | assumption | omega),
      c2 131 (.ref 0) (.ref 1) (.ref 3) λw v0 v1 hb h0 h1=>pK h0 h1 sx sy (by first | decide | assumption | omega) (by first | decide | assumption | omega),
      c2 132 (.ref 0) (.ref 3) (.tup3 (.ref 4) (.ref 5) (.int .i64 0)) λw v0 v1 hb h0 h1=>IB h0 h1 sx (Fi sx sy) (by first | decide | assumption | omega) (by first | decide | assumption | omega) (To x (by omega)),
      c2 132 (.ref 1) (.ref 3) (.tup3 (.ref 6) (.ref 7) (.int .i64 0)) λw v0 v1 hb h0 h1=>IB h0 h1 sy (Fi sx sy) (by first | decide | assumption | omega) (by first | decide | assumption | omega) (To x (by omega))],
     loads:=[⟨34,0,1,(.ref 1),λw q h=>An w q h⟩,
      ⟨34,0,0,(.ref 0),λw q h=>An w q h⟩,
      ⟨34,0,4,(.ref 3),λw q h=>An w q h⟩,
      ⟨34,0,5,(.ref 4),λw q h=>An w q h⟩,
      ⟨34,0,7,(.ref 6),λw q h=>An w q h⟩,
      ⟨36,0,9,(.ref 8),λw q h=>A8 w q h⟩],
     allocs:=[⟨36,2,_,Bg,Be⟩,
      ⟨34,3,_,Bn,Bl⟩],
     boxes:=[⟨34,(.ref 0),0,λw v h=>Bk w v h⟩,
      ⟨34,(.ref 1),1,λw v h=>Bk w v h⟩],
     stores:=[⟨34,0,3,(.ref 3),4,(Al _)⟩,
      ⟨34,0,3,(.ref 4),5,(Al _)⟩,
      ⟨34,0,3,(.ref 5),6,(Al _)⟩,
      ⟨34,0,3,(.ref 6),7,(Al _)⟩,
      ⟨34,0,3,(.ref 7),8,(Al _)⟩,
      ⟨36,0,2,(.ref 8),9,Ba⟩] }
   Tryz.func119 ⟨hva,hvb,trivial⟩ (by kernel_rfl)
theorem Adh{x y:Int}{i j:Nat}(va:Value)(vb:Value)(W:World)(hva:(Ah x).p va W)(hvb:(Ah y).p vb W)(sx:Sm x i)(sy:Sm y j)(_hi:i≤300000000)(_hj:j≤300000000)(ny:y<0):Calls Tryz.prog 119 #[va,vb] W (Ak (CJ (As (Rat.divInt x y)) (Ap (.int .i64 0))) W):=by
  let E:List PF:=[(Ah x),(Ah y),(Ap (.int .i64 (Int.sign y))),(Ah (-x)),(Ah (-y)),(Ah ((Int.gcd (-x) (-y):Nat):Int)),(Ah ((-x) / ((Int.gcd (-x) (-y):Nat):Int))),(Ah ((-x) % ((Int.gcd (-x) (-y):Nat):Int))),(Ah ((-y) / ((Int.gcd (-x) (-y):Nat):Int))),(Ah ((-y) % ((Int.gcd (-x) (-y):Nat):Int))),(As (Rat.divInt x y))]
  let EB:List CF:=[(Ao x),(Ao y),BG,(Ao (-x)),(Ao (-y)),Bf,(Ao ((Int.gcd (-x) (-y):Nat):Int)),(Ao ((-x) / ((Int.gcd (-x) (-y):Nat):Int))),(Ao ((-x) % ((Int.gcd (-x) (-y):Nat):Int))),(Ao ((-y) / ((Int.gcd (-x) (-y):Nat):Int))),(Ao ((-y) % ((Int.gcd (-x) (-y):Nat):Int))),(BD (Rat.divInt x y))]
  exact AK (E:=E) (EB:=EB) (fs:=[(.ref 0),(.ref 1)]) (r:=(.tup2 (.ref 10) (.int .i64 0)))
   { pures:=[p2 (.bin .eql 3 3) (.ref 2) (.int .i64 0) (.bool false) λ_ _ _ _ _ hx hy=>CR (r:=false) (by rw [Int.sign_eq_neg_one_of_neg ny]; rfl) hx hy,
      p2 (.bin .lss 3 3) (.ref 2) (.int .i64 0) (.bool true) λ_ _ _ _ _ hx hy=>IA (r:=true) (by rw [Int.sign_eq_neg_one_of_neg ny]; rfl) hx hy,
      p2 (.bld 36 [0,1]) (.ref 6) (.ref 8) (.ref 10) λ_ _ _ _ _ hx hy=>Cn (kS x y ny).1.symm (kS x y ny).2.symm hx hy],
     calls:=[c1 98 (.ref 1) (.ref 2) λw v0 hb h0=>DS h0 sy (by first | decide | assumption | omega),
      c1 90 (.ref 0) (.ref 3) λw v0 hb h0=>Rt h0 sx (by first | decide | assumption | omega),
      c1 90 (.ref 1) (.ref 4) λw v0 hb h0=>Rt h0 sy (by first | decide | assumption | omega),
      c2 131 (.ref 3) (.ref 4) (.ref 5) λw v0 v1 hb h0 h1=>pK h0 h1 sx.neg sy.neg (by first | decide | assumption | omega) (by first | decide | assumption | omega),
      c2 132 (.ref 3) (.ref 5) (.tup3 (.ref 6) (.ref 7) (.int .i64 0)) λw v0 v1 hb h0 h1=>IB h0 h1 sx.neg (Fi sx.neg sy.neg) (by first | decide | assumption | omega) (by first | decide | assumption | omega) (To (-x) (by omega)),
      c2 132 (.ref 4) (.ref 5) (.tup3 (.ref 8) (.ref 9) (.int .i64 0)) λw v0 v1 hb h0 h1=>IB h0 h1 sy.neg (Fi sx.neg sy.neg) (by first | decide | assumption | omega) (by first | decide | assumption | omega) (To (-x) (by omega))],
     loads:=[⟨34,0,1,(.ref 1),λw q h=>An w q h⟩,
      ⟨34,0,0,(.ref 0),λw q h=>An w q h⟩,
      ⟨34,0,3,(.ref 3),λw q h=>An w q h⟩,
      ⟨34,0,4,(.ref 4),λw q h=>An w q h⟩,
      ⟨34,0,6,(.ref 5),λw q h=>An w q h⟩,
      ⟨34,0,7,(.ref 6),λw q h=>An w q h⟩,
      ⟨34,0,9,(.ref 8),λw q h=>An w q h⟩,
      ⟨36,0,11,(.ref 10),λw q h=>A8 w q h⟩],
     allocs:=[⟨36,2,_,Bg,Be⟩,
      ⟨34,5,_,Bn,Bl⟩],
     boxes:=[⟨34,(.ref 0),0,λw v h=>Bk w v h⟩,
      ⟨34,(.ref 1),1,λw v h=>Bk w v h⟩],
     stores:=[⟨34,0,0,(.ref 3),3,(Bd _ _)⟩,
      ⟨34,0,1,(.ref 4),4,(Bd _ _)⟩,
      ⟨34,0,5,(.ref 5),6,(Al _)⟩,
      ⟨34,0,5,(.ref 6),7,(Al _)⟩,
      ⟨34,0,5,(.ref 7),8,(Al _)⟩,
      ⟨34,0,5,(.ref 8),9,(Al _)⟩,
      ⟨34,0,5,(.ref 9),10,(Al _)⟩,
      ⟨36,0,2,(.ref 10),11,Ba⟩] }
   Tryz.func119 ⟨hva,hvb,trivial⟩ (by kernel_rfl)
theorem Al0{x y:Int}{i j:Nat}{va vb:Value}{w:World}(ha:(Ah x).p va w)(hb:(Ah y).p vb w)(sx:Sm x i)(sy:Sm y j)(hi:i≤300000000)(hj:j≤300000000)(ny:y≠0):Calls Tryz.prog 119 #[va,vb] w (Ak (CJ (As (Rat.divInt x y)) (Ap (.int .i64 0))) w):=by
 rcases Int.lt_or_gt_of_ne ny with h | h
 ·exact Adh va vb w ha hb sx sy hi hj h
 ·exact AcT va vb w ha hb sx sy hi hj h
theorem Anu{x y:Int}{i j:Nat}{va vb:Value}{w:World}(ha:(Ah x).p va w)(hb:(Ah y).p vb w)(sx:Sm x i)(sy:Sm y j)(hi:i≤300000000)(hj:j≤300000000)(ny:y=0):Calls Tryz.prog 119 #[va,vb] w (Ak (CJ (DH 0 0) (Ap (.int .i64 3))) w):=AqE va vb w ha hb sx sy hi hj ny
theorem Nj{x y:Int}{i j:Nat}(va:Value)(vb:Value)(W:World)(hva:(Ah x).p va W)(hvb:(Ah y).p vb W)(sx:Sm x i)(sy:Sm y j)(_hi:i≤300000000)(_hj:j≤300000000)(ny:y≠0):Calls Tryz.prog 89 #[va,vb] W (Ak (As (Rat.divInt x y)) W):=by
  let E:List PF:=[(Ah x),(Ah y),(As (Rat.divInt x y))]
  let EB:List CF:=[(Ao x),(Ao y),BG,(BD (Rat.divInt x y))]
  exact AK (E:=E) (EB:=EB) (fs:=[(.ref 0),(.ref 1)]) (r:=(.ref 2))
   { calls:=[c2 119 (.ref 0) (.ref 1) (.tup2 (.ref 2) (.int .i64 0)) λw v0 v1 hb h0 h1=>Al0 h0 h1 sx sy (by first | decide | assumption | omega) (by first | decide | assumption | omega) ny],
     loads:=[⟨34,0,0,(.ref 0),λw q h=>An w q h⟩,
      ⟨34,0,1,(.ref 1),λw q h=>An w q h⟩,
      ⟨36,0,3,(.ref 2),λw q h=>A8 w q h⟩],
     allocs:=[⟨36,2,_,Bg,Be⟩],
     boxes:=[⟨34,(.ref 0),0,λw v h=>Bk w v h⟩,
      ⟨34,(.ref 1),1,λw v h=>Bk w v h⟩],
     stores:=[⟨36,0,2,(.ref 2),3,Ba⟩] }
   Tryz.func89 ⟨hva,hvb,trivial⟩ (by kernel_rfl)
theorem Aac{x:Rat}{i:Nat}(va:Value)(W:World)(hva:(As x).p va W)(sx:At x i)(_hi:i≤300000000):Calls Tryz.prog 41 #[va] W (Ak (As (-x)) W):=by
  let E:List PF:=[(As x),(Ah x.num),(Ah (-x.num)),(Ah (x.den:Int)),(As (-x))]
  let EB:List CF:=[(BD x),BG,(BD (-x))]
  exact AK (E:=E) (EB:=EB) (fs:=[(.ref 0)]) (r:=(.ref 4))
   { pures:=[p2 (.bld 36 [0,1]) (.ref 2) (.ref 3) (.ref 4) λ_ _ _ _ _ hx hy=>Cn (Rat.neg_num x).symm (by rw [Rat.neg_den]) hx hy],
     calls:=[c1 90 (.ref 1) (.ref 2) λw v0 hb h0=>Rt h0 sx.1 (by first | decide | assumption | omega)],
     loads:=[⟨34,0,0,(.ref 1),λw q h=>Ca w q h⟩,
      ⟨34,2,0,(.ref 3),λw q h=>Ci w q h⟩,
      ⟨36,0,2,(.ref 4),λw q h=>A8 w q h⟩],
     allocs:=[⟨36,1,_,Bg,Be⟩],
     boxes:=[⟨36,(.ref 0),0,λw v h=>Bo w v h⟩],
     stores:=[⟨36,0,1,(.ref 4),2,Ba⟩],
     flds:=[⟨36,0,0,GN⟩,
      ⟨36,1,2,H9⟩] }
   Tryz.func41 ⟨hva,trivial⟩ (by kernel_rfl)
theorem YJ(x y:Rat):Rat.divInt (x.num*(y.den:Int)+y.num*(x.den:Int)) ((x.den:Int)*(y.den:Int))=x+y:=by
 have h:=Rat.divInt_add_divInt x.num y.num (Int.ne_of_gt (Ev x)) (Int.ne_of_gt (Ev y));rw [Rat.num_divInt_den,Rat.num_divInt_den] at h;exact h.symm
theorem Yu(x y:Rat):Rat.divInt (x.num*y.num) ((x.den:Int)*(y.den:Int))=x*y:=by
 have h:=Rat.divInt_mul_divInt x.num y.num (d₁:=(x.den:Int)) (d₂:=(y.den:Int));rw [Rat.num_divInt_den,Rat.num_divInt_den] at h;exact h.symm
theorem YU(x y:Rat):Rat.divInt (x.num*(y.den:Int)) ((x.den:Int)*y.num)=x / y:=by
 have h:=Rat.divInt_mul_divInt x.num (y.den:Int) (d₁:=(x.den:Int)) (d₂:=y.num);rw [Rat.num_divInt_den,← Rat.inv_divInt,Rat.num_divInt_den,← Rat.div_def] at h;exact h.symm
theorem AgJ(x y:Rat):(x.den:Int)*(y.den:Int)≠0:=Int.mul_ne_zero (Int.ne_of_gt (Ev x)) (Int.ne_of_gt (Ev y))
theorem Ano{x y:Rat}(h:y≠0):(x.den:Int)*y.num≠0:=Int.mul_ne_zero (Int.ne_of_gt (Ev x)) (λe=>h (Rat.num_eq_zero.1 e))
theorem Apu{x y:Rat}(h:y=0):(x.den:Int)*y.num=0:=by subst h; exact Int.mul_zero _
theorem AaW(x y:Rat):DR (x - y) 0=DR x y:=by
 unfold DR;have h1:x - y<0 ↔ x<y:=by
  have:=Rat.add_lt_add_right (a:=x) (b:=y) (c:=-y);rwa [Rat.add_neg_cancel,← Rat.sub_eq_add_neg] at this
 have h2:x - y=0 ↔ x=y:=by
  rw [Rat.sub_eq_add_neg]
  constructor
  ·intro h
   have e:x + -y+y=y:=by rw [h,Rat.zero_add]
   rwa [Rat.add_assoc,Rat.neg_add_cancel,Rat.add_zero] at e
  ·rintro rfl; exact Rat.add_neg_cancel _
 simp only [h1,h2]
theorem Aeq{x y:Rat}{i j:Nat}{va vb:Value}{w:World}(ha:(Ah (x.num*(y.den:Int)+y.num*(x.den:Int))).p va w)(hb:(Ah ((x.den:Int)*(y.den:Int))).p vb w)(sx:At x i)(sy:At y j)(hi:i≤140000000)(hj:j≤140000000):Calls Tryz.prog 89 #[va,vb] w (Ak (As (x+y)) w):=by
 rw [← YJ];exact Nj va vb w ha hb ((sx.1.mul sy.2).add (sy.1.mul sx.2)) (sx.2.mul sy.2) (by omega) (by omega) (AgJ x y)
theorem Add{x y:Rat}{i j:Nat}{va vb:Value}{w:World}(ha:(Ah (x.num*y.num)).p va w)(hb:(Ah ((x.den:Int)*(y.den:Int))).p vb w)(sx:At x i)(sy:At y j)(hi:i≤140000000)(hj:j≤140000000):Calls Tryz.prog 89 #[va,vb] w (Ak (As (x*y)) w):=by
 rw [← Yu];exact Nj va vb w ha hb (sx.1.mul sy.1) (sx.2.mul sy.2) (by omega) (by omega) (AgJ x y)
theorem AcW{x y:Rat}{i j:Nat}{va vb:Value}{w:World}(ha:(Ah (x.num*(y.den:Int))).p va w)(hb:(Ah ((x.den:Int)*y.num)).p vb w)(sx:At x i)(sy:At y j)(hi:i≤140000000)(hj:j≤140000000)(ny:y≠0):Calls Tryz.prog 119 #[va,vb] w (Ak (CJ (As (x / y)) (Ap (.int .i64 0))) w):=by
 rw [← YU];exact Al0 ha hb (sx.1.mul sy.2) (sx.2.mul sy.1) (by omega) (by omega) (Ano ny)
theorem qP{x y:Rat}{i j:Nat}{va vb:Value}{w:World}(ha:(Ah (x.num*(y.den:Int))).p va w)(hb:(Ah ((x.den:Int)*y.num)).p vb w)(sx:At x i)(sy:At y j)(hi:i≤140000000)(hj:j≤140000000)(ny:y=0):Calls Tryz.prog 119 #[va,vb] w (Ak (CJ (DH 0 0) (Ap (.int .i64 3))) w):=
 Anu ha hb (sx.1.mul sy.2) (sx.2.mul sy.1) (by omega) (by omega) (Apu ny)
theorem vM{x y:Rat}{i j:Nat}(va:Value)(vb:Value)(W:World)(hva:(As x).p va W)(hvb:(As y).p vb W)(sx:At x i)(sy:At y j)(hi:i≤140000000)(hj:j≤140000000):Calls Tryz.prog 40 #[va,vb] W (Ak (As (x+y)) W):=by
  let E:List PF:=[(As x),(As y),(Ah x.num),(Ah (y.den:Int)),(Ah (x.num*(y.den:Int))),(Ah y.num),(Ah (x.den:Int)),(Ah (y.num*(x.den:Int))),(Ah ((x.num*(y.den:Int))+(y.num*(x.den:Int)))),(Ah ((x.den:Int)*(y.den:Int))),(As (x+y))]
  let EB:List CF:=[(BD x),(BD y),BG,Bf,(Ao ((x.num*(y.den:Int))+(y.num*(x.den:Int)))),(BD (x+y))]
  exact AK (E:=E) (EB:=EB) (fs:=[(.ref 0),(.ref 1)]) (r:=(.ref 10))
   { calls:=[c2 88 (.ref 2) (.ref 3) (.ref 4) λw v0 v1 hb h0 h1=>Ie h0 h1 sx.1 sy.2 (by first | decide | assumption | omega) (by first | decide | assumption | omega),
      c2 88 (.ref 5) (.ref 6) (.ref 7) λw v0 v1 hb h0 h1=>Ie h0 h1 sy.1 sx.2 (by first | decide | assumption | omega) (by first | decide | assumption | omega),
      c2 87 (.ref 4) (.ref 7) (.ref 8) λw v0 v1 hb h0 h1=>iN h0 h1 (sx.1.mul sy.2) (sy.1.mul sx.2) (by first | decide | assumption | omega) (by first | decide | assumption | omega),
      c2 88 (.ref 6) (.ref 3) (.ref 9) λw v0 v1 hb h0 h1=>Ie h0 h1 sx.2 sy.2 (by first | decide | assumption | omega) (by first | decide | assumption | omega),
      c2 89 (.ref 8) (.ref 9) (.ref 10) λw v0 v1 hb h0 h1=>Aeq h0 h1 sx sy hi hj],
     loads:=[⟨34,0,0,(.ref 2),λw q h=>Ca w q h⟩,
      ⟨34,2,1,(.ref 3),λw q h=>Ci w q h⟩,
      ⟨34,0,1,(.ref 5),λw q h=>Ca w q h⟩,
      ⟨34,2,0,(.ref 6),λw q h=>Ci w q h⟩,
      ⟨34,0,4,(.ref 8),λw q h=>An w q h⟩,
      ⟨36,0,5,(.ref 10),λw q h=>A8 w q h⟩],
     allocs:=[⟨36,2,_,Bg,Be⟩,
      ⟨34,3,_,Bn,Bl⟩],
     boxes:=[⟨36,(.ref 0),0,λw v h=>Bo w v h⟩,
      ⟨36,(.ref 1),1,λw v h=>Bo w v h⟩],
     stores:=[⟨34,0,3,(.ref 8),4,(Al _)⟩,
      ⟨36,0,2,(.ref 10),5,Ba⟩],
     flds:=[⟨36,0,0,GN⟩,
      ⟨36,1,2,H9⟩] }
   Tryz.func40 ⟨hva,hvb,trivial⟩ (by kernel_rfl)
theorem Akl{x y:Rat}{i j:Nat}(va:Value)(vb:Value)(W:World)(hva:(As x).p va W)(hvb:(As y).p vb W)(sx:At x i)(sy:At y j)(hi:i≤140000000)(hj:j≤140000000):Calls Tryz.prog 42 #[va,vb] W (Ak (As (x*y)) W):=by
  let E:List PF:=[(As x),(As y),(Ah x.num),(Ah y.num),(Ah (x.num*y.num)),(Ah (x.den:Int)),(Ah (y.den:Int)),(Ah ((x.den:Int)*(y.den:Int))),(As (x*y))]
  let EB:List CF:=[(BD x),(BD y),BG,(BD (x*y))]
  exact AK (E:=E) (EB:=EB) (fs:=[(.ref 0),(.ref 1)]) (r:=(.ref 8))
   { calls:=[c2 88 (.ref 2) (.ref 3) (.ref 4) λw v0 v1 hb h0 h1=>Ie h0 h1 sx.1 sy.1 (by first | decide | assumption | omega) (by first | decide | assumption | omega),
      c2 88 (.ref 5) (.ref 6) (.ref 7) λw v0 v1 hb h0 h1=>Ie h0 h1 sx.2 sy.2 (by first | decide | assumption | omega) (by first | decide | assumption | omega),
      c2 89 (.ref 4) (.ref 7) (.ref 8) λw v0 v1 hb h0 h1=>Add h0 h1 sx sy hi hj],
     loads:=[⟨34,0,0,(.ref 2),λw q h=>Ca w q h⟩,
      ⟨34,0,1,(.ref 3),λw q h=>Ca w q h⟩,
      ⟨34,2,0,(.ref 5),λw q h=>Ci w q h⟩,
      ⟨34,2,1,(.ref 6),λw q h=>Ci w q h⟩,
      ⟨36,0,3,(.ref 8),λw q h=>A8 w q h⟩],
     allocs:=[⟨36,2,_,Bg,Be⟩],
     boxes:=[⟨36,(.ref 0),0,λw v h=>Bo w v h⟩,
      ⟨36,(.ref 1),1,λw v h=>Bo w v h⟩],
     stores:=[⟨36,0,2,(.ref 8),3,Ba⟩],
     flds:=[⟨36,0,0,GN⟩,
      ⟨36,1,2,H9⟩] }
   Tryz.func42 ⟨hva,hvb,trivial⟩ (by kernel_rfl)
theorem tI{x y:Rat}{i j:Nat}(va:Value)(vb:Value)(W:World)(hva:(As x).p va W)(hvb:(As y).p vb W)(sx:At x i)(sy:At y j)(hi:i≤140000000)(hj:j≤140000000):Calls Tryz.prog 81 #[va,vb] W (Ak (As (x + -y)) W):=by
  let E:List PF:=[(As x),(As y),(As (-y)),(As (x + -y))]
  let EB:List CF:=[(BD x),(BD y),BG,(BD (x + -y))]
  exact AK (E:=E) (EB:=EB) (fs:=[(.ref 0),(.ref 1)]) (r:=(.ref 3))
   { calls:=[c1 41 (.ref 1) (.ref 2) λw v0 hb h0=>Aac _ _ h0 sy (by omega),
      c2 40 (.ref 0) (.ref 2) (.ref 3) λw v0 v1 hb h0 h1=>vM _ _ _ h0 h1 sx sy.neg hi hj],
     loads:=[⟨36,0,0,(.ref 0),λw q h=>A8 w q h⟩,
      ⟨36,0,1,(.ref 1),λw q h=>A8 w q h⟩,
      ⟨36,0,3,(.ref 3),λw q h=>A8 w q h⟩],
     allocs:=[⟨36,2,_,Bg,Be⟩],
     boxes:=[⟨36,(.ref 0),0,λw v h=>Bo w v h⟩,
      ⟨36,(.ref 1),1,λw v h=>Bo w v h⟩],
     stores:=[⟨36,0,2,(.ref 3),3,Ba⟩] }
   Tryz.func81 ⟨hva,hvb,trivial⟩ (by kernel_rfl)
theorem dI{x:Rat}{i:Nat}(va:Value)(W:World)(hva:(As x).p va W)(sx:At x i)(_hi:i≤600000000):Calls Tryz.prog 48 #[va] W (Ak (Ap (.int .i64 (Int.sign x.num))) W):=by
  let E:List PF:=[(As x),(Ah x.num),(Ap (.int .i64 (Int.sign x.num)))]
  let EB:List CF:=[(BD x)]
  exact AK (E:=E) (EB:=EB) (fs:=[(.ref 0)]) (r:=(.ref 2))
   { calls:=[c1 98 (.ref 1) (.ref 2) λw v0 hb h0=>DS h0 sx.1 (by first | decide | assumption | omega)],
     loads:=[⟨34,0,0,(.ref 1),λw q h=>Ca w q h⟩],
     boxes:=[⟨36,(.ref 0),0,λw v h=>Bo w v h⟩],
     flds:=[⟨36,0,0,GN⟩] }
   Tryz.func48 ⟨hva,trivial⟩ (by kernel_rfl)
theorem AkV{x y:Rat}{i j:Nat}{va vb:Value}{w:World}(ha:(As x).p va w)(hb:(As y).p vb w)(sx:At x i)(sy:At y j)(hi:i≤140000000)(hj:j≤140000000):Calls Tryz.prog 81 #[va,vb] w (Ak (As (x - y)) w):=by
 rw [Rat.sub_eq_add_neg]; exact tI va vb w ha hb sx sy hi hj
theorem Aje{x y:Rat}{i j:Nat}(va:Value)(vb:Value)(W:World)(hva:(As x).p va W)(hvb:(As y).p vb W)(sx:At x i)(sy:At y j)(hi:i≤140000000)(hj:j≤140000000):Calls Tryz.prog 32 #[va,vb] W (Ak (Ap (.int .i64 (Int.sign (x + -y).num))) W):=by
  let E:List PF:=[(As x),(As y),(As (x + -y)),(Ap (.int .i64 (Int.sign (x + -y).num)))]
  let EB:List CF:=[(BD x),(BD y)]
  exact AK (E:=E) (EB:=EB) (fs:=[(.ref 0),(.ref 1)]) (r:=(.ref 3))
   { calls:=[c2 81 (.ref 0) (.ref 1) (.ref 2) λw v0 v1 hb h0 h1=>tI _ _ _ h0 h1 sx sy hi hj,
      c1 48 (.ref 2) (.ref 3) λw v0 hb h0=>dI _ _ h0 (sx.add sy.neg) (by omega)],
     loads:=[⟨36,0,0,(.ref 0),λw q h=>A8 w q h⟩,
      ⟨36,0,1,(.ref 1),λw q h=>A8 w q h⟩],
     boxes:=[⟨36,(.ref 0),0,λw v h=>Bo w v h⟩,
      ⟨36,(.ref 1),1,λw v h=>Bo w v h⟩] }
   Tryz.func32 ⟨hva,hvb,trivial⟩ (by kernel_rfl)
theorem AlO{x y:Rat}{i j:Nat}(va:Value)(vb:Value)(W:World)(hva:(As x).p va W)(hvb:(As y).p vb W)(sx:At x i)(sy:At y j)(hi:i≤140000000)(hj:j≤140000000)(ny:y≠0):Calls Tryz.prog 105 #[va,vb] W (Ak (CJ (As (x / y)) (Ap (.int .i64 0))) W):=by
  let E:List PF:=[(As x),(As y),(Ah x.num),(Ah (y.den:Int)),(Ah (x.num*(y.den:Int))),(Ah (x.den:Int)),(Ah y.num),(Ah ((x.den:Int)*y.num)),(As (x / y))]
  let EB:List CF:=[(BD x),(BD y),BG,(BD (x / y))]
  exact AK (E:=E) (EB:=EB) (fs:=[(.ref 0),(.ref 1)]) (r:=(.tup2 (.ref 8) (.int .i64 0)))
   { calls:=[c2 88 (.ref 2) (.ref 3) (.ref 4) λw v0 v1 hb h0 h1=>Ie h0 h1 sx.1 sy.2 (by first | decide | assumption | omega) (by first | decide | assumption | omega),
      c2 88 (.ref 5) (.ref 6) (.ref 7) λw v0 v1 hb h0 h1=>Ie h0 h1 sx.2 sy.1 (by first | decide | assumption | omega) (by first | decide | assumption | omega),
      c2 119 (.ref 4) (.ref 7) (.tup2 (.ref 8) (.int .i64 0)) λw v0 v1 hb h0 h1=>AcW h0 h1 sx sy hi hj ny],
     loads:=[⟨34,0,0,(.ref 2),λw q h=>Ca w q h⟩,
      ⟨34,2,1,(.ref 3),λw q h=>Ci w q h⟩,
      ⟨34,2,0,(.ref 5),λw q h=>Ci w q h⟩,
      ⟨34,0,1,(.ref 6),λw q h=>Ca w q h⟩,
      ⟨36,0,3,(.ref 8),λw q h=>A8 w q h⟩],
     allocs:=[⟨36,2,_,Bg,Be⟩],
     boxes:=[⟨36,(.ref 0),0,λw v h=>Bo w v h⟩,
      ⟨36,(.ref 1),1,λw v h=>Bo w v h⟩],
     stores:=[⟨36,0,2,(.ref 8),3,Ba⟩],
     flds:=[⟨36,0,0,GN⟩,
      ⟨36,1,2,H9⟩] }
   Tryz.func105 ⟨hva,hvb,trivial⟩ (by kernel_rfl)
theorem Aib{x y:Rat}{i j:Nat}(va:Value)(vb:Value)(W:World)(hva:(As x).p va W)(hvb:(As y).p vb W)(sx:At x i)(sy:At y j)(hi:i≤140000000)(hj:j≤140000000)(ny:y=0):Calls Tryz.prog 105 #[va,vb] W (Ak (CJ (DH 0 0) (Ap (.int .i64 3))) W):=by
  let E:List PF:=[(As x),(As y),(Ah x.num),(Ah (y.den:Int)),(Ah (x.num*(y.den:Int))),(Ah (x.den:Int)),(Ah y.num),(Ah ((x.den:Int)*y.num)),(DH 0 0)]
  let EB:List CF:=[(BD x),(BD y),BG,(Hj 0 0)]
  exact AK (E:=E) (EB:=EB) (fs:=[(.ref 0),(.ref 1)]) (r:=(.tup2 (.ref 8) (.int .i64 3)))
   { calls:=[c2 88 (.ref 2) (.ref 3) (.ref 4) λw v0 v1 hb h0 h1=>Ie h0 h1 sx.1 sy.2 (by first | decide | assumption | omega) (by first | decide | assumption | omega),
      c2 88 (.ref 5) (.ref 6) (.ref 7) λw v0 v1 hb h0 h1=>Ie h0 h1 sx.2 sy.1 (by first | decide | assumption | omega) (by first | decide | assumption | omega),
      c2 119 (.ref 4) (.ref 7) (.tup2 (.ref 8) (.int .i64 3)) λw v0 v1 hb h0 h1=>qP h0 h1 sx sy hi hj ny],
     loads:=[⟨34,0,0,(.ref 2),λw q h=>Ca w q h⟩,
      ⟨34,2,1,(.ref 3),λw q h=>Ci w q h⟩,
      ⟨34,2,0,(.ref 5),λw q h=>Ci w q h⟩,
      ⟨34,0,1,(.ref 6),λw q h=>Ca w q h⟩,
      ⟨36,0,3,(.ref 8),λw q h=>A8 w q h⟩],
     allocs:=[⟨36,2,_,Bg,Be⟩],
     boxes:=[⟨36,(.ref 0),0,λw v h=>Bo w v h⟩,
      ⟨36,(.ref 1),1,λw v h=>Bo w v h⟩],
     stores:=[⟨36,0,2,(.ref 8),3,Ba⟩],
     flds:=[⟨36,0,0,GN⟩,
      ⟨36,1,2,H9⟩] }
   Tryz.func105 ⟨hva,hvb,trivial⟩ (by kernel_rfl)
theorem AaH{z:Int}(W:World)(hz0 : -9223372036854775808≤z)(hz1:z≤9223372036854775807):Calls Tryz.prog 39 #[.int .i64 z] W (Ak (As (z:Rat)) W):=by
  let E:List PF:=[(Ap (.int .i64 z)),(Ah z),(Ah 1),(As ((z:Int):Rat))]
  let EB:List CF:=[BG,(BD ((z:Int):Rat))]
  exact AK (E:=E) (EB:=EB) (fs:=[(.ref 0)]) (r:=(.ref 3))
   { pures:=[p2 (.bld 36 [0,1]) (.ref 1) (.ref 2) (.ref 3) λ_ _ _ _ _ hx hy=>Cn (Ja z).1.symm (Ja z).2.symm hx hy],
     calls:=[c1 86 (.ref 0) (.ref 1) λw v0 hb h0=>WQ z hz0 hz1 h0,
      c1 86 (.int .i64 1) (.ref 2) λw v0 hb h0=>WQ 1 (by omega) (by omega) h0],
     loads:=[⟨36,0,1,(.ref 3),λw q h=>A8 w q h⟩],
     allocs:=[⟨36,0,_,Bg,Be⟩],
     stores:=[⟨36,0,0,(.ref 3),1,Ba⟩] }
   Tryz.func39 ⟨rfl,trivial⟩ (by kernel_rfl)
theorem Q_{x y:Int}(W:World)(hx0 : -9223372036854775808≤x)(hx1:x≤9223372036854775807)(hy0 : -9223372036854775808≤y)(hy1:y≤9223372036854775807)(ny:y≠0):Calls Tryz.prog 50 #[.int .i64 x,.int .i64 y] W (Ak (As (Rat.divInt x y)) W):=by
  let E:List PF:=[(Ap (.int .i64 x)),(Ap (.int .i64 y)),(Ah x),(Ah y),(As (Rat.divInt x y))]
  let EB:List CF:=[BG,(BD (Rat.divInt x y))]
  exact AK (E:=E) (EB:=EB) (fs:=[(.ref 0),(.ref 1)]) (r:=(.ref 4))
   { pures:=[p2 (.bin .eql 2 2) (.ref 1) (.int .i64 0) (.bool false) λ_ _ _ _ _ hx hy=>CR (r:=false) (by simpa using ny) hx hy],
     calls:=[c1 86 (.ref 0) (.ref 2) λw v0 hb h0=>WQ x hx0 hx1 h0,
      c1 86 (.ref 1) (.ref 3) λw v0 hb h0=>WQ y hy0 hy1 h0,
      c2 89 (.ref 2) (.ref 3) (.ref 4) λw v0 v1 hb h0 h1=>Nj _ _ _ h0 h1 (Zr hx0 hx1) (Zr hy0 hy1) (by decide) (by decide) ny],
     loads:=[⟨36,0,1,(.ref 4),λw q h=>A8 w q h⟩],
     allocs:=[⟨36,0,_,Bg,Be⟩],
     stores:=[⟨36,0,0,(.ref 4),1,Ba⟩] }
   Tryz.func50 ⟨rfl,rfl,trivial⟩ (by kernel_rfl)
theorem AiJ{x y:Rat}{i j:Nat}(va:Value)(vb:Value)(W:World)(hva:(As x).p va W)(hvb:(As y).p vb W)(sx:At x i)(sy:At y j)(_hi:i≤100000000)(_hj:j≤100000000)(ny:y≠0):Calls Tryz.prog 99 #[va,vb] W (Ak (CJ (As (x*y⁻¹)) (Ap (.int .i64 0))) W):=by
  let E:List PF:=[(As x),(As y),(Ap (.int .i64 (DR y 0))),(As y⁻¹),(As (x*y⁻¹))]
  let EB:List CF:=[(BD x),(BD y),BG,(BD (x*y⁻¹))]
  exact AK (E:=E) (EB:=EB) (fs:=[(.ref 0),(.ref 1)]) (r:=(.tup2 (.ref 4) (.int .i64 0)))
   { pures:=[p2 (.bin .eql 3 3) (.ref 2) (.int .i64 0) (.bool false) λ_ _ _ _ _ hx hy=>CR (r:=false) (Ac2 ny) hx hy],
     calls:=[c1 100 (.ref 1) (.ref 2) λw v0 hb h0=>SU h0 sy (by first | decide | assumption | omega),
      c1 121 (.ref 1) (.ref 3) λw v0 hb h0=>AmR h0 sy (by first | decide | assumption | omega) ny,
      c2 58 (.ref 0) (.ref 3) (.ref 4) λw v0 v1 hb h0 h1=>cW h0 h1 sx sy.inv (by first | decide | assumption | omega) (by first | decide | assumption | omega)],
     loads:=[⟨36,0,1,(.ref 1),λw q h=>A8 w q h⟩,
      ⟨36,0,0,(.ref 0),λw q h=>A8 w q h⟩,
      ⟨36,0,3,(.ref 4),λw q h=>A8 w q h⟩],
     allocs:=[⟨36,2,_,Bg,Be⟩],
     boxes:=[⟨36,(.ref 0),0,λw v h=>Bo w v h⟩,
      ⟨36,(.ref 1),1,λw v h=>Bo w v h⟩],
     stores:=[⟨36,0,2,(.ref 4),3,Ba⟩] }
   Tryz.func99 ⟨hva,hvb,trivial⟩ (by kernel_rfl)
theorem Ak2{x y:Rat}{i j:Nat}(va:Value)(vb:Value)(W:World)(hva:(As x).p va W)(hvb:(As y).p vb W)(_sx:At x i)(sy:At y j)(_hi:i≤100000000)(_hj:j≤100000000)(ny:y=0):Calls Tryz.prog 99 #[va,vb] W (Ak (CJ (DH 0 0) (Ap (.int .i64 3))) W):=by
  let E:List PF:=[(As x),(As y),(Ap (.int .i64 (DR y 0))),(DH 0 0)]
  let EB:List CF:=[(BD x),(BD y),BG,(Hj 0 0)]
  exact AK (E:=E) (EB:=EB) (fs:=[(.ref 0),(.ref 1)]) (r:=(.tup2 (.ref 3) (.int .i64 3)))
   { pures:=[p2 (.bin .eql 3 3) (.ref 2) (.int .i64 0) (.bool true) λ_ _ _ _ _ hx hy=>CR (r:=true) (Adg ny) hx hy,
      p0 (.bld 36 []) (.ref 3) λ_ _ _=>RE],
     calls:=[c1 100 (.ref 1) (.ref 2) λw v0 hb h0=>SU h0 sy (by first | decide | assumption | omega)],
     loads:=[⟨36,0,1,(.ref 1),λw q h=>A8 w q h⟩,
      ⟨36,0,3,(.ref 3),λw q h=>A8 w q h⟩],
     allocs:=[⟨36,2,_,Bg,Be⟩],
     boxes:=[⟨36,(.ref 0),0,λw v h=>Bo w v h⟩,
      ⟨36,(.ref 1),1,λw v h=>Bo w v h⟩],
     stores:=[⟨36,0,2,(.ref 3),3,Ba⟩] }
   Tryz.func99 ⟨hva,hvb,trivial⟩ (by kernel_rfl)
section
variable {w : World} {va vb : Value} {x y : Rat} {i j : Nat}
theorem AhR(ha:(As x).p va w)(hb:(As y).p vb w)(sx:At x i)(sy:At y j)(hi:i≤140000000)(hj:j≤140000000):Calls Tryz.prog 40 #[va,vb] w (Ak (As (x+y)) w):=vM va vb w ha hb sx sy hi hj
theorem AoR(ha:(As x).p va w)(hb:(As y).p vb w)(sx:At x i)(sy:At y j)(hi:i≤140000000)(hj:j≤140000000):Calls Tryz.prog 81 #[va,vb] w (Ak (As (x - y)) w):=AkV ha hb sx sy hi hj
theorem Agx(ha:(As x).p va w)(hb:(As y).p vb w)(sx:At x i)(sy:At y j)(hi:i≤140000000)(hj:j≤140000000):Calls Tryz.prog 42 #[va,vb] w (Ak (As (x*y)) w):=Akl va vb w ha hb sx sy hi hj
theorem Ahm(ha:(As x).p va w)(sx:At x i)(hi:i≤300000000):Calls Tryz.prog 41 #[va] w (Ak (As (-x)) w):=Aac va w ha sx hi
theorem Ab8(ha:(As x).p va w)(sx:At x i)(hi:i≤300000000):Calls Tryz.prog 48 #[va] w (Ak (Ap (.int .i64 (DR x 0))) w):=by
 rw [← Po]; exact dI va w ha sx (by omega)
theorem AfX(ha:(As x).p va w)(hb:(As y).p vb w)(sx:At x i)(sy:At y j)(hi:i≤140000000)(hj:j≤140000000):Calls Tryz.prog 32 #[va,vb] w (Ak (Ap (.int .i64 (DR x y))) w):=by
 rw [show DR x y=Int.sign (x + -y).num from ?_]
 ·exact Aje va vb w ha hb sx sy hi hj
 ·rw [Po,← Rat.sub_eq_add_neg]; exact (AaW x y).symm
theorem Ah0(ha:(As x).p va w)(hb:(As y).p vb w)(sx:At x i)(sy:At y j)(hi:i≤140000000)(hj:j≤140000000)(ny:y≠0):Calls Tryz.prog 105 #[va,vb] w (Ak (CJ (As (x / y)) (Ap (.int .i64 0))) w):=AlO va vb w ha hb sx sy hi hj ny
theorem AiA(ha:(As x).p va w)(hb:(As y).p vb w)(sx:At x i)(sy:At y j)(hi:i≤140000000)(hj:j≤140000000)(ny:y=0):Calls Tryz.prog 105 #[va,vb] w (Ak (CJ (DH 0 0) (Ap (.int .i64 3))) w):=Aib va vb w ha hb sx sy hi hj ny
theorem AgA(ha:(As x).p va w)(hb:(As y).p vb w)(sx:At x i)(sy:At y j)(hi:i≤100000000)(hj:j≤100000000)(ny:y≠0):Calls Tryz.prog 99 #[va,vb] w (Ak (CJ (As (x / y)) (Ap (.int .i64 0))) w):=by
 rw [Rat.div_def]; exact AiJ va vb w ha hb sx sy hi hj ny
theorem Aka(ha:(As x).p va w)(hb:(As y).p vb w)(sx:At x i)(sy:At y j)(hi:i≤100000000)(hj:j≤100000000)(ny:y=0):Calls Tryz.prog 99 #[va,vb] w (Ak (CJ (DH 0 0) (Ap (.int .i64 3))) w):=Ak2 va vb w ha hb sx sy hi hj ny
theorem AeL(z:Int)(h0 : -9223372036854775808≤z)(h1:z≤9223372036854775807)(hv:(Ap (.int .i64 z)).p va w):Calls Tryz.prog 39 #[va] w (Ak (As (z:Rat)) w):=by
 have hv:va = .int .i64 z:=hv;rw [hv];exact AaH w h0 h1
end
section
open Go.RowKit
end
def Anf(W:World)(wr:World)(z:Rat):Prop:=(BD z).p W.heap.size wr∧Below W.heap.size W wr∧Bz W wr
theorem Anf.cells{W wr:World}{z:Rat}(h:Anf W wr z):∃ b A k c b' A' k' c',wr.cell? ⟨W.heap.size,0,none⟩=some (.bool b)∧wr.cell? ⟨W.heap.size,1,none⟩=some (.slice A k c)∧wr.cell? ⟨W.heap.size,2,none⟩=some (.bool b')∧wr.cell? ⟨W.heap.size,3,none⟩=some (.slice A' k' c')∧Hid (Cb wr (.agg #[.bool b,.slice A k c,.bool b',.slice A' k' c']) z.num (z.den:Int)):=by
 obtain ⟨⟨b,A,k,c,b',A',k',c',hh,h1,h2⟩,_,_⟩:=h;obtain ⟨e0,e1,e2,e3⟩:=Ff hh;exact ⟨b,A,k,c,b',A',k',c',e0,e1,e2,e3,⟨_,_,_,_,_,_,_,_,rfl,h1,h2⟩⟩
theorem aC{x:Int}(W:World)(hx0 : -9223372036854775808≤x)(hx1:x≤9223372036854775807):Calls Tryz.prog 50 #[.int .i64 x,.int .i64 0] W (Ak (As (Rat.divInt x 1)) W):=by
  let E:List PF:=[(Ap (.int .i64 x)),(Ap (.int .i64 0)),(Ah x),(Ah 1),(As (Rat.divInt x 1))]
  let EB:List CF:=[BG,(BD (Rat.divInt x 1))]
  exact AK (E:=E) (EB:=EB) (fs:=[(.ref 0),(.ref 1)]) (r:=(.ref 4))
   { pures:=[p2 (.bin .eql 2 2) (.ref 1) (.int .i64 0) (.bool true) λ_ _ _ _ _ hx hy=>CR (r:=true) (by simp) hx hy],
     calls:=[c1 86 (.ref 0) (.ref 2) λw v0 hb h0=>WQ x hx0 hx1 h0,
      c1 86 (.int .i64 1) (.ref 3) λw v0 hb h0=>WQ 1 (by omega) (by omega) h0,
      c2 89 (.ref 2) (.ref 3) (.ref 4) λw v0 v1 hb h0 h1=>Nj _ _ _ h0 h1 (Zr hx0 hx1) (Sm.of 1 (by decide)) (by decide) (by decide) (by decide)],
     loads:=[⟨36,0,1,(.ref 4),λw q h=>A8 w q h⟩],
     allocs:=[⟨36,0,_,Bg,Be⟩],
     stores:=[⟨36,0,0,(.ref 4),1,Ba⟩] }
   Tryz.func50 ⟨rfl,rfl,trivial⟩ (by kernel_rfl)
end Go.Proofs.YtgaehhapjnbieaaGreat

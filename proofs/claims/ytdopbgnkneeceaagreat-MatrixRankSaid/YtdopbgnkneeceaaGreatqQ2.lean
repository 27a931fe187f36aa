/- Rational numbers: isOne, and the ends of functions whose results lie in boxes. -/
import Derived.Test.YtdopbgnkneeceaaGreatqGcdL
set_option linter.unusedSectionVars false
set_option linter.unusedVariables false
set_option linter.unusedSimpArgs false
set_option maxRecDepth 100000
namespace Go.Proofs.YtdopbgnkneeceaaGreat
open Go.RowKit
set_option maxHeartbeats 1600000 in
theorem YF(v:Value)(z:Int)(w:World)(h:Al w v z)(hl:len z.natAbs≤4398046511104):Calls Tryz.prog 78 #[v] w λe w'=>e = .returned (.bool (decide (z=1)))∧Below w.heap.size w w':=by
 obtain ⟨n,hn⟩:∃ n,z.natAbs=n:=⟨_,rfl⟩;obtain ⟨b,hb⟩:∃ b,decide (z<0)=b:=⟨_,rfl⟩;obtain ⟨A,c,rfl,H⟩:=h.parts_ hn hb;rw [hn] at hl;have hm:=H.out.mem.2.2;clear h
 cases b with
 | true =>
  have hz:decide (z=1)=false:=by simp at hb ⊢; omega
  have HZ:=Lib.hid hz;clear hz hb hn hm
  go_enter Tryz.func78,Tryz.ntmps78
  go_wp2
  go_ret
  rw [HZ.out];exact ⟨rfl,Ai _ _⟩
 | false =>
  by_cases h1:len n=1
  ·have h1':(Ac n).length=1:=h1
   obtain ⟨x,hx⟩:∃ x,Ac n=[x]:=List.length_eq_one_iff.1 h1';have hnx:n=x:=by
    have:=An n;rw [hx] at this;simp [val] at this;exact this.symm
   obtain ⟨ad,rfl,hlt,hc⟩:=hm.at_ (k:=0) (by omega);have hx0:(Ac n)[0]'(by omega)=n:=by simp [hx,← hnx]
   have hadd:ad.add 0=ad:=by unfold Addr.add; simp
   rw [hx0,hadd] at hc;have hcell:=(World.cell?_alloc_lt w (Obj.cells #[.bool false,.slice (some ad) 1 c] 34) ad hlt).trans hc;have hz:decide (z=1)=decide (n=1):=by
    have:¬ z<0:=by simpa using hb
    rw [decide_eq_decide]; omega
   have HZ:=Lib.hid hz;have HC:=Lib.hid hc;rw [h1];clear hz hb hn hm hx hx0 hnx h1' hc
   go_enter Tryz.func78,Tryz.ntmps78
   go_wp2
   go_ret
   rw [HZ.out];refine ⟨congrArg (λb=>Ending.returned (Value.bool b)) ?_,Ai _ _⟩;show ((n:Int) == 1)=decide (n=1);rw [Bool.eq_iff_iff];simp;omega
  ·have hz:decide (z=1)=false:=by
    simp only [decide_eq_false_iff_not]
    rintro rfl
    apply h1;rw [← hn];decide +kernel
   have HZ:=Lib.hid hz;have hne:((len n:Int) == 1)=false:=by simp; omega
   clear hz hb hn hm
   go_enter Tryz.func78,Tryz.ntmps78
   go_wp2
   go_ret
   rw [HZ.out];exact ⟨rfl,Ai _ _⟩
theorem wN{x:Int}{i:Nat}{va:Value}{w:World}(ha:(Af x).p va w)(sx:Sm x i)(hi:i≤1000000000):Calls Tryz.prog 78 #[va] w (Aj (Am (.bool (decide (x=1)))) w):=
 (YF va x w ha (Nat.le_trans (sx.len hi) (by decide))).mono λ_ _ ⟨e,hb⟩=>⟨_,e,rfl,hb⟩
theorem IZ{x:Int}{i:Nat}{va:Value}{w:World}(ha:(Af x).p va w)(sx:Sm x i)(hi:i≤1000000000)(e:x=1):Calls Tryz.prog 78 #[va] w (Aj (Am (.bool true)) w):=by
 have:=wN ha sx hi;rwa [decide_eq_true e] at this
theorem Hi{x:Int}{i:Nat}{va:Value}{w:World}(ha:(Af x).p va w)(sx:Sm x i)(hi:i≤1000000000)(e:x≠1):Calls Tryz.prog 78 #[va] w (Aj (Am (.bool false)) w):=by
 have:=wN ha sx hi;rwa [decide_eq_false e] at this
section
variable {Wb : World} {N : Nat} {S : List (Nat × PF)} {B : List (Nat × CF)} {a : Act} {w : World}
theorem Z3{fn:Func}{t:Nat}{n d:Int}(hst:St Wb N S B a w)(hr:fn.results = #[.cell t 36])(k:Nat)(hk:B[k]? = some (t,Fy n d)):bodyPost Tryz.prog fn (Aj (CA n d) Wb) .ret a w:=by
 obtain ⟨g,h1,_,b,A,n,c,b',A',n',c',hh,hi,hi'⟩:=hst.boxes.get hk;obtain ⟨e0,e1,e2,e3⟩:=D0 hh;refine bodyPost_ret (v:=.agg #[.bool b,.slice A n c,.bool b',.slice A' n' c']) ?_ hst.defers ⟨_,rfl,⟨_,_,_,_,_,_,_,_,rfl,hi,hi'⟩,hst.below⟩;simp [results,hr,go_sem,e0,e1,e2,e3,Array.getD_eq_getD_getElem?,h1]
end
theorem pE{x y:Int}{i j:Nat}(va:Value)(vb:Value)(W:World)(hva:(Af x).p va W)(hvb:(Af y).p vb W)(sx:Sm x i)(sy:Sm y j)(_hi:i≤600000000)(_hj:j≤600000000)(ny:y≠0):Calls Tryz.prog 107 #[va,vb] W (Aj (Af (x / y)) W):=by
  let E:List PF:=[(Af x),(Af y),(Af (x / y)),(Af (x % y))]
  let EB:List CF:=[(Ak x),(Ak y),AQ,(Ak (x / y)),(Ak (x % y))]
  exact Az (E:=E) (EB:=EB) (fs:=[(.ref 0),(.ref 1)]) (r:=(.ref 2))
   { calls:=[c2 119 (.ref 0) (.ref 1) (.tup3 (.ref 2) (.ref 3) (.int .i64 0)) λw v0 v1 hb h0 h1=>lZ h0 h1 sx sy (by first | decide | assumption | omega) (by first | decide | assumption | omega) ny],
     loads:=[⟨34,0,0,(.ref 0),λw q h=>Ah w q h⟩,
      ⟨34,0,1,(.ref 1),λw q h=>Ah w q h⟩,
      ⟨34,0,3,(.ref 2),λw q h=>Ah w q h⟩],
     allocs:=[⟨34,2,_,AP,AR⟩],
     boxes:=[⟨34,(.ref 0),0,λw v h=>AT w v h⟩,
      ⟨34,(.ref 1),1,λw v h=>AT w v h⟩],
     stores:=[⟨34,0,2,(.ref 2),3,(Ag _)⟩,
      ⟨34,0,2,(.ref 3),4,(Ag _)⟩] }
   Tryz.func107 ⟨hva,hvb,trivial⟩ (by kernel_rfl)
theorem AcP{x y:Int}{i j:Nat}{va vb:Value}{w:World}(ha:(Af x).p va w)(hb:(Af y).p vb w)(sx:Sm x i)(sy:Sm y j)(hi:i≤600000000)(hj:j≤600000000)(ny:y≠0):Calls Tryz.prog 107 #[va,vb] w (Aj (Af (x / y)) w):=pE va vb w ha hb sx sy hi hj ny
theorem AdE{x y:Int}{i j:Nat}(va:Value)(vb:Value)(W:World)(hva:(Af x).p va W)(hvb:(Af y).p vb W)(sx:Sm x i)(_sy:Sm y j)(_hi:i≤600000000)(_hj:j≤600000000)(h1:x=1):Calls Tryz.prog 80 #[va,vb] W (Aj (Dx (Af x) (Af y) (Af 1)) W):=by
  let E:List PF:=[(Af x),(Af y),(Af 1)]
  let EB:List CF:=[(Ak x),(Ak y),AQ,(Ak 1)]
  exact Az (E:=E) (EB:=EB) (fs:=[(.ref 0),(.ref 1)]) (r:=(.tup3 (.ref 0) (.ref 1) (.ref 2)))
   { calls:=[c1 78 (.ref 0) (.bool true) λw v0 hb h0=>IZ h0 sx (by first | decide | assumption | omega) h1,
      c1 77 (.int .i64 1) (.ref 2) λw v0 hb h0=>kOf 1 (by omega) (by omega) h0],
     loads:=[⟨34,0,0,(.ref 0),λw q h=>Ah w q h⟩,
      ⟨34,0,1,(.ref 1),λw q h=>Ah w q h⟩,
      ⟨34,0,3,(.ref 2),λw q h=>Ah w q h⟩],
     allocs:=[⟨34,2,_,AP,AR⟩],
     boxes:=[⟨34,(.ref 0),0,λw v h=>AT w v h⟩,
      ⟨34,(.ref 1),1,λw v h=>AT w v h⟩],
     stores:=[⟨34,0,2,(.ref 0),0,(Ag _)⟩,
      ⟨34,0,2,(.ref 1),1,(Ag _)⟩,
      ⟨34,0,2,(.ref 2),3,(Ag _)⟩] }
   Tryz.func80 ⟨hva,hvb,trivial⟩ (by kernel_rfl)
theorem AbB{x y:Int}{i j:Nat}(va:Value)(vb:Value)(W:World)(hva:(Af x).p va W)(hvb:(Af y).p vb W)(sx:Sm x i)(sy:Sm y j)(_hi:i≤600000000)(_hj:j≤600000000)(h1:x≠1)(h2:y=1):Calls Tryz.prog 80 #[va,vb] W (Aj (Dx (Af x) (Af y) (Af 1)) W):=by
  let E:List PF:=[(Af x),(Af y),(Af 1)]
  let EB:List CF:=[(Ak x),(Ak y),AQ,(Ak 1)]
  exact Az (E:=E) (EB:=EB) (fs:=[(.ref 0),(.ref 1)]) (r:=(.tup3 (.ref 0) (.ref 1) (.ref 2)))
   { calls:=[c1 78 (.ref 0) (.bool false) λw v0 hb h0=>Hi h0 sx (by first | decide | assumption | omega) h1,
      c1 78 (.ref 1) (.bool true) λw v0 hb h0=>IZ h0 sy (by first | decide | assumption | omega) h2,
      c1 77 (.int .i64 1) (.ref 2) λw v0 hb h0=>kOf 1 (by omega) (by omega) h0],
     loads:=[⟨34,0,0,(.ref 0),λw q h=>Ah w q h⟩,
      ⟨34,0,1,(.ref 1),λw q h=>Ah w q h⟩,
      ⟨34,0,3,(.ref 2),λw q h=>Ah w q h⟩],
     allocs:=[⟨34,2,_,AP,AR⟩],
     boxes:=[⟨34,(.ref 0),0,λw v h=>AT w v h⟩,
      ⟨34,(.ref 1),1,λw v h=>AT w v h⟩],
     stores:=[⟨34,0,2,(.ref 0),0,(Ag _)⟩,
      ⟨34,0,2,(.ref 1),1,(Ag _)⟩,
      ⟨34,0,2,(.ref 2),3,(Ag _)⟩] }
   Tryz.func80 ⟨hva,hvb,trivial⟩ (by kernel_rfl)
theorem AcC{x y:Int}{i j:Nat}(va:Value)(vb:Value)(W:World)(hva:(Af x).p va W)(hvb:(Af y).p vb W)(sx:Sm x i)(sy:Sm y j)(_hi:i≤600000000)(_hj:j≤600000000)(h1:x≠1)(h2:y≠1)(h3:((Int.gcd x y:Nat):Int)=1):Calls Tryz.prog 80 #[va,vb] W (Aj (Dx (Af x) (Af y) (Af ((Int.gcd x y:Nat):Int))) W):=by
  let E:List PF:=[(Af x),(Af y),(Af ((Int.gcd x y:Nat):Int))]
  let EB:List CF:=[(Ak x),(Ak y),AQ,(Ak ((Int.gcd x y:Nat):Int))]
  exact Az (E:=E) (EB:=EB) (fs:=[(.ref 0),(.ref 1)]) (r:=(.tup3 (.ref 0) (.ref 1) (.ref 2)))
   { calls:=[c1 78 (.ref 0) (.bool false) λw v0 hb h0=>Hi h0 sx (by first | decide | assumption | omega) h1,
      c1 78 (.ref 1) (.bool false) λw v0 hb h0=>Hi h0 sy (by first | decide | assumption | omega) h2,
      c2 106 (.ref 0) (.ref 1) (.ref 2) λw v0 v1 hb h0 h1=>Aa4 h0 h1 sx sy (by first | decide | assumption | omega) (by first | decide | assumption | omega),
      c1 78 (.ref 2) (.bool true) λw v0 hb h0=>IZ h0 (C2 sx sy) (by first | decide | assumption | omega) h3],
     loads:=[⟨34,0,0,(.ref 0),λw q h=>Ah w q h⟩,
      ⟨34,0,1,(.ref 1),λw q h=>Ah w q h⟩,
      ⟨34,0,3,(.ref 2),λw q h=>Ah w q h⟩],
     allocs:=[⟨34,2,_,AP,AR⟩],
     boxes:=[⟨34,(.ref 0),0,λw v h=>AT w v h⟩,
      ⟨34,(.ref 1),1,λw v h=>AT w v h⟩],
     stores:=[⟨34,0,2,(.ref 2),3,(Ag _)⟩,
      ⟨34,0,2,(.ref 0),0,(Ag _)⟩,
      ⟨34,0,2,(.ref 1),1,(Ag _)⟩] }
   Tryz.func80 ⟨hva,hvb,trivial⟩ (by kernel_rfl)
theorem Adv{x y:Int}{i j:Nat}(va:Value)(vb:Value)(W:World)(hva:(Af x).p va W)(hvb:(Af y).p vb W)(sx:Sm x i)(sy:Sm y j)(_hi:i≤600000000)(_hj:j≤600000000)(h1:x≠1)(h2:y≠1)(h3:((Int.gcd x y:Nat):Int)≠1)(h4:((Int.gcd x y:Nat):Int)≠0):Calls Tryz.prog 80 #[va,vb] W (Aj (Dx (Af (x / ((Int.gcd x y:Nat):Int))) (Af (y / ((Int.gcd x y:Nat):Int))) (Af ((Int.gcd x y:Nat):Int))) W):=by
  let E:List PF:=[(Af x),(Af y),(Af ((Int.gcd x y:Nat):Int)),(Af (x / ((Int.gcd x y:Nat):Int))),(Af (y / ((Int.gcd x y:Nat):Int)))]
  let EB:List CF:=[(Ak x),(Ak y),AQ,(Ak ((Int.gcd x y:Nat):Int)),(Ak (x / ((Int.gcd x y:Nat):Int))),(Ak (y / ((Int.gcd x y:Nat):Int)))]
  exact Az (E:=E) (EB:=EB) (fs:=[(.ref 0),(.ref 1)]) (r:=(.tup3 (.ref 3) (.ref 4) (.ref 2)))
   { calls:=[c1 78 (.ref 0) (.bool false) λw v0 hb h0=>Hi h0 sx (by first | decide | assumption | omega) h1,
      c1 78 (.ref 1) (.bool false) λw v0 hb h0=>Hi h0 sy (by first | decide | assumption | omega) h2,
      c2 106 (.ref 0) (.ref 1) (.ref 2) λw v0 v1 hb h0 h1=>Aa4 h0 h1 sx sy (by first | decide | assumption | omega) (by first | decide | assumption | omega),
      c1 78 (.ref 2) (.bool false) λw v0 hb h0=>Hi h0 (C2 sx sy) (by first | decide | assumption | omega) h3,
      c2 107 (.ref 0) (.ref 2) (.ref 3) λw v0 v1 hb h0 h1=>AcP h0 h1 sx (C2 sx sy) (by first | decide | assumption | omega) (by first | decide | assumption | omega) h4,
      c2 107 (.ref 1) (.ref 2) (.ref 4) λw v0 v1 hb h0 h1=>AcP h0 h1 sy (C2 sx sy) (by first | decide | assumption | omega) (by first | decide | assumption | omega) h4],
     loads:=[⟨34,0,0,(.ref 0),λw q h=>Ah w q h⟩,
      ⟨34,0,1,(.ref 1),λw q h=>Ah w q h⟩,
      ⟨34,0,3,(.ref 2),λw q h=>Ah w q h⟩,
      ⟨34,0,4,(.ref 3),λw q h=>Ah w q h⟩,
      ⟨34,0,5,(.ref 4),λw q h=>Ah w q h⟩],
     allocs:=[⟨34,2,_,AP,AR⟩],
     boxes:=[⟨34,(.ref 0),0,λw v h=>AT w v h⟩,
      ⟨34,(.ref 1),1,λw v h=>AT w v h⟩],
     stores:=[⟨34,0,2,(.ref 2),3,(Ag _)⟩,
      ⟨34,0,2,(.ref 3),4,(Ag _)⟩,
      ⟨34,0,2,(.ref 4),5,(Ag _)⟩] }
   Tryz.func80 ⟨hva,hvb,trivial⟩ (by kernel_rfl)
theorem EG{x y:Int}{i j:Nat}{va vb:Value}{w:World}(ha:(Af x).p va w)(hb:(Af y).p vb w)(sx:Sm x i)(sy:Sm y j)(hi:i≤600000000)(hj:j≤600000000)(ny:y≠0):Calls Tryz.prog 80 #[va,vb] w (Aj (Dx (Af (x / ((Int.gcd x y:Nat):Int))) (Af (y / ((Int.gcd x y:Nat):Int))) (Af ((Int.gcd x y:Nat):Int))) w):=by
 by_cases h1:x=1
 ·have e:((Int.gcd x y:Nat):Int)=1:=by rw [h1,Int.one_gcd]; rfl
  rw [e,Int.ediv_one,Int.ediv_one];exact AdE va vb w ha hb sx sy hi hj h1
 by_cases h2:y=1
 ·have e:((Int.gcd x y:Nat):Int)=1:=by rw [h2,Int.gcd_one]; rfl
  rw [e,Int.ediv_one,Int.ediv_one];exact AbB va vb w ha hb sx sy hi hj h1 h2
 by_cases h3:((Int.gcd x y:Nat):Int)=1
 ·have:=AcC va vb w ha hb sx sy hi hj h1 h2 h3
  rw [h3] at this ⊢;rw [Int.ediv_one,Int.ediv_one];exact this
 ·refine Adv va vb w ha hb sx sy hi hj h1 h2 h3 ?_
  have:=Int.gcd_ne_zero_right (a:=x) ny;omega
theorem gC{z:Int}(h0 : -9223372036854775808≤z)(h1:z≤9223372036854775807):Sm z 2:=by
 show z.natAbs<4294967296 ^ 2;have:(4294967296:Nat) ^ 2=18446744073709551616:=by decide
 omega
theorem MU(x:Int)(y:Rat):((Int.gcd x (y.den:Int):Nat):Int)≠0:=by
 have:=Int.gcd_ne_zero_right (a:=x) (Int.ne_of_gt (Cu y));omega
theorem P9(x:Int){y:Int}(ny:y≠0):((Int.gcd x y:Nat):Int)≠0:=by
 have:=Int.gcd_ne_zero_right (a:=x) ny;omega
theorem Sn(x y:Rat)(h1:(x.den:Int)=1)(h2:(y.den:Int)=1):(x+y).num=x.num+y.num∧((x+y).den:Int)=1:=by
 have h:=GI x y 1 (x.num+y.num) (by rw [h1,h2]; rfl) (by rw [h1,h2]; simp);rw [h1,h2] at h;simpa using h
theorem Vy(x y:Rat)(h1:(x.den:Int)=1)(h2:(y.den:Int)=1):(x*y).num=x.num*y.num∧((x*y).den:Int)=1:=by
 have h:=Jg x y;rw [h1,h2] at h;simpa using h
theorem yQ{x y:Rat}{i j:Nat}(va:Value)(vb:Value)(W:World)(hva:(Ap x).p va W)(hvb:(Ap y).p vb W)(sx:A7 x i)(sy:A7 y j)(_hi:i≤250000000)(_hj:j≤250000000)(h1:(x.den:Int)=1)(h2:(y.den:Int)=1):Calls Tryz.prog 123 #[va,vb] W (Aj (Ap (x+y)) W):=by
  let E:List PF:=[(Ap x),(Ap y),(Af (x.den:Int)),(Af (y.den:Int)),(Af x.num),(Af y.num),(Af (x.num+y.num)),(Af 1),(Ap (x+y))]
  let EB:List CF:=[(Ba x),(Ba y),Bb,(Ba (x+y))]
  exact Az (E:=E) (EB:=EB) (fs:=[(.ref 0),(.ref 1)]) (r:=(.ref 8))
   { pures:=[p2 (.bld 36 [0,1]) (.ref 6) (.ref 7) (.ref 8) λ_ _ _ _ _ hx hy=>Bq (Sn x y h1 h2).1.symm (Sn x y h1 h2).2.symm hx hy],
     calls:=[c1 78 (.ref 2) (.bool true) λw v0 hb h0=>IZ h0 sx.2 (by first | decide | assumption | omega) h1,
      c1 78 (.ref 3) (.bool true) λw v0 hb h0=>IZ h0 sy.2 (by first | decide | assumption | omega) h2,
      c2 134 (.ref 4) (.ref 5) (.ref 6) λw v0 v1 hb h0 h1=>xH h0 h1 sx.1 sy.1 (by first | decide | assumption | omega) (by first | decide | assumption | omega),
      c1 77 (.int .i64 1) (.ref 7) λw v0 hb h0=>kOf 1 (by omega) (by omega) h0],
     loads:=[⟨34,2,0,(.ref 2),λw q h=>Bw w q h⟩,
      ⟨34,2,1,(.ref 3),λw q h=>Bw w q h⟩,
      ⟨34,0,0,(.ref 4),λw q h=>Bp w q h⟩,
      ⟨34,0,1,(.ref 5),λw q h=>Bp w q h⟩,
      ⟨36,0,3,(.ref 8),λw q h=>AH w q h⟩],
     allocs:=[⟨36,2,_,AN,AM⟩],
     boxes:=[⟨36,(.ref 0),0,λw v h=>AS w v h⟩,
      ⟨36,(.ref 1),1,λw v h=>AS w v h⟩],
     stores:=[⟨36,0,2,(.ref 8),3,AG⟩],
     flds:=[⟨36,1,2,E9⟩,
      ⟨36,0,0,DW⟩] }
   Tryz.func123 ⟨hva,hvb,trivial⟩ (by kernel_rfl)
theorem zW{x y:Rat}{i j:Nat}(va:Value)(vb:Value)(W:World)(hva:(Ap x).p va W)(hvb:(Ap y).p vb W)(sx:A7 x i)(sy:A7 y j)(_hi:i≤250000000)(_hj:j≤250000000)(h1:(x.den:Int)=1)(h2:(y.den:Int)≠1):Calls Tryz.prog 123 #[va,vb] W (Aj (Ap (x+y)) W):=by
  let E:List PF:=[(Ap x),(Ap y),(Af (x.den:Int)),(Af (y.den:Int)),(Af ((x.den:Int) / ((Int.gcd (x.den:Int) (y.den:Int):Nat):Int))),(Af ((y.den:Int) / ((Int.gcd (x.den:Int) (y.den:Int):Nat):Int))),(Af ((Int.gcd (x.den:Int) (y.den:Int):Nat):Int)),(Af x.num),(Af (x.num*((y.den:Int) / ((Int.gcd (x.den:Int) (y.den:Int):Nat):Int)))),(Af y.num),(Af (y.num*((x.den:Int) / ((Int.gcd (x.den:Int) (y.den:Int):Nat):Int)))),(Af ((x.num*((y.den:Int) / ((Int.gcd (x.den:Int) (y.den:Int):Nat):Int)))+(y.num*((x.den:Int) / ((Int.gcd (x.den:Int) (y.den:Int):Nat):Int))))),(Af (((x.num*((y.den:Int) / ((Int.gcd (x.den:Int) (y.den:Int):Nat):Int)))+(y.num*((x.den:Int) / ((Int.gcd (x.den:Int) (y.den:Int):Nat):Int)))) / ((Int.gcd ((x.num*((y.den:Int) / ((Int.gcd (x.den:Int) (y.den:Int):Nat):Int)))+(y.num*((x.den:Int) / ((Int.gcd (x.den:Int) (y.den:Int):Nat):Int)))) ((Int.gcd (x.den:Int) (y.den:Int):Nat):Int):Nat):Int))),(Af (((Int.gcd (x.den:Int) (y.den:Int):Nat):Int) / ((Int.gcd ((x.num*((y.den:Int) / ((Int.gcd (x.den:Int) (y.den:Int):Nat):Int)))+(y.num*((x.den:Int) / ((Int.gcd (x.den:Int) (y.den:Int):Nat):Int)))) ((Int.gcd (x.den:Int) (y.den:Int):Nat):Int):Nat):Int))),(Af ((Int.gcd ((x.num*((y.den:Int) / ((Int.gcd (x.den:Int) (y.den:Int):Nat):Int)))+(y.num*((x.den:Int) / ((Int.gcd (x.den:Int) (y.den:Int):Nat):Int)))) ((Int.gcd (x.den:Int) (y.den:Int):Nat):Int):Nat):Int)),(Af (((x.den:Int) / ((Int.gcd (x.den:Int) (y.den:Int):Nat):Int))*((y.den:Int) / ((Int.gcd (x.den:Int) (y.den:Int):Nat):Int)))),(Af ((((Int.gcd (x.den:Int) (y.den:Int):Nat):Int) / ((Int.gcd ((x.num*((y.den:Int) / ((Int.gcd (x.den:Int) (y.den:Int):Nat):Int)))+(y.num*((x.den:Int) / ((Int.gcd (x.den:Int) (y.den:Int):Nat):Int)))) ((Int.gcd (x.den:Int) (y.den:Int):Nat):Int):Nat):Int))*(((x.den:Int) / ((Int.gcd (x.den:Int) (y.den:Int):Nat):Int))*((y.den:Int) / ((Int.gcd (x.den:Int) (y.den:Int):Nat):Int))))),(Ap (x+y))]
  let EB:List CF:=[(Ba x),(Ba y),Bb,AQ,(Ak ((x.den:Int) / ((Int.gcd (x.den:Int) (y.den:Int):Nat):Int))),(Ak ((y.den:Int) / ((Int.gcd (x.den:Int) (y.den:Int):Nat):Int))),(Ak ((Int.gcd (x.den:Int) (y.den:Int):Nat):Int)),(Ak ((x.num*((y.den:Int) / ((Int.gcd (x.den:Int) (y.den:Int):Nat):Int)))+(y.num*((x.den:Int) / ((Int.gcd (x.den:Int) (y.den:Int):Nat):Int))))),(Ak (((x.num*((y.den:Int) / ((Int.gcd (x.den:Int) (y.den:Int):Nat):Int)))+(y.num*((x.den:Int) / ((Int.gcd (x.den:Int) (y.den:Int):Nat):Int)))) / ((Int.gcd ((x.num*((y.den:Int) / ((Int.gcd (x.den:Int) (y.den:Int):Nat):Int)))+(y.num*((x.den:Int) / ((Int.gcd (x.den:Int) (y.den:Int):Nat):Int)))) ((Int.gcd (x.den:Int) (y.den:Int):Nat):Int):Nat):Int))),(Ak (((Int.gcd (x.den:Int) (y.den:Int):Nat):Int) / ((Int.gcd ((x.num*((y.den:Int) / ((Int.gcd (x.den:Int) (y.den:Int):Nat):Int)))+(y.num*((x.den:Int) / ((Int.gcd (x.den:Int) (y.den:Int):Nat):Int)))) ((Int.gcd (x.den:Int) (y.den:Int):Nat):Int):Nat):Int))),(Ba (x+y))]
  exact Az (E:=E) (EB:=EB) (fs:=[(.ref 0),(.ref 1)]) (r:=(.ref 17))
   { pures:=[p2 (.bld 36 [0,1]) (.ref 12) (.ref 16) (.ref 17) λ_ _ _ _ _ hx hy=>Bq (GI x y _ _ rfl rfl).1.symm (GI x y _ _ rfl rfl).2.symm hx hy],
     calls:=[c1 78 (.ref 2) (.bool true) λw v0 hb h0=>IZ h0 sx.2 (by first | decide | assumption | omega) h1,
      c1 78 (.ref 3) (.bool false) λw v0 hb h0=>Hi h0 sy.2 (by first | decide | assumption | omega) h2,
      c2 80 (.ref 2) (.ref 3) (.tup3 (.ref 4) (.ref 5) (.ref 6)) λw v0 v1 hb h0 h1=>EG h0 h1 sx.2 sy.2 (by first | decide | assumption | omega) (by first | decide | assumption | omega) (Int.ne_of_gt (Cu y)),
      c2 79 (.ref 7) (.ref 5) (.ref 8) λw v0 v1 hb h0 h1=>JA h0 h1 sx.1 sy.2.div (by first | decide | assumption | omega) (by first | decide | assumption | omega),
      c2 79 (.ref 9) (.ref 4) (.ref 10) λw v0 v1 hb h0 h1=>JA h0 h1 sy.1 sx.2.div (by first | decide | assumption | omega) (by first | decide | assumption | omega),
      c2 134 (.ref 8) (.ref 10) (.ref 11) λw v0 v1 hb h0 h1=>xH h0 h1 (sx.1.mul sy.2.div) (sy.1.mul sx.2.div) (by first | decide | assumption | omega) (by first | decide | assumption | omega),
      c2 80 (.ref 11) (.ref 6) (.tup3 (.ref 12) (.ref 13) (.ref 14)) λw v0 v1 hb h0 h1=>EG h0 h1 ((sx.1.mul sy.2.div).add (sy.1.mul sx.2.div)) (C2 sx.2 sy.2) (by first | decide | assumption | omega) (by first | decide | assumption | omega) (MU _ y),
      c2 79 (.ref 4) (.ref 5) (.ref 15) λw v0 v1 hb h0 h1=>JA h0 h1 sx.2.div sy.2.div (by first | decide | assumption | omega) (by first | decide | assumption | omega),
      c2 79 (.ref 13) (.ref 15) (.ref 16) λw v0 v1 hb h0 h1=>JA h0 h1 (C2 sx.2 sy.2).div (sx.2.div.mul sy.2.div) (by first | decide | assumption | omega) (by first | decide | assumption | omega)],
     loads:=[⟨34,2,0,(.ref 2),λw q h=>Bw w q h⟩,
      ⟨34,2,1,(.ref 3),λw q h=>Bw w q h⟩,
      ⟨34,0,0,(.ref 7),λw q h=>Bp w q h⟩,
      ⟨34,0,5,(.ref 5),λw q h=>Ah w q h⟩,
      ⟨34,0,1,(.ref 9),λw q h=>Bp w q h⟩,
      ⟨34,0,4,(.ref 4),λw q h=>Ah w q h⟩,
      ⟨34,0,7,(.ref 11),λw q h=>Ah w q h⟩,
      ⟨34,0,6,(.ref 6),λw q h=>Ah w q h⟩,
      ⟨34,0,8,(.ref 12),λw q h=>Ah w q h⟩,
      ⟨34,0,9,(.ref 13),λw q h=>Ah w q h⟩,
      ⟨36,0,10,(.ref 17),λw q h=>AH w q h⟩],
     allocs:=[⟨36,2,_,AN,AM⟩,
      ⟨34,3,_,AP,AR⟩],
     boxes:=[⟨36,(.ref 0),0,λw v h=>AS w v h⟩,
      ⟨36,(.ref 1),1,λw v h=>AS w v h⟩],
     stores:=[⟨34,0,3,(.ref 4),4,(Ag _)⟩,
      ⟨34,0,3,(.ref 5),5,(Ag _)⟩,
      ⟨34,0,3,(.ref 6),6,(Ag _)⟩,
      ⟨34,0,3,(.ref 11),7,(Ag _)⟩,
      ⟨34,0,7,(.ref 12),8,(AK _ _)⟩,
      ⟨34,0,6,(.ref 13),9,(AK _ _)⟩,
      ⟨36,0,2,(.ref 17),10,AG⟩],
     flds:=[⟨36,1,2,E9⟩,
      ⟨36,0,0,DW⟩] }
   Tryz.func123 ⟨hva,hvb,trivial⟩ (by kernel_rfl)
theorem Aa2{x y:Rat}{i j:Nat}(va:Value)(vb:Value)(W:World)(hva:(Ap x).p va W)(hvb:(Ap y).p vb W)(sx:A7 x i)(sy:A7 y j)(_hi:i≤250000000)(_hj:j≤250000000)(h1:(x.den:Int)≠1):Calls Tryz.prog 123 #[va,vb] W (Aj (Ap (x+y)) W):=by
  let E:List PF:=[(Ap x),(Ap y),(Af (x.den:Int)),(Af (y.den:Int)),(Af ((x.den:Int) / ((Int.gcd (x.den:Int) (y.den:Int):Nat):Int))),(Af ((y.den:Int) / ((Int.gcd (x.den:Int) (y.den:Int):Nat):Int))),(Af ((Int.gcd (x.den:Int) (y.den:Int):Nat):Int)),(Af x.num),(Af (x.num*((y.den:Int) / ((Int.gcd (x.den:Int) (y.den:Int):Nat):Int)))),(Af y.num),(Af (y.num*((x.den:Int) / ((Int.gcd (x.den:Int) (y.den:Int):Nat):Int)))),(Af ((x.num*((y.den:Int) / ((Int.gcd (x.den:Int) (y.den:Int):Nat):Int)))+(y.num*((x.den:Int) / ((Int.gcd (x.den:Int) (y.den:Int):Nat):Int))))),(Af (((x.num*((y.den:Int) / ((Int.gcd (x.den:Int) (y.den:Int):Nat):Int)))+(y.num*((x.den:Int) / ((Int.gcd (x.den:Int) (y.den:Int):Nat):Int)))) / ((Int.gcd ((x.num*((y.den:Int) / ((Int.gcd (x.den:Int) (y.den:Int):Nat):Int)))+(y.num*((x.den:Int) / ((Int.gcd (x.den:Int) (y.den:Int):Nat):Int)))) ((Int.gcd (x.den:Int) (y.den:Int):Nat):Int):Nat):Int))),(Af (((Int.gcd (x.den:Int) (y.den:Int):Nat):Int) / ((Int.gcd ((x.num*((y.den:Int) / ((Int.gcd (x.den:Int) (y.den:Int):Nat):Int)))+(y.num*((x.den:Int) / ((Int.gcd (x.den:Int) (y.den:Int):Nat):Int)))) ((Int.gcd (x.den:Int) (y.den:Int):Nat):Int):Nat):Int))),(Af ((Int.gcd ((x.num*((y.den:Int) / ((Int.gcd (x.den:Int) (y.den:Int):Nat):Int)))+(y.num*((x.den:Int) / ((Int.gcd (x.den:Int) (y.den:Int):Nat):Int)))) ((Int.gcd (x.den:Int) (y.den:Int):Nat):Int):Nat):Int)),(Af (((x.den:Int) / ((Int.gcd (x.den:Int) (y.den:Int):Nat):Int))*((y.den:Int) / ((Int.gcd (x.den:Int) (y.den:Int):Nat):Int)))),(Af ((((Int.gcd (x.den:Int) (y.den:Int):Nat):Int) / ((Int.gcd ((x.num*((y.den:Int) / ((Int.gcd (x.den:Int) (y.den:Int):Nat):Int)))+(y.num*((x.den:Int) / ((Int.gcd (x.den:Int) (y.den:Int):Nat):Int)))) ((Int.gcd (x.den:Int) (y.den:Int):Nat):Int):Nat):Int))*(((x.den:Int) / ((Int.gcd (x.den:Int) (y.den:Int):Nat):Int))*((y.den:Int) / ((Int.gcd (x.den:Int) (y.den:Int):Nat):Int))))),(Ap (x+y))]
  let EB:List CF:=[(Ba x),(Ba y),Bb,AQ,(Ak ((x.den:Int) / ((Int.gcd (x.den:Int) (y.den:Int):Nat):Int))),(Ak ((y.den:Int) / ((Int.gcd (x.den:Int) (y.den:Int):Nat):Int))),(Ak ((Int.gcd (x.den:Int) (y.den:Int):Nat):Int)),(Ak ((x.num*((y.den:Int) / ((Int.gcd (x.den:Int) (y.den:Int):Nat):Int)))+(y.num*((x.den:Int) / ((Int.gcd (x.den:Int) (y.den:Int):Nat):Int))))),(Ak (((x.num*((y.den:Int) / ((Int.gcd (x.den:Int) (y.den:Int):Nat):Int)))+(y.num*((x.den:Int) / ((Int.gcd (x.den:Int) (y.den:Int):Nat):Int)))) / ((Int.gcd ((x.num*((y.den:Int) / ((Int.gcd (x.den:Int) (y.den:Int):Nat):Int)))+(y.num*((x.den:Int) / ((Int.gcd (x.den:Int) (y.den:Int):Nat):Int)))) ((Int.gcd (x.den:Int) (y.den:Int):Nat):Int):Nat):Int))),(Ak (((Int.gcd (x.den:Int) (y.den:Int):Nat):Int) / ((Int.gcd ((x.num*((y.den:Int) / ((Int.gcd (x.den:Int) (y.den:Int):Nat):Int)))+(y.num*((x.den:Int) / ((Int.gcd (x.den:Int) (y.den:Int):Nat):Int)))) ((Int.gcd (x.den:Int) (y.den:Int):Nat):Int):Nat):Int))),(Ba (x+y))]
  exact Az (E:=E) (EB:=EB) (fs:=[(.ref 0),(.ref 1)]) (r:=(.ref 17))
   { pures:=[p2 (.bld 36 [0,1]) (.ref 12) (.ref 16) (.ref 17) λ_ _ _ _ _ hx hy=>Bq (GI x y _ _ rfl rfl).1.symm (GI x y _ _ rfl rfl).2.symm hx hy],
     calls:=[c1 78 (.ref 2) (.bool false) λw v0 hb h0=>Hi h0 sx.2 (by first | decide | assumption | omega) h1,
      c2 80 (.ref 2) (.ref 3) (.tup3 (.ref 4) (.ref 5) (.ref 6)) λw v0 v1 hb h0 h1=>EG h0 h1 sx.2 sy.2 (by first | decide | assumption | omega) (by first | decide | assumption | omega) (Int.ne_of_gt (Cu y)),
      c2 79 (.ref 7) (.ref 5) (.ref 8) λw v0 v1 hb h0 h1=>JA h0 h1 sx.1 sy.2.div (by first | decide | assumption | omega) (by first | decide | assumption | omega),
      c2 79 (.ref 9) (.ref 4) (.ref 10) λw v0 v1 hb h0 h1=>JA h0 h1 sy.1 sx.2.div (by first | decide | assumption | omega) (by first | decide | assumption | omega),
      c2 134 (.ref 8) (.ref 10) (.ref 11) λw v0 v1 hb h0 h1=>xH h0 h1 (sx.1.mul sy.2.div) (sy.1.mul sx.2.div) (by first | decide | assumption | omega) (by first | decide | assumption | omega),
      c2 80 (.ref 11) (.ref 6) (.tup3 (.ref 12) (.ref 13) (.ref 14)) λw v0 v1 hb h0 h1=>EG h0 h1 ((sx.1.mul sy.2.div).add (sy.1.mul sx.2.div)) (C2 sx.2 sy.2) (by first | decide | assumption | omega) (by first | decide | assumption | omega) (MU _ y),
      c2 79 (.ref 4) (.ref 5) (.ref 15) λw v0 v1 hb h0 h1=>JA h0 h1 sx.2.div sy.2.div (by first | decide | assumption | omega) (by first | decide | assumption | omega),
      c2 79 (.ref 13) (.ref 15) (.ref 16) λw v0 v1 hb h0 h1=>JA h0 h1 (C2 sx.2 sy.2).div (sx.2.div.mul sy.2.div) (by first | decide | assumption | omega) (by first | decide | assumption | omega)],
     loads:=[⟨34,2,0,(.ref 2),λw q h=>Bw w q h⟩,
      ⟨34,2,1,(.ref 3),λw q h=>Bw w q h⟩,
      ⟨34,0,0,(.ref 7),λw q h=>Bp w q h⟩,
      ⟨34,0,5,(.ref 5),λw q h=>Ah w q h⟩,
      ⟨34,0,1,(.ref 9),λw q h=>Bp w q h⟩,
      ⟨34,0,4,(.ref 4),λw q h=>Ah w q h⟩,
      ⟨34,0,7,(.ref 11),λw q h=>Ah w q h⟩,
      ⟨34,0,6,(.ref 6),λw q h=>Ah w q h⟩,
      ⟨34,0,8,(.ref 12),λw q h=>Ah w q h⟩,
      ⟨34,0,9,(.ref 13),λw q h=>Ah w q h⟩,
      ⟨36,0,10,(.ref 17),λw q h=>AH w q h⟩],
     allocs:=[⟨36,2,_,AN,AM⟩,
      ⟨34,3,_,AP,AR⟩],
     boxes:=[⟨36,(.ref 0),0,λw v h=>AS w v h⟩,
      ⟨36,(.ref 1),1,λw v h=>AS w v h⟩],
     stores:=[⟨34,0,3,(.ref 4),4,(Ag _)⟩,
      ⟨34,0,3,(.ref 5),5,(Ag _)⟩,
      ⟨34,0,3,(.ref 6),6,(Ag _)⟩,
      ⟨34,0,3,(.ref 11),7,(Ag _)⟩,
      ⟨34,0,7,(.ref 12),8,(AK _ _)⟩,
      ⟨34,0,6,(.ref 13),9,(AK _ _)⟩,
      ⟨36,0,2,(.ref 17),10,AG⟩],
     flds:=[⟨36,1,2,E9⟩,
      ⟨36,0,0,DW⟩] }
   Tryz.func123 ⟨hva,hvb,trivial⟩ (by kernel_rfl)
theorem Abi{x y:Rat}{i j:Nat}(va:Value)(vb:Value)(W:World)(hva:(Ap x).p va W)(hvb:(Ap y).p vb W)(sx:A7 x i)(sy:A7 y j)(_hi:i≤250000000)(_hj:j≤250000000)(h1:(x.den:Int)=1)(h2:(y.den:Int)=1):Calls Tryz.prog 48 #[va,vb] W (Aj (Ap (x*y)) W):=by
  let E:List PF:=[(Ap x),(Ap y),(Af (x.den:Int)),(Af (y.den:Int)),(Af x.num),(Af y.num),(Af (x.num*y.num)),(Af 1),(Ap (x*y))]
  let EB:List CF:=[(Ba x),(Ba y),Bb,(Ba (x*y))]
  exact Az (E:=E) (EB:=EB) (fs:=[(.ref 0),(.ref 1)]) (r:=(.ref 8))
   { pures:=[p2 (.bld 36 [0,1]) (.ref 6) (.ref 7) (.ref 8) λ_ _ _ _ _ hx hy=>Bq (Vy x y h1 h2).1.symm (Vy x y h1 h2).2.symm hx hy],
     calls:=[c1 78 (.ref 2) (.bool true) λw v0 hb h0=>IZ h0 sx.2 (by first | decide | assumption | omega) h1,
      c1 78 (.ref 3) (.bool true) λw v0 hb h0=>IZ h0 sy.2 (by first | decide | assumption | omega) h2,
      c2 79 (.ref 4) (.ref 5) (.ref 6) λw v0 v1 hb h0 h1=>JA h0 h1 sx.1 sy.1 (by first | decide | assumption | omega) (by first | decide | assumption | omega),
      c1 77 (.int .i64 1) (.ref 7) λw v0 hb h0=>kOf 1 (by omega) (by omega) h0],
     loads:=[⟨34,2,0,(.ref 2),λw q h=>Bw w q h⟩,
      ⟨34,2,1,(.ref 3),λw q h=>Bw w q h⟩,
      ⟨34,0,0,(.ref 4),λw q h=>Bp w q h⟩,
      ⟨34,0,1,(.ref 5),λw q h=>Bp w q h⟩,
      ⟨36,0,3,(.ref 8),λw q h=>AH w q h⟩],
     allocs:=[⟨36,2,_,AN,AM⟩],
     boxes:=[⟨36,(.ref 0),0,λw v h=>AS w v h⟩,
      ⟨36,(.ref 1),1,λw v h=>AS w v h⟩],
     stores:=[⟨36,0,2,(.ref 8),3,AG⟩],
     flds:=[⟨36,1,2,E9⟩,
      ⟨36,0,0,DW⟩] }
   Tryz.func48 ⟨hva,hvb,trivial⟩ (by kernel_rfl)
theorem wV{x y:Rat}{i j:Nat}(va:Value)(vb:Value)(W:World)(hva:(Ap x).p va W)(hvb:(Ap y).p vb W)(sx:A7 x i)(sy:A7 y j)(_hi:i≤250000000)(_hj:j≤250000000)(h1:(x.den:Int)=1)(h2:(y.den:Int)≠1):Calls Tryz.prog 48 #[va,vb] W (Aj (Ap (x*y)) W):=by
  let E:List PF:=[(Ap x),(Ap y),(Af (x.den:Int)),(Af (y.den:Int)),(Af x.num),(Af (x.num / ((Int.gcd x.num (y.den:Int):Nat):Int))),(Af ((y.den:Int) / ((Int.gcd x.num (y.den:Int):Nat):Int))),(Af ((Int.gcd x.num (y.den:Int):Nat):Int)),(Af y.num),(Af (y.num / ((Int.gcd y.num (x.den:Int):Nat):Int))),(Af ((x.den:Int) / ((Int.gcd y.num (x.den:Int):Nat):Int))),(Af ((Int.gcd y.num (x.den:Int):Nat):Int)),(Af ((x.num / ((Int.gcd x.num (y.den:Int):Nat):Int))*(y.num / ((Int.gcd y.num (x.den:Int):Nat):Int)))),(Af (((x.den:Int) / ((Int.gcd y.num (x.den:Int):Nat):Int))*((y.den:Int) / ((Int.gcd x.num (y.den:Int):Nat):Int)))),(Ap (x*y))]
  let EB:List CF:=[(Ba x),(Ba y),Bb,AQ,(Ak (x.num / ((Int.gcd x.num (y.den:Int):Nat):Int))),(Ak ((y.den:Int) / ((Int.gcd x.num (y.den:Int):Nat):Int))),(Ak ((Int.gcd x.num (y.den:Int):Nat):Int)),(Ak (y.num / ((Int.gcd y.num (x.den:Int):Nat):Int))),(Ak ((x.den:Int) / ((Int.gcd y.num (x.den:Int):Nat):Int))),(Ak ((Int.gcd y.num (x.den:Int):Nat):Int)),(Ba (x*y))]
  exact Az (E:=E) (EB:=EB) (fs:=[(.ref 0),(.ref 1)]) (r:=(.ref 14))
   { pures:=[p2 (.bld 36 [0,1]) (.ref 12) (.ref 13) (.ref 14) λ_ _ _ _ _ hx hy=>Bq (Jg x y).1.symm (Jg x y).2.symm hx hy],
     calls:=[c1 78 (.ref 2) (.bool true) λw v0 hb h0=>IZ h0 sx.2 (by first | decide | assumption | omega) h1,
      c1 78 (.ref 3) (.bool false) λw v0 hb h0=>Hi h0 sy.2 (by first | decide | assumption | omega) h2,
      c2 80 (.ref 4) (.ref 3) (.tup3 (.ref 5) (.ref 6) (.ref 7)) λw v0 v1 hb h0 h1=>EG h0 h1 sx.1 sy.2 (by first | decide | assumption | omega) (by first | decide | assumption | omega) (Int.ne_of_gt (Cu y)),
      c2 80 (.ref 8) (.ref 2) (.tup3 (.ref 9) (.ref 10) (.ref 11)) λw v0 v1 hb h0 h1=>EG h0 h1 sy.1 sx.2 (by first | decide | assumption | omega) (by first | decide | assumption | omega) (Int.ne_of_gt (Cu x)),
      c2 79 (.ref 5) (.ref 9) (.ref 12) λw v0 v1 hb h0 h1=>JA h0 h1 sx.1.div sy.1.div (by first | decide | assumption | omega) (by first | decide | assumption | omega),
      c2 79 (.ref 10) (.ref 6) (.ref 13) λw v0 v1 hb h0 h1=>JA h0 h1 sx.2.div sy.2.div (by first | decide | assumption | omega) (by first | decide | assumption | omega)],
     loads:=[⟨34,2,0,(.ref 2),λw q h=>Bw w q h⟩,
      ⟨34,2,1,(.ref 3),λw q h=>Bw w q h⟩,
      ⟨34,0,0,(.ref 4),λw q h=>Bp w q h⟩,
      ⟨34,0,1,(.ref 8),λw q h=>Bp w q h⟩,
      ⟨34,0,4,(.ref 5),λw q h=>Ah w q h⟩,
      ⟨34,0,7,(.ref 9),λw q h=>Ah w q h⟩,
      ⟨34,0,8,(.ref 10),λw q h=>Ah w q h⟩,
      ⟨34,0,5,(.ref 6),λw q h=>Ah w q h⟩,
      ⟨36,0,10,(.ref 14),λw q h=>AH w q h⟩],
     allocs:=[⟨36,2,_,AN,AM⟩,
      ⟨34,3,_,AP,AR⟩],
     boxes:=[⟨36,(.ref 0),0,λw v h=>AS w v h⟩,
      ⟨36,(.ref 1),1,λw v h=>AS w v h⟩],
     stores:=[⟨34,0,3,(.ref 5),4,(Ag _)⟩,
      ⟨34,0,3,(.ref 6),5,(Ag _)⟩,
      ⟨34,0,3,(.ref 7),6,(Ag _)⟩,
      ⟨34,0,3,(.ref 9),7,(Ag _)⟩,
      ⟨34,0,3,(.ref 10),8,(Ag _)⟩,
      ⟨34,0,3,(.ref 11),9,(Ag _)⟩,
      ⟨36,0,2,(.ref 14),10,AG⟩],
     flds:=[⟨36,1,2,E9⟩,
      ⟨36,0,0,DW⟩] }
   Tryz.func48 ⟨hva,hvb,trivial⟩ (by kernel_rfl)
theorem xV{x y:Rat}{i j:Nat}(va:Value)(vb:Value)(W:World)(hva:(Ap x).p va W)(hvb:(Ap y).p vb W)(sx:A7 x i)(sy:A7 y j)(_hi:i≤250000000)(_hj:j≤250000000)(h1:(x.den:Int)≠1):Calls Tryz.prog 48 #[va,vb] W (Aj (Ap (x*y)) W):=by
  let E:List PF:=[(Ap x),(Ap y),(Af (x.den:Int)),(Af x.num),(Af (y.den:Int)),(Af (x.num / ((Int.gcd x.num (y.den:Int):Nat):Int))),(Af ((y.den:Int) / ((Int.gcd x.num (y.den:Int):Nat):Int))),(Af ((Int.gcd x.num (y.den:Int):Nat):Int)),(Af y.num),(Af (y.num / ((Int.gcd y.num (x.den:Int):Nat):Int))),(Af ((x.den:Int) / ((Int.gcd y.num (x.den:Int):Nat):Int))),(Af ((Int.gcd y.num (x.den:Int):Nat):Int)),(Af ((x.num / ((Int.gcd x.num (y.den:Int):Nat):Int))*(y.num / ((Int.gcd y.num (x.den:Int):Nat):Int)))),(Af (((x.den:Int) / ((Int.gcd y.num (x.den:Int):Nat):Int))*((y.den:Int) / ((Int.gcd x.num (y.den:Int):Nat):Int)))),(Ap (x*y))]
  let EB:List CF:=[(Ba x),(Ba y),Bb,AQ,(Ak (x.num / ((Int.gcd x.num (y.den:Int):Nat):Int))),(Ak ((y.den:Int) / ((Int.gcd x.num (y.den:Int):Nat):Int))),(Ak ((Int.gcd x.num (y.den:Int):Nat):Int)),(Ak (y.num / ((Int.gcd y.num (x.den:Int):Nat):Int))),(Ak ((x.den:Int) / ((Int.gcd y.num (x.den:Int):Nat):Int))),(Ak ((Int.gcd y.num (x.den:Int):Nat):Int)),(Ba (x*y))]
  exact Az (E:=E) (EB:=EB) (fs:=[(.ref 0),(.ref 1)]) (r:=(.ref 14))
   { pures:=[p2 (.bld 36 [0,1]) (.ref 12) (.ref 13) (.ref 14) λ_ _ _ _ _ hx hy=>Bq (Jg x y).1.symm (Jg x y).2.symm hx hy],
     calls:=[c1 78 (.ref 2) (.bool false) λw v0 hb h0=>Hi h0 sx.2 (by first | decide | assumption | omega) h1,
      c2 80 (.ref 3) (.ref 4) (.tup3 (.ref 5) (.ref 6) (.ref 7)) λw v0 v1 hb h0 h1=>EG h0 h1 sx.1 sy.2 (by first | decide | assumption | omega) (by first | decide | assumption | omega) (Int.ne_of_gt (Cu y)),
      c2 80 (.ref 8) (.ref 2) (.tup3 (.ref 9) (.ref 10) (.ref 11)) λw v0 v1 hb h0 h1=>EG h0 h1 sy.1 sx.2 (by first | decide | assumption | omega) (by first | decide | assumption | omega) (Int.ne_of_gt (Cu x)),
      c2 79 (.ref 5) (.ref 9) (.ref 12) λw v0 v1 hb h0 h1=>JA h0 h1 sx.1.div sy.1.div (by first | decide | assumption | omega) (by first | decide | assumption | omega),
      c2 79 (.ref 10) (.ref 6) (.ref 13) λw v0 v1 hb h0 h1=>JA h0 h1 sx.2.div sy.2.div (by first | decide | assumption | omega) (by first | decide | assumption | omega)],
     loads:=[⟨34,2,0,(.ref 2),λw q h=>Bw w q h⟩,
      ⟨34,0,0,(.ref 3),λw q h=>Bp w q h⟩,
      ⟨34,2,1,(.ref 4),λw q h=>Bw w q h⟩,
      ⟨34,0,1,(.ref 8),λw q h=>Bp w q h⟩,
      ⟨34,0,4,(.ref 5),λw q h=>Ah w q h⟩,
      ⟨34,0,7,(.ref 9),λw q h=>Ah w q h⟩,
      ⟨34,0,8,(.ref 10),λw q h=>Ah w q h⟩,
      ⟨34,0,5,(.ref 6),λw q h=>Ah w q h⟩,
      ⟨36,0,10,(.ref 14),λw q h=>AH w q h⟩],
     allocs:=[⟨36,2,_,AN,AM⟩,
      ⟨34,3,_,AP,AR⟩],
     boxes:=[⟨36,(.ref 0),0,λw v h=>AS w v h⟩,
      ⟨36,(.ref 1),1,λw v h=>AS w v h⟩],
     stores:=[⟨34,0,3,(.ref 5),4,(Ag _)⟩,
      ⟨34,0,3,(.ref 6),5,(Ag _)⟩,
      ⟨34,0,3,(.ref 7),6,(Ag _)⟩,
      ⟨34,0,3,(.ref 9),7,(Ag _)⟩,
      ⟨34,0,3,(.ref 10),8,(Ag _)⟩,
      ⟨34,0,3,(.ref 11),9,(Ag _)⟩,
      ⟨36,0,2,(.ref 14),10,AG⟩],
     flds:=[⟨36,1,2,E9⟩,
      ⟨36,0,0,DW⟩] }
   Tryz.func48 ⟨hva,hvb,trivial⟩ (by kernel_rfl)
theorem Zy{x y:Rat}{i j:Nat}(va:Value)(vb:Value)(W:World)(hva:(Ap x).p va W)(hvb:(Ap y).p vb W)(sx:A7 x i)(sy:A7 y j)(_hi:i≤250000000)(_hj:j≤250000000):Calls Tryz.prog 123 #[va,vb] W (Aj (Ap (x+y)) W):=by
 by_cases h1:(x.den:Int)=1
 ·by_cases h2:(y.den:Int)=1
  ·exact yQ va vb W hva hvb sx sy _hi _hj h1 h2
  ·exact zW va vb W hva hvb sx sy _hi _hj h1 h2
 ·exact Aa2 va vb W hva hvb sx sy _hi _hj h1
theorem Zj{x y:Rat}{i j:Nat}(va:Value)(vb:Value)(W:World)(hva:(Ap x).p va W)(hvb:(Ap y).p vb W)(sx:A7 x i)(sy:A7 y j)(_hi:i≤250000000)(_hj:j≤250000000):Calls Tryz.prog 48 #[va,vb] W (Aj (Ap (x*y)) W):=by
 by_cases h1:(x.den:Int)=1
 ·by_cases h2:(y.den:Int)=1
  ·exact Abi va vb W hva hvb sx sy _hi _hj h1 h2
  ·exact wV va vb W hva hvb sx sy _hi _hj h1 h2
 ·exact xV va vb W hva hvb sx sy _hi _hj h1
theorem JN{x:Rat}{i:Nat}(va:Value)(W:World)(hva:(Ap x).p va W)(sx:A7 x i)(_hi:i≤250000000):Calls Tryz.prog 95 #[va] W (Aj (Am (.int .i64 (Int.sign x.num))) W):=by
  let E:List PF:=[(Ap x),(Af x.num),(Am (.int .i64 (Int.sign x.num)))]
  let EB:List CF:=[(Ba x)]
  exact Az (E:=E) (EB:=EB) (fs:=[(.ref 0)]) (r:=(.ref 2))
   { calls:=[c1 114 (.ref 1) (.ref 2) λw v0 hb h0=>tA h0 sx.1 (by first | decide | assumption | omega)],
     loads:=[⟨34,0,0,(.ref 1),λw q h=>Bp w q h⟩],
     boxes:=[⟨36,(.ref 0),0,λw v h=>AS w v h⟩],
     flds:=[⟨36,0,0,DW⟩] }
   Tryz.func95 ⟨hva,trivial⟩ (by kernel_rfl)
theorem ZX{x:Rat}{i:Nat}(va:Value)(W:World)(hva:(Ap x).p va W)(sx:A7 x i)(_hi:i≤250000000)(nx:x.num<0):Calls Tryz.prog 122 #[va] W (Aj (Ap x⁻¹) W):=by
  let E:List PF:=[(Ap x),(Am (.int .i64 (Int.sign x.num))),(Af (x.den:Int)),(Af (-(x.den:Int))),(Af x.num),(Af (-x.num)),(Ap x⁻¹)]
  let EB:List CF:=[(Ba x),Bb,(Ba x⁻¹)]
  exact Az (E:=E) (EB:=EB) (fs:=[(.ref 0)]) (r:=(.ref 6))
   { pures:=[p2 (.bin .lss 3 3) (.ref 1) (.int .i64 0) (.bool true) λ_ _ _ _ _ hx hy=>Gb (r:=true) (by rw [Int.sign_eq_neg_one_of_neg nx]; rfl) hx hy,
      p2 (.bld 36 [0,1]) (.ref 3) (.ref 5) (.ref 6) λ_ _ _ _ _ hx hy=>Bq (LU x nx).1.symm (LU x nx).2.symm hx hy],
     calls:=[c1 95 (.ref 0) (.ref 1) λw v0 hb h0=>JN _ _ h0 sx (by omega),
      c1 87 (.ref 2) (.ref 3) λw v0 hb h0=>xF h0 sx.2 (by first | decide | assumption | omega),
      c1 87 (.ref 4) (.ref 5) λw v0 hb h0=>xF h0 sx.1 (by first | decide | assumption | omega)],
     loads:=[⟨36,0,0,(.ref 0),λw q h=>AH w q h⟩,
      ⟨34,2,0,(.ref 2),λw q h=>Bw w q h⟩,
      ⟨34,0,0,(.ref 4),λw q h=>Bp w q h⟩,
      ⟨36,0,2,(.ref 6),λw q h=>AH w q h⟩],
     allocs:=[⟨36,1,_,AN,AM⟩],
     boxes:=[⟨36,(.ref 0),0,λw v h=>AS w v h⟩],
     stores:=[⟨36,0,1,(.ref 6),2,AG⟩],
     flds:=[⟨36,1,2,E9⟩,
      ⟨36,0,0,DW⟩] }
   Tryz.func122 ⟨hva,trivial⟩ (by kernel_rfl)
theorem fA{x:Rat}{i:Nat}(va:Value)(W:World)(hva:(Ap x).p va W)(sx:A7 x i)(_hi:i≤250000000)(nx:0<x.num):Calls Tryz.prog 122 #[va] W (Aj (Ap x⁻¹) W):=by
  let E:List PF:=[(Ap x),(Am (.int .i64 (Int.sign x.num))),(Af (x.den:Int)),(Af x.num),(Ap x⁻¹)]
  let EB:List CF:=[(Ba x),Bb,(Ba x⁻¹)]
  exact Az (E:=E) (EB:=EB) (fs:=[(.ref 0)]) (r:=(.ref 4))
   { pures:=[p2 (.bin .lss 3 3) (.ref 1) (.int .i64 0) (.bool false) λ_ _ _ _ _ hx hy=>Gb (r:=false) (by rw [Int.sign_eq_one_of_pos nx]; rfl) hx hy,
      p2 (.bld 36 [0,1]) (.ref 2) (.ref 3) (.ref 4) λ_ _ _ _ _ hx hy=>Bq (Lr x nx).1.symm (Lr x nx).2.symm hx hy],
     calls:=[c1 95 (.ref 0) (.ref 1) λw v0 hb h0=>JN _ _ h0 sx (by omega)],
     loads:=[⟨36,0,0,(.ref 0),λw q h=>AH w q h⟩,
      ⟨34,2,0,(.ref 2),λw q h=>Bw w q h⟩,
      ⟨34,0,0,(.ref 3),λw q h=>Bp w q h⟩,
      ⟨36,0,2,(.ref 4),λw q h=>AH w q h⟩],
     allocs:=[⟨36,1,_,AN,AM⟩],
     boxes:=[⟨36,(.ref 0),0,λw v h=>AS w v h⟩],
     stores:=[⟨36,0,1,(.ref 4),2,AG⟩],
     flds:=[⟨36,1,2,E9⟩,
      ⟨36,0,0,DW⟩] }
   Tryz.func122 ⟨hva,trivial⟩ (by kernel_rfl)
theorem Sq{x:Rat}{i:Nat}(va:Value)(W:World)(hva:(Ap x).p va W)(sx:A7 x i)(_hi:i≤250000000):Calls Tryz.prog 56 #[va] W (Aj (Ap (-x)) W):=by
  let E:List PF:=[(Ap x),(Af x.num),(Af (-x.num)),(Af (x.den:Int)),(Ap (-x))]
  let EB:List CF:=[(Ba x),Bb,(Ba (-x))]
  exact Az (E:=E) (EB:=EB) (fs:=[(.ref 0)]) (r:=(.ref 4))
   { pures:=[p2 (.bld 36 [0,1]) (.ref 2) (.ref 3) (.ref 4) λ_ _ _ _ _ hx hy=>Bq (Rat.neg_num x).symm (by rw [Rat.neg_den]) hx hy],
     calls:=[c1 87 (.ref 1) (.ref 2) λw v0 hb h0=>xF h0 sx.1 (by first | decide | assumption | omega)],
     loads:=[⟨34,0,0,(.ref 1),λw q h=>Bp w q h⟩,
      ⟨34,2,0,(.ref 3),λw q h=>Bw w q h⟩,
      ⟨36,0,2,(.ref 4),λw q h=>AH w q h⟩],
     allocs:=[⟨36,1,_,AN,AM⟩],
     boxes:=[⟨36,(.ref 0),0,λw v h=>AS w v h⟩],
     stores:=[⟨36,0,1,(.ref 4),2,AG⟩],
     flds:=[⟨36,0,0,DW⟩,
      ⟨36,1,2,E9⟩] }
   Tryz.func56 ⟨hva,trivial⟩ (by kernel_rfl)
theorem Tn{z:Int}(W:World)(hz0 : -9223372036854775808≤z)(hz1:z≤9223372036854775807):Calls Tryz.prog 47 #[.int .i64 z] W (Aj (Ap (z:Rat)) W):=by
  let E:List PF:=[(Am (.int .i64 z)),(Af z),(Af 1),(Ap ((z:Int):Rat))]
  let EB:List CF:=[Bb,(Ba ((z:Int):Rat))]
  exact Az (E:=E) (EB:=EB) (fs:=[(.ref 0)]) (r:=(.ref 3))
   { pures:=[p2 (.bld 36 [0,1]) (.ref 1) (.ref 2) (.ref 3) λ_ _ _ _ _ hx hy=>Bq (G_ z).1.symm (G_ z).2.symm hx hy],
     calls:=[c1 77 (.ref 0) (.ref 1) λw v0 hb h0=>kOf z hz0 hz1 h0,
      c1 77 (.int .i64 1) (.ref 2) λw v0 hb h0=>kOf 1 (by omega) (by omega) h0],
     loads:=[⟨36,0,1,(.ref 3),λw q h=>AH w q h⟩],
     allocs:=[⟨36,0,_,AN,AM⟩],
     stores:=[⟨36,0,0,(.ref 3),1,AG⟩] }
   Tryz.func47 ⟨rfl,trivial⟩ (by kernel_rfl)
def CS(x y:Rat)(k:Nat):Rat:=if k=0 then x else x+y
def Yy(w:World)(g:Nat)(y:Rat):Prop:=∃ b A k c b' A' k' c',w.heap[g]? = some (.cells #[.bool b,.slice A k c,.bool b',.slice A' k' c'] 36 (0,0))∧BR w (.agg #[.bool b,.slice A k c,.bool b',.slice A' k' c']) y.num (y.den:Int)
theorem Aak{ρ:Operand→Value}{w:World}{x:Operand}{A:Option Addr}{k c:Nat}(hx:(Am (.slice A k c)).p (ρ x) w):Fr (.call { callee:=.builtin .len,args:=#[x],argTypes:=#[40] }) ρ w (Am (.int .i64 k)):=by
 have hx:ρ x = .slice A k c:=hx;exact BN λo ho=>by unfold execOp; rw [ho]; simp [go_sem,hx]
theorem kU{ρ:Operand→Value}{w:World}{x y:Operand}{g k:Nat}(hk:k<1)(hx:(Am (.slice (some ⟨g,0,none⟩) 1 1)).p (ρ x) w)(hy:(Am (.int .i64 (k:Int))).p (ρ y) w):Fr (.indexAddr 40 x y) ρ w (Am (.pointer (some ⟨g,0,none⟩))):=by
 have e:k=0:=by omega
 subst e;have hx:ρ x = .slice (some ⟨g,0,none⟩) 1 1:=hx;have hy:ρ y = .int .i64 0:=hy;exact BN λo ho=>by unfold execOp; rw [ho]; simp [go_sem,hx,hy]
section
variable {ops : Array Oper} {N : Nat} {Wb W0 : World} {a0 : Act} {F : List PF} {BX : List Bh} {AD : List (Nat × Nat × Nat)} {i : Nat} {g : Option (Nat × Bool)}
theorem Ys(hP:Es ops N BX AD){x:Operand}{r:Nat}{y:Rat}(ho:CU ops i g (.load 36 x))(hp:BC BX i=true)(hna:Di AD i=true)(hg:Mg ops N Wb W0 a0 F BX AD i g true)(hx:QJ ops N Wb W0 a0 F BX AD i x (Am (.pointer (some ⟨r,0,none⟩))))
  (hr:Yy Wb r y) (hF:F.getD i BZ=Ap y):CM ops N Wb W0 a0 F BX AD i:=
 CV hP ho hp hna λm a w hI hrd=>by
  have e:a.eval x = .pointer (some ⟨r,0,none⟩):=hx m a w hI hrd;obtain ⟨b,A,k,c,b',A',k',c',hh,hq⟩:=hr;have hh':=(hI.below.block r (AI hh)).trans hh;obtain ⟨e0,e1,e2,e3⟩:=D0 hh';refine ⟨hg m a w hI hrd,.agg #[.bool b,.slice A k c,.bool b',.slice A' k' c'],w,λo ho=>?_,Below.refl _ _,by rw [hF]; exact hq.grow (Bl.of_below hI.below)⟩;unfold execOp;rw [ho];show Sem.run _ (Instr.loadAt 36 (a.eval x) >>= λx=>pure (Next.value x)) w=_;rw [e];exact Cs (by simp [go_sem,e0,e1,e2,e3])
end
theorem gD{x y:Rat}{i j k:Nat}{va vb:Value}{w:World}(ha:(Ap (CS x y k)).p va w)(hb:(Ap y).p vb w)(sx:A7 x i)(sy:A7 y j)(hi:i≤100000000)(hj:j≤100000000)(hlt:k<1):Calls Tryz.prog 123 #[va,vb] w (Aj (Ap (CS x y (k+1))) w):=by
 have e:k=0:=by omega
 subst e;exact Zy va vb w ha hb sx sy (by omega) (by omega)
noncomputable def O8:=C8 Tryz.f116
noncomputable def UN:=cl O8
noncomputable def Mq:=cr O8
theorem Aau:O8 = .seq UN Mq:=by kernel_rfl
noncomputable def eU:=A8 UN
theorem yL:UN = .region 0 eU false:=by kernel_rfl
noncomputable def TS:=cl Mq
noncomputable def Ms:=cr Mq
theorem AaB:Mq = .seq TS Ms:=by kernel_rfl
noncomputable def eM:=A8 TS
theorem yA:TS = .region 1 eM false:=by kernel_rfl
noncomputable def Qs:=cl Ms
noncomputable def L7:=cr Ms
theorem AaJ:Ms = .seq Qs L7:=by kernel_rfl
noncomputable def UL:=cl Qs
noncomputable def O_:=cr Qs
theorem zO:Qs = .seq UL O_:=by kernel_rfl
noncomputable def aP:=A8 UL
theorem AaI:UL = .region 2 aP false:=by kernel_rfl
noncomputable def PM:=cl O_
theorem vU:O_ = .block 0 PM:=by kernel_rfl
noncomputable def IG:=cl PM
theorem zU:PM = .loop IG:=by kernel_rfl
noncomputable def Oo:=cl IG
noncomputable def G5:=cr IG
theorem VM:IG = .seq Oo G5:=by kernel_rfl
noncomputable def Ud:=A8 Oo
theorem Vj:Oo = .region 3 Ud false:=by kernel_rfl
noncomputable def KG:=cl G5
noncomputable def Je:=cr G5
theorem W_:G5 = .seq KG Je:=by kernel_rfl
noncomputable def Oy:=cl KG
noncomputable def OZ:=cr KG
theorem Ws:KG = .cond (.tmp 12) Oy OZ:=by kernel_rfl
theorem nC:Oy = .skip:=by kernel_rfl
theorem qH:OZ = .exit 0:=by kernel_rfl
noncomputable def PV:=cl Je
noncomputable def La:=cr Je
theorem lA:Je = .seq PV La:=by kernel_rfl
noncomputable def Iu:=cl PV
theorem lM:PV = .block 1 Iu:=by kernel_rfl
noncomputable def PJ:=cl Iu
noncomputable def Ky:=cr Iu
theorem nT:Iu = .seq PJ Ky:=by kernel_rfl
noncomputable def Ge:=A8 PJ
theorem pQ:PJ = .region 4 Ge false:=by kernel_rfl
noncomputable def gQ:=A8 Ky
theorem lU:Ky = .region 5 gQ false:=by kernel_rfl
noncomputable def jN:=A8 La
theorem mH:La = .region 6 jN false:=by kernel_rfl
noncomputable def Qp:=cl L7
noncomputable def OI:=cr L7
theorem AaT:L7 = .seq Qp OI:=by kernel_rfl
noncomputable def iE:=A8 Qp
theorem pD:Qp = .region 7 iE false:=by kernel_rfl
theorem rG:OI = .ret:=by kernel_rfl
section
set_option linter.unusedSectionVars false
variable {Wb : World} {x y : Rat} {i j r : Nat} (sx : A7 x i) (sy : A7 y j) (hi : i ≤ 100000000) (hj : j ≤ 100000000) (hr : Yy Wb r y)
include sx sy hi hj hr
theorem Aa3:RA 20 [(Ap x),(Am (.slice (some ⟨r,0,none⟩) 1 1))] [(Ba x),Bb] ⟨[(0,(.ref 0)),(1,(.ref 1))],[]⟩ ⟨[(0,(.ref 0)),(1,(.ref 1))],[(2,0),(4,1)]⟩ Wb 0 eU false:=RA.of
   { allocs:=[⟨36,1,_,AN,AM⟩],
     boxes:=[⟨36,(.ref 0),0,λw v h=>AS w v h⟩] } (by kernel_rfl)
theorem Aa7:RA 20 [(Ap x),(Am (.slice (some ⟨r,0,none⟩) 1 1))] [(Ba x),Bb] ⟨[(0,(.ref 0)),(1,(.ref 1))],[(2,0),(4,1)]⟩ ⟨[(0,(.ref 0)),(1,(.ref 1))],[(2,0),(4,1),(5,0)]⟩ Wb 1 eM false:=RA.of
   { loads:=[⟨36,0,0,(.ref 0),λw q h=>AH w q h⟩],
     allocs:=[⟨36,1,_,AN,AM⟩],
     stores:=[⟨36,0,1,(.ref 0),0,AG⟩] } (by kernel_rfl)
theorem AaQ:RA 20 [(Am (.slice (some ⟨r,0,none⟩) 1 1)),(Am (.int .i64 ((1:Nat):Int))),(Ap x)] [(Ba x),Bb] ⟨[(0,(.ref 2)),(1,(.ref 0))],[(2,0),(4,1),(5,0)]⟩ ⟨[(0,(.ref 2)),(1,(.ref 0)),(9,(.ref 0)),(10,(.ref 1)),(11,(.int .i64 0))],[(2,0),(4,1),(5,0)]⟩ Wb 2 aP false:=RA.of
   { pures:=[p1 (.blt .len [40]) (.ref 0) (.ref 1) λ_ _ _ _ hx=>Aak hx] } (by kernel_rfl)
theorem vV{k:Nat}(hlt:k<1):RA 20 [(Am (.int .i64 ((k:Nat):Int))),(Am (.int .i64 ((1:Nat):Int))),(Ap x),(Am (.slice (some ⟨r,0,none⟩) 1 1))] [(Ba x),Bb,(Ba (CS x y k))] ⟨[(0,(.ref 2)),(1,(.ref 3)),(9,(.ref 3)),(10,(.ref 1)),(11,(.ref 0))],[(2,0),(4,1),(5,2)]⟩ ⟨[(0,(.ref 2)),(1,(.ref 3)),(9,(.ref 3)),(10,(.ref 1)),(11,(.ref 0)),(12,(.bool true))],[(2,0),(4,1),(5,2)]⟩ Wb 3 Ud false:=RA.of
   { pures:=[p2 (.bin .lss 3 3) (.ref 0) (.ref 1) (.bool true) λ_ _ _ _ _ hx hy=>Gb (r:=true) (by simp; omega) hx hy] } (by kernel_rfl)
end
theorem xA{Q:Exit→Act→World→Prop}{Wb W0:World}{a0:Act}{x y:Rat}{i j r:Nat}(_sx:A7 x i)(_sy:A7 y j)(_hi:i≤100000000)(_hj:j≤100000000)(hr:Yy Wb r y){k:Nat}(hlt:k<1)(hst:St Wb 20 [(0,(Ap x)),(1,(Am (.slice (some ⟨r,0,none⟩) 1 1))),(9,(Am (.slice (some ⟨r,0,none⟩) 1 1))),(10,(Am (.int .i64 ((1:Nat):Int)))),(11,(Am (.int .i64 ((k:Nat):Int)))),(12,(Am (.bool true)))] [(2,(Ba x)),(4,Bb),(5,(Ba (CS x y k)))] a0 W0)
  (fin:∀ a w,St Wb 20 [(0,(Ap x)),(1,(Am (.slice (some ⟨r,0,none⟩) 1 1))),(9,(Am (.slice (some ⟨r,0,none⟩) 1 1))),(10,(Am (.int .i64 ((1:Nat):Int)))),(11,(Am (.int .i64 ((k:Nat):Int)))),(12,(Am (.bool true)))] [(2,(Ba x)),(4,Bb),(5,(Ba (CS x y k))),(7,(Ba y))] a w→Q .normal a w):(Code.region 4 Ge false).wp Tryz.prog Q a0 W0:=by
 have hP:Es Ge 20 ([⟨2,none,none,(Ba x),(Ba x)⟩,⟨4,none,none,Bb,Bb⟩,⟨5,none,none,(Ba (CS x y k)),(Ba (CS x y k))⟩,⟨7,some 2,some 3,Bb,(Ba y)⟩]:List Bh) []:=⟨by kernel_rfl,by kernel_rfl,by kernel_rfl,by kernel_rfl,by kernel_rfl,by kernel_rfl⟩;refine Ns (F:=[(Am (.pointer (some ⟨r,0,none⟩))),(Ap y),BZ,BZ]) hP hst rfl rfl ?_ ?_ fin
 ·show Lu Ge 20 Wb W0 a0 _ _ _ 4
  refine FE (k:=3) ?_ (Vz (i:=3) 3 _ (KM (by kernel_rfl):CU Ge 3 none (.store 36 (.tmp 7) (.tmp 14))) (by kernel_rfl) rfl rfl rfl (by kernel_rfl) (by kernel_rfl) (by kernel_rfl) (TN (f:=(Ap y)) 1 (by kernel_rfl) (by kernel_rfl) rfl) AG);refine FE (k:=2) ?_ (Vt (i:=2) (d:=7) hP 3 _ (KM (by kernel_rfl):CU Ge 2 none (.alloc 36)) (by kernel_rfl) rfl rfl rfl (by kernel_rfl) (by kernel_rfl) (by kernel_rfl) (by kernel_rfl) rfl AN AM);refine FE (k:=1) ?_ (Ys (i:=1) hP (g:=none) (KM (by kernel_rfl):CU Ge 1 none (.load 36 (.tmp 13))) (by kernel_rfl) (by kernel_rfl) (Lw) (TN (f:=(Am (.pointer (some ⟨r,0,none⟩)))) 0 (by kernel_rfl) (by kernel_rfl) rfl) hr rfl);refine FE (k:=0) ?_ (AdK (i:=0) hP (g:=none) (KM (by kernel_rfl):CU Ge 0 none (.indexAddr 40 (.tmp 9) (.tmp 11))) (by kernel_rfl) (by kernel_rfl) (Lw) (O9 hst 2 rfl (by kernel_rfl)) (O9 hst 4 rfl (by kernel_rfl)) (λρ w hx hy=>kU hlt hx hy) rfl);exact XX
 ·intro m a w hI hm
  exact ⟨(Em hst 0 rfl (by kernel_rfl) hI),(Em hst 1 rfl (by kernel_rfl) hI),(Em hst 2 rfl (by kernel_rfl) hI),(Em hst 3 rfl (by kernel_rfl) hI),(Em hst 4 rfl (by kernel_rfl) hI),(Em hst 5 rfl (by kernel_rfl) hI),trivial⟩
section
set_option linter.unusedSectionVars false
variable {Wb : World} {x y : Rat} {i j r : Nat} (sx : A7 x i) (sy : A7 y j) (hi : i ≤ 100000000) (hj : j ≤ 100000000) (hr : Yy Wb r y)
include sx sy hi hj hr
theorem vT{k:Nat}(hlt:k<1):RA 20 [(Ap (CS x y k)),(Ap y),(Ap (CS x y (k+1))),(Ap x),(Am (.slice (some ⟨r,0,none⟩) 1 1)),(Am (.int .i64 ((1:Nat):Int))),(Am (.int .i64 ((k:Nat):Int)))] [(Ba (CS x y k)),(Ba y),(Ba (CS x y (k+1))),(Ba x),Bb] ⟨[(0,(.ref 3)),(1,(.ref 4)),(9,(.ref 4)),(10,(.ref 5)),(11,(.ref 6)),(12,(.bool true))],[(2,3),(4,4),(5,0),(7,1)]⟩ ⟨[(0,(.ref 3)),(1,(.ref 4)),(9,(.ref 4)),(10,(.ref 5)),(11,(.ref 6)),(12,(.bool true))],[(2,3),(4,4),(5,2),(7,1)]⟩ Wb 5 gQ false:=RA.of
   { calls:=[c2 123 (.ref 0) (.ref 1) (.ref 2) λw v0 v1 hb h0 h1=>gD h0 h1 sx sy (by omega) (by omega) hlt],
     loads:=[⟨36,0,0,(.ref 0),λw q h=>AH w q h⟩,
      ⟨36,0,1,(.ref 1),λw q h=>AH w q h⟩],
     stores:=[⟨36,0,0,(.ref 2),2,S9⟩] } (by kernel_rfl)
theorem Aaq{k:Nat}(hlt:k<1):RA 20 [(Am (.int .i64 ((k:Nat):Int))),(Am (.int .i64 ((k+1:Nat):Int))),(Ap x),(Am (.slice (some ⟨r,0,none⟩) 1 1)),(Am (.int .i64 ((1:Nat):Int)))] [(Ba x),Bb,(Ba (CS x y (k+1))),(Ba y)] ⟨[(0,(.ref 2)),(1,(.ref 3)),(9,(.ref 3)),(10,(.ref 4)),(11,(.ref 0)),(12,(.bool true))],[(2,0),(4,1),(5,2),(7,3)]⟩ ⟨[(0,(.ref 2)),(1,(.ref 3)),(9,(.ref 3)),(10,(.ref 4)),(11,(.ref 1)),(12,(.bool true))],[(2,0),(4,1),(5,2),(7,3)]⟩ Wb 6 jN false:=RA.of
   { pures:=[p2 (.bin .add 3 3) (.ref 0) (.int .i64 1) (.ref 1) λ_ _ _ _ _ hx hy=>tE (z:=((k+1:Nat):Int)) (by rw [IntKind.wrap_i64]; omega) hx hy] } (by kernel_rfl)
theorem oL{k:Nat}(hlt:¬ k<1):RA 20 [(Am (.int .i64 ((k:Nat):Int))),(Am (.int .i64 ((1:Nat):Int))),(Ap x),(Am (.slice (some ⟨r,0,none⟩) 1 1))] [(Ba x),Bb,(Ba (CS x y k))] ⟨[(0,(.ref 2)),(1,(.ref 3)),(9,(.ref 3)),(10,(.ref 1)),(11,(.ref 0))],[(2,0),(4,1),(5,2)]⟩ ⟨[(0,(.ref 2)),(1,(.ref 3)),(9,(.ref 3)),(10,(.ref 1)),(11,(.ref 0)),(12,(.bool false))],[(2,0),(4,1),(5,2)]⟩ Wb 3 Ud false:=RA.of
   { pures:=[p2 (.bin .lss 3 3) (.ref 0) (.ref 1) (.bool false) λ_ _ _ _ _ hx hy=>Gb (r:=false) (by simp; omega) hx hy] } (by kernel_rfl)
theorem Abf:RA 20 [(Ap (CS x y 1)),(Ap x),(Am (.slice (some ⟨r,0,none⟩) 1 1)),(Am (.int .i64 ((1:Nat):Int)))] [(Ba (CS x y 1)),Bb,(Ba x)] ⟨[(0,(.ref 1)),(1,(.ref 2)),(9,(.ref 2)),(10,(.ref 3)),(11,(.ref 3)),(12,(.bool false))],[(2,2),(4,1),(5,0)]⟩ ⟨[(0,(.ref 1)),(1,(.ref 2)),(9,(.ref 2)),(10,(.ref 3)),(11,(.ref 3)),(12,(.bool false))],[(2,2),(4,0),(5,0)]⟩ Wb 7 iE false:=RA.of
   { loads:=[⟨36,0,0,(.ref 0),λw q h=>AH w q h⟩],
     stores:=[⟨36,0,1,(.ref 0),0,AG⟩] } (by kernel_rfl)
end
theorem nS{x y:Rat}{i j r:Nat}(va:Value)(W:World)(ha:(Ap x).p va W)(sx:A7 x i)(sy:A7 y j)(hi:i≤100000000)(hj:j≤100000000)(hr:Yy W r y) :
  Calls Tryz.prog 116 #[va,.slice (some ⟨r,0,none⟩) 1 1] W (Aj (Ap (x+y)) W):=by
 refine Db (S:=[(0,(Ap x)),(1,(Am (.slice (some ⟨r,0,none⟩) 1 1)))]) Tryz.func116 (by kernel_rfl) Tryz.ntmps116 (by simp) (λx hx=>?_) λa w hst=>?_
 ·simp only [List.mem_cons,List.not_mem_nil,or_false] at hx
  rcases hx with rfl | rfl
  ·exact ⟨_,rfl,ha⟩
  ·exact ⟨_,rfl,rfl⟩
 show Code.wp _ O8 _ a w;rw [Aau];refine wp_seq ?_;rw [yL];refine (Aa3 sx sy hi hj hr).run hst ?_;clear hst;intro a w hst;show Code.wp _ Mq _ a w;rw [AaB];refine wp_seq ?_;rw [yA];refine (Aa7 sx sy hi hj hr).run hst ?_;clear hst;intro a w hst;show Code.wp _ Ms _ a w;rw [AaJ];refine wp_seq ?_;rw [zO];refine wp_seq ?_;rw [AaI];refine (AaQ sx sy hi hj hr).run hst ?_;clear hst;intro a w hst;show Code.wp _ O_ _ a w;rw [vU];refine wp_block ?_;show Code.wp _ PM _ a w;rw [zU];refine CB (fun (k:Nat) a w=>St W 20 [(0,(Ap x)),(1,(Am (.slice (some ⟨r,0,none⟩) 1 1))),(9,(Am (.slice (some ⟨r,0,none⟩) 1 1))),(10,(Am (.int .i64 ((1:Nat):Int)))),(11,(Am (.int .i64 ((k:Nat):Int))))] [(2,(Ba x)),(4,Bb),(5,(Ba (CS x y k)))] a w∧k≤1) (λk=>1 - k) ?_ (0:Nat) ⟨hst,Nat.zero_le _⟩;intro k a w ⟨hst,hk⟩;show Code.wp _ IG _ a w
 by_cases hlt:k<1
 ·rw [VM]
  refine wp_seq ?_;rw [Vj];refine (vV sx sy hi hj hr hlt).run hst ?_;clear hst;intro a w hst;show Code.wp _ G5 _ a w;rw [W_];refine wp_seq ?_;rw [Ws];refine wp_cond_true (AZ hst 5 rfl) ?_;show Code.wp _ Oy _ a w;rw [nC];refine wp_skip ?_;show Code.wp _ Je _ a w;rw [lA];refine wp_seq ?_;rw [lM];refine wp_block ?_;show Code.wp _ Iu _ a w;rw [nT];refine wp_seq ?_;rw [pQ];refine xA sx sy hi hj hr hlt hst ?_;clear hst;intro a w hst;show Code.wp _ Ky _ a w;rw [lU];refine (vT sx sy hi hj hr hlt).run hst ?_;clear hst;intro a w hst;show Code.wp _ La _ a w;rw [mH];refine (Aaq sx sy hi hj hr hlt).run hst ?_;clear hst;intro a w hst;exact ⟨k+1,⟨((hst.to (S':=[(0,(Ap x)),(1,(Am (.slice (some ⟨r,0,none⟩) 1 1))),(9,(Am (.slice (some ⟨r,0,none⟩) 1 1))),(10,(Am (.int .i64 ((1:Nat):Int)))),(11,(Am (.int .i64 (((k+1):Nat):Int))))]) ⟨hst.slots.get (k:=0) rfl,hst.slots.get (k:=1) rfl,hst.slots.get (k:=2) rfl,hst.slots.get (k:=3) rfl,hst.slots.get (k:=4) rfl,trivial⟩).firstB 3),by omega⟩,by omega⟩
 ·rw [VM]
  refine wp_seq ?_;rw [Vj];refine (oL sx sy hi hj hr hlt).run hst ?_;clear hst;intro a w hst;show Code.wp _ G5 _ a w;rw [W_];refine wp_seq ?_;rw [Ws];refine wp_cond_false (AZ hst 5 rfl) ?_;show Code.wp _ OZ _ a w;rw [qH];refine wp_exit ?_;have e:k=1:=by omega
  subst e;show Code.wp _ L7 _ a w;rw [AaT];refine wp_seq ?_;rw [pD];refine (Abf sx sy hi hj hr).run hst ?_;clear hst;intro a w hst;show Code.wp _ OI _ a w;rw [rG];refine wp_ret ?_;exact Z3 hst rfl 1 rfl
theorem BR.open_{w:World}{v:Value}{n d:Int}(h:BR w v n d):∃ b A k c b' A' k' c',v = .agg #[.bool b,.slice A k c,.bool b',.slice A' k' c']∧Hid (BR w (.agg #[.bool b,.slice A k c,.bool b',.slice A' k' c']) n d):=by
 obtain ⟨b,A,k,c,b',A',k',c',rfl,h1,h2⟩:=h;exact ⟨b,A,k,c,b',A',k',c',rfl,⟨b,A,k,c,b',A',k',c',rfl,h1,h2⟩⟩
theorem BR.into{w w':World}{v:Value}{n d:Int}(h:BR w v n d)(hb:Below w.heap.size w w'):BR w' v n d:=h.grow (Bl.of_below hb)
theorem gU{w w1:World}{g:Nat}{x0 x1 x2 x3:Value}{b b':Bool}{A A':Option Addr}{k c k' c':Nat}{n d:Int}{B:Nat}(hh:w1.heap[g]? = some (.cells #[x0,x1,x2,x3] 36 (0,0)))(hB:Below B w w1)(hg:B≤g)(hp:BR w1 (.agg #[.bool b,.slice A k c,.bool b',.slice A' k' c']) n d) :
  BR ((((w1.setCell ⟨g,0,none⟩ (.bool b)).setCell ⟨g,1,none⟩ (.slice A k c)).setCell ⟨g,2,none⟩ (.bool b')).setCell ⟨g,3,none⟩ (.slice A' k' c')) (.agg #[.bool b,.slice A k c,.bool b',.slice A' k' c']) n d ∧
  Below B w ((((w1.setCell ⟨g,0,none⟩ (.bool b)).setCell ⟨g,1,none⟩ (.slice A k c)).setCell ⟨g,2,none⟩ (.bool b')).setCell ⟨g,3,none⟩ (.slice A' k' c')):=by
 have hne:(36:TypeId)≠114:=by decide
 have g0:=Bl.set hh hne 0 (.bool b);have b0:=Ax hh 0 (.bool b);have g1:=Bl.set b0 hne 1 (.slice A k c);have b1:=Ax b0 1 (.slice A k c);have g2:=Bl.set b1 hne 2 (.bool b');have b2:=Ax b1 2 (.bool b');have g3:=Bl.set b2 hne 3 (.slice A' k' c');exact ⟨hp.grow (((g0.trans g1).trans g2).trans g3),(((hB.setCell hg _).setCell hg _).setCell hg _).setCell hg _⟩
theorem I8{w w1:World}{g:Nat}{x0 x1 x2 x3:Value}(hh:w.heap[g]? = some (.cells #[x0,x1,x2,x3] 36 (0,0)))(hb:Below w.heap.size w w1):w1.cell? ⟨g,0,none⟩=some x0∧w1.cell? ⟨g,1,none⟩=some x1∧w1.cell? ⟨g,2,none⟩=some x2∧w1.cell? ⟨g,3,none⟩=some x3:=by
 have:=(hb.block g (AI hh)).trans hh;exact D0 this
theorem bR{w:World}{b b':Bool}{A A':Option Addr}{k c k' c':Nat}{y:Rat}(h:BR w (.agg #[.bool b,.slice A k c,.bool b',.slice A' k' c']) y.num (y.den:Int)):Yy (w.alloc (Obj.cells #[.bool b,.slice A k c,.bool b',.slice A' k' c'] 36)) w.heap.size y:=
 ⟨_,_,_,_,_,_,_,_,heap_alloc_new w _,h.into (Ai w _)⟩
theorem QU{w:World}{g g':Nat}(hne:g'≠g)(i:Nat)(u0 u1 u2 u3:Value){x:Value}(h:w.cell? ⟨g,i,none⟩=some x):((((w.setCell ⟨g',0,none⟩ u0).setCell ⟨g',1,none⟩ u1).setCell ⟨g',2,none⟩ u2).setCell ⟨g',3,none⟩ u3).cell? ⟨g,i,none⟩=some x:=by
 rw [World.cell?_setCell_far _ _ _ _ (by simpa using hne),World.cell?_setCell_far _ _ _ _ (by simpa using hne),World.cell?_setCell_far _ _ _ _ (by simpa using hne),World.cell?_setCell_far _ _ _ _ (by simpa using hne)];exact h
set_option maxHeartbeats 3200000 in
theorem cK{x y:Rat}{i j:Nat}(va vb:Value)(W:World)(ha:(Ap x).p va W)(hb:(Ap y).p vb W)(sx:A7 x i)(sy:A7 y j)(hi:i≤100000000)(hj:j≤100000000):Calls Tryz.prog 100 #[va,vb] W (Aj (Ap (x - y)) W):=by
  obtain ⟨b,A,k,c,b',A',k',c',rfl,H⟩:=BR.open_ ha
  obtain ⟨e,D,l,f,e',D',l',f',rfl,K⟩:=BR.open_ hb
  rw [Rat.sub_eq_add_neg]
  have SX:=Lib.hid sx
  have SY:=Lib.hid sy
  have HH:=Lib.hid (Ey W (.cells #[.bool b,.slice A k c,.bool b',.slice A' k' c'] 36) (.cells #[.bool e,.slice D l f,.bool e',.slice D' l' f'] 36) (.cells #[.bool false,.slice none 0 0,.bool false,.slice none 0 0] 36))
  have HW:=Lib.hid (DE W (.cells #[.bool b,.slice A k c,.bool b',.slice A' k' c'] 36) (.cells #[.bool e,.slice D l f,.bool e',.slice D' l' f'] 36) (.cells #[.bool false,.slice none 0 0,.bool false,.slice none 0 0] 36))
  obtain ⟨a0,a1,a2,a3⟩:=I8 HH.out.1 (Below.refl _ _)
  obtain ⟨b0,b1,b2,b3⟩:=I8 HH.out.2.1 (Below.refl _ _)
  obtain ⟨c0,c1,c2,c3⟩:=I8 HH.out.2.2 (Below.refl _ _)
  clear ha hb sx sy
  go_enter Tryz.func100,Tryz.ntmps100
  go_wp2_with fail
  generalize (((W.alloc (.cells #[.bool b,.slice A k c,.bool b',.slice A' k' c'] 36)).alloc (.cells #[.bool e,.slice D l f,.bool e',.slice D' l' f'] 36)).alloc (.cells #[.bool false,.slice none 0 0,.bool false,.slice none 0 0] 36))=W3 at *
  have HELD:Hid (∀ w':World,Below W3.heap.size W3 w'→(w'.cell? ⟨W.heap.size,0,none⟩=some (.bool b)∧w'.cell? ⟨W.heap.size,1,none⟩=some (.slice A k c)∧w'.cell? ⟨W.heap.size,2,none⟩=some (.bool b')∧w'.cell? ⟨W.heap.size,3,none⟩=some (.slice A' k' c'))∧(w'.cell? ⟨W.heap.size+1,0,none⟩=some (.bool e)∧w'.cell? ⟨W.heap.size+1,1,none⟩=some (.slice D l f)∧w'.cell? ⟨W.heap.size+1,2,none⟩=some (.bool e')∧w'.cell? ⟨W.heap.size+1,3,none⟩=some (.slice D' l' f'))):=
    Lib.hid λw' hb=>⟨I8 HH.out.1 hb,I8 HH.out.2.1 hb⟩
  have HELD2:Hid (∀ w':World,Below W3.heap.size W3 w'→∀ u0 u1 u2 u3:Value,(((((w'.setCell ⟨W.heap.size+1+1,0,none⟩ u0).setCell ⟨W.heap.size+1+1,1,none⟩ u1).setCell ⟨W.heap.size+1+1,2,none⟩ u2).setCell ⟨W.heap.size+1+1,3,none⟩ u3).cell? ⟨W.heap.size,0,none⟩=some (.bool b)∧((((w'.setCell ⟨W.heap.size+1+1,0,none⟩ u0).setCell ⟨W.heap.size+1+1,1,none⟩ u1).setCell ⟨W.heap.size+1+1,2,none⟩ u2).setCell ⟨W.heap.size+1+1,3,none⟩ u3).cell? ⟨W.heap.size,1,none⟩=some (.slice A k c)∧((((w'.setCell ⟨W.heap.size+1+1,0,none⟩ u0).setCell ⟨W.heap.size+1+1,1,none⟩ u1).setCell ⟨W.heap.size+1+1,2,none⟩ u2).setCell ⟨W.heap.size+1+1,3,none⟩ u3).cell? ⟨W.heap.size,2,none⟩=some (.bool b')∧((((w'.setCell ⟨W.heap.size+1+1,0,none⟩ u0).setCell ⟨W.heap.size+1+1,1,none⟩ u1).setCell ⟨W.heap.size+1+1,2,none⟩ u2).setCell ⟨W.heap.size+1+1,3,none⟩ u3).cell? ⟨W.heap.size,3,none⟩=some (.slice A' k' c'))∧(((((w'.setCell ⟨W.heap.size+1+1,0,none⟩ u0).setCell ⟨W.heap.size+1+1,1,none⟩ u1).setCell ⟨W.heap.size+1+1,2,none⟩ u2).setCell ⟨W.heap.size+1+1,3,none⟩ u3).cell? ⟨W.heap.size+1,0,none⟩=some (.bool e)∧((((w'.setCell ⟨W.heap.size+1+1,0,none⟩ u0).setCell ⟨W.heap.size+1+1,1,none⟩ u1).setCell ⟨W.heap.size+1+1,2,none⟩ u2).setCell ⟨W.heap.size+1+1,3,none⟩ u3).cell? ⟨W.heap.size+1,1,none⟩=some (.slice D l f)∧((((w'.setCell ⟨W.heap.size+1+1,0,none⟩ u0).setCell ⟨W.heap.size+1+1,1,none⟩ u1).setCell ⟨W.heap.size+1+1,2,none⟩ u2).setCell ⟨W.heap.size+1+1,3,none⟩ u3).cell? ⟨W.heap.size+1,2,none⟩=some (.bool e')∧((((w'.setCell ⟨W.heap.size+1+1,0,none⟩ u0).setCell ⟨W.heap.size+1+1,1,none⟩ u1).setCell ⟨W.heap.size+1+1,2,none⟩ u2).setCell ⟨W.heap.size+1+1,3,none⟩ u3).cell? ⟨W.heap.size+1,3,none⟩=some (.slice D' l' f'))):=by
    refine Lib.hid λw' hb u0 u1 u2 u3=>?_
    obtain ⟨⟨h0,h1,h2,h3⟩,⟨k0,k1,k2,k3⟩⟩:=HELD.out w' hb
    exact ⟨⟨QU (by omega) 0 _ _ _ _ h0,QU (by omega) 1 _ _ _ _ h1,QU (by omega) 2 _ _ _ _ h2,QU (by omega) 3 _ _ _ _ h3⟩,⟨QU (by omega) 0 _ _ _ _ k0,QU (by omega) 1 _ _ _ _ k1,QU (by omega) 2 _ _ _ _ k2,QU (by omega) 3 _ _ _ _ k3⟩⟩
  have HWW:=Lib.hid (Below.refl W3.heap.size W3)
  go_region_held3 (λw'=>(w'.cell? ⟨W.heap.size,0,none⟩=some (.bool b)∧w'.cell? ⟨W.heap.size,1,none⟩=some (.slice A k c)∧w'.cell? ⟨W.heap.size,2,none⟩=some (.bool b')∧w'.cell? ⟨W.heap.size,3,none⟩=some (.slice A' k' c'))∧(w'.cell? ⟨W.heap.size+1,0,none⟩=some (.bool e)∧w'.cell? ⟨W.heap.size+1,1,none⟩=some (.slice D l f)∧w'.cell? ⟨W.heap.size+1,2,none⟩=some (.bool e')∧w'.cell? ⟨W.heap.size+1,3,none⟩=some (.slice D' l' f')))
    (first | (go_keep; done) | exact HELD.out _ HB1.out | exact HELD.out _ HB1.out.drew | exact HELD.out _ (Ab HB1.out (Ai _ _)) | exact HELD.out _ HB2.out | exact HELD.out _ HB2.out.drew | exact HELD2.out _ HB2.out _ _ _ _)
    (first
      | (go_at_call 56
         refine (Sq _ _ (K.out.into (by first | exact HW.out | exact HW.out.drew | exact HW.out.drew.drew)) SY.out (by omega)).mono ?_
         rintro z w1 ⟨v1,rfl,hv1,hb1⟩
         obtain ⟨p1,E1,m1,q1,p1',E1',m1',q1',rfl,V1⟩:=BR.open_ hv1
         have HB1:Hid (Below W3.heap.size W3 w1):=Ab (by first | exact HWW.out | exact HWW.out.drew | exact HWW.out.drew.drew) hb1
         clear hb1 hv1)
      | (go_at_call 116
         refine (nS _ _ (H.out.into (Ab HW.out (Ab HB1.out (Ai _ _)))) SX.out SY.out.neg (by omega) (by omega) (bR V1.out)).mono ?_
         rintro z w2 ⟨v2,rfl,hv2,hb2⟩
         obtain ⟨p,E,m,q,p',E',m',q',rfl,V⟩:=BR.open_ hv2
         have HB2:Hid (Below W3.heap.size W3 w2):=Ab (Ab HB1.out (Ai _ _)) hb2
         have hz1:=(HB2.out.block (W.heap.size+1+1) (AI HH.out.2.2)).trans HH.out.2.2
         obtain ⟨e0,e1,e2,e3⟩:=D0 hz1
         have f0:=AA hz1 0
         have f1:=AA hz1 1
         have f2:=AA hz1 2
         have f3:=AA hz1 3
         have HE:=Lib.hid (gU hz1 (Ab HW.out HB2.out) (by omega) V.out)
         clear hb2 hv2 hz1))
  go_wp2
  refine bodyPost_ret (v:=.agg #[.bool p,.slice E m q,.bool p',.slice E' m' q']) (by simp [results,Tryz.results100,go_sem,e0,e1,e2,e3]) rfl ⟨_,rfl,HE.out.1,HE.out.2⟩
section
variable {w : World} {va vb : Value} {x y : Rat} {i j : Nat}
theorem sN(ha:(Ap x).p va w)(hb:(Ap y).p vb w)(sx:A7 x i)(sy:A7 y j)(hi:i≤100000000)(hj:j≤100000000):Calls Tryz.prog 100 #[va,vb] w (Aj (Ap (x - y)) w):=cK va vb w ha hb sx sy hi hj
theorem Zk(ha:(Ap x).p va w)(hb:(Ap y).p vb w)(sx:A7 x i)(sy:A7 y j)(hi:i≤200000000)(hj:j≤200000000):Calls Tryz.prog 48 #[va,vb] w (Aj (Ap (x*y)) w):=Zj va vb w ha hb sx sy (by omega) (by omega)
theorem tW(ha:(Ap x).p va w)(sx:A7 x i)(hi:i≤200000000):Calls Tryz.prog 56 #[va] w (Aj (Ap (-x)) w):=Sq va w ha sx (by omega)
theorem PN(ha:(Ap x).p va w)(sx:A7 x i)(hi:i≤200000000):Calls Tryz.prog 95 #[va] w (Aj (Am (.int .i64 (Fp x 0))) w):=by
 rw [← R6]; exact JN va w ha sx (by omega)
theorem Adf(ha:(Ap x).p va w)(sx:A7 x i)(hi:i≤200000000)(nx:x≠0):Calls Tryz.prog 122 #[va] w (Aj (Ap x⁻¹) w):=by
 have hn:x.num≠0:=λh=>nx (Rat.num_eq_zero.1 h)
 rcases Int.lt_or_gt_of_ne hn with h | h
 ·exact ZX va w ha sx (by omega) h
 ·exact fA va w ha sx (by omega) h
theorem WF(z:Int)(h0 : -9223372036854775808≤z)(h1:z≤9223372036854775807)(hv:(Am (.int .i64 z)).p va w):Calls Tryz.prog 47 #[va] w (Aj (Ap (z:Rat)) w):=by
 have hv:va = .int .i64 z:=hv;rw [hv];exact Tn w h0 h1
end
section
variable {w : World} {va vb : Value} {x y : Int} {i j : Nat}
end
theorem qM{x:Rat}(h:x≠0):(Fp x 0 == 0)=false:=by
 unfold Fp;rw [if_neg h];split <;> rfl
theorem kY{x:Rat}(h:x=0):(Fp x 0 == 0)=true:=by subst h; decide
theorem WP(n d:Int)(hd:d<0):(Rat.divInt n d).num = -n / (Int.gcd (-n) (-d):Nat)∧((Rat.divInt n d).den:Int) = -d / (Int.gcd (-n) (-d):Nat):=by
 have h:=Mi (-n) (-d) (by omega);rwa [Rat.neg_divInt_neg] at h
theorem bQ{x y:Int}{i j:Nat}{va vb:Value}{w:World}(ha:(Af x).p va w)(hb:(Af y).p vb w)(sx:Sm x i)(sy:Sm y j)(hi:i≤400000000)(hj:j≤400000000):Calls Tryz.prog 111 #[va,vb] w (Aj (Af ((Int.gcd x y:Nat):Int)) w):=
 AcN ha hb (sx.mono (Nat.le_max_left i j)) (sy.mono (Nat.le_max_right i j)) (by omega)
theorem Ac6{x y:Int}{i j:Nat}(va:Value)(vb:Value)(W:World)(hva:(Af x).p va W)(hvb:(Af y).p vb W)(_sx:Sm x i)(sy:Sm y j)(_hi:i≤300000000)(_hj:j≤300000000)(ny:y=0):Calls Tryz.prog 90 #[va,vb] W (Aj (BT (CA 0 0) (Am (.int .i64 3))) W):=by
  let E:List PF:=[(Af x),(Af y),(Am (.int .i64 (Int.sign y))),(CA 0 0)]
  let EB:List CF:=[(Ak x),(Ak y),Bb,(Fy 0 0)]
  exact Az (E:=E) (EB:=EB) (fs:=[(.ref 0),(.ref 1)]) (r:=(.tup2 (.ref 3) (.int .i64 3)))
   { pures:=[p2 (.bin .eql 3 3) (.ref 2) (.int .i64 0) (.bool true) λ_ _ _ _ _ hx hy=>Co (r:=true) (by rw [ny]; rfl) hx hy,
      p0 (.bld 36 []) (.ref 3) λ_ _ _=>Np],
     calls:=[c1 63 (.ref 1) (.ref 2) λw v0 hb h0=>CR h0 sy (by first | decide | assumption | omega)],
     loads:=[⟨34,0,1,(.ref 1),λw q h=>Ah w q h⟩,
      ⟨36,0,3,(.ref 3),λw q h=>AH w q h⟩],
     allocs:=[⟨36,2,_,AN,AM⟩],
     boxes:=[⟨34,(.ref 0),0,λw v h=>AT w v h⟩,
      ⟨34,(.ref 1),1,λw v h=>AT w v h⟩],
     stores:=[⟨36,0,2,(.ref 3),3,AG⟩] }
   Tryz.func90 ⟨hva,hvb,trivial⟩ (by kernel_rfl)
theorem mW{x y:Int}{i j:Nat}(va:Value)(vb:Value)(W:World)(hva:(Af x).p va W)(hvb:(Af y).p vb W)(sx:Sm x i)(sy:Sm y j)(_hi:i≤300000000)(_hj:j≤300000000)(ny:0<y):Calls Tryz.prog 90 #[va,vb] W (Aj (BT (Ap (Rat.divInt x y)) (Am (.int .i64 0))) W):=by
  let E:List PF:=[(Af x),(Af y),(Am (.int .i64 (Int.sign y))),(Af ((Int.gcd x y:Nat):Int)),(Af (x / ((Int.gcd x y:Nat):Int))),(Af (x % ((Int.gcd x y:Nat):Int))),(Af (y / ((Int.gcd x y:Nat):Int))),(Af (y % ((Int.gcd x y:Nat):Int))),(Ap (Rat.divInt x y))]
  let EB:List CF:=[(Ak x),(Ak y),Bb,AQ,(Ak ((Int.gcd x y:Nat):Int)),(Ak (x / ((Int.gcd x y:Nat):Int))),(Ak (x % ((Int.gcd x y:Nat):Int))),(Ak (y / ((Int.gcd x y:Nat):Int))),(Ak (y % ((Int.gcd x y:Nat):Int))),(Ba (Rat.divInt x y))]
  exact Az (E:=E) (EB:=EB) (fs:=[(.ref 0),(.ref 1)]) (r:=(.tup2 (.ref 8) (.int .i64 0)))
   { pures:=[p2 (.bin .eql 3 3) (.ref 2) (.int .i64 0) (.bool false) λ_ _ _ _ _ hx hy=>Co (r:=false) (by rw [Int.sign_eq_one_of_pos ny]; rfl) hx hy,
      p2 (.bin .lss 3 3) (.ref 2) (.int .i64 0) (.bool false) λ_ _ _ _ _ hx hy=>Gb (r:=false) (by rw [Int.sign_eq_one_of_pos ny]; rfl) hx hy,
      p2 (.bld 36 [0,1]) (.ref 4) (.ref 6) (.ref 8) λ_ _ _ _ _ hx hy=>Bq (Mi x y ny).1.symm (Mi x y ny).2.symm hx hy],
     calls:=[c1 63 (.ref 1) (.ref 2) λw v0 hb h0=>CR h0 sy (by first | decide | assumption | omega),
      c2 111 (.ref 0) (.ref 1) (.ref 3) λw v0 v1 hb h0 h1=>bQ h0 h1 sx sy (by first | decide | assumption | omega) (by first | decide | assumption | omega),
      c2 112 (.ref 0) (.ref 3) (.tup3 (.ref 4) (.ref 5) (.int .i64 0)) λw v0 v1 hb h0 h1=>F7 h0 h1 sx (C2 sx sy) (by first | decide | assumption | omega) (by first | decide | assumption | omega) (P9 x (by omega)),
      c2 112 (.ref 1) (.ref 3) (.tup3 (.ref 6) (.ref 7) (.int .i64 0)) λw v0 v1 hb h0 h1=>F7 h0 h1 sy (C2 sx sy) (by first | decide | assumption | omega) (by first | decide | assumption | omega) (P9 x (by omega))],
     loads:=[⟨34,0,1,(.ref 1),λw q h=>Ah w q h⟩,
      ⟨34,0,0,(.ref 0),λw q h=>Ah w q h⟩,
      ⟨34,0,4,(.ref 3),λw q h=>Ah w q h⟩,
      ⟨34,0,5,(.ref 4),λw q h=>Ah w q h⟩,
      ⟨34,0,7,(.ref 6),λw q h=>Ah w q h⟩,
      ⟨36,0,9,(.ref 8),λw q h=>AH w q h⟩],
     allocs:=[⟨36,2,_,AN,AM⟩,
      ⟨34,3,_,AP,AR⟩],
     boxes:=[⟨34,(.ref 0),0,λw v h=>AT w v h⟩,
      ⟨34,(.ref 1),1,λw v h=>AT w v h⟩],
     stores:=[⟨34,0,3,(.ref 3),4,(Ag _)⟩,
      ⟨34,0,3,(.ref 4),5,(Ag _)⟩,
      ⟨34,0,3,(.ref 5),6,(Ag _)⟩,
      ⟨34,0,3,(.ref 6),7,(Ag _)⟩,
      ⟨34,0,3,(.ref 7),8,(Ag _)⟩,
      ⟨36,0,2,(.ref 8),9,AG⟩] }
   Tryz.func90 ⟨hva,hvb,trivial⟩ (by kernel_rfl)
theorem oQ{x y:Int}{i j:Nat}(va:Value)(vb:Value)(W:World)(hva:(Af x).p va W)(hvb:(Af y).p vb W)(sx:Sm x i)(sy:Sm y j)(_hi:i≤300000000)(_hj:j≤300000000)(ny:y<0):Calls Tryz.prog 90 #[va,vb] W (Aj (BT (Ap (Rat.divInt x y)) (Am (.int .i64 0))) W):=by
  let E:List PF:=[(Af x),(Af y),(Am (.int .i64 (Int.sign y))),(Af (-x)),(Af (-y)),(Af ((Int.gcd (-x) (-y):Nat):Int)),(Af ((-x) / ((Int.gcd (-x) (-y):Nat):Int))),(Af ((-x) % ((Int.gcd (-x) (-y):Nat):Int))),(Af ((-y) / ((Int.gcd (-x) (-y):Nat):Int))),(Af ((-y) % ((Int.gcd (-x) (-y):Nat):Int))),(Ap (Rat.divInt x y))]
  let EB:List CF:=[(Ak x),(Ak y),Bb,(Ak (-x)),(Ak (-y)),AQ,(Ak ((Int.gcd (-x) (-y):Nat):Int)),(Ak ((-x) / ((Int.gcd (-x) (-y):Nat):Int))),(Ak ((-x) % ((Int.gcd (-x) (-y):Nat):Int))),(Ak ((-y) / ((Int.gcd (-x) (-y):Nat):Int))),(Ak ((-y) % ((Int.gcd (-x) (-y):Nat):Int))),(Ba (Rat.divInt x y))]
  exact Az (E:=E) (EB:=EB) (fs:=[(.ref 0),(.ref 1)]) (r:=(.tup2 (.ref 10) (.int .i64 0)))
   { pures:=[p2 (.bin .eql 3 3) (.ref 2) (.int .i64 0) (.bool false) λ_ _ _ _ _ hx hy=>Co (r:=false) (by rw [Int.sign_eq_neg_one_of_neg ny]; rfl) hx hy,
      p2 (.bin .lss 3 3) (.ref 2) (.int .i64 0) (.bool true) λ_ _ _ _ _ hx hy=>Gb (r:=true) (by rw [Int.sign_eq_neg_one_of_neg ny]; rfl) hx hy,
      p2 (.bld 36 [0,1]) (.ref 6) (.ref 8) (.ref 10) λ_ _ _ _ _ hx hy=>Bq (WP x y ny).1.symm (WP x y ny).2.symm hx hy],
     calls:=[c1 63 (.ref 1) (.ref 2) λw v0 hb h0=>CR h0 sy (by first | decide | assumption | omega),
      c1 60 (.ref 0) (.ref 3) λw v0 hb h0=>Oe h0 sx (by first | decide | assumption | omega),
      c1 60 (.ref 1) (.ref 4) λw v0 hb h0=>Oe h0 sy (by first | decide | assumption | omega),
      c2 111 (.ref 3) (.ref 4) (.ref 5) λw v0 v1 hb h0 h1=>bQ h0 h1 sx.neg sy.neg (by first | decide | assumption | omega) (by first | decide | assumption | omega),
      c2 112 (.ref 3) (.ref 5) (.tup3 (.ref 6) (.ref 7) (.int .i64 0)) λw v0 v1 hb h0 h1=>F7 h0 h1 sx.neg (C2 sx.neg sy.neg) (by first | decide | assumption | omega) (by first | decide | assumption | omega) (P9 (-x) (by omega)),
      c2 112 (.ref 4) (.ref 5) (.tup3 (.ref 8) (.ref 9) (.int .i64 0)) λw v0 v1 hb h0 h1=>F7 h0 h1 sy.neg (C2 sx.neg sy.neg) (by first | decide | assumption | omega) (by first | decide | assumption | omega) (P9 (-x) (by omega))],
     loads:=[⟨34,0,1,(.ref 1),λw q h=>Ah w q h⟩,
      ⟨34,0,0,(.ref 0),λw q h=>Ah w q h⟩,
      ⟨34,0,3,(.ref 3),λw q h=>Ah w q h⟩,
      ⟨34,0,4,(.ref 4),λw q h=>Ah w q h⟩,
      ⟨34,0,6,(.ref 5),λw q h=>Ah w q h⟩,
      ⟨34,0,7,(.ref 6),λw q h=>Ah w q h⟩,
      ⟨34,0,9,(.ref 8),λw q h=>Ah w q h⟩,
      ⟨36,0,11,(.ref 10),λw q h=>AH w q h⟩],
     allocs:=[⟨36,2,_,AN,AM⟩,
      ⟨34,5,_,AP,AR⟩],
     boxes:=[⟨34,(.ref 0),0,λw v h=>AT w v h⟩,
      ⟨34,(.ref 1),1,λw v h=>AT w v h⟩],
     stores:=[⟨34,0,0,(.ref 3),3,(AK _ _)⟩,
      ⟨34,0,1,(.ref 4),4,(AK _ _)⟩,
      ⟨34,0,5,(.ref 5),6,(Ag _)⟩,
      ⟨34,0,5,(.ref 6),7,(Ag _)⟩,
      ⟨34,0,5,(.ref 7),8,(Ag _)⟩,
      ⟨34,0,5,(.ref 8),9,(Ag _)⟩,
      ⟨34,0,5,(.ref 9),10,(Ag _)⟩,
      ⟨36,0,2,(.ref 10),11,AG⟩] }
   Tryz.func90 ⟨hva,hvb,trivial⟩ (by kernel_rfl)
theorem Abt{x y:Int}{i j:Nat}{va vb:Value}{w:World}(ha:(Af x).p va w)(hb:(Af y).p vb w)(sx:Sm x i)(sy:Sm y j)(hi:i≤300000000)(hj:j≤300000000)(ny:y≠0):Calls Tryz.prog 90 #[va,vb] w (Aj (BT (Ap (Rat.divInt x y)) (Am (.int .i64 0))) w):=by
 rcases Int.lt_or_gt_of_ne ny with h | h
 ·exact oQ va vb w ha hb sx sy hi hj h
 ·exact mW va vb w ha hb sx sy hi hj h
theorem Ab5{x y:Int}{i j:Nat}{va vb:Value}{w:World}(ha:(Af x).p va w)(hb:(Af y).p vb w)(sx:Sm x i)(sy:Sm y j)(hi:i≤300000000)(hj:j≤300000000)(ny:y=0):Calls Tryz.prog 90 #[va,vb] w (Aj (BT (CA 0 0) (Am (.int .i64 3))) w):=Ac6 va vb w ha hb sx sy hi hj ny
theorem QH{x y:Int}{i j:Nat}(va:Value)(vb:Value)(W:World)(hva:(Af x).p va W)(hvb:(Af y).p vb W)(sx:Sm x i)(sy:Sm y j)(_hi:i≤300000000)(_hj:j≤300000000)(ny:y≠0):Calls Tryz.prog 61 #[va,vb] W (Aj (Ap (Rat.divInt x y)) W):=by
  let E:List PF:=[(Af x),(Af y),(Ap (Rat.divInt x y))]
  let EB:List CF:=[(Ak x),(Ak y),Bb,(Ba (Rat.divInt x y))]
  exact Az (E:=E) (EB:=EB) (fs:=[(.ref 0),(.ref 1)]) (r:=(.ref 2))
   { calls:=[c2 90 (.ref 0) (.ref 1) (.tup2 (.ref 2) (.int .i64 0)) λw v0 v1 hb h0 h1=>Abt h0 h1 sx sy (by first | decide | assumption | omega) (by first | decide | assumption | omega) ny],
     loads:=[⟨34,0,0,(.ref 0),λw q h=>Ah w q h⟩,
      ⟨34,0,1,(.ref 1),λw q h=>Ah w q h⟩,
      ⟨36,0,3,(.ref 2),λw q h=>AH w q h⟩],
     allocs:=[⟨36,2,_,AN,AM⟩],
     boxes:=[⟨34,(.ref 0),0,λw v h=>AT w v h⟩,
      ⟨34,(.ref 1),1,λw v h=>AT w v h⟩],
     stores:=[⟨36,0,2,(.ref 2),3,AG⟩] }
   Tryz.func61 ⟨hva,hvb,trivial⟩ (by kernel_rfl)
theorem fE{x:Rat}{i:Nat}(va:Value)(W:World)(hva:(Ap x).p va W)(sx:A7 x i)(_hi:i≤300000000):Calls Tryz.prog 36 #[va] W (Aj (Ap (-x)) W):=by
  let E:List PF:=[(Ap x),(Af x.num),(Af (-x.num)),(Af (x.den:Int)),(Ap (-x))]
  let EB:List CF:=[(Ba x),Bb,(Ba (-x))]
  exact Az (E:=E) (EB:=EB) (fs:=[(.ref 0)]) (r:=(.ref 4))
   { pures:=[p2 (.bld 36 [0,1]) (.ref 2) (.ref 3) (.ref 4) λ_ _ _ _ _ hx hy=>Bq (Rat.neg_num x).symm (by rw [Rat.neg_den]) hx hy],
     calls:=[c1 60 (.ref 1) (.ref 2) λw v0 hb h0=>Oe h0 sx.1 (by first | decide | assumption | omega)],
     loads:=[⟨34,0,0,(.ref 1),λw q h=>Bp w q h⟩,
      ⟨34,2,0,(.ref 3),λw q h=>Bw w q h⟩,
      ⟨36,0,2,(.ref 4),λw q h=>AH w q h⟩],
     allocs:=[⟨36,1,_,AN,AM⟩],
     boxes:=[⟨36,(.ref 0),0,λw v h=>AS w v h⟩],
     stores:=[⟨36,0,1,(.ref 4),2,AG⟩],
     flds:=[⟨36,0,0,DW⟩,
      ⟨36,1,2,E9⟩] }
   Tryz.func36 ⟨hva,trivial⟩ (by kernel_rfl)
theorem T5(x y:Rat):Rat.divInt (x.num*(y.den:Int)+y.num*(x.den:Int)) ((x.den:Int)*(y.den:Int))=x+y:=by
 have h:=Rat.divInt_add_divInt x.num y.num (Int.ne_of_gt (Cu x)) (Int.ne_of_gt (Cu y));rw [Rat.num_divInt_den,Rat.num_divInt_den] at h;exact h.symm
theorem Td(x y:Rat):Rat.divInt (x.num*y.num) ((x.den:Int)*(y.den:Int))=x*y:=by
 have h:=Rat.divInt_mul_divInt x.num y.num (d₁:=(x.den:Int)) (d₂:=(y.den:Int));rw [Rat.num_divInt_den,Rat.num_divInt_den] at h;exact h.symm
theorem TE(x y:Rat):Rat.divInt (x.num*(y.den:Int)) ((x.den:Int)*y.num)=x / y:=by
 have h:=Rat.divInt_mul_divInt x.num (y.den:Int) (d₁:=(x.den:Int)) (d₂:=y.num);rw [Rat.num_divInt_den,← Rat.inv_divInt,Rat.num_divInt_den,← Rat.div_def] at h;exact h.symm
theorem tT(x y:Rat):(x.den:Int)*(y.den:Int)≠0:=Int.mul_ne_zero (Int.ne_of_gt (Cu x)) (Int.ne_of_gt (Cu y))
theorem Adw{x y:Rat}(h:y≠0):(x.den:Int)*y.num≠0:=Int.mul_ne_zero (Int.ne_of_gt (Cu x)) (λe=>h (Rat.num_eq_zero.1 e))
theorem Ad1{x y:Rat}(h:y=0):(x.den:Int)*y.num=0:=by subst h; exact Int.mul_zero _
theorem oA{x y:Rat}{i j:Nat}{va vb:Value}{w:World}(ha:(Af (x.num*(y.den:Int)+y.num*(x.den:Int))).p va w)(hb:(Af ((x.den:Int)*(y.den:Int))).p vb w)(sx:A7 x i)(sy:A7 y j)(hi:i≤140000000)(hj:j≤140000000):Calls Tryz.prog 61 #[va,vb] w (Aj (Ap (x+y)) w):=by
 rw [← T5];exact QH va vb w ha hb ((sx.1.mul sy.2).add (sy.1.mul sx.2)) (sx.2.mul sy.2) (by omega) (by omega) (tT x y)
theorem pG{x y:Rat}{i j:Nat}{va vb:Value}{w:World}(ha:(Af (x.num*y.num)).p va w)(hb:(Af ((x.den:Int)*(y.den:Int))).p vb w)(sx:A7 x i)(sy:A7 y j)(hi:i≤140000000)(hj:j≤140000000):Calls Tryz.prog 61 #[va,vb] w (Aj (Ap (x*y)) w):=by
 rw [← Td];exact QH va vb w ha hb (sx.1.mul sy.1) (sx.2.mul sy.2) (by omega) (by omega) (tT x y)
theorem qE{x y:Rat}{i j:Nat}{va vb:Value}{w:World}(ha:(Af (x.num*(y.den:Int))).p va w)(hb:(Af ((x.den:Int)*y.num)).p vb w)(sx:A7 x i)(sy:A7 y j)(hi:i≤140000000)(hj:j≤140000000)(ny:y≠0):Calls Tryz.prog 90 #[va,vb] w (Aj (BT (Ap (x / y)) (Am (.int .i64 0))) w):=by
 rw [← TE];exact Abt ha hb (sx.1.mul sy.2) (sx.2.mul sy.1) (by omega) (by omega) (Adw ny)
theorem Y9{x y:Rat}{i j:Nat}{va vb:Value}{w:World}(ha:(Af (x.num*(y.den:Int))).p va w)(hb:(Af ((x.den:Int)*y.num)).p vb w)(sx:A7 x i)(sy:A7 y j)(hi:i≤140000000)(hj:j≤140000000)(ny:y=0):Calls Tryz.prog 90 #[va,vb] w (Aj (BT (CA 0 0) (Am (.int .i64 3))) w):=
 Ab5 ha hb (sx.1.mul sy.2) (sx.2.mul sy.1) (by omega) (by omega) (Ad1 ny)
theorem dM{x y:Rat}{i j:Nat}(va:Value)(vb:Value)(W:World)(hva:(Ap x).p va W)(hvb:(Ap y).p vb W)(sx:A7 x i)(sy:A7 y j)(hi:i≤140000000)(hj:j≤140000000):Calls Tryz.prog 49 #[va,vb] W (Aj (Ap (x+y)) W):=by
  let E:List PF:=[(Ap x),(Ap y),(Af x.num),(Af (y.den:Int)),(Af (x.num*(y.den:Int))),(Af y.num),(Af (x.den:Int)),(Af (y.num*(x.den:Int))),(Af ((x.num*(y.den:Int))+(y.num*(x.den:Int)))),(Af ((x.den:Int)*(y.den:Int))),(Ap (x+y))]
  let EB:List CF:=[(Ba x),(Ba y),Bb,AQ,(Ak ((x.num*(y.den:Int))+(y.num*(x.den:Int)))),(Ba (x+y))]
  exact Az (E:=E) (EB:=EB) (fs:=[(.ref 0),(.ref 1)]) (r:=(.ref 10))
   { calls:=[c2 62 (.ref 2) (.ref 3) (.ref 4) λw v0 v1 hb h0 h1=>FW h0 h1 sx.1 sy.2 (by first | decide | assumption | omega) (by first | decide | assumption | omega),
      c2 62 (.ref 5) (.ref 6) (.ref 7) λw v0 v1 hb h0 h1=>FW h0 h1 sy.1 sx.2 (by first | decide | assumption | omega) (by first | decide | assumption | omega),
      c2 81 (.ref 4) (.ref 7) (.ref 8) λw v0 v1 hb h0 h1=>VJ h0 h1 (sx.1.mul sy.2) (sy.1.mul sx.2) (by first | decide | assumption | omega) (by first | decide | assumption | omega),
      c2 62 (.ref 6) (.ref 3) (.ref 9) λw v0 v1 hb h0 h1=>FW h0 h1 sx.2 sy.2 (by first | decide | assumption | omega) (by first | decide | assumption | omega),
      c2 61 (.ref 8) (.ref 9) (.ref 10) λw v0 v1 hb h0 h1=>oA h0 h1 sx sy hi hj],
     loads:=[⟨34,0,0,(.ref 2),λw q h=>Bp w q h⟩,
      ⟨34,2,1,(.ref 3),λw q h=>Bw w q h⟩,
      ⟨34,0,1,(.ref 5),λw q h=>Bp w q h⟩,
      ⟨34,2,0,(.ref 6),λw q h=>Bw w q h⟩,
      ⟨34,0,4,(.ref 8),λw q h=>Ah w q h⟩,
      ⟨36,0,5,(.ref 10),λw q h=>AH w q h⟩],
     allocs:=[⟨36,2,_,AN,AM⟩,
      ⟨34,3,_,AP,AR⟩],
     boxes:=[⟨36,(.ref 0),0,λw v h=>AS w v h⟩,
      ⟨36,(.ref 1),1,λw v h=>AS w v h⟩],
     stores:=[⟨34,0,3,(.ref 8),4,(Ag _)⟩,
      ⟨36,0,2,(.ref 10),5,AG⟩],
     flds:=[⟨36,0,0,DW⟩,
      ⟨36,1,2,E9⟩] }
   Tryz.func49 ⟨hva,hvb,trivial⟩ (by kernel_rfl)
theorem xT{x y:Rat}{i j:Nat}(va:Value)(vb:Value)(W:World)(hva:(Ap x).p va W)(hvb:(Ap y).p vb W)(sx:A7 x i)(sy:A7 y j)(hi:i≤140000000)(hj:j≤140000000):Calls Tryz.prog 37 #[va,vb] W (Aj (Ap (x*y)) W):=by
  let E:List PF:=[(Ap x),(Ap y),(Af x.num),(Af y.num),(Af (x.num*y.num)),(Af (x.den:Int)),(Af (y.den:Int)),(Af ((x.den:Int)*(y.den:Int))),(Ap (x*y))]
  let EB:List CF:=[(Ba x),(Ba y),Bb,(Ba (x*y))]
  exact Az (E:=E) (EB:=EB) (fs:=[(.ref 0),(.ref 1)]) (r:=(.ref 8))
   { calls:=[c2 62 (.ref 2) (.ref 3) (.ref 4) λw v0 v1 hb h0 h1=>FW h0 h1 sx.1 sy.1 (by first | decide | assumption | omega) (by first | decide | assumption | omega),
      c2 62 (.ref 5) (.ref 6) (.ref 7) λw v0 v1 hb h0 h1=>FW h0 h1 sx.2 sy.2 (by first | decide | assumption | omega) (by first | decide | assumption | omega),
      c2 61 (.ref 4) (.ref 7) (.ref 8) λw v0 v1 hb h0 h1=>pG h0 h1 sx sy hi hj],
     loads:=[⟨34,0,0,(.ref 2),λw q h=>Bp w q h⟩,
      ⟨34,0,1,(.ref 3),λw q h=>Bp w q h⟩,
      ⟨34,2,0,(.ref 5),λw q h=>Bw w q h⟩,
      ⟨34,2,1,(.ref 6),λw q h=>Bw w q h⟩,
      ⟨36,0,3,(.ref 8),λw q h=>AH w q h⟩],
     allocs:=[⟨36,2,_,AN,AM⟩],
     boxes:=[⟨36,(.ref 0),0,λw v h=>AS w v h⟩,
      ⟨36,(.ref 1),1,λw v h=>AS w v h⟩],
     stores:=[⟨36,0,2,(.ref 8),3,AG⟩],
     flds:=[⟨36,0,0,DW⟩,
      ⟨36,1,2,E9⟩] }
   Tryz.func37 ⟨hva,hvb,trivial⟩ (by kernel_rfl)
theorem vA{x y:Rat}{i j:Nat}(va:Value)(vb:Value)(W:World)(hva:(Ap x).p va W)(hvb:(Ap y).p vb W)(sx:A7 x i)(sy:A7 y j)(hi:i≤140000000)(hj:j≤140000000):Calls Tryz.prog 32 #[va,vb] W (Aj (Ap (x + -y)) W):=by
  let E:List PF:=[(Ap x),(Ap y),(Ap (-y)),(Ap (x + -y))]
  let EB:List CF:=[(Ba x),(Ba y),Bb,(Ba (x + -y))]
  exact Az (E:=E) (EB:=EB) (fs:=[(.ref 0),(.ref 1)]) (r:=(.ref 3))
   { calls:=[c1 36 (.ref 1) (.ref 2) λw v0 hb h0=>fE _ _ h0 sy (by omega),
      c2 49 (.ref 0) (.ref 2) (.ref 3) λw v0 v1 hb h0 h1=>dM _ _ _ h0 h1 sx sy.neg hi hj],
     loads:=[⟨36,0,0,(.ref 0),λw q h=>AH w q h⟩,
      ⟨36,0,1,(.ref 1),λw q h=>AH w q h⟩,
      ⟨36,0,3,(.ref 3),λw q h=>AH w q h⟩],
     allocs:=[⟨36,2,_,AN,AM⟩],
     boxes:=[⟨36,(.ref 0),0,λw v h=>AS w v h⟩,
      ⟨36,(.ref 1),1,λw v h=>AS w v h⟩],
     stores:=[⟨36,0,2,(.ref 3),3,AG⟩] }
   Tryz.func32 ⟨hva,hvb,trivial⟩ (by kernel_rfl)
theorem qA{x:Rat}{i:Nat}(va:Value)(W:World)(hva:(Ap x).p va W)(sx:A7 x i)(_hi:i≤600000000):Calls Tryz.prog 38 #[va] W (Aj (Am (.int .i64 (Int.sign x.num))) W):=by
  let E:List PF:=[(Ap x),(Af x.num),(Am (.int .i64 (Int.sign x.num)))]
  let EB:List CF:=[(Ba x)]
  exact Az (E:=E) (EB:=EB) (fs:=[(.ref 0)]) (r:=(.ref 2))
   { calls:=[c1 63 (.ref 1) (.ref 2) λw v0 hb h0=>CR h0 sx.1 (by first | decide | assumption | omega)],
     loads:=[⟨34,0,0,(.ref 1),λw q h=>Bp w q h⟩],
     boxes:=[⟨36,(.ref 0),0,λw v h=>AS w v h⟩],
     flds:=[⟨36,0,0,DW⟩] }
   Tryz.func38 ⟨hva,trivial⟩ (by kernel_rfl)
theorem AaS{x y:Rat}{i j:Nat}{va vb:Value}{w:World}(ha:(Ap x).p va w)(hb:(Ap y).p vb w)(sx:A7 x i)(sy:A7 y j)(hi:i≤140000000)(hj:j≤140000000):Calls Tryz.prog 32 #[va,vb] w (Aj (Ap (x - y)) w):=by
 rw [Rat.sub_eq_add_neg]; exact vA va vb w ha hb sx sy hi hj
theorem Aac{x y:Rat}{i j:Nat}(va:Value)(vb:Value)(W:World)(hva:(Ap x).p va W)(hvb:(Ap y).p vb W)(sx:A7 x i)(sy:A7 y j)(hi:i≤140000000)(hj:j≤140000000)(ny:y≠0):Calls Tryz.prog 110 #[va,vb] W (Aj (BT (Ap (x / y)) (Am (.int .i64 0))) W):=by
  let E:List PF:=[(Ap x),(Ap y),(Af x.num),(Af (y.den:Int)),(Af (x.num*(y.den:Int))),(Af (x.den:Int)),(Af y.num),(Af ((x.den:Int)*y.num)),(Ap (x / y))]
  let EB:List CF:=[(Ba x),(Ba y),Bb,(Ba (x / y))]
  exact Az (E:=E) (EB:=EB) (fs:=[(.ref 0),(.ref 1)]) (r:=(.tup2 (.ref 8) (.int .i64 0)))
   { calls:=[c2 62 (.ref 2) (.ref 3) (.ref 4) λw v0 v1 hb h0 h1=>FW h0 h1 sx.1 sy.2 (by first | decide | assumption | omega) (by first | decide | assumption | omega),
      c2 62 (.ref 5) (.ref 6) (.ref 7) λw v0 v1 hb h0 h1=>FW h0 h1 sx.2 sy.1 (by first | decide | assumption | omega) (by first | decide | assumption | omega),
      c2 90 (.ref 4) (.ref 7) (.tup2 (.ref 8) (.int .i64 0)) λw v0 v1 hb h0 h1=>qE h0 h1 sx sy hi hj ny],
     loads:=[⟨34,0,0,(.ref 2),λw q h=>Bp w q h⟩,
      ⟨34,2,1,(.ref 3),λw q h=>Bw w q h⟩,
      ⟨34,2,0,(.ref 5),λw q h=>Bw w q h⟩,
      ⟨34,0,1,(.ref 6),λw q h=>Bp w q h⟩,
      ⟨36,0,3,(.ref 8),λw q h=>AH w q h⟩],
     allocs:=[⟨36,2,_,AN,AM⟩],
     boxes:=[⟨36,(.ref 0),0,λw v h=>AS w v h⟩,
      ⟨36,(.ref 1),1,λw v h=>AS w v h⟩],
     stores:=[⟨36,0,2,(.ref 8),3,AG⟩],
     flds:=[⟨36,0,0,DW⟩,
      ⟨36,1,2,E9⟩] }
   Tryz.func110 ⟨hva,hvb,trivial⟩ (by kernel_rfl)
theorem yK{x y:Rat}{i j:Nat}(va:Value)(vb:Value)(W:World)(hva:(Ap x).p va W)(hvb:(Ap y).p vb W)(sx:A7 x i)(sy:A7 y j)(hi:i≤140000000)(hj:j≤140000000)(ny:y=0):Calls Tryz.prog 110 #[va,vb] W (Aj (BT (CA 0 0) (Am (.int .i64 3))) W):=by
  let E:List PF:=[(Ap x),(Ap y),(Af x.num),(Af (y.den:Int)),(Af (x.num*(y.den:Int))),(Af (x.den:Int)),(Af y.num),(Af ((x.den:Int)*y.num)),(CA 0 0)]
  let EB:List CF:=[(Ba x),(Ba y),Bb,(Fy 0 0)]
  exact Az (E:=E) (EB:=EB) (fs:=[(.ref 0),(.ref 1)]) (r:=(.tup2 (.ref 8) (.int .i64 3)))
   { calls:=[c2 62 (.ref 2) (.ref 3) (.ref 4) λw v0 v1 hb h0 h1=>FW h0 h1 sx.1 sy.2 (by first | decide | assumption | omega) (by first | decide | assumption | omega),
      c2 62 (.ref 5) (.ref 6) (.ref 7) λw v0 v1 hb h0 h1=>FW h0 h1 sx.2 sy.1 (by first | decide | assumption | omega) (by first | decide | assumption | omega),
      c2 90 (.ref 4) (.ref 7) (.tup2 (.ref 8) (.int .i64 3)) λw v0 v1 hb h0 h1=>Y9 h0 h1 sx sy hi hj ny],
     loads:=[⟨34,0,0,(.ref 2),λw q h=>Bp w q h⟩,
      ⟨34,2,1,(.ref 3),λw q h=>Bw w q h⟩,
      ⟨34,2,0,(.ref 5),λw q h=>Bw w q h⟩,
      ⟨34,0,1,(.ref 6),λw q h=>Bp w q h⟩,
      ⟨36,0,3,(.ref 8),λw q h=>AH w q h⟩],
     allocs:=[⟨36,2,_,AN,AM⟩],
     boxes:=[⟨36,(.ref 0),0,λw v h=>AS w v h⟩,
      ⟨36,(.ref 1),1,λw v h=>AS w v h⟩],
     stores:=[⟨36,0,2,(.ref 8),3,AG⟩],
     flds:=[⟨36,0,0,DW⟩,
      ⟨36,1,2,E9⟩] }
   Tryz.func110 ⟨hva,hvb,trivial⟩ (by kernel_rfl)
theorem eO{z:Int}(W:World)(hz0 : -9223372036854775808≤z)(hz1:z≤9223372036854775807):Calls Tryz.prog 28 #[.int .i64 z] W (Aj (Ap (z:Rat)) W):=by
  let E:List PF:=[(Am (.int .i64 z)),(Af z),(Af 1),(Ap ((z:Int):Rat))]
  let EB:List CF:=[Bb,(Ba ((z:Int):Rat))]
  exact Az (E:=E) (EB:=EB) (fs:=[(.ref 0)]) (r:=(.ref 3))
   { pures:=[p2 (.bld 36 [0,1]) (.ref 1) (.ref 2) (.ref 3) λ_ _ _ _ _ hx hy=>Bq (G_ z).1.symm (G_ z).2.symm hx hy],
     calls:=[c1 58 (.ref 0) (.ref 1) λw v0 hb h0=>Xn z hz0 hz1 h0,
      c1 58 (.int .i64 1) (.ref 2) λw v0 hb h0=>Xn 1 (by omega) (by omega) h0],
     loads:=[⟨36,0,1,(.ref 3),λw q h=>AH w q h⟩],
     allocs:=[⟨36,0,_,AN,AM⟩],
     stores:=[⟨36,0,0,(.ref 3),1,AG⟩] }
   Tryz.func28 ⟨rfl,trivial⟩ (by kernel_rfl)
theorem Jj{x y:Int}(W:World)(hx0 : -9223372036854775808≤x)(hx1:x≤9223372036854775807)(hy0 : -9223372036854775808≤y)(hy1:y≤9223372036854775807)(ny:y≠0):Calls Tryz.prog 40 #[.int .i64 x,.int .i64 y] W (Aj (Ap (Rat.divInt x y)) W):=by
  let E:List PF:=[(Am (.int .i64 x)),(Am (.int .i64 y)),(Af x),(Af y),(Ap (Rat.divInt x y))]
  let EB:List CF:=[Bb,(Ba (Rat.divInt x y))]
  exact Az (E:=E) (EB:=EB) (fs:=[(.ref 0),(.ref 1)]) (r:=(.ref 4))
   { pures:=[p2 (.bin .eql 2 2) (.ref 1) (.int .i64 0) (.bool false) λ_ _ _ _ _ hx hy=>Co (r:=false) (by simpa using ny) hx hy],
     calls:=[c1 58 (.ref 0) (.ref 2) λw v0 hb h0=>Xn x hx0 hx1 h0,
      c1 58 (.ref 1) (.ref 3) λw v0 hb h0=>Xn y hy0 hy1 h0,
      c2 61 (.ref 2) (.ref 3) (.ref 4) λw v0 v1 hb h0 h1=>QH _ _ _ h0 h1 (gC hx0 hx1) (gC hy0 hy1) (by decide) (by decide) ny],
     loads:=[⟨36,0,1,(.ref 4),λw q h=>AH w q h⟩],
     allocs:=[⟨36,0,_,AN,AM⟩],
     stores:=[⟨36,0,0,(.ref 4),1,AG⟩] }
   Tryz.func40 ⟨rfl,rfl,trivial⟩ (by kernel_rfl)
theorem zQ{x y:Rat}{i j:Nat}(va:Value)(vb:Value)(W:World)(hva:(Ap x).p va W)(hvb:(Ap y).p vb W)(sx:A7 x i)(sy:A7 y j)(_hi:i≤100000000)(_hj:j≤100000000)(ny:y≠0):Calls Tryz.prog 113 #[va,vb] W (Aj (BT (Ap (x*y⁻¹)) (Am (.int .i64 0))) W):=by
  let E:List PF:=[(Ap x),(Ap y),(Am (.int .i64 (Fp y 0))),(Ap y⁻¹),(Ap (x*y⁻¹))]
  let EB:List CF:=[(Ba x),(Ba y),Bb,(Ba (x*y⁻¹))]
  exact Az (E:=E) (EB:=EB) (fs:=[(.ref 0),(.ref 1)]) (r:=(.tup2 (.ref 4) (.int .i64 0)))
   { pures:=[p2 (.bin .eql 3 3) (.ref 2) (.int .i64 0) (.bool false) λ_ _ _ _ _ hx hy=>Co (r:=false) (qM ny) hx hy],
     calls:=[c1 95 (.ref 1) (.ref 2) λw v0 hb h0=>PN h0 sy (by first | decide | assumption | omega),
      c1 122 (.ref 1) (.ref 3) λw v0 hb h0=>Adf h0 sy (by first | decide | assumption | omega) ny,
      c2 48 (.ref 0) (.ref 3) (.ref 4) λw v0 v1 hb h0 h1=>Zk h0 h1 sx sy.inv (by first | decide | assumption | omega) (by first | decide | assumption | omega)],
     loads:=[⟨36,0,1,(.ref 1),λw q h=>AH w q h⟩,
      ⟨36,0,0,(.ref 0),λw q h=>AH w q h⟩,
      ⟨36,0,3,(.ref 4),λw q h=>AH w q h⟩],
     allocs:=[⟨36,2,_,AN,AM⟩],
     boxes:=[⟨36,(.ref 0),0,λw v h=>AS w v h⟩,
      ⟨36,(.ref 1),1,λw v h=>AS w v h⟩],
     stores:=[⟨36,0,2,(.ref 4),3,AG⟩] }
   Tryz.func113 ⟨hva,hvb,trivial⟩ (by kernel_rfl)
theorem Aa1{x y:Rat}{i j:Nat}(va:Value)(vb:Value)(W:World)(hva:(Ap x).p va W)(hvb:(Ap y).p vb W)(_sx:A7 x i)(sy:A7 y j)(_hi:i≤100000000)(_hj:j≤100000000)(ny:y=0):Calls Tryz.prog 113 #[va,vb] W (Aj (BT (CA 0 0) (Am (.int .i64 3))) W):=by
  let E:List PF:=[(Ap x),(Ap y),(Am (.int .i64 (Fp y 0))),(CA 0 0)]
  let EB:List CF:=[(Ba x),(Ba y),Bb,(Fy 0 0)]
  exact Az (E:=E) (EB:=EB) (fs:=[(.ref 0),(.ref 1)]) (r:=(.tup2 (.ref 3) (.int .i64 3)))
   { pures:=[p2 (.bin .eql 3 3) (.ref 2) (.int .i64 0) (.bool true) λ_ _ _ _ _ hx hy=>Co (r:=true) (kY ny) hx hy,
      p0 (.bld 36 []) (.ref 3) λ_ _ _=>Np],
     calls:=[c1 95 (.ref 1) (.ref 2) λw v0 hb h0=>PN h0 sy (by first | decide | assumption | omega)],
     loads:=[⟨36,0,1,(.ref 1),λw q h=>AH w q h⟩,
      ⟨36,0,3,(.ref 3),λw q h=>AH w q h⟩],
     allocs:=[⟨36,2,_,AN,AM⟩],
     boxes:=[⟨36,(.ref 0),0,λw v h=>AS w v h⟩,
      ⟨36,(.ref 1),1,λw v h=>AS w v h⟩],
     stores:=[⟨36,0,2,(.ref 3),3,AG⟩] }
   Tryz.func113 ⟨hva,hvb,trivial⟩ (by kernel_rfl)
section
variable {w : World} {va vb : Value} {x y : Rat} {i j : Nat}
theorem sG(ha:(Ap x).p va w)(hb:(Ap y).p vb w)(sx:A7 x i)(sy:A7 y j)(hi:i≤140000000)(hj:j≤140000000):Calls Tryz.prog 49 #[va,vb] w (Aj (Ap (x+y)) w):=dM va vb w ha hb sx sy hi hj
theorem AcF(ha:(Ap x).p va w)(hb:(Ap y).p vb w)(sx:A7 x i)(sy:A7 y j)(hi:i≤140000000)(hj:j≤140000000):Calls Tryz.prog 32 #[va,vb] w (Aj (Ap (x - y)) w):=AaS ha hb sx sy hi hj
theorem sT(ha:(Ap x).p va w)(hb:(Ap y).p vb w)(sx:A7 x i)(sy:A7 y j)(hi:i≤140000000)(hj:j≤140000000):Calls Tryz.prog 37 #[va,vb] w (Aj (Ap (x*y)) w):=xT va vb w ha hb sx sy hi hj
theorem tL(ha:(Ap x).p va w)(sx:A7 x i)(hi:i≤300000000):Calls Tryz.prog 36 #[va] w (Aj (Ap (-x)) w):=fE va w ha sx hi
theorem fJ(ha:(Ap x).p va w)(sx:A7 x i)(hi:i≤300000000):Calls Tryz.prog 38 #[va] w (Aj (Am (.int .i64 (Fp x 0))) w):=by
 rw [← R6]; exact qA va w ha sx (by omega)
theorem Ada(ha:(Ap x).p va w)(hb:(Ap y).p vb w)(sx:A7 x i)(sy:A7 y j)(hi:i≤140000000)(hj:j≤140000000)(ny:y≠0):Calls Tryz.prog 110 #[va,vb] w (Aj (BT (Ap (x / y)) (Am (.int .i64 0))) w):=Aac va vb w ha hb sx sy hi hj ny
theorem wO(ha:(Ap x).p va w)(hb:(Ap y).p vb w)(sx:A7 x i)(sy:A7 y j)(hi:i≤140000000)(hj:j≤140000000)(ny:y=0):Calls Tryz.prog 110 #[va,vb] w (Aj (BT (CA 0 0) (Am (.int .i64 3))) w):=yK va vb w ha hb sx sy hi hj ny
theorem uR(ha:(Ap x).p va w)(hb:(Ap y).p vb w)(sx:A7 x i)(sy:A7 y j)(hi:i≤100000000)(hj:j≤100000000)(ny:y≠0):Calls Tryz.prog 113 #[va,vb] w (Aj (BT (Ap (x / y)) (Am (.int .i64 0))) w):=by
 rw [Rat.div_def]; exact zQ va vb w ha hb sx sy hi hj ny
theorem Abl(ha:(Ap x).p va w)(hb:(Ap y).p vb w)(sx:A7 x i)(sy:A7 y j)(hi:i≤100000000)(hj:j≤100000000)(ny:y=0):Calls Tryz.prog 113 #[va,vb] w (Aj (BT (CA 0 0) (Am (.int .i64 3))) w):=Aa1 va vb w ha hb sx sy hi hj ny
theorem mK(z:Int)(h0 : -9223372036854775808≤z)(h1:z≤9223372036854775807)(hv:(Am (.int .i64 z)).p va w):Calls Tryz.prog 28 #[va] w (Aj (Ap (z:Rat)) w):=by
 have hv:va = .int .i64 z:=hv;rw [hv];exact eO w h0 h1
end
section
open Go.RowKit
end
def Abu(W:World)(wr:World)(z:Rat):Prop:=(Ba z).p W.heap.size wr∧Below W.heap.size W wr∧Bl W wr
theorem Abu.cells{W wr:World}{z:Rat}(h:Abu W wr z):∃ b A k c b' A' k' c',wr.cell? ⟨W.heap.size,0,none⟩=some (.bool b)∧wr.cell? ⟨W.heap.size,1,none⟩=some (.slice A k c)∧wr.cell? ⟨W.heap.size,2,none⟩=some (.bool b')∧wr.cell? ⟨W.heap.size,3,none⟩=some (.slice A' k' c')∧Hid (BR wr (.agg #[.bool b,.slice A k c,.bool b',.slice A' k' c']) z.num (z.den:Int)):=by
 obtain ⟨⟨b,A,k,c,b',A',k',c',hh,h1,h2⟩,_,_⟩:=h;obtain ⟨e0,e1,e2,e3⟩:=D0 hh;exact ⟨b,A,k,c,b',A',k',c',e0,e1,e2,e3,⟨_,_,_,_,_,_,_,_,rfl,h1,h2⟩⟩
end Go.Proofs.YtdopbgnkneeceaaGreat

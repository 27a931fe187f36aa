/- Walks. -/
import Derived.Test.YtdopbgnkneeceaaGreatqW1
import Derived.Test.YtdopbgnkneeceaaGreatqT1
set_option linter.unusedSectionVars false
set_option linter.unusedVariables false
set_option linter.unusedSimpArgs false
set_option maxRecDepth 100000
namespace Go.Proofs.YtdopbgnkneeceaaGreat
open Go.RowKit
theorem Dg(A:Option Addr)(n c:Nat)(ms:List Nat)(w:World)(hn:ms.length=n)(hm:CQ w w.heap.size A ms)(hl:n≤4398046511104)(hc:n≤c)(h32:Bx ms) :
  Calls Tryz.prog 117 #[.slice A n c] w λe w'=>e = .returned (.slice A (len (val ms)) c)∧w=w':=by
 subst hn; exact oM A c ms w hm hl hc h32
theorem Sj(A:Option Addr)(c n:Nat)(w:World)(hm:CQ w w.heap.size A (Ae n))(hl:len n≤4398046511104)(hc:len n≤c) :
  Calls Tryz.prog 117 #[.slice A (len n) c] w λe w'=>e = .returned (.slice A (len n) c)∧w=w':=by
 have:=Dg A (len n) c (Ae n) w rfl hm hl hc (As n);rwa [Ao] at this
theorem RT(n:Nat)(w:World):CQ (w.alloc (.cells #[.int .u32 ((n:Int) % 4294967296),.int .u32 ((n:Int) / 4294967296)] 114)) (w.heap.size+1) (some ⟨w.heap.size,0,none⟩) [n % 4294967296,n / 4294967296]:=by
 have h:=(Cx.new w [n % 4294967296,n / 4294967296]).mem (B:=w.heap.size+1) (by omega);exact h
set_option maxHeartbeats 400000 in
theorem CV(n:Nat)(w:World)(hn:n<18446744073709551616) :
  Calls Tryz.prog 103 #[.int .u64 n] w (CC n w):=by
 have hm:=RT n w;have h32:Bx [n % 4294967296,n / 4294967296]:=Bx.mk (by omega) (Bx.mk (by omega) Bx.nil_);have hv:val [n % 4294967296,n / 4294967296]=n:=by simp only [val]; omega
 obtain ⟨l1,l2,_⟩:=DY h32;rw [hv] at l1 l2;have HV:=Lib.hid hv;have HL:=Lib.hid l1;clear hv l1
 go_enter Tryz.func103,Tryz.ntmps103
 go_wp2_with fail
 refine (Dg _ 2 2 [n % 4294967296,n / 4294967296] _ rfl (by simpa using hm) (by omega) (by omega) h32).mono ?_
 rintro e w' ⟨rfl,rfl⟩
 rw [HV.out]
 go_wp2
 go_ret
 refine ⟨_,rfl,⟨_,_,rfl,l2,?_⟩,(Below.refl _ _).alloc (Nat.le_refl _) _⟩;have:=hm.take (len n);rw [← HL.out] at this;simpa using this
theorem CW(ms:List Nat)(k:Nat)(hk:k≤ms.length):val ms=val (ms.take k)+4294967296 ^ k*val (ms.drop k):=by
 have:=IV (ms.take k) (ms.drop k);rw [List.take_append_drop,List.length_take,Nat.min_eq_left hk] at this;exact this
theorem IJ{xs ys:List Nat}(hl:xs.length=ys.length)(k:Nat)(h:∀ i,k≤i→xs.getD i 0=ys.getD i 0):xs.drop k=ys.drop k:=by
 apply List.ext_getElem
 ·simp [hl]
 ·intro i h1 h2
  have:=h (k+i) (by omega);rw [List.length_drop] at h1 h2;simpa [List.getD,List.getElem?_eq_getElem (show k+i<xs.length by omega),List.getElem?_eq_getElem (show k+i<ys.length by omega)] using this
theorem He{xs ys:List Nat}(ha:Bx xs)(_hb:Bx ys)(hl:xs.length=ys.length)(k:Nat)(hk:k<xs.length)(h:∀ i,k+1≤i→xs.getD i 0=ys.getD i 0)
  (hlt:xs.getD k 0<ys.getD k 0):val xs<val ys:=by
 rw [CW xs (k+1) (by omega),CW ys (k+1) (by omega),IJ hl (k+1) h,Au,Au];have h1:=Cv (ha.take k);rw [List.length_take,Nat.min_eq_left (by omega)] at h1;have h2:4294967296 ^ k*xs.getD k 0+4294967296 ^ k≤4294967296 ^ k*ys.getD k 0:=by
  rw [← Nat.mul_succ]; exact Nat.mul_le_mul_left _ hlt
 omega
theorem Xu(b:Bool)(w:World):Calls Tryz.prog 135 #[.bool b] w λe w'=>e = .returned (.int .i64 (if b then -1 else 1))∧∃ m,w'=w.drewN m:=(Ky b w).mono λ_ _ ⟨he,hw⟩=>⟨he,0,hw ▸ rfl⟩
theorem At{ms:List Nat}{k:Nat}(h:k<ms.length):ms.getD k 0=ms[k]:=by simp [List.getD,List.getElem?_eq_getElem h]
def GC(x y:Nat):Int:=if x<y then -1 else if x=y then 0 else 1
theorem Hi{x y:Nat}(h:x<y):GC x y = -1:=by simp [GC,h]
theorem Gc{x y:Nat}(h:x=y):GC x y=0:=by simp [GC,h]
theorem FB{x y:Nat}(h:y<x):GC x y=1:=by unfold GC; rw [if_neg (by omega),if_neg (by omega)]
set_option maxHeartbeats 800000 in
theorem Fj(A B:Option Addr)(c d x y:Nat)(w:World)(ha:CQ w w.heap.size A (Ae x))(hb:CQ w w.heap.size B (Ae y))(hx:len x≤1099511627776)(_hy:len y≤1099511627776) :
  Calls Tryz.prog 124 #[.slice A (len x) c,.slice B (len y) d] w λe w'=>e = .returned (.int .i64 (GC x y))∧∃ k,w.drewN k=w':=by
 by_cases hl:len x=len y
 ·go_enter Tryz.func124,Tryz.ntmps124
  have hne:((len x:Int) != (len y:Int))=false:=by simp [hl]
  have HL:=Lib.hid hl;clear hl
  go_wp2_with fail
  go_loopw [5] (λi wr=>∃ k:Nat,k≤len x∧i = .int .i64 ((k:Int) - 1)∧(∀ j,k≤j→(Ae x).getD j 0=(Ae y).getD j 0)∧∃ n,w.drewN n=wr) (λi _=>(intOf i+1).toNat)
  case atStart=>exact ⟨len x,Nat.le_refl _,rfl,λj hj=>by simp [List.getD,List.getElem?_eq_none (show (Ae x).length≤j from hj),List.getElem?_eq_none (show (Ae y).length≤j from by rw [Aa,← HL.out]; exact hj)],0,rfl⟩
  case round =>
   obtain ⟨k,hk,rfl,heq,n,rfl⟩:=hrel
   by_cases hk0:0<k
   ·obtain ⟨ad,rfl,_,hca⟩:=ha.at_ (show k - 1<(Ae x).length by rw [Aa]; omega)
    obtain ⟨bd,rfl,_,hcb⟩:=hb.at_ (show k - 1<(Ae y).length by rw [Aa,← HL.out]; omega);have h1:(0:Int)≤(k:Int) - 1:=by omega
    have h2:(k:Int) - 1<(len x:Int):=by omega
    have h3:(k:Int) - 1<(len y:Int):=by rw [← HL.out]; omega
    have hcast:(k:Int) - 1 - 1=((k - 1:Nat):Int) - 1:=by omega
    have HC:=Lib.hid hcast;have HEQ:=Lib.hid heq;have hgx:=At (show k - 1<(Ae x).length by rw [Aa]; omega);have hgy:=At (show k - 1<(Ae y).length by rw [Aa,← HL.out]; omega);generalize (Ae x)[k - 1]'(by rw [Aa]; omega)=p at *;generalize (Ae y)[k - 1]'(by rw [Aa,← HL.out]; omega)=q at *;have HX:=Lib.hid hgx;have HY:=Lib.hid hgy;clear hcast heq hgx hgy
    rcases Nat.lt_trichotomy p q with hpq | hpq | hpq
    ·have ht:((p:Int) != (q:Int))=true:=by simp; omega
     have ht2:decide (p<q)=true:=by simp; omega
     go_wp2_with fail
     go_quiet (fail)
     generalize hw1:(w.drewN n).drewN nq=w1;have hca1:w1.cell? (ad.add (k - 1))=some (Value.int IntKind.u32 (p:Int)):=by rw [← hw1]; exact hca
     have hcb1:w1.cell? (bd.add (k - 1))=some (Value.int IntKind.u32 (q:Int)):=by rw [← hw1]; exact hcb
     have HW:=Lib.hid hw1;clear hw1 hca hcb
     go_wp2_with fail
     go_quiet ((go_at_call 135; exact Calls.quiet_of (Xu _ _)))
     go_wp2
     go_ret
     have hv:=He (As x) (As y) HL.out (k - 1) (by rw [Aa]; omega) (λi hi=>HEQ.out i (by omega)) (by rw [HX.out,HY.out]; exact hpq);rw [Ao,Ao] at hv;rw [Hi hv,← HW.out];simp [World.drewN_drewN]
    ·subst hpq
     have ht:((p:Int) != (p:Int))=false:=by simp
     go_wp2_with fail
     go_quiet (fail)
     go_wp2
     go_roundw
     case rel =>
      refine ⟨k - 1,by omega,by rw [HC.out],λj hj=>?_,n+nq,rfl⟩
      rcases Nat.lt_or_ge j k with h | h
      ·have:j=k - 1:=by omega
       rw [this,HX.out,HY.out]
      ·exact HEQ.out j h
     case measure=>simp [intOf]; omega
    ·have ht:((p:Int) != (q:Int))=true:=by simp; omega
     have ht2:decide (p<q)=false:=by simp; omega
     go_wp2_with fail
     go_quiet (fail)
     generalize hw1:(w.drewN n).drewN nq=w1;have hca1:w1.cell? (ad.add (k - 1))=some (Value.int IntKind.u32 (p:Int)):=by rw [← hw1]; exact hca
     have hcb1:w1.cell? (bd.add (k - 1))=some (Value.int IntKind.u32 (q:Int)):=by rw [← hw1]; exact hcb
     have HW:=Lib.hid hw1;clear hw1 hca hcb
     go_wp2_with fail
     go_quiet ((go_at_call 135; exact Calls.quiet_of (Xu _ _)))
     go_wp2
     go_ret
     have hv:=He (As y) (As x) HL.out.symm (k - 1) (by rw [Aa,← HL.out]; omega) (λi hi=>(HEQ.out i (by omega)).symm) (by rw [HX.out,HY.out]; exact hpq);rw [Ao,Ao] at hv;rw [FB hv,← HW.out];simp [World.drewN_drewN]
   ·have hk':k=0:=by omega
    subst hk';have HEQ:=Lib.hid heq;clear heq
    go_wp2
    go_ret
    have e:Ae x=Ae y:=by
     have:=IJ (show (Ae x).length=(Ae y).length from HL.out) 0 HEQ.out;simpa using this
    rw [Gc (OF e)];exact ⟨rfl,n,rfl⟩
 ·rcases Nat.lt_or_gt_of_ne hl with h | h
  ·have hne:((len x:Int) != (len y:Int))=true:=by simp; omega
   have hlt:decide (len x<len y)=true:=by simp; omega
   have hv:=Hi (Hm h);have HV:=Lib.hid hv;clear hv hl
   go_enter Tryz.func124,Tryz.ntmps124
   go_wp2_with (go_at_call 135; refine (Ky _ _).mono ?_; rintro e w' ⟨rfl,rfl⟩)
   go_ret
   rw [HV.out];exact ⟨rfl,0,rfl⟩
  ·have hne:((len x:Int) != (len y:Int))=true:=by simp; omega
   have hlt:decide (len x<len y)=false:=by simp; omega
   have hv:=FB (Hm h);have HV:=Lib.hid hv;clear hv hl
   go_enter Tryz.func124,Tryz.ntmps124
   go_wp2_with (go_at_call 135; refine (Ky _ _).mono ?_; rintro e w' ⟨rfl,rfl⟩)
   go_ret
   rw [HV.out];exact ⟨rfl,0,rfl⟩
def CI(w:World)(g n:Nat)(X Y:List Nat)(wr:World)(k c:Nat):Prop:=
 ∃ ds:List Nat,ds.length=n+1∧Bx ds∧Cx wr g ds∧val (ds.take k)+4294967296 ^ k*c=val (X.take k)+val (Y.take k)∧Below w.heap.size w wr
theorem BP(ds:List Nat)(k r:Nat)(hk:k<ds.length):val ((ds.set k r).take (k+1))=val (ds.take k)+4294967296 ^ k*r:=by
 rw [Au,List.take_set_of_le (by omega)]
 congr 2
 simp [List.getD,hk]
theorem CI.step{w wr:World}{g n:Nat}{X Y:List Nat}{k c p q:Nat}(h:CI w g n X Y wr k c)(hk:k<n+1)(hg:w.heap.size≤g)(hp:X.getD k 0=p)(hq:Y.getD k 0=q) :
  CI w g n X Y (wr.setCell ⟨g,k,none⟩ (.int .u32 (((c+(p+q)) % 4294967296:Nat):Int))) (k+1) ((c+(p+q)) / 4294967296):=by
 obtain ⟨ds,hl,h32,hr,he,hb⟩:=h;refine ⟨ds.set k ((c+(p+q)) % 4294967296),by simpa using hl,h32.set (by omega),hr.set_ k _,?_,hb.setCell (by simpa using hg) _⟩;rw [BP _ _ _ (by omega),Au X,Au Y,hp,hq,Nat.pow_succ];have e:c+(p+q)=4294967296*((c+(p+q)) / 4294967296)+(c+(p+q)) % 4294967296:=by omega
 generalize (c+(p+q)) / 4294967296=d at *;generalize (c+(p+q)) % 4294967296=r at *;generalize 4294967296 ^ k=P at *;have e2:P*(c+(p+q))=P*(4294967296*d+r):=by rw [e]
 rw [Nat.mul_add,Nat.mul_add,Nat.mul_add,← Nat.mul_assoc] at e2;omega
theorem CI.step'{w wr:World}{g n:Nat}{X Y:List Nat}{k c p q:Nat}(h:CI w g n X Y wr k c)(hk:k<n+1)(hg:w.heap.size≤g)(hp:X.getD k 0=p)(hq:Y.getD k 0=q)(v:Int)(hv:v=((c:Int)+((p:Int)+(q:Int))) % 4294967296) :
  CI w g n X Y (wr.setCell ⟨g,k,none⟩ (.int .u32 v)) (k+1) ((c+(p+q)) / 4294967296):=by
 have e:v=(((c+(p+q)) % 4294967296:Nat):Int):=by omega
 rw [e];exact h.step hk hg hp hq
theorem CI.cell{w wr:World}{g n:Nat}{X Y:List Nat}{k c:Nat}(h:CI w g n X Y wr k c){i:Nat}(hi:i<n+1):∃ x:Nat,wr.cell? ⟨g,i,none⟩=some (.int .u32 (x:Int))∧wr.frozen? ⟨g,i,none⟩=false:=by
 obtain ⟨ds,hl,h32,hr,he,hb⟩:=h;exact ⟨_,hr.cell (by omega),hr.frozen i⟩
theorem CI.start(w:World)(n:Nat)(X Y:List Nat):CI w w.heap.size n X Y (w.alloc (B9 (List.replicate (n+1) 0))) 0 0:=
 ⟨_,by simp,Bx.replicate _,Cx.new _ _,by simp [val],Ai _ _⟩
theorem CI.finish{w wr:World}{g n:Nat}{X Y:List Nat}{c:Nat}(h:CI w g n X Y wr n c)(hg:w.heap.size≤g)(hc:c<4294967296)(hX:X.length≤n)(hY:Y.length≤n) :
  ∃ ds:List Nat,ds.length=n+1∧Bx ds∧Cx (wr.setCell ⟨g,n,none⟩ (.int .u32 (c:Int))) g ds∧val ds=val X+val Y∧Below w.heap.size w (wr.setCell ⟨g,n,none⟩ (.int .u32 (c:Int))):=by
 obtain ⟨ds,hl,h32,hr,he,hb⟩:=h;refine ⟨ds.set n c,by simpa using hl,h32.set hc,hr.set_ n c,?_,hb.setCell (by simpa using hg) _⟩;have h1:=BP ds n c (by omega);rw [List.take_of_length_le (by simp [hl])] at h1;rw [h1,he,List.take_of_length_le hX,List.take_of_length_le hY]
set_option maxHeartbeats 1000000 in
theorem Adl(A B:Option Addr)(c d x y:Nat)(w:World)(ha:CQ w w.heap.size A (Ae x))(hb:CQ w w.heap.size B (Ae y))(hx:len x≤1099511627776)(hle:len y≤len x)(hy0:0<len y) :
  Calls Tryz.prog 130 #[.slice A (len x) c,.slice B (len y) d] w (CC (x+y) w):=by
 have ht:decide (len x<len y)=false:=by simp; omega
 have ht2:((len y:Int) == 0)=false:=by simp; omega
 have hmk:=λW=>Kw ((len x:Int)+1) (by omega) (by omega) W
 have e1:((len x:Int)+1).toNat=len x+1:=by omega
 rw [e1] at hmk;clear e1;obtain ⟨ad,rfl,_,hca⟩:=ha.at_ (show 0<(Ae x).length by rw [Aa]; omega);obtain ⟨bd,rfl,_,hcb⟩:=hb.at_ (show 0<(Ae y).length by rw [Aa]; omega);clear hca hcb
 go_enter Tryz.func130,Tryz.ntmps130
 go_wp2_with fail
 go_loopw [6,27] (λcr i wr=>∃ k c:Nat,k≤len y∧i = .int .i64 k∧cr = .int .u64 c∧c≤1∧CI w w.heap.size (len x) (Ae x) (Ae y) wr k c) (λ_ i _=>len y - (intOf i).toNat)
 case atStart=>exact ⟨0,0,by omega,rfl,rfl,by omega,CI.start _ _ _ _⟩
 case round =>
  obtain ⟨k,c,hk,rfl,rfl,hc1,hrel⟩:=hrel;have HR:=Lib.hid hrel;clear hrel
  by_cases hlt:k<len y
  ·obtain ⟨ad',e,_,hca⟩:=ha.at_ (show k<(Ae x).length by rw [Aa]; omega)
   injection e with e
   subst e;obtain ⟨bd',e,_,hcb⟩:=hb.at_ (show k<(Ae y).length by rw [Aa]; omega);injection e with e
   subst e;have hp:=(As x).get (show k<(Ae x).length by rw [Aa]; omega);have hq:=(As y).get (show k<(Ae y).length by rw [Aa]; omega);have gp:=At (show k<(Ae x).length by rw [Aa]; omega);have gq:=At (show k<(Ae y).length by rw [Aa]; omega);generalize (Ae x)[k]'(by rw [Aa]; omega)=p at *;generalize (Ae y)[k]'(by rw [Aa]; omega)=q at *;have GP:=Lib.hid gp;have GQ:=Lib.hid gq;clear gp gq;obtain ⟨ds,hl,h32,hr,he,hbel⟩:=HR.out;have hca':=(hbel.cell (p:=ad.add k) (by rw [Ap]; omega)).trans hca;have hcb':=(hbel.cell (p:=bd.add k) (by rw [Ap]; omega)).trans hcb;obtain ⟨ox,ho,hf⟩:=HR.out.cell (show k<len x+1 by omega);clear hl h32 hr he hbel hca hcb
   go_wp2
   go_roundw
   case rel=>exact ⟨k+1,_,by omega,by go_num,by go_num,by omega,HR.out.step' (by omega) (Nat.le_refl _) GP.out GQ.out _ rfl⟩
   case measure=>simp [intOf]; omega
  ·have hk':k=len y:=by omega
   subst hk'
   go_wp2_with fail
   go_loopw [6,9] (λcr i wr=>∃ k c:Nat,len y≤k∧k≤len x∧i = .int .i64 k∧cr = .int .u64 c∧c≤1∧CI w w.heap.size (len x) (Ae x) (Ae y) wr k c) (λ_ i _=>len x - (intOf i).toNat)
   case atStart=>exact ⟨_,c,Nat.le_refl _,by omega,rfl,rfl,hc1,HR.out⟩
   case round =>
    clear HR hc1;obtain ⟨k,c,hk1,hk2,rfl,rfl,hc1,hrel⟩:=hrel;have HR:=Lib.hid hrel;clear hrel
    by_cases hlt2:k<len x
    ·obtain ⟨ad',e,_,hca⟩:=ha.at_ (show k<(Ae x).length by rw [Aa]; omega)
     injection e with e
     subst e;have hp:=(As x).get (show k<(Ae x).length by rw [Aa]; omega);have gp:=At (show k<(Ae x).length by rw [Aa]; omega);have gq:(Ae y).getD k 0=0:=by simp [List.getD,List.getElem?_eq_none (show (Ae y).length≤k from hk1)]
     generalize (Ae x)[k]'(by rw [Aa]; omega)=p at *;have GP:=Lib.hid gp;have GQ:=Lib.hid gq;clear gp gq;obtain ⟨ds,hl,h32,hr,he,hbel⟩:=HR.out;have hca':=(hbel.cell (p:=ad.add k) (by rw [Ap]; omega)).trans hca;obtain ⟨ox,ho,hf⟩:=HR.out.cell (show k<len x+1 by omega);clear hl h32 hr he hbel hca
     go_wp2
     go_roundw
     case rel=>exact ⟨k+1,_,by omega,by omega,by go_num,by go_num,by omega,HR.out.step' (by omega) (Nat.le_refl _) GP.out GQ.out _ (by omega)⟩
     case measure=>simp [intOf]; omega
    ·have hk':k=len x:=by omega
     subst hk';obtain ⟨ox,ho,hf⟩:=HR.out.cell (show len x<len x+1 by omega);obtain ⟨ds,hl,h32,hr,he,hbel⟩:=HR.out.finish (Nat.le_refl _) (by omega) (Nat.le_refl _) (by rw [Aa]; omega);have HE:=Lib.hid he;clear he
     go_wp2_with fail
     refine (Dg _ _ _ ds _ hl (hr.mem hr.lt) (by omega) (by omega) h32).mono ?_
     rintro e w1 ⟨rfl,rfl⟩
     go_wp2
     go_ret
     refine ⟨_,rfl,?_,hbel⟩;have:=hr.nat h32 (c:=len x+1) (by omega);have he':=HE.out;rw [Ao,Ao] at he';rw [show x+y=val ds from by omega];exact this
set_option maxHeartbeats 1000000 in
theorem AcM(A B:Option Addr)(c d x y:Nat)(w:World)(ha:CQ w w.heap.size A (Ae x))(hb:CQ w w.heap.size B (Ae y))(hx:len y≤1099511627776)(hle:len x<len y)(hy0:0<len x) :
  Calls Tryz.prog 130 #[.slice A (len x) c,.slice B (len y) d] w (CC (x+y) w):=by
 have ht:decide (len x<len y)=true:=by simp; omega
 have ht2:((len x:Int) == 0)=false:=by simp; omega
 have hmk:=λW=>Kw ((len y:Int)+1) (by omega) (by omega) W
 have e1:((len y:Int)+1).toNat=len y+1:=by omega
 rw [e1] at hmk;clear e1;obtain ⟨ad,rfl,_,hca⟩:=ha.at_ (show 0<(Ae x).length by rw [Aa]; omega);obtain ⟨bd,rfl,_,hcb⟩:=hb.at_ (show 0<(Ae y).length by rw [Aa]; omega);clear hca hcb
 go_enter Tryz.func130,Tryz.ntmps130
 go_wp2_with fail
 go_loopw [6,27] (λcr i wr=>∃ k c:Nat,k≤len x∧i = .int .i64 k∧cr = .int .u64 c∧c≤1∧CI w w.heap.size (len y) (Ae y) (Ae x) wr k c) (λ_ i _=>len x - (intOf i).toNat)
 case atStart=>exact ⟨0,0,by omega,rfl,rfl,by omega,CI.start _ _ _ _⟩
 case round =>
  obtain ⟨k,c,hk,rfl,rfl,hc1,hrel⟩:=hrel;have HR:=Lib.hid hrel;clear hrel
  by_cases hlt:k<len x
  ·obtain ⟨ad',e,_,hca⟩:=ha.at_ (show k<(Ae x).length by rw [Aa]; omega)
   injection e with e
   subst e;obtain ⟨bd',e,_,hcb⟩:=hb.at_ (show k<(Ae y).length by rw [Aa]; omega);injection e with e
   subst e;have hp:=(As x).get (show k<(Ae x).length by rw [Aa]; omega);have hq:=(As y).get (show k<(Ae y).length by rw [Aa]; omega);have gp:=At (show k<(Ae x).length by rw [Aa]; omega);have gq:=At (show k<(Ae y).length by rw [Aa]; omega);generalize (Ae x)[k]'(by rw [Aa]; omega)=p at *;generalize (Ae y)[k]'(by rw [Aa]; omega)=q at *;have GP:=Lib.hid gp;have GQ:=Lib.hid gq;clear gp gq;obtain ⟨ds,hl,h32,hr,he,hbel⟩:=HR.out;have hca':=(hbel.cell (p:=ad.add k) (by rw [Ap]; omega)).trans hca;have hcb':=(hbel.cell (p:=bd.add k) (by rw [Ap]; omega)).trans hcb;obtain ⟨ox,ho,hf⟩:=HR.out.cell (show k<len y+1 by omega);clear hl h32 hr he hbel hca hcb
   go_wp2
   go_roundw
   case rel=>exact ⟨k+1,_,by omega,by go_num,by go_num,by omega,HR.out.step' (by omega) (Nat.le_refl _) GQ.out GP.out _ rfl⟩
   case measure=>simp [intOf]; omega
  ·have hk':k=len x:=by omega
   subst hk'
   go_wp2_with fail
   go_loopw [6,9] (λcr i wr=>∃ k c:Nat,len x≤k∧k≤len y∧i = .int .i64 k∧cr = .int .u64 c∧c≤1∧CI w w.heap.size (len y) (Ae y) (Ae x) wr k c) (λ_ i _=>len y - (intOf i).toNat)
   case atStart=>exact ⟨_,c,Nat.le_refl _,by omega,rfl,rfl,hc1,HR.out⟩
   case round =>
    clear HR hc1;obtain ⟨k,c,hk1,hk2,rfl,rfl,hc1,hrel⟩:=hrel;have HR:=Lib.hid hrel;clear hrel
    by_cases hlt2:k<len y
    ·obtain ⟨ad',e,_,hca⟩:=hb.at_ (show k<(Ae y).length by rw [Aa]; omega)
     injection e with e
     subst e;have hp:=(As y).get (show k<(Ae y).length by rw [Aa]; omega);have gp:=At (show k<(Ae y).length by rw [Aa]; omega);have gq:(Ae x).getD k 0=0:=by simp [List.getD,List.getElem?_eq_none (show (Ae x).length≤k from hk1)]
     generalize (Ae y)[k]'(by rw [Aa]; omega)=p at *;have GP:=Lib.hid gp;have GQ:=Lib.hid gq;clear gp gq;obtain ⟨ds,hl,h32,hr,he,hbel⟩:=HR.out;have hca':=(hbel.cell (p:=bd.add k) (by rw [Ap]; omega)).trans hca;obtain ⟨ox,ho,hf⟩:=HR.out.cell (show k<len y+1 by omega);clear hl h32 hr he hbel hca
     go_wp2
     go_roundw
     case rel=>exact ⟨k+1,_,by omega,by omega,by go_num,by go_num,by omega,HR.out.step' (by omega) (Nat.le_refl _) GP.out GQ.out _ (by omega)⟩
     case measure=>simp [intOf]; omega
    ·have hk':k=len y:=by omega
     subst hk';obtain ⟨ox,ho,hf⟩:=HR.out.cell (show len y<len y+1 by omega);obtain ⟨ds,hl,h32,hr,he,hbel⟩:=HR.out.finish (Nat.le_refl _) (by omega) (Nat.le_refl _) (by rw [Aa]; omega);have HE:=Lib.hid he;clear he
     go_wp2_with fail
     refine (Dg _ _ _ ds _ hl (hr.mem hr.lt) (by omega) (by omega) h32).mono ?_
     rintro e w1 ⟨rfl,rfl⟩
     go_wp2
     go_ret
     refine ⟨_,rfl,?_,hbel⟩;have:=hr.nat h32 (c:=len y+1) (by omega);have he':=HE.out;rw [Ao,Ao] at he';rw [show x+y=val ds from by omega];exact this
set_option maxHeartbeats 400000 in
theorem Lh(va vb:Value)(x y:Nat)(w:World)(ha:AB w va x)(hb:AB w vb y)(hx:len x≤1099511627776)(hy:len y≤1099511627776) :
  Calls Tryz.prog 130 #[va,vb] w (CC (x+y) w):=by
 obtain ⟨A,c,rfl,hc,hma⟩:=ha;obtain ⟨B,d,rfl,hd,hmb⟩:=hb
 rcases Nat.lt_or_ge (len x) (len y) with hlt | hge
 ·rcases Nat.eq_zero_or_pos (len x) with h0 | h0
  ·have hx0:x=0:=AZ.1 h0
   subst hx0;have HB:Hid (AB w (.slice B (len y) d) y):=⟨B,d,rfl,hd,hmb⟩;rw [Nat.zero_add];rw [AX] at *;have ht:decide (0<len y)=true:=by simp; omega
   go_enter Tryz.func130,Tryz.ntmps130
   go_wp2
   go_ret
   exact ⟨_,rfl,HB.out,Below.refl _ _⟩
  ·exact AcM A B c d x y w hma hmb hy hlt h0
 ·rcases Nat.eq_zero_or_pos (len y) with h0 | h0
  ·have hy0:y=0:=AZ.1 h0
   subst hy0;have HB:Hid (AB w (.slice A (len x) c) x):=⟨A,c,rfl,hc,hma⟩;rw [Nat.add_zero];rw [AX] at *;have ht:decide (len x<0)=false:=by simp
   go_enter Tryz.func130,Tryz.ntmps130
   go_wp2
   go_ret
   exact ⟨_,rfl,HB.out,Below.refl _ _⟩
  ·exact Adl A B c d x y w hma hmb hx hge h0
def Ep(w:World)(g n:Nat)(X Y:List Nat)(wr:World)(k c:Nat):Prop:=
 ∃ ds:List Nat,ds.length=n∧Bx ds∧Cx wr g ds∧val (ds.take k)+val (Y.take k)=val (X.take k)+4294967296 ^ k*c∧Below w.heap.size w wr
def QB(p q c:Nat):Nat:=(p+18446744073709551616 - q - c) % 18446744073709551616
theorem mI(p q c:Nat):QB p q c<18446744073709551616:=by unfold QB; omega
theorem Xo{p q c:Nat}(_hp:p<4294967296)(_hq:q<4294967296)(_hc:c≤1):QB p q c / 9223372036854775808≤1:=by unfold QB; omega
theorem tE{p q c:Nat}(hp:p<4294967296)(hq:q<4294967296)(hc:c≤1):IntKind.u64.wrap (IntKind.u64.wrap ((p:Int) - (q:Int)) - (c:Int))=(QB p q c:Int):=by
 unfold QB; rw [IntKind.wrap_u64,IntKind.wrap_u64]; omega
theorem ZN{p c:Nat}(hp:p<4294967296)(hc:c≤1):IntKind.u64.wrap ((p:Int) - (c:Int))=(QB p 0 c:Int):=by
 unfold QB; rw [IntKind.wrap_u64]; omega
theorem Ep.step{w wr:World}{g n:Nat}{X Y:List Nat}{k c p q:Nat}(h:Ep w g n X Y wr k c)(hk:k<n)(hg:w.heap.size≤g)(hp:X.getD k 0=p)(hq:Y.getD k 0=q)(hp':p<4294967296)(hq':q<4294967296)(hc:c≤1)
  (v:Int) (hv:v=(QB p q c:Int) % 4294967296):Ep w g n X Y (wr.setCell ⟨g,k,none⟩ (.int .u32 v)) (k+1) (QB p q c / 9223372036854775808):=by
 obtain ⟨ds,hl,h32,hr,he,hb⟩:=h;have e:v=((QB p q c % 4294967296:Nat):Int):=by omega
 rw [e];refine ⟨ds.set k (QB p q c % 4294967296),by simpa using hl,h32.set (by omega),hr.set_ k _,?_,hb.setCell (by simpa using hg) _⟩;rw [BP _ _ _ (by omega),Au X,Au Y,hp,hq,Nat.pow_succ];have e1:QB p q c % 4294967296+q+c=p+4294967296*(QB p q c / 9223372036854775808):=by unfold QB; omega
 generalize QB p q c / 9223372036854775808=d at *;generalize QB p q c % 4294967296=r at *;generalize 4294967296 ^ k=P at *;have e2:P*(r+q+c)=P*(p+4294967296*d):=by rw [e1]
 rw [Nat.mul_add,Nat.mul_add,Nat.mul_add,← Nat.mul_assoc] at e2;omega
theorem Ep.cell{w wr:World}{g n:Nat}{X Y:List Nat}{k c:Nat}(h:Ep w g n X Y wr k c){i:Nat}(hi:i<n):∃ x:Nat,wr.cell? ⟨g,i,none⟩=some (.int .u32 (x:Int))∧wr.frozen? ⟨g,i,none⟩=false:=by
 obtain ⟨ds,hl,h32,hr,he,hb⟩:=h;exact ⟨_,hr.cell (by omega),hr.frozen i⟩
theorem Ep.start(w:World)(n:Nat)(X Y:List Nat):Ep w w.heap.size n X Y (w.alloc (B9 (List.replicate n 0))) 0 0:=
 ⟨_,by simp,Bx.replicate _,Cx.new _ _,by simp [val],Ai _ _⟩
theorem Ep.finish{w wr:World}{g n:Nat}{X Y:List Nat}{c:Nat}(h:Ep w g n X Y wr n c)(hX:X.length≤n)(hY:Y.length≤n)(hxy:val Y≤val X) :
  ∃ ds:List Nat,ds.length=n∧Bx ds∧Cx wr g ds∧val ds=val X - val Y∧Below w.heap.size w wr:=by
 obtain ⟨ds,hl,h32,hr,he,hb⟩:=h;refine ⟨ds,hl,h32,hr,?_,hb⟩;rw [List.take_of_length_le (by omega),List.take_of_length_le hX,List.take_of_length_le hY] at he;have h1:=Cv h32;rw [hl] at h1
 rcases Nat.eq_zero_or_pos c with h0 | h0
 ·rw [h0] at he; omega
 ·have:4294967296 ^ n*1≤4294967296 ^ n*c:=Nat.mul_le_mul_left _ h0
  omega
set_option maxHeartbeats 1000000 in
theorem Mq(A B:Option Addr)(c d x y:Nat)(w:World)(ha:CQ w w.heap.size A (Ae x))(hb:CQ w w.heap.size B (Ae y))(hx:len x≤1099511627776)(hxy:y≤x)(hy0:0<len y) :
  Calls Tryz.prog 131 #[.slice A (len x) c,.slice B (len y) d] w (CC (x - y) w):=by
 have hle:len y≤len x:=AY hxy;have ht2:((len y:Int) == 0)=false:=by simp; omega
 have hmk:=λW=>Kw ((len x:Int)) (by omega) (by omega) W
 rw [Int.toNat_natCast] at hmk;obtain ⟨ad,rfl,_,hca⟩:=ha.at_ (show 0<(Ae x).length by rw [Aa]; omega);obtain ⟨bd,rfl,_,hcb⟩:=hb.at_ (show 0<(Ae y).length by rw [Aa]; omega);clear hca hcb
 go_enter Tryz.func131,Tryz.ntmps131
 go_wp2_with fail
 go_loopw [6,21] (λcr i wr=>∃ k c:Nat,k≤len y∧i = .int .i64 k∧cr = .int .u64 c∧c≤1∧Ep w w.heap.size (len x) (Ae x) (Ae y) wr k c) (λ_ i _=>len y - (intOf i).toNat)
 case atStart=>exact ⟨0,0,by omega,rfl,rfl,by omega,Ep.start _ _ _ _⟩
 case round =>
  obtain ⟨k,c,hk,rfl,rfl,hc1,hrel⟩:=hrel;have HR:=Lib.hid hrel;clear hrel
  by_cases hlt:k<len y
  ·obtain ⟨ad',e,_,hca⟩:=ha.at_ (show k<(Ae x).length by rw [Aa]; omega)
   injection e with e
   subst e;obtain ⟨bd',e,_,hcb⟩:=hb.at_ (show k<(Ae y).length by rw [Aa]; omega);injection e with e
   subst e;have hp:=(As x).get (show k<(Ae x).length by rw [Aa]; omega);have hq:=(As y).get (show k<(Ae y).length by rw [Aa]; omega);have gp:=At (show k<(Ae x).length by rw [Aa]; omega);have gq:=At (show k<(Ae y).length by rw [Aa]; omega);generalize (Ae x)[k]'(by rw [Aa]; omega)=p at *;generalize (Ae y)[k]'(by rw [Aa]; omega)=q at *;have GP:=Lib.hid gp;have GQ:=Lib.hid gq;clear gp gq;obtain ⟨ds,hl,h32,hr,he,hbel⟩:=HR.out;have hca':=(hbel.cell (p:=ad.add k) (by rw [Ap]; omega)).trans hca;have hcb':=(hbel.cell (p:=bd.add k) (by rw [Ap]; omega)).trans hcb;obtain ⟨ox,ho,hf⟩:=HR.out.cell (show k<len x by omega);clear hl h32 hr he hbel hca hcb;have hw:=tE hp hq hc1;have hd:=mI p q c;have ht:=Xo hp hq hc1;have hst:=Lib.hid (HR.out.step (by omega) (Nat.le_refl _) GP.out GQ.out hp hq hc1 _ rfl);generalize QB p q c=D at *;clear HR
   go_wp2
   go_roundw
   case rel=>exact ⟨k+1,D / 9223372036854775808,by omega,by go_num,by go_num,by omega,hst.out⟩
   case measure=>simp [intOf]; omega
  ·have hk':k=len y:=by omega
   subst hk'
   go_wp2_with fail
   go_loopw [6,10] (λcr i wr=>∃ k c:Nat,len y≤k∧k≤len x∧i = .int .i64 k∧cr = .int .u64 c∧c≤1∧Ep w w.heap.size (len x) (Ae x) (Ae y) wr k c) (λ_ i _=>len x - (intOf i).toNat)
   case atStart=>exact ⟨_,c,Nat.le_refl _,by omega,rfl,rfl,hc1,HR.out⟩
   case round =>
    clear HR hc1;obtain ⟨k,c,hk1,hk2,rfl,rfl,hc1,hrel⟩:=hrel;have HR:=Lib.hid hrel;clear hrel
    by_cases hlt2:k<len x
    ·obtain ⟨ad',e,_,hca⟩:=ha.at_ (show k<(Ae x).length by rw [Aa]; omega)
     injection e with e
     subst e;have hp:=(As x).get (show k<(Ae x).length by rw [Aa]; omega);have gp:=At (show k<(Ae x).length by rw [Aa]; omega);have gq:(Ae y).getD k 0=0:=by simp [List.getD,List.getElem?_eq_none (show (Ae y).length≤k from hk1)]
     generalize (Ae x)[k]'(by rw [Aa]; omega)=p at *;have GP:=Lib.hid gp;have GQ:=Lib.hid gq;clear gp gq;obtain ⟨ds,hl,h32,hr,he,hbel⟩:=HR.out;have hca':=(hbel.cell (p:=ad.add k) (by rw [Ap]; omega)).trans hca;obtain ⟨ox,ho,hf⟩:=HR.out.cell (show k<len x by omega);clear hl h32 hr he hbel hca;have hw:=ZN hp hc1;have hd:=mI p 0 c;have ht:=Xo (q:=0) hp (by omega) hc1;have hst:=Lib.hid (HR.out.step (by omega) (Nat.le_refl _) GP.out GQ.out hp (by omega) hc1 _ rfl);generalize QB p 0 c=D at *;clear HR
     go_wp2
     go_roundw
     case rel=>exact ⟨k+1,D / 9223372036854775808,by omega,by omega,by go_num,by go_num,by omega,hst.out⟩
     case measure=>simp [intOf]; omega
    ·have hk':k=len x:=by omega
     subst hk';obtain ⟨ds,hl,h32,hr,he,hbel⟩:=HR.out.finish (Nat.le_refl _) (by rw [Aa]; omega) (by rw [Ao,Ao]; exact hxy);have HE:=Lib.hid he;clear he
     go_wp2_with fail
     refine (Dg _ _ _ ds _ hl (hr.mem hr.lt) (by omega) (by omega) h32).mono ?_
     rintro e w1 ⟨rfl,rfl⟩
     go_wp2
     go_ret
     refine ⟨_,rfl,?_,hbel⟩;have:=hr.nat h32 (c:=len x) (by omega);have he':=HE.out;rw [Ao,Ao] at he';rw [show x - y=val ds from by omega];exact this
set_option maxHeartbeats 400000 in
theorem Ci(va vb:Value)(x y:Nat)(w:World)(ha:AB w va x)(hb:AB w vb y)(hx:len x≤1099511627776)(hxy:y≤x) :
  Calls Tryz.prog 131 #[va,vb] w (CC (x - y) w):=by
 obtain ⟨A,c,rfl,hc,hma⟩:=ha;obtain ⟨B,d,rfl,hd,hmb⟩:=hb
 rcases Nat.eq_zero_or_pos (len y) with h0 | h0
 ·have hy0:y=0:=AZ.1 h0
  subst hy0;have HB:Hid (AB w (.slice A (len x) c) x):=⟨A,c,rfl,hc,hma⟩;rw [Nat.sub_zero];rw [AX] at *
  go_enter Tryz.func131,Tryz.ntmps131
  go_wp2
  go_ret
  exact ⟨_,rfl,HB.out,Below.refl _ _⟩
 ·exact Mq A B c d x y w hma hmb hx hxy h0
theorem DX{p q:Nat}(hp:p<4294967296)(hq:q<4294967296):p*q≤18446744065119617025:=by
 have:=Nat.mul_le_mul (show p≤4294967295 by omega) (show q≤4294967295 by omega);omega
theorem Li:val []=0:=rfl
theorem Zh(ds:List Nat)(t r:Nat)(ht:t<ds.length):val (ds.set t r)+4294967296 ^ t*ds.getD t 0=val ds+4294967296 ^ t*r:=by
 induction ds generalizing t with
 | nil=>simp at ht
 | cons x l ih =>
  match t with
  | 0=>simp [val]; omega
  | t+1 =>
   have:=ih t (by simpa using ht);simp only [List.set_cons_succ,val,List.getD_cons_succ,Nat.pow_succ];generalize 4294967296 ^ t=P at *;rw [Nat.mul_assoc,Nat.mul_comm 4294967296 (l.getD t 0),← Nat.mul_assoc,Nat.mul_assoc P 4294967296 r,Nat.mul_comm 4294967296 r,← Nat.mul_assoc];generalize P*l.getD t 0=u at *;generalize P*r=v at *;omega
def Bh(w:World)(g n m:Nat)(X Y:List Nat)(wr:World)(i j p c:Nat):Prop:=
 ∃ ds:List Nat,ds.length=n∧Bx ds∧Cx wr g ds∧val ds+4294967296 ^ (i+j)*c=val (X.take i)*val Y+4294967296 ^ i*(p*val (Y.take j))∧(∀ t,i+m≤t→ds.getD t 0=0)∧Below w.heap.size w wr
theorem Bh.cell{w wr:World}{g n m:Nat}{X Y:List Nat}{i j p c:Nat}(h:Bh w g n m X Y wr i j p c){t:Nat}(ht:t<n):∃ x:Nat,x<4294967296∧wr.cell? ⟨g,t,none⟩=some (.int .u32 (x:Int))∧wr.frozen? ⟨g,t,none⟩=false ∧
  (j<m→∀ q c':Nat,Y.getD j 0=q→t=i+j→w.heap.size≤g→c'=(c+(p*q+x)) / 4294967296→∀ v:Int,v=((c:Int)+((p:Int)*(q:Int)+(x:Int))) % 4294967296→Bh w g n m X Y (wr.setCell ⟨g,t,none⟩ (.int .u32 v)) i (j+1) p c'):=by
 obtain ⟨ds,hl,h32,hr,he,hz,hb⟩:=h;refine ⟨_,h32.get (show t<ds.length by omega),hr.cell (by omega),hr.frozen t,?_⟩;intro hj q c' hq htij hg hc' v hv;have gx:=At (show t<ds.length by omega);generalize ds[t]'(by omega)=x at *;have e:v=(((c+(p*q+x)) % 4294967296:Nat):Int):=by
  rw [← Int.natCast_mul] at hv;generalize p*q=pq at *;omega
 rw [e];subst hc';refine ⟨ds.set t ((c+(p*q+x)) % 4294967296),by simpa using hl,h32.set (by omega),hr.set_ t _,?_,λt' ht'=>?_,hb.setCell (by simpa using hg) _⟩
 ·have hs:=Zh ds t ((c+(p*q+x)) % 4294967296) (by omega)
  rw [gx] at hs;rw [Au Y,hq,show i+(j+1)=t+1 from by omega,Nat.pow_succ];rw [← htij] at he;have e1:4294967296 ^ t=4294967296 ^ i*4294967296 ^ j:=by rw [htij,Nat.pow_add]
  have e2:c+(p*q+x)=4294967296*((c+(p*q+x)) / 4294967296)+(c+(p*q+x)) % 4294967296:=by omega
  generalize (c+(p*q+x)) / 4294967296=d at *;generalize (c+(p*q+x)) % 4294967296=r at *;have e3:4294967296 ^ i*(p*(val (Y.take j)+4294967296 ^ j*q))=4294967296 ^ i*(p*val (Y.take j))+4294967296 ^ t*(p*q):=by
   rw [e1,Nat.mul_add,Nat.mul_add,Nat.mul_assoc]
   congr 2
   rw [Nat.mul_left_comm]
  rw [e3];generalize 4294967296 ^ i*(p*val (Y.take j))=a at *;generalize val (X.take i)*val Y=b at *;generalize 4294967296 ^ t=P at *;have e4:P*(c+(p*q+x))=P*(4294967296*d+r):=by rw [e2]
  rw [Nat.mul_add,Nat.mul_add,Nat.mul_add,← Nat.mul_assoc P 4294967296 d] at e4;omega
 ·rw [List.getD_eq_getElem?_getD,List.getElem?_set_ne (by omega),← List.getD_eq_getElem?_getD]
  exact hz t' ht'
theorem Bh.start{w:World}{n m:Nat}{X Y:List Nat}(p:Nat):Bh w w.heap.size n m X Y (w.alloc (B9 (List.replicate n 0))) 0 0 p 0:=
 ⟨_,by simp,Bx.replicate _,Cx.new _ _,by simp [val,Ip],λt _=>by simp [List.getD,List.getElem?_replicate]; split <;> rfl,Ai _ _⟩
theorem Bh.row{w wr:World}{g n m:Nat}{X Y:List Nat}{i p p':Nat}(h:Bh w g n m X Y wr i 0 p 0):Bh w g n m X Y wr i 0 p' 0:=by
 obtain ⟨ds,hl,h32,hr,he,hz,hb⟩:=h;exact ⟨ds,hl,h32,hr,by rw [List.take_zero,Li,Nat.mul_zero,Nat.mul_zero] at he ⊢; exact he,hz,hb⟩
theorem Bh.next{w wr:World}{g n m:Nat}{X Y:List Nat}{i p c:Nat}(h:Bh w g n m X Y wr i m p c)(hg:w.heap.size≤g)(hi:i+m<n)(hc:c<4294967296)(hp:X.getD i 0=p)(hY:Y.length≤m)(p':Nat) :
  Bh w g n m X Y (wr.setCell ⟨g,i+m,none⟩ (.int .u32 (c:Int))) (i+1) 0 p' 0:=by
 obtain ⟨ds,hl,h32,hr,he,hz,hb⟩:=h;refine ⟨ds.set (i+m) c,by simpa using hl,h32.set hc,hr.set_ _ c,?_,λt' ht'=>?_,hb.setCell (by simpa using hg) _⟩
 ·have hs:=Zh ds (i+m) c (by omega)
  rw [hz _ (Nat.le_refl _),Nat.mul_zero,Nat.add_zero] at hs;rw [List.take_of_length_le hY] at he;rw [Nat.mul_zero,Nat.add_zero,hs,he,Au,hp,List.take_zero,Li,Nat.mul_zero,Nat.mul_zero,Nat.add_zero,Nat.add_mul,Nat.mul_assoc]
 ·rw [List.getD_eq_getElem?_getD,List.getElem?_set_ne (by omega),← List.getD_eq_getElem?_getD]
  exact hz t' (by omega)
theorem Bh.drewN{w wr:World}{g n m:Nat}{X Y:List Nat}{i j p c:Nat}(h:Bh w g n m X Y wr i j p c)(k:Nat):Bh w g n m X Y (wr.drewN k) i j p c:=by
 obtain ⟨ds,hl,h32,hr,he,hz,hb⟩:=h;exact ⟨ds,hl,h32,hr,he,hz,⟨hb.os,hb.tape,hb.output,hb.size,hb.block⟩⟩
theorem Bh.finish{w wr:World}{g n m:Nat}{X Y:List Nat}{i p:Nat}(h:Bh w g n m X Y wr i 0 p 0)(hX:X.length≤i) :
  ∃ ds:List Nat,ds.length=n∧Bx ds∧Cx wr g ds∧val ds=val X*val Y∧Below w.heap.size w wr:=by
 obtain ⟨ds,hl,h32,hr,he,hz,hb⟩:=h;refine ⟨ds,hl,h32,hr,?_,hb⟩;rw [List.take_of_length_le hX] at he;rw [List.take_zero,Li,Nat.mul_zero,Nat.mul_zero,Nat.mul_zero,Nat.add_zero,Nat.add_zero] at he;exact he
set_option maxHeartbeats 2000000 in
theorem VX(A B:Option Addr)(c d x y:Nat)(w:World)(ha:CQ w w.heap.size A (Ae x))(hb:CQ w w.heap.size B (Ae y))(hx:len x≤1099511627776)(hy:len y≤1099511627776)(hle:len x≤len y)(hx0:0<len x)(hy0:0<len y) :
  Calls Tryz.prog 105 #[.slice A (len x) c,.slice B (len y) d] w (CC (x*y) w):=by
 have ht:decide (len y<len x)=false:=by simp; omega
 have ht2:((len x:Int) == 0)=false:=by simp; omega
 have ht3:((len y:Int) == 0)=false:=by simp; omega
 have hmk:=λW=>Kw ((len x:Int)+(len y:Int)) (by omega) (by omega) W
 have e1:((len x:Int)+(len y:Int)).toNat=len x+len y:=by omega
 rw [e1] at hmk;clear e1;obtain ⟨ad,rfl,_,hca⟩:=ha.at_ (show 0<(Ae x).length by rw [Aa]; omega);obtain ⟨bd,rfl,_,hcb⟩:=hb.at_ (show 0<(Ae y).length by rw [Aa]; omega);clear hca hcb
 go_enter Tryz.func105,Tryz.ntmps105
 go_wp2_with fail
 go_loopw [35] (λi wr=>∃ k:Nat,k≤len x∧i = .int .i64 k∧Bh w w.heap.size (len x+len y) (len y) (Ae x) (Ae y) wr k 0 0 0) (λi _=>len x - (intOf i).toNat)
 case atStart=>exact ⟨0,by omega,rfl,Bh.start 0⟩
 case round =>
  obtain ⟨k,hk,rfl,hR0⟩:=hrel
  by_cases hlt:k<len x
  ·obtain ⟨ad',e,_,hca⟩:=ha.at_ (show k<(Ae x).length by rw [Aa]; omega)
   injection e with e
   subst e;have hp:=(As x).get (show k<(Ae x).length by rw [Aa]; omega);have gp:=At (show k<(Ae x).length by rw [Aa]; omega);generalize (Ae x)[k]'(by rw [Aa]; omega)=p at *;have GP:=Lib.hid gp;clear gp;obtain ⟨ds,hl,h32,hr,he,hz,hbel⟩:=hR0;have hca':=(hbel.cell (p:=ad.add k) (by rw [Ap]; omega)).trans hca;have HR:Hid (Bh w w.heap.size (len x+len y) (len y) (Ae x) (Ae y) wr k 0 p 0):=Bh.row ⟨ds,hl,h32,hr,he,hz,hbel⟩;clear hl h32 hr he hz hbel hca;have b1:(0:Int)≤(k:Int):=by omega
   have b2:(k:Int)<(len x:Int):=by omega
   go_wp2_with fail
   go_quiet (fail)
   have HR1:=Lib.hid (HR.out.drewN nq);clear HR;generalize wr.drewN nq=wo at *
   go_wp2_with fail
   go_loopw [9,53] (λcr i wr2=>∃ j cc:Nat,j≤len y∧i = .int .i64 j∧cr = .int .u64 cc∧cc<4294967296∧Bh w w.heap.size (len x+len y) (len y) (Ae x) (Ae y) wr2 k j p cc) (λ_ i _=>len y - (intOf i).toNat)
   case atStart=>exact ⟨0,0,by omega,rfl,rfl,by omega,HR1.out⟩
   case round =>
    obtain ⟨j,cc,hj,rfl,rfl,hcc,hrel⟩:=hrel;have HR2:=Lib.hid hrel;clear hrel HR1
    by_cases hlj:j<len y
    ·obtain ⟨bd',e,_,hcb⟩:=hb.at_ (show j<(Ae y).length by rw [Aa]; omega)
     injection e with e
     subst e;have hq:=(As y).get (show j<(Ae y).length by rw [Aa]; omega);have gq:=At (show j<(Ae y).length by rw [Aa]; omega);generalize (Ae y)[j]'(by rw [Aa]; omega)=q at *;have GQ:=Lib.hid gq;clear gq;obtain ⟨ds,hl,h32,hr,he,hz,hbel⟩:=HR2.out;have hcb':=(hbel.cell (p:=bd.add j) (by rw [Ap]; omega)).trans hcb;clear hl h32 hr he hz hbel hcb;obtain ⟨r,hr,hcell,hfz,hstep⟩:=HR2.out.cell (t:=k+j) (by omega);have HS:=Lib.hid (hstep hlj q _ GQ.out rfl (Nat.le_refl _) rfl _ rfl);have hm:=DX hp hq;have hm0:(0:Int)≤(p:Int)*(q:Int):=by rw [← Int.natCast_mul]; omega
     have hm1:(p:Int)*(q:Int)≤18446744065119617025:=by rw [← Int.natCast_mul]; omega
     clear hstep HR2 hm
     go_wp2
     go_roundw
     case rel=>exact ⟨j+1,(cc+(p*q+r)) / 4294967296,by omega,by go_num,by congr 1,by have:=DX hp hq; generalize p*q=pq at *; omega,HS.out⟩
     case measure=>simp [intOf]; omega
    ·have hj':j=len y:=by omega
     subst hj';obtain ⟨r,hr,hcell,hfz,hstep⟩:=HR2.out.cell (t:=k+len y) (by omega);clear hstep
     go_wp2
     go_roundw
     case rel=>exact ⟨k+1,by omega,by go_num,HR2.out.next (Nat.le_refl _) (by omega) hcc GP.out (Nat.le_refl _) 0⟩
     case measure=>simp [intOf]; omega
  ·have hk':k=len x:=by omega
   subst hk';obtain ⟨ds,hl,h32,hr,he,hbel⟩:=hR0.finish (Nat.le_refl _);have HE:=Lib.hid he;clear he
   go_wp2_with fail
   refine (Dg _ _ _ ds _ hl (hr.mem hr.lt) (by omega) (by omega) h32).mono ?_
   rintro e w1 ⟨rfl,rfl⟩
   go_wp2
   go_ret
   refine ⟨_,rfl,?_,hbel⟩;have:=hr.nat h32 (c:=len x+len y) (by omega);have he':=HE.out;rw [Ao,Ao] at he';rw [show x*y=val ds from by rw [he']];exact this
set_option maxHeartbeats 2000000 in
theorem Ws(A B:Option Addr)(c d x y:Nat)(w:World)(ha:CQ w w.heap.size A (Ae x))(hb:CQ w w.heap.size B (Ae y))(hx:len x≤1099511627776)(hy:len y≤1099511627776)(hle:len y<len x)(hx0:0<len x)(hy0:0<len y) :
  Calls Tryz.prog 105 #[.slice A (len x) c,.slice B (len y) d] w (CC (x*y) w):=by
 have ht:decide (len y<len x)=true:=by simp; omega
 have ht2:((len x:Int) == 0)=false:=by simp; omega
 have ht3:((len y:Int) == 0)=false:=by simp; omega
 have hmk:=λW=>Kw ((len y:Int)+(len x:Int)) (by omega) (by omega) W
 have e1:((len y:Int)+(len x:Int)).toNat=len y+len x:=by omega
 rw [e1] at hmk;clear e1;obtain ⟨ad,rfl,_,hca⟩:=ha.at_ (show 0<(Ae x).length by rw [Aa]; omega);obtain ⟨bd,rfl,_,hcb⟩:=hb.at_ (show 0<(Ae y).length by rw [Aa]; omega);clear hca hcb
 go_enter Tryz.func105,Tryz.ntmps105
 go_wp2_with fail
 go_loopw [35] (λi wr=>∃ k:Nat,k≤len y∧i = .int .i64 k∧Bh w w.heap.size (len y+len x) (len x) (Ae y) (Ae x) wr k 0 0 0) (λi _=>len y - (intOf i).toNat)
 case atStart=>exact ⟨0,by omega,rfl,Bh.start 0⟩
 case round =>
  obtain ⟨k,hk,rfl,hR0⟩:=hrel
  by_cases hlt:k<len y
  ·obtain ⟨bd',e,_,hca⟩:=hb.at_ (show k<(Ae y).length by rw [Aa]; omega)
   injection e with e
   subst e;have hp:=(As y).get (show k<(Ae y).length by rw [Aa]; omega);have gp:=At (show k<(Ae y).length by rw [Aa]; omega);generalize (Ae y)[k]'(by rw [Aa]; omega)=p at *;have GP:=Lib.hid gp;clear gp;obtain ⟨ds,hl,h32,hr,he,hz,hbel⟩:=hR0;have hca':=(hbel.cell (p:=bd.add k) (by rw [Ap]; omega)).trans hca;have HR:Hid (Bh w w.heap.size (len y+len x) (len x) (Ae y) (Ae x) wr k 0 p 0):=Bh.row ⟨ds,hl,h32,hr,he,hz,hbel⟩;clear hl h32 hr he hz hbel hca;have b1:(0:Int)≤(k:Int):=by omega
   have b2:(k:Int)<(len y:Int):=by omega
   go_wp2_with fail
   go_quiet (fail)
   have HR1:=Lib.hid (HR.out.drewN nq);clear HR;generalize wr.drewN nq=wo at *
   go_wp2_with fail
   go_loopw [9,53] (λcr i wr2=>∃ j cc:Nat,j≤len x∧i = .int .i64 j∧cr = .int .u64 cc∧cc<4294967296∧Bh w w.heap.size (len y+len x) (len x) (Ae y) (Ae x) wr2 k j p cc) (λ_ i _=>len x - (intOf i).toNat)
   case atStart=>exact ⟨0,0,by omega,rfl,rfl,by omega,HR1.out⟩
   case round =>
    obtain ⟨j,cc,hj,rfl,rfl,hcc,hrel⟩:=hrel;have HR2:=Lib.hid hrel;clear hrel HR1
    by_cases hlj:j<len x
    ·obtain ⟨ad',e,_,hcb⟩:=ha.at_ (show j<(Ae x).length by rw [Aa]; omega)
     injection e with e
     subst e;have hq:=(As x).get (show j<(Ae x).length by rw [Aa]; omega);have gq:=At (show j<(Ae x).length by rw [Aa]; omega);generalize (Ae x)[j]'(by rw [Aa]; omega)=q at *;have GQ:=Lib.hid gq;clear gq;obtain ⟨ds,hl,h32,hr,he,hz,hbel⟩:=HR2.out;have hcb':=(hbel.cell (p:=ad.add j) (by rw [Ap]; omega)).trans hcb;clear hl h32 hr he hz hbel hcb;obtain ⟨r,hr,hcell,hfz,hstep⟩:=HR2.out.cell (t:=k+j) (by omega);have HS:=Lib.hid (hstep hlj q _ GQ.out rfl (Nat.le_refl _) rfl _ rfl);have hm:=DX hp hq;have hm0:(0:Int)≤(p:Int)*(q:Int):=by rw [← Int.natCast_mul]; omega
     have hm1:(p:Int)*(q:Int)≤18446744065119617025:=by rw [← Int.natCast_mul]; omega
     clear hstep HR2 hm
     go_wp2
     go_roundw
     case rel=>exact ⟨j+1,(cc+(p*q+r)) / 4294967296,by omega,by go_num,by congr 1,by have:=DX hp hq; generalize p*q=pq at *; omega,HS.out⟩
     case measure=>simp [intOf]; omega
    ·have hj':j=len x:=by omega
     subst hj';obtain ⟨r,hr,hcell,hfz,hstep⟩:=HR2.out.cell (t:=k+len x) (by omega);clear hstep
     go_wp2
     go_roundw
     case rel=>exact ⟨k+1,by omega,by go_num,HR2.out.next (Nat.le_refl _) (by omega) hcc GP.out (Nat.le_refl _) 0⟩
     case measure=>simp [intOf]; omega
  ·have hk':k=len y:=by omega
   subst hk';obtain ⟨ds,hl,h32,hr,he,hbel⟩:=hR0.finish (Nat.le_refl _);have HE:=Lib.hid he;clear he
   go_wp2_with fail
   refine (Dg _ _ _ ds _ hl (hr.mem hr.lt) (by omega) (by omega) h32).mono ?_
   rintro e w1 ⟨rfl,rfl⟩
   go_wp2
   go_ret
   refine ⟨_,rfl,?_,hbel⟩;have:=hr.nat h32 (c:=len y+len x) (by omega);have he':=HE.out;rw [Ao,Ao] at he';rw [show x*y=val ds from by rw [he']; exact Nat.mul_comm _ _];exact this
set_option maxHeartbeats 400000 in
theorem SJ(va vb:Value)(x y:Nat)(w:World)(ha:AB w va x)(hb:AB w vb y)(hx:len x≤1099511627776)(hy:len y≤1099511627776) :
  Calls Tryz.prog 105 #[va,vb] w (CC (x*y) w):=by
 obtain ⟨A,c,rfl,hc,hma⟩:=ha;obtain ⟨B,d,rfl,hd,hmb⟩:=hb
 rcases Nat.eq_zero_or_pos (len x) with h0 | h0
 ·have hx0:x=0:=AZ.1 h0
  subst hx0;rw [Nat.zero_mul];rw [AX] at *
  go_enter Tryz.func105,Tryz.ntmps105
  go_wp2
  go_ret
  exact ⟨_,rfl,AB.zero _ _ _,Below.refl _ _⟩
 ·rcases Nat.eq_zero_or_pos (len y) with h1 | h1
  ·have hy0:y=0:=AZ.1 h1
   subst hy0;have ht2:((len x:Int) == 0)=false:=by simp; omega
   rw [Nat.mul_zero];rw [AX] at *
   go_enter Tryz.func105,Tryz.ntmps105
   go_wp2
   go_ret
   exact ⟨_,rfl,AB.zero _ _ _,Below.refl _ _⟩
  ·rcases Nat.lt_or_ge (len y) (len x) with hlt | hge
   ·exact Ws A B c d x y w hma hmb hx hy hlt h0 h1
   ·exact VX A B c d x y w hma hmb hx hy hge h0 h1
end Go.Proofs.YtdopbgnkneeceaaGreat

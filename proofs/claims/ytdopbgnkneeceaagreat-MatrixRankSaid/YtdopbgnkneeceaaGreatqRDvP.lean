/- Contracts and facts for the reference's divide and DivMod. -/
import Derived.Test.YtdopbgnkneeceaaGreatqDivP
import Derived.Test.YtdopbgnkneeceaaGreatqREst
set_option linter.unusedSectionVars false
set_option linter.unusedVariables false
set_option linter.unusedSimpArgs false
set_option maxRecDepth 100000
namespace Go.Proofs.YtdopbgnkneeceaaGreat
open Go.RowKit
def Qh(n:Nat):PF:=⟨λv w=>∃(A:Option Addr)(k c:Nat)(ms:List Nat),v = .slice A k c∧ms.length=k∧k≤c∧k≤4398046511104∧Bo ms∧val ms=n∧CJ w w.heap.size A ms,
 λ_ _ _ hg ⟨A,k,c,ms,e,h1,h2,h3,h4,h5,h6⟩=>⟨A,k,c,ms,e,h1,h2,h3,h4,h5,h6.grow hg⟩⟩
section
variable {w Wb : World} {va vb : Value}
theorem K3{n:Nat}(ha:(Qh n).p va w)(hv:(Am (.bool false)).p vb w):Calls Tryz.prog 89 #[va,vb] w (Aj (Af (n:Int)) w):=by
 have hv:vb = .bool false:=hv;subst hv;obtain ⟨A,k,c,ms,rfl,h1,h2,h3,h4,rfl,h6⟩:=ha;exact CZ A k c ms false w h1 h6.raw h3 h2 h4
theorem V9{n d:Nat}(ha:(Av n).p va w)(hv:(Am (.int .u32 (d:Int))).p vb w)(hn:len n≤4398046511104)(h0:0<d)(h1:d<4294967296):Calls Tryz.prog 132 #[va,vb] w (Aj (BT (Qh (n / d)) (Am (.int .u32 ((n % d:Nat):Int)))) w):=by
 have hv:vb = .int .u32 (d:Int):=hv;subst hv;have ha:AB w va n:=ha;obtain ⟨A,c,rfl,H⟩:=ha.open_;refine (TK A (len n) c (Ac n) d w (Aa n) H.out.mem.2.2 (As n) hn h0 h1).mono ?_
 rintro e w' ⟨ds,rfl,hl,h32,hv,hr,hb⟩
 rw [An] at hv ⊢;exact ⟨_,rfl,⟨_,_,rfl,⟨_,_,_,ds,rfl,hl,Nat.le_refl _,hn,h32,hv,hr.mem hr.lt⟩,rfl⟩,hb⟩
theorem Ack{R D:Nat}(ha:(Av R).p va w)(hb:(Av D).p vb w)(h0:0<D)(hle:D≤R)(hl:len R≤1099511627776):Calls Tryz.prog 133 #[va,vb] w (Aj (Af (Cb R D:Nat)) w):=
 mY va vb R D w ha hb h0 hle hl
theorem yN{x y:Nat}(ha:(Av x).p va w)(hb:(Av y).p vb w)(hx:len x≤1099511627776)(hy:len y≤1099511627776):Calls Tryz.prog 88 #[va,vb] w (Aj (Am (.bool (decide (x<y)))) w):=by
 have ha:AB w va x:=ha;have hb:AB w vb y:=hb;obtain ⟨A,c,rfl,H⟩:=ha.open_;obtain ⟨B,d,rfl,K⟩:=hb.open_;exact (Mw A B c d x y w H.out K.out hx hy).mono λ_ _ ⟨he,hbb,_⟩=>⟨_,he,rfl,hbb⟩
theorem nL{n k c:Nat}{ad:Addr}(hN:AB Wb (.slice (some ad) k c) n)(hbl:Below Wb.heap.size Wb w)(ha:(Am (.slice (some ad) k c)).p va w)(hv:(Am (.bool false)).p vb w)(hn:len n≤4398046511104):Calls Tryz.prog 89 #[va,vb] w (Aj (Af (n:Int)) w):=by
 have ha:va = .slice (some ad) k c:=ha;subst ha;exact Kz (show AB w _ n from hN.into hbl) hv hn
theorem mA{z:Int}(ha:(Av z.natAbs).p va w)(hv:(Am (.bool (decide (z<0)))).p vb w)(hn:len z.natAbs≤4398046511104):Calls Tryz.prog 89 #[va,vb] w (Aj (Af z) w):=by
 have hv:vb = .bool (decide (z<0)):=hv;subst hv;have:=R8 va z.natAbs (decide (z<0)) w ha hn;rwa [BW] at this
end
theorem bH{ρ:Operand→Value}{w:World}{x:Operand}{n:Nat}(hn:n<4294967296)(hx:(Am (.int .u32 (n:Int))).p (ρ x) w):Fr (.buildSlice 32 1 #[(0,x)]) ρ w (Qh n):=by
 have hx:ρ x = .int .u32 (n:Int):=hx;refine ⟨.slice (some ⟨w.heap.size,0,none⟩) 1 1,w.alloc (BV [n]),λo ho=>?_,Ai _ _,?_⟩
 ·unfold execOp
  rw [ho];simp [go_sem,hx,BV]
 ·exact ⟨_,_,_,[n],rfl,rfl,Nat.le_refl _,by omega,Bo.mk hn Bo.nil_,by simp [val],(Cr.new w [n]).mem (by simp)⟩
theorem N0{Wb:World}{N:Nat}{S:List (Nat × PF)}{B:List (Nat × CF)}{a:Act}{w:World}{fn:Func}{t t':Nat}{z z':Int}(hst:St Wb N S B a w)(hr:fn.results = #[.cell t 34,.cell t' 34])(k:Nat)(hk:B[k]? = some (t,Ak z))(k':Nat)(hk':B[k']? = some (t',Ak z')):bodyPost Tryz.prog fn (Aj (BT (Af z) (Af z')) Wb) .ret a w:=by
 obtain ⟨g,h1,_,b,A,n,c,hh,hi⟩:=hst.boxes.get hk;obtain ⟨g',h1',_,b',A',n',c',hh',hi'⟩:=hst.boxes.get hk';have h0:w.cell? ⟨g,0,none⟩=some (.bool b):=by rw [cell_of_row w g 0 _ _ (0,0) hh]; rfl
 have h2:w.cell? ⟨g,1,none⟩=some (.slice A n c):=by rw [cell_of_row w g 1 _ _ (0,0) hh]; rfl
 have h0':w.cell? ⟨g',0,none⟩=some (.bool b'):=by rw [cell_of_row w g' 0 _ _ (0,0) hh']; rfl
 have h2':w.cell? ⟨g',1,none⟩=some (.slice A' n' c'):=by rw [cell_of_row w g' 1 _ _ (0,0) hh']; rfl
 refine bodyPost_ret (v:=.tuple #[.agg #[.bool b,.slice A n c],.agg #[.bool b',.slice A' n' c']]) ?_ hst.defers ⟨_,rfl,⟨_,_,rfl,hi,hi'⟩,hst.below⟩;simp [results,hr,go_sem,h0,h2,h0',h2',Array.getD_eq_getD_getElem?,h1,h1']
theorem NK(q:Nat)(w:World):(Instr.fieldAt 34 (.pointer (some ⟨q,0,none⟩)) 0).run Tryz.prog w = .ok (.pointer (some ⟨q,0,none⟩)) w:=by simp [go_sem]
theorem BS{z:Int}{e:Bool}(he:decide (z<0)=e)(w:World)(q:Nat)(h:(Ak z).p q w):∃ v,(Instr.loadAt 4 (.pointer (some ⟨q,0,none⟩))).run Tryz.prog w = .ok v w∧(Am (.bool e)).p v w:=by
 obtain ⟨b,A,k,c,hh,s,e,hs⟩:=h;have h1:w.cell? ⟨q,0,none⟩=some (.bool b):=by rw [cell_of_row w q 0 _ _ (0,0) hh]; rfl
 simp only [Value.agg.injEq,Array.mk.injEq,List.cons.injEq,and_true] at e;exact ⟨.bool b,by simp [go_sem,h1],he ▸ e.1⟩
theorem Ou{x y q r:Int}(hy:0<y)(h:r+y*q=x)(h0:0≤r)(h1:r<y):q=x / y∧r=x % y:=by
 have:=(Int.ediv_emod_unique (a:=x) (q:=q) (r:=r) hy).2 ⟨h,h0,h1⟩;exact ⟨this.1.symm,this.2.symm⟩
theorem Us{x y q r:Int}(hy:y<0)(h:r+y*q=x)(h0:0≤r)(h1:r < -y):q=x / y∧r=x % y:=by
 have:=Ou (x:=x) (y:=-y) (q:=-q) (r:=r) (by omega) (by rw [Int.neg_mul_neg]; exact h) h0 h1;rw [Int.ediv_neg,Int.emod_neg] at this;exact ⟨by omega,this.2⟩
theorem JS(x y:Int)(hy:y≠0):∃ Q R:Int,((x.natAbs / y.natAbs:Nat):Int)=Q∧((x.natAbs % y.natAbs:Nat):Int)=R∧R+(y.natAbs:Int)*Q=(x.natAbs:Int)∧0≤R∧R<(y.natAbs:Int):=by
 have h:=Nat.mod_add_div x.natAbs y.natAbs;have h2:=Nat.mod_lt x.natAbs (show 0<y.natAbs by omega);refine ⟨_,_,rfl,rfl,?_,by omega,by omega⟩;rw [← Int.natCast_mul,← Int.natCast_add,h]
theorem EN{a b i:Nat}(h:Sm ((b:Nat):Int) i)(hle:a≤b):Sm ((a:Nat):Int) i:=Nat.lt_of_le_of_lt hle h
theorem Wx{x y:Nat}{va vb:Value}{w:World}{b:Bool}(ha:(Av x).p va w)(hb:(Av y).p vb w)(hx:len x≤1099511627776)(hy:len y≤1099511627776)(e:decide (x<y)=b):Calls Tryz.prog 88 #[va,vb] w (Aj (Am (.bool b)) w):=e ▸ yN ha hb hx hy
noncomputable def OK:=C8 Tryz.f120
noncomputable def Tx:=cl OK
noncomputable def JK:=cr OK
theorem jJ:OK = .seq Tx JK:=by kernel_rfl
noncomputable def TV:=A8 Tx
theorem jG:Tx = .region 0 TV false:=by kernel_rfl
noncomputable def OR:=cl JK
noncomputable def Li:=cr JK
theorem Zo:JK = .seq OR Li:=by kernel_rfl
noncomputable def UQ:=cl OR
noncomputable def JX:=cr OR
theorem Z_:OR = .seq UQ JX:=by kernel_rfl
noncomputable def TU:=A8 UQ
theorem aA:UQ = .region 1 TU false:=by kernel_rfl
noncomputable def ML:=cl JX
noncomputable def Tf:=cr JX
theorem cE:JX = .cond (.tmp 18) ML Tf:=by kernel_rfl
noncomputable def UJ:=cl ML
noncomputable def IF:=cr ML
theorem xB:ML = .seq UJ IF:=by kernel_rfl
noncomputable def aY:=A8 UJ
theorem vL:UJ = .region 2 aY false:=by kernel_rfl
noncomputable def OJ:=cl IF
noncomputable def Pk:=cr IF
theorem oT:IF = .seq OJ Pk:=by kernel_rfl
noncomputable def dS:=A8 OJ
theorem qK:OJ = .region 3 dS false:=by kernel_rfl
theorem pZ:Pk = .ret:=by kernel_rfl
theorem zG:Tf = .skip:=by kernel_rfl
noncomputable def O1:=cl Li
noncomputable def Iw:=cr Li
theorem Abp:Li = .seq O1 Iw:=by kernel_rfl
noncomputable def ZA:=A8 O1
theorem pS:O1 = .region 4 ZA false:=by kernel_rfl
noncomputable def Oz:=cl Iw
noncomputable def I0:=cr Iw
theorem nK:Iw = .seq Oz I0:=by kernel_rfl
noncomputable def Ku:=cl Oz
theorem lQ:Oz = .block 0 Ku:=by kernel_rfl
noncomputable def IN:=cl Ku
theorem kR:Ku = .loop IN:=by kernel_rfl
noncomputable def K6:=cl IN
noncomputable def Kv:=cr IN
theorem WN:IN = .seq K6 Kv:=by kernel_rfl
noncomputable def Qq:=cl K6
noncomputable def GO:=cr K6
theorem WX:K6 = .seq Qq GO:=by kernel_rfl
noncomputable def SN:=A8 Qq
theorem Ve:Qq = .region 5 SN false:=by kernel_rfl
noncomputable def Ox:=cl GO
noncomputable def QA:=cr GO
theorem Vm:GO = .cond (.tmp 42) Ox QA:=by kernel_rfl
theorem mX:Ox = .skip:=by kernel_rfl
theorem pC:QA = .exit 0:=by kernel_rfl
noncomputable def KA:=cl Kv
theorem pW:Kv = .block 1 KA:=by kernel_rfl
noncomputable def Zl:=A8 KA
theorem kQ:KA = .region 6 Zl false:=by kernel_rfl
noncomputable def Oj:=cl I0
noncomputable def It:=cr I0
theorem mC:I0 = .seq Oj It:=by kernel_rfl
noncomputable def dG:=A8 Oj
theorem qO:Oj = .region 7 dG false:=by kernel_rfl
noncomputable def O4:=cl It
noncomputable def Jf:=cr It
theorem rH:It = .seq O4 Jf:=by kernel_rfl
noncomputable def bL:=A8 O4
theorem kM:O4 = .region 8 bL true:=by kernel_rfl
noncomputable def Pg:=cl Jf
noncomputable def I3:=cr Jf
theorem kX:Jf = .seq Pg I3:=by kernel_rfl
noncomputable def KO:=cl Pg
theorem mQ:Pg = .block 2 KO:=by kernel_rfl
noncomputable def IA:=cl KO
theorem oS:KO = .loop IA:=by kernel_rfl
noncomputable def K4:=cl IA
noncomputable def KK:=cr IA
theorem Vd:IA = .seq K4 KK:=by kernel_rfl
noncomputable def O6:=cl K4
noncomputable def G4:=cr K4
theorem WK:K4 = .seq O6 G4:=by kernel_rfl
noncomputable def UR:=A8 O6
theorem U4:O6 = .region 9 UR false:=by kernel_rfl
noncomputable def Oh:=cl G4
noncomputable def Pe:=cr G4
theorem WA:G4 = .cond (.tmp 62) Oh Pe:=by kernel_rfl
theorem oM:Oh = .skip:=by kernel_rfl
theorem oZ:Pe = .exit 2:=by kernel_rfl
noncomputable def IB:=cl KK
theorem oH:KK = .block 3 IB:=by kernel_rfl
noncomputable def Qy:=cl IB
noncomputable def Jb:=cr IB
theorem kH:IB = .seq Qy Jb:=by kernel_rfl
noncomputable def Wo:=A8 Qy
theorem kW:Qy = .region 10 Wo false:=by kernel_rfl
noncomputable def P6:=cl Jb
noncomputable def KJ:=cr Jb
theorem nH:Jb = .seq P6 KJ:=by kernel_rfl
noncomputable def VO:=A8 P6
theorem pN:P6 = .region 11 VO false:=by kernel_rfl
noncomputable def WY:=A8 KJ
theorem oK:KJ = .region 12 WY true:=by kernel_rfl
noncomputable def Pc:=cl I3
noncomputable def Ja:=cr I3
theorem lP:I3 = .seq Pc Ja:=by kernel_rfl
noncomputable def VV:=A8 Pc
theorem oJ:Pc = .region 13 VV false:=by kernel_rfl
noncomputable def P0:=cl Ja
noncomputable def Pv:=cr Ja
theorem mP:Ja = .seq P0 Pv:=by kernel_rfl
noncomputable def VY:=A8 P0
theorem oU:P0 = .region 14 VY true:=by kernel_rfl
theorem mI:Pv = .ret:=by kernel_rfl
section
set_option linter.unusedSectionVars false
variable {Wb : World} {x y i j n cap t : Nat} {bd : Addr} (sx : Sm ((x : Nat) : Int) i) (sy : Sm ((y : Nat) : Int) j) (hi : i ≤ 400000000) (hj : j ≤ 400000000) (hN : AB Wb (.slice (some bd) n cap) y) (ct : Wb.cell? (bd.add (n - 1)) = some (.int .u32 (t : Int))) (hn : 1 ≤ n) (hn2 : n ≤ 1099511627776) (ht0 : 0 < t) (ht : t < 4294967296)
include sx sy hi hj hN ct hn hn2 ht0 ht
theorem Aa8(n1:n=1)(ct0:Wb.cell? (bd.add 0)=some (.int .u32 (t:Int))):RA 86 [(Av x),(Am (.slice (some bd) n cap))] [AQ] ⟨[(0,(.ref 0)),(1,(.ref 1))],[]⟩ ⟨[(0,(.ref 0)),(1,(.ref 1))],[(4,0),(5,0)]⟩ Wb 0 TV false:=RA.of
   { allocs:=[⟨34,0,_,AP,AR⟩] } (by kernel_rfl)
theorem zR(n1:n=1)(ct0:Wb.cell? (bd.add 0)=some (.int .u32 (t:Int))):RA 86 [(Am (.slice (some bd) n cap)),(Am (.int .i64 (n:Int))),(Av x)] [AQ] ⟨[(0,(.ref 2)),(1,(.ref 0))],[(4,0),(5,0)]⟩ ⟨[(0,(.ref 2)),(1,(.ref 0)),(18,(.bool true))],[(4,0),(5,0)]⟩ Wb 1 TU false:=RA.of
   { pures:=[p1 (.blt .len [32]) (.ref 0) (.ref 1) λ_ _ _ _ hx=>NL hx,
      p2 (.bin .eql 3 3) (.ref 1) (.int .i64 1) (.bool true) λ_ _ _ _ _ hx hy=>Co (r:=true) (by simp; omega) hx hy] } (by kernel_rfl)
theorem xQ(n1:n=1)(ct0:Wb.cell? (bd.add 0)=some (.int .u32 (t:Int))):RA 86 [(Am (.slice (some bd) n cap)),(Am (.pointer (some ((bd).add (0))))),(Am (.int .u32 (t:Int))),(Av x),(Qh (x / t)),(Am (.int .u32 ((x % t:Nat):Int)))] [AQ] ⟨[(0,(.ref 3)),(1,(.ref 0)),(18,(.bool true))],[(4,0),(5,0)]⟩ ⟨[(0,(.ref 3)),(1,(.ref 0)),(6,(.ref 4)),(7,(.ref 5)),(18,(.bool true))],[(4,0),(5,0)]⟩ Wb 2 aY false:=RA.of
   { pures:=[p2 (.idx 32) (.ref 0) (.int .i64 0) (.ref 1) λ_ _ _ _ _ hx hy=>I5 (k:=0) (by omega) hx hy,
      p1 (.ld 114) (.ref 1) (.ref 2) λ_ _ _ hb hx=>D7 ct0 hb Ci hx],
     calls:=[c2 132 (.ref 3) (.ref 2) (.tup2 (.ref 4) (.ref 5)) λw v0 v1 hb h0 h1=>V9 h0 h1 (Nat.le_trans (AL sx) (by omega)) (by omega) (by omega)] } (by kernel_rfl)
theorem AaL(n1:n=1)(ct0:Wb.cell? (bd.add 0)=some (.int .u32 (t:Int))):RA 86 [(Qh (x / t)),(Af (((x / t):Nat):Int)),(Am (.int .u32 ((x % t:Nat):Int))),(Qh (x % t)),(Af (((x % t):Nat):Int)),(Av x),(Am (.slice (some bd) n cap))] [AQ,(Ak (((x / t):Nat):Int)),(Ak (((x % t):Nat):Int))] ⟨[(0,(.ref 5)),(1,(.ref 6)),(6,(.ref 0)),(7,(.ref 2)),(18,(.bool true))],[(4,0),(5,0)]⟩ ⟨[(0,(.ref 5)),(1,(.ref 6)),(6,(.ref 0)),(7,(.ref 2)),(18,(.bool true))],[(4,1),(5,2)]⟩ Wb 3 dS false:=RA.of
   { pures:=[p1 (.blds 32 1 [0]) (.ref 2) (.ref 3) λ_ _ _ _ hx=>bH (Nat.lt_of_lt_of_le (Nat.mod_lt _ (by omega)) (Nat.le_of_lt (by assumption))) hx],
     calls:=[c2 89 (.ref 0) (.bool false) (.ref 1) λw v0 v1 hb h0 h1=>K3 h0 h1,
      c2 89 (.ref 3) (.bool false) (.ref 4) λw v0 v1 hb h0 h1=>K3 h0 h1],
     stores:=[⟨34,0,0,(.ref 1),1,(Ag _)⟩,
      ⟨34,0,0,(.ref 4),2,(Ag _)⟩] } (by kernel_rfl)
theorem qP(n1:¬ n=1):RA 86 [(Av x),(Am (.slice (some bd) n cap))] [AQ] ⟨[(0,(.ref 0)),(1,(.ref 1))],[]⟩ ⟨[(0,(.ref 0)),(1,(.ref 1))],[(4,0),(5,0)]⟩ Wb 0 TV false:=RA.of
   { allocs:=[⟨34,0,_,AP,AR⟩] } (by kernel_rfl)
theorem oF(n1:¬ n=1):RA 86 [(Am (.slice (some bd) n cap)),(Am (.int .i64 (n:Int))),(Av x)] [AQ] ⟨[(0,(.ref 2)),(1,(.ref 0))],[(4,0),(5,0)]⟩ ⟨[(0,(.ref 2)),(1,(.ref 0)),(18,(.bool false))],[(4,0),(5,0)]⟩ Wb 1 TU false:=RA.of
   { pures:=[p1 (.blt .len [32]) (.ref 0) (.ref 1) λ_ _ _ _ hx=>NL hx,
      p2 (.bin .eql 3 3) (.ref 1) (.int .i64 1) (.bool false) λ_ _ _ _ _ hx hy=>Co (r:=false) (by simp; omega) hx hy] } (by kernel_rfl)
theorem vG(n1:¬ n=1):RA 86 [(Av x),(Am (.slice (some bd) n cap))] [AQ] ⟨[(0,(.ref 0)),(1,(.ref 1)),(18,(.bool false))],[(4,0),(5,0)]⟩ ⟨[(0,(.ref 0)),(1,(.ref 1)),(8,(.int .u32 1)),(18,(.bool false))],[(4,0),(5,0)]⟩ Wb 4 ZA false:=RA.of
   {  } (by kernel_rfl)
theorem Aay(n1:¬ n=1){s:Nat}(hs0:0<s)(hs1:s<4294967296)(hts:t*s<4294967296)(hlo:t*s<2147483648):RA 86 [(Am (.slice (some bd) n cap)),(Am (.int .i64 (n:Int))),(Am (.int .i64 ((n - 1:Nat):Int))),(Am (.pointer (some ((bd).add (n - 1))))),(Am (.int .u32 (t:Int))),(Am (.int .u64 (t:Int))),(Am (.int .u32 (s:Int))),(Am (.int .u64 (s:Int))),(Am (.int .u64 ((t*s:Nat):Int))),(Av x)] [AQ] ⟨[(0,(.ref 9)),(1,(.ref 0)),(8,(.ref 6)),(18,(.bool false))],[(4,0),(5,0)]⟩ ⟨[(0,(.ref 9)),(1,(.ref 0)),(8,(.ref 6)),(18,(.bool false)),(42,(.bool true))],[(4,0),(5,0)]⟩ Wb 5 SN false:=RA.of
   { pures:=[p1 (.blt .len [32]) (.ref 0) (.ref 1) λ_ _ _ _ hx=>NL hx,
      p2 (.bin .sub 3 3) (.ref 1) (.int .i64 1) (.ref 2) λ_ _ _ _ _ hx hy=>J3 (z:=((n - 1:Nat):Int)) (by rw [IntKind.wrap_i64]; omega) hx hy,
      p2 (.idx 32) (.ref 0) (.ref 2) (.ref 3) λ_ _ _ _ _ hx hy=>I5 (k:=n - 1) (by omega) hx hy,
      p1 (.ld 114) (.ref 3) (.ref 4) λ_ _ _ hb hx=>D7 ct hb Ci hx,
      p1 (.conv 114 112) (.ref 4) (.ref 5) λ_ _ _ _ hx=>CW (by omega) (by omega) hx,
      p1 (.conv 114 112) (.ref 6) (.ref 7) λ_ _ _ _ hx=>CW (by omega) (by omega) hx,
      p2 (.bin .mul 112 112) (.ref 5) (.ref 7) (.ref 8) λ_ _ _ _ _ hx hy=>RE (z:=((t*s:Nat):Int)) (by rw [IntKind.wrap_u64]; rw [← Int.natCast_mul]; omega) hx hy,
      p2 (.bin .lss 112 112) (.ref 8) (.int .u64 2147483648) (.bool true) λ_ _ _ _ _ hx hy=>Gb (r:=true) (by simp only [decide_eq_true_eq,decide_eq_false_iff_not]; omega) hx hy] } (by kernel_rfl)
theorem xR(n1:¬ n=1){s:Nat}(hs0:0<s)(hs1:s<4294967296)(hts:t*s<4294967296)(hlo:t*s<2147483648):RA 86 [(Am (.int .u32 (s:Int))),(Am (.int .u32 ((2*s:Nat):Int))),(Av x),(Am (.slice (some bd) n cap))] [AQ] ⟨[(0,(.ref 2)),(1,(.ref 3)),(8,(.ref 0)),(18,(.bool false)),(42,(.bool true))],[(4,0),(5,0)]⟩ ⟨[(0,(.ref 2)),(1,(.ref 3)),(8,(.ref 1)),(18,(.bool false)),(42,(.bool true))],[(4,0),(5,0)]⟩ Wb 6 Zl false:=RA.of
   { pures:=[p2 (.bin .mul 114 114) (.int .u32 2) (.ref 0) (.ref 1) λ_ _ _ _ _ hx hy=>RE (z:=((2*s:Nat):Int)) (by rw [IntKind.wrap_u32]; have h3:s≤t*s:=Nat.le_mul_of_pos_left s ht0; omega) hx hy] } (by kernel_rfl)
theorem pY(n1:¬ n=1){s:Nat}(hs0:0<s)(hs1:s<4294967296)(hts:t*s<4294967296)(hhi:2147483648≤t*s):RA 86 [(Am (.slice (some bd) n cap)),(Am (.int .i64 (n:Int))),(Am (.int .i64 ((n - 1:Nat):Int))),(Am (.pointer (some ((bd).add (n - 1))))),(Am (.int .u32 (t:Int))),(Am (.int .u64 (t:Int))),(Am (.int .u32 (s:Int))),(Am (.int .u64 (s:Int))),(Am (.int .u64 ((t*s:Nat):Int))),(Av x)] [AQ] ⟨[(0,(.ref 9)),(1,(.ref 0)),(8,(.ref 6)),(18,(.bool false))],[(4,0),(5,0)]⟩ ⟨[(0,(.ref 9)),(1,(.ref 0)),(8,(.ref 6)),(18,(.bool false)),(42,(.bool false))],[(4,0),(5,0)]⟩ Wb 5 SN false:=RA.of
   { pures:=[p1 (.blt .len [32]) (.ref 0) (.ref 1) λ_ _ _ _ hx=>NL hx,
      p2 (.bin .sub 3 3) (.ref 1) (.int .i64 1) (.ref 2) λ_ _ _ _ _ hx hy=>J3 (z:=((n - 1:Nat):Int)) (by rw [IntKind.wrap_i64]; omega) hx hy,
      p2 (.idx 32) (.ref 0) (.ref 2) (.ref 3) λ_ _ _ _ _ hx hy=>I5 (k:=n - 1) (by omega) hx hy,
      p1 (.ld 114) (.ref 3) (.ref 4) λ_ _ _ hb hx=>D7 ct hb Ci hx,
      p1 (.conv 114 112) (.ref 4) (.ref 5) λ_ _ _ _ hx=>CW (by omega) (by omega) hx,
      p1 (.conv 114 112) (.ref 6) (.ref 7) λ_ _ _ _ hx=>CW (by omega) (by omega) hx,
      p2 (.bin .mul 112 112) (.ref 5) (.ref 7) (.ref 8) λ_ _ _ _ _ hx hy=>RE (z:=((t*s:Nat):Int)) (by rw [IntKind.wrap_u64]; rw [← Int.natCast_mul]; omega) hx hy,
      p2 (.bin .lss 112 112) (.ref 8) (.int .u64 2147483648) (.bool false) λ_ _ _ _ _ hx hy=>Gb (r:=false) (by simp only [decide_eq_true_eq,decide_eq_false_iff_not]; omega) hx hy] } (by kernel_rfl)
theorem xO(n1:¬ n=1){s:Nat}(hs0:0<s)(hs1:s<4294967296):RA 86 [(Am (.int .u32 (s:Int))),(Qh s),(Af ((s:Nat):Int)),(Av x),(Am (.slice (some bd) n cap))] [AQ,(Ak ((s:Nat):Int))] ⟨[(0,(.ref 3)),(1,(.ref 4)),(8,(.ref 0)),(18,(.bool false)),(42,(.bool false))],[(4,0),(5,0)]⟩ ⟨[(0,(.ref 3)),(1,(.ref 4)),(8,(.ref 0)),(18,(.bool false)),(42,(.bool false))],[(4,0),(5,0),(9,1)]⟩ Wb 7 dG false:=RA.of
   { pures:=[p1 (.blds 32 1 [0]) (.ref 0) (.ref 1) λ_ _ _ _ hx=>bH hs1 hx],
     calls:=[c2 89 (.ref 1) (.bool false) (.ref 2) λw v0 v1 hb h0 h1=>K3 h0 h1],
     allocs:=[⟨34,0,_,AP,AR⟩],
     stores:=[⟨34,0,0,(.ref 2),1,(Ag _)⟩] } (by kernel_rfl)
theorem vE(n1:¬ n=1){s:Nat}(hs0:0<s)(hs1:s<4294967296):RA 86 [(Av x),(Af ((x:Nat):Int)),(Af ((s:Nat):Int)),(Af (((x:Nat):Int)*((s:Nat):Int))),(Am (.slice (some bd) n cap)),(Af ((y:Nat):Int)),(Af (((y:Nat):Int)*((s:Nat):Int))),(Af 0),(Am (.int .u32 (s:Int)))] [(Ak ((s:Nat):Int)),AQ,(Ak (((x:Nat):Int)*((s:Nat):Int))),(Ak (((y:Nat):Int)*((s:Nat):Int))),(Ak 0)] ⟨[(0,(.ref 0)),(1,(.ref 4)),(8,(.ref 8)),(18,(.bool false)),(42,(.bool false))],[(4,1),(5,1),(9,0)]⟩ ⟨[(0,(.ref 0)),(1,(.ref 4)),(8,(.ref 8)),(18,(.bool false)),(42,(.bool false))],[(4,1),(5,1),(9,0),(10,2),(11,3),(12,4)]⟩ Wb 8 bL true:=RA.of
   { pures:=[p0 (.bld 34 []) (.ref 7) λ_ _ _=>Zs],
     calls:=[c2 89 (.ref 0) (.bool false) (.ref 1) λw v0 v1 hb h0 h1=>Kz h0 h1 (Nat.le_trans (AL sx) (by omega)),
      c2 62 (.ref 1) (.ref 2) (.ref 3) λw v0 v1 hb h0 h1=>FW h0 h1 sx (Sm.of _ (by omega)) (by first | decide | assumption | omega) (by first | decide | assumption | omega),
      c2 89 (.ref 4) (.bool false) (.ref 5) λw v0 v1 hb h0 h1=>nL hN hb h0 h1 (Nat.le_trans (AL sy) (by omega)),
      c2 62 (.ref 5) (.ref 2) (.ref 6) λw v0 v1 hb h0 h1=>FW h0 h1 sy (Sm.of _ (by omega)) (by first | decide | assumption | omega) (by first | decide | assumption | omega)],
     loads:=[⟨34,0,0,(.ref 2),λw q h=>Ah w q h⟩],
     allocs:=[⟨34,1,_,AP,AR⟩],
     stores:=[⟨34,0,1,(.ref 3),2,(Ag _)⟩,
      ⟨34,0,1,(.ref 6),3,(Ag _)⟩,
      ⟨34,0,1,(.ref 7),4,(Ag _)⟩] } (by kernel_rfl)
theorem Aag(n1:¬ n=1){s:Nat}(hs0:0<s)(hs1:s<4294967296){q r d:Nat}(hd0:0<d)(sd:Sm ((d:Nat):Int) (j+2))(sr:Sm ((r:Nat):Int) (i+2))(sq:Sm ((q:Nat):Int) (i+2))(hdr:r<d):RA 86 [(Av r),(Av d),(Av x),(Am (.slice (some bd) n cap)),(Am (.int .u32 (s:Int)))] [(Ak ((r:Nat):Int)),(Ak ((d:Nat):Int)),AQ,(Ak ((s:Nat):Int)),(Ak ((q:Nat):Int))] ⟨[(0,(.ref 2)),(1,(.ref 3)),(8,(.ref 4)),(18,(.bool false)),(42,(.bool false))],[(4,2),(5,2),(9,3),(10,0),(11,1),(12,4)]⟩ ⟨[(0,(.ref 2)),(1,(.ref 3)),(8,(.ref 4)),(18,(.bool false)),(42,(.bool false)),(62,(.bool false))],[(4,2),(5,2),(9,3),(10,0),(11,1),(12,4)]⟩ Wb 9 UR false:=RA.of
   { calls:=[c2 88 (.ref 0) (.ref 1) (.bool true) λw v0 v1 hb h0 h1=>Wx h0 h1 (Nat.le_trans (AL sr) (by omega)) (Nat.le_trans (AL sd) (by omega)) (by simp; omega)],
     loads:=[⟨32,1,0,(.ref 0),λw q h=>Bk w q h⟩,
      ⟨32,1,1,(.ref 1),λw q h=>Bk w q h⟩],
     flds:=[⟨34,1,1,F_⟩] } (by kernel_rfl)
theorem nO(n1:¬ n=1){s:Nat}(hs0:0<s)(hs1:s<4294967296){q r d:Nat}(hd0:0<d)(sd:Sm ((d:Nat):Int) (j+2))(sr:Sm ((r:Nat):Int) (i+2))(sq:Sm ((q:Nat):Int) (i+2)):RA 86 [(Av r),(Am (.int .u32 (s:Int))),(Qh (r / s)),(Am (.int .u32 ((r % s:Nat):Int))),(Av x),(Am (.slice (some bd) n cap))] [(Ak ((r:Nat):Int)),AQ,(Ak ((s:Nat):Int)),(Ak ((d:Nat):Int)),(Ak ((q:Nat):Int))] ⟨[(0,(.ref 4)),(1,(.ref 5)),(8,(.ref 1)),(18,(.bool false)),(42,(.bool false)),(62,(.bool false))],[(4,1),(5,1),(9,2),(10,0),(11,3),(12,4)]⟩ ⟨[(0,(.ref 4)),(1,(.ref 5)),(8,(.ref 1)),(14,(.ref 2)),(18,(.bool false)),(42,(.bool false)),(62,(.bool false))],[(4,1),(5,1),(9,2),(10,0),(11,3),(12,4)]⟩ Wb 13 VV false:=RA.of
   { calls:=[c2 132 (.ref 0) (.ref 1) (.tup2 (.ref 2) (.ref 3)) λw v0 v1 hb h0 h1=>V9 h0 h1 (Nat.le_trans (AL sr) (by omega)) (by omega) (by omega)],
     loads:=[⟨32,1,0,(.ref 0),λw q h=>Bk w q h⟩],
     flds:=[⟨34,1,1,F_⟩] } (by kernel_rfl)
theorem mF(n1:¬ n=1){s:Nat}(hs0:0<s)(hs1:s<4294967296){q r d:Nat}(hd0:0<d)(sd:Sm ((d:Nat):Int) (j+2))(sr:Sm ((r:Nat):Int) (i+2))(sq:Sm ((q:Nat):Int) (i+2)):RA 86 [(Af ((q:Nat):Int)),(Qh (r / s)),(Af (((r / s):Nat):Int)),(Av x),(Am (.slice (some bd) n cap)),(Am (.int .u32 (s:Int)))] [(Ak ((q:Nat):Int)),AQ,(Ak (((r / s):Nat):Int)),(Ak ((s:Nat):Int)),(Ak ((r:Nat):Int)),(Ak ((d:Nat):Int))] ⟨[(0,(.ref 3)),(1,(.ref 4)),(8,(.ref 5)),(14,(.ref 1)),(18,(.bool false)),(42,(.bool false)),(62,(.bool false))],[(4,1),(5,1),(9,3),(10,4),(11,5),(12,0)]⟩ ⟨[(0,(.ref 3)),(1,(.ref 4)),(8,(.ref 5)),(14,(.ref 1)),(18,(.bool false)),(42,(.bool false)),(62,(.bool false))],[(4,0),(5,2),(9,3),(10,4),(11,5),(12,0)]⟩ Wb 14 VY true:=RA.of
   { calls:=[c2 89 (.ref 1) (.bool false) (.ref 2) λw v0 v1 hb h0 h1=>K3 h0 h1],
     loads:=[⟨34,0,0,(.ref 0),λw q h=>Ah w q h⟩],
     stores:=[⟨34,0,1,(.ref 0),0,(Ag _)⟩,
      ⟨34,0,1,(.ref 2),2,(Ag _)⟩] } (by kernel_rfl)
theorem mN(n1:¬ n=1){s:Nat}(hs0:0<s)(hs1:s<4294967296){q r d:Nat}(hd0:0<d)(sd:Sm ((d:Nat):Int) (j+2))(sr:Sm ((r:Nat):Int) (i+2))(sq:Sm ((q:Nat):Int) (i+2))(hdr:d≤r)(se:Sm ((Cb r d:Nat):Int) (i+2)):RA 86 [(Av r),(Av d),(Av x),(Am (.slice (some bd) n cap)),(Am (.int .u32 (s:Int)))] [(Ak ((r:Nat):Int)),(Ak ((d:Nat):Int)),AQ,(Ak ((s:Nat):Int)),(Ak ((q:Nat):Int))] ⟨[(0,(.ref 2)),(1,(.ref 3)),(8,(.ref 4)),(18,(.bool false)),(42,(.bool false))],[(4,2),(5,2),(9,3),(10,0),(11,1),(12,4)]⟩ ⟨[(0,(.ref 2)),(1,(.ref 3)),(8,(.ref 4)),(18,(.bool false)),(42,(.bool false)),(62,(.bool true))],[(4,2),(5,2),(9,3),(10,0),(11,1),(12,4)]⟩ Wb 9 UR false:=RA.of
   { calls:=[c2 88 (.ref 0) (.ref 1) (.bool false) λw v0 v1 hb h0 h1=>Wx h0 h1 (Nat.le_trans (AL sr) (by omega)) (Nat.le_trans (AL sd) (by omega)) (by simp; omega)],
     loads:=[⟨32,1,0,(.ref 0),λw q h=>Bk w q h⟩,
      ⟨32,1,1,(.ref 1),λw q h=>Bk w q h⟩],
     flds:=[⟨34,1,1,F_⟩] } (by kernel_rfl)
theorem nE(n1:¬ n=1){s:Nat}(hs0:0<s)(hs1:s<4294967296){q r d:Nat}(hd0:0<d)(sd:Sm ((d:Nat):Int) (j+2))(sr:Sm ((r:Nat):Int) (i+2))(sq:Sm ((q:Nat):Int) (i+2))(hdr:d≤r)(se:Sm ((Cb r d:Nat):Int) (i+2)):RA 86 [(Av r),(Av d),(Af ((Cb r d:Nat):Int)),(Av x),(Am (.slice (some bd) n cap)),(Am (.int .u32 (s:Int)))] [(Ak ((r:Nat):Int)),(Ak ((d:Nat):Int)),AQ,(Ak ((Cb r d:Nat):Int)),(Ak ((s:Nat):Int)),(Ak ((q:Nat):Int))] ⟨[(0,(.ref 3)),(1,(.ref 4)),(8,(.ref 5)),(18,(.bool false)),(42,(.bool false)),(62,(.bool true))],[(4,2),(5,2),(9,4),(10,0),(11,1),(12,5)]⟩ ⟨[(0,(.ref 3)),(1,(.ref 4)),(8,(.ref 5)),(18,(.bool false)),(42,(.bool false)),(62,(.bool true))],[(4,2),(5,2),(9,4),(10,0),(11,1),(12,5),(13,3)]⟩ Wb 10 Wo false:=RA.of
   { calls:=[c2 133 (.ref 0) (.ref 1) (.ref 2) λw v0 v1 hb h0 h1=>Ack h0 h1 hd0 hdr (Nat.le_trans (AL sr) (by omega))],
     loads:=[⟨32,1,0,(.ref 0),λw q h=>Bk w q h⟩,
      ⟨32,1,1,(.ref 1),λw q h=>Bk w q h⟩],
     allocs:=[⟨34,2,_,AP,AR⟩],
     stores:=[⟨34,0,2,(.ref 2),3,(Ag _)⟩],
     flds:=[⟨34,1,1,F_⟩] } (by kernel_rfl)
theorem lS(n1:¬ n=1){s:Nat}(hs0:0<s)(hs1:s<4294967296){q r d:Nat}(hd0:0<d)(sd:Sm ((d:Nat):Int) (j+2))(sr:Sm ((r:Nat):Int) (i+2))(sq:Sm ((q:Nat):Int) (i+2))(hdr:d≤r)(se:Sm ((Cb r d:Nat):Int) (i+2)):RA 86 [(Af ((q:Nat):Int)),(Af ((Cb r d:Nat):Int)),(Af (((q:Nat):Int)+((Cb r d:Nat):Int))),(Av x),(Am (.slice (some bd) n cap)),(Am (.int .u32 (s:Int)))] [(Ak ((q:Nat):Int)),(Ak ((Cb r d:Nat):Int)),(Ak (((q:Nat):Int)+((Cb r d:Nat):Int))),AQ,(Ak ((s:Nat):Int)),(Ak ((r:Nat):Int)),(Ak ((d:Nat):Int))] ⟨[(0,(.ref 3)),(1,(.ref 4)),(8,(.ref 5)),(18,(.bool false)),(42,(.bool false)),(62,(.bool true))],[(4,3),(5,3),(9,4),(10,5),(11,6),(12,0),(13,1)]⟩ ⟨[(0,(.ref 3)),(1,(.ref 4)),(8,(.ref 5)),(18,(.bool false)),(42,(.bool false)),(62,(.bool true))],[(4,3),(5,3),(9,4),(10,5),(11,6),(12,2),(13,1)]⟩ Wb 11 VO false:=RA.of
   { calls:=[c2 81 (.ref 0) (.ref 1) (.ref 2) λw v0 v1 hb h0 h1=>VJ h0 h1 sq se (by first | decide | assumption | omega) (by first | decide | assumption | omega)],
     loads:=[⟨34,0,0,(.ref 0),λw q h=>Ah w q h⟩,
      ⟨34,0,1,(.ref 1),λw q h=>Ah w q h⟩],
     stores:=[⟨34,0,0,(.ref 2),2,(AK _ _)⟩] } (by kernel_rfl)
theorem oD(n1:¬ n=1){s:Nat}(hs0:0<s)(hs1:s<4294967296){q r d:Nat}(hd0:0<d)(sd:Sm ((d:Nat):Int) (j+2))(sr:Sm ((r:Nat):Int) (i+2))(sq:Sm ((q:Nat):Int) (i+2))(hdr:d≤r)(se:Sm ((Cb r d:Nat):Int) (i+2)):RA 86 [(Af ((r:Nat):Int)),(Af ((Cb r d:Nat):Int)),(Af ((d:Nat):Int)),(Af (((Cb r d:Nat):Int)*((d:Nat):Int))),(Af (((r:Nat):Int) - (((Cb r d:Nat):Int)*((d:Nat):Int)))),(Av x),(Am (.slice (some bd) n cap)),(Am (.int .u32 (s:Int)))] [(Ak ((r:Nat):Int)),(Ak ((Cb r d:Nat):Int)),(Ak ((d:Nat):Int)),(Ak (((r:Nat):Int) - (((Cb r d:Nat):Int)*((d:Nat):Int)))),AQ,(Ak ((s:Nat):Int)),(Ak (((q:Nat):Int)+((Cb r d:Nat):Int)))] ⟨[(0,(.ref 5)),(1,(.ref 6)),(8,(.ref 7)),(18,(.bool false)),(42,(.bool false)),(62,(.bool true))],[(4,4),(5,4),(9,5),(10,0),(11,2),(12,6),(13,1)]⟩ ⟨[(0,(.ref 5)),(1,(.ref 6)),(8,(.ref 7)),(18,(.bool false)),(42,(.bool false)),(62,(.bool true))],[(4,4),(5,4),(9,5),(10,3),(11,2),(12,6),(13,1)]⟩ Wb 12 WY true:=RA.of
   { calls:=[c2 62 (.ref 1) (.ref 2) (.ref 3) λw v0 v1 hb h0 h1=>FW h0 h1 se sd (by first | decide | assumption | omega) (by first | decide | assumption | omega),
      c2 121 (.ref 0) (.ref 3) (.ref 4) λw v0 v1 hb h0 h1=>dE h0 h1 sr (se.mul sd) (by first | decide | assumption | omega) (by first | decide | assumption | omega)],
     loads:=[⟨34,0,0,(.ref 0),λw q h=>Ah w q h⟩,
      ⟨34,0,1,(.ref 1),λw q h=>Ah w q h⟩,
      ⟨34,0,2,(.ref 2),λw q h=>Ah w q h⟩],
     stores:=[⟨34,0,0,(.ref 4),3,(AK _ _)⟩] } (by kernel_rfl)
end
theorem QM(va:Value)(x y i j n cap t:Nat)(bd:Addr)(W:World)(ha:AB W va x)(sx:Sm ((x:Nat):Int) i)(sy:Sm ((y:Nat):Int) j)(hi:i≤400000000)(hj:j≤400000000)(hN:AB W (.slice (some bd) n cap) y)(ct:W.cell? (bd.add (n - 1))=some (.int .u32 (t:Int)))(hn:1≤n)(hn2:n≤1099511627776)(ht0:0<t)(ht:t<4294967296)(hy0:0<y)(ey1:n=1→y=t) :
  Calls Tryz.prog 120 #[va,.slice (some bd) n cap] W (Aj (BT (Af ((x / y:Nat):Int)) (Af ((x % y:Nat):Int))) W):=by
 refine Db (S:=[(0,(Av x)),(1,(Am (.slice (some bd) n cap)))]) Tryz.func120 (by kernel_rfl) Tryz.ntmps120 (by simp) (λx hx=>?_) λa w hst=>?_
 ·simp only [List.mem_cons,List.not_mem_nil,or_false] at hx
  rcases hx with rfl | rfl
  ·exact ⟨_,rfl,ha⟩
  ·exact ⟨_,rfl,rfl⟩
 show Code.wp _ OK _ a w
 by_cases n1:n=1
 ·have ey:=ey1 n1
  have ct0:W.cell? (bd.add 0)=some (.int .u32 (t:Int)):=by rw [n1] at ct; exact ct
  rw [jJ];refine wp_seq ?_;rw [jG];refine (Aa8 sx sy hi hj hN ct hn hn2 ht0 ht n1 ct0).run hst ?_;clear hst;intro a w hst;show Code.wp _ JK _ a w;rw [Zo];refine wp_seq ?_;rw [Z_];refine wp_seq ?_;rw [aA];refine (zR sx sy hi hj hN ct hn hn2 ht0 ht n1 ct0).run hst ?_;clear hst;intro a w hst;show Code.wp _ JX _ a w;rw [cE];refine wp_cond_true (AZ hst 2 rfl) ?_;show Code.wp _ ML _ a w;rw [xB];refine wp_seq ?_;rw [vL];refine (xQ sx sy hi hj hN ct hn hn2 ht0 ht n1 ct0).run hst ?_;clear hst;intro a w hst;show Code.wp _ IF _ a w;rw [oT];refine wp_seq ?_;rw [qK];refine (AaL sx sy hi hj hN ct hn hn2 ht0 ht n1 ct0).run hst ?_;clear hst;intro a w hst;show Code.wp _ Pk _ a w;rw [pZ];refine wp_ret ?_;rw [← ey] at hst;exact N0 hst rfl 0 rfl 1 rfl
 ·clear ey1
  rw [jJ];refine wp_seq ?_;rw [jG];refine (qP sx sy hi hj hN ct hn hn2 ht0 ht n1).run hst ?_;clear hst;intro a w hst;show Code.wp _ JK _ a w;rw [Zo];refine wp_seq ?_;rw [Z_];refine wp_seq ?_;rw [aA];refine (oF sx sy hi hj hN ct hn hn2 ht0 ht n1).run hst ?_;clear hst;intro a w hst;show Code.wp _ JX _ a w;rw [cE];refine wp_cond_false (AZ hst 2 rfl) ?_;show Code.wp _ Tf _ a w;rw [zG];refine wp_skip ?_;show Code.wp _ Li _ a w;rw [Abp];refine wp_seq ?_;rw [pS];refine (vG sx sy hi hj hN ct hn hn2 ht0 ht n1).run hst ?_;clear hst;intro a w hst;show Code.wp _ Iw _ a w;rw [nK];refine wp_seq ?_;rw [lQ];refine wp_block ?_;show Code.wp _ Ku _ a w;rw [kR];refine CB (fun (s:Nat) a w=>St W 86 [(0,(Av x)),(1,(Am (.slice (some bd) n cap))),(8,(Am (.int .u32 (s:Int)))),(18,(Am (.bool false)))] [(4,AQ),(5,AQ)] a w∧0<s∧t*s<4294967296) (λs=>4294967296 - s) ?_ (1:Nat) ⟨hst,by omega,by omega⟩;intro s a w ⟨hst,hs0,hts⟩;have hs1:s<4294967296:=Nat.lt_of_le_of_lt (by rw [← Nat.one_mul s]; exact Nat.mul_le_mul_right s ht0 |> λh=>by simpa using h) hts;show Code.wp _ IN _ a w
  rcases Nat.lt_or_ge (t*s) 2147483648 with hlo | hhi
  ·rw [WN]
   refine wp_seq ?_;rw [WX];refine wp_seq ?_;rw [Ve];refine (Aay sx sy hi hj hN ct hn hn2 ht0 ht n1 hs0 hs1 hts hlo).run hst ?_;clear hst;intro a w hst;show Code.wp _ GO _ a w;rw [Vm];refine wp_cond_true (AZ hst 4 rfl) ?_;show Code.wp _ Ox _ a w;rw [mX];refine wp_skip ?_;show Code.wp _ Kv _ a w;rw [pW];refine wp_block ?_;show Code.wp _ KA _ a w;rw [kQ];refine (xR sx sy hi hj hN ct hn hn2 ht0 ht n1 hs0 hs1 hts hlo).run hst ?_;clear hst;intro a w hst;have h2:t*(2*s)=2*(t*s):=by rw [Nat.mul_left_comm]
   have h3:s≤t*s:=Nat.le_mul_of_pos_left s ht0;exact ⟨2*s,⟨(hst.to ⟨hst.slots.get (k:=0) rfl,hst.slots.get (k:=1) rfl,hst.slots.get (k:=2) rfl,hst.slots.get (k:=3) rfl,trivial⟩),by omega,by omega⟩,by show 4294967296 - 2*s<4294967296 - s; omega⟩
  ·rw [WN]
   refine wp_seq ?_;rw [WX];refine wp_seq ?_;rw [Ve];refine (pY sx sy hi hj hN ct hn hn2 ht0 ht n1 hs0 hs1 hts hhi).run hst ?_;clear hst;intro a w hst;show Code.wp _ GO _ a w;rw [Vm];refine wp_cond_false (AZ hst 4 rfl) ?_;show Code.wp _ QA _ a w;rw [pC];refine wp_exit ?_;clear hhi hts;show Code.wp _ I0 _ a w;rw [mC];refine wp_seq ?_;rw [qO];refine (xO sx sy hi hj hN ct hn hn2 ht0 ht n1 hs0 hs1).run hst ?_;clear hst;intro a w hst;show Code.wp _ It _ a w;rw [rH];refine wp_seq ?_;rw [kM];refine (vE sx sy hi hj hN ct hn hn2 ht0 ht n1 hs0 hs1).run hst ?_;clear hst;intro a w hst;show Code.wp _ Jf _ a w;rw [kX];refine wp_seq ?_;rw [mQ];refine wp_block ?_;show Code.wp _ KO _ a w;rw [oS];obtain ⟨d,hd⟩:∃ d,d=y*s:=⟨_,rfl⟩;obtain ⟨r0,hr0⟩:∃ r,r=x*s:=⟨_,rfl⟩;have hd0:0<d:=by rw [hd]; exact Nat.mul_pos hy0 hs0
   have ed:((y:Nat):Int)*((s:Nat):Int)=((d:Nat):Int):=by rw [hd,Int.natCast_mul]
   have er:((x:Nat):Int)*((s:Nat):Int)=((r0:Nat):Int):=by rw [hr0,Int.natCast_mul]
   have sd:Sm ((d:Nat):Int) (j+2):=by rw [← ed]; exact sy.mul (Sm.of _ (by omega))
   have sr0:Sm ((r0:Nat):Int) (i+2):=by rw [← er]; exact sx.mul (Sm.of _ (by omega))
   rw [ed,er] at hst;refine CB (fun (p:Nat × Nat) a w=>St W 86 [(0,(Av x)),(1,(Am (.slice (some bd) n cap))),(8,(Am (.int .u32 (s:Int)))),(18,(Am (.bool false))),(42,(Am (.bool false)))] [(4,AQ),(5,AQ),(9,(Ak ((s:Nat):Int))),(10,(Ak ((p.2:Nat):Int))),(11,(Ak ((d:Nat):Int))),(12,(Ak ((p.1:Nat):Int)))] a w∧p.1*d+p.2=r0) (λp=>p.2) ?_ (0,r0) ⟨hst,by simp⟩
   rintro ⟨q,r⟩ a w ⟨hst,hqr⟩
   simp only [] at hst hqr;show Code.wp _ IA _ a w;have hq1:q≤q*d:=Nat.le_mul_of_pos_right q hd0;have sr:Sm ((r:Nat):Int) (i+2):=EN sr0 (by omega);have sq:Sm ((q:Nat):Int) (i+2):=EN sr0 (by omega)
   rcases Nat.lt_or_ge r d with hdr | hdr
   ·rw [Vd]
    refine wp_seq ?_;rw [WK];refine wp_seq ?_;rw [U4];refine (Aag sx sy hi hj hN ct hn hn2 ht0 ht n1 hs0 hs1 hd0 sd sr sq hdr).run hst ?_;clear hst;intro a w hst;show Code.wp _ G4 _ a w;rw [WA];refine wp_cond_false (AZ hst 5 rfl) ?_;show Code.wp _ Pe _ a w;rw [oZ];refine wp_exit ?_;obtain ⟨f1,f2⟩:=WH (x:=x) (y:=y) (q:=q) (r:=r) (H:=s) hs0 (by rw [← hd,← hr0,hqr]) (by rw [← hd]; exact hdr);show Code.wp _ I3 _ a w;rw [lP];refine wp_seq ?_;rw [oJ];refine (nO sx sy hi hj hN ct hn hn2 ht0 ht n1 hs0 hs1 hd0 sd sr sq).run hst ?_;clear hst;intro a w hst;show Code.wp _ Ja _ a w;rw [mP];refine wp_seq ?_;rw [oU];refine (mF sx sy hi hj hN ct hn hn2 ht0 ht n1 hs0 hs1 hd0 sd sr sq).run hst ?_;clear hst;intro a w hst;show Code.wp _ Pv _ a w;rw [mI];refine wp_ret ?_;rw [f1,f2] at hst;exact N0 hst rfl 0 rfl 1 rfl
   ·have hE:=nR hd0 hdr
    have he1:Cb r d≤Cb r d*d:=Nat.le_mul_of_pos_right _ hd0;have se:Sm ((Cb r d:Nat):Int) (i+2):=EN sr0 (by omega);rw [Vd];refine wp_seq ?_;rw [WK];refine wp_seq ?_;rw [U4];refine (mN sx sy hi hj hN ct hn hn2 ht0 ht n1 hs0 hs1 hd0 sd sr sq hdr se).run hst ?_;clear hst;intro a w hst;show Code.wp _ G4 _ a w;rw [WA];refine wp_cond_true (AZ hst 5 rfl) ?_;show Code.wp _ Oh _ a w;rw [oM];refine wp_skip ?_;show Code.wp _ KK _ a w;rw [oH];refine wp_block ?_;show Code.wp _ IB _ a w;rw [kH];refine wp_seq ?_;rw [kW];refine (nE sx sy hi hj hN ct hn hn2 ht0 ht n1 hs0 hs1 hd0 sd sr sq hdr se).run hst ?_;clear hst;intro a w hst;show Code.wp _ Jb _ a w;rw [nH];refine wp_seq ?_;rw [pN];refine (lS sx sy hi hj hN ct hn hn2 ht0 ht n1 hs0 hs1 hd0 sd sr sq hdr se).run hst ?_;clear hst;intro a w hst;show Code.wp _ KJ _ a w;rw [oK];refine (oD sx sy hi hj hN ct hn hn2 ht0 ht n1 hs0 hs1 hd0 sd sr sq hdr se).run hst ?_;clear hst;intro a w hst;have e1:((q:Nat):Int)+((Cb r d:Nat):Int)=((q+Cb r d:Nat):Int):=by rw [Int.natCast_add]
    have e2:((r:Nat):Int) - ((Cb r d:Nat):Int)*((d:Nat):Int)=((r - Cb r d*d:Nat):Int):=by rw [Int.natCast_sub hE.2,Int.natCast_mul]
    rw [e1,e2] at hst;have h3:0<Cb r d*d:=Nat.mul_pos hE.1 hd0;exact ⟨(q+Cb r d,r - Cb r d*d),⟨((hst.to (S':=[(0,(Av x)),(1,(Am (.slice (some bd) n cap))),(8,(Am (.int .u32 (s:Int)))),(18,(Am (.bool false))),(42,(Am (.bool false)))]) ⟨hst.slots.get (k:=0) rfl,hst.slots.get (k:=1) rfl,hst.slots.get (k:=2) rfl,hst.slots.get (k:=3) rfl,hst.slots.get (k:=4) rfl,trivial⟩).firstB 6),by show (q+Cb r d)*d+(r - Cb r d*d)=r0; rw [Nat.add_mul]; omega⟩,by show r - Cb r d*d<r; omega⟩
theorem C4{z:Int}{b:Bool}{va vb:Value}{w:World}(e:decide (z<0)=b)(ha:(Av z.natAbs).p va w)(hv:(Am (.bool b)).p vb w)(hn:len z.natAbs≤4398046511104):Calls Tryz.prog 89 #[va,vb] w (Aj (Af z) w):=by
 subst e;exact mA ha hv hn
theorem Fw{x y i j:Nat}{va vb:Value}{w:World}(ha:(Av x).p va w)(hb:(Av y).p vb w)(sx:Sm ((x:Nat):Int) i)(sy:Sm ((y:Nat):Int) j)(hi:i≤400000000)(hj:j≤400000000)(hy0:0<y) :
  Calls Tryz.prog 120 #[va,vb] w (Aj (BT (Af ((x / y:Nat):Int)) (Af ((x % y:Nat):Int))) w):=by
 have hb:AB w vb y:=hb;obtain ⟨B,c,rfl,H⟩:=hb.open_;have hl:len y≠0:=λh=>by have:=AY.1 h; omega
 have hb2:len y≤j:=AL sy;obtain ⟨bd,rfl,_,hc⟩:=H.out.mem.2.2.at_ (show len y - 1<(Ac y).length by rw [Aa]; omega);have gq:=At (show len y - 1<(Ac y).length by rw [Aa]; omega);have ht:=(As y).get (show len y - 1<(Ac y).length by rw [Aa]; omega);have ht0:=Ei hy0;generalize (Ac y)[len y - 1]'(by rw [Aa]; omega)=t at *;refine QM va x y i j (len y) c t bd w ha sx sy hi hj H.out hc (by omega) (by omega) (by omega) ht hy0 λh=>?_
 rw [h] at gq;obtain ⟨lo,e,hlo⟩:=JT (y:=y) (n:=0) h gq;omega
theorem AcI{x y:Int}{i j:Nat}(va:Value)(vb:Value)(W:World)(hva:(Af x).p va W)(hvb:(Af y).p vb W)(sx:Sm x i)(sy:Sm y j)(hi:i≤400000000)(hj:j≤400000000)(ny:y≠0)(_nx:x<0)(hr:0<((x.natAbs % y.natAbs:Nat):Int))(_hs:0<y):Calls Tryz.prog 112 #[va,vb] W (Aj (Dx (Af (-(((x.natAbs / y.natAbs:Nat):Int)+1))) (Af (y - ((x.natAbs % y.natAbs:Nat):Int))) (Am (.int .i64 0))) W):=by
  let E:List PF:=[(Af x),(Af y),(Av x.natAbs),(Av y.natAbs),(Am (.int .i64 (Int.sign y))),(Af ((x.natAbs / y.natAbs:Nat):Int)),(Af ((x.natAbs % y.natAbs:Nat):Int)),(Am (.int .i64 (Int.sign ((x.natAbs % y.natAbs:Nat):Int)))),(Af 1),(Af (((x.natAbs / y.natAbs:Nat):Int)+1)),(Af (y - ((x.natAbs % y.natAbs:Nat):Int))),(Af (-(((x.natAbs / y.natAbs:Nat):Int)+1)))]
  let EB:List CF:=[(Ak x),(Ak y),AQ,(Ak ((x.natAbs / y.natAbs:Nat):Int)),(Ak ((x.natAbs % y.natAbs:Nat):Int)),(Ak (((x.natAbs / y.natAbs:Nat):Int)+1)),(Ak (y - ((x.natAbs % y.natAbs:Nat):Int))),(Ak (-(((x.natAbs / y.natAbs:Nat):Int)+1)))]
  exact Az (E:=E) (EB:=EB) (fs:=[(.ref 0),(.ref 1)]) (r:=(.tup3 (.ref 11) (.ref 10) (.int .i64 0)))
   { pures:=[p2 (.bin .eql 3 3) (.ref 4) (.int .i64 0) (.bool false) λ_ _ _ _ _ hx hy=>Co (r:=false) (by simp [Int.sign_eq_zero_iff_zero,ny]) hx hy,
      p2 (.bin .gtr 3 3) (.ref 7) (.int .i64 0) (.bool true) λ_ _ _ _ _ hx hy=>EO (r:=true) (by rw [Int.sign_eq_one_of_pos hr]; decide) hx hy],
     calls:=[c2 89 (.ref 2) (.bool true) (.ref 0) λw v0 v1 hb h0 h1=>C4 (z:=x) (by simp; omega) h0 h1 (Nat.le_trans (AL sx) (by omega)),
      c2 89 (.ref 3) (.bool false) (.ref 1) λw v0 v1 hb h0 h1=>C4 (z:=y) (by simp; omega) h0 h1 (Nat.le_trans (AL sy) (by omega)),
      c1 63 (.ref 1) (.ref 4) λw v0 hb h0=>CR h0 sy (by first | decide | assumption | omega),
      c2 120 (.ref 2) (.ref 3) (.tup2 (.ref 5) (.ref 6)) λw v0 v1 hb h0 h1=>Fw h0 h1 sx.abs sy.abs hi hj (by omega),
      c1 63 (.ref 6) (.ref 7) λw v0 hb h0=>CR h0 (EN sx.abs (Nat.mod_le _ _)) (by first | decide | assumption | omega),
      c1 58 (.int .i64 1) (.ref 8) λw v0 hb h0=>Xn 1 (by omega) (by omega) h0,
      c2 81 (.ref 5) (.ref 8) (.ref 9) λw v0 v1 hb h0 h1=>VJ h0 h1 (EN sx.abs (Nat.div_le_self _ _)) (Sm.of 1 (by decide)) (by first | decide | assumption | omega) (by first | decide | assumption | omega),
      c2 121 (.ref 1) (.ref 6) (.ref 10) λw v0 v1 hb h0 h1=>dE h0 h1 sy (EN sx.abs (Nat.mod_le _ _)) (by first | decide | assumption | omega) (by first | decide | assumption | omega),
      c1 60 (.ref 9) (.ref 11) λw v0 hb h0=>Oe h0 ((EN sx.abs (Nat.div_le_self _ _)).add (Sm.of 1 (by decide))) (by first | decide | assumption | omega)],
     loads:=[⟨32,1,0,(.ref 2),λw q h=>Bk w q h⟩,
      ⟨4,0,0,(.bool true),λw q h=>BS (by simp; omega) w q h⟩,
      ⟨32,1,1,(.ref 3),λw q h=>Bk w q h⟩,
      ⟨4,0,1,(.bool false),λw q h=>BS (by simp; omega) w q h⟩,
      ⟨34,0,1,(.ref 1),λw q h=>Ah w q h⟩,
      ⟨34,0,4,(.ref 6),λw q h=>Ah w q h⟩,
      ⟨34,0,3,(.ref 5),λw q h=>Ah w q h⟩,
      ⟨34,0,5,(.ref 9),λw q h=>Ah w q h⟩,
      ⟨34,0,7,(.ref 11),λw q h=>Ah w q h⟩,
      ⟨34,0,6,(.ref 10),λw q h=>Ah w q h⟩],
     allocs:=[⟨34,2,_,AP,AR⟩],
     boxes:=[⟨34,(.ref 0),0,λw v h=>AT w v h⟩,
      ⟨34,(.ref 1),1,λw v h=>AT w v h⟩],
     stores:=[⟨34,0,0,(.ref 0),0,(AK _ _)⟩,
      ⟨34,0,1,(.ref 1),1,(AK _ _)⟩,
      ⟨34,0,2,(.ref 5),3,(Ag _)⟩,
      ⟨34,0,2,(.ref 6),4,(Ag _)⟩,
      ⟨34,0,3,(.ref 9),5,(AK _ _)⟩,
      ⟨34,0,4,(.ref 10),6,(AK _ _)⟩,
      ⟨34,0,5,(.ref 11),7,(AK _ _)⟩,
      ⟨34,0,2,(.ref 11),7,(Ag _)⟩,
      ⟨34,0,2,(.ref 10),6,(Ag _)⟩],
     flds:=[⟨34,1,1,F_⟩,
      ⟨34,0,0,NK⟩] }
   Tryz.func112 ⟨hva,hvb,trivial⟩ (by kernel_rfl)
theorem Abw{x y:Int}{i j:Nat}(va:Value)(vb:Value)(W:World)(hva:(Af x).p va W)(hvb:(Af y).p vb W)(sx:Sm x i)(sy:Sm y j)(hi:i≤400000000)(hj:j≤400000000)(ny:y≠0)(_nx:x<0)(hr:0<((x.natAbs % y.natAbs:Nat):Int))(_hs:y<0):Calls Tryz.prog 112 #[va,vb] W (Aj (Dx (Af (((x.natAbs / y.natAbs:Nat):Int)+1)) (Af (((y.natAbs:Nat):Int) - ((x.natAbs % y.natAbs:Nat):Int))) (Am (.int .i64 0))) W):=by
  let E:List PF:=[(Af x),(Af y),(Av x.natAbs),(Av y.natAbs),(Am (.int .i64 (Int.sign y))),(Af ((x.natAbs / y.natAbs:Nat):Int)),(Af ((x.natAbs % y.natAbs:Nat):Int)),(Am (.int .i64 (Int.sign ((x.natAbs % y.natAbs:Nat):Int)))),(Af 1),(Af (((x.natAbs / y.natAbs:Nat):Int)+1)),(Af ((y.natAbs:Nat):Int)),(Af (((y.natAbs:Nat):Int) - ((x.natAbs % y.natAbs:Nat):Int)))]
  let EB:List CF:=[(Ak x),(Ak y),AQ,(Ak ((x.natAbs / y.natAbs:Nat):Int)),(Ak ((x.natAbs % y.natAbs:Nat):Int)),(Ak (((x.natAbs / y.natAbs:Nat):Int)+1)),(Ak (((y.natAbs:Nat):Int) - ((x.natAbs % y.natAbs:Nat):Int)))]
  exact Az (E:=E) (EB:=EB) (fs:=[(.ref 0),(.ref 1)]) (r:=(.tup3 (.ref 9) (.ref 11) (.int .i64 0)))
   { pures:=[p2 (.bin .eql 3 3) (.ref 4) (.int .i64 0) (.bool false) λ_ _ _ _ _ hx hy=>Co (r:=false) (by simp [Int.sign_eq_zero_iff_zero,ny]) hx hy,
      p2 (.bin .gtr 3 3) (.ref 7) (.int .i64 0) (.bool true) λ_ _ _ _ _ hx hy=>EO (r:=true) (by rw [Int.sign_eq_one_of_pos hr]; decide) hx hy],
     calls:=[c2 89 (.ref 2) (.bool true) (.ref 0) λw v0 v1 hb h0 h1=>C4 (z:=x) (by simp; omega) h0 h1 (Nat.le_trans (AL sx) (by omega)),
      c2 89 (.ref 3) (.bool true) (.ref 1) λw v0 v1 hb h0 h1=>C4 (z:=y) (by simp; omega) h0 h1 (Nat.le_trans (AL sy) (by omega)),
      c1 63 (.ref 1) (.ref 4) λw v0 hb h0=>CR h0 sy (by first | decide | assumption | omega),
      c2 120 (.ref 2) (.ref 3) (.tup2 (.ref 5) (.ref 6)) λw v0 v1 hb h0 h1=>Fw h0 h1 sx.abs sy.abs hi hj (by omega),
      c1 63 (.ref 6) (.ref 7) λw v0 hb h0=>CR h0 (EN sx.abs (Nat.mod_le _ _)) (by first | decide | assumption | omega),
      c1 58 (.int .i64 1) (.ref 8) λw v0 hb h0=>Xn 1 (by omega) (by omega) h0,
      c2 81 (.ref 5) (.ref 8) (.ref 9) λw v0 v1 hb h0 h1=>VJ h0 h1 (EN sx.abs (Nat.div_le_self _ _)) (Sm.of 1 (by decide)) (by first | decide | assumption | omega) (by first | decide | assumption | omega),
      c2 89 (.ref 3) (.bool false) (.ref 10) λw v0 v1 hb h0 h1=>Kz h0 h1 (Nat.le_trans (AL sy) (by omega)),
      c2 121 (.ref 10) (.ref 6) (.ref 11) λw v0 v1 hb h0 h1=>dE h0 h1 sy.abs (EN sx.abs (Nat.mod_le _ _)) (by first | decide | assumption | omega) (by first | decide | assumption | omega)],
     loads:=[⟨32,1,0,(.ref 2),λw q h=>Bk w q h⟩,
      ⟨4,0,0,(.bool true),λw q h=>BS (by simp; omega) w q h⟩,
      ⟨32,1,1,(.ref 3),λw q h=>Bk w q h⟩,
      ⟨4,0,1,(.bool true),λw q h=>BS (by simp; omega) w q h⟩,
      ⟨34,0,1,(.ref 1),λw q h=>Ah w q h⟩,
      ⟨34,0,4,(.ref 6),λw q h=>Ah w q h⟩,
      ⟨34,0,3,(.ref 5),λw q h=>Ah w q h⟩,
      ⟨34,0,5,(.ref 9),λw q h=>Ah w q h⟩,
      ⟨34,0,6,(.ref 11),λw q h=>Ah w q h⟩],
     allocs:=[⟨34,2,_,AP,AR⟩],
     boxes:=[⟨34,(.ref 0),0,λw v h=>AT w v h⟩,
      ⟨34,(.ref 1),1,λw v h=>AT w v h⟩],
     stores:=[⟨34,0,0,(.ref 0),0,(AK _ _)⟩,
      ⟨34,0,1,(.ref 1),1,(AK _ _)⟩,
      ⟨34,0,2,(.ref 5),3,(Ag _)⟩,
      ⟨34,0,2,(.ref 6),4,(Ag _)⟩,
      ⟨34,0,3,(.ref 9),5,(AK _ _)⟩,
      ⟨34,0,4,(.ref 11),6,(AK _ _)⟩,
      ⟨34,0,2,(.ref 9),5,(Ag _)⟩,
      ⟨34,0,2,(.ref 11),6,(Ag _)⟩],
     flds:=[⟨34,1,1,F_⟩,
      ⟨34,0,0,NK⟩] }
   Tryz.func112 ⟨hva,hvb,trivial⟩ (by kernel_rfl)
theorem AcY{x y:Int}{i j:Nat}(va:Value)(vb:Value)(W:World)(hva:(Af x).p va W)(hvb:(Af y).p vb W)(sx:Sm x i)(sy:Sm y j)(hi:i≤400000000)(hj:j≤400000000)(ny:y≠0)(_nx:x<0)(hr:((x.natAbs % y.natAbs:Nat):Int)=0)(_hs:0<y):Calls Tryz.prog 112 #[va,vb] W (Aj (Dx (Af (-((x.natAbs / y.natAbs:Nat):Int))) (Af ((x.natAbs % y.natAbs:Nat):Int)) (Am (.int .i64 0))) W):=by
  let E:List PF:=[(Af x),(Af y),(Av x.natAbs),(Av y.natAbs),(Am (.int .i64 (Int.sign y))),(Af ((x.natAbs / y.natAbs:Nat):Int)),(Af ((x.natAbs % y.natAbs:Nat):Int)),(Am (.int .i64 (Int.sign ((x.natAbs % y.natAbs:Nat):Int)))),(Af (-((x.natAbs / y.natAbs:Nat):Int)))]
  let EB:List CF:=[(Ak x),(Ak y),AQ,(Ak ((x.natAbs / y.natAbs:Nat):Int)),(Ak ((x.natAbs % y.natAbs:Nat):Int)),(Ak (-((x.natAbs / y.natAbs:Nat):Int)))]
  exact Az (E:=E) (EB:=EB) (fs:=[(.ref 0),(.ref 1)]) (r:=(.tup3 (.ref 8) (.ref 6) (.int .i64 0)))
   { pures:=[p2 (.bin .eql 3 3) (.ref 4) (.int .i64 0) (.bool false) λ_ _ _ _ _ hx hy=>Co (r:=false) (by simp [Int.sign_eq_zero_iff_zero,ny]) hx hy,
      p2 (.bin .gtr 3 3) (.ref 7) (.int .i64 0) (.bool false) λ_ _ _ _ _ hx hy=>EO (r:=false) (by rw [hr]; decide) hx hy],
     calls:=[c2 89 (.ref 2) (.bool true) (.ref 0) λw v0 v1 hb h0 h1=>C4 (z:=x) (by simp; omega) h0 h1 (Nat.le_trans (AL sx) (by omega)),
      c2 89 (.ref 3) (.bool false) (.ref 1) λw v0 v1 hb h0 h1=>C4 (z:=y) (by simp; omega) h0 h1 (Nat.le_trans (AL sy) (by omega)),
      c1 63 (.ref 1) (.ref 4) λw v0 hb h0=>CR h0 sy (by first | decide | assumption | omega),
      c2 120 (.ref 2) (.ref 3) (.tup2 (.ref 5) (.ref 6)) λw v0 v1 hb h0 h1=>Fw h0 h1 sx.abs sy.abs hi hj (by omega),
      c1 63 (.ref 6) (.ref 7) λw v0 hb h0=>CR h0 (EN sx.abs (Nat.mod_le _ _)) (by first | decide | assumption | omega),
      c1 60 (.ref 5) (.ref 8) λw v0 hb h0=>Oe h0 (EN sx.abs (Nat.div_le_self _ _)) (by first | decide | assumption | omega)],
     loads:=[⟨32,1,0,(.ref 2),λw q h=>Bk w q h⟩,
      ⟨4,0,0,(.bool true),λw q h=>BS (by simp; omega) w q h⟩,
      ⟨32,1,1,(.ref 3),λw q h=>Bk w q h⟩,
      ⟨4,0,1,(.bool false),λw q h=>BS (by simp; omega) w q h⟩,
      ⟨34,0,1,(.ref 1),λw q h=>Ah w q h⟩,
      ⟨34,0,4,(.ref 6),λw q h=>Ah w q h⟩,
      ⟨34,0,3,(.ref 5),λw q h=>Ah w q h⟩,
      ⟨34,0,5,(.ref 8),λw q h=>Ah w q h⟩],
     allocs:=[⟨34,2,_,AP,AR⟩],
     boxes:=[⟨34,(.ref 0),0,λw v h=>AT w v h⟩,
      ⟨34,(.ref 1),1,λw v h=>AT w v h⟩],
     stores:=[⟨34,0,0,(.ref 0),0,(AK _ _)⟩,
      ⟨34,0,1,(.ref 1),1,(AK _ _)⟩,
      ⟨34,0,2,(.ref 5),3,(Ag _)⟩,
      ⟨34,0,2,(.ref 6),4,(Ag _)⟩,
      ⟨34,0,3,(.ref 8),5,(AK _ _)⟩,
      ⟨34,0,2,(.ref 8),5,(Ag _)⟩],
     flds:=[⟨34,1,1,F_⟩,
      ⟨34,0,0,NK⟩] }
   Tryz.func112 ⟨hva,hvb,trivial⟩ (by kernel_rfl)
theorem AdP{x y:Int}{i j:Nat}(va:Value)(vb:Value)(W:World)(hva:(Af x).p va W)(hvb:(Af y).p vb W)(sx:Sm x i)(sy:Sm y j)(hi:i≤400000000)(hj:j≤400000000)(ny:y≠0)(_nx:x<0)(hr:((x.natAbs % y.natAbs:Nat):Int)=0)(_hs:y<0):Calls Tryz.prog 112 #[va,vb] W (Aj (Dx (Af ((x.natAbs / y.natAbs:Nat):Int)) (Af ((x.natAbs % y.natAbs:Nat):Int)) (Am (.int .i64 0))) W):=by
  let E:List PF:=[(Af x),(Af y),(Av x.natAbs),(Av y.natAbs),(Am (.int .i64 (Int.sign y))),(Af ((x.natAbs / y.natAbs:Nat):Int)),(Af ((x.natAbs % y.natAbs:Nat):Int)),(Am (.int .i64 (Int.sign ((x.natAbs % y.natAbs:Nat):Int))))]
  let EB:List CF:=[(Ak x),(Ak y),AQ,(Ak ((x.natAbs / y.natAbs:Nat):Int)),(Ak ((x.natAbs % y.natAbs:Nat):Int))]
  exact Az (E:=E) (EB:=EB) (fs:=[(.ref 0),(.ref 1)]) (r:=(.tup3 (.ref 5) (.ref 6) (.int .i64 0)))
   { pures:=[p2 (.bin .eql 3 3) (.ref 4) (.int .i64 0) (.bool false) λ_ _ _ _ _ hx hy=>Co (r:=false) (by simp [Int.sign_eq_zero_iff_zero,ny]) hx hy,
      p2 (.bin .gtr 3 3) (.ref 7) (.int .i64 0) (.bool false) λ_ _ _ _ _ hx hy=>EO (r:=false) (by rw [hr]; decide) hx hy],
     calls:=[c2 89 (.ref 2) (.bool true) (.ref 0) λw v0 v1 hb h0 h1=>C4 (z:=x) (by simp; omega) h0 h1 (Nat.le_trans (AL sx) (by omega)),
      c2 89 (.ref 3) (.bool true) (.ref 1) λw v0 v1 hb h0 h1=>C4 (z:=y) (by simp; omega) h0 h1 (Nat.le_trans (AL sy) (by omega)),
      c1 63 (.ref 1) (.ref 4) λw v0 hb h0=>CR h0 sy (by first | decide | assumption | omega),
      c2 120 (.ref 2) (.ref 3) (.tup2 (.ref 5) (.ref 6)) λw v0 v1 hb h0 h1=>Fw h0 h1 sx.abs sy.abs hi hj (by omega),
      c1 63 (.ref 6) (.ref 7) λw v0 hb h0=>CR h0 (EN sx.abs (Nat.mod_le _ _)) (by first | decide | assumption | omega)],
     loads:=[⟨32,1,0,(.ref 2),λw q h=>Bk w q h⟩,
      ⟨4,0,0,(.bool true),λw q h=>BS (by simp; omega) w q h⟩,
      ⟨32,1,1,(.ref 3),λw q h=>Bk w q h⟩,
      ⟨4,0,1,(.bool true),λw q h=>BS (by simp; omega) w q h⟩,
      ⟨34,0,1,(.ref 1),λw q h=>Ah w q h⟩,
      ⟨34,0,4,(.ref 6),λw q h=>Ah w q h⟩,
      ⟨34,0,3,(.ref 5),λw q h=>Ah w q h⟩],
     allocs:=[⟨34,2,_,AP,AR⟩],
     boxes:=[⟨34,(.ref 0),0,λw v h=>AT w v h⟩,
      ⟨34,(.ref 1),1,λw v h=>AT w v h⟩],
     stores:=[⟨34,0,0,(.ref 0),0,(AK _ _)⟩,
      ⟨34,0,1,(.ref 1),1,(AK _ _)⟩,
      ⟨34,0,2,(.ref 5),3,(Ag _)⟩,
      ⟨34,0,2,(.ref 6),4,(Ag _)⟩],
     flds:=[⟨34,1,1,F_⟩,
      ⟨34,0,0,NK⟩] }
   Tryz.func112 ⟨hva,hvb,trivial⟩ (by kernel_rfl)
theorem AbA{x y:Int}{i j:Nat}(va:Value)(vb:Value)(W:World)(hva:(Af x).p va W)(hvb:(Af y).p vb W)(sx:Sm x i)(sy:Sm y j)(hi:i≤400000000)(hj:j≤400000000)(ny:y≠0)(_nx:0≤x)(_hs:0<y):Calls Tryz.prog 112 #[va,vb] W (Aj (Dx (Af ((x.natAbs / y.natAbs:Nat):Int)) (Af ((x.natAbs % y.natAbs:Nat):Int)) (Am (.int .i64 0))) W):=by
  let E:List PF:=[(Af x),(Af y),(Av x.natAbs),(Av y.natAbs),(Am (.int .i64 (Int.sign y))),(Af ((x.natAbs / y.natAbs:Nat):Int)),(Af ((x.natAbs % y.natAbs:Nat):Int))]
  let EB:List CF:=[(Ak x),(Ak y),AQ,(Ak ((x.natAbs / y.natAbs:Nat):Int)),(Ak ((x.natAbs % y.natAbs:Nat):Int))]
  exact Az (E:=E) (EB:=EB) (fs:=[(.ref 0),(.ref 1)]) (r:=(.tup3 (.ref 5) (.ref 6) (.int .i64 0)))
   { pures:=[p2 (.bin .eql 3 3) (.ref 4) (.int .i64 0) (.bool false) λ_ _ _ _ _ hx hy=>Co (r:=false) (by simp [Int.sign_eq_zero_iff_zero,ny]) hx hy],
     calls:=[c2 89 (.ref 2) (.bool false) (.ref 0) λw v0 v1 hb h0 h1=>C4 (z:=x) (by simp; omega) h0 h1 (Nat.le_trans (AL sx) (by omega)),
      c2 89 (.ref 3) (.bool false) (.ref 1) λw v0 v1 hb h0 h1=>C4 (z:=y) (by simp; omega) h0 h1 (Nat.le_trans (AL sy) (by omega)),
      c1 63 (.ref 1) (.ref 4) λw v0 hb h0=>CR h0 sy (by first | decide | assumption | omega),
      c2 120 (.ref 2) (.ref 3) (.tup2 (.ref 5) (.ref 6)) λw v0 v1 hb h0 h1=>Fw h0 h1 sx.abs sy.abs hi hj (by omega)],
     loads:=[⟨32,1,0,(.ref 2),λw q h=>Bk w q h⟩,
      ⟨4,0,0,(.bool false),λw q h=>BS (by simp; omega) w q h⟩,
      ⟨32,1,1,(.ref 3),λw q h=>Bk w q h⟩,
      ⟨4,0,1,(.bool false),λw q h=>BS (by simp; omega) w q h⟩,
      ⟨34,0,1,(.ref 1),λw q h=>Ah w q h⟩,
      ⟨34,0,3,(.ref 5),λw q h=>Ah w q h⟩,
      ⟨34,0,4,(.ref 6),λw q h=>Ah w q h⟩],
     allocs:=[⟨34,2,_,AP,AR⟩],
     boxes:=[⟨34,(.ref 0),0,λw v h=>AT w v h⟩,
      ⟨34,(.ref 1),1,λw v h=>AT w v h⟩],
     stores:=[⟨34,0,0,(.ref 0),0,(AK _ _)⟩,
      ⟨34,0,1,(.ref 1),1,(AK _ _)⟩,
      ⟨34,0,2,(.ref 5),3,(Ag _)⟩,
      ⟨34,0,2,(.ref 6),4,(Ag _)⟩],
     flds:=[⟨34,1,1,F_⟩,
      ⟨34,0,0,NK⟩] }
   Tryz.func112 ⟨hva,hvb,trivial⟩ (by kernel_rfl)
theorem Acg{x y:Int}{i j:Nat}(va:Value)(vb:Value)(W:World)(hva:(Af x).p va W)(hvb:(Af y).p vb W)(sx:Sm x i)(sy:Sm y j)(hi:i≤400000000)(hj:j≤400000000)(ny:y≠0)(_nx:0≤x)(_hs:y<0):Calls Tryz.prog 112 #[va,vb] W (Aj (Dx (Af (-((x.natAbs / y.natAbs:Nat):Int))) (Af ((x.natAbs % y.natAbs:Nat):Int)) (Am (.int .i64 0))) W):=by
  let E:List PF:=[(Af x),(Af y),(Av x.natAbs),(Av y.natAbs),(Am (.int .i64 (Int.sign y))),(Af ((x.natAbs / y.natAbs:Nat):Int)),(Af ((x.natAbs % y.natAbs:Nat):Int)),(Af (-((x.natAbs / y.natAbs:Nat):Int)))]
  let EB:List CF:=[(Ak x),(Ak y),AQ,(Ak ((x.natAbs / y.natAbs:Nat):Int)),(Ak ((x.natAbs % y.natAbs:Nat):Int)),(Ak (-((x.natAbs / y.natAbs:Nat):Int)))]
  exact Az (E:=E) (EB:=EB) (fs:=[(.ref 0),(.ref 1)]) (r:=(.tup3 (.ref 7) (.ref 6) (.int .i64 0)))
   { pures:=[p2 (.bin .eql 3 3) (.ref 4) (.int .i64 0) (.bool false) λ_ _ _ _ _ hx hy=>Co (r:=false) (by simp [Int.sign_eq_zero_iff_zero,ny]) hx hy],
     calls:=[c2 89 (.ref 2) (.bool false) (.ref 0) λw v0 v1 hb h0 h1=>C4 (z:=x) (by simp; omega) h0 h1 (Nat.le_trans (AL sx) (by omega)),
      c2 89 (.ref 3) (.bool true) (.ref 1) λw v0 v1 hb h0 h1=>C4 (z:=y) (by simp; omega) h0 h1 (Nat.le_trans (AL sy) (by omega)),
      c1 63 (.ref 1) (.ref 4) λw v0 hb h0=>CR h0 sy (by first | decide | assumption | omega),
      c2 120 (.ref 2) (.ref 3) (.tup2 (.ref 5) (.ref 6)) λw v0 v1 hb h0 h1=>Fw h0 h1 sx.abs sy.abs hi hj (by omega),
      c1 60 (.ref 5) (.ref 7) λw v0 hb h0=>Oe h0 (EN sx.abs (Nat.div_le_self _ _)) (by first | decide | assumption | omega)],
     loads:=[⟨32,1,0,(.ref 2),λw q h=>Bk w q h⟩,
      ⟨4,0,0,(.bool false),λw q h=>BS (by simp; omega) w q h⟩,
      ⟨32,1,1,(.ref 3),λw q h=>Bk w q h⟩,
      ⟨4,0,1,(.bool true),λw q h=>BS (by simp; omega) w q h⟩,
      ⟨34,0,1,(.ref 1),λw q h=>Ah w q h⟩,
      ⟨34,0,3,(.ref 5),λw q h=>Ah w q h⟩,
      ⟨34,0,5,(.ref 7),λw q h=>Ah w q h⟩,
      ⟨34,0,4,(.ref 6),λw q h=>Ah w q h⟩],
     allocs:=[⟨34,2,_,AP,AR⟩],
     boxes:=[⟨34,(.ref 0),0,λw v h=>AT w v h⟩,
      ⟨34,(.ref 1),1,λw v h=>AT w v h⟩],
     stores:=[⟨34,0,0,(.ref 0),0,(AK _ _)⟩,
      ⟨34,0,1,(.ref 1),1,(AK _ _)⟩,
      ⟨34,0,2,(.ref 5),3,(Ag _)⟩,
      ⟨34,0,2,(.ref 6),4,(Ag _)⟩,
      ⟨34,0,3,(.ref 7),5,(AK _ _)⟩,
      ⟨34,0,2,(.ref 7),5,(Ag _)⟩],
     flds:=[⟨34,1,1,F_⟩,
      ⟨34,0,0,NK⟩] }
   Tryz.func112 ⟨hva,hvb,trivial⟩ (by kernel_rfl)
theorem Sj(va vb:Value)(x y:Int)(i j:Nat)(W:World)(ha:Al W va x)(hb:Al W vb y)(sx:Sm x i)(sy:Sm y j)(hi:i≤400000000)(hj:j≤400000000)(ny:y≠0):Calls Tryz.prog 112 #[va,vb] W (Aj (Dx (Af (x / y)) (Af (x % y)) (Am (.int .i64 0))) W):=by
 rcases Int.lt_or_le x 0 with nx | nx
 ·rcases (show (0:Int)<((x.natAbs % y.natAbs:Nat):Int) ∨ ((x.natAbs % y.natAbs:Nat):Int)=0 by omega) with hr | hr
  ·rcases (show 0<y ∨ y<0 by omega) with hs | hs
   ·have ax:(x.natAbs:Int)=(-x):=by omega
    have ay:(y.natAbs:Int)=y:=by omega
    obtain ⟨e1,e2⟩:(-(((x.natAbs / y.natAbs:Nat):Int)+1))=x / y∧(y - ((x.natAbs % y.natAbs:Nat):Int))=x % y:=by
     obtain ⟨Q,R,eQ,eR,k1,k2,k3⟩:=JS x y ny;rw [eQ,eR];rw [eR] at hr;rw [ax,ay] at k1;rw [ay] at k3;refine Ou hs ?_ (by omega) (by omega);have m1:(-y)*Q = -(y*Q):=Int.neg_mul y Q;have m2:y*(-Q) = -(y*Q):=Int.mul_neg y Q;have m3:y*(Q+1)=y*Q+y:=by rw [Int.mul_add,Int.mul_one]
     have m4:y*(-(Q+1)) = -(y*Q) - y:=by rw [Int.mul_neg,m3]; omega
     omega
    have:=AcI va vb W ha hb sx sy hi hj ny nx hr hs;rw [e1,e2] at this;exact this
   ·have ax:(x.natAbs:Int)=(-x):=by omega
    have ay:(y.natAbs:Int)=(-y):=by omega
    obtain ⟨e1,e2⟩:(((x.natAbs / y.natAbs:Nat):Int)+1)=x / y∧(((y.natAbs:Nat):Int) - ((x.natAbs % y.natAbs:Nat):Int))=x % y:=by
     obtain ⟨Q,R,eQ,eR,k1,k2,k3⟩:=JS x y ny;rw [eQ,eR];rw [eR] at hr;rw [ax,ay] at k1;rw [ay] at k3;rw [ay];refine Us hs ?_ (by omega) (by omega);have m1:(-y)*Q = -(y*Q):=Int.neg_mul y Q;have m2:y*(-Q) = -(y*Q):=Int.mul_neg y Q;have m3:y*(Q+1)=y*Q+y:=by rw [Int.mul_add,Int.mul_one]
     have m4:y*(-(Q+1)) = -(y*Q) - y:=by rw [Int.mul_neg,m3]; omega
     omega
    have:=Abw va vb W ha hb sx sy hi hj ny nx hr hs;rw [e1,e2] at this;exact this
  ·rcases (show 0<y ∨ y<0 by omega) with hs | hs
   ·have ax:(x.natAbs:Int)=(-x):=by omega
    have ay:(y.natAbs:Int)=y:=by omega
    obtain ⟨e1,e2⟩:(-((x.natAbs / y.natAbs:Nat):Int))=x / y∧((x.natAbs % y.natAbs:Nat):Int)=x % y:=by
     obtain ⟨Q,R,eQ,eR,k1,k2,k3⟩:=JS x y ny;rw [eQ,eR];rw [eR] at hr;rw [ax,ay] at k1;rw [ay] at k3;refine Ou hs ?_ (by omega) (by omega);have m1:(-y)*Q = -(y*Q):=Int.neg_mul y Q;have m2:y*(-Q) = -(y*Q):=Int.mul_neg y Q;have m3:y*(Q+1)=y*Q+y:=by rw [Int.mul_add,Int.mul_one]
     have m4:y*(-(Q+1)) = -(y*Q) - y:=by rw [Int.mul_neg,m3]; omega
     omega
    have:=AcY va vb W ha hb sx sy hi hj ny nx hr hs;rw [e1,e2] at this;exact this
   ·have ax:(x.natAbs:Int)=(-x):=by omega
    have ay:(y.natAbs:Int)=(-y):=by omega
    obtain ⟨e1,e2⟩:((x.natAbs / y.natAbs:Nat):Int)=x / y∧((x.natAbs % y.natAbs:Nat):Int)=x % y:=by
     obtain ⟨Q,R,eQ,eR,k1,k2,k3⟩:=JS x y ny;rw [eQ,eR];rw [eR] at hr;rw [ax,ay] at k1;rw [ay] at k3;refine Us hs ?_ (by omega) (by omega);have m1:(-y)*Q = -(y*Q):=Int.neg_mul y Q;have m2:y*(-Q) = -(y*Q):=Int.mul_neg y Q;have m3:y*(Q+1)=y*Q+y:=by rw [Int.mul_add,Int.mul_one]
     have m4:y*(-(Q+1)) = -(y*Q) - y:=by rw [Int.mul_neg,m3]; omega
     omega
    have:=AdP va vb W ha hb sx sy hi hj ny nx hr hs;rw [e1,e2] at this;exact this
 ·rcases (show 0<y ∨ y<0 by omega) with hs | hs
  ·have ax:(x.natAbs:Int)=x:=by omega
   have ay:(y.natAbs:Int)=y:=by omega
   obtain ⟨e1,e2⟩:((x.natAbs / y.natAbs:Nat):Int)=x / y∧((x.natAbs % y.natAbs:Nat):Int)=x % y:=by
    obtain ⟨Q,R,eQ,eR,k1,k2,k3⟩:=JS x y ny;rw [eQ,eR];rw [ax,ay] at k1;rw [ay] at k3;refine Ou hs ?_ (by omega) (by omega);have m1:(-y)*Q = -(y*Q):=Int.neg_mul y Q;have m2:y*(-Q) = -(y*Q):=Int.mul_neg y Q;have m3:y*(Q+1)=y*Q+y:=by rw [Int.mul_add,Int.mul_one]
    have m4:y*(-(Q+1)) = -(y*Q) - y:=by rw [Int.mul_neg,m3]; omega
    omega
   have:=AbA va vb W ha hb sx sy hi hj ny nx hs;rw [e1,e2] at this;exact this
  ·have ax:(x.natAbs:Int)=x:=by omega
   have ay:(y.natAbs:Int)=(-y):=by omega
   obtain ⟨e1,e2⟩:(-((x.natAbs / y.natAbs:Nat):Int))=x / y∧((x.natAbs % y.natAbs:Nat):Int)=x % y:=by
    obtain ⟨Q,R,eQ,eR,k1,k2,k3⟩:=JS x y ny;rw [eQ,eR];rw [ax,ay] at k1;rw [ay] at k3;refine Us hs ?_ (by omega) (by omega);have m1:(-y)*Q = -(y*Q):=Int.neg_mul y Q;have m2:y*(-Q) = -(y*Q):=Int.mul_neg y Q;have m3:y*(Q+1)=y*Q+y:=by rw [Int.mul_add,Int.mul_one]
    have m4:y*(-(Q+1)) = -(y*Q) - y:=by rw [Int.mul_neg,m3]; omega
    omega
   have:=Acg va vb W ha hb sx sy hi hj ny nx hs;rw [e1,e2] at this;exact this
theorem F7{x y:Int}{i j:Nat}{va vb:Value}{w:World}(ha:(Af x).p va w)(hb:(Af y).p vb w)(sx:Sm x i)(sy:Sm y j)(hi:i≤400000000)(hj:j≤400000000)(ny:y≠0) :
 Calls Tryz.prog 112 #[va,vb] w (Aj (Dx (Af (x / y)) (Af (x % y)) (Am (.int .i64 0))) w):=Sj va vb x y i j w ha hb sx sy hi hj ny
theorem gO(c d:Int):Int.gcd d (c % d)=Int.gcd c d:=by
 rw [Int.gcd_comm c d,Int.emod_def,Int.mul_comm d,Int.gcd_sub_mul_right_right]
theorem emod_lt(c:Int){d:Int}(nd:d≠0):(c % d).natAbs<d.natAbs:=by
 have h1:=Int.emod_nonneg c nd;have h2:=Int.emod_lt c nd;omega
noncomputable def Qo:=C8 Tryz.f111
noncomputable def TJ:=cl Qo
noncomputable def Mt:=cr Qo
theorem vQ:Qo = .seq TJ Mt:=by kernel_rfl
noncomputable def cI:=A8 TJ
theorem zK:TJ = .region 0 cI false:=by kernel_rfl
noncomputable def T0:=cl Mt
noncomputable def Me:=cr Mt
theorem xW:Mt = .seq T0 Me:=by kernel_rfl
noncomputable def OX:=cl T0
theorem wP:T0 = .block 0 OX:=by kernel_rfl
noncomputable def LM:=cl OX
theorem vZ:OX = .loop LM:=by kernel_rfl
noncomputable def Px:=cl LM
noncomputable def Qb:=cr LM
theorem eP:LM = .seq Px Qb:=by kernel_rfl
noncomputable def TA:=cl Px
noncomputable def GK:=cr Px
theorem Y8:Px = .seq TA GK:=by kernel_rfl
noncomputable def UT:=A8 TA
theorem Zb:TA = .region 1 UT false:=by kernel_rfl
noncomputable def O5:=cl GK
noncomputable def OV:=cr GK
theorem Wu:GK = .cond (.tmp 10) O5 OV:=by kernel_rfl
theorem qF:O5 = .skip:=by kernel_rfl
theorem rB:OV = .exit 0:=by kernel_rfl
noncomputable def IT:=cl Qb
theorem AaO:Qb = .block 1 IT:=by kernel_rfl
noncomputable def Pa:=cl IT
noncomputable def Kw:=cr IT
theorem lV:IT = .seq Pa Kw:=by kernel_rfl
noncomputable def ZW:=A8 Pa
theorem oR:Pa = .region 2 ZW false:=by kernel_rfl
noncomputable def fN:=A8 Kw
theorem kG:Kw = .region 3 fN true:=by kernel_rfl
noncomputable def Ol:=cl Me
noncomputable def PR:=cr Me
theorem yC:Me = .seq Ol PR:=by kernel_rfl
noncomputable def Zi:=A8 Ol
theorem kT:Ol = .region 4 Zi false:=by kernel_rfl
theorem pF:PR = .ret:=by kernel_rfl
section
set_option linter.unusedSectionVars false
variable {Wb : World} {x y : Int} {k : Nat} (sx : Sm x k) (sy : Sm y k) (hk : k ≤ 400000000)
include sx sy hk
theorem AaE:RA 23 [(Af x),(Af y)] [(Ak x),(Ak y),AQ] ⟨[(0,(.ref 0)),(1,(.ref 1))],[]⟩ ⟨[(0,(.ref 0)),(1,(.ref 1))],[(2,0),(3,1),(4,2)]⟩ Wb 0 cI false:=RA.of
   { allocs:=[⟨34,2,_,AP,AR⟩],
     boxes:=[⟨34,(.ref 0),0,λw v h=>AT w v h⟩,
      ⟨34,(.ref 1),1,λw v h=>AT w v h⟩] } (by kernel_rfl)
theorem yT{c d:Int}(sc:Sm c k)(sd:Sm d k)(nd:d=0):RA 23 [(Af d),(Am (.int .i64 (Int.sign d))),(Af x),(Af y)] [(Ak d),(Ak c),AQ] ⟨[(0,(.ref 2)),(1,(.ref 3))],[(2,1),(3,0),(4,2)]⟩ ⟨[(0,(.ref 2)),(1,(.ref 3)),(10,(.bool false))],[(2,1),(3,0),(4,2)]⟩ Wb 1 UT false:=RA.of
   { pures:=[p2 (.bin .neq 3 3) (.ref 1) (.int .i64 0) (.bool false) λ_ _ _ _ _ hx hy=>SO (r:=false) (by simp [Int.sign_eq_zero_iff_zero,nd]) hx hy],
     calls:=[c1 63 (.ref 0) (.ref 1) λw v0 hb h0=>CR h0 sd (by first | decide | assumption | omega)],
     loads:=[⟨34,0,0,(.ref 0),λw q h=>Ah w q h⟩] } (by kernel_rfl)
theorem Aav{c d:Int}(sc:Sm c k)(sd:Sm d k):RA 23 [(Av c.natAbs),(Af ((c.natAbs:Nat):Int)),(Af x),(Af y)] [(Ak c),AQ,(Ak ((c.natAbs:Nat):Int)),(Ak d)] ⟨[(0,(.ref 2)),(1,(.ref 3)),(10,(.bool false))],[(2,0),(3,3),(4,1)]⟩ ⟨[(0,(.ref 2)),(1,(.ref 3)),(10,(.bool false))],[(2,0),(3,3),(4,2)]⟩ Wb 4 Zi false:=RA.of
   { calls:=[c2 89 (.ref 0) (.bool false) (.ref 1) λw v0 v1 hb h0 h1=>Kz h0 h1 (Nat.le_trans (AL sc) (by omega))],
     loads:=[⟨32,1,0,(.ref 0),λw q h=>Bk w q h⟩],
     stores:=[⟨34,0,1,(.ref 1),2,(Ag _)⟩],
     flds:=[⟨34,1,1,F_⟩] } (by kernel_rfl)
theorem pR{c d:Int}(sc:Sm c k)(sd:Sm d k)(nd:d≠0):RA 23 [(Af d),(Am (.int .i64 (Int.sign d))),(Af x),(Af y)] [(Ak d),(Ak c),AQ] ⟨[(0,(.ref 2)),(1,(.ref 3))],[(2,1),(3,0),(4,2)]⟩ ⟨[(0,(.ref 2)),(1,(.ref 3)),(10,(.bool true))],[(2,1),(3,0),(4,2)]⟩ Wb 1 UT false:=RA.of
   { pures:=[p2 (.bin .neq 3 3) (.ref 1) (.int .i64 0) (.bool true) λ_ _ _ _ _ hx hy=>SO (r:=true) (by simp [Int.sign_eq_zero_iff_zero,nd]) hx hy],
     calls:=[c1 63 (.ref 0) (.ref 1) λw v0 hb h0=>CR h0 sd (by first | decide | assumption | omega)],
     loads:=[⟨34,0,0,(.ref 0),λw q h=>Ah w q h⟩] } (by kernel_rfl)
theorem zL{c d:Int}(sc:Sm c k)(sd:Sm d k)(nd:d≠0):RA 23 [(Af c),(Af d),(Af (c / d)),(Af (c % d)),(Af x),(Af y)] [(Ak c),(Ak d),AQ,(Ak (c / d)),(Ak (c % d))] ⟨[(0,(.ref 4)),(1,(.ref 5)),(10,(.bool true))],[(2,0),(3,1),(4,2)]⟩ ⟨[(0,(.ref 4)),(1,(.ref 5)),(10,(.bool true))],[(2,0),(3,1),(4,2),(5,3),(6,4)]⟩ Wb 2 ZW false:=RA.of
   { calls:=[c2 112 (.ref 0) (.ref 1) (.tup3 (.ref 2) (.ref 3) (.int .i64 0)) λw v0 v1 hb h0 h1=>F7 h0 h1 sc sd (by first | decide | assumption | omega) (by first | decide | assumption | omega) nd],
     loads:=[⟨34,0,0,(.ref 0),λw q h=>Ah w q h⟩,
      ⟨34,0,1,(.ref 1),λw q h=>Ah w q h⟩],
     allocs:=[⟨34,2,_,AP,AR⟩],
     stores:=[⟨34,0,2,(.ref 2),3,(Ag _)⟩,
      ⟨34,0,2,(.ref 3),4,(Ag _)⟩] } (by kernel_rfl)
theorem AaZ{c d:Int}(sc:Sm c k)(sd:Sm d k)(nd:d≠0):RA 23 [(Af d),(Af (c % d)),(Af x),(Af y)] [(Ak d),(Ak (c % d)),(Ak c),AQ,(Ak (c / d))] ⟨[(0,(.ref 2)),(1,(.ref 3)),(10,(.bool true))],[(2,2),(3,0),(4,3),(5,4),(6,1)]⟩ ⟨[(0,(.ref 2)),(1,(.ref 3)),(10,(.bool true))],[(2,0),(3,1),(4,3),(5,4),(6,1)]⟩ Wb 3 fN true:=RA.of
   { loads:=[⟨34,0,0,(.ref 0),λw q h=>Ah w q h⟩,
      ⟨34,0,1,(.ref 1),λw q h=>Ah w q h⟩],
     stores:=[⟨34,0,2,(.ref 0),0,(AK _ _)⟩,
      ⟨34,0,0,(.ref 1),1,(AK _ _)⟩] } (by kernel_rfl)
end
theorem cH(va vb:Value)(x y:Int)(k:Nat)(W:World)(ha:Al W va x)(hb:Al W vb y)(sx:Sm x k)(sy:Sm y k)(hk:k≤400000000) :
  Calls Tryz.prog 111 #[va,vb] W (Aj (Af ((Int.gcd x y:Nat):Int)) W):=by
 refine Db (S:=[(0,(Af x)),(1,(Af y))]) Tryz.func111 (by kernel_rfl) Tryz.ntmps111 (by simp) (λx hx=>?_) λa w hst=>?_
 ·simp only [List.mem_cons,List.not_mem_nil,or_false] at hx
  rcases hx with rfl | rfl
  ·exact ⟨_,rfl,ha⟩
  ·exact ⟨_,rfl,hb⟩
 show Code.wp _ Qo _ a w;rw [vQ];refine wp_seq ?_;rw [zK];refine (AaE sx sy hk).run hst ?_;clear hst;intro a w hst;show Code.wp _ Mt _ a w;rw [xW];refine wp_seq ?_;rw [wP];refine wp_block ?_;show Code.wp _ OX _ a w;rw [vZ];refine CB (fun (p:Int × Int) a w=>St W 23 [(0,(Af x)),(1,(Af y))] [(2,(Ak p.1)),(3,(Ak p.2)),(4,AQ)] a w∧Int.gcd p.1 p.2=Int.gcd x y∧Sm p.1 k∧Sm p.2 k) (λp=>p.2.natAbs) ?_ (x,y) ⟨hst,rfl,sx,sy⟩
 rintro ⟨c,d⟩ a w ⟨hst,hg,sc,sd⟩
 simp only [] at hst hg sc sd;show Code.wp _ LM _ a w
 by_cases nd:d=0
 ·rw [eP]
  refine wp_seq ?_;rw [Y8];refine wp_seq ?_;rw [Zb];refine (yT sx sy hk sc sd nd).run hst ?_;clear hst;intro a w hst;show Code.wp _ GK _ a w;rw [Wu];refine wp_cond_false (AZ hst 2 rfl) ?_;show Code.wp _ OV _ a w;rw [rB];refine wp_exit ?_;have e:c.natAbs=Int.gcd x y:=by rw [← hg,nd,Int.gcd_zero_right]
  show Code.wp _ Me _ a w;rw [yC];refine wp_seq ?_;rw [kT];refine (Aav sx sy hk sc sd).run hst ?_;clear hst;intro a w hst;show Code.wp _ PR _ a w;rw [pF];refine wp_ret ?_;rw [e] at hst;exact Z8 hst rfl 2 rfl
 ·rw [eP]
  refine wp_seq ?_;rw [Y8];refine wp_seq ?_;rw [Zb];refine (pR sx sy hk sc sd nd).run hst ?_;clear hst;intro a w hst;show Code.wp _ GK _ a w;rw [Wu];refine wp_cond_true (AZ hst 2 rfl) ?_;show Code.wp _ O5 _ a w;rw [qF];refine wp_skip ?_;show Code.wp _ Qb _ a w;rw [AaO];refine wp_block ?_;show Code.wp _ IT _ a w;rw [lV];refine wp_seq ?_;rw [oR];refine (zL sx sy hk sc sd nd).run hst ?_;clear hst;intro a w hst;show Code.wp _ Kw _ a w;rw [kG];refine (AaZ sx sy hk sc sd nd).run hst ?_;clear hst;intro a w hst;exact ⟨(d,c % d),⟨((hst.to (S':=[(0,(Af x)),(1,(Af y))]) ⟨hst.slots.get (k:=0) rfl,hst.slots.get (k:=1) rfl,trivial⟩).firstB 3),by show Int.gcd d (c % d)=_; rw [← hg]; exact gO c d,sd,sd.mod nd⟩,by show (c % d).natAbs<d.natAbs; exact emod_lt c nd⟩
end Go.Proofs.YtdopbgnkneeceaaGreat

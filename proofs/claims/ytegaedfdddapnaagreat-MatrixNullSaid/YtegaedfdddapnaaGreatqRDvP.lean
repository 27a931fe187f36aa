/- Contracts and facts for the reference's divide and DivMod. -/
import Derived.Test.YtegaedfdddapnaaGreatqDivP
import Derived.Test.YtegaedfdddapnaaGreatqREst
set_option linter.unusedSectionVars false
set_option linter.unusedVariables false
set_option linter.unusedSimpArgs false
set_option maxRecDepth 100000
namespace Go.Proofs.YtegaedfdddapnaaGreat
open Go.RowKit
def PS(n:Nat):PF:=⟨λv w=>∃(A:Option Addr)(k c:Nat)(ms:List Nat),v = .slice A k c∧ms.length=k∧k≤c∧k≤4398046511104∧Bt ms∧val ms=n∧CP w w.heap.size A ms,
 λ_ _ _ hg ⟨A,k,c,ms,e,h1,h2,h3,h4,h5,h6⟩=>⟨A,k,c,ms,e,h1,h2,h3,h4,h5,h6.grow hg⟩⟩
section
variable {w Wb : World} {va vb : Value}
theorem K_{n:Nat}(ha:(PS n).p va w)(hv:(Am (.bool false)).p vb w):Calls Tryz.prog 89 #[va,vb] w (Aj (Af (n:Int)) w):=by
 have hv:vb = .bool false:=hv;subst hv;obtain ⟨A,k,c,ms,rfl,h1,h2,h3,h4,rfl,h6⟩:=ha;exact C3 A k c ms false w h1 h6.raw h3 h2 h4
theorem XM{n d:Nat}(ha:(Aw n).p va w)(hv:(Am (.int .u32 (d:Int))).p vb w)(hn:len n≤4398046511104)(h0:0<d)(h1:d<4294967296):Calls Tryz.prog 132 #[va,vb] w (Aj (B5 (PS (n / d)) (Am (.int .u32 ((n % d:Nat):Int)))) w):=by
 have hv:vb = .int .u32 (d:Int):=hv;subst hv;have ha:AB w va n:=ha;obtain ⟨A,c,rfl,H⟩:=ha.open_;refine (UP A (len n) c (Ae n) d w (Aa n) H.out.mem.2.2 (As n) hn h0 h1).mono ?_
 rintro e w' ⟨ds,rfl,hl,h32,hv,hr,hb⟩
 rw [Ao] at hv ⊢;exact ⟨_,rfl,⟨_,_,rfl,⟨_,_,_,ds,rfl,hl,Nat.le_refl _,hn,h32,hv,hr.mem hr.lt⟩,rfl⟩,hb⟩
theorem AfL{R D:Nat}(ha:(Aw R).p va w)(hb:(Aw D).p vb w)(h0:0<D)(hle:D≤R)(hl:len R≤1099511627776):Calls Tryz.prog 133 #[va,vb] w (Aj (Af (Cj R D:Nat)) w):=
 wQ va vb R D w ha hb h0 hle hl
theorem Abs{x y:Nat}(ha:(Aw x).p va w)(hb:(Aw y).p vb w)(hx:len x≤1099511627776)(hy:len y≤1099511627776):Calls Tryz.prog 88 #[va,vb] w (Aj (Am (.bool (decide (x<y)))) w):=by
 have ha:AB w va x:=ha;have hb:AB w vb y:=hb;obtain ⟨A,c,rfl,H⟩:=ha.open_;obtain ⟨B,d,rfl,K⟩:=hb.open_;exact (Mg A B c d x y w H.out K.out hx hy).mono λ_ _ ⟨he,hbb,_⟩=>⟨_,he,rfl,hbb⟩
theorem uA{n k c:Nat}{ad:Addr}(hN:AB Wb (.slice (some ad) k c) n)(hbl:Below Wb.heap.size Wb w)(ha:(Am (.slice (some ad) k c)).p va w)(hv:(Am (.bool false)).p vb w)(hn:len n≤4398046511104):Calls Tryz.prog 89 #[va,vb] w (Aj (Af (n:Int)) w):=by
 have ha:va = .slice (some ad) k c:=ha;subst ha;exact LI (show AB w _ n from hN.into hbl) hv hn
theorem uQ{z:Int}(ha:(Aw z.natAbs).p va w)(hv:(Am (.bool (decide (z<0)))).p vb w)(hn:len z.natAbs≤4398046511104):Calls Tryz.prog 89 #[va,vb] w (Aj (Af z) w):=by
 have hv:vb = .bool (decide (z<0)):=hv;subst hv;have:=R8 va z.natAbs (decide (z<0)) w ha hn;rwa [B9] at this
end
theorem bW{ρ:Operand→Value}{w:World}{x:Operand}{n:Nat}(hn:n<4294967296)(hx:(Am (.int .u32 (n:Int))).p (ρ x) w):FI (.buildSlice 32 1 #[(0,x)]) ρ w (PS n):=by
 have hx:ρ x = .int .u32 (n:Int):=hx;refine ⟨.slice (some ⟨w.heap.size,0,none⟩) 1 1,w.alloc (B6 [n]),λo ho=>?_,Ai _ _,?_⟩
 ·unfold execOp
  rw [ho];simp [go_sem,hx,B6]
 ·exact ⟨_,_,_,[n],rfl,rfl,Nat.le_refl _,by omega,Bt.mk hn Bt.nil_,by simp [val],(Cw.new w [n]).mem (by simp)⟩
theorem Oa{Wb:World}{N:Nat}{S:List (Nat × PF)}{B:List (Nat × CF)}{a:Act}{w:World}{fn:Func}{t t':Nat}{z z':Int}(hst:St Wb N S B a w)(hr:fn.results = #[.cell t 34,.cell t' 34])(k:Nat)(hk:B[k]? = some (t,Ak z))(k':Nat)(hk':B[k']? = some (t',Ak z')):bodyPost Tryz.prog fn (Aj (B5 (Af z) (Af z')) Wb) .ret a w:=by
 obtain ⟨g,h1,_,b,A,n,c,hh,hi⟩:=hst.boxes.get hk;obtain ⟨g',h1',_,b',A',n',c',hh',hi'⟩:=hst.boxes.get hk';have h0:w.cell? ⟨g,0,none⟩=some (.bool b):=by rw [cell_of_row w g 0 _ _ (0,0) hh]; rfl
 have h2:w.cell? ⟨g,1,none⟩=some (.slice A n c):=by rw [cell_of_row w g 1 _ _ (0,0) hh]; rfl
 have h0':w.cell? ⟨g',0,none⟩=some (.bool b'):=by rw [cell_of_row w g' 0 _ _ (0,0) hh']; rfl
 have h2':w.cell? ⟨g',1,none⟩=some (.slice A' n' c'):=by rw [cell_of_row w g' 1 _ _ (0,0) hh']; rfl
 refine bodyPost_ret (v:=.tuple #[.agg #[.bool b,.slice A n c],.agg #[.bool b',.slice A' n' c']]) ?_ hst.defers ⟨_,rfl,⟨_,_,rfl,hi,hi'⟩,hst.below⟩;simp [results,hr,go_sem,h0,h2,h0',h2',Array.getD_eq_getD_getElem?,h1,h1']
theorem O4(q:Nat)(w:World):(Instr.fieldAt 34 (.pointer (some ⟨q,0,none⟩)) 0).run Tryz.prog w = .ok (.pointer (some ⟨q,0,none⟩)) w:=by simp [go_sem]
theorem B4{z:Int}{e:Bool}(he:decide (z<0)=e)(w:World)(q:Nat)(h:(Ak z).p q w):∃ v,(Instr.loadAt 4 (.pointer (some ⟨q,0,none⟩))).run Tryz.prog w = .ok v w∧(Am (.bool e)).p v w:=by
 obtain ⟨b,A,k,c,hh,s,e,hs⟩:=h;have h1:w.cell? ⟨q,0,none⟩=some (.bool b):=by rw [cell_of_row w q 0 _ _ (0,0) hh]; rfl
 simp only [Value.agg.injEq,Array.mk.injEq,List.cons.injEq,and_true] at e;exact ⟨.bool b,by simp [go_sem,h1],he ▸ e.1⟩
theorem Q0{x y q r:Int}(hy:0<y)(h:r+y*q=x)(h0:0≤r)(h1:r<y):q=x / y∧r=x % y:=by
 have:=(Int.ediv_emod_unique (a:=x) (q:=q) (r:=r) hy).2 ⟨h,h0,h1⟩;exact ⟨this.1.symm,this.2.symm⟩
theorem UK{x y q r:Int}(hy:y<0)(h:r+y*q=x)(h0:0≤r)(h1:r < -y):q=x / y∧r=x % y:=by
 have:=Q0 (x:=x) (y:=-y) (q:=-q) (r:=r) (by omega) (by rw [Int.neg_mul_neg]; exact h) h0 h1;rw [Int.ediv_neg,Int.emod_neg] at this;exact ⟨by omega,this.2⟩
theorem Kq(x y:Int)(hy:y≠0):∃ Q R:Int,((x.natAbs / y.natAbs:Nat):Int)=Q∧((x.natAbs % y.natAbs:Nat):Int)=R∧R+(y.natAbs:Int)*Q=(x.natAbs:Int)∧0≤R∧R<(y.natAbs:Int):=by
 have h:=Nat.mod_add_div x.natAbs y.natAbs;have h2:=Nat.mod_lt x.natAbs (show 0<y.natAbs by omega);refine ⟨_,_,rfl,rfl,?_,by omega,by omega⟩;rw [← Int.natCast_mul,← Int.natCast_add,h]
theorem ER{a b i:Nat}(h:Sm ((b:Nat):Int) i)(hle:a≤b):Sm ((a:Nat):Int) i:=Nat.lt_of_le_of_lt hle h
theorem WZ{x y:Nat}{va vb:Value}{w:World}{b:Bool}(ha:(Aw x).p va w)(hb:(Aw y).p vb w)(hx:len x≤1099511627776)(hy:len y≤1099511627776)(e:decide (x<y)=b):Calls Tryz.prog 88 #[va,vb] w (Aj (Am (.bool b)) w):=e ▸ Abs ha hb hx hy
noncomputable def P5:=DG Tryz.f120
noncomputable def Uo:=cl P5
noncomputable def JX:=cr P5
theorem fD:P5 = .seq Uo JX:=by kernel_rfl
noncomputable def VO:=Ba Uo
theorem mR:Uo = .region 0 VO false:=by kernel_rfl
noncomputable def PN:=cl JX
noncomputable def L5:=cr JX
theorem cU:JX = .seq PN L5:=by kernel_rfl
noncomputable def T7:=cl PN
noncomputable def Kl:=cr PN
theorem mJ:PN = .seq T7 Kl:=by kernel_rfl
noncomputable def UC:=Ba T7
theorem gV:T7 = .region 1 UC false:=by kernel_rfl
noncomputable def M6:=cl Kl
noncomputable def T6:=cr Kl
theorem kB:Kl = .cond (.tmp 18) M6 T6:=by kernel_rfl
noncomputable def UV:=cl M6
noncomputable def I7:=cr M6
theorem Abf:M6 = .seq UV I7:=by kernel_rfl
noncomputable def cM:=Ba UV
theorem Ab2:UV = .region 2 cM false:=by kernel_rfl
noncomputable def PJ:=cl I7
noncomputable def Qm:=cr I7
theorem pY:I7 = .seq PJ Qm:=by kernel_rfl
noncomputable def lK:=Ba PJ
theorem uX:PJ = .region 3 lK false:=by kernel_rfl
theorem oY:Qm = .ret:=by kernel_rfl
theorem AdN:T6 = .skip:=by kernel_rfl
noncomputable def QO:=cl L5
noncomputable def Jw:=cr L5
theorem Acb:L5 = .seq QO Jw:=by kernel_rfl
noncomputable def kD:=Ba QO
theorem sT:QO = .region 4 kD false:=by kernel_rfl
noncomputable def O8:=cl Jw
noncomputable def Jm:=cr Jw
theorem sN:Jw = .seq O8 Jm:=by kernel_rfl
noncomputable def Lx:=cl O8
theorem sP:O8 = .block 0 Lx:=by kernel_rfl
noncomputable def I3:=cl Lx
theorem rJ:Lx = .loop I3:=by kernel_rfl
noncomputable def Lk:=cl I3
noncomputable def K6:=cr I3
theorem X_:I3 = .seq Lk K6:=by kernel_rfl
noncomputable def RD:=cl Lk
noncomputable def G_:=cr Lk
theorem WR:Lk = .seq RD G_:=by kernel_rfl
noncomputable def UF:=Ba RD
theorem Yu:RD = .region 5 UF false:=by kernel_rfl
noncomputable def Rf:=cl G_
noncomputable def Q9:=cr G_
theorem WN:G_ = .cond (.tmp 42) Rf Q9:=by kernel_rfl
theorem oR:Rf = .skip:=by kernel_rfl
theorem wD:Q9 = .exit 0:=by kernel_rfl
noncomputable def La:=cl K6
theorem qO:K6 = .block 1 La:=by kernel_rfl
noncomputable def kW:=Ba La
theorem wE:La = .region 6 kW false:=by kernel_rfl
noncomputable def Pk:=cl Jm
noncomputable def Jt:=cr Jm
theorem qS:Jm = .seq Pk Jt:=by kernel_rfl
noncomputable def dS:=Ba Pk
theorem qG:Pk = .region 7 dS false:=by kernel_rfl
noncomputable def Qp:=cl Jt
noncomputable def I5:=cr Jt
theorem uS:Jt = .seq Qp I5:=by kernel_rfl
noncomputable def lM:=Ba Qp
theorem qT:Qp = .region 8 lM true:=by kernel_rfl
noncomputable def QF:=cl I5
noncomputable def Jq:=cr I5
theorem pQ:I5 = .seq QF Jq:=by kernel_rfl
noncomputable def Lt:=cl QF
theorem oS:QF = .block 2 Lt:=by kernel_rfl
noncomputable def Ji:=cl Lt
theorem vH:Lt = .loop Ji:=by kernel_rfl
noncomputable def KX:=cl Ji
noncomputable def LJ:=cr Ji
theorem WJ:Ji = .seq KX LJ:=by kernel_rfl
noncomputable def RG:=cl KX
noncomputable def Hw:=cr KX
theorem XS:KX = .seq RG Hw:=by kernel_rfl
noncomputable def VK:=Ba RG
theorem XK:RG = .region 9 VK false:=by kernel_rfl
noncomputable def Qe:=cl Hw
noncomputable def Rx:=cr Hw
theorem WW:Hw = .cond (.tmp 62) Qe Rx:=by kernel_rfl
theorem vI:Qe = .skip:=by kernel_rfl
theorem oQ:Rx = .exit 2:=by kernel_rfl
noncomputable def Ja:=cl LJ
theorem rW:LJ = .block 3 Ja:=by kernel_rfl
noncomputable def PG:=cl Ja
noncomputable def Jb:=cr Ja
theorem tH:Ja = .seq PG Jb:=by kernel_rfl
noncomputable def Yq:=Ba PG
theorem wO:PG = .region 10 Yq false:=by kernel_rfl
noncomputable def Rn:=cl Jb
noncomputable def K8:=cr Jb
theorem tX:Jb = .seq Rn K8:=by kernel_rfl
noncomputable def Wp:=Ba Rn
theorem vP:Rn = .region 11 Wp false:=by kernel_rfl
noncomputable def Yt:=Ba K8
theorem vT:K8 = .region 12 Yt true:=by kernel_rfl
noncomputable def Pm:=cl Jq
noncomputable def JB:=cr Jq
theorem sY:Jq = .seq Pm JB:=by kernel_rfl
noncomputable def WP:=Ba Pm
theorem wF:Pm = .region 13 WP false:=by kernel_rfl
noncomputable def QK:=cl JB
noncomputable def Qu:=cr JB
theorem qN:JB = .seq QK Qu:=by kernel_rfl
noncomputable def Wx:=Ba QK
theorem wV:QK = .region 14 Wx true:=by kernel_rfl
theorem pI:Qu = .ret:=by kernel_rfl
section
set_option linter.unusedSectionVars false
variable {Wb : World} {x y i j n cap t : Nat} {bd : Addr} (sx : Sm ((x : Nat) : Int) i) (sy : Sm ((y : Nat) : Int) j) (hi : i ≤ 400000000) (hj : j ≤ 400000000) (hN : AB Wb (.slice (some bd) n cap) y) (ct : Wb.cell? (bd.add (n - 1)) = some (.int .u32 (t : Int))) (hn : 1 ≤ n) (hn2 : n ≤ 1099511627776) (ht0 : 0 < t) (ht : t < 4294967296)
include sx sy hi hj hN ct hn hn2 ht0 ht
theorem Abh(n1:n=1)(ct0:Wb.cell? (bd.add 0)=some (.int .u32 (t:Int))):RA 86 [(Aw x),(Am (.slice (some bd) n cap))] [AT] ⟨[(0,(.ref 0)),(1,(.ref 1))],[]⟩ ⟨[(0,(.ref 0)),(1,(.ref 1))],[(4,0),(5,0)]⟩ Wb 0 VO false:=RA.of
   { allocs:=[⟨34,0,_,AR,AS⟩] } (by kernel_rfl)
theorem AbD(n1:n=1)(ct0:Wb.cell? (bd.add 0)=some (.int .u32 (t:Int))):RA 86 [(Am (.slice (some bd) n cap)),(Am (.int .i64 (n:Int))),(Aw x)] [AT] ⟨[(0,(.ref 2)),(1,(.ref 0))],[(4,0),(5,0)]⟩ ⟨[(0,(.ref 2)),(1,(.ref 0)),(18,(.bool true))],[(4,0),(5,0)]⟩ Wb 1 UC false:=RA.of
   { pures:=[p1 (.blt .len [32]) (.ref 0) (.ref 1) λ_ _ _ _ hx=>Ow hx,
      p2 (.bin .eql 3 3) (.ref 1) (.int .i64 1) (.bool true) λ_ _ _ _ _ hx hy=>Cu (r:=true) (by simp; omega) hx hy] } (by kernel_rfl)
theorem Ab7(n1:n=1)(ct0:Wb.cell? (bd.add 0)=some (.int .u32 (t:Int))):RA 86 [(Am (.slice (some bd) n cap)),(Am (.pointer (some ((bd).add (0))))),(Am (.int .u32 (t:Int))),(Aw x),(PS (x / t)),(Am (.int .u32 ((x % t:Nat):Int)))] [AT] ⟨[(0,(.ref 3)),(1,(.ref 0)),(18,(.bool true))],[(4,0),(5,0)]⟩ ⟨[(0,(.ref 3)),(1,(.ref 0)),(6,(.ref 4)),(7,(.ref 5)),(18,(.bool true))],[(4,0),(5,0)]⟩ Wb 2 cM false:=RA.of
   { pures:=[p2 (.idx 32) (.ref 0) (.int .i64 0) (.ref 1) λ_ _ _ _ _ hx hy=>Jc (k:=0) (by omega) hx hy,
      p1 (.ld 114) (.ref 1) (.ref 2) λ_ _ _ hb hx=>Eo ct0 hb Cn hx],
     calls:=[c2 132 (.ref 3) (.ref 2) (.tup2 (.ref 4) (.ref 5)) λw v0 v1 hb h0 h1=>XM h0 h1 (Nat.le_trans (AO sx) (by omega)) (by omega) (by omega)] } (by kernel_rfl)
theorem Ac5(n1:n=1)(ct0:Wb.cell? (bd.add 0)=some (.int .u32 (t:Int))):RA 86 [(PS (x / t)),(Af (((x / t):Nat):Int)),(Am (.int .u32 ((x % t:Nat):Int))),(PS (x % t)),(Af (((x % t):Nat):Int)),(Aw x),(Am (.slice (some bd) n cap))] [AT,(Ak (((x / t):Nat):Int)),(Ak (((x % t):Nat):Int))] ⟨[(0,(.ref 5)),(1,(.ref 6)),(6,(.ref 0)),(7,(.ref 2)),(18,(.bool true))],[(4,0),(5,0)]⟩ ⟨[(0,(.ref 5)),(1,(.ref 6)),(6,(.ref 0)),(7,(.ref 2)),(18,(.bool true))],[(4,1),(5,2)]⟩ Wb 3 lK false:=RA.of
   { pures:=[p1 (.blds 32 1 [0]) (.ref 2) (.ref 3) λ_ _ _ _ hx=>bW (Nat.lt_of_lt_of_le (Nat.mod_lt _ (by omega)) (Nat.le_of_lt (by assumption))) hx],
     calls:=[c2 89 (.ref 0) (.bool false) (.ref 1) λw v0 v1 hb h0 h1=>K_ h0 h1,
      c2 89 (.ref 3) (.bool false) (.ref 4) λw v0 v1 hb h0 h1=>K_ h0 h1],
     stores:=[⟨34,0,0,(.ref 1),1,(Ag _)⟩,
      ⟨34,0,0,(.ref 4),2,(Ag _)⟩] } (by kernel_rfl)
theorem pR(n1:¬ n=1):RA 86 [(Aw x),(Am (.slice (some bd) n cap))] [AT] ⟨[(0,(.ref 0)),(1,(.ref 1))],[]⟩ ⟨[(0,(.ref 0)),(1,(.ref 1))],[(4,0),(5,0)]⟩ Wb 0 VO false:=RA.of
   { allocs:=[⟨34,0,_,AR,AS⟩] } (by kernel_rfl)
theorem pS(n1:¬ n=1):RA 86 [(Am (.slice (some bd) n cap)),(Am (.int .i64 (n:Int))),(Aw x)] [AT] ⟨[(0,(.ref 2)),(1,(.ref 0))],[(4,0),(5,0)]⟩ ⟨[(0,(.ref 2)),(1,(.ref 0)),(18,(.bool false))],[(4,0),(5,0)]⟩ Wb 1 UC false:=RA.of
   { pures:=[p1 (.blt .len [32]) (.ref 0) (.ref 1) λ_ _ _ _ hx=>Ow hx,
      p2 (.bin .eql 3 3) (.ref 1) (.int .i64 1) (.bool false) λ_ _ _ _ _ hx hy=>Cu (r:=false) (by simp; omega) hx hy] } (by kernel_rfl)
theorem Adm(n1:¬ n=1):RA 86 [(Aw x),(Am (.slice (some bd) n cap))] [AT] ⟨[(0,(.ref 0)),(1,(.ref 1)),(18,(.bool false))],[(4,0),(5,0)]⟩ ⟨[(0,(.ref 0)),(1,(.ref 1)),(8,(.int .u32 1)),(18,(.bool false))],[(4,0),(5,0)]⟩ Wb 4 kD false:=RA.of
   {  } (by kernel_rfl)
theorem Abi(n1:¬ n=1){s:Nat}(hs0:0<s)(hs1:s<4294967296)(hts:t*s<4294967296)(hlo:t*s<2147483648):RA 86 [(Am (.slice (some bd) n cap)),(Am (.int .i64 (n:Int))),(Am (.int .i64 ((n - 1:Nat):Int))),(Am (.pointer (some ((bd).add (n - 1))))),(Am (.int .u32 (t:Int))),(Am (.int .u64 (t:Int))),(Am (.int .u32 (s:Int))),(Am (.int .u64 (s:Int))),(Am (.int .u64 ((t*s:Nat):Int))),(Aw x)] [AT] ⟨[(0,(.ref 9)),(1,(.ref 0)),(8,(.ref 6)),(18,(.bool false))],[(4,0),(5,0)]⟩ ⟨[(0,(.ref 9)),(1,(.ref 0)),(8,(.ref 6)),(18,(.bool false)),(42,(.bool true))],[(4,0),(5,0)]⟩ Wb 5 UF false:=RA.of
   { pures:=[p1 (.blt .len [32]) (.ref 0) (.ref 1) λ_ _ _ _ hx=>Ow hx,
      p2 (.bin .sub 3 3) (.ref 1) (.int .i64 1) (.ref 2) λ_ _ _ _ _ hx hy=>KB (z:=((n - 1:Nat):Int)) (by rw [IntKind.wrap_i64]; omega) hx hy,
      p2 (.idx 32) (.ref 0) (.ref 2) (.ref 3) λ_ _ _ _ _ hx hy=>Jc (k:=n - 1) (by omega) hx hy,
      p1 (.ld 114) (.ref 3) (.ref 4) λ_ _ _ hb hx=>Eo ct hb Cn hx,
      p1 (.conv 114 112) (.ref 4) (.ref 5) λ_ _ _ _ hx=>C2 (by omega) (by omega) hx,
      p1 (.conv 114 112) (.ref 6) (.ref 7) λ_ _ _ _ hx=>C2 (by omega) (by omega) hx,
      p2 (.bin .mul 112 112) (.ref 5) (.ref 7) (.ref 8) λ_ _ _ _ _ hx hy=>TB (z:=((t*s:Nat):Int)) (by rw [IntKind.wrap_u64]; rw [← Int.natCast_mul]; omega) hx hy,
      p2 (.bin .lss 112 112) (.ref 8) (.int .u64 2147483648) (.bool true) λ_ _ _ _ _ hx hy=>GZ (r:=true) (by simp only [decide_eq_true_eq,decide_eq_false_iff_not]; omega) hx hy] } (by kernel_rfl)
theorem AbT(n1:¬ n=1){s:Nat}(hs0:0<s)(hs1:s<4294967296)(hts:t*s<4294967296)(hlo:t*s<2147483648):RA 86 [(Am (.int .u32 (s:Int))),(Am (.int .u32 ((2*s:Nat):Int))),(Aw x),(Am (.slice (some bd) n cap))] [AT] ⟨[(0,(.ref 2)),(1,(.ref 3)),(8,(.ref 0)),(18,(.bool false)),(42,(.bool true))],[(4,0),(5,0)]⟩ ⟨[(0,(.ref 2)),(1,(.ref 3)),(8,(.ref 1)),(18,(.bool false)),(42,(.bool true))],[(4,0),(5,0)]⟩ Wb 6 kW false:=RA.of
   { pures:=[p2 (.bin .mul 114 114) (.int .u32 2) (.ref 0) (.ref 1) λ_ _ _ _ _ hx hy=>TB (z:=((2*s:Nat):Int)) (by rw [IntKind.wrap_u32]; have h3:s≤t*s:=Nat.le_mul_of_pos_left s ht0; omega) hx hy] } (by kernel_rfl)
theorem tS(n1:¬ n=1){s:Nat}(hs0:0<s)(hs1:s<4294967296)(hts:t*s<4294967296)(hhi:2147483648≤t*s):RA 86 [(Am (.slice (some bd) n cap)),(Am (.int .i64 (n:Int))),(Am (.int .i64 ((n - 1:Nat):Int))),(Am (.pointer (some ((bd).add (n - 1))))),(Am (.int .u32 (t:Int))),(Am (.int .u64 (t:Int))),(Am (.int .u32 (s:Int))),(Am (.int .u64 (s:Int))),(Am (.int .u64 ((t*s:Nat):Int))),(Aw x)] [AT] ⟨[(0,(.ref 9)),(1,(.ref 0)),(8,(.ref 6)),(18,(.bool false))],[(4,0),(5,0)]⟩ ⟨[(0,(.ref 9)),(1,(.ref 0)),(8,(.ref 6)),(18,(.bool false)),(42,(.bool false))],[(4,0),(5,0)]⟩ Wb 5 UF false:=RA.of
   { pures:=[p1 (.blt .len [32]) (.ref 0) (.ref 1) λ_ _ _ _ hx=>Ow hx,
      p2 (.bin .sub 3 3) (.ref 1) (.int .i64 1) (.ref 2) λ_ _ _ _ _ hx hy=>KB (z:=((n - 1:Nat):Int)) (by rw [IntKind.wrap_i64]; omega) hx hy,
      p2 (.idx 32) (.ref 0) (.ref 2) (.ref 3) λ_ _ _ _ _ hx hy=>Jc (k:=n - 1) (by omega) hx hy,
      p1 (.ld 114) (.ref 3) (.ref 4) λ_ _ _ hb hx=>Eo ct hb Cn hx,
      p1 (.conv 114 112) (.ref 4) (.ref 5) λ_ _ _ _ hx=>C2 (by omega) (by omega) hx,
      p1 (.conv 114 112) (.ref 6) (.ref 7) λ_ _ _ _ hx=>C2 (by omega) (by omega) hx,
      p2 (.bin .mul 112 112) (.ref 5) (.ref 7) (.ref 8) λ_ _ _ _ _ hx hy=>TB (z:=((t*s:Nat):Int)) (by rw [IntKind.wrap_u64]; rw [← Int.natCast_mul]; omega) hx hy,
      p2 (.bin .lss 112 112) (.ref 8) (.int .u64 2147483648) (.bool false) λ_ _ _ _ _ hx hy=>GZ (r:=false) (by simp only [decide_eq_true_eq,decide_eq_false_iff_not]; omega) hx hy] } (by kernel_rfl)
theorem Ac6(n1:¬ n=1){s:Nat}(hs0:0<s)(hs1:s<4294967296):RA 86 [(Am (.int .u32 (s:Int))),(PS s),(Af ((s:Nat):Int)),(Aw x),(Am (.slice (some bd) n cap))] [AT,(Ak ((s:Nat):Int))] ⟨[(0,(.ref 3)),(1,(.ref 4)),(8,(.ref 0)),(18,(.bool false)),(42,(.bool false))],[(4,0),(5,0)]⟩ ⟨[(0,(.ref 3)),(1,(.ref 4)),(8,(.ref 0)),(18,(.bool false)),(42,(.bool false))],[(4,0),(5,0),(9,1)]⟩ Wb 7 dS false:=RA.of
   { pures:=[p1 (.blds 32 1 [0]) (.ref 0) (.ref 1) λ_ _ _ _ hx=>bW hs1 hx],
     calls:=[c2 89 (.ref 1) (.bool false) (.ref 2) λw v0 v1 hb h0 h1=>K_ h0 h1],
     allocs:=[⟨34,0,_,AR,AS⟩],
     stores:=[⟨34,0,0,(.ref 2),1,(Ag _)⟩] } (by kernel_rfl)
theorem Aeq(n1:¬ n=1){s:Nat}(hs0:0<s)(hs1:s<4294967296):RA 86 [(Aw x),(Af ((x:Nat):Int)),(Af ((s:Nat):Int)),(Af (((x:Nat):Int)*((s:Nat):Int))),(Am (.slice (some bd) n cap)),(Af ((y:Nat):Int)),(Af (((y:Nat):Int)*((s:Nat):Int))),(Af 0),(Am (.int .u32 (s:Int)))] [(Ak ((s:Nat):Int)),AT,(Ak (((x:Nat):Int)*((s:Nat):Int))),(Ak (((y:Nat):Int)*((s:Nat):Int))),(Ak 0)] ⟨[(0,(.ref 0)),(1,(.ref 4)),(8,(.ref 8)),(18,(.bool false)),(42,(.bool false))],[(4,1),(5,1),(9,0)]⟩ ⟨[(0,(.ref 0)),(1,(.ref 4)),(8,(.ref 8)),(18,(.bool false)),(42,(.bool false))],[(4,1),(5,1),(9,0),(10,2),(11,3),(12,4)]⟩ Wb 8 lM true:=RA.of
   { pures:=[p0 (.bld 34 []) (.ref 7) λ_ _ _=>lB],
     calls:=[c2 89 (.ref 0) (.bool false) (.ref 1) λw v0 v1 hb h0 h1=>LI h0 h1 (Nat.le_trans (AO sx) (by omega)),
      c2 62 (.ref 1) (.ref 2) (.ref 3) λw v0 v1 hb h0 h1=>Gi h0 h1 sx (Sm.of _ (by omega)) (by first | decide | assumption | omega) (by first | decide | assumption | omega),
      c2 89 (.ref 4) (.bool false) (.ref 5) λw v0 v1 hb h0 h1=>uA hN hb h0 h1 (Nat.le_trans (AO sy) (by omega)),
      c2 62 (.ref 5) (.ref 2) (.ref 6) λw v0 v1 hb h0 h1=>Gi h0 h1 sy (Sm.of _ (by omega)) (by first | decide | assumption | omega) (by first | decide | assumption | omega)],
     loads:=[⟨34,0,0,(.ref 2),λw q h=>Ah w q h⟩],
     allocs:=[⟨34,1,_,AR,AS⟩],
     stores:=[⟨34,0,1,(.ref 3),2,(Ag _)⟩,
      ⟨34,0,1,(.ref 6),3,(Ag _)⟩,
      ⟨34,0,1,(.ref 7),4,(Ag _)⟩] } (by kernel_rfl)
theorem Aej(n1:¬ n=1){s:Nat}(hs0:0<s)(hs1:s<4294967296){q r d:Nat}(hd0:0<d)(sd:Sm ((d:Nat):Int) (j+2))(sr:Sm ((r:Nat):Int) (i+2))(sq:Sm ((q:Nat):Int) (i+2))(hdr:r<d):RA 86 [(Aw r),(Aw d),(Aw x),(Am (.slice (some bd) n cap)),(Am (.int .u32 (s:Int)))] [(Ak ((r:Nat):Int)),(Ak ((d:Nat):Int)),AT,(Ak ((s:Nat):Int)),(Ak ((q:Nat):Int))] ⟨[(0,(.ref 2)),(1,(.ref 3)),(8,(.ref 4)),(18,(.bool false)),(42,(.bool false))],[(4,2),(5,2),(9,3),(10,0),(11,1),(12,4)]⟩ ⟨[(0,(.ref 2)),(1,(.ref 3)),(8,(.ref 4)),(18,(.bool false)),(42,(.bool false)),(62,(.bool false))],[(4,2),(5,2),(9,3),(10,0),(11,1),(12,4)]⟩ Wb 9 VK false:=RA.of
   { calls:=[c2 88 (.ref 0) (.ref 1) (.bool true) λw v0 v1 hb h0 h1=>WZ h0 h1 (Nat.le_trans (AO sr) (by omega)) (Nat.le_trans (AO sd) (by omega)) (by simp; omega)],
     loads:=[⟨32,1,0,(.ref 0),λw q h=>Bo w q h⟩,
      ⟨32,1,1,(.ref 1),λw q h=>Bo w q h⟩],
     flds:=[⟨34,1,1,GJ⟩] } (by kernel_rfl)
theorem vE(n1:¬ n=1){s:Nat}(hs0:0<s)(hs1:s<4294967296){q r d:Nat}(hd0:0<d)(sd:Sm ((d:Nat):Int) (j+2))(sr:Sm ((r:Nat):Int) (i+2))(sq:Sm ((q:Nat):Int) (i+2)):RA 86 [(Aw r),(Am (.int .u32 (s:Int))),(PS (r / s)),(Am (.int .u32 ((r % s:Nat):Int))),(Aw x),(Am (.slice (some bd) n cap))] [(Ak ((r:Nat):Int)),AT,(Ak ((s:Nat):Int)),(Ak ((d:Nat):Int)),(Ak ((q:Nat):Int))] ⟨[(0,(.ref 4)),(1,(.ref 5)),(8,(.ref 1)),(18,(.bool false)),(42,(.bool false)),(62,(.bool false))],[(4,1),(5,1),(9,2),(10,0),(11,3),(12,4)]⟩ ⟨[(0,(.ref 4)),(1,(.ref 5)),(8,(.ref 1)),(14,(.ref 2)),(18,(.bool false)),(42,(.bool false)),(62,(.bool false))],[(4,1),(5,1),(9,2),(10,0),(11,3),(12,4)]⟩ Wb 13 WP false:=RA.of
   { calls:=[c2 132 (.ref 0) (.ref 1) (.tup2 (.ref 2) (.ref 3)) λw v0 v1 hb h0 h1=>XM h0 h1 (Nat.le_trans (AO sr) (by omega)) (by omega) (by omega)],
     loads:=[⟨32,1,0,(.ref 0),λw q h=>Bo w q h⟩],
     flds:=[⟨34,1,1,GJ⟩] } (by kernel_rfl)
theorem sW(n1:¬ n=1){s:Nat}(hs0:0<s)(hs1:s<4294967296){q r d:Nat}(hd0:0<d)(sd:Sm ((d:Nat):Int) (j+2))(sr:Sm ((r:Nat):Int) (i+2))(sq:Sm ((q:Nat):Int) (i+2)):RA 86 [(Af ((q:Nat):Int)),(PS (r / s)),(Af (((r / s):Nat):Int)),(Aw x),(Am (.slice (some bd) n cap)),(Am (.int .u32 (s:Int)))] [(Ak ((q:Nat):Int)),AT,(Ak (((r / s):Nat):Int)),(Ak ((s:Nat):Int)),(Ak ((r:Nat):Int)),(Ak ((d:Nat):Int))] ⟨[(0,(.ref 3)),(1,(.ref 4)),(8,(.ref 5)),(14,(.ref 1)),(18,(.bool false)),(42,(.bool false)),(62,(.bool false))],[(4,1),(5,1),(9,3),(10,4),(11,5),(12,0)]⟩ ⟨[(0,(.ref 3)),(1,(.ref 4)),(8,(.ref 5)),(14,(.ref 1)),(18,(.bool false)),(42,(.bool false)),(62,(.bool false))],[(4,0),(5,2),(9,3),(10,4),(11,5),(12,0)]⟩ Wb 14 Wx true:=RA.of
   { calls:=[c2 89 (.ref 1) (.bool false) (.ref 2) λw v0 v1 hb h0 h1=>K_ h0 h1],
     loads:=[⟨34,0,0,(.ref 0),λw q h=>Ah w q h⟩],
     stores:=[⟨34,0,1,(.ref 0),0,(Ag _)⟩,
      ⟨34,0,1,(.ref 2),2,(Ag _)⟩] } (by kernel_rfl)
theorem qI(n1:¬ n=1){s:Nat}(hs0:0<s)(hs1:s<4294967296){q r d:Nat}(hd0:0<d)(sd:Sm ((d:Nat):Int) (j+2))(sr:Sm ((r:Nat):Int) (i+2))(sq:Sm ((q:Nat):Int) (i+2))(hdr:d≤r)(se:Sm ((Cj r d:Nat):Int) (i+2)):RA 86 [(Aw r),(Aw d),(Aw x),(Am (.slice (some bd) n cap)),(Am (.int .u32 (s:Int)))] [(Ak ((r:Nat):Int)),(Ak ((d:Nat):Int)),AT,(Ak ((s:Nat):Int)),(Ak ((q:Nat):Int))] ⟨[(0,(.ref 2)),(1,(.ref 3)),(8,(.ref 4)),(18,(.bool false)),(42,(.bool false))],[(4,2),(5,2),(9,3),(10,0),(11,1),(12,4)]⟩ ⟨[(0,(.ref 2)),(1,(.ref 3)),(8,(.ref 4)),(18,(.bool false)),(42,(.bool false)),(62,(.bool true))],[(4,2),(5,2),(9,3),(10,0),(11,1),(12,4)]⟩ Wb 9 VK false:=RA.of
   { calls:=[c2 88 (.ref 0) (.ref 1) (.bool false) λw v0 v1 hb h0 h1=>WZ h0 h1 (Nat.le_trans (AO sr) (by omega)) (Nat.le_trans (AO sd) (by omega)) (by simp; omega)],
     loads:=[⟨32,1,0,(.ref 0),λw q h=>Bo w q h⟩,
      ⟨32,1,1,(.ref 1),λw q h=>Bo w q h⟩],
     flds:=[⟨34,1,1,GJ⟩] } (by kernel_rfl)
theorem qR(n1:¬ n=1){s:Nat}(hs0:0<s)(hs1:s<4294967296){q r d:Nat}(hd0:0<d)(sd:Sm ((d:Nat):Int) (j+2))(sr:Sm ((r:Nat):Int) (i+2))(sq:Sm ((q:Nat):Int) (i+2))(hdr:d≤r)(se:Sm ((Cj r d:Nat):Int) (i+2)):RA 86 [(Aw r),(Aw d),(Af ((Cj r d:Nat):Int)),(Aw x),(Am (.slice (some bd) n cap)),(Am (.int .u32 (s:Int)))] [(Ak ((r:Nat):Int)),(Ak ((d:Nat):Int)),AT,(Ak ((Cj r d:Nat):Int)),(Ak ((s:Nat):Int)),(Ak ((q:Nat):Int))] ⟨[(0,(.ref 3)),(1,(.ref 4)),(8,(.ref 5)),(18,(.bool false)),(42,(.bool false)),(62,(.bool true))],[(4,2),(5,2),(9,4),(10,0),(11,1),(12,5)]⟩ ⟨[(0,(.ref 3)),(1,(.ref 4)),(8,(.ref 5)),(18,(.bool false)),(42,(.bool false)),(62,(.bool true))],[(4,2),(5,2),(9,4),(10,0),(11,1),(12,5),(13,3)]⟩ Wb 10 Yq false:=RA.of
   { calls:=[c2 133 (.ref 0) (.ref 1) (.ref 2) λw v0 v1 hb h0 h1=>AfL h0 h1 hd0 hdr (Nat.le_trans (AO sr) (by omega))],
     loads:=[⟨32,1,0,(.ref 0),λw q h=>Bo w q h⟩,
      ⟨32,1,1,(.ref 1),λw q h=>Bo w q h⟩],
     allocs:=[⟨34,2,_,AR,AS⟩],
     stores:=[⟨34,0,2,(.ref 2),3,(Ag _)⟩],
     flds:=[⟨34,1,1,GJ⟩] } (by kernel_rfl)
theorem oO(n1:¬ n=1){s:Nat}(hs0:0<s)(hs1:s<4294967296){q r d:Nat}(hd0:0<d)(sd:Sm ((d:Nat):Int) (j+2))(sr:Sm ((r:Nat):Int) (i+2))(sq:Sm ((q:Nat):Int) (i+2))(hdr:d≤r)(se:Sm ((Cj r d:Nat):Int) (i+2)):RA 86 [(Af ((q:Nat):Int)),(Af ((Cj r d:Nat):Int)),(Af (((q:Nat):Int)+((Cj r d:Nat):Int))),(Aw x),(Am (.slice (some bd) n cap)),(Am (.int .u32 (s:Int)))] [(Ak ((q:Nat):Int)),(Ak ((Cj r d:Nat):Int)),(Ak (((q:Nat):Int)+((Cj r d:Nat):Int))),AT,(Ak ((s:Nat):Int)),(Ak ((r:Nat):Int)),(Ak ((d:Nat):Int))] ⟨[(0,(.ref 3)),(1,(.ref 4)),(8,(.ref 5)),(18,(.bool false)),(42,(.bool false)),(62,(.bool true))],[(4,3),(5,3),(9,4),(10,5),(11,6),(12,0),(13,1)]⟩ ⟨[(0,(.ref 3)),(1,(.ref 4)),(8,(.ref 5)),(18,(.bool false)),(42,(.bool false)),(62,(.bool true))],[(4,3),(5,3),(9,4),(10,5),(11,6),(12,2),(13,1)]⟩ Wb 11 Wp false:=RA.of
   { calls:=[c2 81 (.ref 0) (.ref 1) (.ref 2) λw v0 v1 hb h0 h1=>Ys h0 h1 sq se (by first | decide | assumption | omega) (by first | decide | assumption | omega)],
     loads:=[⟨34,0,0,(.ref 0),λw q h=>Ah w q h⟩,
      ⟨34,0,1,(.ref 1),λw q h=>Ah w q h⟩],
     stores:=[⟨34,0,0,(.ref 2),2,(AM _ _)⟩] } (by kernel_rfl)
theorem oN(n1:¬ n=1){s:Nat}(hs0:0<s)(hs1:s<4294967296){q r d:Nat}(hd0:0<d)(sd:Sm ((d:Nat):Int) (j+2))(sr:Sm ((r:Nat):Int) (i+2))(sq:Sm ((q:Nat):Int) (i+2))(hdr:d≤r)(se:Sm ((Cj r d:Nat):Int) (i+2)):RA 86 [(Af ((r:Nat):Int)),(Af ((Cj r d:Nat):Int)),(Af ((d:Nat):Int)),(Af (((Cj r d:Nat):Int)*((d:Nat):Int))),(Af (((r:Nat):Int) - (((Cj r d:Nat):Int)*((d:Nat):Int)))),(Aw x),(Am (.slice (some bd) n cap)),(Am (.int .u32 (s:Int)))] [(Ak ((r:Nat):Int)),(Ak ((Cj r d:Nat):Int)),(Ak ((d:Nat):Int)),(Ak (((r:Nat):Int) - (((Cj r d:Nat):Int)*((d:Nat):Int)))),AT,(Ak ((s:Nat):Int)),(Ak (((q:Nat):Int)+((Cj r d:Nat):Int)))] ⟨[(0,(.ref 5)),(1,(.ref 6)),(8,(.ref 7)),(18,(.bool false)),(42,(.bool false)),(62,(.bool true))],[(4,4),(5,4),(9,5),(10,0),(11,2),(12,6),(13,1)]⟩ ⟨[(0,(.ref 5)),(1,(.ref 6)),(8,(.ref 7)),(18,(.bool false)),(42,(.bool false)),(62,(.bool true))],[(4,4),(5,4),(9,5),(10,3),(11,2),(12,6),(13,1)]⟩ Wb 12 Yt true:=RA.of
   { calls:=[c2 62 (.ref 1) (.ref 2) (.ref 3) λw v0 v1 hb h0 h1=>Gi h0 h1 se sd (by first | decide | assumption | omega) (by first | decide | assumption | omega),
      c2 121 (.ref 0) (.ref 3) (.ref 4) λw v0 v1 hb h0 h1=>aA h0 h1 sr (se.mul sd) (by first | decide | assumption | omega) (by first | decide | assumption | omega)],
     loads:=[⟨34,0,0,(.ref 0),λw q h=>Ah w q h⟩,
      ⟨34,0,1,(.ref 1),λw q h=>Ah w q h⟩,
      ⟨34,0,2,(.ref 2),λw q h=>Ah w q h⟩],
     stores:=[⟨34,0,0,(.ref 4),3,(AM _ _)⟩] } (by kernel_rfl)
end
theorem Sf(va:Value)(x y i j n cap t:Nat)(bd:Addr)(W:World)(ha:AB W va x)(sx:Sm ((x:Nat):Int) i)(sy:Sm ((y:Nat):Int) j)(hi:i≤400000000)(hj:j≤400000000)(hN:AB W (.slice (some bd) n cap) y)(ct:W.cell? (bd.add (n - 1))=some (.int .u32 (t:Int)))(hn:1≤n)(hn2:n≤1099511627776)(ht0:0<t)(ht:t<4294967296)(hy0:0<y)(ey1:n=1→y=t) :
  Calls Tryz.prog 120 #[va,.slice (some bd) n cap] W (Aj (B5 (Af ((x / y:Nat):Int)) (Af ((x % y:Nat):Int))) W):=by
 refine Dh (S:=[(0,(Aw x)),(1,(Am (.slice (some bd) n cap)))]) Tryz.func120 (by kernel_rfl) Tryz.ntmps120 (by simp) (λx hx=>?_) λa w hst=>?_
 ·simp only [List.mem_cons,List.not_mem_nil,or_false] at hx
  rcases hx with rfl | rfl
  ·exact ⟨_,rfl,ha⟩
  ·exact ⟨_,rfl,rfl⟩
 show Code.wp _ P5 _ a w
 by_cases n1:n=1
 ·have ey:=ey1 n1
  have ct0:W.cell? (bd.add 0)=some (.int .u32 (t:Int)):=by rw [n1] at ct; exact ct
  rw [fD];refine wp_seq ?_;rw [mR];refine (Abh sx sy hi hj hN ct hn hn2 ht0 ht n1 ct0).run hst ?_;clear hst;intro a w hst;show Code.wp _ JX _ a w;rw [cU];refine wp_seq ?_;rw [mJ];refine wp_seq ?_;rw [gV];refine (AbD sx sy hi hj hN ct hn hn2 ht0 ht n1 ct0).run hst ?_;clear hst;intro a w hst;show Code.wp _ Kl _ a w;rw [kB];refine wp_cond_true (A7 hst 2 rfl) ?_;show Code.wp _ M6 _ a w;rw [Abf];refine wp_seq ?_;rw [Ab2];refine (Ab7 sx sy hi hj hN ct hn hn2 ht0 ht n1 ct0).run hst ?_;clear hst;intro a w hst;show Code.wp _ I7 _ a w;rw [pY];refine wp_seq ?_;rw [uX];refine (Ac5 sx sy hi hj hN ct hn hn2 ht0 ht n1 ct0).run hst ?_;clear hst;intro a w hst;show Code.wp _ Qm _ a w;rw [oY];refine wp_ret ?_;rw [← ey] at hst;exact Oa hst rfl 0 rfl 1 rfl
 ·clear ey1
  rw [fD];refine wp_seq ?_;rw [mR];refine (pR sx sy hi hj hN ct hn hn2 ht0 ht n1).run hst ?_;clear hst;intro a w hst;show Code.wp _ JX _ a w;rw [cU];refine wp_seq ?_;rw [mJ];refine wp_seq ?_;rw [gV];refine (pS sx sy hi hj hN ct hn hn2 ht0 ht n1).run hst ?_;clear hst;intro a w hst;show Code.wp _ Kl _ a w;rw [kB];refine wp_cond_false (A7 hst 2 rfl) ?_;show Code.wp _ T6 _ a w;rw [AdN];refine wp_skip ?_;show Code.wp _ L5 _ a w;rw [Acb];refine wp_seq ?_;rw [sT];refine (Adm sx sy hi hj hN ct hn hn2 ht0 ht n1).run hst ?_;clear hst;intro a w hst;show Code.wp _ Jw _ a w;rw [sN];refine wp_seq ?_;rw [sP];refine wp_block ?_;show Code.wp _ Lx _ a w;rw [rJ];refine CO (fun (s:Nat) a w=>St W 86 [(0,(Aw x)),(1,(Am (.slice (some bd) n cap))),(8,(Am (.int .u32 (s:Int)))),(18,(Am (.bool false)))] [(4,AT),(5,AT)] a w∧0<s∧t*s<4294967296) (λs=>4294967296 - s) ?_ (1:Nat) ⟨hst,by omega,by omega⟩;intro s a w ⟨hst,hs0,hts⟩;have hs1:s<4294967296:=Nat.lt_of_le_of_lt (by rw [← Nat.one_mul s]; exact Nat.mul_le_mul_right s ht0 |> λh=>by simpa using h) hts;show Code.wp _ I3 _ a w
  rcases Nat.lt_or_ge (t*s) 2147483648 with hlo | hhi
  ·rw [X_]
   refine wp_seq ?_;rw [WR];refine wp_seq ?_;rw [Yu];refine (Abi sx sy hi hj hN ct hn hn2 ht0 ht n1 hs0 hs1 hts hlo).run hst ?_;clear hst;intro a w hst;show Code.wp _ G_ _ a w;rw [WN];refine wp_cond_true (A7 hst 4 rfl) ?_;show Code.wp _ Rf _ a w;rw [oR];refine wp_skip ?_;show Code.wp _ K6 _ a w;rw [qO];refine wp_block ?_;show Code.wp _ La _ a w;rw [wE];refine (AbT sx sy hi hj hN ct hn hn2 ht0 ht n1 hs0 hs1 hts hlo).run hst ?_;clear hst;intro a w hst;have h2:t*(2*s)=2*(t*s):=by rw [Nat.mul_left_comm]
   have h3:s≤t*s:=Nat.le_mul_of_pos_left s ht0;exact ⟨2*s,⟨(hst.to ⟨hst.slots.get (k:=0) rfl,hst.slots.get (k:=1) rfl,hst.slots.get (k:=2) rfl,hst.slots.get (k:=3) rfl,trivial⟩),by omega,by omega⟩,by show 4294967296 - 2*s<4294967296 - s; omega⟩
  ·rw [X_]
   refine wp_seq ?_;rw [WR];refine wp_seq ?_;rw [Yu];refine (tS sx sy hi hj hN ct hn hn2 ht0 ht n1 hs0 hs1 hts hhi).run hst ?_;clear hst;intro a w hst;show Code.wp _ G_ _ a w;rw [WN];refine wp_cond_false (A7 hst 4 rfl) ?_;show Code.wp _ Q9 _ a w;rw [wD];refine wp_exit ?_;clear hhi hts;show Code.wp _ Jm _ a w;rw [qS];refine wp_seq ?_;rw [qG];refine (Ac6 sx sy hi hj hN ct hn hn2 ht0 ht n1 hs0 hs1).run hst ?_;clear hst;intro a w hst;show Code.wp _ Jt _ a w;rw [uS];refine wp_seq ?_;rw [qT];refine (Aeq sx sy hi hj hN ct hn hn2 ht0 ht n1 hs0 hs1).run hst ?_;clear hst;intro a w hst;show Code.wp _ I5 _ a w;rw [pQ];refine wp_seq ?_;rw [oS];refine wp_block ?_;show Code.wp _ Lt _ a w;rw [vH];obtain ⟨d,hd⟩:∃ d,d=y*s:=⟨_,rfl⟩;obtain ⟨r0,hr0⟩:∃ r,r=x*s:=⟨_,rfl⟩;have hd0:0<d:=by rw [hd]; exact Nat.mul_pos hy0 hs0
   have ed:((y:Nat):Int)*((s:Nat):Int)=((d:Nat):Int):=by rw [hd,Int.natCast_mul]
   have er:((x:Nat):Int)*((s:Nat):Int)=((r0:Nat):Int):=by rw [hr0,Int.natCast_mul]
   have sd:Sm ((d:Nat):Int) (j+2):=by rw [← ed]; exact sy.mul (Sm.of _ (by omega))
   have sr0:Sm ((r0:Nat):Int) (i+2):=by rw [← er]; exact sx.mul (Sm.of _ (by omega))
   rw [ed,er] at hst;refine CO (fun (p:Nat × Nat) a w=>St W 86 [(0,(Aw x)),(1,(Am (.slice (some bd) n cap))),(8,(Am (.int .u32 (s:Int)))),(18,(Am (.bool false))),(42,(Am (.bool false)))] [(4,AT),(5,AT),(9,(Ak ((s:Nat):Int))),(10,(Ak ((p.2:Nat):Int))),(11,(Ak ((d:Nat):Int))),(12,(Ak ((p.1:Nat):Int)))] a w∧p.1*d+p.2=r0) (λp=>p.2) ?_ (0,r0) ⟨hst,by simp⟩
   rintro ⟨q,r⟩ a w ⟨hst,hqr⟩
   simp only [] at hst hqr;show Code.wp _ Ji _ a w;have hq1:q≤q*d:=Nat.le_mul_of_pos_right q hd0;have sr:Sm ((r:Nat):Int) (i+2):=ER sr0 (by omega);have sq:Sm ((q:Nat):Int) (i+2):=ER sr0 (by omega)
   rcases Nat.lt_or_ge r d with hdr | hdr
   ·rw [WJ]
    refine wp_seq ?_;rw [XS];refine wp_seq ?_;rw [XK];refine (Aej sx sy hi hj hN ct hn hn2 ht0 ht n1 hs0 hs1 hd0 sd sr sq hdr).run hst ?_;clear hst;intro a w hst;show Code.wp _ Hw _ a w;rw [WW];refine wp_cond_false (A7 hst 5 rfl) ?_;show Code.wp _ Rx _ a w;rw [oQ];refine wp_exit ?_;obtain ⟨f1,f2⟩:=WF (x:=x) (y:=y) (q:=q) (r:=r) (H:=s) hs0 (by rw [← hd,← hr0,hqr]) (by rw [← hd]; exact hdr);show Code.wp _ Jq _ a w;rw [sY];refine wp_seq ?_;rw [wF];refine (vE sx sy hi hj hN ct hn hn2 ht0 ht n1 hs0 hs1 hd0 sd sr sq).run hst ?_;clear hst;intro a w hst;show Code.wp _ JB _ a w;rw [qN];refine wp_seq ?_;rw [wV];refine (sW sx sy hi hj hN ct hn hn2 ht0 ht n1 hs0 hs1 hd0 sd sr sq).run hst ?_;clear hst;intro a w hst;show Code.wp _ Qu _ a w;rw [pI];refine wp_ret ?_;rw [f1,f2] at hst;exact Oa hst rfl 0 rfl 1 rfl
   ·have hE:=qE hd0 hdr
    have he1:Cj r d≤Cj r d*d:=Nat.le_mul_of_pos_right _ hd0;have se:Sm ((Cj r d:Nat):Int) (i+2):=ER sr0 (by omega);rw [WJ];refine wp_seq ?_;rw [XS];refine wp_seq ?_;rw [XK];refine (qI sx sy hi hj hN ct hn hn2 ht0 ht n1 hs0 hs1 hd0 sd sr sq hdr se).run hst ?_;clear hst;intro a w hst;show Code.wp _ Hw _ a w;rw [WW];refine wp_cond_true (A7 hst 5 rfl) ?_;show Code.wp _ Qe _ a w;rw [vI];refine wp_skip ?_;show Code.wp _ LJ _ a w;rw [rW];refine wp_block ?_;show Code.wp _ Ja _ a w;rw [tH];refine wp_seq ?_;rw [wO];refine (qR sx sy hi hj hN ct hn hn2 ht0 ht n1 hs0 hs1 hd0 sd sr sq hdr se).run hst ?_;clear hst;intro a w hst;show Code.wp _ Jb _ a w;rw [tX];refine wp_seq ?_;rw [vP];refine (oO sx sy hi hj hN ct hn hn2 ht0 ht n1 hs0 hs1 hd0 sd sr sq hdr se).run hst ?_;clear hst;intro a w hst;show Code.wp _ K8 _ a w;rw [vT];refine (oN sx sy hi hj hN ct hn hn2 ht0 ht n1 hs0 hs1 hd0 sd sr sq hdr se).run hst ?_;clear hst;intro a w hst;have e1:((q:Nat):Int)+((Cj r d:Nat):Int)=((q+Cj r d:Nat):Int):=by rw [Int.natCast_add]
    have e2:((r:Nat):Int) - ((Cj r d:Nat):Int)*((d:Nat):Int)=((r - Cj r d*d:Nat):Int):=by rw [Int.natCast_sub hE.2,Int.natCast_mul]
    rw [e1,e2] at hst;have h3:0<Cj r d*d:=Nat.mul_pos hE.1 hd0;exact ⟨(q+Cj r d,r - Cj r d*d),⟨((hst.to (S':=[(0,(Aw x)),(1,(Am (.slice (some bd) n cap))),(8,(Am (.int .u32 (s:Int)))),(18,(Am (.bool false))),(42,(Am (.bool false)))]) ⟨hst.slots.get (k:=0) rfl,hst.slots.get (k:=1) rfl,hst.slots.get (k:=2) rfl,hst.slots.get (k:=3) rfl,hst.slots.get (k:=4) rfl,trivial⟩).firstB 6),by show (q+Cj r d)*d+(r - Cj r d*d)=r0; rw [Nat.add_mul]; omega⟩,by show r - Cj r d*d<r; omega⟩
theorem C7{z:Int}{b:Bool}{va vb:Value}{w:World}(e:decide (z<0)=b)(ha:(Aw z.natAbs).p va w)(hv:(Am (.bool b)).p vb w)(hn:len z.natAbs≤4398046511104):Calls Tryz.prog 89 #[va,vb] w (Aj (Af z) w):=by
 subst e;exact uQ ha hv hn
theorem FQ{x y i j:Nat}{va vb:Value}{w:World}(ha:(Aw x).p va w)(hb:(Aw y).p vb w)(sx:Sm ((x:Nat):Int) i)(sy:Sm ((y:Nat):Int) j)(hi:i≤400000000)(hj:j≤400000000)(hy0:0<y) :
  Calls Tryz.prog 120 #[va,vb] w (Aj (B5 (Af ((x / y:Nat):Int)) (Af ((x % y:Nat):Int))) w):=by
 have hb:AB w vb y:=hb;obtain ⟨B,c,rfl,H⟩:=hb.open_;have hl:len y≠0:=λh=>by have:=AZ.1 h; omega
 have hb2:len y≤j:=AO sy;obtain ⟨bd,rfl,_,hc⟩:=H.out.mem.2.2.at_ (show len y - 1<(Ae y).length by rw [Aa]; omega);have gq:=At (show len y - 1<(Ae y).length by rw [Aa]; omega);have ht:=(As y).get (show len y - 1<(Ae y).length by rw [Aa]; omega);have ht0:=EG hy0;generalize (Ae y)[len y - 1]'(by rw [Aa]; omega)=t at *;refine Sf va x y i j (len y) c t bd w ha sx sy hi hj H.out hc (by omega) (by omega) (by omega) ht hy0 λh=>?_
 rw [h] at gq;obtain ⟨lo,e,hlo⟩:=JV (y:=y) (n:=0) h gq;omega
theorem Afv{x y:Int}{i j:Nat}(va:Value)(vb:Value)(W:World)(hva:(Af x).p va W)(hvb:(Af y).p vb W)(sx:Sm x i)(sy:Sm y j)(hi:i≤400000000)(hj:j≤400000000)(ny:y≠0)(_nx:x<0)(hr:0<((x.natAbs % y.natAbs:Nat):Int))(_hs:0<y):Calls Tryz.prog 112 #[va,vb] W (Aj (DO (Af (-(((x.natAbs / y.natAbs:Nat):Int)+1))) (Af (y - ((x.natAbs % y.natAbs:Nat):Int))) (Am (.int .i64 0))) W):=by
  let E:List PF:=[(Af x),(Af y),(Aw x.natAbs),(Aw y.natAbs),(Am (.int .i64 (Int.sign y))),(Af ((x.natAbs / y.natAbs:Nat):Int)),(Af ((x.natAbs % y.natAbs:Nat):Int)),(Am (.int .i64 (Int.sign ((x.natAbs % y.natAbs:Nat):Int)))),(Af 1),(Af (((x.natAbs / y.natAbs:Nat):Int)+1)),(Af (y - ((x.natAbs % y.natAbs:Nat):Int))),(Af (-(((x.natAbs / y.natAbs:Nat):Int)+1)))]
  let EB:List CF:=[(Ak x),(Ak y),AT,(Ak ((x.natAbs / y.natAbs:Nat):Int)),(Ak ((x.natAbs % y.natAbs:Nat):Int)),(Ak (((x.natAbs / y.natAbs:Nat):Int)+1)),(Ak (y - ((x.natAbs % y.natAbs:Nat):Int))),(Ak (-(((x.natAbs / y.natAbs:Nat):Int)+1)))]
  exact Av (E:=E) (EB:=EB) (fs:=[(.ref 0),(.ref 1)]) (r:=(.tup3 (.ref 11) (.ref 10) (.int .i64 0)))
   { pures:=[p2 (.bin .eql 3 3) (.ref 4) (.int .i64 0) (.bool false) λ_ _ _ _ _ hx hy=>Cu (r:=false) (by simp [Int.sign_eq_zero_iff_zero,ny]) hx hy,
      p2 (.bin .gtr 3 3) (.ref 7) (.int .i64 0) (.bool true) λ_ _ _ _ _ hx hy=>ES (r:=true) (by rw [Int.sign_eq_one_of_pos hr]; decide) hx hy],
     calls:=[c2 89 (.ref 2) (.bool true) (.ref 0) λw v0 v1 hb h0 h1=>C7 (z:=x) (by simp; omega) h0 h1 (Nat.le_trans (AO sx) (by omega)),
      c2 89 (.ref 3) (.bool false) (.ref 1) λw v0 v1 hb h0 h1=>C7 (z:=y) (by simp; omega) h0 h1 (Nat.le_trans (AO sy) (by omega)),
      c1 63 (.ref 1) (.ref 4) λw v0 hb h0=>C1 h0 sy (by first | decide | assumption | omega),
      c2 120 (.ref 2) (.ref 3) (.tup2 (.ref 5) (.ref 6)) λw v0 v1 hb h0 h1=>FQ h0 h1 sx.abs sy.abs hi hj (by omega),
      c1 63 (.ref 6) (.ref 7) λw v0 hb h0=>C1 h0 (ER sx.abs (Nat.mod_le _ _)) (by first | decide | assumption | omega),
      c1 58 (.int .i64 1) (.ref 8) λw v0 hb h0=>ZB 1 (by omega) (by omega) h0,
      c2 81 (.ref 5) (.ref 8) (.ref 9) λw v0 v1 hb h0 h1=>Ys h0 h1 (ER sx.abs (Nat.div_le_self _ _)) (Sm.of 1 (by decide)) (by first | decide | assumption | omega) (by first | decide | assumption | omega),
      c2 121 (.ref 1) (.ref 6) (.ref 10) λw v0 v1 hb h0 h1=>aA h0 h1 sy (ER sx.abs (Nat.mod_le _ _)) (by first | decide | assumption | omega) (by first | decide | assumption | omega),
      c1 60 (.ref 9) (.ref 11) λw v0 hb h0=>O0 h0 ((ER sx.abs (Nat.div_le_self _ _)).add (Sm.of 1 (by decide))) (by first | decide | assumption | omega)],
     loads:=[⟨32,1,0,(.ref 2),λw q h=>Bo w q h⟩,
      ⟨4,0,0,(.bool true),λw q h=>B4 (by simp; omega) w q h⟩,
      ⟨32,1,1,(.ref 3),λw q h=>Bo w q h⟩,
      ⟨4,0,1,(.bool false),λw q h=>B4 (by simp; omega) w q h⟩,
      ⟨34,0,1,(.ref 1),λw q h=>Ah w q h⟩,
      ⟨34,0,4,(.ref 6),λw q h=>Ah w q h⟩,
      ⟨34,0,3,(.ref 5),λw q h=>Ah w q h⟩,
      ⟨34,0,5,(.ref 9),λw q h=>Ah w q h⟩,
      ⟨34,0,7,(.ref 11),λw q h=>Ah w q h⟩,
      ⟨34,0,6,(.ref 10),λw q h=>Ah w q h⟩],
     allocs:=[⟨34,2,_,AR,AS⟩],
     boxes:=[⟨34,(.ref 0),0,λw v h=>AU w v h⟩,
      ⟨34,(.ref 1),1,λw v h=>AU w v h⟩],
     stores:=[⟨34,0,0,(.ref 0),0,(AM _ _)⟩,
      ⟨34,0,1,(.ref 1),1,(AM _ _)⟩,
      ⟨34,0,2,(.ref 5),3,(Ag _)⟩,
      ⟨34,0,2,(.ref 6),4,(Ag _)⟩,
      ⟨34,0,3,(.ref 9),5,(AM _ _)⟩,
      ⟨34,0,4,(.ref 10),6,(AM _ _)⟩,
      ⟨34,0,5,(.ref 11),7,(AM _ _)⟩,
      ⟨34,0,2,(.ref 11),7,(Ag _)⟩,
      ⟨34,0,2,(.ref 10),6,(Ag _)⟩],
     flds:=[⟨34,1,1,GJ⟩,
      ⟨34,0,0,O4⟩] }
   Tryz.func112 ⟨hva,hvb,trivial⟩ (by kernel_rfl)
theorem Afq{x y:Int}{i j:Nat}(va:Value)(vb:Value)(W:World)(hva:(Af x).p va W)(hvb:(Af y).p vb W)(sx:Sm x i)(sy:Sm y j)(hi:i≤400000000)(hj:j≤400000000)(ny:y≠0)(_nx:x<0)(hr:0<((x.natAbs % y.natAbs:Nat):Int))(_hs:y<0):Calls Tryz.prog 112 #[va,vb] W (Aj (DO (Af (((x.natAbs / y.natAbs:Nat):Int)+1)) (Af (((y.natAbs:Nat):Int) - ((x.natAbs % y.natAbs:Nat):Int))) (Am (.int .i64 0))) W):=by
  let E:List PF:=[(Af x),(Af y),(Aw x.natAbs),(Aw y.natAbs),(Am (.int .i64 (Int.sign y))),(Af ((x.natAbs / y.natAbs:Nat):Int)),(Af ((x.natAbs % y.natAbs:Nat):Int)),(Am (.int .i64 (Int.sign ((x.natAbs % y.natAbs:Nat):Int)))),(Af 1),(Af (((x.natAbs / y.natAbs:Nat):Int)+1)),(Af ((y.natAbs:Nat):Int)),(Af (((y.natAbs:Nat):Int) - ((x.natAbs % y.natAbs:Nat):Int)))]
  let EB:List CF:=[(Ak x),(Ak y),AT,(Ak ((x.natAbs / y.natAbs:Nat):Int)),(Ak ((x.natAbs % y.natAbs:Nat):Int)),(Ak (((x.natAbs / y.natAbs:Nat):Int)+1)),(Ak (((y.natAbs:Nat):Int) - ((x.natAbs % y.natAbs:Nat):Int)))]
  exact Av (E:=E) (EB:=EB) (fs:=[(.ref 0),(.ref 1)]) (r:=(.tup3 (.ref 9) (.ref 11) (.int .i64 0)))
   { pures:=[p2 (.bin .eql 3 3) (.ref 4) (.int .i64 0) (.bool false) λ_ _ _ _ _ hx hy=>Cu (r:=false) (by simp [Int.sign_eq_zero_iff_zero,ny]) hx hy,
      p2 (.bin .gtr 3 3) (.ref 7) (.int .i64 0) (.bool true) λ_ _ _ _ _ hx hy=>ES (r:=true) (by rw [Int.sign_eq_one_of_pos hr]; decide) hx hy],
     calls:=[c2 89 (.ref 2) (.bool true) (.ref 0) λw v0 v1 hb h0 h1=>C7 (z:=x) (by simp; omega) h0 h1 (Nat.le_trans (AO sx) (by omega)),
      c2 89 (.ref 3) (.bool true) (.ref 1) λw v0 v1 hb h0 h1=>C7 (z:=y) (by simp; omega) h0 h1 (Nat.le_trans (AO sy) (by omega)),
      c1 63 (.ref 1) (.ref 4) λw v0 hb h0=>C1 h0 sy (by first | decide | assumption | omega),
      c2 120 (.ref 2) (.ref 3) (.tup2 (.ref 5) (.ref 6)) λw v0 v1 hb h0 h1=>FQ h0 h1 sx.abs sy.abs hi hj (by omega),
      c1 63 (.ref 6) (.ref 7) λw v0 hb h0=>C1 h0 (ER sx.abs (Nat.mod_le _ _)) (by first | decide | assumption | omega),
      c1 58 (.int .i64 1) (.ref 8) λw v0 hb h0=>ZB 1 (by omega) (by omega) h0,
      c2 81 (.ref 5) (.ref 8) (.ref 9) λw v0 v1 hb h0 h1=>Ys h0 h1 (ER sx.abs (Nat.div_le_self _ _)) (Sm.of 1 (by decide)) (by first | decide | assumption | omega) (by first | decide | assumption | omega),
      c2 89 (.ref 3) (.bool false) (.ref 10) λw v0 v1 hb h0 h1=>LI h0 h1 (Nat.le_trans (AO sy) (by omega)),
      c2 121 (.ref 10) (.ref 6) (.ref 11) λw v0 v1 hb h0 h1=>aA h0 h1 sy.abs (ER sx.abs (Nat.mod_le _ _)) (by first | decide | assumption | omega) (by first | decide | assumption | omega)],
     loads:=[⟨32,1,0,(.ref 2),λw q h=>Bo w q h⟩,
      ⟨4,0,0,(.bool true),λw q h=>B4 (by simp; omega) w q h⟩,
      ⟨32,1,1,(.ref 3),λw q h=>Bo w q h⟩,
      ⟨4,0,1,(.bool true),λw q h=>B4 (by simp; omega) w q h⟩,
      ⟨34,0,1,(.ref 1),λw q h=>Ah w q h⟩,
      ⟨34,0,4,(.ref 6),λw q h=>Ah w q h⟩,
      ⟨34,0,3,(.ref 5),λw q h=>Ah w q h⟩,
      ⟨34,0,5,(.ref 9),λw q h=>Ah w q h⟩,
      ⟨34,0,6,(.ref 11),λw q h=>Ah w q h⟩],
     allocs:=[⟨34,2,_,AR,AS⟩],
     boxes:=[⟨34,(.ref 0),0,λw v h=>AU w v h⟩,
      ⟨34,(.ref 1),1,λw v h=>AU w v h⟩],
     stores:=[⟨34,0,0,(.ref 0),0,(AM _ _)⟩,
      ⟨34,0,1,(.ref 1),1,(AM _ _)⟩,
      ⟨34,0,2,(.ref 5),3,(Ag _)⟩,
      ⟨34,0,2,(.ref 6),4,(Ag _)⟩,
      ⟨34,0,3,(.ref 9),5,(AM _ _)⟩,
      ⟨34,0,4,(.ref 11),6,(AM _ _)⟩,
      ⟨34,0,2,(.ref 9),5,(Ag _)⟩,
      ⟨34,0,2,(.ref 11),6,(Ag _)⟩],
     flds:=[⟨34,1,1,GJ⟩,
      ⟨34,0,0,O4⟩] }
   Tryz.func112 ⟨hva,hvb,trivial⟩ (by kernel_rfl)
theorem Ah0{x y:Int}{i j:Nat}(va:Value)(vb:Value)(W:World)(hva:(Af x).p va W)(hvb:(Af y).p vb W)(sx:Sm x i)(sy:Sm y j)(hi:i≤400000000)(hj:j≤400000000)(ny:y≠0)(_nx:x<0)(hr:((x.natAbs % y.natAbs:Nat):Int)=0)(_hs:0<y):Calls Tryz.prog 112 #[va,vb] W (Aj (DO (Af (-((x.natAbs / y.natAbs:Nat):Int))) (Af ((x.natAbs % y.natAbs:Nat):Int)) (Am (.int .i64 0))) W):=by
  let E:List PF:=[(Af x),(Af y),(Aw x.natAbs),(Aw y.natAbs),(Am (.int .i64 (Int.sign y))),(Af ((x.natAbs / y.natAbs:Nat):Int)),(Af ((x.natAbs % y.natAbs:Nat):Int)),(Am (.int .i64 (Int.sign ((x.natAbs % y.natAbs:Nat):Int)))),(Af (-((x.natAbs / y.natAbs:Nat):Int)))]
  let EB:List CF:=[(Ak x),(Ak y),AT,(Ak ((x.natAbs / y.natAbs:Nat):Int)),(Ak ((x.natAbs % y.natAbs:Nat):Int)),(Ak (-((x.natAbs / y.natAbs:Nat):Int)))]
  exact Av (E:=E) (EB:=EB) (fs:=[(.ref 0),(.ref 1)]) (r:=(.tup3 (.ref 8) (.ref 6) (.int .i64 0)))
   { pures:=[p2 (.bin .eql 3 3) (.ref 4) (.int .i64 0) (.bool false) λ_ _ _ _ _ hx hy=>Cu (r:=false) (by simp [Int.sign_eq_zero_iff_zero,ny]) hx hy,
      p2 (.bin .gtr 3 3) (.ref 7) (.int .i64 0) (.bool false) λ_ _ _ _ _ hx hy=>ES (r:=false) (by rw [hr]; decide) hx hy],
     calls:=[c2 89 (.ref 2) (.bool true) (.ref 0) λw v0 v1 hb h0 h1=>C7 (z:=x) (by simp; omega) h0 h1 (Nat.le_trans (AO sx) (by omega)),
      c2 89 (.ref 3) (.bool false) (.ref 1) λw v0 v1 hb h0 h1=>C7 (z:=y) (by simp; omega) h0 h1 (Nat.le_trans (AO sy) (by omega)),
      c1 63 (.ref 1) (.ref 4) λw v0 hb h0=>C1 h0 sy (by first | decide | assumption | omega),
      c2 120 (.ref 2) (.ref 3) (.tup2 (.ref 5) (.ref 6)) λw v0 v1 hb h0 h1=>FQ h0 h1 sx.abs sy.abs hi hj (by omega),
      c1 63 (.ref 6) (.ref 7) λw v0 hb h0=>C1 h0 (ER sx.abs (Nat.mod_le _ _)) (by first | decide | assumption | omega),
      c1 60 (.ref 5) (.ref 8) λw v0 hb h0=>O0 h0 (ER sx.abs (Nat.div_le_self _ _)) (by first | decide | assumption | omega)],
     loads:=[⟨32,1,0,(.ref 2),λw q h=>Bo w q h⟩,
      ⟨4,0,0,(.bool true),λw q h=>B4 (by simp; omega) w q h⟩,
      ⟨32,1,1,(.ref 3),λw q h=>Bo w q h⟩,
      ⟨4,0,1,(.bool false),λw q h=>B4 (by simp; omega) w q h⟩,
      ⟨34,0,1,(.ref 1),λw q h=>Ah w q h⟩,
      ⟨34,0,4,(.ref 6),λw q h=>Ah w q h⟩,
      ⟨34,0,3,(.ref 5),λw q h=>Ah w q h⟩,
      ⟨34,0,5,(.ref 8),λw q h=>Ah w q h⟩],
     allocs:=[⟨34,2,_,AR,AS⟩],
     boxes:=[⟨34,(.ref 0),0,λw v h=>AU w v h⟩,
      ⟨34,(.ref 1),1,λw v h=>AU w v h⟩],
     stores:=[⟨34,0,0,(.ref 0),0,(AM _ _)⟩,
      ⟨34,0,1,(.ref 1),1,(AM _ _)⟩,
      ⟨34,0,2,(.ref 5),3,(Ag _)⟩,
      ⟨34,0,2,(.ref 6),4,(Ag _)⟩,
      ⟨34,0,3,(.ref 8),5,(AM _ _)⟩,
      ⟨34,0,2,(.ref 8),5,(Ag _)⟩],
     flds:=[⟨34,1,1,GJ⟩,
      ⟨34,0,0,O4⟩] }
   Tryz.func112 ⟨hva,hvb,trivial⟩ (by kernel_rfl)
theorem Ag0{x y:Int}{i j:Nat}(va:Value)(vb:Value)(W:World)(hva:(Af x).p va W)(hvb:(Af y).p vb W)(sx:Sm x i)(sy:Sm y j)(hi:i≤400000000)(hj:j≤400000000)(ny:y≠0)(_nx:x<0)(hr:((x.natAbs % y.natAbs:Nat):Int)=0)(_hs:y<0):Calls Tryz.prog 112 #[va,vb] W (Aj (DO (Af ((x.natAbs / y.natAbs:Nat):Int)) (Af ((x.natAbs % y.natAbs:Nat):Int)) (Am (.int .i64 0))) W):=by
  let E:List PF:=[(Af x),(Af y),(Aw x.natAbs),(Aw y.natAbs),(Am (.int .i64 (Int.sign y))),(Af ((x.natAbs / y.natAbs:Nat):Int)),(Af ((x.natAbs % y.natAbs:Nat):Int)),(Am (.int .i64 (Int.sign ((x.natAbs % y.natAbs:Nat):Int))))]
  let EB:List CF:=[(Ak x),(Ak y),AT,(Ak ((x.natAbs / y.natAbs:Nat):Int)),(Ak ((x.natAbs % y.natAbs:Nat):Int))]
  exact Av (E:=E) (EB:=EB) (fs:=[(.ref 0),(.ref 1)]) (r:=(.tup3 (.ref 5) (.ref 6) (.int .i64 0)))
   { pures:=[p2 (.bin .eql 3 3) (.ref 4) (.int .i64 0) (.bool false) λ_ _ _ _ _ hx hy=>Cu (r:=false) (by simp [Int.sign_eq_zero_iff_zero,ny]) hx hy,
      p2 (.bin .gtr 3 3) (.ref 7) (.int .i64 0) (.bool false) λ_ _ _ _ _ hx hy=>ES (r:=false) (by rw [hr]; decide) hx hy],
     calls:=[c2 89 (.ref 2) (.bool true) (.ref 0) λw v0 v1 hb h0 h1=>C7 (z:=x) (by simp; omega) h0 h1 (Nat.le_trans (AO sx) (by omega)),
      c2 89 (.ref 3) (.bool true) (.ref 1) λw v0 v1 hb h0 h1=>C7 (z:=y) (by simp; omega) h0 h1 (Nat.le_trans (AO sy) (by omega)),
      c1 63 (.ref 1) (.ref 4) λw v0 hb h0=>C1 h0 sy (by first | decide | assumption | omega),
      c2 120 (.ref 2) (.ref 3) (.tup2 (.ref 5) (.ref 6)) λw v0 v1 hb h0 h1=>FQ h0 h1 sx.abs sy.abs hi hj (by omega),
      c1 63 (.ref 6) (.ref 7) λw v0 hb h0=>C1 h0 (ER sx.abs (Nat.mod_le _ _)) (by first | decide | assumption | omega)],
     loads:=[⟨32,1,0,(.ref 2),λw q h=>Bo w q h⟩,
      ⟨4,0,0,(.bool true),λw q h=>B4 (by simp; omega) w q h⟩,
      ⟨32,1,1,(.ref 3),λw q h=>Bo w q h⟩,
      ⟨4,0,1,(.bool true),λw q h=>B4 (by simp; omega) w q h⟩,
      ⟨34,0,1,(.ref 1),λw q h=>Ah w q h⟩,
      ⟨34,0,4,(.ref 6),λw q h=>Ah w q h⟩,
      ⟨34,0,3,(.ref 5),λw q h=>Ah w q h⟩],
     allocs:=[⟨34,2,_,AR,AS⟩],
     boxes:=[⟨34,(.ref 0),0,λw v h=>AU w v h⟩,
      ⟨34,(.ref 1),1,λw v h=>AU w v h⟩],
     stores:=[⟨34,0,0,(.ref 0),0,(AM _ _)⟩,
      ⟨34,0,1,(.ref 1),1,(AM _ _)⟩,
      ⟨34,0,2,(.ref 5),3,(Ag _)⟩,
      ⟨34,0,2,(.ref 6),4,(Ag _)⟩],
     flds:=[⟨34,1,1,GJ⟩,
      ⟨34,0,0,O4⟩] }
   Tryz.func112 ⟨hva,hvb,trivial⟩ (by kernel_rfl)
theorem Af8{x y:Int}{i j:Nat}(va:Value)(vb:Value)(W:World)(hva:(Af x).p va W)(hvb:(Af y).p vb W)(sx:Sm x i)(sy:Sm y j)(hi:i≤400000000)(hj:j≤400000000)(ny:y≠0)(_nx:0≤x)(_hs:0<y):Calls Tryz.prog 112 #[va,vb] W (Aj (DO (Af ((x.natAbs / y.natAbs:Nat):Int)) (Af ((x.natAbs % y.natAbs:Nat):Int)) (Am (.int .i64 0))) W):=by
  let E:List PF:=[(Af x),(Af y),(Aw x.natAbs),(Aw y.natAbs),(Am (.int .i64 (Int.sign y))),(Af ((x.natAbs / y.natAbs:Nat):Int)),(Af ((x.natAbs % y.natAbs:Nat):Int))]
  let EB:List CF:=[(Ak x),(Ak y),AT,(Ak ((x.natAbs / y.natAbs:Nat):Int)),(Ak ((x.natAbs % y.natAbs:Nat):Int))]
  exact Av (E:=E) (EB:=EB) (fs:=[(.ref 0),(.ref 1)]) (r:=(.tup3 (.ref 5) (.ref 6) (.int .i64 0)))
   { pures:=[p2 (.bin .eql 3 3) (.ref 4) (.int .i64 0) (.bool false) λ_ _ _ _ _ hx hy=>Cu (r:=false) (by simp [Int.sign_eq_zero_iff_zero,ny]) hx hy],
     calls:=[c2 89 (.ref 2) (.bool false) (.ref 0) λw v0 v1 hb h0 h1=>C7 (z:=x) (by simp; omega) h0 h1 (Nat.le_trans (AO sx) (by omega)),
      c2 89 (.ref 3) (.bool false) (.ref 1) λw v0 v1 hb h0 h1=>C7 (z:=y) (by simp; omega) h0 h1 (Nat.le_trans (AO sy) (by omega)),
      c1 63 (.ref 1) (.ref 4) λw v0 hb h0=>C1 h0 sy (by first | decide | assumption | omega),
      c2 120 (.ref 2) (.ref 3) (.tup2 (.ref 5) (.ref 6)) λw v0 v1 hb h0 h1=>FQ h0 h1 sx.abs sy.abs hi hj (by omega)],
     loads:=[⟨32,1,0,(.ref 2),λw q h=>Bo w q h⟩,
      ⟨4,0,0,(.bool false),λw q h=>B4 (by simp; omega) w q h⟩,
      ⟨32,1,1,(.ref 3),λw q h=>Bo w q h⟩,
      ⟨4,0,1,(.bool false),λw q h=>B4 (by simp; omega) w q h⟩,
      ⟨34,0,1,(.ref 1),λw q h=>Ah w q h⟩,
      ⟨34,0,3,(.ref 5),λw q h=>Ah w q h⟩,
      ⟨34,0,4,(.ref 6),λw q h=>Ah w q h⟩],
     allocs:=[⟨34,2,_,AR,AS⟩],
     boxes:=[⟨34,(.ref 0),0,λw v h=>AU w v h⟩,
      ⟨34,(.ref 1),1,λw v h=>AU w v h⟩],
     stores:=[⟨34,0,0,(.ref 0),0,(AM _ _)⟩,
      ⟨34,0,1,(.ref 1),1,(AM _ _)⟩,
      ⟨34,0,2,(.ref 5),3,(Ag _)⟩,
      ⟨34,0,2,(.ref 6),4,(Ag _)⟩],
     flds:=[⟨34,1,1,GJ⟩,
      ⟨34,0,0,O4⟩] }
   Tryz.func112 ⟨hva,hvb,trivial⟩ (by kernel_rfl)
theorem AgT{x y:Int}{i j:Nat}(va:Value)(vb:Value)(W:World)(hva:(Af x).p va W)(hvb:(Af y).p vb W)(sx:Sm x i)(sy:Sm y j)(hi:i≤400000000)(hj:j≤400000000)(ny:y≠0)(_nx:0≤x)(_hs:y<0):Calls Tryz.prog 112 #[va,vb] W (Aj (DO (Af (-((x.natAbs / y.natAbs:Nat):Int))) (Af ((x.natAbs % y.natAbs:Nat):Int)) (Am (.int .i64 0))) W):=by
  let E:List PF:=[(Af x),(Af y),(Aw x.natAbs),(Aw y.natAbs),(Am (.int .i64 (Int.sign y))),(Af ((x.natAbs / y.natAbs:Nat):Int)),(Af ((x.natAbs % y.natAbs:Nat):Int)),(Af (-((x.natAbs / y.natAbs:Nat):Int)))]
  let EB:List CF:=[(Ak x),(Ak y),AT,(Ak ((x.natAbs / y.natAbs:Nat):Int)),(Ak ((x.natAbs % y.natAbs:Nat):Int)),(Ak (-((x.natAbs / y.natAbs:Nat):Int)))]
  exact Av (E:=E) (EB:=EB) (fs:=[(.ref 0),(.ref 1)]) (r:=(.tup3 (.ref 7) (.ref 6) (.int .i64 0)))
   { pures:=[p2 (.bin .eql 3 3) (.ref 4) (.int .i64 0) (.bool false) λ_ _ _ _ _ hx hy=>Cu (r:=false) (by simp [Int.sign_eq_zero_iff_zero,ny]) hx hy],
     calls:=[c2 89 (.ref 2) (.bool false) (.ref 0) λw v0 v1 hb h0 h1=>C7 (z:=x) (by simp; omega) h0 h1 (Nat.le_trans (AO sx) (by omega)),
      c2 89 (.ref 3) (.bool true) (.ref 1) λw v0 v1 hb h0 h1=>C7 (z:=y) (by simp; omega) h0 h1 (Nat.le_trans (AO sy) (by omega)),
      c1 63 (.ref 1) (.ref 4) λw v0 hb h0=>C1 h0 sy (by first | decide | assumption | omega),
      c2 120 (.ref 2) (.ref 3) (.tup2 (.ref 5) (.ref 6)) λw v0 v1 hb h0 h1=>FQ h0 h1 sx.abs sy.abs hi hj (by omega),
      c1 60 (.ref 5) (.ref 7) λw v0 hb h0=>O0 h0 (ER sx.abs (Nat.div_le_self _ _)) (by first | decide | assumption | omega)],
     loads:=[⟨32,1,0,(.ref 2),λw q h=>Bo w q h⟩,
      ⟨4,0,0,(.bool false),λw q h=>B4 (by simp; omega) w q h⟩,
      ⟨32,1,1,(.ref 3),λw q h=>Bo w q h⟩,
      ⟨4,0,1,(.bool true),λw q h=>B4 (by simp; omega) w q h⟩,
      ⟨34,0,1,(.ref 1),λw q h=>Ah w q h⟩,
      ⟨34,0,3,(.ref 5),λw q h=>Ah w q h⟩,
      ⟨34,0,5,(.ref 7),λw q h=>Ah w q h⟩,
      ⟨34,0,4,(.ref 6),λw q h=>Ah w q h⟩],
     allocs:=[⟨34,2,_,AR,AS⟩],
     boxes:=[⟨34,(.ref 0),0,λw v h=>AU w v h⟩,
      ⟨34,(.ref 1),1,λw v h=>AU w v h⟩],
     stores:=[⟨34,0,0,(.ref 0),0,(AM _ _)⟩,
      ⟨34,0,1,(.ref 1),1,(AM _ _)⟩,
      ⟨34,0,2,(.ref 5),3,(Ag _)⟩,
      ⟨34,0,2,(.ref 6),4,(Ag _)⟩,
      ⟨34,0,3,(.ref 7),5,(AM _ _)⟩,
      ⟨34,0,2,(.ref 7),5,(Ag _)⟩],
     flds:=[⟨34,1,1,GJ⟩,
      ⟨34,0,0,O4⟩] }
   Tryz.func112 ⟨hva,hvb,trivial⟩ (by kernel_rfl)
theorem SP(va vb:Value)(x y:Int)(i j:Nat)(W:World)(ha:Al W va x)(hb:Al W vb y)(sx:Sm x i)(sy:Sm y j)(hi:i≤400000000)(hj:j≤400000000)(ny:y≠0):Calls Tryz.prog 112 #[va,vb] W (Aj (DO (Af (x / y)) (Af (x % y)) (Am (.int .i64 0))) W):=by
 rcases Int.lt_or_le x 0 with nx | nx
 ·rcases (show (0:Int)<((x.natAbs % y.natAbs:Nat):Int) ∨ ((x.natAbs % y.natAbs:Nat):Int)=0 by omega) with hr | hr
  ·rcases (show 0<y ∨ y<0 by omega) with hs | hs
   ·have ax:(x.natAbs:Int)=(-x):=by omega
    have ay:(y.natAbs:Int)=y:=by omega
    obtain ⟨e1,e2⟩:(-(((x.natAbs / y.natAbs:Nat):Int)+1))=x / y∧(y - ((x.natAbs % y.natAbs:Nat):Int))=x % y:=by
     obtain ⟨Q,R,eQ,eR,k1,k2,k3⟩:=Kq x y ny;rw [eQ,eR];rw [eR] at hr;rw [ax,ay] at k1;rw [ay] at k3;refine Q0 hs ?_ (by omega) (by omega);have m1:(-y)*Q = -(y*Q):=Int.neg_mul y Q;have m2:y*(-Q) = -(y*Q):=Int.mul_neg y Q;have m3:y*(Q+1)=y*Q+y:=by rw [Int.mul_add,Int.mul_one]
     have m4:y*(-(Q+1)) = -(y*Q) - y:=by rw [Int.mul_neg,m3]; omega
     omega
    have:=Afv va vb W ha hb sx sy hi hj ny nx hr hs;rw [e1,e2] at this;exact this
   ·have ax:(x.natAbs:Int)=(-x):=by omega
    have ay:(y.natAbs:Int)=(-y):=by omega
    obtain ⟨e1,e2⟩:(((x.natAbs / y.natAbs:Nat):Int)+1)=x / y∧(((y.natAbs:Nat):Int) - ((x.natAbs % y.natAbs:Nat):Int))=x % y:=by
     obtain ⟨Q,R,eQ,eR,k1,k2,k3⟩:=Kq x y ny;rw [eQ,eR];rw [eR] at hr;rw [ax,ay] at k1;rw [ay] at k3;rw [ay];refine UK hs ?_ (by omega) (by omega);have m1:(-y)*Q = -(y*Q):=Int.neg_mul y Q;have m2:y*(-Q) = -(y*Q):=Int.mul_neg y Q;have m3:y*(Q+1)=y*Q+y:=by rw [Int.mul_add,Int.mul_one]
     have m4:y*(-(Q+1)) = -(y*Q) - y:=by rw [Int.mul_neg,m3]; omega
     omega
    have:=Afq va vb W ha hb sx sy hi hj ny nx hr hs;rw [e1,e2] at this;exact this
  ·rcases (show 0<y ∨ y<0 by omega) with hs | hs
   ·have ax:(x.natAbs:Int)=(-x):=by omega
    have ay:(y.natAbs:Int)=y:=by omega
    obtain ⟨e1,e2⟩:(-((x.natAbs / y.natAbs:Nat):Int))=x / y∧((x.natAbs % y.natAbs:Nat):Int)=x % y:=by
     obtain ⟨Q,R,eQ,eR,k1,k2,k3⟩:=Kq x y ny;rw [eQ,eR];rw [eR] at hr;rw [ax,ay] at k1;rw [ay] at k3;refine Q0 hs ?_ (by omega) (by omega);have m1:(-y)*Q = -(y*Q):=Int.neg_mul y Q;have m2:y*(-Q) = -(y*Q):=Int.mul_neg y Q;have m3:y*(Q+1)=y*Q+y:=by rw [Int.mul_add,Int.mul_one]
     have m4:y*(-(Q+1)) = -(y*Q) - y:=by rw [Int.mul_neg,m3]; omega
     omega
    have:=Ah0 va vb W ha hb sx sy hi hj ny nx hr hs;rw [e1,e2] at this;exact this
   ·have ax:(x.natAbs:Int)=(-x):=by omega
    have ay:(y.natAbs:Int)=(-y):=by omega
    obtain ⟨e1,e2⟩:((x.natAbs / y.natAbs:Nat):Int)=x / y∧((x.natAbs % y.natAbs:Nat):Int)=x % y:=by
     obtain ⟨Q,R,eQ,eR,k1,k2,k3⟩:=Kq x y ny;rw [eQ,eR];rw [eR] at hr;rw [ax,ay] at k1;rw [ay] at k3;refine UK hs ?_ (by omega) (by omega);have m1:(-y)*Q = -(y*Q):=Int.neg_mul y Q;have m2:y*(-Q) = -(y*Q):=Int.mul_neg y Q;have m3:y*(Q+1)=y*Q+y:=by rw [Int.mul_add,Int.mul_one]
     have m4:y*(-(Q+1)) = -(y*Q) - y:=by rw [Int.mul_neg,m3]; omega
     omega
    have:=Ag0 va vb W ha hb sx sy hi hj ny nx hr hs;rw [e1,e2] at this;exact this
 ·rcases (show 0<y ∨ y<0 by omega) with hs | hs
  ·have ax:(x.natAbs:Int)=x:=by omega
   have ay:(y.natAbs:Int)=y:=by omega
   obtain ⟨e1,e2⟩:((x.natAbs / y.natAbs:Nat):Int)=x / y∧((x.natAbs % y.natAbs:Nat):Int)=x % y:=by
    obtain ⟨Q,R,eQ,eR,k1,k2,k3⟩:=Kq x y ny;rw [eQ,eR];rw [ax,ay] at k1;rw [ay] at k3;refine Q0 hs ?_ (by omega) (by omega);have m1:(-y)*Q = -(y*Q):=Int.neg_mul y Q;have m2:y*(-Q) = -(y*Q):=Int.mul_neg y Q;have m3:y*(Q+1)=y*Q+y:=by rw [Int.mul_add,Int.mul_one]
    have m4:y*(-(Q+1)) = -(y*Q) - y:=by rw [Int.mul_neg,m3]; omega
    omega
   have:=Af8 va vb W ha hb sx sy hi hj ny nx hs;rw [e1,e2] at this;exact this
  ·have ax:(x.natAbs:Int)=x:=by omega
   have ay:(y.natAbs:Int)=(-y):=by omega
   obtain ⟨e1,e2⟩:(-((x.natAbs / y.natAbs:Nat):Int))=x / y∧((x.natAbs % y.natAbs:Nat):Int)=x % y:=by
    obtain ⟨Q,R,eQ,eR,k1,k2,k3⟩:=Kq x y ny;rw [eQ,eR];rw [ax,ay] at k1;rw [ay] at k3;refine UK hs ?_ (by omega) (by omega);have m1:(-y)*Q = -(y*Q):=Int.neg_mul y Q;have m2:y*(-Q) = -(y*Q):=Int.mul_neg y Q;have m3:y*(Q+1)=y*Q+y:=by rw [Int.mul_add,Int.mul_one]
    have m4:y*(-(Q+1)) = -(y*Q) - y:=by rw [Int.mul_neg,m3]; omega
    omega
   have:=AgT va vb W ha hb sx sy hi hj ny nx hs;rw [e1,e2] at this;exact this
theorem Gu{x y:Int}{i j:Nat}{va vb:Value}{w:World}(ha:(Af x).p va w)(hb:(Af y).p vb w)(sx:Sm x i)(sy:Sm y j)(hi:i≤400000000)(hj:j≤400000000)(ny:y≠0) :
 Calls Tryz.prog 112 #[va,vb] w (Aj (DO (Af (x / y)) (Af (x % y)) (Am (.int .i64 0))) w):=SP va vb x y i j w ha hb sx sy hi hj ny
theorem dD(c d:Int):Int.gcd d (c % d)=Int.gcd c d:=by
 rw [Int.gcd_comm c d,Int.emod_def,Int.mul_comm d,Int.gcd_sub_mul_right_right]
theorem emod_lt(c:Int){d:Int}(nd:d≠0):(c % d).natAbs<d.natAbs:=by
 have h1:=Int.emod_nonneg c nd;have h2:=Int.emod_lt c nd;omega
noncomputable def PC:=DG Tryz.f111
noncomputable def T0:=cl PC
noncomputable def Mm:=cr PC
theorem Aea:PC = .seq T0 Mm:=by kernel_rfl
noncomputable def cJ:=Ba T0
theorem Acd:T0 = .region 0 cJ false:=by kernel_rfl
noncomputable def U5:=cl Mm
noncomputable def Nm:=cr Mm
theorem Abj:Mm = .seq U5 Nm:=by kernel_rfl
noncomputable def Qd:=cl U5
theorem AaW:U5 = .block 0 Qd:=by kernel_rfl
noncomputable def Mk:=cl Qd
theorem AdJ:Qd = .loop Mk:=by kernel_rfl
noncomputable def PO:=cl Mk
noncomputable def Pj:=cr Mk
theorem bJ:Mk = .seq PO Pj:=by kernel_rfl
noncomputable def VE:=cl PO
noncomputable def Hg:=cr PO
theorem lG:PO = .seq VE Hg:=by kernel_rfl
noncomputable def VF:=Ba VE
theorem nA:VE = .region 1 VF false:=by kernel_rfl
noncomputable def PI:=cl Hg
noncomputable def Qr:=cr Hg
theorem Wr:Hg = .cond (.tmp 10) PI Qr:=by kernel_rfl
theorem wS:PI = .skip:=by kernel_rfl
theorem tD:Qr = .exit 0:=by kernel_rfl
noncomputable def JD:=cl Pj
theorem Aec:Pj = .block 1 JD:=by kernel_rfl
noncomputable def RE:=cl JD
noncomputable def Lo:=cr JD
theorem qU:JD = .seq RE Lo:=by kernel_rfl
noncomputable def nJ:=Ba RE
theorem pM:RE = .region 2 nJ false:=by kernel_rfl
noncomputable def iI:=Ba Lo
theorem oL:Lo = .region 3 iI true:=by kernel_rfl
noncomputable def Ru:=cl Nm
noncomputable def QN:=cr Nm
theorem AaU:Nm = .seq Ru QN:=by kernel_rfl
noncomputable def eP:=Ba Ru
theorem vQ:Ru = .region 4 eP false:=by kernel_rfl
theorem vY:QN = .ret:=by kernel_rfl
section
set_option linter.unusedSectionVars false
variable {Wb : World} {x y : Int} {k : Nat} (sx : Sm x k) (sy : Sm y k) (hk : k ≤ 400000000)
include sx sy hk
theorem AcI:RA 23 [(Af x),(Af y)] [(Ak x),(Ak y),AT] ⟨[(0,(.ref 0)),(1,(.ref 1))],[]⟩ ⟨[(0,(.ref 0)),(1,(.ref 1))],[(2,0),(3,1),(4,2)]⟩ Wb 0 cJ false:=RA.of
   { allocs:=[⟨34,2,_,AR,AS⟩],
     boxes:=[⟨34,(.ref 0),0,λw v h=>AU w v h⟩,
      ⟨34,(.ref 1),1,λw v h=>AU w v h⟩] } (by kernel_rfl)
theorem AbA{c d:Int}(sc:Sm c k)(sd:Sm d k)(nd:d=0):RA 23 [(Af d),(Am (.int .i64 (Int.sign d))),(Af x),(Af y)] [(Ak d),(Ak c),AT] ⟨[(0,(.ref 2)),(1,(.ref 3))],[(2,1),(3,0),(4,2)]⟩ ⟨[(0,(.ref 2)),(1,(.ref 3)),(10,(.bool false))],[(2,1),(3,0),(4,2)]⟩ Wb 1 VF false:=RA.of
   { pures:=[p2 (.bin .neq 3 3) (.ref 1) (.int .i64 0) (.bool false) λ_ _ _ _ _ hx hy=>T8 (r:=false) (by simp [Int.sign_eq_zero_iff_zero,nd]) hx hy],
     calls:=[c1 63 (.ref 0) (.ref 1) λw v0 hb h0=>C1 h0 sd (by first | decide | assumption | omega)],
     loads:=[⟨34,0,0,(.ref 0),λw q h=>Ah w q h⟩] } (by kernel_rfl)
theorem AcD{c d:Int}(sc:Sm c k)(sd:Sm d k):RA 23 [(Aw c.natAbs),(Af ((c.natAbs:Nat):Int)),(Af x),(Af y)] [(Ak c),AT,(Ak ((c.natAbs:Nat):Int)),(Ak d)] ⟨[(0,(.ref 2)),(1,(.ref 3)),(10,(.bool false))],[(2,0),(3,3),(4,1)]⟩ ⟨[(0,(.ref 2)),(1,(.ref 3)),(10,(.bool false))],[(2,0),(3,3),(4,2)]⟩ Wb 4 eP false:=RA.of
   { calls:=[c2 89 (.ref 0) (.bool false) (.ref 1) λw v0 v1 hb h0 h1=>LI h0 h1 (Nat.le_trans (AO sc) (by omega))],
     loads:=[⟨32,1,0,(.ref 0),λw q h=>Bo w q h⟩],
     stores:=[⟨34,0,1,(.ref 1),2,(Ag _)⟩],
     flds:=[⟨34,1,1,GJ⟩] } (by kernel_rfl)
theorem tJ{c d:Int}(sc:Sm c k)(sd:Sm d k)(nd:d≠0):RA 23 [(Af d),(Am (.int .i64 (Int.sign d))),(Af x),(Af y)] [(Ak d),(Ak c),AT] ⟨[(0,(.ref 2)),(1,(.ref 3))],[(2,1),(3,0),(4,2)]⟩ ⟨[(0,(.ref 2)),(1,(.ref 3)),(10,(.bool true))],[(2,1),(3,0),(4,2)]⟩ Wb 1 VF false:=RA.of
   { pures:=[p2 (.bin .neq 3 3) (.ref 1) (.int .i64 0) (.bool true) λ_ _ _ _ _ hx hy=>T8 (r:=true) (by simp [Int.sign_eq_zero_iff_zero,nd]) hx hy],
     calls:=[c1 63 (.ref 0) (.ref 1) λw v0 hb h0=>C1 h0 sd (by first | decide | assumption | omega)],
     loads:=[⟨34,0,0,(.ref 0),λw q h=>Ah w q h⟩] } (by kernel_rfl)
theorem Adb{c d:Int}(sc:Sm c k)(sd:Sm d k)(nd:d≠0):RA 23 [(Af c),(Af d),(Af (c / d)),(Af (c % d)),(Af x),(Af y)] [(Ak c),(Ak d),AT,(Ak (c / d)),(Ak (c % d))] ⟨[(0,(.ref 4)),(1,(.ref 5)),(10,(.bool true))],[(2,0),(3,1),(4,2)]⟩ ⟨[(0,(.ref 4)),(1,(.ref 5)),(10,(.bool true))],[(2,0),(3,1),(4,2),(5,3),(6,4)]⟩ Wb 2 nJ false:=RA.of
   { calls:=[c2 112 (.ref 0) (.ref 1) (.tup3 (.ref 2) (.ref 3) (.int .i64 0)) λw v0 v1 hb h0 h1=>Gu h0 h1 sc sd (by first | decide | assumption | omega) (by first | decide | assumption | omega) nd],
     loads:=[⟨34,0,0,(.ref 0),λw q h=>Ah w q h⟩,
      ⟨34,0,1,(.ref 1),λw q h=>Ah w q h⟩],
     allocs:=[⟨34,2,_,AR,AS⟩],
     stores:=[⟨34,0,2,(.ref 2),3,(Ag _)⟩,
      ⟨34,0,2,(.ref 3),4,(Ag _)⟩] } (by kernel_rfl)
theorem Aev{c d:Int}(sc:Sm c k)(sd:Sm d k)(nd:d≠0):RA 23 [(Af d),(Af (c % d)),(Af x),(Af y)] [(Ak d),(Ak (c % d)),(Ak c),AT,(Ak (c / d))] ⟨[(0,(.ref 2)),(1,(.ref 3)),(10,(.bool true))],[(2,2),(3,0),(4,3),(5,4),(6,1)]⟩ ⟨[(0,(.ref 2)),(1,(.ref 3)),(10,(.bool true))],[(2,0),(3,1),(4,3),(5,4),(6,1)]⟩ Wb 3 iI true:=RA.of
   { loads:=[⟨34,0,0,(.ref 0),λw q h=>Ah w q h⟩,
      ⟨34,0,1,(.ref 1),λw q h=>Ah w q h⟩],
     stores:=[⟨34,0,2,(.ref 0),0,(AM _ _)⟩,
      ⟨34,0,0,(.ref 1),1,(AM _ _)⟩] } (by kernel_rfl)
end
theorem lR(va vb:Value)(x y:Int)(k:Nat)(W:World)(ha:Al W va x)(hb:Al W vb y)(sx:Sm x k)(sy:Sm y k)(hk:k≤400000000) :
  Calls Tryz.prog 111 #[va,vb] W (Aj (Af ((Int.gcd x y:Nat):Int)) W):=by
 refine Dh (S:=[(0,(Af x)),(1,(Af y))]) Tryz.func111 (by kernel_rfl) Tryz.ntmps111 (by simp) (λx hx=>?_) λa w hst=>?_
 ·simp only [List.mem_cons,List.not_mem_nil,or_false] at hx
  rcases hx with rfl | rfl
  ·exact ⟨_,rfl,ha⟩
  ·exact ⟨_,rfl,hb⟩
 show Code.wp _ PC _ a w;rw [Aea];refine wp_seq ?_;rw [Acd];refine (AcI sx sy hk).run hst ?_;clear hst;intro a w hst;show Code.wp _ Mm _ a w;rw [Abj];refine wp_seq ?_;rw [AaW];refine wp_block ?_;show Code.wp _ Qd _ a w;rw [AdJ];refine CO (fun (p:Int × Int) a w=>St W 23 [(0,(Af x)),(1,(Af y))] [(2,(Ak p.1)),(3,(Ak p.2)),(4,AT)] a w∧Int.gcd p.1 p.2=Int.gcd x y∧Sm p.1 k∧Sm p.2 k) (λp=>p.2.natAbs) ?_ (x,y) ⟨hst,rfl,sx,sy⟩
 rintro ⟨c,d⟩ a w ⟨hst,hg,sc,sd⟩
 simp only [] at hst hg sc sd;show Code.wp _ Mk _ a w
 by_cases nd:d=0
 ·rw [bJ]
  refine wp_seq ?_;rw [lG];refine wp_seq ?_;rw [nA];refine (AbA sx sy hk sc sd nd).run hst ?_;clear hst;intro a w hst;show Code.wp _ Hg _ a w;rw [Wr];refine wp_cond_false (A7 hst 2 rfl) ?_;show Code.wp _ Qr _ a w;rw [tD];refine wp_exit ?_;have e:c.natAbs=Int.gcd x y:=by rw [← hg,nd,Int.gcd_zero_right]
  show Code.wp _ Nm _ a w;rw [AaU];refine wp_seq ?_;rw [vQ];refine (AcD sx sy hk sc sd).run hst ?_;clear hst;intro a w hst;show Code.wp _ QN _ a w;rw [vY];refine wp_ret ?_;rw [e] at hst;exact mZ hst rfl 2 rfl
 ·rw [bJ]
  refine wp_seq ?_;rw [lG];refine wp_seq ?_;rw [nA];refine (tJ sx sy hk sc sd nd).run hst ?_;clear hst;intro a w hst;show Code.wp _ Hg _ a w;rw [Wr];refine wp_cond_true (A7 hst 2 rfl) ?_;show Code.wp _ PI _ a w;rw [wS];refine wp_skip ?_;show Code.wp _ Pj _ a w;rw [Aec];refine wp_block ?_;show Code.wp _ JD _ a w;rw [qU];refine wp_seq ?_;rw [pM];refine (Adb sx sy hk sc sd nd).run hst ?_;clear hst;intro a w hst;show Code.wp _ Lo _ a w;rw [oL];refine (Aev sx sy hk sc sd nd).run hst ?_;clear hst;intro a w hst;exact ⟨(d,c % d),⟨((hst.to (S':=[(0,(Af x)),(1,(Af y))]) ⟨hst.slots.get (k:=0) rfl,hst.slots.get (k:=1) rfl,trivial⟩).firstB 3),by show Int.gcd d (c % d)=_; rw [← hg]; exact dD c d,sd,sd.mod nd⟩,by show (c % d).natAbs<d.natAbs; exact emod_lt c nd⟩
end Go.Proofs.YtegaedfdddapnaaGreat

/- Contracts and facts for the reference's divide and DivMod. -/
import Derived.Test.YtdopbgnkneeceaaGreatqDivP
import Derived.Test.YtdopbgnkneeceaaGreatqREst
set_option linter.unusedSectionVars false
set_option linter.unusedVariables false
set_option linter.unusedSimpArgs false
set_option maxRecDepth 100000
namespace Go.Proofs.YtdopbgnkneeceaaGreat
open Go.RowKit
def PI(n:Nat):PF:=⟨λv w=>∃(A:Option Addr)(k c:Nat)(ms:List Nat),v = .slice A k c∧ms.length=k∧k≤c∧k≤4398046511104∧Bn ms∧val ms=n∧CJ w w.heap.size A ms,
 λ_ _ _ hg ⟨A,k,c,ms,e,h1,h2,h3,h4,h5,h6⟩=>⟨A,k,c,ms,e,h1,h2,h3,h4,h5,h6.grow hg⟩⟩
section
variable {w Wb : World} {va vb : Value}
theorem KU{n:Nat}(ha:(PI n).p va w)(hv:(Am (.bool false)).p vb w):Calls Tryz.prog 89 #[va,vb] w (Aj (Af (n:Int)) w):=by
 have hv:vb = .bool false:=hv;subst hv;obtain ⟨A,k,c,ms,rfl,h1,h2,h3,h4,rfl,h6⟩:=ha;exact CU A k c ms false w h1 h6.raw h3 h2 h4
theorem VQ{n d:Nat}(ha:(Av n).p va w)(hv:(Am (.int .u32 (d:Int))).p vb w)(hn:len n≤4398046511104)(h0:0<d)(h1:d<4294967296):Calls Tryz.prog 132 #[va,vb] w (Aj (BT (PI (n / d)) (Am (.int .u32 ((n % d:Nat):Int)))) w):=by
 have hv:vb = .int .u32 (d:Int):=hv;subst hv;have ha:AB w va n:=ha;obtain ⟨A,c,rfl,H⟩:=ha.open_;refine (UT A (len n) c (Ac n) d w (Aa n) H.out.mem.2.2 (As n) hn h0 h1).mono ?_
 rintro e w' ⟨ds,rfl,hl,h32,hv,hr,hb⟩
 rw [An] at hv ⊢;exact ⟨_,rfl,⟨_,_,rfl,⟨_,_,_,ds,rfl,hl,Nat.le_refl _,hn,h32,hv,hr.mem hr.lt⟩,rfl⟩,hb⟩
theorem Acn{R D:Nat}(ha:(Av R).p va w)(hb:(Av D).p vb w)(h0:0<D)(hle:D≤R)(hl:len R≤1099511627776):Calls Tryz.prog 133 #[va,vb] w (Aj (Af (Ca R D:Nat)) w):=
 pX va vb R D w ha hb h0 hle hl
theorem AaS{x y:Nat}(ha:(Av x).p va w)(hb:(Av y).p vb w)(hx:len x≤1099511627776)(hy:len y≤1099511627776):Calls Tryz.prog 88 #[va,vb] w (Aj (Am (.bool (decide (x<y)))) w):=by
 have ha:AB w va x:=ha;have hb:AB w vb y:=hb;obtain ⟨A,c,rfl,H⟩:=ha.open_;obtain ⟨B,d,rfl,K⟩:=hb.open_;exact (LM A B c d x y w H.out K.out hx hy).mono λ_ _ ⟨he,hbb,_⟩=>⟨_,he,rfl,hbb⟩
theorem lW{n k c:Nat}{ad:Addr}(hN:AB Wb (.slice (some ad) k c) n)(hbl:Below Wb.heap.size Wb w)(ha:(Am (.slice (some ad) k c)).p va w)(hv:(Am (.bool false)).p vb w)(hn:len n≤4398046511104):Calls Tryz.prog 89 #[va,vb] w (Aj (Af (n:Int)) w):=by
 have ha:va = .slice (some ad) k c:=ha;subst ha;exact K5 (show AB w _ n from hN.into hbl) hv hn
theorem pC{z:Int}(ha:(Av z.natAbs).p va w)(hv:(Am (.bool (decide (z<0)))).p vb w)(hn:len z.natAbs≤4398046511104):Calls Tryz.prog 89 #[va,vb] w (Aj (Af z) w):=by
 have hv:vb = .bool (decide (z<0)):=hv;subst hv;have:=R_ va z.natAbs (decide (z<0)) w ha hn;rwa [BU] at this
end
theorem Z_{ρ:Operand→Value}{w:World}{x:Operand}{n:Nat}(hn:n<4294967296)(hx:(Am (.int .u32 (n:Int))).p (ρ x) w):FB (.buildSlice 32 1 #[(0,x)]) ρ w (PI n):=by
 have hx:ρ x = .int .u32 (n:Int):=hx;refine ⟨.slice (some ⟨w.heap.size,0,none⟩) 1 1,w.alloc (BV [n]),λo ho=>?_,Ai _ _,?_⟩
 ·unfold execOp
  rw [ho];simp [go_sem,hx,BV]
 ·exact ⟨_,_,_,[n],rfl,rfl,Nat.le_refl _,by omega,Bn.mk hn Bn.nil_,by simp [val],(Cr.new w [n]).mem (by simp)⟩
theorem Oe{Wb:World}{N:Nat}{S:List (Nat × PF)}{B:List (Nat × CF)}{a:Act}{w:World}{fn:Func}{t t':Nat}{z z':Int}(hst:St Wb N S B a w)(hr:fn.results = #[.cell t 34,.cell t' 34])(k:Nat)(hk:B[k]? = some (t,Ak z))(k':Nat)(hk':B[k']? = some (t',Ak z')):bodyPost Tryz.prog fn (Aj (BT (Af z) (Af z')) Wb) .ret a w:=by
 obtain ⟨g,h1,_,b,A,n,c,hh,hi⟩:=hst.boxes.get hk;obtain ⟨g',h1',_,b',A',n',c',hh',hi'⟩:=hst.boxes.get hk';have h0:w.cell? ⟨g,0,none⟩=some (.bool b):=by rw [cell_of_row w g 0 _ _ (0,0) hh]; rfl
 have h2:w.cell? ⟨g,1,none⟩=some (.slice A n c):=by rw [cell_of_row w g 1 _ _ (0,0) hh]; rfl
 have h0':w.cell? ⟨g',0,none⟩=some (.bool b'):=by rw [cell_of_row w g' 0 _ _ (0,0) hh']; rfl
 have h2':w.cell? ⟨g',1,none⟩=some (.slice A' n' c'):=by rw [cell_of_row w g' 1 _ _ (0,0) hh']; rfl
 refine bodyPost_ret (v:=.tuple #[.agg #[.bool b,.slice A n c],.agg #[.bool b',.slice A' n' c']]) ?_ hst.defers ⟨_,rfl,⟨_,_,rfl,hi,hi'⟩,hst.below⟩;simp [results,hr,go_sem,h0,h2,h0',h2',Array.getD_eq_getD_getElem?,h1,h1']
theorem Nw(q:Nat)(w:World):(Instr.fieldAt 34 (.pointer (some ⟨q,0,none⟩)) 0).run Tryz.prog w = .ok (.pointer (some ⟨q,0,none⟩)) w:=by simp [go_sem]
theorem BS{z:Int}{e:Bool}(he:decide (z<0)=e)(w:World)(q:Nat)(h:(Ak z).p q w):∃ v,(Instr.loadAt 4 (.pointer (some ⟨q,0,none⟩))).run Tryz.prog w = .ok v w∧(Am (.bool e)).p v w:=by
 obtain ⟨b,A,k,c,hh,s,e,hs⟩:=h;have h1:w.cell? ⟨q,0,none⟩=some (.bool b):=by rw [cell_of_row w q 0 _ _ (0,0) hh]; rfl
 simp only [Value.agg.injEq,Array.mk.injEq,List.cons.injEq,and_true] at e;exact ⟨.bool b,by simp [go_sem,h1],he ▸ e.1⟩
theorem Oh{x y q r:Int}(hy:0<y)(h:r+y*q=x)(h0:0≤r)(h1:r<y):q=x / y∧r=x % y:=by
 have:=(Int.ediv_emod_unique (a:=x) (q:=q) (r:=r) hy).2 ⟨h,h0,h1⟩;exact ⟨this.1.symm,this.2.symm⟩
theorem Tt{x y q r:Int}(hy:y<0)(h:r+y*q=x)(h0:0≤r)(h1:r < -y):q=x / y∧r=x % y:=by
 have:=Oh (x:=x) (y:=-y) (q:=-q) (r:=r) (by omega) (by rw [Int.neg_mul_neg]; exact h) h0 h1;rw [Int.ediv_neg,Int.emod_neg] at this;exact ⟨by omega,this.2⟩
theorem Jl(x y:Int)(hy:y≠0):∃ Q R:Int,((x.natAbs / y.natAbs:Nat):Int)=Q∧((x.natAbs % y.natAbs:Nat):Int)=R∧R+(y.natAbs:Int)*Q=(x.natAbs:Int)∧0≤R∧R<(y.natAbs:Int):=by
 have h:=Nat.mod_add_div x.natAbs y.natAbs;have h2:=Nat.mod_lt x.natAbs (show 0<y.natAbs by omega);refine ⟨_,_,rfl,rfl,?_,by omega,by omega⟩;rw [← Int.natCast_mul,← Int.natCast_add,h]
theorem EK{a b i:Nat}(h:Sm ((b:Nat):Int) i)(hle:a≤b):Sm ((a:Nat):Int) i:=Nat.lt_of_le_of_lt hle h
theorem U7{x y:Nat}{va vb:Value}{w:World}{b:Bool}(ha:(Av x).p va w)(hb:(Av y).p vb w)(hx:len x≤1099511627776)(hy:len y≤1099511627776)(e:decide (x<y)=b):Calls Tryz.prog 88 #[va,vb] w (Aj (Am (.bool b)) w):=e ▸ AaS ha hb hx hy
noncomputable def Qv:=C_ Tryz.f120
noncomputable def S9:=cl Qv
noncomputable def Jw:=cr Qv
theorem Zo:Qv = .seq S9 Jw:=by kernel_rfl
noncomputable def T0:=A_ S9
theorem ZP:S9 = .region 0 T0 false:=by kernel_rfl
noncomputable def Qi:=cl Jw
noncomputable def Mj:=cr Jw
theorem ZF:Jw = .seq Qi Mj:=by kernel_rfl
noncomputable def UV:=cl Qi
noncomputable def Ju:=cr Qi
theorem hZ:Qi = .seq UV Ju:=by kernel_rfl
noncomputable def SJ:=A_ UV
theorem aG:UV = .region 1 SJ false:=by kernel_rfl
noncomputable def MS:=cl Ju
noncomputable def SK:=cr Ju
theorem eP:Ju = .cond (.tmp 18) MS SK:=by kernel_rfl
noncomputable def SW:=cl MS
noncomputable def Iy:=cr MS
theorem Aau:MS = .seq SW Iy:=by kernel_rfl
noncomputable def eW:=A_ SW
theorem yR:SW = .region 2 eW false:=by kernel_rfl
noncomputable def OM:=cl Iy
noncomputable def PW:=cr Iy
theorem mC:Iy = .seq OM PW:=by kernel_rfl
noncomputable def dR:=A_ OM
theorem oN:OM = .region 3 dR false:=by kernel_rfl
theorem kK:PW = .ret:=by kernel_rfl
theorem xM:SK = .skip:=by kernel_rfl
noncomputable def Qx:=cl Mj
noncomputable def I3:=cr Mj
theorem wZ:Mj = .seq Qx I3:=by kernel_rfl
noncomputable def fQ:=A_ Qx
theorem kR:Qx = .region 4 fQ false:=by kernel_rfl
noncomputable def Pd:=cl I3
noncomputable def Iz:=cr I3
theorem lQ:I3 = .seq Pd Iz:=by kernel_rfl
noncomputable def K7:=cl Pd
theorem nW:Pd = .block 0 K7:=by kernel_rfl
noncomputable def IH:=cl K7
theorem oO:K7 = .loop IH:=by kernel_rfl
noncomputable def KR:=cl IH
noncomputable def KM:=cr IH
theorem VF:IH = .seq KR KM:=by kernel_rfl
noncomputable def Pu:=cl KR
noncomputable def GU:=cr KR
theorem U9:KR = .seq Pu GU:=by kernel_rfl
noncomputable def Uo:=A_ Pu
theorem U4:Pu = .region 5 Uo false:=by kernel_rfl
noncomputable def Qc:=cl GU
noncomputable def OW:=cr GU
theorem WV:GU = .cond (.tmp 42) Qc OW:=by kernel_rfl
theorem nX:Qc = .skip:=by kernel_rfl
theorem mG:OW = .exit 0:=by kernel_rfl
noncomputable def KN:=cl KM
theorem nE:KM = .block 1 KN:=by kernel_rfl
noncomputable def gD:=A_ KN
theorem mU:KN = .region 6 gD false:=by kernel_rfl
noncomputable def Qr:=cl Iz
noncomputable def IQ:=cr Iz
theorem pN:Iz = .seq Qr IQ:=by kernel_rfl
noncomputable def Y_:=A_ Qr
theorem oM:Qr = .region 7 Y_ false:=by kernel_rfl
noncomputable def Qk:=cl IQ
noncomputable def Ja:=cr IQ
theorem oC:IQ = .seq Qk Ja:=by kernel_rfl
noncomputable def gP:=A_ Qk
theorem pW:Qk = .region 8 gP true:=by kernel_rfl
noncomputable def Qe:=cl Ja
noncomputable def I1:=cr Ja
theorem kH:Ja = .seq Qe I1:=by kernel_rfl
noncomputable def K6:=cl Qe
theorem qF:Qe = .block 2 K6:=by kernel_rfl
noncomputable def Iv:=cl K6
theorem lG:K6 = .loop Iv:=by kernel_rfl
noncomputable def KY:=cl Iv
noncomputable def Kt:=cr Iv
theorem Ve:Iv = .seq KY Kt:=by kernel_rfl
noncomputable def PB:=cl KY
noncomputable def GR:=cr KY
theorem W6:KY = .seq PB GR:=by kernel_rfl
noncomputable def S8:=A_ PB
theorem Wr:PB = .region 9 S8 false:=by kernel_rfl
noncomputable def Pn:=cl GR
noncomputable def PM:=cr GR
theorem WG:GR = .cond (.tmp 62) Pn PM:=by kernel_rfl
theorem oX:Pn = .skip:=by kernel_rfl
theorem mR:PM = .exit 2:=by kernel_rfl
noncomputable def Jf:=cl Kt
theorem mY:Kt = .block 3 Jf:=by kernel_rfl
noncomputable def O9:=cl Jf
noncomputable def I4:=cr Jf
theorem kZ:Jf = .seq O9 I4:=by kernel_rfl
noncomputable def VO:=A_ O9
theorem kG:O9 = .region 10 VO false:=by kernel_rfl
noncomputable def PA:=cl I4
noncomputable def KZ:=cr I4
theorem nT:I4 = .seq PA KZ:=by kernel_rfl
noncomputable def VM:=A_ PA
theorem lF:PA = .region 11 VM false:=by kernel_rfl
noncomputable def V_:=A_ KZ
theorem oI:KZ = .region 12 V_ true:=by kernel_rfl
noncomputable def Ot:=cl I1
noncomputable def IN:=cr I1
theorem pR:I1 = .seq Ot IN:=by kernel_rfl
noncomputable def Wk:=A_ Ot
theorem oD:Ot = .region 13 Wk false:=by kernel_rfl
noncomputable def P5:=cl IN
noncomputable def QD:=cr IN
theorem kF:IN = .seq P5 QD:=by kernel_rfl
noncomputable def V9:=A_ P5
theorem kP:P5 = .region 14 V9 true:=by kernel_rfl
theorem mI:QD = .ret:=by kernel_rfl
section
set_option linter.unusedSectionVars false
variable {Wb : World} {x y i j n cap t : Nat} {bd : Addr} (sx : Sm ((x : Nat) : Int) i) (sy : Sm ((y : Nat) : Int) j) (hi : i ≤ 400000000) (hj : j ≤ 400000000) (hN : AB Wb (.slice (some bd) n cap) y) (ct : Wb.cell? (bd.add (n - 1)) = some (.int .u32 (t : Int))) (hn : 1 ≤ n) (hn2 : n ≤ 1099511627776) (ht0 : 0 < t) (ht : t < 4294967296)
include sx sy hi hj hN ct hn hn2 ht0 ht
theorem yY(n1:n=1)(ct0:Wb.cell? (bd.add 0)=some (.int .u32 (t:Int))):RA 86 [(Av x),(Am (.slice (some bd) n cap))] [AR] ⟨[(0,(.ref 0)),(1,(.ref 1))],[]⟩ ⟨[(0,(.ref 0)),(1,(.ref 1))],[(4,0),(5,0)]⟩ Wb 0 T0 false:=RA.of
   { allocs:=[⟨34,0,_,AO,AP⟩] } (by kernel_rfl)
theorem AaO(n1:n=1)(ct0:Wb.cell? (bd.add 0)=some (.int .u32 (t:Int))):RA 86 [(Am (.slice (some bd) n cap)),(Am (.int .i64 (n:Int))),(Av x)] [AR] ⟨[(0,(.ref 2)),(1,(.ref 0))],[(4,0),(5,0)]⟩ ⟨[(0,(.ref 2)),(1,(.ref 0)),(18,(.bool true))],[(4,0),(5,0)]⟩ Wb 1 SJ false:=RA.of
   { pures:=[p1 (.blt .len [32]) (.ref 0) (.ref 1) λ_ _ _ _ hx=>Oc hx,
      p2 (.bin .eql 3 3) (.ref 1) (.int .i64 1) (.bool true) λ_ _ _ _ _ hx hy=>Cp (r:=true) (by simp; omega) hx hy] } (by kernel_rfl)
theorem Aba(n1:n=1)(ct0:Wb.cell? (bd.add 0)=some (.int .u32 (t:Int))):RA 86 [(Am (.slice (some bd) n cap)),(Am (.pointer (some ((bd).add (0))))),(Am (.int .u32 (t:Int))),(Av x),(PI (x / t)),(Am (.int .u32 ((x % t:Nat):Int)))] [AR] ⟨[(0,(.ref 3)),(1,(.ref 0)),(18,(.bool true))],[(4,0),(5,0)]⟩ ⟨[(0,(.ref 3)),(1,(.ref 0)),(6,(.ref 4)),(7,(.ref 5)),(18,(.bool true))],[(4,0),(5,0)]⟩ Wb 2 eW false:=RA.of
   { pures:=[p2 (.idx 32) (.ref 0) (.int .i64 0) (.ref 1) λ_ _ _ _ _ hx hy=>I5 (k:=0) (by omega) hx hy,
      p1 (.ld 114) (.ref 1) (.ref 2) λ_ _ _ hb hx=>D0 ct0 hb Cl hx],
     calls:=[c2 132 (.ref 3) (.ref 2) (.tup2 (.ref 4) (.ref 5)) λw v0 v1 hb h0 h1=>VQ h0 h1 (Nat.le_trans (AM sx) (by omega)) (by omega) (by omega)] } (by kernel_rfl)
theorem xK(n1:n=1)(ct0:Wb.cell? (bd.add 0)=some (.int .u32 (t:Int))):RA 86 [(PI (x / t)),(Af (((x / t):Nat):Int)),(Am (.int .u32 ((x % t:Nat):Int))),(PI (x % t)),(Af (((x % t):Nat):Int)),(Av x),(Am (.slice (some bd) n cap))] [AR,(Ak (((x / t):Nat):Int)),(Ak (((x % t):Nat):Int))] ⟨[(0,(.ref 5)),(1,(.ref 6)),(6,(.ref 0)),(7,(.ref 2)),(18,(.bool true))],[(4,0),(5,0)]⟩ ⟨[(0,(.ref 5)),(1,(.ref 6)),(6,(.ref 0)),(7,(.ref 2)),(18,(.bool true))],[(4,1),(5,2)]⟩ Wb 3 dR false:=RA.of
   { pures:=[p1 (.blds 32 1 [0]) (.ref 2) (.ref 3) λ_ _ _ _ hx=>Z_ (Nat.lt_of_lt_of_le (Nat.mod_lt _ (by omega)) (Nat.le_of_lt (by assumption))) hx],
     calls:=[c2 89 (.ref 0) (.bool false) (.ref 1) λw v0 v1 hb h0 h1=>KU h0 h1,
      c2 89 (.ref 3) (.bool false) (.ref 4) λw v0 v1 hb h0 h1=>KU h0 h1],
     stores:=[⟨34,0,0,(.ref 1),1,(Ag _)⟩,
      ⟨34,0,0,(.ref 4),2,(Ag _)⟩] } (by kernel_rfl)
theorem oQ(n1:¬ n=1):RA 86 [(Av x),(Am (.slice (some bd) n cap))] [AR] ⟨[(0,(.ref 0)),(1,(.ref 1))],[]⟩ ⟨[(0,(.ref 0)),(1,(.ref 1))],[(4,0),(5,0)]⟩ Wb 0 T0 false:=RA.of
   { allocs:=[⟨34,0,_,AO,AP⟩] } (by kernel_rfl)
theorem nF(n1:¬ n=1):RA 86 [(Am (.slice (some bd) n cap)),(Am (.int .i64 (n:Int))),(Av x)] [AR] ⟨[(0,(.ref 2)),(1,(.ref 0))],[(4,0),(5,0)]⟩ ⟨[(0,(.ref 2)),(1,(.ref 0)),(18,(.bool false))],[(4,0),(5,0)]⟩ Wb 1 SJ false:=RA.of
   { pures:=[p1 (.blt .len [32]) (.ref 0) (.ref 1) λ_ _ _ _ hx=>Oc hx,
      p2 (.bin .eql 3 3) (.ref 1) (.int .i64 1) (.bool false) λ_ _ _ _ _ hx hy=>Cp (r:=false) (by simp; omega) hx hy] } (by kernel_rfl)
theorem yF(n1:¬ n=1):RA 86 [(Av x),(Am (.slice (some bd) n cap))] [AR] ⟨[(0,(.ref 0)),(1,(.ref 1)),(18,(.bool false))],[(4,0),(5,0)]⟩ ⟨[(0,(.ref 0)),(1,(.ref 1)),(8,(.int .u32 1)),(18,(.bool false))],[(4,0),(5,0)]⟩ Wb 4 fQ false:=RA.of
   {  } (by kernel_rfl)
theorem yE(n1:¬ n=1){s:Nat}(hs0:0<s)(hs1:s<4294967296)(hts:t*s<4294967296)(hlo:t*s<2147483648):RA 86 [(Am (.slice (some bd) n cap)),(Am (.int .i64 (n:Int))),(Am (.int .i64 ((n - 1:Nat):Int))),(Am (.pointer (some ((bd).add (n - 1))))),(Am (.int .u32 (t:Int))),(Am (.int .u64 (t:Int))),(Am (.int .u32 (s:Int))),(Am (.int .u64 (s:Int))),(Am (.int .u64 ((t*s:Nat):Int))),(Av x)] [AR] ⟨[(0,(.ref 9)),(1,(.ref 0)),(8,(.ref 6)),(18,(.bool false))],[(4,0),(5,0)]⟩ ⟨[(0,(.ref 9)),(1,(.ref 0)),(8,(.ref 6)),(18,(.bool false)),(42,(.bool true))],[(4,0),(5,0)]⟩ Wb 5 Uo false:=RA.of
   { pures:=[p1 (.blt .len [32]) (.ref 0) (.ref 1) λ_ _ _ _ hx=>Oc hx,
      p2 (.bin .sub 3 3) (.ref 1) (.int .i64 1) (.ref 2) λ_ _ _ _ _ hx hy=>J7 (z:=((n - 1:Nat):Int)) (by rw [IntKind.wrap_i64]; omega) hx hy,
      p2 (.idx 32) (.ref 0) (.ref 2) (.ref 3) λ_ _ _ _ _ hx hy=>I5 (k:=n - 1) (by omega) hx hy,
      p1 (.ld 114) (.ref 3) (.ref 4) λ_ _ _ hb hx=>D0 ct hb Cl hx,
      p1 (.conv 114 112) (.ref 4) (.ref 5) λ_ _ _ _ hx=>CZ (by omega) (by omega) hx,
      p1 (.conv 114 112) (.ref 6) (.ref 7) λ_ _ _ _ hx=>CZ (by omega) (by omega) hx,
      p2 (.bin .mul 112 112) (.ref 5) (.ref 7) (.ref 8) λ_ _ _ _ _ hx hy=>So (z:=((t*s:Nat):Int)) (by rw [IntKind.wrap_u64]; rw [← Int.natCast_mul]; omega) hx hy,
      p2 (.bin .lss 112 112) (.ref 8) (.int .u64 2147483648) (.bool true) λ_ _ _ _ _ hx hy=>F8 (r:=true) (by simp only [decide_eq_true_eq,decide_eq_false_iff_not]; omega) hx hy] } (by kernel_rfl)
theorem zZ(n1:¬ n=1){s:Nat}(hs0:0<s)(hs1:s<4294967296)(hts:t*s<4294967296)(hlo:t*s<2147483648):RA 86 [(Am (.int .u32 (s:Int))),(Am (.int .u32 ((2*s:Nat):Int))),(Av x),(Am (.slice (some bd) n cap))] [AR] ⟨[(0,(.ref 2)),(1,(.ref 3)),(8,(.ref 0)),(18,(.bool false)),(42,(.bool true))],[(4,0),(5,0)]⟩ ⟨[(0,(.ref 2)),(1,(.ref 3)),(8,(.ref 1)),(18,(.bool false)),(42,(.bool true))],[(4,0),(5,0)]⟩ Wb 6 gD false:=RA.of
   { pures:=[p2 (.bin .mul 114 114) (.int .u32 2) (.ref 0) (.ref 1) λ_ _ _ _ _ hx hy=>So (z:=((2*s:Nat):Int)) (by rw [IntKind.wrap_u32]; have h3:s≤t*s:=Nat.le_mul_of_pos_left s ht0; omega) hx hy] } (by kernel_rfl)
theorem qE(n1:¬ n=1){s:Nat}(hs0:0<s)(hs1:s<4294967296)(hts:t*s<4294967296)(hhi:2147483648≤t*s):RA 86 [(Am (.slice (some bd) n cap)),(Am (.int .i64 (n:Int))),(Am (.int .i64 ((n - 1:Nat):Int))),(Am (.pointer (some ((bd).add (n - 1))))),(Am (.int .u32 (t:Int))),(Am (.int .u64 (t:Int))),(Am (.int .u32 (s:Int))),(Am (.int .u64 (s:Int))),(Am (.int .u64 ((t*s:Nat):Int))),(Av x)] [AR] ⟨[(0,(.ref 9)),(1,(.ref 0)),(8,(.ref 6)),(18,(.bool false))],[(4,0),(5,0)]⟩ ⟨[(0,(.ref 9)),(1,(.ref 0)),(8,(.ref 6)),(18,(.bool false)),(42,(.bool false))],[(4,0),(5,0)]⟩ Wb 5 Uo false:=RA.of
   { pures:=[p1 (.blt .len [32]) (.ref 0) (.ref 1) λ_ _ _ _ hx=>Oc hx,
      p2 (.bin .sub 3 3) (.ref 1) (.int .i64 1) (.ref 2) λ_ _ _ _ _ hx hy=>J7 (z:=((n - 1:Nat):Int)) (by rw [IntKind.wrap_i64]; omega) hx hy,
      p2 (.idx 32) (.ref 0) (.ref 2) (.ref 3) λ_ _ _ _ _ hx hy=>I5 (k:=n - 1) (by omega) hx hy,
      p1 (.ld 114) (.ref 3) (.ref 4) λ_ _ _ hb hx=>D0 ct hb Cl hx,
      p1 (.conv 114 112) (.ref 4) (.ref 5) λ_ _ _ _ hx=>CZ (by omega) (by omega) hx,
      p1 (.conv 114 112) (.ref 6) (.ref 7) λ_ _ _ _ hx=>CZ (by omega) (by omega) hx,
      p2 (.bin .mul 112 112) (.ref 5) (.ref 7) (.ref 8) λ_ _ _ _ _ hx hy=>So (z:=((t*s:Nat):Int)) (by rw [IntKind.wrap_u64]; rw [← Int.natCast_mul]; omega) hx hy,
      p2 (.bin .lss 112 112) (.ref 8) (.int .u64 2147483648) (.bool false) λ_ _ _ _ _ hx hy=>F8 (r:=false) (by simp only [decide_eq_true_eq,decide_eq_false_iff_not]; omega) hx hy] } (by kernel_rfl)
theorem vW(n1:¬ n=1){s:Nat}(hs0:0<s)(hs1:s<4294967296):RA 86 [(Am (.int .u32 (s:Int))),(PI s),(Af ((s:Nat):Int)),(Av x),(Am (.slice (some bd) n cap))] [AR,(Ak ((s:Nat):Int))] ⟨[(0,(.ref 3)),(1,(.ref 4)),(8,(.ref 0)),(18,(.bool false)),(42,(.bool false))],[(4,0),(5,0)]⟩ ⟨[(0,(.ref 3)),(1,(.ref 4)),(8,(.ref 0)),(18,(.bool false)),(42,(.bool false))],[(4,0),(5,0),(9,1)]⟩ Wb 7 Y_ false:=RA.of
   { pures:=[p1 (.blds 32 1 [0]) (.ref 0) (.ref 1) λ_ _ _ _ hx=>Z_ hs1 hx],
     calls:=[c2 89 (.ref 1) (.bool false) (.ref 2) λw v0 v1 hb h0 h1=>KU h0 h1],
     allocs:=[⟨34,0,_,AO,AP⟩],
     stores:=[⟨34,0,0,(.ref 2),1,(Ag _)⟩] } (by kernel_rfl)
theorem AaT(n1:¬ n=1){s:Nat}(hs0:0<s)(hs1:s<4294967296):RA 86 [(Av x),(Af ((x:Nat):Int)),(Af ((s:Nat):Int)),(Af (((x:Nat):Int)*((s:Nat):Int))),(Am (.slice (some bd) n cap)),(Af ((y:Nat):Int)),(Af (((y:Nat):Int)*((s:Nat):Int))),(Af 0),(Am (.int .u32 (s:Int)))] [(Ak ((s:Nat):Int)),AR,(Ak (((x:Nat):Int)*((s:Nat):Int))),(Ak (((y:Nat):Int)*((s:Nat):Int))),(Ak 0)] ⟨[(0,(.ref 0)),(1,(.ref 4)),(8,(.ref 8)),(18,(.bool false)),(42,(.bool false))],[(4,1),(5,1),(9,0)]⟩ ⟨[(0,(.ref 0)),(1,(.ref 4)),(8,(.ref 8)),(18,(.bool false)),(42,(.bool false))],[(4,1),(5,1),(9,0),(10,2),(11,3),(12,4)]⟩ Wb 8 gP true:=RA.of
   { pures:=[p0 (.bld 34 []) (.ref 7) λ_ _ _=>bR],
     calls:=[c2 89 (.ref 0) (.bool false) (.ref 1) λw v0 v1 hb h0 h1=>K5 h0 h1 (Nat.le_trans (AM sx) (by omega)),
      c2 62 (.ref 1) (.ref 2) (.ref 3) λw v0 v1 hb h0 h1=>FX h0 h1 sx (Sm.of _ (by omega)) (by first | decide | assumption | omega) (by first | decide | assumption | omega),
      c2 89 (.ref 4) (.bool false) (.ref 5) λw v0 v1 hb h0 h1=>lW hN hb h0 h1 (Nat.le_trans (AM sy) (by omega)),
      c2 62 (.ref 5) (.ref 2) (.ref 6) λw v0 v1 hb h0 h1=>FX h0 h1 sy (Sm.of _ (by omega)) (by first | decide | assumption | omega) (by first | decide | assumption | omega)],
     loads:=[⟨34,0,0,(.ref 2),λw q h=>Ah w q h⟩],
     allocs:=[⟨34,1,_,AO,AP⟩],
     stores:=[⟨34,0,1,(.ref 3),2,(Ag _)⟩,
      ⟨34,0,1,(.ref 6),3,(Ag _)⟩,
      ⟨34,0,1,(.ref 7),4,(Ag _)⟩] } (by kernel_rfl)
theorem AaL(n1:¬ n=1){s:Nat}(hs0:0<s)(hs1:s<4294967296){q r d:Nat}(hd0:0<d)(sd:Sm ((d:Nat):Int) (j+2))(sr:Sm ((r:Nat):Int) (i+2))(sq:Sm ((q:Nat):Int) (i+2))(hdr:r<d):RA 86 [(Av r),(Av d),(Av x),(Am (.slice (some bd) n cap)),(Am (.int .u32 (s:Int)))] [(Ak ((r:Nat):Int)),(Ak ((d:Nat):Int)),AR,(Ak ((s:Nat):Int)),(Ak ((q:Nat):Int))] ⟨[(0,(.ref 2)),(1,(.ref 3)),(8,(.ref 4)),(18,(.bool false)),(42,(.bool false))],[(4,2),(5,2),(9,3),(10,0),(11,1),(12,4)]⟩ ⟨[(0,(.ref 2)),(1,(.ref 3)),(8,(.ref 4)),(18,(.bool false)),(42,(.bool false)),(62,(.bool false))],[(4,2),(5,2),(9,3),(10,0),(11,1),(12,4)]⟩ Wb 9 S8 false:=RA.of
   { calls:=[c2 88 (.ref 0) (.ref 1) (.bool true) λw v0 v1 hb h0 h1=>U7 h0 h1 (Nat.le_trans (AM sr) (by omega)) (Nat.le_trans (AM sd) (by omega)) (by simp; omega)],
     loads:=[⟨32,1,0,(.ref 0),λw q h=>Bk w q h⟩,
      ⟨32,1,1,(.ref 1),λw q h=>Bk w q h⟩],
     flds:=[⟨34,1,1,Gm⟩] } (by kernel_rfl)
theorem kY(n1:¬ n=1){s:Nat}(hs0:0<s)(hs1:s<4294967296){q r d:Nat}(hd0:0<d)(sd:Sm ((d:Nat):Int) (j+2))(sr:Sm ((r:Nat):Int) (i+2))(sq:Sm ((q:Nat):Int) (i+2)):RA 86 [(Av r),(Am (.int .u32 (s:Int))),(PI (r / s)),(Am (.int .u32 ((r % s:Nat):Int))),(Av x),(Am (.slice (some bd) n cap))] [(Ak ((r:Nat):Int)),AR,(Ak ((s:Nat):Int)),(Ak ((d:Nat):Int)),(Ak ((q:Nat):Int))] ⟨[(0,(.ref 4)),(1,(.ref 5)),(8,(.ref 1)),(18,(.bool false)),(42,(.bool false)),(62,(.bool false))],[(4,1),(5,1),(9,2),(10,0),(11,3),(12,4)]⟩ ⟨[(0,(.ref 4)),(1,(.ref 5)),(8,(.ref 1)),(14,(.ref 2)),(18,(.bool false)),(42,(.bool false)),(62,(.bool false))],[(4,1),(5,1),(9,2),(10,0),(11,3),(12,4)]⟩ Wb 13 Wk false:=RA.of
   { calls:=[c2 132 (.ref 0) (.ref 1) (.tup2 (.ref 2) (.ref 3)) λw v0 v1 hb h0 h1=>VQ h0 h1 (Nat.le_trans (AM sr) (by omega)) (by omega) (by omega)],
     loads:=[⟨32,1,0,(.ref 0),λw q h=>Bk w q h⟩],
     flds:=[⟨34,1,1,Gm⟩] } (by kernel_rfl)
theorem nC(n1:¬ n=1){s:Nat}(hs0:0<s)(hs1:s<4294967296){q r d:Nat}(hd0:0<d)(sd:Sm ((d:Nat):Int) (j+2))(sr:Sm ((r:Nat):Int) (i+2))(sq:Sm ((q:Nat):Int) (i+2)):RA 86 [(Af ((q:Nat):Int)),(PI (r / s)),(Af (((r / s):Nat):Int)),(Av x),(Am (.slice (some bd) n cap)),(Am (.int .u32 (s:Int)))] [(Ak ((q:Nat):Int)),AR,(Ak (((r / s):Nat):Int)),(Ak ((s:Nat):Int)),(Ak ((r:Nat):Int)),(Ak ((d:Nat):Int))] ⟨[(0,(.ref 3)),(1,(.ref 4)),(8,(.ref 5)),(14,(.ref 1)),(18,(.bool false)),(42,(.bool false)),(62,(.bool false))],[(4,1),(5,1),(9,3),(10,4),(11,5),(12,0)]⟩ ⟨[(0,(.ref 3)),(1,(.ref 4)),(8,(.ref 5)),(14,(.ref 1)),(18,(.bool false)),(42,(.bool false)),(62,(.bool false))],[(4,0),(5,2),(9,3),(10,4),(11,5),(12,0)]⟩ Wb 14 V9 true:=RA.of
   { calls:=[c2 89 (.ref 1) (.bool false) (.ref 2) λw v0 v1 hb h0 h1=>KU h0 h1],
     loads:=[⟨34,0,0,(.ref 0),λw q h=>Ah w q h⟩],
     stores:=[⟨34,0,1,(.ref 0),0,(Ag _)⟩,
      ⟨34,0,1,(.ref 2),2,(Ag _)⟩] } (by kernel_rfl)
theorem oA(n1:¬ n=1){s:Nat}(hs0:0<s)(hs1:s<4294967296){q r d:Nat}(hd0:0<d)(sd:Sm ((d:Nat):Int) (j+2))(sr:Sm ((r:Nat):Int) (i+2))(sq:Sm ((q:Nat):Int) (i+2))(hdr:d≤r)(se:Sm ((Ca r d:Nat):Int) (i+2)):RA 86 [(Av r),(Av d),(Av x),(Am (.slice (some bd) n cap)),(Am (.int .u32 (s:Int)))] [(Ak ((r:Nat):Int)),(Ak ((d:Nat):Int)),AR,(Ak ((s:Nat):Int)),(Ak ((q:Nat):Int))] ⟨[(0,(.ref 2)),(1,(.ref 3)),(8,(.ref 4)),(18,(.bool false)),(42,(.bool false))],[(4,2),(5,2),(9,3),(10,0),(11,1),(12,4)]⟩ ⟨[(0,(.ref 2)),(1,(.ref 3)),(8,(.ref 4)),(18,(.bool false)),(42,(.bool false)),(62,(.bool true))],[(4,2),(5,2),(9,3),(10,0),(11,1),(12,4)]⟩ Wb 9 S8 false:=RA.of
   { calls:=[c2 88 (.ref 0) (.ref 1) (.bool false) λw v0 v1 hb h0 h1=>U7 h0 h1 (Nat.le_trans (AM sr) (by omega)) (Nat.le_trans (AM sd) (by omega)) (by simp; omega)],
     loads:=[⟨32,1,0,(.ref 0),λw q h=>Bk w q h⟩,
      ⟨32,1,1,(.ref 1),λw q h=>Bk w q h⟩],
     flds:=[⟨34,1,1,Gm⟩] } (by kernel_rfl)
theorem kX(n1:¬ n=1){s:Nat}(hs0:0<s)(hs1:s<4294967296){q r d:Nat}(hd0:0<d)(sd:Sm ((d:Nat):Int) (j+2))(sr:Sm ((r:Nat):Int) (i+2))(sq:Sm ((q:Nat):Int) (i+2))(hdr:d≤r)(se:Sm ((Ca r d:Nat):Int) (i+2)):RA 86 [(Av r),(Av d),(Af ((Ca r d:Nat):Int)),(Av x),(Am (.slice (some bd) n cap)),(Am (.int .u32 (s:Int)))] [(Ak ((r:Nat):Int)),(Ak ((d:Nat):Int)),AR,(Ak ((Ca r d:Nat):Int)),(Ak ((s:Nat):Int)),(Ak ((q:Nat):Int))] ⟨[(0,(.ref 3)),(1,(.ref 4)),(8,(.ref 5)),(18,(.bool false)),(42,(.bool false)),(62,(.bool true))],[(4,2),(5,2),(9,4),(10,0),(11,1),(12,5)]⟩ ⟨[(0,(.ref 3)),(1,(.ref 4)),(8,(.ref 5)),(18,(.bool false)),(42,(.bool false)),(62,(.bool true))],[(4,2),(5,2),(9,4),(10,0),(11,1),(12,5),(13,3)]⟩ Wb 10 VO false:=RA.of
   { calls:=[c2 133 (.ref 0) (.ref 1) (.ref 2) λw v0 v1 hb h0 h1=>Acn h0 h1 hd0 hdr (Nat.le_trans (AM sr) (by omega))],
     loads:=[⟨32,1,0,(.ref 0),λw q h=>Bk w q h⟩,
      ⟨32,1,1,(.ref 1),λw q h=>Bk w q h⟩],
     allocs:=[⟨34,2,_,AO,AP⟩],
     stores:=[⟨34,0,2,(.ref 2),3,(Ag _)⟩],
     flds:=[⟨34,1,1,Gm⟩] } (by kernel_rfl)
theorem mW(n1:¬ n=1){s:Nat}(hs0:0<s)(hs1:s<4294967296){q r d:Nat}(hd0:0<d)(sd:Sm ((d:Nat):Int) (j+2))(sr:Sm ((r:Nat):Int) (i+2))(sq:Sm ((q:Nat):Int) (i+2))(hdr:d≤r)(se:Sm ((Ca r d:Nat):Int) (i+2)):RA 86 [(Af ((q:Nat):Int)),(Af ((Ca r d:Nat):Int)),(Af (((q:Nat):Int)+((Ca r d:Nat):Int))),(Av x),(Am (.slice (some bd) n cap)),(Am (.int .u32 (s:Int)))] [(Ak ((q:Nat):Int)),(Ak ((Ca r d:Nat):Int)),(Ak (((q:Nat):Int)+((Ca r d:Nat):Int))),AR,(Ak ((s:Nat):Int)),(Ak ((r:Nat):Int)),(Ak ((d:Nat):Int))] ⟨[(0,(.ref 3)),(1,(.ref 4)),(8,(.ref 5)),(18,(.bool false)),(42,(.bool false)),(62,(.bool true))],[(4,3),(5,3),(9,4),(10,5),(11,6),(12,0),(13,1)]⟩ ⟨[(0,(.ref 3)),(1,(.ref 4)),(8,(.ref 5)),(18,(.bool false)),(42,(.bool false)),(62,(.bool true))],[(4,3),(5,3),(9,4),(10,5),(11,6),(12,2),(13,1)]⟩ Wb 11 VM false:=RA.of
   { calls:=[c2 81 (.ref 0) (.ref 1) (.ref 2) λw v0 v1 hb h0 h1=>Vb h0 h1 sq se (by first | decide | assumption | omega) (by first | decide | assumption | omega)],
     loads:=[⟨34,0,0,(.ref 0),λw q h=>Ah w q h⟩,
      ⟨34,0,1,(.ref 1),λw q h=>Ah w q h⟩],
     stores:=[⟨34,0,0,(.ref 2),2,(AK _ _)⟩] } (by kernel_rfl)
theorem qA(n1:¬ n=1){s:Nat}(hs0:0<s)(hs1:s<4294967296){q r d:Nat}(hd0:0<d)(sd:Sm ((d:Nat):Int) (j+2))(sr:Sm ((r:Nat):Int) (i+2))(sq:Sm ((q:Nat):Int) (i+2))(hdr:d≤r)(se:Sm ((Ca r d:Nat):Int) (i+2)):RA 86 [(Af ((r:Nat):Int)),(Af ((Ca r d:Nat):Int)),(Af ((d:Nat):Int)),(Af (((Ca r d:Nat):Int)*((d:Nat):Int))),(Af (((r:Nat):Int) - (((Ca r d:Nat):Int)*((d:Nat):Int)))),(Av x),(Am (.slice (some bd) n cap)),(Am (.int .u32 (s:Int)))] [(Ak ((r:Nat):Int)),(Ak ((Ca r d:Nat):Int)),(Ak ((d:Nat):Int)),(Ak (((r:Nat):Int) - (((Ca r d:Nat):Int)*((d:Nat):Int)))),AR,(Ak ((s:Nat):Int)),(Ak (((q:Nat):Int)+((Ca r d:Nat):Int)))] ⟨[(0,(.ref 5)),(1,(.ref 6)),(8,(.ref 7)),(18,(.bool false)),(42,(.bool false)),(62,(.bool true))],[(4,4),(5,4),(9,5),(10,0),(11,2),(12,6),(13,1)]⟩ ⟨[(0,(.ref 5)),(1,(.ref 6)),(8,(.ref 7)),(18,(.bool false)),(42,(.bool false)),(62,(.bool true))],[(4,4),(5,4),(9,5),(10,3),(11,2),(12,6),(13,1)]⟩ Wb 12 V_ true:=RA.of
   { calls:=[c2 62 (.ref 1) (.ref 2) (.ref 3) λw v0 v1 hb h0 h1=>FX h0 h1 se sd (by first | decide | assumption | omega) (by first | decide | assumption | omega),
      c2 121 (.ref 0) (.ref 3) (.ref 4) λw v0 v1 hb h0 h1=>iR h0 h1 sr (se.mul sd) (by first | decide | assumption | omega) (by first | decide | assumption | omega)],
     loads:=[⟨34,0,0,(.ref 0),λw q h=>Ah w q h⟩,
      ⟨34,0,1,(.ref 1),λw q h=>Ah w q h⟩,
      ⟨34,0,2,(.ref 2),λw q h=>Ah w q h⟩],
     stores:=[⟨34,0,0,(.ref 4),3,(AK _ _)⟩] } (by kernel_rfl)
end
theorem R4(va:Value)(x y i j n cap t:Nat)(bd:Addr)(W:World)(ha:AB W va x)(sx:Sm ((x:Nat):Int) i)(sy:Sm ((y:Nat):Int) j)(hi:i≤400000000)(hj:j≤400000000)(hN:AB W (.slice (some bd) n cap) y)(ct:W.cell? (bd.add (n - 1))=some (.int .u32 (t:Int)))(hn:1≤n)(hn2:n≤1099511627776)(ht0:0<t)(ht:t<4294967296)(hy0:0<y)(ey1:n=1→y=t) :
  Calls Tryz.prog 120 #[va,.slice (some bd) n cap] W (Aj (BT (Af ((x / y:Nat):Int)) (Af ((x % y:Nat):Int))) W):=by
 refine Dc (S:=[(0,(Av x)),(1,(Am (.slice (some bd) n cap)))]) Tryz.func120 (by kernel_rfl) Tryz.ntmps120 (by simp) (λx hx=>?_) λa w hst=>?_
 ·simp only [List.mem_cons,List.not_mem_nil,or_false] at hx
  rcases hx with rfl | rfl
  ·exact ⟨_,rfl,ha⟩
  ·exact ⟨_,rfl,rfl⟩
 show Code.wp _ Qv _ a w
 by_cases n1:n=1
 ·have ey:=ey1 n1
  have ct0:W.cell? (bd.add 0)=some (.int .u32 (t:Int)):=by rw [n1] at ct; exact ct
  rw [Zo];refine wp_seq ?_;rw [ZP];refine (yY sx sy hi hj hN ct hn hn2 ht0 ht n1 ct0).run hst ?_;clear hst;intro a w hst;show Code.wp _ Jw _ a w;rw [ZF];refine wp_seq ?_;rw [hZ];refine wp_seq ?_;rw [aG];refine (AaO sx sy hi hj hN ct hn hn2 ht0 ht n1 ct0).run hst ?_;clear hst;intro a w hst;show Code.wp _ Ju _ a w;rw [eP];refine wp_cond_true (AZ hst 2 rfl) ?_;show Code.wp _ MS _ a w;rw [Aau];refine wp_seq ?_;rw [yR];refine (Aba sx sy hi hj hN ct hn hn2 ht0 ht n1 ct0).run hst ?_;clear hst;intro a w hst;show Code.wp _ Iy _ a w;rw [mC];refine wp_seq ?_;rw [oN];refine (xK sx sy hi hj hN ct hn hn2 ht0 ht n1 ct0).run hst ?_;clear hst;intro a w hst;show Code.wp _ PW _ a w;rw [kK];refine wp_ret ?_;rw [← ey] at hst;exact Oe hst rfl 0 rfl 1 rfl
 ·clear ey1
  rw [Zo];refine wp_seq ?_;rw [ZP];refine (oQ sx sy hi hj hN ct hn hn2 ht0 ht n1).run hst ?_;clear hst;intro a w hst;show Code.wp _ Jw _ a w;rw [ZF];refine wp_seq ?_;rw [hZ];refine wp_seq ?_;rw [aG];refine (nF sx sy hi hj hN ct hn hn2 ht0 ht n1).run hst ?_;clear hst;intro a w hst;show Code.wp _ Ju _ a w;rw [eP];refine wp_cond_false (AZ hst 2 rfl) ?_;show Code.wp _ SK _ a w;rw [xM];refine wp_skip ?_;show Code.wp _ Mj _ a w;rw [wZ];refine wp_seq ?_;rw [kR];refine (yF sx sy hi hj hN ct hn hn2 ht0 ht n1).run hst ?_;clear hst;intro a w hst;show Code.wp _ I3 _ a w;rw [lQ];refine wp_seq ?_;rw [nW];refine wp_block ?_;show Code.wp _ K7 _ a w;rw [oO];refine CD (fun (s:Nat) a w=>St W 86 [(0,(Av x)),(1,(Am (.slice (some bd) n cap))),(8,(Am (.int .u32 (s:Int)))),(18,(Am (.bool false)))] [(4,AR),(5,AR)] a w∧0<s∧t*s<4294967296) (λs=>4294967296 - s) ?_ (1:Nat) ⟨hst,by omega,by omega⟩;intro s a w ⟨hst,hs0,hts⟩;have hs1:s<4294967296:=Nat.lt_of_le_of_lt (by rw [← Nat.one_mul s]; exact Nat.mul_le_mul_right s ht0 |> λh=>by simpa using h) hts;show Code.wp _ IH _ a w
  rcases Nat.lt_or_ge (t*s) 2147483648 with hlo | hhi
  ·rw [VF]
   refine wp_seq ?_;rw [U9];refine wp_seq ?_;rw [U4];refine (yE sx sy hi hj hN ct hn hn2 ht0 ht n1 hs0 hs1 hts hlo).run hst ?_;clear hst;intro a w hst;show Code.wp _ GU _ a w;rw [WV];refine wp_cond_true (AZ hst 4 rfl) ?_;show Code.wp _ Qc _ a w;rw [nX];refine wp_skip ?_;show Code.wp _ KM _ a w;rw [nE];refine wp_block ?_;show Code.wp _ KN _ a w;rw [mU];refine (zZ sx sy hi hj hN ct hn hn2 ht0 ht n1 hs0 hs1 hts hlo).run hst ?_;clear hst;intro a w hst;have h2:t*(2*s)=2*(t*s):=by rw [Nat.mul_left_comm]
   have h3:s≤t*s:=Nat.le_mul_of_pos_left s ht0;exact ⟨2*s,⟨(hst.to ⟨hst.slots.get (k:=0) rfl,hst.slots.get (k:=1) rfl,hst.slots.get (k:=2) rfl,hst.slots.get (k:=3) rfl,trivial⟩),by omega,by omega⟩,by show 4294967296 - 2*s<4294967296 - s; omega⟩
  ·rw [VF]
   refine wp_seq ?_;rw [U9];refine wp_seq ?_;rw [U4];refine (qE sx sy hi hj hN ct hn hn2 ht0 ht n1 hs0 hs1 hts hhi).run hst ?_;clear hst;intro a w hst;show Code.wp _ GU _ a w;rw [WV];refine wp_cond_false (AZ hst 4 rfl) ?_;show Code.wp _ OW _ a w;rw [mG];refine wp_exit ?_;clear hhi hts;show Code.wp _ Iz _ a w;rw [pN];refine wp_seq ?_;rw [oM];refine (vW sx sy hi hj hN ct hn hn2 ht0 ht n1 hs0 hs1).run hst ?_;clear hst;intro a w hst;show Code.wp _ IQ _ a w;rw [oC];refine wp_seq ?_;rw [pW];refine (AaT sx sy hi hj hN ct hn hn2 ht0 ht n1 hs0 hs1).run hst ?_;clear hst;intro a w hst;show Code.wp _ Ja _ a w;rw [kH];refine wp_seq ?_;rw [qF];refine wp_block ?_;show Code.wp _ K6 _ a w;rw [lG];obtain ⟨d,hd⟩:∃ d,d=y*s:=⟨_,rfl⟩;obtain ⟨r0,hr0⟩:∃ r,r=x*s:=⟨_,rfl⟩;have hd0:0<d:=by rw [hd]; exact Nat.mul_pos hy0 hs0
   have ed:((y:Nat):Int)*((s:Nat):Int)=((d:Nat):Int):=by rw [hd,Int.natCast_mul]
   have er:((x:Nat):Int)*((s:Nat):Int)=((r0:Nat):Int):=by rw [hr0,Int.natCast_mul]
   have sd:Sm ((d:Nat):Int) (j+2):=by rw [← ed]; exact sy.mul (Sm.of _ (by omega))
   have sr0:Sm ((r0:Nat):Int) (i+2):=by rw [← er]; exact sx.mul (Sm.of _ (by omega))
   rw [ed,er] at hst;refine CD (fun (p:Nat × Nat) a w=>St W 86 [(0,(Av x)),(1,(Am (.slice (some bd) n cap))),(8,(Am (.int .u32 (s:Int)))),(18,(Am (.bool false))),(42,(Am (.bool false)))] [(4,AR),(5,AR),(9,(Ak ((s:Nat):Int))),(10,(Ak ((p.2:Nat):Int))),(11,(Ak ((d:Nat):Int))),(12,(Ak ((p.1:Nat):Int)))] a w∧p.1*d+p.2=r0) (λp=>p.2) ?_ (0,r0) ⟨hst,by simp⟩
   rintro ⟨q,r⟩ a w ⟨hst,hqr⟩
   simp only [] at hst hqr;show Code.wp _ Iv _ a w;have hq1:q≤q*d:=Nat.le_mul_of_pos_right q hd0;have sr:Sm ((r:Nat):Int) (i+2):=EK sr0 (by omega);have sq:Sm ((q:Nat):Int) (i+2):=EK sr0 (by omega)
   rcases Nat.lt_or_ge r d with hdr | hdr
   ·rw [Ve]
    refine wp_seq ?_;rw [W6];refine wp_seq ?_;rw [Wr];refine (AaL sx sy hi hj hN ct hn hn2 ht0 ht n1 hs0 hs1 hd0 sd sr sq hdr).run hst ?_;clear hst;intro a w hst;show Code.wp _ GR _ a w;rw [WG];refine wp_cond_false (AZ hst 5 rfl) ?_;show Code.wp _ PM _ a w;rw [mR];refine wp_exit ?_;obtain ⟨f1,f2⟩:=Wq (x:=x) (y:=y) (q:=q) (r:=r) (H:=s) hs0 (by rw [← hd,← hr0,hqr]) (by rw [← hd]; exact hdr);show Code.wp _ I1 _ a w;rw [pR];refine wp_seq ?_;rw [oD];refine (kY sx sy hi hj hN ct hn hn2 ht0 ht n1 hs0 hs1 hd0 sd sr sq).run hst ?_;clear hst;intro a w hst;show Code.wp _ IN _ a w;rw [kF];refine wp_seq ?_;rw [kP];refine (nC sx sy hi hj hN ct hn hn2 ht0 ht n1 hs0 hs1 hd0 sd sr sq).run hst ?_;clear hst;intro a w hst;show Code.wp _ QD _ a w;rw [mI];refine wp_ret ?_;rw [f1,f2] at hst;exact Oe hst rfl 0 rfl 1 rfl
   ·have hE:=lI hd0 hdr
    have he1:Ca r d≤Ca r d*d:=Nat.le_mul_of_pos_right _ hd0;have se:Sm ((Ca r d:Nat):Int) (i+2):=EK sr0 (by omega);rw [Ve];refine wp_seq ?_;rw [W6];refine wp_seq ?_;rw [Wr];refine (oA sx sy hi hj hN ct hn hn2 ht0 ht n1 hs0 hs1 hd0 sd sr sq hdr se).run hst ?_;clear hst;intro a w hst;show Code.wp _ GR _ a w;rw [WG];refine wp_cond_true (AZ hst 5 rfl) ?_;show Code.wp _ Pn _ a w;rw [oX];refine wp_skip ?_;show Code.wp _ Kt _ a w;rw [mY];refine wp_block ?_;show Code.wp _ Jf _ a w;rw [kZ];refine wp_seq ?_;rw [kG];refine (kX sx sy hi hj hN ct hn hn2 ht0 ht n1 hs0 hs1 hd0 sd sr sq hdr se).run hst ?_;clear hst;intro a w hst;show Code.wp _ I4 _ a w;rw [nT];refine wp_seq ?_;rw [lF];refine (mW sx sy hi hj hN ct hn hn2 ht0 ht n1 hs0 hs1 hd0 sd sr sq hdr se).run hst ?_;clear hst;intro a w hst;show Code.wp _ KZ _ a w;rw [oI];refine (qA sx sy hi hj hN ct hn hn2 ht0 ht n1 hs0 hs1 hd0 sd sr sq hdr se).run hst ?_;clear hst;intro a w hst;have e1:((q:Nat):Int)+((Ca r d:Nat):Int)=((q+Ca r d:Nat):Int):=by rw [Int.natCast_add]
    have e2:((r:Nat):Int) - ((Ca r d:Nat):Int)*((d:Nat):Int)=((r - Ca r d*d:Nat):Int):=by rw [Int.natCast_sub hE.2,Int.natCast_mul]
    rw [e1,e2] at hst;have h3:0<Ca r d*d:=Nat.mul_pos hE.1 hd0;exact ⟨(q+Ca r d,r - Ca r d*d),⟨((hst.to (S':=[(0,(Av x)),(1,(Am (.slice (some bd) n cap))),(8,(Am (.int .u32 (s:Int)))),(18,(Am (.bool false))),(42,(Am (.bool false)))]) ⟨hst.slots.get (k:=0) rfl,hst.slots.get (k:=1) rfl,hst.slots.get (k:=2) rfl,hst.slots.get (k:=3) rfl,hst.slots.get (k:=4) rfl,trivial⟩).firstB 6),by show (q+Ca r d)*d+(r - Ca r d*d)=r0; rw [Nat.add_mul]; omega⟩,by show r - Ca r d*d<r; omega⟩
theorem C1{z:Int}{b:Bool}{va vb:Value}{w:World}(e:decide (z<0)=b)(ha:(Av z.natAbs).p va w)(hv:(Am (.bool b)).p vb w)(hn:len z.natAbs≤4398046511104):Calls Tryz.prog 89 #[va,vb] w (Aj (Af z) w):=by
 subst e;exact pC ha hv hn
theorem FC{x y i j:Nat}{va vb:Value}{w:World}(ha:(Av x).p va w)(hb:(Av y).p vb w)(sx:Sm ((x:Nat):Int) i)(sy:Sm ((y:Nat):Int) j)(hi:i≤400000000)(hj:j≤400000000)(hy0:0<y) :
  Calls Tryz.prog 120 #[va,vb] w (Aj (BT (Af ((x / y:Nat):Int)) (Af ((x % y:Nat):Int))) w):=by
 have hb:AB w vb y:=hb;obtain ⟨B,c,rfl,H⟩:=hb.open_;have hl:len y≠0:=λh=>by have:=AY.1 h; omega
 have hb2:len y≤j:=AM sy;obtain ⟨bd,rfl,_,hc⟩:=H.out.mem.2.2.at_ (show len y - 1<(Ac y).length by rw [Aa]; omega);have gq:=At (show len y - 1<(Ac y).length by rw [Aa]; omega);have ht:=(As y).get (show len y - 1<(Ac y).length by rw [Aa]; omega);have ht0:=Eg hy0;generalize (Ac y)[len y - 1]'(by rw [Aa]; omega)=t at *;refine R4 va x y i j (len y) c t bd w ha sx sy hi hj H.out hc (by omega) (by omega) (by omega) ht hy0 λh=>?_
 rw [h] at gq;obtain ⟨lo,e,hlo⟩:=Jt (y:=y) (n:=0) h gq;omega
theorem Ad2{x y:Int}{i j:Nat}(va:Value)(vb:Value)(W:World)(hva:(Af x).p va W)(hvb:(Af y).p vb W)(sx:Sm x i)(sy:Sm y j)(hi:i≤400000000)(hj:j≤400000000)(ny:y≠0)(_nx:x<0)(hr:0<((x.natAbs % y.natAbs:Nat):Int))(_hs:0<y):Calls Tryz.prog 112 #[va,vb] W (Aj (Dx (Af (-(((x.natAbs / y.natAbs:Nat):Int)+1))) (Af (y - ((x.natAbs % y.natAbs:Nat):Int))) (Am (.int .i64 0))) W):=by
  let E:List PF:=[(Af x),(Af y),(Av x.natAbs),(Av y.natAbs),(Am (.int .i64 (Int.sign y))),(Af ((x.natAbs / y.natAbs:Nat):Int)),(Af ((x.natAbs % y.natAbs:Nat):Int)),(Am (.int .i64 (Int.sign ((x.natAbs % y.natAbs:Nat):Int)))),(Af 1),(Af (((x.natAbs / y.natAbs:Nat):Int)+1)),(Af (y - ((x.natAbs % y.natAbs:Nat):Int))),(Af (-(((x.natAbs / y.natAbs:Nat):Int)+1)))]
  let EB:List CF:=[(Ak x),(Ak y),AR,(Ak ((x.natAbs / y.natAbs:Nat):Int)),(Ak ((x.natAbs % y.natAbs:Nat):Int)),(Ak (((x.natAbs / y.natAbs:Nat):Int)+1)),(Ak (y - ((x.natAbs % y.natAbs:Nat):Int))),(Ak (-(((x.natAbs / y.natAbs:Nat):Int)+1)))]
  exact Az (E:=E) (EB:=EB) (fs:=[(.ref 0),(.ref 1)]) (r:=(.tup3 (.ref 11) (.ref 10) (.int .i64 0)))
   { pures:=[p2 (.bin .eql 3 3) (.ref 4) (.int .i64 0) (.bool false) λ_ _ _ _ _ hx hy=>Cp (r:=false) (by simp [Int.sign_eq_zero_iff_zero,ny]) hx hy,
      p2 (.bin .gtr 3 3) (.ref 7) (.int .i64 0) (.bool true) λ_ _ _ _ _ hx hy=>ES (r:=true) (by rw [Int.sign_eq_one_of_pos hr]; decide) hx hy],
     calls:=[c2 89 (.ref 2) (.bool true) (.ref 0) λw v0 v1 hb h0 h1=>C1 (z:=x) (by simp; omega) h0 h1 (Nat.le_trans (AM sx) (by omega)),
      c2 89 (.ref 3) (.bool false) (.ref 1) λw v0 v1 hb h0 h1=>C1 (z:=y) (by simp; omega) h0 h1 (Nat.le_trans (AM sy) (by omega)),
      c1 63 (.ref 1) (.ref 4) λw v0 hb h0=>CR h0 sy (by first | decide | assumption | omega),
      c2 120 (.ref 2) (.ref 3) (.tup2 (.ref 5) (.ref 6)) λw v0 v1 hb h0 h1=>FC h0 h1 sx.abs sy.abs hi hj (by omega),
      c1 63 (.ref 6) (.ref 7) λw v0 hb h0=>CR h0 (EK sx.abs (Nat.mod_le _ _)) (by first | decide | assumption | omega),
      c1 58 (.int .i64 1) (.ref 8) λw v0 hb h0=>XI 1 (by omega) (by omega) h0,
      c2 81 (.ref 5) (.ref 8) (.ref 9) λw v0 v1 hb h0 h1=>Vb h0 h1 (EK sx.abs (Nat.div_le_self _ _)) (Sm.of 1 (by decide)) (by first | decide | assumption | omega) (by first | decide | assumption | omega),
      c2 121 (.ref 1) (.ref 6) (.ref 10) λw v0 v1 hb h0 h1=>iR h0 h1 sy (EK sx.abs (Nat.mod_le _ _)) (by first | decide | assumption | omega) (by first | decide | assumption | omega),
      c1 60 (.ref 9) (.ref 11) λw v0 hb h0=>NL h0 ((EK sx.abs (Nat.div_le_self _ _)).add (Sm.of 1 (by decide))) (by first | decide | assumption | omega)],
     loads:=[⟨32,1,0,(.ref 2),λw q h=>Bk w q h⟩,
      ⟨4,0,0,(.bool true),λw q h=>BS (by simp; omega) w q h⟩,
      ⟨32,1,1,(.ref 3),λw q h=>Bk w q h⟩,
      ⟨4,0,1,(.bool false),λw q h=>BS (by simp; omega) w q h⟩,
      ⟨34,0,1,(.ref 1),λw q h=>Ah w q h⟩,
      ⟨34,0,4,(.ref 6),λw q h=>Ah w q h⟩,
      ⟨34,0,3,(.ref 5),λw q h=>Ah w q h⟩,
      ⟨34,0,5,(.ref 9),λw q h=>Ah w q h⟩,
      ⟨34,0,7,(.ref 11),λw q h=>Ah w q h⟩,
      ⟨34,0,6,(.ref 10),λw q h=>Ah w q h⟩],
     allocs:=[⟨34,2,_,AO,AP⟩],
     boxes:=[⟨34,(.ref 0),0,λw v h=>AT w v h⟩,
      ⟨34,(.ref 1),1,λw v h=>AT w v h⟩],
     stores:=[⟨34,0,0,(.ref 0),0,(AK _ _)⟩,
      ⟨34,0,1,(.ref 1),1,(AK _ _)⟩,
      ⟨34,0,2,(.ref 5),3,(Ag _)⟩,
      ⟨34,0,2,(.ref 6),4,(Ag _)⟩,
      ⟨34,0,3,(.ref 9),5,(AK _ _)⟩,
      ⟨34,0,4,(.ref 10),6,(AK _ _)⟩,
      ⟨34,0,5,(.ref 11),7,(AK _ _)⟩,
      ⟨34,0,2,(.ref 11),7,(Ag _)⟩,
      ⟨34,0,2,(.ref 10),6,(Ag _)⟩],
     flds:=[⟨34,1,1,Gm⟩,
      ⟨34,0,0,Nw⟩] }
   Tryz.func112 ⟨hva,hvb,trivial⟩ (by kernel_rfl)
theorem AcA{x y:Int}{i j:Nat}(va:Value)(vb:Value)(W:World)(hva:(Af x).p va W)(hvb:(Af y).p vb W)(sx:Sm x i)(sy:Sm y j)(hi:i≤400000000)(hj:j≤400000000)(ny:y≠0)(_nx:x<0)(hr:0<((x.natAbs % y.natAbs:Nat):Int))(_hs:y<0):Calls Tryz.prog 112 #[va,vb] W (Aj (Dx (Af (((x.natAbs / y.natAbs:Nat):Int)+1)) (Af (((y.natAbs:Nat):Int) - ((x.natAbs % y.natAbs:Nat):Int))) (Am (.int .i64 0))) W):=by
  let E:List PF:=[(Af x),(Af y),(Av x.natAbs),(Av y.natAbs),(Am (.int .i64 (Int.sign y))),(Af ((x.natAbs / y.natAbs:Nat):Int)),(Af ((x.natAbs % y.natAbs:Nat):Int)),(Am (.int .i64 (Int.sign ((x.natAbs % y.natAbs:Nat):Int)))),(Af 1),(Af (((x.natAbs / y.natAbs:Nat):Int)+1)),(Af ((y.natAbs:Nat):Int)),(Af (((y.natAbs:Nat):Int) - ((x.natAbs % y.natAbs:Nat):Int)))]
  let EB:List CF:=[(Ak x),(Ak y),AR,(Ak ((x.natAbs / y.natAbs:Nat):Int)),(Ak ((x.natAbs % y.natAbs:Nat):Int)),(Ak (((x.natAbs / y.natAbs:Nat):Int)+1)),(Ak (((y.natAbs:Nat):Int) - ((x.natAbs % y.natAbs:Nat):Int)))]
  exact Az (E:=E) (EB:=EB) (fs:=[(.ref 0),(.ref 1)]) (r:=(.tup3 (.ref 9) (.ref 11) (.int .i64 0)))
   { pures:=[p2 (.bin .eql 3 3) (.ref 4) (.int .i64 0) (.bool false) λ_ _ _ _ _ hx hy=>Cp (r:=false) (by simp [Int.sign_eq_zero_iff_zero,ny]) hx hy,
      p2 (.bin .gtr 3 3) (.ref 7) (.int .i64 0) (.bool true) λ_ _ _ _ _ hx hy=>ES (r:=true) (by rw [Int.sign_eq_one_of_pos hr]; decide) hx hy],
     calls:=[c2 89 (.ref 2) (.bool true) (.ref 0) λw v0 v1 hb h0 h1=>C1 (z:=x) (by simp; omega) h0 h1 (Nat.le_trans (AM sx) (by omega)),
      c2 89 (.ref 3) (.bool true) (.ref 1) λw v0 v1 hb h0 h1=>C1 (z:=y) (by simp; omega) h0 h1 (Nat.le_trans (AM sy) (by omega)),
      c1 63 (.ref 1) (.ref 4) λw v0 hb h0=>CR h0 sy (by first | decide | assumption | omega),
      c2 120 (.ref 2) (.ref 3) (.tup2 (.ref 5) (.ref 6)) λw v0 v1 hb h0 h1=>FC h0 h1 sx.abs sy.abs hi hj (by omega),
      c1 63 (.ref 6) (.ref 7) λw v0 hb h0=>CR h0 (EK sx.abs (Nat.mod_le _ _)) (by first | decide | assumption | omega),
      c1 58 (.int .i64 1) (.ref 8) λw v0 hb h0=>XI 1 (by omega) (by omega) h0,
      c2 81 (.ref 5) (.ref 8) (.ref 9) λw v0 v1 hb h0 h1=>Vb h0 h1 (EK sx.abs (Nat.div_le_self _ _)) (Sm.of 1 (by decide)) (by first | decide | assumption | omega) (by first | decide | assumption | omega),
      c2 89 (.ref 3) (.bool false) (.ref 10) λw v0 v1 hb h0 h1=>K5 h0 h1 (Nat.le_trans (AM sy) (by omega)),
      c2 121 (.ref 10) (.ref 6) (.ref 11) λw v0 v1 hb h0 h1=>iR h0 h1 sy.abs (EK sx.abs (Nat.mod_le _ _)) (by first | decide | assumption | omega) (by first | decide | assumption | omega)],
     loads:=[⟨32,1,0,(.ref 2),λw q h=>Bk w q h⟩,
      ⟨4,0,0,(.bool true),λw q h=>BS (by simp; omega) w q h⟩,
      ⟨32,1,1,(.ref 3),λw q h=>Bk w q h⟩,
      ⟨4,0,1,(.bool true),λw q h=>BS (by simp; omega) w q h⟩,
      ⟨34,0,1,(.ref 1),λw q h=>Ah w q h⟩,
      ⟨34,0,4,(.ref 6),λw q h=>Ah w q h⟩,
      ⟨34,0,3,(.ref 5),λw q h=>Ah w q h⟩,
      ⟨34,0,5,(.ref 9),λw q h=>Ah w q h⟩,
      ⟨34,0,6,(.ref 11),λw q h=>Ah w q h⟩],
     allocs:=[⟨34,2,_,AO,AP⟩],
     boxes:=[⟨34,(.ref 0),0,λw v h=>AT w v h⟩,
      ⟨34,(.ref 1),1,λw v h=>AT w v h⟩],
     stores:=[⟨34,0,0,(.ref 0),0,(AK _ _)⟩,
      ⟨34,0,1,(.ref 1),1,(AK _ _)⟩,
      ⟨34,0,2,(.ref 5),3,(Ag _)⟩,
      ⟨34,0,2,(.ref 6),4,(Ag _)⟩,
      ⟨34,0,3,(.ref 9),5,(AK _ _)⟩,
      ⟨34,0,4,(.ref 11),6,(AK _ _)⟩,
      ⟨34,0,2,(.ref 9),5,(Ag _)⟩,
      ⟨34,0,2,(.ref 11),6,(Ag _)⟩],
     flds:=[⟨34,1,1,Gm⟩,
      ⟨34,0,0,Nw⟩] }
   Tryz.func112 ⟨hva,hvb,trivial⟩ (by kernel_rfl)
theorem AcP{x y:Int}{i j:Nat}(va:Value)(vb:Value)(W:World)(hva:(Af x).p va W)(hvb:(Af y).p vb W)(sx:Sm x i)(sy:Sm y j)(hi:i≤400000000)(hj:j≤400000000)(ny:y≠0)(_nx:x<0)(hr:((x.natAbs % y.natAbs:Nat):Int)=0)(_hs:0<y):Calls Tryz.prog 112 #[va,vb] W (Aj (Dx (Af (-((x.natAbs / y.natAbs:Nat):Int))) (Af ((x.natAbs % y.natAbs:Nat):Int)) (Am (.int .i64 0))) W):=by
  let E:List PF:=[(Af x),(Af y),(Av x.natAbs),(Av y.natAbs),(Am (.int .i64 (Int.sign y))),(Af ((x.natAbs / y.natAbs:Nat):Int)),(Af ((x.natAbs % y.natAbs:Nat):Int)),(Am (.int .i64 (Int.sign ((x.natAbs % y.natAbs:Nat):Int)))),(Af (-((x.natAbs / y.natAbs:Nat):Int)))]
  let EB:List CF:=[(Ak x),(Ak y),AR,(Ak ((x.natAbs / y.natAbs:Nat):Int)),(Ak ((x.natAbs % y.natAbs:Nat):Int)),(Ak (-((x.natAbs / y.natAbs:Nat):Int)))]
  exact Az (E:=E) (EB:=EB) (fs:=[(.ref 0),(.ref 1)]) (r:=(.tup3 (.ref 8) (.ref 6) (.int .i64 0)))
   { pures:=[p2 (.bin .eql 3 3) (.ref 4) (.int .i64 0) (.bool false) λ_ _ _ _ _ hx hy=>Cp (r:=false) (by simp [Int.sign_eq_zero_iff_zero,ny]) hx hy,
      p2 (.bin .gtr 3 3) (.ref 7) (.int .i64 0) (.bool false) λ_ _ _ _ _ hx hy=>ES (r:=false) (by rw [hr]; decide) hx hy],
     calls:=[c2 89 (.ref 2) (.bool true) (.ref 0) λw v0 v1 hb h0 h1=>C1 (z:=x) (by simp; omega) h0 h1 (Nat.le_trans (AM sx) (by omega)),
      c2 89 (.ref 3) (.bool false) (.ref 1) λw v0 v1 hb h0 h1=>C1 (z:=y) (by simp; omega) h0 h1 (Nat.le_trans (AM sy) (by omega)),
      c1 63 (.ref 1) (.ref 4) λw v0 hb h0=>CR h0 sy (by first | decide | assumption | omega),
      c2 120 (.ref 2) (.ref 3) (.tup2 (.ref 5) (.ref 6)) λw v0 v1 hb h0 h1=>FC h0 h1 sx.abs sy.abs hi hj (by omega),
      c1 63 (.ref 6) (.ref 7) λw v0 hb h0=>CR h0 (EK sx.abs (Nat.mod_le _ _)) (by first | decide | assumption | omega),
      c1 60 (.ref 5) (.ref 8) λw v0 hb h0=>NL h0 (EK sx.abs (Nat.div_le_self _ _)) (by first | decide | assumption | omega)],
     loads:=[⟨32,1,0,(.ref 2),λw q h=>Bk w q h⟩,
      ⟨4,0,0,(.bool true),λw q h=>BS (by simp; omega) w q h⟩,
      ⟨32,1,1,(.ref 3),λw q h=>Bk w q h⟩,
      ⟨4,0,1,(.bool false),λw q h=>BS (by simp; omega) w q h⟩,
      ⟨34,0,1,(.ref 1),λw q h=>Ah w q h⟩,
      ⟨34,0,4,(.ref 6),λw q h=>Ah w q h⟩,
      ⟨34,0,3,(.ref 5),λw q h=>Ah w q h⟩,
      ⟨34,0,5,(.ref 8),λw q h=>Ah w q h⟩],
     allocs:=[⟨34,2,_,AO,AP⟩],
     boxes:=[⟨34,(.ref 0),0,λw v h=>AT w v h⟩,
      ⟨34,(.ref 1),1,λw v h=>AT w v h⟩],
     stores:=[⟨34,0,0,(.ref 0),0,(AK _ _)⟩,
      ⟨34,0,1,(.ref 1),1,(AK _ _)⟩,
      ⟨34,0,2,(.ref 5),3,(Ag _)⟩,
      ⟨34,0,2,(.ref 6),4,(Ag _)⟩,
      ⟨34,0,3,(.ref 8),5,(AK _ _)⟩,
      ⟨34,0,2,(.ref 8),5,(Ag _)⟩],
     flds:=[⟨34,1,1,Gm⟩,
      ⟨34,0,0,Nw⟩] }
   Tryz.func112 ⟨hva,hvb,trivial⟩ (by kernel_rfl)
theorem Adc{x y:Int}{i j:Nat}(va:Value)(vb:Value)(W:World)(hva:(Af x).p va W)(hvb:(Af y).p vb W)(sx:Sm x i)(sy:Sm y j)(hi:i≤400000000)(hj:j≤400000000)(ny:y≠0)(_nx:x<0)(hr:((x.natAbs % y.natAbs:Nat):Int)=0)(_hs:y<0):Calls Tryz.prog 112 #[va,vb] W (Aj (Dx (Af ((x.natAbs / y.natAbs:Nat):Int)) (Af ((x.natAbs % y.natAbs:Nat):Int)) (Am (.int .i64 0))) W):=by
  let E:List PF:=[(Af x),(Af y),(Av x.natAbs),(Av y.natAbs),(Am (.int .i64 (Int.sign y))),(Af ((x.natAbs / y.natAbs:Nat):Int)),(Af ((x.natAbs % y.natAbs:Nat):Int)),(Am (.int .i64 (Int.sign ((x.natAbs % y.natAbs:Nat):Int))))]
  let EB:List CF:=[(Ak x),(Ak y),AR,(Ak ((x.natAbs / y.natAbs:Nat):Int)),(Ak ((x.natAbs % y.natAbs:Nat):Int))]
  exact Az (E:=E) (EB:=EB) (fs:=[(.ref 0),(.ref 1)]) (r:=(.tup3 (.ref 5) (.ref 6) (.int .i64 0)))
   { pures:=[p2 (.bin .eql 3 3) (.ref 4) (.int .i64 0) (.bool false) λ_ _ _ _ _ hx hy=>Cp (r:=false) (by simp [Int.sign_eq_zero_iff_zero,ny]) hx hy,
      p2 (.bin .gtr 3 3) (.ref 7) (.int .i64 0) (.bool false) λ_ _ _ _ _ hx hy=>ES (r:=false) (by rw [hr]; decide) hx hy],
     calls:=[c2 89 (.ref 2) (.bool true) (.ref 0) λw v0 v1 hb h0 h1=>C1 (z:=x) (by simp; omega) h0 h1 (Nat.le_trans (AM sx) (by omega)),
      c2 89 (.ref 3) (.bool true) (.ref 1) λw v0 v1 hb h0 h1=>C1 (z:=y) (by simp; omega) h0 h1 (Nat.le_trans (AM sy) (by omega)),
      c1 63 (.ref 1) (.ref 4) λw v0 hb h0=>CR h0 sy (by first | decide | assumption | omega),
      c2 120 (.ref 2) (.ref 3) (.tup2 (.ref 5) (.ref 6)) λw v0 v1 hb h0 h1=>FC h0 h1 sx.abs sy.abs hi hj (by omega),
      c1 63 (.ref 6) (.ref 7) λw v0 hb h0=>CR h0 (EK sx.abs (Nat.mod_le _ _)) (by first | decide | assumption | omega)],
     loads:=[⟨32,1,0,(.ref 2),λw q h=>Bk w q h⟩,
      ⟨4,0,0,(.bool true),λw q h=>BS (by simp; omega) w q h⟩,
      ⟨32,1,1,(.ref 3),λw q h=>Bk w q h⟩,
      ⟨4,0,1,(.bool true),λw q h=>BS (by simp; omega) w q h⟩,
      ⟨34,0,1,(.ref 1),λw q h=>Ah w q h⟩,
      ⟨34,0,4,(.ref 6),λw q h=>Ah w q h⟩,
      ⟨34,0,3,(.ref 5),λw q h=>Ah w q h⟩],
     allocs:=[⟨34,2,_,AO,AP⟩],
     boxes:=[⟨34,(.ref 0),0,λw v h=>AT w v h⟩,
      ⟨34,(.ref 1),1,λw v h=>AT w v h⟩],
     stores:=[⟨34,0,0,(.ref 0),0,(AK _ _)⟩,
      ⟨34,0,1,(.ref 1),1,(AK _ _)⟩,
      ⟨34,0,2,(.ref 5),3,(Ag _)⟩,
      ⟨34,0,2,(.ref 6),4,(Ag _)⟩],
     flds:=[⟨34,1,1,Gm⟩,
      ⟨34,0,0,Nw⟩] }
   Tryz.func112 ⟨hva,hvb,trivial⟩ (by kernel_rfl)
theorem AbT{x y:Int}{i j:Nat}(va:Value)(vb:Value)(W:World)(hva:(Af x).p va W)(hvb:(Af y).p vb W)(sx:Sm x i)(sy:Sm y j)(hi:i≤400000000)(hj:j≤400000000)(ny:y≠0)(_nx:0≤x)(_hs:0<y):Calls Tryz.prog 112 #[va,vb] W (Aj (Dx (Af ((x.natAbs / y.natAbs:Nat):Int)) (Af ((x.natAbs % y.natAbs:Nat):Int)) (Am (.int .i64 0))) W):=by
  let E:List PF:=[(Af x),(Af y),(Av x.natAbs),(Av y.natAbs),(Am (.int .i64 (Int.sign y))),(Af ((x.natAbs / y.natAbs:Nat):Int)),(Af ((x.natAbs % y.natAbs:Nat):Int))]
  let EB:List CF:=[(Ak x),(Ak y),AR,(Ak ((x.natAbs / y.natAbs:Nat):Int)),(Ak ((x.natAbs % y.natAbs:Nat):Int))]
  exact Az (E:=E) (EB:=EB) (fs:=[(.ref 0),(.ref 1)]) (r:=(.tup3 (.ref 5) (.ref 6) (.int .i64 0)))
   { pures:=[p2 (.bin .eql 3 3) (.ref 4) (.int .i64 0) (.bool false) λ_ _ _ _ _ hx hy=>Cp (r:=false) (by simp [Int.sign_eq_zero_iff_zero,ny]) hx hy],
     calls:=[c2 89 (.ref 2) (.bool false) (.ref 0) λw v0 v1 hb h0 h1=>C1 (z:=x) (by simp; omega) h0 h1 (Nat.le_trans (AM sx) (by omega)),
      c2 89 (.ref 3) (.bool false) (.ref 1) λw v0 v1 hb h0 h1=>C1 (z:=y) (by simp; omega) h0 h1 (Nat.le_trans (AM sy) (by omega)),
      c1 63 (.ref 1) (.ref 4) λw v0 hb h0=>CR h0 sy (by first | decide | assumption | omega),
      c2 120 (.ref 2) (.ref 3) (.tup2 (.ref 5) (.ref 6)) λw v0 v1 hb h0 h1=>FC h0 h1 sx.abs sy.abs hi hj (by omega)],
     loads:=[⟨32,1,0,(.ref 2),λw q h=>Bk w q h⟩,
      ⟨4,0,0,(.bool false),λw q h=>BS (by simp; omega) w q h⟩,
      ⟨32,1,1,(.ref 3),λw q h=>Bk w q h⟩,
      ⟨4,0,1,(.bool false),λw q h=>BS (by simp; omega) w q h⟩,
      ⟨34,0,1,(.ref 1),λw q h=>Ah w q h⟩,
      ⟨34,0,3,(.ref 5),λw q h=>Ah w q h⟩,
      ⟨34,0,4,(.ref 6),λw q h=>Ah w q h⟩],
     allocs:=[⟨34,2,_,AO,AP⟩],
     boxes:=[⟨34,(.ref 0),0,λw v h=>AT w v h⟩,
      ⟨34,(.ref 1),1,λw v h=>AT w v h⟩],
     stores:=[⟨34,0,0,(.ref 0),0,(AK _ _)⟩,
      ⟨34,0,1,(.ref 1),1,(AK _ _)⟩,
      ⟨34,0,2,(.ref 5),3,(Ag _)⟩,
      ⟨34,0,2,(.ref 6),4,(Ag _)⟩],
     flds:=[⟨34,1,1,Gm⟩,
      ⟨34,0,0,Nw⟩] }
   Tryz.func112 ⟨hva,hvb,trivial⟩ (by kernel_rfl)
theorem Adb{x y:Int}{i j:Nat}(va:Value)(vb:Value)(W:World)(hva:(Af x).p va W)(hvb:(Af y).p vb W)(sx:Sm x i)(sy:Sm y j)(hi:i≤400000000)(hj:j≤400000000)(ny:y≠0)(_nx:0≤x)(_hs:y<0):Calls Tryz.prog 112 #[va,vb] W (Aj (Dx (Af (-((x.natAbs / y.natAbs:Nat):Int))) (Af ((x.natAbs % y.natAbs:Nat):Int)) (Am (.int .i64 0))) W):=by
  let E:List PF:=[(Af x),(Af y),(Av x.natAbs),(Av y.natAbs),(Am (.int .i64 (Int.sign y))),(Af ((x.natAbs / y.natAbs:Nat):Int)),(Af ((x.natAbs % y.natAbs:Nat):Int)),(Af (-((x.natAbs / y.natAbs:Nat):Int)))]
  let EB:List CF:=[(Ak x),(Ak y),AR,(Ak ((x.natAbs / y.natAbs:Nat):Int)),(Ak ((x.natAbs % y.natAbs:Nat):Int)),(Ak (-((x.natAbs / y.natAbs:Nat):Int)))]
  exact Az (E:=E) (EB:=EB) (fs:=[(.ref 0),(.ref 1)]) (r:=(.tup3 (.ref 7) (.ref 6) (.int .i64 0)))
   { pures:=[p2 (.bin .eql 3 3) (.ref 4) (.int .i64 0) (.bool false) λ_ _ _ _ _ hx hy=>Cp (r:=false) (by simp [Int.sign_eq_zero_iff_zero,ny]) hx hy],
     calls:=[c2 89 (.ref 2) (.bool false) (.ref 0) λw v0 v1 hb h0 h1=>C1 (z:=x) (by simp; omega) h0 h1 (Nat.le_trans (AM sx) (by omega)),
      c2 89 (.ref 3) (.bool true) (.ref 1) λw v0 v1 hb h0 h1=>C1 (z:=y) (by simp; omega) h0 h1 (Nat.le_trans (AM sy) (by omega)),
      c1 63 (.ref 1) (.ref 4) λw v0 hb h0=>CR h0 sy (by first | decide | assumption | omega),
      c2 120 (.ref 2) (.ref 3) (.tup2 (.ref 5) (.ref 6)) λw v0 v1 hb h0 h1=>FC h0 h1 sx.abs sy.abs hi hj (by omega),
      c1 60 (.ref 5) (.ref 7) λw v0 hb h0=>NL h0 (EK sx.abs (Nat.div_le_self _ _)) (by first | decide | assumption | omega)],
     loads:=[⟨32,1,0,(.ref 2),λw q h=>Bk w q h⟩,
      ⟨4,0,0,(.bool false),λw q h=>BS (by simp; omega) w q h⟩,
      ⟨32,1,1,(.ref 3),λw q h=>Bk w q h⟩,
      ⟨4,0,1,(.bool true),λw q h=>BS (by simp; omega) w q h⟩,
      ⟨34,0,1,(.ref 1),λw q h=>Ah w q h⟩,
      ⟨34,0,3,(.ref 5),λw q h=>Ah w q h⟩,
      ⟨34,0,5,(.ref 7),λw q h=>Ah w q h⟩,
      ⟨34,0,4,(.ref 6),λw q h=>Ah w q h⟩],
     allocs:=[⟨34,2,_,AO,AP⟩],
     boxes:=[⟨34,(.ref 0),0,λw v h=>AT w v h⟩,
      ⟨34,(.ref 1),1,λw v h=>AT w v h⟩],
     stores:=[⟨34,0,0,(.ref 0),0,(AK _ _)⟩,
      ⟨34,0,1,(.ref 1),1,(AK _ _)⟩,
      ⟨34,0,2,(.ref 5),3,(Ag _)⟩,
      ⟨34,0,2,(.ref 6),4,(Ag _)⟩,
      ⟨34,0,3,(.ref 7),5,(AK _ _)⟩,
      ⟨34,0,2,(.ref 7),5,(Ag _)⟩],
     flds:=[⟨34,1,1,Gm⟩,
      ⟨34,0,0,Nw⟩] }
   Tryz.func112 ⟨hva,hvb,trivial⟩ (by kernel_rfl)
theorem QP(va vb:Value)(x y:Int)(i j:Nat)(W:World)(ha:Al W va x)(hb:Al W vb y)(sx:Sm x i)(sy:Sm y j)(hi:i≤400000000)(hj:j≤400000000)(ny:y≠0):Calls Tryz.prog 112 #[va,vb] W (Aj (Dx (Af (x / y)) (Af (x % y)) (Am (.int .i64 0))) W):=by
 rcases Int.lt_or_le x 0 with nx | nx
 ·rcases (show (0:Int)<((x.natAbs % y.natAbs:Nat):Int) ∨ ((x.natAbs % y.natAbs:Nat):Int)=0 by omega) with hr | hr
  ·rcases (show 0<y ∨ y<0 by omega) with hs | hs
   ·have ax:(x.natAbs:Int)=(-x):=by omega
    have ay:(y.natAbs:Int)=y:=by omega
    obtain ⟨e1,e2⟩:(-(((x.natAbs / y.natAbs:Nat):Int)+1))=x / y∧(y - ((x.natAbs % y.natAbs:Nat):Int))=x % y:=by
     obtain ⟨Q,R,eQ,eR,k1,k2,k3⟩:=Jl x y ny;rw [eQ,eR];rw [eR] at hr;rw [ax,ay] at k1;rw [ay] at k3;refine Oh hs ?_ (by omega) (by omega);have m1:(-y)*Q = -(y*Q):=Int.neg_mul y Q;have m2:y*(-Q) = -(y*Q):=Int.mul_neg y Q;have m3:y*(Q+1)=y*Q+y:=by rw [Int.mul_add,Int.mul_one]
     have m4:y*(-(Q+1)) = -(y*Q) - y:=by rw [Int.mul_neg,m3]; omega
     omega
    have:=Ad2 va vb W ha hb sx sy hi hj ny nx hr hs;rw [e1,e2] at this;exact this
   ·have ax:(x.natAbs:Int)=(-x):=by omega
    have ay:(y.natAbs:Int)=(-y):=by omega
    obtain ⟨e1,e2⟩:(((x.natAbs / y.natAbs:Nat):Int)+1)=x / y∧(((y.natAbs:Nat):Int) - ((x.natAbs % y.natAbs:Nat):Int))=x % y:=by
     obtain ⟨Q,R,eQ,eR,k1,k2,k3⟩:=Jl x y ny;rw [eQ,eR];rw [eR] at hr;rw [ax,ay] at k1;rw [ay] at k3;rw [ay];refine Tt hs ?_ (by omega) (by omega);have m1:(-y)*Q = -(y*Q):=Int.neg_mul y Q;have m2:y*(-Q) = -(y*Q):=Int.mul_neg y Q;have m3:y*(Q+1)=y*Q+y:=by rw [Int.mul_add,Int.mul_one]
     have m4:y*(-(Q+1)) = -(y*Q) - y:=by rw [Int.mul_neg,m3]; omega
     omega
    have:=AcA va vb W ha hb sx sy hi hj ny nx hr hs;rw [e1,e2] at this;exact this
  ·rcases (show 0<y ∨ y<0 by omega) with hs | hs
   ·have ax:(x.natAbs:Int)=(-x):=by omega
    have ay:(y.natAbs:Int)=y:=by omega
    obtain ⟨e1,e2⟩:(-((x.natAbs / y.natAbs:Nat):Int))=x / y∧((x.natAbs % y.natAbs:Nat):Int)=x % y:=by
     obtain ⟨Q,R,eQ,eR,k1,k2,k3⟩:=Jl x y ny;rw [eQ,eR];rw [eR] at hr;rw [ax,ay] at k1;rw [ay] at k3;refine Oh hs ?_ (by omega) (by omega);have m1:(-y)*Q = -(y*Q):=Int.neg_mul y Q;have m2:y*(-Q) = -(y*Q):=Int.mul_neg y Q;have m3:y*(Q+1)=y*Q+y:=by rw [Int.mul_add,Int.mul_one]
     have m4:y*(-(Q+1)) = -(y*Q) - y:=by rw [Int.mul_neg,m3]; omega
     omega
    have:=AcP va vb W ha hb sx sy hi hj ny nx hr hs;rw [e1,e2] at this;exact this
   ·have ax:(x.natAbs:Int)=(-x):=by omega
    have ay:(y.natAbs:Int)=(-y):=by omega
    obtain ⟨e1,e2⟩:((x.natAbs / y.natAbs:Nat):Int)=x / y∧((x.natAbs % y.natAbs:Nat):Int)=x % y:=by
     obtain ⟨Q,R,eQ,eR,k1,k2,k3⟩:=Jl x y ny;rw [eQ,eR];rw [eR] at hr;rw [ax,ay] at k1;rw [ay] at k3;refine Tt hs ?_ (by omega) (by omega);have m1:(-y)*Q = -(y*Q):=Int.neg_mul y Q;have m2:y*(-Q) = -(y*Q):=Int.mul_neg y Q;have m3:y*(Q+1)=y*Q+y:=by rw [Int.mul_add,Int.mul_one]
     have m4:y*(-(Q+1)) = -(y*Q) - y:=by rw [Int.mul_neg,m3]; omega
     omega
    have:=Adc va vb W ha hb sx sy hi hj ny nx hr hs;rw [e1,e2] at this;exact this
 ·rcases (show 0<y ∨ y<0 by omega) with hs | hs
  ·have ax:(x.natAbs:Int)=x:=by omega
   have ay:(y.natAbs:Int)=y:=by omega
   obtain ⟨e1,e2⟩:((x.natAbs / y.natAbs:Nat):Int)=x / y∧((x.natAbs % y.natAbs:Nat):Int)=x % y:=by
    obtain ⟨Q,R,eQ,eR,k1,k2,k3⟩:=Jl x y ny;rw [eQ,eR];rw [ax,ay] at k1;rw [ay] at k3;refine Oh hs ?_ (by omega) (by omega);have m1:(-y)*Q = -(y*Q):=Int.neg_mul y Q;have m2:y*(-Q) = -(y*Q):=Int.mul_neg y Q;have m3:y*(Q+1)=y*Q+y:=by rw [Int.mul_add,Int.mul_one]
    have m4:y*(-(Q+1)) = -(y*Q) - y:=by rw [Int.mul_neg,m3]; omega
    omega
   have:=AbT va vb W ha hb sx sy hi hj ny nx hs;rw [e1,e2] at this;exact this
  ·have ax:(x.natAbs:Int)=x:=by omega
   have ay:(y.natAbs:Int)=(-y):=by omega
   obtain ⟨e1,e2⟩:(-((x.natAbs / y.natAbs:Nat):Int))=x / y∧((x.natAbs % y.natAbs:Nat):Int)=x % y:=by
    obtain ⟨Q,R,eQ,eR,k1,k2,k3⟩:=Jl x y ny;rw [eQ,eR];rw [ax,ay] at k1;rw [ay] at k3;refine Tt hs ?_ (by omega) (by omega);have m1:(-y)*Q = -(y*Q):=Int.neg_mul y Q;have m2:y*(-Q) = -(y*Q):=Int.mul_neg y Q;have m3:y*(Q+1)=y*Q+y:=by rw [Int.mul_add,Int.mul_one]
    have m4:y*(-(Q+1)) = -(y*Q) - y:=by rw [Int.mul_neg,m3]; omega
    omega
   have:=Adb va vb W ha hb sx sy hi hj ny nx hs;rw [e1,e2] at this;exact this
theorem Gg{x y:Int}{i j:Nat}{va vb:Value}{w:World}(ha:(Af x).p va w)(hb:(Af y).p vb w)(sx:Sm x i)(sy:Sm y j)(hi:i≤400000000)(hj:j≤400000000)(ny:y≠0) :
 Calls Tryz.prog 112 #[va,vb] w (Aj (Dx (Af (x / y)) (Af (x % y)) (Am (.int .i64 0))) w):=QP va vb x y i j w ha hb sx sy hi hj ny
theorem aK(c d:Int):Int.gcd d (c % d)=Int.gcd c d:=by
 rw [Int.gcd_comm c d,Int.emod_def,Int.mul_comm d,Int.gcd_sub_mul_right_right]
theorem emod_lt(c:Int){d:Int}(nd:d≠0):(c % d).natAbs<d.natAbs:=by
 have h1:=Int.emod_nonneg c nd;have h2:=Int.emod_lt c nd;omega
noncomputable def P8:=C_ Tryz.f111
noncomputable def Tq:=cl P8
noncomputable def Mg:=cr P8
theorem AaB:P8 = .seq Tq Mg:=by kernel_rfl
noncomputable def cF:=A_ Tq
theorem wO:Tq = .region 0 cF false:=by kernel_rfl
noncomputable def TE:=cl Mg
noncomputable def LV:=cr Mg
theorem zC:Mg = .seq TE LV:=by kernel_rfl
noncomputable def PU:=cl TE
theorem zQ:TE = .block 0 PU:=by kernel_rfl
noncomputable def MG:=cl PU
theorem zO:PU = .loop MG:=by kernel_rfl
noncomputable def Oy:=cl MG
noncomputable def Px:=cr MG
theorem cP:MG = .seq Oy Px:=by kernel_rfl
noncomputable def Ti:=cl Oy
noncomputable def GT:=cr Oy
theorem ZJ:Oy = .seq Ti GT:=by kernel_rfl
noncomputable def SM:=A_ Ti
theorem cW:Ti = .region 1 SM false:=by kernel_rfl
noncomputable def Qy:=cl GT
noncomputable def PS:=cr GT
theorem WD:GT = .cond (.tmp 10) Qy PS:=by kernel_rfl
theorem oY:Qy = .skip:=by kernel_rfl
theorem pV:PS = .exit 0:=by kernel_rfl
noncomputable def IC:=cl Px
theorem zG:Px = .block 1 IC:=by kernel_rfl
noncomputable def P_:=cl IC
noncomputable def K2:=cr IC
theorem mF:IC = .seq P_ K2:=by kernel_rfl
noncomputable def Zg:=A_ P_
theorem qH:P_ = .region 2 Zg false:=by kernel_rfl
noncomputable def dH:=A_ K2
theorem nN:K2 = .region 3 dH true:=by kernel_rfl
noncomputable def Pi:=cl LV
noncomputable def OV:=cr LV
theorem xC:LV = .seq Pi OV:=by kernel_rfl
noncomputable def jU:=A_ Pi
theorem oW:Pi = .region 4 jU false:=by kernel_rfl
theorem rE:OV = .ret:=by kernel_rfl
section
set_option linter.unusedSectionVars false
variable {Wb : World} {x y : Int} {k : Nat} (sx : Sm x k) (sy : Sm y k) (hk : k ≤ 400000000)
include sx sy hk
theorem yP:RA 23 [(Af x),(Af y)] [(Ak x),(Ak y),AR] ⟨[(0,(.ref 0)),(1,(.ref 1))],[]⟩ ⟨[(0,(.ref 0)),(1,(.ref 1))],[(2,0),(3,1),(4,2)]⟩ Wb 0 cF false:=RA.of
   { allocs:=[⟨34,2,_,AO,AP⟩],
     boxes:=[⟨34,(.ref 0),0,λw v h=>AT w v h⟩,
      ⟨34,(.ref 1),1,λw v h=>AT w v h⟩] } (by kernel_rfl)
theorem Abh{c d:Int}(sc:Sm c k)(sd:Sm d k)(nd:d=0):RA 23 [(Af d),(Am (.int .i64 (Int.sign d))),(Af x),(Af y)] [(Ak d),(Ak c),AR] ⟨[(0,(.ref 2)),(1,(.ref 3))],[(2,1),(3,0),(4,2)]⟩ ⟨[(0,(.ref 2)),(1,(.ref 3)),(10,(.bool false))],[(2,1),(3,0),(4,2)]⟩ Wb 1 SM false:=RA.of
   { pures:=[p2 (.bin .neq 3 3) (.ref 1) (.int .i64 0) (.bool false) λ_ _ _ _ _ hx hy=>Tx (r:=false) (by simp [Int.sign_eq_zero_iff_zero,nd]) hx hy],
     calls:=[c1 63 (.ref 0) (.ref 1) λw v0 hb h0=>CR h0 sd (by first | decide | assumption | omega)],
     loads:=[⟨34,0,0,(.ref 0),λw q h=>Ah w q h⟩] } (by kernel_rfl)
theorem wD{c d:Int}(sc:Sm c k)(sd:Sm d k):RA 23 [(Av c.natAbs),(Af ((c.natAbs:Nat):Int)),(Af x),(Af y)] [(Ak c),AR,(Ak ((c.natAbs:Nat):Int)),(Ak d)] ⟨[(0,(.ref 2)),(1,(.ref 3)),(10,(.bool false))],[(2,0),(3,3),(4,1)]⟩ ⟨[(0,(.ref 2)),(1,(.ref 3)),(10,(.bool false))],[(2,0),(3,3),(4,2)]⟩ Wb 4 jU false:=RA.of
   { calls:=[c2 89 (.ref 0) (.bool false) (.ref 1) λw v0 v1 hb h0 h1=>K5 h0 h1 (Nat.le_trans (AM sc) (by omega))],
     loads:=[⟨32,1,0,(.ref 0),λw q h=>Bk w q h⟩],
     stores:=[⟨34,0,1,(.ref 1),2,(Ag _)⟩],
     flds:=[⟨34,1,1,Gm⟩] } (by kernel_rfl)
theorem rF{c d:Int}(sc:Sm c k)(sd:Sm d k)(nd:d≠0):RA 23 [(Af d),(Am (.int .i64 (Int.sign d))),(Af x),(Af y)] [(Ak d),(Ak c),AR] ⟨[(0,(.ref 2)),(1,(.ref 3))],[(2,1),(3,0),(4,2)]⟩ ⟨[(0,(.ref 2)),(1,(.ref 3)),(10,(.bool true))],[(2,1),(3,0),(4,2)]⟩ Wb 1 SM false:=RA.of
   { pures:=[p2 (.bin .neq 3 3) (.ref 1) (.int .i64 0) (.bool true) λ_ _ _ _ _ hx hy=>Tx (r:=true) (by simp [Int.sign_eq_zero_iff_zero,nd]) hx hy],
     calls:=[c1 63 (.ref 0) (.ref 1) λw v0 hb h0=>CR h0 sd (by first | decide | assumption | omega)],
     loads:=[⟨34,0,0,(.ref 0),λw q h=>Ah w q h⟩] } (by kernel_rfl)
theorem Aa0{c d:Int}(sc:Sm c k)(sd:Sm d k)(nd:d≠0):RA 23 [(Af c),(Af d),(Af (c / d)),(Af (c % d)),(Af x),(Af y)] [(Ak c),(Ak d),AR,(Ak (c / d)),(Ak (c % d))] ⟨[(0,(.ref 4)),(1,(.ref 5)),(10,(.bool true))],[(2,0),(3,1),(4,2)]⟩ ⟨[(0,(.ref 4)),(1,(.ref 5)),(10,(.bool true))],[(2,0),(3,1),(4,2),(5,3),(6,4)]⟩ Wb 2 Zg false:=RA.of
   { calls:=[c2 112 (.ref 0) (.ref 1) (.tup3 (.ref 2) (.ref 3) (.int .i64 0)) λw v0 v1 hb h0 h1=>Gg h0 h1 sc sd (by first | decide | assumption | omega) (by first | decide | assumption | omega) nd],
     loads:=[⟨34,0,0,(.ref 0),λw q h=>Ah w q h⟩,
      ⟨34,0,1,(.ref 1),λw q h=>Ah w q h⟩],
     allocs:=[⟨34,2,_,AO,AP⟩],
     stores:=[⟨34,0,2,(.ref 2),3,(Ag _)⟩,
      ⟨34,0,2,(.ref 3),4,(Ag _)⟩] } (by kernel_rfl)
theorem wP{c d:Int}(sc:Sm c k)(sd:Sm d k)(nd:d≠0):RA 23 [(Af d),(Af (c % d)),(Af x),(Af y)] [(Ak d),(Ak (c % d)),(Ak c),AR,(Ak (c / d))] ⟨[(0,(.ref 2)),(1,(.ref 3)),(10,(.bool true))],[(2,2),(3,0),(4,3),(5,4),(6,1)]⟩ ⟨[(0,(.ref 2)),(1,(.ref 3)),(10,(.bool true))],[(2,0),(3,1),(4,3),(5,4),(6,1)]⟩ Wb 3 dH true:=RA.of
   { loads:=[⟨34,0,0,(.ref 0),λw q h=>Ah w q h⟩,
      ⟨34,0,1,(.ref 1),λw q h=>Ah w q h⟩],
     stores:=[⟨34,0,2,(.ref 0),0,(AK _ _)⟩,
      ⟨34,0,0,(.ref 1),1,(AK _ _)⟩] } (by kernel_rfl)
end
theorem ZO(va vb:Value)(x y:Int)(k:Nat)(W:World)(ha:Al W va x)(hb:Al W vb y)(sx:Sm x k)(sy:Sm y k)(hk:k≤400000000) :
  Calls Tryz.prog 111 #[va,vb] W (Aj (Af ((Int.gcd x y:Nat):Int)) W):=by
 refine Dc (S:=[(0,(Af x)),(1,(Af y))]) Tryz.func111 (by kernel_rfl) Tryz.ntmps111 (by simp) (λx hx=>?_) λa w hst=>?_
 ·simp only [List.mem_cons,List.not_mem_nil,or_false] at hx
  rcases hx with rfl | rfl
  ·exact ⟨_,rfl,ha⟩
  ·exact ⟨_,rfl,hb⟩
 show Code.wp _ P8 _ a w;rw [AaB];refine wp_seq ?_;rw [wO];refine (yP sx sy hk).run hst ?_;clear hst;intro a w hst;show Code.wp _ Mg _ a w;rw [zC];refine wp_seq ?_;rw [zQ];refine wp_block ?_;show Code.wp _ PU _ a w;rw [zO];refine CD (fun (p:Int × Int) a w=>St W 23 [(0,(Af x)),(1,(Af y))] [(2,(Ak p.1)),(3,(Ak p.2)),(4,AR)] a w∧Int.gcd p.1 p.2=Int.gcd x y∧Sm p.1 k∧Sm p.2 k) (λp=>p.2.natAbs) ?_ (x,y) ⟨hst,rfl,sx,sy⟩
 rintro ⟨c,d⟩ a w ⟨hst,hg,sc,sd⟩
 simp only [] at hst hg sc sd;show Code.wp _ MG _ a w
 by_cases nd:d=0
 ·rw [cP]
  refine wp_seq ?_;rw [ZJ];refine wp_seq ?_;rw [cW];refine (Abh sx sy hk sc sd nd).run hst ?_;clear hst;intro a w hst;show Code.wp _ GT _ a w;rw [WD];refine wp_cond_false (AZ hst 2 rfl) ?_;show Code.wp _ PS _ a w;rw [pV];refine wp_exit ?_;have e:c.natAbs=Int.gcd x y:=by rw [← hg,nd,Int.gcd_zero_right]
  show Code.wp _ LV _ a w;rw [xC];refine wp_seq ?_;rw [oW];refine (wD sx sy hk sc sd).run hst ?_;clear hst;intro a w hst;show Code.wp _ OV _ a w;rw [rE];refine wp_ret ?_;rw [e] at hst;exact Z4 hst rfl 2 rfl
 ·rw [cP]
  refine wp_seq ?_;rw [ZJ];refine wp_seq ?_;rw [cW];refine (rF sx sy hk sc sd nd).run hst ?_;clear hst;intro a w hst;show Code.wp _ GT _ a w;rw [WD];refine wp_cond_true (AZ hst 2 rfl) ?_;show Code.wp _ Qy _ a w;rw [oY];refine wp_skip ?_;show Code.wp _ Px _ a w;rw [zG];refine wp_block ?_;show Code.wp _ IC _ a w;rw [mF];refine wp_seq ?_;rw [qH];refine (Aa0 sx sy hk sc sd nd).run hst ?_;clear hst;intro a w hst;show Code.wp _ K2 _ a w;rw [nN];refine (wP sx sy hk sc sd nd).run hst ?_;clear hst;intro a w hst;exact ⟨(d,c % d),⟨((hst.to (S':=[(0,(Af x)),(1,(Af y))]) ⟨hst.slots.get (k:=0) rfl,hst.slots.get (k:=1) rfl,trivial⟩).firstB 3),by show Int.gcd d (c % d)=_; rw [← hg]; exact aK c d,sd,sd.mod nd⟩,by show (c % d).natAbs<d.natAbs; exact emod_lt c nd⟩
end Go.Proofs.YtdopbgnkneeceaaGreat

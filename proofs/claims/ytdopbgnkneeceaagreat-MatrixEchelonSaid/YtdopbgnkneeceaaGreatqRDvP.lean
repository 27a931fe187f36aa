/- Contracts and facts for the reference's divide and DivMod. -/
import Derived.Test.YtdopbgnkneeceaaGreatqDivP
import Derived.Test.YtdopbgnkneeceaaGreatqREst
set_option linter.unusedSectionVars false
set_option linter.unusedVariables false
set_option linter.unusedSimpArgs false
set_option maxRecDepth 100000
namespace Go.Proofs.YtdopbgnkneeceaaGreat
open Go.RowKit
def Qi(n:Nat):PF:=⟨λv w=>∃(A:Option Addr)(k c:Nat)(ms:List Nat),v = .slice A k c∧ms.length=k∧k≤c∧k≤4398046511104∧Bx ms∧val ms=n∧CQ w w.heap.size A ms,
 λ_ _ _ hg ⟨A,k,c,ms,e,h1,h2,h3,h4,h5,h6⟩=>⟨A,k,c,ms,e,h1,h2,h3,h4,h5,h6.grow hg⟩⟩
section
variable {w Wb : World} {va vb : Value}
theorem LS{n:Nat}(ha:(Qi n).p va w)(hv:(Am (.bool false)).p vb w):Calls Tryz.prog 89 #[va,vb] w (Aj (Af (n:Int)) w):=by
 have hv:vb = .bool false:=hv;subst hv;obtain ⟨A,k,c,ms,rfl,h1,h2,h3,h4,rfl,h6⟩:=ha;exact C4 A k c ms false w h1 h6.raw h3 h2 h4
theorem Yt{n d:Nat}(ha:(Aw n).p va w)(hv:(Am (.int .u32 (d:Int))).p vb w)(hn:len n≤4398046511104)(h0:0<d)(h1:d<4294967296):Calls Tryz.prog 132 #[va,vb] w (Aj (B7 (Qi (n / d)) (Am (.int .u32 ((n % d:Nat):Int)))) w):=by
 have hv:vb = .int .u32 (d:Int):=hv;subst hv;have ha:AB w va n:=ha;obtain ⟨A,c,rfl,H⟩:=ha.open_;refine (T9 A (len n) c (Ae n) d w (Aa n) H.out.mem.2.2 (As n) hn h0 h1).mono ?_
 rintro e w' ⟨ds,rfl,hl,h32,hv,hr,hb⟩
 rw [Ao] at hv ⊢;exact ⟨_,rfl,⟨_,_,rfl,⟨_,_,_,ds,rfl,hl,Nat.le_refl _,hn,h32,hv,hr.mem hr.lt⟩,rfl⟩,hb⟩
theorem Ag0{R D:Nat}(ha:(Aw R).p va w)(hb:(Aw D).p vb w)(h0:0<D)(hle:D≤R)(hl:len R≤1099511627776):Calls Tryz.prog 133 #[va,vb] w (Aj (Af (Ck R D:Nat)) w):=
 yO va vb R D w ha hb h0 hle hl
theorem Agd{x y:Nat}(ha:(Aw x).p va w)(hb:(Aw y).p vb w)(hx:len x≤1099511627776)(hy:len y≤1099511627776):Calls Tryz.prog 88 #[va,vb] w (Aj (Am (.bool (decide (x<y)))) w):=by
 have ha:AB w va x:=ha;have hb:AB w vb y:=hb;obtain ⟨A,c,rfl,H⟩:=ha.open_;obtain ⟨B,d,rfl,K⟩:=hb.open_;exact (MW A B c d x y w H.out K.out hx hy).mono λ_ _ ⟨he,hbb,_⟩=>⟨_,he,rfl,hbb⟩
theorem tT{n k c:Nat}{ad:Addr}(hN:AB Wb (.slice (some ad) k c) n)(hbl:Below Wb.heap.size Wb w)(ha:(Am (.slice (some ad) k c)).p va w)(hv:(Am (.bool false)).p vb w)(hn:len n≤4398046511104):Calls Tryz.prog 89 #[va,vb] w (Aj (Af (n:Int)) w):=by
 have ha:va = .slice (some ad) k c:=ha;subst ha;exact Lv (show AB w _ n from hN.into hbl) hv hn
theorem tW{z:Int}(ha:(Aw z.natAbs).p va w)(hv:(Am (.bool (decide (z<0)))).p vb w)(hn:len z.natAbs≤4398046511104):Calls Tryz.prog 89 #[va,vb] w (Aj (Af z) w):=by
 have hv:vb = .bool (decide (z<0)):=hv;subst hv;have:=T0 va z.natAbs (decide (z<0)) w ha hn;rwa [Cb] at this
end
theorem oV{ρ:Operand→Value}{w:World}{x:Operand}{n:Nat}(hn:n<4294967296)(hx:(Am (.int .u32 (n:Int))).p (ρ x) w):FU (.buildSlice 32 1 #[(0,x)]) ρ w (Qi n):=by
 have hx:ρ x = .int .u32 (n:Int):=hx;refine ⟨.slice (some ⟨w.heap.size,0,none⟩) 1 1,w.alloc (B9 [n]),λo ho=>?_,Ai _ _,?_⟩
 ·unfold execOp
  rw [ho];simp [go_sem,hx,B9]
 ·exact ⟨_,_,_,[n],rfl,rfl,Nat.le_refl _,by omega,Bx.mk hn Bx.nil_,by simp [val],(Cx.new w [n]).mem (by simp)⟩
theorem OE{Wb:World}{N:Nat}{S:List (Nat × PF)}{B:List (Nat × CF)}{a:Act}{w:World}{fn:Func}{t t':Nat}{z z':Int}(hst:St Wb N S B a w)(hr:fn.results = #[.cell t 34,.cell t' 34])(k:Nat)(hk:B[k]? = some (t,Ak z))(k':Nat)(hk':B[k']? = some (t',Ak z')):bodyPost Tryz.prog fn (Aj (B7 (Af z) (Af z')) Wb) .ret a w:=by
 obtain ⟨g,h1,_,b,A,n,c,hh,hi⟩:=hst.boxes.get hk;obtain ⟨g',h1',_,b',A',n',c',hh',hi'⟩:=hst.boxes.get hk';have h0:w.cell? ⟨g,0,none⟩=some (.bool b):=by rw [cell_of_row w g 0 _ _ (0,0) hh]; rfl
 have h2:w.cell? ⟨g,1,none⟩=some (.slice A n c):=by rw [cell_of_row w g 1 _ _ (0,0) hh]; rfl
 have h0':w.cell? ⟨g',0,none⟩=some (.bool b'):=by rw [cell_of_row w g' 0 _ _ (0,0) hh']; rfl
 have h2':w.cell? ⟨g',1,none⟩=some (.slice A' n' c'):=by rw [cell_of_row w g' 1 _ _ (0,0) hh']; rfl
 refine bodyPost_ret (v:=.tuple #[.agg #[.bool b,.slice A n c],.agg #[.bool b',.slice A' n' c']]) ?_ hst.defers ⟨_,rfl,⟨_,_,rfl,hi,hi'⟩,hst.below⟩;simp [results,hr,go_sem,h0,h2,h0',h2',Array.getD_eq_getD_getElem?,h1,h1']
theorem O5(q:Nat)(w:World):(Instr.fieldAt 34 (.pointer (some ⟨q,0,none⟩)) 0).run Tryz.prog w = .ok (.pointer (some ⟨q,0,none⟩)) w:=by simp [go_sem]
theorem B6{z:Int}{e:Bool}(he:decide (z<0)=e)(w:World)(q:Nat)(h:(Ak z).p q w):∃ v,(Instr.loadAt 4 (.pointer (some ⟨q,0,none⟩))).run Tryz.prog w = .ok v w∧(Am (.bool e)).p v w:=by
 obtain ⟨b,A,k,c,hh,s,e,hs⟩:=h;have h1:w.cell? ⟨q,0,none⟩=some (.bool b):=by rw [cell_of_row w q 0 _ _ (0,0) hh]; rfl
 simp only [Value.agg.injEq,Array.mk.injEq,List.cons.injEq,and_true] at e;exact ⟨.bool b,by simp [go_sem,h1],he ▸ e.1⟩
theorem QD{x y q r:Int}(hy:0<y)(h:r+y*q=x)(h0:0≤r)(h1:r<y):q=x / y∧r=x % y:=by
 have:=(Int.ediv_emod_unique (a:=x) (q:=q) (r:=r) hy).2 ⟨h,h0,h1⟩;exact ⟨this.1.symm,this.2.symm⟩
theorem UM{x y q r:Int}(hy:y<0)(h:r+y*q=x)(h0:0≤r)(h1:r < -y):q=x / y∧r=x % y:=by
 have:=QD (x:=x) (y:=-y) (q:=-q) (r:=r) (by omega) (by rw [Int.neg_mul_neg]; exact h) h0 h1;rw [Int.ediv_neg,Int.emod_neg] at this;exact ⟨by omega,this.2⟩
theorem JV(x y:Int)(hy:y≠0):∃ Q R:Int,((x.natAbs / y.natAbs:Nat):Int)=Q∧((x.natAbs % y.natAbs:Nat):Int)=R∧R+(y.natAbs:Int)*Q=(x.natAbs:Int)∧0≤R∧R<(y.natAbs:Int):=by
 have h:=Nat.mod_add_div x.natAbs y.natAbs;have h2:=Nat.mod_lt x.natAbs (show 0<y.natAbs by omega);refine ⟨_,_,rfl,rfl,?_,by omega,by omega⟩;rw [← Int.natCast_mul,← Int.natCast_add,h]
theorem Fg{a b i:Nat}(h:Sm ((b:Nat):Int) i)(hle:a≤b):Sm ((a:Nat):Int) i:=Nat.lt_of_le_of_lt hle h
theorem YB{x y:Nat}{va vb:Value}{w:World}{b:Bool}(ha:(Aw x).p va w)(hb:(Aw y).p vb w)(hx:len x≤1099511627776)(hy:len y≤1099511627776)(e:decide (x<y)=b):Calls Tryz.prog 88 #[va,vb] w (Aj (Am (.bool b)) w):=e ▸ Agd ha hb hx hy
noncomputable def Qj:=DH Tryz.f120
noncomputable def WJ:=cl Qj
noncomputable def JS:=cr Qj
theorem qT:Qj = .seq WJ JS:=by kernel_rfl
noncomputable def Vb:=Ba WJ
theorem jM:WJ = .region 0 Vb false:=by kernel_rfl
noncomputable def QA:=cl JS
noncomputable def L4:=cr JS
theorem jS:JS = .seq QA L4:=by kernel_rfl
noncomputable def VE:=cl QA
noncomputable def J0:=cr QA
theorem nY:QA = .seq VE J0:=by kernel_rfl
noncomputable def W_:=Ba VE
theorem sE:VE = .region 1 W_ false:=by kernel_rfl
noncomputable def MS:=cl J0
noncomputable def VK:=cr J0
theorem oA:J0 = .cond (.tmp 18) MS VK:=by kernel_rfl
noncomputable def Ul:=cl MS
noncomputable def Ja:=cr MS
theorem Aft:MS = .seq Ul Ja:=by kernel_rfl
noncomputable def pU:=Ba Ul
theorem AfR:Ul = .region 2 pU false:=by kernel_rfl
noncomputable def Q0:=cl Ja
noncomputable def Qf:=cr Ja
theorem uO:Ja = .seq Q0 Qf:=by kernel_rfl
noncomputable def qX:=Ba Q0
theorem vW:Q0 = .region 3 qX false:=by kernel_rfl
theorem vS:Qf = .ret:=by kernel_rfl
theorem AfU:VK = .skip:=by kernel_rfl
noncomputable def Po:=cl L4
noncomputable def Jy:=cr L4
theorem AeJ:L4 = .seq Po Jy:=by kernel_rfl
noncomputable def nO:=Ba Po
theorem Aay:Po = .region 4 nO false:=by kernel_rfl
noncomputable def QC:=cl Jy
noncomputable def JE:=cr Jy
theorem tY:Jy = .seq QC JE:=by kernel_rfl
noncomputable def Lp:=cl QC
theorem zF:QC = .block 0 Lp:=by kernel_rfl
noncomputable def I8:=cl Lp
theorem Aac:Lp = .loop I8:=by kernel_rfl
noncomputable def LX:=cl I8
noncomputable def LH:=cr I8
theorem XN:I8 = .seq LX LH:=by kernel_rfl
noncomputable def Qv:=cl LX
noncomputable def H_:=cr LX
theorem Zs:LX = .seq Qv H_:=by kernel_rfl
noncomputable def WP:=Ba Qv
theorem XO:Qv = .region 5 WP false:=by kernel_rfl
noncomputable def Pm:=cl H_
noncomputable def Qr:=cr H_
theorem Zu:H_ = .cond (.tmp 42) Pm Qr:=by kernel_rfl
theorem wK:Pm = .skip:=by kernel_rfl
theorem AaA:Qr = .exit 0:=by kernel_rfl
noncomputable def LC:=cl LH
theorem uC:LH = .block 1 LC:=by kernel_rfl
noncomputable def lC:=Ba LC
theorem AaP:LC = .region 6 lC false:=by kernel_rfl
noncomputable def Rc:=cl JE
noncomputable def JP:=cr JE
theorem yJ:JE = .seq Rc JP:=by kernel_rfl
noncomputable def iP:=Ba Rc
theorem zN:Rc = .region 7 iP false:=by kernel_rfl
noncomputable def PU:=cl JP
noncomputable def JQ:=cr JP
theorem xT:JP = .seq PU JQ:=by kernel_rfl
noncomputable def pG:=Ba PU
theorem yF:PU = .region 8 pG true:=by kernel_rfl
noncomputable def QN:=cl JQ
noncomputable def JJ:=cr JQ
theorem xH:JQ = .seq QN JJ:=by kernel_rfl
noncomputable def LR:=cl QN
theorem Aag:QN = .block 2 LR:=by kernel_rfl
noncomputable def JA:=cl LR
theorem vM:LR = .loop JA:=by kernel_rfl
noncomputable def LN:=cl JA
noncomputable def LG:=cr JA
theorem YD:JA = .seq LN LG:=by kernel_rfl
noncomputable def QP:=cl LN
noncomputable def Ha:=cr LN
theorem XS:LN = .seq QP Ha:=by kernel_rfl
noncomputable def Ub:=Ba QP
theorem Yh:QP = .region 9 Ub false:=by kernel_rfl
noncomputable def Ra:=cl Ha
noncomputable def Pw:=cr Ha
theorem YT:Ha = .cond (.tmp 62) Ra Pw:=by kernel_rfl
theorem AaQ:Ra = .skip:=by kernel_rfl
theorem uD:Pw = .exit 2:=by kernel_rfl
noncomputable def Jr:=cl LG
theorem uL:LG = .block 3 Jr:=by kernel_rfl
noncomputable def PN:=cl Jr
noncomputable def Jq:=cr Jr
theorem tV:Jr = .seq PN Jq:=by kernel_rfl
noncomputable def Zg:=Ba PN
theorem uQ:PN = .region 10 Zg false:=by kernel_rfl
noncomputable def QL:=cl Jq
noncomputable def LQ:=cr Jq
theorem vL:Jq = .seq QL LQ:=by kernel_rfl
noncomputable def XC:=Ba QL
theorem xA:QL = .region 11 XC false:=by kernel_rfl
noncomputable def Zq:=Ba LQ
theorem zG:LQ = .region 12 Zq true:=by kernel_rfl
noncomputable def Rs:=cl JJ
noncomputable def Jd:=cr JJ
theorem Aai:JJ = .seq Rs Jd:=by kernel_rfl
noncomputable def Zd:=Ba Rs
theorem vU:Rs = .region 13 Zd false:=by kernel_rfl
noncomputable def Qc:=cl Jd
noncomputable def PJ:=cr Jd
theorem yU:Jd = .seq Qc PJ:=by kernel_rfl
noncomputable def Y8:=Ba Qc
theorem AaM:Qc = .region 14 Y8 true:=by kernel_rfl
theorem AaO:PJ = .ret:=by kernel_rfl
section
set_option linter.unusedSectionVars false
variable {Wb : World} {x y i j n cap t : Nat} {bd : Addr} (sx : Sm ((x : Nat) : Int) i) (sy : Sm ((y : Nat) : Int) j) (hi : i ≤ 400000000) (hj : j ≤ 400000000) (hN : AB Wb (.slice (some bd) n cap) y) (ct : Wb.cell? (bd.add (n - 1)) = some (.int .u32 (t : Int))) (hn : 1 ≤ n) (hn2 : n ≤ 1099511627776) (ht0 : 0 < t) (ht : t < 4294967296)
include sx sy hi hj hN ct hn hn2 ht0 ht
theorem AcJ(n1:n=1)(ct0:Wb.cell? (bd.add 0)=some (.int .u32 (t:Int))):RA 86 [(Aw x),(Am (.slice (some bd) n cap))] [AS] ⟨[(0,(.ref 0)),(1,(.ref 1))],[]⟩ ⟨[(0,(.ref 0)),(1,(.ref 1))],[(4,0),(5,0)]⟩ Wb 0 Vb false:=RA.of
   { allocs:=[⟨34,0,_,AU,AT⟩] } (by kernel_rfl)
theorem AeG(n1:n=1)(ct0:Wb.cell? (bd.add 0)=some (.int .u32 (t:Int))):RA 86 [(Am (.slice (some bd) n cap)),(Am (.int .i64 (n:Int))),(Aw x)] [AS] ⟨[(0,(.ref 2)),(1,(.ref 0))],[(4,0),(5,0)]⟩ ⟨[(0,(.ref 2)),(1,(.ref 0)),(18,(.bool true))],[(4,0),(5,0)]⟩ Wb 1 W_ false:=RA.of
   { pures:=[p1 (.blt .len [32]) (.ref 0) (.ref 1) λ_ _ _ _ hx=>Om hx,
      p2 (.bin .eql 3 3) (.ref 1) (.int .i64 1) (.bool true) λ_ _ _ _ _ hx hy=>Cm (r:=true) (by simp; omega) hx hy] } (by kernel_rfl)
theorem Aec(n1:n=1)(ct0:Wb.cell? (bd.add 0)=some (.int .u32 (t:Int))):RA 86 [(Am (.slice (some bd) n cap)),(Am (.pointer (some ((bd).add (0))))),(Am (.int .u32 (t:Int))),(Aw x),(Qi (x / t)),(Am (.int .u32 ((x % t:Nat):Int)))] [AS] ⟨[(0,(.ref 3)),(1,(.ref 0)),(18,(.bool true))],[(4,0),(5,0)]⟩ ⟨[(0,(.ref 3)),(1,(.ref 0)),(6,(.ref 4)),(7,(.ref 5)),(18,(.bool true))],[(4,0),(5,0)]⟩ Wb 2 pU false:=RA.of
   { pures:=[p2 (.idx 32) (.ref 0) (.int .i64 0) (.ref 1) λ_ _ _ _ _ hx hy=>Jn (k:=0) (by omega) hx hy,
      p1 (.ld 114) (.ref 1) (.ref 2) λ_ _ _ hb hx=>Ez ct0 hb Cr hx],
     calls:=[c2 132 (.ref 3) (.ref 2) (.tup2 (.ref 4) (.ref 5)) λw v0 v1 hb h0 h1=>Yt h0 h1 (Nat.le_trans (AO sx) (by omega)) (by omega) (by omega)] } (by kernel_rfl)
theorem AcB(n1:n=1)(ct0:Wb.cell? (bd.add 0)=some (.int .u32 (t:Int))):RA 86 [(Qi (x / t)),(Af (((x / t):Nat):Int)),(Am (.int .u32 ((x % t:Nat):Int))),(Qi (x % t)),(Af (((x % t):Nat):Int)),(Aw x),(Am (.slice (some bd) n cap))] [AS,(Ak (((x / t):Nat):Int)),(Ak (((x % t):Nat):Int))] ⟨[(0,(.ref 5)),(1,(.ref 6)),(6,(.ref 0)),(7,(.ref 2)),(18,(.bool true))],[(4,0),(5,0)]⟩ ⟨[(0,(.ref 5)),(1,(.ref 6)),(6,(.ref 0)),(7,(.ref 2)),(18,(.bool true))],[(4,1),(5,2)]⟩ Wb 3 qX false:=RA.of
   { pures:=[p1 (.blds 32 1 [0]) (.ref 2) (.ref 3) λ_ _ _ _ hx=>oV (Nat.lt_of_lt_of_le (Nat.mod_lt _ (by omega)) (Nat.le_of_lt (by assumption))) hx],
     calls:=[c2 89 (.ref 0) (.bool false) (.ref 1) λw v0 v1 hb h0 h1=>LS h0 h1,
      c2 89 (.ref 3) (.bool false) (.ref 4) λw v0 v1 hb h0 h1=>LS h0 h1],
     stores:=[⟨34,0,0,(.ref 1),1,(Ag _)⟩,
      ⟨34,0,0,(.ref 4),2,(Ag _)⟩] } (by kernel_rfl)
theorem uE(n1:¬ n=1):RA 86 [(Aw x),(Am (.slice (some bd) n cap))] [AS] ⟨[(0,(.ref 0)),(1,(.ref 1))],[]⟩ ⟨[(0,(.ref 0)),(1,(.ref 1))],[(4,0),(5,0)]⟩ Wb 0 Vb false:=RA.of
   { allocs:=[⟨34,0,_,AU,AT⟩] } (by kernel_rfl)
theorem wG(n1:¬ n=1):RA 86 [(Am (.slice (some bd) n cap)),(Am (.int .i64 (n:Int))),(Aw x)] [AS] ⟨[(0,(.ref 2)),(1,(.ref 0))],[(4,0),(5,0)]⟩ ⟨[(0,(.ref 2)),(1,(.ref 0)),(18,(.bool false))],[(4,0),(5,0)]⟩ Wb 1 W_ false:=RA.of
   { pures:=[p1 (.blt .len [32]) (.ref 0) (.ref 1) λ_ _ _ _ hx=>Om hx,
      p2 (.bin .eql 3 3) (.ref 1) (.int .i64 1) (.bool false) λ_ _ _ _ _ hx hy=>Cm (r:=false) (by simp; omega) hx hy] } (by kernel_rfl)
theorem Adn(n1:¬ n=1):RA 86 [(Aw x),(Am (.slice (some bd) n cap))] [AS] ⟨[(0,(.ref 0)),(1,(.ref 1)),(18,(.bool false))],[(4,0),(5,0)]⟩ ⟨[(0,(.ref 0)),(1,(.ref 1)),(8,(.int .u32 1)),(18,(.bool false))],[(4,0),(5,0)]⟩ Wb 4 nO false:=RA.of
   {  } (by kernel_rfl)
theorem Adv(n1:¬ n=1){s:Nat}(hs0:0<s)(hs1:s<4294967296)(hts:t*s<4294967296)(hlo:t*s<2147483648):RA 86 [(Am (.slice (some bd) n cap)),(Am (.int .i64 (n:Int))),(Am (.int .i64 ((n - 1:Nat):Int))),(Am (.pointer (some ((bd).add (n - 1))))),(Am (.int .u32 (t:Int))),(Am (.int .u64 (t:Int))),(Am (.int .u32 (s:Int))),(Am (.int .u64 (s:Int))),(Am (.int .u64 ((t*s:Nat):Int))),(Aw x)] [AS] ⟨[(0,(.ref 9)),(1,(.ref 0)),(8,(.ref 6)),(18,(.bool false))],[(4,0),(5,0)]⟩ ⟨[(0,(.ref 9)),(1,(.ref 0)),(8,(.ref 6)),(18,(.bool false)),(42,(.bool true))],[(4,0),(5,0)]⟩ Wb 5 WP false:=RA.of
   { pures:=[p1 (.blt .len [32]) (.ref 0) (.ref 1) λ_ _ _ _ hx=>Om hx,
      p2 (.bin .sub 3 3) (.ref 1) (.int .i64 1) (.ref 2) λ_ _ _ _ _ hx hy=>KX (z:=((n - 1:Nat):Int)) (by rw [IntKind.wrap_i64]; omega) hx hy,
      p2 (.idx 32) (.ref 0) (.ref 2) (.ref 3) λ_ _ _ _ _ hx hy=>Jn (k:=n - 1) (by omega) hx hy,
      p1 (.ld 114) (.ref 3) (.ref 4) λ_ _ _ hb hx=>Ez ct hb Cr hx,
      p1 (.conv 114 112) (.ref 4) (.ref 5) λ_ _ _ _ hx=>C8 (by omega) (by omega) hx,
      p1 (.conv 114 112) (.ref 6) (.ref 7) λ_ _ _ _ hx=>C8 (by omega) (by omega) hx,
      p2 (.bin .mul 112 112) (.ref 5) (.ref 7) (.ref 8) λ_ _ _ _ _ hx hy=>R4 (z:=((t*s:Nat):Int)) (by rw [IntKind.wrap_u64]; rw [← Int.natCast_mul]; omega) hx hy,
      p2 (.bin .lss 112 112) (.ref 8) (.int .u64 2147483648) (.bool true) λ_ _ _ _ _ hx hy=>GV (r:=true) (by simp only [decide_eq_true_eq,decide_eq_false_iff_not]; omega) hx hy] } (by kernel_rfl)
theorem Adt(n1:¬ n=1){s:Nat}(hs0:0<s)(hs1:s<4294967296)(hts:t*s<4294967296)(hlo:t*s<2147483648):RA 86 [(Am (.int .u32 (s:Int))),(Am (.int .u32 ((2*s:Nat):Int))),(Aw x),(Am (.slice (some bd) n cap))] [AS] ⟨[(0,(.ref 2)),(1,(.ref 3)),(8,(.ref 0)),(18,(.bool false)),(42,(.bool true))],[(4,0),(5,0)]⟩ ⟨[(0,(.ref 2)),(1,(.ref 3)),(8,(.ref 1)),(18,(.bool false)),(42,(.bool true))],[(4,0),(5,0)]⟩ Wb 6 lC false:=RA.of
   { pures:=[p2 (.bin .mul 114 114) (.int .u32 2) (.ref 0) (.ref 1) λ_ _ _ _ _ hx hy=>R4 (z:=((2*s:Nat):Int)) (by rw [IntKind.wrap_u32]; have h3:s≤t*s:=Nat.le_mul_of_pos_left s ht0; omega) hx hy] } (by kernel_rfl)
theorem Aad(n1:¬ n=1){s:Nat}(hs0:0<s)(hs1:s<4294967296)(hts:t*s<4294967296)(hhi:2147483648≤t*s):RA 86 [(Am (.slice (some bd) n cap)),(Am (.int .i64 (n:Int))),(Am (.int .i64 ((n - 1:Nat):Int))),(Am (.pointer (some ((bd).add (n - 1))))),(Am (.int .u32 (t:Int))),(Am (.int .u64 (t:Int))),(Am (.int .u32 (s:Int))),(Am (.int .u64 (s:Int))),(Am (.int .u64 ((t*s:Nat):Int))),(Aw x)] [AS] ⟨[(0,(.ref 9)),(1,(.ref 0)),(8,(.ref 6)),(18,(.bool false))],[(4,0),(5,0)]⟩ ⟨[(0,(.ref 9)),(1,(.ref 0)),(8,(.ref 6)),(18,(.bool false)),(42,(.bool false))],[(4,0),(5,0)]⟩ Wb 5 WP false:=RA.of
   { pures:=[p1 (.blt .len [32]) (.ref 0) (.ref 1) λ_ _ _ _ hx=>Om hx,
      p2 (.bin .sub 3 3) (.ref 1) (.int .i64 1) (.ref 2) λ_ _ _ _ _ hx hy=>KX (z:=((n - 1:Nat):Int)) (by rw [IntKind.wrap_i64]; omega) hx hy,
      p2 (.idx 32) (.ref 0) (.ref 2) (.ref 3) λ_ _ _ _ _ hx hy=>Jn (k:=n - 1) (by omega) hx hy,
      p1 (.ld 114) (.ref 3) (.ref 4) λ_ _ _ hb hx=>Ez ct hb Cr hx,
      p1 (.conv 114 112) (.ref 4) (.ref 5) λ_ _ _ _ hx=>C8 (by omega) (by omega) hx,
      p1 (.conv 114 112) (.ref 6) (.ref 7) λ_ _ _ _ hx=>C8 (by omega) (by omega) hx,
      p2 (.bin .mul 112 112) (.ref 5) (.ref 7) (.ref 8) λ_ _ _ _ _ hx hy=>R4 (z:=((t*s:Nat):Int)) (by rw [IntKind.wrap_u64]; rw [← Int.natCast_mul]; omega) hx hy,
      p2 (.bin .lss 112 112) (.ref 8) (.int .u64 2147483648) (.bool false) λ_ _ _ _ _ hx hy=>GV (r:=false) (by simp only [decide_eq_true_eq,decide_eq_false_iff_not]; omega) hx hy] } (by kernel_rfl)
theorem Ae0(n1:¬ n=1){s:Nat}(hs0:0<s)(hs1:s<4294967296):RA 86 [(Am (.int .u32 (s:Int))),(Qi s),(Af ((s:Nat):Int)),(Aw x),(Am (.slice (some bd) n cap))] [AS,(Ak ((s:Nat):Int))] ⟨[(0,(.ref 3)),(1,(.ref 4)),(8,(.ref 0)),(18,(.bool false)),(42,(.bool false))],[(4,0),(5,0)]⟩ ⟨[(0,(.ref 3)),(1,(.ref 4)),(8,(.ref 0)),(18,(.bool false)),(42,(.bool false))],[(4,0),(5,0),(9,1)]⟩ Wb 7 iP false:=RA.of
   { pures:=[p1 (.blds 32 1 [0]) (.ref 0) (.ref 1) λ_ _ _ _ hx=>oV hs1 hx],
     calls:=[c2 89 (.ref 1) (.bool false) (.ref 2) λw v0 v1 hb h0 h1=>LS h0 h1],
     allocs:=[⟨34,0,_,AU,AT⟩],
     stores:=[⟨34,0,0,(.ref 2),1,(Ag _)⟩] } (by kernel_rfl)
theorem Af8(n1:¬ n=1){s:Nat}(hs0:0<s)(hs1:s<4294967296):RA 86 [(Aw x),(Af ((x:Nat):Int)),(Af ((s:Nat):Int)),(Af (((x:Nat):Int)*((s:Nat):Int))),(Am (.slice (some bd) n cap)),(Af ((y:Nat):Int)),(Af (((y:Nat):Int)*((s:Nat):Int))),(Af 0),(Am (.int .u32 (s:Int)))] [(Ak ((s:Nat):Int)),AS,(Ak (((x:Nat):Int)*((s:Nat):Int))),(Ak (((y:Nat):Int)*((s:Nat):Int))),(Ak 0)] ⟨[(0,(.ref 0)),(1,(.ref 4)),(8,(.ref 8)),(18,(.bool false)),(42,(.bool false))],[(4,1),(5,1),(9,0)]⟩ ⟨[(0,(.ref 0)),(1,(.ref 4)),(8,(.ref 8)),(18,(.bool false)),(42,(.bool false))],[(4,1),(5,1),(9,0),(10,2),(11,3),(12,4)]⟩ Wb 8 pG true:=RA.of
   { pures:=[p0 (.bld 34 []) (.ref 7) λ_ _ _=>iF],
     calls:=[c2 89 (.ref 0) (.bool false) (.ref 1) λw v0 v1 hb h0 h1=>Lv h0 h1 (Nat.le_trans (AO sx) (by omega)),
      c2 62 (.ref 1) (.ref 2) (.ref 3) λw v0 v1 hb h0 h1=>Gw h0 h1 sx (Sm.of _ (by omega)) (by first | decide | assumption | omega) (by first | decide | assumption | omega),
      c2 89 (.ref 4) (.bool false) (.ref 5) λw v0 v1 hb h0 h1=>tT hN hb h0 h1 (Nat.le_trans (AO sy) (by omega)),
      c2 62 (.ref 5) (.ref 2) (.ref 6) λw v0 v1 hb h0 h1=>Gw h0 h1 sy (Sm.of _ (by omega)) (by first | decide | assumption | omega) (by first | decide | assumption | omega)],
     loads:=[⟨34,0,0,(.ref 2),λw q h=>Ah w q h⟩],
     allocs:=[⟨34,1,_,AU,AT⟩],
     stores:=[⟨34,0,1,(.ref 3),2,(Ag _)⟩,
      ⟨34,0,1,(.ref 6),3,(Ag _)⟩,
      ⟨34,0,1,(.ref 7),4,(Ag _)⟩] } (by kernel_rfl)
theorem Agr(n1:¬ n=1){s:Nat}(hs0:0<s)(hs1:s<4294967296){q r d:Nat}(hd0:0<d)(sd:Sm ((d:Nat):Int) (j+2))(sr:Sm ((r:Nat):Int) (i+2))(sq:Sm ((q:Nat):Int) (i+2))(hdr:r<d):RA 86 [(Aw r),(Aw d),(Aw x),(Am (.slice (some bd) n cap)),(Am (.int .u32 (s:Int)))] [(Ak ((r:Nat):Int)),(Ak ((d:Nat):Int)),AS,(Ak ((s:Nat):Int)),(Ak ((q:Nat):Int))] ⟨[(0,(.ref 2)),(1,(.ref 3)),(8,(.ref 4)),(18,(.bool false)),(42,(.bool false))],[(4,2),(5,2),(9,3),(10,0),(11,1),(12,4)]⟩ ⟨[(0,(.ref 2)),(1,(.ref 3)),(8,(.ref 4)),(18,(.bool false)),(42,(.bool false)),(62,(.bool false))],[(4,2),(5,2),(9,3),(10,0),(11,1),(12,4)]⟩ Wb 9 Ub false:=RA.of
   { calls:=[c2 88 (.ref 0) (.ref 1) (.bool true) λw v0 v1 hb h0 h1=>YB h0 h1 (Nat.le_trans (AO sr) (by omega)) (Nat.le_trans (AO sd) (by omega)) (by simp; omega)],
     loads:=[⟨32,1,0,(.ref 0),λw q h=>Br w q h⟩,
      ⟨32,1,1,(.ref 1),λw q h=>Br w q h⟩],
     flds:=[⟨34,1,1,GE⟩] } (by kernel_rfl)
theorem AaN(n1:¬ n=1){s:Nat}(hs0:0<s)(hs1:s<4294967296){q r d:Nat}(hd0:0<d)(sd:Sm ((d:Nat):Int) (j+2))(sr:Sm ((r:Nat):Int) (i+2))(sq:Sm ((q:Nat):Int) (i+2)):RA 86 [(Aw r),(Am (.int .u32 (s:Int))),(Qi (r / s)),(Am (.int .u32 ((r % s:Nat):Int))),(Aw x),(Am (.slice (some bd) n cap))] [(Ak ((r:Nat):Int)),AS,(Ak ((s:Nat):Int)),(Ak ((d:Nat):Int)),(Ak ((q:Nat):Int))] ⟨[(0,(.ref 4)),(1,(.ref 5)),(8,(.ref 1)),(18,(.bool false)),(42,(.bool false)),(62,(.bool false))],[(4,1),(5,1),(9,2),(10,0),(11,3),(12,4)]⟩ ⟨[(0,(.ref 4)),(1,(.ref 5)),(8,(.ref 1)),(14,(.ref 2)),(18,(.bool false)),(42,(.bool false)),(62,(.bool false))],[(4,1),(5,1),(9,2),(10,0),(11,3),(12,4)]⟩ Wb 13 Zd false:=RA.of
   { calls:=[c2 132 (.ref 0) (.ref 1) (.tup2 (.ref 2) (.ref 3)) λw v0 v1 hb h0 h1=>Yt h0 h1 (Nat.le_trans (AO sr) (by omega)) (by omega) (by omega)],
     loads:=[⟨32,1,0,(.ref 0),λw q h=>Br w q h⟩],
     flds:=[⟨34,1,1,GE⟩] } (by kernel_rfl)
theorem wX(n1:¬ n=1){s:Nat}(hs0:0<s)(hs1:s<4294967296){q r d:Nat}(hd0:0<d)(sd:Sm ((d:Nat):Int) (j+2))(sr:Sm ((r:Nat):Int) (i+2))(sq:Sm ((q:Nat):Int) (i+2)):RA 86 [(Af ((q:Nat):Int)),(Qi (r / s)),(Af (((r / s):Nat):Int)),(Aw x),(Am (.slice (some bd) n cap)),(Am (.int .u32 (s:Int)))] [(Ak ((q:Nat):Int)),AS,(Ak (((r / s):Nat):Int)),(Ak ((s:Nat):Int)),(Ak ((r:Nat):Int)),(Ak ((d:Nat):Int))] ⟨[(0,(.ref 3)),(1,(.ref 4)),(8,(.ref 5)),(14,(.ref 1)),(18,(.bool false)),(42,(.bool false)),(62,(.bool false))],[(4,1),(5,1),(9,3),(10,4),(11,5),(12,0)]⟩ ⟨[(0,(.ref 3)),(1,(.ref 4)),(8,(.ref 5)),(14,(.ref 1)),(18,(.bool false)),(42,(.bool false)),(62,(.bool false))],[(4,0),(5,2),(9,3),(10,4),(11,5),(12,0)]⟩ Wb 14 Y8 true:=RA.of
   { calls:=[c2 89 (.ref 1) (.bool false) (.ref 2) λw v0 v1 hb h0 h1=>LS h0 h1],
     loads:=[⟨34,0,0,(.ref 0),λw q h=>Ah w q h⟩],
     stores:=[⟨34,0,1,(.ref 0),0,(Ag _)⟩,
      ⟨34,0,1,(.ref 2),2,(Ag _)⟩] } (by kernel_rfl)
theorem AaK(n1:¬ n=1){s:Nat}(hs0:0<s)(hs1:s<4294967296){q r d:Nat}(hd0:0<d)(sd:Sm ((d:Nat):Int) (j+2))(sr:Sm ((r:Nat):Int) (i+2))(sq:Sm ((q:Nat):Int) (i+2))(hdr:d≤r)(se:Sm ((Ck r d:Nat):Int) (i+2)):RA 86 [(Aw r),(Aw d),(Aw x),(Am (.slice (some bd) n cap)),(Am (.int .u32 (s:Int)))] [(Ak ((r:Nat):Int)),(Ak ((d:Nat):Int)),AS,(Ak ((s:Nat):Int)),(Ak ((q:Nat):Int))] ⟨[(0,(.ref 2)),(1,(.ref 3)),(8,(.ref 4)),(18,(.bool false)),(42,(.bool false))],[(4,2),(5,2),(9,3),(10,0),(11,1),(12,4)]⟩ ⟨[(0,(.ref 2)),(1,(.ref 3)),(8,(.ref 4)),(18,(.bool false)),(42,(.bool false)),(62,(.bool true))],[(4,2),(5,2),(9,3),(10,0),(11,1),(12,4)]⟩ Wb 9 Ub false:=RA.of
   { calls:=[c2 88 (.ref 0) (.ref 1) (.bool false) λw v0 v1 hb h0 h1=>YB h0 h1 (Nat.le_trans (AO sr) (by omega)) (Nat.le_trans (AO sd) (by omega)) (by simp; omega)],
     loads:=[⟨32,1,0,(.ref 0),λw q h=>Br w q h⟩,
      ⟨32,1,1,(.ref 1),λw q h=>Br w q h⟩],
     flds:=[⟨34,1,1,GE⟩] } (by kernel_rfl)
theorem Aab(n1:¬ n=1){s:Nat}(hs0:0<s)(hs1:s<4294967296){q r d:Nat}(hd0:0<d)(sd:Sm ((d:Nat):Int) (j+2))(sr:Sm ((r:Nat):Int) (i+2))(sq:Sm ((q:Nat):Int) (i+2))(hdr:d≤r)(se:Sm ((Ck r d:Nat):Int) (i+2)):RA 86 [(Aw r),(Aw d),(Af ((Ck r d:Nat):Int)),(Aw x),(Am (.slice (some bd) n cap)),(Am (.int .u32 (s:Int)))] [(Ak ((r:Nat):Int)),(Ak ((d:Nat):Int)),AS,(Ak ((Ck r d:Nat):Int)),(Ak ((s:Nat):Int)),(Ak ((q:Nat):Int))] ⟨[(0,(.ref 3)),(1,(.ref 4)),(8,(.ref 5)),(18,(.bool false)),(42,(.bool false)),(62,(.bool true))],[(4,2),(5,2),(9,4),(10,0),(11,1),(12,5)]⟩ ⟨[(0,(.ref 3)),(1,(.ref 4)),(8,(.ref 5)),(18,(.bool false)),(42,(.bool false)),(62,(.bool true))],[(4,2),(5,2),(9,4),(10,0),(11,1),(12,5),(13,3)]⟩ Wb 10 Zg false:=RA.of
   { calls:=[c2 133 (.ref 0) (.ref 1) (.ref 2) λw v0 v1 hb h0 h1=>Ag0 h0 h1 hd0 hdr (Nat.le_trans (AO sr) (by omega))],
     loads:=[⟨32,1,0,(.ref 0),λw q h=>Br w q h⟩,
      ⟨32,1,1,(.ref 1),λw q h=>Br w q h⟩],
     allocs:=[⟨34,2,_,AU,AT⟩],
     stores:=[⟨34,0,2,(.ref 2),3,(Ag _)⟩],
     flds:=[⟨34,1,1,GE⟩] } (by kernel_rfl)
theorem yY(n1:¬ n=1){s:Nat}(hs0:0<s)(hs1:s<4294967296){q r d:Nat}(hd0:0<d)(sd:Sm ((d:Nat):Int) (j+2))(sr:Sm ((r:Nat):Int) (i+2))(sq:Sm ((q:Nat):Int) (i+2))(hdr:d≤r)(se:Sm ((Ck r d:Nat):Int) (i+2)):RA 86 [(Af ((q:Nat):Int)),(Af ((Ck r d:Nat):Int)),(Af (((q:Nat):Int)+((Ck r d:Nat):Int))),(Aw x),(Am (.slice (some bd) n cap)),(Am (.int .u32 (s:Int)))] [(Ak ((q:Nat):Int)),(Ak ((Ck r d:Nat):Int)),(Ak (((q:Nat):Int)+((Ck r d:Nat):Int))),AS,(Ak ((s:Nat):Int)),(Ak ((r:Nat):Int)),(Ak ((d:Nat):Int))] ⟨[(0,(.ref 3)),(1,(.ref 4)),(8,(.ref 5)),(18,(.bool false)),(42,(.bool false)),(62,(.bool true))],[(4,3),(5,3),(9,4),(10,5),(11,6),(12,0),(13,1)]⟩ ⟨[(0,(.ref 3)),(1,(.ref 4)),(8,(.ref 5)),(18,(.bool false)),(42,(.bool false)),(62,(.bool true))],[(4,3),(5,3),(9,4),(10,5),(11,6),(12,2),(13,1)]⟩ Wb 11 XC false:=RA.of
   { calls:=[c2 81 (.ref 0) (.ref 1) (.ref 2) λw v0 v1 hb h0 h1=>X4 h0 h1 sq se (by first | decide | assumption | omega) (by first | decide | assumption | omega)],
     loads:=[⟨34,0,0,(.ref 0),λw q h=>Ah w q h⟩,
      ⟨34,0,1,(.ref 1),λw q h=>Ah w q h⟩],
     stores:=[⟨34,0,0,(.ref 2),2,(AM _ _)⟩] } (by kernel_rfl)
theorem wP(n1:¬ n=1){s:Nat}(hs0:0<s)(hs1:s<4294967296){q r d:Nat}(hd0:0<d)(sd:Sm ((d:Nat):Int) (j+2))(sr:Sm ((r:Nat):Int) (i+2))(sq:Sm ((q:Nat):Int) (i+2))(hdr:d≤r)(se:Sm ((Ck r d:Nat):Int) (i+2)):RA 86 [(Af ((r:Nat):Int)),(Af ((Ck r d:Nat):Int)),(Af ((d:Nat):Int)),(Af (((Ck r d:Nat):Int)*((d:Nat):Int))),(Af (((r:Nat):Int) - (((Ck r d:Nat):Int)*((d:Nat):Int)))),(Aw x),(Am (.slice (some bd) n cap)),(Am (.int .u32 (s:Int)))] [(Ak ((r:Nat):Int)),(Ak ((Ck r d:Nat):Int)),(Ak ((d:Nat):Int)),(Ak (((r:Nat):Int) - (((Ck r d:Nat):Int)*((d:Nat):Int)))),AS,(Ak ((s:Nat):Int)),(Ak (((q:Nat):Int)+((Ck r d:Nat):Int)))] ⟨[(0,(.ref 5)),(1,(.ref 6)),(8,(.ref 7)),(18,(.bool false)),(42,(.bool false)),(62,(.bool true))],[(4,4),(5,4),(9,5),(10,0),(11,2),(12,6),(13,1)]⟩ ⟨[(0,(.ref 5)),(1,(.ref 6)),(8,(.ref 7)),(18,(.bool false)),(42,(.bool false)),(62,(.bool true))],[(4,4),(5,4),(9,5),(10,3),(11,2),(12,6),(13,1)]⟩ Wb 12 Zq true:=RA.of
   { calls:=[c2 62 (.ref 1) (.ref 2) (.ref 3) λw v0 v1 hb h0 h1=>Gw h0 h1 se sd (by first | decide | assumption | omega) (by first | decide | assumption | omega),
      c2 121 (.ref 0) (.ref 3) (.ref 4) λw v0 v1 hb h0 h1=>gT h0 h1 sr (se.mul sd) (by first | decide | assumption | omega) (by first | decide | assumption | omega)],
     loads:=[⟨34,0,0,(.ref 0),λw q h=>Ah w q h⟩,
      ⟨34,0,1,(.ref 1),λw q h=>Ah w q h⟩,
      ⟨34,0,2,(.ref 2),λw q h=>Ah w q h⟩],
     stores:=[⟨34,0,0,(.ref 4),3,(AM _ _)⟩] } (by kernel_rfl)
end
theorem Sl(va:Value)(x y i j n cap t:Nat)(bd:Addr)(W:World)(ha:AB W va x)(sx:Sm ((x:Nat):Int) i)(sy:Sm ((y:Nat):Int) j)(hi:i≤400000000)(hj:j≤400000000)(hN:AB W (.slice (some bd) n cap) y)(ct:W.cell? (bd.add (n - 1))=some (.int .u32 (t:Int)))(hn:1≤n)(hn2:n≤1099511627776)(ht0:0<t)(ht:t<4294967296)(hy0:0<y)(ey1:n=1→y=t) :
  Calls Tryz.prog 120 #[va,.slice (some bd) n cap] W (Aj (B7 (Af ((x / y:Nat):Int)) (Af ((x % y:Nat):Int))) W):=by
 refine Do (S:=[(0,(Aw x)),(1,(Am (.slice (some bd) n cap)))]) Tryz.func120 (by kernel_rfl) Tryz.ntmps120 (by simp) (λx hx=>?_) λa w hst=>?_
 ·simp only [List.mem_cons,List.not_mem_nil,or_false] at hx
  rcases hx with rfl | rfl
  ·exact ⟨_,rfl,ha⟩
  ·exact ⟨_,rfl,rfl⟩
 show Code.wp _ Qj _ a w
 by_cases n1:n=1
 ·have ey:=ey1 n1
  have ct0:W.cell? (bd.add 0)=some (.int .u32 (t:Int)):=by rw [n1] at ct; exact ct
  rw [qT];refine wp_seq ?_;rw [jM];refine (AcJ sx sy hi hj hN ct hn hn2 ht0 ht n1 ct0).run hst ?_;clear hst;intro a w hst;show Code.wp _ JS _ a w;rw [jS];refine wp_seq ?_;rw [nY];refine wp_seq ?_;rw [sE];refine (AeG sx sy hi hj hN ct hn hn2 ht0 ht n1 ct0).run hst ?_;clear hst;intro a w hst;show Code.wp _ J0 _ a w;rw [oA];refine wp_cond_true (A7 hst 2 rfl) ?_;show Code.wp _ MS _ a w;rw [Aft];refine wp_seq ?_;rw [AfR];refine (Aec sx sy hi hj hN ct hn hn2 ht0 ht n1 ct0).run hst ?_;clear hst;intro a w hst;show Code.wp _ Ja _ a w;rw [uO];refine wp_seq ?_;rw [vW];refine (AcB sx sy hi hj hN ct hn hn2 ht0 ht n1 ct0).run hst ?_;clear hst;intro a w hst;show Code.wp _ Qf _ a w;rw [vS];refine wp_ret ?_;rw [← ey] at hst;exact OE hst rfl 0 rfl 1 rfl
 ·clear ey1
  rw [qT];refine wp_seq ?_;rw [jM];refine (uE sx sy hi hj hN ct hn hn2 ht0 ht n1).run hst ?_;clear hst;intro a w hst;show Code.wp _ JS _ a w;rw [jS];refine wp_seq ?_;rw [nY];refine wp_seq ?_;rw [sE];refine (wG sx sy hi hj hN ct hn hn2 ht0 ht n1).run hst ?_;clear hst;intro a w hst;show Code.wp _ J0 _ a w;rw [oA];refine wp_cond_false (A7 hst 2 rfl) ?_;show Code.wp _ VK _ a w;rw [AfU];refine wp_skip ?_;show Code.wp _ L4 _ a w;rw [AeJ];refine wp_seq ?_;rw [Aay];refine (Adn sx sy hi hj hN ct hn hn2 ht0 ht n1).run hst ?_;clear hst;intro a w hst;show Code.wp _ Jy _ a w;rw [tY];refine wp_seq ?_;rw [zF];refine wp_block ?_;show Code.wp _ Lp _ a w;rw [Aac];refine CN (fun (s:Nat) a w=>St W 86 [(0,(Aw x)),(1,(Am (.slice (some bd) n cap))),(8,(Am (.int .u32 (s:Int)))),(18,(Am (.bool false)))] [(4,AS),(5,AS)] a w∧0<s∧t*s<4294967296) (λs=>4294967296 - s) ?_ (1:Nat) ⟨hst,by omega,by omega⟩;intro s a w ⟨hst,hs0,hts⟩;have hs1:s<4294967296:=Nat.lt_of_le_of_lt (by rw [← Nat.one_mul s]; exact Nat.mul_le_mul_right s ht0 |> λh=>by simpa using h) hts;show Code.wp _ I8 _ a w
  rcases Nat.lt_or_ge (t*s) 2147483648 with hlo | hhi
  ·rw [XN]
   refine wp_seq ?_;rw [Zs];refine wp_seq ?_;rw [XO];refine (Adv sx sy hi hj hN ct hn hn2 ht0 ht n1 hs0 hs1 hts hlo).run hst ?_;clear hst;intro a w hst;show Code.wp _ H_ _ a w;rw [Zu];refine wp_cond_true (A7 hst 4 rfl) ?_;show Code.wp _ Pm _ a w;rw [wK];refine wp_skip ?_;show Code.wp _ LH _ a w;rw [uC];refine wp_block ?_;show Code.wp _ LC _ a w;rw [AaP];refine (Adt sx sy hi hj hN ct hn hn2 ht0 ht n1 hs0 hs1 hts hlo).run hst ?_;clear hst;intro a w hst;have h2:t*(2*s)=2*(t*s):=by rw [Nat.mul_left_comm]
   have h3:s≤t*s:=Nat.le_mul_of_pos_left s ht0;exact ⟨2*s,⟨(hst.to ⟨hst.slots.get (k:=0) rfl,hst.slots.get (k:=1) rfl,hst.slots.get (k:=2) rfl,hst.slots.get (k:=3) rfl,trivial⟩),by omega,by omega⟩,by show 4294967296 - 2*s<4294967296 - s; omega⟩
  ·rw [XN]
   refine wp_seq ?_;rw [Zs];refine wp_seq ?_;rw [XO];refine (Aad sx sy hi hj hN ct hn hn2 ht0 ht n1 hs0 hs1 hts hhi).run hst ?_;clear hst;intro a w hst;show Code.wp _ H_ _ a w;rw [Zu];refine wp_cond_false (A7 hst 4 rfl) ?_;show Code.wp _ Qr _ a w;rw [AaA];refine wp_exit ?_;clear hhi hts;show Code.wp _ JE _ a w;rw [yJ];refine wp_seq ?_;rw [zN];refine (Ae0 sx sy hi hj hN ct hn hn2 ht0 ht n1 hs0 hs1).run hst ?_;clear hst;intro a w hst;show Code.wp _ JP _ a w;rw [xT];refine wp_seq ?_;rw [yF];refine (Af8 sx sy hi hj hN ct hn hn2 ht0 ht n1 hs0 hs1).run hst ?_;clear hst;intro a w hst;show Code.wp _ JQ _ a w;rw [xH];refine wp_seq ?_;rw [Aag];refine wp_block ?_;show Code.wp _ LR _ a w;rw [vM];obtain ⟨d,hd⟩:∃ d,d=y*s:=⟨_,rfl⟩;obtain ⟨r0,hr0⟩:∃ r,r=x*s:=⟨_,rfl⟩;have hd0:0<d:=by rw [hd]; exact Nat.mul_pos hy0 hs0
   have ed:((y:Nat):Int)*((s:Nat):Int)=((d:Nat):Int):=by rw [hd,Int.natCast_mul]
   have er:((x:Nat):Int)*((s:Nat):Int)=((r0:Nat):Int):=by rw [hr0,Int.natCast_mul]
   have sd:Sm ((d:Nat):Int) (j+2):=by rw [← ed]; exact sy.mul (Sm.of _ (by omega))
   have sr0:Sm ((r0:Nat):Int) (i+2):=by rw [← er]; exact sx.mul (Sm.of _ (by omega))
   rw [ed,er] at hst;refine CN (fun (p:Nat × Nat) a w=>St W 86 [(0,(Aw x)),(1,(Am (.slice (some bd) n cap))),(8,(Am (.int .u32 (s:Int)))),(18,(Am (.bool false))),(42,(Am (.bool false)))] [(4,AS),(5,AS),(9,(Ak ((s:Nat):Int))),(10,(Ak ((p.2:Nat):Int))),(11,(Ak ((d:Nat):Int))),(12,(Ak ((p.1:Nat):Int)))] a w∧p.1*d+p.2=r0) (λp=>p.2) ?_ (0,r0) ⟨hst,by simp⟩
   rintro ⟨q,r⟩ a w ⟨hst,hqr⟩
   simp only [] at hst hqr;show Code.wp _ JA _ a w;have hq1:q≤q*d:=Nat.le_mul_of_pos_right q hd0;have sr:Sm ((r:Nat):Int) (i+2):=Fg sr0 (by omega);have sq:Sm ((q:Nat):Int) (i+2):=Fg sr0 (by omega)
   rcases Nat.lt_or_ge r d with hdr | hdr
   ·rw [YD]
    refine wp_seq ?_;rw [XS];refine wp_seq ?_;rw [Yh];refine (Agr sx sy hi hj hN ct hn hn2 ht0 ht n1 hs0 hs1 hd0 sd sr sq hdr).run hst ?_;clear hst;intro a w hst;show Code.wp _ Ha _ a w;rw [YT];refine wp_cond_false (A7 hst 5 rfl) ?_;show Code.wp _ Pw _ a w;rw [uD];refine wp_exit ?_;obtain ⟨f1,f2⟩:=YE (x:=x) (y:=y) (q:=q) (r:=r) (H:=s) hs0 (by rw [← hd,← hr0,hqr]) (by rw [← hd]; exact hdr);show Code.wp _ JJ _ a w;rw [Aai];refine wp_seq ?_;rw [vU];refine (AaN sx sy hi hj hN ct hn hn2 ht0 ht n1 hs0 hs1 hd0 sd sr sq).run hst ?_;clear hst;intro a w hst;show Code.wp _ Jd _ a w;rw [yU];refine wp_seq ?_;rw [AaM];refine (wX sx sy hi hj hN ct hn hn2 ht0 ht n1 hs0 hs1 hd0 sd sr sq).run hst ?_;clear hst;intro a w hst;show Code.wp _ PJ _ a w;rw [AaO];refine wp_ret ?_;rw [f1,f2] at hst;exact OE hst rfl 0 rfl 1 rfl
   ·have hE:=uR hd0 hdr
    have he1:Ck r d≤Ck r d*d:=Nat.le_mul_of_pos_right _ hd0;have se:Sm ((Ck r d:Nat):Int) (i+2):=Fg sr0 (by omega);rw [YD];refine wp_seq ?_;rw [XS];refine wp_seq ?_;rw [Yh];refine (AaK sx sy hi hj hN ct hn hn2 ht0 ht n1 hs0 hs1 hd0 sd sr sq hdr se).run hst ?_;clear hst;intro a w hst;show Code.wp _ Ha _ a w;rw [YT];refine wp_cond_true (A7 hst 5 rfl) ?_;show Code.wp _ Ra _ a w;rw [AaQ];refine wp_skip ?_;show Code.wp _ LG _ a w;rw [uL];refine wp_block ?_;show Code.wp _ Jr _ a w;rw [tV];refine wp_seq ?_;rw [uQ];refine (Aab sx sy hi hj hN ct hn hn2 ht0 ht n1 hs0 hs1 hd0 sd sr sq hdr se).run hst ?_;clear hst;intro a w hst;show Code.wp _ Jq _ a w;rw [vL];refine wp_seq ?_;rw [xA];refine (yY sx sy hi hj hN ct hn hn2 ht0 ht n1 hs0 hs1 hd0 sd sr sq hdr se).run hst ?_;clear hst;intro a w hst;show Code.wp _ LQ _ a w;rw [zG];refine (wP sx sy hi hj hN ct hn hn2 ht0 ht n1 hs0 hs1 hd0 sd sr sq hdr se).run hst ?_;clear hst;intro a w hst;have e1:((q:Nat):Int)+((Ck r d:Nat):Int)=((q+Ck r d:Nat):Int):=by rw [Int.natCast_add]
    have e2:((r:Nat):Int) - ((Ck r d:Nat):Int)*((d:Nat):Int)=((r - Ck r d*d:Nat):Int):=by rw [Int.natCast_sub hE.2,Int.natCast_mul]
    rw [e1,e2] at hst;have h3:0<Ck r d*d:=Nat.mul_pos hE.1 hd0;exact ⟨(q+Ck r d,r - Ck r d*d),⟨((hst.to (S':=[(0,(Aw x)),(1,(Am (.slice (some bd) n cap))),(8,(Am (.int .u32 (s:Int)))),(18,(Am (.bool false))),(42,(Am (.bool false)))]) ⟨hst.slots.get (k:=0) rfl,hst.slots.get (k:=1) rfl,hst.slots.get (k:=2) rfl,hst.slots.get (k:=3) rfl,hst.slots.get (k:=4) rfl,trivial⟩).firstB 6),by show (q+Ck r d)*d+(r - Ck r d*d)=r0; rw [Nat.add_mul]; omega⟩,by show r - Ck r d*d<r; omega⟩
theorem Da{z:Int}{b:Bool}{va vb:Value}{w:World}(e:decide (z<0)=b)(ha:(Aw z.natAbs).p va w)(hv:(Am (.bool b)).p vb w)(hn:len z.natAbs≤4398046511104):Calls Tryz.prog 89 #[va,vb] w (Aj (Af z) w):=by
 subst e;exact tW ha hv hn
theorem FX{x y i j:Nat}{va vb:Value}{w:World}(ha:(Aw x).p va w)(hb:(Aw y).p vb w)(sx:Sm ((x:Nat):Int) i)(sy:Sm ((y:Nat):Int) j)(hi:i≤400000000)(hj:j≤400000000)(hy0:0<y) :
  Calls Tryz.prog 120 #[va,vb] w (Aj (B7 (Af ((x / y:Nat):Int)) (Af ((x % y:Nat):Int))) w):=by
 have hb:AB w vb y:=hb;obtain ⟨B,c,rfl,H⟩:=hb.open_;have hl:len y≠0:=λh=>by have:=AZ.1 h; omega
 have hb2:len y≤j:=AO sy;obtain ⟨bd,rfl,_,hc⟩:=H.out.mem.2.2.at_ (show len y - 1<(Ae y).length by rw [Aa]; omega);have gq:=At (show len y - 1<(Ae y).length by rw [Aa]; omega);have ht:=(As y).get (show len y - 1<(Ae y).length by rw [Aa]; omega);have ht0:=EM hy0;generalize (Ae y)[len y - 1]'(by rw [Aa]; omega)=t at *;refine Sl va x y i j (len y) c t bd w ha sx sy hi hj H.out hc (by omega) (by omega) (by omega) ht hy0 λh=>?_
 rw [h] at gq;obtain ⟨lo,e,hlo⟩:=Kx (y:=y) (n:=0) h gq;omega
theorem AiV{x y:Int}{i j:Nat}(va:Value)(vb:Value)(W:World)(hva:(Af x).p va W)(hvb:(Af y).p vb W)(sx:Sm x i)(sy:Sm y j)(hi:i≤400000000)(hj:j≤400000000)(ny:y≠0)(_nx:x<0)(hr:0<((x.natAbs % y.natAbs:Nat):Int))(_hs:0<y):Calls Tryz.prog 112 #[va,vb] W (Aj (DS (Af (-(((x.natAbs / y.natAbs:Nat):Int)+1))) (Af (y - ((x.natAbs % y.natAbs:Nat):Int))) (Am (.int .i64 0))) W):=by
  let E:List PF:=[(Af x),(Af y),(Aw x.natAbs),(Aw y.natAbs),(Am (.int .i64 (Int.sign y))),(Af ((x.natAbs / y.natAbs:Nat):Int)),(Af ((x.natAbs % y.natAbs:Nat):Int)),(Am (.int .i64 (Int.sign ((x.natAbs % y.natAbs:Nat):Int)))),(Af 1),(Af (((x.natAbs / y.natAbs:Nat):Int)+1)),(Af (y - ((x.natAbs % y.natAbs:Nat):Int))),(Af (-(((x.natAbs / y.natAbs:Nat):Int)+1)))]
  let EB:List CF:=[(Ak x),(Ak y),AS,(Ak ((x.natAbs / y.natAbs:Nat):Int)),(Ak ((x.natAbs % y.natAbs:Nat):Int)),(Ak (((x.natAbs / y.natAbs:Nat):Int)+1)),(Ak (y - ((x.natAbs % y.natAbs:Nat):Int))),(Ak (-(((x.natAbs / y.natAbs:Nat):Int)+1)))]
  exact Av (E:=E) (EB:=EB) (fs:=[(.ref 0),(.ref 1)]) (r:=(.tup3 (.ref 11) (.ref 10) (.int .i64 0)))
   { pures:=[p2 (.bin .eql 3 3) (.ref 4) (.int .i64 0) (.bool false) λ_ _ _ _ _ hx hy=>Cm (r:=false) (by simp [Int.sign_eq_zero_iff_zero,ny]) hx hy,
      p2 (.bin .gtr 3 3) (.ref 7) (.int .i64 0) (.bool true) λ_ _ _ _ _ hx hy=>Ff (r:=true) (by rw [Int.sign_eq_one_of_pos hr]; decide) hx hy],
     calls:=[c2 89 (.ref 2) (.bool true) (.ref 0) λw v0 v1 hb h0 h1=>Da (z:=x) (by simp; omega) h0 h1 (Nat.le_trans (AO sx) (by omega)),
      c2 89 (.ref 3) (.bool false) (.ref 1) λw v0 v1 hb h0 h1=>Da (z:=y) (by simp; omega) h0 h1 (Nat.le_trans (AO sy) (by omega)),
      c1 63 (.ref 1) (.ref 4) λw v0 hb h0=>C1 h0 sy (by first | decide | assumption | omega),
      c2 120 (.ref 2) (.ref 3) (.tup2 (.ref 5) (.ref 6)) λw v0 v1 hb h0 h1=>FX h0 h1 sx.abs sy.abs hi hj (by omega),
      c1 63 (.ref 6) (.ref 7) λw v0 hb h0=>C1 h0 (Fg sx.abs (Nat.mod_le _ _)) (by first | decide | assumption | omega),
      c1 58 (.int .i64 1) (.ref 8) λw v0 hb h0=>bF 1 (by omega) (by omega) h0,
      c2 81 (.ref 5) (.ref 8) (.ref 9) λw v0 v1 hb h0 h1=>X4 h0 h1 (Fg sx.abs (Nat.div_le_self _ _)) (Sm.of 1 (by decide)) (by first | decide | assumption | omega) (by first | decide | assumption | omega),
      c2 121 (.ref 1) (.ref 6) (.ref 10) λw v0 v1 hb h0 h1=>gT h0 h1 sy (Fg sx.abs (Nat.mod_le _ _)) (by first | decide | assumption | omega) (by first | decide | assumption | omega),
      c1 60 (.ref 9) (.ref 11) λw v0 hb h0=>OZ h0 ((Fg sx.abs (Nat.div_le_self _ _)).add (Sm.of 1 (by decide))) (by first | decide | assumption | omega)],
     loads:=[⟨32,1,0,(.ref 2),λw q h=>Br w q h⟩,
      ⟨4,0,0,(.bool true),λw q h=>B6 (by simp; omega) w q h⟩,
      ⟨32,1,1,(.ref 3),λw q h=>Br w q h⟩,
      ⟨4,0,1,(.bool false),λw q h=>B6 (by simp; omega) w q h⟩,
      ⟨34,0,1,(.ref 1),λw q h=>Ah w q h⟩,
      ⟨34,0,4,(.ref 6),λw q h=>Ah w q h⟩,
      ⟨34,0,3,(.ref 5),λw q h=>Ah w q h⟩,
      ⟨34,0,5,(.ref 9),λw q h=>Ah w q h⟩,
      ⟨34,0,7,(.ref 11),λw q h=>Ah w q h⟩,
      ⟨34,0,6,(.ref 10),λw q h=>Ah w q h⟩],
     allocs:=[⟨34,2,_,AU,AT⟩],
     boxes:=[⟨34,(.ref 0),0,λw v h=>AW w v h⟩,
      ⟨34,(.ref 1),1,λw v h=>AW w v h⟩],
     stores:=[⟨34,0,0,(.ref 0),0,(AM _ _)⟩,
      ⟨34,0,1,(.ref 1),1,(AM _ _)⟩,
      ⟨34,0,2,(.ref 5),3,(Ag _)⟩,
      ⟨34,0,2,(.ref 6),4,(Ag _)⟩,
      ⟨34,0,3,(.ref 9),5,(AM _ _)⟩,
      ⟨34,0,4,(.ref 10),6,(AM _ _)⟩,
      ⟨34,0,5,(.ref 11),7,(AM _ _)⟩,
      ⟨34,0,2,(.ref 11),7,(Ag _)⟩,
      ⟨34,0,2,(.ref 10),6,(Ag _)⟩],
     flds:=[⟨34,1,1,GE⟩,
      ⟨34,0,0,O5⟩] }
   Tryz.func112 ⟨hva,hvb,trivial⟩ (by kernel_rfl)
theorem Ag8{x y:Int}{i j:Nat}(va:Value)(vb:Value)(W:World)(hva:(Af x).p va W)(hvb:(Af y).p vb W)(sx:Sm x i)(sy:Sm y j)(hi:i≤400000000)(hj:j≤400000000)(ny:y≠0)(_nx:x<0)(hr:0<((x.natAbs % y.natAbs:Nat):Int))(_hs:y<0):Calls Tryz.prog 112 #[va,vb] W (Aj (DS (Af (((x.natAbs / y.natAbs:Nat):Int)+1)) (Af (((y.natAbs:Nat):Int) - ((x.natAbs % y.natAbs:Nat):Int))) (Am (.int .i64 0))) W):=by
  let E:List PF:=[(Af x),(Af y),(Aw x.natAbs),(Aw y.natAbs),(Am (.int .i64 (Int.sign y))),(Af ((x.natAbs / y.natAbs:Nat):Int)),(Af ((x.natAbs % y.natAbs:Nat):Int)),(Am (.int .i64 (Int.sign ((x.natAbs % y.natAbs:Nat):Int)))),(Af 1),(Af (((x.natAbs / y.natAbs:Nat):Int)+1)),(Af ((y.natAbs:Nat):Int)),(Af (((y.natAbs:Nat):Int) - ((x.natAbs % y.natAbs:Nat):Int)))]
  let EB:List CF:=[(Ak x),(Ak y),AS,(Ak ((x.natAbs / y.natAbs:Nat):Int)),(Ak ((x.natAbs % y.natAbs:Nat):Int)),(Ak (((x.natAbs / y.natAbs:Nat):Int)+1)),(Ak (((y.natAbs:Nat):Int) - ((x.natAbs % y.natAbs:Nat):Int)))]
  exact Av (E:=E) (EB:=EB) (fs:=[(.ref 0),(.ref 1)]) (r:=(.tup3 (.ref 9) (.ref 11) (.int .i64 0)))
   { pures:=[p2 (.bin .eql 3 3) (.ref 4) (.int .i64 0) (.bool false) λ_ _ _ _ _ hx hy=>Cm (r:=false) (by simp [Int.sign_eq_zero_iff_zero,ny]) hx hy,
      p2 (.bin .gtr 3 3) (.ref 7) (.int .i64 0) (.bool true) λ_ _ _ _ _ hx hy=>Ff (r:=true) (by rw [Int.sign_eq_one_of_pos hr]; decide) hx hy],
     calls:=[c2 89 (.ref 2) (.bool true) (.ref 0) λw v0 v1 hb h0 h1=>Da (z:=x) (by simp; omega) h0 h1 (Nat.le_trans (AO sx) (by omega)),
      c2 89 (.ref 3) (.bool true) (.ref 1) λw v0 v1 hb h0 h1=>Da (z:=y) (by simp; omega) h0 h1 (Nat.le_trans (AO sy) (by omega)),
      c1 63 (.ref 1) (.ref 4) λw v0 hb h0=>C1 h0 sy (by first | decide | assumption | omega),
      c2 120 (.ref 2) (.ref 3) (.tup2 (.ref 5) (.ref 6)) λw v0 v1 hb h0 h1=>FX h0 h1 sx.abs sy.abs hi hj (by omega),
      c1 63 (.ref 6) (.ref 7) λw v0 hb h0=>C1 h0 (Fg sx.abs (Nat.mod_le _ _)) (by first | decide | assumption | omega),
      c1 58 (.int .i64 1) (.ref 8) λw v0 hb h0=>bF 1 (by omega) (by omega) h0,
      c2 81 (.ref 5) (.ref 8) (.ref 9) λw v0 v1 hb h0 h1=>X4 h0 h1 (Fg sx.abs (Nat.div_le_self _ _)) (Sm.of 1 (by decide)) (by first | decide | assumption | omega) (by first | decide | assumption | omega),
      c2 89 (.ref 3) (.bool false) (.ref 10) λw v0 v1 hb h0 h1=>Lv h0 h1 (Nat.le_trans (AO sy) (by omega)),
      c2 121 (.ref 10) (.ref 6) (.ref 11) λw v0 v1 hb h0 h1=>gT h0 h1 sy.abs (Fg sx.abs (Nat.mod_le _ _)) (by first | decide | assumption | omega) (by first | decide | assumption | omega)],
     loads:=[⟨32,1,0,(.ref 2),λw q h=>Br w q h⟩,
      ⟨4,0,0,(.bool true),λw q h=>B6 (by simp; omega) w q h⟩,
      ⟨32,1,1,(.ref 3),λw q h=>Br w q h⟩,
      ⟨4,0,1,(.bool true),λw q h=>B6 (by simp; omega) w q h⟩,
      ⟨34,0,1,(.ref 1),λw q h=>Ah w q h⟩,
      ⟨34,0,4,(.ref 6),λw q h=>Ah w q h⟩,
      ⟨34,0,3,(.ref 5),λw q h=>Ah w q h⟩,
      ⟨34,0,5,(.ref 9),λw q h=>Ah w q h⟩,
      ⟨34,0,6,(.ref 11),λw q h=>Ah w q h⟩],
     allocs:=[⟨34,2,_,AU,AT⟩],
     boxes:=[⟨34,(.ref 0),0,λw v h=>AW w v h⟩,
      ⟨34,(.ref 1),1,λw v h=>AW w v h⟩],
     stores:=[⟨34,0,0,(.ref 0),0,(AM _ _)⟩,
      ⟨34,0,1,(.ref 1),1,(AM _ _)⟩,
      ⟨34,0,2,(.ref 5),3,(Ag _)⟩,
      ⟨34,0,2,(.ref 6),4,(Ag _)⟩,
      ⟨34,0,3,(.ref 9),5,(AM _ _)⟩,
      ⟨34,0,4,(.ref 11),6,(AM _ _)⟩,
      ⟨34,0,2,(.ref 9),5,(Ag _)⟩,
      ⟨34,0,2,(.ref 11),6,(Ag _)⟩],
     flds:=[⟨34,1,1,GE⟩,
      ⟨34,0,0,O5⟩] }
   Tryz.func112 ⟨hva,hvb,trivial⟩ (by kernel_rfl)
theorem Ai4{x y:Int}{i j:Nat}(va:Value)(vb:Value)(W:World)(hva:(Af x).p va W)(hvb:(Af y).p vb W)(sx:Sm x i)(sy:Sm y j)(hi:i≤400000000)(hj:j≤400000000)(ny:y≠0)(_nx:x<0)(hr:((x.natAbs % y.natAbs:Nat):Int)=0)(_hs:0<y):Calls Tryz.prog 112 #[va,vb] W (Aj (DS (Af (-((x.natAbs / y.natAbs:Nat):Int))) (Af ((x.natAbs % y.natAbs:Nat):Int)) (Am (.int .i64 0))) W):=by
  let E:List PF:=[(Af x),(Af y),(Aw x.natAbs),(Aw y.natAbs),(Am (.int .i64 (Int.sign y))),(Af ((x.natAbs / y.natAbs:Nat):Int)),(Af ((x.natAbs % y.natAbs:Nat):Int)),(Am (.int .i64 (Int.sign ((x.natAbs % y.natAbs:Nat):Int)))),(Af (-((x.natAbs / y.natAbs:Nat):Int)))]
  let EB:List CF:=[(Ak x),(Ak y),AS,(Ak ((x.natAbs / y.natAbs:Nat):Int)),(Ak ((x.natAbs % y.natAbs:Nat):Int)),(Ak (-((x.natAbs / y.natAbs:Nat):Int)))]
  exact Av (E:=E) (EB:=EB) (fs:=[(.ref 0),(.ref 1)]) (r:=(.tup3 (.ref 8) (.ref 6) (.int .i64 0)))
   { pures:=[p2 (.bin .eql 3 3) (.ref 4) (.int .i64 0) (.bool false) λ_ _ _ _ _ hx hy=>Cm (r:=false) (by simp [Int.sign_eq_zero_iff_zero,ny]) hx hy,
      p2 (.bin .gtr 3 3) (.ref 7) (.int .i64 0) (.bool false) λ_ _ _ _ _ hx hy=>Ff (r:=false) (by rw [hr]; decide) hx hy],
     calls:=[c2 89 (.ref 2) (.bool true) (.ref 0) λw v0 v1 hb h0 h1=>Da (z:=x) (by simp; omega) h0 h1 (Nat.le_trans (AO sx) (by omega)),
      c2 89 (.ref 3) (.bool false) (.ref 1) λw v0 v1 hb h0 h1=>Da (z:=y) (by simp; omega) h0 h1 (Nat.le_trans (AO sy) (by omega)),
      c1 63 (.ref 1) (.ref 4) λw v0 hb h0=>C1 h0 sy (by first | decide | assumption | omega),
      c2 120 (.ref 2) (.ref 3) (.tup2 (.ref 5) (.ref 6)) λw v0 v1 hb h0 h1=>FX h0 h1 sx.abs sy.abs hi hj (by omega),
      c1 63 (.ref 6) (.ref 7) λw v0 hb h0=>C1 h0 (Fg sx.abs (Nat.mod_le _ _)) (by first | decide | assumption | omega),
      c1 60 (.ref 5) (.ref 8) λw v0 hb h0=>OZ h0 (Fg sx.abs (Nat.div_le_self _ _)) (by first | decide | assumption | omega)],
     loads:=[⟨32,1,0,(.ref 2),λw q h=>Br w q h⟩,
      ⟨4,0,0,(.bool true),λw q h=>B6 (by simp; omega) w q h⟩,
      ⟨32,1,1,(.ref 3),λw q h=>Br w q h⟩,
      ⟨4,0,1,(.bool false),λw q h=>B6 (by simp; omega) w q h⟩,
      ⟨34,0,1,(.ref 1),λw q h=>Ah w q h⟩,
      ⟨34,0,4,(.ref 6),λw q h=>Ah w q h⟩,
      ⟨34,0,3,(.ref 5),λw q h=>Ah w q h⟩,
      ⟨34,0,5,(.ref 8),λw q h=>Ah w q h⟩],
     allocs:=[⟨34,2,_,AU,AT⟩],
     boxes:=[⟨34,(.ref 0),0,λw v h=>AW w v h⟩,
      ⟨34,(.ref 1),1,λw v h=>AW w v h⟩],
     stores:=[⟨34,0,0,(.ref 0),0,(AM _ _)⟩,
      ⟨34,0,1,(.ref 1),1,(AM _ _)⟩,
      ⟨34,0,2,(.ref 5),3,(Ag _)⟩,
      ⟨34,0,2,(.ref 6),4,(Ag _)⟩,
      ⟨34,0,3,(.ref 8),5,(AM _ _)⟩,
      ⟨34,0,2,(.ref 8),5,(Ag _)⟩],
     flds:=[⟨34,1,1,GE⟩,
      ⟨34,0,0,O5⟩] }
   Tryz.func112 ⟨hva,hvb,trivial⟩ (by kernel_rfl)
theorem Ajd{x y:Int}{i j:Nat}(va:Value)(vb:Value)(W:World)(hva:(Af x).p va W)(hvb:(Af y).p vb W)(sx:Sm x i)(sy:Sm y j)(hi:i≤400000000)(hj:j≤400000000)(ny:y≠0)(_nx:x<0)(hr:((x.natAbs % y.natAbs:Nat):Int)=0)(_hs:y<0):Calls Tryz.prog 112 #[va,vb] W (Aj (DS (Af ((x.natAbs / y.natAbs:Nat):Int)) (Af ((x.natAbs % y.natAbs:Nat):Int)) (Am (.int .i64 0))) W):=by
  let E:List PF:=[(Af x),(Af y),(Aw x.natAbs),(Aw y.natAbs),(Am (.int .i64 (Int.sign y))),(Af ((x.natAbs / y.natAbs:Nat):Int)),(Af ((x.natAbs % y.natAbs:Nat):Int)),(Am (.int .i64 (Int.sign ((x.natAbs % y.natAbs:Nat):Int))))]
  let EB:List CF:=[(Ak x),(Ak y),AS,(Ak ((x.natAbs / y.natAbs:Nat):Int)),(Ak ((x.natAbs % y.natAbs:Nat):Int))]
  exact Av (E:=E) (EB:=EB) (fs:=[(.ref 0),(.ref 1)]) (r:=(.tup3 (.ref 5) (.ref 6) (.int .i64 0)))
   { pures:=[p2 (.bin .eql 3 3) (.ref 4) (.int .i64 0) (.bool false) λ_ _ _ _ _ hx hy=>Cm (r:=false) (by simp [Int.sign_eq_zero_iff_zero,ny]) hx hy,
      p2 (.bin .gtr 3 3) (.ref 7) (.int .i64 0) (.bool false) λ_ _ _ _ _ hx hy=>Ff (r:=false) (by rw [hr]; decide) hx hy],
     calls:=[c2 89 (.ref 2) (.bool true) (.ref 0) λw v0 v1 hb h0 h1=>Da (z:=x) (by simp; omega) h0 h1 (Nat.le_trans (AO sx) (by omega)),
      c2 89 (.ref 3) (.bool true) (.ref 1) λw v0 v1 hb h0 h1=>Da (z:=y) (by simp; omega) h0 h1 (Nat.le_trans (AO sy) (by omega)),
      c1 63 (.ref 1) (.ref 4) λw v0 hb h0=>C1 h0 sy (by first | decide | assumption | omega),
      c2 120 (.ref 2) (.ref 3) (.tup2 (.ref 5) (.ref 6)) λw v0 v1 hb h0 h1=>FX h0 h1 sx.abs sy.abs hi hj (by omega),
      c1 63 (.ref 6) (.ref 7) λw v0 hb h0=>C1 h0 (Fg sx.abs (Nat.mod_le _ _)) (by first | decide | assumption | omega)],
     loads:=[⟨32,1,0,(.ref 2),λw q h=>Br w q h⟩,
      ⟨4,0,0,(.bool true),λw q h=>B6 (by simp; omega) w q h⟩,
      ⟨32,1,1,(.ref 3),λw q h=>Br w q h⟩,
      ⟨4,0,1,(.bool true),λw q h=>B6 (by simp; omega) w q h⟩,
      ⟨34,0,1,(.ref 1),λw q h=>Ah w q h⟩,
      ⟨34,0,4,(.ref 6),λw q h=>Ah w q h⟩,
      ⟨34,0,3,(.ref 5),λw q h=>Ah w q h⟩],
     allocs:=[⟨34,2,_,AU,AT⟩],
     boxes:=[⟨34,(.ref 0),0,λw v h=>AW w v h⟩,
      ⟨34,(.ref 1),1,λw v h=>AW w v h⟩],
     stores:=[⟨34,0,0,(.ref 0),0,(AM _ _)⟩,
      ⟨34,0,1,(.ref 1),1,(AM _ _)⟩,
      ⟨34,0,2,(.ref 5),3,(Ag _)⟩,
      ⟨34,0,2,(.ref 6),4,(Ag _)⟩],
     flds:=[⟨34,1,1,GE⟩,
      ⟨34,0,0,O5⟩] }
   Tryz.func112 ⟨hva,hvb,trivial⟩ (by kernel_rfl)
theorem Agv{x y:Int}{i j:Nat}(va:Value)(vb:Value)(W:World)(hva:(Af x).p va W)(hvb:(Af y).p vb W)(sx:Sm x i)(sy:Sm y j)(hi:i≤400000000)(hj:j≤400000000)(ny:y≠0)(_nx:0≤x)(_hs:0<y):Calls Tryz.prog 112 #[va,vb] W (Aj (DS (Af ((x.natAbs / y.natAbs:Nat):Int)) (Af ((x.natAbs % y.natAbs:Nat):Int)) (Am (.int .i64 0))) W):=by
  let E:List PF:=[(Af x),(Af y),(Aw x.natAbs),(Aw y.natAbs),(Am (.int .i64 (Int.sign y))),(Af ((x.natAbs / y.natAbs:Nat):Int)),(Af ((x.natAbs % y.natAbs:Nat):Int))]
  let EB:List CF:=[(Ak x),(Ak y),AS,(Ak ((x.natAbs / y.natAbs:Nat):Int)),(Ak ((x.natAbs % y.natAbs:Nat):Int))]
  exact Av (E:=E) (EB:=EB) (fs:=[(.ref 0),(.ref 1)]) (r:=(.tup3 (.ref 5) (.ref 6) (.int .i64 0)))
   { pures:=[p2 (.bin .eql 3 3) (.ref 4) (.int .i64 0) (.bool false) λ_ _ _ _ _ hx hy=>Cm (r:=false) (by simp [Int.sign_eq_zero_iff_zero,ny]) hx hy],
     calls:=[c2 89 (.ref 2) (.bool false) (.ref 0) λw v0 v1 hb h0 h1=>Da (z:=x) (by simp; omega) h0 h1 (Nat.le_trans (AO sx) (by omega)),
      c2 89 (.ref 3) (.bool false) (.ref 1) λw v0 v1 hb h0 h1=>Da (z:=y) (by simp; omega) h0 h1 (Nat.le_trans (AO sy) (by omega)),
      c1 63 (.ref 1) (.ref 4) λw v0 hb h0=>C1 h0 sy (by first | decide | assumption | omega),
      c2 120 (.ref 2) (.ref 3) (.tup2 (.ref 5) (.ref 6)) λw v0 v1 hb h0 h1=>FX h0 h1 sx.abs sy.abs hi hj (by omega)],
     loads:=[⟨32,1,0,(.ref 2),λw q h=>Br w q h⟩,
      ⟨4,0,0,(.bool false),λw q h=>B6 (by simp; omega) w q h⟩,
      ⟨32,1,1,(.ref 3),λw q h=>Br w q h⟩,
      ⟨4,0,1,(.bool false),λw q h=>B6 (by simp; omega) w q h⟩,
      ⟨34,0,1,(.ref 1),λw q h=>Ah w q h⟩,
      ⟨34,0,3,(.ref 5),λw q h=>Ah w q h⟩,
      ⟨34,0,4,(.ref 6),λw q h=>Ah w q h⟩],
     allocs:=[⟨34,2,_,AU,AT⟩],
     boxes:=[⟨34,(.ref 0),0,λw v h=>AW w v h⟩,
      ⟨34,(.ref 1),1,λw v h=>AW w v h⟩],
     stores:=[⟨34,0,0,(.ref 0),0,(AM _ _)⟩,
      ⟨34,0,1,(.ref 1),1,(AM _ _)⟩,
      ⟨34,0,2,(.ref 5),3,(Ag _)⟩,
      ⟨34,0,2,(.ref 6),4,(Ag _)⟩],
     flds:=[⟨34,1,1,GE⟩,
      ⟨34,0,0,O5⟩] }
   Tryz.func112 ⟨hva,hvb,trivial⟩ (by kernel_rfl)
theorem Aiv{x y:Int}{i j:Nat}(va:Value)(vb:Value)(W:World)(hva:(Af x).p va W)(hvb:(Af y).p vb W)(sx:Sm x i)(sy:Sm y j)(hi:i≤400000000)(hj:j≤400000000)(ny:y≠0)(_nx:0≤x)(_hs:y<0):Calls Tryz.prog 112 #[va,vb] W (Aj (DS (Af (-((x.natAbs / y.natAbs:Nat):Int))) (Af ((x.natAbs % y.natAbs:Nat):Int)) (Am (.int .i64 0))) W):=by
  let E:List PF:=[(Af x),(Af y),(Aw x.natAbs),(Aw y.natAbs),(Am (.int .i64 (Int.sign y))),(Af ((x.natAbs / y.natAbs:Nat):Int)),(Af ((x.natAbs % y.natAbs:Nat):Int)),(Af (-((x.natAbs / y.natAbs:Nat):Int)))]
  let EB:List CF:=[(Ak x),(Ak y),AS,(Ak ((x.natAbs / y.natAbs:Nat):Int)),(Ak ((x.natAbs % y.natAbs:Nat):Int)),(Ak (-((x.natAbs / y.natAbs:Nat):Int)))]
  exact Av (E:=E) (EB:=EB) (fs:=[(.ref 0),(.ref 1)]) (r:=(.tup3 (.ref 7) (.ref 6) (.int .i64 0)))
   { pures:=[p2 (.bin .eql 3 3) (.ref 4) (.int .i64 0) (.bool false) λ_ _ _ _ _ hx hy=>Cm (r:=false) (by simp [Int.sign_eq_zero_iff_zero,ny]) hx hy],
     calls:=[c2 89 (.ref 2) (.bool false) (.ref 0) λw v0 v1 hb h0 h1=>Da (z:=x) (by simp; omega) h0 h1 (Nat.le_trans (AO sx) (by omega)),
      c2 89 (.ref 3) (.bool true) (.ref 1) λw v0 v1 hb h0 h1=>Da (z:=y) (by simp; omega) h0 h1 (Nat.le_trans (AO sy) (by omega)),
      c1 63 (.ref 1) (.ref 4) λw v0 hb h0=>C1 h0 sy (by first | decide | assumption | omega),
      c2 120 (.ref 2) (.ref 3) (.tup2 (.ref 5) (.ref 6)) λw v0 v1 hb h0 h1=>FX h0 h1 sx.abs sy.abs hi hj (by omega),
      c1 60 (.ref 5) (.ref 7) λw v0 hb h0=>OZ h0 (Fg sx.abs (Nat.div_le_self _ _)) (by first | decide | assumption | omega)],
     loads:=[⟨32,1,0,(.ref 2),λw q h=>Br w q h⟩,
      ⟨4,0,0,(.bool false),λw q h=>B6 (by simp; omega) w q h⟩,
      ⟨32,1,1,(.ref 3),λw q h=>Br w q h⟩,
      ⟨4,0,1,(.bool true),λw q h=>B6 (by simp; omega) w q h⟩,
      ⟨34,0,1,(.ref 1),λw q h=>Ah w q h⟩,
      ⟨34,0,3,(.ref 5),λw q h=>Ah w q h⟩,
      ⟨34,0,5,(.ref 7),λw q h=>Ah w q h⟩,
      ⟨34,0,4,(.ref 6),λw q h=>Ah w q h⟩],
     allocs:=[⟨34,2,_,AU,AT⟩],
     boxes:=[⟨34,(.ref 0),0,λw v h=>AW w v h⟩,
      ⟨34,(.ref 1),1,λw v h=>AW w v h⟩],
     stores:=[⟨34,0,0,(.ref 0),0,(AM _ _)⟩,
      ⟨34,0,1,(.ref 1),1,(AM _ _)⟩,
      ⟨34,0,2,(.ref 5),3,(Ag _)⟩,
      ⟨34,0,2,(.ref 6),4,(Ag _)⟩,
      ⟨34,0,3,(.ref 7),5,(AM _ _)⟩,
      ⟨34,0,2,(.ref 7),5,(Ag _)⟩],
     flds:=[⟨34,1,1,GE⟩,
      ⟨34,0,0,O5⟩] }
   Tryz.func112 ⟨hva,hvb,trivial⟩ (by kernel_rfl)
theorem Tj(va vb:Value)(x y:Int)(i j:Nat)(W:World)(ha:Al W va x)(hb:Al W vb y)(sx:Sm x i)(sy:Sm y j)(hi:i≤400000000)(hj:j≤400000000)(ny:y≠0):Calls Tryz.prog 112 #[va,vb] W (Aj (DS (Af (x / y)) (Af (x % y)) (Am (.int .i64 0))) W):=by
 rcases Int.lt_or_le x 0 with nx | nx
 ·rcases (show (0:Int)<((x.natAbs % y.natAbs:Nat):Int) ∨ ((x.natAbs % y.natAbs:Nat):Int)=0 by omega) with hr | hr
  ·rcases (show 0<y ∨ y<0 by omega) with hs | hs
   ·have ax:(x.natAbs:Int)=(-x):=by omega
    have ay:(y.natAbs:Int)=y:=by omega
    obtain ⟨e1,e2⟩:(-(((x.natAbs / y.natAbs:Nat):Int)+1))=x / y∧(y - ((x.natAbs % y.natAbs:Nat):Int))=x % y:=by
     obtain ⟨Q,R,eQ,eR,k1,k2,k3⟩:=JV x y ny;rw [eQ,eR];rw [eR] at hr;rw [ax,ay] at k1;rw [ay] at k3;refine QD hs ?_ (by omega) (by omega);have m1:(-y)*Q = -(y*Q):=Int.neg_mul y Q;have m2:y*(-Q) = -(y*Q):=Int.mul_neg y Q;have m3:y*(Q+1)=y*Q+y:=by rw [Int.mul_add,Int.mul_one]
     have m4:y*(-(Q+1)) = -(y*Q) - y:=by rw [Int.mul_neg,m3]; omega
     omega
    have:=AiV va vb W ha hb sx sy hi hj ny nx hr hs;rw [e1,e2] at this;exact this
   ·have ax:(x.natAbs:Int)=(-x):=by omega
    have ay:(y.natAbs:Int)=(-y):=by omega
    obtain ⟨e1,e2⟩:(((x.natAbs / y.natAbs:Nat):Int)+1)=x / y∧(((y.natAbs:Nat):Int) - ((x.natAbs % y.natAbs:Nat):Int))=x % y:=by
     obtain ⟨Q,R,eQ,eR,k1,k2,k3⟩:=JV x y ny;rw [eQ,eR];rw [eR] at hr;rw [ax,ay] at k1;rw [ay] at k3;rw [ay];refine UM hs ?_ (by omega) (by omega);have m1:(-y)*Q = -(y*Q):=Int.neg_mul y Q;have m2:y*(-Q) = -(y*Q):=Int.mul_neg y Q;have m3:y*(Q+1)=y*Q+y:=by rw [Int.mul_add,Int.mul_one]
     have m4:y*(-(Q+1)) = -(y*Q) - y:=by rw [Int.mul_neg,m3]; omega
     omega
    have:=Ag8 va vb W ha hb sx sy hi hj ny nx hr hs;rw [e1,e2] at this;exact this
  ·rcases (show 0<y ∨ y<0 by omega) with hs | hs
   ·have ax:(x.natAbs:Int)=(-x):=by omega
    have ay:(y.natAbs:Int)=y:=by omega
    obtain ⟨e1,e2⟩:(-((x.natAbs / y.natAbs:Nat):Int))=x / y∧((x.natAbs % y.natAbs:Nat):Int)=x % y:=by
     obtain ⟨Q,R,eQ,eR,k1,k2,k3⟩:=JV x y ny;rw [eQ,eR];rw [eR] at hr;rw [ax,ay] at k1;rw [ay] at k3;refine QD hs ?_ (by omega) (by omega);have m1:(-y)*Q = -(y*Q):=Int.neg_mul y Q;have m2:y*(-Q) = -(y*Q):=Int.mul_neg y Q;have m3:y*(Q+1)=y*Q+y:=by rw [Int.mul_add,Int.mul_one]
     have m4:y*(-(Q+1)) = -(y*Q) - y:=by rw [Int.mul_neg,m3]; omega
     omega
    have:=Ai4 va vb W ha hb sx sy hi hj ny nx hr hs;rw [e1,e2] at this;exact this
   ·have ax:(x.natAbs:Int)=(-x):=by omega
    have ay:(y.natAbs:Int)=(-y):=by omega
    obtain ⟨e1,e2⟩:((x.natAbs / y.natAbs:Nat):Int)=x / y∧((x.natAbs % y.natAbs:Nat):Int)=x % y:=by
     obtain ⟨Q,R,eQ,eR,k1,k2,k3⟩:=JV x y ny;rw [eQ,eR];rw [eR] at hr;rw [ax,ay] at k1;rw [ay] at k3;refine UM hs ?_ (by omega) (by omega);have m1:(-y)*Q = -(y*Q):=Int.neg_mul y Q;have m2:y*(-Q) = -(y*Q):=Int.mul_neg y Q;have m3:y*(Q+1)=y*Q+y:=by rw [Int.mul_add,Int.mul_one]
     have m4:y*(-(Q+1)) = -(y*Q) - y:=by rw [Int.mul_neg,m3]; omega
     omega
    have:=Ajd va vb W ha hb sx sy hi hj ny nx hr hs;rw [e1,e2] at this;exact this
 ·rcases (show 0<y ∨ y<0 by omega) with hs | hs
  ·have ax:(x.natAbs:Int)=x:=by omega
   have ay:(y.natAbs:Int)=y:=by omega
   obtain ⟨e1,e2⟩:((x.natAbs / y.natAbs:Nat):Int)=x / y∧((x.natAbs % y.natAbs:Nat):Int)=x % y:=by
    obtain ⟨Q,R,eQ,eR,k1,k2,k3⟩:=JV x y ny;rw [eQ,eR];rw [ax,ay] at k1;rw [ay] at k3;refine QD hs ?_ (by omega) (by omega);have m1:(-y)*Q = -(y*Q):=Int.neg_mul y Q;have m2:y*(-Q) = -(y*Q):=Int.mul_neg y Q;have m3:y*(Q+1)=y*Q+y:=by rw [Int.mul_add,Int.mul_one]
    have m4:y*(-(Q+1)) = -(y*Q) - y:=by rw [Int.mul_neg,m3]; omega
    omega
   have:=Agv va vb W ha hb sx sy hi hj ny nx hs;rw [e1,e2] at this;exact this
  ·have ax:(x.natAbs:Int)=x:=by omega
   have ay:(y.natAbs:Int)=(-y):=by omega
   obtain ⟨e1,e2⟩:(-((x.natAbs / y.natAbs:Nat):Int))=x / y∧((x.natAbs % y.natAbs:Nat):Int)=x % y:=by
    obtain ⟨Q,R,eQ,eR,k1,k2,k3⟩:=JV x y ny;rw [eQ,eR];rw [ax,ay] at k1;rw [ay] at k3;refine UM hs ?_ (by omega) (by omega);have m1:(-y)*Q = -(y*Q):=Int.neg_mul y Q;have m2:y*(-Q) = -(y*Q):=Int.mul_neg y Q;have m3:y*(Q+1)=y*Q+y:=by rw [Int.mul_add,Int.mul_one]
    have m4:y*(-(Q+1)) = -(y*Q) - y:=by rw [Int.mul_neg,m3]; omega
    omega
   have:=Aiv va vb W ha hb sx sy hi hj ny nx hs;rw [e1,e2] at this;exact this
theorem GF{x y:Int}{i j:Nat}{va vb:Value}{w:World}(ha:(Af x).p va w)(hb:(Af y).p vb w)(sx:Sm x i)(sy:Sm y j)(hi:i≤400000000)(hj:j≤400000000)(ny:y≠0) :
 Calls Tryz.prog 112 #[va,vb] w (Aj (DS (Af (x / y)) (Af (x % y)) (Am (.int .i64 0))) w):=Tj va vb x y i j w ha hb sx sy hi hj ny
theorem lL(c d:Int):Int.gcd d (c % d)=Int.gcd c d:=by
 rw [Int.gcd_comm c d,Int.emod_def,Int.mul_comm d,Int.gcd_sub_mul_right_right]
theorem emod_lt(c:Int){d:Int}(nd:d≠0):(c % d).natAbs<d.natAbs:=by
 have h1:=Int.emod_nonneg c nd;have h2:=Int.emod_lt c nd;omega
noncomputable def PM:=DH Tryz.f111
noncomputable def VP:=cl PM
noncomputable def L3:=cr PM
theorem Aef:PM = .seq VP L3:=by kernel_rfl
noncomputable def nA:=Ba VP
theorem Aea:VP = .region 0 nA false:=by kernel_rfl
noncomputable def Wk:=cl L3
noncomputable def MP:=cr L3
theorem Ac8:L3 = .seq Wk MP:=by kernel_rfl
noncomputable def P0:=cl Wk
theorem Agq:Wk = .block 0 P0:=by kernel_rfl
noncomputable def Mk:=cl P0
theorem Af4:P0 = .loop Mk:=by kernel_rfl
noncomputable def Pf:=cl Mk
noncomputable def QG:=cr Mk
theorem rX:Mk = .seq Pf QG:=by kernel_rfl
noncomputable def V7:=cl Pf
noncomputable def Ic:=cr Pf
theorem tH:Pf = .seq V7 Ic:=by kernel_rfl
noncomputable def WS:=Ba V7
theorem lG:V7 = .region 1 WS false:=by kernel_rfl
noncomputable def Pz:=cl Ic
noncomputable def PA:=cr Ic
theorem Yc:Ic = .cond (.tmp 10) Pz PA:=by kernel_rfl
theorem wB:Pz = .skip:=by kernel_rfl
theorem uU:PA = .exit 0:=by kernel_rfl
noncomputable def I9:=cl QG
theorem Ad9:QG = .block 1 I9:=by kernel_rfl
noncomputable def Rz:=cl I9
noncomputable def Lm:=cr I9
theorem Aaf:I9 = .seq Rz Lm:=by kernel_rfl
noncomputable def jZ:=Ba Rz
theorem xR:Rz = .region 2 jZ false:=by kernel_rfl
noncomputable def kC:=Ba Lm
theorem wA:Lm = .region 3 kC true:=by kernel_rfl
noncomputable def Rn:=cl MP
noncomputable def PT:=cr MP
theorem Aej:MP = .seq Rn PT:=by kernel_rfl
noncomputable def gZ:=Ba Rn
theorem zL:Rn = .region 4 gZ false:=by kernel_rfl
theorem yL:PT = .ret:=by kernel_rfl
section
set_option linter.unusedSectionVars false
variable {Wb : World} {x y : Int} {k : Nat} (sx : Sm x k) (sy : Sm y k) (hk : k ≤ 400000000)
include sx sy hk
theorem AcF:RA 23 [(Af x),(Af y)] [(Ak x),(Ak y),AS] ⟨[(0,(.ref 0)),(1,(.ref 1))],[]⟩ ⟨[(0,(.ref 0)),(1,(.ref 1))],[(2,0),(3,1),(4,2)]⟩ Wb 0 nA false:=RA.of
   { allocs:=[⟨34,2,_,AU,AT⟩],
     boxes:=[⟨34,(.ref 0),0,λw v h=>AW w v h⟩,
      ⟨34,(.ref 1),1,λw v h=>AW w v h⟩] } (by kernel_rfl)
theorem Ae9{c d:Int}(sc:Sm c k)(sd:Sm d k)(nd:d=0):RA 23 [(Af d),(Am (.int .i64 (Int.sign d))),(Af x),(Af y)] [(Ak d),(Ak c),AS] ⟨[(0,(.ref 2)),(1,(.ref 3))],[(2,1),(3,0),(4,2)]⟩ ⟨[(0,(.ref 2)),(1,(.ref 3)),(10,(.bool false))],[(2,1),(3,0),(4,2)]⟩ Wb 1 WS false:=RA.of
   { pures:=[p2 (.bin .neq 3 3) (.ref 1) (.int .i64 0) (.bool false) λ_ _ _ _ _ hx hy=>WD (r:=false) (by simp [Int.sign_eq_zero_iff_zero,nd]) hx hy],
     calls:=[c1 63 (.ref 0) (.ref 1) λw v0 hb h0=>C1 h0 sd (by first | decide | assumption | omega)],
     loads:=[⟨34,0,0,(.ref 0),λw q h=>Ah w q h⟩] } (by kernel_rfl)
theorem Af1{c d:Int}(sc:Sm c k)(sd:Sm d k):RA 23 [(Aw c.natAbs),(Af ((c.natAbs:Nat):Int)),(Af x),(Af y)] [(Ak c),AS,(Ak ((c.natAbs:Nat):Int)),(Ak d)] ⟨[(0,(.ref 2)),(1,(.ref 3)),(10,(.bool false))],[(2,0),(3,3),(4,1)]⟩ ⟨[(0,(.ref 2)),(1,(.ref 3)),(10,(.bool false))],[(2,0),(3,3),(4,2)]⟩ Wb 4 gZ false:=RA.of
   { calls:=[c2 89 (.ref 0) (.bool false) (.ref 1) λw v0 v1 hb h0 h1=>Lv h0 h1 (Nat.le_trans (AO sc) (by omega))],
     loads:=[⟨32,1,0,(.ref 0),λw q h=>Br w q h⟩],
     stores:=[⟨34,0,1,(.ref 1),2,(Ag _)⟩],
     flds:=[⟨34,1,1,GE⟩] } (by kernel_rfl)
theorem xZ{c d:Int}(sc:Sm c k)(sd:Sm d k)(nd:d≠0):RA 23 [(Af d),(Am (.int .i64 (Int.sign d))),(Af x),(Af y)] [(Ak d),(Ak c),AS] ⟨[(0,(.ref 2)),(1,(.ref 3))],[(2,1),(3,0),(4,2)]⟩ ⟨[(0,(.ref 2)),(1,(.ref 3)),(10,(.bool true))],[(2,1),(3,0),(4,2)]⟩ Wb 1 WS false:=RA.of
   { pures:=[p2 (.bin .neq 3 3) (.ref 1) (.int .i64 0) (.bool true) λ_ _ _ _ _ hx hy=>WD (r:=true) (by simp [Int.sign_eq_zero_iff_zero,nd]) hx hy],
     calls:=[c1 63 (.ref 0) (.ref 1) λw v0 hb h0=>C1 h0 sd (by first | decide | assumption | omega)],
     loads:=[⟨34,0,0,(.ref 0),λw q h=>Ah w q h⟩] } (by kernel_rfl)
theorem Ad8{c d:Int}(sc:Sm c k)(sd:Sm d k)(nd:d≠0):RA 23 [(Af c),(Af d),(Af (c / d)),(Af (c % d)),(Af x),(Af y)] [(Ak c),(Ak d),AS,(Ak (c / d)),(Ak (c % d))] ⟨[(0,(.ref 4)),(1,(.ref 5)),(10,(.bool true))],[(2,0),(3,1),(4,2)]⟩ ⟨[(0,(.ref 4)),(1,(.ref 5)),(10,(.bool true))],[(2,0),(3,1),(4,2),(5,3),(6,4)]⟩ Wb 2 jZ false:=RA.of
   { calls:=[c2 112 (.ref 0) (.ref 1) (.tup3 (.ref 2) (.ref 3) (.int .i64 0)) λw v0 v1 hb h0 h1=>GF h0 h1 sc sd (by first | decide | assumption | omega) (by first | decide | assumption | omega) nd],
     loads:=[⟨34,0,0,(.ref 0),λw q h=>Ah w q h⟩,
      ⟨34,0,1,(.ref 1),λw q h=>Ah w q h⟩],
     allocs:=[⟨34,2,_,AU,AT⟩],
     stores:=[⟨34,0,2,(.ref 2),3,(Ag _)⟩,
      ⟨34,0,2,(.ref 3),4,(Ag _)⟩] } (by kernel_rfl)
theorem Afr{c d:Int}(sc:Sm c k)(sd:Sm d k)(nd:d≠0):RA 23 [(Af d),(Af (c % d)),(Af x),(Af y)] [(Ak d),(Ak (c % d)),(Ak c),AS,(Ak (c / d))] ⟨[(0,(.ref 2)),(1,(.ref 3)),(10,(.bool true))],[(2,2),(3,0),(4,3),(5,4),(6,1)]⟩ ⟨[(0,(.ref 2)),(1,(.ref 3)),(10,(.bool true))],[(2,0),(3,1),(4,3),(5,4),(6,1)]⟩ Wb 3 kC true:=RA.of
   { loads:=[⟨34,0,0,(.ref 0),λw q h=>Ah w q h⟩,
      ⟨34,0,1,(.ref 1),λw q h=>Ah w q h⟩],
     stores:=[⟨34,0,2,(.ref 0),0,(AM _ _)⟩,
      ⟨34,0,0,(.ref 1),1,(AM _ _)⟩] } (by kernel_rfl)
end
theorem iK(va vb:Value)(x y:Int)(k:Nat)(W:World)(ha:Al W va x)(hb:Al W vb y)(sx:Sm x k)(sy:Sm y k)(hk:k≤400000000) :
  Calls Tryz.prog 111 #[va,vb] W (Aj (Af ((Int.gcd x y:Nat):Int)) W):=by
 refine Do (S:=[(0,(Af x)),(1,(Af y))]) Tryz.func111 (by kernel_rfl) Tryz.ntmps111 (by simp) (λx hx=>?_) λa w hst=>?_
 ·simp only [List.mem_cons,List.not_mem_nil,or_false] at hx
  rcases hx with rfl | rfl
  ·exact ⟨_,rfl,ha⟩
  ·exact ⟨_,rfl,hb⟩
 show Code.wp _ PM _ a w;rw [Aef];refine wp_seq ?_;rw [Aea];refine (AcF sx sy hk).run hst ?_;clear hst;intro a w hst;show Code.wp _ L3 _ a w;rw [Ac8];refine wp_seq ?_;rw [Agq];refine wp_block ?_;show Code.wp _ P0 _ a w;rw [Af4];refine CN (fun (p:Int × Int) a w=>St W 23 [(0,(Af x)),(1,(Af y))] [(2,(Ak p.1)),(3,(Ak p.2)),(4,AS)] a w∧Int.gcd p.1 p.2=Int.gcd x y∧Sm p.1 k∧Sm p.2 k) (λp=>p.2.natAbs) ?_ (x,y) ⟨hst,rfl,sx,sy⟩
 rintro ⟨c,d⟩ a w ⟨hst,hg,sc,sd⟩
 simp only [] at hst hg sc sd;show Code.wp _ Mk _ a w
 by_cases nd:d=0
 ·rw [rX]
  refine wp_seq ?_;rw [tH];refine wp_seq ?_;rw [lG];refine (Ae9 sx sy hk sc sd nd).run hst ?_;clear hst;intro a w hst;show Code.wp _ Ic _ a w;rw [Yc];refine wp_cond_false (A7 hst 2 rfl) ?_;show Code.wp _ PA _ a w;rw [uU];refine wp_exit ?_;have e:c.natAbs=Int.gcd x y:=by rw [← hg,nd,Int.gcd_zero_right]
  show Code.wp _ MP _ a w;rw [Aej];refine wp_seq ?_;rw [zL];refine (Af1 sx sy hk sc sd).run hst ?_;clear hst;intro a w hst;show Code.wp _ PT _ a w;rw [yL];refine wp_ret ?_;rw [e] at hst;exact iX hst rfl 2 rfl
 ·rw [rX]
  refine wp_seq ?_;rw [tH];refine wp_seq ?_;rw [lG];refine (xZ sx sy hk sc sd nd).run hst ?_;clear hst;intro a w hst;show Code.wp _ Ic _ a w;rw [Yc];refine wp_cond_true (A7 hst 2 rfl) ?_;show Code.wp _ Pz _ a w;rw [wB];refine wp_skip ?_;show Code.wp _ QG _ a w;rw [Ad9];refine wp_block ?_;show Code.wp _ I9 _ a w;rw [Aaf];refine wp_seq ?_;rw [xR];refine (Ad8 sx sy hk sc sd nd).run hst ?_;clear hst;intro a w hst;show Code.wp _ Lm _ a w;rw [wA];refine (Afr sx sy hk sc sd nd).run hst ?_;clear hst;intro a w hst;exact ⟨(d,c % d),⟨((hst.to (S':=[(0,(Af x)),(1,(Af y))]) ⟨hst.slots.get (k:=0) rfl,hst.slots.get (k:=1) rfl,trivial⟩).firstB 3),by show Int.gcd d (c % d)=_; rw [← hg]; exact lL c d,sd,sd.mod nd⟩,by show (c % d).natAbs<d.natAbs; exact emod_lt c nd⟩
end Go.Proofs.YtdopbgnkneeceaaGreat

/- The reference's extended Euclidean algorithm: sizes. -/
import Derived.Test.YtgaehhapjnbieaaGreatqZr
set_option linter.unusedSectionVars false
set_option linter.unusedVariables false
set_option linter.unusedSimpArgs false
set_option maxRecDepth 100000
namespace Go.Proofs.YtgaehhapjnbieaaGreat
open Go.RowKit
structure RSz (U:RU) (S1 S2 T1 T2:Nat):Prop where
 a:∃ D,CD D S1 (cf U.a)
 b:∃ D,CD D S2 (cf U.b)
 s:∃ D,CD D T1 (cf U.s)
 t:∃ D,CD D T1 (cf U.t)
 u:∃ D,CD D T2 (cf U.u)
 v:∃ D,CD D T2 (cf U.v)
 l:U.b.length≤U.a.length
 la:U.a.length≤5
 ls:U.s.length+U.a.length≤6
 lt:U.t.length+U.a.length≤6
 lu:U.u.length+U.a.length≤6
 lv:U.v.length+U.a.length≤6
 s5:U.s.length≤5
 t5:U.t.length≤5
structure AeZ (U:RU) (s u:List Rat):Prop where
 ls:s.length≤5
 lu:u.length≤5
 ss:∀ y∈s,At y 4000000
 su:∀ y∈u,At y 4000000
 lm:(mulL U.Q u).length≤5
 sm:∀ y∈mulL U.Q u,At y 3999999
structure dX (U:RU):Prop where
 tr:U.Tr
 b0:U.b≠[]
 la:U.a.length≤5
 lb:U.b.length≤5
 ca:∃ D,CD D 20000 (cf U.a)
 cb:∃ D,CD D 20000 (cf U.b)
 lq:U.Q.length≤5
 sq:∀ y∈U.Q,At y 4000000
 s:AeZ U U.s U.u
 t:AeZ U U.t U.v
structure PR (U:RU):Prop where
 tr:U.Tr
 la:U.a.length≤5
 ca:∃ D,CD D 20000 (cf U.a)
 ls:U.s.length≤5
 lt:U.t.length≤5
 ss:∀ y∈U.s,At y 4000000
 st:∀ y∈U.t,At y 4000000
theorem dX.swap{U:RU}(h:dX U):dX U.swap:=⟨⟨h.tr.a,h.tr.b,h.tr.t,h.tr.s,h.tr.v,h.tr.u⟩,h.b0,h.la,h.lb,h.ca,h.cb,h.lq,h.sq,⟨h.t.ls,h.t.lu,h.t.ss,h.t.su,h.t.lm,h.t.sm⟩,⟨h.s.ls,h.s.lu,h.s.ss,h.s.su,h.s.lm,h.s.sm⟩⟩
theorem PR.swap{U:RU}(h:PR U):PR U.swap:=⟨⟨h.tr.a,h.tr.b,h.tr.t,h.tr.s,h.tr.v,h.tr.u⟩,h.la,h.ca,h.lt,h.ls,h.st,h.ss⟩
def rN(d S1 S2:Nat):Nat:=S1+(d+1)*(S2+1)
def rQ(d S1 S2:Nat):Nat:=S1+(d+2)*(S2+1)
def rT(d S1 S2 T1 T2:Nat):Nat:=T1+(rQ d S1 S2+T2+10)+1
section
variable {U : RU} {S1 S2 T1 T2 : Nat}
theorem fR{s u:List Rat}(z:RSz U S1 S2 T1 T2)(tr:U.Tr)(b0:U.b≠[])(h1:1≤S1)(hS:S1≤20000)(hS2:S2≤20000)(h3:1≤T1)(h4:1≤T2)(hT:T1≤20000)(hT2:T2≤20000)(cs:∃ D,CD D T1 (cf s))(cu:∃ D,CD D T2 (cf u))(ls:s.length+U.a.length≤6)(lu:u.length+U.a.length≤6) :
  AeZ U s u∧(∃ D,CD D (rT (U.a.length - U.b.length) S1 S2 T1 T2) (cf (CO s (mulL U.Q u))))∧(CO s (mulL U.Q u)).length+U.b.length≤6:=by
 obtain ⟨Da,ca⟩:=z.a;obtain ⟨Db,cb⟩:=z.b;obtain ⟨Ds,cs⟩:=cs;obtain ⟨Du,cu⟩:=cu;have l:=z.l;have la:=z.la;have hp:=List.length_pos_iff.2 b0;have ql:=Vq l;have hn:BM U.a U.b=U.a.length - U.b.length+1:=by
  show U.a.length+1 - U.b.length=_;omega
 obtain ⟨Dq,cq⟩:=ca.dvQ cb tr.b b0 h1;rw [hn] at cq;have cq:CD Dq (rQ (U.a.length - U.b.length) S1 S2) (cf U.Q):=cq;have q5:U.Q.length+U.b.length≤U.a.length+1:=ql;have cm:=cq.mulL cu (n:=10) (by omega);have lm:(mulL U.Q u).length+U.b.length≤6:=by
  by_cases e1:U.Q=[]
  ·rw [e1,CI]
   show 0+_≤_;omega
  ·by_cases e2:u=[]
   ·rw [e2,Cs]
    show 0+_≤_;omega
   ·have hq:=List.length_pos_iff.2 e1
    rw [Dk e1 e2];omega
 have lsub:(CO s (mulL U.Q u)).length≤max s.length (mulL U.Q u).length:=by
  have:=By ((List.range (max s.length (mulL U.Q u).length)).map λi=>s.getD i 0 - (mulL U.Q u).getD i 0);rw [List.length_map,List.length_range] at this;exact this
 have hb:rQ (U.a.length - U.b.length) S1 S2≤20000+6*20001:=by
  unfold rQ;have:(U.a.length - U.b.length+2)*(S2+1)≤6*20001:=Nat.mul_le_mul (by omega) (by omega);omega
 refine ⟨⟨by omega,by omega,λy hy=>(cs.rsmL h3 y hy).mono (by omega),λy hy=>(cu.rsmL h4 y hy).mono (by omega),by omega,λy hy=>(cm.rsmL (by omega) y hy).mono (by omega)⟩,⟨_,cs.subL cm⟩,by omega⟩
theorem Wr(z:RSz U S1 S2 T1 T2)(tr:U.Tr)(b0:U.b≠[])(h1:1≤S1)(h2:1≤S2)(hS:S1≤20000)(hS2:S2≤20000)(h3:1≤T1)(h4:1≤T2)(hT:T1≤20000)(hT2:T2≤20000) :
  dX U∧RSz U.next S2 (rN (U.a.length - U.b.length) S1 S2) T2 (rT (U.a.length - U.b.length) S1 S2 T1 T2):=by
 obtain ⟨rs,cs,ls⟩:=fR z tr b0 h1 hS hS2 h3 h4 hT hT2 z.s z.u z.ls z.lu;obtain ⟨rt,ct,lt⟩:=fR z tr b0 h1 hS hS2 h3 h4 hT hT2 z.t z.v z.lt z.lv;obtain ⟨Da,ca⟩:=z.a;obtain ⟨Db,cb⟩:=z.b;have l:=z.l;have la:=z.la;have hp:=List.length_pos_iff.2 b0;have lu:=z.lu;have lv:=z.lv;have ql:U.Q.length+U.b.length≤U.a.length+1:=Vq l;have hn:BM U.a U.b=U.a.length - U.b.length+1:=by
  show U.a.length+1 - U.b.length=_;omega
 obtain ⟨Dq,cq⟩:=ca.dvQ cb tr.b b0 h1;obtain ⟨Dr,cr⟩:=ca.dvR cb tr.b b0;rw [hn] at cq cr;have hb:S1+(U.a.length - U.b.length+1+1)*(S2+1)≤20000+6*20001:=by
  have:(U.a.length - U.b.length+1+1)*(S2+1)≤6*20001:=Nat.mul_le_mul (by omega) (by omega);omega
 have lr:(dvR U.a U.b).length<U.b.length:=(IS tr.a tr.b b0).lr;refine ⟨⟨tr,b0,la,by omega,⟨Da,ca.mono hS⟩,⟨Db,cb.mono hS2⟩,by omega,λy hy=>(cq.rsmL (by omega) y hy).mono (by omega),rs,rt⟩,⟨Db,cb⟩,⟨Dr,cr⟩,z.u,z.v,cs,ct,?_,?_,?_,?_,ls,lt,?_,?_⟩
 ·exact Nat.le_of_lt lr
 ·show U.b.length≤5
  omega
 ·show U.u.length+U.b.length≤6
  omega
 ·show U.v.length+U.b.length≤6
  omega
 ·show U.u.length≤5
  omega
 ·show U.v.length≤5
  omega
def nT:Nat→Nat→Nat→Nat→Nat→Nat→Nat→Bool
 | 0,_,_,_,_,_,_=>false
 | n+1,la,lb,S1,S2,T1,T2=>Nat.ble 1 S1 && Nat.ble 1 S2 && Nat.ble 1 T1 && Nat.ble 1 T2 && Nat.ble S1 20000 && Nat.ble S2 20000 && Nat.ble T1 20000 && Nat.ble T2 20000 && (match lb with
  | 0=>true
  | lb+1=>(List.range (lb+1)).all λl=>nT n (lb+1) l S2 (rN (la - (lb+1)) S1 S2) T2 (rT (la - (lb+1)) S1 S2 T1 T2))
theorem gK:∀(n:Nat){U:RU}{S1 S2 T1 T2:Nat},RSz U S1 S2 T1 T2→U.Tr→nT n U.a.length U.b.length S1 S2 T1 T2=true→∀ k,(∀ m,m<k→(U.it m).b≠[])→((U.it k).b≠[]→dX (U.it k))∧PR (U.it k)
 | 0,_,_,_,_,_,_,_,h,_,_=>by unfold nT at h; cases h
 | n+1,U,S1,S2,T1,T2,z,tr,h,k,hk=>by
  unfold nT at h;simp only [Bool.and_eq_true] at h;obtain ⟨⟨⟨⟨⟨⟨⟨⟨p1,p2⟩,p3⟩,p4⟩,p5⟩,p6⟩,p7⟩,p8⟩,h⟩:=h;have p1:=Nat.le_of_ble_eq_true p1;have p2:=Nat.le_of_ble_eq_true p2;have p3:=Nat.le_of_ble_eq_true p3;have p4:=Nat.le_of_ble_eq_true p4;have p5:=Nat.le_of_ble_eq_true p5;have p6:=Nat.le_of_ble_eq_true p6;have p7:=Nat.le_of_ble_eq_true p7;have p8:=Nat.le_of_ble_eq_true p8
  cases k with
  | zero =>
   refine ⟨λb0=>(Wr z tr b0 p1 p2 p5 p6 p3 p4 p7 p8).1,?_⟩;obtain ⟨D,ca⟩:=z.a;obtain ⟨D',cs⟩:=z.s;obtain ⟨D2,ct⟩:=z.t;exact ⟨tr,z.la,⟨D,ca.mono p5⟩,z.s5,z.t5,λy hy=>(cs.rsmL p3 y hy).mono (by omega),λy hy=>(ct.rsmL p3 y hy).mono (by omega)⟩
  | succ k =>
   have b0:U.b≠[]:=hk 0 (by omega);have st:=Wr z tr b0 p1 p2 p5 p6 p3 p4 p7 p8
   cases hl:U.b.length with
   | zero=>exact absurd (List.length_eq_zero_iff.1 hl) b0
   | succ lb =>
    rw [hl] at h;rw [Gb];have lr:U.next.b.length<U.b.length:=(IS tr.a tr.b b0).lr;have hc:=List.all_eq_true.1 h U.next.b.length (List.mem_range.2 (by omega));refine gK n st.2 (AhU tr b0) ?_ k λm hm=>by
     rw [← Gb];exact hk (m+1) (by omega)
    show nT n U.b.length U.next.b.length _ _ _ _=true;rw [hl];exact hc
theorem wS:((List.range 6).all λla=>(List.range (la+1)).all λlb=>nT 7 la lb 5 5 1 1)=true:=by kernel_rfl
structure Ig (a:List Rat):Prop where
 t:Ai a
 l:a.length≤5
 s:∀ y∈a,At y 1
theorem Ig.cd{a:List Rat}(h:Ig a):∃ D,CD D 5 (cf a):=cP (by decide) h.l h.s
theorem Ig.small{a:List Rat}(h:Ig a):Gw a:=Zn h.t h.l h.s
theorem AaE{a b:List Rat}(ha:Ig a)(hb:Ig b)(hl:b.length≤a.length):∀ k,(∀ m,m<k→((Di a b).it m).b≠[])→(((Di a b).it k).b≠[]→dX ((Di a b).it k))∧PR ((Di a b).it k):=by
 have la:=ha.l;have i1:[(1:Rat)].length≤5:=by decide
 refine gK 7 (S1:=5) (S2:=5) (T1:=1) (T2:=1) ⟨ha.cd,hb.cd,S_,F_,F_,S_,hl,ha.l,?_,?_,?_,?_,i1,Nat.zero_le _⟩ (So ha.t hb.t) (List.all_eq_true.1 (List.all_eq_true.1 wS a.length (List.mem_range.2 (by omega))) b.length (List.mem_range.2 (by omega)))
 ·show 1+a.length≤6
  omega
 ·show 0+a.length≤6
  omega
 ·show 0+a.length≤6
  omega
 ·show 1+a.length≤6
  omega
theorem Aiu{a b:List Rat}(ha:Ig a)(hb:Ig b)(hl:a.length<b.length):∀ k,(∀ m,m<k→((Di a b).it m).b≠[])→(((Di a b).it k).b≠[]→dX ((Di a b).it k))∧PR ((Di a b).it k):=λk hk=>by
 cases k with
 | zero =>
  obtain ⟨D,ca⟩:=ha.cd;obtain ⟨D',cb⟩:=hb.cd;have i1:[(1:Rat)].length≤5:=by decide
  have e1:(Di a b).Q=[]:=if_neg (by show ¬ b.length≤a.length; omega);have o1:∀ y∈[(1:Rat)],At y 4000000:=λy hy=>by
   rw [List.mem_singleton.1 hy];exact Gv.mono (by decide)
  have row:∀{s u:List Rat},s.length≤5→u.length≤5→(∀ y∈s,At y 4000000)→(∀ y∈u,At y 4000000)→AeZ (Di a b) s u:=λh1 h2 h3 h4=>⟨h1,h2,h3,h4,by rw [e1,CI]; exact Nat.zero_le _,λy hy=>by rw [e1,CI] at hy; cases hy⟩
  refine ⟨λb0=>⟨So ha.t hb.t,b0,ha.l,hb.l,⟨D,ca.mono (by decide)⟩,⟨D',cb.mono (by decide)⟩,?_,λy hy=>?_,row i1 (Nat.zero_le _) o1 (λy hy=>by cases hy),row (Nat.zero_le _) i1 (λy hy=>by cases hy) o1⟩,⟨So ha.t hb.t,ha.l,⟨D,ca.mono (by decide)⟩,i1,Nat.zero_le _,o1,λy hy=>by cases hy⟩⟩
  ·show (Di a b).Q.length≤5
   rw [e1];exact Nat.zero_le _
  ·have hy:y∈(Di a b).Q:=hy
   rw [e1] at hy
   cases hy
 | succ k =>
  have e:=rM hl;have e2:∀ n,(Di a b).it (n+1)=((Di b a).it n).swap:=λn=>by rw [Gb,e,Uy]
  rw [e2];have h:=AaE hb ha (by omega) k λm hm=>by
   have:=hk (m+1) (by omega);rw [e2] at this;exact this
  exact ⟨λb0=>(h.1 b0).swap,h.2.swap⟩
theorem fB{a b:List Rat}(ha:Ig a)(hb:Ig b):∀ k,(∀ m,m<k→((Di a b).it m).b≠[])→(((Di a b).it k).b≠[]→dX ((Di a b).it k))∧PR ((Di a b).it k):=by
 by_cases hl:b.length≤a.length
 ·exact AaE ha hb hl
 ·exact Aiu ha hb (by omega)
end
def RU.V(U:RU):VL:=⟨λk=>match k with | 1=>(U.a.length:Int) | 2=>(U.b.length:Int) | _=>0,
 λk=>match k with | 1=>U.a | 2=>U.b | 3=>U.s | 4=>U.t | 5=>U.u | 6=>U.v | 11=>U.Q | 12=>U.next.b | 13=>mulL U.Q U.u | 14=>U.next.u | 15=>mulL U.Q U.v | 16=>U.next.v | 20=>Dt U.a | 21=>AJ U.a (1 / Ik U.a) | 22=>AJ U.s (1 / Ik U.a) | 23=>AJ U.t (1 / Ik U.a) | _=>[],
 λk=>match k with | 1=>1 / Ik U.a | _=>0,λ_=>[]⟩
def Vl:List (AV × AV):=([Ag 1,Ag 2,Ag 3,Ag 4,Ag 5,Ag 6,Ag 11,Ag 13,Ag 15,aQ (.ap 30 (.v 1) (.i 1 (-1))) 4000000,aQ (.v 1) 5000000]).map λa=>(a,a)
noncomputable def xO:PE:=BE 14 Vl [Ag 1,Ag 2] (.tup [Ag 11,Ag 12,.val (.int .i64 0)])
noncomputable def Ahb(i k:Nat):PE:=BE 25 Vl [Ag 11,Ag i] (Ag k)
noncomputable def Ag2(i j k:Nat):PE:=BE 23 Vl [Ag i,Ag j] (Ag k)
noncomputable def vV(i k:Nat):PE:=BE 27 Vl [Ag i,aQ (.v 1) 5000000] (Ag k)
noncomputable def Aqe:List PE:=[xO,UN (Ahb 5 13) (Ahb 6 15),UN (Ag2 3 13 14) (Ag2 4 15 16)]
noncomputable def Age:List PE:=[BE 61 Vl [aQ (.ap 30 (.v 1) (.i 1 (-1))) 4000000] (aQ (.v 1) 5000000),UN (vV 1 21) (UN (vV 3 22) (vV 4 23))]
def Jr:Fa:=⟨[(0,2,-1)],[(.v 1,1,0),(.v 2,2,0)],[],[],[],[],[]⟩
def FD:Fa:=⟨[(2,0,0),(0,2,0)],[(.v 1,1,0),(.v 2,2,0)],[],[],[],[],[]⟩
def KM:Fa:=⟨[(0,1,-1)],[(.v 1,1,0)],[(.v 1,4000000)],[],[],[],[]⟩
def Lh:Fa:=⟨[(1,0,0),(0,1,0)],[(.v 1,1,0)],[],[],[],[],[]⟩
def Fz:Fa:=⟨[],[(.v 1,1,0),(.v 2,2,0)],[],[],[],[(.lit 1,0),(.lit 2,0)],[]⟩
noncomputable def nV:Func:=Tryz.f70
noncomputable def Aoc:=Bw nV
noncomputable def Aii:=AQ (BT Il [xO]) Am 100 100 (.run Aoc) [] (B5 nV.ntmps [Ag 1,Ag 2])
noncomputable def Agd:PE:=BE 70 Vl [Ag 1,Ag 2] (Ag 12)
noncomputable def AoT:PE:=BE 29 Vl [Ag 1] (Ag 20)
noncomputable def Xq:Func:=Tryz.f19
noncomputable def mH:=Bw Xq
noncomputable def Adw:=Xo mH []
noncomputable def Alu:List JX:=Xp mH []
noncomputable def ZZ:Fm:=LS Xq.ntmps [(0,Ag 1),(1,Ag 2)] [] 2000
noncomputable def fT:=AQ (BT Fz []) Am 300 300 (.run mH) [] (B5 Xq.ntmps [Ag 1,Ag 2])
noncomputable def iX:=AQ (BT Jr [Agd]) Am 300 300 (.run Adw) [] ZZ
noncomputable def Abs:=AQ (BT FD []) Am 300 300 (.run Adw) [] ZZ
noncomputable def pF:=AQ (BT Il [AoT]) Am 300 300 (.at_ (.ext 0)) Alu (Af Abs)
def Aco:Rd:=⟨[(Ag 1,Ag 1),(Ag 2,Ag 2)],[],[],[],[],2000⟩
def pZ:Rd:=⟨[(Ag 2,Ag 1),(Ag 12,Ag 2)],[],[],[],[],2000⟩
noncomputable def VE:Func:=Tryz.f16
noncomputable def oV:=Bw VE
noncomputable def Adj:=Xo oV []
noncomputable def Aen:List JX:=Xp oV []
noncomputable def ZM:Fm:=LS VE.ntmps [(0,Ag 1),(1,Ag 2),(7,Ag 3),(8,Ag 4),(9,Ag 5),(10,Ag 6)] [] 2000
noncomputable def dW:=AQ (BT Fz []) Am 300 300 (.run oV) [] (B5 VE.ntmps [Ag 1,Ag 2])
noncomputable def dB:=AQ (BT Jr Aqe) Am 300 300 (.run Adj) [] ZM
noncomputable def jW:=AQ (BT FD []) Am 300 300 (.run Adj) [] ZM
noncomputable def AbW:=AQ (BT KM Age) Am 300 300 (.at_ (.ext 0)) Aen (Af jW)
noncomputable def Aax:=AQ (BT Lh []) Am 300 300 (.at_ (.ext 0)) Aen (Af jW)
def AaK:Rd:=⟨[(Ag 1,Ag 1),(Ag 2,Ag 2),(Se,Ag 3),(aL (.lit 0),Ag 4),(aL (.lit 0),Ag 5),(Se,Ag 6)],[],[],[],[],2000⟩
def Aa3:Rd:=⟨[(Ag 2,Ag 1),(Ag 12,Ag 2),(Ag 5,Ag 3),(Ag 6,Ag 4),(Ag 14,Ag 5),(Ag 16,Ag 6)],[],[],[],[],2000⟩
theorem As9:Aii=some (.done .ret (Af Aii)):=by kernel_rfl
theorem AsP:Dz nV (Af Aii)=some (Ag 12):=by kernel_rfl
theorem Ati:nV.body=some Aoc:=by kernel_rfl
theorem AsO:Nat.ble 2 nV.ntmps=true:=by kernel_rfl
theorem Aq3:fT=some (.loop Adw Alu (Af fT)):=by kernel_rfl
theorem Amf:iX=some (.done .nor (Af iX)):=by kernel_rfl
theorem Ap2:Abs=some (.done (.ext 0) (Af Abs)):=by kernel_rfl
theorem Anq:pF=some (.done .ret (Af pF)):=by kernel_rfl
theorem Arf:Ew (Af pF) Xq.results.toList=some [Ag 20]:=by kernel_rfl
theorem Als:Fs Aco 16 (Af fT) ZZ=true:=by kernel_rfl
theorem AlU:Fs pZ 16 (Af iX) ZZ=true:=by kernel_rfl
theorem Aia:below 16 ZZ.H=below 16 (Af fT).H:=by kernel_rfl
theorem AkK:below 16 ZZ.H=below 16 (Af iX).H:=by kernel_rfl
theorem ArC:Xq.body=some mH:=by kernel_rfl
theorem Aq2:Nat.ble 2 Xq.ntmps=true:=by kernel_rfl
theorem AoJ:dW=some (.loop Adj Aen (Af dW)):=by kernel_rfl
theorem Apa:dB=some (.done .nor (Af dB)):=by kernel_rfl
theorem AmP:jW=some (.done (.ext 0) (Af jW)):=by kernel_rfl
theorem AmZ:AbW=some (.done .ret (Af AbW)):=by kernel_rfl
theorem ArJ:Aax=some (.done .ret (Af Aax)):=by kernel_rfl
theorem AqK:Ew (Af AbW) VE.results.toList=some [Ag 21,Ag 22,Ag 23]:=by kernel_rfl
theorem Arj:Ew (Af Aax) VE.results.toList=some [Ag 1,Ag 3,Ag 4]:=by kernel_rfl
theorem AkH:Fs AaK 16 (Af dW) ZM=true:=by kernel_rfl
theorem Ais:Fs Aa3 16 (Af dB) ZM=true:=by kernel_rfl
theorem AlP:below 16 ZM.H=below 16 (Af dW).H:=by kernel_rfl
theorem AlX:below 16 ZM.H=below 16 (Af dB).H:=by kernel_rfl
theorem AqI:VE.body=some oV:=by kernel_rfl
theorem ArH:Nat.ble 2 VE.ntmps=true:=by kernel_rfl
def pX(M:Nat→Prop)(w:World)(vs:List Value)(r:List Rat × List Rat × List Rat):Prop:=Calls Tryz.prog 16 vs.toArray w λen w'=>∃ v,en = .returned v∧(∃ u1 u2 u3,v = .tuple #[u1,u2,u3]∧(XP.rats r.1).p M w' [u1]∧(XP.rats r.2.1).p M w' [u2]∧(XP.rats r.2.2).p M w' [u3])∧Below w.heap.size w w'
section
variable {a b : List Rat} {U : RU} {V : VL} {P : List (AV × AV)} {e e' : CE} {r r' m : Nat}
theorem Ww(hP:∀ p∈P,Le V V p){q s:List Rat}{n:Int}(h:∀(M:Nat→Prop)(w:World)(va vb:Value),(∀ b,M b→b<w.heap.size)→(XP.rats (lD V e)).p M w [va]→(XP.rats (lD V e')).p M w [vb]→jA M w [va,vb] q s n)(hr:V.l r=q)(hr':V.l r'=s):@PE.ok (Ae V) (BE 14 P [aL e,aL e'] (.tup [aL (.v r),aL (.v r'),.val (.int .i64 n)])):=by
 refine AO (λ_ _=>by simp [go_sem]) rfl rfl hP λM w vs hm0 hv=>?_
 obtain ⟨va,_,rfl,h1,vb,_,rfl,h2,h3⟩:=hv;have h3:_=[]:=h3;subst h3;refine Calls.mono (h _ _ _ _ hm0 (AL h1) (AL h2)) λe w' ⟨v,q1,⟨u1,u2,q2,q3,q4⟩,q5⟩=>⟨v,q1,?_,q5⟩
 rw [q2];refine ⟨_,rfl,u1,_,rfl,Bb (e:=.v r) ?_,u2,_,rfl,Bb (e:=.v r') ?_,_,_,rfl,rfl,rfl⟩
 ·show (XP.rats (V.l r)).p M w' [u1]
  rw [hr];exact q3
 ·show (XP.rats (V.l r')).p M w' [u2]
  rw [hr'];exact q4
theorem JP(hP:∀ p∈P,Le V V p){q:CE}(sa:∀ y∈lD V e,At y 4000000)(la:(lD V e).length≤5)(hm:m≤40000000)(hr:V.l r=AJ (lD V e) (qD V q)):@PE.ok (Ae V) (BE 27 P [aL e,aQ q m] (Ag r)):=by
 refine AO (λ_ _=>by simp [go_sem]) rfl rfl hP λM w vs hm0 hv=>?_
 obtain ⟨va,_,rfl,h1,vb,_,rfl,h2,h3⟩:=hv;have h3:_=[]:=h3;subst h3;obtain ⟨a2,s2⟩:=BN h2;exact (Nz sa la (s2.mono hm) hm0 (AL h1) a2).rv hr
theorem YN(hP:∀ p∈P,Le V V p)(ta:Ai (lD V e))(sa:∀ y∈lD V e,At y 4000000)(la:(lD V e).length≤5)(hr:V.l r=Dt (lD V e)):@PE.ok (Ae V) (BE 29 P [aL e] (Ag r)):=by
 refine AO (λ_ _=>by simp [go_sem]) rfl rfl hP λM w vs hm0 hv=>?_
 obtain ⟨va,_,rfl,h1,h3⟩:=hv;have h3:_=[]:=h3;subst h3;exact (jM ta sa la hm0 (AL h1)).rv hr
theorem Iy:∀ p∈Vl,Le U.V U.V p:=Gf (by rfl)
theorem OD(la:U.a.length≤5)(lb:U.b.length≤5)(k:Nat) : -1152921504606846976≤U.V.z k∧U.V.z k≤1152921504606846976:=by
 show -1152921504606846976≤(match k with | 1=>(U.a.length:Int) | 2=>(U.b.length:Int) | _=>0)∧(match k with | 1=>(U.a.length:Int) | 2=>(U.b.length:Int) | _=>0)≤(1152921504606846976:Int);split <;> omega
theorem Ahr(h:dX U):@PE.ok (Ae U.V) xO:=Ww (e:=.v 1) (e':=.v 2) Iy (λ_ _ _ _ hm0 hva hvb=>Wi h.tr.a h.tr.b h.la h.b0 h.lb h.ca h.cb hm0 hva hvb) rfl rfl
theorem Ai5(h:dX U){M:Nat→Prop}{w:World}{va vb:Value}(hm0:∀ b,M b→b<w.heap.size)(hva:(XP.rats U.a).p M w [va])(hvb:(XP.rats U.b).p M w [vb]):Bv 70 M w [va,vb] U.next.b:=by
 have hv:@Cz (Ae U.V) B4 M w [Ag 1,Ag 2] [va,vb]:=⟨va,_,rfl,Bb (V:=U.V) (e:=.v 1) hva,vb,_,rfl,Bb (V:=U.V) (e:=.v 2) hvb,rfl⟩;refine Bv.of (V:=U.V) (e:=.v 12) (ρ:=B4) rfl (CP .ret (.inr rfl) (CS rfl (OD h.la h.lb)) (λe he=>?_) Tryz.func70 Ati (by rfl) rfl (show [Ag 1,Ag 2].length≤nV.ntmps from Nat.le_of_ble_eq_true AsO) As9 AsP hm0 hv);rw [List.mem_singleton] at he;subst he;exact Ahr h
theorem Aa5(h:dX U):@PE.ok (Ae U.V) Agd:=by
 refine AO (λ_ _=>by simp [go_sem]) rfl rfl Iy λM w vs hm0 hv=>?_
 obtain ⟨va,_,rfl,h1,vb,_,rfl,h2,h3⟩:=hv;have h3:_=[]:=h3;subst h3;exact (Ai5 h hm0 (AL h1) (AL h2)).rv rfl
theorem LH:∀ y∈[((.v 1:CE),1,(0:Int)),(.v 2,2,0)],((lD U.V y.1).length:Int)=U.V.z y.2.1+y.2.2:=by simp [RU.V,lD]
theorem ApU(ha:a.length≤5)(hb:b.length≤5){N:Nat}(H:∀ n,n<N→dX ((Di a b).it n))(HN:((Di a b).it N).b=[])(HE:PR ((Di a b).it N))
  {M:Nat→Prop} {w:World} {va vb:Value} (hm0:∀ b,M b→b<w.heap.size) (hva:(XP.rats a).p M w [va]) (hvb:(XP.rats b).p M w [vb]):Bv 19 M w [va,vb] (Dt ((Di a b).it N).a):=by
 let V (n:Nat):VL:=((Di a b).it n).V
 have hv:@Cz (Ae (V 0)) B4 M w [Ag 1,Ag 2] [va,vb]:=⟨va,_,rfl,Bb (V:=V 0) (e:=.v 1) hva,vb,_,rfl,Bb (V:=V 0) (e:=.v 2) hvb,rfl⟩;have sm:∀ k,-1152921504606846976≤(V 0).z k∧(V 0).z k≤1152921504606846976:=OD (U:=Di a b) ha hb;have hF:AP (V 0) Fz:=⟨rfl,sm,by simp [Fz],LH (U:=Di a b),by simp [Fz],by simp [Fz],by simp [Fz],by simp [Fz,rD],by simp [Fz]⟩;refine @B8 (Ae (V 0)) _ Xq mH [Ag 1,Ag 2] [Ag 1,Ag 2] (λv w'=>(XP.rats (Dt ((Di a b).it N).a)).p M w' [v]) B4 M w _ Tryz.func19 ArC (by rfl) (Nat.le_of_ble_eq_true Aq2) hm0 hv λa' hS=>?_
 show holds _ [] a' w (.run mH);refine AN hF (λ_ h=>by cases h) _ Aq3 hS λρ M' a' w' hS=>?_
 obtain ⟨ρ,M',hS⟩:=A7 (E':=Ae (V 0)) Aco (CU (λp hp=>by
  simp only [Aco,List.mem_cons,List.not_mem_nil,or_false] at hp
  rcases hp with rfl | rfl
  ·exact BR rfl
  ·exact BR rfl) rfl rfl rfl) hm0 Als Aia hS
 refine CH (λn=>N - n) V (λn=>n≤N) ZZ ?_ 0 (Nat.zero_le _) hS;intro n hn ρ M' a' w' hS;show holds _ [] a' w' (.run Adw)
 by_cases hnl:n<N
 ·have ok:=H n hnl
  have hp:=List.length_pos_iff.2 ok.b0;have F1:AP (V n) Jr:=⟨rfl,OD ok.la ok.lb,by simp [Jr,V,RU.V]; omega,LH,by simp [Jr],by simp [Jr],by simp [Jr],by simp [Jr],by simp [Jr]⟩;refine AN F1 (λe he=>by rw [List.mem_singleton] at he; subst he; exact Aa5 ok) _ Amf hS λρ M' a' w' hS=>?_
  obtain ⟨ρ,M',hS⟩:=A7 (E':=Ae (V (n+1))) pZ (CU (λp hp=>by
   simp only [pZ,List.mem_cons,List.not_mem_nil,or_false] at hp
   rcases hp with rfl | rfl
   ·exact BR rfl
   ·exact BR rfl) rfl rfl rfl) hm0 AlU AkK hS
  exact ⟨n+1,ρ,M',by omega,by omega,hS⟩
 ·have hne:n=N:=by omega
  subst hne;have lb:((Di a b).it n).b.length≤5:=by rw [HN]; exact Nat.zero_le _
  have sm:=OD HE.la lb;obtain ⟨D,ca⟩:=HE.ca;have FX:AP (V n) FD:=⟨rfl,sm,by simp [FD,V,RU.V,HN],LH,by simp [FD],by simp [FD],by simp [FD],by simp [FD],by simp [FD]⟩;refine AN FX (λ_ h=>by cases h) _ Ap2 hS λρ M' a' w' hS=>?_
  show holds _ Alu a' w' (.at_ (.ext 0));refine AN (CS rfl sm) (λe he=>?_) _ Anq hS λρ M' a' w' hS=>?_
  ·rw [List.mem_singleton] at he
   subst he;exact YN (e:=.v 1) Iy HE.tr.a (λy hy=>(ca.rsmL (by decide) y hy).mono (by decide)) HE.la rfl
  refine ⟨.inr rfl,Ae (V n),_,ρ,M',_,Ag 20,hS,Arf,rfl,λv hv=>?_⟩;obtain ⟨_,_,_,_,_,_,_,_,_,Fsup,_⟩:=hS;exact (XP.rats (Dt ((Di a b).it n).a)).st M' M w' w' [v] (Bz.refl w') (λ_ _ _=>rfl) (λb _ hb=>Fsup b hb) (AL (V:=V n) (e:=.v 20) (ρ:=ρ) hv)
theorem AqV(ha:a.length≤5)(hb:b.length≤5){N:Nat}(H:∀ n,n<N→dX ((Di a b).it n))(HN:((Di a b).it N).b=[])(HE:PR ((Di a b).it N))
  {M:Nat→Prop} {w:World} {va vb:Value} (hm0:∀ b,M b→b<w.heap.size) (hva:(XP.rats a).p M w [va]) (hvb:(XP.rats b).p M w [vb]):pX M w [va,vb] ((Di a b).it N).fin:=by
 let V (n:Nat):VL:=((Di a b).it n).V
 have hv:@Cz (Ae (V 0)) B4 M w [Ag 1,Ag 2] [va,vb]:=⟨va,_,rfl,Bb (V:=V 0) (e:=.v 1) hva,vb,_,rfl,Bb (V:=V 0) (e:=.v 2) hvb,rfl⟩;have sm:∀ k,-1152921504606846976≤(V 0).z k∧(V 0).z k≤1152921504606846976:=OD (U:=Di a b) ha hb;have hF:AP (V 0) Fz:=⟨rfl,sm,by simp [Fz],LH (U:=Di a b),by simp [Fz],by simp [Fz],by simp [Fz],by simp [Fz,rD],by simp [Fz]⟩;refine @B8 (Ae (V 0)) _ VE oV [Ag 1,Ag 2] [Ag 1,Ag 2] (λv w'=>∃ u1 u2 u3,v = .tuple #[u1,u2,u3]∧(XP.rats ((Di a b).it N).fin.1).p M w' [u1]∧(XP.rats ((Di a b).it N).fin.2.1).p M w' [u2]∧(XP.rats ((Di a b).it N).fin.2.2).p M w' [u3]) B4 M w _ Tryz.func16 AqI (by rfl) (Nat.le_of_ble_eq_true ArH) hm0 hv λa' hS=>?_
 show holds _ [] a' w (.run oV);refine AN hF (λ_ h=>by cases h) _ AoJ hS λρ M' a' w' hS=>?_
 obtain ⟨ρ,M',hS⟩:=A7 (E':=Ae (V 0)) AaK (CU (λp hp=>by
  simp only [AaK,List.mem_cons,List.not_mem_nil,or_false] at hp
  rcases hp with rfl | rfl | rfl | rfl | rfl | rfl
  ·exact BR rfl
  ·exact BR rfl
  ·exact BR (e':=.v 3) (by simp only [lD,qD]; rfl)
  ·exact BR (by simp only [lD]; rfl)
  ·exact BR (by simp only [lD]; rfl)
  ·exact BR (e':=.v 6) (by simp only [lD,qD]; rfl)) rfl rfl rfl) hm0 AkH AlP hS
 refine CH (λn=>N - n) V (λn=>n≤N) ZM ?_ 0 (Nat.zero_le _) hS;intro n hn ρ M' a' w' hS;show holds _ [] a' w' (.run Adj)
 by_cases hnl:n<N
 ·have ok:=H n hnl
  have hp:=List.length_pos_iff.2 ok.b0;have tq:Ai ((Di a b).it n).Q:=(IS ok.tr.a ok.tr.b ok.b0).tq;have F1:AP (V n) Jr:=⟨rfl,OD ok.la ok.lb,by simp [Jr,V,RU.V]; omega,LH,by simp [Jr],by simp [Jr],by simp [Jr],by simp [Jr],by simp [Jr]⟩;refine AN F1 (λe he=>?_) _ Apa hS λρ M' a' w' hS=>?_
  ·simp only [Aqe,List.mem_cons,List.not_mem_nil,or_false] at he
   rcases he with rfl | rfl | rfl
   ·exact Ahr ok
   ·exact C1 rfl (KF (e:=.v 11) (e':=.v 5) Iy tq ok.tr.u ok.sq ok.s.su ok.lq ok.s.lu rfl) (KF (e:=.v 11) (e':=.v 6) Iy tq ok.tr.v ok.sq ok.t.su ok.lq ok.t.lu rfl)
   ·exact C1 rfl (Pz (e:=.v 3) (e':=.v 13) Iy ok.tr.s (BI tq ok.tr.u) ok.s.ss ok.s.sm ok.s.ls ok.s.lm rfl) (Pz (e:=.v 4) (e':=.v 15) Iy ok.tr.t (BI tq ok.tr.v) ok.t.ss ok.t.sm ok.t.ls ok.t.lm rfl)
  obtain ⟨ρ,M',hS⟩:=A7 (E':=Ae (V (n+1))) Aa3 (CU (λp hp=>by
   simp only [Aa3,List.mem_cons,List.not_mem_nil,or_false] at hp
   rcases hp with rfl | rfl | rfl | rfl | rfl | rfl
   ·exact BR rfl
   ·exact BR rfl
   ·exact BR rfl
   ·exact BR rfl
   ·exact BR rfl
   ·exact BR rfl) rfl rfl rfl) hm0 Ais AlX hS
  exact ⟨n+1,ρ,M',by omega,by omega,hS⟩
 ·have hne:n=N:=by omega
  subst hne;have lb:((Di a b).it n).b.length≤5:=by rw [HN]; exact Nat.zero_le _
  have sm:=OD HE.la lb;obtain ⟨D,ca⟩:=HE.ca;have sa:∀ y∈((Di a b).it n).a,At y 4000000:=λy hy=>(ca.rsmL (by decide) y hy).mono (by decide)
  have FX:AP (V n) FD:=⟨rfl,sm,by simp [FD,V,RU.V,HN],LH,by simp [FD],by simp [FD],by simp [FD],by simp [FD],by simp [FD]⟩;refine AN FX (λ_ h=>by cases h) _ AmP hS λρ M' a' w' hS=>?_
  show holds _ Aen a' w' (.at_ (.ext 0))
  by_cases h1:((Di a b).it n).a=[]
  ·have FZ:AP (V n) Lh:=⟨rfl,sm,by simp [Lh,V,RU.V,h1],by simp [Lh,V,RU.V,lD],by simp [Lh],by simp [Lh],by simp [Lh],by simp [Lh],by simp [Lh]⟩
   refine AN FZ (λ_ h=>by cases h) _ ArJ hS λρ M' a' w' hS=>?_
   refine ⟨.inr rfl,Ae (V n),_,ρ,M',_,.tup [Ag 1,Ag 3,Ag 4],hS,Arj,rfl,λv hv=>?_⟩;obtain ⟨_,_,_,_,_,_,_,_,_,Fsup,_⟩:=hS;have:=IF (V:=V n) (M:=M) (λb _ hb=>Fsup b hb) hv;unfold RU.fin;rw [if_pos h1];exact this
  ·have hl:0<((Di a b).it n).a.length:=List.length_pos_iff.2 h1
   have n0:Ik ((Di a b).it n).a≠0:=HE.tr.a.resolve_left h1;have FY:AP (V n) KM:=⟨rfl,sm,by simp [KM,V,RU.V]; omega,by simp [KM,V,RU.V,lD],by
    intro z hz y hy;simp only [KM,List.mem_singleton] at hz;subst hz;exact sa y hy,by simp [KM],by simp [KM],by simp [KM],by simp [KM]⟩
   have hzz:(zD (V n) (.i 1 (-1))).toNat=((Di a b).it n).a.length - 1:=by
    show ((((Di a b).it n).a.length:Int) + -1).toNat=_;omega
   have hq:qD (V n) (.ap 30 (.v 1) (.i 1 (-1)))=Ik ((Di a b).it n).a:=by
    simp only [qD,lD,hzz];rfl
   refine AN FY (λe he=>?_) _ AmZ hS λρ M' a' w' hS=>?_
   ·simp only [Age,List.mem_cons,List.not_mem_nil,or_false] at he
    rcases he with rfl | rfl
    ·exact Ub Iy (by decide) (by rw [hq]; exact n0) (by rw [hq]; rfl)
    ·exact C1 rfl (JP (e:=.v 1) (q:=.v 1) Iy sa HE.la (by decide) rfl) (C1 rfl (JP (e:=.v 3) (q:=.v 1) Iy HE.ss HE.ls (by decide) rfl) (JP (e:=.v 4) (q:=.v 1) Iy HE.st HE.lt (by decide) rfl))
   refine ⟨.inr rfl,Ae (V n),_,ρ,M',_,.tup [Ag 21,Ag 22,Ag 23],hS,AqK,rfl,λv hv=>?_⟩;obtain ⟨_,_,_,_,_,_,_,_,_,Fsup,_⟩:=hS;have:=IF (V:=V n) (M:=M) (λb _ hb=>Fsup b hb) hv;unfold RU.fin;rw [if_neg h1];exact this
end
section
variable {a b : List Rat}
structure bG (a b:List Rat) (N:Nat):Prop where
 nz:∀ n,n<N→((Di a b).it n).b≠[]
 z:((Di a b).it N).b=[]
 g:IsG (Dt ((Di a b).it N).a) a b
 x:∀(M:Nat→Prop)(w:World)(va vb:Value),(∀ b,M b→b<w.heap.size)→(XP.rats a).p M w [va]→(XP.rats b).p M w [vb]→VW M w [va,vb] ((Di a b).it N).fin
theorem O_(U:RU):U.fin.1=Dt U.a:=by
 unfold RU.fin Dt;split
 ·rename_i e
  exact e
 ·rfl
theorem zA(U:RU):U.swap.fin=(U.fin.1,U.fin.2.2,U.fin.2.1):=by
 unfold RU.fin RU.swap;dsimp only;split <;> rfl
theorem dZ(ha:Ig a)(hb:Ig b)(hl:b.length≤a.length):∃ N,bG a b N:=by
 have sa:=ha.small;have sb:=hb.small;obtain ⟨N,h1,h2,h3,h4,_⟩:=LD (Alw sa sb hl);have na:=Ct sa.ct.a0;have nb:=Ct sb.ct.a0;obtain ⟨e1,e2⟩:=AdM ha.t hb.t na nb h2 h1;obtain ⟨_,h5,_⟩:=Yy ha.t hb.t na nb h2;refine ⟨N,h5,e1,?_,λM w va vb hm0 hva hvb=>?_⟩
 ·have:=(Aei sa.ct sb.ct h2 h1).1
  rw [e2,O_] at this;rw [this];exact Ad4 sa.ct sb.ct h2 h1
 ·rw [← e2]
  exact Ap3 hl sa.ct sb.ct h2 h3 h1 h4 hm0 hva hvb
theorem Abg(ha:Ig a)(hb:Ig b):∃ N,bG a b N:=by
 by_cases hl:b.length≤a.length
 ·exact dZ ha hb hl
 ·have hl:a.length<b.length:=by omega
  obtain ⟨N,h⟩:=dZ hb ha (by omega);have e:=rM hl;have e2:∀ n,(Di a b).it (n+1)=((Di b a).it n).swap:=λn=>by rw [Gb,e,Uy]
  refine ⟨N+1,λn hn=>?_,?_,?_,λM w va vb hm0 hva hvb=>?_⟩
  ·cases n with
   | zero =>
    intro e0;have e0:b=[]:=e0;rw [e0] at hl;exact absurd hl (Nat.not_lt_zero _)
   | succ n =>
    rw [e2];exact h.nz n (by omega)
  ·rw [e2]
   exact h.z
  ·rw [e2]
   exact h.g.comm
  ·rw [e2,zA]
   exact yD hl (by have:=hb.l; omega) hm0 hvb hva λM w va vb hm0 hva hvb=>h.x M w va vb hm0 hva hvb
theorem bG.ok{N:Nat}(h:bG a b N)(ha:Ig a)(hb:Ig b):(∀ n,n<N→dX ((Di a b).it n))∧PR ((Di a b).it N):=
 ⟨λn hn=>(fB ha hb n λm hm=>h.nz m (by omega)).1 (h.nz n hn),(fB ha hb N h.nz).2⟩
theorem Alv{U:RU}(h:PR U):(∀ y∈U.fin.1,At y 9000000)∧(∀ y∈U.fin.2.1,At y 9000000)∧(∀ y∈U.fin.2.2,At y 9000000)∧U.fin.1.length≤5∧U.fin.2.1.length≤5∧U.fin.2.2.length≤5:=by
 obtain ⟨D,ca⟩:=h.ca;have sa:∀ y∈U.a,At y 20000:=ca.rsmL (by decide);unfold RU.fin;split
 ·exact ⟨λy hy=>(sa y hy).mono (by decide),λy hy=>(h.ss y hy).mono (by decide),λy hy=>(h.st y hy).mono (by decide),h.la,h.ls,h.lt⟩
 ·rename_i e
  have sl:At (1 / Ik U.a) 20001:=(ca.rsm (by decide) (U.a.length - 1)).inv1.mono (by decide);have key:∀{l:List Rat}{B:Nat},(∀ y∈l,At y B)→B≤4000000→∀ y∈AJ l (1 / Ik U.a),At y 9000000:=fun {l B} hs hB=>C2 λk=>by
   rw [(AY l _).2];have h1:At (cf l k) (B+1):=by
    by_cases hk:k<l.length
    ·rw [C6 hk]
     exact (hs _ (List.getElem_mem hk)).mono (by omega)
    ·rw [A9 (by omega)]
     exact Ih.mono (by omega)
   exact (sl.mul h1).mono (by omega)
  have ln:∀ l:List Rat,(AJ l (1 / Ik U.a)).length≤l.length:=λl=>by
   have:=By (l.map λx=>1 / Ik U.a*x);rwa [List.length_map] at this
  exact ⟨key sa (by decide),key h.ss (by decide),key h.st (by decide),Nat.le_trans (ln _) h.la,Nat.le_trans (ln _) h.ls,Nat.le_trans (ln _) h.lt⟩
end
def Alg:AV→Option CE
 | .ext 4 true (.ap 52 q (.lit (.ofNat _)))=>some q
 | .rat r=>some (.ap 36 (.lit r.num) (.lit (r.den:Int)))
 | _=>none
theorem Abx{V:VL}{ρ:B6}{M:Nat→Prop}{w:World}{r:AV}{q:CE}{v:Value}(h:Alg r=some q)(hv:@RV (Ae V) ρ M w r v):(As (qD V q)).p v w:=by
 unfold Alg at h;split at h
 ·rename_i q' n
  cases h
  exact (BN (V:=V) (n:=n) (ρ:=ρ) (M:=M) hv).1
 ·rename_i r
  cases h
  have e:qD V (.ap 36 (.lit r.num) (.lit (r.den:Int)))=r:=by
   show mkRat r.num ((r.den:Int)).toNat=r;rw [Int.toNat_natCast];exact Rat.mkRat_self r
  rw [e];obtain ⟨cs,rfl,h⟩:=hv;exact @Ss (Ae V) _ _ _ _ _ h
 ·cases h
noncomputable def vlR(F:Fa)(L:List PE)(f:Nat)(xs:List AV):Option AV:=(EQ Am (DW (BT F L) Am 300) f xs [] 16 0).map (·.1)
theorem Pd{V:VL}{F:Fa}{L:List PE}{f:Nat}{xs:List AV}{r:AV}(hF:AP V F)(hL:∀ e∈L,@PE.ok (Ae V) e)(h:vlR F L f xs=some r){w:World}{vs:List Value}(hv:@Cz (Ae V) B4 (λ_=>False) w xs vs) :
  Calls Tryz.prog f vs.toArray w λe w'=>∃ v,e = .returned v∧(∃ ρ M,@RV (Ae V) ρ M w' r v)∧Below w.heap.size w w':=by
 obtain ⟨p,hp,rfl⟩:=Option.map_eq_some_iff.1 h;exact @N_ (Ae V) _ _ (Lx hF hL) CV _ _ _ _ _ hp w vs hv
def nEv:Nat→CE
 | 0=>zC
 | s+1=>opC 31 (opC 33 (nEv s) (.v 0)) (.ap 30 (.v 0) (.i 1 (Int.negSucc s)))
noncomputable def Agh(i:Nat):Bool:=match vlR (FE i 0) [] 34 [aL (.v 0),aQ (.v 0) 1000000] with
 | some r=>(match Alg r with
  | some q=>CE.beq q (nEv i)
  | none=>false)
 | none=>false
def AgZ(i d:Nat):Fa:=⟨VA i i,[(.v 0,1,0),(.v 1,2,0)],[(.v 0,4000000),(.v 1,4000000)],((List.range d).map λt=>(.ap 32 (D7 (.v 0) i t) (D7 (.v 1) i t),true)) ++ (if d<i then [(.ap 32 (D7 (.v 0) i d) (D7 (.v 1) i d),false)] else []),[],[],[(1,2,3)]⟩
noncomputable def Agp(i d:Nat):Bool:=match vlR (AgZ i d) [] 37 Mh with
 | some (.val (.bool r))=>r == Nat.beq d i
 | _=>false
noncomputable def AhY(i j:Nat):Bool:=match vlR (FE i j) [] 37 Mh with
 | some (.val (.bool r))=>!r
 | _=>false
theorem ZS{x:Rat}{i:Nat}(va:Value)(W:World)(hva:(As x).p va W)(sx:At x i)(hi:i≤1000000000):Calls Tryz.prog 85 #[va] W (Ak (Ap (.bool true)) W):=by
  have hg:((Int.gcd x.num (x.den:Int):Nat):Int)=1:=by
    have:=x.reduced
    have h:Int.gcd x.num (x.den:Int)=1:=this
    rw [h]
    rfl
  have hd:¬ Int.sign (x.den:Int)≤0:=by
    have:=x.den_nz
    have h:Int.sign (x.den:Int)=1:=Int.sign_eq_one_of_pos (by omega)
    rw [h]
    decide
  let E:List PF:=[(As x),(Ah x.num),(Ah (x.den:Int)),(Ap (.int .i64 (Int.sign (x.den:Int)))),(Ah ((Int.gcd x.num (x.den:Int):Nat):Int))]
  let EB:List CF:=[(BD x)]
  exact AK (E:=E) (EB:=EB) (fs:=[(.ref 0)]) (r:=(.bool true))
   { pures:=[p2 (.bin .leq 3 3) (.ref 3) (.int .i64 0) (.bool false) λ_ _ _ _ _ hx hy=>AgU (r:=false) (decide_eq_false hd) hx hy],
     calls:=[c1 111 (.ref 1) (.bool true) λw v0 hb h0=>Z5 h0 sx.1 hi,
      c1 111 (.ref 2) (.bool true) λw v0 hb h0=>Z5 h0 sx.2 hi,
      c1 112 (.ref 2) (.ref 3) λw v0 hb h0=>zY h0 sx.2 hi,
      c2 114 (.ref 1) (.ref 2) (.ref 4) λw v0 v1 hb h0 h1=>AcG h0 h1 sx.1 sx.2 hi hi,
      c1 113 (.ref 4) (.bool true) λw v0 hb h0=>kR h0 (hg ▸ Sm.of 1 (by decide)) (by decide) hg],
     loads:=[⟨34,0,0,(.ref 1),λw q h=>Ca w q h⟩,
      ⟨34,2,0,(.ref 2),λw q h=>Ci w q h⟩],
     boxes:=[⟨36,(.ref 0),0,λw v h=>Bo w v h⟩],
     flds:=[⟨36,0,0,GN⟩,
      ⟨36,1,2,H9⟩] }
   Tryz.func85 ⟨hva,trivial⟩ (by kernel_rfl)
def vq1:List AV→Option AV
 | [x]=>(match x with
  | .ext 4 true (.ap 52 _ (.lit n))=>if Nat.ble n.toNat 100000000 then some (.val (.bool true)) else none
  | _=>none)
 | _=>none
noncomputable def Aba:PE:=⟨85,vq1⟩
def gF(i:Nat):Fa:=⟨VA i 0,[(.v 0,1,0),(.v 1,2,0),(.ap 70 (.v 0) (.lit 0),1,0)],[(.v 0,4000000),(.v 1,4000000)],[],[],[],[(1,2,3)]⟩
noncomputable def AgG(i:Nat):Bool:=match vlR (gF i) [Aba,Jz (gF i)] 38 [aL (.v 0)] with
 | some (.val (.bool r))=>r
 | _=>false
theorem AcR:((List.range 6).all λi=>Agh i)=true:=by kernel_rfl
theorem Ada:((List.range 6).all λi=>(List.range (i+1)).all λd=>Agp i d)=true:=by kernel_rfl
theorem Ab2:((List.range 6).all λi=>(List.range 6).all λj=>Nat.beq i j || AhY i j)=true:=by kernel_rfl
theorem AfC:((List.range 6).all λi=>AgG i)=true:=by kernel_rfl
section
variable {a b : List Rat} {x c : Rat} {M : Nat → Prop} {w : World} {va vb : Value}
theorem Np(hva:(XP.rats a).p M w [va]):(XP.rats a).p (λ_=>False) w [va]:=(XP.rats a).st M (λ_=>False) w w [va] (Bz.refl w) (λ_ _ _=>rfl) (λ_ _ h=>h.elim) hva
theorem AkI(hva:(XP.rats a).p M w [va])(hvb:(XP.rats b).p M w [vb]):@Cz (Ae (BJ a b x)) B4 (λ_=>False) w Mh [va,vb]:=⟨va,_,rfl,Bb (V:=BJ a b x) (e:=.v 0) (Np hva),vb,_,rfl,Bb (V:=BJ a b x) (e:=.v 1) (Np hvb),rfl⟩
theorem jJ:∀ s,s≤a.length→qD (BJ a [] x) (nEv s)=GE (a.drop (a.length - s)) x
 | 0,_=>by
  rw [show qD (BJ a [] x) (nEv 0)=0 from mE,Nat.sub_zero,List.drop_length];rfl
 | s+1,h=>by
  have hz:(zD (BJ a [] x) (.i 1 (Int.negSucc s))).toNat=a.length - (s+1):=by
   show ((a.length:Int)+Int.negSucc s).toNat=_;omega
  unfold nEv;rw [fE,bP,jJ s (by omega)];have hd:a.drop (a.length - (s+1))=a[a.length - (s+1)] :: a.drop (a.length - s):=by
   rw [List.drop_eq_getElem_cons (by omega),show a.length - (s+1)+1=a.length - s by omega]
  rw [hd];simp only [qD,hz];show _*x+cf a (a.length - (s+1))=_;rw [C6 (by omega)];rfl
theorem AlC(sa:∀ y∈a,At y 4000000)(la:a.length≤5)(sx:At x 1000000)(hva:(XP.rats a).p M w [va])(hvx:(As x).p vb w):Calls Tryz.prog 34 #[va,vb] w (Ak (As (GE a x)) w):=by
 have h:=Tp AcR la;unfold Agh at h;split at h
 ·rename_i r hr
  split at h
  ·rename_i q hq
   have e:=CE.beq_eq h;refine Calls.mono (Pd (V:=BJ a [] x) (Ga sa (λy hy=>by cases hy) la (Nat.zero_le _)) (L:=[]) (λ_ h=>by cases h) hr (vs:=[va,vb]) ⟨va,_,rfl,Bb (V:=BJ a [] x) (e:=.v 0) (Np hva),vb,_,rfl,Cp (V:=BJ a [] x) (q:=.v 0) hvx sx,rfl⟩) λe' w' ⟨v,e1,⟨ρ,M',e2⟩,e3⟩=>⟨v,e1,?_,e3⟩
   have h2:=Abx hq e2;rw [e,jJ a.length (Nat.le_refl _),Nat.sub_self,List.drop_zero] at h2;exact h2
  ·cases h
 ·cases h
theorem Pi(a b:List Rat):∀ n,∃ d,d≤n∧(∀ t,t<d→cf a t=cf b t)∧(d<n→cf a d≠cf b d)
 | 0=>⟨0,Nat.le_refl _,λt h=>absurd h (Nat.not_lt_zero t),λh=>absurd h (Nat.lt_irrefl _)⟩
 | n+1=>by
  obtain ⟨d,h1,h2,h3⟩:=Pi a b n
  by_cases hd:d<n
  ·exact ⟨d,by omega,h2,λ_=>h3 hd⟩
  ·have hd:d=n:=by omega
   subst hd
   by_cases e:cf a d=cf b d
   ·refine ⟨d+1,Nat.le_refl _,λt ht=>?_,λh=>absurd h (Nat.lt_irrefl _)⟩
    by_cases ht2:t=d
    ·rw [ht2]
     exact e
    ·exact h2 t (by omega)
   ·exact ⟨d,by omega,h2,λ_=>e⟩
theorem OO(sa:∀ y∈a,At y 4000000)(sb:∀ y∈b,At y 4000000)(la:a.length≤5)(lb:b.length≤5)(hva:(XP.rats a).p M w [va])(hvb:(XP.rats b).p M w [vb]):Calls Tryz.prog 37 #[va,vb] w (Ak (Ap (.bool (decide (a=b)))) w):=by
 have fin:∀{F:Fa}{r:Bool},AP (BJ a b 0) F→vlR F [] 37 Mh=some (.val (.bool r))→r=decide (a=b)→Calls Tryz.prog 37 #[va,vb] w (Ak (Ap (.bool (decide (a=b)))) w):=fun {F r} hF hr he=>by
  refine Calls.mono (Pd (V:=BJ a b 0) hF (L:=[]) (λ_ h=>by cases h) hr (vs:=[va,vb]) (AkI hva hvb)) λe' w' ⟨v,e1,⟨ρ,M',e2⟩,e3⟩=>⟨v,e1,?_,e3⟩
  have e2:v = .bool r:=e2;rw [e2,he];rfl
 by_cases hl:a.length=b.length
 ·obtain ⟨d,h1,h2,h3⟩:=Pi a b a.length
  have h:=List.all_eq_true.1 (Tp Ada la) d (List.mem_range.2 (by omega));have hF:AP (BJ a b 0) (AgZ a.length d):=by
   have h0:=Ga (x:=0) sa sb la lb;rw [← hl] at h0;refine ⟨h0.z0,h0.sm,h0.le,h0.len,h0.bd,λy hy=>?_,h0.rlen,h0.full,h0.sum⟩;have q1:∀ t,qD (BJ a b 0) (D7 (.v 0) a.length t)=cf a t:=λt=>Lo (V:=BJ a b 0) rfl (.v 0) t
   have q2:∀ t,qD (BJ a b 0) (D7 (.v 1) a.length t)=cf b t:=λt=>by
    rw [hl];exact Lo (V:=BJ a b 0) rfl (.v 1) t
   have q3:∀ t,qD (BJ a b 0) (.ap 32 (D7 (.v 0) a.length t) (D7 (.v 1) a.length t))=cf a t - cf b t:=λt=>by
    simp only [qD];rw [q1,q2]
   rcases List.mem_append.1 hy with hy | hy
   ·obtain ⟨t,ht,rfl⟩:=List.mem_map.1 hy
    refine decide_eq_true ?_;show qD (BJ a b 0) (.ap 32 (D7 (.v 0) a.length t) (D7 (.v 1) a.length t))=0;rw [q3,h2 t (List.mem_range.1 ht)];exact Rat.sub_self
   ·split at hy
    ·rename_i hd
     rw [List.mem_singleton] at hy;subst hy;refine decide_eq_false ?_;show ¬ qD (BJ a b 0) (.ap 32 (D7 (.v 0) a.length d) (D7 (.v 1) a.length d))=0;rw [q3];intro e;exact h3 hd (by grind)
    ·cases hy
  unfold Agp at h;split at h
  ·rename_i r hr
   refine fin hF hr ?_;rw [eq_of_beq h]
   by_cases hd:d<a.length
   ·rw [decide_eq_false λe=>h3 hd (by rw [e])]
    cases hb:Nat.beq d a.length
    ·rfl
    ·exact absurd (Nat.eq_of_beq_eq_true hb) (by omega)
   ·have hd:d=a.length:=by omega
    have e:a=b:=List.ext_getElem hl λt t1 t2=>by
     have:=h2 t (by omega);rwa [C6 t1,C6 t2] at this
    rw [decide_eq_true e,hd];exact Nat.beq_refl _
  ·cases h
 ·have h:=List.all_eq_true.1 (Tp Ab2 la) b.length (List.mem_range.2 (by omega))
  rw [Bool.or_eq_true] at h
  rcases h with h | h
  ·exact absurd (Nat.eq_of_beq_eq_true h) hl
  ·unfold AhY at h
   split at h
   ·rename_i r hr
    refine fin (Ga sa sb la lb) hr ?_;rw [decide_eq_false λe=>hl (by rw [e])];simpa using h
   ·cases h
theorem sP{V:VL}:@PE.ok (Ae V) Aba:=by
 intro xs r e;change vq1 xs=some r at e;refine ⟨λ_ _=>by simp [Aba,go_sem],λρ M w vs _ hv=>?_⟩;unfold vq1 at e;split at e
 ·rename_i x
  split at e
  ·rename_i q z
   split at e
   ·rename_i hc
    cases e
    obtain ⟨va,_,rfl,h1,h3⟩:=hv;have h3:_=[]:=h3;subst h3;obtain ⟨a1,a2⟩:=Df (V:=V) (q:=q) (n:=z.toNat) rfl (@Co.rv (Ae V) ρ M w _ _ h1);exact Calls.mono (ZS va w a1 a2 (Nat.le_trans (Nat.le_of_ble_eq_true hc) (by decide))) λe w' ⟨v,e1,e2,e3⟩=>⟨v,e1,e2,e3⟩
   ·cases e
  ·cases e
 ·cases e
theorem XZ(ta:Ai a)(sa:∀ y∈a,At y 4000000)(la:a.length≤5)(hva:(XP.rats a).p M w [va]):Calls Tryz.prog 38 #[va] w (Ak (Ap (.bool true)) w):=by
 have h:=Tp AfC la;have h0:=Ga (b:=[]) (x:=0) sa (λy hy=>by cases hy) la (Nat.zero_le _);have hF:AP (BJ a [] 0) (gF a.length):=⟨h0.z0,h0.sm,h0.le,λy hy=>by
  simp only [gF,List.mem_cons,List.not_mem_nil,or_false] at hy
  rcases hy with rfl | rfl | rfl
  ·exact (Int.add_zero _).symm
  ·exact (Int.add_zero _).symm
  ·have e:lD (BJ a [] 0) (.ap 70 (.v 0) (.lit 0))=a:=by
    simp only [lD];exact (Bj _).1.ext ta (Bj _).2
   show ((lD (BJ a [] 0) (.ap 70 (.v 0) (.lit 0))).length:Int)=(a.length:Int)+0;rw [e];exact (Int.add_zero _).symm,h0.bd,λ_ h=>(by cases h),h0.rlen,h0.full,h0.sum⟩
 unfold AgG at h;split at h
 ·rename_i r hr
  subst h;refine Calls.mono (Pd (V:=BJ a [] 0) hF (λe he=>?_) hr (vs:=[va]) ⟨va,_,rfl,Bb (V:=BJ a [] 0) (e:=.v 0) (Np hva),rfl⟩) λe' w' ⟨v,e1,⟨ρ,M',e2⟩,e3⟩=>⟨v,e1,e2,e3⟩
  simp only [List.mem_cons,List.not_mem_nil,or_false] at he
  rcases he with rfl | rfl
  ·exact sP
  ·exact Gk hF
 ·cases h
end
theorem Adm{V:VL}{F:Fa}{L:List PE}{f:Nat}{xs:List AV}{e d:CE}(hF:AP V F)(hL:∀ e∈L,@PE.ok (Ae V) e)(h:vlR F L f xs=some (.ext 1 false (.ap 51 e d))){M:Nat→Prop}{w:World}{vs:List Value}(hm0:∀ b,M b→b<w.heap.size)(hv:@Cz (Ae V) B4 M w xs vs):Bv f M w vs (lD V e):=by
 letI:=Ae V
 obtain ⟨p,hp,hp2⟩:=Option.map_eq_some_iff.1 h;obtain ⟨_,hcall⟩:=Hk CV (P5 (Lx hF hL) CV 300).1 f xs [] 16 0 p.1 p.2 hp;have hs:Fr B4 M (pB B4 w (lk [])) w 0 (lk []):=⟨⟨λo b e=>(by cases e),λo o' b b' g c c' e=>(by cases e)⟩,hm0,λ_ _ _=>rfl,λb hb=>.inl hb⟩;refine Calls.mono (hcall B4 M w vs hs (λo p e=>(by cases e)) (by decide) hv) λen w' ⟨v,e1,ρ',M',ht,hv',hR,_,hsup,_,_,hfr,_⟩=>⟨v,e1,?_,⟨hfr.os,hfr.tape,hfr.output,hfr.size,λb hb=>hfr.keep b hb ?_⟩⟩
 ·rw [hp2] at hv'
  exact (XP.rats (lD V e)).st M' M w' w' [v] (Bz.refl w') (λ_ _ _=>rfl) (λb _ hb=>hsup b hb) (AL (V:=V) (ρ:=ρ') hv')
 ·rintro (h1 | ⟨_,_,_,h1,_⟩)
  ·omega
  ·cases h1
def nTr(i:Nat):List CE:=(List.range i).map λt=>D7 (.v 0) i t
def Ahv(i k:Nat):Fa:=⟨VA i 0,[(.v 0,1,0),(.v 1,2,0)],[(.v 0,4000000),(.v 1,4000000)],(Ado (FE i 0) (nTr i) k).zr ++ (((List.range (i - k)).map λs=>(.ap 30 (.v 0) (.i 1 (Int.negSucc (i - 1 - (k+s)))),true)) ++ (if k=0 then [] else [(.ap 30 (.v 0) (.i 1 (Int.negSucc (i - 1 - (k - 1)))),false)])),[],[],[(1,2,3)]⟩
noncomputable def Ahl(i k:Nat):Bool:=match uB k (EQ Am (DW (BT (Ahv i k) []) Am 300) 74 [aL (.v 0)] [] 16 0) with
 | some l=>eqC l ((nTr i).take k)
 | none=>false
def Ep(c:Rat):List Rat:=Cd [c,1]
def Lv(c:Rat):List Rat→List Rat
 | []=>[]
 | y :: l=>DL (mulL (Lv c l) (Ep c)) (Cd [y])
def Fe(a:List Rat)(c:Rat):VL:=⟨λk=>match k with | 1=>(a.length:Int) | _=>0,λk=>if k=0 then a else if k=6 then Ep c else if k<20 then Lv c (a.drop (k - 10)) else if k<30 then mulL (Lv c (a.drop (k - 19))) (Ep c) else Cd [a.getD (k - 30) 0],λk=>match k with | 0=>c | _=>0,λ_=>[]⟩
def AjK:AV:=aL (.ap 80 (.v 0) (.ap 80 (.ap 36 (.lit 1) (.lit 1)) (.lit 0)))
def Aio(i j:Nat):AV:=aL (.ap 80 (.ap 30 (.v 0) (.i 1 (Int.negSucc (i - j - 1)))) (.lit 0))
def sE(i:Nat):List (AV × AV):=(aL (.lit 0),Ag (10+i)) :: ((AjK :: Ag 6 :: ((List.range i).map λj=>Ag (11+j)) ++ ((List.range i).map λj=>Ag (20+j)) ++ ((List.range i).map λj=>Ag (30+j)) ++ ((List.range i).map λj=>Aio i j)).map λa=>(a,a))
noncomputable def orN:PE→List PE→PE
 | a,[]=>a
 | a,b :: l=>UN a (orN b l)
theorem AnI:∀(a:PE)(l:List PE),(orN a l).f=a.f
 | _,[]=>rfl
 | _,_ :: _=>rfl
theorem PM{V:VL}:∀{a:PE}{l:List PE},(∀ e∈l,e.f=a.f) → @PE.ok (Ae V) a→(∀ e∈l,@PE.ok (Ae V) e) → @PE.ok (Ae V) (orN a l)
 | _,[],_,h,_=>h
 | a,b :: l,hf,h,hl=>C1 (by rw [AnI]; exact hf b (List.mem_cons_self ..)) h (PM (λe he=>(hf e (List.mem_cons_of_mem _ he)).trans (hf b (List.mem_cons_self ..)).symm) (hl b (List.mem_cons_self ..)) λe he=>hl e (List.mem_cons_of_mem _ he))
noncomputable def Ag8(i j:Nat):PE:=BE 74 (sE i) [Aio i j] (Ag (30+j))
noncomputable def R8(i:Nat):PE:=BE 74 (sE i) [AjK] (Ag 6)
noncomputable def qX(i j:Nat):PE:=BE 25 (sE i) [Ag (11+j),Ag 6] (Ag (20+j))
noncomputable def vF(i j:Nat):PE:=BE 21 (sE i) [Ag (20+j),Ag (30+j)] (Ag (10+j))
noncomputable def AkE:Nat→List PE
 | 0=>[R8 0]
 | i+1=>[orN (R8 (i+1)) ((List.range (i+1)).map (Ag8 (i+1))),orN (qX (i+1) 0) ((List.range i).map λj=>qX (i+1) (j+1)),orN (vF (i+1) 0) ((List.range i).map λj=>vF (i+1) (j+1))]
def AeF(i:Nat):Fa:=⟨[(1,0,(i:Int)),(0,1,-(i:Int))],[(.v 0,1,0)],[(.v 0,1000)],[],[],[(.lit 1,0),(.lit 2,0)],[]⟩
noncomputable def Asz(i:Nat):=vlR (AeF i) (AkE i) 36 [aL (.v 0),aQ (.v 0) 1000]
noncomputable def Aht(i:Nat):Bool:=match Asz i with
 | some (.ext 1 false (.ap 51 e _))=>CE.beq e (if i=0 then .lit 0 else .v 10)
 | _=>false
theorem AdJ:((List.range 3).all λi=>(List.range (i+1)).all λk=>Ahl i k)=true:=by kernel_rfl
theorem Ajl:((List.range 6).all λi=>Aht i)=true:=by kernel_rfl
section
variable {a : List Rat} {c : Rat} {M : Nat → Prop} {w : World} {va vb : Value}
theorem TK:(nTr a.length).map (qD (BJ a [] 0))=a:=by
 refine List.ext_getElem (by simp [nTr]) λt h1 h2=>?_
 have h3:=Lo (V:=BJ a [] 0) rfl (.v 0) t;rw [List.getElem_map];simp only [nTr,List.getElem_map,List.getElem_range];rw [show qD (BJ a [] 0) (D7 (.v 0) a.length t)=cf a t from h3,C6 h2]
theorem vN(sa:∀ y∈a,At y 4000000)(la:a.length≤2)(hm0:∀ b,M b→b<w.heap.size)(hva:(XP.rats a).p M w [va]):Bv 74 M w [va] (Cd a):=by
 have h0:=Ga (b:=[]) (x:=0) sa (λy hy=>by cases hy) (Nat.le_trans la (by decide)) (Nat.zero_le _);obtain ⟨k,k1,k2,k3⟩:=I5 a a.length (Nat.le_refl _) λi hi=>A9 hi
 have hlq:(nTr a.length).length=a.length:=by simp [nTr]
 have e1:∀ i,i<a.length→qD (BJ a [] 0) (.ap 30 (.v 0) (.i 1 (Int.negSucc (a.length - 1 - i))))=cf a i:=λi hi=>by
  have hz:(zD (BJ a [] 0) (.i 1 (Int.negSucc (a.length - 1 - i)))).toNat=i:=by
   show ((a.length:Int)+Int.negSucc (a.length - 1 - i)).toNat=_;omega
  simp only [qD,hz];rfl
 have h1:AP (BJ a [] 0) (Ado (FE a.length 0) (nTr a.length) k):=AfZ h0 (by omega) (by rw [TK]; exact k2) (by rw [TK]; exact k3);have hF:AP (BJ a [] 0) (Ahv a.length k):=by
  refine ⟨h0.z0,h0.sm,h0.le,h0.len,h0.bd,λy hy=>?_,h0.rlen,h0.full,h0.sum⟩
  rcases List.mem_append.1 hy with hy | hy
  ·exact h1.zr y hy
  rcases List.mem_append.1 hy with hy | hy
  ·obtain ⟨s,hs,rfl⟩:=List.mem_map.1 hy
   have hs:=List.mem_range.1 hs;refine decide_eq_true ?_;show qD (BJ a [] 0) (.ap 30 (.v 0) (.i 1 (Int.negSucc (a.length - 1 - (k+s)))))=0;rw [e1 (k+s) (by omega)];exact k2 _ (by omega)
  ·split at hy
   ·cases hy
   ·rename_i hk
    rw [List.mem_singleton] at hy;subst hy;refine decide_eq_false ?_;show ¬ qD (BJ a [] 0) (.ap 30 (.v 0) (.i 1 (Int.negSucc (a.length - 1 - (k - 1)))))=0;rw [e1 (k - 1) (by omega)];exact k3.resolve_left hk
 have h:=List.all_eq_true.1 (List.all_eq_true.1 AdJ a.length (List.mem_range.2 (by omega))) k (List.mem_range.2 (by omega));unfold Ahl at h;split at h
 ·rename_i l hl
  have hc:=Oz hF (L:=[]) (λe he=>by cases he) hl hm0 (vs:=[va]) ⟨va,_,rfl,Bb (V:=BJ a [] 0) (e:=.v 0) hva,rfl⟩;have e:=Zv h;have e2:(l.map λp=>qD (BJ a [] 0) p.1)=Cd a:=by
   rw [← Eg k1 k2 k3,show a.take k=((nTr a.length).map (qD (BJ a [] 0))).take k by rw [TK],← List.map_take,← e,List.map_map];rfl
  rw [e2] at hc;exact hc
 ·cases h
theorem AkR(c:Rat)(f:Nat→Rat)(k:Nat):conv f (cf (Ep c)) k=Ws f k+c*f k:=by
 have e:∀ i,cf (Ep c) i=(if i=0 then c else 0)+(if i=1 then 1 else 0):=λi=>by
  unfold Ep;rw [(Bj _).2]
  rcases i with _ | _ | i
  ·show c=_
   simp [Rat.add_zero]
  ·show (1:Rat)=_
   simp [Rat.zero_add]
  ·rw [A9 (by show 2≤i+1+1; omega)]
   simp [Rat.add_zero]
 rw [E7,AZ (f':=λi=>(if i=0 then c else 0)+(if i=1 then 1 else 0)) (g':=f) (λi _=>e i) (λ_ _=>rfl),EM,Eo,Eo]
 cases k with
 | zero =>
  simp [Ws,Rat.add_zero,Rat.zero_add]
 | succ k =>
  simp only [Ws,if_pos (Nat.zero_le _),if_pos (Nat.succ_le_succ (Nat.zero_le k)),Nat.sub_zero,Nat.add_sub_cancel]
  grind
theorem qS(c:Rat):∀(l:List Rat) k,cf (Lv c l) k=Hi c l.length (cf l) k
 | [],k=>by
  rw [show Hi c ([]:List Rat).length (cf []) k=0 from NC (Nat.zero_le _)];exact A9 (Nat.zero_le _)
 | y :: l,k=>by
  unfold Lv;rw [(BU _ _).2,BS,AkR,(Bj _).2];show _=Hi c (l.length+1) (cf (y :: l)) k;rw [rF];have h1:∀ j,cf (Lv c l) j=Hi c l.length (cf l) j:=qS c l;have h2:(λi=>cf (y :: l) (i+1))=cf l:=rfl;have h3:Ws (cf (Lv c l)) k=Ws (Hi c l.length (cf l)) k:=by
   cases k with
   | zero=>rfl
   | succ k=>exact h1 k
  have h4:cf [y] k=if k=0 then y else 0:=by
   cases k with
   | zero=>rfl
   | succ k =>
    rw [if_neg (by omega)];exact A9 (by show 1≤k+1; omega)
  rw [h2,h3,h1 k,h4];show _=(if k=0 then y else 0)+_+_
  grind
theorem XN(c:Rat)(l:List Rat):Lv c l=Dp l c:=by
 have t:Ai (Lv c l):=by
  cases l with
  | nil=>exact CB
  | cons y l=>exact (BU _ _).1
 exact t.ext (LL l c).1 λk=>by rw [qS,(LL l c).2]
theorem Su{l:List Rat}{n:Nat}(h:∀ y∈l,At y n):∀ y∈Cd l,At y (n+1):=C2 λk=>by
 rw [(Bj _).2]
 by_cases hk:k<l.length
 ·rw [C6 hk]
  exact (h _ (List.getElem_mem hk)).mono (by omega)
 ·rw [A9 (by omega)]
  exact Ih.mono (by omega)
theorem XL(sc:At c 1):∀ y∈Ep c,At y 2:=Su (n:=1) λy hy=>by
 simp only [List.mem_cons,List.not_mem_nil,or_false] at hy
 rcases hy with rfl | rfl
 ·exact sc
 ·exact Gv
theorem jU(l:List Rat):(Lv c l).length≤l.length:=by rw [XN]; exact Ov l c
theorem AaT(sc:At c 1):∀{l:List Rat},(∀ y∈l,At y 1)→l.length≤5→∀ y∈Lv c l,At y (6 ^ l.length*10)
 | [],_,_=>λy hy=>by cases hy
 | z :: l,sl,hl=>by
  have hl:l.length+1≤5:=hl;have h1:=AaT sc (l:=l) (λy hy=>sl y (List.mem_cons_of_mem _ hy)) (by omega);have h2:=jU (c:=c) l;have hp:1≤6 ^ l.length:=Nat.pow_pos (by decide);have h3:=TD (p:=6 ^ l.length*10) (q:=2) (by omega) (by decide) h1 (XL sc);have h4:∀ y∈Cd [z],At y 2:=Su (n:=1) λy hy=>by
   rw [List.mem_singleton.1 hy];exact sl z (List.mem_cons_self ..)
  have h5:=Sq (by omega) (by decide) h3 h4;intro y hy;refine (h5 y hy).mono ?_;have h6:(Lv c l).length*(6 ^ l.length*10+2+1)≤4*(6 ^ l.length*10+2+1):=Nat.mul_le_mul_right _ (by omega);show _≤6 ^ (l.length+1)*10;rw [Nat.pow_succ];omega
theorem Ac6(ta:Ai a)(sa:∀ y∈a,At y 1)(la:a.length≤5)(sc:At c 1)(hm0:∀ b,M b→b<w.heap.size)(hva:(XP.rats a).p M w [va])(hvc:(As c).p vb w):Bv 36 M w [va,vb] (Dp a c):=by
 have hF:AP (Fe a c) (AeF a.length):=by
  refine ⟨rfl,λk=>?_,λy hy=>?_,λy hy=>?_,λy hy=>?_,λ_ h=>(by cases h),λ_ h=>(by cases h),λy hy z hz=>?_,λ_ h=>(by cases h)⟩
  ·show -1152921504606846976≤(match k with | 1=>(a.length:Int) | _=>0)∧(match k with | 1=>(a.length:Int) | _=>0)≤(1152921504606846976:Int)
   split <;> omega
  ·simp only [AeF,List.mem_cons,List.not_mem_nil,or_false] at hy
   rcases hy with rfl | rfl
   ·show (a.length:Int)≤0+(a.length:Int)
    omega
   ·show (0:Int)≤(a.length:Int) + -(a.length:Int)
    omega
  ·have hy:y∈[((.v 0:CE),1,(0:Int))]:=hy
   rw [List.mem_singleton] at hy;subst hy;exact (Int.add_zero _).symm
  ·have hy:y∈[((.v 0:CE),1000)]:=hy
   rw [List.mem_singleton] at hy;subst hy;exact λz hz=>(sa z hz).mono (by decide)
  ·simp only [AeF,List.mem_cons,List.not_mem_nil,or_false] at hy
   rcases hy with rfl | rfl
   ·simp [rD] at hz
   ·simp [rD] at hz
 have hv:@Cz (Ae (Fe a c)) B4 M w [aL (.v 0),aQ (.v 0) 1000] [va,vb]:=⟨va,_,rfl,Bb (V:=Fe a c) (e:=.v 0) hva,vb,_,rfl,Cp (V:=Fe a c) (q:=.v 0) hvc (sc.mono (by decide)),rfl⟩;have l6:(Fe a c).l 6=Ep c:=rfl;have l1:∀ j,j<10→(Fe a c).l (10+j)=Lv c (a.drop j):=λj hj=>by
  show (if 10+j=0 then a else if 10+j=6 then Ep c else if 10+j<20 then Lv c (a.drop (10+j - 10)) else _)=_;rw [if_neg (by omega),if_neg (by omega),if_pos (by omega),show 10+j - 10=j by omega]
 have l2:∀ j,j<10→(Fe a c).l (20+j)=mulL (Lv c (a.drop (j+1))) (Ep c):=λj hj=>by
  show (if 20+j=0 then a else if 20+j=6 then Ep c else if 20+j<20 then Lv c (a.drop (20+j - 10)) else if 20+j<30 then mulL (Lv c (a.drop (20+j - 19))) (Ep c) else _)=_;rw [if_neg (by omega),if_neg (by omega),if_neg (by omega),if_pos (by omega),show 20+j - 19=j+1 by omega]
 have l3:∀ j,j<10→(Fe a c).l (30+j)=Cd [a.getD j 0]:=λj hj=>by
  show (if 30+j=0 then a else if 30+j=6 then Ep c else if 30+j<20 then Lv c (a.drop (30+j - 10)) else if 30+j<30 then mulL (Lv c (a.drop (30+j - 19))) (Ep c) else Cd [a.getD (30+j - 30) 0])=_;rw [if_neg (by omega),if_neg (by omega),if_neg (by omega),if_neg (by omega),show 30+j - 30=j by omega]
 have hP:∀ p∈sE a.length,Le (Fe a c) (Fe a c) p:=λp hp=>by
  rcases List.mem_cons.1 hp with rfl | hp
  ·refine BR ?_
   show lD (Fe a c) (.lit 0)=(Fe a c).l (10+a.length);rw [l1 a.length (by omega),List.drop_length];simp only [lD];rfl
  ·refine Gf ?_ p hp
   refine List.all_eq_true.2 λx hx=>?_
   simp only [List.mem_append,List.mem_cons,List.mem_map,List.cons_append,AjK,Aio] at hx
   rcases hx with rfl | rfl | ((⟨_,_,rfl⟩ | ⟨_,_,rfl⟩) | ⟨_,_,rfl⟩) | ⟨_,_,rfl⟩ <;> rfl
 have sd:∀ j,∀ y∈a.drop j,At y 1:=λj y hy=>sa y (List.mem_of_mem_drop hy)
 have ld:∀ j,(a.drop j).length≤5:=λj=>by rw [List.length_drop]; omega
 have pw:∀ j,6 ^ (a.drop j).length*10≤100000:=λj=>by
  have:6 ^ (a.drop j).length≤6 ^ 5:=Nat.pow_le_pow_right (by decide) (ld j);omega
 have tp:∀ l,Ai (Lv c l):=λl=>by rw [XN]; exact (LL l c).1
 have bp:∀ j,∀ y∈Lv c (a.drop j),At y 100000:=λj y hy=>(AaT sc (sd j) (ld j) y hy).mono (pw j)
 have lp:∀ j,(Lv c (a.drop j)).length≤a.length - j:=λj=>by
  have:=jU (c:=c) (a.drop j);rwa [List.length_drop] at this
 have ls:(Ep c).length≤2:=By _;have bg:∀ j,At (a.getD j 0) 1:=λj=>by
  by_cases hj:j<a.length
  ·rw [List.getD_eq_getElem?_getD,List.getElem?_eq_getElem hj]
   exact sa _ (List.getElem_mem hj)
  ·rw [show a.getD j 0=0 from A9 (l:=a) (by omega)]
   exact Ih
 have m5:∀ j,j<a.length→(mulL (Lv c (a.drop (j+1))) (Ep c)).length≤5:=λj hj=>by
  by_cases e1:Lv c (a.drop (j+1))=[]
  ·rw [e1,CI]; exact Nat.zero_le _
  ·by_cases e2:Ep c=[]
   ·rw [e2,Cs]; exact Nat.zero_le _
   ·rw [Dk e1 e2]
    have:=lp (j+1);omega
 have okT0:∀ i,i=a.length → @PE.ok (Ae (Fe a c)) (R8 i):=λi hi=>by
  subst hi;refine AO (λ_ _=>by simp [go_sem]) rfl rfl hP λM w vs hm0 hv=>?_
  obtain ⟨va,_,rfl,h1,h3⟩:=hv;have h3:_=[]:=h3;subst h3;have h1:=AL h1;have e:lD (Fe a c) (.ap 80 (.v 0) (.ap 80 (.ap 36 (.lit 1) (.lit 1)) (.lit 0)))=[c,1]:=by
   simp only [lD,qD];rfl
  rw [e] at h1;exact (vN (a:=[c,1]) (λy hy=>by
   simp only [List.mem_cons,List.not_mem_nil,or_false] at hy
   rcases hy with rfl | rfl
   ·exact sc.mono (by decide)
   ·exact Gv.mono (by decide)) (by exact Nat.le_refl 2) hm0 h1).rv l6
 have okT:∀ i j,i=a.length→j<a.length → @PE.ok (Ae (Fe a c)) (Ag8 i j):=λi j hi hj=>by
  subst hi;refine AO (λ_ _=>by simp [go_sem]) rfl rfl hP λM w vs hm0 hv=>?_
  obtain ⟨va,_,rfl,h1,h3⟩:=hv;have h3:_=[]:=h3;subst h3;have h1:=AL h1;have e:lD (Fe a c) (.ap 80 (.ap 30 (.v 0) (.i 1 (Int.negSucc (a.length - j - 1)))) (.lit 0))=[a.getD j 0]:=by
   have hz:(zD (Fe a c) (.i 1 (Int.negSucc (a.length - j - 1)))).toNat=j:=by
    show ((a.length:Int)+Int.negSucc (a.length - j - 1)).toNat=_;omega
   simp only [lD,qD,hz];rfl
  rw [e] at h1;exact (vN (a:=[a.getD j 0]) (λy hy=>by rw [List.mem_singleton.1 hy]; exact (bg j).mono (by decide)) (by exact Nat.le_succ 1) hm0 h1).rv (l3 j (by omega))
 have okM:∀ i j,i=a.length→j<a.length → @PE.ok (Ae (Fe a c)) (qX i j):=λi j hi hj=>by
  subst hi;have e1:lD (Fe a c) (.v (11+j))=Lv c (a.drop (j+1)):=by
   show (Fe a c).l (11+j)=_;rw [show 11+j=10+(j+1) by omega,l1 (j+1) (by omega)]
  have e2:lD (Fe a c) (.v 6)=Ep c:=l6;refine KF (e:=.v (11+j)) (e':=.v 6) hP (by rw [e1]; exact tp _) (by rw [e2]; exact (Bj _).1) (by rw [e1]; exact λy hy=>(bp _ y hy).mono (by decide)) (by rw [e2]; exact λy hy=>(XL sc y hy).mono (by decide)) (by rw [e1]; have:=lp (j+1); omega) (by rw [e2]; omega) ?_;rw [e1,e2];exact l2 j (by omega)
 have okA:∀ i j,i=a.length→j<a.length → @PE.ok (Ae (Fe a c)) (vF i j):=λi j hi hj=>by
  subst hi;have e1:lD (Fe a c) (.v (20+j))=mulL (Lv c (a.drop (j+1))) (Ep c):=l2 j (by omega);have e2:lD (Fe a c) (.v (30+j))=Cd [a.getD j 0]:=l3 j (by omega);have b1:=TD (p:=100000) (q:=2) (by decide) (by decide) (bp (j+1)) (XL sc);have b2:∀ y∈Cd [a.getD j 0],At y 2:=Su (n:=1) λy hy=>by rw [List.mem_singleton.1 hy]; exact bg j
  have b3:∀ y∈mulL (Lv c (a.drop (j+1))) (Ep c),At y 4000000:=λy hy=>(b1 y hy).mono (by
   have:(Lv c (a.drop (j+1))).length*(100000+2+1)≤5*(100000+2+1):=Nat.mul_le_mul_right _ (by have:=lp (j+1); omega);omega)
  refine Wq (e:=.v (20+j)) (e':=.v (30+j)) hP (by rw [e1]; exact BI (tp _) (Bj _).1) (by rw [e2]; exact (Bj _).1) (by rw [e1]; exact b3) (by rw [e2]; exact λy hy=>(b2 y hy).mono (by decide)) (by rw [e1]; exact m5 j hj) (by rw [e2]; exact Nat.le_trans (By _) (Nat.le_add_left 1 4)) ?_;rw [e1,e2,l1 j (by omega)];rw [List.drop_eq_getElem_cons hj,show a.getD j 0=a[j] from C6 hj];rfl
 have hL:∀ e∈AkE a.length,@PE.ok (Ae (Fe a c)) e:=λe he=>by
  generalize hn:a.length=n at he
  cases n with
  | zero =>
   rw [show e=R8 0 from List.mem_singleton.1 he];exact okT0 0 hn.symm
  | succ n =>
   simp only [AkE,List.mem_cons,List.not_mem_nil,or_false] at he
   rcases he with rfl | rfl | rfl
   ·refine PM (λe he=>?_) (okT0 _ hn.symm) λe he=>?_
    ·obtain ⟨j,_,rfl⟩:=List.mem_map.1 he
     rfl
    ·obtain ⟨j,hj,rfl⟩:=List.mem_map.1 he
     have:=List.mem_range.1 hj;exact okT _ _ hn.symm (by omega)
   ·refine PM (λe he=>?_) (okM _ 0 hn.symm (by omega)) λe he=>?_
    ·obtain ⟨j,_,rfl⟩:=List.mem_map.1 he
     rfl
    ·obtain ⟨j,hj,rfl⟩:=List.mem_map.1 he
     have:=List.mem_range.1 hj;exact okM _ _ hn.symm (by omega)
   ·refine PM (λe he=>?_) (okA _ 0 hn.symm (by omega)) λe he=>?_
    ·obtain ⟨j,_,rfl⟩:=List.mem_map.1 he
     rfl
    ·obtain ⟨j,hj,rfl⟩:=List.mem_map.1 he
     have:=List.mem_range.1 hj;exact okA _ _ hn.symm (by omega)
 have h:=Tp Ajl la;unfold Aht at h;split at h
 ·rename_i e d hr
  have e1:=CE.beq_eq h;have hc:=Adm hF hL hr hm0 hv;have e2:lD (Fe a c) e=Dp a c:=by
   rw [e1,← XN];split
   ·rename_i h0
    rw [List.length_eq_zero_iff.1 h0];simp only [lD];rfl
   ·show (Fe a c).l (10+0)=_
    rw [l1 0 (by omega),List.drop_zero]
  rw [e2] at hc;exact hc
 ·cases h
end
end Go.Proofs.YtgaehhapjnbieaaGreat

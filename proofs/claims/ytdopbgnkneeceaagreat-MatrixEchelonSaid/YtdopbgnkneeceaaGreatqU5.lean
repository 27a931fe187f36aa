/- Layer 5: the law MatrixEchelon: its codes; equal rows, rows of zeros. -/
import Derived.Test.YtdopbgnkneeceaaGreatqP10a
set_option linter.unusedSectionVars false
set_option linter.unusedVariables false
set_option linter.unusedSimpArgs false
set_option maxRecDepth 100000
namespace Go.Proofs.YtdopbgnkneeceaaGreat
open Go.RowKit
def Agj(t C:Nat):Fa:=⟨[],(List.range t).map λk=>(.v k,0,(C:Int)),(List.range t).map λk=>(.v k,1920000),(List.range t).flatMap λk=>(List.range C).map λj=>(.ap 32 (Ej k j) (Ej k j),true),[],[],[]⟩
noncomputable def Akf(t C:Nat):Option AV:=bL [.leaf] (BR AC (Dd (Wn (Agj t C) [Mf (Agj t C)]) AC 300) 19 [aM (gH 0 t),aM (gH 0 t)] [] 16 0)
noncomputable def J9(t:Nat):Bool:=(List.range 6).all λC=>Gh (Akf t C)
theorem Akk:J9 0=true:=by kernel_rfl
theorem AjR:J9 1=true:=by kernel_rfl
theorem Ake:J9 2=true:=by kernel_rfl
theorem Ajw:J9 3=true:=by kernel_rfl
theorem AjH:J9 4=true:=by kernel_rfl
theorem Agt:∀ t,t≤4→J9 t=true
 | 0,_=>Akk
 | 1,_=>AjR
 | 2,_=>Ake
 | 3,_=>Ajw
 | 4,_=>AjH
theorem Ah6{m:List (List Rat)}{C:Nat}(ht:m.length≤4)(hC:C≤5)(hl:∀ k,k<m.length→(m.getD k []).length=C)(hb:∀ k,k<m.length→∀ x∈m.getD k [],AR x 1920000){M:Nat→Prop}{w:World}{v v':Value}(hm0:∀ b,M b→b<w.heap.size)(hv:(XP.mat m).p M w [v])(hv':(XP.mat m).p M w [v']) :
  Calls Tryz.prog 19 #[v,v'] w λe w'=>e = .returned (.bool true)∧Below w.heap.size w w':=by
 have hl1:∀ k,lD (VJ m) (.v k)=m.getD k []:=λk=>by simp only [lD,VJ]
 have hF:Bi (VJ m) (Agj m.length C):=EC (λ_=>rfl) (λx hx=>by
  obtain ⟨k,hk,rfl⟩:=List.mem_map.1 hx;dsimp only;rw [hl1,hl k (List.mem_range.1 hk)]) (λx hx=>by
  obtain ⟨k,hk,rfl⟩:=List.mem_map.1 hx;intro y hy;dsimp only at hy;rw [hl1] at hy;exact hb k (List.mem_range.1 hk) y hy) (λx hx=>by
  obtain ⟨k,_,hx⟩:=List.mem_flatMap.1 hx;obtain ⟨j,_,rfl⟩:=List.mem_map.1 hx;dsimp only;refine decide_eq_true ?_;have:qD (VJ m) (.ap 32 (Ej k j) (Ej k j))=qD (VJ m) (Ej k j) - qD (VJ m) (Ej k j):=by simp only [qD]
  rw [this]
  grind) (λx hx=>by cases hx)
 have hr:=Gm (List.all_eq_true.1 (Agt m.length ht) C (List.mem_range.2 (by omega)));refine Calls.mono (J4 (M:=M) (w:=w) (vs:=[v,v']) hF (λe he=>by
  rw [List.mem_singleton] at he;subst he;exact Og hF) hr hm0 ⟨v,_,rfl,JR (by rw [Ail]; exact hv),v',_,rfl,JR (by rw [Ail]; exact hv'),rfl⟩) λe w' ⟨u,e1,e2,e3⟩=>⟨?_,e3⟩
 have e2:u = .bool true:=e2;rw [e1,e2]
def Aij(n:Nat):Fa:=⟨[],[(.v 0,0,(n:Int))],[(.v 0,1)],(List.range n).map λi=>(Ej 0 i,true),[],[],[]⟩
noncomputable def Aj1(n:Nat):Option AV:=bL [.leaf] (BR AC (Dd (Wn (Aij n) []) AC 300) 26 [aL (.v 0)] [] 16 0)
noncomputable def Af6:Bool:=(List.range 6).all λn=>Gh (Aj1 n)
theorem Af2:Af6=true:=by kernel_rfl
theorem AcC{l:List Rat}(hz:∀ x∈l,x=0)(hn:l.length≤5){M:Nat→Prop}{w:World}{v:Value}(hm0:∀ b,M b→b<w.heap.size)(hv:(XP.rats l).p M w [v]) :
  Calls Tryz.prog 26 #[v] w λe w'=>e = .returned (.bool true)∧Below w.heap.size w w':=by
 have hF:Bi (Er l 0) (Aij l.length):=EC (λ_=>rfl) (λx hx=>by
  rw [List.mem_singleton] at hx;subst hx;simp [lD,Er]) (λx hx=>by
  rw [List.mem_singleton] at hx;subst hx;intro y hy;have hy:y∈l:=by simpa [lD,Er] using hy
  rw [hz y hy];exact Acz (by decide)) (λx hx=>by
  obtain ⟨i,hi,rfl⟩:=List.mem_map.1 hx;have hi:=List.mem_range.1 hi;dsimp only;refine decide_eq_true ?_;have:qD (Er l 0) (Ej 0 i)=l.getD i 0:=by simp [Ej,qD,lD,zD,Er]
  rw [this,List.getD_eq_getElem?_getD,List.getElem?_eq_getElem hi];exact hz _ (List.getElem_mem hi)) (λx hx=>by cases hx)
 have hr:=Gm (List.all_eq_true.1 Af2 l.length (List.mem_range.2 (by omega)));refine Calls.mono (J4 (M:=M) (w:=w) (vs:=[v]) hF (λ_ h=>by cases h) hr hm0 ⟨v,_,rfl,EP (V:=Er l 0) (e:=.v 0) hv,rfl⟩) λe w' ⟨u,e1,e2,e3⟩=>⟨?_,e3⟩
 have e2:u = .bool true:=e2;rw [e1,e2]
def TA:CE:=.ap 83 (.v 0) (.v 20)
def ZB:CE:=.ap 83 (.v 30) (.v 21)
def Pg(C:Nat):PE:=⟨11,λxs=>match xs with
 | [.agg l]=>if Gv l yN then some (.tup [aM TA,.val (.int .i64 (C:Int))]) else none
 | _=>none⟩
def wF:PE:=⟨33,λxs=>match xs with
 | [.ext 1 false (.ap 64 m (.lit 0)),.agg l]=>if CE.beq m TA && Gv l VB then some (aM ZB) else none
 | _=>none⟩
def yH(ps:List Nat):PE:=⟨12,λxs=>match xs with
 | [.ext 1 false (.ap 64 m (.lit 0))]=>if CE.beq m TA || CE.beq m ZB || CE.beq m (KE (JN ps.length)) then some (.tup [aM (KE (JN ps.length)),.row ps.length (ps.map λp:Nat=>.val (.int .i64 (p:Int)))]) else none
 | _=>none⟩
def wE(t:Nat):PE:=⟨19,λxs=>match xs with
 | [.ext 1 false (.ap 64 a (.lit 0)),.ext 1 false (.ap 64 b (.lit 0))]=>if CE.beq a (KE (JN t)) && CE.beq b (KE (JN t)) then some (.val (.bool true)) else none
 | _=>none⟩
def vK(ps:List Nat):PE:=⟨26,λxs=>match xs with
 | [.ext 1 false (.ap 51 (.ap 20 (.v k) (.ap 1 (.v 0) (.lit (.ofNat p)))) _)]=>if Nat.ble 60 k && Nat.blt (k - 60) ps.length && Nat.beq (ps.getD (k - 60) 0) p then some (.val (.bool true)) else none
 | _=>none⟩
def Ae8(C:Nat)(ps:List Nat):Fa:=⟨[],(List.range ps.length).map λi=>(.v (60+i),0,(C:Int)),(List.range ps.length).map λi=>(.v (60+i),1920000),
 (List.range ps.length).flatMap λk=>(List.range ps.length).map λi=>(.ap 32 (Ej (60+k) (ps.getD i 0)) (if i=k then q1C else q0C),true),[],[],[]⟩
noncomputable def Aix(C:Nat)(ps:List Nat):List PE:=[Aaq,Pg C,yH ps,wF,wE ps.length,vK ps,Mf (Ae8 C ps)]
noncomputable def kE(C:Nat)(ps:List Nat):Option AV:=bL [.leaf] (BR AC (Dd (Wn (Ae8 C ps) (Aix C ps)) AC 400) 7 [.agg yN,.agg VB] [] 16 0)
noncomputable def N3(C a n:Nat):Bool:=(((P3 C 4 0).drop a).take n).all λps=>Gh (kE C ps)
noncomputable def If(C a:Nat):Bool:=((P3 C 4 0).drop a).all λps=>Gh (kE C ps)
theorem QQ{C a n b:Nat}(e:a+n=b)(h1:N3 C a n=true)(h2:If C b=true):If C a=true:=dX h1 (by rw [List.drop_drop,e]; exact h2)
theorem Adp:If 0 0=true:=by kernel_rfl
theorem AeO:If 1 0=true:=by kernel_rfl
theorem AeS:If 2 0=true:=by kernel_rfl
theorem AfZ:If 3 0=true:=by kernel_rfl
theorem AdW:N3 4 0 6=true:=by kernel_rfl
theorem AdS:N3 4 6 6=true:=by kernel_rfl
theorem Afg:If 4 12=true:=by kernel_rfl
theorem AcQ:N3 5 0 4=true:=by kernel_rfl
theorem Afx:N3 5 4 4=true:=by kernel_rfl
theorem AcL:N3 5 8 4=true:=by kernel_rfl
theorem uT:N3 5 12 4=true:=by kernel_rfl
theorem yI:N3 5 16 4=true:=by kernel_rfl
theorem uP:N3 5 20 4=true:=by kernel_rfl
theorem tU:N3 5 24 4=true:=by kernel_rfl
theorem Agm:If 5 28=true:=by kernel_rfl
theorem AjZ:If 0 0=true:=Adp
theorem AjU:If 1 0=true:=AeO
theorem AjD:If 2 0=true:=AeS
theorem Ajx:If 3 0=true:=AfZ
theorem Ajy:If 4 0=true:=QQ (n:=6) (b:=6) rfl AdW (QQ (n:=6) (b:=12) rfl AdS (Afg))
theorem Ajv:If 5 0=true:=QQ (n:=4) (b:=4) rfl AcQ (QQ (n:=4) (b:=8) rfl Afx (QQ (n:=4) (b:=12) rfl AcL (QQ (n:=4) (b:=16) rfl uT (QQ (n:=4) (b:=20) rfl yI (QQ (n:=4) (b:=24) rfl uP (QQ (n:=4) (b:=28) rfl tU (Agm)))))))
theorem Adi:∀ C,C≤5→If C 0=true
 | 0,_=>AjZ
 | 1,_=>AjU
 | 2,_=>AjD
 | 3,_=>Ajx
 | 4,_=>Ajy
 | 5,_=>Ajv
theorem Aga{C:Nat}{ps:List Nat}(h:If C 0=true)(hm:ps∈P3 C 4 0):Gh (kE C ps)=true:=by
 have h:((P3 C 4 0).drop 0).all (λps=>Gh (kE C ps))=true:=h;rw [List.drop_zero] at h;exact List.all_eq_true.1 h _ hm
theorem Agl{C:Nat}{ps:List Nat}(hC:C≤5)(hm:ps∈P3 C 4 0):Gh (kE C ps)=true:=Aga (Adi C hC) hm
end Go.Proofs.YtdopbgnkneeceaaGreat

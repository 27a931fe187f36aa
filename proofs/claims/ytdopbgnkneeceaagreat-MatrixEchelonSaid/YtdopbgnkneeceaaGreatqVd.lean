/- An abstract machine: operations upon values, and those that make objects. -/
import Derived.Test.YtdopbgnkneeceaaGreatqVa
import Derived.Great.BuildSlice
set_option linter.unusedSectionVars false
set_option linter.unusedVariables false
set_option linter.unusedSimpArgs false
set_option maxRecDepth 100000
namespace Go.Proofs.YtdopbgnkneeceaaGreat
open Go.RowKit
section
variable [Cd]
section
variable {ρ : Bg} {M A : Nat → Prop} {w : World} {t0 : Nat} {Hr : Nat → Option OB} {H : HP} {ev : Operand → Option AV} {ρv : Operand → Value} {r : AV} {R : List Nat} {U : HP} {op : Op}
def I5:AV→Option (List AV)
 | .agg l=>some l
 | .any=>none
 | .tup _=>none
 | .val v=>if KZ v then some [.val v] else none
 | .ext n ag c=>some [.ext n ag c]
 | a=>some [a]
theorem UY{v:Value}(h:KZ v=true):v.cells = #[v]:=by
 unfold KZ at h;split at h <;> first | rfl | cases h
theorem bC{v:Value}(h:v.oneCell'=true):v.cells = #[v]:=by
 cases v <;> first | rfl | cases h
theorem FJ{a:AV}{l:List AV}{v:Value}(h:I5 a=some l)(hv:RV ρ M w a v):AQ ρ M w l v.cells.toList:=by
  unfold I5 at h
  split at h
  · cases h
    obtain ⟨cs,rfl,hc⟩:=(show Bz ρ M w (.agg _) v from hv)
    exact hc
  · cases h
  · cases h
  · split at h
    · rename_i u hf
      cases h
      have hv:v=u:=hv
      subst hv
      rw [UY hf]
      exact AQ.one (by unfold Rp; exact ⟨rfl,hf⟩)
    · cases h
  · rename_i n ag c
    cases h
    cases ag with
    | true =>
      obtain ⟨cs,rfl,hr⟩:=(show Bz ρ M w (.ext n true c) v from hv)
      exact AQ.one hr
    | false =>
      have hr:Rp ρ M w (.ext n false c) [v]:=hv
      have hr2:=hr
      unfold Rp at hr2
      rw [bC ((Cd.X c).one _ _ _ hr2.2 v (by simp))]
      exact AQ.one hr
  · rename_i n1 n2 n3 n4 n5
    cases h
    have key:∀ cs:Array Value,v = .agg cs→Rp ρ M w a cs.toList→AQ ρ M w [a] v.cells.toList:=λcs e hr=>by subst e; exact AQ.one hr
    have one:Rp ρ M w a [v]→(∀ cs,v ≠ .agg cs)→AQ ρ M w [a] v.cells.toList:=λhr hne=>by
      have:v.cells = #[v]:=by
        cases v <;> first | rfl | exact absurd rfl (hne _)
      rw [this]
      exact AQ.one hr
    cases a <;> first
      | (exact absurd rfl (n1 _); done)
      | (exact absurd rfl n2; done)
      | (exact absurd rfl (n3 _); done)
      | (exact absurd rfl (n4 _); done)
      | (exact absurd rfl (n5 _ _ _); done)
      | (obtain ⟨cs,e,hr⟩:=hv; exact key cs e hr)
      | (refine one hv ?_
         have hv:=hv
         unfold RV Bz at hv
         simp only [] at hv
         unfold Rp at hv
         first
           | (obtain ⟨_,_,e,_⟩:=hv; intro cs h; rw [h] at e; cases (List.cons.inj e).1)
           | (obtain ⟨_,_,_,e,_⟩:=hv; intro cs h; rw [h] at e; cases (List.cons.inj e).1)
           | (obtain ⟨_,_,_,_,e,_⟩:=hv; intro cs h; rw [h] at e; cases (List.cons.inj e).1)
           | (obtain ⟨_,_,_,e⟩:=hv; intro cs h; rw [h] at e; cases (List.cons.inj e).1))
theorem TK:∀{vs:List Value},vs.all KZ=true→AQ ρ M w (vs.map .val) vs
 | [],_=>by unfold List.map AQ; rfl
 | v :: vs,h=>by
  rw [List.all_cons,Bool.and_eq_true] at h;rw [List.map_cons];unfold AQ;exact ⟨[v],vs,rfl,by unfold Rp; exact ⟨rfl,h.1⟩,TK h.2⟩
noncomputable def IN(T:TypeId):Option (List AV):=match (Tryz.prog.info? T).bind (·.zero) with
 | some z=>if z.cells.toList.all KZ then some (z.cells.toList.map .val) else none
 | none=>none
theorem Dt{T:TypeId}{l:List AV}(h:IN T=some l):∃ i z,Tryz.prog.info? T=some i∧i.zero=some z∧AQ ρ M w l z.cells.toList:=by
 unfold IN at h;split at h
 ·rename_i z hz
  split at h
  ·rename_i hf
   cases h
   obtain ⟨i,hi,hz⟩:=Option.bind_eq_some_iff.1 hz;exact ⟨i,z,hi,hz,TK hf⟩
  ·cases h
 ·cases h
def Ih(T:TypeId):Bool:=!(Nat.beq T 114) && !(Nat.beq T 5)
theorem Co{T:TypeId}(h:Ih T=true):T≠114∧T≠5:=by
 unfold Ih at h;rw [Bool.and_eq_true] at h;refine ⟨?_,?_⟩
 ·rintro rfl; simp at h
 ·rintro rfl; simp at h
def Q8(ev:Operand→Option AV)(x:Operand):Option (AV × List Nat × HP):=(ev x).map λa=>(a,[],[])
theorem XV{x:Operand}(he:op = .move x ∨ op = .assign x)(h:Q8 ev x=some (r,R,U))(hs:CK ρ M A w t0 Hr)(hev:∀ x a,ev x=some a→RV ρ M w a (ρv x)):CM op ρv w (BI ρ M A w t0 Hr U r):=by
 unfold Q8 at h
 cases ha:ev x with
 | none=>rw [ha] at h; cases h
 | some a =>
  rw [ha] at h
  cases h
  refine Bj (v:=ρv x) hs (λo ho=>?_) (hev _ _ ha)
  rcases he with rfl | rfl <;> (unfold execOp; rw [ho]; rfl)
def UL(ev:Operand→Option AV)(c x y:Operand):Option (AV × List Nat × HP):=do
 match ← ev c with
 | .val (.bool true)=>(ev x).map λa=>(a,[],[])
 | .val (.bool false)=>(ev y).map λa=>(a,[],[])
 | _=>none
theorem Aaw{c x y:Operand}(h:UL ev c x y=some (r,R,U))(hs:CK ρ M A w t0 Hr)(hev:∀ x a,ev x=some a→RV ρ M w a (ρv x)):CM (.pick c x y) ρv w (BI ρ M A w t0 Hr U r):=by
 simp only [UL,Option.bind_eq_bind,Option.bind_eq_some_iff] at h;obtain ⟨b,hb,h⟩:=h;have hvb:=hev _ _ hb;split at h
 ·have hvb:ρv c = .bool true:=hvb
  cases ha:ev x with
  | none=>rw [ha] at h; cases h
  | some a =>
   rw [ha] at h
   cases h
   exact Bj (v:=ρv x) hs (λo ho=>Ho (b:=true) hvb ho) (hev _ _ ha)
 ·have hvb:ρv c = .bool false:=hvb
  cases ha:ev y with
  | none=>rw [ha] at h; cases h
  | some a =>
   rw [ha] at h
   cases h
   exact Bj (v:=ρv y) hs (λo ho=>Ho (b:=false) hvb ho) (hev _ _ ha)
 ·cases h
def pR(ev:Operand→Option AV)(x:Operand)(k:Nat):Option (AV × List Nat × HP):=do
 match ← ev x with
 | .tup l=>(l[k]?).map λa=>(a,[],[])
 | _=>none
theorem CH.get:∀{l:List AV}{vs:List Value}{k:Nat}{a:AV},CH ρ M w l vs→l[k]? = some a→∃ v,vs[k]? = some v∧Bz ρ M w a v
 | [],_,_,_,_,h=>by simp at h
 | b :: l,vs,k,a,hr,h=>by
  obtain ⟨v,r,rfl,h1,h2⟩:=hr
  cases k with
  | zero=>simp at h; subst h; exact ⟨v,rfl,h1⟩
  | succ k=>simpa using CH.get h2 (by simpa using h)
theorem Agn{x:Operand}{k:Nat}(h:pR ev x k=some (r,R,U))(hs:CK ρ M A w t0 Hr)(hev:∀ x a,ev x=some a→RV ρ M w a (ρv x)):CM (.extract x k) ρv w (BI ρ M A w t0 Hr U r):=by
 simp only [pR,Option.bind_eq_bind,Option.bind_eq_some_iff] at h;obtain ⟨b,hb,h⟩:=h;have hvb:=hev _ _ hb;split at h
 ·rename_i l
  cases hl:l[k]? with
  | none=>rw [hl] at h; cases h
  | some a =>
   rw [hl] at h
   cases h
   obtain ⟨vs,e,hvs⟩:=hvb;obtain ⟨v,hv,hr⟩:=hvs.get hl;refine Bj (v:=v) hs (λo ho=>?_) hr.rv;unfold execOp;rw [ho];have hv':vs[k]? = some v:=by simpa using hv
   simp [go_sem,e,hv']
 ·cases h
def oQ(ev:Operand→Option AV)(x:Operand):Option (AV × List Nat × HP):=do
 match ← ev x with
 | .ptr o off=>some (.ptr o off,[],[])
 | .rptr l=>some (.rptr l,[],[])
 | _=>none
theorem AeH{x:Operand}(h:oQ ev x=some (r,R,U))(hs:CK ρ M A w t0 Hr)(hev:∀ x a,ev x=some a→RV ρ M w a (ρv x)):CM (.nilCheck x) ρv w (BI ρ M A w t0 Hr U r):=by
 simp only [oQ,Option.bind_eq_bind,Option.bind_eq_some_iff] at h;obtain ⟨b,hb,h⟩:=h;have hvb:=hev _ _ hb;have go:∀ g off,ρv x = .pointer (some ⟨g,off,none⟩)→∀ o:Oper,o.op = .nilCheck x→(execOp ρv o).run Tryz.prog w = .ok (.value (ρv x)) w:=λg off e o ho=>by
  unfold execOp;rw [ho];simp only [e];rfl
 split at h
 ·cases h
  have hv:Rp ρ M w _ [ρv x]:=hvb;have hv2:=hv;unfold Rp at hv2;obtain ⟨g,c,_,e2⟩:=hv2;exact Bj hs (go g _ (List.cons.inj e2).1) hvb
 ·cases h
  have hv:Rp ρ M w _ [ρv x]:=hvb;have hv2:=hv;unfold Rp at hv2;obtain ⟨g,off,_,e2,_⟩:=hv2;exact Bj hs (go g _ (List.cons.inj e2).1) hvb
 ·cases h
def kJ(op:BinOp)(k:IntKind)(a b:Int):Option Value:=match op with
 | .eql=>some (.bool (a == b))
 | .neq=>some (.bool (a != b))
 | .lss=>some (.bool (decide (a<b)))
 | .leq=>some (.bool (decide (a≤b)))
 | .gtr=>some (.bool (decide (b<a)))
 | .geq=>some (.bool (decide (b≤a)))
 | .add=>some (.int k (k.wrap (a+b)))
 | .sub=>some (.int k (k.wrap (a - b)))
 | .mul=>some (.int k (k.wrap (a*b)))
 | .rem=>if b == 0 then none else some (.int k (a.tmod b))
 | _=>none
noncomputable def yS(o:BinOp)(k:IntKind)(T:TypeId)(p q:Int):Option Value:=match o,k with
 | .and,.i64=>if Nat.beq T 3 then some (.int .i64 (bits .and .i64 p q)) else none
 | .shr,.i64=>if Nat.beq T 3 && decide (0≤q) && decide (q<64) then some (.int .i64 (p / 2 ^ q.toNat)) else none
 | _,_=>none
def Afp:AV→Option Bool
 | .val (.slice none _ _)=>some true
 | .val (.slice (some _) _ _)=>some false
 | .sl _ _ _ _=>some false
 | .slx _ _=>some false
 | .rats (_ :: _)=>some false
 | .row (_+1) _=>some false
 | _=>none
theorem M6{a:AV}{b:Bool}{v:Value}(h:Afp a=some b)(hv:RV ρ M w a v):∃ A n c,v = .slice A n c∧A.isNone=b:=by
 unfold Afp at h;split at h
 ·cases h; exact ⟨none,_,_,hv,rfl⟩
 ·cases h; exact ⟨some _,_,_,hv,rfl⟩
 ·cases h
  have hv:Rp ρ M w (.sl _ _ _ _) [v]:=hv;unfold Rp at hv;obtain ⟨g,c,k,_,e,_⟩:=hv;exact ⟨_,_,_,(List.cons.inj e).1,rfl⟩
 ·cases h
  have hv:Rp ρ M w (.slx _ _) [v]:=hv;unfold Rp at hv;obtain ⟨g,c,k,_,e,_⟩:=hv;exact ⟨_,_,_,(List.cons.inj e).1,rfl⟩
 ·rename_i q l
  cases h
  have hv:Rp ρ M w (.rats (q :: l)) [v]:=hv;unfold Rp at hv;obtain ⟨A,c,e,_,hr⟩:=hv;obtain ⟨g,off,xs,e1,_⟩:=hr (by simp);exact ⟨A,_,_,(List.cons.inj e).1,by rw [e1]; rfl⟩
 ·rename_i n l
  cases h
  have hv:Rp ρ M w (.row (n+1) l) [v]:=hv;unfold Rp at hv;obtain ⟨A,c,e,_,hr⟩:=hv;obtain ⟨g,off,xs,e1,_⟩:=hr (by simp);exact ⟨A,_,_,(List.cons.inj e).1,by rw [e1]; rfl⟩
 ·cases h
noncomputable def qY(o:BinOp)(T:TypeId)(a:AV):Option (AV × List Nat × HP):=match N0 T,Afp a,o with
 | some (.slice _),some b,.eql=>some (.val (.bool b),[],[])
 | some (.slice _),some b,.neq=>some (.val (.bool (!b)),[],[])
 | _,_,_=>none
theorem H8{T e:TypeId}{A:Option Addr}{n c n' c':Nat}(hd:Tryz.prog.underlying T=some (.slice e)):(Op.equal T (.slice A n c) (.slice none n' c')).run Tryz.prog w = .ok A.isNone w:=by
 unfold Op.equal;rw [show Op.maxDepth=9999+1 from rfl];unfold Op.equalIn
 cases A <;> simp [Sem.run_bind,run_underlying hd]
noncomputable def qR(ev:Operand→Option AV)(o:BinOp)(T:TypeId)(x y:Operand)(T2:TypeId):Option (AV × List Nat × HP):=match ev x,ev y with
 | some (.val (.int k p)),some (.val (.int k' q))=>if k=k' then (match kJ o k p q with
   | some v=>some (.val v,[],[])
   | none=>(yS o k T p q).map λv=>(.val v,[],[])) else none
 | some (.val (.bool p)),some (.val (.bool q))=>if Nat.beq T 4 && Nat.beq T2 4 then (match o with
   | .eql=>some (.val (.bool (p == q)),[],[])
   | .neq=>some (.val (.bool (p != q)),[],[])
   | _=>none) else none
 | some a,some (.val (.slice none _ _))=>qY o T a
 | _,_=>none
theorem CP{v:Value}(hs:CK ρ M A w t0 Hr)(h:∃ v' w',(∀ o:Oper,o.op=op→(execOp ρv o).run Tryz.prog w = .ok (.value v') w')∧w'=w∧v'=v):CM op ρv w (BI ρ M A w t0 Hr [] (.val v)):=by
 obtain ⟨v',w',hr,rfl,rfl⟩:=h;exact Bj hs hr rfl
theorem Mb{o:BinOp}{k:IntKind}{p q:Int}{v:Value}{T T2:TypeId}{x y:Operand}(h:kJ o k p q=some v)(hx:ρv x = .int k p)(hy:ρv y = .int k q):∃ v' w',(∀ z:Oper,z.op = .binOp o T x y T2→(execOp ρv z).run Tryz.prog w = .ok (.value v') w')∧w'=w∧v'=v:=by
  cases o <;> simp only [kJ] at h <;> first
    | (cases h; done)
    | (cases h
       refine ⟨_,w,λz hz=>?_,rfl,rfl⟩
       unfold execOp
       rw [hz]
       simp [go_sem,hx,hy]
       done)
    | (split at h
       · cases h
       · rename_i hb
         cases h
         have hb:q≠0:=by simpa using hb
         refine ⟨_,w,λz hz=>?_,rfl,rfl⟩
         unfold execOp
         rw [hz]
         simp [go_sem,hx,hy,hb])
theorem oC{o:BinOp}{k:IntKind}{p q:Int}{v:Value}{T T2:TypeId}{x y:Operand}(h:yS o k T p q=some v)(hx:ρv x = .int k p)(hy:ρv y = .int k q):∃ v' w',(∀ z:Oper,z.op = .binOp o T x y T2→(execOp ρv z).run Tryz.prog w = .ok (.value v') w')∧w'=w∧v'=v:=by
 unfold yS at h;split at h
 ·split at h
  ·rename_i hT
   cases h
   have hT:=Nat.eq_of_beq_eq_true hT;subst hT;refine ⟨_,w,λz hz=>?_,rfl,rfl⟩;unfold execOp;rw [hz];simp [go_sem,hx,hy]
  ·cases h
 ·split at h
  ·rename_i hT
   cases h
   rw [Bool.and_eq_true,Bool.and_eq_true] at hT;have hT1:=Nat.eq_of_beq_eq_true hT.1.1;have h0:=of_decide_eq_true hT.1.2;have h1:=of_decide_eq_true hT.2;subst hT1;refine ⟨_,w,λz hz=>?_,rfl,rfl⟩;unfold execOp;rw [hz];simp [go_sem,hx,hy,h0,h1]
  ·cases h
 ·cases h
theorem AeW{o:BinOp}{T T2:TypeId}{x y:Operand}(h:qR ev o T x y T2=some (r,R,U))(hs:CK ρ M A w t0 Hr)(hev:∀ x a,ev x=some a→RV ρ M w a (ρv x)):CM (.binOp o T x y T2) ρv w (BI ρ M A w t0 Hr U r):=by
 unfold qR at h;split at h
 ·rename_i k p k' q ha hb
  have hva:ρv x = .int k p:=hev _ _ ha;have hvb:ρv y = .int k' q:=hev _ _ hb;split at h
  ·rename_i hk
   subst hk;split at h
   ·rename_i v hv
    cases h
    exact CP hs (Mb hv hva hvb)
   ·cases hv:yS o k T p q with
    | none=>rw [hv] at h; cases h
    | some v =>
     rw [hv] at h
     cases h
     exact CP hs (oC hv hva hvb)
  ·cases h
 ·rename_i p q ha hb
  have hva:ρv x = .bool p:=hev _ _ ha;have hvb:ρv y = .bool q:=hev _ _ hb;split at h
  ·rename_i hT
   rw [Bool.and_eq_true] at hT;have hT1:=Nat.eq_of_beq_eq_true hT.1;have hT2:=Nat.eq_of_beq_eq_true hT.2;subst hT1;subst hT2;split at h
   ·cases h
    refine CP hs ⟨_,w,λz hz=>?_,rfl,rfl⟩;unfold execOp;rw [hz];simp [go_sem,hva,hvb]
   ·cases h
    refine CP hs ⟨_,w,λz hz=>?_,rfl,rfl⟩;unfold execOp;rw [hz]
    cases p <;> cases q <;> simp [go_sem,hva,hvb]
   ·cases h
  ·cases h
 ·rename_i a n c ha hb
  have hvb:ρv y = .slice none n c:=hev _ _ hb;unfold qY at h;split at h
  ·rename_i e b hd hn
   have hd:Tryz.prog.underlying T=some (.slice e):=hd;obtain ⟨A',n',c',e1,e2⟩:=M6 hn (hev _ _ ha)
   cases h
   refine CP hs ⟨_,w,λz hz=>?_,rfl,rfl⟩;unfold execOp;rw [hz];simp [eqGuard,binOp,e1,hvb,H8 hd,e2]
  ·rename_i e b hd hn
   have hd:Tryz.prog.underlying T=some (.slice e):=hd;obtain ⟨A',n',c',e1,e2⟩:=M6 hn (hev _ _ ha)
   cases h
   refine CP hs ⟨_,w,λz hz=>?_,rfl,rfl⟩;unfold execOp;rw [hz];simp [eqGuard,binOp,e1,hvb,H8 hd,e2]
  ·cases h
 ·cases h
def Ae2(ev:Operand→Option AV)(o:UnOp)(x:Operand):Option (AV × List Nat × HP):=do
 match o,← ev x with
 | .not,.val (.bool b)=>some (.val (.bool (!b)),[],[])
 | .neg,.val (.int k a)=>some (.val (.int k (k.wrap (-a))),[],[])
 | _,_=>none
theorem Ahy{o:UnOp}{T:TypeId}{x:Operand}(h:Ae2 ev o x=some (r,R,U))(hs:CK ρ M A w t0 Hr)(hev:∀ x a,ev x=some a→RV ρ M w a (ρv x)):CM (.unOp o T x) ρv w (BI ρ M A w t0 Hr U r):=by
 simp only [Ae2,Option.bind_eq_bind,Option.bind_eq_some_iff] at h;obtain ⟨a,ha,h⟩:=h;have hva:=hev _ _ ha;split at h
 ·cases h
  have hva:ρv x = .bool _:=hva;refine CP hs ⟨_,w,λz hz=>?_,rfl,rfl⟩;unfold execOp;rw [hz];simp [go_sem,hva]
 ·cases h
  have hva:ρv x = .int _ _:=hva;refine CP hs ⟨_,w,λz hz=>?_,rfl,rfl⟩;unfold execOp;rw [hz];simp [go_sem,hva]
 ·cases h
noncomputable def Ug(ev:Operand→Option AV)(S D:TypeId)(x:Operand):Option (AV × List Nat × HP):=do
 let a ← ev x
 match a,N0 S,N0 D with
 | .val (.int k p),some (.int k'),some (.int k2)=>if k=k' then some (.val (.int k2 (k2.wrap p)),[],[]) else none
 | _,_,_=>none
def Kt:AV→Bool
 | .ptr _ _ | .rptr _ | .sl _ _ _ _ | .rats _ | .row _ _ | .fn _ _ _ | .slx _ _ | .epx _ _ | .yl _=>true
 | .ext n ag _=>Nat.beq n 1 && !ag
 | .val v=>KZ v
 | _=>false
def xY(ev:Operand→Option AV):List Operand→Option (List AV)
 | []=>some []
 | x :: r=>match ev x,xY ev r with
  | some a,some l=>some (a :: l)
  | _,_=>none
theorem cW{a:AV}{v:Value}(h:Kt a=true)(hv:RV ρ M w a v):Rp ρ M w a [v]:=by
  cases a <;> first
    | (cases h; done)
    | exact hv
    | (have hv:v=_:=hv
       unfold Rp
       rw [hv]
       exact ⟨rfl,h⟩)
    | (rename_i n ag c
       unfold Kt at h
       rw [Bool.and_eq_true,Bool.not_eq_true'] at h
       have:=h.2
       subst this
       exact hv)
theorem Mj(hev:∀ x a,ev x=some a→RV ρ M w a (ρv x)):∀{xs:List Operand}{l:List AV},xY ev xs=some l→l.all Kt=true→AQ ρ M w l (xs.map ρv)
 | [],l,h,_=>by cases h; unfold AQ; rfl
 | x :: xs,l,h,hsc=>by
  unfold xY at h;split at h
  ·rename_i a r h1 h2
   cases h
   rw [List.all_cons,Bool.and_eq_true] at hsc;unfold AQ;exact ⟨[ρv x],xs.map ρv,rfl,cW hsc.1 (hev _ _ h1),Mj hev h2 hsc.2⟩
  ·cases h
def AeD(ev:Operand→Option AV)(f:Fn)(xs ys:List Operand):Option (AV × List Nat × HP):=match f,xY ev xs,xY ev ys with
 | .func f,some a,some b=>if a.all Kt && b.all Kt then some (.fn f a b,[],[]) else none
 | _,_,_=>none
theorem Aia{f:Fn}{xs ys:Array Operand}(h:AeD ev f xs.toList ys.toList=some (r,R,U))(hs:CK ρ M A w t0 Hr)(hev:∀ x a,ev x=some a→RV ρ M w a (ρv x)):CM (.makeFunc f xs ys) ρv w (BI ρ M A w t0 Hr U r):=by
 unfold AeD at h;split at h
 ·rename_i f a b ha hb
  split at h
  ·rename_i hc
   cases h
   rw [Bool.and_eq_true] at hc;refine Bj (v:=.func (.func f) (xs.map ρv) (ys.map ρv)) hs (λo ho=>by unfold execOp; rw [ho]; rfl) ?_;show Rp ρ M w (.fn f a b) [_];unfold Rp;exact ⟨_,_,rfl,by simpa using Mj hev ha hc.1,by simpa using Mj hev hb hc.2⟩
  ·cases h
 ·cases h
theorem Wl{T:TypeId}{z off:Nat}{l l1 l2:List AV}{cs:Array Value}(hz:CT T=some z)(h1:Dm off l=some l1)(h2:Em z l1=some l2)(hm:mkT T l2=some r)(hl:AQ ρ M w l cs.toList) :
  ∃ v,(part T cs off).run Tryz.prog w = .ok v w∧Bz ρ M w r v:=by
 obtain ⟨d1,e1⟩:=AQ.drop h1 hl;obtain ⟨d2,e2⟩:=AQ.take h2 e1;have hex:(cs.extract off (off+z)).toList=(cs.toList.drop off).take z:=by
  rw [Array.toList_extract,List.extract_eq_take_drop,Nat.add_sub_cancel_left]
 unfold mkT at hm;split at hm
 ·cases hm
 ·rename_i d hd
  have hd:Tryz.prog.underlying T=some d:=hd;split at hm
  ·rename_i hrow
   cases hm
   have hagg:(isAgg T).run Tryz.prog w = .ok true w:=by
    unfold isAgg;rw [Sem.run_bind,run_underlying hd w]
    cases d <;> simp_all
   refine ⟨.agg (cs.extract off (off+z)),?_,?_⟩
   ·unfold CT at hz
    cases hi:Tryz.prog.info? T with
    | none=>rw [hi] at hz; cases hz
    | some i =>
     rw [hi] at hz;have hz:i.size=z:=by simpa using hz
     simp [part,hagg,sizeOf,typeInfo,hi,hz]
   ·have:=GK e2
    rw [← hex,Array.toArray_toList] at this;exact this
  ·rename_i hrow
   obtain ⟨v,e,hv⟩:=Mi hm e2;have hagg:(isAgg T).run Tryz.prog w = .ok false w:=by
    unfold isAgg;rw [Sem.run_bind,run_underlying hd w]
    cases d <;> simp_all
   have hc:cs[off]? = some v:=by
    have:((cs.toList.drop off).take z)[0]? = some v:=by rw [e]; rfl
    rw [List.getElem?_take] at this;split at this
    ·rw [List.getElem?_drop] at this
     simpa using this
    ·cases this
   exact ⟨v,by simp [part,hagg,hc],hv⟩
def Add:AV→Option (List AV)
 | .agg l=>some l
 | .rat q=>some [.rat q]
 | .num z=>some [.num z]
 | _=>none
theorem Xa{a:AV}{l:List AV}{v:Value}(h:Add a=some l)(hv:RV ρ M w a v):∃ cs,v = .agg cs∧AQ ρ M w l cs.toList:=by
 unfold Add at h;split at h
 ·cases h; exact hv
 ·cases h
  obtain ⟨cs,e,hc⟩:=hv;exact ⟨cs,e,AQ.one hc⟩
 ·cases h
  obtain ⟨cs,e,hc⟩:=hv;exact ⟨cs,e,AQ.one hc⟩
 ·cases h
noncomputable def Ma(ev:Operand→Option AV)(S:TypeId)(x:Operand)(k:Nat):Option (AV × List Nat × HP):=do
 let a ← ev x
 let l ← Add a
 let d ← N0 S
 let f ← (match d with | .struct fs=>fs[k]? | _=>none)
 let z ← CT f.type
 let l1 ← Dm f.offset l
 let l2 ← Em z l1
 let r ← mkT f.type l2
 pure (r,[],[])
theorem ZG{S:TypeId}{x:Operand}{k:Nat}(h:Ma ev S x k=some (r,R,U))(hs:CK ρ M A w t0 Hr)(hev:∀ x a,ev x=some a→RV ρ M w a (ρv x)):CM (.field S x k) ρv w (BI ρ M A w t0 Hr U r):=by
 simp only [Ma,Option.bind_eq_bind,Option.bind_eq_some_iff,Option.pure_def,Option.some.injEq,Prod.mk.injEq] at h;obtain ⟨a,ha,l,hl,d,hd,f,hf,z,hz,l1,h1,l2,h2,r',hm,rfl,rfl,rfl⟩:=h;have hva:=hev _ _ ha;have hx:=Xa hl hva;obtain ⟨cs,e,hc⟩:=hx;have hf':∃ fs,d = .struct fs∧fs[k]? = some f:=by
  cases d <;> first | (cases hf; done) | exact ⟨_,rfl,hf⟩
 obtain ⟨fs,rfl,hf⟩:=hf';have hd:Tryz.prog.underlying S=some (.struct fs):=hd;obtain ⟨v,hrun,hv⟩:=Wl hz h1 h2 hm hc;refine Bj (v:=v) hs (λo ho=>?_) hv.rv;unfold execOp;rw [ho];show Sem.run _ (Instr.field S (ρv x) k >>= λx=>pure (Next.value x)) w=_;rw [e];refine CA ?_;simp [Instr.field,Sem.run_bind,run_underlying hd,hf,asAgg,hrun]
end
end
section
variable [Cd]
theorem O7:∀(xs:List Value)(k off:Nat)(cells:Array Value),off+k+xs.length≤cells.size→(xs.zipIdx k).foldl (λcs x=>cs.setIfInBounds (off+x.2) x.1) cells=(cells.toList.take (off+k) ++ xs ++ cells.toList.drop (off+k+xs.length)).toArray
 | [],k,off,cells,_=>by simp
 | v :: rest,k,off,cells,h=>by
  rw [List.zipIdx_cons,List.foldl_cons,O7 rest (k+1) off _ (by simp at h ⊢; omega)];have e:=list_seg_step cells.toList (off+k) v rest (by simp at h ⊢; omega)
  congr 1
  simpa [Array.toList_setIfInBounds,Nat.add_assoc] using e
def Ii{α:Type}(n:Nat)(l:List α):List α:=match n with
 | 0=>[]
 | n+1=>l ++ Ii n l
theorem Mw{α:Type}(l:List α):∀ n,Ii (n+1) l=Ii n l ++ l
 | 0=>by simp [Ii]
 | n+1=>by
  show l ++ Ii (n+1) l=(l ++ Ii n l) ++ l;rw [Mw l n,List.append_assoc]
theorem H9(z:Array Value):∀ n,(madeCells z (n*z.size)).toList=Ii n z.toList
 | 0=>by simp [madeCells,Ii]
 | n+1=>by
  rw [Mw,← H9 z n];simp only [madeCells,Array.toList_map,Array.toList_range];rw [Nat.add_mul,Nat.one_mul,List.range_add,List.map_append,List.map_map]
  congr 1
  apply List.ext_getElem?;intro j;rw [List.getElem?_map]
  by_cases hj:j<z.size
  ·have h1:(n*z.size+j) % z.size=j:=by rw [Nat.mul_comm,Nat.mul_add_mod,Nat.mod_eq_of_lt hj]
   simp [List.getElem?_range,hj,h1]
  ·simp [List.getElem?_range,hj]
section
variable {ρ : Bg} {M A : Nat → Prop} {w : World} {t0 : Nat} {Hr : Nat → Option OB} {H : HP} {ev : Operand → Option AV} {ρv : Operand → Value} {r : AV} {R : List Nat} {U : HP} {op : Op}
theorem PS{l:List AV}{cs:List Value}(h:AQ ρ M w l cs):∀ n,AQ ρ M w (Ii n l) (Ii n cs)
 | 0=>by unfold Ii AQ; rfl
 | n+1=>h.app (PS h n)
theorem AQ.setAt{l l1 l2 xs:List AV}{off n:Nat}{cs ys:List Value}(h:AQ ρ M w l cs)(h1:Em off l=some l1)(h2:Dm (off+n) l=some l2)(hx:AQ ρ M w xs ys)(hn:tO xs=n):off+ys.length≤cs.length∧ys.length=n∧AQ ρ M w (l1 ++ xs ++ l2) (cs.take off ++ ys ++ cs.drop (off+ys.length)):=by
 have hl:ys.length=n:=hx.len.trans hn;obtain ⟨_,k1⟩:=AQ.take h1 h;obtain ⟨b2,k2⟩:=AQ.drop h2 h;exact ⟨by omega,hl,by rw [hl]; exact (k1.app hx).app k2⟩
def Oi(pl:Nat→Option (Nat × Nat)):List (Nat × AV)→List AV→Option (List AV)
 | [],l=>some l
 | (i,a) :: r,l=>match pl i,I5 a with
  | some (off,z),some xs=>if Nat.beq (tO xs) z then (match Em off l,Dm (off+z) l with
   | some l1,some l2=>Oi pl r (l1 ++ xs ++ l2)
   | _,_=>none) else none
  | _,_=>none
def RVp(ρ:Bg)(M:Nat→Prop)(w:World):List (Nat × AV)→List (Nat × Value)→Prop
 | [],vs=>vs=[]
 | x :: l,vs=>∃ v r,vs=(x.1,v) :: r∧RV ρ M w x.2 v∧RVp ρ M w l r
theorem IR{pl:Nat→Option (Nat × Nat)}:∀{ps:List (Nat × AV)}{vs:List (Nat × Value)}{l l':List AV}{cells:Array Value},Oi pl ps l=some l'→RVp ρ M w ps vs→AQ ρ M w l cells.toList→∃ cells',Instr.fill pl cells vs=some cells'∧AQ ρ M w l' cells'.toList
 | [],vs,l,l',cells,h,hv,hl=>by
  cases h
  have hv:vs=[]:=hv;subst hv;exact ⟨cells,rfl,hl⟩
 | (i,a) :: ps,vs,l,l',cells,h,hv,hl=>by
  obtain ⟨v,vr,rfl,hv1,hv2⟩:=hv;unfold Oi at h;split at h
  ·rename_i off z xs hp hx
   split at h
   ·rename_i hz
    split at h
    ·rename_i l1 l2 h1 h2
     have hxs:=FJ hx hv1;obtain ⟨b1,b2,k⟩:=hl.setAt h1 h2 hxs (Nat.eq_of_beq_eq_true hz);have b1:off+v.cells.size≤cells.size:=by simpa using b1
     have b2:v.cells.size=z:=by simpa using b2
     have hf:v.cells.zipIdx.foldl (λcs x=>cs.setIfInBounds (off+x.2) x.1) cells=(cells.toList.take off ++ v.cells.toList ++ cells.toList.drop (off+v.cells.toList.length)).toArray:=by
      rw [← Array.foldl_toList,Array.toList_zipIdx];have:=O7 v.cells.toList 0 off cells (by simpa using b1);simpa using this
     obtain ⟨cells',e,k'⟩:=IR (cells:=(cells.toList.take off ++ v.cells.toList ++ cells.toList.drop (off+v.cells.toList.length)).toArray) h hv2 (by simpa using k);refine ⟨cells',?_,k'⟩;unfold Instr.fill;simp only [hp];rw [if_neg (by simp [b2]; omega)];rw [← hf] at e;exact e
    ·cases h
   ·cases h
  ·cases h
def evp(ev:Operand→Option AV):List (Nat × Operand)→Option (List (Nat × AV))
 | []=>some []
 | x :: r=>match ev x.2,evp ev r with
  | some a,some l=>some ((x.1,a) :: l)
  | _,_=>none
theorem Kg(hev:∀ x a,ev x=some a→RV ρ M w a (ρv x)):∀{xs:List (Nat × Operand)}{l:List (Nat × AV)},evp ev xs=some l→RVp ρ M w l (xs.map λx=>(x.1,ρv x.2))
 | [],l,h=>by cases h; exact rfl
 | x :: xs,l,h=>by
  unfold evp at h;split at h
  ·rename_i a r h1 h2
   cases h
   exact ⟨ρv x.2,_,rfl,hev _ _ h1,Kg hev h2⟩
  ·cases h
noncomputable def AcA(T:TypeId):Option (Nat→Option (Nat × Nat)):=match N0 T with
 | some (.array _ e)=>(Tryz.prog.info? e).map λie=>λi=>some (i*ie.size,ie.size)
 | some (.struct fs)=>(fs.toList.mapM (λf=>(Tryz.prog.info? f.type).map λi=>(f.offset,i.size))).map λplaces=>λi=>places.toArray[i]?
 | _=>none
noncomputable def Rk(ev:Operand→Option AV)(T:TypeId)(ps:List (Nat × Operand)):Option (AV × List Nat × HP):=do
 let l ← evp ev ps
 let z ← IN T
 let pl ← AcA T
 let l' ← Oi pl l z
 pure (Yy l',[],[])
theorem oN{T:TypeId}{ps:Array (Nat × Operand)}(h:Rk ev T ps.toList=some (r,R,U))(hs:CK ρ M A w t0 Hr)(hev:∀ x a,ev x=some a→RV ρ M w a (ρv x)):CM (.build T ps) ρv w (BI ρ M A w t0 Hr U r):=by
 simp only [Rk,Option.bind_eq_bind,Option.bind_eq_some_iff,Option.pure_def,Option.some.injEq,Prod.mk.injEq] at h;obtain ⟨l,hl,z,hz,pl,hp,l',hf,rfl,rfl,rfl⟩:=h;obtain ⟨i,zv,hi,hzv,hr⟩:=Dt (ρ:=ρ) (M:=M) (w:=w) hz;obtain ⟨cells',hc,hk⟩:=IR hf (Kg hev hl) hr;have hb:Tryz.prog.built T (ps.toList.map λx=>(x.1,ρv x.2))=some cells':=by
  unfold Program.built;unfold AcA N0 at hp;split at hp
  ·rename_i n e hd
   simp only [hi,hd,hzv]
   cases hie:Tryz.prog.info? e with
   | none=>rw [hie] at hp; cases hp
   | some ie=>rw [hie] at hp; cases hp; exact hc
  ·rename_i fs hd
   simp only [hi,hd,hzv]
   cases hm:fs.toList.mapM (λf=>(Tryz.prog.info? f.type).map λi=>(f.offset,i.size)) with
   | none=>rw [hm] at hp; cases hp
   | some places=>rw [hm] at hp; cases hp; exact hc
  ·cases hp
 have hkk:=GK hk;rw [Array.toArray_toList] at hkk;refine Bj (v:=.agg cells') hs (λo ho=>?_) hkk.rv;unfold execOp;rw [ho];show Sem.run _ (Instr.build T (ps.map λx=>(x.1,ρv x.2)) >>= λx=>pure (Next.value x)) w=_;exact CA (run_build w T _ cells' (by rw [Array.toList_map]; exact hb))
noncomputable def Rm(t0:Nat)(T:TypeId):Option (AV × List Nat × HP):=match IN T with
 | some l=>if Ih T then some (.ptr t0 0,[],[(t0,some ⟨T,1,l,false,none⟩)]) else none
 | none=>none
theorem lH{ρ':Bg}{M':Nat→Prop}{w':World}{g c o:Nat}(h:ρ' o=some (g,c)):RV ρ' M' w' (.ptr o 0) (.pointer (some ⟨g,0,none⟩)):=by
 show Rp ρ' M' w' (.ptr o 0) [_];unfold Rp;exact ⟨g,c,h,rfl⟩
theorem kA{T:TypeId}(h:Rm t0 T=some (r,R,U))(hs:CK ρ M A w t0 Hr):CM (.alloc T) ρv w (BI ρ M A w t0 Hr U r):=by
 unfold Rm at h;split at h
 ·rename_i l hl
  split at h
  ·rename_i hT
   cases h
   obtain ⟨i,z,hi,hz,hr⟩:=Dt (ρ:=ρ) (M:=M) (w:=w) hl;refine Jf 0 hs (Co hT) hr (v:=.pointer (some ⟨w.heap.size,0,none⟩)) (λo ho=>?_) λρ' M' w' e=>lH e
   unfold execOp;rw [ho];simp [Instr.alloc,zeroValue,typeInfo,hi,hz,newVar,newRow]
  ·cases h
 ·cases h
noncomputable def oR(ev:Operand→Option AV)(t0:Nat)(T:TypeId)(x:Operand):Option (AV × List Nat × HP):=match ev x with
 | some a=>match I5 a with
  | some l=>if Ih T then some (.ptr t0 0,[],[(t0,some ⟨T,1,l,false,none⟩)]) else none
  | none=>none
 | none=>none
theorem AdD{T:TypeId}{x:Operand}(h:oR ev t0 T x=some (r,R,U))(hs:CK ρ M A w t0 Hr)(hev:∀ x a,ev x=some a→RV ρ M w a (ρv x)):CM (.box T x) ρv w (BI ρ M A w t0 Hr U r):=by
 unfold oR at h;split at h
 ·rename_i a ha
  split at h
  ·rename_i l hl
   split at h
   ·rename_i hT
    cases h
    refine Jf 0 hs (Co hT) (FJ hl (hev _ _ ha)) (v:=.pointer (some ⟨w.heap.size,0,none⟩)) (λo ho=>?_) λρ' M' w' e=>lH e
    unfold execOp;rw [ho];simp [Instr.box,newVar,newRow]
   ·cases h
  ·cases h
 ·cases h
theorem AbJ{ρ':Bg}{M':Nat→Prop}{w':World}{g c o len k:Nat}(h:ρ' o=some (g,c))(hk:len≤k):RV ρ' M' w' (.sl o 0 len (some k)) (.slice (some ⟨g,0,none⟩) len k):=by
 show Rp ρ' M' w' (.sl o 0 len (some k)) [_];unfold Rp;exact ⟨g,c,k,h,rfl,hk,λn e=>Option.some.inj e,λe=>by cases e⟩
noncomputable def K_(T:TypeId):Option Nat:=(Tryz.prog.info? T).map (·.bytes)
noncomputable def UR(ev:Operand→Option AV)(t0:Nat)(T:TypeId)(x y:Operand):Option (AV × List Nat × HP):=match ev x,ev y,N0 T with
 | some (.val (.int _ n)),some (.val (.int _ c)),some (.slice e)=>match IN e,CT e,K_ e with
  | some z,some k,some b=>if Ih e && decide (0≤n) && decide (n≤c) && decide (c≤1048576) && decide (b≤1048576) && Nat.beq (tO z) k then (if decide (n=0) && decide (0<c) then some (.sl t0 0 0 none,[],[(t0,some ⟨e,k,[],true,none⟩)]) else some (.sl t0 0 n.toNat (some c.toNat),[],[(t0,some ⟨e,k,Ii c.toNat z,false,none⟩)])) else none
  | _,_,_=>none
 | _,_,_=>none
theorem AfO{ρ':Bg}{M':Nat→Prop}{w':World}{g c o:Nat}(h:ρ' o=some (g,c)):RV ρ' M' w' (.sl o 0 0 none) (.slice (some ⟨g,0,none⟩) 0 c):=by
 show Rp ρ' M' w' (.sl o 0 0 none) [_];unfold Rp;exact ⟨g,c,c,h,rfl,Nat.zero_le _,λn e=>(by cases e),λ_=>⟨rfl,rfl⟩⟩
theorem yD{T:TypeId}{x y:Operand}(h:UR ev t0 T x y=some (r,R,U))(hs:CK ρ M A w t0 Hr)(hev:∀ x a,ev x=some a→RV ρ M w a (ρv x)):CM (.makeSlice T x y) ρv w (BI ρ M A w t0 Hr U r):=by
 unfold UR at h;split at h
 ·rename_i k1 n k2 c e hx hy hd
  have hvx:ρv x = .int k1 n:=hev _ _ hx;have hvy:ρv y = .int k2 c:=hev _ _ hy;have hd:Tryz.prog.underlying T=some (.slice e):=hd;split at h
  ·rename_i z k b hz hk hb
   split at h
   ·rename_i hc
    simp only [Bool.and_eq_true,decide_eq_true_eq] at hc;obtain ⟨⟨⟨⟨⟨hT,h0⟩,h1⟩,h2⟩,h3⟩,h4⟩:=hc;obtain ⟨i,zv,hi,hzv,hr⟩:=Dt (ρ:=ρ) (M:=M) (w:=w) hz;have hk:i.size=k:=by
     unfold CT at hk;rw [hi] at hk;exact Option.some.inj hk
    have hb:i.bytes=b:=by
     unfold K_ at hb;rw [hi] at hb;exact Option.some.inj hb
    have hzk:zv.cells.size=i.size:=by
     have:=hr.len;rw [Nat.eq_of_beq_eq_true h4] at this;rw [hk];simpa using this
    have hbc:(i.bytes:Int)*c≤281474976710656:=by
     have h5:(i.bytes:Int)≤1048576:=by omega
     calc (i.bytes:Int)*c≤1048576*1048576:=Int.mul_le_mul h5 h2 (by omega) (by omega)
      _≤281474976710656:=by decide
    have hrun:=run_make (P:=Tryz.prog) w T e i zv hd hi hzv k1 k2 n c h0 h1 hbc (by omega);have hex:∀ o:Oper,o.op = .makeSlice T x y→(execOp ρv o).run Tryz.prog w = .ok (.value (.slice (some ⟨w.heap.size,0,none⟩) n.toNat c.toNat)) (w.alloc (.cells (madeCells zv.cells (c.toNat*i.size)) e)):=λo ho=>by
     unfold execOp;rw [ho];show Sem.run _ (Instr.makeSlice T (ρv x) (ρv y) >>= λx=>pure (Next.value x)) w=_;rw [hvx,hvy];exact CA hrun
    split at h
    ·rename_i hn
     cases h
     simp only [Bool.and_eq_true,decide_eq_true_eq] at hn;obtain ⟨rfl,hn⟩:=hn;intro o ho;rw [hex o ho];exact JF hs (Co hT) (by unfold AQ; rfl) ⟨_,(List.nil_append _).symm,λh=>by cases h⟩ (λ_=>⟨by simp [madeCells,hk,Nat.mul_comm],by unfold maxLen; omega⟩) (.inl rfl) [] (λx h=>by cases h) λρ' M' e=>AfO e
    cases h
    refine Jf 0 hs (Co hT) (l:=Ii c.toNat z) (arr:=madeCells zv.cells (c.toNat*i.size)) ?_ (v:=.slice (some ⟨w.heap.size,0,none⟩) n.toNat c.toNat) hex λρ' M' w' e=>AbJ e (by omega)
    rw [← hzk,H9];exact PS hr _
   ·cases h
  ·cases h
 ·cases h
noncomputable def TV(ev:Operand→Option AV)(t0:Nat)(T:TypeId)(n:Nat)(ps:List (Nat × Operand)):Option (AV × List Nat × HP):=match N0 T,evp ev ps with
 | some (.slice e),some l=>match IN e,CT e with
  | some z,some k=>if Ih e && Nat.beq (tO z) k && !(Nat.beq k 0) && Nat.ble n 4096 && Nat.ble k 256 then (match n with
   | 0=>match l with
    | []=>some (.sl t0 0 0 (some 0),[],[(t0,some ⟨e,k,[],false,none⟩)])
    | _=>none
   | n+1=>(Oi (λi=>some (i*k,k)) l (Ii (n+1) z)).map λl'=>(.sl t0 0 (n+1) (some (n+1)),[],[(t0,some ⟨e,k,l',false,none⟩)])) else none
  | _,_=>none
 | _,_=>none
theorem Zo{T:TypeId}{n:Nat}{ps:Array (Nat × Operand)}(h:TV ev t0 T n ps.toList=some (r,R,U))(hev:∀ x a,ev x=some a→RV ρ M w a (ρv x)):∃(e:TypeId)(k:Nat)(l':List AV)(arr:Array Value),r = .sl t0 0 n (some n)∧U=[(t0,some ⟨e,k,l',false,none⟩)]∧Ih e=true∧AQ ρ M w l' arr.toList ∧
  ∀ o:Oper,o.op = .buildSlice T n ps→(execOp ρv o).run Tryz.prog w = .ok (.value (.slice (some ⟨w.heap.size,0,none⟩) n n)) (w.alloc (.cells arr e)):=by
 unfold TV at h;split at h
 ·rename_i e l hd hl
  have hd:Tryz.prog.underlying T=some (.slice e):=hd;have hev':=Kg hev hl;split at h
  ·rename_i z k hz hk
   split at h
   ·rename_i hc
    simp only [Bool.and_eq_true,Bool.not_eq_true',Nat.ble_eq] at hc;obtain ⟨⟨⟨⟨hT,h1⟩,h2⟩,h3⟩,h4⟩:=hc;have h1:tO z=k:=by simpa using h1
    have h2:k≠0:=by rintro rfl; simp at h2
    have h3:n≤4096:=h3;have h4:k≤256:=h4;obtain ⟨i,zv,hi,hzv,hr⟩:=Dt (ρ:=ρ) (M:=M) (w:=w) hz;have hk:i.size=k:=by
     unfold CT at hk;rw [hi] at hk;exact Option.some.inj hk
    have hzk:zv.cells.size=i.size:=by
     have:=hr.len;rw [h1] at this;rw [hk];simpa using this
    match n,h3,h with
    | 0,_,h =>
     simp only [] at h;split at h
     ·cases h
      have hps:ps = #[]:=by
       have:(ps.toList.map λx=>(x.1,ρv x.2))=[]:=hev';have:=List.map_eq_nil_iff.1 this;exact Array.toList_eq_nil_iff.1 this
      subst hps;refine ⟨e,k,[],#[],rfl,rfl,hT,(by unfold AQ; rfl),λo ho=>?_⟩;unfold execOp;rw [ho];simp [Instr.buildSlice,Sem.run_bind,run_underlying hd,sizeOf,typeInfo,hi,Instr.fill,newRow,Array.range_zero']
     ·cases h
    | n+1,h3,h =>
     simp only [] at h
     cases hf:Oi (λi=>some (i*k,k)) l (Ii (n+1) z) with
     | none=>rw [hf] at h; cases h
     | some l' =>
      rw [hf] at h
      cases h
      have hmk:madeCells zv.cells ((n+1)*i.size)=(Array.range ((n+1)*i.size)).map (zv.cells[· % zv.cells.size]!):=rfl;obtain ⟨cells',hc,hk'⟩:=IR (cells:=madeCells zv.cells ((n+1)*i.size)) hf hev' (by rw [← hzk,H9]; exact PS hr _);have hle:(n+1)*i.size≤4096*256:=Nat.mul_le_mul h3 (by omega);have hrun:=run_buildSlice (P:=Tryz.prog) w T e (n+1) (ps.map λx=>(x.1,ρv x.2)) cells' i zv hd hi hzv (by omega) (by rw [hk]; exact Nat.mul_ne_zero (by omega) h2) (by rw [Array.toList_map,hk,← hk,← hmk,hk]; exact hk ▸ hc);refine ⟨e,k,l',cells',rfl,rfl,hT,hk',λo ho=>?_⟩;unfold execOp;rw [ho];show Sem.run _ (Instr.buildSlice T (n+1) (ps.map λx=>(x.1,ρv x.2)) >>= λx=>pure (Next.value x)) w=_;exact CA hrun
   ·cases h
  ·cases h
 ·cases h
theorem Ae4{T:TypeId}{n:Nat}{ps:Array (Nat × Operand)}(h:TV ev t0 T n ps.toList=some (r,R,U))(hs:CK ρ M A w t0 Hr)(hev:∀ x a,ev x=some a→RV ρ M w a (ρv x)):CM (.buildSlice T n ps) ρv w (BI ρ M A w t0 Hr U r):=by
 obtain ⟨e,k,l',arr,rfl,rfl,hT,hl,hrun⟩:=Zo h hev;exact Jf n hs (Co hT) hl hrun λρ' M' w' e=>AbJ e (Nat.le_refl _)
theorem AeR:∀{a:AV}{cs:List Value},Rp ρ M w a cs→∀ v∈cs,v.oneCell'=true:=by
  intro a cs h v hv
  have int2:∀{x y:Value}{z:Int},Al w (.agg #[x,y]) z→x.oneCell'=true∧y.oneCell'=true:=fun {x y z} i=>by
    obtain ⟨s,e,A',c,e2,_⟩:=i
    simp only [Value.agg.injEq] at e
    have e:=congrArg Array.toList e
    simp only [List.cons.injEq] at e
    rw [e.1,e.2.1,e2]
    exact ⟨rfl,rfl⟩
  cases a <;> unfold Rp at h <;> first
    | exact h.elim
    | (obtain ⟨rfl,hf⟩:=h
       rw [List.mem_singleton] at hv
       subst hv
       unfold KZ at hf
       split at hf <;> first | rfl | cases hf)
    | (obtain ⟨x,y,rfl,i⟩:=h
       have:=int2 i
       simp only [List.mem_cons,List.not_mem_nil,or_false] at hv
       rcases hv with rfl | rfl
       · exact this.1
       · exact this.2)
    | (obtain ⟨x,y,x2,y2,rfl,i,j⟩:=h
       have h1:=int2 i
       have h2:=int2 j
       simp only [List.mem_cons,List.not_mem_nil,or_false] at hv
       rcases hv with rfl | rfl | rfl | rfl
       · exact h1.1
       · exact h1.2
       · exact h2.1
       · exact h2.2)
    | exact (Cd.X _).one _ _ _ h.2 v hv
    | (obtain ⟨_,_,rfl,_⟩:=h; rw [List.mem_singleton] at hv; subst hv; rfl)
    | (obtain ⟨_,_,_,rfl,_⟩:=h; rw [List.mem_singleton] at hv; subst hv; rfl)
    | (obtain ⟨_,_,_,_,rfl,_⟩:=h; rw [List.mem_singleton] at hv; subst hv; rfl)
    | (obtain ⟨_,_,_,rfl⟩:=h; rw [List.mem_singleton] at hv; subst hv; rfl)
theorem PV:∀{l:List AV}{cs:List Value},AQ ρ M w l cs→∀ v∈cs,v.oneCell'=true
 | [],_,h,v,hv=>by unfold AQ at h; subst h; cases hv
 | _ :: _,_,h,v,hv=>by
  unfold AQ at h;obtain ⟨x,y,rfl,h1,h2⟩:=h
  rcases List.mem_append.1 hv with hv | hv
  ·exact AeR h1 v hv
  ·exact PV h2 v hv
noncomputable def Ps(H:HP)(ev:Operand→Option AV)(T:TypeId)(x y:Operand):Option (AV × List Nat × HP):=match ev x,ev y with
 | some (.ptr o off),some a=>match lk H o,CT T,I5 a with
  | some b,some n,some xs=>if b.bl.isNone && Nat.beq (tO xs) n then (match Em off b.cs,Dm (off+n) b.cs with
   | some l1,some l2=>some (.val undef,[o],[(o,some { b with cs:=l1 ++ xs ++ l2 })])
   | _,_=>none) else none
  | _,_,_=>none
 | _,_=>none
theorem lA{T:TypeId}{x y:Operand}(h:Ps H ev T x y=some (r,R,U))(hs:CK ρ M A w t0 Hr)(hag:∀ o∈R,Hr o=lk H o)(hev:∀ x a,ev x=some a→RV ρ M w a (ρv x)):CM (.store T x y) ρv w (BI ρ M A w t0 Hr U r):=by
 unfold Ps at h;split at h
 ·rename_i o off a hx hy
  split at h
  ·rename_i b n xs hb hn hxs
   split at h
   ·rename_i hz
    rw [Bool.and_eq_true] at hz;have hbn:b.bl=none:=by simpa using hz.1
    have hz:=hz.2;split at h
    ·rename_i l1 l2 h1 h2
     cases h
     have hbr:Hr o=some b:=(hag o (by simp)).trans hb;obtain ⟨g,c,arr,cs,k⟩:=hs.heap.obj o b hbr;have hv:Rp ρ M w (.ptr o off) [ρv x]:=hev _ _ hx;unfold Rp at hv;obtain ⟨g',c',e1,e2⟩:=hv;rw [k.at_] at e1;simp only [Option.some.injEq,Prod.mk.injEq] at e1;have hpx:ρv x = .pointer (some ⟨g,off,none⟩):=by rw [e1.1]; exact (List.cons.inj e2).1
     have hl:=FJ hxs (hev _ _ hy);obtain ⟨b1,b2,kk⟩:=(k.cells.rps hbn).setAt h1 h2 hl (Nat.eq_of_beq_eq_true hz);obtain ⟨tl,he,ht⟩:=k.pre;have hsz:arr.size=cs.length+tl.length:=by rw [← List.length_append,← he]; simp
     have hrun:(Instr.storeAt T (.pointer (some ⟨g,off,none⟩)) (ρv y)).run Tryz.prog w = .ok () (w.setRow g (arr.toList.take off ++ (ρv y).cells.toList ++ arr.toList.drop (off+(ρv y).cells.toList.length)).toArray):=by
      have:=run_storeCells_at Tryz.prog g off b.ty (ρv y).cells.toList 0 arr w k.blk (by omega) (PV hl);simp only [Nat.add_zero] at this;unfold CT at hn
      cases hi:Tryz.prog.info? T with
      | none=>rw [hi] at hn; cases hn
      | some i =>
       rw [hi] at hn;have hn:i.size=n:=by simpa using hn
       have hs':(ρv y).cells.size=i.size:=by rw [hn]; simpa using b2
       simp [Instr.storeAt,Instr.sureAddr,storeVar,Sem.run_bind,sizeOf,typeInfo,hi,hs',this]
     intro o' ho';have hex:(execOp ρv o').run Tryz.prog w = .ok .skip (w.setRow g (arr.toList.take off ++ (ρv y).cells.toList ++ arr.toList.drop (off+(ρv y).cells.toList.length)).toArray):=by
      unfold execOp;rw [ho'];show Sem.run _ (Instr.storeAt T (ρv x) (ρv y) >>= λ_=>pure Next.skip) w=_;rw [hpx];exact XM hrun
     rw [hex];refine S8 hs hbr hbn k kk ⟨tl,?_,ht⟩ ?_ o false (.inl ⟨rfl,rfl⟩) _ _ λ_ _ _ _ _=>rfl
     ·rw [he,List.take_append_of_le_length (by omega),List.drop_append_of_le_length (by omega)]
      simp
     ·simp only [List.size_toArray,List.length_append,List.length_take,List.length_drop,Array.length_toList]
      have:(ρv y).cells.toList.length=(ρv y).cells.size:=by simp
      omega
    ·cases h
   ·cases h
  ·cases h
 ·cases h
end
end
section
variable [Cd]
section
variable {ρ : Bg} {M A : Nat → Prop} {w : World} {t0 : Nat} {Hr : Nat → Option OB} {H : HP} {ev : Operand → Option AV} {ρv : Operand → Value} {r : AV} {R : List Nat} {U : HP} {op : Op}
def mOk(h n:Nat):Option Nat→Bool
 | none=>Nat.ble h n
 | some m=>Nat.ble h m && Nat.ble m n
theorem Hd{h n:Nat}{m:Option Nat}(k:mOk h n m=true):h≤n∧∀ x,m=some x→h≤x∧x≤n:=by
 cases m with
 | none=>exact ⟨Nat.le_of_ble_eq_true k,λx e=>by cases e⟩
 | some m =>
  unfold mOk at k;rw [Bool.and_eq_true] at k;have k1:=Nat.le_of_ble_eq_true k.1;have k2:=Nat.le_of_ble_eq_true k.2;exact ⟨by omega,λx e=>by cases e; exact ⟨k1,k2⟩⟩
def AhM(cap m:Option Nat):Option Nat:=match m with
 | none=>cap
 | some m=>some m
def ZX(a:AV)(h:Nat)(m:Option Nat):Option AV:=match a with
 | .sl o off len cap=>if mOk h len m then some (.sl o off h (AhM cap m)) else none
 | .rats l=>if mOk h l.length m then some (.rats (l.take h)) else none
 | .row n l=>if mOk h n m then some (.row h l) else none
 | .val (.slice none 0 0)=>if mOk h 0 m then some (.val (.slice none 0 0)) else none
 | _=>none
theorem AI.take:∀{l:List Rat}{cs:List Value}(n:Nat),AI w l cs→AI w (l.take n) (cs.take (4*n))
 | _,_,0,_=>by simp [AI]
 | [],_,n+1,h=>by unfold AI at h; subst h; simp [AI]
 | q :: l,_,n+1,h=>by
  unfold AI at h;obtain ⟨a,b,c,d,r,rfl,h1,h2,h3⟩:=h;rw [List.take_succ_cons,show 4*(n+1)=4*n+1+1+1+1 by omega,List.take_succ_cons,List.take_succ_cons,List.take_succ_cons,List.take_succ_cons];exact ⟨a,b,c,d,_,rfl,h1,h2,AI.take n h3⟩
theorem NF{a:AV}{h:Nat}{m:Option Nat}(hc:ZX a h m=some r){v:Value}(hv:RV ρ M w a v):∃ Ad n c,v = .slice Ad n c∧h≤n∧n≤c∧(∀ x,m=some x→h≤x∧x≤n)∧RV ρ M w r (.slice Ad h (m.getD c)):=by
 unfold ZX at hc;split at hc
 ·rename_i o off len cap
  split at hc
  ·rename_i hm
   obtain ⟨m1,m2⟩:=Hd hm
   cases hc
   have hv:Rp ρ M w (.sl o off len cap) [v]:=hv;unfold Rp at hv;obtain ⟨g,c,k,e1,e2,e3,e4,e5⟩:=hv;refine ⟨_,len,k,(List.cons.inj e2).1,m1,e3,m2,?_⟩;show Rp ρ M w (.sl o off h (AhM cap m)) [_];unfold Rp
   cases m with
   | none=>exact ⟨g,c,k,e1,rfl,by omega,e4,e5⟩
   | some x=>exact ⟨g,c,x,e1,rfl,(m2 x rfl).1,λn e=>Option.some.inj e,λe=>by cases e⟩
  ·cases hc
 ·rename_i l
  split at hc
  ·rename_i hm
   obtain ⟨m1,m2⟩:=Hd hm
   cases hc
   have hv:Rp ρ M w (.rats l) [v]:=hv;unfold Rp at hv;obtain ⟨Ad,c,e,hc,hr⟩:=hv;have hl:(l.take h).length=h:=by rw [List.length_take]; omega
   refine ⟨Ad,l.length,c,(List.cons.inj e).1,m1,hc,m2,?_⟩;show Rp ρ M w (.rats (l.take h)) [_];unfold Rp;refine ⟨Ad,m.getD c,by rw [hl],?_,λh0=>?_⟩
   ·rw [hl]
    cases m with
    | none=>show h≤c; omega
    | some x=>exact (m2 x rfl).1
   ·obtain ⟨g,off,xs,e1,k1,k2,k3,k4⟩:=hr (by rw [hl] at h0; omega)
    exact ⟨g,off,_,e1,k1,k2,BH k3,AI.take h k4⟩
  ·cases hc
 ·rename_i n l
  split at hc
  ·rename_i hm
   obtain ⟨m1,m2⟩:=Hd hm
   cases hc
   have hv:Rp ρ M w (.row n l) [v]:=hv;unfold Rp at hv;obtain ⟨Ad,c,e,hc,hr⟩:=hv;refine ⟨Ad,n,c,(List.cons.inj e).1,m1,hc,m2,?_⟩;show Rp ρ M w (.row h l) [_];unfold Rp;refine ⟨Ad,m.getD c,rfl,?_,λh0=>hr (by omega)⟩
   cases m with
   | none=>show h≤c; omega
   | some x=>exact (m2 x rfl).1
  ·cases hc
 ·split at hc
  ·rename_i hm
   obtain ⟨m1,m2⟩:=Hd hm
   cases hc
   have hv:v = .slice none 0 0:=hv;have h0:h=0:=by omega
   subst h0;refine ⟨none,0,0,hv,m1,Nat.le_refl _,m2,?_⟩
   cases m with
   | none=>rfl
   | some x =>
    have:x=0:=by have:=(m2 x rfl).2; omega
    rw [this]; rfl
  ·cases hc
 ·cases hc
noncomputable def Ph(ev:Operand→Option AV)(T:TypeId)(x:Operand)(lo hi mx:Option Operand):Option (AV × List Nat × HP):=match lo,hi,N0 T,ev x with
 | none,some hi,some (.slice e),some a=>match ev hi with
  | some (.val (.int _ h))=>if decide (0≤h) && (CT e).isSome then (match mx with
   | none=>(ZX a h.toNat none).map λr=>(r,[],[])
   | some mx=>match ev mx with
    | some (.val (.int _ m))=>if decide (0≤m) then (ZX a h.toNat (some m.toNat)).map λr=>(r,[],[]) else none
    | _=>none) else none
  | _=>none
 | _,_,_,_=>none
theorem On{T e:TypeId}{z h n c:Nat}{Ad:Option Addr}{kh:IntKind}(hd:Tryz.prog.underlying T=some (.slice e))(hz:CT e=some z)(h1:h≤n)(h2:n≤c):(Instr.sliceAt T (.slice Ad n c) none (some (.int kh (h:Int))) none).run Tryz.prog w = .ok (.slice Ad h c) w:=by
 unfold CT at hz
 cases hi:Tryz.prog.info? e with
 | none=>rw [hi] at hz; cases hz
 | some j =>
  have h3:h≤c:=by omega
  simp [Instr.sliceAt,Instr.slice,Instr.sliceBounds,Instr.sliceBound,asIntOf,Sem.run_bind,run_underlying hd,sizeOf,typeInfo,hi,h3];intro _
  cases Ad <;> simp [Addr.add]
theorem Np{T e:TypeId}{z h m n c:Nat}{Ad:Option Addr}{kh km:IntKind}(hd:Tryz.prog.underlying T=some (.slice e))(hz:CT e=some z)(h0:h≤m)(h1:m≤c):(Instr.sliceAt T (.slice Ad n c) none (some (.int kh (h:Int))) (some (.int km (m:Int)))).run Tryz.prog w = .ok (.slice Ad h m) w:=by
 unfold CT at hz
 cases hi:Tryz.prog.info? e with
 | none=>rw [hi] at hz; cases hz
 | some j =>
  simp [Instr.sliceAt,Instr.slice,Instr.sliceBounds,Instr.sliceBound,asIntOf,Sem.run_bind,run_underlying hd,sizeOf,typeInfo,hi,h0,h1];intro _
  cases Ad <;> simp [Addr.add]
theorem iT{T:TypeId}{x:Operand}{lo hi mx:Option Operand}(h:Ph ev T x lo hi mx=some (r,R,U))(hs:CK ρ M A w t0 Hr)(hev:∀ x a,ev x=some a→RV ρ M w a (ρv x)):CM (.slice T x lo hi mx) ρv w (BI ρ M A w t0 Hr U r):=by
 unfold Ph at h;split at h
 ·rename_i hi e a hd ha
  have hd:Tryz.prog.underlying T=some (.slice e):=hd;split at h
  ·rename_i kh hh hhi
   have hvh:ρv hi = .int kh hh:=hev _ _ hhi;split at h
   ·rename_i hc
    rw [Bool.and_eq_true] at hc;have h0:=of_decide_eq_true hc.1;obtain ⟨z,hz⟩:=Option.isSome_iff_exists.1 hc.2;have hhn:hh=((hh.toNat:Nat):Int):=(Int.toNat_of_nonneg h0).symm;split at h
    ·cases hcut:ZX a hh.toNat none with
     | none=>rw [hcut] at h; cases h
     | some r' =>
      rw [hcut] at h
      cases h
      obtain ⟨Ad,n,c,e1,e2,e3,_,e5⟩:=NF hcut (hev _ _ ha);refine Bj hs (λo ho=>?_) e5;unfold execOp;rw [ho];show Sem.run _ (Instr.sliceAt T (ρv x) none (some (ρv hi)) none >>= λx=>pure (Next.value x)) w=_;rw [e1,hvh,hhn];exact CA (On hd hz (by omega) e3)
    ·rename_i mx
     split at h
     ·rename_i km m hm
      have hvm:ρv mx = .int km m:=hev _ _ hm;split at h
      ·rename_i hm0
       have hm0:=of_decide_eq_true hm0;have hmn:m=((m.toNat:Nat):Int):=(Int.toNat_of_nonneg hm0).symm
       cases hcut:ZX a hh.toNat (some m.toNat) with
       | none=>rw [hcut] at h; cases h
       | some r' =>
        rw [hcut] at h
        cases h
        obtain ⟨Ad,n,c,e1,e2,e3,e4,e5⟩:=NF hcut (hev _ _ ha);obtain ⟨q1,q2⟩:=e4 _ rfl;refine Bj hs (λo ho=>?_) e5;unfold execOp;rw [ho];show Sem.run _ (Instr.sliceAt T (ρv x) none (some (ρv hi)) (some (ρv mx)) >>= λx=>pure (Next.value x)) w=_;rw [e1,hvh,hvm,hhn,hmn];exact CA (Np hd hz q1 (by omega))
      ·cases h
     ·cases h
   ·cases h
  ·cases h
 ·cases h
def wO:AV→Option Nat
 | .sl _ _ len _=>some len
 | .rats l=>some l.length
 | .row n _=>some n
 | .val (.slice none n _)=>some n
 | _=>none
theorem Vv{a:AV}{n:Nat}{v:Value}(h:wO a=some n)(hv:RV ρ M w a v):∃ Ad c,v = .slice Ad n c:=by
 unfold wO at h;split at h
 ·cases h
  have hv:Rp ρ M w (.sl _ _ n _) [v]:=hv;unfold Rp at hv;obtain ⟨g,c,k,_,e,_⟩:=hv;exact ⟨_,_,(List.cons.inj e).1⟩
 ·cases h
  have hv:Rp ρ M w (.rats _) [v]:=hv;unfold Rp at hv;obtain ⟨Ad,c,e,_⟩:=hv;exact ⟨_,_,(List.cons.inj e).1⟩
 ·cases h
  have hv:Rp ρ M w (.row n _) [v]:=hv;unfold Rp at hv;obtain ⟨Ad,c,e,_⟩:=hv;exact ⟨_,_,(List.cons.inj e).1⟩
 ·cases h
  exact ⟨none,_,hv⟩
 ·cases h
noncomputable def jW(ev:Operand→Option AV)(T:TypeId)(x:Operand):Option (AV × List Nat × HP):=match N0 T,ev x with
 | some (.slice _),some a=>(wO a).map λn=>(.val (.int .i64 (n:Int)),[],[])
 | _,_=>none
theorem AeP{T:TypeId}{x:Operand}(h:jW ev T x=some (r,R,U))(hs:CK ρ M A w t0 Hr)(hev:∀ x a,ev x=some a→RV ρ M w a (ρv x)):CM (.call { callee:=.builtin .len,args:=#[x],argTypes:=#[T] }) ρv w (BI ρ M A w t0 Hr U r):=by
 unfold jW at h;split at h
 ·rename_i e a hd ha
  have hd:Tryz.prog.underlying T=some (.slice e):=hd
  cases hn:wO a with
  | none=>rw [hn] at h; cases h
  | some n =>
   rw [hn] at h
   cases h
   obtain ⟨Ad,c,e1⟩:=Vv hn (hev _ _ ha);refine CP hs ⟨_,w,λo ho=>?_,rfl,rfl⟩;unfold execOp;rw [ho];simp [resolve,invoke,builtin,Builtin.len_,Sem.run_bind,run_underlying hd,e1,goInt]
 ·cases h
noncomputable def Aeq(ev:Operand→Option AV)(mx:Bool)(x y:Operand):Option (AV × List Nat × HP):=match ev x,ev y with
 | some (.val (.int .i64 a)),some (.val (.int .i64 b))=>some (.val (.int .i64 (if mx then max a b else min a b)),[],[])
 | _,_=>none
theorem Aen{x y:Operand}(h:Aeq ev true x y=some (r,R,U))(hs:CK ρ M A w t0 Hr)(hev:∀ x a,ev x=some a→RV ρ M w a (ρv x)):CM (.call { callee:=.builtin .max,args:=#[x,y],argTypes:=#[3,3] }) ρv w (BI ρ M A w t0 Hr U r):=by
 unfold Aeq at h;split at h
 ·rename_i a b ha hb
  have hx:ρv x = .int .i64 a:=hev _ _ ha;have hy:ρv y = .int .i64 b:=hev _ _ hb
  cases h
  refine CP hs ⟨_,w,λo ho=>?_,rfl,rfl⟩;unfold execOp;rw [ho]
  by_cases h:a<b
  ·have:max a b=b:=by omega
   simp [go_sem,hx,hy,h,this]
  ·have:max a b=a:=by omega
   simp [go_sem,hx,hy,h,this]
 ·cases h
theorem wD{S D:TypeId}{x:Operand}(h:Ug ev S D x=some (r,R,U))(hs:CK ρ M A w t0 Hr)(hev:∀ x a,ev x=some a→RV ρ M w a (ρv x)):CM (.convert S D x) ρv w (BI ρ M A w t0 Hr U r):=by
 simp only [Ug,Option.bind_eq_bind,Option.bind_eq_some_iff] at h;obtain ⟨a,ha,h⟩:=h;have hva:=hev _ _ ha;split at h
 ·rename_i k p k' k2 hS hD
  have hS:Tryz.prog.underlying S=some (.int k'):=hS;have hD:Tryz.prog.underlying D=some (.int k2):=hD;have hva:ρv x = .int k p:=hva;split at h
  ·rename_i hk
   subst hk
   cases h
   refine CP hs ⟨_,w,λz hz=>?_,rfl,rfl⟩;unfold execOp;rw [hz];simp [convert,Sem.run_bind,run_underlying hS,run_underlying hD,hva,go_sem]
  ·cases h
 ·cases h
end
end
section
variable [Cd]
section
variable {ρ : Bg} {M A : Nat → Prop} {w : World} {t0 : Nat} {Hr : Nat → Option OB} {H : HP} {ev : Operand → Option AV} {ρv : Operand → Value} {r : AV} {R : List Nat} {U : HP} {op : Op}
noncomputable def AgY(H:HP)(t0:Nat)(e:TypeId)(k:Nat)(base:AV)(n:Nat)(news:List AV):Option (AV × List Nat × HP):=match base with
 | .val (.slice none 0 0)=>some (.sl t0 0 n none,[],[(t0,some ⟨e,k,news,true,none⟩)])
 | .sl o 0 len cap=>match lk H o with
  | some b=>if b.bl.isNone && Nat.beq b.ty e && Nat.beq b.k k && Nat.ble len 1048576 then (match cap with
   | some c=>if Nat.blt c (len+n) then (Em (len*k) b.cs).map λolds=>(.sl t0 0 (len+n) none,[o],[(t0,some ⟨e,k,olds ++ news,true,none⟩)]) else none
   | none=>if b.room && Nat.beq (tO b.cs) (len*k) then some (.sl t0 0 (len+n) none,[o],[(t0,some ⟨b.ty,b.k,b.cs ++ news,b.room,none⟩),(o,none)]) else none) else none
  | none=>none
 | _=>none
noncomputable def iH(H:HP)(ev:Operand→Option AV)(t0:Nat)(T:TypeId)(x y:Operand):Option (AV × List Nat × HP):=do
 let a ← ev x
 let b ← ev y
 let d ← N0 T
 match d with
 | .slice e=>do
  let z ← IN e
  let k ← CT e
  let by_ ← K_ e
  let s ← Q_ H b
  if Ih e && Nat.beq (tO z) k && !(Nat.beq k 0) && Nat.ble by_ 1048576 && Nat.ble s.1 1048576 then
   if Nat.beq s.1 0 then (match a with
    | .val (.slice none 0 0)=>some (a,s.2.2,[])
    | .sl _ _ _ _=>some (a,s.2.2,[])
    | _=>none) else do
    let news ← Em (s.1*k) s.2.1
    let p ← AgY H t0 e k a s.1 news
    pure (p.1,s.2.2 ++ p.2.1,p.2.2)
  else none
 | _=>none
theorem WZ{ρ':Bg}{M':Nat→Prop}{w':World}{g c o len:Nat}(h:ρ' o=some (g,c))(hk:len≤c):RV ρ' M' w' (.sl o 0 len none) (.slice (some ⟨g,0,none⟩) len c):=by
 show Rp ρ' M' w' (.sl o 0 len none) [_];unfold Rp;exact ⟨g,c,c,h,rfl,hk,λn e=>(by cases e),λ_=>⟨rfl,rfl⟩⟩
theorem Sw{a b:Nat}(ha:a≤2097152)(hb:b≤1048576):a*b≤140737488355328:=
 Nat.le_trans (Nat.mul_le_mul ha hb) (by decide)
theorem IL{e:TypeId}{k n:Nat}{l:List AV}{cs:List Value}{z:Array Value}{gc:Nat}(hs:CK ρ M A w t0 Hr)(hT:Ih e=true)(hl:AQ ρ M w l cs)(hn:cs.length=n*k)(hz:z.size=k)(hg:n≤gc)(hm:gc≤maxLen) :
  BI ρ M A w t0 Hr [(t0,some ⟨e,k,l,true,none⟩)] (.sl t0 0 n none) (.slice (some ⟨w.heap.size,0,none⟩) n gc) (w.drew.alloc (.cells (cs.toArray ++ Builtin.zeroCells z (gc - n)) e)):=by
 refine JF hs (Co hT) hl ⟨(Builtin.zeroCells z (gc - n)).toList,by simp,λh=>by cases h⟩ (λ_=>⟨?_,hm⟩) (.inr rfl) [] (λx h=>by cases h) λρ' M' e=>WZ e hg
 rw [Array.size_append,size_zeroCells,hz,List.size_toArray,hn,← Nat.add_mul,Nat.mul_comm]
 congr 1
 omega
theorem Afe{T:TypeId}{x y:Operand}(h:iH H ev t0 T x y=some (r,R,U))(hs:CK ρ M A w t0 Hr)(hag:∀ o∈R,Hr o=lk H o)(hev:∀ x a,ev x=some a→RV ρ M w a (ρv x)):CM (.call { callee:=.builtin .append,args:=#[x,y],argTypes:=#[T,T] }) ρv w (BI ρ M A w t0 Hr U r):=by
 simp only [iH,Option.bind_eq_bind,Option.bind_eq_some_iff] at h;obtain ⟨a,ha,b,hb,d,hd,h⟩:=h;split at h
 ·rename_i e
  have hd:Tryz.prog.underlying T=some (.slice e):=hd;simp only [Option.bind_eq_some_iff] at h;obtain ⟨z,hz,k,hk,by_,hby,⟨n,ls,R2⟩,hsl,h⟩:=h;split at h
  ·rename_i hc
   simp only [Bool.and_eq_true,Bool.not_eq_true'] at hc;obtain ⟨⟨⟨⟨hT,hzk⟩,hk0⟩,hb1⟩,hn1⟩:=hc;have hzk:=Nat.eq_of_beq_eq_true hzk;have hb1:=Nat.le_of_ble_eq_true hb1;have hn1:n≤1048576:=Nat.le_of_ble_eq_true hn1;obtain ⟨i,zv,hi,hzv,hr⟩:=Dt (ρ:=ρ) (M:=M) (w:=w) hz;have hki:i.size=k:=by
    unfold CT at hk;rw [hi] at hk;exact Option.some.inj hk
   have hbi:i.bytes=by_:=by
    unfold K_ at hby;rw [hi] at hby;exact Option.some.inj hby
   have hzs:zv.cells.size=k:=by
    have:=hr.len;rw [hzk] at this;simpa using this
   have go:∀{v':Value}{w':World},(∀ ty,(Builtin.append_ #[T,T] ty #[ρv x,ρv y]).run Tryz.prog w = .ok v' w')→∀ o:Oper,o.op = .call { callee:=.builtin .append,args:=#[x,y],argTypes:=#[T,T] } → (execOp ρv o).run Tryz.prog w = .ok (.value v') w':=λhrun o ho=>by
    unfold execOp;rw [ho];have:=hrun o.type;simp only [resolve,invoke,builtin,Sem.run_bind,Sem.run_pure,Result.andThen_ok,List.map_toArray,List.map_cons,List.map_nil,this]
   split at h
   ·rename_i hn0
    have hn0:n=0:=Nat.eq_of_beq_eq_true hn0;subst hn0;have fin:r=a→R=R2→U=[]→(∃ Ad s c,ρv x = .slice Ad s c∧s≤c)→CM (.call { callee:=.builtin .append,args:=#[x,y],argTypes:=#[T,T] }) ρv w (BI ρ M A w t0 Hr U r):=by
     rintro rfl rfl rfl ⟨Ad,s,c,e1,e2⟩
     obtain ⟨Ay,cy,xs,ey,_⟩:=Ix hs hsl hag (hev _ _ hb);refine Bj (v:=ρv x) hs (go λty=>?_) (hev _ _ ha);rw [e1,ey]
     cases Ay with
     | none=>cases Ad <;> simp [Builtin.append_,run_underlying hd,sizeOf,typeInfo,hi,Builtin.lenOf,e2,Builtin.firstCells,storeCells]
     | some ay =>
      have hl0:=run_firstCells_some (P:=Tryz.prog) w i.size 0 ay 0 cy [] (by simp) (λj v hv=>by simp at hv)
      cases Ad <;> simp [Builtin.append_,run_underlying hd,sizeOf,typeInfo,hi,Builtin.lenOf,e2,hl0,storeCells]
    split at h
    ·simp only [Option.some.injEq,Prod.mk.injEq] at h
     exact fin h.1.symm h.2.1.symm h.2.2.symm ⟨none,0,0,hev _ _ ha,Nat.le_refl _⟩
    ·simp only [Option.some.injEq,Prod.mk.injEq] at h
     have hv:Rp ρ M w (.sl _ _ _ _) [ρv x]:=hev _ _ ha;unfold Rp at hv;obtain ⟨g,c,kk,_,e2,e3,_⟩:=hv;exact fin h.1.symm h.2.1.symm h.2.2.symm ⟨_,_,_,(List.cons.inj e2).1,e3⟩
    ·cases h
   ·rename_i hn0
    have hn0:n≠0:=λe=>hn0 (by subst e; rfl)
    simp only [Option.bind_eq_some_iff,Option.pure_def,Option.some.injEq,Prod.mk.injEq] at h;obtain ⟨news,hnews,⟨r',R',U'⟩,hp,rfl,rfl,rfl⟩:=h;obtain ⟨Ay,cy,xs,ey,hxs0⟩:=Ix hs hsl (λo ho=>hag o (List.mem_append.2 (.inl ho))) (hev _ _ hb);obtain ⟨hxs,gy,oy,rfl,hry⟩:=hxs0 hn0;obtain ⟨t1,t2⟩:=AQ.take hnews hxs;have hry':=BH (n:=n*k) hry;have hlen:(xs.take (n*k)).length=n*i.size:=by rw [List.length_take,hki]; omega
    have hcells:∀(j:Nat)(v:Value),(xs.take (n*k))[j]? = some v→w.cell? ((⟨gy,oy,none⟩:Addr).add j)=some v:=λj v hv=>by rw [Addr.add_mid]; exact hry' j v hv
    have h1c:=PV t2;generalize hnc:xs.take (n*k)=nc at t2 hry' hlen hcells h1c;unfold AgY at hp;split at hp
    ·cases hp
     have hx:ρv x = .slice none 0 0:=hev _ _ ha;have hrun:=λty=>run_append_nil (P:=Tryz.prog) w T ty e i zv hd hi hzv ⟨gy,oy,none⟩ n cy nc hlen hcells (by omega) (by omega) (Nat.le_trans (Sw (by omega) (by omega)) (by decide))
     intro o ho;rw [go (λty=>by rw [hx,ey]; exact hrun ty) o ho];exact IL hs hT t2 (by rw [hlen,hki]) hzs (grownCap_ge w n 0 e) (grownCap_le_maxLen w n 0 e (by unfold maxLen; omega))
    ·rename_i o len cap
     split at hp
     ·rename_i bo hbo
      split at hp
      ·rename_i hc
       simp only [Bool.and_eq_true] at hc;obtain ⟨⟨⟨c0,c1⟩,c2⟩,c3⟩:=hc;have hbn:bo.bl=none:=by simpa using c0
       have c1:=Nat.eq_of_beq_eq_true c1;have c2:=Nat.eq_of_beq_eq_true c2;have c3:=Nat.le_of_ble_eq_true c3;have hv:Rp ρ M w (.sl o 0 len cap) [ρv x]:=hev _ _ ha;unfold Rp at hv;obtain ⟨g,c,kk,e1,e2,e3,e4,e5⟩:=hv;have hx:=(List.cons.inj e2).1;split at hp
       ·rename_i cc
        have e4:=e4 _ rfl;subst e4;split at hp
        ·rename_i hlt
         have hlt:kk<len+n:=Nat.le_of_ble_eq_true hlt
         cases hol:Em (len*k) bo.cs with
         | none=>rw [hol] at hp; cases hp
         | some olds =>
          rw [hol] at hp
          cases hp
          have hbr:Hr o=some bo:=(hag o (List.mem_append.2 (.inr (by simp)))).trans hbo;obtain ⟨g',c',arr,cs,kO⟩:=hs.heap.obj o bo hbr;rw [kO.at_] at e1;simp only [Option.some.injEq,Prod.mk.injEq] at e1;obtain ⟨rfl,rfl⟩:=e1;obtain ⟨q1,q2⟩:=AQ.take hol (kO.cells.rps hbn);obtain ⟨tl,he,_⟩:=kO.pre;have hro:=BH (n:=len*k) (G_ kO.blk he 0);simp only [List.drop_zero] at hro;have hlo:(cs.take (len*k)).length=len*i.size:=by rw [List.length_take,hki]; omega
          have hrun:=λty=>run_append_grow (P:=Tryz.prog) w T ty e i zv hd hi hzv ⟨g',0,none⟩ len kk (cs.take (len*k)) hlo (λj v hv=>by rw [Addr.add_mid]; exact hro j v hv) ⟨gy,oy,none⟩ n cy nc hlen hcells hlt (by omega) (growslice_fits hlt (Sw (by omega) (by omega)))
          intro o' ho;rw [go (λty=>by rw [hx,ey]; exact hrun ty) o' ho];have:=IL (n:=len+n) (z:=zv.cells) hs hT (q2.app t2) (by rw [List.length_append,hlo,hlen,hki,Nat.add_mul]) hzs (grownCap_ge w (len+n) kk e) (grownCap_le_maxLen w (len+n) kk e (by unfold maxLen; omega));rw [show (List.take (len*k) cs ++ nc).toArray=(List.take (len*k) cs).toArray ++ nc.toArray by simp] at this;exact this
        ·cases hp
       ·obtain ⟨_,e5⟩:=e5 rfl
        subst e5;split at hp
        ·rename_i hroom
         rw [Bool.and_eq_true] at hroom;have hsz:=Nat.eq_of_beq_eq_true hroom.2;have hroom:=hroom.1
         cases hp
         have hbr:Hr o=some bo:=(hag o (List.mem_append.2 (.inr (by simp)))).trans hbo;obtain ⟨g',c',arr,cs,kO⟩:=hs.heap.obj o bo hbr;rw [kO.at_] at e1;simp only [Option.some.injEq,Prod.mk.injEq] at e1;obtain ⟨rfl,rfl⟩:=e1;obtain ⟨tl,he,_⟩:=kO.pre;obtain ⟨hcap,hmax⟩:=kO.cap hroom;have hcl:cs.length=len*k:=(kO.cells.rps hbn).len.trans hsz;have hasz:arr.size=cs.length+tl.length:=by rw [← List.length_append,← he]; simp
         have hro:=G_ kO.blk he 0;simp only [List.drop_zero] at hro
         by_cases hfit:len+n≤c'
         ·have hroomy:(len+n)*k≤arr.size:=by rw [hcap,c2,Nat.mul_comm k]; exact Nat.mul_le_mul_right _ hfit
          have hrun:=λty=>run_append_room (P:=Tryz.prog) w T ty e i hd hi g' len c' arr (by rw [← c1]; exact kO.blk) ⟨gy,oy,none⟩ n cy nc hlen hcells h1c hfit (by rw [hlen,hki,← Nat.add_mul]; exact hroomy)
          intro o' ho;rw [go (λty=>by rw [hx,ey]; exact hrun ty) o' ho];have hnl:nc.length=n*k:=by rw [hlen,hki]
          have htl:n*k≤tl.length:=by rw [Nat.add_mul] at hroomy; omega
          rw [show (⟨bo.ty,bo.k,bo.cs ++ news,bo.room,none⟩:OB) = { bo with cs:=bo.cs ++ news } by rw [← hbn]];refine S8 (cs':=cs ++ nc) hs hbr hbn kO ((kO.cells.rps hbn).app t2) ⟨tl.drop (n*k),?_,λh=>by rw [hroom] at h; cases h⟩ ?_ t0 true (.inr ⟨rfl,rfl⟩) _ _ λρ' M' w' _ e=>WZ e hfit
          ·rw [hki,← hcl,he,hnl,List.take_left,← List.drop_drop,List.drop_left]
          ·simp only [List.size_toArray,List.length_append,List.length_take,List.length_drop,Array.length_toList,hki]
           omega
         ·have hlt:c'<len+n:=by omega
          have hrun:=λty=>run_append_grow (P:=Tryz.prog) w T ty e i zv hd hi hzv ⟨g',0,none⟩ len c' cs (by rw [hcl,hki]) (λj v hv=>by rw [Addr.add_mid]; exact hro j v hv) ⟨gy,oy,none⟩ n cy nc hlen hcells hlt (by omega) (growslice_fits hlt (Sw (by omega) (by omega)))
          intro o' ho;rw [go (λty=>by rw [hx,ey]; exact hrun ty) o' ho];have hgc:=grownCap_ge w (len+n) c' e;have hgm:=grownCap_le_maxLen w (len+n) c' e (by unfold maxLen; omega);generalize grownCap w (len+n) c' e=gc at hgc hgm;rw [show cs.toArray ++ nc.toArray=(cs ++ nc).toArray by simp,c1,c2,hroom];refine JF hs (Co hT) ((kO.cells.rps hbn).app t2) ⟨(Builtin.zeroCells zv.cells (gc - (len+n))).toList,by simp,λh=>by cases h⟩ (λ_=>⟨?_,hgm⟩) (.inr rfl) [(o,none)] (λx h=>by simp at h; rw [h]) λρ' M' e=>WZ e hgc
          rw [Array.size_append,size_zeroCells,hzs,List.size_toArray,List.length_append,hcl,hlen,hki,← Nat.add_mul,← Nat.add_mul,Nat.add_sub_cancel' hgc,Nat.mul_comm]
        ·cases hp
      ·cases hp
     ·cases hp
    ·cases hp
  ·cases h
 ·cases h
end
end
section
variable [Cd]
abbrev cC:=Nat→List AV→Option AV
def Ke(T:cC):Prop:=∀ f xs r,T f xs=some r→Bf f∧∀(ρ:Bg)(M:Nat→Prop)(w:World)(vs:List Value),(∀ b,M b→b<w.heap.size)→CH ρ M w xs vs →
 Calls Tryz.prog f vs.toArray w λe w'=>∃ v,e = .returned v∧RV ρ M w' r v∧Below w.heap.size w w'
abbrev BD:=Nat→List AV→HP→Nat→Nat→Option (AV × HP)
def Di(ρ:Bg)(w:World)(H:Nat→Option OB)(b:Nat):Prop:=w.heap.size≤b ∨ ∃ o bo c,H o=some bo∧ρ o=some (b,c)
def B5(cf:BD):Prop:=∀ f xs H n0 t0 r U,cf f xs H n0 t0=some (r,U)→Bf f∧∀(ρ:Bg)(M:Nat→Prop)(w:World)(vs:List Value),
 CK ρ M (Di ρ w (lk H)) w t0 (lk H)→(∀ o p,ρ o=some p→o<n0)→t0+16≤n0→CH ρ M w xs vs →
 Calls Tryz.prog f vs.toArray w λe w'=>∃ v,e = .returned v∧BI ρ M (Di ρ w (lk H)) w t0 (lk H) U r v w'
abbrev T5:=Bg→(Nat→Prop)→World→Prop
def Nr(C:T5):Prop:=∀ ρ M w ρ' M' w',C ρ M w→Tr ρ M w ρ' M' w'→C ρ' M' w'
def Gj(C:T5)(cf:BD):Prop:=
 (∀ f xs H n0 t0 r U,Nat.blt f 1000000=true→cf f xs H n0 t0=some (r,U)→Bf f∧∀(ρ:Bg)(M:Nat→Prop)(w:World)(vs:List Value),C ρ M w →
  CK ρ M (Di ρ w (lk H)) w t0 (lk H)→(∀ o p,ρ o=some p→o<n0)→t0+16≤n0→CH ρ M w xs vs →
  Calls Tryz.prog f vs.toArray w λe w'=>∃ v,e = .returned v∧BI ρ M (Di ρ w (lk H)) w t0 (lk H) U r v w') ∧
 (∀ y xs H n0 t0 r U,cf (1000000+y) xs H n0 t0=some (r,U)→∀(ρ:Bg)(M:Nat→Prop)(w:World)(vs:List Value),C ρ M w →
  CK ρ M (Di ρ w (lk H)) w t0 (lk H)→(∀ o p,ρ o=some p→o<n0)→t0+16≤n0→CH ρ M w xs vs →
  ∃ l c fn tmps asg bd,ρ y=some (l,c)∧(Instr.yield l vs.toArray).run Tryz.prog w = .ok (.round l fn tmps asg bd) w ∧
   RoundIn (Eo none) 8 Tryz.prog l fn tmps asg bd w λe w'=>∃ v,e = .returned v∧BI ρ M (Di ρ w (lk H)) w t0 (lk H) U r v w')
def Qo(cf yl:BD):BD:=λf xs H n0 t0=>if Nat.blt f 1000000 then cf f xs H n0 t0 else yl f xs H n0 t0
def N6:BD:=λ_ _ _ _ _=>none
def Kp:T5:=λ_ _ _=>True
theorem EG:Nr Kp:=λ_ _ _ _ _ _ _ _=>trivial
theorem Yw(y:Nat):Nat.blt (1000000+y) 1000000=false:=by
 cases e:Nat.blt (1000000+y) 1000000 with
 | false=>rfl
 | true=>have:=Nat.le_of_ble_eq_true e; omega
theorem B5.c{cf:BD}(h:B5 cf)(C:T5):Gj C (Qo cf N6):=⟨λf xs H n0 t0 r U hb e=>by
 unfold Qo at e;rw [if_pos hb] at e;obtain ⟨h1,h2⟩:=h f xs H n0 t0 r U e;exact ⟨h1,λρ M w vs _=>h2 ρ M w vs⟩,λy xs H n0 t0 r U e=>by
 unfold Qo at e;rw [Yw] at e
 cases e⟩
mutual
def AiL:AV→List Nat
 | .ptr o _=>[o]
 | .sl o _ _ _=>[o]
 | .slx o _=>[o]
 | .epx o _=>[o]
 | .fn _ a b=>Nf a ++ Nf b
 | .agg l=>Nf l
 | .tup l=>Nf l
 | .row _ l=>Nf l
 | .rptr l=>Nf l
 | _=>[]
def Nf:List AV→List Nat
 | []=>[]
 | a :: l=>AiL a ++ Nf l
end
def memN(o:Nat):List Nat→Bool
 | []=>false
 | x :: l=>if Nat.beq x o then true else memN o l
theorem CB{o:Nat}:∀{l:List Nat},memN o l=true ↔ o∈l
 | []=>by simp [memN]
 | x :: l=>by
  unfold memN;split
  ·rename_i h
   have:=Nat.eq_of_beq_eq_true h;simp [this]
  ·rename_i h
   rw [CB,List.mem_cons]
   constructor
   ·exact .inr
   ·rintro (rfl | h')
    ·simp at h
    ·exact h'
def QV(H:HP):Nat→List Nat→List Nat→Option (List Nat)
 | _,[],acc=>some acc
 | 0,_ :: _,_=>none
 | k+1,o :: r,acc=>if memN o acc then QV H k r acc else match lk H o with
  | some b=>QV H k (Nf b.cs ++ r) (acc ++ [o])
  | none=>QV H k r (acc ++ [o])
def KQ(H:HP):List Nat→HP
 | []=>[]
 | o :: r=>(o,lk H o) :: KQ H r
theorem pC{H:HP}{R:List Nat}{o:Nat}:lk (KQ H R) o=if o∈R then lk H o else none:=by
 induction R with
 | nil=>rfl
 | cons x r ih =>
  simp only [KQ,lk];split
  ·rename_i h
   have:=Nat.eq_of_beq_eq_true h;simp [this]
  ·rename_i h
   have hne:x≠o:=λe=>h (by rw [e]; exact Nat.beq_refl o)
   rw [ih]
   by_cases hm:o∈r
   ·simp [hm]
   ·simp [hm,Ne.symm hne]
section
variable {ρ : Bg} {M A : Nat → Prop} {w : World} {t0 n0 : Nat} {Hr : Nat → Option OB} {H : HP} {ev : Operand → Option AV} {ρv : Operand → Value} {r : AV} {R : List Nat} {U : HP} {op : Op} {T : cC} {cf : BD}
theorem Ku{H':HP}{v:Value}{w':World}(hs:CK ρ M A w t0 Hr)(hsub:∀ o b,lk H' o=some b→Hr o=some b)(hp:BI ρ M (Di ρ w (lk H')) w t0 (lk H') U r v w'):BI ρ M A w t0 Hr U r v w':=by
 obtain ⟨ρ',M',ht,hv,hR,hd,hsup,hmon,hbnd,hfr,hkp⟩:=hp;have hO:∀ b,Di ρ w (lk H') b→A b:=λb h=>by
  rcases h with h | ⟨o,bo,c,h1,h2⟩
  ·exact hs.fresh b h
  ·obtain ⟨g,c',arr,cs,k⟩:=hs.heap.obj o bo (hsub o bo h1)
   have:=k.at_;rw [h2] at this;have:b=g:=congrArg Prod.fst (Option.some.inj this);exact this ▸ k.own
 have out:∀ o b,Hr o=some b→lk H' o=none→∀ g c,ρ o=some (g,c)→g<w.heap.size ∧ ¬ Di ρ w (lk H') g:=λo b h1 h2 g c h3=>by
  obtain ⟨g',c',arr,cs,k⟩:=hs.heap.obj o b h1;have hg:g=g':=by
   have:=k.at_;rw [h3] at this;exact congrArg Prod.fst (Option.some.inj this)
  have hlt:g<w.heap.size:=hg ▸ AJ k.blk
  refine ⟨hlt,?_⟩
  rintro (h | ⟨o',bo,c2,h4,h5⟩)
  ·omega
  ·have:=hs.heap.inj o o' b bo g c c2 h1 (hsub o' bo h4) h3 h5
   subst this;rw [h2] at h4
   cases h4
 have hkp':∀ o b g c,Hr o=some b→(∀ x∈U,x.1≠o)→ρ o=some (g,c)→w'.heap[g]? = w.heap[g]? := λo b g c h1 h2 h3=>by
  cases hl:lk H' o with
  | some b'=>exact hkp o b' g c hl h2 h3
  | none =>
   obtain ⟨hlt,hno⟩:=out o b h1 hl g c h3;exact hfr.keep g hlt hno
 have split:∀ o b,CR Hr U o=some b→CR (lk H') U o=some b ∨ (lk H' o=none∧Hr o=some b∧∀ x∈U,x.1≠o):=λo b h=>by
  by_cases hm:∃ x∈U,x.1=o
  ·rw [kL (H':=lk H') hm] at h
   exact .inl h
  ·have hm:∀ x∈U,x.1≠o:=λx hx e=>hm ⟨x,hx,e⟩
   rw [Jt hm] at h
   cases hl:lk H' o with
   | none=>exact .inr ⟨rfl,h,hm⟩
   | some b' =>
    refine .inl ?_;rw [Jt hm,hl,← hsub o b' hl,h]
 refine ⟨ρ',M',ht,hv,⟨λo b h=>?_,λo o' b b' g c c' h h' q q'=>?_⟩,hd,hsup,hmon,hbnd,⟨hfr.os,hfr.tape,hfr.output,hfr.size,λb hb hA=>hfr.keep b hb λh=>hA (hO b h)⟩,hkp'⟩
 ·rcases split o b h with h1 | ⟨h1,h2,h3⟩
  ·obtain ⟨g,c,arr,cs,k⟩:=hR.obj o b h1
   exact ⟨g,c,arr,cs,k.at_,k.mut_,hO g k.own,k.blk,k.ty,k.cells,k.pre,k.cap⟩
  ·obtain ⟨g,c,arr,cs,k⟩:=hs.heap.obj o b h2
   exact ⟨g,c,arr,cs,k.st ht (hsup g) (hkp' o b g c h2 h3 k.at_)⟩
 ·have hold:∀ o b g c,Hr o=some b→ρ' o=some (g,c)→∃ c',ρ o=some (g,c'):=λo b g c h1 h2=>by
   obtain ⟨g',c',arr,cs,k⟩:=hs.heap.obj o b h1;have:=ht.ext _ _ k.at_;rw [h2] at this;have hg:g=g':=congrArg Prod.fst (Option.some.inj this);exact ⟨c',by rw [hg]; exact k.at_⟩
  have mixed:∀ o b o' b',CR (lk H') U o=some b→lk H' o'=none→Hr o'=some b'→∀ c c',ρ' o=some (g,c)→ρ' o'=some (g,c')→False:=λo b o' b' h1 h2 h3 c c' q1 q2=>by
   obtain ⟨c2,r2⟩:=hold o' b' g c' h3 q2;obtain ⟨_,hno⟩:=out o' b' h3 h2 g c2 r2;obtain ⟨g1,c1,arr,cs,k⟩:=hR.obj o b h1;have:=k.at_;rw [q1] at this;have hg:g=g1:=congrArg Prod.fst (Option.some.inj this);exact hno (hg ▸ k.own)
  rcases split o b h with h1 | ⟨h1,h2,h3⟩ <;> rcases split o' b' h' with h1' | ⟨h1',h2',h3'⟩
  ·exact hR.inj o o' b b' g c c' h1 h1' q q'
  ·exact (mixed o b o' b' h1 h1' h2' c c' q q').elim
  ·exact (mixed o' b' o b h1' h1 h2 c' c q' q).elim
  ·obtain ⟨c2,r2⟩:=hold o b g c h2 q
   obtain ⟨c3,r3⟩:=hold o' b' g c' h2' q';exact hs.heap.inj o o' b b' g c2 c3 h2 h2' r2 r3
theorem vP{a:AV}{v:Value}(h:Kt a=true)(hv:Rp ρ M w a [v]):Bz ρ M w a v:=by
  cases a <;> first
    | (cases h; done)
    | exact hv
    | (unfold Rp at hv; exact (List.cons.inj hv.1).1)
    | (rename_i n ag c
       unfold Kt at h
       rw [Bool.and_eq_true,Bool.not_eq_true'] at h
       have:=h.2
       subst this
       exact hv)
theorem Jb:∀{l:List AV}{vs:List Value},l.all Kt=true→AQ ρ M w l vs→CH ρ M w l vs
 | [],_,_,h=>by unfold AQ at h; exact h
 | a :: l,vs,hs,h=>by
  rw [List.all_cons,Bool.and_eq_true] at hs;unfold AQ at h;obtain ⟨x,y,rfl,h1,h2⟩:=h;have hl:=h1.len;have hz:a.sz=1:=by
   have hs1:=hs.1
   cases a <;> first | rfl | (cases hs1; done) | (unfold Kt at hs1; rw [Bool.and_eq_true] at hs1; exact Nat.eq_of_beq_eq_true hs1.1)
  rw [hz] at hl;obtain ⟨v,rfl⟩:=List.length_eq_one_iff.1 hl;exact ⟨v,y,rfl,vP hs.1 h1,Jb hs.2 h2⟩
theorem CH.app:∀{l l':List AV}{vs vs':List Value},CH ρ M w l vs→CH ρ M w l' vs'→CH ρ M w (l ++ l') (vs ++ vs')
 | [],_,_,_,h,h'=>by have h:_=[]:=h; subst h; exact h'
 | _ :: _,_,_,_,⟨v,r,e,h1,h2⟩,h'=>by subst e; exact ⟨v,_,rfl,h1,CH.app h2 h'⟩
theorem LK(hev:∀ x a,ev x=some a→RV ρ M w a (ρv x)):∀{xs:List Operand}{l:List AV},xY ev xs=some l→l.all AV.one=true→CH ρ M w l (xs.map ρv)
 | [],l,h,_=>by cases h; exact rfl
 | x :: xs,l,h,ho=>by
  unfold xY at h;split at h
  ·rename_i a r h1 h2
   cases h
   rw [List.all_cons,Bool.and_eq_true] at ho;exact ⟨ρv x,_,rfl,(hev _ _ h1).one ho.1,LK hev h2 ho.2⟩
  ·cases h
noncomputable def WV(T:cC)(cf:BD)(H:HP)(n0 t0:Nat)(ev:Operand→Option AV)(f:Operand)(xs:List Operand):Option (AV × List Nat × HP):=match ev f,xY ev xs with
 | some (.yl y),some l=>if l.all AV.one then (cf (1000000+y) l H n0 t0).map λp=>(p.1,H.map (·.1),p.2) else none
 | some (.fn F a b),some l=>if Nat.blt F 1000000 && a.all Kt && b.all Kt && l.all AV.one then (match T F (a ++ l ++ b) with
  | some r=>some (r,[],[])
  | none=>match QV H 400 (Nf (a ++ l ++ b)) [] with
   | some R=>(cf F (a ++ l ++ b) (KQ H R) n0 t0).map λp=>(p.1,R,p.2)
   | none=>none) else none
 | _,_=>none
theorem Od{F:Nat}{f:Operand}{args:Array Operand}{Ts:Array TypeId}{xs ys:Array Value}(hf:ρv f = .func (.func F) xs ys)(hpl:Bf F){o:Oper}(ho:o.op = .call { callee:=.value f,args:=args,argTypes:=Ts }):(execOp ρv o).run Tryz.prog w = .ok (.enter F (xs ++ args.map ρv ++ ys)) w:=by
 unfold execOp;rw [ho];simp only [resolve,hf,Deferred.ofValue,Sem.run_bind,Sem.run_pure,Result.andThen_ok,invoke];exact hpl _ _
theorem Wi{y:Nat}{f:Operand}{args:Array Operand}{Ts:Array TypeId}(hf:ρv f = .func (.yield y) #[] #[]){n:Next}{w':World}(hr:(Instr.yield y (args.map ρv)).run Tryz.prog w = .ok n w'){o:Oper}(ho:o.op = .call { callee:=.value f,args:=args,argTypes:=Ts }):(execOp ρv o).run Tryz.prog w = .ok n w':=by
 unfold execOp;rw [ho];simp only [resolve,hf,Deferred.ofValue,Sem.run_bind,Sem.run_pure,Result.andThen_ok,invoke];rw [show (#[]:Array Value) ++ args.map ρv=args.map ρv from by simp];exact hr
theorem vN{C:T5}{f:Operand}{args:Array Operand}{Ts:Array TypeId}(hT:Ke T)(hcf:Gj C cf)(hC:C ρ M w)(h:WV T cf H n0 t0 ev f args.toList=some (r,R,U))(hs:CK ρ M A w t0 Hr)(hag:∀ o∈R,Hr o=lk H o)(hev:∀ x a,ev x=some a→RV ρ M w a (ρv x))(hdom:∀ o p,ρ o=some p→o<n0)(hn:t0+16≤n0):CM (.call { callee:=.value f,args:=args,argTypes:=Ts }) ρv w (BI ρ M A w t0 Hr U r):=by
 unfold WV at h;split at h
 ·rename_i y l hf hl
  split at h
  ·rename_i ho1
   obtain ⟨p,hcc,e⟩:=Option.map_eq_some_iff.1 h
   cases e
   have hv:Rp ρ M w (.yl y) [ρv f]:=hev _ _ hf;unfold Rp at hv;obtain ⟨g,c,hy,e⟩:=hv;have e:=(List.cons.inj e).1;have hargs:CH ρ M w l (args.toList.map ρv):=LK hev hl ho1;have hsub:∀ o b,lk H o=some b→Hr o=some b:=λo b e=>by
    refine (hag o ?_).trans e;clear hag hcc h hcf
    induction H with
    | nil=>cases e
    | cons x r ih =>
     unfold lk at e;split at e
     ·rename_i hb
      exact List.mem_map.2 ⟨x,List.mem_cons_self ..,Nat.eq_of_beq_eq_true hb⟩
     ·exact List.mem_cons_of_mem _ (ih e)
   have hs':CK ρ M (Di ρ w (lk H)) w t0 (lk H):=by
    refine ⟨⟨λo b e=>?_,λo o' b b' g c c' e1 e2 q1 q2=>hs.heap.inj o o' b b' g c c' (hsub _ _ e1) (hsub _ _ e2) q1 q2⟩,hs.bnd,hs.new,λb hb=>.inl hb⟩;obtain ⟨g,c,arr,cs,k⟩:=hs.heap.obj o b (hsub o b e);exact ⟨g,c,arr,cs,k.at_,k.mut_,.inr ⟨o,b,c,e,k.at_⟩,k.blk,k.ty,k.cells,k.pre,k.cap⟩
   obtain ⟨l',c',fn,tmps,asg,bd,h1,h2,h3⟩:=hcf.2 _ _ _ _ _ _ _ hcc ρ M w _ hC hs' hdom hn hargs;rw [hy] at h1;have h1:g=l':=congrArg Prod.fst (Option.some.inj h1);subst h1;have harr:(args.toList.map ρv).toArray=args.map ρv:=by
    apply Array.ext';simp
   rw [harr] at h2;intro o ho;rw [Wi e h2 ho];refine RoundIn.mono h3 λe w' he=>?_
   obtain ⟨v,e,hp⟩:=he;exact ⟨v,e,Ku hs hsub hp⟩
  ·cases h
 ·rename_i F a b l hf hl
  split at h
  ·rename_i hc
   simp only [Bool.and_eq_true] at hc;have hv:Rp ρ M w (.fn F a b) [ρv f]:=hev _ _ hf;unfold Rp at hv;obtain ⟨xs,ys,e,ha,hb⟩:=hv;have e:=(List.cons.inj e).1;have hargs:CH ρ M w (a ++ l ++ b) (xs.toList ++ args.toList.map ρv ++ ys.toList):=((Jb hc.1.1.2 ha).app (LK hev hl hc.2)).app (Jb hc.1.2 hb);have harr:(xs.toList ++ args.toList.map ρv ++ ys.toList).toArray=xs ++ args.map ρv ++ ys:=by
    apply Array.ext';simp
   split at h
   ·rename_i r' hr
    cases h
    obtain ⟨hpl,hcall⟩:=hT _ _ _ hr;refine cL hs (λo ho=>Od e hpl ho) ?_;rw [← harr];exact hcall ρ M w _ hs.bnd hargs
   ·split at h
    ·rename_i R' hR
     cases hcc:cf F (a ++ l ++ b) (KQ H R') n0 t0 with
     | none=>rw [hcc] at h; cases h
     | some p =>
      rw [hcc] at h
      cases h
      obtain ⟨hpl,hcall⟩:=hcf.1 _ _ _ _ _ _ _ hc.1.1.1 hcc;have hsub:∀ o b,lk (KQ H R) o=some b→Hr o=some b:=λo b e=>by
       rw [pC] at e;split at e
       ·rename_i hm; rw [hag o hm]; exact e
       ·cases e
      have hs':CK ρ M (Di ρ w (lk (KQ H R))) w t0 (lk (KQ H R)):=by
       refine ⟨⟨λo b e=>?_,λo o' b b' g c c' e1 e2 q1 q2=>hs.heap.inj o o' b b' g c c' (hsub _ _ e1) (hsub _ _ e2) q1 q2⟩,hs.bnd,hs.new,λb hb=>.inl hb⟩;obtain ⟨g,c,arr,cs,k⟩:=hs.heap.obj o b (hsub o b e);exact ⟨g,c,arr,cs,k.at_,k.mut_,.inr ⟨o,b,c,e,k.at_⟩,k.blk,k.ty,k.cells,k.pre,k.cap⟩
      have hcall:=hcall ρ M w _ hC hs' hdom hn hargs;rw [harr] at hcall;intro o ho;rw [Od e hpl ho];refine Calls.mono hcall λe w' he=>?_
      obtain ⟨v,e,hp⟩:=he;exact ⟨v,e,Ku hs hsub hp⟩
    ·cases h
  ·cases h
 ·cases h
noncomputable def AbH(H:HP)(t0:Nat)(ev:Operand→Option AV)(b:Builtin)(xs:List Operand)(Ts:List TypeId):Option (AV × List Nat × HP):=match b,xs,Ts with
 | .len,[x],[T]=>jW ev T x
 | .append,[x,y],[T,T2]=>if Nat.beq T T2 then iH H ev t0 T x y else none
 | .max,[x,y],[T,T2]=>if Nat.beq T 3 && Nat.beq T2 3 then Aeq ev true x y else none
 | _,_,_=>none
noncomputable def opB(T:cC)(cf:BD)(H:HP)(n0 t0:Nat)(ev:Operand→Option AV):Op→Option (AV × List Nat × HP)
 | .move x=>Q8 ev x
 | .assign x=>Q8 ev x
 | .pick c x y=>UL ev c x y
 | .alloc T=>Rm t0 T
 | .box T x=>oR ev t0 T x
 | .build T ps=>Rk ev T ps.toList
 | .buildSlice T n ps=>TV ev t0 T n ps.toList
 | .load T x=>US H ev T x
 | .store T x y=>Ps H ev T x y
 | .nilCheck x=>oQ ev x
 | .binOp o T x y T2=>qR ev o T x y T2
 | .unOp o _ x=>Ae2 ev o x
 | .convert S D x=>Ug ev S D x
 | .makeFunc f xs ys=>AeD ev f xs.toList ys.toList
 | .makeSlice T x y=>UR ev t0 T x y
 | .slice T x lo hi mx=>Ph ev T x lo hi mx
 | .fieldAddr S x k=>QT ev S x k
 | .field S x k=>Ma ev S x k
 | .indexAddr T x y=>pT ev T x y
 | .extract x k=>pR ev x k
 | .call c=>match c.callee with
  | .builtin b=>AbH H t0 ev b c.args.toList c.argTypes.toList
  | .value f=>WV T cf H n0 t0 ev f c.args.toList
  | _=>none
 | _=>none
theorem OA{C:T5}(hT:Ke T)(hcf:Gj C cf)(hC:C ρ M w)(h:opB T cf H n0 t0 ev op=some (r,R,U))(hs:CK ρ M A w t0 Hr)(hag:∀ o∈R,Hr o=lk H o)(hev:∀ x a,ev x=some a→RV ρ M w a (ρv x))(hdom:∀ o p,ρ o=some p→o<n0)(hn:t0+16≤n0):CM op ρv w (BI ρ M A w t0 Hr U r):=by
 unfold opB at h;split at h
 ·exact XV (.inl rfl) h hs hev
 ·exact XV (.inr rfl) h hs hev
 ·exact Aaw h hs hev
 ·exact kA h hs
 ·exact AdD h hs hev
 ·exact oN h hs hev
 ·exact Ae4 h hs hev
 ·exact vZ h hs hag hev
 ·exact lA h hs hag hev
 ·exact AeH h hs hev
 ·exact AeW h hs hev
 ·exact Ahy h hs hev
 ·exact wD h hs hev
 ·exact Aia h hs hev
 ·exact yD h hs hev
 ·exact iT h hs hev
 ·exact mM h hs hev
 ·exact ZG h hs hev
 ·exact AdF h hs hev
 ·exact Agn h hs hev
 ·rename_i c
  obtain ⟨callee,args,Ts⟩:=c;simp only [] at h;split at h
  ·rename_i b
   unfold AbH at h;split at h
   ·rename_i x T1 ha ht
    have ha:args = #[x]:=Array.toList_inj.1 ha;have ht:Ts = #[T1]:=Array.toList_inj.1 ht;subst ha;subst ht;exact AeP h hs hev
   ·rename_i x y T1 T2 ha ht
    have ha:args = #[x,y]:=Array.toList_inj.1 ha;have ht:Ts = #[T1,T2]:=Array.toList_inj.1 ht;subst ha;subst ht;split at h
    ·rename_i e
     have e:=Nat.eq_of_beq_eq_true e;subst e;exact Afe h hs hag hev
    ·cases h
   ·rename_i x y T1 T2 ha ht
    have ha:args = #[x,y]:=Array.toList_inj.1 ha;have ht:Ts = #[T1,T2]:=Array.toList_inj.1 ht;subst ha;subst ht;split at h
    ·rename_i e
     rw [Bool.and_eq_true] at e;have e1:=Nat.eq_of_beq_eq_true e.1;have e2:=Nat.eq_of_beq_eq_true e.2;subst e1;subst e2;exact Aen h hs hev
    ·cases h
   ·cases h
  ·exact vN hT hcf hC h hs hag hev hdom hn
  ·cases h
 ·cases h
structure XT where
 on:Bool
 pure:PK→List AV→Option AV
 idx:TypeId→CE→AV→Option CE
 load:TypeId→CE→CE→Option AV
 store:TypeId→CE→CE→AV→Option CE
 make:TypeId→AV→AV→Option (TypeId × CE × CE)
 lit:TypeId→Nat→List AV→Option AV
 app:TypeId→CE→Option (TypeId × CE × CE)
 apl:TypeId→CE→Option (TypeId × List AV)
def XT.none:XT:=⟨false,λ_ _=>.none,λ_ _ _=>.none,λ_ _ _=>.none,λ_ _ _ _=>.none,λ_ _ _=>.none,λ_ _ _=>.none,λ_ _=>.none,λ_ _=>.none⟩
structure KC (X:XT):Prop where
 pure:∀ k xs r,X.pure k xs=some r→∀(ρ:Bg)(M:Nat→Prop)(w:World)(ρv:Operand→Value)(ys:List Operand),(∀ b,M b→b<w.heap.size)→CH ρ M w xs (ys.map ρv) →
  ∃ v,(∀ o:Oper,o.op=MN k ys→(execOp ρv o).run Tryz.prog w = .ok (.value v) w)∧RV ρ M w r v
 idx:∀ T j a p,X.idx T j a=some p→∀(ρ:Bg)(M:Nat→Prop)(w:World)(g k:Nat)(v:Value),RV ρ M w a v→(Instr.indexAt T (.slice (some ⟨g,0,none⟩) (Cd.N j) k) v).run Tryz.prog w = .ok (.pointer (some ⟨g,Cd.J p,none⟩)) w
 load:∀ T c p r,X.load T c p=some r→∀(ρ:Bg)(M:Nat→Prop)(w:World)(g:Nat)(cs:List Value),w.rangeAt g 0 cs→(Cd.B c).p M w cs→∃ v,(Instr.loadAt T (.pointer (some ⟨g,Cd.J p,none⟩))).run Tryz.prog w = .ok v w∧RV ρ M w r v
 store:∀ T c p a c',X.store T c p a=some c'→∀(ρ:Bg)(M:Nat→Prop)(w:World)(cs:List Value)(v:Value),(Cd.B c).p M w cs→RV ρ M w a v →
  (Tryz.prog.info? T).map (·.size)=some v.cells.size∧(∀ x∈v.cells.toList,x.oneCell'=true)∧Cd.J p+v.cells.size≤cs.length∧(Cd.B c').p M w (cs.take (Cd.J p) ++ v.cells.toList ++ cs.drop (Cd.J p+v.cells.size))
 make:∀ T x y e c j,X.make T x y=some (e,c,j)→Ih e=true∧∀(ρ:Bg)(M:Nat→Prop)(w:World)(vx vy:Value),RV ρ M w x vx→RV ρ M w y vy →
  ∃ cells,(Instr.makeSlice T vx vy).run Tryz.prog w = .ok (.slice (some ⟨w.heap.size,0,none⟩) (Cd.N j) (Cd.N j)) (w.alloc (.cells cells e))∧(Cd.B c).p M w cells.toList
 lit:∀ T n l r,X.lit T n l=some r→∀(ρ:Bg)(M:Nat→Prop)(w:World)(g:Nat)(cs:List Value),¬ M g→g<w.heap.size→w.rangeAt g 0 cs→AQ ρ M w l cs→RV ρ M w r (.slice (some ⟨g,0,none⟩) n n)
 app:∀ T e et c n,X.app T e=some (et,c,n)→Ih et=true∧Tryz.prog.underlying T=some (.slice et)∧(∃ i z,Tryz.prog.info? et=some i∧i.zero=some z∧i.size=4∧z.cells.size=4∧i.bytes≤1048576)∧1≤Cd.N n∧Cd.N n≤1048576 ∧
  ∀(M:Nat→Prop)(w:World)(v:Value),(Cd.X e).p M w [v]→∃ g off xs k,v = .slice (some ⟨g,off,none⟩) (Cd.N n) k∧w.rangeAt g off xs∧xs.length=Cd.N n*4∧(Cd.B c).p M w xs
 apl:∀ T e et l,X.apl T e=some (et,l)→Ih et=true∧Tryz.prog.underlying T=some (.slice et)∧(∃ i z,Tryz.prog.info? et=some i∧i.zero=some z∧i.size=4∧z.cells.size=4∧i.bytes≤1048576)∧l.length≤1048576 ∧
  ∀(ρ:Bg)(M:Nat→Prop)(w:World)(v:Value),(Cd.X e).p M w [v]→∃ A xs k,v = .slice A l.length k∧xs.length=l.length*4∧AQ ρ M w l xs∧(l.length≠0→∃ g off,A=some ⟨g,off,none⟩∧w.rangeAt g off xs)
theorem KC.no:KC XT.none:=⟨λ_ _ _ h=>(by cases h),λ_ _ _ _ h=>(by cases h),λ_ _ _ _ h=>(by cases h),λ_ _ _ _ _ h=>(by cases h),λ_ _ _ _ _ _ h=>(by cases h),λ_ _ _ _ h=>(by cases h),λ_ _ _ _ _ h=>(by cases h),λ_ _ _ _ h=>(by cases h)⟩
def opP(X:XT)(ev:Operand→Option AV)(op:Op):Option (AV × List Nat × HP):=match SQ op with
 | some (k,xs)=>match xY ev xs with
  | some l=>if l.all AV.one then (X.pure k l).map λr=>(r,[],[]) else none
  | none=>none
 | none=>none
noncomputable def AeF(X:XT)(t0:Nat)(ev:Operand→Option AV)(T:TypeId)(x y:Operand):Option (AV × List Nat × HP):=match ev x,ev y with
 | some (.sl o 0 0 (some 0)),some (.ext 1 false e)=>(match X.apl T e with
  | some p=>if Nat.beq p.2.length 0 then some (.sl o 0 0 (some 0),[],[]) else some (.sl t0 0 p.2.length none,[],[(t0,some ⟨p.1,4,p.2,true,none⟩)])
  | none=>(X.app T e).map λp=>(.slx t0 p.2.2,[],[(t0,some ⟨p.1,4,[],true,some p.2.1⟩)]))
 | _,_=>none
noncomputable def opX(X:XT)(H:HP)(t0:Nat)(ev:Operand→Option AV)(op:Op):Option (AV × List Nat × HP):=match op with
 | .indexAddr T x y=>match ev x,ev y with
  | some (.slx o j),some a=>(X.idx T j a).map λp=>(.epx o p,[],[])
  | _,_=>opP X ev op
 | .load T x=>match ev x with
  | some (.epx o p)=>match lk H o with
   | some b=>match b.bl with
    | some c=>(X.load T c p).map λr=>(r,[o],[])
    | none=>none
   | none=>none
  | _=>opP X ev op
 | .store T x y=>match ev x,ev y with
  | some (.epx o p),some a=>match lk H o with
   | some b=>match b.bl with
    | some c=>(X.store T c p a).map λc'=>(.val undef,[o],[(o,some { b with bl:=some c' })])
    | none=>none
   | none=>none
  | _,_=>none
 | .makeSlice T x y=>match ev x,ev y with
  | some a,some b=>(X.make T a b).map λp=>(.slx t0 p.2.2,[],[(t0,some ⟨p.1,0,[],false,some p.2.1⟩)])
  | _,_=>none
 | .buildSlice T n ps=>match TV ev t0 T n ps.toList with
  | some (_,_,[(_,some b)])=>(X.lit T n b.cs).map λr=>(r,[],[])
  | _=>none
 | .call c=>match c.callee,c.args.toList,c.argTypes.toList with
  | .builtin .append,[x,y],[T,T2]=>if Nat.beq T T2 then AeF X t0 ev T x y else none
  | _,_,_=>opP X ev op
 | _=>opP X ev op
theorem Oa{v:Value}{w':World}{H':Nat→Option OB}(hs:CK ρ M A w t0 H')(hb:Below w.heap.size w w')(hv:RV ρ M w' r v):BI ρ M A w t0 H' [] r v w':=by
 have ht:Tr ρ M w ρ M w':=⟨Bt.of_below hb,λb hlt _=>hb.block b hlt,λ_ _ h=>h,λ_ _ h=>h⟩;have hblk:∀ o b g c,H' o=some b→ρ o=some (g,c)→w'.heap[g]? = w.heap[g]? := λo b g c e1 e2=>by
  obtain ⟨g1,c1,arr,cs,k⟩:=hs.heap.obj o b e1;have:g=g1:=by
   have:=k.at_;rw [e2] at this;simpa using congrArg Prod.fst (Option.some.inj this)
  exact hb.block g (this ▸ AJ k.blk)
 exact ⟨ρ,M,ht,hv,hs.heap.st ht (λ_ h=>h) hblk,λ_ _ e=>.inl e,λ_ h=>h,λ_ h=>.inl h,λb h=>Nat.lt_of_lt_of_le (hs.bnd b h) hb.size,NN.below hb,λo b g c e1 _ e2=>hblk o b g c e1 e2⟩
theorem zV{X:XT}(hX:KC X)(h:opP X ev op=some (r,R,U))(hs:CK ρ M A w t0 Hr)(hev:∀ x a,ev x=some a→RV ρ M w a (ρv x)):CM op ρv w (BI ρ M A w t0 Hr U r):=by
 unfold opP at h;split at h
 ·rename_i k xs hk
  split at h
  ·rename_i l hl
   split at h
   ·rename_i ho
    obtain ⟨r',hr,e⟩:=Option.map_eq_some_iff.1 h
    cases e
    obtain ⟨v,hrun,hv⟩:=hX.pure k l r hr ρ M w ρv xs hs.bnd (LK hev hl ho);exact Bj hs (λo e=>hrun o (e.trans (Pa hk).symm)) hv
   ·cases h
  ·cases h
 ·cases h
theorem EE{arr:Array Value}{T:TypeId}{g:Nat}{cs tl:List Value}(hg:w.heap[g]? = some (.cells arr T (0,0)))(he:arr.toList=cs ++ tl):w.rangeAt g 0 cs:=by
 have:=G_ hg he 0;rwa [List.drop_zero] at this
theorem zP{X:XT}(hX:KC X){T:TypeId}{x y:Operand}(h:AeF X t0 ev T x y=some (r,R,U))(hs:CK ρ M A w t0 Hr)(hev:∀ x a,ev x=some a→RV ρ M w a (ρv x)):CM (.call { callee:=.builtin .append,args:=#[x,y],argTypes:=#[T,T] }) ρv w (BI ρ M A w t0 Hr U r):=by
 unfold AeF at h;split at h
 ·rename_i o e hx hy
  have hvx0:Rp ρ M w (.sl o 0 0 (some 0)) [ρv x]:=hev _ _ hx;split at h
  ·rename_i p hp
   obtain ⟨et,l⟩:=p;obtain ⟨hT,hd,⟨i,z,hi,hz,h4,hz4,hby⟩,h2,hv⟩:=hX.apl T e et l hp;dsimp only at h;have hvy:Rp ρ M w (.ext 1 false e) [ρv y]:=hev _ _ hy;unfold Rp at hvy;obtain ⟨Ay,xs,k,ey,hl,hrp,hag⟩:=hv ρ M w _ hvy.2;have hvx:=hvx0;unfold Rp at hvx;obtain ⟨g',c',kk,_,ex,_,ek,_⟩:=hvx;have ex:=(List.cons.inj ex).1;have ek:=ek 0 rfl;subst ek;split at h
   ·rename_i h0
    have h0:=Nat.eq_of_beq_eq_true h0
    cases h
    refine Bj (v:=ρv x) hs (λo' ho=>?_) hvx0;unfold execOp;rw [ho];have key:(Builtin.append_ #[T,T] o'.type #[ρv x,ρv y]).run Tryz.prog w = .ok (ρv x) w:=by
     rw [ex,ey,h0]
     cases Ay with
     | none=>simp [Builtin.append_,run_underlying hd,sizeOf,typeInfo,hi,Builtin.lenOf,Builtin.firstCells,storeCells]
     | some ay =>
      have hl0:=run_firstCells_some (P:=Tryz.prog) w i.size 0 ay 0 k [] (by simp) (λj v hv=>by simp at hv);simp [Builtin.append_,run_underlying hd,sizeOf,typeInfo,hi,Builtin.lenOf,hl0,storeCells]
    simp only [resolve,invoke,builtin,Sem.run_bind,Sem.run_pure,Result.andThen_ok,List.map_toArray,List.map_cons,List.map_nil,key]
   ·rename_i h0
    have h0:l.length≠0:=λq=>h0 (by rw [q]; rfl)
    cases h
    obtain ⟨g,off,rfl,hr⟩:=hag h0;generalize hN:l.length=N at *;have hcells:∀(j:Nat)(v:Value),xs[j]? = some v→w.cell? ((⟨g,off,none⟩:Addr).add j)=some v:=λj v hv=>by rw [Addr.add_mid]; exact hr j v hv
    have hrun:=λty=>run_append_grow (P:=Tryz.prog) w T ty et i z hd hi hz ⟨g',0,none⟩ 0 0 [] (by simp) (λj v hv=>by simp at hv) ⟨g,off,none⟩ N k xs (by rw [hl,h4]) hcells (by omega) (by omega) (growslice_fits (by omega) (Sw (by omega) (by omega)))
    intro o' ho;have go:(execOp ρv o').run Tryz.prog w = .ok (.value (.slice (some ⟨w.heap.size,0,none⟩) (0+N) (grownCap w (0+N) 0 et))) (w.drew.alloc (.cells (#[] ++ xs.toArray ++ Builtin.zeroCells z.cells (grownCap w (0+N) 0 et - (0+N))) et)):=by
     unfold execOp;rw [ho];have:=hrun o'.type;simp only [resolve,invoke,builtin,Sem.run_bind,Sem.run_pure,Result.andThen_ok,List.map_toArray,List.map_cons,List.map_nil,ex,ey,this]
    rw [go];have:=IL (n:=N) (z:=z.cells) hs hT hrp (by rw [hl]) hz4 (grownCap_ge w N 0 et) (grownCap_le_maxLen w N 0 et (by unfold maxLen; omega));rw [show #[] ++ xs.toArray=xs.toArray by simp,show (0+N)=N from Nat.zero_add N];exact this
  ·obtain ⟨⟨et,c,n⟩,hp,he⟩:=Option.map_eq_some_iff.1 h
   cases he
   obtain ⟨hT,hd,⟨i,z,hi,hz,h4,hz4,hby⟩,h1,h2,hv⟩:=hX.app T e et c n hp;have hvy:Rp ρ M w (.ext 1 false e) [ρv y]:=hev _ _ hy;unfold Rp at hvy;obtain ⟨g,off,xs,k,ey,hr,hl,hb⟩:=hv M w _ hvy.2;have hvx:Rp ρ M w (.sl o 0 0 (some 0)) [ρv x]:=hev _ _ hx;unfold Rp at hvx;obtain ⟨g',c',kk,_,ex,_,ek,_⟩:=hvx;have ex:=(List.cons.inj ex).1;have ek:=ek 0 rfl;subst ek;generalize hN:Cd.N n=N at *;have hcells:∀(j:Nat)(v:Value),xs[j]? = some v→w.cell? ((⟨g,off,none⟩:Addr).add j)=some v:=λj v hv=>by rw [Addr.add_mid]; exact hr j v hv
   have hrun:=λty=>run_append_grow (P:=Tryz.prog) w T ty et i z hd hi hz ⟨g',0,none⟩ 0 0 [] (by simp) (λj v hv=>by simp at hv) ⟨g,off,none⟩ N k xs (by rw [hl,h4]) hcells (by omega) (by omega) (growslice_fits (by omega) (Sw (by omega) (by omega)))
   intro o' ho;have go:(execOp ρv o').run Tryz.prog w = .ok (.value (.slice (some ⟨w.heap.size,0,none⟩) (0+N) (grownCap w (0+N) 0 et))) (w.drew.alloc (.cells (#[] ++ xs.toArray ++ Builtin.zeroCells z.cells (grownCap w (0+N) 0 et - (0+N))) et)):=by
    unfold execOp;rw [ho];have:=hrun o'.type;simp only [resolve,invoke,builtin,Sem.run_bind,Sem.run_pure,Result.andThen_ok,List.map_toArray,List.map_cons,List.map_nil,ex,ey,this]
   rw [go];refine Kl (b0:=⟨et,4,[],true,some c⟩) (c:=grownCap w (0+N) 0 et) (cs:=xs) hs (Co hT) hb ⟨(Builtin.zeroCells z.cells (grownCap w (0+N) 0 et - (0+N))).toList,by simp,λh=>by cases h⟩ (λ_=>⟨?_,grownCap_le_maxLen w (0+N) 0 et (by unfold maxLen; omega)⟩) (.inr rfl) [] (λx h=>by cases h) λρ' M' e=>?_
   ·have hge:=grownCap_ge w (0+N) 0 et
    rw [Array.size_append,Array.size_append,size_zeroCells,hz4];have e:xs.toArray.size=N*4:=by rw [List.size_toArray,hl]
    rw [e];show 0+N*4+(grownCap w (0+N) 0 et - (0+N))*4=4*grownCap w (0+N) 0 et;omega
   ·have hge:=grownCap_ge w (0+N) 0 et
    have key:∀ w':World,Rp ρ' M' w' (.slx t0 n) [.slice (some ⟨w.heap.size,0,none⟩) (0+N) (grownCap w (0+N) 0 et)]:=λw'=>by
     unfold Rp;rw [hN];refine ⟨_,grownCap w (0+N) 0 et,_,e,?_,Nat.le_trans (by omega) hge⟩;rw [show (0+N)=N from Nat.zero_add N]
    exact key (w.drew.alloc (.cells (#[] ++ xs.toArray ++ Builtin.zeroCells z.cells (grownCap w (0+N) 0 et - (0+N))) et))
 ·cases h
theorem Akp{X:XT}(hX:KC X)(h:opX X H t0 ev op=some (r,R,U))(hs:CK ρ M A w t0 Hr)(hag:∀ o∈R,Hr o=lk H o)(hev:∀ x a,ev x=some a→RV ρ M w a (ρv x)):CM op ρv w (BI ρ M A w t0 Hr U r):=by
 unfold opX at h;split at h
 ·rename_i T x y
  split at h
  ·rename_i o j a hx hy
   obtain ⟨p,hp,e⟩:=Option.map_eq_some_iff.1 h
   cases e
   have hv:Rp ρ M w (.slx o j) [ρv x]:=hev _ _ hx;unfold Rp at hv;obtain ⟨g,k,cc,e1,e2,e3⟩:=hv;have hrun:=hX.idx T j a p hp ρ M w g k (ρv y) (hev _ _ hy);refine Bj hs (v:=.pointer (some ⟨g,Cd.J p,none⟩)) (λo' ho=>?_) ?_
   ·unfold execOp
    rw [ho];show Sem.run _ (Instr.indexAt T (ρv x) (ρv y) >>= λx=>pure (Next.value x)) w=_;rw [(List.cons.inj e2).1];exact CA hrun
   ·show Rp ρ M w (.epx o p) [_]
    unfold Rp;exact ⟨g,cc,e1,rfl⟩
  ·exact zV hX h hs hev
 ·rename_i T x
  split at h
  ·rename_i o p hx
   split at h
   ·rename_i b hb
    split at h
    ·rename_i c hc
     obtain ⟨r',hr,e⟩:=Option.map_eq_some_iff.1 h
     cases e
     obtain ⟨g,cc,arr,cs,k⟩:=hs.heap.obj o b ((hag o (by simp)).trans hb);have hv:Rp ρ M w (.epx o p) [ρv x]:=hev _ _ hx;unfold Rp at hv;obtain ⟨g',cc',e1,e2⟩:=hv;rw [k.at_] at e1;simp only [Option.some.injEq,Prod.mk.injEq] at e1;obtain ⟨tl,he,_⟩:=k.pre;have hcells:=k.cells;unfold Bv at hcells;rw [hc] at hcells;obtain ⟨v,hrun,hv⟩:=hX.load T c p r hr ρ M w g cs (EE k.blk he) hcells;refine Bj hs (v:=v) (λo' ho=>?_) hv;unfold execOp;rw [ho];show Sem.run _ (Instr.loadAt T (ρv x) >>= λx=>pure (Next.value x)) w=_;rw [(List.cons.inj e2).1,← e1.1];exact CA hrun
    ·cases h
   ·cases h
  ·exact zV hX h hs hev
 ·rename_i T x y
  split at h
  ·rename_i o p a hx hy
   split at h
   ·rename_i b hb
    split at h
    ·rename_i c hc
     obtain ⟨c',hr,e⟩:=Option.map_eq_some_iff.1 h
     cases e
     have hbr:Hr o=some b:=(hag o (by simp)).trans hb;obtain ⟨g,cc,arr,cs,k⟩:=hs.heap.obj o b hbr;have hv:Rp ρ M w (.epx o p) [ρv x]:=hev _ _ hx;unfold Rp at hv;obtain ⟨g',cc',e1,e2⟩:=hv;rw [k.at_] at e1;simp only [Option.some.injEq,Prod.mk.injEq] at e1;obtain ⟨tl,he,ht⟩:=k.pre;have hcells:=k.cells;unfold Bv at hcells;rw [hc] at hcells;obtain ⟨q1,q2,q3,q4⟩:=hX.store T c p a c' hr ρ M w cs (ρv y) hcells (hev _ _ hy);have hsz:arr.size=cs.length+tl.length:=by rw [← List.length_append,← he]; simp
     have hlc:(ρv y).cells.toList.length=(ρv y).cells.size:=by simp
     have hrun:(Instr.storeAt T (.pointer (some ⟨g,Cd.J p,none⟩)) (ρv y)).run Tryz.prog w = .ok () (w.setRow g (arr.toList.take (Cd.J p) ++ (ρv y).cells.toList ++ arr.toList.drop (Cd.J p+(ρv y).cells.toList.length)).toArray):=by
      have:=run_storeCells_at Tryz.prog g (Cd.J p) b.ty (ρv y).cells.toList 0 arr w k.blk (by omega) q2;simp only [Nat.add_zero] at this
      cases hi:Tryz.prog.info? T with
      | none=>rw [hi] at q1; cases q1
      | some i =>
       rw [hi] at q1;have hs':(ρv y).cells.size=i.size:=by simpa using q1.symm
       simp [Instr.storeAt,Instr.sureAddr,storeVar,Sem.run_bind,sizeOf,typeInfo,hi,hs',this]
     intro o' ho';have hex:(execOp ρv o').run Tryz.prog w = .ok .skip (w.setRow g (arr.toList.take (Cd.J p) ++ (ρv y).cells.toList ++ arr.toList.drop (Cd.J p+(ρv y).cells.toList.length)).toArray):=by
      unfold execOp;rw [ho'];show Sem.run _ (Instr.storeAt T (ρv x) (ρv y) >>= λ_=>pure Next.skip) w=_;rw [(List.cons.inj e2).1,← e1.1];exact XM hrun
     rw [hex];refine N9 (b1:={ b with bl:=some c' }) hs hbr k rfl rfl rfl (cs':=cs.take (Cd.J p) ++ (ρv y).cells.toList ++ cs.drop (Cd.J p+(ρv y).cells.size)) q4 ⟨tl,?_,ht⟩ ?_ o false (.inl ⟨rfl,rfl⟩) _ _ λ_ _ _ _ _=>rfl
     ·rw [he,hlc,List.take_append_of_le_length (by omega),List.drop_append_of_le_length (by omega)]
      simp
     ·simp only [List.size_toArray,List.length_append,List.length_take,List.length_drop,Array.length_toList]
      omega
    ·cases h
   ·cases h
  ·cases h
 ·rename_i T x y
  split at h
  ·rename_i a b hx hy
   obtain ⟨p,hp,e⟩:=Option.map_eq_some_iff.1 h;obtain ⟨e0,c,j⟩:=p
   cases e
   obtain ⟨hT,hm⟩:=hX.make T a b e0 c j hp;obtain ⟨cells,hrun,hc⟩:=hm ρ M w (ρv x) (ρv y) (hev _ _ hx) (hev _ _ hy);intro o ho;have hex:(execOp ρv o).run Tryz.prog w = .ok (.value (.slice (some ⟨w.heap.size,0,none⟩) (Cd.N j) (Cd.N j))) (w.alloc (.cells cells e0)):=by
    unfold execOp;rw [ho];show Sem.run _ (Instr.makeSlice T (ρv x) (ρv y) >>= λx=>pure (Next.value x)) w=_;exact CA hrun
   rw [hex];refine Kl (b0:=⟨e0,0,[],false,some c⟩) (c:=0) hs (Co hT) (cs:=cells.toList) hc ⟨[],by simp,λ_=>rfl⟩ (λh=>by cases h) (.inl rfl) [] (λx h=>by cases h) λρ' M' e=>?_
   show Rp ρ' M' (w.alloc (.cells cells e0)) (.slx t0 j) [.slice (some ⟨w.heap.size,0,none⟩) (Cd.N j) (Cd.N j)];unfold Rp;exact ⟨_,_,_,e,rfl,Nat.le_refl _⟩
  ·cases h
 ·rename_i T n ps
  split at h
  ·rename_i r0 R0 o0 b hl
   obtain ⟨r',hr,e⟩:=Option.map_eq_some_iff.1 h
   cases e
   obtain ⟨e,k,l',arr,_,hU,hT,hc,hrun⟩:=Zo (ρ:=ρ) (M:=M) (w:=w) hl hev;simp only [List.cons.injEq,Prod.mk.injEq,Option.some.injEq,and_true] at hU;obtain ⟨_,rfl⟩:=hU;intro o ho;rw [hrun o ho];have hb:Below w.heap.size w (w.alloc (.cells arr e)):=Ai w _;have hn:=heap_alloc_new w (.cells arr e);have hsz:(w.alloc (.cells arr e)).heap.size=w.heap.size+1:=By _ _;exact Oa hs hb (hX.lit T n l' _ hr ρ M _ w.heap.size arr.toList (λhm=>Nat.lt_irrefl _ (hs.bnd _ hm)) (by omega) (EE hn (List.append_nil _).symm) (AQ.st ⟨Bt.of_below hb,λb hlt _=>hb.block b hlt,λ_ _ h=>h,λ_ _ h=>h⟩ _ _ hc))
  ·cases h
 ·rename_i c
  obtain ⟨callee,args,Ts⟩:=c;simp only [] at h;split at h
  ·rename_i x y T T2 ha ht
   have ha:args = #[x,y]:=Array.toList_inj.1 ha;have ht:Ts = #[T,T2]:=Array.toList_inj.1 ht;subst ha;subst ht;split at h
   ·rename_i e
    have e:=Nat.eq_of_beq_eq_true e;subst e;exact zP hX h hs hev
   ·cases h
  ·exact zV hX h hs hev
 ·exact zV hX h hs hev
def orC(a b:BD):BD:=λf xs H n0 t0=>match a f xs H n0 t0 with
 | some r=>some r
 | none=>b f xs H n0 t0
theorem U9{a b:BD}(ha:B5 a)(hb:B5 b):B5 (orC a b):=λf xs H n0 t0 r U h=>by
 unfold orC at h;split at h
 ·rename_i p hp
  cases h
  exact ha f xs H n0 t0 r U hp
 ·exact hb f xs H n0 t0 r U h
theorem DM:B5 N6:=λf xs H n0 t0 r U h=>by cases h
structure Tb where
 prim:cC
 x:XT
 call:BD
structure EO (T:Tb):Prop where
 prim:Ke T.prim
 x:KC T.x
 call:B5 T.call
noncomputable def opA(T:Tb)(cf:BD)(H:HP)(n0 t0:Nat)(ev:Operand→Option AV)(op:Op):Option (AV × List Nat × HP):=match T.x.on with
 | false=>opB T.prim cf H n0 t0 ev op
 | true=>match opX T.x H t0 ev op with
  | some p=>some p
  | none=>opB T.prim cf H n0 t0 ev op
theorem aH{C:T5}{T:Tb}(hT:EO T)(hcf:Gj C cf)(hC:C ρ M w)(h:opA T cf H n0 t0 ev op=some (r,R,U))(hs:CK ρ M A w t0 Hr)(hag:∀ o∈R,Hr o=lk H o)(hev:∀ x a,ev x=some a→RV ρ M w a (ρv x))(hdom:∀ o p,ρ o=some p→o<n0)(hn:t0+16≤n0):CM op ρv w (BI ρ M A w t0 Hr U r):=by
 unfold opA at h;split at h
 ·exact OA hT.prim hcf hC h hs hag hev hdom hn
 ·split at h
  ·rename_i p hp
   cases h
   exact Akp hT.x hp hs hag hev
  ·exact OA hT.prim hcf hC h hs hag hev hdom hn
end
end
end Go.Proofs.YtdopbgnkneeceaaGreat

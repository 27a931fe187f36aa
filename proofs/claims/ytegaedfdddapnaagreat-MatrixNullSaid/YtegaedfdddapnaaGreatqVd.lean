/- An abstract machine: operations upon values, and those that make objects. -/
import Derived.Test.YtegaedfdddapnaaGreatqVa
import Derived.Great.BuildSlice
set_option linter.unusedSectionVars false
set_option linter.unusedVariables false
set_option linter.unusedSimpArgs false
set_option maxRecDepth 100000
namespace Go.Proofs.YtegaedfdddapnaaGreat
open Go.RowKit
section
variable [Cc]
section
variable {ρ : Bi} {M A : Nat → Prop} {w : World} {t0 : Nat} {Hr : Nat → Option OB} {H : HP} {ev : Operand → Option AV} {ρv : Operand → Value} {r : AV} {R : List Nat} {U : HP} {op : Op}
def Jg:AV→Option (List AV)
 | .agg l=>some l
 | .any=>none
 | .tup _=>none
 | .val v=>if KS v then some [.val v] else none
 | .ext n ag c=>some [.ext n ag c]
 | a=>some [a]
theorem T_{v:Value}(h:KS v=true):v.cells = #[v]:=by
 unfold KS at h;split at h <;> first | rfl | cases h
theorem Zu{v:Value}(h:v.oneCell'=true):v.cells = #[v]:=by
 cases v <;> first | rfl | cases h
theorem Fr{a:AV}{l:List AV}{v:Value}(h:Jg a=some l)(hv:RV ρ M w a v):AW ρ M w l v.cells.toList:=by
  unfold Jg at h
  split at h
  · cases h
    obtain ⟨cs,rfl,hc⟩:=(show BA ρ M w (.agg _) v from hv)
    exact hc
  · cases h
  · cases h
  · split at h
    · rename_i u hf
      cases h
      have hv:v=u:=hv
      subst hv
      rw [T_ hf]
      exact AW.one (by unfold Rp; exact ⟨rfl,hf⟩)
    · cases h
  · rename_i n ag c
    cases h
    cases ag with
    | true =>
      obtain ⟨cs,rfl,hr⟩:=(show BA ρ M w (.ext n true c) v from hv)
      exact AW.one hr
    | false =>
      have hr:Rp ρ M w (.ext n false c) [v]:=hv
      have hr2:=hr
      unfold Rp at hr2
      rw [Zu ((Cc.X c).one _ _ _ hr2.2 v (by simp))]
      exact AW.one hr
  · rename_i n1 n2 n3 n4 n5
    cases h
    have key:∀ cs:Array Value,v = .agg cs→Rp ρ M w a cs.toList→AW ρ M w [a] v.cells.toList:=λcs e hr=>by subst e; exact AW.one hr
    have one:Rp ρ M w a [v]→(∀ cs,v ≠ .agg cs)→AW ρ M w [a] v.cells.toList:=λhr hne=>by
      have:v.cells = #[v]:=by
        cases v <;> first | rfl | exact absurd rfl (hne _)
      rw [this]
      exact AW.one hr
    cases a <;> first
      | (exact absurd rfl (n1 _); done)
      | (exact absurd rfl n2; done)
      | (exact absurd rfl (n3 _); done)
      | (exact absurd rfl (n4 _); done)
      | (exact absurd rfl (n5 _ _ _); done)
      | (obtain ⟨cs,e,hr⟩:=hv; exact key cs e hr)
      | (refine one hv ?_
         have hv:=hv
         unfold RV BA at hv
         simp only [] at hv
         unfold Rp at hv
         first
           | (obtain ⟨_,_,e,_⟩:=hv; intro cs h; rw [h] at e; cases (List.cons.inj e).1)
           | (obtain ⟨_,_,_,e,_⟩:=hv; intro cs h; rw [h] at e; cases (List.cons.inj e).1)
           | (obtain ⟨_,_,_,_,e,_⟩:=hv; intro cs h; rw [h] at e; cases (List.cons.inj e).1)
           | (obtain ⟨_,_,_,e⟩:=hv; intro cs h; rw [h] at e; cases (List.cons.inj e).1))
theorem S7:∀{vs:List Value},vs.all KS=true→AW ρ M w (vs.map .val) vs
 | [],_=>by unfold List.map AW; rfl
 | v :: vs,h=>by
  rw [List.all_cons,Bool.and_eq_true] at h;rw [List.map_cons];unfold AW;exact ⟨[v],vs,rfl,by unfold Rp; exact ⟨rfl,h.1⟩,S7 h.2⟩
noncomputable def IL(T:TypeId):Option (List AV):=match (Tryz.prog.info? T).bind (·.zero) with
 | some z=>if z.cells.toList.all KS then some (z.cells.toList.map .val) else none
 | none=>none
theorem Dz{T:TypeId}{l:List AV}(h:IL T=some l):∃ i z,Tryz.prog.info? T=some i∧i.zero=some z∧AW ρ M w l z.cells.toList:=by
 unfold IL at h;split at h
 ·rename_i z hz
  split at h
  ·rename_i hf
   cases h
   obtain ⟨i,hi,hz⟩:=Option.bind_eq_some_iff.1 hz;exact ⟨i,z,hi,hz,S7 hf⟩
  ·cases h
 ·cases h
def IY(T:TypeId):Bool:=!(Nat.beq T 114) && !(Nat.beq T 5)
theorem Cr{T:TypeId}(h:IY T=true):T≠114∧T≠5:=by
 unfold IY at h;rw [Bool.and_eq_true] at h;refine ⟨?_,?_⟩
 ·rintro rfl; simp at h
 ·rintro rfl; simp at h
def PT(ev:Operand→Option AV)(x:Operand):Option (AV × List Nat × HP):=(ev x).map λa=>(a,[],[])
theorem Xh{x:Operand}(he:op = .move x ∨ op = .assign x)(h:PT ev x=some (r,R,U))(hs:CL ρ M A w t0 Hr)(hev:∀ x a,ev x=some a→RV ρ M w a (ρv x)):CJ op ρv w (BH ρ M A w t0 Hr U r):=by
 unfold PT at h
 cases ha:ev x with
 | none=>rw [ha] at h; cases h
 | some a =>
  rw [ha] at h
  cases h
  refine Bn (v:=ρv x) hs (λo ho=>?_) (hev _ _ ha)
  rcases he with rfl | rfl <;> (unfold execOp; rw [ho]; rfl)
def Ur(ev:Operand→Option AV)(c x y:Operand):Option (AV × List Nat × HP):=do
 match ← ev c with
 | .val (.bool true)=>(ev x).map λa=>(a,[],[])
 | .val (.bool false)=>(ev y).map λa=>(a,[],[])
 | _=>none
theorem pV{c x y:Operand}(h:Ur ev c x y=some (r,R,U))(hs:CL ρ M A w t0 Hr)(hev:∀ x a,ev x=some a→RV ρ M w a (ρv x)):CJ (.pick c x y) ρv w (BH ρ M A w t0 Hr U r):=by
 simp only [Ur,Option.bind_eq_bind,Option.bind_eq_some_iff] at h;obtain ⟨b,hb,h⟩:=h;have hvb:=hev _ _ hb;split at h
 ·have hvb:ρv c = .bool true:=hvb
  cases ha:ev x with
  | none=>rw [ha] at h; cases h
  | some a =>
   rw [ha] at h
   cases h
   exact Bn (v:=ρv x) hs (λo ho=>Hh (b:=true) hvb ho) (hev _ _ ha)
 ·have hvb:ρv c = .bool false:=hvb
  cases ha:ev y with
  | none=>rw [ha] at h; cases h
  | some a =>
   rw [ha] at h
   cases h
   exact Bn (v:=ρv y) hs (λo ho=>Hh (b:=false) hvb ho) (hev _ _ ha)
 ·cases h
def mF(ev:Operand→Option AV)(x:Operand)(k:Nat):Option (AV × List Nat × HP):=do
 match ← ev x with
 | .tup l=>(l[k]?).map λa=>(a,[],[])
 | _=>none
theorem CH.get:∀{l:List AV}{vs:List Value}{k:Nat}{a:AV},CH ρ M w l vs→l[k]? = some a→∃ v,vs[k]? = some v∧BA ρ M w a v
 | [],_,_,_,_,h=>by simp at h
 | b :: l,vs,k,a,hr,h=>by
  obtain ⟨v,r,rfl,h1,h2⟩:=hr
  cases k with
  | zero=>simp at h; subst h; exact ⟨v,rfl,h1⟩
  | succ k=>simpa using CH.get h2 (by simpa using h)
theorem AdP{x:Operand}{k:Nat}(h:mF ev x k=some (r,R,U))(hs:CL ρ M A w t0 Hr)(hev:∀ x a,ev x=some a→RV ρ M w a (ρv x)):CJ (.extract x k) ρv w (BH ρ M A w t0 Hr U r):=by
 simp only [mF,Option.bind_eq_bind,Option.bind_eq_some_iff] at h;obtain ⟨b,hb,h⟩:=h;have hvb:=hev _ _ hb;split at h
 ·rename_i l
  cases hl:l[k]? with
  | none=>rw [hl] at h; cases h
  | some a =>
   rw [hl] at h
   cases h
   obtain ⟨vs,e,hvs⟩:=hvb;obtain ⟨v,hv,hr⟩:=hvs.get hl;refine Bn (v:=v) hs (λo ho=>?_) hr.rv;unfold execOp;rw [ho];have hv':vs[k]? = some v:=by simpa using hv
   simp [go_sem,e,hv']
 ·cases h
def aN(ev:Operand→Option AV)(x:Operand):Option (AV × List Nat × HP):=do
 match ← ev x with
 | .ptr o off=>some (.ptr o off,[],[])
 | .rptr l=>some (.rptr l,[],[])
 | _=>none
theorem Adk{x:Operand}(h:aN ev x=some (r,R,U))(hs:CL ρ M A w t0 Hr)(hev:∀ x a,ev x=some a→RV ρ M w a (ρv x)):CJ (.nilCheck x) ρv w (BH ρ M A w t0 Hr U r):=by
 simp only [aN,Option.bind_eq_bind,Option.bind_eq_some_iff] at h;obtain ⟨b,hb,h⟩:=h;have hvb:=hev _ _ hb;have go:∀ g off,ρv x = .pointer (some ⟨g,off,none⟩)→∀ o:Oper,o.op = .nilCheck x→(execOp ρv o).run Tryz.prog w = .ok (.value (ρv x)) w:=λg off e o ho=>by
  unfold execOp;rw [ho];simp only [e];rfl
 split at h
 ·cases h
  have hv:Rp ρ M w _ [ρv x]:=hvb;have hv2:=hv;unfold Rp at hv2;obtain ⟨g,c,_,e2⟩:=hv2;exact Bn hs (go g _ (List.cons.inj e2).1) hvb
 ·cases h
  have hv:Rp ρ M w _ [ρv x]:=hvb;have hv2:=hv;unfold Rp at hv2;obtain ⟨g,off,_,e2,_⟩:=hv2;exact Bn hs (go g _ (List.cons.inj e2).1) hvb
 ·cases h
def dO(op:BinOp)(k:IntKind)(a b:Int):Option Value:=match op with
 | .eql=>some (.bool (a == b))
 | .neq=>some (.bool (a != b))
 | .lss=>some (.bool (decide (a<b)))
 | .leq=>some (.bool (decide (a≤b)))
 | .gtr=>some (.bool (decide (b<a)))
 | .geq=>some (.bool (decide (b≤a)))
 | .add=>some (.int k (k.wrap (a+b)))
 | .sub=>some (.int k (k.wrap (a - b)))
 | .mul=>some (.int k (k.wrap (a*b)))
 | .rem=>if b == 0 then none else some (.int k (a.tmod b))
 | _=>none
noncomputable def rV(o:BinOp)(k:IntKind)(T:TypeId)(p q:Int):Option Value:=match o,k with
 | .and,.i64=>if Nat.beq T 3 then some (.int .i64 (bits .and .i64 p q)) else none
 | .shr,.i64=>if Nat.beq T 3 && decide (0≤q) && decide (q<64) then some (.int .i64 (p / 2 ^ q.toNat)) else none
 | _,_=>none
def Acs:AV→Option Bool
 | .val (.slice none _ _)=>some true
 | .val (.slice (some _) _ _)=>some false
 | .sl _ _ _ _=>some false
 | .slx _ _=>some false
 | .rats (_ :: _)=>some false
 | .row (_+1) _=>some false
 | _=>none
theorem NA{a:AV}{b:Bool}{v:Value}(h:Acs a=some b)(hv:RV ρ M w a v):∃ A n c,v = .slice A n c∧A.isNone=b:=by
 unfold Acs at h;split at h
 ·cases h; exact ⟨none,_,_,hv,rfl⟩
 ·cases h; exact ⟨some _,_,_,hv,rfl⟩
 ·cases h
  have hv:Rp ρ M w (.sl _ _ _ _) [v]:=hv;unfold Rp at hv;obtain ⟨g,c,k,_,e,_⟩:=hv;exact ⟨_,_,_,(List.cons.inj e).1,rfl⟩
 ·cases h
  have hv:Rp ρ M w (.slx _ _) [v]:=hv;unfold Rp at hv;obtain ⟨g,c,k,_,e,_⟩:=hv;exact ⟨_,_,_,(List.cons.inj e).1,rfl⟩
 ·rename_i q l
  cases h
  have hv:Rp ρ M w (.rats (q :: l)) [v]:=hv;unfold Rp at hv;obtain ⟨A,c,e,_,hr⟩:=hv;obtain ⟨g,off,xs,e1,_⟩:=hr (by simp);exact ⟨A,_,_,(List.cons.inj e).1,by rw [e1]; rfl⟩
 ·rename_i n l
  cases h
  have hv:Rp ρ M w (.row (n+1) l) [v]:=hv;unfold Rp at hv;obtain ⟨A,c,e,_,hr⟩:=hv;obtain ⟨g,off,xs,e1,_⟩:=hr (by simp);exact ⟨A,_,_,(List.cons.inj e).1,by rw [e1]; rfl⟩
 ·cases h
noncomputable def fS(o:BinOp)(T:TypeId)(a:AV):Option (AV × List Nat × HP):=match NG T,Acs a,o with
 | some (.slice _),some b,.eql=>some (.val (.bool b),[],[])
 | some (.slice _),some b,.neq=>some (.val (.bool (!b)),[],[])
 | _,_,_=>none
theorem Hy{T e:TypeId}{A:Option Addr}{n c n' c':Nat}(hd:Tryz.prog.underlying T=some (.slice e)):(Op.equal T (.slice A n c) (.slice none n' c')).run Tryz.prog w = .ok A.isNone w:=by
 unfold Op.equal;rw [show Op.maxDepth=9999+1 from rfl];unfold Op.equalIn
 cases A <;> simp [Sem.run_bind,run_underlying hd]
noncomputable def dI(ev:Operand→Option AV)(o:BinOp)(T:TypeId)(x y:Operand)(T2:TypeId):Option (AV × List Nat × HP):=match ev x,ev y with
 | some (.val (.int k p)),some (.val (.int k' q))=>if k=k' then (match dO o k p q with
   | some v=>some (.val v,[],[])
   | none=>(rV o k T p q).map λv=>(.val v,[],[])) else none
 | some (.val (.bool p)),some (.val (.bool q))=>if Nat.beq T 4 && Nat.beq T2 4 then (match o with
   | .eql=>some (.val (.bool (p == q)),[],[])
   | .neq=>some (.val (.bool (p != q)),[],[])
   | _=>none) else none
 | some a,some (.val (.slice none _ _))=>fS o T a
 | _,_=>none
theorem CM{v:Value}(hs:CL ρ M A w t0 Hr)(h:∃ v' w',(∀ o:Oper,o.op=op→(execOp ρv o).run Tryz.prog w = .ok (.value v') w')∧w'=w∧v'=v):CJ op ρv w (BH ρ M A w t0 Hr [] (.val v)):=by
 obtain ⟨v',w',hr,rfl,rfl⟩:=h;exact Bn hs hr rfl
theorem Nw{o:BinOp}{k:IntKind}{p q:Int}{v:Value}{T T2:TypeId}{x y:Operand}(h:dO o k p q=some v)(hx:ρv x = .int k p)(hy:ρv y = .int k q):∃ v' w',(∀ z:Oper,z.op = .binOp o T x y T2→(execOp ρv z).run Tryz.prog w = .ok (.value v') w')∧w'=w∧v'=v:=by
  cases o <;> simp only [dO] at h <;> first
    | (cases h; done)
    | (cases h
       refine ⟨_,w,λz hz=>?_,rfl,rfl⟩
       unfold execOp
       rw [hz]
       simp [go_sem,hx,hy]
       done)
    | (split at h
       · cases h
       · rename_i hb
         cases h
         have hb:q≠0:=by simpa using hb
         refine ⟨_,w,λz hz=>?_,rfl,rfl⟩
         unfold execOp
         rw [hz]
         simp [go_sem,hx,hy,hb])
theorem kG{o:BinOp}{k:IntKind}{p q:Int}{v:Value}{T T2:TypeId}{x y:Operand}(h:rV o k T p q=some v)(hx:ρv x = .int k p)(hy:ρv y = .int k q):∃ v' w',(∀ z:Oper,z.op = .binOp o T x y T2→(execOp ρv z).run Tryz.prog w = .ok (.value v') w')∧w'=w∧v'=v:=by
 unfold rV at h;split at h
 ·split at h
  ·rename_i hT
   cases h
   have hT:=Nat.eq_of_beq_eq_true hT;subst hT;refine ⟨_,w,λz hz=>?_,rfl,rfl⟩;unfold execOp;rw [hz];simp [go_sem,hx,hy]
  ·cases h
 ·split at h
  ·rename_i hT
   cases h
   rw [Bool.and_eq_true,Bool.and_eq_true] at hT;have hT1:=Nat.eq_of_beq_eq_true hT.1.1;have h0:=of_decide_eq_true hT.1.2;have h1:=of_decide_eq_true hT.2;subst hT1;refine ⟨_,w,λz hz=>?_,rfl,rfl⟩;unfold execOp;rw [hz];simp [go_sem,hx,hy,h0,h1]
  ·cases h
 ·cases h
theorem Ad3{o:BinOp}{T T2:TypeId}{x y:Operand}(h:dI ev o T x y T2=some (r,R,U))(hs:CL ρ M A w t0 Hr)(hev:∀ x a,ev x=some a→RV ρ M w a (ρv x)):CJ (.binOp o T x y T2) ρv w (BH ρ M A w t0 Hr U r):=by
 unfold dI at h;split at h
 ·rename_i k p k' q ha hb
  have hva:ρv x = .int k p:=hev _ _ ha;have hvb:ρv y = .int k' q:=hev _ _ hb;split at h
  ·rename_i hk
   subst hk;split at h
   ·rename_i v hv
    cases h
    exact CM hs (Nw hv hva hvb)
   ·cases hv:rV o k T p q with
    | none=>rw [hv] at h; cases h
    | some v =>
     rw [hv] at h
     cases h
     exact CM hs (kG hv hva hvb)
  ·cases h
 ·rename_i p q ha hb
  have hva:ρv x = .bool p:=hev _ _ ha;have hvb:ρv y = .bool q:=hev _ _ hb;split at h
  ·rename_i hT
   rw [Bool.and_eq_true] at hT;have hT1:=Nat.eq_of_beq_eq_true hT.1;have hT2:=Nat.eq_of_beq_eq_true hT.2;subst hT1;subst hT2;split at h
   ·cases h
    refine CM hs ⟨_,w,λz hz=>?_,rfl,rfl⟩;unfold execOp;rw [hz];simp [go_sem,hva,hvb]
   ·cases h
    refine CM hs ⟨_,w,λz hz=>?_,rfl,rfl⟩;unfold execOp;rw [hz]
    cases p <;> cases q <;> simp [go_sem,hva,hvb]
   ·cases h
  ·cases h
 ·rename_i a n c ha hb
  have hvb:ρv y = .slice none n c:=hev _ _ hb;unfold fS at h;split at h
  ·rename_i e b hd hn
   have hd:Tryz.prog.underlying T=some (.slice e):=hd;obtain ⟨A',n',c',e1,e2⟩:=NA hn (hev _ _ ha)
   cases h
   refine CM hs ⟨_,w,λz hz=>?_,rfl,rfl⟩;unfold execOp;rw [hz];simp [eqGuard,binOp,e1,hvb,Hy hd,e2]
  ·rename_i e b hd hn
   have hd:Tryz.prog.underlying T=some (.slice e):=hd;obtain ⟨A',n',c',e1,e2⟩:=NA hn (hev _ _ ha)
   cases h
   refine CM hs ⟨_,w,λz hz=>?_,rfl,rfl⟩;unfold execOp;rw [hz];simp [eqGuard,binOp,e1,hvb,Hy hd,e2]
  ·cases h
 ·cases h
def AaR(ev:Operand→Option AV)(o:UnOp)(x:Operand):Option (AV × List Nat × HP):=do
 match o,← ev x with
 | .not,.val (.bool b)=>some (.val (.bool (!b)),[],[])
 | .neg,.val (.int k a)=>some (.val (.int k (k.wrap (-a))),[],[])
 | _,_=>none
theorem Aft{o:UnOp}{T:TypeId}{x:Operand}(h:AaR ev o x=some (r,R,U))(hs:CL ρ M A w t0 Hr)(hev:∀ x a,ev x=some a→RV ρ M w a (ρv x)):CJ (.unOp o T x) ρv w (BH ρ M A w t0 Hr U r):=by
 simp only [AaR,Option.bind_eq_bind,Option.bind_eq_some_iff] at h;obtain ⟨a,ha,h⟩:=h;have hva:=hev _ _ ha;split at h
 ·cases h
  have hva:ρv x = .bool _:=hva;refine CM hs ⟨_,w,λz hz=>?_,rfl,rfl⟩;unfold execOp;rw [hz];simp [go_sem,hva]
 ·cases h
  have hva:ρv x = .int _ _:=hva;refine CM hs ⟨_,w,λz hz=>?_,rfl,rfl⟩;unfold execOp;rw [hz];simp [go_sem,hva]
 ·cases h
noncomputable def UR(ev:Operand→Option AV)(S D:TypeId)(x:Operand):Option (AV × List Nat × HP):=do
 let a ← ev x
 match a,NG S,NG D with
 | .val (.int k p),some (.int k'),some (.int k2)=>if k=k' then some (.val (.int k2 (k2.wrap p)),[],[]) else none
 | _,_,_=>none
def JT:AV→Bool
 | .ptr _ _ | .rptr _ | .sl _ _ _ _ | .rats _ | .row _ _ | .fn _ _ _ | .slx _ _ | .epx _ _ | .yl _=>true
 | .ext n ag _=>Nat.beq n 1 && !ag
 | .val v=>KS v
 | _=>false
def pU(ev:Operand→Option AV):List Operand→Option (List AV)
 | []=>some []
 | x :: r=>match ev x,pU ev r with
  | some a,some l=>some (a :: l)
  | _,_=>none
theorem ZZ{a:AV}{v:Value}(h:JT a=true)(hv:RV ρ M w a v):Rp ρ M w a [v]:=by
  cases a <;> first
    | (cases h; done)
    | exact hv
    | (have hv:v=_:=hv
       unfold Rp
       rw [hv]
       exact ⟨rfl,h⟩)
    | (rename_i n ag c
       unfold JT at h
       rw [Bool.and_eq_true,Bool.not_eq_true'] at h
       have:=h.2
       subst this
       exact hv)
theorem L8(hev:∀ x a,ev x=some a→RV ρ M w a (ρv x)):∀{xs:List Operand}{l:List AV},pU ev xs=some l→l.all JT=true→AW ρ M w l (xs.map ρv)
 | [],l,h,_=>by cases h; unfold AW; rfl
 | x :: xs,l,h,hsc=>by
  unfold pU at h;split at h
  ·rename_i a r h1 h2
   cases h
   rw [List.all_cons,Bool.and_eq_true] at hsc;unfold AW;exact ⟨[ρv x],xs.map ρv,rfl,ZZ hsc.1 (hev _ _ h1),L8 hev h2 hsc.2⟩
  ·cases h
def AcE(ev:Operand→Option AV)(f:Fn)(xs ys:List Operand):Option (AV × List Nat × HP):=match f,pU ev xs,pU ev ys with
 | .func f,some a,some b=>if a.all JT && b.all JT then some (.fn f a b,[],[]) else none
 | _,_,_=>none
theorem Agh{f:Fn}{xs ys:Array Operand}(h:AcE ev f xs.toList ys.toList=some (r,R,U))(hs:CL ρ M A w t0 Hr)(hev:∀ x a,ev x=some a→RV ρ M w a (ρv x)):CJ (.makeFunc f xs ys) ρv w (BH ρ M A w t0 Hr U r):=by
 unfold AcE at h;split at h
 ·rename_i f a b ha hb
  split at h
  ·rename_i hc
   cases h
   rw [Bool.and_eq_true] at hc;refine Bn (v:=.func (.func f) (xs.map ρv) (ys.map ρv)) hs (λo ho=>by unfold execOp; rw [ho]; rfl) ?_;show Rp ρ M w (.fn f a b) [_];unfold Rp;exact ⟨_,_,rfl,by simpa using L8 hev ha hc.1,by simpa using L8 hev hb hc.2⟩
  ·cases h
 ·cases h
theorem TW{T:TypeId}{z off:Nat}{l l1 l2:List AV}{cs:Array Value}(hz:CR T=some z)(h1:Di off l=some l1)(h2:Eb z l1=some l2)(hm:mkT T l2=some r)(hl:AW ρ M w l cs.toList) :
  ∃ v,(part T cs off).run Tryz.prog w = .ok v w∧BA ρ M w r v:=by
 obtain ⟨d1,e1⟩:=AW.drop h1 hl;obtain ⟨d2,e2⟩:=AW.take h2 e1;have hex:(cs.extract off (off+z)).toList=(cs.toList.drop off).take z:=by
  rw [Array.toList_extract,List.extract_eq_take_drop,Nat.add_sub_cancel_left]
 unfold mkT at hm;split at hm
 ·cases hm
 ·rename_i d hd
  have hd:Tryz.prog.underlying T=some d:=hd;split at hm
  ·rename_i hrow
   cases hm
   have hagg:(isAgg T).run Tryz.prog w = .ok true w:=by
    unfold isAgg;rw [Sem.run_bind,run_underlying hd w]
    cases d <;> simp_all
   refine ⟨.agg (cs.extract off (off+z)),?_,?_⟩
   ·unfold CR at hz
    cases hi:Tryz.prog.info? T with
    | none=>rw [hi] at hz; cases hz
    | some i =>
     rw [hi] at hz;have hz:i.size=z:=by simpa using hz
     simp [part,hagg,sizeOf,typeInfo,hi,hz]
   ·have:=GV e2
    rw [← hex,Array.toArray_toList] at this;exact this
  ·rename_i hrow
   obtain ⟨v,e,hv⟩:=Nr hm e2;have hagg:(isAgg T).run Tryz.prog w = .ok false w:=by
    unfold isAgg;rw [Sem.run_bind,run_underlying hd w]
    cases d <;> simp_all
   have hc:cs[off]? = some v:=by
    have:((cs.toList.drop off).take z)[0]? = some v:=by rw [e]; rfl
    rw [List.getElem?_take] at this;split at this
    ·rw [List.getElem?_drop] at this
     simpa using this
    ·cases this
   exact ⟨v,by simp [part,hagg,hc],hv⟩
def Abc:AV→Option (List AV)
 | .agg l=>some l
 | .rat q=>some [.rat q]
 | .num z=>some [.num z]
 | _=>none
theorem Vi{a:AV}{l:List AV}{v:Value}(h:Abc a=some l)(hv:RV ρ M w a v):∃ cs,v = .agg cs∧AW ρ M w l cs.toList:=by
 unfold Abc at h;split at h
 ·cases h; exact hv
 ·cases h
  obtain ⟨cs,e,hc⟩:=hv;exact ⟨cs,e,AW.one hc⟩
 ·cases h
  obtain ⟨cs,e,hc⟩:=hv;exact ⟨cs,e,AW.one hc⟩
 ·cases h
noncomputable def Nb(ev:Operand→Option AV)(S:TypeId)(x:Operand)(k:Nat):Option (AV × List Nat × HP):=do
 let a ← ev x
 let l ← Abc a
 let d ← NG S
 let f ← (match d with | .struct fs=>fs[k]? | _=>none)
 let z ← CR f.type
 let l1 ← Di f.offset l
 let l2 ← Eb z l1
 let r ← mkT f.type l2
 pure (r,[],[])
theorem Y4{S:TypeId}{x:Operand}{k:Nat}(h:Nb ev S x k=some (r,R,U))(hs:CL ρ M A w t0 Hr)(hev:∀ x a,ev x=some a→RV ρ M w a (ρv x)):CJ (.field S x k) ρv w (BH ρ M A w t0 Hr U r):=by
 simp only [Nb,Option.bind_eq_bind,Option.bind_eq_some_iff,Option.pure_def,Option.some.injEq,Prod.mk.injEq] at h;obtain ⟨a,ha,l,hl,d,hd,f,hf,z,hz,l1,h1,l2,h2,r',hm,rfl,rfl,rfl⟩:=h;have hva:=hev _ _ ha;have hx:=Vi hl hva;obtain ⟨cs,e,hc⟩:=hx;have hf':∃ fs,d = .struct fs∧fs[k]? = some f:=by
  cases d <;> first | (cases hf; done) | exact ⟨_,rfl,hf⟩
 obtain ⟨fs,rfl,hf⟩:=hf';have hd:Tryz.prog.underlying S=some (.struct fs):=hd;obtain ⟨v,hrun,hv⟩:=TW hz h1 h2 hm hc;refine Bn (v:=v) hs (λo ho=>?_) hv.rv;unfold execOp;rw [ho];show Sem.run _ (Instr.field S (ρv x) k >>= λx=>pure (Next.value x)) w=_;rw [e];refine Cz ?_;simp [Instr.field,Sem.run_bind,run_underlying hd,hf,asAgg,hrun]
end
end
section
variable [Cc]
theorem Oj:∀(xs:List Value)(k off:Nat)(cells:Array Value),off+k+xs.length≤cells.size→(xs.zipIdx k).foldl (λcs x=>cs.setIfInBounds (off+x.2) x.1) cells=(cells.toList.take (off+k) ++ xs ++ cells.toList.drop (off+k+xs.length)).toArray
 | [],k,off,cells,_=>by simp
 | v :: rest,k,off,cells,h=>by
  rw [List.zipIdx_cons,List.foldl_cons,Oj rest (k+1) off _ (by simp at h ⊢; omega)];have e:=list_seg_step cells.toList (off+k) v rest (by simp at h ⊢; omega)
  congr 1
  simpa [Array.toList_setIfInBounds,Nat.add_assoc] using e
def Ia{α:Type}(n:Nat)(l:List α):List α:=match n with
 | 0=>[]
 | n+1=>l ++ Ia n l
theorem Mr{α:Type}(l:List α):∀ n,Ia (n+1) l=Ia n l ++ l
 | 0=>by simp [Ia]
 | n+1=>by
  show l ++ Ia (n+1) l=(l ++ Ia n l) ++ l;rw [Mr l n,List.append_assoc]
theorem G3(z:Array Value):∀ n,(madeCells z (n*z.size)).toList=Ia n z.toList
 | 0=>by simp [madeCells,Ia]
 | n+1=>by
  rw [Mr,← G3 z n];simp only [madeCells,Array.toList_map,Array.toList_range];rw [Nat.add_mul,Nat.one_mul,List.range_add,List.map_append,List.map_map]
  congr 1
  apply List.ext_getElem?;intro j;rw [List.getElem?_map]
  by_cases hj:j<z.size
  ·have h1:(n*z.size+j) % z.size=j:=by rw [Nat.mul_comm,Nat.mul_add_mod,Nat.mod_eq_of_lt hj]
   simp [List.getElem?_range,hj,h1]
  ·simp [List.getElem?_range,hj]
section
variable {ρ : Bi} {M A : Nat → Prop} {w : World} {t0 : Nat} {Hr : Nat → Option OB} {H : HP} {ev : Operand → Option AV} {ρv : Operand → Value} {r : AV} {R : List Nat} {U : HP} {op : Op}
theorem Qx{l:List AV}{cs:List Value}(h:AW ρ M w l cs):∀ n,AW ρ M w (Ia n l) (Ia n cs)
 | 0=>by unfold Ia AW; rfl
 | n+1=>h.app (Qx h n)
theorem AW.setAt{l l1 l2 xs:List AV}{off n:Nat}{cs ys:List Value}(h:AW ρ M w l cs)(h1:Eb off l=some l1)(h2:Di (off+n) l=some l2)(hx:AW ρ M w xs ys)(hn:oC xs=n):off+ys.length≤cs.length∧ys.length=n∧AW ρ M w (l1 ++ xs ++ l2) (cs.take off ++ ys ++ cs.drop (off+ys.length)):=by
 have hl:ys.length=n:=hx.len.trans hn;obtain ⟨_,k1⟩:=AW.take h1 h;obtain ⟨b2,k2⟩:=AW.drop h2 h;exact ⟨by omega,hl,by rw [hl]; exact (k1.app hx).app k2⟩
def Ox(pl:Nat→Option (Nat × Nat)):List (Nat × AV)→List AV→Option (List AV)
 | [],l=>some l
 | (i,a) :: r,l=>match pl i,Jg a with
  | some (off,z),some xs=>if Nat.beq (oC xs) z then (match Eb off l,Di (off+z) l with
   | some l1,some l2=>Ox pl r (l1 ++ xs ++ l2)
   | _,_=>none) else none
  | _,_=>none
def RVp(ρ:Bi)(M:Nat→Prop)(w:World):List (Nat × AV)→List (Nat × Value)→Prop
 | [],vs=>vs=[]
 | x :: l,vs=>∃ v r,vs=(x.1,v) :: r∧RV ρ M w x.2 v∧RVp ρ M w l r
theorem IQ{pl:Nat→Option (Nat × Nat)}:∀{ps:List (Nat × AV)}{vs:List (Nat × Value)}{l l':List AV}{cells:Array Value},Ox pl ps l=some l'→RVp ρ M w ps vs→AW ρ M w l cells.toList→∃ cells',Instr.fill pl cells vs=some cells'∧AW ρ M w l' cells'.toList
 | [],vs,l,l',cells,h,hv,hl=>by
  cases h
  have hv:vs=[]:=hv;subst hv;exact ⟨cells,rfl,hl⟩
 | (i,a) :: ps,vs,l,l',cells,h,hv,hl=>by
  obtain ⟨v,vr,rfl,hv1,hv2⟩:=hv;unfold Ox at h;split at h
  ·rename_i off z xs hp hx
   split at h
   ·rename_i hz
    split at h
    ·rename_i l1 l2 h1 h2
     have hxs:=Fr hx hv1;obtain ⟨b1,b2,k⟩:=hl.setAt h1 h2 hxs (Nat.eq_of_beq_eq_true hz);have b1:off+v.cells.size≤cells.size:=by simpa using b1
     have b2:v.cells.size=z:=by simpa using b2
     have hf:v.cells.zipIdx.foldl (λcs x=>cs.setIfInBounds (off+x.2) x.1) cells=(cells.toList.take off ++ v.cells.toList ++ cells.toList.drop (off+v.cells.toList.length)).toArray:=by
      rw [← Array.foldl_toList,Array.toList_zipIdx];have:=Oj v.cells.toList 0 off cells (by simpa using b1);simpa using this
     obtain ⟨cells',e,k'⟩:=IQ (cells:=(cells.toList.take off ++ v.cells.toList ++ cells.toList.drop (off+v.cells.toList.length)).toArray) h hv2 (by simpa using k);refine ⟨cells',?_,k'⟩;unfold Instr.fill;simp only [hp];rw [if_neg (by simp [b2]; omega)];rw [← hf] at e;exact e
    ·cases h
   ·cases h
  ·cases h
def evp(ev:Operand→Option AV):List (Nat × Operand)→Option (List (Nat × AV))
 | []=>some []
 | x :: r=>match ev x.2,evp ev r with
  | some a,some l=>some ((x.1,a) :: l)
  | _,_=>none
theorem Kn(hev:∀ x a,ev x=some a→RV ρ M w a (ρv x)):∀{xs:List (Nat × Operand)}{l:List (Nat × AV)},evp ev xs=some l→RVp ρ M w l (xs.map λx=>(x.1,ρv x.2))
 | [],l,h=>by cases h; exact rfl
 | x :: xs,l,h=>by
  unfold evp at h;split at h
  ·rename_i a r h1 h2
   cases h
   exact ⟨ρv x.2,_,rfl,hev _ _ h1,Kn hev h2⟩
  ·cases h
noncomputable def Aal(T:TypeId):Option (Nat→Option (Nat × Nat)):=match NG T with
 | some (.array _ e)=>(Tryz.prog.info? e).map λie=>λi=>some (i*ie.size,ie.size)
 | some (.struct fs)=>(fs.toList.mapM (λf=>(Tryz.prog.info? f.type).map λi=>(f.offset,i.size))).map λplaces=>λi=>places.toArray[i]?
 | _=>none
noncomputable def QJ(ev:Operand→Option AV)(T:TypeId)(ps:List (Nat × Operand)):Option (AV × List Nat × HP):=do
 let l ← evp ev ps
 let z ← IL T
 let pl ← Aal T
 let l' ← Ox pl l z
 pure (Xc l',[],[])
theorem bB{T:TypeId}{ps:Array (Nat × Operand)}(h:QJ ev T ps.toList=some (r,R,U))(hs:CL ρ M A w t0 Hr)(hev:∀ x a,ev x=some a→RV ρ M w a (ρv x)):CJ (.build T ps) ρv w (BH ρ M A w t0 Hr U r):=by
 simp only [QJ,Option.bind_eq_bind,Option.bind_eq_some_iff,Option.pure_def,Option.some.injEq,Prod.mk.injEq] at h;obtain ⟨l,hl,z,hz,pl,hp,l',hf,rfl,rfl,rfl⟩:=h;obtain ⟨i,zv,hi,hzv,hr⟩:=Dz (ρ:=ρ) (M:=M) (w:=w) hz;obtain ⟨cells',hc,hk⟩:=IQ hf (Kn hev hl) hr;have hb:Tryz.prog.built T (ps.toList.map λx=>(x.1,ρv x.2))=some cells':=by
  unfold Program.built;unfold Aal NG at hp;split at hp
  ·rename_i n e hd
   simp only [hi,hd,hzv]
   cases hie:Tryz.prog.info? e with
   | none=>rw [hie] at hp; cases hp
   | some ie=>rw [hie] at hp; cases hp; exact hc
  ·rename_i fs hd
   simp only [hi,hd,hzv]
   cases hm:fs.toList.mapM (λf=>(Tryz.prog.info? f.type).map λi=>(f.offset,i.size)) with
   | none=>rw [hm] at hp; cases hp
   | some places=>rw [hm] at hp; cases hp; exact hc
  ·cases hp
 have hkk:=GV hk;rw [Array.toArray_toList] at hkk;refine Bn (v:=.agg cells') hs (λo ho=>?_) hkk.rv;unfold execOp;rw [ho];show Sem.run _ (Instr.build T (ps.map λx=>(x.1,ρv x.2)) >>= λx=>pure (Next.value x)) w=_;exact Cz (run_build w T _ cells' (by rw [Array.toList_map]; exact hb))
noncomputable def QB(t0:Nat)(T:TypeId):Option (AV × List Nat × HP):=match IL T with
 | some l=>if IY T then some (.ptr t0 0,[],[(t0,some ⟨T,1,l,false,none⟩)]) else none
 | none=>none
theorem cN{ρ':Bi}{M':Nat→Prop}{w':World}{g c o:Nat}(h:ρ' o=some (g,c)):RV ρ' M' w' (.ptr o 0) (.pointer (some ⟨g,0,none⟩)):=by
 show Rp ρ' M' w' (.ptr o 0) [_];unfold Rp;exact ⟨g,c,h,rfl⟩
theorem mQ{T:TypeId}(h:QB t0 T=some (r,R,U))(hs:CL ρ M A w t0 Hr):CJ (.alloc T) ρv w (BH ρ M A w t0 Hr U r):=by
 unfold QB at h;split at h
 ·rename_i l hl
  split at h
  ·rename_i hT
   cases h
   obtain ⟨i,z,hi,hz,hr⟩:=Dz (ρ:=ρ) (M:=M) (w:=w) hl;refine Jp 0 hs (Cr hT) hr (v:=.pointer (some ⟨w.heap.size,0,none⟩)) (λo ho=>?_) λρ' M' w' e=>cN e
   unfold execOp;rw [ho];simp [Instr.alloc,zeroValue,typeInfo,hi,hz,newVar,newRow]
  ·cases h
 ·cases h
noncomputable def kK(ev:Operand→Option AV)(t0:Nat)(T:TypeId)(x:Operand):Option (AV × List Nat × HP):=match ev x with
 | some a=>match Jg a with
  | some l=>if IY T then some (.ptr t0 0,[],[(t0,some ⟨T,1,l,false,none⟩)]) else none
  | none=>none
 | none=>none
theorem AdO{T:TypeId}{x:Operand}(h:kK ev t0 T x=some (r,R,U))(hs:CL ρ M A w t0 Hr)(hev:∀ x a,ev x=some a→RV ρ M w a (ρv x)):CJ (.box T x) ρv w (BH ρ M A w t0 Hr U r):=by
 unfold kK at h;split at h
 ·rename_i a ha
  split at h
  ·rename_i l hl
   split at h
   ·rename_i hT
    cases h
    refine Jp 0 hs (Cr hT) (Fr hl (hev _ _ ha)) (v:=.pointer (some ⟨w.heap.size,0,none⟩)) (λo ho=>?_) λρ' M' w' e=>cN e
    unfold execOp;rw [ho];simp [Instr.box,newVar,newRow]
   ·cases h
  ·cases h
 ·cases h
theorem zK{ρ':Bi}{M':Nat→Prop}{w':World}{g c o len k:Nat}(h:ρ' o=some (g,c))(hk:len≤k):RV ρ' M' w' (.sl o 0 len (some k)) (.slice (some ⟨g,0,none⟩) len k):=by
 show Rp ρ' M' w' (.sl o 0 len (some k)) [_];unfold Rp;exact ⟨g,c,k,h,rfl,hk,λn e=>Option.some.inj e,λe=>by cases e⟩
noncomputable def Lb(T:TypeId):Option Nat:=(Tryz.prog.info? T).map (·.bytes)
noncomputable def UZ(ev:Operand→Option AV)(t0:Nat)(T:TypeId)(x y:Operand):Option (AV × List Nat × HP):=match ev x,ev y,NG T with
 | some (.val (.int _ n)),some (.val (.int _ c)),some (.slice e)=>match IL e,CR e,Lb e with
  | some z,some k,some b=>if IY e && decide (0≤n) && decide (n≤c) && decide (c≤1048576) && decide (b≤1048576) && Nat.beq (oC z) k then (if decide (n=0) && decide (0<c) then some (.sl t0 0 0 none,[],[(t0,some ⟨e,k,[],true,none⟩)]) else some (.sl t0 0 n.toNat (some c.toNat),[],[(t0,some ⟨e,k,Ia c.toNat z,false,none⟩)])) else none
  | _,_,_=>none
 | _,_,_=>none
theorem Ady{ρ':Bi}{M':Nat→Prop}{w':World}{g c o:Nat}(h:ρ' o=some (g,c)):RV ρ' M' w' (.sl o 0 0 none) (.slice (some ⟨g,0,none⟩) 0 c):=by
 show Rp ρ' M' w' (.sl o 0 0 none) [_];unfold Rp;exact ⟨g,c,c,h,rfl,Nat.zero_le _,λn e=>(by cases e),λ_=>⟨rfl,rfl⟩⟩
theorem xC{T:TypeId}{x y:Operand}(h:UZ ev t0 T x y=some (r,R,U))(hs:CL ρ M A w t0 Hr)(hev:∀ x a,ev x=some a→RV ρ M w a (ρv x)):CJ (.makeSlice T x y) ρv w (BH ρ M A w t0 Hr U r):=by
 unfold UZ at h;split at h
 ·rename_i k1 n k2 c e hx hy hd
  have hvx:ρv x = .int k1 n:=hev _ _ hx;have hvy:ρv y = .int k2 c:=hev _ _ hy;have hd:Tryz.prog.underlying T=some (.slice e):=hd;split at h
  ·rename_i z k b hz hk hb
   split at h
   ·rename_i hc
    simp only [Bool.and_eq_true,decide_eq_true_eq] at hc;obtain ⟨⟨⟨⟨⟨hT,h0⟩,h1⟩,h2⟩,h3⟩,h4⟩:=hc;obtain ⟨i,zv,hi,hzv,hr⟩:=Dz (ρ:=ρ) (M:=M) (w:=w) hz;have hk:i.size=k:=by
     unfold CR at hk;rw [hi] at hk;exact Option.some.inj hk
    have hb:i.bytes=b:=by
     unfold Lb at hb;rw [hi] at hb;exact Option.some.inj hb
    have hzk:zv.cells.size=i.size:=by
     have:=hr.len;rw [Nat.eq_of_beq_eq_true h4] at this;rw [hk];simpa using this
    have hbc:(i.bytes:Int)*c≤281474976710656:=by
     have h5:(i.bytes:Int)≤1048576:=by omega
     calc (i.bytes:Int)*c≤1048576*1048576:=Int.mul_le_mul h5 h2 (by omega) (by omega)
      _≤281474976710656:=by decide
    have hrun:=run_make (P:=Tryz.prog) w T e i zv hd hi hzv k1 k2 n c h0 h1 hbc (by omega);have hex:∀ o:Oper,o.op = .makeSlice T x y→(execOp ρv o).run Tryz.prog w = .ok (.value (.slice (some ⟨w.heap.size,0,none⟩) n.toNat c.toNat)) (w.alloc (.cells (madeCells zv.cells (c.toNat*i.size)) e)):=λo ho=>by
     unfold execOp;rw [ho];show Sem.run _ (Instr.makeSlice T (ρv x) (ρv y) >>= λx=>pure (Next.value x)) w=_;rw [hvx,hvy];exact Cz hrun
    split at h
    ·rename_i hn
     cases h
     simp only [Bool.and_eq_true,decide_eq_true_eq] at hn;obtain ⟨rfl,hn⟩:=hn;intro o ho;rw [hex o ho];exact IX hs (Cr hT) (by unfold AW; rfl) ⟨_,(List.nil_append _).symm,λh=>by cases h⟩ (λ_=>⟨by simp [madeCells,hk,Nat.mul_comm],by unfold maxLen; omega⟩) (.inl rfl) [] (λx h=>by cases h) λρ' M' e=>Ady e
    cases h
    refine Jp 0 hs (Cr hT) (l:=Ia c.toNat z) (arr:=madeCells zv.cells (c.toNat*i.size)) ?_ (v:=.slice (some ⟨w.heap.size,0,none⟩) n.toNat c.toNat) hex λρ' M' w' e=>zK e (by omega)
    rw [← hzk,G3];exact Qx hr _
   ·cases h
  ·cases h
 ·cases h
noncomputable def RZ(ev:Operand→Option AV)(t0:Nat)(T:TypeId)(n:Nat)(ps:List (Nat × Operand)):Option (AV × List Nat × HP):=match NG T,evp ev ps with
 | some (.slice e),some l=>match IL e,CR e with
  | some z,some k=>if IY e && Nat.beq (oC z) k && !(Nat.beq k 0) && Nat.ble n 4096 && Nat.ble k 256 then (match n with
   | 0=>match l with
    | []=>some (.sl t0 0 0 (some 0),[],[(t0,some ⟨e,k,[],false,none⟩)])
    | _=>none
   | n+1=>(Ox (λi=>some (i*k,k)) l (Ia (n+1) z)).map λl'=>(.sl t0 0 (n+1) (some (n+1)),[],[(t0,some ⟨e,k,l',false,none⟩)])) else none
  | _,_=>none
 | _,_=>none
theorem Yk{T:TypeId}{n:Nat}{ps:Array (Nat × Operand)}(h:RZ ev t0 T n ps.toList=some (r,R,U))(hev:∀ x a,ev x=some a→RV ρ M w a (ρv x)):∃(e:TypeId)(k:Nat)(l':List AV)(arr:Array Value),r = .sl t0 0 n (some n)∧U=[(t0,some ⟨e,k,l',false,none⟩)]∧IY e=true∧AW ρ M w l' arr.toList ∧
  ∀ o:Oper,o.op = .buildSlice T n ps→(execOp ρv o).run Tryz.prog w = .ok (.value (.slice (some ⟨w.heap.size,0,none⟩) n n)) (w.alloc (.cells arr e)):=by
 unfold RZ at h;split at h
 ·rename_i e l hd hl
  have hd:Tryz.prog.underlying T=some (.slice e):=hd;have hev':=Kn hev hl;split at h
  ·rename_i z k hz hk
   split at h
   ·rename_i hc
    simp only [Bool.and_eq_true,Bool.not_eq_true',Nat.ble_eq] at hc;obtain ⟨⟨⟨⟨hT,h1⟩,h2⟩,h3⟩,h4⟩:=hc;have h1:oC z=k:=by simpa using h1
    have h2:k≠0:=by rintro rfl; simp at h2
    have h3:n≤4096:=h3;have h4:k≤256:=h4;obtain ⟨i,zv,hi,hzv,hr⟩:=Dz (ρ:=ρ) (M:=M) (w:=w) hz;have hk:i.size=k:=by
     unfold CR at hk;rw [hi] at hk;exact Option.some.inj hk
    have hzk:zv.cells.size=i.size:=by
     have:=hr.len;rw [h1] at this;rw [hk];simpa using this
    match n,h3,h with
    | 0,_,h =>
     simp only [] at h;split at h
     ·cases h
      have hps:ps = #[]:=by
       have:(ps.toList.map λx=>(x.1,ρv x.2))=[]:=hev';have:=List.map_eq_nil_iff.1 this;exact Array.toList_eq_nil_iff.1 this
      subst hps;refine ⟨e,k,[],#[],rfl,rfl,hT,(by unfold AW; rfl),λo ho=>?_⟩;unfold execOp;rw [ho];simp [Instr.buildSlice,Sem.run_bind,run_underlying hd,sizeOf,typeInfo,hi,Instr.fill,newRow,Array.range_zero']
     ·cases h
    | n+1,h3,h =>
     simp only [] at h
     cases hf:Ox (λi=>some (i*k,k)) l (Ia (n+1) z) with
     | none=>rw [hf] at h; cases h
     | some l' =>
      rw [hf] at h
      cases h
      have hmk:madeCells zv.cells ((n+1)*i.size)=(Array.range ((n+1)*i.size)).map (zv.cells[· % zv.cells.size]!):=rfl;obtain ⟨cells',hc,hk'⟩:=IQ (cells:=madeCells zv.cells ((n+1)*i.size)) hf hev' (by rw [← hzk,G3]; exact Qx hr _);have hle:(n+1)*i.size≤4096*256:=Nat.mul_le_mul h3 (by omega);have hrun:=run_buildSlice (P:=Tryz.prog) w T e (n+1) (ps.map λx=>(x.1,ρv x.2)) cells' i zv hd hi hzv (by omega) (by rw [hk]; exact Nat.mul_ne_zero (by omega) h2) (by rw [Array.toList_map,hk,← hk,← hmk,hk]; exact hk ▸ hc);refine ⟨e,k,l',cells',rfl,rfl,hT,hk',λo ho=>?_⟩;unfold execOp;rw [ho];show Sem.run _ (Instr.buildSlice T (n+1) (ps.map λx=>(x.1,ρv x.2)) >>= λx=>pure (Next.value x)) w=_;exact Cz hrun
   ·cases h
  ·cases h
 ·cases h
theorem Ac8{T:TypeId}{n:Nat}{ps:Array (Nat × Operand)}(h:RZ ev t0 T n ps.toList=some (r,R,U))(hs:CL ρ M A w t0 Hr)(hev:∀ x a,ev x=some a→RV ρ M w a (ρv x)):CJ (.buildSlice T n ps) ρv w (BH ρ M A w t0 Hr U r):=by
 obtain ⟨e,k,l',arr,rfl,rfl,hT,hl,hrun⟩:=Yk h hev;exact Jp n hs (Cr hT) hl hrun λρ' M' w' e=>zK e (Nat.le_refl _)
theorem Abt:∀{a:AV}{cs:List Value},Rp ρ M w a cs→∀ v∈cs,v.oneCell'=true:=by
  intro a cs h v hv
  have int2:∀{x y:Value}{z:Int},Al w (.agg #[x,y]) z→x.oneCell'=true∧y.oneCell'=true:=fun {x y z} i=>by
    obtain ⟨s,e,A',c,e2,_⟩:=i
    simp only [Value.agg.injEq] at e
    have e:=congrArg Array.toList e
    simp only [List.cons.injEq] at e
    rw [e.1,e.2.1,e2]
    exact ⟨rfl,rfl⟩
  cases a <;> unfold Rp at h <;> first
    | exact h.elim
    | (obtain ⟨rfl,hf⟩:=h
       rw [List.mem_singleton] at hv
       subst hv
       unfold KS at hf
       split at hf <;> first | rfl | cases hf)
    | (obtain ⟨x,y,rfl,i⟩:=h
       have:=int2 i
       simp only [List.mem_cons,List.not_mem_nil,or_false] at hv
       rcases hv with rfl | rfl
       · exact this.1
       · exact this.2)
    | (obtain ⟨x,y,x2,y2,rfl,i,j⟩:=h
       have h1:=int2 i
       have h2:=int2 j
       simp only [List.mem_cons,List.not_mem_nil,or_false] at hv
       rcases hv with rfl | rfl | rfl | rfl
       · exact h1.1
       · exact h1.2
       · exact h2.1
       · exact h2.2)
    | exact (Cc.X _).one _ _ _ h.2 v hv
    | (obtain ⟨_,_,rfl,_⟩:=h; rw [List.mem_singleton] at hv; subst hv; rfl)
    | (obtain ⟨_,_,_,rfl,_⟩:=h; rw [List.mem_singleton] at hv; subst hv; rfl)
    | (obtain ⟨_,_,_,_,rfl,_⟩:=h; rw [List.mem_singleton] at hv; subst hv; rfl)
    | (obtain ⟨_,_,_,rfl⟩:=h; rw [List.mem_singleton] at hv; subst hv; rfl)
theorem Ph:∀{l:List AV}{cs:List Value},AW ρ M w l cs→∀ v∈cs,v.oneCell'=true
 | [],_,h,v,hv=>by unfold AW at h; subst h; cases hv
 | _ :: _,_,h,v,hv=>by
  unfold AW at h;obtain ⟨x,y,rfl,h1,h2⟩:=h
  rcases List.mem_append.1 hv with hv | hv
  ·exact Abt h1 v hv
  ·exact Ph h2 v hv
noncomputable def Qw(H:HP)(ev:Operand→Option AV)(T:TypeId)(x y:Operand):Option (AV × List Nat × HP):=match ev x,ev y with
 | some (.ptr o off),some a=>match lk H o,CR T,Jg a with
  | some b,some n,some xs=>if b.bl.isNone && Nat.beq (oC xs) n then (match Eb off b.cs,Di (off+n) b.cs with
   | some l1,some l2=>some (.val undef,[o],[(o,some { b with cs:=l1 ++ xs ++ l2 })])
   | _,_=>none) else none
  | _,_,_=>none
 | _,_=>none
theorem iU{T:TypeId}{x y:Operand}(h:Qw H ev T x y=some (r,R,U))(hs:CL ρ M A w t0 Hr)(hag:∀ o∈R,Hr o=lk H o)(hev:∀ x a,ev x=some a→RV ρ M w a (ρv x)):CJ (.store T x y) ρv w (BH ρ M A w t0 Hr U r):=by
 unfold Qw at h;split at h
 ·rename_i o off a hx hy
  split at h
  ·rename_i b n xs hb hn hxs
   split at h
   ·rename_i hz
    rw [Bool.and_eq_true] at hz;have hbn:b.bl=none:=by simpa using hz.1
    have hz:=hz.2;split at h
    ·rename_i l1 l2 h1 h2
     cases h
     have hbr:Hr o=some b:=(hag o (by simp)).trans hb;obtain ⟨g,c,arr,cs,k⟩:=hs.heap.obj o b hbr;have hv:Rp ρ M w (.ptr o off) [ρv x]:=hev _ _ hx;unfold Rp at hv;obtain ⟨g',c',e1,e2⟩:=hv;rw [k.at_] at e1;simp only [Option.some.injEq,Prod.mk.injEq] at e1;have hpx:ρv x = .pointer (some ⟨g,off,none⟩):=by rw [e1.1]; exact (List.cons.inj e2).1
     have hl:=Fr hxs (hev _ _ hy);obtain ⟨b1,b2,kk⟩:=(k.cells.rps hbn).setAt h1 h2 hl (Nat.eq_of_beq_eq_true hz);obtain ⟨tl,he,ht⟩:=k.pre;have hsz:arr.size=cs.length+tl.length:=by rw [← List.length_append,← he]; simp
     have hrun:(Instr.storeAt T (.pointer (some ⟨g,off,none⟩)) (ρv y)).run Tryz.prog w = .ok () (w.setRow g (arr.toList.take off ++ (ρv y).cells.toList ++ arr.toList.drop (off+(ρv y).cells.toList.length)).toArray):=by
      have:=run_storeCells_at Tryz.prog g off b.ty (ρv y).cells.toList 0 arr w k.blk (by omega) (Ph hl);simp only [Nat.add_zero] at this;unfold CR at hn
      cases hi:Tryz.prog.info? T with
      | none=>rw [hi] at hn; cases hn
      | some i =>
       rw [hi] at hn;have hn:i.size=n:=by simpa using hn
       have hs':(ρv y).cells.size=i.size:=by rw [hn]; simpa using b2
       simp [Instr.storeAt,Instr.sureAddr,storeVar,Sem.run_bind,sizeOf,typeInfo,hi,hs',this]
     intro o' ho';have hex:(execOp ρv o').run Tryz.prog w = .ok .skip (w.setRow g (arr.toList.take off ++ (ρv y).cells.toList ++ arr.toList.drop (off+(ρv y).cells.toList.length)).toArray):=by
      unfold execOp;rw [ho'];show Sem.run _ (Instr.storeAt T (ρv x) (ρv y) >>= λ_=>pure Next.skip) w=_;rw [hpx];exact Xj hrun
     rw [hex];refine SK hs hbr hbn k kk ⟨tl,?_,ht⟩ ?_ o false (.inl ⟨rfl,rfl⟩) _ _ λ_ _ _ _ _=>rfl
     ·rw [he,List.take_append_of_le_length (by omega),List.drop_append_of_le_length (by omega)]
      simp
     ·simp only [List.size_toArray,List.length_append,List.length_take,List.length_drop,Array.length_toList]
      have:(ρv y).cells.toList.length=(ρv y).cells.size:=by simp
      omega
    ·cases h
   ·cases h
  ·cases h
 ·cases h
end
end
section
variable [Cc]
section
variable {ρ : Bi} {M A : Nat → Prop} {w : World} {t0 : Nat} {Hr : Nat → Option OB} {H : HP} {ev : Operand → Option AV} {ρv : Operand → Value} {r : AV} {R : List Nat} {U : HP} {op : Op}
def mOk(h n:Nat):Option Nat→Bool
 | none=>Nat.ble h n
 | some m=>Nat.ble h m && Nat.ble m n
theorem Hn{h n:Nat}{m:Option Nat}(k:mOk h n m=true):h≤n∧∀ x,m=some x→h≤x∧x≤n:=by
 cases m with
 | none=>exact ⟨Nat.le_of_ble_eq_true k,λx e=>by cases e⟩
 | some m =>
  unfold mOk at k;rw [Bool.and_eq_true] at k;have k1:=Nat.le_of_ble_eq_true k.1;have k2:=Nat.le_of_ble_eq_true k.2;exact ⟨by omega,λx e=>by cases e; exact ⟨k1,k2⟩⟩
def Ag8(cap m:Option Nat):Option Nat:=match m with
 | none=>cap
 | some m=>some m
def ZT(a:AV)(h:Nat)(m:Option Nat):Option AV:=match a with
 | .sl o off len cap=>if mOk h len m then some (.sl o off h (Ag8 cap m)) else none
 | .rats l=>if mOk h l.length m then some (.rats (l.take h)) else none
 | .row n l=>if mOk h n m then some (.row h l) else none
 | .val (.slice none 0 0)=>if mOk h 0 m then some (.val (.slice none 0 0)) else none
 | _=>none
theorem AJ.take:∀{l:List Rat}{cs:List Value}(n:Nat),AJ w l cs→AJ w (l.take n) (cs.take (4*n))
 | _,_,0,_=>by simp [AJ]
 | [],_,n+1,h=>by unfold AJ at h; subst h; simp [AJ]
 | q :: l,_,n+1,h=>by
  unfold AJ at h;obtain ⟨a,b,c,d,r,rfl,h1,h2,h3⟩:=h;rw [List.take_succ_cons,show 4*(n+1)=4*n+1+1+1+1 by omega,List.take_succ_cons,List.take_succ_cons,List.take_succ_cons,List.take_succ_cons];exact ⟨a,b,c,d,_,rfl,h1,h2,AJ.take n h3⟩
theorem Nz{a:AV}{h:Nat}{m:Option Nat}(hc:ZT a h m=some r){v:Value}(hv:RV ρ M w a v):∃ Ad n c,v = .slice Ad n c∧h≤n∧n≤c∧(∀ x,m=some x→h≤x∧x≤n)∧RV ρ M w r (.slice Ad h (m.getD c)):=by
 unfold ZT at hc;split at hc
 ·rename_i o off len cap
  split at hc
  ·rename_i hm
   obtain ⟨m1,m2⟩:=Hn hm
   cases hc
   have hv:Rp ρ M w (.sl o off len cap) [v]:=hv;unfold Rp at hv;obtain ⟨g,c,k,e1,e2,e3,e4,e5⟩:=hv;refine ⟨_,len,k,(List.cons.inj e2).1,m1,e3,m2,?_⟩;show Rp ρ M w (.sl o off h (Ag8 cap m)) [_];unfold Rp
   cases m with
   | none=>exact ⟨g,c,k,e1,rfl,by omega,e4,e5⟩
   | some x=>exact ⟨g,c,x,e1,rfl,(m2 x rfl).1,λn e=>Option.some.inj e,λe=>by cases e⟩
  ·cases hc
 ·rename_i l
  split at hc
  ·rename_i hm
   obtain ⟨m1,m2⟩:=Hn hm
   cases hc
   have hv:Rp ρ M w (.rats l) [v]:=hv;unfold Rp at hv;obtain ⟨Ad,c,e,hc,hr⟩:=hv;have hl:(l.take h).length=h:=by rw [List.length_take]; omega
   refine ⟨Ad,l.length,c,(List.cons.inj e).1,m1,hc,m2,?_⟩;show Rp ρ M w (.rats (l.take h)) [_];unfold Rp;refine ⟨Ad,m.getD c,by rw [hl],?_,λh0=>?_⟩
   ·rw [hl]
    cases m with
    | none=>show h≤c; omega
    | some x=>exact (m2 x rfl).1
   ·obtain ⟨g,off,xs,e1,k1,k2,k3,k4⟩:=hr (by rw [hl] at h0; omega)
    exact ⟨g,off,_,e1,k1,k2,BI k3,AJ.take h k4⟩
  ·cases hc
 ·rename_i n l
  split at hc
  ·rename_i hm
   obtain ⟨m1,m2⟩:=Hn hm
   cases hc
   have hv:Rp ρ M w (.row n l) [v]:=hv;unfold Rp at hv;obtain ⟨Ad,c,e,hc,hr⟩:=hv;refine ⟨Ad,n,c,(List.cons.inj e).1,m1,hc,m2,?_⟩;show Rp ρ M w (.row h l) [_];unfold Rp;refine ⟨Ad,m.getD c,rfl,?_,λh0=>hr (by omega)⟩
   cases m with
   | none=>show h≤c; omega
   | some x=>exact (m2 x rfl).1
  ·cases hc
 ·split at hc
  ·rename_i hm
   obtain ⟨m1,m2⟩:=Hn hm
   cases hc
   have hv:v = .slice none 0 0:=hv;have h0:h=0:=by omega
   subst h0;refine ⟨none,0,0,hv,m1,Nat.le_refl _,m2,?_⟩
   cases m with
   | none=>rfl
   | some x =>
    have:x=0:=by have:=(m2 x rfl).2; omega
    rw [this]; rfl
  ·cases hc
 ·cases hc
noncomputable def Pa(ev:Operand→Option AV)(T:TypeId)(x:Operand)(lo hi mx:Option Operand):Option (AV × List Nat × HP):=match lo,hi,NG T,ev x with
 | none,some hi,some (.slice e),some a=>match ev hi with
  | some (.val (.int _ h))=>if decide (0≤h) && (CR e).isSome then (match mx with
   | none=>(ZT a h.toNat none).map λr=>(r,[],[])
   | some mx=>match ev mx with
    | some (.val (.int _ m))=>if decide (0≤m) then (ZT a h.toNat (some m.toNat)).map λr=>(r,[],[]) else none
    | _=>none) else none
  | _=>none
 | _,_,_,_=>none
theorem Om{T e:TypeId}{z h n c:Nat}{Ad:Option Addr}{kh:IntKind}(hd:Tryz.prog.underlying T=some (.slice e))(hz:CR e=some z)(h1:h≤n)(h2:n≤c):(Instr.sliceAt T (.slice Ad n c) none (some (.int kh (h:Int))) none).run Tryz.prog w = .ok (.slice Ad h c) w:=by
 unfold CR at hz
 cases hi:Tryz.prog.info? e with
 | none=>rw [hi] at hz; cases hz
 | some j =>
  have h3:h≤c:=by omega
  simp [Instr.sliceAt,Instr.slice,Instr.sliceBounds,Instr.sliceBound,asIntOf,Sem.run_bind,run_underlying hd,sizeOf,typeInfo,hi,h3];intro _
  cases Ad <;> simp [Addr.add]
theorem M4{T e:TypeId}{z h m n c:Nat}{Ad:Option Addr}{kh km:IntKind}(hd:Tryz.prog.underlying T=some (.slice e))(hz:CR e=some z)(h0:h≤m)(h1:m≤c):(Instr.sliceAt T (.slice Ad n c) none (some (.int kh (h:Int))) (some (.int km (m:Int)))).run Tryz.prog w = .ok (.slice Ad h m) w:=by
 unfold CR at hz
 cases hi:Tryz.prog.info? e with
 | none=>rw [hi] at hz; cases hz
 | some j =>
  simp [Instr.sliceAt,Instr.slice,Instr.sliceBounds,Instr.sliceBound,asIntOf,Sem.run_bind,run_underlying hd,sizeOf,typeInfo,hi,h0,h1];intro _
  cases Ad <;> simp [Addr.add]
theorem bS{T:TypeId}{x:Operand}{lo hi mx:Option Operand}(h:Pa ev T x lo hi mx=some (r,R,U))(hs:CL ρ M A w t0 Hr)(hev:∀ x a,ev x=some a→RV ρ M w a (ρv x)):CJ (.slice T x lo hi mx) ρv w (BH ρ M A w t0 Hr U r):=by
 unfold Pa at h;split at h
 ·rename_i hi e a hd ha
  have hd:Tryz.prog.underlying T=some (.slice e):=hd;split at h
  ·rename_i kh hh hhi
   have hvh:ρv hi = .int kh hh:=hev _ _ hhi;split at h
   ·rename_i hc
    rw [Bool.and_eq_true] at hc;have h0:=of_decide_eq_true hc.1;obtain ⟨z,hz⟩:=Option.isSome_iff_exists.1 hc.2;have hhn:hh=((hh.toNat:Nat):Int):=(Int.toNat_of_nonneg h0).symm;split at h
    ·cases hcut:ZT a hh.toNat none with
     | none=>rw [hcut] at h; cases h
     | some r' =>
      rw [hcut] at h
      cases h
      obtain ⟨Ad,n,c,e1,e2,e3,_,e5⟩:=Nz hcut (hev _ _ ha);refine Bn hs (λo ho=>?_) e5;unfold execOp;rw [ho];show Sem.run _ (Instr.sliceAt T (ρv x) none (some (ρv hi)) none >>= λx=>pure (Next.value x)) w=_;rw [e1,hvh,hhn];exact Cz (Om hd hz (by omega) e3)
    ·rename_i mx
     split at h
     ·rename_i km m hm
      have hvm:ρv mx = .int km m:=hev _ _ hm;split at h
      ·rename_i hm0
       have hm0:=of_decide_eq_true hm0;have hmn:m=((m.toNat:Nat):Int):=(Int.toNat_of_nonneg hm0).symm
       cases hcut:ZT a hh.toNat (some m.toNat) with
       | none=>rw [hcut] at h; cases h
       | some r' =>
        rw [hcut] at h
        cases h
        obtain ⟨Ad,n,c,e1,e2,e3,e4,e5⟩:=Nz hcut (hev _ _ ha);obtain ⟨q1,q2⟩:=e4 _ rfl;refine Bn hs (λo ho=>?_) e5;unfold execOp;rw [ho];show Sem.run _ (Instr.sliceAt T (ρv x) none (some (ρv hi)) (some (ρv mx)) >>= λx=>pure (Next.value x)) w=_;rw [e1,hvh,hvm,hhn,hmn];exact Cz (M4 hd hz q1 (by omega))
      ·cases h
     ·cases h
   ·cases h
  ·cases h
 ·cases h
def pW:AV→Option Nat
 | .sl _ _ len _=>some len
 | .rats l=>some l.length
 | .row n _=>some n
 | .val (.slice none n _)=>some n
 | _=>none
theorem U3{a:AV}{n:Nat}{v:Value}(h:pW a=some n)(hv:RV ρ M w a v):∃ Ad c,v = .slice Ad n c:=by
 unfold pW at h;split at h
 ·cases h
  have hv:Rp ρ M w (.sl _ _ n _) [v]:=hv;unfold Rp at hv;obtain ⟨g,c,k,_,e,_⟩:=hv;exact ⟨_,_,(List.cons.inj e).1⟩
 ·cases h
  have hv:Rp ρ M w (.rats _) [v]:=hv;unfold Rp at hv;obtain ⟨Ad,c,e,_⟩:=hv;exact ⟨_,_,(List.cons.inj e).1⟩
 ·cases h
  have hv:Rp ρ M w (.row n _) [v]:=hv;unfold Rp at hv;obtain ⟨Ad,c,e,_⟩:=hv;exact ⟨_,_,(List.cons.inj e).1⟩
 ·cases h
  exact ⟨none,_,hv⟩
 ·cases h
noncomputable def lO(ev:Operand→Option AV)(T:TypeId)(x:Operand):Option (AV × List Nat × HP):=match NG T,ev x with
 | some (.slice _),some a=>(pW a).map λn=>(.val (.int .i64 (n:Int)),[],[])
 | _,_=>none
theorem Adr{T:TypeId}{x:Operand}(h:lO ev T x=some (r,R,U))(hs:CL ρ M A w t0 Hr)(hev:∀ x a,ev x=some a→RV ρ M w a (ρv x)):CJ (.call { callee:=.builtin .len,args:=#[x],argTypes:=#[T] }) ρv w (BH ρ M A w t0 Hr U r):=by
 unfold lO at h;split at h
 ·rename_i e a hd ha
  have hd:Tryz.prog.underlying T=some (.slice e):=hd
  cases hn:pW a with
  | none=>rw [hn] at h; cases h
  | some n =>
   rw [hn] at h
   cases h
   obtain ⟨Ad,c,e1⟩:=U3 hn (hev _ _ ha);refine CM hs ⟨_,w,λo ho=>?_,rfl,rfl⟩;unfold execOp;rw [ho];simp [resolve,invoke,builtin,Builtin.len_,Sem.run_bind,run_underlying hd,e1,goInt]
 ·cases h
noncomputable def Aen(ev:Operand→Option AV)(mx:Bool)(x y:Operand):Option (AV × List Nat × HP):=match ev x,ev y with
 | some (.val (.int .i64 a)),some (.val (.int .i64 b))=>some (.val (.int .i64 (if mx then max a b else min a b)),[],[])
 | _,_=>none
theorem Aew{x y:Operand}(h:Aen ev true x y=some (r,R,U))(hs:CL ρ M A w t0 Hr)(hev:∀ x a,ev x=some a→RV ρ M w a (ρv x)):CJ (.call { callee:=.builtin .max,args:=#[x,y],argTypes:=#[3,3] }) ρv w (BH ρ M A w t0 Hr U r):=by
 unfold Aen at h;split at h
 ·rename_i a b ha hb
  have hx:ρv x = .int .i64 a:=hev _ _ ha;have hy:ρv y = .int .i64 b:=hev _ _ hb
  cases h
  refine CM hs ⟨_,w,λo ho=>?_,rfl,rfl⟩;unfold execOp;rw [ho]
  by_cases h:a<b
  ·have:max a b=b:=by omega
   simp [go_sem,hx,hy,h,this]
  ·have:max a b=a:=by omega
   simp [go_sem,hx,hy,h,this]
 ·cases h
theorem xK{S D:TypeId}{x:Operand}(h:UR ev S D x=some (r,R,U))(hs:CL ρ M A w t0 Hr)(hev:∀ x a,ev x=some a→RV ρ M w a (ρv x)):CJ (.convert S D x) ρv w (BH ρ M A w t0 Hr U r):=by
 simp only [UR,Option.bind_eq_bind,Option.bind_eq_some_iff] at h;obtain ⟨a,ha,h⟩:=h;have hva:=hev _ _ ha;split at h
 ·rename_i k p k' k2 hS hD
  have hS:Tryz.prog.underlying S=some (.int k'):=hS;have hD:Tryz.prog.underlying D=some (.int k2):=hD;have hva:ρv x = .int k p:=hva;split at h
  ·rename_i hk
   subst hk
   cases h
   refine CM hs ⟨_,w,λz hz=>?_,rfl,rfl⟩;unfold execOp;rw [hz];simp [convert,Sem.run_bind,run_underlying hS,run_underlying hD,hva,go_sem]
  ·cases h
 ·cases h
end
end
section
variable [Cc]
section
variable {ρ : Bi} {M A : Nat → Prop} {w : World} {t0 : Nat} {Hr : Nat → Option OB} {H : HP} {ev : Operand → Option AV} {ρv : Operand → Value} {r : AV} {R : List Nat} {U : HP} {op : Op}
noncomputable def Ae5(H:HP)(t0:Nat)(e:TypeId)(k:Nat)(base:AV)(n:Nat)(news:List AV):Option (AV × List Nat × HP):=match base with
 | .val (.slice none 0 0)=>some (.sl t0 0 n none,[],[(t0,some ⟨e,k,news,true,none⟩)])
 | .sl o 0 len cap=>match lk H o with
  | some b=>if b.bl.isNone && Nat.beq b.ty e && Nat.beq b.k k && Nat.ble len 1048576 then (match cap with
   | some c=>if Nat.blt c (len+n) then (Eb (len*k) b.cs).map λolds=>(.sl t0 0 (len+n) none,[o],[(t0,some ⟨e,k,olds ++ news,true,none⟩)]) else none
   | none=>if b.room && Nat.beq (oC b.cs) (len*k) then some (.sl t0 0 (len+n) none,[o],[(t0,some ⟨b.ty,b.k,b.cs ++ news,b.room,none⟩),(o,none)]) else none) else none
  | none=>none
 | _=>none
noncomputable def eN(H:HP)(ev:Operand→Option AV)(t0:Nat)(T:TypeId)(x y:Operand):Option (AV × List Nat × HP):=do
 let a ← ev x
 let b ← ev y
 let d ← NG T
 match d with
 | .slice e=>do
  let z ← IL e
  let k ← CR e
  let by_ ← Lb e
  let s ← Q8 H b
  if IY e && Nat.beq (oC z) k && !(Nat.beq k 0) && Nat.ble by_ 1048576 && Nat.ble s.1 1048576 then
   if Nat.beq s.1 0 then (match a with
    | .val (.slice none 0 0)=>some (a,s.2.2,[])
    | .sl _ _ _ _=>some (a,s.2.2,[])
    | _=>none) else do
    let news ← Eb (s.1*k) s.2.1
    let p ← Ae5 H t0 e k a s.1 news
    pure (p.1,s.2.2 ++ p.2.1,p.2.2)
  else none
 | _=>none
theorem Us{ρ':Bi}{M':Nat→Prop}{w':World}{g c o len:Nat}(h:ρ' o=some (g,c))(hk:len≤c):RV ρ' M' w' (.sl o 0 len none) (.slice (some ⟨g,0,none⟩) len c):=by
 show Rp ρ' M' w' (.sl o 0 len none) [_];unfold Rp;exact ⟨g,c,c,h,rfl,hk,λn e=>(by cases e),λ_=>⟨rfl,rfl⟩⟩
theorem Wu{a b:Nat}(ha:a≤2097152)(hb:b≤1048576):a*b≤140737488355328:=
 Nat.le_trans (Nat.mul_le_mul ha hb) (by decide)
theorem Na{e:TypeId}{k n:Nat}{l:List AV}{cs:List Value}{z:Array Value}{gc:Nat}(hs:CL ρ M A w t0 Hr)(hT:IY e=true)(hl:AW ρ M w l cs)(hn:cs.length=n*k)(hz:z.size=k)(hg:n≤gc)(hm:gc≤maxLen) :
  BH ρ M A w t0 Hr [(t0,some ⟨e,k,l,true,none⟩)] (.sl t0 0 n none) (.slice (some ⟨w.heap.size,0,none⟩) n gc) (w.drew.alloc (.cells (cs.toArray ++ Builtin.zeroCells z (gc - n)) e)):=by
 refine IX hs (Cr hT) hl ⟨(Builtin.zeroCells z (gc - n)).toList,by simp,λh=>by cases h⟩ (λ_=>⟨?_,hm⟩) (.inr rfl) [] (λx h=>by cases h) λρ' M' e=>Us e hg
 rw [Array.size_append,size_zeroCells,hz,List.size_toArray,hn,← Nat.add_mul,Nat.mul_comm]
 congr 1
 omega
theorem AdT{T:TypeId}{x y:Operand}(h:eN H ev t0 T x y=some (r,R,U))(hs:CL ρ M A w t0 Hr)(hag:∀ o∈R,Hr o=lk H o)(hev:∀ x a,ev x=some a→RV ρ M w a (ρv x)):CJ (.call { callee:=.builtin .append,args:=#[x,y],argTypes:=#[T,T] }) ρv w (BH ρ M A w t0 Hr U r):=by
 simp only [eN,Option.bind_eq_bind,Option.bind_eq_some_iff] at h;obtain ⟨a,ha,b,hb,d,hd,h⟩:=h;split at h
 ·rename_i e
  have hd:Tryz.prog.underlying T=some (.slice e):=hd;simp only [Option.bind_eq_some_iff] at h;obtain ⟨z,hz,k,hk,by_,hby,⟨n,ls,R2⟩,hsl,h⟩:=h;split at h
  ·rename_i hc
   simp only [Bool.and_eq_true,Bool.not_eq_true'] at hc;obtain ⟨⟨⟨⟨hT,hzk⟩,hk0⟩,hb1⟩,hn1⟩:=hc;have hzk:=Nat.eq_of_beq_eq_true hzk;have hb1:=Nat.le_of_ble_eq_true hb1;have hn1:n≤1048576:=Nat.le_of_ble_eq_true hn1;obtain ⟨i,zv,hi,hzv,hr⟩:=Dz (ρ:=ρ) (M:=M) (w:=w) hz;have hki:i.size=k:=by
    unfold CR at hk;rw [hi] at hk;exact Option.some.inj hk
   have hbi:i.bytes=by_:=by
    unfold Lb at hby;rw [hi] at hby;exact Option.some.inj hby
   have hzs:zv.cells.size=k:=by
    have:=hr.len;rw [hzk] at this;simpa using this
   have go:∀{v':Value}{w':World},(∀ ty,(Builtin.append_ #[T,T] ty #[ρv x,ρv y]).run Tryz.prog w = .ok v' w')→∀ o:Oper,o.op = .call { callee:=.builtin .append,args:=#[x,y],argTypes:=#[T,T] } → (execOp ρv o).run Tryz.prog w = .ok (.value v') w':=λhrun o ho=>by
    unfold execOp;rw [ho];have:=hrun o.type;simp only [resolve,invoke,builtin,Sem.run_bind,Sem.run_pure,Result.andThen_ok,List.map_toArray,List.map_cons,List.map_nil,this]
   split at h
   ·rename_i hn0
    have hn0:n=0:=Nat.eq_of_beq_eq_true hn0;subst hn0;have fin:r=a→R=R2→U=[]→(∃ Ad s c,ρv x = .slice Ad s c∧s≤c)→CJ (.call { callee:=.builtin .append,args:=#[x,y],argTypes:=#[T,T] }) ρv w (BH ρ M A w t0 Hr U r):=by
     rintro rfl rfl rfl ⟨Ad,s,c,e1,e2⟩
     obtain ⟨Ay,cy,xs,ey,_⟩:=Ik hs hsl hag (hev _ _ hb);refine Bn (v:=ρv x) hs (go λty=>?_) (hev _ _ ha);rw [e1,ey]
     cases Ay with
     | none=>cases Ad <;> simp [Builtin.append_,run_underlying hd,sizeOf,typeInfo,hi,Builtin.lenOf,e2,Builtin.firstCells,storeCells]
     | some ay =>
      have hl0:=run_firstCells_some (P:=Tryz.prog) w i.size 0 ay 0 cy [] (by simp) (λj v hv=>by simp at hv)
      cases Ad <;> simp [Builtin.append_,run_underlying hd,sizeOf,typeInfo,hi,Builtin.lenOf,e2,hl0,storeCells]
    split at h
    ·simp only [Option.some.injEq,Prod.mk.injEq] at h
     exact fin h.1.symm h.2.1.symm h.2.2.symm ⟨none,0,0,hev _ _ ha,Nat.le_refl _⟩
    ·simp only [Option.some.injEq,Prod.mk.injEq] at h
     have hv:Rp ρ M w (.sl _ _ _ _) [ρv x]:=hev _ _ ha;unfold Rp at hv;obtain ⟨g,c,kk,_,e2,e3,_⟩:=hv;exact fin h.1.symm h.2.1.symm h.2.2.symm ⟨_,_,_,(List.cons.inj e2).1,e3⟩
    ·cases h
   ·rename_i hn0
    have hn0:n≠0:=λe=>hn0 (by subst e; rfl)
    simp only [Option.bind_eq_some_iff,Option.pure_def,Option.some.injEq,Prod.mk.injEq] at h;obtain ⟨news,hnews,⟨r',R',U'⟩,hp,rfl,rfl,rfl⟩:=h;obtain ⟨Ay,cy,xs,ey,hxs0⟩:=Ik hs hsl (λo ho=>hag o (List.mem_append.2 (.inl ho))) (hev _ _ hb);obtain ⟨hxs,gy,oy,rfl,hry⟩:=hxs0 hn0;obtain ⟨t1,t2⟩:=AW.take hnews hxs;have hry':=BI (n:=n*k) hry;have hlen:(xs.take (n*k)).length=n*i.size:=by rw [List.length_take,hki]; omega
    have hcells:∀(j:Nat)(v:Value),(xs.take (n*k))[j]? = some v→w.cell? ((⟨gy,oy,none⟩:Addr).add j)=some v:=λj v hv=>by rw [Addr.add_mid]; exact hry' j v hv
    have h1c:=Ph t2;generalize hnc:xs.take (n*k)=nc at t2 hry' hlen hcells h1c;unfold Ae5 at hp;split at hp
    ·cases hp
     have hx:ρv x = .slice none 0 0:=hev _ _ ha;have hrun:=λty=>run_append_nil (P:=Tryz.prog) w T ty e i zv hd hi hzv ⟨gy,oy,none⟩ n cy nc hlen hcells (by omega) (by omega) (Nat.le_trans (Wu (by omega) (by omega)) (by decide))
     intro o ho;rw [go (λty=>by rw [hx,ey]; exact hrun ty) o ho];exact Na hs hT t2 (by rw [hlen,hki]) hzs (grownCap_ge w n 0 e) (grownCap_le_maxLen w n 0 e (by unfold maxLen; omega))
    ·rename_i o len cap
     split at hp
     ·rename_i bo hbo
      split at hp
      ·rename_i hc
       simp only [Bool.and_eq_true] at hc;obtain ⟨⟨⟨c0,c1⟩,c2⟩,c3⟩:=hc;have hbn:bo.bl=none:=by simpa using c0
       have c1:=Nat.eq_of_beq_eq_true c1;have c2:=Nat.eq_of_beq_eq_true c2;have c3:=Nat.le_of_ble_eq_true c3;have hv:Rp ρ M w (.sl o 0 len cap) [ρv x]:=hev _ _ ha;unfold Rp at hv;obtain ⟨g,c,kk,e1,e2,e3,e4,e5⟩:=hv;have hx:=(List.cons.inj e2).1;split at hp
       ·rename_i cc
        have e4:=e4 _ rfl;subst e4;split at hp
        ·rename_i hlt
         have hlt:kk<len+n:=Nat.le_of_ble_eq_true hlt
         cases hol:Eb (len*k) bo.cs with
         | none=>rw [hol] at hp; cases hp
         | some olds =>
          rw [hol] at hp
          cases hp
          have hbr:Hr o=some bo:=(hag o (List.mem_append.2 (.inr (by simp)))).trans hbo;obtain ⟨g',c',arr,cs,kO⟩:=hs.heap.obj o bo hbr;rw [kO.at_] at e1;simp only [Option.some.injEq,Prod.mk.injEq] at e1;obtain ⟨rfl,rfl⟩:=e1;obtain ⟨q1,q2⟩:=AW.take hol (kO.cells.rps hbn);obtain ⟨tl,he,_⟩:=kO.pre;have hro:=BI (n:=len*k) (GM kO.blk he 0);simp only [List.drop_zero] at hro;have hlo:(cs.take (len*k)).length=len*i.size:=by rw [List.length_take,hki]; omega
          have hrun:=λty=>run_append_grow (P:=Tryz.prog) w T ty e i zv hd hi hzv ⟨g',0,none⟩ len kk (cs.take (len*k)) hlo (λj v hv=>by rw [Addr.add_mid]; exact hro j v hv) ⟨gy,oy,none⟩ n cy nc hlen hcells hlt (by omega) (growslice_fits hlt (Wu (by omega) (by omega)))
          intro o' ho;rw [go (λty=>by rw [hx,ey]; exact hrun ty) o' ho];have:=Na (n:=len+n) (z:=zv.cells) hs hT (q2.app t2) (by rw [List.length_append,hlo,hlen,hki,Nat.add_mul]) hzs (grownCap_ge w (len+n) kk e) (grownCap_le_maxLen w (len+n) kk e (by unfold maxLen; omega));rw [show (List.take (len*k) cs ++ nc).toArray=(List.take (len*k) cs).toArray ++ nc.toArray by simp] at this;exact this
        ·cases hp
       ·obtain ⟨_,e5⟩:=e5 rfl
        subst e5;split at hp
        ·rename_i hroom
         rw [Bool.and_eq_true] at hroom;have hsz:=Nat.eq_of_beq_eq_true hroom.2;have hroom:=hroom.1
         cases hp
         have hbr:Hr o=some bo:=(hag o (List.mem_append.2 (.inr (by simp)))).trans hbo;obtain ⟨g',c',arr,cs,kO⟩:=hs.heap.obj o bo hbr;rw [kO.at_] at e1;simp only [Option.some.injEq,Prod.mk.injEq] at e1;obtain ⟨rfl,rfl⟩:=e1;obtain ⟨tl,he,_⟩:=kO.pre;obtain ⟨hcap,hmax⟩:=kO.cap hroom;have hcl:cs.length=len*k:=(kO.cells.rps hbn).len.trans hsz;have hasz:arr.size=cs.length+tl.length:=by rw [← List.length_append,← he]; simp
         have hro:=GM kO.blk he 0;simp only [List.drop_zero] at hro
         by_cases hfit:len+n≤c'
         ·have hroomy:(len+n)*k≤arr.size:=by rw [hcap,c2,Nat.mul_comm k]; exact Nat.mul_le_mul_right _ hfit
          have hrun:=λty=>run_append_room (P:=Tryz.prog) w T ty e i hd hi g' len c' arr (by rw [← c1]; exact kO.blk) ⟨gy,oy,none⟩ n cy nc hlen hcells h1c hfit (by rw [hlen,hki,← Nat.add_mul]; exact hroomy)
          intro o' ho;rw [go (λty=>by rw [hx,ey]; exact hrun ty) o' ho];have hnl:nc.length=n*k:=by rw [hlen,hki]
          have htl:n*k≤tl.length:=by rw [Nat.add_mul] at hroomy; omega
          rw [show (⟨bo.ty,bo.k,bo.cs ++ news,bo.room,none⟩:OB) = { bo with cs:=bo.cs ++ news } by rw [← hbn]];refine SK (cs':=cs ++ nc) hs hbr hbn kO ((kO.cells.rps hbn).app t2) ⟨tl.drop (n*k),?_,λh=>by rw [hroom] at h; cases h⟩ ?_ t0 true (.inr ⟨rfl,rfl⟩) _ _ λρ' M' w' _ e=>Us e hfit
          ·rw [hki,← hcl,he,hnl,List.take_left,← List.drop_drop,List.drop_left]
          ·simp only [List.size_toArray,List.length_append,List.length_take,List.length_drop,Array.length_toList,hki]
           omega
         ·have hlt:c'<len+n:=by omega
          have hrun:=λty=>run_append_grow (P:=Tryz.prog) w T ty e i zv hd hi hzv ⟨g',0,none⟩ len c' cs (by rw [hcl,hki]) (λj v hv=>by rw [Addr.add_mid]; exact hro j v hv) ⟨gy,oy,none⟩ n cy nc hlen hcells hlt (by omega) (growslice_fits hlt (Wu (by omega) (by omega)))
          intro o' ho;rw [go (λty=>by rw [hx,ey]; exact hrun ty) o' ho];have hgc:=grownCap_ge w (len+n) c' e;have hgm:=grownCap_le_maxLen w (len+n) c' e (by unfold maxLen; omega);generalize grownCap w (len+n) c' e=gc at hgc hgm;rw [show cs.toArray ++ nc.toArray=(cs ++ nc).toArray by simp,c1,c2,hroom];refine IX hs (Cr hT) ((kO.cells.rps hbn).app t2) ⟨(Builtin.zeroCells zv.cells (gc - (len+n))).toList,by simp,λh=>by cases h⟩ (λ_=>⟨?_,hgm⟩) (.inr rfl) [(o,none)] (λx h=>by simp at h; rw [h]) λρ' M' e=>Us e hgc
          rw [Array.size_append,size_zeroCells,hzs,List.size_toArray,List.length_append,hcl,hlen,hki,← Nat.add_mul,← Nat.add_mul,Nat.add_sub_cancel' hgc,Nat.mul_comm]
        ·cases hp
      ·cases hp
     ·cases hp
    ·cases hp
  ·cases h
 ·cases h
end
end
section
variable [Cc]
abbrev YP:=Nat→List AV→Option AV
def J1(T:YP):Prop:=∀ f xs r,T f xs=some r→Bf f∧∀(ρ:Bi)(M:Nat→Prop)(w:World)(vs:List Value),(∀ b,M b→b<w.heap.size)→CH ρ M w xs vs →
 Calls Tryz.prog f vs.toArray w λe w'=>∃ v,e = .returned v∧RV ρ M w' r v∧Below w.heap.size w w'
abbrev BC:=Nat→List AV→HP→Nat→Nat→Option (AV × HP)
def Dc(ρ:Bi)(w:World)(H:Nat→Option OB)(b:Nat):Prop:=w.heap.size≤b ∨ ∃ o bo c,H o=some bo∧ρ o=some (b,c)
def BZ(cf:BC):Prop:=∀ f xs H n0 t0 r U,cf f xs H n0 t0=some (r,U)→Bf f∧∀(ρ:Bi)(M:Nat→Prop)(w:World)(vs:List Value),
 CL ρ M (Dc ρ w (lk H)) w t0 (lk H)→(∀ o p,ρ o=some p→o<n0)→t0+16≤n0→CH ρ M w xs vs →
 Calls Tryz.prog f vs.toArray w λe w'=>∃ v,e = .returned v∧BH ρ M (Dc ρ w (lk H)) w t0 (lk H) U r v w'
abbrev TS:=Bi→(Nat→Prop)→World→Prop
def Mw(C:TS):Prop:=∀ ρ M w ρ' M' w',C ρ M w→Tr ρ M w ρ' M' w'→C ρ' M' w'
def F6(C:TS)(cf:BC):Prop:=
 (∀ f xs H n0 t0 r U,Nat.blt f 1000000=true→cf f xs H n0 t0=some (r,U)→Bf f∧∀(ρ:Bi)(M:Nat→Prop)(w:World)(vs:List Value),C ρ M w →
  CL ρ M (Dc ρ w (lk H)) w t0 (lk H)→(∀ o p,ρ o=some p→o<n0)→t0+16≤n0→CH ρ M w xs vs →
  Calls Tryz.prog f vs.toArray w λe w'=>∃ v,e = .returned v∧BH ρ M (Dc ρ w (lk H)) w t0 (lk H) U r v w') ∧
 (∀ y xs H n0 t0 r U,cf (1000000+y) xs H n0 t0=some (r,U)→∀(ρ:Bi)(M:Nat→Prop)(w:World)(vs:List Value),C ρ M w →
  CL ρ M (Dc ρ w (lk H)) w t0 (lk H)→(∀ o p,ρ o=some p→o<n0)→t0+16≤n0→CH ρ M w xs vs →
  ∃ l c fn tmps asg bd,ρ y=some (l,c)∧(Instr.yield l vs.toArray).run Tryz.prog w = .ok (.round l fn tmps asg bd) w ∧
   RoundIn (Ec none) 8 Tryz.prog l fn tmps asg bd w λe w'=>∃ v,e = .returned v∧BH ρ M (Dc ρ w (lk H)) w t0 (lk H) U r v w')
def PZ(cf yl:BC):BC:=λf xs H n0 t0=>if Nat.blt f 1000000 then cf f xs H n0 t0 else yl f xs H n0 t0
def Oy:BC:=λ_ _ _ _ _=>none
def J7:TS:=λ_ _ _=>True
theorem Eu:Mw J7:=λ_ _ _ _ _ _ _ _=>trivial
theorem Ww(y:Nat):Nat.blt (1000000+y) 1000000=false:=by
 cases e:Nat.blt (1000000+y) 1000000 with
 | false=>rfl
 | true=>have:=Nat.le_of_ble_eq_true e; omega
theorem BZ.c{cf:BC}(h:BZ cf)(C:TS):F6 C (PZ cf Oy):=⟨λf xs H n0 t0 r U hb e=>by
 unfold PZ at e;rw [if_pos hb] at e;obtain ⟨h1,h2⟩:=h f xs H n0 t0 r U e;exact ⟨h1,λρ M w vs _=>h2 ρ M w vs⟩,λy xs H n0 t0 r U e=>by
 unfold PZ at e;rw [Ww] at e
 cases e⟩
mutual
def Afs:AV→List Nat
 | .ptr o _=>[o]
 | .sl o _ _ _=>[o]
 | .slx o _=>[o]
 | .epx o _=>[o]
 | .fn _ a b=>M_ a ++ M_ b
 | .agg l=>M_ l
 | .tup l=>M_ l
 | .row _ l=>M_ l
 | .rptr l=>M_ l
 | _=>[]
def M_:List AV→List Nat
 | []=>[]
 | a :: l=>Afs a ++ M_ l
end
def memN(o:Nat):List Nat→Bool
 | []=>false
 | x :: l=>if Nat.beq x o then true else memN o l
theorem CB{o:Nat}:∀{l:List Nat},memN o l=true ↔ o∈l
 | []=>by simp [memN]
 | x :: l=>by
  unfold memN;split
  ·rename_i h
   have:=Nat.eq_of_beq_eq_true h;simp [this]
  ·rename_i h
   rw [CB,List.mem_cons]
   constructor
   ·exact .inr
   ·rintro (rfl | h')
    ·simp at h
    ·exact h'
def P6(H:HP):Nat→List Nat→List Nat→Option (List Nat)
 | _,[],acc=>some acc
 | 0,_ :: _,_=>none
 | k+1,o :: r,acc=>if memN o acc then P6 H k r acc else match lk H o with
  | some b=>P6 H k (M_ b.cs ++ r) (acc ++ [o])
  | none=>P6 H k r (acc ++ [o])
def KE(H:HP):List Nat→HP
 | []=>[]
 | o :: r=>(o,lk H o) :: KE H r
theorem fZ{H:HP}{R:List Nat}{o:Nat}:lk (KE H R) o=if o∈R then lk H o else none:=by
 induction R with
 | nil=>rfl
 | cons x r ih =>
  simp only [KE,lk];split
  ·rename_i h
   have:=Nat.eq_of_beq_eq_true h;simp [this]
  ·rename_i h
   have hne:x≠o:=λe=>h (by rw [e]; exact Nat.beq_refl o)
   rw [ih]
   by_cases hm:o∈r
   ·simp [hm]
   ·simp [hm,Ne.symm hne]
section
variable {ρ : Bi} {M A : Nat → Prop} {w : World} {t0 n0 : Nat} {Hr : Nat → Option OB} {H : HP} {ev : Operand → Option AV} {ρv : Operand → Value} {r : AV} {R : List Nat} {U : HP} {op : Op} {T : YP} {cf : BC}
theorem Kf{H':HP}{v:Value}{w':World}(hs:CL ρ M A w t0 Hr)(hsub:∀ o b,lk H' o=some b→Hr o=some b)(hp:BH ρ M (Dc ρ w (lk H')) w t0 (lk H') U r v w'):BH ρ M A w t0 Hr U r v w':=by
 obtain ⟨ρ',M',ht,hv,hR,hd,hsup,hmon,hbnd,hfr,hkp⟩:=hp;have hO:∀ b,Dc ρ w (lk H') b→A b:=λb h=>by
  rcases h with h | ⟨o,bo,c,h1,h2⟩
  ·exact hs.fresh b h
  ·obtain ⟨g,c',arr,cs,k⟩:=hs.heap.obj o bo (hsub o bo h1)
   have:=k.at_;rw [h2] at this;have:b=g:=congrArg Prod.fst (Option.some.inj this);exact this ▸ k.own
 have out:∀ o b,Hr o=some b→lk H' o=none→∀ g c,ρ o=some (g,c)→g<w.heap.size ∧ ¬ Dc ρ w (lk H') g:=λo b h1 h2 g c h3=>by
  obtain ⟨g',c',arr,cs,k⟩:=hs.heap.obj o b h1;have hg:g=g':=by
   have:=k.at_;rw [h3] at this;exact congrArg Prod.fst (Option.some.inj this)
  have hlt:g<w.heap.size:=hg ▸ AI k.blk
  refine ⟨hlt,?_⟩
  rintro (h | ⟨o',bo,c2,h4,h5⟩)
  ·omega
  ·have:=hs.heap.inj o o' b bo g c c2 h1 (hsub o' bo h4) h3 h5
   subst this;rw [h2] at h4
   cases h4
 have hkp':∀ o b g c,Hr o=some b→(∀ x∈U,x.1≠o)→ρ o=some (g,c)→w'.heap[g]? = w.heap[g]? := λo b g c h1 h2 h3=>by
  cases hl:lk H' o with
  | some b'=>exact hkp o b' g c hl h2 h3
  | none =>
   obtain ⟨hlt,hno⟩:=out o b h1 hl g c h3;exact hfr.keep g hlt hno
 have split:∀ o b,CQ Hr U o=some b→CQ (lk H') U o=some b ∨ (lk H' o=none∧Hr o=some b∧∀ x∈U,x.1≠o):=λo b h=>by
  by_cases hm:∃ x∈U,x.1=o
  ·rw [lA (H':=lk H') hm] at h
   exact .inl h
  ·have hm:∀ x∈U,x.1≠o:=λx hx e=>hm ⟨x,hx,e⟩
   rw [Jl hm] at h
   cases hl:lk H' o with
   | none=>exact .inr ⟨rfl,h,hm⟩
   | some b' =>
    refine .inl ?_;rw [Jl hm,hl,← hsub o b' hl,h]
 refine ⟨ρ',M',ht,hv,⟨λo b h=>?_,λo o' b b' g c c' h h' q q'=>?_⟩,hd,hsup,hmon,hbnd,⟨hfr.os,hfr.tape,hfr.output,hfr.size,λb hb hA=>hfr.keep b hb λh=>hA (hO b h)⟩,hkp'⟩
 ·rcases split o b h with h1 | ⟨h1,h2,h3⟩
  ·obtain ⟨g,c,arr,cs,k⟩:=hR.obj o b h1
   exact ⟨g,c,arr,cs,k.at_,k.mut_,hO g k.own,k.blk,k.ty,k.cells,k.pre,k.cap⟩
  ·obtain ⟨g,c,arr,cs,k⟩:=hs.heap.obj o b h2
   exact ⟨g,c,arr,cs,k.st ht (hsup g) (hkp' o b g c h2 h3 k.at_)⟩
 ·have hold:∀ o b g c,Hr o=some b→ρ' o=some (g,c)→∃ c',ρ o=some (g,c'):=λo b g c h1 h2=>by
   obtain ⟨g',c',arr,cs,k⟩:=hs.heap.obj o b h1;have:=ht.ext _ _ k.at_;rw [h2] at this;have hg:g=g':=congrArg Prod.fst (Option.some.inj this);exact ⟨c',by rw [hg]; exact k.at_⟩
  have mixed:∀ o b o' b',CQ (lk H') U o=some b→lk H' o'=none→Hr o'=some b'→∀ c c',ρ' o=some (g,c)→ρ' o'=some (g,c')→False:=λo b o' b' h1 h2 h3 c c' q1 q2=>by
   obtain ⟨c2,r2⟩:=hold o' b' g c' h3 q2;obtain ⟨_,hno⟩:=out o' b' h3 h2 g c2 r2;obtain ⟨g1,c1,arr,cs,k⟩:=hR.obj o b h1;have:=k.at_;rw [q1] at this;have hg:g=g1:=congrArg Prod.fst (Option.some.inj this);exact hno (hg ▸ k.own)
  rcases split o b h with h1 | ⟨h1,h2,h3⟩ <;> rcases split o' b' h' with h1' | ⟨h1',h2',h3'⟩
  ·exact hR.inj o o' b b' g c c' h1 h1' q q'
  ·exact (mixed o b o' b' h1 h1' h2' c c' q q').elim
  ·exact (mixed o' b' o b h1' h1 h2 c' c q' q).elim
  ·obtain ⟨c2,r2⟩:=hold o b g c h2 q
   obtain ⟨c3,r3⟩:=hold o' b' g c' h2' q';exact hs.heap.inj o o' b b' g c2 c3 h2 h2' r2 r3
theorem wA{a:AV}{v:Value}(h:JT a=true)(hv:Rp ρ M w a [v]):BA ρ M w a v:=by
  cases a <;> first
    | (cases h; done)
    | exact hv
    | (unfold Rp at hv; exact (List.cons.inj hv.1).1)
    | (rename_i n ag c
       unfold JT at h
       rw [Bool.and_eq_true,Bool.not_eq_true'] at h
       have:=h.2
       subst this
       exact hv)
theorem I8:∀{l:List AV}{vs:List Value},l.all JT=true→AW ρ M w l vs→CH ρ M w l vs
 | [],_,_,h=>by unfold AW at h; exact h
 | a :: l,vs,hs,h=>by
  rw [List.all_cons,Bool.and_eq_true] at hs;unfold AW at h;obtain ⟨x,y,rfl,h1,h2⟩:=h;have hl:=h1.len;have hz:a.sz=1:=by
   have hs1:=hs.1
   cases a <;> first | rfl | (cases hs1; done) | (unfold JT at hs1; rw [Bool.and_eq_true] at hs1; exact Nat.eq_of_beq_eq_true hs1.1)
  rw [hz] at hl;obtain ⟨v,rfl⟩:=List.length_eq_one_iff.1 hl;exact ⟨v,y,rfl,wA hs.1 h1,I8 hs.2 h2⟩
theorem CH.app:∀{l l':List AV}{vs vs':List Value},CH ρ M w l vs→CH ρ M w l' vs'→CH ρ M w (l ++ l') (vs ++ vs')
 | [],_,_,_,h,h'=>by have h:_=[]:=h; subst h; exact h'
 | _ :: _,_,_,_,⟨v,r,e,h1,h2⟩,h'=>by subst e; exact ⟨v,_,rfl,h1,CH.app h2 h'⟩
theorem LK(hev:∀ x a,ev x=some a→RV ρ M w a (ρv x)):∀{xs:List Operand}{l:List AV},pU ev xs=some l→l.all AV.one=true→CH ρ M w l (xs.map ρv)
 | [],l,h,_=>by cases h; exact rfl
 | x :: xs,l,h,ho=>by
  unfold pU at h;split at h
  ·rename_i a r h1 h2
   cases h
   rw [List.all_cons,Bool.and_eq_true] at ho;exact ⟨ρv x,_,rfl,(hev _ _ h1).one ho.1,LK hev h2 ho.2⟩
  ·cases h
noncomputable def Vz(T:YP)(cf:BC)(H:HP)(n0 t0:Nat)(ev:Operand→Option AV)(f:Operand)(xs:List Operand):Option (AV × List Nat × HP):=match ev f,pU ev xs with
 | some (.yl y),some l=>if l.all AV.one then (cf (1000000+y) l H n0 t0).map λp=>(p.1,H.map (·.1),p.2) else none
 | some (.fn F a b),some l=>if Nat.blt F 1000000 && a.all JT && b.all JT && l.all AV.one then (match T F (a ++ l ++ b) with
  | some r=>some (r,[],[])
  | none=>match P6 H 400 (M_ (a ++ l ++ b)) [] with
   | some R=>(cf F (a ++ l ++ b) (KE H R) n0 t0).map λp=>(p.1,R,p.2)
   | none=>none) else none
 | _,_=>none
theorem Ov{F:Nat}{f:Operand}{args:Array Operand}{Ts:Array TypeId}{xs ys:Array Value}(hf:ρv f = .func (.func F) xs ys)(hpl:Bf F){o:Oper}(ho:o.op = .call { callee:=.value f,args:=args,argTypes:=Ts }):(execOp ρv o).run Tryz.prog w = .ok (.enter F (xs ++ args.map ρv ++ ys)) w:=by
 unfold execOp;rw [ho];simp only [resolve,hf,Deferred.ofValue,Sem.run_bind,Sem.run_pure,Result.andThen_ok,invoke];exact hpl _ _
theorem Ud{y:Nat}{f:Operand}{args:Array Operand}{Ts:Array TypeId}(hf:ρv f = .func (.yield y) #[] #[]){n:Next}{w':World}(hr:(Instr.yield y (args.map ρv)).run Tryz.prog w = .ok n w'){o:Oper}(ho:o.op = .call { callee:=.value f,args:=args,argTypes:=Ts }):(execOp ρv o).run Tryz.prog w = .ok n w':=by
 unfold execOp;rw [ho];simp only [resolve,hf,Deferred.ofValue,Sem.run_bind,Sem.run_pure,Result.andThen_ok,invoke];rw [show (#[]:Array Value) ++ args.map ρv=args.map ρv from by simp];exact hr
theorem pN{C:TS}{f:Operand}{args:Array Operand}{Ts:Array TypeId}(hT:J1 T)(hcf:F6 C cf)(hC:C ρ M w)(h:Vz T cf H n0 t0 ev f args.toList=some (r,R,U))(hs:CL ρ M A w t0 Hr)(hag:∀ o∈R,Hr o=lk H o)(hev:∀ x a,ev x=some a→RV ρ M w a (ρv x))(hdom:∀ o p,ρ o=some p→o<n0)(hn:t0+16≤n0):CJ (.call { callee:=.value f,args:=args,argTypes:=Ts }) ρv w (BH ρ M A w t0 Hr U r):=by
 unfold Vz at h;split at h
 ·rename_i y l hf hl
  split at h
  ·rename_i ho1
   obtain ⟨p,hcc,e⟩:=Option.map_eq_some_iff.1 h
   cases e
   have hv:Rp ρ M w (.yl y) [ρv f]:=hev _ _ hf;unfold Rp at hv;obtain ⟨g,c,hy,e⟩:=hv;have e:=(List.cons.inj e).1;have hargs:CH ρ M w l (args.toList.map ρv):=LK hev hl ho1;have hsub:∀ o b,lk H o=some b→Hr o=some b:=λo b e=>by
    refine (hag o ?_).trans e;clear hag hcc h hcf
    induction H with
    | nil=>cases e
    | cons x r ih =>
     unfold lk at e;split at e
     ·rename_i hb
      exact List.mem_map.2 ⟨x,List.mem_cons_self ..,Nat.eq_of_beq_eq_true hb⟩
     ·exact List.mem_cons_of_mem _ (ih e)
   have hs':CL ρ M (Dc ρ w (lk H)) w t0 (lk H):=by
    refine ⟨⟨λo b e=>?_,λo o' b b' g c c' e1 e2 q1 q2=>hs.heap.inj o o' b b' g c c' (hsub _ _ e1) (hsub _ _ e2) q1 q2⟩,hs.bnd,hs.new,λb hb=>.inl hb⟩;obtain ⟨g,c,arr,cs,k⟩:=hs.heap.obj o b (hsub o b e);exact ⟨g,c,arr,cs,k.at_,k.mut_,.inr ⟨o,b,c,e,k.at_⟩,k.blk,k.ty,k.cells,k.pre,k.cap⟩
   obtain ⟨l',c',fn,tmps,asg,bd,h1,h2,h3⟩:=hcf.2 _ _ _ _ _ _ _ hcc ρ M w _ hC hs' hdom hn hargs;rw [hy] at h1;have h1:g=l':=congrArg Prod.fst (Option.some.inj h1);subst h1;have harr:(args.toList.map ρv).toArray=args.map ρv:=by
    apply Array.ext';simp
   rw [harr] at h2;intro o ho;rw [Ud e h2 ho];refine RoundIn.mono h3 λe w' he=>?_
   obtain ⟨v,e,hp⟩:=he;exact ⟨v,e,Kf hs hsub hp⟩
  ·cases h
 ·rename_i F a b l hf hl
  split at h
  ·rename_i hc
   simp only [Bool.and_eq_true] at hc;have hv:Rp ρ M w (.fn F a b) [ρv f]:=hev _ _ hf;unfold Rp at hv;obtain ⟨xs,ys,e,ha,hb⟩:=hv;have e:=(List.cons.inj e).1;have hargs:CH ρ M w (a ++ l ++ b) (xs.toList ++ args.toList.map ρv ++ ys.toList):=((I8 hc.1.1.2 ha).app (LK hev hl hc.2)).app (I8 hc.1.2 hb);have harr:(xs.toList ++ args.toList.map ρv ++ ys.toList).toArray=xs ++ args.map ρv ++ ys:=by
    apply Array.ext';simp
   split at h
   ·rename_i r' hr
    cases h
    obtain ⟨hpl,hcall⟩:=hT _ _ _ hr;refine Z2 hs (λo ho=>Ov e hpl ho) ?_;rw [← harr];exact hcall ρ M w _ hs.bnd hargs
   ·split at h
    ·rename_i R' hR
     cases hcc:cf F (a ++ l ++ b) (KE H R') n0 t0 with
     | none=>rw [hcc] at h; cases h
     | some p =>
      rw [hcc] at h
      cases h
      obtain ⟨hpl,hcall⟩:=hcf.1 _ _ _ _ _ _ _ hc.1.1.1 hcc;have hsub:∀ o b,lk (KE H R) o=some b→Hr o=some b:=λo b e=>by
       rw [fZ] at e;split at e
       ·rename_i hm; rw [hag o hm]; exact e
       ·cases e
      have hs':CL ρ M (Dc ρ w (lk (KE H R))) w t0 (lk (KE H R)):=by
       refine ⟨⟨λo b e=>?_,λo o' b b' g c c' e1 e2 q1 q2=>hs.heap.inj o o' b b' g c c' (hsub _ _ e1) (hsub _ _ e2) q1 q2⟩,hs.bnd,hs.new,λb hb=>.inl hb⟩;obtain ⟨g,c,arr,cs,k⟩:=hs.heap.obj o b (hsub o b e);exact ⟨g,c,arr,cs,k.at_,k.mut_,.inr ⟨o,b,c,e,k.at_⟩,k.blk,k.ty,k.cells,k.pre,k.cap⟩
      have hcall:=hcall ρ M w _ hC hs' hdom hn hargs;rw [harr] at hcall;intro o ho;rw [Ov e hpl ho];refine Calls.mono hcall λe w' he=>?_
      obtain ⟨v,e,hp⟩:=he;exact ⟨v,e,Kf hs hsub hp⟩
    ·cases h
  ·cases h
 ·cases h
noncomputable def yO(H:HP)(t0:Nat)(ev:Operand→Option AV)(b:Builtin)(xs:List Operand)(Ts:List TypeId):Option (AV × List Nat × HP):=match b,xs,Ts with
 | .len,[x],[T]=>lO ev T x
 | .append,[x,y],[T,T2]=>if Nat.beq T T2 then eN H ev t0 T x y else none
 | .max,[x,y],[T,T2]=>if Nat.beq T 3 && Nat.beq T2 3 then Aen ev true x y else none
 | _,_,_=>none
noncomputable def opB(T:YP)(cf:BC)(H:HP)(n0 t0:Nat)(ev:Operand→Option AV):Op→Option (AV × List Nat × HP)
 | .move x=>PT ev x
 | .assign x=>PT ev x
 | .pick c x y=>Ur ev c x y
 | .alloc T=>QB t0 T
 | .box T x=>kK ev t0 T x
 | .build T ps=>QJ ev T ps.toList
 | .buildSlice T n ps=>RZ ev t0 T n ps.toList
 | .load T x=>VH H ev T x
 | .store T x y=>Qw H ev T x y
 | .nilCheck x=>aN ev x
 | .binOp o T x y T2=>dI ev o T x y T2
 | .unOp o _ x=>AaR ev o x
 | .convert S D x=>UR ev S D x
 | .makeFunc f xs ys=>AcE ev f xs.toList ys.toList
 | .makeSlice T x y=>UZ ev t0 T x y
 | .slice T x lo hi mx=>Pa ev T x lo hi mx
 | .fieldAddr S x k=>PX ev S x k
 | .field S x k=>Nb ev S x k
 | .indexAddr T x y=>lC ev T x y
 | .extract x k=>mF ev x k
 | .call c=>match c.callee with
  | .builtin b=>yO H t0 ev b c.args.toList c.argTypes.toList
  | .value f=>Vz T cf H n0 t0 ev f c.args.toList
  | _=>none
 | _=>none
theorem Ot{C:TS}(hT:J1 T)(hcf:F6 C cf)(hC:C ρ M w)(h:opB T cf H n0 t0 ev op=some (r,R,U))(hs:CL ρ M A w t0 Hr)(hag:∀ o∈R,Hr o=lk H o)(hev:∀ x a,ev x=some a→RV ρ M w a (ρv x))(hdom:∀ o p,ρ o=some p→o<n0)(hn:t0+16≤n0):CJ op ρv w (BH ρ M A w t0 Hr U r):=by
 unfold opB at h;split at h
 ·exact Xh (.inl rfl) h hs hev
 ·exact Xh (.inr rfl) h hs hev
 ·exact pV h hs hev
 ·exact mQ h hs
 ·exact AdO h hs hev
 ·exact bB h hs hev
 ·exact Ac8 h hs hev
 ·exact pL h hs hag hev
 ·exact iU h hs hag hev
 ·exact Adk h hs hev
 ·exact Ad3 h hs hev
 ·exact Aft h hs hev
 ·exact xK h hs hev
 ·exact Agh h hs hev
 ·exact xC h hs hev
 ·exact bS h hs hev
 ·exact bV h hs hev
 ·exact Y4 h hs hev
 ·exact AcR h hs hev
 ·exact AdP h hs hev
 ·rename_i c
  obtain ⟨callee,args,Ts⟩:=c;simp only [] at h;split at h
  ·rename_i b
   unfold yO at h;split at h
   ·rename_i x T1 ha ht
    have ha:args = #[x]:=Array.toList_inj.1 ha;have ht:Ts = #[T1]:=Array.toList_inj.1 ht;subst ha;subst ht;exact Adr h hs hev
   ·rename_i x y T1 T2 ha ht
    have ha:args = #[x,y]:=Array.toList_inj.1 ha;have ht:Ts = #[T1,T2]:=Array.toList_inj.1 ht;subst ha;subst ht;split at h
    ·rename_i e
     have e:=Nat.eq_of_beq_eq_true e;subst e;exact AdT h hs hag hev
    ·cases h
   ·rename_i x y T1 T2 ha ht
    have ha:args = #[x,y]:=Array.toList_inj.1 ha;have ht:Ts = #[T1,T2]:=Array.toList_inj.1 ht;subst ha;subst ht;split at h
    ·rename_i e
     rw [Bool.and_eq_true] at e;have e1:=Nat.eq_of_beq_eq_true e.1;have e2:=Nat.eq_of_beq_eq_true e.2;subst e1;subst e2;exact Aew h hs hev
    ·cases h
   ·cases h
  ·exact pN hT hcf hC h hs hag hev hdom hn
  ·cases h
 ·cases h
structure XT where
 on:Bool
 pure:PK→List AV→Option AV
 idx:TypeId→CE→AV→Option CE
 load:TypeId→CE→CE→Option AV
 store:TypeId→CE→CE→AV→Option CE
 make:TypeId→AV→AV→Option (TypeId × CE × CE)
 lit:TypeId→Nat→List AV→Option AV
 app:TypeId→CE→Option (TypeId × CE × CE)
def XT.none:XT:=⟨false,λ_ _=>.none,λ_ _ _=>.none,λ_ _ _=>.none,λ_ _ _ _=>.none,λ_ _ _=>.none,λ_ _ _=>.none,λ_ _=>.none⟩
structure MD (X:XT):Prop where
 pure:∀ k xs r,X.pure k xs=some r→∀(ρ:Bi)(M:Nat→Prop)(w:World)(ρv:Operand→Value)(ys:List Operand),(∀ b,M b→b<w.heap.size)→CH ρ M w xs (ys.map ρv) →
  ∃ v,(∀ o:Oper,o.op=NV k ys→(execOp ρv o).run Tryz.prog w = .ok (.value v) w)∧RV ρ M w r v
 idx:∀ T j a p,X.idx T j a=some p→∀(ρ:Bi)(M:Nat→Prop)(w:World)(g k:Nat)(v:Value),RV ρ M w a v→(Instr.indexAt T (.slice (some ⟨g,0,none⟩) (Cc.N j) k) v).run Tryz.prog w = .ok (.pointer (some ⟨g,Cc.J p,none⟩)) w
 load:∀ T c p r,X.load T c p=some r→∀(ρ:Bi)(M:Nat→Prop)(w:World)(g:Nat)(cs:List Value),w.rangeAt g 0 cs→(Cc.B c).p M w cs→∃ v,(Instr.loadAt T (.pointer (some ⟨g,Cc.J p,none⟩))).run Tryz.prog w = .ok v w∧RV ρ M w r v
 store:∀ T c p a c',X.store T c p a=some c'→∀(ρ:Bi)(M:Nat→Prop)(w:World)(cs:List Value)(v:Value),(Cc.B c).p M w cs→RV ρ M w a v →
  (Tryz.prog.info? T).map (·.size)=some v.cells.size∧(∀ x∈v.cells.toList,x.oneCell'=true)∧Cc.J p+v.cells.size≤cs.length∧(Cc.B c').p M w (cs.take (Cc.J p) ++ v.cells.toList ++ cs.drop (Cc.J p+v.cells.size))
 make:∀ T x y e c j,X.make T x y=some (e,c,j)→IY e=true∧∀(ρ:Bi)(M:Nat→Prop)(w:World)(vx vy:Value),RV ρ M w x vx→RV ρ M w y vy →
  ∃ cells,(Instr.makeSlice T vx vy).run Tryz.prog w = .ok (.slice (some ⟨w.heap.size,0,none⟩) (Cc.N j) (Cc.N j)) (w.alloc (.cells cells e))∧(Cc.B c).p M w cells.toList
 lit:∀ T n l r,X.lit T n l=some r→∀(ρ:Bi)(M:Nat→Prop)(w:World)(g:Nat)(cs:List Value),¬ M g→g<w.heap.size→w.rangeAt g 0 cs→AW ρ M w l cs→RV ρ M w r (.slice (some ⟨g,0,none⟩) n n)
 app:∀ T e et c n,X.app T e=some (et,c,n)→IY et=true∧Tryz.prog.underlying T=some (.slice et)∧(∃ i z,Tryz.prog.info? et=some i∧i.zero=some z∧i.size=4∧z.cells.size=4∧i.bytes≤1048576)∧1≤Cc.N n∧Cc.N n≤1048576 ∧
  ∀(M:Nat→Prop)(w:World)(v:Value),(Cc.X e).p M w [v]→∃ g off xs k,v = .slice (some ⟨g,off,none⟩) (Cc.N n) k∧w.rangeAt g off xs∧xs.length=Cc.N n*4∧(Cc.B c).p M w xs
theorem MD.no:MD XT.none:=⟨λ_ _ _ h=>(by cases h),λ_ _ _ _ h=>(by cases h),λ_ _ _ _ h=>(by cases h),λ_ _ _ _ _ h=>(by cases h),λ_ _ _ _ _ _ h=>(by cases h),λ_ _ _ _ h=>(by cases h),λ_ _ _ _ _ h=>(by cases h)⟩
def opP(X:XT)(ev:Operand→Option AV)(op:Op):Option (AV × List Nat × HP):=match R9 op with
 | some (k,xs)=>match pU ev xs with
  | some l=>if l.all AV.one then (X.pure k l).map λr=>(r,[],[]) else none
  | none=>none
 | none=>none
noncomputable def Aee(X:XT)(t0:Nat)(ev:Operand→Option AV)(T:TypeId)(x y:Operand):Option (AV × List Nat × HP):=match ev x,ev y with
 | some (.sl _ 0 0 (some 0)),some (.ext 1 false e)=>(X.app T e).map λp=>(.slx t0 p.2.2,[],[(t0,some ⟨p.1,4,[],true,some p.2.1⟩)])
 | _,_=>none
noncomputable def opX(X:XT)(H:HP)(t0:Nat)(ev:Operand→Option AV)(op:Op):Option (AV × List Nat × HP):=match op with
 | .indexAddr T x y=>match ev x,ev y with
  | some (.slx o j),some a=>(X.idx T j a).map λp=>(.epx o p,[],[])
  | _,_=>opP X ev op
 | .load T x=>match ev x with
  | some (.epx o p)=>match lk H o with
   | some b=>match b.bl with
    | some c=>(X.load T c p).map λr=>(r,[o],[])
    | none=>none
   | none=>none
  | _=>opP X ev op
 | .store T x y=>match ev x,ev y with
  | some (.epx o p),some a=>match lk H o with
   | some b=>match b.bl with
    | some c=>(X.store T c p a).map λc'=>(.val undef,[o],[(o,some { b with bl:=some c' })])
    | none=>none
   | none=>none
  | _,_=>none
 | .makeSlice T x y=>match ev x,ev y with
  | some a,some b=>(X.make T a b).map λp=>(.slx t0 p.2.2,[],[(t0,some ⟨p.1,0,[],false,some p.2.1⟩)])
  | _,_=>none
 | .buildSlice T n ps=>match RZ ev t0 T n ps.toList with
  | some (_,_,[(_,some b)])=>(X.lit T n b.cs).map λr=>(r,[],[])
  | _=>none
 | .call c=>match c.callee,c.args.toList,c.argTypes.toList with
  | .builtin .append,[x,y],[T,T2]=>if Nat.beq T T2 then Aee X t0 ev T x y else none
  | _,_,_=>opP X ev op
 | _=>opP X ev op
theorem Ob{v:Value}{w':World}{H':Nat→Option OB}(hs:CL ρ M A w t0 H')(hb:Below w.heap.size w w')(hv:RV ρ M w' r v):BH ρ M A w t0 H' [] r v w':=by
 have ht:Tr ρ M w ρ M w':=⟨Bs.of_below hb,λb hlt _=>hb.block b hlt,λ_ _ h=>h,λ_ _ h=>h⟩;have hblk:∀ o b g c,H' o=some b→ρ o=some (g,c)→w'.heap[g]? = w.heap[g]? := λo b g c e1 e2=>by
  obtain ⟨g1,c1,arr,cs,k⟩:=hs.heap.obj o b e1;have:g=g1:=by
   have:=k.at_;rw [e2] at this;simpa using congrArg Prod.fst (Option.some.inj this)
  exact hb.block g (this ▸ AI k.blk)
 exact ⟨ρ,M,ht,hv,hs.heap.st ht (λ_ h=>h) hblk,λ_ _ e=>.inl e,λ_ h=>h,λ_ h=>.inl h,λb h=>Nat.lt_of_lt_of_le (hs.bnd b h) hb.size,ND.below hb,λo b g c e1 _ e2=>hblk o b g c e1 e2⟩
theorem uV{X:XT}(hX:MD X)(h:opP X ev op=some (r,R,U))(hs:CL ρ M A w t0 Hr)(hev:∀ x a,ev x=some a→RV ρ M w a (ρv x)):CJ op ρv w (BH ρ M A w t0 Hr U r):=by
 unfold opP at h;split at h
 ·rename_i k xs hk
  split at h
  ·rename_i l hl
   split at h
   ·rename_i ho
    obtain ⟨r',hr,e⟩:=Option.map_eq_some_iff.1 h
    cases e
    obtain ⟨v,hrun,hv⟩:=hX.pure k l r hr ρ M w ρv xs hs.bnd (LK hev hl ho);exact Bn hs (λo e=>hrun o (e.trans (Oi hk).symm)) hv
   ·cases h
  ·cases h
 ·cases h
theorem Er{arr:Array Value}{T:TypeId}{g:Nat}{cs tl:List Value}(hg:w.heap[g]? = some (.cells arr T (0,0)))(he:arr.toList=cs ++ tl):w.rangeAt g 0 cs:=by
 have:=GM hg he 0;rwa [List.drop_zero] at this
theorem uF{X:XT}(hX:MD X){T:TypeId}{x y:Operand}(h:Aee X t0 ev T x y=some (r,R,U))(hs:CL ρ M A w t0 Hr)(hev:∀ x a,ev x=some a→RV ρ M w a (ρv x)):CJ (.call { callee:=.builtin .append,args:=#[x,y],argTypes:=#[T,T] }) ρv w (BH ρ M A w t0 Hr U r):=by
 unfold Aee at h;split at h
 ·rename_i o e hx hy
  obtain ⟨⟨et,c,n⟩,hp,he⟩:=Option.map_eq_some_iff.1 h
  cases he
  obtain ⟨hT,hd,⟨i,z,hi,hz,h4,hz4,hby⟩,h1,h2,hv⟩:=hX.app T e et c n hp;have hvy:Rp ρ M w (.ext 1 false e) [ρv y]:=hev _ _ hy;unfold Rp at hvy;obtain ⟨g,off,xs,k,ey,hr,hl,hb⟩:=hv M w _ hvy.2;have hvx:Rp ρ M w (.sl o 0 0 (some 0)) [ρv x]:=hev _ _ hx;unfold Rp at hvx;obtain ⟨g',c',kk,_,ex,_,ek,_⟩:=hvx;have ex:=(List.cons.inj ex).1;have ek:=ek 0 rfl;subst ek;generalize hN:Cc.N n=N at *;have hcells:∀(j:Nat)(v:Value),xs[j]? = some v→w.cell? ((⟨g,off,none⟩:Addr).add j)=some v:=λj v hv=>by rw [Addr.add_mid]; exact hr j v hv
  have hrun:=λty=>run_append_grow (P:=Tryz.prog) w T ty et i z hd hi hz ⟨g',0,none⟩ 0 0 [] (by simp) (λj v hv=>by simp at hv) ⟨g,off,none⟩ N k xs (by rw [hl,h4]) hcells (by omega) (by omega) (growslice_fits (by omega) (Wu (by omega) (by omega)))
  intro o' ho;have go:(execOp ρv o').run Tryz.prog w = .ok (.value (.slice (some ⟨w.heap.size,0,none⟩) (0+N) (grownCap w (0+N) 0 et))) (w.drew.alloc (.cells (#[] ++ xs.toArray ++ Builtin.zeroCells z.cells (grownCap w (0+N) 0 et - (0+N))) et)):=by
   unfold execOp;rw [ho];have:=hrun o'.type;simp only [resolve,invoke,builtin,Sem.run_bind,Sem.run_pure,Result.andThen_ok,List.map_toArray,List.map_cons,List.map_nil,ex,ey,this]
  rw [go];refine JL (b0:=⟨et,4,[],true,some c⟩) (c:=grownCap w (0+N) 0 et) (cs:=xs) hs (Cr hT) hb ⟨(Builtin.zeroCells z.cells (grownCap w (0+N) 0 et - (0+N))).toList,by simp,λh=>by cases h⟩ (λ_=>⟨?_,grownCap_le_maxLen w (0+N) 0 et (by unfold maxLen; omega)⟩) (.inr rfl) [] (λx h=>by cases h) λρ' M' e=>?_
  ·have hge:=grownCap_ge w (0+N) 0 et
   rw [Array.size_append,Array.size_append,size_zeroCells,hz4];have e:xs.toArray.size=N*4:=by rw [List.size_toArray,hl]
   rw [e];show 0+N*4+(grownCap w (0+N) 0 et - (0+N))*4=4*grownCap w (0+N) 0 et;omega
  ·have hge:=grownCap_ge w (0+N) 0 et
   have key:∀ w':World,Rp ρ' M' w' (.slx t0 n) [.slice (some ⟨w.heap.size,0,none⟩) (0+N) (grownCap w (0+N) 0 et)]:=λw'=>by
    unfold Rp;rw [hN];refine ⟨_,grownCap w (0+N) 0 et,_,e,?_,Nat.le_trans (by omega) hge⟩;rw [show (0+N)=N from Nat.zero_add N]
   exact key (w.drew.alloc (.cells (#[] ++ xs.toArray ++ Builtin.zeroCells z.cells (grownCap w (0+N) 0 et - (0+N))) et))
 ·cases h
theorem AiI{X:XT}(hX:MD X)(h:opX X H t0 ev op=some (r,R,U))(hs:CL ρ M A w t0 Hr)(hag:∀ o∈R,Hr o=lk H o)(hev:∀ x a,ev x=some a→RV ρ M w a (ρv x)):CJ op ρv w (BH ρ M A w t0 Hr U r):=by
 unfold opX at h;split at h
 ·rename_i T x y
  split at h
  ·rename_i o j a hx hy
   obtain ⟨p,hp,e⟩:=Option.map_eq_some_iff.1 h
   cases e
   have hv:Rp ρ M w (.slx o j) [ρv x]:=hev _ _ hx;unfold Rp at hv;obtain ⟨g,k,cc,e1,e2,e3⟩:=hv;have hrun:=hX.idx T j a p hp ρ M w g k (ρv y) (hev _ _ hy);refine Bn hs (v:=.pointer (some ⟨g,Cc.J p,none⟩)) (λo' ho=>?_) ?_
   ·unfold execOp
    rw [ho];show Sem.run _ (Instr.indexAt T (ρv x) (ρv y) >>= λx=>pure (Next.value x)) w=_;rw [(List.cons.inj e2).1];exact Cz hrun
   ·show Rp ρ M w (.epx o p) [_]
    unfold Rp;exact ⟨g,cc,e1,rfl⟩
  ·exact uV hX h hs hev
 ·rename_i T x
  split at h
  ·rename_i o p hx
   split at h
   ·rename_i b hb
    split at h
    ·rename_i c hc
     obtain ⟨r',hr,e⟩:=Option.map_eq_some_iff.1 h
     cases e
     obtain ⟨g,cc,arr,cs,k⟩:=hs.heap.obj o b ((hag o (by simp)).trans hb);have hv:Rp ρ M w (.epx o p) [ρv x]:=hev _ _ hx;unfold Rp at hv;obtain ⟨g',cc',e1,e2⟩:=hv;rw [k.at_] at e1;simp only [Option.some.injEq,Prod.mk.injEq] at e1;obtain ⟨tl,he,_⟩:=k.pre;have hcells:=k.cells;unfold Bu at hcells;rw [hc] at hcells;obtain ⟨v,hrun,hv⟩:=hX.load T c p r hr ρ M w g cs (Er k.blk he) hcells;refine Bn hs (v:=v) (λo' ho=>?_) hv;unfold execOp;rw [ho];show Sem.run _ (Instr.loadAt T (ρv x) >>= λx=>pure (Next.value x)) w=_;rw [(List.cons.inj e2).1,← e1.1];exact Cz hrun
    ·cases h
   ·cases h
  ·exact uV hX h hs hev
 ·rename_i T x y
  split at h
  ·rename_i o p a hx hy
   split at h
   ·rename_i b hb
    split at h
    ·rename_i c hc
     obtain ⟨c',hr,e⟩:=Option.map_eq_some_iff.1 h
     cases e
     have hbr:Hr o=some b:=(hag o (by simp)).trans hb;obtain ⟨g,cc,arr,cs,k⟩:=hs.heap.obj o b hbr;have hv:Rp ρ M w (.epx o p) [ρv x]:=hev _ _ hx;unfold Rp at hv;obtain ⟨g',cc',e1,e2⟩:=hv;rw [k.at_] at e1;simp only [Option.some.injEq,Prod.mk.injEq] at e1;obtain ⟨tl,he,ht⟩:=k.pre;have hcells:=k.cells;unfold Bu at hcells;rw [hc] at hcells;obtain ⟨q1,q2,q3,q4⟩:=hX.store T c p a c' hr ρ M w cs (ρv y) hcells (hev _ _ hy);have hsz:arr.size=cs.length+tl.length:=by rw [← List.length_append,← he]; simp
     have hlc:(ρv y).cells.toList.length=(ρv y).cells.size:=by simp
     have hrun:(Instr.storeAt T (.pointer (some ⟨g,Cc.J p,none⟩)) (ρv y)).run Tryz.prog w = .ok () (w.setRow g (arr.toList.take (Cc.J p) ++ (ρv y).cells.toList ++ arr.toList.drop (Cc.J p+(ρv y).cells.toList.length)).toArray):=by
      have:=run_storeCells_at Tryz.prog g (Cc.J p) b.ty (ρv y).cells.toList 0 arr w k.blk (by omega) q2;simp only [Nat.add_zero] at this
      cases hi:Tryz.prog.info? T with
      | none=>rw [hi] at q1; cases q1
      | some i =>
       rw [hi] at q1;have hs':(ρv y).cells.size=i.size:=by simpa using q1.symm
       simp [Instr.storeAt,Instr.sureAddr,storeVar,Sem.run_bind,sizeOf,typeInfo,hi,hs',this]
     intro o' ho';have hex:(execOp ρv o').run Tryz.prog w = .ok .skip (w.setRow g (arr.toList.take (Cc.J p) ++ (ρv y).cells.toList ++ arr.toList.drop (Cc.J p+(ρv y).cells.toList.length)).toArray):=by
      unfold execOp;rw [ho'];show Sem.run _ (Instr.storeAt T (ρv x) (ρv y) >>= λ_=>pure Next.skip) w=_;rw [(List.cons.inj e2).1,← e1.1];exact Xj hrun
     rw [hex];refine N4 (b1:={ b with bl:=some c' }) hs hbr k rfl rfl rfl (cs':=cs.take (Cc.J p) ++ (ρv y).cells.toList ++ cs.drop (Cc.J p+(ρv y).cells.size)) q4 ⟨tl,?_,ht⟩ ?_ o false (.inl ⟨rfl,rfl⟩) _ _ λ_ _ _ _ _=>rfl
     ·rw [he,hlc,List.take_append_of_le_length (by omega),List.drop_append_of_le_length (by omega)]
      simp
     ·simp only [List.size_toArray,List.length_append,List.length_take,List.length_drop,Array.length_toList]
      omega
    ·cases h
   ·cases h
  ·cases h
 ·rename_i T x y
  split at h
  ·rename_i a b hx hy
   obtain ⟨p,hp,e⟩:=Option.map_eq_some_iff.1 h;obtain ⟨e0,c,j⟩:=p
   cases e
   obtain ⟨hT,hm⟩:=hX.make T a b e0 c j hp;obtain ⟨cells,hrun,hc⟩:=hm ρ M w (ρv x) (ρv y) (hev _ _ hx) (hev _ _ hy);intro o ho;have hex:(execOp ρv o).run Tryz.prog w = .ok (.value (.slice (some ⟨w.heap.size,0,none⟩) (Cc.N j) (Cc.N j))) (w.alloc (.cells cells e0)):=by
    unfold execOp;rw [ho];show Sem.run _ (Instr.makeSlice T (ρv x) (ρv y) >>= λx=>pure (Next.value x)) w=_;exact Cz hrun
   rw [hex];refine JL (b0:=⟨e0,0,[],false,some c⟩) (c:=0) hs (Cr hT) (cs:=cells.toList) hc ⟨[],by simp,λ_=>rfl⟩ (λh=>by cases h) (.inl rfl) [] (λx h=>by cases h) λρ' M' e=>?_
   show Rp ρ' M' (w.alloc (.cells cells e0)) (.slx t0 j) [.slice (some ⟨w.heap.size,0,none⟩) (Cc.N j) (Cc.N j)];unfold Rp;exact ⟨_,_,_,e,rfl,Nat.le_refl _⟩
  ·cases h
 ·rename_i T n ps
  split at h
  ·rename_i r0 R0 o0 b hl
   obtain ⟨r',hr,e⟩:=Option.map_eq_some_iff.1 h
   cases e
   obtain ⟨e,k,l',arr,_,hU,hT,hc,hrun⟩:=Yk (ρ:=ρ) (M:=M) (w:=w) hl hev;simp only [List.cons.injEq,Prod.mk.injEq,Option.some.injEq,and_true] at hU;obtain ⟨_,rfl⟩:=hU;intro o ho;rw [hrun o ho];have hb:Below w.heap.size w (w.alloc (.cells arr e)):=Ai w _;have hn:=heap_alloc_new w (.cells arr e);have hsz:(w.alloc (.cells arr e)).heap.size=w.heap.size+1:=Bw _ _;exact Ob hs hb (hX.lit T n l' _ hr ρ M _ w.heap.size arr.toList (λhm=>Nat.lt_irrefl _ (hs.bnd _ hm)) (by omega) (Er hn (List.append_nil _).symm) (AW.st ⟨Bs.of_below hb,λb hlt _=>hb.block b hlt,λ_ _ h=>h,λ_ _ h=>h⟩ _ _ hc))
  ·cases h
 ·rename_i c
  obtain ⟨callee,args,Ts⟩:=c;simp only [] at h;split at h
  ·rename_i x y T T2 ha ht
   have ha:args = #[x,y]:=Array.toList_inj.1 ha;have ht:Ts = #[T,T2]:=Array.toList_inj.1 ht;subst ha;subst ht;split at h
   ·rename_i e
    have e:=Nat.eq_of_beq_eq_true e;subst e;exact uF hX h hs hev
   ·cases h
  ·exact uV hX h hs hev
 ·exact uV hX h hs hev
def orC(a b:BC):BC:=λf xs H n0 t0=>match a f xs H n0 t0 with
 | some r=>some r
 | none=>b f xs H n0 t0
theorem UB{a b:BC}(ha:BZ a)(hb:BZ b):BZ (orC a b):=λf xs H n0 t0 r U h=>by
 unfold orC at h;split at h
 ·rename_i p hp
  cases h
  exact ha f xs H n0 t0 r U hp
 ·exact hb f xs H n0 t0 r U h
theorem DU:BZ Oy:=λf xs H n0 t0 r U h=>by cases h
structure Tb where
 prim:YP
 x:XT
 call:BC
structure Fo (T:Tb):Prop where
 prim:J1 T.prim
 x:MD T.x
 call:BZ T.call
noncomputable def opA(T:Tb)(cf:BC)(H:HP)(n0 t0:Nat)(ev:Operand→Option AV)(op:Op):Option (AV × List Nat × HP):=match T.x.on with
 | false=>opB T.prim cf H n0 t0 ev op
 | true=>match opX T.x H t0 ev op with
  | some p=>some p
  | none=>opB T.prim cf H n0 t0 ev op
theorem Zj{C:TS}{T:Tb}(hT:Fo T)(hcf:F6 C cf)(hC:C ρ M w)(h:opA T cf H n0 t0 ev op=some (r,R,U))(hs:CL ρ M A w t0 Hr)(hag:∀ o∈R,Hr o=lk H o)(hev:∀ x a,ev x=some a→RV ρ M w a (ρv x))(hdom:∀ o p,ρ o=some p→o<n0)(hn:t0+16≤n0):CJ op ρv w (BH ρ M A w t0 Hr U r):=by
 unfold opA at h;split at h
 ·exact Ot hT.prim hcf hC h hs hag hev hdom hn
 ·split at h
  ·rename_i p hp
   cases h
   exact AiI hT.x hp hs hag hev
  ·exact Ot hT.prim hcf hC h hs hag hev hdom hn
end
end
end Go.Proofs.YtegaedfdddapnaaGreat

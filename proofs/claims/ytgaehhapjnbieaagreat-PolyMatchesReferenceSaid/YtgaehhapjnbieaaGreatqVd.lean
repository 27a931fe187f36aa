/- An abstract machine: operations upon values, and those that make objects. -/
import Derived.Test.YtgaehhapjnbieaaGreatqDivP
import Derived.Great.BuildSlice
set_option linter.unusedSectionVars false
set_option linter.unusedVariables false
set_option linter.unusedSimpArgs false
set_option maxRecDepth 100000
namespace Go.Proofs.YtgaehhapjnbieaaGreat
open Go.RowKit
section
variable [Dn]
section
variable {ρ : B6} {M A : Nat → Prop} {w : World} {t0 : Nat} {Hr : Nat → Option OB} {H : HP} {ev : Operand → Option AV} {ρv : Operand → Value} {r : AV} {R : List Nat} {U : HP} {op : Op}
def Kt:AV→Option (List AV)
 | .agg l=>some l
 | .any=>none
 | .tup _=>none
 | .val v=>if Mz v then some [.val v] else none
 | .ext n ag c=>some [.ext n ag c]
 | a=>some [a]
theorem ZI{v:Value}(h:Mz v=true):v.cells = #[v]:=by
 unfold Mz at h;split at h <;> first | rfl | cases h
theorem lK{v:Value}(h:v.oneCell'=true):v.cells = #[v]:=by
 cases v <;> first | rfl | cases h
theorem G7{a:AV}{l:List AV}{v:Value}(h:Kt a=some l)(hv:RV ρ M w a v):BC ρ M w l v.cells.toList:=by
  unfold Kt at h
  split at h
  · cases h
    obtain ⟨cs,rfl,hc⟩:=(show Co ρ M w (.agg _) v from hv)
    exact hc
  · cases h
  · cases h
  · split at h
    · rename_i u hf
      cases h
      have hv:v=u:=hv
      subst hv
      rw [ZI hf]
      exact BC.one (by unfold Rp; exact ⟨rfl,hf⟩)
    · cases h
  · rename_i n ag c
    cases h
    cases ag with
    | true =>
      obtain ⟨cs,rfl,hr⟩:=(show Co ρ M w (.ext n true c) v from hv)
      exact BC.one hr
    | false =>
      have hr:Rp ρ M w (.ext n false c) [v]:=hv
      have hr2:=hr
      unfold Rp at hr2
      rw [lK ((Dn.X c).one _ _ _ hr2.2 v (by simp))]
      exact BC.one hr
  · rename_i n1 n2 n3 n4 n5
    cases h
    have key:∀ cs:Array Value,v = .agg cs→Rp ρ M w a cs.toList→BC ρ M w [a] v.cells.toList:=λcs e hr=>by subst e; exact BC.one hr
    have one:Rp ρ M w a [v]→(∀ cs,v ≠ .agg cs)→BC ρ M w [a] v.cells.toList:=λhr hne=>by
      have:v.cells = #[v]:=by
        cases v <;> first | rfl | exact absurd rfl (hne _)
      rw [this]
      exact BC.one hr
    cases a <;> first
      | (exact absurd rfl (n1 _); done)
      | (exact absurd rfl n2; done)
      | (exact absurd rfl (n3 _); done)
      | (exact absurd rfl (n4 _); done)
      | (exact absurd rfl (n5 _ _ _); done)
      | (obtain ⟨cs,e,hr⟩:=hv; exact key cs e hr)
      | (refine one hv ?_
         have hv:=hv
         unfold RV Co at hv
         simp only [] at hv
         unfold Rp at hv
         first
           | (obtain ⟨_,_,e,_⟩:=hv; intro cs h; rw [h] at e; cases (List.cons.inj e).1)
           | (obtain ⟨_,_,_,e,_⟩:=hv; intro cs h; rw [h] at e; cases (List.cons.inj e).1)
           | (obtain ⟨_,_,_,_,e,_⟩:=hv; intro cs h; rw [h] at e; cases (List.cons.inj e).1)
           | (obtain ⟨_,_,_,e⟩:=hv; intro cs h; rw [h] at e; cases (List.cons.inj e).1))
theorem Vr:∀{vs:List Value},vs.all Mz=true→BC ρ M w (vs.map .val) vs
 | [],_=>by unfold List.map BC; rfl
 | v :: vs,h=>by
  rw [List.all_cons,Bool.and_eq_true] at h;rw [List.map_cons];unfold BC;exact ⟨[v],vs,rfl,by unfold Rp; exact ⟨rfl,h.1⟩,Vr h.2⟩
noncomputable def Ki(T:TypeId):Option (List AV):=match (Tryz.prog.info? T).bind (·.zero) with
 | some z=>if z.cells.toList.all Mz then some (z.cells.toList.map .val) else none
 | none=>none
theorem EA{T:TypeId}{l:List AV}(h:Ki T=some l):∃ i z,Tryz.prog.info? T=some i∧i.zero=some z∧BC ρ M w l z.cells.toList:=by
 unfold Ki at h;split at h
 ·rename_i z hz
  split at h
  ·rename_i hf
   cases h
   obtain ⟨i,hi,hz⟩:=Option.bind_eq_some_iff.1 hz;exact ⟨i,z,hi,hz,Vr hf⟩
  ·cases h
 ·cases h
def Ld(T:TypeId):Bool:=!(Nat.beq T 109) && !(Nat.beq T 5)
theorem C_{T:TypeId}(h:Ld T=true):T≠109∧T≠5:=by
 unfold Ld at h;rw [Bool.and_eq_true] at h;refine ⟨?_,?_⟩
 ·rintro rfl; simp at h
 ·rintro rfl; simp at h
def RP(ev:Operand→Option AV)(x:Operand):Option (AV × List Nat × HP):=(ev x).map λa=>(a,[],[])
theorem dN{x:Operand}(he:op = .move x ∨ op = .assign x)(h:RP ev x=some (r,R,U))(hs:Fr ρ M A w t0 Hr)(hev:∀ x a,ev x=some a→RV ρ M w a (ρv x)):DG op ρv w (Cw ρ M A w t0 Hr U r):=by
 unfold RP at h
 cases ha:ev x with
 | none=>rw [ha] at h; cases h
 | some a =>
  rw [ha] at h
  cases h
  refine BH (v:=ρv x) hs (λo ho=>?_) (hev _ _ ha)
  rcases he with rfl | rfl <;> (unfold execOp; rw [ho]; rfl)
def ZD(ev:Operand→Option AV)(c x y:Operand):Option (AV × List Nat × HP):=do
 match ← ev c with
 | .val (.bool true)=>(ev x).map λa=>(a,[],[])
 | .val (.bool false)=>(ev y).map λa=>(a,[],[])
 | _=>none
theorem Afp{c x y:Operand}(h:ZD ev c x y=some (r,R,U))(hs:Fr ρ M A w t0 Hr)(hev:∀ x a,ev x=some a→RV ρ M w a (ρv x)):DG (.pick c x y) ρv w (Cw ρ M A w t0 Hr U r):=by
 simp only [ZD,Option.bind_eq_bind,Option.bind_eq_some_iff] at h;obtain ⟨b,hb,h⟩:=h;have hvb:=hev _ _ hb;split at h
 ·have hvb:ρv c = .bool true:=hvb
  cases ha:ev x with
  | none=>rw [ha] at h; cases h
  | some a =>
   rw [ha] at h
   cases h
   exact BH (v:=ρv x) hs (λo ho=>Jg (b:=true) hvb ho) (hev _ _ ha)
 ·have hvb:ρv c = .bool false:=hvb
  cases ha:ev y with
  | none=>rw [ha] at h; cases h
  | some a =>
   rw [ha] at h
   cases h
   exact BH (v:=ρv y) hs (λo ho=>Jg (b:=false) hvb ho) (hev _ _ ha)
 ·cases h
def yK(ev:Operand→Option AV)(x:Operand)(k:Nat):Option (AV × List Nat × HP):=do
 match ← ev x with
 | .tup l=>(l[k]?).map λa=>(a,[],[])
 | _=>none
theorem Cz.get:∀{l:List AV}{vs:List Value}{k:Nat}{a:AV},Cz ρ M w l vs→l[k]? = some a→∃ v,vs[k]? = some v∧Co ρ M w a v
 | [],_,_,_,_,h=>by simp at h
 | b :: l,vs,k,a,hr,h=>by
  obtain ⟨v,r,rfl,h1,h2⟩:=hr
  cases k with
  | zero=>simp at h; subst h; exact ⟨v,rfl,h1⟩
  | succ k=>simpa using Cz.get h2 (by simpa using h)
theorem Ai1{x:Operand}{k:Nat}(h:yK ev x k=some (r,R,U))(hs:Fr ρ M A w t0 Hr)(hev:∀ x a,ev x=some a→RV ρ M w a (ρv x)):DG (.extract x k) ρv w (Cw ρ M A w t0 Hr U r):=by
 simp only [yK,Option.bind_eq_bind,Option.bind_eq_some_iff] at h;obtain ⟨b,hb,h⟩:=h;have hvb:=hev _ _ hb;split at h
 ·rename_i l
  cases hl:l[k]? with
  | none=>rw [hl] at h; cases h
  | some a =>
   rw [hl] at h
   cases h
   obtain ⟨vs,e,hvs⟩:=hvb;obtain ⟨v,hv,hr⟩:=hvs.get hl;refine BH (v:=v) hs (λo ho=>?_) hr.rv;unfold execOp;rw [ho];have hv':vs[k]? = some v:=by simpa using hv
   simp [go_sem,e,hv']
 ·cases h
def zR(ev:Operand→Option AV)(x:Operand):Option (AV × List Nat × HP):=do
 match ← ev x with
 | .ptr o off=>some (.ptr o off,[],[])
 | .rptr l=>some (.rptr l,[],[])
 | _=>none
theorem AkP{x:Operand}(h:zR ev x=some (r,R,U))(hs:Fr ρ M A w t0 Hr)(hev:∀ x a,ev x=some a→RV ρ M w a (ρv x)):DG (.nilCheck x) ρv w (Cw ρ M A w t0 Hr U r):=by
 simp only [zR,Option.bind_eq_bind,Option.bind_eq_some_iff] at h;obtain ⟨b,hb,h⟩:=h;have hvb:=hev _ _ hb;have go:∀ g off,ρv x = .pointer (some ⟨g,off,none⟩)→∀ o:Oper,o.op = .nilCheck x→(execOp ρv o).run Tryz.prog w = .ok (.value (ρv x)) w:=λg off e o ho=>by
  unfold execOp;rw [ho];simp only [e];rfl
 split at h
 ·cases h
  have hv:Rp ρ M w _ [ρv x]:=hvb;have hv2:=hv;unfold Rp at hv2;obtain ⟨g,c,_,e2⟩:=hv2;exact BH hs (go g _ (List.cons.inj e2).1) hvb
 ·cases h
  have hv:Rp ρ M w _ [ρv x]:=hvb;have hv2:=hv;unfold Rp at hv2;obtain ⟨g,off,_,e2,_⟩:=hv2;exact BH hs (go g _ (List.cons.inj e2).1) hvb
 ·cases h
def Abm(op:BinOp)(k:IntKind)(a b:Int):Option Value:=match op with
 | .eql=>some (.bool (a == b))
 | .neq=>some (.bool (a != b))
 | .lss=>some (.bool (decide (a<b)))
 | .leq=>some (.bool (decide (a≤b)))
 | .gtr=>some (.bool (decide (b<a)))
 | .geq=>some (.bool (decide (b≤a)))
 | .add=>some (.int k (k.wrap (a+b)))
 | .sub=>some (.int k (k.wrap (a - b)))
 | .mul=>some (.int k (k.wrap (a*b)))
 | .rem=>if b == 0 then none else some (.int k (a.tmod b))
 | _=>none
noncomputable def Aej(o:BinOp)(k:IntKind)(T:TypeId)(p q:Int):Option Value:=match o,k with
 | .and,.i64=>if Nat.beq T 3 then some (.int .i64 (bits .and .i64 p q)) else none
 | .shr,.i64=>if Nat.beq T 3 && decide (0≤q) && decide (q<64) then some (.int .i64 (p / 2 ^ q.toNat)) else none
 | _,_=>none
def AlJ:AV→Option Bool
 | .val (.slice none _ _)=>some true
 | .val (.slice (some _) _ _)=>some false
 | .sl _ _ _ _=>some false
 | .slx _ _=>some false
 | .rats (_ :: _)=>some false
 | .row (_+1) _=>some false
 | _=>none
theorem Pb{a:AV}{b:Bool}{v:Value}(h:AlJ a=some b)(hv:RV ρ M w a v):∃ A n c,v = .slice A n c∧A.isNone=b:=by
 unfold AlJ at h;split at h
 ·cases h; exact ⟨none,_,_,hv,rfl⟩
 ·cases h; exact ⟨some _,_,_,hv,rfl⟩
 ·cases h
  have hv:Rp ρ M w (.sl _ _ _ _) [v]:=hv;unfold Rp at hv;obtain ⟨g,c,k,_,e,_⟩:=hv;exact ⟨_,_,_,(List.cons.inj e).1,rfl⟩
 ·cases h
  have hv:Rp ρ M w (.slx _ _) [v]:=hv;unfold Rp at hv;obtain ⟨g,c,k,_,e,_⟩:=hv;exact ⟨_,_,_,(List.cons.inj e).1,rfl⟩
 ·rename_i q l
  cases h
  have hv:Rp ρ M w (.rats (q :: l)) [v]:=hv;unfold Rp at hv;obtain ⟨A,c,e,_,hr⟩:=hv;obtain ⟨g,off,xs,e1,_⟩:=hr (by simp);exact ⟨A,_,_,(List.cons.inj e).1,by rw [e1]; rfl⟩
 ·rename_i n l
  cases h
  have hv:Rp ρ M w (.row (n+1) l) [v]:=hv;unfold Rp at hv;obtain ⟨A,c,e,_,hr⟩:=hv;obtain ⟨g,off,xs,e1,_⟩:=hr (by simp);exact ⟨A,_,_,(List.cons.inj e).1,by rw [e1]; rfl⟩
 ·cases h
noncomputable def AaG(o:BinOp)(T:TypeId)(a:AV):Option (AV × List Nat × HP):=match SR T,AlJ a,o with
 | some (.slice _),some b,.eql=>some (.val (.bool b),[],[])
 | some (.slice _),some b,.neq=>some (.val (.bool (!b)),[],[])
 | _,_,_=>none
theorem IX{T e:TypeId}{A:Option Addr}{n c n' c':Nat}(hd:Tryz.prog.underlying T=some (.slice e)):(Op.equal T (.slice A n c) (.slice none n' c')).run Tryz.prog w = .ok A.isNone w:=by
 unfold Op.equal;rw [show Op.maxDepth=9999+1 from rfl];unfold Op.equalIn
 cases A <;> simp [Sem.run_bind,run_underlying hd]
noncomputable def qT(ev:Operand→Option AV)(o:BinOp)(T:TypeId)(x y:Operand)(T2:TypeId):Option (AV × List Nat × HP):=match ev x,ev y with
 | some (.val (.int k p)),some (.val (.int k' q))=>if k=k' then (match Abm o k p q with
   | some v=>some (.val v,[],[])
   | none=>(Aej o k T p q).map λv=>(.val v,[],[])) else none
 | some (.val (.bool p)),some (.val (.bool q))=>if Nat.beq T 4 && Nat.beq T2 4 then (match o with
   | .eql=>some (.val (.bool (p == q)),[],[])
   | .neq=>some (.val (.bool (p != q)),[],[])
   | _=>none) else none
 | some a,some (.val (.slice none _ _))=>AaG o T a
 | _,_=>none
theorem DF{v:Value}(hs:Fr ρ M A w t0 Hr)(h:∃ v' w',(∀ o:Oper,o.op=op→(execOp ρv o).run Tryz.prog w = .ok (.value v') w')∧w'=w∧v'=v):DG op ρv w (Cw ρ M A w t0 Hr [] (.val v)):=by
 obtain ⟨v',w',hr,rfl,rfl⟩:=h;exact BH hs hr rfl
theorem Pj{o:BinOp}{k:IntKind}{p q:Int}{v:Value}{T T2:TypeId}{x y:Operand}(h:Abm o k p q=some v)(hx:ρv x = .int k p)(hy:ρv y = .int k q):∃ v' w',(∀ z:Oper,z.op = .binOp o T x y T2→(execOp ρv z).run Tryz.prog w = .ok (.value v') w')∧w'=w∧v'=v:=by
  cases o <;> simp only [Abm] at h <;> first
    | (cases h; done)
    | (cases h
       refine ⟨_,w,λz hz=>?_,rfl,rfl⟩
       unfold execOp
       rw [hz]
       simp [go_sem,hx,hy]
       done)
    | (split at h
       · cases h
       · rename_i hb
         cases h
         have hb:q≠0:=by simpa using hb
         refine ⟨_,w,λz hz=>?_,rfl,rfl⟩
         unfold execOp
         rw [hz]
         simp [go_sem,hx,hy,hb])
theorem uX{o:BinOp}{k:IntKind}{p q:Int}{v:Value}{T T2:TypeId}{x y:Operand}(h:Aej o k T p q=some v)(hx:ρv x = .int k p)(hy:ρv y = .int k q):∃ v' w',(∀ z:Oper,z.op = .binOp o T x y T2→(execOp ρv z).run Tryz.prog w = .ok (.value v') w')∧w'=w∧v'=v:=by
 unfold Aej at h;split at h
 ·split at h
  ·rename_i hT
   cases h
   have hT:=Nat.eq_of_beq_eq_true hT;subst hT;refine ⟨_,w,λz hz=>?_,rfl,rfl⟩;unfold execOp;rw [hz];simp [go_sem,hx,hy]
  ·cases h
 ·split at h
  ·rename_i hT
   cases h
   rw [Bool.and_eq_true,Bool.and_eq_true] at hT;have hT1:=Nat.eq_of_beq_eq_true hT.1.1;have h0:=of_decide_eq_true hT.1.2;have h1:=of_decide_eq_true hT.2;subst hT1;refine ⟨_,w,λz hz=>?_,rfl,rfl⟩;unfold execOp;rw [hz];simp [go_sem,hx,hy,h0,h1]
  ·cases h
 ·cases h
theorem Alf{o:BinOp}{T T2:TypeId}{x y:Operand}(h:qT ev o T x y T2=some (r,R,U))(hs:Fr ρ M A w t0 Hr)(hev:∀ x a,ev x=some a→RV ρ M w a (ρv x)):DG (.binOp o T x y T2) ρv w (Cw ρ M A w t0 Hr U r):=by
 unfold qT at h;split at h
 ·rename_i k p k' q ha hb
  have hva:ρv x = .int k p:=hev _ _ ha;have hvb:ρv y = .int k' q:=hev _ _ hb;split at h
  ·rename_i hk
   subst hk;split at h
   ·rename_i v hv
    cases h
    exact DF hs (Pj hv hva hvb)
   ·cases hv:Aej o k T p q with
    | none=>rw [hv] at h; cases h
    | some v =>
     rw [hv] at h
     cases h
     exact DF hs (uX hv hva hvb)
  ·cases h
 ·rename_i p q ha hb
  have hva:ρv x = .bool p:=hev _ _ ha;have hvb:ρv y = .bool q:=hev _ _ hb;split at h
  ·rename_i hT
   rw [Bool.and_eq_true] at hT;have hT1:=Nat.eq_of_beq_eq_true hT.1;have hT2:=Nat.eq_of_beq_eq_true hT.2;subst hT1;subst hT2;split at h
   ·cases h
    refine DF hs ⟨_,w,λz hz=>?_,rfl,rfl⟩;unfold execOp;rw [hz];simp [go_sem,hva,hvb]
   ·cases h
    refine DF hs ⟨_,w,λz hz=>?_,rfl,rfl⟩;unfold execOp;rw [hz]
    cases p <;> cases q <;> simp [go_sem,hva,hvb]
   ·cases h
  ·cases h
 ·rename_i a n c ha hb
  have hvb:ρv y = .slice none n c:=hev _ _ hb;unfold AaG at h;split at h
  ·rename_i e b hd hn
   have hd:Tryz.prog.underlying T=some (.slice e):=hd;obtain ⟨A',n',c',e1,e2⟩:=Pb hn (hev _ _ ha)
   cases h
   refine DF hs ⟨_,w,λz hz=>?_,rfl,rfl⟩;unfold execOp;rw [hz];simp [eqGuard,binOp,e1,hvb,IX hd,e2]
  ·rename_i e b hd hn
   have hd:Tryz.prog.underlying T=some (.slice e):=hd;obtain ⟨A',n',c',e1,e2⟩:=Pb hn (hev _ _ ha)
   cases h
   refine DF hs ⟨_,w,λz hz=>?_,rfl,rfl⟩;unfold execOp;rw [hz];simp [eqGuard,binOp,e1,hvb,IX hd,e2]
  ·cases h
 ·cases h
def Ajk(ev:Operand→Option AV)(o:UnOp)(x:Operand):Option (AV × List Nat × HP):=do
 match o,← ev x with
 | .not,.val (.bool b)=>some (.val (.bool (!b)),[],[])
 | .neg,.val (.int k a)=>some (.val (.int k (k.wrap (-a))),[],[])
 | _,_=>none
theorem AoG{o:UnOp}{T:TypeId}{x:Operand}(h:Ajk ev o x=some (r,R,U))(hs:Fr ρ M A w t0 Hr)(hev:∀ x a,ev x=some a→RV ρ M w a (ρv x)):DG (.unOp o T x) ρv w (Cw ρ M A w t0 Hr U r):=by
 simp only [Ajk,Option.bind_eq_bind,Option.bind_eq_some_iff] at h;obtain ⟨a,ha,h⟩:=h;have hva:=hev _ _ ha;split at h
 ·cases h
  have hva:ρv x = .bool _:=hva;refine DF hs ⟨_,w,λz hz=>?_,rfl,rfl⟩;unfold execOp;rw [hz];simp [go_sem,hva]
 ·cases h
  have hva:ρv x = .int _ _:=hva;refine DF hs ⟨_,w,λz hz=>?_,rfl,rfl⟩;unfold execOp;rw [hz];simp [go_sem,hva]
 ·cases h
noncomputable def XQ(ev:Operand→Option AV)(S D:TypeId)(x:Operand):Option (AV × List Nat × HP):=do
 let a ← ev x
 match a,SR S,SR D with
 | .val (.int k p),some (.int k'),some (.int k2)=>if k=k' then some (.val (.int k2 (k2.wrap p)),[],[]) else none
 | _,_,_=>none
def OC:AV→Bool
 | .ptr _ _ | .rptr _ | .sl _ _ _ _ | .rats _ | .row _ _ | .fn _ _ _ | .slx _ _ | .epx _ _=>true
 | .ext n ag _=>Nat.beq n 1 && !ag
 | .val v=>Mz v
 | _=>false
def evs(ev:Operand→Option AV):List Operand→Option (List AV)
 | []=>some []
 | x :: r=>match ev x,evs ev r with
  | some a,some l=>some (a :: l)
  | _,_=>none
theorem nB{a:AV}{v:Value}(h:OC a=true)(hv:RV ρ M w a v):Rp ρ M w a [v]:=by
  cases a <;> first
    | (cases h; done)
    | exact hv
    | (have hv:v=_:=hv
       unfold Rp
       rw [hv]
       exact ⟨rfl,h⟩)
    | (rename_i n ag c
       unfold OC at h
       rw [Bool.and_eq_true,Bool.not_eq_true'] at h
       have:=h.2
       subst this
       exact hv)
theorem OM(hev:∀ x a,ev x=some a→RV ρ M w a (ρv x)):∀{xs:List Operand}{l:List AV},evs ev xs=some l→l.all OC=true→BC ρ M w l (xs.map ρv)
 | [],l,h,_=>by cases h; unfold BC; rfl
 | x :: xs,l,h,hsc=>by
  unfold evs at h;split at h
  ·rename_i a r h1 h2
   cases h
   rw [List.all_cons,Bool.and_eq_true] at hsc;unfold BC;exact ⟨[ρv x],xs.map ρv,rfl,nB hsc.1 (hev _ _ h1),OM hev h2 hsc.2⟩
  ·cases h
def AiX(ev:Operand→Option AV)(f:Fn)(xs ys:List Operand):Option (AV × List Nat × HP):=match f,evs ev xs,evs ev ys with
 | .func f,some a,some b=>if a.all OC && b.all OC then some (.fn f a b,[],[]) else none
 | _,_,_=>none
theorem AoM{f:Fn}{xs ys:Array Operand}(h:AiX ev f xs.toList ys.toList=some (r,R,U))(hs:Fr ρ M A w t0 Hr)(hev:∀ x a,ev x=some a→RV ρ M w a (ρv x)):DG (.makeFunc f xs ys) ρv w (Cw ρ M A w t0 Hr U r):=by
 unfold AiX at h;split at h
 ·rename_i f a b ha hb
  split at h
  ·rename_i hc
   cases h
   rw [Bool.and_eq_true] at hc;refine BH (v:=.func (.func f) (xs.map ρv) (ys.map ρv)) hs (λo ho=>by unfold execOp; rw [ho]; rfl) ?_;show Rp ρ M w (.fn f a b) [_];unfold Rp;exact ⟨_,_,rfl,by simpa using OM hev ha hc.1,by simpa using OM hev hb hc.2⟩
  ·cases h
 ·cases h
theorem X8{T:TypeId}{z off:Nat}{l l1 l2:List AV}{cs:Array Value}(hz:D0 T=some z)(h1:El off l=some l1)(h2:Fl z l1=some l2)(hm:mkT T l2=some r)(hl:BC ρ M w l cs.toList) :
  ∃ v,(part T cs off).run Tryz.prog w = .ok v w∧Co ρ M w r v:=by
 obtain ⟨d1,e1⟩:=BC.drop h1 hl;obtain ⟨d2,e2⟩:=BC.take h2 e1;have hex:(cs.extract off (off+z)).toList=(cs.toList.drop off).take z:=by
  rw [Array.toList_extract,List.extract_eq_take_drop,Nat.add_sub_cancel_left]
 unfold mkT at hm;split at hm
 ·cases hm
 ·rename_i d hd
  have hd:Tryz.prog.underlying T=some d:=hd;split at hm
  ·rename_i hrow
   cases hm
   have hagg:(isAgg T).run Tryz.prog w = .ok true w:=by
    unfold isAgg;rw [Sem.run_bind,run_underlying hd w]
    cases d <;> simp_all
   refine ⟨.agg (cs.extract off (off+z)),?_,?_⟩
   ·unfold D0 at hz
    cases hi:Tryz.prog.info? T with
    | none=>rw [hi] at hz; cases hz
    | some i =>
     rw [hi] at hz;have hz:i.size=z:=by simpa using hz
     simp [part,hagg,sizeOf,typeInfo,hi,hz]
   ·have:=In e2
    rw [← hex,Array.toArray_toList] at this;exact this
  ·rename_i hrow
   obtain ⟨v,e,hv⟩:=PV hm e2;have hagg:(isAgg T).run Tryz.prog w = .ok false w:=by
    unfold isAgg;rw [Sem.run_bind,run_underlying hd w]
    cases d <;> simp_all
   have hc:cs[off]? = some v:=by
    have:((cs.toList.drop off).take z)[0]? = some v:=by rw [e]; rfl
    rw [List.getElem?_take] at this;split at this
    ·rw [List.getElem?_drop] at this
     simpa using this
    ·cases this
   exact ⟨v,by simp [part,hagg,hc],hv⟩
def Ak4:AV→Option (List AV)
 | .agg l=>some l
 | .rat q=>some [.rat q]
 | .num z=>some [.num z]
 | _=>none
theorem ZW{a:AV}{l:List AV}{v:Value}(h:Ak4 a=some l)(hv:RV ρ M w a v):∃ cs,v = .agg cs∧BC ρ M w l cs.toList:=by
 unfold Ak4 at h;split at h
 ·cases h; exact hv
 ·cases h
  obtain ⟨cs,e,hc⟩:=hv;exact ⟨cs,e,BC.one hc⟩
 ·cases h
  obtain ⟨cs,e,hc⟩:=hv;exact ⟨cs,e,BC.one hc⟩
 ·cases h
noncomputable def OT(ev:Operand→Option AV)(S:TypeId)(x:Operand)(k:Nat):Option (AV × List Nat × HP):=do
 let a ← ev x
 let l ← Ak4 a
 let d ← SR S
 let f ← (match d with | .struct fs=>fs[k]? | _=>none)
 let z ← D0 f.type
 let l1 ← El f.offset l
 let l2 ← Fl z l1
 let r ← mkT f.type l2
 pure (r,[],[])
theorem nW{S:TypeId}{x:Operand}{k:Nat}(h:OT ev S x k=some (r,R,U))(hs:Fr ρ M A w t0 Hr)(hev:∀ x a,ev x=some a→RV ρ M w a (ρv x)):DG (.field S x k) ρv w (Cw ρ M A w t0 Hr U r):=by
 simp only [OT,Option.bind_eq_bind,Option.bind_eq_some_iff,Option.pure_def,Option.some.injEq,Prod.mk.injEq] at h;obtain ⟨a,ha,l,hl,d,hd,f,hf,z,hz,l1,h1,l2,h2,r',hm,rfl,rfl,rfl⟩:=h;have hva:=hev _ _ ha;have hx:=ZW hl hva;obtain ⟨cs,e,hc⟩:=hx;have hf':∃ fs,d = .struct fs∧fs[k]? = some f:=by
  cases d <;> first | (cases hf; done) | exact ⟨_,rfl,hf⟩
 obtain ⟨fs,rfl,hf⟩:=hf';have hd:Tryz.prog.underlying S=some (.struct fs):=hd;obtain ⟨v,hrun,hv⟩:=X8 hz h1 h2 hm hc;refine BH (v:=v) hs (λo ho=>?_) hv.rv;unfold execOp;rw [ho];show Sem.run _ (Instr.field S (ρv x) k >>= λx=>pure (Next.value x)) w=_;rw [e];refine DC ?_;simp [Instr.field,Sem.run_bind,run_underlying hd,hf,asAgg,hrun]
end
end
section
variable [Dn]
theorem Ry:∀(xs:List Value)(k off:Nat)(cells:Array Value),off+k+xs.length≤cells.size→(xs.zipIdx k).foldl (λcs x=>cs.setIfInBounds (off+x.2) x.1) cells=(cells.toList.take (off+k) ++ xs ++ cells.toList.drop (off+k+xs.length)).toArray
 | [],k,off,cells,_=>by simp
 | v :: rest,k,off,cells,h=>by
  rw [List.zipIdx_cons,List.foldl_cons,Ry rest (k+1) off _ (by simp at h ⊢; omega)];have e:=list_seg_step cells.toList (off+k) v rest (by simp at h ⊢; omega)
  congr 1
  simpa [Array.toList_setIfInBounds,Nat.add_assoc] using e
def Jq{α:Type}(n:Nat)(l:List α):List α:=match n with
 | 0=>[]
 | n+1=>l ++ Jq n l
theorem Oa{α:Type}(l:List α):∀ n,Jq (n+1) l=Jq n l ++ l
 | 0=>by simp [Jq]
 | n+1=>by
  show l ++ Jq (n+1) l=(l ++ Jq n l) ++ l;rw [Oa l n,List.append_assoc]
theorem Jc(z:Array Value):∀ n,(madeCells z (n*z.size)).toList=Jq n z.toList
 | 0=>by simp [madeCells,Jq]
 | n+1=>by
  rw [Oa,← Jc z n];simp only [madeCells,Array.toList_map,Array.toList_range];rw [Nat.add_mul,Nat.one_mul,List.range_add,List.map_append,List.map_map]
  congr 1
  apply List.ext_getElem?;intro j;rw [List.getElem?_map]
  by_cases hj:j<z.size
  ·have h1:(n*z.size+j) % z.size=j:=by rw [Nat.mul_comm,Nat.mul_add_mod,Nat.mod_eq_of_lt hj]
   simp [List.getElem?_range,hj,h1]
  ·simp [List.getElem?_range,hj]
section
variable {ρ : B6} {M A : Nat → Prop} {w : World} {t0 : Nat} {Hr : Nat → Option OB} {H : HP} {ev : Operand → Option AV} {ρv : Operand → Value} {r : AV} {R : List Nat} {U : HP} {op : Op}
theorem TT{l:List AV}{cs:List Value}(h:BC ρ M w l cs):∀ n,BC ρ M w (Jq n l) (Jq n cs)
 | 0=>by unfold Jq BC; rfl
 | n+1=>h.app (TT h n)
theorem BC.setAt{l l1 l2 xs:List AV}{off n:Nat}{cs ys:List Value}(h:BC ρ M w l cs)(h1:Fl off l=some l1)(h2:El (off+n) l=some l2)(hx:BC ρ M w xs ys)(hn:szs xs=n):off+ys.length≤cs.length∧ys.length=n∧BC ρ M w (l1 ++ xs ++ l2) (cs.take off ++ ys ++ cs.drop (off+ys.length)):=by
 have hl:ys.length=n:=hx.len.trans hn;obtain ⟨_,k1⟩:=BC.take h1 h;obtain ⟨b2,k2⟩:=BC.drop h2 h;exact ⟨by omega,hl,by rw [hl]; exact (k1.app hx).app k2⟩
def Rx(pl:Nat→Option (Nat × Nat)):List (Nat × AV)→List AV→Option (List AV)
 | [],l=>some l
 | (i,a) :: r,l=>match pl i,Kt a with
  | some (off,z),some xs=>if Nat.beq (szs xs) z then (match Fl off l,El (off+z) l with
   | some l1,some l2=>Rx pl r (l1 ++ xs ++ l2)
   | _,_=>none) else none
  | _,_=>none
def RVp(ρ:B6)(M:Nat→Prop)(w:World):List (Nat × AV)→List (Nat × Value)→Prop
 | [],vs=>vs=[]
 | x :: l,vs=>∃ v r,vs=(x.1,v) :: r∧RV ρ M w x.2 v∧RVp ρ M w l r
theorem JV{pl:Nat→Option (Nat × Nat)}:∀{ps:List (Nat × AV)}{vs:List (Nat × Value)}{l l':List AV}{cells:Array Value},Rx pl ps l=some l'→RVp ρ M w ps vs→BC ρ M w l cells.toList→∃ cells',Instr.fill pl cells vs=some cells'∧BC ρ M w l' cells'.toList
 | [],vs,l,l',cells,h,hv,hl=>by
  cases h
  have hv:vs=[]:=hv;subst hv;exact ⟨cells,rfl,hl⟩
 | (i,a) :: ps,vs,l,l',cells,h,hv,hl=>by
  obtain ⟨v,vr,rfl,hv1,hv2⟩:=hv;unfold Rx at h;split at h
  ·rename_i off z xs hp hx
   split at h
   ·rename_i hz
    split at h
    ·rename_i l1 l2 h1 h2
     have hxs:=G7 hx hv1;obtain ⟨b1,b2,k⟩:=hl.setAt h1 h2 hxs (Nat.eq_of_beq_eq_true hz);have b1:off+v.cells.size≤cells.size:=by simpa using b1
     have b2:v.cells.size=z:=by simpa using b2
     have hf:v.cells.zipIdx.foldl (λcs x=>cs.setIfInBounds (off+x.2) x.1) cells=(cells.toList.take off ++ v.cells.toList ++ cells.toList.drop (off+v.cells.toList.length)).toArray:=by
      rw [← Array.foldl_toList,Array.toList_zipIdx];have:=Ry v.cells.toList 0 off cells (by simpa using b1);simpa using this
     obtain ⟨cells',e,k'⟩:=JV (cells:=(cells.toList.take off ++ v.cells.toList ++ cells.toList.drop (off+v.cells.toList.length)).toArray) h hv2 (by simpa using k);refine ⟨cells',?_,k'⟩;unfold Instr.fill;simp only [hp];rw [if_neg (by simp [b2]; omega)];rw [← hf] at e;exact e
    ·cases h
   ·cases h
  ·cases h
def evp(ev:Operand→Option AV):List (Nat × Operand)→Option (List (Nat × AV))
 | []=>some []
 | x :: r=>match ev x.2,evp ev r with
  | some a,some l=>some ((x.1,a) :: l)
  | _,_=>none
theorem L7(hev:∀ x a,ev x=some a→RV ρ M w a (ρv x)):∀{xs:List (Nat × Operand)}{l:List (Nat × AV)},evp ev xs=some l→RVp ρ M w l (xs.map λx=>(x.1,ρv x.2))
 | [],l,h=>by cases h; exact rfl
 | x :: xs,l,h=>by
  unfold evp at h;split at h
  ·rename_i a r h1 h2
   cases h
   exact ⟨ρv x.2,_,rfl,hev _ _ h1,L7 hev h2⟩
  ·cases h
noncomputable def Ah7(T:TypeId):Option (Nat→Option (Nat × Nat)):=match SR T with
 | some (.array _ e)=>(Tryz.prog.info? e).map λie=>λi=>some (i*ie.size,ie.size)
 | some (.struct fs)=>(fs.toList.mapM (λf=>(Tryz.prog.info? f.type).map λi=>(f.offset,i.size))).map λplaces=>λi=>places.toArray[i]?
 | _=>none
noncomputable def RY(ev:Operand→Option AV)(T:TypeId)(ps:List (Nat × Operand)):Option (AV × List Nat × HP):=do
 let l ← evp ev ps
 let z ← Ki T
 let pl ← Ah7 T
 let l' ← Rx pl l z
 pure (iO l',[],[])
theorem zB{T:TypeId}{ps:Array (Nat × Operand)}(h:RY ev T ps.toList=some (r,R,U))(hs:Fr ρ M A w t0 Hr)(hev:∀ x a,ev x=some a→RV ρ M w a (ρv x)):DG (.build T ps) ρv w (Cw ρ M A w t0 Hr U r):=by
 simp only [RY,Option.bind_eq_bind,Option.bind_eq_some_iff,Option.pure_def,Option.some.injEq,Prod.mk.injEq] at h;obtain ⟨l,hl,z,hz,pl,hp,l',hf,rfl,rfl,rfl⟩:=h;obtain ⟨i,zv,hi,hzv,hr⟩:=EA (ρ:=ρ) (M:=M) (w:=w) hz;obtain ⟨cells',hc,hk⟩:=JV hf (L7 hev hl) hr;have hb:Tryz.prog.built T (ps.toList.map λx=>(x.1,ρv x.2))=some cells':=by
  unfold Program.built;unfold Ah7 SR at hp;split at hp
  ·rename_i n e hd
   simp only [hi,hd,hzv]
   cases hie:Tryz.prog.info? e with
   | none=>rw [hie] at hp; cases hp
   | some ie=>rw [hie] at hp; cases hp; exact hc
  ·rename_i fs hd
   simp only [hi,hd,hzv]
   cases hm:fs.toList.mapM (λf=>(Tryz.prog.info? f.type).map λi=>(f.offset,i.size)) with
   | none=>rw [hm] at hp; cases hp
   | some places=>rw [hm] at hp; cases hp; exact hc
  ·cases hp
 have hkk:=In hk;rw [Array.toArray_toList] at hkk;refine BH (v:=.agg cells') hs (λo ho=>?_) hkk.rv;unfold execOp;rw [ho];show Sem.run _ (Instr.build T (ps.map λx=>(x.1,ρv x.2)) >>= λx=>pure (Next.value x)) w=_;exact DC (run_build w T _ cells' (by rw [Array.toList_map]; exact hb))
noncomputable def Uz(t0:Nat)(T:TypeId):Option (AV × List Nat × HP):=match Ki T with
 | some l=>if Ld T then some (.ptr t0 0,[],[(t0,some ⟨T,1,l,false,none⟩)]) else none
 | none=>none
theorem tX{ρ':B6}{M':Nat→Prop}{w':World}{g c o:Nat}(h:ρ' o=some (g,c)):RV ρ' M' w' (.ptr o 0) (.pointer (some ⟨g,0,none⟩)):=by
 show Rp ρ' M' w' (.ptr o 0) [_];unfold Rp;exact ⟨g,c,h,rfl⟩
theorem rC{T:TypeId}(h:Uz t0 T=some (r,R,U))(hs:Fr ρ M A w t0 Hr):DG (.alloc T) ρv w (Cw ρ M A w t0 Hr U r):=by
 unfold Uz at h;split at h
 ·rename_i l hl
  split at h
  ·rename_i hT
   cases h
   obtain ⟨i,z,hi,hz,hr⟩:=EA (ρ:=ρ) (M:=M) (w:=w) hl;refine K6 0 hs (C_ hT) hr (v:=.pointer (some ⟨w.heap.size,0,none⟩)) (λo ho=>?_) λρ' M' w' e=>tX e
   unfold execOp;rw [ho];simp [Instr.alloc,zeroValue,typeInfo,hi,hz,newVar,newRow]
  ·cases h
 ·cases h
noncomputable def yC(ev:Operand→Option AV)(t0:Nat)(T:TypeId)(x:Operand):Option (AV × List Nat × HP):=match ev x with
 | some a=>match Kt a with
  | some l=>if Ld T then some (.ptr t0 0,[],[(t0,some ⟨T,1,l,false,none⟩)]) else none
  | none=>none
 | none=>none
theorem Aj6{T:TypeId}{x:Operand}(h:yC ev t0 T x=some (r,R,U))(hs:Fr ρ M A w t0 Hr)(hev:∀ x a,ev x=some a→RV ρ M w a (ρv x)):DG (.box T x) ρv w (Cw ρ M A w t0 Hr U r):=by
 unfold yC at h;split at h
 ·rename_i a ha
  split at h
  ·rename_i l hl
   split at h
   ·rename_i hT
    cases h
    refine K6 0 hs (C_ hT) (G7 hl (hev _ _ ha)) (v:=.pointer (some ⟨w.heap.size,0,none⟩)) (λo ho=>?_) λρ' M' w' e=>tX e
    unfold execOp;rw [ho];simp [Instr.box,newVar,newRow]
   ·cases h
  ·cases h
 ·cases h
theorem Ah6{ρ':B6}{M':Nat→Prop}{w':World}{g c o len k:Nat}(h:ρ' o=some (g,c))(hk:len≤k):RV ρ' M' w' (.sl o 0 len (some k)) (.slice (some ⟨g,0,none⟩) len k):=by
 show Rp ρ' M' w' (.sl o 0 len (some k)) [_];unfold Rp;exact ⟨g,c,k,h,rfl,hk,λn e=>Option.some.inj e,λe=>by cases e⟩
noncomputable def NV(T:TypeId):Option Nat:=(Tryz.prog.info? T).map (·.bytes)
noncomputable def aE(ev:Operand→Option AV)(t0:Nat)(T:TypeId)(x y:Operand):Option (AV × List Nat × HP):=match ev x,ev y,SR T with
 | some (.val (.int _ n)),some (.val (.int _ c)),some (.slice e)=>match Ki e,D0 e,NV e with
  | some z,some k,some b=>if Ld e && decide (0≤n) && decide (n≤c) && decide (c≤1048576) && decide (b≤1048576) && Nat.beq (szs z) k then some (.sl t0 0 n.toNat (some c.toNat),[],[(t0,some ⟨e,k,Jq c.toNat z,false,none⟩)]) else none
  | _,_,_=>none
 | _,_,_=>none
theorem AdO{T:TypeId}{x y:Operand}(h:aE ev t0 T x y=some (r,R,U))(hs:Fr ρ M A w t0 Hr)(hev:∀ x a,ev x=some a→RV ρ M w a (ρv x)):DG (.makeSlice T x y) ρv w (Cw ρ M A w t0 Hr U r):=by
 unfold aE at h;split at h
 ·rename_i k1 n k2 c e hx hy hd
  have hvx:ρv x = .int k1 n:=hev _ _ hx;have hvy:ρv y = .int k2 c:=hev _ _ hy;have hd:Tryz.prog.underlying T=some (.slice e):=hd;split at h
  ·rename_i z k b hz hk hb
   split at h
   ·rename_i hc
    cases h
    simp only [Bool.and_eq_true,decide_eq_true_eq] at hc;obtain ⟨⟨⟨⟨⟨hT,h0⟩,h1⟩,h2⟩,h3⟩,h4⟩:=hc;obtain ⟨i,zv,hi,hzv,hr⟩:=EA (ρ:=ρ) (M:=M) (w:=w) hz;have hk:i.size=k:=by
     unfold D0 at hk;rw [hi] at hk;exact Option.some.inj hk
    have hb:i.bytes=b:=by
     unfold NV at hb;rw [hi] at hb;exact Option.some.inj hb
    have hzk:zv.cells.size=i.size:=by
     have:=hr.len;rw [Nat.eq_of_beq_eq_true h4] at this;rw [hk];simpa using this
    have hbc:(i.bytes:Int)*c≤281474976710656:=by
     have h5:(i.bytes:Int)≤1048576:=by omega
     calc (i.bytes:Int)*c≤1048576*1048576:=Int.mul_le_mul h5 h2 (by omega) (by omega)
      _≤281474976710656:=by decide
    have hrun:=run_make (P:=Tryz.prog) w T e i zv hd hi hzv k1 k2 n c h0 h1 hbc (by omega);refine K6 0 hs (C_ hT) (l:=Jq c.toNat z) (arr:=madeCells zv.cells (c.toNat*i.size)) ?_ (v:=.slice (some ⟨w.heap.size,0,none⟩) n.toNat c.toNat) (λo ho=>?_) λρ' M' w' e=>Ah6 e (by omega)
    ·rw [← hzk,Jc]
     exact TT hr _
    ·unfold execOp
     rw [ho];show Sem.run _ (Instr.makeSlice T (ρv x) (ρv y) >>= λx=>pure (Next.value x)) w=_;rw [hvx,hvy];exact DC hrun
   ·cases h
  ·cases h
 ·cases h
noncomputable def VQ(ev:Operand→Option AV)(t0:Nat)(T:TypeId)(n:Nat)(ps:List (Nat × Operand)):Option (AV × List Nat × HP):=match SR T,evp ev ps with
 | some (.slice e),some l=>match Ki e,D0 e with
  | some z,some k=>if Ld e && Nat.beq (szs z) k && !(Nat.beq k 0) && Nat.ble n 4096 && Nat.ble k 256 then (match n with
   | 0=>match l with
    | []=>some (.sl t0 0 0 (some 0),[],[(t0,some ⟨e,k,[],false,none⟩)])
    | _=>none
   | n+1=>(Rx (λi=>some (i*k,k)) l (Jq (n+1) z)).map λl'=>(.sl t0 0 (n+1) (some (n+1)),[],[(t0,some ⟨e,k,l',false,none⟩)])) else none
  | _,_=>none
 | _,_=>none
theorem dL{T:TypeId}{n:Nat}{ps:Array (Nat × Operand)}(h:VQ ev t0 T n ps.toList=some (r,R,U))(hev:∀ x a,ev x=some a→RV ρ M w a (ρv x)):∃(e:TypeId)(k:Nat)(l':List AV)(arr:Array Value),r = .sl t0 0 n (some n)∧U=[(t0,some ⟨e,k,l',false,none⟩)]∧Ld e=true∧BC ρ M w l' arr.toList ∧
  ∀ o:Oper,o.op = .buildSlice T n ps→(execOp ρv o).run Tryz.prog w = .ok (.value (.slice (some ⟨w.heap.size,0,none⟩) n n)) (w.alloc (.cells arr e)):=by
 unfold VQ at h;split at h
 ·rename_i e l hd hl
  have hd:Tryz.prog.underlying T=some (.slice e):=hd;have hev':=L7 hev hl;split at h
  ·rename_i z k hz hk
   split at h
   ·rename_i hc
    simp only [Bool.and_eq_true,Bool.not_eq_true',Nat.ble_eq] at hc;obtain ⟨⟨⟨⟨hT,h1⟩,h2⟩,h3⟩,h4⟩:=hc;have h1:szs z=k:=by simpa using h1
    have h2:k≠0:=by rintro rfl; simp at h2
    have h3:n≤4096:=h3;have h4:k≤256:=h4;obtain ⟨i,zv,hi,hzv,hr⟩:=EA (ρ:=ρ) (M:=M) (w:=w) hz;have hk:i.size=k:=by
     unfold D0 at hk;rw [hi] at hk;exact Option.some.inj hk
    have hzk:zv.cells.size=i.size:=by
     have:=hr.len;rw [h1] at this;rw [hk];simpa using this
    match n,h3,h with
    | 0,_,h =>
     simp only [] at h;split at h
     ·cases h
      have hps:ps = #[]:=by
       have:(ps.toList.map λx=>(x.1,ρv x.2))=[]:=hev';have:=List.map_eq_nil_iff.1 this;exact Array.toList_eq_nil_iff.1 this
      subst hps;refine ⟨e,k,[],#[],rfl,rfl,hT,(by unfold BC; rfl),λo ho=>?_⟩;unfold execOp;rw [ho];simp [Instr.buildSlice,Sem.run_bind,run_underlying hd,sizeOf,typeInfo,hi,Instr.fill,newRow,Array.range_zero']
     ·cases h
    | n+1,h3,h =>
     simp only [] at h
     cases hf:Rx (λi=>some (i*k,k)) l (Jq (n+1) z) with
     | none=>rw [hf] at h; cases h
     | some l' =>
      rw [hf] at h
      cases h
      have hmk:madeCells zv.cells ((n+1)*i.size)=(Array.range ((n+1)*i.size)).map (zv.cells[· % zv.cells.size]!):=rfl;obtain ⟨cells',hc,hk'⟩:=JV (cells:=madeCells zv.cells ((n+1)*i.size)) hf hev' (by rw [← hzk,Jc]; exact TT hr _);have hle:(n+1)*i.size≤4096*256:=Nat.mul_le_mul h3 (by omega);have hrun:=run_buildSlice (P:=Tryz.prog) w T e (n+1) (ps.map λx=>(x.1,ρv x.2)) cells' i zv hd hi hzv (by omega) (by rw [hk]; exact Nat.mul_ne_zero (by omega) h2) (by rw [Array.toList_map,hk,← hk,← hmk,hk]; exact hk ▸ hc);refine ⟨e,k,l',cells',rfl,rfl,hT,hk',λo ho=>?_⟩;unfold execOp;rw [ho];show Sem.run _ (Instr.buildSlice T (n+1) (ps.map λx=>(x.1,ρv x.2)) >>= λx=>pure (Next.value x)) w=_;exact DC hrun
   ·cases h
  ·cases h
 ·cases h
theorem AlW{T:TypeId}{n:Nat}{ps:Array (Nat × Operand)}(h:VQ ev t0 T n ps.toList=some (r,R,U))(hs:Fr ρ M A w t0 Hr)(hev:∀ x a,ev x=some a→RV ρ M w a (ρv x)):DG (.buildSlice T n ps) ρv w (Cw ρ M A w t0 Hr U r):=by
 obtain ⟨e,k,l',arr,rfl,rfl,hT,hl,hrun⟩:=dL h hev;exact K6 n hs (C_ hT) hl hrun λρ' M' w' e=>Ah6 e (Nat.le_refl _)
theorem Akx:∀{a:AV}{cs:List Value},Rp ρ M w a cs→∀ v∈cs,v.oneCell'=true:=by
  intro a cs h v hv
  have int2:∀{x y:Value}{z:Int},Aw w (.agg #[x,y]) z→x.oneCell'=true∧y.oneCell'=true:=fun {x y z} i=>by
    obtain ⟨s,e,A',c,e2,_⟩:=i
    simp only [Value.agg.injEq] at e
    have e:=congrArg Array.toList e
    simp only [List.cons.injEq] at e
    rw [e.1,e.2.1,e2]
    exact ⟨rfl,rfl⟩
  cases a <;> unfold Rp at h <;> first
    | exact h.elim
    | (obtain ⟨rfl,hf⟩:=h
       rw [List.mem_singleton] at hv
       subst hv
       unfold Mz at hf
       split at hf <;> first | rfl | cases hf)
    | (obtain ⟨x,y,rfl,i⟩:=h
       have:=int2 i
       simp only [List.mem_cons,List.not_mem_nil,or_false] at hv
       rcases hv with rfl | rfl
       · exact this.1
       · exact this.2)
    | (obtain ⟨x,y,x2,y2,rfl,i,j⟩:=h
       have h1:=int2 i
       have h2:=int2 j
       simp only [List.mem_cons,List.not_mem_nil,or_false] at hv
       rcases hv with rfl | rfl | rfl | rfl
       · exact h1.1
       · exact h1.2
       · exact h2.1
       · exact h2.2)
    | exact (Dn.X _).one _ _ _ h.2 v hv
    | (obtain ⟨_,_,rfl,_⟩:=h; rw [List.mem_singleton] at hv; subst hv; rfl)
    | (obtain ⟨_,_,_,rfl,_⟩:=h; rw [List.mem_singleton] at hv; subst hv; rfl)
    | (obtain ⟨_,_,_,_,rfl,_⟩:=h; rw [List.mem_singleton] at hv; subst hv; rfl)
    | (obtain ⟨_,_,_,rfl⟩:=h; rw [List.mem_singleton] at hv; subst hv; rfl)
theorem R7:∀{l:List AV}{cs:List Value},BC ρ M w l cs→∀ v∈cs,v.oneCell'=true
 | [],_,h,v,hv=>by unfold BC at h; subst h; cases hv
 | _ :: _,_,h,v,hv=>by
  unfold BC at h;obtain ⟨x,y,rfl,h1,h2⟩:=h
  rcases List.mem_append.1 hv with hv | hv
  ·exact Akx h1 v hv
  ·exact R7 h2 v hv
noncomputable def Ui(H:HP)(ev:Operand→Option AV)(T:TypeId)(x y:Operand):Option (AV × List Nat × HP):=match ev x,ev y with
 | some (.ptr o off),some a=>match lk H o,D0 T,Kt a with
  | some b,some n,some xs=>if b.bl.isNone && Nat.beq (szs xs) n then (match Fl off b.cs,El (off+n) b.cs with
   | some l1,some l2=>some (.val undef,[o],[(o,some { b with cs:=l1 ++ xs ++ l2 })])
   | _,_=>none) else none
  | _,_,_=>none
 | _,_=>none
theorem rV{T:TypeId}{x y:Operand}(h:Ui H ev T x y=some (r,R,U))(hs:Fr ρ M A w t0 Hr)(hag:∀ o∈R,Hr o=lk H o)(hev:∀ x a,ev x=some a→RV ρ M w a (ρv x)):DG (.store T x y) ρv w (Cw ρ M A w t0 Hr U r):=by
 unfold Ui at h;split at h
 ·rename_i o off a hx hy
  split at h
  ·rename_i b n xs hb hn hxs
   split at h
   ·rename_i hz
    rw [Bool.and_eq_true] at hz;have hbn:b.bl=none:=by simpa using hz.1
    have hz:=hz.2;split at h
    ·rename_i l1 l2 h1 h2
     cases h
     have hbr:Hr o=some b:=(hag o (by simp)).trans hb;obtain ⟨g,c,arr,cs,k⟩:=hs.heap.obj o b hbr;have hv:Rp ρ M w (.ptr o off) [ρv x]:=hev _ _ hx;unfold Rp at hv;obtain ⟨g',c',e1,e2⟩:=hv;rw [k.at_] at e1;simp only [Option.some.injEq,Prod.mk.injEq] at e1;have hpx:ρv x = .pointer (some ⟨g,off,none⟩):=by rw [e1.1]; exact (List.cons.inj e2).1
     have hl:=G7 hxs (hev _ _ hy);obtain ⟨b1,b2,kk⟩:=(k.cells.rps hbn).setAt h1 h2 hl (Nat.eq_of_beq_eq_true hz);obtain ⟨tl,he,ht⟩:=k.pre;have hsz:arr.size=cs.length+tl.length:=by rw [← List.length_append,← he]; simp
     have hrun:(Instr.storeAt T (.pointer (some ⟨g,off,none⟩)) (ρv y)).run Tryz.prog w = .ok () (w.setRow g (arr.toList.take off ++ (ρv y).cells.toList ++ arr.toList.drop (off+(ρv y).cells.toList.length)).toArray):=by
      have:=run_storeCells_at Tryz.prog g off b.ty (ρv y).cells.toList 0 arr w k.blk (by omega) (R7 hl);simp only [Nat.add_zero] at this;unfold D0 at hn
      cases hi:Tryz.prog.info? T with
      | none=>rw [hi] at hn; cases hn
      | some i =>
       rw [hi] at hn;have hn:i.size=n:=by simpa using hn
       have hs':(ρv y).cells.size=i.size:=by rw [hn]; simpa using b2
       simp [Instr.storeAt,Instr.sureAddr,storeVar,Sem.run_bind,sizeOf,typeInfo,hi,hs',this]
     intro o' ho';have hex:(execOp ρv o').run Tryz.prog w = .ok .skip (w.setRow g (arr.toList.take off ++ (ρv y).cells.toList ++ arr.toList.drop (off+(ρv y).cells.toList.length)).toArray):=by
      unfold execOp;rw [ho'];show Sem.run _ (Instr.storeAt T (ρv x) (ρv y) >>= λ_=>pure Next.skip) w=_;rw [hpx];exact iV hrun
     rw [hex];refine Wo hs hbr hbn k kk ⟨tl,?_,ht⟩ ?_ o false (.inl ⟨rfl,rfl⟩) _ _ λ_ _ _ _ _=>rfl
     ·rw [he,List.take_append_of_le_length (by omega),List.drop_append_of_le_length (by omega)]
      simp
     ·simp only [List.size_toArray,List.length_append,List.length_take,List.length_drop,Array.length_toList]
      have:(ρv y).cells.toList.length=(ρv y).cells.size:=by simp
      omega
    ·cases h
   ·cases h
  ·cases h
 ·cases h
end
end
section
variable [Dn]
section
variable {ρ : B6} {M A : Nat → Prop} {w : World} {t0 : Nat} {Hr : Nat → Option OB} {H : HP} {ev : Operand → Option AV} {ρv : Operand → Value} {r : AV} {R : List Nat} {U : HP} {op : Op}
def mOk(h n:Nat):Option Nat→Bool
 | none=>Nat.ble h n
 | some m=>Nat.ble h m && Nat.ble m n
theorem IZ{h n:Nat}{m:Option Nat}(k:mOk h n m=true):h≤n∧∀ x,m=some x→h≤x∧x≤n:=by
 cases m with
 | none=>exact ⟨Nat.le_of_ble_eq_true k,λx e=>by cases e⟩
 | some m =>
  unfold mOk at k;rw [Bool.and_eq_true] at k;have k1:=Nat.le_of_ble_eq_true k.1;have k2:=Nat.le_of_ble_eq_true k.2;exact ⟨by omega,λx e=>by cases e; exact ⟨k1,k2⟩⟩
def Aml(cap m:Option Nat):Option Nat:=match m with
 | none=>cap
 | some m=>some m
def oF(a:AV)(h:Nat)(m:Option Nat):Option AV:=match a with
 | .sl o off len cap=>if mOk h len m then some (.sl o off h (Aml cap m)) else none
 | .rats l=>if mOk h l.length m then some (.rats (l.take h)) else none
 | .row n l=>if mOk h n m then some (.row h l) else none
 | .val (.slice none 0 0)=>if mOk h 0 m then some (.val (.slice none 0 0)) else none
 | _=>none
theorem AX.take:∀{l:List Rat}{cs:List Value}(n:Nat),AX w l cs→AX w (l.take n) (cs.take (4*n))
 | _,_,0,_=>by simp [AX]
 | [],_,n+1,h=>by unfold AX at h; subst h; simp [AX]
 | q :: l,_,n+1,h=>by
  unfold AX at h;obtain ⟨a,b,c,d,r,rfl,h1,h2,h3⟩:=h;rw [List.take_succ_cons,show 4*(n+1)=4*n+1+1+1+1 by omega,List.take_succ_cons,List.take_succ_cons,List.take_succ_cons,List.take_succ_cons];exact ⟨a,b,c,d,_,rfl,h1,h2,AX.take n h3⟩
theorem Oc{a:AV}{h:Nat}{m:Option Nat}(hc:oF a h m=some r){v:Value}(hv:RV ρ M w a v):∃ Ad n c,v = .slice Ad n c∧h≤n∧n≤c∧(∀ x,m=some x→h≤x∧x≤n)∧RV ρ M w r (.slice Ad h (m.getD c)):=by
 unfold oF at hc;split at hc
 ·rename_i o off len cap
  split at hc
  ·rename_i hm
   obtain ⟨m1,m2⟩:=IZ hm
   cases hc
   have hv:Rp ρ M w (.sl o off len cap) [v]:=hv;unfold Rp at hv;obtain ⟨g,c,k,e1,e2,e3,e4,e5⟩:=hv;refine ⟨_,len,k,(List.cons.inj e2).1,m1,e3,m2,?_⟩;show Rp ρ M w (.sl o off h (Aml cap m)) [_];unfold Rp
   cases m with
   | none=>exact ⟨g,c,k,e1,rfl,by omega,e4,e5⟩
   | some x=>exact ⟨g,c,x,e1,rfl,(m2 x rfl).1,λn e=>Option.some.inj e,λe=>by cases e⟩
  ·cases hc
 ·rename_i l
  split at hc
  ·rename_i hm
   obtain ⟨m1,m2⟩:=IZ hm
   cases hc
   have hv:Rp ρ M w (.rats l) [v]:=hv;unfold Rp at hv;obtain ⟨Ad,c,e,hc,hr⟩:=hv;have hl:(l.take h).length=h:=by rw [List.length_take]; omega
   refine ⟨Ad,l.length,c,(List.cons.inj e).1,m1,hc,m2,?_⟩;show Rp ρ M w (.rats (l.take h)) [_];unfold Rp;refine ⟨Ad,m.getD c,by rw [hl],?_,λh0=>?_⟩
   ·rw [hl]
    cases m with
    | none=>show h≤c; omega
    | some x=>exact (m2 x rfl).1
   ·obtain ⟨g,off,xs,e1,k1,k2,k3,k4⟩:=hr (by rw [hl] at h0; omega)
    exact ⟨g,off,_,e1,k1,k2,C8 k3,AX.take h k4⟩
  ·cases hc
 ·rename_i n l
  split at hc
  ·rename_i hm
   obtain ⟨m1,m2⟩:=IZ hm
   cases hc
   have hv:Rp ρ M w (.row n l) [v]:=hv;unfold Rp at hv;obtain ⟨Ad,c,e,hc,hr⟩:=hv;refine ⟨Ad,n,c,(List.cons.inj e).1,m1,hc,m2,?_⟩;show Rp ρ M w (.row h l) [_];unfold Rp;refine ⟨Ad,m.getD c,rfl,?_,λh0=>hr (by omega)⟩
   cases m with
   | none=>show h≤c; omega
   | some x=>exact (m2 x rfl).1
  ·cases hc
 ·split at hc
  ·rename_i hm
   obtain ⟨m1,m2⟩:=IZ hm
   cases hc
   have hv:v = .slice none 0 0:=hv;have h0:h=0:=by omega
   subst h0;refine ⟨none,0,0,hv,m1,Nat.le_refl _,m2,?_⟩
   cases m with
   | none=>rfl
   | some x =>
    have:x=0:=by have:=(m2 x rfl).2; omega
    rw [this]; rfl
  ·cases hc
 ·cases hc
noncomputable def Ty(ev:Operand→Option AV)(T:TypeId)(x:Operand)(lo hi mx:Option Operand):Option (AV × List Nat × HP):=match lo,hi,SR T,ev x with
 | none,some hi,some (.slice e),some a=>match ev hi with
  | some (.val (.int _ h))=>if decide (0≤h) && (D0 e).isSome then (match mx with
   | none=>(oF a h.toNat none).map λr=>(r,[],[])
   | some mx=>match ev mx with
    | some (.val (.int _ m))=>if decide (0≤m) then (oF a h.toNat (some m.toNat)).map λr=>(r,[],[]) else none
    | _=>none) else none
  | _=>none
 | _,_,_,_=>none
theorem QU{T e:TypeId}{z h n c:Nat}{Ad:Option Addr}{kh:IntKind}(hd:Tryz.prog.underlying T=some (.slice e))(hz:D0 e=some z)(h1:h≤n)(h2:n≤c):(Instr.sliceAt T (.slice Ad n c) none (some (.int kh (h:Int))) none).run Tryz.prog w = .ok (.slice Ad h c) w:=by
 unfold D0 at hz
 cases hi:Tryz.prog.info? e with
 | none=>rw [hi] at hz; cases hz
 | some j =>
  have h3:h≤c:=by omega
  simp [Instr.sliceAt,Instr.slice,Instr.sliceBounds,Instr.sliceBound,asIntOf,Sem.run_bind,run_underlying hd,sizeOf,typeInfo,hi,h3];intro _
  cases Ad <;> simp [Addr.add]
theorem Pf{T e:TypeId}{z h m n c:Nat}{Ad:Option Addr}{kh km:IntKind}(hd:Tryz.prog.underlying T=some (.slice e))(hz:D0 e=some z)(h0:h≤m)(h1:m≤c):(Instr.sliceAt T (.slice Ad n c) none (some (.int kh (h:Int))) (some (.int km (m:Int)))).run Tryz.prog w = .ok (.slice Ad h m) w:=by
 unfold D0 at hz
 cases hi:Tryz.prog.info? e with
 | none=>rw [hi] at hz; cases hz
 | some j =>
  simp [Instr.sliceAt,Instr.slice,Instr.sliceBounds,Instr.sliceBound,asIntOf,Sem.run_bind,run_underlying hd,sizeOf,typeInfo,hi,h0,h1];intro _
  cases Ad <;> simp [Addr.add]
theorem sW{T:TypeId}{x:Operand}{lo hi mx:Option Operand}(h:Ty ev T x lo hi mx=some (r,R,U))(hs:Fr ρ M A w t0 Hr)(hev:∀ x a,ev x=some a→RV ρ M w a (ρv x)):DG (.slice T x lo hi mx) ρv w (Cw ρ M A w t0 Hr U r):=by
 unfold Ty at h;split at h
 ·rename_i hi e a hd ha
  have hd:Tryz.prog.underlying T=some (.slice e):=hd;split at h
  ·rename_i kh hh hhi
   have hvh:ρv hi = .int kh hh:=hev _ _ hhi;split at h
   ·rename_i hc
    rw [Bool.and_eq_true] at hc;have h0:=of_decide_eq_true hc.1;obtain ⟨z,hz⟩:=Option.isSome_iff_exists.1 hc.2;have hhn:hh=((hh.toNat:Nat):Int):=(Int.toNat_of_nonneg h0).symm;split at h
    ·cases hcut:oF a hh.toNat none with
     | none=>rw [hcut] at h; cases h
     | some r' =>
      rw [hcut] at h
      cases h
      obtain ⟨Ad,n,c,e1,e2,e3,_,e5⟩:=Oc hcut (hev _ _ ha);refine BH hs (λo ho=>?_) e5;unfold execOp;rw [ho];show Sem.run _ (Instr.sliceAt T (ρv x) none (some (ρv hi)) none >>= λx=>pure (Next.value x)) w=_;rw [e1,hvh,hhn];exact DC (QU hd hz (by omega) e3)
    ·rename_i mx
     split at h
     ·rename_i km m hm
      have hvm:ρv mx = .int km m:=hev _ _ hm;split at h
      ·rename_i hm0
       have hm0:=of_decide_eq_true hm0;have hmn:m=((m.toNat:Nat):Int):=(Int.toNat_of_nonneg hm0).symm
       cases hcut:oF a hh.toNat (some m.toNat) with
       | none=>rw [hcut] at h; cases h
       | some r' =>
        rw [hcut] at h
        cases h
        obtain ⟨Ad,n,c,e1,e2,e3,e4,e5⟩:=Oc hcut (hev _ _ ha);obtain ⟨q1,q2⟩:=e4 _ rfl;refine BH hs (λo ho=>?_) e5;unfold execOp;rw [ho];show Sem.run _ (Instr.sliceAt T (ρv x) none (some (ρv hi)) (some (ρv mx)) >>= λx=>pure (Next.value x)) w=_;rw [e1,hvh,hvm,hhn,hmn];exact DC (Pf hd hz q1 (by omega))
      ·cases h
     ·cases h
   ·cases h
  ·cases h
 ·cases h
def AeB:AV→Option Nat
 | .sl _ _ len _=>some len
 | .rats l=>some l.length
 | .row n _=>some n
 | .val (.slice none n _)=>some n
 | _=>none
theorem Yk{a:AV}{n:Nat}{v:Value}(h:AeB a=some n)(hv:RV ρ M w a v):∃ Ad c,v = .slice Ad n c:=by
 unfold AeB at h;split at h
 ·cases h
  have hv:Rp ρ M w (.sl _ _ n _) [v]:=hv;unfold Rp at hv;obtain ⟨g,c,k,_,e,_⟩:=hv;exact ⟨_,_,(List.cons.inj e).1⟩
 ·cases h
  have hv:Rp ρ M w (.rats _) [v]:=hv;unfold Rp at hv;obtain ⟨Ad,c,e,_⟩:=hv;exact ⟨_,_,(List.cons.inj e).1⟩
 ·cases h
  have hv:Rp ρ M w (.row n _) [v]:=hv;unfold Rp at hv;obtain ⟨Ad,c,e,_⟩:=hv;exact ⟨_,_,(List.cons.inj e).1⟩
 ·cases h
  exact ⟨none,_,hv⟩
 ·cases h
noncomputable def Aa0(ev:Operand→Option AV)(T:TypeId)(x:Operand):Option (AV × List Nat × HP):=match SR T,ev x with
 | some (.slice _),some a=>(AeB a).map λn=>(.val (.int .i64 (n:Int)),[],[])
 | _,_=>none
theorem Aj9{T:TypeId}{x:Operand}(h:Aa0 ev T x=some (r,R,U))(hs:Fr ρ M A w t0 Hr)(hev:∀ x a,ev x=some a→RV ρ M w a (ρv x)):DG (.call { callee:=.builtin .len,args:=#[x],argTypes:=#[T] }) ρv w (Cw ρ M A w t0 Hr U r):=by
 unfold Aa0 at h;split at h
 ·rename_i e a hd ha
  have hd:Tryz.prog.underlying T=some (.slice e):=hd
  cases hn:AeB a with
  | none=>rw [hn] at h; cases h
  | some n =>
   rw [hn] at h
   cases h
   obtain ⟨Ad,c,e1⟩:=Yk hn (hev _ _ ha);refine DF hs ⟨_,w,λo ho=>?_,rfl,rfl⟩;unfold execOp;rw [ho];simp [resolve,invoke,builtin,Builtin.len_,Sem.run_bind,run_underlying hd,e1,goInt]
 ·cases h
noncomputable def Ajf(ev:Operand→Option AV)(mx:Bool)(x y:Operand):Option (AV × List Nat × HP):=match ev x,ev y with
 | some (.val (.int .i64 a)),some (.val (.int .i64 b))=>some (.val (.int .i64 (if mx then max a b else min a b)),[],[])
 | _,_=>none
theorem AiI{x y:Operand}(h:Ajf ev true x y=some (r,R,U))(hs:Fr ρ M A w t0 Hr)(hev:∀ x a,ev x=some a→RV ρ M w a (ρv x)):DG (.call { callee:=.builtin .max,args:=#[x,y],argTypes:=#[3,3] }) ρv w (Cw ρ M A w t0 Hr U r):=by
 unfold Ajf at h;split at h
 ·rename_i a b ha hb
  have hx:ρv x = .int .i64 a:=hev _ _ ha;have hy:ρv y = .int .i64 b:=hev _ _ hb
  cases h
  refine DF hs ⟨_,w,λo ho=>?_,rfl,rfl⟩;unfold execOp;rw [ho]
  by_cases h:a<b
  ·have:max a b=b:=by omega
   simp [go_sem,hx,hy,h,this]
  ·have:max a b=a:=by omega
   simp [go_sem,hx,hy,h,this]
 ·cases h
theorem Aec{S D:TypeId}{x:Operand}(h:XQ ev S D x=some (r,R,U))(hs:Fr ρ M A w t0 Hr)(hev:∀ x a,ev x=some a→RV ρ M w a (ρv x)):DG (.convert S D x) ρv w (Cw ρ M A w t0 Hr U r):=by
 simp only [XQ,Option.bind_eq_bind,Option.bind_eq_some_iff] at h;obtain ⟨a,ha,h⟩:=h;have hva:=hev _ _ ha;split at h
 ·rename_i k p k' k2 hS hD
  have hS:Tryz.prog.underlying S=some (.int k'):=hS;have hD:Tryz.prog.underlying D=some (.int k2):=hD;have hva:ρv x = .int k p:=hva;split at h
  ·rename_i hk
   subst hk
   cases h
   refine DF hs ⟨_,w,λz hz=>?_,rfl,rfl⟩;unfold execOp;rw [hz];simp [convert,Sem.run_bind,run_underlying hS,run_underlying hD,hva,go_sem]
  ·cases h
 ·cases h
end
end
section
variable [Dn]
section
variable {ρ : B6} {M A : Nat → Prop} {w : World} {t0 : Nat} {Hr : Nat → Option OB} {H : HP} {ev : Operand → Option AV} {ρv : Operand → Value} {r : AV} {R : List Nat} {U : HP} {op : Op}
noncomputable def Amy(H:HP)(t0:Nat)(e:TypeId)(k:Nat)(base:AV)(n:Nat)(news:List AV):Option (AV × List Nat × HP):=match base with
 | .val (.slice none 0 0)=>some (.sl t0 0 n none,[],[(t0,some ⟨e,k,news,true,none⟩)])
 | .sl o 0 len cap=>match lk H o with
  | some b=>if b.bl.isNone && Nat.beq b.ty e && Nat.beq b.k k && Nat.ble len 1048576 then (match cap with
   | some c=>if Nat.blt c (len+n) then (Fl (len*k) b.cs).map λolds=>(.sl t0 0 (len+n) none,[o],[(t0,some ⟨e,k,olds ++ news,true,none⟩)]) else none
   | none=>if b.room && Nat.beq (szs b.cs) (len*k) then some (.sl t0 0 (len+n) none,[o],[(t0,some ⟨b.ty,b.k,b.cs ++ news,b.room,none⟩),(o,none)]) else none) else none
  | none=>none
 | _=>none
noncomputable def wG(H:HP)(ev:Operand→Option AV)(t0:Nat)(T:TypeId)(x y:Operand):Option (AV × List Nat × HP):=do
 let a ← ev x
 let b ← ev y
 let d ← SR T
 match d with
 | .slice e=>do
  let z ← Ki e
  let k ← D0 e
  let by_ ← NV e
  let s ← Sw H b
  if Ld e && Nat.beq (szs z) k && !(Nat.beq k 0) && Nat.ble by_ 1048576 && Nat.ble s.1 1048576 then
   if Nat.beq s.1 0 then (match a with
    | .val (.slice none 0 0)=>some (a,s.2.2,[])
    | .sl _ _ _ _=>some (a,s.2.2,[])
    | _=>none) else do
    let news ← Fl (s.1*k) s.2.1
    let p ← Amy H t0 e k a s.1 news
    pure (p.1,s.2.2 ++ p.2.1,p.2.2)
  else none
 | _=>none
theorem Zh{ρ':B6}{M':Nat→Prop}{w':World}{g c o len:Nat}(h:ρ' o=some (g,c))(hk:len≤c):RV ρ' M' w' (.sl o 0 len none) (.slice (some ⟨g,0,none⟩) len c):=by
 show Rp ρ' M' w' (.sl o 0 len none) [_];unfold Rp;exact ⟨g,c,c,h,rfl,hk,λn e=>(by cases e),λ_=>⟨rfl,rfl⟩⟩
theorem jI{a b:Nat}(ha:a≤2097152)(hb:b≤1048576):a*b≤140737488355328:=
 Nat.le_trans (Nat.mul_le_mul ha hb) (by decide)
theorem Pv{e:TypeId}{k n:Nat}{l:List AV}{cs:List Value}{z:Array Value}{gc:Nat}(hs:Fr ρ M A w t0 Hr)(hT:Ld e=true)(hl:BC ρ M w l cs)(hn:cs.length=n*k)(hz:z.size=k)(hg:n≤gc)(hm:gc≤maxLen) :
  Cw ρ M A w t0 Hr [(t0,some ⟨e,k,l,true,none⟩)] (.sl t0 0 n none) (.slice (some ⟨w.heap.size,0,none⟩) n gc) (w.drew.alloc (.cells (cs.toArray ++ Builtin.zeroCells z (gc - n)) e)):=by
 refine Pc hs (C_ hT) hl ⟨(Builtin.zeroCells z (gc - n)).toList,by simp,λh=>by cases h⟩ (λ_=>⟨?_,hm⟩) (.inr rfl) [] (λx h=>by cases h) λρ' M' e=>Zh e hg
 rw [Array.size_append,size_zeroCells,hz,List.size_toArray,hn,← Nat.add_mul,Nat.mul_comm]
 congr 1
 omega
theorem Aly{T:TypeId}{x y:Operand}(h:wG H ev t0 T x y=some (r,R,U))(hs:Fr ρ M A w t0 Hr)(hag:∀ o∈R,Hr o=lk H o)(hev:∀ x a,ev x=some a→RV ρ M w a (ρv x)):DG (.call { callee:=.builtin .append,args:=#[x,y],argTypes:=#[T,T] }) ρv w (Cw ρ M A w t0 Hr U r):=by
 simp only [wG,Option.bind_eq_bind,Option.bind_eq_some_iff] at h;obtain ⟨a,ha,b,hb,d,hd,h⟩:=h;split at h
 ·rename_i e
  have hd:Tryz.prog.underlying T=some (.slice e):=hd;simp only [Option.bind_eq_some_iff] at h;obtain ⟨z,hz,k,hk,by_,hby,⟨n,ls,R2⟩,hsl,h⟩:=h;split at h
  ·rename_i hc
   simp only [Bool.and_eq_true,Bool.not_eq_true'] at hc;obtain ⟨⟨⟨⟨hT,hzk⟩,hk0⟩,hb1⟩,hn1⟩:=hc;have hzk:=Nat.eq_of_beq_eq_true hzk;have hb1:=Nat.le_of_ble_eq_true hb1;have hn1:n≤1048576:=Nat.le_of_ble_eq_true hn1;obtain ⟨i,zv,hi,hzv,hr⟩:=EA (ρ:=ρ) (M:=M) (w:=w) hz;have hki:i.size=k:=by
    unfold D0 at hk;rw [hi] at hk;exact Option.some.inj hk
   have hbi:i.bytes=by_:=by
    unfold NV at hby;rw [hi] at hby;exact Option.some.inj hby
   have hzs:zv.cells.size=k:=by
    have:=hr.len;rw [hzk] at this;simpa using this
   have go:∀{v':Value}{w':World},(∀ ty,(Builtin.append_ #[T,T] ty #[ρv x,ρv y]).run Tryz.prog w = .ok v' w')→∀ o:Oper,o.op = .call { callee:=.builtin .append,args:=#[x,y],argTypes:=#[T,T] } → (execOp ρv o).run Tryz.prog w = .ok (.value v') w':=λhrun o ho=>by
    unfold execOp;rw [ho];have:=hrun o.type;simp only [resolve,invoke,builtin,Sem.run_bind,Sem.run_pure,Result.andThen_ok,List.map_toArray,List.map_cons,List.map_nil,this]
   split at h
   ·rename_i hn0
    have hn0:n=0:=Nat.eq_of_beq_eq_true hn0;subst hn0;have fin:r=a→R=R2→U=[]→(∃ Ad s c,ρv x = .slice Ad s c∧s≤c)→DG (.call { callee:=.builtin .append,args:=#[x,y],argTypes:=#[T,T] }) ρv w (Cw ρ M A w t0 Hr U r):=by
     rintro rfl rfl rfl ⟨Ad,s,c,e1,e2⟩
     obtain ⟨Ay,cy,xs,ey,_⟩:=Jw hs hsl hag (hev _ _ hb);refine BH (v:=ρv x) hs (go λty=>?_) (hev _ _ ha);rw [e1,ey]
     cases Ay with
     | none=>cases Ad <;> simp [Builtin.append_,run_underlying hd,sizeOf,typeInfo,hi,Builtin.lenOf,e2,Builtin.firstCells,storeCells]
     | some ay =>
      have hl0:=run_firstCells_some (P:=Tryz.prog) w i.size 0 ay 0 cy [] (by simp) (λj v hv=>by simp at hv)
      cases Ad <;> simp [Builtin.append_,run_underlying hd,sizeOf,typeInfo,hi,Builtin.lenOf,e2,hl0,storeCells]
    split at h
    ·simp only [Option.some.injEq,Prod.mk.injEq] at h
     exact fin h.1.symm h.2.1.symm h.2.2.symm ⟨none,0,0,hev _ _ ha,Nat.le_refl _⟩
    ·simp only [Option.some.injEq,Prod.mk.injEq] at h
     have hv:Rp ρ M w (.sl _ _ _ _) [ρv x]:=hev _ _ ha;unfold Rp at hv;obtain ⟨g,c,kk,_,e2,e3,_⟩:=hv;exact fin h.1.symm h.2.1.symm h.2.2.symm ⟨_,_,_,(List.cons.inj e2).1,e3⟩
    ·cases h
   ·rename_i hn0
    have hn0:n≠0:=λe=>hn0 (by subst e; rfl)
    simp only [Option.bind_eq_some_iff,Option.pure_def,Option.some.injEq,Prod.mk.injEq] at h;obtain ⟨news,hnews,⟨r',R',U'⟩,hp,rfl,rfl,rfl⟩:=h;obtain ⟨Ay,cy,xs,ey,hxs0⟩:=Jw hs hsl (λo ho=>hag o (List.mem_append.2 (.inl ho))) (hev _ _ hb);obtain ⟨hxs,gy,oy,rfl,hry⟩:=hxs0 hn0;obtain ⟨t1,t2⟩:=BC.take hnews hxs;have hry':=C8 (n:=n*k) hry;have hlen:(xs.take (n*k)).length=n*i.size:=by rw [List.length_take,hki]; omega
    have hcells:∀(j:Nat)(v:Value),(xs.take (n*k))[j]? = some v→w.cell? ((⟨gy,oy,none⟩:Addr).add j)=some v:=λj v hv=>by rw [Addr.add_mid]; exact hry' j v hv
    have h1c:=R7 t2;generalize hnc:xs.take (n*k)=nc at t2 hry' hlen hcells h1c;unfold Amy at hp;split at hp
    ·cases hp
     have hx:ρv x = .slice none 0 0:=hev _ _ ha;have hrun:=λty=>run_append_nil (P:=Tryz.prog) w T ty e i zv hd hi hzv ⟨gy,oy,none⟩ n cy nc hlen hcells (by omega) (by omega) (Nat.le_trans (jI (by omega) (by omega)) (by decide))
     intro o ho;rw [go (λty=>by rw [hx,ey]; exact hrun ty) o ho];exact Pv hs hT t2 (by rw [hlen,hki]) hzs (grownCap_ge w n 0 e) (grownCap_le_maxLen w n 0 e (by unfold maxLen; omega))
    ·rename_i o len cap
     split at hp
     ·rename_i bo hbo
      split at hp
      ·rename_i hc
       simp only [Bool.and_eq_true] at hc;obtain ⟨⟨⟨c0,c1⟩,c2⟩,c3⟩:=hc;have hbn:bo.bl=none:=by simpa using c0
       have c1:=Nat.eq_of_beq_eq_true c1;have c2:=Nat.eq_of_beq_eq_true c2;have c3:=Nat.le_of_ble_eq_true c3;have hv:Rp ρ M w (.sl o 0 len cap) [ρv x]:=hev _ _ ha;unfold Rp at hv;obtain ⟨g,c,kk,e1,e2,e3,e4,e5⟩:=hv;have hx:=(List.cons.inj e2).1;split at hp
       ·rename_i cc
        have e4:=e4 _ rfl;subst e4;split at hp
        ·rename_i hlt
         have hlt:kk<len+n:=Nat.le_of_ble_eq_true hlt
         cases hol:Fl (len*k) bo.cs with
         | none=>rw [hol] at hp; cases hp
         | some olds =>
          rw [hol] at hp
          cases hp
          have hbr:Hr o=some bo:=(hag o (List.mem_append.2 (.inr (by simp)))).trans hbo;obtain ⟨g',c',arr,cs,kO⟩:=hs.heap.obj o bo hbr;rw [kO.at_] at e1;simp only [Option.some.injEq,Prod.mk.injEq] at e1;obtain ⟨rfl,rfl⟩:=e1;obtain ⟨q1,q2⟩:=BC.take hol (kO.cells.rps hbn);obtain ⟨tl,he,_⟩:=kO.pre;have hro:=C8 (n:=len*k) (IK kO.blk he 0);simp only [List.drop_zero] at hro;have hlo:(cs.take (len*k)).length=len*i.size:=by rw [List.length_take,hki]; omega
          have hrun:=λty=>run_append_grow (P:=Tryz.prog) w T ty e i zv hd hi hzv ⟨g',0,none⟩ len kk (cs.take (len*k)) hlo (λj v hv=>by rw [Addr.add_mid]; exact hro j v hv) ⟨gy,oy,none⟩ n cy nc hlen hcells hlt (by omega) (growslice_fits hlt (jI (by omega) (by omega)))
          intro o' ho;rw [go (λty=>by rw [hx,ey]; exact hrun ty) o' ho];have:=Pv (n:=len+n) (z:=zv.cells) hs hT (q2.app t2) (by rw [List.length_append,hlo,hlen,hki,Nat.add_mul]) hzs (grownCap_ge w (len+n) kk e) (grownCap_le_maxLen w (len+n) kk e (by unfold maxLen; omega));rw [show (List.take (len*k) cs ++ nc).toArray=(List.take (len*k) cs).toArray ++ nc.toArray by simp] at this;exact this
        ·cases hp
       ·obtain ⟨_,e5⟩:=e5 rfl
        subst e5;split at hp
        ·rename_i hroom
         rw [Bool.and_eq_true] at hroom;have hsz:=Nat.eq_of_beq_eq_true hroom.2;have hroom:=hroom.1
         cases hp
         have hbr:Hr o=some bo:=(hag o (List.mem_append.2 (.inr (by simp)))).trans hbo;obtain ⟨g',c',arr,cs,kO⟩:=hs.heap.obj o bo hbr;rw [kO.at_] at e1;simp only [Option.some.injEq,Prod.mk.injEq] at e1;obtain ⟨rfl,rfl⟩:=e1;obtain ⟨tl,he,_⟩:=kO.pre;obtain ⟨hcap,hmax⟩:=kO.cap hroom;have hcl:cs.length=len*k:=(kO.cells.rps hbn).len.trans hsz;have hasz:arr.size=cs.length+tl.length:=by rw [← List.length_append,← he]; simp
         have hro:=IK kO.blk he 0;simp only [List.drop_zero] at hro
         by_cases hfit:len+n≤c'
         ·have hroomy:(len+n)*k≤arr.size:=by rw [hcap,c2,Nat.mul_comm k]; exact Nat.mul_le_mul_right _ hfit
          have hrun:=λty=>run_append_room (P:=Tryz.prog) w T ty e i hd hi g' len c' arr (by rw [← c1]; exact kO.blk) ⟨gy,oy,none⟩ n cy nc hlen hcells h1c hfit (by rw [hlen,hki,← Nat.add_mul]; exact hroomy)
          intro o' ho;rw [go (λty=>by rw [hx,ey]; exact hrun ty) o' ho];have hnl:nc.length=n*k:=by rw [hlen,hki]
          have htl:n*k≤tl.length:=by rw [Nat.add_mul] at hroomy; omega
          rw [show (⟨bo.ty,bo.k,bo.cs ++ news,bo.room,none⟩:OB) = { bo with cs:=bo.cs ++ news } by rw [← hbn]];refine Wo (cs':=cs ++ nc) hs hbr hbn kO ((kO.cells.rps hbn).app t2) ⟨tl.drop (n*k),?_,λh=>by rw [hroom] at h; cases h⟩ ?_ t0 true (.inr ⟨rfl,rfl⟩) _ _ λρ' M' w' _ e=>Zh e hfit
          ·rw [hki,← hcl,he,hnl,List.take_left,← List.drop_drop,List.drop_left]
          ·simp only [List.size_toArray,List.length_append,List.length_take,List.length_drop,Array.length_toList,hki]
           omega
         ·have hlt:c'<len+n:=by omega
          have hrun:=λty=>run_append_grow (P:=Tryz.prog) w T ty e i zv hd hi hzv ⟨g',0,none⟩ len c' cs (by rw [hcl,hki]) (λj v hv=>by rw [Addr.add_mid]; exact hro j v hv) ⟨gy,oy,none⟩ n cy nc hlen hcells hlt (by omega) (growslice_fits hlt (jI (by omega) (by omega)))
          intro o' ho;rw [go (λty=>by rw [hx,ey]; exact hrun ty) o' ho];have hgc:=grownCap_ge w (len+n) c' e;have hgm:=grownCap_le_maxLen w (len+n) c' e (by unfold maxLen; omega);generalize grownCap w (len+n) c' e=gc at hgc hgm;rw [show cs.toArray ++ nc.toArray=(cs ++ nc).toArray by simp,c1,c2,hroom];refine Pc hs (C_ hT) ((kO.cells.rps hbn).app t2) ⟨(Builtin.zeroCells zv.cells (gc - (len+n))).toList,by simp,λh=>by cases h⟩ (λ_=>⟨?_,hgm⟩) (.inr rfl) [(o,none)] (λx h=>by simp at h; rw [h]) λρ' M' e=>Zh e hgc
          rw [Array.size_append,size_zeroCells,hzs,List.size_toArray,List.length_append,hcl,hlen,hki,← Nat.add_mul,← Nat.add_mul,Nat.add_sub_cancel' hgc,Nat.mul_comm]
        ·cases hp
      ·cases hp
     ·cases hp
    ·cases hp
  ·cases h
 ·cases h
end
end
section
variable [Dn]
abbrev oT:=Nat→List AV→Option AV
def LO(T:oT):Prop:=∀ f xs r,T f xs=some r→Br f∧∀(ρ:B6)(M:Nat→Prop)(w:World)(vs:List Value),(∀ b,M b→b<w.heap.size)→Cz ρ M w xs vs →
 Calls Tryz.prog f vs.toArray w λe w'=>∃ v,e = .returned v∧RV ρ M w' r v∧Below w.heap.size w w'
abbrev DZ:=Nat→List AV→HP→Nat→Nat→Option (AV × HP)
def pB(ρ:B6)(w:World)(H:Nat→Option OB)(b:Nat):Prop:=w.heap.size≤b ∨ ∃ o bo c,H o=some bo∧ρ o=some (b,c)
def EG(cf:DZ):Prop:=∀ f xs H n0 t0 r U,cf f xs H n0 t0=some (r,U)→Br f∧∀(ρ:B6)(M:Nat→Prop)(w:World)(vs:List Value),
 Fr ρ M (pB ρ w (lk H)) w t0 (lk H)→(∀ o p,ρ o=some p→o<n0)→t0+16≤n0→Cz ρ M w xs vs →
 Calls Tryz.prog f vs.toArray w λe w'=>∃ v,e = .returned v∧Cw ρ M (pB ρ w (lk H)) w t0 (lk H) U r v w'
mutual
def Ao6:AV→List Nat
 | .ptr o _=>[o]
 | .sl o _ _ _=>[o]
 | .slx o _=>[o]
 | .epx o _=>[o]
 | .fn _ a b=>OE a ++ OE b
 | .agg l=>OE l
 | .tup l=>OE l
 | .row _ l=>OE l
 | .rptr l=>OE l
 | _=>[]
def OE:List AV→List Nat
 | []=>[]
 | a :: l=>Ao6 a ++ OE l
end
def memN(o:Nat):List Nat→Bool
 | []=>false
 | x :: l=>if Nat.beq x o then true else memN o l
theorem EL{o:Nat}:∀{l:List Nat},memN o l=true ↔ o∈l
 | []=>by simp [memN]
 | x :: l=>by
  unfold memN;split
  ·rename_i h
   have:=Nat.eq_of_beq_eq_true h;simp [this]
  ·rename_i h
   rw [EL,List.mem_cons]
   constructor
   ·exact .inr
   ·rintro (rfl | h')
    ·simp at h
    ·exact h'
def TO(H:HP):Nat→List Nat→List Nat→Option (List Nat)
 | _,[],acc=>some acc
 | 0,_ :: _,_=>none
 | k+1,o :: r,acc=>if memN o acc then TO H k r acc else match lk H o with
  | some b=>TO H k (OE b.cs ++ r) (acc ++ [o])
  | none=>TO H k r (acc ++ [o])
def M3(H:HP):List Nat→HP
 | []=>[]
 | o :: r=>(o,lk H o) :: M3 H r
theorem rK{H:HP}{R:List Nat}{o:Nat}:lk (M3 H R) o=if o∈R then lk H o else none:=by
 induction R with
 | nil=>rfl
 | cons x r ih =>
  simp only [M3,lk];split
  ·rename_i h
   have:=Nat.eq_of_beq_eq_true h;simp [this]
  ·rename_i h
   have hne:x≠o:=λe=>h (by rw [e]; exact Nat.beq_refl o)
   rw [ih]
   by_cases hm:o∈r
   ·simp [hm]
   ·simp [hm,Ne.symm hne]
section
variable {ρ : B6} {M A : Nat → Prop} {w : World} {t0 n0 : Nat} {Hr : Nat → Option OB} {H : HP} {ev : Operand → Option AV} {ρv : Operand → Value} {r : AV} {R : List Nat} {U : HP} {op : Op} {T : oT} {cf : DZ}
theorem oC{H':HP}{v:Value}{w':World}(hs:Fr ρ M A w t0 Hr)(hsub:∀ o b,lk H' o=some b→Hr o=some b)(hp:Cw ρ M (pB ρ w (lk H')) w t0 (lk H') U r v w'):Cw ρ M A w t0 Hr U r v w':=by
 obtain ⟨ρ',M',ht,hv,hR,hd,hsup,hmon,hbnd,hfr,hkp⟩:=hp;have hO:∀ b,pB ρ w (lk H') b→A b:=λb h=>by
  rcases h with h | ⟨o,bo,c,h1,h2⟩
  ·exact hs.fresh b h
  ·obtain ⟨g,c',arr,cs,k⟩:=hs.heap.obj o bo (hsub o bo h1)
   have:=k.at_;rw [h2] at this;have:b=g:=congrArg Prod.fst (Option.some.inj this);exact this ▸ k.own
 have out:∀ o b,Hr o=some b→lk H' o=none→∀ g c,ρ o=some (g,c)→g<w.heap.size ∧ ¬ pB ρ w (lk H') g:=λo b h1 h2 g c h3=>by
  obtain ⟨g',c',arr,cs,k⟩:=hs.heap.obj o b h1;have hg:g=g':=by
   have:=k.at_;rw [h3] at this;exact congrArg Prod.fst (Option.some.inj this)
  have hlt:g<w.heap.size:=hg ▸ Bu k.blk
  refine ⟨hlt,?_⟩
  rintro (h | ⟨o',bo,c2,h4,h5⟩)
  ·omega
  ·have:=hs.heap.inj o o' b bo g c c2 h1 (hsub o' bo h4) h3 h5
   subst this;rw [h2] at h4
   cases h4
 have hkp':∀ o b g c,Hr o=some b→(∀ x∈U,x.1≠o)→ρ o=some (g,c)→w'.heap[g]? = w.heap[g]? := λo b g c h1 h2 h3=>by
  cases hl:lk H' o with
  | some b'=>exact hkp o b' g c hl h2 h3
  | none =>
   obtain ⟨hlt,hno⟩:=out o b h1 hl g c h3;exact hfr.keep g hlt hno
 have split:∀ o b,FQ Hr U o=some b→FQ (lk H') U o=some b ∨ (lk H' o=none∧Hr o=some b∧∀ x∈U,x.1≠o):=λo b h=>by
  by_cases hm:∃ x∈U,x.1=o
  ·rw [uU (H':=lk H') hm] at h
   exact .inl h
  ·have hm:∀ x∈U,x.1≠o:=λx hx e=>hm ⟨x,hx,e⟩
   rw [K7 hm] at h
   cases hl:lk H' o with
   | none=>exact .inr ⟨rfl,h,hm⟩
   | some b' =>
    refine .inl ?_;rw [K7 hm,hl,← hsub o b' hl,h]
 refine ⟨ρ',M',ht,hv,⟨λo b h=>?_,λo o' b b' g c c' h h' q q'=>?_⟩,hd,hsup,hmon,hbnd,⟨hfr.os,hfr.tape,hfr.output,hfr.size,λb hb hA=>hfr.keep b hb λh=>hA (hO b h)⟩,hkp'⟩
 ·rcases split o b h with h1 | ⟨h1,h2,h3⟩
  ·obtain ⟨g,c,arr,cs,k⟩:=hR.obj o b h1
   exact ⟨g,c,arr,cs,k.at_,k.mut_,hO g k.own,k.blk,k.ty,k.cells,k.pre,k.cap⟩
  ·obtain ⟨g,c,arr,cs,k⟩:=hs.heap.obj o b h2
   exact ⟨g,c,arr,cs,k.st ht (hsup g) (hkp' o b g c h2 h3 k.at_)⟩
 ·have hold:∀ o b g c,Hr o=some b→ρ' o=some (g,c)→∃ c',ρ o=some (g,c'):=λo b g c h1 h2=>by
   obtain ⟨g',c',arr,cs,k⟩:=hs.heap.obj o b h1;have:=ht.ext _ _ k.at_;rw [h2] at this;have hg:g=g':=congrArg Prod.fst (Option.some.inj this);exact ⟨c',by rw [hg]; exact k.at_⟩
  have mixed:∀ o b o' b',FQ (lk H') U o=some b→lk H' o'=none→Hr o'=some b'→∀ c c',ρ' o=some (g,c)→ρ' o'=some (g,c')→False:=λo b o' b' h1 h2 h3 c c' q1 q2=>by
   obtain ⟨c2,r2⟩:=hold o' b' g c' h3 q2;obtain ⟨_,hno⟩:=out o' b' h3 h2 g c2 r2;obtain ⟨g1,c1,arr,cs,k⟩:=hR.obj o b h1;have:=k.at_;rw [q1] at this;have hg:g=g1:=congrArg Prod.fst (Option.some.inj this);exact hno (hg ▸ k.own)
  rcases split o b h with h1 | ⟨h1,h2,h3⟩ <;> rcases split o' b' h' with h1' | ⟨h1',h2',h3'⟩
  ·exact hR.inj o o' b b' g c c' h1 h1' q q'
  ·exact (mixed o b o' b' h1 h1' h2' c c' q q').elim
  ·exact (mixed o' b' o b h1' h1 h2 c' c q' q).elim
  ·obtain ⟨c2,r2⟩:=hold o b g c h2 q
   obtain ⟨c3,r3⟩:=hold o' b' g c' h2' q';exact hs.heap.inj o o' b b' g c2 c3 h2 h2' r2 r3
theorem AeM{a:AV}{v:Value}(h:OC a=true)(hv:Rp ρ M w a [v]):Co ρ M w a v:=by
  cases a <;> first
    | (cases h; done)
    | exact hv
    | (unfold Rp at hv; exact (List.cons.inj hv.1).1)
    | (rename_i n ag c
       unfold OC at h
       rw [Bool.and_eq_true,Bool.not_eq_true'] at h
       have:=h.2
       subst this
       exact hv)
theorem OL:∀{l:List AV}{vs:List Value},l.all OC=true→BC ρ M w l vs→Cz ρ M w l vs
 | [],_,_,h=>by unfold BC at h; exact h
 | a :: l,vs,hs,h=>by
  rw [List.all_cons,Bool.and_eq_true] at hs;unfold BC at h;obtain ⟨x,y,rfl,h1,h2⟩:=h;have hl:=h1.len;have hz:a.sz=1:=by
   have hs1:=hs.1
   cases a <;> first | rfl | (cases hs1; done) | (unfold OC at hs1; rw [Bool.and_eq_true] at hs1; exact Nat.eq_of_beq_eq_true hs1.1)
  rw [hz] at hl;obtain ⟨v,rfl⟩:=List.length_eq_one_iff.1 hl;exact ⟨v,y,rfl,AeM hs.1 h1,OL hs.2 h2⟩
theorem Cz.app:∀{l l':List AV}{vs vs':List Value},Cz ρ M w l vs→Cz ρ M w l' vs'→Cz ρ M w (l ++ l') (vs ++ vs')
 | [],_,_,_,h,h'=>by have h:_=[]:=h; subst h; exact h'
 | _ :: _,_,_,_,⟨v,r,e,h1,h2⟩,h'=>by subst e; exact ⟨v,_,rfl,h1,Cz.app h2 h'⟩
theorem SW(hev:∀ x a,ev x=some a→RV ρ M w a (ρv x)):∀{xs:List Operand}{l:List AV},evs ev xs=some l→l.all AV.one=true→Cz ρ M w l (xs.map ρv)
 | [],l,h,_=>by cases h; exact rfl
 | x :: xs,l,h,ho=>by
  unfold evs at h;split at h
  ·rename_i a r h1 h2
   cases h
   rw [List.all_cons,Bool.and_eq_true] at ho;exact ⟨ρv x,_,rfl,(hev _ _ h1).one ho.1,SW hev h2 ho.2⟩
  ·cases h
noncomputable def Z1(T:oT)(cf:DZ)(H:HP)(n0 t0:Nat)(ev:Operand→Option AV)(f:Operand)(xs:List Operand):Option (AV × List Nat × HP):=match ev f,evs ev xs with
 | some (.fn F a b),some l=>if a.all OC && b.all OC && l.all AV.one then (match T F (a ++ l ++ b) with
  | some r=>some (r,[],[])
  | none=>match TO H 400 (OE (a ++ l ++ b)) [] with
   | some R=>(cf F (a ++ l ++ b) (M3 H R) n0 t0).map λp=>(p.1,R,p.2)
   | none=>none) else none
 | _,_=>none
theorem QD{F:Nat}{f:Operand}{args:Array Operand}{Ts:Array TypeId}{xs ys:Array Value}(hf:ρv f = .func (.func F) xs ys)(hpl:Br F){o:Oper}(ho:o.op = .call { callee:=.value f,args:=args,argTypes:=Ts }):(execOp ρv o).run Tryz.prog w = .ok (.enter F (xs ++ args.map ρv ++ ys)) w:=by
 unfold execOp;rw [ho];simp only [resolve,hf,Deferred.ofValue,Sem.run_bind,Sem.run_pure,Result.andThen_ok,invoke];exact hpl _ _
theorem AfT{f:Operand}{args:Array Operand}{Ts:Array TypeId}(hT:LO T)(hcf:EG cf)(h:Z1 T cf H n0 t0 ev f args.toList=some (r,R,U))(hs:Fr ρ M A w t0 Hr)(hag:∀ o∈R,Hr o=lk H o)(hev:∀ x a,ev x=some a→RV ρ M w a (ρv x))(hdom:∀ o p,ρ o=some p→o<n0)(hn:t0+16≤n0):DG (.call { callee:=.value f,args:=args,argTypes:=Ts }) ρv w (Cw ρ M A w t0 Hr U r):=by
 unfold Z1 at h;split at h
 ·rename_i F a b l hf hl
  split at h
  ·rename_i hc
   simp only [Bool.and_eq_true] at hc;have hv:Rp ρ M w (.fn F a b) [ρv f]:=hev _ _ hf;unfold Rp at hv;obtain ⟨xs,ys,e,ha,hb⟩:=hv;have e:=(List.cons.inj e).1;have hargs:Cz ρ M w (a ++ l ++ b) (xs.toList ++ args.toList.map ρv ++ ys.toList):=((OL hc.1.1 ha).app (SW hev hl hc.2)).app (OL hc.1.2 hb);have harr:(xs.toList ++ args.toList.map ρv ++ ys.toList).toArray=xs ++ args.map ρv ++ ys:=by
    apply Array.ext';simp
   split at h
   ·rename_i r' hr
    cases h
    obtain ⟨hpl,hcall⟩:=hT _ _ _ hr;refine nC hs (λo ho=>QD e hpl ho) ?_;rw [← harr];exact hcall ρ M w _ hs.bnd hargs
   ·split at h
    ·rename_i R' hR
     cases hcc:cf F (a ++ l ++ b) (M3 H R') n0 t0 with
     | none=>rw [hcc] at h; cases h
     | some p =>
      rw [hcc] at h
      cases h
      obtain ⟨hpl,hcall⟩:=hcf _ _ _ _ _ _ _ hcc;have hsub:∀ o b,lk (M3 H R) o=some b→Hr o=some b:=λo b e=>by
       rw [rK] at e;split at e
       ·rename_i hm; rw [hag o hm]; exact e
       ·cases e
      have hs':Fr ρ M (pB ρ w (lk (M3 H R))) w t0 (lk (M3 H R)):=by
       refine ⟨⟨λo b e=>?_,λo o' b b' g c c' e1 e2 q1 q2=>hs.heap.inj o o' b b' g c c' (hsub _ _ e1) (hsub _ _ e2) q1 q2⟩,hs.bnd,hs.new,λb hb=>.inl hb⟩;obtain ⟨g,c,arr,cs,k⟩:=hs.heap.obj o b (hsub o b e);exact ⟨g,c,arr,cs,k.at_,k.mut_,.inr ⟨o,b,c,e,k.at_⟩,k.blk,k.ty,k.cells,k.pre,k.cap⟩
      have hcall:=hcall ρ M w _ hs' hdom hn hargs;rw [harr] at hcall;intro o ho;rw [QD e hpl ho];refine Calls.mono hcall λe w' he=>?_
      obtain ⟨v,e,hp⟩:=he;exact ⟨v,e,oC hs hsub hp⟩
    ·cases h
  ·cases h
 ·cases h
noncomputable def Af8(H:HP)(t0:Nat)(ev:Operand→Option AV)(b:Builtin)(xs:List Operand)(Ts:List TypeId):Option (AV × List Nat × HP):=match b,xs,Ts with
 | .len,[x],[T]=>Aa0 ev T x
 | .append,[x,y],[T,T2]=>if Nat.beq T T2 then wG H ev t0 T x y else none
 | .max,[x,y],[T,T2]=>if Nat.beq T 3 && Nat.beq T2 3 then Ajf ev true x y else none
 | _,_,_=>none
noncomputable def opB(T:oT)(cf:DZ)(H:HP)(n0 t0:Nat)(ev:Operand→Option AV):Op→Option (AV × List Nat × HP)
 | .move x=>RP ev x
 | .assign x=>RP ev x
 | .pick c x y=>ZD ev c x y
 | .alloc T=>Uz t0 T
 | .box T x=>yC ev t0 T x
 | .build T ps=>RY ev T ps.toList
 | .buildSlice T n ps=>VQ ev t0 T n ps.toList
 | .load T x=>Zd H ev T x
 | .store T x y=>Ui H ev T x y
 | .nilCheck x=>zR ev x
 | .binOp o T x y T2=>qT ev o T x y T2
 | .unOp o _ x=>Ajk ev o x
 | .convert S D x=>XQ ev S D x
 | .makeFunc f xs ys=>AiX ev f xs.toList ys.toList
 | .makeSlice T x y=>aE ev t0 T x y
 | .slice T x lo hi mx=>Ty ev T x lo hi mx
 | .fieldAddr S x k=>Td ev S x k
 | .field S x k=>OT ev S x k
 | .indexAddr T x y=>Ab9 ev T x y
 | .extract x k=>yK ev x k
 | .call c=>match c.callee with
  | .builtin b=>Af8 H t0 ev b c.args.toList c.argTypes.toList
  | .value f=>Z1 T cf H n0 t0 ev f c.args.toList
  | _=>none
 | _=>none
theorem Rl(hT:LO T)(hcf:EG cf)(h:opB T cf H n0 t0 ev op=some (r,R,U))(hs:Fr ρ M A w t0 Hr)(hag:∀ o∈R,Hr o=lk H o)(hev:∀ x a,ev x=some a→RV ρ M w a (ρv x))(hdom:∀ o p,ρ o=some p→o<n0)(hn:t0+16≤n0):DG op ρv w (Cw ρ M A w t0 Hr U r):=by
 unfold opB at h;split at h
 ·exact dN (.inl rfl) h hs hev
 ·exact dN (.inr rfl) h hs hev
 ·exact Afp h hs hev
 ·exact rC h hs
 ·exact Aj6 h hs hev
 ·exact zB h hs hev
 ·exact AlW h hs hev
 ·exact Ad5 h hs hag hev
 ·exact rV h hs hag hev
 ·exact AkP h hs hev
 ·exact Alf h hs hev
 ·exact AoG h hs hev
 ·exact Aec h hs hev
 ·exact AoM h hs hev
 ·exact AdO h hs hev
 ·exact sW h hs hev
 ·exact AbQ h hs hev
 ·exact nW h hs hev
 ·exact AiZ h hs hev
 ·exact Ai1 h hs hev
 ·rename_i c
  obtain ⟨callee,args,Ts⟩:=c;simp only [] at h;split at h
  ·rename_i b
   unfold Af8 at h;split at h
   ·rename_i x T1 ha ht
    have ha:args = #[x]:=Array.toList_inj.1 ha;have ht:Ts = #[T1]:=Array.toList_inj.1 ht;subst ha;subst ht;exact Aj9 h hs hev
   ·rename_i x y T1 T2 ha ht
    have ha:args = #[x,y]:=Array.toList_inj.1 ha;have ht:Ts = #[T1,T2]:=Array.toList_inj.1 ht;subst ha;subst ht;split at h
    ·rename_i e
     have e:=Nat.eq_of_beq_eq_true e;subst e;exact Aly h hs hag hev
    ·cases h
   ·rename_i x y T1 T2 ha ht
    have ha:args = #[x,y]:=Array.toList_inj.1 ha;have ht:Ts = #[T1,T2]:=Array.toList_inj.1 ht;subst ha;subst ht;split at h
    ·rename_i e
     rw [Bool.and_eq_true] at e;have e1:=Nat.eq_of_beq_eq_true e.1;have e2:=Nat.eq_of_beq_eq_true e.2;subst e1;subst e2;exact AiI h hs hev
    ·cases h
   ·cases h
  ·exact AfT hT hcf h hs hag hev hdom hn
  ·cases h
 ·cases h
structure XT where
 on:Bool
 pure:PK→List AV→Option AV
 idx:TypeId→CE→AV→Option CE
 load:TypeId→CE→CE→Option AV
 store:TypeId→CE→CE→AV→Option CE
 make:TypeId→AV→AV→Option (TypeId × CE × CE)
 lit:TypeId→Nat→List AV→Option AV
 app:TypeId→CE→Option (TypeId × CE × CE)
def XT.none:XT:=⟨false,λ_ _=>.none,λ_ _ _=>.none,λ_ _ _=>.none,λ_ _ _ _=>.none,λ_ _ _=>.none,λ_ _ _=>.none,λ_ _=>.none⟩
structure R_ (X:XT):Prop where
 pure:∀ k xs r,X.pure k xs=some r→∀(ρ:B6)(M:Nat→Prop)(w:World)(ρv:Operand→Value)(ys:List Operand),(∀ b,M b→b<w.heap.size)→Cz ρ M w xs (ys.map ρv) →
  ∃ v,(∀ o:Oper,o.op=Sr k ys→(execOp ρv o).run Tryz.prog w = .ok (.value v) w)∧RV ρ M w r v
 idx:∀ T j a p,X.idx T j a=some p→∀(ρ:B6)(M:Nat→Prop)(w:World)(g k:Nat)(v:Value),RV ρ M w a v→(Instr.indexAt T (.slice (some ⟨g,0,none⟩) (Dn.N j) k) v).run Tryz.prog w = .ok (.pointer (some ⟨g,Dn.J p,none⟩)) w
 load:∀ T c p r,X.load T c p=some r→∀(ρ:B6)(M:Nat→Prop)(w:World)(g:Nat)(cs:List Value),w.rangeAt g 0 cs→(Dn.B c).p M w cs→∃ v,(Instr.loadAt T (.pointer (some ⟨g,Dn.J p,none⟩))).run Tryz.prog w = .ok v w∧RV ρ M w r v
 store:∀ T c p a c',X.store T c p a=some c'→∀(ρ:B6)(M:Nat→Prop)(w:World)(cs:List Value)(v:Value),(Dn.B c).p M w cs→RV ρ M w a v →
  (Tryz.prog.info? T).map (·.size)=some v.cells.size∧(∀ x∈v.cells.toList,x.oneCell'=true)∧Dn.J p+v.cells.size≤cs.length∧(Dn.B c').p M w (cs.take (Dn.J p) ++ v.cells.toList ++ cs.drop (Dn.J p+v.cells.size))
 make:∀ T x y e c j,X.make T x y=some (e,c,j)→Ld e=true∧∀(ρ:B6)(M:Nat→Prop)(w:World)(vx vy:Value),RV ρ M w x vx→RV ρ M w y vy →
  ∃ cells,(Instr.makeSlice T vx vy).run Tryz.prog w = .ok (.slice (some ⟨w.heap.size,0,none⟩) (Dn.N j) (Dn.N j)) (w.alloc (.cells cells e))∧(Dn.B c).p M w cells.toList
 lit:∀ T n l r,X.lit T n l=some r→∀(ρ:B6)(M:Nat→Prop)(w:World)(g:Nat)(cs:List Value),¬ M g→g<w.heap.size→w.rangeAt g 0 cs→BC ρ M w l cs→RV ρ M w r (.slice (some ⟨g,0,none⟩) n n)
 app:∀ T e et c n,X.app T e=some (et,c,n)→Ld et=true∧Tryz.prog.underlying T=some (.slice et)∧(∃ i z,Tryz.prog.info? et=some i∧i.zero=some z∧i.size=4∧z.cells.size=4∧i.bytes≤1048576)∧1≤Dn.N n∧Dn.N n≤1048576 ∧
  ∀(M:Nat→Prop)(w:World)(v:Value),(Dn.X e).p M w [v]→∃ g off xs k,v = .slice (some ⟨g,off,none⟩) (Dn.N n) k∧w.rangeAt g off xs∧xs.length=Dn.N n*4∧(Dn.B c).p M w xs
theorem R_.no:R_ XT.none:=⟨λ_ _ _ h=>(by cases h),λ_ _ _ _ h=>(by cases h),λ_ _ _ _ h=>(by cases h),λ_ _ _ _ _ h=>(by cases h),λ_ _ _ _ _ _ h=>(by cases h),λ_ _ _ _ h=>(by cases h),λ_ _ _ _ _ h=>(by cases h)⟩
def opP(X:XT)(ev:Operand→Option AV)(op:Op):Option (AV × List Nat × HP):=match W8 op with
 | some (k,xs)=>match evs ev xs with
  | some l=>if l.all AV.one then (X.pure k l).map λr=>(r,[],[]) else none
  | none=>none
 | none=>none
noncomputable def AjH(X:XT)(t0:Nat)(ev:Operand→Option AV)(T:TypeId)(x y:Operand):Option (AV × List Nat × HP):=match ev x,ev y with
 | some (.sl _ 0 0 (some 0)),some (.ext 1 false e)=>(X.app T e).map λp=>(.slx t0 p.2.2,[],[(t0,some ⟨p.1,4,[],true,some p.2.1⟩)])
 | _,_=>none
noncomputable def opX(X:XT)(H:HP)(t0:Nat)(ev:Operand→Option AV)(op:Op):Option (AV × List Nat × HP):=match op with
 | .indexAddr T x y=>match ev x,ev y with
  | some (.slx o j),some a=>(X.idx T j a).map λp=>(.epx o p,[],[])
  | _,_=>opP X ev op
 | .load T x=>match ev x with
  | some (.epx o p)=>match lk H o with
   | some b=>match b.bl with
    | some c=>(X.load T c p).map λr=>(r,[o],[])
    | none=>none
   | none=>none
  | _=>opP X ev op
 | .store T x y=>match ev x,ev y with
  | some (.epx o p),some a=>match lk H o with
   | some b=>match b.bl with
    | some c=>(X.store T c p a).map λc'=>(.val undef,[o],[(o,some { b with bl:=some c' })])
    | none=>none
   | none=>none
  | _,_=>none
 | .makeSlice T x y=>match ev x,ev y with
  | some a,some b=>(X.make T a b).map λp=>(.slx t0 p.2.2,[],[(t0,some ⟨p.1,0,[],false,some p.2.1⟩)])
  | _,_=>none
 | .buildSlice T n ps=>match VQ ev t0 T n ps.toList with
  | some (_,_,[(_,some b)])=>(X.lit T n b.cs).map λr=>(r,[],[])
  | _=>none
 | .call c=>match c.callee,c.args.toList,c.argTypes.toList with
  | .builtin .append,[x,y],[T,T2]=>if Nat.beq T T2 then AjH X t0 ev T x y else none
  | _,_,_=>opP X ev op
 | _=>opP X ev op
theorem oI{v:Value}{w':World}{H':Nat→Option OB}(hs:Fr ρ M A w t0 H')(hb:Below w.heap.size w w')(hv:RV ρ M w' r v):Cw ρ M A w t0 H' [] r v w':=by
 have ht:Tr ρ M w ρ M w':=⟨Bz.of_below hb,λb hlt _=>hb.block b hlt,λ_ _ h=>h,λ_ _ h=>h⟩;have hblk:∀ o b g c,H' o=some b→ρ o=some (g,c)→w'.heap[g]? = w.heap[g]? := λo b g c e1 e2=>by
  obtain ⟨g1,c1,arr,cs,k⟩:=hs.heap.obj o b e1;have:g=g1:=by
   have:=k.at_;rw [e2] at this;simpa using congrArg Prod.fst (Option.some.inj this)
  exact hb.block g (this ▸ Bu k.blk)
 exact ⟨ρ,M,ht,hv,hs.heap.st ht (λ_ h=>h) hblk,λ_ _ e=>.inl e,λ_ h=>h,λ_ h=>.inl h,λb h=>Nat.lt_of_lt_of_le (hs.bnd b h) hb.size,QS.below hb,λo b g c e1 _ e2=>hblk o b g c e1 e2⟩
theorem AcY{X:XT}(hX:R_ X)(h:opP X ev op=some (r,R,U))(hs:Fr ρ M A w t0 Hr)(hev:∀ x a,ev x=some a→RV ρ M w a (ρv x)):DG op ρv w (Cw ρ M A w t0 Hr U r):=by
 unfold opP at h;split at h
 ·rename_i k xs hk
  split at h
  ·rename_i l hl
   split at h
   ·rename_i ho
    obtain ⟨r',hr,e⟩:=Option.map_eq_some_iff.1 h
    cases e
    obtain ⟨v,hrun,hv⟩:=hX.pure k l r hr ρ M w ρv xs hs.bnd (SW hev hl ho);exact BH hs (λo e=>hrun o (e.trans (QH hk).symm)) hv
   ·cases h
  ·cases h
 ·cases h
theorem Ha{arr:Array Value}{T:TypeId}{g:Nat}{cs tl:List Value}(hg:w.heap[g]? = some (.cells arr T (0,0)))(he:arr.toList=cs ++ tl):w.rangeAt g 0 cs:=by
 have:=IK hg he 0;rwa [List.drop_zero] at this
theorem AcA{X:XT}(hX:R_ X){T:TypeId}{x y:Operand}(h:AjH X t0 ev T x y=some (r,R,U))(hs:Fr ρ M A w t0 Hr)(hev:∀ x a,ev x=some a→RV ρ M w a (ρv x)):DG (.call { callee:=.builtin .append,args:=#[x,y],argTypes:=#[T,T] }) ρv w (Cw ρ M A w t0 Hr U r):=by
 unfold AjH at h;split at h
 ·rename_i o e hx hy
  obtain ⟨⟨et,c,n⟩,hp,he⟩:=Option.map_eq_some_iff.1 h
  cases he
  obtain ⟨hT,hd,⟨i,z,hi,hz,h4,hz4,hby⟩,h1,h2,hv⟩:=hX.app T e et c n hp;have hvy:Rp ρ M w (.ext 1 false e) [ρv y]:=hev _ _ hy;unfold Rp at hvy;obtain ⟨g,off,xs,k,ey,hr,hl,hb⟩:=hv M w _ hvy.2;have hvx:Rp ρ M w (.sl o 0 0 (some 0)) [ρv x]:=hev _ _ hx;unfold Rp at hvx;obtain ⟨g',c',kk,_,ex,_,ek,_⟩:=hvx;have ex:=(List.cons.inj ex).1;have ek:=ek 0 rfl;subst ek;generalize hN:Dn.N n=N at *;have hcells:∀(j:Nat)(v:Value),xs[j]? = some v→w.cell? ((⟨g,off,none⟩:Addr).add j)=some v:=λj v hv=>by rw [Addr.add_mid]; exact hr j v hv
  have hrun:=λty=>run_append_grow (P:=Tryz.prog) w T ty et i z hd hi hz ⟨g',0,none⟩ 0 0 [] (by simp) (λj v hv=>by simp at hv) ⟨g,off,none⟩ N k xs (by rw [hl,h4]) hcells (by omega) (by omega) (growslice_fits (by omega) (jI (by omega) (by omega)))
  intro o' ho;have go:(execOp ρv o').run Tryz.prog w = .ok (.value (.slice (some ⟨w.heap.size,0,none⟩) (0+N) (grownCap w (0+N) 0 et))) (w.drew.alloc (.cells (#[] ++ xs.toArray ++ Builtin.zeroCells z.cells (grownCap w (0+N) 0 et - (0+N))) et)):=by
   unfold execOp;rw [ho];have:=hrun o'.type;simp only [resolve,invoke,builtin,Sem.run_bind,Sem.run_pure,Result.andThen_ok,List.map_toArray,List.map_cons,List.map_nil,ex,ey,this]
  rw [go];refine LG (b0:=⟨et,4,[],true,some c⟩) (c:=grownCap w (0+N) 0 et) (cs:=xs) hs (C_ hT) hb ⟨(Builtin.zeroCells z.cells (grownCap w (0+N) 0 et - (0+N))).toList,by simp,λh=>by cases h⟩ (λ_=>⟨?_,grownCap_le_maxLen w (0+N) 0 et (by unfold maxLen; omega)⟩) (.inr rfl) [] (λx h=>by cases h) λρ' M' e=>?_
  ·have hge:=grownCap_ge w (0+N) 0 et
   rw [Array.size_append,Array.size_append,size_zeroCells,hz4];have e:xs.toArray.size=N*4:=by rw [List.size_toArray,hl]
   rw [e];show 0+N*4+(grownCap w (0+N) 0 et - (0+N))*4=4*grownCap w (0+N) 0 et;omega
  ·have hge:=grownCap_ge w (0+N) 0 et
   have key:∀ w':World,Rp ρ' M' w' (.slx t0 n) [.slice (some ⟨w.heap.size,0,none⟩) (0+N) (grownCap w (0+N) 0 et)]:=λw'=>by
    unfold Rp;rw [hN];refine ⟨_,grownCap w (0+N) 0 et,_,e,?_,Nat.le_trans (by omega) hge⟩;rw [show (0+N)=N from Nat.zero_add N]
   exact key (w.drew.alloc (.cells (#[] ++ xs.toArray ++ Builtin.zeroCells z.cells (grownCap w (0+N) 0 et - (0+N))) et))
 ·cases h
theorem As4{X:XT}(hX:R_ X)(h:opX X H t0 ev op=some (r,R,U))(hs:Fr ρ M A w t0 Hr)(hag:∀ o∈R,Hr o=lk H o)(hev:∀ x a,ev x=some a→RV ρ M w a (ρv x)):DG op ρv w (Cw ρ M A w t0 Hr U r):=by
 unfold opX at h;split at h
 ·rename_i T x y
  split at h
  ·rename_i o j a hx hy
   obtain ⟨p,hp,e⟩:=Option.map_eq_some_iff.1 h
   cases e
   have hv:Rp ρ M w (.slx o j) [ρv x]:=hev _ _ hx;unfold Rp at hv;obtain ⟨g,k,cc,e1,e2,e3⟩:=hv;have hrun:=hX.idx T j a p hp ρ M w g k (ρv y) (hev _ _ hy);refine BH hs (v:=.pointer (some ⟨g,Dn.J p,none⟩)) (λo' ho=>?_) ?_
   ·unfold execOp
    rw [ho];show Sem.run _ (Instr.indexAt T (ρv x) (ρv y) >>= λx=>pure (Next.value x)) w=_;rw [(List.cons.inj e2).1];exact DC hrun
   ·show Rp ρ M w (.epx o p) [_]
    unfold Rp;exact ⟨g,cc,e1,rfl⟩
  ·exact AcY hX h hs hev
 ·rename_i T x
  split at h
  ·rename_i o p hx
   split at h
   ·rename_i b hb
    split at h
    ·rename_i c hc
     obtain ⟨r',hr,e⟩:=Option.map_eq_some_iff.1 h
     cases e
     obtain ⟨g,cc,arr,cs,k⟩:=hs.heap.obj o b ((hag o (by simp)).trans hb);have hv:Rp ρ M w (.epx o p) [ρv x]:=hev _ _ hx;unfold Rp at hv;obtain ⟨g',cc',e1,e2⟩:=hv;rw [k.at_] at e1;simp only [Option.some.injEq,Prod.mk.injEq] at e1;obtain ⟨tl,he,_⟩:=k.pre;have hcells:=k.cells;unfold Cj at hcells;rw [hc] at hcells;obtain ⟨v,hrun,hv⟩:=hX.load T c p r hr ρ M w g cs (Ha k.blk he) hcells;refine BH hs (v:=v) (λo' ho=>?_) hv;unfold execOp;rw [ho];show Sem.run _ (Instr.loadAt T (ρv x) >>= λx=>pure (Next.value x)) w=_;rw [(List.cons.inj e2).1,← e1.1];exact DC hrun
    ·cases h
   ·cases h
  ·exact AcY hX h hs hev
 ·rename_i T x y
  split at h
  ·rename_i o p a hx hy
   split at h
   ·rename_i b hb
    split at h
    ·rename_i c hc
     obtain ⟨c',hr,e⟩:=Option.map_eq_some_iff.1 h
     cases e
     have hbr:Hr o=some b:=(hag o (by simp)).trans hb;obtain ⟨g,cc,arr,cs,k⟩:=hs.heap.obj o b hbr;have hv:Rp ρ M w (.epx o p) [ρv x]:=hev _ _ hx;unfold Rp at hv;obtain ⟨g',cc',e1,e2⟩:=hv;rw [k.at_] at e1;simp only [Option.some.injEq,Prod.mk.injEq] at e1;obtain ⟨tl,he,ht⟩:=k.pre;have hcells:=k.cells;unfold Cj at hcells;rw [hc] at hcells;obtain ⟨q1,q2,q3,q4⟩:=hX.store T c p a c' hr ρ M w cs (ρv y) hcells (hev _ _ hy);have hsz:arr.size=cs.length+tl.length:=by rw [← List.length_append,← he]; simp
     have hlc:(ρv y).cells.toList.length=(ρv y).cells.size:=by simp
     have hrun:(Instr.storeAt T (.pointer (some ⟨g,Dn.J p,none⟩)) (ρv y)).run Tryz.prog w = .ok () (w.setRow g (arr.toList.take (Dn.J p) ++ (ρv y).cells.toList ++ arr.toList.drop (Dn.J p+(ρv y).cells.toList.length)).toArray):=by
      have:=run_storeCells_at Tryz.prog g (Dn.J p) b.ty (ρv y).cells.toList 0 arr w k.blk (by omega) q2;simp only [Nat.add_zero] at this
      cases hi:Tryz.prog.info? T with
      | none=>rw [hi] at q1; cases q1
      | some i =>
       rw [hi] at q1;have hs':(ρv y).cells.size=i.size:=by simpa using q1.symm
       simp [Instr.storeAt,Instr.sureAddr,storeVar,Sem.run_bind,sizeOf,typeInfo,hi,hs',this]
     intro o' ho';have hex:(execOp ρv o').run Tryz.prog w = .ok .skip (w.setRow g (arr.toList.take (Dn.J p) ++ (ρv y).cells.toList ++ arr.toList.drop (Dn.J p+(ρv y).cells.toList.length)).toArray):=by
      unfold execOp;rw [ho'];show Sem.run _ (Instr.storeAt T (ρv x) (ρv y) >>= λ_=>pure Next.skip) w=_;rw [(List.cons.inj e2).1,← e1.1];exact iV hrun
     rw [hex];refine Rn (b1:={ b with bl:=some c' }) hs hbr k rfl rfl rfl (cs':=cs.take (Dn.J p) ++ (ρv y).cells.toList ++ cs.drop (Dn.J p+(ρv y).cells.size)) q4 ⟨tl,?_,ht⟩ ?_ o false (.inl ⟨rfl,rfl⟩) _ _ λ_ _ _ _ _=>rfl
     ·rw [he,hlc,List.take_append_of_le_length (by omega),List.drop_append_of_le_length (by omega)]
      simp
     ·simp only [List.size_toArray,List.length_append,List.length_take,List.length_drop,Array.length_toList]
      omega
    ·cases h
   ·cases h
  ·cases h
 ·rename_i T x y
  split at h
  ·rename_i a b hx hy
   obtain ⟨p,hp,e⟩:=Option.map_eq_some_iff.1 h;obtain ⟨e0,c,j⟩:=p
   cases e
   obtain ⟨hT,hm⟩:=hX.make T a b e0 c j hp;obtain ⟨cells,hrun,hc⟩:=hm ρ M w (ρv x) (ρv y) (hev _ _ hx) (hev _ _ hy);intro o ho;have hex:(execOp ρv o).run Tryz.prog w = .ok (.value (.slice (some ⟨w.heap.size,0,none⟩) (Dn.N j) (Dn.N j))) (w.alloc (.cells cells e0)):=by
    unfold execOp;rw [ho];show Sem.run _ (Instr.makeSlice T (ρv x) (ρv y) >>= λx=>pure (Next.value x)) w=_;exact DC hrun
   rw [hex];refine LG (b0:=⟨e0,0,[],false,some c⟩) (c:=0) hs (C_ hT) (cs:=cells.toList) hc ⟨[],by simp,λ_=>rfl⟩ (λh=>by cases h) (.inl rfl) [] (λx h=>by cases h) λρ' M' e=>?_
   show Rp ρ' M' (w.alloc (.cells cells e0)) (.slx t0 j) [.slice (some ⟨w.heap.size,0,none⟩) (Dn.N j) (Dn.N j)];unfold Rp;exact ⟨_,_,_,e,rfl,Nat.le_refl _⟩
  ·cases h
 ·rename_i T n ps
  split at h
  ·rename_i r0 R0 o0 b hl
   obtain ⟨r',hr,e⟩:=Option.map_eq_some_iff.1 h
   cases e
   obtain ⟨e,k,l',arr,_,hU,hT,hc,hrun⟩:=dL (ρ:=ρ) (M:=M) (w:=w) hl hev;simp only [List.cons.injEq,Prod.mk.injEq,Option.some.injEq,and_true] at hU;obtain ⟨_,rfl⟩:=hU;intro o ho;rw [hrun o ho];have hb:Below w.heap.size w (w.alloc (.cells arr e)):=Aj w _;have hn:=heap_alloc_new w (.cells arr e);have hsz:(w.alloc (.cells arr e)).heap.size=w.heap.size+1:=BQ _ _;exact oI hs hb (hX.lit T n l' _ hr ρ M _ w.heap.size arr.toList (λhm=>Nat.lt_irrefl _ (hs.bnd _ hm)) (by omega) (Ha hn (List.append_nil _).symm) (BC.st ⟨Bz.of_below hb,λb hlt _=>hb.block b hlt,λ_ _ h=>h,λ_ _ h=>h⟩ _ _ hc))
  ·cases h
 ·rename_i c
  obtain ⟨callee,args,Ts⟩:=c;simp only [] at h;split at h
  ·rename_i x y T T2 ha ht
   have ha:args = #[x,y]:=Array.toList_inj.1 ha;have ht:Ts = #[T,T2]:=Array.toList_inj.1 ht;subst ha;subst ht;split at h
   ·rename_i e
    have e:=Nat.eq_of_beq_eq_true e;subst e;exact AcA hX h hs hev
   ·cases h
  ·exact AcY hX h hs hev
 ·exact AcY hX h hs hev
def orC(a b:DZ):DZ:=λf xs H n0 t0=>match a f xs H n0 t0 with
 | some r=>some r
 | none=>b f xs H n0 t0
def noC:DZ:=λ_ _ _ _ _=>none
theorem AbR{a b:DZ}(ha:EG a)(hb:EG b):EG (orC a b):=λf xs H n0 t0 r U h=>by
 unfold orC at h;split at h
 ·rename_i p hp
  cases h
  exact ha f xs H n0 t0 r U hp
 ·exact hb f xs H n0 t0 r U h
theorem qO:EG noC:=λf xs H n0 t0 r U h=>by cases h
structure Tb where
 prim:oT
 x:XT
 call:DZ
structure Qv (T:Tb):Prop where
 prim:LO T.prim
 x:R_ T.x
 call:EG T.call
noncomputable def opA(T:Tb)(cf:DZ)(H:HP)(n0 t0:Nat)(ev:Operand→Option AV)(op:Op):Option (AV × List Nat × HP):=match T.x.on with
 | false=>opB T.prim cf H n0 t0 ev op
 | true=>match opX T.x H t0 ev op with
  | some p=>some p
  | none=>opB T.prim cf H n0 t0 ev op
theorem nS{T:Tb}(hT:Qv T)(hcf:EG cf)(h:opA T cf H n0 t0 ev op=some (r,R,U))(hs:Fr ρ M A w t0 Hr)(hag:∀ o∈R,Hr o=lk H o)(hev:∀ x a,ev x=some a→RV ρ M w a (ρv x))(hdom:∀ o p,ρ o=some p→o<n0)(hn:t0+16≤n0):DG op ρv w (Cw ρ M A w t0 Hr U r):=by
 unfold opA at h;split at h
 ·exact Rl hT.prim hcf h hs hag hev hdom hn
 ·split at h
  ·rename_i p hp
   cases h
   exact As4 hT.x hp hs hag hev
  ·exact Rl hT.prim hcf h hs hag hev hdom hn
end
end
section
variable [Dn]
structure Fm where
 tm:List AV
 H:HP
 nx:Nat
 wr:List Nat
abbrev RC:=List Nat × HP
def LU(m j:Nat):Bool:=Nat.testBit m j
def orL(prev:List Nat):List Nat→Nat
 | []=>0
 | j :: r=>2 ^ j ||| prev.getD j 0 ||| orL prev r
theorem eV{prev:List Nat}{j:Nat}:∀{l:List Nat},LU (orL prev l) j=true→∃ k∈l,k=j ∨ LU (prev.getD k 0) j=true
 | [],h=>by simp [orL,LU] at h
 | k :: r,h=>by
  unfold orL LU at h;rw [Nat.testBit_or,Nat.testBit_or,Bool.or_eq_true,Bool.or_eq_true] at h
  rcases h with (h | h) | h
  ·rw [Nat.testBit_two_pow] at h
   exact ⟨k,by simp,.inl (of_decide_eq_true h)⟩
  ·exact ⟨k,by simp,.inr h⟩
  ·obtain ⟨k',h1,h2⟩:=eV h
   exact ⟨k',by simp [h1],h2⟩
def Anw(o:Oper):List Nat:=(o.after.toList.filter (Region.binds .any)).map (·.on)
def Acz(draw:Bool):List Oper→Nat→List Nat→List Nat
 | [],_,prev=>prev
 | o :: r,i,prev=>Acz draw r (i+1) (prev ++ [if draw then orL prev (Anw o) else 2 ^ i - 1])
def Arx(draw:Bool)(ops:Array Oper)(cl:List Nat):Bool:=(List.range ops.size).all λi=>Nat.beq (cl.getD i 0) (if draw then orL cl (CN ops i) else 2 ^ i - 1)
def Qg(t:Nat):List Oper→Nat→Option Nat
 | [],_=>none
 | o :: r,i=>match o.dst with
  | some d=>if Nat.beq d t then some i else Qg t r (i+1)
  | none=>Qg t r (i+1)
theorem LX{t:Nat}:∀{l:List Oper}{i j:Nat},Qg t l i=some j→i≤j∧∃ o,l[j - i]? = some o∧o.dst=some t
 | [],_,_,h=>by cases h
 | o :: r,i,j,h=>by
  unfold Qg at h;have rec_:Qg t r (i+1)=some j→i≤j∧∃ o',(o :: r)[j - i]? = some o'∧o'.dst=some t:=λh=>by
   obtain ⟨h1,o',h2,h3⟩:=LX h;refine ⟨by omega,o',?_,h3⟩;rw [show j - i=(j - (i+1))+1 by omega];exact h2
  split at h
  ·rename_i d hd
   split at h
   ·rename_i e
    have e:=Nat.eq_of_beq_eq_true e
    cases h
    exact ⟨Nat.le_refl _,o,by simp,by rw [hd,e]⟩
   ·exact rec_ h
  ·exact rec_ h
theorem IW{t:Nat}:∀{l:List Oper}{i:Nat},Qg t l i=none→∀ o∈l,o.dst≠some t
 | [],_,_,_,h=>by cases h
 | o :: r,i,h,o',ho=>by
  unfold Qg at h;split at h
  ·rename_i d hd
   split at h
   ·cases h
   ·rename_i e
    rcases List.mem_cons.1 ho with rfl | ho
    ·rw [hd]
     intro e2;exact e (by rw [Option.some.inj e2]; exact Nat.beq_refl t)
    ·exact IW h o' ho
  ·rename_i hd
   rcases List.mem_cons.1 ho with rfl | ho
   ·rw [hd]; simp
   ·exact IW h o' ho
def evA(tm:List AV)(opsL:List Oper)(cl:List Nat)(i:Nat)(res:List AV):Operand→Option AV
 | .const v=>some (.val v)
 | .func f=>some (.fn f [] [])
 | .global _=>none
 | .tmp t=>match Qg t opsL 0 with
  | some j=>if Nat.blt j i then (if LU (cl.getD i 0) j then res[j]? else none) else if Nat.beq j i || LU (cl.getD j 0) i then tm[t]? else none
  | none=>tm[t]?
def JR(opsL:List Oper)(cl:List Nat)(i:Nat)(res:List AV)(o:Oper):Option Bool:=match o.guard with
 | none=>some true
 | some (j,b)=>if Nat.blt j i && LU (cl.getD i 0) j && ((opsL[j]?).bind (·.dst)).isSome then (match res[j]? with
  | some (.val (.bool c))=>some (c == b)
  | some (.val (.tuple vs))=>if vs.size == 0 then some false else none
  | _=>none) else none
def OJ(a b:List Nat):Bool:=a.all λx=>!memN x b
theorem L8{a b:List Nat}(h:OJ a b=true){x:Nat}(ha:x∈a)(hb:x∈b):False:=by
 have:=List.all_eq_true.1 h x ha;rw [EL.2 hb] at this
 cases this
def It(c:Nat)(R D:List Nat):List RC→Nat→Bool
 | [],_=>true
 | p :: r,j=>(LU c j || (OJ D p.1 && OJ D (p.2.map (·.1)) && OJ R (p.2.map (·.1)))) && It c R D r (j+1)
theorem HF{c:Nat}{R D:List Nat}:∀{l:List RC}{j0 j:Nat}{p:RC},It c R D l j0=true→l[j]? = some p→LU c (j0+j)=true ∨ ((∀ x∈D,x ∉ p.1)∧(∀ x∈D,x ∉ p.2.map (·.1))∧∀ x∈R,x ∉ p.2.map (·.1))
 | [],_,_,_,_,h=>by simp at h
 | q :: r,j0,j,p,h,hj=>by
  unfold It at h;rw [Bool.and_eq_true] at h
  cases j with
  | zero =>
   simp only [List.getElem?_cons_zero,Option.some.injEq] at hj;subst hj;have h1:=h.1;rw [Bool.or_eq_true,Bool.and_eq_true,Bool.and_eq_true] at h1
   rcases h1 with h1 | h1
   ·exact .inl h1
   ·exact .inr ⟨λx hx hy=>L8 h1.1.1 hx hy,λx hx hy=>L8 h1.1.2 hx hy,λx hx hy=>L8 h1.2 hx hy⟩
  | succ j =>
   have:=HF (j:=j) h.2 (by simpa using hj);rw [show j0+1+j=j0+(j+1) by omega] at this;exact this
noncomputable def Y6(T:Tb)(cf:DZ)(tm:List AV)(opsL:List Oper)(cl:List Nat)(base n0:Nat):List Oper→Nat→List AV→HP→List RC→Option (List AV × HP × List RC)
 | [],_,res,H,rc=>some (res,H,rc)
 | o :: r,i,res,H,rc=>match JR opsL cl i res o with
  | none=>none
  | some false=>Y6 T cf tm opsL cl base n0 r (i+1) (res ++ [.val undef]) H (rc ++ [([],[])])
  | some true=>match opA T cf H n0 (base+16*i) (evA tm opsL cl i res) o.op with
   | none=>none
   | some p=>if It (cl.getD i 0) p.2.1 (p.2.2.map (·.1)) rc 0 then Y6 T cf tm opsL cl base n0 r (i+1) (res ++ [p.1]) (p.2.2 ++ H) (rc ++ [(p.2.1,p.2.2)]) else none
def aY(H0:HP)(rc:List RC):HP:=rc.foldl (λH p=>p.2 ++ H) H0
theorem PH(H0:HP)(rc:List RC)(p:RC):aY H0 (rc ++ [p])=p.2 ++ aY H0 rc:=by simp [aY]
section
variable {T : Tb} {cf : DZ} {tm : List AV} {opsL : List Oper} {cl : List Nat} {base n0 : Nat} {H0 : HP}
def TB(T:Tb)(cf:DZ)(tm:List AV)(opsL:List Oper)(cl:List Nat)(base n0:Nat)(H0:HP)(res:List AV)(rc:List RC)(i:Nat)(o:Oper):Prop:=
  ∃ r R U,res[i]? = some r∧rc[i]? = some (R,U)∧It (cl.getD i 0) R (U.map (·.1)) (rc.take i) 0=true ∧
    ((JR opsL cl i (res.take i) o=some true∧opA T cf (aY H0 (rc.take i)) n0 (base+16*i) (evA tm opsL cl i (res.take i)) o.op=some (r,R,U)) ∨
     (JR opsL cl i (res.take i) o=some false∧r = .val undef∧R=[]∧U=[]))
theorem O0{c:Nat}:∀(l:List RC)(j:Nat),It c [] [] l j=true
 | [],_=>rfl
 | _ :: r,j=>by unfold It; simp [OJ,O0 r (j+1)]
theorem QW:∀{l:List Oper}{i:Nat}{res:List AV}{H:HP}{rc:List RC}{res':List AV}{H':HP}{rc':List RC},Y6 T cf tm opsL cl base n0 l i res H rc=some (res',H',rc')→res.length=i→rc.length=i→H=aY H0 rc →
  res'.length=i+l.length∧rc'.length=i+l.length∧H'=aY H0 rc'∧(∃ t,res'=res ++ t)∧(∃ t,rc'=rc ++ t)∧∀ j o,l[j]? = some o→TB T cf tm opsL cl base n0 H0 res' rc' (i+j) o
 | [],i,res,H,rc,res',H',rc',h,h1,h2,h3=>by
  simp only [Y6,Option.some.injEq,Prod.mk.injEq] at h;obtain ⟨rfl,rfl,rfl⟩:=h;exact ⟨by simp [h1],by simp [h2],h3,⟨[],by simp⟩,⟨[],by simp⟩,λj o e=>by simp at e⟩
 | o :: r,i,res,H,rc,res',H',rc',h,h1,h2,h3=>by
  unfold Y6 at h;have key:∀(v:AV)(p:RC),Y6 T cf tm opsL cl base n0 r (i+1) (res ++ [v]) (p.2 ++ H) (rc ++ [p])=some (res',H',rc')→It (cl.getD i 0) p.1 (p.2.map (·.1)) rc 0=true→((JR opsL cl i res o=some true∧opA T cf H n0 (base+16*i) (evA tm opsL cl i res) o.op=some (v,p.1,p.2)) ∨ (JR opsL cl i res o=some false∧v = .val undef∧p.1=[]∧p.2=[])) →
    res'.length=i+(r.length+1)∧rc'.length=i+(r.length+1)∧H'=aY H0 rc'∧(∃ t,res'=res ++ t)∧(∃ t,rc'=rc ++ t)∧∀ j o',(o :: r)[j]? = some o'→TB T cf tm opsL cl base n0 H0 res' rc' (i+j) o':=λv p hh hc hg=>by
   obtain ⟨k1,k2,k3,⟨t1,k4⟩,⟨t2,k5⟩,k6⟩:=QW hh (by simp [h1]) (by simp [h2]) (by rw [PH,h3]);refine ⟨by omega,by omega,k3,⟨[v] ++ t1,by rw [k4,List.append_assoc]⟩,⟨[p] ++ t2,by rw [k5,List.append_assoc]⟩,λj o' e=>?_⟩
   cases j with
   | zero =>
    simp only [List.getElem?_cons_zero,Option.some.injEq] at e;subst e;have ht1:res'.take i=res:=by rw [k4,List.append_assoc,← h1,List.take_left]
    have ht2:rc'.take i=rc:=by rw [k5,List.append_assoc,← h2,List.take_left]
    refine ⟨v,p.1,p.2,?_,?_,by rw [Nat.add_zero,ht2]; exact hc,?_⟩
    ·rw [k4,List.append_assoc,Nat.add_zero,← h1,List.getElem?_append_right (Nat.le_refl _)]
     simp
    ·rw [k5,List.append_assoc,Nat.add_zero,← h2,List.getElem?_append_right (Nat.le_refl _)]
     simp
    ·rw [Nat.add_zero,ht1,ht2,← h3]
     exact hg
   | succ j =>
    have:=k6 j o' (by simpa using e);rw [show i+1+j=i+(j+1) by omega] at this;exact this
  split at h
  ·cases h
  ·rename_i hg
   exact key (.val undef) ([],[]) h (O0 rc 0) (.inr ⟨hg,rfl,rfl,rfl⟩)
  ·rename_i hg
   split at h
   ·cases h
   ·rename_i p hp
    split at h
    ·rename_i hc
     exact key _ _ h hc (.inl ⟨hg,hp⟩)
    ·cases h
end
structure IM (A:Nat→Prop) (ops:Array Oper) (tm:List AV) (cl:List Nat) (base:Nat) (H0:HP) (res:List AV) (rc:List RC) (a0:Act) (w1:World) (ρ1:B6) (M1:Nat→Prop)
  (m:Array Bool) (a:Act) (w:World) (ρ:B6) (M:Nat→Prop) (H:Nat→Option OB):Prop where
 size:a.tmps.size=tm.length
 defers:a.defers=[]
 low:∀ t,(∀ i,AU ops i=some t→m.getD i false=false)→a.tmps[t]? = a0.tmps[t]?
 len:m.size=ops.size
 closed:∀ i j,m.getD i false=true→LU (cl.getD i 0) j=true→m.getD j false=true
 facts:∀ i d r,m.getD i false=true→AU ops i=some d→res[i]? = some r→∃ v,a.tmps[d]? = some v∧RV ρ M w r v
 heap:RH ρ M A w H
 hc:∀ o k,(∀ j R U,rc[j]? = some (R,U)→(∃ x∈U,x.1=o)→(m.getD j false=true ↔ j<k))→H o=lk (aY H0 (rc.take k)) o
 dom:∀ o p,ρ o=some p→ρ1 o=some p ∨ ∃ j,j<ops.size∧m.getD j false=true∧base+16*j≤o∧o<base+16*j+16
 bnd:∀ b,M b→b<w.heap.size
 tr:Tr ρ1 M1 w1 ρ M w
 sup:∀ b,M1 b→M b
 mon:∀ b,M b→M1 b ∨ w1.heap.size≤b
 fr:QS A w1 w
 kp:∀ o b g c,lk H0 o=some b→(∀ j R U,m.getD j false=true→rc[j]? = some (R,U)→∀ x∈U,x.1≠o)→ρ1 o=some (g,c)→w.heap[g]? = w1.heap[g]?
section
variable {T : Tb} {cf : DZ} {A : Nat → Prop} {ops : Array Oper} {tm : List AV} {cl : List Nat} {base n0 : Nat} {H0 : HP} {res : List AV} {rc : List RC} {a0 : Act} {w1 : World} {ρ1 : B6} {M1 : Nat → Prop} {m : Array Bool} {a : Act} {w : World} {ρ : B6} {M : Nat → Prop} {H : Nat → Option OB} {Q : Exit → Act → World → Prop}
theorem KC{o i:Nat}:∀{k:Nat},i≤k→(∀ j R U,i≤j→j<k→rc[j]? = some (R,U)→∀ x∈U,x.1≠o)→lk (aY H0 (rc.take k)) o=lk (aY H0 (rc.take i)) o
 | 0,hk,_=>by rw [show i=0 by omega]
 | k+1,hk,h=>by
  by_cases e:i=k+1
  ·rw [e]
  ·have ih:=KC (k:=k) (by omega) λj R U h1 h2=>h j R U h1 (by omega)
   rw [← ih]
   cases hr:rc[k]? with
   | none =>
    rw [List.take_of_length_le (by have:=List.getElem?_eq_none_iff.1 hr; omega),List.take_of_length_le (List.getElem?_eq_none_iff.1 hr)]
   | some p =>
    rw [List.take_add_one,hr,Option.toList_some,PH,Rb,K7 λx hx=>h k p.1 p.2 (by omega) (by omega) hr x hx]
theorem RN(hd1:Iv ops=true)(hdl:∀ i d,AU ops i=some d→d<tm.length)(hI:IM A ops tm cl base H0 res rc a0 w1 ρ1 M1 m a w ρ M H){i:Nat}(hi:i<ops.size)(hm:m.getD i false=false){o:Oper}(ho:ops[i]? = some o){r:AV}{v:Value}{ρ':B6}{M':Nat→Prop}{w':World}(hr:res[i]? = some r)(ht:Tr ρ M w ρ' M' w')(hv:RV ρ' M' w' r v) :
  (a.put o.dst v).tmps.size=tm.length∧(a.put o.dst v).defers=[]∧(∀ t,(∀ j,AU ops j=some t→(m.setIfInBounds i true).getD j false=false)→(a.put o.dst v).tmps[t]? = a0.tmps[t]?) ∧
  (∀ j d r,(m.setIfInBounds i true).getD j false=true→AU ops j=some d→res[j]? = some r→∃ v',(a.put o.dst v).tmps[d]? = some v'∧RV ρ' M' w' r v'):=by
 have hdi:AU ops i=o.dst:=by unfold AU; rw [ho]; rfl
 have hset:(m.setIfInBounds i true).getD i false=true:=Kw (by rw [hI.len]; exact hi)
 cases hd:o.dst with
 | none =>
  rw [hd] at hdi;refine ⟨hI.size,hI.defers,λt h=>hI.low t λj hj=>RD (h j hj),λj d r' h1 h2 h3=>?_⟩
  rcases BA h1 with rfl | h1
  ·rw [hdi] at h2; cases h2
  ·obtain ⟨v',e,k⟩:=hI.facts j d r' h1 h2 h3
   exact ⟨v',e,k.st ht⟩
 | some d0 =>
  rw [hd] at hdi;have hlt:d0<a.tmps.size:=by rw [hI.size]; exact hdl i d0 hdi
  refine ⟨by simp [Act.put,hI.size],hI.defers,λt h=>?_,λj d r' h1 h2 h3=>?_⟩
  ·have hne:d0≠t:=λe=>by
    have:=h i (by rw [hdi,e]);rw [hset] at this
    cases this
   rw [Ef v hne];exact hI.low t λj hj=>RD (h j hj)
  ·rcases BA h1 with rfl | h1
   ·rw [hdi] at h2
    obtain rfl:=Option.some.inj h2;rw [hr] at h3;obtain rfl:=Option.some.inj h3;exact ⟨v,FI v hlt,hv⟩
   ·obtain ⟨v',e,k⟩:=hI.facts j d r' h1 h2 h3
    refine ⟨v',?_,k.st ht⟩;rw [Ef v ?_]
    ·exact e
    ·rintro rfl
     have:=G8 hd1 hdi h2;subst this;rw [hm] at h1
     cases h1
theorem Afe(hT:Qv T)(hcf:EG cf)(hn0:n0=base+16*ops.size)(hd1:Iv ops=true)(hdl:∀ i d,AU ops i=some d→d<tm.length)(h1d:∀ o p,ρ1 o=some p→o<base)(hA:∀ b,w1.heap.size≤b→A b)
  (hsl:∀(t:Nat)(x:AV),tm[t]? = some x→∃ v,a0.tmps[t]? = some v∧RV ρ1 M1 w1 x v)
  (hall:∀ i o,ops[i]? = some o→TB T cf tm ops.toList cl base n0 H0 res rc i o)
  (hI:IM A ops tm cl base H0 res rc a0 w1 ρ1 M1 m a w ρ M H) {i:Nat} (hi:i<ops.size) (hm:m.getD i false=false) (hcl:∀ j,LU (cl.getD i 0) j=true→m.getD j false=true) :
  wpOp Tryz.prog ops Q i (λa' w'=>∃ ρ' M' H',IM A ops tm cl base H0 res rc a0 w1 ρ1 M1 (m.setIfInBounds i true) a' w' ρ' M' H') a w:=by
 obtain ⟨o,ho⟩:∃ o,ops[i]? = some o:=⟨_,Array.getElem?_eq_getElem hi⟩;obtain ⟨r,R,U,hr,hrc,hconf,hcase⟩:=hall i o ho;have hlen':(m.setIfInBounds i true).size=ops.size:=by rw [Array.size_setIfInBounds]; exact hI.len
 have hset:(m.setIfInBounds i true).getD i false=true:=Kw (by rw [hI.len]; exact hi);have hclosed':∀ x j,(m.setIfInBounds i true).getD x false=true→LU (cl.getD x 0) j=true→(m.setIfInBounds i true).getD j false=true:=λx j h1 h2=>by
  rcases BA h1 with rfl | h1
  ·exact getD_set_true (hcl j h2)
  ·exact getD_set_true (hI.closed x j h1 h2)
 have hres:∀ j x,(res.take i)[j]? = some x→res[j]? = some x:=λj x e=>by
  rw [List.getElem?_take] at e;split at e
  ·exact e
  ·cases e
 have hguard:∀ b,JR ops.toList cl i (res.take i) o=some b→Region.wanted o (yielded ops a.tmps)=b:=λb hg=>by
  have:Ez ops a o.guard b:=by
   unfold JR at hg;split at hg
   ·rename_i e
    cases hg
    rw [e];exact OX
   ·rename_i j q e
    rw [e];split at hg
    ·rename_i hc
     rw [Bool.and_eq_true,Bool.and_eq_true] at hc;obtain ⟨d,hd⟩:=Option.isSome_iff_exists.1 hc.2;have hd:AU ops j=some d:=by
      unfold AU;rw [← Array.getElem?_toList];exact hd
     have hmj:=hcl j hc.1.2;split at hg
     ·rename_i c hrj
      cases hg
      obtain ⟨v,e1,e2⟩:=hI.facts j d _ hmj hd (hres j _ hrj);have e2:v = .bool c:=e2;subst e2;exact WP hd e1
     ·rename_i vs hrj
      split at hg
      ·rename_i hz
       cases hg
       obtain ⟨v,e1,e2⟩:=hI.facts j d _ hmj hd (hres j _ hrj);have e2:v = .tuple vs:=e2;have hz:vs = #[]:=by
        apply Array.eq_empty_of_size_eq_zero;simpa using hz
       rw [hz] at e2;subst e2;exact Ms hd e1
      ·cases hg
     ·cases hg
    ·cases hg
  exact this o rfl
 have noU:U=[]→∀ o k,(∀ j R U,rc[j]? = some (R,U)→(∃ x∈U,x.1=o)→((m.setIfInBounds i true).getD j false=true ↔ j<k))→H o=lk (aY H0 (rc.take k)) o:=λhU o k h=>hI.hc o k λj R' U' h1 h2=>by
  rw [← h j R' U' h1 h2];have hne:i≠j:=by
   rintro rfl
   rw [hrc] at h1;simp only [Option.some.injEq,Prod.mk.injEq] at h1;obtain ⟨x,hx,_⟩:=h2;rw [← h1.2,hU] at hx
   cases hx
  rw [getD_set_ne false hne]
 unfold wpOp;simp only [ho]
 rcases hcase with ⟨hg,hop⟩ | ⟨hg,rfl,rfl,rfl⟩
 ·rw [if_pos (hguard _ hg)]
  left;have hdom0:∀ o p,ρ o=some p→o<n0:=λo p e=>by
   rcases hI.dom o p e with h | ⟨j,h1,h2,h3,h4⟩
   ·have:=h1d o p h; omega
   ·omega
  have hs:Fr ρ M A w (base+16*i) H:=by
   refine ⟨hI.heap,hI.bnd,λo h1 h2=>?_,λb hb=>hA b (by have:=hI.fr.size; omega)⟩
   cases e:ρ o with
   | none=>rfl
   | some p =>
    exfalso
    rcases hI.dom o p e with h | ⟨j,h3,h4,h5,h6⟩
    ·have:=h1d o p h; omega
    ·have:j=i:=by omega
     subst this;rw [hm] at h4
     cases h4
  have hag:∀ o∈R,H o=lk (aY H0 (rc.take i)) o:=λo hoR=>hI.hc o i λj R' U' h1 h2=>by
   obtain ⟨x,hx,rfl⟩:=h2;have hxU:x.1∈U'.map (·.1):=List.mem_map.2 ⟨x,hx,rfl⟩
   rcases Nat.lt_trichotomy j i with hlt | rfl | hgt
   ·refine ⟨λ_=>hlt,λ_=>?_⟩
    have hj:(rc.take i)[j]? = some (R',U'):=by rw [List.getElem?_take,if_pos hlt]; exact h1
    rcases HF hconf hj with hb | ⟨_,_,h3⟩
    ·rw [Nat.zero_add] at hb; exact hcl j hb
    ·exact absurd hxU (h3 _ hoR)
   ·rw [hm]
    exact ⟨λh=>by (cases h),λh=>by omega⟩
   ·refine ⟨λhmj=>?_,λh=>by omega⟩
    exfalso;have hjlt:j<ops.size:=by
     rcases Nat.lt_or_ge j ops.size with h | h
     ·exact h
     ·have:m.getD j false=false:=by
       simp [Array.getD_eq_getD_getElem?,Array.getElem?_eq_none (by rw [hI.len]; exact h)]
      rw [this] at hmj; cases hmj
    obtain ⟨oj,hoj⟩:∃ o,ops[j]? = some o:=⟨_,Array.getElem?_eq_getElem hjlt⟩;obtain ⟨_,Rj,Uj,_,hrcj,hconfj,_⟩:=hall j oj hoj;rw [h1] at hrcj;simp only [Option.some.injEq,Prod.mk.injEq] at hrcj;obtain ⟨rfl,rfl⟩:=hrcj;have hi':(rc.take j)[i]? = some (R,U):=by rw [List.getElem?_take,if_pos hgt]; exact hrc
    rcases HF hconfj hi' with hb | ⟨h3,_,_⟩
    ·rw [Nat.zero_add] at hb
     have:=hI.closed j i hmj hb;rw [hm] at this; cases this
    ·exact h3 _ hxU hoR
  have hev:∀ x y,evA tm ops.toList cl i (res.take i) x=some y→RV ρ M w y (a.eval x):=λx y hx=>by
   have old:∀ t,tm[t]? = some y→(∀ j,AU ops j=some t→m.getD j false=false)→RV ρ M w y (a.eval (.tmp t)):=λt h1 h2=>by
    obtain ⟨v,e1,e2⟩:=hsl t y h1;rw [CC ((hI.low t h2).trans e1)];exact e2.st hI.tr
   unfold evA at hx;split at hx
   ·cases hx; exact rfl
   ·cases hx
    show Rp ρ M w (.fn _ [] []) [_];unfold Rp;exact ⟨#[],#[],rfl,by unfold BC; rfl,by unfold BC; rfl⟩
   ·cases hx
   ·rename_i t
    split at hx
    ·rename_i j hj
     obtain ⟨_,oj,e1,e2⟩:=LX hj;have hdj:AU ops j=some t:=by
      unfold AU;rw [← Array.getElem?_toList];rw [Nat.sub_zero] at e1;rw [e1];exact e2
     split at hx
     ·rename_i hlt
      split at hx
      ·rename_i hb
       obtain ⟨v,e3,e4⟩:=hI.facts j t y (hcl j hb) hdj (hres j y hx);rw [CC e3];exact e4
      ·cases hx
     ·split at hx
      ·rename_i hb
       refine old t hx λj' hj'=>?_
       have:=G8 hd1 hdj hj';subst this;rw [Bool.or_eq_true] at hb
       rcases hb with hb | hb
       ·rw [Nat.eq_of_beq_eq_true hb]; exact hm
       ·cases hmj:m.getD j false with
        | false=>rfl
        | true=>have:=hI.closed j i hmj hb; rw [hm] at this; cases this
      ·cases hx
    ·rename_i hj
     refine old t hx λj' hj'=>?_
     exfalso;unfold AU at hj';rw [← Array.getElem?_toList] at hj';obtain ⟨o',e1,e2⟩:=Option.bind_eq_some_iff.1 hj';exact IW hj o' (List.mem_of_getElem? e1) e2
  have hdoes:=nS hT hcf hop hs hag hev hdom0 (by omega);refine hdoes.upon (λv w' hp=>?_) rfl;obtain ⟨ρ',M',ht,hv,hRH,hdm,hsup,hmon,hbnd,hfr,hkp⟩:=hp;obtain ⟨p1,p2,p3,p4⟩:=RN hd1 hdl hI hi hm ho hr ht hv;refine ⟨ρ',M',FQ H U,p1,p2,p3,hlen',hclosed',p4,hRH,λx k h=>?_,λx p e=>?_,hbnd,hI.tr.trans ht,λb h=>hsup b (hI.sup b h),λb h=>?_,hI.fr.trans hfr,λx b g c h1 h2 h3=>?_⟩
  ·by_cases hx:∃ y∈U,y.1=x
   ·have hik:i<k:=(h i R U hrc hx).1 hset
    have hskip:lk (aY H0 (rc.take k)) x=lk (aY H0 (rc.take (i+1))) x:=KC hik λj R' U' h1 h2 h3 y hy=>by
     rintro rfl
     have hmj:=(h j R' U' h3 ⟨y,hy,rfl⟩).2 h2;have hne:i≠j:=by omega
     rw [getD_set_ne false hne] at hmj;have hjlt:j<ops.size:=by
      rcases Nat.lt_or_ge j ops.size with h | h
      ·exact h
      ·have:m.getD j false=false:=by
        simp [Array.getD_eq_getD_getElem?,Array.getElem?_eq_none (by rw [hI.len]; exact h)]
       rw [this] at hmj; cases hmj
     obtain ⟨oj,hoj⟩:∃ o,ops[j]? = some o:=⟨_,Array.getElem?_eq_getElem hjlt⟩;obtain ⟨_,Rj,Uj,_,hrcj,hconfj,_⟩:=hall j oj hoj;rw [h3] at hrcj;simp only [Option.some.injEq,Prod.mk.injEq] at hrcj;obtain ⟨rfl,rfl⟩:=hrcj;have hi':(rc.take j)[i]? = some (R,U):=by rw [List.getElem?_take,if_pos (by omega)]; exact hrc
     rcases HF hconfj hi' with hb | ⟨_,h5,_⟩
     ·rw [Nat.zero_add] at hb
      have:=hI.closed j i hmj hb;rw [hm] at this; cases this
     ·obtain ⟨z,hz,e⟩:=hx
      exact h5 y.1 (List.mem_map.2 ⟨y,hy,rfl⟩) (List.mem_map.2 ⟨z,hz,e⟩)
    rw [hskip,List.take_add_one,hrc,Option.toList_some,PH,Rb];exact uU hx
   ·have hx':∀ y∈U,y.1≠x:=λy hy e=>hx ⟨y,hy,e⟩
    rw [K7 hx'];refine hI.hc x k λj R' U' h1 h2=>?_
    rw [← h j R' U' h1 h2];have hne:i≠j:=by
     rintro rfl
     rw [hrc] at h1;simp only [Option.some.injEq,Prod.mk.injEq] at h1;rw [← h1.2] at h2;exact hx h2
    rw [getD_set_ne false hne]
  ·rcases hdm x p e with h | h
   ·rcases hI.dom x p h with h | ⟨j,h1,h2,h3⟩
    ·exact .inl h
    ·exact .inr ⟨j,h1,getD_set_true h2,h3⟩
   ·exact .inr ⟨i,hi,hset,h⟩
  ·rcases hmon b h with h | h
   ·exact hI.mon b h
   ·exact .inr (Nat.le_trans hI.fr.size h)
  ·have hUx:=h2 i R U hset hrc
   have hH:H x=some b:=by
    rw [hI.hc x 0 λj R' U' h4 ⟨y,hy,e⟩=>⟨λhmj=>absurd e (h2 j R' U' (getD_set_true hmj) h4 y hy),λh=>by omega⟩];exact h1
   have hk:=hI.kp x b g c h1 (λj R' U' h4 h5=>h2 j R' U' (getD_set_true h4) h5) h3;exact (hkp x b g c hH hUx (hI.tr.ext _ _ h3)).trans hk
 ·rw [if_neg (by rw [hguard _ hg]; simp)]
  obtain ⟨p1,p2,p3,p4⟩:=RN (v:=undef) hd1 hdl hI hi hm ho hr (Tr.refl _ _ _) rfl;refine ⟨ρ,M,H,p1,p2,p3,hlen',hclosed',p4,hI.heap,noU rfl,λx p e=>?_,hI.bnd,hI.tr,hI.sup,hI.mon,hI.fr,λx b g c h1 h2 h3=>hI.kp x b g c h1 (λj R' U' h4 h5=>h2 j R' U' (getD_set_true h4) h5) h3⟩
  rcases hI.dom x p e with h | ⟨j,h1,h2,h3⟩
  ·exact .inl h
  ·exact .inr ⟨j,h1,getD_set_true h2,h3⟩
end
end
section
variable [Dn]
structure FS (A:Nat→Prop) (W0:World) (ρ0:B6) (M0:Nat→Prop) (H0:HP) (n0:Nat) (s:Fm) (ρ:B6) (M:Nat→Prop) (a:Act) (w:World):Prop where
 size:a.tmps.size=s.tm.length
 defers:a.defers=[]
 slots:∀(t:Nat)(x:AV),s.tm[t]? = some x→∃ v,a.tmps[t]? = some v∧RV ρ M w x v
 heap:RH ρ M A w (lk s.H)
 dom:∀ o p,ρ o=some p→o<s.nx
 nx:n0≤s.nx
 bnd:∀ b,M b→b<w.heap.size
 fr:QS A W0 w
 tr:Tr ρ0 M0 W0 ρ M w
 sup:∀ b,M0 b→M b
 mon:∀ b,M b→M0 b ∨ W0.heap.size≤b
 old:∀ o p,ρ o=some p→ρ0 o=some p ∨ n0≤o
 kp:∀ o,o<n0→(∀ x∈s.wr,x≠o)→lk s.H o=lk H0 o∧∀ b g c,lk H0 o=some b→ρ0 o=some (g,c)→w.heap[g]? = W0.heap[g]?
def tmN(opsL:List Oper)(res:List AV):List AV→Nat→List AV
 | [],_=>[]
 | a :: r,t=>(match Qg t opsL 0 with | some j=>res.getD j a | none=>a) :: tmN opsL res r (t+1)
theorem iI{opsL:List Oper}{res:List AV}:∀{l:List AV}{t k:Nat},(tmN opsL res l t)[k]? = (l[k]?).map λa=>match Qg (t+k) opsL 0 with | some j=>res.getD j a | none=>a
 | [],_,_=>by simp [tmN]
 | a :: r,t,0=>by simp [tmN]
 | a :: r,t,k+1=>by
  unfold tmN;rw [List.getElem?_cons_succ,iI,List.getElem?_cons_succ,show t+1+k=t+(k+1) by omega]
theorem dR{opsL:List Oper}{res:List AV}:∀{l:List AV}{t:Nat},(tmN opsL res l t).length=l.length
 | [],_=>rfl
 | a :: r,t=>by simp [tmN,dR]
def Ahf(draw:Bool)(ops:Array Oper)(cl:List Nat)(N:Nat):Bool:=WS ops && Iv ops && Arx draw ops cl && ops.toList.all λo=>match o.dst with | none=>true | some d=>Nat.blt d N
def UO:List RC→List Nat
 | []=>[]
 | p :: r=>p.2.map (·.1) ++ UO r
theorem P4{x:Nat}:∀{l:List RC}{p:RC},p∈l→x∈p.2.map (·.1)→x∈UO l
 | [],_,h,_=>by cases h
 | q :: r,p,h,hx=>by
  unfold UO
  rcases List.mem_cons.1 h with rfl | h
  ·exact List.mem_append.2 (.inl hx)
  ·exact List.mem_append.2 (.inr (P4 h hx))
noncomputable def NW(T:Tb)(cf:DZ)(draw:Bool)(ops:Array Oper)(s:Fm):Option Fm:=
 if Ahf draw ops (Acz draw ops.toList 0 []) s.tm.length then
  match Y6 T cf s.tm ops.toList (Acz draw ops.toList 0 []) s.nx (s.nx+16*ops.size) ops.toList 0 [] s.H [] with
  | some p=>some ⟨tmN ops.toList p.1 s.tm 0,p.2.1,s.nx+16*ops.size,s.wr ++ UO p.2.2⟩
  | none=>none
 else none
section
variable {T : Tb} {cf : DZ} {A : Nat → Prop} {W0 : World} {ρ0 : B6} {M0 : Nat → Prop} {H0 : HP} {n0 : Nat} {s s' : Fm} {ρ1 : B6} {M1 : Nat → Prop} {a0 : Act} {w1 : World} {ops : Array Oper} {draw : Bool} {Q : Exit → Act → World → Prop}
theorem AfI{ops:Array Oper}{I:Array Bool→Act→World→Prop}(hdag:WS ops=true)(hlen:∀ m a w,I m a w→m.size=ops.size)
  (hs:∀ m a w i,I m a w→i∈Region.ready .any ops m→wpOp Tryz.prog ops Q i (λa' w'=>I (m.setIfInBounds i true) a' w') a w)
  (fin:∀ m a w,I m a w→(∀ i,i<ops.size→m.getD i false=true)→Q .normal a w) :
  ∀(fuel:Nat)(m:Array Bool)(a:Act)(w:World),cnt ops.size m≤fuel→I m a w→wpAny Tryz.prog .any ops Q fuel m a w:=by
 intro fuel
 induction fuel with
 | zero =>
  intro m a w hc hI;have hr:Region.ready .any ops m=[]:=by
   apply List.eq_nil_iff_forall_not_mem.2;intro i hi;obtain ⟨h0,o,ho,_⟩:=mem_ready.1 hi;have:=N5 (Array.getElem?_eq_some_iff.1 ho).1 (hlen _ _ _ hI) h0;omega
  exact ⟨hr,fin m a w hI (Jj hdag (hlen _ _ _ hI) hr)⟩
 | succ fuel ih =>
  intro m a w hc hI;refine ⟨λhr=>fin m a w hI (Jj hdag (hlen _ _ _ hI) hr),λi hi=>?_⟩;obtain ⟨h0,o,ho,_⟩:=mem_ready.1 hi;have hlt:=(Array.getElem?_eq_some_iff.1 ho).1;refine wpOp_mono (λa' w' hI'=>ih _ a' w' ?_ hI') (hs m a w i hI hi);have:=N5 hlt (hlen _ _ _ hI) h0;omega
theorem Ac3{ops:Array Oper}{I:Array Bool→Act→World→Prop}
  (hs:∀ m a w i,i<ops.size→I m a w→(∀ j,m.getD j false=decide (j<i))→wpOp Tryz.prog ops Q i (λa' w'=>I (m.setIfInBounds i true) a' w') a w) (hlen:∀ m a w,I m a w→m.size=ops.size)
  (fin:∀ m a w,I m a w→(∀ i,i<ops.size→m.getD i false=true)→Q .normal a w) :
  ∀(j k:Nat)(m:Array Bool)(a:Act)(w:World),k+j=ops.size→(∀ i,m.getD i false=decide (i<k))→I m a w→wpOps Tryz.prog ops Q (List.range' k j) a w:=by
 intro j
 induction j with
 | zero =>
  intro k m a w hk hm hI;exact fin m a w hI (λi hi=>by rw [hm i]; simp; omega)
 | succ j ih =>
  intro k m a w hk hm hI;rw [List.range'_succ,wpOps_cons];have hlt:k<ops.size:=by omega
  refine wpOp_mono (λa' w' hI'=>ih (k+1) _ a' w' (by omega) (λi=>?_) hI') (hs m a w k hlt hI hm)
  by_cases e:k=i
  ·subst e
   simp [Array.getD_eq_getD_getElem?,show k<m.size by rw [hlen _ _ _ hI]; exact hlt]
  ·rw [getD_set_ne false e,hm i]
   simp; omega
theorem KE(hT:Qv T)(hcf:EG cf){id:Nat}(h:NW T cf draw ops s=some s')(hA:∀ b,W0.heap.size≤b→A b)(hF:FS A W0 ρ0 M0 H0 n0 s ρ1 M1 a0 w1)(k:∀ ρ M a w,FS A W0 ρ0 M0 H0 n0 s' ρ M a w→Q .normal a w):(Code.region id ops draw).wp Tryz.prog Q a0 w1:=by
 unfold NW at h;split at h
 ·rename_i hpl
  generalize Acz draw ops.toList 0 []=cl at h hpl;unfold Ahf at hpl;simp only [Bool.and_eq_true] at hpl;obtain ⟨⟨⟨hdag,hdst⟩,hclo⟩,hdl⟩:=hpl;have hdl':∀ i d,AU ops i=some d→d<s.tm.length:=λi d e=>by
   unfold AU at e;obtain ⟨o,h1,h2⟩:=Option.bind_eq_some_iff.1 e;have:=List.all_eq_true.1 hdl o (by simpa using Array.mem_of_getElem? h1);have h2:o.dst=some d:=h2;rw [h2] at this;exact Nat.le_of_ble_eq_true this
  split at h
  ·rename_i p hp
   obtain ⟨res,H',rc⟩:=p
   cases h
   obtain ⟨k1,k2,k3,_,_,k6⟩:=QW (H0:=s.H) hp rfl rfl rfl;simp only [Nat.zero_add] at k1 k2;have hsz0:ops.toList.length=ops.size:=Array.length_toList;rw [hsz0] at k1 k2;have hall:∀ i o,ops[i]? = some o→TB T cf s.tm ops.toList cl s.nx (s.nx+16*ops.size) s.H res rc i o:=λi o e=>by
    have:=k6 i o (by rw [Array.getElem?_toList]; exact e);rwa [Nat.zero_add] at this
   have hA1:∀ b,w1.heap.size≤b→A b:=λb hb=>hA b (Nat.le_trans hF.fr.size hb)
   let I:Array Bool→Act→World→Prop:=λm a w=>∃ ρ M H,IM A ops s.tm cl s.nx s.H res rc a0 w1 ρ1 M1 m a w ρ M H
   have hlen:∀ m a w,I m a w→m.size=ops.size:=λm a w ⟨_,_,_,hI⟩=>hI.len
   have step:∀ m a w i,i<ops.size→m.getD i false=false→(∀ j,LU (cl.getD i 0) j=true→m.getD j false=true)→I m a w→wpOp Tryz.prog ops Q i (λa' w'=>I (m.setIfInBounds i true) a' w') a w:=λm a w i hi hm hc ⟨ρ,M,H,hI⟩ =>
    Afe hT hcf rfl hdst hdl' hF.dom hA1 hF.slots hall hI hi hm hc
   have fin:∀ m a w,I m a w→(∀ i,i<ops.size→m.getD i false=true)→Q .normal a w:=λm a w ⟨ρ,M,H,hI⟩ hm=>by
    have hrl:∀ j (p:RC),rc[j]? = some p→j<ops.size:=λj p e=>by
     have:=(List.getElem?_eq_some_iff.1 e).1;omega
    have hH:H=lk H':=funext λo=>by
     have:=hI.hc o ops.size λj R U h1 _=>⟨λ_=>hrl j _ h1,λh=>hm j h⟩
     rw [this,k3,List.take_of_length_le (by omega)]
    refine k ρ M a w ⟨by rw [dR]; exact hI.size,hI.defers,λt x hx=>?_,by rw [← hH]; exact hI.heap,λo p e=>?_,Nat.le_trans hF.nx (Nat.le_add_right _ _),hI.bnd,hF.fr.trans hI.fr,hF.tr.trans hI.tr,λb hb=>hI.sup b (hF.sup b hb),λb hb=>?_,λo p e=>?_,λo ho hw=>?_⟩
    ·rw [iI,Nat.zero_add] at hx
     obtain ⟨y,hy,hx⟩:=Option.map_eq_some_iff.1 hx;split at hx
     ·rename_i j hj
      obtain ⟨_,oj,e1,e2⟩:=LX hj;rw [Nat.sub_zero] at e1;have hdj:AU ops j=some t:=by
       unfold AU;rw [← Array.getElem?_toList,e1];exact e2
      have hjl:j<ops.size:=by
       have:=(List.getElem?_eq_some_iff.1 e1).1;rwa [Array.length_toList] at this
      have hrj:res[j]? = some x:=by
       rw [← hx,List.getD_eq_getElem?_getD,List.getElem?_eq_getElem (by omega)];rfl
      exact hI.facts j t x (hm j hjl) hdj hrj
     ·rename_i hj
      subst hx;obtain ⟨v,e1,e2⟩:=hF.slots t y hy;refine ⟨v,(hI.low t λi hi=>?_).trans e1,e2.st hI.tr⟩;exfalso;unfold AU at hi;rw [← Array.getElem?_toList] at hi;obtain ⟨o',e3,e4⟩:=Option.bind_eq_some_iff.1 hi;exact IW hj o' (List.mem_of_getElem? e3) e4
    ·rcases hI.dom o p e with h | ⟨j,h1,_,_,h2⟩
     ·have:=hF.dom o p h
      show o<s.nx+16*ops.size;omega
     ·show o<s.nx+16*ops.size
      omega
    ·rcases hI.mon b hb with h | h
     ·exact hF.mon b h
     ·exact .inr (Nat.le_trans hF.fr.size h)
    ·rcases hI.dom o p e with h | ⟨j,h1,_,h2,_⟩
     ·exact hF.old o p h
     ·have:=hF.nx
      exact .inr (by omega)
    ·have hw1:∀ x∈s.wr,x≠o:=λx hx=>hw x (List.mem_append.2 (.inl hx))
     have hw2:∀(j:Nat)(R:List Nat)(U:HP),rc[j]? = some (R,U)→∀ x∈U,x.1≠o:=λj R U h1 x hx=>hw x.1 (List.mem_append.2 (.inr (P4 (List.mem_of_getElem? h1) (List.mem_map.2 ⟨x,hx,rfl⟩))))
     obtain ⟨q1,q2⟩:=hF.kp o ho hw1;have hsame:lk H' o=lk s.H o:=by
      have:=KC (H0:=s.H) (rc:=rc) (o:=o) (i:=0) (k:=rc.length) (Nat.zero_le _) λj R U _ _ h1=>hw2 j R U h1
      rw [List.take_length] at this;rw [k3,this];rfl
     refine ⟨hsame.trans q1,λb g c e1 e2=>?_⟩;exact (hI.kp o b g c (q1.trans e1) (λj R U _ h1=>hw2 j R U h1) (hF.tr.ext _ _ e2)).trans (q2 b g c e1 e2)
   have start:∀ w,(w=w1 ∨ w=w1.drew)→I (Array.replicate ops.size false) a0 w:=λw hw=>by
    have hheap:w.heap=w1.heap:=by rcases hw with rfl | rfl <;> rfl
    have hm:∀ i,(Array.replicate ops.size false).getD i false=false:=λi=>by
     simp [Array.getD_eq_getD_getElem?,Array.getElem?_replicate];split <;> rfl
    have hg:Bz w1 w:=⟨by rw [hheap]; exact Nat.le_refl _,λ_ _ _ e=>by rw [hheap]; exact e,λ_ _ _ e=>by rw [hheap]; exact e⟩;have ht:Tr ρ1 M1 w1 ρ1 M1 w:=⟨hg,λ_ _ _=>by rw [hheap],λ_ _ h=>h,λ_ _ h=>h⟩;have hfr:QS A w1 w:=by
     rcases hw with rfl | rfl
     ·exact QS.refl _ _
     ·exact ⟨rfl,rfl,rfl,Nat.le_refl _,λ_ _ _=>rfl⟩
    refine ⟨ρ1,M1,lk s.H,hF.size,hF.defers,λ_ _=>rfl,by simp,λi j hi=>(by rw [hm i] at hi; cases hi),λi d r hi=>(by rw [hm i] at hi; cases hi),hF.heap.st ht (λ_ h=>h) λ_ _ _ _ _ _=>by rw [hheap],λo kk hk=>?_,λo p e=>.inl e,λb hb=>by rw [hheap]; exact hF.bnd b hb,ht,λ_ h=>h,λ_ h=>.inl h,hfr,λ_ _ _ _ _ _ _=>by rw [hheap]⟩;have:=KC (H0:=s.H) (rc:=rc) (o:=o) (i:=0) (k:=kk) (Nat.zero_le _) λj R U _ h2 h1 x hx e=>by
     have:=(hk j R U h1 ⟨x,hx,e⟩).2 h2;rw [hm] at this
     cases this
    rw [this];rfl
   have hcl:∀ i,i<ops.size→cl.getD i 0=if draw then orL cl (CN ops i) else 2 ^ i - 1:=λi hi=>Nat.eq_of_beq_eq_true (List.all_eq_true.1 hclo i (List.mem_range.2 hi))
   cases draw with
   | true =>
    refine wp_region_any (by kernel_rfl) ?_;refine AfI (I:=I) hdag hlen (λm a w i hI hr=>?_) fin _ _ _ _ ?_ (start w1.drew (.inr rfl))
    ·obtain ⟨ρ,M,H,hI'⟩:=hI
     refine step m a w i (GD hr) (Dl hr) (λj hj=>?_) ⟨ρ,M,H,hI'⟩;rw [hcl i (GD hr)] at hj;obtain ⟨x,hx,hj⟩:=eV hj;have hmx:=Dm hr hx
     rcases hj with rfl | hj
     ·exact hmx
     ·exact hI'.closed x j hmx hj
    ·unfold cnt
     exact Nat.le_trans (List.length_filter_le _ _) (by simp)
   | false =>
    refine wp_region ?_;rw [List.range_eq_range'];refine Ac3 (I:=I) (λm a w i hi hI hm=>?_) hlen fin _ 0 (Array.replicate ops.size false) _ _ (by omega) (λi=>?_) (start w1 (.inl rfl))
    ·refine step m a w i hi (by rw [hm]; simp) (λj hj=>?_) hI
     rw [hcl i hi] at hj;have hj:Nat.testBit (2 ^ i - 1) j=true:=hj;rw [Nat.testBit_two_pow_sub_one] at hj;rw [hm];exact hj
    ·simp [Array.getD_eq_getD_getElem?,Array.getElem?_replicate]
     split <;> rfl
  ·cases h
 ·cases h
end
inductive Ah9 where
 | fall (s:Fm)
 | ret (s:Fm)
 | exit (n:Nat) (s:Fm)
end
section
variable [Dn]
mutual
def DD(σ:Nat→Option Nat):AV→Option AV
 | .ptr o off=>(σ o).map λo'=>.ptr o' off
 | .sl o off len cap=>(σ o).map λo'=>.sl o' off len cap
 | .slx o c=>(σ o).map λo'=>.slx o' c
 | .epx o c=>(σ o).map λo'=>.epx o' c
 | .fn f a b=>match Gg σ a,Gg σ b with
  | some a',some b'=>some (.fn f a' b')
  | _,_=>none
 | .agg l=>(Gg σ l).map .agg
 | .tup l=>(Gg σ l).map .tup
 | .row n l=>(Gg σ l).map (.row n)
 | .rptr l=>(Gg σ l).map .rptr
 | a=>some a
def Gg(σ:Nat→Option Nat):List AV→Option (List AV)
 | []=>some []
 | a :: l=>match DD σ a,Gg σ l with
  | some a',some l'=>some (a' :: l')
  | _,_=>none
end
section
variable {σ : Nat → Option Nat} {ρ ρ' : B6} {M M' : Nat → Prop} {w : World}
mutual
theorem Gm(hσ:∀ o o' p,σ o=some o'→ρ o=some p→ρ' o'=some p)(hM:∀ b,M' b→M b):∀(a a':AV)(cs:List Value),DD σ a=some a'→Rp ρ M w a cs→Rp ρ' M' w a' cs
 | .val _,_,_,h,r=>by unfold DD at h; cases h; unfold Rp at r ⊢; exact r
 | .num _,_,_,h,r=>by unfold DD at h; cases h; unfold Rp at r ⊢; exact r
 | .rat _,_,_,h,r=>by unfold DD at h; cases h; unfold Rp at r ⊢; exact r
 | .rats _,_,_,h,r=>by
  unfold DD at h
  cases h
  unfold Rp at r ⊢;obtain ⟨A,c,e,hc,r⟩:=r;refine ⟨A,c,e,hc,λh0=>?_⟩;obtain ⟨g,off,xs,e1,m,s,ra,rc⟩:=r h0;exact ⟨g,off,xs,e1,λh=>m (hM _ h),s,ra,rc⟩
 | .row n l,_,_,h,r=>by
  unfold DD at h;obtain ⟨l',hl,rfl⟩:=Option.map_eq_some_iff.1 h;unfold Rp at r ⊢;obtain ⟨A,c,e,hc,r⟩:=r;refine ⟨A,c,e,hc,λh0=>?_⟩;obtain ⟨g,off,xs,e1,m,s,ra,rc⟩:=r h0;exact ⟨g,off,xs,e1,λh=>m (hM _ h),s,ra,Ec hσ hM l l' xs hl rc⟩
 | .rptr l,_,_,h,r=>by
  unfold DD at h;obtain ⟨l',hl,rfl⟩:=Option.map_eq_some_iff.1 h;unfold Rp at r ⊢;obtain ⟨g,off,xs,e1,m,s,ra,rc⟩:=r;exact ⟨g,off,xs,e1,λh=>m (hM _ h),s,ra,Ec hσ hM l l' xs hl rc⟩
 | .ptr o off,_,_,h,r=>by
  unfold DD at h;obtain ⟨o',ho,rfl⟩:=Option.map_eq_some_iff.1 h;unfold Rp at r ⊢;obtain ⟨g,c,e,k⟩:=r;exact ⟨g,c,hσ _ _ _ ho e,k⟩
 | .sl o _ _ _,_,_,h,r=>by
  unfold DD at h;obtain ⟨o',ho,rfl⟩:=Option.map_eq_some_iff.1 h;unfold Rp at r ⊢;obtain ⟨g,c,k,e,r⟩:=r;exact ⟨g,c,k,hσ _ _ _ ho e,r⟩
 | .fn f a b,_,_,h,r=>by
  unfold DD at h;split at h
  ·rename_i a' b' ha hb
   cases h
   unfold Rp at r ⊢;obtain ⟨xs,ys,e,r1,r2⟩:=r;exact ⟨xs,ys,e,Ec hσ hM a a' _ ha r1,Ec hσ hM b b' _ hb r2⟩
  ·cases h
 | .ext _ _ c,_,_,h,r=>by
  unfold DD at h
  cases h
  unfold Rp at r ⊢;exact ⟨r.1,(Dn.X c).st _ _ _ _ _ (Bz.refl w) (λ_ _ _=>rfl) (λb _ h=>hM b h) r.2⟩
 | .slx o _,_,_,h,r=>by
  unfold DD at h;obtain ⟨o',ho,rfl⟩:=Option.map_eq_some_iff.1 h;unfold Rp at r ⊢;obtain ⟨g,k,cc,e,r⟩:=r;exact ⟨g,k,cc,hσ _ _ _ ho e,r⟩
 | .epx o _,_,_,h,r=>by
  unfold DD at h;obtain ⟨o',ho,rfl⟩:=Option.map_eq_some_iff.1 h;unfold Rp at r ⊢;obtain ⟨g,cc,e,r⟩:=r;exact ⟨g,cc,hσ _ _ _ ho e,r⟩
 | .any,_,_,_,r=>by unfold Rp at r; exact r.elim
 | .agg _,_,_,_,r=>by unfold Rp at r; exact r.elim
 | .tup _,_,_,_,r=>by unfold Rp at r; exact r.elim
theorem Ec(hσ:∀ o o' p,σ o=some o'→ρ o=some p→ρ' o'=some p)(hM:∀ b,M' b→M b):∀(l l':List AV)(cs:List Value),Gg σ l=some l'→BC ρ M w l cs→BC ρ' M' w l' cs
 | [],_,_,h,r=>by unfold Gg at h; cases h; unfold BC at r ⊢; exact r
 | a :: l,_,_,h,r=>by
  unfold Gg at h;split at h
  ·rename_i a' l' ha hl
   cases h
   unfold BC at r ⊢;obtain ⟨x,y,e,r1,r2⟩:=r;exact ⟨x,y,e,Gm hσ hM a a' x ha r1,Ec hσ hM l l' y hl r2⟩
  ·cases h
end
theorem fH(hσ:∀ o o' p,σ o=some o'→ρ o=some p→ρ' o'=some p)(hM:∀ b,M' b→M b){a a':AV}{v:Value}(h:DD σ a=some a')(r:Co ρ M w a v):Co ρ' M' w a' v:=by
 have plain:Rp ρ M w a [v]→(∀ x:AV,DD σ a=some x→Rp ρ' M' w x [v]→Co ρ' M' w x v)→Co ρ' M' w a' v:=λr k=>k a' h (Gm hσ hM a a' _ h r)
 cases a with
 | any=>unfold DD at h; cases h; trivial
 | val u=>unfold DD at h; cases h; exact r
 | num z =>
  obtain ⟨cs,e,r⟩:=r;have:=Gm hσ hM _ _ _ h r;unfold DD at h
  cases h
  exact ⟨cs,e,this⟩
 | rat q =>
  obtain ⟨cs,e,r⟩:=r;have:=Gm hσ hM _ _ _ h r;unfold DD at h
  cases h
  exact ⟨cs,e,this⟩
 | agg l =>
  obtain ⟨cs,e,r⟩:=r;unfold DD at h;obtain ⟨l',hl,rfl⟩:=Option.map_eq_some_iff.1 h;exact ⟨cs,e,Ec hσ hM l l' _ hl r⟩
 | tup l=>exact r.elim
 | ext n ag c =>
  cases ag with
  | true =>
   obtain ⟨cs,e,r⟩:=r;have:=Gm hσ hM _ _ _ h r;unfold DD at h
   cases h
   exact ⟨cs,e,this⟩
  | false=>exact plain r λx hx k=>by unfold DD at hx; cases hx; exact k
 | slx o c=>exact plain r λx hx k=>by unfold DD at hx; obtain ⟨_,_,rfl⟩:=Option.map_eq_some_iff.1 hx; exact k
 | epx o c=>exact plain r λx hx k=>by unfold DD at hx; obtain ⟨_,_,rfl⟩:=Option.map_eq_some_iff.1 hx; exact k
 | rats l=>exact plain r λx hx k=>by unfold DD at hx; cases hx; exact k
 | row n l=>exact plain r λx hx k=>by unfold DD at hx; obtain ⟨_,_,rfl⟩:=Option.map_eq_some_iff.1 hx; exact k
 | rptr l=>exact plain r λx hx k=>by unfold DD at hx; obtain ⟨_,_,rfl⟩:=Option.map_eq_some_iff.1 hx; exact k
 | ptr o off=>exact plain r λx hx k=>by unfold DD at hx; obtain ⟨_,_,rfl⟩:=Option.map_eq_some_iff.1 hx; exact k
 | sl o off len cap=>exact plain r λx hx k=>by unfold DD at hx; obtain ⟨_,_,rfl⟩:=Option.map_eq_some_iff.1 hx; exact k
 | fn f a b =>
  exact plain r λx hx k=>by
   unfold DD at hx;split at hx
   ·cases hx; exact k
   ·cases hx
theorem Cj.ren(hσ:∀ o o' p,σ o=some o'→ρ o=some p→ρ' o'=some p)(hM:∀ b,M' b→M b){b:OB}{l:List AV}{cs:List Value}(h:Gg σ b.cs=some l)(r:Cj ρ M w b cs):Cj ρ' M' w { b with cs:=l } cs:=by
 unfold Cj at r ⊢;split at r
 ·rename_i hb
  simp only [hb];exact Ec hσ hM _ _ _ h r
 ·rename_i c hb
  simp only [hb];exact (Dn.B c).st _ _ _ _ _ (Bz.refl w) (λ_ _ _=>rfl) (λb _ h=>hM b h) r
theorem NP(hσ:∀ o o' p,σ o=some o'→ρ o=some p→ρ' o'=some p)(hM:∀ b,M' b→M b):∀{l l':List AV}{vs:List Value},Gg σ l=some l'→Cz ρ M w l vs→Cz ρ' M' w l' vs
 | [],_,_,h,r=>by unfold Gg at h; cases h; exact r
 | a :: l,_,_,h,r=>by
  unfold Gg at h;split at h
  ·rename_i a' l' ha hl
   cases h
   obtain ⟨v,vr,e,r1,r2⟩:=r;exact ⟨v,vr,e,fH hσ hM ha r1,NP hσ hM hl r2⟩
  ·cases h
theorem YB(hσ:∀ o o' p,σ o=some o'→ρ o=some p→ρ' o'=some p)(hM:∀ b,M' b→M b){a a':AV}{v:Value}(h:DD σ a=some a')(r:RV ρ M w a v):RV ρ' M' w a' v:=by
 cases a with
 | tup l =>
  obtain ⟨vs,e,r⟩:=r;unfold DD at h;obtain ⟨l',hl,rfl⟩:=Option.map_eq_some_iff.1 h;exact ⟨vs,e,NP hσ hM hl r⟩
 | _=>exact (fH hσ hM h r).rv
end
def Aea(o:Nat):List Nat→Nat→Option Nat
 | [],_=>none
 | x :: l,i=>if Nat.beq x o then some i else Aea o l (i+1)
theorem Vk{o:Nat}:∀{l:List Nat}{i j:Nat},Aea o l i=some j→i≤j∧l[j - i]? = some o
 | [],_,_,h=>by cases h
 | x :: l,i,j,h=>by
  unfold Aea at h;split at h
  ·rename_i e
   cases h
   have:=Nat.eq_of_beq_eq_true e;simp [this]
  ·obtain ⟨h1,h2⟩:=Vk h
   refine ⟨by omega,?_⟩;rw [show j - i=(j - (i+1))+1 by omega];exact h2
def sgm(n0 t0:Nat)(L:List Nat)(o:Nat):Option Nat:=if Nat.blt o n0 then some o else (Aea o L 0).map (t0 + ·)
def Zf(H:HP)(n0:Nat):Nat→List Nat→List Nat→Option (List Nat)
 | _,[],acc=>some acc
 | 0,_ :: _,_=>none
 | k+1,o :: r,acc=>if Nat.blt o n0 || memN o acc then Zf H n0 k r acc else match lk H o with
  | some b=>Zf H n0 k (OE b.cs ++ r) (acc ++ [o])
  | none=>none
def Rz(σ:Nat→Option Nat)(H:HP)(o:Nat):Option (Option OB):=match lk H o with
 | none=>some none
 | some b=>(Gg σ b.cs).map λl=>some { b with cs:=l }
def OY(σ:Nat→Option Nat)(H H0:HP):List Nat→Option HP
 | []=>some []
 | o :: r=>match lk H0 o,Rz σ H o,OY σ H H0 r with
  | some _,some e,some l=>some ((o,e) :: l)
  | _,_,_=>none
def VY(σ:Nat→Option Nat)(H:HP)(t0:Nat):List Nat→Nat→Option HP
 | [],_=>some []
 | o :: r,i=>match Rz σ H o,VY σ H t0 r (i+1) with
  | some (some b),some l=>some ((t0+i,some b) :: l)
  | _,_=>none
def T9:List Nat→Bool
 | []=>true
 | x :: l=>!memN x l && T9 l
def GW(n0:Nat):List Nat→List Nat
 | []=>[]
 | x :: l=>if Nat.blt x n0 && !memN x (GW n0 l) then x :: GW n0 l else GW n0 l
theorem JN{n0 o:Nat}:∀{l:List Nat},o∈l→o<n0→o∈GW n0 l
 | [],h,_=>by cases h
 | x :: l,h,hn=>by
  unfold GW;split
  ·rcases List.mem_cons.1 h with rfl | h
   ·exact List.mem_cons_self ..
   ·exact List.mem_cons_of_mem _ (JN h hn)
  ·rename_i hc
   rcases List.mem_cons.1 h with rfl | h
   ·have hb:Nat.blt o n0=true:=by simpa [Nat.blt] using Nat.ble_eq_true_of_le hn
    rw [hb,Bool.true_and] at hc;have:memN o (GW n0 l)=true:=by
     cases e:memN o (GW n0 l) with
     | true=>rfl
     | false=>rw [e] at hc; exact absurd rfl hc
    exact EL.1 this
   ·exact JN h hn
def WI(H:HP):List Nat→List Nat
 | []=>[]
 | o :: r=>(match lk H o with | some b=>OE b.cs | none=>[]) ++ WI H r
def uD(H0:HP)(n0 t0:Nat)(s:Fm)(r:AV):Option (AV × HP):=match Zf s.H n0 400 (Ao6 r ++ WI s.H (GW n0 s.wr)) [] with
 | none=>none
 | some L=>if Nat.ble L.length 16 && T9 L && (L.all λo=>Nat.ble n0 o) then (match DD (sgm n0 t0 L) r,VY (sgm n0 t0 L) s.H t0 L 0,OY (sgm n0 t0 L) s.H H0 (GW n0 s.wr) with
  | some r',some U2,some U1=>some (r',U2 ++ U1)
  | _,_,_=>none) else none
theorem PP:∀{l:List Nat}{i j x:Nat},T9 l=true→l[i]? = some x→l[j]? = some x→i=j
 | [],_,_,_,_,h,_=>by simp at h
 | y :: l,i,j,x,hn,h1,h2=>by
  unfold T9 at hn;rw [Bool.and_eq_true,Bool.not_eq_true'] at hn;have hno:∀ k,l[k]? = some y→False:=λk e=>by
   have:=EL.2 (List.mem_of_getElem? e);rw [hn.1] at this
   cases this
  cases i with
  | zero =>
   simp at h1;subst h1
   cases j with
   | zero=>rfl
   | succ j=>exact (hno j (by simpa using h2)).elim
  | succ i =>
   cases j with
   | zero =>
    simp at h2;subst h2;exact (hno i (by simpa using h1)).elim
   | succ j=>exact congrArg (· + 1) (PP (x:=x) hn.2 (by simpa using h1) (by simpa using h2))
section
variable {σ : Nat → Option Nat} {H H0 : HP} {K : Nat → Option OB} {n0 t0 : Nat}
theorem OF{o:Nat}{b:OB}(h:Rz σ H o=some (some b)):∃ b0 l,lk H o=some b0∧Gg σ b0.cs=some l∧b = { b0 with cs:=l }:=by
 unfold Rz at h;split at h
 ·cases h
 ·rename_i b0 hb
  obtain ⟨l,hl,e⟩:=Option.map_eq_some_iff.1 h;exact ⟨b0,l,hb,hl,(Option.some.inj e).symm⟩
theorem Rw:∀{L:List Nat}{i:Nat}{U:HP},VY σ H t0 L i=some U→∀ o,(∃ j x b,o=t0+i+j∧L[j]? = some x∧Rz σ H x=some (some b)∧FQ K U o=some b) ∨ ((∀ j,j<L.length→o≠t0+i+j)∧FQ K U o=K o∧∀ y∈U,y.1≠o)
 | [],i,U,h,o=>by
  unfold VY at h
  cases h
  exact .inr ⟨λj hj=>by simp at hj,rfl,λy hy=>by cases hy⟩
 | x :: L,i,U,h,o=>by
  unfold VY at h;split at h
  ·rename_i b l hb hl
   cases h
   by_cases ho:t0+i=o
   ·refine .inl ⟨0,x,b,by omega,rfl,hb,?_⟩
    simp only [FQ];rw [if_pos (by simpa using ho)]
   ·have hne:FQ K ((t0+i,some b) :: l) o=FQ K l o:=by
     simp only [FQ];rw [if_neg (by simpa using ho)]
    rcases Rw hl o with ⟨j,x',b',e1,e2,e3,e4⟩ | ⟨e1,e2,e3⟩
    ·exact .inl ⟨j+1,x',b',by omega,by simpa using e2,e3,by rw [hne]; exact e4⟩
    ·refine .inr ⟨λj hj=>?_,by rw [hne]; exact e2,λy hy=>?_⟩
     ·cases j with
      | zero=>omega
      | succ j=>have:=e1 j (by simpa using hj); omega
     ·rcases List.mem_cons.1 hy with rfl | hy
      ·exact ho
      ·exact e3 y hy
  ·cases h
theorem Ro:∀{W:List Nat}{U:HP},OY σ H H0 W=some U→∀ o,(o∈W∧(∃ b0,lk H0 o=some b0)∧∃ e,Rz σ H o=some e∧FQ K U o=e) ∨ (o ∉ W∧FQ K U o=K o)
 | [],U,h,o=>by
  unfold OY at h
  cases h
  exact .inr ⟨by simp,rfl⟩
 | x :: W,U,h,o=>by
  unfold OY at h;split at h
  ·rename_i b0 e l hb he hl
   cases h
   by_cases ho:x=o
   ·subst ho
    refine .inl ⟨by simp,⟨b0,hb⟩,e,he,?_⟩;simp only [FQ];rw [if_pos (by simp)]
   ·have hne:FQ K ((x,e) :: l) o=FQ K l o:=by
     simp only [FQ];rw [if_neg (by simpa using ho)]
    rcases Ro hl o with ⟨e1,e2,e3,e4,e5⟩ | ⟨e1,e2⟩
    ·exact .inl ⟨by simp [e1],e2,e3,e4,by rw [hne]; exact e5⟩
    ·exact .inr ⟨by simp [e1,Ne.symm ho],by rw [hne]; exact e2⟩
  ·cases h
theorem Rq:∀{W:List Nat}{U:HP},OY σ H H0 W=some U→∀ o∈W,∃ x∈U,x.1=o
 | [],_,_,_,h=>by cases h
 | x :: W,U,h,o,ho=>by
  unfold OY at h;split at h
  ·rename_i b0 e l hb he hl
   cases h
   rcases List.mem_cons.1 ho with rfl | ho
   ·exact ⟨_,List.mem_cons_self ..,rfl⟩
   ·obtain ⟨y,hy,e⟩:=Rq hl o ho
    exact ⟨y,List.mem_cons_of_mem _ hy,e⟩
  ·cases h
end
theorem Aey{K:Nat→Option OB}(U V:HP)(o:Nat):FQ K (U ++ V) o=FQ (FQ K V) U o:=by
 induction U with
 | nil=>rfl
 | cons x r ih=>simp only [List.cons_append,FQ,ih]
section
variable {A : Nat → Prop} {W0 : World} {ρ0 : B6} {M0 : Nat → Prop} {H0 : HP} {n0 t0 : Nat} {s : Fm} {ρ : B6} {M : Nat → Prop} {a : Act} {w : World}
theorem nI{r r':AV}{U:HP}{v:Value}(hs:Fr ρ0 M0 A W0 t0 (lk H0))(hd:∀ o p,ρ0 o=some p→o<n0)(hF:FS A W0 ρ0 M0 H0 n0 s ρ M a w)(hv:RV ρ M w r v)(h:uD H0 n0 t0 s r=some (r',U)):Cw ρ0 M0 A W0 t0 (lk H0) U r' v w:=by
 unfold uD at h;split at h
 ·cases h
 ·rename_i L _
  split at h
  ·rename_i hc
   simp only [Bool.and_eq_true] at hc;obtain ⟨⟨hL16,hnd⟩,hge⟩:=hc;have hL16:L.length≤16:=Nat.le_of_ble_eq_true hL16;have hge:∀ x∈L,n0≤x:=λx hx=>Nat.le_of_ble_eq_true (List.all_eq_true.1 hge x hx)
   split at h
   ·rename_i rr U2 U1 hr h2 h1
    cases h
    let ρ':B6:=λo=>if t0≤o∧o<t0+L.length then (L[o - t0]?).bind ρ else ρ0 o
    let M':Nat→Prop:=λb=>M0 b ∨ ∃ x∈L,∃ c,ρ x=some (b,c)∧M b
    have hout:∀ o p,ρ0 o=some p→ρ' o=some p:=λo p e=>by
     show (if t0≤o∧o<t0+L.length then (L[o - t0]?).bind ρ else ρ0 o)=some p;rw [if_neg]
     ·exact e
     ·rintro ⟨k1,k2⟩
      rw [hs.new o k1 (by omega)] at e
      cases e
    have hin:∀ j x,L[j]? = some x→ρ' (t0+j)=ρ x:=λj x e=>by
     show (if t0≤t0+j∧t0+j<t0+L.length then (L[t0+j - t0]?).bind ρ else ρ0 (t0+j))=ρ x;have:=(List.getElem?_eq_some_iff.1 e).1;rw [if_pos ⟨by omega,by omega⟩,show t0+j - t0=j by omega,e];rfl
    have hσ:∀ o o' p,sgm n0 t0 L o=some o'→ρ o=some p→ρ' o'=some p:=λo o' p e1 e2=>by
     unfold sgm at e1;split at e1
     ·rename_i hlt
      cases e1
      have hlt:o<n0:=Nat.le_of_ble_eq_true hlt
      rcases hF.old o p e2 with h | h
      ·exact hout o p h
      ·omega
     ·obtain ⟨j,hj,rfl⟩:=Option.map_eq_some_iff.1 e1
      obtain ⟨_,hj⟩:=Vk hj;rw [hin j o (by simpa using hj)];exact e2
    have hM:∀ b,M' b→M b:=λb h=>by
     rcases h with h | ⟨x,_,c,_,h⟩
     ·exact hF.sup b h
     ·exact h
    have ht:Tr ρ0 M0 W0 ρ' M' w:=⟨hF.tr.grow,hF.tr.keep,λb hb h=>hF.tr.mono b hb (hM b h),hout⟩;have hWn:∀ o,o<n0→o ∉ GW n0 s.wr→∀ x∈s.wr,x≠o:=λo ho hn x hx e=>hn (JN (e ▸ hx) ho)
    have src:∀ o b,FQ (lk H0) (U2 ++ U1) o=some b→∃ y b0 g c arr cs,lk s.H y=some b0∧VX ρ M A w y b0 g c arr cs∧VX ρ' M' A w o b g c arr cs∧((n0≤y∧∃ j,o=t0+j∧L[j]? = some y) ∨ (y<n0∧y=o)):=λo b e=>by
     rw [Aey] at e
     rcases Rw (K:=FQ (lk H0) U1) h2 o with ⟨j,x,b',e1,e2,e3,e4⟩ | ⟨e1,e2,_⟩
     ·rw [e4] at e
      obtain rfl:=Option.some.inj e;obtain ⟨b0,l,k1,k2,rfl⟩:=OF e3;obtain ⟨g,c,arr,cs,k⟩:=hF.heap.obj x b0 k1;have hxm:=List.mem_of_getElem? e2;refine ⟨x,b0,g,c,arr,cs,k1,k,⟨?_,.inr ⟨x,hxm,c,k.at_,k.mut_⟩,k.own,k.blk,k.ty,k.cells.ren hσ hM k2,k.pre,k.cap⟩,.inl ⟨hge x hxm,j,by omega,e2⟩⟩;rw [e1,Nat.add_zero,hin j x e2];exact k.at_
     ·rw [e2] at e
      rcases Ro (K:=lk H0) h1 o with ⟨k1,⟨b1,k2⟩,e',k3,k4⟩ | ⟨k1,k2⟩
      ·rw [k4] at e
       subst e;obtain ⟨b0,l,q1,q2,rfl⟩:=OF k3;obtain ⟨g0,c0,arr0,cs0,kk⟩:=hs.heap.obj o b1 k2;have hlt:o<n0:=hd o _ kk.at_;obtain ⟨g,c,arr,cs,k⟩:=hF.heap.obj o b0 q1;have hg:(g,c)=(g0,c0):=by
        have:=hF.tr.ext _ _ kk.at_;rw [k.at_] at this;exact Option.some.inj this
       simp only [Prod.mk.injEq] at hg;refine ⟨o,b0,g,c,arr,cs,q1,k,⟨?_,.inl (by rw [hg.1]; exact kk.mut_),k.own,k.blk,k.ty,k.cells.ren hσ hM q2,k.pre,k.cap⟩,.inr ⟨hlt,rfl⟩⟩;rw [hg.1,hg.2];exact hout _ _ kk.at_
      ·rw [k2] at e
       obtain ⟨g0,c0,arr0,cs0,kk⟩:=hs.heap.obj o b e;have hlt:o<n0:=hd o _ kk.at_;obtain ⟨q1,q2⟩:=hF.kp o hlt (hWn o hlt k1);have hb:=q2 b g0 c0 e kk.at_;exact ⟨o,b,g0,c0,arr0,cs0,q1.trans e,kk.st hF.tr (hF.sup g0) hb,kk.st ht .inl hb,.inr ⟨hlt,rfl⟩⟩
    refine ⟨ρ',M',ht,YB hσ hM hr hv,⟨λo b e=>?_,λo o' b b' g c c' e e' q q'=>?_⟩,λo p e=>?_,λ_=>.inl,λb h=>hF.mon b (hM b h),λb h=>hF.bnd b (hM b h),hF.fr,λo b g c e1 e2 e3=>?_⟩
    ·obtain ⟨y,b0,g,c,arr,cs,_,_,k,_⟩:=src o b e
     exact ⟨g,c,arr,cs,k⟩
    ·obtain ⟨y,b0,g1,c1,arr,cs,l1,k1,k2,k3⟩:=src o b e
     obtain ⟨y',b0',g1',c1',arr',cs',l1',k1',k2',k3'⟩:=src o' b' e';have e1:=k2.at_;have e1':=k2'.at_;rw [q] at e1;rw [q'] at e1';simp only [Option.some.injEq,Prod.mk.injEq] at e1 e1';have hy:y=y':=hF.heap.inj y y' b0 b0' g1 c1 c1' l1 l1' k1.at_ (by rw [k1'.at_,← e1'.1,e1.1]);subst hy
     rcases k3 with ⟨n1,j,rfl,hj⟩ | ⟨n1,rfl⟩ <;> rcases k3' with ⟨n1',j',rfl,hj'⟩ | ⟨n1',h⟩
     ·rw [PP hnd hj hj']
     ·omega
     ·omega
     ·exact h
    ·by_cases ho:t0≤o∧o<t0+L.length
     ·exact .inr ⟨ho.1,by omega⟩
     ·refine .inl ?_
      have:ρ' o=ρ0 o:=if_neg ho;rw [← this];exact e
    ·obtain ⟨g0,c0,arr0,cs0,kk⟩:=hs.heap.obj o b e1
     have hlt:o<n0:=hd o _ kk.at_;refine (hF.kp o hlt (hWn o hlt λhm=>?_)).2 b g c e1 e3;obtain ⟨x,hx,e⟩:=Rq h1 o hm;exact e2 x (List.mem_append.2 (.inr hx)) e
   ·cases h
  ·cases h
end
end
section
variable [Dn]
noncomputable def Asu(f:Nat):Option Func:=Tryz.prog.funcs[f]?
noncomputable def AbL(H:HP)(a:AV)(T:TypeId):Option AV:=do
 let p ← iE H a
 let n ← D0 T
 let l ← Fl n p.1
 mkT T l
noncomputable def Ew(s:Fm):List ResultVar→Option (List AV)
 | []=>some []
 | .tmp t :: r=>match s.tm[t]?,Ew s r with
  | some a,some l=>some (a :: l)
  | _,_=>none
 | .cell t T :: r=>match s.tm[t]?,Ew s r with
  | some a,some l=>(AbL s.H a T).map (· :: l)
  | _,_=>none
def vI:List AV→Option AV
 | [a]=>some a
 | l=>if l.all AV.one then some (.tup l) else none
noncomputable def AdX(H:HP)(n0 t0:Nat)(fn:Func)(s:Fm):Option (AV × HP):=match Ew s fn.results.toList with
 | some l=>match vI l with
  | some r=>uD H n0 t0 s r
  | none=>none
 | none=>none
noncomputable def EQ(pl:List Nat)(run:Code→Fm→Option Ah9):DZ:=λf xs H n0 t0=>match Asu f with
 | none=>none
 | some fn=>match fn.body with
  | none=>none
  | some c=>if memN f pl && Nat.ble xs.length fn.ntmps then (match run c ⟨xs ++ List.replicate (fn.ntmps - xs.length) (.val undef),H,n0,[]⟩ with
   | some (.fall s)=>AdX H n0 t0 fn s
   | some (.ret s)=>AdX H n0 t0 fn s
   | _=>none) else none
noncomputable def DW(T:Tb)(pl:List Nat):Nat→Code→Fm→Option Ah9
 | 0,_,_=>none
 | n+1,c,s=>match c with
  | .skip=>some (.fall s)
  | .region _ ops dr=>(NW T (orC T.call (EQ pl (DW T pl n))) dr ops s).map .fall
  | .seq x y=>match DW T pl n x s with
   | some (.fall s')=>DW T pl n y s'
   | o=>o
  | .cond (.tmp t) x y=>match s.tm[t]? with
   | some (.val (.bool true))=>DW T pl n x s
   | some (.val (.bool false))=>DW T pl n y s
   | _=>none
  | .cond (.const (.bool b)) x y=>if b then DW T pl n x s else DW T pl n y s
  | .block i x=>match DW T pl n x s with
   | some (.exit m s')=>if Nat.beq m i then some (.fall s') else some (.exit m s')
   | o=>o
  | .loop x=>match DW T pl n x s with
   | some (.fall s')=>DW T pl n (.loop x) s'
   | o=>o
  | .exit i=>some (.exit i s)
  | .ret=>some (.ret s)
  | _=>none
section
variable {T : Tb} {pl : List Nat}
def AmT(A:Nat→Prop)(W0:World)(ρ0:B6)(M0:Nat→Prop)(H0:HP)(n0:Nat)(Q:Exit→Act→World→Prop):Ah9→Prop
 | .fall s=>∀ ρ M a w,FS A W0 ρ0 M0 H0 n0 s ρ M a w→Q .normal a w
 | .ret s=>∀ ρ M a w,FS A W0 ρ0 M0 H0 n0 s ρ M a w→Q .ret a w
 | .exit n s=>∀ ρ M a w,FS A W0 ρ0 M0 H0 n0 s ρ M a w→Q (.exit n) a w
def AhE(T:Tb)(pl:List Nat)(n:Nat):Prop:=∀ c s o,DW T pl n c s=some o→∀(A:Nat→Prop)(W0:World)(ρ0:B6)(M0:Nat→Prop)(H0:HP)(n0:Nat)(ρ:B6)(M:Nat→Prop)(a:Act)(w:World)(Q:Exit→Act→World→Prop),
 (∀ b,W0.heap.size≤b→A b)→FS A W0 ρ0 M0 H0 n0 s ρ M a w→AmT A W0 ρ0 M0 H0 n0 Q o→c.wp Tryz.prog Q a w
def pT(T:Tb)(pl:List Nat)(n:Nat):Prop:=∀ c s o,DW T pl n (.loop c) s=some o→∃ k,∀(A:Nat→Prop)(W0:World)(ρ0:B6)(M0:Nat→Prop)(H0:HP)(n0:Nat)(ρ:B6)(M:Nat→Prop)(a:Act)(w:World)(Q:Exit→Act→World→Prop),
 (∀ b,W0.heap.size≤b→A b)→FS A W0 ρ0 M0 H0 n0 s ρ M a w→AmT A W0 ρ0 M0 H0 n0 Q o→Code.rounds Tryz.prog c Q k a w
section
variable {A : Nat → Prop} {W0 : World} {ρ0 : B6} {M0 : Nat → Prop} {H0 : HP} {n0 : Nat} {s : Fm} {ρ : B6} {M : Nat → Prop} {a : Act} {w : World}
theorem Ak1(hF:FS A W0 ρ0 M0 H0 n0 s ρ M a w)(hA:∀ b,W0.heap.size≤b→A b):Fr ρ M A w s.nx (lk s.H):=
 ⟨hF.heap,hF.bnd,λo h1 _=>by
  cases e:ρ o with
  | none=>rfl
  | some p=>have:=hF.dom o p e; omega,λb hb=>hA b (Nat.le_trans hF.fr.size hb)⟩
theorem WG(hs:Fr ρ M A w n0 (lk s.H)){x r:AV}{U:TypeId}{v:Value}(h:AbL s.H x U=some r)(hv:RV ρ M w x v):∃ u,(asAddr v >>= λp=>loadVar U p).run Tryz.prog w = .ok u w∧Co ρ M w r u:=by
 simp only [AbL,Option.bind_eq_bind,Option.bind_eq_some_iff] at h;obtain ⟨⟨l,R⟩,hp,n,hn,l',ht,hm⟩:=h;obtain ⟨g,off,xs,rfl,hl,hr⟩:=MT hs hp (λ_ _=>rfl) hv;obtain ⟨u,hrun,hu⟩:=Mt hn ht hm hl hr;refine ⟨u,?_,hu⟩;simp only [Instr.loadAt,Instr.sureAddr,Sem.run_bind,Sem.run_pure,Result.andThen_ok] at hrun;simp only [asAddr,Sem.run_bind,Sem.run_pure,Result.andThen_ok];exact hrun
theorem eW{x:Nat}{tm:Array Value}{v:Value}(h:tm[x]? = some v):tm.getD x undef=v:=by
 rw [Array.getD_eq_getD_getElem?,h]; rfl
theorem JY(hF:FS A W0 ρ0 M0 H0 n0 s ρ M a w)(hA:∀ b,W0.heap.size≤b→A b):∀{rs:List ResultVar}{l:List AV},Ew s rs=some l→∃ vs,(rs.mapM (J6 a.tmps)).run Tryz.prog w = .ok vs w∧vs.length=l.length∧(l.all AV.one=true→Cz ρ M w l vs)∧∀ x,l=[x]→∃ v,vs=[v]∧RV ρ M w x v
 | [],l,h=>by
  unfold Ew at h
  cases h
  exact ⟨[],by simp,rfl,λ_=>rfl,λx e=>by cases e⟩
 | .tmp t :: r,l,h=>by
  unfold Ew at h;split at h
  ·rename_i x l' hx hl
   cases h
   obtain ⟨v,e1,e2⟩:=hF.slots t x hx;obtain ⟨vs,k1,k2,k3,_⟩:=JY hF hA hl;have hr:(J6 a.tmps (.tmp t)).run Tryz.prog w = .ok v w:=by
    show (pure (a.tmps.getD t undef):Sem Value).run _ _=_;rw [eW e1];rfl
   refine ⟨v :: vs,by simp [List.mapM_cons,Sem.run_bind,hr,k1],by simp [k2],λho=>?_,λy e=>?_⟩
   ·rw [List.all_cons,Bool.and_eq_true] at ho
    exact ⟨v,vs,rfl,e2.one ho.1,k3 ho.2⟩
   ·simp only [List.cons.injEq] at e
    obtain ⟨rfl,rfl⟩:=e;have:vs=[]:=List.length_eq_zero_iff.1 k2;exact ⟨v,by rw [this],e2⟩
  ·cases h
 | .cell t U :: r,l,h=>by
  unfold Ew at h;split at h
  ·rename_i x l' hx hl
   obtain ⟨y,hy,rfl⟩:=Option.map_eq_some_iff.1 h;obtain ⟨v,e1,e2⟩:=hF.slots t x hx;obtain ⟨vs,k1,k2,k3,_⟩:=JY hF hA hl;obtain ⟨u,hu,hr1⟩:=WG (s:=s) (n0:=s.nx) (Ak1 hF hA) hy e2;have hr:(J6 a.tmps (.cell t U)).run Tryz.prog w = .ok u w:=by
    show (asAddr (a.tmps.getD t undef) >>= λp=>loadVar U p).run _ _=_;rw [eW e1];exact hu
   refine ⟨u :: vs,by simp [List.mapM_cons,Sem.run_bind,hr,k1],by simp [k2],λho=>?_,λz e=>?_⟩
   ·rw [List.all_cons,Bool.and_eq_true] at ho
    exact ⟨u,vs,rfl,hr1,k3 ho.2⟩
   ·simp only [List.cons.injEq] at e
    obtain ⟨rfl,rfl⟩:=e;have:vs=[]:=List.length_eq_zero_iff.1 k2;exact ⟨u,by rw [this],hr1.rv⟩
  ·cases h
theorem G6(hF:FS A W0 ρ0 M0 H0 n0 s ρ M a w)(hA:∀ b,W0.heap.size≤b→A b){fn:Func}{l:List AV}{r:AV}(h:Ew s fn.results.toList=some l)(ho:vI l=some r):∃ v,(results fn a.tmps).run Tryz.prog w = .ok v w∧RV ρ M w r v:=by
 obtain ⟨vs,k1,k2,k3,k4⟩:=JY hF hA h;have hres:(results fn a.tmps)=(do
   let vs ← fn.results.mapM (J6 a.tmps)
   pure (if h:vs.size=1 then vs[0] else .tuple vs)):=by
  unfold results
  congr 1
 have hm:(fn.results.mapM (J6 a.tmps)).run Tryz.prog w = .ok vs.toArray w:=by
  rw [Array.mapM_eq_mapM_toList,map_eq_pure_bind,Sem.run_bind,k1];rfl
 rw [hres,Sem.run_bind,hm];unfold vI at ho;split at ho
 ·cases ho
  obtain ⟨v,rfl,hv⟩:=k4 _ rfl;exact ⟨v,rfl,hv⟩
 ·rename_i hne
  split at ho
  ·rename_i hall
   cases ho
   have hsz:¬ vs.toArray.size=1:=λe=>by
    rw [List.size_toArray,k2] at e;obtain ⟨x,e⟩:=List.length_eq_one_iff.1 e;exact hne x e
   refine ⟨.tuple vs.toArray,?_,⟨vs.toArray,rfl,k3 hall⟩⟩;show (pure (if h:vs.toArray.size=1 then vs.toArray[0] else Value.tuple vs.toArray):Sem Value).run Tryz.prog w = .ok (.tuple vs.toArray) w;split
   ·rename_i e
    exact absurd e hsz
   ·rfl
  ·cases ho
end
theorem Cz.len{ρ:B6}{M:Nat→Prop}{w:World}:∀{l:List AV}{vs:List Value},Cz ρ M w l vs→vs.length=l.length
 | [],_,h=>by have h:_=[]:=h; rw [h]; rfl
 | _ :: _,_,⟨v,r,e,_,h⟩=>by rw [e,List.length_cons,h.len,List.length_cons]
theorem Hk(hpl:∀ f∈pl,Br f){n:Nat}(hn:AhE T pl n):EG (EQ pl (DW T pl n)):=by
 intro f xs H n0 t0 r U h;unfold EQ at h;split at h
 ·cases h
 ·rename_i fn hfn
  split at h
  ·cases h
  ·rename_i c hc
   split at h
   ·rename_i hcond
    rw [Bool.and_eq_true] at hcond;have hlen:=Nat.le_of_ble_eq_true hcond.2;refine ⟨hpl f (EL.1 hcond.1),λρ M w vs hs hd ht hv=>?_⟩;have hfn:Tryz.prog.funcs[f]? = some fn:=hfn;refine calls_of_wp hfn hc ?_;have hvl:vs.length=xs.length:=hv.len;have hget:∀(l:List AV)(vs:List Value),Cz ρ M w l vs→∀(t:Nat)(x:AV),l[t]? = some x→∃ v,vs[t]? = some v∧RV ρ M w x v:=λl vs hv t x hx=>by
     obtain ⟨v,e,k⟩:=hv.get hx;exact ⟨v,e,k.rv⟩
    let s0:Fm:=⟨xs ++ List.replicate (fn.ntmps - xs.length) (.val undef),H,n0,[]⟩
    let a0:Act:={ tmps:=vs.toArray ++ Array.replicate (fn.ntmps - vs.toArray.size) undef,defers:=[] }
    have hF:FS (pB ρ w (lk H)) w ρ M H n0 s0 ρ M a0 w:=by
     refine ⟨by simp [a0,s0,hvl],rfl,λt x hx=>?_,hs.heap,hd,Nat.le_refl _,hs.bnd,QS.refl _ _,Tr.refl _ _ _,λ_ h=>h,λ_ h=>.inl h,λo p e=>.inl e,λo _ _=>⟨rfl,λ_ _ _ _ _=>rfl⟩⟩;have hx:(xs ++ List.replicate (fn.ntmps - xs.length) (.val undef))[t]? = some x:=hx;show ∃ v,(vs.toArray ++ Array.replicate (fn.ntmps - vs.toArray.size) undef)[t]? = some v∧_;rw [List.getElem?_append] at hx;split at hx
     ·rename_i hlt
      obtain ⟨v,e,k⟩:=hget xs vs hv t x hx;exact ⟨v,by rw [Array.getElem?_append_left (by simp [hvl,hlt])]; simpa using e,k⟩
     ·rename_i hge
      rw [List.getElem?_replicate] at hx;split at hx
      ·cases hx
       refine ⟨undef,?_,rfl⟩;rw [Array.getElem?_append_right (by simp [hvl]; omega),Array.getElem?_replicate,if_pos];simp [hvl];omega
      ·cases hx
    have hfin:∀ s,AdX H n0 t0 fn s=some (r,U)→∀ ρ' M' a' w',FS (pB ρ w (lk H)) w ρ M H n0 s ρ' M' a' w'→a'.defers=[]∧∃ v,(results fn a'.tmps).run Tryz.prog w' = .ok v w'∧∃ u,Ending.returned v = .returned u∧Cw ρ M (pB ρ w (lk H)) w t0 (lk H) U r u w':=λs hf ρ' M' a' w' hF'=>by
     unfold AdX at hf;split at hf
     ·rename_i l hl
      split at hf
      ·rename_i r0 hr0
       obtain ⟨v,e1,e2⟩:=G6 hF' hs.fresh hl hr0;exact ⟨hF'.defers,v,e1,v,rfl,nI hs hd hF' e2 hf⟩
      ·cases hf
     ·cases hf
    split at h
    ·rename_i s hrun
     refine hn c s0 _ hrun _ _ _ _ _ _ _ _ a0 w _ hs.fresh hF ?_;exact λρ' M' a' w' hF'=>hfin s h ρ' M' a' w' hF'
    ·rename_i s hrun
     refine hn c s0 _ hrun _ _ _ _ _ _ _ _ a0 w _ hs.fresh hF ?_;exact λρ' M' a' w' hF'=>hfin s h ρ' M' a' w' hF'
    ·cases h
   ·cases h
theorem P5(hT:Qv T)(hpl:∀ f∈pl,Br f):∀ n,AhE T pl n∧pT T pl n:=by
 intro n
 induction n with
 | zero=>exact ⟨λc s o h=>by (unfold DW at h; cases h),λc s o h=>by (unfold DW at h; cases h)⟩
 | succ n ih =>
  have hloop:pT T pl (n+1):=by
   intro c s o h;simp only [DW] at h;split at h
   ·rename_i s' hr
    obtain ⟨k,hk⟩:=ih.2 c s' o h;refine ⟨k+1,λA W0 ρ0 M0 H0 n0 ρ M a w Q hA hF hQ=>?_⟩;rw [rounds_succ];exact ih.1 c s _ hr A W0 ρ0 M0 H0 n0 ρ M a w _ hA hF λρ' M' a' w' hF'=>hk A W0 ρ0 M0 H0 n0 ρ' M' a' w' Q hA hF' hQ
   ·rename_i hne
    refine ⟨1,λA W0 ρ0 M0 H0 n0 ρ M a w Q hA hF hQ=>?_⟩;rw [rounds_succ];refine ih.1 c s _ h A W0 ρ0 M0 H0 n0 ρ M a w _ hA hF ?_
    cases o with
    | fall s'=>exact absurd h (hne s')
    | ret s'=>exact hQ
    | exit m s'=>exact hQ
  refine ⟨?_,hloop⟩;intro c s o h A W0 ρ0 M0 H0 n0 ρ M a w Q hA hF hQ;have h0:=h;unfold DW at h
  cases c with
  | skip=>cases h; exact wp_skip (hQ _ _ _ _ hF)
  | region i ops dr =>
   simp only [] at h;obtain ⟨s',hs',rfl⟩:=Option.map_eq_some_iff.1 h;exact KE hT (AbR hT.call (Hk hpl ih.1)) hs' hA hF hQ
  | seq x y =>
   simp only [] at h;split at h
   ·rename_i s' hr
    exact wp_seq (ih.1 x s _ hr A W0 ρ0 M0 H0 n0 ρ M a w _ hA hF λρ' M' a' w' hF'=>ih.1 y s' o h A W0 ρ0 M0 H0 n0 ρ' M' a' w' Q hA hF' hQ)
   ·rename_i hne
    refine wp_seq (ih.1 x s _ h A W0 ρ0 M0 H0 n0 ρ M a w _ hA hF ?_)
    cases o with
    | fall s'=>exact absurd h (hne s')
    | ret s'=>exact hQ
    | exit m s'=>exact hQ
  | cond t x y =>
   cases t with
   | tmp t =>
    simp only [] at h;split at h
    ·rename_i ht
     obtain ⟨v,e1,e2⟩:=hF.slots t _ ht;have e2:v = .bool true:=e2;exact wp_cond_true (by rw [CC e1,e2]) (ih.1 x s o h A W0 ρ0 M0 H0 n0 ρ M a w Q hA hF hQ)
    ·rename_i ht
     obtain ⟨v,e1,e2⟩:=hF.slots t _ ht;have e2:v = .bool false:=e2;exact wp_cond_false (by rw [CC e1,e2]) (ih.1 y s o h A W0 ρ0 M0 H0 n0 ρ M a w Q hA hF hQ)
    ·cases h
   | const v =>
    cases v with
    | bool b =>
     simp only [] at h
     cases b with
     | true=>exact wp_cond_true rfl (ih.1 x s o (by simpa using h) A W0 ρ0 M0 H0 n0 ρ M a w Q hA hF hQ)
     | false=>exact wp_cond_false rfl (ih.1 y s o (by simpa using h) A W0 ρ0 M0 H0 n0 ρ M a w Q hA hF hQ)
    | _=>cases h
   | _=>cases h
  | block i x =>
   simp only [] at h;refine wp_block ?_;split at h
   ·rename_i m s' hr
    refine ih.1 x s _ hr A W0 ρ0 M0 H0 n0 ρ M a w _ hA hF λρ' M' a' w' hF'=>?_
    show if m=i then Q .normal a' w' else Q (.exit m) a' w'
    split at h
    ·rename_i e
     have e:=Nat.eq_of_beq_eq_true e
     cases h
     rw [if_pos e];exact hQ _ _ _ _ hF'
    ·rename_i e
     cases h
     rw [if_neg λh=>e (by rw [h]; exact Nat.beq_refl i)];exact hQ _ _ _ _ hF'
   ·rename_i hne
    refine ih.1 x s _ h A W0 ρ0 M0 H0 n0 ρ M a w _ hA hF ?_
    cases o with
    | fall s'=>exact hQ
    | ret s'=>exact hQ
    | exit m s'=>exact absurd h (hne m s')
  | loop x =>
   obtain ⟨k,hk⟩:=hloop x s o h0;exact wp_loop_rounds k (hk A W0 ρ0 M0 H0 n0 ρ M a w Q hA hF hQ)
  | exit i=>cases h; exact wp_exit (hQ _ _ _ _ hF)
  | ret=>cases h; exact wp_ret (hQ _ _ _ _ hF)
  | _=>cases h
theorem N_(hT:Qv T)(hpl:∀ f∈pl,Br f){n f:Nat}{xs:List AV}{r:AV}{t:HP}(h:EQ pl (DW T pl n) f xs [] 16 0=some (r,t)){w:World}{vs:List Value}(hv:Cz (λ_=>none) (λ_=>False) w xs vs) :
  Calls Tryz.prog f vs.toArray w λe w'=>∃ v,e = .returned v∧(∃ ρ M,RV ρ M w' r v)∧Below w.heap.size w w':=by
 obtain ⟨_,hc⟩:=Hk hpl (P5 hT hpl n).1 f xs [] 16 0 r t h;refine Calls.mono (hc (λ_=>none) (λ_=>False) w vs ⟨⟨λo b e=>(by cases e),λo o' b b' g c c' e=>(by cases e)⟩,λ_ h=>h.elim,λ_ _ _=>rfl,λb hb=>.inl hb⟩ (λo p e=>(by cases e)) (by omega) hv) λe w' he=>?_
 obtain ⟨v,e,ρ',M',ht,hrv,_,_,_,_,_,hfr,_⟩:=he;exact ⟨v,e,⟨ρ',M',hrv⟩,⟨hfr.os,hfr.tape,hfr.output,hfr.size,λb hb=>ht.keep b hb λh=>h⟩⟩
end
end
section
def agL:AV→Bool
 | .num _ | .rat _ | .ext _ true _=>true
 | _=>false
def JE:AV→AV→Bool
 | .val (.int .i64 a),.val (.int .i64 b)=>decide (a=b)
 | .val (.bool a),.val (.bool b)=>decide (a=b)
 | .val (.slice none a b),.val (.slice none c d)=>Nat.beq a c && Nat.beq b d
 | .num a,.num b=>decide (a=b)
 | .rat a,.rat b=>decide (a=b)
 | .ext n g c,.ext n' g' c'=>Nat.beq n n' && decide (g=g') && CE.beq c c'
 | _,_=>false
theorem VO{a b:AV}(h:JE a b=true):a=b:=by
  unfold JE at h
  split at h <;> first
    | (cases h; done)
    | (rw [of_decide_eq_true h]; done)
    | (rw [Bool.and_eq_true] at h; rw [Nat.eq_of_beq_eq_true h.1,Nat.eq_of_beq_eq_true h.2]; done)
    | (rw [Bool.and_eq_true,Bool.and_eq_true] at h
       rw [Nat.eq_of_beq_eq_true h.1.1,of_decide_eq_true h.1.2,CE.beq_eq h.2])
structure Rd where
 vs:List (AV × AV)
 ns:List (CE × CE)
 bs:List (CE × CE)
 rest:List (Nat × CE × CE × CE)
 rp:List Nat
 nx:Nat
def Rd.out(d:Rd):List Nat:=d.rest.map (·.1) ++ d.rp
def Rd.keep(d:Rd)(o:Nat):Bool:=Nat.blt o d.nx && !(memN o d.out)
def okP(L:List (AV × AV))(a b:AV):Bool:=decide (agL a=agL b) && L.any λp=>JE p.1 a && JE p.2 b
def okE(L:List (CE × CE))(a b:CE):Bool:=L.any λp=>CE.beq p.1 a && CE.beq p.2 b
def AiC:Option Nat→Option Nat→Bool
 | some a,some b=>Nat.beq a b
 | none,none=>true
 | _,_=>false
theorem AcF{a b:Option Nat}(h:AiC a b=true):a=b:=by
 unfold AiC at h;split at h
 ·rw [Nat.eq_of_beq_eq_true h]
 ·rfl
 ·cases h
mutual
def wkC(d:Rd)(H:HP):AV→AV→Bool
 | .ptr o a,.ptr o' b=>Nat.beq o o' && Nat.beq a b && d.keep o
 | .ptr o a,.rptr l=>Nat.beq a 0 && memN o d.rp && (match lk H o with
  | some b=>b.bl.isNone && Oi d H b.cs l
  | none=>false)
 | .sl o a n c,.sl o' a' n' c'=>Nat.beq o o' && Nat.beq a a' && Nat.beq n n' && AiC c c' && d.keep o
 | .slx o c,.slx o' c'=>Nat.beq o o' && d.keep o && okE d.ns c c'
 | .slx o c,.ext 1 false c'=>d.rest.any λp=>Nat.beq p.1 o && CE.beq p.2.1 c && CE.beq p.2.2.2 c'
 | .fn f a b,.fn f' a' b'=>Nat.beq f f' && Oi d H a a' && Oi d H b b'
 | .rptr l,.rptr l'=>Oi d H l l'
 | .val (.slice none n c),.val (.slice none n' c')=>Nat.beq n n' && Nat.beq c c'
 | a,b=>okP d.vs a b
termination_by structural _ b=>b
def Oi(d:Rd)(H:HP):List AV→List AV→Bool
 | [],[]=>true
 | a :: l,b :: m=>wkC d H a b && Oi d H l m
 | _,_=>false
termination_by structural _ b=>b
end
def wkV(d:Rd)(H:HP)(a:AV):AV→Bool
 | .any=>true
 | .agg m=>(match a with
  | .agg l=>Oi d H l m
  | _=>false)
 | b=>wkC d H a b
def Gq(d:Rd)(H:HP):List AV→List AV→Bool
 | [],[]=>true
 | a :: l,b :: m=>wkV d H a b && Gq d H l m
 | _,_=>false
def wkB(d:Rd)(H:HP)(b b':OB):Bool:=Nat.beq b.ty b'.ty && Nat.beq b.k b'.k && decide (b.room=b'.room) && (match b.bl,b'.bl with
 | none,none=>Oi d H b.cs b'.cs
 | some c,some c'=>okE d.bs c c'
 | _,_=>false)
def wkH(d:Rd)(H:HP):HP→Bool
 | []=>true
 | (_,none) :: r=>wkH d H r
 | (o,some b') :: r=>d.keep o && (match lk H o with | some b=>wkB d H b b' | none=>false) && wkH d H r
def wkR(n0:Nat)(H:HP):List (Nat × CE × CE × CE)→Bool
 | []=>true
 | (o,_,c,_) :: r=>Nat.ble n0 o && (match lk H o with | some b=>(match b.bl with | some c'=>CE.beq c c' | none=>false) | none=>false) && wkR n0 H r
def wkP(n0:Nat)(H:HP):List Nat→Bool
 | []=>true
 | o :: r=>Nat.ble n0 o && (match lk H o with | some b=>b.bl.isNone | none=>false) && wkP n0 H r
def below(n0:Nat)(H:HP):HP:=H.filter λx=>Nat.blt x.1 n0
def Fs(d:Rd)(n0:Nat)(s s':Fm):Bool:=Gq d s.H s.tm s'.tm && wkH d s.H s'.H && wkR n0 s.H d.rest && wkP n0 s.H d.rp && Nat.beq s'.nx d.nx && Nat.ble n0 d.nx && s.wr.all λx=>Nat.ble n0 x
structure M_ (E E':Dn) (d:Rd):Prop where
 vs:∀ p∈d.vs,∀(ρ ρ':B6)(M:Nat→Prop)(w:World)(cs:List Value),@Rp E ρ M w p.1 cs → @Rp E' ρ' M w p.2 cs
 ns:∀ p∈d.ns,E.N p.1=E'.N p.2
 bs:∀ p∈d.bs,∀(M:Nat→Prop)(w:World)(cs:List Value),(E.B p.1).p M w cs→(E'.B p.2).p M w cs
 rest:∀ p∈d.rest,∀(M:Nat→Prop)(w:World)(g k:Nat)(cs:List Value),¬ M g→g<w.heap.size→w.rangeAt g 0 cs→(E.B p.2.2.1).p M w cs→E.N p.2.1≤k→(E'.X p.2.2.2).p M w [.slice (some ⟨g,0,none⟩) (E.N p.2.1) k]
def H7(d:Rd)(ρ:B6):B6:=λo=>if d.keep o then ρ o else none
def If(d:Rd)(ρ:B6)(M:Nat→Prop)(b:Nat):Prop:=M b∧∀ o c,memN o d.out=true→ρ o≠some (b,c)
section
variable {E E' : Dn} {d : Rd} {ρ : B6} {M A : Nat → Prop} {w : World}
theorem tU(E:Dn){p:Nat × CE × CE × CE}(h:p∈d.rest):memN p.1 d.out=true:=(@EL E _ _).2 (List.mem_append.2 (.inl (List.mem_map.2 ⟨p,h,rfl⟩)))
theorem Aiv(E:Dn){o:Nat}(h:memN o d.rp=true):memN o d.out=true:=(@EL E _ _).2 (List.mem_append.2 (.inr ((@EL E _ _).1 h)))
theorem Adv:Tr ρ M w ρ (If d ρ M) w:=⟨Bz.refl w,λ_ _ _=>rfl,λ_ _ h=>h.1,λ_ _ h=>h⟩
theorem mL{a b:AV}(h:JE a b=true){ρ ρ':B6}{cs:List Value}(r:@Rp E ρ M w b cs):@Rp E ρ' M w b cs:=by
 unfold JE at h;split at h <;> first
  | (cases h; done)
  | (unfold Rp at r ⊢; exact r)
theorem Lz(hd:M_ E E' d){a b:AV}(h:okP d.vs a b=true){cs:List Value}(r:@Rp E ρ M w a cs):@Rp E' (H7 d ρ) (If d ρ M) w b cs:=by
 unfold okP at h;rw [Bool.and_eq_true] at h;obtain ⟨p,hp,h⟩:=List.any_eq_true.1 h.2;rw [Bool.and_eq_true] at h;have e1:=VO h.1;have e2:=VO h.2;have r1:=hd.vs p hp ρ ρ M w cs (e1 ▸ r);rw [e2] at r1;exact @mL E' (If d ρ M) w _ _ h.2 ρ _ cs (@Rp.st E' ρ ρ M (If d ρ M) w w Adv b cs r1)
theorem Jd{o:Nat}(h:d.keep o=true):H7 d ρ o=ρ o:=by unfold H7; rw [if_pos h]
def L9(E:Dn)(d:Rd)(H:HP)(ρ:B6)(M:Nat→Prop)(w:World):Prop:=(∀ p∈d.rest,∀ g c,ρ p.1=some (g,c)→∃ cs,g<w.heap.size∧w.rangeAt g 0 cs∧(E.B p.2.2.1).p (If d ρ M) w cs) ∧
 ∀ o b g c,memN o d.rp=true→lk H o=some b→b.bl.isNone=true→ρ o=some (g,c)→∃ cs,g<w.heap.size∧w.rangeAt g 0 cs ∧ @BC E ρ M w b.cs cs
mutual
theorem En{H:HP}(hd:M_ E E' d)(hr:L9 E d H ρ M w):∀(a b:AV)(cs:List Value),wkC d H a b=true → @Rp E ρ M w a cs → @Rp E' (H7 d ρ) (If d ρ M) w b cs:=by
 intro a b cs h r;unfold wkC at h;split at h
 ·rw [Bool.and_eq_true,Bool.and_eq_true] at h
  have e1:=Nat.eq_of_beq_eq_true h.1.1;have e2:=Nat.eq_of_beq_eq_true h.1.2;subst e1;subst e2;unfold Rp at r ⊢;rw [Jd h.2];exact r
 ·rename_i o a l
  rw [Bool.and_eq_true,Bool.and_eq_true] at h;have e0:=Nat.eq_of_beq_eq_true h.1.1;subst e0;have h2:=h.2;split at h2
  ·rename_i b hb
   rw [Bool.and_eq_true] at h2;unfold Rp at r ⊢;obtain ⟨g,c,q1,rfl⟩:=r;obtain ⟨xs,k1,k2,k3⟩:=hr.2 o b g c h.1.2 hb h2.1 q1;exact ⟨g,0,xs,rfl,λhm=>hm.2 o c (Aiv E h.1.2) q1,k1,k2,Ea hd hr b.cs l xs h2.2 k3⟩
  ·cases h2
 ·simp only [Bool.and_eq_true] at h
  obtain ⟨⟨⟨⟨h1,h2⟩,h3⟩,h4⟩,h5⟩:=h;have e1:=Nat.eq_of_beq_eq_true h1;have e2:=Nat.eq_of_beq_eq_true h2;have e3:=Nat.eq_of_beq_eq_true h3;have e4:=AcF h4;subst e1;subst e2;subst e3;subst e4;unfold Rp at r ⊢;rw [Jd h5];exact r
 ·simp only [Bool.and_eq_true] at h
  obtain ⟨⟨h1,h2⟩,h3⟩:=h;have e1:=Nat.eq_of_beq_eq_true h1;subst e1;obtain ⟨p,hp,h3⟩:=List.any_eq_true.1 h3;rw [Bool.and_eq_true] at h3;have e2:=CE.beq_eq h3.1;have e3:=CE.beq_eq h3.2;have hn:=hd.ns p hp;rw [e2,e3] at hn;unfold Rp at r ⊢;rw [Jd h2,← hn];exact r
 ·rename_i o c c'
  obtain ⟨p,hp,h⟩:=List.any_eq_true.1 h;simp only [Bool.and_eq_true] at h;obtain ⟨⟨h1,h2⟩,h3⟩:=h;have e1:=Nat.eq_of_beq_eq_true h1;have e2:=CE.beq_eq h2;have e3:=CE.beq_eq h3;subst e1;subst e2;subst e3;unfold Rp at r ⊢;obtain ⟨g,k,cc,q1,rfl,q3⟩:=r;obtain ⟨xs,k1,k2,k3⟩:=hr.1 p hp g cc q1;refine ⟨rfl,hd.rest p hp (If d ρ M) w g k xs ?_ k1 k2 k3 q3⟩;intro hm;exact hm.2 p.1 cc (tU E hp) q1
 ·rename_i f a1 b1 f' a2 b2
  rw [Bool.and_eq_true,Bool.and_eq_true] at h;have e1:=Nat.eq_of_beq_eq_true h.1.1;subst e1;unfold Rp at r ⊢;obtain ⟨xs,ys,e,r1,r2⟩:=r;exact ⟨xs,ys,e,Ea hd hr a1 a2 _ h.1.2 r1,Ea hd hr b1 b2 _ h.2 r2⟩
 ·rename_i l l'
  unfold Rp at r ⊢;obtain ⟨g,off,xs,e,m,sz,ra,rc⟩:=r;exact ⟨g,off,xs,e,λk=>m k.1,sz,ra,Ea hd hr l l' xs h rc⟩
 ·rw [Bool.and_eq_true] at h
  have e1:=Nat.eq_of_beq_eq_true h.1;have e2:=Nat.eq_of_beq_eq_true h.2;subst e1;subst e2;unfold Rp at r ⊢;exact r
 ·exact Lz hd h r
theorem Ea{H:HP}(hd:M_ E E' d)(hr:L9 E d H ρ M w):∀(l m:List AV)(cs:List Value),Oi d H l m=true → @BC E ρ M w l cs → @BC E' (H7 d ρ) (If d ρ M) w m cs:=by
 intro l m cs h r
 match l,m with
 | [],[]=>unfold BC at r ⊢; exact r
 | a :: l,b :: m =>
  unfold Oi at h;rw [Bool.and_eq_true] at h;unfold BC at r ⊢;obtain ⟨x,y,e,r1,r2⟩:=r;exact ⟨x,y,e,En hd hr a b x h.1 r1,Ea hd hr l m y h.2 r2⟩
 | [],_ :: _=>unfold Oi at h; cases h
 | _ :: _,[]=>unfold Oi at h; cases h
end
end
end
section
variable {E E' : Dn} {d : Rd} {ρ : B6} {M A : Nat → Prop} {w : World}
theorem Afi{p a:AV}(h:JE p a=true){v:Value}(r:@RV E ρ M w a v):(agL a=false ∧ @Rp E ρ M w a [v]) ∨ (agL a=true∧∃ cs,v = .agg cs ∧ @Rp E ρ M w a cs.toList):=by
 unfold JE at h;split at h <;> first | (cases h; done) | skip
 ·have r:v=_:=r
  subst r;exact .inl ⟨rfl,by unfold Rp; exact ⟨rfl,rfl⟩⟩
 ·have r:v=_:=r
  subst r;exact .inl ⟨rfl,by unfold Rp; exact ⟨rfl,rfl⟩⟩
 ·have r:v=_:=r
  subst r;exact .inl ⟨rfl,by unfold Rp; exact ⟨rfl,rfl⟩⟩
 ·exact .inr ⟨rfl,r⟩
 ·exact .inr ⟨rfl,r⟩
 ·rename_i g' c'
  cases g' with
  | true=>exact .inr ⟨rfl,r⟩
  | false=>exact .inl ⟨rfl,r⟩
theorem pW{p b:AV}(h:JE p b=true){v:Value}(r:(agL b=false ∧ @Rp E ρ M w b [v]) ∨ (agL b=true∧∃ cs,v = .agg cs ∧ @Rp E ρ M w b cs.toList)):@RV E ρ M w b v:=by
 unfold JE at h;split at h <;> first | (cases h; done) | skip
 ·rcases r with ⟨_,r⟩ | ⟨e,_⟩
  ·unfold Rp at r
   exact (List.cons.inj r.1).1
  ·cases e
 ·rcases r with ⟨_,r⟩ | ⟨e,_⟩
  ·unfold Rp at r
   exact (List.cons.inj r.1).1
  ·cases e
 ·rcases r with ⟨_,r⟩ | ⟨e,_⟩
  ·unfold Rp at r
   exact (List.cons.inj r.1).1
  ·cases e
 ·rcases r with ⟨e,_⟩ | ⟨_,r⟩
  ·cases e
  ·exact r
 ·rcases r with ⟨e,_⟩ | ⟨_,r⟩
  ·cases e
  ·exact r
 ·rename_i g' c'
  cases g' with
  | true =>
   rcases r with ⟨e,_⟩ | ⟨_,r⟩
   ·cases e
   ·exact r
  | false =>
   rcases r with ⟨_,r⟩ | ⟨e,_⟩
   ·exact r
   ·cases e
theorem AjI{H:HP}(hd:M_ E E' d)(hr:L9 E d H ρ M w){a b:AV}{v:Value}(h:wkC d H a b=true)(r:@RV E ρ M w a v):@RV E' (H7 d ρ) (If d ρ M) w b v:=by
 have h0:=h;unfold wkC at h;split at h
 ·exact En hd hr _ _ [v] h0 r
 ·exact En hd hr _ _ [v] h0 r
 ·exact En hd hr _ _ [v] h0 r
 ·exact En hd hr _ _ [v] h0 r
 ·exact En hd hr _ _ [v] h0 r
 ·exact En hd hr _ _ [v] h0 r
 ·exact En hd hr _ _ [v] h0 r
 ·rw [Bool.and_eq_true] at h
  have e1:=Nat.eq_of_beq_eq_true h.1;have e2:=Nat.eq_of_beq_eq_true h.2;subst e1;subst e2;exact r
 ·have h1:=h
  unfold okP at h1;rw [Bool.and_eq_true] at h1;have he:=of_decide_eq_true h1.1;obtain ⟨p,hp,h2⟩:=List.any_eq_true.1 h1.2;rw [Bool.and_eq_true] at h2;refine pW (E:=E') h2.2 ?_
  rcases Afi (E:=E) h2.1 r with ⟨e,r⟩ | ⟨e,cs,ev,r⟩
  ·exact .inl ⟨he ▸ e,Lz hd h r⟩
  ·exact .inr ⟨he ▸ e,cs,ev,Lz hd h r⟩
theorem yP{H:HP}(hd:M_ E E' d)(hr:L9 E d H ρ M w){a b:AV}{v:Value}(h:wkV d H a b=true)(r:@RV E ρ M w a v):@RV E' (H7 d ρ) (If d ρ M) w b v:=by
 unfold wkV at h;split at h
 ·exact True.intro
 ·split at h
  ·obtain ⟨cs,e,r⟩:=r
   exact ⟨cs,e,Ea hd hr _ _ _ h r⟩
  ·cases h
 ·exact AjI hd hr h r
theorem Vn(d:Rd)(H:HP):∀{l m:List AV}{t:Nat}{x':AV},Gq d H l m=true→m[t]? = some x'→∃ x,l[t]? = some x∧wkV d H x x'=true
 | [],[],_,_,_,e=>by cases e
 | a :: l,b :: m,0,x',h,e=>by
  unfold Gq at h;rw [Bool.and_eq_true] at h
  cases e
  exact ⟨a,rfl,h.1⟩
 | a :: l,b :: m,t+1,x',h,e=>by
  unfold Gq at h;rw [Bool.and_eq_true] at h;exact Vn d H (t:=t) h.2 (by simpa using e)
 | [],_ :: _,_,_,h,_=>by unfold Gq at h; cases h
 | _ :: _,[],_,_,h,_=>by unfold Gq at h; cases h
theorem WE(d:Rd)(H:HP):∀{l m:List AV},Gq d H l m=true→m.length=l.length
 | [],[],_=>rfl
 | a :: l,b :: m,h=>by
  unfold Gq at h;rw [Bool.and_eq_true] at h;rw [List.length_cons,List.length_cons,WE d H h.2]
 | [],_ :: _,h=>by unfold Gq at h; cases h
 | _ :: _,[],h=>by unfold Gq at h; cases h
theorem Kv(d:Rd)(H:HP):∀{H':HP}{o:Nat}{b':OB},wkH d H H'=true→lk H' o=some b'→d.keep o=true∧∃ b,lk H o=some b∧wkB d H b b'=true
 | [],_,_,_,e=>by cases e
 | (x,none) :: r,o,b',h,e=>by
  unfold wkH at h;unfold lk at e;split at e
  ·cases e
  ·exact Kv d H h e
 | (x,some c) :: r,o,b',h,e=>by
  unfold wkH at h;rw [Bool.and_eq_true,Bool.and_eq_true] at h;unfold lk at e;split at e
  ·rename_i hx
   have hx:=Nat.eq_of_beq_eq_true hx;subst hx
   cases e
   refine ⟨h.1.1,?_⟩;have h2:=h.1.2;split at h2
   ·rename_i b hb
    exact ⟨b,hb,h2⟩
   ·cases h2
  ·exact Kv d H h.2 e
theorem Sa{n0:Nat}{H:HP}:∀{l:List (Nat × CE × CE × CE)}{p:Nat × CE × CE × CE},wkR n0 H l=true→p∈l→n0≤p.1∧∃ b,lk H p.1=some b∧b.bl=some p.2.2.1
 | [],_,_,hp=>by cases hp
 | (o,c1,c2,c3) :: r,p,h,hp=>by
  unfold wkR at h;rw [Bool.and_eq_true,Bool.and_eq_true] at h
  rcases List.mem_cons.1 hp with rfl | hp
  ·refine ⟨Nat.le_of_ble_eq_true h.1.1,?_⟩
   have h2:=h.1.2;split at h2
   ·rename_i b hb
    split at h2
    ·rename_i c hc
     have:=CE.beq_eq h2;exact ⟨b,hb,by rw [hc,← this]⟩
    ·cases h2
   ·cases h2
  ·exact Sa h.2 hp
theorem aJ{n0:Nat}{H:HP}:∀{l:List Nat}{o:Nat},wkP n0 H l=true→o∈l→n0≤o∧∃ b,lk H o=some b∧b.bl.isNone=true
 | [],_,_,hp=>by cases hp
 | x :: r,o,h,hp=>by
  unfold wkP at h;rw [Bool.and_eq_true,Bool.and_eq_true] at h
  rcases List.mem_cons.1 hp with rfl | hp
  ·refine ⟨Nat.le_of_ble_eq_true h.1.1,?_⟩
   have h2:=h.1.2;split at h2
   ·rename_i b hb
    exact ⟨b,hb,h2⟩
   ·cases h2
  ·exact aJ h.2 hp
theorem Ks{n0 o:Nat}(ho:o<n0):∀{H:HP},lk (below n0 H) o=lk H o
 | []=>rfl
 | (x,e) :: r=>by
  unfold below;rw [List.filter_cons];split
  ·unfold lk
   rw [show lk (List.filter (λx=>Nat.blt x.1 n0) r) o=lk r o from Ks ho]
  ·rename_i hx
   have hne:¬ Nat.beq x o=true:=λe=>by
    have:=Nat.eq_of_beq_eq_true e;subst this;exact hx (Nat.ble_eq_true_of_le ho)
   rw [show lk ((x,e) :: r) o=lk r o by simp only [lk]; rw [if_neg hne]];exact Ks ho
theorem FS.move{W0:World}{ρ0:B6}{M0:Nat→Prop}{H0:HP}{n0:Nat}{s s':Fm}{a:Act}(hd:M_ E E' d)(hr0:∀ o p,ρ0 o=some p→o<n0)(hm0:∀ b,M0 b→b<W0.heap.size)(hown:d.out=[] ∨ ∀ b,A b→W0.heap.size≤b ∨ ∃ o bo c,lk H0 o=some bo∧ρ0 o=some (b,c))
  (h:Fs d n0 s s'=true) (hb:below n0 s'.H=below n0 s.H) (hF:@FS E A W0 ρ0 M0 H0 n0 s ρ M a w):@FS E' A W0 ρ0 M0 H0 n0 s' (H7 d ρ) (If d ρ M) a w:=by
 unfold Fs at h;obtain ⟨Fsize,Fdef,Fslots,⟨Fobj,Finj⟩,Fdom,Fnx,Fbnd,Ffr,Ftr,Fsup,Fmon,Fold,Fkp⟩:=hF;simp only [Bool.and_eq_true] at h;obtain ⟨⟨⟨⟨⟨⟨h1,h2⟩,h3⟩,h7⟩,h4⟩,h5⟩,h6⟩:=h;have h4:=Nat.eq_of_beq_eq_true h4;have h5:=Nat.le_of_ble_eq_true h5;have hwr:∀ x∈s.wr,n0≤x:=λx hx=>Nat.le_of_ble_eq_true (List.all_eq_true.1 h6 x hx)
 have hrest:∀ o,memN o d.out=true→n0≤o∧∃ b,lk s.H o=some b:=λo hm=>by
  rcases List.mem_append.1 ((@EL E _ _).1 hm) with hm | hm
  ·obtain ⟨p,hp,rfl⟩:=List.mem_map.1 hm
   obtain ⟨k1,b,k2,_⟩:=Sa h3 hp;exact ⟨k1,b,k2⟩
  ·obtain ⟨k1,b,k2,_⟩:=aJ h7 hm
   exact ⟨k1,b,k2⟩
 have hro:L9 E d s.H ρ M w:=⟨λp hp g c hg=>by
  obtain ⟨k1,b,k2,k3⟩:=Sa h3 hp;obtain ⟨g',c',arr,cs,⟨k_at,k_mut,k_own,k_blk,k_ty,k_cells,k_pre,k_cap⟩⟩:=Fobj p.1 b k2;have:=k_at;rw [hg] at this;simp only [Option.some.injEq,Prod.mk.injEq] at this;obtain ⟨tl,he,_⟩:=k_pre;have hc:=k_cells;unfold Cj at hc;rw [k3] at hc;refine ⟨cs,this.1 ▸ Bu k_blk,this.1 ▸ @Ha E w arr b.ty g' cs tl k_blk he,?_⟩;exact (E.B p.2.2.1).st M (If d ρ M) w w cs (Bz.refl w) (λ_ _ _=>rfl) (λ_ _ h=>h.1) hc,λo b g c _ hb hn hg=>by
  obtain ⟨g',c',arr,cs,⟨k_at,k_mut,k_own,k_blk,k_ty,k_cells,k_pre,k_cap⟩⟩:=Fobj o b hb;have:=k_at;rw [hg] at this;simp only [Option.some.injEq,Prod.mk.injEq] at this;obtain ⟨tl,he,_⟩:=k_pre;exact ⟨cs,this.1 ▸ Bu k_blk,this.1 ▸ @Ha E w arr b.ty g' cs tl k_blk he,@Cj.rps E ρ M w b cs k_cells (Option.isNone_iff_eq_none.1 hn)⟩⟩
 have hkeep:∀{o},d.keep o=true→o<d.nx∧memN o d.out=false:=fun {o} hk=>by
  unfold Rd.keep at hk;rw [Bool.and_eq_true,Bool.not_eq_true'] at hk;exact ⟨Nat.le_of_ble_eq_true hk.1,hk.2⟩
 have hlk:∀ o,o<n0→lk s'.H o=lk s.H o:=λo ho=>by rw [← Ks ho,hb,Ks ho]
 have hext:∀ o p,ρ0 o=some p→H7 d ρ o=some p:=λo p e=>by
  have ho:=hr0 o p e;unfold H7;rw [if_pos,Ftr.ext o p e];unfold Rd.keep;rw [Bool.and_eq_true,Bool.not_eq_true'];refine ⟨Nat.ble_eq_true_of_le (by show o+1≤d.nx; omega),?_⟩
  cases hm:memN o d.out with
  | false=>rfl
  | true=>have:=(hrest o hm).1; omega
 refine ⟨?_,Fdef,λt x' e=>?_,⟨λo b' e=>?_,λo o' b b' g c c' e e' r r'=>?_⟩,λo p e=>?_,?_,λb hb=>Fbnd b hb.1,Ffr,⟨Ftr.grow,Ftr.keep,λb hb hm=>Ftr.mono b hb hm.1,hext⟩,λb hb=>⟨Fsup b hb,λo c hm hg=>?_⟩,λb hb=>Fmon b hb.1,λo p e=>?_,λo ho hw=>?_⟩
 ·rw [Fsize,WE d s.H h1]
 ·obtain ⟨x,e1,e2⟩:=Vn d s.H h1 e
  obtain ⟨v,e3,e4⟩:=Fslots t x e1;exact ⟨v,e3,yP hd hro e2 e4⟩
 ·obtain ⟨k0,b,k1,k2⟩:=Kv d s.H h2 e
  obtain ⟨g,c,arr,cs,⟨k_at,k_mut,k_own,k_blk,k_ty,k_cells,k_pre,k_cap⟩⟩:=Fobj o b k1;unfold wkB at k2;simp only [Bool.and_eq_true] at k2;obtain ⟨⟨⟨q1,q2⟩,q3⟩,q4⟩:=k2;have q1:=Nat.eq_of_beq_eq_true q1;have q2:=Nat.eq_of_beq_eq_true q2;have q3:=of_decide_eq_true q3;refine ⟨g,c,arr,cs,(Jd k0).trans k_at,⟨k_mut,λo1 c1 hm hg=>?_⟩,k_own,q1 ▸ k_blk,q1 ▸ k_ty,?_,q3 ▸ k_pre,?_⟩
  ·obtain ⟨_,b1,hb1⟩:=hrest o1 hm
   have:=Finj o o1 b b1 g c c1 k1 hb1 k_at hg;subst this;have:=(hkeep k0).2;rw [hm] at this
   cases this
  ·have hc:=k_cells
   unfold Cj at hc ⊢;split at q4
   ·rename_i e1 e2
    rw [e1] at hc;rw [e2];exact Ea hd hro _ _ _ q4 hc
   ·rename_i c0 c1 e1 e2
    rw [e1] at hc;rw [e2];obtain ⟨p,hp,q4⟩:=List.any_eq_true.1 q4;rw [Bool.and_eq_true] at q4;have e3:=CE.beq_eq q4.1;have e4:=CE.beq_eq q4.2;have:=hd.bs p hp M w cs (e3 ▸ hc);rw [e4] at this;exact (E'.B c1).st M (If d ρ M) w w cs (Bz.refl w) (λ_ _ _=>rfl) (λ_ _ h=>h.1) this
   ·cases q4
  ·rw [← q2,← q3]
   exact k_cap
 ·obtain ⟨k0,b1,k1,_⟩:=Kv d s.H h2 e
  obtain ⟨k0',b2,k2,_⟩:=Kv d s.H h2 e';exact Finj o o' b1 b2 g c c' k1 k2 ((Jd k0).symm.trans r) ((Jd k0').symm.trans r')
 ·unfold H7 at e
  split at e
  ·rename_i hk
   rw [h4];exact (hkeep hk).1
  ·cases e
 ·rw [h4]; exact h5
 ·rcases hown with e | hown
  ·rw [e] at hm
   cases hm
  ·obtain ⟨k1,b1,k2⟩:=hrest o hm
   obtain ⟨g',c',arr,cs,⟨k_at,k_mut,k_own,k_blk,k_ty,k_cells,k_pre,k_cap⟩⟩:=Fobj o b1 k2;have hA:A b:=by
    have:=k_at;rw [hg] at this;simp only [Option.some.injEq,Prod.mk.injEq] at this;rw [this.1];exact k_own
   rcases hown b hA with hlt | ⟨o',bo,c2,q1,q2⟩
   ·have:=hm0 b hb
    omega
   ·have ho':=hr0 o' _ q2
    have hl:lk s.H o'=some bo:=((Fkp o' ho' λx hx=>by have:=hwr x hx; omega).1).trans q1;have:=Finj o o' b1 bo b c c2 k2 hl hg (Ftr.ext _ _ q2);omega
 ·unfold H7 at e
  split at e
  ·exact Fold o p e
  ·cases e
 ·obtain ⟨k1,k2⟩:=Fkp o ho λx hx=>by have:=hwr x hx; omega
  exact ⟨(hlk o ho).trans k1,k2⟩
end
end Go.Proofs.YtgaehhapjnbieaaGreat

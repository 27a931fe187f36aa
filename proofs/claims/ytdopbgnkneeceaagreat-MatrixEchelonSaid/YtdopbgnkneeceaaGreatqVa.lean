/- An abstract machine: its values, its objects, and what they stand for in memory. -/
import Derived.Test.YtdopbgnkneeceaaGreatqDivP
import Derived.RangeFuncOwn
set_option linter.unusedSectionVars false
set_option linter.unusedVariables false
set_option linter.unusedSimpArgs false
set_option maxRecDepth 100000
namespace Go.Proofs.YtdopbgnkneeceaaGreat
open Go.RowKit
section
inductive CE where
 | v (k:Nat)
 | lit (z:Int)
 | ap (f:Nat) (a b:CE)
 deriving Inhabited,DecidableEq
def CE.beq:CE→CE→Bool
 | .v a,.v b=>Nat.beq a b
 | .lit a,.lit b=>decide (a=b)
 | .ap f a b,.ap f' a' b'=>Nat.beq f f' && CE.beq a a' && CE.beq b b'
 | _,_=>false
theorem CE.beq_eq:∀{a b:CE},CE.beq a b=true→a=b
 | .v a,.v b,h=>by unfold CE.beq at h; rw [Nat.eq_of_beq_eq_true h]
 | .lit a,.lit b,h=>by unfold CE.beq at h; rw [of_decide_eq_true h]
 | .ap f a b,.ap f' a' b',h=>by
  unfold CE.beq at h;rw [Bool.and_eq_true,Bool.and_eq_true] at h;rw [Nat.eq_of_beq_eq_true h.1.1,CE.beq_eq h.1.2,CE.beq_eq h.2]
 | .v _,.lit _,h=>by cases h
 | .v _,.ap _ _ _,h=>by cases h
 | .lit _,.v _,h=>by cases h
 | .lit _,.ap _ _ _,h=>by cases h
 | .ap _ _ _,.v _,h=>by cases h
 | .ap _ _ _,.lit _,h=>by cases h
def T7(w w':World)(b:Nat):Prop:=w'.heap[b]? = w.heap[b]? ∨ ((∃ o:Obj,w.heap[b]? = some o∧o.isCells=false)∧∃ o:Obj,w'.heap[b]? = some o∧o.isCells=false)
theorem lX{w:World}{b:Nat}(h:∃ o:Obj,w.heap[b]? = some o∧o.isCells=false){a:Addr}(ha:a.block=b):w.cell? a=none:=by
 obtain ⟨o,e,hc⟩:=h;unfold World.cell?;rw [ha,e]
 cases o <;> first | rfl | (cases hc; done)
theorem T7.cell{w w':World}{a:Addr}(h:T7 w w' a.block):w'.cell? a=w.cell? a:=by
 rcases h with h | ⟨h1,h2⟩
 ·exact World.cell?_of_block h
 ·rw [lX h1 rfl,lX h2 rfl]
theorem T7.trans{w w' w2:World}{b:Nat}(h:T7 w w' b)(k:T7 w' w2 b):T7 w w2 b:=by
 rcases h with h | ⟨h1,h2⟩
 ·rcases k with k | ⟨k1,k2⟩
  ·exact .inl (k.trans h)
  ·exact .inr ⟨by rw [← h]; exact k1,k2⟩
 ·rcases k with k | ⟨_,k2⟩
  ·exact .inr ⟨h1,by rw [k]; exact h2⟩
  ·exact .inr ⟨h1,k2⟩
structure XP where
 p:(Nat→Prop)→World→List Value→Prop
 st:∀(M M':Nat→Prop)(w w':World)(cs:List Value),Bt w w'→(∀ b:Nat,b<w.heap.size → ¬ M b→T7 w w' b)→(∀ b:Nat,b<w.heap.size→M' b→M b)→p M w cs→p M' w' cs
 one:∀ M w cs,p M w cs→∀ v∈cs,v.oneCell'=true
class Cd where
 X:CE→XP
 B:CE→XP
 N:CE→Nat
 J:CE→Nat
 sp:∀(q n:CE)(M:Nat→Prop)(w:World)(cs:List Value),(X (.ap 52 q n)).p M w cs→cs.length=4∧(X (.ap 58 q n)).p M w (cs.take 2)∧(X (.ap 54 q n)).p M w (cs.drop 2)
inductive AV where
 | any
 | val (v:Value)
 | num (z:Int)
 | rat (q:Rat)
 | rats (l:List Rat)
 | row (n:Nat) (l:List AV)
 | rptr (l:List AV)
 | ptr (o off:Nat)
 | sl (o off len:Nat) (cap:Option Nat)
 | fn (f:FuncId) (first caps:List AV)
 | ext (n:Nat) (ag:Bool) (c:CE)
 | slx (o:Nat) (c:CE)
 | epx (o:Nat) (c:CE)
 | yl (o:Nat)
 | agg (l:List AV)
 | tup (l:List AV)
 deriving Inhabited
structure OB where
 ty:TypeId
 k:Nat
 cs:List AV
 room:Bool
 bl:Option CE
def AV.sz:AV→Nat
 | .num _=>2
 | .rat _=>4
 | .ext n _ _=>n
 | _=>1
abbrev Bg:=Nat→Option (Nat × Nat)
def KZ:Value→Bool
 | .bool _ | .int _ _ | .string _ | .nilFunc | .nilIface=>true
 | .slice none _ _ | .pointer none=>true
 | .slice (some _) 0 _=>true
 | _=>false
def AI(w:World):List Rat→List Value→Prop
 | [],cs=>cs=[]
 | q :: l,cs=>∃ a b c d r,cs=a :: b :: c :: d :: r∧Al w (.agg #[a,b]) q.num∧Al w (.agg #[c,d]) (q.den:Int)∧AI w l r
section
variable [Cd]
mutual
def Rp(ρ:Bg)(M:Nat→Prop)(w:World):AV→List Value→Prop
 | .val v,cs=>cs=[v]∧KZ v=true
 | .num z,cs=>∃ a b,cs=[a,b]∧Al w (.agg #[a,b]) z
 | .rat q,cs=>∃ a b c d,cs=[a,b,c,d]∧Al w (.agg #[a,b]) q.num∧Al w (.agg #[c,d]) (q.den:Int)
 | .rats l,cs=>∃ A c,cs=[.slice A l.length c]∧l.length≤c∧(l.length≠0→∃ g off xs,A=some ⟨g,off,none⟩ ∧ ¬ M g∧g<w.heap.size∧w.rangeAt g off xs∧AI w l xs)
 | .row n l,cs=>∃ A c,cs=[.slice A n c]∧n≤c∧(n≠0→∃ g off xs,A=some ⟨g,off,none⟩ ∧ ¬ M g∧g<w.heap.size∧w.rangeAt g off xs∧AQ ρ M w l xs)
 | .rptr l,cs=>∃ g off xs,cs=[.pointer (some ⟨g,off,none⟩)] ∧ ¬ M g∧g<w.heap.size∧w.rangeAt g off xs∧AQ ρ M w l xs
 | .ptr o off,cs=>∃ g c,ρ o=some (g,c)∧cs=[.pointer (some ⟨g,off,none⟩)]
 | .sl o off len cap,cs=>∃ g c k,ρ o=some (g,c)∧cs=[.slice (some ⟨g,off,none⟩) len k]∧len≤k∧(∀ n,cap=some n→k=n)∧(cap=none→off=0∧k=c)
 | .fn f a b,cs=>∃ xs ys,cs=[.func (.func f) xs ys]∧AQ ρ M w a xs.toList∧AQ ρ M w b ys.toList
 | .ext n _ c,cs=>cs.length=n∧(Cd.X c).p M w cs
 | .slx o c,cs=>∃ g k cc,ρ o=some (g,cc)∧cs=[.slice (some ⟨g,0,none⟩) (Cd.N c) k]∧Cd.N c≤k
 | .epx o c,cs=>∃ g cc,ρ o=some (g,cc)∧cs=[.pointer (some ⟨g,Cd.J c,none⟩)]
 | .yl o,cs=>∃ g c,ρ o=some (g,c)∧cs=[.func (.yield g) #[] #[]]
 | .any,_=>False
 | .agg _,_=>False
 | .tup _,_=>False
def AQ(ρ:Bg)(M:Nat→Prop)(w:World):List AV→List Value→Prop
 | [],cs=>cs=[]
 | a :: l,cs=>∃ x y,cs=x ++ y∧Rp ρ M w a x∧AQ ρ M w l y
end
def Bz(ρ:Bg)(M:Nat→Prop)(w:World)(a:AV)(v:Value):Prop:=match a with
 | .any=>True
 | .val u=>v=u
 | .num z=>∃ cs,v = .agg cs∧Rp ρ M w (.num z) cs.toList
 | .rat q=>∃ cs,v = .agg cs∧Rp ρ M w (.rat q) cs.toList
 | .agg l=>∃ cs,v = .agg cs∧AQ ρ M w l cs.toList
 | .ext n true c=>∃ cs,v = .agg cs∧Rp ρ M w (.ext n true c) cs.toList
 | .tup _=>False
 | a=>Rp ρ M w a [v]
def CH(ρ:Bg)(M:Nat→Prop)(w:World):List AV→List Value→Prop
 | [],vs=>vs=[]
 | a :: l,vs=>∃ v r,vs=v :: r∧Bz ρ M w a v∧CH ρ M w l r
def RV(ρ:Bg)(M:Nat→Prop)(w:World)(a:AV)(v:Value):Prop:=match a with
 | .tup l=>∃ vs,v = .tuple vs∧CH ρ M w l vs.toList
 | a=>Bz ρ M w a v
end
structure Tr (ρ:Bg) (M:Nat→Prop) (w:World) (ρ':Bg) (M':Nat→Prop) (w':World):Prop where
 grow:Bt w w'
 keep:∀ b:Nat,b<w.heap.size → ¬ M b→w'.heap[b]? = w.heap[b]?
 mono:∀ b:Nat,b<w.heap.size→M' b→M b
 ext:∀ o p,ρ o=some p→ρ' o=some p
section
variable [Cd] {ρ ρ' : Bg} {M M' : Nat → Prop} {w w' : World}
theorem Tr.refl(ρ:Bg)(M:Nat→Prop)(w:World):Tr ρ M w ρ M w:=⟨Bt.refl w,λ_ _ _=>rfl,λ_ _ h=>h,λ_ _ h=>h⟩
theorem Tr.trans{ρ2:Bg}{M2:Nat→Prop}{w2:World}(h:Tr ρ M w ρ' M' w')(k:Tr ρ' M' w' ρ2 M2 w2):Tr ρ M w ρ2 M2 w2:=
 ⟨h.grow.trans k.grow,λb hb hm=>(k.keep b (Nat.lt_of_lt_of_le hb h.grow.size) (λh2=>hm (h.mono b hb h2))).trans (h.keep b hb hm),λb hb h2=>h.mono b hb (k.mono b (Nat.lt_of_lt_of_le hb h.grow.size) h2),λo p e=>k.ext o p (h.ext o p e)⟩
structure gE (ρ:Bg) (M:Nat→Prop) (w:World) (ρ':Bg) (M':Nat→Prop) (w':World):Prop where
 grow:Bt w w'
 keep:∀ b:Nat,b<w.heap.size → ¬ M b→T7 w w' b
 mono:∀ b:Nat,b<w.heap.size→M' b→M b
 ext:∀ o p,ρ o=some p→ρ' o=some p
theorem Tr.wk(h:Tr ρ M w ρ' M' w'):gE ρ M w ρ' M' w':=⟨h.grow,λb hb hm=>.inl (h.keep b hb hm),h.mono,h.ext⟩
theorem gE.range(h:gE ρ M w ρ' M' w'){g off:Nat}{xs:List Value}(hm:¬ M g)(hg:g<w.heap.size)(hr:w.rangeAt g off xs):¬ M' g∧g<w'.heap.size∧w'.rangeAt g off xs:=
 ⟨λk=>hm (h.mono g hg k),Nat.lt_of_lt_of_le hg h.grow.size,λj v e=>(T7.cell (w:=w) (h.keep g hg hm)).trans (hr j v e)⟩
theorem Tr.range(h:Tr ρ M w ρ' M' w'){g off:Nat}{xs:List Value}(hm:¬ M g)(hg:g<w.heap.size)(hr:w.rangeAt g off xs):¬ M' g∧g<w'.heap.size∧w'.rangeAt g off xs:=h.wk.range hm hg hr
theorem AI.grow(h:Bt w w'):∀{l:List Rat}{cs:List Value},AI w l cs→AI w' l cs
 | [],_,r=>r
 | _ :: _,_,⟨a,b,c,d,r,e,h1,h2,h3⟩=>⟨a,b,c,d,r,e,h1.grow h,h2.grow h,AI.grow h h3⟩
mutual
theorem Rp.stW(h:gE ρ M w ρ' M' w'):∀(a:AV)(cs:List Value),Rp ρ M w a cs→Rp ρ' M' w' a cs
 | .val _,_,r=>by unfold Rp at r ⊢; exact r
 | .num _,_,r=>by
  unfold Rp at r ⊢;obtain ⟨a,b,e,i⟩:=r;exact ⟨a,b,e,i.grow h.grow⟩
 | .rat _,_,r=>by
  unfold Rp at r ⊢;obtain ⟨a,b,c,d,e,i,j⟩:=r;exact ⟨a,b,c,d,e,i.grow h.grow,j.grow h.grow⟩
 | .rats l,_,r=>by
  unfold Rp at r ⊢;obtain ⟨A,c,e,hc,r⟩:=r;refine ⟨A,c,e,hc,λh0=>?_⟩;obtain ⟨g,off,xs,e1,m,s,ra,rc⟩:=r h0;obtain ⟨m',s',ra'⟩:=h.range m s ra;exact ⟨g,off,xs,e1,m',s',ra',rc.grow h.grow⟩
 | .row n l,_,r=>by
  unfold Rp at r ⊢;obtain ⟨A,c,e,hc,r⟩:=r;refine ⟨A,c,e,hc,λh0=>?_⟩;obtain ⟨g,off,xs,e1,m,s,ra,rc⟩:=r h0;obtain ⟨m',s',ra'⟩:=h.range m s ra;exact ⟨g,off,xs,e1,m',s',ra',AQ.stW h l xs rc⟩
 | .rptr l,_,r=>by
  unfold Rp at r ⊢;obtain ⟨g,off,xs,e1,m,s,ra,rc⟩:=r;obtain ⟨m',s',ra'⟩:=h.range m s ra;exact ⟨g,off,xs,e1,m',s',ra',AQ.stW h l xs rc⟩
 | .ptr _ _,_,r=>by
  unfold Rp at r ⊢;obtain ⟨g,c,e,k⟩:=r;exact ⟨g,c,h.ext _ _ e,k⟩
 | .sl _ _ _ _,_,r=>by
  unfold Rp at r ⊢;obtain ⟨g,c,k,e,r⟩:=r;exact ⟨g,c,k,h.ext _ _ e,r⟩
 | .fn _ a b,_,r=>by
  unfold Rp at r ⊢;obtain ⟨xs,ys,e,r1,r2⟩:=r;exact ⟨xs,ys,e,AQ.stW h a _ r1,AQ.stW h b _ r2⟩
 | .ext _ _ c,_,r=>by
  unfold Rp at r ⊢;exact ⟨r.1,(Cd.X c).st _ _ _ _ _ h.grow h.keep h.mono r.2⟩
 | .slx _ _,_,r=>by
  unfold Rp at r ⊢;obtain ⟨g,k,cc,e,r⟩:=r;exact ⟨g,k,cc,h.ext _ _ e,r⟩
 | .epx _ _,_,r=>by
  unfold Rp at r ⊢;obtain ⟨g,cc,e,r⟩:=r;exact ⟨g,cc,h.ext _ _ e,r⟩
 | .yl _,_,r=>by
  unfold Rp at r ⊢;obtain ⟨g,cc,e,r⟩:=r;exact ⟨g,cc,h.ext _ _ e,r⟩
 | .any,_,r=>by unfold Rp at r; exact r.elim
 | .agg _,_,r=>by unfold Rp at r; exact r.elim
 | .tup _,_,r=>by unfold Rp at r; exact r.elim
theorem AQ.stW(h:gE ρ M w ρ' M' w'):∀(l:List AV)(cs:List Value),AQ ρ M w l cs→AQ ρ' M' w' l cs
 | [],_,r=>by unfold AQ at r ⊢; exact r
 | a :: l,_,r=>by
  unfold AQ at r ⊢;obtain ⟨x,y,e,r1,r2⟩:=r;exact ⟨x,y,e,Rp.stW h a x r1,AQ.stW h l y r2⟩
end
theorem Rp.st(h:Tr ρ M w ρ' M' w')(a:AV)(cs:List Value):Rp ρ M w a cs→Rp ρ' M' w' a cs:=Rp.stW h.wk a cs
theorem AQ.st(h:Tr ρ M w ρ' M' w')(l:List AV)(cs:List Value):AQ ρ M w l cs→AQ ρ' M' w' l cs:=AQ.stW h.wk l cs
theorem Bz.stW(h:gE ρ M w ρ' M' w'){a:AV}{v:Value}(r:Bz ρ M w a v):Bz ρ' M' w' a v:=by
 unfold Bz at r ⊢;split at r <;> first
  | exact r
  | (obtain ⟨cs,e,r⟩:=r; exact ⟨cs,e,Rp.stW h _ _ r⟩)
  | (obtain ⟨cs,e,r⟩:=r; exact ⟨cs,e,AQ.stW h _ _ r⟩)
  | exact Rp.stW h _ _ r
theorem CH.stW(h:gE ρ M w ρ' M' w'):∀{l:List AV}{vs:List Value},CH ρ M w l vs→CH ρ' M' w' l vs
 | [],_,r=>r
 | _ :: _,_,⟨v,r,e,h1,h2⟩=>⟨v,r,e,h1.stW h,CH.stW h h2⟩
theorem RV.stW(h:gE ρ M w ρ' M' w'){a:AV}{v:Value}(r:RV ρ M w a v):RV ρ' M' w' a v:=by
 unfold RV at r ⊢;split at r
 ·obtain ⟨vs,e,r⟩:=r
  exact ⟨vs,e,CH.stW h r⟩
 ·exact Bz.stW h r
theorem CH.st(h:Tr ρ M w ρ' M' w'){l:List AV}{vs:List Value}(r:CH ρ M w l vs):CH ρ' M' w' l vs:=CH.stW h.wk r
theorem RV.st(h:Tr ρ M w ρ' M' w'){a:AV}{v:Value}(r:RV ρ M w a v):RV ρ' M' w' a v:=RV.stW h.wk r
end
section
variable [Cd] {ρ : Bg} {M : Nat → Prop} {w : World}
theorem Rp.len:∀{a:AV}{cs:List Value},Rp ρ M w a cs→cs.length=a.sz
 | .val _,_,r=>by unfold Rp at r; rw [r.1]; rfl
 | .num _,_,r=>by unfold Rp at r; obtain ⟨_,_,rfl,_⟩:=r; rfl
 | .rat _,_,r=>by unfold Rp at r; obtain ⟨_,_,_,_,rfl,_⟩:=r; rfl
 | .rats _,_,r=>by unfold Rp at r; obtain ⟨_,_,rfl,_⟩:=r; rfl
 | .row _ _,_,r=>by unfold Rp at r; obtain ⟨_,_,rfl,_⟩:=r; rfl
 | .rptr _,_,r=>by unfold Rp at r; obtain ⟨_,_,_,rfl,_⟩:=r; rfl
 | .ptr _ _,_,r=>by unfold Rp at r; obtain ⟨_,_,_,rfl⟩:=r; rfl
 | .sl _ _ _ _,_,r=>by unfold Rp at r; obtain ⟨_,_,_,_,rfl,_⟩:=r; rfl
 | .fn _ _ _,_,r=>by unfold Rp at r; obtain ⟨_,_,rfl,_⟩:=r; rfl
 | .ext _ _ _,_,r=>by unfold Rp at r; exact r.1
 | .slx _ _,_,r=>by unfold Rp at r; obtain ⟨_,_,_,_,rfl,_⟩:=r; rfl
 | .epx _ _,_,r=>by unfold Rp at r; obtain ⟨_,_,_,rfl⟩:=r; rfl
 | .yl _,_,r=>by unfold Rp at r; obtain ⟨_,_,_,rfl⟩:=r; rfl
 | .any,_,r=>by unfold Rp at r; exact r.elim
 | .agg _,_,r=>by unfold Rp at r; exact r.elim
 | .tup _,_,r=>by unfold Rp at r; exact r.elim
def tO:List AV→Nat
 | []=>0
 | a :: l=>a.sz+tO l
theorem AQ.len:∀{l:List AV}{cs:List Value},AQ ρ M w l cs→cs.length=tO l
 | [],_,r=>by unfold AQ at r; rw [r]; rfl
 | _ :: _,_,r=>by
  unfold AQ at r;obtain ⟨x,y,rfl,r1,r2⟩:=r;rw [List.length_append,r1.len,AQ.len r2];rfl
theorem AQ.app:∀{l l':List AV}{cs cs':List Value},AQ ρ M w l cs→AQ ρ M w l' cs'→AQ ρ M w (l ++ l') (cs ++ cs')
 | [],_,_,_,r,r'=>by unfold AQ at r; rw [r]; exact r'
 | _ :: _,_,_,_,r,r'=>by
  unfold AQ at r;obtain ⟨x,y,rfl,r1,r2⟩:=r;rw [List.cons_append];unfold AQ;exact ⟨x,_,List.append_assoc _ _ _,r1,AQ.app r2 r'⟩
theorem AQ.one{a:AV}{cs:List Value}(r:Rp ρ M w a cs):AQ ρ M w [a] cs:=by
 unfold AQ;exact ⟨cs,[],(List.append_nil _).symm,r,by unfold AQ; rfl⟩
theorem AQ.one'{a:AV}{cs:List Value}(r:AQ ρ M w [a] cs):Rp ρ M w a cs:=by
 unfold AQ at r;obtain ⟨x,y,rfl,r1,r2⟩:=r;unfold AQ at r2;rw [r2,List.append_nil];exact r1
def Dm:Nat→List AV→Option (List AV)
 | 0,l=>some l
 | _+1,[]=>none
 | n+1,a :: l=>if a.sz≤n+1 then Dm (n+1 - a.sz) l else match a with
  | .rat q=>if n+1 == 2 then some (.num (q.den:Int) :: l) else none
  | .ext 4 true (.ap 52 q k)=>if n+1 == 2 then some (.ext 2 true (.ap 54 q k) :: l) else none
  | _=>none
def Em:Nat→List AV→Option (List AV)
 | 0,_=>some []
 | _+1,[]=>none
 | n+1,a :: l=>if a.sz≤n+1 then (Em (n+1 - a.sz) l).map (a :: ·) else match a with
  | .rat q=>if n+1 == 2 then some [.num q.num] else none
  | .ext 4 true (.ap 52 q k)=>if n+1 == 2 then some [.ext 2 true (.ap 58 q k)] else none
  | _=>none
theorem AQ.drop:∀{l:List AV}{n:Nat}{l':List AV}{cs:List Value},Dm n l=some l'→AQ ρ M w l cs→n≤cs.length∧AQ ρ M w l' (cs.drop n)
 | l,0,l',cs,h,r=>by
  have h:some l=some l':=by unfold Dm at h; exact h
  obtain rfl:=Option.some.inj h;exact ⟨Nat.zero_le _,r⟩
 | [],n+1,l',cs,h,r=>by unfold Dm at h; cases h
 | a :: l,n+1,l',cs,h,r=>by
  unfold Dm at h;unfold AQ at r;obtain ⟨x,y,rfl,r1,r2⟩:=r;have hx:=r1.len;split at h
  ·rename_i hle
   obtain ⟨h1,h2⟩:=AQ.drop h r2;refine ⟨by rw [List.length_append,hx]; omega,?_⟩;rw [List.drop_append,hx,List.drop_eq_nil_of_le (by rw [hx]; exact hle),List.nil_append];exact h2
  ·split at h
   ·rename_i q _
    split at h
    ·rename_i hn
     have hn:n+1=2:=by simpa using hn
     cases h
     unfold Rp at r1;obtain ⟨a,b,c,d,rfl,i,j⟩:=r1;refine ⟨by rw [List.length_append]; simp; omega,?_⟩;rw [hn];unfold AQ;exact ⟨[c,d],y,rfl,by unfold Rp; exact ⟨c,d,rfl,j⟩,r2⟩
    ·cases h
   ·rename_i q k _
    split at h
    ·rename_i hn
     have hn:n+1=2:=by simpa using hn
     cases h
     unfold Rp at r1;obtain ⟨_,r1⟩:=r1;obtain ⟨hl,_,h2⟩:=Cd.sp q k M w x r1;refine ⟨by rw [List.length_append]; omega,?_⟩;rw [hn];unfold AQ;refine ⟨x.drop 2,y,by rw [List.drop_append_of_le_length (by omega)],?_,r2⟩;unfold Rp;exact ⟨by rw [List.length_drop]; omega,h2⟩
    ·cases h
   ·cases h
theorem AQ.take:∀{l:List AV}{n:Nat}{l':List AV}{cs:List Value},Em n l=some l'→AQ ρ M w l cs→n≤cs.length∧AQ ρ M w l' (cs.take n)
 | l,0,l',cs,h,r=>by
  have h:some []=some l':=by unfold Em at h; exact h
  obtain rfl:=Option.some.inj h;exact ⟨Nat.zero_le _,by unfold AQ; rfl⟩
 | [],n+1,l',cs,h,r=>by unfold Em at h; cases h
 | a :: l,n+1,l',cs,h,r=>by
  unfold Em at h;unfold AQ at r;obtain ⟨x,y,rfl,r1,r2⟩:=r;have hx:=r1.len;split at h
  ·rename_i hle
   cases ht:Em (n+1 - a.sz) l with
   | none=>rw [ht] at h; cases h
   | some l1 =>
    rw [ht] at h
    cases h
    obtain ⟨h1,h2⟩:=AQ.take ht r2;refine ⟨by rw [List.length_append,hx]; omega,?_⟩;rw [List.take_append,hx,List.take_of_length_le (by rw [hx]; exact hle)];unfold AQ;exact ⟨x,_,rfl,r1,h2⟩
  ·split at h
   ·rename_i q _
    split at h
    ·rename_i hn
     have hn:n+1=2:=by simpa using hn
     cases h
     unfold Rp at r1;obtain ⟨a,b,c,d,rfl,i,j⟩:=r1;refine ⟨by rw [List.length_append]; simp; omega,?_⟩;rw [hn];exact AQ.one (by unfold Rp; exact ⟨a,b,rfl,i⟩)
    ·cases h
   ·rename_i q k _
    split at h
    ·rename_i hn
     have hn:n+1=2:=by simpa using hn
     cases h
     unfold Rp at r1;obtain ⟨_,r1⟩:=r1;obtain ⟨hl,h1,_⟩:=Cd.sp q k M w x r1;refine ⟨by rw [List.length_append]; omega,?_⟩;rw [hn,List.take_append_of_le_length (by omega)];exact AQ.one (by unfold Rp; exact ⟨by rw [List.length_take]; omega,h1⟩)
    ·cases h
   ·cases h
end
end
section
variable [Cd]
abbrev HP:=List (Nat × Option OB)
def lk:HP→Nat→Option OB
 | [],_=>none
 | x :: r,o=>if Nat.beq x.1 o then x.2 else lk r o
def CR(H:Nat→Option OB):HP→Nat→Option OB
 | [],o=>H o
 | x :: r,o=>if Nat.beq x.1 o then x.2 else CR H r o
theorem CZ(U H:HP)(o:Nat):lk (U ++ H) o=CR (lk H) U o:=by
 induction U with
 | nil=>rfl
 | cons x r ih=>simp only [List.cons_append,lk,CR,ih]
theorem Jt{H:Nat→Option OB}{U:HP}{o:Nat}(h:∀ x∈U,x.1≠o):CR H U o=H o:=by
 induction U with
 | nil=>rfl
 | cons x r ih =>
  simp only [CR];rw [if_neg (by simpa using h x (by simp)),ih λy hy=>h y (by simp [hy])]
theorem kL{H H':Nat→Option OB}{U:HP}{o:Nat}(h:∃ x∈U,x.1=o):CR H U o=CR H' U o:=by
 induction U with
 | nil=>obtain ⟨_,hx,_⟩:=h; cases hx
 | cons x r ih =>
  simp only [CR];split
  ·rfl
  ·rename_i hne
   refine ih ?_;obtain ⟨y,hy,e⟩:=h
   rcases List.mem_cons.1 hy with rfl | hy
   ·exact absurd (by simpa using e) hne
   ·exact ⟨y,hy,e⟩
structure NN (A:Nat→Prop) (w w':World):Prop where
 os:w'.os=w.os
 tape:w'.tape=w.tape
 output:w'.output=w.output
 size:w.heap.size≤w'.heap.size
 keep:∀ b:Nat,b<w.heap.size → ¬ A b→w'.heap[b]? = w.heap[b]?
theorem NN.refl(A:Nat→Prop)(w:World):NN A w w:=⟨rfl,rfl,rfl,Nat.le_refl _,λ_ _ _=>rfl⟩
theorem NN.trans{A:Nat→Prop}{a b c:World}(h:NN A a b)(k:NN A b c):NN A a c:=
 ⟨k.os.trans h.os,k.tape.trans h.tape,k.output.trans h.output,Nat.le_trans h.size k.size,λi hi hA=>(k.keep i (Nat.lt_of_lt_of_le hi h.size) hA).trans (h.keep i hi hA)⟩
theorem NN.below{A:Nat→Prop}{w w':World}(h:Below w.heap.size w w'):NN A w w':=⟨h.os,h.tape,h.output,h.size,λb hb _=>h.block b hb⟩
def Bv(ρ:Bg)(M:Nat→Prop)(w:World)(b:OB)(cs:List Value):Prop:=match b.bl with
 | none=>AQ ρ M w b.cs cs
 | some c=>(Cd.B c).p M w cs
theorem Bv.stW{ρ ρ':Bg}{M M':Nat→Prop}{w w':World}{b:OB}{cs:List Value}(h:Bv ρ M w b cs)(ht:gE ρ M w ρ' M' w'):Bv ρ' M' w' b cs:=by
 unfold Bv at h ⊢;split at h
 ·exact AQ.stW ht _ _ h
 ·exact (Cd.B _).st _ _ _ _ _ ht.grow ht.keep ht.mono h
theorem Bv.st{ρ ρ':Bg}{M M':Nat→Prop}{w w':World}{b:OB}{cs:List Value}(h:Bv ρ M w b cs)(ht:Tr ρ M w ρ' M' w'):Bv ρ' M' w' b cs:=h.stW ht.wk
theorem Bv.rps{ρ:Bg}{M:Nat→Prop}{w:World}{b:OB}{cs:List Value}(h:Bv ρ M w b cs)(hb:b.bl=none):AQ ρ M w b.cs cs:=by
 unfold Bv at h;rw [hb] at h;exact h
theorem Bv.of{ρ:Bg}{M:Nat→Prop}{w:World}{b:OB}{cs:List Value}(h:AQ ρ M w b.cs cs)(hb:b.bl=none):Bv ρ M w b cs:=by
 unfold Bv;rw [hb];exact h
structure IQ (ρ:Bg) (M A:Nat→Prop) (w:World) (o:Nat) (b:OB) (g c:Nat) (arr:Array Value) (cs:List Value):Prop where
 at_:ρ o=some (g,c)
 mut_:M g
 own:A g
 blk:w.heap[g]? = some (.cells arr b.ty (0,0))
 ty:b.ty≠114∧b.ty≠5
 cells:Bv ρ M w b cs
 pre:∃ tl,arr.toList=cs ++ tl∧(b.room=false→tl=[])
 cap:b.room=true→arr.size=b.k*c∧c≤maxLen
structure RH (ρ:Bg) (M A:Nat→Prop) (w:World) (H:Nat→Option OB):Prop where
 obj:∀ o b,H o=some b→∃ g c arr cs,IQ ρ M A w o b g c arr cs
 inj:∀ o o' b b' g c c',H o=some b→H o'=some b'→ρ o=some (g,c)→ρ o'=some (g,c')→o=o'
section
variable {ρ ρ' : Bg} {M M' A : Nat → Prop} {w w' : World} {H : Nat → Option OB}
theorem IQ.stW{o:Nat}{b:OB}{g c:Nat}{arr:Array Value}{cs:List Value}(h:IQ ρ M A w o b g c arr cs)(ht:gE ρ M w ρ' M' w')(hm:M g→M' g)(hb:w'.heap[g]? = w.heap[g]?):IQ ρ' M' A w' o b g c arr cs:=
 ⟨ht.ext _ _ h.at_,hm h.mut_,h.own,hb.trans h.blk,h.ty,h.cells.stW ht,h.pre,h.cap⟩
theorem IQ.st{o:Nat}{b:OB}{g c:Nat}{arr:Array Value}{cs:List Value}(h:IQ ρ M A w o b g c arr cs)(ht:Tr ρ M w ρ' M' w')(hm:M g→M' g)(hb:w'.heap[g]? = w.heap[g]?):IQ ρ' M' A w' o b g c arr cs:=h.stW ht.wk hm hb
theorem RH.stW(h:RH ρ M A w H)(ht:gE ρ M w ρ' M' w')(hm:∀ b,M b→M' b)(hb:∀ o b g c,H o=some b→ρ o=some (g,c)→w'.heap[g]? = w.heap[g]?):RH ρ' M' A w' H:=by
 refine ⟨λo b e=>?_,λo o' b b' g c c' e e' r r'=>?_⟩
 ·obtain ⟨g,c,arr,cs,k⟩:=h.obj o b e
  exact ⟨g,c,arr,cs,k.stW ht (hm g) (hb o b g c e k.at_)⟩
 ·obtain ⟨g1,c1,_,_,k1⟩:=h.obj o b e
  obtain ⟨g2,c2,_,_,k2⟩:=h.obj o' b' e';have e1:=ht.ext _ _ k1.at_;have e2:=ht.ext _ _ k2.at_;rw [r] at e1;rw [r'] at e2;simp only [Option.some.injEq,Prod.mk.injEq] at e1 e2;exact h.inj o o' b b' g1 c1 c2 e e' k1.at_ (by rw [k2.at_,← e2.1,e1.1])
theorem RH.st(h:RH ρ M A w H)(ht:Tr ρ M w ρ' M' w')(hm:∀ b,M b→M' b)(hb:∀ o b g c,H o=some b→ρ o=some (g,c)→w'.heap[g]? = w.heap[g]?):RH ρ' M' A w' H:=h.stW ht.wk hm hb
end
def Eo(μ:Option Nat):Fence:={ fn:=λ_=>True,depth:=none,alive:=false,round:=μ }
abbrev wpR(μ:Option Nat)(c:Code)(Q:Exit→Act→World→Prop)(a:Act)(w:World):Prop:=c.wpIn (Eo μ) 9 Tryz.prog Q a w
theorem FZ{c:Code}{Q:Exit→Act→World→Prop}{a:Act}{w:World}:wpR none c Q a w ↔ c.wp Tryz.prog Q a w:=wpIn_wide
theorem KY{μ μ':Option Nat}{m m' l f:Nat}{tmps:Array Value}{asg bd:Code}{w:World}{R:Ending→World→Prop}(h:RoundIn (Eo μ) m Tryz.prog l f tmps asg bd w R):RoundIn (Eo μ') m' Tryz.prog l f tmps asg bd w R:=
 ⟨trivial,λc cs _=>h.2 c cs λd hd=>by cases hd⟩
theorem KN{μ:Option Nat}{m f:Nat}{args:Array Value}{w:World}{R:Ending→World→Prop}(h:Calls Tryz.prog f args w R):CallsIn (Eo μ) m Tryz.prog f args w R:=
 (callsIn_wide (n:=m)).2 h
structure CK (ρ:Bg) (M A:Nat→Prop) (w:World) (t0:Nat) (H:Nat→Option OB):Prop where
 heap:RH ρ M A w H
 bnd:∀ b,M b→b<w.heap.size
 new:∀ o,t0≤o→o<t0+16→ρ o=none
 fresh:∀ b,w.heap.size≤b→A b
def BI(ρ:Bg)(M A:Nat→Prop)(w:World)(t0:Nat)(H:Nat→Option OB)(U:HP)(r:AV)(v:Value)(w':World):Prop:=
 ∃ ρ' M',Tr ρ M w ρ' M' w'∧RV ρ' M' w' r v∧RH ρ' M' A w' (CR H U)∧(∀ o p,ρ' o=some p→ρ o=some p ∨ (t0≤o∧o<t0+16))∧(∀ b,M b→M' b)∧(∀ b,M' b→M b ∨ w.heap.size≤b)∧(∀ b,M' b→b<w'.heap.size)∧NN A w w'∧(∀ o b g c,H o=some b→(∀ x∈U,x.1≠o)→ρ o=some (g,c)→w'.heap[g]? = w.heap[g]?)
def CM(op:Op)(ρv:Operand→Value)(w:World)(K:Value→World→Prop):Prop:=
 ∀ o:Oper,o.op=op→match (execOp ρv o).run Tryz.prog w with
  | .ok (.value v) w'=>K v w'
  | .ok .skip w'=>K undef w'
  | .ok (.enter f args) w'=>Calls Tryz.prog f args w' λe w''=>∃ v,e = .returned v∧K v w''
  | .ok (.round l f tmps asg bd) w'=>RoundIn (Eo none) 8 Tryz.prog l f tmps asg bd w' λe w''=>∃ v,e = .returned v∧K v w''
  | _=>False
theorem CM.upon{op:Op}{a:Act}{w:World}{K:Value→World→Prop}{next:Act→World→Prop}{Q:Exit→Act→World→Prop}{o:Oper}(h:CM op a.eval w K)(hn:∀ v w',K v w'→next (a.put o.dst v) w')(ho:o.op=op){μ:Option Nat}:o.wpIn (Eo μ) 9 Tryz.prog a w next Q:=by
  have h:=h o ho
  have hnd:∀ c,o.op ≠ .defer c:=λc hc=>by
    have e:execOp a.eval o=(do let d ← resolve a.eval c o.type; pure (.defer d)):=by
      unfold execOp
      rw [hc]
    rw [e] at h
    simp only [Sem.run_bind] at h
    generalize (resolve a.eval c o.type).run Tryz.prog w=r at h
    cases r with
    | halt x w'=>exact h
    | ok x w'=>exact h
  unfold Oper.wpIn
  refine ⟨λ_ _=>trivial,?_⟩
  rw [Oper.semAt_eq _ _ _ hnd]
  generalize (execOp a.eval o).run Tryz.prog w=r at h
  cases r with
  | halt x w'=>exact h.elim
  | ok x w' =>
    cases x <;> first
      | exact h.elim
      | exact hn _ _ h
      | (refine ⟨λe=>(by cases e),CallsIn.mono (KN h) λe w'' he=>?_⟩
         obtain ⟨v,rfl,k⟩:=he
         exact hn _ _ k)
      | (refine ⟨λe=>(by cases e),RoundIn.mono (KY h) λe w'' he=>?_⟩
         obtain ⟨v,rfl,k⟩:=he
         exact hn _ _ k)
section
variable {ρ : Bg} {M A : Nat → Prop} {w : World} {t0 : Nat} {H : Nat → Option OB} {op : Op} {ρv : Operand → Value} {r : AV}
theorem oD{v:Value}(hs:CK ρ M A w t0 H)(hv:RV ρ M w r v):BI ρ M A w t0 H [] r v w:=
 ⟨ρ,M,Tr.refl _ _ _,hv,hs.heap,λ_ _ e=>.inl e,λ_ h=>h,λ_ h=>.inl h,hs.bnd,NN.refl _ _,λ_ _ _ _ _ _ _=>rfl⟩
theorem Bj{v:Value}(hs:CK ρ M A w t0 H)(hrun:∀ o:Oper,o.op=op→(execOp ρv o).run Tryz.prog w = .ok (.value v) w)(hv:RV ρ M w r v):CM op ρv w (BI ρ M A w t0 H [] r):=by
 intro o ho;rw [hrun o ho];exact oD hs hv
theorem cL{f:Nat}{args:Array Value}(hs:CK ρ M A w t0 H)(hrun:∀ o:Oper,o.op=op→(execOp ρv o).run Tryz.prog w = .ok (.enter f args) w)
  (hc:Calls Tryz.prog f args w λe w'=>∃ v,e = .returned v∧RV ρ M w' r v∧Below w.heap.size w w'):CM op ρv w (BI ρ M A w t0 H [] r):=by
 intro o ho;rw [hrun o ho];refine Calls.mono hc λe w' he=>?_
 obtain ⟨v,e,hv,hb⟩:=he;have ht:Tr ρ M w ρ M w':=⟨Bt.of_below hb,λb hlt _=>hb.block b hlt,λ_ _ h=>h,λ_ _ h=>h⟩;have hblk:∀ o b g c,H o=some b→ρ o=some (g,c)→w'.heap[g]? = w.heap[g]? := λo b g c e1 e2=>by
  obtain ⟨g1,c1,arr,cs,k⟩:=hs.heap.obj o b e1;have:g=g1:=by
   have:=k.at_;rw [e2] at this;simpa using congrArg Prod.fst (Option.some.inj this)
  exact hb.block g (this ▸ AJ k.blk)
 exact ⟨v,e,ρ,M,ht,hv,hs.heap.st ht (λ_ h=>h) hblk,λ_ _ e=>.inl e,λ_ h=>h,λ_ h=>.inl h,λb h=>Nat.lt_of_lt_of_le (hs.bnd b h) hb.size,NN.below hb,λo b g c e1 _ e2=>hblk o b g c e1 e2⟩
theorem Kl{arr:Array Value}{b0:OB}{c:Nat}{cs:List Value}{w':World}{v:Value}(hs:CK ρ M A w t0 H)(hT:b0.ty≠114∧b0.ty≠5)(hl:Bv ρ M w b0 cs)(hpre:∃ tl,arr.toList=cs ++ tl∧(b0.room=false→tl=[]))(hcap:b0.room=true→arr.size=b0.k*c∧c≤maxLen)
  (hw:w'=w.alloc (.cells arr b0.ty) ∨ w'=w.drew.alloc (.cells arr b0.ty)) (dead:HP) (hd:∀ x∈dead,x.2=none) (hr:∀ ρ' M',ρ' t0=some (w.heap.size,c)→RV ρ' M' w' r v):BI ρ M A w t0 H ((t0,some b0) :: dead) r v w':=by
 have hb:Below w.heap.size w w':=by
  rcases hw with rfl | rfl
  ·exact Ai w _
  ·exact ((Below.refl w.heap.size w).drew).alloc (Nat.le_refl _) _
 have hn:w'.heap[w.heap.size]? = some (.cells arr b0.ty (0,0)):=by
  rcases hw with rfl | rfl
  ·exact heap_alloc_new w _
  ·exact heap_alloc_new w.drew _
 have hsz:w'.heap.size=w.heap.size+1:=by
  rcases hw with rfl | rfl <;> exact By _ _
 have h0:ρ t0=none:=hs.new t0 (Nat.le_refl _) (by omega)
 let ρ':Bg:=λo=>if o=t0 then some (w.heap.size,c) else ρ o
 let M':Nat→Prop:=λb=>M b ∨ b=w.heap.size
 have ht:Tr ρ M w ρ' M' w':=⟨Bt.of_below hb,λb hlt _=>hb.block b hlt,λb hlt h=>h.elim id λe=>absurd e (Nat.ne_of_lt hlt),λo p e=>by
  show (if o=t0 then some (w.heap.size,c) else ρ o)=some p;rw [if_neg (by rintro rfl; rw [h0] at e; cases e)];exact e⟩
 have hρ:ρ' t0=some (w.heap.size,c):=if_pos rfl;have hold:∀ o b,CR H dead o=some b→H o=some b:=by
  intro o b e;clear hr
  induction dead with
  | nil=>exact e
  | cons x rr ih =>
   simp only [CR] at e;split at e
   ·rw [hd x (by simp)] at e; cases e
   ·exact ih (λy hy=>hd y (by simp [hy])) e
 have old:∀ o b,o≠t0→CR H ((t0,some b0) :: dead) o=some b→H o=some b:=λo b hne e=>by
  simp only [CR] at e;rw [if_neg (by simpa using Ne.symm hne)] at e;exact hold o b e
 have new:∀ b,CR H ((t0,some b0) :: dead) t0=some b→b=b0:=λb e=>by
  simp only [CR] at e;rw [if_pos (by simp)] at e;exact (Option.some.inj e).symm
 refine ⟨ρ',M',ht,hr ρ' M' hρ,⟨λo b e=>?_,λo o' b b' g c1 c2 e e' q q'=>?_⟩,λo p e=>?_,λ_ h=>.inl h,λb h=>h.elim .inl λe=>.inr (Nat.le_of_eq e.symm),λb h=>?_,NN.below hb,λo b g c1 e _ q=>?_⟩
 ·by_cases ho:o=t0
  ·subst ho
   rw [new b e];exact ⟨w.heap.size,c,arr,cs,hρ,.inr rfl,hs.fresh _ (Nat.le_refl _),hn,hT,hl.st ht,hpre,hcap⟩
  ·obtain ⟨g,c1,arr1,cs1,q⟩:=hs.heap.obj o b (old o b ho e)
   exact ⟨g,c1,arr1,cs1,q.st ht .inl (hb.block g (AJ q.blk))⟩
 ·have key:∀ o b g c1,CR H ((t0,some b0) :: dead) o=some b→ρ' o=some (g,c1)→(o=t0∧g=w.heap.size) ∨ (o≠t0∧g<w.heap.size∧H o=some b∧ρ o=some (g,c1)):=by
   intro o b g c1 e q
   by_cases ho:o=t0
   ·subst ho
    rw [hρ] at q;exact .inl ⟨rfl,(congrArg Prod.fst (Option.some.inj q)).symm⟩
   ·have q:ρ o=some (g,c1):=by
     have:ρ' o=ρ o:=if_neg ho;rw [← this]; exact q
    have hH:=old o b ho e;obtain ⟨g',c',arr1,cs1,k1⟩:=hs.heap.obj o b hH;have hg:g=g':=by
     have:=k1.at_;rw [q] at this;simpa using congrArg Prod.fst (Option.some.inj this)
    exact .inr ⟨ho,hg ▸ AJ k1.blk,hH,q⟩
  rcases key o b g c1 e q with ⟨e1,g1⟩ | ⟨n1,l1,H1,r1⟩ <;> rcases key o' b' g c2 e' q' with ⟨e2,g2⟩ | ⟨n2,l2,H2,r2⟩
  ·rw [e1,e2]
  ·omega
  ·omega
  ·exact hs.heap.inj o o' b b' g c1 c2 H1 H2 r1 r2
 ·by_cases ho:o=t0
  ·exact .inr ⟨by omega,by omega⟩
  ·exact .inl (by rw [← e]; exact (if_neg ho).symm)
 ·rcases h with h | rfl
  ·have:=hs.bnd b h; omega
  ·omega
 ·obtain ⟨g',c',arr1,cs1,k1⟩:=hs.heap.obj o b e
  have hg:g=g':=by
   have:=k1.at_;rw [q] at this;simpa using congrArg Prod.fst (Option.some.inj this)
  exact hb.block g (hg ▸ AJ k1.blk)
theorem JF{arr:Array Value}{T:TypeId}{k c:Nat}{l:List AV}{cs:List Value}{room:Bool}{w':World}{v:Value}(hs:CK ρ M A w t0 H)(hT:T≠114∧T≠5)(hl:AQ ρ M w l cs)(hpre:∃ tl,arr.toList=cs ++ tl∧(room=false→tl=[]))(hcap:room=true→arr.size=k*c∧c≤maxLen)
  (hw:w'=w.alloc (.cells arr T) ∨ w'=w.drew.alloc (.cells arr T)) (dead:HP) (hd:∀ x∈dead,x.2=none) (hr:∀ ρ' M',ρ' t0=some (w.heap.size,c)→RV ρ' M' w' r v):BI ρ M A w t0 H ((t0,some ⟨T,k,l,room,none⟩) :: dead) r v w':=
 Kl (b0:=⟨T,k,l,room,none⟩) hs hT (Bv.of hl rfl) hpre hcap hw dead hd hr
theorem Jf{arr:Array Value}{T:TypeId}{k:Nat}{l:List AV}{v:Value}(c:Nat)(hs:CK ρ M A w t0 H)(hT:T≠114∧T≠5)(hl:AQ ρ M w l arr.toList)
  (hrun:∀ o:Oper,o.op=op→(execOp ρv o).run Tryz.prog w = .ok (.value v) (w.alloc (.cells arr T))) (hr:∀ ρ' M' w',ρ' t0=some (w.heap.size,c)→RV ρ' M' w' r v):CM op ρv w (BI ρ M A w t0 H [(t0,some ⟨T,k,l,false,none⟩)] r):=by
 intro o ho;rw [hrun o ho];exact JF hs hT hl ⟨[],(List.append_nil _).symm,λ_=>rfl⟩ (λh=>by cases h) (.inl rfl) [] (λx h=>by cases h) λρ' M' e=>hr ρ' M' _ e
theorem N9{o g c:Nat}{b b1:OB}{arr arr':Array Value}{cs cs':List Value}(hs:CK ρ M A w t0 H)(ho:H o=some b)(hk:IQ ρ M A w o b g c arr cs)(q1:b1.ty=b.ty)(q2:b1.k=b.k)(q3:b1.room=b.room)(hl:Bv ρ M w b1 cs')(hpre:∃ tl,arr'.toList=cs' ++ tl∧(b.room=false→tl=[]))(hsz:arr'.size=arr.size)
  (t:Nat) (dead:Bool) (ht0:t=o∧dead=false ∨ t=t0∧dead=true) (r:AV) (v:Value) (hr:∀ ρ' M' w',(∀ o p,ρ o=some p→ρ' o=some p)→ρ' t=some (g,c)→RV ρ' M' w' r v) :
  BI ρ M A w t0 H ((t,some b1) :: (if dead then [(o,none)] else [])) r v (w.setRow g arr'):=by
 have hg:=setRow_heap w g arr arr' b.ty (0,0) hk.blk;have hoth:∀ x:Nat,x≠g→(w.setRow g arr').heap[x]? = w.heap[x]? := λx hx=>setRow_other w g x arr' hx
 have hsize:(w.setRow g arr').heap.size=w.heap.size:=by simp [World.setRow]
 have hgr:Bt w (w.setRow g arr'):=by
  have key:∀(X:TypeId),b.ty≠X→∀(x:Nat)(cs:Array Value)(fr:Nat × Nat),w.heap[x]? = some (.cells cs X fr)→(w.setRow g arr').heap[x]? = some (.cells cs X fr):=λX hX x cs fr e=>by
   rw [hoth x,e]
   rintro rfl
   rw [hk.blk] at e;injection Option.some.inj e with _ e2 _
   exact hX e2
  exact ⟨Nat.le_of_eq hsize.symm,key _ hk.ty.1,key _ hk.ty.2⟩
 have hlt:=AJ hk.blk
 let ρ':Bg:=λx=>if x=t then some (g,c) else ρ x
 have hext:∀ x p,ρ x=some p→ρ' x=some p:=λx p e=>by
  show (if x=t then some (g,c) else ρ x)=some p
  by_cases hx:x=t
  ·rw [if_pos hx]
   rcases ht0 with ⟨rfl,_⟩ | ⟨rfl,_⟩
   ·subst hx; rw [hk.at_] at e; exact e
   ·subst hx; rw [hs.new _ (Nat.le_refl _) (by omega)] at e; cases e
  ·rw [if_neg hx]; exact e
 have hρ:ρ' t=some (g,c):=if_pos rfl;have ht:Tr ρ M w ρ' M (w.setRow g arr'):=⟨hgr,λx _ hm=>hoth x (by rintro rfl; exact hm hk.mut_),λ_ _ h=>h,hext⟩;have old:∀ x bx,x≠t→CR H ((t,some b1) :: (if dead then [(o,none)] else [])) x=some bx→H x=some bx∧x≠o:=λx bx hne e=>by
  simp only [CR] at e;rw [if_neg (by simpa using Ne.symm hne)] at e
  rcases ht0 with ⟨rfl,rfl⟩ | ⟨rfl,rfl⟩
  ·exact ⟨by simpa [CR] using e,hne⟩
  ·by_cases hx:x=o
   ·subst hx; simp [CR] at e
   ·refine ⟨?_,hx⟩
    simpa [CR,Ne.symm hx] using e
 refine ⟨ρ',M,ht,hr _ _ _ hext hρ,⟨λx bx e=>?_,λx x' bx bx' g1 c1 c2 e e' q q'=>?_⟩,λx p e=>?_,λ_ h=>h,λ_ h=>.inl h,λx h=>by rw [hsize]; exact hs.bnd x h,⟨rfl,rfl,rfl,Nat.le_of_eq hsize.symm,λx _ hA=>hoth x (by rintro rfl; exact hA hk.own)⟩,λx bx g1 c1 e hx q=>hoth g1 ?_⟩
 ·by_cases hx:x=t
  ·subst hx
   simp only [CR,Nat.beq_refl,if_true] at e;obtain rfl:=Option.some.inj e;exact ⟨g,c,arr',cs',hρ,hk.mut_,hk.own,by rw [q1]; exact hg,by rw [q1]; exact hk.ty,hl.st ht,by rw [q3]; exact hpre,λh=>by rw [hsz,q2]; exact hk.cap (by rw [← q3]; exact h)⟩
  ·obtain ⟨hH,hne⟩:=old x bx hx e
   obtain ⟨g1,c1,arr1,cs1,k1⟩:=hs.heap.obj x bx hH;refine ⟨g1,c1,arr1,cs1,k1.st ht id (hoth g1 ?_)⟩
   rintro rfl
   exact hne (hs.heap.inj x o bx b g1 c1 c hH ho k1.at_ hk.at_)
 ·have key:∀ x bx g1 c1,CR H ((t,some b1) :: (if dead then [(o,none)] else [])) x=some bx→ρ' x=some (g1,c1)→∃ y by',H y=some by'∧(∃ c2,ρ y=some (g1,c2))∧((x=t∧y=o) ∨ (x≠t∧x=y∧y≠o)):=by
   intro x bx g1 c1 e q
   by_cases hx:x=t
   ·subst hx
    rw [hρ] at q;have hg1:g=g1:=congrArg Prod.fst (Option.some.inj q);exact ⟨o,b,ho,⟨c,by rw [← hg1]; exact hk.at_⟩,.inl ⟨rfl,rfl⟩⟩
   ·obtain ⟨hH,hne⟩:=old x bx hx e
    have:ρ' x=ρ x:=if_neg hx;exact ⟨x,bx,hH,⟨c1,by rw [← this]; exact q⟩,.inr ⟨hx,rfl,hne⟩⟩
  obtain ⟨y,b1,h1,⟨d1,r1⟩,k1⟩:=key x bx g1 c1 e q;obtain ⟨y',b2,h2,⟨d2,r2⟩,k2⟩:=key x' bx' g1 c2 e' q';have:=hs.heap.inj y y' b1 b2 g1 d1 d2 h1 h2 r1 r2
  rcases k1 with ⟨rfl,rfl⟩ | ⟨n1,rfl,m1⟩ <;> rcases k2 with ⟨rfl,rfl⟩ | ⟨n2,rfl,m2⟩
  ·rfl
  ·exact absurd this.symm m2
  ·exact absurd this m1
  ·exact this
 ·by_cases hx:x=t
  ·rcases ht0 with ⟨h1,_⟩ | ⟨h1,_⟩
   ·refine .inl ?_
    have q:ρ' x=some (g,c):=if_pos hx;rw [q] at e;rw [hx,h1,hk.at_];exact e
   ·exact .inr ⟨by omega,by omega⟩
  ·exact .inl (by rw [← e]; exact (if_neg hx).symm)
 ·rintro rfl
  have hxo:x=o:=hs.heap.inj x o bx b g1 c1 c e ho q hk.at_;subst hxo
  rcases ht0 with ⟨rfl,rfl⟩ | ⟨rfl,rfl⟩
  ·exact hx _ (List.mem_cons_self ..) rfl
  ·exact hx (x,none) (by simp) rfl
theorem S8{o g c:Nat}{b:OB}{arr arr':Array Value}{cs cs':List Value}{l':List AV}(hs:CK ρ M A w t0 H)(ho:H o=some b)(hbl:b.bl=none)(hk:IQ ρ M A w o b g c arr cs)(hl:AQ ρ M w l' cs')(hpre:∃ tl,arr'.toList=cs' ++ tl∧(b.room=false→tl=[]))(hsz:arr'.size=arr.size)
  (t:Nat) (dead:Bool) (ht0:t=o∧dead=false ∨ t=t0∧dead=true) (r:AV) (v:Value) (hr:∀ ρ' M' w',(∀ o p,ρ o=some p→ρ' o=some p)→ρ' t=some (g,c)→RV ρ' M' w' r v) :
  BI ρ M A w t0 H ((t,some { b with cs:=l' }) :: (if dead then [(o,none)] else [])) r v (w.setRow g arr'):=
 N9 (b1:={ b with cs:=l' }) hs ho hk rfl rfl rfl (Bv.of hl hbl) hpre hsz t dead ht0 r v hr
end
end
section
variable [Cd]
noncomputable def CT(T:TypeId):Option Nat:=(Tryz.prog.info? T).map (·.size)
noncomputable def N0(T:TypeId):Option TypeDesc:=Tryz.prog.underlying T
def Yy:List AV→AV
 | [.rat q]=>.rat q
 | [.num z]=>.num z
 | [.ext n true c]=>.ext n true c
 | l=>.agg l
def AdG:List AV→Option AV
 | [.ext n ag c]=>if Nat.beq n 1 && !ag then some (.ext n ag c) else none
 | [a]=>if Nat.beq a.sz 1 then some a else none
 | _=>none
noncomputable def mkT(T:TypeId)(l:List AV):Option AV:=match N0 T with
 | none=>none
 | some d=>if d.isRow then some (Yy l) else AdG l
section
variable {ρ : Bg} {M A : Nat → Prop} {w : World} {t0 : Nat} {Hr : Nat → Option OB} {H : HP} {ev : Operand → Option AV} {ρv : Operand → Value} {r : AV} {R : List Nat} {U : HP} {op : Op}
theorem GK{l:List AV}{cs:List Value}(h:AQ ρ M w l cs):Bz ρ M w (Yy l) (.agg cs.toArray):=by
 unfold Yy;split
 ·exact ⟨cs.toArray,rfl,by simpa using h.one'⟩
 ·exact ⟨cs.toArray,rfl,by simpa using h.one'⟩
 ·exact ⟨cs.toArray,rfl,by simpa using h.one'⟩
 ·exact ⟨cs.toArray,rfl,by simpa using h⟩
theorem Mi{l:List AV}{a:AV}{cs:List Value}(ha:AdG l=some a)(h:AQ ρ M w l cs):∃ v,cs=[v]∧Bz ρ M w a v:=by
 unfold AdG at ha;split at ha
 ·rename_i n ag c
  split at ha
  ·rename_i hz
   cases ha
   rw [Bool.and_eq_true,Bool.not_eq_true'] at hz;have h:=h.one';have hl:=h.len;have hn:AV.sz (.ext n ag c)=1:=Nat.eq_of_beq_eq_true hz.1;rw [hn] at hl;obtain ⟨v,rfl⟩:=List.length_eq_one_iff.1 hl;have:=hz.2;subst this;exact ⟨v,rfl,h⟩
  ·cases ha
 ·rename_i x hne
  split at ha
  ·rename_i hz
   cases ha
   have h:=h.one';have hl:=h.len;rw [Nat.eq_of_beq_eq_true hz] at hl;obtain ⟨v,rfl⟩:=List.length_eq_one_iff.1 hl;refine ⟨v,rfl,?_⟩
   cases a <;> first
    | (exact absurd rfl (hne _ _ _); done)
    | (simp [AV.sz] at hz; done)
    | (unfold Rp at h; exact h.elim)
    | (unfold Rp at h; exact (List.cons.inj h.1).1)
    | exact h
  ·cases ha
 ·cases ha
theorem Bz.rv{a:AV}{v:Value}(h:Bz ρ M w a v):RV ρ M w a v:=by
 unfold RV;split
 ·unfold Bz at h; exact h.elim
 ·exact h
def AV.one:AV→Bool
 | .tup _=>false
 | _=>true
theorem RV.one{a:AV}{v:Value}(h:RV ρ M w a v)(ha:a.one=true):Bz ρ M w a v:=by
 unfold RV at h;split at h
 ·cases ha
 ·exact h
def XH(H:HP):AV→Option (List AV × List Nat)
 | .ptr o off=>match lk H o with
  | some b=>if b.bl.isNone then (Dm off b.cs).map λl=>(l,[o]) else none
  | none=>none
 | .rptr l=>some (l,[])
 | _=>none
theorem G_{arr:Array Value}{T:TypeId}{g:Nat}{cs tl:List Value}(hg:w.heap[g]? = some (.cells arr T (0,0)))(he:arr.toList=cs ++ tl)(n:Nat):w.rangeAt g n (cs.drop n):=λj v e=>by
 rw [cell_of_row w g (n+j) _ _ (0,0) hg,← Array.getElem?_toList,he];rw [List.getElem?_drop] at e;rw [List.getElem?_append_left (List.getElem?_eq_some_iff.1 e).1];exact e
theorem BH{g off n:Nat}{cs:List Value}(h:w.rangeAt g off cs):w.rangeAt g off (cs.take n):=λj v e=>by
 rw [List.getElem?_take] at e;split at e
 ·exact h j v e
 ·cases e
theorem BW{g off n:Nat}{cs:List Value}(h:w.rangeAt g off cs):w.rangeAt g (off+n) (cs.drop n):=λj v e=>by
 rw [List.getElem?_drop] at e;rw [Nat.add_assoc];exact h (n+j) v e
theorem KI(hs:CK ρ M A w t0 Hr){a:AV}{l:List AV}(h:XH H a=some (l,R))(hag:∀ o∈R,Hr o=lk H o){v:Value}(hv:RV ρ M w a v) :
  ∃ g off xs,v = .pointer (some ⟨g,off,none⟩)∧AQ ρ M w l xs∧w.rangeAt g off xs:=by
 unfold XH at h;split at h
 ·rename_i o off
  split at h
  ·rename_i b hb
   split at h
   case isFalse=>cases h
   rename_i hbn;have hbn:b.bl=none:=by simpa using hbn
   cases hd:Dm off b.cs with
   | none=>rw [hd] at h; cases h
   | some l1 =>
    rw [hd] at h
    cases h
    obtain ⟨g,c,arr,cs,k⟩:=hs.heap.obj o b ((hag o (by simp)).trans hb);obtain ⟨h1,h2⟩:=AQ.drop hd (k.cells.rps hbn);obtain ⟨tl,he,_⟩:=k.pre;have hv:Rp ρ M w (.ptr o off) [v]:=hv;unfold Rp at hv;obtain ⟨g',c',e1,e2⟩:=hv;rw [k.at_] at e1;simp only [Option.some.injEq,Prod.mk.injEq] at e1;refine ⟨g,off,_,?_,h2,G_ k.blk he off⟩;rw [e1.1];exact (List.cons.inj e2).1
  ·cases h
 ·cases h
  have hv:Rp ρ M w (.rptr l) [v]:=hv;unfold Rp at hv;obtain ⟨g,off,xs,e,_,_,hr,hc⟩:=hv;exact ⟨g,off,xs,(List.cons.inj e).1,hc,hr⟩
 ·cases h
theorem Mz{T:TypeId}{d:TypeDesc}{g off:Nat}{v:Value}(hu:Tryz.prog.underlying T=some d)(hd:d.isRow=false)(hc:w.cell? ⟨g,off,none⟩=some v):(Instr.loadAt T (.pointer (some ⟨g,off,none⟩))).run Tryz.prog w = .ok v w:=by
 have hagg:(isAgg T).run Tryz.prog w = .ok false w:=by
  unfold isAgg;rw [Sem.run_bind,run_underlying hu w]
  cases d <;> simp_all
 simp only [Instr.loadAt,Instr.sureAddr,Sem.run_bind,Sem.run_pure,Result.andThen_ok,loadVar,hagg];simp [hc]
noncomputable def US(H:HP)(ev:Operand→Option AV)(T:TypeId)(x:Operand):Option (AV × List Nat × HP):=do
 let a ← ev x
 let p ← XH H a
 let n ← CT T
 let l ← Em n p.1
 let r ← mkT T l
 pure (r,p.2,[])
theorem KL{T:TypeId}{n:Nat}{l l':List AV}{g off:Nat}{xs:List Value}(hn:CT T=some n)(ht:Em n l=some l')(hm:mkT T l'=some r)(hl:AQ ρ M w l xs)(hr:w.rangeAt g off xs) :
  ∃ v,(Instr.loadAt T (.pointer (some ⟨g,off,none⟩))).run Tryz.prog w = .ok v w∧Bz ρ M w r v:=by
 obtain ⟨h1,h2⟩:=AQ.take ht hl;have hr:=BH (n:=n) hr;have hlen:(xs.take n).length=n:=by rw [List.length_take]; omega
 unfold mkT at hm;split at hm
 ·cases hm
 ·rename_i d hd
  have hd:Tryz.prog.underlying T=some d:=hd;split at hm
  ·rename_i hrow
   cases hm
   exact ⟨_,run_loadAt_mid w g off T (xs.take n) d hr hd hrow (by rw [hlen]; exact hn),GK h2⟩
  ·rename_i hrow
   obtain ⟨v,e,hv⟩:=Mi hm h2;refine ⟨v,Mz hd (by simpa using hrow) ?_,hv⟩;have:=hr 0 v (by rw [e]; rfl);exact this
theorem vZ{T:TypeId}{x:Operand}(h:US H ev T x=some (r,R,U))(hs:CK ρ M A w t0 Hr)(hag:∀ o∈R,Hr o=lk H o)(hev:∀ x a,ev x=some a→RV ρ M w a (ρv x)):CM (.load T x) ρv w (BI ρ M A w t0 Hr U r):=by
 simp only [US,Option.bind_eq_bind,Option.bind_eq_some_iff,Option.pure_def,Option.some.injEq,Prod.mk.injEq] at h;obtain ⟨a,ha,⟨l,R'⟩,hp,n,hn,l',ht,r',hm,rfl,rfl,rfl⟩:=h;obtain ⟨g,off,xs,e,hl,hr⟩:=KI hs hp hag (hev _ _ ha);obtain ⟨v,hrun,hv⟩:=KL hn ht hm hl hr;refine Bj (v:=v) hs (λo ho=>?_) hv.rv;unfold execOp;rw [ho];show Sem.run _ (Instr.loadAt T (ρv x) >>= λx=>pure (Next.value x)) w=_;rw [e];exact CA hrun
noncomputable def QT(ev:Operand→Option AV)(S:TypeId)(x:Operand)(k:Nat):Option (AV × List Nat × HP):=do
 let a ← ev x
 let d ← N0 S
 let f ← (match d with | .struct fs=>fs[k]? | _=>none)
 let z ← CT f.type
 if Nat.beq z 0 then none else
 match a with
 | .ptr o off=>some (.ptr o (off+f.offset),[],[])
 | .rptr l=>(Dm f.offset l).map λl'=>(.rptr l',[],[])
 | _=>none
theorem TR{S:TypeId}{fs:Array Field}{k:Nat}{f:Field}{z g off:Nat}(hd:Tryz.prog.underlying S=some (.struct fs))(hf:fs[k]? = some f)(hz:CT f.type=some z)(h0:z≠0):(Instr.fieldAt S (.pointer (some ⟨g,off,none⟩)) k).run Tryz.prog w = .ok (.pointer (some ⟨g,off+f.offset,none⟩)) w:=by
 unfold CT at hz
 cases hi:Tryz.prog.info? f.type with
 | none=>rw [hi] at hz; cases hz
 | some i =>
  rw [hi] at hz;have hz:i.size=z:=by simpa using hz
  simp [Instr.fieldAt,Sem.run_bind,run_underlying hd,hf,Instr.sureAddr,fieldPlace,sizeOf,typeInfo,hi,hz,h0,Addr.add_mid]
theorem mM{S:TypeId}{x:Operand}{k:Nat}(h:QT ev S x k=some (r,R,U))(hs:CK ρ M A w t0 Hr)(hev:∀ x a,ev x=some a→RV ρ M w a (ρv x)):CM (.fieldAddr S x k) ρv w (BI ρ M A w t0 Hr U r):=by
 simp only [QT,Option.bind_eq_bind,Option.bind_eq_some_iff] at h;obtain ⟨a,ha,d,hd,f,hf,z,hz,h⟩:=h;split at h
 ·cases h
 ·rename_i h0
  have h0:z≠0:=λe=>h0 (by rw [e]; rfl)
  have hf':∃ fs,d = .struct fs∧fs[k]? = some f:=by
   cases d <;> first | (cases hf; done) | exact ⟨_,rfl,hf⟩
  obtain ⟨fs,rfl,hf⟩:=hf';have hv:=hev _ _ ha;have go:∀ g off,ρv x = .pointer (some ⟨g,off,none⟩)→∀ o:Oper,o.op = .fieldAddr S x k→(execOp ρv o).run Tryz.prog w = .ok (.value (.pointer (some ⟨g,off+f.offset,none⟩))) w:=λg off e o ho=>by
   unfold execOp;rw [ho];show Sem.run _ (Instr.fieldAt S (ρv x) k >>= λx=>pure (Next.value x)) w=_;rw [e];exact CA (TR hd hf hz h0)
  split at h
  ·rename_i o off
   cases h
   have hv:Rp ρ M w (.ptr o off) [ρv x]:=hv;unfold Rp at hv;obtain ⟨g,c,e1,e2⟩:=hv;refine Bj hs (go g off (List.cons.inj e2).1) ?_;show Rp ρ M w (.ptr o (off+f.offset)) [_];unfold Rp;exact ⟨g,c,e1,rfl⟩
  ·rename_i l
   cases hdr:Dm f.offset l with
   | none=>rw [hdr] at h; cases h
   | some l' =>
    rw [hdr] at h
    cases h
    have hv:Rp ρ M w (.rptr l) [ρv x]:=hv;unfold Rp at hv;obtain ⟨g,off,xs,e,hm,hlt,hr,hc⟩:=hv;obtain ⟨_,h2⟩:=AQ.drop hdr hc;refine Bj hs (go g off (List.cons.inj e).1) ?_;show Rp ρ M w (.rptr l') [_];unfold Rp;exact ⟨g,off+f.offset,_,rfl,hm,hlt,BW hr,h2⟩
  ·cases h
theorem Tk:∀{l:List Rat}{cs:List Value},AI w l cs→AQ ρ M w (l.map .rat) cs
 | [],_,h=>by unfold AI at h; unfold List.map AQ; exact h
 | q :: l,_,h=>by
  unfold AI at h;obtain ⟨a,b,c,d,r,rfl,h1,h2,h3⟩:=h;rw [List.map_cons];unfold AQ;exact ⟨[a,b,c,d],r,rfl,by unfold Rp; exact ⟨a,b,c,d,rfl,h1,h2⟩,Tk h3⟩
def Q_(H:HP):AV→Option (Nat × List AV × List Nat)
 | .sl o off len _=>match lk H o with
  | some b=>if b.bl.isNone then (Dm off b.cs).map λl=>(len,l,[o]) else none
  | none=>none
 | .rats l=>some (l.length,l.map .rat,[])
 | .row n l=>some (n,l,[])
 | .val (.slice _ 0 _)=>some (0,[],[])
 | _=>none
theorem Ix(hs:CK ρ M A w t0 Hr){a:AV}{n:Nat}{l:List AV}(h:Q_ H a=some (n,l,R))(hag:∀ o∈R,Hr o=lk H o){v:Value}(hv:RV ρ M w a v) :
  ∃ Ad c xs,v = .slice Ad n c∧(n≠0→AQ ρ M w l xs∧∃ g off,Ad=some ⟨g,off,none⟩∧w.rangeAt g off xs):=by
 unfold Q_ at h;split at h
 ·rename_i o off len cap
  split at h
  ·rename_i b hb
   split at h
   case isFalse=>cases h
   rename_i hbn;have hbn:b.bl=none:=by simpa using hbn
   cases hd:Dm off b.cs with
   | none=>rw [hd] at h; cases h
   | some l1 =>
    rw [hd] at h
    cases h
    obtain ⟨g,c,arr,cs,k⟩:=hs.heap.obj o b ((hag o (by simp)).trans hb);obtain ⟨h1,h2⟩:=AQ.drop hd (k.cells.rps hbn);obtain ⟨tl,he,_⟩:=k.pre;have hv:Rp ρ M w (.sl o off n cap) [v]:=hv;unfold Rp at hv;obtain ⟨g',c',k',e1,e2,_⟩:=hv;rw [k.at_] at e1;simp only [Option.some.injEq,Prod.mk.injEq] at e1;rw [← e1.1] at e2;exact ⟨_,_,_,(List.cons.inj e2).1,λ_=>⟨h2,g,off,rfl,G_ k.blk he off⟩⟩
  ·cases h
 ·rename_i q
  cases h
  have hv:Rp ρ M w (.rats q) [v]:=hv;unfold Rp at hv;obtain ⟨Ad,c,e,_,hr⟩:=hv
  by_cases h0:q.length=0
  ·exact ⟨Ad,c,[],(List.cons.inj e).1,λh=>absurd h0 h⟩
  ·obtain ⟨g,off,xs,e1,_,_,hr,hc⟩:=hr h0
   exact ⟨Ad,c,xs,(List.cons.inj e).1,λ_=>⟨Tk hc,g,off,e1,hr⟩⟩
 ·cases h
  have hv:Rp ρ M w (.row n l) [v]:=hv;unfold Rp at hv;obtain ⟨Ad,c,e,_,hr⟩:=hv
  by_cases h0:n=0
  ·exact ⟨Ad,c,[],(List.cons.inj e).1,λh=>absurd h0 h⟩
  ·obtain ⟨g,off,xs,e1,_,_,hr,hc⟩:=hr h0
   exact ⟨Ad,c,xs,(List.cons.inj e).1,λ_=>⟨hc,g,off,e1,hr⟩⟩
 ·rename_i A c
  cases h
  exact ⟨A,c,[],hv,λh=>absurd rfl h⟩
 ·cases h
noncomputable def pT(ev:Operand→Option AV)(T:TypeId)(x y:Operand):Option (AV × List Nat × HP):=do
 let a ← ev x
 let b ← ev y
 let d ← N0 T
 match d,b with
 | .slice e,.val (.int _ i)=>do
  let z ← CT e
  match a with
  | .sl o off len _=>if decide (0≤i∧i<len) then some (.ptr o (off+i.toNat*z),[],[]) else none
  | .rats l=>if decide (0≤i∧i<l.length) && Nat.beq z 4 then some (.rptr [.rat (l.getD i.toNat 0)],[],[]) else none
  | .row n l=>if decide (0≤i∧i<n) then (Dm (i.toNat*z) l).map λl'=>(.rptr l',[],[]) else none
  | _=>none
 | .array n e,.val (.int _ i)=>do
  let z ← CT e
  if decide (0≤i∧i<n) then match a with
   | .ptr o off=>some (.ptr o (off+i.toNat*z),[],[])
   | .rptr l=>(Dm (i.toNat*z) l).map λl'=>(.rptr l',[],[])
   | _=>none
  else none
 | _,_=>none
theorem DL{T e:TypeId}{z g off len c:Nat}{k:IntKind}{i:Int}(hd:Tryz.prog.underlying T=some (.slice e))(hz:CT e=some z)(h0:0≤i∧i<len):(Instr.indexAt T (.slice (some ⟨g,off,none⟩) len c) (.int k i)).run Tryz.prog w = .ok (.pointer (some ⟨g,off+i.toNat*z,none⟩)) w:=by
 unfold CT at hz
 cases hi:Tryz.prog.info? e with
 | none=>rw [hi] at hz; cases hz
 | some j =>
  rw [hi] at hz;have hz:j.size=z:=by simpa using hz
  simp [Instr.indexAt,asIntOf,Sem.run_bind,run_underlying hd,sizeOf,typeInfo,hi,hz,h0.1,h0.2,Addr.add_mid]
theorem VG{T e:TypeId}{z g off n:Nat}{k:IntKind}{i:Int}(hd:Tryz.prog.underlying T=some (.array n e))(hz:CT e=some z)(h0:0≤i∧i<n):(Instr.indexAt T (.pointer (some ⟨g,off,none⟩)) (.int k i)).run Tryz.prog w = .ok (.pointer (some ⟨g,off+i.toNat*z,none⟩)) w:=by
 unfold CT at hz
 cases hi:Tryz.prog.info? e with
 | none=>rw [hi] at hz; cases hz
 | some j =>
  rw [hi] at hz;have hz:j.size=z:=by simpa using hz
  simp [Instr.indexAt,asIntOf,Sem.run_bind,run_underlying hd,Instr.sureAddr,sizeOf,typeInfo,hi,hz,h0.1,h0.2,Addr.add_mid]
theorem AI.drop:∀{l:List Rat}{cs:List Value}{i:Nat},AI w l cs→i<l.length→Rp ρ M w (.rat (l.getD i 0)) ((cs.drop (i*4)).take 4)
 | q :: l,_,0,h,_=>by
  unfold AI at h;obtain ⟨a,b,c,d,r,rfl,h1,h2,h3⟩:=h;unfold Rp;exact ⟨a,b,c,d,rfl,h1,h2⟩
 | q :: l,_,i+1,h,hi=>by
  unfold AI at h;obtain ⟨a,b,c,d,r,rfl,h1,h2,h3⟩:=h;have:=AI.drop (i:=i) h3 (by simpa using hi);rw [show (i+1)*4=4+i*4 by omega,← List.drop_drop,List.drop_succ_cons,List.drop_succ_cons,List.drop_succ_cons,List.drop_succ_cons,List.drop_zero];simpa using this
theorem AdF{T:TypeId}{x y:Operand}(h:pT ev T x y=some (r,R,U))(hs:CK ρ M A w t0 Hr)(hev:∀ x a,ev x=some a→RV ρ M w a (ρv x)):CM (.indexAddr T x y) ρv w (BI ρ M A w t0 Hr U r):=by
 simp only [pT,Option.bind_eq_bind,Option.bind_eq_some_iff] at h;obtain ⟨a,ha,b,hb,d,hd,h⟩:=h;have hva:=hev _ _ ha;have hvb:=hev _ _ hb;split at h
 ·rename_i e k i
  have hvb:ρv y = .int k i:=hvb;simp only [Option.bind_eq_some_iff] at h;obtain ⟨z,hz,h⟩:=h;have go:∀ g off len c,ρv x = .slice (some ⟨g,off,none⟩) len c→0≤i∧i<len→∀ o:Oper,o.op = .indexAddr T x y→(execOp ρv o).run Tryz.prog w = .ok (.value (.pointer (some ⟨g,off+i.toNat*z,none⟩))) w:=λg off len c e hi o ho=>by
   unfold execOp;rw [ho];show Sem.run _ (Instr.indexAt T (ρv x) (ρv y) >>= λx=>pure (Next.value x)) w=_;rw [e,hvb];exact CA (DL hd hz hi)
  split at h
  ·rename_i o off len cap
   split at h
   ·rename_i hi
    cases h
    have hv:Rp ρ M w (.sl o off len cap) [ρv x]:=hva;unfold Rp at hv;obtain ⟨g,c,k',e1,e2,_⟩:=hv;refine Bj hs (go g off len k' (List.cons.inj e2).1 (of_decide_eq_true hi)) ?_;show Rp ρ M w (.ptr o (off+i.toNat*z)) [_];unfold Rp;exact ⟨g,c,e1,rfl⟩
   ·cases h
  ·rename_i l
   split at h
   ·rename_i hi
    cases h
    rw [Bool.and_eq_true] at hi;have hz4:z=4:=Nat.eq_of_beq_eq_true hi.2;have hi1:=of_decide_eq_true hi.1;have hv:Rp ρ M w (.rats l) [ρv x]:=hva;unfold Rp at hv;obtain ⟨Ad,c,e,_,hr0⟩:=hv;obtain ⟨g,off,xs,e1,hm,hlt,hr,hc⟩:=hr0 (by omega);subst e1;subst hz4;have hlt':i.toNat<l.length:=by omega
    refine Bj hs (go g off l.length c (List.cons.inj e).1 hi1) ?_;show Rp ρ M w (.rptr [.rat (l.getD i.toNat 0)]) [_];unfold Rp;exact ⟨g,off+i.toNat*4,_,rfl,hm,hlt,BH (BW hr),AQ.one (AI.drop hc hlt')⟩
   ·cases h
  ·rename_i n l
   split at h
   ·rename_i hi
    have hi:=of_decide_eq_true hi
    cases hdr:Dm (i.toNat*z) l with
    | none=>rw [hdr] at h; cases h
    | some l' =>
     rw [hdr] at h
     cases h
     have hv:Rp ρ M w (.row n l) [ρv x]:=hva;unfold Rp at hv;obtain ⟨Ad,c,e,_,hr0⟩:=hv;obtain ⟨g,off,xs,e1,hm,hlt,hr,hc⟩:=hr0 (by omega);subst e1;obtain ⟨_,h2⟩:=AQ.drop hdr hc;refine Bj hs (go g off n c (List.cons.inj e).1 hi) ?_;show Rp ρ M w (.rptr l') [_];unfold Rp;exact ⟨g,off+i.toNat*z,_,rfl,hm,hlt,BW hr,h2⟩
   ·cases h
  ·cases h
 ·rename_i n e k i
  have hvb:ρv y = .int k i:=hvb;simp only [Option.bind_eq_some_iff] at h;obtain ⟨z,hz,h⟩:=h;split at h
  ·rename_i hi
   have hi:=of_decide_eq_true hi;have go:∀ g off,ρv x = .pointer (some ⟨g,off,none⟩)→∀ o:Oper,o.op = .indexAddr T x y→(execOp ρv o).run Tryz.prog w = .ok (.value (.pointer (some ⟨g,off+i.toNat*z,none⟩))) w:=λg off e o ho=>by
    unfold execOp;rw [ho];show Sem.run _ (Instr.indexAt T (ρv x) (ρv y) >>= λx=>pure (Next.value x)) w=_;rw [e,hvb];exact CA (VG hd hz hi)
   split at h
   ·rename_i o off
    cases h
    have hv:Rp ρ M w (.ptr o off) [ρv x]:=hva;unfold Rp at hv;obtain ⟨g,c,e1,e2⟩:=hv;refine Bj hs (go g off (List.cons.inj e2).1) ?_;show Rp ρ M w (.ptr o (off+i.toNat*z)) [_];unfold Rp;exact ⟨g,c,e1,rfl⟩
   ·rename_i l
    cases hdr:Dm (i.toNat*z) l with
    | none=>rw [hdr] at h; cases h
    | some l' =>
     rw [hdr] at h
     cases h
     have hv:Rp ρ M w (.rptr l) [ρv x]:=hva;unfold Rp at hv;obtain ⟨g,off,xs,e,hm,hlt,hr,hc⟩:=hv;obtain ⟨_,h2⟩:=AQ.drop hdr hc;refine Bj hs (go g off (List.cons.inj e).1) ?_;show Rp ρ M w (.rptr l') [_];unfold Rp;exact ⟨g,off+i.toNat*z,_,rfl,hm,hlt,BW hr,h2⟩
   ·cases h
  ·cases h
 ·cases h
end
end
end Go.Proofs.YtdopbgnkneeceaaGreat

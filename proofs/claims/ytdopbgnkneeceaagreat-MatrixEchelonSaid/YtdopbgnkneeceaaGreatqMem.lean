/- Slices of limbs that read as lists of numbers, and the values of such lists: definitions and small lemmas, without any walk. -/
import Derived.Test.YtdopbgnkneeceaaGreatRows
import Derived.WalkSpells
import Derived.WalkLawsBesides
import Derived.Lib.Hide
set_option linter.unusedSectionVars false
set_option linter.unusedVariables false
set_option linter.unusedSimpArgs false
set_option maxRecDepth 100000
namespace Go.Proofs.YtdopbgnkneeceaaGreat
open Go.RowKit
theorem Ap(a:Addr)(n:Nat):(a.add n).block=a.block:=by unfold Addr.add; split <;> rfl
def Cq(w:World)(B:Nat)(A:Option Addr)(ms:List Nat):Prop:=
 0<ms.length→∃ ad,A=some ad∧ad.block<B∧∀(j x:Nat),ms[j]? = some x→w.cell? (ad.add j)=some (.int .u32 (x:Int))
def CQ(w:World)(B:Nat)(A:Option Addr)(ms:List Nat):Prop:=
 0<ms.length→∃ ad,A=some ad∧ad.block<B∧(∃ cs fr,w.heap[ad.block]? = some (.cells cs 114 fr))∧∀(j x:Nat),ms[j]? = some x→w.cell? (ad.add j)=some (.int .u32 (x:Int))
section
variable {w w' : World} {B B' : Nat} {A : Option Addr} {ms : List Nat}
theorem CQ.raw(h:CQ w B A ms):Cq w B A ms:=λhn=>by
 obtain ⟨ad,e,hb,_,hc⟩:=h hn;exact ⟨ad,e,hb,hc⟩
theorem Cq.at_{k:Nat}(h:Cq w B A ms)(hk:k<ms.length):∃ ad,A=some ad∧ad.block<B∧w.cell? (ad.add k)=some (.int .u32 (ms[k]:Nat)):=by
 obtain ⟨ad,e,hb,hc⟩:=h (by omega);exact ⟨ad,e,hb,hc k _ (List.getElem?_eq_getElem hk)⟩
theorem Cq.below(h:Cq w B A ms)(hk:Below B w w'):Cq w' B A ms:=λhn=>by
 obtain ⟨ad,e,hb,hc⟩:=h hn;exact ⟨ad,e,hb,λj u hu=>(hk.cell (by rw [Ap]; exact hb)).trans (hc j u hu)⟩
theorem Cq.take(h:Cq w B A ms)(k:Nat):Cq w B A (ms.take k):=λhn=>by
 obtain ⟨ad,e,hb,hc⟩:=h (by rw [List.length_take] at hn; omega);refine ⟨ad,e,hb,λj u hu=>hc j u ?_⟩;rw [List.getElem?_take] at hu;split at hu
 ·exact hu
 ·cases hu
theorem CQ.nil_:CQ w B A []:=λh=>absurd h (by simp)
theorem CQ.at_{k:Nat}(h:CQ w B A ms)(hk:k<ms.length):∃ ad,A=some ad∧ad.block<B∧w.cell? (ad.add k)=some (.int .u32 (ms[k]:Nat)):=h.raw.at_ hk
theorem CQ.more(h:CQ w B A ms)(hB:B≤B'):CQ w B' A ms:=λhn=>by
 obtain ⟨ad,e,hb,ht,hc⟩:=h hn;exact ⟨ad,e,by omega,ht,hc⟩
theorem CQ.below(h:CQ w B A ms)(hk:Below B w w'):CQ w' B A ms:=λhn=>by
 obtain ⟨ad,e,hb,⟨cs,fr,ht⟩,hc⟩:=h hn;exact ⟨ad,e,hb,⟨cs,fr,(hk.block _ hb).trans ht⟩,λj u hu=>(hk.cell (by rw [Ap]; exact hb)).trans (hc j u hu)⟩
theorem CQ.into(h:CQ w w.heap.size A ms)(hb:Below w.heap.size w w'):CQ w' w'.heap.size A ms:=(h.below hb).more hb.size
theorem CQ.far(h:CQ w B A ms){g:Nat}{cs:Array Value}{T:TypeId}{fr:Nat × Nat}(hg:w.heap[g]? = some (.cells cs T fr))(hT:T≠114)(i:Nat)(v:Value):CQ (w.setCell ⟨g,i,none⟩ v) B A ms:=λhn=>by
 obtain ⟨ad,e,hb,⟨cs',fr',ht⟩,hc⟩:=h hn;have hne:ad.block≠g:=by
  intro e;rw [e,hg] at ht;injection ht with ht
  injection ht with _ h2 _
  exact hT h2
 refine ⟨ad,e,hb,⟨cs',fr',(Below.heap_setCell w _ _ _ hne).trans ht⟩,λj u hu=>?_⟩;rw [World.cell?_setCell_other _ _ _ _ (λe=>hne (by have:=congrArg Addr.block e; simpa [Ap] using this.symm))];exact hc j u hu
theorem CQ.take(h:CQ w B A ms)(k:Nat):CQ w B A (ms.take k):=λhn=>by
 obtain ⟨ad,e,hb,ht,hc⟩:=h (by rw [List.length_take] at hn; omega);refine ⟨ad,e,hb,ht,λj u hu=>hc j u ?_⟩;rw [List.getElem?_take] at hu;split at hu
 ·exact hu
 ·cases hu
end
def val:List Nat→Nat
 | []=>0
 | x :: r=>x+4294967296*val r
def Bx(ms:List Nat):Prop:=∀ x∈ms,x<4294967296
def Ae(n:Nat):List Nat:=if h:n=0 then [] else n % 4294967296 :: Ae (n / 4294967296)
termination_by n
decreasing_by omega
def len(n:Nat):Nat:=(Ae n).length
theorem Dj:Ae 0=[]:=by unfold Ae; rfl
theorem EI{n:Nat}(h:0<n):Ae n=n % 4294967296 :: Ae (n / 4294967296):=by
 rw [Ae]; rw [dif_neg (by omega)]
theorem AX:len 0=0:=by simp [len,Dj]
theorem Hy{n:Nat}(h:0<n):len n=len (n / 4294967296)+1:=by simp [len,EI h]
theorem Ao(n:Nat):val (Ae n)=n:=by
 induction n using Nat.strongRecOn with
 | _ n ih =>
  rcases Nat.eq_zero_or_pos n with h | h
  ·subst h; rw [Dj]; rfl
  ·rw [EI h,val,ih _ (by omega)]; omega
theorem As(n:Nat):Bx (Ae n):=by
 induction n using Nat.strongRecOn with
 | _ n ih =>
  rcases Nat.eq_zero_or_pos n with h | h
  ·subst h; rw [Dj]; intro x hx; cases hx
  ·rw [EI h]
   intro x hx
   rcases List.mem_cons.1 hx with rfl | hx
   ·omega
   ·exact ih _ (by omega) x hx
theorem UE{x n:Nat}(hx:x<4294967296)(h:0<x+4294967296*n):Ae (x+4294967296*n)=x :: Ae n:=by
 rw [EI h];have h1:(x+4294967296*n) % 4294967296=x:=by omega
 have h2:(x+4294967296*n) / 4294967296=n:=by omega
 rw [h1,h2]
theorem Bx.cons{x:Nat}{r:List Nat}(h:Bx (x :: r)):x<4294967296∧Bx r:=⟨h x (by simp),λy hy=>h y (by simp [hy])⟩
theorem Bx.mk{x:Nat}{r:List Nat}(hx:x<4294967296)(h:Bx r):Bx (x :: r):=λy hy=>by
 rcases List.mem_cons.1 hy with rfl | hy
 ·exact hx
 ·exact h y hy
theorem Bx.nil_:Bx []:=λx hx=>by cases hx
theorem Bx.at_{ms:List Nat}(h:Bx ms)(i:Nat):ms.getD i 0<4294967296:=by
 rcases Nat.lt_or_ge i ms.length with hl | hl
 ·simp only [List.getD,List.getElem?_eq_getElem hl,Option.getD_some]; exact h _ (List.getElem_mem hl)
 ·simp [List.getD,List.getElem?_eq_none hl]
theorem Bx.get{ms:List Nat}(h:Bx ms){i:Nat}(hl:i<ms.length):ms[i]<4294967296:=h _ (List.getElem_mem hl)
theorem Bx.append{a b:List Nat}(ha:Bx a)(hb:Bx b):Bx (a ++ b):=λx hx=>(List.mem_append.1 hx).elim (ha x) (hb x)
theorem Bx.take{a:List Nat}(ha:Bx a)(k:Nat):Bx (a.take k):=λx hx=>ha x (List.mem_of_mem_take hx)
theorem Bx.drop{a:List Nat}(ha:Bx a)(k:Nat):Bx (a.drop k):=λx hx=>ha x (List.mem_of_mem_drop hx)
theorem IV(a b:List Nat):val (a ++ b)=val a+4294967296 ^ a.length*val b:=by
 induction a with
 | nil=>simp [val]
 | cons x r ih=>simp only [List.cons_append,val,ih,List.length_cons,Nat.pow_succ]; rw [Nat.mul_add,Nat.mul_comm (4294967296 ^ r.length) 4294967296,Nat.mul_assoc]; omega
theorem Cv{ms:List Nat}(h:Bx ms):val ms<4294967296 ^ ms.length:=by
 induction ms with
 | nil=>simp [val]
 | cons x r ih =>
  have h1:=ih h.cons.2;have h2:=h.cons.1;simp only [val,List.length_cons,Nat.pow_succ];omega
theorem DY{ms:List Nat}(h:Bx ms):Ae (val ms)=ms.take (len (val ms))∧len (val ms)≤ms.length∧∀ i,len (val ms)≤i→ms.getD i 0=0:=by
 induction ms with
 | nil=>simp [val,Dj,AX]
 | cons x r ih =>
  obtain ⟨i1,i2,i3⟩:=ih h.cons.2;have hx:=h.cons.1
  rcases Nat.eq_zero_or_pos (x+4294967296*val r) with h0 | h0
  ·have hv:val (x :: r)=0:=by simp only [val]; exact h0
   have hx0:x=0:=by omega
   have hr0:val r=0:=by omega
   rw [hr0,AX] at i3;rw [hv,Dj,AX];refine ⟨by simp,by omega,λi _=>?_⟩
   match i with
   | 0=>simp [hx0]
   | j+1=>simpa using i3 j (by omega)
  ·have e:Ae (val (x :: r))=x :: Ae (val r):=by simp only [val]; exact UE hx h0
   have el:len (val (x :: r))=len (val r)+1:=by simp [len,e]
   refine ⟨by rw [el,e,List.take_succ_cons,← i1],by simp [el,i2],λi hi=>?_⟩
   match i with
   | 0=>omega
   | j+1=>simpa using i3 j (by omega)
theorem EM{n:Nat}(h:0<n):(Ae n).getD (len n - 1) 0≠0:=by
 induction n using Nat.strongRecOn with
 | _ n ih =>
  rw [EI h,Hy h]
  rcases Nat.eq_zero_or_pos (n / 4294967296) with h0 | h0
  ·rw [h0,AX,Dj]; simp; omega
  ·have:=ih _ (by omega) h0
   have hl:len (n / 4294967296)=len (n / 4294967296 / 4294967296)+1:=Hy h0;rw [hl] at this ⊢;simpa using this
theorem Aa(n:Nat):(Ae n).length=len n:=rfl
theorem BG(n:Nat):n<4294967296 ^ len n:=by have:=Cv (As n); rwa [Ao] at this
theorem IY{n k:Nat}(h:n<4294967296 ^ k):len n≤k:=by
  induction k generalizing n with
  | zero => have:n=0:=by simpa using h
            subst this; simp [AX]
  | succ k ih =>
    rcases Nat.eq_zero_or_pos n with h0 | h0
    · subst h0; simp [AX]
    · rw [Hy h0]
      have:n / 4294967296<4294967296 ^ k:=by rw [Nat.pow_succ] at h; omega
      have:=ih this
      omega
theorem Iw{n k:Nat}(h:k<len n):4294967296 ^ k≤n:=by
 rcases Nat.lt_or_ge n (4294967296 ^ k) with h1 | h1
 ·have:=IY h1; omega
 ·exact h1
theorem AY{a b:Nat}(h:a≤b):len a≤len b:=IY (Nat.lt_of_le_of_lt h (BG b))
theorem Fo(a b:Nat):len (a+b)≤max (len a) (len b)+1:=by
 apply IY;have ha:=BG a;have hb:=BG b;have h1:4294967296 ^ len a≤4294967296 ^ max (len a) (len b):=Nat.pow_le_pow_right (by omega) (by omega);have h2:4294967296 ^ len b≤4294967296 ^ max (len a) (len b):=Nat.pow_le_pow_right (by omega) (by omega);rw [Nat.pow_succ];omega
theorem vB(a b:Nat):len (a*b)≤len a+len b:=by
 apply IY
 rcases Nat.eq_zero_or_pos a with h | h
 ·subst h; rw [Nat.zero_mul]; exact Nat.pow_pos (by decide)
 ·rw [Nat.pow_add]; exact Nat.mul_lt_mul_of_lt_of_le (BG a) (Nat.le_of_lt (BG b)) (Nat.pow_pos (by omega))
theorem Hm{a b:Nat}(h:len a<len b):a<b:=by
 have h1:=BG a;have h2:=Iw h;omega
theorem CJ{n:Nat}(h:n<4294967296):len n≤1:=IY (by simpa using h)
theorem EL{n:Nat}(h:n<18446744073709551616):len n≤2:=IY (by simpa using h)
theorem AZ{n:Nat}:len n=0 ↔ n=0:=by
 constructor
 ·intro h
  rcases Nat.eq_zero_or_pos n with h0 | h0
  ·exact h0
  ·rw [Hy h0] at h; omega
 ·rintro rfl; exact AX
theorem OF{a b:Nat}(h:Ae a=Ae b):a=b:=by rw [← Ao a,← Ao b,h]
theorem Rg{ms:List Nat}(h:Bx ms)(hl:ms=[] ∨ ms.getD (ms.length - 1) 0≠0):Ae (val ms)=ms:=by
 obtain ⟨h1,h2,h3⟩:=DY h;rw [h1]
 rcases hl with rfl | hl
 ·simp
 ·apply List.take_of_length_le
  rcases Nat.lt_or_ge (len (val ms)) ms.length with h4 | h4
  ·exact absurd (h3 (ms.length - 1) (by omega)) hl
  ·exact h4
def AB(w:World)(v:Value)(n:Nat):Prop:=∃ A c,v = .slice A (len n) c∧len n≤c∧CQ w w.heap.size A (Ae n)
def Al(w:World)(v:Value)(z:Int):Prop:=∃ s,v = .agg #[.bool (decide (z<0)),s]∧AB w s z.natAbs
theorem AB.into{w w':World}{v:Value}{n:Nat}(h:AB w v n)(hb:Below w.heap.size w w'):AB w' v n:=by
 obtain ⟨A,c,e,hc,hm⟩:=h;exact ⟨A,c,e,hc,hm.into hb⟩
theorem Al.into{w w':World}{v:Value}{z:Int}(h:Al w v z)(hb:Below w.heap.size w w'):Al w' v z:=by
 obtain ⟨s,e,hs⟩:=h;exact ⟨s,e,hs.into hb⟩
theorem AB.zero(w:World)(A:Option Addr)(c:Nat):AB w (.slice A 0 c) 0:=⟨A,c,by rw [AX],by rw [AX]; omega,by rw [Dj]; exact CQ.nil_⟩
theorem Al.zero(w:World)(A:Option Addr)(c:Nat):Al w (.agg #[.bool false,.slice A 0 c]) 0:=⟨_,rfl,AB.zero w A c⟩
theorem Al.mk{w:World}{s:Value}{n:Nat}{b:Bool}(h:AB w s n)(h0:n=0→b=false):Al w (.agg #[.bool b,s]) (if b then -(n:Int) else n):=by
 refine ⟨s,?_,?_⟩
 ·cases b
  ·simp
  ·have:n≠0:=λh=>by simpa using h0 h
   simp; omega
 ·cases b
  ·simpa using h
  ·simpa using h
theorem Al.open_{w:World}{v:Value}{z:Int}(h:Al w v z):∃(b:Bool)(A:Option Addr)(k c:Nat),v = .agg #[.bool b,.slice A k c]∧Hid (Al w (.agg #[.bool b,.slice A k c]) z):=by
 obtain ⟨s,rfl,A,c,rfl,hc,hm⟩:=h;exact ⟨_,A,_,c,rfl,⟨_,rfl,A,c,rfl,hc,hm⟩⟩
theorem AB.open_{w:World}{v:Value}{n:Nat}(h:AB w v n):∃(A:Option Addr)(c:Nat),v = .slice A (len n) c∧Hid (AB w (.slice A (len n) c) n):=by
 obtain ⟨A,c,rfl,hc,hm⟩:=h;exact ⟨A,c,rfl,⟨A,c,rfl,hc,hm⟩⟩
theorem AB.mem{w:World}{A:Option Addr}{k c n:Nat}(h:AB w (.slice A k c) n):k=len n∧len n≤c∧CQ w w.heap.size A (Ae n):=by
 obtain ⟨A',c',e,hc,hm⟩:=h;injection e with e1 e2 e3
 subst e1 e2 e3;exact ⟨rfl,hc,hm⟩
theorem Ac{w w1 w2:World}(h:Below w.heap.size w w1)(h2:Below w1.heap.size w1 w2):Below w.heap.size w w2:=h.trans (h2.mono h.size)
theorem Ai(w:World)(o:Obj):Below w.heap.size w (w.alloc o):=(Below.refl _ _).alloc (Nat.le_refl _) _
theorem BE(w:World)(n:Nat):Below w.heap.size w (w.drewN n):=⟨rfl,rfl,rfl,Nat.le_refl _,λ_ _=>rfl⟩
theorem AA{w:World}{g:Nat}{cs:Array Value}{T:TypeId}(h:w.heap[g]? = some (.cells cs T (0,0)))(i:Nat):w.frozen? ⟨g,i,none⟩=false:=by simp [World.frozen?,h]
theorem NC{w w1:World}{x y:Value}{T:TypeId}(hb:Below (w.alloc (.cells #[x,y] T)).heap.size (w.alloc (.cells #[x,y] T)) w1) :
  w1.cell? ⟨w.heap.size,0,none⟩=some x∧w1.cell? ⟨w.heap.size,1,none⟩=some y∧w1.frozen? ⟨w.heap.size,0,none⟩=false∧w1.frozen? ⟨w.heap.size,1,none⟩=false∧w.heap.size<w1.heap.size:=by
 have hs:w.heap.size<(w.alloc (.cells #[x,y] T)).heap.size:=by simp
 have hc:∀ i,(w.alloc (.cells #[x,y] T)).cell? ⟨w.heap.size,i,none⟩ = #[x,y][i]? := λi=>cell_of_row _ _ i _ _ (0,0) (heap_alloc_new w _)
 have hf:∀ i,(w.alloc (.cells #[x,y] T)).frozen? ⟨w.heap.size,i,none⟩=false:=λi=>by
  exact AA (heap_alloc_new w (.cells #[x,y] T)) i
 refine ⟨(hb.cell (p:=⟨w.heap.size,0,none⟩) hs).trans (hc 0),(hb.cell (p:=⟨w.heap.size,1,none⟩) hs).trans (hc 1),(hb.frozen (p:=⟨w.heap.size,0,none⟩) hs).trans (hf 0),(hb.frozen (p:=⟨w.heap.size,1,none⟩) hs).trans (hf 1),Nat.lt_of_lt_of_le hs hb.size⟩
theorem AB.far{w:World}{v:Value}{n:Nat}(h:AB w v n){g:Nat}{cs:Array Value}{T:TypeId}{fr:Nat × Nat}(hg:w.heap[g]? = some (.cells cs T fr))(hT:T≠114)(i:Nat)(u:Value):AB (w.setCell ⟨g,i,none⟩ u) v n:=by
 obtain ⟨A,c,e,hc,hm⟩:=h;refine ⟨A,c,e,hc,?_⟩;have:=hm.far hg hT i u;simpa [World.setCell] using this
theorem Al.far{w:World}{v:Value}{z:Int}(h:Al w v z){g:Nat}{cs:Array Value}{T:TypeId}{fr:Nat × Nat}(hg:w.heap[g]? = some (.cells cs T fr))(hT:T≠114)(i:Nat)(u:Value):Al (w.setCell ⟨g,i,none⟩ u) v z:=by
 obtain ⟨s,e,hs⟩:=h;exact ⟨s,e,hs.far hg hT i u⟩
theorem Az{w:World}{g:Nat}{cs:Array Value}{T:TypeId}{fr:Nat × Nat}(h:w.heap[g]? = some (.cells cs T fr))(i:Nat)(u:Value):(w.setCell ⟨g,i,none⟩ u).heap[g]? = some (.cells (cs.setIfInBounds i u) T fr):=by
 simp [World.setCell,Array.getElem?_modify,h]
theorem C5{w w1:World}{x y x' y' v:Value}{z:Int}(hb:Below (w.alloc (.cells #[x,y] 34)).heap.size (w.alloc (.cells #[x,y] 34)) w1)(h:Al w1 v z) :
  Al ((w1.setCell ⟨w.heap.size,0,none⟩ x').setCell ⟨w.heap.size,1,none⟩ y') v z∧Below w.heap.size w ((w1.setCell ⟨w.heap.size,0,none⟩ x').setCell ⟨w.heap.size,1,none⟩ y'):=by
 have hg:w1.heap[w.heap.size]? = some (.cells #[x,y] 34 (0,0)):=(hb.block _ (by simp)).trans (heap_alloc_new w _);have hne:(34:TypeId)≠114:=by decide
 refine ⟨(h.far hg hne 0 x').far (Az hg 0 x') hne 1 y',?_⟩;have h0:Below w.heap.size w w1:=(Ai w _).trans (hb.mono (by simp));exact (h0.setCell (by simp) _).setCell (by simp) _
def CC(n:Nat)(w:World)(e:Ending)(w':World):Prop:=∃ v,e = .returned v∧AB w' v n∧Below w.heap.size w w'
def Be(z:Int)(w:World)(e:Ending)(w':World):Prop:=∃ v,e = .returned v∧Al w' v z∧Below w.heap.size w w'
def B9(ms:List Nat):Obj:=.cells (ms.map (fun (x:Nat)=>Value.int .u32 (x:Int))).toArray 114
def Cx(w:World)(g:Nat)(ms:List Nat):Prop:=w.heap[g]? = some (B9 ms)
section
variable {w w' : World} {g : Nat} {ms : List Nat}
theorem Cx.lt(h:Cx w g ms):g<w.heap.size:=by
 rcases Nat.lt_or_ge g w.heap.size with hlt | hge
 ·exact hlt
 ·unfold Cx at h; rw [Array.getElem?_eq_none hge] at h; cases h
theorem Cx.cell(h:Cx w g ms){i:Nat}(hi:i<ms.length):w.cell? ⟨g,i,none⟩=some (.int .u32 (ms[i]:Nat)):=by
 rw [cell_of_row w g i _ _ (0,0) h];simp [hi]
theorem Cx.frozen(h:Cx w g ms)(i:Nat):w.frozen? ⟨g,i,none⟩=false:=by
 unfold Cx B9 at h;simp [World.frozen?,h]
theorem Cx.new(w:World)(ms:List Nat):Cx (w.alloc (B9 ms)) w.heap.size ms:=heap_alloc_new w _
theorem Cx.alloc(h:Cx w g ms)(o:Obj):Cx (w.alloc o) g ms:=(Below.heap_alloc w o g h.lt).trans h
theorem Cx.set_(h:Cx w g ms)(i x:Nat):Cx (w.setCell ⟨g,i,none⟩ (.int .u32 (x:Int))) g (ms.set i x):=by
 unfold Cx B9 at h ⊢;simp [World.setCell,Array.getElem?_modify,h,List.map_set]
theorem Cx.far(h:Cx w g ms){p:Addr}(hp:g≠p.block)(u:Value):Cx (w.setCell p u) g ms:=(Below.heap_setCell w p u g hp).trans h
theorem Cx.below{B:Nat}(h:Cx w g ms)(hb:Below B w w')(hg:g<B):Cx w' g ms:=(hb.block g hg).trans h
theorem Cx.mem(h:Cx w g ms){B:Nat}(hB:g<B):CQ w B (some ⟨g,0,none⟩) ms:=λ_=>⟨_,rfl,hB,⟨_,_,h⟩,λj x hx=>by
 have hj:j<ms.length:=(List.getElem?_eq_some_iff.1 hx).1;have hx':ms[j]=x:=(List.getElem?_eq_some_iff.1 hx).2;have e:(⟨g,0,none⟩:Addr).add j=⟨g,j,none⟩:=by
  unfold Addr.add;split
  ·next h0=>rw [h0]
  ·simp
 rw [e,h.cell hj,hx']⟩
theorem Cx.nat(h:Cx w g ms)(h32:Bx ms){c:Nat}(hc:ms.length≤c):AB w (.slice (some ⟨g,0,none⟩) (len (val ms)) c) (val ms):=by
 obtain ⟨e1,e2,_⟩:=DY h32;refine ⟨_,c,rfl,by omega,?_⟩;rw [e1];exact (h.mem h.lt).take _
end
theorem qA:(Tryz.prog.info? 114).map (λi=>(i.zero,i.size,i.bytes))=some (some (.int .u32 0),1,4):=by kernel_rfl
theorem Kw(l:Int)(h0:0≤l)(h:l≤17592186044416)(w:World) :
  (Instr.makeSlice 32 (.int .i64 l) (.int .i64 l)).run Tryz.prog w = .ok (.slice (some ⟨w.heap.size,0,none⟩) l.toNat l.toNat) (w.alloc (B9 (List.replicate l.toNat 0))):=by
 obtain ⟨i,hi,hz,hs,hb⟩:=info_parts qA;have hr:=run_make (P:=Tryz.prog) w 32 114 i (.int .u32 0) Tryz.underlying32 hi hz .i64 .i64 l l h0 (Int.le_refl _) (by rw [hb]; omega) (by omega);have e:madeCells (Value.int .u32 0).cells (l.toNat*i.size)=((List.replicate l.toNat 0).map (fun (x:Nat)=>Value.int .u32 (x:Int))).toArray:=by
  rw [hs,Nat.mul_one];apply Array.ext_getElem?;intro j
  by_cases hj:j<l.toNat
  ·simp [madeCells,Value.cells,hj,Nat.mod_one]
  ·simp [madeCells,Value.cells,hj]
 rw [hr,e];rfl
theorem Ip(n:Nat):val (List.replicate n 0)=0:=by
 induction n with
 | zero=>rfl
 | succ n ih=>rw [List.replicate_succ,val,ih]
theorem Bx.replicate(n:Nat):Bx (List.replicate n 0):=λx hx=>by
 rw [List.eq_of_mem_replicate hx]; omega
theorem Bx.set{ms:List Nat}(h:Bx ms){i x:Nat}(hx:x<4294967296):Bx (ms.set i x):=λy hy=>by
 rcases List.mem_or_eq_of_mem_set hy with h1 | h1
 ·exact h y h1
 ·rw [h1]; exact hx
theorem Au(ms:List Nat)(k:Nat):val (ms.take (k+1))=val (ms.take k)+4294967296 ^ k*ms.getD k 0:=by
 rcases Nat.lt_or_ge k ms.length with h | h
 ·rw [List.take_succ_eq_append_getElem h,IV]
  simp [List.getD,List.getElem?_eq_getElem h,val,List.length_take,Nat.min_eq_left (Nat.le_of_lt h)]
 ·rw [List.take_of_length_le (by omega),List.take_of_length_le h]
  simp [List.getD,List.getElem?_eq_none h]
theorem By(w:World)(o:Obj):(w.alloc o).heap.size=w.heap.size+1:=by simp
theorem Io(w:World)(o1:Obj):(w.alloc o1).heap[w.heap.size]? = some o1:=heap_alloc_new w o1
theorem TW(w:World)(o1 o2:Obj):((w.alloc o1).alloc o2).heap[w.heap.size]? = some o1∧((w.alloc o1).alloc o2).heap[w.heap.size+1]? = some o2:=
 ⟨(Below.heap_alloc _ _ _ (by simp)).trans (Io w o1),by have:=Io (w.alloc o1) o2; rwa [By] at this⟩
theorem EW(w:World)(o1 o2 o3:Obj):(((w.alloc o1).alloc o2).alloc o3).heap[w.heap.size]? = some o1∧(((w.alloc o1).alloc o2).alloc o3).heap[w.heap.size+1]? = some o2∧(((w.alloc o1).alloc o2).alloc o3).heap[w.heap.size+2]? = some o3:=
 ⟨(Below.heap_alloc _ _ _ (by simp; omega)).trans (TW w o1 o2).1,(Below.heap_alloc _ _ _ (by simp)).trans (TW w o1 o2).2,by have:=Io ((w.alloc o1).alloc o2) o3; rwa [By,By] at this⟩
theorem FD(w:World)(o1 o2:Obj):Below w.heap.size w ((w.alloc o1).alloc o2):=(Ai w o1).alloc (by simp) o2
theorem D8(w:World)(o1 o2 o3:Obj):Below w.heap.size w (((w.alloc o1).alloc o2).alloc o3):=(FD w o1 o2).alloc (by simp; omega) o3
theorem Ax{W w1:World}{g:Nat}{x y:Value}{T:TypeId}(hg:W.heap[g]? = some (.cells #[x,y] T (0,0)))(hb:Below W.heap.size W w1) :
  w1.cell? ⟨g,0,none⟩=some x∧w1.cell? ⟨g,1,none⟩=some y∧w1.frozen? ⟨g,0,none⟩=false∧w1.frozen? ⟨g,1,none⟩=false∧g<w1.heap.size:=by
 have hs:g<W.heap.size:=by
  rcases Nat.lt_or_ge g W.heap.size with hlt | hge
  ·exact hlt
  ·rw [Array.getElem?_eq_none hge] at hg; cases hg
 have h1:w1.heap[g]? = some (.cells #[x,y] T (0,0)):=(hb.block g hs).trans hg;exact ⟨cell_of_row w1 g 0 _ _ (0,0) h1,cell_of_row w1 g 1 _ _ (0,0) h1,AA h1 0,AA h1 1,Nat.lt_of_lt_of_le hs hb.size⟩
theorem Cu{w W w1:World}{g:Nat}{x y x' y' v:Value}{z:Int}(hg:W.heap[g]? = some (.cells #[x,y] 34 (0,0)))(hb:Below W.heap.size W w1)(h:Al w1 v z)(hw:Below w.heap.size w W)(hgw:w.heap.size≤g) :
  Al ((w1.setCell ⟨g,0,none⟩ x').setCell ⟨g,1,none⟩ y') v z∧Below w.heap.size w ((w1.setCell ⟨g,0,none⟩ x').setCell ⟨g,1,none⟩ y'):=by
 have hs:g<W.heap.size:=by
  rcases Nat.lt_or_ge g W.heap.size with hlt | hge
  ·exact hlt
  ·rw [Array.getElem?_eq_none hge] at hg; cases hg
 have h1:w1.heap[g]? = some (.cells #[x,y] 34 (0,0)):=(hb.block g hs).trans hg;have hne:(34:TypeId)≠114:=by decide
 refine ⟨(h.far h1 hne 0 x').far (Az h1 0 x') hne 1 y',?_⟩;exact ((Ac hw hb).setCell (by simpa using hgw) _).setCell (by simpa using hgw) _
def BK(neg:Bool)(n:Nat):Int:=if neg then -(n:Int) else n
theorem Cb(z:Int):BK (decide (z<0)) z.natAbs=z:=by
 by_cases h:z<0
 ·simp [BK,h]; omega
 ·simp [BK,h]; omega
theorem S9(b:Bool):BK b 0=0:=by cases b <;> rfl
theorem Al.parts_{w:World}{v:Value}{z:Int}(h:Al w v z){n:Nat}{b:Bool}(hn:z.natAbs=n)(hb:decide (z<0)=b):∃(A:Option Addr)(c:Nat),v = .agg #[.bool b,.slice A (len n) c]∧Hid (AB w (.slice A (len n) c) n):=by
 subst hn hb;obtain ⟨s,rfl,A,c,rfl,hc,hm⟩:=h;exact ⟨A,c,rfl,⟨A,c,rfl,hc,hm⟩⟩
theorem Al.back{w:World}{z:Int}{n:Nat}{b:Bool}{A:Option Addr}{c:Nat}(h:AB w (.slice A (len n) c) n)(hn:z.natAbs=n)(hb:decide (z<0)=b):Al w (.agg #[.bool b,.slice A (len n) c]) z:=by
 subst hn hb;exact ⟨_,rfl,h⟩
end Go.Proofs.YtdopbgnkneeceaaGreat

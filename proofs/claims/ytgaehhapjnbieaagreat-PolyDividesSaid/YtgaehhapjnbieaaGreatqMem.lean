/- Slices of limbs that read as lists of numbers, and the values of such lists: definitions and small lemmas, without any walk. -/
import Derived.Test.YtgaehhapjnbieaaGreatRows
import Derived.WalkKit
import Derived.WalkSpells
import Derived.WalkLawsBesides
import Derived.Lib.Hide
import Derived.Deep.Draws
import Derived.Laws.OwnMore
set_option linter.unusedSectionVars false
set_option linter.unusedVariables false
set_option linter.unusedSimpArgs false
namespace Go.Proofs.YtgaehhapjnbieaaGreat
open Go.RowKit
theorem block_of_add' (a:Addr) (n:Nat):(a.add n).block=a.block:=by unfold Addr.add; split <;> rfl
def RawMem (w:World) (B:Nat) (A:Option Addr) (ms:List Nat):Prop:=
 0<ms.length→∃ ad,A=some ad∧ad.block<B∧∀ (j x:Nat),ms[j]? = some x→w.cell? (ad.add j)=some (.int .u32 (x:Int))
def Mem (w:World) (B:Nat) (A:Option Addr) (ms:List Nat):Prop:=
 0<ms.length→∃ ad,A=some ad∧ad.block<B∧(∃ cs fr,w.heap[ad.block]? = some (.cells cs 109 fr))∧∀ (j x:Nat),ms[j]? = some x→w.cell? (ad.add j)=some (.int .u32 (x:Int))
section
variable {w w' : World} {B B' : Nat} {A : Option Addr} {ms : List Nat}
theorem Mem.raw (h:Mem w B A ms):RawMem w B A ms:=fun hn=>by
 obtain ⟨ad,e,hb,_,hc⟩:=h hn
 exact ⟨ad,e,hb,hc⟩
theorem RawMem.at_ {k:Nat} (h:RawMem w B A ms) (hk:k<ms.length):∃ ad,A=some ad∧ad.block<B∧w.cell? (ad.add k)=some (.int .u32 (ms[k]:Nat)):=by
 obtain ⟨ad,e,hb,hc⟩:=h (by omega)
 exact ⟨ad,e,hb,hc k _ (List.getElem?_eq_getElem hk)⟩
theorem RawMem.below (h:RawMem w B A ms) (hk:Below B w w'):RawMem w' B A ms:=fun hn=>by
 obtain ⟨ad,e,hb,hc⟩:=h hn
 exact ⟨ad,e,hb,fun j u hu=>(hk.cell (by rw [block_of_add']; exact hb)).trans (hc j u hu)⟩
theorem RawMem.take (h:RawMem w B A ms) (k:Nat):RawMem w B A (ms.take k):=fun hn=>by
 obtain ⟨ad,e,hb,hc⟩:=h (by rw [List.length_take] at hn; omega)
 refine ⟨ad,e,hb,fun j u hu=>hc j u ?_⟩
 rw [List.getElem?_take] at hu
 split at hu
 ·exact hu
 ·cases hu
theorem Mem.nil_:Mem w B A []:=fun h=>absurd h (by simp)
theorem Mem.at_ {k:Nat} (h:Mem w B A ms) (hk:k<ms.length):∃ ad,A=some ad∧ad.block<B∧w.cell? (ad.add k)=some (.int .u32 (ms[k]:Nat)):=h.raw.at_ hk
theorem Mem.more (h:Mem w B A ms) (hB:B≤B'):Mem w B' A ms:=fun hn=>by
 obtain ⟨ad,e,hb,ht,hc⟩:=h hn
 exact ⟨ad,e,by omega,ht,hc⟩
theorem Mem.below (h:Mem w B A ms) (hk:Below B w w'):Mem w' B A ms:=fun hn=>by
 obtain ⟨ad,e,hb,⟨cs,fr,ht⟩,hc⟩:=h hn
 exact ⟨ad,e,hb,⟨cs,fr,(hk.block _ hb).trans ht⟩,fun j u hu=>(hk.cell (by rw [block_of_add']; exact hb)).trans (hc j u hu)⟩
theorem Mem.into (h:Mem w w.heap.size A ms) (hb:Below w.heap.size w w'):Mem w' w'.heap.size A ms:=(h.below hb).more hb.size
theorem Mem.far (h:Mem w B A ms) {g:Nat} {cs:Array Value} {T:TypeId} {fr:Nat × Nat} (hg:w.heap[g]? = some (.cells cs T fr)) (hT:T≠109) (i:Nat) (v:Value):Mem (w.setCell ⟨g,i,none⟩ v) B A ms:=fun hn=>by
 obtain ⟨ad,e,hb,⟨cs',fr',ht⟩,hc⟩:=h hn
 have hne:ad.block≠g:=by
  intro e
  rw [e,hg] at ht
  injection ht with ht
  injection ht with _ h2 _
  exact hT h2
 refine ⟨ad,e,hb,⟨cs',fr',(Below.heap_setCell w _ _ _ hne).trans ht⟩,fun j u hu=>?_⟩
 rw [World.cell?_setCell_other _ _ _ _ (fun e=>hne (by have:=congrArg Addr.block e; simpa [block_of_add'] using this.symm))]
 exact hc j u hu
theorem Mem.take (h:Mem w B A ms) (k:Nat):Mem w B A (ms.take k):=fun hn=>by
 obtain ⟨ad,e,hb,ht,hc⟩:=h (by rw [List.length_take] at hn; omega)
 refine ⟨ad,e,hb,ht,fun j u hu=>hc j u ?_⟩
 rw [List.getElem?_take] at hu
 split at hu
 ·exact hu
 ·cases hu
end
end Go.Proofs.YtgaehhapjnbieaaGreat
namespace Go.Proofs.YtgaehhapjnbieaaGreat
def val:List Nat→Nat
 | []=>0
 | x :: r=>x+4294967296*val r
def L32 (ms:List Nat):Prop:=∀ x∈ms,x<4294967296
def limbs (n:Nat):List Nat:=if h:n=0 then [] else n % 4294967296 :: limbs (n / 4294967296)
termination_by n
decreasing_by omega
def len (n:Nat):Nat:=(limbs n).length
theorem limbs_zero:limbs 0=[]:=by unfold limbs; rfl
theorem limbs_pos {n:Nat} (h:0<n):limbs n=n % 4294967296 :: limbs (n / 4294967296):=by
 rw [limbs]; rw [dif_neg (by omega)]
theorem len_zero:len 0=0:=by simp [len,limbs_zero]
theorem len_pos {n:Nat} (h:0<n):len n=len (n / 4294967296)+1:=by simp [len,limbs_pos h]
theorem val_limbs (n:Nat):val (limbs n)=n:=by
 induction n using Nat.strongRecOn with
 | _ n ih =>
  rcases Nat.eq_zero_or_pos n with h | h
  ·subst h; rw [limbs_zero]; rfl
  ·rw [limbs_pos h,val,ih _ (by omega)]; omega
theorem limbs_32 (n:Nat):L32 (limbs n):=by
 induction n using Nat.strongRecOn with
 | _ n ih =>
  rcases Nat.eq_zero_or_pos n with h | h
  ·subst h; rw [limbs_zero]; intro x hx; cases hx
  ·rw [limbs_pos h]
   intro x hx
   rcases List.mem_cons.1 hx with rfl | hx
   ·omega
   ·exact ih _ (by omega) x hx
theorem limbs_cons {x n:Nat} (hx:x<4294967296) (h:0<x+4294967296*n):limbs (x+4294967296*n)=x :: limbs n:=by
 rw [limbs_pos h]
 have h1:(x+4294967296*n) % 4294967296=x:=by omega
 have h2:(x+4294967296*n) / 4294967296=n:=by omega
 rw [h1,h2]
theorem L32.cons {x:Nat} {r:List Nat} (h:L32 (x :: r)):x<4294967296∧L32 r:=⟨h x (by simp),fun y hy=>h y (by simp [hy])⟩
theorem L32.mk {x:Nat} {r:List Nat} (hx:x<4294967296) (h:L32 r):L32 (x :: r):=fun y hy=>by
 rcases List.mem_cons.1 hy with rfl | hy
 ·exact hx
 ·exact h y hy
theorem L32.nil_:L32 []:=fun x hx=>by cases hx
theorem L32.at_ {ms:List Nat} (h:L32 ms) (i:Nat):ms.getD i 0<4294967296:=by
 rcases Nat.lt_or_ge i ms.length with hl | hl
 ·simp only [List.getD,List.getElem?_eq_getElem hl,Option.getD_some]; exact h _ (List.getElem_mem hl)
 ·simp [List.getD,List.getElem?_eq_none hl]
theorem L32.get {ms:List Nat} (h:L32 ms) {i:Nat} (hl:i<ms.length):ms[i]<4294967296:=h _ (List.getElem_mem hl)
theorem L32.append {a b:List Nat} (ha:L32 a) (hb:L32 b):L32 (a ++ b):=fun x hx=>(List.mem_append.1 hx).elim (ha x) (hb x)
theorem L32.take {a:List Nat} (ha:L32 a) (k:Nat):L32 (a.take k):=fun x hx=>ha x (List.mem_of_mem_take hx)
theorem L32.drop {a:List Nat} (ha:L32 a) (k:Nat):L32 (a.drop k):=fun x hx=>ha x (List.mem_of_mem_drop hx)
theorem val_append (a b:List Nat):val (a ++ b)=val a+4294967296 ^ a.length*val b:=by
 induction a with
 | nil=>simp [val]
 | cons x r ih=>simp only [List.cons_append,val,ih,List.length_cons,Nat.pow_succ]; rw [Nat.mul_add,Nat.mul_comm (4294967296 ^ r.length) 4294967296,Nat.mul_assoc]; omega
theorem val_lt {ms:List Nat} (h:L32 ms):val ms<4294967296 ^ ms.length:=by
 induction ms with
 | nil=>simp [val]
 | cons x r ih =>
  have h1:=ih h.cons.2
  have h2:=h.cons.1
  simp only [val,List.length_cons,Nat.pow_succ]
  omega
theorem limbs_val {ms:List Nat} (h:L32 ms):limbs (val ms)=ms.take (len (val ms))∧len (val ms)≤ms.length∧∀ i,len (val ms)≤i→ms.getD i 0=0:=by
 induction ms with
 | nil=>simp [val,limbs_zero,len_zero]
 | cons x r ih =>
  obtain ⟨i1,i2,i3⟩:=ih h.cons.2
  have hx:=h.cons.1
  rcases Nat.eq_zero_or_pos (x+4294967296*val r) with h0 | h0
  ·have hv:val (x :: r)=0:=by simp only [val]; exact h0
   have hx0:x=0:=by omega
   have hr0:val r=0:=by omega
   rw [hr0,len_zero] at i3
   rw [hv,limbs_zero,len_zero]
   refine ⟨by simp,by omega,fun i _=>?_⟩
   match i with
   | 0=>simp [hx0]
   | j+1=>simpa using i3 j (by omega)
  ·have e:limbs (val (x :: r))=x :: limbs (val r):=by simp only [val]; exact limbs_cons hx h0
   have el:len (val (x :: r))=len (val r)+1:=by simp [len,e]
   refine ⟨by rw [el,e,List.take_succ_cons,← i1],by simp [el,i2],fun i hi=>?_⟩
   match i with
   | 0=>omega
   | j+1=>simpa using i3 j (by omega)
theorem limbs_last {n:Nat} (h:0<n):(limbs n).getD (len n - 1) 0≠0:=by
 induction n using Nat.strongRecOn with
 | _ n ih =>
  rw [limbs_pos h,len_pos h]
  rcases Nat.eq_zero_or_pos (n / 4294967296) with h0 | h0
  ·rw [h0,len_zero,limbs_zero]; simp; omega
  ·have:=ih _ (by omega) h0
   have hl:len (n / 4294967296)=len (n / 4294967296 / 4294967296)+1:=len_pos h0
   rw [hl] at this ⊢
   simpa using this
theorem len_limbs (n:Nat):(limbs n).length=len n:=rfl
theorem lt_pow_len (n:Nat):n<4294967296 ^ len n:=by have:=val_lt (limbs_32 n); rwa [val_limbs] at this
theorem len_le {n k : Nat} (h : n < 4294967296 ^ k) : len n ≤ k := by
  induction k generalizing n with
  | zero => have : n = 0 := by simpa using h
            subst this; simp [len_zero]
  | succ k ih =>
    rcases Nat.eq_zero_or_pos n with h0 | h0
    · subst h0; simp [len_zero]
    · rw [len_pos h0]
      have : n / 4294967296 < 4294967296 ^ k := by rw [Nat.pow_succ] at h; omega
      have := ih this
      omega
theorem pow_le_of_len {n k:Nat} (h:k<len n):4294967296 ^ k≤n:=by
 rcases Nat.lt_or_ge n (4294967296 ^ k) with h1 | h1
 ·have:=len_le h1; omega
 ·exact h1
theorem len_mono {a b:Nat} (h:a≤b):len a≤len b:=len_le (Nat.lt_of_le_of_lt h (lt_pow_len b))
theorem len_add (a b:Nat):len (a+b)≤max (len a) (len b)+1:=by
 apply len_le
 have ha:=lt_pow_len a
 have hb:=lt_pow_len b
 have h1:4294967296 ^ len a≤4294967296 ^ max (len a) (len b):=Nat.pow_le_pow_right (by omega) (by omega)
 have h2:4294967296 ^ len b≤4294967296 ^ max (len a) (len b):=Nat.pow_le_pow_right (by omega) (by omega)
 rw [Nat.pow_succ]
 omega
theorem len_mul (a b:Nat):len (a*b)≤len a+len b:=by
 apply len_le
 rcases Nat.eq_zero_or_pos a with h | h
 ·subst h; rw [Nat.zero_mul]; exact Nat.pow_pos (by decide)
 ·rw [Nat.pow_add]; exact Nat.mul_lt_mul_of_lt_of_le (lt_pow_len a) (Nat.le_of_lt (lt_pow_len b)) (Nat.pow_pos (by omega))
theorem len_lt_lt {a b:Nat} (h:len a<len b):a<b:=by
 have h1:=lt_pow_len a
 have h2:=pow_le_of_len h
 omega
theorem len_le_one {n:Nat} (h:n<4294967296):len n≤1:=len_le (by simpa using h)
theorem len_le_two {n:Nat} (h:n<18446744073709551616):len n≤2:=len_le (by simpa using h)
theorem len_eq_zero {n:Nat}:len n=0 ↔ n=0:=by
 constructor
 ·intro h
  rcases Nat.eq_zero_or_pos n with h0 | h0
  ·exact h0
  ·rw [len_pos h0] at h; omega
 ·rintro rfl; exact len_zero
theorem limbs_inj {a b:Nat} (h:limbs a=limbs b):a=b:=by rw [← val_limbs a,← val_limbs b,h]
theorem limbs_of_val {ms:List Nat} (h:L32 ms) (hl:ms=[] ∨ ms.getD (ms.length - 1) 0≠0):limbs (val ms)=ms:=by
 obtain ⟨h1,h2,h3⟩:=limbs_val h
 rw [h1]
 rcases hl with rfl | hl
 ·simp
 ·apply List.take_of_length_le
  rcases Nat.lt_or_ge (len (val ms)) ms.length with h4 | h4
  ·exact absurd (h3 (ms.length - 1) (by omega)) hl
  ·exact h4
end Go.Proofs.YtgaehhapjnbieaaGreat
namespace Go.Proofs.YtgaehhapjnbieaaGreat
open Go.RowKit
def NatAt (w:World) (v:Value) (n:Nat):Prop:=∃ A c,v = .slice A (len n) c∧len n≤c∧Mem w w.heap.size A (limbs n)
def IntAt (w:World) (v:Value) (z:Int):Prop:=∃ s,v = .agg #[.bool (decide (z<0)),s]∧NatAt w s z.natAbs
theorem NatAt.into {w w':World} {v:Value} {n:Nat} (h:NatAt w v n) (hb:Below w.heap.size w w'):NatAt w' v n:=by
 obtain ⟨A,c,e,hc,hm⟩:=h
 exact ⟨A,c,e,hc,hm.into hb⟩
theorem IntAt.into {w w':World} {v:Value} {z:Int} (h:IntAt w v z) (hb:Below w.heap.size w w'):IntAt w' v z:=by
 obtain ⟨s,e,hs⟩:=h
 exact ⟨s,e,hs.into hb⟩
theorem NatAt.zero (w:World) (A:Option Addr) (c:Nat):NatAt w (.slice A 0 c) 0:=⟨A,c,by rw [len_zero],by rw [len_zero]; omega,by rw [limbs_zero]; exact Mem.nil_⟩
theorem IntAt.zero (w:World) (A:Option Addr) (c:Nat):IntAt w (.agg #[.bool false,.slice A 0 c]) 0:=⟨_,rfl,NatAt.zero w A c⟩
theorem IntAt.mk {w:World} {s:Value} {n:Nat} {b:Bool} (h:NatAt w s n) (h0:n=0→b=false):IntAt w (.agg #[.bool b,s]) (if b then -(n:Int) else n):=by
 refine ⟨s,?_,?_⟩
 ·cases b
  ·simp
  ·have:n≠0:=fun h=>by simpa using h0 h
   simp; omega
 ·cases b
  ·simpa using h
  ·simpa using h
theorem IntAt.open_ {w:World} {v:Value} {z:Int} (h:IntAt w v z):∃ (b:Bool) (A:Option Addr) (k c:Nat),v = .agg #[.bool b,.slice A k c]∧Hid (IntAt w (.agg #[.bool b,.slice A k c]) z):=by
 obtain ⟨s,rfl,A,c,rfl,hc,hm⟩:=h
 exact ⟨_,A,_,c,rfl,⟨_,rfl,A,c,rfl,hc,hm⟩⟩
theorem NatAt.open_ {w:World} {v:Value} {n:Nat} (h:NatAt w v n):∃ (A:Option Addr) (c:Nat),v = .slice A (len n) c∧Hid (NatAt w (.slice A (len n) c) n):=by
 obtain ⟨A,c,rfl,hc,hm⟩:=h
 exact ⟨A,c,rfl,⟨A,c,rfl,hc,hm⟩⟩
theorem NatAt.mem {w:World} {A:Option Addr} {k c n:Nat} (h:NatAt w (.slice A k c) n):k=len n∧len n≤c∧Mem w w.heap.size A (limbs n):=by
 obtain ⟨A',c',e,hc,hm⟩:=h
 injection e with e1 e2 e3
 subst e1 e2 e3
 exact ⟨rfl,hc,hm⟩
theorem step_below {w w1 w2:World} (h:Below w.heap.size w w1) (h2:Below w1.heap.size w1 w2):Below w.heap.size w w2:=h.trans (h2.mono h.size)
theorem below_alloc (w:World) (o:Obj):Below w.heap.size w (w.alloc o):=(Below.refl _ _).alloc (Nat.le_refl _) _
theorem below_drewN (w:World) (n:Nat):Below w.heap.size w (w.drewN n):=⟨rfl,rfl,rfl,Nat.le_refl _,fun _ _=>rfl⟩
theorem frozen_of_row {w:World} {g:Nat} {cs:Array Value} {T:TypeId} (h:w.heap[g]? = some (.cells cs T (0,0))) (i:Nat):w.frozen? ⟨g,i,none⟩=false:=by simp [World.frozen?,h]
theorem box2 {w w1:World} {x y:Value} {T:TypeId} (hb:Below (w.alloc (.cells #[x,y] T)).heap.size (w.alloc (.cells #[x,y] T)) w1) :
  w1.cell? ⟨w.heap.size,0,none⟩=some x∧w1.cell? ⟨w.heap.size,1,none⟩=some y∧w1.frozen? ⟨w.heap.size,0,none⟩=false∧w1.frozen? ⟨w.heap.size,1,none⟩=false∧w.heap.size<w1.heap.size:=by
 have hs:w.heap.size<(w.alloc (.cells #[x,y] T)).heap.size:=by simp
 have hc:∀ i,(w.alloc (.cells #[x,y] T)).cell? ⟨w.heap.size,i,none⟩ = #[x,y][i]? := fun i=>cell_of_row _ _ i _ _ (0,0) (heap_alloc_new w _)
 have hf:∀ i,(w.alloc (.cells #[x,y] T)).frozen? ⟨w.heap.size,i,none⟩=false:=fun i=>by
  exact frozen_of_row (heap_alloc_new w (.cells #[x,y] T)) i
 refine ⟨(hb.cell (p:=⟨w.heap.size,0,none⟩) hs).trans (hc 0),(hb.cell (p:=⟨w.heap.size,1,none⟩) hs).trans (hc 1),(hb.frozen (p:=⟨w.heap.size,0,none⟩) hs).trans (hf 0),(hb.frozen (p:=⟨w.heap.size,1,none⟩) hs).trans (hf 1),Nat.lt_of_lt_of_le hs hb.size⟩
theorem NatAt.far {w:World} {v:Value} {n:Nat} (h:NatAt w v n) {g:Nat} {cs:Array Value} {T:TypeId} {fr:Nat × Nat} (hg:w.heap[g]? = some (.cells cs T fr)) (hT:T≠109) (i:Nat) (u:Value):NatAt (w.setCell ⟨g,i,none⟩ u) v n:=by
 obtain ⟨A,c,e,hc,hm⟩:=h
 refine ⟨A,c,e,hc,?_⟩
 have:=hm.far hg hT i u
 simpa [World.setCell] using this
theorem IntAt.far {w:World} {v:Value} {z:Int} (h:IntAt w v z) {g:Nat} {cs:Array Value} {T:TypeId} {fr:Nat × Nat} (hg:w.heap[g]? = some (.cells cs T fr)) (hT:T≠109) (i:Nat) (u:Value):IntAt (w.setCell ⟨g,i,none⟩ u) v z:=by
 obtain ⟨s,e,hs⟩:=h
 exact ⟨s,e,hs.far hg hT i u⟩
theorem block_setCell {w:World} {g:Nat} {cs:Array Value} {T:TypeId} {fr:Nat × Nat} (h:w.heap[g]? = some (.cells cs T fr)) (i:Nat) (u:Value):(w.setCell ⟨g,i,none⟩ u).heap[g]? = some (.cells (cs.setIfInBounds i u) T fr):=by
 simp [World.setCell,Array.getElem?_modify,h]
theorem box2_end {w w1:World} {x y x' y' v:Value} {z:Int} (hb:Below (w.alloc (.cells #[x,y] 34)).heap.size (w.alloc (.cells #[x,y] 34)) w1) (h:IntAt w1 v z) :
  IntAt ((w1.setCell ⟨w.heap.size,0,none⟩ x').setCell ⟨w.heap.size,1,none⟩ y') v z∧Below w.heap.size w ((w1.setCell ⟨w.heap.size,0,none⟩ x').setCell ⟨w.heap.size,1,none⟩ y'):=by
 have hg:w1.heap[w.heap.size]? = some (.cells #[x,y] 34 (0,0)):=(hb.block _ (by simp)).trans (heap_alloc_new w _)
 have hne:(34:TypeId)≠109:=by decide
 refine ⟨(h.far hg hne 0 x').far (block_setCell hg 0 x') hne 1 y',?_⟩
 have h0:Below w.heap.size w w1:=(below_alloc w _).trans (hb.mono (by simp))
 exact (h0.setCell (by simp) _).setCell (by simp) _
def GivesNat (n:Nat) (w:World) (e:Ending) (w':World):Prop:=∃ v,e = .returned v∧NatAt w' v n∧Below w.heap.size w w'
def GivesInt (z:Int) (w:World) (e:Ending) (w':World):Prop:=∃ v,e = .returned v∧IntAt w' v z∧Below w.heap.size w w'
def rowObj (ms:List Nat):Obj:=.cells (ms.map (fun (x:Nat)=>Value.int .u32 (x:Int))).toArray 109
def Row (w:World) (g:Nat) (ms:List Nat):Prop:=w.heap[g]? = some (rowObj ms)
section
variable {w w' : World} {g : Nat} {ms : List Nat}
theorem Row.lt (h:Row w g ms):g<w.heap.size:=by
 rcases Nat.lt_or_ge g w.heap.size with hlt | hge
 ·exact hlt
 ·unfold Row at h; rw [Array.getElem?_eq_none hge] at h; cases h
theorem Row.cell (h:Row w g ms) {i:Nat} (hi:i<ms.length):w.cell? ⟨g,i,none⟩=some (.int .u32 (ms[i]:Nat)):=by
 rw [cell_of_row w g i _ _ (0,0) h]
 simp [hi]
theorem Row.frozen (h:Row w g ms) (i:Nat):w.frozen? ⟨g,i,none⟩=false:=by
 unfold Row rowObj at h
 simp [World.frozen?,h]
theorem Row.new (w:World) (ms:List Nat):Row (w.alloc (rowObj ms)) w.heap.size ms:=heap_alloc_new w _
theorem Row.alloc (h:Row w g ms) (o:Obj):Row (w.alloc o) g ms:=(Below.heap_alloc w o g h.lt).trans h
theorem Row.set_ (h:Row w g ms) (i x:Nat):Row (w.setCell ⟨g,i,none⟩ (.int .u32 (x:Int))) g (ms.set i x):=by
 unfold Row rowObj at h ⊢
 simp [World.setCell,Array.getElem?_modify,h,List.map_set]
theorem Row.far (h:Row w g ms) {p:Addr} (hp:g≠p.block) (u:Value):Row (w.setCell p u) g ms:=(Below.heap_setCell w p u g hp).trans h
theorem Row.below {B:Nat} (h:Row w g ms) (hb:Below B w w') (hg:g<B):Row w' g ms:=(hb.block g hg).trans h
theorem Row.mem (h:Row w g ms) {B:Nat} (hB:g<B):Mem w B (some ⟨g,0,none⟩) ms:=fun _=>⟨_,rfl,hB,⟨_,_,h⟩,fun j x hx=>by
 have hj:j<ms.length:=(List.getElem?_eq_some_iff.1 hx).1
 have hx':ms[j]=x:=(List.getElem?_eq_some_iff.1 hx).2
 have e:(⟨g,0,none⟩:Addr).add j=⟨g,j,none⟩:=by
  unfold Addr.add
  split
  ·next h0=>rw [h0]
  ·simp
 rw [e,h.cell hj,hx']⟩
theorem Row.nat (h:Row w g ms) (h32:L32 ms) {c:Nat} (hc:ms.length≤c):NatAt w (.slice (some ⟨g,0,none⟩) (len (val ms)) c) (val ms):=by
 obtain ⟨e1,e2,_⟩:=limbs_val h32
 refine ⟨_,c,rfl,by omega,?_⟩
 rw [e1]
 exact (h.mem h.lt).take _
end
theorem info32:(Tryz.prog.info? 109).map (fun i=>(i.zero,i.size,i.bytes))=some (some (.int .u32 0),1,4):=by kernel_rfl
theorem mk32 (l:Int) (h0:0≤l) (h:l≤17592186044416) (w:World) :
  (Instr.makeSlice 32 (.int .i64 l) (.int .i64 l)).run Tryz.prog w = .ok (.slice (some ⟨w.heap.size,0,none⟩) l.toNat l.toNat) (w.alloc (rowObj (List.replicate l.toNat 0))):=by
 obtain ⟨i,hi,hz,hs,hb⟩:=info_parts info32
 have hr:=run_make (P:=Tryz.prog) w 32 109 i (.int .u32 0) Tryz.underlying32 hi hz .i64 .i64 l l h0 (Int.le_refl _) (by rw [hb]; omega) (by omega)
 have e:madeCells (Value.int .u32 0).cells (l.toNat*i.size)=((List.replicate l.toNat 0).map (fun (x:Nat)=>Value.int .u32 (x:Int))).toArray:=by
  rw [hs,Nat.mul_one]
  apply Array.ext_getElem?
  intro j
  by_cases hj:j<l.toNat
  ·simp [madeCells,Value.cells,hj,Nat.mod_one]
  ·simp [madeCells,Value.cells,hj]
 rw [hr,e]
 rfl
theorem val_replicate (n:Nat):val (List.replicate n 0)=0:=by
 induction n with
 | zero=>rfl
 | succ n ih=>rw [List.replicate_succ,val,ih]
theorem L32.replicate (n:Nat):L32 (List.replicate n 0):=fun x hx=>by
 rw [List.eq_of_mem_replicate hx]; omega
theorem L32.set {ms:List Nat} (h:L32 ms) {i x:Nat} (hx:x<4294967296):L32 (ms.set i x):=fun y hy=>by
 rcases List.mem_or_eq_of_mem_set hy with h1 | h1
 ·exact h y h1
 ·rw [h1]; exact hx
theorem val_take_succ (ms:List Nat) (k:Nat):val (ms.take (k+1))=val (ms.take k)+4294967296 ^ k*ms.getD k 0:=by
 rcases Nat.lt_or_ge k ms.length with h | h
 ·rw [List.take_succ_eq_append_getElem h,val_append]
  simp [List.getD,List.getElem?_eq_getElem h,val,List.length_take,Nat.min_eq_left (Nat.le_of_lt h)]
 ·rw [List.take_of_length_le (by omega),List.take_of_length_le h]
  simp [List.getD,List.getElem?_eq_none h]
end Go.Proofs.YtgaehhapjnbieaaGreat
namespace Go.Proofs.YtgaehhapjnbieaaGreat
open Go.RowKit
theorem size_alloc' (w:World) (o:Obj):(w.alloc o).heap.size=w.heap.size+1:=by simp
theorem heap1 (w:World) (o1:Obj):(w.alloc o1).heap[w.heap.size]? = some o1:=heap_alloc_new w o1
theorem heap2 (w:World) (o1 o2:Obj):((w.alloc o1).alloc o2).heap[w.heap.size]? = some o1∧((w.alloc o1).alloc o2).heap[w.heap.size+1]? = some o2:=
 ⟨(Below.heap_alloc _ _ _ (by simp)).trans (heap1 w o1),by have:=heap1 (w.alloc o1) o2; rwa [size_alloc'] at this⟩
theorem heap3 (w:World) (o1 o2 o3:Obj):(((w.alloc o1).alloc o2).alloc o3).heap[w.heap.size]? = some o1∧(((w.alloc o1).alloc o2).alloc o3).heap[w.heap.size+1]? = some o2∧(((w.alloc o1).alloc o2).alloc o3).heap[w.heap.size+2]? = some o3:=
 ⟨(Below.heap_alloc _ _ _ (by simp; omega)).trans (heap2 w o1 o2).1,(Below.heap_alloc _ _ _ (by simp)).trans (heap2 w o1 o2).2,by have:=heap1 ((w.alloc o1).alloc o2) o3; rwa [size_alloc',size_alloc'] at this⟩
theorem below2 (w:World) (o1 o2:Obj):Below w.heap.size w ((w.alloc o1).alloc o2):=(below_alloc w o1).alloc (by simp) o2
theorem below3 (w:World) (o1 o2 o3:Obj):Below w.heap.size w (((w.alloc o1).alloc o2).alloc o3):=(below2 w o1 o2).alloc (by simp; omega) o3
theorem box_in {W w1:World} {g:Nat} {x y:Value} {T:TypeId} (hg:W.heap[g]? = some (.cells #[x,y] T (0,0))) (hb:Below W.heap.size W w1) :
  w1.cell? ⟨g,0,none⟩=some x∧w1.cell? ⟨g,1,none⟩=some y∧w1.frozen? ⟨g,0,none⟩=false∧w1.frozen? ⟨g,1,none⟩=false∧g<w1.heap.size:=by
 have hs:g<W.heap.size:=by
  rcases Nat.lt_or_ge g W.heap.size with hlt | hge
  ·exact hlt
  ·rw [Array.getElem?_eq_none hge] at hg; cases hg
 have h1:w1.heap[g]? = some (.cells #[x,y] T (0,0)):=(hb.block g hs).trans hg
 exact ⟨cell_of_row w1 g 0 _ _ (0,0) h1,cell_of_row w1 g 1 _ _ (0,0) h1,frozen_of_row h1 0,frozen_of_row h1 1,Nat.lt_of_lt_of_le hs hb.size⟩
theorem box_end {w W w1:World} {g:Nat} {x y x' y' v:Value} {z:Int} (hg:W.heap[g]? = some (.cells #[x,y] 34 (0,0))) (hb:Below W.heap.size W w1) (h:IntAt w1 v z) (hw:Below w.heap.size w W) (hgw:w.heap.size≤g) :
  IntAt ((w1.setCell ⟨g,0,none⟩ x').setCell ⟨g,1,none⟩ y') v z∧Below w.heap.size w ((w1.setCell ⟨g,0,none⟩ x').setCell ⟨g,1,none⟩ y'):=by
 have hs:g<W.heap.size:=by
  rcases Nat.lt_or_ge g W.heap.size with hlt | hge
  ·exact hlt
  ·rw [Array.getElem?_eq_none hge] at hg; cases hg
 have h1:w1.heap[g]? = some (.cells #[x,y] 34 (0,0)):=(hb.block g hs).trans hg
 have hne:(34:TypeId)≠109:=by decide
 refine ⟨(h.far h1 hne 0 x').far (block_setCell h1 0 x') hne 1 y',?_⟩
 exact ((step_below hw hb).setCell (by simpa using hgw) _).setCell (by simpa using hgw) _
def sgn (neg:Bool) (n:Nat):Int:=if neg then -(n:Int) else n
theorem sgn_of (z:Int):sgn (decide (z<0)) z.natAbs=z:=by
 by_cases h:z<0
 ·simp [sgn,h]; omega
 ·simp [sgn,h]; omega
theorem sgn_zero (b:Bool):sgn b 0=0:=by cases b <;> rfl
theorem IntAt.parts_ {w:World} {v:Value} {z:Int} (h:IntAt w v z) {n:Nat} {b:Bool} (hn:z.natAbs=n) (hb:decide (z<0)=b):∃ (A:Option Addr) (c:Nat),v = .agg #[.bool b,.slice A (len n) c]∧Hid (NatAt w (.slice A (len n) c) n):=by
 subst hn hb
 obtain ⟨s,rfl,A,c,rfl,hc,hm⟩:=h
 exact ⟨A,c,rfl,⟨A,c,rfl,hc,hm⟩⟩
theorem IntAt.back {w:World} {z:Int} {n:Nat} {b:Bool} {A:Option Addr} {c:Nat} (h:NatAt w (.slice A (len n) c) n) (hn:z.natAbs=n) (hb:decide (z<0)=b):IntAt w (.agg #[.bool b,.slice A (len n) c]) z:=by
 subst hn hb
 exact ⟨_,rfl,h⟩
end Go.Proofs.YtgaehhapjnbieaaGreat

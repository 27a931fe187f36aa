/- Layer Mc: its sanity, in pieces (written by gen_sanity2.py for this seat). -/
import Derived.Test.YtdopbgnkneeceaaGreatqVv
set_option linter.unusedSectionVars false
set_option linter.unusedVariables false
set_option linter.unusedSimpArgs false
set_option maxRecDepth 100000
namespace Go.Proofs.YtdopbgnkneeceaaGreat
open Go.RowKit
def rq(n:Int)(d:Nat):Rat:=mkRat n d
noncomputable def nI:Func:=Tryz.f10
noncomputable def B8:=DH nI
noncomputable def Acd:Fm:=gD 144 [(0,.val (.bool false))] [] 32
def AiK:List AV:=[.val (.bool false)]
noncomputable def Aco:Fm:=gD 144 [(0,.val (.bool false)),(1,.sl 96 0 2 (some 2))] [(48,some ⟨36,4,[.rat (rq 0 1),.rat (rq 2 1),.rat (rq 4 1)],true,none⟩),(80,some ⟨36,4,[.rat (rq 1 1),.rat (rq 1 1),.rat (rq 1 1)],true,none⟩),(96,some ⟨40,1,[.sl 48 0 3 none,.sl 80 0 3 none],false,none⟩)] 128
def Air:List AV:=[.rat (rq 0 1),.rat (rq 1 1),.rat (rq 2 1),.rat (rq 4 1),.val (.bool false)]
noncomputable def Abf:Fm:=gD 144 [(0,.val (.bool false)),(1,.sl 96 0 2 (some 2)),(2,.sl 144 0 2 (some 2)),(3,.sl 147 0 2 none)] [(48,some ⟨36,4,[.rat (rq 0 1),.rat (rq 2 1),.rat (rq 4 1)],true,none⟩),(80,some ⟨36,4,[.rat (rq 1 1),.rat (rq 1 1),.rat (rq 1 1)],true,none⟩),(96,some ⟨40,1,[.sl 48 0 3 none,.sl 80 0 3 none],false,none⟩),(144,some ⟨40,1,[.sl 145 0 3 (some 3),.sl 146 0 3 (some 3)],false,none⟩),(145,some ⟨36,4,[.rat (rq 1 1),.rat (rq 0 1),.rat (rq (-1) 1)],false,none⟩),(146,some ⟨36,4,[.rat (rq 0 1),.rat (rq 1 1),.rat (rq 2 1)],false,none⟩),(147,some ⟨3,1,[.val (.int .i64 0),.val (.int .i64 1)],true,none⟩)] 240
def AiF:List AV:=[.rat (rq (-1) 1),.rat (rq 0 1),.rat (rq 1 1),.rat (rq 2 1),.rat (rq 4 1),.val (.bool false),.val (.int .i64 0),.val (.int .i64 1)]
noncomputable def AaV:Fm:=gD 144 [(0,.val (.bool false)),(1,.sl 96 0 2 (some 2)),(2,.sl 144 0 2 (some 2)),(3,.sl 147 0 2 none),(4,.sl 256 0 1 none)] [(48,some ⟨36,4,[.rat (rq 0 1),.rat (rq 2 1),.rat (rq 4 1)],true,none⟩),(80,some ⟨36,4,[.rat (rq 1 1),.rat (rq 1 1),.rat (rq 1 1)],true,none⟩),(96,some ⟨40,1,[.sl 48 0 3 none,.sl 80 0 3 none],false,none⟩),(144,some ⟨40,1,[.sl 145 0 3 (some 3),.sl 146 0 3 (some 3)],false,none⟩),(145,some ⟨36,4,[.rat (rq 1 1),.rat (rq 0 1),.rat (rq (-1) 1)],false,none⟩),(146,some ⟨36,4,[.rat (rq 0 1),.rat (rq 1 1),.rat (rq 2 1)],false,none⟩),(147,some ⟨3,1,[.val (.int .i64 0),.val (.int .i64 1)],true,none⟩),(256,some ⟨40,1,[.sl 257 0 3 (some 3)],true,none⟩),(257,some ⟨36,4,[.rat (rq 1 1),.rat (rq (-2) 1),.rat (rq 1 1)],false,none⟩)] 288
def Ais:List AV:=[.rat (rq (-1) 1),.rat (rq (-2) 1),.rat (rq 0 1),.rat (rq 1 1),.rat (rq 2 1),.rat (rq 4 1),.val (.bool false),.val (.int .i64 0),.val (.int .i64 1)]
noncomputable def Abm:Fm:=gD 144 [(0,.val (.bool false)),(1,.sl 96 0 2 (some 2)),(2,.sl 144 0 2 (some 2)),(3,.sl 147 0 2 none),(4,.sl 256 0 1 none),(5,.sl 400 0 2 (some 2)),(7,.val (.bool true))] [(48,some ⟨36,4,[.rat (rq 0 1),.rat (rq 2 1),.rat (rq 4 1)],true,none⟩),(80,some ⟨36,4,[.rat (rq 1 1),.rat (rq 1 1),.rat (rq 1 1)],true,none⟩),(96,some ⟨40,1,[.sl 48 0 3 none,.sl 80 0 3 none],false,none⟩),(144,some ⟨40,1,[.sl 145 0 3 (some 3),.sl 146 0 3 (some 3)],false,none⟩),(145,some ⟨36,4,[.rat (rq 1 1),.rat (rq 0 1),.rat (rq (-1) 1)],false,none⟩),(146,some ⟨36,4,[.rat (rq 0 1),.rat (rq 1 1),.rat (rq 2 1)],false,none⟩),(147,some ⟨3,1,[.val (.int .i64 0),.val (.int .i64 1)],true,none⟩),(256,some ⟨40,1,[.sl 257 0 3 (some 3)],true,none⟩),(257,some ⟨36,4,[.rat (rq 1 1),.rat (rq (-2) 1),.rat (rq 1 1)],false,none⟩),(400,some ⟨36,4,[.rat (rq 2 1),.rat (rq 1 1)],false,none⟩)] 528
def Aiw:List AV:=[.rat (rq (-1) 1),.rat (rq (-2) 1),.rat (rq 0 1),.rat (rq 1 1),.rat (rq 2 1),.rat (rq 4 1),.val (.bool false),.val (.bool true),.val (.int .i64 0),.val (.int .i64 1)]
noncomputable def AaY:Fm:=gD 144 [(0,.val (.bool false)),(1,.sl 96 0 2 (some 2)),(2,.sl 144 0 2 (some 2)),(3,.sl 147 0 2 none),(4,.sl 256 0 1 none),(5,.sl 400 0 2 (some 2)),(7,.val (.bool true)),(9,.sl 640 0 2 (some 2)),(10,.val (.bool false))] [(48,some ⟨36,4,[.rat (rq 0 1),.rat (rq 2 1),.rat (rq 4 1)],true,none⟩),(80,some ⟨36,4,[.rat (rq 1 1),.rat (rq 1 1),.rat (rq 1 1)],true,none⟩),(96,some ⟨40,1,[.sl 48 0 3 none,.sl 80 0 3 none],false,none⟩),(144,some ⟨40,1,[.sl 145 0 3 (some 3),.sl 146 0 3 (some 3)],false,none⟩),(145,some ⟨36,4,[.rat (rq 1 1),.rat (rq 0 1),.rat (rq (-1) 1)],false,none⟩),(146,some ⟨36,4,[.rat (rq 0 1),.rat (rq 1 1),.rat (rq 2 1)],false,none⟩),(147,some ⟨3,1,[.val (.int .i64 0),.val (.int .i64 1)],true,none⟩),(256,some ⟨40,1,[.sl 257 0 3 (some 3)],true,none⟩),(257,some ⟨36,4,[.rat (rq 1 1),.rat (rq (-2) 1),.rat (rq 1 1)],false,none⟩),(400,some ⟨36,4,[.rat (rq 2 1),.rat (rq 1 1)],false,none⟩),(640,some ⟨36,4,[.rat (rq (-2) 1),.rat (rq 1 1)],false,none⟩)] 768
def Ahm:List AV:=[.rat (rq (-1) 1),.rat (rq (-2) 1),.rat (rq 0 1),.rat (rq 1 1),.rat (rq 2 1),.rat (rq 4 1),.val (.bool false),.val (.bool true),.val (.int .i64 0),.val (.int .i64 1)]
noncomputable def Aa4:Fm:=gD 144 [(0,.val (.bool false)),(1,.sl 96 0 2 (some 2)),(2,.sl 144 0 2 (some 2)),(3,.sl 147 0 2 none),(4,.sl 256 0 1 none),(5,.sl 400 0 2 (some 2)),(7,.val (.bool true)),(9,.sl 640 0 2 (some 2)),(10,.val (.bool false)),(11,.ptr 912 0),(12,.val (.int .i64 0))] [(48,some ⟨36,4,[.rat (rq 0 1),.rat (rq 2 1),.rat (rq 4 1)],true,none⟩),(80,some ⟨36,4,[.rat (rq 1 1),.rat (rq 1 1),.rat (rq 1 1)],true,none⟩),(96,some ⟨40,1,[.sl 48 0 3 none,.sl 80 0 3 none],false,none⟩),(144,some ⟨40,1,[.sl 145 0 3 (some 3),.sl 146 0 3 (some 3)],false,none⟩),(145,some ⟨36,4,[.rat (rq 1 1),.rat (rq 0 1),.rat (rq (-1) 1)],false,none⟩),(146,some ⟨36,4,[.rat (rq 0 1),.rat (rq 1 1),.rat (rq 2 1)],false,none⟩),(147,some ⟨3,1,[.val (.int .i64 0),.val (.int .i64 1)],true,none⟩),(256,some ⟨40,1,[.sl 257 0 3 (some 3)],true,none⟩),(257,some ⟨36,4,[.rat (rq 1 1),.rat (rq (-2) 1),.rat (rq 1 1)],false,none⟩),(400,some ⟨36,4,[.rat (rq 2 1),.rat (rq 1 1)],false,none⟩),(640,some ⟨36,4,[.rat (rq (-2) 1),.rat (rq 1 1)],false,none⟩),(912,some ⟨36,1,[.rat (rq (-2) 1)],false,none⟩)] 960
def AhR:List AV:=[.rat (rq (-1) 1),.rat (rq (-2) 1),.rat (rq 0 1),.rat (rq 1 1),.rat (rq 2 1),.rat (rq 4 1),.val (.bool false),.val (.bool true),.val (.int .i64 0),.val (.int .i64 1)]
noncomputable def Aa1:Fm:=gD 144 [(0,.val (.bool false)),(1,.sl 96 0 2 (some 2)),(2,.sl 144 0 2 (some 2)),(3,.sl 147 0 2 none),(4,.sl 256 0 1 none),(5,.sl 400 0 2 (some 2)),(7,.val (.bool true)),(9,.sl 640 0 2 (some 2)),(10,.val (.bool false)),(11,.ptr 912 0),(12,.val (.int .i64 0)),(13,.ptr 1024 0),(14,.val (.int .i64 0))] [(48,some ⟨36,4,[.rat (rq 0 1),.rat (rq 2 1),.rat (rq 4 1)],true,none⟩),(80,some ⟨36,4,[.rat (rq 1 1),.rat (rq 1 1),.rat (rq 1 1)],true,none⟩),(96,some ⟨40,1,[.sl 48 0 3 none,.sl 80 0 3 none],false,none⟩),(144,some ⟨40,1,[.sl 145 0 3 (some 3),.sl 146 0 3 (some 3)],false,none⟩),(145,some ⟨36,4,[.rat (rq 1 1),.rat (rq 0 1),.rat (rq (-1) 1)],false,none⟩),(146,some ⟨36,4,[.rat (rq 0 1),.rat (rq 1 1),.rat (rq 2 1)],false,none⟩),(147,some ⟨3,1,[.val (.int .i64 0),.val (.int .i64 1)],true,none⟩),(256,some ⟨40,1,[.sl 257 0 3 (some 3)],true,none⟩),(257,some ⟨36,4,[.rat (rq 1 1),.rat (rq (-2) 1),.rat (rq 1 1)],false,none⟩),(400,some ⟨36,4,[.rat (rq 2 1),.rat (rq 1 1)],false,none⟩),(640,some ⟨36,4,[.rat (rq (-2) 1),.rat (rq 1 1)],false,none⟩),(912,some ⟨36,1,[.rat (rq (-2) 1)],false,none⟩),(1024,some ⟨36,1,[.rat (rq 1 1)],false,none⟩)] 1072
def Ajh:List AV:=[.rat (rq (-1) 1),.rat (rq (-2) 1),.rat (rq 0 1),.rat (rq 1 1),.rat (rq 2 1),.rat (rq 4 1),.val (.bool false),.val (.bool true),.val (.int .i64 0),.val (.int .i64 1)]
noncomputable def Ab3:Fm:=gD 144 [(0,.val (.bool false)),(1,.sl 96 0 2 (some 2)),(2,.sl 144 0 2 (some 2)),(3,.sl 147 0 2 none),(4,.sl 256 0 1 none),(5,.sl 400 0 2 (some 2)),(7,.val (.bool true)),(9,.sl 640 0 2 (some 2)),(10,.val (.bool false)),(11,.ptr 912 0),(12,.val (.int .i64 0)),(13,.ptr 1024 0),(14,.val (.int .i64 0)),(16,.val (.int .i64 1))] [(48,some ⟨36,4,[.rat (rq 0 1),.rat (rq 2 1),.rat (rq 4 1)],true,none⟩),(80,some ⟨36,4,[.rat (rq 1 1),.rat (rq 1 1),.rat (rq 1 1)],true,none⟩),(96,some ⟨40,1,[.sl 48 0 3 none,.sl 80 0 3 none],false,none⟩),(144,some ⟨40,1,[.sl 145 0 3 (some 3),.sl 146 0 3 (some 3)],false,none⟩),(145,some ⟨36,4,[.rat (rq 1 1),.rat (rq 0 1),.rat (rq (-1) 1)],false,none⟩),(146,some ⟨36,4,[.rat (rq 0 1),.rat (rq 1 1),.rat (rq 2 1)],false,none⟩),(147,some ⟨3,1,[.val (.int .i64 0),.val (.int .i64 1)],true,none⟩),(256,some ⟨40,1,[.sl 257 0 3 (some 3)],true,none⟩),(257,some ⟨36,4,[.rat (rq 1 1),.rat (rq (-2) 1),.rat (rq 1 1)],false,none⟩),(400,some ⟨36,4,[.rat (rq 2 1),.rat (rq 1 1)],false,none⟩),(640,some ⟨36,4,[.rat (rq (-2) 1),.rat (rq 1 1)],false,none⟩),(912,some ⟨36,1,[.rat (rq (-2) 1)],false,none⟩),(1024,some ⟨36,1,[.rat (rq 1 1)],false,none⟩)] 1232
def Ag2:List AV:=[.rat (rq (-1) 1),.rat (rq (-2) 1),.rat (rq 0 1),.rat (rq 1 1),.rat (rq 2 1),.rat (rq 4 1),.val (.bool false),.val (.bool true),.val (.int .i64 0),.val (.int .i64 1)]
noncomputable def kP:Fm:=gD 144 [(0,.val (.bool false)),(5,.sl 400 0 2 (some 2)),(7,.val (.bool true)),(9,.sl 640 0 2 (some 2)),(10,.val (.bool false)),(11,.ptr 912 0),(12,.val (.int .i64 0)),(13,.ptr 1024 0),(14,.val (.int .i64 0)),(16,.val (.int .i64 1)),(17,.val (.bool true))] [(400,some ⟨36,4,[.rat (rq 2 1),.rat (rq 1 1)],false,none⟩),(640,some ⟨36,4,[.rat (rq (-2) 1),.rat (rq 1 1)],false,none⟩),(912,some ⟨36,1,[.rat (rq (-2) 1)],false,none⟩),(1024,some ⟨36,1,[.rat (rq 1 1)],false,none⟩)] 1696
def Agf:List AV:=[.rat (rq (-2) 1),.rat (rq 1 1),.rat (rq 2 1),.val (.bool false),.val (.bool true),.val (.int .i64 0),.val (.int .i64 1)]
variable [Cd]
noncomputable def Aax:Tb:=⟨Gr Acm,.none,N6⟩
noncomputable def Ahc:Fm:=Aeo 144 []
def AhA(l:List AV)(nx:Nat):Rd:=⟨l.map λx=>(x,x),[],[],[],[],nx⟩
def AgZ:AV→Bool
 | .val _ | .rat _ | .num _=>true
 | _=>false
noncomputable def Gx(c:Code)(s:Fm)(l:List AV)(s':Fm):Bool:=match Dd Aax AC 3000 c s with
 | some (.fall s1)=>wkF (AhA l s'.nx) 16 s1 s' && (below 16 s1.H).isEmpty && (below 16 s'.H).isEmpty && l.all AgZ
 | _=>false
theorem Ea{W0:World}{M0:Nat→Prop}{Q:Exit→Act→World→Prop}{c y:Code}{s s':Fm}{l:List AV}(hT:EO Aax)(h:Gx c s l s'=true)(hm0:∀ b,M0 b→b<W0.heap.size){ρ:Bg}{M:Nat→Prop}{a:Act}{w:World}(hF:bA W0 M0 s ρ M a w)(k:∀ ρ M a w,bA W0 M0 s' ρ M a w→y.wp Tryz.prog Q a w):(Code.seq c y).wp Tryz.prog Q a w:=by
 unfold Gx at h;split at h
 ·rename_i s1 hr
  simp only [Bool.and_eq_true,List.isEmpty_iff] at h;obtain ⟨⟨⟨h1,h2⟩,h3⟩,h4⟩:=h;refine wp_seq (jR hT Bq _ hF hr λρ M a w hF=>?_);obtain ⟨ρ',M',hF'⟩:=vG (AhA l s'.nx) ⟨λp hp ρ ρ' M w cs r=>by
   obtain ⟨x,hx,rfl⟩:=List.mem_map.1 hp;have hx:=List.all_eq_true.1 h4 x hx
   cases x <;> first
    | (cases hx; done)
    | (unfold Rp at r ⊢; exact r),λp hp=>(by cases hp),λp hp=>(by cases hp),λp hp=>(by cases hp)⟩ hm0 h1 (by rw [h2,h3]) hF
  exact k ρ' M' a w hF'
 ·cases h
theorem AgH:Gx (cl (B8)) Ahc AiK Acd=true:=by kernel_rfl
theorem Ahv:Gx (cl (cr (B8))) Acd Air Aco=true:=by kernel_rfl
theorem AhE:Gx (cl (cr (cr (B8)))) Aco AiF Abf=true:=by kernel_rfl
theorem Ag1:Gx (cl (cr (cr (cr (B8))))) Abf Ais AaV=true:=by kernel_rfl
theorem Ai8:Gx (cl (cr (cr (cr (cr (B8)))))) AaV Aiw Abm=true:=by kernel_rfl
theorem Ag4:Gx (cl (cr (cr (cr (cr (cr (B8))))))) Abm Ahm AaY=true:=by kernel_rfl
theorem Ag7:Gx (cl (cr (cr (cr (cr (cr (cr (B8)))))))) AaY AhR Aa4=true:=by kernel_rfl
theorem AgM:Gx (cl (cr (cr (cr (cr (cr (cr (cr (B8))))))))) Aa4 Ajh Aa1=true:=by kernel_rfl
theorem Ahu:Gx (cl (cr (cr (cr (cr (cr (cr (cr (cr (B8)))))))))) Aa1 Ag2 Ab3=true:=by kernel_rfl
theorem Ahg:Gx (cl (cr (cr (cr (cr (cr (cr (cr (cr (cr (B8))))))))))) Ab3 Agf kP=true:=by kernel_rfl
noncomputable def AgQ:Bool:=match Dd Aax AC 3000 (cr (cr (cr (cr (cr (cr (cr (cr (cr (cr (B8))))))))))) kP with
 | some (.ret s)=>(match Aez nI s with | some (.val (.bool true))=>true | _=>false)
 | _=>false
theorem AhT:AgQ=true:=by kernel_rfl
theorem Ahw:nI.body=some B8:=by kernel_rfl
theorem AiH:nI.ntmps=144:=by kernel_rfl
theorem Ahq:B8 = .seq (cl (B8)) (cr (B8)):=by kernel_rfl
theorem AhP:cr (B8) = .seq (cl (cr (B8))) (cr (cr (B8))):=by kernel_rfl
theorem AhC:cr (cr (B8)) = .seq (cl (cr (cr (B8)))) (cr (cr (cr (B8)))):=by kernel_rfl
theorem Ahd:cr (cr (cr (B8))) = .seq (cl (cr (cr (cr (B8))))) (cr (cr (cr (cr (B8))))):=by kernel_rfl
theorem Ah3:cr (cr (cr (cr (B8)))) = .seq (cl (cr (cr (cr (cr (B8)))))) (cr (cr (cr (cr (cr (B8)))))):=by kernel_rfl
theorem AiS:cr (cr (cr (cr (cr (B8))))) = .seq (cl (cr (cr (cr (cr (cr (B8))))))) (cr (cr (cr (cr (cr (cr (B8))))))):=by kernel_rfl
theorem Ajo:cr (cr (cr (cr (cr (cr (B8)))))) = .seq (cl (cr (cr (cr (cr (cr (cr (B8)))))))) (cr (cr (cr (cr (cr (cr (cr (B8)))))))):=by kernel_rfl
theorem Aik:cr (cr (cr (cr (cr (cr (cr (B8))))))) = .seq (cl (cr (cr (cr (cr (cr (cr (cr (B8))))))))) (cr (cr (cr (cr (cr (cr (cr (cr (B8))))))))):=by kernel_rfl
theorem Agz:cr (cr (cr (cr (cr (cr (cr (cr (B8)))))))) = .seq (cl (cr (cr (cr (cr (cr (cr (cr (cr (B8)))))))))) (cr (cr (cr (cr (cr (cr (cr (cr (cr (B8)))))))))):=by kernel_rfl
theorem Ajq:cr (cr (cr (cr (cr (cr (cr (cr (cr (B8))))))))) = .seq (cl (cr (cr (cr (cr (cr (cr (cr (cr (cr (B8))))))))))) (cr (cr (cr (cr (cr (cr (cr (cr (cr (cr (B8))))))))))):=by kernel_rfl
theorem Ww(hT:EO Aax)(w:World):Calls Tryz.prog 10 #[] w (Aj (Am (.bool true)) w):=by
 refine Calls.mono (sG (fn:=nI) (c:=B8) (xs:=[]) (xs':=[]) (r:=.val (.bool true)) (ρ:=BQ) (M:=λ_=>False) (w:=w) (vs:=[]) Tryz.func10 Ahw rfl (Nat.zero_le _) (λ_ h=>h.elim) rfl λa hS=>?_) λe w' ⟨v,e1,e2,e3⟩=>⟨v,e1,e2,e3⟩
 rw [AiH] at hS;have hm0:∀ b:Nat,False→b<w.heap.size:=λ_ h=>h.elim
 rw [Ahq];refine Ea hT AgH hm0 hS λρ M a w1 hS=>?_
 rw [AhP];refine Ea hT Ahv hm0 hS λρ M a w1 hS=>?_
 rw [AhC];refine Ea hT AhE hm0 hS λρ M a w1 hS=>?_
 rw [Ahd];refine Ea hT Ag1 hm0 hS λρ M a w1 hS=>?_
 rw [Ah3];refine Ea hT Ai8 hm0 hS λρ M a w1 hS=>?_
 rw [AiS];refine Ea hT Ag4 hm0 hS λρ M a w1 hS=>?_
 rw [Ajo];refine Ea hT Ag7 hm0 hS λρ M a w1 hS=>?_
 rw [Aik];refine Ea hT AgM hm0 hS λρ M a w1 hS=>?_
 rw [Agz];refine Ea hT Ahu hm0 hS λρ M a w1 hS=>?_
 rw [Ajq];refine Ea hT Ahg hm0 hS λρ M a w1 hS=>?_
 have he:=AhT;unfold AgQ at he;split at he
 ·rename_i s hr
  refine jR hT Bq _ hS hr λρ M a w1 hS=>⟨.inr rfl,s,ρ,M,hS,?_⟩
  split at he
  ·rename_i h; exact h
  ·cases he
 ·cases he
end Go.Proofs.YtdopbgnkneeceaaGreat

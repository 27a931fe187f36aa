/- Layer Mc: its sanity, in pieces (written by gen_sanity2.py for this seat). -/
import Derived.Test.YtdopbgnkneeceaaGreatqVv
set_option linter.unusedSectionVars false
set_option linter.unusedVariables false
set_option linter.unusedSimpArgs false
set_option maxRecDepth 100000
namespace Go.Proofs.YtdopbgnkneeceaaGreat
open Go.RowKit
def rq(n:Int)(d:Nat):Rat:=mkRat n d
noncomputable def ZI:Func:=Tryz.f10
noncomputable def BY:=C8 ZI
noncomputable def uW:Fm:=YV 144 [(0,.val (.bool false))] [] 32
def Ab9:List AV:=[.val (.bool false)]
noncomputable def uI:Fm:=YV 144 [(0,.val (.bool false)),(1,.sl 96 0 2 (some 2))] [(48,some ⟨36,4,[.rat (rq 0 1),.rat (rq 2 1),.rat (rq 4 1)],true,none⟩),(80,some ⟨36,4,[.rat (rq 1 1),.rat (rq 1 1),.rat (rq 1 1)],true,none⟩),(96,some ⟨40,1,[.sl 48 0 3 none,.sl 80 0 3 none],false,none⟩)] 128
def Ab7:List AV:=[.rat (rq 0 1),.rat (rq 1 1),.rat (rq 2 1),.rat (rq 4 1),.val (.bool false)]
noncomputable def tH:Fm:=YV 144 [(0,.val (.bool false)),(1,.sl 96 0 2 (some 2)),(2,.sl 144 0 2 (some 2)),(3,.sl 147 0 2 none)] [(48,some ⟨36,4,[.rat (rq 0 1),.rat (rq 2 1),.rat (rq 4 1)],true,none⟩),(80,some ⟨36,4,[.rat (rq 1 1),.rat (rq 1 1),.rat (rq 1 1)],true,none⟩),(96,some ⟨40,1,[.sl 48 0 3 none,.sl 80 0 3 none],false,none⟩),(144,some ⟨40,1,[.sl 145 0 3 (some 3),.sl 146 0 3 (some 3)],false,none⟩),(145,some ⟨36,4,[.rat (rq 1 1),.rat (rq 0 1),.rat (rq (-1) 1)],false,none⟩),(146,some ⟨36,4,[.rat (rq 0 1),.rat (rq 1 1),.rat (rq 2 1)],false,none⟩),(147,some ⟨3,1,[.val (.int .i64 0),.val (.int .i64 1)],true,none⟩)] 240
def AcM:List AV:=[.rat (rq (-1) 1),.rat (rq 0 1),.rat (rq 1 1),.rat (rq 2 1),.rat (rq 4 1),.val (.bool false),.val (.int .i64 0),.val (.int .i64 1)]
noncomputable def tS:Fm:=YV 144 [(0,.val (.bool false)),(1,.sl 96 0 2 (some 2)),(2,.sl 144 0 2 (some 2)),(3,.sl 147 0 2 none),(4,.sl 256 0 1 none)] [(48,some ⟨36,4,[.rat (rq 0 1),.rat (rq 2 1),.rat (rq 4 1)],true,none⟩),(80,some ⟨36,4,[.rat (rq 1 1),.rat (rq 1 1),.rat (rq 1 1)],true,none⟩),(96,some ⟨40,1,[.sl 48 0 3 none,.sl 80 0 3 none],false,none⟩),(144,some ⟨40,1,[.sl 145 0 3 (some 3),.sl 146 0 3 (some 3)],false,none⟩),(145,some ⟨36,4,[.rat (rq 1 1),.rat (rq 0 1),.rat (rq (-1) 1)],false,none⟩),(146,some ⟨36,4,[.rat (rq 0 1),.rat (rq 1 1),.rat (rq 2 1)],false,none⟩),(147,some ⟨3,1,[.val (.int .i64 0),.val (.int .i64 1)],true,none⟩),(256,some ⟨40,1,[.sl 257 0 3 (some 3)],true,none⟩),(257,some ⟨36,4,[.rat (rq 1 1),.rat (rq (-2) 1),.rat (rq 1 1)],false,none⟩)] 288
def AcB:List AV:=[.rat (rq (-1) 1),.rat (rq (-2) 1),.rat (rq 0 1),.rat (rq 1 1),.rat (rq 2 1),.rat (rq 4 1),.val (.bool false),.val (.int .i64 0),.val (.int .i64 1)]
noncomputable def tG:Fm:=YV 144 [(0,.val (.bool false)),(1,.sl 96 0 2 (some 2)),(2,.sl 144 0 2 (some 2)),(3,.sl 147 0 2 none),(4,.sl 256 0 1 none),(5,.sl 400 0 2 (some 2)),(7,.val (.bool true))] [(48,some ⟨36,4,[.rat (rq 0 1),.rat (rq 2 1),.rat (rq 4 1)],true,none⟩),(80,some ⟨36,4,[.rat (rq 1 1),.rat (rq 1 1),.rat (rq 1 1)],true,none⟩),(96,some ⟨40,1,[.sl 48 0 3 none,.sl 80 0 3 none],false,none⟩),(144,some ⟨40,1,[.sl 145 0 3 (some 3),.sl 146 0 3 (some 3)],false,none⟩),(145,some ⟨36,4,[.rat (rq 1 1),.rat (rq 0 1),.rat (rq (-1) 1)],false,none⟩),(146,some ⟨36,4,[.rat (rq 0 1),.rat (rq 1 1),.rat (rq 2 1)],false,none⟩),(147,some ⟨3,1,[.val (.int .i64 0),.val (.int .i64 1)],true,none⟩),(256,some ⟨40,1,[.sl 257 0 3 (some 3)],true,none⟩),(257,some ⟨36,4,[.rat (rq 1 1),.rat (rq (-2) 1),.rat (rq 1 1)],false,none⟩),(400,some ⟨36,4,[.rat (rq 2 1),.rat (rq 1 1)],false,none⟩)] 528
def AdX:List AV:=[.rat (rq (-1) 1),.rat (rq (-2) 1),.rat (rq 0 1),.rat (rq 1 1),.rat (rq 2 1),.rat (rq 4 1),.val (.bool false),.val (.bool true),.val (.int .i64 0),.val (.int .i64 1)]
noncomputable def uA:Fm:=YV 144 [(0,.val (.bool false)),(1,.sl 96 0 2 (some 2)),(2,.sl 144 0 2 (some 2)),(3,.sl 147 0 2 none),(4,.sl 256 0 1 none),(5,.sl 400 0 2 (some 2)),(7,.val (.bool true)),(9,.sl 640 0 2 (some 2)),(10,.val (.bool false))] [(48,some ⟨36,4,[.rat (rq 0 1),.rat (rq 2 1),.rat (rq 4 1)],true,none⟩),(80,some ⟨36,4,[.rat (rq 1 1),.rat (rq 1 1),.rat (rq 1 1)],true,none⟩),(96,some ⟨40,1,[.sl 48 0 3 none,.sl 80 0 3 none],false,none⟩),(144,some ⟨40,1,[.sl 145 0 3 (some 3),.sl 146 0 3 (some 3)],false,none⟩),(145,some ⟨36,4,[.rat (rq 1 1),.rat (rq 0 1),.rat (rq (-1) 1)],false,none⟩),(146,some ⟨36,4,[.rat (rq 0 1),.rat (rq 1 1),.rat (rq 2 1)],false,none⟩),(147,some ⟨3,1,[.val (.int .i64 0),.val (.int .i64 1)],true,none⟩),(256,some ⟨40,1,[.sl 257 0 3 (some 3)],true,none⟩),(257,some ⟨36,4,[.rat (rq 1 1),.rat (rq (-2) 1),.rat (rq 1 1)],false,none⟩),(400,some ⟨36,4,[.rat (rq 2 1),.rat (rq 1 1)],false,none⟩),(640,some ⟨36,4,[.rat (rq (-2) 1),.rat (rq 1 1)],false,none⟩)] 768
def Adb:List AV:=[.rat (rq (-1) 1),.rat (rq (-2) 1),.rat (rq 0 1),.rat (rq 1 1),.rat (rq 2 1),.rat (rq 4 1),.val (.bool false),.val (.bool true),.val (.int .i64 0),.val (.int .i64 1)]
noncomputable def sP:Fm:=YV 144 [(0,.val (.bool false)),(1,.sl 96 0 2 (some 2)),(2,.sl 144 0 2 (some 2)),(3,.sl 147 0 2 none),(4,.sl 256 0 1 none),(5,.sl 400 0 2 (some 2)),(7,.val (.bool true)),(9,.sl 640 0 2 (some 2)),(10,.val (.bool false)),(11,.ptr 912 0),(12,.val (.int .i64 0))] [(48,some ⟨36,4,[.rat (rq 0 1),.rat (rq 2 1),.rat (rq 4 1)],true,none⟩),(80,some ⟨36,4,[.rat (rq 1 1),.rat (rq 1 1),.rat (rq 1 1)],true,none⟩),(96,some ⟨40,1,[.sl 48 0 3 none,.sl 80 0 3 none],false,none⟩),(144,some ⟨40,1,[.sl 145 0 3 (some 3),.sl 146 0 3 (some 3)],false,none⟩),(145,some ⟨36,4,[.rat (rq 1 1),.rat (rq 0 1),.rat (rq (-1) 1)],false,none⟩),(146,some ⟨36,4,[.rat (rq 0 1),.rat (rq 1 1),.rat (rq 2 1)],false,none⟩),(147,some ⟨3,1,[.val (.int .i64 0),.val (.int .i64 1)],true,none⟩),(256,some ⟨40,1,[.sl 257 0 3 (some 3)],true,none⟩),(257,some ⟨36,4,[.rat (rq 1 1),.rat (rq (-2) 1),.rat (rq 1 1)],false,none⟩),(400,some ⟨36,4,[.rat (rq 2 1),.rat (rq 1 1)],false,none⟩),(640,some ⟨36,4,[.rat (rq (-2) 1),.rat (rq 1 1)],false,none⟩),(912,some ⟨36,1,[.rat (rq (-2) 1)],false,none⟩)] 960
def AbJ:List AV:=[.rat (rq (-1) 1),.rat (rq (-2) 1),.rat (rq 0 1),.rat (rq 1 1),.rat (rq 2 1),.rat (rq 4 1),.val (.bool false),.val (.bool true),.val (.int .i64 0),.val (.int .i64 1)]
noncomputable def uF:Fm:=YV 144 [(0,.val (.bool false)),(1,.sl 96 0 2 (some 2)),(2,.sl 144 0 2 (some 2)),(3,.sl 147 0 2 none),(4,.sl 256 0 1 none),(5,.sl 400 0 2 (some 2)),(7,.val (.bool true)),(9,.sl 640 0 2 (some 2)),(10,.val (.bool false)),(11,.ptr 912 0),(12,.val (.int .i64 0)),(13,.ptr 1024 0),(14,.val (.int .i64 0))] [(48,some ⟨36,4,[.rat (rq 0 1),.rat (rq 2 1),.rat (rq 4 1)],true,none⟩),(80,some ⟨36,4,[.rat (rq 1 1),.rat (rq 1 1),.rat (rq 1 1)],true,none⟩),(96,some ⟨40,1,[.sl 48 0 3 none,.sl 80 0 3 none],false,none⟩),(144,some ⟨40,1,[.sl 145 0 3 (some 3),.sl 146 0 3 (some 3)],false,none⟩),(145,some ⟨36,4,[.rat (rq 1 1),.rat (rq 0 1),.rat (rq (-1) 1)],false,none⟩),(146,some ⟨36,4,[.rat (rq 0 1),.rat (rq 1 1),.rat (rq 2 1)],false,none⟩),(147,some ⟨3,1,[.val (.int .i64 0),.val (.int .i64 1)],true,none⟩),(256,some ⟨40,1,[.sl 257 0 3 (some 3)],true,none⟩),(257,some ⟨36,4,[.rat (rq 1 1),.rat (rq (-2) 1),.rat (rq 1 1)],false,none⟩),(400,some ⟨36,4,[.rat (rq 2 1),.rat (rq 1 1)],false,none⟩),(640,some ⟨36,4,[.rat (rq (-2) 1),.rat (rq 1 1)],false,none⟩),(912,some ⟨36,1,[.rat (rq (-2) 1)],false,none⟩),(1024,some ⟨36,1,[.rat (rq 1 1)],false,none⟩)] 1072
def Acp:List AV:=[.rat (rq (-1) 1),.rat (rq (-2) 1),.rat (rq 0 1),.rat (rq 1 1),.rat (rq 2 1),.rat (rq 4 1),.val (.bool false),.val (.bool true),.val (.int .i64 0),.val (.int .i64 1)]
noncomputable def rR:Fm:=YV 144 [(0,.val (.bool false)),(1,.sl 96 0 2 (some 2)),(2,.sl 144 0 2 (some 2)),(3,.sl 147 0 2 none),(4,.sl 256 0 1 none),(5,.sl 400 0 2 (some 2)),(7,.val (.bool true)),(9,.sl 640 0 2 (some 2)),(10,.val (.bool false)),(11,.ptr 912 0),(12,.val (.int .i64 0)),(13,.ptr 1024 0),(14,.val (.int .i64 0)),(16,.val (.int .i64 1))] [(48,some ⟨36,4,[.rat (rq 0 1),.rat (rq 2 1),.rat (rq 4 1)],true,none⟩),(80,some ⟨36,4,[.rat (rq 1 1),.rat (rq 1 1),.rat (rq 1 1)],true,none⟩),(96,some ⟨40,1,[.sl 48 0 3 none,.sl 80 0 3 none],false,none⟩),(144,some ⟨40,1,[.sl 145 0 3 (some 3),.sl 146 0 3 (some 3)],false,none⟩),(145,some ⟨36,4,[.rat (rq 1 1),.rat (rq 0 1),.rat (rq (-1) 1)],false,none⟩),(146,some ⟨36,4,[.rat (rq 0 1),.rat (rq 1 1),.rat (rq 2 1)],false,none⟩),(147,some ⟨3,1,[.val (.int .i64 0),.val (.int .i64 1)],true,none⟩),(256,some ⟨40,1,[.sl 257 0 3 (some 3)],true,none⟩),(257,some ⟨36,4,[.rat (rq 1 1),.rat (rq (-2) 1),.rat (rq 1 1)],false,none⟩),(400,some ⟨36,4,[.rat (rq 2 1),.rat (rq 1 1)],false,none⟩),(640,some ⟨36,4,[.rat (rq (-2) 1),.rat (rq 1 1)],false,none⟩),(912,some ⟨36,1,[.rat (rq (-2) 1)],false,none⟩),(1024,some ⟨36,1,[.rat (rq 1 1)],false,none⟩)] 1232
def Ad6:List AV:=[.rat (rq (-1) 1),.rat (rq (-2) 1),.rat (rq 0 1),.rat (rq 1 1),.rat (rq 2 1),.rat (rq 4 1),.val (.bool false),.val (.bool true),.val (.int .i64 0),.val (.int .i64 1)]
noncomputable def eN:Fm:=YV 144 [(0,.val (.bool false)),(5,.sl 400 0 2 (some 2)),(7,.val (.bool true)),(9,.sl 640 0 2 (some 2)),(10,.val (.bool false)),(11,.ptr 912 0),(12,.val (.int .i64 0)),(13,.ptr 1024 0),(14,.val (.int .i64 0)),(16,.val (.int .i64 1)),(17,.val (.bool true))] [(400,some ⟨36,4,[.rat (rq 2 1),.rat (rq 1 1)],false,none⟩),(640,some ⟨36,4,[.rat (rq (-2) 1),.rat (rq 1 1)],false,none⟩),(912,some ⟨36,1,[.rat (rq (-2) 1)],false,none⟩),(1024,some ⟨36,1,[.rat (rq 1 1)],false,none⟩)] 1696
def xK:List AV:=[.rat (rq (-2) 1),.rat (rq 1 1),.rat (rq 2 1),.val (.bool false),.val (.bool true),.val (.int .i64 0),.val (.int .i64 1)]
variable [B5]
noncomputable def nW:Tb:=⟨Gf rX,.none,Qk⟩
noncomputable def Ab4:Fm:=TH 144 []
def Ad2(l:List AV)(nx:Nat):Rd:=⟨l.map λx=>(x,x),[],[],[],[],nx⟩
def Ab8:AV→Bool
 | .val _ | .rat _ | .num _=>true
 | _=>false
noncomputable def FZ(c:Code)(s:Fm)(l:List AV)(s':Fm):Bool:=match EA nW AO 3000 c s with
 | some (.fall s1)=>wkF (Ad2 l s'.nx) 16 s1 s' && (below 16 s1.H).isEmpty && (below 16 s'.H).isEmpty && l.all Ab8
 | _=>false
theorem DK{W0:World}{M0:Nat→Prop}{Q:Exit→Act→World→Prop}{c y:Code}{s s':Fm}{l:List AV}(hT:Fj nW)(h:FZ c s l s'=true)(hm0:∀ b,M0 b→b<W0.heap.size){ρ:Bg}{M:Nat→Prop}{a:Act}{w:World}(hF:Uz W0 M0 s ρ M a w)(k:∀ ρ M a w,Uz W0 M0 s' ρ M a w→y.wp Tryz.prog Q a w):(Code.seq c y).wp Tryz.prog Q a w:=by
 unfold FZ at h;split at h
 ·rename_i s1 hr
  simp only [Bool.and_eq_true,List.isEmpty_iff] at h;obtain ⟨⟨⟨h1,h2⟩,h3⟩,h4⟩:=h;refine wp_seq (jU hT Bv _ hF hr λρ M a w hF=>?_);obtain ⟨ρ',M',hF'⟩:=nB (Ad2 l s'.nx) ⟨λp hp ρ ρ' M w cs r=>by
   obtain ⟨x,hx,rfl⟩:=List.mem_map.1 hp;have hx:=List.all_eq_true.1 h4 x hx
   cases x <;> first
    | (cases hx; done)
    | (unfold Rp at r ⊢; exact r),λp hp=>(by cases hp),λp hp=>(by cases hp),λp hp=>(by cases hp)⟩ hm0 h1 (by rw [h2,h3]) hF
  exact k ρ' M' a w hF'
 ·cases h
theorem Acr:FZ (cl (BY)) Ab4 Ab9 uW=true:=by kernel_rfl
theorem Aca:FZ (cl (cr (BY))) uW Ab7 uI=true:=by kernel_rfl
theorem AcD:FZ (cl (cr (cr (BY)))) uI AcM tH=true:=by kernel_rfl
theorem Ad4:FZ (cl (cr (cr (cr (BY))))) tH AcB tS=true:=by kernel_rfl
theorem AcK:FZ (cl (cr (cr (cr (cr (BY)))))) tS AdX tG=true:=by kernel_rfl
theorem AdF:FZ (cl (cr (cr (cr (cr (cr (BY))))))) tG Adb uA=true:=by kernel_rfl
theorem AbZ:FZ (cl (cr (cr (cr (cr (cr (cr (BY)))))))) uA AbJ sP=true:=by kernel_rfl
theorem Adk:FZ (cl (cr (cr (cr (cr (cr (cr (cr (BY))))))))) sP Acp uF=true:=by kernel_rfl
theorem AbR:FZ (cl (cr (cr (cr (cr (cr (cr (cr (cr (BY)))))))))) uF Ad6 rR=true:=by kernel_rfl
theorem Adz:FZ (cl (cr (cr (cr (cr (cr (cr (cr (cr (cr (BY))))))))))) rR xK eN=true:=by kernel_rfl
noncomputable def AdT:Bool:=match EA nW AO 3000 (cr (cr (cr (cr (cr (cr (cr (cr (cr (cr (BY))))))))))) eN with
 | some (.ret s)=>(match XK ZI s with | some (.val (.bool true))=>true | _=>false)
 | _=>false
theorem Adq:AdT=true:=by kernel_rfl
theorem AcX:ZI.body=some BY:=by kernel_rfl
theorem Adp:ZI.ntmps=144:=by kernel_rfl
theorem AdC:BY = .seq (cl (BY)) (cr (BY)):=by kernel_rfl
theorem Ad8:cr (BY) = .seq (cl (cr (BY))) (cr (cr (BY))):=by kernel_rfl
theorem Abx:cr (cr (BY)) = .seq (cl (cr (cr (BY)))) (cr (cr (cr (BY)))):=by kernel_rfl
theorem Ac5:cr (cr (cr (BY))) = .seq (cl (cr (cr (cr (BY))))) (cr (cr (cr (cr (BY))))):=by kernel_rfl
theorem AcQ:cr (cr (cr (cr (BY)))) = .seq (cl (cr (cr (cr (cr (BY)))))) (cr (cr (cr (cr (cr (BY)))))):=by kernel_rfl
theorem Add:cr (cr (cr (cr (cr (BY))))) = .seq (cl (cr (cr (cr (cr (cr (BY))))))) (cr (cr (cr (cr (cr (cr (BY))))))):=by kernel_rfl
theorem Aci:cr (cr (cr (cr (cr (cr (BY)))))) = .seq (cl (cr (cr (cr (cr (cr (cr (BY)))))))) (cr (cr (cr (cr (cr (cr (cr (BY)))))))):=by kernel_rfl
theorem Ado:cr (cr (cr (cr (cr (cr (cr (BY))))))) = .seq (cl (cr (cr (cr (cr (cr (cr (cr (BY))))))))) (cr (cr (cr (cr (cr (cr (cr (cr (BY))))))))):=by kernel_rfl
theorem Adt:cr (cr (cr (cr (cr (cr (cr (cr (BY)))))))) = .seq (cl (cr (cr (cr (cr (cr (cr (cr (cr (BY)))))))))) (cr (cr (cr (cr (cr (cr (cr (cr (cr (BY)))))))))):=by kernel_rfl
theorem AdW:cr (cr (cr (cr (cr (cr (cr (cr (cr (BY))))))))) = .seq (cl (cr (cr (cr (cr (cr (cr (cr (cr (cr (BY))))))))))) (cr (cr (cr (cr (cr (cr (cr (cr (cr (cr (BY))))))))))):=by kernel_rfl
theorem TI(hT:Fj nW)(w:World):Calls Tryz.prog 10 #[] w (Aj (Am (.bool true)) w):=by
 refine Calls.mono (Q7 (fn:=ZI) (c:=BY) (xs:=[]) (xs':=[]) (r:=.val (.bool true)) (ρ:=B4) (M:=λ_=>False) (w:=w) (vs:=[]) Tryz.func10 AcX rfl (Nat.zero_le _) (λ_ h=>h.elim) rfl λa hS=>?_) λe w' ⟨v,e1,e2,e3⟩=>⟨v,e1,e2,e3⟩
 rw [Adp] at hS;have hm0:∀ b:Nat,False→b<w.heap.size:=λ_ h=>h.elim
 rw [AdC];refine DK hT Acr hm0 hS λρ M a w1 hS=>?_
 rw [Ad8];refine DK hT Aca hm0 hS λρ M a w1 hS=>?_
 rw [Abx];refine DK hT AcD hm0 hS λρ M a w1 hS=>?_
 rw [Ac5];refine DK hT Ad4 hm0 hS λρ M a w1 hS=>?_
 rw [AcQ];refine DK hT AcK hm0 hS λρ M a w1 hS=>?_
 rw [Add];refine DK hT AdF hm0 hS λρ M a w1 hS=>?_
 rw [Aci];refine DK hT AbZ hm0 hS λρ M a w1 hS=>?_
 rw [Ado];refine DK hT Adk hm0 hS λρ M a w1 hS=>?_
 rw [Adt];refine DK hT AbR hm0 hS λρ M a w1 hS=>?_
 rw [AdW];refine DK hT Adz hm0 hS λρ M a w1 hS=>?_
 have he:=Adq;unfold AdT at he;split at he
 ·rename_i s hr
  refine jU hT Bv _ hS hr λρ M a w1 hS=>⟨.inr rfl,s,ρ,M,hS,?_⟩
  split at he
  ·rename_i h; exact h
  ·cases he
 ·cases he
end Go.Proofs.YtdopbgnkneeceaaGreat

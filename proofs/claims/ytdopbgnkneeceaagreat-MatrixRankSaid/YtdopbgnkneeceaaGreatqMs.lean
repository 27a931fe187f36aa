/- Layer Mc: its sanity, in pieces (written by gen_sanity2.py for this seat). -/
import Derived.Test.YtdopbgnkneeceaaGreatqVv
set_option linter.unusedSectionVars false
set_option linter.unusedVariables false
set_option linter.unusedSimpArgs false
set_option maxRecDepth 100000
namespace Go.Proofs.YtdopbgnkneeceaaGreat
open Go.RowKit
def rq(n:Int)(d:Nat):Rat:=mkRat n d
noncomputable def bV:Func:=Tryz.f10
noncomputable def BZ:=C9 bV
noncomputable def sF:Fm:=YX 144 [(0,.val (.bool false))] [] 32
def Ac9:List AV:=[.val (.bool false)]
noncomputable def uK:Fm:=YX 144 [(0,.val (.bool false)),(1,.sl 96 0 2 (some 2))] [(48,some ⟨36,4,[.rat (rq 0 1),.rat (rq 2 1),.rat (rq 4 1)],true,none⟩),(80,some ⟨36,4,[.rat (rq 1 1),.rat (rq 1 1),.rat (rq 1 1)],true,none⟩),(96,some ⟨40,1,[.sl 48 0 3 none,.sl 80 0 3 none],false,none⟩)] 128
def AbQ:List AV:=[.rat (rq 0 1),.rat (rq 1 1),.rat (rq 2 1),.rat (rq 4 1),.val (.bool false)]
noncomputable def uW:Fm:=YX 144 [(0,.val (.bool false)),(1,.sl 96 0 2 (some 2)),(2,.sl 144 0 2 (some 2)),(3,.sl 147 0 2 none)] [(48,some ⟨36,4,[.rat (rq 0 1),.rat (rq 2 1),.rat (rq 4 1)],true,none⟩),(80,some ⟨36,4,[.rat (rq 1 1),.rat (rq 1 1),.rat (rq 1 1)],true,none⟩),(96,some ⟨40,1,[.sl 48 0 3 none,.sl 80 0 3 none],false,none⟩),(144,some ⟨40,1,[.sl 145 0 3 (some 3),.sl 146 0 3 (some 3)],false,none⟩),(145,some ⟨36,4,[.rat (rq 1 1),.rat (rq 0 1),.rat (rq (-1) 1)],false,none⟩),(146,some ⟨36,4,[.rat (rq 0 1),.rat (rq 1 1),.rat (rq 2 1)],false,none⟩),(147,some ⟨3,1,[.val (.int .i64 0),.val (.int .i64 1)],true,none⟩)] 240
def AbN:List AV:=[.rat (rq (-1) 1),.rat (rq 0 1),.rat (rq 1 1),.rat (rq 2 1),.rat (rq 4 1),.val (.bool false),.val (.int .i64 0),.val (.int .i64 1)]
noncomputable def uI:Fm:=YX 144 [(0,.val (.bool false)),(1,.sl 96 0 2 (some 2)),(2,.sl 144 0 2 (some 2)),(3,.sl 147 0 2 none),(4,.sl 256 0 1 none)] [(48,some ⟨36,4,[.rat (rq 0 1),.rat (rq 2 1),.rat (rq 4 1)],true,none⟩),(80,some ⟨36,4,[.rat (rq 1 1),.rat (rq 1 1),.rat (rq 1 1)],true,none⟩),(96,some ⟨40,1,[.sl 48 0 3 none,.sl 80 0 3 none],false,none⟩),(144,some ⟨40,1,[.sl 145 0 3 (some 3),.sl 146 0 3 (some 3)],false,none⟩),(145,some ⟨36,4,[.rat (rq 1 1),.rat (rq 0 1),.rat (rq (-1) 1)],false,none⟩),(146,some ⟨36,4,[.rat (rq 0 1),.rat (rq 1 1),.rat (rq 2 1)],false,none⟩),(147,some ⟨3,1,[.val (.int .i64 0),.val (.int .i64 1)],true,none⟩),(256,some ⟨40,1,[.sl 257 0 3 (some 3)],true,none⟩),(257,some ⟨36,4,[.rat (rq 1 1),.rat (rq (-2) 1),.rat (rq 1 1)],false,none⟩)] 288
def AcD:List AV:=[.rat (rq (-1) 1),.rat (rq (-2) 1),.rat (rq 0 1),.rat (rq 1 1),.rat (rq 2 1),.rat (rq 4 1),.val (.bool false),.val (.int .i64 0),.val (.int .i64 1)]
noncomputable def sJ:Fm:=YX 144 [(0,.val (.bool false)),(1,.sl 96 0 2 (some 2)),(2,.sl 144 0 2 (some 2)),(3,.sl 147 0 2 none),(4,.sl 256 0 1 none),(5,.sl 400 0 2 (some 2)),(7,.val (.bool true))] [(48,some ⟨36,4,[.rat (rq 0 1),.rat (rq 2 1),.rat (rq 4 1)],true,none⟩),(80,some ⟨36,4,[.rat (rq 1 1),.rat (rq 1 1),.rat (rq 1 1)],true,none⟩),(96,some ⟨40,1,[.sl 48 0 3 none,.sl 80 0 3 none],false,none⟩),(144,some ⟨40,1,[.sl 145 0 3 (some 3),.sl 146 0 3 (some 3)],false,none⟩),(145,some ⟨36,4,[.rat (rq 1 1),.rat (rq 0 1),.rat (rq (-1) 1)],false,none⟩),(146,some ⟨36,4,[.rat (rq 0 1),.rat (rq 1 1),.rat (rq 2 1)],false,none⟩),(147,some ⟨3,1,[.val (.int .i64 0),.val (.int .i64 1)],true,none⟩),(256,some ⟨40,1,[.sl 257 0 3 (some 3)],true,none⟩),(257,some ⟨36,4,[.rat (rq 1 1),.rat (rq (-2) 1),.rat (rq 1 1)],false,none⟩),(400,some ⟨36,4,[.rat (rq 2 1),.rat (rq 1 1)],false,none⟩)] 528
def AbT:List AV:=[.rat (rq (-1) 1),.rat (rq (-2) 1),.rat (rq 0 1),.rat (rq 1 1),.rat (rq 2 1),.rat (rq 4 1),.val (.bool false),.val (.bool true),.val (.int .i64 0),.val (.int .i64 1)]
noncomputable def sQ:Fm:=YX 144 [(0,.val (.bool false)),(1,.sl 96 0 2 (some 2)),(2,.sl 144 0 2 (some 2)),(3,.sl 147 0 2 none),(4,.sl 256 0 1 none),(5,.sl 400 0 2 (some 2)),(7,.val (.bool true)),(9,.sl 640 0 2 (some 2)),(10,.val (.bool false))] [(48,some ⟨36,4,[.rat (rq 0 1),.rat (rq 2 1),.rat (rq 4 1)],true,none⟩),(80,some ⟨36,4,[.rat (rq 1 1),.rat (rq 1 1),.rat (rq 1 1)],true,none⟩),(96,some ⟨40,1,[.sl 48 0 3 none,.sl 80 0 3 none],false,none⟩),(144,some ⟨40,1,[.sl 145 0 3 (some 3),.sl 146 0 3 (some 3)],false,none⟩),(145,some ⟨36,4,[.rat (rq 1 1),.rat (rq 0 1),.rat (rq (-1) 1)],false,none⟩),(146,some ⟨36,4,[.rat (rq 0 1),.rat (rq 1 1),.rat (rq 2 1)],false,none⟩),(147,some ⟨3,1,[.val (.int .i64 0),.val (.int .i64 1)],true,none⟩),(256,some ⟨40,1,[.sl 257 0 3 (some 3)],true,none⟩),(257,some ⟨36,4,[.rat (rq 1 1),.rat (rq (-2) 1),.rat (rq 1 1)],false,none⟩),(400,some ⟨36,4,[.rat (rq 2 1),.rat (rq 1 1)],false,none⟩),(640,some ⟨36,4,[.rat (rq (-2) 1),.rat (rq 1 1)],false,none⟩)] 768
def Ac1:List AV:=[.rat (rq (-1) 1),.rat (rq (-2) 1),.rat (rq 0 1),.rat (rq 1 1),.rat (rq 2 1),.rat (rq 4 1),.val (.bool false),.val (.bool true),.val (.int .i64 0),.val (.int .i64 1)]
noncomputable def sZ:Fm:=YX 144 [(0,.val (.bool false)),(1,.sl 96 0 2 (some 2)),(2,.sl 144 0 2 (some 2)),(3,.sl 147 0 2 none),(4,.sl 256 0 1 none),(5,.sl 400 0 2 (some 2)),(7,.val (.bool true)),(9,.sl 640 0 2 (some 2)),(10,.val (.bool false)),(11,.ptr 912 0),(12,.val (.int .i64 0))] [(48,some ⟨36,4,[.rat (rq 0 1),.rat (rq 2 1),.rat (rq 4 1)],true,none⟩),(80,some ⟨36,4,[.rat (rq 1 1),.rat (rq 1 1),.rat (rq 1 1)],true,none⟩),(96,some ⟨40,1,[.sl 48 0 3 none,.sl 80 0 3 none],false,none⟩),(144,some ⟨40,1,[.sl 145 0 3 (some 3),.sl 146 0 3 (some 3)],false,none⟩),(145,some ⟨36,4,[.rat (rq 1 1),.rat (rq 0 1),.rat (rq (-1) 1)],false,none⟩),(146,some ⟨36,4,[.rat (rq 0 1),.rat (rq 1 1),.rat (rq 2 1)],false,none⟩),(147,some ⟨3,1,[.val (.int .i64 0),.val (.int .i64 1)],true,none⟩),(256,some ⟨40,1,[.sl 257 0 3 (some 3)],true,none⟩),(257,some ⟨36,4,[.rat (rq 1 1),.rat (rq (-2) 1),.rat (rq 1 1)],false,none⟩),(400,some ⟨36,4,[.rat (rq 2 1),.rat (rq 1 1)],false,none⟩),(640,some ⟨36,4,[.rat (rq (-2) 1),.rat (rq 1 1)],false,none⟩),(912,some ⟨36,1,[.rat (rq (-2) 1)],false,none⟩)] 960
def Aco:List AV:=[.rat (rq (-1) 1),.rat (rq (-2) 1),.rat (rq 0 1),.rat (rq 1 1),.rat (rq 2 1),.rat (rq 4 1),.val (.bool false),.val (.bool true),.val (.int .i64 0),.val (.int .i64 1)]
noncomputable def rM:Fm:=YX 144 [(0,.val (.bool false)),(1,.sl 96 0 2 (some 2)),(2,.sl 144 0 2 (some 2)),(3,.sl 147 0 2 none),(4,.sl 256 0 1 none),(5,.sl 400 0 2 (some 2)),(7,.val (.bool true)),(9,.sl 640 0 2 (some 2)),(10,.val (.bool false)),(11,.ptr 912 0),(12,.val (.int .i64 0)),(13,.ptr 1024 0),(14,.val (.int .i64 0))] [(48,some ⟨36,4,[.rat (rq 0 1),.rat (rq 2 1),.rat (rq 4 1)],true,none⟩),(80,some ⟨36,4,[.rat (rq 1 1),.rat (rq 1 1),.rat (rq 1 1)],true,none⟩),(96,some ⟨40,1,[.sl 48 0 3 none,.sl 80 0 3 none],false,none⟩),(144,some ⟨40,1,[.sl 145 0 3 (some 3),.sl 146 0 3 (some 3)],false,none⟩),(145,some ⟨36,4,[.rat (rq 1 1),.rat (rq 0 1),.rat (rq (-1) 1)],false,none⟩),(146,some ⟨36,4,[.rat (rq 0 1),.rat (rq 1 1),.rat (rq 2 1)],false,none⟩),(147,some ⟨3,1,[.val (.int .i64 0),.val (.int .i64 1)],true,none⟩),(256,some ⟨40,1,[.sl 257 0 3 (some 3)],true,none⟩),(257,some ⟨36,4,[.rat (rq 1 1),.rat (rq (-2) 1),.rat (rq 1 1)],false,none⟩),(400,some ⟨36,4,[.rat (rq 2 1),.rat (rq 1 1)],false,none⟩),(640,some ⟨36,4,[.rat (rq (-2) 1),.rat (rq 1 1)],false,none⟩),(912,some ⟨36,1,[.rat (rq (-2) 1)],false,none⟩),(1024,some ⟨36,1,[.rat (rq 1 1)],false,none⟩)] 1072
def Adf:List AV:=[.rat (rq (-1) 1),.rat (rq (-2) 1),.rat (rq 0 1),.rat (rq 1 1),.rat (rq 2 1),.rat (rq 4 1),.val (.bool false),.val (.bool true),.val (.int .i64 0),.val (.int .i64 1)]
noncomputable def tN:Fm:=YX 144 [(0,.val (.bool false)),(1,.sl 96 0 2 (some 2)),(2,.sl 144 0 2 (some 2)),(3,.sl 147 0 2 none),(4,.sl 256 0 1 none),(5,.sl 400 0 2 (some 2)),(7,.val (.bool true)),(9,.sl 640 0 2 (some 2)),(10,.val (.bool false)),(11,.ptr 912 0),(12,.val (.int .i64 0)),(13,.ptr 1024 0),(14,.val (.int .i64 0)),(16,.val (.int .i64 1))] [(48,some ⟨36,4,[.rat (rq 0 1),.rat (rq 2 1),.rat (rq 4 1)],true,none⟩),(80,some ⟨36,4,[.rat (rq 1 1),.rat (rq 1 1),.rat (rq 1 1)],true,none⟩),(96,some ⟨40,1,[.sl 48 0 3 none,.sl 80 0 3 none],false,none⟩),(144,some ⟨40,1,[.sl 145 0 3 (some 3),.sl 146 0 3 (some 3)],false,none⟩),(145,some ⟨36,4,[.rat (rq 1 1),.rat (rq 0 1),.rat (rq (-1) 1)],false,none⟩),(146,some ⟨36,4,[.rat (rq 0 1),.rat (rq 1 1),.rat (rq 2 1)],false,none⟩),(147,some ⟨3,1,[.val (.int .i64 0),.val (.int .i64 1)],true,none⟩),(256,some ⟨40,1,[.sl 257 0 3 (some 3)],true,none⟩),(257,some ⟨36,4,[.rat (rq 1 1),.rat (rq (-2) 1),.rat (rq 1 1)],false,none⟩),(400,some ⟨36,4,[.rat (rq 2 1),.rat (rq 1 1)],false,none⟩),(640,some ⟨36,4,[.rat (rq (-2) 1),.rat (rq 1 1)],false,none⟩),(912,some ⟨36,1,[.rat (rq (-2) 1)],false,none⟩),(1024,some ⟨36,1,[.rat (rq 1 1)],false,none⟩)] 1232
def AcJ:List AV:=[.rat (rq (-1) 1),.rat (rq (-2) 1),.rat (rq 0 1),.rat (rq 1 1),.rat (rq 2 1),.rat (rq 4 1),.val (.bool false),.val (.bool true),.val (.int .i64 0),.val (.int .i64 1)]
noncomputable def cE:Fm:=YX 144 [(0,.val (.bool false)),(5,.sl 400 0 2 (some 2)),(7,.val (.bool true)),(9,.sl 640 0 2 (some 2)),(10,.val (.bool false)),(11,.ptr 912 0),(12,.val (.int .i64 0)),(13,.ptr 1024 0),(14,.val (.int .i64 0)),(16,.val (.int .i64 1)),(17,.val (.bool true))] [(400,some ⟨36,4,[.rat (rq 2 1),.rat (rq 1 1)],false,none⟩),(640,some ⟨36,4,[.rat (rq (-2) 1),.rat (rq 1 1)],false,none⟩),(912,some ⟨36,1,[.rat (rq (-2) 1)],false,none⟩),(1024,some ⟨36,1,[.rat (rq 1 1)],false,none⟩)] 1696
def zW:List AV:=[.rat (rq (-2) 1),.rat (rq 1 1),.rat (rq 2 1),.val (.bool false),.val (.bool true),.val (.int .i64 0),.val (.int .i64 1)]
variable [B5]
noncomputable def kH:Tb:=⟨Gn sM,.none,O8⟩
noncomputable def AcV:Fm:=Ue 144 []
def Ab1(l:List AV)(nx:Nat):Rd:=⟨l.map λx=>(x,x),[],[],[],[],nx⟩
def Adj:AV→Bool
 | .val _ | .rat _ | .num _=>true
 | _=>false
noncomputable def FY(c:Code)(s:Fm)(l:List AV)(s':Fm):Bool:=match EC kH AR 3000 c s with
 | some (.fall s1)=>wkF (Ab1 l s'.nx) 16 s1 s' && (below 16 s1.H).isEmpty && (below 16 s'.H).isEmpty && l.all Adj
 | _=>false
theorem DM{W0:World}{M0:Nat→Prop}{Q:Exit→Act→World→Prop}{c y:Code}{s s':Fm}{l:List AV}(hT:Fi kH)(h:FY c s l s'=true)(hm0:∀ b,M0 b→b<W0.heap.size){ρ:Bg}{M:Nat→Prop}{a:Act}{w:World}(hF:SW W0 M0 s ρ M a w)(k:∀ ρ M a w,SW W0 M0 s' ρ M a w→y.wp Tryz.prog Q a w):(Code.seq c y).wp Tryz.prog Q a w:=by
 unfold FY at h;split at h
 ·rename_i s1 hr
  simp only [Bool.and_eq_true,List.isEmpty_iff] at h;obtain ⟨⟨⟨h1,h2⟩,h3⟩,h4⟩:=h;refine wp_seq (fH hT Bv _ hF hr λρ M a w hF=>?_);obtain ⟨ρ',M',hF'⟩:=kS (Ab1 l s'.nx) ⟨λp hp ρ ρ' M w cs r=>by
   obtain ⟨x,hx,rfl⟩:=List.mem_map.1 hp;have hx:=List.all_eq_true.1 h4 x hx
   cases x <;> first
    | (cases hx; done)
    | (unfold Rp at r ⊢; exact r),λp hp=>(by cases hp),λp hp=>(by cases hp),λp hp=>(by cases hp)⟩ hm0 h1 (by rw [h2,h3]) hF
  exact k ρ' M' a w hF'
 ·cases h
theorem AbG:FY (cl (BZ)) AcV Ac9 sF=true:=by kernel_rfl
theorem Adb:FY (cl (cr (BZ))) sF AbQ uK=true:=by kernel_rfl
theorem AdD:FY (cl (cr (cr (BZ)))) uK AbN uW=true:=by kernel_rfl
theorem Adm:FY (cl (cr (cr (cr (BZ))))) uW AcD uI=true:=by kernel_rfl
theorem AbZ:FY (cl (cr (cr (cr (cr (BZ)))))) uI AbT sJ=true:=by kernel_rfl
theorem Abw:FY (cl (cr (cr (cr (cr (cr (BZ))))))) sJ Ac1 sQ=true:=by kernel_rfl
theorem Ab3:FY (cl (cr (cr (cr (cr (cr (cr (BZ)))))))) sQ Aco sZ=true:=by kernel_rfl
theorem AdV:FY (cl (cr (cr (cr (cr (cr (cr (cr (BZ))))))))) sZ Adf rM=true:=by kernel_rfl
theorem AbF:FY (cl (cr (cr (cr (cr (cr (cr (cr (cr (BZ)))))))))) rM AcJ tN=true:=by kernel_rfl
theorem Adx:FY (cl (cr (cr (cr (cr (cr (cr (cr (cr (cr (BZ))))))))))) tN zW cE=true:=by kernel_rfl
noncomputable def AcG:Bool:=match EC kH AR 3000 (cr (cr (cr (cr (cr (cr (cr (cr (cr (cr (BZ))))))))))) cE with
 | some (.ret s)=>(match YC bV s with | some (.val (.bool true))=>true | _=>false)
 | _=>false
theorem Adu:AcG=true:=by kernel_rfl
theorem Acr:bV.body=some BZ:=by kernel_rfl
theorem AcL:bV.ntmps=144:=by kernel_rfl
theorem Ad2:BZ = .seq (cl (BZ)) (cr (BZ)):=by kernel_rfl
theorem AdK:cr (BZ) = .seq (cl (cr (BZ))) (cr (cr (BZ))):=by kernel_rfl
theorem AdH:cr (cr (BZ)) = .seq (cl (cr (cr (BZ)))) (cr (cr (cr (BZ)))):=by kernel_rfl
theorem AcR:cr (cr (cr (BZ))) = .seq (cl (cr (cr (cr (BZ))))) (cr (cr (cr (cr (BZ))))):=by kernel_rfl
theorem AcC:cr (cr (cr (cr (BZ)))) = .seq (cl (cr (cr (cr (cr (BZ)))))) (cr (cr (cr (cr (cr (BZ)))))):=by kernel_rfl
theorem Acj:cr (cr (cr (cr (cr (BZ))))) = .seq (cl (cr (cr (cr (cr (cr (BZ))))))) (cr (cr (cr (cr (cr (cr (BZ))))))):=by kernel_rfl
theorem Aca:cr (cr (cr (cr (cr (cr (BZ)))))) = .seq (cl (cr (cr (cr (cr (cr (cr (BZ)))))))) (cr (cr (cr (cr (cr (cr (cr (BZ)))))))):=by kernel_rfl
theorem Ab7:cr (cr (cr (cr (cr (cr (cr (BZ))))))) = .seq (cl (cr (cr (cr (cr (cr (cr (cr (BZ))))))))) (cr (cr (cr (cr (cr (cr (cr (cr (BZ))))))))):=by kernel_rfl
theorem AdQ:cr (cr (cr (cr (cr (cr (cr (cr (BZ)))))))) = .seq (cl (cr (cr (cr (cr (cr (cr (cr (cr (BZ)))))))))) (cr (cr (cr (cr (cr (cr (cr (cr (cr (BZ)))))))))):=by kernel_rfl
theorem Adw:cr (cr (cr (cr (cr (cr (cr (cr (cr (BZ))))))))) = .seq (cl (cr (cr (cr (cr (cr (cr (cr (cr (cr (BZ))))))))))) (cr (cr (cr (cr (cr (cr (cr (cr (cr (cr (BZ))))))))))):=by kernel_rfl
theorem TL(hT:Fi kH)(w:World):Calls Tryz.prog 10 #[] w (Aj (Am (.bool true)) w):=by
 refine Calls.mono (RJ (fn:=bV) (c:=BZ) (xs:=[]) (xs':=[]) (r:=.val (.bool true)) (ρ:=B4) (M:=λ_=>False) (w:=w) (vs:=[]) Tryz.func10 Acr rfl (Nat.zero_le _) (λ_ h=>h.elim) rfl λa hS=>?_) λe w' ⟨v,e1,e2,e3⟩=>⟨v,e1,e2,e3⟩
 rw [AcL] at hS;have hm0:∀ b:Nat,False→b<w.heap.size:=λ_ h=>h.elim
 rw [Ad2];refine DM hT AbG hm0 hS λρ M a w1 hS=>?_
 rw [AdK];refine DM hT Adb hm0 hS λρ M a w1 hS=>?_
 rw [AdH];refine DM hT AdD hm0 hS λρ M a w1 hS=>?_
 rw [AcR];refine DM hT Adm hm0 hS λρ M a w1 hS=>?_
 rw [AcC];refine DM hT AbZ hm0 hS λρ M a w1 hS=>?_
 rw [Acj];refine DM hT Abw hm0 hS λρ M a w1 hS=>?_
 rw [Aca];refine DM hT Ab3 hm0 hS λρ M a w1 hS=>?_
 rw [Ab7];refine DM hT AdV hm0 hS λρ M a w1 hS=>?_
 rw [AdQ];refine DM hT AbF hm0 hS λρ M a w1 hS=>?_
 rw [Adw];refine DM hT Adx hm0 hS λρ M a w1 hS=>?_
 have he:=Adu;unfold AcG at he;split at he
 ·rename_i s hr
  refine fH hT Bv _ hS hr λρ M a w1 hS=>⟨.inr rfl,s,ρ,M,hS,?_⟩
  split at he
  ·rename_i h; exact h
  ·cases he
 ·cases he
end Go.Proofs.YtdopbgnkneeceaaGreat

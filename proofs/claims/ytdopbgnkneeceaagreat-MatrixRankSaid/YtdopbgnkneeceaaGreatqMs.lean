/- Layer Mc: its sanity, in pieces (written by gen_sanity2.py for this seat). -/
import Derived.Test.YtdopbgnkneeceaaGreatqVv
set_option linter.unusedSectionVars false
set_option linter.unusedVariables false
set_option linter.unusedSimpArgs false
set_option maxRecDepth 100000
namespace Go.Proofs.YtdopbgnkneeceaaGreat
open Go.RowKit
def rq(n:Int)(d:Nat):Rat:=mkRat n d
noncomputable def jP:Func:=Tryz.f10
noncomputable def BW:=C_ jP
noncomputable def tL:Fm:=YX 144 [(0,.val (.bool false))] [] 32
def Abn:List AV:=[.val (.bool false)]
noncomputable def uA:Fm:=YX 144 [(0,.val (.bool false)),(1,.sl 96 0 2 (some 2))] [(48,some ⟨36,4,[.rat (rq 0 1),.rat (rq 2 1),.rat (rq 4 1)],true,none⟩),(80,some ⟨36,4,[.rat (rq 1 1),.rat (rq 1 1),.rat (rq 1 1)],true,none⟩),(96,some ⟨40,1,[.sl 48 0 3 none,.sl 80 0 3 none],false,none⟩)] 128
def AdN:List AV:=[.rat (rq 0 1),.rat (rq 1 1),.rat (rq 2 1),.rat (rq 4 1),.val (.bool false)]
noncomputable def uK:Fm:=YX 144 [(0,.val (.bool false)),(1,.sl 96 0 2 (some 2)),(2,.sl 144 0 2 (some 2)),(3,.sl 147 0 2 none)] [(48,some ⟨36,4,[.rat (rq 0 1),.rat (rq 2 1),.rat (rq 4 1)],true,none⟩),(80,some ⟨36,4,[.rat (rq 1 1),.rat (rq 1 1),.rat (rq 1 1)],true,none⟩),(96,some ⟨40,1,[.sl 48 0 3 none,.sl 80 0 3 none],false,none⟩),(144,some ⟨40,1,[.sl 145 0 3 (some 3),.sl 146 0 3 (some 3)],false,none⟩),(145,some ⟨36,4,[.rat (rq 1 1),.rat (rq 0 1),.rat (rq (-1) 1)],false,none⟩),(146,some ⟨36,4,[.rat (rq 0 1),.rat (rq 1 1),.rat (rq 2 1)],false,none⟩),(147,some ⟨3,1,[.val (.int .i64 0),.val (.int .i64 1)],true,none⟩)] 240
def AcK:List AV:=[.rat (rq (-1) 1),.rat (rq 0 1),.rat (rq 1 1),.rat (rq 2 1),.rat (rq 4 1),.val (.bool false),.val (.int .i64 0),.val (.int .i64 1)]
noncomputable def tT:Fm:=YX 144 [(0,.val (.bool false)),(1,.sl 96 0 2 (some 2)),(2,.sl 144 0 2 (some 2)),(3,.sl 147 0 2 none),(4,.sl 256 0 1 none)] [(48,some ⟨36,4,[.rat (rq 0 1),.rat (rq 2 1),.rat (rq 4 1)],true,none⟩),(80,some ⟨36,4,[.rat (rq 1 1),.rat (rq 1 1),.rat (rq 1 1)],true,none⟩),(96,some ⟨40,1,[.sl 48 0 3 none,.sl 80 0 3 none],false,none⟩),(144,some ⟨40,1,[.sl 145 0 3 (some 3),.sl 146 0 3 (some 3)],false,none⟩),(145,some ⟨36,4,[.rat (rq 1 1),.rat (rq 0 1),.rat (rq (-1) 1)],false,none⟩),(146,some ⟨36,4,[.rat (rq 0 1),.rat (rq 1 1),.rat (rq 2 1)],false,none⟩),(147,some ⟨3,1,[.val (.int .i64 0),.val (.int .i64 1)],true,none⟩),(256,some ⟨40,1,[.sl 257 0 3 (some 3)],true,none⟩),(257,some ⟨36,4,[.rat (rq 1 1),.rat (rq (-2) 1),.rat (rq 1 1)],false,none⟩)] 288
def AdB:List AV:=[.rat (rq (-1) 1),.rat (rq (-2) 1),.rat (rq 0 1),.rat (rq 1 1),.rat (rq 2 1),.rat (rq 4 1),.val (.bool false),.val (.int .i64 0),.val (.int .i64 1)]
noncomputable def rT:Fm:=YX 144 [(0,.val (.bool false)),(1,.sl 96 0 2 (some 2)),(2,.sl 144 0 2 (some 2)),(3,.sl 147 0 2 none),(4,.sl 256 0 1 none),(5,.sl 400 0 2 (some 2)),(7,.val (.bool true))] [(48,some ⟨36,4,[.rat (rq 0 1),.rat (rq 2 1),.rat (rq 4 1)],true,none⟩),(80,some ⟨36,4,[.rat (rq 1 1),.rat (rq 1 1),.rat (rq 1 1)],true,none⟩),(96,some ⟨40,1,[.sl 48 0 3 none,.sl 80 0 3 none],false,none⟩),(144,some ⟨40,1,[.sl 145 0 3 (some 3),.sl 146 0 3 (some 3)],false,none⟩),(145,some ⟨36,4,[.rat (rq 1 1),.rat (rq 0 1),.rat (rq (-1) 1)],false,none⟩),(146,some ⟨36,4,[.rat (rq 0 1),.rat (rq 1 1),.rat (rq 2 1)],false,none⟩),(147,some ⟨3,1,[.val (.int .i64 0),.val (.int .i64 1)],true,none⟩),(256,some ⟨40,1,[.sl 257 0 3 (some 3)],true,none⟩),(257,some ⟨36,4,[.rat (rq 1 1),.rat (rq (-2) 1),.rat (rq 1 1)],false,none⟩),(400,some ⟨36,4,[.rat (rq 2 1),.rat (rq 1 1)],false,none⟩)] 528
def AdD:List AV:=[.rat (rq (-1) 1),.rat (rq (-2) 1),.rat (rq 0 1),.rat (rq 1 1),.rat (rq 2 1),.rat (rq 4 1),.val (.bool false),.val (.bool true),.val (.int .i64 0),.val (.int .i64 1)]
noncomputable def sG:Fm:=YX 144 [(0,.val (.bool false)),(1,.sl 96 0 2 (some 2)),(2,.sl 144 0 2 (some 2)),(3,.sl 147 0 2 none),(4,.sl 256 0 1 none),(5,.sl 400 0 2 (some 2)),(7,.val (.bool true)),(9,.sl 640 0 2 (some 2)),(10,.val (.bool false))] [(48,some ⟨36,4,[.rat (rq 0 1),.rat (rq 2 1),.rat (rq 4 1)],true,none⟩),(80,some ⟨36,4,[.rat (rq 1 1),.rat (rq 1 1),.rat (rq 1 1)],true,none⟩),(96,some ⟨40,1,[.sl 48 0 3 none,.sl 80 0 3 none],false,none⟩),(144,some ⟨40,1,[.sl 145 0 3 (some 3),.sl 146 0 3 (some 3)],false,none⟩),(145,some ⟨36,4,[.rat (rq 1 1),.rat (rq 0 1),.rat (rq (-1) 1)],false,none⟩),(146,some ⟨36,4,[.rat (rq 0 1),.rat (rq 1 1),.rat (rq 2 1)],false,none⟩),(147,some ⟨3,1,[.val (.int .i64 0),.val (.int .i64 1)],true,none⟩),(256,some ⟨40,1,[.sl 257 0 3 (some 3)],true,none⟩),(257,some ⟨36,4,[.rat (rq 1 1),.rat (rq (-2) 1),.rat (rq 1 1)],false,none⟩),(400,some ⟨36,4,[.rat (rq 2 1),.rat (rq 1 1)],false,none⟩),(640,some ⟨36,4,[.rat (rq (-2) 1),.rat (rq 1 1)],false,none⟩)] 768
def AdC:List AV:=[.rat (rq (-1) 1),.rat (rq (-2) 1),.rat (rq 0 1),.rat (rq 1 1),.rat (rq 2 1),.rat (rq 4 1),.val (.bool false),.val (.bool true),.val (.int .i64 0),.val (.int .i64 1)]
noncomputable def sO:Fm:=YX 144 [(0,.val (.bool false)),(1,.sl 96 0 2 (some 2)),(2,.sl 144 0 2 (some 2)),(3,.sl 147 0 2 none),(4,.sl 256 0 1 none),(5,.sl 400 0 2 (some 2)),(7,.val (.bool true)),(9,.sl 640 0 2 (some 2)),(10,.val (.bool false)),(11,.ptr 912 0),(12,.val (.int .i64 0))] [(48,some ⟨36,4,[.rat (rq 0 1),.rat (rq 2 1),.rat (rq 4 1)],true,none⟩),(80,some ⟨36,4,[.rat (rq 1 1),.rat (rq 1 1),.rat (rq 1 1)],true,none⟩),(96,some ⟨40,1,[.sl 48 0 3 none,.sl 80 0 3 none],false,none⟩),(144,some ⟨40,1,[.sl 145 0 3 (some 3),.sl 146 0 3 (some 3)],false,none⟩),(145,some ⟨36,4,[.rat (rq 1 1),.rat (rq 0 1),.rat (rq (-1) 1)],false,none⟩),(146,some ⟨36,4,[.rat (rq 0 1),.rat (rq 1 1),.rat (rq 2 1)],false,none⟩),(147,some ⟨3,1,[.val (.int .i64 0),.val (.int .i64 1)],true,none⟩),(256,some ⟨40,1,[.sl 257 0 3 (some 3)],true,none⟩),(257,some ⟨36,4,[.rat (rq 1 1),.rat (rq (-2) 1),.rat (rq 1 1)],false,none⟩),(400,some ⟨36,4,[.rat (rq 2 1),.rat (rq 1 1)],false,none⟩),(640,some ⟨36,4,[.rat (rq (-2) 1),.rat (rq 1 1)],false,none⟩),(912,some ⟨36,1,[.rat (rq (-2) 1)],false,none⟩)] 960
def Adk:List AV:=[.rat (rq (-1) 1),.rat (rq (-2) 1),.rat (rq 0 1),.rat (rq 1 1),.rat (rq 2 1),.rat (rq 4 1),.val (.bool false),.val (.bool true),.val (.int .i64 0),.val (.int .i64 1)]
noncomputable def sV:Fm:=YX 144 [(0,.val (.bool false)),(1,.sl 96 0 2 (some 2)),(2,.sl 144 0 2 (some 2)),(3,.sl 147 0 2 none),(4,.sl 256 0 1 none),(5,.sl 400 0 2 (some 2)),(7,.val (.bool true)),(9,.sl 640 0 2 (some 2)),(10,.val (.bool false)),(11,.ptr 912 0),(12,.val (.int .i64 0)),(13,.ptr 1024 0),(14,.val (.int .i64 0))] [(48,some ⟨36,4,[.rat (rq 0 1),.rat (rq 2 1),.rat (rq 4 1)],true,none⟩),(80,some ⟨36,4,[.rat (rq 1 1),.rat (rq 1 1),.rat (rq 1 1)],true,none⟩),(96,some ⟨40,1,[.sl 48 0 3 none,.sl 80 0 3 none],false,none⟩),(144,some ⟨40,1,[.sl 145 0 3 (some 3),.sl 146 0 3 (some 3)],false,none⟩),(145,some ⟨36,4,[.rat (rq 1 1),.rat (rq 0 1),.rat (rq (-1) 1)],false,none⟩),(146,some ⟨36,4,[.rat (rq 0 1),.rat (rq 1 1),.rat (rq 2 1)],false,none⟩),(147,some ⟨3,1,[.val (.int .i64 0),.val (.int .i64 1)],true,none⟩),(256,some ⟨40,1,[.sl 257 0 3 (some 3)],true,none⟩),(257,some ⟨36,4,[.rat (rq 1 1),.rat (rq (-2) 1),.rat (rq 1 1)],false,none⟩),(400,some ⟨36,4,[.rat (rq 2 1),.rat (rq 1 1)],false,none⟩),(640,some ⟨36,4,[.rat (rq (-2) 1),.rat (rq 1 1)],false,none⟩),(912,some ⟨36,1,[.rat (rq (-2) 1)],false,none⟩),(1024,some ⟨36,1,[.rat (rq 1 1)],false,none⟩)] 1072
def Adh:List AV:=[.rat (rq (-1) 1),.rat (rq (-2) 1),.rat (rq 0 1),.rat (rq 1 1),.rat (rq 2 1),.rat (rq 4 1),.val (.bool false),.val (.bool true),.val (.int .i64 0),.val (.int .i64 1)]
noncomputable def uC:Fm:=YX 144 [(0,.val (.bool false)),(1,.sl 96 0 2 (some 2)),(2,.sl 144 0 2 (some 2)),(3,.sl 147 0 2 none),(4,.sl 256 0 1 none),(5,.sl 400 0 2 (some 2)),(7,.val (.bool true)),(9,.sl 640 0 2 (some 2)),(10,.val (.bool false)),(11,.ptr 912 0),(12,.val (.int .i64 0)),(13,.ptr 1024 0),(14,.val (.int .i64 0)),(16,.val (.int .i64 1))] [(48,some ⟨36,4,[.rat (rq 0 1),.rat (rq 2 1),.rat (rq 4 1)],true,none⟩),(80,some ⟨36,4,[.rat (rq 1 1),.rat (rq 1 1),.rat (rq 1 1)],true,none⟩),(96,some ⟨40,1,[.sl 48 0 3 none,.sl 80 0 3 none],false,none⟩),(144,some ⟨40,1,[.sl 145 0 3 (some 3),.sl 146 0 3 (some 3)],false,none⟩),(145,some ⟨36,4,[.rat (rq 1 1),.rat (rq 0 1),.rat (rq (-1) 1)],false,none⟩),(146,some ⟨36,4,[.rat (rq 0 1),.rat (rq 1 1),.rat (rq 2 1)],false,none⟩),(147,some ⟨3,1,[.val (.int .i64 0),.val (.int .i64 1)],true,none⟩),(256,some ⟨40,1,[.sl 257 0 3 (some 3)],true,none⟩),(257,some ⟨36,4,[.rat (rq 1 1),.rat (rq (-2) 1),.rat (rq 1 1)],false,none⟩),(400,some ⟨36,4,[.rat (rq 2 1),.rat (rq 1 1)],false,none⟩),(640,some ⟨36,4,[.rat (rq (-2) 1),.rat (rq 1 1)],false,none⟩),(912,some ⟨36,1,[.rat (rq (-2) 1)],false,none⟩),(1024,some ⟨36,1,[.rat (rq 1 1)],false,none⟩)] 1232
def AbY:List AV:=[.rat (rq (-1) 1),.rat (rq (-2) 1),.rat (rq 0 1),.rat (rq 1 1),.rat (rq 2 1),.rat (rq 4 1),.val (.bool false),.val (.bool true),.val (.int .i64 0),.val (.int .i64 1)]
noncomputable def Y1:Fm:=YX 144 [(0,.val (.bool false)),(5,.sl 400 0 2 (some 2)),(7,.val (.bool true)),(9,.sl 640 0 2 (some 2)),(10,.val (.bool false)),(11,.ptr 912 0),(12,.val (.int .i64 0)),(13,.ptr 1024 0),(14,.val (.int .i64 0)),(16,.val (.int .i64 1)),(17,.val (.bool true))] [(400,some ⟨36,4,[.rat (rq 2 1),.rat (rq 1 1)],false,none⟩),(640,some ⟨36,4,[.rat (rq (-2) 1),.rat (rq 1 1)],false,none⟩),(912,some ⟨36,1,[.rat (rq (-2) 1)],false,none⟩),(1024,some ⟨36,1,[.rat (rq 1 1)],false,none⟩)] 1696
def Aao:List AV:=[.rat (rq (-2) 1),.rat (rq 1 1),.rat (rq 2 1),.val (.bool false),.val (.bool true),.val (.int .i64 0),.val (.int .i64 1)]
variable [B5]
noncomputable def nZ:Tb:=⟨Gr uG,.none,OH⟩
noncomputable def Add:Fm:=T4 144 []
def Ab9(l:List AV)(nx:Nat):Rd:=⟨l.map λx=>(x,x),[],[],[],[],nx⟩
def AbV:AV→Bool
 | .val _ | .rat _ | .num _=>true
 | _=>false
noncomputable def FZ(c:Code)(s:Fm)(l:List AV)(s':Fm):Bool:=match EC nZ AQ 3000 c s with
 | some (.fall s1)=>wkF (Ab9 l s'.nx) 16 s1 s' && (below 16 s1.H).isEmpty && (below 16 s'.H).isEmpty && l.all AbV
 | _=>false
theorem DL{W0:World}{M0:Nat→Prop}{Q:Exit→Act→World→Prop}{c y:Code}{s s':Fm}{l:List AV}(hT:Fd nZ)(h:FZ c s l s'=true)(hm0:∀ b,M0 b→b<W0.heap.size){ρ:Bh}{M:Nat→Prop}{a:Act}{w:World}(hF:Um W0 M0 s ρ M a w)(k:∀ ρ M a w,Um W0 M0 s' ρ M a w→y.wp Tryz.prog Q a w):(Code.seq c y).wp Tryz.prog Q a w:=by
 unfold FZ at h;split at h
 ·rename_i s1 hr
  simp only [Bool.and_eq_true,List.isEmpty_iff] at h;obtain ⟨⟨⟨h1,h2⟩,h3⟩,h4⟩:=h;refine wp_seq (fH hT Bv _ hF hr λρ M a w hF=>?_);obtain ⟨ρ',M',hF'⟩:=pZ (Ab9 l s'.nx) ⟨λp hp ρ ρ' M w cs r=>by
   obtain ⟨x,hx,rfl⟩:=List.mem_map.1 hp;have hx:=List.all_eq_true.1 h4 x hx
   cases x <;> first
    | (cases hx; done)
    | (unfold Rp at r ⊢; exact r),λp hp=>(by cases hp),λp hp=>(by cases hp),λp hp=>(by cases hp)⟩ hm0 h1 (by rw [h2,h3]) hF
  exact k ρ' M' a w hF'
 ·cases h
theorem AdM:FZ (cl (BW)) Add Abn tL=true:=by kernel_rfl
theorem AdZ:FZ (cl (cr (BW))) tL AdN uA=true:=by kernel_rfl
theorem Acl:FZ (cl (cr (cr (BW)))) uA AcK uK=true:=by kernel_rfl
theorem Acj:FZ (cl (cr (cr (cr (BW))))) uK AdB tT=true:=by kernel_rfl
theorem AdK:FZ (cl (cr (cr (cr (cr (BW)))))) tT AdD rT=true:=by kernel_rfl
theorem AcU:FZ (cl (cr (cr (cr (cr (cr (BW))))))) rT AdC sG=true:=by kernel_rfl
theorem Adu:FZ (cl (cr (cr (cr (cr (cr (cr (BW)))))))) sG Adk sO=true:=by kernel_rfl
theorem AcW:FZ (cl (cr (cr (cr (cr (cr (cr (cr (BW))))))))) sO Adh sV=true:=by kernel_rfl
theorem AbK:FZ (cl (cr (cr (cr (cr (cr (cr (cr (cr (BW)))))))))) sV AbY uC=true:=by kernel_rfl
theorem AdT:FZ (cl (cr (cr (cr (cr (cr (cr (cr (cr (cr (BW))))))))))) uC Aao Y1=true:=by kernel_rfl
noncomputable def Adr:Bool:=match EC nZ AQ 3000 (cr (cr (cr (cr (cr (cr (cr (cr (cr (cr (BW))))))))))) Y1 with
 | some (.ret s)=>(match YJ jP s with | some (.val (.bool true))=>true | _=>false)
 | _=>false
theorem Adx:Adr=true:=by kernel_rfl
theorem Adg:jP.body=some BW:=by kernel_rfl
theorem Ab7:jP.ntmps=144:=by kernel_rfl
theorem Abr:BW = .seq (cl (BW)) (cr (BW)):=by kernel_rfl
theorem AbF:cr (BW) = .seq (cl (cr (BW))) (cr (cr (BW))):=by kernel_rfl
theorem AbW:cr (cr (BW)) = .seq (cl (cr (cr (BW)))) (cr (cr (cr (BW)))):=by kernel_rfl
theorem Adq:cr (cr (cr (BW))) = .seq (cl (cr (cr (cr (BW))))) (cr (cr (cr (cr (BW))))):=by kernel_rfl
theorem Ada:cr (cr (cr (cr (BW)))) = .seq (cl (cr (cr (cr (cr (BW)))))) (cr (cr (cr (cr (cr (BW)))))):=by kernel_rfl
theorem AbB:cr (cr (cr (cr (cr (BW))))) = .seq (cl (cr (cr (cr (cr (cr (BW))))))) (cr (cr (cr (cr (cr (cr (BW))))))):=by kernel_rfl
theorem Acs:cr (cr (cr (cr (cr (cr (BW)))))) = .seq (cl (cr (cr (cr (cr (cr (cr (BW)))))))) (cr (cr (cr (cr (cr (cr (cr (BW)))))))):=by kernel_rfl
theorem AdO:cr (cr (cr (cr (cr (cr (cr (BW))))))) = .seq (cl (cr (cr (cr (cr (cr (cr (cr (BW))))))))) (cr (cr (cr (cr (cr (cr (cr (cr (BW))))))))):=by kernel_rfl
theorem Adj:cr (cr (cr (cr (cr (cr (cr (cr (BW)))))))) = .seq (cl (cr (cr (cr (cr (cr (cr (cr (cr (BW)))))))))) (cr (cr (cr (cr (cr (cr (cr (cr (cr (BW)))))))))):=by kernel_rfl
theorem Aco:cr (cr (cr (cr (cr (cr (cr (cr (cr (BW))))))))) = .seq (cl (cr (cr (cr (cr (cr (cr (cr (cr (cr (BW))))))))))) (cr (cr (cr (cr (cr (cr (cr (cr (cr (cr (BW))))))))))):=by kernel_rfl
theorem Ut(hT:Fd nZ)(w:World):Calls Tryz.prog 10 #[] w (Aj (Am (.bool true)) w):=by
 refine Calls.mono (RI (fn:=jP) (c:=BW) (xs:=[]) (xs':=[]) (r:=.val (.bool true)) (ρ:=B4) (M:=λ_=>False) (w:=w) (vs:=[]) Tryz.func10 Adg rfl (Nat.zero_le _) (λ_ h=>h.elim) rfl λa hS=>?_) λe w' ⟨v,e1,e2,e3⟩=>⟨v,e1,e2,e3⟩
 rw [Ab7] at hS;have hm0:∀ b:Nat,False→b<w.heap.size:=λ_ h=>h.elim
 rw [Abr];refine DL hT AdM hm0 hS λρ M a w1 hS=>?_
 rw [AbF];refine DL hT AdZ hm0 hS λρ M a w1 hS=>?_
 rw [AbW];refine DL hT Acl hm0 hS λρ M a w1 hS=>?_
 rw [Adq];refine DL hT Acj hm0 hS λρ M a w1 hS=>?_
 rw [Ada];refine DL hT AdK hm0 hS λρ M a w1 hS=>?_
 rw [AbB];refine DL hT AcU hm0 hS λρ M a w1 hS=>?_
 rw [Acs];refine DL hT Adu hm0 hS λρ M a w1 hS=>?_
 rw [AdO];refine DL hT AcW hm0 hS λρ M a w1 hS=>?_
 rw [Adj];refine DL hT AbK hm0 hS λρ M a w1 hS=>?_
 rw [Aco];refine DL hT AdT hm0 hS λρ M a w1 hS=>?_
 have he:=Adx;unfold Adr at he;split at he
 ·rename_i s hr
  refine fH hT Bv _ hS hr λρ M a w1 hS=>⟨.inr rfl,s,ρ,M,hS,?_⟩
  split at he
  ·rename_i h; exact h
  ·cases he
 ·cases he
end Go.Proofs.YtdopbgnkneeceaaGreat

/- Layer Mc: its sanity, in pieces (written by gen_sanity2.py for this seat). -/
import Derived.Test.YtegaedfdddapnaaGreatqVv
set_option linter.unusedSectionVars false
set_option linter.unusedVariables false
set_option linter.unusedSimpArgs false
set_option maxRecDepth 100000
namespace Go.Proofs.YtegaedfdddapnaaGreat
open Go.RowKit
def rq(n:Int)(d:Nat):Rat:=mkRat n d
noncomputable def fU:Func:=Tryz.f10
noncomputable def B8:=DG fU
noncomputable def AaB:Fm:=Z6 144 [(0,.val (.bool false))] [] 32
def Ahb:List AV:=[.val (.bool false)]
noncomputable def yH:Fm:=Z6 144 [(0,.val (.bool false)),(1,.sl 96 0 2 (some 2))] [(48,some ⟨36,4,[.rat (rq 0 1),.rat (rq 2 1),.rat (rq 4 1)],true,none⟩),(80,some ⟨36,4,[.rat (rq 1 1),.rat (rq 1 1),.rat (rq 1 1)],true,none⟩),(96,some ⟨40,1,[.sl 48 0 3 none,.sl 80 0 3 none],false,none⟩)] 128
def AhL:List AV:=[.rat (rq 0 1),.rat (rq 1 1),.rat (rq 2 1),.rat (rq 4 1),.val (.bool false)]
noncomputable def zW:Fm:=Z6 144 [(0,.val (.bool false)),(1,.sl 96 0 2 (some 2)),(2,.sl 144 0 2 (some 2)),(3,.sl 147 0 2 none)] [(48,some ⟨36,4,[.rat (rq 0 1),.rat (rq 2 1),.rat (rq 4 1)],true,none⟩),(80,some ⟨36,4,[.rat (rq 1 1),.rat (rq 1 1),.rat (rq 1 1)],true,none⟩),(96,some ⟨40,1,[.sl 48 0 3 none,.sl 80 0 3 none],false,none⟩),(144,some ⟨40,1,[.sl 145 0 3 (some 3),.sl 146 0 3 (some 3)],false,none⟩),(145,some ⟨36,4,[.rat (rq 1 1),.rat (rq 0 1),.rat (rq (-1) 1)],false,none⟩),(146,some ⟨36,4,[.rat (rq 0 1),.rat (rq 1 1),.rat (rq 2 1)],false,none⟩),(147,some ⟨3,1,[.val (.int .i64 0),.val (.int .i64 1)],true,none⟩)] 240
def Af9:List AV:=[.rat (rq (-1) 1),.rat (rq 0 1),.rat (rq 1 1),.rat (rq 2 1),.rat (rq 4 1),.val (.bool false),.val (.int .i64 0),.val (.int .i64 1)]
noncomputable def Aag:Fm:=Z6 144 [(0,.val (.bool false)),(1,.sl 96 0 2 (some 2)),(2,.sl 144 0 2 (some 2)),(3,.sl 147 0 2 none),(4,.sl 256 0 1 none)] [(48,some ⟨36,4,[.rat (rq 0 1),.rat (rq 2 1),.rat (rq 4 1)],true,none⟩),(80,some ⟨36,4,[.rat (rq 1 1),.rat (rq 1 1),.rat (rq 1 1)],true,none⟩),(96,some ⟨40,1,[.sl 48 0 3 none,.sl 80 0 3 none],false,none⟩),(144,some ⟨40,1,[.sl 145 0 3 (some 3),.sl 146 0 3 (some 3)],false,none⟩),(145,some ⟨36,4,[.rat (rq 1 1),.rat (rq 0 1),.rat (rq (-1) 1)],false,none⟩),(146,some ⟨36,4,[.rat (rq 0 1),.rat (rq 1 1),.rat (rq 2 1)],false,none⟩),(147,some ⟨3,1,[.val (.int .i64 0),.val (.int .i64 1)],true,none⟩),(256,some ⟨40,1,[.sl 257 0 3 (some 3)],true,none⟩),(257,some ⟨36,4,[.rat (rq 1 1),.rat (rq (-2) 1),.rat (rq 1 1)],false,none⟩)] 288
def AfE:List AV:=[.rat (rq (-1) 1),.rat (rq (-2) 1),.rat (rq 0 1),.rat (rq 1 1),.rat (rq 2 1),.rat (rq 4 1),.val (.bool false),.val (.int .i64 0),.val (.int .i64 1)]
noncomputable def Aaq:Fm:=Z6 144 [(0,.val (.bool false)),(1,.sl 96 0 2 (some 2)),(2,.sl 144 0 2 (some 2)),(3,.sl 147 0 2 none),(4,.sl 256 0 1 none),(5,.sl 400 0 2 (some 2)),(7,.val (.bool true))] [(48,some ⟨36,4,[.rat (rq 0 1),.rat (rq 2 1),.rat (rq 4 1)],true,none⟩),(80,some ⟨36,4,[.rat (rq 1 1),.rat (rq 1 1),.rat (rq 1 1)],true,none⟩),(96,some ⟨40,1,[.sl 48 0 3 none,.sl 80 0 3 none],false,none⟩),(144,some ⟨40,1,[.sl 145 0 3 (some 3),.sl 146 0 3 (some 3)],false,none⟩),(145,some ⟨36,4,[.rat (rq 1 1),.rat (rq 0 1),.rat (rq (-1) 1)],false,none⟩),(146,some ⟨36,4,[.rat (rq 0 1),.rat (rq 1 1),.rat (rq 2 1)],false,none⟩),(147,some ⟨3,1,[.val (.int .i64 0),.val (.int .i64 1)],true,none⟩),(256,some ⟨40,1,[.sl 257 0 3 (some 3)],true,none⟩),(257,some ⟨36,4,[.rat (rq 1 1),.rat (rq (-2) 1),.rat (rq 1 1)],false,none⟩),(400,some ⟨36,4,[.rat (rq 2 1),.rat (rq 1 1)],false,none⟩)] 528
def AhV:List AV:=[.rat (rq (-1) 1),.rat (rq (-2) 1),.rat (rq 0 1),.rat (rq 1 1),.rat (rq 2 1),.rat (rq 4 1),.val (.bool false),.val (.bool true),.val (.int .i64 0),.val (.int .i64 1)]
noncomputable def xP:Fm:=Z6 144 [(0,.val (.bool false)),(1,.sl 96 0 2 (some 2)),(2,.sl 144 0 2 (some 2)),(3,.sl 147 0 2 none),(4,.sl 256 0 1 none),(5,.sl 400 0 2 (some 2)),(7,.val (.bool true)),(9,.sl 640 0 2 (some 2)),(10,.val (.bool false))] [(48,some ⟨36,4,[.rat (rq 0 1),.rat (rq 2 1),.rat (rq 4 1)],true,none⟩),(80,some ⟨36,4,[.rat (rq 1 1),.rat (rq 1 1),.rat (rq 1 1)],true,none⟩),(96,some ⟨40,1,[.sl 48 0 3 none,.sl 80 0 3 none],false,none⟩),(144,some ⟨40,1,[.sl 145 0 3 (some 3),.sl 146 0 3 (some 3)],false,none⟩),(145,some ⟨36,4,[.rat (rq 1 1),.rat (rq 0 1),.rat (rq (-1) 1)],false,none⟩),(146,some ⟨36,4,[.rat (rq 0 1),.rat (rq 1 1),.rat (rq 2 1)],false,none⟩),(147,some ⟨3,1,[.val (.int .i64 0),.val (.int .i64 1)],true,none⟩),(256,some ⟨40,1,[.sl 257 0 3 (some 3)],true,none⟩),(257,some ⟨36,4,[.rat (rq 1 1),.rat (rq (-2) 1),.rat (rq 1 1)],false,none⟩),(400,some ⟨36,4,[.rat (rq 2 1),.rat (rq 1 1)],false,none⟩),(640,some ⟨36,4,[.rat (rq (-2) 1),.rat (rq 1 1)],false,none⟩)] 768
def AeF:List AV:=[.rat (rq (-1) 1),.rat (rq (-2) 1),.rat (rq 0 1),.rat (rq 1 1),.rat (rq 2 1),.rat (rq 4 1),.val (.bool false),.val (.bool true),.val (.int .i64 0),.val (.int .i64 1)]
noncomputable def zE:Fm:=Z6 144 [(0,.val (.bool false)),(1,.sl 96 0 2 (some 2)),(2,.sl 144 0 2 (some 2)),(3,.sl 147 0 2 none),(4,.sl 256 0 1 none),(5,.sl 400 0 2 (some 2)),(7,.val (.bool true)),(9,.sl 640 0 2 (some 2)),(10,.val (.bool false)),(11,.ptr 912 0),(12,.val (.int .i64 0))] [(48,some ⟨36,4,[.rat (rq 0 1),.rat (rq 2 1),.rat (rq 4 1)],true,none⟩),(80,some ⟨36,4,[.rat (rq 1 1),.rat (rq 1 1),.rat (rq 1 1)],true,none⟩),(96,some ⟨40,1,[.sl 48 0 3 none,.sl 80 0 3 none],false,none⟩),(144,some ⟨40,1,[.sl 145 0 3 (some 3),.sl 146 0 3 (some 3)],false,none⟩),(145,some ⟨36,4,[.rat (rq 1 1),.rat (rq 0 1),.rat (rq (-1) 1)],false,none⟩),(146,some ⟨36,4,[.rat (rq 0 1),.rat (rq 1 1),.rat (rq 2 1)],false,none⟩),(147,some ⟨3,1,[.val (.int .i64 0),.val (.int .i64 1)],true,none⟩),(256,some ⟨40,1,[.sl 257 0 3 (some 3)],true,none⟩),(257,some ⟨36,4,[.rat (rq 1 1),.rat (rq (-2) 1),.rat (rq 1 1)],false,none⟩),(400,some ⟨36,4,[.rat (rq 2 1),.rat (rq 1 1)],false,none⟩),(640,some ⟨36,4,[.rat (rq (-2) 1),.rat (rq 1 1)],false,none⟩),(912,some ⟨36,1,[.rat (rq (-2) 1)],false,none⟩)] 960
def Afb:List AV:=[.rat (rq (-1) 1),.rat (rq (-2) 1),.rat (rq 0 1),.rat (rq 1 1),.rat (rq 2 1),.rat (rq 4 1),.val (.bool false),.val (.bool true),.val (.int .i64 0),.val (.int .i64 1)]
noncomputable def Aam:Fm:=Z6 144 [(0,.val (.bool false)),(1,.sl 96 0 2 (some 2)),(2,.sl 144 0 2 (some 2)),(3,.sl 147 0 2 none),(4,.sl 256 0 1 none),(5,.sl 400 0 2 (some 2)),(7,.val (.bool true)),(9,.sl 640 0 2 (some 2)),(10,.val (.bool false)),(11,.ptr 912 0),(12,.val (.int .i64 0)),(13,.ptr 1024 0),(14,.val (.int .i64 0))] [(48,some ⟨36,4,[.rat (rq 0 1),.rat (rq 2 1),.rat (rq 4 1)],true,none⟩),(80,some ⟨36,4,[.rat (rq 1 1),.rat (rq 1 1),.rat (rq 1 1)],true,none⟩),(96,some ⟨40,1,[.sl 48 0 3 none,.sl 80 0 3 none],false,none⟩),(144,some ⟨40,1,[.sl 145 0 3 (some 3),.sl 146 0 3 (some 3)],false,none⟩),(145,some ⟨36,4,[.rat (rq 1 1),.rat (rq 0 1),.rat (rq (-1) 1)],false,none⟩),(146,some ⟨36,4,[.rat (rq 0 1),.rat (rq 1 1),.rat (rq 2 1)],false,none⟩),(147,some ⟨3,1,[.val (.int .i64 0),.val (.int .i64 1)],true,none⟩),(256,some ⟨40,1,[.sl 257 0 3 (some 3)],true,none⟩),(257,some ⟨36,4,[.rat (rq 1 1),.rat (rq (-2) 1),.rat (rq 1 1)],false,none⟩),(400,some ⟨36,4,[.rat (rq 2 1),.rat (rq 1 1)],false,none⟩),(640,some ⟨36,4,[.rat (rq (-2) 1),.rat (rq 1 1)],false,none⟩),(912,some ⟨36,1,[.rat (rq (-2) 1)],false,none⟩),(1024,some ⟨36,1,[.rat (rq 1 1)],false,none⟩)] 1072
def Ae7:List AV:=[.rat (rq (-1) 1),.rat (rq (-2) 1),.rat (rq 0 1),.rat (rq 1 1),.rat (rq 2 1),.rat (rq 4 1),.val (.bool false),.val (.bool true),.val (.int .i64 0),.val (.int .i64 1)]
noncomputable def yN:Fm:=Z6 144 [(0,.val (.bool false)),(1,.sl 96 0 2 (some 2)),(2,.sl 144 0 2 (some 2)),(3,.sl 147 0 2 none),(4,.sl 256 0 1 none),(5,.sl 400 0 2 (some 2)),(7,.val (.bool true)),(9,.sl 640 0 2 (some 2)),(10,.val (.bool false)),(11,.ptr 912 0),(12,.val (.int .i64 0)),(13,.ptr 1024 0),(14,.val (.int .i64 0)),(16,.val (.int .i64 1))] [(48,some ⟨36,4,[.rat (rq 0 1),.rat (rq 2 1),.rat (rq 4 1)],true,none⟩),(80,some ⟨36,4,[.rat (rq 1 1),.rat (rq 1 1),.rat (rq 1 1)],true,none⟩),(96,some ⟨40,1,[.sl 48 0 3 none,.sl 80 0 3 none],false,none⟩),(144,some ⟨40,1,[.sl 145 0 3 (some 3),.sl 146 0 3 (some 3)],false,none⟩),(145,some ⟨36,4,[.rat (rq 1 1),.rat (rq 0 1),.rat (rq (-1) 1)],false,none⟩),(146,some ⟨36,4,[.rat (rq 0 1),.rat (rq 1 1),.rat (rq 2 1)],false,none⟩),(147,some ⟨3,1,[.val (.int .i64 0),.val (.int .i64 1)],true,none⟩),(256,some ⟨40,1,[.sl 257 0 3 (some 3)],true,none⟩),(257,some ⟨36,4,[.rat (rq 1 1),.rat (rq (-2) 1),.rat (rq 1 1)],false,none⟩),(400,some ⟨36,4,[.rat (rq 2 1),.rat (rq 1 1)],false,none⟩),(640,some ⟨36,4,[.rat (rq (-2) 1),.rat (rq 1 1)],false,none⟩),(912,some ⟨36,1,[.rat (rq (-2) 1)],false,none⟩),(1024,some ⟨36,1,[.rat (rq 1 1)],false,none⟩)] 1232
def AhB:List AV:=[.rat (rq (-1) 1),.rat (rq (-2) 1),.rat (rq 0 1),.rat (rq 1 1),.rat (rq 2 1),.rat (rq 4 1),.val (.bool false),.val (.bool true),.val (.int .i64 0),.val (.int .i64 1)]
noncomputable def iM:Fm:=Z6 144 [(0,.val (.bool false)),(5,.sl 400 0 2 (some 2)),(7,.val (.bool true)),(9,.sl 640 0 2 (some 2)),(10,.val (.bool false)),(11,.ptr 912 0),(12,.val (.int .i64 0)),(13,.ptr 1024 0),(14,.val (.int .i64 0)),(16,.val (.int .i64 1)),(17,.val (.bool true))] [(400,some ⟨36,4,[.rat (rq 2 1),.rat (rq 1 1)],false,none⟩),(640,some ⟨36,4,[.rat (rq (-2) 1),.rat (rq 1 1)],false,none⟩),(912,some ⟨36,1,[.rat (rq (-2) 1)],false,none⟩),(1024,some ⟨36,1,[.rat (rq 1 1)],false,none⟩)] 1696
def AaY:List AV:=[.rat (rq (-2) 1),.rat (rq 1 1),.rat (rq 2 1),.val (.bool false),.val (.bool true),.val (.int .i64 0),.val (.int .i64 1)]
variable [Cc]
noncomputable def qF:Tb:=⟨Gq AaA,.none,Oy⟩
noncomputable def Afc:Fm:=AcF 144 []
def AfQ(l:List AV)(nx:Nat):Rd:=⟨l.map λx=>(x,x),[],[],[],[],nx⟩
def Ae4:AV→Bool
 | .val _ | .rat _ | .num _=>true
 | _=>false
noncomputable def Gj(c:Code)(s:Fm)(l:List AV)(s':Fm):Bool:=match DC qF AK 3000 c s with
 | some (.fall s1)=>wkF (AfQ l s'.nx) 16 s1 s' && (below 16 s1.H).isEmpty && (below 16 s'.H).isEmpty && l.all Ae4
 | _=>false
theorem D8{W0:World}{M0:Nat→Prop}{Q:Exit→Act→World→Prop}{c y:Code}{s s':Fm}{l:List AV}(hT:Fo qF)(h:Gj c s l s'=true)(hm0:∀ b,M0 b→b<W0.heap.size){ρ:Bi}{M:Nat→Prop}{a:Act}{w:World}(hF:ZG W0 M0 s ρ M a w)(k:∀ ρ M a w,ZG W0 M0 s' ρ M a w→y.wp Tryz.prog Q a w):(Code.seq c y).wp Tryz.prog Q a w:=by
 unfold Gj at h;split at h
 ·rename_i s1 hr
  simp only [Bool.and_eq_true,List.isEmpty_iff] at h;obtain ⟨⟨⟨h1,h2⟩,h3⟩,h4⟩:=h;refine wp_seq (lT hT Bp _ hF hr λρ M a w hF=>?_);obtain ⟨ρ',M',hF'⟩:=oU (AfQ l s'.nx) ⟨λp hp ρ ρ' M w cs r=>by
   obtain ⟨x,hx,rfl⟩:=List.mem_map.1 hp;have hx:=List.all_eq_true.1 h4 x hx
   cases x <;> first
    | (cases hx; done)
    | (unfold Rp at r ⊢; exact r),λp hp=>(by cases hp),λp hp=>(by cases hp),λp hp=>(by cases hp)⟩ hm0 h1 (by rw [h2,h3]) hF
  exact k ρ' M' a w hF'
 ·cases h
theorem Ah1:Gj (cl (B8)) Afc Ahb AaB=true:=by kernel_rfl
theorem AhP:Gj (cl (cr (B8))) AaB AhL yH=true:=by kernel_rfl
theorem Agl:Gj (cl (cr (cr (B8)))) yH Af9 zW=true:=by kernel_rfl
theorem AhH:Gj (cl (cr (cr (cr (B8))))) zW AfE Aag=true:=by kernel_rfl
theorem AeK:Gj (cl (cr (cr (cr (cr (B8)))))) Aag AhV Aaq=true:=by kernel_rfl
theorem AgS:Gj (cl (cr (cr (cr (cr (cr (B8))))))) Aaq AeF xP=true:=by kernel_rfl
theorem Agf:Gj (cl (cr (cr (cr (cr (cr (cr (B8)))))))) xP Afb zE=true:=by kernel_rfl
theorem Agk:Gj (cl (cr (cr (cr (cr (cr (cr (cr (B8))))))))) zE Ae7 Aam=true:=by kernel_rfl
theorem AfU:Gj (cl (cr (cr (cr (cr (cr (cr (cr (cr (B8)))))))))) Aam AhB yN=true:=by kernel_rfl
theorem AgH:Gj (cl (cr (cr (cr (cr (cr (cr (cr (cr (cr (B8))))))))))) yN AaY iM=true:=by kernel_rfl
noncomputable def Ahw:Bool:=match DC qF AK 3000 (cr (cr (cr (cr (cr (cr (cr (cr (cr (cr (B8))))))))))) iM with
 | some (.ret s)=>(match Aa4 fU s with | some (.val (.bool true))=>true | _=>false)
 | _=>false
theorem Ahd:Ahw=true:=by kernel_rfl
theorem Ahm:fU.body=some B8:=by kernel_rfl
theorem Aho:fU.ntmps=144:=by kernel_rfl
theorem AfF:B8 = .seq (cl (B8)) (cr (B8)):=by kernel_rfl
theorem AeE:cr (B8) = .seq (cl (cr (B8))) (cr (cr (B8))):=by kernel_rfl
theorem AeY:cr (cr (B8)) = .seq (cl (cr (cr (B8)))) (cr (cr (cr (B8)))):=by kernel_rfl
theorem AgW:cr (cr (cr (B8))) = .seq (cl (cr (cr (cr (B8))))) (cr (cr (cr (cr (B8))))):=by kernel_rfl
theorem AhQ:cr (cr (cr (cr (B8)))) = .seq (cl (cr (cr (cr (cr (B8)))))) (cr (cr (cr (cr (cr (B8)))))):=by kernel_rfl
theorem Ahh:cr (cr (cr (cr (cr (B8))))) = .seq (cl (cr (cr (cr (cr (cr (B8))))))) (cr (cr (cr (cr (cr (cr (B8))))))):=by kernel_rfl
theorem Ahi:cr (cr (cr (cr (cr (cr (B8)))))) = .seq (cl (cr (cr (cr (cr (cr (cr (B8)))))))) (cr (cr (cr (cr (cr (cr (cr (B8)))))))):=by kernel_rfl
theorem AgZ:cr (cr (cr (cr (cr (cr (cr (B8))))))) = .seq (cl (cr (cr (cr (cr (cr (cr (cr (B8))))))))) (cr (cr (cr (cr (cr (cr (cr (cr (B8))))))))):=by kernel_rfl
theorem AfY:cr (cr (cr (cr (cr (cr (cr (cr (B8)))))))) = .seq (cl (cr (cr (cr (cr (cr (cr (cr (cr (B8)))))))))) (cr (cr (cr (cr (cr (cr (cr (cr (cr (B8)))))))))):=by kernel_rfl
theorem AeT:cr (cr (cr (cr (cr (cr (cr (cr (cr (B8))))))))) = .seq (cl (cr (cr (cr (cr (cr (cr (cr (cr (cr (B8))))))))))) (cr (cr (cr (cr (cr (cr (cr (cr (cr (cr (B8))))))))))):=by kernel_rfl
theorem Vt(hT:Fo qF)(w:World):Calls Tryz.prog 10 #[] w (Aj (Am (.bool true)) w):=by
 refine Calls.mono (lF (fn:=fU) (c:=B8) (xs:=[]) (xs':=[]) (r:=.val (.bool true)) (ρ:=BP) (M:=λ_=>False) (w:=w) (vs:=[]) Tryz.func10 Ahm rfl (Nat.zero_le _) (λ_ h=>h.elim) rfl λa hS=>?_) λe w' ⟨v,e1,e2,e3⟩=>⟨v,e1,e2,e3⟩
 rw [Aho] at hS;have hm0:∀ b:Nat,False→b<w.heap.size:=λ_ h=>h.elim
 rw [AfF];refine D8 hT Ah1 hm0 hS λρ M a w1 hS=>?_
 rw [AeE];refine D8 hT AhP hm0 hS λρ M a w1 hS=>?_
 rw [AeY];refine D8 hT Agl hm0 hS λρ M a w1 hS=>?_
 rw [AgW];refine D8 hT AhH hm0 hS λρ M a w1 hS=>?_
 rw [AhQ];refine D8 hT AeK hm0 hS λρ M a w1 hS=>?_
 rw [Ahh];refine D8 hT AgS hm0 hS λρ M a w1 hS=>?_
 rw [Ahi];refine D8 hT Agf hm0 hS λρ M a w1 hS=>?_
 rw [AgZ];refine D8 hT Agk hm0 hS λρ M a w1 hS=>?_
 rw [AfY];refine D8 hT AfU hm0 hS λρ M a w1 hS=>?_
 rw [AeT];refine D8 hT AgH hm0 hS λρ M a w1 hS=>?_
 have he:=Ahd;unfold Ahw at he;split at he
 ·rename_i s hr
  refine lT hT Bp _ hS hr λρ M a w1 hS=>⟨.inr rfl,s,ρ,M,hS,?_⟩
  split at he
  ·rename_i h; exact h
  ·cases he
 ·cases he
end Go.Proofs.YtegaedfdddapnaaGreat

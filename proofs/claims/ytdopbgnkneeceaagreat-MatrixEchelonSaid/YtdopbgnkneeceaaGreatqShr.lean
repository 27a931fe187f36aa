/- The walk of shiftRight. -/
import Derived.Test.YtdopbgnkneeceaaGreatqR3
import Derived.StillTailTactics
set_option linter.unusedSectionVars false
set_option linter.unusedVariables false
set_option linter.unusedSimpArgs false
set_option maxRecDepth 100000
namespace Go.Proofs.YtdopbgnkneeceaaGreat
open Go.RowKit
theorem AdU(A:Option Addr)(n c:Nat)(ms:List Nat)(i:Int)(x:Nat)(w:World)(hn:ms.length=n)(hm:CQ w w.heap.size A ms)(hl:n≤4398046511104)(h0:0≤i)(hi:i≤4398046511104)(hx:ms.getD i.toNat 0=x) :
 Calls Tryz.prog 142 #[.slice A n c,.int .i64 i] w λe w'=>e = .returned (.int .u32 (x:Int))∧∃ m,w'=w.drewN m:=(D_ A n c ms i x w hn hm hl h0 hi hx).mono λ_ _ ⟨he,hw⟩=>⟨he,0,hw ▸ rfl⟩
theorem AgF(p q h:Nat)(hp:p<4294967296)(hq:q<4294967296):IntKind.u64.wrap ((bits .or .u64 ((q:Int)*4294967296) (p:Int)) / 2 ^ h)=(((p+4294967296*q) / 2 ^ h:Nat):Int):=by
 rw [Fr q p hq hp];have e:((q*4294967296+p:Nat):Int) / 2 ^ h=(((q*4294967296+p) / 2 ^ h:Nat):Int):=by rw [Int.natCast_ediv,Int.natCast_pow]; rfl
 have hle:=Nat.div_le_self (q*4294967296+p) (2 ^ h);rw [e,Bo _ (by omega),show q*4294967296+p=p+4294967296*q by omega]
theorem zX(p q h:Nat)(hp:p<4294967296)(hq:q<4294967296):IntKind.u32.wrap (bits .or .u64 (IntKind.u64.wrap (IntKind.u64.wrap (q:Int)*4294967296)) (IntKind.u64.wrap (p:Int)) / 2 ^ h)=(((p+4294967296*q) / 2 ^ h % 4294967296:Nat):Int):=by
 have e1:IntKind.u64.wrap (q:Int)=(q:Int):=by rw [IntKind.wrap_u64]; omega
 have e2:IntKind.u64.wrap (p:Int)=(p:Int):=by rw [IntKind.wrap_u64]; omega
 have e3:IntKind.u64.wrap ((q:Int)*4294967296)=(q:Int)*4294967296:=by rw [IntKind.wrap_u64]; omega
 rw [e1,e2,e3,Fr q p hq hp];have e:((q*4294967296+p:Nat):Int) / 2 ^ h=(((q*4294967296+p) / 2 ^ h:Nat):Int):=by rw [Int.natCast_ediv,Int.natCast_pow]; rfl
 rw [e,IntKind.wrap_u32,show q*4294967296+p=p+4294967296*q by omega];omega
theorem Dw.drew{w wr:World}{g n H k:Nat}{X:List Nat}(h:Dw w g n H X wr k):Dw w g n H X wr.drew k:=by
 obtain ⟨ds,hl,hd,hr,he,hb⟩:=h;exact ⟨ds,hl,hd,hr,he,hb.drew⟩
theorem FM{h:Nat}(hh:h<32):4294967296=2 ^ h*2 ^ (32 - h):=by rw [← Nat.pow_add,show h+(32 - h)=32 by omega]
set_option maxHeartbeats 1600000 in
theorem Mn(A:Option Addr)(n c h:Nat)(ms:List Nat)(w:World)(hn:ms.length=n)(hm:CQ w w.heap.size A ms)(h32:Bx ms)(hl:n≤1099511627776)(h0:0<n)(hh:h<32) :
  Calls Tryz.prog 148 #[.slice A n c,.int .i64 h] w λe w'=>∃(g:Nat)(ds:List Nat),e = .returned (.slice (some ⟨g,0,none⟩) n n)∧ds.length=n∧Bx ds∧Cx w' g ds∧val ds=val ms / 2 ^ h∧Below w.heap.size w w'∧w.heap.size≤g:=by
 have hmk:=λW=>Kw (n:Int) (by omega) (by omega) W
 rw [Int.toNat_natCast] at hmk;have HN:=Lib.hid hn;have H32:=Lib.hid h32;have HM:=Lib.hid hm;obtain ⟨ad,rfl,_,hca⟩:=hm.at_ (show 0<ms.length by omega);clear hca hn h32
 go_enter Tryz.func148,Tryz.ntmps148
 go_wp2_with fail
 go_loopw [12] (λi wr=>∃ k:Nat,k≤n∧i = .int .i64 k∧Dw w w.heap.size n (2 ^ h) ms wr k) (λi _=>n - (intOf i).toNat)
 case atStart=>exact ⟨0,by omega,rfl,Dw.start _ _ _ _⟩
 case round =>
  obtain ⟨k,hk,rfl,hrel⟩:=hrel;have HR:=Lib.hid hrel;clear hrel
  by_cases hlt:k<n
  ·obtain ⟨ad',e,hb0,hca⟩:=hm.at_ (show k<ms.length by have:=HN.out; omega)
   injection e with e
   subst e;have hp:=H32.out.get (show k<ms.length by have:=HN.out; omega);have gp:=At (show k<ms.length by have:=HN.out; omega);have hq:=H32.out.at_ (k+1);generalize ms[k]'(by have:=HN.out; omega)=p at *;have GP:=Lib.hid gp;obtain ⟨q,gq⟩:∃ q,ms.getD (k+1) 0=q:=⟨_,rfl⟩;rw [gq] at hq;have GQ:=Lib.hid gq;clear gp gq;obtain ⟨ds,hl',h32',hr,he,hbel⟩:=HR.out;have hca':=(hbel.cell (p:=ad.add k) (by rw [Ap]; omega)).trans hca;obtain ⟨ox,ho,hf⟩:=HR.out.cell (show k<n by omega);have HMR:=Lib.hid (HM.out.into hbel);clear hl' h32' hr he hbel hca;have b1:IntKind.i64.wrap ((k:Int)+1)=(k:Int)+1:=by rw [IntKind.wrap_i64]; omega
   have b2:(0:Int)≤(k:Int):=by omega
   have b3:(k:Int)<(n:Int):=by omega
   go_wp2_with fail
   have b4:bits .or .u64 ((q:Int)*4294967296) (p:Int)=((q*4294967296+p:Nat):Int):=Fr q p hq hp;have HMD:CQ wr.drew wr.drew.heap.size (some ad) ms:=HMR.out;have HMD':=Lib.hid HMD;clear HMD;refine wp_region_still_tail 18 (by kernel_rfl) (by kernel_rfl) ?_;simp only [List.take_succ_cons,List.take_zero,List.drop_succ_cons,List.drop_zero]
   repeat still_step
   still_call ((D_ (some ad) n c ms ((k:Int)+1) q _ HN.out HMD'.out (by omega) (by omega) (by omega) (by rw [show ((k:Int)+1).toNat=k+1 from by omega]; exact GQ.out)).mono λ_ _ ⟨he,hw⟩=>⟨he,hw.symm⟩)
   repeat still_step
   refine wpStill_nil ?_;change wpList _ _ _ _ _ wr.drew;have HRD:=Lib.hid HR.out.drew;have ho':wr.drew.cell? ⟨w.heap.size,k,none⟩=some (.int .u32 (ox:Int)):=ho;have hf':wr.drew.frozen? ⟨w.heap.size,k,none⟩=false:=hf;clear ho hf HR HMR HMD' hca';rw [zX p q h hp hq];generalize wr.drew=w2 at *
   go_wp2
   go_roundw
   case rel=>exact ⟨k+1,by omega,by go_num,HRD.out.step HN.out H32.out hlt (Nat.le_refl _) GP.out GQ.out (FM hh) (Nat.pow_pos (by decide)) _ (by first | rfl | omega)⟩
   case measure=>simp [intOf]; omega
  ·have hk':k=n:=by omega
   subst hk'
   go_wp2
   go_ret
   obtain ⟨ds,d1,d2,d3,d4,d5⟩:=HR.out.finish HN.out H32.out;exact ⟨w.heap.size,ds,rfl,d1,d2,d3,d4,d5,Nat.le_refl _⟩
end Go.Proofs.YtdopbgnkneeceaaGreat

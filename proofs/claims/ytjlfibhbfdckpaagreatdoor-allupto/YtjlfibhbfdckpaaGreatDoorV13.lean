import Derived.Test.YtjlfibhbfdckpaaGreatDoorV12
import Derived.Lib.Strings
namespace Go.Proofs.YtjlfibhbfdckpaaGreatDoor
set_option maxHeartbeats 64000000
set_option maxRecDepth 100000
section
open Go.RowKit
attribute [local go_sem ↓] Go.wp_at_zero Go.wp_at_succ
theorem zim (c:UInt8) (w:World) (b:Nat) (hb:w.cell? ⟨b,0,none⟩=some (.int .u8 c.toNat)):
 (convert 177 9 (.slice (some ⟨b,0,none⟩) 1 1)).run Tryz.prog w=.ok (.string ⟨#[c]⟩) w:=
 run_convert_bytes_back w 177 9 5 ⟨b,0,none⟩ 1 [c] Tryz.underlying177 Tryz.underlying5 Tryz.underlying9 (λj hj=>by
  obtain rfl:j=0:=by simp at hj;exact hj
  rw[Addr.add_mid];exact hb)
theorem zrA (bs bc g cap N:Nat) (s:Rs) (c:UInt8) (w:World) (h:zi w bs bc g cap N s) (ok:s.Ok) (hc:(c.toNat:Int)=13):
 Calls Tryz.prog 164 #[.pointer (some ⟨bs,0,none⟩),.int .u8 c.toNat] w (zac bs bc g w (zw s c) (.tuple #[])):=by
 have HD:Hid (zw s c=ZQ s 0 s.y):=by
  show zw s c=ZQ s 0 s.y;unfold zw;rw[if_pos hc]
 have HR:=zH h;have Hok:=zH ok;have hc256:c.toNat<256:=c.toNat_lt;have x0:=ok.x0;have x1:=ok.x1;have w40:=ok.w2;clear h ok;have k13:((c.toNat:Int)==13)=true:=by simp;omega
 have f4:=HR.out.f4;clear hc;go_in;go_wp2_with fail;go_at_call 91;refine(zdU bs bc g cap N s 0 s.y _ HR.out).mono ?_;rintro e w5 ⟨rfl,R5,K5⟩;have R9:zi w5 bs bc g cap N (zw s c):=by rw[HD.out];exact R5
 have K6:zd (λi=>i=bs\/i=bc\/i=g) w w5:=K5.mono (λi hi=>.inl hi);clear R5 K5;go_wp2_with fail;go_end0;exact Z5 R9 K6 (.inl rfl)
theorem zrB (bs bc g cap N:Nat) (s:Rs) (c:UInt8) (w:World) (h:zi w bs bc g cap N s) (ok:s.Ok) (hc:(c.toNat:Int)=10):
 Calls Tryz.prog 164 #[.pointer (some ⟨bs,0,none⟩),.int .u8 c.toNat] w (zac bs bc g w (zw s c) (.tuple #[])):=by
 have HD:Hid (zw s c=zt s):=by
  show zw s c=zt s;unfold zw;rw[if_neg (by omega),if_pos hc]
 have HR:=zH h;have Hok:=zH ok;have hc256:c.toNat<256:=c.toNat_lt;have x0:=ok.x0;have x1:=ok.x1;have w40:=ok.w2;clear h ok;have k13:((c.toNat:Int)==13)=false:=by simp;omega
 have k10:((c.toNat:Int)==10)=true:=by simp;omega
 clear hc;go_in;go_wp2_with fail;go_at_call 190;refine(zgx bs bc g cap N s _ HR.out (zjw Hok.out)).mono ?_;rintro e w5 ⟨g5,cap5,N5,rfl,R5,K5,hg5⟩;have R9:zi w5 bs bc g5 cap5 N5 (zw s c):=by rw[HD.out];exact R5
 have Hg:=zH hg5;clear R5 hg5;go_wp2_with fail;go_end0;exact Z5 R9 K5 Hg.out
theorem zti (bs bc g cap N:Nat) (s:Rs) (c:UInt8) (w:World) (h:zi w bs bc g cap N s) (ok:s.Ok) (hc:(c.toNat:Int)=8):
 Calls Tryz.prog 164 #[.pointer (some ⟨bs,0,none⟩),.int .u8 c.toNat] w (zac bs bc g w (zw s c) (.tuple #[])):=by
 have HD:Hid (zw s c=ZQ s (s.x-1) s.y):=by
  show zw s c=ZQ s (s.x-1) s.y;unfold zw;rw[if_neg (by omega),if_neg (by omega),if_pos hc]
 have HR:=zH h;have Hok:=zH ok;have hc256:c.toNat<256:=c.toNat_lt;have x0:=ok.x0;have x1:=ok.x1;have w40:=ok.w2;clear h ok;have k13:((c.toNat:Int)==13)=false:=by simp;omega
 have k10:((c.toNat:Int)==10)=false:=by simp;omega
 have k8:((c.toNat:Int)==8)=true:=by simp;omega
 have f3:=HR.out.f3;have f4:=HR.out.f4;have hwr:IntKind.i64.wrap (s.x-1)=s.x-1:=zm _ (by omega) (by omega);clear hc;go_in;go_wp2_with fail;go_region_with (first|(go_at_call 91;refine(zdU bs bc g cap N s (s.x-1) s.y _ HR.out.drew).mono ?_;rintro e w5 ⟨rfl,R5,K5⟩));all_goals
  have R9:zi w5 bs bc g cap N (zw s c):=by rw[HD.out];exact R5
  have K6:zd (λi=>i=bs\/i=bc\/i=g) w w5:=(⟨K5.os,K5.tape,K5.output,K5.size,K5.block⟩:zd (λi=>i=bs) w w5).mono (λi hi=>.inl hi);clear R5 K5;go_wp2_with fail;go_end0;exact Z5 R9 K6 (.inl rfl)
theorem zrC (bs bc g cap N:Nat) (s:Rs) (c:UInt8) (w:World) (h:zi w bs bc g cap N s) (ok:s.Ok) (hc:(c.toNat:Int)=27):
 Calls Tryz.prog 164 #[.pointer (some ⟨bs,0,none⟩),.int .u8 c.toNat] w (zac bs bc g w (zw s c) (.tuple #[])):=by
 have HD:Hid (zw s c={s with B:=⟨#[27]⟩}):=by
  show zw s c={s with B:=⟨#[27]⟩};unfold zw;rw[if_neg (by omega),if_neg (by omega),if_neg (by omega),if_pos hc]
 have HR:=zH h;have Hok:=zH ok;have hc256:c.toNat<256:=c.toNat_lt;have x0:=ok.x0;have x1:=ok.x1;have w40:=ok.w2;clear h ok;have k13:((c.toNat:Int)==13)=false:=by simp;omega
 have k10:((c.toNat:Int)==10)=false:=by simp;omega
 have k8:((c.toNat:Int)==8)=false:=by simp;omega
 have k27:((c.toNat:Int)==27)=true:=by simp;omega
 have f14:=HR.out.f14;have fr:=HR.out.free;clear hc;go_in;go_wp2_with fail;go_end0;have R9:zi (w.setCell ⟨bs,14,none⟩ (.string ⟨#[27]⟩)) bs bc g cap N (zw s c):=by rw[HD.out];exact HR.out.setB _
 exact Z5 R9 ((zd.refl _ w).setCell ⟨bs,14,none⟩ _ (λ_=>.inl rfl)) (.inl rfl)
theorem zpn (bs bc g cap N:Nat) (s:Rs) (c:UInt8) (w:World) (h:zi w bs bc g cap N s) (ok:s.Ok) (h1:32<=(c.toNat:Int)) (h2:(c.toNat:Int)<=126):
 Calls Tryz.prog 164 #[.pointer (some ⟨bs,0,none⟩),.int .u8 c.toNat] w (zac bs bc g w (zw s c) (.tuple #[])):=by
 have HD:Hid (zw s c=zba s c.toNat):=by
  show zw s c=zba s c.toNat;unfold zw;rw[if_neg (by omega),if_neg (by omega),if_neg (by omega),if_neg (by omega),if_pos ⟨h1,h2⟩]
 have HR:=zH h;have Hok:=zH ok;have hc256:c.toNat<256:=c.toNat_lt;have x0:=ok.x0;have x1:=ok.x1;have w40:=ok.w2;clear h ok;have k13:((c.toNat:Int)==13)=false:=by simp;omega
 have k10:((c.toNat:Int)==10)=false:=by simp;omega
 have k8:((c.toNat:Int)==8)=false:=by simp;omega
 have k27:((c.toNat:Int)==27)=false:=by simp;omega
 go_in;go_wp2_with fail;go_at_call 165;refine(zrz bs bc g cap N s c.toNat _ HR.out Hok.out (by omega) (by omega)).mono ?_;rintro e w5 ⟨g5,cap5,N5,rfl,R5,K5,hg5⟩;have R9:zi w5 bs bc g5 cap5 N5 (zw s c):=by rw[HD.out];exact R5
 have Hg:=zH hg5;clear R5 hg5;go_wp2_with fail;go_end0;exact Z5 R9 K5 Hg.out
theorem zmR (bs bc g cap N:Nat) (s:Rs) (c:UInt8) (w:World) (h:zi w bs bc g cap N s) (ok:s.Ok) (h1:126<(c.toNat:Int)) (h2:0<zQ c.toNat):
 Calls Tryz.prog 164 #[.pointer (some ⟨bs,0,none⟩),.int .u8 c.toNat] w (zac bs bc g w (zw s c) (.tuple #[])):=by
 have HD:Hid (zw s c={s with B:=⟨#[c]⟩}):=by
  show zw s c={s with B:=⟨#[c]⟩};unfold zw;rw[if_neg (by omega),if_neg (by omega),if_neg (by omega),if_neg (by omega),if_neg (by omega),if_pos h2]
 have HR:=zH h;have Hok:=zH ok;have hc256:c.toNat<256:=c.toNat_lt;have x0:=ok.x0;have x1:=ok.x1;have w40:=ok.w2;clear h ok;have k13:((c.toNat:Int)==13)=false:=by simp;omega
 have k10:((c.toNat:Int)==10)=false:=by simp;omega
 have k8:((c.toNat:Int)==8)=false:=by simp;omega
 have k27:((c.toNat:Int)==27)=false:=by simp;omega
 have f14:=HR.out.f14;have fr:=HR.out.free;have l:=HR.out.lt;go_in;go_wp2_with fail;go_at_call 134;refine sM (zfK c.toNat _ (by omega) (by omega)) ?_;have hcv:=zim c (w.alloc (.cells #[.int .u8 c.toNat] 5)) w.heap.size (za (zf w _) 0);go_wp2_with fail;go_end0;have R9:zi ((w.setCell ⟨bs,14,none⟩ (.string ⟨#[c]⟩)).alloc (.cells #[.int .u8 c.toNat] 5)) bs bc g cap N (zw s c):=by rw[HD.out];exact(HR.out.setB _).below ((Below.refl _ _).alloc (Nat.le_refl _) _)
 exact Z5 R9 (((zd.refl _ w).setCell ⟨bs,14,none⟩ _ (λ_=>.inl rfl)).alloc _) (.inl rfl)
theorem zmS (bs bc g cap N:Nat) (s:Rs) (c:UInt8) (w:World) (h:zi w bs bc g cap N s) (ok:s.Ok) (h1:(c.toNat:Int)<32) (n13:(c.toNat:Int)≠13) (n10:(c.toNat:Int)≠10) (n8:(c.toNat:Int)≠8) (n27:(c.toNat:Int)≠27):
 Calls Tryz.prog 164 #[.pointer (some ⟨bs,0,none⟩),.int .u8 c.toNat] w (zac bs bc g w (zw s c) (.tuple #[])):=by
 have HD:Hid (zw s c=zbn s):=by
  show zw s c=zbn s;unfold zw;rw[if_neg n13,if_neg n10,if_neg n8,if_neg n27,if_neg (by omega),if_neg (by unfold zQ;rw[if_neg (by omega),if_neg (by omega),if_neg (by omega)];decide)]
 have HR:=zH h;have Hok:=zH ok;have hc256:c.toNat<256:=c.toNat_lt;have x0:=ok.x0;have x1:=ok.x1;have w40:=ok.w2;clear h ok;have k13:((c.toNat:Int)==13)=false:=by simp;omega
 have k10:((c.toNat:Int)==10)=false:=by simp;omega
 have k8:((c.toNat:Int)==8)=false:=by simp;omega
 have k27:((c.toNat:Int)==27)=false:=by simp;omega
 have f15:=HR.out.f15;have fr:=HR.out.free;have l:=HR.out.lt;have hl:zQ c.toNat=0:=by unfold zQ;rw[if_neg (by omega),if_neg (by omega),if_neg (by omega)]
 clear n13 n10 n8 n27;go_in;go_wp2_with fail;go_at_call 134;refine sM (zfK c.toNat _ (by omega) (by omega)) ?_;go_wp2_with fail;go_end0;have R9:zi (w.setCell ⟨bs,15,none⟩ (.int .i64 (wrap64 (s.odd+1)))) bs bc g cap N (zw s c):=by rw[HD.out];exact HR.out.setOdd _
 exact Z5 R9 ((zd.refl _ w).setCell ⟨bs,15,none⟩ _ (λ_=>.inl rfl)) (.inl rfl)
theorem zmT (bs bc g cap N:Nat) (s:Rs) (c:UInt8) (w:World) (h:zi w bs bc g cap N s) (ok:s.Ok) (h1:126<(c.toNat:Int)) (hl:zQ c.toNat=0):
 Calls Tryz.prog 164 #[.pointer (some ⟨bs,0,none⟩),.int .u8 c.toNat] w (zac bs bc g w (zw s c) (.tuple #[])):=by
 have HD:Hid (zw s c=zbn s):=by
  show zw s c=zbn s;unfold zw;rw[if_neg (by omega),if_neg (by omega),if_neg (by omega),if_neg (by omega),if_neg (by omega),if_neg (by rw[hl];decide)]
 have HR:=zH h;have Hok:=zH ok;have hc256:c.toNat<256:=c.toNat_lt;have x0:=ok.x0;have x1:=ok.x1;have w40:=ok.w2;clear h ok;have k13:((c.toNat:Int)==13)=false:=by simp;omega
 have k10:((c.toNat:Int)==10)=false:=by simp;omega
 have k8:((c.toNat:Int)==8)=false:=by simp;omega
 have k27:((c.toNat:Int)==27)=false:=by simp;omega
 have f15:=HR.out.f15;have fr:=HR.out.free;have l:=HR.out.lt;go_in;go_wp2_with fail;go_at_call 134;refine sM (zfK c.toNat _ (by omega) (by omega)) ?_;go_wp2_with fail;go_end0;have R9:zi (w.setCell ⟨bs,15,none⟩ (.int .i64 (wrap64 (s.odd+1)))) bs bc g cap N (zw s c):=by rw[HD.out];exact HR.out.setOdd _
 exact Z5 R9 ((zd.refl _ w).setCell ⟨bs,15,none⟩ _ (λ_=>.inl rfl)) (.inl rfl)
theorem zjs (bs bc g cap N:Nat) (s:Rs) (c:UInt8) (w:World) (h:zi w bs bc g cap N s) (ok:s.Ok):
 Calls Tryz.prog 164 #[.pointer (some ⟨bs,0,none⟩),.int .u8 c.toNat] w (zac bs bc g w (zw s c) (.tuple #[])):=by
 have hc256:c.toNat<256:=c.toNat_lt;by_cases h13:(c.toNat:Int)=13
 ·exact zrA bs bc g cap N s c w h ok h13
 by_cases h10:(c.toNat:Int)=10
 ·exact zrB bs bc g cap N s c w h ok h10
 by_cases h8:(c.toNat:Int)=8
 ·exact zti bs bc g cap N s c w h ok h8
 by_cases h27:(c.toNat:Int)=27
 ·exact zrC bs bc g cap N s c w h ok h27
 by_cases h1:(c.toNat:Int)<32
 ·exact zmS bs bc g cap N s c w h ok h1 h13 h10 h8 h27
 by_cases h2:(c.toNat:Int)<=126
 ·exact zpn bs bc g cap N s c w h ok (by omega) h2
 by_cases h3:0<zQ c.toNat
 ·exact zmR bs bc g cap N s c w h ok (by omega) h3
 ·refine zmT bs bc g cap N s c w h ok (by omega) ?_;unfold zQ at h3 ⊢;split at h3
  ·omega
  ·split at h3
   ·omega
   ·split at h3
    ·omega
    ·rw[if_neg (by assumption),if_neg (by assumption),if_neg (by assumption)]
theorem zw5 (bs bc g cap N:Nat) (s:Rs) (c:UInt8) (w:World) (h:zi w bs bc g cap N s) (ok:s.Ok) (hB:s.B=⟨#[]⟩):
 Calls Tryz.prog 130 #[.pointer (some ⟨bs,0,none⟩),.int .u8 c.toNat] w (zac bs bc g w (zw s c) (.tuple #[])):=by
 have HR:=zH h;have Hok:=zH ok;have hc256:c.toNat<256:=c.toNat_lt;have fr:=HR.out.free;have f15:=HR.out.f15;have f14:=HR.out.f14;have l:=HR.out.lt;clear h ok;rw[hB] at f14;clear hB;go_in;go_wp2_with fail;go_at_call 164;refine(zjs bs bc g cap N s c _ HR.out Hok.out).mono ?_;rintro e w5 ⟨g5,cap5,N5,rfl,R5,K5,hg5⟩;have HR5:=zH R5;have Hg:=zH hg5;have K6:=K5;clear R5 hg5;go_wp2_with fail;go_end0;exact Z5 HR5.out K6 Hg.out
theorem zuZ (bs bc g cap N:Nat) (s:Rs) (c:UInt8) (w:World) (h:zi w bs bc g cap N s) (hB:s.B=⟨#[27]⟩) (hc:(c.toNat:Int)=91):
 Calls Tryz.prog 130 #[.pointer (some ⟨bs,0,none⟩),.int .u8 c.toNat] w (zac bs bc g w ({s with B:=⟨#[27,91]⟩}) (.tuple #[])):=by
 have HR:=zH h;have hc0:c.toNat<257:=by have:=c.toNat_lt;omega
 have hc256:c.toNat<256:=c.toNat_lt;have fr:=HR.out.free;have f15:=HR.out.f15;have f14:=HR.out.f14;have l:=HR.out.lt;clear h;rw[hB] at f14;clear hB;have e0:(({data:=#[27]}:ByteArray)[0]'(Nat.one_pos)).toNat=27:=rfl;have k91:((c.toNat:Int)==91)=true:=by simp;omega
 clear hc;go_in;go_wp2_with fail;go_end0;exact Z5 (HR.out.setB ⟨#[27,91]⟩) ((zd.refl _ w).setCell ⟨bs,14,none⟩ _ (λ_=>.inl rfl)) (.inl rfl)
theorem zu0 (bs bc g cap N:Nat) (s:Rs) (c:UInt8) (w:World) (h:zi w bs bc g cap N s) (hB:s.B=⟨#[27]⟩) (hc:(c.toNat:Int)=27):
 Calls Tryz.prog 130 #[.pointer (some ⟨bs,0,none⟩),.int .u8 c.toNat] w (zac bs bc g w (zbn s) (.tuple #[])):=by
 have HR:=zH h;have hc0:c.toNat<257:=by have:=c.toNat_lt;omega
 have hc256:c.toNat<256:=c.toNat_lt;have fr:=HR.out.free;have f15:=HR.out.f15;have f14:=HR.out.f14;have l:=HR.out.lt;clear h;rw[hB] at f14;clear hB;have e0:(({data:=#[27]}:ByteArray)[0]'(Nat.one_pos)).toNat=27:=rfl;have k91:((c.toNat:Int)==91)=false:=by simp;omega
 have k27:((c.toNat:Int)==27)=true:=by simp;omega
 clear hc;go_in;go_wp2_with fail;go_end0;exact Z5 (s:=zbn s) (HR.out.setOdd _) ((zd.refl _ w).setCell ⟨bs,15,none⟩ _ (λ_=>.inl rfl)) (.inl rfl)
theorem zwl (bs bc g cap N:Nat) (s:Rs) (c:UInt8) (w:World) (h:zi w bs bc g cap N s) (hB:s.B=⟨#[27]⟩) (hc:(c.toNat:Int)≠91) (hc':(c.toNat:Int)≠27):
 Calls Tryz.prog 130 #[.pointer (some ⟨bs,0,none⟩),.int .u8 c.toNat] w (zac bs bc g w (zbn {s with B:=⟨#[]⟩}) (.tuple #[])):=by
 have HR:=zH h;have hc0:c.toNat<257:=by have:=c.toNat_lt;omega
 have hc256:c.toNat<256:=c.toNat_lt;have fr:=HR.out.free;have f15:=HR.out.f15;have f14:=HR.out.f14;have l:=HR.out.lt;clear h;rw[hB] at f14;clear hB;have e0:(({data:=#[27]}:ByteArray)[0]'(Nat.one_pos)).toNat=27:=rfl;have k91:((c.toNat:Int)==91)=false:=by simp;omega
 have k27:((c.toNat:Int)==27)=false:=by simp;omega
 clear hc hc';go_in;go_wp2_with fail;go_end0;exact Z5 (s:=zbn {s with B:=⟨#[]⟩}) ((HR.out.setB ⟨#[]⟩).setOdd (wrap64 (s.odd+1))) (((zd.refl _ w).setCell ⟨bs,14,none⟩ _ (λ_=>.inl rfl)).setCell ⟨bs,15,none⟩ _ (λ_=>.inl rfl)) (.inl rfl)
theorem zu1 (bs bc g cap N:Nat) (s:Rs) (c:UInt8) (bb:ByteArray) (w:World) (h:zi w bs bc g cap N s) (hB:s.B=bb) (h2:2<=bb.size) (e0:(bb[0]'(by omega)).toNat=27) (hc:(c.toNat:Int)=27):
 Calls Tryz.prog 130 #[.pointer (some ⟨bs,0,none⟩),.int .u8 c.toNat] w (zac bs bc g w (zbn {s with B:=⟨#[27]⟩}) (.tuple #[])):=by
 have HR:=zH h;have hc0:c.toNat<257:=by have:=c.toNat_lt;omega
 have hc256:c.toNat<256:=c.toNat_lt;have fr:=HR.out.free;have f15:=HR.out.f15;have f14:=HR.out.f14;have l:=HR.out.lt;clear h;rw[hB] at f14;clear hB;have hsz:0<bb.size:=by omega
 have hem:bb.toList.isEmpty=false:=by
  rw[←Bool.not_eq_true,List.isEmpty_iff];intro e;have:=congrArg List.length e;rw[ByteArray.toList_eq] at this;simp at this;rw[this] at h2;exact absurd h2 (by decide)
 have h1:((bb.size:Int)==1)=false:=by simp;omega
 have hlen:(2:Int)<=(bb.size:Int):=by omega
 have k27:((c.toNat:Int)==27)=true:=by simp;omega
 clear hc;go_in;go_wp2_with fail;go_end0;exact Z5 (s:=zbn {s with B:=⟨#[27]⟩}) ((HR.out.setB ⟨#[27]⟩).setOdd (wrap64 (s.odd+1))) (((zd.refl _ w).setCell ⟨bs,14,none⟩ _ (λ_=>.inl rfl)).setCell ⟨bs,15,none⟩ _ (λ_=>.inl rfl)) (.inl rfl)
theorem zwm (bs bc g cap N:Nat) (s:Rs) (c:UInt8) (bb:ByteArray) (w:World) (h:zi w bs bc g cap N s) (ok:s.Ok) (hB:s.B=bb) (h2:2<=bb.size) (e0:(bb[0]'(by omega)).toNat=27) (hb:bb.size<=100000000000) (c1:64<=(c.toNat:Int)) (c2:(c.toNat:Int)<=126):
 Calls Tryz.prog 130 #[.pointer (some ⟨bs,0,none⟩),.int .u8 c.toNat] w (zac bs bc g w (ze2 {s with B:=⟨#[]⟩} (bb.extract 2 bb.size) c.toNat) (.tuple #[])):=by
 have HR:=zH h;have Hok:=zH ok;have hc256:c.toNat<256:=c.toNat_lt;have fr:=HR.out.free;have f15:=HR.out.f15;have f14:=HR.out.f14;have l:=HR.out.lt;clear h ok;rw[hB] at f14;clear hB;have hsz:0<bb.size:=by omega
 have hem:bb.toList.isEmpty=false:=by
  rw[←Bool.not_eq_true,List.isEmpty_iff];intro e;have:=congrArg List.length e;rw[ByteArray.toList_eq] at this;simp at this;rw[this] at h2;exact absurd h2 (by decide)
 have h1:((bb.size:Int)==1)=false:=by simp;omega
 have hlen:(2:Int)<=(bb.size:Int):=by omega
 have k27:((c.toNat:Int)==27)=false:=by simp;omega
 have ok2:Hid (Rs.Ok {s with B:=⟨#[]⟩}):=⟨Hok.out.w1,Hok.out.w2,Hok.out.h1,Hok.out.h2,Hok.out.x0,Hok.out.x1,Hok.out.y0,Hok.out.y1,Hok.out.t0,Hok.out.tb,Hok.out.b1,Hok.out.pd,Hok.out.wf⟩;go_in;go_wp2_with fail;go_at_call 166;refine(zt0 bs bc g cap N {s with B:=⟨#[]⟩} (bb.extract 2 bb.size) c.toNat _ (HR.out.setB ⟨#[]⟩) ok2.out (by simp;omega)).mono ?_;rintro e w5 ⟨g5,cap5,N5,rfl,R5,K5,hg5⟩;have HR5:=zH R5;have Hg:=zH<|hg5.imp id (λq=>by rw[zbA] at q;exact q)
 have K6:=((zd.refl (λi=>i=bs\/i=bc\/i=g) w).setCell ⟨bs,14,none⟩ (.string ⟨#[]⟩) (λ_=>.inl rfl)).trans K5 (λ_ _ h=>h);clear R5 hg5 K5;go_wp2_with fail;go_end0;exact Z5 HR5.out K6 Hg.out
theorem zwn (bs bc g cap N:Nat) (s:Rs) (c:UInt8) (bb:ByteArray) (w:World) (h:zi w bs bc g cap N s) (hB:s.B=bb) (h2:2<=bb.size) (e0:(bb[0]'(by omega)).toNat=27) (hb:bb.size<=100000000000) (hc:(c.toNat:Int)≠27) (hcc:(c.toNat:Int)<64\/126<(c.toNat:Int)):
 Calls Tryz.prog 130 #[.pointer (some ⟨bs,0,none⟩),.int .u8 c.toNat] w (zac bs bc g w ({s with B:=bb ++ ⟨#[c]⟩}) (.tuple #[])):=by
 have HR:=zH h;have hc0:c.toNat<257:=by have:=c.toNat_lt;omega
 have hc256:c.toNat<256:=c.toNat_lt;have fr:=HR.out.free;have f15:=HR.out.f15;have f14:=HR.out.f14;have l:=HR.out.lt;clear h;rw[hB] at f14;clear hB;have hsz:0<bb.size:=by omega
 have hem:bb.toList.isEmpty=false:=by
  rw[←Bool.not_eq_true,List.isEmpty_iff];intro e;have:=congrArg List.length e;rw[ByteArray.toList_eq] at this;simp at this;rw[this] at h2;exact absurd h2 (by decide)
 have h1:((bb.size:Int)==1)=false:=by simp;omega
 have hlen:(2:Int)<=(bb.size:Int):=by omega
 have k27:((c.toNat:Int)==27)=false:=by simp;omega
 clear hc;have hcv:=zim c (w.alloc (.cells #[.int .u8 c.toNat] 5)).drew w.heap.size (za (zf w _) 0);go_in;rcases hcc with hcc|hcc;all_goals
  go_wp2_with fail;go_region;all_goals
   go_wp2_with fail;go_end0;have R9:zi ((w.setCell ⟨bs,14,none⟩ (.string (bb ++ ⟨#[c]⟩))).alloc (.cells #[.int .u8 c.toNat] 5)).drew bs bc g cap N {s with B:=bb ++ ⟨#[c]⟩}:=((HR.out.setB (bb ++ ⟨#[c]⟩)).below ((Below.refl _ _).alloc (Nat.le_refl _) _)).drew;exact Z5 R9 (((zd.refl _ w).setCell ⟨bs,14,none⟩ _ (λ_=>.inl rfl)).alloc _).drew (.inl rfl)
theorem zu2 (bs bc g cap N:Nat) (s:Rs) (c a:UInt8) (bb b1:ByteArray) (gb:Bool) (s2:Rs) (w:World) (h:zi w bs bc g cap N s) (ok:s.Ok) (hB:s.B=bb) (hsz:0<bb.size) (e0:(bb[0]'hsz).toNat=a.toNat) (hsz1:0<b1.size) (e9:(b1[0]'hsz1).toNat=a.toNat) (hadd:∀w':World,(Op.stringOp .add bb ⟨#[c]⟩).run Tryz.prog w'=.ok (.string b1) w') (a1:194<=a.toNat) (a2:a.toNat<=244) (hG:∀w,Calls Tryz.prog 135 #[.string bb,.int .u8 c.toNat] w λe w'=>e=.returned (.bool gb)/\w'=w)
 (hk:gb=false/\s2=zw (zbn {s with B:=⟨#[]⟩}) c\/gb=true/\((b1.size:Int)==zQ a.toNat)=false/\s2={s with B:=b1}\/gb=true/\((b1.size:Int)==zQ a.toNat)=true/\∃r:Int,(-2147483648<=r/\r<=2147483647)/\(∀w,Calls Tryz.prog 136 #[.string b1] w λe w'=>e=.returned (.int .i32 r)/\w'=w)/\s2=zba {s with B:=⟨#[]⟩} r):
 Calls Tryz.prog 130 #[.pointer (some ⟨bs,0,none⟩),.int .u8 c.toNat] w (zac bs bc g w s2 (.tuple #[])):=by
 have HR:=zH h;have HG:=zH hG;have hc256:c.toNat<256:=c.toNat_lt;have fr:=HR.out.free;have f15:=HR.out.f15;have f14:=HR.out.f14;have lt:=HR.out.lt;rw[hB] at f14;have hem:bb.toList.isEmpty=false:=by
  rw[←Bool.not_eq_true,List.isEmpty_iff];intro e;have:=congrArg List.length e;rw[ByteArray.toList_eq] at this;simp at this;rw[this] at hsz;exact absurd hsz (by decide)
 have hlen:(0:Int)<(bb.size:Int):=by omega
 have hlen1:(0:Int)<(b1.size:Int):=by omega
 have k27:((a.toNat:Int)==27)=false:=by simp;omega
 have kn27:((a.toNat:Int) != 27)=true:=by simp;omega
 have hcv:=zim c (w.alloc (.cells #[.int .u8 c.toNat] 5)).drew w.heap.size (za (zf w _) 0);have ok2:Hid (Rs.Ok {s with B:=⟨#[]⟩}):=⟨ok.w1,ok.w2,ok.h1,ok.h2,ok.x0,ok.x1,ok.y0,ok.y1,ok.t0,ok.tb,ok.b1,ok.pd,ok.wf⟩;have ok3:Hid (Rs.Ok (zbn {s with B:=⟨#[]⟩})):=⟨ok.w1,ok.w2,ok.h1,ok.h2,ok.x0,ok.x1,ok.y0,ok.y1,ok.t0,ok.tb,ok.b1,ok.pd,ok.wf⟩;clear h ok hB hG;have HK:=zH hk;clear hk;go_in;go_wp2_with fail;go_at_call 135;refine sM (HG.out _) ?_;rcases HK.out with⟨rfl,rfl⟩|⟨rfl,hl1,hk⟩|⟨rfl,hl1,r,hr0,hL,rfl⟩
 ·clear HK;go_wp2_with fail;go_at_call 164;refine(zjs bs bc g cap N (zbn {s with B:=⟨#[]⟩}) c _ ((HR.out.setB ⟨#[]⟩).setOdd (wrap64 (s.odd+1))) ok3.out).mono ?_;rintro e w5 ⟨g5,cap5,N5,rfl,R5,K5,hg5⟩;have HR5:=zH R5;have Hg:=zH<|hg5.imp id (λq=>by rw[zbA,zbA] at q;exact q)
  have K6:=(((zd.refl (λi=>i=bs\/i=bc\/i=g) w).setCell ⟨bs,14,none⟩ (.string ⟨#[]⟩) (λ_=>.inl rfl)).setCell ⟨bs,15,none⟩ (.int .i64 (wrap64 (s.odd+1))) (λ_=>.inl rfl)).trans K5 (λ_ _ h=>h);clear R5 hg5 K5;go_wp2_with fail;exact bodyPost_ret (v:=.tuple #[]) (by simp[results,Tryz.results130,go_sem]) rfl (Z5 HR5.out K6 Hg.out)
 all_goals
  clear HK;try replace hk:=zH hk
  try replace hL:=zH hL
  try replace hr0:=zH hr0
  go_wp2_with fail;go_region;all_goals
   have R2:zi ((w.setCell ⟨bs,14,none⟩ (.string b1)).alloc (.cells #[.int .u8 c.toNat] 5)).drew bs bc g cap N {s with B:=b1}:=((HR.out.setB b1).below ((Below.refl _ _).alloc (Nat.le_refl _) _)).drew;have K2:zd (λi=>i=bs\/i=bc\/i=g) w ((w.setCell ⟨bs,14,none⟩ (.string b1)).alloc (.cells #[.int .u8 c.toNat] 5)).drew:=(((zd.refl _ w).setCell ⟨bs,14,none⟩ _ (λ_=>.inl rfl)).alloc _).drew;generalize ((w.setCell ⟨bs,14,none⟩ (.string b1)).alloc (.cells #[.int .u8 c.toNat] 5)).drew=w2 at *;have HR2:=zH R2;have g14:w2.cell? ⟨bs,14,none⟩=some (.string b1):=R2.f14;have gfr:=R2.free;clear R2 hcv hadd f14 fr f15 HR;go_wp2_with fail;go_quiet ((go_at_call 134;exact Calls.quiet_of_same (zfK _ _ (by omega) (by omega))));have HR3:=zH<|HR2.out.drewN nq
   have K3:=K2.drewN nq;generalize w2.drewN nq=w3 at *;have h14:w3.cell? ⟨bs,14,none⟩=some (.string b1):=HR3.out.f14;have hfr:=HR3.out.free;clear g14 gfr HR2 K2;go_wp2_with fail;first
    |(go_end0
      rw[hk.out];exact Z5 HR3.out K3 (.inl rfl))
    |(go_at_call 136
      refine sM (hL.out _) ?_;go_wp2_with fail;go_at_call 165;refine(zrz bs bc g cap N {s with B:=⟨#[]⟩} r _ (HR3.out.setB ⟨#[]⟩) ok2.out hr0.out.1 hr0.out.2).mono ?_;rintro e w5 ⟨g5,cap5,N5,rfl,R5,K5,hg5⟩;have HR5:=zH R5;have sz3:=K3.size;have Hg:Hid (g5=g\/w.heap.size<=g5):=hg5.imp id (λq=>by rw[zbA] at q;omega);have K6:=(K3.setCell ⟨bs,14,none⟩ (.string ⟨#[]⟩) (λ_=>.inl rfl)).trans K5 (λ_ _ h=>h);clear R5 hg5 K5;go_wp2_with fail;go_end0;exact Z5 HR5.out K6 Hg.out)
theorem zu3 (bs bc g cap N:Nat) (s:Rs) (c:UInt8) (w:World) (h:zi w bs bc g cap N s) (ok:s.Ok) (hB:BOk s.B) (hb:s.B.size<=100000000000):
 Calls Tryz.prog 130 #[.pointer (some ⟨bs,0,none⟩),.int .u8 c.toNat] w (zac bs bc g w (za3 s c) (.tuple #[])):=by
 unfold za3;have ne27:∀a:UInt8,194<=a.toNat->a≠27:=λa h q=>by rw[q] at h;exact absurd h (by decide)
 rcases hB with e|e|⟨l,e⟩|⟨a,e,a1,a2⟩|⟨a,b,e,a1,a2,b1,b2⟩|⟨a,b,d,e,a1,a2,b1,b2,d1,d2⟩
 ·rw[e];exact zw5 bs bc g cap N s c w h ok e
 ·rw[e];show Calls _ _ _ _ (zac bs bc g w (ziw s c) (.tuple #[]));unfold ziw;by_cases c1:(c.toNat:Int)=91
  ·rw[if_pos c1];exact zuZ bs bc g cap N s c w h e c1
  ·rw[if_neg c1];by_cases c2:(c.toNat:Int)=27
   ·rw[if_pos c2];exact zu0 bs bc g cap N s c w h e c2
   ·rw[if_neg c2];exact zwl bs bc g cap N s c w h e c1 c2
 ·have hsz:s.B.size=l.length+2:=by rw[e,ziH];rfl
  rw[e] at hb;rw[e];show Calls _ _ _ _ (zac bs bc g w (zbW s l c) (.tuple #[]));have h2:2<=(⟨(27::91::l).toArray⟩:ByteArray).size:=by rw[ziH];simp
  unfold zbW;by_cases c1:(c.toNat:Int)=27
  ·rw[if_pos c1];exact zu1 bs bc g cap N s c ⟨(27::91::l).toArray⟩ w h e h2 rfl c1
  ·rw[if_neg c1];by_cases c2:64<=(c.toNat:Int)/\(c.toNat:Int)<=126
   ·rw[if_pos c2];have ex:(⟨(27::91::l).toArray⟩:ByteArray).extract 2 (⟨(27::91::l).toArray⟩:ByteArray).size=⟨l.toArray⟩:=by
     apply Go.WideShapes.bytes_inj;rw[Lib.extract_data];simp[ByteArray.size]
    rw[←ex];exact zwm bs bc g cap N s c ⟨(27::91::l).toArray⟩ w h ok e h2 rfl hb c2.1 c2.2
   ·rw[if_neg c2];have ea:(⟨(27::91::l).toArray⟩:ByteArray) ++ ⟨#[c]⟩=⟨(27::91::l ++ [c]).toArray⟩:=by
     apply Go.WideShapes.bytes_inj;simp
    rw[←ea];exact zwn bs bc g cap N s c ⟨(27::91::l).toArray⟩ w h e h2 rfl hb c1 (by omega)
 ·rw[e];show Calls _ _ _ _ (zac bs bc g w (if a=27 then _ else zbc s a [] c) (.tuple #[]));rw[if_neg (ne27 a a1)];have hc256:c.toNat<256:=c.toNat_lt;have X:=λs2=>zu2 bs bc g cap N s c a ⟨#[a]⟩ ⟨#[a,c]⟩ _ s2 w h ok e (show 0<1 by decide) rfl (show 0<2 by decide) rfl (λw'=>run_string_add_sum (P:=Tryz.prog) w' ⟨#[a]⟩ ⟨#[c]⟩ (by show 1+1<=_;decide)) (by omega) a2 (λw=>zhE a c.toNat w (by omega) (by omega));unfold zbc;cases hg:zq [a] c.toNat with
  |false=>rw[if_pos rfl];exact X _ (.inl ⟨hg,rfl⟩)
  |true=>
   have:=zdy hg;rw[if_neg (by decide)];by_cases hl:zQ a.toNat=2
   ·rw[if_pos (show zQ (a.toNat:Int)=((([]:List UInt8).length+2:Nat):Int) from hl)];have v:=Zk a.toNat;exact X _ (.inr (.inr ⟨hg,by rw[hl];rfl,_,by unfold Zn;simp only;omega,λw=>zhH a c w a1 (by omega) this.1 this.2,rfl⟩))
   ·rw[if_neg (show¬zQ (a.toNat:Int)=((([]:List UInt8).length+2:Nat):Int) from hl)];exact X _ (.inr (.inl ⟨hg,beq_false_of_ne (λq=>hl q.symm),rfl⟩))
 ·rw[e];show Calls _ _ _ _ (zac bs bc g w (if a=27 then _ else zbc s a [b] c) (.tuple #[]));rw[if_neg (ne27 a (by omega))];have hc256:c.toNat<256:=c.toNat_lt;have X:=λs2=>zu2 bs bc g cap N s c a ⟨#[a,b]⟩ ⟨#[a,b,c]⟩ _ s2 w h ok e (show 0<2 by decide) rfl (show 0<3 by decide) rfl (λw'=>run_string_add_sum (P:=Tryz.prog) w' ⟨#[a,b]⟩ ⟨#[c]⟩ (by show 2+1<=_;decide)) (by omega) a2 (λw=>zhF a b c.toNat w (by omega) (by omega));unfold zbc;cases hg:zq [a,b] c.toNat with
  |false=>rw[if_pos rfl];exact X _ (.inl ⟨hg,rfl⟩)
  |true=>
   have:=zdy hg;rw[if_neg (by decide)];by_cases hl:zQ a.toNat=3
   ·rw[if_pos (show zQ (a.toNat:Int)=((([b]:List UInt8).length+2:Nat):Int) from hl)];have v:=Zk a.toNat;exact X _ (.inr (.inr ⟨hg,by rw[hl];rfl,_,by unfold Zn;simp only;omega,λw=>zhI a b c w a1 (by omega) b1 b2 this.1 this.2,rfl⟩))
   ·rw[if_neg (show¬zQ (a.toNat:Int)=((([b]:List UInt8).length+2:Nat):Int) from hl)];exact X _ (.inr (.inl ⟨hg,beq_false_of_ne (λq=>hl q.symm),rfl⟩))
 ·rw[e];show Calls _ _ _ _ (zac bs bc g w (if a=27 then _ else zbc s a [b,d] c) (.tuple #[]));rw[if_neg (ne27 a (by omega))];have hc256:c.toNat<256:=c.toNat_lt;have X:=λs2=>zu2 bs bc g cap N s c a ⟨#[a,b,d]⟩ ⟨#[a,b,d,c]⟩ _ s2 w h ok e (show 0<3 by decide) rfl (show 0<4 by decide) rfl (λw'=>run_string_add_sum (P:=Tryz.prog) w' ⟨#[a,b,d]⟩ ⟨#[c]⟩ (by show 3+1<=_;decide)) (by omega) a2 (λw=>zhG a b d c.toNat w (by omega) (by omega));unfold zbc;cases hg:zq [a,b,d] c.toNat with
  |false=>rw[if_pos rfl];exact X _ (.inl ⟨hg,rfl⟩)
  |true=>
   have:=zdy hg;rw[if_neg (by decide)];by_cases hl:zQ a.toNat=4
   ·rw[if_pos (show zQ (a.toNat:Int)=((([b,d]:List UInt8).length+2:Nat):Int) from hl)];have v:=Zk a.toNat;exact X _ (.inr (.inr ⟨hg,by rw[hl];rfl,_,by unfold Zn;simp only;omega,λw=>zhJ a b d c w a1 a2 b1 b2 d1 d2 this.1 this.2,rfl⟩))
   ·rw[if_neg (show¬zQ (a.toNat:Int)=((([b,d]:List UInt8).length+2:Nat):Int) from hl)];exact X _ (.inr (.inl ⟨hg,beq_false_of_ne (λq=>hl q.symm),rfl⟩))
theorem zmU (b:ByteArray) (w:World):
 Calls Tryz.prog 72 #[.pointer none,.string b] w λe w'=>e=.returned (.tuple #[])/\w'=w:=by
 by_cases hz:0<b.size
 ·have hz':(0:Int)<(b.size:Int):=by omega
  go_in;go_wp2_with fail;refine wp_loop_rounds 1 ?_;rw[rounds_succ];go_wp2_with fail;go_end0;exact⟨rfl,rfl⟩
 ·have hz':(b.size:Int)<=0:=by omega
  go_in;go_wp2_with fail;refine wp_loop_rounds 1 ?_;rw[rounds_succ];go_wp2_with fail;go_end0;exact⟨rfl,rfl⟩
theorem zhe (bs bc g cap N:Nat) (s:Rs) (b:ByteArray) (w:World) (h:zi w bs bc g cap N s) (ok:s.Ok) (hB:BOk s.B) (hb:s.B.size+b.size<=100000000000):
 Calls Tryz.prog 72 #[.pointer (some ⟨bs,0,none⟩),.string b] w (zac bs bc g w (zj s b.data.toList) (.tuple #[])):=by
 have HR:=zH h;have Hok:=zH ok;have HB:=zH hB;have bl:=h.lt;have cl:=h.cels.lt;clear h ok hB;go_in;go_wp2_with fail;go_loopw[4] (λi w'=>∃(k gc cc Nc:Nat),k<=b.size/\i=.int .i64 k/\zi w' bs bc gc cc Nc (zj s (b.data.toList.take k))/\zd (λi=>i=bs\/i=bc\/i=g) w w'/\(gc=g\/w.heap.size<=gc)/\(zj s (b.data.toList.take k)).Ok/\BOk (zj s (b.data.toList.take k)).B/\(zj s (b.data.toList.take k)).B.size<=s.B.size+k) (λi _=>b.size-(intOf i).toNat)
 case atStart=>exact⟨0,g,cap,N,by omega,rfl,HR.out,zd.refl _ _,.inl rfl,Hok.out,HB.out,Nat.le_refl _⟩
 case round=>
  obtain⟨k,gc,cc,Nc,hk,rfl,hR,hK,hg,hO,hB,hS⟩:=hrel;have HR5:=zH hR;have Hg5:=zH hg;have HO5:=zH hO;have HB5:=zH hB;have HS5:=zH hS;clear hR hg hO hB hS HR Hok HB;by_cases hlt:k<b.size
  ·have hnx:zj s (b.data.toList.take (k+1))=za3 (zj s (b.data.toList.take k)) b[k]:=by
    unfold zj;rw[zbK b k hlt,List.foldl_append];rfl
   have Hnx:=zH hnx;clear hnx;have hlt':(k:Int)<(b.size:Int):=by omega
   go_wp2_with fail;go_at_call 130;refine(zu3 bs bc gc cc Nc (zj s (b.data.toList.take k)) b[k] _ HR5.out HO5.out HB5.out (by have:=HS5.out;omega)).mono ?_;rintro e w5 ⟨g5,cap5,N5,rfl,R5,K5,hg5⟩;have HR6:Hid (zi w5 bs bc g5 cap5 N5 (zj s (b.data.toList.take (k+1)))):=by show zi w5 bs bc g5 cap5 N5 (zj s (b.data.toList.take (k+1)));rw[Hnx.out];exact R5
   have K6:=hK.trans K5 (λi hi hj=>by
    have:=Hg5.out;rcases hj with q1|q1|q1
    ·exact .inl q1
    ·exact .inr (.inl q1)
    ·rcases this with q2|q2
     ·exact .inr (.inr (q1.trans q2))
     ·omega)
   have Hg6:Hid (g5=g\/w.heap.size<=g5):=by
    show g5=g\/w.heap.size<=g5;have:=Hg5.out;have:=hK.size;omega
   have HO6:Hid (zj s (b.data.toList.take (k+1))).Ok:=by show(zj s (b.data.toList.take (k+1))).Ok;rw[Hnx.out];exact HO5.out.one _
   have HB6:Hid (BOk (zj s (b.data.toList.take (k+1))).B):=by show BOk (zj s (b.data.toList.take (k+1))).B;rw[Hnx.out];exact ztx HB5.out _
   have HS6:Hid ((zj s (b.data.toList.take (k+1))).B.size<=s.B.size+(k+1)):=by
    show(zj s (b.data.toList.take (k+1))).B.size<=s.B.size+(k+1);rw[Hnx.out];have:=zkx HB5.out b[k];have:=HS5.out;omega
   clear R5 K5 hg5;go_wp2_with fail;go_roundw
   case rel=>exact⟨k+1,g5,cap5,N5,by omega,by go_num,HR6.out,K6,Hg6.out,HO6.out,HB6.out,HS6.out⟩
   case measure=>simp[intOf];omega
  ·have hke:=zH<|List.take_of_length_le (by show b.size<=k;omega)
   have hlt':(b.size:Int)<=(k:Int):=by omega
   go_wp2_with fail;go_end0;have R9:zi wr bs bc gc cc Nc (zj s b.data.toList):=by rw[←hke.out];exact HR5.out
   exact Z5 R9 hK Hg5.out
end
end Go.Proofs.YtjlfibhbfdckpaaGreatDoor

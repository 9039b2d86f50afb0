import Derived.Test.YtjlfibhbfdckpaaGreatDoorV20
namespace Go.Proofs.YtjlfibhbfdckpaaGreatDoor
set_option maxHeartbeats 64000000
set_option maxRecDepth 100000
section
open Go.RowKit Go.Lib
attribute [local go_sem ↓] Go.wp_at_zero Go.wp_at_succ
theorem zd8 (bs bg g N:Nat) (s:Rs) (t1:Pt) (c:Int) (w:World)
 (hA:Calls Tryz.prog 212 #[.pointer (some ⟨bs,12,none⟩),.int .u8 c] w (zV bs bg g N w s t1 (.tuple #[.int .i32 0,.int .i64 0]))):
 Calls Tryz.prog 185 #[.pointer (some ⟨bs,0,none⟩),.int .u8 c] w (zV bs bg g N w s t1 (.bool false)):=by
 have HA:=zH hA;clear hA;go_in;go_wp2_with fail;go_at_call 212;refine HA.out.mono ?_;rintro e wa ⟨rfl,P1,K1⟩;have HP1:=zH P1;have HK1:=zH K1;clear P1 K1;go_wp2_with fail;go_ret;exact⟨rfl,HP1.out,HK1.out⟩
theorem zeL (bs bg g N:Nat) (s:Rs) (t1:Pt) (c:Int) (w:World)
 (hA:Calls Tryz.prog 212 #[.pointer (some ⟨bs,12,none⟩),.int .u8 c] w (zV bs bg g N w s t1 (.tuple #[.int .i32 0,.int .i64 1]))):
 Calls Tryz.prog 185 #[.pointer (some ⟨bs,0,none⟩),.int .u8 c] w (zV bs bg g N w s t1 (.bool true)):=by
 have HA:=zH hA;clear hA;go_in;go_wp2_with fail;go_at_call 212;refine HA.out.mono ?_;rintro e wa ⟨rfl,P1,K1⟩;have HP1:=zH P1;have HK1:=zH K1;clear P1 K1;go_wp2_with fail;go_ret;exact⟨rfl,HP1.out,HK1.out⟩
theorem zeM (bs bg g N:Nat) (s:Rs) (t1:Pt) (c R:Int) (w:World) (ok:s.Ok)
 (hA:Calls Tryz.prog 212 #[.pointer (some ⟨bs,12,none⟩),.int .u8 c] w (zV bs bg g N w s t1 (.tuple #[.int .i32 R,.int .i64 2]))):
 Calls Tryz.prog 185 #[.pointer (some ⟨bs,0,none⟩),.int .u8 c] w (zV bs bg g N w (zba s R) t1 (.bool true)):=by
 have HA:=zH hA;clear hA;go_in;go_wp2_with fail;go_at_call 212;refine HA.out.mono ?_;rintro e wa ⟨rfl,P1,K1⟩;have HP1:=zH P1;have HK1:=zH K1;clear P1 K1;go_wp2_with fail;go_at_call 187;refine(zv1 bs bg g N s t1 R _ HP1.out ok).mono ?_;rintro e wb ⟨rfl,P2,K2⟩;go_wp2_with fail;go_ret;exact⟨rfl,P2,HK1.out.trans K2 (λ_ _ h=>h)⟩
def noT (t:Pt):Pt:={t with mode:=2,nm:=λ_=>0,cn:=0,bad:=false}
theorem zh.setNums {w:World} {bs bg g N:Nat} {s:Rs} {t:Pt} (h:zh w bs bg g N s t):zh ((((((((((w.setCell ⟨bs,17,none⟩ (.int .i64 0)).setCell ⟨bs,18,none⟩ (.int .i64 0)).setCell ⟨bs,19,none⟩ (.int .i64 0)).setCell ⟨bs,20,none⟩ (.int .i64 0)).setCell ⟨bs,21,none⟩ (.int .i64 0)).setCell ⟨bs,22,none⟩ (.int .i64 0)).setCell ⟨bs,23,none⟩ (.int .i64 0)).setCell ⟨bs,24,none⟩ (.int .i64 0)).setCell ⟨bs,25,none⟩ (.int .i64 0)).setCell ⟨bs,26,none⟩ (.bool false)) bs bg g N s {t with nm:=λ_=>0,cn:=0,bad:=false}:=by
 have h0:=(((((((((h.setNum 0 (by omega) 0).setNum 1 (by omega) 0).setNum 2 (by omega) 0).setNum 3 (by omega) 0).setNum 4 (by omega) 0).setNum 5 (by omega) 0).setNum 6 (by omega) 0).setNum 7 (by omega) 0).setCn 0).setBad false;exact⟨h0.blk,h0.gr,h0.ne1,h0.ne2⟩
theorem zuJ (bs bg g N:Nat) (s:Rs) (t:Pt) (w:World) (h:zh w bs bg g N s t):
 Calls Tryz.prog 159 #[.pointer (some ⟨bs,0,none⟩),.int .u8 91] w (zV bs bg g N w s (noT t) (.tuple #[])):=by
 have HP:=zH h;have f11:=h.f11;have f17:=h.f17;have f18:=h.f18;have f19:=h.f19;have f20:=h.f20;have f21:=h.f21;have f22:=h.f22;have f23:=h.f23;have f24:=h.f24;have f25:=h.f25;have f26:=h.f26;have fz:=h.free;clear h;go_in;go_wp2_with fail;go_end0;exact⟨rfl,(HP.out.setMode 2).setNums,((((((((((((zd.refl _ w).setCell ⟨bs,11,none⟩ _ (λ_=>Or.inl rfl)).setCell ⟨bs,17,none⟩ _ (λ_=>Or.inl rfl)).setCell ⟨bs,18,none⟩ _ (λ_=>Or.inl rfl)).setCell ⟨bs,19,none⟩ _ (λ_=>Or.inl rfl)).setCell ⟨bs,20,none⟩ _ (λ_=>Or.inl rfl)).setCell ⟨bs,21,none⟩ _ (λ_=>Or.inl rfl)).setCell ⟨bs,22,none⟩ _ (λ_=>Or.inl rfl)).setCell ⟨bs,23,none⟩ _ (λ_=>Or.inl rfl)).setCell ⟨bs,24,none⟩ _ (λ_=>Or.inl rfl)).setCell ⟨bs,25,none⟩ _ (λ_=>Or.inl rfl)).setCell ⟨bs,26,none⟩ _ (λ_=>Or.inl rfl))⟩
theorem zuK (bs bg g N:Nat) (s:Rs) (t:Pt) (w:World) (h:zh w bs bg g N s t):
 Calls Tryz.prog 159 #[.pointer (some ⟨bs,0,none⟩),.int .u8 27] w (zV bs bg g N w s t (.tuple #[])):=by
 have HP:=zH h;clear h;go_in;go_wp2_with fail;go_end0;exact⟨rfl,HP.out,zd.refl _ _⟩
theorem zv3 (bs bg g N:Nat) (s:Rs) (t:Pt) (c:Int) (w:World) (h:zh w bs bg g N s t) (h1:¬c=91) (h2:¬c=27):
 Calls Tryz.prog 159 #[.pointer (some ⟨bs,0,none⟩),.int .u8 c] w (zV bs bg g N w s {t with mode:=0} (.tuple #[])):=by
 have HP:=zH h;have f11:=h.f11;have fz:=h.free;clear h;go_in;go_wp2_with fail;go_end0;exact⟨rfl,HP.out.setMode 0,(zd.refl _ w).setCell ⟨bs,11,none⟩ _ (λ_=>Or.inl rfl)⟩
theorem sDo (bs bg g N:Nat) (s:Rs) (t:Pt) (l:List Int) (c:Int) (w:World) (h:zh w bs bg g N s t) (ok:s.Ok) (hl:za9 t l) (hs:zaV l):
 Calls Tryz.prog 184 #[.pointer (some ⟨bs,0,none⟩),.int .u8 c] w (zV bs bg g N w (zJ s l c) t (.tuple #[])):=by
 by_cases h65:c=65
 ·subst h65;exact zwO bs bg g N s t l w h ok hl hs
 by_cases h66:c=66
 ·subst h66;exact zwP bs bg g N s t l w h ok hl hs
 by_cases h67:c=67
 ·subst h67;exact zwQ bs bg g N s t l w h ok hl hs
 by_cases h68:c=68
 ·subst h68;exact zwR bs bg g N s t l w h ok hl hs
 by_cases h72:c=72
 ·subst h72;exact zwS bs bg g N s t l w h ok hl hs
 by_cases h75:c=75
 ·subst h75;exact zwT bs bg g N s t l w h ok hl hs
 by_cases h74:c=74
 ·subst h74;exact zwU bs bg g N s t l w h ok hl hs
 by_cases h88:c=88
 ·subst h88;exact zwY bs bg g N s t l w h ok hl hs
 by_cases h83:c=83
 ·subst h83;exact zwV bs bg g N s t l w h ok hl hs
 by_cases h84:c=84
 ·subst h84;exact zwW bs bg g N s t l w h ok hl hs
 by_cases h114:c=114
 ·subst h114;exact zwX bs bg g N s t l w h ok hl hs
 by_cases h109:c=109
 ·subst h109;exact zwZ bs bg g N s t l w h hl
 exact zw0 bs bg g N s t l c w h ⟨h65,h66,h67,h68,h72,h75,h74,h88,h83,h84,h114,h109⟩
theorem zoZ (bs bg g N:Nat) (s:Rs) (t:Pt) (c:Int) (w:World) (h:zh w bs bg g N s t) (hcn:t.bad=false->0<=t.cn/\t.cn<=8) (hn:t.bad=false->∀i,i<8->0<=t.nm i/\t.nm i<=9999) (c0:48<=c) (c9:c<=57):
 Calls Tryz.prog 160 #[.pointer (some ⟨bs,0,none⟩),.int .u8 c] w (zV bs bg g N w s (zfu t (c-48)) (.tuple #[])):=by
 have HP:=zH h;have f11:=h.f11;have f26:=h.f26;have fz:=h.free;have b1:Wd.inB c 48 57=true:=by simp[Wd.inB,c0,c9]
 have wc:IntKind.u8.wrap (c-48)=c-48:=by unfold IntKind.wrap;simp[IntKind.bits,IntKind.signed];omega
 clear h;go_in;go_wp2_with (first|(go_at_call 181;refine sM (zbL _ _ _ _) ?_));go_at_call 182;refine(zuE bs bg g N s t (c-48) _ HP.out hcn hn (by omega) (by omega)).mono ?_;rintro e wa ⟨rfl,P1,K1⟩;go_wp2_with fail;go_end0;exact⟨rfl,P1,K1⟩
theorem zsW (bs bg g N:Nat) (s:Rs) (t:Pt) (w:World) (h:zh w bs bg g N s t) (hcn:t.bad=false->0<=t.cn/\t.cn<=8):
 Calls Tryz.prog 160 #[.pointer (some ⟨bs,0,none⟩),.int .u8 59] w (zV bs bg g N w s (ze4 t) (.tuple #[])):=by
 have HP:=zH h;have f11:=h.f11;have f26:=h.f26;have fz:=h.free;have b1:Wd.inB 59 48 57=false:=by decide
 clear h;go_in;go_wp2_with (first|(go_at_call 181;refine sM (zbL _ _ _ _) ?_));go_at_call 183;refine(zoQ bs bg g N s t _ HP.out hcn).mono ?_;rintro e wa ⟨rfl,P1,K1⟩;go_wp2_with fail;go_end0;exact⟨rfl,P1,K1⟩
theorem zsX (bs bg g N:Nat) (s:Rs) (t:Pt) (c:Int) (w:World) (h:zh w bs bg g N s t) (c0:64<=c) (c9:c<=126) (hb:t.bad=true):
 Calls Tryz.prog 160 #[.pointer (some ⟨bs,0,none⟩),.int .u8 c] w (zV bs bg g N w s {t with mode:=0} (.tuple #[])):=by
 have HP:=zH h;have f11:=h.f11;have f26:=h.f26;have fz:=h.free;have b1:Wd.inB c 48 57=false:=by simp[Wd.inB];omega
 have b2:Wd.inB c 64 126=true:=by simp[Wd.inB];omega
 have b3:¬c=59:=by omega
 rw[hb] at f26;clear h;go_in;go_wp2_with (first|(go_at_call 181;refine sM (zbL _ _ _ _) ?_));go_end0;exact⟨rfl,HP.out.setMode 0,(zd.refl _ w).setCell ⟨bs,11,none⟩ _ (λ_=>Or.inl rfl)⟩
theorem zq5 (bs bg g N:Nat) (s:Rs) (t:Pt) (l:List Int) (c:Int) (w:World) (h:zh w bs bg g N s t) (ok:s.Ok) (hl:za9 t l) (hs:zaV l) (c0:64<=c) (c9:c<=126) (hb:t.bad=false):
 Calls Tryz.prog 160 #[.pointer (some ⟨bs,0,none⟩),.int .u8 c] w (zV bs bg g N w (zJ s l c) {t with mode:=0} (.tuple #[])):=by
 have HP:=zH h;have f11:=h.f11;have f26:=h.f26;have fz:=h.free;have b1:Wd.inB c 48 57=false:=by simp[Wd.inB];omega
 have b2:Wd.inB c 64 126=true:=by simp[Wd.inB];omega
 have b3:¬c=59:=by omega
 rw[hb] at f26;clear h;go_in;go_wp2_with (first|(go_at_call 181;refine sM (zbL _ _ _ _) ?_));go_at_call 184;refine(sDo bs bg g N s {t with mode:=0} l c _ (HP.out.setMode 0) ok ⟨hl.cn,hl.le,hl.nm⟩ hs).mono ?_;rintro e wa ⟨rfl,P1,K1⟩;go_wp2_with fail;go_end0;exact⟨rfl,P1,((zd.refl _ w).setCell ⟨bs,11,none⟩ _ (λ_=>Or.inl rfl)).trans K1 (λ_ _ h=>h)⟩
theorem zsY (bs bg g N:Nat) (s:Rs) (t:Pt) (w:World) (h:zh w bs bg g N s t)  :
 Calls Tryz.prog 160 #[.pointer (some ⟨bs,0,none⟩),.int .u8 27] w (zV bs bg g N w s {t with mode:=1} (.tuple #[])):=by
 have HP:=zH h;have f11:=h.f11;have f26:=h.f26;have fz:=h.free;have b1:Wd.inB 27 48 57=false:=by decide
 have b2:Wd.inB 27 64 126=false:=by decide
 clear h;go_in;go_wp2_with (first|(go_at_call 181;refine sM (zbL _ _ _ _) ?_));go_end0;exact⟨rfl,HP.out.setMode 1,(zd.refl _ w).setCell ⟨bs,11,none⟩ _ (λ_=>Or.inl rfl)⟩
theorem zo0 (bs bg g N:Nat) (s:Rs) (t:Pt) (c:Int) (w:World) (h:zh w bs bg g N s t) (h1:¬(48<=c/\c<=57)) (h2:¬c=59) (h3:¬(64<=c/\c<=126)) (h4:¬c=27):
 Calls Tryz.prog 160 #[.pointer (some ⟨bs,0,none⟩),.int .u8 c] w (zV bs bg g N w s {t with bad:=true} (.tuple #[])):=by
 have HP:=zH h;have f11:=h.f11;have f26:=h.f26;have fz:=h.free;have b1:Wd.inB c 48 57=false:=by simp[Wd.inB];omega
 have b2:Wd.inB c 64 126=false:=by simp[Wd.inB];omega
 clear h;go_in;go_wp2_with (first|(go_at_call 181;refine sM (zbL _ _ _ _) ?_));go_end0;exact⟨rfl,HP.out.setBad true,(zd.refl _ w).setCell ⟨bs,26,none⟩ _ (λ_=>Or.inl rfl)⟩
theorem sGr (bs bg g N:Nat) (s:Rs) (t t1:Pt) (s2:Rs) (t2:Pt) (c:Int) (w:World) (h:zh w bs bg g N s t) (ok:s.Ok) (okp:Rs.Ok {s with pend:=false}) (hE:t.bn=0/\t1=t\/¬t.bn=0/\Calls Tryz.prog 185 #[.pointer (some ⟨bs,0,none⟩),.int .u8 c] w (zV bs bg g N w s t1 (.bool false)))
 (hk:c=13/\s2=ZQ s 0 s.y/\t1=t2\/c=10/\s2=zt s/\t1=t2\/c=8/\s2=ZQ s (s.x-1) s.y/\t1=t2\/c=27/\s=s2/\t2={t1 with mode:=1}\/(0<=c/\c<128/\¬c=13/\¬c=10/\¬c=8/\¬c=27/\s2=zba s c/\t1=t2)\/128<=c/\∃bo,∀w1,zh w1 bs bg g N s t1->zd (λi=>i=bs\/i=bg\/i=g) w w1->Calls Tryz.prog 185 #[.pointer (some ⟨bs,0,none⟩),.int .u8 c] w1 (zV bs bg g N w1 s2 t2 (.bool bo))):
 Calls Tryz.prog 161 #[.pointer (some ⟨bs,0,none⟩),.int .u8 c] w (zV bs bg g N w s2 t2 (.tuple #[])):=by
 have HP:Hid (zh w bs bg g N s t):=h;have HE:=zH hE;have HK:=zH hk;have Hok:=zH ok;have Hokp:=zH okp;clear h hE hk ok okp;go_in;go_wp2_with fail;go_at_call 128;refine sM (zj2 bs bg g N s t _ HP.out) ?_;rcases HE.out with⟨h0,rfl⟩|⟨h0,hG⟩
 focus
  have hem:decide (t1.bn=0)=true:=by simp[h0]
  rw[hem];have HP1:=HP;have K1:zd (λi=>i=bs\/i=bg\/i=g) w w:=zd.refl _ w;clear h0 hem HE HP
 rotate_left
 focus
  have hem:decide (t.bn=0)=false:=by simp[h0]
  rw[hem];have HG:=zH hG;clear hG h0 HE;go_wp2_with fail;go_at_call 185;refine HG.out.mono ?_;rintro e wa ⟨rfl,P1,K1⟩;have HP1:=zH P1;clear P1 HP HG hem
 all_goals
  rcases HK.out with⟨rfl,rfl,rfl⟩|⟨rfl,rfl,rfl⟩|⟨rfl,rfl,rfl⟩|⟨rfl,rfl,rfl⟩|⟨c0,c1,h1,h2,h3,h4,rfl,rfl⟩|⟨c0,bo,hG2⟩;all_goals
   clear HK;try replace hG2:=zH hG2
   try have h1:¬c=13:=by omega
   try have h2:¬c=10:=by omega
   try have h3:¬c=8:=by omega
   try have h4:¬c=27:=by omega
   try have h5:¬c<128:=by omega
   have f1:=HP1.out.f1;have f2:=HP1.out.f2;have f11:=HP1.out.f11;have fz:=HP1.out.free;have x0:=Hok.out.x0;have x1:=Hok.out.x1;have w2:=Hok.out.w2;have wx:IntKind.i64.wrap (s.x-1)=s.x-1:=zm _ (by omega) (by omega);go_wp2_with fail;first
    |(first
       |(go_at_call 120;refine(zfb bs bg g N s t1 0 s.y _ HP1.out).mono ?_)
       |(go_at_call 186;refine(zi9 bs bg g N s t1 _ HP1.out Hokp.out).mono ?_)
       |(go_at_call 187;refine(zv1 bs bg g N s t1 c _ HP1.out Hok.out).mono ?_)
       |(go_at_call 185;refine(hG2.out _ HP1.out K1).mono ?_)
      rintro e wb ⟨rfl,P2,K2⟩;go_wp2_with fail;go_end0;exact⟨rfl,P2,K1.trans K2 (λ_ _ h=>h)⟩)
    |(go_region_with (first|(go_at_call 120;refine(zfb bs bg g N s t1 (s.x-1) s.y _ HP1.out.drew).mono ?_;rintro e wb ⟨rfl,P2,K2⟩))
      all_goals
       go_end0;exact⟨rfl,P2,(K1.drew).trans K2 (λ_ _ h=>h)⟩)
    |(go_end0
      exact⟨rfl,HP1.out.setMode 1,K1.setCell ⟨bs,11,none⟩ _ (λ_=>Or.inl rfl)⟩)
theorem zlr (bs bg g N:Nat) (s s1:Rs) (t t1:Pt) (c:Int) (w:World) (h:zh w bs bg g N s t) (h0:¬t.bn=0) (hG:Calls Tryz.prog 185 #[.pointer (some ⟨bs,0,none⟩),.int .u8 c] w (zV bs bg g N w s1 t1 (.bool true))):
 Calls Tryz.prog 161 #[.pointer (some ⟨bs,0,none⟩),.int .u8 c] w (zV bs bg g N w s1 t1 (.tuple #[])):=by
 have hem:decide (t.bn=0)=false:=by simp[h0]
 have HP:Hid (zh w bs bg g N s t):=h;have HG:Hid (Calls Tryz.prog 185 #[.pointer (some ⟨bs,0,none⟩),.int .u8 c] w (zV bs bg g N w s1 t1 (.bool true))):=hG;clear h hG;go_in;go_wp2_with fail;go_at_call 128;refine sM (zj2 bs bg g N s t _ HP.out) ?_;rw[hem];go_wp2_with fail;go_at_call 185;refine HG.out.mono ?_;rintro e wa ⟨rfl,P1,K1⟩;have HP1:Hid (zh wa bs bg g N s1 t1):=P1;clear P1 HP HG;go_wp2_with fail;refine bodyPost_ret (v:=.tuple #[]) (by simp[results,Tryz.results161,go_sem]) rfl ⟨rfl,HP1.out,K1⟩
end
section
open Go.RowKit Go.Lib
def zeh (t:Pt) (l:List UInt8):Prop:=
 (∃L,Zm l []=some L/\t.bad=false/\za9 t L)\/(t.bad=true/\(Zm l []=none\/∃L,Zm l []=some L/\8<L.length))
def Tie (B:ByteArray) (t:Pt):Prop:=
 (B=⟨#[]⟩/\t.mode=0/\t.bn=0)\/(B=⟨#[27]⟩/\t.mode=1/\t.bn=0)\/(∃l:List UInt8,B=⟨(27::91::l).toArray⟩/\t.mode=2/\t.bn=0/\zeh t l)
 ∨ (∃a:UInt8,B=⟨#[a]⟩/\t.mode=0/\t.bn=1/\t.by4 0=a.toNat/\194<=a.toNat/\a.toNat<=244)
 ∨ (∃a b:UInt8,B=⟨#[a,b]⟩/\t.mode=0/\t.bn=2/\t.by4 0=a.toNat/\t.by4 1=b.toNat/\224<=a.toNat/\a.toNat<=244/\zbb a.toNat<=b.toNat/\(b.toNat:Int)<=Z6 a.toNat)
 ∨ (∃a b d:UInt8,B=⟨#[a,b,d]⟩/\t.mode=0/\t.bn=3/\t.by4 0=a.toNat/\t.by4 1=b.toNat/\t.by4 2=d.toNat/\240<=a.toNat/\a.toNat<=244/\zbb a.toNat<=b.toNat/\(b.toNat:Int)<=Z6 a.toNat/\128<=d.toNat/\d.toNat<=191)
def zby (bs bg g N:Nat) (w:World) (s:Rs) (e:Ending) (w':World):Prop:=
 e=.returned (.tuple #[])/\(∃t,zh w' bs bg g N s t/\Tie s.B t)/\zd (λi=>i=bs\/i=bg\/i=g) w w'
theorem Z4 {bs bg g N:Nat} {w:World} {s s':Rs} {t:Pt} {f:Nat} {args:Array Value} (h:Calls Tryz.prog f args w (zV bs bg g N w s t (.tuple #[]))) (hs:zdh bg s' t=zdh bg s t) (hW:s'.W=s.W) (hH:s'.H=s.H) (hG:s'.G=s.G) (tie:Tie s'.B t):
 Calls Tryz.prog f args w (zby bs bg g N w s'):=by
 refine h.mono ?_;rintro e w' ⟨rfl,P,K⟩;exact⟨rfl,⟨t,P.congr s' hs hW hH (λ_ _ _ _=>by rw[hG]),tie⟩,K⟩
theorem zuL {c:Int} (h:c<32\/c=127):Wd.wd c=0:=by
 unfold Wd.wd;rw[if_pos];simp[Wd.zeroB,Wd.inB];omega
theorem zsZ {s:Rs} {c:Int} (h:Wd.wd c=0):zba s c=zbn s:=by unfold zba zbn;rw[if_pos h]
theorem zg0 {t:Pt} (h1:t.mode=0) (h2:t.bn=0):Tie ⟨#[]⟩ t:=.inl ⟨rfl,h1,h2⟩
section
variable {w:World} {bs bg g N:Nat} {s:Rs} {t:Pt}
theorem zls (t1:Pt) (c:UInt8) (h:zh w bs bg g N s t) (ok:s.Ok) (T:ZY w) (hB:s.B=⟨#[]⟩) (hm:t1.mode=0) (h1:t1.bn=0) (hE:t.bn=0/\t1=t\/¬t.bn=0/\Calls Tryz.prog 185 #[.pointer (some ⟨bs,0,none⟩),.int .u8 c.toNat] w (zV bs bg g N w s t1 (.bool false))) (n0:¬bs=0) (n1:¬bs=1) (m0:¬bg=0) (m1:¬bg=1) (k0:¬g=0) (k1:¬g=1):
 Calls Tryz.prog 161 #[.pointer (some ⟨bs,0,none⟩),.int .u8 c.toNat] w (zby bs bg g N w (zw s c)):=by
 have tie:Tie s.B t1:=by rw[hB];exact zg0 hm h1
 have c256:=c.toNat_lt;have X:=λs2 t2=>sGr bs bg g N s t t1 s2 t2 c.toNat w h ok (zjw ok) hE;unfold zw;by_cases e13:(c.toNat:Int)=13
 ·rw[if_pos e13];exact Z4 (X _ _ (.inl ⟨e13,rfl,rfl⟩)) rfl rfl rfl rfl tie
 rw[if_neg e13];by_cases e10:(c.toNat:Int)=10
 ·rw[if_pos e10];exact Z4 (X _ _ (.inr (.inl ⟨e10,rfl,rfl⟩))) rfl rfl rfl rfl (by rw[zrW];exact tie)
 rw[if_neg e10];by_cases e8:(c.toNat:Int)=8
 ·rw[if_pos e8];exact Z4 (X _ _ (.inr (.inr (.inl ⟨e8,rfl,rfl⟩)))) rfl rfl rfl rfl tie
 rw[if_neg e8];by_cases e27:(c.toNat:Int)=27
 ·rw[if_pos e27];exact Z4 (X _ _ (.inr (.inr (.inr (.inl ⟨e27,rfl,rfl⟩))))) rfl rfl rfl rfl (.inr (.inl ⟨rfl,rfl,h1⟩))
 rw[if_neg e27];by_cases e128:(c.toNat:Int)<128
 ·have P:=X _ _ (.inr (.inr (.inr (.inr (.inl ⟨by omega,e128,e13,e10,e8,e27,rfl,rfl⟩)))));by_cases ep:32<=(c.toNat:Int)/\(c.toNat:Int)<=126
  ·rw[if_pos ep];exact Z4 P rfl rfl rfl rfl (by rw[zgy];exact tie)
  ·have q:=Zk c.toNat;rw[if_neg ep,if_neg (by omega)];rw[zsZ (zuL (by omega))] at P;exact Z4 P rfl rfl rfl rfl tie
 rw[if_neg (by omega)];have q:=Zk c.toNat;by_cases el:0<zQ c.toNat
 ·rw[if_pos el];exact Z4 (X s (zb5 t1 0 c.toNat) (.inr (.inr (.inr (.inr (.inr ⟨by omega,true,λw1 P K=>zeL bs bg g N s _ c.toNat w1 (zv2 c P (T.keep K (by omega) (by omega)) n0 n1 h1 (by omega) (by omega))⟩)))))) rfl rfl rfl rfl (.inr (.inr (.inr (.inl ⟨c,rfl,hm,rfl,rfl,by omega,by omega⟩))))
 ·rw[if_neg el];exact Z4 (X s {zb5 t1 0 c.toNat with bn:=0} (.inr (.inr (.inr (.inr (.inr ⟨by omega,false,λw1 P K=>zd8 bs bg g N s _ c.toNat w1 (zq1 c P (T.keep K (by omega) (by omega)) n0 n1 h1 (by omega) (by omega))⟩)))))) rfl rfl rfl rfl (by show Tie s.B _;rw[hB];exact zg0 hm rfl)
theorem zq6 (c:UInt8) (h:zh w bs bg g N s t) (ok:s.Ok) (T:ZY w) (hB:s.B=⟨#[]⟩) (hm:t.mode=0) (h0:t.bn=0) (n0:¬bs=0) (n1:¬bs=1) (m0:¬bg=0) (m1:¬bg=1) (k0:¬g=0) (k1:¬g=1):
 Calls Tryz.prog 161 #[.pointer (some ⟨bs,0,none⟩),.int .u8 c.toNat] w (zby bs bg g N w (zw s c)):=zls t c h ok T hB hm h0 (.inl ⟨h0,rfl⟩) n0 n1 m0 m1 k0 k1
theorem zib (t1:Pt) (c:UInt8) (h:zh w bs bg g N s t) (ok:s.Ok) (T:ZY w) (hB:s.B=⟨#[]⟩) (h0:¬t.bn=0) (hm:t1.mode=0) (h1:t1.bn=0) (hG:Calls Tryz.prog 185 #[.pointer (some ⟨bs,0,none⟩),.int .u8 c.toNat] w (zV bs bg g N w s t1 (.bool false))) (n0:¬bs=0) (n1:¬bs=1) (m0:¬bg=0) (m1:¬bg=1) (k0:¬g=0) (k1:¬g=1):
 Calls Tryz.prog 161 #[.pointer (some ⟨bs,0,none⟩),.int .u8 c.toNat] w (zby bs bg g N w (zw s c)):=zls t1 c h ok T hB hm h1 (.inr ⟨h0,hG⟩) n0 n1 m0 m1 k0 k1
end
end
section
theorem zfv (l:List Int) (i:Nat):(zz l).getD i 0=l.getD i 0:=by
 unfold zz;split
 ·rename_i e;subst e;cases i<;>simp
 ·rfl
theorem znB (l:List Int):zcI (l.length:Int)=(zz l).length:=by
 rw[zb4];unfold zcI;split<;>split<;>omega
theorem zeN (l:List Int) (v:Int):(Z0 l v).length=l.length:=by unfold Z0;simp
theorem zj3 (l:List Int) (v:Int) (i:Nat) (h:0<l.length):(Z0 l v).getD i 0=if i=l.length-1 then v else l.getD i 0:=by
 unfold Z0;simp only[List.getD_eq_getElem?_getD,List.getElem?_set];by_cases e:i=l.length-1
 ·subst e;rw[if_pos rfl,if_pos rfl,if_pos (by omega)];rfl
 ·rw[if_neg (λq=>e q.symm),if_neg e]
theorem zo1 (l:List Int):0<(zz l).length:=by rw[zb4];split<;>omega
theorem zmG {t:Pt} {L:List Int} (h:za9 t L) (hb:t.bad=false) (d:Int):za9 (zfu t d) (Z0 (zz L) (zf4 (10*zbh (zz L)+d)))/\(zfu t d).bad=false:=by
 have hp:=zo1 L;have hle:=h.le;have hlen:=zb4 L;have hl8:(zz L).length<=8:=by rw[hlen];split<;>omega
 have hT:zfu t d={t with cn:=(zz L).length,nm:=zhs t.nm ((zz L).length-1) (zf4 (t.nm ((zz L).length-1)*10+d))}:=by
  unfold zfu;rw[if_neg (by rw[hb];decide),h.cn,znB];simp
 rw[hT];refine⟨⟨by rw[zeN],by rw[zeN];exact hl8,λi hi=>?_⟩,hb⟩;show zhs t.nm _ _ i=_;rw[zj3 _ _ _ hp];unfold zhs;split
 ·have e:t.nm ((zz L).length-1)=zbh (zz L):=by
   rw[h.nm _ (by omega)];unfold zbh;rw[zfv]
  rw[e,Int.mul_comm]
 ·rw[h.nm i hi,zfv]
theorem zq7 {t:Pt} {L:List Int} (h:za9 t L) (hb:t.bad=false):(8<(zz L ++ [0]).length/\(ze4 t).bad=true)\/(za9 (ze4 t) (zz L ++ [0])/\(ze4 t).bad=false):=by
 have hT:ze4 t={t with cn:=((zz L).length:Int)+1,bad:=decide (8<((zz L).length:Int)+1)}:=by
  unfold ze4;rw[if_neg (by rw[hb];decide),h.cn,znB]
 rw[hT];by_cases h8:8<(zz L).length+1
 ·left;exact⟨by simpa using h8,by show decide _=true;simp;omega⟩
 ·right;refine⟨⟨by simp,by simp;omega,λi hi=>?_⟩,by show decide _=false;simp;omega⟩;show t.nm i=_;rw[h.nm i hi,←zfv];simp only[List.getD_eq_getElem?_getD];by_cases e:i<(zz L).length
  ·rw[List.getElem?_append_left e]
  ·rw[List.getElem?_append_right (by omega),List.getElem?_eq_none (by omega)];cases i-(zz L).length<;>simp
theorem zgl {l:List UInt8} (h:Zm l []=none\/∃L,Zm l []=some L/\8<L.length) (c:UInt8):Zm (l ++ [c]) []=none\/∃L,Zm (l ++ [c]) []=some L/\8<L.length:=by
 rcases h with h|⟨L,h,h8⟩
 ·left;rw[zbB,h]
 ·rw[zav _ _ _ _ h];have hl:=zb4 L;rw[if_neg (by omega)] at hl;unfold Z2;split
  ·right;exact⟨_,rfl,by simp;omega⟩
  ·split
   ·right;exact⟨_,rfl,by rw[zeN];omega⟩
   ·left;rfl
theorem zo2 {t:Pt} {l:List UInt8} (h:zeh t l) (c:UInt8) (c0:48<=(c.toNat:Int)) (c9:(c.toNat:Int)<=57):zeh (zfu t (c.toNat-48)) (l ++ [c]):=by
 rcases h with⟨L,e,hb,hn⟩|⟨hb,e⟩
 ·left;have q:=zmG hn hb ((c.toNat:Int)-48);refine⟨_,?_,q.2,q.1⟩;rw[zav _ _ _ _ e];unfold Z2;rw[if_neg (by omega),if_pos ⟨c0,c9⟩]
 ·right;rw[show zfu t (c.toNat-48)=t from if_pos hb];exact⟨hb,zgl e c⟩
theorem zs0 {t:Pt} {l:List UInt8} (h:zeh t l) (c:UInt8) (hc:(c.toNat:Int)=59):zeh (ze4 t) (l ++ [c]):=by
 rcases h with⟨L,e,hb,hn⟩|⟨hb,e⟩
 ·have e':Zm (l ++ [c]) []=some (zz L ++ [0]):=by
   rw[zav _ _ _ _ e];unfold Z2;rw[if_pos hc]
  rcases zq7 hn hb with⟨q1,q2⟩|⟨q1,q2⟩
  ·right;exact⟨q2,.inr ⟨_,e',q1⟩⟩
  ·left;exact⟨_,e',q2,q1⟩
 ·right;rw[show ze4 t=t from if_pos hb];exact⟨hb,zgl e c⟩
theorem zo3 {t:Pt} {l:List UInt8} (h:zeh t l) (c:UInt8) (h1:¬(48<=(c.toNat:Int)/\(c.toNat:Int)<=57)) (h2:¬(c.toNat:Int)=59):zeh {t with bad:=true} (l ++ [c]):=by
 right;refine⟨rfl,?_⟩;rcases h with⟨L,e,hb,hn⟩|⟨hb,e⟩
 ·left;rw[zav _ _ _ _ e];unfold Z2;rw[if_neg h2,if_neg h1]
 ·exact zgl e c
theorem zjb (t:Pt) (d:Int):(zfu t d).mode=t.mode/\(zfu t d).bn=t.bn:=by unfold zfu;split<;>exact⟨rfl,rfl⟩
theorem zjc (t:Pt):(ze4 t).mode=t.mode/\(ze4 t).bn=t.bn:=by unfold ze4;split<;>exact⟨rfl,rfl⟩
theorem zeh.cn {t:Pt} {l:List UInt8} (h:zeh t l):t.bad=false->0<=t.cn/\t.cn<=8:=by
 intro hb;rcases h with⟨L,_,_,hn⟩|⟨hb',_⟩
 ·have:=hn.le;rw[hn.cn];omega
 ·rw[hb] at hb';cases hb'
theorem zeh.small {t:Pt} {l:List UInt8} (h:zeh t l):t.bad=false->∀i,i<8->0<=t.nm i/\t.nm i<=9999:=by
 intro hb i hi;rcases h with⟨L,e,_,hn⟩|⟨hb',_⟩
 ·rw[hn.nm i hi];exact zdW l [] L zcP e i
 ·rw[hb] at hb';cases hb'
end
section
open Go.RowKit Go.Lib
attribute [local go_sem ↓] Go.wp_at_zero Go.wp_at_succ
theorem zj4 (bs bg g N:Nat) (s s':Rs) (t:Pt) (c:Int) (w:World) (h:zh w bs bg g N s t) (hm:t.mode=0) (hQ:Calls Tryz.prog 161 #[.pointer (some ⟨bs,0,none⟩),.int .u8 c] w (zby bs bg g N w s')):
 Calls Tryz.prog 125 #[.pointer (some ⟨bs,0,none⟩),.int .u8 c] w (zby bs bg g N w s'):=by
 have f11:=h.f11;rw[hm] at f11;have HQ:=zH hQ;clear h hQ;go_in;go_wp2_with fail;go_at_call 161;refine HQ.out.mono ?_;rintro e w' ⟨rfl,P,K⟩;go_wp2_with fail;go_end0;exact⟨rfl,P,K⟩
theorem zuM (bs bg g N:Nat) (s s':Rs) (t:Pt) (c:Int) (w:World) (h:zh w bs bg g N s t) (hm:t.mode=1) (hQ:Calls Tryz.prog 159 #[.pointer (some ⟨bs,0,none⟩),.int .u8 c] w (zby bs bg g N w s')):
 Calls Tryz.prog 125 #[.pointer (some ⟨bs,0,none⟩),.int .u8 c] w (zby bs bg g N w s'):=by
 have f11:=h.f11;rw[hm] at f11;have HQ:=zH hQ;clear h hQ;go_in;go_wp2_with fail;go_at_call 159;refine HQ.out.mono ?_;rintro e w' ⟨rfl,P,K⟩;go_wp2_with fail;go_end0;exact⟨rfl,P,K⟩
theorem zuN (bs bg g N:Nat) (s s':Rs) (t:Pt) (c:Int) (w:World) (h:zh w bs bg g N s t) (hm:t.mode=2) (hQ:Calls Tryz.prog 160 #[.pointer (some ⟨bs,0,none⟩),.int .u8 c] w (zby bs bg g N w s')):
 Calls Tryz.prog 125 #[.pointer (some ⟨bs,0,none⟩),.int .u8 c] w (zby bs bg g N w s'):=by
 have f11:=h.f11;rw[hm] at f11;have HQ:=zH hQ;clear h hQ;go_in;go_wp2_with fail;go_at_call 160;refine HQ.out.mono ?_;rintro e w' ⟨rfl,P,K⟩;go_wp2_with fail;go_end0;exact⟨rfl,P,K⟩
section
variable {w:World} {bs bg g N:Nat} {s:Rs} {t:Pt}
theorem zh.noB (h:zh w bs bg g N s t) (B:ByteArray):zh w bs bg g N {s with B:=B} t:=h.congr _ rfl rfl rfl (λ_ _ _ _=>rfl)
theorem zh.noO (h:zh w bs bg g N s t):zh w bs bg g N (zbn s) t:=h.congr _ rfl rfl rfl (λ_ _ _ _=>rfl)
theorem zv4 (c:UInt8) (h:zh w bs bg g N s t) (hB:s.B=⟨#[27]⟩) (hm:t.mode=1) (h0:t.bn=0):
 Calls Tryz.prog 159 #[.pointer (some ⟨bs,0,none⟩),.int .u8 c.toNat] w (zby bs bg g N w (ziw s c)):=by
 unfold ziw;by_cases e91:(c.toNat:Int)=91
 ·rw[if_pos e91,e91];refine Z4 (zuJ bs bg g N s t w h) rfl rfl rfl rfl (.inr (.inr (.inl ⟨[],rfl,rfl,h0,.inl ⟨[],rfl,rfl,rfl,by decide,λi _=>by show(0:Int)=_;simp⟩⟩)))
 rw[if_neg e91];by_cases e27:(c.toNat:Int)=27
 ·rw[if_pos e27,e27];exact Z4 (zuK bs bg g N s t w h) rfl rfl rfl rfl (.inr (.inl ⟨hB,hm,h0⟩))
 rw[if_neg e27];exact Z4 (zv3 bs bg g N s t c.toNat w h e91 e27) rfl rfl rfl rfl (zg0 rfl h0)
theorem zv5 (l:List UInt8) (c:UInt8) (h:zh w bs bg g N s t) (ok:s.Ok) (hm:t.mode=2) (h0:t.bn=0) (hs:zeh t l):
 Calls Tryz.prog 160 #[.pointer (some ⟨bs,0,none⟩),.int .u8 c.toNat] w (zby bs bg g N w (zbW s l c)):=by
 unfold zbW;by_cases e27:(c.toNat:Int)=27
 ·rw[if_pos e27,e27];exact Z4 (zsY bs bg g N s t w h) rfl rfl rfl rfl (.inr (.inl ⟨rfl,rfl,h0⟩))
 rw[if_neg e27];by_cases ef:64<=(c.toNat:Int)/\(c.toNat:Int)<=126
 ·rw[if_pos ef];have hn:zel ⟨l.toArray⟩=Zm l []:=by unfold zel;simp
  unfold ze2;rw[hn];rcases hs with⟨L,e,hb,hL⟩|⟨hb,e⟩
  ·rw[e];show Calls _ _ _ _ (zby bs bg g N w (if L.length<=8 then zJ _ L c.toNat else zbn _));rw[if_pos hL.le];refine Z4 (zq5 bs bg g N {s with B:=⟨#[]⟩} t L c.toNat w (h.noB _) (ok.setB _) hL (zdW l [] L zcP e) ef.1 ef.2 hb) rfl rfl rfl rfl ?_;rw[zpG];exact zg0 rfl h0
  ·have P:=zsX bs bg g N s t c.toNat w h ef.1 ef.2 hb;rcases e with e|⟨L,e,h8⟩
   ·rw[e];exact Z4 P rfl rfl rfl rfl (zg0 rfl h0)
   ·rw[e];show Calls _ _ _ _ (zby bs bg g N w (if L.length<=8 then zJ _ L c.toNat else zbn _));rw[if_neg (by omega)];exact Z4 P rfl rfl rfl rfl (zg0 rfl h0)
 rw[if_neg ef];by_cases ed:48<=(c.toNat:Int)/\(c.toNat:Int)<=57
 ·exact Z4 (zoZ bs bg g N s t c.toNat w h hs.cn hs.small ed.1 ed.2) rfl rfl rfl rfl (.inr (.inr (.inl ⟨l ++ [c],rfl,by rw[(zjb _ _).1];exact hm,by rw[(zjb _ _).2];exact h0,zo2 hs c ed.1 ed.2⟩)))
 by_cases e59:(c.toNat:Int)=59
 ·have:=Z4 (s':={s with B:=⟨(27::91::l ++ [c]).toArray⟩}) (zsW bs bg g N s t w h hs.cn) rfl rfl rfl rfl (.inr (.inr (.inl ⟨l ++ [c],rfl,by rw[(zjc _).1];exact hm,by rw[(zjc _).2];exact h0,zs0 hs c e59⟩)));rw[←e59] at this;exact this
 exact Z4 (zo0 bs bg g N s t c.toNat w h ed e59 ef e27) rfl rfl rfl rfl (.inr (.inr (.inl ⟨l ++ [c],rfl,hm,h0,zo3 hs c ed e59⟩)))
end
section
variable {w:World} {bs bg g N:Nat} {s:Rs} {t:Pt}
theorem zic (t:Pt) (c:Int) {n i:Nat} (h:i≠n):(zb5 t n c).by4 i=t.by4 i:=if_neg h
theorem zjd (t:Pt) (n:Nat) (c:Int):(zb5 t n c).by4 n=c:=if_pos rfl
theorem zv6 (a c:UInt8) (h:zh w bs bg g N s t) (ok:s.Ok) (T:ZY w) (hm:t.mode=0) (hn:t.bn=1) (b0:t.by4 0=a.toNat) (a1:194<=a.toNat) (a2:a.toNat<=244) (n0:¬bs=0) (n1:¬bs=1) (m0:¬bg=0) (m1:¬bg=1) (k0:¬g=0) (k1:¬g=1):
 Calls Tryz.prog 161 #[.pointer (some ⟨bs,0,none⟩),.int .u8 c.toNat] w (zby bs bg g N w (zbc s a [] c)):=by
 have hne:¬t.bn=0:=by omega
 have q:=Zk a.toNat;unfold zbc;cases hg:zq (a :: []) c.toNat with
 |false=>
  rw[if_pos rfl];exact zib {zb5 t 1 c.toNat with bn:=0} c ((h.noB _).noO) ((ok.setB _).odd) T rfl hne hm rfl (zd8 bs bg g N _ _ c.toNat w (zq2 a c ((h.noB _).noO) T n0 n1 hn b0 a1 a2 hg)) n0 n1 m0 m1 k0 k1
 |true=>
  rw[if_neg (by decide)];have hlo:zbb a.toNat<=c.toNat:=by simp[zq] at hg;exact hg.1
  have hhi:(c.toNat:Int)<=Z6 a.toNat:=by simp[zq] at hg;exact hg.2
  by_cases hl:zQ a.toNat=2
  ·rw[if_pos (show zQ a.toNat=((([]:List UInt8).length+2:Nat):Int) from hl)];exact Z4 (zlr bs bg g N {s with B:=⟨#[]⟩} _ t _ c.toNat w (h.noB _) hne (zeM bs bg g N {s with B:=⟨#[]⟩} _ c.toNat _ w (ok.setB _) (zoV a c (h.noB _) T n0 n1 hn b0 a1 a2 hg hl))) rfl rfl rfl rfl (by rw[zgy];exact zg0 hm rfl)
  ·rw[if_neg (show¬zQ a.toNat=((([]:List UInt8).length+2:Nat):Int) from hl)];exact Z4 (zlr bs bg g N s _ t _ c.toNat w h hne (zeL bs bg g N s _ c.toNat w (zoU a c h T n0 n1 hn b0 a1 a2 hg hl))) rfl rfl rfl rfl (.inr (.inr (.inr (.inr (.inl ⟨a,c,rfl,hm,by show(1:Int)+1=2;rfl,(zic _ _ (by decide)).trans b0,zjd _ _ _,by omega,a2,hlo,hhi⟩)))))
theorem zv7 (a b c:UInt8) (h:zh w bs bg g N s t) (ok:s.Ok) (T:ZY w) (hm:t.mode=0) (hn:t.bn=2) (b0:t.by4 0=a.toNat) (b1:t.by4 1=b.toNat) (a1:224<=a.toNat) (a2:a.toNat<=244) (hb1:zbb a.toNat<=b.toNat) (hb2:(b.toNat:Int)<=Z6 a.toNat) (n0:¬bs=0) (n1:¬bs=1) (m0:¬bg=0) (m1:¬bg=1) (k0:¬g=0) (k1:¬g=1):
 Calls Tryz.prog 161 #[.pointer (some ⟨bs,0,none⟩),.int .u8 c.toNat] w (zby bs bg g N w (zbc s a [b] c)):=by
 have hne:¬t.bn=0:=by omega
 have q:=Zk a.toNat;have gdef:zq (a :: [b]) c.toNat=(decide (128<=(c.toNat:Int))&&decide ((c.toNat:Int)<=191)):=rfl;unfold zbc;cases hg:zq (a :: [b]) c.toNat with
 |false=>
  rw[if_pos rfl];have hgn:c.toNat<128\/191<c.toNat:=by rw[gdef] at hg;simp at hg;omega
  exact zib {zb5 t 2 c.toNat with bn:=0} c ((h.noB _).noO) ((ok.setB _).odd) T rfl hne hm rfl (zd8 bs bg g N _ _ c.toNat w (zq3 a b c ((h.noB _).noO) T n0 n1 hn b0 b1 a1 a2 hb1 hb2 hgn)) n0 n1 m0 m1 k0 k1
 |true=>
  rw[if_neg (by decide)];have hgy:128<=c.toNat/\c.toNat<=191:=by rw[gdef] at hg;simp at hg;omega
  by_cases hl:zQ a.toNat=3
  ·rw[if_pos (show zQ a.toNat=((([b]:List UInt8).length+2:Nat):Int) from hl)];exact Z4 (zlr bs bg g N {s with B:=⟨#[]⟩} _ t _ c.toNat w (h.noB _) hne (zeM bs bg g N {s with B:=⟨#[]⟩} _ c.toNat _ w (ok.setB _) (zoX a b c (h.noB _) T n0 n1 hn b0 b1 a1 a2 hb1 hb2 hgy hl))) rfl rfl rfl rfl (by rw[zgy];exact zg0 hm rfl)
  ·rw[if_neg (show¬zQ a.toNat=((([b]:List UInt8).length+2:Nat):Int) from hl)];exact Z4 (zlr bs bg g N s _ t _ c.toNat w h hne (zeL bs bg g N s _ c.toNat w (zoW a b c h T n0 n1 hn b0 b1 a1 a2 hb1 hb2 hgy hl))) rfl rfl rfl rfl (.inr (.inr (.inr (.inr (.inr ⟨a,b,c,rfl,hm,by show(2:Int)+1=3;rfl,(zic _ _ (by decide)).trans b0,(zic _ _ (by decide)).trans b1,zjd _ _ _,by omega,a2,hb1,hb2,hgy.1,hgy.2⟩)))))
theorem zv8 (a b d c:UInt8) (h:zh w bs bg g N s t) (ok:s.Ok) (T:ZY w) (hm:t.mode=0) (hn:t.bn=3) (b0:t.by4 0=a.toNat) (b1:t.by4 1=b.toNat) (b2:t.by4 2=d.toNat) (a1:240<=a.toNat) (a2:a.toNat<=244) (hb1:zbb a.toNat<=b.toNat) (hb2:(b.toNat:Int)<=Z6 a.toNat) (hd:128<=d.toNat/\d.toNat<=191) (n0:¬bs=0) (n1:¬bs=1) (m0:¬bg=0) (m1:¬bg=1) (k0:¬g=0) (k1:¬g=1):
 Calls Tryz.prog 161 #[.pointer (some ⟨bs,0,none⟩),.int .u8 c.toNat] w (zby bs bg g N w (zbc s a [b,d] c)):=by
 have hne:¬t.bn=0:=by omega
 have q:=Zk a.toNat;have gdef:zq (a :: [b,d]) c.toNat=(decide (128<=(c.toNat:Int))&&decide ((c.toNat:Int)<=191)):=rfl;unfold zbc;cases hg:zq (a :: [b,d]) c.toNat with
 |false=>
  rw[if_pos rfl];have hgn:c.toNat<128\/191<c.toNat:=by rw[gdef] at hg;simp at hg;omega
  exact zib {zb5 t 3 c.toNat with bn:=0} c ((h.noB _).noO) ((ok.setB _).odd) T rfl hne hm rfl (zd8 bs bg g N _ _ c.toNat w (zq4 a b d c ((h.noB _).noO) T n0 n1 hn b0 b1 b2 a1 a2 hb1 hb2 hd hgn)) n0 n1 m0 m1 k0 k1
 |true=>
  rw[if_neg (by decide)];have hgy:128<=c.toNat/\c.toNat<=191:=by rw[gdef] at hg;simp at hg;omega
  have hl:zQ a.toNat=4:=by omega
  rw[if_pos (show zQ a.toNat=((([b,d]:List UInt8).length+2:Nat):Int) from hl)];exact Z4 (zlr bs bg g N {s with B:=⟨#[]⟩} _ t _ c.toNat w (h.noB _) hne (zeM bs bg g N {s with B:=⟨#[]⟩} _ c.toNat _ w (ok.setB _) (zoY a b d c (h.noB _) T n0 n1 hn b0 b1 b2 a1 a2 hb1 hb2 hd hgy))) rfl rfl rfl rfl (by rw[zgy];exact zg0 hm rfl)
theorem zv9 (c:UInt8) (h:zh w bs bg g N s t) (ok:s.Ok) (T:ZY w) (tie:Tie s.B t) (n0:¬bs=0) (n1:¬bs=1) (m0:¬bg=0) (m1:¬bg=1) (k0:¬g=0) (k1:¬g=1):
 Calls Tryz.prog 125 #[.pointer (some ⟨bs,0,none⟩),.int .u8 c.toNat] w (zby bs bg g N w (za3 s c)):=by
 unfold za3;rcases tie with⟨e,hm,h0⟩|⟨e,hm,h0⟩|⟨l,e,hm,h0,hs⟩|⟨a,e,hm,h0,b0,a1,a2⟩|⟨a,b,e,hm,h0,b0,b1,a1,a2,l1,l2⟩|⟨a,b,d,e,hm,h0,b0,b1,b2,a1,a2,l1,l2,d1,d2⟩
 ·rw[e];exact zj4 bs bg g N s _ t c.toNat w h hm (zq6 c h ok T e hm h0 n0 n1 m0 m1 k0 k1)
 ·rw[e];exact zuM bs bg g N s _ t c.toNat w h hm (zv4 c h e hm h0)
 ·rw[e];exact zuN bs bg g N s _ t c.toNat w h hm (zv5 l c h ok hm h0 hs)
 ·have hne:a≠27:=λq=>by rw[q] at a1;exact absurd a1 (by decide)
  rw[e];show Calls _ _ _ _ (zby bs bg g N w (if a=27 then _ else zbc s a [] c));rw[if_neg hne];exact zj4 bs bg g N s _ t c.toNat w h hm (zv6 a c h ok T hm h0 b0 a1 a2 n0 n1 m0 m1 k0 k1)
 ·have hne:a≠27:=λq=>by rw[q] at a1;exact absurd a1 (by decide)
  rw[e];show Calls _ _ _ _ (zby bs bg g N w (if a=27 then _ else zbc s a [b] c));rw[if_neg hne];exact zj4 bs bg g N s _ t c.toNat w h hm (zv7 a b c h ok T hm h0 b0 b1 a1 a2 l1 l2 n0 n1 m0 m1 k0 k1)
 ·have hne:a≠27:=λq=>by rw[q] at a1;exact absurd a1 (by decide)
  rw[e];show Calls _ _ _ _ (zby bs bg g N w (if a=27 then _ else zbc s a [b,d] c));rw[if_neg hne];exact zj4 bs bg g N s _ t c.toNat w h hm (zv8 a b d c h ok T hm h0 b0 b1 b2 a1 a2 l1 l2 ⟨d1,d2⟩ n0 n1 m0 m1 k0 k1)
end
end
section
open Go.RowKit
attribute [local go_sem ↓] Go.wp_at_zero Go.wp_at_succ
theorem zq8 (bs bg g N:Nat) (s:Rs) (t:Pt) (b:ByteArray) (w:World) (h:zh w bs bg g N s t) (ok:s.Ok) (T:ZY w) (tie:Tie s.B t) (n0:¬bs=0) (n1:¬bs=1) (m0:¬bg=0) (m1:¬bg=1) (k0:¬g=0) (k1:¬g=1) (hb:b.size<=9223372036854775807):
 Calls Tryz.prog 62 #[.pointer (some ⟨bs,0,none⟩),.string b] w (zby bs bg g N w (zj s b.data.toList)):=by
 have HP:Hid (∃t,zh w bs bg g N s t/\Tie s.B t):=⟨t,h,tie⟩;have Hok:=zH ok;have HT:=zH T;clear h ok tie T;go_in;go_wp2_with fail;go_loopw[7] (λi w'=>∃k:Nat,k<=b.size/\i=.int .i64 k/\(∃t,zh w' bs bg g N (zj s (b.data.toList.take k)) t/\Tie (zj s (b.data.toList.take k)).B t)/\zd (λi=>i=bs\/i=bg\/i=g) w w'/\(zj s (b.data.toList.take k)).Ok) (λi _=>b.size-(intOf i).toNat)
 case atStart=>exact⟨0,by omega,rfl,HP.out,zd.refl _ _,Hok.out⟩
 case round=>
  obtain⟨k,hk,rfl,hR,hK,hO⟩:=hrel;have HR5:=zH hR;have HO5:=zH hO;have HK5:=zH hK;clear hR hO hK HP Hok;by_cases hlt:k<b.size
  ·have hnx:zj s (b.data.toList.take (k+1))=za3 (zj s (b.data.toList.take k)) b[k]:=by
    unfold zj;rw[zbK b k hlt,List.foldl_append];rfl
   have Hnx:=zH hnx;clear hnx;have hlt':(k:Int)<(b.size:Int):=by omega
   go_wp2_with fail;go_at_call 125;obtain⟨t5,P5,T5⟩:=HR5.out;refine(zv9 b[k] P5 HO5.out (HT.out.keep HK5.out (by omega) (by omega)) T5 n0 n1 m0 m1 k0 k1).mono ?_;rintro e w6 ⟨rfl,R6,K6⟩;have HR6:Hid (∃t,zh w6 bs bg g N (zj s (b.data.toList.take (k+1))) t/\Tie (zj s (b.data.toList.take (k+1))).B t):=by
    show∃t,zh w6 bs bg g N (zj s (b.data.toList.take (k+1))) t/\Tie (zj s (b.data.toList.take (k+1))).B t;rw[Hnx.out];exact R6
   have HK6:=zH<|HK5.out.trans K6 (λ_ _ h=>h)
   have HO6:Hid (zj s (b.data.toList.take (k+1))).Ok:=by show(zj s (b.data.toList.take (k+1))).Ok;rw[Hnx.out];exact HO5.out.one _
   clear R6 K6 P5 T5;go_wp2_with fail;exact⟨⟨k+1,by omega,by simp,HR6.out,HK6.out,HO6.out⟩,by simp only[intOf];omega⟩
  ·have hke:=zH<|List.take_of_length_le (by show b.size<=k;omega)
   have hlt':(b.size:Int)<=(k:Int):=by omega
   go_wp2_with fail;go_end0;have q:=HR5.out;rw[hke.out] at q;exact⟨rfl,q,HK5.out⟩
theorem zlt (bs bg g N:Nat) (s:Rs) (t:Pt) (x y:Int) (w:World) (h:zh w bs bg g N s t):
 Calls Tryz.prog 121 #[.pointer (some ⟨bs,0,none⟩),.int .i64 x,.int .i64 y] w λe w'=>e=.returned (.bool (inG s.W s.H x y))/\w'=w:=by
 have HP:=zH h;have c0:=h.f0;clear h;go_in;go_wp2_with (first|(go_at_call 103;refine sM (zlU bg g s.W s.H N s.G x y _ HP.out.gr) ?_));go_ret;exact⟨rfl,rfl⟩
theorem znC (bs bg g N:Nat) (s:Rs) (t:Pt) (x y:Nat) (w:World) (h:zh w bs bg g N s t) (hx:x<s.W) (hy:y<s.H):
 Calls Tryz.prog 122 #[.pointer (some ⟨bs,0,none⟩),.int .i64 x,.int .i64 y] w λe w'=>e=.returned (s.G x y).agg/\Below w.heap.size w w':=by
 have HP:=zH h;have c0:=h.f0;have l:=h.lt;clear h;go_in;go_wp2_with fail;go_at_call 146;refine(zts bg g s.W s.H N s.G x y _ (HP.out.gr.below ((Below.refl _ _).alloc (Nat.le_refl _) _)) hx hy).mono ?_;rintro e w2 ⟨rfl,hb2⟩;have hz:w.heap.size<w2.heap.size:=by have:=hb2.size;simp at this;omega
 have hc:=hb2.cells (b:=w.heap.size) (by simp);have hf:=hb2.marks (b:=w.heap.size) (by simp);have hB:=((Below.refl _ _).alloc (Nat.le_refl _) _).trans (hb2.mono (by simp));clear hb2;go_wp2_with fail;exact bodyPost_ret (v:=(s.G x y).agg) (by simp[results,Tryz.results122,go_sem,hc]) rfl ⟨rfl,((zd.below (λi=>i=w.heap.size) hB).put7 w.heap.size 0 (s.G x y) (λ_=>rfl)).toBelow (Nat.le_refl _) (λi hi=>by omega)⟩
theorem zj7 (bs bg g N:Nat) (s:Rs) (t:Pt) (w:World) (h:zh w bs bg g N s t):
 Calls Tryz.prog 63 #[.pointer (some ⟨bs,0,none⟩)] w λe w'=>e=.returned (zcs s.W s.H s.x s.y s.pend s.pen s.top s.bot (decide (t.mode=0)&&decide (t.bn=0)))/\Below w.heap.size w w':=by
 have HP:=zH h;have l:=h.lt;have c0:=h.f0;have c1:=h.f1;have c2:=h.f2;have c3:=h.f3;have c4:=h.f4;have c5:=h.f5;have c6:=h.f6;have c7:=h.f7;have c8:=h.f8;have c9:=h.f9;have c10:=h.f10;have c11:=h.f11;clear h;have nn:=World.new_ne w _ c0;go_in;go_wp2_with fail;have hbl:Below w.heap.size w (w.alloc (.cells #[.int .i64 0,.int .i64 0,.int .i64 0,.int .i64 0,.bool false,.int .i64 0,.int .i64 0,.bool false,.bool false,.bool false,.int .i64 0,.int .i64 0,.bool false] 59)):=(Below.refl _ _).alloc (Nat.le_refl _) _;have HD:=zH<|(HP.out.below hbl).drew
 clear hbl;by_cases hm0:t.mode=0
 ·rw[hm0] at c11;go_region_held3 (λw'=>w'.cell? ⟨bs,0,none⟩=some (.pointer (some ⟨bg,0,none⟩))/\w'.cell? ⟨bs,1,none⟩=some (.int .i64 s.x)/\w'.cell? ⟨bs,2,none⟩=some (.int .i64 s.y)/\w'.cell? ⟨bs,3,none⟩=some (.bool s.pend)/\w'.cell? ⟨bs,4,none⟩=some (.int .i64 s.pen.f)/\w'.cell? ⟨bs,5,none⟩=some (.int .i64 s.pen.b)/\w'.cell? ⟨bs,6,none⟩=some (.bool s.pen.bo)/\w'.cell? ⟨bs,7,none⟩=some (.bool s.pen.un)/\w'.cell? ⟨bs,8,none⟩=some (.bool s.pen.re)/\w'.cell? ⟨bs,9,none⟩=some (.int .i64 s.top)/\w'.cell? ⟨bs,10,none⟩=some (.int .i64 s.bot)/\w'.cell? ⟨bs,11,none⟩=some (.int .i64 0)) (go_keep) (first|(go_at_call 126;refine sM (zcC bg g s.W s.H N s.G _ HD.out.gr) ?_)|(go_at_call 127;refine sM (zbF bg g s.W s.H N s.G _ HD.out.gr) ?_)|(go_at_call 128;refine sM (zj2 bs bg g N s t _ HD.out) ?_));go_wp2_with fail;exact bodyPost_ret (v:=zcs s.W s.H s.x s.y s.pend s.pen s.top s.bot (decide (t.mode=0)&&decide (t.bn=0))) (by simp[results,Tryz.results63,go_sem,hm0]) rfl ⟨rfl,((Below.refl _ _).alloc (Nat.le_refl _) _).drew⟩
 ·have hm1:(t.mode==0)=false:=by simp[hm0]
  first|(go_region_held (λw'=>w'.cell? ⟨bs,0,none⟩=some (.pointer (some ⟨bg,0,none⟩))/\w'.cell? ⟨bs,1,none⟩=some (.int .i64 s.x)/\w'.cell? ⟨bs,2,none⟩=some (.int .i64 s.y)/\w'.cell? ⟨bs,3,none⟩=some (.bool s.pend)/\w'.cell? ⟨bs,4,none⟩=some (.int .i64 s.pen.f)/\w'.cell? ⟨bs,5,none⟩=some (.int .i64 s.pen.b)/\w'.cell? ⟨bs,6,none⟩=some (.bool s.pen.bo)/\w'.cell? ⟨bs,7,none⟩=some (.bool s.pen.un)/\w'.cell? ⟨bs,8,none⟩=some (.bool s.pen.re)/\w'.cell? ⟨bs,9,none⟩=some (.int .i64 s.top)/\w'.cell? ⟨bs,10,none⟩=some (.int .i64 s.bot)/\w'.cell? ⟨bs,11,none⟩=some (.int .i64 t.mode)) (go_keep) (first|(go_at_call 126;refine sM (zcC bg g s.W s.H N s.G _ HD.out.gr) ?_)|(go_at_call 127;refine sM (zbF bg g s.W s.H N s.G _ HD.out.gr) ?_)|(go_at_call 128;refine sM (zj2 bs bg g N s t _ HD.out) ?_)))|fail
  go_wp2_with fail;exact bodyPost_ret (v:=zcs s.W s.H s.x s.y s.pend s.pen s.top s.bot (decide (t.mode=0)&&decide (t.bn=0))) (by simp[results,Tryz.results63,go_sem,hm0]) rfl ⟨rfl,((Below.refl _ _).alloc (Nat.le_refl _) _).drew⟩
end
end Go.Proofs.YtjlfibhbfdckpaaGreatDoor

import Derived.Test.YtjlfibhbfdckpaaGreatDoorW28
namespace Go.Proofs.YtjlfibhbfdckpaaGreatDoor
set_option maxHeartbeats 64000000
set_option maxRecDepth 100000
section
open Go.RowKit
attribute [local go_sem ↓] Go.wp_at_zero Go.wp_at_succ
def ZY (n v:Int):Int:=if n=0 then v else n
theorem zaC (bs bg g N:Nat) (s:Rs) (t:Pt) (i:Nat) (v:Int) (w:World) (h:zj w bs bg g N s t) (hi:i<8):
 ze zd.prog 204 #[.pointer (some ⟨bs,17,none⟩),.int .i64 i,.int .i64 v] w λe w'=>e=.returned (.int .i64 (ZY (t.nm i) v))/\w'=w:=by
 have c:=h.num i hi;clear h;by_cases h0:t.nm i=0
 ·rw[show ZY (t.nm i) v=v from if_pos h0];rw[h0] at c;go_in;go_wp2;go_ret;exact⟨rfl,rfl⟩
 ·rw[show ZY (t.nm i) v=t.nm i from if_neg h0];go_in;go_wp2;go_ret;exact⟨rfl,rfl⟩
theorem zwP (bs bg g N:Nat) (s:Rs) (t:Pt) (w:World) (h:zj w bs bg g N s t) (c:Nat) (hc:t.cn=c) (hc8:c<=8):
 ze zd.prog 210 #[.pointer (some ⟨bs,17,none⟩)] w λe w'=>e=.returned (.slice (some ⟨bs,17,none⟩) (if c=0 then 1 else c) 8)/\Below w.heap.size w w':=by
 have c25:=h.f25;rw[hc] at c25;obtain⟨m,hm⟩:∃m:Nat,(if c=0 then 1 else c)=m:=⟨_,rfl⟩;have hg:zN c 1=m:=by unfold zN;split at hm<;>split<;>omega
 have hm8:m<=8:=by split at hm<;>omega
 rw[hm];have hm9:(m:Int)<=8:=by omega
 have hm0:(0:Int)<=m:=by omega
 clear h hm;go_in;go_wp2_with fail;go_quiet ((go_at_call 139;exact ze.quiet_of_same (zch _ _ _)));go_wp2_with fail;go_ret;exact⟨rfl,Ze _ _⟩
def zcK (c:Int):Int:=if c<1 then 1 else c
def zfw (t:Pt) (d:Int):Pt:=if t.bad=true then t else {t with cn:=zcK t.cn,nm:=zhu t.nm ((zcK t.cn).toNat-1) (zf6 (t.nm ((zcK t.cn).toNat-1)*10+d))}
def ze6 (t:Pt):Pt:=if t.bad=true then t else {t with cn:=zcK t.cn+1,bad:=decide (8<zcK t.cn+1)}
theorem zoR (n:Int):ZW n 9999=zf6 n:=by unfold ZW zf6;rfl
theorem zfV (c:Int):zN c 1=zcK c:=by unfold zN zcK;rfl
theorem zuG (bs bg g N:Nat) (s:Rs) (t:Pt) (d:Int) (w:World) (h:zj w bs bg g N s t) (hcn:t.bad=false->0<=t.cn/\t.cn<=8) (hn:t.bad=false->∀i,i<8->0<=t.nm i/\t.nm i<=9999) (d0:0<=d) (d9:d<=9):
 ze zd.prog 182 #[.pointer (some ⟨bs,17,none⟩),.int .i64 d] w (zY bs bg g N w s (zfw t d) (.tuple #[])):=by
 have HP:=zH h;have f26:=h.f26;have f25:=h.f25;have fz:=h.free;clear h;cases hb:t.bad with
 |true=>
  rw[hb] at f26;rw[show zfw t d=t from if_pos hb];go_in;go_wp2_with fail;exact bodyPost_ret (v:=.tuple #[]) (by simp[results,zd.results182,go_sem]) rfl ⟨rfl,HP.out,zf.refl _ _⟩
 |false=>
  rw[hb] at f26;obtain⟨c0,c8⟩:=hcn hb;have hn:=hn hb;obtain⟨i,hi⟩:∃i:Nat,zcK t.cn=(i:Int)+1:=⟨(zcK t.cn-1).toNat,by unfold zcK;split<;>omega⟩;have hi8:i<8:=by unfold zcK at hi;split at hi<;>omega
  have HT:Hid (zfw t d={t with cn:=(i:Int)+1,nm:=zhu t.nm i (zf6 (t.nm i*10+d))}):=by
   show zfw t d=_;unfold zfw;rw[if_neg (by rw[hb];decide),hi,show((i:Int)+1).toNat-1=i by omega]
  have hmg:zN t.cn 1=(i:Int)+1:=by rw[zfV,hi]
  obtain⟨n0,n9⟩:=hn i hi8;have hnum:=HP.out.num i hi8;have HP1:Hid (zj (w.setCell ⟨bs,25,none⟩ (.int .i64 ((i:Int)+1))) bs bg g N s {t with cn:=(i:Int)+1} ):=HP.out.setCn _;have hcap:=zoR (t.nm i*10+d);have hoff:¬25=17+i:=by omega
  generalize hnn:t.nm i=n at *;have HN:=zH hnn;clear hnn;go_in;go_wp2_with (first|(go_at_call 139;refine sM (zch _ _ _) ?_)|(go_at_call 138;refine sM (zcg _ _ _) ?_));clear HP f25 f26 fz hnum;have K1:zf (λi=>i=bs\/i=bg\/i=g) w (w.setCell ⟨bs,25,none⟩ (.int .i64 ((i:Int)+1))):=(zf.refl _ w).setCell ⟨bs,25,none⟩ _ (λ_=>Or.inl rfl);generalize w.setCell ⟨bs,25,none⟩ (.int .i64 ((i:Int)+1))=wa at *;have f25:wa.cell? ⟨bs,25,none⟩=some (.int .i64 ((i:Int)+1)):=HP1.out.f25;have wi:IntKind.i64.wrap ((i:Int)+1-1)=i:=by rw[zo _ (by omega) (by omega)];omega
  have i0:(0:Int)<=i:=by omega
  have i8:(i:Int)<8:=by omega
  go_quiet (fail);have HP2:=zH<|HP1.out.drewN nq
  have K2:=K1.drewN nq;generalize wa.drewN nq=wb at *;clear HP1 K1 f25;have fi:wb.cell? ⟨bs,17+i,none⟩=some (.int .i64 n):=by rw[←HN.out];exact HP2.out.num i hi8
  have fz:=HP2.out.free;go_wp2_with (first|(go_at_call 138;refine sM (zcg _ _ _) ?_));go_end0;refine⟨rfl,?_,K2.setCell ⟨bs,17+i,none⟩ _ (λ_=>Or.inl rfl)⟩;rw[HT.out];exact HP2.out.setNum i hi8 _
theorem zoS (bs bg g N:Nat) (s:Rs) (t:Pt) (w:World) (h:zj w bs bg g N s t) (hcn:t.bad=false->0<=t.cn/\t.cn<=8):
 ze zd.prog 183 #[.pointer (some ⟨bs,17,none⟩)] w (zY bs bg g N w s (ze6 t) (.tuple #[])):=by
 have HP:=zH h;have f26:=h.f26;have f25:=h.f25;have fz:=h.free;clear h;cases hb:t.bad with
 |true=>
  rw[hb] at f26;rw[show ze6 t=t from if_pos hb];go_in;go_wp2_with fail;exact bodyPost_ret (v:=.tuple #[]) (by simp[results,zd.results183,go_sem]) rfl ⟨rfl,HP.out,zf.refl _ _⟩
 |false=>
  rw[hb] at f26;obtain⟨c0,c8⟩:=hcn hb;obtain⟨m,hm⟩:∃m:Int,zcK t.cn=m:=⟨_,rfl⟩;have hm8:m<=8:=by unfold zcK at hm;split at hm<;>omega
  have hm0:0<=m:=by unfold zcK at hm;split at hm<;>omega
  have HT:Hid (ze6 t={t with cn:=m+1,bad:=decide (8<m+1)}):=by
   show ze6 t=_;unfold ze6;rw[if_neg (by rw[hb];decide),hm]
  have hmg:zN t.cn 1=m:=by rw[zfV,hm]
  go_in;go_wp2_with (first|(go_at_call 139;refine sM (zch _ _ _) ?_));go_end0;refine⟨rfl,?_,((zf.refl _ w).setCell ⟨bs,25,none⟩ _ (λ_=>Or.inl rfl)).setCell ⟨bs,26,none⟩ _ (λ_=>Or.inl rfl)⟩;rw[HT.out];exact(HP.out.setCn _).setBad _
theorem zj.setPenF {w:World} {bs bg g N:Nat} {s:Rs} {t:Pt} (h:zj w bs bg g N s t) (v:Int):zj (w.setCell ⟨bs,4,none⟩ (.int .i64 v)) bs bg g N {s with pen:={s.pen with f:=v} } t:=h.store 4 _ _ _ rfl rfl rfl rfl
theorem zj.setPenB {w:World} {bs bg g N:Nat} {s:Rs} {t:Pt} (h:zj w bs bg g N s t) (v:Int):zj (w.setCell ⟨bs,5,none⟩ (.int .i64 v)) bs bg g N {s with pen:={s.pen with b:=v} } t:=h.store 5 _ _ _ rfl rfl rfl rfl
theorem zj.setPenO {w:World} {bs bg g N:Nat} {s:Rs} {t:Pt} (h:zj w bs bg g N s t) (v:Bool):zj (w.setCell ⟨bs,6,none⟩ (.bool v)) bs bg g N {s with pen:={s.pen with bo:=v} } t:=h.store 6 _ _ _ rfl rfl rfl rfl
theorem zj.setPenU {w:World} {bs bg g N:Nat} {s:Rs} {t:Pt} (h:zj w bs bg g N s t) (v:Bool):zj (w.setCell ⟨bs,7,none⟩ (.bool v)) bs bg g N {s with pen:={s.pen with un:=v} } t:=h.store 7 _ _ _ rfl rfl rfl rfl
theorem zj.setPenR {w:World} {bs bg g N:Nat} {s:Rs} {t:Pt} (h:zj w bs bg g N s t) (v:Bool):zj (w.setCell ⟨bs,8,none⟩ (.bool v)) bs bg g N {s with pen:={s.pen with re:=v} } t:=h.store 8 _ _ _ rfl rfl rfl rfl
theorem zmH (bs bg g N:Nat) (s:Rs) (t:Pt) (n:Int) (w:World) (h:zj w bs bg g N s t):
 ze zd.prog 211 #[.pointer (some ⟨bs,4,none⟩),.int .i64 n] w (zY bs bg g N w (zem s n) t (.tuple #[])):=by
 have f4:=h.f4;have f5:=h.f5;have f6:=h.f6;have f7:=h.f7;have f8:=h.f8;have fr:=h.free;have HR:=zH h;clear h;by_cases h0:n=0
 ·subst h0;go_in;go_wp2_with (first|(go_at_call 107;refine sM (zap _ _ _ _) ?_));go_end0;exact⟨rfl,((((HR.out.setPenF 0).setPenB 0).setPenO false).setPenU false).setPenR false,(((((zf.refl _ w).setCell ⟨bs,4,none⟩ _ (λ_=>Or.inl rfl)).setCell ⟨bs,5,none⟩ _ (λ_=>Or.inl rfl)).setCell ⟨bs,6,none⟩ _ (λ_=>Or.inl rfl)).setCell ⟨bs,7,none⟩ _ (λ_=>Or.inl rfl)).setCell ⟨bs,8,none⟩ _ (λ_=>Or.inl rfl)⟩
 by_cases h1:n=1
 ·subst h1;go_in;go_wp2_with (first|(go_at_call 107;refine sM (zap _ _ _ _) ?_));go_end0;exact⟨rfl,HR.out.setPenO true,(zf.refl _ w).setCell ⟨bs,6,none⟩ _ (λ_=>Or.inl rfl)⟩
 by_cases h22:n=22
 ·subst h22;go_in;go_wp2_with (first|(go_at_call 107;refine sM (zap _ _ _ _) ?_));go_end0;exact⟨rfl,HR.out.setPenO false,(zf.refl _ w).setCell ⟨bs,6,none⟩ _ (λ_=>Or.inl rfl)⟩
 by_cases h4:n=4
 ·subst h4;go_in;go_wp2_with (first|(go_at_call 107;refine sM (zap _ _ _ _) ?_));go_end0;exact⟨rfl,HR.out.setPenU true,(zf.refl _ w).setCell ⟨bs,7,none⟩ _ (λ_=>Or.inl rfl)⟩
 by_cases h24:n=24
 ·subst h24;go_in;go_wp2_with (first|(go_at_call 107;refine sM (zap _ _ _ _) ?_));go_end0;exact⟨rfl,HR.out.setPenU false,(zf.refl _ w).setCell ⟨bs,7,none⟩ _ (λ_=>Or.inl rfl)⟩
 by_cases h7:n=7
 ·subst h7;go_in;go_wp2_with (first|(go_at_call 107;refine sM (zap _ _ _ _) ?_));go_end0;exact⟨rfl,HR.out.setPenR true,(zf.refl _ w).setCell ⟨bs,8,none⟩ _ (λ_=>Or.inl rfl)⟩
 by_cases h27:n=27
 ·subst h27;go_in;go_wp2_with (first|(go_at_call 107;refine sM (zap _ _ _ _) ?_));go_end0;exact⟨rfl,HR.out.setPenR false,(zf.refl _ w).setCell ⟨bs,8,none⟩ _ (λ_=>Or.inl rfl)⟩
 by_cases h39:n=39
 ·subst h39;go_in;go_wp2_with (first|(go_at_call 107;refine sM (zap _ _ _ _) ?_));go_end0;exact⟨rfl,HR.out.setPenF 0,(zf.refl _ w).setCell ⟨bs,4,none⟩ _ (λ_=>Or.inl rfl)⟩
 by_cases h49:n=49
 ·subst h49;go_in;go_wp2_with (first|(go_at_call 107;refine sM (zap _ _ _ _) ?_));go_end0;exact⟨rfl,HR.out.setPenB 0,(zf.refl _ w).setCell ⟨bs,5,none⟩ _ (λ_=>Or.inl rfl)⟩
 by_cases hr30:30<=n/\n<=37
 ·have HP:Hid (zem s n={s with pen:={s.pen with f:=n-29} }):=by
   show zem s n=_;unfold zem zdd;rw[if_neg h0,if_neg h1,if_neg h22,if_neg h4,if_neg h24,if_neg h7,if_neg h27,if_neg h39,if_neg h49,if_pos hr30]
  have r0:=hr30.1;have r1:=hr30.2;have b30:Wd.inB n 30 37=true:=by simp[Wd.inB,r0,r1]
  go_in;go_wp2_with (first|(go_at_call 107;refine sM (zap _ _ _ _) ?_));go_end0;refine⟨rfl,?_,(zf.refl _ w).setCell ⟨bs,4,none⟩ _ (λ_=>Or.inl rfl)⟩;rw[HP.out];exact HR.out.setPenF _
 by_cases hr40:40<=n/\n<=47
 ·have HP:Hid (zem s n={s with pen:={s.pen with b:=n-39} }):=by
   show zem s n=_;unfold zem zdd;rw[if_neg h0,if_neg h1,if_neg h22,if_neg h4,if_neg h24,if_neg h7,if_neg h27,if_neg h39,if_neg h49,if_neg hr30,if_pos hr40]
  have r0:=hr40.1;have r1:=hr40.2;have b30:Wd.inB n 30 37=false:=by simp[Wd.inB];omega
  have b40:Wd.inB n 40 47=true:=by simp[Wd.inB,r0,r1]
  go_in;go_wp2_with (first|(go_at_call 107;refine sM (zap _ _ _ _) ?_));go_end0;refine⟨rfl,?_,(zf.refl _ w).setCell ⟨bs,5,none⟩ _ (λ_=>Or.inl rfl)⟩;rw[HP.out];exact HR.out.setPenB _
 have HP:Hid (zem s n=s):=by
  show zem s n=_;unfold zem zdd;rw[if_neg h0,if_neg h1,if_neg h22,if_neg h4,if_neg h24,if_neg h7,if_neg h27,if_neg h39,if_neg h49,if_neg hr30,if_neg hr40]
 have b30:Wd.inB n 30 37=false:=by simp[Wd.inB];omega
 have b40:Wd.inB n 40 47=false:=by simp[Wd.inB];omega
 go_in;go_wp2_with (first|(go_at_call 107;refine sM (zap _ _ _ _) ?_));go_end0;refine⟨rfl,?_,zf.refl _ w⟩;rw[HP.out];exact HR.out
theorem zh7 {s:Rs} (hw:Wf s.W s.H s.G) {x0 x1 how:Int} {Y:Nat} (hY:s.y=Y) (h:∀a:Nat,a<s.W->(zcv how false s.x s.y a Y=true↔x0<=a/\(a:Int)<x1)):
 ZZ s.W s.H (zaJ s.W x0 x1 Y (zV s) s.G) (zbU s how false).G:=by
 unfold zaJ zbU;refine zbo hw (λa b ha hb=>?_) (λ_ _ _ _ _=>rfl);by_cases e:b=Y
 ·subst e;have:=h a ha;rw[Bool.eq_iff_iff,this];simp[ha]
 ·have e':¬(b:Int)=s.y:=by omega
  simp[zcv,e,e']
theorem zln (bs bg g N:Nat) (s:Rs) (t:Pt) (w:World) (h:zj w bs bg g N s t) (ok:s.Ok):
 ze zd.prog 205 #[.pointer (some ⟨bs,0,none⟩),.int .i64 0] w (zY bs bg g N w (zbU s 0 false) t (.tuple #[])):=by
 have HP:=zH h;obtain⟨Y,hY⟩:∃Y:Nat,s.y=Y:=⟨s.y.toNat,by have:=ok.y0;omega⟩;have hYH:Y<s.H:=by have:=ok.y1;omega
 have HE:Hid (ZZ s.W s.H (zaJ s.W s.x (s.W:Int) Y (zV s) s.G) (zbU s 0 false).G):=zh7 ok.wf hY (λa ha=>by
  have hY':=hY.symm;simp[zcv,hY'];omega)
 have Hwf:=zH ok.wf;have c0:=h.f0;have c1:=h.f1;have c2:=h.f2;rw[hY] at c2;have x0:=ok.x0;have x1:=ok.x1;have w2:=ok.w2;have wx:IntKind.i64.wrap (s.x+1)=s.x+1:=zo _ (by omega) (by omega);have HY:=zH hY;clear h ok hY;go_in;go_wp2_with (first|(go_at_call 126;refine sM (zcE bg g s.W s.H N s.G _ HP.out.gr) ?_));have HD:=zH HP.out.drew;go_region_held3 (λw'=>w'.cell? ⟨bs,1,none⟩=some (.int .i64 s.x)/\w'.cell? ⟨bs,2,none⟩=some (.int .i64 (Y:Int))) (simp[*]) (first|(go_at_call 207;refine(zfv bs bg g N s t s.x (s.W:Int) Y _ HD.out Hwf.out hYH).mono ?_;rintro e w3 ⟨rfl,P3,K3⟩;have e1:=P3.f1;have e2:=P3.f2;simp only[HY.out] at e2));go_wp2_with fail;go_end0;exact⟨rfl,P3.congr _ rfl rfl rfl HE.out,((zf.refl _ w).drew).trans K3 (λ_ _ h=>h)⟩
theorem zlo (bs bg g N:Nat) (s:Rs) (t:Pt) (w:World) (h:zj w bs bg g N s t) (ok:s.Ok):
 ze zd.prog 205 #[.pointer (some ⟨bs,0,none⟩),.int .i64 1] w (zY bs bg g N w (zbU s 1 false) t (.tuple #[])):=by
 have HP:=zH h;obtain⟨Y,hY⟩:∃Y:Nat,s.y=Y:=⟨s.y.toNat,by have:=ok.y0;omega⟩;have hYH:Y<s.H:=by have:=ok.y1;omega
 have HE:Hid (ZZ s.W s.H (zaJ s.W 0 (s.x+1) Y (zV s) s.G) (zbU s 1 false).G):=zh7 ok.wf hY (λa ha=>by
  have hY':=hY.symm;simp[zcv,hY'];omega)
 have Hwf:=zH ok.wf;have c0:=h.f0;have c1:=h.f1;have c2:=h.f2;rw[hY] at c2;have x0:=ok.x0;have x1:=ok.x1;have w2:=ok.w2;have wx:IntKind.i64.wrap (s.x+1)=s.x+1:=zo _ (by omega) (by omega);have HY:=zH hY;clear h ok hY;go_in;go_wp2_with (first|(go_at_call 126;refine sM (zcE bg g s.W s.H N s.G _ HP.out.gr) ?_));have HD:=zH HP.out.drew;go_region_held3 (λw'=>w'.cell? ⟨bs,1,none⟩=some (.int .i64 s.x)/\w'.cell? ⟨bs,2,none⟩=some (.int .i64 (Y:Int))) (simp[*]) (first|(go_at_call 207;refine(zfv bs bg g N s t 0 (s.x+1) Y _ HD.out Hwf.out hYH).mono ?_;rintro e w3 ⟨rfl,P3,K3⟩;have e1:=P3.f1;have e2:=P3.f2;simp only[HY.out] at e2));go_wp2_with fail;go_end0;exact⟨rfl,P3.congr _ rfl rfl rfl HE.out,((zf.refl _ w).drew).trans K3 (λ_ _ h=>h)⟩
theorem zlp (bs bg g N:Nat) (s:Rs) (t:Pt) (w:World) (h:zj w bs bg g N s t) (ok:s.Ok):
 ze zd.prog 205 #[.pointer (some ⟨bs,0,none⟩),.int .i64 2] w (zY bs bg g N w (zbU s 2 false) t (.tuple #[])):=by
 have HP:=zH h;obtain⟨Y,hY⟩:∃Y:Nat,s.y=Y:=⟨s.y.toNat,by have:=ok.y0;omega⟩;have hYH:Y<s.H:=by have:=ok.y1;omega
 have HE:Hid (ZZ s.W s.H (zaJ s.W 0 (s.W:Int) Y (zV s) s.G) (zbU s 2 false).G):=zh7 ok.wf hY (λa ha=>by
  have hY':=hY.symm;simp[zcv,hY'];omega)
 have Hwf:=zH ok.wf;have c0:=h.f0;have c1:=h.f1;have c2:=h.f2;rw[hY] at c2;have x0:=ok.x0;have x1:=ok.x1;have w2:=ok.w2;have wx:IntKind.i64.wrap (s.x+1)=s.x+1:=zo _ (by omega) (by omega);have HY:=zH hY;clear h ok hY;go_in;go_wp2_with (first|(go_at_call 126;refine sM (zcE bg g s.W s.H N s.G _ HP.out.gr) ?_));go_at_call 207;refine(zfv bs bg g N s t 0 (s.W:Int) Y _ HP.out Hwf.out hYH).mono ?_;rintro e w3 ⟨rfl,P3,K3⟩;go_wp2_with fail;go_end0;exact⟨rfl,P3.congr _ rfl rfl rfl HE.out,K3⟩
theorem zlq (bs bg g N:Nat) (s:Rs) (t:Pt) (how:Int) (w:World) (h:zj w bs bg g N s t) (h0:¬how=0) (h1:¬how=1) (h2:¬how=2):
 ze zd.prog 205 #[.pointer (some ⟨bs,0,none⟩),.int .i64 how] w (zY bs bg g N w (zbU s how false) t (.tuple #[])):=by
 have HP:=zH h;have HE:Hid (zbU s how false=s):=by
  show zbU s how false=s;unfold zbU;rw[zg4 _ _ _ (λa b=>by simp[zcv,h0,h1,h2])]
 have c0:=h.f0;clear h;go_in;go_wp2_with (first|(go_at_call 126;refine sM (zcE bg g s.W s.H N s.G _ HP.out.gr) ?_));go_end0;refine⟨rfl,?_,zf.refl _ w⟩;rw[HE.out];exact HP.out
theorem zh8 (bs bg g N:Nat) (s:Rs) (t:Pt) (how:Int) (w:World) (h:zj w bs bg g N s t) (ok:s.Ok):
 ze zd.prog 205 #[.pointer (some ⟨bs,0,none⟩),.int .i64 how] w (zY bs bg g N w (zbU s how false) t (.tuple #[])):=by
 by_cases h0:how=0
 ·subst h0;exact zln bs bg g N s t w h ok
 by_cases h1:how=1
 ·subst h1;exact zlo bs bg g N s t w h ok
 by_cases h2:how=2
 ·subst h2;exact zlp bs bg g N s t w h ok
 exact zlq bs bg g N s t how w h h0 h1 h2
def zdx (s:Rs) (how:Int) (j:Nat):Rs:={s with G:=wrt s.G (λa b=>zcv how true s.x s.y a b&&(decide ((b:Int)=s.y)||decide (b<j))) (λ_ _=>blk (zV s))}
theorem zuH (s:Rs) (how:Int):zbU s how false=zdx s how 0:=by
 unfold zbU zdx;congr 1;exact zhi (λa b=>by simp[zcv])
theorem zqW {s:Rs} (hw:Wf s.W s.H s.G) (how:Int):ZZ s.W s.H (zdx s how s.H).G (zbU s how true).G:=by
 unfold zbU zdx;refine zbo hw (λa b ha hb=>?_) (λ_ _ _ _ _=>rfl);simp[hb]
def zff (how Y:Int) (j:Nat):Prop:=(how=0/\Y<j)\/(how=1/\(j:Int)<Y)\/how=2
theorem zj3 {s:Rs} (hw:Wf s.W s.H s.G) {how:Int} {j:Nat} (h:¬zff how s.y j):ZZ s.W s.H (zdx s how j).G (zdx s how (j+1)).G:=by
 unfold zdx;refine zbo hw (λa b ha hb=>?_) (λ_ _ _ _ _=>rfl);unfold zff at h;rw[Bool.eq_iff_iff];simp only[zcv,Bool.and_eq_true,Bool.or_eq_true,decide_eq_true_eq,Bool.true_or,and_true];constructor
 ·rintro⟨p,q⟩;exact⟨p,by omega⟩
 ·rintro⟨p,q⟩;exact⟨p,by omega⟩
theorem zh9 {s:Rs} (hw:Wf s.W s.H s.G) {how:Int} {j:Nat} (h:zff how s.y j):ZZ s.W s.H (zaJ s.W 0 s.W j (zV s) (zdx s how j).G) (zdx s how (j+1)).G:=by
 unfold zdx zaJ;rw[zm8 _ _ _ _ _ (λ_ _ _ _=>rfl)];refine zbo hw (λa b ha hb=>?_) (λa b _ _ _=>by simp);unfold zff at h;rw[Bool.eq_iff_iff];simp only[zcv,Bool.and_eq_true,Bool.or_eq_true,decide_eq_true_eq,Bool.true_or,and_true];constructor
 ·rintro(⟨p,q⟩|⟨⟨⟨p,q⟩,r⟩,u⟩)
  ·exact⟨p,by omega⟩
  ·exact⟨by omega,by omega⟩
 ·rintro⟨p,q⟩;by_cases e:b=j
  ·right;exact⟨⟨⟨e,by omega⟩,by omega⟩,ha⟩
  ·left;exact⟨p,by omega⟩
theorem zlr (bs bg g N:Nat) (s:Rs) (t:Pt) (how:Int) (w:World) (h:zj w bs bg g N s t) (ok:s.Ok):
 ze zd.prog 206 #[.pointer (some ⟨bs,0,none⟩),.int .i64 how] w (zY bs bg g N w (zbU s how true) t (.tuple #[])):=by
 have HP:=zH h;have Hok:=zH ok;have y0:=ok.y0;have y1:=ok.y1;have h2:=ok.h2;clear h ok;go_in;go_wp2_with fail;go_at_call 205;refine(zh8 bs bg g N s t how _ HP.out Hok.out).mono ?_;rintro e wa ⟨rfl,P1,K1⟩;rw[zuH] at P1;have c0:=P1.f0;have HP1:=zH P1;have HK1:=zH K1;clear P1 K1;go_wp2_with (first|(go_at_call 127;refine sM (zbH bg g s.W s.H N (zdx s how 0).G _ HP1.out.gr) ?_));go_loopw[13] (λi w'=>∃j:Nat,j<=s.H/\i=.int .i64 j/\zj w' bs bg g N (zdx s how j) t/\zf (λi=>i=bs\/i=bg\/i=g) w w') (λi _=>s.H-(intOf i).toNat)
 case atStart=>exact⟨0,by omega,rfl,HP1.out,HK1.out⟩
 case round=>
  obtain⟨j,hj,rfl,hPj,hKj⟩:=hrel;have HPj:=zH hPj;have HKj:=zH hKj;have c0:=hPj.f0;have c2:wr.cell? ⟨bs,2,none⟩=some (.int .i64 s.y):=hPj.f2;clear hPj hKj HP1 HK1 HP;by_cases hlt:j<s.H
  ·have hlt':(j:Int)<s.H:=by omega
   by_cases h0:how=0/\s.y<j
   ·obtain⟨rfl,hYj⟩:=h0;have Hg:Hid (zff 0 s.y j):=Or.inl ⟨rfl,hYj⟩;go_wp2_with (first|(go_at_call 126;refine sM (zcE bg g s.W s.H N (zdx s 0 j).G _ HPj.out.gr) ?_));go_at_call 207;refine(zfv bs bg g N (zdx s 0 j) t 0 s.W j _ HPj.out (Hok.out.wf.blk _ _) hlt).mono ?_;rintro e w3 ⟨rfl,P3,K3⟩;have HP3:Hid (zj w3 bs bg g N (zdx s 0 (j+1)) t):=P3.congr _ rfl rfl rfl (zh9 Hok.out.wf Hg.out);have HK3:=zH<|HKj.out.trans K3 (λ_ _ h=>h)
    clear P3 K3 HPj HKj;go_wp2_with fail;exact⟨⟨j+1,by omega,by simp,HP3.out,HK3.out⟩,by simp only[intOf];omega⟩
   by_cases h1:how=1/\(j:Int)<s.y
   ·obtain⟨rfl,hYj⟩:=h1;have Hg:Hid (zff 1 s.y j):=Or.inr (Or.inl ⟨rfl,hYj⟩);go_wp2_with (first|(go_at_call 126;refine sM (zcE bg g s.W s.H N (zdx s 1 j).G _ HPj.out.gr) ?_));go_at_call 207;refine(zfv bs bg g N (zdx s 1 j) t 0 s.W j _ HPj.out (Hok.out.wf.blk _ _) hlt).mono ?_;rintro e w3 ⟨rfl,P3,K3⟩;have HP3:Hid (zj w3 bs bg g N (zdx s 1 (j+1)) t):=P3.congr _ rfl rfl rfl (zh9 Hok.out.wf Hg.out);have HK3:=zH<|HKj.out.trans K3 (λ_ _ h=>h)
    clear P3 K3 HPj HKj;go_wp2_with fail;exact⟨⟨j+1,by omega,by simp,HP3.out,HK3.out⟩,by simp only[intOf];omega⟩
   by_cases h3:how=2
   ·subst h3;have Hg:Hid (zff 2 s.y j):=Or.inr (Or.inr rfl);go_wp2_with (first|(go_at_call 126;refine sM (zcE bg g s.W s.H N (zdx s 2 j).G _ HPj.out.gr) ?_));go_at_call 207;refine(zfv bs bg g N (zdx s 2 j) t 0 s.W j _ HPj.out (Hok.out.wf.blk _ _) hlt).mono ?_;rintro e w3 ⟨rfl,P3,K3⟩;have HP3:Hid (zj w3 bs bg g N (zdx s 2 (j+1)) t):=P3.congr _ rfl rfl rfl (zh9 Hok.out.wf Hg.out);have HK3:=zH<|HKj.out.trans K3 (λ_ _ h=>h)
    clear P3 K3 HPj HKj;go_wp2_with fail;exact⟨⟨j+1,by omega,by simp,HP3.out,HK3.out⟩,by simp only[intOf];omega⟩
   have Hg:Hid (¬zff how s.y j):=by show¬zff how s.y j;unfold zff;omega
   by_cases h4:how=0
   ·subst h4;have hYj:¬s.y<(j:Int):=by omega
    go_wp2_with fail;exact⟨⟨j+1,by omega,by simp,HPj.out.congr _ rfl rfl rfl (zj3 Hok.out.wf Hg.out),HKj.out⟩,by simp only[intOf];omega⟩
   by_cases h5:how=1
   ·subst h5;have hYj:¬(j:Int)<s.y:=by omega
    go_wp2_with fail;exact⟨⟨j+1,by omega,by simp,HPj.out.congr _ rfl rfl rfl (zj3 Hok.out.wf Hg.out),HKj.out⟩,by simp only[intOf];omega⟩
   ·clear h0 h1;go_wp2_with fail;exact⟨⟨j+1,by omega,by simp,HPj.out.congr _ rfl rfl rfl (zj3 Hok.out.wf Hg.out),HKj.out⟩,by simp only[intOf];omega⟩
  ·have hjH:j=s.H:=by omega
   subst hjH;go_wp2_with fail;go_end0;exact⟨rfl,HPj.out.congr _ rfl rfl rfl (zqW Hok.out.wf how),HKj.out⟩
theorem zoT {H:Nat} {k:Int} (h2:H<=20):ZW (ZY k 9999) H=zcb H k:=by
 unfold ZW ZY zcb
 (repeat' split)<;>omega
theorem zqX (bs bg g N:Nat) (s:Rs) (t:Pt) (n k:Int) (w:World) (h:zj w bs bg g N s t) (ok:s.Ok) (k0:0<=k) (n1:1<=n) (n9:n<=9999):
 ze zd.prog 209 #[.pointer (some ⟨bs,0,none⟩),.int .i64 n,.int .i64 (ZY k 9999)] w (zY bs bg g N w (zaQ s n k) t (.tuple #[])):=by
 have HP:=zH h;have c0:=h.f0;have c9:=h.f9;have c10:=h.f10;have fz:=h.free;have h1:=ok.h1;have h2:=ok.h2;have hL:=zoT (H:=s.H) (k:=k) h2;have L1:1<=zcb s.H k:=by unfold zcb;split<;>omega
 have LH:zcb s.H k<=s.H:=by unfold zcb;split<;>omega
 have HM:Hid (∀c:Prop,[Decidable c]->(c↔n<zcb s.H k\/(s.H=1/\n=1))->zaQ s n k=if c then ZS {s with top:=n-1,bot:=zcb s.H k-1} 0 0 else s):=λc _ hc=>by
  unfold zaQ;by_cases q:c
  ·rw[if_pos (hc.1 q),if_pos q]
  ·rw[if_neg (λz=>q (hc.2 z)),if_neg q]
 generalize zcb s.H k=L at *;generalize ZY k 9999=kk at *;clear h ok;by_cases a:n<L
 ·have HM1:Hid (zaQ s n k=ZS {s with top:=n-1,bot:=L-1} 0 0):=by
   have:=HM.out True (by simp[a]);rwa [if_pos trivial] at this
  go_in;go_wp2_with (first|(go_at_call 127;refine sM (zbH bg g s.W s.H N s.G _ HP.out.gr) ?_)|(go_at_call 138;refine sM (zcg _ _ _) ?_));go_at_call 120;refine(zfd bs bg g N {s with top:=n-1,bot:=L-1} t 0 0 _ ((HP.out.setTop _).setBot _)).mono ?_;rintro e w3 ⟨rfl,P3,K3⟩;go_wp2_with fail;go_end0;refine⟨rfl,?_,(((zf.refl _ w).setCell ⟨bs,9,none⟩ _ (λ_=>Or.inl rfl)).setCell ⟨bs,10,none⟩ _ (λ_=>Or.inl rfl)).trans K3 (λ_ _ h=>h)⟩;rw[HM1.out];exact P3
 by_cases b:n=L/\s.H=1
 ·obtain⟨b1,b2⟩:=b;have HM1:Hid (zaQ s n k=ZS {s with top:=n-1,bot:=L-1} 0 0):=by
   have:=HM.out True (by simp;omega);rwa [if_pos trivial] at this
  have b3:((s.H:Int)==1)=true:=by simp[b2]
  have b4:(n==L)=true:=by simp[b1]
  have b5:=a;clear b1 b2 a;go_in;go_wp2_with (first|(go_at_call 127;refine sM (zbH bg g s.W s.H N s.G _ HP.out.gr) ?_)|(go_at_call 138;refine sM (zcg _ _ _) ?_));go_at_call 120;refine(zfd bs bg g N {s with top:=n-1,bot:=L-1} t 0 0 _ ((HP.out.setTop _).setBot _)).mono ?_;rintro e w3 ⟨rfl,P3,K3⟩;go_wp2_with fail;go_end0;refine⟨rfl,?_,(((zf.refl _ w).setCell ⟨bs,9,none⟩ _ (λ_=>Or.inl rfl)).setCell ⟨bs,10,none⟩ _ (λ_=>Or.inl rfl)).trans K3 (λ_ _ h=>h)⟩;rw[HM1.out];exact P3
 ·have HM1:Hid (zaQ s n k=s):=by
   have:=HM.out False (by simp;omega);rwa [if_neg id] at this
  by_cases b1:n=L
  ·have b3:((s.H:Int)==1)=false:=by simp;omega
   have b4:(n==L)=true:=by simp[b1]
   clear b1 b;go_in;go_wp2_with (first|(go_at_call 127;refine sM (zbH bg g s.W s.H N s.G _ HP.out.gr) ?_)|(go_at_call 138;refine sM (zcg _ _ _) ?_));go_end0;refine⟨rfl,?_,zf.refl _ w⟩;rw[HM1.out];exact HP.out
  ·have b4:(n==L)=false:=by simp[b1]
   clear b1 b;go_in;go_wp2_with (first|(go_at_call 127;refine sM (zbH bg g s.W s.H N s.G _ HP.out.gr) ?_)|(go_at_call 138;refine sM (zcg _ _ _) ?_));go_end0;refine⟨rfl,?_,zf.refl _ w⟩;rw[HM1.out];exact HP.out
structure zbb (t:Pt) (l:List Int):Prop where
 cn:t.cn=l.length
 le:l.length<=8
 nm:∀i,i<8->t.nm i=l.getD i 0
theorem ZK {n:Int} (h0:0<=n) (h9:n<=9999):1<=Zw n/\Zw n<=9999:=by unfold Zw;split<;>omega
theorem zwQ (bs bg g N:Nat) (s:Rs) (t:Pt) (l:List Int) (w:World) (h:zj w bs bg g N s t) (ok:s.Ok) (hl:zbb t l) (hs:zaX l):
 ze zd.prog 184 #[.pointer (some ⟨bs,0,none⟩),.int .u8 65] w (zY bs bg g N w (zL s l 65) t (.tuple #[])):=by
 have HP:=zH h;have Hok:=zH ok;have hn:=ZK (hs 0).1 (hs 0).2;have hf:=hl.nm 0 (by omega);have hpk:ZY (t.nm 0) 1=Zw (l.getD 0 0):=by rw[hf];rfl
 have x0:=ok.x0;have x1:=ok.x1;have y0:=ok.y0;have y1:=ok.y1;have w2:=ok.w2;have h2:=ok.h2;have HDn:Hid (zL s l 65=ZS s s.x (s.y-(Zw (l.getD 0 0)))):=by
  show _=_;simp[zL]
 have Hq:=zH hf;clear hf hl hs ok h;generalize Zw (l.getD 0 0)=n at *;obtain⟨n1,n9⟩:=hn;have wr1:IntKind.i64.wrap (s.y-n)=s.y-n:=zo _ (by omega) (by omega);have wr2:IntKind.i64.wrap (s.y+n)=s.y+n:=zo _ (by omega) (by omega);have wr3:IntKind.i64.wrap (s.x-n)=s.x-n:=zo _ (by omega) (by omega);have wr4:IntKind.i64.wrap (s.x+n)=s.x+n:=zo _ (by omega) (by omega);have c1:=HP.out.f1;have c2:=HP.out.f2;go_in;go_wp2_with (first|(go_at_call 204;refine sM (zaC bs bg g N s t 0 1 _ HP.out (by omega)) ?_;rw[hpk]));go_region_with (first|(go_at_call 120;refine(zfd bs bg g N s t s.x (s.y-n) _ HP.out.drew).mono ?_;rintro e w5 ⟨rfl,R5,K5⟩));all_goals
  go_end0;refine⟨rfl,?_,((zf.refl _ w).drew).trans K5 (λ_ _ h=>h)⟩;rw[HDn.out];exact R5
theorem zwR (bs bg g N:Nat) (s:Rs) (t:Pt) (l:List Int) (w:World) (h:zj w bs bg g N s t) (ok:s.Ok) (hl:zbb t l) (hs:zaX l):
 ze zd.prog 184 #[.pointer (some ⟨bs,0,none⟩),.int .u8 66] w (zY bs bg g N w (zL s l 66) t (.tuple #[])):=by
 have HP:=zH h;have Hok:=zH ok;have hn:=ZK (hs 0).1 (hs 0).2;have hf:=hl.nm 0 (by omega);have hpk:ZY (t.nm 0) 1=Zw (l.getD 0 0):=by rw[hf];rfl
 have x0:=ok.x0;have x1:=ok.x1;have y0:=ok.y0;have y1:=ok.y1;have w2:=ok.w2;have h2:=ok.h2;have HDn:Hid (zL s l 66=ZS s s.x (s.y+(Zw (l.getD 0 0)))):=by
  show _=_;simp[zL]
 have Hq:=zH hf;clear hf hl hs ok h;generalize Zw (l.getD 0 0)=n at *;obtain⟨n1,n9⟩:=hn;have wr1:IntKind.i64.wrap (s.y-n)=s.y-n:=zo _ (by omega) (by omega);have wr2:IntKind.i64.wrap (s.y+n)=s.y+n:=zo _ (by omega) (by omega);have wr3:IntKind.i64.wrap (s.x-n)=s.x-n:=zo _ (by omega) (by omega);have wr4:IntKind.i64.wrap (s.x+n)=s.x+n:=zo _ (by omega) (by omega);have c1:=HP.out.f1;have c2:=HP.out.f2;go_in;go_wp2_with (first|(go_at_call 204;refine sM (zaC bs bg g N s t 0 1 _ HP.out (by omega)) ?_;rw[hpk]));go_region_with (first|(go_at_call 120;refine(zfd bs bg g N s t s.x (s.y+n) _ HP.out.drew).mono ?_;rintro e w5 ⟨rfl,R5,K5⟩));all_goals
  go_end0;refine⟨rfl,?_,((zf.refl _ w).drew).trans K5 (λ_ _ h=>h)⟩;rw[HDn.out];exact R5
theorem zwS (bs bg g N:Nat) (s:Rs) (t:Pt) (l:List Int) (w:World) (h:zj w bs bg g N s t) (ok:s.Ok) (hl:zbb t l) (hs:zaX l):
 ze zd.prog 184 #[.pointer (some ⟨bs,0,none⟩),.int .u8 67] w (zY bs bg g N w (zL s l 67) t (.tuple #[])):=by
 have HP:=zH h;have Hok:=zH ok;have hn:=ZK (hs 0).1 (hs 0).2;have hf:=hl.nm 0 (by omega);have hpk:ZY (t.nm 0) 1=Zw (l.getD 0 0):=by rw[hf];rfl
 have x0:=ok.x0;have x1:=ok.x1;have y0:=ok.y0;have y1:=ok.y1;have w2:=ok.w2;have h2:=ok.h2;have HDn:Hid (zL s l 67=ZS s (s.x+(Zw (l.getD 0 0))) s.y):=by
  show _=_;simp[zL]
 have Hq:=zH hf;clear hf hl hs ok h;generalize Zw (l.getD 0 0)=n at *;obtain⟨n1,n9⟩:=hn;have wr1:IntKind.i64.wrap (s.y-n)=s.y-n:=zo _ (by omega) (by omega);have wr2:IntKind.i64.wrap (s.y+n)=s.y+n:=zo _ (by omega) (by omega);have wr3:IntKind.i64.wrap (s.x-n)=s.x-n:=zo _ (by omega) (by omega);have wr4:IntKind.i64.wrap (s.x+n)=s.x+n:=zo _ (by omega) (by omega);have c1:=HP.out.f1;have c2:=HP.out.f2;go_in;go_wp2_with (first|(go_at_call 204;refine sM (zaC bs bg g N s t 0 1 _ HP.out (by omega)) ?_;rw[hpk]));go_region_with (first|(go_at_call 120;refine(zfd bs bg g N s t (s.x+n) s.y _ HP.out.drew).mono ?_;rintro e w5 ⟨rfl,R5,K5⟩));all_goals
  go_end0;refine⟨rfl,?_,((zf.refl _ w).drew).trans K5 (λ_ _ h=>h)⟩;rw[HDn.out];exact R5
theorem zwT (bs bg g N:Nat) (s:Rs) (t:Pt) (l:List Int) (w:World) (h:zj w bs bg g N s t) (ok:s.Ok) (hl:zbb t l) (hs:zaX l):
 ze zd.prog 184 #[.pointer (some ⟨bs,0,none⟩),.int .u8 68] w (zY bs bg g N w (zL s l 68) t (.tuple #[])):=by
 have HP:=zH h;have Hok:=zH ok;have hn:=ZK (hs 0).1 (hs 0).2;have hf:=hl.nm 0 (by omega);have hpk:ZY (t.nm 0) 1=Zw (l.getD 0 0):=by rw[hf];rfl
 have x0:=ok.x0;have x1:=ok.x1;have y0:=ok.y0;have y1:=ok.y1;have w2:=ok.w2;have h2:=ok.h2;have HDn:Hid (zL s l 68=ZS s (s.x-(Zw (l.getD 0 0))) s.y):=by
  show _=_;simp[zL]
 have Hq:=zH hf;clear hf hl hs ok h;generalize Zw (l.getD 0 0)=n at *;obtain⟨n1,n9⟩:=hn;have wr1:IntKind.i64.wrap (s.y-n)=s.y-n:=zo _ (by omega) (by omega);have wr2:IntKind.i64.wrap (s.y+n)=s.y+n:=zo _ (by omega) (by omega);have wr3:IntKind.i64.wrap (s.x-n)=s.x-n:=zo _ (by omega) (by omega);have wr4:IntKind.i64.wrap (s.x+n)=s.x+n:=zo _ (by omega) (by omega);have c1:=HP.out.f1;have c2:=HP.out.f2;go_in;go_wp2_with (first|(go_at_call 204;refine sM (zaC bs bg g N s t 0 1 _ HP.out (by omega)) ?_;rw[hpk]));go_region_with (first|(go_at_call 120;refine(zfd bs bg g N s t (s.x-n) s.y _ HP.out.drew).mono ?_;rintro e w5 ⟨rfl,R5,K5⟩));all_goals
  go_end0;refine⟨rfl,?_,((zf.refl _ w).drew).trans K5 (λ_ _ h=>h)⟩;rw[HDn.out];exact R5
theorem zqY {W H:Nat} {G:Nat->Nat->zn} (hw:Wf W H G) (x0 x1:Int) (y:Nat) (p:Pn):ZZ W H (zaJ W x0 x1 y p G) (wrt G (rg x0 x1 y) (λ_ _=>blk p)):=by
 unfold zaJ;refine zbo hw (λa b ha hb=>?_) (λ_ _ _ _ _=>rfl);rw[Bool.eq_iff_iff,zjv];simp[ha,and_assoc]
theorem zwU (bs bg g N:Nat) (s:Rs) (t:Pt) (l:List Int) (w:World) (h:zj w bs bg g N s t) (ok:s.Ok) (hl:zbb t l) (hs:zaX l):
 ze zd.prog 184 #[.pointer (some ⟨bs,0,none⟩),.int .u8 72] w (zY bs bg g N w (zL s l 72) t (.tuple #[])):=by
 have HP:=zH h;have Hok:=zH ok;have hn:=ZK (hs 0).1 (hs 0).2;have hk:=ZK (hs 1).1 (hs 1).2;have f0:=(hs 0).1;have f9:=(hs 0).2;have k0:=(hs 1).1;have k9:=(hs 1).2;have hpk:ZY (t.nm 0) 1=Zw (l.getD 0 0):=by rw[hl.nm 0 (by omega)];rfl
 have hpk1:ZY (t.nm 1) 1=Zw (l.getD 1 0):=by rw[hl.nm 1 (by omega)];rfl
 have hpk2:ZY (t.nm 1) 9999=ZY (l.getD 1 0) 9999:=by rw[hl.nm 1 (by omega)]
 have c17:=h.f17;rw[hl.nm 0 (by omega)] at c17;have x0:=ok.x0;have x1:=ok.x1;have y0:=ok.y0;have y1:=ok.y1;have w2:=ok.w2;have h2:=ok.h2;have HDn:Hid (zL s l 72=ZS s (Zw (l.getD 1 0)-1) ((Zw (l.getD 0 0))-1)):=by
  show _=_;simp[zL]
 clear hl hs ok h;generalize l.getD 1 0=kk at *;generalize l.getD 0 0=ff at *;generalize Zw kk=k at *;generalize Zw ff=n at *;obtain⟨n1,n9⟩:=hn;obtain⟨k1,k99⟩:=hk;go_in;go_wp2_with fail;go_at_call 204;refine sM (zaC bs bg g N s t 0 1 _ HP.out (by omega)) ?_;rw[hpk];go_wp2_with fail;go_at_call 204;refine sM (zaC bs bg g N s t 1 1 _ HP.out (by omega)) ?_;rw[hpk1];go_wp2_with fail;go_at_call 120;refine(zfd bs bg g N s t (k-1) (n-1) _ HP.out).mono ?_;rintro e w5 ⟨rfl,P5,K5⟩;go_wp2_with fail;go_end0;refine⟨rfl,?_,K5⟩;rw[HDn.out];exact P5
theorem zwV (bs bg g N:Nat) (s:Rs) (t:Pt) (l:List Int) (w:World) (h:zj w bs bg g N s t) (ok:s.Ok) (hl:zbb t l) (hs:zaX l):
 ze zd.prog 184 #[.pointer (some ⟨bs,0,none⟩),.int .u8 75] w (zY bs bg g N w (zL s l 75) t (.tuple #[])):=by
 have HP:=zH h;have Hok:=zH ok;have hn:=ZK (hs 0).1 (hs 0).2;have hk:=ZK (hs 1).1 (hs 1).2;have f0:=(hs 0).1;have f9:=(hs 0).2;have k0:=(hs 1).1;have k9:=(hs 1).2;have hpk:ZY (t.nm 0) 1=Zw (l.getD 0 0):=by rw[hl.nm 0 (by omega)];rfl
 have hpk1:ZY (t.nm 1) 1=Zw (l.getD 1 0):=by rw[hl.nm 1 (by omega)];rfl
 have hpk2:ZY (t.nm 1) 9999=ZY (l.getD 1 0) 9999:=by rw[hl.nm 1 (by omega)]
 have c17:=h.f17;rw[hl.nm 0 (by omega)] at c17;have x0:=ok.x0;have x1:=ok.x1;have y0:=ok.y0;have y1:=ok.y1;have w2:=ok.w2;have h2:=ok.h2;have HDn:Hid (zL s l 75=zbU s (l.getD 0 0) false):=by
  show _=_;simp[zL]
 clear hl hs ok h;generalize l.getD 1 0=kk at *;generalize l.getD 0 0=ff at *;generalize Zw kk=k at *;generalize Zw ff=n at *;obtain⟨n1,n9⟩:=hn;obtain⟨k1,k99⟩:=hk;go_in;go_wp2_with fail;go_at_call 204;refine sM (zaC bs bg g N s t 0 1 _ HP.out (by omega)) ?_;rw[hpk];go_wp2_with fail;go_at_call 205;refine(zh8 bs bg g N s t ff _ HP.out Hok.out).mono ?_;rintro e w5 ⟨rfl,P5,K5⟩;go_wp2_with fail;go_end0;refine⟨rfl,?_,K5⟩;rw[HDn.out];exact P5
theorem zwW (bs bg g N:Nat) (s:Rs) (t:Pt) (l:List Int) (w:World) (h:zj w bs bg g N s t) (ok:s.Ok) (hl:zbb t l) (hs:zaX l):
 ze zd.prog 184 #[.pointer (some ⟨bs,0,none⟩),.int .u8 74] w (zY bs bg g N w (zL s l 74) t (.tuple #[])):=by
 have HP:=zH h;have Hok:=zH ok;have hn:=ZK (hs 0).1 (hs 0).2;have hk:=ZK (hs 1).1 (hs 1).2;have f0:=(hs 0).1;have f9:=(hs 0).2;have k0:=(hs 1).1;have k9:=(hs 1).2;have hpk:ZY (t.nm 0) 1=Zw (l.getD 0 0):=by rw[hl.nm 0 (by omega)];rfl
 have hpk1:ZY (t.nm 1) 1=Zw (l.getD 1 0):=by rw[hl.nm 1 (by omega)];rfl
 have hpk2:ZY (t.nm 1) 9999=ZY (l.getD 1 0) 9999:=by rw[hl.nm 1 (by omega)]
 have c17:=h.f17;rw[hl.nm 0 (by omega)] at c17;have x0:=ok.x0;have x1:=ok.x1;have y0:=ok.y0;have y1:=ok.y1;have w2:=ok.w2;have h2:=ok.h2;have HDn:Hid (zL s l 74=zbU s (l.getD 0 0) true):=by
  show _=_;simp[zL]
 clear hl hs ok h;generalize l.getD 1 0=kk at *;generalize l.getD 0 0=ff at *;generalize Zw kk=k at *;generalize Zw ff=n at *;obtain⟨n1,n9⟩:=hn;obtain⟨k1,k99⟩:=hk;go_in;go_wp2_with fail;go_at_call 204;refine sM (zaC bs bg g N s t 0 1 _ HP.out (by omega)) ?_;rw[hpk];go_wp2_with fail;go_at_call 206;refine(zlr bs bg g N s t ff _ HP.out Hok.out).mono ?_;rintro e w5 ⟨rfl,P5,K5⟩;go_wp2_with fail;go_end0;refine⟨rfl,?_,K5⟩;rw[HDn.out];exact P5
theorem zwX (bs bg g N:Nat) (s:Rs) (t:Pt) (l:List Int) (w:World) (h:zj w bs bg g N s t) (ok:s.Ok) (hl:zbb t l) (hs:zaX l):
 ze zd.prog 184 #[.pointer (some ⟨bs,0,none⟩),.int .u8 83] w (zY bs bg g N w (zL s l 83) t (.tuple #[])):=by
 have HP:=zH h;have Hok:=zH ok;have hn:=ZK (hs 0).1 (hs 0).2;have hk:=ZK (hs 1).1 (hs 1).2;have f0:=(hs 0).1;have f9:=(hs 0).2;have k0:=(hs 1).1;have k9:=(hs 1).2;have hpk:ZY (t.nm 0) 1=Zw (l.getD 0 0):=by rw[hl.nm 0 (by omega)];rfl
 have hpk1:ZY (t.nm 1) 1=Zw (l.getD 1 0):=by rw[hl.nm 1 (by omega)];rfl
 have hpk2:ZY (t.nm 1) 9999=ZY (l.getD 1 0) 9999:=by rw[hl.nm 1 (by omega)]
 have c17:=h.f17;rw[hl.nm 0 (by omega)] at c17;have x0:=ok.x0;have x1:=ok.x1;have y0:=ok.y0;have y1:=ok.y1;have w2:=ok.w2;have h2:=ok.h2;have HDn:Hid (zL s l 83={s with G:=zt s.top s.bot (Zw (l.getD 0 0)) (zV s) s.G}):=by
  show _=_;simp[zL]
 clear hl hs ok h;generalize l.getD 1 0=kk at *;generalize l.getD 0 0=ff at *;generalize Zw kk=k at *;generalize Zw ff=n at *;obtain⟨n1,n9⟩:=hn;obtain⟨k1,k99⟩:=hk;go_in;go_wp2_with fail;go_at_call 204;refine sM (zaC bs bg g N s t 0 1 _ HP.out (by omega)) ?_;rw[hpk];go_wp2_with fail;go_at_call 208;refine(zjN bs bg g N s t n _ HP.out Hok.out.t0 Hok.out.tb Hok.out.b1).mono ?_;rintro e w5 ⟨rfl,P5,K5⟩;go_wp2_with fail;go_end0;refine⟨rfl,?_,K5⟩;rw[HDn.out];exact P5
theorem zwY (bs bg g N:Nat) (s:Rs) (t:Pt) (l:List Int) (w:World) (h:zj w bs bg g N s t) (ok:s.Ok) (hl:zbb t l) (hs:zaX l):
 ze zd.prog 184 #[.pointer (some ⟨bs,0,none⟩),.int .u8 84] w (zY bs bg g N w (zL s l 84) t (.tuple #[])):=by
 have HP:=zH h;have Hok:=zH ok;have hn:=ZK (hs 0).1 (hs 0).2;have hk:=ZK (hs 1).1 (hs 1).2;have f0:=(hs 0).1;have f9:=(hs 0).2;have k0:=(hs 1).1;have k9:=(hs 1).2;have hpk:ZY (t.nm 0) 1=Zw (l.getD 0 0):=by rw[hl.nm 0 (by omega)];rfl
 have hpk1:ZY (t.nm 1) 1=Zw (l.getD 1 0):=by rw[hl.nm 1 (by omega)];rfl
 have hpk2:ZY (t.nm 1) 9999=ZY (l.getD 1 0) 9999:=by rw[hl.nm 1 (by omega)]
 have c17:=h.f17;rw[hl.nm 0 (by omega)] at c17;have x0:=ok.x0;have x1:=ok.x1;have y0:=ok.y0;have y1:=ok.y1;have w2:=ok.w2;have h2:=ok.h2;have HDn:Hid (zL s l 84={s with G:=zt s.top s.bot (-(Zw (l.getD 0 0))) (zV s) s.G}):=by
  show _=_;simp[zL]
 clear hl hs ok h;generalize l.getD 1 0=kk at *;generalize l.getD 0 0=ff at *;generalize Zw kk=k at *;generalize Zw ff=n at *;obtain⟨n1,n9⟩:=hn;obtain⟨k1,k99⟩:=hk;go_in;go_wp2_with fail;go_at_call 204;refine sM (zaC bs bg g N s t 0 1 _ HP.out (by omega)) ?_;rw[hpk];go_wp2_with fail;go_at_call 208;refine(zjN bs bg g N s t (-n) _ HP.out Hok.out.t0 Hok.out.tb Hok.out.b1).mono ?_;rintro e w5 ⟨rfl,P5,K5⟩;go_wp2_with fail;go_end0;refine⟨rfl,?_,K5⟩;rw[HDn.out];exact P5
theorem zwZ (bs bg g N:Nat) (s:Rs) (t:Pt) (l:List Int) (w:World) (h:zj w bs bg g N s t) (ok:s.Ok) (hl:zbb t l) (hs:zaX l):
 ze zd.prog 184 #[.pointer (some ⟨bs,0,none⟩),.int .u8 114] w (zY bs bg g N w (zL s l 114) t (.tuple #[])):=by
 have HP:=zH h;have Hok:=zH ok;have hn:=ZK (hs 0).1 (hs 0).2;have hk:=ZK (hs 1).1 (hs 1).2;have f0:=(hs 0).1;have f9:=(hs 0).2;have k0:=(hs 1).1;have k9:=(hs 1).2;have hpk:ZY (t.nm 0) 1=Zw (l.getD 0 0):=by rw[hl.nm 0 (by omega)];rfl
 have hpk1:ZY (t.nm 1) 1=Zw (l.getD 1 0):=by rw[hl.nm 1 (by omega)];rfl
 have hpk2:ZY (t.nm 1) 9999=ZY (l.getD 1 0) 9999:=by rw[hl.nm 1 (by omega)]
 have c17:=h.f17;rw[hl.nm 0 (by omega)] at c17;have x0:=ok.x0;have x1:=ok.x1;have y0:=ok.y0;have y1:=ok.y1;have w2:=ok.w2;have h2:=ok.h2;have HDn:Hid (zL s l 114=zaQ s (Zw (l.getD 0 0)) (l.getD 1 0)):=by
  show _=_;simp[zL]
 clear hl hs ok h;generalize l.getD 1 0=kk at *;generalize l.getD 0 0=ff at *;generalize Zw kk=k at *;generalize Zw ff=n at *;obtain⟨n1,n9⟩:=hn;obtain⟨k1,k99⟩:=hk;go_in;go_wp2_with fail;go_at_call 204;refine sM (zaC bs bg g N s t 0 1 _ HP.out (by omega)) ?_;rw[hpk];go_wp2_with fail;go_at_call 204;refine sM (zaC bs bg g N s t 1 9999 _ HP.out (by omega)) ?_;rw[hpk2];go_wp2_with fail;go_at_call 209;refine(zqX bs bg g N s t n kk _ HP.out Hok.out k0 n1 n9).mono ?_;rintro e w5 ⟨rfl,P5,K5⟩;go_wp2_with fail;go_end0;refine⟨rfl,?_,K5⟩;rw[HDn.out];exact P5
theorem zw0 (bs bg g N:Nat) (s:Rs) (t:Pt) (l:List Int) (w:World) (h:zj w bs bg g N s t) (ok:s.Ok) (hl:zbb t l) (hs:zaX l):
 ze zd.prog 184 #[.pointer (some ⟨bs,0,none⟩),.int .u8 88] w (zY bs bg g N w (zL s l 88) t (.tuple #[])):=by
 have HP:=zH h;have Hok:=zH ok;have hn:=ZK (hs 0).1 (hs 0).2;have hk:=ZK (hs 1).1 (hs 1).2;have f0:=(hs 0).1;have f9:=(hs 0).2;have k0:=(hs 1).1;have k9:=(hs 1).2;have hpk:ZY (t.nm 0) 1=Zw (l.getD 0 0):=by rw[hl.nm 0 (by omega)];rfl
 have hpk1:ZY (t.nm 1) 1=Zw (l.getD 1 0):=by rw[hl.nm 1 (by omega)];rfl
 have hpk2:ZY (t.nm 1) 9999=ZY (l.getD 1 0) 9999:=by rw[hl.nm 1 (by omega)]
 have c17:=h.f17;rw[hl.nm 0 (by omega)] at c17;have x0:=ok.x0;have x1:=ok.x1;have y0:=ok.y0;have y1:=ok.y1;have w2:=ok.w2;have h2:=ok.h2;have HDn:Hid (zL s l 88={s with G:=wrt s.G (rg s.x (s.x+(Zw (l.getD 0 0))) s.y.toNat) (λ_ _=>blk (zV s))}):=by
  show _=_;simp[zL]
 clear hl hs ok h;generalize l.getD 1 0=kk at *;generalize l.getD 0 0=ff at *;generalize Zw kk=k at *;generalize Zw ff=n at *;obtain⟨n1,n9⟩:=hn;obtain⟨k1,k99⟩:=hk;go_in;go_wp2_with fail;go_at_call 204;refine sM (zaC bs bg g N s t 0 1 _ HP.out (by omega)) ?_;rw[hpk];obtain⟨Y,hY⟩:∃Y:Nat,s.y=Y:=⟨s.y.toNat,by omega⟩;have hYH:Y<s.H:=by omega
 have c1:=HP.out.f1;have c2:=HP.out.f2;rw[hY] at c2;have HY:=zH hY;clear hY;have wr4:IntKind.i64.wrap (s.x+n)=s.x+n:=zo _ (by omega) (by omega);go_wp2_with fail;have HD:=zH HP.out.drew;go_region_held3 (λw'=>w'.cell? ⟨bs,1,none⟩=some (.int .i64 s.x)/\w'.cell? ⟨bs,2,none⟩=some (.int .i64 (Y:Int))) (simp[*]) (first|(go_at_call 207;refine(zfv bs bg g N s t s.x (s.x+n) Y _ HD.out Hok.out.wf hYH).mono ?_;rintro e w3 ⟨rfl,P3,K3⟩;have e1:=P3.f1;have e2:=P3.f2;simp only[HY.out] at e2));go_wp2_with fail;go_end0;refine⟨rfl,?_,((zf.refl _ w).drew).trans K3 (λ_ _ h=>h)⟩;rw[HDn.out];refine P3.congr _ rfl rfl rfl ?_;rw[HY.out];exact zqY Hok.out.wf _ _ _ _
end
end Go.Proofs.YtjlfibhbfdckpaaGreatDoor

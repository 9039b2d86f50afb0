import Derived.Test.YtjlfibhbfdckpaaGreatDoorV11
import Derived.Test.YtjlfibhbfdckpaaGreatDoorV15
namespace Go.Proofs.YtjlfibhbfdckpaaGreatDoor
set_option maxHeartbeats 64000000
set_option maxRecDepth 100000
section
open Go.RowKit
structure Pt where
 mode:Int
 by4:Nat->Int
 bn:Int
 nm:Nat->Int
 cn:Int
 bad:Bool
abbrev zdh (bg:Nat) (s:Rs) (t:Pt):Array Value:=#[.pointer (some ⟨bg,0,none⟩),.int .i64 s.x,.int .i64 s.y,.bool s.pend,.int .i64 s.pen.f,.int .i64 s.pen.b,.bool s.pen.bo,.bool s.pen.un,.bool s.pen.re,.int .i64 s.top,.int .i64 s.bot,.int .i64 t.mode,.int .u8 (t.by4 0),.int .u8 (t.by4 1),.int .u8 (t.by4 2),.int .u8 (t.by4 3),.int .i64 t.bn,.int .i64 (t.nm 0),.int .i64 (t.nm 1),.int .i64 (t.nm 2),.int .i64 (t.nm 3),.int .i64 (t.nm 4),.int .i64 (t.nm 5),.int .i64 (t.nm 6),.int .i64 (t.nm 7),.int .i64 t.cn,.bool t.bad]
structure zh (w:World) (bs bg g N:Nat) (s:Rs) (t:Pt):Prop where
 blk:w.heap[bs]?=some (.cells (zdh bg s t) 153)
 gr:Zi w bg g s.W s.H N s.G
 ne1:bs≠bg
 ne2:bs≠g
section
variable {w w':World} {bs bg g N:Nat} {s:Rs} {t:Pt}
theorem zh.lt (h:zh w bs bg g N s t):bs<w.heap.size:=(Array.getElem?_eq_some_iff.1 h.blk).1
theorem zh.same (h:zh w bs bg g N s t) (h1:w'.heap[bs]?=w.heap[bs]?) (h2:w'.heap[bg]?=w.heap[bg]?) (h3:w'.heap[g]?=w.heap[g]?):zh w' bs bg g N s t:=
 ⟨by rw[h1];exact h.blk,h.gr.same h2 h3,h.ne1,h.ne2⟩
theorem zh.below (h:zh w bs bg g N s t) (hb:Below w.heap.size w w'):zh w' bs bg g N s t:=
 h.same (hb.block _ h.lt) (hb.block _ h.gr.lt) (hb.block _ h.gr.glt)
theorem zh.free (h:zh w bs bg g N s t):∀o,w.frozen? ⟨bs,o,none⟩=false:=ze h.blk
theorem zh.drew (h:zh w bs bg g N s t):zh w.drew bs bg g N s t:=h.same rfl rfl rfl
theorem zh.drewN (h:zh w bs bg g N s t) (n:Nat):zh (w.drewN n) bs bg g N s t:=h.same rfl rfl rfl
theorem zh.store (h:zh w bs bg g N s t) (o:Nat) (v:Value) (s':Rs) (t':Pt) (hs:(zdh bg s t).setIfInBounds o v=zdh bg s' t') (hW:s'.W=s.W) (hH:s'.H=s.H) (hG:s'.G=s.G):zh (w.setCell ⟨bs,o,none⟩ v) bs bg g N s' t':=by
 refine⟨?_,?_,h.ne1,h.ne2⟩
 ·rw[zg h.blk,hs]
 ·rw[hW,hH,hG];exact h.gr.same (Below.heap_setCell _ _ _ _ (λe=>h.ne1 e.symm)) (Below.heap_setCell _ _ _ _ (λe=>h.ne2 e.symm))
theorem zh.cells {g' N':Nat} (h:zh w bs bg g N s t) (s':Rs) (hb:w'.heap[bs]?=w.heap[bs]?) (hc:Zi w' bg g' s'.W s'.H N' s'.G) (hs:zdh bg s' t=zdh bg s t) (hg:bs≠g'):zh w' bs bg g' N' s' t:=
 ⟨by rw[hb,hs];exact h.blk,hc,h.ne1,hg⟩
theorem zh.congr (h:zh w bs bg g N s t) (s':Rs) (hs:zdh bg s' t=zdh bg s t) (hW:s'.W=s.W) (hH:s'.H=s.H) (hG:ZX s.W s.H s.G s'.G):zh w bs bg g N s' t:=
 ⟨by rw[hs];exact h.blk,by rw[hW,hH];exact h.gr.congr hG,h.ne1,h.ne2⟩
theorem zh.f0 (h:zh w bs bg g N s t):w.cell? ⟨bs,0,none⟩=some (.pointer (some ⟨bg,0,none⟩)):=za h.blk 0
theorem zh.f1 (h:zh w bs bg g N s t):w.cell? ⟨bs,1,none⟩=some (.int .i64 s.x):=za h.blk 1
theorem zh.f2 (h:zh w bs bg g N s t):w.cell? ⟨bs,2,none⟩=some (.int .i64 s.y):=za h.blk 2
theorem zh.f3 (h:zh w bs bg g N s t):w.cell? ⟨bs,3,none⟩=some (.bool s.pend):=za h.blk 3
theorem zh.f4 (h:zh w bs bg g N s t):w.cell? ⟨bs,4,none⟩=some (.int .i64 s.pen.f):=za h.blk 4
theorem zh.f5 (h:zh w bs bg g N s t):w.cell? ⟨bs,5,none⟩=some (.int .i64 s.pen.b):=za h.blk 5
theorem zh.f6 (h:zh w bs bg g N s t):w.cell? ⟨bs,6,none⟩=some (.bool s.pen.bo):=za h.blk 6
theorem zh.f7 (h:zh w bs bg g N s t):w.cell? ⟨bs,7,none⟩=some (.bool s.pen.un):=za h.blk 7
theorem zh.f8 (h:zh w bs bg g N s t):w.cell? ⟨bs,8,none⟩=some (.bool s.pen.re):=za h.blk 8
theorem zh.f9 (h:zh w bs bg g N s t):w.cell? ⟨bs,9,none⟩=some (.int .i64 s.top):=za h.blk 9
theorem zh.f10 (h:zh w bs bg g N s t):w.cell? ⟨bs,10,none⟩=some (.int .i64 s.bot):=za h.blk 10
theorem zh.f11 (h:zh w bs bg g N s t):w.cell? ⟨bs,11,none⟩=some (.int .i64 t.mode):=za h.blk 11
theorem zh.f12 (h:zh w bs bg g N s t):w.cell? ⟨bs,12,none⟩=some (.int .u8 (t.by4 0)):=za h.blk 12
theorem zh.f13 (h:zh w bs bg g N s t):w.cell? ⟨bs,13,none⟩=some (.int .u8 (t.by4 1)):=za h.blk 13
theorem zh.f14 (h:zh w bs bg g N s t):w.cell? ⟨bs,14,none⟩=some (.int .u8 (t.by4 2)):=za h.blk 14
theorem zh.f15 (h:zh w bs bg g N s t):w.cell? ⟨bs,15,none⟩=some (.int .u8 (t.by4 3)):=za h.blk 15
theorem zh.f16 (h:zh w bs bg g N s t):w.cell? ⟨bs,16,none⟩=some (.int .i64 t.bn):=za h.blk 16
theorem zh.f17 (h:zh w bs bg g N s t):w.cell? ⟨bs,17,none⟩=some (.int .i64 (t.nm 0)):=za h.blk 17
theorem zh.f18 (h:zh w bs bg g N s t):w.cell? ⟨bs,18,none⟩=some (.int .i64 (t.nm 1)):=za h.blk 18
theorem zh.f19 (h:zh w bs bg g N s t):w.cell? ⟨bs,19,none⟩=some (.int .i64 (t.nm 2)):=za h.blk 19
theorem zh.f20 (h:zh w bs bg g N s t):w.cell? ⟨bs,20,none⟩=some (.int .i64 (t.nm 3)):=za h.blk 20
theorem zh.f21 (h:zh w bs bg g N s t):w.cell? ⟨bs,21,none⟩=some (.int .i64 (t.nm 4)):=za h.blk 21
theorem zh.f22 (h:zh w bs bg g N s t):w.cell? ⟨bs,22,none⟩=some (.int .i64 (t.nm 5)):=za h.blk 22
theorem zh.f23 (h:zh w bs bg g N s t):w.cell? ⟨bs,23,none⟩=some (.int .i64 (t.nm 6)):=za h.blk 23
theorem zh.f24 (h:zh w bs bg g N s t):w.cell? ⟨bs,24,none⟩=some (.int .i64 (t.nm 7)):=za h.blk 24
theorem zh.f25 (h:zh w bs bg g N s t):w.cell? ⟨bs,25,none⟩=some (.int .i64 t.cn):=za h.blk 25
theorem zh.f26 (h:zh w bs bg g N s t):w.cell? ⟨bs,26,none⟩=some (.bool t.bad):=za h.blk 26
theorem zh.setX (h:zh w bs bg g N s t) (v:Int):zh (w.setCell ⟨bs,1,none⟩ (.int .i64 v)) bs bg g N {s with x:=v} t:=h.store 1 _ _ _ rfl rfl rfl rfl
theorem zh.setY (h:zh w bs bg g N s t) (v:Int):zh (w.setCell ⟨bs,2,none⟩ (.int .i64 v)) bs bg g N {s with y:=v} t:=h.store 2 _ _ _ rfl rfl rfl rfl
theorem zh.setPend (h:zh w bs bg g N s t) (v:Bool):zh (w.setCell ⟨bs,3,none⟩ (.bool v)) bs bg g N {s with pend:=v} t:=h.store 3 _ _ _ rfl rfl rfl rfl
theorem zh.setTop (h:zh w bs bg g N s t) (v:Int):zh (w.setCell ⟨bs,9,none⟩ (.int .i64 v)) bs bg g N {s with top:=v} t:=h.store 9 _ _ _ rfl rfl rfl rfl
theorem zh.setBot (h:zh w bs bg g N s t) (v:Int):zh (w.setCell ⟨bs,10,none⟩ (.int .i64 v)) bs bg g N {s with bot:=v} t:=h.store 10 _ _ _ rfl rfl rfl rfl
theorem zh.setMode (h:zh w bs bg g N s t) (v:Int):zh (w.setCell ⟨bs,11,none⟩ (.int .i64 v)) bs bg g N s {t with mode:=v}:=h.store 11 _ _ _ rfl rfl rfl rfl
theorem zh.setBn (h:zh w bs bg g N s t) (v:Int):zh (w.setCell ⟨bs,16,none⟩ (.int .i64 v)) bs bg g N s {t with bn:=v}:=h.store 16 _ _ _ rfl rfl rfl rfl
theorem zh.setCn (h:zh w bs bg g N s t) (v:Int):zh (w.setCell ⟨bs,25,none⟩ (.int .i64 v)) bs bg g N s {t with cn:=v}:=h.store 25 _ _ _ rfl rfl rfl rfl
theorem zh.setBad (h:zh w bs bg g N s t) (v:Bool):zh (w.setCell ⟨bs,26,none⟩ (.bool v)) bs bg g N s {t with bad:=v}:=h.store 26 _ _ _ rfl rfl rfl rfl
theorem zh.byte (h:zh w bs bg g N s t) (i:Nat) (hi:i<4):w.cell? ⟨bs,12+i,none⟩=some (.int .u8 (t.by4 i)):=by
 match i,hi with
 |0,_=>exact h.f12
 |1,_=>exact h.f13
 |2,_=>exact h.f14
 |3,_=>exact h.f15
def zhs (f:Nat->Int) (i:Nat) (v:Int):Nat->Int:=λj=>if j=i then v else f j
theorem zh.setByte (h:zh w bs bg g N s t) (i:Nat) (hi:i<4) (v:Int):zh (w.setCell ⟨bs,12+i,none⟩ (.int .u8 v)) bs bg g N s {t with by4:=zhs t.by4 i v}:=by
 match i,hi with
 |0,_=>exact h.store 12 _ _ _ rfl rfl rfl rfl
 |1,_=>exact h.store 13 _ _ _ rfl rfl rfl rfl
 |2,_=>exact h.store 14 _ _ _ rfl rfl rfl rfl
 |3,_=>exact h.store 15 _ _ _ rfl rfl rfl rfl
theorem zh.num (h:zh w bs bg g N s t) (i:Nat) (hi:i<8):w.cell? ⟨bs,17+i,none⟩=some (.int .i64 (t.nm i)):=by
 match i,hi with
 |0,_=>exact h.f17
 |1,_=>exact h.f18
 |2,_=>exact h.f19
 |3,_=>exact h.f20
 |4,_=>exact h.f21
 |5,_=>exact h.f22
 |6,_=>exact h.f23
 |7,_=>exact h.f24
theorem zh.setNum (h:zh w bs bg g N s t) (i:Nat) (hi:i<8) (v:Int):zh (w.setCell ⟨bs,17+i,none⟩ (.int .i64 v)) bs bg g N s {t with nm:=zhs t.nm i v}:=by
 match i,hi with
 |0,_=>exact h.store 17 _ _ _ rfl rfl rfl rfl
 |1,_=>exact h.store 18 _ _ _ rfl rfl rfl rfl
 |2,_=>exact h.store 19 _ _ _ rfl rfl rfl rfl
 |3,_=>exact h.store 20 _ _ _ rfl rfl rfl rfl
 |4,_=>exact h.store 21 _ _ _ rfl rfl rfl rfl
 |5,_=>exact h.store 22 _ _ _ rfl rfl rfl rfl
 |6,_=>exact h.store 23 _ _ _ rfl rfl rfl rfl
 |7,_=>exact h.store 24 _ _ _ rfl rfl rfl rfl
end
def zvu (bs bg g:Nat) (w:World) (s:Rs) (t:Pt) (r:Value) (e:Ending) (w':World):Prop:=
 ∃g' N',e=.returned r/\zh w' bs bg g' N' s t/\zd (λi=>i=bs\/i=bg\/i=g) w w'/\(g'=g\/w.heap.size<=g')
theorem ze8 (v:Int) {m:Nat} (h:1<=m):zcU v 0 ((m:Int)-1)=zap v m:=by
 unfold zcU zK ZU zap;split<;>split<;>split<;>omega
def zV (bs bg g N:Nat) (w:World) (s:Rs) (t:Pt) (r:Value) (e:Ending) (w':World):Prop:=
 e=.returned r/\zh w' bs bg g N s t/\zd (λi=>i=bs\/i=bg\/i=g) w w'
end
section
open Go.RowKit
attribute [local go_sem ↓] Go.wp_at_zero Go.wp_at_succ
theorem znk (bs bg g N:Nat) (s:Rs) (t:Pt) (w:World) (h:zh w bs bg g N s t):
 Calls Tryz.prog 228 #[.pointer (some ⟨bs,0,none⟩)] w λe w'=>e=.returned (zS s).agg/\Below w.heap.size w w':=by
 have c:=h.f5;have l:=h.lt;clear h;go_in;go_wp2;exact bodyPost_ret (v:=(zS s).agg) (by simp[results,Tryz.results228,go_sem,zS]) rfl ⟨rfl,(Below.refl _ _).alloc (Nat.le_refl _) _⟩
theorem zfb (bs bg g N:Nat) (s:Rs) (t:Pt) (x y:Int) (w:World) (h:zh w bs bg g N s t):
 Calls Tryz.prog 120 #[.pointer (some ⟨bs,0,none⟩),.int .i64 x,.int .i64 y] w (zV bs bg g N w (ZQ s x y) t (.tuple #[])):=by
 have HP:=zH h;have c0:=h.f0;have c1:=h.f1;have c2:=h.f2;have c3:=h.f3;have fz:=h.free;have w1:=h.gr.w1;have w2:=h.gr.w2;have h1:=h.gr.h1;have h2:=h.gr.h2;have hbw:=ze8 x w1;have hbh:=ze8 y h1;clear h;go_in;go_wp2_with (first|(go_at_call 126;refine sM (zcC bg g s.W s.H N s.G _ HP.out.gr) ?_)|(go_at_call 156;refine sM (zho _ _ _ _) ?_));have HP1:Hid (zh (w.setCell ⟨bs,1,none⟩ (.int .i64 (zap x s.W))) bs bg g N {s with x:=zap x s.W} t):=HP.out.setX _;go_wp2_with (first|(go_at_call 127;refine sM (zbF bg g s.W s.H N s.G _ HP1.out.gr) ?_)|(go_at_call 156;refine sM (zho _ _ _ _) ?_));go_end0;exact⟨rfl,(HP1.out.setY _).setPend false,(((zd.refl _ w).setCell ⟨bs,1,none⟩ _ (λ_=>Or.inl rfl)).setCell ⟨bs,2,none⟩ _ (λ_=>Or.inl rfl)).setCell ⟨bs,3,none⟩ _ (λ_=>Or.inl rfl)⟩
theorem zjL (bs bg g N:Nat) (s:Rs) (t:Pt) (n:Int) (w:World) (h:zh w bs bg g N s t) (h0:0<=s.top) (ht:s.top<=s.bot) (hb:s.bot<s.H):
 Calls Tryz.prog 208 #[.pointer (some ⟨bs,0,none⟩),.int .i64 n] w (zV bs bg g N w {s with G:=zo s.top s.bot n (zS s) s.G} t (.tuple #[])):=by
 have HP:=zH h;have c0:=h.f0;have c9:=h.f9;have c10:=h.f10;clear h;go_in;go_wp2_with fail;have HD:=zH HP.out.drew;have lt:=HP.out.lt;have ng:¬bs=g:=HP.out.ne2;go_region_held3 (λw'=>w'.cell? ⟨bs,0,none⟩=some (.pointer (some ⟨bg,0,none⟩))/\w'.cell? ⟨bs,9,none⟩=some (.int .i64 s.top)/\w'.cell? ⟨bs,10,none⟩=some (.int .i64 s.bot)) (simp[*]) (first|(go_at_call 228;refine(znk bs bg g N s t _ HD.out).mono ?_;rintro e w2 ⟨rfl,hb2⟩;have HP2:=zH<|HD.out.below hb2;have K2:zd (λi=>i=bs\/i=bg\/i=g) w w2:=((zd.refl _ w).drew).thenBelow hb2;have e1:=hb2.cells lt;clear hb2)|(go_at_call 141;refine(zku bg g s.W s.H N s.G s.top s.bot n (zS s) _ HP2.out.gr h0 ht hb).mono ?_;rintro e w3 ⟨rfl,G3,K3⟩;have e2:=keepC K3 HP2.out.lt ng));go_wp2_with fail;go_end0;exact⟨rfl,HP2.out.cells _ (K3.block _ HP2.out.lt ng) G3 rfl ng,K2.trans K3 (λ_ _ h=>Or.inr (Or.inr h))⟩
theorem zlj {v:Int} {m:Nat} (h0:0<=v) (h1:v<m):zap v m=v:=by
 unfold zap
 (repeat' split)<;>omega
theorem zlk {v:Int} {m:Nat} (h0:0<=v) (h1:v<m):ZU (v+1) ((m:Int)-1)=zap (v+1) m:=by
 unfold ZU zap
 (repeat' split)<;>omega
theorem zft (bs bg g N:Nat) (s:Rs) (t:Pt) (x0 x1:Int) (y:Nat) (w:World) (h:zh w bs bg g N s t) (hw:Wf s.W s.H s.G) (hy:y<s.H):
 Calls Tryz.prog 207 #[.pointer (some ⟨bs,0,none⟩),.int .i64 x0,.int .i64 x1,.int .i64 y] w (zV bs bg g N w {s with G:=zaH s.W x0 x1 y (zS s) s.G} t (.tuple #[])):=by
 have HP:=zH h;have c0:=h.f0;clear h;go_in;go_wp2_with fail;have HD:=zH HP.out.drew;have lt:=HP.out.lt;have ng:¬bs=g:=HP.out.ne2;go_region_held3 (λw'=>w'.cell? ⟨bs,0,none⟩=some (.pointer (some ⟨bg,0,none⟩))) (simp[*]) (first|(go_at_call 228;refine(znk bs bg g N s t _ HD.out).mono ?_;rintro e w2 ⟨rfl,hb2⟩;have HP2:=zH<|HD.out.below hb2;have K2:zd (λi=>i=bs\/i=bg\/i=g) w w2:=((zd.refl _ w).drew).thenBelow hb2;have e1:=hb2.cells lt;clear hb2)|(go_at_call 140;refine(zlV bg g s.W s.H N s.G x0 x1 y (zS s) _ HP2.out.gr hw hy).mono ?_;rintro e w3 ⟨rfl,G3,K3⟩;have e2:=keepC K3 HP2.out.lt ng));go_wp2_with fail;go_end0;exact⟨rfl,HP2.out.cells _ (K3.block _ HP2.out.lt ng) G3 rfl ng,K2.trans K3 (λ_ _ h=>Or.inr (Or.inr h))⟩
theorem zi9 (bs bg g N:Nat) (s:Rs) (t:Pt) (w:World) (h:zh w bs bg g N s t) (ok:Rs.Ok {s with pend:=false}):
 Calls Tryz.prog 186 #[.pointer (some ⟨bs,0,none⟩)] w (zV bs bg g N w (zt s) t (.tuple #[])):=by
 have HP:=zH h;have c0:=h.f0;have c2:=h.f2;have c3:=h.f3;have c10:=h.f10;have fz:=h.free;have x0:0<=s.x:=ok.x0;have x1:s.x<s.W:=ok.x1;have y0:0<=s.y:=ok.y0;have y1:s.y<s.H:=ok.y1;have h2:s.H<=20:=ok.h2;have t0:0<=s.top:=ok.t0;have tb:s.top<=s.bot:=ok.tb;have b1:s.bot<s.H:=ok.b1;have HP1:=zH<|h.setPend false
 have K1:zd (λi=>i=bs\/i=bg\/i=g) w (w.setCell ⟨bs,3,none⟩ (.bool false)):=(zd.refl _ w).setCell ⟨bs,3,none⟩ _ (λ_=>Or.inl rfl);clear h ok;by_cases hy:s.y=s.bot
 ·have hq:(s.y==s.bot)=true:=by simp[hy]
  have HL:Hid (zt s={s with G:=zo s.top s.bot 1 (zS s) s.G,pend:=false}):=by unfold zt;exact if_pos hy
  clear hy;go_in;go_wp2_with fail;clear HP c0 c2 c3 c10 fz;generalize w.setCell ⟨bs,3,none⟩ (.bool false)=wa at *;have c0:=HP1.out.f0;have c2:=HP1.out.f2;have c10:=HP1.out.f10;have fz:=HP1.out.free;go_quiet (fail);have HP2:=zH<|HP1.out.drewN nq
  have K2:=K1.drewN nq;generalize wa.drewN nq=wb at *;clear HP1 K1 c0 c2 c10 fz;have c0:=HP2.out.f0;have c2:=HP2.out.f2;have fz:=HP2.out.free;go_wp2_with fail;go_at_call 208;refine(zjL bs bg g N _ t 1 _ HP2.out t0 tb b1).mono ?_;rintro e w3 ⟨rfl,P3,K3⟩;go_wp2_with fail;refine bodyPost_ret (v:=.tuple #[]) (by simp[results,Tryz.results186,go_sem]) rfl ⟨rfl,?_,K2.trans K3 (λ_ _ h=>h)⟩;rw[HL.out];exact P3
 ·have hq:(s.y==s.bot)=false:=by simp[hy]
  have HL:Hid (zt s=ZQ s s.x (s.y+1)):=by unfold zt;exact if_neg hy
  clear hy;go_in;go_wp2_with fail;clear HP c0 c2 c3 c10 fz;generalize w.setCell ⟨bs,3,none⟩ (.bool false)=wa at *;have c0:=HP1.out.f0;have c2:=HP1.out.f2;have c10:=HP1.out.f10;have fz:=HP1.out.free;go_quiet (fail);have HP2:=zH<|HP1.out.drewN nq
  have K2:=K1.drewN nq;generalize wa.drewN nq=wb at *;clear HP1 K1 c0 c2 c10 fz;have c0:=HP2.out.f0;have c2:=HP2.out.f2;have fz:=HP2.out.free;have Hbx:=zH<|zlj x0 x1
  have hby:=zlk (m:=s.H) y0 y1;have hgd:Zi wb.drew bg g s.W s.H N s.G:=HP2.out.gr.same rfl rfl;have Hgd:=zH hgd;clear hgd;go_wp2_with fail;go_region_with (first|(go_at_call 127;refine sM (zbF bg g s.W s.H N s.G _ Hgd.out) ?_)|(go_at_call 138;refine sM (zce _ _ _) ?_));all_goals
   go_end0;rw[zm (s.y+1) (by omega) (by omega),zm ((s.H:Int)-1) (by omega) (by omega),hby];refine⟨rfl,?_,(K2.setCell ⟨bs,2,none⟩ _ (λ_=>Or.inl rfl)).drew⟩;rw[HL.out];have:=(HP2.out.setY (zap (s.y+1) s.H)).drew;unfold ZQ;rw[Hbx.out];exact this
end
section
open Go.RowKit
open Wd (wd)
attribute [local go_sem ↓] Go.wp_at_zero Go.wp_at_succ
theorem zoO {W H:Nat} {G:Nat->Nat->zk} (h:Wf W H G) {x y:Nat} {r:Int} (p:Pn) (hy:y<H) (hr:(wd r=1/\x<W)\/(wd r=2/\x+2<=W)):ZX W H (ziu r p x y G) (zR W H G x y r p):=by
 unfold ziu;rcases hr with⟨hr,hx⟩|⟨hr,hx⟩
 ·refine ZX.trans (zbm h (λa b _ _=>?_) (λa b _ _ _=>?_)) (zdT h hx hy r p hr).symm
  ·rw[hr,Bool.eq_iff_iff,Zv];simp[pt];omega
  ·unfold zdV;rw[hr,if_neg (by decide)]
 ·refine ZX.trans (zbm h (λa b _ _=>?_) (λa b _ _ _=>?_)) (zcS h (by omega) hy r p hr).symm
  ·rw[hr,Bool.eq_iff_iff,Zv];simp[pt2,pt];omega
  ·unfold zdV wide;rw[hr,if_pos rfl]
theorem zvZ (bg g W H N:Nat) (G:Nat->Nat->zk) (x y r:Int) (p:Pn) (w:World) (h:Zi w bg g W H N G) (hw:Wf W H G) (x0:0<=x) (y0:0<=y) (hy:y<H) (hr:(wd r=1/\x<W)\/(wd r=2/\x+2<=W)):
 Calls Tryz.prog 168 #[.pointer (some ⟨bg,0,none⟩),.int .i64 x,.int .i64 y,.int .i32 r,p.agg] w λe w'=>e=.returned (.tuple #[])/\Zi w' bg g W H N (zR W H G x y r p)/\zd (λi=>i=g) w w':=by
 obtain⟨x,rfl⟩:=Int.eq_ofNat_of_zero_le x0;obtain⟨y,rfl⟩:=Int.eq_ofNat_of_zero_le y0;have hr':(wd r=1/\x<W)\/(wd r=2/\x+2<=W):=by omega
 have e:=zoO hw p (show y<H by omega) hr';rcases hr' with⟨hr,hx⟩|⟨hr,hx⟩
 ·refine(ztu bg g W H N G x y r p w h hw (by omega) hr hx).mono ?_;rintro _ w' ⟨rfl,G1,K1⟩;exact⟨rfl,G1.congr e,K1⟩
 ·refine(ztt bg g W H N G x y r p w h hw (by omega) hr hx).mono ?_;rintro _ w' ⟨rfl,G1,K1⟩;exact⟨rfl,G1.congr e,K1⟩
theorem zsS {s:Rs} {k:Int} (hp:s.pend=false) (hx:s.x+k<=s.W):zcr s k={s with pend:=(s.x+k==(s.W:Int)),x:=ZU (s.x+k) ((s.W:Int)-1)}:=by
 unfold zcr ZU;by_cases h:(s.W:Int)<=s.x+k
 ·have e:s.x+k=s.W:=by omega
  rw[if_pos h,if_pos (by omega),e];simp
 ·have e:¬s.x+k=s.W:=by omega
  rw[if_neg h,if_neg (by omega)];have:(s.x+k==(s.W:Int))=false:=by simpa using e
  rw[this,←hp]
theorem zuC {s:Rs} {r k:Int} (hk:wd r=k) (hk1:k=1\/k=2) (hkW:k<=s.W):zba s r=zcr (za8 (zaa s k) r) k:=by
 unfold zba ze1 zeq;rw[if_neg (by omega),if_neg (by omega),if_neg (by omega),hk]
theorem zuD {s:Rs} {r:Int} (hk:wd r=2) (hW:s.W=1):zba s r=zcr (za8 (zaa s 1) 32) 1:=by
 unfold zba ze1 zeq;rw[if_neg (by omega),if_pos ⟨hk,hW⟩,if_pos ⟨hk,hW⟩]
theorem zv0 (bs bg g N:Nat) (s:Rs) (t:Pt) (r:Int) (w:World) (h:zh w bs bg g N s t) (hk:wd r=0):
 Calls Tryz.prog 187 #[.pointer (some ⟨bs,0,none⟩),.int .i32 r] w (zV bs bg g N w (zba s r) t (.tuple #[])):=by
 have HP:Hid (zh w bs bg g N s t):=h;have Hp:Hid (zba s r={s with odd:=wrap64 (s.odd+1)}):=by show _=_;unfold zba;rw[if_pos hk]
 clear h;go_in;go_wp2_with (first|(go_at_call 129;refine sM (Wd.lettersWidth _ _) ?_));refine bodyPost_ret (v:=.tuple #[]) (by simp[results,Tryz.results187,go_sem]) rfl ⟨rfl,?_,zd.refl _ _⟩;rw[Hp.out];exact HP.out.congr _ rfl rfl rfl (λ_ _ _ _=>rfl)
theorem zv1 (bs bg g N:Nat) (s:Rs) (t:Pt) (r:Int) (w:World) (h:zh w bs bg g N s t) (ok:s.Ok):
 Calls Tryz.prog 187 #[.pointer (some ⟨bs,0,none⟩),.int .i32 r] w (zV bs bg g N w (zba s r) t (.tuple #[])):=by
 by_cases h0:wd r=0
 ·exact zv0 bs bg g N s t r w h h0
 have x0:=ok.x0;have x1:=ok.x1;have w1:=ok.w1;have w2:=ok.w2;obtain⟨K,R,e1,hR,k12,way⟩:∃K R:Int,zba s r=zcr (za8 (zaa s K) R) K/\wd R=K/\(K=1\/K=2)/\(¬K=0/\¬(s.W:Int)<K/\wd r=K/\r=R\/K<=s.W/\wd r=2/\(s.W:Int)<2/\K=1/\R=32):=by
  have hwd:=Wd.wd_cases r;by_cases hB:wd r=2/\s.W=1
  ·exact⟨1,32,zuD hB.1 hB.2,ze6,.inl rfl,.inr ⟨by omega,hB.1,by omega,rfl,rfl⟩⟩
  ·exact⟨wd r,r,zuC rfl (by omega) (by omega),rfl,by omega,.inl ⟨h0,by omega,rfl,rfl⟩⟩
 obtain⟨s1,e2,ok1,eW,ep,ex,br⟩:∃s1,zaa s K=s1/\s1.Ok/\s1.W=s.W/\s1.pend=false/\s1.x+K<=s.W/\(s1=s/\s.pend=false/\¬(s.W:Int)<s.x+K\/s1=zt {s with x:=0}/\(s.pend=true\/s.pend=false/\(s.W:Int)<s.x+K)):=by
  have L:(zt {s with x:=0}).Ok/\(zt {s with x:=0}).W=s.W/\(zt {s with x:=0}).pend=false/\(zt {s with x:=0}).x+K<=s.W:=by
   refine⟨zpy ok,zvs _,znc _,?_⟩;have:(zt {s with x:=0}).x=0:=by
    rcases zvt {s with x:=0} with e|e
    ·exact e
    ·rw[e];exact zlj (Int.le_refl 0) (by show(0:Int)<s.W;omega)
   omega
  cases hp:s.pend
  ·by_cases hx:s.x+K<=s.W
   ·exact⟨s,if_neg (by simp[zb8,hp];omega),ok,rfl,hp,hx,.inl ⟨rfl,rfl,by omega⟩⟩
   ·exact⟨_,if_pos (by simp[zb8,hp];omega),L.1,L.2.1,L.2.2.1,L.2.2.2,.inr ⟨rfl,.inr ⟨rfl,by omega⟩⟩⟩
  ·exact⟨_,if_pos (by simp[zb8,hp]),L.1,L.2.1,L.2.2.1,L.2.2.2,.inr ⟨rfl,.inl rfl⟩⟩
 rw[e1,e2];have Hr:Hid ((wd R=1/\s1.x<s1.W)\/(wd R=2/\s1.x+2<=s1.W)):=by show _\/_;omega
 have Hst:Hid (zcr (za8 s1 R) K={za8 s1 R with pend:=(s1.x+K==(s.W:Int)),x:=ZU (s1.x+K) ((s.W:Int)-1)}):=by
  show _=_;rw[←eW];exact zsS (s:=za8 s1 R) ep (by show s1.x+K<=s1.W;omega)
 have HP:Hid (zh w bs bg g N s t):=h;have Hok:Hid s.Ok:=ok;have Hok1:Hid s1.Ok:=ok1;have c0:=h.f0;have c1:=h.f1;have c3:=h.f3;have fz:=h.free;clear h ok e1 e2 hR ok1 eW ep ex h0;rcases way with⟨k0,kW,hk,rfl⟩|⟨kW,hk,hW1,rfl,rfl⟩<;>rcases br with⟨e,hp,hx'⟩|⟨e,hp|⟨hp,hx'⟩⟩;all_goals first|omega|skip
 all_goals
  have He:=zH e;rw[hp] at c3;clear e;go_in;go_wp2_with (first|(go_at_call 129;refine sM (Wd.lettersWidth _ _) ?_)|(go_at_call 126;refine sM (zcC bg g s.W s.H N s.G _ HP.out.gr) ?_));first
   |(go_at_call 186
     refine(zi9 bs bg g N {s with x:=0} t _ (HP.out.setX 0) (zpx Hok.out)).mono ?_;rintro e wa ⟨rfl,P1,K0⟩;have K1:zd (λi=>i=bs\/i=bg\/i=g) w wa:=((zd.refl _ w).setCell ⟨bs,1,none⟩ _ (λ_=>Or.inl rfl)).trans K0 (λ_ _ h=>h);rw[←He.out] at P1;have HP1:=zH P1;clear c0 c1 c3 fz HP K0 P1;go_wp2_with fail)
   |(have K1:zd (λi=>i=bs\/i=bg\/i=g) w w:=zd.refl _ _
     have HP1:Hid (zh w bs bg g N s1 t):=by rw[He.out];exact HP
     clear c0 c1 c3 fz HP)
  clear x0 x1;have x0:=Hok1.out.x0;have x1:=Hok1.out.x1;have c0:=HP1.out.f0;have c1:=HP1.out.f1;have c2:=HP1.out.f2;have c4:=HP1.out.f4;have c5:=HP1.out.f5;have c6:=HP1.out.f6;have c7:=HP1.out.f7;have c8:=HP1.out.f8;have HD:=zH HP1.out.drew;have lt:=HP1.out.lt;have ng:¬bs=g:=HP1.out.ne2;go_region_held3 (λw'=>w'.cell? ⟨bs,0,none⟩=some (.pointer (some ⟨bg,0,none⟩))/\w'.cell? ⟨bs,1,none⟩=some (.int .i64 s1.x)/\w'.cell? ⟨bs,2,none⟩=some (.int .i64 s1.y)/\w'.cell? ⟨bs,4,none⟩=some (.int .i64 s1.pen.f)/\w'.cell? ⟨bs,5,none⟩=some (.int .i64 s1.pen.b)/\w'.cell? ⟨bs,6,none⟩=some (.bool s1.pen.bo)/\w'.cell? ⟨bs,7,none⟩=some (.bool s1.pen.un)/\w'.cell? ⟨bs,8,none⟩=some (.bool s1.pen.re)) (simp[*]) (first|(go_at_call 168;refine(zvZ bg g s1.W s1.H N s1.G s1.x s1.y _ s1.pen _ HD.out.gr Hok1.out.wf Hok1.out.x0 Hok1.out.y0 Hok1.out.y1 Hr.out).mono ?_;rintro e w3 ⟨rfl,G3,K3⟩;have e2:=keepC K3 lt ng));first|have HP3:=zH (HD.out.cells (za8 s1 r) (K3.block _ lt ng) G3 rfl ng)|have HP3:=zH (HD.out.cells (za8 s1 R) (K3.block _ lt ng) G3 rfl ng)|have HP3:=zH (HD.out.cells (za8 s1 32) (K3.block _ lt ng) G3 rfl ng)
  have K4:zd (λi=>i=bs\/i=bg\/i=g) w w3:=(K1.drew).trans K3 (λ_ _ h=>Or.inr (Or.inr h));clear HD HP1 e2 G3 K3 K1 lt c0 c1 c2 c4 c5 c6 c7 c8;have c1:w3.cell? ⟨bs,1,none⟩=some (.int .i64 s1.x):=HP3.out.f1;have c3:w3.cell? ⟨bs,3,none⟩=some (.bool s1.pend):=HP3.out.f3;have fz:=HP3.out.free;have x40:=Hok1.out.w2;go_wp2_with (first|(go_at_call 138;refine sM (zce _ _ _) ?_));go_end0;refine⟨rfl,?_,(K4.setCell ⟨bs,3,none⟩ _ (λ_=>Or.inl rfl)).setCell ⟨bs,1,none⟩ _ (λ_=>Or.inl rfl)⟩;rw[Hst.out];exact(HP3.out.setPend _).setX _
end
section
open Go.RowKit
attribute [local go_sem ↓] Go.wp_at_zero Go.wp_at_succ
def ZW (n v:Int):Int:=if n=0 then v else n
theorem zaA (bs bg g N:Nat) (s:Rs) (t:Pt) (i:Nat) (v:Int) (w:World) (h:zh w bs bg g N s t) (hi:i<8):
 Calls Tryz.prog 204 #[.pointer (some ⟨bs,17,none⟩),.int .i64 i,.int .i64 v] w λe w'=>e=.returned (.int .i64 (ZW (t.nm i) v))/\w'=w:=by
 have c:=h.num i hi;clear h;by_cases h0:t.nm i=0
 ·rw[show ZW (t.nm i) v=v from if_pos h0];rw[h0] at c;go_in;go_wp2;go_ret;exact⟨rfl,rfl⟩
 ·rw[show ZW (t.nm i) v=t.nm i from if_neg h0];go_in;go_wp2;go_ret;exact⟨rfl,rfl⟩
theorem zwN (bs bg g N:Nat) (s:Rs) (t:Pt) (w:World) (h:zh w bs bg g N s t) (c:Nat) (hc:t.cn=c) (hc8:c<=8):
 Calls Tryz.prog 210 #[.pointer (some ⟨bs,17,none⟩)] w λe w'=>e=.returned (.slice (some ⟨bs,17,none⟩) (if c=0 then 1 else c) 8)/\Below w.heap.size w w':=by
 have c25:=h.f25;rw[hc] at c25;obtain⟨m,hm⟩:∃m:Nat,(if c=0 then 1 else c)=m:=⟨_,rfl⟩;have hg:zK c 1=m:=by unfold zK;split at hm<;>split<;>omega
 have hm8:m<=8:=by split at hm<;>omega
 rw[hm];have hm9:(m:Int)<=8:=by omega
 have hm0:(0:Int)<=m:=by omega
 clear h hm;go_in;go_wp2_with fail;go_quiet ((go_at_call 139;exact Calls.quiet_of_same (zcf _ _ _)));go_wp2_with fail;go_ret;exact⟨rfl,Zc _ _⟩
def zcI (c:Int):Int:=if c<1 then 1 else c
def zfu (t:Pt) (d:Int):Pt:=if t.bad=true then t else {t with cn:=zcI t.cn,nm:=zhs t.nm ((zcI t.cn).toNat-1) (zf4 (t.nm ((zcI t.cn).toNat-1)*10+d))}
def ze4 (t:Pt):Pt:=if t.bad=true then t else {t with cn:=zcI t.cn+1,bad:=decide (8<zcI t.cn+1)}
theorem zoP (n:Int):ZU n 9999=zf4 n:=by unfold ZU zf4;rfl
theorem zfT (c:Int):zK c 1=zcI c:=by unfold zK zcI;rfl
theorem zuE (bs bg g N:Nat) (s:Rs) (t:Pt) (d:Int) (w:World) (h:zh w bs bg g N s t) (hcn:t.bad=false->0<=t.cn/\t.cn<=8) (hn:t.bad=false->∀i,i<8->0<=t.nm i/\t.nm i<=9999) (d0:0<=d) (d9:d<=9):
 Calls Tryz.prog 182 #[.pointer (some ⟨bs,17,none⟩),.int .i64 d] w (zV bs bg g N w s (zfu t d) (.tuple #[])):=by
 have HP:=zH h;have f26:=h.f26;have f25:=h.f25;have fz:=h.free;clear h;cases hb:t.bad with
 |true=>
  rw[hb] at f26;rw[show zfu t d=t from if_pos hb];go_in;go_wp2_with fail;exact bodyPost_ret (v:=.tuple #[]) (by simp[results,Tryz.results182,go_sem]) rfl ⟨rfl,HP.out,zd.refl _ _⟩
 |false=>
  rw[hb] at f26;obtain⟨c0,c8⟩:=hcn hb;have hn:=hn hb;obtain⟨i,hi⟩:∃i:Nat,zcI t.cn=(i:Int)+1:=⟨(zcI t.cn-1).toNat,by unfold zcI;split<;>omega⟩;have hi8:i<8:=by unfold zcI at hi;split at hi<;>omega
  have HT:Hid (zfu t d={t with cn:=(i:Int)+1,nm:=zhs t.nm i (zf4 (t.nm i*10+d))}):=by
   show zfu t d=_;unfold zfu;rw[if_neg (by rw[hb];decide),hi,show((i:Int)+1).toNat-1=i by omega]
  have hmg:zK t.cn 1=(i:Int)+1:=by rw[zfT,hi]
  obtain⟨n0,n9⟩:=hn i hi8;have hnum:=HP.out.num i hi8;have HP1:Hid (zh (w.setCell ⟨bs,25,none⟩ (.int .i64 ((i:Int)+1))) bs bg g N s {t with cn:=(i:Int)+1} ):=HP.out.setCn _;have hcap:=zoP (t.nm i*10+d);have hoff:¬25=17+i:=by omega
  generalize hnn:t.nm i=n at *;have HN:=zH hnn;clear hnn;go_in;go_wp2_with (first|(go_at_call 139;refine sM (zcf _ _ _) ?_)|(go_at_call 138;refine sM (zce _ _ _) ?_));clear HP f25 f26 fz hnum;have K1:zd (λi=>i=bs\/i=bg\/i=g) w (w.setCell ⟨bs,25,none⟩ (.int .i64 ((i:Int)+1))):=(zd.refl _ w).setCell ⟨bs,25,none⟩ _ (λ_=>Or.inl rfl);generalize w.setCell ⟨bs,25,none⟩ (.int .i64 ((i:Int)+1))=wa at *;have f25:wa.cell? ⟨bs,25,none⟩=some (.int .i64 ((i:Int)+1)):=HP1.out.f25;have wi:IntKind.i64.wrap ((i:Int)+1-1)=i:=by rw[zm _ (by omega) (by omega)];omega
  have i0:(0:Int)<=i:=by omega
  have i8:(i:Int)<8:=by omega
  go_quiet (fail);have HP2:=zH<|HP1.out.drewN nq
  have K2:=K1.drewN nq;generalize wa.drewN nq=wb at *;clear HP1 K1 f25;have fi:wb.cell? ⟨bs,17+i,none⟩=some (.int .i64 n):=by rw[←HN.out];exact HP2.out.num i hi8
  have fz:=HP2.out.free;go_wp2_with (first|(go_at_call 138;refine sM (zce _ _ _) ?_));go_end0;refine⟨rfl,?_,K2.setCell ⟨bs,17+i,none⟩ _ (λ_=>Or.inl rfl)⟩;rw[HT.out];exact HP2.out.setNum i hi8 _
theorem zoQ (bs bg g N:Nat) (s:Rs) (t:Pt) (w:World) (h:zh w bs bg g N s t) (hcn:t.bad=false->0<=t.cn/\t.cn<=8):
 Calls Tryz.prog 183 #[.pointer (some ⟨bs,17,none⟩)] w (zV bs bg g N w s (ze4 t) (.tuple #[])):=by
 have HP:=zH h;have f26:=h.f26;have f25:=h.f25;have fz:=h.free;clear h;cases hb:t.bad with
 |true=>
  rw[hb] at f26;rw[show ze4 t=t from if_pos hb];go_in;go_wp2_with fail;exact bodyPost_ret (v:=.tuple #[]) (by simp[results,Tryz.results183,go_sem]) rfl ⟨rfl,HP.out,zd.refl _ _⟩
 |false=>
  rw[hb] at f26;obtain⟨c0,c8⟩:=hcn hb;obtain⟨m,hm⟩:∃m:Int,zcI t.cn=m:=⟨_,rfl⟩;have hm8:m<=8:=by unfold zcI at hm;split at hm<;>omega
  have hm0:0<=m:=by unfold zcI at hm;split at hm<;>omega
  have HT:Hid (ze4 t={t with cn:=m+1,bad:=decide (8<m+1)}):=by
   show ze4 t=_;unfold ze4;rw[if_neg (by rw[hb];decide),hm]
  have hmg:zK t.cn 1=m:=by rw[zfT,hm]
  go_in;go_wp2_with (first|(go_at_call 139;refine sM (zcf _ _ _) ?_));go_end0;refine⟨rfl,?_,((zd.refl _ w).setCell ⟨bs,25,none⟩ _ (λ_=>Or.inl rfl)).setCell ⟨bs,26,none⟩ _ (λ_=>Or.inl rfl)⟩;rw[HT.out];exact(HP.out.setCn _).setBad _
theorem zh.setPenF {w:World} {bs bg g N:Nat} {s:Rs} {t:Pt} (h:zh w bs bg g N s t) (v:Int):zh (w.setCell ⟨bs,4,none⟩ (.int .i64 v)) bs bg g N {s with pen:={s.pen with f:=v} } t:=h.store 4 _ _ _ rfl rfl rfl rfl
theorem zh.setPenB {w:World} {bs bg g N:Nat} {s:Rs} {t:Pt} (h:zh w bs bg g N s t) (v:Int):zh (w.setCell ⟨bs,5,none⟩ (.int .i64 v)) bs bg g N {s with pen:={s.pen with b:=v} } t:=h.store 5 _ _ _ rfl rfl rfl rfl
theorem zh.setPenO {w:World} {bs bg g N:Nat} {s:Rs} {t:Pt} (h:zh w bs bg g N s t) (v:Bool):zh (w.setCell ⟨bs,6,none⟩ (.bool v)) bs bg g N {s with pen:={s.pen with bo:=v} } t:=h.store 6 _ _ _ rfl rfl rfl rfl
theorem zh.setPenU {w:World} {bs bg g N:Nat} {s:Rs} {t:Pt} (h:zh w bs bg g N s t) (v:Bool):zh (w.setCell ⟨bs,7,none⟩ (.bool v)) bs bg g N {s with pen:={s.pen with un:=v} } t:=h.store 7 _ _ _ rfl rfl rfl rfl
theorem zh.setPenR {w:World} {bs bg g N:Nat} {s:Rs} {t:Pt} (h:zh w bs bg g N s t) (v:Bool):zh (w.setCell ⟨bs,8,none⟩ (.bool v)) bs bg g N {s with pen:={s.pen with re:=v} } t:=h.store 8 _ _ _ rfl rfl rfl rfl
theorem zmF (bs bg g N:Nat) (s:Rs) (t:Pt) (n:Int) (w:World) (h:zh w bs bg g N s t):
 Calls Tryz.prog 211 #[.pointer (some ⟨bs,4,none⟩),.int .i64 n] w (zV bs bg g N w (zek s n) t (.tuple #[])):=by
 have f4:=h.f4;have f5:=h.f5;have f6:=h.f6;have f7:=h.f7;have f8:=h.f8;have fr:=h.free;have HR:=zH h;clear h;by_cases h0:n=0
 ·subst h0;go_in;go_wp2_with (first|(go_at_call 107;refine sM (zan _ _ _ _) ?_));go_end0;exact⟨rfl,((((HR.out.setPenF 0).setPenB 0).setPenO false).setPenU false).setPenR false,(((((zd.refl _ w).setCell ⟨bs,4,none⟩ _ (λ_=>Or.inl rfl)).setCell ⟨bs,5,none⟩ _ (λ_=>Or.inl rfl)).setCell ⟨bs,6,none⟩ _ (λ_=>Or.inl rfl)).setCell ⟨bs,7,none⟩ _ (λ_=>Or.inl rfl)).setCell ⟨bs,8,none⟩ _ (λ_=>Or.inl rfl)⟩
 by_cases h1:n=1
 ·subst h1;go_in;go_wp2_with (first|(go_at_call 107;refine sM (zan _ _ _ _) ?_));go_end0;exact⟨rfl,HR.out.setPenO true,(zd.refl _ w).setCell ⟨bs,6,none⟩ _ (λ_=>Or.inl rfl)⟩
 by_cases h22:n=22
 ·subst h22;go_in;go_wp2_with (first|(go_at_call 107;refine sM (zan _ _ _ _) ?_));go_end0;exact⟨rfl,HR.out.setPenO false,(zd.refl _ w).setCell ⟨bs,6,none⟩ _ (λ_=>Or.inl rfl)⟩
 by_cases h4:n=4
 ·subst h4;go_in;go_wp2_with (first|(go_at_call 107;refine sM (zan _ _ _ _) ?_));go_end0;exact⟨rfl,HR.out.setPenU true,(zd.refl _ w).setCell ⟨bs,7,none⟩ _ (λ_=>Or.inl rfl)⟩
 by_cases h24:n=24
 ·subst h24;go_in;go_wp2_with (first|(go_at_call 107;refine sM (zan _ _ _ _) ?_));go_end0;exact⟨rfl,HR.out.setPenU false,(zd.refl _ w).setCell ⟨bs,7,none⟩ _ (λ_=>Or.inl rfl)⟩
 by_cases h7:n=7
 ·subst h7;go_in;go_wp2_with (first|(go_at_call 107;refine sM (zan _ _ _ _) ?_));go_end0;exact⟨rfl,HR.out.setPenR true,(zd.refl _ w).setCell ⟨bs,8,none⟩ _ (λ_=>Or.inl rfl)⟩
 by_cases h27:n=27
 ·subst h27;go_in;go_wp2_with (first|(go_at_call 107;refine sM (zan _ _ _ _) ?_));go_end0;exact⟨rfl,HR.out.setPenR false,(zd.refl _ w).setCell ⟨bs,8,none⟩ _ (λ_=>Or.inl rfl)⟩
 by_cases h39:n=39
 ·subst h39;go_in;go_wp2_with (first|(go_at_call 107;refine sM (zan _ _ _ _) ?_));go_end0;exact⟨rfl,HR.out.setPenF 0,(zd.refl _ w).setCell ⟨bs,4,none⟩ _ (λ_=>Or.inl rfl)⟩
 by_cases h49:n=49
 ·subst h49;go_in;go_wp2_with (first|(go_at_call 107;refine sM (zan _ _ _ _) ?_));go_end0;exact⟨rfl,HR.out.setPenB 0,(zd.refl _ w).setCell ⟨bs,5,none⟩ _ (λ_=>Or.inl rfl)⟩
 by_cases hr30:30<=n/\n<=37
 ·have HP:Hid (zek s n={s with pen:={s.pen with f:=n-29} }):=by
   show zek s n=_;unfold zek zdb;rw[if_neg h0,if_neg h1,if_neg h22,if_neg h4,if_neg h24,if_neg h7,if_neg h27,if_neg h39,if_neg h49,if_pos hr30]
  have r0:=hr30.1;have r1:=hr30.2;have b30:Wd.inB n 30 37=true:=by simp[Wd.inB,r0,r1]
  go_in;go_wp2_with (first|(go_at_call 107;refine sM (zan _ _ _ _) ?_));go_end0;refine⟨rfl,?_,(zd.refl _ w).setCell ⟨bs,4,none⟩ _ (λ_=>Or.inl rfl)⟩;rw[HP.out];exact HR.out.setPenF _
 by_cases hr40:40<=n/\n<=47
 ·have HP:Hid (zek s n={s with pen:={s.pen with b:=n-39} }):=by
   show zek s n=_;unfold zek zdb;rw[if_neg h0,if_neg h1,if_neg h22,if_neg h4,if_neg h24,if_neg h7,if_neg h27,if_neg h39,if_neg h49,if_neg hr30,if_pos hr40]
  have r0:=hr40.1;have r1:=hr40.2;have b30:Wd.inB n 30 37=false:=by simp[Wd.inB];omega
  have b40:Wd.inB n 40 47=true:=by simp[Wd.inB,r0,r1]
  go_in;go_wp2_with (first|(go_at_call 107;refine sM (zan _ _ _ _) ?_));go_end0;refine⟨rfl,?_,(zd.refl _ w).setCell ⟨bs,5,none⟩ _ (λ_=>Or.inl rfl)⟩;rw[HP.out];exact HR.out.setPenB _
 have HP:Hid (zek s n=s):=by
  show zek s n=_;unfold zek zdb;rw[if_neg h0,if_neg h1,if_neg h22,if_neg h4,if_neg h24,if_neg h7,if_neg h27,if_neg h39,if_neg h49,if_neg hr30,if_neg hr40]
 have b30:Wd.inB n 30 37=false:=by simp[Wd.inB];omega
 have b40:Wd.inB n 40 47=false:=by simp[Wd.inB];omega
 go_in;go_wp2_with (first|(go_at_call 107;refine sM (zan _ _ _ _) ?_));go_end0;refine⟨rfl,?_,zd.refl _ w⟩;rw[HP.out];exact HR.out
theorem zh5 {s:Rs} (hw:Wf s.W s.H s.G) {x0 x1 how:Int} {Y:Nat} (hY:s.y=Y) (h:∀a:Nat,a<s.W->(zct how false s.x s.y a Y=true↔x0<=a/\(a:Int)<x1)):
 ZX s.W s.H (zaH s.W x0 x1 Y (zS s) s.G) (zbS s how false).G:=by
 unfold zaH zbS;refine zbm hw (λa b ha hb=>?_) (λ_ _ _ _ _=>rfl);by_cases e:b=Y
 ·subst e;have:=h a ha;rw[Bool.eq_iff_iff,this];simp[ha]
 ·have e':¬(b:Int)=s.y:=by omega
  simp[zct,e,e']
theorem zll (bs bg g N:Nat) (s:Rs) (t:Pt) (w:World) (h:zh w bs bg g N s t) (ok:s.Ok):
 Calls Tryz.prog 205 #[.pointer (some ⟨bs,0,none⟩),.int .i64 0] w (zV bs bg g N w (zbS s 0 false) t (.tuple #[])):=by
 have HP:=zH h;obtain⟨Y,hY⟩:∃Y:Nat,s.y=Y:=⟨s.y.toNat,by have:=ok.y0;omega⟩;have hYH:Y<s.H:=by have:=ok.y1;omega
 have HE:Hid (ZX s.W s.H (zaH s.W s.x (s.W:Int) Y (zS s) s.G) (zbS s 0 false).G):=zh5 ok.wf hY (λa ha=>by
  have hY':=hY.symm;simp[zct,hY'];omega)
 have Hwf:=zH ok.wf;have c0:=h.f0;have c1:=h.f1;have c2:=h.f2;rw[hY] at c2;have x0:=ok.x0;have x1:=ok.x1;have w2:=ok.w2;have wx:IntKind.i64.wrap (s.x+1)=s.x+1:=zm _ (by omega) (by omega);have HY:=zH hY;clear h ok hY;go_in;go_wp2_with (first|(go_at_call 126;refine sM (zcC bg g s.W s.H N s.G _ HP.out.gr) ?_));have HD:=zH HP.out.drew;go_region_held3 (λw'=>w'.cell? ⟨bs,1,none⟩=some (.int .i64 s.x)/\w'.cell? ⟨bs,2,none⟩=some (.int .i64 (Y:Int))) (simp[*]) (first|(go_at_call 207;refine(zft bs bg g N s t s.x (s.W:Int) Y _ HD.out Hwf.out hYH).mono ?_;rintro e w3 ⟨rfl,P3,K3⟩;have e1:=P3.f1;have e2:=P3.f2;simp only[HY.out] at e2));go_wp2_with fail;go_end0;exact⟨rfl,P3.congr _ rfl rfl rfl HE.out,((zd.refl _ w).drew).trans K3 (λ_ _ h=>h)⟩
theorem zlm (bs bg g N:Nat) (s:Rs) (t:Pt) (w:World) (h:zh w bs bg g N s t) (ok:s.Ok):
 Calls Tryz.prog 205 #[.pointer (some ⟨bs,0,none⟩),.int .i64 1] w (zV bs bg g N w (zbS s 1 false) t (.tuple #[])):=by
 have HP:=zH h;obtain⟨Y,hY⟩:∃Y:Nat,s.y=Y:=⟨s.y.toNat,by have:=ok.y0;omega⟩;have hYH:Y<s.H:=by have:=ok.y1;omega
 have HE:Hid (ZX s.W s.H (zaH s.W 0 (s.x+1) Y (zS s) s.G) (zbS s 1 false).G):=zh5 ok.wf hY (λa ha=>by
  have hY':=hY.symm;simp[zct,hY'];omega)
 have Hwf:=zH ok.wf;have c0:=h.f0;have c1:=h.f1;have c2:=h.f2;rw[hY] at c2;have x0:=ok.x0;have x1:=ok.x1;have w2:=ok.w2;have wx:IntKind.i64.wrap (s.x+1)=s.x+1:=zm _ (by omega) (by omega);have HY:=zH hY;clear h ok hY;go_in;go_wp2_with (first|(go_at_call 126;refine sM (zcC bg g s.W s.H N s.G _ HP.out.gr) ?_));have HD:=zH HP.out.drew;go_region_held3 (λw'=>w'.cell? ⟨bs,1,none⟩=some (.int .i64 s.x)/\w'.cell? ⟨bs,2,none⟩=some (.int .i64 (Y:Int))) (simp[*]) (first|(go_at_call 207;refine(zft bs bg g N s t 0 (s.x+1) Y _ HD.out Hwf.out hYH).mono ?_;rintro e w3 ⟨rfl,P3,K3⟩;have e1:=P3.f1;have e2:=P3.f2;simp only[HY.out] at e2));go_wp2_with fail;go_end0;exact⟨rfl,P3.congr _ rfl rfl rfl HE.out,((zd.refl _ w).drew).trans K3 (λ_ _ h=>h)⟩
theorem zln (bs bg g N:Nat) (s:Rs) (t:Pt) (w:World) (h:zh w bs bg g N s t) (ok:s.Ok):
 Calls Tryz.prog 205 #[.pointer (some ⟨bs,0,none⟩),.int .i64 2] w (zV bs bg g N w (zbS s 2 false) t (.tuple #[])):=by
 have HP:=zH h;obtain⟨Y,hY⟩:∃Y:Nat,s.y=Y:=⟨s.y.toNat,by have:=ok.y0;omega⟩;have hYH:Y<s.H:=by have:=ok.y1;omega
 have HE:Hid (ZX s.W s.H (zaH s.W 0 (s.W:Int) Y (zS s) s.G) (zbS s 2 false).G):=zh5 ok.wf hY (λa ha=>by
  have hY':=hY.symm;simp[zct,hY'];omega)
 have Hwf:=zH ok.wf;have c0:=h.f0;have c1:=h.f1;have c2:=h.f2;rw[hY] at c2;have x0:=ok.x0;have x1:=ok.x1;have w2:=ok.w2;have wx:IntKind.i64.wrap (s.x+1)=s.x+1:=zm _ (by omega) (by omega);have HY:=zH hY;clear h ok hY;go_in;go_wp2_with (first|(go_at_call 126;refine sM (zcC bg g s.W s.H N s.G _ HP.out.gr) ?_));go_at_call 207;refine(zft bs bg g N s t 0 (s.W:Int) Y _ HP.out Hwf.out hYH).mono ?_;rintro e w3 ⟨rfl,P3,K3⟩;go_wp2_with fail;go_end0;exact⟨rfl,P3.congr _ rfl rfl rfl HE.out,K3⟩
theorem zlo (bs bg g N:Nat) (s:Rs) (t:Pt) (how:Int) (w:World) (h:zh w bs bg g N s t) (h0:¬how=0) (h1:¬how=1) (h2:¬how=2):
 Calls Tryz.prog 205 #[.pointer (some ⟨bs,0,none⟩),.int .i64 how] w (zV bs bg g N w (zbS s how false) t (.tuple #[])):=by
 have HP:=zH h;have HE:Hid (zbS s how false=s):=by
  show zbS s how false=s;unfold zbS;rw[zg2 _ _ _ (λa b=>by simp[zct,h0,h1,h2])]
 have c0:=h.f0;clear h;go_in;go_wp2_with (first|(go_at_call 126;refine sM (zcC bg g s.W s.H N s.G _ HP.out.gr) ?_));go_end0;refine⟨rfl,?_,zd.refl _ w⟩;rw[HE.out];exact HP.out
theorem zh6 (bs bg g N:Nat) (s:Rs) (t:Pt) (how:Int) (w:World) (h:zh w bs bg g N s t) (ok:s.Ok):
 Calls Tryz.prog 205 #[.pointer (some ⟨bs,0,none⟩),.int .i64 how] w (zV bs bg g N w (zbS s how false) t (.tuple #[])):=by
 by_cases h0:how=0
 ·subst h0;exact zll bs bg g N s t w h ok
 by_cases h1:how=1
 ·subst h1;exact zlm bs bg g N s t w h ok
 by_cases h2:how=2
 ·subst h2;exact zln bs bg g N s t w h ok
 exact zlo bs bg g N s t how w h h0 h1 h2
end
end Go.Proofs.YtjlfibhbfdckpaaGreatDoor

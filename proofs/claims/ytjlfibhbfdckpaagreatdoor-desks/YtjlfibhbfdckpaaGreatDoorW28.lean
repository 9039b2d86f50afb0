import Derived.Test.YtjlfibhbfdckpaaGreatDoorW27
namespace Go.Proofs.YtjlfibhbfdckpaaGreatDoor
set_option maxHeartbeats 64000000
set_option maxRecDepth 100000
section
open Go.RowKit
attribute [local go_sem ↓] Go.wp_at_zero Go.wp_at_succ
structure zal (w:World) (bo base g cap:Nat) (L:List Wy):Prop where
 box:w.heap[bo]?=some (.cells #[.slice (some ⟨g,0,none⟩) L.length cap] 240)
 row:zcA w base g L.length cap L
 ne:g≠bo
 hb:base<=bo
section
variable {w w':World} {bo base g cap:Nat} {L:List Wy}
theorem zal.lt (h:zal w bo base g cap L):bo<w.heap.size:=(Array.getElem?_eq_some_iff.1 h.box).1
theorem zal.glt (h:zal w bo base g cap L):g<w.heap.size:=by
 obtain⟨cur,hg,_⟩:=zeK h.row;exact(Array.getElem?_eq_some_iff.1 hg).1
theorem zal.same (h:zal w bo base g cap L) (h1:w'.heap[bo]?=w.heap[bo]?) (h2:w'.heap[g]?=w.heap[g]?):zal w' bo base g cap L:=
 ⟨h1.trans h.box,ZH h.row (λi hi=>by
  obtain rfl:g=i:=by simpa[Value.ownBlock] using hi
  exact h2),h.ne,h.hb⟩
theorem zal.keep {F:Nat->Prop} (h:zal w bo base g cap L) (k:zd F w w') (h1:¬F bo) (h2:¬F g):zal w' bo base g cap L:=h.same (k.block _ h.lt h1) (k.block _ h.glt h2)
theorem zal.c0 (h:zal w bo base g cap L):w.cell? ⟨bo,0,none⟩=some (.slice (some ⟨g,0,none⟩) L.length cap):=za h.box 0
end
theorem zvR (a:Option Addr) (n c:Nat) (w:World):Calls Tryz.prog 281 #[.slice a n c] w λe w'=>e=.returned (.int .i64 n)/\w'=w:=by
 go_in;go_wp2;go_ret;exact⟨rfl,rfl⟩
theorem ztL (g cap base n:Nat) (L:List Wy) (i j:Nat) (w:World) (h:zcA w base g n cap L) (hi:i<n) (hj:j<n):
 Calls Tryz.prog 282 #[.slice (some ⟨g,0,none⟩) n cap,.int .i64 i,.int .i64 j] w λe w'=>e=.returned (.bool (decide ((gW L i).b.length<(gW L j).b.length)))/\∃q,w'=w.drewN q:=by
 have ci:w.cell? ⟨g,i*10,none⟩=some (zaD (gW L i).b):=zbt h hi 0 _ rfl;have cj:w.cell? ⟨g,j*10,none⟩=some (zaD (gW L j).b):=zbt h hj 0 _ rfl;have hi':(i:Int)<(n:Int):=by omega
 have hj':(j:Int)<(n:Int):=by omega
 clear h;go_in;go_wp2_with fail;go_quiet (fail);go_wp2_with fail;go_ret;exact⟨rfl,nq,rfl⟩
theorem zvS:(Tryz.prog.info? 237).map (·.size)=some 10:=by kernel_rfl
theorem zh2 {w:World} {g k:Nat} {v:Wy} (h:w.rangeAt g k v.vals):w.cell? ⟨g,k,none⟩=some (zaD v.b)/\w.cell? ⟨g,k+1,none⟩=some (.int .i64 v.k)/\w.cell? ⟨g,k+2,none⟩=some (.int .i64 v.e.x)/\w.cell? ⟨g,k+3,none⟩=some (.int .i64 v.e.y)/\w.cell? ⟨g,k+4,none⟩=some (.bool v.e.pend)/\w.cell? ⟨g,k+5,none⟩=some (.int .i64 v.e.pen.f)/\w.cell? ⟨g,k+6,none⟩=some (.int .i64 v.e.pen.b)/\w.cell? ⟨g,k+7,none⟩=some (.bool v.e.pen.bo)/\w.cell? ⟨g,k+8,none⟩=some (.bool v.e.pen.un)/\w.cell? ⟨g,k+9,none⟩=some (.bool v.e.pen.re):=
 ⟨h 0 _ rfl,h 1 _ rfl,h 2 _ rfl,h 3 _ rfl,h 4 _ rfl,h 5 _ rfl,h 6 _ rfl,h 7 _ rfl,h 8 _ rfl,h 9 _ rfl⟩
theorem ztM {w:World} {base g n cap:Nat} {L:List Wy} (h:zcA w base g n cap L):∀o,w.frozen? ⟨g,o,none⟩=false:=by
 obtain⟨cur,hg,_⟩:=zeK h;exact ze hg
abbrev zdO (w:World) (g o:Nat) (v:Wy):World:=((((((((((w.setCell ⟨g,o,none⟩ (.string ⟨v.b.toArray⟩)).setCell ⟨g,o+1,none⟩ (.int .i64 v.k)).setCell ⟨g,o+2,none⟩ (.int .i64 v.e.x)).setCell ⟨g,o+3,none⟩ (.int .i64 v.e.y)).setCell ⟨g,o+4,none⟩ (.bool v.e.pend)).setCell ⟨g,o+5,none⟩ (.int .i64 v.e.pen.f)).setCell ⟨g,o+6,none⟩ (.int .i64 v.e.pen.b)).setCell ⟨g,o+7,none⟩ (.bool v.e.pen.bo)).setCell ⟨g,o+8,none⟩ (.bool v.e.pen.un)).setCell ⟨g,o+9,none⟩ (.bool v.e.pen.re))
theorem zld (w:World) (g o:Nat) (v:Wy):zdO w g o v=w.setCells g o v.vals:=by
 simp only[World.setCells,Nat.add_assoc,Nat.reduceAdd]
theorem zi7 {w:World} {base g n cap:Nat} {L:List Wy} (h:zcA w base g n cap L) {k:Nat} (hk:k<n) (v:Wy):zcA (zdO w g (k*10) v) base g n cap (L.set k v):=by
 rw[zld];exact zqS h hk v
theorem zh3 {F:Nat->Prop} {a w:World} (h:zd F a w) (g o:Nat) (v:Wy) (hF:F g):zd F a (zdO w g o v):=by
 rw[zld];exact zd.setCells g (λ_=>hF) _ _ h
theorem zle {w:World} {base g n cap:Nat} {L:List Wy} (h:zcA w base g n cap L) {i j:Nat} (hi:i<n) (hj:j<n):zcA (zdO (zdO w g (i*10) (gW L j)) g (j*10) (gW L i)).drew base g n cap (swL L i j):=by
 have h2:=zi7 (zi7 h hi (gW L j)) hj (gW L i);have h3:((L.set i (gW L j)).set j (gW L i))=swL L i j:=rfl;rw[h3] at h2;revert h2;generalize zdO (zdO w g (i*10) (gW L j)) g (j*10) (gW L i)=W;intro h2;exact ZH h2 (λ_ _=>rfl)
theorem zi8 (w:World) (g i j:Nat) (u v:Wy):zd (λk=>k=g) w (zdO (zdO w g i u) g j v).drew:=
 (zh3 (zh3 (zd.refl (λk=>k=g) w) g i u rfl) g j v rfl).drew
theorem zqT (g cap base n:Nat) (L:List Wy) (i:Nat) (w:World) (h:zcA w base g n cap L) (hi:i<n):
 Calls Tryz.prog 285 #[.slice (some ⟨g,0,none⟩) n cap,.int .i64 i,.int .i64 i] w λe w'=>e=.returned (.tuple #[])/\zcA w' base g n cap (swL L i i)/\zd (λk=>k=g) w w':=by
 obtain⟨a0,a1,a2,a3,a4,a5,a6,a7,a8,a9⟩:=zh2 (zbt h hi);have fz:=ztM h;have hi':(i:Int)<(n:Int):=by omega
 have HW:=zH<|zle h hi hi
 have HK:Hid (zd (λk=>k=g) w (zdO (zdO w g (i*10) (gW L i)) g (i*10) (gW L i)).drew):=zi8 w g _ _ _ _;clear h;go_in;go_wp2_with fail;go_region;all_goals
  go_wp2_with fail;go_end0;exact⟨rfl,HW.out,HK.out⟩
theorem zoM (g cap base n:Nat) (L:List Wy) (i j:Nat) (w:World) (h:zcA w base g n cap L) (hi:i<n) (hj:j<n) (hne:i≠j):
 Calls Tryz.prog 285 #[.slice (some ⟨g,0,none⟩) n cap,.int .i64 i,.int .i64 j] w λe w'=>e=.returned (.tuple #[])/\zcA w' base g n cap (swL L i j)/\zd (λk=>k=g) w w':=by
 obtain⟨a0,a1,a2,a3,a4,a5,a6,a7,a8,a9⟩:=zh2 (zbt h hi);obtain⟨b0,b1,b2,b3,b4,b5,b6,b7,b8,b9⟩:=zh2 (zbt h hj);have fz:=ztM h;have hi':(i:Int)<(n:Int):=by omega
 have hj':(j:Int)<(n:Int):=by omega
 have n1:¬i*10=j*10:=by omega
 have n2:∀d,d<10->¬i*10=j*10+d:=by omega
 have n3:∀c,c<10->¬i*10+c=j*10:=by omega
 have n4:∀c d,c<10->d<10->¬i*10+c=j*10+d:=by omega
 have m1:¬j*10=i*10:=by omega
 have m2:∀d,d<10->¬j*10=i*10+d:=by omega
 have m3:∀c,c<10->¬j*10+c=i*10:=by omega
 have m4:∀c d,c<10->d<10->¬j*10+c=i*10+d:=by omega
 have HW:=zH<|zle h hi hj
 have HK:Hid (zd (λk=>k=g) w (zdO (zdO w g (i*10) (gW L j)) g (j*10) (gW L i)).drew):=zi8 w g _ _ _ _;clear h;go_in;go_wp2_with fail;go_region;all_goals
  go_wp2_with fail;go_end0;exact⟨rfl,HW.out,HK.out⟩
theorem zvT (g cap base n:Nat) (L:List Wy) (i j:Nat) (w:World) (h:zcA w base g n cap L) (hi:i<n) (hj:j<n):
 Calls Tryz.prog 285 #[.slice (some ⟨g,0,none⟩) n cap,.int .i64 i,.int .i64 j] w λe w'=>e=.returned (.tuple #[])/\zcA w' base g n cap (swL L i j)/\zd (λk=>k=g) w w':=by
 by_cases e:i=j
 ·subst e;exact zqT g cap base n L i w h hi
 ·exact zoM g cap base n L i j w h hi hj e
theorem zmC:(Tryz.prog.info? 237).bind (·.zero)=some (Wy.agg ⟨[],0,⟨0,0,false,⟨0,0,false,false,false⟩⟩⟩):=by kernel_rfl
theorem zlf:(Tryz.prog.info? 237).map (·.bytes)=some 72:=by kernel_rfl
theorem zlg:∃(i:TypeInfo),Tryz.prog.info? 237=some i/\i.zero=some (Wy.agg ⟨[],0,⟨0,0,false,⟨0,0,false,false,false⟩⟩⟩)/\i.size=10/\i.bytes=72:=by
 have h1:=zmC;have h2:=zvS;have h3:=zlf;cases h:Tryz.prog.info? 237 with
 |none=>rw[h] at h2;simp at h2
 |some i=>rw[h] at h1 h2 h3;exact⟨i,rfl,by simpa using h1,by simpa using h2,by simpa using h3⟩
theorem znz (v:Wy) (w:World):(Instr.typeAssert (.iface 237 v.agg) 20 237 false).run Tryz.prog w=.ok v.agg w:=by kernel_rfl
theorem zux {w:World} {bo base g cap n:Nat} {L:List Wy} (h:zal w bo base g cap L) (hn:L.length=n+1) (o:Obj):zal ((w.setCell ⟨bo,0,none⟩ (.slice (some ⟨g,0,none⟩) n cap)).alloc o) bo base g cap (L.take n):=by
 have hl:(L.take n).length=n:=by rw[List.length_take];omega
 have hs:(w.setCell ⟨bo,0,none⟩ (.slice (some ⟨g,0,none⟩) n cap)).heap.size=w.heap.size:=by simp[World.setCell]
 refine⟨?_,?_,h.ne,h.hb⟩
 ·rw[zN _ _ (by rw[hs];exact h.lt),hl];exact zg h.box 0 _
 ·have hr:=zoL h.row (m:=n) (by omega);rw[hl];refine ZH hr (λi hi=>?_);obtain rfl:g=i:=by simpa[Value.ownBlock] using hi
  rw[zN _ _ (by rw[hs];exact h.glt)];exact Below.heap_setCell _ _ _ _ h.ne
theorem zvU (bo base g cap:Nat) (L:List Wy) (w:World) (h:zal w bo base g cap L) (hn:1<=L.length) (hz:L.length<=100000):
 Calls Tryz.prog 283 #[.pointer (some ⟨bo,0,none⟩)] w λe w'=>e=.returned (.iface 237 (gW L (L.length-1)).agg)/\zal w' bo base g cap (L.take (L.length-1))/\zd (λi=>i=bo) w w':=by
 have hlt:=h.lt;have hglt:=h.glt;have c0:=h.c0;have fz:=ze h.box;have HH:=zH h;obtain⟨n,hn'⟩:∃n,L.length=n+1:=⟨L.length-1,by omega⟩;have e1:L.length-1=n:=by omega
 rw[e1];rw[hn'] at c0;have hr:=h.row;rw[hn'] at hr;obtain⟨a0,a1,a2,a3,a4,a5,a6,a7,a8,a9⟩:=zh2 (zbt hr (k:=n) (by omega));have hcap:n+1<=cap:=by obtain⟨_,_,_,q,_⟩:=zeK hr;exact q
 have hnz:n<=100000:=by omega
 have HL:=zH hn';clear h hr hn' e1 hn hz;go_in;go_wp2_with fail;go_ret;exact⟨rfl,zux HH.out HL.out _,((zd.refl (λi=>i=bo) w).setCell _ _ (λ_=>rfl)).alloc _⟩
theorem zsR {w W w7:World} {bo base g cap g7 cap7:Nat} {L:List Wy} {v:Wy} (h:zal w bo base g cap L) (hW:w.heap.size<=W.heap.size) (hb:w7.heap[bo]?=some (.cells #[.slice (some ⟨g,0,none⟩) L.length cap] 240)) (hK:zd (λi=>i=bo\/i=g) w W) (hg:W.grownBy w7 (some g)) (hr:w7.ownsRow base 237 10 (.slice (some ⟨g7,0,none⟩) (L.length+1) cap7) (L.length+1) (ZG L++v.vals)) (ho:some g=some g7\/g7=W.heap.size):
 zal (w7.setCell ⟨bo,0,none⟩ (.slice (some ⟨g7,0,none⟩) (L.length+1) cap7)) bo base g7 cap7 (L ++ [v])/\zd (λi=>i=bo\/i=g) w (w7.setCell ⟨bo,0,none⟩ (.slice (some ⟨g7,0,none⟩) (L.length+1) cap7))/\(g7=g\/w.heap.size<=g7):=by
 have hl:=h.lt;have hg7:g7≠bo:=by
  rcases ho with e|e
  ·cases e;exact h.ne
  ·omega
 refine⟨⟨?_,?_,hg7,h.hb⟩,(hK.grown hg (λk hk _=>by cases hk;exact .inr rfl)).setCell _ _ (λ_=>.inl rfl),?_⟩
 ·rw[List.length_append];exact zg hb 0 _
 ·have e:ZG L++v.vals=ZG (L ++ [v]):=by rw[zdM,zc9];simp[ZG]
  rw[e] at hr;rw[List.length_append];refine ZH hr (λi hi=>?_);obtain rfl:g7=i:=by simpa[Value.ownBlock] using hi
  exact Below.heap_setCell _ _ _ _ hg7
 ·rcases ho with e|e
  ·cases e;exact .inl rfl
  ·exact .inr (by omega)
theorem zuy (bo base g cap:Nat) (L:List Wy) (v:Wy) (w:World) (h:zal w bo base g cap L) (hz:L.length<=100000):
 Calls Tryz.prog 284 #[.pointer (some ⟨bo,0,none⟩),.iface 237 v.agg] w λe w'=>∃g' cap',e=.returned (.tuple #[])/\zal w' bo base g' cap' (L ++ [v])/\zd (λi=>i=bo\/i=g) w w'/\(g'=g\/w.heap.size<=g'):=by
 obtain⟨ti,i1,i2,i3,i4⟩:=zlg;have hta:=znz v;have hlt:=h.lt;have hbs:=h.hb;have c0:=h.c0;have fr:=ze h.box;have HH:=zH h;have Hrow:Hid (w.ownsRow base 237 10 (.slice (some ⟨g,0,none⟩) L.length cap) L.length (ZG L)):=h.row;clear h;go_in;go_wp2_with fail;go_region_law (refine step_append_lies _ (by rfl) (.tmp 7) (.tmp 10) 240 (by rfl) base 237 ti _ 10 72 Tryz.underlying240 i1 i2 i3 i4 rfl (by decide) (.slice (some ⟨g,0,none⟩) L.length cap) L.length (ZG L) (by simp[Act.eval]) (ZH Hrow.out (λi hi=>Below.heap_alloc w _ _ (Hrow.out.lt i hi).2)) ⟨w.heap.size,0,none⟩ 1 1 v.vals (by simp[Act.eval]) rfl (World.news_of_block (zf w _)) (zdN v) (by decide) (by unfold maxLen;omega) (by omega) (by simp;omega) _ rfl ?_;intro g7 cap7 w7 hr7 hg7 ho7 hl7;have hbk:=(hg7.block _ (by simp;omega) (λe=>HH.out.ne (by simpa[Value.ownBlock] using e.symm))).trans ((Below.heap_alloc w _ _ hlt).trans HH.out.box);have c7:w7.cell? ⟨bo,0,none⟩=some (.slice (some ⟨g,0,none⟩) L.length cap):=za hbk 0;have f7:=ze hbk 0);all_goals
  obtain⟨T8,K8,O8⟩:=zsR (W:=(w.alloc (.cells #[.string ⟨v.b.toArray⟩,.int .i64 v.k,.int .i64 v.e.x,.int .i64 v.e.y,.bool v.e.pend,.int .i64 v.e.pen.f,.int .i64 v.e.pen.b,.bool v.e.pen.bo,.bool v.e.pen.un,.bool v.e.pen.re] 237)).drew) HH.out (by simp) hbk ((zd.refl _ w).alloc _).drew hg7 hr7 ho7;have HT8:=zH T8;have HK8:=zH K8;have HO8:=zH O8;clear T8 K8 O8 hg7 hr7 ho7;go_wp2_with fail;go_end0;exact⟨g7,cap7,rfl,HT8.out,HK8.out,HO8.out⟩
abbrev hpV (bo:Nat):Value:=.iface 238 (.pointer (some ⟨bo,0,none⟩))
theorem zoN : ((Tryz.prog.info? 238).bind (fun i => i.methods.find? (·.name == "Len"))).map (fun m => (m.path.toList, m.func)) = some ([], some (281, false)) := by kernel_rfl
theorem zmD : ((Tryz.prog.info? 238).bind (fun i => i.methods.find? (·.name == "Less"))).map (fun m => (m.path.toList, m.func)) = some ([], some (282, false)) := by kernel_rfl
theorem zmE : ((Tryz.prog.info? 238).bind (fun i => i.methods.find? (·.name == "Swap"))).map (fun m => (m.path.toList, m.func)) = some ([], some (285, false)) := by kernel_rfl
theorem zfs {name:String} {f:Nat} (hm:((Tryz.prog.info? 238).bind (λi=>i.methods.find? (·.name==name))).map (λm=>(m.path.toList,m.func))=some ([],some (f,false))) {w:World} {bo:Nat} {a:Option Addr} {n c:Nat} (hc:w.cell? ⟨bo,0,none⟩=some (.slice a n c)) (fuel:Nat):
 (method (fuel+1) 238 (.pointer (some ⟨bo,0,none⟩)) name).run Tryz.prog w=.ok (f,.slice a n c) w:=by
 cases hi:Tryz.prog.info? 238 with
 |none=>rw[hi] at hm;simp at hm
 |some i=>
  rw[hi] at hm;simp only[Option.bind_some] at hm;cases hf:i.methods.find? (·.name==name) with
  |none=>rw[hf] at hm;simp at hm
  |some m=>
   rw[hf] at hm;simp at hm;obtain⟨h1,h2⟩:=hm;have hu:=Tryz.underlying238;unfold method;simp[Sem.run_bind,typeInfo,hi,hf,h1,h2,follow,receiverAt,run_underlying hu,Place.get,Sem.run_pure]
   have e : Sem.run Tryz.prog (Builtin.ssaWrapNilChk_ #[238] 238 #[Value.pointer (some { block := bo, off := 0 }), strVal "", strVal ((name.splitOn ".").getLast?.getD name)]) w = .ok (.pointer (some ⟨bo, 0, none⟩)) w := rfl
   rw[e];go_simp
theorem zal.mLen {w : World} {bo base g cap : Nat} {L : List Wy} (h : zal w bo base g cap L) : Sem.run Tryz.prog (method 404 238 (.pointer (some ⟨bo, 0, none⟩)) "Len") w = .ok (281, .slice (some ⟨g, 0, none⟩) L.length cap) w := zfs zoN h.c0 403
theorem zal.mLess {w : World} {bo base g cap : Nat} {L : List Wy} (h : zal w bo base g cap L) : Sem.run Tryz.prog (method 404 238 (.pointer (some ⟨bo, 0, none⟩)) "Less") w = .ok (282, .slice (some ⟨g, 0, none⟩) L.length cap) w := zfs zmD h.c0 403
theorem zal.mSwap {w : World} {bo base g cap : Nat} {L : List Wy} (h : zal w bo base g cap L) : Sem.run Tryz.prog (method 404 238 (.pointer (some ⟨bo, 0, none⟩)) "Swap") w = .ok (285, .slice (some ⟨g, 0, none⟩) L.length cap) w := zfs zmE h.c0 403
theorem zal.swap {w w':World} {bo base g cap i j:Nat} {L:List Wy} (h:zal w bo base g cap L) (hr:zcA w' base g L.length cap (swL L i j)) (k:zd (λx=>x=g) w w'):zal w' bo base g cap (swL L i j):=
 ⟨by rw[zc6];exact(k.block _ h.lt (λe=>h.ne e.symm)).trans h.box,by rw[zc6];exact hr,h.ne,h.hb⟩
theorem zal.drewN {w:World} {bo base g cap:Nat} {L:List Wy} (h:zal w bo base g cap L) (n:Nat):zal (w.drewN n) bo base g cap L:=h.same rfl rfl
section
variable {W:World} {bo base g cap:Nat} {K:List Wy} {A B:Int}
theorem zlh (h:zal W bo base g cap K) (a b:Nat) (hA:A=a) (hB:B=b) (ha:a<K.length) (hb:b<K.length) (hl:(gW K a).b.length<(gW K b).b.length):
 Calls Tryz.prog 282 #[.slice (some ⟨g,0,none⟩) K.length cap,.int .i64 A,.int .i64 B] W λe w'=>e=.returned (.bool true)/\∃q,w'=W.drewN q:=by
 subst hA hB;have:=ztL g cap base K.length K a b W h.row ha hb;rw[decide_eq_true hl] at this;exact this
theorem zli (h:zal W bo base g cap K) (a b:Nat) (hA:A=a) (hB:B=b) (ha:a<K.length) (hb:b<K.length) (hl:¬(gW K a).b.length<(gW K b).b.length):
 Calls Tryz.prog 282 #[.slice (some ⟨g,0,none⟩) K.length cap,.int .i64 A,.int .i64 B] W λe w'=>e=.returned (.bool false)/\∃q,w'=W.drewN q:=by
 subst hA hB;have:=ztL g cap base K.length K a b W h.row ha hb;rw[decide_eq_false hl] at this;exact this
theorem zh4 (h:zal W bo base g cap K) (a b:Nat) (hA:A=a) (hB:B=b) (ha:a<K.length) (hb:b<K.length):
 Calls Tryz.prog 285 #[.slice (some ⟨g,0,none⟩) K.length cap,.int .i64 A,.int .i64 B] W λe w'=>e=.returned (.tuple #[])/\zal w' bo base g cap (swL K a b)/\zd (λx=>x=g) W w':=by
 subst hA hB;refine(zvT g cap base K.length K a b W h.row ha hb).mono ?_;rintro e w' ⟨he,hr,hk⟩;exact⟨he,h.swap hr hk,hk⟩
end
theorem zeZ {K:List Wy} {i n:Nat} (h:¬(2*i+1<n/\(gW K (zb2 K i n)).b.length<(gW K i).b.length)):zeg K i n=K:=by rw[zeg,dif_neg h]
theorem zj0 {K:List Wy} {i n:Nat} (h:2*i+1<n/\(gW K (zb2 K i n)).b.length<(gW K i).b.length):zeg K i n=zeg (swL K i (zb2 K i n)) (zb2 K i n) n:=by rw[zeg,dif_pos h]
def zuz (bo base g cap:Nat) (L:List Wy) (w:World) (e:Ending) (w':World):Prop:=(∃b,e=.returned (.bool b))/\zal w' bo base g cap L/\zd (λx=>x=g) w w'
theorem zvV (bo base g cap n:Nat) (L:List Wy) (w:World) (h:zal w bo base g cap L) (hn:n<=L.length) (hz:L.length<=100000):
 Calls Tryz.prog 237 #[hpV bo,.int .i64 0,.int .i64 n] w (zuz bo base g cap (zeg L 0 n) w):=by
 have HH:=zH h;clear h;go_in;go_wp2_with fail;go_loopw[7] (λvi wr=>∃(i:Nat) (K:List Wy),vi=.int .i64 i/\i<=n/\zal wr bo base g cap K/\K.length=L.length/\zeg K i n=zeg L 0 n/\zd (λx=>x=g) w wr) (λvi _=>n-(intOf vi).toNat)
 case atStart=>exact⟨0,L,rfl,Nat.zero_le _,HH.out,rfl,rfl,zd.refl _ _⟩
 case round=>
  obtain⟨i,K,rfl,hin,hK,hlen,hdn,hkp⟩:=hrel;have HK:=zH hK;have Hdn:=zH hdn;have Hkp:=zH hkp;have Hlen:=zH hlen;have hl1:K.length<=100000:=by omega
  have hl2:n<=K.length:=by omega
  clear hK hdn hkp hlen HH;by_cases c1:2*i+1<n
  ·have ml:=HK.out.mLess;by_cases c2:2*i+2<n
   ·have c2':(2*(i:Int)+1+1<(n:Int)):=by omega
    by_cases l2:(gW K (2*i+2)).b.length<(gW K (2*i+1)).b.length
    ·have HJ:Hid (zb2 K i n=2*i+2):=by show zb2 K i n=_;unfold zb2;rw[if_pos ⟨c2,l2⟩]
     have Hl2:=zH l2;clear l2;go_wp2_with fail;go_at_call 282;refine(zlh HK.out (2*i+2) (2*i+1) (by omega) (by omega) (by omega) (by omega) Hl2.out).mono ?_;rintro e w1 ⟨rfl,q1,rfl⟩;have ml2:=(HK.out.drewN q1).mLess;by_cases l3:(gW K (2*i+2)).b.length<(gW K i).b.length
     ·have Hl3:=zH l3;clear l3;go_wp2_with fail;go_at_call 282;refine(zlh (HK.out.drewN q1) (2*i+2) i (by omega) rfl (by omega) (by omega) Hl3.out).mono ?_;rintro e w2 ⟨rfl,q2,rfl⟩;have ms:=(HK.out.drewN (q1+q2)).mSwap;go_wp2_with fail;go_at_call 285;refine(zh4 (HK.out.drewN (q1+q2)) i (2*i+2) rfl (by omega) (by omega) (by omega)).mono ?_;rintro e w3 ⟨rfl,h3,k3⟩;have H3:=zH h3;have K3:=zH<|(Hkp.out.drewN (q1+q2)).trans k3 (λ_ _ e=>e)
      clear h3 k3;go_wp2_with fail;go_roundw
      case rel=>exact⟨2*i+2,swL K i (2*i+2),by go_num,by omega,H3.out,by rw[zc6];exact Hlen.out,by rw[←Hdn.out,zj0 ⟨c1,by rw[HJ.out];exact Hl3.out⟩,HJ.out],K3.out⟩
      case measure=>simp[intOf];omega
     ·have Hl3:=zH l3;clear l3;go_wp2_with fail;go_at_call 282;refine(zli (HK.out.drewN q1) (2*i+2) i (by omega) rfl (by omega) (by omega) Hl3.out).mono ?_;rintro e w2 ⟨rfl,q2,rfl⟩;go_wp2_with fail;go_ret;refine⟨⟨_,rfl⟩,?_,Hkp.out.drewN (q1+q2)⟩;rw[←Hdn.out,zeZ (λq=>Hl3.out (by have:=q.2;rw[HJ.out] at this;exact this))];exact HK.out.drewN (q1+q2)
    ·have HJ:Hid (zb2 K i n=2*i+1):=by show zb2 K i n=_;unfold zb2;rw[if_neg (λq=>l2 q.2)]
     have Hl2:=zH l2;clear l2;go_wp2_with fail;go_at_call 282;refine(zli HK.out (2*i+2) (2*i+1) (by omega) (by omega) (by omega) (by omega) Hl2.out).mono ?_;rintro e w1 ⟨rfl,q1,rfl⟩;have ml2:=(HK.out.drewN q1).mLess;by_cases l3:(gW K (2*i+1)).b.length<(gW K i).b.length
     ·have Hl3:=zH l3;clear l3;go_wp2_with fail;go_at_call 282;refine(zlh (HK.out.drewN q1) (2*i+1) i (by omega) rfl (by omega) (by omega) Hl3.out).mono ?_;rintro e w2 ⟨rfl,q2,rfl⟩;have ms:=(HK.out.drewN (q1+q2)).mSwap;go_wp2_with fail;go_at_call 285;refine(zh4 (HK.out.drewN (q1+q2)) i (2*i+1) rfl (by omega) (by omega) (by omega)).mono ?_;rintro e w3 ⟨rfl,h3,k3⟩;have H3:=zH h3;have K3:=zH<|(Hkp.out.drewN (q1+q2)).trans k3 (λ_ _ e=>e)
      clear h3 k3;go_wp2_with fail;go_roundw
      case rel=>exact⟨2*i+1,swL K i (2*i+1),by go_num,by omega,H3.out,by rw[zc6];exact Hlen.out,by rw[←Hdn.out,zj0 ⟨c1,by rw[HJ.out];exact Hl3.out⟩,HJ.out],K3.out⟩
      case measure=>simp[intOf];omega
     ·have Hl3:=zH l3;clear l3;go_wp2_with fail;go_at_call 282;refine(zli (HK.out.drewN q1) (2*i+1) i (by omega) rfl (by omega) (by omega) Hl3.out).mono ?_;rintro e w2 ⟨rfl,q2,rfl⟩;go_wp2_with fail;go_ret;refine⟨⟨_,rfl⟩,?_,Hkp.out.drewN (q1+q2)⟩;rw[←Hdn.out,zeZ (λq=>Hl3.out (by have:=q.2;rw[HJ.out] at this;exact this))];exact HK.out.drewN (q1+q2)
   ·have c2':¬(2*(i:Int)+1+1<(n:Int)):=by omega
    have HJ:Hid (zb2 K i n=2*i+1):=by show zb2 K i n=_;unfold zb2;rw[if_neg (λq=>c2 q.1)]
    by_cases l3:(gW K (2*i+1)).b.length<(gW K i).b.length
    ·have Hl3:=zH l3;clear l3;go_wp2_with fail;go_at_call 282;refine(zlh HK.out (2*i+1) i (by omega) rfl (by omega) (by omega) Hl3.out).mono ?_;rintro e w2 ⟨rfl,q2,rfl⟩;have ms:=(HK.out.drewN q2).mSwap;go_wp2_with fail;go_at_call 285;refine(zh4 (HK.out.drewN q2) i (2*i+1) rfl (by omega) (by omega) (by omega)).mono ?_;rintro e w3 ⟨rfl,h3,k3⟩;have H3:=zH h3;have K3:=zH<|(Hkp.out.drewN q2).trans k3 (λ_ _ e=>e)
     clear h3 k3;go_wp2_with fail;go_roundw
     case rel=>exact⟨2*i+1,swL K i (2*i+1),by go_num,by omega,H3.out,by rw[zc6];exact Hlen.out,by rw[←Hdn.out,zj0 ⟨c1,by rw[HJ.out];exact Hl3.out⟩,HJ.out],K3.out⟩
     case measure=>simp[intOf];omega
    ·have Hl3:=zH l3;clear l3;go_wp2_with fail;go_at_call 282;refine(zli HK.out (2*i+1) i (by omega) rfl (by omega) (by omega) Hl3.out).mono ?_;rintro e w2 ⟨rfl,q2,rfl⟩;go_wp2_with fail;go_ret;refine⟨⟨_,rfl⟩,?_,Hkp.out.drewN q2⟩;rw[←Hdn.out,zeZ (λq=>Hl3.out (by have:=q.2;rw[HJ.out] at this;exact this))];exact HK.out.drewN q2
  ·go_wp2_with fail;go_ret;refine⟨⟨_,rfl⟩,?_,Hkp.out⟩;rw[←Hdn.out,zeZ (λq=>c1 q.1)];exact HK.out
theorem znA {K:List Wy} {j:Nat} (h:¬(j≠0/\(gW K j).b.length<(gW K ((j-1)/2)).b.length)):upL K j=K:=by rw[upL,dif_neg h]
theorem zvW {K:List Wy} {j:Nat} (h:j≠0/\(gW K j).b.length<(gW K ((j-1)/2)).b.length):upL K j=upL (swL K ((j-1)/2) j) ((j-1)/2):=by rw[upL,dif_pos h]
theorem zuA {K L:List Wy} {m j0:Nat} (hl:(gW K (m+1)).b.length<(gW K (m/2)).b.length) (h:upL K (m+1)=upL L j0):upL (swL K (m/2) (m+1)) (m/2)=upL L j0:=by
 have e:(m+1-1)/2=m/2:=by omega
 have:=zvW (K:=K) (j:=m+1) ⟨by omega,by rw[e];exact hl⟩;rw[e] at this;rw[←this,h]
theorem zwM (bo : Nat) (w : World) : Sem.run Tryz.prog (method 404 238 (.pointer (some ⟨bo, 0, none⟩)) "Pop") w = .ok (283, .pointer (some ⟨bo, 0, none⟩)) w := by kernel_rfl
theorem zvX (bo : Nat) (w : World) : Sem.run Tryz.prog (method 404 238 (.pointer (some ⟨bo, 0, none⟩)) "Push") w = .ok (284, .pointer (some ⟨bo, 0, none⟩)) w := by kernel_rfl
theorem qUp (bo base g cap j0:Nat) (L:List Wy) (w:World) (h:zal w bo base g cap L) (hj:j0<L.length) (hz:L.length<=100000):
 Calls Tryz.prog 242 #[hpV bo,.int .i64 j0] w λe w'=>e=.returned (.tuple #[])/\zal w' bo base g cap (upL L j0)/\zd (λx=>x=g) w w':=by
 have HH:=zH h;clear h;go_in;go_wp2_with fail;go_loopw[1] (λvj wr=>∃(j:Nat) (K:List Wy),vj=.int .i64 j/\j<L.length/\zal wr bo base g cap K/\K.length=L.length/\upL K j=upL L j0/\zd (λx=>x=g) w wr) (λvj _=>(intOf vj).toNat)
 case atStart=>exact⟨j0,L,rfl,hj,HH.out,rfl,rfl,zd.refl _ _⟩
 case round=>
  obtain⟨j,K,rfl,hjl,hK,hlen,hup,hkp⟩:=hrel;have HK:=zH hK;have Hup:=zH hup;have Hkp:=zH hkp;have Hlen:=zH hlen;have hl1:K.length<=100000:=by omega
  have hl2:j<K.length:=by omega
  clear hK hup hkp hlen HH;by_cases c1:j=0
  ·subst c1;go_wp2_with fail;go_end0;refine⟨rfl,?_,Hkp.out⟩;rw[←Hup.out,znA (λq=>q.1 rfl)];exact HK.out
  ·obtain⟨m,rfl⟩:∃m,j=m+1:=⟨j-1,by omega⟩;have e1:((m+1:Nat):Int)-1=(m:Int):=by omega
   have ml:=HK.out.mLess;have hne:¬((m:Int)/2=(m:Int)+1):=by omega
   have hbe:((m:Int)/2==(m:Int)+1)=false:=by simp;omega
   have e2:(m+1-1)/2=m/2:=by omega
   by_cases l2:(gW K (m+1)).b.length<(gW K (m/2)).b.length
   ·have Hl2:=zH l2;clear l2 e2;go_wp2_with fail;go_at_call 282;refine(zlh HK.out (m+1) (m/2) (by omega) (by omega) (by omega) (by omega) Hl2.out).mono ?_;rintro e w1 ⟨rfl,q1,rfl⟩;have ms:=(HK.out.drewN q1).mSwap;go_wp2_with fail;go_at_call 285;refine(zh4 (HK.out.drewN q1) (m/2) (m+1) (by omega) (by omega) (by omega) (by omega)).mono ?_;rintro e w3 ⟨rfl,h3,k3⟩;have H3:=zH h3;have K3:=zH<|(Hkp.out.drewN q1).trans k3 (λ_ _ e=>e)
    clear h3 k3;go_wp2_with fail;go_roundw
    case rel=>exact⟨m/2,swL K (m/2) (m+1),by go_num,by omega,H3.out,by rw[zc6];exact Hlen.out,zuA Hl2.out Hup.out,K3.out⟩
    case measure=>simp[intOf];omega
   ·have Hl2:=zH l2;have HE2:=zH e2;clear l2 e2;go_wp2_with fail;go_at_call 282;refine(zli HK.out (m+1) (m/2) (by omega) (by omega) (by omega) (by omega) Hl2.out).mono ?_;rintro e w1 ⟨rfl,q1,rfl⟩;go_wp2_with fail;go_end0;refine⟨rfl,?_,Hkp.out.drewN q1⟩;rw[←Hup.out,znA (λq=>Hl2.out (by have:=q.2;rw[HE2.out] at this;exact this))];exact HK.out.drewN q1
theorem zvY (bo base g cap:Nat) (L:List Wy) (w:World) (h:zal w bo base g cap L) (hne:L≠[]) (hz:L.length<=100000):
 Calls Tryz.prog 223 #[hpV bo] w λe w'=>e=.returned (.iface 237 (zbD L).agg)/\zal w' bo base g cap (zcL L)/\zd (λi=>i=bo\/i=g) w w':=by
 have HH:=zH h;have ml:=h.mLen;have ms:=h.mSwap;have hl:1<=L.length:=List.length_pos_iff.2 hne;have mp:=zwM bo;have e1:((L.length-1:Nat):Int)=(L.length:Int)-1:=by omega
 have HE:=zH e1;clear h hne e1;go_in;go_wp2_with (go_at_call 281;refine sM (zvR _ _ _ _) ?_);go_at_call 285;refine(zh4 HH.out 0 (L.length-1) (by omega) (by omega) (by omega) (by omega)).mono ?_;rintro e w1 ⟨rfl,h1,k1⟩;have H1:=zH h1;have K1:=zH k1;clear h1 k1 ml ms;go_wp2_with fail;go_at_call 237;have hd:=zvV bo base g cap (L.length-1) (swL L 0 (L.length-1)) w1 H1.out (by rw[zc6];omega) (by rw[zc6];omega);rw[HE.out] at hd;refine hd.mono ?_;rintro e w2 ⟨⟨b2,rfl⟩,h2,k2⟩;have H2:Hid (zal w2 bo base g cap (zix L)):=h2;have K2:=zH<|K1.out.trans k2 (λ_ _ e=>e)
 clear h2 k2 hd;go_wp2_with fail;go_at_call 283;have hpl:(zix L).length=L.length:=(zi1 (by intro e;rw[e] at hl;simp at hl)).length_eq;refine(zvU bo base g cap (zix L) w2 H2.out (by omega) (by omega)).mono ?_;rintro e w3 ⟨rfl,h3,k3⟩;rw[hpl] at h3 ⊢;have H3:Hid (zal w3 bo base g cap (zcL L)):=h3;have K3:Hid (zd (λi=>i=bo\/i=g) w w3):=(K2.out.mono (λi e=>.inr e)).trans k3 (λ_ _ e=>.inl e);clear h3 k3 hpl;go_wp2_with fail;go_ret;exact⟨rfl,H3.out,K3.out⟩
theorem zuB (bo base g cap:Nat) (L:List Wy) (v:Wy) (w:World) (h:zal w bo base g cap L) (hz:L.length<100000):
 Calls Tryz.prog 227 #[hpV bo,.iface 237 v.agg] w λe w'=>∃g' cap',e=.returned (.tuple #[])/\zal w' bo base g' cap' (zfc L v)/\zd (λi=>i=bo\/i=g) w w'/\(g'=g\/w.heap.size<=g'):=by
 have HH:=zH h;have mp:=zvX bo;clear h;go_in;go_wp2_with fail;go_at_call 284;refine(zuy bo base g cap L v w HH.out (by omega)).mono ?_;rintro e w1 ⟨g1,cap1,rfl,h1,k1,o1⟩;have H1:=zH h1;have K1:=zH k1;have O1:=zH o1;have ml:=h1.mLen;clear h1 k1 o1;have hl:(L ++ [v]).length=L.length+1:=by simp
 rw[hl] at ml;go_wp2_with (go_at_call 281;refine sM (zvR _ _ _ _) ?_);go_at_call 242;refine(qUp bo base g1 cap1 L.length (L ++ [v]) _ H1.out (by omega) (by omega)).mono ?_;rintro e w2 ⟨rfl,h2,k2⟩;have H2:Hid (zal w2 bo base g1 cap1 (zfc L v)):=h2;have K2:=zH<|K1.out.trans k2 (λi hi e=>by
  rcases O1.out with q|q
  ·exact .inr (e.trans q)
  ·omega)
 clear h2 k2;go_wp2_with fail;go_end0;exact⟨g1,cap1,rfl,H2.out,K2.out,O1.out⟩
theorem zlj {v:Int} {m:Nat} (h0:0<=v) (h1:v<m):zap v m=v:=by
 unfold zap
 (repeat' split)<;>omega
theorem zlk {v:Int} {m:Nat} (h0:0<=v) (h1:v<m):ZU (v+1) ((m:Int)-1)=zap (v+1) m:=by
 unfold ZU zap
 (repeat' split)<;>omega
theorem zft (bs bg g N:Nat) (s:Rs) (t:Pt) (x0 x1:Int) (y:Nat) (w:World) (h:zh w bs bg g N s t) (hw:Wf s.W s.H s.G) (hy:y<s.H):
 Calls Tryz.prog 207 #[.pointer (some ⟨bs,0,none⟩),.int .i64 x0,.int .i64 x1,.int .i64 y] w (zV bs bg g N w {s with G:=zaH s.W x0 x1 y (zS s) s.G} t (.tuple #[])):=by
 have HP:=zH h;have c0:=h.f0;clear h;go_in;go_wp2_with fail;have HD:=zH HP.out.drew;have lt:=HP.out.lt;have ng:¬bs=g:=HP.out.ne2;go_region_held3 (λw'=>w'.cell? ⟨bs,0,none⟩=some (.pointer (some ⟨bg,0,none⟩))) (simp[*]) (first|(go_at_call 228;refine(znk bs bg g N s t _ HD.out).mono ?_;rintro e w2 ⟨rfl,hb2⟩;have HP2:=zH<|HD.out.below hb2;have K2:zd (λi=>i=bs\/i=bg\/i=g) w w2:=((zd.refl _ w).drew).thenBelow hb2;have e1:=hb2.cells lt;clear hb2)|(go_at_call 140;refine(zlV bg g s.W s.H N s.G x0 x1 y (zS s) _ HP2.out.gr hw hy).mono ?_;rintro e w3 ⟨rfl,G3,K3⟩;have e2:=keepC K3 HP2.out.lt ng));go_wp2_with fail;go_end0;exact⟨rfl,HP2.out.cells _ (K3.block _ HP2.out.lt ng) G3 rfl ng,K2.trans K3 (λ_ _ h=>Or.inr (Or.inr h))⟩
theorem zi9 (bs bg g N:Nat) (s:Rs) (t:Pt) (w:World) (h:zh w bs bg g N s t) (ok:Rs.Ok {s with pend:=false}):
 Calls Tryz.prog 186 #[.pointer (some ⟨bs,0,none⟩)] w (zV bs bg g N w (zt s) t (.tuple #[])):=by
 have HP:=zH h;have c0:=h.f0;have c2:=h.f2;have c3:=h.f3;have c10:=h.f10;have fz:=h.free;have x0:0<=s.x:=ok.x0;have x1:s.x<s.W:=ok.x1;have y0:0<=s.y:=ok.y0;have y1:s.y<s.H:=ok.y1;have h2:s.H<=20:=ok.h2;have t0:0<=s.top:=ok.t0;have tb:s.top<=s.bot:=ok.tb;have b1:s.bot<s.H:=ok.b1;have HP1:=zH<|h.setPend false
 have K1:zd (λi=>i=bs\/i=bg\/i=g) w (w.setCell ⟨bs,3,none⟩ (.bool false)):=(zd.refl _ w).setCell ⟨bs,3,none⟩ _ (λ_=>Or.inl rfl);clear h ok;by_cases hy:s.y=s.bot
 ·have hq:(s.y==s.bot)=true:=by simp[hy]
  have HL:Hid (zt s={s with G:=zo s.top s.bot 1 (zS s) s.G,pend:=false}):=by unfold zt;exact if_pos hy
  clear hy;go_in;go_wp2_with fail;clear HP c0 c2 c3 c10 fz;generalize w.setCell ⟨bs,3,none⟩ (.bool false)=wa at *;have c0:=HP1.out.f0;have c2:=HP1.out.f2;have c10:=HP1.out.f10;have fz:=HP1.out.free;go_quiet (fail);have HP2:=zH<|HP1.out.drewN nq
  have K2:=K1.drewN nq;generalize wa.drewN nq=wb at *;clear HP1 K1 c0 c2 c10 fz;have c0:=HP2.out.f0;have c2:=HP2.out.f2;have fz:=HP2.out.free;go_wp2_with fail;go_at_call 208;refine(zjL bs bg g N _ t 1 _ HP2.out t0 tb b1).mono ?_;rintro e w3 ⟨rfl,P3,K3⟩;go_wp2_with fail;refine bodyPost_ret (v:=.tuple #[]) (by simp[results,Tryz.results186,go_sem]) rfl ⟨rfl,?_,K2.trans K3 (λ_ _ h=>h)⟩;rw[HL.out];exact P3
 ·have hq:(s.y==s.bot)=false:=by simp[hy]
  have HL:Hid (zt s=ZQ s s.x (s.y+1)):=by unfold zt;exact if_neg hy
  clear hy;go_in;go_wp2_with fail;clear HP c0 c2 c3 c10 fz;generalize w.setCell ⟨bs,3,none⟩ (.bool false)=wa at *;have c0:=HP1.out.f0;have c2:=HP1.out.f2;have c10:=HP1.out.f10;have fz:=HP1.out.free;go_quiet (fail);have HP2:=zH<|HP1.out.drewN nq
  have K2:=K1.drewN nq;generalize wa.drewN nq=wb at *;clear HP1 K1 c0 c2 c10 fz;have c0:=HP2.out.f0;have c2:=HP2.out.f2;have fz:=HP2.out.free;have Hbx:=zH<|zlj x0 x1
  have hby:=zlk (m:=s.H) y0 y1;have hgd:Zi wb.drew bg g s.W s.H N s.G:=HP2.out.gr.same rfl rfl;have Hgd:=zH hgd;clear hgd;go_wp2_with fail;go_region_with (first|(go_at_call 127;refine sM (zbF bg g s.W s.H N s.G _ Hgd.out) ?_)|(go_at_call 138;refine sM (zce _ _ _) ?_));all_goals
   go_end0;rw[zm (s.y+1) (by omega) (by omega),zm ((s.H:Int)-1) (by omega) (by omega),hby];refine⟨rfl,?_,(K2.setCell ⟨bs,2,none⟩ _ (λ_=>Or.inl rfl)).drew⟩;rw[HL.out];have:=(HP2.out.setY (zap (s.y+1) s.H)).drew;unfold ZQ;rw[Hbx.out];exact this
end
section
open Go.RowKit
open Wd (wd)
attribute [local go_sem ↓] Go.wp_at_zero Go.wp_at_succ
theorem zoO {W H:Nat} {G:Nat->Nat->zk} (h:Wf W H G) {x y:Nat} {r:Int} (p:Pn) (hy:y<H) (hr:(wd r=1/\x<W)\/(wd r=2/\x+2<=W)):ZX W H (ziu r p x y G) (zR W H G x y r p):=by
 unfold ziu;rcases hr with⟨hr,hx⟩|⟨hr,hx⟩
 ·refine ZX.trans (zbm h (λa b _ _=>?_) (λa b _ _ _=>?_)) (zdT h hx hy r p hr).symm
  ·rw[hr,Bool.eq_iff_iff,Zv];simp[pt];omega
  ·unfold zdV;rw[hr,if_neg (by decide)]
 ·refine ZX.trans (zbm h (λa b _ _=>?_) (λa b _ _ _=>?_)) (zcS h (by omega) hy r p hr).symm
  ·rw[hr,Bool.eq_iff_iff,Zv];simp[pt2,pt];omega
  ·unfold zdV wide;rw[hr,if_pos rfl]
theorem zvZ (bg g W H N:Nat) (G:Nat->Nat->zk) (x y r:Int) (p:Pn) (w:World) (h:Zi w bg g W H N G) (hw:Wf W H G) (x0:0<=x) (y0:0<=y) (hy:y<H) (hr:(wd r=1/\x<W)\/(wd r=2/\x+2<=W)):
 Calls Tryz.prog 168 #[.pointer (some ⟨bg,0,none⟩),.int .i64 x,.int .i64 y,.int .i32 r,p.agg] w λe w'=>e=.returned (.tuple #[])/\Zi w' bg g W H N (zR W H G x y r p)/\zd (λi=>i=g) w w':=by
 obtain⟨x,rfl⟩:=Int.eq_ofNat_of_zero_le x0;obtain⟨y,rfl⟩:=Int.eq_ofNat_of_zero_le y0;have hr':(wd r=1/\x<W)\/(wd r=2/\x+2<=W):=by omega
 have e:=zoO hw p (show y<H by omega) hr';rcases hr' with⟨hr,hx⟩|⟨hr,hx⟩
 ·refine(ztu bg g W H N G x y r p w h hw (by omega) hr hx).mono ?_;rintro _ w' ⟨rfl,G1,K1⟩;exact⟨rfl,G1.congr e,K1⟩
 ·refine(ztt bg g W H N G x y r p w h hw (by omega) hr hx).mono ?_;rintro _ w' ⟨rfl,G1,K1⟩;exact⟨rfl,G1.congr e,K1⟩
theorem zsS {s:Rs} {k:Int} (hp:s.pend=false) (hx:s.x+k<=s.W):zcr s k={s with pend:=(s.x+k==(s.W:Int)),x:=ZU (s.x+k) ((s.W:Int)-1)}:=by
 unfold zcr ZU;by_cases h:(s.W:Int)<=s.x+k
 ·have e:s.x+k=s.W:=by omega
  rw[if_pos h,if_pos (by omega),e];simp
 ·have e:¬s.x+k=s.W:=by omega
  rw[if_neg h,if_neg (by omega)];have:(s.x+k==(s.W:Int))=false:=by simpa using e
  rw[this,←hp]
theorem zuC {s:Rs} {r k:Int} (hk:wd r=k) (hk1:k=1\/k=2) (hkW:k<=s.W):zba s r=zcr (za8 (zaa s k) r) k:=by
 unfold zba ze1 zeq;rw[if_neg (by omega),if_neg (by omega),if_neg (by omega),hk]
theorem zuD {s:Rs} {r:Int} (hk:wd r=2) (hW:s.W=1):zba s r=zcr (za8 (zaa s 1) 32) 1:=by
 unfold zba ze1 zeq;rw[if_neg (by omega),if_pos ⟨hk,hW⟩,if_pos ⟨hk,hW⟩]
theorem zv0 (bs bg g N:Nat) (s:Rs) (t:Pt) (r:Int) (w:World) (h:zh w bs bg g N s t) (hk:wd r=0):
 Calls Tryz.prog 187 #[.pointer (some ⟨bs,0,none⟩),.int .i32 r] w (zV bs bg g N w (zba s r) t (.tuple #[])):=by
 have HP:=zH h;have Hp:Hid (zba s r={s with odd:=wrap64 (s.odd+1)}):=by show _=_;unfold zba;rw[if_pos hk]
 clear h;go_in;go_wp2_with (first|(go_at_call 129;refine sM (Wd.lettersWidth _ _) ?_));refine bodyPost_ret (v:=.tuple #[]) (by simp[results,Tryz.results187,go_sem]) rfl ⟨rfl,?_,zd.refl _ _⟩;rw[Hp.out];exact HP.out.congr _ rfl rfl rfl (λ_ _ _ _=>rfl)
theorem zv1 (bs bg g N:Nat) (s:Rs) (t:Pt) (r:Int) (w:World) (h:zh w bs bg g N s t) (ok:s.Ok):
 Calls Tryz.prog 187 #[.pointer (some ⟨bs,0,none⟩),.int .i32 r] w (zV bs bg g N w (zba s r) t (.tuple #[])):=by
 by_cases h0:wd r=0
 ·exact zv0 bs bg g N s t r w h h0
 have x0:=ok.x0;have x1:=ok.x1;have w1:=ok.w1;have w2:=ok.w2;obtain⟨K,R,e1,hR,k12,way⟩:∃K R:Int,zba s r=zcr (za8 (zaa s K) R) K/\wd R=K/\(K=1\/K=2)/\(¬K=0/\¬(s.W:Int)<K/\wd r=K/\r=R\/K<=s.W/\wd r=2/\(s.W:Int)<2/\K=1/\R=32):=by
  have hwd:=Wd.wd_cases r;by_cases hB:wd r=2/\s.W=1
  ·exact⟨1,32,zuD hB.1 hB.2,ze6,.inl rfl,.inr ⟨by omega,hB.1,by omega,rfl,rfl⟩⟩
  ·exact⟨wd r,r,zuC rfl (by omega) (by omega),rfl,by omega,.inl ⟨h0,by omega,rfl,rfl⟩⟩
 obtain⟨s1,e2,ok1,eW,ep,ex,br⟩:∃s1,zaa s K=s1/\s1.Ok/\s1.W=s.W/\s1.pend=false/\s1.x+K<=s.W/\(s1=s/\s.pend=false/\¬(s.W:Int)<s.x+K\/s1=zt {s with x:=0}/\(s.pend=true\/s.pend=false/\(s.W:Int)<s.x+K)):=by
  have L:(zt {s with x:=0}).Ok/\(zt {s with x:=0}).W=s.W/\(zt {s with x:=0}).pend=false/\(zt {s with x:=0}).x+K<=s.W:=by
   refine⟨zpy ok,zvs _,znc _,?_⟩;have:(zt {s with x:=0}).x=0:=by
    rcases zvt {s with x:=0} with e|e
    ·exact e
    ·rw[e];exact zlj (Int.le_refl 0) (by show(0:Int)<s.W;omega)
   omega
  cases hp:s.pend
  ·by_cases hx:s.x+K<=s.W
   ·exact⟨s,if_neg (by simp[zb8,hp];omega),ok,rfl,hp,hx,.inl ⟨rfl,rfl,by omega⟩⟩
   ·exact⟨_,if_pos (by simp[zb8,hp];omega),L.1,L.2.1,L.2.2.1,L.2.2.2,.inr ⟨rfl,.inr ⟨rfl,by omega⟩⟩⟩
  ·exact⟨_,if_pos (by simp[zb8,hp]),L.1,L.2.1,L.2.2.1,L.2.2.2,.inr ⟨rfl,.inl rfl⟩⟩
 rw[e1,e2];have Hr:Hid ((wd R=1/\s1.x<s1.W)\/(wd R=2/\s1.x+2<=s1.W)):=by show _\/_;omega
 have Hst:Hid (zcr (za8 s1 R) K={za8 s1 R with pend:=(s1.x+K==(s.W:Int)),x:=ZU (s1.x+K) ((s.W:Int)-1)}):=by
  show _=_;rw[←eW];exact zsS (s:=za8 s1 R) ep (by show s1.x+K<=s1.W;omega)
 have HP:=zH h;have Hok:=zH ok;have Hok1:=zH ok1;have c0:=h.f0;have c1:=h.f1;have c3:=h.f3;have fz:=h.free;clear h ok e1 e2 hR ok1 eW ep ex h0;rcases way with⟨k0,kW,hk,rfl⟩|⟨kW,hk,hW1,rfl,rfl⟩<;>rcases br with⟨e,hp,hx'⟩|⟨e,hp|⟨hp,hx'⟩⟩;all_goals first|omega|as_aux_lemma=>
  have He:=zH e;rw[hp] at c3;clear e;go_in;go_wp2_with (first|(go_at_call 129;refine sM (Wd.lettersWidth _ _) ?_)|(go_at_call 126;refine sM (zcC bg g s.W s.H N s.G _ HP.out.gr) ?_));first
   |(go_at_call 186
     refine(zi9 bs bg g N {s with x:=0} t _ (HP.out.setX 0) (zpx Hok.out)).mono ?_;rintro e wa ⟨rfl,P1,K0⟩;have K1:=((zd.refl _ w).setCell ⟨bs,1,none⟩ _ (λ_=>Or.inl rfl)).trans K0 (λ_ _ h=>h);rw[←He.out] at P1;have HP1:=zH P1;clear c0 c1 c3 fz HP K0 P1;go_wp2_with fail)
   |(have K1:zd (λi=>i=bs\/i=bg\/i=g) w w:=zd.refl _ _
     have HP1:Hid (zh w bs bg g N s1 t):=by rw[He.out];exact HP
     clear c0 c1 c3 fz HP)
  clear x0 x1;have x0:=Hok1.out.x0;have x1:=Hok1.out.x1;have c0:=HP1.out.f0;have c1:=HP1.out.f1;have c2:=HP1.out.f2;have c4:=HP1.out.f4;have c5:=HP1.out.f5;have c6:=HP1.out.f6;have c7:=HP1.out.f7;have c8:=HP1.out.f8;have HD:=zH HP1.out.drew;have lt:=HP1.out.lt;have ng:¬bs=g:=HP1.out.ne2;go_region_held3 (λw'=>w'.cell? ⟨bs,0,none⟩=some (.pointer (some ⟨bg,0,none⟩))/\w'.cell? ⟨bs,1,none⟩=some (.int .i64 s1.x)/\w'.cell? ⟨bs,2,none⟩=some (.int .i64 s1.y)/\w'.cell? ⟨bs,4,none⟩=some (.int .i64 s1.pen.f)/\w'.cell? ⟨bs,5,none⟩=some (.int .i64 s1.pen.b)/\w'.cell? ⟨bs,6,none⟩=some (.bool s1.pen.bo)/\w'.cell? ⟨bs,7,none⟩=some (.bool s1.pen.un)/\w'.cell? ⟨bs,8,none⟩=some (.bool s1.pen.re)) (simp[*]) (first|(go_at_call 168;refine(zvZ bg g s1.W s1.H N s1.G s1.x s1.y _ s1.pen _ HD.out.gr Hok1.out.wf Hok1.out.x0 Hok1.out.y0 Hok1.out.y1 Hr.out).mono ?_;rintro e w3 ⟨rfl,G3,K3⟩;have e2:=keepC K3 lt ng));first|have HP3:=zH (HD.out.cells (za8 s1 r) (K3.block _ lt ng) G3 rfl ng)|have HP3:=zH (HD.out.cells (za8 s1 R) (K3.block _ lt ng) G3 rfl ng)|have HP3:=zH (HD.out.cells (za8 s1 32) (K3.block _ lt ng) G3 rfl ng)
  have K4:=(K1.drew).trans K3 (λ_ _ h=>Or.inr (Or.inr h));clear HD HP1 e2 G3 K3 K1 lt c0 c1 c2 c4 c5 c6 c7 c8;have c1:w3.cell? ⟨bs,1,none⟩=some (.int .i64 s1.x):=HP3.out.f1;have c3:w3.cell? ⟨bs,3,none⟩=some (.bool s1.pend):=HP3.out.f3;have fz:=HP3.out.free;have x40:=Hok1.out.w2;go_wp2_with (first|(go_at_call 138;refine sM (zce _ _ _) ?_));go_end0;refine⟨rfl,?_,(K4.setCell ⟨bs,3,none⟩ _ (λ_=>Or.inl rfl)).setCell ⟨bs,1,none⟩ _ (λ_=>Or.inl rfl)⟩;rw[Hst.out];exact(HP3.out.setPend _).setX _
end
end Go.Proofs.YtjlfibhbfdckpaaGreatDoor

import Derived.Test.YtjlfibhbfdckpaaGreatDoorV23
import Derived.Shelf.SlicesE.Delete
import Derived.Lib.RowBridge
import Derived.Shelf.Spec.SlicesInsert
namespace Go.Proofs.YtjlfibhbfdckpaaGreatDoor
set_option maxHeartbeats 64000000
set_option maxRecDepth 100000
section
open Go.RowKit Go.Lib Go.Sort Go.Shelf
attribute [local go_sem ↓] Go.wp_at_zero Go.wp_at_succ
def zpL:Go.Shelf.Ren:=⟨fun|45=>171|n=>n,fun|22=>129|23=>111|3=>3|4=>4|0=>0|n=>n,fun|n=>n⟩
theorem zt7:Go.Proofs.SlLaysE.n45 Tryz.prog zpL:={
 mixed:=by kernel_rfl
 f45:=⟨Tryz.f171.name,by decide,Tryz.func171.trans (congrArg some (by kernel_rfl))⟩
 t0:=Tryz.underlying0
 a0:=Tryz.isAgg0
 z0:=Tryz.sizeOf0
 v0:=Tryz.zeroValue0
 t3:=Tryz.underlying3
 a3:=Tryz.isAgg3
 z3:=Tryz.sizeOf3
 v3:=Tryz.zeroValue3
 t4:=Tryz.underlying4
 a4:=Tryz.isAgg4
 z4:=Tryz.sizeOf4
 v4:=Tryz.zeroValue4
 t22:=Tryz.underlying129
 a22:=Tryz.isAgg129
 z22:=Tryz.sizeOf129
 v22:=Tryz.zeroValue129
 a23:=Tryz.isAgg111
 z23:=Tryz.sizeOf111}
theorem zcZ {b:Nat} {e:TypeId}:∀(vs:List Value) (o:Nat) (w:World) (cur:Array Value),w.heap[b]?=some (.cells cur e)->o+vs.length<=cur.size →
 ∃cur':Array Value,(w.setCells b o vs).heap[b]?=some (.cells cur' e)/\cur'.size=cur.size/\cur'.toList=cur.toList.take o++vs++cur.toList.drop (o+vs.length):=by
 intro vs;induction vs with
 |nil=>intro o w cur h _;exact⟨cur,h,rfl,by simp⟩
 |cons v r ih=>
  intro o w cur h hl;simp only[List.length_cons] at hl;obtain⟨cur',h1,h2,h3⟩:=ih (o+1) (w.setCell ⟨b,o,none⟩ v) (cur.setIfInBounds o v) (zbf h v) (by simp;omega);refine⟨cur',h1,by rw[h2];simp,?_⟩;rw[h3,Array.toList_setIfInBounds,List.length_cons];have e1:(cur.toList.set o v).take (o+1)=cur.toList.take o ++ [v]:=by
   rw[List.take_add_one,List.take_set_of_le (by omega),List.getElem?_set_self (by simp;omega)];rfl
  have e2:(cur.toList.set o v).drop (o+1+r.length)=cur.toList.drop (o+(r.length+1)):=by
   rw[List.drop_set_of_lt (by omega)];congr 1;omega
  rw[e1,e2];simp
theorem zr7 (ib cap j:Nat) (ads:List (Option Addr)) (w:World) (hrow:w.ownsRow 2 111 1 (.slice (some ⟨ib,0,none⟩) ads.length cap) ads.length (ads.map Value.pointer)) (hj:j<ads.length):
 Calls Tryz.prog 171 #[.slice (some ⟨ib,0,none⟩) ads.length cap,.int .i64 j,.int .i64 (j+1)] w λe w'=>e=.returned (.slice (some ⟨ib,0,none⟩) (ads.length-1) cap)/\w'.ownsRow 2 111 1 (.slice (some ⟨ib,0,none⟩) (ads.length-1) cap) (ads.length-1) ((ads.eraseIdx j).map Value.pointer)/\zd (λi=>i=ib) w w':=by
 obtain⟨hl,hc⟩:=hrow;rcases hc with⟨h0,_⟩|⟨g,cap',cur,hv,hb,hg,hn,hm,hs,ht⟩
 ·simp at h0
 ·obtain⟨rfl,rfl⟩:ib=g/\cap=cap':=by simpa using hv
  obtain⟨ti,i1,i2,i3,i4⟩:=info_parts zjE;rw[Nat.mul_one] at hs ht;have hcell:∀k,k<ads.length->cur[k]?=(ads.map Value.pointer)[k]?:=λk hk=>by
   rw[←ht,List.getElem?_take_of_lt hk,Array.getElem?_toList]
  have hH:Holds Value.pointer w ib 0 ads.toArray:=by
   intro k hk;have hk':k<ads.length:=by simpa using hk
   rw[Nat.zero_add,za hg,hcell k hk',ze hg];simp[hk']
  have hd:=AnyE.slices_Delete zt7 Value.pointer (λ_=>rfl) none (λw=>Tryz.zeroValue111 w) ti i1 i3 ib 0 cap j (j+1) ads.toArray w hH (by simpa using hn) hm (by omega) (by simp;omega);rw[show zpL.f 45=171 from rfl,List.size_toArray,show((j+1:Nat):Int)=(j:Int)+1 by omega] at hd;refine hd.mono ?_;rintro e w' ⟨rfl,q,rfl⟩;have hys:(ads.take j++ads.drop (j+1)++List.replicate (j+1-j) none).length=ads.toArray.size:=by simp;omega
  have hW:=putRow_eq_setCells Value.pointer w ib 0 ads.toArray (ads.take j++ads.drop (j+1)++List.replicate (j+1-j) none) q hH hys;rw[show ads.toArray.toList=ads from rfl,hW];have hlen:((ads.take j++ads.drop (j+1)++List.replicate (j+1-j) none).map Value.pointer).length=ads.length:=by simp;omega
  obtain⟨cur',k1,k2,k3⟩:=zcZ ((ads.take j++ads.drop (j+1)++List.replicate (j+1-j) none).map Value.pointer) 0 (w.drewN q) cur hg (by rw[hlen];omega);refine⟨by simp,⟨?_,.inr ⟨ib,cap,cur',rfl,hb,k1,by omega,hm,by omega,?_⟩⟩,?_⟩
  ·rw[List.length_map,List.length_eraseIdx_of_lt hj];omega
  ·rw[k3,List.eraseIdx_eq_take_drop_succ,Nat.mul_one];have hx:((ads.take j++ads.drop (j+1)).map Value.pointer).length=ads.length-1:=by simp;omega
   rw[List.map_append (l₁:=ads.take j++ads.drop (j+1))];simp only[List.take_zero,List.nil_append,List.append_assoc];rw[←hx,List.take_left' rfl]
  ·exact zd.setCells (F:=λi=>i=ib) ib (λ_=>rfl) _ 0 ((zd.refl (λi=>i=ib) w).drewN q)
theorem zt8 (ib cap j bv:Nat) (bs:List Nat) (w:World) (hj:bs[j]?=some bv) (hne:∀i b,i<j->bs[i]?=some b->b≠bv) (hcap:bs.length<=cap) (hmax:cap<=9223372036854775807) (hc:∀i b,bs[i]?=some b->w.cell? ⟨ib,i,none⟩=some (.pointer (some ⟨b,0,none⟩))) (hb:∀b∈bs,∃C,w.heap[b]?=some (.cells C 131)):
 Calls Tryz.prog 170 #[.slice (some ⟨ib,0,none⟩) bs.length cap,.pointer (some ⟨bv,0,none⟩)] w λe w'=>e=.returned (.int .i64 j)/\w'=w:=by
 have hjl:=(List.getElem?_eq_some_iff.1 hj).1;have Hj:=zH hj;have Hne:=zH hne;have Hc:=zH hc;have Hb:=zH hb;clear hj hne hc hb;go_in;go_wp2_with fail;go_loopw[8] (λi wr=>∃k:Nat,k<=j/\i=.int .i64 k/\wr=w) (λi _=>bs.length-(RowKit.intOf i).toNat)
 case atStart=>exact⟨0,by omega,rfl,rfl⟩
 case round=>
  obtain⟨k,hk,rfl,rfl⟩:=hrel;have hkl:k<bs.length:=by omega
  obtain⟨b,hbk⟩:∃b,bs[k]?=some b:=⟨_,List.getElem?_eq_getElem hkl⟩;have hcell:=Hc.out k b hbk;by_cases he:k=j
  ·subst he;obtain rfl:b=bv:=by have:=Hj.out;rw[hbk] at this;simpa using this
   have heq:=zhv ⟨b,0,none⟩ wr;clear hbk;go_wp2_with fail;go_ret;exact⟨rfl,rfl⟩
  ·have hkj:k<j:=by omega
   obtain⟨C1,h1⟩:=Hb.out b (List.mem_of_getElem? hbk);obtain⟨C2,h2⟩:=Hb.out bv (List.mem_of_getElem? Hj.out);have heq:=zf6 (a:=⟨bv,0,none⟩) (b:=⟨b,0,none⟩) wr (by intro e;injection e with e1;exact Hne.out k b hkj hbk e1.symm) h2 h1;clear hbk h1 h2;go_wp2_with fail;go_roundw
   case rel=>exact⟨k+1,by omega,by simp,trivial⟩
   case measure=>simp[RowKit.intOf];omega
theorem zfa {α β:Type} (f:α->β) (l:List α) (j:Nat):(l.map f).eraseIdx j=(l.eraseIdx j).map f:=by
 rw[List.eraseIdx_eq_take_drop_succ,List.eraseIdx_eq_take_drop_succ,List.map_append,List.map_take,List.map_drop]
abbrev zhx (b:Nat):Value:=.pointer (some ⟨b,0,none⟩)
theorem zt9 (u v:Wn) (bu bv cu cv ib cap j:Nat) (pv:Option Addr) (su:Value) (bs:List Nat) (w:World) (hU:w.heap[bu]?=some (.cells (Z8 u (some ⟨bv,0,none⟩) cu su) 131)) (hV:w.heap[bv]?=some (.cells (Z8 v pv cv (.slice (some ⟨ib,0,none⟩) bs.length cap)) 131))
 (hrow:w.ownsRow 2 111 1 (.slice (some ⟨ib,0,none⟩) bs.length cap) bs.length (bs.map zhx)) (hj:bs[j]?=some bu) (hne:∀i b,i<j->bs[i]?=some b->b≠bu) (hb:∀b∈bs,∃C,w.heap[b]?=some (.cells C 131)) (n2:ib≠bu) (n3:ib≠bv) (hk:bs.length<=100):
 Calls Tryz.prog 152 #[.pointer (some ⟨bu,0,none⟩)] w λe w'=>e=.returned (.tuple #[])/\w'.heap[bv]?=some (.cells (Z8 v pv cv (.slice (some ⟨ib,0,none⟩) (bs.length-1) cap)) 131)/\w'.ownsRow 2 111 1 (.slice (some ⟨ib,0,none⟩) (bs.length-1) cap) (bs.length-1) ((bs.eraseIdx j).map zhx)/\zd (λi=>i=bv\/i=ib) w w':=by
 have hjl:=(List.getElem?_eq_some_iff.1 hj).1;have lu:=(Array.getElem?_eq_some_iff.1 hU).1;have lv:=(Array.getElem?_eq_some_iff.1 hV).1;have c1:w.cell? ⟨bu,1,none⟩=some (.pointer (some ⟨bv,0,none⟩)):=za hU 1;have c6:w.cell? ⟨bv,6,none⟩=some (.slice (some ⟨ib,0,none⟩) bs.length cap):=za hV 6;have f6:=ze hV 6;have Hidx:Hid (Calls Tryz.prog 170 #[.slice (some ⟨ib,0,none⟩) bs.length cap,.pointer (some ⟨bu,0,none⟩)] w λe w'=>e=.returned (.int .i64 j)/\w'=w):=by
  have ho:=hrow;rcases ho.2 with⟨h0,_⟩|⟨g,cap',cur,hv,_,hg,hn,hm,hs,ht⟩
  ·simp at h0
  ·obtain⟨rfl,rfl⟩:ib=g/\cap=cap':=by simpa using hv
   refine zt8 ib cap j bu bs w hj hne hn hm (λi b hib=>?_) hb;rw[Nat.mul_one] at ht;have hil:=(List.getElem?_eq_some_iff.1 hib).1;rw[za hg,←Array.getElem?_toList,←List.getElem?_take_of_lt hil,ht];simp[hib]
 have Hdel:Hid (∀W:World,W.ownsRow 2 111 1 (.slice (some ⟨ib,0,none⟩) bs.length cap) bs.length (bs.map zhx)->Calls Tryz.prog 171 #[.slice (some ⟨ib,0,none⟩) bs.length cap,.int .i64 j,.int .i64 (j+1)] W λe w'=>e=.returned (.slice (some ⟨ib,0,none⟩) (bs.length-1) cap)/\w'.ownsRow 2 111 1 (.slice (some ⟨ib,0,none⟩) (bs.length-1) cap) (bs.length-1) ((bs.eraseIdx j).map zhx)/\zd (λi=>i=ib) W w'):=by
  intro W hW;have:=zr7 ib cap j (bs.map (λb=>some ⟨b,0,none⟩)) W (by simpa[Function.comp_def] using hW) (by simpa using hjl);simp only[List.length_map,zfa,List.map_map,Function.comp_def] at this;exact this
 have HU:=zH hU;have HV:=zH hV;have Hrow:=zH hrow;have hwj:IntKind.i64.wrap ((j:Int)+1)=(j:Int)+1:=zm _ (by omega) (by omega);clear hU hV hrow hj hne hb;go_in;go_wp2_with (first|(go_at_call 170;refine sM Hidx.out ?_));go_region_with (first|(go_at_call 171;refine(Hdel.out w.drew (zx (w':=w.drew) Hrow.out (λ_ _=>rfl))).mono ?_;rintro e wb ⟨rfl,R2,K2⟩;have HR:=zH<|R2;have V2:=(K2.block _ lv (λe=>n3 e.symm)).trans HV.out;have U2:=(K2.block _ lu (λe=>n2 e.symm)).trans HU.out;have d1:wb.cell? ⟨bu,1,none⟩=some (.pointer (some ⟨bv,0,none⟩)):=za U2 1;have d6:wb.cell? ⟨bv,6,none⟩=some (.slice (some ⟨ib,0,none⟩) bs.length cap):=za V2 6;have e6:=ze V2 6;have HV2:=zH<|V2;have HK:Hid (zd (λi=>i=ib) w wb):=⟨K2.os,K2.tape,K2.output,K2.size,K2.block⟩;clear R2 V2 U2 K2));all_goals
  go_wp2_with fail;go_end0;refine⟨rfl,zbf HV2.out _,zx HR.out (λi hi=>Below.heap_setCell _ _ _ _ (λe=>n3 ((show ib=i from(by simpa[Value.ownBlock] using hi)).trans e))),?_⟩;exact(HK.out.mono (λi h=>Or.inr h)).setCell ⟨bv,6,none⟩ _ (λ_=>Or.inl rfl)
end
section
open Go.RowKit
attribute [local go_sem ↓] Go.wp_at_zero Go.wp_at_succ
def zG (L:List Wn) (n:Int):List Wn:=L.filter (λu=>decide (u.n≠n))
theorem Za {L:List Wn} {n:Int} {u:Wn}:u∈zG L n↔u∈L/\u.n≠n:=by simp[zG]
theorem zc0 (L:List Wn) (n m:Int):zy (zG L n) m=zG (zy L m) n:=by
 unfold zy zG;rw[List.filter_filter,List.filter_filter];refine List.filter_congr λu _=>?_;rw[Bool.and_comm]
theorem zdZ {L:List Wn} {n:Int} (h:∀u∈L,u.n≠n):zG L n=L:=List.filter_eq_self.2 (λu hu=>by simpa using h u hu)
theorem zfk {l:List Wn} (nd:(l.map Wn.n).Nodup) {v:Wn} (hv:v∈l):∃j,l[j]?=some v/\(∀i u,i<j->l[i]?=some u->u.n≠v.n)/\zG l v.n=l.eraseIdx j:=by
 induction l with
 |nil=>simp at hv
 |cons a t ih=>
  rw[List.map_cons,List.nodup_cons] at nd;by_cases e:a.n=v.n
  ·have:a=v:=by
    rcases List.mem_cons.1 hv with rfl|h
    ·rfl
    ·exact absurd (List.mem_map.2 ⟨v,h,e.symm⟩) nd.1
   subst this;refine⟨0,rfl,λi u hi=>by omega,?_⟩;unfold zG;rw[List.filter_cons_of_neg (by simp)];exact zdZ (λu hu eu=>nd.1 (List.mem_map.2 ⟨u,hu,eu⟩))
  ·have hv':v∈t:=by
    rcases List.mem_cons.1 hv with rfl|h
    ·exact absurd rfl e
    ·exact h
   obtain⟨j,h1,h2,h3⟩:=ih nd.2 hv';refine⟨j+1,h1,λi u hi hu=>?_,?_⟩
   ·cases i with
    |zero=>
      obtain rfl:a=u:=by simpa using hu
      exact e
    |succ i=>exact h2 i u (by omega) hu
   ·unfold zG at h3 ⊢;rw[List.filter_cons_of_pos (by simpa using e),h3];rfl
def Mm.setS (M:Mm) (n:Int) (v:Value):Mm:={M with s:=Zo M.s n v}
section
variable {M:Mm} {L:List Wn} {last:Int} {N:Nat} {s:Rs} {t:Pt}
theorem zdB {n:Int} {sp:Value} (h:sp.ownBlock=(M.s n).ownBlock) (p:Pl):(M.setS n sp).blk p=M.blk p:=by
 cases p with
 |top k=>rfl
 |win m k=>
  match k with
  |0=>rfl
  |1=>rfl
  |2=>rfl
  |k+3=>
   show(Zo M.s n sp m).ownBlock=(M.s m).ownBlock;by_cases e:m=n
   ·subst e;rw[zD];exact h
   ·rw[zn _ _ e]
theorem zjI {L1:List Wn} (hs:∀u∈L1,u∈L) {i:Nat} (h:M.own L1 i):M.own L i:=by
 obtain⟨p,hp,e⟩:=h;refine⟨p,?_,e⟩;cases p with
 |top k=>exact hp
 |win n k=>obtain⟨a,u,hu,b⟩:=hp;exact⟨a,u,hs u hu,b⟩
theorem zni {L1:List Wn} (hs:∀u∈L1,u∈L) (h:M.inj L):M.inj L1:=by
 have ok:∀p:Pl,p.ok L1->p.ok L:=λp hp=>by
  cases p with
  |top k=>exact hp
  |win n k=>obtain⟨a,u,hu,b⟩:=hp;exact⟨a,u,hs u hu,b⟩
 exact λp q i hp hq=>h p q i (ok p hp) (ok q hq)
theorem znj (M:Mm) (l:List Wn):M.ptrs l=(l.map (λu=>M.b u.n)).map zhx:=by simp[Mm.ptrs,zhx,Function.comp_def]
def ztG (M:Mm) (L:List Wn) (last:Int) (N:Nat) (s:Rs) (t:Pt) (w:World) (v o:Wn) (e:Ending) (w':World):Prop:=
 ∃sp,e=.returned (.tuple #[])/\zI w' (M.setS o.n sp) (zG L v.n) last N s t/\Z9 w' v (M.b v.n) (M.c v.n) (M.g v.n) (M.pp v.par) (M.s v.n) (M.ptrs (zy L v.n))/\zd (M.own L) w w'/\sp.ownBlock=(M.s o.n).ownBlock/\∃ib cap,sp=.slice (some ⟨ib,0,none⟩) ((zy L o.n).length-1) cap/\(zy L o.n).length<=cap
theorem zjJ (ok:ZK L last) (w:World) (h:zI w M L last N s t) (v o:Wn) (hv:v∈L) (ho:o∈L) (hp:v.par=o.n) (hvo:v.n≠o.n):
 Calls Tryz.prog 152 #[M.ptr v.n] w (ztG M L last N s t w v o):=by
 obtain⟨rk,K,T⟩:=ok.tree;have hvk:=Ze.2 ⟨hv,hp⟩;obtain⟨j,hj,hjm,hje⟩:=zfk (zna T.nd o.n) hvk;have hV:=h.win v hv;have hO:=h.win o ho;have hon:=T.pos ho;rw[show M.pp v.par=some ⟨M.b o.n,0,none⟩ by rw[hp];unfold Mm.pp;rw[if_neg (by omega)]] at hV;have hlen:(zy L o.n).length<=L.length:=List.length_filter_le _ _;have hl16:=ok.len;have hkl:∀u∈zy L o.n,u∈L:=λu hu=>(Ze.1 hu).1;have hrow:=hO.row;rw[znj] at hrow;obtain⟨ib,cap,hsv⟩:∃ib cap,M.s o.n=.slice (some ⟨ib,0,none⟩) (zy L o.n).length cap:=by
  rcases hrow.2 with⟨_,h0⟩|⟨g,cap,cur,e,_⟩
  ·have:(zy L o.n).length=0:=by simpa using h0
   rw[List.length_eq_zero_iff.1 this] at hvk;simp at hvk
  ·exact⟨g,cap,by simpa using e⟩
 have hib:(M.s o.n).ownBlock=some ib:=by rw[hsv];rfl
 have hroom:(zy L o.n).length<=cap:=by
  rcases hrow.2 with⟨e,_⟩|⟨g,cap',cur,e,_,_,hn,_⟩
  ·rw[hsv] at e;simp at e
  ·rw[hsv] at e;obtain⟨_,rfl⟩:ib=g/\cap=cap':=by simpa using e
   simpa using hn
 have hbl:((zy L o.n).map (λu=>M.b u.n)).length=(zy L o.n).length:=by simp
 have n2:ib≠M.b v.n:=λe=>by
  have:=h.inj (.win o.n 3) (.win v.n 0) ib ⟨by omega,o,ho,rfl⟩ ⟨by omega,v,hv,rfl⟩ hib (by rw[e];rfl);simp at this
 have n3:ib≠M.b o.n:=λe=>by
  have:=h.inj (.win o.n 3) (.win o.n 0) ib ⟨by omega,o,ho,rfl⟩ ⟨by omega,o,ho,rfl⟩ hib (by rw[e];rfl);simp at this
 have hw:=zt9 v o (M.b v.n) (M.b o.n) (M.c v.n) (M.c o.n) ib cap j (M.pp o.par) (M.s v.n) ((zy L o.n).map (λu=>M.b u.n)) w hV.blk (by rw[hbl,←hsv];exact hO.blk)
  (by rw[hbl,←hsv];simpa using hrow) (by simp[hj]) (λi b hi hb=>by
    obtain⟨u,hu,rfl⟩:∃u,(zy L o.n)[i]?=some u/\M.b u.n=b:=by simpa using hb
    exact λe=>hjm i u hi hu (h.b_inj (hkl u (List.mem_of_getElem? hu)) hv e))
  (λb hb=>by
    obtain⟨u,hu,rfl⟩:=List.mem_map.1 hb;exact⟨_,(h.win u (hkl u hu)).blk⟩) n2 n3 (by rw[hbl];omega)
 refine hw.mono ?_;rintro e w' ⟨rfl,B',R',K'⟩;rw[hbl] at B' R';have hek:(((zy L o.n).map (λu=>M.b u.n)).eraseIdx j).map zhx=M.ptrs (zy (zG L v.n) o.n):=by
  rw[zc0,hje,znj,zfa]
 rw[hek] at R';have hlk:(M.ptrs (zy (zG L v.n) o.n)).length=(zy L o.n).length-1:=by
  rw[M.ptrs_len,zc0,hje,List.length_eraseIdx_of_lt ((List.getElem?_eq_some_iff.1 hj).1)]
 have hsub:∀u∈zG L v.n,u∈L:=λu hu=>(Za.1 hu).1;have hso:(Value.slice (some ⟨ib,0,none⟩) ((zy L o.n).length-1) cap).ownBlock=(M.s o.n).ownBlock:=by rw[hib];rfl
 have hkk:∀i,M.own L i->i≠M.b o.n->i≠ib->w'.heap[i]?=w.heap[i]?:=λi hi e1 e2=>K'.block i (h.lt hi) (by rintro(e|e);exact e1 e;exact e2 e);have kk:∀(u:Wn) (k i:Nat),u∈L->k<4->M.blk (.win u.n k)=some i->¬(u.n=o.n/\(k=0\/k=3))->w'.heap[i]?=w.heap[i]?:=λu k i hu hk hb hn=>
  hkk i ⟨.win u.n k,⟨hk,u,hu,rfl⟩,hb⟩ (λe=>by
   have:=h.inj (.win u.n k) (.win o.n 0) i ⟨hk,u,hu,rfl⟩ ⟨by omega,o,ho,rfl⟩ hb (by rw[e];rfl);injection this with e1 e2;exact hn ⟨e1,.inl e2⟩) (λe=>by
   have:=h.inj (.win u.n k) (.win o.n 3) i ⟨hk,u,hu,rfl⟩ ⟨by omega,o,ho,rfl⟩ hb (by rw[e];exact hib);injection this with e1 e2;exact hn ⟨e1,.inr e2⟩)
 have kt:=λk hk=>hkk _ (Zg M L k hk) (h.ne (p:=.top k) (q:=.win o.n 0) hk ⟨by omega,o,ho,rfl⟩ rfl rfl (by simp)) (h.ne (p:=.top k) (q:=.win o.n 3) hk ⟨by omega,o,ho,rfl⟩ rfl hib (by simp));refine⟨.slice (some ⟨ib,0,none⟩) ((zy L o.n).length-1) cap,rfl,⟨(kt 0 (by omega)).trans h.b0,(kt 1 (by omega)).trans h.b1,h.scr.same (kt 2 (by omega)) (kt 3 (by omega)) (kt 4 (by omega)),?_,?_,?_⟩,?_,?_,hso,ib,cap,rfl,hroom⟩
 ·intro u hu;have huL:=hsub u hu;show Z9 w' u (M.b u.n) (M.c u.n) (M.g u.n) (M.pp u.par) (Zo M.s o.n _ u.n) (M.ptrs (zy (zG L v.n) u.n));have hU:=h.win u huL;by_cases e:u.n=o.n
  ·obtain rfl:=zak T.nd huL ho e;rw[zD];refine⟨B',hU.gr.same (kk u 1 _ huL (by omega) rfl (by omega)) (kk u 2 _ huL (by omega) rfl (by omega)),hU.wf,?_⟩;rw[hlk];exact R'
  ·rw[zn _ _ e];have hke:zy (zG L v.n) u.n=zy L u.n:=by
    rw[zc0];refine zdZ (λa ha ea=>e ?_);obtain rfl:=zak T.nd (Ze.1 ha).1 hv ea;rw[←(Ze.1 ha).2,hp]
   rw[hke];exact hU.same (kk u 0 _ huL (by omega) rfl (λhc=>e hc.1)) (kk u 1 _ huL (by omega) rfl (λhc=>e hc.1)) (kk u 2 _ huL (by omega) rfl (λhc=>e hc.1)) (λi hi=>kk u 3 i huL (by omega) hi (λhc=>e hc.1))
 ·intro p q i hp' hq' e1 e2;rw[zdB hso] at e1 e2;exact zni hsub h.inj p q i hp' hq' e1 e2
 ·rintro i ⟨p,hp',e⟩;rw[zdB hso] at e;exact h.two i (zjI hsub ⟨p,hp',e⟩)
 ·have hV':=h.win v hv;exact hV'.same (kk v 0 _ hv (by omega) rfl (λhc=>hvo hc.1)) (kk v 1 _ hv (by omega) rfl (λhc=>hvo hc.1)) (kk v 2 _ hv (by omega) rfl (λhc=>hvo hc.1)) (λi hi=>kk v 3 i hv (by omega) hi (λhc=>hvo hc.1))
 ·exact K'.mono (λi hi=>by
   rcases hi with rfl|rfl
   ·exact zgA M ho
   ·exact zht M ho hib)
end
section
variable {M:Mm} {last:Int} {N:Nat} {s:Rs} {t:Pt}
theorem zI.join {w1 w2:World} {L L1 L':List Wn} (h:zI w1 M L1 last N s t) {v' q:Wn} {sp:Value} (hq:q∈L1) (nd1:∀u∈L1,∀u'∈L1,u.n=u'.n->u=u')
 (hmem:∀u,u∈L'↔u=v'\/u∈L1) (hk:∀m,m≠q.n->zy L' m=zy L1 m) (hvn:∀u∈L1,u.n≠v'.n)
 (hinj:M.inj L) (hnum:∀n,(∃u∈L,u.n=n)↔(n=v'.n\/∃u∈L1,u.n=n)) (hlt:∀i,M.own L i->i<w1.heap.size) (htwo:∀i,M.own L i->2<=i)
 (hwv:Z9 w2 v' (M.b v'.n) (M.c v'.n) (M.g v'.n) (M.pp v'.par) (M.s v'.n) (M.ptrs (zy L' v'.n)))
 (hwq:Z9 w2 q (M.b q.n) (M.c q.n) (M.g q.n) (M.pp q.par) sp (M.ptrs (zy L' q.n)))
 (hsp:sp.ownBlock=(M.s q.n).ownBlock\/∀i,sp.ownBlock=some i->w1.heap.size<=i)
 (hkeep:∀i,M.own L1 i->i≠M.b q.n->(M.s q.n).ownBlock≠some i->w2.heap[i]?=w1.heap[i]?) (_hb2:2<=w1.heap.size):
 zI w2 (M.setS q.n sp) L' last N s t/\∀i,(M.setS q.n sp).own L' i->M.own L i\/w1.heap.size<=i:=by
 have hvq:v'.n≠q.n:=λe=>hvn q hq e.symm;have hokL:∀p:Pl,p.ok L'->p.ok L:=λp hp=>by
  cases p with
  |top k=>exact hp
  |win n k=>
   obtain⟨a,u,hu,b⟩:=hp;refine⟨a,(hnum n).2 ?_⟩;rcases(hmem u).1 hu with rfl|hu
   ·exact .inl b.symm
   ·exact .inr ⟨u,hu,b⟩
 have hold:∀p:Pl,p.ok L'->¬(p=.win q.n 3/\sp.ownBlock≠(M.s q.n).ownBlock)->p.ok L/\(M.setS q.n sp).blk p=M.blk p:=λp hp hf=>by
  refine⟨hokL p hp,?_⟩;by_cases e:sp.ownBlock=(M.s q.n).ownBlock
  ·exact zdB e p
  ·cases p with
   |top k=>rfl
   |win m k=>
    have hk4:=hp.1;match k,hk4 with
    |0,_=>rfl
    |1,_=>rfl
    |2,_=>rfl
    |3,_=>
     show(Zo M.s q.n sp m).ownBlock=(M.s m).ownBlock;by_cases em:m=q.n
     ·subst em;exact absurd ⟨rfl,e⟩ hf
     ·rw[zn _ _ em]
 have hfr:∀(p:Pl) (i:Nat),p.ok L'->(p=.win q.n 3/\sp.ownBlock≠(M.s q.n).ownBlock)->(M.setS q.n sp).blk p=some i->w1.heap.size<=i:=by
  rintro p i hp ⟨rfl,hne⟩ e;have e':(Zo M.s q.n sp q.n).ownBlock=some i:=e;rw[zD] at e';rcases hsp with h1|h1
  ·exact absurd h1 hne
  ·exact h1 i e'
 have hown:∀i,(M.setS q.n sp).own L' i->M.own L i\/w1.heap.size<=i:=λi hi=>zjG w1.heap.size _ hold hfr hi;have hI:=zjF hinj w1.heap.size hlt _ hold hfr (λp q' i _ _ fp fq _ _=>fp.1.trans fq.1.symm);have kt:=λk hk5=>hkeep _ (Zg M L1 k hk5) (h.ne (p:=.top k) (q:=.win q.n 0) hk5 ⟨by omega,q,hq,rfl⟩ rfl rfl (by simp)) (λe=>by
  have:=h.inj (.top k) (.win q.n 3) _ hk5 ⟨by omega,q,hq,rfl⟩ rfl e;simp at this)
 refine⟨⟨(kt 0 (by omega)).trans h.b0,(kt 1 (by omega)).trans h.b1,h.scr.same (kt 2 (by omega)) (kt 3 (by omega)) (kt 4 (by omega)),?_,hI,?_⟩,hown⟩
 ·intro u hu;show Z9 w2 u (M.b u.n) (M.c u.n) (M.g u.n) (M.pp u.par) (Zo M.s q.n sp u.n) (M.ptrs (zy L' u.n));rcases(hmem u).1 hu with rfl|hu1
  ·rw[zn _ _ hvq];exact hwv
  ·by_cases e:u.n=q.n
   ·obtain rfl:=nd1 u hu1 q hq e;rw[zD];exact hwq
   ·rw[zn _ _ e,hk _ e];have kk:=λk i hk4 hb=>
     hkeep i ⟨.win u.n k,⟨hk4,u,hu1,rfl⟩,hb⟩ (h.ne (p:=.win u.n k) (q:=.win q.n 0) ⟨hk4,u,hu1,rfl⟩ ⟨by omega,q,hq,rfl⟩ hb rfl (by simp[e])) (λe'=>by
      have:=h.inj (.win u.n k) (.win q.n 3) _ ⟨hk4,u,hu1,rfl⟩ ⟨by omega,q,hq,rfl⟩ hb e';simp[e] at this)
    exact(h.win u hu1).same (kk 0 _ (by omega) rfl) (kk 1 _ (by omega) rfl) (kk 2 _ (by omega) rfl) (λi hi=>kk 3 i (by omega) hi)
 ·intro i hi;rcases hown i hi with h1|h1
  ·exact htwo i h1
  ·omega
end
def zcy (L:List Wn) (v:Wn) (p:Int):List Wn:=zG L v.n ++ [{v with par:=p}]
section
variable {M:Mm} {L:List Wn} {last:Int} {N:Nat} {s:Rs} {t:Pt}
theorem zpM (ok:ZK L last) (w w1:World) (h:zI w M L last N s t) (v o q:Wn) (hv:v∈L) (_ho:o∈L) (hq:q∈L) (hp:v.par=o.n) (hvo:v.n≠o.n) (hvq:v.n≠q.n) (hl:ztG M L last N s t w v o (.returned (.tuple #[])) w1):
 Calls Tryz.prog 150 #[M.ptr v.n,M.ptr q.n] w1 (zad M L (zcy L v q.n) last N s t w (.tuple #[])):=by
 obtain⟨sp,_,D1,V1,K1,hso,_⟩:=hl;obtain⟨rk,K,T⟩:=ok.tree;have hblk:=zdB (M:=M) hso;have hq1:=Za.2 ⟨hq,λe=>hvq e.symm⟩;have hQ:=D1.win q hq1;change Z9 w1 q (M.b q.n) (M.c q.n) (M.g q.n) (M.pp q.par) (Zo M.s o.n sp q.n) (M.ptrs (zy (zG L v.n) q.n)) at hQ;obtain⟨sq,hsq⟩:∃sq,Zo M.s o.n sp q.n=sq:=⟨_,rfl⟩;rw[hsq] at hQ;have hsqo:sq.ownBlock=(M.s q.n).ownBlock:=by
  rw[←hsq];by_cases e:q.n=o.n
  ·rw[e,zD];exact hso
  ·rw[zn _ _ e]
 have hqp:q.n≠-1:=by have:=T.pos hq;omega
 have n1:=h.ne (p:=.win v.n 0) (q:=.win q.n 0) ⟨by omega,v,hv,rfl⟩ ⟨by omega,q,hq,rfl⟩ rfl rfl (by simp[hvq]);have n2:sq.ownBlock≠some (M.b v.n):=λe=>by
  rw[hsqo] at e;have:=h.inj (.win q.n 3) (.win v.n 0) _ ⟨by omega,q,hq,rfl⟩ ⟨by omega,v,hv,rfl⟩ e rfl;simp at this
 have n3:sq.ownBlock≠some (M.b q.n):=λe=>by
  rw[hsqo] at e;have:=h.inj (.win q.n 3) (.win q.n 0) _ ⟨by omega,q,hq,rfl⟩ ⟨by omega,q,hq,rfl⟩ e rfl;simp at this
 have hlen:(M.ptrs (zy (zG L v.n) q.n)).length<=100:=by
  rw[M.ptrs_len];have a1:(zy (zG L v.n) q.n).length<=(zG L v.n).length:=List.length_filter_le _ _;have a2:(zG L v.n).length<=L.length:=List.length_filter_le _ _;have:=ok.len;omega
 have h0:=h.two _ (Zg M L 0 (by omega));have h1:=h.lt (Zg M L 0 (by omega));have hz:=K1.size;refine(zpJ v q (M.b v.n) (M.b q.n) (M.c v.n) (M.c q.n) (M.pp v.par) (M.pp q.par) (M.s v.n) sq (M.ptrs (zy (zG L v.n) q.n)) w1 V1.blk hQ.blk hQ.row n1 n2 n3 hlen (by omega)).mono ?_;rintro e w2 ⟨gs,cap,rfl,U5,V5,R5,K5,hgs⟩;have hkq:zy (zcy L v q.n) q.n=zy (zG L v.n) q.n ++ [{v with par:=q.n}]:=by
  unfold zcy;rw[zew,if_pos rfl]
 have hko:∀m,m≠q.n->zy (zcy L v q.n) m=zy (zG L v.n) m:=λm hm=>by
  unfold zcy;rw[zew,if_neg (λe=>hm e.symm),List.append_nil]
 have hkv:zy (zcy L v q.n) v.n=zy L v.n:=by
  rw[hko _ hvq,zc0];refine zdZ (λu hu e=>?_);obtain rfl:=zak T.nd (Ze.1 hu).1 hv e;exact hvo ((Ze.1 hu).2.symm.trans hp)
 have kv:∀k i,k<4->k≠0->M.blk (.win v.n k)=some i->w2.heap[i]?=w1.heap[i]?:=λk i hk hk0 hb=>by
  have hown:M.own L i:=⟨.win v.n k,⟨hk,v,hv,rfl⟩,hb⟩;refine K5.block i (Nat.lt_of_lt_of_le (h.lt hown) hz) ?_;rintro(e|e|e)
  ·exact h.ne (p:=.win v.n k) (q:=.win v.n 0) ⟨hk,v,hv,rfl⟩ ⟨by omega,v,hv,rfl⟩ hb rfl (by simp[hk0]) e
  ·exact h.ne (p:=.win v.n k) (q:=.win q.n 0) ⟨hk,v,hv,rfl⟩ ⟨by omega,q,hq,rfl⟩ hb rfl (by simp[hvq]) e
  ·rw[hsqo] at e;have:=h.inj (.win v.n k) (.win q.n 3) _ ⟨hk,v,hv,rfl⟩ ⟨by omega,q,hq,rfl⟩ hb e;simp[hvq] at this
 have kq:∀k i,(k=1\/k=2)->M.blk (.win q.n k)=some i->w2.heap[i]?=w1.heap[i]?:=λk i hk hb=>by
  have hk4:k<4:=by omega
  have hown:M.own L i:=⟨.win q.n k,⟨hk4,q,hq,rfl⟩,hb⟩;refine K5.block i (Nat.lt_of_lt_of_le (h.lt hown) hz) ?_;rintro(e|e|e)
  ·exact h.ne (p:=.win q.n k) (q:=.win v.n 0) ⟨hk4,q,hq,rfl⟩ ⟨by omega,v,hv,rfl⟩ hb rfl (by simp;omega) e
  ·exact h.ne (p:=.win q.n k) (q:=.win q.n 0) ⟨hk4,q,hq,rfl⟩ ⟨by omega,q,hq,rfl⟩ hb rfl (by simp;omega) e
  ·rw[hsqo] at e;have:=h.inj (.win q.n k) (.win q.n 3) _ ⟨hk4,q,hq,rfl⟩ ⟨by omega,q,hq,rfl⟩ hb e;simp at this;omega
 have hvs:(M.setS o.n sp).s v.n=M.s v.n:=zn _ _ hvo;have J:=D1.join (L:=L) (L':=zcy L v q.n) (v':={v with par:=q.n}) (q:=q) (sp:=.slice (some ⟨gs,0,none⟩) ((M.ptrs (zy (zG L v.n) q.n)).length+1) cap) hq1
  (λa ha b hb e=>zak T.nd (Za.1 ha).1 (Za.1 hb).1 e)
  (λu=>by unfold zcy;rw[List.mem_append];simp[or_comm])
  hko (λu hu=>(Za.1 hu).2)
  (λp q' i hp' hq' e1 e2=>h.inj p q' i hp' hq' (by rw[←hblk];exact e1) (by rw[←hblk];exact e2))
  (λn=>⟨λ⟨u,hu,e⟩=>by
    by_cases e':n=v.n
    ·exact .inl e'
    ·exact .inr ⟨u,Za.2 ⟨hu,by rw[e];exact e'⟩,e⟩,
    λhh=>by
     rcases hh with e|⟨u,hu,e⟩
     ·exact⟨v,hv,e.symm⟩
     ·exact⟨u,(Za.1 hu).1,e⟩⟩)
  (λi ⟨p,hp',e⟩=>Nat.lt_of_lt_of_le (h.lt ⟨p,hp',by rw[←hblk];exact e⟩) hz)
  (λi ⟨p,hp',e⟩=>h.two i ⟨p,hp',by rw[←hblk];exact e⟩)
  (by
    show Z9 w2 {v with par:=q.n} (M.b v.n) (M.c v.n) (M.g v.n) (M.pp q.n) ((M.setS o.n sp).s v.n) (M.ptrs (zy (zcy L v q.n) v.n));rw[hvs,hkv,show M.pp q.n=some ⟨M.b q.n,0,none⟩ by unfold Mm.pp;rw[if_neg hqp]];exact⟨U5,V1.gr.same (kv 1 _ (by omega) (by omega) rfl) (kv 2 _ (by omega) (by omega) rfl),V1.wf,zx V1.row (λi hi=>kv 3 i (by omega) (by omega) hi)⟩)
  (by
    show Z9 w2 q (M.b q.n) (M.c q.n) (M.g q.n) (M.pp q.par) _ (M.ptrs (zy (zcy L v q.n) q.n));have hpe:M.ptrs (zy (zcy L v q.n) q.n)=M.ptrs (zy (zG L v.n) q.n) ++ [M.ptr v.n]:=by rw[hkq];simp[Mm.ptrs]
    rw[hpe];exact⟨V5,hQ.gr.same (kq 1 _ (.inl rfl) rfl) (kq 2 _ (.inr rfl) rfl),hQ.wf,by simpa using R5⟩)
  (by
    show _=(Zo M.s o.n sp q.n).ownBlock\/_;rw[hsq];rcases hgs with e|e
    ·exact .inl (by rw[e];rfl)
    ·exact .inr (λi hi=>by
      have:gs=i:=by simpa[Value.ownBlock] using hi
      omega))
  (λi hi e1 e2=>by
    have e2':(Zo M.s o.n sp q.n).ownBlock≠some i:=e2;rw[hsq] at e2';refine K5.block i (D1.lt hi) ?_;rintro(e|e|e)
    ·obtain⟨p,hp',hb⟩:=hi;rw[hblk] at hb;cases p with
     |top k=>exact h.ne (p:=.top k) (q:=.win v.n 0) hp' ⟨by omega,v,hv,rfl⟩ hb rfl (by simp) e
     |win n k=>
      obtain⟨hk,u,hu,hun⟩:=hp';exact h.ne (p:=.win n k) (q:=.win v.n 0) ⟨hk,u,(Za.1 hu).1,hun⟩ ⟨by omega,v,hv,rfl⟩ hb rfl (λe'=>by
       injection e' with a _;exact(Za.1 hu).2 (hun.trans a)) e
    ·exact e1 e
    ·exact e2' e)
  (by omega)
 obtain⟨JD,JO⟩:=J;refine⟨_,rfl,JD,rfl,K1.trans K5 (λi hi hF=>?_),λi hi=>?_⟩
 ·rcases hF with rfl|rfl|e
  ·exact zgA M hv
  ·exact zgA M hq
  ·rw[hsqo] at e;exact zht M hq e
 ·rcases JO i hi with⟨p,hp',e⟩|e
  ·exact .inl ⟨p,hp',by rw[←hblk];exact e⟩
  ·exact .inr (by omega)
end
section
variable {M:Mm} {L:List Wn} {last:Int} {N:Nat} {s:Rs} {t:Pt}
theorem zpN (ok:ZK L last) (w:World) (h:zI w M L last N s t) (v o:Wn) (hv:v∈L) (ho:o∈L) (hp:v.par=o.n) (hvo:v.n≠o.n):
 Calls Tryz.prog 115 #[M.ptr v.n,.bool true] w (zad M L (zcy L v o.n) last N s t w (.tuple #[])):=by
 have HD:=zH h;clear h;go_in;go_wp2_with fail;go_at_call 152;refine(zjJ ok _ HD.out v o hv ho hp hvo).mono ?_;rintro e w1 hl;have hl':=hl;obtain⟨sp,rfl,D1,V1,K1,hso,_⟩:=hl;have f1:=V1.f1;have hon:o.n≠-1:=by obtain⟨rk,K,T⟩:=ok.tree;have:=T.pos ho;omega
 rw[show M.pp v.par=some ⟨M.b o.n,0,none⟩ by rw[hp];unfold Mm.pp;rw[if_neg hon]] at f1;have HL:=zH hl';clear hl' D1 V1 K1 hso;go_wp2_with fail;go_at_call 150;refine(zpM ok w w1 HD.out v o o hv ho ho hp hvo hvo HL.out).mono ?_;rintro e w2 ⟨M',rfl,D2,t2,K2,O2⟩;have HP:Hid (zad M L (zcy L v o.n) last N s t w (.tuple #[]) (.returned (.tuple #[])) w2):=⟨M',rfl,D2,t2,K2,O2⟩;clear D2 K2 O2 f1;go_wp2_with fail;exact bodyPost_ret (results_none rfl _ _ _) rfl HP.out
theorem zvB (ok:ZK L last) (w:World) (h:zI w M L last N s t) (v o q:Wn) (hv:v∈L) (ho:o∈L) (hq:q∈L) (hp:v.par=o.n) (hvo:v.n≠o.n) (hvq:v.n≠q.n):
 Calls Tryz.prog 118 #[M.ptr v.n,M.ptr q.n] w (zad M L (zcy L v q.n) last N s t w (.tuple #[])):=by
 have HD:=zH h;clear h;go_in;go_wp2_with fail;go_at_call 152;refine(zjJ ok _ HD.out v o hv ho hp hvo).mono ?_;rintro e w1 hl;have he:e=.returned (.tuple #[]):=by obtain⟨_,e,_⟩:=hl;exact e
 subst he;have HL:=zH hl;clear hl;go_wp2_with fail;go_at_call 150;refine(zpM ok w w1 HD.out v o q hv ho hq hp hvo hvq HL.out).mono ?_;rintro e w2 ⟨M',rfl,D2,t2,K2,O2⟩;have HP:Hid (zad M L (zcy L v q.n) last N s t w (.tuple #[]) (.returned (.tuple #[])) w2):=⟨M',rfl,D2,t2,K2,O2⟩;clear D2 K2 O2;go_wp2_with fail;go_end0;exact HP.out
open Classical in
noncomputable def upM (M:Mm) (L:List Wn) (rk:Int->Nat) (p:Value):Nat:=if h:∃v∈L,p=M.ptr v.n then 1+rk h.choose.n else 0
theorem zl4 {w:World} (h:zI w M L last N s t) (rk:Int->Nat) {v:Wn} (hv:v∈L):upM M L rk (M.ptr v.n)=1+rk v.n:=by
 have hex:∃u∈L,M.ptr v.n=M.ptr u.n:=⟨v,hv,rfl⟩;unfold upM;rw[dif_pos hex];obtain⟨h1,h2⟩:=hex.choose_spec;have e:M.b v.n=M.b hex.choose.n:=by simpa using h2
 have:=h.b_inj hv h1 e;exact congrArg (λn=>1+rk n) this.symm
theorem zr8 (rk:Int->Nat):upM M L rk (.pointer none)=0:=by
 unfold upM;rw[dif_neg (by rintro⟨v,_,e⟩;simp at e)]
theorem Sub.up {rk:Int->Nat} {K:Nat} (T:ZR L rk K) {v u:Wn} (hu:u∈L) (hne:u.n≠v.n):Sub L v.n u.n↔Sub L v.n u.par:=by
 constructor
 ·intro h;rcases h.last with e|⟨x,hx,e,hs⟩
  ·exact absurd e hne
  ·obtain rfl:=zak T.nd hx hu e;exact hs
 ·exact λh=>.step hu h
theorem ztH {rk:Int->Nat} {K:Nat} (T:ZR L rk K) (w:World) (h:zI w M L last N s t) (q v:Wn) (hq:q∈L) (hv:v∈L) (b:Bool) (hb:b=true↔Sub L v.n q.n):
 Calls Tryz.prog 117 #[M.ptr q.n,M.ptr v.n] w λe w'=>e=.returned (.bool b)/\w'=w:=by
 have HD:=zH h;have HT:=zH T;have Hb:=zH hb;have hv0:=T.pos hv;clear h T hb;go_in;go_wp2_with fail;go_loopw[5] (λp wr=>((p=.pointer none/\b=false)\/∃u∈L,p=M.ptr u.n/\(b=true↔Sub L v.n u.n))/\wr=w) (λp _=>upM M L rk p)
 case atStart=>exact⟨.inr ⟨q,hq,rfl,Hb.out⟩,rfl⟩
 case round=>
  obtain⟨hr,rfl⟩:=hrel;rcases hr with⟨rfl,rfl⟩|⟨u,hu,rfl,hns⟩
  ·go_wp2_with fail;go_ret;exact⟨rfl,rfl⟩
  ·have Hns:=zH hns;have hU:=HD.out.win u hu;have f1:=hU.f1;clear hns hU;by_cases he:u.n=v.n
   ·obtain rfl:b=true:=Hns.out.2 (by rw[he];exact .refl);have heq:=zhv ⟨M.b u.n,0,none⟩ wr;rw[←he];clear he;go_wp2_with fail;go_ret;exact⟨rfl,rfl⟩
   ·have hne:M.b u.n≠M.b v.n:=λe=>he (HD.out.b_inj hu hv e);have heq:=zf6 (a:=⟨M.b u.n,0,none⟩) (b:=⟨M.b v.n,0,none⟩) wr (by intro e;injection e with e1;exact hne e1) (HD.out.win u hu).blk (HD.out.win v hv).blk;have hup:=Sub.up HT.out hu he;rcases HT.out.parNot hu with hp|hp
    ·have hbf:b=false:=by
      rw[Bool.eq_false_iff];intro hbt;have:=hup.1 (Hns.out.1 hbt);rw[hp] at this;have:=(Sub.rank HT.out hv0 this).2;omega
     subst hbf;rw[show M.pp u.par=none by rw[hp];rfl] at f1;have Hm:Hid (upM M L rk (.pointer none)<upM M L rk (M.ptr u.n)):=by show _<_;rw[zr8,zl4 HD.out rk hu];omega
     clear hup;go_wp2_with fail;go_roundw
     case rel=>exact⟨.inl ⟨rfl,trivial⟩,trivial⟩
     case measure=>exact Hm.out
    ·obtain⟨⟨x,hx,hxn⟩,hrk⟩:=HT.out.up u hu hp;rw[show M.pp u.par=some ⟨M.b x.n,0,none⟩ by rw[←hxn];unfold Mm.pp;rw[if_neg (by have:=HT.out.pos hx;omega)]] at f1;have Hx:Hid (b=true↔Sub L v.n x.n):=by show b=true↔Sub L v.n x.n;rw[hxn,←hup];exact Hns.out
     have Hm:Hid (upM M L rk (M.ptr x.n)<upM M L rk (M.ptr u.n)):=by show _<_;rw[zl4 HD.out rk hu,zl4 HD.out rk hx,hxn];omega
     clear hup hxn;go_wp2_with fail;go_roundw
     case rel=>exact⟨.inr ⟨x,hx,rfl,Hx.out⟩,trivial⟩
     case measure=>exact Hm.out
end
end
section
open Go.RowKit Go.Lib Go.Sort Go.Shelf
attribute [local go_sem ↓] Go.wp_at_zero Go.wp_at_succ
theorem zpO (b n c vb:Nat) (cs:List Value) (u:Value) (w:World) (hi:0<n) (hroom:n+1<=c) (hc63:c<=9223372036854775807) (hvb:vb≠b)
 (hcl:cs.length=n)
 (hcs:∀j v,cs[j]?=some v->w.cell? ⟨b,j,none⟩=some v) (hsp:∀j,j<n+1->(w.cell? ⟨b,j,none⟩).isSome=true) (hfz:∀j,j<n+1->w.frozen? ⟨b,j,none⟩=false)
 (hvs:w.cell? ⟨vb,0,none⟩=some u) (h1c:∀v∈cs,v.oneCell'=true) (h1v:u.oneCell'=true)
 (tA tB:TypeId) (kA kB:Nat) (hsa:w.shape? vb=some (tA,kA)) (hsb:w.shape? b=some (tB,kB)) (hkB:kB≠0) (hfa:w.frozen? ⟨vb,0,none⟩=false) (hfe:w.frozen? ⟨vb,kA,none⟩=false):
 Calls Tryz.prog 153 #[.slice (some ⟨b,0,none⟩) n c,.int .i64 0,.slice (some ⟨vb,0,none⟩) 1 1] w λe w'=>
  e=.returned (.slice (some ⟨b,0,none⟩) (n+1) c)/\w'=(w.drew.setCells b 1 cs).setCells b 0 [u]:=by
 have mixed:Tryz.prog.follows Departure.mixedOrders=true:=by kernel_rfl
 have hw1:IntKind.i64.wrap 1=1:=by decide
 have hb2:¬(c=1):=by omega
 have hb3:(1:Int)<=(n:Int)+1:=by omega
 have hb6:¬(c=0):=by omega
 have hb7:(0:Int)<=(n:Int)+1:=by omega
 have hb5:(1:Int).toNat=1:=rfl;have hz2:¬((0:Int)=(n:Int)):=by omega
 have hsz:(Tryz.prog.info? 111).map (·.size)=some 1:=by
  obtain⟨i0,hi0,h0,h1,h2⟩:=info_parts zjE;rw[hi0];simp[h1]
 have hov:∀lb cb,(callFunc 172 #[.slice (some ⟨vb,0,none⟩) 1 1,.slice (some ⟨b,1,none⟩) lb cb]).run Tryz.prog w=.ok (.value (.bool false)) w:=λlb cb=>by
  rw[run_callFunc_extern Tryz.func172 (by kernel_rfl) (by kernel_rfl) (by kernel_rfl) (e:=Extern.SlicesOverlaps.overlaps #[129,129] #[4]) (by kernel_rfl),
   Lib.run_overlaps_apart w 129 4 111 Tryz.underlying129 1 Tryz.sizeOf111 ⟨vb,0,none⟩ ⟨b,1,none⟩ 1 1 lb cb hvb tA tB kA kB hsa hsb hkB hfa hfe]
  rfl
 have hcp1:∀ty dc sc,(Builtin.copy_ #[129,129] ty #[.slice (some ⟨b,1,none⟩) n dc,.slice (some ⟨b,0,none⟩) (n+1) sc]).run Tryz.prog w.drew=.ok (goInt cs.length) (w.drew.setCells b 1 cs):=λty dc sc=>
  run_copy_cells w.drew _ _ ty 111 b 1 n dc ⟨b,0,none⟩ (n+1) sc cs Tryz.underlying129 hsz (by rw[hcl];simp only[Nat.min_def];split<;>omega)
   (λj v hj=>by rw[Addr.add_lit,Nat.zero_add];exact hcs j v hj)
   (λj hj=>hsp (1+j) (by omega)) (λj hj=>hfz (1+j) (by omega)) h1c
 obtain⟨W1,hW1⟩:∃W1,W1=w.drew.setCells b 1 cs:=⟨_,rfl⟩;have hsp1:∀k,k<n+1->(W1.cell? ⟨b,k,none⟩).isSome=true:=λk hk=>by
  rw[hW1];exact isSome_setCells b cs 1 w.drew (λj hj=>hsp (1+j) (by omega)) _ (hsp k hk)
 have hcp2:∀(W:World),(∀x,W.cell? x=W1.cell? x)->(∀x,W.frozen? x=W1.frozen? x)->∀ty dc,(Builtin.copy_ #[129,129] ty #[.slice (some ⟨b,0,none⟩) (n+1) dc,.slice (some ⟨vb,0,none⟩) 1 1]).run Tryz.prog W=.ok (goInt [u].length) (W.setCells b 0 [u]):=λW hWc hWf ty dc=>
  run_copy_cells W _ _ ty 111 b 0 (n+1) dc ⟨vb,0,none⟩ 1 1 [u] Tryz.underlying129 hsz (by simp only[List.length_cons,List.length_nil,Nat.min_def];split<;>omega)
   (λj v hj=>by
     rw[Addr.add_lit,hWc,hW1,World.cell?_setCells_out b _ _ _ _ (λh _=>absurd h hvb)];match j,hj with
     |0,hj=>
       obtain rfl:u=v:=by simpa using hj
       exact hvs)
   (λj hj=>by rw[hWc,Nat.zero_add];exact hsp1 _ (by simp at hj;omega)) (λj hj=>by rw[hWf,hW1,World.frozen?_setCells,Nat.zero_add];exact hfz _ (by simp at hj;omega)) (by simpa using h1v)
 rw[←hW1] at hcp1;go_in;go_wp2_with (simp only[hov]);go_region_law_o (refine step_copy_runI rfl _ _ 129 129 rfl _ _ (by simp[Act.eval,Act.put]) (by simp[Act.eval,Act.put]) (hcp1 _ _ _) ?_)
 go_wp2_with (at_builtin;refine wpList_copy_runI _ rfl _ _ 129 129 rfl _ _ rfl rfl (hcp2 _ (λ_=>rfl) (λ_=>rfl) _ _) ?_);go_ret;first|exact⟨rfl,rfl⟩|exact⟨rfl,by rw[hW1]⟩
theorem zpP (ib cap n b:Nat) (ads:List (Option Addr)) (u:Value) (hu:u.oneCell'=true) (w:World) (hrow:w.ownsRow 2 111 1 (.slice (some ⟨ib,0,none⟩) n cap) n (ads.map Value.pointer)) (hn:0<n) (hroom:n+1<=cap) (hb:w.heap[b]?=some (.cells #[u] 111)) (hne:b≠ib):
 Calls Tryz.prog 153 #[.slice (some ⟨ib,0,none⟩) n cap,.int .i64 0,.slice (some ⟨b,0,none⟩) 1 1] w λe w'=>e=.returned (.slice (some ⟨ib,0,none⟩) (n+1) cap)/\w'.ownsRow 2 111 1 (.slice (some ⟨ib,0,none⟩) (n+1) cap) (n+1) (u::ads.map Value.pointer)/\zd (λi=>i=ib) w w':=by
 obtain⟨hl,hc⟩:=hrow;rcases hc with⟨h0,_⟩|⟨g,cap',cur,hv,hbb,hg,hnc,hm,hs,ht⟩
 ·simp at h0
 obtain⟨rfl,rfl⟩:ib=g/\cap=cap':=by simpa using hv
 rw[Nat.mul_one] at hs ht;have hal:(ads.map Value.pointer).length=n:=by rw[hl];omega
 have hcell:∀k,k<n->cur[k]?=(ads.map Value.pointer)[k]?:=λk hk=>by
  rw[←ht,List.getElem?_take_of_lt hk,Array.getElem?_toList]
 refine(zpO ib n cap b (ads.map Value.pointer) u w hn hroom hm hne hal (λj v hj=>?_) (λj hj=>?_) (λj _=>ze hg j) (za hb 0) (by simp[Value.oneCell']) hu 111 111 1 cap ?_ ?_ (by omega) (ze hb 0) (ze hb 1)).mono ?_
 ·have hj':j<n:=by rw[←hal];exact(List.getElem?_eq_some_iff.1 hj).1
  rw[za hg,hcell j hj',hj]
 ·rw[za hg,Array.getElem?_eq_getElem (by omega)];rfl
 ·unfold World.shape?;rw[hb];rfl
 ·unfold World.shape?;rw[hg,←hs]
 rintro e w' ⟨rfl,rfl⟩;obtain⟨cur1,k1,k2,k3⟩:=zcZ (ads.map Value.pointer) 1 w.drew cur hg (by rw[hal];omega);obtain⟨cur2,l1,l2,l3⟩:=zcZ [u] 0 (w.drew.setCells ib 1 (ads.map Value.pointer)) cur1 k1 (by simp;omega);refine⟨rfl,⟨by rw[List.length_cons,hal];omega,.inr ⟨ib,cap,cur2,rfl,hbb,l1,hroom,hm,by omega,?_⟩⟩,?_⟩
 ·rw[l3,k3,Nat.mul_one];have e1:(cur1.toList.take 0 ++ [u]++cur1.toList.drop (0 + [u].length))=u::cur1.toList.drop 1:=rfl;rw[←k3,e1,k3,List.take_succ_cons];congr 1;have ht1:(cur.toList.take 1).length=1:=by simp;omega
  rw[List.append_assoc,List.drop_append_of_le_length (by omega),List.drop_of_length_le (by omega),List.nil_append,List.take_left' hal]
 ·exact zd.setCells (F:=λi=>i=ib) ib (λ_=>rfl) _ 0 (zd.setCells (F:=λi=>i=ib) ib (λ_=>rfl) _ 1 (zd.refl (λi=>i=ib) w).drew)
end
end Go.Proofs.YtjlfibhbfdckpaaGreatDoor

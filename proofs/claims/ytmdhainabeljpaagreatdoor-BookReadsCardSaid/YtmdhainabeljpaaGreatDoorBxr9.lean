/- Texts put together:FL,OC,PB,PC,PD,PE,FE,FF. -/
import Derived.OwnWalk
import Derived.Laws.AppendOwn
import Derived.Laws.OwnMore
import Derived.Lib.SmallJoins
import Derived.Deep.RegionLaw
import Derived.BigRegion
import Derived.Lib.IndexBytes
import Derived.StillTailTactics
import Derived.Test.YtmdhainabeljpaaGreatDoorBxr7
set_option linter.unusedVariables false
set_option maxRecDepth 100000
set_option maxHeartbeats 16000000
namespace Go.Proofs.YtmdhainabeljpaaGreatDoor
abbrev jib:=@List.getElem?_cons_succ
abbrev jie:=@List.getElem?_toArray
abbrev jin:=@Go.World.ownsRow.cellAt
abbrev jiS:=@List.length_singleton
abbrev jiT:=@List.getElem?_append_left
abbrev jiY:=@Go.Joins.ownsRow_forms
abbrev ji3:=@List.getElem?_map
abbrev jje:=@Go.World.ownsRow.lt
abbrev jjr:=@Nat.pos_of_ne_zero
abbrev jj0:=@Nat.add_zero
end Go.Proofs.YtmdhainabeljpaaGreatDoor
namespace Go.Proofs.YtmdhainabeljpaaGreatDoor
open Go.RowKit
def Wo(w:World)(v:Value)(fs:List (List UInt8×List UInt8)):Prop :=
 ∃A cap,v=.slice A fs.length cap/\fs.length<=cap/\∀(i:Nat) (f:List UInt8×List UInt8),fs[i]?=some f->∃b off,A=some ⟨b,off,none⟩/\b<w.heap.size/\w.cell? ⟨b,off+i*2,none⟩=some (.string (B f.1))/\w.cell? ⟨b,off+i*2+1,none⟩=some (.string (B f.2))
theorem Wo.below{w w':World}{v:Value}{fs:List (List UInt8×List UInt8)}{n:Nat}(h:Wo w v fs)(hb:Below n w w')(hn:w.heap.size<=n):Wo w' v fs:=by
 obtain⟨A,cap,hv,hle,hc⟩:=h
 refine⟨A,cap,hv,hle,fun i s hs => ?_⟩
 obtain⟨b,off,hA,hlt,c0,c1⟩:=hc i s hs
 exact⟨b,off,hA,jih hlt hb.size,(hb.cell (p:=⟨b,off+i*2,none⟩) (jih hlt hn)).trans c0,(hb.cell (p:=⟨b,off+i*2+1,none⟩) (jih hlt hn)).trans c1⟩
def jt(fs:List (List UInt8×List UInt8)):List Value:=fs.flatMap fun f=>[.string (B f.1),.string (B f.2)]
theorem xL:∀fs,(jt fs).length=fs.length*2
 | []=>rfl
 | f::r=>by
  have:=xL r
  show(Value.string (B f.1)::Value.string (B f.2)::jt r).length=_
  simp only[jic,this];omega
theorem Vp:∀(fs:List (List UInt8×List UInt8)) (i:Nat) (f:List UInt8×List UInt8),fs[i]?=some f->(jt fs)[i*2]?=some (.string (B f.1))/\(jt fs)[i*2+1]?=some (.string (B f.2))
 | [],i,f,h=>by simp at h
 | a::r,0,f,h=>by simp at h;subst h;exact⟨rfl,rfl⟩
 | a::r,i+1,f,h=>by
  have ih:=Vp r i f (by simpa using h)
  have e:jt (a::r)=Value.string (B a.1)::Value.string (B a.2)::jt r:=rfl
  rw[e,show(i+1)*2=i*2+1+1 by omega]
  simpa using ih
theorem Va:(Tryz.prog.info? 71).map (fun i=>(i.zero,i.size,i.bytes))=some (some (.agg #[.string ⟨#[]⟩,.string ⟨#[]⟩]),2,32):=by kernel_rfl
theorem Jf{w:World}{base:Nat}{v:Value}{fs:List (List UInt8×List UInt8)}(h:w.ownsRow base 71 2 v fs.length (jt fs)):Wo w v fs:=by
 rcases jiY h with ⟨rfl,hn⟩|⟨g,cap,rfl⟩
 ·have:fs=[]:=by cases fs with | nil=>rfl | cons _ _=>simp at hn
  subst this
  exact⟨none,0,rfl,jh6 _,fun i f h=>by simp at h⟩
 refine⟨_,cap,rfl,(by rcases h.2 with ⟨q,_⟩ | ⟨g',cap',cur,q,_,_,q2,_⟩;cases q;cases q;exact q2),fun i f hf=>⟨g,0,rfl,(jje h g rfl).2,?_⟩⟩
 have hi:i<fs.length:=by
  rcases jir i fs.length with q|q
  ·exact q
  rw[jis q]at hf;cases hf
 obtain⟨a,b⟩:=Vp fs i f hf
 rw[jiH,jin h (i*2) (by omega),jin h (i*2+1) (by omega)]
 exact⟨a,b⟩
theorem qd{P:Program}{ops:Array Oper}{o:Oper}{a:Act}{w:World}{K:Act->World->Prop}{Q:Exit->Act->World->Prop}{E:Prop}
  (hg:o.guard=none) (s x:Operand) (t:TypeId) (hop:o.op=Op.call {callee:=Callee.builtin Builtin.append,args:=#[s,x],argTypes:=#[t,t]})
  (e:TypeId) (i:TypeInfo) (z:Value) (size bytes:Nat) (ht:P.underlying t=some (.slice e)) (hi:P.info? e=some i) (hz:i.zero=some z)
  (hsize:i.size=size) (hby:i.bytes=bytes) (hzs:z.cells.size=size) (hsz:0<size)
  (v:Value) (n:Nat) (xs:List Value) (hs:a.eval s=v) (hown:w.ownsRow 0 e size v n xs)
  (ad:Addr) (m c:Nat) (news:List Value) (hx:a.eval x=.slice (some ad) m c) (hl:news.length=m*size) (hnews:∀j u,news[j]?=some u->w.cell? (ad.add j)=some u) (h1:∀u∈news,u.oneCell'=true)
  (h63:n+m<=maxLen) (hbytes:(n+m)*bytes<=140737488355328)
  (hK:∀v' w',w'.ownsRow 0 e size v' (n+m) (xs++news)->w.grownBy w' v.ownBlock->(v'.ownBlock=v.ownBlock\/v'.ownBlock=some w.heap.size)->K (a.put o.dst v') w') :
  if Region.wanted o (yielded ops a.tmps)=true then Oper.wp P o a w K Q else E:=by
 have hw:Region.wanted o (yielded ops a.tmps)=true:=by simp[Region.wanted,hg]
 rw[if_pos hw]
 obtain⟨v',w',hr,h2,h3,h4,h5⟩:=run_append_own_at (P:=P) w 0 t o.type e i z size bytes ht hi hz hsize hby hzs hsz v n xs hown ad m c news hl hnews h1 h63 hbytes (jii _)
 unfold Oper.wp
 simp[execOp,hop,resolve,invoke,builtin,hs,hx,hr,Result.andThen]
 exact hK v' w' h2 h3 h5
theorem zl(w:World)(t:TypeId)(cs:List Value):∀j u,cs[j]?=some u->(w.alloc (.cells cs.toArray t)).cell? ((⟨w.heap.size,0,none⟩:Addr).add j)=some u:=by
 intro j u hj
 have:=(jd.new w t cs.toArray).cell j
 have e:(⟨w.heap.size,0,none⟩:Addr).add j=⟨w.heap.size,j,none⟩:=by unfold Addr.add;split<;>simp_all
 rw[e,this,jie,hj]
theorem Ka{w:World}{base:Nat}{e:TypeId}{size:Nat}{v:Value}{n:Nat}{xs:List Value}(h:w.ownsRow base e size v (n+1) xs):∃g cap,v=.slice (some ⟨g,0,none⟩) (n+1) cap:=by
 rcases h.2 with ⟨_,h⟩|⟨g,cap,_,h,_⟩
 ·omega
 exact⟨g,cap,h⟩
theorem XL{w W w':World}{g:Nat}{t:TypeId}{cur:Array Value}(hg:jd w g t cur){vw v':Value}{n:Nat}{xs A:List Value}{e:TypeId}{size:Nat}(hown:w.ownsRow 0 e size vw n xs)(hne:vw.ownBlock≠some g)
  (hb:Below w.heap.size w W) (ho:w'.ownsRow 0 e size v' (n+1) (xs++A)) (hgr:W.grownBy w' vw.ownBlock) (hbk:v'.ownBlock=vw.ownBlock\/v'.ownBlock=some W.heap.size) :
  (∃g' cap,v'=.slice (some ⟨g',0,none⟩) (n+1) cap)/\jd w' g t cur/\(∀r,w.heap.size<=r->r<W.heap.size->w'.heap[r]?=W.heap[r]?) /\
   (v'.ownBlock=vw.ownBlock\/∃k,v'.ownBlock=some k/\w.heap.size<=k/\k<w'.heap.size)/\zH (fun r=>some r=vw.ownBlock) w w':=by
 have hs:=hb.size
 refine⟨Ka ho,(hgr.block g (jih hg.lt hs) (fun e=>hne e.symm)).trans ((hb.block g hg.lt).trans hg),fun r h1 h2=>hgr.block r h2 (fun e => ?_),?_,?_⟩
 ·have:=(hown.lt r e.symm).2;omega
 ·rcases hbk with h|h
  ·exact .inl h
  exact .inr ⟨_,h,hs,(ho.lt _ h).2⟩
 exact(zH.of_below hb (jh6 _)).grown hgr (fun k hk=>.inl hk.symm)
def qa(T:Nat->Nat)(o:Option Nat)(t:Nat):Prop:=∀b,o=some b->T b=t
def VF(T:Nat->Nat)(lo:Nat)(o:Option Nat)(t:Nat):Nat->Nat:=fun b=>if lo<=b/\o=some b then t else T b
def yS(lo hi:Nat)(a b:Option Nat):Prop:=b=a\/∃k,b=some k/\lo<=k/\k<hi
theorem vG{T:Nat->Nat}{lo:Nat}{o:Option Nat}{t b:Nat}(h:b<lo):VF T lo o t b=T b:=by
 unfold VF;rw[if_neg (by omega)]
theorem Zj{T:Nat->Nat}{lo hi:Nat}{a b:Option Nat}{t:Nat}(h:yS lo hi a b)(ha:qa T a t):qa (VF T lo b t) b t:=by
 intro k hk
 unfold VF
 split
 ·rfl
 rename_i hn
 rcases h with h|⟨j,h,h1,_⟩
 ·exact ha k (by rw[<- h];exact hk)
 rw[h]at hk;cases hk;exact absurd ⟨h1,h⟩ hn
theorem qi{T:Nat->Nat}{lo:Nat}{o c:Option Nat}{t u:Nat}(hc:qa T c u)(hl:∀k,c=some k->k<lo):qa (VF T lo o t) c u:=by
 intro k hk;rw[vG (hl k hk)];exact hc k hk
structure PV where
 v1:Value
 v3:Value
 v6:Value
 fvs:List Value
def vT(p:PS)(text:ByteArray)(v1 v3 v6:Value):Array Value:=#[.int .i64 p.begin_,v1,.string text,v3,.int .i64 p.stanzas,.int .i64 p.at_,v6]
def xm(it:It)(v:Value):List Value:=[.int .i64 it.kind,.string (B it.raw),v]
def jK:List It->List Value->List Value
 | it::l,v::vs=>xm it v++jK l vs
 | _,_=>[]
theorem vJ:∀(l:List It) (vs:List Value) (it:It) (v:Value),vs.length=l.length->jK (l++[it]) (vs++[v])=jK l vs++xm it v
 | [],[],it,v,_=>by simp[jK]
 | [],_::_,_,_,h=>by simp at h
 | a::l,[],it,v,h=>by simp at h
 | a::l,u::vs,it,v,h=>by
  have:=vJ l vs it v (by simpa using h)
  simp only[jiq,jK,this,jip]
theorem vq:∀(l:List It) (vs:List Value) (i:Nat) (it:It) (v:Value),l[i]?=some it->vs[i]?=some v->(jK l vs)[i*3]?=some (.int .i64 it.kind)/\(jK l vs)[i*3+1]?=some (.string (B it.raw))/\(jK l vs)[i*3+1+1]?=some v
 | [],_,i,it,v,h,_=>by simp at h
 | a::l,[],i,it,v,_,h=>by simp at h
 | a::l,u::vs,0,it,v,h,h'=>by simp at h h';subst h h';exact⟨rfl,rfl,rfl⟩
 | a::l,u::vs,i+1,it,v,h,h'=>by
  obtain⟨x,y,z⟩:=vq l vs i it v (by simpa using h) (by simpa using h')
  have e:jK (a::l) (u::vs)=.int .i64 a.kind :: .string (B a.raw)::u::jK l vs:=rfl
  have k:(i+1)*3=i*3+1+1+1:=by omega
  have k1:i*3+1+1+1+1=(i*3+1)+1+1+1:=by omega
  have k2:i*3+1+1+1+1+1=(i*3+1+1)+1+1+1:=by omega
  rw[e,k]
  refine⟨?_,?_,?_⟩
  ·rw[jib,jib,jib];exact x
  ·rw[k1,jib,jib,jib];exact y
  rw[k2,jib,jib,jib];exact z
theorem Jp(l:List Fld)(f:Fld):jt (l++[f])=jt l++[.string (B f.1),.string (B f.2)]:=by unfold jt;simp
def qH(l:List (List UInt8)):List Value:=l.map fun x=>.string (B x)
structure jA(w:World)(T:Nat->Nat)(R b:Nat)(text:ByteArray)(p:PS)(V:PV):Prop where
 cells:jd w b 81 (vT p text V.v1 V.v3 V.v6)
 tp:T b=1
 r1:w.ownsRow 0 9 1 V.v1 p.said.length (qH p.said)
 t1:qa T V.v1.ownBlock 2
 r3:w.ownsRow 0 98 3 V.v3 p.items.length (jK p.items V.fvs)
 t3:qa T V.v3.ownBlock 3
 r6:w.ownsRow 0 71 2 V.v6 p.fields.length (jt p.fields)
 t6:qa T V.v6.ownBlock 4
 nf:V.fvs.length=p.items.length
 rf:∀(i:Nat) (it:It) (v:Value),p.items[i]?=some it->V.fvs[i]?=some v->w.ownsRow 0 71 2 v it.fields.length (jt it.fields)/\qa T v.ownBlock 5
 low:∀k,T k≠0->R<=k/\k<w.heap.size
def jn(w:World)(T:Nat->Nat)(R b:Nat)(text:ByteArray)(p:PS):Prop:=∃V,jA w T R b text p V
structure jM(w:World)(T:Nat->Nat)(w':World)(T':Nat->Nat):Prop where
 only:zH (fun r=>T r≠0) w w'
 old:∀r,r<w.heap.size->(T' r=0↔T r=0)
theorem jM.refl(w:World)(T:Nat->Nat):jM w T w T:=⟨zH.refl _ _,fun _ _=>Iff.rfl⟩
theorem jM.trans{w w1 w2:World}{T T1 T2:Nat->Nat}(h:jM w T w1 T1)(g:jM w1 T1 w2 T2):jM w T w2 T2 :=
 ⟨h.only.trans g.only (fun r hr hn=>fun e=>hn ((h.old r hr).2 e)),fun r hr=>(g.old r (jih hr h.only.size)).trans (h.old r hr)⟩
theorem jM.below{w w':World}{T:Nat->Nat}(h:Below w.heap.size w w'):jM w T w' T:=⟨zH.of_below h (jh6 _),fun _ _=>Iff.rfl⟩
theorem jM.drewN{w w':World}{T T':Nat->Nat}(h:jM w T w' T')(n:Nat):jM w T (w'.drewN n) T':=⟨h.only.drewN n,h.old⟩
theorem jA.same{w w':World}{T:Nat->Nat}{R b:Nat}{text:ByteArray}{p:PS}{V:PV}(h:jA w T R b text p V)(hs:∀k,T k≠0->w'.heap[k]?=w.heap[k]?)(hz:w.heap.size<=w'.heap.size):jA w' T R b text p V:=by
 have s:∀{o:Option Nat} {t:Nat},qa T o t->t≠0->∀k,o=some k->w'.heap[k]?=w.heap[k]?:=fun ht hne k hk=>hs k (by rw[ht k hk];exact hne)
 exact⟨(hs b (by rw[h.tp];decide)).trans h.cells,h.tp,jQ h.r1 (s h.t1 (by decide)),h.t1,jQ h.r3 (s h.t3 (by decide)),h.t3,jQ h.r6 (s h.t6 (by decide)),h.t6,h.nf,
  fun i it v h1 h2=>⟨jQ (h.rf i it v h1 h2).1 (s (h.rf i it v h1 h2).2 (by decide)),(h.rf i it v h1 h2).2⟩,fun k hk=>⟨(h.low k hk).1,jih (h.low k hk).2 hz⟩⟩
theorem jA.below{w w':World}{T:Nat->Nat}{R b:Nat}{text:ByteArray}{p:PS}{V:PV}(h:jA w T R b text p V)(hb:Below w.heap.size w w'):jA w' T R b text p V :=
 h.same (fun k hk=>hb.block k (h.low k hk).2) hb.size
theorem jn.below{w w':World}{T:Nat->Nat}{R b:Nat}{text:ByteArray}{p:PS}(h:jn w T R b text p)(hb:Below w.heap.size w w'):jn w' T R b text p:=by
 obtain⟨V,h⟩:=h;exact⟨V,h.below hb⟩
theorem jA.lt{w:World}{T:Nat->Nat}{R b:Nat}{text:ByteArray}{p:PS}{V:PV}(h:jA w T R b text p V):b<w.heap.size:=h.cells.lt
theorem jA.new(w:World)(text:ByteArray)(R:Nat)(hR:R<=w.heap.size):jA (w.alloc (.cells #[.int .i64 0,.slice none 0 0,.string text,.slice none 0 0,.int .i64 0,.int .i64 0,.slice none 0 0] 81)) (fun k=>if k=w.heap.size then 1 else 0) R w.heap.size text PS.new ⟨.slice none 0 0,.slice none 0 0,.slice none 0 0,[]⟩:=by
 have tn:∀t,qa (fun k=>if k=w.heap.size then 1 else 0) (Value.slice none 0 0).ownBlock t:=fun t k h=>by cases h
 have rn:∀e size,(w.alloc (.cells #[.int .i64 0,.slice none 0 0,.string text,.slice none 0 0,.int .i64 0,.int .i64 0,.slice none 0 0] 81)).ownsRow 0 e size (.slice none 0 0) 0 []:=fun e size=>⟨by simp,.inl ⟨rfl,rfl⟩⟩
 refine⟨jd.new _ _ _,if_pos rfl,rn _ _,tn 2,rn _ _,tn 3,rn _ _,tn 4,rfl,(fun i it v h _=>by cases h),fun k hk => ?_⟩
 have:k=w.heap.size:=by
  rcases Nat.decEq k w.heap.size with h|h
  ·rw[if_neg h]at hk;exact absurd rfl hk
  exact h
 subst this
 exact⟨hR,by simp⟩
theorem jg{w:World}{base:Nat}{e:TypeId}{size:Nat}{v:Value}{n:Nat}{xs:List Value}(h:w.ownsRow base e size v n xs):∃a cap,v=.slice a n cap/\n<=cap:=by
 rcases h.2 with ⟨rfl,rfl⟩|⟨g,cap,cur,rfl,_,_,hle,_⟩
 ·exact⟨none,0,rfl,jh6 _⟩
 exact⟨_,cap,rfl,hle⟩
theorem qG{w:World}{T:Nat->Nat}{R b:Nat}{text:ByteArray}{p:PS}{V:PV}(h:jA w T R b text p V):
  Calls Tryz.prog 71 #[.pointer (some ⟨b,0,none⟩)] w fun e w'=>e=.returned (.bool (!p.said.isEmpty))/\w=w':=by
 obtain⟨a,cap,e1,hc⟩:=jg h.r1
 have c1:w.cell? ⟨b,1,none⟩=some (.slice a p.said.length cap):=by rw[<- e1];exact h.cells.cell 1
 have hl:=h.lt
 have hb:(!p.said.isEmpty)=decide (0<p.said.length):=by cases p.said<;>simp
 rw[hb]
 clear h
 go_enter Tryz.func71,Tryz.ntmps71
 go_wp2
 go_ret
 exact⟨rfl,rfl⟩
theorem jed{w:World}{T:Nat->Nat}{R b:Nat}{text:ByteArray}{p:PS}{V:PV}(h:jA w T R b text p V):
  Calls Tryz.prog 76 #[.pointer (some ⟨b,0,none⟩)] w fun e w'=>e=.returned (.bool (vr p))/\w=w':=by
 obtain⟨a,cap,e1,hc⟩:=jg h.r6
 have c1:w.cell? ⟨b,6,none⟩=some (.slice a p.fields.length cap):=by rw[<- e1];exact h.cells.cell 6
 have c2:w.cell? ⟨b,4,none⟩=some (.int .i64 p.stanzas):=h.cells.cell 4
 have hl:=h.lt
 unfold vr
 clear h
 by_cases h0:p.fields.length=0
 ·rw[if_pos h0]
  rw[h0]at c1
  have e2:(p.stanzas==400)=((p.stanzas:Int)==400):=by rw[jiX];simp;omega
  rw[e2]
  go_enter Tryz.func76,Tryz.ntmps76
  go_wp2
  go_ret
  exact⟨rfl,rfl⟩
 rw[if_neg h0]
 have e2:(p.fields.length==40)=((p.fields.length:Int)==40):=by rw[jiX];simp;omega
 have e3:((p.fields.length:Int)==0)=false:=beq_eq_false_iff_ne.2 (by omega)
 rw[e2]
 go_enter Tryz.func76,Tryz.ntmps76
 go_wp2
 go_ret
 exact⟨rfl,rfl⟩
theorem VE(l:List (List UInt8))(x:List UInt8):qH (l++[x])=qH l++[.string (B x)]:=by unfold qH;simp
theorem jd2:(Tryz.prog.info? 9).map (fun i=>(i.zero,i.size,i.bytes))=some (some (.string ⟨#[]⟩),1,16):=by kernel_rfl
theorem Zk{w w':World}{T:Nat->Nat}{R:Nat}{a o:Option Nat}{t:Nat}(low:∀k,T k≠0->R<=k/\k<w.heap.size)(hs:w.heap.size<=w'.heap.size)(hR:R<=w.heap.size)(h:yS w.heap.size w'.heap.size a o)(ha:qa T a t)(ht:t≠0):
  ∀k,VF T w.heap.size o t k≠0->R<=k/\k<w'.heap.size:=by
 intro k hk
 unfold VF at hk
 split at hk
 ·rename_i hn
  rcases h with h|⟨j,h,_,h2⟩
  ·have:=low k (by rw[ha k (by rw[<- h];exact hn.2)];exact ht);omega
  have:=hn.2;rw[h]at this;cases this;omega
 have:=low k hk;omega
theorem jA.said{w w':World}{T:Nat->Nat}{R b:Nat}{text:ByteArray}{p p':PS}{V:PV}(h:jA w T R b text p V)(hR:R<=w.heap.size)(v1':Value)
  (hc:jd w' b 81 (vT p' text v1' V.v3 V.v6)) (hr:w'.ownsRow 0 9 1 v1' p'.said.length (qH p'.said)) (hk:yS w.heap.size w'.heap.size V.v1.ownBlock v1'.ownBlock)
  (ho:zH (fun r=>r=b\/some r=V.v1.ownBlock) w w') (e1:p'.items=p.items) (e2:p'.fields=p.fields) :
  ∃T',jA w' T' R b text p' {V with v1:=v1'}/\jM w T w' T':=by
 have hs:∀k,T k≠0->T k≠1->T k≠2->w'.heap[k]?=w.heap[k]?:=fun k h0 h1 h2=>ho.same k (h.low k h0).2 (by
  rintro(e|e)
  ·exact h1 (by rw[e];exact h.tp)
  exact h2 (h.t1 k e.symm))
 have s:∀{o:Option Nat} {t:Nat},qa T o t->3<=t->∀k,o=some k->w'.heap[k]?=w.heap[k]?:=fun ht hne k hk=>hs k (by rw[ht k hk];omega) (by rw[ht k hk];omega) (by rw[ht k hk];omega)
 have lo:∀{o:Option Nat} {t:Nat},qa T o t->t≠0->∀k,o=some k->k<w.heap.size:=fun ht hne k hk=>(h.low k (by rw[ht k hk];exact hne)).2
 refine⟨VF T w.heap.size v1'.ownBlock 2,⟨hc,by rw[vG h.lt];exact h.tp,hr,Zj hk h.t1,?_,qi h.t3 (lo h.t3 (by decide)),?_,qi h.t6 (lo h.t6 (by decide)),by rw[e1];exact h.nf,fun i it v h1 h2 => ?_,Zk h.low ho.size hR hk h.t1 (by decide)⟩,
  ⟨ho.mono fun r hr' e => ?_,fun r hr'=>by rw[vG hr']⟩⟩
 ·rw[e1];exact jQ h.r3 (s h.t3 (by decide))
 ·rw[e2];exact jQ h.r6 (s h.t6 (by decide))
 ·obtain⟨a,c⟩:=h.rf i it v (by rw[<- e1];exact h1) h2
  exact⟨jQ a (s c (by decide)),qi c (lo c (by decide))⟩
 rcases e with e|e
 ·rw[e,h.tp];decide
 rw[h.t1 r e.symm];decide
def XY(p:PS)(x:Ln):PS:={p with begin_:=x.no,said:=[x.text]}
theorem jbL{w:World}{T:Nat->Nat}{R b:Nat}{text:ByteArray}{p:PS}{V:PV}(h:jA w T R b text p V)(hR:R<=w.heap.size)(x:Ln):
  Calls Tryz.prog 73 #[.pointer (some ⟨b,0,none⟩),.agg #[.int .i64 x.no,.int .i64 x.at_,.string (B x.text),.bool x.ended]] w fun e w'=>e=.returned (.tuple #[])/\∃T',jn w' T' R b text (XY p x)/\jM w T w' T':=by
 have hl:=h.lt
 have hcell:=h.cells
 have k0:w.cell? ⟨b,0,none⟩=some (.int .i64 p.begin_):=hcell.cell 0
 have k1:w.cell? ⟨b,1,none⟩=some V.v1:=hcell.cell 1
 have kf0:=hcell.frozen 0
 have kf1:=hcell.frozen 1
 have HF:=jh5 (fun w' v1' hc hr hk ho=>jA.said (p':=XY p x) h hR (w':=w') v1' hc hr hk ho rfl rfl)
 have HC:=jh5 hcell
 clear h hcell
 go_enter Tryz.func73,Tryz.ntmps73
 go_wp2
 go_region
 all_goals
  go_wp2
  go_end0
  refine⟨rfl,?_⟩
  refine Exists.elim (HF.out _ (.slice (some ⟨w.heap.size+1,0,none⟩) 1 1) ?c ?r ?k ?o) fun T' g=>⟨T',⟨_,g.1⟩,g.2⟩
  case c =>
   have hc:=((((HC.out.set 0 (.int .i64 x.no)).set 1 (.slice (some ⟨w.heap.size+1,0,none⟩) 1 1)).alloc (.cells #[.int .i64 x.no,.int .i64 x.at_,.string (B x.text),.bool x.ended] 76)).alloc (.cells #[.string (B x.text)] 9)).drew
   simpa [vT,XY]using hc
  case r =>
   have hz:(((w.setCell ⟨b,0,none⟩ (.int .i64 x.no)).setCell ⟨b,1,none⟩ (.slice (some ⟨w.heap.size+1,0,none⟩) 1 1)).alloc (.cells #[.int .i64 x.no,.int .i64 x.at_,.string (B x.text),.bool x.ended] 76)).heap.size=w.heap.size+1:=by simp[World.setCell]
   have:=World.ownsRow_lit (base:=0) (((w.setCell ⟨b,0,none⟩ (.int .i64 x.no)).setCell ⟨b,1,none⟩ (.slice (some ⟨w.heap.size+1,0,none⟩) 1 1)).alloc (.cells #[.int .i64 x.no,.int .i64 x.at_,.string (B x.text),.bool x.ended] 76)) (e:=9) (size:=1) #[.string (B x.text)] 1 (jii _) (by decide) rfl
   rw[hz]at this
   exact jQ this fun _ _=>rfl
  case k=>exact .inr ⟨w.heap.size+1,rfl,by omega,by simp[World.setCell,World.drew]⟩
  case o=>exact((((zH.refl _ w).setCell (p:=⟨b,0,none⟩) (.inl (.inl rfl)) _).setCell (p:=⟨b,1,none⟩) (.inl (.inl rfl)) _).alloc _).alloc _ |>.drew
theorem xX{w:World}{T:Nat->Nat}{b:Nat}{v:Value}{t:Nat}(hb:T b=1)(ht:qa T v.ownBlock t)(h:t≠1):v.ownBlock≠some b:=fun e=>h (by rw[<- ht b e,hb])
def xN(p:PS)(x:Ln):PS:={p with said:=p.said++[x.text]}
theorem jeb{w:World}{T:Nat->Nat}{R b:Nat}{text:ByteArray}{p:PS}{V:PV}(h:jA w T R b text p V)(hR:R<=w.heap.size)(x:Ln)(hn:p.said.length<=1000000):
  Calls Tryz.prog 72 #[.pointer (some ⟨b,0,none⟩),.agg #[.int .i64 x.no,.int .i64 x.at_,.string (B x.text),.bool x.ended]] w fun e w'=>e=.returned (.tuple #[])/\∃T',jn w' T' R b text (xN p x)/\jM w T w' T':=by
 obtain⟨i0,hi,hz0,hz1,hz2⟩:=info_parts jd2
 have hl:=h.lt
 have k1:w.cell? ⟨b,1,none⟩=some V.v1:=h.cells.cell 1
 have HF:=jh5 (fun w' v1' hc hr hk ho=>jA.said (p':=xN p x) h hR (w':=w') v1' hc hr hk ho rfl rfl)
 have HC:=jh5 h.cells
 have HO:=jh5 h.r1
 have HE:=jh5 (xX (w:=w) h.tp h.t1 (by decide))
 clear h
 go_enter Tryz.func72,Tryz.ntmps72
 go_wp2
 go_region_law ((refine qd rfl (.tmp 8) (.tmp 11) 77 rfl 9 i0 _ 1 16 Tryz.underlying77 hi hz0 hz1 hz2 rfl (by decide) V.v1 p.said.length (qH p.said) (by simp[Act.eval]) (by exact((HO.out.alloc _).alloc _).drew) ⟨w.heap.size+1,0,none⟩ 1 1 [.string (B x.text)] (by simp[Act.eval]) rfl (by have:=zl (w.alloc (.cells #[.int .i64 x.no,.int .i64 x.at_,.string (B x.text),.bool x.ended] 76)) 9 [.string (B x.text)];rw[jiO]at this;exact this) (by intro u hu;simp at hu;subst hu;rfl) (by unfold maxLen;omega) (by omega) ?_);intro v' w' ho hgr hbk;obtain⟨⟨g',cap',rfl⟩,hg',hbx,hk,hon⟩:=XL HC.out HO.out HE.out ((((jh8 _ w).alloc (jh6 _) _).alloc (by simp) _).drew) ho hgr hbk;have k1':w'.cell? ⟨b,1,none⟩=some V.v1:=hg'.cell 1;have kf1':=hg'.frozen 1)
 all_goals
  go_wp2
  go_end0
  have hvg:(Value.slice (some ⟨g',0,none⟩) (p.said.length+1) cap').ownBlock≠some b:=by
   intro e
   rcases hk with h|⟨k,h,h2,_⟩
   ·exact HE.out (h.symm.trans e)
   rw[h]at e;cases e;omega
  refine⟨rfl,Exists.elim (HF.out _ (.slice (some ⟨g',0,none⟩) (p.said.length+1) cap') ?k1 ?k2 ?k3 ?k4) fun T' g=>⟨T',⟨_,g.1⟩,g.2⟩⟩
  case k1 =>
   have hc:=hg'.set 1 (.slice (some ⟨g',0,none⟩) (p.said.length+1) cap')
   simpa [vT,xN]using hc
  case k2 =>
   have hr:=jT (p:=⟨b,1,none⟩) ho hvg (.slice (some ⟨g',0,none⟩) (p.said.length+1) cap')
   have e1:(xN p x).said.length=p.said.length+1:=by simp[xN]
   have e2:qH (xN p x).said=qH p.said++[.string (B x.text)]:=VE _ _
   rw[e1,e2]
   exact hr
  case k3=>unfold yS;simpa [World.setCell]using hk
  case k4=>exact(hon.mono (fun r _ h=>.inr h)).setCell (p:=⟨b,1,none⟩) (.inl (.inl rfl)) _
theorem Xo:(Tryz.prog.info? 98).map (fun i=>(i.zero,i.size,i.bytes))=some (some (.agg #[.int .i64 0,.string ⟨#[]⟩,.slice none 0 0]),3,48):=by kernel_rfl
theorem jeu(text:ByteArray)(a e:Nat):text.extract a e=B ((text.data.toList.take e).drop a):=by
 have h:=ji7 text a e
 have h2:(text.data.toList.take e).drop a=(text.data.toList.drop a).take (e-a):=by rw[List.drop_take]
 rw[h2,<- h,jbh]
def Xj(T:Nat->Nat)(a c:Nat):Nat->Nat:=fun k=>if T k=a then c else T k
theorem yC{T:Nat->Nat}{a c:Nat}{o:Option Nat}{t:Nat}(h:qa T o t)(ht:t≠a):qa (Xj T a c) o t:=by
 intro k hk;unfold Xj;rw[if_neg (by rw[h k hk];exact ht)];exact h k hk
theorem jdR{T:Nat->Nat}{a c:Nat}{o:Option Nat}(h:qa T o a):qa (Xj T a c) o c:=by
 intro k hk;unfold Xj;rw[if_pos (h k hk)]
theorem Yo{T:Nat->Nat}{a c:Nat}(ha:a≠0)(hc:c≠0)(k:Nat):Xj T a c k=0↔T k=0:=by
 unfold Xj
 split
 ·rename_i h;rw[h];exact⟨fun e=>absurd e hc,fun e=>absurd e ha⟩
 exact Iff.rfl
theorem jA.item{w w':World}{T:Nat->Nat}{R b:Nat}{text:ByteArray}{p p':PS}{V:PV}(h:jA w T R b text p V)(hR:R<=w.heap.size)(v3':Value)(it:It)
  (hc:jd w' b 81 (vT p' text V.v1 v3' (.slice none 0 0))) (hr:w'.ownsRow 0 98 3 v3' (p.items.length+1) (jK p.items V.fvs++xm it V.v6)) (hk:yS w.heap.size w'.heap.size V.v3.ownBlock v3'.ownBlock)
  (ho:zH (fun r=>r=b\/some r=V.v3.ownBlock) w w') (e1:p'.items=p.items++[it]) (e2:p'.fields=[]) (e3:p'.said=p.said) (e4:it.fields=p.fields) :
  ∃T',jA w' T' R b text p' {V with v3:=v3',v6:=.slice none 0 0,fvs:=V.fvs++[V.v6]}/\jM w T w' T':=by
 have hs:∀k,T k≠0->T k≠1->T k≠3->w'.heap[k]?=w.heap[k]?:=fun k h0 h1 h2=>ho.same k (h.low k h0).2 (by
  rintro(e|e)
  ·exact h1 (by rw[e];exact h.tp)
  exact h2 (h.t3 k e.symm))
 have s:∀{o:Option Nat} {t:Nat},qa T o t->t≠0->t≠1->t≠3->∀k,o=some k->w'.heap[k]?=w.heap[k]?:=fun ht h0 h1 h3 k hk=>hs k (by rw[ht k hk];exact h0) (by rw[ht k hk];exact h1) (by rw[ht k hk];exact h3)
 have lo:∀{o:Option Nat} {t:Nat},qa T o t->t≠0->∀k,o=some k->k<w.heap.size:=fun ht hne k hk=>(h.low k (by rw[ht k hk];exact hne)).2
 have lowM:∀k,Xj T 4 5 k≠0->R<=k/\k<w.heap.size:=fun k hk=>h.low k (fun e=>hk ((Yo (by decide) (by decide) k).2 e))
 refine⟨VF (Xj T 4 5) w.heap.size v3'.ownBlock 3,⟨hc,?_,?_,?_,?_,?_,?_,?_,?_,?_,?_⟩,⟨ho.mono fun r hr' e => ?_,fun r hr'=>by rw[vG hr'];exact Yo (by decide) (by decide) r⟩⟩
 ·rw[vG h.lt];unfold Xj;rw[h.tp];rfl
 ·rw[e3];exact jQ h.r1 (s h.t1 (by decide) (by decide) (by decide))
 ·exact qi (yC h.t1 (by decide)) (lo h.t1 (by decide))
 ·rw[e1,jh7,vJ _ _ _ _ h.nf];exact hr
 ·exact Zj hk (yC h.t3 (by decide))
 ·rw[e2];exact⟨by simp[jt],.inl ⟨rfl,rfl⟩⟩
 ·exact fun k hk=>by cases hk
 ·rw[e1,jh7,jh7,h.nf];rfl
 ·intro i it' v h1 h2
  rw[e1]at h1
  dsimp only at h2
  rcases jir i p.items.length with q|q
  ·rw[jiT q]at h1
   rw[jiT (by rw[h.nf];exact q)]at h2
   obtain⟨a,c⟩:=h.rf i it' v h1 h2
   exact⟨jQ a (s c (by decide) (by decide) (by decide)),qi (yC c (by decide)) (lo c (by decide))⟩
  rw[jiD q]at h1
  rw[jiD (by rw[h.nf];exact q),h.nf]at h2
  have hz:i-p.items.length=0:=by
   rcases jjF (i-p.items.length) with z|z
   ·exact z
   rw[jis (by simp;omega)]at h1;cases h1
  rw[hz]at h1 h2
  cases h1;cases h2
  rw[e4]
  exact⟨jQ h.r6 (s h.t6 (by decide) (by decide) (by decide)),qi (jdR h.t6) (lo h.t6 (by decide))⟩
 ·exact Zk lowM ho.size hR hk (yC h.t3 (by decide)) (by decide)
 rcases e with e|e
 ·rw[e,h.tp];decide
 rw[h.t3 r e.symm];decide
theorem Ji{w:World}{T:Nat->Nat}{R b:Nat}{text:ByteArray}{p:PS}{V:PV}(h:jA w T R b text p V)(hR:R<=w.heap.size)(kind e:Nat)(h1:p.at_<=e)(h2:e<=text.size)(h3:text.size<=1000000)(hn:p.items.length<=1000000):
  Calls Tryz.prog 74 #[.pointer (some ⟨b,0,none⟩),.int .i64 kind,.int .i64 e] w fun e' w'=>e'=.returned (.tuple #[])/\∃T',jn w' T' R b text (jX text.data.toList p kind e)/\jM w T w' T':=by
 obtain⟨i0,hi,hz0,hz1,hz2⟩:=info_parts Xo
 obtain⟨a6,c6,e6,_⟩:=jg h.r6
 have hl:=h.lt
 have HF:=jh5 (fun w' v3' hc hr hk ho=>jA.item (p':=jX text.data.toList p kind e) h hR (w':=w') v3' ⟨kind,(text.data.toList.take e).drop p.at_,p.fields⟩ hc hr hk ho rfl rfl rfl rfl)
 have HC:=jh5 h.cells
 have HO:=jh5 h.r3
 have HE:=jh5 (xX (w:=w) h.tp h.t3 (by decide))
 have HT:=jh5 (jeu text p.at_ e)
 have q3:w.cell? ⟨b,3,none⟩=some V.v3:=h.cells.cell 3
 have q2:w.cell? ⟨b,2,none⟩=some (.string text):=h.cells.cell 2
 have q5:w.cell? ⟨b,5,none⟩=some (.int .i64 p.at_):=h.cells.cell 5
 have q6:w.cell? ⟨b,6,none⟩=some (.slice a6 p.fields.length c6):=by rw[<- e6];exact h.cells.cell 6
 clear h
 go_enter Tryz.func74,Tryz.ntmps74
 go_wp2
 go_cut [] (fun wx=>∃g' cap',jd wx b 81 (vT p text V.v1 (.slice (some ⟨g',0,none⟩) (p.items.length+1) cap') V.v6) /\
  wx.ownsRow 0 98 3 (.slice (some ⟨g',0,none⟩) (p.items.length+1) cap') (p.items.length+1) (jK p.items V.fvs++[.int .i64 kind,.string (text.extract p.at_ e),.slice a6 p.fields.length c6]) /\
  yS w.heap.size wx.heap.size V.v3.ownBlock (Value.slice (some ⟨g',0,none⟩) (p.items.length+1) cap').ownBlock/\g'≠b/\zH (fun r=>r=b\/some r=V.v3.ownBlock) w wx)
 case first =>
  go_region_law ((refine qd rfl (.tmp 10) (.tmp 27) 47 rfl 98 i0 _ 3 48 Tryz.underlying47 hi hz0 hz1 hz2 rfl (by decide) V.v3 p.items.length (jK p.items V.fvs) (by simp[Act.eval]) (by exact(HO.out.alloc _).drew) ⟨w.heap.size,0,none⟩ 1 1 [.int .i64 kind,.string (text.extract p.at_ e),.slice a6 p.fields.length c6] (by simp[Act.eval]) rfl (zl w 98 [.int .i64 kind,.string (text.extract p.at_ e),.slice a6 p.fields.length c6]) (by intro u hu;simp at hu;rcases hu with rfl | rfl | rfl<;>rfl) (by unfold maxLen;omega) (by omega) ?_);intro v' w' ho hgr hbk;obtain⟨⟨g',cap',rfl⟩,hg',hbx,hk,hon⟩:=XL HC.out HO.out HE.out (((jh8 _ w).alloc (jh6 _) _).drew) ho hgr hbk;have k3':w'.cell? ⟨b,3,none⟩=some V.v3:=hg'.cell 3;have kf3':=hg'.frozen 3)
  all_goals
   go_wp2
   go_meet
   have hvg:g'≠b:=by
    intro e
    rcases hk with h|⟨k,h,h2,_⟩
    ·exact HE.out (h.symm.trans (by rw[e];rfl))
    have hh:g'=k:=jh9 (show some g'=some k from h)
    omega
   refine⟨g',cap',?_,jT (p:=⟨b,3,none⟩) ho (fun e=>hvg (by cases e;rfl)) _,?_,hvg,(hon.mono (fun r _ h=>.inr h)).setCell (p:=⟨b,3,none⟩) (.inl (.inl rfl)) _⟩
   ·simpa [vT]using hg'.set 3 (.slice (some ⟨g',0,none⟩) (p.items.length+1) cap')
   unfold yS;simpa [World.setCell]using hk
 case rest =>
 obtain⟨g',cap',hc,hr,hk,hvg,ho⟩:=hcut
 have k5:wc.cell? ⟨b,5,none⟩=some (.int .i64 p.at_):=hc.cell 5
 have kf5:=hc.frozen 5
 have k6:wc.cell? ⟨b,6,none⟩=some (.slice a6 p.fields.length c6):=by rw[<- e6];exact hc.cell 6
 have kf6:=hc.frozen 6
 go_wp2
 go_end0
 refine⟨rfl,Exists.elim (HF.out _ (.slice (some ⟨g',0,none⟩) (p.items.length+1) cap') ?k1 ?k2 ?k3 ?k4) fun T' g=>⟨T',⟨_,g.1⟩,g.2⟩⟩
 case k1 =>
  have:=(hc.set 5 (.int .i64 e)).set 6 (.slice none 0 0)
  simpa [vT,jX]using this
 case k2 =>
  have e9:xm ⟨kind,(text.data.toList.take e).drop p.at_,p.fields⟩ V.v6=[.int .i64 kind,.string (text.extract p.at_ e),.slice a6 p.fields.length c6]:=by
   unfold xm;rw[HT.out,e6]
  rw[e9]
  exact jT (p:=⟨b,6,none⟩) (jT (p:=⟨b,5,none⟩) hr (fun e=>hvg (by cases e;rfl)) _) (fun e=>hvg (by cases e;rfl)) _
 case k3=>unfold yS at hk ⊢;simpa [World.setCell]using hk
 case k4=>exact(ho.setCell (p:=⟨b,5,none⟩) (.inl (.inl rfl)) _).setCell (p:=⟨b,6,none⟩) (.inl (.inl rfl)) _
theorem Qa{w:World}{T:Nat->Nat}{R b:Nat}{text:ByteArray}{p:PS}(h:jn w T R b text p)(hR:R<=w.heap.size)(e:Nat)(h1:p.at_<=e)(h2:e<=text.size)(h3:text.size<=1000000)(hn:p.items.length<=1000000)(hs:p.stanzas<=1000000):
  Calls Tryz.prog 32 #[.pointer (some ⟨b,0,none⟩),.int .i64 e] w fun e' w'=>e'=.returned (.tuple #[])/\∃T',jn w' T' R b text (jm text.data.toList p e)/\jM w T w' T':=by
 obtain⟨V,h⟩:=h
 obtain⟨a6,c6,e6,_⟩:=jg h.r6
 have hl:=h.lt
 have q5:w.cell? ⟨b,5,none⟩=some (.int .i64 p.at_):=h.cells.cell 5
 have q6:w.cell? ⟨b,6,none⟩=some (.slice a6 p.fields.length c6):=by rw[<- e6];exact h.cells.cell 6
 unfold jm
 by_cases he:p.at_=e
 ·rw[if_pos he]
  have g:jn w T R b text p:=⟨V,h⟩
  have x1:((p.at_:Int)==(e:Int))=true:=by rw[he];simp
  clear h
  go_enter Tryz.func32,Tryz.ntmps32
  go_wp2
  refine bodyPost_ret (results_none rfl _ _ _) rfl ?_
  exact⟨rfl,T,g,jM.refl _ _⟩
 rw[if_neg he]
 have x1:((p.at_:Int)==(e:Int))=false:=beq_eq_false_iff_ne.2 (by omega)
 by_cases hf:p.fields.length=0
 ·rw[if_pos hf]
  have x2:((p.fields.length:Int)==0)=true:=by rw[hf];rfl
  have EI:=jh5 (Ji h hR 2 e h1 h2 h3 hn)
  clear h
  go_enter Tryz.func32,Tryz.ntmps32
  go_wp2_with fail
  refine EI.out.mono ?_
  rintro e' w1 ⟨rfl,T1,g1,s1⟩
  go_wp2
  go_end0
  exact⟨rfl,T1,g1,s1⟩
 rw[if_neg hf]
 have x2:((p.fields.length:Int)==0)=false:=beq_eq_false_iff_ne.2 (by omega)
 have EI:=jh5 (Ji h hR 3 e h1 h2 h3 hn)
 clear h
 go_enter Tryz.func32,Tryz.ntmps32
 go_wp2_with fail
 refine EI.out.mono ?_
 rintro e' w1 ⟨rfl,T1,⟨V1,g1⟩,s1⟩
 have hl1:=g1.lt
 have k4:w1.cell? ⟨b,4,none⟩=some (.int .i64 p.stanzas):=g1.cells.cell 4
 have kf4:=g1.cells.frozen 4
 have n1:IntKind.i64.wrap ((p.stanzas:Int)+1)=(p.stanzas:Int)+1:=jiz _ (by omega)
 go_wp2
 go_end0
 refine⟨rfl,T1,⟨V1,?_⟩,s1.trans ⟨((zH.refl _ _).setCell (p:=⟨b,4,none⟩) (.inl (by rw[g1.tp];decide)) _),fun _ _=>Iff.rfl⟩⟩
 have hc:jd (w1.setCell ⟨b,4,none⟩ (.int .i64 ((p.stanzas:Int)+1))) b 81 (vT {jX text.data.toList p 3 e with stanzas:=p.stanzas+1} text V1.v1 V1.v3 V1.v6):=by
  have:=g1.cells.set 4 (.int .i64 ((p.stanzas:Int)+1))
  simpa [vT]using this
 have ne:∀{o:Option Nat} {t:Nat},qa T1 o t->t≠1->o≠some b:=fun ht h1 e=>h1 (by rw[<- ht b e,g1.tp])
 exact⟨hc,g1.tp,jT g1.r1 (ne g1.t1 (by decide)) _,g1.t1,jT g1.r3 (ne g1.t3 (by decide)) _,g1.t3,jT g1.r6 (ne g1.t6 (by decide)) _,g1.t6,g1.nf,
  fun i it v a c=>⟨jT (g1.rf i it v a c).1 (ne (g1.rf i it v a c).2 (by decide)) _,(g1.rf i it v a c).2⟩,fun k hk=>by simpa [World.setCell]using g1.low k hk⟩
end Go.Proofs.YtmdhainabeljpaaGreatDoor
namespace Go.Proofs.YtmdhainabeljpaaGreatDoor
open Go.RowKit Go.Shelf
theorem jdk{l:List UInt8}(h:l≠[]):(B l).toList.isEmpty=false/\¬(B l).toList=[]:=by
 rw[jiu,ji];exact⟨by simpa using h,h⟩
theorem mkB(l:List UInt8):(⟨l.toArray⟩:ByteArray)=B l:=rfl
theorem jcH(k l:List UInt8)(hk:k.length<=100000)(hl:l.length<=100000)(w:World):
  Calls Tryz.prog 162 #[.string (B k),.string (B l)] w fun e w'=>e=.returned (.string (B (zE k l)))/\w=w':=by
 by_cases h:l=[]
 ·have e:B (zE k l)=B k ++ ⟨#[58]⟩:=by unfold zE;rw[if_pos h];exact(jj k [58]).symm
  rw[e]
  subst h
  have hz:=je k
  generalize B k=s at *
  rw[show B []=⟨#[]⟩ from rfl]
  go_enter Tryz.func162,Tryz.ntmps162
  go_wp2
  go_ret
  exact⟨rfl,rfl⟩
 have e:B (zE k l)=((B k ++ ⟨#[58]⟩) ++ ⟨#[32]⟩)++B l:=by
  unfold zE;rw[if_neg h]
  rw[show(⟨#[58]⟩:ByteArray)=B [58] from rfl,show(⟨#[32]⟩:ByteArray)=B [32] from rfl,jj,jj,jj];simp
 rw[e]
 obtain⟨n1,n2⟩:=jdk h
 have hz:=je k
 have hz2:=je l
 generalize B k=s at *
 generalize B l=t at *
 clear e
 go_enter Tryz.func162,Tryz.ntmps162
 go_wp2
 go_ret
 exact⟨rfl,rfl⟩
theorem jfB(l:List UInt8):Lib.hasPrefix l [46]=(l.head?==some 46):=by
 unfold Lib.hasPrefix
 cases l with
 | nil=>rfl
 | cons a t=>simp[List.isPrefixOf,Bool.beq_comm]
theorem jgi(l:List UInt8)(w:World):
  Calls Tryz.prog 39 #[.string (B l),.string ⟨#[46]⟩] w fun e w'=>e=.returned (.bool (l.head?==some 46))/\w=w':=by
 refine(Tryz.strings_HasPrefix (B l) ⟨#[46]⟩ _).mono ?_
 rw[show(⟨#[46]⟩:ByteArray).data.toList=[46] from rfl,jfB,ji]
 rintro e w' ⟨rfl,rfl⟩
 exact⟨rfl,rfl⟩
theorem Ue(l:List UInt8)(hl:l.length<=100000)(w:World):
  Calls Tryz.prog 163 #[.string (B l)] w fun e w'=>e=.returned (.string (B (jl l)))/\Below w.heap.size w w':=by
 have hz:=je l
 cases hb:jI l with
 | true =>
  have e:B (jl l)=⟨#[32,46]⟩++B l:=by
   unfold jl vX;rw[hb];exact(jj [32,46] l).symm
  rw[e]
  have T:=fun w=>UV (B l) (by omega) (by rw[ji];exact hb) w
  clear e hb
  generalize B l=s at *
  go_enter Tryz.func163,Tryz.ntmps163
  go_wp2_with (go_at_call 108;refine(T _).mono ?_;rintro e w1 ⟨rfl,b1⟩)
  go_ret
  exact⟨rfl,b1⟩
 | false =>
 have T:=fun w=>Qw (B l) (by omega) w
 obtain⟨n1,n2⟩:=VX (B l) (by rw[ji];exact hb)
 have D:=jgi l
 generalize Qv (B l)=tr at *
 cases hd:(l.head?==some 46) with
 | true =>
  have e:B (jl l)=⟨#[32,46]⟩++B l:=by
   unfold jl vX;rw[hb,hd];exact(jj [32,46] l).symm
  rw[e]
  rw[hd]at D
  clear e hb hd
  generalize B l=s at *
  go_enter Tryz.func163,Tryz.ntmps163
  go_wp2_with (first | (go_at_call 108;refine(T _).mono ?_;rintro e w1 ⟨rfl,b1⟩) | (go_at_call 39;refine(D _).mono ?_;rintro e w2 ⟨rfl,rfl⟩))
  go_ret
  exact⟨rfl,b1⟩
 | false =>
 have e:B (jl l)=⟨#[32]⟩++B l:=by
  unfold jl vX;rw[hb,hd];exact(jj [32] l).symm
 rw[e]
 rw[hd]at D
 clear e hb hd
 generalize B l=s at *
 go_enter Tryz.func163,Tryz.ntmps163
 go_wp2_with (first | (go_at_call 108;refine(T _).mono ?_;rintro e w1 ⟨rfl,b1⟩) | (go_at_call 39;refine(D _).mono ?_;rintro e w2 ⟨rfl,rfl⟩))
 go_ret
 exact⟨rfl,b1⟩
def zi(k v:List UInt8):Value:=.agg #[.string (B k),.string (B v)]
attribute [local go_sem] qL jg9 je8
theorem JV(k v:List UInt8)(hk:k.length<=1000000)(hv:v.length<=1000000)(w:World):
  Calls Tryz.prog 113 #[zi k v] w fun e w'=>e=.returned (Zy (jR k v))/\Below w.heap.size w w':=by
 have K:=fun w=>jcp (B k) (by rw[je];unfold maxLen;omega) w
 rw[ji]at K
 have hz:=je v
 unfold jR zi
 generalize B k=s at *
 cases hg:ju k with
 | false =>
  rw[hg]at K
  generalize B v=t at *
  go_enter Tryz.func113,Tryz.ntmps113
  go_wp2_with (go_at_call 110;refine(K _).mono ?_;rintro e w1 ⟨rfl,rfl⟩)
  go_ret
  exact⟨rfl,(jh8 _ _).alloc (jh6 _) _⟩
 | true =>
 rw[hg]at K
 by_cases h:v.length<=1000
 ·rw[if_pos rfl,if_pos h]
  rw[<- hz]at h
  generalize B v=t at *
  go_enter Tryz.func113,Tryz.ntmps113
  go_wp2_with (go_at_call 110;refine(K _).mono ?_;rintro e w1 ⟨rfl,rfl⟩)
  go_ret
  exact⟨rfl,(jh8 _ _).alloc (jh6 _) _⟩
 rw[if_pos rfl,if_neg h]
 rw[<- hz]at h
 generalize B v=t at *
 go_enter Tryz.func113,Tryz.ntmps113
 go_wp2_with (go_at_call 110;refine(K _).mono ?_;rintro e w1 ⟨rfl,rfl⟩)
 go_ret
 exact⟨rfl,(jh8 _ _).alloc (jh6 _) _⟩
theorem Kl(k v:List UInt8)(hk:k.length<=1000000)(hv:v.length<=1000000)(w:World):
  Calls Tryz.prog 164 #[zi k v] w fun e w'=>e=.returned (.int .i64 (jR k v:Nat))/\Below w.heap.size w w':=by
 have K:=fun w=>Zl (B k) (by rw[je];omega) w
 rw[ji]at K
 have hz:=je v
 unfold jR zi
 generalize B k=s at *
 cases hg:ju k with
 | false =>
  rw[hg]at K
  generalize B v=t at *
  go_enter Tryz.func164,Tryz.ntmps164
  go_wp2_with (go_at_call 130;refine(K _).mono ?_;rintro e w1 ⟨rfl,rfl⟩)
  go_ret
  exact⟨rfl,(jh8 _ _).alloc (jh6 _) _⟩
 | true =>
 rw[hg]at K
 by_cases h:v.length<=1000
 ·rw[if_pos rfl,if_pos h]
  rw[<- hz]at h
  generalize B v=t at *
  go_enter Tryz.func164,Tryz.ntmps164
  go_wp2_with (go_at_call 130;refine(K _).mono ?_;rintro e w1 ⟨rfl,rfl⟩)
  go_ret
  exact⟨rfl,(jh8 _ _).alloc (jh6 _) _⟩
 rw[if_pos rfl,if_neg h]
 rw[<- hz]at h
 generalize B v=t at *
 go_enter Tryz.func164,Tryz.ntmps164
 go_wp2_with (go_at_call 130;refine(K _).mono ?_;rintro e w1 ⟨rfl,rfl⟩)
 go_ret
 exact⟨rfl,(jh8 _ _).alloc (jh6 _) _⟩
theorem WL(l:List UInt8)(h:(10:UInt8)∈l):jp l=l.take (l.takeWhile (· != 10)).length::jp (l.drop ((l.takeWhile (· != 10)).length+1)):=by
 have e:l=l.takeWhile (· != 10)++10::l.drop ((l.takeWhile (· != 10)).length+1):=by
  have a:=zg l
  unfold zY nl qy at a
  have hc:l.contains 10=true:=by simpa using h
  unfold zY nl at a
  rw[if_pos hc,if_pos hc]at a
  simpa using a
 have hp:(10:UInt8)∉l.takeWhile (· != 10):=fun hm=>by have:=List.all_eq_true.1 (jjh (l:=l) (p:=(· != 10))) _ hm;simp at this
 have ht:l.take (l.takeWhile (· != 10)).length=l.takeWhile (· != 10):=(List.prefix_iff_eq_take.1 (jjg _)).symm
 rw[ht]
 conv=>lhs;rw[e]
 exact Yi _ _ hp
theorem ZJ:∀(k:Nat) (l:List UInt8),l.count 10=k->Lib.splitK [10] 0 k l=jp l
 | 0,l,h=>by
  have:(10:UInt8)∉l:=List.count_eq_zero.1 h
  rw[Yj l this];rfl
 | k+1,l,h=>by
  have hm:(10:UInt8)∈l:=List.count_pos_iff.1 (by omega)
  have hp:=WL l hm
  have hl:=yn l
  rcases qJ l 10 with ⟨_,h2⟩|⟨h1,_⟩
  ·exact absurd hm h2
  unfold Lib.splitK
  rw[Lib.index_one,h1]
  rw[hp]at hl
  have hl2:=yn (l.drop ((l.takeWhile (· != 10)).length+1))
  rw[if_neg (by simp<;>omega),hp]
  simp only[jju,jj0,jiS]
  rw[ZJ k _ (by simp only[jic]at hl;omega)]
theorem XZ(l:List UInt8):Lib.splitB ⟨#[10]⟩ 0 (Lib.countB (B l) ⟨#[10]⟩) (B l)=(jp l).map B/\Lib.countB (B l) ⟨#[10]⟩+1=(jp l).length:=by
 have hc:Lib.countB (B l) ⟨#[10]⟩=l.count 10:=by
  show Lib.count (B l).data.toList [10]=_
  rw[Lib.count_one,ji]
 have h:=Lib.splitB_data ⟨#[10]⟩ 0 (Lib.countB (B l) ⟨#[10]⟩) (B l)
 rw[ji,hc]at h
 rw[hc]
 refine⟨?_,(yn l).symm⟩
 have h2:Lib.splitK (⟨#[10]⟩:ByteArray).data.toList 0 (l.count 10) l=jp l:=ZJ _ l rfl
 rw[h2]at h
 rw[<- h,jjO]
 conv=>lhs;rw[<- List.map_id (Lib.splitB ⟨#[10]⟩ 0 (l.count 10) (B l))]
 exact jj8 fun s _=>(jbh s).symm
theorem KU:(Tryz.prog.info? 9).map (fun i=>(i.zero,i.size,i.bytes))=some (some (.string ByteArray.empty),1,16):=by kernel_rfl
theorem jam(l:List UInt8)(hl:l.length<=1000000)(w:World):
  Calls Tryz.prog 161 #[.string (B l),.string ⟨#[10]⟩] w fun e w' =>
   e=.returned (.slice (some ⟨w.heap.size,0,none⟩) (jp l).length (jp l).length)/\w'=w.alloc (.cells (((jp l).map B).map Value.string).toArray 9):=by
 obtain⟨p1,p2⟩:=XZ l
 have hz:=je l
 have c:=Any.strings_genSplit_core Tryz.lays221 KU (B l) ⟨#[10]⟩ 0 (-1) (Lib.countB (B l) ⟨#[10]⟩+1) w (by omega) (by decide) (jii _)
  (fun x cc hx=>(Tryz.strings_Index_one x 10 _).mono (fun e w' ⟨he,hw⟩=>⟨by rw[he];show _=Ending.returned (Value.int .i64 (Lib.index x.data.toList [10]));rw[Lib.index_one],hw⟩))
  ((Tryz.strings_Count_one (B l) 10 w).mono (fun e w' ⟨he,hw⟩=>⟨by rw[he];show _=Ending.returned (Value.int .i64 ((Lib.count (B l).data.toList [10]:Nat):Int));rw[Lib.count_one];rfl,hw⟩))
  (by decide) (by decide) (by
   have:=Lib.countB_le ⟨#[10]⟩ (by decide) (B l).size (B l) (jh6 _)
   rw[if_pos (by decide)];omega)
 rw[Nat.add_sub_cancel,p1]at c
 have e2:Lib.cellsOf ((jp l).map B) (Lib.countB (B l) ⟨#[10]⟩+1)=(((jp l).map B).map Value.string).toArray:=by
  rw[p2,show(jp l).length=((jp l).map B).length by simp];exact Lib.cellsOf_full _
 rw[e2,jiA,p2]at c
 generalize (jp l).length=n at *
 generalize (((jp l).map B).map Value.string).toArray=cs at *
 clear p1 p2 e2
 generalize B l=s at *
 go_enter Tryz.func161,Tryz.ntmps161
 go_wp2_with (go_at_call 184;refine c.mono ?_;rintro e w' ⟨rfl,rfl⟩)
 go_ret
 exact⟨rfl,rfl⟩
end Go.Proofs.YtmdhainabeljpaaGreatDoor
namespace Go.Proofs.YtmdhainabeljpaaGreatDoor
open Go.RowKit Go.Shelf
theorem zu{w w':World}{base N:Nat}{e:TypeId}{size:Nat}{v:Value}{n:Nat}{xs:List Value}(h:w.ownsRow base e size v n xs)(hb:Below N w w')(hN:w.heap.size<=N):w'.ownsRow base e size v n xs:=by
 refine⟨h.1,?_⟩
 rcases h.2 with hn|⟨g,cap,cur,hv,hg,hc,rest⟩
 ·exact .inl hn
 refine .inr ⟨g,cap,cur,hv,hg,?_,rest⟩
 have:g<w.heap.size:=(Array.getElem?_eq_some_iff.1 hc).1
 exact(hb.block g (by omega)).trans hc
def qY(w:World)(base:Nat)(v:Value)(ss:List ByteArray):Prop:=w.ownsRow base 9 1 v ss.length (ss.map Value.string)
theorem qY.kept{w w':World}{base N:Nat}{v:Value}{ss:List ByteArray}(h:qY w base v ss)(hb:Below N w w')(hN:w.heap.size<=N):qY w' base v ss:=zu h hb hN
theorem qY.strs{w:World}{base:Nat}{v:Value}{ss:List ByteArray}(h:qY w base v ss):Strs w v ss:=by
 rcases jiY h with ⟨rfl,hn⟩|⟨g,cap,rfl⟩
 ·have:ss=[]:=by cases ss with | nil=>rfl | cons _ _=>simp at hn
  subst this
  exact Strs.none _ _
 refine⟨_,cap,rfl,(by rcases h.2 with ⟨q,_⟩ | ⟨g',cap',cur,q,_,_,q2,_⟩;cases q;cases q;exact q2),fun i s hs=>⟨g,0,rfl,(jje h g rfl).2,?_⟩⟩
 have hi:i<ss.length:=by
  rcases jir i ss.length with q|q
  ·exact q
  rw[jis q]at hs;cases hs
 rw[jiH,jin h i (by omega),ji3,hs];rfl
theorem qY.one(w:World)(base:Nat)(hb:base<=w.heap.size)(s:ByteArray):qY (w.alloc (.cells #[.string s] 9)) base (.slice (some ⟨w.heap.size,0,none⟩) 1 1) [s] :=
 World.ownsRow_lit w #[.string s] 1 hb (by decide) rfl
theorem yy(W:World)(x:ByteArray)(t:TypeId):∀(j:Nat) u,[Value.string x][j]?=some u->(W.alloc (.cells #[.string x] t)).cell? ((⟨W.heap.size,0,none⟩:Addr).add j)=some u:=by
 intro j u h
 have hadd:(⟨W.heap.size,0,none⟩:Addr).add j=⟨W.heap.size,j,none⟩:=by unfold Addr.add;split<;>simp_all
 rw[hadd,jjk _ _ _ _ rfl]
 match j,h with
 | 0,h=>simpa using h
theorem Gw{k v:List UInt8}{p:List UInt8}{r:List (List UInt8)}(h:jp v=p::r):jO k v=zE k p::r.map jl:=by unfold jO;rw[h];rfl
theorem Yz:∀(r:List (List UInt8)) (q:List UInt8),q∈r->q.length<=(r.map List.length).sum
 | [],q,h=>by simp at h
 | a::r,q,h=>by
  rcases List.mem_cons.1 h with rfl|h
  ·simp
  have:=Yz r q h;simp;omega
theorem Gp{v p:List UInt8}{r:List (List UInt8)}(h:jp v=p::r):p.length<=v.length/\(∀q∈r,q.length<=v.length)/\r.length<=v.length:=by
 have a:=Qk v
 rw[h]at a
 simp only[jiP,ji5,jic]at a
 refine⟨by omega,fun q hq => ?_,by omega⟩
 have:q.length<=(r.map List.length).sum:=Yz _ _ hq
 omega
attribute [local go_sem] qL
theorem jcd(k v:List UInt8)(hk:k.length<=100000)(hv:v.length<=100000)(w:World)(h:jR k v≠0):
  Calls Tryz.prog 127 #[zi k v] w fun e w'=>e=.returned (.tuple #[.slice none 0 0,Zy (jR k v)])/\Below w.heap.size w w':=by
 have C:=fun w=>JV k v (by omega) (by omega) w
 rw[zk _ (jjr h)]at C ⊢
 generalize jR k v=n at *
 unfold zi at *
 generalize B k=s at *
 generalize B v=t at *
 go_enter Tryz.func127,Tryz.ntmps127
 go_wp2_with (go_at_call 113;refine(C _).mono ?_;rintro e w1 ⟨rfl,b1⟩;have c0:=b1.cell (p:=⟨w.heap.size,0,none⟩) (by simp);have c1:=b1.cell (p:=⟨w.heap.size,1,none⟩) (by simp))
 go_ret2
 exact⟨rfl,((jh8 _ _).alloc (jh6 _) _).trans (b1.mono (by simp))⟩
end Go.Proofs.YtmdhainabeljpaaGreatDoor

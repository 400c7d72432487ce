import PyProof.Rows.All
import Wide.All
import OpenK.AllK
import Wide.FinOn
import Lean
import PyProof.EqAt
import PyProof.EqKinds
import PyProof.TupleCall
import PyProof.ListRange
import PyProof.PureStr
import PyProof.MeetsStr3
import PyProof.Draws
import PySem.Challenge.RW_dockethall_k45_is_unrest
namespace PySem.W.Fast
def tw12343217637105852184:=0
def tw1477421849760165573:=0
def tw13220242015352587168:=0
def tw5846724112254533794:=0
def tw14357323890055535172:=0
def tw16955093973202748480:=0
def tw6113807153999385072:=0
def tw5307609133312838002:=0
def tw13883595964632296066:=0
def tw17250109457274286651:=0
def tw1166978820848957384:=0
def tw4162304420923993198:=0
def tw4548875530256429516:=0
def tw7155804352602669282:=0
def tw4107774578237271856:=0
def tw1001486983096007162:=0
def tw18226692368023713777:=0
def tw4599445957635638193:=0
def tw7932593617581705037:=0
def tw4838370755779219312:=0
def tw10675150661105703858:=0
def tw602638074136603666:=0
def tw3418716581049135188:=0
def tw821700797712282820:=0
def tw84653836355667137:=0
def tw157615266576432357:=0
def tw7407905971161715253:=0
def tw16092143774037510677:=0
def tw13994862349736777435:=0
def tw9672850012284729659:=0
def tw5172614866334276494:=0
def tw17611893168976468386:=0
def tw16492968175671226761:=0
def tw140485296401111317:=0
def tw2639326567756882063:=0
def tw3795944169223757087:=0
def tw7820313194886187743:=0
def tw17051137011862473577:=0
def tw606018217937485204:=0
def tw874302243680226421:=0
def tw7049459522342458754:=0
def tw562839882169966740:=0
def tw11933763667286313301:=0
def tw11793372704562460542:=0
def tw565255944580001365:=0
def tw18070239807117385628:=0
def tw13056788973316422058:=0
def tw11601771106122451440:=0
def tw11764772676702822158:=0
def tw15246019692866419021:=0
def tw1199633569145723459:=0
def tw18337677829084865476:=0
def tw9617528608339842376:=0
def tw16114743117924383862:=0
def tw332492700749729312:=0
def tw18075192086087641169:=0
def tw15512340567552894987:=0
def tw2431587922735679697:=0
def tw11465446836080881572:=0
def tw16191443782176970561:=0
def tw3456176843546934560:=0
def tw18436170030517862224:=0
def tw5274631850726844740:=0
def tw15726247213654552101:=0
def tw12751242957613178130:=0
def tw15995301922125446635:=0
def tw11770714339611264336:=0
def tw3911980301558560857:=0
def tw638874295933805373:=0
def tw2909078599389793862:=0
def tw9380358051421985463:=0
def tw13518400936590438256:=0
def tw6413437400018046855:=0
def tw5690244206620565671:=0
def tw10364682890033112763:=0
def tw2231414411282551278:=0
def tw12015837774851880487:=0
def tw12900516216121161833:=0
def tw18405835399345171780:=0
def tw9320629911822816888:=0
def tw11023956273540244127:=0
def tw2753566508127253646:=0
def tw11850618188890482183:=0
def tw3016102148748884346:=0
def tw5712870858569804424:=0
def tw2279611276534260859:=0
def tw398068986854404981:=0
def tw10905499244832613415:=0
def tw7693731440041796749:=0
def tw4931100583087870412:=0
def tw11904058690290201424:=0
def tw9090937063300125571:=0
def tw17909704376764970471:=0
def tw15972001666490752136:=0
def tw13747814304377243184:=0
def tw4672376431435029707:=0
def tw11755673553279640854:=0
def tw17044415031638731437:=0
def tw3699774082676244309:=0
def tw11561197432826627866:=0
def tw5808763521611744873:=0
def tw149401086585061274:=0
def tw10119010574709430089:=0
end PySem.W.Fast
set_option Elab.async false
set_option linter.all false
set_option maxRecDepth 100000
theorem oi{a b:Prop}(h:a):a∨b:=Or.inl h
theorem dk{p:Prop}(h:p:=by decide +kernel):p:=h
namespace L2
open PySem PySem.Spec PyProof.Rows
abbrev Key:=Sum Int Str
def keyIs:Key->Value->Bool
 | .inl k,v=>Value.isInt k v
 | .inr x,v=>Value.isStrOf x v
def keyH(w:World):Key->Int
 | .inl k=>hashInt k
 | .inr x=>hashStr w x
theorem Qcj:∀{k:Key}{v:Value},keyIs k v=true->(∃ i t,k=Sum.inl i/\v=Value.int i t)∨(∃ x t,k=Sum.inr x/\v=Value.str x t)
 | .inl i,v,h=>by
  obtain⟨t,e⟩:=Value.isInt_shape (k:=i) (v:=v) h
  exact .inl ⟨i,t,rfl,e⟩
 | .inr x,v,h=>by
  obtain⟨t,e⟩:=Value.isStrOf_shape (x:=x) (v:=v) h
  exact .inr ⟨x,t,rfl,e⟩
theorem QLe(i:Int)(t:Tok):keyIs (.inl i) (.int i t)=true:=by simp[keyIs,Value.isInt]
theorem QJz(x:Str)(t:Tok):keyIs (.inr x) (.str x t)=true:=by simp[keyIs,Value.isStrOf]
theorem QOm(a b:Int):decide ((Sum.inl a:Key)=Sum.inl b)=(a == b):=by
 by_cases e:a=b
 ·subst e;simp
 ·have h:¬ (Sum.inl a:Key)=Sum.inl b:=fun q=>e (Sum.inl.inj q)
  rw[decide_eq_false h]
  exact(beq_eq_false_iff_ne.mpr e).symm
theorem QOP(a b:Str):decide ((Sum.inr a:Key)=Sum.inr b)=decide (a=b):=by
 by_cases e:a=b
 ·subst e;simp
 ·have h:¬ (Sum.inr a:Key)=Sum.inr b:=fun q=>e (Sum.inr.inj q)
  rw[decide_eq_false h,decide_eq_false e]
theorem QOR(a:Int)(b:Str):decide ((Sum.inl a:Key)=Sum.inr b)=false:=decide_eq_false (fun q=>nomatch q)
theorem QPB(a:Str)(b:Int):decide ((Sum.inr a:Key)=Sum.inl b)=false:=decide_eq_false (fun q=>nomatch q)
def Qcb(prog:Program)(w:World):PySem.KeyKind prog w Key where
 is:=keyIs
 hash:=keyH w
 inj:=fun v a b ha hb=>by
  rcases Qcj ha with⟨i,t,rfl,rfl⟩ | ⟨x,t,rfl,rfl⟩
  ·rcases Qcj hb with⟨j,u,rfl,e⟩ | ⟨y,u,rfl,e⟩
   ·injection e with e1 _;rw[e1]
   ·exact nomatch e
  ·rcases Qcj hb with⟨j,u,rfl,e⟩ | ⟨y,u,rfl,e⟩
   ·exact nomatch e
   ·injection e with e1 _;rw[e1]
 byValue:=fun k v h=>by
  rcases Qcj h with⟨i,t,rfl,rfl⟩ | ⟨x,t,rfl,rfl⟩<;>rfl
 pyHash:=fun hv h=>by
  rcases Qcj hv with⟨i,t,rfl,rfl⟩ | ⟨x,t,rfl,rfl⟩
  ·exact wpAny_pyHash_int h
  ·exact wpAny_pyHash_str h
 eqBool:=fun hu hv h=>by
  rcases Qcj hu with⟨i,t,rfl,rfl⟩ | ⟨x,t,rfl,rfl⟩
  ·rcases Qcj hv with⟨j,u,rfl,rfl⟩ | ⟨y,u,rfl,rfl⟩
   ·rw[QOm]at h;exact wpAny_eqBool_int h
   ·rw[QOR]at h;exact SeqAt.EqAt.int_str i t y u _ _ _ _ h
  ·rcases Qcj hv with⟨j,u,rfl,rfl⟩ | ⟨y,u,rfl,rfl⟩
   ·rw[QPB]at h;exact SeqAt.EqAt.str_int x t j u _ _ _ _ h
   ·rw[QOP]at h;exact wpAny_eqBool_str h
 «strs»:=fun k x t v h=>by
  rcases Qcj h with⟨i,u,rfl,e⟩ | ⟨y,u,rfl,e⟩
  ·exact nomatch e
  ·injection e with e1 _
   subst e1
   cases v<;>rfl
theorem QEE(prog:Program)(w:World)(i:Int)(t:Tok):(Qcb prog w).is (.inl i) (.int i t)=true:=QLe i t
theorem QGj(prog:Program)(w:World)(x:Str)(t:Tok):(Qcb prog w).is (.inr x) (.str x t)=true:=QJz x t
end L2
namespace L2
open PySem PySem.Spec PyProof.Rows
inductive V where
 | non | bl (b:Bool) | int (i:Int) | str (x:Str) | byt (b:Array UInt8) | flt (b:UInt64) | ref (a:Addr) | ty (n:String)
 deriving DecidableEq
def RelV:V->Value->Prop
 | .non,u=>u=Value.none
 | .bl b,u=>u=Value.bool b
 | .int i,u=>∃ t,u=Value.int i t
 | .str x,u=>∃ t,u=Value.str x t
 | .byt b,u=>∃ t,u=Value.bytes b t
 | .flt b,u=>∃ t,u=Value.float b t
 | .ref a,u=>u=Value.ref a
 | .ty n,u=>u=Value.type n
abbrev Vals:List V->List Value->Prop:=Paired RelV
theorem Vals.length{xs:List V}{us:List Value}(r:Vals xs us):xs.length=us.length:=Paired.length r
theorem Vals.get:∀{xs:List V}{us:List Value}{i:Nat}{x:V},Vals xs us->xs[i]?=some x->∃ u,us[i]?=some u/\RelV x u
 | _,_,_,_,.nil,e=>by simp at e
 | _,_,0,_,.cons r _,e=>by simp at e;subst e;exact⟨_,rfl,r⟩
 | _,_,i+1,x,.cons _ t,e=>by
  obtain⟨u,h1,h2⟩:=Vals.get (i:=i) (x:=x) t (by simpa using e)
  exact⟨u,by simpa using h1,h2⟩
theorem Vals.set{x:V}{u:Value}(r:RelV x u):∀{xs:List V}{us:List Value}(i:Nat),Vals xs us->Vals (xs.set i x) (us.set i u)
 | _,_,_,.nil=>.nil
 | _,_,0,.cons _ t=>.cons r t
 | _,_,i+1,.cons q t=>.cons q (Vals.set r i t)
theorem Vals.append:∀{xs ys:List V}{us ws:List Value},Vals xs us->Vals ys ws->Vals (xs++ys) (us++ws)
 | _,_,_,_,.nil,s=>s
 | _,_,_,_,.cons r t,s=>.cons r (Vals.append t s)
theorem Vals.take:∀{xs:List V}{us:List Value}(n:Nat),Vals xs us->Vals (xs.take n) (us.take n)
 | _,_,0,_=>.nil
 | _,_,_+1,.nil=>.nil
 | _,_,n+1,.cons r t=>.cons r (Vals.take n t)
theorem Vals.drop:∀{xs:List V}{us:List Value}(n:Nat),Vals xs us->Vals (xs.drop n) (us.drop n)
 | _,_,0,r=>r
 | _,_,_+1,.nil=>.nil
 | _,_,n+1,.cons _ t=>Vals.drop n t
def RelO:Option V->Option Value->Prop
 | some v,some u=>RelV v u
 | none,none=>True
 | _,_=>False
def KV{κ:Type}:List (κ×V)->List (κ×Value)->Prop:=Paired fun(p:κ×V) (q:κ×Value)=>p.1=q.1/\RelV p.2 q.2
def kV:Key->V
 | .inl i=>.int i
 | .inr x=>.str x
inductive HO where
 /-- a list -/
 | lst (xs:List V)
 /-- a tuple (never changes) -/
 | tup (xs:List V)
 /-- a dict whose keys are ints and texts;one whose keys are tuples of ints and texts (the empty one is both) -/
 | dK (kvs:List (Key×V)) | dT (kvs:List (List Key×V))
 /-- a set of ints: its members,its size -/
 | set (S:Int->Bool) (n:Nat)
 /-- an instance of the class at C,its dict at dx,its attributes -/
 | ins (C dx:Addr) (fs:List (Str×V))
 /-- the dict of the instance at x -/
 | own (x:Addr)
 /-- the dict of an exception -/
 | xd (fs:List (Str×V))
 /-- a bound method,f of x -/
 | met (f x:Addr)
 /-- a range object lo,lo+1, .. below hi -/
 | rng (lo hi:Int)
 /-- a thing that is known to the object (the script;a dict while a loop walks it): read,never written while it is so -/
 | frz (o:Obj) (u:HO)
 /-- a code object's table -/
 | tbl (ps:Array Value)
 /-- any other thing,by what is true of its one object (a def of one's own: SetO a S n:=HO.ext fun h => ..) -/
 | ext (φ : Heap->Prop)
abbrev Hp:=Addr->Option HO
def upd(H:Hp)(a:Addr)(o:HO):Hp:=fun b=>if b=a then some o else H b
theorem QS{H:Hp}{a:Addr}{o:HO}:upd H a o a=some o:=by unfold upd;rw[if_pos rfl]
theorem Qk{H:Hp}{a b:Addr}{o:HO}(h:b≠a):upd H a o b=H b:=by unfold upd;rw[if_neg h]
theorem QNW{H:Hp}{a:Addr}{o u:HO}:upd (upd H a o) a u=upd H a u:=by
 funext b;unfold upd;split<;>rfl
theorem ne_of{H:Hp}{a b:Addr}{o u:HO}(h:H a=some o)(h':H b=some u)(d:o≠u):a≠b:=by
 intro e;subst e;rw[h]at h';exact d (Option.some.inj h')
theorem Q0{H:Hp}{a b:Addr}{o:HO}(h:H a=some o)(h':H b=none):a≠b:=by
 intro e;subst e;rw[h]at h';cases h'
section
variable(P:Program)(w:World)
def ObjOk(H:Hp)(h:Heap)(a:Addr):HO->Prop
 | .lst xs=>xs.length<=sizeLine/\∃(its:List Value)(n:Nat),Vals xs its/\h.get? a=some { cls:=.type "list",data:=.seq its.toArray n }
 | .tup xs=>xs.length<=sizeLine/\∃ its:List Value,Vals xs its/\IsTup h a its.toArray
 | .dK kvs=>kvs.length<=sizeLine/\(a == sysModules)=false/\∃ vs,KV kvs vs/\h.DictOf (Qcb P w) a vs
 | .dT kvs=>kvs.length<=sizeLine/\(a == sysModules)=false/\∃ xs:List (List Key×Addr×Value),
  Paired (fun(p:List Key×V) (q:List Key×Addr×Value)=>p.1=q.1/\H q.2.1=some (.tup (p.1.map kV))/\RelV p.2 q.2.2) kvs xs/\
  ∃ o es ep,h.get? a=some o/\o.ExactDict/\o.data=.dict es ep/\es.toList=xs.map (entryOfKey (tupleKind (Qcb P w)))/\(xs.map (·.1)).Nodup
 | .set S n=>h.SetOf (intKind P w) a S n
 | .ins C dx fs=>H dx=some (.own a)/\fs.length<=1000/\dx≠a/\h.get? a=some (PySem.W.instObj C dx)/\
  ∃ mA,h.Ns1 dx mA/\(∀ f,RelO (fs.lookup f) (mA f))/\PySem.Within mA (fs.map (·.1))
 | .own _=>∃ o,h.get? a=some o
 | .xd fs=>∃ mA,h.Ns1 a mA/\∀ f,RelO (fs.lookup f) (mA f)
 | .rng lo hi=>∃ t u v,h.get? a=some { cls:=.type "range",data:=.fields #[.int lo t,.int hi u,.int 1 v] }
 | .frz o u=>h.get? a=some o/\ObjOk H h a u
 | .tbl ps=>h.get? a=some { cls:=.none,data:=.fields ps }
 | .met f x=>h.get? a=some (PySem.W.methodObj (.ref f) (.ref x))
 | .ext φ => φ h/\(∃ o,h.get? a=some o)/\∀ h1 h2:Heap, φ h1->(∀ o,h1.get? a=some o->h2.get? a=some o) -> φ h2
def HOk(H:Hp)(h:Heap):Prop:=∀ a o,H a=some o->ObjOk P w H h a o
end
section
variable{P:Program}{w:World}{H H':Hp}{h h':Heap}{a:Addr}{o:HO}
theorem ObjOk.lt(x:ObjOk P w H h a o):a<h.objs.size:=by
 cases o with
 | lst xs=>obtain⟨_,_,_,_,e⟩:=x;exact Heap.lt_size e
 | tup xs=>obtain⟨_,_,_,p⟩:=x;exact p.lt
 | dK kvs=>obtain⟨_,_,_,_,o,_,_,e,_⟩:=x;exact Heap.lt_size e
 | dT kvs=>obtain⟨_,_,_,_,o,_,_,e,_⟩:=x;exact Heap.lt_size e
 | set S n=>obtain⟨o,_,_,_,e,_⟩:=x;exact Heap.lt_size e
 | ins C dx fs=>obtain⟨_,_,_,e,_⟩:=x;exact Heap.lt_size e
 | own y=>obtain⟨_,e⟩:=x;exact Heap.lt_size e
 | xd fs=>obtain⟨_,⟨_,_,_,e,_⟩,_⟩:=x;exact Heap.lt_size e
 | rng lo hi=>obtain⟨_,_,_,e⟩:=x;exact Heap.lt_size e
 | frz ob u=>obtain⟨e,_⟩:=x;exact Heap.lt_size e
 | tbl ps=>exact Heap.lt_size (show h.get? a=some _ from x)
 | met f y=>exact Heap.lt_size (show h.get? a=some _ from x)
 | ext φ => obtain⟨_,⟨_,e⟩,_⟩:=x;exact Heap.lt_size e
theorem Paired.mapP{α β:Type}{F G:α->β->Prop}:∀{l₁:List α}{l₂ : List β},Paired F l₁ l₂ -> (∀ a b,F a b->G a b)->Paired G l₁ l₂
 | _,_,.nil,_=>.nil
 | _,_,.cons r t,f=>.cons (f _ _ r) (Paired.mapP t f)
theorem ObjOk.stay(x:ObjOk P w H h a o)(k:∀ b u,(b=a∨H b=some (.own a))->h.get? b=some u->h'.get? b=some u)
 (ho:∀ b,H b=some (.own a)->H' b=some (.own a)) (ht:∀ b xs,H b=some (.tup xs)->H' b=some (.tup xs)):ObjOk P w H' h' a o:=by
 induction o with
 | lst xs=>obtain⟨z,its,n,r,e⟩:=x;exact⟨z,its,n,r,k _ _ (.inl rfl) e⟩
 | tup xs=>obtain⟨z,its,r,ob,e,c⟩:=x;exact⟨z,its,r,ob,k _ _ (.inl rfl) e,c⟩
 | dK kvs=>obtain⟨z,y,vs,r,ob,es,ep,e,c⟩:=x;exact⟨z,y,vs,r,ob,es,ep,k _ _ (.inl rfl) e,c⟩
 | dT kvs=>
  obtain⟨z,y,xs,r,ob,es,ep,e,c⟩:=x
  exact⟨z,y,xs,Paired.mapP r fun p q z=>⟨z.1,ht _ _ z.2.1,z.2.2⟩,ob,es,ep,k _ _ (.inl rfl) e,c⟩
 | set S n=>obtain⟨ob,es,ep,t,e,c⟩:=x;exact⟨ob,es,ep,t,k _ _ (.inl rfl) e,c⟩
 | ins C dx fs=>
  obtain⟨d,z,ne,e,mA,⟨od,es,ep,e2,c⟩,r⟩:=x
  exact⟨ho _ d,z,ne,k _ _ (.inl rfl) e,mA,⟨od,es,ep,k _ _ (.inr d) e2,c⟩,r⟩
 | own y=>obtain⟨ob,e⟩:=x;exact⟨ob,k _ _ (.inl rfl) e⟩
 | xd fs=>obtain⟨mA,⟨od,es,ep,e,c⟩,r⟩:=x;exact⟨mA,⟨od,es,ep,k _ _ (.inl rfl) e,c⟩,r⟩
 | rng lo hi=>obtain⟨t,u,v,e⟩:=x;exact⟨t,u,v,k _ _ (.inl rfl) e⟩
 | frz ob u ih=>obtain⟨e,q⟩:=x;exact⟨k _ _ (.inl rfl) e,ih q⟩
 | tbl ps=>
  have e:h.get? a=some { cls:=.none,data:=.fields ps }:=x
  show h'.get? a=some { cls:=.none,data:=.fields ps }
  exact k a _ (.inl rfl) e
 | met f y=>
  have e:h.get? a=some (PySem.W.methodObj (.ref f) (.ref y)):=x
  show h'.get? a=some (PySem.W.methodObj (.ref f) (.ref y))
  exact k a _ (.inl rfl) e
 | ext φ => obtain⟨p,⟨o,e⟩,st⟩:=x;exact⟨st _ _ p fun o q=>k _ _ (.inl rfl) q,⟨o,k _ _ (.inl rfl) e⟩,st⟩
theorem HOk.lt(x:HOk P w H h)(e:H a=some o):a<h.objs.size:=(x a o e).lt
theorem HOk.fresh(x:HOk P w H h)(e:h.objs.size<=a):H a=none:=by
 cases q:H a with
 | none=>rfl
 | some u=>exact absurd (Nat.lt_of_lt_of_le (x.lt q) e) (Nat.lt_irrefl _)
theorem HOk.kept(x:HOk P w H h)(k:∀ b u,h.get? b=some u->h'.get? b=some u):HOk P w H h':=fun a o e=>
 (x a o e).stay (fun b u _ q=>k b u q) (fun _ q=>q) fun _ _ q=>q
theorem HOk.laid(x:HOk P w H h)(k:∀ b u,h.get? b=some u->h'.get? b=some u)(hp:h.objs.size<=a)(new:ObjOk P w (upd H a o) h' a o):HOk P w (upd H a o) h':=fun b u e=>by
 have hn:=x.fresh hp
 by_cases hb:b=a
 ·subst hb;rw[QS]at e;cases e;exact new
 ·rw[Qk hb]at e
  exact(x b u e).stay (fun c v _ q=>k c v q) (fun c q=>by rw[Qk (Q0 q hn)];exact q) fun c xs q=>by rw[Qk (Q0 q hn)];exact q
end
def Rd(H:Hp)(a:Addr)(u:HO):Prop:=H a=some u∨∃ o,H a=some (.frz o u)
theorem Rd.of{H:Hp}{a:Addr}{u:HO}(h:H a=some u):Rd H a u:=.inl h
theorem Rd.ok{P:Program}{w:World}{H:Hp}{h:Heap}{a:Addr}{u:HO}(r:Rd H a u)(x:HOk P w H h):ObjOk P w H h a u:=by
 rcases r with r | ⟨o,r⟩
 ·exact x a u r
 ·obtain⟨_,q⟩:=x a _ r
  exact q
def Mut:Option HO->Prop
 | some (.lst _)=>True
 | some (.dK _)=>True
 | some (.dT _)=>True
 | some (.set _ _)=>True
 | some (.ins _ _ _)=>True
 | some (.ext _)=>True
 | _=>False
section
variable{P:Program}{w:World}{H:Hp}{h h':Heap}{x e:Addr}{o':HO}
theorem HOk.write(ok:HOk P w H h)(mu:Mut (H x))(he:e=x∨H e=some (.own x))(k:∀ b u,b≠e->h.get? b=some u->h'.get? b=some u)(heo:∃ u,h'.get? e=some u)
 (new:ObjOk P w (upd H x o') h' x o'):HOk P w (upd H x o') h':=fun b u q=>by
 have nown:∀ c y,H c=some (.own y)->c≠x:=fun c y r z=>by subst z;rw[r]at mu;exact mu
 have ntup:∀ c xs,H c=some (.tup xs)->c≠x:=fun c xs r z=>by subst z;rw[r]at mu;exact mu
 by_cases hb:b=x
 ·subst hb;rw[QS]at q;cases q;exact new
 ·rw[Qk hb]at q
  by_cases hbe:b=e
  ·have q':H b=some (.own x):=by
    rcases he with z | z
    ·exact absurd (hbe.trans z) hb
    ·rw[hbe];exact z
   rw[q]at q';cases q'
   obtain⟨v,hv⟩:=heo
   exact⟨v,by rw[hbe];exact hv⟩
  ·refine(ok b u q).stay (fun c v hc r=>k c v ?_ r) (fun c r=>by rw[Qk (nown c b r)];exact r) fun c xs r=>by rw[Qk (ntup c xs r)];exact r
   rcases hc with rfl | hc
   ·exact hbe
   ·rintro rfl
    rcases he with z | z
    ·exact nown c b hc z
    ·rw[hc]at z;cases z;exact hb rfl
end
structure Un(fs ex:List Addr)(H H':Hp)(h h':Heap):Prop where
 keep:∀ b o,h.get? b=some o->H b=none->b∉fs->b∉ex->h'.get? b=some o
 slot:∀ b o,h.get? b=some o->H b=none->b∈fs->b∉ex->∃ sl,h'.get? b=some { o with slots:=sl }
 free:∀ b o,h.get? b=some o->H b=none->b∉ex->H' b=none
 there:∀ b o,h.get? b=some o->b∉ex->∃ o',h'.get? b=some o'
 tups:∀ b xs,H b=some (.tup xs)->H' b=some (.tup xs)
 frzs:∀ b o u,H b=some (.frz o u)->H' b=some (.frz o u)
 tbls:∀ b ps,H b=some (.tbl ps)->∃ more,H' b=some (.tbl (ps++more))
section
variable{fs fs' ex ex':List Addr}{H H1 H2:Hp}{h h1 h2 h':Heap}{a x e:Addr}{o:HO}
theorem Un.any(u:Un fs ex H H1 h h1){b:Addr}{ob:Obj}(q:h.get? b=some ob)(n:H b=none)(hx:b∉ex):∃ sl,h1.get? b=some { ob with slots:=sl }:=by
 by_cases hb:b∈fs
 ·exact u.slot b ob q n hb hx
 ·exact⟨ob.slots,u.keep b ob q n hb hx⟩
theorem Un.trans(a:Un fs ex H H1 h h1)(b:Un fs ex H1 H2 h1 h2):Un fs ex H H2 h h2 where
 keep:=fun c ob q n hc hx=>b.keep c ob (a.keep c ob q n hc hx) (a.free c ob q n hx) hc hx
 slot:=fun c ob q n hc hx=>by
  obtain⟨sl,e1⟩:=a.slot c ob q n hc hx
  obtain⟨sl',e2⟩:=b.slot c _ e1 (a.free c ob q n hx) hc hx
  exact⟨sl',e2⟩
 free:=fun c ob q n hx=>by
  obtain⟨o',e1⟩:=a.there c ob q hx
  exact b.free c o' e1 (a.free c ob q n hx) hx
 there:=fun c ob q hx=>by
  obtain⟨o',e1⟩:=a.there c ob q hx
  exact b.there c o' e1 hx
 tups:=fun c xs q=>b.tups c xs (a.tups c xs q)
 frzs:=fun c ob xs q=>b.frzs c ob xs (a.frzs c ob xs q)
 tbls:=fun c ps q=>by
  obtain⟨m1,e1⟩:=a.tbls c ps q
  obtain⟨m2,e2⟩:=b.tbls c _ e1
  exact⟨m1++m2,by rw[e2,Array.append_assoc]⟩
theorem Un.kept(k:∀ b u,h.get? b=some u->h'.get? b=some u):Un fs ex H H h h':=
 ⟨fun b ob q _ _ _=>k b ob q,fun b ob q _ _ _=>⟨ob.slots,k b ob q⟩,fun _ _ _ n _=>n,fun b ob q _=>⟨ob,k b ob q⟩,fun _ _ q=>q,fun _ _ _ q=>q,fun _ ps q=>⟨#[],by rw[q];simp⟩⟩
theorem Un.refl:Un fs ex H H h h:=Un.kept fun _ _ q=>q
theorem Un.laid(k:∀ b u,h.get? b=some u->h'.get? b=some u)(hp:h.objs.size<=a)(hn:H a=none):Un fs ex H (upd H a o) h h' where
 keep:=fun b u q _ _ _=>k b u q
 slot:=fun b u q _ _ _=>⟨u.slots,k b u q⟩
 free:=fun b u q n _=>by rw[Qk (Nat.ne_of_lt (Nat.lt_of_lt_of_le (Heap.lt_size q) hp))];exact n
 there:=fun b u q _=>⟨u,k b u q⟩
 tups:=fun b xs q=>by rw[Qk (Q0 q hn)];exact q
 frzs:=fun b u xs q=>by rw[Qk (Q0 q hn)];exact q
 tbls:=fun b ps q=>⟨#[],by rw[Qk (Q0 q hn),q];simp⟩
theorem Un.write(mu:Mut (H x))(he:e=x∨H e=some (.own x))(k:∀ b u,b≠e->h.get? b=some u->h'.get? b=some u)(heo:∃ u,h'.get? e=some u):Un fs ex H (upd H x o) h h':=by
 have hx:∀ b,H b=none->b≠x:=fun b n z=>by subst z;rw[n]at mu;exact mu
 have hb:∀ b,H b=none->b≠e:=fun b n z=>by
  subst z
  rcases he with r | r
  ·exact hx b n r
  ·rw[n]at r;cases r
 have hm:∀ b u,H b=some u->¬ Mut (some u)->b≠x:=fun b u q nm z=>by subst z;rw[q]at mu;exact nm mu
 refine⟨fun b u q n _ _=>k b u (hb b n) q,fun b u q n _ _=>⟨u.slots,k b u (hb b n) q⟩,fun b u q n _=>by rw[Qk (hx b n)];exact n,fun b u q _=>?_,
  fun b xs q=>by rw[Qk (hm b _ q fun z=>z)];exact q,fun b u xs q=>by rw[Qk (hm b _ q fun z=>z)];exact q,fun b ps q=>⟨#[],by rw[Qk (hm b _ q fun z=>z),q];simp⟩⟩
 by_cases hbe:b=e
 ·subst hbe;exact heo
 ·exact⟨u,k b u hbe q⟩
end
def trk(h:Heap)(H:Hp):List Addr:=(List.range h.objs.size).filter fun a=>(H a).isSome
def hidT(h:Heap)(H:Hp):Heap:=PySem.W.hideAll h (trk h H)
theorem QKG(h:Heap)(H:Hp):(hidT h H).objs.size=h.objs.size:=PySem.W.hideAll_size _ _
theorem QMt{h:Heap}{H:Hp}{b:Addr}{o:Obj}(e:h.get? b=some o)(n:H b=none):(hidT h H).get? b=some o:=
 PySem.W.hideAll_get _ e fun hm=>by
  have q:(H b).isSome=true:=(List.mem_filter.mp hm).2
  rw[n]at q;simp at q
theorem QN3{h:Heap}{H:Hp}{b:Addr}{o:Obj}(e:(hidT h H).get? b=some o):h.get? b=some o/\H b=none:=by
 have e':h.get? b=some o:=PySem.W.of_hideAll (trk h H) e
 refine⟨e',?_⟩
 cases q:H b with
 | none=>rfl
 | some x=>
  have hm:b∈trk h H:=List.mem_filter.mpr ⟨List.mem_range.mpr (Heap.lt_size e'),by simp[q]⟩
  have z:(hidT h H).get? b=none:=PySem.W.hideAll_none (trk h H) hm
  rw[z]at e;cases e
def QMX(g h:Heap)(L:Addr):List (Addr×Obj):=(List.range h.objs.size).filterMap fun a=>if a=L∨(g.get? a).isSome=true then none else(h.get? a).map fun o=>(a,o)
def rest(g h:Heap)(L d:Addr):List (Addr×Obj):=(QMX g h L).filter fun p=>decide (p.1≠d)
end L2
namespace L2
open PySem PySem.Spec PyProof.Rows
structure Mod(K:PySem.W.Frag)(mg:Str->Option Value)(base:Heap):Prop where
 kin:K.In base
 glob:base.Ns mainGlobals mg
 blt:∃ mb,base.Ns builtinsNs mb/\∀ x:Str,x≠"__name__"->mb x=bootBuiltins x
 nolimit:base.NoLimit
structure Cx where
 prog:Program
 w:World
 K:PySem.W.Frag
 mg:Str->Option Value
 base:Heap
 A:Around
 N:List Str
 s₀:Shared
 H₀:Hp
 env:Env
 outer:List Env
 stack:List Env
 ex:List Addr
 fn:Str->Bool
 calm:Bool
 pn:List (Addr×Obj)
 xe:Value->Shared->Prop
def frs(l:List Env):List Addr:=l.filterMap (·.frame)
abbrev Cx.fs(X:Cx):List Addr:=frs X.outer
def Vis(sc:Scope)(x:Str):Prop:=sc.names.lookup x=some .local∨sc.names.lookup x=some .cell∨sc.names.lookup x=some .free
def Loc(sc:Scope)(x:Str):Prop:=sc.names.lookup x=some .local∨sc.names.lookup x=some .cell
def Look(env:Env)(h:Heap)(m:Str->Option Value)(x:Str)(u:Value):Prop:=
 (env.kindOf x=some .local/\m x=some u)∨((env.kindOf x=some .cell∨env.kindOf x=some .free)/\∃ c,env.cells.lookup x=some c/\h.IsCell c (some u))
structure Cx.Ok(X:Cx):Prop where
 mod:Mod X.K X.mg X.base
 kind:X.env.scope.kind=.function
 glob:X.env.globals=mainGlobals
 blt:X.env.builtins=builtinsNs
 above:X.s₀.heap.objs.size<=X.env.locals
 inj:∀ x y c,X.env.cells.lookup x=some c->X.env.cells.lookup y=some c->x=y
 has:∀ x,(X.env.kindOf x=some .cell∨X.env.kindOf x=some .free)->∃ c,X.env.cells.lookup x=some c
 cab:∀ x c,X.fn x=true->X.env.cells.lookup x=some c->X.s₀.heap.objs.size<=c
 hd:X.calm=true->X.A.handled=none
 frames:X.A.frames=some X.stack
 stk:X.stack=X.outer∨(X.stack=X.env::X.outer/\X.env.frame=some X.env.locals)
 exf:∀ b∈X.ex,b≠X.env.locals/\∀ x c,X.env.cells.lookup x=some c->c≠b
 bs:∀ b o,X.base.get? b=some o->X.s₀.heap.get? b=some o/\X.H₀ b=none
 bsz:X.base.objs.size<=X.s₀.heap.objs.size
 noex:∀ b o,X.base.get? b=some o->b∉X.ex
 exfs:∀ b∈X.ex,b∉X.fs
 funs:X.s₀.heap.FunFrames X.base X.outer
 frf:∀ b∈X.fs,X.H₀ b=none
structure Inv(X:Cx)(pins:List (Addr×Obj))(σ:List (Option V))(H:Hp)(s:Shared):Prop where
 ok:X.Ok
 os:s.os=X.s₀.os
 bare:AllBare s.gens
 base:Un X.fs X.ex X.H₀ H X.s₀.heap s.heap
 loc:∃ m,s.heap.Ns X.env.locals m/\∀(i:Nat)(x:Str)(v:V),X.N[i]?=some x->σ[i]?=some (some v)->Vis X.env.scope x->∃ u,RelV v u/\Look X.env s.heap m x u
 cell:∀ x c,X.env.cells.lookup x=some c->∃ v,s.heap.IsCell c v
 free:H X.env.locals=none
 freeC:∀ x c,X.env.cells.lookup x=some c->H c=none
 pin:∀ p∈X.pn++pins,s.heap.get? p.1=some p.2/\H p.1=none/\p.1≠X.env.locals/\p.1∉X.fs/\∀ v,p.2.data≠.cell v
 hok:HOk X.prog X.w H s.heap
 len:σ.length=X.N.length
section
variable{X:Cx}{pins:List (Addr×Obj)}{σ:List (Option V)}{H H':Hp}{s:Shared}{h':Heap}
theorem Cx.Ok.nofr(ok:X.Ok){b:Addr}{o:Obj}(e:X.base.get? b=some o):b∉X.fs:=fun hb=>by
 have:=(ok.funs.mem hb).1
 rw[e]at this;cases this
theorem Inv.bs(I:Inv X pins σ H s):∀ b o,X.base.get? b=some o->s.heap.get? b=some o/\H b=none:=fun b o e=>
 ⟨I.base.keep b o (I.ok.bs b o e).1 (I.ok.bs b o e).2 (I.ok.nofr e) (I.ok.noex b o e),I.base.free b o (I.ok.bs b o e).1 (I.ok.bs b o e).2 (I.ok.noex b o e)⟩
theorem Inv.bk(I:Inv X pins σ H s):∀ b o,X.base.get? b=some o->s.heap.get? b=some o:=fun b o e=>(I.bs b o e).1
theorem Inv.mod(I:Inv X pins σ H s):Mod X.K X.mg X.base:=I.ok.mod
theorem Inv.kIn(I:Inv X pins σ H s):X.K.In s.heap:=I.ok.mod.kin.keeps I.bk
theorem Inv.lt(I:Inv X pins σ H s):X.env.locals<s.heap.objs.size:=let ⟨_,hn,_⟩:=I.loc;hn.lt
theorem Inv.sz(I:Inv X pins σ H s):X.s₀.heap.objs.size<=s.heap.objs.size:=Nat.le_trans I.ok.above (Nat.le_of_lt I.lt)
theorem Inv.nofs(I:Inv X pins σ H s){a:Addr}(h:s.heap.objs.size<=a):a∉X.fs:=fun hb=>by
 obtain⟨_,o,ho,_⟩:=I.ok.funs.mem hb
 exact absurd (Nat.lt_of_lt_of_le (Heap.lt_size ho) (Nat.le_trans I.sz h)) (Nat.lt_irrefl _)
theorem Inv.cne(I:Inv X pins σ H s):∀ x c,X.env.cells.lookup x=some c->c≠X.env.locals:=fun x c e z=>by
 obtain⟨v,o,ho,hd⟩:=I.cell x c e
 obtain⟨m,⟨o',es,ep,ho',hd',_⟩,_⟩:=I.loc
 rw[z,ho']at ho;cases ho;rw[hd']at hd;cases hd
theorem Inv.funs(I:Inv X pins σ H s):s.heap.FunFrames X.base X.outer:=by
 have all:∀(l:List Env),(∀ b∈frs l,b∈X.fs)->X.s₀.heap.FunFrames X.base l->s.heap.FunFrames X.base l:=by
  intro l
  induction l with
  | nil=>intro _ _;trivial
  | cons env r ih=>
   intro hs hl
   obtain⟨hk,⟨L,o,hf,hn,ho,hd⟩,hr⟩:=hl
   have hL:L∈X.fs:=hs L (by unfold frs;rw[List.filterMap_cons,hf];exact List.mem_cons_self)
   obtain⟨sl,e⟩:=I.base.slot L o ho (I.ok.frf L hL) hL fun z=>I.ok.exfs L z hL
   exact⟨hk,⟨L,_,hf,hn,e,hd⟩,ih (fun b hb=>hs b (by unfold frs;rw[List.filterMap_cons,hf];exact List.mem_cons_of_mem _ hb)) hr⟩
 exact all X.outer (fun _ hb=>hb) I.ok.funs
theorem Inv.stack(I:Inv X pins σ H s):s.heap.FunFrames X.base X.stack:=by
 rcases I.ok.stk with e | ⟨e,hf⟩
 ·rw[e];exact I.funs
 ·rw[e]
  obtain⟨m,hn,_⟩:=I.loc
  refine .cons (by rw[I.ok.kind];decide) hf hn ?_ I.funs
  exact Heap.get?_none_of_le (Nat.le_trans I.ok.bsz I.ok.above)
theorem Inv.stkSub(I:Inv X pins σ H s):∀ b∈frs X.stack,b∈X.env.locals::X.fs:=fun b hb=>by
 rcases I.ok.stk with e | ⟨e,hf⟩
 ·rw[e]at hb;exact List.mem_cons_of_mem _ hb
 ·rw[e]at hb
  unfold frs at hb
  rw[List.filterMap_cons,hf]at hb
  exact hb
theorem Inv.stkFree(I:Inv X pins σ H s):∀ b∈frs X.stack,H b=none:=fun b hb=>by
 rcases List.mem_cons.mp (I.stkSub b hb) with e | hb
 ·rw[e];exact I.free
 ·obtain⟨_,o,ho,_⟩:=I.ok.funs.mem hb
  exact I.base.free b o ho (I.ok.frf b hb) fun z=>I.ok.exfs b z hb
theorem Inv.step{g':Array GenState}{t':Nat}{d':Drawn}{ch:List Addr}(I:Inv X pins σ H s)
 (hch:∀ b∈ch,(b∈X.ex∨X.s₀.heap.objs.size<=b)/\b≠X.env.locals/\(∀ x c,X.env.cells.lookup x=some c->c≠b)/\∀ p∈X.pn++pins,p.1≠b)
 (keep:∀ b o,b≠X.env.locals->b∉X.fs->b∉ch->s.heap.get? b=some o->H b=none->h'.get? b=some o)
 (slot:∀ b o,b≠X.env.locals->b∈X.fs->b∉ch->s.heap.get? b=some o->H b=none->∃ sl,h'.get? b=some { o with slots:=sl }) (free:∀ b o,b∉ch->s.heap.get? b=some o->H b=none->H' b=none)
 (there:∀ b o,b∉ch->s.heap.get? b=some o->∃ o',h'.get? b=some o')
 (tups:∀ b xs,H b=some (.tup xs)->H' b=some (.tup xs)) (frzs:∀ b o u,H b=some (.frz o u)->H' b=some (.frz o u)) (tbls:∀ b ps,H b=some (.tbl ps)->∃ more,H' b=some (.tbl (ps++more)))
 (ns:∀ m,s.heap.Ns X.env.locals m->h'.Ns X.env.locals m) (hok:HOk X.prog X.w H' h') (hg:AllBare g'):
 Inv X pins σ H' { s with heap:=h',gens:=g',drawn:=d',toks:=t' }:=by
 have neL:∀ b o,X.s₀.heap.get? b=some o->b≠X.env.locals:=fun b o e=>Nat.ne_of_lt (Nat.lt_of_lt_of_le (Heap.lt_size e) I.ok.above)
 have neC:∀ b o,X.s₀.heap.get? b=some o->b∉X.ex->b∉ch:=fun b o e hx hb=>by
  rcases(hch b hb).1 with z | z
  ·exact hx z
  ·exact absurd (Nat.lt_of_lt_of_le (Heap.lt_size e) z) (Nat.lt_irrefl _)
 have cellK:∀ x c,X.env.cells.lookup x=some c->∀ v,s.heap.IsCell c v->h'.IsCell c v:=fun x c e v ⟨o,ho,hd⟩=>by
  have nch:c∉ch:=fun z=>(hch c z).2.2.1 x c e rfl
  by_cases hc:c∈X.fs
  ·obtain⟨sl,q⟩:=slot c o (I.cne x c e) hc nch ho (I.freeC x c e)
   exact⟨_,q,hd⟩
  ·exact⟨o,keep c o (I.cne x c e) hc nch ho (I.freeC x c e),hd⟩
 refine⟨I.ok,I.os,hg,⟨fun b o e n hb hx=>?_,fun b o e n hb hx=>?_,fun b o e n hx=>?_,fun b o e hx=>?_,fun b xs e=>tups b xs (I.base.tups b xs e),fun b o xs e=>frzs b o xs (I.base.frzs b o xs e),fun b ps e=>?_⟩,?_,fun x c e=>?_,?_,fun x c e=>?_,fun p hp=>?_,hok,I.len⟩
 ·exact keep b o (neL b o e) hb (neC b o e hx) (I.base.keep b o e n hb hx) (I.base.free b o e n hx)
 ·obtain⟨sl,e1⟩:=I.base.slot b o e n hb hx
  obtain⟨sl',e2⟩:=slot b _ (neL b o e) hb (neC b o e hx) e1 (I.base.free b o e n hx)
  exact⟨sl',e2⟩
 ·obtain⟨o',e1⟩:=I.base.there b o e hx
  exact free b o' (neC b o e hx) e1 (I.base.free b o e n hx)
 ·obtain⟨o',e1⟩:=I.base.there b o e hx
  exact there b o' (neC b o e hx) e1
 ·obtain⟨m1,e1⟩:=I.base.tbls b ps e
  obtain⟨m2,e2⟩:=tbls b _ e1
  exact⟨m1++m2,by rw[e2,Array.append_assoc]⟩
 ·obtain⟨m,hn,hl⟩:=I.loc
  refine⟨m,ns m hn,fun i x v e1 e2 e3=>?_⟩
  obtain⟨u,r,l⟩:=hl i x v e1 e2 e3
  refine⟨u,r,?_⟩
  rcases l with l | ⟨k,c,e,z⟩
  ·exact .inl l
  ·exact .inr ⟨k,c,e,cellK x c e _ z⟩
 ·obtain⟨v,z⟩:=I.cell x c e
  exact⟨v,cellK x c e v z⟩
 ·obtain⟨m,⟨o,_,_,ho,_⟩,_⟩:=I.loc
  exact free _ o (fun z=>(hch _ z).2.1 rfl) ho I.free
 ·obtain⟨v,o,ho,hd⟩:=I.cell x c e
  exact free c o (fun z=>(hch c z).2.2.1 x c e rfl) ho (I.freeC x c e)
 ·obtain⟨e,n,ne,nf,d⟩:=I.pin p hp
  have nch:p.1∉ch:=fun z=>(hch p.1 z).2.2.2 p hp rfl
  exact⟨keep p.1 p.2 ne nf nch e n,free p.1 p.2 nch e n,ne,nf,d⟩
theorem Inv.un{t':Nat}(I:Inv X pins σ H s)(u:Un X.fs [] H H' s.heap h')(hok:HOk X.prog X.w H' h'):Inv X pins σ H' { s with heap:=h',toks:=t' }:=by
 obtain⟨m,⟨o,es,ep,ho,r⟩,_⟩:=id I.loc
 obtain⟨sl,hL⟩:=u.any ho I.free (by simp)
 exact I.step (g':=s.gens) (d':=s.drawn) (ch:=[]) (fun _ z=>nomatch z) (fun b o _ hb _ e n=>u.keep b o e n hb (by simp)) (fun b o _ hb _ e n=>u.slot b o e n hb (by simp)) (fun b o _ e n=>u.free b o e n (by simp)) (fun b o _ e=>u.there b o e (by simp)) u.tups u.frzs u.tbls (fun m' hm=>by
  obtain⟨o',es',ep',ho',r'⟩:=hm
  rw[ho]at ho';cases ho'
  exact⟨_,es',ep',hL,r'⟩) hok I.bare
theorem Inv.call{g':Array GenState}{t':Nat}{d':Drawn}{ch:List Addr}(I:Inv X pins σ H s)(u:Un (frs X.stack) ch H H' s.heap h')(hok:HOk X.prog X.w H' h')(hg:AllBare g')
 (hch:∀ b∈ch,(b∈X.ex∨X.s₀.heap.objs.size<=b)/\b≠X.env.locals/\(∀ x c,X.env.cells.lookup x=some c->c≠b)/\∀ p∈X.pn++pins,p.1≠b):
 Inv X pins σ H' { s with heap:=h',gens:=g',drawn:=d',toks:=t' }:=by
 obtain⟨m,⟨o,es,ep,ho,r⟩,_⟩:=id I.loc
 obtain⟨sl,hL⟩:=u.any ho I.free fun z=>(hch _ z).2.1 rfl
 exact I.step (ch:=ch) hch (fun b o hL hb hc e n=>u.keep b o e n (fun z=>(List.mem_cons.mp (I.stkSub b z)).elim hL hb) hc) (fun b o _ _ hc e n=>u.any e n hc) (fun b o hc e n=>u.free b o e n hc) (fun b o hc e=>u.there b o e hc) u.tups u.frzs u.tbls (fun m' hm=>by
  obtain⟨o',es',ep',ho',r'⟩:=hm
  rw[ho]at ho';cases ho'
  exact⟨_,es',ep',hL,r'⟩) hok hg
theorem Inv.turned{t':Nat}{it:Addr}(I:Inv X pins σ H s)(k:∀ b o,b≠it->s.heap.get? b=some o->h'.get? b=some o)(hn:H it=none)(hL:it≠X.env.locals)
 (h1:it∈X.ex∨X.s₀.heap.objs.size<=it) (h2:∀ x c,X.env.cells.lookup x=some c->c≠it) (h3:∀ p∈X.pn++pins,p.1≠it):Inv X pins σ H { s with heap:=h',toks:=t' }:=by
 have nit:∀ b u,H b=some u->b≠it:=fun b u e z=>by rw[z,hn]at e;cases e
 refine I.step (g':=s.gens) (d':=s.drawn) (ch:=[it]) (fun b hb=>?_) (fun b o _ _ hc e _=>k b o (fun z=>hc (by simp[z])) e) (fun b o _ _ hc e _=>⟨o.slots,k b o (fun z=>hc (by simp[z])) e⟩) (fun _ _ _ _ n=>n)
  (fun b o hc e=>⟨o,k b o (fun z=>hc (by simp[z])) e⟩) (fun _ _ e=>e) (fun _ _ _ e=>e) (fun b ps e=>⟨#[],by rw[e];simp⟩) (fun m hm=>?_) (fun b u e=>?_) I.bare
 ·have e:b=it:=by simpa using hb
  subst e
  exact⟨h1,hL,h2,h3⟩
 ·obtain⟨o,es,ep,ho,r⟩:=hm
  exact⟨o,es,ep,k _ o (Ne.symm hL) ho,r⟩
 ·refine(I.hok b u e).stay (fun c v hc q=>k c v ?_ q) (fun _ q=>q) fun _ _ q=>q
  rcases hc with z | z
  ·rw[z];exact nit b u e
  ·exact nit c _ z
theorem Inv.tok(I:Inv X pins σ H s)(t:Nat):Inv X pins σ H { s with toks:=t }:=I.un (h':=s.heap) (t':=t) Un.refl I.hok
theorem Inv.kept{t':Nat}(I:Inv X pins σ H s)(k:∀ b u,s.heap.get? b=some u->h'.get? b=some u):Inv X pins σ H { s with heap:=h',toks:=t' }:=I.un (Un.kept k) (I.hok.kept k)
theorem Inv.laid{a:Addr}{o:HO}{t':Nat}(I:Inv X pins σ H s)(k:∀ b u,s.heap.get? b=some u->h'.get? b=some u)(hp:s.heap.objs.size<=a)(new:ObjOk X.prog X.w (upd H a o) h' a o):
 Inv X pins σ (upd H a o) { s with heap:=h',toks:=t' }:=I.un (Un.laid k hp (I.hok.fresh hp)) (I.hok.laid k hp new)
theorem Inv.write{x e:Addr}{o:HO}{t':Nat}(I:Inv X pins σ H s)(mu:Mut (H x))(he:e=x∨H e=some (.own x))(k:∀ b u,b≠e->s.heap.get? b=some u->h'.get? b=some u)(heo:∃ u,h'.get? e=some u)
 (new:ObjOk X.prog X.w (upd H x o) h' x o):Inv X pins σ (upd H x o) { s with heap:=h',toks:=t' }:=I.un (Un.write mu he k heo) (I.hok.write mu he k heo new)
theorem Inv.pins_of{pins':List (Addr×Obj)}(I:Inv X pins σ H s)(h:∀ p∈pins',s.heap.get? p.1=some p.2/\H p.1=none/\p.1≠X.env.locals/\p.1∉X.fs/\∀ v,p.2.data≠.cell v):Inv X pins' σ H s:=
 ⟨I.ok,I.os,I.bare,I.base,I.loc,I.cell,I.free,I.freeC,fun p hp=>(List.mem_append.mp hp).elim (fun z=>I.pin p (List.mem_append_left _ z)) (h p),I.hok,I.len⟩
theorem QBH{N:List Str}(hN:N.Nodup){i j:Nat}{x:Str}(a:N[i]?=some x)(b:N[j]?=some x):i=j:=by
 obtain⟨h1,e1⟩:=List.getElem?_eq_some_iff.mp a
 obtain⟨h2,e2⟩:=List.getElem?_eq_some_iff.mp b
 exact(List.getElem_inj hN).mp (e1.trans e2.symm)
theorem QyP{M:Model}{A:Around}{E:Value->Shared->Prop}{i:Nat}{x:Str}{v:V}{u:Value}{Q:Unit->Shared->Prop}(I:Inv X pins σ H s)(hN:X.N.Nodup)(hi:X.N[i]?=some x)(hx:Loc X.env.scope x)(r:RelV v u)
 (h:∀ s',Inv X pins (σ.set i (some v)) H s'->(∃ a,Heap.SameBut a s.heap s'.heap/\(a=X.env.locals∨X.env.cells.lookup x=some a))->Q () s') (hf:X.fn x=true∨X.env.scope.names.lookup x=some .local:=by first | exact .inl rfl | exact .inr rfl | assumption):wpAny M A (storeName X.env x u) Q E s:=by
 obtain⟨m,hn,hl⟩:=id I.loc
 have hcls:(X.env.scope.kind == .class||(X.env.scope.kind == .module&&X.env.locals != X.env.globals))=false:=by rw[I.ok.kind];rfl
 have hiσ:i<σ.length:=by rw[I.len];exact(List.getElem?_eq_some_iff.mp hi).1
 have cne:=I.cne
 have tracked:∀{a:Addr}{h':Heap},(∃ o,s.heap.get? a=some o/\H a=none)->Heap.SameBut a s.heap h'->HOk X.prog X.w H h':=fun {a h'} ha hs b ob e=>by
  obtain⟨_,_,hfree⟩:=ha
  refine(I.hok b ob e).stay (fun c w' hc q=>(hs.2 c ?_).trans q) (fun _ q=>q) fun _ _ q=>q
  rintro rfl
  rcases hc with rfl | hc
  ·rw[hfree]at e;cases e
  ·rw[hfree]at hc;cases hc
 rcases hx with hk | hk
 ·refine wpAny_storeName_local hk hn (fun h' hn' hs=>?_) hcls
  obtain⟨oL,_,_,hoL,_⟩:=id hn
  refine h _ ⟨I.ok,I.os,I.bare,⟨fun b o e n hb hx=>?_,fun b o e n hb hx=>?_,I.base.free,fun b o e hx=>?_,I.base.tups,I.base.frzs,I.base.tbls⟩,⟨_,hn',fun j y v' e1 e2 e3=>?_⟩,fun y c e=>?_,I.free,I.freeC,fun p hp=>?_,tracked ⟨oL,hoL,I.free⟩ hs,by simpa using I.len⟩ ⟨_,hs,.inl rfl⟩
  ·exact(hs.2 b (Nat.ne_of_lt (Nat.lt_of_lt_of_le (Heap.lt_size e) I.ok.above))).trans (I.base.keep b o e n hb hx)
  ·obtain⟨sl,e1⟩:=I.base.slot b o e n hb hx
   exact⟨sl,(hs.2 b (Nat.ne_of_lt (Nat.lt_of_lt_of_le (Heap.lt_size e) I.ok.above))).trans e1⟩
  ·obtain⟨o',e1⟩:=I.base.there b o e hx
   exact⟨o',(hs.2 b (Nat.ne_of_lt (Nat.lt_of_lt_of_le (Heap.lt_size e) I.ok.above))).trans e1⟩
  ·by_cases hj:j=i
   ·subst hj
    rw[hi]at e1;cases e1
    rw[List.getElem?_set_self hiσ]at e2
    cases e2
    exact⟨u,r,.inl ⟨hk,by simp⟩⟩
   ·rw[List.getElem?_set_ne (Ne.symm hj)]at e2
    obtain⟨u',r',q⟩:=hl j y v' e1 e2 e3
    refine⟨u',r',?_⟩
    rcases q with⟨k,e⟩ | ⟨k,c,e,z⟩
    ·refine .inl ⟨k,?_⟩
     have:y≠x:=fun e=>hj (QBH hN e1 (e ▸ hi))
     simp[this,e]
    ·exact .inr ⟨k,c,e,z.sameBut hs (cne y c e)⟩
  ·obtain⟨w',z⟩:=I.cell y c e
   exact⟨w',z.sameBut hs (cne y c e)⟩
  ·obtain⟨e,n,ne,nf,d⟩:=I.pin p hp
   exact⟨(hs.2 p.1 ne).trans e,n,ne,nf,d⟩
 ·have hfn:X.fn x=true:=by
   rcases hf with z | z
   ·exact z
   ·rw[z]at hk;cases hk
  obtain⟨c,hc⟩:=I.ok.has x (.inl hk)
  obtain⟨w',z⟩:=I.cell x c hc
  refine wpAny_storeName_cell I.ok.kind hk hc z (fun h' hc' hs=>?_)
  obtain⟨oc,hoc,hocd⟩:=id z
  refine h { s with heap:=h' } ⟨I.ok,I.os,I.bare,⟨fun b o e n hb hx=>?_,fun b o e n hb hx=>?_,I.base.free,fun b o e hx=>?_,I.base.tups,I.base.frzs,I.base.tbls⟩,⟨m,hn.sameBut hs (Ne.symm (cne x c hc)),fun j y v' e1 e2 e3=>?_⟩,fun y c' e=>?_,I.free,I.freeC,fun p hp=>?_,tracked ⟨oc,hoc,I.freeC x c hc⟩ hs,by simpa using I.len⟩ ⟨c,hs,.inr hc⟩
  ·exact(hs.2 b (Nat.ne_of_lt (Nat.lt_of_lt_of_le (Heap.lt_size e) (I.ok.cab x c hfn hc)))).trans (I.base.keep b o e n hb hx)
  ·obtain⟨sl,e1⟩:=I.base.slot b o e n hb hx
   exact⟨sl,(hs.2 b (Nat.ne_of_lt (Nat.lt_of_lt_of_le (Heap.lt_size e) (I.ok.cab x c hfn hc)))).trans e1⟩
  ·obtain⟨o',e1⟩:=I.base.there b o e hx
   exact⟨o',(hs.2 b (Nat.ne_of_lt (Nat.lt_of_lt_of_le (Heap.lt_size e) (I.ok.cab x c hfn hc)))).trans e1⟩
  ·by_cases hj:j=i
   ·subst hj
    rw[hi]at e1;cases e1
    rw[List.getElem?_set_self hiσ]at e2
    cases e2
    exact⟨u,r,.inr ⟨.inl hk,c,hc,hc'⟩⟩
   ·rw[List.getElem?_set_ne (Ne.symm hj)]at e2
    obtain⟨u',r',q⟩:=hl j y v' e1 e2 e3
    refine⟨u',r',?_⟩
    rcases q with q | ⟨k,c',e,z'⟩
    ·exact .inl q
    ·refine .inr ⟨k,c',e,z'.sameBut hs ?_⟩
     rintro rfl
     exact hj (QBH hN e1 (I.ok.inj _ _ _ e hc ▸ hi))
  ·by_cases hcc:c'=c
   ·subst hcc;exact⟨_,hc'⟩
   ·obtain⟨w2,z2⟩:=I.cell y c' e
    exact⟨w2,z2.sameBut hs hcc⟩
  ·obtain⟨e,n,ne,nf,d⟩:=I.pin p hp
   refine⟨(hs.2 p.1 ?_).trans e,n,ne,nf,d⟩
   intro q
   rw[q,hoc]at e
   have q':oc=p.2:=Option.some.inj e
   exact d w' (by rw[← q'];exact hocd)
theorem QD9{M:Model}{A:Around}{E:Value->Shared->Prop}{i:Nat}{x:Str}{v:V}{u:Value}{Q:Unit->Shared->Prop}(I:Inv X pins σ H s)(hN:X.N.Nodup)(hi:X.N[i]?=some x)(hx:Loc X.env.scope x)(r:RelV v u)
 (h:∀ s',Inv X pins (σ.set i (some v)) H s'->Q () s') (hf:X.fn x=true∨X.env.scope.names.lookup x=some .local:=by first | exact .inl rfl | exact .inr rfl | assumption):wpAny M A (storeName X.env x u) Q E s:=
 QyP I hN hi hx r (fun s' I' _=>h s' I') hf
theorem Inv.call'{s':Shared}{ch:List Addr}(I:Inv X pins σ H s)(ho:s'.os=s.os)(u:Un (frs X.stack) ch H H' s.heap s'.heap)(hok:HOk X.prog X.w H' s'.heap)(hg:AllBare s'.gens)
 (hch:∀ b∈ch,(b∈X.ex∨X.s₀.heap.objs.size<=b)/\b≠X.env.locals/\(∀ x c,X.env.cells.lookup x=some c->c≠b)/\∀ p∈X.pn++pins,p.1≠b):Inv X pins σ H' s':=by
 obtain⟨h',g',d',t',o'⟩:=s'
 have e:o'=s.os:=ho
 subst e
 exact I.call (g':=g') (t':=t') (d':=d') u hok hg hch
end
abbrev XK:=Value->Option Addr->Hp->Prop
abbrev St:=List (Option V)
abbrev VK:=V->Hp->Prop
abbrev TE:=St->Hp->VK->Prop
abbrev TT:=St->Hp->(Bool->Hp->Prop)->Prop
abbrev TA:=St->Hp->(List V->Hp->Prop)->Prop
structure Ends where
 nx:St->Hp->Prop
 rt:VK
 bk:St->Hp->Prop:=fun _ _=>False
 ct:St->Hp->Prop:=fun _ _=>False
abbrev TS:=Ends->St->Hp->Prop
def EP(X:Cx)(pins:List (Addr×Obj))(σ:St)(Q:VK)(u:Value)(s':Shared):Prop:=∃ v H',Inv X pins σ H' s'/\RelV v u/\Q v H'
def TP(X:Cx)(pins:List (Addr×Obj))(σ:St)(Q:Bool->Hp->Prop)(b:Bool)(s':Shared):Prop:=∃ H',Inv X pins σ H' s'/\Q b H'
def AP(X:Cx)(pins:List (Addr×Obj))(σ:St)(Q:List V->Hp->Prop)(us:List Value)(s':Shared):Prop:=∃ vs H',Inv X pins σ H' s'/\Vals vs us/\Q vs H'
def SP(X:Cx)(pins:List (Addr×Obj))(D:Ends)(f:Flow)(s':Shared):Prop:=
 match f with
 | .next=>∃ σ' H',Inv X pins σ' H' s'/\D.nx σ' H'
 | .brk=>∃ σ' H',Inv X pins σ' H' s'/\D.bk σ' H'
 | .cont=>∃ σ' H',Inv X pins σ' H' s'/\D.ct σ' H'
 | .ret u=>∃ v σ' H',Inv X pins σ' H' s'/\RelV v u/\D.rt v H'
def PE(X:Cx)(e:Expr)(t:TE):Prop:=
 ∀(pins:List (Addr×Obj))(s:Shared)(σ:St)(H:Hp)(Q:VK),Inv X pins σ H s->t σ H Q->wpAny (model X.prog X.w) X.A (eval e X.env) (EP X pins σ Q) X.xe s
def PT(X:Cx)(e:Expr)(t:TT):Prop:=
 ∀(pins:List (Addr×Obj))(s:Shared)(σ:St)(H:Hp)(Q:Bool->Hp->Prop),Inv X pins σ H s->t σ H Q->wpAny (model X.prog X.w) X.A (isTrue e X.env (eval e X.env)) (TP X pins σ Q) X.xe s
def PW(X:Cx)(e:Expr)(t:TT):Prop:=
 ∀(whole:Sem Value)(pins:List (Addr×Obj))(s:Shared)(σ:St)(H:Hp)(Q:Bool->Hp->Prop),Inv X pins σ H s->t σ H Q->wpAny (model X.prog X.w) X.A (isTrue e X.env whole) (TP X pins σ Q) X.xe s
theorem PW.pt{X:Cx}{e:Expr}{t:TT}(h:PW X e t):PT X e t:=h _
def PA(X:Cx)(es:List Expr)(t:TA):Prop:=
 ∀(pos:Pos)(pins:List (Addr×Obj))(s:Shared)(σ:St)(H:Hp)(Q:List V->Hp->Prop),Inv X pins σ H s->t σ H Q->wpAny (model X.prog X.w) X.A (spliced (backTo pos (starEach es X.env))) (AP X pins σ Q) X.xe s
def PS(X:Cx)(st:Stmt)(t:TS):Prop:=
 ∀(pins:List (Addr×Obj))(s:Shared)(σ:St)(H:Hp)(D:Ends),Inv X pins σ H s->t D σ H->wpAny (model X.prog X.w) X.A (exec st X.env) (SP X pins D) X.xe s
def PSs(X:Cx)(st:List Stmt)(t:TS):Prop:=
 ∀(pins:List (Addr×Obj))(s:Shared)(σ:St)(H:Hp)(D:Ends),Inv X pins σ H s->t D σ H->wpAny (model X.prog X.w) X.A (execs st X.env) (SP X pins D) X.xe s
theorem thn{α:Type}{t:Sem α}{Q Q':α->Shared->Prop}{M:Model}{A:Around}{E:Value->Shared->Prop}{s:Shared}(h:wpAny M A t Q E s)(hQ:∀ a s,Q a s->Q' a s):wpAny M A t Q' E s:=wpAny_mono h hQ fun _ _ x=>x
end L2
namespace L2
open PySem PySem.Spec PyProof.Rows
section
variable{X:Cx}
def tVar(i:Nat):TE:=fun σ H Q=>∃ v,σ[i]?=some (some v)/\Q v H
def tC(v:V):TE:=fun _ H Q=>Q v H
theorem QeF{i:Nat}{x:Str}{pos:Pos}(hN:X.N[i]?=some x)(hv:Vis X.env.scope x)(hd:(x == ("__debug__":Str))=false:=by decide)(hcd:(x == ("__classdict__":Str))=false:=by decide):PE X (.Name x pos) (tVar i):=by
 intro pins s σ H Q I h
 obtain⟨v,e,h⟩:=h
 obtain⟨m,hn,hl⟩:=I.loc
 obtain⟨u,r,l⟩:=hl i x v hN e hv
 have fin:EP X pins σ Q u s:=⟨v,H,I,r,h⟩
 rcases l with⟨hk,hm⟩ | ⟨hk,c,hc,hcell⟩
 ·exact wpAny_Name (wpAny_loadName_local I.ok.kind hk hn hm fin) hd
 ·rcases hk with hk | hk
  ·exact wpAny_Name (wpAny_loadName_cell I.ok.kind hk hc hcell fin) hd
  ·exact wpAny_Name (wpAny_loadName_free I.ok.kind hk hc hcell fin hcd) hd
theorem QO3{i j pos}:PE X (.Constant (.int i) j pos) (tC (.int i)):=fun _ _ _ H _ I h=>wpAny_Constant_int ⟨.int i,H,I.tok _,⟨_,rfl⟩,h⟩
theorem pe_bl{b j pos}:PE X (.Constant (.bool b) j pos) (tC (.bl b)):=fun _ _ _ H _ I h=>Constant_bool ⟨.bl b,H,I,rfl,h⟩
theorem QPo{j pos}:PE X (.Constant .none j pos) (tC .non):=fun _ _ _ H _ I h=>Constant_none ⟨.non,H,I,rfl,h⟩
theorem QOE{x j pos}:PE X (.Constant (.str x) j pos) (tC (.str x)):=fun _ _ _ H _ I h=>Calls.Constant_str ⟨.str x,H,I.tok _,⟨_,rfl⟩,h⟩
def Gl(X:Cx)(x:Str):Prop:=X.env.kindOf x=some .globalImplicit
theorem Qyp{E:Value->Shared->Prop}{pins:List (Addr×Obj)}{s:Shared}{σ:St}{H:Hp}{x:Str}{u:Value}{pos:Pos}{Q:Value->Shared->Prop}(I:Inv X pins σ H s)(hg:Gl X x)(hm:X.mg x=some u)(h:Q u s)
 (hd:(x == ("__debug__":Str))=false:=by decide):wpAny (model X.prog X.w) X.A (eval (.Name x pos) X.env) Q E s:=
 Calls.Name_function_global I.ok.kind hg (Calls.loadGlobal_global (by rw[I.ok.glob];exact I.mod.glob.keeps I.bk) hm h) hd
theorem Qhb{E:Value->Shared->Prop}{pins:List (Addr×Obj)}{s:Shared}{σ:St}{H:Hp}{x:Str}{u:Value}{pos:Pos}{Q:Value->Shared->Prop}(I:Inv X pins σ H s)(hg:Gl X x)(hm:X.mg x=none)(hv:bootBuiltins x=some u)(h:Q u s)
 (hn:x≠"__name__":=by decide) (hd:(x == ("__debug__":Str))=false:=by decide):wpAny (model X.prog X.w) X.A (eval (.Name x pos) X.env) Q E s:=by
 obtain⟨mb,h1,h2⟩:=I.mod.blt
 exact Calls.Name_function_global I.ok.kind hg (Calls.loadGlobal_builtin (by rw[I.ok.glob];exact I.mod.glob.keeps I.bk) hm (by rw[I.ok.blt];exact h1.keeps I.bk) ((h2 x hn).trans hv) h) hd
theorem QoU{x:Str}{v:V}{u:Value}{pos:Pos}(hg:Gl X x)(hm:X.mg x=some u)(r:RelV v u)(hd:(x == ("__debug__":Str))=false:=by decide):PE X (.Name x pos) (tC v):=
 fun _ _ _ H _ I h=>Qyp I hg hm ⟨v,H,I,r,h⟩ hd
theorem QND{x:Str}{v:V}{u:Value}{pos:Pos}(hg:Gl X x)(hm:X.mg x=none)(hv:bootBuiltins x=some u)(r:RelV v u)(hn:x≠"__name__":=by decide)(hd:(x == ("__debug__":Str))=false:=by decide):PE X (.Name x pos) (tC v):=
 fun _ _ _ H _ I h=>Qhb I hg hm hv ⟨v,H,I,r,h⟩ hn hd
variable{a b:Expr}{ta tb:TE}{pos:Pos}
def tB(t:TE):TT:=fun σ H Q=>t σ H fun x H1=>∃ c,x=.bl c/\Q c H1
theorem QPk{e:Expr}{t:TE}(h:PE X e t)(he:∀ whole,isTrue e X.env whole=(do let v ← whole;standAt e.pos;holding [v] (truthy v)):=by intro _;rfl):PT X e (tB t):=by
 intro pins s σ H Q I hw
 refine isTrue_plain (thn (h pins s σ H _ I hw) fun v s1 ⟨x,H1,I1,r1,q1⟩=>?_) (he _)
 obtain⟨d,rfl,q⟩:=q1
 cases r1
 exact wpAny_truthy_bool ⟨H1,I1,q⟩
variable{tA tB':TT}{rest:List Expr}
def tOr(t u:TT):TT:=fun σ H Q=>t σ H fun c H1=>if c=true then Q true H1 else u σ H1 Q
def tNot(t:TT):TT:=fun σ H Q=>t σ H fun c H1=>Q (!c) H1
theorem QOF(ha:PT X a tA):PW X (.BoolOp .Or [a] pos) tA:=by
 intro wh pins s σ H Q I h
 refine isTrue_or (thn (ha pins s σ H Q I h) fun c s1 e=>?_)
 cases c with
 | false=>exact isTrue_or_nil e
 | true=>exact e
theorem pw_or(ha:PT X a tA)(hb:PW X (.BoolOp .Or (b::rest) pos) tB'):PW X (.BoolOp .Or (a::b::rest) pos) (tOr tA tB'):=by
 intro wh pins s σ H Q I h
 refine isTrue_or (thn (ha pins s σ H _ I h) fun c s1 ⟨H1,I1,q1⟩=>?_)
 cases c with
 | true=>exact⟨H1,I1,q1⟩
 | false=>exact hb wh pins s1 σ H1 Q I1 q1
theorem QOx(ha:PT X a tA):PT X (.UnaryOp .Not a pos) (tNot tA):=by
 intro pins s σ H Q I h
 exact isTrue_not (ha pins s σ H (fun c H1=>Q (!c) H1) I h)
def tAndV(ta tb:TE):TE:=fun σ H Q=>ta σ H fun x H1=>∃ c,x=.bl c/\if c=true then tb σ H1 Q else Q (.bl false) H1
def tNotV(ta:TE):TE:=fun σ H Q=>ta σ H fun x H1=>∃ c,x=.bl c/\Q (.bl (!c)) H1
theorem QOy{op}{t:TE}(h:PE X a t):PE X (.BoolOp op [a] pos) t:=fun pins s σ H Q I hw=>BoolOp_one (h pins s σ H Q I hw)
theorem QOj(ha:PE X a ta)(hb:PE X (.BoolOp .And (b::rest) pos) tb):PE X (.BoolOp .And (a::b::rest) pos) (tAndV ta tb):=by
 intro pins s σ H Q I h
 refine BoolOp_and (thn (ha pins s σ H _ I h) fun v s1 ⟨x,H1,I1,r1,q1⟩=>?_)
 obtain⟨c,rfl,q1⟩:=q1
 cases r1
 refine wpAny_truthy_bool ?_
 cases c with
 | true=>exact hb pins s1 σ H1 Q I1 q1
 | false=>exact⟨.bl false,H1,I1,rfl,q1⟩
theorem QOh(ha:PE X a ta):PE X (.UnaryOp .Not a pos) (tNotV ta):=by
 intro pins s σ H Q I h
 refine UnaryOp_ (thn (ha pins s σ H _ I h) fun v s1 ⟨x,H1,I1,r1,q1⟩=>?_)
 obtain⟨c,rfl,q1⟩:=q1
 cases r1
 exact not_of (wpAny_truthy_bool ⟨.bl (!c),H1,I1,rfl,q1⟩)
def tIf(t:TT)(ta tb:TE):TE:=fun σ H Q=>t σ H fun c H1=>if c=true then ta σ H1 Q else tb σ H1 Q
theorem QLZ{c:Expr}(hc:PT X c tA)(ha:PE X a ta)(hb:PE X b tb):PE X (.IfExp c a b pos) (tIf tA ta tb):=by
 intro pins s σ H Q I h
 refine wpAny_IfExp (thn (hc pins s σ H _ I h) fun d s1 ⟨H1,I1,q1⟩=>?_)
 cases d with
 | true=>exact ha pins s1 σ H1 Q I1 q1
 | false=>exact hb pins s1 σ H1 Q I1 q1
end
end L2
namespace L2
open PySem PySem.Spec PyProof.Rows
def SqL(K:PySem.W.Frag)(H:Hp)(a:Addr)(xs:List V):Prop:=
 Rd H a (.lst xs)∨
  ∃(o:Obj)(its:Array Value)(n:Nat),K.lookup a=some o/\o.cls=.type "list"/\o.dict=none/\o.data=.seq its n/\its.size<=sizeLine/\Vals xs its.toList
def SqT(K:PySem.W.Frag)(H:Hp)(a:Addr)(xs:List V):Prop:=
 Rd H a (.tup xs)∨
  ∃(o:Obj)(its:Array Value)(n:Nat),K.lookup a=some o/\o.cls=.type "tuple"/\o.data=.seq its n/\its.size<=sizeLine/\Vals xs its.toList
def absV:Value->Option V
 | .none=>some .non
 | .bool b=>some (.bl b)
 | .int i _=>some (.int i)
 | .str x _=>some (.str x)
 | .bytes b _=>some (.byt b)
 | .float b _=>some (.flt b)
 | .ref a=>some (.ref a)
 | .type n=>some (.ty n)
 | _=>none
theorem RelV.abs{x:V}{u:Value}(r:RelV x u):absV u=some x:=by
 cases x with
 | non=>cases r;rfl
 | bl _=>cases r;rfl
 | int _=>obtain⟨t,rfl⟩:=r;rfl
 | str _=>obtain⟨t,rfl⟩:=r;rfl
 | byt _=>obtain⟨t,rfl⟩:=r;rfl
 | flt _=>obtain⟨t,rfl⟩:=r;rfl
 | ref _=>cases r;rfl
 | ty _=>cases r;rfl
theorem RelV.inj{x y:V}{u:Value}(r:RelV x u)(q:RelV y u):x=y:=Option.some.inj (r.abs.symm.trans q.abs)
theorem Vals.inj:∀{xs ys:List V}{us:List Value},Vals xs us->Vals ys us->xs=ys
 | _,_,_,.nil,.nil=>rfl
 | _,_,_,.cons r t,.cons r' t'=>by rw[r.inj r',Vals.inj t t']
section
variable{X:Cx}{pins:List (Addr×Obj)}{σ:St}{H:Hp}{s:Shared}{a:Addr}{xs ys:List V}
theorem SqL.of{K:PySem.W.Frag}(h:H a=some (.lst xs)):SqL K H a xs:=.inl (.inl h)
theorem SqT.of{K:PySem.W.Frag}(h:H a=some (.tup xs)):SqT K H a xs:=.inl (.inl h)
theorem Inv.list(I:Inv X pins σ H s)(h:SqL X.K H a xs):∃ its:List Value,Vals xs its/\PlainL s.heap a its.toArray/\xs.length<=sizeLine:=by
 rcases h with h | ⟨o,its,n,hk,hc,hd,hs,hz,r⟩
 ·obtain⟨z,its,n,r,e⟩:=h.ok I.hok
  exact⟨its,r,⟨_,n,e,rfl,rfl,rfl⟩,z⟩
 ·refine⟨its.toList,r,⟨o,n,I.kIn a o hk,hc,hd,by simpa using hs⟩,?_⟩
  have e:=r.length
  simp only[Array.length_toList]at e
  omega
theorem Inv.tuple(I:Inv X pins σ H s)(h:SqT X.K H a xs):∃ its:List Value,Vals xs its/\IsTup s.heap a its.toArray/\xs.length<=sizeLine:=by
 rcases h with h | ⟨o,its,n,hk,hc,hs,hz,r⟩
 ·obtain⟨z,its,r,p⟩:=h.ok I.hok
  exact⟨its,r,p,z⟩
 ·refine⟨its.toList,r,⟨o,I.kIn a o hk,hc,n,by simpa using hs⟩,?_⟩
  have e:=r.length
  simp only[Array.length_toList]at e
  omega
theorem Inv.list_inj(I:Inv X pins σ H s)(h:SqL X.K H a xs)(h':SqL X.K H a ys):xs=ys:=by
 obtain⟨its,r,⟨o,n,e,_,_,d⟩,_⟩:=I.list h
 obtain⟨its',r',⟨o',n',e',_,_,d'⟩,_⟩:=I.list h'
 rw[e]at e';cases e'
 rw[d]at d'
 injection d' with d1 _
 have:its=its':=by simpa using congrArg Array.toList d1
 subst this
 exact r.inj r'
end
abbrev Cx.wish(X:Cx)(E:Value->Shared->Prop):Cx:={ X with xe:=E }
abbrev Cx.nox(X:Cx):Cx:=X.wish fun _ _=>False
theorem Cx.Ok.wish{X:Cx}(ok:X.Ok)(E:Value->Shared->Prop):(X.wish E).Ok:=
 ⟨ok.mod,ok.kind,ok.glob,ok.blt,ok.above,ok.inj,ok.has,ok.cab,ok.hd,ok.frames,ok.stk,ok.exf,ok.bs,ok.bsz,ok.noex,ok.exfs,ok.funs,ok.frf⟩
theorem Cx.Ok.unwish{X:Cx}{E:Value->Shared->Prop}(ok:(X.wish E).Ok):X.Ok:=
 ⟨ok.mod,ok.kind,ok.glob,ok.blt,ok.above,ok.inj,ok.has,ok.cab,ok.hd,ok.frames,ok.stk,ok.exf,ok.bs,ok.bsz,ok.noex,ok.exfs,ok.funs,ok.frf⟩
section
variable{X:Cx}{pins:List (Addr×Obj)}{σ:St}{H:Hp}{s:Shared}{E:Value->Shared->Prop}
theorem Inv.wish(I:Inv X pins σ H s)(E:Value->Shared->Prop):Inv (X.wish E) pins σ H s:=⟨I.ok.wish E,I.os,I.bare,I.base,I.loc,I.cell,I.free,I.freeC,I.pin,I.hok,I.len⟩
theorem Inv.unwish(I:Inv (X.wish E) pins σ H s):Inv X pins σ H s:=⟨I.ok.unwish,I.os,I.bare,I.base,I.loc,I.cell,I.free,I.freeC,I.pin,I.hok,I.len⟩
theorem SP.unwish{D:Ends}{f:Flow}{s':Shared}(h:SP (X.wish E) pins D f s'):SP X pins D f s':=by
 cases f with
 | next=>obtain⟨σ',H',I,q⟩:=h;exact⟨σ',H',I.unwish,q⟩
 | brk=>obtain⟨σ',H',I,q⟩:=h;exact⟨σ',H',I.unwish,q⟩
 | cont=>obtain⟨σ',H',I,q⟩:=h;exact⟨σ',H',I.unwish,q⟩
 | ret u=>obtain⟨v,σ',H',I,r,q⟩:=h;exact⟨v,σ',H',I.unwish,r,q⟩
theorem PE.nox{e:Expr}{t:TE}(h:PE X.nox e t):PE X e t:=fun pins s σ H Q I hw=>
 wpAny_mono (h pins s σ H Q (I.wish _) hw) (fun _ _ ⟨v,H',I',r,q⟩=>⟨v,H',I'.unwish,r,q⟩) fun _ _ z=>False.elim z
theorem PT.nox{e:Expr}{t:TT}(h:PT X.nox e t):PT X e t:=fun pins s σ H Q I hw=>
 wpAny_mono (h pins s σ H Q (I.wish _) hw) (fun _ _ ⟨H',I',q⟩=>⟨H',I'.unwish,q⟩) fun _ _ z=>False.elim z
theorem PSs.nox{st:List Stmt}{t:TS}(h:PSs X.nox st t):PSs X st t:=fun pins s σ H D I hw=>
 wpAny_mono (h pins s σ H D (I.wish _) hw) (fun _ _ q=>q.unwish) fun _ _ z=>False.elim z
end
section
variable{X:Cx}{st:Stmt}{rest:List Stmt}{t u:TS}{e:Expr}{te:TE}{pos:Pos}
def tNext:TS:=fun D σ H=>D.nx σ H
def tSeq(t u:TS):TS:=fun D σ H=>t { D with nx:=u D } σ H
theorem QNw:PSs X [] tNext:=fun _ _ σ H _ I h=>wpAny_execs_nil ⟨σ,H,I,h⟩
theorem QMn(h1:PS X st t)(h2:PSs X rest u):PSs X (st::rest) (tSeq t u):=by
 intro pins s σ H D I h
 refine wpAny_execs_cons (thn (h1 pins s σ H { D with nx:=u D } I h) fun f s1 q=>?_)
 cases f with
 | next=>
  obtain⟨σ',H',I',q⟩:=q
  exact h2 pins s1 σ' H' D I' q
 | ret v=>exact q
 | brk=>exact q
 | cont=>exact q
theorem QNS(h1:PS X st t):PSs X [st] t:=by
 intro pins s σ H D I h
 refine wpAny_execs_cons (thn (h1 pins s σ H D I h) fun f s1 q=>?_)
 cases f with
 | next=>exact wpAny_execs_nil q
 | ret v=>exact q
 | brk=>exact q
 | cont=>exact q
theorem Inv.quiet{pins:List (Addr×Obj)}{σ:St}{H:Hp}{s:Shared}(I:Inv X pins σ H s):interactive X.env=false:=by simp[interactive,I.ok.kind]
def tDrop(te:TE):TS:=fun D σ H=>te σ H fun _ H1=>D.nx σ H1
theorem Qxp(he:PE X e te)(hs:swapsWith e none pos.line X.env=pure false:=by rfl):PS X (.Expr e pos) (tDrop te):=by
 intro pins s σ H D I h
 exact wpAny_Expr_any (thn (he pins s σ H _ I h) fun v s1 ⟨x,H1,I1,r1,q1⟩=>⟨σ,H1,I1,q1⟩) I.quiet hs
def tRet(te:TE):TS:=fun D σ H=>te σ H D.rt
theorem QBZ(he:PE X e te):PS X (.Return (some e) pos) (tRet te):=by
 intro pins s σ H D I h
 exact wpAny_Return_some (thn (he pins s σ H _ I h) fun v s1 ⟨x,H1,I1,r1,q1⟩=>⟨x,σ,H1,I1,r1,q1⟩)
def tIfS(c:TT)(t u:TS):TS:=fun D σ H=>c σ H fun b H1=>if b=true then t D σ H1 else u D σ H1
theorem ps_if{c:Expr}{a b:List Stmt}{tc:TT}(hc:PT X c tc)(ha:PSs X a t)(hb:PSs X b u):PS X (.If c a b pos) (tIfS tc t u):=by
 intro pins s σ H D I h
 refine wpAny_If (thn (hc pins s σ H _ I h) fun d s1 ⟨H1,I1,q1⟩=>?_)
 cases d with
 | true=>exact ha pins s1 σ H1 D I1 q1
 | false=>exact hb pins s1 σ H1 D I1 q1
def QOg:TS:=fun _ _ _=>False
theorem QMf:PS X st QOg:=fun _ _ _ _ _ _ h=>h.elim
end
abbrev TG:=V->St->Hp->(St->Hp->Prop)->Prop
abbrev TGs:=List V->St->Hp->(St->Hp->Prop)->Prop
def PG(X:Cx)(target:Expr)(t:TG):Prop:=
 ∀(pins:List (Addr×Obj))(s:Shared)(σ:St)(H:Hp)(v:V)(u:Value)(Q:St->Hp->Prop),Inv X pins σ H s->RelV v u->t v σ H Q->
  wpAny (model X.prog X.w) X.A (assign target X.env u) (fun _ s'=>∃ σ' H',Inv X pins σ' H' s'/\Q σ' H') X.xe s
def PGs(X:Cx)(ts:List Expr)(t:TGs):Prop:=
 ∀(pins:List (Addr×Obj))(s:Shared)(σ:St)(H:Hp)(vs:List V)(us:List Value)(Q:St->Hp->Prop),Inv X pins σ H s->Vals vs us->t vs σ H Q->
  wpAny (model X.prog X.w) X.A (assignInOrder ((assignEach ts X.env).map (·.2)) us) (fun _ s'=>∃ σ' H',Inv X pins σ' H' s'/\Q σ' H') X.xe s
abbrev TSet:=V->V->V->Hp->(Hp->Prop)->Prop
def PSet(X:Cx)(t:TSet):Prop:=
 ∀(pins:List (Addr×Obj))(s:Shared)(σ:St)(H:Hp)(o i v:V)(ov iv u:Value)(Q:Hp->Prop),Inv X pins σ H s->RelV o ov->RelV i iv->RelV v u->t o i v H Q->
  wpAny (model X.prog X.w) X.A (setItem ov iv u) (fun _ s'=>∃ H',Inv X pins σ H' s'/\Q H') X.xe s
section
variable{X:Cx}{pos:Pos}
def gName(i:Nat):TG:=fun v σ H Q=>Q (σ.set i (some v)) H
theorem QHg{i:Nat}{x:Str}(hN:X.N.Nodup)(hi:X.N[i]?=some x)(hx:Loc X.env.scope x)(hf:X.fn x=true∨X.env.scope.names.lookup x=some .local:=by first | exact .inl rfl | exact .inr rfl | assumption):PG X (.Name x pos) (gName i):=by
 intro pins s σ H v u Q I r h
 exact wpAny_assign_Name (QD9 I hN hi hx r (fun s' I'=>⟨_,H,I',h⟩) hf)
def gNil:TGs:=fun vs σ H Q=>vs=[]/\Q σ H
def gCons(t:TG)(u:TGs):TGs:=fun vs σ H Q=>∃ v r,vs=v::r/\t v σ H fun σ' H'=>u r σ' H' Q
theorem QM9:PGs X [] gNil:=by
 intro pins s σ H vs us Q I r h
 obtain⟨e,h⟩:=h
 subst e
 cases r
 exact assignInOrder_nil ⟨σ,H,I,h⟩
theorem QLJ{e:Expr}{es:List Expr}{t:TG}{u:TGs}(h1:PG X e t)(h2:PGs X es u)
 (hs:(assignEach (e::es) X.env).map (·.2)=assign e X.env::(assignEach es X.env).map (·.2):=by rfl):PGs X (e::es) (gCons t u):=by
 intro pins s σ H vs us Q I r h
 obtain⟨v,vr,e1,h⟩:=h
 subst e1
 cases r with
 | cons r rr=>
  rw[hs]
  refine assignInOrder_cons (thn (h1 pins s σ H _ _ _ I r h) fun _ s1 ⟨σ1,H1,I1,q1⟩=>?_)
  exact h2 pins s1 σ1 H1 _ _ Q I1 rr q1
def gTup(K:PySem.W.Frag)(n:Nat)(t:TGs):TG:=fun v σ H Q=>∃ a xs,v=.ref a/\SqT K H a xs/\xs.length=n/\t xs σ H Q
theorem QOv{es:List Expr}{k:Nat}{t:TGs}{n:Nat}(hc:X.calm=true)(h:PGs X es t)
 (hn:(assignEach es X.env).length=n:=by rfl) (hst:(assignEach es X.env).findIdx? (·.1)=none:=by rfl):PG X (.Tuple es k pos) (gTup X.K n t):=by
 intro pins s σ H v u Q I r hw
 obtain⟨a,xs,e1,hq,hl,hw⟩:=hw
 subst e1
 cases r
 obtain⟨its,rv,ht,hz⟩:=I.tuple hq
 refine assign_Tuple_tuple (I.ok.hd hc) ht (by simp[hn, ← hl,rv.length]) hst fun h' hx=>?_
 have I1:Inv X pins σ H { s with heap:=h' }:=I.kept (t':=s.toks) fun b o e=>hx b o (Nat.ne_of_lt (Heap.lt_size e)) e
 exact h pins _ σ H xs _ Q I1 (by simpa using rv) hw
def gSub(to ti:TE)(t:TSet):TG:=fun v σ H Q=>to σ H fun o H1=>ti σ H1 fun i H2=>t o i v H2 fun H3=>Q σ H3
theorem QLf{o i:Expr}{to ti:TE}{t:TSet}(ho:PE X o to)(hi:PE X i ti)(hs:PSet X t)
 (ha:∀ v,assign (.Subscript o i pos) X.env v=(do
  let ov ← holding [v] (eval o X.env)
  let iv ← holding [v,ov] (eval i X.env)
  standAt pos
  holding [v,ov,iv] (setItem ov iv v)
  release [v,ov,iv] []):=by intro _;rfl):PG X (.Subscript o i pos) (gSub to ti t):=by
 intro pins s σ H v u Q I r h
 rw[ha]
 refine wpAny_bind (wpAny_holding (thn (ho pins s σ H _ I h) fun ov s1 ⟨x,H1,I1,r1,q1⟩=>?_))
 refine wpAny_bind (wpAny_holding (thn (hi pins s1 σ H1 _ I1 q1) fun iv s2 ⟨y,H2,I2,r2,q2⟩=>?_))
 refine wpAny_bind (wpAny_standAt (wpAny_bind (wpAny_holding (thn (hs pins s2 σ H2 x y v ov iv u _ I2 r1 r2 r q2) fun _ s3 ⟨H3,I3,q3⟩=>?_))))
 exact wpAny_release ⟨σ,H3,I3,q3⟩
def tAsg(te:TE)(g:TG):TS:=fun D σ H=>te σ H fun x H1=>g x σ H1 D.nx
theorem QAZ{tg e:Expr}{te:TE}{g:TG}(he:PE X e te)(hg:PG X tg g)(hs:swapsWithSole [tg] e pos.line X.env=pure false:=by rfl)(hw:swappedStores [tg] e X.env=pure none:=by rfl)
 (h1:(assignEach [tg] X.env).map (·.2)=[assign tg X.env]:=by rfl):PS X (.Assign [tg] e pos) (tAsg te g):=by
 intro pins s σ H D I h
 refine wpAny_Assign_stores (thn (he pins s σ H _ I h) fun v s1 ⟨x,H1,I1,r1,q1⟩=>?_) hs hw
 rw[h1]
 exact thn (hg pins s1 σ H1 x v _ I1 r1 q1) fun _ s2 q=>q
theorem QKT{i:Nat}{x:Str}{e:Expr}{te:TE}{pos':Pos}(hN:X.N.Nodup)(hi:X.N[i]?=some x)(hx:Loc X.env.scope x)(he:PE X e te)(hs:swapsWith e (some (.Name x pos')) pos.line X.env=pure false:=by rfl)(hf:X.fn x=true∨X.env.scope.names.lookup x=some .local:=by first | exact .inl rfl | exact .inr rfl | assumption):
 PS X (.Assign [.Name x pos'] e pos) (tAsg te (gName i)):=by
 intro pins s σ H D I h
 refine wpAny_Assign_Name (thn (he pins s σ H _ I h) fun v s1 ⟨y,H1,I1,r1,q1⟩=>?_) hs
 exact QD9 I1 hN hi hx r1 (fun s2 I2=>⟨_,H1,I2,q1⟩) hf
end
section
variable{X:Cx}{pos:Pos}
end
structure It where
 go:Nat->Hp->Prop
 yld:Nat->Hp->V->Hp->Prop
 stop:Nat->Hp->Prop
def FpOk(X:Cx)(pins:List (Addr×Obj))(H:Hp)(b:Addr):Prop:=
 H b=none/\b≠X.env.locals/\b∉X.fs/\(b∈X.ex∨X.s₀.heap.objs.size<=b)/\(∀ x c,X.env.cells.lookup x=some c->c≠b)/\∀ p∈X.pn++pins,p.1≠b
theorem Inv.fpOk{X:Cx}{pins:List (Addr×Obj)}{σ:St}{H H':Hp}{s:Shared}{b:Addr}(I:Inv X pins σ H s)(hb:s.heap.objs.size<=b)(hn:H' b=none):FpOk X pins H' b:=by
 refine⟨hn,Nat.ne_of_gt (Nat.lt_of_lt_of_le I.lt hb),I.nofs hb,.inr (Nat.le_trans I.sz hb),fun x c e z=>?_,fun p hp z=>?_⟩
 ·obtain⟨v,q⟩:=I.cell x c e
  exact absurd (Nat.lt_of_lt_of_le q.lt (by rw[z];exact hb)) (Nat.lt_irrefl _)
 ·exact absurd (Nat.lt_of_lt_of_le (Heap.lt_size (I.pin p hp).1) (by rw[z];exact hb)) (Nat.lt_irrefl _)
structure Turn(P:Program)(w:World)(K:PySem.W.Frag)(tg:Expr)(J:It)(fp:List Addr)(it:Addr)(tn:Nat->Heap->Prop):Prop where
 mem:it∈fp
 obj:∀ i h,tn i h->∀ b∈fp,∃ o,h.get? b=some o/\∀ v,o.data≠.cell v
 keep:∀ i h h',tn i h->(∀ b∈fp,∀ o,h.get? b=some o->h'.get? b=some o)->tn i h'
 item:∀(X:Cx),X.prog=P->X.w=w->X.K=K->X.calm=true->∀(i:Nat)(pins:List (Addr×Obj))(s:Shared)(σ:St)(H:Hp)(E:Value->Shared->Prop),Inv X pins σ H s->(∀ b∈fp,FpOk X pins H b)->tn i s.heap->J.go i H->
  wpAny (model P w) X.A (pyNext (.ref it)) (fun r s1=>∃ u,r=some u/\
   wpAny (model P w) X.A (letOwnedTupleGo tg (.ref it) u) (fun _ s2=>∃ x H',Inv X pins σ H' s2/\RelV x u/\J.yld i H x H'/\tn (i+1) s2.heap/\∀ b∈fp,H' b=none) E s1) E s
 done:∀(X:Cx),X.prog=P->X.w=w->X.K=K->X.calm=true->∀(i:Nat)(pins:List (Addr×Obj))(s:Shared)(σ:St)(H:Hp)(E:Value->Shared->Prop),Inv X pins σ H s->(∀ b∈fp,FpOk X pins H b)->tn i s.heap->J.stop i H->
  wpAny (model P w) X.A (pyNext (.ref it)) (fun r s1=>r=none/\Inv X pins σ H s1) E s
 self:∀(A:Around)(i:Nat)(s:Shared)(Q:Value->Shared->Prop)(E:Value->Shared->Prop),tn i s.heap->Q (.ref it) s->wpAny (model P w) A (pyIter (.ref it)) Q E s
abbrev TI:=St->Hp->(It->Hp->Prop)->Prop
def PIE(X:Cx)(pins:List (Addr×Obj))(σ:St)(tg:Expr)(R:It->Hp->Prop)(itv:Value)(s2:Shared):Prop:=
 ∃(it:Addr)(fp:List Addr)(tn:Nat->Heap->Prop)(J:It)(H':Hp),itv=.ref it/\Inv X pins σ H' s2/\Turn X.prog X.w X.K tg J fp it tn/\tn 0 s2.heap/\(∀ b∈fp,FpOk X pins H' b)/\R J H'
def PI(X:Cx)(tg iter:Expr)(wi:TI):Prop:=
 ∀(pins:List (Addr×Obj))(s:Shared)(σ:St)(H:Hp)(R:It->Hp->Prop),Inv X pins σ H s->wi σ H R->
  wpAny (model X.prog X.w) X.A (eval iter X.env) (fun v s1=>wpAny (model X.prog X.w) X.A (pyIter v) (PIE X pins σ tg R) X.xe s1) X.xe s
theorem go_of{M:Model}{A:Around}{E:Value->Shared->Prop}{s:Shared}{tg:Expr}{it:Addr}{u:Value}{o:Obj}{n:String}{vs:Array Value}{Q:Unit->Shared->Prop}(ho:s.heap.get? it=some o)(hc:o.cls=.type n)(hd:o.data=.fields vs)
 (hn:["enumerate","zip","dict_itemiterator","dict_reverseitemiterator","odict_iterator","itertools.zip_longest","itertools.pairwise"].contains n=false) (hQ:Q () s):wpAny M A (letOwnedTupleGo tg (.ref it) u) Q E s:=by
 unfold letOwnedTupleGo
 cases tg<;>first
  | exact wpAny_pure hQ
  | (cases u<;>first
   | exact wpAny_pure hQ
   | (refine wpAny_bind (wpAny_load ho ?_)
      rw[hc,hd]
      show wpAny M A (if (["enumerate","zip","dict_itemiterator","dict_reverseitemiterator","odict_iterator","itertools.zip_longest","itertools.pairwise"].contains n&&vs[0]? == some (rawInt _))=true then _ else _) Q E s
      rw[if_neg (by intro h;rw[hn,Bool.false_and]at h;cases h)]
      exact wpAny_pure hQ))
def Itl(K:PySem.W.Frag)(a:Addr):It:=
 ⟨fun i H=>∃ xs x,SqL K H a xs/\xs[i]?=some x,fun i H x H'=>H'=H/\∀ xs,SqL K H a xs->xs[i]?=some x,fun i H=>∃ xs,SqL K H a xs/\xs.length<=i⟩
def Itr(lo:Int)(n:Nat):It:=⟨fun i _=>i<n,fun i H x H'=>H'=H/\x=.int (lo+i),fun i _=>n<=i⟩
theorem QK2{P:Program}{w:World}{K:PySem.W.Frag}{tg:Expr}(a it:Addr):Turn P w K tg (Itl K a) [it] it (fun i h=>h.IsListIter it a i) where
 mem:=by simp
 obj:=fun i h st b hb=>by
  have e:b=it:=by simpa using hb
  subst e
  obtain⟨o,e,c,d⟩:=st
  exact⟨o,e,fun v z=>by rw[d]at z;cases z⟩
 keep:=fun i h h' st k=>st.at fun o e=>k it (by simp) o e
 item:=by
  intro X hP hw hK hc i pins s σ H E I hf st hg
  subst hP hw hK
  obtain⟨xs,x,hq,hx⟩:=hg
  obtain⟨its,rv,p,hz⟩:=I.list hq
  obtain⟨u,hu,ru⟩:=rv.get hx
  obtain⟨f0,f1,f2,f3,f4,f5⟩:=hf it (by simp)
  refine wpAny_pyNext_list_item st p.isList (x:=u) (by simpa using hu) fun h' st' sb=>?_
  have I1:Inv X pins σ H { s with heap:=h' }:=I.turned (t':=s.toks) (fun b o hb e=>(sb.2 b hb).trans e) f0 f1 f3 f4 f5
  obtain⟨o,e,c,d⟩:=id st'
  exact⟨u,rfl,go_of (s:={ s with heap:=h' }) e c d (by decide) ⟨x,H,I1,ru,⟨rfl,fun ys hy=>by rw[I.list_inj hy hq];exact hx⟩,st',fun b hb=>(hf b hb).1⟩⟩
 done:=by
  intro X hP hw hK hc i pins s σ H E I hf st hg
  subst hP hw hK
  obtain⟨xs,hq,hx⟩:=hg
  obtain⟨its,rv,p,hz⟩:=I.list hq
  obtain⟨f0,f1,f2,f3,f4,f5⟩:=hf it (by simp)
  have hl:=rv.length
  exact wpAny_pyNext_list_end (I.ok.hd hc) st p.isList (by simp;omega) fun h' eb=>⟨rfl,I.turned (t':=s.toks) (fun b o hb e=>eb b o hb e) f0 f1 f3 f4 f5⟩
 self:=fun _ _ _ _ _ st h=>wpAny_pyIter_listiter st h
theorem QHl{P:Program}{w:World}{K:PySem.W.Frag}{tg:Expr}(it:Addr)(lo:Int)(n:Nat):Turn P w K tg (Itr lo n) [it] it (fun i h=>IsRangeIter h it (lo+(i:Nat) * 1) ((n:Int) - (i:Nat)) 1) where
 mem:=by simp
 obj:=fun i h st b hb=>by
  have e:b=it:=by simpa using hb
  subst e
  exact⟨_,st,fun v z=>by
   have z':Data.fields _=Data.cell v:=z
   cases z'⟩
 keep:=fun i h h' st k=>k it (by simp) _ st
 item:=by
  intro X hP hw hK hc i pins s σ H E I hf st hg
  subst hP hw hK
  obtain⟨f0,f1,f2,f3,f4,f5⟩:=hf it (by simp)
  have W:=Walks.range (prog:=X.prog) (w:=X.w) (I.ok.hd hc) it lo 1 n
  refine W.item i s _ _ hg st fun v h' tk hv st' kk=>?_
  obtain⟨t,rfl⟩:=hv
  have I1:Inv X pins σ H { s with heap:=h',toks:=tk }:=I.turned (fun b o hb e=>kk b o (by simpa using hb) e) f0 f1 f3 f4 f5
  refine⟨_,rfl,go_of (s:={ s with heap:=h',toks:=tk }) (n:="range_iterator") st' rfl rfl (by decide) ⟨.int (lo+i),H,I1,⟨t,?_⟩,⟨rfl,rfl⟩,st',fun b hb=>(hf b hb).1⟩⟩
  rw[Int.mul_one]
 done:=by
  intro X hP hw hK hc i pins s σ H E I hf st hg
  subst hP hw hK
  obtain⟨f0,f1,f2,f3,f4,f5⟩:=hf it (by simp)
  exact wpAny_pyNext_range_end (I.ok.hd hc) st (by have:n<=i:=hg;omega) fun h' eb=>⟨rfl,I.turned (t':=s.toks) (fun b o hb e=>eb b o hb e) f0 f1 f3 f4 f5⟩
 self:=fun _ _ _ _ _ st h=>wpAny_pyIter_rangeiter st h
end L2
namespace L2
open PySem PySem.Spec PyProof.Rows
section
variable{X:Cx}{tg:Expr}
def iList(K:PySem.W.Frag)(tl:TE):TI:=fun σ H R=>tl σ H fun x H1=>∃ a,x=.ref a/\(∃ xs,SqL K H1 a xs)/\R (Itl K a) H1
theorem QHb{l:Expr}{tl:TE}(hl:PE X l tl):PI X tg l (iList X.K tl):=by
 intro pins s σ H R I h
 refine thn (hl pins s σ H _ I h) fun v s1 ⟨x,H1,I1,r1,q1⟩=>?_
 obtain⟨a,e,⟨xs,hq⟩,q⟩:=q1
 subst e
 cases r1
 obtain⟨its,rv,p,hz⟩:=I1.list hq
 refine wpAny_pyIter_list p.isList ?_
 refine⟨s1.heap.objs.size,[s1.heap.objs.size],_,_,H1,rfl,I1.kept (t':=s1.toks) fun b o e=>Heap.get?_push_of_some _ e,QK2 a _,⟨_,Heap.get?_push_size _ rfl,rfl,rfl⟩,fun b hb=>?_,q⟩
 have e:b=s1.heap.objs.size:=by simpa using hb
 subst e
 exact I1.fpOk (Nat.le_refl _) (I1.hok.fresh (Nat.le_refl _))
theorem QA8{pins:List (Addr×Obj)}{σ:St}{H:Hp}{s:Shared}{R:It->Hp->Prop}{E:Value->Shared->Prop}{lo hi:Int}{t u v:Tok}{tk:Nat}(I:Inv X pins σ H s)(h1 : -(2 ^ 62)<=lo)(h2:lo<2 ^ 62)(h3 : -(2 ^ 62)<=hi)(h4:hi<2 ^ 62)
 (q:R (Itr lo (hi - lo).toNat) H):wpAny (model X.prog X.w) X.A (pyIter (.ref s.heap.objs.size)) (PIE X pins σ tg R) E { s with heap:=s.heap.push { cls:=.type "range",data:=.fields #[.int lo t,.int hi u,.int 1 v] },toks:=tk }:=by
 refine wpAny_pyIter_range (IsRange.new ..) (small_one h1 h2 h3 h4) ?_
 have I1:Inv X pins σ H { s with heap:=s.heap.push { cls:=.type "range",data:=.fields #[.int lo t,.int hi u,.int 1 v] },toks:=tk }:=I.kept fun b o e=>Heap.get?_push_of_some _ e
 refine⟨(s.heap.push { cls:=.type "range",data:=.fields #[.int lo t,.int hi u,.int 1 v] }).objs.size,[(s.heap.push { cls:=.type "range",data:=.fields #[.int lo t,.int hi u,.int 1 v] }).objs.size],_,_,H,rfl,
  I1.kept (t':=tk) fun b o e=>Heap.get?_push_of_some _ e,QHl _ lo (hi - lo).toNat,?_,fun b hb=>?_,q⟩
 ·have e1:lo+((0:Nat):Int) * 1=lo:=by simp
  have e2:(((hi - lo).toNat:Nat):Int) - ((0:Nat):Int)=Builtin.Range.rangeSize lo hi 1:=by rw[rangeSize_one];split<;>omega
  show IsRangeIter _ _ (lo+((0:Nat):Int) * 1) ((((hi - lo).toNat:Nat):Int) - ((0:Nat):Int)) 1
  rw[e1,e2]
  exact Heap.get?_push_size _ rfl
 ·have e:b=(s.heap.push { cls:=.type "range",data:=.fields #[.int lo t,.int hi u,.int 1 v] }).objs.size:=by simpa using hb
  subst e
  exact I1.fpOk (Nat.le_refl _) (I1.hok.fresh (Nat.le_refl _))
def iRng1(ta:TA):TI:=fun σ H R=>ta σ H fun vs H1=>∃ j:Int,vs=[.int j] /\ -(2 ^ 62)<=j/\j<2 ^ 62/\R (Itr 0 j.toNat) H1
def iRng2(ta:TA):TI:=fun σ H R=>ta σ H fun vs H1=>∃ i j:Int,vs=[.int i,.int j]/\(-(2 ^ 62)<=i/\i<2 ^ 62 /\ -(2 ^ 62)<=j/\j<2 ^ 62)/\R (Itr i (j - i).toNat) H1
theorem QJH{a:Expr}{ta:TA}{p pos:Pos}(hg:Gl X "range")(hm:X.mg "range"=none)(ha:PA X [a] ta)(hs:starEach [a] X.env=[(false,eval a X.env)]:=by rfl):PI X tg (.Call (.Name "range" p) [a] [] pos) (iRng1 ta):=by
 intro pins s σ H R I h
 refine Call_ (Qhb I hg hm boot_range (PyProof.Rows.callWith_type1 (thn (ha pos pins s σ H _ I h) fun us s1 ⟨vs,H1,I1,r1,q1⟩=>?_) hs rfl))
 obtain⟨j,e,q1,q2,q⟩:=q1
 subst e
 cases r1 with
 | cons r rr=>
  cases rr
  obtain⟨t,rfl⟩:=r
  exact call_range_1 (QA8 I1 (by omega) (by omega) q1 q2 (by simpa using q))
theorem QLd{a b:Expr}{ta:TA}{p pos:Pos}(hg:Gl X "range")(hm:X.mg "range"=none)(ha:PA X [a,b] ta)(hs:starEach [a,b] X.env=[(false,eval a X.env),(false,eval b X.env)]:=by rfl)(hs2:starEach [b] X.env=[(false,eval b X.env)]:=by rfl):
 PI X tg (.Call (.Name "range" p) [a,b] [] pos) (iRng2 ta):=by
 intro pins s σ H R I h
 refine Call_ (Qhb I hg hm boot_range (PyProof.Rows.callWith_type1 (thn (ha pos pins s σ H _ I h) fun us s1 ⟨vs,H1,I1,r1,q1⟩=>?_) (by rw[hs,hs2]) (by rw[hs2];rfl)))
 obtain⟨i,j,e,⟨q1,q2,q3,q4⟩,q⟩:=q1
 subst e
 cases r1 with
 | cons r rr=>
  cases rr with
  | cons r' rr=>
   cases rr
   obtain⟨t,rfl⟩:=r
   obtain⟨t',rfl⟩:=r'
   exact call_range_2 (QA8 I1 q1 q2 q3 q4 q)
def tFor(wi:TI)(g:TG)(tb:TS):TS:=fun D σ H=>wi σ H fun J H1=>∃ W:Nat->Nat->St->Hp->Prop,(∃ m,W 0 m σ H1)/\∀ i m σ H,W i m σ H->
 (J.stop i H/\D.nx σ H)∨(J.go i H/\∃ N:St->Hp->Prop,(∀ σ' H',N σ' H'->∃ m',m'<m/\W (i+1) m' σ' H')/\∀ x H',J.yld i H x H'->g x σ H' fun σ2 H2=>tb { D with nx:=N,ct:=N,bk:=D.nx } σ2 H2)
def Qsx(fp:List Addr)(h:Heap):List (Addr×Obj):=fp.filterMap fun b=>(h.get? b).map fun o=>(b,o)
theorem QkP{fp:List Addr}{h:Heap}{b:Addr}{o:Obj}(hb:b∈fp)(e:h.get? b=some o):(b,o)∈Qsx fp h:=List.mem_filterMap.mpr ⟨b,hb,by rw[e];rfl⟩
theorem QKQ{fp:List Addr}{h:Heap}{p:Addr×Obj}(hp:p∈Qsx fp h):p.1∈fp/\h.get? p.1=some p.2:=by
 obtain⟨b,hb,e⟩:=List.mem_filterMap.mp hp
 cases q:h.get? b with
 | none=>rw[q]at e;cases e
 | some o=>
  rw[q]at e
  have e':(b,o)=p:=Option.some.inj e
  subst e'
  exact⟨hb,q⟩
theorem Inv.pinned{pins:List (Addr×Obj)}{σ:St}{H:Hp}{s:Shared}{fp:List Addr}(I:Inv X pins σ H s)(hf:∀ b∈fp,FpOk X pins H b)(ho:∀ b∈fp,∃ o,s.heap.get? b=some o/\∀ v,o.data≠.cell v):Inv X (pins++Qsx fp s.heap) σ H s:=
 I.pins_of fun p hp=>(List.mem_append.mp hp).elim (fun z=>I.pin p (List.mem_append_right _ z)) fun z=>by
  obtain⟨hb,e⟩:=QKQ z
  obtain⟨f0,f1,f2,_⟩:=hf p.1 hb
  obtain⟨o,e',d⟩:=ho p.1 hb
  rw[e]at e';cases e'
  exact⟨e,f0,f1,f2,d⟩
theorem Inv.unpinned{pins pl:List (Addr×Obj)}{σ:St}{H:Hp}{s:Shared}(I:Inv X (pins++pl) σ H s):Inv X pins σ H s:=I.pins_of fun p hp=>I.pin p (List.mem_append_right _ (List.mem_append_left _ hp))
theorem QPr{iter:Expr}{body:List Stmt}{wi:TI}{g:TG}{tb:TS}{pos:Pos}(hp:PassesOwn (model X.prog X.w) X.A X.env X.xe)(hc:X.calm=true)(hi:PI X tg iter wi)(hg:PG X tg g)(hb:PSs X body tb)
 (hs:∀ x,foldedSetIterable iter X.env x=pure x:=by intro _;rfl):PS X (.For tg iter body [] pos) (tFor wi g tb):=by
 intro pins s σ H D I h
 refine wpAny_For (thn (hi pins s σ H _ I h) fun v s1 h1=>thn h1 fun itv s2 h2=>?_) hs
 obtain⟨it,fp,tn,J,H2,e,I2,T,st2,f2,W,⟨m0,w0⟩,turn⟩:=h2
 subst e
 -- what stays true of the iterator's objects through the loop
 have stat:∀{H':Hp},(∀ b∈fp,H' b=none)->∀ b∈fp,FpOk X pins H' b:=fun hn b hb=>⟨hn b hb,(f2 b hb).2⟩
 refine codeAny_forLoop_any (fun n s'=>∃ i σ' H',Inv X pins σ' H' s'/\tn i s'.heap/\(∀ b∈fp,H' b=none)/\W i n σ' H') ?_ m0 ⟨0,σ,H2,I2,st2,fun b hb=>(f2 b hb).1,w0⟩
 rintro n s3 ⟨i,σ3,H3,I3,st3,fr3,w3⟩
 rcases turn i n σ3 H3 w3 with⟨stop,qn⟩ | ⟨go,N,hN,step⟩
 ·refine wpAny_passesOwn hp (thn (T.done X rfl rfl rfl hc i pins s3 σ3 H3 X.xe I3 (stat fr3) st3 stop) fun r s4 ⟨hr,I4⟩=>?_)
  subst hr
  exact wpAny_execs_nil ⟨σ3,H3,I4,qn⟩
 ·refine wpAny_passesOwn hp (thn (T.item X rfl rfl rfl hc i pins s3 σ3 H3 X.xe I3 (stat fr3) st3 go) fun r s4 ⟨u,hr,h4⟩=>?_)
  subst hr
  refine wpAny_passesOwn hp (thn h4 fun _ s5 ⟨x,H5,I5,r5,y5,st5,fr5⟩=>?_)
  have I5':=I5.pinned (stat fr5) (T.obj _ _ st5)
  refine wpAny_passesOwn hp (thn (hg _ s5 σ3 H5 x u _ I5' r5 (step x H5 y5)) fun _ s6 ⟨σ6,H6,I6,q6⟩=>?_)
  refine wpAny_passesOwn hp (thn (hb _ s6 σ6 H6 _ I6 q6) fun f s7 q7=>?_)
  have again:∀{σ7:St}{H7:Hp},Inv X (pins++Qsx fp s5.heap) σ7 H7 s7->N σ7 H7->∃ m,m<n/\∃ i σ' H',Inv X pins σ' H' s7/\tn i s7.heap/\(∀ b∈fp,H' b=none)/\W i m σ' H':=fun {σ7 H7} I7 n7=>by
   obtain⟨m',hm,w7⟩:=hN σ7 H7 n7
   refine⟨m',hm,i+1,σ7,H7,I7.unpinned,T.keep _ _ _ st5 fun b hb o e=>(I7.pin (b,o) (List.mem_append_right _ (List.mem_append_right _ (QkP hb e)))).1,fun b hb=>?_,w7⟩
   obtain⟨o,e,d⟩:=T.obj _ _ st5 b hb
   exact(I7.pin (b,o) (List.mem_append_right _ (List.mem_append_right _ (QkP hb e)))).2.1
  cases f with
  | next=>obtain⟨σ7,H7,I7,n7⟩:=q7;exact again I7 n7
  | cont=>obtain⟨σ7,H7,I7,n7⟩:=q7;exact again I7 n7
  | brk=>obtain⟨σ7,H7,I7,q7⟩:=q7;exact⟨σ7,H7,I7.unpinned,q7⟩
  | ret v=>obtain⟨x7,σ7,H7,I7,r7,q7⟩:=q7;exact⟨x7,σ7,H7,I7.unpinned,r7,q7⟩
end
end L2
namespace L2
open PySem PySem.Spec PyProof.Rows
abbrev R2:=V->V->Hp->VK->Prop
def OpR(X:Cx)(f:Value->Value->Sem Value)(r:R2):Prop:=
 ∀(pins:List (Addr×Obj))(s:Shared)(σ:St)(H:Hp)(x y:V)(v u:Value)(Q:VK),Inv X pins σ H s->RelV x v->RelV y u->r x y H Q->
  wpAny (model X.prog X.w) X.A (f v u) (EP X pins σ Q) X.xe s
def UnR(X:Cx)(f:Value->Sem Value)(r:V->Hp->VK->Prop):Prop:=
 ∀(pins:List (Addr×Obj))(s:Shared)(σ:St)(H:Hp)(x:V)(v:Value)(Q:VK),Inv X pins σ H s->RelV x v->r x H Q->
  wpAny (model X.prog X.w) X.A (f v) (EP X pins σ Q) X.xe s
def CallR(X:Cx)(f:Value)(r:List V->Hp->VK->Prop):Prop:=
 ∀(pins:List (Addr×Obj))(s:Shared)(σ:St)(H:Hp)(xs:List V)(us:List Value)(Q:VK),Inv X pins σ H s->Vals xs us->r xs H Q->
  wpAny (model X.prog X.w) X.A (call f us) (EP X pins σ Q) X.xe s
def tOp(r:R2)(ta tb:TE):TE:=fun σ H Q=>ta σ H fun x H1=>tb σ H1 fun y H2=>r x y H2 Q
def tUn(r:V->Hp->VK->Prop)(ta:TE):TE:=fun σ H Q=>ta σ H fun x H1=>r x H1 Q
def rI(C:Int->Int->Prop)(g:Int->Int->V):R2:=fun x y H Q=>∃ i j,x=.int i/\y=.int j/\C i j/\Q (g i j) H
def rI0(g:Int->Int->V):R2:=fun x y H Q=>∃ i j,x=.int i/\y=.int j/\Q (g i j) H
def rU(g:Int->V):V->Hp->VK->Prop:=fun x H Q=>∃ i,x=.int i/\Q (g i) H
section
variable{X:Cx}{a b c:Expr}{ta tb tc:TE}{pos:Pos}
theorem binT(ha:PE X a ta)(hb:PE X b tb){pins:List (Addr×Obj)}{s:Shared}{σ:St}{H:Hp}{R:V->V->Hp->Prop}(I:Inv X pins σ H s)
 (h:ta σ H fun x H1=>tb σ H1 fun y H2=>R x y H2) {Q:Value->Shared->Prop} {f:Value->Value->Sem Value}
 (hf:∀ v u s2 x y H2,Inv X pins σ H2 s2->RelV x v->RelV y u->R x y H2->wpAny (model X.prog X.w) X.A (f v u) Q X.xe s2):
 wpAny (model X.prog X.w) X.A (eval a X.env) (fun v s₁=>wpAny (model X.prog X.w) X.A (eval b X.env) (fun u s₂ => wpAny (model X.prog X.w) X.A (f v u) Q X.xe s₂) X.xe s₁) X.xe s:=by
 refine thn (ha pins s σ H _ I h) fun v s1 ⟨x,H1,I1,r1,q1⟩=>?_
 refine thn (hb pins s1 σ H1 _ I1 q1) fun u s2 ⟨y,H2,I2,r2,q2⟩=>?_
 exact hf v u s2 x y H2 I2 r1 r2 q2
theorem pe_op{op:Operator}{r:R2}(ho:OpR X (binaryOp op) r)(ha:PE X a ta)(hb:PE X b tb):PE X (.BinOp a op b pos) (tOp r ta tb):=by
 intro pins s σ H Q I h
 exact wpAny_BinOp (binT ha hb I h fun v u s2 x y H2 I2 rx ry q=>ho pins s2 σ H2 x y v u Q I2 rx ry q)
theorem pe_un{op:UnaryOp}{r:V->Hp->VK->Prop}(ho:UnR X (unaryOp op) r)(ha:PE X a ta):PE X (.UnaryOp op a pos) (tUn r ta):=by
 intro pins s σ H Q I h
 exact UnaryOp_ (thn (ha pins s σ H _ I h) fun v s1 ⟨x,H1,I1,r1,q1⟩=>ho pins s1 σ H1 x v Q I1 r1 q1)
theorem opI{f:Value->Value->Sem Value}{C:Int->Int->Prop}{g:Int->Int->Int}
 (rule:∀(i j:Int)(t u:Tok)(s:Shared)(Q:Value->Shared->Prop)(E:Value->Shared->Prop),C i j->Q (.int (g i j) s.toks) { s with toks:=s.toks+1 }->wpAny (model X.prog X.w) X.A (f (.int i t) (.int j u)) Q E s):
 OpR X f (rI C fun i j=>.int (g i j)):=by
 intro pins s σ H x y v u Q I rx ry h
 obtain⟨i,j,rfl,rfl,hc,q⟩:=h
 obtain⟨t,rfl⟩:=rx
 obtain⟨t',rfl⟩:=ry
 exact rule i j t t' s _ _ hc ⟨.int (g i j),H,I.tok _,⟨_,rfl⟩,q⟩
theorem opI0{f:Value->Value->Sem Value}{g:Int->Int->Int}
 (rule:∀(i j:Int)(t u:Tok)(s:Shared)(Q:Value->Shared->Prop)(E:Value->Shared->Prop),Q (.int (g i j) s.toks) { s with toks:=s.toks+1 }->wpAny (model X.prog X.w) X.A (f (.int i t) (.int j u)) Q E s):
 OpR X f (rI0 fun i j=>.int (g i j)):=by
 intro pins s σ H x y v u Q I rx ry h
 obtain⟨i,j,rfl,rfl,q⟩:=h
 obtain⟨t,rfl⟩:=rx
 obtain⟨t',rfl⟩:=ry
 exact rule i j t t' s _ _ ⟨.int (g i j),H,I.tok _,⟨_,rfl⟩,q⟩
theorem opB0{f:Value->Value->Sem Value}{g:Int->Int->Bool}
 (rule:∀(i j:Int)(t u:Tok)(s:Shared)(Q:Value->Shared->Prop)(E:Value->Shared->Prop),Q (.bool (g i j)) s->wpAny (model X.prog X.w) X.A (f (.int i t) (.int j u)) Q E s):
 OpR X f (rI0 fun i j=>.bl (g i j)):=by
 intro pins s σ H x y v u Q I rx ry h
 obtain⟨i,j,rfl,rfl,q⟩:=h
 obtain⟨t,rfl⟩:=rx
 obtain⟨t',rfl⟩:=ry
 exact rule i j t t' s _ _ ⟨.bl (g i j),H,I,rfl,q⟩
def CPow(i j:Int):Prop:=0<=j/\j<=1000000/\i.natAbs<2 ^ 64
def CMul(i j:Int):Prop:=(-(2 ^ 64)<i/\i<2 ^ 64)∨(-(2 ^ 64)<j/\j<2 ^ 64)
theorem CMul.ok{i j:Int}(h:CMul i j):IntMulOk i j:=by
 rcases h with⟨h1,h2⟩ | ⟨h1,h2⟩
 ·exact .of_left (intBits_le_64 h1 h2)
 ·exact .of_right (intBits_le_64 h1 h2)
theorem QN9:OpR X (binaryOp .Add) (rI0 fun i j=>.int (i+j)):=opI0 fun _ _ _ _ _ _ _ q=>add_int q
theorem QPh:OpR X (binaryOp .Sub) (rI0 fun i j=>.int (i - j)):=opI0 fun _ _ _ _ _ _ _ q=>sub_int q
theorem QNF:OpR X (binaryOp .Mod) (rI (fun _ j=>j≠0) fun i j=>.int (i.fmod j)):=opI fun _ _ _ _ _ _ _ hc q=>mod_int' hc q
theorem QOS:OpR X (binaryOp .Pow) (rI CPow fun i j=>.int (i ^ j.toNat)):=opI fun _ _ _ _ _ _ _ hc q=>pow_int_small hc.1 hc.2.1 hc.2.2 q
theorem unI{f:Value->Sem Value}{g:Int->Int}
 (rule:∀(i:Int)(t:Tok)(s:Shared)(Q:Value->Shared->Prop)(E:Value->Shared->Prop),Q (.int (g i) s.toks) { s with toks:=s.toks+1 }->wpAny (model X.prog X.w) X.A (f (.int i t)) Q E s):
 UnR X f (rU fun i=>.int (g i)):=by
 intro pins s σ H x v Q I rx h
 obtain⟨i,rfl,q⟩:=h
 obtain⟨t,rfl⟩:=rx
 exact rule i t s _ _ ⟨.int (g i),H,I.tok _,⟨_,rfl⟩,q⟩
theorem QOi:UnR X (unaryOp .USub) (rU fun i=>.int (-i)):=unI fun _ _ _ _ _ q=>neg_int q
end
def scal:V->V->Bool
 | .non,.non=>true | .non,.int _=>true | .int _,.non=>true | .non,.bl _=>true | .bl _,.non=>true | .non,.str _=>true | .str _,.non=>true
 | .int _,.int _=>true | .bl _,.bl _=>true | .str _,.str _=>true | .byt _,.byt _=>true
 | .int _,.str _=>true | .str _,.int _=>true | .bl _,.str _=>true | .str _,.bl _=>true
 | _,_=>false
section
variable{X:Cx}{a b c:Expr}{ta tb tc:TE}{pos:Pos}
theorem QOB{pins:List (Addr×Obj)}{σ:St}{H:Hp}{s:Shared}{Q:VK}{k k':Bool}(I:Inv X pins σ H s)(q:Q (.bl k) H)(e:k=k'):EP X pins σ Q (.bool k') s:=by
 subst e
 exact⟨.bl k,H,I,rfl,q⟩
theorem op_lt:OpR X (compareOp .Lt) (rI0 fun i j=>.bl (decide (i<j))):=opB0 fun _ _ _ _ _ _ _ q=>lt_int q
theorem op_le:OpR X (compareOp .LtE) (rI0 fun i j=>.bl (decide (i<=j))):=opB0 fun _ _ _ _ _ _ _ q=>le_int q
theorem op_gt:OpR X (compareOp .Gt) (rI0 fun i j=>.bl (decide (j<i))):=opB0 fun _ _ _ _ _ _ _ q=>gt_int q
theorem op_ge:OpR X (compareOp .GtE) (rI0 fun i j=>.bl (decide (j<=i))):=opB0 fun _ _ _ _ _ _ _ q=>ge_int q
theorem QKH:OpR X (compareOp .In) (fun x y H Q=>∃ i j,x=.str i/\y=.str j/\Q (.bl (!(Builtin.Str.occurrences j i 0 j.length 1).isEmpty)) H):=by
 intro pins s σ H x y v u Q I rx ry h
 obtain⟨i,j,rfl,rfl,q⟩:=h
 obtain⟨t,rfl⟩:=rx
 obtain⟨t',rfl⟩:=ry
 exact in_str (QOB I q rfl)
theorem OpR.or{f:Value->Value->Sem Value}{r r':R2}(h:OpR X f r)(h':OpR X f r'):OpR X f (fun x y H Q=>r x y H Q∨r' x y H Q):=by
 intro pins s σ H x y v u Q I rx ry q
 rcases q with q | q
 ·exact h pins s σ H x y v u Q I rx ry q
 ·exact h' pins s σ H x y v u Q I rx ry q
theorem QhE(b:Expr){op:CmpOp}(h:op≠.In:=by decide)(h2:op≠.NotIn:=by decide):behindInMarks op b=false:=by
 have e1:(op == CmpOp.In)=false:=by cases op<;>first | rfl | exact absurd rfl h
 have e2:(op == CmpOp.NotIn)=false:=by cases op<;>first | rfl | exact absurd rfl h2
 cases b<;>simp[behindInMarks,e1,e2]
theorem QNK{op:CmpOp}{r:R2}(ho:OpR X (compareOp op) r)(ha:PE X a ta)(hb:PE X b tb)(hm:behindInMarks op b=false):PE X (.Compare a [op] [b] pos) (tOp r ta tb):=by
 intro pins s σ H Q I h
 exact wpAny_Compare1 (binT ha hb I h fun v u s2 x y H2 I2 rx ry q=>ho pins s2 σ H2 x y v u Q I2 rx ry q) hm
def tTest(t:TE):TT:=fun σ H Q=>t σ H fun x H'=>∃ k,x=.bl k/\Q k H'
theorem QMT{op:CmpOp}{r:R2}(ho:OpR X (compareOp op) r)(ha:PE X a ta)(hb:PE X b tb)(hm:behindInMarks op b=false):PT X (.Compare a [op] [b] pos) (tTest (tOp r ta tb)):=by
 intro pins s σ H Q I h
 refine wpAny_isTrue_Compare1 (thn (ha pins s σ H _ I h) fun v s1 ⟨x,H1,I1,r1,q1⟩=>thn (hb pins s1 σ H1 _ I1 q1) fun u s2 ⟨y,H2,I2,r2,q2⟩=>
  thn (ho pins s2 σ H2 x y v u _ I2 r1 r2 q2) fun c s3 ⟨z,H3,I3,r3,k,e,q3⟩=>?_) hm
 subst e
 cases r3
 exact wpAny_truthy_bool ⟨H3,I3,q3⟩
def QBG(r r':R2)(ta tb tc:TE):TE:=fun σ H Q=>ta σ H fun x H1=>tb σ H1 fun y H2=>r x y H2 fun z H3=>∃ k,z=.bl k/\
 (if k=true then tc σ H3 fun w' H4=>r' y w' H4 Q else Q (.bl false) H3)
theorem QMv{op op':CmpOp}{r r':R2}(ho:OpR X (compareOp op) r)(ho':OpR X (compareOp op') r')(ha:PE X a ta)(hb:PE X b tb)(hc:PE X c tc)
 (hm:lastMarks [op,op'] [b,c]=false:=by with_unfolding_all rfl):PE X (.Compare a [op,op'] [b,c] pos) (QBG r r' ta tb tc):=by
 intro pins s σ H Q I h
 refine Compare_chain (thn (ha pins s σ H _ I h) fun v s1 ⟨x,H1,I1,r1,q1⟩=>chain_link (thn (hb pins s1 σ H1 _ I1 q1) fun u s2 ⟨y,H2,I2,r2,q2⟩=>
  thn (ho pins s2 σ H2 x y v u _ I2 r1 r2 q2) fun d s3 ⟨z,H3,I3,r3,k,e,q3⟩=>?_)) hm
 subst e
 cases r3
 refine wpAny_truthy_bool ?_
 cases k with
 | false=>exact ite_ff ⟨.bl false,H3,I3,rfl,q3⟩
 | true=>exact ite_tt (chain_last (thn (hc pins s3 σ H3 _ I3 q3) fun w' s4 ⟨z',H4,I4,r4,q4⟩=>ho' pins s4 σ H4 y z' u w' Q I4 r2 r4 q4))
theorem QMc{op op':CmpOp}{r r':R2}(ho:OpR X (compareOp op) r)(ho':OpR X (compareOp op') r')(ha:PE X a ta)(hb:PE X b tb)(hc:PE X c tc)
 (hm:lastMarks [op,op'] [b,c]=false:=by with_unfolding_all rfl):PT X (.Compare a [op,op'] [b,c] pos) (tTest (QBG r r' ta tb tc)):=by
 intro pins s σ H Q I h
 refine isTrue_chain (thn (ha pins s σ H _ I h) fun v s1 ⟨x,H1,I1,r1,q1⟩=>test_link (thn (hb pins s1 σ H1 _ I1 q1) fun u s2 ⟨y,H2,I2,r2,q2⟩=>
  thn (ho pins s2 σ H2 x y v u _ I2 r1 r2 q2) fun d s3 ⟨z,H3,I3,r3,k,e,q3⟩=>?_)) hm
 subst e
 cases r3
 refine wpAny_truthy_bool ?_
 cases k with
 | false=>
  obtain⟨k',e',q'⟩:=q3
  cases e'
  exact ite_ff ⟨H3,I3,q'⟩
 | true=>
  refine ite_tt (test_last (thn (hc pins s3 σ H3 _ I3 q3) fun w' s4 ⟨z',H4,I4,r4,q4⟩=>thn (ho' pins s4 σ H4 y z' u w' _ I4 r2 r4 q4) fun d' s5 ⟨z2,H5,I5,r5,k2,e2,q5⟩=>?_))
  subst e2
  cases r5
  exact wpAny_truthy_bool ⟨H5,I5,q5⟩
theorem Qph:(sizeLine:Nat)<2 ^ 63:=by rw[sizeLine_eq];decide
theorem QHE:OpR X (binaryOp .Add) (fun x y H Q=>∃ i j,x=.str i/\y=.str j/\i.length+j.length<=sizeLine/\Q (.str (i++j)) H):=by
 intro pins s σ H x y v u Q I rx ry h
 obtain⟨i,j,rfl,rfl,hz,q⟩:=h
 obtain⟨t,rfl⟩:=rx
 obtain⟨t',rfl⟩:=ry
 exact add_str (fun t' tk=>⟨.str (i++j),H,I.tok _,⟨_,rfl⟩,q⟩) hz
theorem vals1{x:V}{us:List Value}(r:Vals [x] us):∃ u,us=[u]/\RelV x u:=by
 cases r with
 | cons r1 r2=>cases r2;exact⟨_,rfl,r1⟩
theorem vals2{x y:V}{us:List Value}(r:Vals [x,y] us):∃ u w',us=[u,w']/\RelV x u/\RelV y w':=by
 cases r with
 | cons r1 r2=>
  cases r2 with
  | cons r3 r4=>cases r4;exact⟨_,_,rfl,r1,r3⟩
theorem QJ1(hc:X.calm=true):CallR X (.builtin "max") (fun xs H Q=>∃ i j,xs=[.int i,.int j]/\Q (.int (if j > i then j else i)) H):=by
 intro pins s σ H xs us Q I r h
 obtain⟨i,j,rfl,q⟩:=h
 obtain⟨u,w',rfl,⟨t,rfl⟩,⟨t',rfl⟩⟩:=vals2 r
 refine max_two_ints (I.ok.hd hc) fun h' tk k=>⟨_,H,I.kept k,?_,q⟩
 by_cases hj:j > i
 ·rw[if_pos hj,if_pos hj];exact⟨_,rfl⟩
 ·rw[if_neg hj,if_neg hj];exact⟨_,rfl⟩
theorem QKc(hc:X.calm=true):CallR X (.builtin "min") (fun xs H Q=>∃ i j,xs=[.int i,.int j]/\Q (.int (if j<i then j else i)) H):=by
 intro pins s σ H xs us Q I r h
 obtain⟨i,j,rfl,q⟩:=h
 obtain⟨u,w',rfl,⟨t,rfl⟩,⟨t',rfl⟩⟩:=vals2 r
 refine min_two_ints (I.ok.hd hc) fun h' tk k=>⟨_,H,I.kept k,?_,q⟩
 by_cases hj:j<i
 ·rw[if_pos hj,if_pos hj];exact⟨_,rfl⟩
 ·rw[if_neg hj,if_neg hj];exact⟨_,rfl⟩
theorem QJG:CallR X (.type "int") (fun xs H Q=>(∃ i,xs=[.int i]/\Q (.int i) H)∨∃ k,xs=[.bl k]/\Q (.int (if k then 1 else 0)) H):=by
 intro pins s σ H xs us Q I r h
 rcases h with⟨i,rfl,q⟩ | ⟨k,rfl,q⟩
 ·obtain⟨u,rfl,t,rfl⟩:=vals1 r
  exact call_int_int ⟨.int i,H,I,⟨_,rfl⟩,q⟩
 ·obtain⟨u,rfl,r1⟩:=vals1 r
  cases r1
  exact call_int_bool ⟨.int (if k then 1 else 0),H,I.tok _,⟨_,rfl⟩,q⟩
end
end L2
namespace L2
open PySem PySem.Spec PyProof.Rows
structure ObjM(h:Heap)(x dx C:Addr)(mA:Str->Option Value):Prop where
 obj:h.get? x=some (PySem.W.instObj C dx)
 ns:h.Ns1 dx mA
 ne:dx≠x
theorem QKh{h:Heap}{dx:Addr}{mA:Str->Option Value}(n:h.Ns1 dx mA):∃ od,h.get? dx=some od/\∀ name,PySem.W.lookIn name od=some (mA name):=by
 obtain⟨o,es,ep,ho,hd,hk,_,hm⟩:=n
 refine⟨o,ho,fun name=>?_⟩
 have e:=hm name
 unfold nsFind findBy at e
 rw[← Array.find?_toList]at e
 unfold PySem.W.lookIn
 rw[hd]
 dsimp only
 split
 ·rename_i y q
  rw[q]at e
  exact congrArg some e
 ·rename_i q
  rw[q]at e
  have a:es.toList.any (·.refKey)=false:=by
   rw[List.any_eq_false]
   intro y hy
   obtain⟨z,t,hkey⟩:=hk y (Array.mem_toList_iff.mp hy)
   simp[DictEntry.refKey,hkey]
  have a':¬ es.toList.any (·.refKey)=true:=by rw[a];exact Bool.false_ne_true
  rw[if_neg a']
  exact congrArg some e
theorem ObjM.look{h:Heap}{x dx C:Addr}{mA:Str->Option Value}(I:ObjM h x dx C mA):∃ od,PySem.W.InstAt h x (PySem.W.instObj C dx) C (some od)/\∀ name,PySem.W.lookIn name od=some (mA name):=
 let ⟨od,ho,hl⟩:=QKh I.ns
 ⟨od,⟨I.obj,rfl,rfl,ho⟩,hl⟩
section
variable{prog:Program}{w:World}{A:Around}{E:Value->Shared->Prop}{s:Shared}{K:PySem.W.Frag}{x dx C f:Addr}{mA:Str->Option Value}{name:Str}{v:Value}
theorem QNJ{expr:Bool}{Q:Value->Shared->Prop}(X:K.In s.heap)(I:ObjM s.heap x dx C mA)(hg:PySem.W.plainGet K C name=true)(hh:PySem.W.hasDictIn K C=true)
 (ha:PySem.W.findIn K (.ref C) name=some none) (hv:mA name=some v) (hv':PySem.W.handedIn v=true) (h:Q v { s with toks:=s.toks+1 }):
 wpAny (model prog w) A (getAttr (.ref x) name expr) Q E s:=by
 obtain⟨od,J,hl⟩:=I.look
 exact PySem.W.get_value X J (PySem.W.plainGet_of hg).1 (PySem.W.findObj_own hh ha rfl (by rw[hl,hv])) hv' h
theorem QL8{pl:Sem Bool}{Q:Value×List Value->Shared->Prop}(X:K.In s.heap)(I:ObjM s.heap x dx C mA)(hg:PySem.W.plainGet K C name=true)
 (hf:PySem.W.findIn K (.ref C) name=some (some (.ref f))) (ht:PySem.W.isFn K (.ref f)=true) (hv:mA name=none) (h:Q (.ref f,[.ref x]) s):
 wpAny (model prog w) A (getMethod (.ref x) name pl) Q E s:=by
 obtain⟨od,J,hl⟩:=I.look
 exact PySem.W.method_fn X J (PySem.W.plainGet_of hg).1 (PySem.W.plainGet_of hg).2 hf (beq_iff_eq.mp ht) (by show(PySem.W.lookIn name od).map (·.isSome)=some false;rw[hl,hv];rfl) h
theorem QMY{ns:List Str}{Q:Unit->Shared->Prop}(X:K.In s.heap)(I:ObjM s.heap x dx C mA)
 (hs:PySem.W.findIn K (.ref C) "__setattr__"=some (some (.builtin "object.__setattr__"))) (hp:PySem.W.plainOver K C=true) (ht:PySem.W.takerIn K C name=some none) (hh:PySem.W.hasDictIn K C=true)
 (hw:PySem.Within mA ns) (hsz:ns.length<=sizeLine)
 (h:∀ h',ObjM h' x dx C (fun y=>if y=name then some v else mA y)->Heap.SameBut dx s.heap h'->Q () { s with heap:=h',toks:=s.toks+2 }):
 wpAny (model prog w) A (setAttr (.ref x) name v) Q E s:=by
 obtain⟨od,J,hl⟩:=I.look
 refine PySem.W.set_plain X J hs (PySem.W.osa_open (s:={ s with toks:=s.toks+1 }) (r:=none) X J hp ht fun b=>?_)
 obtain⟨cd,hc,hd'⟩:=PySem.W.any_some hh
 have hx:s.heap.get? x=some ⟨.ref C,some dx,.plain, #[]⟩:=I.obj
 refine wpAny_bind (wpAny_pure (wpAny_bind (wpAny_bind (wpAny_loadPart hx (wpAny_bind (PySem.W.Looks.here (s:={ s with toks:=s.toks+1 }) (PySem.W.looks_clsIn X hc) ?_))))))
 rw[hd']
 refine wpAny_pure (a:=some dx) (wpAny_bind (wpAny_pure (wpAny_bind ?_)))
 refine wpAny_nsSet1 (s:={ s with toks:=s.toks+1 }) I.ns fun h' hn2 hs2=>?_
 obtain⟨oD,esD,epD,hoD,hdD,hcD⟩:=hn2.count (PySem.Within.cons name v hw)
 refine wpAny_bind (wpAny_lookBehind hoD (by rw[hdD];exact pastItsLine_dict (Nat.le_trans hcD (by rw[List.length_cons];omega))) ?_)
 exact wpAny_pure (h _ ⟨(hs2.2 _ (Ne.symm I.ne)).trans I.obj,hn2,I.ne⟩ hs2)
theorem QMk{R:Result->Shared->Prop}{vs:List Value}{kw:List (Str×Value)}(X:K.In s.heap)(hm:PySem.W.makesIn K C=true)
 (hi:PySem.W.findIn K (.ref C) "__init__"=some (some (.ref f))) (hf:PySem.W.typeIn K (.ref f)=some (.type "function"))
 (h:codeAny (model prog w) (A.under (.builtin "type.__call__" ⟨.ref C::vs,kw⟩)) (.call (.ref f) ⟨.ref (s.heap.objs.size+1)::vs,kw⟩) (PySem.W.InitBack (s.heap.objs.size+1) R)
  { s with heap:=(s.heap.push PySem.W.emptyDict).push (PySem.W.instObj C s.heap.objs.size) }):
 codeAny (model prog w) A (.call (.ref C) ⟨vs,kw⟩) R s:=by
 obtain⟨hh,g,d,t,os⟩:=s
 exact PySem.W.make_core (PySem.W.makes_of X hm) (PySem.W.looks_findIn X hi) (fun self=>PySem.W.bind_fn X self hf) (.inl rfl) h
end
def putF(f:Str)(v:V):List (Str×V)->List (Str×V)
 | []=>[(f,v)]
 | (g,x)::r=>if g=f then(g,v)::r else(g,x)::putF f v r
theorem QtS(f g:Str)(v:V):∀ fs:List (Str×V),(putF f v fs).lookup g=if g=f then some v else fs.lookup g
 | []=>by
  show List.lookup g [(f,v)]=_
  by_cases h:g=f
  ·have hb:(g == f)=true:=beq_iff_eq.mpr h
   simp only[List.lookup,hb,if_pos h]
  ·have hb:(g == f)=false:=beq_eq_false_iff_ne.mpr h
   simp only[List.lookup,hb,if_neg h]
 | (k,x)::r=>by
  have ih:=QtS f g v r
  rw[show putF f v ((k,x)::r)=(if k=f then(k,v)::r else(k,x)::putF f v r) from rfl]
  by_cases hk:k=f
  ·rw[if_pos hk]
   by_cases h:g=k
   ·have hb:(g == k)=true:=beq_iff_eq.mpr h
    simp only[List.lookup,hb,if_pos (h.trans hk)]
   ·have hb:(g == k)=false:=beq_eq_false_iff_ne.mpr h
    simp only[List.lookup,hb,if_neg (fun e:g=f=>h (e.trans hk.symm))]
  ·rw[if_neg hk]
   by_cases h:g=k
   ·have hb:(g == k)=true:=beq_iff_eq.mpr h
    simp only[List.lookup,hb,if_neg (fun e:g=f=>hk (h.symm.trans e))]
   ·have hb:(g == k)=false:=beq_eq_false_iff_ne.mpr h
    simp only[List.lookup,hb]
    exact ih
theorem QrD(f:Str)(v:V):∀ fs:List (Str×V),f∈(putF f v fs).map (·.1)/\∀ g,g∈fs.map (·.1)->g∈(putF f v fs).map (·.1)
 | []=>⟨by simp[putF],fun g h=>by simp at h⟩
 | (k,x)::r=>by
  obtain⟨i1,i2⟩:=QrD f v r
  rw[show putF f v ((k,x)::r)=(if k=f then(k,v)::r else(k,x)::putF f v r) from rfl]
  by_cases hk:k=f
  ·rw[if_pos hk]
   subst hk
   exact⟨by simp,fun g h=>by simpa using h⟩
  ·rw[if_neg hk]
   refine⟨?_,fun g h=>?_⟩
   ·rw[List.map_cons]
    exact List.mem_cons_of_mem _ i1
   ·rw[List.map_cons]at h ⊢
    rcases List.mem_cons.mp h with e | e
    ·exact List.mem_cons.mpr (.inl e)
    ·exact List.mem_cons_of_mem _ (i2 g e)
theorem QtZ(f:Str)(v:V):∀ fs:List (Str×V),(putF f v fs).length<=fs.length+1
 | []=>by simp[putF]
 | (k,x)::r=>by
  have ih:=QtZ f v r
  rw[show putF f v ((k,x)::r)=(if k=f then(k,v)::r else(k,x)::putF f v r) from rfl]
  by_cases hk:k=f
  ·rw[if_pos hk,List.length_cons,List.length_cons];omega
  ·rw[if_neg hk,List.length_cons,List.length_cons];omega
theorem RelO.some_of{v:V}{o:Option Value}(r:RelO (some v) o):∃ u,o=some u/\RelV v u:=by
 cases o with
 | none=>exact(show False from r).elim
 | some u=>exact⟨u,rfl,r⟩
theorem RelO.none_of{o:Option Value}(r:RelO none o):o=none:=by
 cases o with
 | none=>rfl
 | some u=>exact(show False from r).elim
theorem QKq{v:V}{u:Value}(r:RelV v u):PySem.W.handedIn u=true:=by
 cases v with
 | non=>cases (show u=Value.none from r);rfl
 | bl b=>cases (show u=Value.bool b from r);rfl
 | int i=>obtain⟨t,e⟩:=(show ∃ t,u=Value.int i t from r);cases e;rfl
 | str x=>obtain⟨t,e⟩:=(show ∃ t,u=Value.str x t from r);cases e;rfl
 | byt b=>obtain⟨t,e⟩:=(show ∃ t,u=Value.bytes b t from r);cases e;rfl
 | flt b=>obtain⟨t,e⟩:=(show ∃ t,u=Value.float b t from r);cases e;rfl
 | ref a=>cases (show u=Value.ref a from r);rfl
 | ty n=>cases (show u=Value.type n from r);rfl
section
variable{P:Program}{w:World}{H H':Hp}{h h':Heap}{a C dx:Addr}{fs fs':List (Str×V)}
theorem Qo8(hok:HOk P w H h)(e:H a=some (.ins C dx fs)):∃ mA,ObjM h a dx C mA/\(∀ f,RelO (fs.lookup f) (mA f))/\PySem.Within mA (fs.map (·.1))/\fs.length<=1000/\H dx=some (.own a):=by
 obtain⟨d,z,ne,ob,mA,n,r,q⟩:=(show ObjOk P w H h a (.ins C dx fs) from hok a _ e)
 exact⟨mA,⟨ob,n,ne⟩,r,q,z,d⟩
end
structure Cls(K:PySem.W.Frag)(C:Addr):Prop where
 pg:PySem.W.plainGet K C Str.empty=true
 hd:PySem.W.hasDictIn K C=true
 po:PySem.W.plainOver K C=true
 sa:PySem.W.findIn K (.ref C) "__setattr__"=some (some (.builtin "object.__setattr__"))
theorem Cls.get{K:PySem.W.Frag}{C:Addr}(c:Cls K C)(f:Str):PySem.W.plainGet K C f=true:=c.pg
def QlP(K:PySem.W.Frag)(C:Addr)(f:Str):Prop:=PySem.W.findIn K (.ref C) f=some none
theorem QlP.taker{K:PySem.W.Frag}{C:Addr}{f:Str}(n:QlP K C f):PySem.W.takerIn K C f=some none:=by
 unfold PySem.W.takerIn
 rw[show PySem.W.findIn K (.ref C) f=some none from n]
 rfl
structure Meth(K:PySem.W.Frag)(C:Addr)(m:Str)(f:Addr):Prop where
 at_:PySem.W.findIn K (.ref C) m=some (some (.ref f))
 fn:PySem.W.isFn K (.ref f)=true
 kp:PySem.W.keepIn K (.ref f)=true
section
variable{X:Cx}{pins:List (Addr×Obj)}{σ:St}{H:Hp}{s:Shared}{a C dx:Addr}{fs:List (Str×V)}{f:Str}{v:V}{A:Around}{E:Value->Shared->Prop}
theorem QIO{b:Bool}{Q:Value->Shared->Prop}(I:Inv X pins σ H s)(e:H a=some (.ins C dx fs))(c:Cls X.K C)(n:QlP X.K C f)(l:fs.lookup f=some v)
 (h:∀ u s',Inv X pins σ H s'->RelV v u->Q u s'):wpAny (model X.prog X.w) A (getAttr (.ref a) f b) Q E s:=by
 obtain⟨mA,O,r,_,_,_⟩:=Qo8 I.hok e
 obtain⟨u,hu,ru⟩:=RelO.some_of (v:=v) (o:=mA f) (by rw[← l];exact r f)
 exact QNJ I.kIn O (c.get f) c.hd n hu (QKq ru) (h u _ (I.tok _) ru)
theorem Qv6{m:Str}{g:Addr}{pl:Sem Bool}{Q:Value×List Value->Shared->Prop}(I:Inv X pins σ H s)(e:H a=some (.ins C dx fs))(c:Cls X.K C)(k:Meth X.K C m g)(l:fs.lookup m=none)
 (h:Q (.ref g,[.ref a]) s):wpAny (model X.prog X.w) A (getMethod (.ref a) m pl) Q E s:=by
 obtain⟨mA,O,r,_,_,_⟩:=Qo8 I.hok e
 have hn:mA m=none:=RelO.none_of (by rw[← l];exact r m)
 exact QL8 I.kIn O (c.get m) k.at_ k.fn hn h
theorem QIB{y:V}{u:Value}{Q:Unit->Shared->Prop}(I:Inv X pins σ H s)(e:H a=some (.ins C dx fs))(c:Cls X.K C)(n:QlP X.K C f)(hl:fs.length<1000)(ry:RelV y u)
 (h:∀ s',Inv X pins σ (upd H a (.ins C dx (putF f y fs))) s'->Q () s'):wpAny (model X.prog X.w) A (setAttr (.ref a) f u) Q E s:=by
 obtain⟨mA,O,r,wi,_,ho⟩:=Qo8 I.hok e
 have hz:(fs.map (·.1)).length<=sizeLine:=by rw[List.length_map,sizeLine_eq];omega
 refine QMY I.kIn O c.sa c.po n.taker c.hd wi hz fun h' O' sb=>h _ ?_
 have hd:∃ o,h'.get? dx=some o:=let ⟨o,_,_,e',_⟩:=O'.ns;⟨o,e'⟩
 refine I.write (x:=a) (e:=dx) (by rw[e];exact True.intro) (.inr ho) (fun b q hb z=>(sb.2 b hb).trans z) hd ?_
 refine⟨by rw[Qk O.ne];exact ho,?_,O.ne,O'.obj,_,O'.ns,fun g=>?_,fun g hg=>?_⟩
 ·have:=QtZ f y fs;omega
 ·show RelO ((putF f y fs).lookup g) (if g=f then some u else mA g)
  rw[QtS]
  by_cases q:g=f
  ·rw[if_pos q,if_pos q];exact ry
  ·rw[if_neg q,if_neg q];exact r g
 ·by_cases q:g=f
  ·rw[q];exact(QrD f y fs).1
  ·refine(QrD f y fs).2 g (wi g fun z=>hg ?_)
   show(if g=f then some u else mA g)=none
   rw[if_neg q];exact z
theorem Inv.made(I:Inv X pins σ H s):Inv X pins σ (upd (upd H s.heap.objs.size (.own (s.heap.objs.size+1))) (s.heap.objs.size+1) (.ins C s.heap.objs.size []))
 { s with heap:=(s.heap.push PySem.W.emptyDict).push (PySem.W.instObj C s.heap.objs.size) }:=by
 have e1:(s.heap.push PySem.W.emptyDict).get? s.heap.objs.size=some PySem.W.emptyDict:=Heap.get?_push_size s.heap rfl
 have e2:((s.heap.push PySem.W.emptyDict).push (PySem.W.instObj C s.heap.objs.size)).get? (s.heap.objs.size+1)=some (PySem.W.instObj C s.heap.objs.size):=by
  have:=Heap.get?_push_size (s.heap.push PySem.W.emptyDict) (o:=PySem.W.instObj C s.heap.objs.size) rfl
  rwa [Heap.size_push]at this
 have e3:(s.heap.push PySem.W.emptyDict).Ns s.heap.objs.size (fun _=>none):=⟨PySem.W.emptyDict, #[],_,e1,rfl,(fun e he=>absurd he (by simp)),fun _=>rfl⟩
 have I1:=I.laid (a:=s.heap.objs.size) (o:=.own (s.heap.objs.size+1)) (h':=s.heap.push PySem.W.emptyDict) (t':=s.toks) (fun b u q=>Heap.get?_push_of_some _ q) (Nat.le_refl _) ⟨_,e1⟩
 refine I1.laid (a:=s.heap.objs.size+1) (o:=.ins C s.heap.objs.size []) (t':=s.toks) (fun b u q=>Heap.get?_push_of_some _ q) (Nat.le_of_eq (Heap.size_push _ _)) ?_
 have ne:s.heap.objs.size≠s.heap.objs.size+1:=Nat.ne_of_lt (Nat.lt_succ_self _)
 refine⟨by rw[Qk ne,QS],Nat.zero_le _,ne,e2,fun _=>none,(Heap.Ns1.of_empty e3).at fun o q=>Heap.get?_push_of_some _ q,fun _=>True.intro,fun y hy=>absurd rfl hy⟩
theorem QMW{prog:Program}{w:World}{env:Env}{e:Expr}{f:Str}{pos:Pos}{s:Shared}{Q:Value->Shared->Prop}(hb:attributeBase e f env (eval e env)=eval e env)
 (h:wpAny (model prog w) A (eval e env) (fun o s₁=>wpAny (model prog w) A (getAttr o f true) Q E s₁) E s):wpAny (model prog w) A (eval (.Attribute e f pos) env) Q E s:=
 Attribute_any_ h (by rw[arm_eval_Attribute,hb])
end
def tFld(K:PySem.W.Frag)(ta:TE)(f:Str):TE:=fun σ H Q=>ta σ H fun x H1=>∃ a C dx fs v,x=.ref a/\H1 a=some (.ins C dx fs)/\Cls K C/\QlP K C f/\fs.lookup f=some v/\Q v H1
def sFld(K:PySem.W.Frag)(ta tv:TE)(f:Str):TS:=fun D σ H=>tv σ H fun y H1=>ta σ H1 fun x H2=>∃ a C dx fs,x=.ref a/\H2 a=some (.ins C dx fs)/\Cls K C/\QlP K C f/\fs.length<1000/\
 D.nx σ (upd H2 a (.ins C dx (putF f y fs)))
section
variable{X:Cx}{o e value:Expr}{f:Str}{pos pos' tpos:Pos}{ta tv:TE}
theorem QPF(he:PE X e ta)(hb:attributeBase e f X.env (eval e X.env)=eval e X.env):PE X (.Attribute e f pos) (tFld X.K ta f):=by
 intro pins s σ H Q I h
 refine QMW hb (thn (he pins s σ H _ I h) fun u s1 ⟨x,H1,I1,rx,a,C,dx,fs,v,ex,ea,c,n,l,q⟩=>?_)
 subst ex
 obtain rfl:u=Value.ref a:=rx
 exact QIO I1 ea c n l fun u' s2 I2 ru=>⟨v,H1,I2,ru,q⟩
theorem QOT(ha:PE X o ta)(hv:PE X value tv)(hs:swapsWith value (some (.Attribute o f pos')) pos.line X.env=pure false):PS X (.Assign [.Attribute o f pos'] value pos) (sFld X.K ta tv f):=by
 intro pins s σ H D I h
 refine plainObj_wpAny_Assign_Attribute (thn (hv pins s σ H _ I h) fun u s1 ⟨y,H1,I1,ry,q⟩=>thn (ha pins s1 σ H1 _ I1 q) fun ov s2 ⟨x,H2,I2,rx,a,C,dx,fs,ex,ea,c,n,l,q2⟩=>?_) hs
 subst ex
 obtain rfl:ov=Value.ref a:=rx
 exact QIB I2 ea c n l ry fun s3 I3=>⟨σ,_,I3,q2⟩
end
section
variable{X:Cx}{pins:List (Addr×Obj)}{σ:St}{H:Hp}{s:Shared}{A:Around}{E:Value->Shared->Prop}{Q:Value->Shared->Prop}{c:Value}{b:Bool}
end
end L2
namespace L2
open PySem PySem.Spec PyProof.Rows
structure Room(k:Nat)(A:Around):Prop where
 hd:A.handled=none
 dp:A.depth+3 * k+5<recursionLimit
 un:A.units+16 * k+200<cLine
theorem Room.mono{j k:Nat}{A:Around}(r:Room k A)(h:j<=k):Room j A:=⟨r.hd,by have:=r.dp;omega,by have:=r.un;omega⟩
theorem Room.deeper{k:Nat}{A:Around}(r:Room (k+1) A)(env:Env):Room k (A.deeper env):=
 ⟨r.hd,by have:=r.dp;show A.depth+1+3 * k+5<_;omega,by have:=r.un;show A.units+3+16 * k+200<_;omega⟩
theorem QIU{A:Around}{C:Addr}{us:List Value}{kw:List (Str×Value)}:(A.under (.builtin "type.__call__" ⟨.ref C::us,kw⟩)).depth=A.depth+1:=by
 first | rfl | simp[Around.under,Code.weight,Code.isCreation,Code.isGuard,Code.isCaller,Code.frames,Code.isFrame,guardIds]
theorem QIi{A:Around}{C:Addr}{us:List Value}{kw:List (Str×Value)}:(A.under (.builtin "type.__call__" ⟨.ref C::us,kw⟩)).units=A.units+1:=by
 first | rfl | simp[Around.under,Code.cUnits,Code.frames,Code.isFrame]
theorem Room.make{k:Nat}{A:Around}(r:Room (k+1) A)(C:Addr)(us:List Value)(kw:List (Str×Value)):Room k (A.under (.builtin "type.__call__" ⟨.ref C::us,kw⟩)):=
 ⟨r.hd,by have:=r.dp;rw[QIU];omega,by have:=r.un;rw[QIi];omega⟩
theorem Room.depth{k:Nat}{A:Around}(r:Room k A):A.depth<recursionLimit:=by have:=r.dp;omega
theorem Room.units{k:Nat}{A:Around}(r:Room k A):A.units+64<cLine:=by have:=r.un;omega
def tNil:TA:=fun _ H Q=>Q [] H
def tCons(ta:TE)(tr:TA):TA:=fun σ H Q=>ta σ H fun x H1=>tr σ H1 fun xs H2=>Q (x::xs) H2
section
variable{X:Cx}{e:Expr}{es:List Expr}{te:TE}{t:TA}{pos:Pos}
theorem Qc9:PA X [] tNil:=fun _ _ _ _ H Q I h=>Calls.spliced_nil ⟨[],H,I,.nil,h⟩
theorem QaS(ha:PE X e te)(hr:PA X es t)(hs:starEach (e::es) X.env=(false,eval e X.env)::starEach es X.env:=by rfl):PA X (e::es) (tCons te t):=by
 intro pos pins s σ H Q I h
 rw[hs]
 show wpAny _ _ (spliced ((false,eval e X.env)::backTo pos (starEach es X.env))) _ _ s
 refine Calls.spliced_cons (thn (ha pins s σ H _ I h) fun u s1 ⟨x,H1,I1,r1,q1⟩=>?_)
 exact thn (hr pos pins s1 σ H1 _ I1 q1) fun us s2 ⟨xs,H2,I2,r2,q2⟩=>⟨x::xs,H2,I2,.cons r1 r2,q2⟩
def tTup(t:TA):TE:=fun σ H Q=>t σ H fun xs H1=>xs.length<=sizeLine/\∀ p,H1 p=none->Q (.ref p) (upd H1 p (.tup xs))
def tLst(t:TA):TE:=fun σ H Q=>t σ H fun xs H1=>xs.length<=sizeLine/\∀ p,H1 p=none->Q (.ref p) (upd H1 p (.lst xs))
theorem QJM{x1}(h:PA X es t):PE X (.Tuple es x1 pos) (tTup t):=by
 intro pins s σ H Q I hq
 refine wpAny_Tuple_spliced (thn (h pos pins s σ H _ I hq) fun us s1 ⟨xs,H1,I1,r,z,q⟩=>⟨by rw[← r.length];exact z,?_⟩)
 have hf:H1 s1.heap.objs.size=none:=I1.hok.fresh (Nat.le_refl _)
 refine⟨.ref s1.heap.objs.size,upd H1 s1.heap.objs.size (.tup xs),I1.laid (t':=s1.toks) (fun b u e=>Heap.get?_push_of_some _ e) (Nat.le_refl _) ?_,rfl,q _ hf⟩
 exact⟨z,us,r,⟨_,Heap.get?_push_size _ rfl,rfl,_,rfl⟩⟩
theorem QO5(h:PA X es t):PE X (.List es pos) (tLst t):=by
 intro pins s σ H Q I hq
 refine wpAny_List_spliced (thn (h pos pins s σ H _ I hq) fun us s1 ⟨xs,H1,I1,r,z,q⟩=>⟨by rw[← r.length];exact z,?_⟩)
 have hf:H1 s1.heap.objs.size=none:=I1.hok.fresh (Nat.le_refl _)
 refine⟨.ref s1.heap.objs.size,upd H1 s1.heap.objs.size (.lst xs),I1.laid (t':=s1.toks) (fun b u e=>Heap.get?_push_of_some _ e) (Nat.le_refl _) ?_,rfl,q _ hf⟩
 exact⟨z,us,0,r,Heap.get?_push_size _ rfl⟩
end
abbrev Sp:=List V->Hp->VK->XK->Prop
abbrev CXT:=List Env->Hp->Shared->XK->Value->Shared->Prop
structure Env0(P:Program)(w:World)(K:PySem.W.Frag)(mg:Str->Option Value)(base:Heap)(A:Around)(outer:List Env)(s:Shared)(H:Hp):Prop where
 frames:A.frames=some outer
 mod:Mod K mg base
 bs:∀ b o,base.get? b=some o->s.heap.get? b=some o/\H b=none
 bsz:base.objs.size<=s.heap.objs.size
 funs:s.heap.FunFrames base outer
 frf:∀ b∈frs outer,H b=none
 hok:HOk P w H s.heap
 bare:AllBare s.gens
def CE(outer:List Env)(P:Program)(w:World)(H:Hp)(s:Shared)(Q:VK)(u:Value)(s':Shared):Prop:=
 ∃ v H',s'.os=s.os/\AllBare s'.gens/\Un (frs outer) [] H H' s.heap s'.heap/\HOk P w H' s'.heap/\RelV v u/\Q v H'
def CR(CX:CXT)(outer:List Env)(P:Program)(w:World)(H:Hp)(s:Shared)(Q:VK)(E:XK)(r:Result)(s':Shared):Prop:=
 match r with
 | .ok (.ret u)=>CE outer P w H s Q u s'
 | .ok _=>False
 | .error e=>CX outer H s E e s'
structure FnOk(P:Program)(w:World)(K:PySem.W.Frag)(mg:Str->Option Value)(base:Heap)(CX:CXT)(k:Nat)(f:Addr)(fd:FuncData)(ps:List Str)(sp:Sp):Prop where
 len:∀ vs H Q E,sp vs H Q E->vs.length=ps.length
 run:∀(A:Around)(outer:List Env)(s:Shared)(H:Hp)(args:Args)(us:List Value)(vs:List V)(Q:VK)(E:XK),Room k A->Env0 P w K mg base A outer s H->BindsTo s fd args (ps.zip us)->Vals vs us->sp vs H Q E->
  codeAny (model P w) A (.call (.ref f) args) (CR CX outer P w H s Q E) s
theorem FnOk.mono{P:Program}{w:World}{K:PySem.W.Frag}{mg:Str->Option Value}{base:Heap}{CX:CXT}{j k:Nat}{f:Addr}{fd:FuncData}{ps:List Str}{sp:Sp}(F:FnOk P w K mg base CX j f fd ps sp)(h:j<=k):
 FnOk P w K mg base CX k f fd ps sp:=⟨F.len,fun A outer s H args us vs Q E hr=>F.run A outer s H args us vs Q E (hr.mono h)⟩
theorem Env0.make{P:Program}{w:World}{K:PySem.W.Frag}{mg:Str->Option Value}{base:Heap}{A:Around}{outer:List Env}{s:Shared}{H:Hp}(e:Env0 P w K mg base A outer s H)(C:Addr)(us:List Value)(kw:List (Str×Value)):
 Env0 P w K mg base (A.under (.builtin "type.__call__" ⟨.ref C::us,kw⟩)) outer s H:=⟨by first | exact e.frames | (simpa [Around.under,Code.envs,Code.isFrame,pushEnvs] using e.frames),e.mod,e.bs,e.bsz,e.funs,e.frf,e.hok,e.bare⟩
section
variable{X:Cx}{pins:List (Addr×Obj)}{σ:St}{H:Hp}{s s':Shared}
theorem Inv.env0(I:Inv X pins σ H s):Env0 X.prog X.w X.K X.mg X.base X.A X.stack s H:=
 ⟨I.ok.frames,I.ok.mod,I.bs,Nat.le_trans I.ok.bsz I.sz,I.stack,I.stkFree,I.hok,I.bare⟩
theorem Inv.after{Q:VK}{u:Value}(I:Inv X pins σ H s)(h:CE X.stack X.prog X.w H s Q u s'):EP X pins σ Q u s':=by
 obtain⟨v,H',os,bare,un,hok,r,q⟩:=h
 obtain⟨hh,g,d,t,os'⟩:=s'
 obtain rfl:os'=s.os:=os
 exact⟨v,H',I.call (h':=hh) (g':=g) (d':=d) (t':=t) (ch:=[]) un hok bare (fun b z=>absurd z (by simp)),r,q⟩
end
def tCall(sp:Sp)(dvs:List V)(E:XK)(t:TA):TE:=fun σ H Q=>t σ H fun vs H1=>sp (vs++dvs) H1 Q E
def tMake(C:Addr)(sp:Sp)(dvs:List V)(E:XK)(t:TA):TE:=fun σ H Q=>t σ H fun vs H1=>∀ x dx,H1 x=none->H1 dx=none->dx≠x->
 sp (.ref x::(vs++dvs)) (upd (upd H1 dx (.own x)) x (.ins C dx [])) (fun v H2=>v=.non/\Q (.ref x) H2) E
def Binds(K:PySem.W.Frag)(fd:FuncData)(ps:List Str)(ds:List Value):Prop:=
 ∀(s:Shared)(us:List Value),K.In s.heap->(us++ds).length=ps.length->BindsTo s fd ⟨us,[]⟩ (ps.zip (us++ds))
theorem Binds.all{K:PySem.W.Frag}{fd:FuncData}{ps:List Str}(h:∀ us:List Value,us.length=ps.length->bindArgs fd ⟨us,[]⟩=pure (ps.zip us)):Binds K fd ps []:=fun s us _ hl=>by
 rw[List.append_nil]at hl ⊢
 exact .of_eq (h us hl)
def Qhp(CX:CXT)(X:Cx)(E:XK):Prop:=∀(pins:List (Addr×Obj))(σ:St)(H:Hp)(s:Shared)(e:Value)(s':Shared),Inv X pins σ H s->CX X.stack H s E e s'->X.xe e s'
section
variable{X:Cx}{CX:CXT}{k:Nat}{f C:Addr}{fd:FuncData}{ps:List Str}{sp:Sp}{dvs:List V}{ds:List Value}{E:XK}{x m:Str}{p pos apos:Pos}{e o:Expr}{es:List Expr}{ta:TE}{t:TA}
theorem QCE{pins:List (Addr×Obj)}{σ:St}{H:Hp}{s:Shared}{Q:VK}{us:List Value}{vs:List V}(F:FnOk X.prog X.w X.K X.mg X.base CX k f fd ps sp)(hr:Room k X.A)(hb:Binds X.K fd ps ds)(hd:Vals dvs ds)(hx:Qhp CX X E)
 (I:Inv X pins σ H s) (r:Vals vs us) (h:sp (vs++dvs) H Q E):wpAny (model X.prog X.w) X.A (call (.ref f) us) (EP X pins σ Q) X.xe s:=by
 have r2:Vals (vs++dvs) (us++ds):=r.append hd
 have hl:(us++ds).length=ps.length:=by rw[← r2.length];exact F.len _ _ _ _ h
 refine wpAny_call (codeAny_mono (F.run X.A X.stack s H ⟨us,[]⟩ (us++ds) (vs++dvs) Q E hr I.env0 (hb s us I.kIn hl) r2 h) fun r s' hq=>?_)
 cases r with
 | error e=>exact hx pins σ H s e s' I hq
 | ok fl=>
  cases fl with
  | ret u=>exact I.after hq
  | next=>exact False.elim hq
  | brk=>exact False.elim hq
  | cont=>exact False.elim hq
theorem Qtf(F:FnOk X.prog X.w X.K X.mg X.base CX k f fd ps sp)(hr:Room k X.A)(hg:Gl X x)(hm:X.mg x=some (.ref f))(hk:PySem.W.keepIn X.K (.ref f)=true)(hb:Binds X.K fd ps ds)(hd:Vals dvs ds)(hx:Qhp CX X E)
 (ha:PA X (e::es) t) (hdb:(x == ("__debug__":Str))=false:=by decide) (he:starEach (e::es) X.env=(false,eval e X.env)::starEach es X.env:=by rfl) (hpl:(backTo pos (starEach es X.env)).any (·.1)=false:=by rfl):
 PE X (.Call (.Name x p) (e::es) [] pos) (tCall sp dvs E t):=by
 intro pins s σ H Q I h
 refine wpAny_Call_Name_kw (Qyp I hg hm ?_ hdb)
 refine PySem.W.callWith_K (h₀:=X.base) I.ok.mod.kin hk (thn (ha pos pins s σ H _ I h) fun us s1 ⟨vs,H1,I1,r,q⟩=>⟨I1.kIn,?_⟩) he hpl
 exact QCE F hr hb hd hx I1 r q
structure Mk(K:PySem.W.Frag)(C f:Addr):Prop where
 makes:PySem.W.makesIn K C=true
 init:PySem.W.findIn K (.ref C) "__init__"=some (some (.ref f))
 fn:PySem.W.isFn K (.ref f)=true
 kp:PySem.W.keepIn K (.ref C)=true
theorem QL0{pins:List (Addr×Obj)}{σ:St}{H:Hp}{s:Shared}{Q:VK}{us:List Value}{vs:List V}(M:Mk X.K C f)(F:FnOk X.prog X.w X.K X.mg X.base CX k f fd ps sp)(hr:Room (k+1) X.A)(hb:Binds X.K fd ps ds)(hd:Vals dvs ds)
 (hx:Qhp CX X E) (I:Inv X pins σ H s) (r:Vals vs us)
 (h:∀ x dx,H x=none->H dx=none->dx≠x->sp (.ref x::(vs++dvs)) (upd (upd H dx (.own x)) x (.ins C dx [])) (fun v H2=>v=.non/\Q (.ref x) H2) E):
 wpAny (model X.prog X.w) X.A (call (.ref C) us) (EP X pins σ Q) X.xe s:=by
 have hq:=h (s.heap.objs.size+1) s.heap.objs.size (I.hok.fresh (Nat.le_succ _)) (I.hok.fresh (Nat.le_refl _)) (Nat.ne_of_lt (Nat.lt_succ_self _))
 have I2:=Inv.made (C:=C) I
 have r2:Vals (V.ref (s.heap.objs.size+1)::(vs++dvs)) (Value.ref (s.heap.objs.size+1)::(us++ds)):=.cons rfl (r.append hd)
 have hl:(Value.ref (s.heap.objs.size+1)::us++ds).length=ps.length:=by
  have e:=r2.length
  rw[F.len _ _ _ _ hq]at e
  exact e.symm
 refine wpAny_call (QMk (f:=f) I.kIn M.makes M.init (beq_iff_eq.mp M.fn) (codeAny_mono (F.run _ X.stack _ _ ⟨Value.ref (s.heap.objs.size+1)::us,[]⟩ (Value.ref (s.heap.objs.size+1)::(us++ds)) _ _ E (hr.make C us [])
  (I2.env0.make C us []) (hb _ (Value.ref (s.heap.objs.size+1)::us) I2.kIn hl) r2 hq) fun r s' hq'=>?_))
 cases r with
 | error e=>exact hx pins σ _ _ e s' I2 hq'
 | ok fl=>
  cases fl with
  | ret u=>
   obtain⟨v,H',I3,rv,ev,q3⟩:=I2.after hq'
   subst ev
   exact⟨rv,⟨V.ref (s.heap.objs.size+1),H',I3,rfl,q3⟩⟩
  | next=>exact False.elim hq'
  | brk=>exact False.elim hq'
  | cont=>exact False.elim hq'
theorem QNE(M:Mk X.K C f)(F:FnOk X.prog X.w X.K X.mg X.base CX k f fd ps sp)(hr:Room (k+1) X.A)(hg:Gl X x)(hm:X.mg x=some (.ref C))(hb:Binds X.K fd ps ds)(hd:Vals dvs ds)(hx:Qhp CX X E)
 (ha:PA X (e::es) t) (hdb:(x == ("__debug__":Str))=false:=by decide) (he:starEach (e::es) X.env=(false,eval e X.env)::starEach es X.env:=by rfl) (hpl:(backTo pos (starEach es X.env)).any (·.1)=false:=by rfl):
 PE X (.Call (.Name x p) (e::es) [] pos) (tMake C sp dvs E t):=by
 intro pins s σ H Q I h
 refine wpAny_Call_Name_kw (Qyp I hg hm ?_ hdb)
 refine PySem.W.callWith_K (h₀:=X.base) I.ok.mod.kin M.kp (thn (ha pos pins s σ H _ I h) fun us s1 ⟨vs,H1,I1,r,q⟩=>⟨I1.kIn,?_⟩) he hpl
 exact QL0 M F hr hb hd hx I1 r q
end
section
variable{X:Cx}{CX:CXT}{k:Nat}{f C:Addr}{fd:FuncData}{ps ks:List Str}{sp:Sp}{E:XK}{x m:Str}{p pos apos kpos:Pos}{e o:Expr}{es:List Expr}{kws:List Keyword}{te ta:TE}{t tk:TA}{nm:Option Str}
variable{g:List Value->List Value->List Value}{gV:List V->List V->List V}
end
structure Qr(N P:List Str)(sc:Scope):Prop where
 kind:sc.kind=.function
 co:sc.isCoroutine=false
 gen:sc.isGenerator=false
 nd:N.Nodup
 pre:N.take P.length=P
 par:∀ x∈P,sc.names.lookup x=some .local∨sc.names.lookup x=some .cell
 nofree:∀ y∈sc.names,y.2≠.free
theorem Qzg{kindOf:Str->Option NameKind}{x:Str}:∀{binds:List (Str×Value)}{m:Str->Option Value},(∀ v,(x,v)∉binds)->bindL kindOf binds m x=m x
 | [],_,_=>rfl
 | (n,v)::r,m,h=>by
  unfold bindL
  rw[Qzg fun w hw=>h w (List.mem_cons_of_mem _ hw)]
  split
  ·have:x≠n:=by rintro rfl;exact h v List.mem_cons_self
   simp[this]
  ·rfl
theorem Qzd{kindOf:Str->Option NameKind}{x:Str}:∀{binds:List (Str×Value)}{m:Str->Option Value},(∀ v,(x,v)∉binds)->bindC kindOf binds m x=m x
 | [],_,_=>rfl
 | (n,v)::r,m,h=>by
  unfold bindC
  rw[Qzd fun w hw=>h w (List.mem_cons_of_mem _ hw)]
  split
  ·rfl
  ·have:x≠n:=by rintro rfl;exact h v List.mem_cons_self
   simp[this]
theorem Qy3{kindOf:Str->Option NameKind}{x:Str}{v:Value}:∀{P:List Str}{vs:List Value}{i:Nat}{m:Str->Option Value},P.Nodup->P[i]?=some x->vs[i]?=some v->kindOf x=some .local->
 bindL kindOf (P.zip vs) m x=some v
 | [],_,_,_,_,h,_,_=>by simp at h
 | _::_,[],_,_,_,_,h,_=>by simp at h
 | p::P,w::vs,0,m,nd,h1,h2,hk=>by
  simp at h1 h2;subst h1;subst h2
  show bindL kindOf ((p,w)::P.zip vs) m p=_
  unfold bindL
  rw[Qzg fun v hv=>(List.nodup_cons.mp nd).1 (List.of_mem_zip hv).1,if_pos hk]
  simp
 | p::P,w::vs,i+1,m,nd,h1,h2,hk=>by
  show bindL kindOf ((p,w)::P.zip vs) m x=_
  unfold bindL
  exact Qy3 (i:=i) (List.nodup_cons.mp nd).2 (by simpa using h1) (by simpa using h2) hk
theorem Qza{kindOf:Str->Option NameKind}{x:Str}{v:Value}:∀{P:List Str}{vs:List Value}{i:Nat}{m:Str->Option Value},P.Nodup->P[i]?=some x->vs[i]?=some v->kindOf x≠some .local->
 bindC kindOf (P.zip vs) m x=some v
 | [],_,_,_,_,h,_,_=>by simp at h
 | _::_,[],_,_,_,_,h,_=>by simp at h
 | p::P,w::vs,0,m,nd,h1,h2,hk=>by
  simp at h1 h2;subst h1;subst h2
  show bindC kindOf ((p,w)::P.zip vs) m p=_
  unfold bindC
  rw[Qzd fun v hv=>(List.nodup_cons.mp nd).1 (List.of_mem_zip hv).1,if_neg hk]
  simp
 | p::P,w::vs,i+1,m,nd,h1,h2,hk=>by
  show bindC kindOf ((p,w)::P.zip vs) m x=_
  unfold bindC
  exact Qza (i:=i) (List.nodup_cons.mp nd).2 (by simpa using h1) (by simpa using h2) hk
def start(N:List Str)(vs:List V):St:=vs.map some++List.replicate (N.length - vs.length) none
def cxOf(CX:CXT)(P:Program)(w:World)(K:PySem.W.Frag)(mg:Str->Option Value)(base:Heap)(N:List Str)(qual:Str)(scope:Scope)(f:Addr)(cd:Value)(A:Around)(outer:List Env)(s:Shared)(H:Hp)(E:XK):Cx where
 prog:=P
 w:=w
 K:=K
 mg:=mg
 base:=base
 A:=A.deeper (envOfC qual scope s.heap.objs.size f cd)
 N:=N
 s₀:=s
 H₀:=H
 env:=envOfC qual scope s.heap.objs.size f cd
 outer:=outer
 stack:=envOfC qual scope s.heap.objs.size f cd::outer
 ex:=[]
 calm:=true
 fn:=fun _=>true
 pn:=[]
 xe:=fun e s'=>wpAny (model P w) (A.deeper (envOfC qual scope s.heap.objs.size f cd)) (leaving (envOfC qual scope s.heap.objs.size f cd) e) (fun _ s''=>CX outer H s E e s'') (fun e' s''=>CX outer H s E e' s'') s'
theorem QBB{sc:Scope}{n:Nat}{x:Str}(h:sc.names.lookup x=some .cell):∃ c,(cellsFrom n sc.names []).lookup x=some c:=by
 have q:=PySem.W.cellsFrom_some sc.names n [] (.inl h)
 exact Option.isSome_iff_exists.mp q
theorem QKj{CX:CXT}{P:Program}{w:World}{K:PySem.W.Frag}{mg:Str->Option Value}{base:Heap}{N ps:List Str}{qual:Str}{scope:Scope}{f:Addr}{cd:Value}{A:Around}{outer:List Env}{s s1:Shared}{H:Hp}{E:XK}{us:List Value}{vs:List V}
 (S:Qr N ps scope) (hd:A.handled=none) (e0:Env0 P w K mg base A outer s H) (hl:vs.length=ps.length) (r:Vals vs us)
 (x:InCallC s s.heap.objs.size (bindL (envOfC qual scope s.heap.objs.size f cd).kindOf (ps.zip us) fun _=>none) (cellsFrom (s.heap.objs.size+1) scope.names []) (bindC (envOfC qual scope s.heap.objs.size f cd).kindOf (ps.zip us) fun _=>none) s1):
 Inv (cxOf CX P w K mg base N qual scope f cd A outer s H E) [] (start N vs) H s1:=by
 have hpl:ps.length<=N.length:=by have:=congrArg List.length S.pre;rw[List.length_take]at this;omega
 obtain⟨h1,tk,rfl,hk⟩:=x.done
 have noA:∀ b:Addr,b∉(cxOf CX P w K mg base N qual scope f cd A outer s H E).ex:=fun b z=>absurd (show b∈([]:List Addr) from z) (by simp)
 refine⟨⟨e0.mod,S.kind,rfl,rfl,Nat.le_refl _,fun y z c h1 h2=>?_,fun y hy=>?_,fun y c _ h=>?_,fun _=>hd,Around.frames_deeper e0.frames,.inr ⟨rfl,rfl⟩,fun b z=>absurd z (noA b),e0.bs,e0.bsz,fun b _ _=>noA b,fun b z=>absurd z (noA b),e0.funs,e0.frf⟩,
  rfl,e0.bare,Un.kept hk,⟨_,x.toInCall.ns,fun i y v h1 h2 h3=>?_⟩,fun y c h=>⟨_,x.cell y c h⟩,e0.hok.fresh (Nat.le_refl _),fun y c h=>?_,fun p hp=>absurd (show p∈([]:List (Addr×Obj)) from hp) (by simp),e0.hok.kept hk,?_⟩
 ·exact name_of_addr x.apart (PySem.mem_of_lookup h1) (PySem.mem_of_lookup h2)
 ·have hy:scope.names.lookup y=some .cell∨scope.names.lookup y=some .free:=hy
  rcases hy with hy | hy
  ·exact QBB hy
  ·exact absurd rfl (S.nofree _ (PySem.mem_of_lookup hy))
 ·exact Nat.le_of_lt (x.above y c (PySem.mem_of_lookup h))
 ·have hi:i<vs.length:=by
   unfold start at h2
   by_cases hi:i<vs.length
   ·exact hi
   ·rw[List.getElem?_append_right (by simpa using hi)]at h2
    rw[List.getElem?_replicate]at h2
    split at h2<;>cases h2
  have ha:vs[i]?=some v:=by
   unfold start at h2
   rw[List.getElem?_append_left (by simpa using hi),List.getElem?_map]at h2
   cases e:vs[i]? with
   | none=>rw[e]at h2;cases h2
   | some a=>rw[e]at h2;cases h2;rfl
  obtain⟨u,hu,rv⟩:=r.get ha
  have hp:ps[i]?=some y:=by
   rw[← S.pre,List.getElem?_take_of_lt (by omega)];exact h1
  have ndP:ps.Nodup:=by rw[← S.pre];exact S.nd.sublist (List.take_sublist _ _)
  refine⟨u,rv,?_⟩
  rcases S.par y (List.mem_of_getElem? hp) with k | k
  ·exact .inl ⟨k,Qy3 ndP hp hu k⟩
  ·obtain⟨c,e⟩:=QBB (n:=s.heap.objs.size+1) k
   refine .inr ⟨.inl k,c,e,?_⟩
   have q:=x.cell y c e
   rw[Qza ndP hp hu (by show scope.names.lookup y≠_;rw[k];decide)]at q
   exact q
 ·exact e0.hok.fresh (Nat.le_of_lt (x.above y c (PySem.mem_of_lookup h)))
 ·unfold start
  show _=N.length
  rw[List.length_append,List.length_map,List.length_replicate]
  omega
theorem fn_of{CX:CXT}{P:Program}{w:World}{K:PySem.W.Frag}{mg:Str->Option Value}{base:Heap}{k:Nat}{f:Addr}{name qual:Str}{params:Arguments}{body:List Stmt}{scope:Scope}{dV kV doc pm cdv ct oc:Value}{an od:Option Addr}
 {osl:Array (Option Value)} {N ps:List Str} {sp:Sp} (lk:K.lookup f=some ⟨oc,od,.func (PySem.W.fnOf name qual params body scope dV kV doc pm an cdv ct),osl⟩) (hcd:PySem.W.codeIn K cdv qual=true) (S:Qr N ps scope)
 (len:∀ vs H Q E,sp vs H Q E->vs.length=ps.length)
 (hbody:∀(A:Around)(outer:List Env)(s:Shared)(H:Hp)(vs:List V)(Q:VK)(E:XK),Room k (A.deeper (envOfC qual scope s.heap.objs.size f cdv))->sp vs H Q E->
  ∃ t,PSs (cxOf CX P w K mg base N qual scope f cdv A outer s H E) body t/\t { nx:=fun _ H'=>Q .non H',rt:=Q } (start N vs) H):
 FnOk P w K mg base CX (k+1) f (PySem.W.fnOf name qual params body scope dV kV doc pm an cdv ct) ps sp:=by
 refine⟨len,fun A outer s H args us vs Q E hr e0 hb r hsp=>?_⟩
 have hl:=len _ _ _ _ hsp
 have KX:K.In s.heap:=e0.mod.kin.keeps fun b o e=>(e0.bs b o e).1
 have lim:s.heap.NoLimit:=e0.mod.nolimit.keeps fun b o e=>(e0.bs b o e).1
 have hkind:∀ y∈ps.zip us,scope.names.lookup y.1=some .local∨(scope.names.lookup y.1=some .cell/\((cellsFrom (s.heap.objs.size+1) scope.names []).lookup y.1).isSome=true):=fun⟨n,v⟩ hy=>by
  rcases S.par n (List.of_mem_zip hy).1 with q | q
  ·exact .inl q
  ·exact .inr ⟨q,PySem.W.cellsFrom_some _ _ _ (.inl q)⟩
 refine codeAny_call_function hr.depth (KX _ _ lk) rfl S.co S.gen rfl (PySem.W.codeRec_of KX hcd) (hb _ _ _ _ ?_)
 refine wpAny_newFunctionEnv_cells S.kind hkind fun env he s1 x=>?_
 subst he
 refine⟨lim.keeps x.toInCall.keep,codeAny_func ?_⟩
 obtain⟨t,ht,hq⟩:=hbody A outer s H vs Q E (hr.deeper _) hsp
 have I:Inv (cxOf CX P w K mg base N qual scope f cdv A outer s H E) [] (start N vs) H s1:=QKj S hr.hd e0 hl r x
 refine wpAny_mono (ht [] s1 (start N vs) H _ I hq) (fun fl s' hs=>?_) fun e s' hs=>hs
 have fin:∀{σ':St}{H':Hp}{v:V}{u:Value},Inv (cxOf CX P w K mg base N qual scope f cdv A outer s H E) [] σ' H' s'->RelV v u->Q v H'->CE outer P w H s Q u s':=
  fun {σ' H' v u} J rv q=>⟨v,H',J.os,J.bare,J.base,J.hok,rv,q⟩
 cases fl with
 | ret u=>
  obtain⟨v,σ',H',J,rv,q⟩:=hs
  exact fin J rv q
 | next=>
  obtain⟨σ',H',J,q⟩:=hs
  exact fin (v:=V.non) (u:=Value.none) J rfl q
 | brk=>
  obtain⟨_,_,_,q⟩:=hs
  exact False.elim q
 | cont=>
  obtain⟨_,_,_,q⟩:=hs
  exact False.elim q
end L2
namespace L2
open PySem PySem.Spec PyProof.Rows
section
variable{X:Cx}{x:Str}{p pos:Pos}{e:Expr}{es:List Expr}{t:TA}{id T:String}{r:List V->Hp->VK->Prop}
def tCB(r:List V->Hp->VK->Prop)(t:TA):TE:=fun σ H Q=>t σ H fun vs H1=>r vs H1 Q
theorem QuD(hc:CallR X (.builtin id) r)(hg:Gl X x)(hm:X.mg x=none)(hv:bootBuiltins x=some (.builtin id))(ha:PA X (e::es) t)(hn:x≠"__name__":=by decide)(hdb:(x == ("__debug__":Str))=false:=by decide)
 (he:starEach (e::es) X.env=(false,eval e X.env)::starEach es X.env:=by rfl) (hpl:(backTo pos (starEach es X.env)).any (·.1)=false:=by rfl):PE X (.Call (.Name x p) (e::es) [] pos) (tCB r t):=by
 intro pins s σ H Q I h
 refine wpAny_Call_Name_kw (Qhb I hg hm hv ?_ hn hdb)
 exact PyProof.Rows.callWith_builtin1 (thn (ha pos pins s σ H _ I h) fun us s1 ⟨vs,H1,I1,r1,q1⟩=>hc pins s1 σ H1 vs us Q I1 r1 q1) he hpl
theorem QyS(hc:CallR X (.type T) r)(hg:Gl X x)(hm:X.mg x=none)(hv:bootBuiltins x=some (.type T))(ha:PA X (e::es) t)(hn:x≠"__name__":=by decide)(hdb:(x == ("__debug__":Str))=false:=by decide)
 (he:starEach (e::es) X.env=(false,eval e X.env)::starEach es X.env:=by rfl) (hpl:(backTo pos (starEach es X.env)).any (·.1)=false:=by rfl):PE X (.Call (.Name x p) (e::es) [] pos) (tCB r t):=by
 intro pins s σ H Q I h
 refine wpAny_Call_Name_kw (Qhb I hg hm hv ?_ hn hdb)
 exact PyProof.Rows.callWith_type1 (thn (ha pos pins s σ H _ I h) fun us s1 ⟨vs,H1,I1,r1,q1⟩=>hc pins s1 σ H1 vs us Q I1 r1 q1) he hpl
end
end L2
namespace HT
open PySem PyProof.Rows
section
open PySem.SeqAt
open PySem.AutoSeq1 (wpAny_loadPart')
open PySem.MeetsSeq PySem.MeetsSeq2 PySem.MeetsSeq3
end
section
variable{prog:Program}{w:World}{A:Around}{E:Value->Shared->Prop}{s:Shared}
def sIx(n d:Nat):Option Int->Nat
 | none=>d
 | some v=>if v<0 then(v+(n:Int)).toNat else min v.toNat n
theorem sIx_none(n d:Nat):sIx n d none=d:=rfl
theorem sIx_nat(n d k:Nat):sIx n d (some (k:Int))=min k n:=by
 show(if (k:Int)<0 then((k:Int)+(n:Int)).toNat else min (k:Int).toNat n)=min k n
 rw[if_neg (by omega),Int.toNat_natCast]
end
end HT
namespace L2
open PySem PySem.Spec PyProof.Rows
abbrev TO:=St->Hp->(Option Int->Hp->Prop)->Prop
def PO(X:Cx)(e:Option Expr)(t:TO):Prop:=
 ∀(pins:List (Addr×Obj))(s:Shared)(σ:St)(H:Hp)(Q:Option Int->Hp->Prop),Inv X pins σ H s->t σ H Q->
  wpAny (model X.prog X.w) X.A (evalPart e X.env) (fun u s'=>∃ o H',Inv X pins σ H' s'/\IsPart u o/\Q o H') X.xe s
def QNe:TO:=fun _ H Q=>Q none H
def tPart(t:TE):TO:=fun σ H Q=>t σ H fun x H1=>∃ i,x=.int i/\Q (some i) H1
section
variable{X:Cx}{e:Expr}{te:TE}{lo hi:Option Expr}{tl th:TO}{pos p2:Pos}
theorem QNT:PO X none QNe:=by
 intro pins s σ H Q I h
 rw[evalPart_none]
 exact wpAny_pure ⟨none,H,I,.none,h⟩
theorem QNb(h:PE X e te):PO X (some e) (tPart te):=by
 intro pins s σ H Q I hw
 rw[evalPart_some]
 refine thn (h pins s σ H _ I hw) fun u s1 ⟨x,H1,I1,r1,q1⟩=>?_
 obtain⟨i,rfl,q⟩:=q1
 obtain⟨t,rfl⟩:=r1
 exact⟨some i,H1,I1,.int i t,q⟩
def SlR(X:Cx)(r:V->Option Int->Option Int->Hp->VK->Prop):Prop:=
 ∀(pins:List (Addr×Obj))(s:Shared)(σ:St)(H:Hp)(x:V)(v vl vu:Value)(lo hi:Option Int)(sl:Addr)(Q:VK),Inv X pins σ H s->RelV x v->s.heap.IsSliceOf sl vl vu .none->IsPart vl lo->IsPart vu hi->r x lo hi H Q->
  ∃ T id,typeLookup (.type T) "__getitem__"=pure (some (.builtin id))/\s.TypeIs v T/\wpAny (model X.prog X.w) X.A (getItem v (.ref sl)) (EP X pins σ Q) X.xe s
def tSl(r:V->Option Int->Option Int->Hp->VK->Prop)(te:TE)(tl th:TO):TE:=fun σ H Q=>te σ H fun x H1=>tl σ H1 fun l H2=>th σ H2 fun u H3=>r x l u H3 Q
theorem QL3{r:V->Option Int->Option Int->Hp->VK->Prop}(hr:SlR X r)(he:PE X e te)(hl:PO X lo tl)(hu:PO X hi th):PE X (.Subscript e (.Slice lo hi none p2) pos) (tSl r te tl th):=by
 intro pins s σ H Q I h
 refine Subscript_ (thn (he pins s σ H _ I h) fun v s1 ⟨x,H1,I1,r1,q1⟩=>?_)
 refine wpAny_Slice (thn (hl pins s1 σ H1 _ I1 q1) fun vl s2 ⟨l,H2,I2,pl,q2⟩=>thn (hu pins s2 σ H2 _ I2 q2) fun vu s3 ⟨u,H3,I3,pu,q3⟩=>?_)
 rw[evalPart_none]
 refine wpAny_pure ?_
 have I4:Inv X pins σ H3 { s3 with heap:=s3.heap.push { cls:=.type "slice",data:=.fields #[vl,vu,.none] } }:=I3.kept (t':=s3.toks) fun b ob q=>Heap.get?_push_of_some _ q
 obtain⟨T,id,hT,ht,hg⟩:=hr pins { s3 with heap:=s3.heap.push { cls:=.type "slice",data:=.fields #[vl,vu,.none] } } σ H3 x v vl vu l u s3.heap.objs.size Q I4 r1 (Heap.IsSliceOf.new ..) pl pu q3
 show wpAny (model X.prog X.w) X.A (subscriptTail e (.Slice lo hi none p2) v (.ref s3.heap.objs.size)) (EP X pins σ Q) X.xe { s3 with heap:=s3.heap.push { cls:=.type "slice",data:=.fields #[vl,vu,.none] } }
 exact tail_any (ops:=[.ref s3.heap.objs.size,v]) ht hT hg (by with_unfolding_all rfl)
def cutV(xs:List V)(lo hi:Option Int):List V:=(xs.drop (HT.sIx xs.length 0 lo)).take (HT.sIx xs.length xs.length hi - HT.sIx xs.length 0 lo)
theorem QFI(xs:List V)(lo hi:Option Int):(cutV xs lo hi).length<=xs.length:=by
 unfold cutV
 rw[List.length_take,List.length_drop]
 omega
end
end L2
namespace L2
open PySem PySem.Spec PyProof.Rows
def ixN(n:Nat)(i:Int):Option Nat:=if 0<=i then(if i<n then some i.toNat else none) else if -(n:Int)<=i then some (i+n).toNat else none
def atI{α:Type}(xs:List α)(i:Int):Option α:=(ixN xs.length i).bind fun j=>xs[j]?
theorem QGQ{n:Nat}{i:Int}{j:Nat}(h:ixN n i=some j):seqIndex? i n=some j/\j<n /\ -(n:Int)<=i/\i<n:=by
 unfold ixN at h
 by_cases h0:0<=i
 ·rw[if_pos h0]at h
  by_cases h1:i<n
  ·rw[if_pos h1]at h
   have e:i.toNat=j:=Option.some.inj h
   exact⟨by rw[seqIndex_of h0 h1,e],by omega,by omega,h1⟩
  ·rw[if_neg h1]at h;cases h
 ·rw[if_neg h0]at h
  by_cases h1 : -(n:Int)<=i
  ·rw[if_pos h1]at h
   have e:(i+n).toNat=j:=Option.some.inj h
   exact⟨by rw[seqIndex_neg (by omega) h1,e],by omega,h1,by omega⟩
  ·rw[if_neg h1]at h;cases h
theorem Qxq{α:Type}{xs:List α}{i:Int}{v:α}(h:atI xs i=some v):∃ j,seqIndex? i xs.length=some j/\xs[j]?=some v/\j<xs.length /\ -(xs.length:Int)<=i/\i<xs.length:=by
 unfold atI at h
 cases e:ixN xs.length i with
 | none=>rw[e]at h;cases h
 | some j=>
  rw[e]at h
  obtain⟨h1,h2,h3,h4⟩:=QGQ e
  exact⟨j,h1,h,h2,h3,h4⟩
theorem QGW{α:Type}{xs:List α}{j:Nat}{v:α}(h:xs[j]?=some v):atI xs (j:Int)=some v:=by
 have hj:j<xs.length:=(List.getElem?_eq_some_iff.mp h).1
 have e:ixN xs.length (j:Int)=some j:=by
  unfold ixN
  rw[if_pos (by omega),if_pos (by omega)];simp
 unfold atI;rw[e];exact h
def Qtl(b:Expr):Prop:=∀ o i,subscripted b false o i=operate [o,i] (getItem o i)
def IxR(X:Cx)(r:R2):Prop:=
 ∀(value slice:Expr)(pins:List (Addr×Obj))(s:Shared)(σ:St)(H:Hp)(x y:V)(v u:Value)(Q:VK),Inv X pins σ H s->RelV x v->RelV y u->r x y H Q->
  subscripted slice false v u=operate [v,u] (getItem v u)->wpAny (model X.prog X.w) X.A (subscriptTail value slice v u) (EP X pins σ Q) X.xe s
def MtR(X:Cx)(id:String)(r:V->List V->Hp->VK->Prop):Prop:=
 ∀(pins:List (Addr×Obj))(s:Shared)(σ:St)(H:Hp)(x:V)(xs:List V)(v:Value)(us:List Value)(Q:VK),Inv X pins σ H s->RelV x v->Vals xs us->r x xs H Q->
  wpAny (model X.prog X.w) X.A (call (.builtin id) (v::us)) (EP X pins σ Q) X.xe s
section
variable{X:Cx}{a b:Expr}{ta tb:TE}{pos:Pos}
theorem IxR.or{r r':R2}(h:IxR X r)(h':IxR X r'):IxR X (fun x y H Q=>r x y H Q∨r' x y H Q):=by
 intro value slice pins s σ H x y v u Q I rx ry q hs
 rcases q with q | q
 ·exact h value slice pins s σ H x y v u Q I rx ry q hs
 ·exact h' value slice pins s σ H x y v u Q I rx ry q hs
theorem pe_ix{r:R2}(hr:IxR X r)(ha:PE X a ta)(hb:PE X b tb)(hs:Qtl b):PE X (.Subscript a b pos) (tOp r ta tb):=by
 intro pins s σ H Q I h
 exact Subscript_ (binT ha hb I h fun v u s2 x y H2 I2 rx ry q=>hr a b pins s2 σ H2 x y v u Q I2 rx ry q (hs _ _))
def rIxL(K:PySem.W.Frag):R2:=fun x y H Q=>∃ p xs i v,x=.ref p/\y=.int i/\SqL K H p xs/\atI xs i=some v/\Q v H
def rIxT(K:PySem.W.Frag):R2:=fun x y H Q=>∃ p xs i v,x=.ref p/\y=.int i/\SqT K H p xs/\atI xs i=some v/\Q v H
def rIxS:R2:=fun x y H Q=>∃ z i c,x=.str z/\y=.int i/\z.length<=sizeLine/\atI z.cps.toList i=some c/\Q (.str ⟨#[c]⟩) H
theorem QMP:IxR X (rIxL X.K):=by
 intro value slice pins s σ H x y v u Q I rx ry h hs
 obtain⟨p,xs,i,z,rfl,rfl,hq,he,q⟩:=h
 cases rx
 obtain⟨t,rfl⟩:=ry
 obtain⟨its,r,pl,hz⟩:=I.list hq
 obtain⟨j,h1,h2,h3,h4,h5⟩:=Qxq he
 obtain⟨w,ew,rw'⟩:=r.get h2
 have hl:=r.length
 have hn:=Qph
 have fin:EP X pins σ Q w s:=⟨z,H,I,rw',q⟩
 by_cases h0:0<=i
 ·have hj:i.toNat=j:=by
   rw[seqIndex_of h0 h5]at h1
   exact Option.some.inj h1
  exact item_listR pl.isList h0 (by omega) (by rw[hj];simpa using ew) fin hs
 ·have hj:(i+(its.toArray.size:Int)).toNat=j:=by
   rw[seqIndex_neg (by omega) h4]at h1
   rw[List.size_toArray, ← hl]
   exact Option.some.inj h1
  exact subscriptTail_builtinR (x:=w) pl.isList.typeIs slot_list_getitem.lookup
   (wpAny_getItem_list_neg (Q:=fun r s'=>r=w/\EP X pins σ Q r s') pl.isList (by omega) (by rw[List.size_toArray]<;>omega) (by omega) (by rw[hj];simpa using ew) ⟨rfl,fin⟩) hs
theorem QN8:IxR X (rIxT X.K):=by
 intro value slice pins s σ H x y v u Q I rx ry h hs
 obtain⟨p,xs,i,z,rfl,rfl,hq,he,q⟩:=h
 cases rx
 obtain⟨t,rfl⟩:=ry
 obtain⟨its,r,pl,hz⟩:=I.tuple hq
 obtain⟨j,h1,h2,h3,h4,h5⟩:=Qxq he
 obtain⟨w,ew,rw'⟩:=r.get h2
 have hl:=r.length
 have hn:=Qph
 have fin:EP X pins σ Q w s:=⟨z,H,I,rw',q⟩
 exact subscriptTail_builtinR (x:=w) pl.typeIs slot_tuple_getitem.lookup
  (getItem_tuple (j:=j) (Q:=fun r s'=>r=w/\EP X pins σ Q r s') pl (by omega) (by omega) (by rw[List.size_toArray, ← hl];exact h1) (by simpa using ew) ⟨rfl,fin⟩) hs
theorem QOQ:IxR X rIxS:=by
 intro value slice pins s σ H x y v u Q I rx ry h hs
 obtain⟨z,i,c,rfl,rfl,hz,he,q⟩:=h
 obtain⟨t,rfl⟩:=rx
 obtain⟨t',rfl⟩:=ry
 obtain⟨j,h1,h2,h3,h4,h5⟩:=Qxq he
 have hl:z.cps.toList.length=z.length:=by simp[Str.length]
 rw[hl]at h1 h4 h5
 have hn:=Qph
 exact tail_any (typeIs_str s z t) slot_str_getitem.lookup (getItem_str (c:=c) (by
  have e1:decide (i < -(2 ^ 63:Int))=false:=decide_eq_false (by omega)
  have e2:decide (i ≥ 2 ^ 63)=false:=decide_eq_false (by omega)
  rw[e1,e2,Bool.or_false]) (by rw[h1];simpa using h2) ⟨.str ⟨#[c]⟩,H,I.tok _,⟨_,rfl⟩,q⟩) hs
def rIx(K:PySem.W.Frag):R2:=fun x y H Q=>rIxL K x y H Q∨rIxT K x y H Q∨rIxS x y H Q
theorem QDg:IxR X (rIx X.K):=QMP.or (QN8.or QOQ)
theorem QHm(its:List Value)(n j:Nat)(u:Value):Obj.mapSeq (·.setIfInBounds j u) { cls:=.type "list",data:=.seq its.toArray n }={ cls:=.type "list",data:=.seq (its.set j u).toArray n }:=by
 simp[Obj.mapSeq]
theorem Inv.lst{pins:List (Addr×Obj)}{σ:St}{H:Hp}{s:Shared}{p:Addr}{xs:List V}(I:Inv X pins σ H s)(h:H p=some (.lst xs)):
 ∃(its:List Value)(n:Nat),Vals xs its/\s.heap.get? p=some { cls:=.type "list",data:=.seq its.toArray n }/\xs.length<=sizeLine:=by
 obtain⟨z,its,n,r,e⟩:=I.hok p _ h
 exact⟨its,n,r,e,z⟩
theorem Inv.lstUpd{pins:List (Addr×Obj)}{σ:St}{H:Hp}{s:Shared}{p:Addr}{xs ys:List V}{its its':List Value}{n n':Nat}{f:Obj->Obj}(I:Inv X pins σ H s)(h:H p=some (.lst xs))
 (ho:s.heap.get? p=some { cls:=.type "list",data:=.seq its.toArray n }) (hf:f { cls:=.type "list",data:=.seq its.toArray n }={ cls:=.type "list",data:=.seq its'.toArray n' }) (r:Vals ys its') (hz:ys.length<=sizeLine) (t:Nat):
 Inv X pins σ (upd H p (.lst ys)) { s with heap:=s.heap.update p f,toks:=t }:=by
 have e:(s.heap.update p f).get? p=some { cls:=.type "list",data:=.seq its'.toArray n' }:=by
  rw[Heap.get?_update_self f ho (by rw[hf]<;>rfl),hf]
 refine I.write (x:=p) (e:=p) (by rw[h];trivial) (.inl rfl) (fun b u hb q=>(Heap.get?_update_other _ _ (Ne.symm hb)).trans q) ⟨_,e⟩ ?_
 exact⟨hz,its',n',r,e⟩
def rSetL:V->V->V->Hp->(Hp->Prop)->Prop:=fun o i v H Q=>∃ p xs k j,o=.ref p/\i=.int k/\H p=some (.lst xs)/\ixN xs.length k=some j/\Q (upd H p (.lst (xs.set j v)))
theorem QCw:PSet X rSetL:=by
 intro pins s σ H o i v ov iv u Q I ro ri rv h
 obtain⟨p,xs,k,j,rfl,rfl,hp,hj,q⟩:=h
 cases ro
 obtain⟨t,rfl⟩:=ri
 obtain⟨its,n,r,ho,hz⟩:=I.lst hp
 obtain⟨h1,h2,h3,h4⟩:=QGQ hj
 have hl:=r.length
 have hn:=Qph
 have I':Inv X pins σ (upd H p (.lst (xs.set j v))) { s with heap:=s.heap.update p (Obj.mapSeq (·.setIfInBounds j u)) }:=
  I.lstUpd hp ho (QHm its n j u) (r.set rv j) (by rw[List.length_set];exact hz) s.toks
 by_cases h0:0<=k
 ·have hk:k.toNat=j:=by
   rw[seqIndex_of h0 h4]at h1
   exact Option.some.inj h1
  exact PySem.W.ki_setAt ho h0 (by omega) (by rw[List.size_toArray, ← hl];exact h4) (by rw[hk];exact⟨_,I',q⟩)
 ·have hk:(k+(its.toArray.size:Int)).toNat=j:=by
   rw[seqIndex_neg (by omega) h3]at h1
   rw[List.size_toArray, ← hl]
   exact Option.some.inj h1
  exact PySem.W.ki_setBack ho (by omega) (by rw[List.size_toArray, ← hl];exact h3) (by omega) (by rw[hk];exact⟨_,I',q⟩)
theorem QCX(lo hi:Option Int)(n:Nat):(sliceBounds lo hi none n).1=((HT.sIx n 0 lo:Nat):Int)/\(sliceBounds lo hi none n).2.1=((HT.sIx n n hi:Nat):Int)/\(sliceBounds lo hi none n).2.2=1:=by
 refine⟨?_,?_,rfl⟩
 ·cases lo with
  | none=>simp[sliceBounds,HT.sIx]
  | some i=>
   simp only[sliceBounds,HT.sIx,Option.getD_none,show(1:Int) > 0 by decide,if_true]
   by_cases h:i<0
   ·simp only[h,if_true]<;>omega
   ·simp only[h,if_false]<;>omega
 ·cases hi with
  | none=>simp[sliceBounds,HT.sIx]
  | some i=>
   simp only[sliceBounds,HT.sIx,Option.getD_none,show(1:Int) > 0 by decide,if_true]
   by_cases h:i<0
   ·simp only[h,if_true]<;>omega
   ·simp only[h,if_false]<;>omega
theorem Qz0(its:List Value)(lo hi:Option Int):slicePick its.toArray lo hi none=((its.drop (HT.sIx its.length 0 lo)).take (HT.sIx its.length its.length hi - HT.sIx its.length 0 lo)).toArray:=by
 obtain⟨h1,h2,h3⟩:=QCX lo hi its.toArray.size
 unfold slicePick
 rw[h1,h2,h3]
 simp only[sliceRange_one,pick_run,List.size_toArray]<;>rfl
def rSlL(K:PySem.W.Frag):V->Option Int->Option Int->Hp->VK->Prop:=fun x lo hi H Q=>∃ a xs,x=.ref a/\SqL K H a xs/\∀ p,H p=none->Q (.ref p) (upd H p (.lst (cutV xs lo hi)))
theorem QNd:SlR X (rSlL X.K):=by
 intro pins s σ H x v vl vu lo hi sl Q I rx hs pl pu h
 obtain⟨a,xs,rfl,hx,q⟩:=h
 cases rx
 obtain⟨its,r,ht,hz⟩:=I.list hx
 have hlen:=r.length
 refine⟨"list",_,slot_list_getitem.lookup,ht.isList.typeIs,?_⟩
 refine wpAny_getItem_list_slice ht.isList hs pl pu .none (by simp) ?_ (by rw[List.size_toArray]<;>omega)
 rw[Qz0, ← hlen]
 refine⟨.ref s.heap.objs.size,_,I.laid (t':=s.toks) (o:=.lst (cutV xs lo hi)) (fun b ob q=>Heap.get?_push_of_some _ q) (Nat.le_refl _) ?_,rfl,q _ (I.hok.fresh (Nat.le_refl _))⟩
 exact⟨Nat.le_trans (QFI xs lo hi) hz,_,0,(r.drop (HT.sIx xs.length 0 lo)).take (HT.sIx xs.length xs.length hi - HT.sIx xs.length 0 lo),Heap.get?_push_size _ rfl⟩
def flatV:V->Bool
 | .non=>true
 | .bl _=>true
 | .int _=>true
 | .str _=>true
 | _=>false
def eqV:V->V->Bool
 | .non,.non=>true
 | .bl a,.bl b=>a == b
 | .bl a,.int b=>(if a then 1 else 0) == b
 | .int a,.bl b=>a == (if b then 1 else 0)
 | .int a,.int b=>a == b
 | .str a,.str b=>a == b
 | _,_=>false
theorem QPi{A:Around}{s:Shared}{y x:V}{u v:Value}(ry:RelV y u)(rx:RelV x v)(fy:flatV y=true)(fx:flatV x=true):SeqAt.EqAt A s u v (eqV y x):=by
 cases y with
 | non=>
  cases ry
  cases x with
  | non=>cases rx;exact SeqAt.EqAt.same _
  | bl b=>cases rx;exact SeqAt.EqAt.none_bool b
  | int b=>obtain⟨t,rfl⟩:=rx;exact SeqAt.EqAt.none_int b t
  | str b=>obtain⟨t,rfl⟩:=rx;exact SeqAt.EqAt.none_str b t
  | _=>exact absurd (show false=true from fx) Bool.false_ne_true
 | bl a=>
  cases ry
  cases x with
  | non=>cases rx;exact SeqAt.EqAt.bool_none a
  | bl b=>cases rx;exact SeqAt.EqAt.bool_bool a b
  | int b=>obtain⟨t,rfl⟩:=rx;exact SeqAt.EqAt.bool_int a b t
  | str b=>obtain⟨t,rfl⟩:=rx;exact SeqAt.EqAt.bool_str a b t
  | _=>exact absurd (show false=true from fx) Bool.false_ne_true
 | int a=>
  obtain⟨t',rfl⟩:=ry
  cases x with
  | non=>cases rx;exact SeqAt.EqAt.int_none a t'
  | bl b=>cases rx;exact SeqAt.EqAt.int_bool a t' b
  | int b=>obtain⟨t,rfl⟩:=rx;exact SeqAt.EqAt.int_int a t' b t
  | str b=>obtain⟨t,rfl⟩:=rx;exact SeqAt.EqAt.int_str a t' b t
  | _=>exact absurd (show false=true from fx) Bool.false_ne_true
 | str a=>
  obtain⟨t',rfl⟩:=ry
  cases x with
  | non=>cases rx;exact SeqAt.EqAt.str_none a t'
  | bl b=>cases rx;exact SeqAt.EqAt.str_bool a t' b
  | int b=>obtain⟨t,rfl⟩:=rx;exact SeqAt.EqAt.str_int a t' b t
  | str b=>obtain⟨t,rfl⟩:=rx;exact SeqAt.EqAt.str_str a t' b t
  | _=>exact absurd (show false=true from fx) Bool.false_ne_true
 | _=>exact absurd (show false=true from fy) Bool.false_ne_true
def eqU(x:V)(u:Value):Bool:=match u with
 | .none=>eqV .non x
 | .bool b=>eqV (.bl b) x
 | .int i _=>eqV (.int i) x
 | .str z _=>eqV (.str z) x
 | _=>false
theorem QKw{x y:V}{u:Value}(r:RelV y u)(f:flatV y=true):eqU x u=eqV y x:=by
 cases y with
 | non=>cases r;rfl
 | bl b=>cases r;rfl
 | int i=>obtain⟨t,rfl⟩:=r;rfl
 | str z=>obtain⟨t,rfl⟩:=r;rfl
 | _=>exact absurd (show false=true from f) Bool.false_ne_true
theorem QxA{x:V}:∀{xs:List V}{us:List Value},Vals xs us->xs.all flatV=true->us.any (eqU x)=xs.any fun y=>eqV y x
 | _,_,.nil,_=>rfl
 | y::xs,u::us,.cons r t,f=>by
  rw[List.all_cons,Bool.and_eq_true]at f
  rw[List.any_cons,List.any_cons,QKw r f.1,QxA t f.2]
theorem Qua{A:Around}{s:Shared}{x:V}{v:Value}(rx:RelV x v)(fx:flatV x=true):∀{xs:List V}{us:List Value},Vals xs us->xs.all flatV=true->∀ u∈us,SeqAt.EqAt A s u v (eqU x u)
 | _,_,.nil,_=>fun u hu=>by cases hu
 | y::xs,u::us,.cons r t,f=>fun u' hu=>by
  rw[List.all_cons,Bool.and_eq_true]at f
  rcases List.mem_cons.mp hu with rfl | hu
  ·rw[QKw r f.1];exact QPi r rx f.1 fx
  ·exact Qua rx fx t f.2 u' hu
def inV(x:V)(xs:List V):Bool:=xs.any fun y=>eqV y x
def rIn(K:PySem.W.Frag)(neg:Bool):R2:=fun x y H Q=>∃ p xs,y=.ref p/\(SqL K H p xs∨SqT K H p xs)/\flatV x=true/\xs.all flatV=true/\Q (.bl (if neg then !inV x xs else inV x xs)) H
theorem QLb:OpR X (compareOp .In) (rIn X.K false):=by
 intro pins s σ H x y v u Q I rx ry h
 obtain⟨p,xs,rfl,hq,fx,fs,q⟩:=h
 cases ry
 rcases hq with hq | hq
 ·obtain⟨its,r,pl,hz⟩:=I.list hq
  refine SeqAt.in_listAt (eqU x) pl.isList (fun w hw=>Qua rx fx r fs w (by simpa using hw)) ⟨.bl _,H,I,rfl,?_⟩
  rw[show its.toArray.any (eqU x)=its.any (eqU x) by simp,QxA r fs]
  exact q
 ·obtain⟨its,r,pl,hz⟩:=I.tuple hq
  refine SeqAt.in_tupleAt (eqU x) pl (fun w hw=>Qua rx fx r fs w (by simpa using hw)) ⟨.bl _,H,I,rfl,?_⟩
  rw[show its.toArray.any (eqU x)=its.any (eqU x) by simp,QxA r fs]
  exact q
theorem QCo:CallR X (.builtin "len") (fun xs H Q=>∃ p ys,xs=[.ref p]/\(SqL X.K H p ys∨SqT X.K H p ys)/\Q (.int ys.length) H):=by
 intro pins s σ H xs us Q I r h
 obtain⟨p,ys,rfl,hq,q⟩:=h
 obtain⟨u,rfl,rx⟩:=vals1 r
 cases rx
 have hn:=Qph
 rcases hq with hq | hq
 ·obtain⟨its,r',pl,hz⟩:=I.list hq
  have hlen:=r'.length
  exact Calls.call_len_list pl.isList (by simp only[List.size_toArray]<;>omega) ⟨.int ys.length,H,I.tok _,⟨s.toks+1,by rw[List.size_toArray,hlen]⟩,q⟩
 ·obtain⟨its,r',pl,hz⟩:=I.tuple hq
  have hlen:=r'.length
  exact len_tuple pl (by simp only[List.size_toArray]<;>omega) ⟨.int ys.length,H,I.tok _,⟨s.toks+1,by rw[List.size_toArray,hlen]⟩,q⟩
theorem QCf:CallR X (.builtin "len") (fun xs H Q=>∃ z,xs=[.str z]/\z.length<=sizeLine/\Q (.int z.length) H):=by
 intro pins s σ H xs us Q I r h
 obtain⟨z,rfl,hz,q⟩:=h
 obtain⟨u,rfl,t,rfl⟩:=vals1 r
 have hn:=Qph
 exact len_str (by omega) ⟨.int z.length,H,I.tok _,⟨_,rfl⟩,q⟩
theorem CallR.or{f:Value}{r r':List V->Hp->VK->Prop}(h:CallR X f r)(h':CallR X f r'):CallR X f (fun xs H Q=>r xs H Q∨r' xs H Q):=by
 intro pins s σ H xs us Q I rs q
 rcases q with q | q
 ·exact h pins s σ H xs us Q I rs q
 ·exact h' pins s σ H xs us Q I rs q
theorem QB0:CallR X (.type "list") (fun xs H Q=>∃ p ys,xs=[.ref p]/\(SqL X.K H p ys∨SqT X.K H p ys)/\∀ l,H l=none->Q (.ref l) (upd H l (.lst ys))):=by
 intro pins s σ H xs us Q I r h
 obtain⟨p,ys,rfl,hq,q⟩:=h
 obtain⟨u,rfl,rx⟩:=vals1 r
 cases rx
 have fin:∀(its:List Value),Vals ys its->ys.length<=sizeLine->∀(h':Heap)(c':Nat),(∀ b o',s.heap.get? b=some o'->h'.get? b=some o')->
  h'.get? s.heap.objs.size=some { cls:=.type "list",dict:=none,data:=.seq its.toArray c',slots := #[] }->EP X pins σ Q (.ref s.heap.objs.size) { s with heap:=h' }:=fun its r' hz h' c' kp e=>
  ⟨.ref s.heap.objs.size,_,I.laid (t':=s.toks) kp (Nat.le_refl _) (show ObjOk X.prog X.w _ h' _ (.lst ys) from⟨hz,its,c',r',e⟩),rfl,q _ (I.hok.fresh (Nat.le_refl _))⟩
 rcases hq with hq | hq
 ·obtain⟨its,r',pl,hz⟩:=I.list hq
  have hlen:=r'.length
  obtain⟨o,ho,hc,n,hd⟩:=pl.isList
  exact call_list_seq p (.inl rfl) ho hc hd (fun h' c' kp e=>fin its r' hz h' c' kp e) (by simp only[List.size_toArray]<;>omega)
 ·obtain⟨its,r',pl,hz⟩:=I.tuple hq
  have hlen:=r'.length
  obtain⟨o,ho,hc,n,hd⟩:=pl
  exact call_list_seq p (.inr rfl) ho hc hd (fun h' c' kp e=>fin its r' hz h' c' kp e) (by simp only[List.size_toArray]<;>omega)
def tyV(K:PySem.W.Frag)(T:String)(x:V)(H:Hp):Prop:=match x with
 | .str _=>T="str"
 | .int _=>T="int"
 | .ref p=>(T="list"/\∃ xs,SqL K H p xs)∨(T="tuple"/\∃ o,K.lookup p=some o/\o.cls=.type "tuple"/\o.dict=none)∨
  (T="dict"/\((∃ kvs,H p=some (.dK kvs))∨∃ kvs,H p=some (.dT kvs)))∨(T="set"/\∃ S n,H p=some (.set S n))
 | _=>False
theorem QOn{pins:List (Addr×Obj)}{σ:St}{H:Hp}{s:Shared}{T:String}{x:V}{v:Value}(I:Inv X pins σ H s)(r:RelV x v)(ty:tyV X.K T x H):
 s.TypeIs v T/\∀ a,v=.ref a->∃ ob,s.heap.get? a=some ob/\ob.dict=none:=by
 cases x with
 | str z=>
  obtain⟨t,rfl⟩:=r
  cases (show T="str" from ty)
  exact⟨typeIs_str s z t,fun _ e=>nomatch e⟩
 | int i=>
  obtain⟨t,rfl⟩:=r
  cases (show T="int" from ty)
  exact⟨typeIs_int s i t,fun _ e=>nomatch e⟩
 | ref p=>
  cases r
  rcases ty with⟨rfl,xs,hq⟩ | ⟨rfl,o,hk,hc,hd⟩ | ⟨rfl,hk⟩ | ⟨rfl,S,n,hk⟩
  ·obtain⟨its,_,pl,_⟩:=I.list hq
   refine⟨pl.isList.typeIs,fun a e=>?_⟩
   cases e
   obtain⟨o,n,e,c,hd,_⟩:=pl
   exact⟨o,e,hd⟩
  ·refine⟨⟨o,I.kIn p o hk,hc⟩,fun a e=>?_⟩
   cases e
   exact⟨o,I.kIn _ o hk,hd⟩
  ·have z:∃ o,s.heap.get? p=some o/\o.ExactDict:=by
    rcases hk with⟨kvs,hk⟩ | ⟨kvs,hk⟩
    ·obtain⟨_,_,_,_,o,_,_,e,ex,_⟩:=I.hok p _ hk
     exact⟨o,e,ex⟩
    ·obtain⟨_,_,_,_,o,_,_,e,ex,_⟩:=I.hok p _ hk
     exact⟨o,e,ex⟩
   obtain⟨o,e,ex⟩:=z
   refine⟨⟨o,e,ex.1⟩,fun a e2=>?_⟩
   cases e2
   exact⟨o,e,ex.2.1⟩
  ·obtain⟨o,_,_,_,e,ex,_⟩:=I.hok p _ hk
   refine⟨⟨o,e,ex.1⟩,fun a e2=>?_⟩
   cases e2
   exact⟨o,e,ex.2.1⟩
 | _=>exact False.elim ty
def tBM(K:PySem.W.Frag)(T:String)(r:V->List V->Hp->VK->Prop)(to:TE)(t:TA):TE:=fun σ H Q=>to σ H fun x H1=>tyV K T x H1/\t σ H1 fun xs H2=>r x xs H2 Q
variable{o e:Expr}{es:List Expr}{to:TE}{t:TA}{name:Str}{apos cpos:Pos}{T id:String}{r:V->List V->Hp->VK->Prop}
theorem pe_bm(pa:PlainAttrs T)(slot:Slot T name id)(hty:typeOf (.builtin id)=pure (.type "method_descriptor"))(hm:MtR X id r)(ho:PE X o to)(ha:PA X (e::es) t)
 (hbase:attributeBase o name X.env (eval o X.env)=eval o X.env:=by rfl)
 (hfew:((backTo cpos (starEach (e::es) X.env)).all (fun x => !x.1)&&(backToKw cpos (keywordEach [] X.env)).all (fun x=>x.1.isSome)
  && decide ((e::es).length+([]:List Keyword).length+(if ([]:List Keyword).isEmpty then 0 else 1)<30))=true:=by rfl)
 (hline:(apos.endLine == cpos.line)=true:=by rfl) (hs:starEach (e::es) X.env=(false,eval e X.env)::starEach es X.env:=by rfl) (hplain:(backTo cpos (starEach es X.env)).any (·.1)=false:=by rfl):
 PE X (.Call (.Attribute o name apos) (e::es) [] cpos) (tBM X.K T r to t):=by
 intro pins s σ H Q I h
 refine wpAny_Call_method_late hbase hfew hline rfl (thn (ho pins s σ H _ I h) fun v s1 ⟨x,H1,I1,r1,ty,q1⟩=>?_)
 obtain⟨h1,h2⟩:=QOn I1 r1 ty
 refine⟨T,id,pa,slot,hty,h1,h2,?_⟩
 have hA:=ha cpos pins s1 σ H1 _ I1 q1
 rw[hs]at hA ⊢
 refine Calls.callWith_builtin (by show(false||(backTo cpos (starEach es X.env)).any (·.1))=false;rw[hplain]<;>rfl) (Calls.evalArgs_plain ?_)
 exact thn hA fun us s2 ⟨vs,H2,I2,r2,q2⟩=>hm pins s2 σ H2 x vs v us Q I2 r1 r2 q2
end
end L2
namespace L2
open PySem PySem.Spec PyProof.Rows
def MtM(X:Cx)(id:String)(r:V->List V->Hp->VK->Prop):Prop:=
 ∀(pins:List (Addr×Obj))(s:Shared)(σ:St)(H:Hp)(x:V)(xs:List V)(v:Value)(us:List Value)(Q:VK),Inv X pins σ H s->RelV x v->Vals xs us->r x xs H Q->
  wpAny (model X.prog X.w) X.A (call (.builtin id) (v::us)) (EP X pins σ Q) X.xe s
theorem Vals.one:∀{x:V}{us:List Value},Vals [x] us->∃ u,us=[u]/\RelV x u
 | _,_,.cons r .nil=>⟨_,rfl,r⟩
theorem Vals.rep{xs:List V}{us:List Value}(h:Vals xs us):∀ k:Nat,Vals (List.replicate k xs).flatten (List.replicate k us).flatten
 | 0=>.nil
 | k+1=>by
  rw[List.replicate_succ,List.replicate_succ,List.flatten_cons,List.flatten_cons]
  exact Vals.append h (Vals.rep h k)
theorem QyY(its:List Value):∀(k:Nat)(acc:List Value),
 List.foldl (fun x1 x2=>x1++x2) acc.toArray (List.replicate k its.toArray)=(acc++(List.replicate k its).flatten).toArray
 | 0,acc=>by simp
 | k+1,acc=>by
  have e:acc.toArray++its.toArray=(acc++its).toArray:=by simp
  have e2:(acc++its)++(List.replicate k its).flatten=acc++(List.replicate (k+1) its).flatten:=by
   rw[List.replicate_succ,List.flatten_cons,List.append_assoc]
  rw[← e2, ← QyY its k (acc++its), ← e,List.replicate_succ,List.foldl_cons]
section
variable{X:Cx}{pins:List (Addr×Obj)}{σ:St}{H:Hp}{s:Shared}{l b:Addr}{xs ys zs:List V}
theorem Inv.lset{its its':List Value}{n:Nat}{f:Array Value->Array Value}{t':Nat}(I:Inv X pins σ H s)(hH:H l=some (.lst xs))
 (e:s.heap.get? l=some { cls:=.type "list",data:=.seq its.toArray n }) (hf:f its.toArray=its'.toArray) (hv:Vals ys its') (hz:ys.length<=sizeLine):
 Inv X pins σ (upd H l (.lst ys)) { s with heap:=s.heap.update l (Obj.mapSeq f),toks:=t' }:=by
 have q:=PySem.IsL.update e f
 rw[hf]at q
 refine I.write (x:=l) (e:=l) (by rw[hH];exact trivial) (.inl rfl) (fun b' u hb hu=>(Heap.get?_update_other s.heap (Obj.mapSeq f) (Ne.symm hb)).trans hu) ⟨_,q⟩ ?_
 exact⟨hz,its',_,hv,q⟩
theorem Inv.lnew{its:List Value}{t':Nat}(I:Inv X pins σ H s)(hv:Vals ys its)(hz:ys.length<=sizeLine):
 Inv X pins σ (upd H s.heap.objs.size (.lst ys)) { s with heap:=s.heap.push { cls:=.type "list",data:=.seq its.toArray },toks:=t' }:=
 I.laid (fun _ _ q=>Heap.get?_push_of_some _ q) (Nat.le_refl _) ⟨hz,its,0,hv,Heap.get?_push_size _ rfl⟩
theorem Inv.fresh(I:Inv X pins σ H s):H s.heap.objs.size=none:=I.hok.fresh (Nat.le_refl _)
theorem Inv.lstM(I:Inv X pins σ H s)(hH:H l=some (.lst xs)):xs.length<=sizeLine/\∃(its:List Value)(n:Nat),Vals xs its/\xs.length=its.length/\s.heap.get? l=some { cls:=.type "list",data:=.seq its.toArray n }:=by
 obtain⟨z,its,n,r,e⟩:=I.hok l _ hH
 exact⟨z,its,n,r,r.length,e⟩
theorem QL7{n:Nat}(h:n<=sizeLine):Builtin.List.listTooLong n=false:=by
 unfold Builtin.List.listTooLong
 exact decide_eq_false (by omega)
end
section
variable{X:Cx}
def QNt:V->List V->Hp->VK->Prop:=fun x vs H Q=>∃ l xs y,x=.ref l/\vs=[y]/\H l=some (.lst xs)/\xs.length<sizeLine/\Q .non (upd H l (.lst (xs++[y])))
theorem QyN:MtM X "list.append" QNt:=by
 intro pins s σ H x vs v us Q I rx rv h
 obtain⟨l,xs,y,rfl,rfl,hH,hz,q⟩:=h
 cases rx
 obtain⟨u,rfl,ru⟩:=rv.one
 obtain⟨z,its,n,r,hl,e⟩:=I.lstM hH
 refine call_meets F.slot_list_append ⟨_,e,rfl⟩ F.entry_list_append (F.args_list_append_2 _ _) (PySem.list_append l its.toArray n u (by rw[List.size_toArray];omega)) ⟨e,?_⟩
 refine⟨.non,_,I.lset (its':=its++[u]) hH e (by simp) (r.append (.cons ru .nil)) ?_,rfl,q⟩
 rw[List.length_append,List.length_singleton]
 omega
def rRep:R2:=fun x y H Q=>∃ l k xs,x=.ref l/\y=.int k/\H l=some (.lst xs) /\ -(2 ^ 63)<=k/\k<2 ^ 63/\xs.length * k.toNat<=sizeLine/\
 ∀ p,H p=none->Q (.ref p) (upd H p (.lst (List.replicate k.toNat xs).flatten))
theorem QNP{α:Type}(xs:List α)(k:Nat):(List.replicate k xs).flatten.length=k * xs.length:=by
 induction k with
 | zero=>simp
 | succ k ih=>rw[List.replicate_succ,List.flatten_cons,List.length_append,ih,Nat.succ_mul,Nat.add_comm]
theorem QOe:OpR X (binaryOp .Mult) rRep:=by
 intro pins s σ H x y v u Q I rx ry h
 obtain⟨l,k,xs,rfl,rfl,hH,h1,h2,hz,q⟩:=h
 cases rx
 obtain⟨t,rfl⟩:=ry
 obtain⟨z,its,n,r,hl,e⟩:=I.lstM hH
 have hlen:its.toArray.size * k.toNat<=sizeLine:=by rw[List.size_toArray, ← hl];exact hz
 have hcap:¬ its.toArray.size * k.toNat > (2 ^ 63 - 1) / 8:=by
  have:(sizeLine:Nat)<=(2 ^ 63 - 1) / 8:=by decide
  omega
 have hfit:¬ (!Builtin.List.listFitsIndex k)=true:=by
  rw[fitsIndex_both h1 h2]
  exact Bool.false_ne_true
 have hlong:¬ Builtin.List.listTooLong (its.toArray.size * k.toNat)=true:=by
  rw[QL7 hlen]
  exact Bool.false_ne_true
 have hnew:List.foldl (fun x1 x2=>x1++x2) #[] (List.replicate (if its.toArray.isEmpty=true then 0 else k.toNat) its.toArray)=(List.replicate k.toNat its).flatten.toArray:=by
  have f0:∀ m:Nat,List.foldl (fun x1 x2=>x1++x2) #[] (List.replicate m its.toArray)=(List.replicate m its).flatten.toArray:=fun m=>by
   have:=QyY its m []
   rw[List.nil_append]at this
   exact this
  rw[f0]
  cases its with
  | nil=>simp
  | cons a r'=>rw[if_neg (by simp)]
 refine wpAny_binaryOp_repeat_ref (T:="list") (U:="int") (by decide) ⟨_,e,rfl⟩ (fun s'=>typeIs_int s' k t) noFill_list_mul F.fills_int_mul F.slot_int_rmul repeat_list F.slot_int_index.lookup
  (call_meets F.slot_int_rmul (typeIs_int s k t) F.entry_int_rmul (F.args_int_rmul_2 _ _) (int___rmul___int_list k t l its.toArray n)
   ⟨e,rfl,⟨_,e,rfl⟩,call_meets F.slot_list_mul ⟨_,e,rfl⟩ F.entry_list_mul (F.args_list_mul_2 _ _) (AutoListH.list___mul___list_int_3 l its.toArray n k t hfit hcap hlong) ⟨e,?_⟩⟩)
 rw[hnew]
 exact⟨.ref _,_,I.lnew (t':=s.toks) (r.rep k.toNat) (by rw[QNP,Nat.mul_comm];exact hz),rfl,q _ I.fresh⟩
end
section
variable{prog:Program}{w:World}{A:Around}{E:Value->Shared->Prop}{s:Shared}
end
section
variable{X:Cx}
end
end L2
namespace Att
open PySem PySem.W PySem.Calls PyProof.Rows
theorem QwD{P:Params}{h:Heap}:∀(ns:List Int)(vs:List Value),WellAll P h vs (ns.map WData.int)->IntsAre vs ns:=by
 intro ns
 induction ns with
 | nil=>
  intro vs w
  rw[List.map_nil]at w
  cases w
  exact .nil
 | cons n ns ih=>
  intro vs w
  rw[List.map_cons]at w
  cases w with
  | cons a b=>
   cases a
   exact .cons _ _ (ih _ b)
theorem script_of{l:OpenLaw}{n:Nat}(hn:l.most=some n){P:Params}{h:Heap}{args:List WData}{vals:List Value}
 (hpre:l.row.toRowW.claim.pre args=true) (hwl:WellAll P h vals args):
 ∃ a vs ns,vals=[Value.ref a]/\args=[WData.list (ns.map WData.int)]/\h.get? a=some { cls:=.type "list",data:=.seq vs.toArray }/\IntsAre vs ns/\ns.length<=n:=by
 have hsh:WShape.hasAll [] args [.list .int]=true:=(pre_splitW hpre).1
 have hc:l.pre.holds [] { args:=args }=true:=(pre_splitW hpre).2
 obtain⟨d,r,rfl,h1,h2⟩:=hasAllW_cons hsh
 obtain rfl:=hasAllW_nil h2
 obtain⟨xs,rfl,h3⟩:=hasW_list h1
 obtain⟨ns,rfl⟩:=items_int h3
 have hlen:ns.length<=n:=by
  unfold OpenLaw.pre at hc
  have h4:(WTm.not (.lt (.lit (.int (n:Int))) (.len (.arg 0)))).holds [] { args:=[.list (ns.map .int)] }=true:=by
   have h4:=(holds_andW hc).1
   rw[hn]at h4
   exact h4
  have h5:=condW_of h4 (w_not (w_lt w_lit (w_len_list (w_arg rfl))))
  rw[List.length_map]at h5
  refine Nat.le_of_not_lt fun q=>?_
  have q':(n:Int)<((ns.length:Nat):Int):=by omega
  first
   | (rw[decide_eq_true q']at h5;exact absurd h5 (by decide))
   | (simp at h5;omega)
 cases hwl with
 | cons w1 w2=>
  cases w2
  cases w1 with
  | list ho hall=>exact⟨_,_,ns,rfl,rfl,ho,QwD ns _ hall,hlen⟩
theorem post_true(l:OpenLaw)(args:List WData):l.row.toRowW.claim.post args (.bool true) args=true:=
 postW_of (r:=l.row.toRowW) (X:=(true == true))
  (show WShape.has [] (.bool true) .bool=true by first | rfl | decide | simp[WShape.has,WShape.arms,WShape.armsAll])
  (show(WTm.eq .res (.lit (.bool true))).value [] { args:=args,res:=some (.bool true),after:=args }=some (.bool (true == true)) from w_eq_bool (w_res rfl) w_lit) rfl
section
variable{prog:Program}{w:World}{A:Around}{E:Value->Shared->Prop}{s:Shared}{K:Frag}
end
end Att
namespace L2
open PySem PySem.Spec PyProof.Rows
theorem QyX:∀{vs:List Value}{ns:List Int},IntsAre vs ns->Vals (ns.map V.int) vs
 | _,_,.nil=>.nil
 | _,_,.cons n t h=>.cons ⟨t,rfl⟩ (QyX h)
def Only(H:Hp):Prop:=∀ b,H b=none∨∃ o xs,H b=some (.frz o (.lst xs))
theorem QL2{P:Program}{w:World}{K:PySem.W.Frag}{mg mb:Str->Option Value}{CX:CXT}{k:Nat}{fa a:Addr}{fd:FuncData}{x:Str}{sp:Sp}{s₁:Shared}{vs:List Value}{ns:List Int}
 (KX:K.In s₁.heap) (hns:s₁.heap.Ns mainGlobals mg) (hb:s₁.heap.Ns builtinsNs mb) (hbb:∀ x:Str,x≠"__name__"->mb x=bootBuiltins x) (hlim:s₁.heap.NoLimit) (hg:s₁.gens = #[])
 (ha:s₁.heap.get? a=some { cls:=.type "list",data:=.seq vs.toArray }) (hi:IntsAre vs ns) (hl:ns.length<=sizeLine) (hr:Room k callerA)
 (F:∀ base:Heap,K.In base->base.Ns mainGlobals mg->FnOk P w K mg base CX k fa fd [x] sp) (hbind:∀(s:Shared)(u:Value),BindsTo s fd ⟨[u],[]⟩ [(x,u)])
 (hsp:∀ H:Hp,Only H->SqL K H a (ns.map V.int)->sp [.ref a] H (fun v _=>v=.bl true) fun _ _ _=>False)
 (hCX:∀ H e s',CX [] H s₁ (fun _ _ _=>False) e s'->False):
 codeAny (model P w) callerA (.call (.ref fa) ⟨[.ref a],[]⟩) (fun r s'=>r=.ok (.ret (.bool true))/\OldK s₁.heap s'.heap/\s'.os=s₁.os/\AllBare s'.gens) s₁:=by
 have rv:=QyX hi
 have lenV:=hi.length
 -- from an abstract heap in which nothing but the script may be tracked
 have core:∀ H:Hp,Only H->SqL K H a (ns.map V.int)->HOk P w H s₁.heap->(∀ b,H b≠none->b=a)->(H a≠none->K.lookup a=none)->
  codeAny (model P w) callerA (.call (.ref fa) ⟨[.ref a],[]⟩) (fun r s'=>r=.ok (.ret (.bool true))/\OldK s₁.heap s'.heap/\s'.os=s₁.os/\AllBare s'.gens) s₁:=by
  intro H hO hS hok hA hK
  have base_of:∀{b:Addr}{o:Obj},s₁.heap.get? b=some o->H b=none->(hidT s₁.heap H).get? b=some o:=fun e n=>QMt e n
  have noA:∀{b:Addr}{o:Obj}{es:Array DictEntry}{ep:Nat},s₁.heap.get? b=some o->o.data=.dict es ep->H b=none:=fun {b o es ep} e d=>by
   cases q:H b with
   | none=>rfl
   | some u=>
    have e':b=a:=hA b (by rw[q];simp)
    subst e'
    rw[ha]at e;cases e
    have d':Data.seq vs.toArray _=Data.dict es ep:=d
    cases d'
  have nsK:∀{b:Addr}{m:Str->Option Value},s₁.heap.Ns b m->(hidT s₁.heap H).Ns b m:=fun {b m} ⟨o,es,ep,e,d,r⟩=>⟨o,es,ep,base_of e (noA e d),d,r⟩
  have hKb:K.In (hidT s₁.heap H):=fun b o e=>base_of (KX b o e) (by
   cases q:H b with
   | none=>rfl
   | some u=>
    have e':b=a:=hA b (by rw[q];simp)
    subst e'
    rw[hK (by rw[q];simp)]at e;cases e)
  have hM:Mod K mg (hidT s₁.heap H):=⟨hKb,nsK hns,⟨mb,nsK hb,hbb⟩,let ⟨mc,h1,h2⟩:=hlim;⟨mc,nsK h1,h2⟩⟩
  have e0:Env0 P w K mg (hidT s₁.heap H) callerA [] s₁ H:=⟨rfl,hM,fun b o e=>QN3 e,Nat.le_of_eq (QKG _ _),trivial,fun b hb=>absurd (show b∈([]:List Addr) from hb) (by simp),hok,.of_eq hg⟩
  refine codeAny_mono ((F _ hKb (nsK hns)).run callerA [] s₁ H ⟨[.ref a],[]⟩ [.ref a] [.ref a] _ _ hr e0 (hbind s₁ (.ref a)) (.cons rfl .nil) (hsp H hO hS)) fun r s' h=>?_
  cases r with
  | error e=>exact(hCX H e s' h).elim
  | ok fl=>
   cases fl with
   | next=>exact False.elim h
   | brk=>exact False.elim h
   | cont=>exact False.elim h
   | ret u=>
    obtain⟨v,H',os,bare,un,hok',r',q⟩:=h
    have q':v=.bl true:=q
    subst q'
    obtain rfl:u=Value.bool true:=r'
    refine⟨rfl,OldK.of_keep fun b o e=>?_,os,bare⟩
    cases q:H b with
    | none=>exact un.keep b o e q (by intro z;exact absurd (show b∈([]:List Addr) from z) (by simp)) (by simp)
    | some u=>
     rcases hO b with z | ⟨ob,xs,z⟩
     ·rw[q]at z;cases z
     ·have z2:=un.frzs b ob _ z
      obtain⟨e1,_⟩:=hok b _ z
      obtain⟨e2,_⟩:=hok' b _ z2
      rw[e]at e1;cases e1
      exact e2
 cases hk:K.lookup a with
 | some o=>
  -- the script is one of the module's own objects
  have e:=KX a o hk
  rw[ha]at e
  cases e
  refine core (fun _=>none) (fun _=>.inl rfl) (.inr ⟨_,vs.toArray,_,hk,rfl,rfl,rfl,by rw[List.size_toArray,lenV];exact hl,by simpa using rv⟩) (fun b u z=>by have z':(none:Option HO)=some u:=z;cases z') (fun b z=>absurd rfl z) fun z=>absurd rfl z
 | none=>
  refine core (fun b=>if b=a then some (.frz { cls:=.type "list",data:=.seq vs.toArray } (.lst (ns.map V.int))) else none) (fun b=>?_) (.inl (.inr ⟨{ cls:=.type "list",data:=.seq vs.toArray },if_pos rfl⟩)) (fun b u z=>?_) (fun b z=>?_) fun _=>hk
  ·by_cases hb:b=a
   ·exact .inr ⟨_,_,if_pos hb⟩
   ·exact .inl (if_neg hb)
  ·by_cases hb:b=a
   ·have z':=(if_pos hb).symm.trans z
    cases z'
    subst hb
    exact⟨ha,by rw[List.length_map];exact hl,vs,_,rv,ha⟩
   ·have z':=(if_neg hb).symm.trans z
    cases z'
  ·by_cases hb:b=a
   ·exact hb
   ·exact absurd (if_neg hb) z
end L2
namespace L2
open PySem PySem.Spec PyProof.Rows
end L2
namespace L2
open PySem PySem.Spec PyProof.Rows
def Qs(s:Stmt):Arguments:=match s with
 | .FunctionDef _ a _ _ _ _ _ _ _ _=>a
 | _=>{ posonlyargs:=[],args:=[],vararg:=none,kwonlyargs:=[],kw_defaults:=[],kwarg:=none,defaults:=[] }
def Qn(s:Stmt):List Stmt:=match s with
 | .FunctionDef _ _ b _ _ _ _ _ _ _=>b
 | _=>[]
def Qa(s:Stmt):Scope:=match s with
 | .FunctionDef _ _ _ _ _ _ sc _ _ _=>sc
 | _=>{ kind:=.function,names:=[],isGenerator:=false,isCoroutine:=false }
abbrev CX0:CXT:=fun _ _ _ _ _ _=>False
abbrev E0:XK:=fun _ _ _=>False
theorem pass0{X:Cx}:Qhp CX0 X E0:=fun _ _ _ _ _ _ _ h=>h.elim
structure Fun(K:PySem.W.Frag)(x qual:Str)(st:Stmt)(f:Addr)(fd:FuncData):Prop where
 ex:∃(oc:Value)(od:Option Addr)(kV doc pm:Value)(an:Option Addr)(cdv ct:Value)(osl:Array (Option Value)),
  fd=PySem.W.fnOf x qual (Qs st) (Qn st) (Qa st) .none kV doc pm an cdv ct/\K.lookup f=some ⟨oc,od,.func fd,osl⟩/\PySem.W.codeIn K cdv qual=true
 kp:PySem.W.keepIn K (.ref f)=true
section
variable{P:Program}{w:World}{K:PySem.W.Frag}{mg:Str->Option Value}{base:Heap}
theorem Fun.ok{x qual:Str}{st:Stmt}{f:Addr}{fd:FuncData}{N ps:List Str}{k:Nat}{sp:Sp}(F:Fun K x qual st f fd)(S:Qr N ps (Qa st))(len:∀ vs H Q E,sp vs H Q E->vs.length=ps.length)
 (hbody:∀(cdv:Value)(A:Around)(outer:List Env)(s:Shared)(H:Hp)(vs:List V)(Q:VK)(E:XK),Room k (A.deeper (envOfC qual (Qa st) s.heap.objs.size f cdv))->sp vs H Q E->
  ∃ t,PSs (cxOf CX0 P w K mg base N qual (Qa st) f cdv A outer s H E).nox (Qn st) t/\t { nx:=fun _ H'=>Q .non H',rt:=Q } (start N vs) H):FnOk P w K mg base CX0 (k+1) f fd ps sp:=by
 obtain⟨oc,od,kV,doc,pm,an,cdv,ct,osl,rfl,lk,hcd⟩:=F.ex
 refine fn_of lk hcd S len fun A outer s H vs Q E hr hsp=>?_
 obtain⟨t,h,q⟩:=hbody cdv A outer s H vs Q E hr hsp
 exact⟨t,h.nox,q⟩
end
section
variable{X:Cx}
end
theorem iteF{A B:Prop}(h:B):if false=true then A else B:=by
 rw[if_neg Bool.false_ne_true]
 exact h
theorem iteT{A B:Prop}(h:A):if true=true then A else B:=by
 rw[if_pos rfl]
 exact h
def Same(H H':Hp):Prop:=∀ b o,H b=some o->H' b=some o
theorem Same.refl(H:Hp):Same H H:=fun _ _ h=>h
theorem Same.trans{H H1 H2:Hp}(a:Same H H1)(b:Same H1 H2):Same H H2:=fun c o h=>b c o (a c o h)
theorem Same.free{H H':Hp}(e:Same H H'){l:Addr}(h:H' l=Option.none):H l=Option.none:=by
 cases q:H l with
 | none=>rfl
 | some o=>
  rw[e l o q]at h
  cases h
theorem Same.seq{K:PySem.W.Frag}{H H':Hp}{a:Addr}{xs:List V}(e:Same H H')(h:SqL K H a xs):SqL K H' a xs:=by
 rcases h with(h | ⟨o,h⟩) | h
 ·exact .inl (.inl (e _ _ h))
 ·exact .inl (.inr ⟨o,e _ _ h⟩)
 ·exact .inr h
end L2
namespace L2
open PySem PySem.Spec PyProof.Rows
section
variable{κ:Type}[DecidableEq κ]
def valV(kvs:List (κ×V))(k:κ):Option V:=(kvs.find? fun kv=>decide (kv.1=k)).map (·.2)
def putK(kvs:List (κ×V))(k:κ)(v:V):List (κ×V):=
 if (kvs.any fun kv=>decide (kv.1=k))=true then kvs.map (fun kv=>if kv.1=k then(kv.1,v) else kv) else kvs++[(k,v)]
theorem Que{p:κ×V}{r:List (κ×V)}{k:κ}(e:p.1=k):valV (p::r) k=some p.2:=by simp[valV,List.find?_cons,e]
theorem Quw{p:κ×V}{r:List (κ×V)}{k:κ}(e:¬ p.1=k):valV (p::r) k=valV r k:=by simp[valV,List.find?_cons,e]
theorem QBC(k:κ):∀ kvs:List (κ×V),(kvs.any fun kv=>decide (kv.1=k))=(valV kvs k).isSome
 | []=>rfl
 | p::r=>by
  rw[List.any_cons]
  by_cases e:p.1=k
  ·simp only[Que e,decide_eq_true e,Bool.true_or,Option.isSome_some]
  ·rw[Quw e,decide_eq_false e,Bool.false_or];exact QBC k r
theorem QtE(kvs:List (κ×V))(k:κ)(v:V):(putK kvs k v).length<=kvs.length+1:=by
 unfold putK
 split
 ·rw[List.length_map];omega
 ·rw[List.length_append,List.length_cons,List.length_nil];omega
theorem RelO.isSome_eq{o:Option V}{u:Option Value}(r:RelO o u):o.isSome=u.isSome:=by
 cases o with
 | none=>cases u with
  | none=>rfl
  | some _=>exact(show False from r).elim
 | some _=>cases u with
  | none=>exact(show False from r).elim
  | some _=>rfl
theorem RelO.getD{o:Option V}{u:Option Value}{d:V}{d':Value}(r:RelO o u)(rd:RelV d d'):RelV (o.getD d) (u.getD d'):=by
 cases o with
 | none=>cases u with
  | none=>exact rd
  | some _=>exact(show False from r).elim
 | some _=>cases u with
  | none=>exact(show False from r).elim
  | some _=>exact r
theorem KV.val{kvs:List (κ×V)}{vs:List (κ×Value)}(r:KV kvs vs)(k:κ):RelO (valV kvs k) (valueAt vs k):=by
 unfold KV at r
 induction r with
 | nil=>exact True.intro
 | @cons p q ps qs h t ih=>
  obtain⟨h1,h2⟩:=h
  by_cases e:p.1=k
  ·have e':q.1=k:=h1.symm.trans e
   have b:valueAt (q::qs) k=some q.2:=by simp[valueAt,List.find?_cons,e']
   rw[Que e,b];exact h2
  ·have e':¬ q.1=k:=fun z=>e (h1.trans z)
   have b:valueAt (q::qs) k=valueAt qs k:=by simp[valueAt,List.find?_cons,e']
   rw[Quw e,b];exact ih
theorem KV.any{kvs:List (κ×V)}{vs:List (κ×Value)}(r:KV kvs vs)(k:κ):(kvs.any fun kv=>decide (kv.1=k))=vs.any fun kv=>decide (kv.1=k):=by
 unfold KV at r
 induction r with
 | nil=>rfl
 | cons h t ih=>rw[List.any_cons,List.any_cons,ih,h.1]
theorem KV.repl{kvs:List (κ×V)}{vs:List (κ×Value)}(r:KV kvs vs)(k:κ){y:V}{u:Value}(ry:RelV y u):
 KV (kvs.map fun kv=>if kv.1=k then(kv.1,y) else kv) (vs.map fun kv=>if kv.1=k then(kv.1,u) else kv):=by
 unfold KV at r ⊢
 induction r with
 | nil=>exact .nil
 | @cons p q ps qs h t ih=>
  rw[List.map_cons,List.map_cons]
  refine .cons ?_ ih
  obtain⟨h1,h2⟩:=h
  by_cases e:p.1=k
  ·rw[if_pos e,if_pos (h1.symm.trans e)];exact⟨h1,ry⟩
  ·rw[if_neg e,if_neg (fun z=>e (h1.trans z))];exact⟨h1,h2⟩
theorem KV.put{kvs:List (κ×V)}{vs:List (κ×Value)}(r:KV kvs vs)(k:κ){y:V}{u:Value}(ry:RelV y u):KV (putK kvs k y) (stored vs k u):=by
 unfold putK stored
 rw[r.any k]
 by_cases e:(vs.any fun kv=>decide (kv.1=k))=true
 ·rw[if_pos e,if_pos e];exact r.repl k ry
 ·rw[if_neg e,if_neg e];exact Paired.snoc r ⟨rfl,ry⟩
theorem KV.length{kvs:List (κ×V)}{vs:List (κ×Value)}(r:KV kvs vs):kvs.length=vs.length:=Paired.length r
end
theorem kV_is{P:Program}{w:World}{k:Key}{u:Value}(r:RelV (kV k) u):(Qcb P w).is k u=true:=by
 cases k with
 | inl i=>obtain⟨t,e⟩:=(show ∃ t,u=Value.int i t from r);subst e;exact QEE P w i t
 | inr x=>obtain⟨t,e⟩:=(show ∃ t,u=Value.str x t from r);subst e;exact QGj P w x t
theorem Qzf{P:Program}{w:World}:∀{ks:List Key}{us:List Value},Vals (ks.map kV) us->ItemsAre (Qcb P w) ks us
 | [],_,r=>by rw[List.map_nil]at r;cases r;exact .nil
 | k::ks,_,r=>by
  rw[List.map_cons]at r
  cases r with
  | cons h t=>exact .cons (kV_is h) (Qzf t)
abbrev KT(H:Hp):List (List Key×V)->List (List Key×Addr×Value)->Prop:=Paired fun p q=>p.1=q.1/\H q.2.1=some (.tup (p.1.map kV))/\RelV p.2 q.2.2
theorem KT.val{H:Hp}{kvs:List (List Key×V)}{xs:List (List Key×Addr×Value)}(r:KT H kvs xs)(k:List Key):RelO (valV kvs k) ((atKey xs k).map (·.2)):=by
 induction r with
 | nil=>exact True.intro
 | @cons p q ps qs h t ih=>
  obtain⟨h1,_,h2⟩:=h
  by_cases e:p.1=k
  ·have e':q.1=k:=h1.symm.trans e
   have b:atKey (q::qs) k=some q.2:=by simp[atKey,List.find?_cons,e']
   rw[Que e,b];exact h2
  ·have e':¬ q.1=k:=fun z=>e (h1.trans z)
   have b:atKey (q::qs) k=atKey qs k:=by simp[atKey,List.find?_cons,e']
   rw[Quw e,b];exact ih
theorem KT.repl{H:Hp}{kvs:List (List Key×V)}{xs:List (List Key×Addr×Value)}(r:KT H kvs xs)(k:List Key){y:V}{u:Value}(ry:RelV y u):
 KT H (kvs.map fun kv=>if kv.1=k then(kv.1,y) else kv) (xs.map (putAt k u)):=by
 induction r with
 | nil=>exact .nil
 | @cons p q ps qs h t ih=>
  rw[List.map_cons,List.map_cons]
  refine .cons ?_ ih
  obtain⟨h1,h2,h3⟩:=h
  unfold putAt
  by_cases e:p.1=k
  ·rw[if_pos e,if_pos (h1.symm.trans e)];exact⟨h1,h2,ry⟩
  ·rw[if_neg e,if_neg (fun z=>e (h1.trans z))];exact⟨h1,h2,h3⟩
theorem KT.put{H:Hp}{kvs:List (List Key×V)}{xs:List (List Key×Addr×Value)}(r:KT H kvs xs)(k:List Key){b:Addr}{y:V}{u:Value}(hb:H b=some (.tup (k.map kV)))(ry:RelV y u):
 KT H (putK kvs k y) (storedH xs k b u):=by
 have e:(kvs.any fun kv=>decide (kv.1=k))=(atKey xs k).isSome:=by
  rw[QBC,(r.val k).isSome_eq,Option.isSome_map]
 unfold putK storedH
 rw[e]
 by_cases q:(atKey xs k).isSome=true
 ·rw[if_pos q,if_pos q];exact r.repl k ry
 ·rw[if_neg q,if_neg q];exact Paired.snoc r ⟨rfl,hb,ry⟩
theorem KT.keeps{H H':Hp}{kvs:List (List Key×V)}{xs:List (List Key×Addr×Value)}(r:KT H kvs xs)(ht:∀ b ys,H b=some (.tup ys)->H' b=some (.tup ys)):KT H' kvs xs:=
 Paired.mapP r fun _ _ z=>⟨z.1,ht _ _ z.2.1,z.2.2⟩
section
variable{P:Program}{w:World}{H:Hp}{h:Heap}{a:Addr}
theorem rd_of{u:HO}(ok:HOk P w H h)(e:Rd H a u):ObjOk P w H h a u:=e.ok ok
theorem dk_rd{kvs:List (Key×V)}(ok:HOk P w H h)(e:Rd H a (.dK kvs)):kvs.length<=sizeLine/\(a == sysModules)=false/\∃ vs,KV kvs vs/\h.DictOf (Qcb P w) a vs:=
 show ObjOk P w H h a (.dK kvs) from rd_of ok e
theorem dk_of{kvs:List (Key×V)}(ok:HOk P w H h)(e:H a=some (.dK kvs)):kvs.length<=sizeLine/\(a == sysModules)=false/\∃ vs,KV kvs vs/\h.DictOf (Qcb P w) a vs:=dk_rd ok (.inl e)
theorem Qv5{ks:List Key}(ok:HOk P w H h)(e:H a=some (.tup (ks.map kV))):(tupleKind (Qcb P w)).is h ks a:=by
 obtain⟨_,its,r,o,h1,h2,n,h3⟩:=(show ObjOk P w H h a (.tup (ks.map kV)) from ok a _ e)
 exact⟨o,its.toArray,n,h1,h2,h3,by simpa using Qzf r⟩
theorem dt_rd{kvs:List (List Key×V)}(ok:HOk P w H h)(e:Rd H a (.dT kvs)):kvs.length<=sizeLine/\(a == sysModules)=false/\
 ∃ xs,KT H kvs xs/\h.DictOfH (tupleKind (Qcb P w)) a xs:=by
 obtain⟨z,y,xs,r,o,es,ep,h1,h2,h3,h4,h5⟩:=(show ObjOk P w H h a (.dT kvs) from rd_of ok e)
 refine⟨z,y,xs,r,o,es,ep,h1,h2,h3,h4,fun x hx=>?_,h5⟩
 have all:∀{l:List (List Key×V)}{m:List (List Key×Addr×Value)},KT H l m->∀ x∈m,(tupleKind (Qcb P w)).is h x.1 x.2.1:=by
  intro l m q
  induction q with
  | nil=>intro x hx;exact nomatch hx
  | @cons p q ps qs hq t ih=>
   intro x hx
   rcases List.mem_cons.mp hx with e | hx
   ·subst e
    exact Qv5 ok (by rw[← hq.1];exact hq.2.1)
   ·exact ih x hx
 exact all r x hx
theorem dt_of{kvs:List (List Key×V)}(ok:HOk P w H h)(e:H a=some (.dT kvs)):kvs.length<=sizeLine/\(a == sysModules)=false/\
 ∃ xs,KT H kvs xs/\h.DictOfH (tupleKind (Qcb P w)) a xs:=dt_rd ok (.inl e)
end
def DGet(H:Hp)(a:Addr)(y:V)(r:Option V):Prop:=
 (∃ kvs k,Rd H a (.dK kvs)/\y=kV k/\r=valV kvs k)∨∃ kvs k b,Rd H a (.dT kvs)/\y=.ref b/\H b=some (.tup (k.map kV))/\r=valV kvs k
def DPut(H:Hp)(a:Addr)(y v:V)(H':Hp):Prop:=
 (∃ kvs k,H a=some (.dK kvs)/\y=kV k/\kvs.length<sizeLine/\H'=upd H a (.dK (putK kvs k v)))∨
 ∃ kvs k b,H a=some (.dT kvs)/\y=.ref b/\H b=some (.tup (k.map kV))/\kvs.length<sizeLine/\H'=upd H a (.dT (putK kvs k v))
theorem DGet.k{H:Hp}{a:Addr}{kvs:List (Key×V)}{k:Key}(e:H a=some (.dK kvs)):DGet H a (kV k) (valV kvs k):=.inl ⟨kvs,k,.inl e,rfl,rfl⟩
theorem DGet.t{H:Hp}{a b:Addr}{kvs:List (List Key×V)}{k:List Key}(e:H a=some (.dT kvs))(eb:H b=some (.tup (k.map kV))):DGet H a (.ref b) (valV kvs k):=.inr ⟨kvs,k,b,.inl e,rfl,eb,rfl⟩
theorem DPut.k{H:Hp}{a:Addr}{kvs:List (Key×V)}{k:Key}{v:V}(e:H a=some (.dK kvs))(hl:kvs.length<sizeLine):DPut H a (kV k) v (upd H a (.dK (putK kvs k v))):=.inl ⟨kvs,k,e,rfl,hl,rfl⟩
theorem DPut.t{H:Hp}{a b:Addr}{kvs:List (List Key×V)}{k:List Key}{v:V}(e:H a=some (.dT kvs))(eb:H b=some (.tup (k.map kV)))(hl:kvs.length<sizeLine):
 DPut H a (.ref b) v (upd H a (.dT (putK kvs k v))):=.inr ⟨kvs,k,b,e,rfl,eb,hl,rfl⟩
section
variable{X:Cx}{pins:List (Addr×Obj)}{σ:St}{H:Hp}{s:Shared}{a:Addr}{y v:V}{u r:Value}{o:Option V}{A:Around}{E:Value->Shared->Prop}
theorem QKF{Q:Value->Shared->Prop}(hu:A.units+1<cLine)(I:Inv X pins σ H s)(g:DGet H a y (some v))(ry:RelV y u)(h:∀ w' s',Inv X pins σ H s'->RelV v w'->Q w' s'):
 wpAny (model X.prog X.w) A (getItem (.ref a) u) Q E s:=by
 rcases g with⟨kvs,k,e,ey,l⟩ | ⟨kvs,k,b,e,ey,eb,l⟩
 ·subst ey
  obtain⟨z,hd,vs,rel,dd⟩:=dk_rd I.hok e
  obtain⟨w',hw,rw'⟩:=RelO.some_of (v:=v) (o:=valueAt vs k) (by rw[l];exact rel.val k)
  exact wpAny_getItem_of (kV_is ry) dd.mapOf hw (h w' _ (I.tok _) rw')
 ·subst ey
  cases (show u=Value.ref b from ry)
  obtain⟨z,hd,xs,rel,dd⟩:=dt_rd I.hok e
  obtain⟨w',hw,rw'⟩:=RelO.some_of (v:=v) (o:=(atKey xs k).map (·.2)) (by rw[l];exact rel.val k)
  obtain⟨p,hp,hp2⟩:=Option.map_eq_some_iff.mp hw
  refine wpAny_getItem_heap (tupleKind_room_in1 hu) (Qv5 I.hok eb) dd hp ?_
  rw[hp2]
  exact h w' _ (I.tok _) rw'
theorem QHf{h':Heap}{t':Nat}{ob:HO}(I:Inv X pins σ H s)(mu:Mut (H a))(hs:Heap.SameBut a s.heap h')(he:∃ q,h'.get? a=some q)(new:ObjOk X.prog X.w (upd H a ob) h' a ob):
 Inv X pins σ (upd H a ob) { s with heap:=h',toks:=t' }:=
 I.write (x:=a) (e:=a) mu (.inl rfl) (fun b q hb z=>(hs.2 b hb).trans z) he new
theorem QN4{P:Program}{w:World}{H':Hp}{h':Heap}{kvs:List (Key×V)}{vs:List (Key×Value)}(z:kvs.length<=sizeLine)(hd:(a == sysModules)=false)(rel:KV kvs vs)(dd:h'.DictOf (Qcb P w) a vs):
 ObjOk P w H' h' a (.dK kvs):=⟨z,hd,vs,rel,dd⟩
theorem QKm{H':Hp}{Q:Unit->Shared->Prop}(hu:A.units+1<cLine)(I:Inv X pins σ H s)(g:DPut H a y v H')(ry:RelV y u)(rv:RelV v r)(h:∀ s',Inv X pins σ H' s'->Q () s'):
 wpAny (model X.prog X.w) A (setItem (.ref a) u r) Q E s:=by
 rcases g with⟨kvs,k,e,ey,l,eH⟩ | ⟨kvs,k,b,e,ey,eb,l,eH⟩
 ·subst ey eH
  obtain⟨z,hd,vs,rel,dd⟩:=dk_of I.hok e
  have hz:vs.length<=sizeLine:=by rw[← rel.length];exact z
  have hl:(putK kvs k v).length<=sizeLine:=by have:=QtE kvs k v;omega
  refine wpAny_setItem_pairs (hsz:=hz) (kV_is ry) dd fun h' dd' hs=>h _ ?_
  have he:∃ q,h'.get? a=some q:=let ⟨q,_,_,hq,_⟩:=dd';⟨q,hq⟩
  exact QHf I (by rw[e];exact True.intro) hs he (QN4 hl hd (rel.put k rv) dd')
 ·subst ey eH
  cases (show u=Value.ref b from ry)
  obtain⟨z,hd,xs,rel,dd⟩:=dt_of I.hok e
  have hz:xs.length<=sizeLine:=by rw[← Paired.length rel];exact z
  have hl:(putK kvs k v).length<=sizeLine:=by have:=QtE kvs k v;omega
  refine wpAny_setItem_heap (hsz:=hz) (tupleKind_room_in1 hu) (Qv5 I.hok eb) dd fun h' dd' hs=>h _ ?_
  obtain⟨q,es,ep,hq,h2,h3,h4,_,h5⟩:=dd'
  refine QHf I (by rw[e];exact True.intro) hs ⟨q,hq⟩ ⟨hl,hd,_,(rel.put k eb rv).keeps fun c ys ec=>?_,q,es,ep,hq,h2,h3,h4,h5⟩
  rw[Qk (ne_of ec e (fun z=>nomatch z))]
  exact ec
end
section
variable{X:Cx}{pins:List (Addr×Obj)}{σ:St}{H:Hp}{s:Shared}{a:Addr}{kvs:List (Key×V)}{k:Key}{u:Value}{A:Around}{E:Value->Shared->Prop}
end
def NoSl(i:Expr):Prop:=∀ ov iv,subscripted i false ov iv=operate [ov,iv] (getItem ov iv)
theorem QN0{prog:Program}{w:World}{A:Around}{E:Value->Shared->Prop}{s:Shared}{env:Env}{value slice:Expr}{pos:Pos}{T id:String}{Q:Value->Shared->Prop}
 (hl:typeLookup (.type T) "__getitem__"=pure (some (.builtin id))) (hs:NoSl slice)
 (h:wpAny (model prog w) A (eval value env) (fun o s₁=>wpAny (model prog w) A (eval slice env) (fun i s₂ => s₂.TypeIs o T/\wpAny (model prog w) A (getItem o i) Q E s₂) E s₁) E s):
 wpAny (model prog w) A (eval (.Subscript value slice pos) env) Q E s:=by
 refine Subscript_ (wpAny_mono h (fun o s₁ h₁=>wpAny_mono h₁ (fun i s₂ h₂ => ?_) fun _ _ x=>x) fun _ _ x=>x)
 obtain⟨hT,h₂⟩:=h₂
 unfold subscriptTail
 refine wpAny_bind ?_
 rw[getitemInPython_of_ne hT.not_modules]
 refine wpAny_bind (wpAny_specialOf hT hl ?_)
 have fin:wpAny (model prog w) A (subscripted slice false o i) (fun r s₃ => wpAny (model prog w) A (letTemporaryGo value o r>>=fun _=>pure r) Q E s₃) E s₂ := by
  rw[hs o i]
  exact wpAny_operating (wpAny_mono h₂ (fun r s₃ h₃ => wpAny_bind (wpAny_letTemporaryGo (wpAny_pure h₃))) fun _ _ x=>x)
 first
  | exact wpAny_pure (wpAny_bind fin)
  | exact wpAny_bind (wpAny_pure (wpAny_bind fin))
  | exact wpAny_bind fin
theorem QE2{X:Cx}{pins:List (Addr×Obj)}{σ:St}{H:Hp}{s:Shared}{a:Addr}{y:V}{o:Option V}(I:Inv X pins σ H s)(g:DGet H a y o):s.TypeIs (.ref a) "dict":=by
 rcases g with⟨kvs,k,e,_,_⟩ | ⟨kvs,k,b,e,_,_,_⟩
 ·obtain⟨_,_,vs,_,dd⟩:=dk_rd I.hok e
  exact dd.typeIs
 ·obtain⟨_,_,xs,_,dd⟩:=dt_rd I.hok e
  exact dd.typeIs
def tDGet(td ty:TE):TE:=fun σ H Q=>td σ H fun x H1=>ty σ H1 fun y H2=>∃ a v,x=.ref a/\DGet H2 a y (some v)/\Q v H2
def sDPut(td ty tv:TE):TS:=fun D σ H=>tv σ H fun v H1=>td σ H1 fun x H2=>ty σ H2 fun y H3=>∃ a H4,x=.ref a/\DPut H3 a y v H4/\D.nx σ H4
section
variable{X:Cx}{o i e value:Expr}{pos pos' tpos:Pos}{td ty tv:TE}
theorem QNk(hu:X.A.units+1<cLine)(ho:PE X o td)(hi:PE X i ty)(hs:NoSl i):PE X (.Subscript o i pos) (tDGet td ty):=by
 intro pins s σ H Q I h
 refine QN0 PySem.F.slot_dict_getitem.lookup hs (thn (ho pins s σ H _ I h) fun u s1 ⟨x,H1,I1,rx,q1⟩=>thn (hi pins s1 σ H1 _ I1 q1) fun iv s2 ⟨y,H2,I2,ry,a,v,ex,g,q2⟩=>?_)
 subst ex
 obtain rfl:u=Value.ref a:=rx
 exact⟨QE2 I2 g,QKF hu I2 g ry fun w' s3 I3 rw'=>⟨v,H2,I3,rw',q2⟩⟩
theorem QNA(hu:X.A.units+1<cLine)(ho:PE X o td)(hi:PE X i ty)(hv:PE X value tv)(hs:swapsWith value (some (.Subscript o i pos')) pos.line X.env=pure false):
 PS X (.Assign [.Subscript o i pos'] value pos) (sDPut td ty tv):=by
 intro pins s σ H D I h
 refine wpAny_Assign_Subscript (thn (hv pins s σ H _ I h) fun r s1 ⟨v,H1,I1,rv,q1⟩=>thn (ho pins s1 σ H1 _ I1 q1) fun u s2 ⟨x,H2,I2,rx,q2⟩=>thn (hi pins s2 σ H2 _ I2 q2) fun iv s3 ⟨y,H3,I3,ry,a,H4,ex,g,q3⟩=>?_) hs
 subst ex
 obtain rfl:u=Value.ref a:=rx
 exact QKm hu I3 g ry rv fun s4 I4=>⟨σ,H4,I4,q3⟩
end
section
variable{X:Cx}{pos:Pos}
end
structure M1(X:Cx)(o:Expr)(m:Str)(apos:Pos)(e:Expr)(cpos:Pos):Prop where
 base:attributeBase o m X.env (eval o X.env)=eval o X.env
 few:((backTo cpos (starEach [e] X.env)).all (fun x => !x.1)&&(backToKw cpos (keywordEach [] X.env)).all (fun x=>x.1.isSome)
  && decide (([e]:List Expr).length+([]:List Keyword).length+(if ([]:List Keyword).isEmpty then 0 else 1)<30))=true
 line:(apos.endLine == cpos.line)=true
 trees:backTo cpos (starEach [e] X.env)=[(false,eval e X.env)]
def IsD(H:Hp)(a:Addr):Prop:=(∃ kvs,Rd H a (.dK kvs))∨∃ kvs,Rd H a (.dT kvs)
theorem QOc{X:Cx}{pins:List (Addr×Obj)}{σ:St}{H:Hp}{s:Shared}{a:Addr}(I:Inv X pins σ H s)(d:IsD H a):
 s.TypeIs (.ref a) "dict"/\(∀ b,Value.ref a=.ref b->∃ ob,s.heap.get? b=some ob/\ob.dict=none)/\(a == sysModules)=false:=by
 rcases d with⟨kvs,e⟩ | ⟨kvs,e⟩
 ·obtain⟨_,hd,vs,_,dd⟩:=dk_rd I.hok e
  refine⟨dd.typeIs,fun b q=>?_,hd⟩
  cases q
  obtain⟨ob,_,_,h1,h2,_⟩:=dd
  exact⟨ob,h1,h2.2.1⟩
 ·obtain⟨_,hd,xs,_,dd⟩:=dt_rd I.hok e
  refine⟨dd.typeIs,fun b q=>?_,hd⟩
  cases q
  obtain⟨ob,_,_,h1,h2,_⟩:=dd
  exact⟨ob,h1,h2.2.1⟩
section
variable{X:Cx}{pins:List (Addr×Obj)}{σ:St}{H:Hp}{s:Shared}{a:Addr}{y d:V}{u r:Value}{o:Option V}{A:Around}{E:Value->Shared->Prop}
theorem QPl{Q:Value->Shared->Prop}(hu:A.units+1<cLine)(I:Inv X pins σ H s)(g:DGet H a y o)(ry:RelV y u)(h:∀ w' s',Inv X pins σ H s'->RelV (o.getD .non) w'->Q w' s'):
 wpAny (model X.prog X.w) A (call (.builtin "dict.get") [.ref a,u]) Q E s:=by
 rcases g with⟨kvs,k,e,ey,l⟩ | ⟨kvs,k,b,e,ey,eb,l⟩
 ·subst ey
  obtain⟨z,hd,vs,rel,dd⟩:=dk_rd I.hok e
  refine call_meetsIn PySem.F.slot_dict_get dd.typeIs PySem.F.entry_dict_get (PySem.F.args_dict_get_2 _ _) (meets_dict_get (Qcb X.prog X.w) a (kV_is ry) hd) ⟨_,dd.mapOf,h _ _ (I.tok _) ?_⟩
  rw[l]
  exact(rel.val k).getD rfl
 ·subst ey
  cases (show u=Value.ref b from ry)
  obtain⟨z,hd,xs,rel,dd⟩:=dt_rd I.hok e
  refine call_meetsIn PySem.F.slot_dict_get dd.typeIs PySem.F.entry_dict_get (PySem.F.args_dict_get_2 _ _) (meetsH_dict_get (tupleKind (Qcb X.prog X.w)) a b hd) ⟨tupleKind_room_in1 hu,k,xs,Qv5 I.hok eb,dd,h _ _ (I.tok _) ?_⟩
  rw[l]
  exact(rel.val k).getD rfl
end
def QPa(td ty:TE):TE:=fun σ H Q=>td σ H fun x H1=>∃ a,x=.ref a/\IsD H1 a/\ty σ H1 fun y H2=>∃ o,DGet H2 a y o/\Q (o.getD .non) H2
section
variable{X:Cx}{o e f:Expr}{apos cpos:Pos}{td ty tx:TE}
theorem QLH(hu:X.A.units+1<cLine)(ho:PE X o td)(he:PE X e ty)(m:M1 X o "get" apos e cpos):PE X (.Call (.Attribute o "get" apos) [e] [] cpos) (QPa td ty):=by
 intro pins s σ H Q I h
 refine wpAny_Call_method m.base m.few m.line PySem.F.plainAttrs_dict PySem.F.slot_dict_get PySem.F.type_dict_get (thn (ho pins s σ H _ I h) fun u s1 ⟨x,H1,I1,rx,a,ex,d,q1⟩=>?_)
 subst ex
 obtain rfl:u=Value.ref a:=rx
 obtain⟨t1,t2,_⟩:=QOc I1 d
 refine⟨t1,t2,?_⟩
 rw[m.trees]
 refine Calls.callWith_builtin rfl (Calls.evalArgs_plain (Calls.spliced_cons (thn (he pins s1 σ H1 _ I1 q1) fun iv s2 ⟨y,H2,I2,ry,ov,g,q2⟩=>Calls.spliced_nil ?_)))
 exact QPl hu I2 g ry fun w' s3 I3 rw'=>⟨_,H2,I3,rw',q2⟩
end
section
variable{X:Cx}{pins:List (Addr×Obj)}{σ:St}{H:Hp}{s:Shared}{a:Addr}{kvs:List (Key×V)}{A:Around}{E:Value->Shared->Prop}
end
section
variable{X:Cx}{pins:List (Addr×Obj)}{σ:St}{H:Hp}{s:Shared}{a:Addr}{y:V}{u:Value}{A:Around}{E:Value->Shared->Prop}
end
end L2
namespace L2
open PySem PySem.Spec PyProof.Rows
structure FlyS(P:Program)(w:World)(l:List Env)(H:Hp)(s:Shared)(ea C t:Addr)(H':Hp)(B:Heap)(s':Shared):Prop where
 os:s'.os=s.os
 bare:AllBare s'.gens
 un:Un (frs l) [] H H' s.heap s'.heap
 kb:∀ b o,s.heap.get? b=some o->H b=none->b∉frs l->B.get? b=some o
 th:∀ b o,s.heap.get? b=some o->b∉frs l->∃ o',B.get? b=some o'
 hok:HOk P w H' B
 fly:Heap.FlyingW B l ea (.ref C) (.ref t) s'.heap
def CXR(P:Program)(w:World):CXT:=fun l H s E e s'=>∃ ea C t H' B,e=.ref ea/\FlyS P w l H s ea C t H' B s'/\E (.ref C) none H'
section
variable{P:Program}{w:World}{l:List Env}{H H':Hp}{s s':Shared}{ea C t:Addr}{B h':Heap}
end
section
variable{X:Cx}{pins:List (Addr×Obj)}{σ:St}{H1:Hp}{s1:Shared}{E:XK}{ea C:Addr}{vs:List Value}{h':Heap}{Ex:Value->Shared->Prop}{M:Model}
theorem QkR(I:Inv X pins σ H1 s1):∀ b o,X.s₀.heap.get? b=some o->b∉X.fs->b∉frs X.stack:=fun b o e hb z=>by
 rcases List.mem_cons.mp (I.stkSub b z) with q | q
 ·have:=Heap.lt_size e
  rw[q]at this
  exact absurd (Nat.lt_of_lt_of_le this I.ok.above) (Nat.lt_irrefl _)
 ·exact hb q
theorem QNX(I:Inv X pins σ H1 s1):HOk X.prog X.w H1 (PySem.W.hideAll s1.heap (frs X.stack)):=fun a o e=>
 (I.hok a o e).stay (fun b u hb q=>PySem.W.hideAll_get _ q fun z=>by
  have:=I.stkFree b z
  rcases hb with rfl | hb
  ·rw[this]at e;cases e
  ·rw[this]at hb;cases hb) (fun _ q=>q) fun _ _ q=>q
theorem QG3(I:Inv X pins σ H1 s1):∀ b∈X.fs,∀ o,X.s₀.heap.get? b=some o->∀ vs,o.data≠.fields vs:=fun b hb o e=>by
 obtain⟨_,o',h1,h2⟩:=I.ok.funs.mem hb
 rw[e]at h1;cases h1
 exact h2
theorem QHZ(I:Inv X pins σ H1 s1)(hst:X.stack=X.env::X.outer)(hfr:X.env.frame=some X.env.locals)(hex:X.ex=[])(hx:Heap.MadeExcOf s1.heap h' ea (.ref C) vs)(hE:E (.ref C) none H1):
 wpAny M X.A (leaving X.env (.ref ea)) (fun _ s''=>CXR X.prog X.w X.outer X.H₀ X.s₀ E (.ref ea) s'') Ex { s1 with heap:=h' }:=by
 have hin:∀ env∈X.stack,∀ b,env.frame=some b->b∈frs X.stack:=fun env he b hb=>List.mem_filterMap.mpr ⟨env,he,hb⟩
 have st:=I.stack
 refine wpAny_leaves_madeW (base:=PySem.W.hideAll s1.heap (frs X.stack)) (h:=s1.heap) (env:=X.env) (outer:=X.outer) (by rw[← hst];exact I.ok.frames) hfr (fun b o q=>PySem.W.of_hideAll _ q)
  (by rw[← hst];exact PySem.W.funFrames_hide st hin) hx fun h2 t fl tp nt up=>?_
 have nx:∀ b:Addr,b∉X.ex:=fun b z=>by rw[hex]at z;cases z
 have kbB:∀ b o,X.s₀.heap.get? b=some o->X.H₀ b=none->b∉X.fs->(PySem.W.hideAll s1.heap (frs X.stack)).get? b=some o:=fun b o e n hb=>PySem.W.hideAll_get _ (I.base.keep b o e n hb (nx b)) (QkR I b o e hb)
 have thB:∀ b o,X.s₀.heap.get? b=some o->b∉X.fs->∃ o',(PySem.W.hideAll s1.heap (frs X.stack)).get? b=some o':=fun b o e hb=>by
  obtain⟨o',q⟩:=I.base.there b o e (nx b)
  exact⟨o',PySem.W.hideAll_get _ q (QkR I b o e hb)⟩
 have slot:∀ b o,X.s₀.heap.get? b=some o->X.H₀ b=none->b∈X.fs->∃ sl,h2.get? b=some { o with slots:=sl }:=fun b o e n hb=>by
  obtain⟨sl,q⟩:=I.base.slot b o e n hb (nx b)
  obtain⟨sl2,q2⟩:=up b _ (hx.keeps _ _ q) (QG3 I b hb o e)
  exact⟨sl2,q2⟩
 refine⟨ea,C,t,H1,_,rfl,⟨I.os,I.bare,⟨fun b o e n hb _=>fl.1 b o (kbB b o e n hb),fun b o e n hb _=>slot b o e n hb,fun b o e n _=>I.base.free b o e n (nx b),fun b o e _=>?_,I.base.tups,I.base.frzs,I.base.tbls⟩,kbB,thB,QNX I,fl⟩,hE⟩
 by_cases hb:b∈X.fs
 ·obtain⟨sl,q⟩:=slot b o e (I.ok.frf b hb) hb
  exact⟨_,q⟩
 ·obtain⟨o',q⟩:=thB b o e hb
  exact⟨o',fl.1 b o' q⟩
theorem QLY{s':Shared}{e:Value}(I:Inv X pins σ H1 s1)(hst:X.stack=X.env::X.outer)(hfr:X.env.frame=some X.env.locals)(hex:X.ex=[])(h:CXR X.prog X.w X.stack H1 s1 E e s'):
 wpAny M X.A (leaving X.env e) (fun _ s''=>CXR X.prog X.w X.outer X.H₀ X.s₀ E e s'') Ex s':=by
 obtain⟨ea,C,t,H',B,rfl,F,hE⟩:=h
 have fl:=F.fly
 rw[hst]at fl
 refine wpAny_leaves_onW (by rw[← hst];exact I.ok.frames) hfr fl fun h2 fl2 up=>?_
 have nx:∀ b:Addr,b∉X.ex:=fun b z=>by rw[hex]at z;cases z
 have nn:∀ b:Addr,b∉([]:List Addr):=fun b z=>by cases z
 have kbB:∀ b o,X.s₀.heap.get? b=some o->X.H₀ b=none->b∉X.fs->B.get? b=some o:=fun b o e n hb=>
  F.kb b o (I.base.keep b o e n hb (nx b)) (I.base.free b o e n (nx b)) (QkR I b o e hb)
 have thB:∀ b o,X.s₀.heap.get? b=some o->b∉X.fs->∃ o',B.get? b=some o':=fun b o e hb=>by
  obtain⟨o',q⟩:=I.base.there b o e (nx b)
  exact F.th b o' q (QkR I b o e hb)
 have slot:∀ b o,X.s₀.heap.get? b=some o->X.H₀ b=none->b∈X.fs->∃ sl,h2.get? b=some { o with slots:=sl }:=fun b o e n hb=>by
  obtain⟨sl,q⟩:=I.base.slot b o e n hb (nx b)
  have hs:b∈frs X.stack:=by
   rw[hst]
   obtain⟨env,h1,h2⟩:=List.mem_filterMap.mp hb
   exact List.mem_filterMap.mpr ⟨env,List.mem_cons_of_mem _ h1,h2⟩
  obtain⟨sl1,q1⟩:=F.un.slot b _ q (I.base.free b o e n (nx b)) hs (nn b)
  obtain⟨sl2,q2⟩:=up b _ q1 (QG3 I b hb o e)
  exact⟨sl2,q2⟩
 refine⟨ea,C,t,H',B,rfl,⟨F.os.trans I.os,F.bare,⟨fun b o e n hb _=>fl2.1 b o (kbB b o e n hb),fun b o e n hb _=>slot b o e n hb,fun b o e n _=>?_,fun b o e _=>?_,fun b xs e=>F.un.tups b xs (I.base.tups b xs e),fun b o u e=>F.un.frzs b o u (I.base.frzs b o u e),fun b ps e=>?_⟩,kbB,thB,F.hok,fl2⟩,hE⟩
 ·obtain⟨o',q⟩:∃ o',s1.heap.get? b=some o':=I.base.there b o e (nx b)
  exact F.un.free b o' q (I.base.free b o e n (nx b)) (nn b)
 ·by_cases hb:b∈X.fs
  ·obtain⟨sl,q⟩:=slot b o e (I.ok.frf b hb) hb
   exact⟨_,q⟩
  ·obtain⟨o',q⟩:=thB b o e hb
   exact⟨o',fl2.1 b o' q⟩
 ·obtain⟨m1,q1⟩:=I.base.tbls b ps e
  obtain⟨m2,q2⟩:=F.un.tbls b _ q1
  exact⟨m1++m2,by rw[q2,Array.append_assoc]⟩
end
section
variable{P:Program}{w:World}{K:PySem.W.Frag}{mg:Str->Option Value}{base:Heap}{N:List Str}{qual:Str}{scope:Scope}{f:Addr}{cd:Value}{A:Around}{outer:List Env}{s:Shared}{H:Hp}{E:XK}
theorem passR:Qhp (CXR P w) (cxOf (CXR P w) P w K mg base N qual scope f cd A outer s H E) E:=fun pins σ H1 s1 e s' I h=>QLY I rfl rfl rfl h
end
end L2
namespace L2
open PySem PySem.Spec PyProof.Rows
section
variable{X:Cx}{C:Addr}{E:XK}{x:Str}{e₀:Expr}{rest:List Expr}{ta:TA}{np cpos pos:Pos}
end
end L2
namespace L2
open PySem PySem.Spec PyProof.Rows
def exO(ea C:Addr):HO:=.ext fun h=>∃ o vs,h.get? ea=some o/\o.cls=.ref C/\o.data=.fields vs
section
variable{X:Cx}{pins:List (Addr×Obj)}{σ:St}{H H':Hp}{s s':Shared}{ea C t:Addr}{B:Heap}
end
section
variable{X:Cx}{pins:List (Addr×Obj)}{σ:St}{H H':Hp}{s s':Shared}{ea C DD t:Addr}{B:Heap}{x n:Str}{np hpos:Pos}{b₀:Stmt}{suite:List Stmt}{rest:List ExceptHandler}{D:Ends}{Ex:Value->Shared->Prop}{i:Nat}{ts:TS}
end
end L2
namespace L2
open PySem PySem.Spec PyProof.Rows
abbrev TXS:=Ends->St->Hp->(St->XK)->Prop
section
variable{X:Cx}{k:Nat}{f:Addr}{fd:FuncData}{ps:List Str}{sp:Sp}{dvs:List V}{ds:List Value}{x:Str}{p pos:Pos}{e:Expr}{es:List Expr}{ta:TA}
theorem PA.nox{es:List Expr}{t:TA}(h:PA X.nox es t){pos:Pos}{pins:List (Addr×Obj)}{s:Shared}{σ:St}{H:Hp}{Q:List V->Hp->Prop}{E:Value->Shared->Prop}(I:Inv X pins σ H s)(q:t σ H Q):
 wpAny (model X.prog X.w) X.A (spliced (backTo pos (starEach es X.env))) (AP X pins σ Q) E s:=
 wpAny_mono (h pos pins s σ H Q (I.wish _) q) (fun _ _ ⟨v,H',I',r,q⟩=>⟨v,H',I'.unwish,r,q⟩) fun _ _ z=>False.elim z
variable{t u:TXS}{te:TX}{st:Stmt}{rest:List Stmt}{i:Nat}{px:Pos}
end
end L2
namespace L2
open PySem PySem.Spec PyProof.Rows
def ExAt(x D:Addr)(h:Heap):Prop:=∃ o vs,h.get? x=some o/\o.cls=.ref D/\o.data=.fields vs
section
open PySem.W PySem.Calls Builtin Builtin.ObjectAttr Builtin.Getset_descriptor
variable{K:PySem.W.Frag}{x D:Addr}
theorem Qpa{M:Model}{h:Heap}(I:ExAt x D h):Looks M h (typeOf (.ref x)) (.ref D):=by
 obtain⟨o,vs,h1,h2,_⟩:=I
 exact h2 ▸ (Looks.ld h1).andThen .now
theorem QvP{M:Model}{h:Heap}(X:K.In h){name:Str}{a g:Value}(ha:findIn K (.ref D) name=some (some a))(hg:specialIn K a "__get__"=some (some g))(ht:takesIn K a=some true):
 Looks M h (find (.ref x) (.ref D) name) (.bind g a):=by
 have L1:=looks_findIn (M:=M) X ha
 have L2:Looks M h (getOf (some a)) (some g):=looks_specialIn X hg
 have L3:=looks_takesIn (M:=M) X ht
 exact L1.andThen (L2.andThen ((show Looks M h (dataDescriptor? (some a) (some g)) (some (g,a)) from L3.andThen .now).andThen (Looks.tag .now)))
variable{prog:Program}{w:World}{A:Around}{E:Value->Shared->Prop}{s:Shared}{name:Str}
theorem QMA{M:Model}{nameV:Value}{Q:Unit->Shared->Prop}(X:K.In s.heap)(I:ExAt x D s.heap)(hb:mroIn K D (.type "BaseException")=some true)(hq:Q () s):wpAny M A (checkBuiltinCall "BaseException.__getattribute__" ⟨[.ref x,nameV],[]⟩) Q E s:=by
 obtain⟨hh,g,dr,t,os⟩:=s
 have hk:builtinKind "BaseException.__getattribute__"=some .slot:=dk
 have hsplit:splitId "BaseException.__getattribute__"=some ("BaseException","__getattribute__"):=dk
 have L0:=Qpa (M:=M) I
 have L1:=looks_mroIn (M:=M) X hb
 have ha:=F.args_bexc_ga (.ref x) nameV
 simp only[checkBuiltinCall,hk,hsplit]
 refine wpAny_bind ?_
 unfold isInstance
 repeat (first | lk | wp_step)
 exact hq
theorem QPq{R:Result->Shared->Prop}{tp:Value}(X:K.In s.heap)(I:ExAt x D s.heap)(hm:mroIn K D (.type "object")=some true)
 (h:R (.ok (.ret (.ref D))) s):codeAny (model prog w) A (.call (.builtin "getset_descriptor.__get__") ⟨[.builtin "object.__class__",.ref x,tp],[]⟩) R s:=by
 obtain⟨hh,g,dr,t,os⟩:=s
 have L0:=Qpa (M:=model prog w) I
 have L1:=looks_mroIn (M:=model prog w) X hm
 refine codeAny_call_builtin KF.slot_gs.plain KF.entry_gs (KF.slot_gs.check _ _ _ _ _ _ _ _ KF.type_class (KF.args_gs _ _ _) ?_)
 unfold Builtin.«getset_descriptor.__get__» descrGet
 rw[dga_obj]
 refine wpAny_bind (wpAny_pure ?_)
 unfold descrGetter descrCheckInstance descrNameAndClass isInstance
 simp only[KF.owner_class]
 repeat lk
 refine⟨Code.quiet_builtin _ (dk),codeAny_builtin KF.entry_class ?_⟩
 unfold Builtin.«object.__class__» shownTypeOf
 repeat lk
 exact h
theorem QMb{g a:Value}{tk:Tok}{Q:Fin->Shared->Prop}(X:K.In s.heap)(I:ExAt x D s.heap)(ha:findIn K (.ref D) "__class__"=some (some (.builtin "object.__class__")))
 (hn:specialIn K (.builtin "object.__class__") "__get__"=some (some (.builtin "getset_descriptor.__get__"))) (ht:takesIn K (.builtin "object.__class__")=some true) (hm:mroIn K D (.type "object")=some true)
 (hq:Q (.done (.ret (.ref D))) s):wpAny (model prog w) A (Builtin.«object.__getattribute__» ⟨[.ref x,.str "__class__" tk],[]⟩) Q E s:=by
 have L3:=QvP (x:=x) (M:=model prog w) X ha hn ht
 have L0:=Qpa (M:=model prog w) I
 obtain⟨hh,gg,d,t,os⟩:=s
 refine wpAny_bind (wpAny_pure ?_)
 refine wpAny_bind (wpAny_pure (wpAny_bind (L0.at (wpAny_bind (L3.at ?_)))))
 show wpAny _ _ (holding [_] (call (.builtin "getset_descriptor.__get__") [.builtin "object.__class__",.ref x,.ref D])>>=ret) _ _ _
 exact wpAny_bind (wpAny_holding (wpAny_call (QPq (s:=⟨hh,gg,d,t,os⟩) X I hm (wpAny_pure hq))))
theorem QNa{Q:Option Value->Shared->Prop}(X:K.In s.heap)(I:ExAt x D s.heap)(g1:findIn K (.ref D) "__getattribute__"=some (some (.builtin "BaseException.__getattribute__")))(hb:mroIn K D (.type "BaseException")=some true)
 (g2:findIn K (.ref D) "__getattr__"=some none) (ha:findIn K (.ref D) "__class__"=some (some (.builtin "object.__class__")))
 (hn:specialIn K (.builtin "object.__class__") "__get__"=some (some (.builtin "getset_descriptor.__get__"))) (ht:takesIn K (.builtin "object.__class__")=some true) (hm:mroIn K D (.type "object")=some true)
 (h:Q (some (.ref D)) { s with toks:=s.toks+1 }):wpAny (model prog w) A (getAttr? (.ref x) "__class__") Q E s:=by
 obtain⟨hh,g,d,t,os⟩:=s
 have L0:=Qpa (M:=model prog w) I
 have L1:=looks_findIn (M:=model prog w) X g1
 have L2:=looks_findIn (M:=model prog w) X g2
 have f3:=PySem.F.attr_ValueError.ga.bind (.ref x)
 have hx2:(Value.builtin "BaseException.__getattribute__" == Value.builtin "object.__getattribute__")=false:=dk
 have hx1:(onTheHeap (Value.ref D)&&Value.builtin "BaseException.__getattribute__" == Value.builtin "object.__getattribute__")=false:=by rw[hx2];rfl
 unfold getAttr? getAttrBy? getAttrBy
 refine wpAny_bind (wpAny_mkText (wpAny_bind (wpAny_attempt (wpAny_holding (wpAny_bind (L0.at (wpAny_bind (L1.at ?_))))))))
 show wpAny _ _ (if (onTheHeap (Value.ref D)&&Value.builtin "BaseException.__getattribute__" == Value.builtin "object.__getattribute__")=true then _ else getAttrByItsOwn _ _ _ _ _ _) _ _ _
 rw[hx1,if_neg (by decide)]
 unfold getAttrByItsOwn
 refine wpAny_bind ?_
 show wpAny _ _ (typeLookup (.ref D) "__getattr__") _ _ _
 refine L2.at ?_
 refine wpAny_bind (wpAny_attempt ?_)
 refine wpAny_holding ?_
 show wpAny _ _ (boundAndCalled (.builtin "BaseException.__getattribute__") (.ref x) _) _ _ _
 unfold boundAndCalled
 refine wpAny_bind (wpAny_of_eq f3 ?_)
 refine wpAny_call (codeAny_call_builtin PySem.F.attr_ValueError.ga.plain F.entry_bexc_ga (QMA (s:=⟨hh,g,d,t+1,os⟩) X I hb (QMb (g:=.none) (a:=.none) (s:=⟨hh,g,d,t+1,os⟩) X I ha hn ht hm ?_)))
 show wpAny _ _ (handedOut (.ref D)) _ _ _
 exact handed_on rfl (wpAny_pure h)
structure ExCls(K:PySem.W.Frag)(D:Addr):Prop where
 cl:(clsIn K D).isSome=true
 g1:findIn K (.ref D) "__getattribute__"=some (some (.builtin "BaseException.__getattribute__"))
 hb:mroIn K D (.type "BaseException")=some true
 g2:findIn K (.ref D) "__getattr__"=some none
 ha:findIn K (.ref D) "__class__"=some (some (.builtin "object.__class__"))
 hn:specialIn K (.builtin "object.__class__") "__get__"=some (some (.builtin "getset_descriptor.__get__"))
 htk:takesIn K (.builtin "object.__class__")=some true
 hm:mroIn K D (.type "object")=some true
theorem QMr(e:ExCls K D):KitX K (.ref x) (.ref D) (ExAt x D) where
 ty:=fun _ _ _ I=>Qpa I
 it:=fun _ _ X _=>by
  obtain⟨cdD,hcD⟩:=Option.isSome_iff_exists.mp e.cl
  unfold clsIn at hcD
  split at hcD
  ·rename_i c' d' cd' sl' ho
   intro A' Q' E' s' k q
   unfold isType loadHead
   exact wpAny_bind (wpAny_loadPart (k _ _ (X _ _ ho)) (wpAny_pure q))
  ·cases hcD
 ne:=fun h tp dd its n sl X htp=>by
  obtain⟨cdD,hcD⟩:=Option.isSome_iff_exists.mp e.cl
  refine Bool.eq_false_iff.mpr fun q=>?_
  have e:D=tp:=Value.ref.inj (beq_iff_eq.mp q)
  subst e
  unfold clsIn at hcD
  split at hcD
  ·rename_i c' d' cd' sl' ho
   have z:=(X _ _ ho).symm.trans htp
   cases z
  ·cases hcD
 ca:=fun X I k=>QNa X I e.g1 e.hb e.g2 e.ha e.hn e.htk e.hm k
end
end L2
set_option maxHeartbeats 1000000
namespace L2
open PySem PySem.Spec PyProof.Rows
section
variable{prog:Program}{w:World}{A:Around}{R:Result->Shared->Prop}{s:Shared}
theorem QCc{elt target iter:Expr}{ifs:List Expr}{scope:Scope}{pos:Pos}{it acc:Value}{env:Env}(I:Nat->Shared->Prop)(NB:Value->Shared->Prop)(hNB:∀ e s',NB e s'->notedBy (model prog w) A env (fun e s'=>R (.error e) s') e s')
 (turn:∀ n s,I n s->wpAny (model prog w) A (pyNext it) (fun r s₁=>match r with
  | none=>R (.ok .next) s₁
  | some v=>wpAny (model prog w) A (letOwnedTupleGo target it v) (fun _ s₁'=>wpAny (model prog w) A (assign target env v) (fun _ s₂ =>
   wpAny (model prog w) A (forIn ifs true fun c r=>if r=true then do let ok ← isTrue c env (eval c env);pure (ForInStep.yield ok) else pure (ForInStep.yield r)) (fun ok s₃ =>
    if ok=true then wpAny (model prog w) A (eval elt env) (fun x s₄ =>
     wpAny (model prog w) A (call (.builtin "list.append") [acc,x]) (fun _ s₅ => ∃ m,m<n/\I m s₅) NB s₄) NB s₃
    else ∃ m,m<n/\I m s₃) NB s₂) NB s₁') NB s₁) NB s)
 (n:Nat) (h:I n s):
 codeAny (model prog w) A (.compLoop (.ListComp elt [⟨target,iter,ifs,0⟩] scope pos) 0 it acc env) R s:=by
 refine codeAny_loop rfl I (fun n s hI=>?_) n h
 show wpAny _ A ((compTurn (.ListComp elt [⟨target,iter,ifs,0⟩] scope pos) 0 it acc env).onRaise (fun x=>do noteFrame x env;theTreesLotGoes x)) _ _ s
 refine wpAny_noted ?_
 rw[compTurn_list]
 refine wpAny_bind (wpAny_standAt (wpAny_bind (wpAny_mono (turn n s hI) (fun r s₁ h₁=>?_) hNB)))
 cases r with
 | none=>exact wpAny_pure h₁
 | some v=>
  refine wpAny_bind (wpAny_mono h₁ (fun _ s₁' h₁'=>?_) hNB)
  refine wpAny_bind (wpAny_mono h₁' (fun _ s₂ h₂ => wpAny_bind (wpAny_mono h₂ (fun ok s₃ h₃ => ?_) hNB)) hNB)
  cases ok with
  | false=>exact wpAny_pure ⟨rfl,h₃⟩
  | true=>
   exact wpAny_bind (wpAny_bind (wpAny_mono h₃ (fun x s₄ h₄ => wpAny_bind (wpAny_mono h₄ (fun _ s₅ h₅ => wpAny_pure (wpAny_pure ⟨rfl,h₅⟩)) hNB)) hNB))
end
def Qf(scope outer:Scope):Scope:=
 { scope with names:=scope.names.map fun(n,k)=>if (k == .free&&outer.kind == .function&&outer.names.lookup n == some .cell) then(n,.cell) else(n,k) }
theorem Qo1(c:Str->NameKind->Bool)(x:Str):∀ names:List (Str×NameKind),(names.map fun(n,k)=>if c n k=true then(n,NameKind.cell) else(n,k)).lookup x=(names.lookup x).map fun k=>if c x k=true then NameKind.cell else k
 | []=>rfl
 | (n,k)::r=>by
  have ih:=Qo1 c x r
  show List.lookup x ((if c n k=true then(n,NameKind.cell) else(n,k))::_)=_
  by_cases hx:x=n
  ·subst hx
   by_cases hc:c x k=true
   ·rw[if_pos hc,List.lookup_cons_self,List.lookup_cons_self];simp[hc]
   ·rw[if_neg hc,List.lookup_cons_self,List.lookup_cons_self];simp[hc]
  ·have hb:(x == n)=false:=by simpa using hx
   by_cases hc:c n k=true
   ·rw[if_pos hc,List.lookup_cons,List.lookup_cons,hb];exact ih
   ·rw[if_neg hc,List.lookup_cons,List.lookup_cons,hb];exact ih
theorem QmD(scope outer:Scope)(x:Str):(Qf scope outer).names.lookup x=(scope.names.lookup x).map fun k=>if (k == .free&&outer.kind == .function&&outer.names.lookup x == some .cell)=true then NameKind.cell else k:=
 Qo1 (fun n k=>k == .free&&outer.kind == .function&&outer.names.lookup n == some .cell) x scope.names
theorem QAH{scope outer:Scope}{x:Str}(h:scope.names.lookup x=some .free):(Qf scope outer).names.lookup x=some .cell∨(Qf scope outer).names.lookup x=some .free:=by
 rw[QmD,h]
 show some (if _ then _ else _)=_∨some (if _ then _ else _)=_
 split
 ·exact .inl rfl
 ·exact .inr rfl
theorem QAG{scope outer:Scope}{x:Str}(h:(Qf scope outer).names.lookup x=some .cell∨(Qf scope outer).names.lookup x=some .free):scope.names.lookup x=some .cell∨scope.names.lookup x=some .free:=by
 rw[QmD]at h
 cases e:scope.names.lookup x with
 | none=>rw[e]at h;rcases h with h | h<;>cases h
 | some k=>
  rw[e]at h
  cases k with
  | free=>exact .inr rfl
  | cell=>exact .inl rfl
  | _=>rcases h with h | h<;>cases h
def Qby(env:Env):List (Str×NameKind)->List (Str×Addr)->List (Str×Addr)
 | [],acc=>acc
 | (n,k)::r,acc=>if (k == .free)=true then Qby env r ((n,(env.cells.lookup n).getD 0)::acc) else Qby env r acc
theorem QwF{scope:Scope}{env:Env}(h:∀ y∈scope.names,y.2=.free->(env.cells.lookup y.1).isSome=true):closureFor scope env=pure (Qby env scope.names []):=by
 have go:∀(names:List (Str×NameKind))(acc:List (Str×Addr)),(∀ y∈names,y.2=.free->(env.cells.lookup y.1).isSome=true)->
  (forIn names acc fun x r=>if (x.2 == NameKind.free)=true then(cellOf env x.1>>=fun a=>pure (ForInStep.yield ((x.1,a)::r))) else pure (ForInStep.yield r):Sem (List (Str×Addr)))=pure (Qby env names acc):=by
  intro names
  induction names with
  | nil=>intro acc _;rfl
  | cons y r ih=>
   intro acc hy
   obtain⟨n,k⟩:=y
   rw[List.forIn_cons]
   unfold Qby
   by_cases hk:(k == NameKind.free)=true
   ·obtain⟨c,hc⟩:=Option.isSome_iff_exists.mp (hy (n,k) List.mem_cons_self (beq_iff_eq.mp hk))
    have e:cellOf env n=pure c:=by unfold cellOf;rw[show env.cells.lookup n=some c from hc]
    simp only[hk,if_true,e]
    rw[show(env.cells.lookup n).getD 0=c from by rw[show env.cells.lookup n=some c from hc];rfl]
    exact ih _ fun y hm=>hy y (List.mem_cons_of_mem _ hm)
   ·simp only[hk]
    exact ih _ fun y hm=>hy y (List.mem_cons_of_mem _ hm)
 have e:=go scope.names [] h
 unfold closureFor
 exact congrArg (fun m=>m>>=fun s=>(pure s:Sem (List (Str×Addr)))) e
theorem QkQ{env:Env}{p:Str×Addr}:∀{names:List (Str×NameKind)}{acc:List (Str×Addr)},p∈Qby env names acc->p∈acc∨p.2=(env.cells.lookup p.1).getD 0/\∃ y∈names,y.1=p.1/\y.2=.free
 | [],_,h=>.inl h
 | (n,k)::r,acc,h=>by
  unfold Qby at h
  split at h
  ·rename_i hk
   rcases QkQ h with h | ⟨h,y,hy,e⟩
   ·rcases List.mem_cons.mp h with h | h
    ·subst h;exact .inr ⟨rfl,(n,k),List.mem_cons_self,rfl,beq_iff_eq.mp hk⟩
    ·exact .inl h
   ·exact .inr ⟨h,y,List.mem_cons_of_mem _ hy,e⟩
  ·rcases QkQ h with h | ⟨h,y,hy,e⟩
   ·exact .inl h
   ·exact .inr ⟨h,y,List.mem_cons_of_mem _ hy,e⟩
theorem Qk4{env:Env}{x:Str}:∀{names:List (Str×NameKind)}{acc:List (Str×Addr)},(acc.lookup x).isSome=true∨(∃ y∈names,y.1=x/\y.2=.free)->((Qby env names acc).lookup x).isSome=true
 | [],_,h=>h.elim id fun⟨_,hy,_⟩=>nomatch hy
 | (n,k)::r,acc,h=>by
  unfold Qby
  split
  ·rename_i hk
   refine Qk4 ?_
   rcases h with h | ⟨y,hy,e1,e2⟩
   ·refine .inl ?_
    rw[List.lookup_cons]
    split
    ·rfl
    ·exact h
   ·rcases List.mem_cons.mp hy with rfl | hy
    ·refine .inl ?_
     have e1:n=x:=e1
     subst e1
     rw[List.lookup_cons_self];rfl
    ·exact .inr ⟨y,hy,e1,e2⟩
  ·rename_i hk
   refine Qk4 ?_
   rcases h with h | ⟨y,hy,e1,e2⟩
   ·exact .inl h
   ·rcases List.mem_cons.mp hy with rfl | hy
    ·have e2:k=.free:=e2
     subst e2
     exact absurd rfl hk
    ·exact .inr ⟨y,hy,e1,e2⟩
theorem Qcz{α:Type}{l:List (Str×α)}{x:Str}{c:α}(h:l.lookup x=some c):(x,c)∈l:=PySem.mem_of_lookup h
theorem Qwz{p:Str×Addr}:∀{names:List (Str×NameKind)}{n:Nat}{acc:List (Str×Addr)},p∈cellsFrom n names acc->p∈acc∨n<=p.2
 | [],_,_,h=>.inl h
 | (y,k)::r,n,acc,h=>by
  unfold cellsFrom at h
  split at h
  ·rcases Qwz h with h | h
   ·rcases List.mem_cons.mp h with h | h
    ·subst h;exact .inr (Nat.le_refl _)
    ·exact .inl h
   ·exact .inr (Nat.le_of_succ_le h)
  ·exact Qwz h
theorem QCi:∀{names:List (Str×NameKind)}{n:Nat}{acc:List (Str×Addr)},(∀ p∈acc,p.2<n)->(∀ p∈acc,∀ q∈acc,p.2=q.2->p.1=q.1)->∀ p∈cellsFrom n names acc,∀ q∈cellsFrom n names acc,p.2=q.2->p.1=q.1
 | [],_,_,_,h=>h
 | (y,k)::r,n,acc,hl,hi=>by
  unfold cellsFrom
  split
  ·refine QCi (fun p hp=>?_) fun p hp q hq e=>?_
   ·rcases List.mem_cons.mp hp with rfl | hp
    ·exact Nat.lt_succ_self _
    ·exact Nat.lt_succ_of_lt (hl p hp)
   ·rcases List.mem_cons.mp hp with rfl | hp<;>rcases List.mem_cons.mp hq with rfl | hq
    ·rfl
    ·exact absurd e (Nat.ne_of_gt (hl q hq))
    ·exact absurd e (Nat.ne_of_lt (hl p hp))
    ·exact hi p hp q hq e
  ·exact QCi hl hi
theorem QwQ:∀{names:List (Str×NameKind)}{h:Heap}{acc:List (Str×Addr)},(∀ p∈acc,∃ v,h.IsCell p.2 v)->∀ p∈cellsFrom h.objs.size names acc,∃ v,(pushCells h names).IsCell p.2 v
 | [],_,_,h=>h
 | (y,k)::r,h,acc,hc=>by
  unfold cellsFrom pushCells
  split
  ·have:=QwQ (names:=r) (h:=h.push { cls:=.type "cell",data:=.cell none }) (acc:=(y,h.objs.size)::acc) fun p hp=>by
    rcases List.mem_cons.mp hp with rfl | hp
    ·exact⟨none,_,Heap.get?_push_size _ rfl,rfl⟩
    ·obtain⟨v,q⟩:=hc p hp
     exact⟨v,q.keeps fun b o e=>Heap.get?_push_of_some _ e⟩
   rwa [Heap.size_push]at this
  ·exact QwQ hc
theorem QyG{x:Str}:∀{names:List (Str×NameKind)}{n:Nat}{acc:List (Str×Addr)},(∀ y∈names,y.1=x->y.2=.free)->(cellsFrom n names acc).lookup x=acc.lookup x
 | [],_,_,_=>rfl
 | (y,k)::r,n,acc,h=>by
  unfold cellsFrom
  split
  ·rename_i hk
   rw[QyG fun z hz=>h z (List.mem_cons_of_mem _ hz),List.lookup_cons]
   split
   ·rename_i hb
    have hx:x=y:=beq_iff_eq.mp hb
    have:=h (y,k) List.mem_cons_self hx.symm
    have this:k=.free:=this
    subst this
    exact absurd hk (by decide)
   ·rfl
  ·exact QyG fun z hz=>h z (List.mem_cons_of_mem _ hz)
def QDR(scope:Scope)(cl:List (Str×Addr))(L:Addr)(env:Env):Env:=
 { scope:=Qf scope env.scope,locals:=L,globals:=env.globals,cells:=cellsFrom (L+1) scope.names cl,qual:=env.qual,func:=none,code:=env.code,frame:=env.frame,builtins:=env.builtins }
theorem QNu{M:Model}{A:Around}{E:Value->Shared->Prop}{s:Shared}{scope:Scope}{cl:List (Str×Addr)}{env:Env}{Q:Env->Shared->Prop}
 (h:∀ c,{ c with scope:=relabel scope env }=QDR scope cl s.heap.objs.size env->c.locals=s.heap.objs.size->Q c { s with heap:=pushCells (s.heap.push { cls:=.type "dict",data:=.dict #[] }) scope.names }):
 wpAny M A (newFunctionEnv scope env.globals cl [] env.qual none .none (some env)) Q E s:=by
 simp only[newFunctionEnv,Option.isSome_some,if_true]
 refine wpAny_bind (wpAny_alloc ?_)
 refine wpAny_bind (wpAny_layCells _ (fun name kind cells=>by cases hkc:kind == NameKind.cell<;>simp[hkc]) _ _ _ _ ?_)
 rw[show({ s with heap:=s.heap.push { cls:=.type "dict",data:=.dict #[] } }:Shared).heap.objs.size=s.heap.objs.size+1 from Heap.size_push ..]
 refine wpAny_bind (wpAny_pure (wpAny_pure (h _ ?_ rfl)))
 rfl
def capt(js:List (Option Nat))(σ:St):St:=js.map fun j=>j.bind fun j=>(σ[j]?).join
structure QD(N':List Str)(js:List (Option Nat))(scope outer:Scope)(N:List Str):Prop where
 kind:scope.kind=.function
 uniq:∀ y∈scope.names,scope.names.lookup y.1=some y.2
 nd:N'.Nodup
 len:js.length=N'.length
 free:∀ y∈scope.names,y.2=.free->outer.names.lookup y.1=some .cell∨outer.names.lookup y.1=some .free
 cap:((N'.zip js).all fun p=>match p.2 with
  | none=>true
  | some j=>decide (N[j]?=some p.1)&&decide (scope.names.lookup p.1=some .free))=true
theorem QD.capOf{N':List Str}{js:List (Option Nat)}{scope outer:Scope}{N:List Str}(S:QD N' js scope outer N){i j:Nat}{x:Str}(h1:N'[i]?=some x)(h2:js[i]?=some (some j)):
 N[j]?=some x/\scope.names.lookup x=some .free/\∀ y∈scope.names,y.1=x->y.2=.free:=by
 have h:=List.all_eq_true.mp S.cap (x,some j) (by
  refine List.mem_of_getElem? (i:=i) ?_
  rw[List.getElem?_zip_eq_some]
  exact⟨h1,h2⟩)
 simp only[Bool.and_eq_true,decide_eq_true_eq]at h
 exact⟨h.1,h.2,fun y hy e=>by
  have:=S.uniq y hy
  rw[e,h.2]at this
  exact(Option.some.inj this).symm⟩
theorem QD.names{N':List Str}{js:List (Option Nat)}{scope outer:Scope}{N:List Str}(S:QD N' js scope outer N):∀ y∈scope.names,y.2=.local->scope.names.lookup y.1=some .local:=fun y hy e=>by
 rw[S.uniq y hy,e]
def cxC(X:Cx)(N':List Str)(scope:Scope)(fp:List Addr)(s:Shared)(H:Hp):Cx:=
 { X with N:=N',s₀:=s,H₀:=H,env:=QDR scope (Qby X.env scope.names []) s.heap.objs.size X.env,outer:=X.stack,ex:=fp,
          fn:=fun x=>match scope.names.lookup x with | some .cell=>true | _=>false,pn:=[],xe:=fun _ _=>False }
theorem QL4{X:Cx}{N':List Str}{js:List (Option Nat)}{scope:Scope}{pins:List (Addr×Obj)}{σ:St}{H:Hp}{s:Shared}{fp:List Addr}(S:QD N' js scope X.env.scope X.N)(I:Inv X pins σ H s)(hf:∀ b∈fp,FpOk X pins H b)
 (hlt:∀ b∈fp,b<s.heap.objs.size):
 Inv (cxC X N' scope fp s H) [] (capt js σ) H { s with heap:=pushCells (s.heap.push { cls:=.type "dict",data:=.dict #[] }) scope.names }:=by
 have hk:∀ b o,s.heap.get? b=some o->(pushCells (s.heap.push { cls:=.type "dict",data:=.dict #[] }) scope.names).get? b=some o:=fun b o e=>pushCells_keeps _ _ b o (Heap.get?_push_of_some _ e)
 have sz:(s.heap.push { cls:=.type "dict",data:=.dict #[] }).objs.size=s.heap.objs.size+1:=Heap.size_push ..
 -- captured cells stand in the outer frame
 have out:∀ x,(∃ y∈scope.names,y.1=x/\y.2=.free)->∃ c,X.env.cells.lookup x=some c:=fun x ⟨y,hy,e1,e2⟩=>by
  subst e1
  exact I.ok.has y.1 (S.free y hy e2)
 have clm:∀ p∈Qby X.env scope.names [],X.env.cells.lookup p.1=some p.2:=fun p hp=>by
  rcases QkQ hp with h | ⟨h,hy⟩
  ·cases h
  ·obtain⟨c,hc⟩:=out p.1 hy
   rw[hc]at h ⊢
   rw[h];rfl
 have cllt:∀ p∈Qby X.env scope.names [],p.2<s.heap.objs.size:=fun p hp=>by
  obtain⟨v,q⟩:=I.cell p.1 p.2 (clm p hp)
  exact q.lt
 have cin:∀ x c,(cellsFrom (s.heap.objs.size+1) scope.names (Qby X.env scope.names [])).lookup x=some c->X.env.cells.lookup x=some c∨s.heap.objs.size+1<=c:=fun x c e=>by
  rcases Qwz (Qcz e) with h | h
  ·exact .inl (clm _ h)
  ·exact .inr h
 have capL:∀ x,scope.names.lookup x=some .free->(∀ y∈scope.names,y.1=x->y.2=.free)->(cellsFrom (s.heap.objs.size+1) scope.names (Qby X.env scope.names [])).lookup x=X.env.cells.lookup x:=fun x hx hy=>by
  rw[QyG hy]
  have hs:=Qk4 (env:=X.env) (x:=x) (names:=scope.names) (acc:=[]) (.inr ⟨_,Qcz hx,rfl,rfl⟩)
  obtain⟨c,hc⟩:=Option.isSome_iff_exists.mp hs
  rw[hc,clm _ (Qcz hc)]
 refine⟨⟨I.ok.mod,S.kind,I.ok.glob,I.ok.blt,Nat.le_refl _,fun x y c h1 h2=>?_,fun x hx=>?_,fun x c hx h=>?_,I.ok.hd,I.ok.frames,.inl rfl,fun b hb=>?_,I.bs,Nat.le_trans I.ok.bsz I.sz,fun b o e hb=>?_,fun b hb hz=>?_,I.stack,I.stkFree⟩,
  rfl,I.bare,Un.kept hk,?_,fun x c h=>?_,I.hok.fresh (Nat.le_refl _),fun x c h=>?_,fun p hp=>absurd (show p∈([]:List (Addr×Obj)) from hp) (by simp),I.hok.kept hk,?_⟩
 ·refine QCi (names:=scope.names) (n:=s.heap.objs.size+1) (acc:=Qby X.env scope.names []) (fun p hp=>Nat.lt_succ_of_lt (cllt p hp)) (fun p hp q hq e=>?_) (x,c) (Qcz h1) (y,c) (Qcz h2) rfl
  have a:=clm p hp
  have b:=clm q hq
  rw[← e]at b
  exact I.ok.inj _ _ _ a b
 ·have hx':=QAG (show(Qf scope X.env.scope).names.lookup x=some .cell∨_ from hx)
  refine Option.isSome_iff_exists.mp (PySem.W.cellsFrom_some scope.names _ _ ?_)
  rcases hx' with h | h
  ·exact .inl h
  ·exact .inr (Qk4 (.inr ⟨_,Qcz h,rfl,rfl⟩))
 ·rcases Qwz (Qcz h) with hm | hm
  ·-- an own cell's name is captured too: its first entry is the own one
   have hx':scope.names.lookup x=some .cell:=by
    have hx2:(match scope.names.lookup x with | some .cell=>true | _=>false)=true:=hx
    split at hx2
    ·assumption
    ·cases hx2
   rcases QkQ hm with q | ⟨_,y,hy,e1,e2⟩
   ·cases q
   ·have:=S.uniq y hy
    have e1:y.1=x:=e1
    rw[e1,hx',e2]at this
    cases this
  ·exact Nat.le_of_succ_le hm
 ·refine⟨Nat.ne_of_lt (hlt b hb),fun x c h e=>?_⟩
  rcases cin x c h with q | q
  ·exact(hf b hb).2.2.2.2.1 x c q e
  ·have:=hlt b hb
   rw[← e]at this
   exact absurd (Nat.lt_of_lt_of_le this (Nat.le_of_succ_le q)) (Nat.lt_irrefl _)
 ·rcases(hf b hb).2.2.2.1 with z | z
  ·exact I.ok.noex b o e z
  ·exact absurd (Nat.lt_of_lt_of_le (Heap.lt_size (I.ok.bs b o e).1) z) (Nat.lt_irrefl _)
 ·rcases List.mem_cons.mp (I.stkSub b hz) with e | e
  ·exact(hf b hb).2.1 e
  ·exact(hf b hb).2.2.1 e
 ·obtain⟨m,hn,hl⟩:=I.loc
  refine⟨fun _=>none,(Heap.Ns.new s.heap (.type "dict")).keeps (pushCells_keeps _ _),fun i x v h1 h2 h3=>?_⟩
  have h2':((js[i]?).map fun j=>j.bind fun j=>(σ[j]?).join)=some (some v):=by
   unfold capt at h2
   rw[List.getElem?_map]at h2
   exact h2
  cases e:js[i]? with
  | none=>rw[e]at h2';cases h2'
  | some o=>
   rw[e]at h2'
   cases o with
   | none=>cases h2'
   | some j=>
    have h4:(σ[j]?).join=some v:=Option.some.inj h2'
    have h5:σ[j]?=some (some v):=by
     cases z:σ[j]? with
     | none=>rw[z]at h4;cases h4
     | some o=>rw[z]at h4;have h4:o=some v:=h4;rw[h4]
    obtain⟨hN,hx,hy⟩:=S.capOf h1 e
    have hvis:=S.free _ (Qcz hx) rfl
    obtain⟨u,r,lk⟩:=hl j x v hN h5 (.inr hvis)
    refine⟨u,r,.inr ⟨QAH hx,?_⟩⟩
    rcases lk with⟨k,_⟩ | ⟨_,c,hc,z⟩
    ·have k:X.env.scope.names.lookup x=some .local:=k
     rcases hvis with q | q
     ·rw[k]at q;cases q
     ·rw[k]at q;cases q
    ·exact⟨c,(capL x hx hy).trans hc,z.keeps hk⟩
 ·have:=QwQ (names:=scope.names) (h:=s.heap.push { cls:=.type "dict",data:=.dict #[] }) (acc:=Qby X.env scope.names []) (fun p hp=>by
   obtain⟨v,q⟩:=I.cell p.1 p.2 (clm p hp)
   exact⟨v,q.keeps fun b o e=>Heap.get?_push_of_some _ e⟩) (x,c) (by rw[sz];exact Qcz h)
  exact this
 ·rcases cin x c h with q | q
  ·exact I.freeC x c q
  ·exact I.hok.fresh (Nat.le_of_succ_le q)
 ·show(js.map _).length=N'.length
  rw[List.length_map];exact S.len
def eMax(X:Cx)(e:Expr):TE:=fun σ H Q=>∃ t,PE X e t/\t σ H Q
theorem QPj{X:Cx}{e:Expr}:PE X e (eMax X e):=fun pins s σ H Q I ⟨t,ht,h⟩=>ht pins s σ H Q I h
def gMax(X:Cx)(e:Expr):TG:=fun v σ H Q=>∃ t,PG X e t/\t v σ H Q
theorem QPb{X:Cx}{e:Expr}:PG X e (gMax X e):=fun pins s σ H v u Q I r ⟨t,ht,h⟩=>ht pins s σ H v u Q I r h
def PIf(X:Cx)(ifs:List Expr)(tc:TT):Prop:=(ifs=[]/\tc=fun _ H Q=>Q true H)∨∃ c,ifs=[c]/\PT X c tc
theorem QMK{X:Cx}:PIf X [] (fun _ H Q=>Q true H):=.inl ⟨rfl,rfl⟩
theorem QM0{X:Cx}{c:Expr}{tc:TT}(h:PT X c tc):PIf X [c] tc:=.inr ⟨c,rfl,h⟩
theorem PIf.run{X:Cx}{ifs:List Expr}{tc:TT}(h:PIf X ifs tc){pins:List (Addr×Obj)}{s:Shared}{σ:St}{H:Hp}{Q:Bool->Hp->Prop}(I:Inv X pins σ H s)(q:tc σ H Q):
 wpAny (model X.prog X.w) X.A (forIn ifs true fun c r=>if r=true then do let ok ← isTrue c X.env (eval c X.env);pure (ForInStep.yield ok) else pure (ForInStep.yield r)) (TP X pins σ Q) X.xe s:=by
 rcases h with⟨rfl,rfl⟩ | ⟨c,rfl,h⟩
 ·exact wpAny_tests_nil ⟨H,I,q⟩
 ·exact wpAny_tests_one (h pins s σ H Q I q)
def cMax(X:Cx)(ifs:List Expr):TT:=fun σ H Q=>∃ t,PIf X ifs t/\t σ H Q
def CompW(X':Cx)(js:List (Option Nat))(tg elt:Expr)(ifs:List Expr)(σ:St)(H1:Hp)(J:It)(p:Addr)(Q:VK):Prop:=
 ∃ W:Nat->Nat->St->Hp->Prop,(∃ m,W 0 m (capt js σ) (upd H1 p (.lst [])))/\∀ i m τ H',W i m τ H'->
 (J.stop i H'/\Q (.ref p) H')∨(J.go i H'/\∃ N:St->Hp->Prop,(∀ τ' H'',N τ' H''->∃ m',m'<m/\W (i+1) m' τ' H'')/\∀ x H'',J.yld i H' x H''->gMax X' tg x τ H'' fun τ2 H2=>cMax X' ifs τ2 H2 fun b H3=>
  if b=true then eMax X' elt τ2 H3 fun y H4=>∃ ys,H4 p=some (.lst ys)/\ys.length<sizeLine/\N τ2 (upd H4 p (.lst (ys++[y]))) else N τ2 H3)
def tComp(X:Cx)(N':List Str)(js:List (Option Nat))(scope:Scope)(tg elt:Expr)(ifs:List Expr)(wi:TI):TE:=fun σ H Q=>wi σ H fun J H1=>∀ p,H1 p=none->∀ fp s,
 CompW (cxC X N' scope fp s (upd H1 p (.lst []))) js tg elt ifs σ H1 J p Q
section
variable{X:Cx}{N':List Str}{js:List (Option Nat)}{scope:Scope}{tg iter elt:Expr}{ifs:List Expr}{wi:TI}{pos:Pos}
theorem Qv3{pins:List (Addr×Obj)}{σ:St}{H:Hp}{s:Shared}{R:V->Hp->Prop}{E:Value->Shared->Prop}(hc:X.calm=true)(S:QD N' js scope X.env.scope X.N)
 {it:Addr} {fp:List Addr} {tn:Nat->Heap->Prop} {J:It} (I2:Inv X pins σ H s) (T:Turn X.prog X.w X.K tg J fp it tn) (st:tn 0 s.heap) (hf:∀ b∈fp,FpOk X pins H b)
 (hW:∀ p,H p=none->∀ fp s,CompW (cxC X N' scope fp s (upd H p (.lst []))) js tg elt ifs σ H J p R)
 {RR:Value->Addr->Result->Shared->Prop}
 (hRR:∀(D C:Addr)(s':Shared)(H':Hp),Inv X pins σ H' s'->(∃ m,s'.heap.Ns C m)->H' C=none->C≠X.env.locals->X.s₀.heap.objs.size<=C->(∀ x c,X.env.cells.lookup x=some c->c≠C)->(∀ p∈X.pn++pins,p.1≠C)->R (.ref D) H'->RR (.ref D) C (.ok .next) s'):
 wpAny (model X.prog X.w) X.A (newList []) (fun acc s₃ => wpAny (model X.prog X.w) X.A (newFunctionEnv scope X.env.globals (Qby X.env scope.names []) [] X.env.qual none .none (some X.env)) (fun cenv s₄ =>
  codeAny (model X.prog X.w) X.A (.compStart (.ListComp elt [⟨tg,iter,ifs,0⟩] scope pos) 0 (.ref it) acc { cenv with scope:=relabel scope X.env }) (RR acc cenv.locals) s₄) E s₃) E s:=by
 refine wpAny_newObj_type ?_
 have hfresh:H s.heap.objs.size=none:=I2.hok.fresh (Nat.le_refl _)
 have I3:Inv X pins σ (upd H s.heap.objs.size (.lst [])) { s with heap:=s.heap.push { cls:=.type "list",data:=.seq ([]:List Value).toArray } }:=I2.lnew (t':=s.toks) .nil (Nat.zero_le _)
 generalize hs3:({ s with heap:=s.heap.push { cls:=.type "list",data:=.seq ([]:List Value).toArray } }:Shared)=s3 at I3 ⊢
 have hsz3:s3.heap.objs.size=s.heap.objs.size+1:=by rw[← hs3];exact Heap.size_push ..
 have hk3:∀ b o,s.heap.get? b=some o->s3.heap.get? b=some o:=fun b o e=>by rw[← hs3];exact Heap.get?_push_of_some _ e
 have flt:∀ b∈fp,b<s.heap.objs.size:=fun b hb=>by
  obtain⟨o,e,_⟩:=T.obj _ _ st b hb
  exact Heap.lt_size e
 have hf3:∀ b∈fp,FpOk X pins (upd H s.heap.objs.size (.lst [])) b:=fun b hb=>⟨by rw[Qk (Nat.ne_of_lt (flt b hb))];exact(hf b hb).1,(hf b hb).2⟩
 have st3:tn 0 s3.heap:=T.keep _ _ _ st fun b _ o e=>hk3 b o e
 refine QNu fun cenv ecenv el=>?_
 rw[ecenv,el]
 have I4:=QL4 (fp:=fp) S I3 hf3 fun b hb=>by rw[hsz3];exact Nat.lt_succ_of_lt (flt b hb)
 obtain⟨W,⟨m0,w0⟩,turn⟩:=hW _ hfresh fp s3
 generalize hX':cxC X N' scope fp s3 (upd H s.heap.objs.size (.lst []))=X' at I4 turn
 generalize hs4:({ s3 with heap:=pushCells (s3.heap.push { cls:=.type "dict",data:=.dict #[] }) scope.names }:Shared)=s4 at I4 ⊢
 have eenv:QDR scope (Qby X.env scope.names []) s3.heap.objs.size X.env=X'.env:=by rw[← hX'];rfl
 have eprog:X'.prog=X.prog:=by rw[← hX'];rfl
 have ew:X'.w=X.w:=by rw[← hX'];rfl
 have eK:X'.K=X.K:=by rw[← hX'];rfl
 have eA:X'.A=X.A:=by rw[← hX'];rfl
 have ecalm:X'.calm=true:=by rw[← hX'];exact hc
 have exe:∀ e s',X'.xe e s'->False:=fun e s' h=>by rw[← hX']at h;exact h
 have eex:X'.ex=fp:=by rw[← hX'];rfl
 have efs:X'.fs=frs X.stack:=by rw[← hX'];rfl
 have epn:X'.pn=[]:=by rw[← hX'];rfl
 have es0:X'.s₀=s3:=by rw[← hX'];rfl
 have eH0:X'.H₀=upd H s.heap.objs.size (.lst []):=by rw[← hX'];rfl
 have eloc:X'.env.locals=s3.heap.objs.size:=by rw[← eenv];rfl
 rw[eenv]
 have st4:tn 0 s4.heap:=T.keep _ _ _ st3 fun b _ o e=>by rw[← hs4];exact pushCells_keeps _ _ b o (Heap.get?_push_of_some _ e)
 -- the iterator's objects,seen from the block
 have fpok:∀{H':Hp},(∀ b∈fp,H' b=none)->∀ b∈fp,FpOk X' [] H' b:=fun {H'} hn b hb=>by
  obtain⟨h1,h2⟩:=I4.ok.exf b (by rw[eex];exact hb)
  exact⟨hn b hb,h1,fun z=>I4.ok.exfs b (by rw[eex];exact hb) z,.inl (by rw[eex];exact hb),h2,fun p hp=>by rw[epn]at hp;cases hp⟩
 have loop:∀ s5,s5=s4->codeAny (model X.prog X.w) X.A (.compLoop (.ListComp elt [⟨tg,iter,ifs,0⟩] scope pos) 0 (.ref it) (.ref s.heap.objs.size) X'.env) (RR (.ref s.heap.objs.size) s3.heap.objs.size) s5:=by
  rintro s5 rfl
  refine QCc (fun n s'=>∃ i τ H',Inv X' [] τ H' s'/\tn i s'.heap/\(∀ b∈fp,H' b=none)/\W i n τ H') (fun _ _=>False) (fun _ _ h=>h.elim) ?_ m0 ⟨0,_,_,I4,st4,fun b hb=>(hf3 b hb).1,w0⟩
  rintro n s6 ⟨i,τ,H6,I6,st6,fr6,w6⟩
  have A1:∀{α:Type}{t:Sem α}{Q:α->Shared->Prop}{s:Shared},wpAny (model X'.prog X'.w) X'.A t Q X'.xe s->wpAny (model X.prog X.w) X.A t Q (fun _ _=>False) s:=fun {α t Q s} h=>by
   rw[eprog,ew,eA]at h
   exact wpAny_mono h (fun _ _ q=>q) exe
  rcases turn i n τ H6 w6 with⟨stop,qn⟩ | ⟨go,N,hN,step⟩
  ·have h7:=T.done X' eprog ew eK ecalm i [] s6 τ H6 (fun _ _=>False) I6 (fpok fr6) st6 stop
   rw[eA]at h7
   refine thn h7 fun r s7 ⟨hr,I7⟩=>?_
   subst hr
   -- back to the frame around
   have un:=I7.base
   rw[es0,eH0,efs,eex]at un
   have Iout:Inv X pins σ H6 s7:=I3.call' (ch:=fp) (by rw[I7.os,es0]) un (by have:=I7.hok;rw[eprog,ew]at this;exact this) I7.bare fun b hb=>by
    obtain⟨f0,f1,f2,f3,f4,f5⟩:=hf3 b hb
    exact⟨f3,f1,f4,f5⟩
   refine hRR _ _ s7 H6 Iout ?_ ?_ ?_ ?_ ?_ ?_ qn
   ·obtain⟨m,hn,_⟩:=I7.loc
    rw[eloc]at hn
    exact⟨m,hn⟩
   ·have:=I7.free
    rw[eloc]at this
    exact this
   ·exact Nat.ne_of_gt I3.lt
   ·exact I3.sz
   ·intro x c e z
    obtain⟨v,q⟩:=I3.cell x c e
    exact absurd q.lt (by rw[z];exact Nat.lt_irrefl _)
   ·intro p hp z
    exact absurd (Heap.lt_size (I3.pin p hp).1) (by rw[z];exact Nat.lt_irrefl _)
  ·have h6:=T.item X' eprog ew eK ecalm i [] s6 τ H6 (fun _ _=>False) I6 (fpok fr6) st6 go
   rw[eA]at h6
   refine thn h6 fun r s7 ⟨u,hr,h7⟩=>?_
   subst hr
   refine thn h7 fun _ s8 ⟨x,H8,I8,r8,y8,st8,fr8⟩=>?_
   have I8':=I8.pinned (fpok fr8) (T.obj _ _ st8)
   refine thn (A1 (QPb _ s8 τ H8 x u _ I8' r8 (step x H8 y8))) fun _ s9 ⟨τ9,H9,I9,q9⟩=>?_
   obtain⟨tcc,hif,q9⟩:=q9
   refine thn (A1 (hif.run I9 q9)) fun ok s10 ⟨H10,I10,q10⟩=>?_
   have again:∀{τ':St}{H':Hp}{s':Shared},Inv X' ([]++Qsx fp s8.heap) τ' H' s'->N τ' H'->∃ m,m<n/\∃ i τ H',Inv X' [] τ H' s'/\tn i s'.heap/\(∀ b∈fp,H' b=none)/\W i m τ H':=fun {τ' H' s'} I' n'=>by
    obtain⟨m',hm,w'⟩:=hN τ' H' n'
    refine⟨m',hm,i+1,τ',H',I'.unpinned,T.keep _ _ _ st8 fun b hb o e=>(I'.pin (b,o) (List.mem_append_right _ (List.mem_append_right _ (QkP hb e)))).1,fun b hb=>?_,w'⟩
    obtain⟨o,e,d⟩:=T.obj _ _ st8 b hb
    exact(I'.pin (b,o) (List.mem_append_right _ (List.mem_append_right _ (QkP hb e)))).2.1
   cases ok with
   | false=>
    rw[if_neg Bool.false_ne_true]at q10 ⊢
    exact again I10 q10
   | true=>
    rw[if_pos rfl]at q10 ⊢
    refine thn (A1 (QPj _ s10 τ9 H10 _ I10 q10)) fun y s11 ⟨yv,H11,I11,r11,ys,hp11,hz,n11⟩=>?_
    refine thn (A1 (QyN _ s11 τ9 H11 (.ref s.heap.objs.size) [yv] (.ref s.heap.objs.size) [y] (fun _ H'=>N τ9 H') I11 rfl (.cons r11 .nil) ⟨_,ys,yv,rfl,rfl,hp11,hz,n11⟩)) fun _ s12 ⟨v12,H12,I12,_,n12⟩=>?_
    exact again I12 n12
 exact codeAny_compStart_list (loop _ rfl) (T.self _ 0 _ _ _ st4 (loop _ rfl))
theorem QNR(hc:X.calm=true)(S:QD N' js scope X.env.scope X.N)(hi:PI X tg iter wi)
 (hs:∀ x,foldedSetIterable iter X.env x=pure x:=by intro _;rfl):PE X (.ListComp elt [⟨tg,iter,ifs,0⟩] scope pos) (tComp X N' js scope tg elt ifs wi):=by
 intro pins s σ H Q I h
 rw[eval_ListComp]
 have hcl:closureFor scope X.env=pure (Qby X.env scope.names []):=QwF fun y hy e=>by
  obtain⟨c,hc⟩:=I.ok.has y.1 (S.free y hy e)
  rw[hc];rfl
 refine wpAny_comprehension_free (use:=none) rfl hs hcl S.kind S.names (thn (hi pins s σ H _ I h) fun v s1 h1=>thn h1 fun itv s2 h2=>?_)
 obtain⟨it,fp,tn,J,H2,e,I2,T,st2,f2,hW⟩:=h2
 subst e
 refine Qv3 (R:=Q) (RR:=fun acc C=>compPost (model X.prog X.w) X.A X.xe none (EP X pins σ Q) acc C) hc S I2 T st2 f2 hW ?_
 intro D C s' H' I' ⟨m,hn⟩ hC h1 h2 h3 h4 q
 refine⟨m,hn,fun h' hsb=>⟨.ref D,H',?_,rfl,q⟩⟩
 exact I'.turned (t':=s'.toks) (fun b o hb e=>(hsb.2 b hb).trans e) hC (Ne.symm (Ne.symm h1)) (.inr h2) h3 h4
theorem QG9{i:Nat}{x:Str}{px spos:Pos}(hc:X.calm=true)(S:QD N' js scope X.env.scope X.N)(hi:PI X tg iter wi)
 (hN:X.N.Nodup) (hx:X.N[i]?=some x) (hl:Loc X.env.scope x)
 (hsw:swapsWith (.ListComp elt [⟨tg,iter,ifs,0⟩] scope pos) (some (.Name x px)) spos.line X.env=pure true)
 (hf:X.fn x=true∨X.env.scope.names.lookup x=some .local:=by first | exact .inl rfl | exact .inr rfl | assumption)
 (hs:∀ x,foldedSetIterable iter X.env x=pure x:=by intro _;rfl):PS X (.Assign [.Name x px] (.ListComp elt [⟨tg,iter,ifs,0⟩] scope pos) spos) (tAsg (tComp X N' js scope tg elt ifs wi) (gName i)):=by
 intro pins s σ H D I h
 rw[exec_Assign_Name_used _ _ _ _ hsw]
 refine wpAny_bind (wpAny_standAt (wpAny_bind ?_))
 show wpAny _ X.A (do let _ ← comprehension (.ListComp elt [⟨tg,iter,ifs,0⟩] scope pos) scope X.env _ (newList []) false (eval iter X.env) (some (assign (.Name x px) X.env))) _ _ s
 have hcl:closureFor scope X.env=pure (Qby X.env scope.names []):=QwF fun y hy e=>by
  obtain⟨c,hc⟩:=I.ok.has y.1 (S.free y hy e)
  rw[hc];rfl
 refine wpAny_bind (wpAny_mono (wpAny_comprehension_free (use:=some (assign (.Name x px) X.env)) (Q:=fun _ s'=>SP X pins D .next s') rfl hs hcl S.kind S.names
  (thn (hi pins s σ H _ I h) fun v s1 h1=>thn h1 fun itv s2 h2=>?_)) (fun _ s' hq=>wpAny_pure (wpAny_pure hq)) fun _ _ e=>e)
 obtain⟨it,fp,tn,J,H2,e,I2,T,st2,f2,hW⟩:=h2
 subst e
 refine Qv3 (R:=fun v H'=>D.nx (σ.set i (some v)) H') (RR:=fun acc C=>compPost (model X.prog X.w) X.A X.xe (some (assign (.Name x px) X.env)) (fun _ s'=>SP X pins D .next s') acc C) hc S I2 T st2 f2 hW ?_
 intro DD C s' H' I' ⟨m,hn⟩ hC h1 h2 h3 h4 q
 show wpAny _ X.A (assign (.Name x px) X.env (.ref DD)) _ _ s'
 refine wpAny_assign_Name (QyP (v:=.ref DD) I' hN hx hl rfl (fun s'' I'' ⟨a,hsb,ha⟩=>?_) hf)
 have hCa:C≠a:=by
  rcases ha with rfl | ha
  ·exact h1
  ·exact Ne.symm (h3 x a ha)
 refine⟨m,hn.sameBut hsb hCa,fun h' hsb'=>⟨_,H',?_,q⟩⟩
 exact I''.turned (t':=s''.toks) (fun b o hb e=>(hsb'.2 b hb).trans e) hC h1 (.inr h2) h3 h4
end
end L2
namespace DL
open PySem PySem.Spec PyProof.Rows L2
inductive D where
 | non | bl (b:Bool) | int (i:Int) | str (x:Str)
 | lst (xs:List D) | tup (xs:List D) | dic (kvs:List (Key×D)) | ins (c:Str) (fs:List (Str×D)) | err (c:Str)
instance:Inhabited D:=⟨.non⟩
abbrev CTab:=Str->Option Addr
section
variable(K:PySem.W.Frag)(CT:CTab)(H:Hp)
mutual
def Rep:D->V->Prop
 | .non,v=>v=.non
 | .bl b,v=>v=.bl b
 | .int i,v=>v=.int i
 | .str x,v=>v=.str x
 | .lst ds,v=>∃ a vs,v=.ref a/\SqL K H a vs/\RepL ds vs
 | .tup ds,v=>∃ a vs,v=.ref a/\SqT K H a vs/\RepL ds vs
 | .dic kds,v=>∃ a kvs,v=.ref a/\Rd H a (.dK kvs)/\RepK kds kvs
 | .ins c fds,v=>∃ a C dx fs,v=.ref a/\CT c=some C/\H a=some (.ins C dx fs)/\RepF fds fs
 | .err c,v=>∃ a C,v=.ref a/\CT c=some C/\H a=some (exO a C)
def RepL:List D->List V->Prop
 | [],vs=>vs=[]
 | d::ds,vs=>∃ v r,vs=v::r/\Rep d v/\RepL ds r
def RepK:List (Key×D)->List (Key×V)->Prop
 | [],kvs=>kvs=[]
 | (k,d)::ds,kvs=>∃ v r,kvs=(k,v)::r/\Rep d v/\RepK ds r
def RepF:List (Str×D)->List (Str×V)->Prop
 | [],kvs=>kvs=[]
 | (k,d)::ds,kvs=>∃ v r,kvs=(k,v)::r/\Rep d v/\RepF ds r
end
end
section
variable{K:PySem.W.Frag}{CT:CTab}{H H':Hp}
theorem Same.sqT{a:Addr}{xs:List V}(e:Same H H')(h:SqT K H a xs):SqT K H' a xs:=by
 rcases h with(h | ⟨o,h⟩) | h
 ·exact .inl (.inl (e _ _ h))
 ·exact .inl (.inr ⟨o,e _ _ h⟩)
 ·exact .inr h
theorem Same.rd{a:Addr}{u:HO}(e:Same H H')(h:Rd H a u):Rd H' a u:=by
 rcases h with h | ⟨o,h⟩
 ·exact .inl (e _ _ h)
 ·exact .inr ⟨o,e _ _ h⟩
mutual
theorem Rep.mono(e:Same H H'):∀(d:D)(v:V),Rep K CT H d v->Rep K CT H' d v
 | .non,_,h=>h
 | .bl _,_,h=>h
 | .int _,_,h=>h
 | .str _,_,h=>h
 | .lst ds,_,⟨a,vs,h1,h2,h3⟩=>⟨a,vs,h1,e.seq h2,RepL.mono e ds vs h3⟩
 | .tup ds,_,⟨a,vs,h1,h2,h3⟩=>⟨a,vs,h1,Same.sqT e h2,RepL.mono e ds vs h3⟩
 | .dic ds,_,⟨a,vs,h1,h2,h3⟩=>⟨a,vs,h1,Same.rd e h2,RepK.mono e ds vs h3⟩
 | .ins c ds,_,⟨a,C,dx,fs,h1,h2,h3,h4⟩=>⟨a,C,dx,fs,h1,h2,e _ _ h3,RepF.mono e ds fs h4⟩
 | .err c,_,⟨a,C,h1,h2,h3⟩=>⟨a,C,h1,h2,e _ _ h3⟩
theorem RepL.mono(e:Same H H'):∀(ds:List D)(vs:List V),RepL K CT H ds vs->RepL K CT H' ds vs
 | [],_,h=>h
 | d::ds,_,⟨v,r,h1,h2,h3⟩=>⟨v,r,h1,Rep.mono e d v h2,RepL.mono e ds r h3⟩
theorem RepK.mono(e:Same H H'):∀(ds:List (Key×D))(vs:List (Key×V)),RepK K CT H ds vs->RepK K CT H' ds vs
 | [],_,h=>h
 | (k,d)::ds,_,⟨v,r,h1,h2,h3⟩=>⟨v,r,h1,Rep.mono e d v h2,RepK.mono e ds r h3⟩
theorem RepF.mono(e:Same H H'):∀(ds:List (Str×D))(vs:List (Str×V)),RepF K CT H ds vs->RepF K CT H' ds vs
 | [],_,h=>h
 | (k,d)::ds,_,⟨v,r,h1,h2,h3⟩=>⟨v,r,h1,Rep.mono e d v h2,RepF.mono e ds r h3⟩
end
theorem RepL.length:∀{ds:List D}{vs:List V},RepL K CT H ds vs->ds.length=vs.length
 | [],_,h=>by cases h;rfl
 | d::ds,_,⟨v,r,h1,h2,h3⟩=>by subst h1;simp[RepL.length h3]
theorem RepL.get:∀{ds:List D}{vs:List V}{i:Nat}{d:D},RepL K CT H ds vs->ds[i]?=some d->∃ v,vs[i]?=some v/\Rep K CT H d v
 | [],_,_,_,_,e=>by simp at e
 | d::ds,_,0,_,⟨v,r,h1,h2,h3⟩,e=>by subst h1;simp at e;subst e;exact⟨v,rfl,h2⟩
 | d::ds,_,i+1,x,⟨v,r,h1,h2,h3⟩,e=>by
  subst h1
  obtain⟨u,a,b⟩:=RepL.get (i:=i) (d:=x) h3 (by simpa using e)
  exact⟨u,by simpa using a,b⟩
theorem RepL.append:∀{ds es:List D}{vs us:List V},RepL K CT H ds vs->RepL K CT H es us->RepL K CT H (ds++es) (vs++us)
 | [],_,_,_,h,k=>by cases h;exact k
 | d::ds,_,_,_,⟨v,r,h1,h2,h3⟩,k=>by subst h1;exact⟨v,_,rfl,h2,RepL.append h3 k⟩
theorem RepL.take:∀(n:Nat){ds:List D}{vs:List V},RepL K CT H ds vs->RepL K CT H (ds.take n) (vs.take n)
 | 0,_,_,_=>by simp[RepL]
 | n+1,[],_,h=>by cases h;simp[RepL]
 | n+1,d::ds,_,⟨v,r,h1,h2,h3⟩=>by subst h1;exact⟨v,_,rfl,h2,RepL.take n h3⟩
theorem RepL.drop:∀(n:Nat){ds:List D}{vs:List V},RepL K CT H ds vs->RepL K CT H (ds.drop n) (vs.drop n)
 | 0,_,_,h=>h
 | n+1,[],_,h=>by cases h;simp[RepL]
 | n+1,d::ds,_,⟨v,r,h1,h2,h3⟩=>by subst h1;exact RepL.drop n h3
theorem RepL.set{d:D}{v:V}(q:Rep K CT H d v):∀(i:Nat){ds:List D}{vs:List V},RepL K CT H ds vs->RepL K CT H (ds.set i d) (vs.set i v)
 | _,[],_,h=>by cases h;simp[RepL]
 | 0,_::ds,_,⟨w,r,h1,h2,h3⟩=>by subst h1;exact⟨v,r,rfl,q,h3⟩
 | i+1,e::ds,_,⟨w,r,h1,h2,h3⟩=>by subst h1;exact⟨w,_,rfl,h2,RepL.set q i h3⟩
theorem RepL.rep{ds:List D}{vs:List V}(h:RepL K CT H ds vs):∀ k:Nat,RepL K CT H (List.replicate k ds).flatten (List.replicate k vs).flatten
 | 0=>rfl
 | k+1=>by
  rw[List.replicate_succ,List.replicate_succ,List.flatten_cons,List.flatten_cons]
  exact h.append (h.rep k)
theorem RepL.one{d:D}{v:V}(h:Rep K CT H d v):RepL K CT H [d] [v]:=⟨v,[],rfl,h,rfl⟩
theorem RepL.map_int:∀(ns:List Int),RepL K CT H (ns.map D.int) (ns.map V.int)
 | []=>rfl
 | n::ns=>⟨_,_,rfl,rfl,RepL.map_int ns⟩
end
inductive Out(α:Type) where
 | ok (a:α) | exc (x:D) | stuck
namespace Out
def bind{α β:Type}:Out α->(α->Out β)->Out β
 | .ok a,f=>f a
 | .exc x,_=>.exc x
 | .stuck,_=>.stuck
instance:Monad Out where
 pure:=.ok
 bind:=bind
def post{α:Type}(o:Out α)(k:α->Prop)(x:D->Prop):Prop:=match o with
 | .ok a=>k a
 | .exc e=>x e
 | .stuck=>False
@[simp] theorem bind_ok{α β:Type}(a:α)(f:α->Out β):(Out.ok a>>=f)=f a:=rfl
@[simp] theorem bind_exc{α β:Type}(x:D)(f:α->Out β):((Out.exc x:Out α)>>=f)=.exc x:=rfl
@[simp] theorem bind_stuck{α β:Type}(f:α->Out β):((Out.stuck:Out α)>>=f)=.stuck:=rfl
@[simp] theorem QPS{α β:Type}(a:α)(f:α->Out β):(Out.ok a).bind f=f a:=rfl
@[simp] theorem QPR{α β:Type}(x:D)(f:α->Out β):(Out.exc x:Out α).bind f=.exc x:=rfl
@[simp] theorem QPH{α β:Type}(f:α->Out β):(Out.stuck:Out α).bind f=.stuck:=rfl
@[simp] theorem pure_eq{α:Type}(a:α):(pure a:Out α)=.ok a:=rfl
theorem post_bind{α β:Type}(o:Out α)(f:α->Out β)(k:β->Prop)(x:D->Prop):(o>>=f).post k x↔o.post (fun a=>(f a).post k x) x:=by
 cases o<;>exact Iff.rfl
theorem post_mono{α:Type}{o:Out α}{k k':α->Prop}{x:D->Prop}(h:o.post k x)(hk:∀ a,k a->k' a):o.post k' x:=by
 cases o with
 | ok a=>exact hk a h
 | exc e=>exact h
 | stuck=>exact h
end Out
end DL
namespace DL
open PySem PySem.Spec PyProof.Rows L2
abbrev St:=L2.St
inductive SM where
 | k | o | l | s
abbrev SD:=List (Option (SM×D))
structure Dc where
 X:Cx
 CT:CTab
 G0:Hp
 XD:D->Prop
 /-- what is lent -/
 B:Hp
 /-- what of the entry's objects may be written -/
 M:Addr->Prop
 /-- which address a written slot holds -/
 W:Nat->Option Addr:=fun _=>none
abbrev Dc.K(C:Dc):PySem.W.Frag:=C.X.K
def Own(K:PySem.W.Frag)(CT:CTab)(G H:Hp)(p:Addr):D->Prop
 | .lst ds=>∃ vs,H p=some (.lst vs)/\RepL K CT G ds vs
 | .dic ds=>∃ kvs,H p=some (.dK kvs)/\RepK K CT G ds kvs
 | .ins c ds=>∃ A dx fs,CT c=some A/\H p=some (.ins A dx fs)/\RepF K CT G ds fs
 | _=>False
theorem Own.there{K:PySem.W.Frag}{CT:CTab}{G H:Hp}{p:Addr}:∀{d:D},Own K CT G H p d->∃ o,H p=some o
 | .lst _,⟨_,h,_⟩=>⟨_,h⟩
 | .dic _,⟨_,h,_⟩=>⟨_,h⟩
 | .ins _ _,⟨_,_,_,_,h,_⟩=>⟨_,h⟩
 | .non,h=>h.elim
 | .bl _,h=>h.elim
 | .int _,h=>h.elim
 | .str _,h=>h.elim
 | .tup _,h=>h.elim
theorem Own.mono{K:PySem.W.Frag}{CT:CTab}{G G' H H':Hp}{p:Addr}(g:Same G G')(h:∀ o,H p=some o->H' p=some o):∀{d:D},Own K CT G H p d->Own K CT G' H' p d
 | .lst ds,⟨vs,a,b⟩=>⟨vs,h _ a,RepL.mono g ds vs b⟩
 | .dic ds,⟨vs,a,b⟩=>⟨vs,h _ a,RepK.mono g ds vs b⟩
 | .ins _ ds,⟨A,dx,fs,e,a,b⟩=>⟨A,dx,fs,e,h _ a,RepF.mono g ds fs b⟩
 | .non,h=>h.elim
 | .bl _,h=>h.elim
 | .int _,h=>h.elim
 | .str _,h=>h.elim
 | .tup _,h=>h.elim
theorem Own.rep{K:PySem.W.Frag}{CT:CTab}{G H:Hp}{p:Addr}(g:Same G H):∀{d:D},Own K CT G H p d->Rep K CT H d (.ref p)
 | .lst ds,⟨vs,a,b⟩=>⟨p,vs,rfl,SqL.of a,RepL.mono g ds vs b⟩
 | .dic ds,⟨vs,a,b⟩=>⟨p,vs,rfl,Rd.of a,RepK.mono g ds vs b⟩
 | .ins _ ds,⟨A,dx,fs,e,a,b⟩=>⟨p,A,dx,fs,rfl,e,a,RepF.mono g ds fs b⟩
 | .non,h=>h.elim
 | .bl _,h=>h.elim
 | .int _,h=>h.elim
 | .str _,h=>h.elim
 | .tup _,h=>h.elim
structure GH(C:Dc)(G H:Hp):Prop where
 sub:Same G H
 g0:Same C.G0 G
 new:∀ b,C.G0 b=none->G b≠none->C.X.H₀ b=none
 fr:∀ b o,C.X.H₀ b=some o->¬ C.M b->H b=some o
 dom:∀ b,H b=none->C.X.H₀ b=none
 bs:Same C.B H
 bh:∀ b,C.X.H₀ b=none->C.B b=none
structure StR(C:Dc)(G H:Hp)(σ:St)(ς:SD):Prop extends GH C G H where
 len:σ.length=ς.length
 fz:∀(i:Nat) d,ς[i]?=some (some (.k,d))->∃ v,σ[i]?=some (some v)/\Rep C.X.K C.CT G d v
 ow:∀(i:Nat) d,ς[i]?=some (some (.o,d))->∃ p,σ[i]?=some (some (.ref p))/\G p=none/\C.X.H₀ p=none/\Own C.X.K C.CT G H p d
 ln:∀(i:Nat) d,ς[i]?=some (some (.l,d))->∃ v,σ[i]?=some (some v)/\Rep C.X.K C.CT C.B d v
 inj:∀(i j:Nat) d e p,i≠j->ς[i]?=some (some (.o,d))->ς[j]?=some (some (.o,e))->σ[i]?=some (some (.ref p))->σ[j]?≠some (some (.ref p))
 sf:∀(i:Nat) d,ς[i]?=some (some (.s,d))->∃ p,σ[i]?=some (some (.ref p))/\G p=none/\C.X.H₀ p≠none/\(C.M p/\C.W i=some p)/\C.B p=none/\Own C.X.K C.CT G H p d
 su:∀(i j:Nat) d e p,i≠j->ς[i]?=some (some (.s,d))->ς[j]?=some (some (.s,e))->σ[i]?=some (some (.ref p))->σ[j]?≠some (some (.ref p))
section
variable{C:Dc}{G G' H H':Hp}{σ:St}{ς:SD}
theorem GH.gnone(S:GH C G H){p:Addr}(h:H p=none):G p=none:=S.sub.free h
theorem GH.h0none(S:GH C G H){p:Addr}(h:H p=none):C.X.H₀ p=none:=S.dom p h
theorem QE{H:Hp}{p:Addr}{o:HO}(h:H p=none):Same H (upd H p o):=fun b u e=>by
 rw[Qk (Q0 e h)];exact e
theorem Qsq{G H:Hp}{p:Addr}{o:HO}(s:Same G H):Same (upd G p o) (upd H p o):=fun b u e=>by
 by_cases hb:b=p
 ·subst hb;rw[QS]at e ⊢;exact e
 ·rw[Qk hb]at e ⊢;exact s b u e
theorem GH.grow(S:GH C G H)(hH:Same H H')(hG:Same G G')(hs:Same G' H')(hn:∀ b,G b=none->G' b≠none->H b=none):GH C G' H' where
 sub:=hs
 g0:=S.g0.trans hG
 new:=fun b h0 h1=>by
  cases q:G b with
  | none=>exact S.h0none (hn b q h1)
  | some o=>exact S.new b h0 (by rw[q];simp)
 fr:=fun b o e m=>hH b o (S.fr b o e m)
 dom:=fun b e=>S.dom b (hH.free e)
 bs:=S.bs.trans hH
 bh:=S.bh
theorem StR.own_ne(S:StR C G H σ ς){i:Nat}{d:D}{p:Addr}(h:ς[i]?=some (some (.o,d)))(hp:σ[i]?=some (some (.ref p))):∃ o,H p=some o:=by
 obtain⟨q,e,_,_,o⟩:=S.ow i d h
 rw[hp]at e;cases e
 exact o.there
theorem StR.grow(S:StR C G H σ ς)(hH:Same H H')(hG:Same G G')(hs:Same G' H')(hn:∀ b,G b=none->G' b≠none->H b=none):StR C G' H' σ ς where
 toGH:=S.toGH.grow hH hG hs hn
 len:=S.len
 fz:=fun i d e=>let ⟨v,a,b⟩:=S.fz i d e;⟨v,a,Rep.mono hG d v b⟩
 ow:=fun i d e=>by
  obtain⟨p,a,b,c,o⟩:=S.ow i d e
  refine⟨p,a,?_,c,o.mono hG fun u q=>hH _ _ q⟩
  cases q:G' p with
  | none=>rfl
  | some u=>
   obtain⟨w,hw⟩:=o.there
   have:=hn p b (by rw[q];simp)
   rw[hw]at this;cases this
 ln:=S.ln
 inj:=S.inj
 sf:=fun i d e=>by
  obtain⟨p,a,b,c,m,z,o⟩:=S.sf i d e
  refine⟨p,a,?_,c,m,z,o.mono hG fun u q=>hH _ _ q⟩
  cases q:G' p with
  | none=>rfl
  | some u=>
   obtain⟨w,hw⟩:=o.there
   have:=hn p b (by rw[q];simp)
   rw[hw]at this;cases this
 su:=S.su
theorem StR.alloc(S:StR C G H σ ς){p:Addr}{o:HO}(h:H p=none):StR C (upd G p o) (upd H p o) σ ς:=
 S.grow (QE h) (QE (S.sub.free h)) (Qsq S.sub) fun b g n=>by
  by_cases hb:b=p
  ·subst hb;exact h
  ·rw[Qk hb,g]at n;exact absurd rfl n
theorem StR.allocO(S:StR C G H σ ς){p:Addr}{o:HO}(h:H p=none):StR C G (upd H p o) σ ς:=
 S.grow (QE h) (Same.refl G) (S.sub.trans (QE h)) fun b g n=>absurd g n
end
def KD(C:Dc)(G H:Hp)(σ:St)(ς:SD)(Q:VK)(d:D):Prop:=∀ v H' G',StR C G' H' σ ς->Same H H'->Same G G'->Rep C.X.K C.CT G' d v->Q v H'
def KB(C:Dc)(G H:Hp)(σ:St)(ς:SD)(Q:VK)(d:D):Prop:=∀ v H' G',StR C G' H' σ ς->Same H H'->Same G G'->Rep C.X.K C.CT H' d v->Q v H'
def KF(C:Dc)(G H:Hp)(σ:St)(ς:SD)(Q:VK)(d:D):Prop:=∀ p H' G',StR C G' H' σ ς->Same H H'->Same G G'->H p=none->G' p=none->Own C.X.K C.CT G' H' p d->Q (.ref p) H'
def DE(C:Dc)(e:Expr)(E:SD->Out D):Prop:=∃ t,PE C.X e t/\∀ G H σ ς Q,StR C G H σ ς->(E ς).post (KD C G H σ ς Q) C.XD->t σ H Q
def DB(C:Dc)(e:Expr)(E:SD->Out D):Prop:=∃ t,PE C.X e t/\∀ G H σ ς Q,StR C G H σ ς->(E ς).post (KB C G H σ ς Q) C.XD->t σ H Q
def DF(C:Dc)(e:Expr)(E:SD->Out D):Prop:=∃ t,PE C.X e t/\∀ G H σ ς Q,StR C G H σ ς->(E ς).post (KF C G H σ ς Q) C.XD->t σ H Q
def KT(C:Dc)(G H:Hp)(σ:St)(ς:SD)(Q:Bool->Hp->Prop)(b:Bool):Prop:=∀ H' G',StR C G' H' σ ς->Same H H'->Same G G'->Q b H'
def DT(C:Dc)(e:Expr)(T:SD->Out Bool):Prop:=∃ t,PT C.X e t/\∀ G H σ ς Q,StR C G H σ ς->(T ς).post (KT C G H σ ς Q) C.XD->t σ H Q
def DW(C:Dc)(e:Expr)(T:SD->Out Bool):Prop:=∃ t,PW C.X e t/\∀ G H σ ς Q,StR C G H σ ς->(T ς).post (KT C G H σ ς Q) C.XD->t σ H Q
def DA(C:Dc)(es:List Expr)(A:SD->Out (List D)):Prop:=∃ t,PA C.X es t/\∀ G H σ ς Q,StR C G H σ ς->
 (A ς).post (fun ds=>∀ vs H' G',StR C G' H' σ ς->Same H H'->Same G G'->RepL C.X.K C.CT G' ds vs->Q vs H') C.XD->t σ H Q
def DAB(C:Dc)(es:List Expr)(A:SD->Out (List D)):Prop:=∃ t,PA C.X es t/\∀ G H σ ς Q,StR C G H σ ς->
 (A ς).post (fun ds=>∀ vs H' G',StR C G' H' σ ς->Same H H'->Same G G'->RepL C.X.K C.CT H' ds vs->Q vs H') C.XD->t σ H Q
inductive Fl where
 | nx (ς:SD) | rt (fr:Bool) (d:D) | bk (ς:SD) | ct (ς:SD)
def RetR(K:PySem.W.Frag)(CT:CTab)(fr:Bool)(H0 G' H':Hp)(d:D)(v:V):Prop:=
 if fr=true then ∃ p,v=.ref p/\H0 p=none/\G' p=none/\Own K CT G' H' p d else Rep K CT G' d v
def FlK(C:Dc)(G:Hp)(W:Ends):Fl->Prop
 | .nx ς'=>∀ σ' H' G',StR C G' H' σ' ς'->Same G G'->W.nx σ' H'
 | .bk ς'=>∀ σ' H' G',StR C G' H' σ' ς'->Same G G'->W.bk σ' H'
 | .ct ς'=>∀ σ' H' G',StR C G' H' σ' ς'->Same G G'->W.ct σ' H'
 | .rt fr d=>∀ v H' G',GH C G' H'->Same G G'->RetR C.X.K C.CT fr C.X.H₀ G' H' d v->W.rt v H'
def DS(C:Dc)(st:Stmt)(T:SD->Out Fl):Prop:=∃ t,PS C.X st t/\∀ G H σ ς W,StR C G H σ ς->(T ς).post (FlK C G W) C.XD->t W σ H
def DSs(C:Dc)(st:List Stmt)(T:SD->Out Fl):Prop:=∃ t,PSs C.X st t/\∀ G H σ ς W,StR C G H σ ς->(T ς).post (FlK C G W) C.XD->t W σ H
section
variable{C:Dc}{e:Expr}{E:SD->Out D}
theorem StR.freeze{G H:Hp}{σ:St}{ς:SD}(S:StR C G H σ ς){p:Addr}{o:HO}(hp:H p=some o)(hg:G p=none)(h0:C.X.H₀ p=none)(hn:∀(i:Nat) d,ς[i]?=some (some (.o,d))->σ[i]?≠some (some (.ref p))):StR C (upd G p o) H σ ς where
 sub:=fun b u q=>by
  by_cases hb:b=p
  ·subst hb;rw[QS]at q;cases q;exact hp
  ·rw[Qk hb]at q;exact S.sub b u q
 g0:=S.g0.trans (QE hg)
 new:=fun b h1 h2=>by
  by_cases hb:b=p
  ·subst hb;exact h0
  ·rw[Qk hb]at h2;exact S.new b h1 h2
 fr:=S.fr
 dom:=S.dom
 bs:=S.bs
 bh:=S.bh
 len:=S.len
 fz:=fun i d q=>let ⟨v,a,b⟩:=S.fz i d q;⟨v,a,Rep.mono (QE hg) d v b⟩
 ow:=fun i d q=>by
  obtain⟨r,a,b,c,w⟩:=S.ow i d q
  refine⟨r,a,?_,c,w.mono (QE hg) fun _ z=>z⟩
  rw[Qk (by rintro rfl;exact hn i d q a)];exact b
 ln:=S.ln
 inj:=S.inj
 sf:=fun i d q=>by
  obtain⟨r,a,b,c,m,z,w⟩:=S.sf i d q
  refine⟨r,a,?_,c,m,z,w.mono (QE hg) fun _ z=>z⟩
  rw[Qk (by rintro rfl;exact c h0)];exact b
 su:=S.su
theorem Own.known{K:PySem.W.Frag}{CT:CTab}{G H:Hp}{p:Addr}{o:HO}(hg:G p=none)(hp:H p=some o):∀{d:D},Own K CT G H p d->Rep K CT (upd G p o) d (.ref p)
 | .lst ds,⟨vs,a,b⟩=>by rw[hp]at a;cases a;exact⟨p,vs,rfl,SqL.of QS,RepL.mono (QE hg) ds vs b⟩
 | .dic ds,⟨vs,a,b⟩=>by rw[hp]at a;cases a;exact⟨p,vs,rfl,Rd.of QS,RepK.mono (QE hg) ds vs b⟩
 | .ins _ ds,⟨A,dx,fs,e,a,b⟩=>by rw[hp]at a;cases a;exact⟨p,A,dx,fs,rfl,e,QS,RepF.mono (QE hg) ds fs b⟩
 | .non,h=>h.elim
 | .bl _,h=>h.elim
 | .int _,h=>h.elim
 | .str _,h=>h.elim
 | .tup _,h=>h.elim
theorem StR.new_ne{G H:Hp}{σ:St}{ς:SD}(S:StR C G H σ ς){p:Addr}(h:H p=none):∀(i:Nat) d,ς[i]?=some (some (.o,d))->σ[i]?≠some (some (.ref p)):=fun i d q z=>by
 obtain⟨o,w⟩:=S.own_ne q z
 rw[h]at w;cases w
theorem KD.ofF{G H:Hp}{σ:St}{ς:SD}{Q:VK}{d:D}(S:StR C G H σ ς)(k:KD C G H σ ς Q d):KF C G H σ ς Q d:=fun p H' G' S' hH hG hp hg ow=>by
 obtain⟨o,ho⟩:=ow.there
 exact k _ _ _ (S'.freeze ho hg (S.h0none hp) (S.new_ne hp)) hH (hG.trans (QE hg)) (ow.known hg ho)
theorem DF.de(h:DF C e E):DE C e E:=by
 obtain⟨t,h1,h2⟩:=h
 refine⟨t,h1,fun G H σ ς Q S q=>h2 G H σ ς Q S (Out.post_mono q fun d k=>KD.ofF S k)⟩
theorem DE.db(h:DE C e E):DB C e E:=by
 obtain⟨t,h1,h2⟩:=h
 refine⟨t,h1,fun G H σ ς Q S q=>h2 G H σ ς Q S (Out.post_mono q fun d k v H' G' S' a b r=>k v H' G' S' a b (Rep.mono S'.sub d v r))⟩
def D.scal:D->Bool
 | .non=>true
 | .bl _=>true
 | .int _=>true
 | .str _=>true
 | _=>false
theorem Rep.scal{K:PySem.W.Frag}{CT:CTab}{G H:Hp}:∀{d:D}{v:V},d.scal=true->Rep K CT H d v->Rep K CT G d v
 | .non,_,_,h=>h
 | .bl _,_,_,h=>h
 | .int _,_,_,h=>h
 | .str _,_,_,h=>h
def Qo0(o:Out D):Out D:=o>>=fun d=>if d.scal=true then .ok d else .stuck
theorem DB.de(h:DB C e E):DE C e (fun ς=>Qo0 (E ς)):=by
 obtain⟨t,h1,h2⟩:=h
 refine⟨t,h1,fun G H σ ς Q S q=>h2 G H σ ς Q S ?_⟩
 unfold Qo0 at q
 rw[Out.post_bind]at q
 refine Out.post_mono q fun d k v H' G' S' a b r=>?_
 by_cases hs:d.scal=true
 ·rw[if_pos hs]at k
  exact k v H' G' S' a b (r.scal hs)
 ·rw[if_neg hs]at k
  exact k.elim
theorem KD.now{G H:Hp}{σ:St}{ς:SD}{Q:VK}{d:D}{v:V}(k:KD C G H σ ς Q d)(S:StR C G H σ ς)(r:Rep C.X.K C.CT G d v):Q v H:=k v H G S (Same.refl H) (Same.refl G) r
theorem KB.now{G H:Hp}{σ:St}{ς:SD}{Q:VK}{d:D}{v:V}(k:KB C G H σ ς Q d)(S:StR C G H σ ς)(r:Rep C.X.K C.CT H d v):Q v H:=k v H G S (Same.refl H) (Same.refl G) r
theorem KT.now{G H:Hp}{σ:St}{ς:SD}{Q:Bool->Hp->Prop}{b:Bool}(k:KT C G H σ ς Q b)(S:StR C G H σ ς):Q b H:=k H G S (Same.refl H) (Same.refl G)
theorem KD.later{G H G1 H1:Hp}{σ:St}{ς:SD}{Q:VK}{d:D}(k:KD C G H σ ς Q d)(hH:Same H H1)(hG:Same G G1):KD C G1 H1 σ ς Q d:=fun v H' G' S a b r=>k v H' G' S (hH.trans a) (hG.trans b) r
theorem KB.later{G H G1 H1:Hp}{σ:St}{ς:SD}{Q:VK}{d:D}(k:KB C G H σ ς Q d)(hH:Same H H1)(hG:Same G G1):KB C G1 H1 σ ς Q d:=fun v H' G' S a b r=>k v H' G' S (hH.trans a) (hG.trans b) r
theorem KT.later{G H G1 H1:Hp}{σ:St}{ς:SD}{Q:Bool->Hp->Prop}{d:Bool}(k:KT C G H σ ς Q d)(hH:Same H H1)(hG:Same G G1):KT C G1 H1 σ ς Q d:=fun H' G' S a b=>k H' G' S (hH.trans a) (hG.trans b)
theorem KF.later{G H G1 H1:Hp}{σ:St}{ς:SD}{Q:VK}{d:D}(k:KF C G H σ ς Q d)(hH:Same H H1)(hG:Same G G1):KF C G1 H1 σ ς Q d:=fun p H' G' S a b hp hg ow=>k p H' G' S (hH.trans a) (hG.trans b) (hH.free hp) hg ow
theorem KF.lst{G H:Hp}{σ:St}{ς:SD}{Q:VK}{ds:List D}{vs:List V}(k:KF C G H σ ς Q (.lst ds))(S:StR C G H σ ς)(r:RepL C.X.K C.CT G ds vs):∀ p,H p=none->Q (.ref p) (upd H p (.lst vs)):=fun p hp=>
 k p _ G (S.allocO hp) (QE hp) (Same.refl G) hp (S.gnone hp) ⟨vs,QS,r⟩
theorem KD.tup{G H:Hp}{σ:St}{ς:SD}{Q:VK}{ds:List D}{vs:List V}(k:KD C G H σ ς Q (.tup ds))(S:StR C G H σ ς)(r:RepL C.X.K C.CT G ds vs):∀ p,H p=none->Q (.ref p) (upd H p (.tup vs)):=fun p hp=>
 k _ _ _ (S.alloc hp) (QE hp) (QE (S.gnone hp)) ⟨p,vs,rfl,SqT.of QS,RepL.mono (QE (S.gnone hp)) ds vs r⟩
end
end DL
namespace DL
open PySem PySem.Spec PyProof.Rows L2
def eVar(i:Nat):SD->Out D:=fun ς=>match ς[i]? with | some (some (.k,d))=>.ok d | _=>.stuck
def eVarB(i:Nat):SD->Out D:=fun ς=>match ς[i]? with | some (some (_,d))=>.ok d | _=>.stuck
def eC(d:D):SD->Out D:=fun _=>.ok d
section
variable{C:Dc}{pos:Pos}
theorem QC7{i:Nat}{ς:SD}{k:D->Prop}{x:D->Prop}(h:(eVar i ς).post k x):∃ d,ς[i]?=some (some (.k,d))/\k d:=by
 unfold eVar at h
 split at h
 ·rename_i d e;exact⟨d,e,h⟩
 ·exact h.elim
theorem QKC{i:Nat}{ς:SD}{k:D->Prop}{x:D->Prop}(h:(eVarB i ς).post k x):∃ b d,ς[i]?=some (some (b,d))/\k d:=by
 unfold eVarB at h
 split at h
 ·rename_i b d e;exact⟨b,d,e,h⟩
 ·exact h.elim
theorem Qb(i:Nat){x:Str}(hN:C.X.N[i]?=some x:=by rfl)(hv:Vis C.X.env.scope x:=by first | exact Or.inl rfl | exact Or.inr (Or.inl rfl) | exact Or.inr (Or.inr rfl))
 (hd:(x == ("__debug__":Str))=false:=by decide) (hcd:(x == ("__classdict__":Str))=false:=by decide):DE C (.Name x pos) (eVar i):=by
 refine⟨_,QeF (i:=i) hN hv hd hcd,fun G H σ ς Q S q=>?_⟩
 obtain⟨d,e,k⟩:=QC7 q
 obtain⟨v,a,b⟩:=S.fz i d e
 exact⟨v,a,k.now S b⟩
theorem Qhc(i:Nat){x:Str}(hN:C.X.N[i]?=some x:=by rfl)(hv:Vis C.X.env.scope x:=by first | exact Or.inl rfl | exact Or.inr (Or.inl rfl) | exact Or.inr (Or.inr rfl))
 (hd:(x == ("__debug__":Str))=false:=by decide) (hcd:(x == ("__classdict__":Str))=false:=by decide):DB C (.Name x pos) (eVarB i):=by
 refine⟨_,QeF (i:=i) hN hv hd hcd,fun G H σ ς Q S q=>?_⟩
 obtain⟨b,d,e,k⟩:=QKC q
 cases b with
 | k=>
  obtain⟨v,a,b⟩:=S.fz i d e
  exact⟨v,a,k.now S (Rep.mono S.sub d v b)⟩
 | o=>
  obtain⟨p,a,b,c,w⟩:=S.ow i d e
  exact⟨_,a,k.now S (w.rep S.sub)⟩
 | l=>
  obtain⟨v,a,b⟩:=S.ln i d e
  exact⟨v,a,k.now S (Rep.mono S.bs d v b)⟩
 | s=>
  obtain⟨p,a,b,c,m,z,w⟩:=S.sf i d e
  exact⟨_,a,k.now S (w.rep S.sub)⟩
theorem Qe{i:Int}{j}:DE C (.Constant (.int i) j pos) (eC (.int i)):=⟨_,QO3,fun G H σ ς Q S q=>KD.now q S rfl⟩
theorem de_bl{b:Bool}{j}:DE C (.Constant (.bool b) j pos) (eC (.bl b)):=⟨_,pe_bl,fun G H σ ς Q S q=>KD.now q S rfl⟩
theorem QPc{j}:DE C (.Constant .none j pos) (eC .non):=⟨_,QPo,fun G H σ ς Q S q=>KD.now q S rfl⟩
theorem Qo6{x:Str}{j}:DE C (.Constant (.str x) j pos) (eC (.str x)):=⟨_,QOE,fun G H σ ς Q S q=>KD.now q S rfl⟩
def toV:D->V
 | .bl b=>.bl b
 | .int i=>.int i
 | .str x=>.str x
 | _=>.non
theorem QxK{K:PySem.W.Frag}{CT:CTab}{H:Hp}:∀{d:D},d.scal=true->Rep K CT H d (toV d)
 | .non,_=>rfl
 | .bl _,_=>rfl
 | .int _,_=>rfl
 | .str _,_=>rfl
theorem QeN{x:Str}{d:D}{u:Value}(hg:Gl C.X x)(hm:C.X.mg x=some u)(hs:d.scal=true)(r:RelV (toV d) u)(hd:(x == ("__debug__":Str))=false:=by decide):DE C (.Name x pos) (eC d):=
 ⟨_,QoU hg hm r hd,fun G H σ ς Q S q=>KD.now q S (QxK hs)⟩
end
def e1(f:D->Out D)(a:SD->Out D):SD->Out D:=fun ς=>a ς>>=f
def e2(f:D->D->Out D)(a b:SD->Out D):SD->Out D:=fun ς=>a ς>>=fun x=>b ς>>=fun y=>f x y
def DRS(C:Dc)(r:R2)(f:D->D->Out D):Prop:=∀ G H σ ς (Q:VK) x y vx vy,StR C G H σ ς->Rep C.X.K C.CT H x vx->Rep C.X.K C.CT H y vy->
 (f x y).post (fun d=>d.scal=true/\Q (toV d) H) (fun _=>False)->r vx vy H Q
def scal2(f:D->D->Out D):Prop:=∀ x y,match f x y with | .ok d=>d.scal=true | .exc _=>False | .stuck=>True
section
variable{C:Dc}{a b c:Expr}{A B A':SD->Out D}{pos:Pos}
theorem QlX{o:Out D}{G H:Hp}{σ:St}{ς:SD}{Q:VK}(S:StR C G H σ ς)(hs:match o with | .ok d=>d.scal=true | .exc _=>False | .stuck=>True)(q:o.post (KD C G H σ ς Q) C.XD):
 o.post (fun d=>d.scal=true/\Q (toV d) H) (fun _=>False):=by
 cases o with
 | ok d=>exact⟨hs,KD.now q S (QxK hs)⟩
 | exc _=>exact hs
 | stuck=>exact q
theorem dop{t:TE}{r:R2}{f:D->D->Out D}{ta tb:TE}(hr:DRS C r f)(hs:scal2 f)
 (h1:∀ G H σ ς Q,StR C G H σ ς->(A ς).post (KB C G H σ ς Q) C.XD->ta σ H Q) (h2:∀ G H σ ς Q,StR C G H σ ς->(B ς).post (KB C G H σ ς Q) C.XD->tb σ H Q):
 ∀ G H σ ς Q,StR C G H σ ς->(e2 f A B ς).post (KD C G H σ ς Q) C.XD->tOp r ta tb σ H Q:=by
 intro G H σ ς Q S q
 unfold e2 at q
 rw[Out.post_bind]at q
 refine h1 G H σ ς _ S (Out.post_mono q fun x k v1 H1 G1 S1 a1 b1 r1=>?_)
 rw[Out.post_bind]at k
 refine h2 G1 H1 σ ς _ S1 (Out.post_mono k fun y k2 v2 H2 G2 S2 a2 b2 r2=>?_)
 refine hr G2 H2 σ ς _ x y v1 v2 S2 (Rep.mono a2 x v1 r1) r2 (QlX S2 (hs x y) ?_)
 exact Out.post_mono k2 fun d kd=>KD.later kd (a1.trans a2) (b1.trans b2)
theorem de_op{op:Operator}{r:R2}{f:D->D->Out D}(ho:OpR C.X (binaryOp op) r)(hr:DRS C r f)(hs:scal2 f)(ha:DB C a A)(hb:DB C b B):DE C (.BinOp a op b pos) (e2 f A B):=by
 obtain⟨ta,p1,q1⟩:=ha
 obtain⟨tb,p2,q2⟩:=hb
 exact⟨_,pe_op ho p1 p2,dop (t:=ta) hr hs q1 q2⟩
theorem QoX{op:CmpOp}{r:R2}{f:D->D->Out D}(ho:OpR C.X (compareOp op) r)(hr:DRS C r f)(hs:scal2 f)(ha:DB C a A)(hb:DB C b B)(hm:behindInMarks op b=false):DE C (.Compare a [op] [b] pos) (e2 f A B):=by
 obtain⟨ta,p1,q1⟩:=ha
 obtain⟨tb,p2,q2⟩:=hb
 exact⟨_,QNK ho p1 p2 hm,dop (t:=ta) hr hs q1 q2⟩
def tVal(a:SD->Out D):SD->Out Bool:=fun ς=>a ς>>=fun d=>match d with | .bl b=>.ok b | _=>.stuck
theorem Qri{o:Out D}{G H:Hp}{σ:St}{ς:SD}{Q:Bool->Hp->Prop}(q:(o>>=fun d=>match d with | .bl b=>Out.ok b | _=>.stuck).post (KT C G H σ ς Q) C.XD):
 o.post (KD C G H σ ς fun x H'=>∃ k,x=.bl k/\Q k H') C.XD:=by
 rw[Out.post_bind]at q
 refine Out.post_mono q fun d k v H' G' S' a b r=>?_
 cases d with
 | bl c=>exact⟨c,r,k H' G' S' a b⟩
 | _=>exact k.elim
theorem Qs7{op:CmpOp}{r:R2}{f:D->D->Out D}(ho:OpR C.X (compareOp op) r)(hr:DRS C r f)(hs:scal2 f)(ha:DB C a A)(hb:DB C b B)(hm:behindInMarks op b=false):DT C (.Compare a [op] [b] pos) (tVal (e2 f A B)):=by
 obtain⟨ta,p1,q1⟩:=ha
 obtain⟨tb,p2,q2⟩:=hb
 exact⟨_,QMT ho p1 p2 hm,fun G H σ ς Q S q=>dop (t:=ta) hr hs q1 q2 G H σ ς _ S (Qri q)⟩
theorem Qa0(h:DE C a A)(he:∀ whole,isTrue a C.X.env whole=(do let v ← whole;standAt a.pos;holding [v] (truthy v)):=by intro _;rfl):DT C a (tVal A):=by
 obtain⟨ta,p1,q1⟩:=h
 exact⟨_,QPk p1 he,fun G H σ ς Q S q=>q1 G H σ ς _ S (Qri q)⟩
def Qfl(f g:D->D->Out D)(a b c:SD->Out D):SD->Out D:=fun ς=>a ς>>=fun x=>b ς>>=fun y=>f x y>>=fun z=>match z with
 | .bl true=>c ς>>=fun w=>g y w
 | .bl false=>.ok (.bl false)
 | _=>.stuck
theorem QJV{r r':R2}{f g:D->D->Out D}{ta tb tc:TE}(hr:DRS C r f)(hs:scal2 f)(hr':DRS C r' g)(hs':scal2 g)
 (h1:∀ G H σ ς Q,StR C G H σ ς->(A ς).post (KB C G H σ ς Q) C.XD->ta σ H Q) (h2:∀ G H σ ς Q,StR C G H σ ς->(B ς).post (KB C G H σ ς Q) C.XD->tb σ H Q)
 (h3:∀ G H σ ς Q,StR C G H σ ς->(A' ς).post (KB C G H σ ς Q) C.XD->tc σ H Q):
 ∀ G H σ ς Q,StR C G H σ ς->(Qfl f g A B A' ς).post (KD C G H σ ς Q) C.XD->QBG r r' ta tb tc σ H Q:=by
 intro G H σ ς Q S q
 unfold Qfl at q
 rw[Out.post_bind]at q
 refine h1 G H σ ς _ S (Out.post_mono q fun x k v1 H1 G1 S1 a1 b1 r1=>?_)
 rw[Out.post_bind]at k
 refine h2 G1 H1 σ ς _ S1 (Out.post_mono k fun y k2 v2 H2 G2 S2 a2 b2 r2=>?_)
 rw[Out.post_bind]at k2
 refine hr G2 H2 σ ς _ x y v1 v2 S2 (Rep.mono a2 x v1 r1) r2 ?_
 have hxy:=hs x y
 cases e:f x y with
 | exc _=>rw[e]at hxy;exact hxy
 | stuck=>rw[e]at k2;exact k2.elim
 | ok z=>
  rw[e]at k2
  refine⟨by rw[e]at hxy;exact hxy,?_⟩
  cases z with
  | bl cc=>
   refine⟨cc,rfl,?_⟩
   cases cc with
   | false=>exact iteF (KD.now (KD.later (show KD C G H σ ς Q (.bl false) from k2) (a1.trans a2) (b1.trans b2)) S2 rfl)
   | true=>
    refine iteT (h3 G2 H2 σ ς _ S2 ?_)
    have k2':(A' ς>>=fun w=>g y w).post (KD C G H σ ς Q) C.XD:=k2
    rw[Out.post_bind]at k2'
    refine Out.post_mono k2' fun w k3 v3 H3 G3 S3 a3 b3 r3=>?_
    refine hr' G3 H3 σ ς _ y w v2 v3 S3 (Rep.mono a3 y v2 r2) r3 (QlX S3 (hs' y w) ?_)
    exact Out.post_mono k3 fun d kd=>KD.later kd ((a1.trans a2).trans a3) ((b1.trans b2).trans b3)
  | _=>exact k2.elim
theorem QD7{op op':CmpOp}{r r':R2}{f g:D->D->Out D}(ho:OpR C.X (compareOp op) r)(hr:DRS C r f)(hs:scal2 f)(ho':OpR C.X (compareOp op') r')(hr':DRS C r' g)(hs':scal2 g)
 (ha:DB C a A) (hb:DB C b B) (hc:DB C c A') (hm:lastMarks [op,op'] [b,c]=false:=by with_unfolding_all rfl):DE C (.Compare a [op,op'] [b,c] pos) (Qfl f g A B A'):=by
 obtain⟨ta,p1,q1⟩:=ha
 obtain⟨tb,p2,q2⟩:=hb
 obtain⟨tc,p3,q3⟩:=hc
 exact⟨_,QMv ho ho' p1 p2 p3 hm,QJV hr hs hr' hs' q1 q2 q3⟩
theorem QCA{op op':CmpOp}{r r':R2}{f g:D->D->Out D}(ho:OpR C.X (compareOp op) r)(hr:DRS C r f)(hs:scal2 f)(ho':OpR C.X (compareOp op') r')(hr':DRS C r' g)(hs':scal2 g)
 (ha:DB C a A) (hb:DB C b B) (hc:DB C c A') (hm:lastMarks [op,op'] [b,c]=false:=by with_unfolding_all rfl):DT C (.Compare a [op,op'] [b,c] pos) (tVal (Qfl f g A B A')):=by
 obtain⟨ta,p1,q1⟩:=ha
 obtain⟨tb,p2,q2⟩:=hb
 obtain⟨tc,p3,q3⟩:=hc
 exact⟨_,QMc ho ho' p1 p2 p3 hm,fun G H σ ς Q S q=>QJV hr hs hr' hs' q1 q2 q3 G H σ ς _ S (Qri q)⟩
end
section
variable{C:Dc}
def dI(cnd:Int->Int->Bool)(g:Int->Int->D):D->D->Out D
 | .int i,.int j=>if cnd i j=true then .ok (g i j) else .stuck
 | _,_=>.stuck
def dI0(g:Int->Int->D):D->D->Out D
 | .int i,.int j=>.ok (g i j)
 | _,_=>.stuck
theorem QR{α:Type}{c:Prop}[Decidable c]{a b:Out α}{k:α->Prop}{x:D->Prop}(h:(if c then a else b).post k x):(c/\a.post k x)∨(¬ c/\b.post k x):=by
 by_cases e:c
 ·rw[if_pos e]at h;exact .inl ⟨e,h⟩
 ·rw[if_neg e]at h;exact .inr ⟨e,h⟩
theorem Qli{c:Prop}[Decidable c]{d:D}(h:d.scal=true):match (if c then Out.ok d else Out.stuck:Out D) with | .ok d=>d.scal=true | .exc _=>False | .stuck=>True:=by
 by_cases e:c
 ·rw[if_pos e];exact h
 ·rw[if_neg e];exact True.intro
theorem Qtm{cnd:Int->Int->Bool}{g:Int->Int->D}(h:∀ i j,(g i j).scal=true):scal2 (dI cnd g):=by
 intro x y
 cases x with
 | int i=>
  cases y with
  | int j=>exact Qli (h i j)
  | _=>exact True.intro
 | _=>exact True.intro
theorem Qbw{g:Int->Int->D}(h:∀ i j,(g i j).scal=true):scal2 (dI0 g):=by
 intro x y
 cases x<;>cases y<;>simp[dI0,h]
theorem QwI{cnd:Int->Int->Bool}{P:Int->Int->Prop}{g:Int->Int->D}(hP:∀ i j,cnd i j=true->P i j):DRS C (rI P fun i j=>toV (g i j)) (dI cnd g):=by
 intro G H σ ς Q x y vx vy S hx hy q
 cases x with
 | int i=>
  cases y with
  | int j=>
   cases hx;cases hy
   refine⟨i,j,rfl,rfl,?_⟩
   rcases QR (show(if cnd i j=true then Out.ok (g i j) else Out.stuck).post _ _ from q) with⟨hc,q⟩ | ⟨hc,q⟩
   ·exact⟨hP i j hc,q.2⟩
   ·exact q.elim
  | _=>exact q.elim
 | _=>exact q.elim
theorem Qb7{g:Int->Int->D}:DRS C (rI0 fun i j=>toV (g i j)) (dI0 g):=by
 intro G H σ ς Q x y vx vy S hx hy q
 cases x with
 | int i=>
  cases y with
  | int j=>
   cases hx;cases hy
   exact⟨i,j,rfl,rfl,q.2⟩
  | _=>exact q.elim
 | _=>exact q.elim
variable{a b c:Expr}{A B:SD->Out D}{pos:Pos}
def dSub:D->D->Out D:=dI0 fun i j=>.int (i - j)
def big(i:Int):Bool:=decide (i.natAbs<2 ^ 9000)
def dMul:D->D->Out D:=dI (fun i j=>decide (Builtin.Int.intBits i+Builtin.Int.intBits j<=134217728)) fun i j=>.int (i * j)
def dFdiv:D->D->Out D:=dI (fun i j=>decide (j≠0)&&big j) fun i j=>.int (i.fdiv j)
def dMod:D->D->Out D:=dI (fun i j=>decide (j≠0)) fun i j=>.int (i.fmod j)
def dPow:D->D->Out D:=dI (fun i j=>decide (0<=j)&&decide (j<=1000000)&&decide (i.natAbs<2 ^ 64)) fun i j=>.int (i ^ j.toNat)
theorem QMh{i:Int}(h:big i=true):i.natAbs.log2<9000:=by
 have h':i.natAbs<2 ^ 9000:=of_decide_eq_true h
 by_cases z:i.natAbs=0
 ·rw[z];decide
 ·exact(Nat.log2_lt z).mpr h'
theorem QNV{X:Cx}:OpR X (binaryOp .Mult) (rI IntMulOk fun i j=>.int (i * j)):=opI fun _ _ _ _ _ _ _ hc q=>mul_int q hc
def CDivB(i j:Int):Prop:=j≠0/\j.natAbs.log2<9000
theorem QMo{X:Cx}:OpR X (binaryOp .FloorDiv) (rI CDivB fun i j=>.int (i.fdiv j)):=opI fun _ _ _ _ _ _ _ hc q=>floordiv_int hc.1 q (.inl (PyProof.noPylong_of_log2 hc.2))
theorem QeB(ha:DB C a A)(hb:DB C b B):DE C (.BinOp a .Sub b pos) (e2 dSub A B):=de_op QPh Qb7 (Qbw fun _ _=>rfl) ha hb
theorem QcJ(ha:DB C a A)(hb:DB C b B):DE C (.BinOp a .Mult b pos) (e2 dMul A B):=de_op QNV (QwI fun i j h=>IntMulOk.of_le (Nat.le_refl _) (Nat.le_refl _) (of_decide_eq_true h)) (Qtm fun _ _=>rfl) ha hb
theorem QcG(ha:DB C a A)(hb:DB C b B):DE C (.BinOp a .FloorDiv b pos) (e2 dFdiv A B):=de_op QMo (QwI fun i j h=>by
 rw[Bool.and_eq_true]at h
 exact⟨of_decide_eq_true h.1,QMh h.2⟩) (Qtm fun _ _=>rfl) ha hb
theorem Qac(ha:DB C a A)(hb:DB C b B):DE C (.BinOp a .Mod b pos) (e2 dMod A B):=de_op QNF (QwI fun i j h=>of_decide_eq_true h) (Qtm fun _ _=>rfl) ha hb
theorem QOY(ha:DB C a A)(hb:DB C b B):DE C (.BinOp a .Pow b pos) (e2 dPow A B):=de_op QOS (QwI fun i j h=>by
 rw[Bool.and_eq_true,Bool.and_eq_true]at h
 exact⟨of_decide_eq_true h.1.1,of_decide_eq_true h.1.2,of_decide_eq_true h.2⟩) (Qtm fun _ _=>rfl) ha hb
def dAdd:D->D->Out D
 | .int i,.int j=>.ok (.int (i+j))
 | .str x,.str y=>if x.length+y.length<=sizeLine then .ok (.str (x++y)) else .stuck
 | _,_=>.stuck
theorem Qas(ha:DB C a A)(hb:DB C b B):DE C (.BinOp a .Add b pos) (e2 dAdd A B):=by
 refine de_op (QN9.or QHE) ?_ ?_ ha hb
 ·intro G H σ ς Q x y vx vy S hx hy q
  cases x with
  | int i=>
   cases y with
   | int j=>
    cases hx;cases hy
    exact .inl ⟨i,j,rfl,rfl,q.2⟩
   | _=>exact q.elim
  | str i=>
   cases y with
   | str j=>
    cases hx;cases hy
    rcases QR (show(if i.length+j.length<=sizeLine then Out.ok (D.str (i++j)) else Out.stuck).post _ _ from q) with⟨hc,q⟩ | ⟨hc,q⟩
    ·exact .inr ⟨i,j,rfl,rfl,hc,q.2⟩
    ·exact q.elim
   | _=>exact q.elim
  | _=>exact q.elim
 ·intro x y
  cases x with
  | int i=>
   cases y with
   | int j=>exact rfl
   | _=>exact True.intro
  | str i=>
   cases y with
   | str j=>exact Qli rfl
   | _=>exact True.intro
  | _=>exact True.intro
def dLt:D->D->Out D:=dI0 fun i j=>.bl (decide (i<j))
def dLe:D->D->Out D:=dI0 fun i j=>.bl (decide (i<=j))
def dGt:D->D->Out D:=dI0 fun i j=>.bl (decide (j<i))
def dGe:D->D->Out D:=dI0 fun i j=>.bl (decide (j<=i))
end
section
variable{C:Dc}{a b c:Expr}{A B:SD->Out D}{pos:Pos}
def dNeg:D->Out D
 | .int i=>.ok (.int (-i))
 | _=>.stuck
theorem Qjn(ha:DB C a A):DE C (.UnaryOp .USub a pos) (e1 dNeg A):=by
 obtain⟨ta,p1,q1⟩:=ha
 refine⟨_,pe_un QOi p1,fun G H σ ς Q S q=>?_⟩
 unfold e1 at q
 rw[Out.post_bind]at q
 refine q1 G H σ ς _ S (Out.post_mono q fun x k v1 H1 G1 S1 a1 b1 r1=>?_)
 cases x with
 | int i=>cases r1;exact⟨i,rfl,KD.now (KD.later k a1 b1) S1 rfl⟩
 | _=>exact k.elim
variable{TA TB:SD->Out Bool}{rest:List Expr}
def tAnd'(a b:SD->Out Bool):SD->Out Bool:=fun ς=>a ς>>=fun c=>if c=true then b ς else .ok false
def tOr'(a b:SD->Out Bool):SD->Out Bool:=fun ς=>a ς>>=fun c=>if c=true then .ok true else b ς
def tNot'(a:SD->Out Bool):SD->Out Bool:=fun ς=>a ς>>=fun c=>.ok (!c)
theorem DW.dt{e:Expr}{T:SD->Out Bool}(h:DW C e T):DT C e T:=let ⟨t,p,q⟩:=h;⟨t,p.pt,q⟩
theorem Qgc(ha:DT C a TA):DW C (.BoolOp .Or [a] pos) TA:=let ⟨t,p,q⟩:=ha;⟨t,QOF p,q⟩
theorem dw_or(ha:DT C a TA)(hb:DW C (.BoolOp .Or (b::rest) pos) TB):DW C (.BoolOp .Or (a::b::rest) pos) (tOr' TA TB):=by
 obtain⟨t1,p1,q1⟩:=ha
 obtain⟨t2,p2,q2⟩:=hb
 refine⟨_,pw_or p1 p2,fun G H σ ς Q S q=>?_⟩
 unfold tOr' at q
 rw[Out.post_bind]at q
 refine q1 G H σ ς _ S (Out.post_mono q fun x k H1 G1 S1 a1 b1=>?_)
 cases x with
 | true=>exact iteT (KT.now (KT.later (show KT C G H σ ς Q true from k) a1 b1) S1)
 | false=>exact iteF (q2 G1 H1 σ ς _ S1 (Out.post_mono (show(TB ς).post _ _ from k) fun x k=>KT.later k a1 b1))
theorem QaN(ha:DT C a TA):DT C (.UnaryOp .Not a pos) (tNot' TA):=by
 obtain⟨t1,p1,q1⟩:=ha
 refine⟨_,QOx p1,fun G H σ ς Q S q=>?_⟩
 unfold tNot' at q
 rw[Out.post_bind]at q
 exact q1 G H σ ς _ S (Out.post_mono q fun x k H1 G1 S1 a1 b1=>k H1 G1 S1 a1 b1)
def eAnd(a b:SD->Out D):SD->Out D:=fun ς=>a ς>>=fun d=>match d with | .bl true=>b ς | .bl false=>.ok (.bl false) | _=>.stuck
def eOr(a b:SD->Out D):SD->Out D:=fun ς=>a ς>>=fun d=>match d with | .bl true=>.ok (.bl true) | .bl false=>b ς | _=>.stuck
def eNot(a:SD->Out D):SD->Out D:=fun ς=>a ς>>=fun d=>match d with | .bl c=>.ok (.bl (!c)) | _=>.stuck
theorem Qjs{op}(h:DE C a A):DE C (.BoolOp op [a] pos) A:=let ⟨t,p,q⟩:=h;⟨t,QOy p,q⟩
theorem QeJ(ha:DE C a A)(hb:DE C (.BoolOp .And (b::rest) pos) B):DE C (.BoolOp .And (a::b::rest) pos) (eAnd A B):=by
 obtain⟨t1,p1,q1⟩:=ha
 obtain⟨t2,p2,q2⟩:=hb
 refine⟨_,QOj p1 p2,fun G H σ ς Q S q=>?_⟩
 unfold eAnd at q
 rw[Out.post_bind]at q
 refine q1 G H σ ς _ S (Out.post_mono q fun x k v1 H1 G1 S1 a1 b1 r1=>?_)
 cases x with
 | bl c=>
  refine⟨c,r1,?_⟩
  cases c with
  | true=>exact iteT (q2 G1 H1 σ ς _ S1 (Out.post_mono (show(B ς).post _ _ from k) fun x k=>KD.later k a1 b1))
  | false=>exact iteF (KD.now (KD.later (show KD C G H σ ς Q (.bl false) from k) a1 b1) S1 rfl)
 | _=>exact k.elim
theorem QO2(ha:DE C a A):DE C (.UnaryOp .Not a pos) (eNot A):=by
 obtain⟨t1,p1,q1⟩:=ha
 refine⟨_,QOh p1,fun G H σ ς Q S q=>?_⟩
 unfold eNot at q
 rw[Out.post_bind]at q
 refine q1 G H σ ς _ S (Out.post_mono q fun x k v1 H1 G1 S1 a1 b1 r1=>?_)
 cases x with
 | bl c=>exact⟨c,r1,KD.now (KD.later (show KD C G H σ ς Q (.bl (!c)) from k) a1 b1) S1 rfl⟩
 | _=>exact k.elim
def eIf(t:SD->Out Bool)(a b:SD->Out D):SD->Out D:=fun ς=>t ς>>=fun c=>if c=true then a ς else b ς
theorem de_if{t:Expr}(ht:DT C t TA)(ha:DE C a A)(hb:DE C b B):DE C (.IfExp t a b pos) (eIf TA A B):=by
 obtain⟨t0,p0,q0⟩:=ht
 obtain⟨t1,p1,q1⟩:=ha
 obtain⟨t2,p2,q2⟩:=hb
 refine⟨_,QLZ p0 p1 p2,fun G H σ ς Q S q=>?_⟩
 unfold eIf at q
 rw[Out.post_bind]at q
 refine q0 G H σ ς _ S (Out.post_mono q fun x k H1 G1 S1 a1 b1=>?_)
 cases x with
 | true=>exact iteT (q1 G1 H1 σ ς _ S1 (Out.post_mono (show(A ς).post _ _ from k) fun x k=>KD.later k a1 b1))
 | false=>exact iteF (q2 G1 H1 σ ς _ S1 (Out.post_mono (show(B ς).post _ _ from k) fun x k=>KD.later k a1 b1))
end
end DL
namespace DL
open PySem PySem.Spec PyProof.Rows L2
def aNil:SD->Out (List D):=fun _=>.ok []
def aCons(a:SD->Out D)(r:SD->Out (List D)):SD->Out (List D):=fun ς=>a ς>>=fun x=>r ς>>=fun xs=>.ok (x::xs)
section
variable{C:Dc}{e:Expr}{es:List Expr}{E:SD->Out D}{A:SD->Out (List D)}{pos:Pos}
theorem Qi:DA C [] aNil:=⟨_,Qc9,fun G H σ ς Q S q=>q [] H G S (Same.refl H) (Same.refl G) rfl⟩
theorem Qu:DAB C [] aNil:=⟨_,Qc9,fun G H σ ς Q S q=>q [] H G S (Same.refl H) (Same.refl G) rfl⟩
theorem Qd(ha:DE C e E)(hr:DA C es A)(hs:starEach (e::es) C.X.env=(false,eval e C.X.env)::starEach es C.X.env:=by rfl):DA C (e::es) (aCons E A):=by
 obtain⟨t1,p1,q1⟩:=ha
 obtain⟨t2,p2,q2⟩:=hr
 refine⟨_,QaS p1 p2 hs,fun G H σ ς Q S q=>?_⟩
 unfold aCons at q
 rw[Out.post_bind]at q
 refine q1 G H σ ς _ S (Out.post_mono q fun x k v1 H1 G1 S1 a1 b1 r1=>?_)
 rw[Out.post_bind]at k
 refine q2 G1 H1 σ ς _ S1 (Out.post_mono k fun xs k2 vs H2 G2 S2 a2 b2 r2=>?_)
 exact k2 (v1::vs) H2 G2 S2 (a1.trans a2) (b1.trans b2) ⟨v1,vs,rfl,Rep.mono b2 x v1 r1,r2⟩
theorem Qm(ha:DB C e E)(hr:DAB C es A)(hs:starEach (e::es) C.X.env=(false,eval e C.X.env)::starEach es C.X.env:=by rfl):DAB C (e::es) (aCons E A):=by
 obtain⟨t1,p1,q1⟩:=ha
 obtain⟨t2,p2,q2⟩:=hr
 refine⟨_,QaS p1 p2 hs,fun G H σ ς Q S q=>?_⟩
 unfold aCons at q
 rw[Out.post_bind]at q
 refine q1 G H σ ς _ S (Out.post_mono q fun x k v1 H1 G1 S1 a1 b1 r1=>?_)
 rw[Out.post_bind]at k
 refine q2 G1 H1 σ ς _ S1 (Out.post_mono k fun xs k2 vs H2 G2 S2 a2 b2 r2=>?_)
 exact k2 (v1::vs) H2 G2 S2 (a1.trans a2) (b1.trans b2) ⟨v1,vs,rfl,Rep.mono a2 x v1 r1,r2⟩
def fits(n:Nat):Bool:=decide (n<=sizeLine)
def eTup(a:SD->Out (List D)):SD->Out D:=fun ς=>a ς>>=fun xs=>if fits xs.length=true then .ok (.tup xs) else .stuck
def eLst(a:SD->Out (List D)):SD->Out D:=fun ς=>a ς>>=fun xs=>if fits xs.length=true then .ok (.lst xs) else .stuck
theorem Qvn{x1}(h:DA C es A):DE C (.Tuple es x1 pos) (eTup A):=by
 obtain⟨t,p,q⟩:=h
 refine⟨_,QJM p,fun G H σ ς Q S k=>?_⟩
 unfold eTup at k
 rw[Out.post_bind]at k
 refine q G H σ ς _ S (Out.post_mono k fun xs k2 vs H1 G1 S1 a1 b1 r1=>?_)
 rcases QR k2 with⟨hc,k3⟩ | ⟨_,k3⟩
 ·exact⟨by rw[← r1.length];exact of_decide_eq_true hc,KD.tup (KD.later k3 a1 b1) S1 r1⟩
 ·exact k3.elim
theorem QaP(h:DA C es A):DF C (.List es pos) (eLst A):=by
 obtain⟨t,p,q⟩:=h
 refine⟨_,QO5 p,fun G H σ ς Q S k=>?_⟩
 unfold eLst at k
 rw[Out.post_bind]at k
 refine q G H σ ς _ S (Out.post_mono k fun xs k2 vs H1 G1 S1 a1 b1 r1=>?_)
 rcases QR k2 with⟨hc,k3⟩ | ⟨_,k3⟩
 ·exact⟨by rw[← r1.length];exact of_decide_eq_true hc,KF.lst (KF.later k3 a1 b1) S1 r1⟩
 ·exact k3.elim
end
theorem Qo5{K:PySem.W.Frag}{CT:CTab}{H:Hp}{ds:List D}{vs:List V}{i:Int}{d:D}(r:RepL K CT H ds vs)(h:atI ds i=some d):∃ v,atI vs i=some v/\Rep K CT H d v:=by
 unfold atI at h ⊢
 rw[← r.length]
 cases e:ixN ds.length i with
 | none=>rw[e]at h;cases h
 | some j=>
  rw[e]at h
  exact r.get h
def optO{α:Type}:Option α->Out α
 | some a=>.ok a
 | none=>.stuck
theorem QcK{α:Type}{o:Option α}{k:α->Prop}{x:D->Prop}(h:(optO o).post k x):∃ a,o=some a/\k a:=by
 cases o with
 | none=>exact h.elim
 | some a=>exact⟨a,rfl,h⟩
def dIx:D->D->Out D
 | .lst xs,.int i=>optO (atI xs i)
 | .tup xs,.int i=>optO (atI xs i)
 | .str x,.int i=>if fits x.length=true then optO ((atI x.cps.toList i).map fun c=>D.str ⟨#[c]⟩) else .stuck
 | _,_=>.stuck
section
variable{C:Dc}{a b:Expr}{A B:SD->Out D}{pos:Pos}
theorem QPu{R:Hp->Hp}{G H:Hp}{σ:St}{ς:SD}{Q:VK}{x y:D}{vx vy:V}{k:D->Prop}(hx:Rep C.X.K C.CT H x vx)(hy:Rep C.X.K C.CT H y vy)
 (q:(dIx x y).post k C.XD) (hk:∀ d v,k d->Rep C.X.K C.CT H d v->Q v H):rIx C.X.K vx vy H Q:=by
 cases y with
 | int i=>
  cases hy
  cases x with
  | lst xs=>
   obtain⟨p,vs,rfl,h2,h3⟩:=hx
   obtain⟨d,e,kd⟩:=QcK q
   obtain⟨v,e2,r⟩:=Qo5 h3 e
   exact .inl ⟨p,vs,i,v,rfl,rfl,h2,e2,hk d v kd r⟩
  | tup xs=>
   obtain⟨p,vs,rfl,h2,h3⟩:=hx
   obtain⟨d,e,kd⟩:=QcK q
   obtain⟨v,e2,r⟩:=Qo5 h3 e
   exact .inr (.inl ⟨p,vs,i,v,rfl,rfl,h2,e2,hk d v kd r⟩)
  | str z=>
   cases hx
   rcases QR (show(if fits z.length=true then optO ((atI z.cps.toList i).map fun c=>D.str ⟨#[c]⟩) else .stuck).post k C.XD from q) with⟨hc,q⟩ | ⟨_,q⟩
   ·obtain⟨d,e,kd⟩:=QcK q
    cases e3:atI z.cps.toList i with
    | none=>rw[e3]at e;cases e
    | some c=>
     rw[e3]at e
     cases e
     exact .inr (.inr ⟨z,i,c,rfl,rfl,of_decide_eq_true hc,e3,hk _ _ kd rfl⟩)
   ·exact q.elim
  | _=>exact q.elim
 | _=>cases x<;>exact q.elim
theorem db_ix(ha:DB C a A)(hb:DB C b B)(hs:Qtl b:=by intro _ _;rfl):DB C (.Subscript a b pos) (e2 dIx A B):=by
 obtain⟨ta,p1,q1⟩:=ha
 obtain⟨tb,p2,q2⟩:=hb
 refine⟨_,pe_ix QDg p1 p2 hs,fun G H σ ς Q S q=>?_⟩
 unfold e2 at q
 rw[Out.post_bind]at q
 refine q1 G H σ ς _ S (Out.post_mono q fun x k v1 H1 G1 S1 a1 b1 r1=>?_)
 rw[Out.post_bind]at k
 refine q2 G1 H1 σ ς _ S1 (Out.post_mono k fun y k2 v2 H2 G2 S2 a2 b2 r2=>?_)
 exact QPu (R:=id) (G:=G2) (σ:=σ) (ς:=ς) (Rep.mono a2 x v1 r1) r2 k2 fun d v kd r=>KB.now (KB.later kd (a1.trans a2) (b1.trans b2)) S2 r
theorem de_ix(ha:DE C a A)(hb:DB C b B)(hs:Qtl b:=by intro _ _;rfl):DE C (.Subscript a b pos) (e2 dIx A B):=by
 obtain⟨ta,p1,q1⟩:=ha
 obtain⟨tb,p2,q2⟩:=hb
 refine⟨_,pe_ix QDg p1 p2 hs,fun G H σ ς Q S q=>?_⟩
 unfold e2 at q
 rw[Out.post_bind]at q
 refine q1 G H σ ς _ S (Out.post_mono q fun x k v1 H1 G1 S1 a1 b1 r1=>?_)
 rw[Out.post_bind]at k
 refine q2 G1 H1 σ ς _ S1 (Out.post_mono k fun y k2 v2 H2 G2 S2 a2 b2 r2=>?_)
 have r1':=Rep.mono b2 x v1 r1
 cases y with
 | int i=>
  cases r2
  cases x with
  | lst xs=>
   obtain⟨p,vs,rfl,h2,h3⟩:=r1'
   obtain⟨d,e,kd⟩:=QcK k2
   obtain⟨v,e2,r⟩:=Qo5 h3 e
   exact .inl ⟨p,vs,i,v,rfl,rfl,S2.sub.seq h2,e2,KD.now (KD.later kd (a1.trans a2) (b1.trans b2)) S2 r⟩
  | tup xs=>
   obtain⟨p,vs,rfl,h2,h3⟩:=r1'
   obtain⟨d,e,kd⟩:=QcK k2
   obtain⟨v,e2,r⟩:=Qo5 h3 e
   exact .inr (.inl ⟨p,vs,i,v,rfl,rfl,Same.sqT S2.sub h2,e2,KD.now (KD.later kd (a1.trans a2) (b1.trans b2)) S2 r⟩)
  | str z=>
   cases r1'
   rcases QR (show(if fits z.length=true then optO ((atI z.cps.toList i).map fun c=>D.str ⟨#[c]⟩) else .stuck).post _ C.XD from k2) with⟨hc,q⟩ | ⟨_,q⟩
   ·obtain⟨d,e,kd⟩:=QcK q
    cases e3:atI z.cps.toList i with
    | none=>rw[e3]at e;cases e
    | some c=>
     rw[e3]at e
     cases e
     exact .inr (.inr ⟨z,i,c,rfl,rfl,of_decide_eq_true hc,e3,KD.now (KD.later kd (a1.trans a2) (b1.trans b2)) S2 rfl⟩)
   ·exact q.elim
  | _=>exact k2.elim
 | _=>cases x<;>exact k2.elim
end
def cutD{α:Type}(xs:List α)(lo hi:Option Int):List α:=(xs.drop (HT.sIx xs.length 0 lo)).take (HT.sIx xs.length xs.length hi - HT.sIx xs.length 0 lo)
theorem QNN{K:PySem.W.Frag}{CT:CTab}{H:Hp}{ds:List D}{vs:List V}(lo hi:Option Int)(r:RepL K CT H ds vs):RepL K CT H (cutD ds lo hi) (cutV vs lo hi):=by
 unfold cutD cutV
 rw[r.length]
 exact(r.drop _).take _
def oNo:SD->Out (Option Int):=fun _=>.ok none
def oSome(e:SD->Out D):SD->Out (Option Int):=fun ς=>e ς>>=fun d=>match d with | .int i=>.ok (some i) | _=>.stuck
def DO(C:Dc)(e:Option Expr)(T:SD->Out (Option Int)):Prop:=∃ t,PO C.X e t/\∀ G H σ ς Q,StR C G H σ ς->(T ς).post (fun o=>∀ H' G',StR C G' H' σ ς->Same H H'->Same G G'->Q o H') C.XD->t σ H Q
section
variable{C:Dc}{a b:Expr}{A B:SD->Out D}{lo hi:Option Expr}{L U:SD->Out (Option Int)}{pos p2:Pos}
theorem QNz:DO C none oNo:=⟨_,QNT,fun G H σ ς Q S q=>q H G S (Same.refl H) (Same.refl G)⟩
theorem Qxw(h:DB C a A):DO C (some a) (oSome A):=by
 obtain⟨t,p,q⟩:=h
 refine⟨_,QNb p,fun G H σ ς Q S k=>?_⟩
 unfold oSome at k
 rw[Out.post_bind]at k
 refine q G H σ ς _ S (Out.post_mono k fun x k2 v1 H1 G1 S1 a1 b1 r1=>?_)
 cases x with
 | int i=>cases r1;exact⟨i,rfl,k2 H1 G1 S1 a1 b1⟩
 | _=>exact k2.elim
def eSl(a:SD->Out D)(l u:SD->Out (Option Int)):SD->Out D:=fun ς=>a ς>>=fun x=>l ς>>=fun i=>u ς>>=fun j=>match x with
 | .lst xs=>.ok (.lst (cutD xs i j))
 | _=>.stuck
theorem df_sl(ha:DE C a A)(hl:DO C lo L)(hu:DO C hi U):DF C (.Subscript a (.Slice lo hi none p2) pos) (eSl A L U):=by
 obtain⟨ta,p1,q1⟩:=ha
 obtain⟨tl,p3,q3⟩:=hl
 obtain⟨tu,p4,q4⟩:=hu
 refine⟨_,QL3 QNd p1 p3 p4,fun G H σ ς Q S q=>?_⟩
 unfold eSl at q
 rw[Out.post_bind]at q
 refine q1 G H σ ς _ S (Out.post_mono q fun x k v1 H1 G1 S1 a1 b1 r1=>?_)
 rw[Out.post_bind]at k
 refine q3 G1 H1 σ ς _ S1 (Out.post_mono k fun i k2 H2 G2 S2 a2 b2=>?_)
 rw[Out.post_bind]at k2
 refine q4 G2 H2 σ ς _ S2 (Out.post_mono k2 fun j k3 H3 G3 S3 a3 b3=>?_)
 cases x with
 | lst xs=>
  obtain⟨p,vs,rfl,h2,h3⟩:=Rep.mono (b2.trans b3) _ v1 r1
  exact⟨p,vs,rfl,S3.sub.seq h2,KF.lst (KF.later (show KF C G H σ ς Q (.lst (cutD xs i j)) from k3) ((a1.trans a2).trans a3) ((b1.trans b2).trans b3)) S3 (QNN i j h3)⟩
 | _=>exact k3.elim
end
section
variable{C:Dc}{x:Str}{p pos:Pos}{e:Expr}{es:List Expr}{A:SD->Out (List D)}{id T:String}
def eA(f:List D->Out D)(a:SD->Out (List D)):SD->Out D:=fun ς=>a ς>>=f
def DCS(C:Dc)(r:List V->Hp->VK->Prop)(f:List D->Out D):Prop:=∀ G H σ ς (Q:VK) xs vs,StR C G H σ ς->RepL C.X.K C.CT H xs vs->
 (f xs).post (fun d=>d.scal=true/\Q (toV d) H) (fun _=>False)->r vs H Q
def scalA(f:List D->Out D):Prop:=∀ xs,match f xs with | .ok d=>d.scal=true | .exc _=>False | .stuck=>True
theorem dcall{r:List V->Hp->VK->Prop}{f:List D->Out D}{t:TA}(hr:DCS C r f)(hs:scalA f)
 (h:∀ G H σ ς Q,StR C G H σ ς->(A ς).post (fun ds=>∀ vs H' G',StR C G' H' σ ς->Same H H'->Same G G'->RepL C.X.K C.CT H' ds vs->Q vs H') C.XD->t σ H Q):
 ∀ G H σ ς Q,StR C G H σ ς->(eA f A ς).post (KD C G H σ ς Q) C.XD->tCB r t σ H Q:=by
 intro G H σ ς Q S q
 unfold eA at q
 rw[Out.post_bind]at q
 refine h G H σ ς _ S (Out.post_mono q fun ds k vs H1 G1 S1 a1 b1 r1=>?_)
 exact hr G1 H1 σ ς Q ds vs S1 r1 (QlX S1 (hs ds) (Out.post_mono k fun d kd=>KD.later kd a1 b1))
theorem Qie{r:List V->Hp->VK->Prop}{f:List D->Out D}(hc:CallR C.X (.builtin id) r)(hr:DCS C r f)(hs:scalA f)(hg:Gl C.X x)(hm:C.X.mg x=none)(hv:bootBuiltins x=some (.builtin id))(ha:DAB C (e::es) A)(hn:x≠"__name__":=by decide)(hdb:(x == ("__debug__":Str))=false:=by decide)
 (he:starEach (e::es) C.X.env=(false,eval e C.X.env)::starEach es C.X.env:=by rfl) (hpl:(backTo pos (starEach es C.X.env)).any (·.1)=false:=by rfl):DE C (.Call (.Name x p) (e::es) [] pos) (eA f A):=by
 obtain⟨t,p1,q1⟩:=ha
 exact⟨_,QuD hc hg hm hv p1 hn hdb he hpl,dcall hr hs q1⟩
theorem QKN{r:List V->Hp->VK->Prop}{f:List D->Out D}(hc:CallR C.X (.type T) r)(hr:DCS C r f)(hs:scalA f)(hg:Gl C.X x)(hm:C.X.mg x=none)(hv:bootBuiltins x=some (.type T))(ha:DAB C (e::es) A)(hn:x≠"__name__":=by decide)(hdb:(x == ("__debug__":Str))=false:=by decide)
 (he:starEach (e::es) C.X.env=(false,eval e C.X.env)::starEach es C.X.env:=by rfl) (hpl:(backTo pos (starEach es C.X.env)).any (·.1)=false:=by rfl):DE C (.Call (.Name x p) (e::es) [] pos) (eA f A):=by
 obtain⟨t,p1,q1⟩:=ha
 exact⟨_,QyS hc hg hm hv p1 hn hdb he hpl,dcall hr hs q1⟩
def fLen:List D->Out D
 | [.lst xs]=>.ok (.int xs.length)
 | [.tup xs]=>.ok (.int xs.length)
 | [.str x]=>if fits x.length=true then .ok (.int x.length) else .stuck
 | _=>.stuck
theorem QNL:DCS C (fun xs H Q=>(∃ p ys,xs=[.ref p]/\(SqL C.X.K H p ys∨SqT C.X.K H p ys)/\Q (.int ys.length) H)∨∃ z,xs=[.str z]/\z.length<=sizeLine/\Q (.int z.length) H) fLen:=by
 intro G H σ ς Q xs vs S r q
 cases xs with
 | nil=>exact q.elim
 | cons x xr=>
  obtain⟨v,vr,rfl,r1,r2⟩:=r
  cases xr with
  | cons y yr=>cases x<;>exact q.elim
  | nil=>
   cases r2
   cases x with
   | lst ys=>
    obtain⟨p,us,rfl,h2,h3⟩:=r1
    exact .inl ⟨p,us,rfl,.inl h2,by rw[← h3.length];exact q.2⟩
   | tup ys=>
    obtain⟨p,us,rfl,h2,h3⟩:=r1
    exact .inl ⟨p,us,rfl,.inr h2,by rw[← h3.length];exact q.2⟩
   | str z=>
    cases r1
    rcases QR (show(if fits z.length=true then Out.ok (D.int z.length) else .stuck).post _ _ from q) with⟨hc,q⟩ | ⟨_,q⟩
    ·exact .inr ⟨z,rfl,of_decide_eq_true hc,q.2⟩
    ·exact q.elim
   | _=>exact q.elim
theorem QMl:scalA fLen:=by
 intro xs
 cases xs with
 | nil=>exact True.intro
 | cons x xr=>
  cases xr with
  | cons y yr=>cases x<;>exact True.intro
  | nil=>
   cases x with
   | lst ys=>exact rfl
   | tup ys=>exact rfl
   | str z=>exact Qli rfl
   | _=>exact True.intro
theorem Q3(hg:Gl C.X "len")(hm:C.X.mg "len"=none)(ha:DAB C (e::es) A)
 (he:starEach (e::es) C.X.env=(false,eval e C.X.env)::starEach es C.X.env:=by rfl) (hpl:(backTo pos (starEach es C.X.env)).any (·.1)=false:=by rfl):DE C (.Call (.Name "len" p) (e::es) [] pos) (eA fLen A):=
 Qie (QCo.or QCf) QNL QMl hg hm PySem.boot_len ha (by decide) (by decide) he hpl
def f1(g:D->Out D):List D->Out D
 | [x]=>g x
 | _=>.stuck
theorem Qth{g:D->Out D}(h:∀ x,match g x with | .ok d=>d.scal=true | .exc _=>False | .stuck=>True):scalA (f1 g):=by
 intro xs
 match xs with
 | []=>exact True.intro
 | [x]=>exact h x
 | _::_::_=>exact True.intro
def dAbs:D->Out D
 | .int i=>.ok (.int (if i<0 then -i else i))
 | _=>.stuck
theorem Qu0{r:List V->Hp->VK->Prop}{g:D->Out D}(h:∀ G H σ ς (Q:VK) x v,StR C G H σ ς->Rep C.X.K C.CT H x v->(g x).post (fun d=>d.scal=true/\Q (toV d) H) (fun _=>False)->r [v] H Q):DCS C r (f1 g):=by
 intro G H σ ς Q xs vs S r q
 match xs,r with
 | [],_=>exact q.elim
 | [x],⟨v,vr,e1,r1,r2⟩=>cases r2;subst e1;exact h G H σ ς Q x v S r1 q
 | _::_::_,_=>exact q.elim
end
mutual
def D.py:D->PyData
 | .non=>.none
 | .bl b=>.bool b
 | .int i=>.int i
 | .str x=>.str x
 | .lst xs=>.list (D.pys xs)
 | .tup xs=>.tuple (D.pys xs)
 | .dic _=>.dict []
 | .ins _ _=>.dict []
 | .err _=>.dict []
def D.pys:List D->List PyData
 | []=>[]
 | x::xs=>D.py x::D.pys xs
end
section
variable{X:Cx}{pins:List (Addr×Obj)}{σ:L2.St}{H:Hp}{s:Shared}{CT:CTab}
mutual
theorem Qlo(I:Inv X pins σ H s):∀(d:D)(v:V)(u:Value),Rep X.K CT H d v->RelV v u->d.py.canLay0=true->∃ as,Reads s.heap u d.py as
 | .non,_,_,h,r,_=>by cases h;cases r;exact⟨_,.none⟩
 | .bl b,_,_,h,r,_=>by cases h;cases r;exact⟨_,.bool b⟩
 | .int i,_,_,h,r,_=>by cases h;obtain⟨t,rfl⟩:=r;exact⟨_,.int i t⟩
 | .str x,_,_,h,r,_=>by cases h;obtain⟨t,rfl⟩:=r;exact⟨_,.str x t⟩
 | .lst ds,_,_,⟨a,vs,h1,h2,h3⟩,r,c=>by
  subst h1;cases r
  obtain⟨its,q,⟨o,n,ho,hc,_,hd⟩,_⟩:=I.list h2
  obtain⟨as,ra⟩:=QsZ I ds vs its h3 q (by simpa [D.py,PyData.canLay0] using c)
  exact⟨_,.list ho hc hd (by simpa using ra)⟩
 | .tup ds,_,_,⟨a,vs,h1,h2,h3⟩,r,c=>by
  subst h1;cases r
  obtain⟨its,q,⟨o,ho,hc,n,hd⟩,_⟩:=I.tuple h2
  obtain⟨as,ra⟩:=QsZ I ds vs its h3 q (by simpa [D.py,PyData.canLay0] using c)
  exact⟨_,.tuple ho hc hd (by simpa using ra)⟩
 | .dic _,_,_,_,_,c=>by simp[D.py,PyData.canLay0]at c
 | .ins _ _,_,_,_,_,c=>by simp[D.py,PyData.canLay0]at c
 | .err _,_,_,_,_,c=>by simp[D.py,PyData.canLay0]at c
theorem QsZ(I:Inv X pins σ H s):∀(ds:List D)(vs:List V)(us:List Value),RepL X.K CT H ds vs->Vals vs us->PyData.canLayAll0 (D.pys ds)=true->∃ as,ReadsAll s.heap us (D.pys ds) as
 | [],_,_,h,r,_=>by cases h;cases r;exact⟨_,.nil⟩
 | d::ds,_,_,⟨v,w,h1,h2,h3⟩,r,c=>by
  subst h1
  cases r with
  | cons r1 r2=>
   have c':d.py.canLay0=true/\PyData.canLayAll0 (D.pys ds)=true:=by simpa [D.pys,PyData.canLayAll0] using c
   obtain⟨as,q1⟩:=Qlo I d v _ h2 r1 c'.1
   obtain⟨bs,q2⟩:=QsZ I ds w _ h3 r2 c'.2
   exact⟨_,.cons q1 q2⟩
end
end
def shp(d:D):Bool:=SeqAt.shaped d.py
def dEq(x y:D):Out D:=if (shp x&&shp y)=true then .ok (.bl (PyData.eqv x.py y.py)) else .stuck
def dNe(x y:D):Out D:=if (shp x&&shp y)=true then .ok (.bl (!PyData.eqv x.py y.py)) else .stuck
section
variable{C:Dc}{a b:Expr}{A B:SD->Out D}{pos:Pos}
def rEqD(C:Dc)(n:Bool):R2:=fun vx vy H Q=>∃ x y,Rep C.X.K C.CT H x vx/\Rep C.X.K C.CT H y vy/\shp x=true/\shp y=true/\Q (.bl (n != PyData.eqv x.py y.py)) H
theorem QLk(hu:C.X.A.units+64<cLine):OpR C.X (compareOp .Eq) (rEqD C false):=by
 intro pins s σ H vx vy u w Q I rx ry h
 obtain⟨x,y,h1,h2,h3,h4,q⟩:=h
 obtain⟨as,ra⟩:=Qlo I x vx u h1 rx (SeqAt.canLay_of_shaped h3)
 obtain⟨bs,rb⟩:=Qlo I y vy w h2 ry (SeqAt.canLay_of_shaped h4)
 exact eq_dataH ra rb h3 h4 hu ⟨.bl _,H,I,rfl,by simpa using q⟩
theorem QOX(hu:C.X.A.units+64<cLine):OpR C.X (compareOp .NotEq) (rEqD C true):=by
 intro pins s σ H vx vy u w Q I rx ry h
 obtain⟨x,y,h1,h2,h3,h4,q⟩:=h
 obtain⟨as,ra⟩:=Qlo I x vx u h1 rx (SeqAt.canLay_of_shaped h3)
 obtain⟨bs,rb⟩:=Qlo I y vy w h2 ry (SeqAt.canLay_of_shaped h4)
 exact ne_dataH ra rb h3 h4 hu ⟨.bl _,H,I,rfl,by simpa using q⟩
theorem QKg:DRS C (rEqD C false) dEq:=by
 intro G H σ ς Q x y vx vy S hx hy q
 rcases QR q with⟨hc,q⟩ | ⟨_,q⟩
 ·rw[Bool.and_eq_true]at hc
  exact⟨x,y,hx,hy,hc.1,hc.2,by simpa [toV] using q.2⟩
 ·exact q.elim
theorem QOb:DRS C (rEqD C true) dNe:=by
 intro G H σ ς Q x y vx vy S hx hy q
 rcases QR q with⟨hc,q⟩ | ⟨_,q⟩
 ·rw[Bool.and_eq_true]at hc
  exact⟨x,y,hx,hy,hc.1,hc.2,by simpa [toV] using q.2⟩
 ·exact q.elim
theorem QG1:scal2 dEq:=fun x y=>Qli rfl
theorem QMJ:scal2 dNe:=fun x y=>Qli rfl
theorem de_le(ha:DB C a A)(hb:DB C b B):DE C (.Compare a [.LtE] [b] pos) (e2 dLe A B):=QoX op_le Qb7 (Qbw fun _ _=>rfl) ha hb (QhE _)
theorem de_gt(ha:DB C a A)(hb:DB C b B):DE C (.Compare a [.Gt] [b] pos) (e2 dGt A B):=QoX op_gt Qb7 (Qbw fun _ _=>rfl) ha hb (QhE _)
theorem de_ge(ha:DB C a A)(hb:DB C b B):DE C (.Compare a [.GtE] [b] pos) (e2 dGe A B):=QoX op_ge Qb7 (Qbw fun _ _=>rfl) ha hb (QhE _)
theorem dt_lt(ha:DB C a A)(hb:DB C b B):DT C (.Compare a [.Lt] [b] pos) (tVal (e2 dLt A B)):=Qs7 op_lt Qb7 (Qbw fun _ _=>rfl) ha hb (QhE _)
theorem dt_gt(ha:DB C a A)(hb:DB C b B):DT C (.Compare a [.Gt] [b] pos) (tVal (e2 dGt A B)):=Qs7 op_gt Qb7 (Qbw fun _ _=>rfl) ha hb (QhE _)
theorem dt_ge(ha:DB C a A)(hb:DB C b B):DT C (.Compare a [.GtE] [b] pos) (tVal (e2 dGe A B)):=Qs7 op_ge Qb7 (Qbw fun _ _=>rfl) ha hb (QhE _)
theorem de_eq(hu:C.X.A.units+64<cLine)(ha:DB C a A)(hb:DB C b B):DE C (.Compare a [.Eq] [b] pos) (e2 dEq A B):=QoX (QLk hu) QKg QG1 ha hb (QhE _)
theorem dt_eq(hu:C.X.A.units+64<cLine)(ha:DB C a A)(hb:DB C b B):DT C (.Compare a [.Eq] [b] pos) (tVal (e2 dEq A B)):=Qs7 (QLk hu) QKg QG1 ha hb (QhE _)
theorem dt_ne(hu:C.X.A.units+64<cLine)(ha:DB C a A)(hb:DB C b B):DT C (.Compare a [.NotEq] [b] pos) (tVal (e2 dNe A B)):=Qs7 (QOX hu) QOb QMJ ha hb (QhE _)
end
end DL
namespace DL
open PySem PySem.Spec PyProof.Rows L2
section
variable{C:Dc}{a b:Expr}{A B:SD->Out D}{pos:Pos}
end
def Qc8:D->String
 | .non=>"NoneType"
 | .bl _=>"bool"
 | .int _=>"int"
 | .str _=>"str"
 | .lst _=>"list"
 | .tup _=>"tuple"
 | .dic _=>"dict"
 | .ins _ _=>"object"
 | .err _=>"object"
structure ClsD(K:PySem.W.Frag)(A:Addr):Prop where
 cl:Cls K A
 ha:PySem.W.findIn K (.ref A) "__class__"=some (some (.builtin "object.__class__"))
 hn:PySem.W.specialIn K (.builtin "object.__class__") "__get__"=some (some (.builtin "getset_descriptor.__get__"))
 htk:PySem.W.takesIn K (.builtin "object.__class__")=some true
 hm:PySem.W.mroIn K A (.type "object")=some true
def KitD(K:PySem.W.Frag)(CT:CTab)(d:D)(uc:Value)(b:Bool):Prop:=match d with
 | .ins c _=>∀ A,CT c=some A->ClsD K A/\PySem.W.kitOne K (.ref A) uc=some b
 | .err c=>∀ A,CT c=some A->ExCls K A/\PySem.W.kitOne K (.ref A) uc=some b
 | d=>PySem.W.kitOne K (.type (Qc8 d)) uc=some b
section
variable{C:Dc}{e cx:Expr}{E:SD->Out D}{p pos:Pos}{vc:V}{uc:Value}
theorem QN2{pins:List (Addr×Obj)}{σ:L2.St}{H:Hp}{s:Shared}{A:Around}{Ex:Value->Shared->Prop}{Q:Value->Shared->Prop}{d:D}{v:V}{u:Value}{b:Bool}(I:Inv C.X pins σ H s)(h:Rep C.X.K C.CT H d v)(r:RelV v u)(k:KitD C.X.K C.CT d uc b)
 (q:∀ tk,Q (.bool b) { s with toks:=tk }):wpAny (model C.X.prog C.X.w) A (call (.builtin "isinstance") [u,uc]) Q Ex s:=by
 cases d with
 | non=>cases h;cases r;exact PySem.W.kia_one PySem.W.kitx_none I.kIn True.intro k (fun z=>nomatch z) q
 | bl y=>cases h;cases r;exact PySem.W.kia_one PySem.W.kitx_bool I.kIn True.intro k (fun z=>nomatch z) q
 | int i=>cases h;obtain⟨t,rfl⟩:=r;exact PySem.W.kia_one PySem.W.kitx_int I.kIn True.intro k (fun z=>nomatch z) q
 | str i=>cases h;obtain⟨t,rfl⟩:=r;exact PySem.W.kia_one PySem.W.kitx_str I.kIn True.intro k (fun z=>nomatch z) q
 | lst ds=>
  obtain⟨a,vs,rfl,h2,_⟩:=h;cases r
  obtain⟨its,_,⟨o,n,ho,hc,_⟩,_⟩:=I.list h2
  exact PySem.W.kia_one PySem.W.kitx_list I.kIn ⟨o,ho,hc⟩ k (fun z=>nomatch z) q
 | tup ds=>
  obtain⟨a,vs,rfl,h2,_⟩:=h;cases r
  obtain⟨its,_,⟨o,ho,hc,_⟩,_⟩:=I.tuple h2
  exact PySem.W.kia_one PySem.W.kitx_tuple I.kIn ⟨o,ho,hc⟩ k (fun z=>nomatch z) q
 | dic ds=>
  obtain⟨a,kvs,rfl,h2,_⟩:=h;cases r
  obtain⟨_,_,vs,_,p⟩:=h2.ok I.hok
  obtain⟨o,es,ep,h1,h2,_⟩:=p
  exact PySem.W.kia_one PySem.W.kitx_dict I.kIn ⟨o,h1,h2.1⟩ k (fun z=>nomatch z) q
 | ins c fs=>
  obtain⟨a,A',dx,fs',rfl,h1,h2,_⟩:=h;cases r
  obtain⟨cd,kk⟩:=k A' h1
  obtain⟨mA,O,_⟩:=Qo8 I.hok h2
  obtain⟨od,J,_⟩:=O.look
  exact PySem.W.kia_one (PySem.W.kitx_own (cd.cl.get _) cd.cl.hd cd.ha cd.hn cd.htk cd.hm) I.kIn J kk (fun z=>nomatch z) q
 | err c=>
  obtain⟨a,A',rfl,h1,h2⟩:=h;cases r
  obtain⟨cd,kk⟩:=k A' h1
  obtain⟨J,_⟩:=(show ObjOk C.X.prog C.X.w H s.heap a (exO a A') from I.hok a _ h2)
  exact PySem.W.kia_one (QMr cd) I.kIn J kk (fun z=>nomatch z) q
def clsV:V->Option Value
 | .ty n=>some (.type n)
 | .ref a=>some (.ref a)
 | _=>none
def eIsa(f:D->Out Bool)(a:SD->Out D):SD->Out D:=fun ς=>a ς>>=fun d=>f d>>=fun b=>.ok (.bl b)
theorem QOs{f:D->Out Bool}(hc:PE C.X cx (tC vc))(rc:clsV vc=some uc)(hf:∀ d,match f d with | .ok b=>KitD C.X.K C.CT d uc b | .exc _=>False | .stuck=>True)(hg:Gl C.X "isinstance")(hm:C.X.mg "isinstance"=none)(h:DB C e E)
 (he:starEach (e::[cx]) C.X.env=(false,eval e C.X.env)::starEach [cx] C.X.env:=by rfl) (he2:starEach (cx::[]) C.X.env=(false,eval cx C.X.env)::starEach [] C.X.env:=by rfl)
 (hpl:(backTo pos (starEach [cx] C.X.env)).any (·.1)=false:=by rfl):DE C (.Call (.Name "isinstance" p) [e,cx] [] pos) (eIsa f E):=by
 obtain⟨t,p1,q1⟩:=h
 have hR:CallR C.X (.builtin "isinstance") (fun xs H Q=>∃ d x b,xs=[x,vc]/\Rep C.X.K C.CT H d x/\KitD C.X.K C.CT d uc b/\Q (.bl b) H):=by
  intro pins s σ H xs us Q I r h
  obtain⟨d,x,b,rfl,h1,h2,q⟩:=h
  obtain⟨u,w,rfl,r1,r2⟩:=vals2 r
  have:w=uc:=by
   cases vc<;>first
    | (cases rc;cases r2;rfl)
    | cases rc
  subst this
  exact QN2 I h1 r1 h2 fun tk=>⟨.bl b,H,I.tok _,rfl,q⟩
 refine⟨_,QuD hR hg hm PyProof.Rows.Boot.«isinstance» (QaS p1 (QaS hc Qc9 he2) he) (by decide) (by decide) he hpl,fun G H σ ς Q S q=>?_⟩
 unfold eIsa at q
 rw[Out.post_bind]at q
 refine q1 G H σ ς _ S (Out.post_mono q fun d k v1 H1 G1 S1 a1 b1 r1=>?_)
 rw[Out.post_bind]at k
 have hd:=hf d
 cases e:f d with
 | exc _=>rw[e]at hd;exact hd.elim
 | stuck=>rw[e]at k;exact k.elim
 | ok b=>
  rw[e]at k hd
  exact⟨d,v1,b,rfl,r1,hd,KD.now (KD.later (show KD C G H σ ς Q (.bl b) from k) a1 b1) S1 rfl⟩
end
end DL
namespace DL
open PySem PySem.Spec PyProof.Rows L2
section
variable{C:Dc}{G H:Hp}{σ:St}{ς:SD}
theorem QK{α:Type}{xs:List α}{i j:Nat}{x y:α}(h:(xs.set i x)[j]?=some y):(i=j/\y=x/\i<xs.length)∨(i≠j/\xs[j]?=some y):=by
 rw[List.getElem?_set]at h
 by_cases e:i=j
 ·rw[if_pos e]at h
  by_cases l:i<xs.length
  ·rw[if_pos l]at h;exact .inl ⟨e,(Option.some.inj h).symm,l⟩
  ·rw[if_neg l]at h;cases h
 ·rw[if_neg e]at h;exact .inr ⟨e,h⟩
theorem Qg1{α:Type}{xs:List α}{i:Nat}{x:α}(h:i<xs.length):(xs.set i x)[i]?=some x:=by
 rw[List.getElem?_set,if_pos rfl,if_pos h]
theorem Qt{α:Type}{xs:List α}{i j:Nat}{x:α}(h:i≠j):(xs.set i x)[j]?=xs[j]?:=by
 rw[List.getElem?_set,if_neg h]
theorem StR.set(S:StR C G H σ ς){d:D}{v:V}(i:Nat)(r:Rep C.X.K C.CT G d v):StR C G H (σ.set i (some v)) (ς.set i (some (.k,d))) where
 toGH:=S.toGH
 len:=by rw[List.length_set,List.length_set];exact S.len
 fz:=fun j e h=>by
  rcases QK h with⟨rfl,h2,l⟩ | ⟨ne,h2⟩
  ·cases h2
   exact⟨v,Qg1 (by rw[S.len];exact l),r⟩
  ·rw[Qt ne];exact S.fz j e h2
 ow:=fun j e h=>by
  rcases QK h with⟨rfl,h2,l⟩ | ⟨ne,h2⟩
  ·cases h2
  ·rw[Qt ne];exact S.ow j e h2
 ln:=fun j e h=>by
  rcases QK h with⟨rfl,h2,l⟩ | ⟨ne,h2⟩
  ·cases h2
  ·rw[Qt ne];exact S.ln j e h2
 inj:=fun j k d1 d2 p hjk h1 h2 h3=>by
  rcases QK h1 with⟨rfl,q1,l⟩ | ⟨n1,q1⟩
  ·cases q1
  ·rcases QK h2 with⟨rfl,q2,l⟩ | ⟨n2,q2⟩
   ·cases q2
   ·rw[Qt n1]at h3
    rw[Qt n2];exact S.inj j k d1 d2 p hjk q1 q2 h3
 sf:=fun j e h=>by
  rcases QK h with⟨rfl,h2,l⟩ | ⟨ne,h2⟩
  ·cases h2
  ·rw[Qt ne];exact S.sf j e h2
 su:=fun j k d1 d2 p hjk h1 h2 h3=>by
  rcases QK h1 with⟨rfl,q1,l⟩ | ⟨n1,q1⟩
  ·cases q1
  ·rcases QK h2 with⟨rfl,q2,l⟩ | ⟨n2,q2⟩
   ·cases q2
   ·rw[Qt n1]at h3
    rw[Qt n2];exact S.su j k d1 d2 p hjk q1 q2 h3
theorem StR.setO(S:StR C G H σ ς){d:D}{p:Addr}(i:Nat)(hg:G p=none)(h0:C.X.H₀ p=none)(ow:Own C.X.K C.CT G H p d)(hn:∀(j:Nat) e,j≠i->ς[j]?=some (some (.o,e))->σ[j]?≠some (some (.ref p))):
 StR C G H (σ.set i (some (.ref p))) (ς.set i (some (.o,d))) where
 toGH:=S.toGH
 len:=by rw[List.length_set,List.length_set];exact S.len
 fz:=fun j e h=>by
  rcases QK h with⟨rfl,h2,l⟩ | ⟨ne,h2⟩
  ·cases h2
  ·rw[Qt ne];exact S.fz j e h2
 ow:=fun j e h=>by
  rcases QK h with⟨rfl,h2,l⟩ | ⟨ne,h2⟩
  ·cases h2
   exact⟨p,Qg1 (by rw[S.len];exact l),hg,h0,ow⟩
  ·rw[Qt ne];exact S.ow j e h2
 ln:=fun j e h=>by
  rcases QK h with⟨rfl,h2,l⟩ | ⟨ne,h2⟩
  ·cases h2
  ·rw[Qt ne];exact S.ln j e h2
 inj:=fun j k d1 d2 q hjk h1 h2 h3=>by
  rcases QK h1 with⟨rfl,q1,l1⟩ | ⟨n1,q1⟩
  ·rcases QK h2 with⟨rfl,q2,l⟩ | ⟨n2,q2⟩
   ·exact absurd rfl hjk
   ·rw[Qg1 (by rw[S.len];exact l1)]at h3
    cases h3
    rw[Qt n2];exact hn k d2 (Ne.symm n2) q2
  ·rcases QK h2 with⟨rfl,q2,l⟩ | ⟨n2,q2⟩
   ·rw[Qt n1]at h3
    rw[Qg1 (by rw[S.len];exact l)]
    intro z;cases z
    exact hn j d1 (Ne.symm n1) q1 h3
   ·rw[Qt n1]at h3
    rw[Qt n2];exact S.inj j k d1 d2 q hjk q1 q2 h3
 sf:=fun j e h=>by
  rcases QK h with⟨rfl,h2,l⟩ | ⟨ne,h2⟩
  ·cases h2
  ·rw[Qt ne];exact S.sf j e h2
 su:=fun j k d1 d2 p hjk h1 h2 h3=>by
  rcases QK h1 with⟨rfl,q1,l⟩ | ⟨n1,q1⟩
  ·cases q1
  ·rcases QK h2 with⟨rfl,q2,l⟩ | ⟨n2,q2⟩
   ·cases q2
   ·rw[Qt n1]at h3
    rw[Qt n2];exact S.su j k d1 d2 p hjk q1 q2 h3
end
def sNil:SD->Out Fl:=fun ς=>.ok (.nx ς)
def thenF(U:SD->Out Fl):Fl->Out Fl
 | .nx ς=>U ς
 | .rt b d=>.ok (.rt b d)
 | .bk ς=>.ok (.bk ς)
 | .ct ς=>.ok (.ct ς)
def sSeq(T U:SD->Out Fl):SD->Out Fl:=fun ς=>T ς>>=thenF U
section
variable{C:Dc}{e:Expr}{E:SD->Out D}{st:Stmt}{rest:List Stmt}{T U:SD->Out Fl}{pos:Pos}
theorem FlK.later{G G1:Hp}{W:Ends}{f:Fl}(h:FlK C G W f)(s:Same G G1):FlK C G1 W f:=by
 cases f with
 | nx ς=>exact fun σ' H' G' S q=>h σ' H' G' S (s.trans q)
 | bk ς=>exact fun σ' H' G' S q=>h σ' H' G' S (s.trans q)
 | ct ς=>exact fun σ' H' G' S q=>h σ' H' G' S (s.trans q)
 | rt b d=>exact fun σ' H' G' S q=>h σ' H' G' S (s.trans q)
theorem Q4:DSs C [] sNil:=⟨_,QNw,fun G H σ ς W S q=>q σ H G S (Same.refl G)⟩
theorem Qg(h1:DS C st T)(h2:DSs C rest U):DSs C (st::rest) (sSeq T U):=by
 obtain⟨t1,p1,q1⟩:=h1
 obtain⟨t2,p2,q2⟩:=h2
 refine⟨_,QMn p1 p2,fun G H σ ς W S q=>?_⟩
 unfold sSeq at q
 rw[Out.post_bind]at q
 refine q1 G H σ ς _ S (Out.post_mono q fun f k=>?_)
 cases f with
 | nx ς'=>exact fun σ' H' G' S' s'=>q2 G' H' σ' ς' W S' (Out.post_mono (show(U ς').post _ _ from k) fun f k=>FlK.later k s')
 | bk ς'=>exact k
 | ct ς'=>exact k
 | rt b d=>exact k
theorem Qh(h1:DS C st T):DSs C [st] T:=let ⟨t,p,q⟩:=h1;⟨t,QNS p,q⟩
def sSet(i:Nat)(E:SD->Out D):SD->Out Fl:=fun ς=>E ς>>=fun d=>.ok (.nx (ς.set i (some (.k,d))))
def sSetO(i:Nat)(E:SD->Out D):SD->Out Fl:=fun ς=>E ς>>=fun d=>.ok (.nx (ς.set i (some (.o,d))))
theorem Qar{i:Nat}{x:Str}{pos':Pos}(hN:C.X.N.Nodup)(hi:C.X.N[i]?=some x)(hx:Loc C.X.env.scope x)(he:DE C e E)(hs:swapsWith e (some (.Name x pos')) pos.line C.X.env=pure false:=by rfl)
 (hf:C.X.fn x=true∨C.X.env.scope.names.lookup x=some .local:=by first | exact .inl rfl | exact .inr rfl | assumption):DS C (.Assign [.Name x pos'] e pos) (sSet i E):=by
 obtain⟨t,p,q⟩:=he
 refine⟨_,QKT hN hi hx p hs hf,fun G H σ ς W S k=>?_⟩
 unfold sSet at k
 rw[Out.post_bind]at k
 exact q G H σ ς _ S (Out.post_mono k fun d k v H1 G1 S1 a1 b1 r1=>k _ H1 G1 (S1.set i r1) b1)
theorem QeM{i:Nat}{x:Str}{pos':Pos}(hN:C.X.N.Nodup)(hi:C.X.N[i]?=some x)(hx:Loc C.X.env.scope x)(he:DF C e E)(hs:swapsWith e (some (.Name x pos')) pos.line C.X.env=pure false:=by rfl)
 (hf:C.X.fn x=true∨C.X.env.scope.names.lookup x=some .local:=by first | exact .inl rfl | exact .inr rfl | assumption):DS C (.Assign [.Name x pos'] e pos) (sSetO i E):=by
 obtain⟨t,p,q⟩:=he
 refine⟨_,QKT hN hi hx p hs hf,fun G H σ ς W S k=>?_⟩
 unfold sSetO at k
 rw[Out.post_bind]at k
 exact q G H σ ς _ S (Out.post_mono k fun d k p H1 G1 S1 a1 b1 hp hg ow=>k _ H1 G1 (S1.setO i hg (S.h0none hp) ow fun j e _ z=>S.new_ne hp j e z) b1)
def sPar(i j:Nat)(A:SD->Out (List D)):SD->Out Fl:=fun ς=>A ς>>=fun ds=>match ds with
 | [x,y]=>.ok (.nx ((ς.set i (some (.k,x))).set j (some (.k,y))))
 | _=>.stuck
def QaB:List Nat->List D->SD->Out SD
 | [],[],ς=>.ok ς
 | i::is,d::ds,ς=>QaB is ds (ς.set i (some (.k,d)))
 | _,_,_=>.stuck
def DGs(C:Dc)(es:List Expr)(is:List Nat):Prop:=∃ t,PGs C.X es t/\∀ G H σ ς ds vs ς' (Q:St->Hp->Prop),StR C G H σ ς->RepL C.X.K C.CT G ds vs->QaB is ds ς=.ok ς'->
 (∀ σ',StR C G H σ' ς'->Q σ' H)->t vs σ H Q
theorem QcE:DGs C [] []:=by
 refine⟨_,QM9,fun G H σ ς ds vs ς' Q S r h q=>?_⟩
 cases ds with
 | nil=>
  cases h
  exact⟨r,q σ S⟩
 | cons d ds=>cases h
theorem QY{i:Nat}{is:List Nat}{x:Str}{es:List Expr}(hN:C.X.N.Nodup)(hi:C.X.N[i]?=some x)(hx:Loc C.X.env.scope x)(h2:DGs C es is)
 (hf:C.X.fn x=true∨C.X.env.scope.names.lookup x=some .local:=by first | exact .inl rfl | exact .inr rfl | assumption)
 (hs:(assignEach (.Name x pos::es) C.X.env).map (·.2)=assign (.Name x pos) C.X.env::(assignEach es C.X.env).map (·.2):=by rfl):DGs C (.Name x pos::es) (i::is):=by
 obtain⟨t,p,q⟩:=h2
 refine⟨_,QLJ (QHg hN hi hx hf) p hs,fun G H σ ς ds vs ς' Q S r h k=>?_⟩
 cases ds with
 | nil=>cases h
 | cons d ds=>
  obtain⟨v,w,rfl,r1,r2⟩:=r
  exact⟨v,w,rfl,q G H _ _ ds w ς' Q (S.set i r1) r2 h k⟩
def sUnp(is:List Nat)(E:SD->Out D):SD->Out Fl:=fun ς=>E ς>>=fun d=>match d with
 | .tup ds=>QaB is ds ς>>=fun ς'=>.ok (.nx ς')
 | _=>.stuck
theorem Qp9:∀{is:List Nat}{ds:List D}{ς ς':SD},QaB is ds ς=.ok ς'->ds.length=is.length
 | [],[],_,_,_=>rfl
 | i::is,d::ds,ς,ς',h=>by
  have:=Qp9 (is:=is) (ds:=ds) h
  simp[this]
 | [],_::_,_,_,h=>by cases h
 | _::_,[],_,_,h=>by cases h
def sRet(E:SD->Out D):SD->Out Fl:=fun ς=>E ς>>=fun d=>.ok (.rt false d)
def sRetF(E:SD->Out D):SD->Out Fl:=fun ς=>E ς>>=fun d=>.ok (.rt true d)
theorem QQ(he:DE C e E):DS C (.Return (some e) pos) (sRet E):=by
 obtain⟨t,p,q⟩:=he
 refine⟨_,QBZ p,fun G H σ ς W S k=>?_⟩
 unfold sRet at k
 rw[Out.post_bind]at k
 exact q G H σ ς _ S (Out.post_mono k fun d k v H1 G1 S1 a1 b1 r1=>k v H1 G1 S1.toGH b1 r1)
theorem Qbj(he:DF C e E):DS C (.Return (some e) pos) (sRetF E):=by
 obtain⟨t,p,q⟩:=he
 refine⟨_,QBZ p,fun G H σ ς W S k=>?_⟩
 unfold sRetF at k
 rw[Out.post_bind]at k
 exact q G H σ ς _ S (Out.post_mono k fun d k p H1 G1 S1 a1 b1 hp hg ow=>k _ H1 G1 S1.toGH b1 ⟨p,rfl,S.h0none hp,hg,ow⟩)
def sRetO(i:Nat):SD->Out Fl:=fun ς=>match ς[i]? with | some (some (.o,d))=>.ok (.rt true d) | _=>.stuck
theorem QoN(i:Nat){x:Str}{px:Pos}(hN:C.X.N[i]?=some x:=by rfl)(hv:Vis C.X.env.scope x:=by first | exact Or.inl rfl | exact Or.inr (Or.inl rfl) | exact Or.inr (Or.inr rfl))
 (hd:(x == ("__debug__":Str))=false:=by decide) (hcd:(x == ("__classdict__":Str))=false:=by decide):DS C (.Return (some (.Name x px)) pos) (sRetO i):=by
 refine⟨_,QBZ (QeF (i:=i) hN hv hd hcd),fun G H σ ς W S k=>?_⟩
 unfold sRetO at k
 split at k
 ·rename_i d z
  obtain⟨p,a,b,c,w⟩:=S.ow i d z
  exact⟨_,a,k _ H G S.toGH (Same.refl G) ⟨p,rfl,c,b,w⟩⟩
 ·exact k.elim
def sIf(c:SD->Out Bool)(T U:SD->Out Fl):SD->Out Fl:=fun ς=>c ς>>=fun b=>if b=true then T ς else U ς
theorem ds_if{c:Expr}{a b:List Stmt}{TC:SD->Out Bool}(hc:DT C c TC)(ha:DSs C a T)(hb:DSs C b U):DS C (.If c a b pos) (sIf TC T U):=by
 obtain⟨t0,p0,q0⟩:=hc
 obtain⟨t1,p1,q1⟩:=ha
 obtain⟨t2,p2,q2⟩:=hb
 refine⟨_,ps_if p0 p1 p2,fun G H σ ς W S k=>?_⟩
 unfold sIf at k
 rw[Out.post_bind]at k
 refine q0 G H σ ς _ S (Out.post_mono k fun b k H1 G1 S1 a1 b1=>?_)
 cases b with
 | true=>exact iteT (q1 G1 H1 σ ς W S1 (Out.post_mono (show(T ς).post _ _ from k) fun f k=>FlK.later k b1))
 | false=>exact iteF (q2 G1 H1 σ ς W S1 (Out.post_mono (show(U ς).post _ _ from k) fun f k=>FlK.later k b1))
def Qhi:SD->Out Fl:=fun _=>.stuck
theorem Qft:DS C st Qhi:=⟨_,QMf,fun G H σ ς W S k=>k.elim⟩
end
def loopD(body:D->SD->Out Fl):List D->SD->Out Fl
 | [],ς=>.ok (.nx ς)
 | x::xs,ς=>body x ς>>=fun f=>match f with
  | .nx ς'=>loopD body xs ς'
  | .ct ς'=>loopD body xs ς'
  | .bk ς'=>.ok (.nx ς')
  | .rt b d=>.ok (.rt b d)
def DG(C:Dc)(tg:Expr)(g:D->SD->Out SD):Prop:=∃ t,PG C.X tg t/\∀ G H σ ς d v ς' (Q:St->Hp->Prop),StR C G H σ ς->Rep C.X.K C.CT G d v->g d ς=.ok ς'->(∀ σ',StR C G H σ' ς'->Q σ' H)->t v σ H Q
def gN(i:Nat):D->SD->Out SD:=fun d ς=>.ok (ς.set i (some (.k,d)))
def gT(is:List Nat):D->SD->Out SD:=fun d ς=>match d with | .tup ds=>QaB is ds ς | _=>.stuck
def noExc{α β γ : Type}(g:α->β->Out γ):Prop:=∀ a b x,g a b≠.exc x
theorem Qy(i:Nat):noExc (gN i):=fun _ _ _ h=>by cases h
theorem QrP(is:List Nat):∀(ds:List D) (ς:SD) x,QaB is ds ς≠.exc x:=by
 induction is with
 | nil=>intro ds ς x h;cases ds<;>cases h
 | cons i is ih=>intro ds ς x h;cases ds with
  | nil=>cases h
  | cons d ds=>exact ih ds _ x h
theorem QcR(is:List Nat):noExc (gT is):=fun d ς x h=>by
 cases d with
 | tup ds=>exact QrP is ds ς x h
 | _=>cases h
section
variable{C:Dc}{e tg iter:Expr}{E:SD->Out D}{body:List Stmt}{T U:SD->Out Fl}{pos:Pos}{g:D->SD->Out SD}
theorem QC{i:Nat}{x:Str}(hN:C.X.N.Nodup)(hi:C.X.N[i]?=some x)(hx:Loc C.X.env.scope x)
 (hf:C.X.fn x=true∨C.X.env.scope.names.lookup x=some .local:=by first | exact .inl rfl | exact .inr rfl | assumption):DG C (.Name x pos) (gN i):=
 ⟨_,QHg hN hi hx hf,fun G H σ ς d v ς' Q S r h k=>by cases h;exact k _ (S.set i r)⟩
theorem Qfq{es:List Expr}{is:List Nat}{k:Nat}(hc:C.X.calm=true)(hg:DGs C es is)(hn:(assignEach es C.X.env).length=is.length:=by rfl)(hst:(assignEach es C.X.env).findIdx? (·.1)=none:=by rfl):
 DG C (.Tuple es k pos) (gT is):=by
 obtain⟨t2,p2,q2⟩:=hg
 refine⟨_,QOv hc p2 hn hst,fun G H σ ς d v ς' Q S r h k=>?_⟩
 cases d with
 | tup ds=>
  obtain⟨a,vs,rfl,h2,h3⟩:=r
  exact⟨a,vs,rfl,Same.sqT S.sub h2,by rw[← h3.length];exact Qp9 h,q2 G H σ ς ds vs ς' Q S h3 h k⟩
 | _=>cases h
def sFor(g:D->SD->Out SD)(its:SD->Out (List D))(T:SD->Out Fl):SD->Out Fl:=fun ς=>its ς>>=fun xs=>loopD (fun x ς=>g x ς>>=fun ς'=>T ς') xs ς
def itL(E:SD->Out D):SD->Out (List D):=fun ς=>E ς>>=fun d=>match d with | .lst xs=>.ok xs | _=>.stuck
theorem turnD{W:Ends}{x:D}{v:V}{xs:List D}{G H:Hp}{σ:St}{ς:SD}{tb:TS}{tt:TG}{N:L2.St->Hp->Prop}(hne:noExc g)
 (hg:∀ G H σ ς d v ς' (Q:St->Hp->Prop),StR C G H σ ς->Rep C.X.K C.CT G d v->g d ς=.ok ς'->(∀ σ',StR C G H σ' ς'->Q σ' H)->tt v σ H Q)
 (hb:∀ G H σ ς W,StR C G H σ ς->(T ς).post (FlK C G W) C.XD->tb W σ H)
 (S:StR C G H σ ς) (r:Rep C.X.K C.CT G x v) (q:(loopD (fun x ς=>g x ς>>=fun ς'=>T ς') (x::xs) ς).post (FlK C G W) C.XD)
 (hN:∀ σ' H' G' ς',StR C G' H' σ' ς'->Same G G'->(loopD (fun x ς=>g x ς>>=fun ς'=>T ς') xs ς').post (FlK C G' W) C.XD->N σ' H'):
 tt v σ H fun σ2 H2=>tb { W with nx:=N,ct:=N,bk:=W.nx } σ2 H2:=by
 have q':((g x ς>>=fun ς'=>T ς')>>=fun f=>match f with
  | .nx ς'=>loopD (fun x ς=>g x ς>>=fun ς'=>T ς') xs ς'
  | .ct ς'=>loopD (fun x ς=>g x ς>>=fun ς'=>T ς') xs ς'
  | .bk ς'=>.ok (.nx ς')
  | .rt b d=>.ok (.rt b d)).post (FlK C G W) C.XD:=q
 rw[Out.post_bind,Out.post_bind]at q'
 cases z:g x ς with
 | exc y=>exact absurd z (hne _ _ _)
 | stuck=>rw[z]at q';exact q'.elim
 | ok ς1=>
  rw[z]at q'
  refine hg G H σ ς x v ς1 _ S r z fun σ1 S1=>hb G H σ1 ς1 _ S1 (Out.post_mono q' fun f k=>?_)
  cases f with
  | nx ς'=>exact fun σ' H' G' S' s'=>hN σ' H' G' ς' S' s' (Out.post_mono (show(loopD _ xs ς').post _ _ from k) fun f k=>FlK.later k s')
  | ct ς'=>exact fun σ' H' G' S' s'=>hN σ' H' G' ς' S' s' (Out.post_mono (show(loopD _ xs ς').post _ _ from k) fun f k=>FlK.later k s')
  | bk ς'=>exact fun σ' H' G' S' s'=>(show FlK C G W (.nx ς') from k) σ' H' G' S' s'
  | rt b d=>exact k
theorem QyR{α:Type}{xs:List α}{i:Nat}{x:α}(h:xs[i]?=some x):xs.drop i=x::xs.drop (i+1):=by
 obtain⟨l,e⟩:=List.getElem?_eq_some_iff.mp h
 rw[List.drop_eq_getElem_cons l,e]
def Qcu(lo:Int)(n:Nat):List D:=(List.range n).map fun(i:Nat)=>D.int (lo+i)
theorem QIu{lo:Int}{n i:Nat}(h:i<n):(Qcu lo n)[i]?=some (D.int (lo+i)):=by
 unfold Qcu
 rw[List.getElem?_map,List.getElem?_range h];rfl
theorem Qv2{lo:Int}{n:Nat}:(Qcu lo n).length=n:=by simp[Qcu]
def QeP(i:Int):Bool:=decide (-(2 ^ 62)<=i)&&decide (i<2 ^ 62)
def itR1(A:SD->Out D):SD->Out (List D):=fun ς=>A ς>>=fun d=>match d with
 | .int n=>if QeP n=true then .ok (Qcu 0 n.toNat) else .stuck
 | _=>.stuck
def itR2(A B:SD->Out D):SD->Out (List D):=fun ς=>A ς>>=fun d=>B ς>>=fun d'=>match d,d' with
 | .int a,.int b=>if (QeP a&&QeP b)=true then .ok (Qcu a (b - a).toNat) else .stuck
 | _,_=>.stuck
theorem QpG{i:Int}(h:QeP i=true) : -(2 ^ 62)<=i/\i<2 ^ 62:=by
 unfold QeP at h
 rw[Bool.and_eq_true]at h
 exact⟨of_decide_eq_true h.1,of_decide_eq_true h.2⟩
end
end DL
namespace DL
open PySem PySem.Spec PyProof.Rows L2
def RetG(K:PySem.W.Frag)(CT:CTab)(fr:Bool)(H0 G' H':Hp)(d:D)(v:V):Prop:=
 if (fr && !d.scal)=true then ∃ p,v=.ref p/\H0 p=none/\G' p=none/\Own K CT G' H' p d else Rep K CT G' d v
def retF(fr:Bool):Fl->Out D
 | .rt b d=>if (!fr||b||d.scal)=true then .ok d else .stuck
 | .nx _=>.ok .non
 | _=>.stuck
def bodyF(fr:Bool)(n len:Nat)(T:SD->Out Fl):List D->Out D:=fun ds=>
 if ds.length=n then T (ds.map (fun d=>some (.k,d))++List.replicate (len - n) none)>>=retF fr else .stuck
def SpD(K:PySem.W.Frag)(CT:CTab)(fr:Bool)(m:List D->Out D):Sp:=fun vs H Q _=>∃ ds G0,Same G0 H/\RepL K CT G0 ds vs/\
 (m ds).post (fun d=>∀ v H' G',Same G0 G'->Same H H'->Same G' H'->(∀ b,G0 b=none->G' b≠none->H b=none)->RetG K CT fr H G' H' d v->Q v H') (fun _=>False)
structure FunV(K:PySem.W.Frag)(x qual:Str)(st:Stmt)(f:Addr)(fd:FuncData)(dV:Value):Prop where
 ex:∃(oc:Value)(od:Option Addr)(kV doc pm:Value)(an:Option Addr)(cdv ct:Value)(osl:Array (Option Value)),
  fd=PySem.W.fnOf x qual (Qs st) (Qn st) (Qa st) dV kV doc pm an cdv ct/\K.lookup f=some ⟨oc,od,.func fd,osl⟩/\PySem.W.codeIn K cdv qual=true
 kp:PySem.W.keepIn K (.ref f)=true
theorem Qz{K:PySem.W.Frag}{x qual:Str}{st:Stmt}{f:Addr}{oc:Value}{od an:Option Addr}{osl:Array (Option Value)}{dV kV doc pm cdv ct:Value}(l:K.lookup f=some ⟨oc,od,.func (PySem.W.fnOf x qual (Qs st) (Qn st) (Qa st) dV kV doc pm an cdv ct),osl⟩)
 (c:PySem.W.codeIn K cdv qual=true) (k:PySem.W.keepIn K (.ref f)=true):FunV K x qual st f (PySem.W.fnOf x qual (Qs st) (Qn st) (Qa st) dV kV doc pm an cdv ct) dV:=⟨⟨oc,od,kV,doc,pm,an,cdv,ct,osl,rfl,l,c⟩,k⟩
theorem FunV.binds{K:PySem.W.Frag}{x qual:Str}{st:Stmt}{f:Addr}{fd:FuncData}{ps:List Str}(F:FunV K x qual st f fd .none)
 (h:∀(kV doc pm:Value)(an:Option Addr)(cdv ct:Value)(us:List Value),us.length=ps.length->bindArgs (PySem.W.fnOf x qual (Qs st) (Qn st) (Qa st) .none kV doc pm an cdv ct) ⟨us,[]⟩=pure (ps.zip us)):Binds K fd ps []:=by
 obtain⟨oc,od,kV,doc,pm,an,cdv,ct,osl,rfl,lk,hcd⟩:=F.ex
 exact .all (h kV doc pm an cdv ct)
abbrev dcOf(P:Program)(w:World)(K:PySem.W.Frag)(mg:Str->Option Value)(base:Heap)(CT:CTab)(N:List Str)(qual:Str)(sc:Scope)(f:Addr)(cdv:Value)(A:Around)(outer:List Env)(s:Shared)(H:Hp)(E:XK)(G:Hp):Dc:=
 { X:=(cxOf CX0 P w K mg base N qual sc f cdv A outer s H E).nox,CT:=CT,G0:=G,XD:=fun _=>False,B:=H,M:=fun _=>False }
theorem Qe9{N:List Str}{vs:List V}{i:Nat}{v:V}(h:vs[i]?=some v):(L2.start N vs)[i]?=some (some v):=by
 unfold L2.start
 have hi:i<vs.length:=(List.getElem?_eq_some_iff.mp h).1
 rw[List.getElem?_append_left (by simpa using hi),List.getElem?_map,h];rfl
theorem Qff{ds:List D}{k:Nat}{i:Nat}{x:SM×D}(h:(ds.map (fun d=>some (SM.k,d))++List.replicate k (none:Option (SM×D)))[i]?=some (some x)):∃ d,ds[i]?=some d/\x=(.k,d):=by
 by_cases hi:i<ds.length
 ·rw[List.getElem?_append_left (by simpa using hi),List.getElem?_map]at h
  cases e:ds[i]? with
  | none=>rw[e]at h;cases h
  | some d=>rw[e]at h;cases h;exact⟨d,rfl,rfl⟩
 ·rw[List.getElem?_append_right (by simpa using hi),List.getElem?_replicate]at h
  split at h<;>cases h
theorem GH.freezeR{C:Dc}{G' H':Hp}(S:GH C G' H'){p:Addr}{o:HO}(hp:H' p=some o)(hg:G' p=none)(h0:C.X.H₀ p=none):GH C (upd G' p o) H' where
 sub:=fun b u q=>by
  by_cases hb:b=p
  ·subst hb;rw[QS]at q;cases q;exact hp
  ·rw[Qk hb]at q;exact S.sub b u q
 g0:=S.g0.trans (QE hg)
 new:=fun b h1 h2=>by
  by_cases hb:b=p
  ·subst hb;exact h0
  ·rw[Qk hb]at h2;exact S.new b h1 h2
 fr:=S.fr
 dom:=S.dom
 bs:=S.bs
 bh:=S.bh
theorem fnV{P:Program}{w:World}{K:PySem.W.Frag}{mg:Str->Option Value}{base:Heap}{CT:CTab}{fr:Bool}{x qual:Str}{st:Stmt}{f:Addr}{fd:FuncData}{dV:Value}{N ps:List Str}{k:Nat}{T:SD->Out Fl}
 (F:FunV K x qual st f fd dV) (S:Qr N ps (Qa st))
 (hb:∀(cdv:Value)(A:Around)(outer:List Env)(s:Shared)(H:Hp)(E:XK)(G:Hp),Room k (A.deeper (envOfC qual (Qa st) s.heap.objs.size f cdv))->DSs (dcOf P w K mg base CT N qual (Qa st) f cdv A outer s H E G) (Qn st) T):
 FnOk P w K mg base CX0 (k+1) f fd ps (SpD K CT fr (bodyF fr ps.length N.length T)):=by
 obtain⟨oc,od,kV,doc,pm,an,cdv,ct,osl,rfl,lk,hcd⟩:=F.ex
 have hpl:ps.length<=N.length:=by have:=congrArg List.length S.pre;rw[List.length_take]at this;omega
 have len:∀ vs H Q E,SpD K CT fr (bodyF fr ps.length N.length T) vs H Q E->vs.length=ps.length:=by
  intro vs H Q E ⟨ds,G0,sub,r,q⟩
  unfold bodyF at q
  by_cases hl:ds.length=ps.length
  ·rw[← r.length];exact hl
  ·rw[if_neg hl]at q;exact q.elim
 refine fn_of lk hcd S len fun A outer s H vs Q E hr hsp=>?_
 have hlen:=len vs H Q E hsp
 obtain⟨ds,G0,sub,r,q⟩:=hsp
 obtain⟨t,p1,q1⟩:=hb cdv A outer s H E G0 hr
 have hl:ds.length=ps.length:=by rw[r.length];exact hlen
 refine⟨t,p1.nox,?_⟩
 unfold bodyF at q
 rw[if_pos hl,Out.post_bind]at q
 have S0:StR (dcOf P w K mg base CT N qual (Qa st) f cdv A outer s H E G0) G0 H (L2.start N vs) (ds.map (fun d=>some (.k,d))++List.replicate (N.length - ps.length) none):={
  sub:=sub
  g0:=Same.refl _
  new:=fun b h1 h2=>absurd h1 h2
  fr:=fun b o e _=>e
  dom:=fun b e=>e
  bs:=Same.refl _
  bh:=fun b e=>e
  len:=by unfold L2.start;simp;omega
  fz:=fun i d e=>by
   obtain⟨d',e1,e2⟩:=Qff e
   cases e2
   obtain⟨v,e3,rv⟩:=r.get e1
   exact⟨v,Qe9 e3,rv⟩
  ow:=fun i d e=>by
   obtain⟨d',e1,e2⟩:=Qff e
   cases e2
  ln:=fun i d e=>by
   obtain⟨d',e1,e2⟩:=Qff e
   cases e2
  inj:=fun i j d e p _ h=>by
   obtain⟨d',e1,e2⟩:=Qff h
   cases e2
  sf:=fun i d e=>by
   obtain⟨d',e1,e2⟩:=Qff e
   cases e2
  su:=fun i j d e p _ h=>by
   obtain⟨d',e1,e2⟩:=Qff h
   cases e2 }
 refine q1 G0 H (L2.start N vs) _ _ S0 (Out.post_mono q fun fl kk=>?_)
 cases fl with
 | nx ς'=>exact fun σ' H' G' S' s'=>kk .non H' G' s' (fun b o e=>S'.fr b o e id) S'.sub S'.new (by unfold RetG;rw[if_neg (by cases fr<;>decide)];rfl)
 | bk ς'=>exact fun σ' H' G' S' s'=>kk.elim
 | ct ς'=>exact fun σ' H' G' S' s'=>kk.elim
 | rt b d=>
  intro v H' G' S' s' ret
  have kk':(if (!fr||b||d.scal)=true then Out.ok d else Out.stuck).post (fun d=>∀ v H' G',Same G0 G'->Same H H'->Same G' H'->(∀ b,G0 b=none->G' b≠none->H b=none)->RetG K CT fr H G' H' d v->Q v H') (fun _=>False):=kk
  rcases QR kk' with⟨hc,k2⟩ | ⟨_,k2⟩
  ·have k3:∀ v H' G',Same G0 G'->Same H H'->Same G' H'->(∀ b,G0 b=none->G' b≠none->H b=none)->RetG K CT fr H G' H' d v->Q v H':=k2
   cases b with
   | false=>
    refine k3 v H' G' s' (fun b o e=>S'.fr b o e id) S'.sub S'.new ?_
    unfold RetG
    have hn:¬ (fr && !d.scal)=true:=by revert hc;cases fr<;>cases d.scal<;>simp
    rw[if_neg hn]
    exact ret
   | true=>
    obtain⟨p,rfl,h0,hg,ow⟩:=(show ∃ p,v=.ref p/\H p=none/\G' p=none/\Own K CT G' H' p d from ret)
    cases fr with
    | true=>
     refine k3 _ H' G' s' (fun b o e=>S'.fr b o e id) S'.sub S'.new ?_
     have hs:d.scal=false:=by cases d<;>first | rfl | exact ow.elim
     unfold RetG
     rw[if_pos (by rw[hs];rfl)]
     exact⟨p,rfl,h0,hg,ow⟩
    | false=>
     obtain⟨o,ho⟩:=ow.there
     have S2:=GH.freezeR S' ho hg h0
     refine k3 _ H' _ (s'.trans (QE hg)) (fun b o e=>S2.fr b o e id) S2.sub S2.new ?_
     unfold RetG
     rw[if_neg (by simp)]
     exact ow.known hg ho
  ·exact k2.elim
def DefOk(P:Program)(w:World)(K:PySem.W.Frag)(mg:Str->Option Value)(base:Heap)(CT:CTab)(x:Str)(k:Nat)(fr:Bool)(dd:List D)(m:List D->Out D):Prop:=
 ∃ f fd ps ds,FnOk P w K mg base CX0 k f fd ps (SpD K CT fr m)/\mg x=some (.ref f)/\PySem.W.keepIn K (.ref f)=true/\Binds K fd ps ds/\Vals (dd.map toV) ds
theorem Qur{K:PySem.W.Frag}{CT:CTab}{H:Hp}:∀{dd:List D},dd.all D.scal=true->RepL K CT H dd (dd.map toV)
 | [],_=>rfl
 | d::ds,h=>by
  rw[List.all_cons,Bool.and_eq_true]at h
  exact⟨_,_,rfl,QxK h.1,Qur h.2⟩
def QfP(o:Out D):Out D:=o>>=fun d=>if d.scal=true then .stuck else .ok d
section
variable{C:Dc}{x:Str}{k:Nat}{fr:Bool}{dd:List D}{m:List D->Out D}{e:Expr}{es:List Expr}{A:SD->Out (List D)}{p pos:Pos}
theorem de_f(h:DefOk C.X.prog C.X.w C.X.K C.X.mg C.X.base C.CT x k fr dd m)(hr:Room k C.X.A)(ha:DA C (e::es) A)(hg:Gl C.X x)(hs:dd.all D.scal=true:=by rfl)(hx:∀ x,¬ C.XD x:=by exact fun _ h=>h)
 (hdb:(x == ("__debug__":Str))=false:=by decide) (he:starEach (e::es) C.X.env=(false,eval e C.X.env)::starEach es C.X.env:=by rfl) (hpl:(backTo pos (starEach es C.X.env)).any (·.1)=false:=by rfl):
 DE C (.Call (.Name x p) (e::es) [] pos) (eA (fun xs=>m (xs++dd)) A):=by
 obtain⟨f,fd,ps,ds,F,hm,hk,hb,hd⟩:=h
 obtain⟨t,p1,q1⟩:=ha
 refine⟨_,Qtf F hr hg hm hk hb hd pass0 p1 hdb he hpl,fun G H σ ς Q S q=>?_⟩
 unfold eA at q
 rw[Out.post_bind]at q
 refine q1 G H σ ς _ S (Out.post_mono q fun xs kk vs H1 G1 S1 a1 b1 r1=>⟨xs++dd,G1,S1.sub,r1.append (Qur hs),?_⟩)
 cases z:m (xs++dd) with
 | stuck=>rw[z]at kk;exact kk.elim
 | exc y=>rw[z]at kk;exact absurd kk (hx y)
 | ok d=>
  rw[z]at kk
  intro v H' G' g1 h1 s1 n1 ret
  unfold RetG at ret
  by_cases hc:(fr && !d.scal)=true
  ·rw[if_pos hc]at ret
   obtain⟨pp,rfl,h0,hg',ow⟩:=ret
   obtain⟨o,ho⟩:=ow.there
   have S2:=(S1.grow h1 g1 s1 n1).freeze ho hg' (S1.h0none h0) (fun i d' z1 z2=>by
    obtain⟨o',ho'⟩:=S1.own_ne z1 z2
    rw[h0]at ho';cases ho')
   exact(show KD C G H σ ς Q d from kk) _ _ _ S2 (a1.trans h1) ((b1.trans g1).trans (QE hg')) (ow.known hg' ho)
  ·rw[if_neg hc]at ret
   exact(show KD C G H σ ς Q d from kk) v H' G' (S1.grow h1 g1 s1 n1) (a1.trans h1) (b1.trans g1) ret
theorem df_f(h:DefOk C.X.prog C.X.w C.X.K C.X.mg C.X.base C.CT x k true dd m)(hr:Room k C.X.A)(ha:DA C (e::es) A)(hg:Gl C.X x)(hs:dd.all D.scal=true:=by rfl)(hx:∀ x,¬ C.XD x:=by exact fun _ h=>h)
 (hdb:(x == ("__debug__":Str))=false:=by decide) (he:starEach (e::es) C.X.env=(false,eval e C.X.env)::starEach es C.X.env:=by rfl) (hpl:(backTo pos (starEach es C.X.env)).any (·.1)=false:=by rfl):
 DF C (.Call (.Name x p) (e::es) [] pos) (fun ς=>QfP (eA (fun xs=>m (xs++dd)) A ς)):=by
 obtain⟨f,fd,ps,ds,F,hm,hk,hb,hd⟩:=h
 obtain⟨t,p1,q1⟩:=ha
 refine⟨_,Qtf F hr hg hm hk hb hd pass0 p1 hdb he hpl,fun G H σ ς Q S q=>?_⟩
 unfold QfP eA at q
 rw[Out.post_bind,Out.post_bind]at q
 refine q1 G H σ ς _ S (Out.post_mono q fun xs kk vs H1 G1 S1 a1 b1 r1=>⟨xs++dd,G1,S1.sub,r1.append (Qur hs),?_⟩)
 cases z:m (xs++dd) with
 | stuck=>rw[z]at kk;exact kk.elim
 | exc y=>rw[z]at kk;exact absurd kk (hx y)
 | ok d=>
  rw[z]at kk
  intro v H' G' g1 h1 s1 n1 ret
  rcases QR (show(if d.scal=true then Out.stuck else Out.ok d).post _ _ from kk) with⟨_,kk⟩ | ⟨hc,kk⟩
  ·exact kk.elim
  ·unfold RetG at ret
   rw[if_pos (by cases hh:d.scal with | true=>exact absurd hh hc | false=>rfl)]at ret
   obtain⟨pp,rfl,h0,hg',ow⟩:=ret
   exact(show KF C G H σ ς Q d from kk) pp H' G' (S1.grow h1 g1 s1 n1) (a1.trans h1) (b1.trans g1) (a1.free h0) hg' ow
end
abbrev bitsI(i:Int):Nat:=Builtin.Int.intBits i
theorem Qwd:∀{xs:List PySem.W.WData}{x:PySem.W.WData},x∈xs->x.weight<=PySem.W.WData.weightAll xs
 | y::r,x,hx=>by
  rcases List.mem_cons.mp hx with rfl | hx'
  ·simp only[PySem.W.WData.weightAll];omega
  ·have:=Qwd hx'
   simp only[PySem.W.WData.weightAll];omega
theorem QEz{ns:List Int}(h:PySem.W.WData.layableAll [PySem.W.WData.list (ns.map PySem.W.WData.int)]=true):∀ z∈ns,bitsI z<=1048576:=fun z hz=>by
 have h1:(PySem.W.WData.list (ns.map PySem.W.WData.int)).layable=true:=by simpa [PySem.W.WData.layableAll] using h
 have h2:(PySem.W.WData.list (ns.map PySem.W.WData.int)).weight<=2 ^ 20:=of_decide_eq_true (Bool.and_eq_true_iff.mp h1).2
 have h3:(PySem.W.WData.int z).weight<=PySem.W.WData.weightAll (ns.map PySem.W.WData.int):=Qwd (List.mem_map.mpr ⟨z,hz,rfl⟩)
 have h4:(PySem.W.WData.int z).weight<=1048576:=by
  have e:(2:Nat) ^ 20=1048576:=by decide
  simp only[PySem.W.WData.weight]at h2
  omega
 simpa only[PySem.W.WData.weight,Builtin.Int.intBits] using h4
theorem walk_of{l:PySem.W.OpenLaw}{n k:Nat}{q:Program}{loose:List Str}{XP:(Str->Option Value)->Heap->Prop}{YP:World->Heap->Prop}{d:DefRec}{K:Params->PySem.W.Frag}{CX:World->CXT}{sp:World->Sp}{x:Str}
 (hn:l.most=some n) (hn2:n<=sizeLine) (hdf:d.params.defaults=[]) (hr:Room k callerA)
 (hY:∀(w:World)(h:Heap),YP w h->(K w.params).In h)
 (F:∀(w:World)(mg:Str->Option Value)(fa:Addr)(h:Heap),(K w.params).In h->h.Ns mainGlobals mg->mg d.name=some (.ref fa)->
  ∃ fd:FuncData,(∀(s:Shared)(u:Value),BindsTo s fd ⟨[u],[]⟩ [(x,u)])/\
   ∀ base:Heap,(K w.params).In base->base.Ns mainGlobals mg->FnOk l.prog w (K w.params) mg base (CX w) k fa fd [x] (sp w))
 (hsp:∀(w:World)(H:Hp)(a:Addr)(ns:List Int),ns.length<=n->(∀ z∈ns,bitsI z<=1048576)->Only H->SqL (K w.params) H a (ns.map V.int)->sp w [.ref a] H (fun v _=>v=.bl true) fun _ _ _=>False)
 (hCX:∀(w:World)(H:Hp)(s:Shared)(e:Value)(s':Shared),CX w [] H s (fun _ _ _=>False) e s'->False):
 PySem.W.WalkO q loose XP YP l.row.toRowW d [] (fun f vs=>PySem.call f vs):=by
 intro w s₀ s₁ mg mb G Y fa o pm cd doc dV kV ho hd hcd hD hmg hg args vals as hpre hlay hrd hwl hlo
 obtain rfl:dV=.none:=PySem.W.Dflts.none hD hdf
 obtain rfl:kV=.none:=PySem.W.Dflts.noKw hD
 obtain⟨a,vs,ns,rfl,rfl,hobj,hints,hlen⟩:=Att.script_of hn hpre hwl
 have KX:=hY w _ Y
 obtain⟨fd,hb,hF⟩:=F w mg fa _ KX G.T.g hmg
 refine PySem.W.enter_call (codeAny_mono (QL2 KX G.T.g G.T.b G.T.builtins G.T.nolimit hg hobj hints (Nat.le_trans hlen hn2) hr hF hb (fun H hO hS=>hsp w H a ns hlen (QEz hlay) hO hS) fun H e s'=>hCX w H s₁ e s') fun r s' hq=>?_)
 obtain⟨rfl,h2,h3,h4⟩:=hq
 exact⟨.inl ⟨.bool true,.bool true,[],rfl,fun _=>rfl,.bool true,Att.post_true l _,fun _=>⟨List.Pairwise.nil,fun _ hm=>(nomatch hm)⟩⟩,h2,h3,h4⟩
end DL
namespace DL
open PySem PySem.Spec PyProof.Rows L2
def rCatS(K:PySem.W.Frag):R2:=fun x y H Q=>∃ l b xs zs,x=.ref l/\y=.ref b/\SqL K H l xs/\SqL K H b zs/\xs.length+zs.length<=sizeLine/\∀ p,H p=none->Q (.ref p) (upd H p (.lst (xs++zs)))
theorem QMM{X:Cx}:OpR X (binaryOp .Add) (rCatS X.K):=by
 intro pins s σ H x y v u Q I rx ry h
 obtain⟨l,b,xs,zs,rfl,rfl,hH,hB,hz,q⟩:=h
 cases rx
 cases ry
 obtain⟨its,r,pl,hz1⟩:=I.list hH
 obtain⟨its2,r2,pl2,hz2⟩:=I.list hB
 obtain⟨⟨cls,dd,data,sl⟩,n,ho,hc,hdd,hd⟩:=pl
 obtain⟨⟨cls2,dd2,data2,sl2⟩,n2,ho2,hc2,hdd2,hd2⟩:=pl2
 simp only at hc hd hc2 hd2
 subst hc hd hc2 hd2
 have e:its.toArray++its2.toArray=(its++its2).toArray:=by simp
 have h1:=r.length
 have h2:=r2.length
 refine concat_meets ⟨_,ho,rfl⟩ ⟨_,ho2,rfl⟩ noFill_list_add seq_list_add PySem.F.slot_list_add PySem.F.entry_list_add (PySem.F.args_list_add_2 _ _) (list_addW l b its.toArray its2.toArray n n2 dd dd2 sl sl2 (by rw[List.size_toArray,List.size_toArray];omega)) ⟨ho,ho2,?_⟩
 rw[e]
 exact⟨.ref _,_,I.lnew (t':=s.toks) (r.append r2) (by rw[List.length_append];omega),rfl,q _ I.fresh⟩
def dCat:D->D->Out D
 | .lst xs,.lst ys=>if fits (xs.length+ys.length)=true then .ok (.lst (xs++ys)) else .stuck
 | _,_=>.stuck
def dRep:D->D->Out D
 | .lst xs,.int k=>if (decide (-(2 ^ 63)<=k)&&decide (k<2 ^ 63)&&fits (xs.length * k.toNat))=true then .ok (.lst (List.replicate k.toNat xs).flatten) else .stuck
 | _,_=>.stuck
section
variable{C:Dc}{a b:Expr}{A B:SD->Out D}{pos:Pos}
theorem QAW(ha:DE C a A)(hb:DE C b B):DF C (.BinOp a .Add b pos) (e2 dCat A B):=by
 obtain⟨ta,p1,q1⟩:=ha
 obtain⟨tb,p2,q2⟩:=hb
 refine⟨_,pe_op QMM p1 p2,fun G H σ ς Q S q=>?_⟩
 unfold e2 at q
 rw[Out.post_bind]at q
 refine q1 G H σ ς _ S (Out.post_mono q fun x k v1 H1 G1 S1 a1 b1 r1=>?_)
 rw[Out.post_bind]at k
 refine q2 G1 H1 σ ς _ S1 (Out.post_mono k fun y k2 v2 H2 G2 S2 a2 b2 r2=>?_)
 have r1':=Rep.mono b2 x v1 r1
 cases x with
 | lst xs=>
  cases y with
  | lst ys=>
   obtain⟨p,vs,rfl,h2,h3⟩:=r1'
   obtain⟨p',vs',rfl,h2',h3'⟩:=r2
   rcases QR (show(if fits (xs.length+ys.length)=true then Out.ok (D.lst (xs++ys)) else .stuck).post _ _ from k2) with⟨hc,k3⟩ | ⟨_,k3⟩
   ·exact⟨p,p',vs,vs',rfl,rfl,S2.sub.seq h2,S2.sub.seq h2',by rw[← h3.length, ← h3'.length];exact of_decide_eq_true hc,
     KF.lst (KF.later (show KF C G H σ ς Q (.lst (xs++ys)) from k3) (a1.trans a2) (b1.trans b2)) S2 (h3.append h3')⟩
   ·exact k3.elim
  | _=>exact k2.elim
 | _=>cases y<;>exact k2.elim
theorem QCY(ha:DF C a A)(hb:DB C b B):DF C (.BinOp a .Mult b pos) (e2 dRep A B):=by
 obtain⟨ta,p1,q1⟩:=ha
 obtain⟨tb,p2,q2⟩:=hb
 refine⟨_,pe_op QOe p1 p2,fun G H σ ς Q S q=>?_⟩
 unfold e2 at q
 rw[Out.post_bind]at q
 refine q1 G H σ ς _ S (Out.post_mono q fun x k p H1 G1 S1 a1 b1 hp hg ow=>?_)
 rw[Out.post_bind]at k
 refine q2 G1 H1 σ ς _ S1 (Out.post_mono k fun y k2 v2 H2 G2 S2 a2 b2 r2=>?_)
 cases x with
 | lst xs=>
  cases y with
  | int i=>
   cases r2
   obtain⟨vs,h2,h3⟩:=ow
   rcases QR (show(if (decide (-(2 ^ 63)<=i)&&decide (i<2 ^ 63)&&fits (xs.length * i.toNat))=true then Out.ok (D.lst (List.replicate i.toNat xs).flatten) else .stuck).post _ _ from k2) with⟨hc,k3⟩ | ⟨_,k3⟩
   ·rw[Bool.and_eq_true,Bool.and_eq_true]at hc
    have h3':RepL C.X.K C.CT G2 xs vs:=RepL.mono b2 xs vs h3
    exact⟨p,i,vs,rfl,rfl,a2 _ _ h2,of_decide_eq_true hc.1.1,of_decide_eq_true hc.1.2,by rw[← h3'.length];exact of_decide_eq_true hc.2,
     KF.lst (KF.later (show KF C G H σ ς Q (.lst (List.replicate i.toNat xs).flatten) from k3) (a1.trans a2) (b1.trans b2)) S2 (h3'.rep i.toNat)⟩
   ·exact k3.elim
  | _=>exact k2.elim
 | _=>cases y<;>exact k2.elim
def dList:D->Out D
 | .lst xs=>.ok (.lst xs)
 | .tup xs=>.ok (.lst xs)
 | _=>.stuck
theorem RepL.flat{K:PySem.W.Frag}{CT:CTab}{G H:Hp}:∀{ds:List D}{vs:List V},ds.all D.scal=true->RepL K CT H ds vs->RepL K CT G ds vs
 | [],_,_,h=>h
 | d::ds,_,hs,⟨v,r,h1,h2,h3⟩=>by
  rw[List.all_cons,Bool.and_eq_true]at hs
  exact⟨v,r,h1,h2.scal hs.1,RepL.flat hs.2 h3⟩
theorem QgW{p:Pos}(hg:Gl C.X "list")(hm:C.X.mg "list"=none)(ha:DE C a A)
 (he:starEach (a::[]) C.X.env=(false,eval a C.X.env)::starEach [] C.X.env:=by rfl):DF C (.Call (.Name "list" p) [a] [] pos) (e1 dList A):=by
 obtain⟨ta,p1,q1⟩:=ha
 refine⟨_,QyS QB0 hg hm PyProof.Rows.Boot.«list» (QaS p1 Qc9 he) (by decide) (by decide) he rfl,fun G H σ ς Q S q=>?_⟩
 unfold e1 at q
 rw[Out.post_bind]at q
 refine q1 G H σ ς _ S (Out.post_mono q fun x k v1 H1 G1 S1 a1 b1 r1=>?_)
 cases x with
 | lst xs=>
  obtain⟨p,vs,rfl,h2,h3⟩:=r1
  exact⟨p,vs,rfl,.inl (S1.sub.seq h2),KF.lst (KF.later (show KF C G H σ ς Q (.lst xs) from k) a1 b1) S1 h3⟩
 | tup xs=>
  obtain⟨p,vs,rfl,h2,h3⟩:=r1
  exact⟨p,vs,rfl,.inr (Same.sqT S1.sub h2),KF.lst (KF.later (show KF C G H σ ς Q (.lst xs) from k) a1 b1) S1 h3⟩
 | _=>exact k.elim
end
section
variable{C:Dc}{e:Expr}{es:List Expr}{A:SD->Out (List D)}{p pos:Pos}
def fMin2:List D->Out D
 | [.int i,.int j]=>.ok (.int (if j<i then j else i))
 | _=>.stuck
def fMax2:List D->Out D
 | [.int i,.int j]=>.ok (.int (if j > i then j else i))
 | _=>.stuck
theorem Qwx(xs:List D):(∃ i j,xs=[D.int i,D.int j])∨(fMin2 xs=.stuck/\fMax2 xs=.stuck):=by
 match xs with
 | []=>exact .inr ⟨rfl,rfl⟩
 | [x]=>cases x<;>exact .inr ⟨rfl,rfl⟩
 | [x,y]=>
  cases x with
  | int i=>
   cases y with
   | int j=>exact .inl ⟨i,j,rfl⟩
   | _=>exact .inr ⟨rfl,rfl⟩
  | _=>exact .inr ⟨rfl,rfl⟩
 | x::y::z::r=>
  cases x with
  | int i=>cases y<;>exact .inr ⟨rfl,rfl⟩
  | _=>exact .inr ⟨rfl,rfl⟩
theorem QMU(hc:C.X.calm=true)(hg:Gl C.X "min")(hm:C.X.mg "min"=none)(ha:DAB C (e::es) A)
 (he:starEach (e::es) C.X.env=(false,eval e C.X.env)::starEach es C.X.env:=by rfl) (hpl:(backTo pos (starEach es C.X.env)).any (·.1)=false:=by rfl):DE C (.Call (.Name "min" p) (e::es) [] pos) (eA fMin2 A):=by
 refine Qie (QKc hc) ?_ ?_ hg hm PyProof.Rows.Boot.«min» ha (by decide) (by decide) he hpl
 ·intro G H σ ς Q xs vs S r q
  rcases Qwx xs with⟨i,j,rfl⟩ | ⟨h,_⟩
  ·obtain⟨_,_,rfl,rfl,_,_,rfl,rfl,rfl⟩:=r
   exact⟨i,j,rfl,q.2⟩
  ·rw[h]at q;exact q.elim
 ·intro xs
  rcases Qwx xs with⟨i,j,rfl⟩ | ⟨h,_⟩
  ·exact rfl
  ·rw[h];exact True.intro
theorem QNs(hc:C.X.calm=true)(hg:Gl C.X "max")(hm:C.X.mg "max"=none)(ha:DAB C (e::es) A)
 (he:starEach (e::es) C.X.env=(false,eval e C.X.env)::starEach es C.X.env:=by rfl) (hpl:(backTo pos (starEach es C.X.env)).any (·.1)=false:=by rfl):DE C (.Call (.Name "max" p) (e::es) [] pos) (eA fMax2 A):=by
 refine Qie (QJ1 hc) ?_ ?_ hg hm PyProof.Rows.Boot.«max» ha (by decide) (by decide) he hpl
 ·intro G H σ ς Q xs vs S r q
  rcases Qwx xs with⟨i,j,rfl⟩ | ⟨_,h⟩
  ·obtain⟨_,_,rfl,rfl,_,_,rfl,rfl,rfl⟩:=r
   exact⟨i,j,rfl,q.2⟩
  ·rw[h]at q;exact q.elim
 ·intro xs
  rcases Qwx xs with⟨i,j,rfl⟩ | ⟨_,h⟩
  ·exact rfl
  ·rw[h];exact True.intro
def dInt:D->Out D
 | .int i=>.ok (.int i)
 | .bl b=>.ok (.int (if b then 1 else 0))
 | _=>.stuck
theorem Qtb(hg:Gl C.X "int")(hm:C.X.mg "int"=none)(ha:DAB C (e::es) A)
 (he:starEach (e::es) C.X.env=(false,eval e C.X.env)::starEach es C.X.env:=by rfl) (hpl:(backTo pos (starEach es C.X.env)).any (·.1)=false:=by rfl):DE C (.Call (.Name "int" p) (e::es) [] pos) (eA (f1 dInt) A):=by
 refine QKN QJG (Qu0 ?_) (Qth ?_) hg hm PyProof.Rows.Boot.«int» ha (by decide) (by decide) he hpl
 ·intro G H σ ς Q x v S r q
  cases x with
  | int i=>cases r;exact .inl ⟨i,rfl,q.2⟩
  | bl b=>cases r;exact .inr ⟨b,rfl,q.2⟩
  | _=>exact q.elim
 ·intro x
  cases x<;>first | exact rfl | exact True.intro
end
def isaT(T:String):D->Out Bool
 | .ins _ _=>.stuck
 | .err _=>.stuck
 | .bl _=>.ok (T == "bool"||T == "int")
 | d=>.ok (Qc8 d == T)
structure Kit(K:PySem.W.Frag)(T:String):Prop where
 h:∀ d:D,(match d with | .ins _ _=>True | .err _=>True | .bl _=>PySem.W.kitOne K (.type "bool") (.type T)=some (T == "bool"||T == "int") | d=>PySem.W.kitOne K (.type (Qc8 d)) (.type T)=some (Qc8 d == T))
section
variable{C:Dc}{e:Expr}{E:SD->Out D}{p pc pos:Pos}
theorem QdQ(T:Str){T':String}(k:Kit C.X.K T')(hgT:Gl C.X T)(hmT:C.X.mg T=none)(hb:bootBuiltins T=some (.type T'))(hg:Gl C.X "isinstance")(hm:C.X.mg "isinstance"=none)(h:DB C e E)
 (hn:T≠"__name__":=by decide) (hdb:(T == ("__debug__":Str))=false:=by decide)
 (he:starEach (e::[.Name T pc]) C.X.env=(false,eval e C.X.env)::starEach [.Name T pc] C.X.env:=by rfl) (he2:starEach (.Name T pc::[]) C.X.env=(false,eval (.Name T pc) C.X.env)::starEach [] C.X.env:=by rfl)
 (hpl:(backTo pos (starEach [.Name T pc] C.X.env)).any (·.1)=false:=by rfl):DE C (.Call (.Name "isinstance" p) [e,.Name T pc] [] pos) (eIsa (isaT T') E):=by
 refine QOs (vc:=.ty T') (uc:=.type T') (QND hgT hmT hb rfl hn hdb) rfl (fun d=>?_) hg hm h he he2 hpl
 have:=k.h d
 cases d<;>first | exact True.intro | exact this
end
theorem Qsl{K:PySem.W.Frag}{T:String}(h1:PySem.W.kitOne K (.type "NoneType") (.type T)=some ("NoneType" == T))(h2:PySem.W.kitOne K (.type "bool") (.type T)=some (T == "bool"||T == "int"))
 (h3:PySem.W.kitOne K (.type "int") (.type T)=some ("int" == T)) (h4:PySem.W.kitOne K (.type "str") (.type T)=some ("str" == T)) (h5:PySem.W.kitOne K (.type "list") (.type T)=some ("list" == T))
 (h6:PySem.W.kitOne K (.type "tuple") (.type T)=some ("tuple" == T)) (h7:PySem.W.kitOne K (.type "dict") (.type T)=some ("dict" == T)):Kit K T:=⟨fun d=>by
 cases d with
 | non=>exact h1
 | bl _=>exact h2
 | int _=>exact h3
 | str _=>exact h4
 | lst _=>exact h5
 | tup _=>exact h6
 | dic _=>exact h7
 | ins _ _=>exact True.intro
 | err _=>exact True.intro⟩
theorem QNo{K:PySem.W.Frag}:Kit K "int":=Qsl (by rfl) (by rfl) (by rfl) (by rfl) (by rfl) (by rfl) (by rfl)
theorem QA1{K:PySem.W.Frag}:Kit K "bool":=Qsl (by rfl) (by rfl) (by rfl) (by rfl) (by rfl) (by rfl) (by rfl)
theorem QGS{K:PySem.W.Frag}:Kit K "str":=Qsl (by rfl) (by rfl) (by rfl) (by rfl) (by rfl) (by rfl) (by rfl)
theorem Qqp{K:PySem.W.Frag}:Kit K "list":=Qsl (by rfl) (by rfl) (by rfl) (by rfl) (by rfl) (by rfl) (by rfl)
theorem Qy0{K:PySem.W.Frag}:Kit K "tuple":=Qsl (by rfl) (by rfl) (by rfl) (by rfl) (by rfl) (by rfl) (by rfl)
def QbW(i:Nat)(E:SD->Out D):SD->Out Fl:=fun ς=>match ς[i]? with
 | some (some (.o,.lst xs))=>E ς>>=fun d=>if decide (xs.length<sizeLine)=true then .ok (.nx (ς.set i (some (.o,.lst (xs++[d]))))) else .stuck
 | _=>.stuck
def sPutO(i:Nat)(I E:SD->Out D):SD->Out Fl:=fun ς=>E ς>>=fun d=>match ς[i]? with
 | some (some (.o,.lst xs))=>I ς>>=fun k=>match k with
  | .int k=>optO (ixN xs.length k)>>=fun j=>.ok (.nx (ς.set i (some (.o,.lst (xs.set j d)))))
  | _=>.stuck
 | _=>.stuck
section
variable{C:Dc}{G H:Hp}{σ:St}{ς:SD}
theorem Qii{α:Type}{xs:List α}{i:Nat}{x:α}(h:xs[i]?=some x):xs.set i x=xs:=by
 obtain⟨hi,e⟩:=List.getElem?_eq_some_iff.mp h
 rw[← e];exact List.set_getElem_self hi
theorem StR.write(S:StR C G H σ ς){i:Nat}{p:Addr}{xs ys:List D}{vs ws:List V}(hi:ς[i]?=some (some (.o,.lst xs)))(hp:σ[i]?=some (some (.ref p)))(hH:H p=some (.lst vs))(r:RepL C.X.K C.CT G ys ws):
 StR C G (upd H p (.lst ws)) σ (ς.set i (some (.o,.lst ys))):=by
 obtain⟨p',e1,hg,h0,ow⟩:=S.ow i _ hi
 rw[hp]at e1;cases e1
 have hil:i<ς.length:=(List.getElem?_eq_some_iff.mp hi).1
 have ne:∀ b o,G b=some o->b≠p:=fun b o e z=>by subst z;rw[hg]at e;cases e
 have S':StR C G (upd H p (.lst ws)) (σ.set i (some (.ref p))) (ς.set i (some (.o,.lst ys))):={
  sub:=fun b o e=>by rw[Qk (ne b o e)];exact S.sub b o e
  g0:=S.g0
  new:=S.new
  fr:=fun b o e m=>by
   rw[Qk (by rintro rfl;rw[h0]at e;cases e)];exact S.fr b o e m
  dom:=fun b e=>by
   by_cases hb:b=p
   ·subst hb;exact h0
   ·rw[Qk hb]at e;exact S.dom b e
  bs:=fun b o e=>by
   rw[Qk (by rintro rfl;rw[S.bh _ h0]at e;cases e)];exact S.bs b o e
  bh:=S.bh
  len:=by rw[List.length_set,List.length_set];exact S.len
  fz:=fun j d h=>by
   rcases QK h with⟨rfl,h2,l⟩ | ⟨hne,h2⟩
   ·cases h2
   ·rw[Qt hne];exact S.fz j d h2
  ow:=fun j d h=>by
   rcases QK h with⟨rfl,h2,l⟩ | ⟨hne,h2⟩
   ·cases h2
    exact⟨p,Qg1 (by rw[S.len];exact l),hg,h0,⟨ws,QS,r⟩⟩
   ·rw[Qt hne]
    obtain⟨q,a,b,c,w⟩:=S.ow j d h2
    have qp:q≠p:=by
     rintro rfl
     exact S.inj i j _ _ q hne hi h2 hp a
    exact⟨q,a,b,c,w.mono (Same.refl G) fun o z=>by rw[Qk qp];exact z⟩
  ln:=fun j d h=>by
   rcases QK h with⟨rfl,h2,l⟩ | ⟨hne,h2⟩
   ·cases h2
   ·rw[Qt hne];exact S.ln j d h2
  inj:=fun j k d1 d2 q hjk h1 h2 h3=>by
   have get:∀(j:Nat) d,(ς.set i (some (.o,D.lst ys)))[j]?=some (some (.o,d))->∃ d',ς[j]?=some (some (.o,d')):=fun j d h=>by
    rcases QK h with⟨rfl,h2,l⟩ | ⟨hne,h2⟩
    ·exact⟨_,hi⟩
    ·exact⟨_,h2⟩
   obtain⟨d1',g1⟩:=get j d1 h1
   obtain⟨d2',g2⟩:=get k d2 h2
   rw[Qii hp]at h3 ⊢
   exact S.inj j k d1' d2' q hjk g1 g2 h3
  sf:=fun j d h=>by
   rcases QK h with⟨rfl,h2,l⟩ | ⟨hne,h2⟩
   ·cases h2
   ·rw[Qt hne]
    obtain⟨q,a,b,c,m,z,w⟩:=S.sf j d h2
    have qp:q≠p:=by
     rintro rfl
     exact c h0
    exact⟨q,a,b,c,m,z,w.mono (Same.refl G) fun o z=>by rw[Qk qp];exact z⟩
  su:=fun j k d1 d2 q hjk h1 h2 h3=>by
   rcases QK h1 with⟨rfl,q1,l⟩ | ⟨n1,q1⟩
   ·cases q1
   ·rcases QK h2 with⟨rfl,q2,l⟩ | ⟨n2,q2⟩
    ·cases q2
    ·rw[Qt n1]at h3
     rw[Qt n2];exact S.su j k d1 d2 q hjk q1 q2 h3 }
 rw[Qii hp]at S'
 exact S'
variable{a e:Expr}{A E:SD->Out D}{pos p1 p2 p3:Pos}{x:Str}
theorem Qda(i:Nat)(he:DE C e E)(hN:C.X.N[i]?=some x:=by rfl)(hv:Vis C.X.env.scope x:=by first | exact Or.inl rfl | exact Or.inr (Or.inl rfl) | exact Or.inr (Or.inr rfl))
 (hd:(x == ("__debug__":Str))=false:=by decide) (hcd:(x == ("__classdict__":Str))=false:=by decide)
 (hbase:attributeBase (.Name x p1) "append" C.X.env (eval (.Name x p1) C.X.env)=eval (.Name x p1) C.X.env:=by rfl)
 (hfew:((backTo p3 (starEach (e::[]) C.X.env)).all (fun x => !x.1)&&(backToKw p3 (keywordEach [] C.X.env)).all (fun x=>x.1.isSome)
  && decide ((e::[]).length+([]:List Keyword).length+(if ([]:List Keyword).isEmpty then 0 else 1)<30))=true:=by rfl)
 (hline:(p2.endLine == p3.line)=true:=by rfl) (hs:starEach (e::[]) C.X.env=(false,eval e C.X.env)::starEach [] C.X.env:=by rfl)
 (hsw:swapsWith (.Call (.Attribute (.Name x p1) "append" p2) [e] [] p3) none pos.line C.X.env=pure false:=by rfl):
 DS C (.Expr (.Call (.Attribute (.Name x p1) "append" p2) [e] [] p3) pos) (QbW i E):=by
 obtain⟨t,p,q⟩:=he
 refine⟨_,Qxp (pe_bm PySem.F.plainAttrs_list PySem.F.slot_list_append PySem.F.type_list_append QyN (QeF (i:=i) hN hv hd hcd) (QaS p Qc9 hs) hbase hfew hline hs rfl) hsw,fun G H σ ς W S k=>?_⟩
 unfold QbW at k
 split at k
 ·rename_i xs z
  obtain⟨pp,e1,hg,h0,ow⟩:=S.ow i _ z
  obtain⟨vs,hv1,hv2⟩:=ow
  rw[Out.post_bind]at k
  refine⟨_,e1,.inl ⟨rfl,vs,SqL.of hv1⟩,q G H σ ς _ S (Out.post_mono k fun d k2 v H1 G1 S1 a1 b1 r1=>?_)⟩
  rcases QR k2 with⟨hc,k3⟩ | ⟨_,k3⟩
  ·have hl:=hv2.length
   refine⟨pp,vs,v,rfl,rfl,a1 _ _ hv1,by rw[← hl];exact of_decide_eq_true hc,?_⟩
   exact k3 σ _ G1 (S1.write z e1 (a1 _ _ hv1) ((RepL.mono b1 xs vs hv2).append (RepL.one r1))) b1
  ·exact k3.elim
 ·exact k.elim
theorem Qyb(i:Nat)(hi:DB C a A)(he:DE C e E)(hN:C.X.N[i]?=some x:=by rfl)(hv:Vis C.X.env.scope x:=by first | exact Or.inl rfl | exact Or.inr (Or.inl rfl) | exact Or.inr (Or.inr rfl))
 (hd:(x == ("__debug__":Str))=false:=by decide) (hcd:(x == ("__classdict__":Str))=false:=by decide)
 (hst:∀ v,assign (.Subscript (.Name x p1) a p2) C.X.env v=(do
  let ov ← holding [v] (eval (.Name x p1) C.X.env)
  let iv ← holding [v,ov] (eval a C.X.env)
  standAt p2
  holding [v,ov,iv] (setItem ov iv v)
  release [v,ov,iv] []):=by intro _;rfl)
 (hs:swapsWithSole [.Subscript (.Name x p1) a p2] e pos.line C.X.env=pure false:=by rfl) (hw:swappedStores [.Subscript (.Name x p1) a p2] e C.X.env=pure none:=by rfl)
 (h1:(assignEach [.Subscript (.Name x p1) a p2] C.X.env).map (·.2)=[assign (.Subscript (.Name x p1) a p2) C.X.env]:=by rfl):DS C (.Assign [.Subscript (.Name x p1) a p2] e pos) (sPutO i A E):=by
 obtain⟨t,p,q⟩:=he
 obtain⟨t2,p2,q2⟩:=hi
 refine⟨_,QAZ p (QLf (QeF (i:=i) hN hv hd hcd) p2 QCw hst) hs hw h1,fun G H σ ς W S k=>?_⟩
 unfold sPutO at k
 rw[Out.post_bind]at k
 refine q G H σ ς _ S (Out.post_mono k fun d k v H1 G1 S1 a1 b1 r1=>?_)
 split at k
 ·rename_i xs z
  obtain⟨pp,e1,hg,h0,ow⟩:=S1.ow i _ z
  obtain⟨vs,hv1,hv2⟩:=ow
  rw[Out.post_bind]at k
  refine⟨_,e1,q2 G1 H1 σ ς _ S1 (Out.post_mono k fun y k2 w H2 G2 S2 a2 b2 r2=>?_)⟩
  cases y with
  | int j=>
   cases r2
   have k2':(optO (ixN xs.length j)>>=fun j=>Out.ok (Fl.nx (ς.set i (some (.o,D.lst (xs.set j d)))))).post (FlK C G W) C.XD:=k2
   rw[Out.post_bind]at k2'
   obtain⟨jj,ej,k3⟩:=QcK k2'
   refine⟨pp,vs,j,jj,rfl,rfl,a2 _ _ hv1,by rw[← hv2.length];exact ej,?_⟩
   exact k3 σ _ G2 (S2.write z e1 (a2 _ _ hv1) ((RepL.mono b2 xs vs hv2).set (Rep.mono b2 d v r1) jj)) (b1.trans b2)
  | _=>exact k2.elim
 ·exact k.elim
end
end DL
namespace DL
open PySem PySem.Spec PyProof.Rows L2
structure DIt(K:PySem.W.Frag)(CT:CTab)(G1:Hp)(J:It)(ds:List D):Prop where
 go:∀ G H (i:Nat) d,Same G1 G->Same G H->ds[i]?=some d->J.go i H/\∀ x H',J.yld i H x H'->∃ G',Same G G'/\Same H H'/\Same G' H'/\(∀ b,G b=none->G' b≠none->H b=none)/\Rep K CT G' d x
 stop:∀ G H,Same G1 G->Same G H->J.stop ds.length H
structure DItB(K:PySem.W.Frag)(CT:CTab)(B1 G1:Hp)(J:It)(ds:List D):Prop where
 go:∀ G H (i:Nat) d,Same G1 G->Same G H->Same B1 H->ds[i]?=some d->J.go i H/\∀ x H',J.yld i H x H'->∃ G',Same G G'/\Same H H'/\Same G' H'/\(∀ b,G b=none->G' b≠none->H b=none)/\Rep K CT G' d x
 stop:∀ G H,Same G1 G->Same G H->Same B1 H->J.stop ds.length H
theorem DIt.b{K:PySem.W.Frag}{CT:CTab}{B1 G1:Hp}{J:It}{ds:List D}(h:DIt K CT G1 J ds):DItB K CT B1 G1 J ds:=⟨fun G H i d a b _ e=>h.go G H i d a b e,fun G H a b _=>h.stop G H a b⟩
def DIB(C:Dc)(tg iter:Expr)(its:SD->Out (List D)):Prop:=∃ wi,PI C.X tg iter wi/\∀ G H σ ς (R:It->Hp->Prop),StR C G H σ ς->
 (its ς).post (fun ds=>∀ J H1 G1,StR C G1 H1 σ ς->Same H H1->Same G G1->DItB C.X.K C.CT H1 G1 J ds->R J H1) C.XD->wi σ H R
def DI(C:Dc)(tg iter:Expr)(its:SD->Out (List D)):Prop:=∃ wi,PI C.X tg iter wi/\∀ G H σ ς (R:It->Hp->Prop),StR C G H σ ς->
 (its ς).post (fun ds=>∀ J H1 G1,StR C G1 H1 σ ς->Same H H1->Same G G1->DIt C.X.K C.CT G1 J ds->R J H1) C.XD->wi σ H R
section
variable{C:Dc}{e tg iter:Expr}{E:SD->Out D}{body:List Stmt}{T U:SD->Out Fl}{pos:Pos}{g:D->SD->Out SD}{its:SD->Out (List D)}
theorem DI.b(h:DI C tg iter its):DIB C tg iter its:=by
 obtain⟨wi,p,q⟩:=h
 exact⟨wi,p,fun G H σ ς R S k=>q G H σ ς R S (Out.post_mono k fun ds kd J H1 G1 S1 a b dit=>kd J H1 G1 S1 a b dit.b)⟩
theorem QL1{K:PySem.W.Frag}{CT:CTab}{G1:Hp}{a:Addr}{ds:List D}{vs:List V}(h:SqL K G1 a vs)(r:RepL K CT G1 ds vs):DIt K CT G1 (Itl K a) ds where
 go:=fun G H i d s1 sH hd=>by
  obtain⟨v,hv,rv⟩:=r.get hd
  have hq:SqL K H a vs:=sH.seq (s1.seq h)
  refine⟨⟨vs,v,hq,hv⟩,fun x H' ⟨e,y⟩=>?_⟩
  have ex:vs[i]?=some x:=y vs hq
  rw[hv]at ex;cases ex
  subst e
  exact⟨G,Same.refl _,Same.refl _,sH,fun b g n=>absurd g n,Rep.mono s1 d v rv⟩
 stop:=fun G H s1 sH=>⟨vs,sH.seq (s1.seq h),by rw[r.length];exact Nat.le_refl _⟩
theorem Qze{K:PySem.W.Frag}{CT:CTab}{G1:Hp}{lo:Int}{n:Nat}:DIt K CT G1 (Itr lo n) (Qcu lo n) where
 go:=fun G H i d s1 sH hd=>by
  have hi:i<n:=by
   have:=(List.getElem?_eq_some_iff.mp hd).1
   rw[Qv2]at this;exact this
  rw[QIu hi]at hd;cases hd
  exact⟨hi,fun x H' ⟨e,y⟩=>by
   subst e y
   exact⟨G,Same.refl _,Same.refl _,sH,fun b g n=>absurd g n,rfl⟩⟩
 stop:=fun G H s1 sH=>by rw[Qv2];exact Nat.le_refl _
theorem Qai(h:DE C iter E):DI C tg iter (itL E):=by
 obtain⟨t,p,q⟩:=h
 refine⟨_,QHb p,fun G H σ ς R S k=>?_⟩
 unfold itL at k
 rw[Out.post_bind]at k
 refine q G H σ ς _ S (Out.post_mono k fun d k v H1 G1 S1 a1 b1 r1=>?_)
 cases d with
 | lst xs=>
  obtain⟨a,vs,rfl,h2,h3⟩:=r1
  exact⟨a,rfl,⟨vs,S1.sub.seq h2⟩,k _ H1 G1 S1 a1 b1 (QL1 h2 h3)⟩
 | _=>exact k.elim
theorem QaL{a:Expr}{A:SD->Out D}{p1 p2:Pos}(hgl:Gl C.X "range")(hm:C.X.mg "range"=none)(ha:DB C a A)
 (hst:starEach [a] C.X.env=(false,eval a C.X.env)::starEach [] C.X.env:=by rfl):DI C tg (.Call (.Name "range" p1) [a] [] p2) (itR1 A):=by
 obtain⟨t,p,q⟩:=ha
 refine⟨_,QJH hgl hm (QaS p Qc9 hst) hst,fun G H σ ς R S k=>?_⟩
 unfold itR1 at k
 rw[Out.post_bind]at k
 refine q G H σ ς _ S (Out.post_mono k fun d k v H1 G1 S1 a1 b1 r=>?_)
 cases d with
 | int n=>
  cases r
  rcases QR k with⟨hc,k⟩ | ⟨_,k⟩
  ·obtain⟨c1,c2⟩:=QpG hc
   exact⟨n,rfl,c1,c2,k _ H1 G1 S1 a1 b1 Qze⟩
  ·exact k.elim
 | _=>exact k.elim
theorem QKU{a b:Expr}{A B:SD->Out D}{p1 p2:Pos}(hgl:Gl C.X "range")(hm:C.X.mg "range"=none)(ha:DB C a A)(hb0:DB C b B)
 (hst:starEach [a,b] C.X.env=(false,eval a C.X.env)::starEach [b] C.X.env:=by rfl) (hst2:starEach [b] C.X.env=(false,eval b C.X.env)::starEach [] C.X.env:=by rfl):DI C tg (.Call (.Name "range" p1) [a,b] [] p2) (itR2 A B):=by
 obtain⟨t0,p0,q0⟩:=ha
 obtain⟨t3,p3,q3⟩:=hb0
 refine⟨_,QLd hgl hm (QaS p0 (QaS p3 Qc9 hst2) hst) (by rw[hst,hst2];rfl) (by rw[hst2];rfl),fun G H σ ς R S k=>?_⟩
 unfold itR2 at k
 rw[Out.post_bind]at k
 refine q0 G H σ ς _ S (Out.post_mono k fun d k v H1 G1 S1 a1 b1 r=>?_)
 rw[Out.post_bind]at k
 refine q3 G1 H1 σ ς _ S1 (Out.post_mono k fun d2 k v2 H2 G2 S2 a2 b2 r'=>?_)
 cases d with
 | int n=>
  cases d2 with
  | int m=>
   cases r;cases r'
   rcases QR k with⟨hc,k⟩ | ⟨_,k⟩
   ·rw[Bool.and_eq_true]at hc
    obtain⟨c1,c2⟩:=QpG hc.1
    obtain⟨c3,c4⟩:=QpG hc.2
    exact⟨n,m,rfl,⟨c1,c2,c3,c4⟩,k _ H2 G2 S2 (a1.trans a2) (b1.trans b2) Qze⟩
   ·exact k.elim
  | _=>exact k.elim
 | _=>exact k.elim
theorem QbX(hp:PassesOwn (model C.X.prog C.X.w) C.X.A C.X.env C.X.xe)(hc:C.X.calm=true)(hi:DI C tg iter its)(hg:DG C tg g)(hne:noExc g)(hb:DSs C body T)
 (hs:∀ x,foldedSetIterable iter C.X.env x=pure x:=by intro _;rfl):DS C (.For tg iter body [] pos) (sFor g its T):=by
 obtain⟨t0,p0,q0⟩:=hi
 obtain⟨t1,p1,q1⟩:=hg
 obtain⟨t2,p2,q2⟩:=hb
 refine⟨_,QPr hp hc p0 p1 p2 hs,fun G H σ ς W S k=>?_⟩
 unfold sFor at k
 rw[Out.post_bind]at k
 refine q0 G H σ ς _ S (Out.post_mono k fun xs k J H1 G1 S1 a1 b1 dit=>?_)
 refine⟨fun i m σ' H'=>m=xs.length - i/\i<=xs.length/\∃ G' ς',StR C G' H' σ' ς'/\Same G1 G'/\(loopD (fun x ς=>g x ς>>=fun ς'=>T ς') (xs.drop i) ς').post (FlK C G' W) C.XD,
  ⟨xs.length,by simp,Nat.zero_le _,G1,ς,S1,Same.refl _,Out.post_mono (by simpa using k) fun f k=>FlK.later k b1⟩,?_⟩
 rintro i m σ' H' ⟨rfl,hle,G',ς',S',s',q'⟩
 by_cases hlt:i<xs.length
 ·have hd:xs[i]?=some xs[i]:=by simp[hlt]
  obtain⟨hgo,hy⟩:=dit.go G' H' i _ s' S'.sub hd
  refine .inr ⟨hgo,fun σ2 H2=>∃ G2 ς2,StR C G2 H2 σ2 ς2/\Same G1 G2/\(loopD (fun x ς=>g x ς>>=fun ς'=>T ς') (xs.drop (i+1)) ς2).post (FlK C G2 W) C.XD,
   fun σ2 H2 h2=>⟨xs.length - (i+1),by omega,rfl,hlt,h2⟩,fun x H'' y=>?_⟩
  obtain⟨G'',g1,h1,s1,n1,r⟩:=hy x H'' y
  rw[QyR hd]at q'
  exact turnD hne q1 q2 (S'.grow h1 g1 s1 n1) r (Out.post_mono q' fun f k=>FlK.later k g1) fun σ2 H2 G2 ς2 S2 s2 q2=>⟨G2,ς2,S2,(s'.trans g1).trans s2,q2⟩
 ·have e:i=xs.length:=by omega
  subst e
  rw[List.drop_length]at q'
  exact .inl ⟨dit.stop G' H' s' S'.sub,q' σ' H' G' S' (Same.refl _)⟩
end
def compM(f:D->Out (Option D)):List D->Out (List D)
 | []=>.ok []
 | x::xs=>f x>>=fun o=>compM f xs>>=fun ys=>.ok (o.toList++ys)
def captS(ς:SD)(j:Nat):Option (SM×D):=match ς[j]? with
 | some (some (.k,d))=>some (.k,d)
 | some (some (_,d))=>some (.l,d)
 | _=>none
def captD(js:List (Option Nat))(ς:SD):SD:=js.map fun j=>j.bind (captS ς)
def turnC(js:List (Option Nat))(g:D->SD->Out SD)(c:SD->Out Bool)(e:SD->Out D)(ς:SD)(x:D):Out (Option D):=
 g x (captD js ς)>>=fun τ=>c τ>>=fun b=>if b=true then e τ>>=fun y=>.ok (some y) else .ok none
def eComp(js:List (Option Nat))(its:SD->Out (List D))(g:D->SD->Out SD)(c:SD->Out Bool)(e:SD->Out D):SD->Out D:=fun ς=>
 its ς>>=fun xs=>compM (turnC js g c e ς) xs>>=fun ys=>if fits ys.length=true then .ok (.lst ys) else .stuck
def DIf(C:Dc)(ifs:List Expr)(T:SD->Out Bool):Prop:=∃ t,PIf C.X ifs t/\∀ G H σ ς Q,StR C G H σ ς->(T ς).post (KT C G H σ ς Q) C.XD->t σ H Q
def cTrue:SD->Out Bool:=fun _=>.ok true
theorem QJ{C:Dc}:DIf C [] cTrue:=⟨_,QMK,fun G H σ ς Q S q=>KT.now q S⟩
theorem QNx{C:Dc}{c:Expr}{T:SD->Out Bool}(h:DT C c T):DIf C [c] T:=let ⟨t,p,q⟩:=h;⟨t,QM0 p,q⟩
def gKeep(g:D->SD->Out SD)(τ0:SD):Prop:=∀ x τ,g x τ0=.ok τ->τ.length=τ0.length/\∀(i:Nat) md,τ0[i]?=some (some md)->τ[i]?=some (some md)
theorem QI{i:Nat}{τ0:SD}(h:τ0[i]?=some none):gKeep (gN i) τ0:=by
 intro x τ e
 cases e
 refine⟨List.length_set ..,fun j md hj=>?_⟩
 rw[Qt (by rintro rfl;rw[h]at hj;cases hj)];exact hj
theorem QF6:∀(is:List Nat)(ds:List D)(τ0 τ:SD),(∀ i∈is,∀ md,τ0[i]?=some (some md)->False)->QaB is ds τ0=.ok τ->τ.length=τ0.length/\∀(i:Nat) md,τ0[i]?=some (some md)->τ[i]?=some (some md)
 | [],[],τ0,τ,_,e=>by cases e;exact⟨rfl,fun _ _ h=>h⟩
 | i::is,d::ds,τ0,τ,h,e=>by
  have e':QaB is ds (τ0.set i (some (.k,d)))=.ok τ:=e
  -- the later targets may meet the stored one again: only what was there ahead is kept
  have go:∀(is:List Nat)(ds:List D)(τ1 τ:SD),τ1.length=τ0.length->(∀ i∈is,∀ md,τ0[i]?=some (some md)->False)->(∀(i:Nat) md,τ0[i]?=some (some md)->τ1[i]?=some (some md))->QaB is ds τ1=.ok τ->
   τ.length=τ0.length/\∀(i:Nat) md,τ0[i]?=some (some md)->τ[i]?=some (some md):=by
   intro is
   induction is with
   | nil=>intro ds τ1 τ hl _ hk e;cases ds with
    | nil=>cases e;exact⟨hl,hk⟩
    | cons _ _=>cases e
   | cons i is ih=>intro ds τ1 τ hl hn hk e;cases ds with
    | nil=>cases e
    | cons d ds=>
     refine ih ds _ τ (by rw[List.length_set];exact hl) (fun j hj=>hn j (List.mem_cons_of_mem _ hj)) (fun j md hj=>?_) e
     rw[Qt (by rintro rfl;exact hn _ List.mem_cons_self md hj)];exact hk j md hj
  refine go is ds _ τ (List.length_set ..) (fun j hj=>h j (List.mem_cons_of_mem _ hj)) (fun j md hj=>?_) e'
  rw[Qt (by rintro rfl;exact h _ List.mem_cons_self md hj)];exact hj
 | [],_::_,_,_,_,e=>by cases e
 | _::_,[],_,_,_,e=>by cases e
theorem Qit{is:List Nat}{τ0:SD}(h:∀ i∈is,τ0[i]?=some none):gKeep (gT is) τ0:=by
 intro x τ e
 cases x with
 | tup ds=>exact QF6 is ds τ0 τ (fun i hi md z=>by rw[h i hi]at z;cases z) e
 | _=>cases e
theorem Qq{js:List (Option Nat)}{i:Nat}(h:js[i]?=some none)(ς:SD):(captD js ς)[i]?=some none:=by
 unfold captD
 rw[List.getElem?_map,h];rfl
section
variable{C:Dc}{G H:Hp}{σ:St}{ς:SD}
theorem StR.weak{ς':SD}(S:StR C G H σ ς')(hl:ς'.length=ς.length)(h:∀(i:Nat) md,ς[i]?=some (some md)->ς'[i]?=some (some md)):StR C G H σ ς:=
 { S with len:=by rw[S.len,hl],fz:=fun i d e=>S.fz i d (h i _ e),ow:=fun i d e=>S.ow i d (h i _ e),ln:=fun i d e=>S.ln i d (h i _ e),inj:=fun i j d e p n h1 h2=>S.inj i j d e p n (h i _ h1) (h j _ h2),sf:=fun i d e=>S.sf i d (h i _ e),su:=fun i j d e p n h1 h2=>S.su i j d e p n (h i _ h1) (h j _ h2) }
theorem StR.updM(S:StR C G H σ ς){p:Addr}{o:HO}(hM:C.M p)(h0:C.X.H₀ p≠none)(hno:∀(i:Nat) d,ς[i]?≠some (some (.s,d)))(hB:C.B p=none)(hg:G p=none):StR C G (upd H p o) σ ς where
 sub:=fun b u e=>by rw[Qk (by rintro rfl;rw[hg]at e;cases e)];exact S.sub b u e
 g0:=S.g0
 new:=S.new
 fr:=fun b u e m=>by rw[Qk (by rintro rfl;exact m hM)];exact S.fr b u e m
 dom:=fun b e=>by
  by_cases hb:b=p
  ·subst hb;rw[QS]at e;cases e
  ·rw[Qk hb]at e;exact S.dom b e
 bs:=fun b u e=>by rw[Qk (by rintro rfl;rw[hB]at e;cases e)];exact S.bs b u e
 bh:=S.bh
 len:=S.len
 fz:=S.fz
 ow:=fun i d e=>by
  obtain⟨q,a,b,c,w⟩:=S.ow i d e
  exact⟨q,a,b,c,w.mono (Same.refl G) fun u z=>by rw[Qk (by rintro rfl;exact h0 c)];exact z⟩
 ln:=S.ln
 inj:=S.inj
 sf:=fun i d e=>absurd e (hno i d)
 su:=S.su
abbrev ccOf(C:Dc)(N':List Str)(scope:Scope)(fp:List Addr)(s:Shared)(H1 G1:Hp)(p:Addr):Dc:=
 { X:=cxC C.X N' scope fp s (upd H1 p (.lst [])),CT:=C.CT,G0:=G1,XD:=fun _=>False,B:=H1,M:=fun b=>b=p }
theorem Qjq{js:List (Option Nat)}{i:Nat}{md:SM×D}(h:(captD js ς)[i]?=some (some md)):∃ j,js[i]?=some (some j)/\captS ς j=some md:=by
 unfold captD at h
 rw[List.getElem?_map]at h
 cases e:js[i]? with
 | none=>rw[e]at h;cases h
 | some o=>
  rw[e]at h
  cases o with
  | none=>cases h
  | some j=>exact⟨j,rfl,Option.some.inj h⟩
theorem Qqt{js:List (Option Nat)}{i j:Nat}{v:V}(h:js[i]?=some (some j))(hv:σ[j]?=some (some v)):(capt js σ)[i]?=some (some v):=by
 unfold capt
 rw[List.getElem?_map,h]
 show some ((σ[j]?).join)=_
 rw[hv];rfl
theorem Qgk{j:Nat}{m:SM}{d:D}(h:captS ς j=some (m,d)):(m=.k/\ς[j]?=some (some (.k,d)))∨(m=.l/\(ς[j]?=some (some (.o,d))∨ς[j]?=some (some (.l,d))∨ς[j]?=some (some (.s,d)))):=by
 unfold captS at h
 split at h
 ·rename_i d' e;cases h;exact .inl ⟨rfl,e⟩
 ·rename_i m' d' hne e
  cases h
  cases m' with
  | k=>exact(hne rfl).elim
  | o=>exact .inr ⟨rfl,.inl e⟩
  | l=>exact .inr ⟨rfl,.inr (.inl e)⟩
  | s=>exact .inr ⟨rfl,.inr (.inr e)⟩
 ·cases h
theorem QuU{js:List (Option Nat)}{i:Nat}{d:D}(h:(captD js ς)[i]?=some (some (.s,d))):False:=by
 obtain⟨j,h1,h2⟩:=Qjq h
 rcases Qgk h2 with⟨h3,_⟩ | ⟨h3,_⟩<;>cases h3
theorem StR.comp{N':List Str}{scope:Scope}{fp:List Addr}{s:Shared}{js:List (Option Nat)}{p:Addr}(S:StR C G H σ ς)(hp:H p=none):StR (ccOf C N' scope fp s H G p) G (upd H p (.lst [])) (capt js σ) (captD js ς) where
 sub:=S.sub.trans (QE hp)
 g0:=Same.refl _
 new:=fun b h1 h2=>absurd h1 h2
 fr:=fun b o e _=>e
 dom:=fun b e=>e
 bs:=QE hp
 bh:=fun b e=>by
  have e':upd H p (.lst []) b=none:=e
  by_cases hb:b=p
  ·subst hb;exact hp
  ·rw[Qk hb]at e';exact e'
 len:=by unfold capt captD;rw[List.length_map,List.length_map]
 fz:=fun i d e=>by
  obtain⟨j,h1,h2⟩:=Qjq e
  rcases Qgk h2 with⟨_,h3⟩ | ⟨h3,_⟩
  ·obtain⟨v,a,b⟩:=S.fz j d h3
   exact⟨v,Qqt h1 a,b⟩
  ·cases h3
 ow:=fun i d e=>by
  obtain⟨j,h1,h2⟩:=Qjq e
  rcases Qgk h2 with⟨h3,_⟩ | ⟨h3,_⟩<;>cases h3
 ln:=fun i d e=>by
  obtain⟨j,h1,h2⟩:=Qjq e
  rcases Qgk h2 with⟨h3,_⟩ | ⟨_,h3 | h3 | h3⟩
  ·cases h3
  ·obtain⟨q,a,_,_,w⟩:=S.ow j d h3
   exact⟨_,Qqt h1 a,w.rep S.sub⟩
  ·obtain⟨v,a,b⟩:=S.ln j d h3
   exact⟨v,Qqt h1 a,Rep.mono S.bs d v b⟩
  ·obtain⟨q,a,_,_,_,_,w⟩:=S.sf j d h3
   exact⟨_,Qqt h1 a,w.rep S.sub⟩
 inj:=fun i j d e q _ h=>by
  obtain⟨j,h1,h2⟩:=Qjq h
  rcases Qgk h2 with⟨h3,_⟩ | ⟨h3,_⟩<;>cases h3
 sf:=fun i d e=>(QuU e).elim
 su:=fun i j d e p _ h=>(QuU h).elim
variable{N':List Str}{js:List (Option Nat)}{scope:Scope}{tg iter elt:Expr}{ifs:List Expr}{its:SD->Out (List D)}{g:D->SD->Out SD}{c:SD->Out Bool}{e:SD->Out D}{pos:Pos}
theorem QLM{J:It}{xs:List D}{p:Addr}{fp:List Addr}{s:Shared}{Q:VK}(S:StR C G H σ ς)(hp:H p=none)(dit:DItB C.X.K C.CT H G J xs)(hx:∀ x,¬ C.XD x)(hk:gKeep g (captD js ς))(hne:noExc g)
 (hin:DG (ccOf C N' scope fp s H G p) tg g/\DIf (ccOf C N' scope fp s H G p) ifs c/\DE (ccOf C N' scope fp s H G p) elt e)
 (q:(compM (turnC js g c e ς) xs>>=fun ys=>if fits ys.length=true then Out.ok (D.lst ys) else .stuck).post (fun d=>∀ H' G',StR C G' H' σ ς->Same H H'->Same G G'->G' p=none->Own C.X.K C.CT G' H' p d->Q (.ref p) H') C.XD):
 CompW (cxC C.X N' scope fp s (upd H p (.lst []))) js tg elt ifs σ H J p Q:=by
 obtain⟨⟨tt,pg,hg⟩,⟨tcc,pif,hcI⟩,⟨te,pe,he⟩⟩:=hin
 generalize hτ:captD js ς=τ0 at hk
 have S0:StR (ccOf C N' scope fp s H G p) G (upd H p (.lst [])) (capt js σ) τ0:=by rw[← hτ];exact S.comp hp
 refine⟨fun i m τ H'=>m=xs.length - i/\i<=xs.length/\∃ G' acc vs,StR (ccOf C N' scope fp s H G p) G' H' τ τ0/\H' p=some (.lst vs)/\RepL C.X.K C.CT G' acc vs/\G' p=none/\
  (compM (turnC js g c e ς) (xs.drop i)).post (fun ys=>(if fits (acc++ys).length=true then Out.ok (D.lst (acc++ys)) else .stuck).post (fun d=>∀ H' G',StR C G' H' σ ς->Same H H'->Same G G'->G' p=none->Own C.X.K C.CT G' H' p d->Q (.ref p) H') C.XD) C.XD,
  ⟨xs.length,by simp,Nat.zero_le _,G,[],[],S0,QS,rfl,S.sub.free hp,by rw[Out.post_bind]at q;simpa using q⟩,?_⟩
 rintro i m τ H' ⟨rfl,hle,G',acc,vs,S',hp',r',hg',q'⟩
 have hH0:(ccOf C N' scope fp s H G p).X.H₀ p≠none:=by
  show upd H p (.lst []) p≠none
  rw[QS];simp
 by_cases hlt:i<xs.length
 ·have hd:xs[i]?=some xs[i]:=by simp[hlt]
  obtain⟨hgo,hy⟩:=dit.go G' H' i _ S'.g0 S'.sub S'.bs hd
  refine .inr ⟨hgo,fun τ2 H2=>i+1<=xs.length/\∃ G' acc vs,StR (ccOf C N' scope fp s H G p) G' H2 τ2 τ0/\H2 p=some (.lst vs)/\RepL C.X.K C.CT G' acc vs/\G' p=none/\
   (compM (turnC js g c e ς) (xs.drop (i+1))).post (fun ys=>(if fits (acc++ys).length=true then Out.ok (D.lst (acc++ys)) else .stuck).post (fun d=>∀ H' G',StR C G' H' σ ς->Same H H'->Same G G'->G' p=none->Own C.X.K C.CT G' H' p d->Q (.ref p) H') C.XD) C.XD,
   fun τ2 H2 h2=>⟨xs.length - (i+1),by omega,rfl,h2⟩,fun x H'' y=>?_⟩
  obtain⟨G'',g1,h1,s1,n1,r⟩:=hy x H'' y
  have S'':=S'.grow h1 g1 s1 n1
  have hgp:G'' p=none:=by
   cases z:G'' p with
   | none=>rfl
   | some o=>
    have:=n1 p hg' (by rw[z];simp)
    rw[hp']at this;cases this
  rw[QyR hd,compM,Out.post_bind]at q'
  have tu:turnC js g c e ς xs[i]=(g xs[i] τ0>>=fun τ=>c τ>>=fun b=>if b=true then e τ>>=fun y=>Out.ok (some y) else Out.ok none):=by unfold turnC;rw[hτ]
  rw[tu,Out.post_bind]at q'
  cases z:g xs[i] τ0 with
  | exc w=>exact absurd z (hne _ _ _)
  | stuck=>rw[z]at q';exact q'.elim
  | ok τ1=>
   rw[z]at q'
   obtain⟨hl1,hk1⟩:=hk _ _ z
   refine⟨tt,pg,hg G'' H'' τ τ0 xs[i] x τ1 _ S'' r z fun τ2 S2=>?_⟩
   have q2:(c τ1>>=fun b=>if b=true then e τ1>>=fun y=>Out.ok (some y) else Out.ok none).post _ _:=q'
   rw[Out.post_bind]at q2
   -- no refusal leaves the block
   have q3:(c τ1).post (fun b=>(if b=true then e τ1>>=fun y=>Out.ok (some y) else Out.ok none).post (fun o=>(compM (turnC js g c e ς) (xs.drop (i+1))>>=fun ys=>Out.ok (o.toList++ys)).post (fun ys=>(if fits (acc++ys).length=true then Out.ok (D.lst (acc++ys)) else .stuck).post (fun d=>∀ H' G',StR C G' H' σ ς->Same H H'->Same G G'->G' p=none->Own C.X.K C.CT G' H' p d->Q (.ref p) H') C.XD) C.XD) C.XD) (fun _=>False):=by
    cases w:c τ1 with
    | ok b=>rw[w]at q2;exact q2
    | exc w'=>rw[w]at q2;exact absurd q2 (hx _)
    | stuck=>rw[w]at q2;exact q2.elim
   refine⟨tcc,pif,hcI G'' H'' τ2 τ1 _ S2 (Out.post_mono q3 fun b kb H3 G3 S3 a3 b3=>?_)⟩
   have hp3:H3 p=some (.lst vs):=a3 _ _ (h1 _ _ hp')
   have hg3:G3 p=none:=by
    cases z3:G3 p with
    | none=>rfl
    | some o=>
     have e3:(ccOf C N' scope fp s H G p).G0 p=none:=S.sub.free hp
     exact absurd (S3.new p e3 (by rw[z3];simp)) hH0
   cases b with
   | false=>
    refine iteF ⟨hlt,G3,acc,vs,S3.weak (by rw[hl1]) hk1,hp3,RepL.mono (g1.trans b3) acc vs r',hg3,?_⟩
    have kb':(compM (turnC js g c e ς) (xs.drop (i+1))>>=fun ys=>Out.ok ((none:Option D).toList++ys)).post (fun ys=>(if fits (acc++ys).length=true then Out.ok (D.lst (acc++ys)) else .stuck).post (fun d=>∀ H' G',StR C G' H' σ ς->Same H H'->Same G G'->G' p=none->Own C.X.K C.CT G' H' p d->Q (.ref p) H') C.XD) C.XD:=kb
    rw[Out.post_bind]at kb'
    exact Out.post_mono kb' fun ys k=>k
   | true=>
    have kb:(e τ1>>=fun y=>Out.ok (some y)).post (fun o=>(compM (turnC js g c e ς) (xs.drop (i+1))>>=fun ys=>Out.ok (o.toList++ys)).post (fun ys=>(if fits (acc++ys).length=true then Out.ok (D.lst (acc++ys)) else .stuck).post (fun d=>∀ H' G',StR C G' H' σ ς->Same H H'->Same G G'->G' p=none->Own C.X.K C.CT G' H' p d->Q (.ref p) H') C.XD) C.XD) C.XD:=kb
    rw[Out.post_bind]at kb
    have kb2:(e τ1).post (fun y=>(compM (turnC js g c e ς) (xs.drop (i+1))>>=fun ys=>Out.ok ((some y:Option D).toList++ys)).post (fun ys=>(if fits (acc++ys).length=true then Out.ok (D.lst (acc++ys)) else .stuck).post (fun d=>∀ H' G',StR C G' H' σ ς->Same H H'->Same G G'->G' p=none->Own C.X.K C.CT G' H' p d->Q (.ref p) H') C.XD) C.XD) (fun _=>False):=by
     cases w:e τ1 with
     | ok b=>rw[w]at kb;exact kb
     | exc w'=>rw[w]at kb;exact absurd kb (hx _)
     | stuck=>rw[w]at kb;exact kb.elim
    refine iteT ⟨te,pe,he G3 H3 τ2 τ1 _ S3 (Out.post_mono kb2 fun y ky v4 H4 G4 S4 a4 b4 r4=>?_)⟩
    rw[Out.post_bind]at ky
    have hp4:H4 p=some (.lst vs):=a4 _ _ hp3
    have hg4:G4 p=none:=by
     cases z3:G4 p with
     | none=>rfl
     | some o=>
      have e3:(ccOf C N' scope fp s H G p).G0 p=none:=S.sub.free hp
      exact absurd (S4.new p e3 (by rw[z3];simp)) hH0
    have rr:=RepL.mono ((g1.trans b3).trans b4) acc vs r'
    refine⟨vs,hp4,?_,hlt,G4,acc++[y],vs++[v4],?_,QS,rr.append (RepL.one r4),hg4,?_⟩
    ·cases w:compM (turnC js g c e ς) (xs.drop (i+1)) with
     | stuck=>rw[w]at ky;exact ky.elim
     | exc w'=>rw[w]at ky;exact absurd ky (hx _)
     | ok ys=>
      rw[w]at ky
      rcases QR (show(if fits (acc++((some y:Option D).toList++ys)).length=true then Out.ok (D.lst (acc++((some y:Option D).toList++ys))) else .stuck).post _ _ from ky) with⟨hc,_⟩ | ⟨_,k⟩
      ·have hc':=of_decide_eq_true hc
       rw[List.length_append,List.length_append]at hc'
       have:(some y:Option D).toList.length=1:=rfl
       have hl:=r'.length
       omega
      ·exact k.elim
    ·exact(S4.weak (by rw[hl1]) hk1).updM rfl hH0 (fun i d z=>by rw[← hτ]at z;exact QuU z) hp hg4
    ·exact Out.post_mono ky fun ys k=>by
      have e5:acc++[y]++ys=acc++((some y:Option D).toList++ys):=by simp
      rw[e5];exact k
 ·have ei:i=xs.length:=by omega
  subst ei
  rw[List.drop_length]at q'
  refine .inl ⟨dit.stop G' H' S'.g0 S'.sub S'.bs,?_⟩
  have q2:(if fits (acc++[]).length=true then Out.ok (D.lst (acc++[])) else .stuck).post _ C.XD:=q'
  rcases QR q2 with⟨_,k⟩ | ⟨_,k⟩
  ·rw[List.append_nil]at k
   have hHH:Same H H':=fun b o eb=>S'.fr b o (by
    show upd H p (.lst []) b=some o
    rw[Qk (Q0 eb hp)];exact eb) (Q0 eb hp)
   have SG:StR C G' H' σ ς:=S.grow hHH S'.g0 S'.sub fun b h1 h2=>by
    have:=S'.new b h1 h2
    have this:upd H p (.lst []) b=none:=this
    by_cases hb:b=p
    ·subst hb;exact hp
    ·rw[Qk hb]at this;exact this
   exact k H' G' SG hHH S'.g0 hg' ⟨vs,hp',r'⟩
  ·exact k.elim
theorem compT(hi:∃ wi,PI C.X tg iter wi/\∀ G H σ ς (R:It->Hp->Prop),StR C G H σ ς->(its ς).post (fun ds=>∀ J H1 G1,StR C G1 H1 σ ς->Same H H1->Same G G1->DItB C.X.K C.CT H1 G1 J ds->R J H1) C.XD->wi σ H R)
 (hx:∀ x,¬ C.XD x) (hk:∀ ς,gKeep g (captD js ς)) (hne:noExc g)
 (hin:∀ fp s H G p,DG (ccOf C N' scope fp s H G p) tg g/\DIf (ccOf C N' scope fp s H G p) ifs c/\DE (ccOf C N' scope fp s H G p) elt e):
 ∃ wi,PI C.X tg iter wi/\∀ G H σ ς Q,StR C G H σ ς->(eComp js its g c e ς).post (KF C G H σ ς Q) C.XD->tComp C.X N' js scope tg elt ifs wi σ H Q:=by
 obtain⟨wi,pi,hq⟩:=hi
 refine⟨wi,pi,fun G H σ ς Q S k=>?_⟩
 unfold eComp at k
 rw[Out.post_bind]at k
 refine hq G H σ ς _ S (Out.post_mono k fun xs k J H1 G1 S1 a1 b1 dit p hp fp s=>?_)
 refine QLM S1 hp dit hx (hk ς) hne (hin fp s H1 G1 p) (Out.post_mono k fun d kd H' G' S' h1 g1 hg ow=>?_)
 exact kd p H' G' S' (a1.trans h1) (b1.trans g1) (a1.free hp) hg ow
theorem QP(hc:C.X.calm=true)(S:QD N' js scope C.X.env.scope C.X.N)(hi:DIB C tg iter its)(hk:∀ ς,gKeep g (captD js ς))(hne:noExc g)
 (hin:∀ fp s H G p,DG (ccOf C N' scope fp s H G p) tg g/\DIf (ccOf C N' scope fp s H G p) ifs c/\DE (ccOf C N' scope fp s H G p) elt e)
 (hx:∀ x,¬ C.XD x:=by exact fun _ h=>h) (hs:∀ x,foldedSetIterable iter C.X.env x=pure x:=by intro _;rfl):DF C (.ListComp elt [⟨tg,iter,ifs,0⟩] scope pos) (eComp js its g c e):=by
 obtain⟨wi,pi,h⟩:=compT hi hx hk hne hin
 exact⟨_,QNR hc S pi hs,h⟩
variable{i:Nat}{x:Str}{px spos:Pos}
theorem Qxd(hc:C.X.calm=true)(S:QD N' js scope C.X.env.scope C.X.N)(hi:DIB C tg iter its)(hk:∀ ς,gKeep g (captD js ς))(hne:noExc g)
 (hin:∀ fp s H G p,DG (ccOf C N' scope fp s H G p) tg g/\DIf (ccOf C N' scope fp s H G p) ifs c/\DE (ccOf C N' scope fp s H G p) elt e)
 (hN:C.X.N.Nodup) (hxN:C.X.N[i]?=some x) (hl:Loc C.X.env.scope x)
 (hsw:swapsWith (.ListComp elt [⟨tg,iter,ifs,0⟩] scope pos) (some (.Name x px)) spos.line C.X.env=pure true:=by rfl)
 (hf:C.X.fn x=true∨C.X.env.scope.names.lookup x=some .local:=by first | exact .inl rfl | exact .inr rfl | assumption)
 (hx:∀ x,¬ C.XD x:=by exact fun _ h=>h) (hs:∀ x,foldedSetIterable iter C.X.env x=pure x:=by intro _;rfl):DS C (.Assign [.Name x px] (.ListComp elt [⟨tg,iter,ifs,0⟩] scope pos) spos) (sSet i (eComp js its g c e)):=by
 obtain⟨wi,pi,h⟩:=compT hi hx hk hne hin
 refine⟨_,QG9 hc S pi hN hxN hl hsw hf hs,fun G H σ ς W S k=>?_⟩
 unfold sSet at k
 rw[Out.post_bind]at k
 exact h G H σ ς _ S (Out.post_mono k fun d k=>KD.ofF (Q:=fun v H1=>W.nx (σ.set i (some v)) H1) S fun v H1 G1 S1 a1 b1 r1=>k _ H1 G1 (S1.set i r1) b1)
theorem QMd(hc:C.X.calm=true)(S:QD N' js scope C.X.env.scope C.X.N)(hi:DIB C tg iter its)(hk:∀ ς,gKeep g (captD js ς))(hne:noExc g)
 (hin:∀ fp s H G p,DG (ccOf C N' scope fp s H G p) tg g/\DIf (ccOf C N' scope fp s H G p) ifs c/\DE (ccOf C N' scope fp s H G p) elt e)
 (hN:C.X.N.Nodup) (hxN:C.X.N[i]?=some x) (hl:Loc C.X.env.scope x)
 (hsw:swapsWith (.ListComp elt [⟨tg,iter,ifs,0⟩] scope pos) (some (.Name x px)) spos.line C.X.env=pure true:=by rfl)
 (hf:C.X.fn x=true∨C.X.env.scope.names.lookup x=some .local:=by first | exact .inl rfl | exact .inr rfl | assumption)
 (hx:∀ x,¬ C.XD x:=by exact fun _ h=>h) (hs:∀ x,foldedSetIterable iter C.X.env x=pure x:=by intro _;rfl):DS C (.Assign [.Name x px] (.ListComp elt [⟨tg,iter,ifs,0⟩] scope pos) spos) (sSetO i (eComp js its g c e)):=by
 obtain⟨wi,pi,h⟩:=compT hi hx hk hne hin
 refine⟨_,QG9 hc S pi hN hxN hl hsw hf hs,fun G H σ ς W S k=>?_⟩
 unfold sSetO at k
 rw[Out.post_bind]at k
 exact h G H σ ς _ S (Out.post_mono k fun d k p H1 G1 S1 a1 b1 hp hg ow=>k _ H1 G1 (S1.setO i hg (S.h0none hp) ow fun j e _ z=>S.new_ne hp j e z) b1)
end
end DL
namespace L2
open PySem PySem.Spec PyProof.Rows
def Its(x:Str):It:=⟨fun i _=>i<x.cps.size,fun i H v H'=>H'=H/\∃ c,x.cps[i]?=some c/\v=.str ⟨#[c]⟩,fun i _=>x.cps.size<=i⟩
section
variable{X:Cx}{tg:Expr}
theorem QyW{P:Program}{w:World}{K:PySem.W.Frag}{tg:Expr}{x:Str}{ty:String}{t:Tok}(it:Addr)(hn:["enumerate","zip","dict_itemiterator","dict_reverseitemiterator","odict_iterator","itertools.zip_longest","itertools.pairwise"].contains ty=false)
 (hs:∀(A:Around)(i:Nat)(s:Shared)(Q:Value->Shared->Prop)(E:Value->Shared->Prop),s.heap.IsStrIter it ty x t i->Q (.ref it) s->wpAny (model P w) A (pyIter (.ref it)) Q E s)
 (W:∀ A':Around,A'.handled=none->Walks P w A' it [it] [it] x.cps.size (SignAt x) (fun i h=>h.IsStrIter it ty x t i)):Turn P w K tg (Its x) [it] it (fun i h=>h.IsStrIter it ty x t i/\i<=x.cps.size) where
 mem:=by simp
 obj:=fun i h st b hb=>by
  have e:b=it:=by simpa using hb
  subst e
  obtain⟨⟨o,e,c,d⟩,_⟩:=st
  exact⟨o,e,fun v z=>by rw[d]at z;cases z⟩
 keep:=fun i h h' st k=>⟨by obtain⟨⟨o,e,c,d⟩,_⟩:=st;exact⟨o,k it (by simp) o e,c,d⟩,st.2⟩
 item:=by
  intro X hP hw hK hc i pins s σ H E I hf st hg
  subst hP hw hK
  obtain⟨f0,f1,f2,f3,f4,f5⟩:=hf it (by simp)
  refine(W X.A (I.ok.hd hc)).item i s _ _ hg st.1 fun v h' tk hv st' kk=>?_
  obtain⟨c,u,hcx,rfl⟩:=hv
  have I1:Inv X pins σ H { s with heap:=h',toks:=tk }:=I.turned (fun b o hb e=>kk b o (by simpa using hb) e) f0 f1 f3 f4 f5
  obtain⟨o,e,c',d⟩:=id st'
  exact⟨_,rfl,go_of (s:={ s with heap:=h',toks:=tk }) e c' d hn ⟨.str ⟨#[c]⟩,H,I1,⟨u,rfl⟩,⟨rfl,c,hcx,rfl⟩,⟨st',hg⟩,fun b hb=>(hf b hb).1⟩⟩
 done:=by
  intro X hP hw hK hc i pins s σ H E I hf st hg
  subst hP hw hK
  obtain⟨f0,f1,f2,f3,f4,f5⟩:=hf it (by simp)
  have hg':x.cps.size<=i:=hg
  have e:i=x.cps.size:=Nat.le_antisymm st.2 hg'
  subst e
  exact(W X.A (I.ok.hd hc)).done s _ _ st.1 fun h' tk kk=>⟨rfl,I.turned (fun b o hb e=>kk b o (by simpa using hb) e) f0 f1 f3 f4 f5⟩
 self:=fun A i s Q E st h=>hs A i s Q E st.1 h
def iStr(tl:TE):TI:=fun σ H R=>tl σ H fun x H1=>∃ z,x=.str z/\R (Its z) H1
theorem QN5{l:Expr}{tl:TE}(hl:PE X l tl):PI X tg l (iStr tl):=by
 intro pins s σ H R I h
 refine thn (hl pins s σ H _ I h) fun v s1 ⟨x,H1,I1,r1,q1⟩=>?_
 obtain⟨z,e,q⟩:=q1
 subst e
 obtain⟨t,rfl⟩:=r1
 cases ha:z.cps.all (· < 128)
 ·refine wpAny_pyIter_wide ha ⟨s1.heap.objs.size,[s1.heap.objs.size],_,_,H1,rfl,I1.kept (t':=s1.toks) fun b o e=>Heap.get?_push_of_some _ e,QyW (x:=z) (ty:="str_iterator") (t:=t) _ (by decide) (fun _ _ _ _ _ st h=>wpAny_pyIter_striter_wide st h) (fun A' hA=>Walks.strWide hA _ z t),⟨⟨_,Heap.get?_push_size _ rfl,rfl,rfl⟩,Nat.zero_le _⟩,fun b hb=>?_,q⟩
  have e:b=s1.heap.objs.size:=by simpa using hb
  subst e
  exact I1.fpOk (Nat.le_refl _) (I1.hok.fresh (Nat.le_refl _))
 ·refine wpAny_pyIter_ascii ha ⟨s1.heap.objs.size,[s1.heap.objs.size],_,_,H1,rfl,I1.kept (t':=s1.toks) fun b o e=>Heap.get?_push_of_some _ e,QyW (x:=z) (ty:="str_ascii_iterator") (t:=t) _ (by decide) (fun _ _ _ _ _ st h=>wpAny_pyIter_striter_ascii st h) (fun A' hA=>Walks.strAscii hA _ z t),⟨⟨_,Heap.get?_push_size _ rfl,rfl,rfl⟩,Nat.zero_le _⟩,fun b hb=>?_,q⟩
  have e:b=s1.heap.objs.size:=by simpa using hb
  subst e
  exact I1.fpOk (Nat.le_refl _) (I1.hok.fresh (Nat.le_refl _))
theorem QKE(bs:List Bool):(List.range bs.length).all (fun i=>(bs[i]?).getD false)=bs.all id:=by
 rw[Bool.eq_iff_iff,List.all_eq_true,List.all_eq_true]
 constructor
 ·intro h b hb
  obtain⟨i,hi,e⟩:=List.mem_iff_getElem.mp hb
  have:=h i (List.mem_range.mpr hi)
  rw[List.getElem?_eq_getElem hi,Option.getD_some,e]at this
  exact this
 ·intro h i hi
  have hi':=List.mem_range.mp hi
  rw[List.getElem?_eq_getElem hi',Option.getD_some]
  exact h _ (List.getElem_mem hi')
theorem QJ0(bs:List Bool):(List.range bs.length).any (fun i=>(bs[i]?).getD false)=bs.any id:=by
 rw[Bool.eq_iff_iff,List.any_eq_true,List.any_eq_true]
 constructor
 ·rintro ⟨i,hi,h⟩
  have hi':=List.mem_range.mp hi
  rw[List.getElem?_eq_getElem hi',Option.getD_some]at h
  exact⟨_,List.getElem_mem hi',h⟩
 ·rintro ⟨b,hb,h⟩
  obtain⟨i,hi,e⟩:=List.mem_iff_getElem.mp hb
  exact⟨i,List.mem_range.mpr hi,by rw[List.getElem?_eq_getElem hi,Option.getD_some,e];exact h⟩
theorem QLo(hc:X.calm=true):CallR X (.builtin "all") (fun xs H Q=>∃(p:Addr)(bs:List Bool),xs=[.ref p]/\SqL X.K H p (bs.map V.bl)/\Q (.bl (bs.all id)) H):=by
 intro pins s σ H xs us Q I r h
 obtain⟨p,bs,rfl,hq,q⟩:=h
 obtain⟨u,rfl,rx⟩:=vals1 r
 cases rx
 obtain⟨its,rv,pl,hz⟩:=I.list hq
 have hlen:=rv.length
 refine call_all_walk ?_
 refine wpAny_pyIter_list pl.isList ?_
 have hp:p<s.heap.objs.size:=by obtain⟨o,n,ho,_⟩:=pl;exact Heap.lt_size ho
 have hne:p≠s.heap.objs.size:=Nat.ne_of_lt hp
 refine⟨_,_,_,_,_,_,fun i=>(bs[i]?).getD false,rfl,Walks.list (A:=X.A.in1) (I.ok.hd hc) _ p hne its.toArray,⟨⟨_,Heap.get?_push_size _ rfl,rfl,rfl⟩,pl.isList.at fun o e=>Heap.get?_push_of_some _ e⟩,?_,fun h' tk kk=>⟨.bl (bs.all id),H,?_,?_,q⟩⟩
 ·intro i v s2 Q2 E2 hv hQ2
  have hv':its[i]?=some v:=by simpa using hv
  have hi:i<bs.length:=by
   have:=(List.getElem?_eq_some_iff.mp hv').1
   rw[List.length_map]at hlen
   omega
  obtain⟨y,hy,ry⟩:=rv.get (i:=i) (x:=.bl bs[i]) (by rw[List.getElem?_map,List.getElem?_eq_getElem hi];rfl)
  rw[hv']at hy
  cases hy
  cases ry
  have hQ2:Q2 ((bs[i]?).getD false) s2:=hQ2
  rw[List.getElem?_eq_getElem hi,Option.getD_some]at hQ2
  exact wpAny_pure hQ2
 ·exact I.kept fun b o e=>kk b o (by
   intro hb
   have e2:b=s.heap.objs.size:=by simpa using hb
   subst e2
   exact absurd (Heap.lt_size e) (Nat.lt_irrefl _)) (Heap.get?_push_of_some _ e)
 ·rw[List.size_toArray, ← hlen,List.length_map,QKE];exact rfl
theorem QJl(hc:X.calm=true):CallR X (.builtin "any") (fun xs H Q=>∃(p:Addr)(bs:List Bool),xs=[.ref p]/\SqL X.K H p (bs.map V.bl)/\Q (.bl (bs.any id)) H):=by
 intro pins s σ H xs us Q I r h
 obtain⟨p,bs,rfl,hq,q⟩:=h
 obtain⟨u,rfl,rx⟩:=vals1 r
 cases rx
 obtain⟨its,rv,pl,hz⟩:=I.list hq
 have hlen:=rv.length
 refine call_any_walk ?_
 refine wpAny_pyIter_list pl.isList ?_
 have hp:p<s.heap.objs.size:=by obtain⟨o,n,ho,_⟩:=pl;exact Heap.lt_size ho
 have hne:p≠s.heap.objs.size:=Nat.ne_of_lt hp
 refine⟨_,_,_,_,_,_,fun i=>(bs[i]?).getD false,rfl,Walks.list (A:=X.A.in1) (I.ok.hd hc) _ p hne its.toArray,⟨⟨_,Heap.get?_push_size _ rfl,rfl,rfl⟩,pl.isList.at fun o e=>Heap.get?_push_of_some _ e⟩,?_,fun h' tk kk=>⟨.bl (bs.any id),H,?_,?_,q⟩⟩
 ·intro i v s2 Q2 E2 hv hQ2
  have hv':its[i]?=some v:=by simpa using hv
  have hi:i<bs.length:=by
   have:=(List.getElem?_eq_some_iff.mp hv').1
   rw[List.length_map]at hlen
   omega
  obtain⟨y,hy,ry⟩:=rv.get (i:=i) (x:=.bl bs[i]) (by rw[List.getElem?_map,List.getElem?_eq_getElem hi];rfl)
  rw[hv']at hy
  cases hy
  cases ry
  have hQ2:Q2 ((bs[i]?).getD false) s2:=hQ2
  rw[List.getElem?_eq_getElem hi,Option.getD_some]at hQ2
  exact wpAny_pure hQ2
 ·exact I.kept fun b o e=>kk b o (by
   intro hb
   have e2:b=s.heap.objs.size:=by simpa using hb
   subst e2
   exact absurd (Heap.lt_size e) (Nat.lt_irrefl _)) (Heap.get?_push_of_some _ e)
 ·rw[List.size_toArray, ← hlen,List.length_map,QJ0];exact rfl
end
end L2
namespace DL
open PySem PySem.Spec PyProof.Rows L2
def signs(z:Str):List D:=z.cps.toList.map fun c=>D.str ⟨#[c]⟩
def itS(E:SD->Out D):SD->Out (List D):=fun ς=>E ς>>=fun d=>match d with | .str z=>.ok (signs z) | _=>.stuck
section
variable{C:Dc}{e tg iter a b:Expr}{E A B:SD->Out D}{pos p:Pos}{es:List Expr}{AA:SD->Out (List D)}
theorem QNC{K:PySem.W.Frag}{CT:CTab}{G1:Hp}{z:Str}:DIt K CT G1 (Its z) (signs z) where
 go:=fun G H i d s1 sH hd=>by
  unfold signs at hd
  rw[List.getElem?_map]at hd
  cases hc:z.cps.toList[i]? with
  | none=>rw[hc]at hd;cases hd
  | some c=>
   rw[hc]at hd
   cases hd
   have hi:i<z.cps.size:=by
    have:=(List.getElem?_eq_some_iff.mp hc).1
    simpa using this
   refine⟨hi,fun x H' ⟨e,c',h1,h2⟩=>?_⟩
   subst e h2
   have h1':z.cps.toList[i]?=some c':=by simpa using h1
   rw[hc]at h1'
   cases h1'
   exact⟨G,Same.refl _,Same.refl _,sH,fun b g n=>absurd g n,rfl⟩
 stop:=fun G H s1 sH=>by
  unfold signs
  show z.cps.size<=_
  rw[List.length_map];simp
theorem QPn(h:DB C iter E):DI C tg iter (itS E):=by
 obtain⟨t,p,q⟩:=h
 refine⟨_,QN5 p,fun G H σ ς R S k=>?_⟩
 unfold itS at k
 rw[Out.post_bind]at k
 refine q G H σ ς _ S (Out.post_mono k fun d k v H1 G1 S1 a1 b1 r1=>?_)
 cases d with
 | str z=>cases r1;exact⟨z,rfl,k _ H1 G1 S1 a1 b1 QNC⟩
 | _=>exact k.elim
def dIn:D->D->Out D
 | .str x,.str y=>.ok (.bl (!(Builtin.Str.occurrences y x 0 y.length 1).isEmpty))
 | _,_=>.stuck
theorem QPE:DRS C (fun x y H Q=>∃ i j,x=.str i/\y=.str j/\Q (.bl (!(Builtin.Str.occurrences j i 0 j.length 1).isEmpty)) H) dIn:=by
 intro G H σ ς Q x y vx vy S hx hy q
 cases x with
 | str x=>
  cases y with
  | str y=>cases hx;cases hy;exact⟨x,y,rfl,rfl,q.2⟩
  | _=>exact q.elim
 | _=>cases y<;>exact q.elim
theorem QMV:scal2 dIn:=fun x y=>by cases x<;>cases y<;>first | exact rfl | exact True.intro
theorem de_in(ha:DB C a A)(hb:DB C b B)(hm:behindInMarks .In b=false:=by rfl):DE C (.Compare a [.In] [b] pos) (e2 dIn A B):=QoX QKH QPE QMV ha hb hm
def blsOf:List D->Option (List Bool)
 | []=>some []
 | .bl b::r=>(blsOf r).map (b :: ·)
 | _::_=>none
theorem QsL{K:PySem.W.Frag}{CT:CTab}{H:Hp}:∀{ds:List D}{bs:List Bool}{vs:List V},blsOf ds=some bs->RepL K CT H ds vs->vs=bs.map V.bl
 | [],bs,vs,h,r=>by cases h;exact r
 | d::ds,bs,vs,h,⟨v,w,h1,h2,h3⟩=>by
  cases d with
  | bl b=>
   cases e:blsOf ds with
   | none=>rw[blsOf,e]at h;cases h
   | some cs=>
    rw[blsOf,e]at h
    cases h
    cases h2
    rw[h1,QsL e h3];rfl
  | _=>cases h
def fAll:D->Out D
 | .lst xs=>match blsOf xs with | some bs=>.ok (.bl (bs.all id)) | none=>.stuck
 | _=>.stuck
def fAny:D->Out D
 | .lst xs=>match blsOf xs with | some bs=>.ok (.bl (bs.any id)) | none=>.stuck
 | _=>.stuck
theorem Qgi(hc:C.X.calm=true)(hg:Gl C.X "all")(hm:C.X.mg "all"=none)(ha:DAB C (e::es) AA)
 (he:starEach (e::es) C.X.env=(false,eval e C.X.env)::starEach es C.X.env:=by rfl) (hpl:(backTo pos (starEach es C.X.env)).any (·.1)=false:=by rfl):DE C (.Call (.Name "all" p) (e::es) [] pos) (eA (f1 fAll) AA):=by
 refine Qie (QLo hc) (Qu0 ?_) (Qth ?_) hg hm PyProof.Rows.Boot.«all» ha (by decide) (by decide) he hpl
 ·intro G H σ ς Q x v S r q
  cases x with
  | lst xs=>
   cases eb:blsOf xs with
   | none=>rw[fAll,eb]at q;exact q.elim
   | some bs=>
    rw[fAll,eb]at q
    obtain⟨a,vs,rfl,h2,h3⟩:=r
    rw[QsL eb h3]at h2
    exact⟨a,bs,rfl,h2,q.2⟩
  | _=>exact q.elim
 ·intro x
  cases x with
  | lst xs=>
   rw[fAll]
   cases blsOf xs with
   | none=>exact True.intro
   | some bs=>exact rfl
  | _=>exact True.intro
theorem QKP(hc:C.X.calm=true)(hg:Gl C.X "any")(hm:C.X.mg "any"=none)(ha:DAB C (e::es) AA)
 (he:starEach (e::es) C.X.env=(false,eval e C.X.env)::starEach es C.X.env:=by rfl) (hpl:(backTo pos (starEach es C.X.env)).any (·.1)=false:=by rfl):DE C (.Call (.Name "any" p) (e::es) [] pos) (eA (f1 fAny) AA):=by
 refine Qie (QJl hc) (Qu0 ?_) (Qth ?_) hg hm PyProof.Rows.Boot.«any» ha (by decide) (by decide) he hpl
 ·intro G H σ ς Q x v S r q
  cases x with
  | lst xs=>
   cases eb:blsOf xs with
   | none=>rw[fAny,eb]at q;exact q.elim
   | some bs=>
    rw[fAny,eb]at q
    obtain⟨a,vs,rfl,h2,h3⟩:=r
    rw[QsL eb h3]at h2
    exact⟨a,bs,rfl,h2,q.2⟩
  | _=>exact q.elim
 ·intro x
  cases x with
  | lst xs=>
   rw[fAny]
   cases blsOf xs with
   | none=>exact True.intro
   | some bs=>exact rfl
  | _=>exact True.intro
theorem QMa{X:Cx}:PE X (.Dict [] [] pos) (fun _ H Q=>∀ p,H p=none->Q (.ref p) (upd H p (.dK []))):=fun pins s σ H Q I h=>by
 have hb:sysModules<s.heap.objs.size:=Nat.lt_trans (by decide) (show mainGlobals<s.heap.objs.size from(I.mod.glob.keeps I.bk).lt)
 exact wpAny_Dict_empty ⟨.ref s.heap.objs.size,_,I.laid (a:=s.heap.objs.size) (o:=.dK []) (t':=s.toks) (fun _ _ q=>Heap.get?_push_of_some _ q) (Nat.le_refl _)
  ⟨Nat.zero_le _,beq_eq_false_iff_ne.mpr (Ne.symm (Nat.ne_of_lt hb)),[],.nil,Heap.DictOf.new s.heap⟩,rfl,h _ (I.hok.fresh (Nat.le_refl _))⟩
def eDic0:SD->Out D:=fun _=>.ok (.dic [])
theorem QNM:DF C (.Dict [] [] pos) eDic0:=⟨_,QMa,fun G H σ ς Q S q p hp=>by
 have q:KF C G H σ ς Q (.dic []):=q
 exact q p _ G (S.allocO hp) (QE hp) (Same.refl _) hp (S.gnone hp) ⟨[],QS,rfl⟩⟩
end
end DL
namespace DL
open PySem PySem.Spec PyProof.Rows L2
def ctOf(K:PySem.W.Frag):CTab:=fun c=>match PySem.W.nsIn K mainGlobals c with | some (some (.ref a))=>some a | _=>none
theorem ct_of{K:PySem.W.Frag}{c:Str}{a:Addr}(h:PySem.W.nsIn K mainGlobals c=some (some (.ref a))):ctOf K c=some a:=by unfold ctOf;rw[h]
structure Rz(C:Dc)(E:XK):Prop where
 pass:Qhp (CXR C.X.prog C.X.w) C.X E
 xd:∀ d,C.XD d->∃ c Cc,d=.err c/\C.CT c=some Cc/\∀ H',(∀ b o,C.X.H₀ b=some o->¬ C.M b->H' b=some o)->E (.ref Cc) none H'
 made:∀(Cc:Addr) pins σ H1 s1 ea h' vs,Inv C.X pins σ H1 s1->Heap.MadeExcOf s1.heap h' ea (.ref Cc) vs->E (.ref Cc) none H1->C.X.xe (.ref ea) { s1 with heap:=h' }
 calm:C.X.calm=true
theorem rz0{C:Dc}(hx:∀ d,¬ C.XD d:=by exact fun _ h=>h)(hc:C.X.calm=true:=by rfl):Rz C E0 where
 pass:=fun pins σ H s e s' I h=>by obtain⟨_,_,_,_,_,_,_,z⟩:=h;exact z.elim
 xd:=fun d h=>absurd h (hx d)
 made:=fun Cc pins σ H1 s1 ea h' vs I hx hE=>hE.elim
 calm:=hc
abbrev Dc.nox(C:Dc):Dc:={ C with X:=C.X.nox,XD:=fun _=>False }
def noX{α:Type}:Out α->Out α
 | .exc _=>.stuck
 | o=>o
theorem QPf{α:Type}(a:α):noX (.ok a)=.ok a:=rfl
theorem QBN{α:Type}{o:Out α}{k:α->Prop}{x:D->Prop}(h:(noX o).post k x):o.post k (fun _=>False):=by cases o<;>exact h
section
variable{C:Dc}{G H:Hp}{σ:St}{ς:SD}{e:Expr}{es:List Expr}{st:Stmt}{sts:List Stmt}
theorem GH.nox(S:GH C G H):GH C.nox G H:=⟨S.sub,S.g0,S.new,S.fr,S.dom,S.bs,S.bh⟩
theorem GH.unnox(S:GH C.nox G H):GH C G H:=⟨S.sub,S.g0,S.new,S.fr,S.dom,S.bs,S.bh⟩
theorem StR.nox(S:StR C G H σ ς):StR C.nox G H σ ς:=⟨S.toGH.nox,S.len,S.fz,S.ow,S.ln,S.inj,S.sf,S.su⟩
theorem StR.unnox(S:StR C.nox G H σ ς):StR C G H σ ς:=⟨S.toGH.unnox,S.len,S.fz,S.ow,S.ln,S.inj,S.sf,S.su⟩
theorem PA.nox'{X:Cx}{t:TA}(h:PA X.nox es t):PA X es t:=fun pos pins s σ H Q I q=>PA.nox h I q
theorem DA.lift{A:SD->Out (List D)}(h:DA C.nox es A):DA C es (fun ς=>noX (A ς)):=by
 obtain⟨t,p,q⟩:=h
 exact⟨t,PA.nox' p,fun G H σ ς Q S k=>q G H σ ς Q S.nox (Out.post_mono (QBN k) fun d kd v H' G' S' a b r=>kd v H' G' S'.unnox a b r)⟩
theorem FlK.nox{W:Ends}{f:Fl}(h:FlK C G W f):FlK C.nox G W f:=by
 cases f with
 | nx ς=>exact fun σ' H' G' S q=>h σ' H' G' S.unnox q
 | bk ς=>exact fun σ' H' G' S q=>h σ' H' G' S.unnox q
 | ct ς=>exact fun σ' H' G' S q=>h σ' H' G' S.unnox q
 | rt b d=>exact fun v H' G' S q r=>h v H' G' S.unnox q r
theorem PS.nox'{X:Cx}{t:TS}(h:PS X.nox st t):PS X st t:=fun pins s σ H D I hw=>
 wpAny_mono (h pins s σ H D (I.wish _) hw) (fun _ _ q=>q.unwish) fun _ _ z=>False.elim z
theorem DS.lift{T:SD->Out Fl}(h:DS C.nox st T):DS C st (fun ς=>noX (T ς)):=by
 obtain⟨t,p,q⟩:=h
 exact⟨t,PS.nox' p,fun G H σ ς W S k=>q G H σ ς W S.nox (Out.post_mono (QBN k) fun f kf=>kf.nox)⟩
variable{x:Str}{k:Nat}{fr:Bool}{dd:List D}{m:List D->Out D}{A:SD->Out (List D)}{p pos:Pos}{E:XK}
end
end DL
namespace DL
open PySem PySem.Spec PyProof.Rows L2
section
variable{C:Dc}{x:Str}{k:Nat}{fr:Bool}{dd:List D}{m:List D->Out D}{e:Expr}{es:List Expr}{A:SD->Out (List D)}{p pos:Pos}
variable{T U:SD->Out FX}{TE:SD->Out EX}{st:Stmt}{sts rest:List Stmt}{i:Nat}{px:Pos}
section
variable{G H:Hp}{σ:St}{ς:SD}{ea:Addr}
end
end
end DL
namespace L2
open PySem PySem.Spec PyProof.Rows
end L2
namespace DL
open PySem PySem.Spec PyProof.Rows L2
section
variable{C:Dc}{pos p:Pos}{e cx:Expr}{E:SD->Out D}
end
end DL
namespace L2
open PySem PySem.Spec PyProof.Rows
def Itz(K:PySem.W.Frag)(a b:Addr):It:=
 ⟨fun i H=>∃ xs ys x y,SqL K H a xs/\SqL K H b ys/\xs[i]?=some x/\ys[i]?=some y,
  fun i H v H'=>∃ p x y,H p=none/\v=.ref p/\H'=upd H p (.tup [x,y])/\(∀ xs,SqL K H a xs->xs[i]?=some x)/\∀ ys,SqL K H b ys->ys[i]?=some y,
  fun i H=>∃ xs ys,SqL K H a xs/\SqL K H b ys/\(xs.length<=i∨ys.length<=i)⟩
theorem QMq{P:Program}{w:World}{K:PySem.W.Frag}{elts:List Expr}{k1:Nat}{pos:Pos}{z TI TO i1 i2 l1 l2:Addr}(D:ZipApart z TI TO i1 i2 l1 l2):
 Turn P w K (.Tuple elts k1 pos) (Itz K l1 l2) [z,TI,TO,i1,i2] z (fun i h=>IsZip h z TI TO .none/\IsPair h TI (.ref i1) (.ref i2)/\(∃ a b,IsPair h TO a b)/\h.IsListIter i1 l1 i/\h.IsListIter i2 l2 i) where
 mem:=by simp
 obj:=fun i h st b hb=>by
  obtain⟨s1,s2,⟨_,_,s3⟩,⟨o4,e4,c4,d4⟩,⟨o5,e5,c5,d5⟩⟩:=st
  simp only[List.mem_cons,List.not_mem_nil,or_false]at hb
  rcases hb with rfl | rfl | rfl | rfl | rfl
  ·exact⟨_,s1,fun v q=>by cases q⟩
  ·exact⟨_,s2,fun v q=>by cases q⟩
  ·exact⟨_,s3,fun v q=>by cases q⟩
  ·exact⟨_,e4,fun v q=>by rw[d4]at q;cases q⟩
  ·exact⟨_,e5,fun v q=>by rw[d5]at q;cases q⟩
 keep:=fun i h h' st k=>by
  obtain⟨s1,s2,⟨a,b,s3⟩,s4,s5⟩:=st
  exact⟨k z (by simp) _ s1,k TI (by simp) _ s2,⟨a,b,k TO (by simp) _ s3⟩,s4.at fun o e=>k i1 (by simp) o e,s5.at fun o e=>k i2 (by simp) o e⟩
 item:=by
  intro X hP hw hK hc i pins s σ H E I hf st hg
  subst hP hw hK
  obtain⟨xs,ys,x,y,q1,q2,hx,hy⟩:=hg
  obtain⟨its1,rv1,p1,hz1⟩:=I.list q1
  obtain⟨its2,rv2,p2,hz2⟩:=I.list q2
  obtain⟨u1,hu1,ru1⟩:=rv1.get hx
  obtain⟨u2,hu2,ru2⟩:=rv2.get hy
  obtain⟨s1,s2,⟨a,b,s3⟩,s4,s5⟩:=st
  refine wpAny_pyNext_zip_item D s1 s2 s3 s4 s5 p1.isList p2.isList (x:=u1) (y:=u2) (by simpa using hu1) (by simpa using hu2) fun h' a1 a2 a3 a4 a5 a6 hk=>?_
  have hT:H s.heap.objs.size=none:=I.hok.fresh (Nat.le_refl _)
  have fp:∀ c∈[z,TO,i1,i2],FpOk X pins H c:=fun c hc=>hf c (by
   simp only[List.mem_cons,List.not_mem_nil,or_false]at hc ⊢
   rcases hc with rfl | rfl | rfl | rfl<;>simp)
  have out:∀ c,c∉[z,TO,i1,i2]->∀ o,s.heap.get? c=some o->h'.get? c=some o:=fun c hc o e=>hk c o (fun q=>hc (by simp[q])) (fun q=>hc (by simp[q])) (fun q=>hc (by simp[q])) (fun q=>hc (by simp[q])) e
  have trk:∀ c o,H c=some o->c∉[z,TO,i1,i2]:=fun c o e hc=>by rw[(fp c hc).1]at e;cases e
  have hok:HOk X.prog X.w (upd H s.heap.objs.size (.tup [x,y])) h':=fun c o e=>by
   by_cases hcT:c=s.heap.objs.size
   ·subst hcT
    rw[QS]at e
    cases e
    exact⟨by show 2<=sizeLine;decide,[u1,u2],.cons ru1 (.cons ru2 .nil),⟨_,a5,rfl,_,rfl⟩⟩
   ·rw[Qk hcT]at e
    refine(I.hok c o e).stay (fun b u hb q=>out b ?_ u q) (fun b q=>?_) fun b ts q=>?_
    ·rcases hb with rfl | hb
     ·exact trk b _ e
     ·exact trk b _ hb
    ·rw[Qk (Q0 q hT)];exact q
    ·rw[Qk (Q0 q hT)];exact q
  have I1:Inv X pins σ (upd H s.heap.objs.size (.tup [x,y])) { s with heap:=h',gens:=s.gens,drawn:=s.drawn,toks:=s.toks }:=I.step (ch:=[z,TO,i1,i2])
   (fun c hc=>⟨(fp c hc).2.2.2.1,(fp c hc).2.1,(fp c hc).2.2.2.2.1,(fp c hc).2.2.2.2.2⟩) (fun c o _ _ hc e _=>out c hc o e) (fun c o _ _ hc e _=>⟨o.slots,out c hc o e⟩)
   (fun c o hc e n=>by rw[Qk (Nat.ne_of_lt (Heap.lt_size e))];exact n) (fun c o hc e=>⟨o,out c hc o e⟩)
   (fun c ts e=>by rw[Qk (Q0 e hT)];exact e) (fun c o u e=>by rw[Qk (Q0 e hT)];exact e) (fun c ts e=>⟨#[],by rw[Qk (Q0 e hT),e];simp⟩)
   (fun m hm=>by
    obtain⟨o,es,ep,ho,r⟩:=hm
    exact⟨o,es,ep,out _ (fun hc=>(fp _ hc).2.1 rfl) o ho,r⟩) hok I.bare
  have lt:∀{c o},s.heap.get? c=some o->s.heap.objs.size≠c:=fun e=>Nat.ne_of_gt (Heap.lt_size e)
  refine⟨_,rfl,wpAny_letOwnedTupleGo_zip a1 fun h2 hz2 hs2=>?_⟩
  obtain⟨z0,z1,z2,z3,z4,z5⟩:=hf z (by simp)
  have I2:Inv X pins σ (upd H s.heap.objs.size (.tup [x,y])) { s with heap:=h2 }:=Inv.turned (s:={ s with heap:=h',gens:=s.gens,drawn:=s.drawn,toks:=s.toks }) (t':=s.toks) (it:=z) I1 (fun b o hb e=>(hs2.2 b hb).trans e) (by rw[Qk (lt s1).symm];exact z0) z1 z3 z4 z5
  refine⟨.ref s.heap.objs.size,_,I2,rfl,⟨_,x,y,hT,rfl,rfl,fun xs' q'=>by rw[I.list_inj q' q1];exact hx,fun ys' q'=>by rw[I.list_inj q' q2];exact hy⟩,
   ⟨hz2,hs2.extBut _ _ D.TIz (out TI (by simp[D.TIz,D.TITO,D.TIi1,D.TIi2]) _ s2),⟨_,_,hs2.extBut _ _ D.TOz a2⟩,a3.extBut hs2.extBut D.i1z,a4.extBut hs2.extBut D.i2z⟩,fun c hc=>?_⟩
  have:H c=none:=(hf c hc).1
  obtain⟨oc,hoc⟩:∃ o,s.heap.get? c=some o:=by
   simp only[List.mem_cons,List.not_mem_nil,or_false]at hc
   rcases hc with rfl | rfl | rfl | rfl | rfl
   ·exact⟨_,s1⟩
   ·exact⟨_,s2⟩
   ·exact⟨_,s3⟩
   ·obtain⟨o,e,_⟩:=s4;exact⟨o,e⟩
   ·obtain⟨o,e,_⟩:=s5;exact⟨o,e⟩
  rw[Qk (lt hoc).symm];exact this
 done:=by
  intro X hP hw hK hc i pins s σ H E I hf st hg
  subst hP hw hK
  obtain⟨xs,ys,q1,q2,hend⟩:=hg
  obtain⟨its1,rv1,p1,hz1⟩:=I.list q1
  obtain⟨its2,rv2,p2,hz2⟩:=I.list q2
  have l1:=rv1.length
  have l2:=rv2.length
  obtain⟨s1,s2,⟨a,b,s3⟩,s4,s5⟩:=st
  have fp:∀ c∈[z,TO,i1,i2],FpOk X pins H c:=fun c hc=>hf c (by
   simp only[List.mem_cons,List.not_mem_nil,or_false]at hc ⊢
   rcases hc with rfl | rfl | rfl | rfl<;>simp)
  refine wpAny_pyNext_zip_end (I.ok.hd hc) D s1 s2 s3 s4 s5 p1.isList p2.isList (by simp;omega) fun h' hk=>⟨rfl,?_⟩
  have out:∀ c,c∉[z,TO,i1,i2]->∀ o,s.heap.get? c=some o->h'.get? c=some o:=fun c hc o e=>hk c o (fun q=>hc (by simp[q])) (fun q=>hc (by simp[q])) (fun q=>hc (by simp[q])) (fun q=>hc (by simp[q])) e
  have trk:∀ c o,H c=some o->c∉[z,TO,i1,i2]:=fun c o e hc=>by rw[(fp c hc).1]at e;cases e
  exact I.step (g':=s.gens) (d':=s.drawn) (t':=s.toks) (ch:=[z,TO,i1,i2]) (fun c hc=>⟨(fp c hc).2.2.2.1,(fp c hc).2.1,(fp c hc).2.2.2.2.1,(fp c hc).2.2.2.2.2⟩) (fun c o _ _ hc e _=>out c hc o e) (fun c o _ _ hc e _=>⟨o.slots,out c hc o e⟩)
   (fun c o hc e n=>n) (fun c o hc e=>⟨o,out c hc o e⟩) (fun c ts e=>e) (fun c o u e=>e) (fun c ts e=>⟨#[],by rw[e];simp⟩)
   (fun m hm=>by
    obtain⟨o,es,ep,ho,r⟩:=hm
    exact⟨o,es,ep,out _ (fun hc=>(fp _ hc).2.1 rfl) o ho,r⟩)
   (fun c o e=>(I.hok c o e).stay (fun b u hb q=>out b (by
    rcases hb with rfl | hb
    ·exact trk b _ e
    ·exact trk b _ hb) u q) (fun b q=>q) fun b ts q=>q) I.bare
 self:=fun _ _ _ _ _ st h=>wpAny_pyIter_zip st.1 h
section
variable{X:Cx}
theorem QKs(n l1 l2:Nat)(h1:l1<n)(h2:l2<n):ZipApart (n+4) (n+2) (n+3) n (n+1) l1 l2:=⟨(show ¬ ((n+2:Nat)=n+4) by omega),(show ¬ ((n+3:Nat)=n+4) by omega),(show ¬ ((n:Nat)=n+4) by omega),(show ¬ ((n+1:Nat)=n+4) by omega),(show ¬ ((n+2:Nat)=n+3) by omega),(show ¬ ((n+2:Nat)=n) by omega),(show ¬ ((n+2:Nat)=n+1) by omega),(show ¬ ((n+3:Nat)=n) by omega),(show ¬ ((n+3:Nat)=n+1) by omega),(show ¬ ((n:Nat)=n+1) by omega),(show ¬ ((l1:Nat)=n+4) by omega),(show ¬ ((l1:Nat)=n+3) by omega),(show ¬ ((l1:Nat)=n) by omega),(show ¬ ((l1:Nat)=n+1) by omega),(show ¬ ((l2:Nat)=n+4) by omega),(show ¬ ((l2:Nat)=n+3) by omega),(show ¬ ((l2:Nat)=n) by omega),(show ¬ ((l2:Nat)=n+1) by omega)⟩
def iZip(K:PySem.W.Frag)(ta:TA):TI:=fun σ H R=>ta σ H fun vs H1=>∃ a b,vs=[.ref a,.ref b]/\(∃ xs,SqL K H1 a xs)/\(∃ ys,SqL K H1 b ys)/\R (Itz K a b) H1
theorem QOC{elts:List Expr}{k1:Nat}{tpos:Pos}{a b:Expr}{ta:TA}{p pos:Pos}(hg:Gl X "zip")(hm:X.mg "zip"=none)(ha:PA X [a,b] ta)(hs:starEach [a,b] X.env=[(false,eval a X.env),(false,eval b X.env)]:=by rfl)(hs2:starEach [b] X.env=[(false,eval b X.env)]:=by rfl):
 PI X (.Tuple elts k1 tpos) (.Call (.Name "zip" p) [a,b] [] pos) (iZip X.K ta):=by
 intro pins s σ H R I h
 refine Call_ (Qhb I hg hm PyProof.Rows.Boot.«zip» (PyProof.Rows.callWith_type1 (thn (ha pos pins s σ H _ I h) fun us s1 ⟨vs,H1,I1,r1,q1⟩=>?_) (by rw[hs,hs2]) (by rw[hs2];rfl)))
 obtain⟨l1,l2,e,⟨xs,hx⟩,⟨ys,hy⟩,q⟩:=q1
 subst e
 cases r1 with
 | cons r rr=>
  cases rr with
  | cons r' rr=>
   cases rr
   cases r
   cases r'
   obtain⟨its1,rv1,p1,hz1⟩:=I1.list hx
   obtain⟨its2,rv2,p2,hz2⟩:=I1.list hy
   have n1:l1<s1.heap.objs.size:=by obtain⟨o,n,ho,_⟩:=p1;exact Heap.lt_size ho
   have n2:l2<s1.heap.objs.size:=by obtain⟨o,n,ho,_⟩:=p2;exact Heap.lt_size ho
   refine call_zip_2 p1.isList p2.isList fun h' c1 c2 c3 c4 c5 c6 hk=>?_
   refine wpAny_pyIter_zip c1 ?_
   refine⟨_,_,_,Itz X.K l1 l2,H1,rfl,I1.kept (t':=s1.toks) fun b o e=>hk b o e,QMq (i1:=s1.heap.objs.size) (i2:=s1.heap.objs.size+1) (TI:=s1.heap.objs.size+2) (TO:=s1.heap.objs.size+3) (z:=s1.heap.objs.size+4) (l1:=l1) (l2:=l2)
    (QKs s1.heap.objs.size l1 l2 n1 n2),⟨c1,c2,⟨_,_,c3⟩,c4,c5⟩,fun b hb=>?_,q⟩
   have hb':s1.heap.objs.size<=b:=by
    simp only[List.mem_cons,List.not_mem_nil,or_false]at hb
    rcases hb with rfl | rfl | rfl | rfl | rfl<;>omega
   exact I1.fpOk hb' (I1.hok.fresh hb')
end
end L2
namespace DL
open PySem PySem.Spec PyProof.Rows L2
def itZ(A B:SD->Out D):SD->Out (List D):=fun ς=>A ς>>=fun x=>B ς>>=fun y=>match x,y with
 | .lst xs,.lst ys=>.ok (List.zipWith (fun a b=>.tup [a,b]) xs ys)
 | _,_=>.stuck
section
variable{C:Dc}{a b:Expr}{A B:SD->Out D}
theorem QNi{K:PySem.W.Frag}{CT:CTab}{G1:Hp}{p q:Addr}{xs ys:List D}{us vs:List V}(h1:SqL K G1 p us)(r1:RepL K CT G1 xs us)(h2:SqL K G1 q vs)(r2:RepL K CT G1 ys vs):DIt K CT G1 (Itz K p q) (List.zipWith (fun a b=>D.tup [a,b]) xs ys) where
 go:=fun G H i d s1 sH hd=>by
  rw[List.getElem?_zipWith]at hd
  cases e1:xs[i]? with
  | none=>rw[e1]at hd;cases hd
  | some x=>
   cases e2:ys[i]? with
   | none=>rw[e1,e2]at hd;cases hd
   | some y=>
    rw[e1,e2]at hd
    cases hd
    obtain⟨u,hu,ru⟩:=r1.get e1
    obtain⟨v,hv,rv⟩:=r2.get e2
    have q1:SqL K H p us:=sH.seq (s1.seq h1)
    have q2:SqL K H q vs:=sH.seq (s1.seq h2)
    refine⟨⟨us,vs,u,v,q1,q2,hu,hv⟩,fun w H' ⟨t,x',y',n,e,e',k1,k2⟩=>?_⟩
    have z1:=k1 us q1
    have z2:=k2 vs q2
    rw[hu]at z1;cases z1
    rw[hv]at z2;cases z2
    subst e e'
    have gn:G t=none:=sH.free n
    refine⟨upd G t (.tup [u,v]),QE gn,QE n,Qsq sH,fun b g g'=>?_,t,[u,v],rfl,SqT.of QS,⟨u,_,rfl,Rep.mono (s1.trans (QE gn)) x u ru,v,_,rfl,Rep.mono (s1.trans (QE gn)) y v rv,rfl⟩⟩
    by_cases hb:b=t
    ·subst hb;exact n
    ·rw[Qk hb]at g';exact absurd g g'
 stop:=fun G H s1 sH=>by
  refine⟨us,vs,sH.seq (s1.seq h1),sH.seq (s1.seq h2),?_⟩
  have l1:=r1.length
  have l2:=r2.length
  rw[List.length_zipWith]
  omega
theorem Qja{elts:List Expr}{k1:Nat}{tpos p pos:Pos}(hgl:Gl C.X "zip")(hm:C.X.mg "zip"=none)(ha:DE C a A)(hb:DE C b B)
 (hst:starEach [a,b] C.X.env=(false,eval a C.X.env)::starEach [b] C.X.env:=by rfl) (hst2:starEach [b] C.X.env=(false,eval b C.X.env)::starEach [] C.X.env:=by rfl):DI C (.Tuple elts k1 tpos) (.Call (.Name "zip" p) [a,b] [] pos) (itZ A B):=by
 obtain⟨t0,p0,q0⟩:=ha
 obtain⟨t3,p3,q3⟩:=hb
 refine⟨_,QOC hgl hm (QaS p0 (QaS p3 Qc9 hst2) hst) (by rw[hst,hst2];rfl) (by rw[hst2];rfl),fun G H σ ς R S k=>?_⟩
 unfold itZ at k
 rw[Out.post_bind]at k
 refine q0 G H σ ς _ S (Out.post_mono k fun d k v H1 G1 S1 a1 b1 r=>?_)
 rw[Out.post_bind]at k
 refine q3 G1 H1 σ ς _ S1 (Out.post_mono k fun d2 k v2 H2 G2 S2 a2 b2 r'=>?_)
 cases d with
 | lst xs=>
  cases d2 with
  | lst ys=>
   obtain⟨p1,us,rfl,h1,r1⟩:=Rep.mono b2 _ v r
   obtain⟨p2,vs,rfl,h2,r2⟩:=r'
   exact⟨p1,p2,rfl,⟨us,S2.sub.seq h1⟩,⟨vs,S2.sub.seq h2⟩,k _ H2 G2 S2 (a1.trans a2) (b1.trans b2) (QNi h1 r1 h2 r2)⟩
  | _=>exact k.elim
 | _=>exact k.elim
end
end DL
namespace DL
open PySem PySem.Spec PyProof.Rows L2
def putD(f:Str)(d:D):List (Str×D)->List (Str×D)
 | []=>[(f,d)]
 | (g,x)::r=>if g=f then(g,d)::r else(g,x)::putD f d r
section
variable{K:PySem.W.Frag}{CT:CTab}{H H':Hp}
theorem RepF.look:∀{fds:List (Str×D)}{fs:List (Str×V)}{f:Str},RepF K CT H fds fs->(∀ d,fds.lookup f=some d->∃ v,fs.lookup f=some v/\Rep K CT H d v)/\(fds.lookup f=none->fs.lookup f=none)
 | [],_,f,h=>by cases h;exact⟨fun d z=>(by cases z),fun _=>rfl⟩
 | (k,d)::fds,_,f,⟨v,r,h1,h2,h3⟩=>by
  subst h1
  have ih:=RepF.look (f:=f) h3
  rw[List.lookup_cons,List.lookup_cons]
  cases f == k with
  | true=>exact⟨fun d' z=>by cases z;exact⟨v,rfl,h2⟩,fun z=>by cases z⟩
  | false=>exact ih
theorem RepF.len:∀{fds:List (Str×D)}{fs:List (Str×V)},RepF K CT H fds fs->fds.length=fs.length
 | [],_,h=>by cases h;rfl
 | (k,d)::fds,_,⟨v,r,h1,h2,h3⟩=>by subst h1;rw[List.length_cons,List.length_cons,RepF.len h3]
theorem RepF.put{f:Str}{d:D}{v:V}(q:Rep K CT H d v):∀{fds:List (Str×D)}{fs:List (Str×V)},RepF K CT H fds fs->RepF K CT H (putD f d fds) (putF f v fs)
 | [],_,h=>by cases h;exact⟨v,[],rfl,q,rfl⟩
 | (k,x)::fds,_,⟨u,r,h1,h2,h3⟩=>by
  subst h1
  unfold putD putF
  by_cases hk:k=f
  ·rw[if_pos hk,if_pos hk];exact⟨v,r,rfl,q,h3⟩
  ·rw[if_neg hk,if_neg hk];exact⟨u,_,rfl,h2,RepF.put q h3⟩
end
def FldOk(K:PySem.W.Frag)(CT:CTab)(cs:List Str)(f:Str):Prop:=∀ c,cs.contains c=true->∀ A,CT c=some A->Cls K A/\QlP K A f
def dFld(cs:List Str)(f:Str):D->Out D
 | .ins c fs=>if cs.contains c=true then optO (fs.lookup f) else .stuck
 | _=>.stuck
section
variable{C:Dc}{e:Expr}{E:SD->Out D}{f:Str}{cs:List Str}{pos:Pos}
theorem Qjp(hF:FldOk C.X.K C.CT cs f)(h:DE C e E)(hb:attributeBase e f C.X.env (eval e C.X.env)=eval e C.X.env:=by rfl):DE C (.Attribute e f pos) (e1 (dFld cs f) E):=by
 obtain⟨t,p,q⟩:=h
 refine⟨_,QPF p hb,fun G H σ ς Q S k=>?_⟩
 unfold e1 at k
 rw[Out.post_bind]at k
 refine q G H σ ς _ S (Out.post_mono k fun d k v H1 G1 S1 a1 b1 r=>?_)
 cases d with
 | ins c fds=>
  rcases QR k with⟨hc,k⟩ | ⟨_,k⟩
  ·obtain⟨d,e1',kd⟩:=QcK k
   obtain⟨a,A,dx,fs,rfl,h1,h2,h3⟩:=r
   obtain⟨v,e2',rv⟩:=(RepF.look h3).1 d e1'
   obtain⟨cl,na⟩:=hF c hc A h1
   exact⟨a,A,dx,fs,v,rfl,S1.sub _ _ h2,cl,na,e2',KD.now (KD.later kd a1 b1) S1 rv⟩
  ·exact k.elim
 | _=>exact k.elim
theorem StR.writeS{G H:Hp}{σ:St}{ς:SD}(S:StR C G H σ ς){i:Nat}{p A dx:Addr}{c:Str}{fds fds':List (Str×D)}{fs':List (Str×V)}(hi:ς[i]?=some (some (.s,.ins c fds)))(hp:σ[i]?=some (some (.ref p)))(hc:C.CT c=some A)(r:RepF C.X.K C.CT G fds' fs'):
 StR C G (upd H p (.ins A dx fs')) σ (ς.set i (some (.s,.ins c fds'))):=by
 obtain⟨p',e1,hg,h0,⟨hM,hW⟩,hB,ow⟩:=S.sf i _ hi
 rw[hp]at e1;cases e1
 have ne:∀ b o,G b=some o->b≠p:=fun b o e z=>by subst z;rw[hg]at e;cases e
 have S':StR C G (upd H p (.ins A dx fs')) (σ.set i (some (.ref p))) (ς.set i (some (.s,.ins c fds'))):={
  sub:=fun b o e=>by rw[Qk (ne b o e)];exact S.sub b o e
  g0:=S.g0
  new:=S.new
  fr:=fun b o e m=>by
   rw[Qk (by rintro rfl;exact m hM)];exact S.fr b o e m
  dom:=fun b e=>by
   by_cases hb:b=p
   ·subst hb;rw[QS]at e;cases e
   ·rw[Qk hb]at e;exact S.dom b e
  bs:=fun b o e=>by
   rw[Qk (by rintro rfl;rw[hB]at e;cases e)];exact S.bs b o e
  bh:=S.bh
  len:=by rw[List.length_set,List.length_set];exact S.len
  fz:=fun j d h=>by
   rcases QK h with⟨rfl,h2,l⟩ | ⟨hne,h2⟩
   ·cases h2
   ·rw[Qt hne];exact S.fz j d h2
  ow:=fun j d h=>by
   rcases QK h with⟨rfl,h2,l⟩ | ⟨hne,h2⟩
   ·cases h2
   ·rw[Qt hne]
    obtain⟨q,a,b,c',w⟩:=S.ow j d h2
    have qp:q≠p:=by
     rintro rfl
     exact h0 c'
    exact⟨q,a,b,c',w.mono (Same.refl G) fun o z=>by rw[Qk qp];exact z⟩
  ln:=fun j d h=>by
   rcases QK h with⟨rfl,h2,l⟩ | ⟨hne,h2⟩
   ·cases h2
   ·rw[Qt hne];exact S.ln j d h2
  inj:=fun j k d1 d2 q hjk h1 h2 h3=>by
   rcases QK h1 with⟨rfl,q1,l⟩ | ⟨n1,q1⟩
   ·cases q1
   ·rcases QK h2 with⟨rfl,q2,l⟩ | ⟨n2,q2⟩
    ·cases q2
    ·rw[Qt n1]at h3
     rw[Qt n2]
     exact S.inj j k d1 d2 q hjk q1 q2 h3
  sf:=fun j d h=>by
   rcases QK h with⟨rfl,h2,l⟩ | ⟨hne,h2⟩
   ·cases h2
    exact⟨p,Qg1 (by rw[S.len];exact l),hg,h0,⟨hM,hW⟩,hB,⟨A,dx,fs',hc,QS,r⟩⟩
   ·rw[Qt hne]
    obtain⟨q,a,b,c2,m,z,w⟩:=S.sf j d h2
    have qp:q≠p:=by
     rintro rfl
     exact S.su i j _ _ q hne hi h2 hp a
    exact⟨q,a,b,c2,m,z,w.mono (Same.refl G) fun o z=>by rw[Qk qp];exact z⟩
  su:=fun j k d1 d2 q hjk h1 h2 h3=>by
   have get:∀(j:Nat) d,(ς.set i (some (.s,D.ins c fds')))[j]?=some (some (.s,d))->∃ d',ς[j]?=some (some (.s,d')):=fun j d h=>by
    rcases QK h with⟨rfl,h2,l⟩ | ⟨hne,h2⟩
    ·exact⟨_,hi⟩
    ·exact⟨_,h2⟩
   obtain⟨d1',g1⟩:=get j d1 h1
   obtain⟨d2',g2⟩:=get k d2 h2
   rw[Qii hp]at h3 ⊢
   exact S.su j k d1' d2' q hjk g1 g2 h3 }
 rw[Qii hp]at S'
 exact S'
def sFldS(cs:List Str)(f:Str)(i:Nat)(E:SD->Out D):SD->Out Fl:=fun ς=>E ς>>=fun d=>match ς[i]? with
 | some (some (.s,.ins c fds))=>if (cs.contains c&&decide (fds.length<1000))=true then .ok (.nx (ς.set i (some (.s,.ins c (putD f d fds))))) else .stuck
 | _=>.stuck
theorem Qg2(i:Nat){x:Str}{px pa:Pos}(hF:FldOk C.X.K C.CT cs f)(h:DE C e E)(hN:C.X.N[i]?=some x:=by rfl)(hv:Vis C.X.env.scope x:=by first | exact Or.inl rfl | exact Or.inr (Or.inl rfl) | exact Or.inr (Or.inr rfl))
 (hd:(x == ("__debug__":Str))=false:=by decide) (hcd:(x == ("__classdict__":Str))=false:=by decide)
 (hs:swapsWith e (some (.Attribute (.Name x px) f pa)) pos.line C.X.env=pure false:=by rfl):DS C (.Assign [.Attribute (.Name x px) f pa] e pos) (sFldS cs f i E):=by
 obtain⟨t,p,q⟩:=h
 refine⟨_,QOT (QeF (i:=i) hN hv hd hcd) p hs,fun G H σ ς W S k=>?_⟩
 unfold sFldS at k
 rw[Out.post_bind]at k
 refine q G H σ ς _ S (Out.post_mono k fun d k v H1 G1 S1 a1 b1 r=>?_)
 split at k
 ·rename_i c fds z
  rcases QR k with⟨hc,k⟩ | ⟨_,k⟩
  ·rw[Bool.and_eq_true]at hc
   obtain⟨pp,e1',hg,h0,hM,hB,A,dx,fs,hA,hH,rf⟩:=S1.sf i _ z
   obtain⟨cl,na⟩:=hF c hc.1 A hA
   refine⟨_,e1',pp,A,dx,fs,rfl,hH,cl,na,by rw[← rf.len];exact of_decide_eq_true hc.2,?_⟩
   exact(show FlK C G W (.nx (ς.set i (some (.s,.ins c (putD f d fds))))) from k) σ _ G1 (S1.writeS z e1' hA (rf.put r)) b1
  ·exact k.elim
 ·exact k.elim
end
end DL
namespace L2
open PySem PySem.Spec PyProof.Rows
section
variable{X:Cx}{CX:CXT}{k:Nat}{m:Str}{dvs:List V}{E:XK}{o e:Expr}{es:List Expr}{ta:TE}{t:TA}{apos pos:Pos}{cs:Addr->Sp->Prop}
def MTab(X:Cx)(CX:CXT)(k:Nat)(m:Str)(dvs:List V)(cs:Addr->Sp->Prop):Prop:=
 ∀ C sp,cs C sp->Cls X.K C/\∃ f fd ps ds,Meth X.K C m f/\FnOk X.prog X.w X.K X.mg X.base CX k f fd ps sp/\Binds X.K fd ps ds/\Vals dvs ds
def QLh(m:Str)(dvs:List V)(cs:Addr->Sp->Prop)(E:XK)(ta:TE)(t:TA):TE:=fun σ H Q=>ta σ H fun x H1=>∃ a C dx fs sp,x=.ref a/\H1 a=some (.ins C dx fs)/\cs C sp/\fs.lookup m=none/\t σ H1 fun vs H2=>sp (x::(vs++dvs)) H2 Q E
theorem QBx{pl:Sem Bool}(he:PE X o ta)(tab:MTab X CX k m dvs cs)(hr:Room k X.A)(hx:Qhp CX X E)(ha:PA X (e::es) t)
 (hst:starEach (e::es) X.env=(false,eval e X.env)::starEach es X.env:=by rfl) (hpl:(backTo pos (starEach es X.env)).any (·.1)=false:=by rfl)
 (ht:eval (.Call (.Attribute o m apos) (e::es) [] pos) X.env=(do
  let ov ← eval o X.env
  standAt apos.atName
  let (f,first) ← holding [ov] (getMethod ov m pl)
  callWith pos f first (backTo pos (starEach (e::es) X.env)) (backToKw pos (keywordEach [] X.env))):=by rfl):
 PE X (.Call (.Attribute o m apos) (e::es) [] pos) (QLh m dvs cs E ta t):=by
 intro pins s σ H Q I h
 refine PySem.W.methodCall_KW (pl:=pl) (thn (he pins s σ H _ I h) fun u s1 ⟨x,H1,I1,rx,a,C,dx,fs,sp,ex,ea,hc,l,q⟩=>?_) ht
 subst ex
 obtain rfl:u=Value.ref a:=rx
 obtain⟨c,f,fd,ps,ds,hm,F,hb,hd⟩:=tab C sp hc
 refine Qv6 I1 ea c hm l ?_
 refine PySem.W.callWith_K (first:=[.ref a]) (h₀:=X.base) I.ok.mod.kin hm.kp (thn (ha pos pins s1 σ H1 _ I1 q) fun us s2 ⟨vs,H2,I2,r,q2⟩=>⟨I2.kIn,?_⟩) hst hpl
 exact QCE (us:=.ref a::us) (vs:=.ref a::vs) F hr hb hd hx I2 (.cons rfl r) q2
theorem QKv{pl:Sem Bool}(he:PE X o ta)(tab:MTab X CX k m dvs cs)(hr:Room k X.A)(hx:Qhp CX X E)
 (ht:eval (.Call (.Attribute o m apos) [] [] pos) X.env=(do
  let ov ← eval o X.env
  standAt apos.atName
  let (f,first) ← holding [ov] (getMethod ov m pl)
  callWith pos f first (backTo pos (starEach [] X.env)) (backToKw pos (keywordEach [] X.env))):=by rfl):
 PE X (.Call (.Attribute o m apos) [] [] pos) (QLh m dvs cs E ta tNil):=by
 intro pins s σ H Q I h
 refine PySem.W.methodCall_KW (pl:=pl) (thn (he pins s σ H _ I h) fun u s1 ⟨x,H1,I1,rx,a,C,dx,fs,sp,ex,ea,hc,l,q⟩=>?_) ht
 subst ex
 obtain rfl:u=Value.ref a:=rx
 obtain⟨c,f,fd,ps,ds,hm,F,hb,hd⟩:=tab C sp hc
 refine Qv6 I1 ea c hm l ?_
 exact PySem.W.callWith_K0 (first:=[.ref a]) I1.kIn hm.kp (QCE (us:=[.ref a]) (vs:=[.ref a]) F hr hb hd hx I1 (.cons rfl .nil) q)
end
end L2
namespace DL
open PySem PySem.Spec PyProof.Rows L2
def XDofI(CT:CTab)(E:XK)(H:Hp)(p:Addr):D->Prop:=fun d=>∃ c C,d=.err c/\CT c=some C/\∀ H',(∀ b o,H b=some o->b≠p->H' b=some o)->E (.ref C) none H'
def SpI(K:PySem.W.Frag)(CT:CTab)(m:Str->List (Str×D)->List D->Out (List (Str×D))):Sp:=fun vs H Q E=>∃ p c A dx fs fds vs' ds G0,vs=.ref p::vs'/\CT c=some A/\H p=some (.ins A dx fs)/\G0 p=none/\Same G0 H/\RepF K CT G0 fds fs/\RepL K CT G0 ds vs'/\
 (m c fds ds).post (fun fds'=>∀ H' G' fs' dx',Same G0 G'->(∀ b o,H b=some o->b≠p->H' b=some o)->Same G' H'->(∀ b,G0 b=none->G' b≠none->H b=none)->H' p=some (.ins A dx' fs')->RepF K CT G' fds' fs'->Q .non H') (XDofI CT E H p)
def Qrw(c:Str)(ς:SD):Out (List (Str×D)):=match (ς[0]?:Option (Option (SM×D))) with
 | some (some (SM.s,D.ins c' fds))=>if c'=c then .ok fds else .stuck
 | _=>.stuck
def Qfp(c:Str):Fl->Out (List (Str×D))
 | .nx ς=>Qrw c ς
 | _=>.stuck
def bodyI(n len:Nat)(T:SD->Out Fl):Str->List (Str×D)->List D->Out (List (Str×D)):=fun c fds ds=>
 if ds.length+1=n then T (some (.s,.ins c fds)::(ds.map (fun d=>some (.k,d))++List.replicate (len - n) none))>>=Qfp c else .stuck
abbrev dcI(P:Program)(w:World)(K:PySem.W.Frag)(mg:Str->Option Value)(base:Heap)(CT:CTab)(N:List Str)(qual:Str)(sc:Scope)(f:Addr)(cdv:Value)(A:Around)(outer:List Env)(s:Shared)(H:Hp)(E:XK)(G:Hp)(p:Addr):Dc:=
 { X:=cxOf (CXR P w) P w K mg base N qual sc f cdv A outer s H E,CT:=CT,G0:=G,XD:=XDofI CT E H p,B:=fun b=>if b=p then none else H b,M:=fun b=>b=p,W:=fun _=>some p }
theorem fnI{P:Program}{w:World}{K:PySem.W.Frag}{mg:Str->Option Value}{base:Heap}{CT:CTab}{x qual:Str}{st:Stmt}{f:Addr}{fd:FuncData}{dV:Value}{N ps:List Str}{k:Nat}{T:SD->Out Fl}
 (F:FunV K x qual st f fd dV) (S:Qr N ps (Qa st))
 (hb:∀(cdv:Value)(A:Around)(outer:List Env)(s:Shared)(H:Hp)(E:XK)(G:Hp)(p:Addr),Room k (A.deeper (envOfC qual (Qa st) s.heap.objs.size f cdv))->DSs (dcI P w K mg base CT N qual (Qa st) f cdv A outer s H E G p) (Qn st) T):
 FnOk P w K mg base (CXR P w) (k+1) f fd ps (SpI K CT (bodyI ps.length N.length T)):=by
 obtain⟨oc,od,kV,doc,pm,an,cdv,ct,osl,rfl,lk,hcd⟩:=F.ex
 have hpl:ps.length<=N.length:=by have:=congrArg List.length S.pre;rw[List.length_take]at this;omega
 have len:∀ vs H Q E,SpI K CT (bodyI ps.length N.length T) vs H Q E->vs.length=ps.length:=by
  intro vs H Q E ⟨p,c,A,dx,fs,fds,vs',ds,G0,e,_,_,_,_,_,r,q⟩
  unfold bodyI at q
  by_cases hl:ds.length+1=ps.length
  ·rw[e,List.length_cons, ← r.length];exact hl
  ·rw[if_neg hl]at q;exact q.elim
 refine fn_of lk hcd S len fun A outer s H vs Q E hr hsp=>?_
 have hlen:=len vs H Q E hsp
 obtain⟨p,c,Ac,dx,fs,fds,vs',ds,G0,rfl,hct,hp,hg,sub,rf,r,q⟩:=hsp
 obtain⟨t,p1,q1⟩:=hb cdv A outer s H E G0 p hr
 have hl:ds.length+1=ps.length:=by rw[r.length];exact hlen
 refine⟨t,p1,?_⟩
 unfold bodyI at q
 rw[if_pos hl,Out.post_bind]at q
 have get:∀(i:Nat) x,(some (SM.s,D.ins c fds)::(ds.map (fun d=>some (SM.k,d))++List.replicate (N.length - ps.length) none))[i]?=some (some x)->(i=0/\x=(.s,.ins c fds))∨∃ j d,i=j+1/\ds[j]?=some d/\x=(.k,d):=fun i x h=>by
  cases i with
  | zero=>exact .inl ⟨rfl,by simpa using h.symm⟩
  | succ j=>
   rw[List.getElem?_cons_succ]at h
   obtain⟨d,e1,e2⟩:=Qff h
   exact .inr ⟨j,d,rfl,e1,e2⟩
 have S0:StR (dcI P w K mg base CT N qual (Qa st) f cdv A outer s H E G0 p) G0 H (L2.start N (.ref p::vs')) (some (.s,.ins c fds)::(ds.map (fun d=>some (.k,d))++List.replicate (N.length - ps.length) none)):={
  sub:=sub
  g0:=Same.refl _
  new:=fun b h1 h2=>absurd h1 h2
  fr:=fun b o e _=>e
  dom:=fun b e=>e
  bs:=fun b o e=>by
   have e':(if b=p then none else H b)=some o:=e
   by_cases hb:b=p
   ·rw[if_pos hb]at e';cases e'
   ·rw[if_neg hb]at e';exact e'
  bh:=fun b e=>by
   show(if b=p then none else H b)=none
   by_cases hb:b=p
   ·rw[if_pos hb]
   ·rw[if_neg hb];exact e
  len:=by unfold L2.start;simp;have:=r.length;simp at hlen;omega
  fz:=fun i d e=>by
   rcases get i _ e with⟨_,z⟩ | ⟨j,d',rfl,e1,z⟩
   ·cases z
   ·cases z
    obtain⟨v,e3,rv⟩:=r.get e1
    exact⟨v,Qe9 (by simpa using e3),rv⟩
  ow:=fun i d e=>by
   rcases get i _ e with⟨_,z⟩ | ⟨j,d',rfl,e1,z⟩<;>cases z
  ln:=fun i d e=>by
   rcases get i _ e with⟨_,z⟩ | ⟨j,d',rfl,e1,z⟩<;>cases z
  inj:=fun i j d e p _ h=>by
   rcases get i _ h with⟨_,z⟩ | ⟨j,d',rfl,e1,z⟩<;>cases z
  sf:=fun i d e=>by
   rcases get i _ e with⟨rfl,z⟩ | ⟨j,d',rfl,e1,z⟩
   ·cases z
    exact⟨p,Qe9 rfl,hg,(by show H p≠none;rw[hp];simp),⟨rfl,rfl⟩,if_pos rfl,⟨Ac,dx,fs,hct,hp,rf⟩⟩
   ·cases z
  su:=fun i j d e q hij h1 h2=>by
   rcases get i _ h1 with⟨rfl,z⟩ | ⟨j,d',rfl,e1,z⟩
   ·rcases get j _ h2 with⟨rfl,z⟩ | ⟨j,d',rfl,e1,z⟩
    ·exact absurd rfl hij
    ·cases z
   ·cases z }
 refine q1 G0 H (L2.start N (.ref p::vs')) _ _ S0 (Out.post_mono q fun fl kk=>?_)
 cases fl with
 | nx ς'=>
  intro σ' H' G' S' s'
  have kk:(Qrw c ς').post _ _:=kk
  unfold Qrw at kk
  split at kk
  ·rename_i c' fds' z
   rcases QR kk with⟨rfl,k2⟩ | ⟨_,k2⟩
   ·obtain⟨p',e1,hg',h0,⟨hM,_⟩,hB,A',dx',fs',hA',hH',rf'⟩:=S'.sf 0 _ z
    have hM:p'=p:=hM
    subst hM
    have hA':CT c'=some A':=hA'
    rw[hct]at hA'
    cases hA'
    exact k2 H' G' fs' dx' s' (fun b o e hb=>S'.fr b o e hb) S'.sub S'.new hH' rf'
   ·exact k2.elim
  ·exact kk.elim
 | bk ς'=>exact kk.elim
 | ct ς'=>exact kk.elim
 | rt b d=>exact kk.elim
end DL
namespace DL
open PySem PySem.Spec PyProof.Rows L2
theorem Qv1{P:Program}{w:World}{K:PySem.W.Frag}{mg:Str->Option Value}{base:Heap}{CT:CTab}{N:List Str}{qual:Str}{sc:Scope}{f:Addr}{cdv:Value}{A:Around}{outer:List Env}{s:Shared}{H:Hp}{E:XK}{G:Hp}{p:Addr}:
 Rz (dcI P w K mg base CT N qual sc f cdv A outer s H E G p) E where
 pass:=passR
 xd:=fun d ⟨c,Cc,h1,h2,h3⟩=>⟨c,Cc,h1,h2,fun H' k=>h3 H' fun b o e hb=>k b o e hb⟩
 made:=fun Cc pins σ H1 s1 ea h' vs I hx hE=>QHZ I rfl rfl rfl hx hE
 calm:=rfl
section
variable{C:Dc}{E:XK}{c:Str}{A f:Addr}{fd:FuncData}{ps:List Str}{ds:List Value}{dd:List D}{k:Nat}{m:Str->List (Str×D)->List D->Out (List (Str×D))}{e:Expr}{es:List Expr}{AA:SD->Out (List D)}{p pos:Pos}
def eMake(c:Str)(m:Str->List (Str×D)->List D->Out (List (Str×D)))(a:SD->Out (List D)):SD->Out D:=fun ς=>a ς>>=fun xs=>m c [] xs>>=fun fds=>.ok (.ins c fds)
def MkOk(P:Program)(w:World)(K:PySem.W.Frag)(mg:Str->Option Value)(base:Heap)(CT:CTab)(c:Str)(k:Nat)(m:Str->List (Str×D)->List D->Out (List (Str×D))):Prop:=
 ∃ A f fd ps,CT c=some A/\mg c=some (.ref A)/\Mk K A f/\FnOk P w K mg base (CXR P w) k f fd ps (SpI K CT m)/\Binds K fd ps []
theorem Qo3(rz:Rz C E)(h:MkOk C.X.prog C.X.w C.X.K C.X.mg C.X.base C.CT c k m)(hr:Room (k+1) C.X.A)(ha:DA C (e::es) AA)(hg:Gl C.X c)
 (hdb:(c == ("__debug__":Str))=false:=by decide) (he:starEach (e::es) C.X.env=(false,eval e C.X.env)::starEach es C.X.env:=by rfl) (hpl:(backTo pos (starEach es C.X.env)).any (·.1)=false:=by rfl):
 DF C (.Call (.Name c p) (e::es) [] pos) (eMake c m AA):=by
 obtain⟨A,f,fd,ps,hct,hm,M,F,hb⟩:=h
 obtain⟨t,p1,q1⟩:=ha
 refine⟨_,QNE M F hr hg hm hb .nil rz.pass p1 hdb he hpl,fun G H σ ς Q S q=>?_⟩
 unfold eMake at q
 rw[Out.post_bind]at q
 refine q1 G H σ ς _ S (Out.post_mono q fun xs kk vs H1 G1 S1 a1 b1 r1=>?_)
 intro x dx nx ndx ne
 rw[Out.post_bind]at kk
 have keep:∀ b o,H1 b=some o->upd (upd H1 dx (.own x)) x (.ins A dx []) b=some o:=fun b o e=>by
  rw[Qk (Q0 e nx),Qk (Q0 e ndx)];exact e
 have back:∀ b,upd (upd H1 dx (.own x)) x (.ins A dx []) b=none->H1 b=none:=fun b e=>by
  by_cases hx:b=x
  ·subst hx;exact nx
  ·rw[Qk hx]at e
   by_cases hd:b=dx
   ·subst hd;exact ndx
   ·rw[Qk hd]at e;exact e
 refine⟨x,c,A,dx,[],[],vs++[],xs,G1,rfl,hct,QS,S1.sub.free nx,fun b o e=>keep b o (S1.sub b o e),rfl,by rw[List.append_nil];exact r1,?_⟩
 cases z:m c [] xs with
 | stuck=>rw[z]at kk;exact kk.elim
 | exc y=>
  rw[z]at kk
  obtain⟨c',Cc,e1',e2',e3'⟩:=rz.xd y kk
  exact⟨c',Cc,e1',e2',fun H' s'=>e3' H' fun b o q m'=>s' b o (keep b o (S1.fr b o q m')) (Q0 (S1.fr b o q m') nx)⟩
 | ok fds=>
  rw[z]at kk
  intro H' G' fs' dx' g1 h1 s1 n1 hp rf
  have hh:Same H1 H':=fun b o e=>h1 b o (keep b o e) (Q0 e nx)
  have hgp:G' x=none:=by
   cases zz:G' x with
   | none=>rfl
   | some o=>have:=n1 x (S1.sub.free nx) (by rw[zz];simp);rw[QS]at this;cases this
  exact⟨rfl,(show KF C G H σ ς Q (.ins c fds) from kk) x H' G' (S1.grow hh g1 s1 fun b g g'=>back b (n1 b g g')) (a1.trans hh) (b1.trans g1) (a1.free nx) hgp ⟨A,dx',fs',hct,hp,rf⟩⟩
end
def MtOk(P:Program)(w:World)(K:PySem.W.Frag)(mg:Str->Option Value)(base:Heap)(CT:CTab)(CX:CXT)(name:Str)(k:Nat)(cs:List Str)(sp:Str->Sp):Prop:=
 ∀ c,cs.contains c=true->∃ A f fd ps,CT c=some A/\Cls K A/\Meth K A name f/\FnOk P w K mg base CX k f fd ps (sp c)/\Binds K fd ps []
def csOf(CT:CTab)(cs:List Str)(sp:Str->Sp):Addr->Sp->Prop:=fun A s=>∃ c,cs.contains c=true/\CT c=some A/\s=sp c
theorem mtab{X:Cx}{CT:CTab}{CX:CXT}{name:Str}{k:Nat}{cs:List Str}{sp:Str->Sp}(h:MtOk X.prog X.w X.K X.mg X.base CT CX name k cs sp):MTab X CX k name [] (csOf CT cs sp):=by
 rintro A s ⟨c,hc,hA,rfl⟩
 obtain⟨A',f,fd,ps,h1,h2,h3,h4,h5⟩:=h c hc
 rw[hA]at h1;cases h1
 exact⟨h2,f,fd,ps,[],h3,h4,h5,.nil⟩
section
variable{C:Dc}{name:Str}{k:Nat}{cs:List Str}{fr:Bool}{mt:Str->List D->Out D}{o e:Expr}{es:List Expr}{O:SD->Out D}{AA:SD->Out (List D)}{apos pos:Pos}
def eMeth(cs:List Str)(name:Str)(mt:Str->List D->Out D)(O:SD->Out D)(A:SD->Out (List D)):SD->Out D:=fun ς=>O ς>>=fun d=>match d with
 | .ins c fds=>if (cs.contains c&&(fds.lookup name).isNone)=true then A ς>>=fun xs=>mt c (.ins c fds::xs) else .stuck
 | _=>.stuck
theorem QG8{G H:Hp}{σ:St}{ς:SD}{Q:VK}{t:TA}{c:Str}{fds:List (Str×D)}{v1:V}{H1 G1:Hp}(S1:StR C G1 H1 σ ς)(a1:Same H H1)(b1:Same G G1)(r1:Rep C.X.K C.CT G1 (.ins c fds) v1)
 (tk:MtOk C.X.prog C.X.w C.X.K C.X.mg C.X.base C.CT CX0 name k cs (fun c=>SpD C.X.K C.CT fr (mt c))) (hx:∀ x,¬ C.XD x)
 (hq:∀ G H σ ς Q,StR C G H σ ς->(AA ς).post (fun ds=>∀ vs H' G',StR C G' H' σ ς->Same H H'->Same G G'->RepL C.X.K C.CT G' ds vs->Q vs H') C.XD->t σ H Q)
 {K':D->Prop} (hK:∀ d v H2 G2 H' G',StR C G2 H2 σ ς->Same H H2->Same G G2->K' d->Same G2 G'->Same H2 H'->Same G' H'->(∀ b,G2 b=none->G' b≠none->H2 b=none)->RetG C.X.K C.CT fr H2 G' H' d v->Q v H')
 (kk:(if (cs.contains c&&(fds.lookup name).isNone)=true then AA ς>>=fun xs=>mt c (.ins c fds::xs) else .stuck).post K' C.XD):
 ∃ a Cc dx fs sp,v1=.ref a/\H1 a=some (.ins Cc dx fs)/\csOf C.CT cs (fun c=>SpD C.X.K C.CT fr (mt c)) Cc sp/\fs.lookup name=none/\t σ H1 fun vs H2=>sp (v1::(vs++[])) H2 Q E0:=by
 rcases QR kk with⟨hc,kk⟩ | ⟨_,kk⟩
 ·rw[Bool.and_eq_true]at hc
  obtain⟨a,Cc,dx,fs,rfl,hct,hh,rf⟩:=r1
  refine⟨a,Cc,dx,fs,_,rfl,S1.sub _ _ hh,⟨c,hc.1,hct,rfl⟩,(RepF.look rf).2 (by simpa using hc.2),?_⟩
  rw[Out.post_bind]at kk
  refine hq G1 H1 σ ς _ S1 (Out.post_mono kk fun xs k2 vs H2 G2 S2 a2 b2 r2=>?_)
  refine⟨.ins c fds::xs,G2,S2.sub,⟨_,_,rfl,Rep.mono b2 (.ins c fds) (.ref a) ⟨a,Cc,dx,fs,rfl,hct,hh,rf⟩,by rw[List.append_nil];exact r2⟩,?_⟩
  cases z:mt c (.ins c fds::xs) with
  | stuck=>rw[z]at k2;exact k2.elim
  | exc y=>rw[z]at k2;exact absurd k2 (hx y)
  | ok d=>
   rw[z]at k2
   intro v H' G' g1 h1 s1 n1 ret
   exact hK d v H2 G2 H' G' S2 (a1.trans a2) (b1.trans b2) k2 g1 h1 s1 n1 ret
 ·exact kk.elim
theorem retKD{G H:Hp}{σ:St}{ς:SD}{Q:VK}:∀ d v H2 G2 H' G',StR C G2 H2 σ ς->Same H H2->Same G G2->KD C G H σ ς Q d->Same G2 G'->Same H2 H'->Same G' H'->(∀ b,G2 b=none->G' b≠none->H2 b=none)->RetG C.X.K C.CT fr H2 G' H' d v->Q v H':=by
 intro d v H2 G2 H' G' S2 a b kd g1 h1 s1 n1 ret
 unfold RetG at ret
 by_cases hc:(fr && !d.scal)=true
 ·rw[if_pos hc]at ret
  obtain⟨pp,rfl,h0,hg',ow⟩:=ret
  obtain⟨o,ho⟩:=ow.there
  have S3:=(S2.grow h1 g1 s1 n1).freeze ho hg' (S2.h0none h0) (fun i d' z1 z2=>by
   obtain⟨o',ho'⟩:=S2.own_ne z1 z2
   rw[h0]at ho';cases ho')
  exact kd _ _ _ S3 (a.trans h1) ((b.trans g1).trans (QE hg')) (ow.known hg' ho)
 ·rw[if_neg hc]at ret
  exact kd v H' G' (S2.grow h1 g1 s1 n1) (a.trans h1) (b.trans g1) ret
theorem Qk8{pl:Sem Bool}(tk:MtOk C.X.prog C.X.w C.X.K C.X.mg C.X.base C.CT CX0 name k cs (fun c=>SpD C.X.K C.CT fr (mt c)))(hr:Room k C.X.A)(ho:DE C o O)(ha:DA C (e::es) AA)(hx:∀ x,¬ C.XD x:=by exact fun _ h=>h)
 (hst:starEach (e::es) C.X.env=(false,eval e C.X.env)::starEach es C.X.env:=by rfl) (hpl:(backTo pos (starEach es C.X.env)).any (·.1)=false:=by rfl)
 (ht:eval (.Call (.Attribute o name apos) (e::es) [] pos) C.X.env=(do
  let ov ← eval o C.X.env
  standAt apos.atName
  let (f,first) ← holding [ov] (getMethod ov name pl)
  callWith pos f first (backTo pos (starEach (e::es) C.X.env)) (backToKw pos (keywordEach [] C.X.env))):=by rfl):
 DE C (.Call (.Attribute o name apos) (e::es) [] pos) (eMeth cs name mt O AA):=by
 obtain⟨t1,p1,q1⟩:=ho
 obtain⟨t2,p2,q2⟩:=ha
 refine⟨_,QBx (pl:=pl) p1 (mtab tk) hr pass0 p2 hst hpl ht,fun G H σ ς Q S q=>?_⟩
 unfold eMeth at q
 rw[Out.post_bind]at q
 refine q1 G H σ ς _ S (Out.post_mono q fun d kk v1 H1 G1 S1 a1 b1 r1=>?_)
 cases d with
 | ins c fds=>exact QG8 S1 a1 b1 r1 tk hx q2 retKD kk
 | _=>exact kk.elim
theorem QcU{pl:Sem Bool}(tk:MtOk C.X.prog C.X.w C.X.K C.X.mg C.X.base C.CT CX0 name k cs (fun c=>SpD C.X.K C.CT fr (mt c)))(hr:Room k C.X.A)(ho:DE C o O)(hx:∀ x,¬ C.XD x:=by exact fun _ h=>h)
 (ht:eval (.Call (.Attribute o name apos) [] [] pos) C.X.env=(do
  let ov ← eval o C.X.env
  standAt apos.atName
  let (f,first) ← holding [ov] (getMethod ov name pl)
  callWith pos f first (backTo pos (starEach [] C.X.env)) (backToKw pos (keywordEach [] C.X.env))):=by rfl):
 DE C (.Call (.Attribute o name apos) [] [] pos) (eMeth cs name mt O aNil):=by
 obtain⟨t1,p1,q1⟩:=ho
 refine⟨_,QKv (pl:=pl) p1 (mtab tk) hr pass0 ht,fun G H σ ς Q S q=>?_⟩
 unfold eMeth at q
 rw[Out.post_bind]at q
 refine q1 G H σ ς _ S (Out.post_mono q fun d kk v1 H1 G1 S1 a1 b1 r1=>?_)
 cases d with
 | ins c fds=>exact QG8 (AA:=aNil) (t:=tNil) S1 a1 b1 r1 tk hx (fun G H σ ς Q S q=>q [] H G S (Same.refl H) (Same.refl G) rfl) retKD kk
 | _=>exact kk.elim
end
end DL
namespace DL
open PySem PySem.Spec PyProof.Rows L2
section
variable{C:Dc}{name:Str}{k:Nat}{cs:List Str}{mt:Str->List D->Out D}{o e:Expr}{es:List Expr}{O:SD->Out D}{AA:SD->Out (List D)}{apos pos:Pos}
theorem QDx{x:Out D}{K':D->Prop}{X':D->Prop}(h:(QfP x).post K' X'):x.post (fun d=>d.scal=false/\K' d) X':=by
 unfold QfP at h
 rw[Out.post_bind]at h
 refine Out.post_mono h fun d k=>?_
 rcases QR (show(if d.scal=true then Out.stuck else Out.ok d).post K' X' from k) with⟨_,k⟩ | ⟨hc,k⟩
 ·exact k.elim
 ·exact⟨by cases hh:d.scal with | true=>exact absurd hh hc | false=>rfl,k⟩
variable{E:XK}{m:Str->List (Str×D)->List D->Out (List (Str×D))}{x:Str}{px spos:Pos}
def Qju(cs:List Str)(name:Str)(m:Str->List (Str×D)->List D->Out (List (Str×D)))(i:Nat)(A:SD->Out (List D)):SD->Out Fl:=fun ς=>match (ς[i]?:Option (Option (SM×D))) with
 | some (some (SM.s,D.ins c fds))=>if (cs.contains c&&(fds.lookup name).isNone)=true then A ς>>=fun xs=>m c fds xs>>=fun fds'=>.ok (.nx (ς.set i (some (.s,.ins c fds')))) else .stuck
 | _=>.stuck
theorem Qp0{pl:Sem Bool}(i:Nat)(rz:Rz C E)(tk:MtOk C.X.prog C.X.w C.X.K C.X.mg C.X.base C.CT (CXR C.X.prog C.X.w) name k cs (fun _=>SpI C.X.K C.CT m))(hr:Room k C.X.A)(ha:DA C (e::es) AA)
 (hN:C.X.N[i]?=some x:=by rfl) (hv:Vis C.X.env.scope x:=by first | exact Or.inl rfl | exact Or.inr (Or.inl rfl) | exact Or.inr (Or.inr rfl))
 (hd:(x == ("__debug__":Str))=false:=by decide) (hcd:(x == ("__classdict__":Str))=false:=by decide)
 (hst:starEach (e::es) C.X.env=(false,eval e C.X.env)::starEach es C.X.env:=by rfl) (hpl:(backTo pos (starEach es C.X.env)).any (·.1)=false:=by rfl)
 (ht:eval (.Call (.Attribute (.Name x px) name apos) (e::es) [] pos) C.X.env=(do
  let ov ← eval (.Name x px) C.X.env
  standAt apos.atName
  let (f,first) ← holding [ov] (getMethod ov name pl)
  callWith pos f first (backTo pos (starEach (e::es) C.X.env)) (backToKw pos (keywordEach [] C.X.env))):=by rfl)
 (hsw:swapsWith (.Call (.Attribute (.Name x px) name apos) (e::es) [] pos) none spos.line C.X.env=pure false:=by rfl):
 DS C (.Expr (.Call (.Attribute (.Name x px) name apos) (e::es) [] pos) spos) (Qju cs name m i AA):=by
 obtain⟨t2,p2,q2⟩:=ha
 refine⟨_,Qxp (QBx (pl:=pl) (QeF (i:=i) hN hv hd hcd) (mtab tk) hr rz.pass p2 hst hpl ht) hsw,fun G H σ ς W S kk=>?_⟩
 unfold Qju at kk
 split at kk
 ·rename_i c fds z
  rcases QR kk with⟨hc,kk⟩ | ⟨_,kk⟩
  ·rw[Bool.and_eq_true]at hc
   obtain⟨p,e1',hg,h0,⟨hM,_⟩,hB,A,dx,fs,hct,hh,rf⟩:=S.sf i _ z
   refine⟨_,e1',p,A,dx,fs,_,rfl,hh,⟨c,hc.1,hct,rfl⟩,(RepF.look rf).2 (by simpa using hc.2),?_⟩
   rw[Out.post_bind]at kk
   refine q2 G H σ ς _ S (Out.post_mono kk fun xs k2 vs H2 G2 S2 a2 b2 r2=>?_)
   obtain⟨p',e2',hg2,_,_,_,A2,dx2,fs2,hct2,hh2,rf2⟩:=S2.sf i _ z
   rw[e1']at e2';cases e2'
   rw[Out.post_bind]at k2
   refine⟨p,c,A2,dx2,fs2,fds,vs++[],xs,G2,rfl,hct2,hh2,hg2,S2.sub,rf2,by rw[List.append_nil];exact r2,?_⟩
   cases zz:m c fds xs with
   | stuck=>rw[zz]at k2;exact k2.elim
   | exc y=>
    rw[zz]at k2
    obtain⟨c',Cc,f1,f2,f3⟩:=rz.xd y k2
    exact⟨c',Cc,f1,f2,fun H' s'=>f3 H' fun b o q mm=>s' b o (S2.fr b o q mm) (by rintro rfl;exact mm hM)⟩
   | ok fds'=>
    rw[zz]at k2
    intro H' G' fs' dx' g1 h1 s1 n1 hp rf'
    have gp:G' p=none:=by
     cases y:G' p with
     | none=>rfl
     | some o=>have:=n1 p hg2 (by rw[y];simp);rw[hh2]at this;cases this
    have S3:StR C G' (upd H' p (.ins A2 dx2 fs2)) σ ς:=S2.grow (fun b o e=>by
     by_cases hb:b=p
     ·subst hb;rw[QS];rw[hh2]at e;exact e
     ·rw[Qk hb];exact h1 b o e hb) g1 (fun b o e=>by
     rw[Qk (by rintro rfl;rw[gp]at e;cases e)];exact s1 b o e) n1
    have S4:=S3.writeS (dx:=dx') z e1' hct2 rf'
    have eq:upd (upd H' p (.ins A2 dx2 fs2)) p (.ins A2 dx' fs')=H':=by
     rw[QNW]
     funext b
     by_cases hb:b=p
     ·subst hb;rw[QS,hp]
     ·rw[Qk hb]
    rw[eq]at S4
    exact(show FlK C G W (.nx (ς.set i (some (.s,.ins c fds')))) from k2) σ H' G' S4 (b2.trans g1)
  ·exact kk.elim
 ·exact kk.elim
end
end DL
namespace DL
open PySem PySem.Spec PyProof.Rows L2
def inCls(s:Stmt)(j:Nat):Stmt:=match s with
 | .ClassDef _ _ _ b _ _ _ _ _ _ _=>b.getD j (.Pass ⟨0,0,0,0⟩)
 | _=>.Pass ⟨0,0,0,0⟩
def KitI(K:PySem.W.Frag)(CT:CTab)(uc:Value)(tbl:List (Str×Bool)):Prop:=∀ c b,tbl.lookup c=some b->∀ A,CT c=some A->ClsD K A/\PySem.W.kitOne K (.ref A) uc=some b
theorem Qqe{K:PySem.W.Frag}{CT:CTab}{uc:Value}:KitI K CT uc []:=fun _ _ h=>nomatch h
theorem Qah{K:PySem.W.Frag}{CT:CTab}{uc:Value}{c:Str}{b:Bool}{A:Addr}{tbl:List (Str×Bool)}(hc:CT c=some A)(hx:ClsD K A)(hk:PySem.W.kitOne K (.ref A) uc=some b)(r:KitI K CT uc tbl):KitI K CT uc ((c,b)::tbl):=by
 intro c' b' h A' hA
 rw[List.lookup_cons]at h
 cases e:c' == c with
 | true=>
  rw[e]at h
  cases h
  rw[beq_iff_eq.mp e,hc]at hA
  cases hA
  exact⟨hx,hk⟩
 | false=>
  rw[e]at h
  exact r c' b' h A' hA
section
variable{C:Dc}{pos p:Pos}{e cx:Expr}{E:SD->Out D}
end
def eIxO(i:Nat)(b:SD->Out D):SD->Out D:=fun ς=>match (ς[i]?:Option (Option (SM×D))) with
 | some (some (SM.o,D.lst xs))=>b ς>>=fun k=>match k with | .int k=>optO (atI xs k) | _=>.stuck
 | _=>.stuck
section
variable{C:Dc}{pos px:Pos}{b:Expr}{B:SD->Out D}{x f:Str}{cs:List Str}
theorem QPz(i:Nat)(hb:DB C b B)(hN:C.X.N[i]?=some x:=by rfl)(hv:Vis C.X.env.scope x:=by first | exact Or.inl rfl | exact Or.inr (Or.inl rfl) | exact Or.inr (Or.inr rfl))
 (hd:(x == ("__debug__":Str))=false:=by decide) (hcd:(x == ("__classdict__":Str))=false:=by decide) (hs:Qtl b:=by intro _ _;rfl):DE C (.Subscript (.Name x px) b pos) (eIxO i B):=by
 obtain⟨tb,p2,q2⟩:=hb
 refine⟨_,pe_ix QDg (QeF (i:=i) hN hv hd hcd) p2 hs,fun G H σ ς Q S q=>?_⟩
 unfold eIxO at q
 split at q
 ·rename_i xs z
  obtain⟨p,e1',hg,h0,ow⟩:=S.ow i _ z
  rw[Out.post_bind]at q
  refine⟨_,e1',q2 G H σ ς _ S (Out.post_mono q fun y k2 v2 H2 G2 S2 a2 b2 r2=>?_)⟩
  cases y with
  | int k=>
   cases r2
   obtain⟨d,e2',kd⟩:=QcK k2
   obtain⟨p',e3',hg',h0',vs,hv1,hv2⟩:=S2.ow i _ z
   rw[e1']at e3';cases e3'
   obtain⟨v,e4',rv⟩:=Qo5 hv2 e2'
   exact .inl ⟨p,vs,k,v,rfl,rfl,SqL.of hv1,e4',KD.now (KD.later kd a2 b2) S2 rv⟩
  | _=>exact k2.elim
 ·exact q.elim
end
end DL
namespace L2
open PySem PySem.Spec PyProof.Rows
def Ite(K:PySem.W.Frag)(a:Addr):It:=
 ⟨fun i H=>∃ xs x,SqL K H a xs/\xs[i]?=some x,
  fun i H v H'=>∃ p x,H p=none/\v=.ref p/\H'=upd H p (.tup [.int i,x])/\(∀ xs,SqL K H a xs->xs[i]?=some x),
  fun i H=>∃ xs,SqL K H a xs/\xs.length<=i⟩
theorem QJr{P:Program}{w:World}{K:PySem.W.Frag}{elts:List Expr}{k1:Nat}{pos:Pos}{e it l:Addr}(D1:e≠it):
 Turn P w K (.Tuple elts k1 pos) (Ite K l) [e,it] e (fun i h=>(∃ old,IsEnum h e it (i:Int) old)/\h.IsListIter it l i) where
 mem:=by simp
 obj:=fun i h st b hb=>by
  obtain⟨⟨old,s1⟩,⟨o4,e4,c4,d4⟩⟩:=st
  simp only[List.mem_cons,List.not_mem_nil,or_false]at hb
  rcases hb with rfl | rfl
  ·exact⟨_,s1,fun v q=>by cases q⟩
  ·exact⟨_,e4,fun v q=>by rw[d4]at q;cases q⟩
 keep:=fun i h h' st k=>by
  obtain⟨⟨old,s1⟩,s4⟩:=st
  exact⟨⟨old,k e (by simp) _ s1⟩,s4.at fun o q=>k it (by simp) o q⟩
 item:=by
  intro X hP hw hK hc i pins s σ H E I hf st hg
  subst hP hw hK
  obtain⟨xs,x,q1,hx⟩:=hg
  obtain⟨its1,rv1,p1,hz1⟩:=I.list q1
  obtain⟨u1,hu1,ru1⟩:=rv1.get hx
  obtain⟨⟨old,s1⟩,s4⟩:=st
  refine wpAny_pyNext_enum_item s1 s4 p1.isList (x:=u1) (by simpa using hu1) D1 fun h' a1 a3 a5 a6 hk=>?_
  have hT:H s.heap.objs.size=none:=I.hok.fresh (Nat.le_refl _)
  have fp:∀ c∈[e,it],FpOk X pins H c:=hf
  have out:∀ c,c∉[e,it]->∀ o,s.heap.get? c=some o->h'.get? c=some o:=fun c hc o q=>hk c o (fun q=>hc (by simp[q])) (fun q=>hc (by simp[q])) q
  have trk:∀ c o,H c=some o->c∉[e,it]:=fun c o q hc=>by rw[(fp c hc).1]at q;cases q
  have hok:HOk X.prog X.w (upd H s.heap.objs.size (.tup [.int i,x])) h':=fun c o q=>by
   by_cases hcT:c=s.heap.objs.size
   ·subst hcT
    rw[QS]at q
    cases q
    exact⟨by show 2<=sizeLine;decide,[.int i s.toks,u1],.cons ⟨_,rfl⟩ (.cons ru1 .nil),⟨_,a5,rfl,_,rfl⟩⟩
   ·rw[Qk hcT]at q
    refine(I.hok c o q).stay (fun b u hb q'=>out b ?_ u q') (fun b q'=>?_) fun b ts q'=>?_
    ·rcases hb with rfl | hb
     ·exact trk b _ q
     ·exact trk b _ hb
    ·rw[Qk (Q0 q' hT)];exact q'
    ·rw[Qk (Q0 q' hT)];exact q'
  have I1:Inv X pins σ (upd H s.heap.objs.size (.tup [.int i,x])) { s with heap:=h',gens:=s.gens,drawn:=s.drawn,toks:=s.toks+1 }:=I.step (ch:=[e,it])
   (fun c hc=>⟨(fp c hc).2.2.2.1,(fp c hc).2.1,(fp c hc).2.2.2.2.1,(fp c hc).2.2.2.2.2⟩) (fun c o _ _ hc q _=>out c hc o q) (fun c o _ _ hc q _=>⟨o.slots,out c hc o q⟩)
   (fun c o hc q n=>by rw[Qk (Nat.ne_of_lt (Heap.lt_size q))];exact n) (fun c o hc q=>⟨o,out c hc o q⟩)
   (fun c ts q=>by rw[Qk (Q0 q hT)];exact q) (fun c o u q=>by rw[Qk (Q0 q hT)];exact q) (fun c ts q=>⟨#[],by rw[Qk (Q0 q hT),q];simp⟩)
   (fun m hm=>by
    obtain⟨o,es,ep,ho,r⟩:=hm
    exact⟨o,es,ep,out _ (fun hc=>(fp _ hc).2.1 rfl) o ho,r⟩) hok I.bare
  have lt:∀{c o},s.heap.get? c=some o->s.heap.objs.size≠c:=fun q=>Nat.ne_of_gt (Heap.lt_size q)
  refine⟨_,rfl,wpAny_letOwnedTupleGo_enum a1 fun h2 hz2 hs2=>?_⟩
  obtain⟨z0,z1,z2,z3,z4,z5⟩:=hf e (by simp)
  have I2:Inv X pins σ (upd H s.heap.objs.size (.tup [.int i,x])) { s with heap:=h2,toks:=s.toks+1 }:=Inv.turned (s:={ s with heap:=h',gens:=s.gens,drawn:=s.drawn,toks:=s.toks+1 }) (t':=s.toks+1) (it:=e) I1 (fun b o hb q=>(hs2.2 b hb).trans q) (by rw[Qk (lt s1).symm];exact z0) z1 z3 z4 z5
  refine⟨.ref s.heap.objs.size,_,I2,rfl,⟨_,x,hT,rfl,rfl,fun xs' q'=>by rw[I.list_inj q' q1];exact hx⟩,
   ⟨⟨_,by have:((i+1:Nat):Int)=(i:Int)+1:=by push_cast;rfl
          rw[this];exact hz2⟩,a3.extBut hs2.extBut D1.symm⟩,fun c hc=>?_⟩
  have:H c=none:=(hf c hc).1
  obtain⟨oc,hoc⟩:∃ o,s.heap.get? c=some o:=by
   simp only[List.mem_cons,List.not_mem_nil,or_false]at hc
   rcases hc with rfl | rfl
   ·exact⟨_,s1⟩
   ·obtain⟨o,q,_⟩:=s4;exact⟨o,q⟩
  rw[Qk (lt hoc).symm];exact this
 done:=by
  intro X hP hw hK hc i pins s σ H E I hf st hg
  subst hP hw hK
  obtain⟨xs,q1,hend⟩:=hg
  obtain⟨its1,rv1,p1,hz1⟩:=I.list q1
  have l1:=rv1.length
  obtain⟨⟨old,s1⟩,s4⟩:=st
  obtain⟨z0,z1,z2,z3,z4,z5⟩:=hf it (by simp)
  refine wpAny_pyNext_enum_end (I.ok.hd hc) s1 s4 p1.isList (by simp;omega) fun h' hk=>⟨rfl,?_⟩
  have fp:∀ c∈[it],FpOk X pins H c:=fun c hc=>hf c (by simp only[List.mem_cons,List.not_mem_nil,or_false]at hc ⊢;exact Or.inr hc)
  have out:∀ c,c∉[it]->∀ o,s.heap.get? c=some o->h'.get? c=some o:=fun c hc o q=>hk c o (fun q=>hc (by simp[q])) q
  have trk:∀ c o,H c=some o->c∉[it]:=fun c o q hc=>by rw[(fp c hc).1]at q;cases q
  exact I.step (g':=s.gens) (d':=s.drawn) (t':=s.toks) (ch:=[it]) (fun c hc=>⟨(fp c hc).2.2.2.1,(fp c hc).2.1,(fp c hc).2.2.2.2.1,(fp c hc).2.2.2.2.2⟩) (fun c o _ _ hc q _=>out c hc o q) (fun c o _ _ hc q _=>⟨o.slots,out c hc o q⟩)
   (fun c o hc q n=>n) (fun c o hc q=>⟨o,out c hc o q⟩) (fun c ts q=>q) (fun c o u q=>q) (fun c ts q=>⟨#[],by rw[q];simp⟩)
   (fun m hm=>by
    obtain⟨o,es,ep,ho,r⟩:=hm
    exact⟨o,es,ep,out _ (fun hc=>(fp _ hc).2.1 rfl) o ho,r⟩)
   (fun c o q=>(I.hok c o q).stay (fun b u hb q'=>out b (by
    rcases hb with rfl | hb
    ·exact trk b _ q
    ·exact trk b _ hb) u q') (fun b q'=>q') fun b ts q'=>q') I.bare
 self:=fun _ _ _ _ _ st h=>wpAny_pyIter_enum st.1.choose_spec h
section
variable{X:Cx}
def iEnum(K:PySem.W.Frag)(ta:TA):TI:=fun σ H R=>ta σ H fun vs H1=>∃ a,vs=[.ref a]/\(∃ xs,SqL K H1 a xs)/\R (Ite K a) H1
theorem QMR{elts:List Expr}{k1:Nat}{tpos:Pos}{a:Expr}{ta:TA}{p pos:Pos}(hg:Gl X "enumerate")(hm:X.mg "enumerate"=none)(ha:PA X [a] ta)(hs:starEach [a] X.env=[(false,eval a X.env)]:=by rfl):
 PI X (.Tuple elts k1 tpos) (.Call (.Name "enumerate" p) [a] [] pos) (iEnum X.K ta):=by
 intro pins s σ H R I h
 refine Call_ (Qhb I hg hm PyProof.Rows.Boot.«enumerate» (PyProof.Rows.callWith_type1 (thn (ha pos pins s σ H _ I h) fun us s1 ⟨vs,H1,I1,r1,q1⟩=>?_) (by rw[hs];rfl) (by rfl)))
 obtain⟨l1,e,⟨xs,hx⟩,q⟩:=q1
 subst e
 cases r1 with
 | cons r rr=>
  cases rr
  cases r
  obtain⟨its1,rv1,p1,hz1⟩:=I1.list hx
  refine call_enumerate_list p1.isList fun h' c1 c4 c6 hk=>?_
  refine wpAny_pyIter_enum c1 ?_
  refine⟨_,_,_,Ite X.K l1,H1,rfl,I1.kept (t':=s1.toks) fun b o e=>hk b o e,QJr (e:=s1.heap.objs.size+1) (it:=s1.heap.objs.size) (l:=l1) (show ¬ ((s1.heap.objs.size+1:Nat)=s1.heap.objs.size) by omega),
   ⟨⟨_,c1⟩,c4⟩,fun b hb=>?_,q⟩
  have hb':s1.heap.objs.size<=b:=by
   simp only[List.mem_cons,List.not_mem_nil,or_false]at hb
   rcases hb with rfl | rfl<;>omega
  exact I1.fpOk hb' (I1.hok.fresh hb')
end
end L2
namespace DL
open PySem PySem.Spec PyProof.Rows L2
def enumD(i:Nat):List D->List D
 | []=>[]
 | x::xs=>.tup [.int i,x]::enumD (i+1) xs
theorem QyV:∀(xs:List D)(i:Nat),(enumD i xs).length=xs.length
 | [],_=>rfl
 | x::xs,i=>by simp[enumD,QyV xs]
theorem Qr7:∀(xs:List D)(n i:Nat),(enumD n xs)[i]?=xs[i]?.map fun x=>.tup [.int (n+i:Nat),x]
 | [],_,_=>rfl
 | x::xs,n,0=>rfl
 | x::xs,n,i+1=>by
  show(enumD (n+1) xs)[i]?=_
  rw[Qr7 xs (n+1) i,show n+1+i=n+(i+1) by omega]
  rfl
def itE(A:SD->Out D):SD->Out (List D):=fun ς=>A ς>>=fun x=>match x with
 | .lst xs=>.ok (enumD 0 xs)
 | _=>.stuck
section
variable{C:Dc}{a:Expr}{A:SD->Out D}
theorem QLX{K:PySem.W.Frag}{CT:CTab}{G1:Hp}{p:Addr}{xs:List D}{us:List V}(h1:SqL K G1 p us)(r1:RepL K CT G1 xs us):DIt K CT G1 (Ite K p) (enumD 0 xs) where
 go:=fun G H i d s1 sH hd=>by
  rw[Qr7,Nat.zero_add]at hd
  cases e1':xs[i]? with
  | none=>rw[e1']at hd;cases hd
  | some x=>
   rw[e1']at hd
   cases hd
   obtain⟨u,hu,ru⟩:=r1.get e1'
   have q1:SqL K H p us:=sH.seq (s1.seq h1)
   refine⟨⟨us,u,q1,hu⟩,fun w H' ⟨t,x',n,e,e',k1⟩=>?_⟩
   have z1:=k1 us q1
   rw[hu]at z1;cases z1
   subst e e'
   have gn:G t=none:=sH.free n
   refine⟨upd G t (.tup [.int i,u]),QE gn,QE n,Qsq sH,fun b g g'=>?_,t,[.int i,u],rfl,SqT.of QS,⟨.int i,_,rfl,rfl,u,_,rfl,Rep.mono (s1.trans (QE gn)) x u ru,rfl⟩⟩
   by_cases hb:b=t
   ·subst hb;exact n
   ·rw[Qk hb]at g';exact absurd g g'
 stop:=fun G H s1 sH=>by
  refine⟨us,sH.seq (s1.seq h1),?_⟩
  have l1:=r1.length
  rw[QyV]
  omega
theorem QxR{elts:List Expr}{k1:Nat}{tpos p pos:Pos}(hgl:Gl C.X "enumerate")(hm:C.X.mg "enumerate"=none)(ha:DE C a A)
 (hst:starEach [a] C.X.env=(false,eval a C.X.env)::starEach [] C.X.env:=by rfl):DI C (.Tuple elts k1 tpos) (.Call (.Name "enumerate" p) [a] [] pos) (itE A):=by
 obtain⟨t0,p0,q0⟩:=ha
 refine⟨_,QMR hgl hm (QaS p0 Qc9 hst) (by rw[hst];rfl),fun G H σ ς R S k=>?_⟩
 unfold itE at k
 rw[Out.post_bind]at k
 refine q0 G H σ ς _ S (Out.post_mono k fun d k v H1 G1 S1 a1 b1 r=>?_)
 cases d with
 | lst xs=>
  obtain⟨p1,us,rfl,h1,r1⟩:=r
  exact⟨p1,rfl,⟨us,S1.sub.seq h1⟩,k _ H1 G1 S1 a1 b1 (QLX h1 r1)⟩
 | _=>exact k.elim
end
end DL
namespace L2
open PySem PySem.Spec PyProof.Rows
section
variable{X:Cx}
end
end L2
namespace DL
open PySem PySem.Spec PyProof.Rows L2
section
variable{C:Dc}{o e:Expr}{O E:SD->Out D}{apos cpos:Pos}
end
end DL
namespace L2
open PySem PySem.Spec PyProof.Rows
section
variable{X:Cx}{k:Nat}{f ea:Addr}{fd:FuncData}{ps:List Str}{sp:Sp}{dvs:List V}{ds:List Value}{x:Str}{p pos:Pos}{e:Expr}{es:List Expr}{t:TA}
end
end L2
namespace DL
open PySem PySem.Spec PyProof.Rows L2
section
variable{C:Dc}{ea:Addr}{x:Str}{k:Nat}{m:List D->Out D}{e:Expr}{es:List Expr}{A:SD->Out (List D)}{p pos:Pos}
end
end DL
namespace L2
open PySem PySem.Spec PyProof.Rows
section
variable{X:Cx}{tg:Expr}
theorem QLw:∀{ns:List Int}{its:List Value},Vals (ns.map V.int) its->∃ xs:List (Int×Tok),its=xs.map (fun p=>Value.int p.1 p.2)/\xs.map (·.1)=ns
 | [],_,.nil=>⟨[],rfl,rfl⟩
 | n::ns,_,.cons r rr=>by
  obtain⟨t,rfl⟩:=r
  obtain⟨xs,rfl,e⟩:=QLw rr
  exact⟨(n,t)::xs,rfl,by rw[List.map_cons,e]⟩
end
end L2
namespace DL
open PySem PySem.Spec PyProof.Rows L2
def intsD:List D->Option (List Int)
 | []=>some []
 | .int i::r=>(intsD r).map (i :: ·)
 | _::_=>none
theorem Qzj{K:PySem.W.Frag}{CT:CTab}{H:Hp}:∀{ds:List D}{ns:List Int}{vs:List V},intsD ds=some ns->RepL K CT H ds vs->vs=ns.map V.int
 | [],ns,vs,h,r=>by cases h;exact r
 | d::ds,ns,vs,h,⟨v,w,h1,h2,h3⟩=>by
  cases d with
  | int i=>
   cases e:intsD ds with
   | none=>rw[intsD,e]at h;cases h
   | some ms=>
    rw[intsD,e]at h
    cases h
    subst h1
    cases h2
    rw[Qzj e h3];rfl
  | _=>cases h
theorem Qy8:∀ ns:List Int,intsD (ns.map .int)=some ns
 | []=>rfl
 | n::ns=>by show(intsD (ns.map .int)).map (n :: ·)=_;rw[Qy8 ns];rfl
section
variable{C:Dc}{a b c e:Expr}{es:List Expr}{A B E:SD->Out D}{AA:SD->Out (List D)}{tg:Expr}{p pos:Pos}
def frz(j:Nat)(ς:SD):SD:=match (ς[j]?:Option (Option (SM×D))) with
 | some (some (SM.o,d))=>ς.set j (some (.k,d))
 | _=>ς
theorem StR.frz{G H:Hp}{σ:L2.St}{ς:SD}(S:StR C G H σ ς){j:Nat}{d:D}(z:ς[j]?=some (some (.o,d))):∃ G',Same G G'/\StR C G' H σ (ς.set j (some (.k,d))):=by
 obtain⟨p,e,hg,h0,ow⟩:=S.ow j d z
 obtain⟨o,ho⟩:=ow.there
 have hj:j<ς.length:=(List.getElem?_eq_some_iff.mp z).1
 have get:∀(i:Nat) x,(ς.set j (some (.k,d)))[i]?=some (some x)->(i=j/\x=(.k,d))∨(i≠j/\ς[i]?=some (some x)):=fun i x h=>by
  rw[List.getElem?_set]at h
  by_cases q:j=i
  ·rw[if_pos q,if_pos (by omega)]at h
   cases h
   exact .inl ⟨q.symm,rfl⟩
  ·rw[if_neg q]at h
   exact .inr ⟨fun w=>q w.symm,h⟩
 refine⟨upd G p o,QE hg,?_⟩
 have hn:∀(i:Nat) d',i≠j->ς[i]?=some (some (.o,d'))->σ[i]?≠some (some (.ref p)):=fun i d' hi q w=>S.inj i j d' d p hi q z w e
 exact {
  toGH:=GH.freezeR S.toGH ho hg h0
  len:=by rw[List.length_set];exact S.len
  fz:=fun i d' q=>by
   rcases get i _ q with⟨rfl,w⟩ | ⟨_,w⟩
   ·cases w
    exact⟨_,e,ow.known hg ho⟩
   ·obtain⟨v,a,b⟩:=S.fz i d' w
    exact⟨v,a,Rep.mono (QE hg) d' v b⟩
  ow:=fun i d' q=>by
   rcases get i _ q with⟨rfl,w⟩ | ⟨hi,w⟩
   ·cases w
   ·obtain⟨r,a,b,c,w'⟩:=S.ow i d' w
    refine⟨r,a,?_,c,w'.mono (QE hg) fun _ z=>z⟩
    rw[Qk (by rintro rfl;exact hn i d' hi w a)];exact b
  ln:=fun i d' q=>by
   rcases get i _ q with⟨rfl,w⟩ | ⟨_,w⟩
   ·cases w
   ·exact S.ln i d' w
  inj:=fun i k d1 d2 q hne h1 h2=>by
   rcases get i _ h1 with⟨rfl,w⟩ | ⟨_,w⟩
   ·cases w
   ·rcases get k _ h2 with⟨rfl,w2⟩ | ⟨_,w2⟩
    ·cases w2
    ·exact S.inj i k d1 d2 q hne w w2
  sf:=fun i d' q=>by
   rcases get i _ q with⟨rfl,w⟩ | ⟨_,w⟩
   ·cases w
   ·obtain⟨r,a,b,c,m,z',w'⟩:=S.sf i d' w
    refine⟨r,a,?_,c,m,z',w'.mono (QE hg) fun _ z=>z⟩
    rw[Qk (by rintro rfl;exact c h0)];exact b
  su:=fun i k d1 d2 q hne h1 h2=>by
   rcases get i _ h1 with⟨rfl,w⟩ | ⟨_,w⟩
   ·cases w
   ·rcases get k _ h2 with⟨rfl,w2⟩ | ⟨_,w2⟩
    ·cases w2
    ·exact S.su i k d1 d2 q hne w w2 }
theorem Qwm(j:Nat){st:Stmt}{T:SD->Out Fl}(h:DS C st T):DS C st (fun ς=>T (frz j ς)):=by
 obtain⟨t,p1,q⟩:=h
 refine⟨t,p1,fun G H σ ς W S k=>?_⟩
 have k:(T (frz j ς)).post (FlK C G W) C.XD:=k
 by_cases z:∃ d,ς[j]?=some (some (SM.o,d))
 ·obtain⟨d,z⟩:=z
  have e:frz j ς=ς.set j (some (.k,d)):=by unfold frz;rw[z]
  rw[e]at k
  obtain⟨G',sG,S'⟩:=S.frz z
  exact q G' H σ _ W S' (Out.post_mono k fun f kf=>FlK.later kf sG)
 ·have e:frz j ς=ς:=by
   unfold frz
   split
   ·rename_i d w;exact absurd ⟨d,w⟩ z
   ·rfl
  rw[e]at k
  exact q G H σ ς W S k
def itLB(A:SD->Out D):SD->Out (List D):=fun ς=>A ς>>=fun x=>match x with
 | .lst xs=>if xs.all D.scal=true then .ok xs else .stuck
 | _=>.stuck
theorem QJL{K:PySem.W.Frag}{CT:CTab}{B1 G1:Hp}{p:Addr}{xs:List D}{us:List V}(fx:xs.all D.scal=true)(h1:SqL K B1 p us)(r1:RepL K CT B1 xs us):DItB K CT B1 G1 (Itl K p) xs where
 go:=fun G H i d s1 sH sB hd=>by
  obtain⟨v,hv,rv⟩:=r1.get hd
  have sx:d.scal=true:=List.all_eq_true.mp fx d (List.mem_of_getElem? hd)
  have hq:SqL K H p us:=sB.seq h1
  refine⟨⟨us,v,hq,hv⟩,fun x H' ⟨e,y⟩=>?_⟩
  have ex:us[i]?=some x:=y us hq
  rw[hv]at ex;cases ex
  subst e
  exact⟨G,Same.refl _,Same.refl _,sH,fun b g n=>absurd g n,rv.scal sx⟩
 stop:=fun G H s1 sH sB=>⟨us,sB.seq h1,by rw[r1.length];exact Nat.le_refl _⟩
theorem QDX(ha:DB C a A):DIB C tg a (itLB A):=by
 obtain⟨t0,p0,q0⟩:=ha
 refine⟨_,QHb p0,fun G H σ ς R S k=>?_⟩
 unfold itLB at k
 rw[Out.post_bind]at k
 refine q0 G H σ ς _ S (Out.post_mono k fun d k v H1 G1 S1 a1 b1 r=>?_)
 cases d with
 | lst xs=>
  rcases QR k with⟨hc,k⟩ | ⟨_,k⟩
  ·obtain⟨p1,us,rfl,h1,r1⟩:=r
   exact⟨p1,rfl,⟨us,h1⟩,k _ H1 G1 S1 a1 b1 (QJL hc h1 r1)⟩
  ·exact k.elim
 | _=>exact k.elim
end
end DL
namespace LS
open PySem PySem.Spec PyProof.Rows
def met(f:Nat->Str):Nat->List Str
 | 0=>[]
 | i+1=>if f i∈met f i then met f i else met f i++[f i]
theorem met_le(f:Nat->Str):∀ i,(met f i).length<=i
 | 0=>Nat.le_refl _
 | i+1=>by
  have h:=met_le f i
  show(if _ then _ else _:List Str).length<=_
  split
  ·omega
  ·rw[List.length_append,List.length_singleton];omega
abbrev isIn(f:Nat->Str)(i:Nat):Str->Bool:=fun y=>decide (y∈met f i)
theorem QKt(f:Nat->Str)(i:Nat)(y:Str):(isIn f i y||decide (y=f i))=isIn f (i+1) y:=by
 show _=decide (y∈(if _ then _ else _:List Str))
 by_cases h:f i∈met f i
 ·rw[if_pos h]
  by_cases e:y=f i
  ·subst e;simp[isIn,h]
  ·simp[isIn,e]
 ·rw[if_neg h]
  simp[isIn,Bool.decide_or]
theorem QLC(f:Nat->Str)(i:Nat):(if isIn f i (f i)=true then(met f i).length else(met f i).length+1)=(met f (i+1)).length:=by
 show _=(if _ then _ else _:List Str).length
 by_cases h:f i∈met f i
 ·rw[if_pos h,if_pos (decide_eq_true h)]
 ·rw[if_neg h,if_neg (by simpa [isIn] using h),List.length_append];rfl
section
variable{pg:Program}{wd:World}
theorem QKl{hp:Heap}{p:Addr}{f g:Str->Bool}{m n:Nat}(h:hp.SetOf (strKind pg wd) p f m)(hf:f=g)(hn:m=n):hp.SetOf (strKind pg wd) p g n:=hn ▸ hf ▸ h
variable{ar:Around}{Res:Result->Shared->Prop}{it:Addr}{ff wt:List Addr}{Gn:Array GenState->Array GenState->Prop}{n:Nat}{Pv:Nat->Value->Prop}{Sv:Nat->Shared->Prop}
theorem fill(Wk:WalksS pg wd ar.in1 it ff wt Gn n Pv Sv){p:Addr}(off:p∉ff){f:Nat->Str}(txt:∀ i v,Pv i v->∃ t,v=.str (f i) t)(few:n+1<scanBound):
 ∀(m i:Nat)(st:Shared),i+m=n->Sv i st->st.heap.SetOf (strKind pg wd) p (isIn f i) (met f i).length->
  (∀ st',Moved (p::wt) Gn st st'->st'.heap.SetOf (strKind pg wd) p (isIn f n) (met f n).length->Res (.ok (.ret .none)) st')->
  codeAny (model pg wd) ar (.builtin "set.update.loop" ⟨[.ref p,.ref it],[]⟩) Res st:=by
 have off':p∉wt:=fun z=>off (Wk.sub _ z)
 have more:∀ b,b∈wt->b∈p::wt:=fun b hb=>List.mem_cons_of_mem p hb
 have stays:∀{s s':Shared}{i:Nat},Moved wt Gn s s'->s.heap.SetOf (strKind pg wd) p (isIn f i) (met f i).length->s'.heap.SetOf (strKind pg wd) p (isIn f i) (met f i).length:=
  fun mv ⟨o,es,ep,tb,ho,rest⟩=>⟨o,es,ep,tb,mv.heap p o off' ho,rest⟩
 intro m
 induction m with
 | zero=>
  intro i st him hs hset fin
  obtain rfl:i=n:=by omega
  refine codeAny_builtin PyProof.Rows.F.entry_set_update_loop ?_
  rw[Around.under_plainId PyProof.Rows.F.plain_set_update_loop _]
  exact wpAny_bind (m:=pyNext (.ref it)) (Wk.done st _ _ hs fun st' mv=>wpAny_pure (fin st' (mv.mono more) (stays mv hset)))
 | succ m next=>
  intro i st him hs hset fin
  refine codeAny_builtin PyProof.Rows.F.entry_set_update_loop ?_
  rw[Around.under_plainId PyProof.Rows.F.plain_set_update_loop _]
  refine wpAny_bind (m:=pyNext (.ref it)) (Wk.item i st _ _ (by omega) hs fun v st' hv hs' mv=>?_)
  obtain⟨t,rfl⟩:=txt i v hv
  have key:=strKind_is pg wd (f i) t
  have hset1:=stays mv hset
  refine wpAny_bind (m:=holding [.str (f i) t] (setAdd p (.str (f i) t))) (wpAny_holding ?_)
  unfold setAdd
  refine wpAny_holding (wpAny_bind ((strKind pg wd).pyHash (k:=f i) key ?_))
  refine wpAny_setAddHashed_of (knd:=strKind pg wd) key rfl hset1 (by have:=met_le f i;omega) fun hp' same hset'=>?_
  have now:=QKl hset' (g:=isIn f (i+1)) (funext fun y=>QKt f i y) (QLC f i)
  have tt:st'.toks<=st'.toks+1:=Nat.le_succ _
  refine wpAny_pure ⟨plainId_quiet PyProof.Rows.F.plain_set_update_loop _,next (i+1) _ (by omega) (Wk.frame _ st' _ _ hs' tt fun b hb o e=>?_) now fun st2 mv2 hset2=>fin st2 (Moved.trans Wk.gtrans ((mv.mono more).then_heap tt fun b o hb e=>?_) mv2) hset2⟩
  ·rw[same.2 b fun z=>off (z ▸ hb)];exact e
  ·rw[same.2 b fun z=>hb (z ▸ List.mem_cons_self)];exact e
end
abbrev Qep(led:Bool):Obj:={ cls:=.type "set",dict:=none,data:=.set #[] 0 (.fresh 0 0 led) }
section
variable{pg:Program}{wd:World}{ar:Around}{Ex:Value->Shared->Prop}{st:Shared}
set_option maxHeartbeats 4000000 in
theorem of_list{l:Addr}{vs:Array Value}{f:Nat->Str}{Q:Value->Shared->Prop}(nh:ar.handled=none)(isl:st.heap.IsList l vs)(txt:∀ i v,vs[i]?=some v->∃ t,v=Value.str (f i) t)(few:vs.size+1<scanBound)
 (goal:∀(hp:Heap)(tk:Nat),hp.SetOf (strKind pg wd) st.heap.objs.size (isIn f vs.size) (met f vs.size).length->(∀ b o,b<st.heap.objs.size->st.heap.get? b=some o->hp.get? b=some o)->Q (.ref st.heap.objs.size) { st with heap:=hp,toks:=tk }):
 wpAny (model pg wd) ar (call (.type "set") [.ref l]) Q Ex st:=by
 have made:=PySem.F.called_set.made
 have sub:=PySem.F.called_set.sub
 have nt:=PySem.F.called_set.notType
 have cc:=PySem.F.called_set.canCreate
 have tc:=PySem.F.typeCall_set_1 (.ref l)
 obtain⟨c1,c2,mro⟩:=PySem.F.called_set.mro
 refine wpAny_call (codeAny_of_tree ?_)
 show wpAny (model pg wd) _ (callAny (.type "set") ⟨[.ref l],[]⟩) _ _ st
 refine wpAny_pure ⟨Code.quiet_builtin _ (dk),codeAny_builtin F.entry_type_call ?_⟩
 rw[Around.under_plain (weight_type_call_type "set" [.ref l] []) rfl]
 repeat (any_goals (first | assumption | wp_step))
 let mid:Shared->Prop:=fun s2=>∃ hp tk,s2={ st with heap:=hp,toks:=tk }/\hp.SetOf (strKind pg wd) st.heap.objs.size (isIn f vs.size) (met f vs.size).length/\∀ b o,b<st.heap.objs.size->st.heap.get? b=some o->hp.get? b=some o
 refine codeAny_mono (code_set_new_1 (.ref l) (E:=Ex) (Q₁:=fun v s1=>∃ led,v=.ref st.heap.objs.size/\s1={ st with heap:=st.heap.push (Qep led) }) fun led=>⟨led,rfl,rfl⟩) fun r1 s1 h1=>?_
 cases r1 with
 | error _=>exact h1
 | ok fl1=>
  cases fl1 with
  | ret v1=>
   obtain⟨led,rfl,rfl⟩:=h1
   have at1:(st.heap.push (Qep led)).get? st.heap.objs.size=some (Qep led):=Heap.get?_push_size _ rfl
   have ty1:Shared.TypeIs { st with heap:=st.heap.push (Qep led) } (.ref st.heap.objs.size) "set":=⟨_,at1,rfl⟩
   have lk:=PySem.F.called_set.init.lookup
   have bd:=PySem.F.called_set.init.bind (.ref st.heap.objs.size)
   repeat (any_goals (first | assumption | wp_step))
   refine codeAny_mono (codeAny_call_builtin (R:=wants (fun v s2=>v=.none/\mid s2) Ex) PySem.F.called_set.init.plain F.entry_set_init (check_set_init_1 ty1 ?_)) fun r2 s2 h2=>?_
   ·obtain⟨⟨oc,od,dt,os⟩,hol,e1,nl,e2⟩:=isl
    obtain rfl:oc=.type "list":=e1
    obtain rfl:dt=.seq vs nl:=e2
    have hol1:(st.heap.push (Qep led)).get? l=some ⟨.type "list",od,.seq vs nl,os⟩:=Heap.get?_push_of_some _ hol
    have isl1:(st.heap.push (Qep led)).IsList l vs:=⟨_,hol1,rfl,nl,rfl⟩
    have n1:=PySem.F.sub_list_set
    have n2:=PySem.F.sub_list_frozenset
    have n3:(Value.type "list" == Value.type "dict")=false:=by decide
    have lt : @LT.lt Nat _ l st.heap.objs.size:=Heap.lt_size hol
    have sz:=Heap.size_push st.heap (Qep led)
    unfold Builtin.«set.__init__» noKeywords Builtin.Frozenset.updateFrom
    generalize keep:pyIter=ITER
    wp_walk
    subst keep
    refine wpAny_pyIter_list isl1 (wpAny_bind (wpAny_runValue ?_))
    have off:st.heap.objs.size∉[(st.heap.push (Qep led)).objs.size,l]:=by
     rw[sz]
     intro z
     rcases List.mem_cons.mp z with z | z
     ·exact Nat.ne_of_lt (Nat.lt_succ_self _) z
     ·exact Nat.ne_of_gt lt (List.mem_singleton.mp z)
    have off2:l≠(st.heap.push (Qep led)).objs.size:=by rw[sz];exact Nat.ne_of_lt (Nat.lt_succ_of_lt lt)
    refine fill ((Walks.list (by simp[nh]) _ l off2 vs).toS) off txt few vs.size 0 _ (Nat.zero_add _) ⟨⟨_,Heap.get?_push_size _ rfl,rfl,rfl⟩,isl1.push _⟩ ?_ fun s3 mv hs3=>?_
    ·exact QKl ((setObjOf_fresh (knd:=strKind pg wd) led).setOf (Heap.get?_push_of_some _ at1) (by unfold scanBound;omega)) (funext fun y=>by simp[isIn,met]) rfl
    ·obtain⟨hp3,g3,d3,tk3,os3⟩:=s3
     obtain rfl:g3=st.gens:=mv.gens
     obtain rfl:d3=st.drawn:=mv.drawn
     obtain rfl:os3=st.os:=mv.os
     refine wpAny_pure (wpAny_pure ⟨rfl,hp3,tk3,rfl,hs3,fun b o hb e=>?_⟩)
     refine mv.heap b o (fun z=>?_) (Heap.get?_push_of_some _ (Heap.get?_push_of_some _ e))
     rw[sz]at z
     rcases List.mem_cons.mp z with z | z
     ·exact Nat.ne_of_lt hb z
     ·rcases List.mem_cons.mp z with z | z
      ·exact Nat.ne_of_lt (Nat.lt_succ_of_lt hb) z
      ·exact absurd z List.not_mem_nil
   ·cases r2 with
    | error _=>exact h2
    | ok fl2=>
     cases fl2 with
     | ret v2=>
      obtain⟨rfl,hp,tk,rfl,hs2,kp⟩:=h2
      repeat (any_goals (first | assumption | wp_step))
      exact goal hp tk hs2 kp
     | _=>exact h2.elim
  | _=>exact h1.elim
end
end LS
namespace DL
open PySem PySem.Spec PyProof.Rows L2
def dkey:D->Option Key
 | .int i=>some (.inl i)
 | .str x=>some (.inr x)
 | _=>none
def valD(kds:List (Key×D))(k:Key):Option D:=(kds.find? fun kv=>decide (kv.1=k)).map (·.2)
def putKD(kds:List (Key×D))(k:Key)(d:D):List (Key×D):=
 if (kds.any fun kv=>decide (kv.1=k))=true then kds.map (fun kv=>if kv.1=k then(kv.1,d) else kv) else kds++[(k,d)]
section
variable{K:PySem.W.Frag}{CT:CTab}{H:Hp}
theorem Qug{d:D}{v:V}{k:Key}(h:dkey d=some k)(r:Rep K CT H d v):v=kV k:=by
 cases d with
 | int i=>cases h;exact r
 | str x=>cases h;exact r
 | _=>cases h
theorem RepK.len:∀{ds:List (Key×D)}{vs:List (Key×V)},RepK K CT H ds vs->ds.length=vs.length
 | [],_,h=>by cases h;rfl
 | (k,d)::ds,_,⟨v,r,h1,h2,h3⟩=>by rw[h1,List.length_cons,List.length_cons,RepK.len h3]
theorem RepK.val(k:Key):∀{ds:List (Key×D)}{vs:List (Key×V)},RepK K CT H ds vs->(valD ds k=none/\valV vs k=none)∨∃ d v,valD ds k=some d/\valV vs k=some v/\Rep K CT H d v
 | [],_,h=>by cases h;exact .inl ⟨rfl,rfl⟩
 | (k',d)::ds,_,⟨v,r,h1,h2,h3⟩=>by
  subst h1
  by_cases e:k'=k
  ·subst e
   exact .inr ⟨d,v,by simp[valD],by simp[valV],h2⟩
  ·have a:valD ((k',d)::ds) k=valD ds k:=by simp[valD,List.find?_cons,e]
   have b:valV ((k',v)::r) k=valV r k:=by simp[valV,List.find?_cons,e]
   rw[a,b];exact RepK.val k h3
theorem RepK.any(k:Key):∀{ds:List (Key×D)}{vs:List (Key×V)},RepK K CT H ds vs->(ds.any fun kv=>decide (kv.1=k))=vs.any fun kv=>decide (kv.1=k)
 | [],_,h=>by cases h;rfl
 | (k',d)::ds,_,⟨v,r,h1,h2,h3⟩=>by
  subst h1
  rw[List.any_cons,List.any_cons,RepK.any k h3]
theorem RepK.repl(k:Key){d:D}{v:V}(hd:Rep K CT H d v):∀{ds:List (Key×D)}{vs:List (Key×V)},RepK K CT H ds vs->RepK K CT H (ds.map fun kv=>if kv.1=k then(kv.1,d) else kv) (vs.map fun kv=>if kv.1=k then(kv.1,v) else kv)
 | [],_,h=>by cases h;rfl
 | (k',d')::ds,_,⟨v',r,h1,h2,h3⟩=>by
  subst h1
  rw[List.map_cons,List.map_cons]
  by_cases e:k'=k
  ·rw[if_pos (show(k',d').1=k from e),if_pos (show(k',v').1=k from e)]
   exact⟨v,_,rfl,hd,RepK.repl k hd h3⟩
  ·rw[if_neg (show ¬ (k',d').1=k from e),if_neg (show ¬ (k',v').1=k from e)]
   exact⟨v',_,rfl,h2,RepK.repl k hd h3⟩
theorem RepK.snoc(k:Key){d:D}{v:V}(hd:Rep K CT H d v):∀{ds:List (Key×D)}{vs:List (Key×V)},RepK K CT H ds vs->RepK K CT H (ds++[(k,d)]) (vs++[(k,v)])
 | [],_,h=>by cases h;exact⟨v,[],rfl,hd,rfl⟩
 | (k',d')::ds,_,⟨v',r,h1,h2,h3⟩=>by
  subst h1
  exact⟨v',_,rfl,h2,RepK.snoc k hd h3⟩
theorem RepK.put(k:Key){d:D}{v:V}(hd:Rep K CT H d v){ds:List (Key×D)}{vs:List (Key×V)}(h:RepK K CT H ds vs):RepK K CT H (putKD ds k d) (putK vs k v):=by
 unfold putKD putK
 rw[RepK.any k h]
 split
 ·exact RepK.repl k hd h
 ·exact RepK.snoc k hd h
end
def eDix(A B:SD->Out D):SD->Out D:=fun ς=>A ς>>=fun x=>match x with
 | .dic kds=>B ς>>=fun y=>match dkey y with | some k=>optO (valD kds k) | none=>.stuck
 | _=>.stuck
def eDget(A B:SD->Out D):SD->Out D:=fun ς=>A ς>>=fun x=>match x with
 | .dic kds=>B ς>>=fun y=>match dkey y with | some k=>.ok ((valD kds k).getD .non) | none=>.stuck
 | _=>.stuck
def sPutD(i:Nat)(I E:SD->Out D):SD->Out Fl:=fun ς=>E ς>>=fun d=>match ς[i]? with
 | some (some (.o,.dic kds))=>I ς>>=fun y=>match dkey y with
  | some k=>if decide (kds.length<sizeLine)=true then .ok (.nx (ς.set i (some (.o,.dic (putKD kds k d))))) else .stuck
  | none=>.stuck
 | _=>.stuck
section
variable{C:Dc}{a b c:Expr}{A B Z:SD->Out D}{pos apos:Pos}
theorem QPG(hu:C.X.A.units+64<cLine)(ha:DE C a A)(hb:DB C b B)(hs:NoSl b:=by intro _ _;rfl):DE C (.Subscript a b pos) (eDix A B):=by
 obtain⟨ta,p1,q1⟩:=ha
 obtain⟨tb,p2,q2⟩:=hb
 refine⟨_,QNk (by omega) p1 p2 hs,fun G H σ ς Q S q=>?_⟩
 unfold eDix at q
 rw[Out.post_bind]at q
 refine q1 G H σ ς _ S (Out.post_mono q fun x k v1 H1 G1 S1 a1 b1 r1=>?_)
 cases x with
 | dic kds=>
  have k:(B ς>>=fun y=>match dkey y with | some k=>optO (valD kds k) | none=>.stuck).post (KD C G H σ ς Q) C.XD:=k
  rw[Out.post_bind]at k
  refine q2 G1 H1 σ ς _ S1 (Out.post_mono k fun y k2 v2 H2 G2 S2 a2 b2 r2=>?_)
  cases e:dkey y with
  | none=>rw[e]at k2;exact k2.elim
  | some kk=>
   rw[e]at k2
   obtain⟨d,ed,kd⟩:=QcK k2
   obtain⟨p,kvs,rfl,h2,h3⟩:=Rep.mono b2 _ v1 r1
   rcases RepK.val kk h3 with⟨n1,n2⟩ | ⟨d',v,n1,n2,r⟩
   ·rw[n1]at ed;cases ed
   ·rw[n1]at ed;cases ed
    exact⟨p,v,rfl,.inl ⟨kvs,kk,Same.rd S2.sub h2,Qug e r2,n2.symm⟩,KD.now (KD.later kd (a1.trans a2) (b1.trans b2)) S2 r⟩
 | _=>exact k.elim
theorem QNr{K:PySem.W.Frag}{CT:CTab}{H:Hp}:Rep K CT H .non .non:=rfl
theorem QM7(hu:C.X.A.units+64<cLine)(ha:DE C a A)(hb:DB C b B)
 (hbase:attributeBase a "get" C.X.env (eval a C.X.env)=eval a C.X.env:=by rfl)
 (hfew:((backTo pos (starEach [b] C.X.env)).all (fun x => !x.1)&&(backToKw pos (keywordEach [] C.X.env)).all (fun x=>x.1.isSome)
  && decide (([b]:List Expr).length+([]:List Keyword).length+(if ([]:List Keyword).isEmpty then 0 else 1)<30))=true:=by rfl)
 (hline:(apos.endLine == pos.line)=true:=by rfl) (htr:backTo pos (starEach [b] C.X.env)=[(false,eval b C.X.env)]:=by rfl):DE C (.Call (.Attribute a "get" apos) [b] [] pos) (eDget A B):=by
 obtain⟨ta,p1,q1⟩:=ha
 obtain⟨tb,p2,q2⟩:=hb
 refine⟨_,QLH (by omega) p1 p2 ⟨hbase,hfew,hline,htr⟩,fun G H σ ς Q S q=>?_⟩
 unfold eDget at q
 rw[Out.post_bind]at q
 refine q1 G H σ ς _ S (Out.post_mono q fun x k v1 H1 G1 S1 a1 b1 r1=>?_)
 cases x with
 | dic kds=>
  have k:(B ς>>=fun y=>match dkey y with | some k=>Out.ok ((valD kds k).getD .non) | none=>.stuck).post (KD C G H σ ς Q) C.XD:=k
  rw[Out.post_bind]at k
  obtain⟨p,kvs,rfl,h2,h3⟩:=r1
  refine⟨p,rfl,.inl ⟨kvs,Same.rd S1.sub h2⟩,q2 G1 H1 σ ς _ S1 (Out.post_mono k fun y k2 v2 H2 G2 S2 a2 b2 r2=>?_)⟩
  cases e:dkey y with
  | none=>rw[e]at k2;exact k2.elim
  | some kk=>
   rw[e]at k2
   have kd:KD C G H σ ς Q ((valD kds kk).getD .non):=k2
   refine⟨valV kvs kk,.inl ⟨kvs,kk,Same.rd (S1.sub.trans a2) h2,Qug e r2,rfl⟩,?_⟩
   rcases RepK.val kk (RepK.mono b2 kds kvs h3) with⟨n1,n2⟩ | ⟨d',v,n1,n2,r⟩
   ·rw[n1]at kd;rw[n2];exact KD.now (KD.later kd (a1.trans a2) (b1.trans b2)) S2 QNr
   ·rw[n1]at kd;rw[n2];exact KD.now (KD.later kd (a1.trans a2) (b1.trans b2)) S2 r
 | _=>exact k.elim
theorem StR.writeD{G H:Hp}{σ:St}{ς:SD}(S:StR C G H σ ς){i:Nat}{p:Addr}{xs ys:List (Key×D)}{vs ws:List (Key×V)}(hi:ς[i]?=some (some (.o,.dic xs)))(hp:σ[i]?=some (some (.ref p)))(hH:H p=some (.dK vs))(r:RepK C.X.K C.CT G ys ws):
 StR C G (upd H p (.dK ws)) σ (ς.set i (some (.o,.dic ys))):=by
 obtain⟨p',e1,hg,h0,ow⟩:=S.ow i _ hi
 rw[hp]at e1;cases e1
 have hil:i<ς.length:=(List.getElem?_eq_some_iff.mp hi).1
 have ne:∀ b o,G b=some o->b≠p:=fun b o e z=>by subst z;rw[hg]at e;cases e
 have S':StR C G (upd H p (.dK ws)) (σ.set i (some (.ref p))) (ς.set i (some (.o,.dic ys))):={
  sub:=fun b o e=>by rw[Qk (ne b o e)];exact S.sub b o e
  g0:=S.g0
  new:=S.new
  fr:=fun b o e m=>by
   rw[Qk (by rintro rfl;rw[h0]at e;cases e)];exact S.fr b o e m
  dom:=fun b e=>by
   by_cases hb:b=p
   ·subst hb;exact h0
   ·rw[Qk hb]at e;exact S.dom b e
  bs:=fun b o e=>by
   rw[Qk (by rintro rfl;rw[S.bh _ h0]at e;cases e)];exact S.bs b o e
  bh:=S.bh
  len:=by rw[List.length_set,List.length_set];exact S.len
  fz:=fun j d h=>by
   rcases QK h with⟨rfl,h2,l⟩ | ⟨hne,h2⟩
   ·cases h2
   ·rw[Qt hne];exact S.fz j d h2
  ow:=fun j d h=>by
   rcases QK h with⟨rfl,h2,l⟩ | ⟨hne,h2⟩
   ·cases h2
    exact⟨p,Qg1 (by rw[S.len];exact l),hg,h0,⟨ws,QS,r⟩⟩
   ·rw[Qt hne]
    obtain⟨q,a,b,c,w⟩:=S.ow j d h2
    have qp:q≠p:=by
     rintro rfl
     exact S.inj i j _ _ q hne hi h2 hp a
    exact⟨q,a,b,c,w.mono (Same.refl G) fun o z=>by rw[Qk qp];exact z⟩
  ln:=fun j d h=>by
   rcases QK h with⟨rfl,h2,l⟩ | ⟨hne,h2⟩
   ·cases h2
   ·rw[Qt hne];exact S.ln j d h2
  inj:=fun j k d1 d2 q hjk h1 h2 h3=>by
   have get:∀(j:Nat) d,(ς.set i (some (.o,D.dic ys)))[j]?=some (some (.o,d))->∃ d',ς[j]?=some (some (.o,d')):=fun j d h=>by
    rcases QK h with⟨rfl,h2,l⟩ | ⟨hne,h2⟩
    ·exact⟨_,hi⟩
    ·exact⟨_,h2⟩
   obtain⟨d1',g1⟩:=get j d1 h1
   obtain⟨d2',g2⟩:=get k d2 h2
   rw[Qii hp]at h3 ⊢
   exact S.inj j k d1' d2' q hjk g1 g2 h3
  sf:=fun j d h=>by
   rcases QK h with⟨rfl,h2,l⟩ | ⟨hne,h2⟩
   ·cases h2
   ·rw[Qt hne]
    obtain⟨q,a,b,c,m,z,w⟩:=S.sf j d h2
    have qp:q≠p:=by
     rintro rfl
     exact c h0
    exact⟨q,a,b,c,m,z,w.mono (Same.refl G) fun o z=>by rw[Qk qp];exact z⟩
  su:=fun j k d1 d2 q hjk h1 h2 h3=>by
   rcases QK h1 with⟨rfl,q1,l⟩ | ⟨n1,q1⟩
   ·cases q1
   ·rcases QK h2 with⟨rfl,q2,l⟩ | ⟨n2,q2⟩
    ·cases q2
    ·rw[Qt n1]at h3
     rw[Qt n2];exact S.su j k d1 d2 q hjk q1 q2 h3 }
 rw[Qii hp]at S'
 exact S'
variable{e:Expr}{E:SD->Out D}{p1 p2:Pos}{x:Str}
theorem QGR(hu:C.X.A.units+64<cLine)(i:Nat)(hi:DB C a A)(he:DE C e E)(hN:C.X.N[i]?=some x:=by rfl)(hv:Vis C.X.env.scope x:=by first | exact Or.inl rfl | exact Or.inr (Or.inl rfl) | exact Or.inr (Or.inr rfl))
 (hd:(x == ("__debug__":Str))=false:=by decide) (hcd:(x == ("__classdict__":Str))=false:=by decide)
 (hs:swapsWith e (some (.Subscript (.Name x p1) a p2)) pos.line C.X.env=pure false:=by rfl):DS C (.Assign [.Subscript (.Name x p1) a p2] e pos) (sPutD i A E):=by
 obtain⟨t,p,q⟩:=he
 obtain⟨t2,p2',q2⟩:=hi
 refine⟨_,QNA (by omega) (QeF (i:=i) hN hv hd hcd) p2' p hs,fun G H σ ς W S k=>?_⟩
 unfold sPutD at k
 rw[Out.post_bind]at k
 refine q G H σ ς _ S (Out.post_mono k fun d k v H1 G1 S1 a1 b1 r1=>?_)
 split at k
 ·rename_i kds z
  obtain⟨pp,e1,hg,h0,ow⟩:=S1.ow i _ z
  rw[Out.post_bind]at k
  refine⟨_,e1,q2 G1 H1 σ ς _ S1 (Out.post_mono k fun y k2 w H2 G2 S2 a2 b2 r2=>?_)⟩
  cases ey:dkey y with
  | none=>rw[ey]at k2;exact k2.elim
  | some kk=>
   rw[ey]at k2
   obtain⟨pp',e1',hg',h0',kvs,hv1,hv2⟩:=S2.ow i _ z
   rw[e1]at e1';cases e1'
   rcases QR k2 with⟨hc,k3⟩ | ⟨_,k3⟩
   ·refine⟨pp,_,rfl,.inl ⟨kvs,kk,hv1,Qug ey r2,by rw[← hv2.len];exact of_decide_eq_true hc,rfl⟩,?_⟩
    exact k3 σ _ G2 (S2.writeD z e1 hv1 (RepK.put kk (Rep.mono b2 d v r1) hv2)) (b1.trans b2)
   ·exact k3.elim
 ·exact k.elim
end
end DL
namespace DL
open PySem PySem.Spec PyProof.Rows L2
def QeI(xs:List Str):Nat:=(LS.met (fun i=>xs.getD i "") xs.length).length
def QMD(K:PySem.W.Frag)(te:TA):TE:=fun σ H Q=>te σ H fun vs H1=>∃ p xs,vs=[V.ref p]/\SqL K H1 p (xs.map V.str)/\xs.length<4000/\Q (.int (QeI xs)) H1
section
variable{X:Cx}{e:Expr}{te:TA}{p1 p2 p3 pos:Pos}
theorem QCJ:∀{xs:List Str}{us:List Value},Vals (xs.map V.str) us->∀(i:Nat) v,us[i]?=some v->∃ t,v=.str (xs.getD i "") t
 | [],_,h,i,v,hv=>by cases h;simp at hv
 | x::xs,_,h,i,v,hv=>by
  cases h with
  | cons hx hr=>
   cases i with
   | zero=>
    obtain⟨t,ht⟩:=hx
    refine⟨t,?_⟩
    simp at hv
    rw[← hv,ht];rfl
   | succ i=>
    have:=QCJ hr i v (by simpa using hv)
    simpa using this
theorem QJ6(hh:X.A.handled=none)(gl:Gl X "len")(ml:X.mg "len"=none)(gs:Gl X "set")(ms:X.mg "set"=none)(he:PA X [e] te)
 (h1:starEach [e] X.env=(false,eval e X.env)::starEach [] X.env:=by rfl)
 (h2:starEach [.Call (.Name "set" p2) [e] [] p3] X.env=(false,eval (.Call (.Name "set" p2) [e] [] p3) X.env)::starEach [] X.env:=by rfl)
 (h3:backTo pos (starEach [.Call (.Name "set" p2) [e] [] p3] X.env)=[(false,eval (.Call (.Name "set" p2) [e] [] p3) X.env)]:=by rfl):
 PE X (.Call (.Name "len" p1) [.Call (.Name "set" p2) [e] [] p3] [] pos) (QMD X.K te):=by
 intro pins s σ H Q I h
 have inner:wpAny (model X.prog X.w) X.A (eval (.Call (.Name "set" p2) [e] [] p3) X.env) (fun u s'=>∃ D H1 xs,u=.ref D/\Inv X pins σ H1 s'/\s'.heap.SetOf (strKind X.prog X.w) D (LS.isIn (fun i=>xs.getD i "") xs.length) (QeI xs)/\QeI xs<4000/\Q (.int (QeI xs)) H1) X.xe s:=by
  refine wpAny_Call_Name_kw (Qhb I gs ms PyProof.Rows.Boot.«set» ?_ (by decide) (by decide))
  refine PyProof.Rows.callWith_type1 (thn (he p3 pins s σ H _ I h) fun us s1 ⟨vs,H1,I1,r1,p,xs,ev,sq,few,q⟩=>?_) h1 rfl
  ·subst ev
   obtain⟨u,rfl,rx⟩:=vals1 r1
   cases rx
   obtain⟨its,rv,pl,hz⟩:=I1.list sq
   have hl:=rv.length
   rw[List.length_map]at hl
   have le:=LS.met_le (fun i=>xs.getD i "") xs.length
   refine LS.of_list hh pl.isList (f:=fun i=>xs.getD i "") (fun i v hv=>QCJ rv i v (by simpa using hv)) (by rw[List.size_toArray, ← hl];unfold scanBound;omega) fun hp tk hs kp=>?_
   have sz:its.toArray.size=xs.length:=by rw[List.size_toArray];omega
   rw[sz]at hs
   exact⟨_,H1,xs,rfl,I1.kept fun b o eb=>kp b o (Heap.lt_size eb) eb,hs,by unfold QeI;omega,q⟩
 refine wpAny_Call_Name_kw (Qhb I gl ml PySem.boot_len ?_ (by decide) (by decide))
 refine PyProof.Rows.callWith_builtin1 ?_ h2 rfl
 rw[h3]
 refine Calls.spliced_cons (thn inner fun u s1 ⟨D,H1,xs,eu,I1,hs,few,q⟩=>Calls.spliced_nil ?_)
 subst eu
 obtain⟨o,es,ep,t,ho,hex,hd,hel,hmem,hb,hf,hn⟩:=hs
 refine call_len_set ho hex hd hf (by rw[hn];omega) ?_
 rw[hn]
 exact⟨.int (QeI xs),H1,(I1.tok _).tok _,⟨_,rfl⟩,q⟩
end
def strsD:List D->Option (List Str)
 | []=>some []
 | .str x::ds=>(strsD ds).map (x :: ·)
 | _::_=>none
theorem QCG{K:PySem.W.Frag}{CT:CTab}{H:Hp}:∀{ds:List D}{vs:List V}{xs:List Str},strsD ds=some xs->RepL K CT H ds vs->vs=xs.map V.str
 | [],_,_,h,r=>by cases h;cases r;rfl
 | d::ds,_,xs,h,⟨v,r,h1,h2,h3⟩=>by
  cases d with
  | str x=>
   obtain⟨ys,hy,rfl⟩:=Option.map_eq_some_iff.mp (show(strsD ds).map (x :: ·)=some xs from h)
   rw[h1,QCG hy h3,show v=V.str x from h2];rfl
  | _=>cases h
def QwW:D->Out D
 | .lst ds=>match strsD ds with
  | some xs=>if decide (xs.length<4000)=true then .ok (.int (QeI xs)) else .stuck
  | none=>.stuck
 | _=>.stuck
section
variable{C:Dc}{a:Expr}{A:SD->Out D}{p1 p2 p3 pos:Pos}
theorem QJu(hh:C.X.A.handled=none)(gl:Gl C.X "len")(ml:C.X.mg "len"=none)(gs:Gl C.X "set")(ms:C.X.mg "set"=none)(ha:DB C a A)
 (h1:starEach [a] C.X.env=(false,eval a C.X.env)::starEach [] C.X.env:=by rfl)
 (h2:starEach [.Call (.Name "set" p2) [a] [] p3] C.X.env=(false,eval (.Call (.Name "set" p2) [a] [] p3) C.X.env)::starEach [] C.X.env:=by rfl)
 (h3:backTo pos (starEach [.Call (.Name "set" p2) [a] [] p3] C.X.env)=[(false,eval (.Call (.Name "set" p2) [a] [] p3) C.X.env)]:=by rfl):
 DE C (.Call (.Name "len" p1) [.Call (.Name "set" p2) [a] [] p3] [] pos) (e1 QwW A):=by
 obtain⟨ta,q1,q2⟩:=ha
 refine⟨_,QJ6 hh gl ml gs ms (QaS q1 Qc9 h1) h1 h2 h3,fun G H σ ς Q S q=>?_⟩
 unfold e1 at q
 rw[Out.post_bind]at q
 refine q2 G H σ ς _ S (Out.post_mono q fun x k v1 H1 G1 S1 a1 b1 r1=>?_)
 cases x with
 | lst ds=>
  obtain⟨p,vs,rfl,sq,r⟩:=r1
  have k:(match strsD ds with | some xs=>if decide (xs.length<4000)=true then Out.ok (D.int (QeI xs)) else .stuck | none=>.stuck).post (KD C G H σ ς Q) C.XD:=k
  cases es:strsD ds with
  | none=>rw[es]at k;exact k.elim
  | some xs=>
   rw[es]at k
   have ev:=QCG es r
   subst ev
   rcases QR k with⟨hc,kd⟩ | ⟨_,kd⟩
   ·exact⟨p,xs,rfl,sq,of_decide_eq_true hc,KD.now (KD.later (show KD C G H σ ς Q (.int (QeI xs)) from kd) a1 b1) S1 rfl⟩
   ·exact kd.elim
 | _=>exact k.elim
end
end DL
namespace DL
open PySem PySem.Spec PyProof.Rows L2
def tVs(vs:List V):TA:=fun _ H Q=>Q vs H
def anyT:List (List (Str×Bool))->Str->Option Bool
 | [],_=>some false
 | t::ts,c=>match t.lookup c with
  | some true=>some true
  | some false=>anyT ts c
  | none=>none
def KitsT(K:PySem.W.Frag)(CT:CTab):List Value->List (List (Str×Bool))->Prop
 | [],[]=>True
 | u::us,t::ts=>KitI K CT u t/\KitsT K CT us ts
 | _,_=>False
theorem QC1{K:PySem.W.Frag}{CT:CTab}{c:Str}{A:Addr}(hA:CT c=some A):∀{us:List Value}{ts:List (List (Str×Bool))}{b:Bool},KitsT K CT us ts->anyT ts c=some b->PySem.W.kitAny K (.ref A) us=some b
 | [],[],b,_,h=>h
 | u::us,t::ts,b,⟨h1,h2⟩,h=>by
  unfold anyT at h
  unfold PySem.W.kitAny
  cases e:t.lookup c with
  | none=>rw[e]at h;cases h
  | some z=>
   rw[(h1 c z e A hA).2]
   rw[e]at h
   cases z with
   | true=>exact h
   | false=>exact QC1 hA h2 h
theorem QMi{K:PySem.W.Frag}{CT:CTab}{c:Str}{A:Addr}(hA:CT c=some A){u:Value}{us:List Value}{t:List (Str×Bool)}{ts:List (List (Str×Bool))}{b:Bool}(h:KitsT K CT (u::us) (t::ts))(e:anyT (t::ts) c=some b):ClsD K A:=by
 unfold anyT at e
 cases q:t.lookup c with
 | none=>rw[q]at e;cases e
 | some z=>exact(h.1 c z q A hA).1
def isaTs(ts:List (List (Str×Bool))):D->Out Bool
 | .ins c _=>match anyT ts c with | some b=>.ok b | none=>.stuck
 | _=>.stuck
section
variable{C:Dc}{e:Expr}{E:SD->Out D}{p pos tp1:Pos}{cs:List Expr}
theorem QMS{X:Cx}:PA X [] (tVs []):=Qc9
theorem Qp4{X:Cx}{e:Expr}{es:List Expr}{v:V}{vs:List V}(h:PE X e (tC v))(r:PA X es (tVs vs))(he:starEach (e::es) X.env=(false,eval e X.env)::starEach es X.env:=by rfl):PA X (e::es) (tVs (v::vs)):=QaS h r he
theorem QA6:∀{as:List Addr}{us:List Value},Vals (as.map V.ref) us->us=as.map Value.ref
 | [],_,h=>by cases h;rfl
 | a::as,_,h=>by
  cases h with
  | cons h1 h2=>rw[QA6 h2,show _=Value.ref a from h1];rfl
theorem QM8{x1}{a:Addr}{as:List Addr}{t:List (Str×Bool)}{ts:List (List (Str×Bool))}(hc:PA C.X cs (tVs ((a::as).map V.ref)))(hk:KitsT C.X.K C.CT ((a::as).map Value.ref) (t::ts))(hz:(a::as).length<=20)(hg:Gl C.X "isinstance")(hm:C.X.mg "isinstance"=none)(h:DB C e E)
 (he:starEach (e::[.Tuple cs x1 tp1]) C.X.env=(false,eval e C.X.env)::starEach [.Tuple cs x1 tp1] C.X.env:=by rfl) (he2:starEach (.Tuple cs x1 tp1::[]) C.X.env=(false,eval (.Tuple cs x1 tp1) C.X.env)::starEach [] C.X.env:=by rfl)
 (hpl:(backTo pos (starEach [.Tuple cs x1 tp1] C.X.env)).any (·.1)=false:=by rfl):DE C (.Call (.Name "isinstance" p) [e,.Tuple cs x1 tp1] [] pos) (eIsa (isaTs (t::ts)) E):=by
 obtain⟨te,p1,q1⟩:=h
 have hR:CallR C.X (.builtin "isinstance") (fun xs H Q=>∃ c fs x tp b,xs=[x,V.ref tp]/\Rep C.X.K C.CT H (.ins c fs) x/\H tp=some (.tup ((a::as).map V.ref))/\anyT (t::ts) c=some b/\Q (.bl b) H):=by
  intro pins s σ H xs us Q I r hq
  obtain⟨c,fs,x,tp,b,rfl,h1,h2,h3,q⟩:=hq
  obtain⟨u,w,rfl,r1,r2⟩:=vals2 r
  obtain rfl:w=Value.ref tp:=r2
  obtain⟨p',A',dx,fs',rfl,g1,g2,_⟩:=h1
  obtain rfl:u=Value.ref p':=r1
  have cd:=QMi g1 hk h3
  obtain⟨mA,O,_⟩:=Qo8 I.hok g2
  obtain⟨od,J,_⟩:=O.look
  obtain⟨_,its,rv,pt⟩:=(show ObjOk C.X.prog C.X.w H s.heap tp (.tup ((a::as).map V.ref)) from I.hok tp _ h2)
  obtain⟨⟨oc,odd,odt,osl⟩,ho,hcl,nn,hd⟩:=pt
  obtain rfl:oc=.type "tuple":=hcl
  obtain rfl:odt=.seq its.toArray nn:=hd
  obtain rfl:=QA6 rv
  exact PySem.W.kia_tup (PySem.W.kitx_own (cd.cl.get _) cd.cl.hd cd.ha cd.hn cd.htk cd.hm) I.kIn J ho (QC1 g1 hk h3) (fun z=>nomatch z) fun tk=>⟨.bl b,H,I.tok _,rfl,q⟩
 refine⟨_,QuD hR hg hm PyProof.Rows.Boot.«isinstance» (QaS p1 (QaS (QJM hc) Qc9 he2) he) (by decide) (by decide) he hpl,fun G H σ ς Q S q=>?_⟩
 unfold eIsa at q
 rw[Out.post_bind]at q
 refine q1 G H σ ς _ S (Out.post_mono q fun d k v1 H1 G1 S1 a1 b1 r1=>?_)
 rw[Out.post_bind]at k
 cases d with
 | ins c fs=>
  cases ea:anyT (t::ts) c with
  | none=>
   have hs:isaTs (t::ts) (D.ins c fs)=.stuck:=by show(match anyT (t::ts) c with | some b=>Out.ok b | none=>Out.stuck)=_;rw[ea]
   rw[hs]at k;exact k.elim
  | some b=>
   have hs:isaTs (t::ts) (D.ins c fs)=.ok b:=by show(match anyT (t::ts) c with | some b=>Out.ok b | none=>Out.stuck)=_;rw[ea]
   rw[hs]at k
   refine⟨by rw[List.length_map];exact Nat.le_trans hz (by decide),fun tp htp=>?_⟩
   have S2:=S1.allocO (o:=.tup ((a::as).map V.ref)) htp
   exact⟨c,fs,v1,tp,b,rfl,Rep.mono (QE htp) _ v1 r1,QS,ea,KD.now (KD.later (show KD C G H σ ς Q (.bl b) from k) (a1.trans (QE htp)) b1) S2 rfl⟩
 | _=>exact k.elim
end
end DL
namespace DL
open PySem PySem.Spec PyProof.Rows L2
theorem QBi{K:PySem.W.Frag}{CT:CTab}{H:Hp}{d:D}{v:V}(h:d.scal=true)(r:Rep K CT H d v):v=toV d:=by
 cases d with
 | non=>exact r
 | bl b=>exact r
 | int i=>exact r
 | str x=>exact r
 | _=>cases h
theorem QyO{K:PySem.W.Frag}{CT:CTab}{H:Hp}:∀{ds:List D}{vs:List V},ds.all D.scal=true->RepL K CT H ds vs->vs=ds.map toV
 | [],_,_,r=>by cases r;rfl
 | d::ds,_,h,⟨v,r,h1,h2,h3⟩=>by
  rw[List.all_cons,Bool.and_eq_true]at h
  rw[h1,QBi h.1 h2,QyO h.2 h3];rfl
theorem Qy7{d:D}(h:d.scal=true):flatV (toV d)=true:=by
 cases d with
 | non=>rfl
 | bl b=>rfl
 | int i=>rfl
 | str x=>rfl
 | _=>cases h
theorem Qvx:∀{ds:List D},ds.all D.scal=true->(ds.map toV).all flatV=true
 | [],_=>rfl
 | d::ds,h=>by
  rw[List.all_cons,Bool.and_eq_true]at h
  rw[List.map_cons,List.all_cons,Qy7 h.1,Qvx h.2];rfl
def dInL:D->D->Out D
 | x,.lst ds=>if (x.scal&&ds.all D.scal)=true then .ok (.bl (inV (toV x) (ds.map toV))) else .stuck
 | _,_=>.stuck
section
variable{C:Dc}{a b:Expr}{A B:SD->Out D}{pos:Pos}
theorem QMG:DRS C (rIn C.X.K false) dInL:=by
 intro G H σ ς Q x y vx vy S hx hy q
 cases y with
 | lst ds=>
  have q:(if (x.scal&&ds.all D.scal)=true then Out.ok (D.bl (inV (toV x) (ds.map toV))) else .stuck).post _ _:=q
  rcases QR q with⟨hc,q⟩ | ⟨_,q⟩
  ·rw[Bool.and_eq_true]at hc
   obtain⟨p,vs,rfl,h2,h3⟩:=hy
   have e1:=QBi hc.1 hx
   have e2:=QyO hc.2 h3
   subst e1;subst e2
   exact⟨p,_,rfl,.inl h2,Qy7 hc.1,Qvx hc.2,q.2⟩
  ·exact q.elim
 | _=>exact q.elim
theorem QLS:scal2 dInL:=fun x y=>by
 cases y with
 | lst ds=>
  show match (if (x.scal&&ds.all D.scal)=true then Out.ok (D.bl (inV (toV x) (ds.map toV))) else .stuck) with | .ok d=>d.scal=true | .exc _=>False | .stuck=>True
  split<;>rename_i h<;>(split at h<;>cases h)<;>first | rfl | trivial
 | _=>exact True.intro
theorem QJW(ha:DB C a A)(hb:DB C b B)(hm:behindInMarks .In b=false:=by rfl):DE C (.Compare a [.In] [b] pos) (e2 dInL A B):=QoX QLb QMG QLS ha hb hm
end
end DL
namespace DL
open PySem PySem.Spec PyProof.Rows L2
section
variable{C:Dc}{a b:Expr}{A B:SD->Out D}{pos:Pos}
end
end DL
namespace DL
open PySem PySem.Spec PyProof.Rows L2
section
variable{C:Dc}{e:Expr}{E:SD->Out D}{pos p1 p2 p3:Pos}{x:Str}
end
end DL
namespace DL
open PySem PySem.Spec PyProof.Rows L2
section
variable{K:PySem.W.Frag}{CT:CTab}{G H:Hp}
end
section
variable{C:Dc}{a b:Expr}{A B:SD->Out D}{pos:Pos}
end
end DL
namespace DL
open PySem PySem.Spec PyProof.Rows L2
def frzs:List Nat->SD->SD
 | [],ς=>ς
 | i::is,ς=>frzs is (frz i ς)
theorem QG0{C:Dc}{st:Stmt}:∀(is:List Nat){T:SD->Out Fl},DS C st T->DS C st (fun ς=>T (frzs is ς))
 | [],_,h=>h
 | i::is,_,h=>Qwm i (QG0 is h)
section
variable{X:Cx}{e:Expr}{te:TA}{p1 p2 p3 pos:Pos}
end
section
variable{C:Dc}{e:Expr}{A:SD->Out (List D)}{p1 p2 p3 pos:Pos}
end
end DL
namespace DL
open PySem PySem.Spec PyProof.Rows L2
def gLst(K:PySem.W.Frag)(n:Nat)(t:TGs):TG:=fun v σ H Q=>∃ a xs,v=.ref a/\SqL K H a xs/\xs.length=n/\t xs σ H Q
theorem QN6{X:Cx}{pos:Pos}{es:List Expr}{k:Nat}{t:TGs}{n:Nat}(hc:X.calm=true)(h:PGs X es t)
 (hn:(assignEach es X.env).length=n:=by rfl) (hst:(assignEach es X.env).findIdx? (·.1)=none:=by rfl):PG X (.Tuple es k pos) (gLst X.K n t):=by
 intro pins s σ H v u Q I r hw
 obtain⟨a,xs,rfl,hq,hl,hw⟩:=hw
 cases r
 obtain⟨its,rv,ht,hz⟩:=I.list hq
 have hlen:its.length=n:=by rw[← rv.length];exact hl
 rw[assign_Tuple]
 refine wpAny_bind (wpAny_standAt (?_:wpAny (model X.prog X.w) X.A (unpack (.ref a) (assignEach es X.env)) _ _ s))
 unfold unpack
 rw[hst,hn,show n=its.toArray.size by simp[hlen]]
 refine wpAny_bind (wpAny_holding (PySem.W.kun_itemsOf (I.ok.hd hc) ht.isList fun g hg=>?_))
 exact h pins { s with heap:=g } σ H xs its Q (I.kept (t':=s.toks) fun b o e=>hg b o (Nat.ne_of_lt (Heap.lt_size e)) e) rv hw
def sUnpL(is:List Nat)(E:SD->Out D):SD->Out Fl:=fun ς=>E ς>>=fun d=>match d with
 | .lst ds=>QaB is ds ς>>=fun ς'=>.ok (.nx ς')
 | _=>.stuck
section
variable{C:Dc}{e:Expr}{E:SD->Out D}{pos:Pos}
theorem QGX{es:List Expr}{is:List Nat}{k:Nat}{pt:Pos}(hc:C.X.calm=true)(he:DE C e E)(hg:DGs C es is)(hn:(assignEach es C.X.env).length=is.length:=by rfl)(hst:(assignEach es C.X.env).findIdx? (·.1)=none:=by rfl)
 (hs:swapsWithSole [.Tuple es k pt] e pos.line C.X.env=pure false:=by rfl) (hw:swappedStores [.Tuple es k pt] e C.X.env=pure none:=by rfl)
 (h1:(assignEach [.Tuple es k pt] C.X.env).map (·.2)=[assign (.Tuple es k pt) C.X.env]:=by rfl):DS C (.Assign [.Tuple es k pt] e pos) (sUnpL is E):=by
 obtain⟨t,p,q⟩:=he
 obtain⟨t2,p2,q2⟩:=hg
 refine⟨_,QAZ p (QN6 hc p2 hn hst) hs hw h1,fun G H σ ς W S k=>?_⟩
 unfold sUnpL at k
 rw[Out.post_bind]at k
 refine q G H σ ς _ S (Out.post_mono k fun d k v H1 G1 S1 a1 b1 r1=>?_)
 cases d with
 | lst ds=>
  obtain⟨a,vs,rfl,h2,h3⟩:=r1
  have k':(QaB is ds ς>>=fun ς'=>Out.ok (Fl.nx ς')).post (FlK C G W) C.XD:=k
  rw[Out.post_bind]at k'
  cases z:QaB is ds ς with
  | exc _=>exact absurd z (QrP is ds ς _)
  | stuck=>rw[z]at k';exact k'.elim
  | ok ς'=>
   rw[z]at k'
   refine⟨a,vs,rfl,S1.sub.seq h2,by rw[← h3.length];exact Qp9 z,?_⟩
   exact q2 G1 H1 σ ς ds vs ς' _ S1 h3 z fun σ' S'=>k' σ' H1 G1 S' b1
 | _=>exact k.elim
end
end DL
namespace DL
open PySem PySem.Spec PyProof.Rows L2
section
variable{C:Dc}{o e:Expr}{es:List Expr}{O:SD->Out D}{A:SD->Out (List D)}{apos cpos:Pos}{m:Str}{id:String}{r:V->List V->Hp->VK->Prop}{f:D->List D->Out D}
end
end DL
namespace L2
open PySem PySem.Spec PyProof.Rows
section
variable{X:Cx}
end
end L2
namespace DL
open PySem PySem.Spec PyProof.Rows L2
section
variable{C:Dc}{a:Expr}{A:SD->Out D}
end
end DL
namespace DL
open PySem PySem.Spec PyProof.Rows L2
section
variable{C:Dc}{G G' H H':Hp}{σ:St}{ς ς':SD}
theorem StR.swap(S:StR C G H σ ς)(P:Addr->Prop)(hl:ς'.length=ς.length)(g1:Same G G')(h1:∀ b o,H b=some o->¬ P b->H' b=some o)(s1:Same G' H')(n1:∀ b,G b=none->G' b≠none->H b=none)
 (hP:∀ b,P b->H' b≠none/\((C.X.H₀ b=none)∨(C.M b/\C.B b=none)))
 (hs:∀(i:Nat) m d',ς'[i]?=some (some (m,d'))->(ς[i]?=some (some (m,d'))/\∀ b,(m=.o∨m=.s)->σ[i]?=some (some (.ref b))->¬ P b)∨
  ((m=.o∨m=.s)/\∃ d b,ς[i]?=some (some (m,d))/\σ[i]?=some (some (.ref b))/\Own C.X.K C.CT G' H' b d')):StR C G' H' σ ς':=by
 have gn:∀ b,G b=none->(∃ o,H b=some o)->G' b=none:=fun b hb ⟨o,ho⟩=>by
  cases q:G' b with
  | none=>rfl
  | some u=>have:=n1 b hb (by rw[q];simp);rw[ho]at this;cases this
 have back:∀(i:Nat) m d',(m=.o∨m=.s)->ς'[i]?=some (some (m,d'))->∃ d,ς[i]?=some (some (m,d)):=fun i m d' hm h=>by
  rcases hs i m d' h with⟨e,_⟩ | ⟨_,d,b,e,_⟩
  ·exact⟨_,e⟩
  ·exact⟨_,e⟩
 exact {
  sub:=s1
  g0:=S.g0.trans g1
  new:=fun b h0 hn=>by
   cases q:G b with
   | none=>exact S.h0none (n1 b q hn)
   | some o=>exact S.new b h0 (by rw[q];simp)
  fr:=fun b o e m=>h1 b o (S.fr b o e m) fun p=>by
   rcases(hP b p).2 with z | z
   ·rw[z]at e;cases e
   ·exact m z.1
  dom:=fun b e=>by
   cases q:H b with
   | none=>exact S.dom b q
   | some o=>
    by_cases p:P b
    ·exact absurd e (hP b p).1
    ·rw[h1 b o q p]at e;cases e
  bs:=fun b o e=>h1 b o (S.bs b o e) fun p=>by
   rcases(hP b p).2 with z | z
   ·rw[S.bh b z]at e;cases e
   ·rw[z.2]at e;cases e
  bh:=S.bh
  len:=by rw[hl];exact S.len
  fz:=fun i d h=>by
   rcases hs i _ d h with⟨e,_⟩ | ⟨z | z,_⟩
   ·obtain⟨v,a,b⟩:=S.fz i d e
    exact⟨v,a,Rep.mono g1 d v b⟩
   ·cases z
   ·cases z
  ow:=fun i d h=>by
   rcases hs i _ d h with⟨e,np⟩ | ⟨_,d0,b,e,eb,w⟩
   ·obtain⟨p,a,hg,h0,w⟩:=S.ow i d e
    exact⟨p,a,gn p hg w.there,h0,w.mono g1 fun o z=>h1 p o z (np p (.inl rfl) a)⟩
   ·obtain⟨p,a,hg,h0,w0⟩:=S.ow i d0 e
    rw[eb]at a;cases a
    exact⟨b,eb,gn b hg w0.there,h0,w⟩
  ln:=fun i d h=>by
   rcases hs i _ d h with⟨e,_⟩ | ⟨z | z,_⟩
   ·exact S.ln i d e
   ·cases z
   ·cases z
  inj:=fun i j d e p n h1 h2=>by
   obtain⟨d1,q1⟩:=back i _ d (.inl rfl) h1
   obtain⟨d2,q2⟩:=back j _ e (.inl rfl) h2
   exact S.inj i j d1 d2 p n q1 q2
  sf:=fun i d h=>by
   rcases hs i _ d h with⟨e,np⟩ | ⟨_,d0,b,e,eb,w⟩
   ·obtain⟨p,a,hg,h0,m,z,w⟩:=S.sf i d e
    exact⟨p,a,gn p hg w.there,h0,m,z,w.mono g1 fun o z=>h1 p o z (np p (.inr rfl) a)⟩
   ·obtain⟨p,a,hg,h0,m,z,w0⟩:=S.sf i d0 e
    rw[eb]at a;cases a
    exact⟨b,eb,gn b hg w0.there,h0,m,z,w⟩
  su:=fun i j d e p n h1 h2=>by
   obtain⟨d1,q1⟩:=back i _ d (.inr rfl) h1
   obtain⟨d2,q2⟩:=back j _ e (.inr rfl) h2
   exact S.su i j d1 d2 p n q1 q2 }
theorem StR.wslot(S:StR C G H σ ς){i:Nat}{m:SM}{d:D}(hm:m=.o∨m=.s)(h:ς[i]?=some (some (m,d))):∃ p,σ[i]?=some (some (.ref p))/\G p=none/\(C.X.H₀ p=none∨(C.M p/\C.B p=none))/\Own C.X.K C.CT G H p d/\
 ∀(j:Nat) m' d',j≠i->(m'=.o∨m'=.s)->ς[j]?=some (some (m',d'))->σ[j]?≠some (some (.ref p)):=by
 rcases hm with rfl | rfl
 ·obtain⟨p,a,hg,h0,w⟩:=S.ow i d h
  refine⟨p,a,hg,.inl h0,w,fun j m' d' hj hm' h2 z=>?_⟩
  rcases hm' with rfl | rfl
  ·exact S.inj i j d d' p (Ne.symm hj) h h2 a z
  ·obtain⟨q,a2,_,hq,_⟩:=S.sf j d' h2
   rw[z]at a2;cases a2
   exact hq h0
 ·obtain⟨p,a,hg,h0,m,z,w⟩:=S.sf i d h
  refine⟨p,a,hg,.inr ⟨m.1,z⟩,w,fun j m' d' hj hm' h2 z=>?_⟩
  rcases hm' with rfl | rfl
  ·obtain⟨q,a2,_,hq,_⟩:=S.ow j d' h2
   rw[z]at a2;cases a2
   exact h0 hq
  ·exact S.su i j d d' p (Ne.symm hj) h h2 a z
theorem StR.writeW(S:StR C G H σ ς){i:Nat}{m:SM}{p:Addr}{xs ys:List D}{ws:List V}(hm:m=.o∨m=.s)(hi:ς[i]?=some (some (m,.lst xs)))(hp:σ[i]?=some (some (.ref p)))(r:RepL C.X.K C.CT G ys ws):
 StR C G (upd H p (.lst ws)) σ (ς.set i (some (m,.lst ys))):=by
 obtain⟨p',a,hg,h0,w,hne⟩:=S.wslot hm hi
 rw[hp]at a;cases a
 refine S.swap (fun b=>b=p) (List.length_set ..) (Same.refl G) (fun b o e n=>by rw[Qk n];exact e) (fun b o e=>by rw[Qk (by rintro rfl;rw[hg]at e;cases e)];exact S.sub b o e) (fun b e n=>absurd e n)
  (fun b e=>by subst e;exact⟨by rw[QS];simp,h0⟩) fun j m' d' h=>?_
 rcases QK h with⟨rfl,h2,l⟩ | ⟨ne,h2⟩
 ·cases h2
  exact .inr ⟨hm,_,p,hi,hp,ws,QS,r⟩
 ·exact .inl ⟨h2,fun b hm' e z=>by subst z;exact hne j m' d' (Ne.symm ne) hm' h2 e⟩
end
end DL
namespace DL
open PySem PySem.Spec PyProof.Rows L2
def wr:SM->Bool
 | .o=>true
 | .s=>true
 | _=>false
theorem wr_of{m:SM}(h:wr m=true):m=.o∨m=.s:=by cases m<;>first | exact .inl rfl | exact .inr rfl | cases h
def sPutW(i:Nat)(A E:SD->Out D):SD->Out Fl:=fun ς=>E ς>>=fun d=>match (ς[i]?:Option (Option (SM×D))) with
 | some (some (m,.lst xs))=>if wr m=true then A ς>>=fun y=>match y with
  | .int j=>optO (ixN xs.length j)>>=fun j=>.ok (.nx (ς.set i (some (m,.lst (xs.set j d)))))
  | _=>.stuck else .stuck
 | _=>.stuck
section
variable{C:Dc}{a e:Expr}{A E:SD->Out D}{pos p1 p2:Pos}{x:Str}
theorem QwM(i:Nat)(hi:DB C a A)(he:DE C e E)(hN:C.X.N[i]?=some x:=by rfl)(hv:Vis C.X.env.scope x:=by first | exact Or.inl rfl | exact Or.inr (Or.inl rfl) | exact Or.inr (Or.inr rfl))
 (hd:(x == ("__debug__":Str))=false:=by decide) (hcd:(x == ("__classdict__":Str))=false:=by decide)
 (hst:∀ v,assign (.Subscript (.Name x p1) a p2) C.X.env v=(do
  let ov ← holding [v] (eval (.Name x p1) C.X.env)
  let iv ← holding [v,ov] (eval a C.X.env)
  standAt p2
  holding [v,ov,iv] (setItem ov iv v)
  release [v,ov,iv] []):=by intro _;rfl)
 (hs:swapsWithSole [.Subscript (.Name x p1) a p2] e pos.line C.X.env=pure false:=by rfl) (hw:swappedStores [.Subscript (.Name x p1) a p2] e C.X.env=pure none:=by rfl)
 (h1:(assignEach [.Subscript (.Name x p1) a p2] C.X.env).map (·.2)=[assign (.Subscript (.Name x p1) a p2) C.X.env]:=by rfl):DS C (.Assign [.Subscript (.Name x p1) a p2] e pos) (sPutW i A E):=by
 obtain⟨t,p,q⟩:=he
 obtain⟨t2,p2,q2⟩:=hi
 refine⟨_,QAZ p (QLf (QeF (i:=i) hN hv hd hcd) p2 QCw hst) hs hw h1,fun G H σ ς W S k=>?_⟩
 unfold sPutW at k
 rw[Out.post_bind]at k
 refine q G H σ ς _ S (Out.post_mono k fun d k v H1 G1 S1 a1 b1 r1=>?_)
 split at k
 ·rename_i m xs z
  rcases QR k with⟨hc,k⟩ | ⟨_,k⟩
  ·obtain⟨pp,e1,hg,h0,ow,_⟩:=S1.wslot (wr_of hc) z
   obtain⟨vs,hv1,hv2⟩:=ow
   rw[Out.post_bind]at k
   refine⟨_,e1,q2 G1 H1 σ ς _ S1 (Out.post_mono k fun y k2 w H2 G2 S2 a2 b2 r2=>?_)⟩
   cases y with
   | int j=>
    cases r2
    have k2':(optO (ixN xs.length j)>>=fun j=>Out.ok (Fl.nx (ς.set i (some (m,D.lst (xs.set j d)))))).post (FlK C G W) C.XD:=k2
    rw[Out.post_bind]at k2'
    obtain⟨jj,ej,k3⟩:=QcK k2'
    refine⟨pp,vs,j,jj,rfl,rfl,a2 _ _ hv1,by rw[← hv2.length];exact ej,?_⟩
    exact k3 σ _ G2 (S2.writeW (wr_of hc) z e1 ((RepL.mono b2 xs vs hv2).set (Rep.mono b2 d v r1) jj)) (b1.trans b2)
   | _=>exact k2.elim
  ·exact k.elim
 ·exact k.elim
end
def ArgW(K:PySem.W.Frag)(CT:CTab)(G H:Hp):List Bool->List D->List V->List Addr->Prop
 | [],[],[],ps=>ps=[]
 | true::bs,d::ds,v::vs,ps=>∃ p ps',v=.ref p/\ps=p::ps'/\p∉ps'/\G p=none/\Own K CT G H p d/\ArgW K CT G H bs ds vs ps'
 | false::bs,d::ds,v::vs,ps=>Rep K CT G d v/\ArgW K CT G H bs ds vs ps
 | _,_,_,_=>False
def OwnL(K:PySem.W.Frag)(CT:CTab)(G H:Hp):List D->List Addr->Prop
 | [],[]=>True
 | d::ds,p::ps=>Own K CT G H p d/\OwnL K CT G H ds ps
 | _,_=>False
section
variable{K:PySem.W.Frag}{CT:CTab}{G H:Hp}
theorem ArgW.len:∀{bs:List Bool}{ds:List D}{vs:List V}{ps:List Addr},ArgW K CT G H bs ds vs ps->bs.length=vs.length/\ds.length=vs.length
 | [],[],[],_,_=>⟨rfl,rfl⟩
 | true::bs,d::ds,v::vs,ps,⟨_,_,_,_,_,_,_,h⟩=>by have:=ArgW.len h;simp[this.1,this.2]
 | false::bs,d::ds,v::vs,ps,⟨_,h⟩=>by have:=ArgW.len h;simp[this.1,this.2]
theorem ArgW.mem:∀{bs:List Bool}{ds:List D}{vs:List V}{ps:List Addr}{i:Nat}{v:V},ArgW K CT G H bs ds vs ps->bs[i]?=some true->vs[i]?=some v->∃ p,v=.ref p/\p∈ps
 | true::bs,d::ds,v::vs,ps,0,w,⟨p,ps',e,e2,_,_,_,_⟩,_,h=>by
  cases h;exact⟨p,e,by rw[e2];exact List.mem_cons_self ..⟩
 | true::bs,d::ds,v::vs,ps,i+1,w,⟨p,ps',e,e2,_,_,_,hh⟩,h1,h2=>by
  obtain⟨q,a,b⟩:=ArgW.mem (i:=i) hh (by simpa using h1) (by simpa using h2)
  exact⟨q,a,by rw[e2];exact List.mem_cons_of_mem _ b⟩
 | false::bs,d::ds,v::vs,ps,0,w,_,h,_=>by cases h
 | false::bs,d::ds,v::vs,ps,i+1,w,⟨_,hh⟩,h1,h2=>ArgW.mem (i:=i) hh (by simpa using h1) (by simpa using h2)
theorem ArgW.get:∀{bs:List Bool}{ds:List D}{vs:List V}{ps:List Addr}{i:Nat}{b:Bool}{d:D},ArgW K CT G H bs ds vs ps->bs[i]?=some b->ds[i]?=some d->∃ v,vs[i]?=some v/\(b=false->Rep K CT G d v)/\(b=true->∃ p,v=.ref p/\p∈ps/\G p=none/\Own K CT G H p d)
 | true::bs,d::ds,v::vs,ps,0,b,d',⟨p,ps',e,e2,_,g,o,_⟩,h1,h2=>by
  cases h1;cases h2;exact⟨v,rfl,fun z=>(nomatch z),fun _=>⟨p,e,by rw[e2];exact List.mem_cons_self ..,g,o⟩⟩
 | true::bs,d::ds,v::vs,ps,i+1,b,d',⟨p,ps',e,e2,_,_,_,hh⟩,h1,h2=>by
  obtain⟨w,a,a1,a2⟩:=ArgW.get (i:=i) hh (by simpa using h1) (by simpa using h2)
  exact⟨w,by simpa using a,a1,fun z=>let ⟨q,c1,c2,c3⟩:=a2 z;⟨q,c1,by rw[e2];exact List.mem_cons_of_mem _ c2,c3⟩⟩
 | false::bs,d::ds,v::vs,ps,0,b,d',⟨r,_⟩,h1,h2=>by
  cases h1;cases h2;exact⟨v,rfl,fun _=>r,fun z=>by cases z⟩
 | false::bs,d::ds,v::vs,ps,i+1,b,d',⟨_,hh⟩,h1,h2=>by
  obtain⟨w,a,a1,a2⟩:=ArgW.get (i:=i) hh (by simpa using h1) (by simpa using h2)
  exact⟨w,by simpa using a,a1,a2⟩
theorem ArgW.ne:∀{bs:List Bool}{ds:List D}{vs:List V}{ps:List Addr}{i j:Nat}{p:Addr},ArgW K CT G H bs ds vs ps->i<j->bs[i]?=some true->bs[j]?=some true->vs[i]?=some (.ref p)->vs[j]?≠some (.ref p)
 | true::bs,d::ds,v::vs,ps,0,j+1,p,⟨q,ps',e,_,n,_,_,hh⟩,_,_,hb,h1,h2=>by
  cases h1;cases e
  obtain⟨q',a,b⟩:=ArgW.mem (i:=j) hh (by simpa using hb) (by simpa using h2)
  cases a;exact n b
 | true::bs,d::ds,v::vs,ps,i+1,j+1,p,⟨q,ps',_,_,_,_,_,hh⟩,hl,ha,hb,h1,h2=>ArgW.ne (i:=i) (j:=j) hh (by omega) (by simpa using ha) (by simpa using hb) (by simpa using h1) (by simpa using h2)
 | false::bs,d::ds,v::vs,ps,0,j,p,_,_,h,_,_,_=>by cases h
 | false::bs,d::ds,v::vs,ps,i+1,j+1,p,⟨_,hh⟩,hl,ha,hb,h1,h2=>ArgW.ne (i:=i) (j:=j) hh (by omega) (by simpa using ha) (by simpa using hb) (by simpa using h1) (by simpa using h2)
end
def finW:List Bool->SD->Out (List D)
 | [],_=>.ok []
 | true::bs,some (.s,d)::ς=>finW bs ς>>=fun ws=>.ok (d::ws)
 | false::bs,_::ς=>finW bs ς
 | _,_=>.stuck
theorem Qxf{K:PySem.W.Frag}{CT:CTab}{G H G' H':Hp}:∀{bs:List Bool}{ds:List D}{vs:List V}{ps:List Addr}{ς:SD}{k:List D->Prop}{X:D->Prop},ArgW K CT G H bs ds vs ps->
 (∀(i:Nat) d v,bs[i]?=some true->ς[i]?=some (some (.s,d))->vs[i]?=some v->∃ p,v=.ref p/\Own K CT G' H' p d)->(finW bs ς).post k X->∃ ws,k ws/\OwnL K CT G' H' ws ps
 | [],[],[],ps,ς,k,X,h,_,q=>⟨[],q,by have h:ps=[]:=h;rw[h];trivial⟩
 | true::bs,d::ds,v::vs,ps,some (.s,d')::ς,k,X,⟨p,ps',e,e2,_,_,_,hh⟩,f,q=>by
  have q:(finW bs ς>>=fun ws=>.ok (d'::ws)).post k X:=q
  rw[Out.post_bind]at q
  obtain⟨ws,kw,ow⟩:=Qxf hh (fun i d v a b c=>f (i+1) d v (by simpa using a) (by simpa using b) (by simpa using c)) q
  obtain⟨p',e3,o⟩:=f 0 d' v rfl rfl rfl
  rw[e]at e3;cases e3
  exact⟨d'::ws,kw,by rw[e2];exact⟨o,ow⟩⟩
 | false::bs,d::ds,v::vs,ps,x::ς,k,X,⟨_,hh⟩,f,q=>Qxf (ς:=ς) hh (fun i d v a b c=>f (i+1) d v (by simpa using a) (by simpa using b) (by simpa using c)) q
 | true::bs,d::ds,v::vs,ps,[],k,X,_,_,q=>q.elim
 | true::bs,d::ds,v::vs,ps,none::ς,k,X,_,_,q=>q.elim
 | true::bs,d::ds,v::vs,ps,some (.k,_)::ς,k,X,_,_,q=>q.elim
 | true::bs,d::ds,v::vs,ps,some (.o,_)::ς,k,X,_,_,q=>q.elim
 | true::bs,d::ds,v::vs,ps,some (.l,_)::ς,k,X,_,_,q=>q.elim
 | false::bs,d::ds,v::vs,ps,[],k,X,_,_,q=>q.elim
end DL
namespace DL
open PySem PySem.Spec PyProof.Rows L2
def Ql5:List Bool->List D->SD
 | b::bs,d::ds=>some (if b=true then SM.s else SM.k,d)::Ql5 bs ds
 | _,_=>[]
theorem QvU:∀{bs:List Bool}{ds:List D},bs.length=ds.length->(Ql5 bs ds).length=bs.length
 | [],[],_=>rfl
 | _::bs,_::ds,h=>by
  show(Ql5 bs ds).length+1=_
  rw[QvU (by simpa using h)];rfl
theorem Qea:∀{bs:List Bool}{ds:List D}{i:Nat}{x:SM×D}{n:Nat},(Ql5 bs ds++List.replicate n none)[i]?=some (some x)->∃ b d,bs[i]?=some b/\ds[i]?=some d/\x=(if b=true then SM.s else SM.k,d)
 | b::bs,d::ds,0,x,n,h=>by
  have h:some (some (if b=true then SM.s else SM.k,d))=some (some x):=h
  cases h;exact⟨b,d,rfl,rfl,rfl⟩
 | b::bs,d::ds,i+1,x,n,h=>by
  have h:(Ql5 bs ds++List.replicate n none)[i]?=some (some x):=h
  obtain⟨b',d',h1,h2,h3⟩:=Qea h
  exact⟨b',d',by simpa using h1,by simpa using h2,h3⟩
 | [],_,i,x,n,h=>by
  have h:([]++List.replicate n (none:Option (SM×D)))[i]?=some (some x):=h
  rw[List.nil_append,List.getElem?_replicate]at h
  split at h<;>cases h
 | b::bs,[],i,x,n,h=>by
  have h:([]++List.replicate n (none:Option (SM×D)))[i]?=some (some x):=h
  rw[List.nil_append,List.getElem?_replicate]at h
  split at h<;>cases h
def retW(fr:Bool)(bs:List Bool):Fl->Out (D×Option (List D))
 | .nx ς=>finW bs ς>>=fun ws=>.ok (.non,some ws)
 | .rt b d=>if (!fr||b||d.scal)=true then .ok (d,none) else .stuck
 | _=>.stuck
def bodyW(fr:Bool)(bs:List Bool)(len:Nat)(T:SD->Out Fl):List D->Out (D×Option (List D)):=fun ds=>
 if ds.length=bs.length then T (Ql5 bs ds++List.replicate (len - bs.length) none)>>=retW fr bs else .stuck
def SpW(K:PySem.W.Frag)(CT:CTab)(fr:Bool)(bs:List Bool)(m:List D->Out (D×Option (List D))):Sp:=fun vs H Q _=>∃ ds ps G0,Same G0 H/\ArgW K CT G0 H bs ds vs ps/\
 (m ds).post (fun r=>∀ v H' G',Same G0 G'->(∀ b o,H b=some o->b∉ps->H' b=some o)->Same G' H'->(∀ b,G0 b=none->G' b≠none->H b=none)->(∀ b,H' b=none->H b=none)->(∀ ws,r.2=some ws->OwnL K CT G' H' ws ps)->RetG K CT fr H G' H' r.1 v->Q v H') (fun _=>False)
abbrev dcW(P:Program)(w:World)(K:PySem.W.Frag)(mg:Str->Option Value)(base:Heap)(CT:CTab)(N:List Str)(qual:Str)(sc:Scope)(f:Addr)(cdv:Value)(A:Around)(outer:List Env)(s:Shared)(H:Hp)(E:XK)(G:Hp)(ps:List Addr)(vs:List V):Dc:=
 { X:=(cxOf CX0 P w K mg base N qual sc f cdv A outer s H E).nox,CT:=CT,G0:=G,XD:=fun _=>False,B:=fun b=>if b∈ps then none else H b,M:=fun b=>b∈ps,W:=fun i=>match vs[i]? with | some (.ref p)=>some p | _=>none }
theorem fnW{P:Program}{w:World}{K:PySem.W.Frag}{mg:Str->Option Value}{base:Heap}{CT:CTab}{fr:Bool}{x qual:Str}{st:Stmt}{f:Addr}{fd:FuncData}{dV:Value}{N pn:List Str}{k:Nat}{T:SD->Out Fl}{bs:List Bool}(hbs:bs.length=pn.length)
 (F:FunV K x qual st f fd dV) (S:Qr N pn (Qa st))
 (hb:∀(cdv:Value)(A:Around)(outer:List Env)(s:Shared)(H:Hp)(E:XK)(G:Hp)(ps:List Addr)(vs:List V),Room k (A.deeper (envOfC qual (Qa st) s.heap.objs.size f cdv))->DSs (dcW P w K mg base CT N qual (Qa st) f cdv A outer s H E G ps vs) (Qn st) T):
 FnOk P w K mg base CX0 (k+1) f fd pn (SpW K CT fr bs (bodyW fr bs N.length T)):=by
 obtain⟨oc,od,kV,doc,pm,an,cdv,ct,osl,rfl,lk,hcd⟩:=F.ex
 have hpl:pn.length<=N.length:=by have:=congrArg List.length S.pre;rw[List.length_take]at this;omega
 have len:∀ vs H Q E,SpW K CT fr bs (bodyW fr bs N.length T) vs H Q E->vs.length=pn.length:=by
  intro vs H Q E ⟨ds,ps,G0,sub,r,q⟩
  rw[← hbs,r.len.1]
 refine fn_of lk hcd S len fun A outer s H vs Q E hr hsp=>?_
 obtain⟨ds,ps,G0,sub,r,q⟩:=hsp
 obtain⟨t,p1,q1⟩:=hb cdv A outer s H E G0 ps vs hr
 have hl:=r.len
 refine⟨t,p1.nox,?_⟩
 unfold bodyW at q
 rw[if_pos (by rw[hl.1,hl.2]),Out.post_bind]at q
 have S0:StR (dcW P w K mg base CT N qual (Qa st) f cdv A outer s H E G0 ps vs) G0 H (L2.start N vs) (Ql5 bs ds++List.replicate (N.length - bs.length) none):={
  sub:=sub
  g0:=Same.refl _
  new:=fun b h1 h2=>absurd h1 h2
  fr:=fun b o e _=>e
  dom:=fun b e=>e
  bs:=fun b o e=>by
   have e':(if b∈ps then none else H b)=some o:=e
   by_cases hb:b∈ps
   ·rw[if_pos hb]at e';cases e'
   ·rw[if_neg hb]at e';exact e'
  bh:=fun b e=>by
   show(if b∈ps then none else H b)=none
   by_cases hb:b∈ps
   ·rw[if_pos hb]
   ·rw[if_neg hb];exact e
  len:=by unfold L2.start;rw[List.length_append,List.length_append,QvU (by rw[hl.1,hl.2]),List.length_map,List.length_replicate,List.length_replicate];omega
  fz:=fun i d e=>by
   obtain⟨b,d',h1,h2,h3⟩:=Qea e
   cases b with
   | true=>cases h3
   | false=>
    cases h3
    obtain⟨v,a,a1,_⟩:=r.get h1 h2
    exact⟨v,Qe9 a,a1 rfl⟩
  ow:=fun i d e=>by
   obtain⟨b,d',h1,h2,h3⟩:=Qea e
   cases b<;>cases h3
  ln:=fun i d e=>by
   obtain⟨b,d',h1,h2,h3⟩:=Qea e
   cases b<;>cases h3
  inj:=fun i j d e p _ h=>by
   obtain⟨b,d',h1,h2,h3⟩:=Qea h
   cases b<;>cases h3
  sf:=fun i d e=>by
   obtain⟨b,d',h1,h2,h3⟩:=Qea e
   cases b with
   | false=>cases h3
   | true=>
    cases h3
    obtain⟨v,a,_,a2⟩:=r.get h1 h2
    obtain⟨p,rfl,hm,hg,o⟩:=a2 rfl
    obtain⟨u,hu⟩:=o.there
    refine⟨p,Qe9 a,hg,(by show H p≠none;rw[hu];simp),⟨hm,?_⟩,if_pos hm,o⟩
    show(match vs[i]? with | some (.ref p)=>some p | _=>none)=some p
    rw[a]
  su:=fun i j d e p hij h1 h2 g1 g2=>by
   obtain⟨b,d1,c1,c2,c3⟩:=Qea h1
   obtain⟨b',d2,c4,c5,c6⟩:=Qea h2
   cases b with
   | false=>cases c3
   | true=>
    cases b' with
    | false=>cases c6
    | true=>
     obtain⟨v1,a1,_⟩:=r.get c1 c2
     obtain⟨v2,a2,_⟩:=r.get c4 c5
     rw[Qe9 a1]at g1;cases g1
     rw[Qe9 a2]at g2;cases g2
     rcases Nat.lt_or_gt_of_ne hij with l | l
     ·exact r.ne l c1 c4 a1 a2
     ·exact r.ne l c4 c1 a2 a1 }
 refine q1 G0 H (L2.start N vs) _ _ S0 (Out.post_mono q fun fl kk=>?_)
 cases fl with
 | nx ς'=>
  intro σ' H' G' S' s'
  have kk:(finW bs ς'>>=fun ws=>Out.ok (D.non,some ws)).post _ _:=kk
  rw[Out.post_bind]at kk
  obtain⟨ws,kw,ow⟩:=Qxf (G':=G') (H':=H') r (fun i d v b1 b2 b3=>by
   obtain⟨p,a,_,_,⟨_,hW⟩,_,o⟩:=S'.sf i d b2
   have hW:(match vs[i]? with | some (.ref p)=>some p | _=>none)=some p:=hW
   obtain⟨p',e,_⟩:=r.mem b1 b3
   subst e
   rw[b3]at hW
   cases hW
   exact⟨_,rfl,o⟩) kk
  exact kw .non H' G' s' (fun b o e hb=>S'.fr b o e hb) S'.sub S'.new S'.dom (fun ws' e=>by cases e;exact ow) (by
   show RetG K CT fr H G' H' D.non V.non
   unfold RetG;rw[if_neg (by cases fr<;>decide)];rfl)
 | bk ς'=>exact fun σ' H' G' S' s'=>kk.elim
 | ct ς'=>exact fun σ' H' G' S' s'=>kk.elim
 | rt b d=>
  intro v H' G' S' s' ret
  rcases QR (show(if (!fr||b||d.scal)=true then Out.ok (d,none) else Out.stuck).post _ _ from kk) with⟨hc,k2⟩ | ⟨_,k2⟩
  ·cases b with
   | false=>
    refine k2 v H' G' s' (fun b o e hb=>S'.fr b o e hb) S'.sub S'.new S'.dom (fun ws' e=>by cases e) ?_
    unfold RetG
    have hn:¬ (fr && !d.scal)=true:=by revert hc;cases fr<;>cases d.scal<;>simp
    rw[if_neg hn]
    exact ret
   | true=>
    obtain⟨p,rfl,h0,hg,ow⟩:=(show ∃ p,v=.ref p/\H p=none/\G' p=none/\Own K CT G' H' p d from ret)
    cases fr with
    | true=>
     refine k2 _ H' G' s' (fun b o e hb=>S'.fr b o e hb) S'.sub S'.new S'.dom (fun ws' e=>by cases e) ?_
     have hs:d.scal=false:=by cases d<;>first | rfl | exact ow.elim
     unfold RetG
     rw[if_pos (by rw[hs];rfl)]
     exact⟨p,rfl,h0,hg,ow⟩
    | false=>
     obtain⟨o,ho⟩:=ow.there
     have S2:=GH.freezeR S' ho hg h0
     refine k2 _ H' _ (s'.trans (QE hg)) (fun b o e hb=>S2.fr b o e hb) S2.sub S2.new S2.dom (fun ws' e=>by cases e) ?_
     unfold RetG
     rw[if_neg (by simp)]
     exact ow.known hg ho
  ·exact k2.elim
end DL
namespace DL
open PySem PySem.Spec PyProof.Rows L2
def eVarW(i:Nat):SD->Out D:=fun ς=>match (ς[i]?:Option (Option (SM×D))) with
 | some (some (m,d))=>if wr m=true then .ok d else .stuck
 | _=>.stuck
def RepA(K:PySem.W.Frag)(CT:CTab)(G:Hp)(σ:St)(ς:SD):List (Option Nat)->List D->List V->Prop
 | [],[],[]=>True
 | some s::ms,d::ds,v::vs=>(∃ m,wr m=true/\ς[s]?=some (some (m,d)))/\σ[s]?=some (some v)/\RepA K CT G σ ς ms ds vs
 | none::ms,d::ds,v::vs=>Rep K CT G d v/\RepA K CT G σ ς ms ds vs
 | _,_,_=>False
def DAW(C:Dc)(es:List Expr)(ms:List (Option Nat))(A:SD->Out (List D)):Prop:=∃ t,PA C.X es t/\∀ G H σ ς Q,StR C G H σ ς->
 (A ς).post (fun ds=>∀ vs H' G',StR C G' H' σ ς->Same H H'->Same G G'->RepA C.X.K C.CT G' σ ς ms ds vs->Q vs H') C.XD->t σ H Q
def QfJ(s:Nat)(w:D)(ς:SD):SD:=match (ς[s]?:Option (Option (SM×D))) with
 | some (some (m,_))=>ς.set s (some (m,w))
 | _=>ς
def setW:List (Option Nat)->List D->SD->SD
 | some s::ms,w::ws,ς=>setW ms ws (QfJ s w ς)
 | none::ms,ws,ς=>setW ms ws ς
 | _,_,ς=>ς
section
variable{C:Dc}{e:Expr}{es:List Expr}{E:SD->Out D}{A:SD->Out (List D)}{ms:List (Option Nat)}
theorem QN1:DAW C [] [] aNil:=⟨_,Qc9,fun G H σ ς Q S q=>q [] H G S (Same.refl H) (Same.refl G) trivial⟩
theorem daw_k(ha:DE C e E)(hr:DAW C es ms A)(hs:starEach (e::es) C.X.env=(false,eval e C.X.env)::starEach es C.X.env:=by rfl):DAW C (e::es) (none::ms) (aCons E A):=by
 obtain⟨t1,p1,q1⟩:=ha
 obtain⟨t2,p2,q2⟩:=hr
 refine⟨_,QaS p1 p2 hs,fun G H σ ς Q S q=>?_⟩
 unfold aCons at q
 rw[Out.post_bind]at q
 refine q1 G H σ ς _ S (Out.post_mono q fun x k v1 H1 G1 S1 a1 b1 r1=>?_)
 rw[Out.post_bind]at k
 refine q2 G1 H1 σ ς _ S1 (Out.post_mono k fun xs k2 vs H2 G2 S2 a2 b2 r2=>?_)
 exact k2 (v1::vs) H2 G2 S2 (a1.trans a2) (b1.trans b2) ⟨Rep.mono b2 x v1 r1,r2⟩
theorem daw_w(i:Nat){x:Str}{px:Pos}(hr:DAW C es ms A)(hN:C.X.N[i]?=some x:=by rfl)(hv:Vis C.X.env.scope x:=by first | exact Or.inl rfl | exact Or.inr (Or.inl rfl) | exact Or.inr (Or.inr rfl))
 (hd:(x == ("__debug__":Str))=false:=by decide) (hcd:(x == ("__classdict__":Str))=false:=by decide) (hs:starEach (.Name x px::es) C.X.env=(false,eval (.Name x px) C.X.env)::starEach es C.X.env:=by rfl):
 DAW C (.Name x px::es) (some i::ms) (aCons (eVarW i) A):=by
 obtain⟨t2,p2,q2⟩:=hr
 refine⟨_,QaS (QeF (i:=i) hN hv hd hcd) p2 hs,fun G H σ ς Q S q=>?_⟩
 unfold aCons eVarW at q
 rw[Out.post_bind]at q
 split at q
 ·rename_i m d z
  rcases QR q with⟨hc,k⟩ | ⟨_,k⟩
  ·obtain⟨p,a,_⟩:=S.wslot (wr_of hc) z
   have k:(A ς>>=fun xs=>Out.ok (d::xs)).post (fun ds=>∀ vs H' G',StR C G' H' σ ς->Same H H'->Same G G'->RepA C.X.K C.CT G' σ ς (some i::ms) ds vs->Q vs H') C.XD:=k
   rw[Out.post_bind]at k
   refine⟨_,a,q2 G H σ ς _ S (Out.post_mono k fun xs k2 vs H2 G2 S2 a2 b2 r2=>?_)⟩
   exact k2 (.ref p::vs) H2 G2 S2 a2 b2 ⟨⟨m,hc,z⟩,a,r2⟩
  ·exact k.elim
 ·exact q.elim
theorem QoJ{G H:Hp}{σ:St}{ς:SD}(S:StR C G H σ ς):∀{ms:List (Option Nat)}{ds:List D}{vs:List V},(ms.filterMap id).Nodup->RepA C.X.K C.CT G σ ς ms ds vs->
 ∃ ps,ArgW C.X.K C.CT G H (ms.map Option.isSome) ds vs ps/\∀ p,p∈ps↔∃ s,some s∈ms/\σ[s]?=some (some (.ref p))
 | [],[],[],_,_=>⟨[],rfl,fun p=>⟨fun h=>(nomatch h),fun⟨s,h,_⟩=>(nomatch h)⟩⟩
 | some s::ms,d::ds,v::vs,nd,⟨⟨m,hm,z⟩,e,r⟩=>by
  have nd:(s::ms.filterMap id).Nodup:=nd
  rw[List.nodup_cons]at nd
  obtain⟨ps,h1,h2⟩:=QoJ S nd.2 r
  obtain⟨p,a,hg,h0,o,ne⟩:=S.wslot (wr_of hm) z
  rw[e]at a;cases a
  refine⟨p::ps,⟨p,ps,rfl,rfl,fun hp=>?_,hg,o,h1⟩,fun q=>?_⟩
  ·obtain⟨s',m1,m2⟩:=(h2 p).1 hp
   have hs:s'≠s:=by rintro rfl;exact nd.1 (List.mem_filterMap.mpr ⟨_,m1,rfl⟩)
   have:∃ m' d',wr m'=true/\ς[s']?=some (some (m',d')):=rep_slot r m1
   obtain⟨m',d',w',z'⟩:=this
   exact ne s' m' d' hs (wr_of w') z' m2
  ·rw[List.mem_cons,h2]
   constructor
   ·rintro (rfl | ⟨s',m1,m2⟩)
    ·exact⟨s,List.mem_cons_self ..,e⟩
    ·exact⟨s',List.mem_cons_of_mem _ m1,m2⟩
   ·rintro ⟨s',m1,m2⟩
    rcases List.mem_cons.mp m1 with q1 | q1
    ·cases q1
     rw[e]at m2;cases m2;exact .inl rfl
    ·exact .inr ⟨s',q1,m2⟩
 | none::ms,d::ds,v::vs,nd,⟨rr,r⟩=>by
  obtain⟨ps,h1,h2⟩:=QoJ S (show(ms.filterMap id).Nodup from nd) r
  refine⟨ps,⟨rr,h1⟩,fun p=>?_⟩
  rw[h2]
  constructor
  ·rintro ⟨s',m1,m2⟩;exact⟨s',List.mem_cons_of_mem _ m1,m2⟩
  ·rintro ⟨s',m1,m2⟩
   rcases List.mem_cons.mp m1 with q1 | q1
   ·cases q1
   ·exact⟨s',q1,m2⟩
where rep_slot {G:Hp} {σ:St} {ς:SD}:∀{ms:List (Option Nat)}{ds:List D}{vs:List V}{s:Nat},RepA C.X.K C.CT G σ ς ms ds vs->some s∈ms->∃ m d,wr m=true/\ς[s]?=some (some (m,d))
 | [],[],[],_,_,h=>(nomatch h)
 | some s'::ms,d::ds,v::vs,s,⟨⟨m,hm,z⟩,_,r⟩,h=>by
  rcases List.mem_cons.mp h with q | q
  ·cases q;exact⟨m,d,hm,z⟩
  ·exact rep_slot r q
 | none::ms,d::ds,v::vs,s,⟨_,r⟩,h=>by
  rcases List.mem_cons.mp h with q | q
  ·cases q
  ·exact rep_slot r q
theorem QFG(s:Nat)(w:D)(ς:SD):(QfJ s w ς).length=ς.length:=by
 unfold QfJ;split<;>simp
theorem QuV:∀(ms:List (Option Nat))(ws:List D)(ς:SD),(setW ms ws ς).length=ς.length
 | some s::ms,w::ws,ς=>by show(setW ms ws (QfJ s w ς)).length=_;rw[QuV ms ws,QFG]
 | none::ms,ws,ς=>QuV ms ws ς
 | [],ws,ς=>rfl
 | some s::ms,[],ς=>rfl
theorem Qxm{K:PySem.W.Frag}{CT:CTab}{G H G' H':Hp}{σ:St}{ς:SD}:∀{ms:List (Option Nat)}{ds:List D}{vs:List V}{ws:List D}{ps:List Addr}{τ:SD},RepA K CT G σ ς ms ds vs->ArgW K CT G H (ms.map Option.isSome) ds vs ps->OwnL K CT G' H' ws ps->
 (∀(i:Nat) m d,some i∈ms->ς[i]?=some (some (m,d))->∃ d',τ[i]?=some (some (m,d')))->
 ∀(i:Nat) m d',(setW ms ws τ)[i]?=some (some (m,d'))->(τ[i]?=some (some (m,d'))/\some i∉ms)∨(wr m=true/\∃ d b,τ[i]?=some (some (m,d))/\σ[i]?=some (some (.ref b))/\Own K CT G' H' b d')
 | [],[],[],ws,ps,τ,_,_,_,_,i,m,d',h=>.inl ⟨h,fun z=>(nomatch z)⟩
 | none::ms,d::ds,v::vs,ws,ps,τ,⟨_,r⟩,⟨_,a⟩,o,f,i,m,d',h=>by
  rcases Qxm (τ:=τ) r a o (fun i m d hi=>f i m d (List.mem_cons_of_mem _ hi)) i m d' h with⟨e,n⟩ | e
  ·exact .inl ⟨e,fun z=>by
    rcases List.mem_cons.mp z with q | q
    ·cases q
    ·exact n q⟩
  ·exact .inr e
 | some s::ms,d::ds,v::vs,[],ps,τ,_,⟨p,ps',e1,e2,_⟩,o,_,i,m,d',h=>by rw[e2]at o;exact o.elim
 | some s::ms,d::ds,v::vs,w::ws,ps,τ,⟨⟨m0,hm0,z⟩,e,r⟩,⟨p,ps',e1,e2,_,_,_,a⟩,o,f,i,m,d',h=>by
  rw[e2]at o
  obtain⟨o1,o2⟩:=o
  obtain⟨d0,t0⟩:=f s m0 d (List.mem_cons_self ..) z
  have es:QfJ s w τ=τ.set s (some (m0,w)):=by unfold QfJ;rw[t0]
  have h:(setW ms ws (QfJ s w τ))[i]?=some (some (m,d')):=h
  have back:∀(j:Nat) m1 d1,(QfJ s w τ)[j]?=some (some (m1,d1))->(j=s/\m1=m0/\d1=w)∨(j≠s/\τ[j]?=some (some (m1,d1))):=fun j m1 d1 hj=>by
   rw[es]at hj
   rcases QK hj with⟨rfl,h2,l⟩ | ⟨ne,h2⟩
   ·cases h2;exact .inl ⟨rfl,rfl,rfl⟩
   ·exact .inr ⟨Ne.symm ne,h2⟩
  have fwd:∀(j:Nat) m1 d1,some j∈ms->ς[j]?=some (some (m1,d1))->∃ d2,(QfJ s w τ)[j]?=some (some (m1,d2)):=fun j m1 d1 hj hz=>by
   rw[es]
   by_cases hjs:j=s
   ·subst hjs
    rw[z]at hz;cases hz
    exact⟨w,Qg1 (List.getElem?_eq_some_iff.mp t0).1⟩
   ·obtain⟨d2,q⟩:=f j m1 d1 (List.mem_cons_of_mem _ hj) hz
    exact⟨d2,by rw[Qt (Ne.symm hjs)];exact q⟩
  rcases Qxm r a o2 fwd i m d' h with⟨q,n⟩ | ⟨hw,d1,b,q1,q2,q3⟩
  ·rcases back i m d' q with⟨rfl,rfl,rfl⟩ | ⟨ne,q⟩
   ·exact .inr ⟨hm0,d0,p,t0,by rw[e,e1],o1⟩
   ·exact .inl ⟨q,fun zz=>by
     rcases List.mem_cons.mp zz with y | y
     ·cases y;exact ne rfl
     ·exact n y⟩
  ·rcases back i m d1 q1 with⟨rfl,rfl,rfl⟩ | ⟨ne,q⟩
   ·exact .inr ⟨hw,d0,b,t0,q2,q3⟩
   ·exact .inr ⟨hw,d1,b,q,q2,q3⟩
def DefW(P:Program)(w:World)(K:PySem.W.Frag)(mg:Str->Option Value)(base:Heap)(CT:CTab)(x:Str)(k:Nat)(fr:Bool)(bs:List Bool)(m:List D->Out (D×Option (List D))):Prop:=
 ∃ f fd ps,FnOk P w K mg base CX0 k f fd ps (SpW K CT fr bs m)/\mg x=some (.ref f)/\PySem.W.keepIn K (.ref f)=true/\Binds K fd ps []
def QrX(ms:List (Option Nat))(m:List D->Out (D×Option (List D)))(A:SD->Out (List D)):SD->Out Fl:=fun ς=>A ς>>=fun ds=>m ds>>=fun r=>match r.2 with
 | some ws=>.ok (.nx (setW ms ws ς))
 | none=>.stuck
theorem QL9{x:Str}{k:Nat}{fr:Bool}{bs:List Bool}{m:List D->Out (D×Option (List D))}{p pos spos:Pos}(h:DefW C.X.prog C.X.w C.X.K C.X.mg C.X.base C.CT x k fr bs m)(hr:Room k C.X.A)(ha:DAW C (e::es) ms A)(hg:Gl C.X x)
 (hbs:bs=ms.map Option.isSome:=by rfl) (nd:(ms.filterMap id).Nodup:=by decide) (hx:∀ x,¬ C.XD x:=by exact fun _ h=>h)
 (hdb:(x == ("__debug__":Str))=false:=by decide) (he:starEach (e::es) C.X.env=(false,eval e C.X.env)::starEach es C.X.env:=by rfl) (hpl:(backTo pos (starEach es C.X.env)).any (·.1)=false:=by rfl)
 (hsw:swapsWith (.Call (.Name x p) (e::es) [] pos) none spos.line C.X.env=pure false:=by rfl):
 DS C (.Expr (.Call (.Name x p) (e::es) [] pos) spos) (QrX ms m A):=by
 obtain⟨f,fd,pn,F,hm,hk,hb⟩:=h
 obtain⟨t,p1,q1⟩:=ha
 subst hbs
 refine⟨_,Qxp (Qtf F hr hg hm hk hb .nil pass0 p1 hdb he hpl) hsw,fun G H σ ς W S q=>?_⟩
 unfold QrX at q
 rw[Out.post_bind]at q
 refine q1 G H σ ς _ S (Out.post_mono q fun ds kk vs H1 G1 S1 a1 b1 r1=>?_)
 obtain⟨ps,hA,hps⟩:=QoJ S1 nd r1
 refine⟨ds,ps,G1,S1.sub,by rw[List.append_nil];exact hA,?_⟩
 rw[Out.post_bind]at kk
 cases z:m ds with
 | stuck=>rw[z]at kk;exact kk.elim
 | exc y=>rw[z]at kk;exact absurd kk (hx y)
 | ok r=>
  rw[z]at kk
  intro v H' G' g1 h1 s1 n1 d1 ow ret
  obtain⟨rv,rw'⟩:=r
  cases rw' with
  | none=>exact kk.elim
  | some ws=>
   have ow:=ow ws rfl
   refine(show FlK C G W (.nx (setW ms ws ς)) from kk) σ H' G' ?_ (b1.trans g1)
   refine S1.swap (fun b=>b∈ps) (QuV ms ws ς) g1 h1 s1 n1 (fun b hb=>?_) fun i mm d' hi=>?_
   ·obtain⟨s',m1,m2⟩:=(hps b).1 hb
    obtain⟨m',dd,w',z'⟩:=QoJ.rep_slot r1 m1
    obtain⟨p',a,_,h0,o,_⟩:=S1.wslot (wr_of w') z'
    rw[m2]at a;cases a
    obtain⟨u,hu⟩:=o.there
    exact⟨fun y=>(by rw[d1 b y]at hu;cases hu),h0⟩
   ·rcases Qxm (τ:=ς) r1 hA ow (fun i m d _ y=>⟨d,y⟩) i mm d' hi with⟨e1,e2⟩ | ⟨hw,d,b,e1,e2,e3⟩
    ·refine .inl ⟨e1,fun b hmm eb hb=>?_⟩
     obtain⟨s',m1,m2⟩:=(hps b).1 hb
     obtain⟨m',dd,w',z'⟩:=QoJ.rep_slot r1 m1
     obtain⟨p',a,_,_,_,ne⟩:=S1.wslot (wr_of w') z'
     rw[m2]at a;cases a
     exact ne i mm d' (by rintro rfl;exact e2 m1) hmm e1 eb
    ·exact .inr ⟨wr_of hw,d,b,e1,e2,e3⟩
end
end DL
namespace DL
open PySem PySem.Spec PyProof.Rows L2
def DAT(C:Dc)(es:List Expr)(bs:List Bool)(A:SD->Out (List D)):Prop:=∃ t,PA C.X es t/\∀ G H σ ς Q,StR C G H σ ς->
 (A ς).post (fun ds=>∀ vs H' ps,StR C G H' σ ς->Same H H'->ArgW C.X.K C.CT G H' bs ds vs ps->(∀ p,p∈ps->H p=none)->Q vs H') C.XD->t σ H Q
def flatL(o:Out D):Out D:=o>>=fun d=>match d with
 | .lst xs=>if xs.all D.scal=true then .ok (.lst xs) else .stuck
 | _=>.stuck
section
variable{C:Dc}{e:Expr}{es:List Expr}{E:SD->Out D}{A:SD->Out (List D)}{bs:List Bool}
theorem QNY:DAT C [] [] aNil:=⟨_,Qc9,fun G H σ ς Q S q=>q [] H [] S (Same.refl H) rfl fun p h=>(nomatch h)⟩
theorem dat_v(i:Nat){x:Str}{px:Pos}(hr:DAT C es bs A)(hN:C.X.N[i]?=some x:=by rfl)(hv:Vis C.X.env.scope x:=by first | exact Or.inl rfl | exact Or.inr (Or.inl rfl) | exact Or.inr (Or.inr rfl))
 (hd:(x == ("__debug__":Str))=false:=by decide) (hcd:(x == ("__classdict__":Str))=false:=by decide) (hs:starEach (.Name x px::es) C.X.env=(false,eval (.Name x px) C.X.env)::starEach es C.X.env:=by rfl):
 DAT C (.Name x px::es) (false::bs) (aCons (eVar i) A):=by
 obtain⟨t2,p2,q2⟩:=hr
 refine⟨_,QaS (QeF (i:=i) hN hv hd hcd) p2 hs,fun G H σ ς Q S q=>?_⟩
 unfold aCons at q
 rw[Out.post_bind]at q
 obtain⟨d,z,k⟩:=QC7 q
 obtain⟨v,a,r⟩:=S.fz i d z
 rw[Out.post_bind]at k
 refine⟨v,a,q2 G H σ ς _ S (Out.post_mono k fun xs k2 vs H2 ps S2 a2 w2 n2=>?_)⟩
 exact k2 (v::vs) H2 ps S2 a2 ⟨r,w2⟩ n2
theorem dat_t(ha:DF C e E)(hr:DAT C es bs A)(hs:starEach (e::es) C.X.env=(false,eval e C.X.env)::starEach es C.X.env:=by rfl):DAT C (e::es) (true::bs) (aCons (fun ς=>flatL (E ς)) A):=by
 obtain⟨t1,p1,q1⟩:=ha
 obtain⟨t2,p2,q2⟩:=hr
 refine⟨_,QaS p1 p2 hs,fun G H σ ς Q S q=>?_⟩
 unfold aCons flatL at q
 rw[Out.post_bind,Out.post_bind]at q
 refine q1 G H σ ς _ S (Out.post_mono q fun x k p H1 G1 S1 a1 b1 hp hg o=>?_)
 cases x with
 | lst xs=>
  rcases QR k with⟨hc,k⟩ | ⟨_,k⟩
  ·obtain⟨us,hu,ru⟩:=o
   have S':StR C G H1 σ ς:=S.grow a1 (Same.refl G) (S.sub.trans a1) fun b g n=>absurd g n
   have k:(A ς>>=fun ys=>Out.ok (D.lst xs::ys)).post (fun ds=>∀ vs H' ps,StR C G H' σ ς->Same H H'->ArgW C.X.K C.CT G H' (true::bs) ds vs ps->(∀ p,p∈ps->H p=none)->Q vs H') C.XD:=k
   rw[Out.post_bind]at k
   refine q2 G H1 σ ς _ S' (Out.post_mono k fun ys k2 vs H2 ps S2 a2 w2 n2=>?_)
   refine k2 (.ref p::vs) H2 (p::ps) S2 (a1.trans a2) ⟨p,ps,rfl,rfl,fun hm=>?_,S.gnone hp,⟨us,a2 _ _ hu,ru.flat hc⟩,w2⟩ fun b hb=>?_
   ·rw[n2 p hm]at hu;cases hu
   ·rcases List.mem_cons.mp hb with rfl | hb
    ·exact hp
    ·exact a1.free (n2 b hb)
  ·exact k.elim
 | _=>exact k.elim
theorem QLD{x:Str}{k:Nat}{m:List D->Out (D×Option (List D))}{p pos:Pos}(h:DefW C.X.prog C.X.w C.X.K C.X.mg C.X.base C.CT x k true bs m)(hr:Room k C.X.A)(ha:DAT C (e::es) bs A)(hg:Gl C.X x)(hx:∀ x,¬ C.XD x:=by exact fun _ h=>h)
 (hdb:(x == ("__debug__":Str))=false:=by decide) (he:starEach (e::es) C.X.env=(false,eval e C.X.env)::starEach es C.X.env:=by rfl) (hpl:(backTo pos (starEach es C.X.env)).any (·.1)=false:=by rfl):
 DF C (.Call (.Name x p) (e::es) [] pos) (fun ς=>QfP (A ς>>=fun ds=>m ds>>=fun r=>.ok r.1)):=by
 obtain⟨f,fd,pn,F,hm,hk,hb⟩:=h
 obtain⟨t,p1,q1⟩:=ha
 refine⟨_,Qtf F hr hg hm hk hb .nil pass0 p1 hdb he hpl,fun G H σ ς Q S q=>?_⟩
 have q:=QDx q
 rw[Out.post_bind]at q
 refine q1 G H σ ς _ S (Out.post_mono q fun ds kk vs H1 ps S1 a1 w1 n1=>⟨ds,ps,G,S1.sub,by rw[List.append_nil];exact w1,?_⟩)
 rw[Out.post_bind]at kk
 cases z:m ds with
 | stuck=>rw[z]at kk;exact kk.elim
 | exc y=>rw[z]at kk;exact absurd kk (hx y)
 | ok r=>
  rw[z]at kk
  have kk:r.1.scal=false/\KF C G H σ ς Q r.1:=kk
  intro v H' G' g1 h1 s1 n2 d1 ow ret
  unfold RetG at ret
  rw[if_pos (by rw[kk.1];rfl)]at ret
  obtain⟨pp,rfl,h0,hg',o⟩:=ret
  have hS:Same H H':=fun b u e=>h1 b u (a1 b u e) fun hb=>by rw[n1 b hb]at e;cases e
  exact kk.2 pp H' G' (S.grow hS g1 s1 fun b g n=>a1.free (n2 b g n)) hS g1 (a1.free h0) hg' o
end
end DL
namespace L2
open PySem PySem.Spec PyProof.Rows
def topI:Int->List Int->Int
 | m,[]=>m
 | m,x::r=>topI (if m<x then x else m) r
theorem QG7:∀(ns:List Int)(m M:Int),(M=m∨M∈ns)->m<=M->(∀ a,a∈ns->a<=M)->topI m ns=M
 | [],m,M,h,_,_=>by
  rcases h with h | h
  ·exact h.symm
  ·cases h
 | x::r,m,M,h,h1,h2=>by
  have hx:=h2 x (List.mem_cons_self ..)
  refine QG7 r _ M ?_ (by split<;>assumption) fun a ha=>h2 a (List.mem_cons_of_mem _ ha)
  rcases h with h | h
  ·left;split<;>omega
  ·rcases List.mem_cons.mp h with h | h
   ·left;split<;>omega
   ·exact .inr h
section
variable{X:Cx}
theorem QK9(hc:X.calm=true):CallR X (.builtin "max") (fun xs H Q=>∃(p:Addr)(n:Int)(ns:List Int),xs=[.ref p]/\SqL X.K H p ((n::ns).map V.int)/\Q (.int (topI n ns)) H):=by
 intro pins s σ H xs us Q I r h
 obtain⟨p,n,ns,rfl,hq,q⟩:=h
 obtain⟨u,rfl,rx⟩:=vals1 r
 cases rx
 obtain⟨its,rv,pl,hz⟩:=I.list hq
 obtain⟨ys,rfl,e⟩:=QLw rv
 have hl:s.heap.IsList p (intItems ys.toArray):=by
  have:(ys.map fun p=>Value.int p.1 p.2).toArray=intItems ys.toArray:=by simp[intItems]
  rw[← this];exact pl.isList
 have hlen:ys.length=ns.length+1:=by have:=congrArg List.length e;simpa using this
 refine max_intList (I.ok.hd hc) hl (by simp[hlen]) fun v h' tk hv hk=>?_
 obtain⟨t,rfl⟩:=intItems_at hv
 obtain⟨h1,h2⟩:=argBest_gt (numAt ys.toArray) (ys.toArray.size - 1)
 have hs:ys.toArray.size=ys.length:=List.size_toArray ..
 have en:∀ a,a∈n::ns->∃ j,j<=ys.toArray.size - 1/\a=numAt ys.toArray j:=fun a ha=>by
  rw[← e]at ha
  obtain⟨j,hj,rfl⟩:=mem_getD ha
  rw[List.length_map]at hj
  exact⟨j,by omega,by rw[numAt_eq]⟩
 have em:numAt ys.toArray (argBest (fun i j=>decide (numAt ys.toArray i > numAt ys.toArray j)) (ys.toArray.size - 1))∈n::ns:=by
  rw[numAt_eq, ← e]
  exact getD_mem (by rw[List.length_map];omega)
 have et:topI n ns=numAt ys.toArray (argBest (fun i j=>decide (numAt ys.toArray i > numAt ys.toArray j)) (ys.toArray.size - 1)):=by
  refine QG7 ns n _ (List.mem_cons.mp em) ?_ fun a ha=>?_
  ·obtain⟨j,hj,ej⟩:=en n (List.mem_cons_self ..)
   rw[ej];exact h2 j hj
  ·obtain⟨j,hj,ej⟩:=en a (List.mem_cons_of_mem _ ha)
   rw[ej];exact h2 j hj
 exact⟨.int (topI n ns),H,I.kept hk,⟨t,by rw[et]⟩,q⟩
end
end L2
namespace DL
open PySem PySem.Spec PyProof.Rows L2
def fMaxL:D->Out D
 | .lst xs=>match intsD xs with | some (n::ns)=>.ok (.int (topI n ns)) | _=>.stuck
 | _=>.stuck
section
variable{C:Dc}{e:Expr}{es:List Expr}{AA:SD->Out (List D)}{p pos:Pos}
theorem QMN(hc:C.X.calm=true)(hg:Gl C.X "max")(hm:C.X.mg "max"=none)(ha:DAB C (e::es) AA)
 (he:starEach (e::es) C.X.env=(false,eval e C.X.env)::starEach es C.X.env:=by rfl) (hpl:(backTo pos (starEach es C.X.env)).any (·.1)=false:=by rfl):DE C (.Call (.Name "max" p) (e::es) [] pos) (eA (f1 fMaxL) AA):=by
 refine Qie (QK9 hc) (Qu0 ?_) (Qth ?_) hg hm PyProof.Rows.Boot.«max» ha (by decide) (by decide) he hpl
 ·intro G H σ ς Q x v S r q
  cases x with
  | lst xs=>
   cases eb:intsD xs with
   | none=>rw[fMaxL,eb]at q;exact q.elim
   | some ns=>
    cases ns with
    | nil=>rw[fMaxL,eb]at q;exact q.elim
    | cons n ns=>
     rw[fMaxL,eb]at q
     obtain⟨a,vs,rfl,h2,h3⟩:=r
     rw[Qzj eb h3]at h2
     exact⟨a,n,ns,rfl,h2,q.2⟩
  | _=>exact q.elim
 ·intro x
  cases x with
  | lst xs=>
   rw[fMaxL]
   cases intsD xs with
   | none=>exact True.intro
   | some bs=>
    cases bs with
    | nil=>exact True.intro
    | cons b bs=>exact rfl
  | _=>exact True.intro
end
end DL
namespace DL
open PySem PySem.Spec PyProof.Rows L2
theorem QT{i j:Int}(h:0<j):dMod (.int i) (.int j)=.ok (.int (i % j)):=by
 show(if decide (j≠0)=true then Out.ok (D.int (i.fmod j)) else Out.stuck)=_
 rw[if_pos (decide_eq_true (by omega)),Int.fmod_eq_emod_of_nonneg i (by omega)]
theorem QJn{j:Int}{n:Nat}(h:j.natAbs<2 ^ n)(hn:n<=9000):big j=true:=decide_eq_true (Nat.lt_of_lt_of_le h (Nat.pow_le_pow_right (by decide) hn))
theorem QLU{i j:Int}(h:j≠0)(hb:big j=true):dFdiv (.int i) (.int j)=.ok (.int (i.fdiv j)):=by
 show(if (decide (j≠0)&&big j)=true then Out.ok (D.int (i.fdiv j)) else Out.stuck)=_
 rw[if_pos (by rw[hb,decide_eq_true h];rfl)]
theorem QbY{i j:Int}(h:0<j)(hb:big j=true):dFdiv (.int i) (.int j)=.ok (.int (i / j)):=by
 rw[QLU (by omega) hb,Int.fdiv_eq_ediv_of_nonneg i (by omega)]
theorem Qan{i:Int}{n:Nat}(h:i.natAbs<2 ^ n):bitsI i<=n:=PySem.intBits_le_iff.mpr h
theorem Qib{i:Int}{n:Nat}(h:bitsI i<=n):i.natAbs<2 ^ n:=PySem.intBits_le_iff.mp h
theorem QMQ{i j:Int}(h:bitsI i+bitsI j<=134217728):dMul (.int i) (.int j)=.ok (.int (i * j)):=by
 show(if decide (bitsI i+bitsI j<=134217728)=true then Out.ok (D.int (i * j)) else Out.stuck)=_
 rw[if_pos (decide_eq_true h)]
theorem QgY{i j:Int}{m n:Nat}(hi:bitsI i<=m)(hj:bitsI j<=n)(h:m+n<=134217728):dMul (.int i) (.int j)=.ok (.int (i * j)):=QMQ (by omega)
theorem Qbv(i j:Int):dAdd (.int i) (.int j)=.ok (.int (i+j)):=rfl
theorem Qla(i j:Int):dSub (.int i) (.int j)=.ok (.int (i - j)):=rfl
theorem Qlz(i:Int):dNeg (.int i)=.ok (.int (-i)):=rfl
theorem QpY(i:Int):dAbs (.int i)=.ok (.int (i.natAbs:Int)):=by
 show Out.ok (D.int (if i<0 then -i else i))=_
 congr 2;split<;>omega
theorem Qti(i j:Int):dLt (.int i) (.int j)=.ok (.bl (decide (i<j))):=rfl
theorem Qiq(i j:Int):dLe (.int i) (.int j)=.ok (.bl (decide (i<=j))):=rfl
theorem Qpd(i j:Int):dGt (.int i) (.int j)=.ok (.bl (decide (j<i))):=rfl
theorem Qs9(i j:Int):dGe (.int i) (.int j)=.ok (.bl (decide (j<=i))):=rfl
theorem QM5{i j:Int}(h:(decide (0<=j)&&decide (j<=1000000)&&decide (i.natAbs<2 ^ 64))=true):dPow (.int i) (.int j)=.ok (.int (i ^ j.toNat)):=by
 show(if _=true then Out.ok (D.int (i ^ j.toNat)) else Out.stuck)=_
 rw[if_pos h]
mutual
def layD:D->Bool
 | .non=>true
 | .bl _=>true
 | .int _=>true
 | .str x=>PyData.strOk x
 | .lst xs=>layDs xs
 | .tup xs=>layDs xs
 | _=>false
def layDs:List D->Bool
 | []=>true
 | x::xs=>layD x&&layDs xs
end
mutual
def dep:D->Nat
 | .lst xs=>deps xs+1
 | .tup xs=>deps xs+1
 | _=>0
def deps:List D->Nat
 | []=>0
 | x::xs=>max (dep x) (deps xs)
end
mutual
theorem QJw:∀ d:D,layD d=true->d.py.canLay0=true
 | .non,_=>rfl
 | .bl _,_=>rfl
 | .int _,_=>rfl
 | .str x,h=>h
 | .lst xs,h=>Qyd xs h
 | .tup xs,h=>Qyd xs h
theorem Qyd:∀ ds:List D,layDs ds=true->PyData.canLayAll0 (D.pys ds)=true
 | [],_=>rfl
 | x::xs,h=>by
  rw[layDs,Bool.and_eq_true]at h
  rw[D.pys,PyData.canLayAll0,Bool.and_eq_true]
  exact⟨QJw x h.1,Qyd xs h.2⟩
end
mutual
theorem QJy:∀ d:D,layD d=true->d.py.depth=dep d
 | .non,_=>rfl
 | .bl _,_=>rfl
 | .int _,_=>rfl
 | .str x,h=>rfl
 | .lst xs,h=>by rw[D.py,PyData.depth,dep,QwR xs h]
 | .tup xs,h=>by rw[D.py,PyData.depth,dep,QwR xs h]
theorem QwR:∀ ds:List D,layDs ds=true->PyData.depthAll (D.pys ds)=deps ds
 | [],_=>rfl
 | x::xs,h=>by
  rw[layDs,Bool.and_eq_true]at h
  rw[D.pys,PyData.depthAll,deps,QJy x h.1,QwR xs h.2]
end
theorem QDo{d:D}(h:layD d=true)(hd:dep d<=64):shp d=true:=by
 unfold shp SeqAt.shaped
 rw[QJw d h,QJy d h]
 simpa using hd
theorem Qtd(i:Int):shp (.int i)=true:=QDo rfl (Nat.zero_le _)
theorem QJt(b:Bool):shp (.bl b)=true:=QDo rfl (Nat.zero_le _)
theorem QOd{x y:D}(hx:shp x=true)(hy:shp y=true):dEq x y=.ok (.bl (PyData.eqv x.py y.py)):=by
 unfold dEq;rw[hx,hy];rfl
theorem QDc{x y:D}(hx:shp x=true)(hy:shp y=true):dNe x y=.ok (.bl (!PyData.eqv x.py y.py)):=by
 unfold dNe;rw[hx,hy];rfl
theorem QG4(i j:Int):(i == j)=decide (i=j):=by
 by_cases h:i=j
 ·subst h;simp
 ·simp[h]
theorem Qid(i j:Int):dEq (.int i) (.int j)=.ok (.bl (decide (i=j))):=by
 rw[QOd (Qtd i) (Qtd j), ← QG4]
 rfl
theorem Qh2(i j:Int):dNe (.int i) (.int j)=.ok (.bl (!decide (i=j))):=by
 rw[QDc (Qtd i) (Qtd j), ← QG4]
 rfl
theorem QK6{body:D->SD->Out Fl}{P:SD->Prop}{xs:List D}(h:∀ x∈xs,∀ ς,P ς->∃ ς',body x ς=.ok (.nx ς')/\P ς'):∀ ς,P ς->∃ ς',loopD body xs ς=.ok (.nx ς')/\P ς':=by
 induction xs with
 | nil=>intro ς p;exact⟨ς,rfl,p⟩
 | cons x xs ih=>
  intro ς p
  obtain⟨ς1,e1,p1⟩:=h x List.mem_cons_self ς p
  obtain⟨ς2,e2,p2⟩:=ih (fun y hy=>h y (List.mem_cons_of_mem _ hy)) ς1 p1
  refine⟨ς2,?_,p2⟩
  rw[loopD,e1]
  exact e2
theorem QfF{n:Nat}(h:n<=1000:=by decide):fits n=true:=decide_eq_true (Nat.le_trans h (by decide))
theorem ixT{xs:List D}{x:D}(k:Nat)(h:xs[k]?=some x):dIx (.tup xs) (.int (k:Int))=.ok x:=by
 show optO (atI xs (k:Int))=_
 rw[QGW h];rfl
theorem ixL{xs:List D}{x:D}(k:Nat)(h:xs[k]?=some x):dIx (.lst xs) (.int (k:Int))=.ok x:=by
 show optO (atI xs (k:Int))=_
 rw[QGW h];rfl
theorem QNU(x:D)(xs:List D):dIx (.tup (x::xs)) (.int 0)=.ok x:=ixT 0 rfl
theorem QNj(x y:D)(xs:List D):dIx (.tup (x::y::xs)) (.int 1)=.ok y:=ixT 1 rfl
theorem QPC{α:Type}(xs:List α)(k:Nat):cutD xs none (some (k:Int))=xs.take k:=by
 unfold cutD
 rw[HT.sIx_none,HT.sIx_nat,List.drop_zero,Nat.sub_zero]
 by_cases h:k<=xs.length
 ·rw[Nat.min_eq_left h]
 ·rw[Nat.min_eq_right (by omega),List.take_of_length_le (Nat.le_refl _),List.take_of_length_le (by omega)]
theorem QOK{α:Type}(xs:List α)(i k:Nat):cutD xs (some (i:Int)) (some (k:Int))=(xs.drop i).take (k - i):=by
 unfold cutD
 rw[HT.sIx_nat,HT.sIx_nat]
 by_cases h:i<=xs.length
 ·rw[Nat.min_eq_left h]
  by_cases h2:k<=xs.length
  ·rw[Nat.min_eq_left h2]
  ·rw[Nat.min_eq_right (by omega),List.take_of_length_le (by rw[List.length_drop];exact Nat.le_refl _),List.take_of_length_le (by rw[List.length_drop];omega)]
 ·rw[show min i xs.length=xs.length by omega,List.drop_length,List.drop_eq_nil_of_le (by omega:xs.length<=i)];simp
theorem Qyo{xs ys:List D}(h:xs.length+ys.length<=1000):dCat (.lst xs) (.lst ys)=.ok (.lst (xs++ys)):=by
 show(if fits _=true then _ else _)=_
 rw[if_pos (QfF h)]
theorem Qbk{g:D->SD->Out SD}{its:SD->Out (List D)}{T:SD->Out Fl}{ς:SD}{xs:List D}{r:Out Fl}(h:its ς=.ok xs)(hL:loopD (fun x ς=>g x ς>>=fun ς'=>T ς') xs ς=r):sFor g its T ς=r:=by
 unfold sFor
 rw[h];exact hL
theorem QcP{A:SD->Out D}{ς:SD}(m:Nat)(h:A ς=.ok (.int (m:Int)))(hm:m<=1000000):itR1 A ς=.ok (Qcu 0 m):=by
 have hs:QeP (m:Int)=true:=by
  unfold QeP
  rw[Bool.and_eq_true]
  exact⟨decide_eq_true (by omega),decide_eq_true (by omega)⟩
 unfold itR1
 rw[h,Out.bind_ok]
 simp only[hs,if_true,Int.toNat_natCast]
end DL
namespace DL
open PySem PySem.Spec PyProof.Rows L2
theorem Qgg{body:D->SD->Out Fl}{P:Nat->SD->Prop}{n:Nat}(h:∀ k:Nat,k<n->∀ ς,P k ς->∃ ς',body (.int (k:Int)) ς=.ok (.nx ς')/\P (k+1) ς'):∀ ς,P 0 ς->∃ ς',loopD body (Qcu 0 n) ς=.ok (.nx ς')/\P n ς':=by
 have key:∀(j:Nat)(k:Nat),k+j=n->∀ ς,P k ς->∃ ς',loopD body ((List.range' k j).map fun(i:Nat)=>D.int ((0:Int)+i)) ς=.ok (.nx ς')/\P n ς':=by
  intro j
  induction j with
  | zero=>
   intro k hk ς p
   have:k=n:=by omega
   subst this
   exact⟨ς,rfl,p⟩
  | succ j ih=>
   intro k hk ς p
   obtain⟨ς1,e1,p1⟩:=h k (by omega) ς p
   obtain⟨ς2,e2,p2⟩:=ih (k+1) (by omega) ς1 p1
   refine⟨ς2,?_,p2⟩
   rw[List.range'_succ,List.map_cons,loopD,Int.zero_add,e1]
   exact e2
 intro ς p
 have:=key n 0 (by omega) ς p
 unfold Qcu
 rw[List.range_eq_range']
 exact this
theorem QCj{f:D->Out (Option D)}{h:D->Option D}:∀{xs:List D},(∀ x∈xs,f x=.ok (h x))->compM f xs=.ok (xs.filterMap h)
 | [],_=>rfl
 | x::xs,hf=>by
  rw[compM,hf x List.mem_cons_self,Out.bind_ok,QCj (xs:=xs) (fun y hy=>hf y (List.mem_cons_of_mem _ hy)),Out.bind_ok,List.filterMap_cons]
  cases h x<;>rfl
theorem Qsw{α:Type}(f:α->Bool):∀ xs:List α,blsOf (xs.map fun x=>D.bl (f x))=some (xs.map f)
 | []=>rfl
 | x::xs=>by rw[List.map_cons,blsOf,Qsw f xs];rfl
theorem QlM{α:Type}(f:α->Bool)(xs:List α):fAll (.lst (xs.map fun x=>D.bl (f x)))=.ok (.bl (xs.all f)):=by
 rw[fAll,Qsw]
 show Out.ok (D.bl ((xs.map f).all id))=_
 rw[List.all_map];rfl
theorem QEp{α:Type}(f:α->Bool)(xs:List α):fAny (.lst (xs.map fun x=>D.bl (f x)))=.ok (.bl (xs.any f)):=by
 rw[fAny,Qsw]
 show Out.ok (D.bl ((xs.map f).any id))=_
 rw[List.any_map];rfl
theorem Qia{n:Nat}(h:n<=1000):fits n=true:=QfF h
theorem QOH(a b:Bool):dNe (.bl a) (.bl b)=.ok (.bl (!(a == b))):=by
 rw[QDc (QJt a) (QJt b)]
 cases a<;>cases b<;>rfl
end DL
namespace DL
open PySem PySem.Spec L2
section
variable{i j:Nat}{d x y:D}{m:SM}{ς ς' ς1:SD}{E A B:SD->Out D}{AA:SD->Out (List D)}{f:D->Out D}{g:D->D->Out D}{h:List D->Out D}{r:Out D}{xs ys:List D}{T U:SD->Out Fl}{P Q:SD->Out Bool}{b c:Bool}{fl:Fl}{rf:Out Fl}{rb:Out Bool}
theorem r_var(e:ς[i]?=some (some (.k,d))):eVar i ς=.ok d:=by unfold eVar;rw[e]
theorem Qgs(e:ς[i]?=some (some (m,d))):eVarB i ς=.ok d:=by unfold eVarB;rw[e]
theorem r_C:eC d ς=.ok d:=rfl
theorem r_e1(a:A ς=.ok x)(k:f x=r):e1 f A ς=r:=by unfold e1;rw[a];exact k
theorem r_e2(a:A ς=.ok x)(a':B ς=.ok y)(k:g x y=r):e2 g A B ς=r:=by unfold e2;rw[a,Out.bind_ok,a'];exact k
theorem r_eA(a:AA ς=.ok xs)(k:h xs=r):eA h AA ς=r:=by unfold eA;rw[a];exact k
theorem QrK{dd:List D}(a:AA ς=.ok xs)(e:xs++dd=ys)(k:h ys=r):eA (fun xs=>h (xs++dd)) AA ς=r:=by unfold eA;rw[a];show h (xs++dd)=r;rw[e];exact k
theorem r_nil:aNil ς=.ok []:=rfl
theorem QA(a:A ς=.ok x)(k:AA ς=.ok xs):aCons A AA ς=.ok (x::xs):=by unfold aCons;rw[a,Out.bind_ok,k];rfl
theorem r_tup(a:AA ς=.ok xs)(k:xs.length<=1000):eTup AA ς=.ok (.tup xs):=by unfold eTup;rw[a,Out.bind_ok,if_pos (Qia k)]
theorem r_lst(a:AA ς=.ok xs)(k:xs.length<=1000):eLst AA ς=.ok (.lst xs):=by unfold eLst;rw[a,Out.bind_ok,if_pos (Qia k)]
theorem QOJ(a:A ς=.ok (.bl b)):tVal A ς=.ok b:=by unfold tVal;rw[a];rfl
theorem QO4(a:P ς=.ok b):tNot' P ς=.ok (!b):=by unfold tNot';rw[a];rfl
theorem r_or'(a:P ς=.ok b)(k:(if b=true then .ok true else Q ς)=rb):tOr' P Q ς=rb:=by unfold tOr';rw[a];exact k
theorem QOr(a:A ς=.ok (.bl b))(k:(if b=true then B ς else .ok (.bl false))=r):eAnd A B ς=r:=by unfold eAnd;rw[a];cases b<;>exact k
theorem r_eIf(a:P ς=.ok b)(k:(if b=true then A ς else B ς)=r):eIf P A B ς=r:=by unfold eIf;rw[a];exact k
theorem r_isa{F:D->Out Bool}(a:A ς=.ok x)(k:F x=.ok b):eIsa F A ς=.ok (.bl b):=by unfold eIsa;rw[a,Out.bind_ok,k];rfl
theorem QNG{g':D->D->Out D}{E':SD->Out D}(a:A ς=.ok x)(a':B ς=.ok y)(k:g x y=.ok (.bl b))(k':(if b=true then E' ς>>=fun w=>g' y w else .ok (.bl false))=r):Qfl g g' A B E' ς=r:=by unfold Qfl;rw[a,Out.bind_ok,a',Out.bind_ok,k];cases b<;>exact k'
theorem QPx{z:D}(a:E ς=.ok z)(k:f z=r):(E ς>>=fun w=>f w)=r:=by rw[a];exact k
theorem r_set(a:E ς=.ok d)(k:ς.set i (some (.k,d))=ς'):sSet i E ς=.ok (.nx ς'):=by unfold sSet;rw[a,Out.bind_ok,k]
theorem QeK(a:E ς=.ok d)(k:ς.set i (some (.o,d))=ς'):sSetO i E ς=.ok (.nx ς'):=by unfold sSetO;rw[a,Out.bind_ok,k]
theorem r_seq(a:T ς=.ok fl)(k:thenF U fl=rf):sSeq T U ς=rf:=by unfold sSeq;rw[a];exact k
theorem r_okR{α:Type}{a:α}:(Out.ok a)=Out.ok a:=rfl
theorem Qx(k:U ς=rf):thenF U (.nx ς)=rf:=k
theorem Qin{z:Bool}:thenF U (.rt z d)=.ok (.rt z d):=rfl
theorem r_if(a:P ς=.ok b)(k:(if b=true then T ς else U ς)=rf):sIf P T U ς=rf:=by unfold sIf;rw[a];exact k
theorem QLi{α:Type}{u v w:α}(a:b=true)(k:u=w):(if b=true then u else v)=w:=by rw[if_pos a];exact k
theorem QJQ{α:Type}{u v w:α}(a:b=false)(k:v=w):(if b=true then u else v)=w:=by subst a;exact k
theorem r_ret(a:E ς=.ok d):sRet E ς=.ok (.rt false d):=by unfold sRet;rw[a];rfl
theorem Qfk(a:E ς=.ok d):sRetF E ς=.ok (.rt true d):=by unfold sRetF;rw[a];rfl
theorem Qvt(e:ς[i]?=some (some (.o,d))):sRetO i ς=.ok (.rt true d):=by unfold sRetO;rw[e]
theorem Qhw:sNil ς=.ok (.nx ς):=rfl
theorem QG6{n:Nat}(k:n<=1000):decide (n<sizeLine)=true:=decide_eq_true (Nat.lt_of_le_of_lt k (by decide))
theorem r_app(e:ς[i]?=some (some (.o,.lst xs)))(a:E ς=.ok d)(k:xs.length<=1000)(l:ς.set i (some (.o,.lst (xs++[d])))=ς'):QbW i E ς=.ok (.nx ς'):=by
 unfold QbW;rw[e];show(E ς>>=fun d=>if decide (xs.length<sizeLine)=true then _ else _)=_;rw[a,Out.bind_ok,if_pos (QG6 k),l]
theorem r_put{I:SD->Out D}{k:Int}(a:E ς=.ok d)(e:ς[i]?=some (some (.o,.lst xs)))(a':I ς=.ok (.int k))(q:ixN xs.length k=some j)(l:ς.set i (some (.o,.lst (xs.set j d)))=ς'):sPutO i I E ς=.ok (.nx ς'):=by
 unfold sPutO;rw[a,Out.bind_ok,e]
 show(I ς>>=_)=_
 rw[a',Out.bind_ok]
 show(optO (ixN xs.length k)>>=_)=_
 rw[q]
 show Out.ok (Fl.nx (ς.set i (some (.o,.lst (xs.set j d)))))=_
 rw[l]
theorem QDU{o:Out D}(a:o=.ok d)(k:d.scal=true):Qo0 o=.ok d:=by unfold Qo0;rw[a,Out.bind_ok,if_pos k]
theorem Qrh{o:Out D}(a:o=.ok d)(k:d.scal=false):QfP o=.ok d:=by unfold QfP;rw[a,Out.bind_ok,k];rfl
theorem r_noX{α:Type}{o:Out α}{a:α}(k:o=.ok a):noX o=.ok a:=by rw[k];rfl
theorem r_sl{l u:SD->Out (Option Int)}{p q:Option Int}(a:A ς=.ok (.lst xs))(k1:l ς=.ok p)(k2:u ς=.ok q)(e:cutD xs p q=ys):eSl A l u ς=.ok (.lst ys):=by unfold eSl;rw[a,Out.bind_ok,k1,Out.bind_ok,k2,Out.bind_ok];show Out.ok (D.lst _)=_;rw[e]
theorem QG2{k:Int}(a:E ς=.ok (.int k)):oSome E ς=.ok (some k):=by unfold oSome;rw[a];rfl
theorem Qy4:QaB [] [] ς=.ok ς:=rfl
theorem Qzc{is:List Nat}{rs:Out SD}(a:ς.set i (some (.k,d))=ς1)(k:QaB is ys ς1=rs):QaB (i::is) (d::ys) ς=rs:=by show QaB is ys (ς.set i (some (.k,d)))=rs;rw[a];exact k
theorem Qct{fr:Bool}(a:T ς=.ok fl)(k:retF fr fl=r):(T ς>>=retF fr)=r:=by rw[a];exact k
theorem r_rt{z:Bool}:retF false (.rt z d)=.ok d:=by unfold retF;simp
theorem r_rtT:retF true (.rt true d)=.ok d:=by unfold retF;simp
theorem r_gN{L:SD->Out Fl}(a:ς.set i (some (.k,d))=ς1)(k:L ς1=rf):(gN i d ς>>=fun ς'=>L ς')=rf:=by unfold gN;rw[a];exact k
theorem r_gT{L:SD->Out Fl}{is:List Nat}(a:QaB is ys ς=.ok ς1)(k:L ς1=rf):(gT is (.tup ys) ς>>=fun ς'=>L ς')=rf:=by unfold gT;show(QaB is ys ς>>=fun ς'=>L ς')=rf;rw[a];exact k
theorem QoF{cl:Str}{fds:List (Str×D)}{mk:Str->List (Str×D)->List D->Out (List (Str×D))}(a:AA ς=.ok xs)(k:mk cl [] xs=.ok fds):eMake cl mk AA ς=.ok (.ins cl fds):=by unfold eMake;rw[a,Out.bind_ok,k];rfl
theorem QM1{cs:List Str}{n cl:Str}{fds fds':List (Str×D)}{mk:Str->List (Str×D)->List D->Out (List (Str×D))}(e:ς[i]?=some (some (.s,.ins cl fds)))(k1:cs.contains cl=true)(k2:fds.lookup n=none)(a:AA ς=.ok xs)(k:mk cl fds xs=.ok fds')(l:ς.set i (some (.s,.ins cl fds'))=ς'):Qju cs n mk i AA ς=.ok (.nx ς'):=by
 unfold Qju;rw[e]
 show(if (cs.contains cl&&(fds.lookup n).isNone)=true then _ else _)=_
 rw[k1,k2]
 show(AA ς>>=_)=_
 rw[a,Out.bind_ok,k,Out.bind_ok,l]
theorem r_itL(a:E ς=.ok (.lst xs)):itL E ς=.ok xs:=by unfold itL;rw[a];rfl
theorem r_itE(a:E ς=.ok (.lst xs)):itE E ς=.ok (enumD 0 xs):=by unfold itE;rw[a];rfl
theorem r_itZ(a:A ς=.ok (.lst xs))(a':B ς=.ok (.lst ys)):itZ A B ς=.ok (List.zipWith (fun a b=>.tup [a,b]) xs ys):=by unfold itZ;rw[a,Out.bind_ok,a'];rfl
end
theorem QOf{T:SD->Out Fl}{ς τ:SD}{c:Str}{fds:List (Str×D)}(a:T ς=.ok (.nx (some (.s,.ins c fds)::τ))):(T ς>>=Qfp c)=.ok fds:=by
 rw[a];simp[Qfp,Qrw]
theorem c_nil{ς:SD}:captD [] ς=[]:=rfl
theorem Qjm{ς τ:SD}{js:List (Option Nat)}(k:captD js ς=τ):captD (none::js) ς=none::τ:=by rw[← k];rfl
theorem c_k{ς τ:SD}{js:List (Option Nat)}{j:Nat}{d:D}(e:ς[j]?=some (some (.k,d)))(k:captD js ς=τ):captD (some j::js) ς=some (.k,d)::τ:=by
 rw[← k];show captS ς j::_=_;unfold captS;rw[e];rfl
theorem Q9{js:List (Option Nat)}{i:Nat}{e:SD->Out D}{ς τ0 τ:SD}{x d:D}(c:captD js ς=τ0)(a:τ0.set i (some (.k,x))=τ)(k:e τ=.ok d):turnC js (gN i) cTrue e ς x=.ok (some d):=by
 unfold turnC gN cTrue
 rw[c,a,Out.bind_ok,Out.bind_ok,if_pos rfl,k];rfl
theorem Qx5{js:List (Option Nat)}{is:List Nat}{e:SD->Out D}{ς τ0 τ:SD}{xs:List D}{d:D}(c:captD js ς=τ0)(a:QaB is xs τ0=.ok τ)(k:e τ=.ok d):turnC js (gT is) cTrue e ς (.tup xs)=.ok (some d):=by
 unfold turnC gT cTrue
 show((QaB is xs (captD js ς))>>=_)=_
 rw[c,a,Out.bind_ok,Out.bind_ok,if_pos rfl,k];rfl
theorem QLG{js:List (Option Nat)}{is:List Nat}{q:SD->Out Bool}{e:SD->Out D}{ς τ0 τ:SD}{xs:List D}{d:D}{b:Bool}(c:captD js ς=τ0)(a:QaB is xs τ0=.ok τ)(h:q τ=.ok b)(k:e τ=.ok d):turnC js (gT is) q e ς (.tup xs)=.ok (if b=true then some d else none):=by
 unfold turnC gT
 show((QaB is xs (captD js ς))>>=_)=_
 rw[c,a,Out.bind_ok,h,Out.bind_ok,k];cases b<;>rfl
theorem QZ{α:Type}{js:List (Option Nat)}{its:SD->Out (List D)}{g:D->SD->Out SD}{e:SD->Out D}{ς:SD}{l:List α}(f:α->D)(h:α->D)(hi:its ς=.ok (l.map f))(ht:∀ x∈l,turnC js g cTrue e ς (f x)=.ok (some (h x)))(hl:l.length<=1000):
 eComp js its g cTrue e ς=.ok (.lst (l.map h)):=by
 have go:∀ l:List α,(∀ x∈l,turnC js g cTrue e ς (f x)=.ok (some (h x)))->compM (turnC js g cTrue e ς) (l.map f)=.ok (l.map h):=by
  intro l
  induction l with
  | nil=>intro _;rfl
  | cons x xs ih=>
   intro H
   have h1:=H x (List.mem_cons_self ..)
   have h2:=ih fun y hy=>H y (List.mem_cons_of_mem _ hy)
   show compM (turnC js g cTrue e ς) (f x::xs.map f)=_
   unfold compM
   rw[h1,Out.bind_ok,h2];rfl
 unfold eComp
 rw[hi,Out.bind_ok,go l ht,Out.bind_ok,if_pos (Qia (by rw[List.length_map];exact hl))]
theorem Qud{js:List (Option Nat)}{its:SD->Out (List D)}{g:D->SD->Out SD}{e:SD->Out D}{ς:SD}{n:Nat}(h:Nat->D)(hi:its ς=.ok (Qcu 0 n))(ht:∀ k:Nat,k<n->turnC js g cTrue e ς (.int (k:Int))=.ok (some (h k)))(hl:n<=1000):
 eComp js its g cTrue e ς=.ok (.lst ((List.range n).map h)):=by
 refine QZ (fun i:Nat=>D.int (0+(i:Int))) h hi (fun k hk=>?_) (by rw[List.length_range];exact hl)
 show turnC js g cTrue e ς (.int (0+(k:Int)))=_
 rw[Int.zero_add]
 exact ht k (List.mem_range.mp hk)
theorem r_get{ς:SD}{i:Nat}{m:SM}{d:D}(h:ς[i]?=some (some (m,d))):ς[i]?=some (some (m,d)):=h
theorem r_len{n:Nat}(h:n<=1000):n<=1000:=h
theorem r_id{α:Type}{a b:α}(h:a=b):a=b:=h
theorem QMZ{n:Str}:List.lookup n ([]:List (Str×D))=none:=rfl
theorem QOU{α:Type}{x:α}{xs:List α}:(x::xs)[0]?=some x:=rfl
theorem QO8{α:Type}{x:α}{xs:List α}{n:Nat}{r:Option α}(h:xs[n]?=r):(x::xs)[n+1]?=r:=by rw[List.getElem?_cons_succ];exact h
theorem QJP{α:Type}{x y:α}{xs:List α}:(x::xs).set 0 y=y::xs:=rfl
theorem QJD{α:Type}{x y:α}{xs ys:List α}{n:Nat}(h:xs.set n y=ys):(x::xs).set (n+1) y=x::ys:=by rw[List.set_cons_succ,h]
theorem QOD{α:Type}{ys:List α}:[]++ys=ys:=rfl
theorem QPw{α:Type}{x:α}{xs ys zs:List α}(h:xs++ys=zs):x::xs++ys=x::zs:=by rw[List.cons_append,h]
theorem QK4{i j:Int}{m n:Nat}(a:bitsI i<=m)(b:bitsI j<=n):bitsI (i+j)<=m+n+1:=by
 have a:=Qib a
 have b:=Qib b
 refine Qan ?_
 have c1:2 ^ m<=2 ^ (m+n):=Nat.pow_le_pow_right (by decide) (by omega)
 have c2:2 ^ n<=2 ^ (m+n):=Nat.pow_le_pow_right (by decide) (by omega)
 rw[Nat.pow_succ]
 omega
theorem QJT{i j:Int}{m n:Nat}(a:bitsI i<=m)(b:bitsI j<=n):bitsI (i * j)<=m+n:=by
 have a:=Qib a
 have b:=Qib b
 refine Qan ?_
 rw[Int.natAbs_mul,Nat.pow_add]
 exact Nat.mul_lt_mul'' a b
theorem QLp{i j:Int}{n:Nat}(a:bitsI i<=n):bitsI (i / j)<=n:=by
 have a:=Qib a
 exact Qan (Nat.lt_of_le_of_lt (Int.natAbs_ediv_le_natAbs i j) a)
end DL
set_option maxHeartbeats 4000000
namespace My
open PySem PySem.Spec L2 DL
def top(i:Nat):Stmt:=PySem.Challenge.pw_dockethall_k45_is_unrest.main.body.getD i (.Pass ⟨0,0,0,0⟩)
def Qj:List Str:=["Deal","Bundle","Copy","Rows","Office"]
def Qc:List Str:=["Deal","Bundle","Copy","Rows"]
def QB:List Str:=["Office"]
abbrev Qci:Stmt:=top 55
theorem QDB:Qr ["_law_cell_here","_law_k"] ["_law_cell_here","_law_k"] (Qa Qci):=⟨rfl,rfl,rfl,dk,rfl,dk,dk⟩
noncomputable section
abbrev Lo(s:Stmt)(n:String):Prop:=(Qa s).names.lookup (n:Str)=some NameKind.local
abbrev Gl(s:Stmt)(n:String):Prop:=(Qa s).names.lookup (n:Str)=some NameKind.globalImplicit
variable{P:Program}{w:World}{K:PySem.W.Frag}{mg:Str->Option Value}{base:Heap}{CT:CTab}{f:Addr}{fd:FuncData}{dV:Value}
theorem Qj5:Lo Qci "_law_cell_here":=dk
theorem Qjo:Lo Qci "_law_k":=dk
def QoA:SD->Out Fl:=(sRet (e2 dMod (e2 dMul (e2 dAdd (e2 dMod (eVar 0) (eC (.int 2147483647))) (eC (.int 11))) (e2 dAdd (eC (.int 48271)) (e2 dMul (e2 dMul (eC (.int 2)) (eVar 1)) (eVar 1)))) (eC (.int 2147483629))))
def QaH:List D->Out D:=bodyF false 2 2 QoA
theorem QGP(F:FunV K "_law_mixed" "_law_mixed" Qci f fd dV)  : FnOk P w K mg base CX0 1 f fd ["_law_cell_here","_law_k"] (SpD K CT false QaH):=
 @fnV P w K mg base CT false "_law_mixed" "_law_mixed" Qci f fd dV ["_law_cell_here","_law_k"] ["_law_cell_here","_law_k"] 0 QoA F QDB fun cdv A outer s H E G hr=>
  (Qh (QQ (Qac (DE.db (QcJ (DE.db (Qas (DE.db (Qac (DE.db (Qb 0 rfl (oi Qj5))) (DE.db Qe))) (DE.db Qe))) (DE.db (Qas (DE.db Qe) (DE.db (QcJ (DE.db (QcJ (DE.db Qe) (DE.db (Qb 1 rfl (oi Qjo))))) (DE.db (Qb 1 rfl (oi Qjo))))))))) (DE.db Qe))))
abbrev Qcg:Stmt:=top 54
theorem QEr:Qr ["_law_script","_law_k"] ["_law_script","_law_k"] (Qa Qcg):=⟨rfl,rfl,rfl,dk,rfl,dk,dk⟩
theorem QkD:Lo Qcg "_law_k":=dk
theorem Qgf:Lo Qcg "_law_script":=dk
theorem Qyt:Gl Qcg "len":=dk
def QhU:SD->Out Fl:=(sSeq (sIf (tVal (e2 dLt (eVar 1) (eA fLen (aCons (eVar 0) aNil)))) (sRet (e2 dIx (eVar 0) (eVar 1))) sNil) (sRet (eC (.int 0))))
def QbS:List D->Out D:=bodyF false 2 2 QhU
theorem QvS(d0 d1:D):QbS [d0,d1]=(QhU [some (.k,d0),some (.k,d1)]>>=retF false):=rfl
theorem QI9(F:FunV K "_law_cell" "_law_cell" Qcg f fd dV)(z_len:mg "len"=none):FnOk P w K mg base CX0 1 f fd ["_law_script","_law_k"] (SpD K CT false QbS):=
 @fnV P w K mg base CT false "_law_cell" "_law_cell" Qcg f fd dV ["_law_script","_law_k"] ["_law_script","_law_k"] 0 QhU F QEr fun cdv A outer s H E G hr=>
  (Qg (ds_if (dt_lt (DE.db (Qb 1 rfl (oi QkD))) (DE.db (Q3 Qyt z_len (Qm (DE.db (Qb 0 rfl (oi Qgf))) Qu)))) (Qh (QQ (de_ix (Qb 0 rfl (oi Qgf)) (DE.db (Qb 1 rfl (oi QkD)))))) Q4) (Qh (QQ Qe)))
abbrev QbC:Stmt:=top 23
theorem QHX:Qr ["one","other"] ["one","other"] (Qa QbC):=⟨rfl,rfl,rfl,dk,rfl,dk,dk⟩
theorem QAB:Lo QbC "one":=dk
theorem Qwb:Lo QbC "other":=dk
theorem QAb:Gl QbC "zip":=dk
abbrev Qlp:PySem.Scope:={ kind:=PySem.ScopeKind.function,names:=[ (PySem.Str.ofString ".0",PySem.NameKind.local),(PySem.Str.ofString "each",PySem.NameKind.local),(PySem.Str.ofString "more",PySem.NameKind.local)],isGenerator:=false,isCoroutine:=false,more:=[]:PySem.Scope }
theorem Qoq:QD ["each","more"] [none,none] Qlp (Qa QbC) ["one","other"]:=⟨rfl,dk,dk,rfl,dk,dk⟩
theorem QfT:(Qf Qlp (Qa QbC)).names.lookup ("more":Str)=some NameKind.local:=dk
theorem QfY:(Qf Qlp (Qa QbC)).names.lookup ("each":Str)=some NameKind.local:=dk
def QtX:SD->Out D:=(e2 dAdd (eVar 0) (eVar 1))
def QmF:SD->Out Fl:=(sRetF (eComp [none,none] (itZ (eVar 0) (eVar 1)) (gT [0,1]) cTrue QtX))
def Qed:List D->Out D:=bodyF true 2 2 QmF
theorem QKD(d0 d1:D):Qed [d0,d1]=(QmF [some (.k,d0),some (.k,d1)]>>=retF true):=rfl
theorem QJ2(F:FunV K "sums_of" "sums_of" QbC f fd dV)(z_zip:mg "zip"=none):FnOk P w K mg base CX0 1 f fd ["one","other"] (SpD K CT true Qed):=
 @fnV P w K mg base CT true "sums_of" "sums_of" QbC f fd dV ["one","other"] ["one","other"] 0 QmF F QHX fun cdv A outer s H E G hr=>
  (Qh (Qbj (QP rfl Qoq (DI.b (Qja QAb z_zip (Qb 0 rfl (oi QAB)) (Qb 1 rfl (oi Qwb)))) (fun ς=>Qit (fun i hi=>Qq (by revert hi;revert i;decide) ς)) (QcR _) (fun fp s H G p=>⟨(Qfq rfl (QY (i:=0) Qoq.nd rfl (oi QfY) (QY (i:=1) Qoq.nd rfl (oi QfT) QcE (hf:=Or.inr QfT)) (hf:=Or.inr QfY))),QJ,(Qas (DE.db (Qb 0 rfl (oi QfY))) (DE.db (Qb 1 rfl (oi QfT))))⟩))))
abbrev Qae:Stmt:=top 24
theorem QhJ:Qr ["rows","sums","row"] ["rows"] (Qa Qae):=⟨rfl,rfl,rfl,dk,rfl,dk,dk⟩
theorem QhX:Lo Qae "rows":=dk
abbrev QkE:PySem.Scope:={ kind:=PySem.ScopeKind.function,names:=[(PySem.Str.ofString ".0",PySem.NameKind.local),(PySem.Str.ofString "each",PySem.NameKind.local)],isGenerator:=false,isCoroutine:=false,more:=[]:PySem.Scope }
theorem QlF:QD ["each"] [none] QkE (Qa Qae) ["rows","sums","row"]:=⟨rfl,dk,dk,rfl,dk,dk⟩
theorem Qgm:(Qf QkE (Qa Qae)).names.lookup ("each":Str)=some NameKind.local:=dk
def QgU:SD->Out D:=(eC (.int 0))
theorem QcY:Lo Qae "sums":=dk
theorem Qjt:Lo Qae "row":=dk
theorem Qny:Gl Qae "sums_of":=dk
def QcH:SD->Out Fl:=(QbW 1 (eA (fun xs=>Qed (xs++[])) (aCons (eIxO 1 (e1 dNeg (eC (.int 1)))) (aCons (eVar 2) aNil))))
def QfE:SD->Out Fl:=(sSeq (sSetO 1 (eLst (aCons (eComp [none] (itL (e2 dIx (eVar 0) (eC (.int 0)))) (gN 0) cTrue QgU) aNil))) (sSeq (sFor (gN 2) (itL (eVar 0)) QcH) (sRetO 1)))
def Qbe:List D->Out D:=bodyF true 1 3 QfE
theorem QxH(d0:D):Qbe [d0]=(QfE [some (.k,d0),none,none]>>=retF true):=rfl
theorem Qye(F:FunV K "running_sums" "running_sums" Qae f fd dV)(QJ7:DefOk P w K mg base CT "sums_of" 1 true [] Qed):FnOk P w K mg base CX0 2 f fd ["rows"] (SpD K CT true Qbe):=
 @fnV P w K mg base CT true "running_sums" "running_sums" Qae f fd dV ["rows","sums","row"] ["rows"] 1 QfE F QhJ fun cdv A outer s H E G hr=>
  (Qg (QeM (i:=1) QhJ.nd rfl (oi QcY) (QaP (Qd (DF.de (QP rfl QlF (DI.b (Qai (de_ix (Qb 0 rfl (oi QhX)) (DE.db Qe)))) (fun ς=>QI (Qq rfl ς)) (Qy _) (fun fp s H G p=>⟨(QC (i:=0) QlF.nd rfl (oi Qgm) (hf:=Or.inr Qgm)),QJ,Qe⟩))) Qi))) (Qg (QbX PassesOwn.never rfl (Qai (Qb 0 rfl (oi QhX))) (QC (i:=2) QhJ.nd rfl (oi Qjt)) (Qy _) (Qh (Qda 1 (de_f QJ7 (hr.mono (by decide)) (Qd (QPz 1 (DE.db (Qjn (DE.db Qe))) rfl (oi QcY)) (Qd (Qb 2 rfl (oi Qjt)) Qi)) Qny) rfl (oi QcY)))) (Qh (QoN 1 rfl (oi QcY)))))
abbrev QX:Stmt:=inCls (top 25) 1
theorem QrH:Qr ["self","rows"] ["self","rows"] (Qa QX):=⟨rfl,rfl,rfl,dk,rfl,dk,dk⟩
theorem Qge:Lo QX "rows":=dk
abbrev Qen:PySem.Scope:={ kind:=PySem.ScopeKind.function,names:=[ (PySem.Str.ofString ".0",PySem.NameKind.local),(PySem.Str.ofString "row",PySem.NameKind.local),(PySem.Str.ofString "list",PySem.NameKind.globalImplicit)],isGenerator:=false,isCoroutine:=false,more:=[]:PySem.Scope }
theorem QhZ:QD ["row"] [none] Qen (Qa QX) ["self","rows"]:=⟨rfl,dk,dk,rfl,dk,dk⟩
theorem QcQ:(Qf Qen (Qa QX)).names.lookup ("row":Str)=some NameKind.local:=dk
theorem Qk6:(Qf Qen (Qa QX)).names.lookup ("list":Str)=some NameKind.globalImplicit:=dk
def QeU:SD->Out D:=(e1 dList (eVar 0))
theorem Qgn:Lo QX "self":=dk
theorem Qht:Gl QX "running_sums":=dk
def QdJ:SD->Out Fl:=(sSeq (fun ς=>noX (sFldS Qj "table" 0 (eComp [none] (itL (eVar 1)) (gN 0) cTrue QeU) ς)) (fun ς=>noX (sFldS Qj "heads" 0 (eA (fun xs=>Qbe (xs++[])) (aCons (eVar 1) aNil)) ς)))
def QU:Str->List (Str×D)->List D->Out (List (Str×D)):=bodyI 2 2 QdJ
theorem Qto(c:Str)(fds:List (Str×D))(d1:D):QU c fds [d1]=(QdJ [some (.s,.ins c fds),some (.k,d1)]>>=Qfp c):=rfl
theorem Qtx(F:FunV K "keep_rows" "Clerk.keep_rows" QX f fd dV)(Qxk:DefOk P w K mg base CT "running_sums" 2 true [] Qbe)(z_list:mg "list"=none)(fo_table:FldOk K CT Qj "table")(fo_heads:FldOk K CT Qj "heads"):FnOk P w K mg base (CXR P w) 3 f fd ["self","rows"] (SpI K CT QU):=
 @fnI P w K mg base CT "keep_rows" "Clerk.keep_rows" QX f fd dV ["self","rows"] ["self","rows"] 2 QdJ F QrH fun cdv A outer s H E G p hr=>
  (Qg (DS.lift (Qg2 0 fo_table (DF.de (QP rfl QhZ (DI.b (Qai (Qb 1 rfl (oi Qge)))) (fun ς=>QI (Qq rfl ς)) (Qy _) (fun fp s H G p=>⟨(QC (i:=0) QhZ.nd rfl (oi QcQ) (hf:=Or.inr QcQ)),QJ,(DF.de (QgW Qk6 z_list (Qb 0 rfl (oi QcQ))))⟩))) rfl (oi Qgn))) (Qh (DS.lift (Qg2 0 fo_heads (de_f Qxk (hr.mono (by decide)) (Qd (Qb 1 rfl (oi Qge)) Qi) Qht) rfl (oi Qgn)))))
abbrev QbT:Stmt:=top 6
theorem QFD:Qr ["thing"] ["thing"] (Qa QbT):=⟨rfl,rfl,rfl,dk,rfl,dk,dk⟩
theorem Qme:Lo QbT "thing":=dk
theorem Qyk:Gl QbT "int":=dk
theorem QgZ:Gl QbT "isinstance":=dk
theorem Qv7:Gl QbT "bool":=dk
def Qk5:SD->Out Fl:=(sRet (eAnd (eIsa (isaT "int") (eVar 0)) (eNot (eIsa (isaT "bool") (eVar 0)))))
def Qcv:List D->Out D:=bodyF false 1 1 Qk5
theorem QIy(d0:D):Qcv [d0]=(Qk5 [some (.k,d0)]>>=retF false):=rfl
theorem QHB(F:FunV K "is_whole" "is_whole" QbT f fd dV)(z_isinstance:mg "isinstance"=none)(z_int:mg "int"=none)(z_bool:mg "bool"=none):FnOk P w K mg base CX0 1 f fd ["thing"] (SpD K CT false Qcv):=
 @fnV P w K mg base CT false "is_whole" "is_whole" QbT f fd dV ["thing"] ["thing"] 0 Qk5 F QFD fun cdv A outer s H E G hr=>
  (Qh (QQ (QeJ (QdQ "int" QNo Qyk z_int PyProof.Rows.Boot.«int» QgZ z_isinstance (DE.db (Qb 0 rfl (oi Qme)))) (Qjs (QO2 (QdQ "bool" QA1 Qv7 z_bool PyProof.Rows.Boot.«bool» QgZ z_isinstance (DE.db (Qb 0 rfl (oi Qme)))))))))
abbrev Qbl:Stmt:=top 7
theorem QCe:Qr ["thing","least","most"] ["thing","least","most"] (Qa Qbl):=⟨rfl,rfl,rfl,dk,rfl,dk,dk⟩
theorem QkF:Lo Qbl "thing":=dk
theorem Qp7:Gl Qbl "is_whole":=dk
theorem QtB:Lo Qbl "least":=dk
theorem Qux:Lo Qbl "most":=dk
def QiG:SD->Out Fl:=(sRet (eAnd (eA (fun xs=>Qcv (xs++[])) (aCons (eVar 0) aNil)) (Qfl dLe dLe (eVar 1) (eVar 0) (eVar 2))))
def QaG:List D->Out D:=bodyF false 3 3 QiG
theorem QE6(d0 d1 d2:D):QaG [d0,d1,d2]=(QiG [some (.k,d0),some (.k,d1),some (.k,d2)]>>=retF false):=rfl
theorem QFL(F:FunV K "is_within" "is_within" Qbl f fd dV)(QpB:DefOk P w K mg base CT "is_whole" 1 false [] Qcv):FnOk P w K mg base CX0 2 f fd ["thing","least","most"] (SpD K CT false QaG):=
 @fnV P w K mg base CT false "is_within" "is_within" Qbl f fd dV ["thing","least","most"] ["thing","least","most"] 1 QiG F QCe fun cdv A outer s H E G hr=>
  (Qh (QQ (QeJ (de_f QpB (hr.mono (by decide)) (Qd (Qb 0 rfl (oi QkF)) Qi) Qp7) (Qjs (QD7 op_le Qb7 (Qbw fun _ _=>rfl) op_le Qb7 (Qbw fun _ _=>rfl) (DE.db (Qb 1 rfl (oi QtB))) (DE.db (Qb 0 rfl (oi QkF))) (DE.db (Qb 2 rfl (oi Qux))))))))
abbrev QaV:Stmt:=top 31
theorem QLx:Qr ["thing"] ["thing"] (Qa QaV):=⟨rfl,rfl,rfl,dk,rfl,dk,dk⟩
theorem Qir:Lo QaV "thing":=dk
theorem QAd:Gl QaV "list":=dk
theorem Qq1:Gl QaV "isinstance":=dk
theorem QBj:Gl QaV "len":=dk
theorem QrM:Gl QaV "MOST_OUTS":=dk
abbrev Qi1:PySem.Scope:={ kind:=PySem.ScopeKind.function,names:=[ (PySem.Str.ofString ".0",PySem.NameKind.local),(PySem.Str.ofString "count",PySem.NameKind.local),(PySem.Str.ofString "is_within",PySem.NameKind.globalImplicit),(PySem.Str.ofString "MOST_SENT",PySem.NameKind.globalImplicit)],isGenerator:=false,isCoroutine:=false,more:=[]:PySem.Scope }
theorem Qvz:QD ["count"] [none] Qi1 (Qa QaV) ["thing"]:=⟨rfl,dk,dk,rfl,dk,dk⟩
theorem QfW:(Qf Qi1 (Qa QaV)).names.lookup ("count":Str)=some NameKind.local:=dk
theorem Qpe:(Qf Qi1 (Qa QaV)).names.lookup ("MOST_SENT":Str)=some NameKind.globalImplicit:=dk
theorem Qo2:(Qf Qi1 (Qa QaV)).names.lookup ("is_within":Str)=some NameKind.globalImplicit:=dk
def QpJ:SD->Out D:=(eA (fun xs=>QaG (xs++[])) (aCons (eVar 0) (aCons (eC (.int 0)) (aCons (eC (.int 9)) aNil))))
theorem QDk:Gl QaV "all":=dk
def Qqv:SD->Out Fl:=(sSeq (sIf (tOr' (tNot' (tVal (eIsa (isaT "list") (eVar 0)))) (tVal (e2 dGt (eA fLen (aCons (eVar 0) aNil)) (eC (.int 6))))) (sRet (eC (.bl false))) sNil) (sRet (eA (f1 fAll) (aCons (eComp [none] (itL (eVar 0)) (gN 0) cTrue QpJ) aNil))))
def Qeq:List D->Out D:=bodyF false 1 1 Qqv
theorem QLO(d0:D):Qeq [d0]=(Qqv [some (.k,d0)]>>=retF false):=rfl
theorem QMx{u_MOST_OUTS:Value}{u_MOST_SENT:Value}(F:FunV K "is_row" "is_row" QaV f fd dV)(Qde:DefOk P w K mg base CT "is_within" 2 false [] QaG)(z_isinstance:mg "isinstance"=none)(z_list:mg "list"=none)(z_len:mg "len"=none)(z_all:mg "all"=none)(c_MOST_OUTS:mg "MOST_OUTS"=some u_MOST_OUTS)(r_MOST_OUTS:RelV (toV (.int 6)) u_MOST_OUTS)(c_MOST_SENT:mg "MOST_SENT"=some u_MOST_SENT)(r_MOST_SENT:RelV (toV (.int 9)) u_MOST_SENT):FnOk P w K mg base CX0 3 f fd ["thing"] (SpD K CT false Qeq):=
 @fnV P w K mg base CT false "is_row" "is_row" QaV f fd dV ["thing"] ["thing"] 2 Qqv F QLx fun cdv A outer s H E G hr=>
  (Qg (ds_if (DW.dt (dw_or (QaN (Qa0 (QdQ "list" Qqp QAd z_list PyProof.Rows.Boot.«list» Qq1 z_isinstance (DE.db (Qb 0 rfl (oi Qir)))))) (Qgc (dt_gt (DE.db (Q3 QBj z_len (Qm (DE.db (Qb 0 rfl (oi Qir))) Qu))) (DE.db (QeN (d:=(.int 6)) QrM c_MOST_OUTS rfl r_MOST_OUTS)))))) (Qh (QQ de_bl)) Q4) (Qh (QQ (Qgi rfl QDk z_all (Qm (DE.db (DF.de (QP rfl Qvz (DI.b (Qai (Qb 0 rfl (oi Qir)))) (fun ς=>QI (Qq rfl ς)) (Qy _) (fun fp s H G p=>⟨(QC (i:=0) Qvz.nd rfl (oi QfW) (hf:=Or.inr QfW)),QJ,(de_f Qde (hr.mono (by decide)) (Qd (Qb 0 rfl (oi QfW)) (Qd Qe (Qd (QeN (d:=(.int 9)) Qpe c_MOST_SENT rfl r_MOST_SENT) Qi))) Qo2)⟩)))) Qu)))))
abbrev Q5:Stmt:=top 32
theorem QFN:Qr ["thing"] ["thing"] (Qa Q5):=⟨rfl,rfl,rfl,dk,rfl,dk,dk⟩
theorem Qei:(Qa Q5).names.lookup ("thing":Str)=some NameKind.cell:=dk
theorem Qwp:Gl Q5 "list":=dk
theorem QoC:Gl Q5 "isinstance":=dk
theorem QxT:Gl Q5 "len":=dk
theorem Qpv:Gl Q5 "MOST_ROWS":=dk
abbrev Qkd:PySem.Scope:={ kind:=PySem.ScopeKind.function,names:=[ (PySem.Str.ofString ".0",PySem.NameKind.local),(PySem.Str.ofString "row",PySem.NameKind.local),(PySem.Str.ofString "is_row",PySem.NameKind.globalImplicit)],isGenerator:=false,isCoroutine:=false,more:=[]:PySem.Scope }
theorem QsB:QD ["row"] [none] Qkd (Qa Q5) ["thing"]:=⟨rfl,dk,dk,rfl,dk,dk⟩
theorem Qf0:(Qf Qkd (Qa Q5)).names.lookup ("row":Str)=some NameKind.local:=dk
theorem Qp3:(Qf Qkd (Qa Q5)).names.lookup ("is_row":Str)=some NameKind.globalImplicit:=dk
def Qlu:SD->Out D:=(eA (fun xs=>Qeq (xs++[])) (aCons (eVar 0) aNil))
theorem QoZ:Gl Q5 "all":=dk
abbrev Qgw:PySem.Scope:={ kind:=PySem.ScopeKind.function,names:=[ (PySem.Str.ofString ".0",PySem.NameKind.local),(PySem.Str.ofString "row",PySem.NameKind.local),(PySem.Str.ofString "len",PySem.NameKind.globalImplicit),(PySem.Str.ofString "thing",PySem.NameKind.free)],isGenerator:=false,isCoroutine:=false,more:=[]:PySem.Scope }
theorem QsJ:QD ["row","thing"] [none,some 0] Qgw (Qa Q5) ["thing"]:=⟨rfl,dk,dk,rfl,dk,dk⟩
theorem QfU:(Qf Qgw (Qa Q5)).names.lookup ("row":Str)=some NameKind.local:=dk
theorem QkH:(Qf Qgw (Qa Q5)).names.lookup ("len":Str)=some NameKind.globalImplicit:=dk
theorem Qre:(Qf Qgw (Qa Q5)).names.lookup ("thing":Str)=some NameKind.cell:=dk
def Qlf:SD->Out D:=(e2 dEq (eA fLen (aCons (eVar 0) aNil)) (eA fLen (aCons (e2 dIx (eVar 1) (eC (.int 0))) aNil)))
def Qk2:SD->Out Fl:=(sSeq (sIf (tOr' (tNot' (tVal (eIsa (isaT "list") (eVar 0)))) (tNot' (tVal (Qfl dLe dLe (eC (.int 1)) (eA fLen (aCons (eVar 0) aNil)) (eC (.int 12)))))) (sRet (eC (.bl false))) sNil) (sSeq (sIf (tNot' (tVal (eA (f1 fAll) (aCons (eComp [none] (itL (eVar 0)) (gN 0) cTrue Qlu) aNil)))) (sRet (eC (.bl false))) sNil) (sRet (eA (f1 fAll) (aCons (eComp [none,some 0] (itL (eVar 0)) (gN 0) cTrue Qlf) aNil)))))
def Qew:List D->Out D:=bodyF false 1 1 Qk2
theorem QHF(d0:D):Qew [d0]=(Qk2 [some (.k,d0)]>>=retF false):=rfl
theorem QH4{u_MOST_ROWS:Value}(F:FunV K "is_table" "is_table" Q5 f fd dV)(QuA:DefOk P w K mg base CT "is_row" 3 false [] Qeq)(z_isinstance:mg "isinstance"=none)(z_list:mg "list"=none)(z_len:mg "len"=none)(z_all:mg "all"=none)(c_MOST_ROWS:mg "MOST_ROWS"=some u_MOST_ROWS)(r_MOST_ROWS:RelV (toV (.int 12)) u_MOST_ROWS):FnOk P w K mg base CX0 4 f fd ["thing"] (SpD K CT false Qew):=
 @fnV P w K mg base CT false "is_table" "is_table" Q5 f fd dV ["thing"] ["thing"] 3 Qk2 F QFN fun cdv A outer s H E G hr=>
  (Qg (ds_if (DW.dt (dw_or (QaN (Qa0 (QdQ "list" Qqp Qwp z_list PyProof.Rows.Boot.«list» QoC z_isinstance (DE.db (Qb 0 rfl (Or.inr (oi Qei))))))) (Qgc (QaN (QCA op_le Qb7 (Qbw fun _ _=>rfl) op_le Qb7 (Qbw fun _ _=>rfl) (DE.db Qe) (DE.db (Q3 QxT z_len (Qm (DE.db (Qb 0 rfl (Or.inr (oi Qei)))) Qu))) (DE.db (QeN (d:=(.int 12)) Qpv c_MOST_ROWS rfl r_MOST_ROWS))))))) (Qh (QQ de_bl)) Q4) (Qg (ds_if (QaN (Qa0 (Qgi rfl QoZ z_all (Qm (DE.db (DF.de (QP rfl QsB (DI.b (Qai (Qb 0 rfl (Or.inr (oi Qei))))) (fun ς=>QI (Qq rfl ς)) (Qy _) (fun fp s H G p=>⟨(QC (i:=0) QsB.nd rfl (oi Qf0) (hf:=Or.inr Qf0)),QJ,(de_f QuA (hr.mono (by decide)) (Qd (Qb 0 rfl (oi Qf0)) Qi) Qp3)⟩)))) Qu)))) (Qh (QQ de_bl)) Q4) (Qh (QQ (Qgi rfl QoZ z_all (Qm (DE.db (DF.de (QP rfl QsJ (DI.b (Qai (Qb 0 rfl (Or.inr (oi Qei))))) (fun ς=>QI (Qq rfl ς)) (Qy _) (fun fp s H G p=>⟨(QC (i:=0) QsJ.nd rfl (oi QfU) (hf:=Or.inr QfU)),QJ,(de_eq hr.units (DE.db (Q3 QkH z_len (Qm (DE.db (Qb 0 rfl (oi QfU))) Qu))) (DE.db (Q3 QkH z_len (Qm (DE.db (de_ix (Qb 1 rfl (Or.inr (oi Qre))) (DE.db Qe))) Qu))))⟩)))) Qu))))))
abbrev QbN:Stmt:=inCls (top 29) 0
theorem QBS:Qr ["self","rows"] ["self","rows"] (Qa QbN):=⟨rfl,rfl,rfl,dk,rfl,dk,dk⟩
theorem Qlv:Lo QbN "rows":=dk
theorem QpZ:Gl QbN "is_table":=dk
theorem Quu:Lo QbN "self":=dk
def QiM:SD->Out Fl:=(sSeq (fun ς=>noX ((sIf (tNot' (tVal (eA (fun xs=>Qew (xs++[])) (aCons (eVar 1) aNil)))) Qhi sNil) ς)) (Qju Qc "keep_rows" QU 0 (fun ς=>noX ((aCons (eVar 1) aNil) ς))))
def Qdh:Str->List (Str×D)->List D->Out (List (Str×D)):=bodyI 2 2 QiM
theorem QGG(c:Str)(fds:List (Str×D))(d1:D):Qdh c fds [d1]=(QiM [some (.s,.ins c fds),some (.k,d1)]>>=Qfp c):=rfl
theorem QEA(F:FunV K "__init__" "Rows.__init__" QbN f fd dV)(QIY:DefOk P w K mg base CT "is_table" 4 false [] Qew)(ms_keep_rows:MtOk P w K mg base CT (CXR P w) "keep_rows" 3 Qc (fun _=>SpI K CT QU)):FnOk P w K mg base (CXR P w) 5 f fd ["self","rows"] (SpI K CT Qdh):=
 @fnI P w K mg base CT "__init__" "Rows.__init__" QbN f fd dV ["self","rows"] ["self","rows"] 4 QiM F QBS fun cdv A outer s H E G p hr=>
  (Qg (DS.lift (ds_if (QaN (Qa0 (de_f QIY (hr.mono (by decide)) (Qd (Qb 1 rfl (oi Qlv)) Qi) QpZ))) (Qh Qft) Q4)) (Qh (Qp0 0 Qv1 ms_keep_rows (hr.mono (by decide)) (DA.lift (Qd (Qb 1 rfl (oi Qlv)) Qi)) rfl (oi Quu))))
abbrev QaE:Stmt:=top 30
theorem Qz3:Qr ["many","place"] ["many","place"] (Qa QaE):=⟨rfl,rfl,rfl,dk,rfl,dk,dk⟩
theorem Qty:Lo QaE "many":=dk
theorem QrB:Gl QaE "range":=dk
abbrev QhA:PySem.Scope:={ kind:=PySem.ScopeKind.function,names:=[ (PySem.Str.ofString ".0",PySem.NameKind.local),(PySem.Str.ofString "out",PySem.NameKind.local),(PySem.Str.ofString "place",PySem.NameKind.free)],isGenerator:=false,isCoroutine:=false,more:=[]:PySem.Scope }
theorem QoY:QD ["out","place"] [none,some 1] QhA (Qa QaE) ["many","place"]:=⟨rfl,dk,dk,rfl,dk,dk⟩
theorem QeR:(Qf QhA (Qa QaE)).names.lookup ("out":Str)=some NameKind.local:=dk
theorem QoW:(Qf QhA (Qa QaE)).names.lookup ("place":Str)=some NameKind.cell:=dk
def Qh3:SD->Out D:=(eIf (tVal (e2 dEq (eVar 0) (eVar 1))) (eC (.int 1)) (eC (.int 0)))
def Qhl:SD->Out Fl:=(sRetF (eComp [none,some 1] (itR1 (eVar 0)) (gN 0) cTrue Qh3))
def QcO:List D->Out D:=bodyF true 2 2 Qhl
theorem QD6(d0 d1:D):QcO [d0,d1]=(Qhl [some (.k,d0),some (.k,d1)]>>=retF true):=rfl
theorem QCH(F:FunV K "single_row" "single_row" QaE f fd dV)(z_range:mg "range"=none):FnOk P w K mg base CX0 1 f fd ["many","place"] (SpD K CT true QcO):=
 @fnV P w K mg base CT true "single_row" "single_row" QaE f fd dV ["many","place"] ["many","place"] 0 Qhl F Qz3 fun cdv A outer s H E G hr=>
  (Qh (Qbj (QP rfl QoY (DI.b (QaL QrB z_range (DE.db (Qb 0 rfl (oi Qty))))) (fun ς=>QI (Qq rfl ς)) (Qy _) (fun fp s H G p=>⟨(QC (i:=0) QoY.nd rfl (oi QeR) (hf:=Or.inr QeR)),QJ,(de_if (dt_eq hr.units (DE.db (Qb 0 rfl (oi QeR))) (DE.db (Qb 1 rfl (Or.inr (oi QoW))))) Qe Qe)⟩))))
abbrev Qal:Stmt:=inCls (top 26) 0
theorem QB5:Qr ["self","many"] ["self","many"] (Qa Qal):=⟨rfl,rfl,rfl,dk,rfl,dk,dk⟩
theorem QlZ:(Qa Qal).names.lookup ("many":Str)=some NameKind.cell:=dk
theorem Qpg:Gl Qal "MOST_OUTS":=dk
theorem QoT:Gl Qal "is_within":=dk
theorem Qtn:Gl Qal "range":=dk
abbrev QfK:PySem.Scope:={ kind:=PySem.ScopeKind.function,names:=[ (PySem.Str.ofString ".0",PySem.NameKind.local),(PySem.Str.ofString "state",PySem.NameKind.local),(PySem.Str.ofString "single_row",PySem.NameKind.globalImplicit),(PySem.Str.ofString "many",PySem.NameKind.free)],isGenerator:=false,isCoroutine:=false,more:=[]:PySem.Scope }
theorem Qqw:QD ["state","many"] [none,some 1] QfK (Qa Qal) ["self","many"]:=⟨rfl,dk,dk,rfl,dk,dk⟩
theorem QeA:(Qf QfK (Qa Qal)).names.lookup ("state":Str)=some NameKind.local:=dk
theorem QqY:(Qf QfK (Qa Qal)).names.lookup ("many":Str)=some NameKind.cell:=dk
theorem QkM:(Qf QfK (Qa Qal)).names.lookup ("single_row":Str)=some NameKind.globalImplicit:=dk
def QjQ:SD->Out D:=(eA (fun xs=>QcO (xs++[])) (aCons (eVar 1) (aCons (eVar 0) aNil)))
theorem QuL:Lo Qal "self":=dk
def Qi3:SD->Out Fl:=(sSeq (fun ς=>noX ((sIf (tNot' (tVal (eA (fun xs=>QaG (xs++[])) (aCons (eVar 1) (aCons (eC (.int 1)) (aCons (eC (.int 6)) aNil)))))) Qhi sNil) ς)) (Qju Qc "keep_rows" QU 0 (fun ς=>noX ((aCons (eComp [none,some 1] (itR1 (eVar 1)) (gN 0) cTrue QjQ) aNil) ς))))
def QdB:Str->List (Str×D)->List D->Out (List (Str×D)):=bodyI 2 2 Qi3
theorem QEG(c:Str)(fds:List (Str×D))(d1:D):QdB c fds [d1]=(Qi3 [some (.s,.ins c fds),some (.k,d1)]>>=Qfp c):=rfl
theorem QEI{u_MOST_OUTS:Value}(F:FunV K "__init__" "Deal.__init__" Qal f fd dV)(Qde:DefOk P w K mg base CT "is_within" 2 false [] QaG)(QD1:DefOk P w K mg base CT "single_row" 1 true [] QcO)(z_range:mg "range"=none)(c_MOST_OUTS:mg "MOST_OUTS"=some u_MOST_OUTS)(r_MOST_OUTS:RelV (toV (.int 6)) u_MOST_OUTS)(ms_keep_rows:MtOk P w K mg base CT (CXR P w) "keep_rows" 3 Qc (fun _=>SpI K CT QU)):FnOk P w K mg base (CXR P w) 4 f fd ["self","many"] (SpI K CT QdB):=
 @fnI P w K mg base CT "__init__" "Deal.__init__" Qal f fd dV ["self","many"] ["self","many"] 3 Qi3 F QB5 fun cdv A outer s H E G p hr=>
  (Qg (DS.lift (ds_if (QaN (Qa0 (de_f Qde (hr.mono (by decide)) (Qd (Qb 1 rfl (Or.inr (oi QlZ))) (Qd Qe (Qd (QeN (d:=(.int 6)) Qpg c_MOST_OUTS rfl r_MOST_OUTS) Qi))) QoT))) (Qh Qft) Q4)) (Qh (Qp0 0 Qv1 ms_keep_rows (hr.mono (by decide)) (DA.lift (Qd (DF.de (QP rfl Qqw (DI.b (QaL Qtn z_range (DE.db (Qb 1 rfl (Or.inr (oi QlZ)))))) (fun ς=>QI (Qq rfl ς)) (Qy _) (fun fp s H G p=>⟨(QC (i:=0) Qqw.nd rfl (oi QeA) (hf:=Or.inr QeA)),QJ,(de_f QD1 (hr.mono (by decide)) (Qd (Qb 1 rfl (Or.inr (oi QqY))) (Qd (Qb 0 rfl (oi QeA)) Qi)) QkM)⟩))) Qi)) rfl (oi QuL))))
abbrev Q7:Stmt:=inCls (top 27) 0
theorem Qxt:Qr ["self","size"] ["self","size"] (Qa Q7):=⟨rfl,rfl,rfl,dk,rfl,dk,dk⟩
theorem Qi8:(Qa Q7).names.lookup ("size":Str)=some NameKind.cell:=dk
theorem Qmr:Gl Q7 "MOST_ROWS":=dk
theorem Qmm:Gl Q7 "is_within":=dk
theorem Qrb:Gl Q7 "range":=dk
abbrev QgT:PySem.Scope:={ kind:=PySem.ScopeKind.function,names:=[ (PySem.Str.ofString ".0",PySem.NameKind.local),(PySem.Str.ofString "state",PySem.NameKind.local),(PySem.Str.ofString "size",PySem.NameKind.free)],isGenerator:=false,isCoroutine:=false,more:=[]:PySem.Scope }
theorem Qmt:QD ["state","size"] [none,some 1] QgT (Qa Q7) ["self","size"]:=⟨rfl,dk,dk,rfl,dk,dk⟩
theorem Qdo:(Qf QgT (Qa Q7)).names.lookup ("state":Str)=some NameKind.local:=dk
theorem Qpi:(Qf QgT (Qa Q7)).names.lookup ("size":Str)=some NameKind.cell:=dk
def Qha:SD->Out D:=(eLst (aCons (eIf (tVal (e2 dEq (eVar 0) (e2 dSub (eVar 1) (eC (.int 1))))) (eC (.int 1)) (eC (.int 0))) aNil))
theorem Qrp:Lo Q7 "self":=dk
def QgG:SD->Out Fl:=(sSeq (fun ς=>noX ((sIf (tNot' (tVal (eA (fun xs=>QaG (xs++[])) (aCons (eVar 1) (aCons (eC (.int 1)) (aCons (eC (.int 12)) aNil)))))) Qhi sNil) ς)) (Qju Qc "keep_rows" QU 0 (fun ς=>noX ((aCons (eComp [none,some 1] (itR1 (eVar 1)) (gN 0) cTrue Qha) aNil) ς))))
def Qcp:Str->List (Str×D)->List D->Out (List (Str×D)):=bodyI 2 2 QgG
theorem Qzl(c:Str)(fds:List (Str×D))(d1:D):Qcp c fds [d1]=(QgG [some (.s,.ins c fds),some (.k,d1)]>>=Qfp c):=rfl
theorem Qzs{u_MOST_ROWS:Value}(F:FunV K "__init__" "Bundle.__init__" Q7 f fd dV)(Qde:DefOk P w K mg base CT "is_within" 2 false [] QaG)(z_range:mg "range"=none)(c_MOST_ROWS:mg "MOST_ROWS"=some u_MOST_ROWS)(r_MOST_ROWS:RelV (toV (.int 12)) u_MOST_ROWS)(ms_keep_rows:MtOk P w K mg base CT (CXR P w) "keep_rows" 3 Qc (fun _=>SpI K CT QU)):FnOk P w K mg base (CXR P w) 4 f fd ["self","size"] (SpI K CT Qcp):=
 @fnI P w K mg base CT "__init__" "Bundle.__init__" Q7 f fd dV ["self","size"] ["self","size"] 3 QgG F Qxt fun cdv A outer s H E G p hr=>
  (Qg (DS.lift (ds_if (QaN (Qa0 (de_f Qde (hr.mono (by decide)) (Qd (Qb 1 rfl (Or.inr (oi Qi8))) (Qd Qe (Qd (QeN (d:=(.int 12)) Qmr c_MOST_ROWS rfl r_MOST_ROWS) Qi))) Qmm))) (Qh Qft) Q4)) (Qh (Qp0 0 Qv1 ms_keep_rows (hr.mono (by decide)) (DA.lift (Qd (DF.de (QP rfl Qmt (DI.b (QaL Qrb z_range (DE.db (Qb 1 rfl (Or.inr (oi Qi8)))))) (fun ς=>QI (Qq rfl ς)) (Qy _) (fun fp s H G p=>⟨(QC (i:=0) Qmt.nd rfl (oi Qdo) (hf:=Or.inr Qdo)),QJ,(DF.de (QaP (Qd (de_if (dt_eq hr.units (DE.db (Qb 0 rfl (oi Qdo))) (DE.db (QeB (DE.db (Qb 1 rfl (Or.inr (oi Qpi)))) (DE.db Qe)))) Qe Qe) Qi)))⟩))) Qi)) rfl (oi Qrp))))
abbrev QbJ:Stmt:=inCls (top 28) 0
theorem QD2:Qr ["self","counts"] ["self","counts"] (Qa QbJ):=⟨rfl,rfl,rfl,dk,rfl,dk,dk⟩
theorem Qjl:Lo QbJ "counts":=dk
theorem QrY:Gl QbJ "is_row":=dk
theorem QuC:Lo QbJ "self":=dk
def Qi4:SD->Out Fl:=(sSeq (fun ς=>noX ((sIf (tNot' (tVal (eA (fun xs=>Qeq (xs++[])) (aCons (eVar 1) aNil)))) Qhi sNil) ς)) (Qju Qc "keep_rows" QU 0 (fun ς=>noX ((aCons (eLst (aCons (eVar 1) aNil)) aNil) ς))))
def Qdg:Str->List (Str×D)->List D->Out (List (Str×D)):=bodyI 2 2 Qi4
theorem QE7(c:Str)(fds:List (Str×D))(d1:D):Qdg c fds [d1]=(Qi4 [some (.s,.ins c fds),some (.k,d1)]>>=Qfp c):=rfl
theorem QFX(F:FunV K "__init__" "Copy.__init__" QbJ f fd dV)(QuA:DefOk P w K mg base CT "is_row" 3 false [] Qeq)(ms_keep_rows:MtOk P w K mg base CT (CXR P w) "keep_rows" 3 Qc (fun _=>SpI K CT QU)):FnOk P w K mg base (CXR P w) 4 f fd ["self","counts"] (SpI K CT Qdg):=
 @fnI P w K mg base CT "__init__" "Copy.__init__" QbJ f fd dV ["self","counts"] ["self","counts"] 3 Qi4 F QD2 fun cdv A outer s H E G p hr=>
  (Qg (DS.lift (ds_if (QaN (Qa0 (de_f QuA (hr.mono (by decide)) (Qd (Qb 1 rfl (oi Qjl)) Qi) QrY))) (Qh Qft) Q4)) (Qh (Qp0 0 Qv1 ms_keep_rows (hr.mono (by decide)) (DA.lift (Qd (DF.de (QaP (Qd (Qb 1 rfl (oi Qjl)) Qi))) Qi)) rfl (oi QuC))))
abbrev Qo:Stmt:=top 56
theorem QcT:Qr ["_law_number","_law_top","_law_size","_law_many","_law_rows","_law_s"] ["_law_number","_law_top"] (Qa Qo):=⟨rfl,rfl,rfl,dk,rfl,dk,dk⟩
theorem Qbg:(Qa Qo).names.lookup ("_law_number":Str)=some NameKind.cell:=dk
theorem Qbx:Lo Qo "_law_size":=dk
theorem Qag:(Qa Qo).names.lookup ("_law_many":Str)=some NameKind.cell:=dk
theorem Quv:Gl Qo "Deal":=dk
theorem QdG:Gl Qo "range":=dk
abbrev QbA:PySem.Scope:={ kind:=PySem.ScopeKind.function,names:=[ (PySem.Str.ofString ".0",PySem.NameKind.local),(PySem.Str.ofString "_law_s",PySem.NameKind.cell),(PySem.Str.ofString "range",PySem.NameKind.globalImplicit),(PySem.Str.ofString "_law_many",PySem.NameKind.free)],isGenerator:=false,isCoroutine:=false,more:=[]:PySem.Scope }
theorem QqO:QD ["_law_s","_law_many"] [none,some 3] QbA (Qa Qo) ["_law_number","_law_top","_law_size","_law_many","_law_rows","_law_s"]:=⟨rfl,dk,dk,rfl,dk,dk⟩
theorem Qpo:(Qf QbA (Qa Qo)).names.lookup ("_law_s":Str)=some NameKind.cell:=dk
theorem QlY:(Qf QbA (Qa Qo)).names.lookup ("_law_many":Str)=some NameKind.cell:=dk
theorem Qpt:(Qf QbA (Qa Qo)).names.lookup ("range":Str)=some NameKind.globalImplicit:=dk
abbrev QfD:PySem.Scope:={ kind:=PySem.ScopeKind.function,names:=[ (PySem.Str.ofString ".0",PySem.NameKind.local),(PySem.Str.ofString "_law_k",PySem.NameKind.local),(PySem.Str.ofString "int",PySem.NameKind.globalImplicit),(PySem.Str.ofString "_law_s",PySem.NameKind.free)],isGenerator:=false,isCoroutine:=false,more:=[]:PySem.Scope }
theorem QqU:QD ["_law_k","_law_s"] [none,some 0] QfD (Qf QbA (Qa Qo)) ["_law_s","_law_many"]:=⟨rfl,dk,dk,rfl,dk,dk⟩
theorem QdN:(Qf QfD (Qf QbA (Qa Qo))).names.lookup ("_law_k":Str)=some NameKind.local:=dk
theorem QoH:(Qf QfD (Qf QbA (Qa Qo))).names.lookup ("_law_s":Str)=some NameKind.cell:=dk
theorem Qsh:(Qf QfD (Qf QbA (Qa Qo))).names.lookup ("int":Str)=some NameKind.globalImplicit:=dk
def QqX:SD->Out D:=(eA (f1 dInt) (aCons (e2 dEq (eVar 0) (eVar 1)) aNil))
def Qkk:SD->Out D:=(eComp [none,some 0] (itR1 (eVar 1)) (gN 0) cTrue QqX)
theorem Qr8:Gl Qo "Bundle":=dk
abbrev QfB:PySem.Scope:={ kind:=PySem.ScopeKind.function,names:=[ (PySem.Str.ofString ".0",PySem.NameKind.local),(PySem.Str.ofString "_law_s",PySem.NameKind.local),(PySem.Str.ofString "int",PySem.NameKind.globalImplicit),(PySem.Str.ofString "_law_many",PySem.NameKind.free)],isGenerator:=false,isCoroutine:=false,more:=[]:PySem.Scope }
theorem QqL:QD ["_law_s","_law_many"] [none,some 3] QfB (Qa Qo) ["_law_number","_law_top","_law_size","_law_many","_law_rows","_law_s"]:=⟨rfl,dk,dk,rfl,dk,dk⟩
theorem QdV:(Qf QfB (Qa Qo)).names.lookup ("_law_s":Str)=some NameKind.local:=dk
theorem Qlt:(Qf QfB (Qa Qo)).names.lookup ("_law_many":Str)=some NameKind.cell:=dk
theorem QrL:(Qf QfB (Qa Qo)).names.lookup ("int":Str)=some NameKind.globalImplicit:=dk
def QjG:SD->Out D:=(eLst (aCons (eA (f1 dInt) (aCons (e2 dEq (eVar 0) (e2 dSub (eVar 1) (eC (.int 1)))) aNil)) aNil))
theorem QvY:Gl Qo "int":=dk
theorem QaR:Lo Qo "_law_rows":=dk
theorem Qsd:(Qa Qo).names.lookup ("_law_s":Str)=some NameKind.cell:=dk
abbrev QdZ:PySem.Scope:={ kind:=PySem.ScopeKind.function,names:=[ (PySem.Str.ofString ".0",PySem.NameKind.local),(PySem.Str.ofString "_law_k",PySem.NameKind.local),(PySem.Str.ofString "_law_number",PySem.NameKind.free),(PySem.Str.ofString "_law_s",PySem.NameKind.free),(PySem.Str.ofString "_law_top",PySem.NameKind.free)],isGenerator:=false,isCoroutine:=false,more:=[]:PySem.Scope }
theorem QqG:QD ["_law_k","_law_number","_law_s","_law_top"] [none,some 0,some 5,some 1] QdZ (Qa Qo) ["_law_number","_law_top","_law_size","_law_many","_law_rows","_law_s"]:=⟨rfl,dk,dk,rfl,dk,dk⟩
theorem Qd5:(Qf QdZ (Qa Qo)).names.lookup ("_law_k":Str)=some NameKind.local:=dk
theorem Qkl:(Qf QdZ (Qa Qo)).names.lookup ("_law_number":Str)=some NameKind.cell:=dk
theorem Qo9:(Qf QdZ (Qa Qo)).names.lookup ("_law_s":Str)=some NameKind.cell:=dk
theorem Qmn:(Qf QdZ (Qa Qo)).names.lookup ("_law_top":Str)=some NameKind.cell:=dk
def Qj6:SD->Out D:=(e2 dMod (e2 dMod (e2 dMul (eVar 1) (e2 dAdd (e2 dAdd (e2 dMul (eC (.int 7)) (eVar 2)) (e2 dMul (eC (.int 2)) (eVar 0))) (eC (.int 3)))) (eC (.int 1000003))) (eVar 3))
def QeE:SD->Out Fl:=(QbW 4 (eComp [none,some 0,some 5,some 1] (itR1 (e2 dMod (eVar 2) (eC (.int 5)))) (gN 0) cTrue Qj6))
theorem QuM:Gl Qo "list":=dk
theorem Quk:Gl Qo "Copy":=dk
abbrev Qis:PySem.Scope:={ kind:=PySem.ScopeKind.function,names:=[ (PySem.Str.ofString ".0",PySem.NameKind.local),(PySem.Str.ofString "_law_row",PySem.NameKind.local),(PySem.Str.ofString "list",PySem.NameKind.globalImplicit)],isGenerator:=false,isCoroutine:=false,more:=[]:PySem.Scope }
theorem Qqz:QD ["_law_row"] [none] Qis (Qa Qo) ["_law_number","_law_top","_law_size","_law_many","_law_rows","_law_s"]:=⟨rfl,dk,dk,rfl,dk,dk⟩
theorem Qc1:(Qf Qis (Qa Qo)).names.lookup ("_law_row":Str)=some NameKind.local:=dk
theorem Qra:(Qf Qis (Qa Qo)).names.lookup ("list":Str)=some NameKind.globalImplicit:=dk
def Qkf:SD->Out D:=(e1 dList (eVar 0))
theorem Qul:Gl Qo "Rows":=dk
def Qdv:SD->Out Fl:=(sSeq (sSet 2 (e2 dFdiv (eVar 0) (eC (.int 4)))) (sSeq (sIf (tVal (e2 dEq (e2 dMod (eVar 0) (eC (.int 4))) (eC (.int 0)))) (sSeq (sSet 3 (e2 dAdd (eC (.int 1)) (e2 dMod (eVar 2) (eC (.int 6))))) (sRetF (eLst (aCons (eMake "Deal" QdB (aCons (eVar 3) aNil)) (aCons (eComp [none,some 3] (itR1 (eVar 3)) (gN 0) cTrue Qkk) aNil))))) sNil) (sSeq (sIf (tVal (e2 dEq (e2 dMod (eVar 0) (eC (.int 4))) (eC (.int 1)))) (sSeq (sSet 3 (e2 dAdd (eC (.int 1)) (e2 dMod (eVar 2) (eC (.int 12))))) (sRetF (eLst (aCons (eMake "Bundle" Qcp (aCons (eVar 3) aNil)) (aCons (eComp [none,some 3] (itR1 (eVar 3)) (gN 0) cTrue QjG) aNil))))) sNil) (sSeq (sSet 3 (e2 dAdd (eC (.int 1)) (e2 dMul (e2 dMod (e2 dFdiv (eVar 2) (eC (.int 7))) (eC (.int 12))) (eA (f1 dInt) (aCons (e2 dEq (e2 dMod (eVar 0) (eC (.int 4))) (eC (.int 3))) aNil))))) (sSeq (sSetO 4 (eLst aNil)) (sSeq (sFor (gN 5) (itR1 (eVar 3)) QeE) (sSeq (sIf (tVal (e2 dEq (e2 dMod (eVar 0) (eC (.int 4))) (eC (.int 2)))) (fun ς=>(sRetF (eLst (aCons (eMake "Copy" Qdg (aCons (e1 dList (e2 dIx (eVar 4) (eC (.int 0)))) aNil)) (aCons (eVar 4) aNil)))) (frz 4 ς)) sNil) (fun ς=>(sRetF (eLst (aCons (eMake "Rows" Qdh (aCons (eComp [none] (itL (eVar 4)) (gN 0) cTrue Qkf) aNil)) (aCons (eVar 4) aNil)))) (frz 4 ς)))))))))
def Qbm:List D->Out D:=bodyF true 2 6 Qdv
theorem QiE(d0 d1:D):Qbm [d0,d1]=(Qdv [some (.k,d0),some (.k,d1),none,none,none,none]>>=retF true):=rfl
theorem QGh(F:FunV K "_law_clerk" "_law_clerk" Qo f fd dV)(z_range:mg "range"=none)(z_int:mg "int"=none)(z_list:mg "list"=none)(Qw0:MkOk P w K mg base CT "Deal" 4 QdB)(QrE:MkOk P w K mg base CT "Bundle" 4 Qcp)(Qym:MkOk P w K mg base CT "Copy" 4 Qdg)(QxY:MkOk P w K mg base CT "Rows" 5 Qdh):FnOk P w K mg base CX0 7 f fd ["_law_number","_law_top"] (SpD K CT true Qbm):=
 @fnV P w K mg base CT true "_law_clerk" "_law_clerk" Qo f fd dV ["_law_number","_law_top","_law_size","_law_many","_law_rows","_law_s"] ["_law_number","_law_top"] 6 Qdv F QcT fun cdv A outer s H E G hr=>
  (Qg (Qar (i:=2) QcT.nd rfl (oi Qbx) (QcG (DE.db (Qb 0 rfl (Or.inr (oi Qbg)))) (DE.db Qe))) (Qg (ds_if (dt_eq hr.units (DE.db (Qac (DE.db (Qb 0 rfl (Or.inr (oi Qbg)))) (DE.db Qe))) (DE.db Qe)) (Qg (Qar (i:=3) QcT.nd rfl (Or.inr Qag) (Qas (DE.db Qe) (DE.db (Qac (DE.db (Qb 2 rfl (oi Qbx))) (DE.db Qe))))) (Qh (Qbj (QaP (Qd (DF.de (Qo3 rz0 Qw0 (hr.mono (by decide)) (Qd (Qb 3 rfl (Or.inr (oi Qag))) Qi) Quv)) (Qd (DF.de (QP rfl QqO (DI.b (QaL QdG z_range (DE.db (Qb 3 rfl (Or.inr (oi Qag)))))) (fun ς=>QI (Qq rfl ς)) (Qy _) (fun fp s H G p=>⟨(QC (i:=0) QqO.nd rfl (Or.inr Qpo) (hf:=Or.inl rfl)),QJ,(DF.de (QP rfl QqU (DI.b (QaL Qpt z_range (DE.db (Qb 1 rfl (Or.inr (oi QlY)))))) (fun ς=>QI (Qq rfl ς)) (Qy _) (fun fp s H G p=>⟨(QC (i:=0) QqU.nd rfl (oi QdN) (hf:=Or.inr QdN)),QJ,(Qtb Qsh z_int (Qm (DE.db (de_eq hr.units (DE.db (Qb 0 rfl (oi QdN))) (DE.db (Qb 1 rfl (Or.inr (oi QoH)))))) Qu))⟩)))⟩))) Qi)))))) Q4) (Qg (ds_if (dt_eq hr.units (DE.db (Qac (DE.db (Qb 0 rfl (Or.inr (oi Qbg)))) (DE.db Qe))) (DE.db Qe)) (Qg (Qar (i:=3) QcT.nd rfl (Or.inr Qag) (Qas (DE.db Qe) (DE.db (Qac (DE.db (Qb 2 rfl (oi Qbx))) (DE.db Qe))))) (Qh (Qbj (QaP (Qd (DF.de (Qo3 rz0 QrE (hr.mono (by decide)) (Qd (Qb 3 rfl (Or.inr (oi Qag))) Qi) Qr8)) (Qd (DF.de (QP rfl QqL (DI.b (QaL QdG z_range (DE.db (Qb 3 rfl (Or.inr (oi Qag)))))) (fun ς=>QI (Qq rfl ς)) (Qy _) (fun fp s H G p=>⟨(QC (i:=0) QqL.nd rfl (oi QdV) (hf:=Or.inr QdV)),QJ,(DF.de (QaP (Qd (Qtb QrL z_int (Qm (DE.db (de_eq hr.units (DE.db (Qb 0 rfl (oi QdV))) (DE.db (QeB (DE.db (Qb 1 rfl (Or.inr (oi Qlt)))) (DE.db Qe))))) Qu)) Qi)))⟩))) Qi)))))) Q4) (Qg (Qar (i:=3) QcT.nd rfl (Or.inr Qag) (Qas (DE.db Qe) (DE.db (QcJ (DE.db (Qac (DE.db (QcG (DE.db (Qb 2 rfl (oi Qbx))) (DE.db Qe))) (DE.db Qe))) (DE.db (Qtb QvY z_int (Qm (DE.db (de_eq hr.units (DE.db (Qac (DE.db (Qb 0 rfl (Or.inr (oi Qbg)))) (DE.db Qe))) (DE.db Qe))) Qu))))))) (Qg (QeM (i:=4) QcT.nd rfl (oi QaR) (QaP Qi)) (Qg (QbX PassesOwn.never rfl (QaL QdG z_range (DE.db (Qb 3 rfl (Or.inr (oi Qag))))) (QC (i:=5) QcT.nd rfl (Or.inr Qsd)) (Qy _) (Qh (Qda 4 (DF.de (QP rfl QqG (DI.b (QaL QdG z_range (DE.db (Qac (DE.db (Qb 2 rfl (oi Qbx))) (DE.db Qe))))) (fun ς=>QI (Qq rfl ς)) (Qy _) (fun fp s H G p=>⟨(QC (i:=0) QqG.nd rfl (oi Qd5) (hf:=Or.inr Qd5)),QJ,(Qac (DE.db (Qac (DE.db (QcJ (DE.db (Qb 1 rfl (Or.inr (oi Qkl)))) (DE.db (Qas (DE.db (Qas (DE.db (QcJ (DE.db Qe) (DE.db (Qb 2 rfl (Or.inr (oi Qo9)))))) (DE.db (QcJ (DE.db Qe) (DE.db (Qb 0 rfl (oi Qd5))))))) (DE.db Qe))))) (DE.db Qe))) (DE.db (Qb 3 rfl (Or.inr (oi Qmn)))))⟩))) rfl (oi QaR)))) (Qg (ds_if (dt_eq hr.units (DE.db (Qac (DE.db (Qb 0 rfl (Or.inr (oi Qbg)))) (DE.db Qe))) (DE.db Qe)) (Qh (Qwm 4 (Qbj (QaP (Qd (DF.de (Qo3 rz0 Qym (hr.mono (by decide)) (Qd (DF.de (QgW QuM z_list (de_ix (Qb 4 rfl (oi QaR)) (DE.db Qe)))) Qi) Quk)) (Qd (Qb 4 rfl (oi QaR)) Qi)))))) Q4) (Qh (Qwm 4 (Qbj (QaP (Qd (DF.de (Qo3 rz0 QxY (hr.mono (by decide)) (Qd (DF.de (QP rfl Qqz (DI.b (Qai (Qb 4 rfl (oi QaR)))) (fun ς=>QI (Qq rfl ς)) (Qy _) (fun fp s H G p=>⟨(QC (i:=0) Qqz.nd rfl (oi Qc1) (hf:=Or.inr Qc1)),QJ,(DF.de (QgW Qra z_list (Qb 0 rfl (oi Qc1))))⟩))) Qi) Qul)) (Qd (Qb 4 rfl (oi QaR)) Qi)))))))))))))
abbrev Qap:Stmt:=top 50
theorem Qd6:Qr ["names","doors","places","k","name","d","door"] ["names","doors"] (Qa Qap):=⟨rfl,rfl,rfl,dk,rfl,dk,dk⟩
theorem Qc7:Lo Qap "places":=dk
theorem Qtw:Lo Qap "names":=dk
theorem Qg5:Gl Qap "enumerate":=dk
theorem Qld:Lo Qap "name":=dk
theorem QqS:Lo Qap "k":=dk
def QgB:SD->Out Fl:=(sPutD 2 (eVar 4) (eVar 3))
theorem Qtp:Lo Qap "doors":=dk
theorem Qk9:Lo Qap "door":=dk
theorem QqD:Lo Qap "d":=dk
def QgF:SD->Out Fl:=(sPutD 2 (eVar 6) (e2 dSub (e1 dNeg (eC (.int 1))) (eVar 5)))
def Qi5:SD->Out Fl:=(sSeq (sSetO 2 eDic0) (sSeq (sFor (gT [3,4]) (itE (eVar 0)) QgB) (sSeq (sFor (gT [5,6]) (itE (eVar 1)) QgF) (sRetO 2))))
def Qdq:List D->Out D:=bodyF true 2 7 Qi5
theorem QE9(d0 d1:D):Qdq [d0,d1]=(Qi5 [some (.k,d0),some (.k,d1),none,none,none,none,none]>>=retF true):=rfl
theorem QE5(F:FunV K "places_of" "places_of" Qap f fd dV)(z_enumerate:mg "enumerate"=none):FnOk P w K mg base CX0 1 f fd ["names","doors"] (SpD K CT true Qdq):=
 @fnV P w K mg base CT true "places_of" "places_of" Qap f fd dV ["names","doors","places","k","name","d","door"] ["names","doors"] 0 Qi5 F Qd6 fun cdv A outer s H E G hr=>
  (Qg (QeM (i:=2) Qd6.nd rfl (oi Qc7) QNM) (Qg (QbX PassesOwn.never rfl (QxR Qg5 z_enumerate (Qb 0 rfl (oi Qtw))) (Qfq rfl (QY (i:=3) Qd6.nd rfl (oi QqS) (QY (i:=4) Qd6.nd rfl (oi Qld) QcE))) (QcR _) (Qh (QGR hr.units 2 (DE.db (Qb 4 rfl (oi Qld))) (Qb 3 rfl (oi QqS)) rfl (oi Qc7)))) (Qg (QbX PassesOwn.never rfl (QxR Qg5 z_enumerate (Qb 1 rfl (oi Qtp))) (Qfq rfl (QY (i:=5) Qd6.nd rfl (oi QqD) (QY (i:=6) Qd6.nd rfl (oi Qk9) QcE))) (QcR _) (Qh (QGR hr.units 2 (DE.db (Qb 6 rfl (oi Qk9))) (QeB (DE.db (Qjn (DE.db Qe))) (DE.db (Qb 5 rfl (oi QqD)))) rfl (oi Qc7)))) (Qh (QoN 2 rfl (oi Qc7))))))
abbrev Qb1:Stmt:=top 42
theorem QIJ:Qr ["thing","most"] ["thing","most"] (Qa Qb1):=⟨rfl,rfl,rfl,dk,rfl,dk,dk⟩
theorem QmW:Lo Qb1 "thing":=dk
theorem Qyg:Gl Qb1 "list":=dk
theorem QpM:Gl Qb1 "isinstance":=dk
theorem QAu:Gl Qb1 "len":=dk
theorem Qx7:Lo Qb1 "most":=dk
def QmI:SD->Out Fl:=(sRet (eAnd (eIsa (isaT "list") (eVar 0)) (Qfl dLe dLe (eC (.int 1)) (eA fLen (aCons (eVar 0) aNil)) (eVar 1))))
def Qb0:List D->Out D:=bodyF false 2 2 QmI
theorem QKu(d0 d1:D):Qb0 [d0,d1]=(QmI [some (.k,d0),some (.k,d1)]>>=retF false):=rfl
theorem QKK(F:FunV K "is_list" "is_list" Qb1 f fd dV)(z_isinstance:mg "isinstance"=none)(z_list:mg "list"=none)(z_len:mg "len"=none):FnOk P w K mg base CX0 1 f fd ["thing","most"] (SpD K CT false Qb0):=
 @fnV P w K mg base CT false "is_list" "is_list" Qb1 f fd dV ["thing","most"] ["thing","most"] 0 QmI F QIJ fun cdv A outer s H E G hr=>
  (Qh (QQ (QeJ (QdQ "list" Qqp Qyg z_list PyProof.Rows.Boot.«list» QpM z_isinstance (DE.db (Qb 0 rfl (oi QmW)))) (Qjs (QD7 op_le Qb7 (Qbw fun _ _=>rfl) op_le Qb7 (Qbw fun _ _=>rfl) (DE.db Qe) (DE.db (Q3 QAu z_len (Qm (DE.db (Qb 0 rfl (oi QmW))) Qu))) (DE.db (Qb 1 rfl (oi Qx7))))))))
abbrev Qbn:Stmt:=top 43
theorem QAI:Qr ["names"] ["names"] (Qa Qbn):=⟨rfl,rfl,rfl,dk,rfl,dk,dk⟩
theorem Qji:Lo Qbn "names":=dk
theorem Qmf:Gl Qbn "len":=dk
theorem Qub:Gl Qbn "set":=dk
def QhM:SD->Out Fl:=(sRet (e2 dEq (e1 QwW (eVar 0)) (eA fLen (aCons (eVar 0) aNil))))
def Qaf:List D->Out D:=bodyF false 1 1 QhM
theorem QCg(d0:D):Qaf [d0]=(QhM [some (.k,d0)]>>=retF false):=rfl
theorem QDi(F:FunV K "all_unlike" "all_unlike" Qbn f fd dV)(z_len:mg "len"=none)(z_set:mg "set"=none):FnOk P w K mg base CX0 1 f fd ["names"] (SpD K CT false Qaf):=
 @fnV P w K mg base CT false "all_unlike" "all_unlike" Qbn f fd dV ["names"] ["names"] 0 QhM F QAI fun cdv A outer s H E G hr=>
  (Qh (QQ (de_eq hr.units (DE.db (QJu hr.hd Qmf z_len Qub z_set (DE.db (Qb 0 rfl (oi Qji))))) (DE.db (Q3 Qmf z_len (Qm (DE.db (Qb 0 rfl (oi Qji))) Qu))))))
abbrev QaM:Stmt:=top 41
theorem QHP:Qr ["thing"] ["thing"] (Qa QaM):=⟨rfl,rfl,rfl,dk,rfl,dk,dk⟩
theorem QhT:Lo QaM "thing":=dk
theorem QzG:Gl QaM "str":=dk
theorem Qqs:Gl QaM "isinstance":=dk
theorem Qz8:Gl QaM "len":=dk
theorem Qqc:Gl QaM "MOST_SIGNS":=dk
abbrev Qlc:PySem.Scope:={ kind:=PySem.ScopeKind.function,names:=[ (PySem.Str.ofString ".0",PySem.NameKind.local),(PySem.Str.ofString "sign",PySem.NameKind.local),(PySem.Str.ofString "LETTERS",PySem.NameKind.globalImplicit)],isGenerator:=false,isCoroutine:=false,more:=[]:PySem.Scope }
theorem QtP:QD ["sign"] [none] Qlc (Qa QaM) ["thing"]:=⟨rfl,dk,dk,rfl,dk,dk⟩
theorem QfZ:(Qf Qlc (Qa QaM)).names.lookup ("sign":Str)=some NameKind.local:=dk
theorem Qqm:(Qf Qlc (Qa QaM)).names.lookup ("LETTERS":Str)=some NameKind.globalImplicit:=dk
def QEJ:SD->Out D:=(e2 dIn (eVar 0) (eC (.str "abcdefghijklmnopqrstuvwxyz")))
theorem QAy:Gl QaM "all":=dk
def QyQ:SD->Out Fl:=(sSeq (sIf (tOr' (tNot' (tVal (eIsa (isaT "str") (eVar 0)))) (tNot' (tVal (Qfl dLe dLe (eC (.int 1)) (eA fLen (aCons (eVar 0) aNil)) (eC (.int 6)))))) (sRet (eC (.bl false))) sNil) (sRet (eA (f1 fAll) (aCons (eComp [none] (itS (eVar 0)) (gN 0) cTrue QEJ) aNil))))
def Qa1:List D->Out D:=bodyF false 1 1 QyQ
theorem QJ9{u_MOST_SIGNS:Value}{u_LETTERS:Value}(F:FunV K "is_name" "is_name" QaM f fd dV)(z_isinstance:mg "isinstance"=none)(z_str:mg "str"=none)(z_len:mg "len"=none)(z_all:mg "all"=none)(c_MOST_SIGNS:mg "MOST_SIGNS"=some u_MOST_SIGNS)(r_MOST_SIGNS:RelV (toV (.int 6)) u_MOST_SIGNS)(c_LETTERS:mg "LETTERS"=some u_LETTERS)(r_LETTERS:RelV (toV (.str "abcdefghijklmnopqrstuvwxyz")) u_LETTERS):FnOk P w K mg base CX0 1 f fd ["thing"] (SpD K CT false Qa1):=
 @fnV P w K mg base CT false "is_name" "is_name" QaM f fd dV ["thing"] ["thing"] 0 QyQ F QHP fun cdv A outer s H E G hr=>
  (Qg (ds_if (DW.dt (dw_or (QaN (Qa0 (QdQ "str" QGS QzG z_str PyProof.Rows.Boot.«str» Qqs z_isinstance (DE.db (Qb 0 rfl (oi QhT)))))) (Qgc (QaN (QCA op_le Qb7 (Qbw fun _ _=>rfl) op_le Qb7 (Qbw fun _ _=>rfl) (DE.db Qe) (DE.db (Q3 Qz8 z_len (Qm (DE.db (Qb 0 rfl (oi QhT))) Qu))) (DE.db (QeN (d:=(.int 6)) Qqc c_MOST_SIGNS rfl r_MOST_SIGNS))))))) (Qh (QQ de_bl)) Q4) (Qh (QQ (Qgi rfl QAy z_all (Qm (DE.db (DF.de (QP rfl QtP (DI.b (QPn (DE.db (Qb 0 rfl (oi QhT))))) (fun ς=>QI (Qq rfl ς)) (Qy _) (fun fp s H G p=>⟨(QC (i:=0) QtP.nd rfl (oi QfZ) (hf:=Or.inr QfZ)),QJ,(de_in (DE.db (Qb 0 rfl (oi QfZ))) (DE.db (QeN (d:=(.str "abcdefghijklmnopqrstuvwxyz")) Qqm c_LETTERS rfl r_LETTERS)))⟩)))) Qu)))))
abbrev Qaq:Stmt:=top 44
theorem QDQ:Qr ["thing","most"] ["thing","most"] (Qa Qaq):=⟨rfl,rfl,rfl,dk,rfl,dk,dk⟩
theorem QfV:Lo Qaq "thing":=dk
theorem QuP:Lo Qaq "most":=dk
theorem Qq5:Gl Qaq "is_list":=dk
abbrev Qh0:PySem.Scope:={ kind:=PySem.ScopeKind.function,names:=[ (PySem.Str.ofString ".0",PySem.NameKind.local),(PySem.Str.ofString "name",PySem.NameKind.local),(PySem.Str.ofString "is_name",PySem.NameKind.globalImplicit)],isGenerator:=false,isCoroutine:=false,more:=[]:PySem.Scope }
theorem QqM:QD ["name"] [none] Qh0 (Qa Qaq) ["thing","most"]:=⟨rfl,dk,dk,rfl,dk,dk⟩
theorem QeY:(Qf Qh0 (Qa Qaq)).names.lookup ("name":Str)=some NameKind.local:=dk
theorem Qoz:(Qf Qh0 (Qa Qaq)).names.lookup ("is_name":Str)=some NameKind.globalImplicit:=dk
def Qkh:SD->Out D:=(eA (fun xs=>Qa1 (xs++[])) (aCons (eVar 0) aNil))
theorem Qu6:Gl Qaq "all":=dk
theorem Qog:Gl Qaq "all_unlike":=dk
def Qi2:SD->Out Fl:=(sRet (eAnd (eA (fun xs=>Qb0 (xs++[])) (aCons (eVar 0) (aCons (eVar 1) aNil))) (eAnd (eA (f1 fAll) (aCons (eComp [none] (itL (eVar 0)) (gN 0) cTrue Qkh) aNil)) (eA (fun xs=>Qaf (xs++[])) (aCons (eVar 0) aNil)))))
def QdC:List D->Out D:=bodyF false 2 2 Qi2
theorem QGA(d0 d1:D):QdC [d0,d1]=(Qi2 [some (.k,d0),some (.k,d1)]>>=retF false):=rfl
theorem QEV(F:FunV K "are_names" "are_names" Qaq f fd dV)(Qjb:DefOk P w K mg base CT "is_list" 1 false [] Qb0)(Qg3:DefOk P w K mg base CT "is_name" 1 false [] Qa1)(Qfm:DefOk P w K mg base CT "all_unlike" 1 false [] Qaf)(z_all:mg "all"=none):FnOk P w K mg base CX0 2 f fd ["thing","most"] (SpD K CT false QdC):=
 @fnV P w K mg base CT false "are_names" "are_names" Qaq f fd dV ["thing","most"] ["thing","most"] 1 Qi2 F QDQ fun cdv A outer s H E G hr=>
  (Qh (QQ (QeJ (de_f Qjb (hr.mono (by decide)) (Qd (Qb 0 rfl (oi QfV)) (Qd (Qb 1 rfl (oi QuP)) Qi)) Qq5) (QeJ (Qgi rfl Qu6 z_all (Qm (DE.db (DF.de (QP rfl QqM (DI.b (Qai (Qb 0 rfl (oi QfV)))) (fun ς=>QI (Qq rfl ς)) (Qy _) (fun fp s H G p=>⟨(QC (i:=0) QqM.nd rfl (oi QeY) (hf:=Or.inr QeY)),QJ,(de_f Qg3 (hr.mono (by decide)) (Qd (Qb 0 rfl (oi QeY)) Qi) Qoz)⟩)))) Qu)) (Qjs (de_f Qfm (hr.mono (by decide)) (Qd (Qb 0 rfl (oi QfV)) Qi) Qog))))))
abbrev Qad:Stmt:=top 45
theorem QCN:Qr ["thing","many"] ["thing","many"] (Qa Qad):=⟨rfl,rfl,rfl,dk,rfl,dk,dk⟩
theorem Qf5:Lo Qad "thing":=dk
theorem Qt9:Gl Qad "list":=dk
theorem Qni:Gl Qad "isinstance":=dk
theorem QvQ:Gl Qad "len":=dk
theorem QuK:Lo Qad "many":=dk
abbrev Qfy:PySem.Scope:={ kind:=PySem.ScopeKind.function,names:=[ (PySem.Str.ofString ".0",PySem.NameKind.local),(PySem.Str.ofString "text",PySem.NameKind.local),(PySem.Str.ofString "isinstance",PySem.NameKind.globalImplicit),(PySem.Str.ofString "str",PySem.NameKind.globalImplicit)],isGenerator:=false,isCoroutine:=false,more:=[]:PySem.Scope }
theorem QqJ:QD ["text"] [none] Qfy (Qa Qad) ["thing","many"]:=⟨rfl,dk,dk,rfl,dk,dk⟩
theorem QeQ:(Qf Qfy (Qa Qad)).names.lookup ("text":Str)=some NameKind.local:=dk
theorem Qsz:(Qf Qfy (Qa Qad)).names.lookup ("str":Str)=some NameKind.globalImplicit:=dk
theorem QkK:(Qf Qfy (Qa Qad)).names.lookup ("isinstance":Str)=some NameKind.globalImplicit:=dk
def Qj2:SD->Out D:=(eIsa (isaT "str") (eVar 0))
theorem QvT:Gl Qad "all":=dk
def QiW:SD->Out Fl:=(sRet (eAnd (eIsa (isaT "list") (eVar 0)) (eAnd (e2 dEq (eA fLen (aCons (eVar 0) aNil)) (eVar 1)) (eA (f1 fAll) (aCons (eComp [none] (itL (eVar 0)) (gN 0) cTrue Qj2) aNil)))))
def Qdk:List D->Out D:=bodyF false 2 2 QiW
theorem QEw(d0 d1:D):Qdk [d0,d1]=(QiW [some (.k,d0),some (.k,d1)]>>=retF false):=rfl
theorem QET(F:FunV K "are_texts" "are_texts" Qad f fd dV)(z_isinstance:mg "isinstance"=none)(z_list:mg "list"=none)(z_len:mg "len"=none)(z_all:mg "all"=none)(z_str:mg "str"=none):FnOk P w K mg base CX0 1 f fd ["thing","many"] (SpD K CT false Qdk):=
 @fnV P w K mg base CT false "are_texts" "are_texts" Qad f fd dV ["thing","many"] ["thing","many"] 0 QiW F QCN fun cdv A outer s H E G hr=>
  (Qh (QQ (QeJ (QdQ "list" Qqp Qt9 z_list PyProof.Rows.Boot.«list» Qni z_isinstance (DE.db (Qb 0 rfl (oi Qf5)))) (QeJ (de_eq hr.units (DE.db (Q3 QvQ z_len (Qm (DE.db (Qb 0 rfl (oi Qf5))) Qu))) (DE.db (Qb 1 rfl (oi QuK)))) (Qjs (Qgi rfl QvT z_all (Qm (DE.db (DF.de (QP rfl QqJ (DI.b (Qai (Qb 0 rfl (oi Qf5)))) (fun ς=>QI (Qq rfl ς)) (Qy _) (fun fp s H G p=>⟨(QC (i:=0) QqJ.nd rfl (oi QeQ) (hf:=Or.inr QeQ)),QJ,(QdQ "str" QGS Qsz z_str PyProof.Rows.Boot.«str» QkK z_isinstance (DE.db (Qb 0 rfl (oi QeQ))))⟩)))) Qu)))))))
abbrev Qa8:Stmt:=top 33
theorem QFH:Qr ["thing"] ["thing"] (Qa Qa8):=⟨rfl,rfl,rfl,dk,rfl,dk,dk⟩
theorem QuB:Lo Qa8 "thing":=dk
theorem Qww:Gl Qa8 "Rows":=dk
theorem Qwq:Gl Qa8 "Copy":=dk
theorem QtA:Gl Qa8 "Bundle":=dk
theorem Qwr:Gl Qa8 "Deal":=dk
theorem QoG:Gl Qa8 "isinstance":=dk
def QkU:SD->Out Fl:=(sRet (eIsa (isaTs [[("Deal",true),("Bundle",false),("Copy",false),("Rows",false),("Office",false)],[("Deal",false),("Bundle",true),("Copy",false),("Rows",false),("Office",false)],[("Deal",false),("Bundle",false),("Copy",true),("Rows",false),("Office",false)],[("Deal",false),("Bundle",false),("Copy",false),("Rows",true),("Office",false)]]) (eVar 0)))
def Qej:List D->Out D:=bodyF false 1 1 QkU
theorem QIZ(d0:D):Qej [d0]=(QkU [some (.k,d0)]>>=retF false):=rfl
theorem QIp{QF:Addr}{Qv:Addr}{QG:Addr}{QH:Addr}(F:FunV K "is_clerk" "is_clerk" Qa8 f fd dV)(z_isinstance:mg "isinstance"=none)(QPy:mg "Deal"=some (.ref QF))(QLQ:mg "Bundle"=some (.ref Qv))(QOM:mg "Copy"=some (.ref QG))(QN7:mg "Rows"=some (.ref QH))(Qyj:KitI K CT (.ref QF) [("Deal",true),("Bundle",false),("Copy",false),("Rows",false),("Office",false)])(QrJ:KitI K CT (.ref Qv) [("Deal",false),("Bundle",true),("Copy",false),("Rows",false),("Office",false)])(QxC:KitI K CT (.ref QG) [("Deal",false),("Bundle",false),("Copy",true),("Rows",false),("Office",false)])(QyF:KitI K CT (.ref QH) [("Deal",false),("Bundle",false),("Copy",false),("Rows",true),("Office",false)]):FnOk P w K mg base CX0 1 f fd ["thing"] (SpD K CT false Qej):=
 @fnV P w K mg base CT false "is_clerk" "is_clerk" Qa8 f fd dV ["thing"] ["thing"] 0 QkU F QFH fun cdv A outer s H E G hr=>
  (Qh (QQ (QM8 (a:=QF) (as:=[Qv,QG,QH]) (Qp4 (QoU (v:=.ref QF) Qwr QPy rfl) (Qp4 (QoU (v:=.ref Qv) QtA QLQ rfl) (Qp4 (QoU (v:=.ref QG) Qwq QOM rfl) (Qp4 (QoU (v:=.ref QH) Qww QN7 rfl) QMS)))) ⟨Qyj,QrJ,QxC,QyF,True.intro⟩ (by simp) QoG z_isinstance (DE.db (Qb 0 rfl (oi QuB))))))
abbrev QbP:Stmt:=inCls (top 25) 3
theorem QAx:Qr ["self"] ["self"] (Qa QbP):=⟨rfl,rfl,rfl,dk,rfl,dk,dk⟩
theorem Qtv:Lo QbP "self":=dk
theorem Qun:Gl QbP "len":=dk
def Qhn:SD->Out Fl:=(sRet (eA fLen (aCons (e2 dIx (e1 (dFld Qj "table") (eVar 0)) (eC (.int 0))) aNil)))
def Qcl:List D->Out D:=bodyF false 1 1 Qhn
theorem QB8(d0:D):Qcl [d0]=(Qhn [some (.k,d0)]>>=retF false):=rfl
theorem QD3(F:FunV K "outs" "Clerk.outs" QbP f fd dV)(z_len:mg "len"=none)(fo_table:FldOk K CT Qj "table"):FnOk P w K mg base CX0 1 f fd ["self"] (SpD K CT false Qcl):=
 @fnV P w K mg base CT false "outs" "Clerk.outs" QbP f fd dV ["self"] ["self"] 0 Qhn F QAx fun cdv A outer s H E G hr=>
  (Qh (QQ (Q3 Qun z_len (Qm (DE.db (de_ix (Qjp fo_table (Qb 0 rfl (oi Qtv))) (DE.db Qe))) Qu))))
abbrev Qbd:Stmt:=inCls (top 25) 2
theorem Qve:Qr ["self"] ["self"] (Qa Qbd):=⟨rfl,rfl,rfl,dk,rfl,dk,dk⟩
theorem Qq4:Lo Qbd "self":=dk
theorem Qs3:Gl Qbd "len":=dk
def Qfv:SD->Out Fl:=(sRet (eA fLen (aCons (e1 (dFld Qj "table") (eVar 0)) aNil)))
def QM:List D->Out D:=bodyF false 1 1 Qfv
theorem Qyl(d0:D):QM [d0]=(Qfv [some (.k,d0)]>>=retF false):=rfl
theorem Qxa(F:FunV K "period" "Clerk.period" Qbd f fd dV)(z_len:mg "len"=none)(fo_table:FldOk K CT Qj "table"):FnOk P w K mg base CX0 1 f fd ["self"] (SpD K CT false QM):=
 @fnV P w K mg base CT false "period" "Clerk.period" Qbd f fd dV ["self"] ["self"] 0 Qfv F Qve fun cdv A outer s H E G hr=>
  (Qh (QQ (Q3 Qs3 z_len (Qm (DE.db (Qjp fo_table (Qb 0 rfl (oi Qq4)))) Qu))))
abbrev Qa3:Stmt:=top 46
theorem QIW:Qr ["thing"] ["thing"] (Qa Qa3):=⟨rfl,rfl,rfl,dk,rfl,dk,dk⟩
theorem Qbi:Lo Qa3 "thing":=dk
theorem QvH:Gl Qa3 "tuple":=dk
theorem Qpu:Gl Qa3 "isinstance":=dk
theorem QzE:Gl Qa3 "len":=dk
theorem Qtu:Gl Qa3 "is_name":=dk
theorem QsD:Gl Qa3 "is_clerk":=dk
theorem Qq6:Gl Qa3 "are_texts":=dk
theorem Qrc:Gl Qa3 "is_within":=dk
def Qms:SD->Out Fl:=(sSeq (sIf (tOr' (tNot' (tVal (eIsa (isaT "tuple") (eVar 0)))) (tVal (e2 dNe (eA fLen (aCons (eVar 0) aNil)) (eC (.int 4))))) (sRet (eC (.bl false))) sNil) (sSeq (sIf (tOr' (tNot' (tVal (eA (fun xs=>Qa1 (xs++[])) (aCons (e2 dIx (eVar 0) (eC (.int 0))) aNil)))) (tNot' (tVal (eA (fun xs=>Qej (xs++[])) (aCons (e2 dIx (eVar 0) (eC (.int 1))) aNil))))) (sRet (eC (.bl false))) sNil) (sRet (eAnd (eA (fun xs=>Qdk (xs++[])) (aCons (e2 dIx (eVar 0) (eC (.int 2))) (aCons (eMeth Qc "outs" (fun _=>Qcl) (e2 dIx (eVar 0) (eC (.int 1))) aNil) aNil))) (eA (fun xs=>QaG (xs++[])) (aCons (e2 dIx (eVar 0) (eC (.int 3))) (aCons (eC (.int 0)) (aCons (e2 dSub (eMeth Qc "period" (fun _=>QM) (e2 dIx (eVar 0) (eC (.int 1))) aNil) (eC (.int 1))) aNil))))))))
def Qfs:List D->Out D:=bodyF false 1 1 Qms
theorem QJC(d0:D):Qfs [d0]=(Qms [some (.k,d0)]>>=retF false):=rfl
theorem QLj(F:FunV K "is_seat" "is_seat" Qa3 f fd dV)(Qg3:DefOk P w K mg base CT "is_name" 1 false [] Qa1)(QHq:DefOk P w K mg base CT "is_clerk" 1 false [] Qej)(QFe:DefOk P w K mg base CT "are_texts" 1 false [] Qdk)(Qde:DefOk P w K mg base CT "is_within" 2 false [] QaG)(z_isinstance:mg "isinstance"=none)(z_tuple:mg "tuple"=none)(z_len:mg "len"=none)(mt_outs:MtOk P w K mg base CT CX0 "outs" 1 Qc (fun c=>SpD K CT false ((fun _=>Qcl) c)))(mt_period:MtOk P w K mg base CT CX0 "period" 1 Qc (fun c=>SpD K CT false ((fun _=>QM) c))):FnOk P w K mg base CX0 3 f fd ["thing"] (SpD K CT false Qfs):=
 @fnV P w K mg base CT false "is_seat" "is_seat" Qa3 f fd dV ["thing"] ["thing"] 2 Qms F QIW fun cdv A outer s H E G hr=>
  (Qg (ds_if (DW.dt (dw_or (QaN (Qa0 (QdQ "tuple" Qy0 QvH z_tuple PyProof.Rows.Boot.«tuple» Qpu z_isinstance (DE.db (Qb 0 rfl (oi Qbi)))))) (Qgc (dt_ne hr.units (DE.db (Q3 QzE z_len (Qm (DE.db (Qb 0 rfl (oi Qbi))) Qu))) (DE.db Qe))))) (Qh (QQ de_bl)) Q4) (Qg (ds_if (DW.dt (dw_or (QaN (Qa0 (de_f Qg3 (hr.mono (by decide)) (Qd (de_ix (Qb 0 rfl (oi Qbi)) (DE.db Qe)) Qi) Qtu))) (Qgc (QaN (Qa0 (de_f QHq (hr.mono (by decide)) (Qd (de_ix (Qb 0 rfl (oi Qbi)) (DE.db Qe)) Qi) QsD)))))) (Qh (QQ de_bl)) Q4) (Qh (QQ (QeJ (de_f QFe (hr.mono (by decide)) (Qd (de_ix (Qb 0 rfl (oi Qbi)) (DE.db Qe)) (Qd (QcU mt_outs (hr.mono (by decide)) (de_ix (Qb 0 rfl (oi Qbi)) (DE.db Qe))) Qi)) Qq6) (Qjs (de_f Qde (hr.mono (by decide)) (Qd (de_ix (Qb 0 rfl (oi Qbi)) (DE.db Qe)) (Qd Qe (Qd (QeB (DE.db (QcU mt_period (hr.mono (by decide)) (de_ix (Qb 0 rfl (oi Qbi)) (DE.db Qe)))) (DE.db Qe)) Qi))) Qrc)))))))
abbrev Q6:Stmt:=top 47
theorem QBP:Qr ["thing","doors"] ["thing","doors"] (Qa Q6):=⟨rfl,rfl,rfl,dk,rfl,dk,dk⟩
theorem Qf4:Lo Q6 "thing":=dk
theorem Qmh:Gl Q6 "MOST_CLERKS":=dk
theorem Qq8:Gl Q6 "is_list":=dk
abbrev QiC:PySem.Scope:={ kind:=PySem.ScopeKind.function,names:=[ (PySem.Str.ofString ".0",PySem.NameKind.local),(PySem.Str.ofString "seat",PySem.NameKind.local),(PySem.Str.ofString "is_seat",PySem.NameKind.globalImplicit)],isGenerator:=false,isCoroutine:=false,more:=[]:PySem.Scope }
theorem Qqx:QD ["seat"] [none] QiC (Qa Q6) ["thing","doors"]:=⟨rfl,dk,dk,rfl,dk,dk⟩
theorem QeZ:(Qf QiC (Qa Q6)).names.lookup ("seat":Str)=some NameKind.local:=dk
theorem QnN:(Qf QiC (Qa Q6)).names.lookup ("is_seat":Str)=some NameKind.globalImplicit:=dk
def QjN:SD->Out D:=(eA (fun xs=>Qfs (xs++[])) (aCons (eVar 0) aNil))
theorem Qwi:Gl Q6 "all":=dk
abbrev Qpl:PySem.Scope:={ kind:=PySem.ScopeKind.function,names:=[(PySem.Str.ofString ".0",PySem.NameKind.local),(PySem.Str.ofString "seat",PySem.NameKind.local)],isGenerator:=false,isCoroutine:=false,more:=[]:PySem.Scope }
theorem QqQ:QD ["seat"] [none] Qpl (Qa Q6) ["thing","doors"]:=⟨rfl,dk,dk,rfl,dk,dk⟩
theorem QeW:(Qf Qpl (Qa Q6)).names.lookup ("seat":Str)=some NameKind.local:=dk
def QjV:SD->Out D:=(e2 dIx (eVar 0) (eC (.int 0)))
theorem Qtr:Lo Q6 "doors":=dk
theorem Qnl:Gl Q6 "all_unlike":=dk
def QiJ:SD->Out Fl:=(sSeq (sIf (tOr' (tNot' (tVal (eA (fun xs=>Qb0 (xs++[])) (aCons (eVar 0) (aCons (eC (.int 60)) aNil))))) (tNot' (tVal (eA (f1 fAll) (aCons (eComp [none] (itL (eVar 0)) (gN 0) cTrue QjN) aNil))))) (sRet (eC (.bl false))) sNil) (sRet (eA (fun xs=>Qaf (xs++[])) (aCons (e2 dCat (eComp [none] (itL (eVar 0)) (gN 0) cTrue QjV) (eVar 1)) aNil))))
def Qdu:List D->Out D:=bodyF false 2 2 QiJ
theorem QGD(d0 d1:D):Qdu [d0,d1]=(QiJ [some (.k,d0),some (.k,d1)]>>=retF false):=rfl
theorem QFJ{u_MOST_CLERKS:Value}(F:FunV K "are_seats" "are_seats" Q6 f fd dV)(Qjb:DefOk P w K mg base CT "is_list" 1 false [] Qb0)(QJA:DefOk P w K mg base CT "is_seat" 3 false [] Qfs)(Qfm:DefOk P w K mg base CT "all_unlike" 1 false [] Qaf)(z_all:mg "all"=none)(c_MOST_CLERKS:mg "MOST_CLERKS"=some u_MOST_CLERKS)(r_MOST_CLERKS:RelV (toV (.int 60)) u_MOST_CLERKS):FnOk P w K mg base CX0 4 f fd ["thing","doors"] (SpD K CT false Qdu):=
 @fnV P w K mg base CT false "are_seats" "are_seats" Q6 f fd dV ["thing","doors"] ["thing","doors"] 3 QiJ F QBP fun cdv A outer s H E G hr=>
  (Qg (ds_if (DW.dt (dw_or (QaN (Qa0 (de_f Qjb (hr.mono (by decide)) (Qd (Qb 0 rfl (oi Qf4)) (Qd (QeN (d:=(.int 60)) Qmh c_MOST_CLERKS rfl r_MOST_CLERKS) Qi)) Qq8))) (Qgc (QaN (Qa0 (Qgi rfl Qwi z_all (Qm (DE.db (DF.de (QP rfl Qqx (DI.b (Qai (Qb 0 rfl (oi Qf4)))) (fun ς=>QI (Qq rfl ς)) (Qy _) (fun fp s H G p=>⟨(QC (i:=0) Qqx.nd rfl (oi QeZ) (hf:=Or.inr QeZ)),QJ,(de_f QJA (hr.mono (by decide)) (Qd (Qb 0 rfl (oi QeZ)) Qi) QnN)⟩)))) Qu))))))) (Qh (QQ de_bl)) Q4) (Qh (QQ (de_f Qfm (hr.mono (by decide)) (Qd (DF.de (QAW (DF.de (QP rfl QqQ (DI.b (Qai (Qb 0 rfl (oi Qf4)))) (fun ς=>QI (Qq rfl ς)) (Qy _) (fun fp s H G p=>⟨(QC (i:=0) QqQ.nd rfl (oi QeW) (hf:=Or.inr QeW)),QJ,(de_ix (Qb 0 rfl (oi QeW)) (DE.db Qe))⟩))) (Qb 1 rfl (oi Qtr)))) Qi) Qnl))))
abbrev Qbc:Stmt:=top 48
theorem QGJ:Qr ["thing","names"] ["thing","names"] (Qa Qbc):=⟨rfl,rfl,rfl,dk,rfl,dk,dk⟩
theorem QcW:Lo Qbc "thing":=dk
theorem QuO:Gl Qbc "tuple":=dk
theorem Qpf:Gl Qbc "isinstance":=dk
theorem QwU:Gl Qbc "len":=dk
theorem Qjf:Gl Qbc "is_name":=dk
theorem Qui:Lo Qbc "names":=dk
def QkI:SD->Out Fl:=(sSeq (sIf (tOr' (tNot' (tVal (eIsa (isaT "tuple") (eVar 0)))) (tVal (e2 dNe (eA fLen (aCons (eVar 0) aNil)) (eC (.int 2))))) (sRet (eC (.bl false))) sNil) (sRet (eAnd (eA (fun xs=>Qa1 (xs++[])) (aCons (e2 dIx (eVar 0) (eC (.int 0))) aNil)) (eAnd (eA (fun xs=>Qa1 (xs++[])) (aCons (e2 dIx (eVar 0) (eC (.int 1))) aNil)) (e2 dInL (e2 dIx (eVar 0) (eC (.int 1))) (eVar 1))))))
def Qer:List D->Out D:=bodyF false 2 2 QkI
theorem QIF(d0 d1:D):Qer [d0,d1]=(QkI [some (.k,d0),some (.k,d1)]>>=retF false):=rfl
theorem QJb(F:FunV K "is_entry" "is_entry" Qbc f fd dV)(Qg3:DefOk P w K mg base CT "is_name" 1 false [] Qa1)(z_isinstance:mg "isinstance"=none)(z_tuple:mg "tuple"=none)(z_len:mg "len"=none):FnOk P w K mg base CX0 2 f fd ["thing","names"] (SpD K CT false Qer):=
 @fnV P w K mg base CT false "is_entry" "is_entry" Qbc f fd dV ["thing","names"] ["thing","names"] 1 QkI F QGJ fun cdv A outer s H E G hr=>
  (Qg (ds_if (DW.dt (dw_or (QaN (Qa0 (QdQ "tuple" Qy0 QuO z_tuple PyProof.Rows.Boot.«tuple» Qpf z_isinstance (DE.db (Qb 0 rfl (oi QcW)))))) (Qgc (dt_ne hr.units (DE.db (Q3 QwU z_len (Qm (DE.db (Qb 0 rfl (oi QcW))) Qu))) (DE.db Qe))))) (Qh (QQ de_bl)) Q4) (Qh (QQ (QeJ (de_f Qg3 (hr.mono (by decide)) (Qd (de_ix (Qb 0 rfl (oi QcW)) (DE.db Qe)) Qi) Qjf) (QeJ (de_f Qg3 (hr.mono (by decide)) (Qd (de_ix (Qb 0 rfl (oi QcW)) (DE.db Qe)) Qi) Qjf) (Qjs (QJW (DE.db (de_ix (Qb 0 rfl (oi QcW)) (DE.db Qe))) (DE.db (Qb 1 rfl (oi Qui))))))))))
abbrev QW:Stmt:=top 49
theorem Qxz:Qr ["thing","names"] ["thing","names"] (Qa QW):=⟨rfl,rfl,rfl,dk,rfl,dk,dk⟩
theorem Qe0:Lo QW "thing":=dk
theorem Qj3:Gl QW "MOST_ENTRIES":=dk
theorem Qpk:Gl QW "is_list":=dk
abbrev Qeg:PySem.Scope:={ kind:=PySem.ScopeKind.function,names:=[ (PySem.Str.ofString ".0",PySem.NameKind.local),(PySem.Str.ofString "entry",PySem.NameKind.local),(PySem.Str.ofString "is_entry",PySem.NameKind.globalImplicit),(PySem.Str.ofString "names",PySem.NameKind.free)],isGenerator:=false,isCoroutine:=false,more:=[]:PySem.Scope }
theorem Qmw:QD ["entry","names"] [none,some 1] Qeg (Qa QW) ["thing","names"]:=⟨rfl,dk,dk,rfl,dk,dk⟩
theorem Qdi:(Qf Qeg (Qa QW)).names.lookup ("entry":Str)=some NameKind.local:=dk
theorem Qof:(Qf Qeg (Qa QW)).names.lookup ("names":Str)=some NameKind.cell:=dk
theorem QkV:(Qf Qeg (Qa QW)).names.lookup ("is_entry":Str)=some NameKind.globalImplicit:=dk
def QhR:SD->Out D:=(eA (fun xs=>Qer (xs++[])) (aCons (eVar 0) (aCons (eVar 1) aNil)))
theorem Qtz:Gl QW "all":=dk
abbrev Ql4:PySem.Scope:={ kind:=PySem.ScopeKind.function,names:=[(PySem.Str.ofString ".0",PySem.NameKind.local),(PySem.Str.ofString "entry",PySem.NameKind.local)],isGenerator:=false,isCoroutine:=false,more:=[]:PySem.Scope }
theorem QmR:QD ["entry"] [none] Ql4 (Qa QW) ["thing","names"]:=⟨rfl,dk,dk,rfl,dk,dk⟩
theorem Qdz:(Qf Ql4 (Qa QW)).names.lookup ("entry":Str)=some NameKind.local:=dk
def QhO:SD->Out D:=(e2 dIx (eVar 0) (eC (.int 0)))
theorem QlW:Gl QW "all_unlike":=dk
def Qgu:SD->Out Fl:=(sSeq (sIf (tOr' (tNot' (tVal (eA (fun xs=>Qb0 (xs++[])) (aCons (eVar 0) (aCons (eC (.int 6)) aNil))))) (tNot' (tVal (eA (f1 fAll) (aCons (eComp [none,some 1] (itL (eVar 0)) (gN 0) cTrue QhR) aNil))))) (sRet (eC (.bl false))) sNil) (sRet (eA (fun xs=>Qaf (xs++[])) (aCons (eComp [none] (itL (eVar 0)) (gN 0) cTrue QhO) aNil))))
def Qcr:List D->Out D:=bodyF false 2 2 Qgu
theorem QAs(d0 d1:D):Qcr [d0,d1]=(Qgu [some (.k,d0),some (.k,d1)]>>=retF false):=rfl
theorem Qz1{u_MOST_ENTRIES:Value}(F:FunV K "are_entries" "are_entries" QW f fd dV)(Qjb:DefOk P w K mg base CT "is_list" 1 false [] Qb0)(QIL:DefOk P w K mg base CT "is_entry" 2 false [] Qer)(Qfm:DefOk P w K mg base CT "all_unlike" 1 false [] Qaf)(z_all:mg "all"=none)(c_MOST_ENTRIES:mg "MOST_ENTRIES"=some u_MOST_ENTRIES)(r_MOST_ENTRIES:RelV (toV (.int 6)) u_MOST_ENTRIES):FnOk P w K mg base CX0 3 f fd ["thing","names"] (SpD K CT false Qcr):=
 @fnV P w K mg base CT false "are_entries" "are_entries" QW f fd dV ["thing","names"] ["thing","names"] 2 Qgu F Qxz fun cdv A outer s H E G hr=>
  (Qg (ds_if (DW.dt (dw_or (QaN (Qa0 (de_f Qjb (hr.mono (by decide)) (Qd (Qb 0 rfl (oi Qe0)) (Qd (QeN (d:=(.int 6)) Qj3 c_MOST_ENTRIES rfl r_MOST_ENTRIES) Qi)) Qpk))) (Qgc (QaN (Qa0 (Qgi rfl Qtz z_all (Qm (DE.db (DF.de (QP rfl Qmw (DI.b (Qai (Qb 0 rfl (oi Qe0)))) (fun ς=>QI (Qq rfl ς)) (Qy _) (fun fp s H G p=>⟨(QC (i:=0) Qmw.nd rfl (oi Qdi) (hf:=Or.inr Qdi)),QJ,(de_f QIL (hr.mono (by decide)) (Qd (Qb 0 rfl (oi Qdi)) (Qd (Qb 1 rfl (Or.inr (oi Qof))) Qi)) QkV)⟩)))) Qu))))))) (Qh (QQ de_bl)) Q4) (Qh (QQ (de_f Qfm (hr.mono (by decide)) (Qd (DF.de (QP rfl QmR (DI.b (Qai (Qb 0 rfl (oi Qe0)))) (fun ς=>QI (Qq rfl ς)) (Qy _) (fun fp s H G p=>⟨(QC (i:=0) QmR.nd rfl (oi Qdz) (hf:=Or.inr Qdz)),QJ,(de_ix (Qb 0 rfl (oi Qdz)) (DE.db Qe))⟩))) Qi) QlW))))
abbrev QbU:Stmt:=top 51
theorem QEK:Qr ["seat","places"] ["seat","places"] (Qa QbU):=⟨rfl,rfl,rfl,dk,rfl,dk,dk⟩
theorem QwK:Lo QbU "seat":=dk
abbrev QjX:PySem.Scope:={ kind:=PySem.ScopeKind.function,names:=[ (PySem.Str.ofString ".0",PySem.NameKind.local),(PySem.Str.ofString "text",PySem.NameKind.local),(PySem.Str.ofString "places",PySem.NameKind.free)],isGenerator:=false,isCoroutine:=false,more:=[]:PySem.Scope }
theorem Qrj:QD ["text","places"] [none,some 1] QjX (Qa QbU) ["seat","places"]:=⟨rfl,dk,dk,rfl,dk,dk⟩
theorem Qfr:(Qf QjX (Qa QbU)).names.lookup ("text":Str)=some NameKind.local:=dk
theorem QpN:(Qf QjX (Qa QbU)).names.lookup ("places":Str)=some NameKind.cell:=dk
def Ql2:SD->Out D:=(eDget (eVar 1) (eVar 0))
def Qk7:SD->Out Fl:=(sRetF (eComp [none,some 1] (itL (e2 dIx (eVar 0) (eC (.int 2)))) (gN 0) cTrue Ql2))
def Qet:List D->Out D:=bodyF true 2 2 Qk7
theorem QIR(d0 d1:D):Qet [d0,d1]=(Qk7 [some (.k,d0),some (.k,d1)]>>=retF true):=rfl
theorem QIE(F:FunV K "leads_to" "leads_to" QbU f fd dV)  : FnOk P w K mg base CX0 1 f fd ["seat","places"] (SpD K CT true Qet):=
 @fnV P w K mg base CT true "leads_to" "leads_to" QbU f fd dV ["seat","places"] ["seat","places"] 0 Qk7 F QEK fun cdv A outer s H E G hr=>
  (Qh (Qbj (QP rfl Qrj (DI.b (Qai (de_ix (Qb 0 rfl (oi QwK)) (DE.db Qe)))) (fun ς=>QI (Qq rfl ς)) (Qy _) (fun fp s H G p=>⟨(QC (i:=0) Qrj.nd rfl (oi Qfr) (hf:=Or.inr Qfr)),QJ,(QM7 hr.units (Qb 1 rfl (Or.inr (oi QpN))) (DE.db (Qb 0 rfl (oi Qfr))))⟩))))
abbrev Ql:Stmt:=inCls (top 52) 0
theorem QfL:Qr ["self","clerks","entries","doors","names","places","ways"] ["self","clerks","entries","doors"] (Qa Ql):=⟨rfl,rfl,rfl,dk,rfl,dk,dk⟩
theorem QcZ:Lo Ql "doors":=dk
theorem QlI:Gl Ql "MOST_DOORS":=dk
theorem Qmq:Gl Ql "are_names":=dk
theorem QbR:Lo Ql "clerks":=dk
theorem Qmj:Gl Ql "are_seats":=dk
abbrev QlB:PySem.Scope:={ kind:=PySem.ScopeKind.function,names:=[(PySem.Str.ofString ".0",PySem.NameKind.local),(PySem.Str.ofString "seat",PySem.NameKind.local)],isGenerator:=false,isCoroutine:=false,more:=[]:PySem.Scope }
theorem Qm0:QD ["seat"] [none] QlB (Qa Ql) ["self","clerks","entries","doors","names","places","ways"]:=⟨rfl,dk,dk,rfl,dk,dk⟩
theorem QdK:(Qf QlB (Qa Ql)).names.lookup ("seat":Str)=some NameKind.local:=dk
def Qhd:SD->Out D:=(e2 dIx (eVar 0) (eC (.int 0)))
theorem QcX:Lo Ql "names":=dk
theorem Qg0:Lo Ql "entries":=dk
theorem QkW:Gl Ql "are_entries":=dk
theorem Qmo:Gl Ql "places_of":=dk
theorem Qqd:(Qa Ql).names.lookup ("places":Str)=some NameKind.cell:=dk
abbrev Qey:PySem.Scope:={ kind:=PySem.ScopeKind.function,names:=[ (PySem.Str.ofString ".0",PySem.NameKind.local),(PySem.Str.ofString "seat",PySem.NameKind.local),(PySem.Str.ofString "leads_to",PySem.NameKind.globalImplicit),(PySem.Str.ofString "places",PySem.NameKind.free)],isGenerator:=false,isCoroutine:=false,more:=[]:PySem.Scope }
theorem QmU:QD ["seat","places"] [none,some 5] Qey (Qa Ql) ["self","clerks","entries","doors","names","places","ways"]:=⟨rfl,dk,dk,rfl,dk,dk⟩
theorem QdT:(Qf Qey (Qa Ql)).names.lookup ("seat":Str)=some NameKind.local:=dk
theorem Qmp:(Qf Qey (Qa Ql)).names.lookup ("places":Str)=some NameKind.cell:=dk
theorem QkN:(Qf Qey (Qa Ql)).names.lookup ("leads_to":Str)=some NameKind.globalImplicit:=dk
def QhN:SD->Out D:=(eA (fun xs=>Qet (xs++[])) (aCons (eVar 0) (aCons (eVar 1) aNil)))
theorem Qe8:Lo Ql "ways":=dk
abbrev QlC:PySem.Scope:={ kind:=PySem.ScopeKind.function,names:=[(PySem.Str.ofString ".0",PySem.NameKind.local),(PySem.Str.ofString "way",PySem.NameKind.local)],isGenerator:=false,isCoroutine:=false,more:=[]:PySem.Scope }
theorem QmY:QD ["way"] [none] QlC (Qa Ql) ["self","clerks","entries","doors","names","places","ways"]:=⟨rfl,dk,dk,rfl,dk,dk⟩
theorem Qev:(Qf QlC (Qa Ql)).names.lookup ("way":Str)=some NameKind.local:=dk
def QhL:SD->Out D:=(e2 dInL (eC .non) (eVar 0))
theorem Qtq:Gl Ql "any":=dk
theorem QbG:Lo Ql "self":=dk
theorem Qsk:Gl Ql "list":=dk
abbrev QgQ:PySem.Scope:={ kind:=PySem.ScopeKind.function,names:=[ (PySem.Str.ofString ".0",PySem.NameKind.local),(PySem.Str.ofString "entry",PySem.NameKind.local),(PySem.Str.ofString "places",PySem.NameKind.free)],isGenerator:=false,isCoroutine:=false,more:=[]:PySem.Scope }
theorem QmZ:QD ["entry","places"] [none,some 5] QgQ (Qa Ql) ["self","clerks","entries","doors","names","places","ways"]:=⟨rfl,dk,dk,rfl,dk,dk⟩
theorem Qcf:(Qf QgQ (Qa Ql)).names.lookup ("entry":Str)=some NameKind.local:=dk
theorem Qmi:(Qf QgQ (Qa Ql)).names.lookup ("places":Str)=some NameKind.cell:=dk
def Qe4:SD->Out D:=(eTup (aCons (e2 dIx (eVar 0) (eC (.int 0))) (aCons (eDix (eVar 1) (e2 dIx (eVar 0) (eC (.int 1)))) aNil)))
abbrev Ql9:PySem.Scope:={ kind:=PySem.ScopeKind.function,names:=[(PySem.Str.ofString ".0",PySem.NameKind.local),(PySem.Str.ofString "seat",PySem.NameKind.local)],isGenerator:=false,isCoroutine:=false,more:=[]:PySem.Scope }
theorem QmV:QD ["seat"] [none] Ql9 (Qa Ql) ["self","clerks","entries","doors","names","places","ways"]:=⟨rfl,dk,dk,rfl,dk,dk⟩
theorem QdW:(Qf Ql9 (Qa Ql)).names.lookup ("seat":Str)=some NameKind.local:=dk
def Qe2:SD->Out D:=(e2 dIx (eVar 0) (eC (.int 1)))
abbrev QlH:PySem.Scope:={ kind:=PySem.ScopeKind.function,names:=[(PySem.Str.ofString ".0",PySem.NameKind.local),(PySem.Str.ofString "seat",PySem.NameKind.local)],isGenerator:=false,isCoroutine:=false,more:=[]:PySem.Scope }
theorem QmQ:QD ["seat"] [none] QlH (Qa Ql) ["self","clerks","entries","doors","names","places","ways"]:=⟨rfl,dk,dk,rfl,dk,dk⟩
theorem Qd2:(Qf QlH (Qa Ql)).names.lookup ("seat":Str)=some NameKind.local:=dk
def Qe6:SD->Out D:=(e2 dIx (eVar 0) (eC (.int 3)))
def QgM:SD->Out Fl:=(sSeq (fun ς=>noX ((sIf (tNot' (tVal (eA (fun xs=>QdC (xs++[])) (aCons (eVar 3) (aCons (eC (.int 6)) aNil))))) Qhi sNil) ς)) (sSeq (fun ς=>noX ((sIf (tNot' (tVal (eA (fun xs=>Qdu (xs++[])) (aCons (eVar 1) (aCons (eVar 3) aNil))))) Qhi sNil) ς)) (sSeq (fun ς=>noX ((sSet 4 (eComp [none] (itL (eVar 1)) (gN 0) cTrue Qhd)) ς)) (sSeq (fun ς=>noX ((sIf (tNot' (tVal (eA (fun xs=>Qcr (xs++[])) (aCons (eVar 2) (aCons (eVar 4) aNil))))) Qhi sNil) ς)) (sSeq (fun ς=>noX ((sSet 5 (eA (fun xs=>Qdq (xs++[])) (aCons (eVar 4) (aCons (eVar 3) aNil)))) ς)) (sSeq (fun ς=>noX ((sSet 6 (eComp [none,some 5] (itL (eVar 1)) (gN 0) cTrue QhN)) ς)) (sSeq (fun ς=>noX ((sIf (tVal (eA (f1 fAny) (aCons (eComp [none] (itL (eVar 6)) (gN 0) cTrue QhL) aNil))) Qhi sNil) ς)) (sSeq (fun ς=>noX (sFldS Qj "clerk_names" 0 (eVar 4) ς)) (sSeq (fun ς=>noX (sFldS Qj "door_names" 0 (e1 dList (eVar 3)) ς)) (sSeq (fun ς=>noX (sFldS Qj "entry_places" 0 (eComp [none,some 5] (itL (eVar 2)) (gN 0) cTrue Qe4) ς)) (sSeq (fun ς=>noX (sFldS Qj "staff" 0 (eComp [none] (itL (eVar 1)) (gN 0) cTrue Qe2) ς)) (sSeq (fun ς=>noX (sFldS Qj "first_states" 0 (eComp [none] (itL (eVar 1)) (gN 0) cTrue Qe6) ς)) (fun ς=>noX (sFldS Qj "ways" 0 (eVar 6) ς))))))))))))))
def Qb2:Str->List (Str×D)->List D->Out (List (Str×D)):=bodyI 4 7 QgM
theorem QAL(c:Str)(fds:List (Str×D))(d1 d2 d3:D):Qb2 c fds [d1,d2,d3]=(QgM [some (.s,.ins c fds),some (.k,d1),some (.k,d2),some (.k,d3),none,none,none]>>=Qfp c):=rfl
theorem QzM{u_MOST_DOORS:Value}(F:FunV K "__init__" "Office.__init__" Ql f fd dV)(QEu:DefOk P w K mg base CT "are_names" 2 false [] QdC)(QEN:DefOk P w K mg base CT "are_seats" 4 false [] Qdu)(QAK:DefOk P w K mg base CT "are_entries" 3 false [] Qcr)(QGF:DefOk P w K mg base CT "places_of" 1 true [] Qdq)(QHC:DefOk P w K mg base CT "leads_to" 1 true [] Qet)(z_any:mg "any"=none)(z_list:mg "list"=none)(c_MOST_DOORS:mg "MOST_DOORS"=some u_MOST_DOORS)(r_MOST_DOORS:RelV (toV (.int 6)) u_MOST_DOORS)(fo_clerk_names:FldOk K CT Qj "clerk_names")(fo_door_names:FldOk K CT Qj "door_names")(fo_entry_places:FldOk K CT Qj "entry_places")(fo_staff:FldOk K CT Qj "staff")(fo_first_states:FldOk K CT Qj "first_states")(fo_ways:FldOk K CT Qj "ways"):FnOk P w K mg base (CXR P w) 5 f fd ["self","clerks","entries","doors"] (SpI K CT Qb2):=
 @fnI P w K mg base CT "__init__" "Office.__init__" Ql f fd dV ["self","clerks","entries","doors","names","places","ways"] ["self","clerks","entries","doors"] 4 QgM F QfL fun cdv A outer s H E G p hr=>
  (Qg (DS.lift (ds_if (QaN (Qa0 (de_f QEu (hr.mono (by decide)) (Qd (Qb 3 rfl (oi QcZ)) (Qd (QeN (d:=(.int 6)) QlI c_MOST_DOORS rfl r_MOST_DOORS) Qi)) Qmq))) (Qh Qft) Q4)) (Qg (DS.lift (ds_if (QaN (Qa0 (de_f QEN (hr.mono (by decide)) (Qd (Qb 1 rfl (oi QbR)) (Qd (Qb 3 rfl (oi QcZ)) Qi)) Qmj))) (Qh Qft) Q4)) (Qg (DS.lift (Qxd (i:=4) rfl Qm0 (DI.b (Qai (Qb 1 rfl (oi QbR)))) (fun ς=>QI (Qq rfl ς)) (Qy _) (fun fp s H G p=>⟨(QC (i:=0) Qm0.nd rfl (oi QdK) (hf:=Or.inr QdK)),QJ,(de_ix (Qb 0 rfl (oi QdK)) (DE.db Qe))⟩) QfL.nd rfl (oi QcX))) (Qg (DS.lift (ds_if (QaN (Qa0 (de_f QAK (hr.mono (by decide)) (Qd (Qb 2 rfl (oi Qg0)) (Qd (Qb 4 rfl (oi QcX)) Qi)) QkW))) (Qh Qft) Q4)) (Qg (DS.lift (Qar (i:=5) QfL.nd rfl (Or.inr Qqd) (de_f QGF (hr.mono (by decide)) (Qd (Qb 4 rfl (oi QcX)) (Qd (Qb 3 rfl (oi QcZ)) Qi)) Qmo))) (Qg (DS.lift (Qxd (i:=6) rfl QmU (DI.b (Qai (Qb 1 rfl (oi QbR)))) (fun ς=>QI (Qq rfl ς)) (Qy _) (fun fp s H G p=>⟨(QC (i:=0) QmU.nd rfl (oi QdT) (hf:=Or.inr QdT)),QJ,(de_f QHC (hr.mono (by decide)) (Qd (Qb 0 rfl (oi QdT)) (Qd (Qb 1 rfl (Or.inr (oi Qmp))) Qi)) QkN)⟩) QfL.nd rfl (oi Qe8))) (Qg (DS.lift (ds_if (Qa0 (QKP rfl Qtq z_any (Qm (DE.db (DF.de (QP rfl QmY (DI.b (Qai (Qb 6 rfl (oi Qe8)))) (fun ς=>QI (Qq rfl ς)) (Qy _) (fun fp s H G p=>⟨(QC (i:=0) QmY.nd rfl (oi Qev) (hf:=Or.inr Qev)),QJ,(QJW (DE.db QPc) (DE.db (Qb 0 rfl (oi Qev))))⟩)))) Qu))) (Qh Qft) Q4)) (Qg (DS.lift (Qg2 0 fo_clerk_names (Qb 4 rfl (oi QcX)) rfl (oi QbG))) (Qg (DS.lift (Qg2 0 fo_door_names (DF.de (QgW Qsk z_list (Qb 3 rfl (oi QcZ)))) rfl (oi QbG))) (Qg (DS.lift (Qg2 0 fo_entry_places (DF.de (QP rfl QmZ (DI.b (Qai (Qb 2 rfl (oi Qg0)))) (fun ς=>QI (Qq rfl ς)) (Qy _) (fun fp s H G p=>⟨(QC (i:=0) QmZ.nd rfl (oi Qcf) (hf:=Or.inr Qcf)),QJ,(Qvn (Qd (de_ix (Qb 0 rfl (oi Qcf)) (DE.db Qe)) (Qd (QPG hr.units (Qb 1 rfl (Or.inr (oi Qmi))) (DE.db (de_ix (Qb 0 rfl (oi Qcf)) (DE.db Qe)))) Qi)))⟩))) rfl (oi QbG))) (Qg (DS.lift (Qg2 0 fo_staff (DF.de (QP rfl QmV (DI.b (Qai (Qb 1 rfl (oi QbR)))) (fun ς=>QI (Qq rfl ς)) (Qy _) (fun fp s H G p=>⟨(QC (i:=0) QmV.nd rfl (oi QdW) (hf:=Or.inr QdW)),QJ,(de_ix (Qb 0 rfl (oi QdW)) (DE.db Qe))⟩))) rfl (oi QbG))) (Qg (DS.lift (Qg2 0 fo_first_states (DF.de (QP rfl QmQ (DI.b (Qai (Qb 1 rfl (oi QbR)))) (fun ς=>QI (Qq rfl ς)) (Qy _) (fun fp s H G p=>⟨(QC (i:=0) QmQ.nd rfl (oi Qd2) (hf:=Or.inr Qd2)),QJ,(de_ix (Qb 0 rfl (oi Qd2)) (DE.db Qe))⟩))) rfl (oi QbG))) (Qh (DS.lift (Qg2 0 fo_ways (Qb 6 rfl (oi Qe8)) rfl (oi QbG))))))))))))))))
abbrev QbK:Stmt:=top 57
theorem QDa:Qr ["_law_lead","_law_doors"] ["_law_lead","_law_doors"] (Qa QbK):=⟨rfl,rfl,rfl,dk,rfl,dk,dk⟩
theorem QdR:Lo QbK "_law_lead":=dk
theorem Qm8:Lo QbK "_law_doors":=dk
theorem Qvr:Gl QbK "len":=dk
def QiR:SD->Out Fl:=(sSeq (sIf (tVal (e2 dLt (eVar 0) (eC (.int 0)))) (sRet (e2 dSub (e1 dNeg (eC (.int 1))) (eVar 0))) sNil) (sRet (e2 dAdd (eA fLen (aCons (eVar 1) aNil)) (eVar 0))))
def QcC:List D->Out D:=bodyF false 2 2 QiR
theorem QFU(d0 d1:D):QcC [d0,d1]=(QiR [some (.k,d0),some (.k,d1)]>>=retF false):=rfl
theorem QGg(F:FunV K "_law_place" "_law_place" QbK f fd dV)(z_len:mg "len"=none):FnOk P w K mg base CX0 1 f fd ["_law_lead","_law_doors"] (SpD K CT false QcC):=
 @fnV P w K mg base CT false "_law_place" "_law_place" QbK f fd dV ["_law_lead","_law_doors"] ["_law_lead","_law_doors"] 0 QiR F QDa fun cdv A outer s H E G hr=>
  (Qg (ds_if (dt_lt (DE.db (Qb 0 rfl (oi QdR))) (DE.db Qe)) (Qh (QQ (QeB (DE.db (Qjn (DE.db Qe))) (DE.db (Qb 0 rfl (oi QdR)))))) Q4) (Qh (QQ (Qas (DE.db (Q3 Qvr z_len (Qm (DE.db (Qb 1 rfl (oi Qm8))) Qu))) (DE.db (Qb 0 rfl (oi QdR)))))))
abbrev Qp:Stmt:=top 58
theorem Qab:Qr ["_law_script","_law_start","_law_most","_law_seed","_law_cells","_law_doors","_law_every","_law_clerks","_law_rows","_law_leads","_law_k","_law_number","_law_clerk_here","_law_mine","_law_numbers","_law_j","_law_lead","_law_names"] ["_law_script","_law_start","_law_most"] (Qa Qp):=⟨rfl,rfl,rfl,dk,rfl,dk,dk⟩
theorem Qc3:Lo Qp "_law_script":=dk
theorem Qpn:Gl Qp "_law_cell":=dk
theorem Qgl:Gl Qp "_law_mixed":=dk
theorem QbE:Lo Qp "_law_seed":=dk
theorem Qdr:Lo Qp "_law_start":=dk
theorem Qpc:Lo Qp "_law_most":=dk
theorem QaO:Gl Qp "len":=dk
theorem Qvy:Gl Qp "int":=dk
theorem Qbp:Lo Qp "_law_cells":=dk
theorem QaI:(Qa Qp).names.lookup ("_law_doors":Str)=some NameKind.cell:=dk
theorem Qf7:Gl Qp "range":=dk
abbrev QoK:PySem.Scope:={ kind:=PySem.ScopeKind.function,names:=[(PySem.Str.ofString ".0",PySem.NameKind.local),(PySem.Str.ofString "_law_k",PySem.NameKind.local)],isGenerator:=false,isCoroutine:=false,more:=[]:PySem.Scope }
theorem QqK:QD ["_law_k"] [none] QoK (Qa Qp) ["_law_script","_law_start","_law_most","_law_seed","_law_cells","_law_doors","_law_every","_law_clerks","_law_rows","_law_leads","_law_k","_law_number","_law_clerk_here","_law_mine","_law_numbers","_law_j","_law_lead","_law_names"]:=⟨rfl,dk,dk,rfl,dk,dk⟩
theorem Qd4:(Qf QoK (Qa Qp)).names.lookup ("_law_k":Str)=some NameKind.local:=dk
def Qkt:SD->Out D:=(e2 dIx (eC (.str "abcdefghijklm")) (eVar 0))
theorem Qgo:(Qa Qp).names.lookup ("_law_every":Str)=some NameKind.cell:=dk
theorem Qc5:Lo Qp "_law_clerks":=dk
theorem QdM:Lo Qp "_law_rows":=dk
theorem Qdt:Lo Qp "_law_leads":=dk
theorem Qdd:Lo Qp "_law_k":=dk
theorem Qb5:Lo Qp "_law_number":=dk
theorem QnY:Gl Qp "_law_clerk":=dk
theorem Qcn:Lo Qp "_law_mine":=dk
theorem Qd9:Lo Qp "_law_clerk_here":=dk
theorem QaZ:Lo Qp "_law_numbers":=dk
theorem Qjr:Lo Qp "_law_j":=dk
theorem Qco:Lo Qp "_law_lead":=dk
def QeL:SD->Out Fl:=(sSeq (sSet 16 (e2 dMod (e2 dMul (eVar 11) (e2 dAdd (e2 dMul (eC (.int 2)) (eVar 15)) (eC (.int 5)))) (eC (.int 999983)))) (sIf (tVal (e2 dLt (e2 dMod (eVar 16) (eC (.int 8))) (e2 dMod (e2 dFdiv (eVar 3) (eC (.int 12))) (eC (.int 8))))) (QbW 14 (e2 dSub (e1 dNeg (eC (.int 1))) (e2 dMod (e2 dFdiv (eVar 16) (eC (.int 8))) (eA fLen (aCons (eVar 5) aNil))))) (QbW 14 (e2 dMod (e2 dFdiv (eVar 16) (eC (.int 8))) (eA fLen (aCons (eVar 4) aNil))))))
abbrev QdY:PySem.Scope:={ kind:=PySem.ScopeKind.function,names:=[ (PySem.Str.ofString ".0",PySem.NameKind.local),(PySem.Str.ofString "_law_lead",PySem.NameKind.local),(PySem.Str.ofString "_law_place",PySem.NameKind.globalImplicit),(PySem.Str.ofString "_law_doors",PySem.NameKind.free),(PySem.Str.ofString "_law_every",PySem.NameKind.free)],isGenerator:=false,isCoroutine:=false,more:=[]:PySem.Scope }
theorem QqH:QD ["_law_lead","_law_every","_law_doors"] [none,some 6,some 5] QdY (Qa Qp) ["_law_script","_law_start","_law_most","_law_seed","_law_cells","_law_doors","_law_every","_law_clerks","_law_rows","_law_leads","_law_k","_law_number","_law_clerk_here","_law_mine","_law_numbers","_law_j","_law_lead","_law_names"]:=⟨rfl,dk,dk,rfl,dk,dk⟩
theorem QcM:(Qf QdY (Qa Qp)).names.lookup ("_law_lead":Str)=some NameKind.local:=dk
theorem Qk1:(Qf QdY (Qa Qp)).names.lookup ("_law_every":Str)=some NameKind.cell:=dk
theorem QkJ:(Qf QdY (Qa Qp)).names.lookup ("_law_doors":Str)=some NameKind.cell:=dk
theorem Qk3:(Qf QdY (Qa Qp)).names.lookup ("_law_place":Str)=some NameKind.globalImplicit:=dk
def QjM:SD->Out D:=(e2 dIx (eVar 1) (eA (fun xs=>QcC (xs++[])) (aCons (eVar 0) (aCons (eVar 2) aNil))))
theorem Qgr:Lo Qp "_law_names":=dk
def QgA:SD->Out Fl:=(sSeq (sSet 11 (eA (fun xs=>QaH (xs++[])) (aCons (e2 dIx (eVar 4) (eVar 10)) (aCons (e2 dAdd (eVar 10) (eC (.int 2))) aNil)))) (sSeq (sUnpL [12,13] (eA (fun xs=>Qbm (xs++[])) (aCons (eVar 11) (aCons (e2 dIx (eLst (aCons (eC (.int 2)) (aCons (eC (.int 3)) (aCons (eC (.int 4)) (aCons (eC (.int 10)) aNil))))) (e2 dMod (e2 dFdiv (eVar 3) (eC (.int 3))) (eC (.int 4)))) aNil)))) (sSeq (sSetO 14 (eLst aNil)) (sSeq (sFor (gN 15) (itR1 (eA fLen (aCons (e2 dIx (eVar 13) (eC (.int 0))) aNil))) QeL) (sSeq (sSet 17 (eComp [none,some 6,some 5] (itLB (eVarB 14)) (gN 0) cTrue QjM)) (sSeq (QbW 7 (eTup (aCons (e2 dIx (eVar 6) (e2 dAdd (eA fLen (aCons (eVar 5) aNil)) (eVar 10))) (aCons (eVar 12) (aCons (eVar 17) (aCons (e2 dMod (e2 dFdiv (eVar 11) (eC (.int 11))) (eA fLen (aCons (eVar 13) aNil))) aNil)))))) (sSeq (QbW 8 (eVar 13)) (fun ς=>QbW 9 (eVar 14) (frz 14 ς)))))))))
theorem Qsv:Gl Qp "Office":=dk
def QiI:SD->Out Fl:=(sSeq (sSet 3 (eA (fun xs=>QaH (xs++[])) (aCons (eA (fun xs=>QbS (xs++[])) (aCons (eVar 0) (aCons (eC (.int 0)) aNil))) (aCons (eC (.int 0)) aNil)))) (sSeq (sSet 4 (e2 dCat (eSl (eVar 0) (oSome (eVar 1)) (oSome (e2 dAdd (eVar 1) (eVar 2)))) (e2 dRep (eLst (aCons (eVar 3) aNil)) (eA (f1 dInt) (aCons (e2 dLe (eA fLen (aCons (eVar 0) aNil)) (eVar 1)) aNil))))) (sSeq (sSet 5 (eSl (eLst (aCons (eC (.str "x")) (aCons (eC (.str "y")) (aCons (eC (.str "z")) aNil)))) oNo (oSome (e2 dAdd (eC (.int 1)) (e2 dMod (eVar 3) (eC (.int 3))))))) (sSeq (sSet 6 (e2 dCat (eVar 5) (eComp [none] (itR1 (eA fLen (aCons (eVar 4) aNil))) (gN 0) cTrue Qkt))) (sSeq (sSetO 7 (eLst aNil)) (sSeq (sSetO 8 (eLst aNil)) (sSeq (sSetO 9 (eLst aNil)) (sSeq (sFor (gN 10) (itR1 (eA fLen (aCons (eVar 4) aNil))) QgA) (fun ς=>(sRetF (eLst (aCons (eMake "Office" Qb2 (aCons (eVar 7) (aCons (eLst (aCons (eTup (aCons (eC (.str "in")) (aCons (eC (.str "a")) aNil))) aNil)) (aCons (eVar 5) aNil)))) (aCons (eVar 8) (aCons (eVar 9) (aCons (eA fLen (aCons (eVar 5) aNil)) aNil)))))) (frzs [7,8,9] ς))))))))))
def Qdf:List D->Out D:=bodyF true 3 18 QiI
theorem QFS(d0 d1 d2:D):Qdf [d0,d1,d2]=(QiI [some (.k,d0),some (.k,d1),some (.k,d2),none,none,none,none,none,none,none,none,none,none,none,none,none,none,none]>>=retF true):=rfl
theorem QER(F:FunV K "_law_drawn" "_law_drawn" Qp f fd dV)(QiV:DefOk P w K mg base CT "_law_mixed" 1 false [] QaH)(QpQ:DefOk P w K mg base CT "_law_cell" 1 false [] QbS)(QGE:DefOk P w K mg base CT "_law_clerk" 7 true [] Qbm)(QFk:DefOk P w K mg base CT "_law_place" 1 false [] QcC)(z_int:mg "int"=none)(z_len:mg "len"=none)(z_range:mg "range"=none)(Qst:MkOk P w K mg base CT "Office" 5 Qb2):FnOk P w K mg base CX0 8 f fd ["_law_script","_law_start","_law_most"] (SpD K CT true Qdf):=
 @fnV P w K mg base CT true "_law_drawn" "_law_drawn" Qp f fd dV ["_law_script","_law_start","_law_most","_law_seed","_law_cells","_law_doors","_law_every","_law_clerks","_law_rows","_law_leads","_law_k","_law_number","_law_clerk_here","_law_mine","_law_numbers","_law_j","_law_lead","_law_names"] ["_law_script","_law_start","_law_most"] 7 QiI F Qab fun cdv A outer s H E G hr=>
  (Qg (Qar (i:=3) Qab.nd rfl (oi QbE) (de_f QiV (hr.mono (by decide)) (Qd (de_f QpQ (hr.mono (by decide)) (Qd (Qb 0 rfl (oi Qc3)) (Qd Qe Qi)) Qpn) (Qd Qe Qi)) Qgl)) (Qg (Qar (i:=4) Qab.nd rfl (oi Qbp) (DF.de (QAW (DF.de (df_sl (Qb 0 rfl (oi Qc3)) (Qxw (DE.db (Qb 1 rfl (oi Qdr)))) (Qxw (DE.db (Qas (DE.db (Qb 1 rfl (oi Qdr))) (DE.db (Qb 2 rfl (oi Qpc)))))))) (DF.de (QCY (QaP (Qd (Qb 3 rfl (oi QbE)) Qi)) (DE.db (Qtb Qvy z_int (Qm (DE.db (de_le (DE.db (Q3 QaO z_len (Qm (DE.db (Qb 0 rfl (oi Qc3))) Qu))) (DE.db (Qb 1 rfl (oi Qdr))))) Qu)))))))) (Qg (Qar (i:=5) Qab.nd rfl (Or.inr QaI) (DF.de (df_sl (DF.de (QaP (Qd Qo6 (Qd Qo6 (Qd Qo6 Qi))))) QNz (Qxw (DE.db (Qas (DE.db Qe) (DE.db (Qac (DE.db (Qb 3 rfl (oi QbE))) (DE.db Qe))))))))) (Qg (Qar (i:=6) Qab.nd rfl (Or.inr Qgo) (DF.de (QAW (Qb 5 rfl (Or.inr (oi QaI))) (DF.de (QP rfl QqK (DI.b (QaL Qf7 z_range (DE.db (Q3 QaO z_len (Qm (DE.db (Qb 4 rfl (oi Qbp))) Qu))))) (fun ς=>QI (Qq rfl ς)) (Qy _) (fun fp s H G p=>⟨(QC (i:=0) QqK.nd rfl (oi Qd4) (hf:=Or.inr Qd4)),QJ,(de_ix Qo6 (DE.db (Qb 0 rfl (oi Qd4))))⟩)))))) (Qg (QeM (i:=7) Qab.nd rfl (oi Qc5) (QaP Qi)) (Qg (QeM (i:=8) Qab.nd rfl (oi QdM) (QaP Qi)) (Qg (QeM (i:=9) Qab.nd rfl (oi Qdt) (QaP Qi)) (Qg (QbX PassesOwn.never rfl (QaL Qf7 z_range (DE.db (Q3 QaO z_len (Qm (DE.db (Qb 4 rfl (oi Qbp))) Qu)))) (QC (i:=10) Qab.nd rfl (oi Qdd)) (Qy _) (Qg (Qar (i:=11) Qab.nd rfl (oi Qb5) (de_f QiV (hr.mono (by decide)) (Qd (de_ix (Qb 4 rfl (oi Qbp)) (DE.db (Qb 10 rfl (oi Qdd)))) (Qd (Qas (DE.db (Qb 10 rfl (oi Qdd))) (DE.db Qe)) Qi)) Qgl)) (Qg (QGX rfl (de_f QGE (hr.mono (by decide)) (Qd (Qb 11 rfl (oi Qb5)) (Qd (de_ix (DF.de (QaP (Qd Qe (Qd Qe (Qd Qe (Qd Qe Qi)))))) (DE.db (Qac (DE.db (QcG (DE.db (Qb 3 rfl (oi QbE))) (DE.db Qe))) (DE.db Qe)))) Qi)) QnY) (QY (i:=12) Qab.nd rfl (oi Qd9) (QY (i:=13) Qab.nd rfl (oi Qcn) QcE))) (Qg (QeM (i:=14) Qab.nd rfl (oi QaZ) (QaP Qi)) (Qg (QbX PassesOwn.never rfl (QaL Qf7 z_range (DE.db (Q3 QaO z_len (Qm (DE.db (de_ix (Qb 13 rfl (oi Qcn)) (DE.db Qe))) Qu)))) (QC (i:=15) Qab.nd rfl (oi Qjr)) (Qy _) (Qg (Qar (i:=16) Qab.nd rfl (oi Qco) (Qac (DE.db (QcJ (DE.db (Qb 11 rfl (oi Qb5))) (DE.db (Qas (DE.db (QcJ (DE.db Qe) (DE.db (Qb 15 rfl (oi Qjr))))) (DE.db Qe))))) (DE.db Qe))) (Qh (ds_if (dt_lt (DE.db (Qac (DE.db (Qb 16 rfl (oi Qco))) (DE.db Qe))) (DE.db (Qac (DE.db (QcG (DE.db (Qb 3 rfl (oi QbE))) (DE.db Qe))) (DE.db Qe)))) (Qh (Qda 14 (QeB (DE.db (Qjn (DE.db Qe))) (DE.db (Qac (DE.db (QcG (DE.db (Qb 16 rfl (oi Qco))) (DE.db Qe))) (DE.db (Q3 QaO z_len (Qm (DE.db (Qb 5 rfl (Or.inr (oi QaI)))) Qu)))))) rfl (oi QaZ))) (Qh (Qda 14 (Qac (DE.db (QcG (DE.db (Qb 16 rfl (oi Qco))) (DE.db Qe))) (DE.db (Q3 QaO z_len (Qm (DE.db (Qb 4 rfl (oi Qbp))) Qu)))) rfl (oi QaZ))))))) (Qg (Qxd (i:=17) rfl QqH (QDX (Qhc 14 rfl (oi QaZ))) (fun ς=>QI (Qq rfl ς)) (Qy _) (fun fp s H G p=>⟨(QC (i:=0) QqH.nd rfl (oi QcM) (hf:=Or.inr QcM)),QJ,(de_ix (Qb 1 rfl (Or.inr (oi Qk1))) (DE.db (de_f QFk (hr.mono (by decide)) (Qd (Qb 0 rfl (oi QcM)) (Qd (Qb 2 rfl (Or.inr (oi QkJ))) Qi)) Qk3)))⟩) Qab.nd rfl (oi Qgr)) (Qg (Qda 7 (Qvn (Qd (de_ix (Qb 6 rfl (Or.inr (oi Qgo))) (DE.db (Qas (DE.db (Q3 QaO z_len (Qm (DE.db (Qb 5 rfl (Or.inr (oi QaI)))) Qu))) (DE.db (Qb 10 rfl (oi Qdd)))))) (Qd (Qb 12 rfl (oi Qd9)) (Qd (Qb 17 rfl (oi Qgr)) (Qd (Qac (DE.db (QcG (DE.db (Qb 11 rfl (oi Qb5))) (DE.db Qe))) (DE.db (Q3 QaO z_len (Qm (DE.db (Qb 13 rfl (oi Qcn))) Qu)))) Qi))))) rfl (oi Qc5)) (Qg (Qda 8 (Qb 13 rfl (oi Qcn)) rfl (oi QdM)) (Qh (Qwm 14 (Qda 9 (Qb 14 rfl (oi QaZ)) rfl (oi Qdt)))))))))))) (Qh (QG0 [7,8,9] (Qbj (QaP (Qd (DF.de (Qo3 rz0 Qst (hr.mono (by decide)) (Qd (Qb 7 rfl (oi Qc5)) (Qd (DF.de (QaP (Qd (Qvn (Qd Qo6 (Qd Qo6 Qi))) Qi))) (Qd (Qb 5 rfl (Or.inr (oi QaI))) Qi))) Qsv)) (Qd (Qb 8 rfl (oi QdM)) (Qd (Qb 9 rfl (oi Qdt)) (Qd (Q3 QaO z_len (Qm (DE.db (Qb 5 rfl (Or.inr (oi QaI)))) Qu)) Qi))))))))))))))))
abbrev QL:Stmt:=top 59
theorem QaD:Qr ["_law_drawn_here","_law_office","_law_rows","_law_leads","_law_doors","_law_table_here","_law_mine","_law_numbers","_law_found","_law_row","_law_count","_law_lead"] ["_law_drawn_here"] (Qa QL):=⟨rfl,rfl,rfl,dk,rfl,dk,dk⟩
theorem Qje:Lo QL "_law_drawn_here":=dk
theorem Qch:Lo QL "_law_doors":=dk
theorem Qgq:Lo QL "_law_leads":=dk
theorem QdO:Lo QL "_law_rows":=dk
theorem Qml:Lo QL "_law_office":=dk
theorem Qck:Lo QL "_law_table_here":=dk
theorem Qm2:Gl QL "zip":=dk
theorem Qfn:Lo QL "_law_numbers":=dk
theorem Qg4:(Qa QL).names.lookup ("_law_mine":Str)=some NameKind.cell:=dk
theorem QvA:Gl QL "len":=dk
theorem QaK:Lo QL "_law_found":=dk
theorem Qg8:Lo QL "_law_row":=dk
theorem QaU:Lo QL "_law_lead":=dk
theorem Qdn:Lo QL "_law_count":=dk
def Qgv:SD->Out Fl:=(sIf (tVal (e2 dLt (eVar 11) (eC (.int 0)))) (sPutO 8 (e2 dSub (e1 dNeg (eC (.int 1))) (eVar 11)) (e2 dAdd (e2 dIx (eVarB 8) (e2 dSub (e1 dNeg (eC (.int 1))) (eVar 11))) (eVar 10))) (sPutO 8 (e2 dAdd (eVar 4) (eVar 11)) (e2 dAdd (e2 dIx (eVarB 8) (e2 dAdd (eVar 4) (eVar 11))) (eVar 10))))
def QgH:SD->Out Fl:=(sFor (gT [10,11]) (itZ (eVar 9) (eVar 7)) Qgv)
abbrev Qfw:PySem.Scope:={ kind:=PySem.ScopeKind.function,names:=[ (PySem.Str.ofString ".0",PySem.NameKind.local),(PySem.Str.ofString "_law_count",PySem.NameKind.local),(PySem.Str.ofString "len",PySem.NameKind.globalImplicit),(PySem.Str.ofString "_law_mine",PySem.NameKind.free)],isGenerator:=false,isCoroutine:=false,more:=[]:PySem.Scope }
theorem QqP:QD ["_law_count","_law_mine"] [none,some 6] Qfw (Qa QL) ["_law_drawn_here","_law_office","_law_rows","_law_leads","_law_doors","_law_table_here","_law_mine","_law_numbers","_law_found","_law_row","_law_count","_law_lead"]:=⟨rfl,dk,dk,rfl,dk,dk⟩
theorem QcA:(Qf Qfw (Qa QL)).names.lookup ("_law_count":Str)=some NameKind.local:=dk
theorem Qlb:(Qf Qfw (Qa QL)).names.lookup ("_law_mine":Str)=some NameKind.cell:=dk
theorem Qr1:(Qf Qfw (Qa QL)).names.lookup ("len":Str)=some NameKind.globalImplicit:=dk
def Qj7:SD->Out D:=(eTup (aCons (eVar 0) (aCons (eA fLen (aCons (eVar 1) aNil)) aNil)))
def QgJ:SD->Out Fl:=(sSeq (sSetO 8 (e2 dRep (eLst (aCons (eC (.int 0)) aNil)) (e2 dAdd (eVar 4) (eA fLen (aCons (eVar 2) aNil))))) (sSeq (sFor (gN 9) (itL (eVar 6)) QgH) (QbW 5 (eComp [none,some 6] (itLB (eVarB 8)) (gN 0) cTrue Qj7))))
def QiH:SD->Out Fl:=(sSeq (sUnpL [1,2,3,4] (eVar 0)) (sSeq (sSetO 5 (eLst aNil)) (sSeq (sFor (gT [6,7]) (itZ (eVar 2) (eVar 3)) QgJ) (sRetO 5))))
def Qdj:List D->Out D:=bodyF true 1 12 QiH
theorem QGw(d0:D):Qdj [d0]=(QiH [some (.k,d0),none,none,none,none,none,none,none,none,none,none,none]>>=retF true):=rfl
theorem QFt(F:FunV K "_law_table" "_law_table" QL f fd dV)(z_zip:mg "zip"=none)(z_len:mg "len"=none):FnOk P w K mg base CX0 1 f fd ["_law_drawn_here"] (SpD K CT true Qdj):=
 @fnV P w K mg base CT true "_law_table" "_law_table" QL f fd dV ["_law_drawn_here","_law_office","_law_rows","_law_leads","_law_doors","_law_table_here","_law_mine","_law_numbers","_law_found","_law_row","_law_count","_law_lead"] ["_law_drawn_here"] 0 QiH F QaD fun cdv A outer s H E G hr=>
  (Qg (QGX rfl (Qb 0 rfl (oi Qje)) (QY (i:=1) QaD.nd rfl (oi Qml) (QY (i:=2) QaD.nd rfl (oi QdO) (QY (i:=3) QaD.nd rfl (oi Qgq) (QY (i:=4) QaD.nd rfl (oi Qch) QcE))))) (Qg (QeM (i:=5) QaD.nd rfl (oi Qck) (QaP Qi)) (Qg (QbX PassesOwn.never rfl (Qja Qm2 z_zip (Qb 2 rfl (oi QdO)) (Qb 3 rfl (oi Qgq))) (Qfq rfl (QY (i:=6) QaD.nd rfl (Or.inr Qg4) (QY (i:=7) QaD.nd rfl (oi Qfn) QcE))) (QcR _) (Qg (QeM (i:=8) QaD.nd rfl (oi QaK) (QCY (QaP (Qd Qe Qi)) (DE.db (Qas (DE.db (Qb 4 rfl (oi Qch))) (DE.db (Q3 QvA z_len (Qm (DE.db (Qb 2 rfl (oi QdO))) Qu))))))) (Qg (QbX PassesOwn.never rfl (Qai (Qb 6 rfl (Or.inr (oi Qg4)))) (QC (i:=9) QaD.nd rfl (oi Qg8)) (Qy _) (Qh (QbX PassesOwn.never rfl (Qja Qm2 z_zip (Qb 9 rfl (oi Qg8)) (Qb 7 rfl (oi Qfn))) (Qfq rfl (QY (i:=10) QaD.nd rfl (oi Qdn) (QY (i:=11) QaD.nd rfl (oi QaU) QcE))) (QcR _) (Qh (ds_if (dt_lt (DE.db (Qb 11 rfl (oi QaU))) (DE.db Qe)) (Qh (Qyb 8 (DE.db (QeB (DE.db (Qjn (DE.db Qe))) (DE.db (Qb 11 rfl (oi QaU))))) (Qas (db_ix (Qhc 8 rfl (oi QaK)) (DE.db (QeB (DE.db (Qjn (DE.db Qe))) (DE.db (Qb 11 rfl (oi QaU)))))) (DE.db (Qb 10 rfl (oi Qdn)))) rfl (oi QaK))) (Qh (Qyb 8 (DE.db (Qas (DE.db (Qb 4 rfl (oi Qch))) (DE.db (Qb 11 rfl (oi QaU))))) (Qas (db_ix (Qhc 8 rfl (oi QaK)) (DE.db (Qas (DE.db (Qb 4 rfl (oi Qch))) (DE.db (Qb 11 rfl (oi QaU)))))) (DE.db (Qb 10 rfl (oi Qdn)))) rfl (oi QaK)))))))) (Qh (Qda 5 (DF.de (QP rfl QqP (QDX (Qhc 8 rfl (oi QaK))) (fun ς=>QI (Qq rfl ς)) (Qy _) (fun fp s H G p=>⟨(QC (i:=0) QqP.nd rfl (oi QcA) (hf:=Or.inr QcA)),QJ,(Qvn (Qd (Qb 0 rfl (oi QcA)) (Qd (Q3 Qr1 z_len (Qm (DE.db (Qb 1 rfl (Or.inr (oi Qlb)))) Qu)) Qi)))⟩))) rfl (oi Qck)))))) (Qh (QoN 5 rfl (oi Qck))))))
abbrev Qau:Stmt:=top 60
theorem QeO:Qr ["_law_rows","_law_number","_law_flow_here","_law_k","_law_mixed_here","_law_many","_law_at"] ["_law_rows","_law_number"] (Qa Qau):=⟨rfl,rfl,rfl,dk,rfl,dk,dk⟩
theorem QaQ:Lo Qau "_law_flow_here":=dk
theorem QbQ:Lo Qau "_law_rows":=dk
theorem QdS:Gl Qau "len":=dk
theorem Quj:Gl Qau "range":=dk
theorem Qf3:Lo Qau "_law_k":=dk
theorem Qbo:Lo Qau "_law_number":=dk
theorem Qbq:Lo Qau "_law_mixed_here":=dk
theorem QhV:Lo Qau "_law_many":=dk
def Qe7:SD->Out Fl:=(sSeq (sSet 4 (e2 dMod (e2 dMul (eVar 1) (e2 dAdd (e2 dMul (eC (.int 2)) (eVar 3)) (eC (.int 3)))) (eC (.int 2147483587)))) (sSeq (sSet 5 (e2 dIx (eLst (aCons (eC (.int 0)) (aCons (eC (.int 1)) (aCons (e2 dMod (e2 dFdiv (eVar 4) (eC (.int 6))) (eC (.int 10))) (aCons (e2 dMod (e2 dMul (e2 dFdiv (eVar 4) (eC (.int 6))) (eC (.int 465661287))) (e2 dPow (eC (.int 10)) (eC (.int 18)))) aNil))))) (e2 dMod (eVar 4) (eC (.int 4))))) (QbW 2 (e2 dMul (eVar 5) (eA fLen (aCons (e2 dIx (eVar 0) (eVar 3)) aNil))))))
theorem Qdb:Lo Qau "_law_at":=dk
def Qhv:SD->Out Fl:=(sSeq (sSetO 2 (eLst aNil)) (sSeq (sFor (gN 3) (itR1 (eA fLen (aCons (eVar 0) aNil))) Qe7) (sSeq (sIf (tVal (e2 dEq (e2 dMod (eVar 1) (eC (.int 4))) (eC (.int 0)))) (sSeq (sSet 6 (e2 dMod (e2 dFdiv (eVar 1) (eC (.int 12))) (eA fLen (aCons (eVar 0) aNil)))) (sPutO 2 (eVar 6) (e2 dIx (eLst (aCons (e2 dAdd (e2 dIx (eVarB 2) (eVar 6)) (eC (.int 1))) (aCons (e2 dSub (eC (.int 0)) (eA fLen (aCons (e2 dIx (eVar 0) (eVar 6)) aNil))) (aCons (eC (.int 0)) aNil)))) (e2 dMod (e2 dFdiv (eVar 1) (eC (.int 4))) (eC (.int 3)))))) sNil) (sSeq (sIf (tVal (e2 dEq (e2 dMod (eVar 1) (eC (.int 16))) (eC (.int 8)))) (sRetF (e2 dRep (eLst (aCons (eC (.int 0)) aNil)) (eA fLen (aCons (eVar 0) aNil)))) sNil) (sRetO 2)))))
def Qem:List D->Out D:=bodyF true 2 7 Qhv
theorem Qvm(d0 d1:D):Qem [d0,d1]=(Qhv [some (.k,d0),some (.k,d1),none,none,none,none,none]>>=retF true):=rfl
theorem QIl(F:FunV K "_law_flow" "_law_flow" Qau f fd dV)(z_range:mg "range"=none)(z_len:mg "len"=none):FnOk P w K mg base CX0 1 f fd ["_law_rows","_law_number"] (SpD K CT true Qem):=
 @fnV P w K mg base CT true "_law_flow" "_law_flow" Qau f fd dV ["_law_rows","_law_number","_law_flow_here","_law_k","_law_mixed_here","_law_many","_law_at"] ["_law_rows","_law_number"] 0 Qhv F QeO fun cdv A outer s H E G hr=>
  (Qg (QeM (i:=2) QeO.nd rfl (oi QaQ) (QaP Qi)) (Qg (QbX PassesOwn.never rfl (QaL Quj z_range (DE.db (Q3 QdS z_len (Qm (DE.db (Qb 0 rfl (oi QbQ))) Qu)))) (QC (i:=3) QeO.nd rfl (oi Qf3)) (Qy _) (Qg (Qar (i:=4) QeO.nd rfl (oi Qbq) (Qac (DE.db (QcJ (DE.db (Qb 1 rfl (oi Qbo))) (DE.db (Qas (DE.db (QcJ (DE.db Qe) (DE.db (Qb 3 rfl (oi Qf3))))) (DE.db Qe))))) (DE.db Qe))) (Qg (Qar (i:=5) QeO.nd rfl (oi QhV) (de_ix (DF.de (QaP (Qd Qe (Qd Qe (Qd (Qac (DE.db (QcG (DE.db (Qb 4 rfl (oi Qbq))) (DE.db Qe))) (DE.db Qe)) (Qd (Qac (DE.db (QcJ (DE.db (QcG (DE.db (Qb 4 rfl (oi Qbq))) (DE.db Qe))) (DE.db Qe))) (DE.db (QOY (DE.db Qe) (DE.db Qe)))) Qi)))))) (DE.db (Qac (DE.db (Qb 4 rfl (oi Qbq))) (DE.db Qe))))) (Qh (Qda 2 (QcJ (DE.db (Qb 5 rfl (oi QhV))) (DE.db (Q3 QdS z_len (Qm (DE.db (de_ix (Qb 0 rfl (oi QbQ)) (DE.db (Qb 3 rfl (oi Qf3))))) Qu)))) rfl (oi QaQ)))))) (Qg (ds_if (dt_eq hr.units (DE.db (Qac (DE.db (Qb 1 rfl (oi Qbo))) (DE.db Qe))) (DE.db Qe)) (Qg (Qar (i:=6) QeO.nd rfl (oi Qdb) (Qac (DE.db (QcG (DE.db (Qb 1 rfl (oi Qbo))) (DE.db Qe))) (DE.db (Q3 QdS z_len (Qm (DE.db (Qb 0 rfl (oi QbQ))) Qu))))) (Qh (Qyb 2 (DE.db (Qb 6 rfl (oi Qdb))) (de_ix (DF.de (QaP (Qd (Qas (db_ix (Qhc 2 rfl (oi QaQ)) (DE.db (Qb 6 rfl (oi Qdb)))) (DE.db Qe)) (Qd (QeB (DE.db Qe) (DE.db (Q3 QdS z_len (Qm (DE.db (de_ix (Qb 0 rfl (oi QbQ)) (DE.db (Qb 6 rfl (oi Qdb))))) Qu)))) (Qd Qe Qi))))) (DE.db (Qac (DE.db (QcG (DE.db (Qb 1 rfl (oi Qbo))) (DE.db Qe))) (DE.db Qe)))) rfl (oi QaQ)))) Q4) (Qg (ds_if (dt_eq hr.units (DE.db (Qac (DE.db (Qb 1 rfl (oi Qbo))) (DE.db Qe))) (DE.db Qe)) (Qh (Qbj (QCY (QaP (Qd Qe Qi)) (DE.db (Q3 QdS z_len (Qm (DE.db (Qb 0 rfl (oi QbQ))) Qu)))))) Q4) (Qh (QoN 2 rfl (oi QaQ)))))))
abbrev Qbt:Stmt:=inCls (top 52) 4
theorem Qw2:Qr ["self"] ["self"] (Qa Qbt):=⟨rfl,rfl,rfl,dk,rfl,dk,dk⟩
theorem QsV:Lo Qbt "self":=dk
theorem Qts:Gl Qbt "len":=dk
def QgI:SD->Out Fl:=(sRet (eA fLen (aCons (e1 (dFld Qj "clerk_names") (eVar 0)) aNil)))
def Qav:List D->Out D:=bodyF false 1 1 QgI
theorem QAc(d0:D):Qav [d0]=(QgI [some (.k,d0)]>>=retF false):=rfl
theorem QAl(F:FunV K "many" "Office.many" Qbt f fd dV)(z_len:mg "len"=none)(fo_clerk_names:FldOk K CT Qj "clerk_names"):FnOk P w K mg base CX0 1 f fd ["self"] (SpD K CT false Qav):=
 @fnV P w K mg base CT false "many" "Office.many" Qbt f fd dV ["self"] ["self"] 0 QgI F Qw2 fun cdv A outer s H E G hr=>
  (Qh (QQ (Q3 Qts z_len (Qm (DE.db (Qjp fo_clerk_names (Qb 0 rfl (oi QsV)))) Qu))))
abbrev QbL:Stmt:=top 15
theorem QCd:Qr ["count","period"] ["count","period"] (Qa QbL):=⟨rfl,rfl,rfl,dk,rfl,dk,dk⟩
theorem Qgb:Lo QbL "count":=dk
theorem QpU:Gl QbL "is_whole":=dk
theorem QsS:Lo QbL "period":=dk
def QiU:SD->Out Fl:=(sRet (eAnd (eA (fun xs=>Qcv (xs++[])) (aCons (eVar 0) aNil)) (eAnd (e2 dGe (eVar 0) (eC (.int 0))) (e2 dEq (e2 dMod (eVar 0) (eVar 1)) (eC (.int 0))))))
def Qdx:List D->Out D:=bodyF false 2 2 QiU
theorem QFO(d0 d1:D):Qdx [d0,d1]=(QiU [some (.k,d0),some (.k,d1)]>>=retF false):=rfl
theorem QEt(F:FunV K "is_rounds" "is_rounds" QbL f fd dV)(QpB:DefOk P w K mg base CT "is_whole" 1 false [] Qcv):FnOk P w K mg base CX0 2 f fd ["count","period"] (SpD K CT false Qdx):=
 @fnV P w K mg base CT false "is_rounds" "is_rounds" QbL f fd dV ["count","period"] ["count","period"] 1 QiU F QCd fun cdv A outer s H E G hr=>
  (Qh (QQ (QeJ (de_f QpB (hr.mono (by decide)) (Qd (Qb 0 rfl (oi Qgb)) Qi) QpU) (QeJ (de_ge (DE.db (Qb 0 rfl (oi Qgb))) (DE.db Qe)) (Qjs (de_eq hr.units (DE.db (Qac (DE.db (Qb 0 rfl (oi Qgb))) (DE.db (Qb 1 rfl (oi QsS))))) (DE.db Qe)))))))
abbrev Qa5:Stmt:=inCls (top 52) 5
theorem Qwl:Qr ["self","k"] ["self","k"] (Qa Qa5):=⟨rfl,rfl,rfl,dk,rfl,dk,dk⟩
theorem Qq3:Lo Qa5 "self":=dk
theorem QuG:Lo Qa5 "k":=dk
def QfM:SD->Out Fl:=(sRet (e2 dIx (e1 (dFld Qj "staff") (eVar 0)) (eVar 1)))
def QaJ:List D->Out D:=bodyF false 2 2 QfM
theorem Qyy(d0 d1:D):QaJ [d0,d1]=(QfM [some (.k,d0),some (.k,d1)]>>=retF false):=rfl
theorem QyL(F:FunV K "clerk" "Office.clerk" Qa5 f fd dV)(fo_staff:FldOk K CT Qj "staff"):FnOk P w K mg base CX0 1 f fd ["self","k"] (SpD K CT false QaJ):=
 @fnV P w K mg base CT false "clerk" "Office.clerk" Qa5 f fd dV ["self","k"] ["self","k"] 0 QfM F Qwl fun cdv A outer s H E G hr=>
  (Qh (QQ (de_ix (Qjp fo_staff (Qb 0 rfl (oi Qq3))) (DE.db (Qb 1 rfl (oi QuG))))))
abbrev QaC:Stmt:=top 14
theorem Qzx:Qr ["office"] ["office"] (Qa QaC):=⟨rfl,rfl,rfl,dk,rfl,dk,dk⟩
theorem Qq0:(Qa QaC).names.lookup ("office":Str)=some NameKind.cell:=dk
theorem QrC:Gl QaC "range":=dk
abbrev Qhu:PySem.Scope:={ kind:=PySem.ScopeKind.function,names:=[ (PySem.Str.ofString ".0",PySem.NameKind.local),(PySem.Str.ofString "k",PySem.NameKind.local),(PySem.Str.ofString "office",PySem.NameKind.free)],isGenerator:=false,isCoroutine:=false,more:=[]:PySem.Scope }
theorem Qpp:QD ["k","office"] [none,some 0] Qhu (Qa QaC) ["office"]:=⟨rfl,dk,dk,rfl,dk,dk⟩
theorem Qf9:(Qf Qhu (Qa QaC)).names.lookup ("k":Str)=some NameKind.local:=dk
theorem Qnq:(Qf Qhu (Qa QaC)).names.lookup ("office":Str)=some NameKind.cell:=dk
def Qiu:SD->Out D:=(eMeth Qc "period" (fun _=>QM) (eMeth QB "clerk" (fun _=>QaJ) (eVar 1) (aCons (eVar 0) aNil)) aNil)
def Qhy:SD->Out Fl:=(sRetF (eComp [none,some 0] (itR1 (eMeth QB "many" (fun _=>Qav) (eVar 0) aNil)) (gN 0) cTrue Qiu))
def Qcm:List D->Out D:=bodyF true 1 1 Qhy
theorem QBD(d0:D):Qcm [d0]=(Qhy [some (.k,d0)]>>=retF true):=rfl
theorem QCD(F:FunV K "periods_of" "periods_of" QaC f fd dV)(z_range:mg "range"=none)(mt_many:MtOk P w K mg base CT CX0 "many" 1 QB (fun c=>SpD K CT false ((fun _=>Qav) c)))(mt_period:MtOk P w K mg base CT CX0 "period" 1 Qc (fun c=>SpD K CT false ((fun _=>QM) c)))(mt_clerk:MtOk P w K mg base CT CX0 "clerk" 1 QB (fun c=>SpD K CT false ((fun _=>QaJ) c))):FnOk P w K mg base CX0 2 f fd ["office"] (SpD K CT true Qcm):=
 @fnV P w K mg base CT true "periods_of" "periods_of" QaC f fd dV ["office"] ["office"] 1 Qhy F Qzx fun cdv A outer s H E G hr=>
  (Qh (Qbj (QP rfl Qpp (DI.b (QaL QrC z_range (DE.db (QcU mt_many (hr.mono (by decide)) (Qb 0 rfl (Or.inr (oi Qq0))))))) (fun ς=>QI (Qq rfl ς)) (Qy _) (fun fp s H G p=>⟨(QC (i:=0) Qpp.nd rfl (oi Qf9) (hf:=Or.inr Qf9)),QJ,(QcU mt_period (hr.mono (by decide)) (Qk8 mt_clerk (hr.mono (by decide)) (Qb 1 rfl (Or.inr (oi Qnq))) (Qd (Qb 0 rfl (oi Qf9)) Qi)))⟩))))
abbrev Qaj:Stmt:=top 16
theorem QH1:Qr ["office","thing"] ["office","thing"] (Qa Qaj):=⟨rfl,rfl,rfl,dk,rfl,dk,dk⟩
theorem QhP:Lo Qaj "thing":=dk
theorem QzW:Gl Qaj "len":=dk
theorem Qlm:Lo Qaj "office":=dk
theorem QpD:Gl Qaj "periods_of":=dk
theorem QAF:Gl Qaj "zip":=dk
abbrev QhB:PySem.Scope:={ kind:=PySem.ScopeKind.function,names:=[ (PySem.Str.ofString ".0",PySem.NameKind.local),(PySem.Str.ofString "count",PySem.NameKind.local),(PySem.Str.ofString "period",PySem.NameKind.local),(PySem.Str.ofString "is_rounds",PySem.NameKind.globalImplicit)],isGenerator:=false,isCoroutine:=false,more:=[]:PySem.Scope }
theorem Qnt:QD ["count","period"] [none,none] QhB (Qa Qaj) ["office","thing"]:=⟨rfl,dk,dk,rfl,dk,dk⟩
theorem QeS:(Qf QhB (Qa Qaj)).names.lookup ("period":Str)=some NameKind.local:=dk
theorem Qfb:(Qf QhB (Qa Qaj)).names.lookup ("count":Str)=some NameKind.local:=dk
theorem Qon:(Qf QhB (Qa Qaj)).names.lookup ("is_rounds":Str)=some NameKind.globalImplicit:=dk
def QnM:SD->Out D:=(eA (fun xs=>Qdx (xs++[])) (aCons (eVar 0) (aCons (eVar 1) aNil)))
theorem QzZ:Gl Qaj "all":=dk
abbrev Qr5:PySem.Scope:={ kind:=PySem.ScopeKind.function,names:=[(PySem.Str.ofString ".0",PySem.NameKind.local),(PySem.Str.ofString "count",PySem.NameKind.local)],isGenerator:=false,isCoroutine:=false,more:=[]:PySem.Scope }
theorem QtT:QD ["count"] [none] Qr5 (Qa Qaj) ["office","thing"]:=⟨rfl,dk,dk,rfl,dk,dk⟩
theorem Qfo:(Qf Qr5 (Qa Qaj)).names.lookup ("count":Str)=some NameKind.local:=dk
def QnB:SD->Out D:=(e2 dGt (eVar 0) (eC (.int 0)))
theorem QzD:Gl Qaj "any":=dk
def QmC:SD->Out Fl:=(sSeq (sIf (tVal (e2 dNe (eA fLen (aCons (eVar 1) aNil)) (eMeth QB "many" (fun _=>Qav) (eVar 0) aNil))) (sRet (eC (.bl false))) sNil) (sSeq (sIf (tNot' (tVal (eA (f1 fAll) (aCons (eComp [none,none] (itZ (eVar 1) (eA (fun xs=>Qcm (xs++[])) (aCons (eVar 0) aNil))) (gT [0,1]) cTrue QnM) aNil)))) (sRet (eC (.bl false))) sNil) (sRet (eA (f1 fAny) (aCons (eComp [none] (itL (eVar 1)) (gN 0) cTrue QnB) aNil)))))
def Qfh:List D->Out D:=bodyF false 2 2 QmC
theorem QJv(d0 d1:D):Qfh [d0,d1]=(QmC [some (.k,d0),some (.k,d1)]>>=retF false):=rfl
theorem QLu(F:FunV K "is_flow" "is_flow" Qaj f fd dV)(QCu:DefOk P w K mg base CT "periods_of" 2 true [] Qcm)(QGM:DefOk P w K mg base CT "is_rounds" 2 false [] Qdx)(z_len:mg "len"=none)(z_all:mg "all"=none)(z_zip:mg "zip"=none)(z_any:mg "any"=none)(mt_many:MtOk P w K mg base CT CX0 "many" 1 QB (fun c=>SpD K CT false ((fun _=>Qav) c))):FnOk P w K mg base CX0 3 f fd ["office","thing"] (SpD K CT false Qfh):=
 @fnV P w K mg base CT false "is_flow" "is_flow" Qaj f fd dV ["office","thing"] ["office","thing"] 2 QmC F QH1 fun cdv A outer s H E G hr=>
  (Qg (ds_if (dt_ne hr.units (DE.db (Q3 QzW z_len (Qm (DE.db (Qb 1 rfl (oi QhP))) Qu))) (DE.db (QcU mt_many (hr.mono (by decide)) (Qb 0 rfl (oi Qlm))))) (Qh (QQ de_bl)) Q4) (Qg (ds_if (QaN (Qa0 (Qgi rfl QzZ z_all (Qm (DE.db (DF.de (QP rfl Qnt (DI.b (Qja QAF z_zip (Qb 1 rfl (oi QhP)) (de_f QCu (hr.mono (by decide)) (Qd (Qb 0 rfl (oi Qlm)) Qi) QpD))) (fun ς=>Qit (fun i hi=>Qq (by revert hi;revert i;decide) ς)) (QcR _) (fun fp s H G p=>⟨(Qfq rfl (QY (i:=0) Qnt.nd rfl (oi Qfb) (QY (i:=1) Qnt.nd rfl (oi QeS) QcE (hf:=Or.inr QeS)) (hf:=Or.inr Qfb))),QJ,(de_f QGM (hr.mono (by decide)) (Qd (Qb 0 rfl (oi Qfb)) (Qd (Qb 1 rfl (oi QeS)) Qi)) Qon)⟩)))) Qu)))) (Qh (QQ de_bl)) Q4) (Qh (QQ (QKP rfl QzD z_any (Qm (DE.db (DF.de (QP rfl QtT (DI.b (Qai (Qb 1 rfl (oi QhP)))) (fun ς=>QI (Qq rfl ς)) (Qy _) (fun fp s H G p=>⟨(QC (i:=0) QtT.nd rfl (oi Qfo) (hf:=Or.inr Qfo)),QJ,(de_gt (DE.db (Qb 0 rfl (oi Qfo))) (DE.db Qe))⟩)))) Qu))))))
abbrev QeH:Stmt:=top 9
theorem QNm:Qr ["desks"] ["desks"] (Qa QeH):=⟨rfl,rfl,rfl,dk,rfl,dk,dk⟩
theorem QDf:Lo QeH "desks":=dk
theorem Quz:Gl QeH "enumerate":=dk
abbrev QrG:PySem.Scope:={ kind:=PySem.ScopeKind.function,names:=[ (PySem.Str.ofString ".0",PySem.NameKind.local),(PySem.Str.ofString "k",PySem.NameKind.local),(PySem.Str.ofString "dockets",PySem.NameKind.local)],isGenerator:=false,isCoroutine:=false,more:=[]:PySem.Scope }
theorem Qt7:QD ["k","dockets"] [none,none] QrG (Qa QeH) ["desks"]:=⟨rfl,dk,dk,rfl,dk,dk⟩
theorem QfX:(Qf QrG (Qa QeH)).names.lookup ("dockets":Str)=some NameKind.local:=dk
theorem Qnr:(Qf QrG (Qa QeH)).names.lookup ("k":Str)=some NameKind.local:=dk
def QuF:SD->Out Bool:=(tVal (e2 dGt (eVar 1) (eC (.int 0))))
def QuW:SD->Out D:=(eVar 0)
def QvN:SD->Out Fl:=(sRetF (eComp [none,none] (itE (eVar 0)) (gT [0,1]) QuF QuW))
def QhS:List D->Out D:=bodyF true 1 1 QvN
theorem QPp(d0:D):QhS [d0]=(QvN [some (.k,d0)]>>=retF true):=rfl
theorem QPs(F:FunV K "able" "able" QeH f fd dV)(z_enumerate:mg "enumerate"=none):FnOk P w K mg base CX0 1 f fd ["desks"] (SpD K CT true QhS):=
 @fnV P w K mg base CT true "able" "able" QeH f fd dV ["desks"] ["desks"] 0 QvN F QNm fun cdv A outer s H E G hr=>
  (Qh (Qbj (QP rfl Qt7 (DI.b (QxR Quz z_enumerate (Qb 0 rfl (oi QDf)))) (fun ς=>Qit (fun i hi=>Qq (by revert hi;revert i;decide) ς)) (QcR _) (fun fp s H G p=>⟨(Qfq rfl (QY (i:=0) Qt7.nd rfl (oi Qnr) (QY (i:=1) Qt7.nd rfl (oi QfX) QcE (hf:=Or.inr QfX)) (hf:=Or.inr Qnr))),(QNx (dt_gt (DE.db (Qb 1 rfl (oi QfX))) (DE.db Qe))),(Qb 0 rfl (oi Qnr))⟩))))
abbrev Qe5:Stmt:=top 11
theorem QAV:Qr ["desks","out","leads","dockets","lead","count"] ["desks","out","leads","dockets"] (Qa Qe5):=⟨rfl,rfl,rfl,dk,rfl,dk,dk⟩
theorem QFF:Lo Qe5 "leads":=dk
theorem QzY:Lo Qe5 "dockets":=dk
theorem QLl:Gl Qe5 "zip":=dk
theorem QnU:Lo Qe5 "count":=dk
theorem QfI:Lo Qe5 "lead":=dk
theorem Qt3:Lo Qe5 "desks":=dk
theorem Qzi:Lo Qe5 "out":=dk
def Qta:SD->Out Fl:=(sIf (tVal (e2 dGe (eVar 4) (eC (.int 0)))) (sPutW 0 (eVar 4) (e2 dAdd (e2 dIx (eVarB 0) (eVar 4)) (eVar 5))) (sPutW 1 (e2 dSub (e1 dNeg (eC (.int 1))) (eVar 4)) (e2 dAdd (e2 dIx (eVarB 1) (e2 dSub (e1 dNeg (eC (.int 1))) (eVar 4))) (eVar 5))))
def QAT:SD->Out Fl:=(sFor (gT [4,5]) (itZ (eVar 2) (eVar 3)) Qta)
def Qp6:List D->Out (D×Option (List D)):=bodyW false [true,true,false,false] 6 QAT
theorem QPI(d0 d1 d2 d3:D):Qp6 [d0,d1,d2,d3]=(QAT [some (.s,d0),some (.s,d1),some (.k,d2),some (.k,d3),none,none]>>=retW false [true,true,false,false]):=rfl
theorem QPJ(F:FunV K "lay" "lay" Qe5 f fd dV)(z_zip:mg "zip"=none):FnOk P w K mg base CX0 1 f fd ["desks","out","leads","dockets"] (SpW K CT false [true,true,false,false] Qp6):=
 @fnW P w K mg base CT false "lay" "lay" Qe5 f fd dV ["desks","out","leads","dockets","lead","count"] ["desks","out","leads","dockets"] 0 QAT [true,true,false,false] rfl F QAV fun cdv A outer s H E G ps vs hr=>
  (Qh (QbX PassesOwn.never rfl (Qja QLl z_zip (Qb 2 rfl (oi QFF)) (Qb 3 rfl (oi QzY))) (Qfq rfl (QY (i:=4) QAV.nd rfl (oi QfI) (QY (i:=5) QAV.nd rfl (oi QnU) QcE))) (QcR _) (Qh (ds_if (dt_ge (DE.db (Qb 4 rfl (oi QfI))) (DE.db Qe)) (Qh (QwM 0 (DE.db (Qb 4 rfl (oi QfI))) (Qas (db_ix (Qhc 0 rfl (oi Qt3)) (DE.db (Qb 4 rfl (oi QfI)))) (DE.db (Qb 5 rfl (oi QnU)))) rfl (oi Qt3))) (Qh (QwM 1 (DE.db (QeB (DE.db (Qjn (DE.db Qe))) (DE.db (Qb 4 rfl (oi QfI))))) (Qas (db_ix (Qhc 1 rfl (oi Qzi)) (DE.db (QeB (DE.db (Qjn (DE.db Qe))) (DE.db (Qb 4 rfl (oi QfI)))))) (DE.db (Qb 5 rfl (oi QnU)))) rfl (oi Qzi)))))))
abbrev QaF:Stmt:=inCls (top 52) 7
theorem Qwg:Qr ["self","k"] ["self","k"] (Qa QaF):=⟨rfl,rfl,rfl,dk,rfl,dk,dk⟩
theorem Qq7:Lo QaF "self":=dk
theorem QuN:Lo QaF "k":=dk
theorem QqZ:Gl QaF "list":=dk
def Qfz:SD->Out Fl:=(sRetF (e1 dList (e2 dIx (e1 (dFld Qj "ways") (eVar 0)) (eVar 1))))
def QbF:List D->Out D:=bodyF true 2 2 Qfz
theorem Qxn(d0 d1:D):QbF [d0,d1]=(Qfz [some (.k,d0),some (.k,d1)]>>=retF true):=rfl
theorem QxQ(F:FunV K "leads" "Office.leads" QaF f fd dV)(z_list:mg "list"=none)(fo_ways:FldOk K CT Qj "ways"):FnOk P w K mg base CX0 1 f fd ["self","k"] (SpD K CT true QbF):=
 @fnV P w K mg base CT true "leads" "Office.leads" QaF f fd dV ["self","k"] ["self","k"] 0 Qfz F Qwg fun cdv A outer s H E G hr=>
  (Qh (Qbj (QgW QqZ z_list (de_ix (Qjp fo_ways (Qb 0 rfl (oi Qq7))) (DE.db (Qb 1 rfl (oi QuN)))))))
abbrev Qbr:Stmt:=inCls (top 25) 5
theorem QyD:Qr ["self"] ["self"] (Qa Qbr):=⟨rfl,rfl,rfl,dk,rfl,dk,dk⟩
theorem Qjj:Lo Qbr "self":=dk
theorem QsT:Gl Qbr "list":=dk
def Qgz:SD->Out Fl:=(sRetF (e1 dList (e2 dIx (e1 (dFld Qj "heads") (eVar 0)) (eMeth Qc "period" (fun _=>QM) (eVar 0) aNil))))
def QbZ:List D->Out D:=bodyF true 1 1 Qgz
theorem QzQ(d0:D):QbZ [d0]=(Qgz [some (.k,d0)]>>=retF true):=rfl
theorem QzO(F:FunV K "whole" "Clerk.whole" Qbr f fd dV)(z_list:mg "list"=none)(fo_heads:FldOk K CT Qj "heads")(mt_period:MtOk P w K mg base CT CX0 "period" 1 Qc (fun c=>SpD K CT false ((fun _=>QM) c))):FnOk P w K mg base CX0 2 f fd ["self"] (SpD K CT true QbZ):=
 @fnV P w K mg base CT true "whole" "Clerk.whole" Qbr f fd dV ["self"] ["self"] 1 Qgz F QyD fun cdv A outer s H E G hr=>
  (Qh (Qbj (QgW QsT z_list (de_ix (Qjp fo_heads (Qb 0 rfl (oi Qjj))) (DE.db (QcU mt_period (hr.mono (by decide)) (Qb 0 rfl (oi Qjj))))))))
abbrev Qw:Stmt:=inCls (top 25) 6
theorem QcL:Qr ["self","count","rounds","head"] ["self","count"] (Qa Qw):=⟨rfl,rfl,rfl,dk,rfl,dk,dk⟩
theorem QdF:Lo Qw "count":=dk
theorem Qba:Lo Qw "self":=dk
theorem Qhz:(Qa Qw).names.lookup ("rounds":Str)=some NameKind.cell:=dk
theorem Qd7:Lo Qw "head":=dk
theorem Qjv:Gl Qw "zip":=dk
abbrev Qbs:PySem.Scope:={ kind:=PySem.ScopeKind.function,names:=[ (PySem.Str.ofString ".0",PySem.NameKind.local),(PySem.Str.ofString "each",PySem.NameKind.local),(PySem.Str.ofString "more",PySem.NameKind.local),(PySem.Str.ofString "rounds",PySem.NameKind.free)],isGenerator:=false,isCoroutine:=false,more:=[]:PySem.Scope }
theorem Qcy:QD ["each","more","rounds"] [none,none,some 2] Qbs (Qa Qw) ["self","count","rounds","head"]:=⟨rfl,dk,dk,rfl,dk,dk⟩
theorem QbI:(Qf Qbs (Qa Qw)).names.lookup ("more":Str)=some NameKind.local:=dk
theorem QbH:(Qf Qbs (Qa Qw)).names.lookup ("each":Str)=some NameKind.local:=dk
theorem Qgh:(Qf Qbs (Qa Qw)).names.lookup ("rounds":Str)=some NameKind.cell:=dk
def Qe3:SD->Out D:=(e2 dAdd (e2 dMul (eVar 2) (eVar 0)) (eVar 1))
def Qb4:SD->Out Fl:=(sSeq (sSet 2 (e2 dFdiv (eVar 1) (eMeth Qc "period" (fun _=>QM) (eVar 0) aNil))) (sSeq (sSet 3 (e2 dIx (e1 (dFld Qj "heads") (eVar 0)) (e2 dMod (eVar 1) (eMeth Qc "period" (fun _=>QM) (eVar 0) aNil)))) (sRetF (eComp [none,none,some 2] (itZ (eMeth Qc "whole" (fun _=>QbZ) (eVar 0) aNil) (eVar 3)) (gT [0,1]) cTrue Qe3))))
def QV:List D->Out D:=bodyF true 2 4 Qb4
theorem Qmg(d0 d1:D):QV [d0,d1]=(Qb4 [some (.k,d0),some (.k,d1),none,none]>>=retF true):=rfl
theorem Qmk(F:FunV K "sent_from_start" "Clerk.sent_from_start" Qw f fd dV)(z_zip:mg "zip"=none)(fo_heads:FldOk K CT Qj "heads")(mt_period:MtOk P w K mg base CT CX0 "period" 1 Qc (fun c=>SpD K CT false ((fun _=>QM) c)))(mt_whole:MtOk P w K mg base CT CX0 "whole" 2 Qc (fun c=>SpD K CT true ((fun _=>QbZ) c))):FnOk P w K mg base CX0 3 f fd ["self","count"] (SpD K CT true QV):=
 @fnV P w K mg base CT true "sent_from_start" "Clerk.sent_from_start" Qw f fd dV ["self","count","rounds","head"] ["self","count"] 2 Qb4 F QcL fun cdv A outer s H E G hr=>
  (Qg (Qar (i:=2) QcL.nd rfl (Or.inr Qhz) (QcG (DE.db (Qb 1 rfl (oi QdF))) (DE.db (QcU mt_period (hr.mono (by decide)) (Qb 0 rfl (oi Qba)))))) (Qg (Qar (i:=3) QcL.nd rfl (oi Qd7) (de_ix (Qjp fo_heads (Qb 0 rfl (oi Qba))) (DE.db (Qac (DE.db (Qb 1 rfl (oi QdF))) (DE.db (QcU mt_period (hr.mono (by decide)) (Qb 0 rfl (oi Qba)))))))) (Qh (Qbj (QP rfl Qcy (DI.b (Qja Qjv z_zip (QcU mt_whole (hr.mono (by decide)) (Qb 0 rfl (oi Qba))) (Qb 3 rfl (oi Qd7)))) (fun ς=>Qit (fun i hi=>Qq (by revert hi;revert i;decide) ς)) (QcR _) (fun fp s H G p=>⟨(Qfq rfl (QY (i:=0) Qcy.nd rfl (oi QbH) (QY (i:=1) Qcy.nd rfl (oi QbI) QcE (hf:=Or.inr QbI)) (hf:=Or.inr QbH))),QJ,(Qas (DE.db (QcJ (DE.db (Qb 2 rfl (Or.inr (oi Qgh)))) (DE.db (Qb 0 rfl (oi QbH))))) (DE.db (Qb 1 rfl (oi QbI))))⟩))))))
abbrev Q8:Stmt:=inCls (top 25) 7
theorem Qjy:Qr ["self","state","count","late","early"] ["self","state","count"] (Qa Q8):=⟨rfl,rfl,rfl,dk,rfl,dk,dk⟩
theorem QkG:Lo Q8 "self":=dk
theorem Qi9:Lo Q8 "state":=dk
theorem Qr0:Lo Q8 "count":=dk
theorem QkB:Lo Q8 "late":=dk
theorem Qjk:Lo Q8 "early":=dk
theorem QuE:Gl Q8 "zip":=dk
abbrev Qhr:PySem.Scope:={ kind:=PySem.ScopeKind.function,names:=[ (PySem.Str.ofString ".0",PySem.NameKind.local),(PySem.Str.ofString "after",PySem.NameKind.local),(PySem.Str.ofString "before",PySem.NameKind.local)],isGenerator:=false,isCoroutine:=false,more:=[]:PySem.Scope }
theorem Qif:QD ["after","before"] [none,none] Qhr (Qa Q8) ["self","state","count","late","early"]:=⟨rfl,dk,dk,rfl,dk,dk⟩
theorem Qdy:(Qf Qhr (Qa Q8)).names.lookup ("before":Str)=some NameKind.local:=dk
theorem Qd8:(Qf Qhr (Qa Q8)).names.lookup ("after":Str)=some NameKind.local:=dk
def QoD:SD->Out D:=(e2 dSub (eVar 0) (eVar 1))
def QhD:SD->Out Fl:=(sSeq (sSet 3 (eMeth Qc "sent_from_start" (fun _=>QV) (eVar 0) (aCons (e2 dAdd (eVar 1) (eVar 2)) aNil))) (sSeq (sSet 4 (eMeth Qc "sent_from_start" (fun _=>QV) (eVar 0) (aCons (eVar 1) aNil))) (sRetF (eComp [none,none] (itZ (eVar 3) (eVar 4)) (gT [0,1]) cTrue QoD))))
def QbO:List D->Out D:=bodyF true 3 5 QhD
theorem QCC(d0 d1 d2:D):QbO [d0,d1,d2]=(QhD [some (.k,d0),some (.k,d1),some (.k,d2),none,none]>>=retF true):=rfl
theorem QDZ(F:FunV K "sent" "Clerk.sent" Q8 f fd dV)(z_zip:mg "zip"=none)(mt_sent_from_start:MtOk P w K mg base CT CX0 "sent_from_start" 3 Qc (fun c=>SpD K CT true ((fun _=>QV) c))):FnOk P w K mg base CX0 4 f fd ["self","state","count"] (SpD K CT true QbO):=
 @fnV P w K mg base CT true "sent" "Clerk.sent" Q8 f fd dV ["self","state","count","late","early"] ["self","state","count"] 3 QhD F Qjy fun cdv A outer s H E G hr=>
  (Qg (Qar (i:=3) Qjy.nd rfl (oi QkB) (Qk8 mt_sent_from_start (hr.mono (by decide)) (Qb 0 rfl (oi QkG)) (Qd (Qas (DE.db (Qb 1 rfl (oi Qi9))) (DE.db (Qb 2 rfl (oi Qr0)))) Qi))) (Qg (Qar (i:=4) Qjy.nd rfl (oi Qjk) (Qk8 mt_sent_from_start (hr.mono (by decide)) (Qb 0 rfl (oi QkG)) (Qd (Qb 1 rfl (oi Qi9)) Qi))) (Qh (Qbj (QP rfl Qif (DI.b (Qja QuE z_zip (Qb 3 rfl (oi QkB)) (Qb 4 rfl (oi Qjk)))) (fun ς=>Qit (fun i hi=>Qq (by revert hi;revert i;decide) ς)) (QcR _) (fun fp s H G p=>⟨(Qfq rfl (QY (i:=0) Qif.nd rfl (oi Qd8) (QY (i:=1) Qif.nd rfl (oi Qdy) QcE (hf:=Or.inr Qdy)) (hf:=Or.inr Qd8))),QJ,(QeB (DE.db (Qb 0 rfl (oi Qd8))) (DE.db (Qb 1 rfl (oi Qdy))))⟩))))))
abbrev Q1:Stmt:=top 12
theorem Qgt:Qr ["office","states","desks","out","came","k","clerk"] ["office","states","desks","out"] (Qa Q1):=⟨rfl,rfl,rfl,dk,rfl,dk,dk⟩
theorem Qdc:Lo Q1 "desks":=dk
abbrev QmH:PySem.Scope:={ kind:=PySem.ScopeKind.function,names:=[(PySem.Str.ofString ".0",PySem.NameKind.local),(PySem.Str.ofString "dockets",PySem.NameKind.local)],isGenerator:=false,isCoroutine:=false,more:=[]:PySem.Scope }
theorem QoE:QD ["dockets"] [none] QmH (Qa Q1) ["office","states","desks","out","came","k","clerk"]:=⟨rfl,dk,dk,rfl,dk,dk⟩
theorem QfS:(Qf QmH (Qa Q1)).names.lookup ("dockets":Str)=some NameKind.local:=dk
def QfO:SD->Out D:=(eC (.int 0))
theorem Qf1:Lo Q1 "came":=dk
theorem Qtt:Gl Q1 "able":=dk
theorem QbD:Lo Q1 "k":=dk
theorem QhW:Lo Q1 "office":=dk
theorem Qfg:Lo Q1 "clerk":=dk
theorem QuH:Lo Q1 "out":=dk
theorem Qe1:Lo Q1 "states":=dk
theorem Quy:Gl Q1 "lay":=dk
def Qca:SD->Out Fl:=(sSeq (sSet 6 (eMeth QB "clerk" (fun _=>QaJ) (eVar 0) (aCons (eVar 5) aNil))) (sSeq (QrX [some 4,some 3,none,none] Qp6 (aCons (eVarW 4) (aCons (eVarW 3) (aCons (eMeth QB "leads" (fun _=>QbF) (eVar 0) (aCons (eVar 5) aNil)) (aCons (eMeth Qc "sent" (fun _=>QbO) (eVar 6) (aCons (fun ς=>Qo0 ((e2 dIx (eVarB 1) (eVar 5)) ς)) (aCons (e2 dIx (eVar 2) (eVar 5)) aNil))) aNil))))) (sPutW 1 (eVar 5) (e2 dMod (e2 dAdd (e2 dIx (eVarB 1) (eVar 5)) (e2 dIx (eVar 2) (eVar 5))) (eMeth Qc "period" (fun _=>QM) (eVar 6) aNil)))))
def QhQ:SD->Out Fl:=(sSeq (sSetO 4 (eComp [none] (itL (eVar 2)) (gN 0) cTrue QfO)) (sSeq (sFor (gN 5) (itL (eA (fun xs=>QhS (xs++[])) (aCons (eVar 2) aNil))) Qca) (sRetO 4)))
def QcS:List D->Out (D×Option (List D)):=bodyW true [false,true,false,true] 7 QhQ
theorem QDy(d0 d1 d2 d3:D):QcS [d0,d1,d2,d3]=(QhQ [some (.k,d0),some (.s,d1),some (.k,d2),some (.s,d3),none,none,none]>>=retW true [false,true,false,true]):=rfl
theorem QD4(F:FunV K "handle_all" "handle_all" Q1 f fd dV)(QOG:DefOk P w K mg base CT "able" 1 true [] QhS)(QPN:DefW P w K mg base CT "lay" 1 false [true,true,false,false] Qp6)(mt_clerk:MtOk P w K mg base CT CX0 "clerk" 1 QB (fun c=>SpD K CT false ((fun _=>QaJ) c)))(mt_leads:MtOk P w K mg base CT CX0 "leads" 1 QB (fun c=>SpD K CT true ((fun _=>QbF) c)))(mt_sent:MtOk P w K mg base CT CX0 "sent" 4 Qc (fun c=>SpD K CT true ((fun _=>QbO) c)))(mt_period:MtOk P w K mg base CT CX0 "period" 1 Qc (fun c=>SpD K CT false ((fun _=>QM) c))):FnOk P w K mg base CX0 5 f fd ["office","states","desks","out"] (SpW K CT true [false,true,false,true] QcS):=
 @fnW P w K mg base CT true "handle_all" "handle_all" Q1 f fd dV ["office","states","desks","out","came","k","clerk"] ["office","states","desks","out"] 4 QhQ [false,true,false,true] rfl F Qgt fun cdv A outer s H E G ps vs hr=>
  (Qg (QMd (i:=4) rfl QoE (DI.b (Qai (Qb 2 rfl (oi Qdc)))) (fun ς=>QI (Qq rfl ς)) (Qy _) (fun fp s H G p=>⟨(QC (i:=0) QoE.nd rfl (oi QfS) (hf:=Or.inr QfS)),QJ,Qe⟩) Qgt.nd rfl (oi Qf1)) (Qg (QbX PassesOwn.never rfl (Qai (de_f QOG (hr.mono (by decide)) (Qd (Qb 2 rfl (oi Qdc)) Qi) Qtt)) (QC (i:=5) Qgt.nd rfl (oi QbD)) (Qy _) (Qg (Qar (i:=6) Qgt.nd rfl (oi Qfg) (Qk8 mt_clerk (hr.mono (by decide)) (Qb 0 rfl (oi QhW)) (Qd (Qb 5 rfl (oi QbD)) Qi))) (Qg (QL9 (ms:=[some 4,some 3,none,none]) QPN (hr.mono (by decide)) (daw_w 4 (daw_w 3 (daw_k (Qk8 mt_leads (hr.mono (by decide)) (Qb 0 rfl (oi QhW)) (Qd (Qb 5 rfl (oi QbD)) Qi)) (daw_k (Qk8 mt_sent (hr.mono (by decide)) (Qb 6 rfl (oi Qfg)) (Qd (DB.de (db_ix (Qhc 1 rfl (oi Qe1)) (DE.db (Qb 5 rfl (oi QbD))))) (Qd (de_ix (Qb 2 rfl (oi Qdc)) (DE.db (Qb 5 rfl (oi QbD)))) Qi))) QN1)) rfl (oi QuH)) rfl (oi Qf1)) Quy) (Qh (QwM 1 (DE.db (Qb 5 rfl (oi QbD))) (Qac (DE.db (Qas (db_ix (Qhc 1 rfl (oi Qe1)) (DE.db (Qb 5 rfl (oi QbD)))) (DE.db (de_ix (Qb 2 rfl (oi Qdc)) (DE.db (Qb 5 rfl (oi QbD))))))) (DE.db (QcU mt_period (hr.mono (by decide)) (Qb 6 rfl (oi Qfg))))) rfl (oi Qe1)))))) (Qh (QoN 4 rfl (oi Qf1)))))
abbrev Qbb:Stmt:=inCls (top 52) 2
theorem Qwj:Qr ["self"] ["self"] (Qa Qbb):=⟨rfl,rfl,rfl,dk,rfl,dk,dk⟩
theorem Qrf:Lo Qbb "self":=dk
theorem Qq9:Gl Qbb "list":=dk
def QfA:SD->Out Fl:=(sRetF (e1 dList (e1 (dFld Qj "door_names") (eVar 0))))
def Qbf:List D->Out D:=bodyF true 1 1 QfA
theorem QxM(d0:D):Qbf [d0]=(QfA [some (.k,d0)]>>=retF true):=rfl
theorem Qyu(F:FunV K "doors" "Office.doors" Qbb f fd dV)(z_list:mg "list"=none)(fo_door_names:FldOk K CT Qj "door_names"):FnOk P w K mg base CX0 1 f fd ["self"] (SpD K CT true Qbf):=
 @fnV P w K mg base CT true "doors" "Office.doors" Qbb f fd dV ["self"] ["self"] 0 QfA F Qwj fun cdv A outer s H E G hr=>
  (Qh (Qbj (QgW Qq9 z_list (Qjp fo_door_names (Qb 0 rfl (oi Qrf))))))
abbrev Qa4:Stmt:=top 10
theorem Qxo:Qr ["office"] ["office"] (Qa Qa4):=⟨rfl,rfl,rfl,dk,rfl,dk,dk⟩
theorem Qqh:Lo Qa4 "office":=dk
abbrev Ql8:PySem.Scope:={ kind:=PySem.ScopeKind.function,names:=[(PySem.Str.ofString ".0",PySem.NameKind.local),(PySem.Str.ofString "door",PySem.NameKind.local)],isGenerator:=false,isCoroutine:=false,more:=[]:PySem.Scope }
theorem Qm1:QD ["door"] [none] Ql8 (Qa Qa4) ["office"]:=⟨rfl,dk,dk,rfl,dk,dk⟩
theorem QgX:(Qf Ql8 (Qa Qa4)).names.lookup ("door":Str)=some NameKind.local:=dk
def Qhh:SD->Out D:=(eC (.int 0))
def QgC:SD->Out Fl:=(sRetF (eComp [none] (itL (eMeth QB "doors" (fun _=>Qbf) (eVar 0) aNil)) (gN 0) cTrue Qhh))
def Qcs:List D->Out D:=bodyF true 1 1 QgC
theorem QzJ(d0:D):Qcs [d0]=(QgC [some (.k,d0)]>>=retF true):=rfl
theorem QAO(F:FunV K "nothing_out" "nothing_out" Qa4 f fd dV)(mt_doors:MtOk P w K mg base CT CX0 "doors" 1 QB (fun c=>SpD K CT true ((fun _=>Qbf) c))):FnOk P w K mg base CX0 2 f fd ["office"] (SpD K CT true Qcs):=
 @fnV P w K mg base CT true "nothing_out" "nothing_out" Qa4 f fd dV ["office"] ["office"] 1 QgC F Qxo fun cdv A outer s H E G hr=>
  (Qh (Qbj (QP rfl Qm1 (DI.b (Qai (QcU mt_doors (hr.mono (by decide)) (Qb 0 rfl (oi Qqh))))) (fun ς=>QI (Qq rfl ς)) (Qy _) (fun fp s H G p=>⟨(QC (i:=0) Qm1.nd rfl (oi QgX) (hf:=Or.inr QgX)),QJ,Qe⟩))))
abbrev Qbz:Stmt:=top 17
theorem QIM:Qr ["office","flow"] ["office","flow"] (Qa Qbz):=⟨rfl,rfl,rfl,dk,rfl,dk,dk⟩
theorem Qmd:Lo Qbz "office":=dk
theorem Qpm:Lo Qbz "flow":=dk
abbrev Qry:PySem.Scope:={ kind:=PySem.ScopeKind.function,names:=[(PySem.Str.ofString ".0",PySem.NameKind.local),(PySem.Str.ofString "count",PySem.NameKind.local)],isGenerator:=false,isCoroutine:=false,more:=[]:PySem.Scope }
theorem QtU:QD ["count"] [none] Qry (Qa Qbz) ["office","flow"]:=⟨rfl,dk,dk,rfl,dk,dk⟩
theorem Qjd:(Qf Qry (Qa Qbz)).names.lookup ("count":Str)=some NameKind.local:=dk
def Qoh:SD->Out D:=(eC (.int 0))
theorem Qpb:Gl Qbz "nothing_out":=dk
theorem QpA:Gl Qbz "handle_all":=dk
def QmB:SD->Out Fl:=(sRetF (fun ς=>QfP ((aCons (eVar 0) (aCons (fun ς=>flatL ((eComp [none] (itL (eVar 1)) (gN 0) cTrue Qoh) ς)) (aCons (eVar 1) (aCons (fun ς=>flatL ((fun ς=>QfP ((eA (fun xs=>Qcs (xs++[])) (aCons (eVar 0) aNil)) ς)) ς)) aNil)))) ς>>=fun ds=>QcS ds>>=fun r=>.ok r.1)))
def Qec:List D->Out D:=bodyF true 2 2 QmB
theorem QJ8(d0 d1:D):Qec [d0,d1]=(QmB [some (.k,d0),some (.k,d1)]>>=retF true):=rfl
theorem QJY(F:FunV K "sent_by" "sent_by" Qbz f fd dV)(QAX:DefW P w K mg base CT "handle_all" 5 true [false,true,false,true] QcS)(QzI:DefOk P w K mg base CT "nothing_out" 2 true [] Qcs):FnOk P w K mg base CX0 6 f fd ["office","flow"] (SpD K CT true Qec):=
 @fnV P w K mg base CT true "sent_by" "sent_by" Qbz f fd dV ["office","flow"] ["office","flow"] 5 QmB F QIM fun cdv A outer s H E G hr=>
  (Qh (Qbj (QLD QAX (hr.mono (by decide)) (dat_v 0 (dat_t (QP rfl QtU (DI.b (Qai (Qb 1 rfl (oi Qpm)))) (fun ς=>QI (Qq rfl ς)) (Qy _) (fun fp s H G p=>⟨(QC (i:=0) QtU.nd rfl (oi Qjd) (hf:=Or.inr Qjd)),QJ,Qe⟩)) (dat_v 1 (dat_t (df_f QzI (hr.mono (by decide)) (Qd (Qb 0 rfl (oi Qmd)) Qi) Qpb) QNY) rfl (oi Qpm))) rfl (oi Qmd)) QpA)))
abbrev Qak:Stmt:=top 18
theorem QBK:Qr ["office","flow"] ["office","flow"] (Qa Qak):=⟨rfl,rfl,rfl,dk,rfl,dk,dk⟩
theorem Qjc:Lo Qak "office":=dk
theorem QgV:Lo Qak "flow":=dk
theorem Qq2:Gl Qak "is_flow":=dk
theorem Qrd:Gl Qak "sent_by":=dk
theorem QvM:Gl Qak "zip":=dk
abbrev Qh5:PySem.Scope:={ kind:=PySem.ScopeKind.function,names:=[ (PySem.Str.ofString ".0",PySem.NameKind.local),(PySem.Str.ofString "dockets",PySem.NameKind.local),(PySem.Str.ofString "count",PySem.NameKind.local)],isGenerator:=false,isCoroutine:=false,more:=[]:PySem.Scope }
theorem Qkx:QD ["dockets","count"] [none,none] Qh5 (Qa Qak) ["office","flow"]:=⟨rfl,dk,dk,rfl,dk,dk⟩
theorem Qel:(Qf Qh5 (Qa Qak)).names.lookup ("count":Str)=some NameKind.local:=dk
theorem QdD:(Qf Qh5 (Qa Qak)).names.lookup ("dockets":Str)=some NameKind.local:=dk
def Qko:SD->Out D:=(e2 dGe (eVar 0) (eVar 1))
theorem QwJ:Gl Qak "all":=dk
def QiQ:SD->Out Fl:=(sSeq (sIf (tNot' (tVal (eA (fun xs=>Qfh (xs++[])) (aCons (eVar 0) (aCons (eVar 1) aNil))))) (sRet (eC (.bl false))) sNil) (sRet (eA (f1 fAll) (aCons (eComp [none,none] (itZ (eA (fun xs=>Qec (xs++[])) (aCons (eVar 0) (aCons (eVar 1) aNil))) (eVar 1)) (gT [0,1]) cTrue Qko) aNil))))
def QcB:List D->Out D:=bodyF false 2 2 QiQ
theorem QGc(d0 d1:D):QcB [d0,d1]=(QiQ [some (.k,d0),some (.k,d1)]>>=retF false):=rfl
theorem QGs(F:FunV K "is_unrest" "is_unrest" Qak f fd dV)(QKW:DefOk P w K mg base CT "is_flow" 3 false [] Qfh)(QJp:DefOk P w K mg base CT "sent_by" 6 true [] Qec)(z_all:mg "all"=none)(z_zip:mg "zip"=none):FnOk P w K mg base CX0 7 f fd ["office","flow"] (SpD K CT false QcB):=
 @fnV P w K mg base CT false "is_unrest" "is_unrest" Qak f fd dV ["office","flow"] ["office","flow"] 6 QiQ F QBK fun cdv A outer s H E G hr=>
  (Qg (ds_if (QaN (Qa0 (de_f QKW (hr.mono (by decide)) (Qd (Qb 0 rfl (oi Qjc)) (Qd (Qb 1 rfl (oi QgV)) Qi)) Qq2))) (Qh (QQ de_bl)) Q4) (Qh (QQ (Qgi rfl QwJ z_all (Qm (DE.db (DF.de (QP rfl Qkx (DI.b (Qja QvM z_zip (de_f QJp (hr.mono (by decide)) (Qd (Qb 0 rfl (oi Qjc)) (Qd (Qb 1 rfl (oi QgV)) Qi)) Qrd) (Qb 1 rfl (oi QgV)))) (fun ς=>Qit (fun i hi=>Qq (by revert hi;revert i;decide) ς)) (QcR _) (fun fp s H G p=>⟨(Qfq rfl (QY (i:=0) Qkx.nd rfl (oi QdD) (QY (i:=1) Qkx.nd rfl (oi Qel) QcE (hf:=Or.inr Qel)) (hf:=Or.inr QdD))),QJ,(de_ge (DE.db (Qb 0 rfl (oi QdD))) (DE.db (Qb 1 rfl (oi Qel))))⟩)))) Qu)))))
abbrev Qat:Stmt:=top 61
theorem Qee:Qr ["_law_rows","_law_table_here","_law_doors","_law_flow_here","_law_k","_law_comes","_law_j","_law_one"] ["_law_rows","_law_table_here","_law_doors","_law_flow_here"] (Qa Qat):=⟨rfl,rfl,rfl,dk,rfl,dk,dk⟩
theorem Qc0:Lo Qat "_law_rows":=dk
theorem Qgy:Gl Qat "len":=dk
theorem Qho:Gl Qat "range":=dk
theorem Qbu:Lo Qat "_law_k":=dk
theorem QaX:Lo Qat "_law_flow_here":=dk
def QbM:SD->Out Fl:=(sIf (tOr' (tVal (e2 dLt (e2 dIx (eVar 3) (eVar 4)) (eC (.int 0)))) (tVal (e2 dNe (e2 dMod (e2 dIx (eVar 3) (eVar 4)) (eA fLen (aCons (e2 dIx (eVar 0) (eVar 4)) aNil))) (eC (.int 0))))) (sRet (eC (.bl false))) sNil)
theorem Qcx:Lo Qat "_law_comes":=dk
theorem QgN:Lo Qat "_law_j":=dk
theorem QkT:Lo Qat "_law_table_here":=dk
theorem QpK:Lo Qat "_law_doors":=dk
theorem Qfj:Lo Qat "_law_one":=dk
def QiY:SD->Out Fl:=(sSeq (sSet 7 (e2 dIx (e2 dIx (eVar 1) (eVar 6)) (e2 dAdd (eVar 2) (eVar 4)))) (sSet 5 (e2 dAdd (eVar 5) (e2 dMul (e2 dFdiv (e2 dIx (eVar 3) (eVar 6)) (e2 dIx (eVar 7) (eC (.int 1)))) (e2 dIx (eVar 7) (eC (.int 0)))))))
def QcD:SD->Out Fl:=(sSeq (sSet 5 (eC (.int 0))) (sSeq (sFor (gN 6) (itR1 (eA fLen (aCons (eVar 0) aNil))) QiY) (sIf (tVal (e2 dLt (eVar 5) (e2 dIx (eVar 3) (eVar 4)))) (sRet (eC (.bl false))) sNil)))
theorem Qzm:Gl Qat "max":=dk
def Qmy:SD->Out Fl:=(sSeq (sFor (gN 4) (itR1 (eA fLen (aCons (eVar 0) aNil))) QbM) (sSeq (sFor (gN 4) (itR1 (eA fLen (aCons (eVar 0) aNil))) QcD) (sRet (e2 dGt (eA (f1 fMaxL) (aCons (eVar 3) aNil)) (eC (.int 0))))))
def Qeb:List D->Out D:=bodyF false 4 8 Qmy
theorem QJK(d0 d1 d2 d3:D):Qeb [d0,d1,d2,d3]=(Qmy [some (.k,d0),some (.k,d1),some (.k,d2),some (.k,d3),none,none,none,none]>>=retF false):=rfl
theorem QJ4(F:FunV K "_law_due" "_law_due" Qat f fd dV)(z_range:mg "range"=none)(z_len:mg "len"=none)(z_max:mg "max"=none):FnOk P w K mg base CX0 1 f fd ["_law_rows","_law_table_here","_law_doors","_law_flow_here"] (SpD K CT false Qeb):=
 @fnV P w K mg base CT false "_law_due" "_law_due" Qat f fd dV ["_law_rows","_law_table_here","_law_doors","_law_flow_here","_law_k","_law_comes","_law_j","_law_one"] ["_law_rows","_law_table_here","_law_doors","_law_flow_here"] 0 Qmy F Qee fun cdv A outer s H E G hr=>
  (Qg (QbX PassesOwn.never rfl (QaL Qho z_range (DE.db (Q3 Qgy z_len (Qm (DE.db (Qb 0 rfl (oi Qc0))) Qu)))) (QC (i:=4) Qee.nd rfl (oi Qbu)) (Qy _) (Qh (ds_if (DW.dt (dw_or (dt_lt (DE.db (de_ix (Qb 3 rfl (oi QaX)) (DE.db (Qb 4 rfl (oi Qbu))))) (DE.db Qe)) (Qgc (dt_ne hr.units (DE.db (Qac (DE.db (de_ix (Qb 3 rfl (oi QaX)) (DE.db (Qb 4 rfl (oi Qbu))))) (DE.db (Q3 Qgy z_len (Qm (DE.db (de_ix (Qb 0 rfl (oi Qc0)) (DE.db (Qb 4 rfl (oi Qbu))))) Qu))))) (DE.db Qe))))) (Qh (QQ de_bl)) Q4))) (Qg (QbX PassesOwn.never rfl (QaL Qho z_range (DE.db (Q3 Qgy z_len (Qm (DE.db (Qb 0 rfl (oi Qc0))) Qu)))) (QC (i:=4) Qee.nd rfl (oi Qbu)) (Qy _) (Qg (Qar (i:=5) Qee.nd rfl (oi Qcx) Qe) (Qg (QbX PassesOwn.never rfl (QaL Qho z_range (DE.db (Q3 Qgy z_len (Qm (DE.db (Qb 0 rfl (oi Qc0))) Qu)))) (QC (i:=6) Qee.nd rfl (oi QgN)) (Qy _) (Qg (Qar (i:=7) Qee.nd rfl (oi Qfj) (de_ix (de_ix (Qb 1 rfl (oi QkT)) (DE.db (Qb 6 rfl (oi QgN)))) (DE.db (Qas (DE.db (Qb 2 rfl (oi QpK))) (DE.db (Qb 4 rfl (oi Qbu))))))) (Qh (Qar (i:=5) Qee.nd rfl (oi Qcx) (Qas (DE.db (Qb 5 rfl (oi Qcx))) (DE.db (QcJ (DE.db (QcG (DE.db (de_ix (Qb 3 rfl (oi QaX)) (DE.db (Qb 6 rfl (oi QgN))))) (DE.db (de_ix (Qb 7 rfl (oi Qfj)) (DE.db Qe))))) (DE.db (de_ix (Qb 7 rfl (oi Qfj)) (DE.db Qe)))))))))) (Qh (ds_if (dt_lt (DE.db (Qb 5 rfl (oi Qcx))) (DE.db (de_ix (Qb 3 rfl (oi QaX)) (DE.db (Qb 4 rfl (oi Qbu)))))) (Qh (QQ de_bl)) Q4))))) (Qh (QQ (de_gt (DE.db (QMN rfl Qzm z_max (Qm (DE.db (Qb 3 rfl (oi QaX))) Qu))) (DE.db Qe))))))
abbrev Qax:Stmt:=top 62
theorem Qjh:Qr ["_law_script","_law_drawn_here","_law_table_here","_law_k","_law_flow_here","_law_handed","_law_found","_law_due_here"] ["_law_script"] (Qa Qax):=⟨rfl,rfl,rfl,dk,rfl,dk,dk⟩
theorem Qf6:Lo Qax "_law_script":=dk
theorem Qup:Gl Qax "_law_drawn":=dk
theorem QaT:Lo Qax "_law_drawn_here":=dk
theorem Quc:Gl Qax "_law_table":=dk
theorem Qg6:Lo Qax "_law_table_here":=dk
theorem QKS:Gl Qax "len":=dk
theorem QJS:Gl Qax "min":=dk
theorem QKn:Gl Qax "max":=dk
theorem QEL:Gl Qax "range":=dk
theorem Qln:Lo Qax "_law_k":=dk
theorem Qvd:Gl Qax "_law_cell":=dk
theorem QuR:Gl Qax "_law_mixed":=dk
theorem Qu7:Gl Qax "_law_flow":=dk
theorem Qcw:Lo Qax "_law_flow_here":=dk
theorem QJd:Gl Qax "list":=dk
theorem Qga:Lo Qax "_law_handed":=dk
theorem Qu5:Gl Qax "is_unrest":=dk
theorem QgP:Lo Qax "_law_found":=dk
theorem QwZ:Gl Qax "_law_due":=dk
theorem QhY:Lo Qax "_law_due_here":=dk
theorem QI8:Gl Qax "bool":=dk
theorem Quh:Gl Qax "isinstance":=dk
def Qte:SD->Out Fl:=(sSeq (sSet 4 (eA (fun xs=>Qem (xs++[])) (aCons (e2 dIx (eVar 1) (eC (.int 1))) (aCons (eA (fun xs=>QaH (xs++[])) (aCons (eA (fun xs=>QbS (xs++[])) (aCons (eVar 0) (aCons (eVar 3) aNil))) (aCons (eVar 3) aNil))) aNil)))) (sSeq (sSet 5 (e1 dList (eVar 4))) (sSeq (sSet 6 (eA (fun xs=>QcB (xs++[])) (aCons (e2 dIx (eVar 1) (eC (.int 0))) (aCons (eVar 5) aNil)))) (sSeq (sSet 7 (eA (fun xs=>Qeb (xs++[])) (aCons (e2 dIx (eVar 1) (eC (.int 1))) (aCons (eVar 2) (aCons (e2 dIx (eVar 1) (eC (.int 3))) (aCons (eVar 4) aNil)))))) (sIf (tOr' (tNot' (tVal (eIsa (isaT "bool") (eVar 6)))) (tOr' (tVal (e2 dNe (eVar 6) (eVar 7))) (tVal (e2 dNe (eVar 5) (eVar 4))))) (sRet (eC (.bl false))) sNil)))))
def QAS:SD->Out Fl:=(sSeq (sSet 1 (eA (fun xs=>Qdf (xs++[])) (aCons (eVar 0) (aCons (eC (.int 2)) (aCons (eC (.int 7)) aNil))))) (sSeq (sSet 2 (eA (fun xs=>Qdj (xs++[])) (aCons (eVar 1) aNil))) (sSeq (sFor (gN 3) (itR2 (eC (.int 9)) (eA fMax2 (aCons (eC (.int 10)) (aCons (eA fMin2 (aCons (eA fLen (aCons (eVar 0) aNil)) (aCons (eC (.int 59)) aNil))) aNil)))) Qte) (sRet (eC (.bl true))))))
def Qmx:List D->Out D:=bodyF false 1 8 QAS
theorem QPP(d0:D):Qmx [d0]=(QAS [some (.k,d0),none,none,none,none,none,none,none]>>=retF false):=rfl
theorem QPM(F:FunV K "law" "law" Qax f fd dV)(QF7:DefOk P w K mg base CT "_law_drawn" 8 true [] Qdf)(QFd:DefOk P w K mg base CT "_law_table" 1 true [] Qdj)(QIb:DefOk P w K mg base CT "_law_flow" 1 true [] Qem)(QiV:DefOk P w K mg base CT "_law_mixed" 1 false [] QaH)(QpQ:DefOk P w K mg base CT "_law_cell" 1 false [] QbS)(QFB:DefOk P w K mg base CT "is_unrest" 7 false [] QcB)(QJX:DefOk P w K mg base CT "_law_due" 1 false [] Qeb)(z_range:mg "range"=none)(z_max:mg "max"=none)(z_min:mg "min"=none)(z_len:mg "len"=none)(z_list:mg "list"=none)(z_isinstance:mg "isinstance"=none)(z_bool:mg "bool"=none):FnOk P w K mg base CX0 9 f fd ["_law_script"] (SpD K CT false Qmx):=
 @fnV P w K mg base CT false "law" "law" Qax f fd dV ["_law_script","_law_drawn_here","_law_table_here","_law_k","_law_flow_here","_law_handed","_law_found","_law_due_here"] ["_law_script"] 8 QAS F Qjh fun cdv A outer s H E G hr=>
  (Qg (Qar (i:=1) Qjh.nd rfl (oi QaT) (de_f QF7 (hr.mono (by decide)) (Qd (Qb 0 rfl (oi Qf6)) (Qd Qe (Qd Qe Qi))) Qup)) (Qg (Qar (i:=2) Qjh.nd rfl (oi Qg6) (de_f QFd (hr.mono (by decide)) (Qd (Qb 1 rfl (oi QaT)) Qi) Quc)) (Qg (QbX PassesOwn.never rfl (QKU QEL z_range (DE.db Qe) (DE.db (QNs rfl QKn z_max (Qm (DE.db Qe) (Qm (DE.db (QMU rfl QJS z_min (Qm (DE.db (Q3 QKS z_len (Qm (DE.db (Qb 0 rfl (oi Qf6))) Qu))) (Qm (DE.db Qe) Qu)))) Qu))))) (QC (i:=3) Qjh.nd rfl (oi Qln)) (Qy _) (Qg (Qar (i:=4) Qjh.nd rfl (oi Qcw) (de_f QIb (hr.mono (by decide)) (Qd (de_ix (Qb 1 rfl (oi QaT)) (DE.db Qe)) (Qd (de_f QiV (hr.mono (by decide)) (Qd (de_f QpQ (hr.mono (by decide)) (Qd (Qb 0 rfl (oi Qf6)) (Qd (Qb 3 rfl (oi Qln)) Qi)) Qvd) (Qd (Qb 3 rfl (oi Qln)) Qi)) QuR) Qi)) Qu7)) (Qg (Qar (i:=5) Qjh.nd rfl (oi Qga) (DF.de (QgW QJd z_list (Qb 4 rfl (oi Qcw))))) (Qg (Qar (i:=6) Qjh.nd rfl (oi QgP) (de_f QFB (hr.mono (by decide)) (Qd (de_ix (Qb 1 rfl (oi QaT)) (DE.db Qe)) (Qd (Qb 5 rfl (oi Qga)) Qi)) Qu5)) (Qg (Qar (i:=7) Qjh.nd rfl (oi QhY) (de_f QJX (hr.mono (by decide)) (Qd (de_ix (Qb 1 rfl (oi QaT)) (DE.db Qe)) (Qd (Qb 2 rfl (oi Qg6)) (Qd (de_ix (Qb 1 rfl (oi QaT)) (DE.db Qe)) (Qd (Qb 4 rfl (oi Qcw)) Qi)))) QwZ)) (Qh (ds_if (DW.dt (dw_or (QaN (Qa0 (QdQ "bool" QA1 QI8 z_bool PyProof.Rows.Boot.«bool» Quh z_isinstance (DE.db (Qb 6 rfl (oi QgP)))))) (dw_or (dt_ne hr.units (DE.db (Qb 6 rfl (oi QgP))) (DE.db (Qb 7 rfl (oi QhY)))) (Qgc (dt_ne hr.units (DE.db (Qb 5 rfl (oi Qga))) (DE.db (Qb 4 rfl (oi Qcw)))))))) (Qh (QQ de_bl)) Q4))))))) (Qh (QQ de_bl)))))
end
end My
set_option exponentiation.threshold 20000
namespace My
open PySem PySem.Spec L2 DL
local macro_rules | `(tactic| walk_at "g") => `(tactic| ((repeat (first | exact QOU | apply QO8));done))
local macro_rules | `(tactic| walk_at "s") => `(tactic| repeat (first | exact QJP | apply QJD))
local macro_rules | `(tactic| walk_at "all") => `(tactic| repeat (first | with_reducible exact Qy4 | (apply Qzc;focus walk_at "s")))
local macro_rules | `(tactic| walk_at "cap") => `(tactic| repeat (first | exact c_nil | apply Qjm | (apply c_k;focus walk_at "g") | (apply c_o;focus walk_at "g") | (apply c_l;focus walk_at "g") | (apply c_s;focus walk_at "g")))
local macro_rules | `(tactic| walk_at "b") => `(tactic| first | rfl | with_reducible assumption | (simp only[Bool.not_eq_true',Bool.not_eq_false',decide_eq_true_eq,decide_eq_false_iff_not,Bool.not_true,Bool.not_false];first | with_reducible assumption | omega) | (simp;done))
local macro_rules | `(tactic| walk_at "p") => `(tactic| first | decide | with_reducible assumption | omega)
local macro_rules | `(tactic| walk_at "l") => `(tactic| first | decide | with_reducible assumption | (simp only[List.length_map,List.length_cons,List.length_nil,List.length_range,List.length_append];omega) | omega | (simp;omega))
local macro_rules | `(tactic| walk_at "e") => `(tactic| first
 | ((with_reducible apply r_id);with_reducible assumption)
 | with_reducible exact r_okR | with_reducible exact QMZ
 | with_reducible apply r_var | with_reducible apply Qgs | with_reducible exact r_C | with_reducible exact r_nil | with_reducible exact r_oNo | with_reducible exact Qhw | with_reducible exact Qin
 | with_reducible exact Qbv _ _ | with_reducible exact Qla _ _ | with_reducible exact Qlz _ | with_reducible exact QpY _ | with_reducible exact Qti _ _ | with_reducible exact Qiq _ _ | with_reducible exact Qpd _ _ | with_reducible exact Qs9 _ _ | with_reducible exact Qid _ _ | with_reducible exact Qh2 _ _
 | with_reducible exact QT (by walk_at "p")
 | with_reducible exact r_rt | with_reducible exact r_rtT | with_reducible exact r_rtS rfl
 | with_reducible apply Qvt
 | with_reducible exact QJP | with_reducible apply QJD
 | with_reducible exact QOD | with_reducible apply QPw
 | with_reducible exact Qy4 | with_reducible apply Qzc
 | with_reducible exact c_nil | with_reducible apply Qjm | ((with_reducible apply c_k);focus walk_at "g") | ((with_reducible apply c_o);focus walk_at "g") | ((with_reducible apply c_l);focus walk_at "g") | ((with_reducible apply c_s);focus walk_at "g")
 | ((with_reducible apply r_scal);exact rfl)
 | ((with_reducible apply r_get);focus walk_at "g")
 | ((with_reducible apply r_bits);with_reducible assumption)
 | ((with_reducible apply bd_mod);focus walk_at "p") | with_reducible apply QK4 | with_reducible apply bd_sub | with_reducible apply QJT | with_reducible apply QLp | with_reducible apply bd_neg | with_reducible exact bd_lit rfl
 | ((with_reducible apply r_dec);focus exact rfl)
 | ((with_reducible apply r_len);focus walk_at "l")
 | with_reducible apply r_mul
 | ((with_reducible apply r_fdiv);focus walk_at "p")
 | ((with_reducible apply QLi);focus walk_at "b")
 | ((with_reducible apply QJQ);focus walk_at "b")
 | with_reducible apply QA | with_reducible apply r_e2 | with_reducible apply r_e1 | with_reducible apply r_seq | with_reducible apply r_set | with_reducible apply QeK | with_reducible apply r_if | with_reducible apply Qx | with_reducible apply QOJ | with_reducible apply QO4 | with_reducible apply r_or' | with_reducible apply r_and' | with_reducible apply QOr | with_reducible apply r_eOr | with_reducible apply r_eNot | with_reducible apply r_eIf | with_reducible apply r_isa | with_reducible apply QNG | with_reducible apply QPx | with_reducible apply r_ret | with_reducible apply Qfk | with_reducible apply r_drop | with_reducible apply r_tup | with_reducible apply r_lst | with_reducible apply QDU | with_reducible apply Qrh | with_reducible apply r_noX | with_reducible apply QG2 | with_reducible apply Qct | with_reducible apply r_gN | with_reducible apply r_gT | with_reducible apply r_unp | with_reducible apply r_for | with_reducible apply r_itL | with_reducible apply r_itT | with_reducible apply r_itE | with_reducible apply r_itZ | with_reducible apply QrK | with_reducible apply r_eA | with_reducible apply r_sl | with_reducible apply r_slB | with_reducible apply r_ixO | with_reducible apply r_meth | with_reducible apply QoF | with_reducible apply r_app | with_reducible apply r_put | with_reducible apply Q9 | with_reducible apply Qx5 | with_reducible apply QOf | with_reducible apply QM1 | with_reducible apply r_lm)
abbrev CK:List Str:=Qc
theorem QA7{c:Str}(h:CK.contains c=true):Qj.contains c=true:=by
 have hm:c∈Qc:=by simpa using h
 simp only[Qc,List.mem_cons,List.not_mem_nil,or_false]at hm
 rcases hm with rfl | rfl | rfl | rfl<;>decide +kernel
def dl(r:List Int):D:=.lst (r.map .int)
def tbD(t:List (List Int)):D:=.lst (t.map dl)
theorem QuX{js:List (Option Nat)}{its:SD->Out (List D)}{g:D->SD->Out SD}{e:SD->Out D}{ς:SD}{xs:List D}{h:D->D}(hi:its ς=.ok xs)(ht:∀ x∈xs,turnC js g cTrue e ς x=.ok (some (h x)))(hl:xs.length<=1000):
 eComp js its g cTrue e ς=.ok (.lst (xs.map h)):=by
 unfold eComp
 rw[hi,Out.bind_ok,QCj (h:=fun x=>some (h x)) ht,Out.bind_ok]
 have e:xs.filterMap (fun x=>some (h x))=xs.map h:=by rw[← List.filterMap_eq_map];rfl
 rw[e,if_pos (Qia (by rw[List.length_map];exact hl))]
theorem QuI{js:List (Option Nat)}{its:SD->Out (List D)}{e:SD->Out D}{ς:SD}{a b:List Int}(f:Int->Int->Int)(hi:its ς=.ok (List.zipWith (fun x y=>.tup [x,y]) (a.map .int) (b.map .int)))
 (ht:∀ x∈a,∀ y∈b,turnC js (gT [0,1]) cTrue e ς (.tup [.int x,.int y])=.ok (some (.int (f x y)))) (hl:a.length<=1000):eComp js its (gT [0,1]) cTrue e ς=.ok (dl (List.zipWith f a b)):=by
 have hz:List.zipWith (fun x y=>D.tup [x,y]) (a.map .int) (b.map .int)=(List.zip a b).map fun p=>D.tup [.int p.1,.int p.2]:=by
  rw[List.zipWith_map,List.map_zip_eq_zipWith]
  rfl
 rw[QuX (h:=fun d=>match d with | .tup [.int x,.int y]=>.int (f x y) | _=>.non) (by rw[hi,hz]) ?_ ?_]
 ·unfold dl
  rw[List.map_map,List.map_zipWith,List.map_zip_eq_zipWith]
  rfl
 ·intro x hx
  obtain⟨⟨p,q⟩,hp,rfl⟩:=List.mem_map.mp hx
  exact ht p (List.of_mem_zip hp).1 q (List.of_mem_zip hp).2
 ·rw[List.length_map,List.length_zip]
  omega
theorem loopL{body:D->SD->Out Fl}{P:Nat->SD->Prop}:∀{xs:List D}(n:Nat),(∀ k x,xs[k]?=some x->∀ ς,P (n+k) ς->∃ ς',body x ς=.ok (.nx ς')/\P (n+k+1) ς')->∀ ς,P n ς->∃ ς',loopD body xs ς=.ok (.nx ς')/\P (n+xs.length) ς'
 | [],n,_,ς,p=>⟨ς,rfl,p⟩
 | x::xs,n,h,ς,p=>by
  obtain⟨ς1,e1',p1⟩:=h 0 x rfl ς p
  obtain⟨ς2,e2',p2⟩:=loopL (xs:=xs) (n+1) (fun k y hy ς q=>by
   have:=h (k+1) y hy ς (by rw[show n+(k+1)=n+1+k by omega];exact q)
   rw[show n+(k+1)+1=n+1+k+1 by omega]at this
   exact this) ς1 p1
  refine⟨ς2,?_,by rw[List.length_cons,show n+(xs.length+1)=n+1+xs.length by omega];exact p2⟩
  rw[loopD,e1']
  exact e2'
def cs(t:List (List Int))(k j:Nat):Int:=((t.take k).map fun r=>r.getD j 0).sum
def pre(t:List (List Int))(m k:Nat):List Int:=(List.range m).map (cs t k)
theorem QMz{t:List (List Int)}{m k:Nat}{r:List Int}(hr:t[k]?=some r)(hm:r.length=m):List.zipWith (· + ·) (pre t m k) r=pre t m (k+1):=by
 apply List.ext_getElem?
 intro j
 unfold pre
 rw[List.getElem?_zipWith,List.getElem?_map,List.getElem?_map]
 by_cases hj:j<m
 ·have h1:(List.range m)[j]?=some j:=by simp[hj]
  have h2:r[j]?=some r[j]:=by simp[hm,hj]
  rw[h1,h2]
  show some (cs t k j+r[j])=some (cs t (k+1) j)
  unfold cs
  rw[List.take_add_one,hr]
  simp[hm,hj,List.getD_eq_getElem?_getD]
 ·have h1:(List.range m)[j]?=none:=by simp;omega
  rw[h1];rfl
theorem QMm(t:List (List Int))(m:Nat):pre t m 0=List.replicate m 0:=by
 unfold pre
 rw[List.eq_replicate_iff]
 refine⟨by simp,fun x hx=>?_⟩
 obtain⟨j,_,rfl⟩:=List.mem_map.mp hx
 rfl
structure Tb(t:List (List Int))(m:Nat):Prop where
 n1:1<=t.length
 n2:t.length<=12
 m6:m<=6
 row:∀ r∈t,r.length=m
 ent:∀ r∈t,∀ x∈r,0<=x/\x<=9
theorem QNO{a b:List Int}(hl:a.length<=1000):Qed [dl a,dl b]=.ok (dl (List.zipWith (· + ·) a b)):=by
 have h:=QuI (js:=[none,none]) (its:=itZ (eVar 0) (eVar 1)) (e:=QtX) (ς:=[some (.k,dl a),some (.k,dl b)]) (a:=a) (b:=b) (· + ·) rfl (fun x _ y _=>rfl) hl
 rw[QKD]
 unfold QmF sRetF
 rw[h];rfl
def hdD(t:List (List Int))(m:Nat)(k:Nat):D:=.lst ((List.range (k+1)).map fun i=>dl (pre t m i))
theorem QIx{t:List (List Int)}{m:Nat}(h:Tb t m):Qbe [tbD t]=.ok (hdD t m t.length):=by
 obtain⟨n1,n2,m6,row,_⟩:=h
 have r0:t[0]?=some t[0]:=by simp
 have hr0:(t[0]).length=m:=row _ (List.getElem_mem _)
 have hix:dIx (tbD t) (.int 0)=.ok (dl t[0]):=ixL 0 (by rw[List.getElem?_map,r0];rfl)
 have hc:eComp [none] (itL (e2 dIx (eVar 0) (eC (.int 0)))) (gN 0) cTrue QgU [some (.k,tbD t),none,none]=.ok (dl (pre t m 0)):=by
  rw[QuX (xs:=(t[0]).map .int) (h:=fun _=>.int 0) (by simp only[itL,e2,eVar,eC,Out.bind_ok,List.getElem?_cons_zero,hix];rfl) (fun x _=>rfl) (by rw[List.length_map];omega)]
  rw[QMm,List.map_map]
  unfold dl
  congr 2
  rw[List.map_replicate]
  exact List.eq_replicate_iff.mpr ⟨by simp[hr0],fun x hx=>by obtain⟨_,_,rfl⟩:=List.mem_map.mp hx;rfl⟩
 obtain⟨ς',hL,a2,rfl⟩:=loopL (body:=fun x ς=>gN 2 x ς>>=fun ς'=>QcH ς') (xs:=t.map dl) (P:=fun k ς=>∃ a2,ς=[some (.k,tbD t),some (.o,hdD t m k),a2]) 0
  (by
   rintro k x hx ς ⟨a2,rfl⟩
   rw[Nat.zero_add]at *
   rw[List.getElem?_map]at hx
   cases ht:t[k]? with
   | none=>rw[ht]at hx;cases hx
   | some r=>
    rw[ht]at hx
    cases hx
    have hk:k<t.length:=(List.getElem?_eq_some_iff.mp ht).1
    have hrm:r.length=m:=row r (List.mem_of_getElem? ht)
    have hl:(pre t m k).length=m:=by simp[pre]
    have s:=QNO (a:=pre t m k) (b:=r) (by omega)
    rw[QMz ht hrm]at s
    have hat:atI ((List.range (k+1)).map fun i=>dl (pre t m i)) (-1)=some (dl (pre t m k)):=by
     unfold atI ixN
     simp
     rw[if_pos (by omega),show((-1:Int)+((k:Int)+1)).toNat=k by omega]
     simp
    refine⟨[some (.k,tbD t),some (.o,hdD t m (k+1)),some (.k,dl r)],?_,_,rfl⟩
    have e1':eIxO 1 (e1 dNeg (eC (.int 1))) [some (.k,tbD t),some (.o,hdD t m k),some (.k,dl r)]=.ok (dl (pre t m k)):=by
     unfold eIxO hdD
     simp only[List.getElem?_cons_succ,List.getElem?_cons_zero,e1,eC,Out.bind_ok,Qlz,hat];rfl
    have hlt:decide (((List.range (k+1)).map fun i=>dl (pre t m i)).length<sizeLine)=true:=by
     have:(1000:Nat)<=sizeLine:=by decide
     rw[List.length_map,List.length_range]
     exact decide_eq_true (by omega)
    have hnext:((List.range (k+1)).map fun i=>dl (pre t m i))++[dl (pre t m (k+1))]=(List.range (k+1+1)).map fun i=>dl (pre t m i):=by
     rw[List.range_succ (n:=k+1),List.map_append];rfl
    show QcH [some (.k,tbD t),some (.o,hdD t m k),some (.k,dl r)]=_
    unfold QcH QbW
    simp only[List.getElem?_cons_succ,List.getElem?_cons_zero,hdD]
    have e3':eA (fun xs=>Qed (xs++[])) (aCons (eIxO 1 (e1 dNeg (eC (.int 1)))) (aCons (eVar 2) aNil)) [some (.k,tbD t),some (.o,hdD t m k),some (.k,dl r)]=.ok (dl (pre t m (k+1))):=by
     simp only[eA,aCons,aNil,e1',eVar,Out.bind_ok,List.getElem?_cons_succ,List.getElem?_cons_zero,List.append_nil,s]
    rw[show(D.lst ((List.range (k+1)).map fun i=>dl (pre t m i)))=hdD t m k from rfl,e3',Out.bind_ok,if_pos hlt,hnext]
    rfl)
  [some (.k,tbD t),some (.o,hdD t m 0),none] ⟨_,rfl⟩
 rw[Nat.zero_add,List.length_map]at hL
 have hfor:=Qbk (g:=gN 2) (its:=itL (eVar 0)) (T:=QcH) (ς:=[some (.k,tbD t),some (.o,hdD t m 0),none]) (xs:=t.map dl) rfl hL
 rw[QxH]
 unfold QfE
 have hs:sSetO 1 (eLst (aCons (eComp [none] (itL (e2 dIx (eVar 0) (eC (.int 0)))) (gN 0) cTrue QgU) aNil)) [some (.k,tbD t),none,none]=.ok (.nx [some (.k,tbD t),some (.o,hdD t m 0),none]):=by
  simp only[sSetO,eLst,aCons,aNil,hc,Out.bind_ok,List.length_cons,List.length_nil,QfF,Nat.reduceAdd,Nat.reduceLeDiff,if_true];rfl
 simp only[sSeq,hs,Out.bind_ok,thenF,hfor]
 rfl
def ckF(t:List (List Int))(m:Nat):List (Str×D):=[("table",tbD t),("heads",hdD t m t.length)]
def ck(c:Str)(t:List (List Int))(m:Nat):D:=.ins c (ckF t m)
theorem QPD:(("heads":Str) == ("table":Str))=false:=dk
theorem QPt(t:List (List Int))(m:Nat):(ckF t m).lookup ("table":Str)=some (tbD t):=by
 unfold ckF;rw[List.lookup_cons,beq_self_eq_true]
theorem QOt(t:List (List Int))(m:Nat):(ckF t m).lookup ("heads":Str)=some (hdD t m t.length):=by
 unfold ckF;rw[List.lookup_cons,QPD,List.lookup_cons,beq_self_eq_true]
theorem QNQ{n:Str}(h1:(n == ("table":Str))=false)(h2:(n == ("heads":Str))=false)(t:List (List Int))(m:Nat):(ckF t m).lookup n=none:=by
 unfold ckF;rw[List.lookup_cons,h1,List.lookup_cons,h2];rfl
theorem put_h(t:List (List Int))(m:Nat):putD "heads" (hdD t m t.length) [("table",tbD t)]=ckF t m:=by
 have:¬ (("table":Str)=("heads":Str)):=dk
 unfold putD
 rw[if_neg this];rfl
theorem Qtc{c:Str}(hc:CK.contains c=true){t:List (List Int)}{m:Nat}(h:Tb t m):QU c [] [tbD t]=.ok (ckF t m):=by
 have hk:eComp [none] (itL (eVar 1)) (gN 0) cTrue QeU [some (.s,.ins c []),some (.k,tbD t)]=.ok (tbD t):=by
  rw[QuX (xs:=t.map dl) (h:=id) rfl ?_ (by rw[List.length_map];have:=h.n2;omega),List.map_id]
  ·rfl
  ·intro x hx
   obtain⟨r,_,rfl⟩:=List.mem_map.mp hx
   rfl
 have r1:=QIx h
 have hz:∀ n:Nat,n<10->(Qj.contains c&&decide (n<1000))=true:=fun n hn=>by rw[QA7 hc,Bool.true_and];exact decide_eq_true (by omega)
 have s1:sFldS Qj "table" 0 (eComp [none] (itL (eVar 1)) (gN 0) cTrue QeU) [some (.s,.ins c []),some (.k,tbD t)]=.ok (.nx [some (.s,.ins c [("table",tbD t)]),some (.k,tbD t)]):=by
  unfold sFldS
  rw[hk,Out.bind_ok]
  show(if (Qj.contains c&&decide (([]:List (Str×D)).length<1000))=true then _ else _)=_
  exact(if_pos (c:=(Qj.contains c&&decide (0<1000))=true) (hz 0 (by decide))).trans rfl
 have s2:sFldS Qj "heads" 0 (eA (fun xs=>Qbe (xs++[])) (aCons (eVar 1) aNil)) [some (.s,.ins c [("table",tbD t)]),some (.k,tbD t)]=.ok (.nx [some (.s,.ins c (ckF t m)),some (.k,tbD t)]):=by
  unfold sFldS
  have:eA (fun xs=>Qbe (xs++[])) (aCons (eVar 1) aNil) [some (.s,.ins c [("table",tbD t)]),some (.k,tbD t)]=.ok (hdD t m t.length):=by
   simp only[eA,aCons,aNil,eVar,Out.bind_ok,List.getElem?_cons_succ,List.getElem?_cons_zero,List.append_nil,r1]
  rw[this,Out.bind_ok]
  show(if (Qj.contains c&&decide ([(("table":Str),tbD t)].length<1000))=true then _ else _)=_
  refine(if_pos (c:=(Qj.contains c&&decide (1<1000))=true) (hz 1 (by decide))).trans ?_
  rw[put_h];rfl
 rw[Qto]
 unfold QdJ
 simp only[sSeq,s1,QPf,Out.bind_ok,thenF,s2]
 simp only[Qfp,Qrw,List.getElem?_cons_zero,if_true]
theorem Qfx{c:Str}(hc:CK.contains c=true){t:List (List Int)}{m:Nat}{n:Str}{mt:Str->List D->Out D}{O:SD->Out D}{A:SD->Out (List D)}{ς:SD}{xs:List D}(hO:O ς=.ok (ck c t m))(hA:A ς=.ok xs)(h1:(n == ("table":Str))=false)(h2:(n == ("heads":Str))=false):
 eMeth CK n mt O A ς=mt c (ck c t m::xs):=by
 unfold eMeth
 rw[hO,Out.bind_ok]
 show(if (CK.contains c&&((ckF t m).lookup n).isNone)=true then A ς>>=fun xs=>mt c (.ins c (ckF t m)::xs) else .stuck)=_
 simp only[QNQ h1 h2,hc,Option.isNone_none,Bool.and_self,if_true,hA,Out.bind_ok]
 rfl
theorem fld_t{c:Str}(hc:CK.contains c=true)(t:List (List Int))(m:Nat):dFld Qj "table" (ck c t m)=.ok (tbD t):=by
 show(if Qj.contains c=true then optO ((ckF t m).lookup ("table":Str)) else .stuck)=_
 rw[if_pos (QA7 hc),QPt];rfl
theorem fld_h{c:Str}(hc:CK.contains c=true)(t:List (List Int))(m:Nat):dFld Qj "heads" (ck c t m)=.ok (hdD t m t.length):=by
 show(if Qj.contains c=true then optO ((ckF t m).lookup ("heads":Str)) else .stuck)=_
 rw[if_pos (QA7 hc),QOt];rfl
theorem QmK{c:Str}(hc:CK.contains c=true)(t:List (List Int))(m:Nat):QM [ck c t m]=.ok (.int (t.length:Int)):=by
 have:fLen [tbD t]=.ok (.int (t.length:Int)):=by simp[fLen,tbD]
 simp only[Qyl,Qfv,sRet,eA,aCons,aNil,e1,eVar,List.getElem?_cons_zero,Out.bind_ok,fld_t hc,this]
 rfl
theorem per_m{c:Str}(hc:CK.contains c=true)(t:List (List Int))(m:Nat){ς:SD}(h:ς[0]?=some (some (.k,ck c t m))):eMeth CK "period" (fun _=>QM) (eVar 0) aNil ς=.ok (.int (t.length:Int)):=by
 rw[Qfx (c:=c) (t:=t) (m:=m) hc (xs:=[]) (by unfold eVar;rw[h]) rfl (dk) (dk)]
 exact QmK hc t m
theorem hd_ix{t:List (List Int)}{m k:Nat}(hk:k<=t.length):dIx (hdD t m t.length) (.int (k:Int))=.ok (dl (pre t m k)):=ixL k (by rw[List.getElem?_map,List.getElem?_range (by omega)];rfl)
theorem QL5{c:Str}(hc:CK.contains c=true)(t:List (List Int))(m:Nat):QbZ [ck c t m]=.ok (dl (pre t m t.length)):=by
 rw[QzQ]
 unfold Qgz sRetF
 simp only[e1,e2,eVar,List.getElem?_cons_zero,Out.bind_ok,fld_h hc,per_m hc t m (ς:=[some (.k,ck c t m)]) rfl,hd_ix (Nat.le_refl _)]
 rfl
theorem cs_le{t:List (List Int)}{m:Nat}(h:Tb t m)(k j:Nat):0<=cs t k j/\cs t k j<=9 * (t.length:Int):=by
 have key:∀ l:List (List Int),(∀ r∈l,r∈t)->0<=(l.map fun r=>r.getD j 0).sum/\(l.map fun r=>r.getD j 0).sum<=9 * (l.length:Int):=by
  intro l
  induction l with
  | nil=>intro _;simp
  | cons r l ih=>
   intro hr
   have i1:=ih fun x hx=>hr x (List.mem_cons_of_mem _ hx)
   have h0:0<=r.getD j 0/\r.getD j 0<=9:=by
    rw[List.getD_eq_getElem?_getD]
    cases hx:r[j]? with
    | none=>decide
    | some x=>exact h.ent r (hr r (List.mem_cons_self ..)) x (List.mem_of_getElem? hx)
   rw[List.map_cons,List.sum_cons,List.length_cons]
   omega
 have:=key (t.take k) fun r hr=>List.mem_of_mem_take hr
 unfold cs
 have hl:(t.take k).length<=t.length:=by rw[List.length_take];omega
 omega
theorem QMs{t:List (List Int)}{m:Nat}(h:Tb t m)(k j:Nat):(cs t k j).natAbs<2 ^ 100:=by
 have:=cs_le h k j
 have:=h.n2
 omega
theorem QyM(i:Int):Qcv [.int i]=.ok (.bl true):=by
 rw[QIy];simp[Qk5,bodyF,retF,sSeq,thenF,sSet,sRet,sIf,sNil,eVar,eC,e1,e2,eA,f1,aNil,aCons,tVal,tAnd',tOr',tNot',eAnd,eOr,eNot,eIf,eTup,eLst,eIsa,isaT,Qc8,oNo,oSome,sPar,sUnp,QaB,gN,gT,fLen,QfF,Out.bind_ok,Out.bind_exc,Out.bind_stuck,Out.pure_eq,D.scal,Qbv,Qla,Qlz,QpY,Qti,Qiq,Qpd,Qs9,Qid,Qh2,List.length_cons,List.length_nil,List.map_cons,List.map_nil,List.cons_append,List.nil_append,List.append_nil,List.getElem?_cons_zero,List.getElem?_cons_succ,List.set_cons_zero,List.set_cons_succ,List.replicate,Nat.reduceAdd,Nat.reduceSub,Nat.reduceLeDiff,Nat.zero_add,Nat.add_zero,reduceIte,Bool.not_true,Bool.not_false,Bool.true_and,Bool.and_true,Bool.false_and,Bool.and_false,Bool.or_true,Bool.true_or,Bool.or_false,Bool.false_or,Bool.false_eq_true,decide_true,decide_false,decide_eq_true_eq,Bool.not_eq_true',decide_eq_false_iff_not,Int.reduceEq,Int.reduceLT,Int.reduceLE,Int.reduceNeg,Nat.reduceEqDiff, ↓reduceIte,not_true_eq_false,not_false_eq_true]
theorem QmX{i a b:Int}(h1:a<=i)(h2:i<=b):QaG [.int i,.int a,.int b]=.ok (.bl true):=by
 have hw:=QyM i
 have e1':decide (a<=i)=true:=decide_eq_true h1
 have e2':decide (i<=b)=true:=decide_eq_true h2
 rw[QE6]
 simp[QiG,bodyF,retF,sSeq,thenF,sSet,sRet,sIf,sNil,eVar,eC,e1,e2,eA,f1,aNil,aCons,tVal,tAnd',tOr',tNot',eAnd,eOr,eNot,eIf,eTup,eLst,eIsa,isaT,Qc8,oNo,oSome,sPar,sUnp,QaB,gN,gT,fLen,QfF,Out.bind_ok,Out.bind_exc,Out.bind_stuck,Out.pure_eq,D.scal,Qbv,Qla,Qlz,QpY,Qti,Qiq,Qpd,Qs9,Qid,Qh2,List.length_cons,List.length_nil,List.map_cons,List.map_nil,List.cons_append,List.nil_append,List.append_nil,List.getElem?_cons_zero,List.getElem?_cons_succ,List.set_cons_zero,List.set_cons_succ,List.replicate,Nat.reduceAdd,Nat.reduceSub,Nat.reduceLeDiff,Nat.zero_add,Nat.add_zero,reduceIte,Bool.not_true,Bool.not_false,Bool.true_and,Bool.and_true,Bool.false_and,Bool.and_false,Bool.or_true,Bool.true_or,Bool.or_false,Bool.false_or,Bool.false_eq_true,decide_true,decide_false,decide_eq_true_eq,Bool.not_eq_true',decide_eq_false_iff_not,Int.reduceEq,Int.reduceLT,Int.reduceLE,Int.reduceNeg,Nat.reduceEqDiff, ↓reduceIte,not_true_eq_false,not_false_eq_true,hw,Qfl,h1,h2]
theorem QCU{r:List Int}(hl:r.length<=6)(h:∀ x∈r,0<=x/\x<=9):Qeq [dl r]=.ok (.bl true):=by
 have hlen:fLen [dl r]=.ok (.int (r.length:Int)):=by simp[fLen,dl]
 have hc:eComp [none] (itL (eVar 0)) (gN 0) cTrue QpJ [some (.k,dl r)]=.ok (.lst (r.map fun _=>D.bl true)):=by
  refine QZ D.int (fun _=>.bl true) rfl (fun x hx=>?_) (by omega)
  have hw:=QmX (h x hx).1 (h x hx).2
  refine Q9 (by walk_at "cap") (by walk_at "s") ?_
  unfold QpJ
  (repeat walk_at "e")
 have ha:fAll (.lst (r.map fun _=>D.bl true))=.ok (.bl true):=by rw[QlM (fun _=>true)];simp
 have hf:f1 fAll [.lst (r.map fun _=>D.bl true)]=.ok (.bl true):=ha
 have hi:isaT "list" (dl r)=.ok true:=by simp[isaT,dl,Qc8]
 have hg:decide ((6:Int)<(r.length:Int))=false:=decide_eq_false (by omega)
 rw[QLO]
 unfold Qqv
 (repeat walk_at "e")
theorem QHM{t:List (List Int)}{m:Nat}(h:Tb t m):Qew [tbD t]=.ok (.bl true):=by
 obtain⟨n1,n2,m6,row,ent'⟩:=h
 have hlen:fLen [tbD t]=.ok (.int (t.length:Int)):=by simp[fLen,tbD]
 have hc:eComp [none] (itL (eVar 0)) (gN 0) cTrue Qlu [some (.k,tbD t)]=.ok (.lst (t.map fun _=>D.bl true)):=by
  refine QZ dl (fun _=>.bl true) rfl (fun x hx=>?_) (by omega)
  have hw:=QCU (r:=x) (by rw[row x hx];exact m6) (ent' x hx)
  refine Q9 (by walk_at "cap") (by walk_at "s") ?_
  unfold Qlu
  (repeat walk_at "e")
 have r0:t[0]?=some t[0]:=by simp
 have hr0:(t[0]).length=m:=row _ (List.getElem_mem _)
 have hix0:dIx (tbD t) (.int 0)=.ok (dl t[0]):=ixL 0 (by rw[List.getElem?_map,r0];rfl)
 have hl0:fLen [dl t[0]]=.ok (.int (m:Int)):=by simp[fLen,dl,hr0]
 have hc2:eComp [none,some 0] (itL (eVar 0)) (gN 0) cTrue Qlf [some (.k,tbD t)]=.ok (.lst (t.map fun _=>D.bl true)):=by
  refine QZ dl (fun _=>.bl true) rfl (fun x hx=>?_) (by omega)
  have hlx:fLen [dl x]=.ok (.int (m:Int)):=by simp[fLen,dl,row x hx]
  have he:dEq (.int (m:Int)) (.int (m:Int))=.ok (.bl true):=by rw[Qid];simp
  refine Q9 (by walk_at "cap") (by walk_at "s") ?_
  unfold Qlf
  (repeat walk_at "e")
 have ha:fAll (.lst (t.map fun _=>D.bl true))=.ok (.bl true):=by rw[QlM (fun _=>true)];simp
 have hf:f1 fAll [.lst (t.map fun _=>D.bl true)]=.ok (.bl true):=ha
 have hi:isaT "list" (tbD t)=.ok true:=by simp[isaT,tbD,Qc8]
 have hg:decide ((1:Int)<=(t.length:Int))=true:=decide_eq_true (by omega)
 have hg2:decide ((t.length:Int)<=12)=true:=decide_eq_true (by omega)
 rw[QHF]
 unfold Qk2
 (repeat walk_at "e")
theorem QKV{c:Str}(hc:CK.contains c=true){t:List (List Int)}{m:Nat}(h:Tb t m):Qdh c [] [tbD t]=.ok (ckF t m):=by
 have h1:=QHM h
 have h2:=Qtc hc h
 rw[QGG]
 unfold QiM
 (repeat walk_at "e")
theorem QJo{c:Str}(hc:CK.contains c=true){r:List Int}{m:Nat}(h:Tb [r] m):Qdg c [] [dl r]=.ok (ckF [r] m):=by
 have h1:=QCU (r:=r) (by rw[h.row r (by simp)];exact h.m6) (h.ent r (by simp))
 have h2:QU c [] [.lst [dl r]]=.ok (ckF [r] m):=Qtc hc h
 rw[QE7]
 unfold Qi4
 (repeat walk_at "e")
def one(n s:Nat):List Int:=(List.range n).map fun k=>if k=s then 1 else 0
def dealT(n:Nat):List (List Int):=(List.range n).map (one n)
def bunT(n:Nat):List (List Int):=(List.range n).map fun s=>[if s+1=n then 1 else 0]
theorem QJJ{n s:Nat}(h:n<=100):QcO [.int n,.int s]=.ok (dl (one n s)):=by
 have hc:eComp [none,some 1] (itR1 (eVar 0)) (gN 0) cTrue Qh3 [some (.k,.int n),some (.k,.int s)]=.ok (.lst ((List.range n).map fun k=>D.int (if k=s then 1 else 0))):=by
  refine Qud (fun k=>D.int (if k=s then 1 else 0)) (QcP n rfl (by omega)) (fun k hk=>?_) (by omega)
  refine Q9 (by walk_at "cap") (by walk_at "s") ?_
  unfold Qh3
  by_cases e:k=s
  ·have e':decide ((k:Int)=(s:Int))=true:=decide_eq_true (by omega)
   rw[if_pos e]
   (repeat walk_at "e")
  ·have e':decide ((k:Int)=(s:Int))=false:=decide_eq_false (by omega)
   rw[if_neg e]
   (repeat walk_at "e")
 have he:dl (one n s)=.lst ((List.range n).map fun k=>D.int (if k=s then 1 else 0)):=by unfold dl one;rw[List.map_map];rfl
 rw[he,QD6]
 unfold Qhl
 (repeat walk_at "e")
theorem QHa{n:Nat}(h1:1<=n)(h6:n<=6):Tb (dealT n) n:=by
 refine⟨by simp[dealT];omega,by simp[dealT];omega,h6,fun r hr=>?_,fun r hr x hx=>?_⟩<;>obtain⟨s,_,rfl⟩:=List.mem_map.mp hr
 ·simp[one]
 ·obtain⟨k,_,rfl⟩:=List.mem_map.mp hx
  split<;>decide
theorem QLa{n:Nat}(h1:1<=n)(h6:n<=12):Tb (bunT n) 1:=by
 refine⟨by simp[bunT];omega,by simp[bunT];omega,by decide,fun r hr=>?_,fun r hr x hx=>?_⟩<;>obtain⟨s,_,rfl⟩:=List.mem_map.mp hr
 ·simp
 ·rw[List.mem_singleton.mp hx]
  split<;>decide
theorem QJ3{c:Str}(hc:CK.contains c=true){n:Nat}(n1:1<=n)(n6:n<=6):QdB c [] [.int n]=.ok (ckF (dealT n) n):=by
 have h1:=QmX (i:=n) (a:=1) (b:=6) (by omega) (by omega)
 have h2:=Qtc hc (QHa n1 n6)
 have hc':eComp [none,some 1] (itR1 (eVar 1)) (gN 0) cTrue QjQ [some (.s,.ins c []),some (.k,.int n)]=.ok (tbD (dealT n)):=by
  have he:tbD (dealT n)=.lst ((List.range n).map fun s=>dl (one n s)):=by unfold tbD dealT;rw[List.map_map];rfl
  rw[he]
  refine Qud (fun s=>dl (one n s)) (QcP n rfl (by omega)) (fun k hk=>?_) (by omega)
  have hs:=QJJ (n:=n) (s:=k) (by omega)
  refine Q9 (by walk_at "cap") (by walk_at "s") ?_
  unfold QjQ
  (repeat walk_at "e")
 rw[QEG]
 unfold Qi3
 (repeat walk_at "e")
theorem QLT{c:Str}(hc:CK.contains c=true){n:Nat}(n1:1<=n)(n6:n<=12):Qcp c [] [.int n]=.ok (ckF (bunT n) 1):=by
 have h1:=QmX (i:=n) (a:=1) (b:=12) (by omega) (by omega)
 have h2:=Qtc hc (QLa n1 n6)
 have hc':eComp [none,some 1] (itR1 (eVar 1)) (gN 0) cTrue Qha [some (.s,.ins c []),some (.k,.int n)]=.ok (tbD (bunT n)):=by
  have he:tbD (bunT n)=.lst ((List.range n).map fun s=>D.lst [.int (if s+1=n then 1 else 0)]):=by unfold tbD bunT;rw[List.map_map];rfl
  rw[he]
  refine Qud (fun s=>D.lst [.int (if s+1=n then 1 else 0)]) (QcP n rfl (by omega)) (fun k hk=>?_) (by omega)
  refine Q9 (by walk_at "cap") (by walk_at "s") ?_
  unfold Qha
  by_cases e:k+1=n
  ·have e':decide ((k:Int)=(n:Int) - 1)=true:=decide_eq_true (by omega)
   rw[if_pos e]
   (repeat walk_at "e")
  ·have e':decide ((k:Int)=(n:Int) - 1)=false:=decide_eq_false (by omega)
   rw[if_neg e]
   (repeat walk_at "e")
 rw[Qzl]
 unfold QgG
 (repeat walk_at "e")
abbrev rl(n:Nat)(f:Nat->D):D:=.lst ((List.range n).map f)
theorem atR{n i:Nat}{f:Nat->D}(h:i<n):((List.range n).map f)[i]?=some (f i):=by
 rw[List.getElem?_map,List.getElem?_range h];rfl
theorem ixR{n i:Nat}{f:Nat->D}(h:i<n):dIx (rl n f) (.int (i:Int))=.ok (f i):=ixL i (atR h)
theorem lenR(n:Nat)(f:Nat->D):fLen [rl n f]=.ok (.int (n:Int)):=by simp[fLen]
theorem Qcc{n:Nat}{f g:Nat->D}(h:∀ i,i<n->f i=g i):rl n f=rl n g:=by
 show D.lst _=D.lst _
 rw[List.map_congr_left fun i hi=>h i (List.mem_range.mp hi)]
theorem Qiz{body:D->SD->Out Fl}{P:Nat->SD->Prop}{f:Nat->D}{n:Nat}(h:∀ k:Nat,k<n->∀ ς,P k ς->∃ ς',body (f k) ς=.ok (.nx ς')/\P (k+1) ς')(ς:SD)(p0:P 0 ς):∃ ς',loopD body ((List.range n).map f) ς=.ok (.nx ς')/\P n ς':=by
 have go:∀ m k:Nat,k+m=n->∀ ς,P k ς->∃ ς',loopD body ((List.range' k m).map f) ς=.ok (.nx ς')/\P n ς':=by
  intro m
  induction m with
  | zero=>intro k hk ς p;exact⟨ς,rfl,by rw[← hk];exact p⟩
  | succ m ih=>
   intro k hk ς p
   obtain⟨ς1,e1',p1⟩:=h k (by omega) ς p
   obtain⟨ς2,e2',p2⟩:=ih (k+1) (by omega) ς1 p1
   refine⟨ς2,?_,p2⟩
   rw[List.range'_succ,List.map_cons,loopD,e1']
   exact e2'
 rw[List.range_eq_range']
 exact go n 0 (by omega) ς p0
def fr(x:Int×Int):D:=.tup [.int x.1,.int x.2]
theorem fr0(x:Int×Int):dIx (fr x) (.int 0)=.ok (.int x.1):=QNU _ _
theorem fr1(x:Int×Int):dIx (fr x) (.int 1)=.ok (.int x.2):=QNj _ _ _
theorem setR{n k:Nat}(hk:k<n)(f:Nat->D)(v:D):((List.range n).map f).set k v=(List.range n).map fun i=>if i=k then v else f i:=by
 apply List.ext_getElem?
 intro i
 rw[List.getElem?_set]
 by_cases hi:i<n
 ·have r1:((List.range n).map fun i=>if i=k then v else f i)[i]?=some (if i=k then v else f i):=atR hi
  rw[r1]
  by_cases e:k=i
  ·subst e
   rw[if_pos rfl,if_pos (by simpa using hi),if_pos rfl]
  ·rw[if_neg e,atR hi,if_neg (Ne.symm e)]
 ·have h1:((List.range n).map f)[i]?=none:=by simp;omega
  have h2:((List.range n).map fun i=>if i=k then v else f i)[i]?=none:=by simp;omega
  rw[h1,h2,if_neg (by omega)]
theorem ixNR{n k:Nat}(hk:k<n)(f:Nat->D):ixN ((List.range n).map f).length (k:Int)=some k:=by
 rw[List.length_map,List.length_range]
 unfold ixN
 rw[if_pos (by omega),if_pos (by omega)];simp
theorem allR{n:Nat}{f:Nat->D}(h:∀ i,i<n->(f i).scal=true):((List.range n).map f).all D.scal=true:=List.all_eq_true.mpr fun d hd=>by
 obtain⟨i,hi,rfl⟩:=List.mem_map.mp hd
 exact h i (List.mem_range.mp hi)
theorem QDS:∀ xs:List Str,strsD (xs.map D.str)=some xs
 | []=>rfl
 | x::xs=>by show(strsD (xs.map D.str)).map (x :: ·)=_;rw[QDS xs];rfl
def Inj(xs:List Str):Prop:=∀ i j,i<xs.length->xs[i]?=xs[j]?->i=j
theorem QCB{xs:List Str}(h:Inj xs):∀ i,i<=xs.length->LS.met (fun i=>xs.getD i "") i=xs.take i
 | 0,_=>rfl
 | i+1,hi=>by
  have ih:=QCB h i (by omega)
  have hl:i<xs.length:=by omega
  have e:xs.getD i ""=xs[i]:=by rw[List.getD_eq_getElem?_getD,List.getElem?_eq_getElem hl];rfl
  have ni:¬ xs[i]∈xs.take i:=fun z=>by
   obtain⟨j,hj,ej⟩:=List.getElem_of_mem z
   rw[List.getElem_take]at ej
   rw[List.length_take]at hj
   have:=h i j (by omega) (by rw[List.getElem?_eq_getElem hl,List.getElem?_eq_getElem (show j<xs.length by omega),ej])
   omega
  show(if xs.getD i ""∈LS.met (fun i=>xs.getD i "") i then LS.met (fun i=>xs.getD i "") i else LS.met (fun i=>xs.getD i "") i++[xs.getD i ""])=_
  rw[ih,e,if_neg ni,List.take_add_one,List.getElem?_eq_getElem hl];rfl
theorem Qsf{xs:List Str}(h:Inj xs)(hl:xs.length<=1000):Qaf [.lst (xs.map .str)]=.ok (.bl true):=by
 have hu:QwW (.lst (xs.map .str))=.ok (.int (xs.length:Int)):=by
  show(match strsD (xs.map .str) with | some xs=>if decide (xs.length<4000)=true then Out.ok (D.int (QeI xs)) else .stuck | none=>.stuck)=_
  rw[QDS]
  show(if decide (xs.length<4000)=true then Out.ok (D.int (QeI xs)) else .stuck)=_
  rw[if_pos (decide_eq_true (by omega))]
  unfold QeI
  rw[QCB h _ (Nat.le_refl _),List.take_length]
 have hlen:fLen [.lst (xs.map D.str)]=.ok (.int (xs.length:Int)):=by simp[fLen]
 have he:dEq (.int (xs.length:Int)) (.int (xs.length:Int))=.ok (.bl true):=by rw[Qid];simp
 rw[QCg]
 unfold QhM
 (repeat walk_at "e")
theorem QpE{n:Nat}{f:Nat->D}{M:Int}(h1:1<=n)(h2:(n:Int)<=M):Qb0 [rl n f,.int M]=.ok (.bl true):=by
 have hlen:=lenR n f
 have hi:isaT "list" (rl n f)=.ok true:=by simp[isaT,Qc8]
 have g1:decide ((1:Int)<=(n:Int))=true:=decide_eq_true (by omega)
 have g2:decide ((n:Int)<=M)=true:=decide_eq_true h2
 have g3:dLe (.int (n:Int)) (.int M)=.ok (.bl true):=by rw[Qiq,g2]
 rw[QKu]
 unfold QmI
 (repeat walk_at "e")
theorem Qpq(n:Nat):f1 fAll [rl n (fun _=>.bl true)]=.ok (.bl true):=by
 show fAll (.lst ((List.range n).map fun _=>D.bl true))=_
 rw[QlM (fun _=>true)];simp
theorem QsO(n:Nat)(f:Nat->Str):(List.range n).map (fun i=>D.str (f i))=((List.range n).map f).map D.str:=by rw[List.map_map];rfl
theorem QNp{n:Nat}{f:Nat->Str}(h:∀ i j,i<n->j<n->f i=f j->i=j):Inj ((List.range n).map f):=by
 intro i j hi z
 rw[List.length_map,List.length_range]at hi
 rw[List.getElem?_map,List.getElem?_map,List.getElem?_range hi]at z
 by_cases hj:j<n
 ·rw[List.getElem?_range hj]at z
  exact h i j hi hj (Option.some.inj z)
 ·have h1:(List.range n)[j]?=none:=by simp;omega
  rw[h1]at z;cases z
structure Seats(n nd:Nat)(nm dn c:Nat->Str)(t:Nat->List (List Int))(m:Nat->Nat)(ld:Nat->Nat->Int)(st:Nat->Int):Prop where
 n1:1<=n
 n2:n<=60
 d1:1<=nd
 d2:nd<=6
 ck:∀ k,k<n->CK.contains (c k)=true
 tb:∀ k,k<n->Tb (t k) (m k)
 ldr:∀ k j,k<n->j<m k -> -(nd:Int)<=ld k j/\ld k j<(n:Int)
 str:∀ k,k<n->0<=st k/\st k<((t k).length:Int)
 isn:∀ k,k<n->Qa1 [.str (nm k)]=.ok (.bl true)
 isd:∀ d,d<nd->Qa1 [.str (dn d)]=.ok (.bl true)
 inj:∀ i j,i<n->j<n->nm i=nm j->i=j
 injd:∀ i j,i<nd->j<nd->dn i=dn j->i=j
 sep:∀ i d,i<n->d<nd->nm i≠dn d
def nml(nm dn:Nat->Str)(l:Int):Str:=if l<0 then dn (-1 - l).toNat else nm l.toNat
def seatD(nm dn c:Nat->Str)(t:Nat->List (List Int))(m:Nat->Nat)(ld:Nat->Nat->Int)(st:Nat->Int)(k:Nat):D:=
 .tup [.str (nm k),ck (c k) (t k) (m k),rl (m k) (fun j=>.str (nml nm dn (ld k j))),.int (st k)]
theorem ix_t{xs:List D}{d:D}(i:Nat)(h:xs[i]?=some d):dIx (.tup xs) (.int (i:Int))=.ok d:=by
 show optO (atI xs (i:Int))=_
 have hi:i<xs.length:=(List.getElem?_eq_some_iff.mp h).1
 have:atI xs (i:Int)=some d:=by
  unfold atI ixN
  rw[if_pos (by omega),if_pos (by omega)]
  simpa using h
 rw[this];rfl
theorem QLR{c:Str}(hc:CK.contains c=true)(t:List (List Int))(m:Nat):Qej [ck c t m]=.ok (.bl true):=by
 have hm:c∈Qc:=by simpa using hc
 simp only[Qc,List.mem_cons,List.not_mem_nil,or_false]at hm
 have key:∀ c:Str,(c="Deal"∨c="Bundle"∨c="Copy"∨c="Rows")->anyT [[("Deal",true),("Bundle",false),("Copy",false),("Rows",false),("Office",false)],[("Deal",false),("Bundle",true),("Copy",false),("Rows",false),("Office",false)],[("Deal",false),("Bundle",false),("Copy",true),("Rows",false),("Office",false)],[("Deal",false),("Bundle",false),("Copy",false),("Rows",true),("Office",false)]] c=some true:=by
  rintro c (rfl | rfl | rfl | rfl)<;>decide +kernel
 have k:=key c hm
 rw[QIZ]
 unfold QkU
 show(sRet (eIsa (isaTs _) (eVar 0)) [some (.k,.ins c (ckF t m))]>>=retF false)=_
 have hi:isaTs [[("Deal",true),("Bundle",false),("Copy",false),("Rows",false),("Office",false)],[("Deal",false),("Bundle",true),("Copy",false),("Rows",false),("Office",false)],[("Deal",false),("Bundle",false),("Copy",true),("Rows",false),("Office",false)],[("Deal",false),("Bundle",false),("Copy",false),("Rows",true),("Office",false)]] (.ins c (ckF t m))=.ok true:=by
  show(match anyT _ c with | some b=>Out.ok b | none=>Out.stuck)=_
  rw[k]
 (repeat walk_at "e")
theorem QMH{c:Str}(hc:CK.contains c=true){t:List (List Int)}{m:Nat}(h:Tb t m):Qcl [ck c t m]=.ok (.int (m:Int)):=by
 have n1:=h.n1
 have r0:t[0]?=some t[0]:=by simp
 have hix:dIx (tbD t) (.int 0)=.ok (dl t[0]):=ixL 0 (by rw[List.getElem?_map,r0];rfl)
 have hl0:fLen [dl t[0]]=.ok (.int (m:Int)):=by simp[fLen,dl,h.row _ (List.getElem_mem _)]
 have hf:=fld_t hc t m
 rw[QB8]
 unfold Qhn
 (repeat walk_at "e")
theorem QLK{n:Nat}(hn:n<=100)(f:Nat->Str):Qdk [rl n (fun j=>.str (f j)),.int (n:Int)]=.ok (.bl true):=by
 have hlen:=lenR n (fun j=>D.str (f j))
 have hi:isaT "list" (rl n (fun j=>D.str (f j)))=.ok true:=by simp[isaT,Qc8]
 have hc:eComp [none] (itL (eVar 0)) (gN 0) cTrue Qj2 [some (.k,rl n (fun j=>.str (f j))),some (.k,.int (n:Int))]=.ok (rl n (fun _=>.bl true)):=by
  refine QZ (fun j=>D.str (f j)) (fun _=>.bl true) rfl (fun j _=>?_) (by rw[List.length_range];omega)
  have hs:isaT "str" (D.str (f j))=.ok true:=by simp[isaT,Qc8]
  refine Q9 (by walk_at "cap") (by walk_at "s") ?_
  unfold Qj2
  (repeat walk_at "e")
 have he:dEq (.int (n:Int)) (.int (n:Int))=.ok (.bl true):=by rw[Qid];simp
 have ha:=Qpq n
 rw[QEw]
 unfold QiW
 (repeat walk_at "e")
theorem QNg:Qa1 [.str "in"]=.ok (.bl true):=by with_unfolding_all rfl
section
variable{n nd:Nat}{nm dn c:Nat->Str}{t:Nat->List (List Int)}{m:Nat->Nat}{ld:Nat->Nat->Int}{st:Nat->Int}(hs:Seats n nd nm dn c t m ld st)
include hs
theorem QMg:QdC [rl nd (fun d=>.str (dn d)),.int 6]=.ok (.bl true):=by
 have d2:=hs.d2
 have h1:=QpE (n:=nd) (f:=fun d=>.str (dn d)) (M:=6) hs.d1 (by omega)
 have hc:eComp [none] (itL (eVar 0)) (gN 0) cTrue Qkh [some (.k,rl nd (fun d=>.str (dn d))),some (.k,.int 6)]=.ok (rl nd (fun _=>.bl true)):=by
  refine QZ (fun d=>D.str (dn d)) (fun _=>.bl true) rfl (fun d hd=>?_) (by rw[List.length_range];omega)
  have h:=hs.isd d (List.mem_range.mp hd)
  refine Q9 (by walk_at "cap") (by walk_at "s") ?_
  unfold Qkh
  (repeat walk_at "e")
 have ha:=Qpq nd
 have hu:Qaf [rl nd (fun d=>.str (dn d))]=.ok (.bl true):=by
  show Qaf [.lst _]=_
  rw[QsO]
  exact Qsf (QNp hs.injd) (by simp;omega)
 rw[QGA]
 unfold Qi2
 (repeat walk_at "e")
theorem QNB{k:Nat}(hk:k<n):Qfs [seatD nm dn c t m ld st k]=.ok (.bl true):=by
 have tb:=hs.tb k hk
 have hc:=hs.ck k hk
 have m6:=tb.m6
 obtain⟨s0,s1⟩:=hs.str k hk
 have hi:isaT "tuple" (seatD nm dn c t m ld st k)=.ok true:=by simp[isaT,Qc8,seatD]
 have hl:fLen [seatD nm dn c t m ld st k]=.ok (.int 4):=by simp[fLen,seatD]
 have x0:dIx (seatD nm dn c t m ld st k) (.int 0)=.ok (.str (nm k)):=ix_t 0 rfl
 have x1:dIx (seatD nm dn c t m ld st k) (.int 1)=.ok (ck (c k) (t k) (m k)):=ix_t 1 rfl
 have x2:dIx (seatD nm dn c t m ld st k) (.int 2)=.ok (rl (m k) (fun j=>.str (nml nm dn (ld k j)))):=ix_t 2 rfl
 have x3:dIx (seatD nm dn c t m ld st k) (.int 3)=.ok (.int (st k)):=ix_t 3 rfl
 have h0:=hs.isn k hk
 have h1:=QLR hc (t k) (m k)
 have h2:=QLK (n:=m k) (by omega) (fun j=>nml nm dn (ld k j))
 have h3:=QmX (i:=st k) (a:=0) (b:=((t k).length:Int) - 1) s0 (by omega)
 have mo:eMeth Qc "outs" (fun _=>Qcl) (e2 dIx (eVar 0) (eC (.int 1))) aNil [some (.k,seatD nm dn c t m ld st k)]=.ok (.int (m k:Int)):=by
  rw[Qfx (c:=c k) (t:=t k) (m:=m k) hc (xs:=[]) (by (repeat walk_at "e")) rfl (dk) (dk)]
  exact QMH hc tb
 have mp:eMeth Qc "period" (fun _=>QM) (e2 dIx (eVar 0) (eC (.int 1))) aNil [some (.k,seatD nm dn c t m ld st k)]=.ok (.int ((t k).length:Int)):=by
  rw[Qfx (c:=c k) (t:=t k) (m:=m k) hc (xs:=[]) (by (repeat walk_at "e")) rfl (dk) (dk)]
  exact QmK hc _ _
 have hne:dNe (.int 4) (.int 4)=.ok (.bl false):=by rw[Qh2];rfl
 rw[QJC]
 unfold Qms
 (repeat walk_at "e")
theorem QMy:Qdu [rl n (seatD nm dn c t m ld st),rl nd (fun d=>.str (dn d))]=.ok (.bl true):=by
 have n2:=hs.n2
 have d2:=hs.d2
 have h1:=QpE (n:=n) (f:=seatD nm dn c t m ld st) (M:=60) hs.n1 (by omega)
 have hc:eComp [none] (itL (eVar 0)) (gN 0) cTrue QjN [some (.k,rl n (seatD nm dn c t m ld st)),some (.k,rl nd (fun d=>.str (dn d)))]=.ok (rl n (fun _=>.bl true)):=by
  refine QZ (seatD nm dn c t m ld st) (fun _=>.bl true) rfl (fun k hk=>?_) (by rw[List.length_range];omega)
  have h:=QNB hs (List.mem_range.mp hk)
  refine Q9 (by walk_at "cap") (by walk_at "s") ?_
  unfold QjN
  (repeat walk_at "e")
 have ha:=Qpq n
 have hn:eComp [none] (itL (eVar 0)) (gN 0) cTrue QjV [some (.k,rl n (seatD nm dn c t m ld st)),some (.k,rl nd (fun d=>.str (dn d)))]=.ok (rl n (fun k=>.str (nm k))):=by
  refine QZ (seatD nm dn c t m ld st) (fun k=>D.str (nm k)) rfl (fun k hk=>?_) (by rw[List.length_range];omega)
  have x0:dIx (seatD nm dn c t m ld st k) (.int 0)=.ok (.str (nm k)):=ix_t 0 rfl
  refine Q9 (by walk_at "cap") (by walk_at "s") ?_
  unfold QjV
  (repeat walk_at "e")
 have hcat:dCat (rl n (fun k=>.str (nm k))) (rl nd (fun d=>.str (dn d)))=.ok (.lst ((((List.range n).map nm)++((List.range nd).map dn)).map .str)):=by
  rw[Qyo (by simp;omega),List.map_append, ← QsO, ← QsO]
 have hu:Qaf [.lst ((((List.range n).map nm)++((List.range nd).map dn)).map .str)]=.ok (.bl true):=by
  refine Qsf ?_ (by simp;omega)
  intro i j hi z
  rw[List.length_append,List.length_map,List.length_map,List.length_range,List.length_range]at hi
  have at':∀ i,(((List.range n).map nm)++((List.range nd).map dn))[i]?=if i<n then some (nm i) else if i - n<nd then some (dn (i - n)) else none:=fun i=>by
   rw[List.getElem?_append,List.length_map,List.length_range]
   split
   ·rw[List.getElem?_map,List.getElem?_range (by assumption)];rfl
   ·split
    ·rw[List.getElem?_map,List.getElem?_range (by assumption)];rfl
    ·simp;omega
  rw[at',at']at z
  by_cases a:i<n
  ·rw[if_pos a]at z
   by_cases b:j<n
   ·rw[if_pos b]at z;exact hs.inj i j a b (Option.some.inj z)
   ·rw[if_neg b]at z
    by_cases d:j - n<nd
    ·rw[if_pos d]at z;exact absurd (Option.some.inj z) (hs.sep i _ a d)
    ·rw[if_neg d]at z;cases z
  ·rw[if_neg a,if_pos (show i - n<nd by omega)]at z
   by_cases b:j<n
   ·rw[if_pos b]at z;exact absurd (Option.some.inj z).symm (hs.sep j _ b (by omega))
   ·rw[if_neg b]at z
    by_cases d:j - n<nd
    ·rw[if_pos d]at z
     have:=hs.injd _ _ (by omega) d (Option.some.inj z)
     omega
    ·rw[if_neg d]at z;cases z
 rw[QGD]
 unfold QiJ
 (repeat walk_at "e")
theorem QLI:dInL (.str (nm 0)) (rl n (fun k=>.str (nm k)))=.ok (.bl true):=by
 have n1:=hs.n1
 show(if (_&&((List.range n).map fun k=>D.str (nm k)).all D.scal)=true then Out.ok (D.bl (inV _ _)) else _)=_
 rw[if_pos (by rw[Bool.and_eq_true];exact⟨rfl,allR fun i _=>rfl⟩)]
 have:inV (toV (.str (nm 0))) (((List.range n).map fun k=>D.str (nm k)).map toV)=true:=by
  unfold inV
  rw[List.any_eq_true]
  refine⟨V.str (nm 0),?_,by show(nm 0 == nm 0)=true;exact beq_self_eq_true _⟩
  rw[List.map_map,List.mem_map]
  exact⟨0,List.mem_range.mpr (by omega),rfl⟩
 rw[this]
theorem QH0:Qcr [.lst [.tup [.str "in",.str (nm 0)]],rl n (fun k=>.str (nm k))]=.ok (.bl true):=by
 have n1:=hs.n1
 have hin:=QNg
 have h0:=hs.isn 0 (by omega)
 have hL:=QLI hs
 have e1':Qer [.tup [.str "in",.str (nm 0)],rl n (fun k=>.str (nm k))]=.ok (.bl true):=by
  have hi:isaT "tuple" (.tup [.str "in",.str (nm 0)])=.ok true:=by simp[isaT,Qc8]
  have hl:fLen [.tup [.str "in",.str (nm 0)]]=.ok (.int 2):=by simp[fLen]
  have x0:dIx (.tup [.str "in",.str (nm 0)]) (.int 0)=.ok (.str "in"):=ix_t 0 rfl
  have x1:dIx (.tup [.str "in",.str (nm 0)]) (.int 1)=.ok (.str (nm 0)):=ix_t 1 rfl
  have hne:dNe (.int 2) (.int 2)=.ok (.bl false):=by rw[Qh2];rfl
  rw[QIF]
  unfold QkI
  (repeat walk_at "e")
 have h1:Qb0 [.lst [.tup [.str "in",.str (nm 0)]],.int 6]=.ok (.bl true):=QpE (n:=1) (f:=fun _=>.tup [.str "in",.str (nm 0)]) (M:=6) (by decide) (by decide)
 have hc:eComp [none,some 1] (itL (eVar 0)) (gN 0) cTrue QhR [some (.k,.lst [.tup [.str "in",.str (nm 0)]]),some (.k,rl n (fun k=>.str (nm k)))]=.ok (rl 1 (fun _=>.bl true)):=by
  refine QZ (l:=List.range 1) (fun _=>.tup [.str "in",.str (nm 0)]) (fun _=>.bl true) rfl (fun k hk=>?_) (by simp)
  refine Q9 (by walk_at "cap") (by walk_at "s") ?_
  unfold QhR
  (repeat walk_at "e")
 have ha:=Qpq 1
 have hn:eComp [none] (itL (eVar 0)) (gN 0) cTrue QhO [some (.k,.lst [.tup [.str "in",.str (nm 0)]]),some (.k,rl n (fun k=>.str (nm k)))]=.ok (.lst ([("in":Str)].map .str)):=by
  refine QZ (l:=List.range 1) (fun _=>.tup [.str "in",.str (nm 0)]) (fun _=>.str "in") rfl (fun k hk=>?_) (by simp)
  have x0:dIx (.tup [.str "in",.str (nm 0)]) (.int 0)=.ok (.str "in"):=ix_t 0 rfl
  refine Q9 (by walk_at "cap") (by walk_at "s") ?_
  unfold QhO
  (repeat walk_at "e")
 have hu:Qaf [.lst ([("in":Str)].map .str)]=.ok (.bl true):=Qsf (by
  intro i j hi z
  have hi:i<1:=hi
  have:i=0:=by omega
  subst this
  cases j with
  | zero=>rfl
  | succ j=>simp at z) (by simp)
 rw[QAs]
 unfold Qgu
 (repeat walk_at "e")
end
theorem QKZ{i:Nat}{I E:SD->Out D}{ς ς':SD}{kds:List (Key×D)}{d y:D}{k:Key}(a:E ς=.ok d)(e:ς[i]?=some (some (.o,.dic kds)))(a':I ς=.ok y)(hk:dkey y=some k)(hl:kds.length<=1000)
 (l:ς.set i (some (.o,.dic (putKD kds k d)))=ς'):sPutD i I E ς=.ok (.nx ς'):=by
 unfold sPutD
 rw[a,Out.bind_ok,e]
 show(I ς>>=_)=_
 rw[a',Out.bind_ok,hk]
 show(if _ then _ else _)=_
 rw[if_pos (QG6 hl),l]
theorem QOw{A B:SD->Out D}{ς:SD}{kds:List (Key×D)}{y:D}{k:Key}(a:A ς=.ok (.dic kds))(a':B ς=.ok y)(hk:dkey y=some k):eDget A B ς=.ok ((valD kds k).getD .non):=by
 unfold eDget
 rw[a,Out.bind_ok]
 show(B ς>>=_)=_
 rw[a',Out.bind_ok,hk]
theorem r_dix{A B:SD->Out D}{ς:SD}{kds:List (Key×D)}{y d:D}{k:Key}(a:A ς=.ok (.dic kds))(a':B ς=.ok y)(hk:dkey y=some k)(hv:valD kds k=some d):eDix A B ς=.ok d:=by
 unfold eDix
 rw[a,Out.bind_ok]
 show(B ς>>=_)=_
 rw[a',Out.bind_ok,hk]
 show optO (valD kds k)=_
 rw[hv];rfl
theorem QHd{kds:List (Key×D)}{k:Key}{d:D}(h:∀ kv∈kds,kv.1≠k):putKD kds k d=kds++[(k,d)]:=by
 unfold putKD
 rw[if_neg]
 intro z
 obtain⟨kv,hk,e⟩:=List.any_eq_true.mp z
 exact h kv hk (of_decide_eq_true e)
theorem Qw7{k:Key}{d:D}:∀{kds:List (Key×D)}(i:Nat),kds[i]?=some (k,d)->(∀ j kv,j<i->kds[j]?=some kv->kv.1≠k)->valD kds k=some d
 | [],i,h,_=>by simp at h
 | kv::kds,0,h,_=>by
  simp at h
  subst h
  simp[valD]
 | kv::kds,i+1,h,hn=>by
  have h0:=hn 0 kv (by omega) rfl
  have:valD (kv::kds) k=valD kds k:=by simp[valD,List.find?_cons,h0]
  rw[this]
  exact Qw7 i (by simpa using h) fun j kv' hj he=>hn (j+1) kv' (by omega) (by simpa using he)
theorem enumR(n:Nat)(f:Nat->D):enumD 0 ((List.range n).map f)=(List.range n).map fun i:Nat=>D.tup [.int (i:Int),f i]:=by
 apply List.ext_getElem?
 intro i
 rw[Qr7,Nat.zero_add]
 by_cases hi:i<n
 ·have r1:((List.range n).map fun i:Nat=>D.tup [.int (i:Int),f i])[i]?=some (D.tup [.int (i:Int),f i]):=atR hi
  rw[atR hi,r1];rfl
 ·have h1:((List.range n).map f)[i]?=none:=by simp;omega
  have h2:((List.range n).map fun i:Nat=>D.tup [.int (i:Int),f i])[i]?=none:=by simp;omega
  rw[h1,h2];rfl
def plc(n nd:Nat)(nm dn:Nat->Str):List (Key×D):=((List.range n).map fun i:Nat=>((.inr (nm i):Key),D.int (i:Int)))++((List.range nd).map fun i:Nat=>((.inr (dn i):Key),D.int (-1 - (i:Int))))
theorem QvD(n nd:Nat)(nm dn:Nat->Str)(i:Nat):(plc n nd nm dn)[i]?=if i<n then some (.inr (nm i),.int (i:Int)) else if i - n<nd then some (.inr (dn (i - n)),.int (-1 - ((i - n:Nat):Int))) else none:=by
 unfold plc
 rw[List.getElem?_append,List.length_map,List.length_range]
 split
 ·rw[List.getElem?_map,List.getElem?_range (by assumption)];rfl
 ·split
  ·rw[List.getElem?_map,List.getElem?_range (by assumption)];rfl
  ·simp;omega
section
variable{n nd:Nat}{nm dn c:Nat->Str}{t:Nat->List (List Int)}{m:Nat->Nat}{ld:Nat->Nat->Int}{st:Nat->Int}(hs:Seats n nd nm dn c t m ld st)
include hs
theorem plc_c{i:Nat}(hi:i<n):valD (plc n nd nm dn) (.inr (nm i))=some (.int (i:Int)):=by
 refine Qw7 i (by rw[QvD,if_pos hi]) fun j kv hj he=>?_
 rw[QvD,if_pos (by omega)]at he
 cases he
 intro z
 have:=hs.inj j i (by omega) hi (Sum.inr.inj z)
 omega
theorem plc_d{d:Nat}(hd:d<nd):valD (plc n nd nm dn) (.inr (dn d))=some (.int (-1 - (d:Int))):=by
 refine Qw7 (n+d) (by rw[QvD,if_neg (by omega),if_pos (by omega),show n+d - n=d by omega]) fun j kv hj he=>?_
 rw[QvD]at he
 by_cases a:j<n
 ·rw[if_pos a]at he
  cases he
  intro z
  exact hs.sep j d a hd (Sum.inr.inj z)
 ·rw[if_neg a,if_pos (by omega)]at he
  cases he
  intro z
  have:=hs.injd _ _ (by omega) hd (Sum.inr.inj z)
  omega
theorem QKO:Qdq [rl n (fun k=>.str (nm k)),rl nd (fun d=>.str (dn d))]=.ok (.dic (plc n nd nm dn)):=by
 have n2:=hs.n2
 have d2:=hs.d2
 obtain⟨ς1,hL1,a3,a4,rfl⟩:=Qiz (body:=fun x ς=>gT [3,4] x ς>>=fun ς'=>QgB ς') (f:=fun i:Nat=>D.tup [.int (i:Int),.str (nm i)]) (n:=n)
  (P:=fun k ς=>∃(a3 a4:Option (SM×D)),ς=[some (.k,rl n (fun k=>.str (nm k))),some (.k,rl nd (fun d=>.str (dn d))),some (.o,.dic (plc k 0 nm dn)),a3,a4,none,none])
  (by
   rintro k hk ς ⟨a3,a4,rfl⟩
   refine⟨[some (.k,rl n (fun k=>.str (nm k))),some (.k,rl nd (fun d=>.str (dn d))),some (.o,.dic (plc (k+1) 0 nm dn)),some (.k,.int (k:Int)),some (.k,.str (nm k)),none,none],?_,_,_,rfl⟩
   have e:plc (k+1) 0 nm dn=putKD (plc k 0 nm dn) (.inr (nm k)) (.int (k:Int)):=by
    rw[QHd]
    ·show((List.range (k+1)).map _)++[]=((List.range k).map _++[])++[_]
     rw[List.append_nil,List.append_nil,List.range_succ,List.map_append];rfl
    ·intro kv hkv
     have hkv:kv∈((List.range k).map fun i:Nat=>((.inr (nm i):Key),D.int (i:Int)))++[]:=hkv
     rw[List.append_nil]at hkv
     obtain⟨i,hi,rfl⟩:=List.mem_map.mp hkv
     have hi:=List.mem_range.mp hi
     intro z
     have:=hs.inj i k (by omega) hk (Sum.inr.inj z)
     omega
   rw[e]
   refine r_gT (by walk_at "all") ?_
   unfold QgB
   exact QKZ (d:=.int (k:Int)) (y:=.str (nm k)) (k:=.inr (nm k)) (by (repeat walk_at "e")) rfl (by (repeat walk_at "e")) rfl (by unfold plc;simp;omega) rfl)
  [some (.k,rl n (fun k=>.str (nm k))),some (.k,rl nd (fun d=>.str (dn d))),some (.o,.dic []),none,none,none,none] ⟨_,_,rfl⟩
 obtain⟨ς2,hL2,a5,a6,rfl⟩:=Qiz (body:=fun x ς=>gT [5,6] x ς>>=fun ς'=>QgF ς') (f:=fun i:Nat=>D.tup [.int (i:Int),.str (dn i)]) (n:=nd)
  (P:=fun k ς=>∃(a5 a6:Option (SM×D)),ς=[some (.k,rl n (fun k=>.str (nm k))),some (.k,rl nd (fun d=>.str (dn d))),some (.o,.dic (plc n k nm dn)),a3,a4,a5,a6])
  (by
   rintro k hk ς ⟨a5,a6,rfl⟩
   refine⟨[some (.k,rl n (fun k=>.str (nm k))),some (.k,rl nd (fun d=>.str (dn d))),some (.o,.dic (plc n (k+1) nm dn)),a3,a4,some (.k,.int (k:Int)),some (.k,.str (dn k))],?_,_,_,rfl⟩
   have e:plc n (k+1) nm dn=putKD (plc n k nm dn) (.inr (dn k)) (.int (-1 - (k:Int))):=by
    rw[QHd]
    ·unfold plc
     rw[List.range_succ,List.map_append,List.append_assoc];rfl
    ·intro kv hkv
     rcases List.mem_append.mp hkv with w | w
     ·obtain⟨i,hi,rfl⟩:=List.mem_map.mp w
      intro z
      exact hs.sep i k (List.mem_range.mp hi) hk (Sum.inr.inj z)
     ·obtain⟨i,hi,rfl⟩:=List.mem_map.mp w
      have hi:=List.mem_range.mp hi
      intro z
      have:=hs.injd i k (by omega) hk (Sum.inr.inj z)
      omega
   rw[e]
   refine r_gT (by walk_at "all") ?_
   unfold QgF
   exact QKZ (d:=.int (-1 - (k:Int))) (y:=.str (dn k)) (k:=.inr (dn k)) (by (repeat walk_at "e")) rfl (by (repeat walk_at "e")) rfl (by unfold plc;simp;omega) rfl)
  [some (.k,rl n (fun k=>.str (nm k))),some (.k,rl nd (fun d=>.str (dn d))),some (.o,.dic (plc n 0 nm dn)),a3,a4,none,none] ⟨_,_,rfl⟩
 have hi1:itE (eVar 0) [some (.k,rl n (fun k=>.str (nm k))),some (.k,rl nd (fun d=>.str (dn d))),some (.o,.dic []),none,none,none,none]=.ok ((List.range n).map fun i:Nat=>D.tup [.int (i:Int),.str (nm i)]):=by rw[← enumR];rfl
 have hi2:itE (eVar 1) [some (.k,rl n (fun k=>.str (nm k))),some (.k,rl nd (fun d=>.str (dn d))),some (.o,.dic (plc n 0 nm dn)),a3,a4,none,none]=.ok ((List.range nd).map fun i:Nat=>D.tup [.int (i:Int),.str (dn i)]):=by rw[← enumR];rfl
 have f1':=Qbk (g:=gT [3,4]) (T:=QgB) hi1 hL1
 have f2':=Qbk (g:=gT [5,6]) (T:=QgF) hi2 hL2
 have s0:sSetO 2 eDic0 [some (.k,rl n (fun k=>.str (nm k))),some (.k,rl nd (fun d=>.str (dn d))),none,none,none,none,none]=.ok (.nx [some (.k,rl n (fun k=>.str (nm k))),some (.k,rl nd (fun d=>.str (dn d))),some (.o,.dic []),none,none,none,none]):=rfl
 rw[QE9]
 unfold Qi5
 (repeat walk_at "e")
theorem QLP{k:Nat}(hk:k<n):Qet [seatD nm dn c t m ld st k,.dic (plc n nd nm dn)]=.ok (rl (m k) (fun j=>.int (ld k j))):=by
 have m6:=(hs.tb k hk).m6
 have x2:dIx (seatD nm dn c t m ld st k) (.int 2)=.ok (rl (m k) (fun j=>.str (nml nm dn (ld k j)))):=ix_t 2 rfl
 have hc:eComp [none,some 1] (itL (e2 dIx (eVar 0) (eC (.int 2)))) (gN 0) cTrue Ql2 [some (.k,seatD nm dn c t m ld st k),some (.k,.dic (plc n nd nm dn))]=.ok (rl (m k) (fun j=>.int (ld k j))):=by
  refine QZ (fun j=>D.str (nml nm dn (ld k j))) (fun j=>D.int (ld k j)) (by (repeat walk_at "e")) (fun j hj=>?_) (by rw[List.length_range];omega)
  obtain⟨l1,l2⟩:=hs.ldr k j hk (List.mem_range.mp hj)
  refine Q9 (by walk_at "cap") (by walk_at "s") ?_
  unfold Ql2
  have hv:valD (plc n nd nm dn) (.inr (nml nm dn (ld k j)))=some (.int (ld k j)):=by
   unfold nml
   by_cases h:ld k j<0
   ·rw[if_pos h,plc_d hs (show(-1 - ld k j).toNat<nd by omega)]
    congr 2;omega
   ·rw[if_neg h,plc_c hs (show(ld k j).toNat<n by omega)]
    congr 2;omega
  rw[QOw (kds:=plc n nd nm dn) (y:=.str (nml nm dn (ld k j))) (k:=.inr (nml nm dn (ld k j))) (by (repeat walk_at "e")) (by (repeat walk_at "e")) rfl,hv];rfl
 rw[QIR]
 unfold Qk7
 (repeat walk_at "e")
end
theorem QGY{f:Str}{d:D}:∀{fs:List (Str×D)},(fs.map Prod.fst).contains f=false->putD f d fs=fs++[(f,d)]
 | [],_=>rfl
 | (g,x)::fs,h=>by
  rw[List.map_cons,List.contains_cons,Bool.or_eq_false_iff]at h
  have ne:¬ g=f:=fun z=>by subst z;simp at h
  show(if g=f then _ else(g,x)::putD f d fs)=_
  rw[if_neg ne,QGY h.2];rfl
theorem QoV{cs:List Str}{f c:Str}{i:Nat}{E:SD->Out D}{ς ς':SD}{d:D}{fds:List (Str×D)}(a:E ς=.ok d)(e:ς[i]?=some (some (.s,.ins c fds)))(hc:cs.contains c=true)(hl:fds.length<=900)(hf:(fds.map Prod.fst).contains f=false)
 (l:ς.set i (some (.s,.ins c (fds++[(f,d)])))=ς'):sFldS cs f i E ς=.ok (.nx ς'):=by
 unfold sFldS
 rw[a,Out.bind_ok,e]
 show(if (cs.contains c&&decide (fds.length<1000))=true then _ else _)=_
 rw[if_pos (by rw[hc,Bool.true_and];exact decide_eq_true (by omega)),QGY hf,l]
section
variable(n nd:Nat)(nm dn c:Nat->Str)(t:Nat->List (List Int))(m:Nat->Nat)(ld:Nat->Nat->Int)(st:Nat->Int)
def offF:List (Str×D):=[("clerk_names",rl n (fun k=>.str (nm k))),("door_names",rl nd (fun d=>.str (dn d))),("entry_places",.lst [.tup [.str "in",.int 0]]),("staff",rl n (fun k=>ck (c k) (t k) (m k))),("first_states",rl n (fun k=>.int (st k))),("ways",rl n (fun k=>rl (m k) (fun j=>.int (ld k j))))]
def offD:D:=.ins "Office" (offF n nd nm dn c t m ld st)
end
theorem QGZ:Qj.contains "Office"=true:=dk
section
variable{n nd:Nat}{nm dn c:Nat->Str}{t:Nat->List (List Int)}{m:Nat->Nat}{ld:Nat->Nat->Int}{st:Nat->Int}(hs:Seats n nd nm dn c t m ld st)
include hs
theorem QNh{k:Nat}(hk:k<n):dInL .non (rl (m k) (fun j=>.int (ld k j)))=.ok (.bl false):=by
 show(if (_&&((List.range (m k)).map fun j=>D.int (ld k j)).all D.scal)=true then Out.ok (D.bl (inV _ _)) else _)=_
 rw[if_pos (by rw[Bool.and_eq_true];exact⟨rfl,allR fun i _=>rfl⟩)]
 have:inV (toV .non) (((List.range (m k)).map fun j=>D.int (ld k j)).map toV)=false:=by
  unfold inV
  rw[List.any_eq_false]
  intro v hv
  rw[List.map_map]at hv
  obtain⟨j,_,rfl⟩:=List.mem_map.mp hv
  simp[toV,eqV]
 rw[this]
theorem QK1:Qb2 "Office" [] [rl n (seatD nm dn c t m ld st),.lst [.tup [.str "in",.str (nm 0)]],rl nd (fun d=>.str (dn d))]=.ok (offF n nd nm dn c t m ld st):=by
 have n1:=hs.n1
 have n2:=hs.n2
 have d2:=hs.d2
 have h1:=QMg hs
 have h2:=QMy hs
 have h3:=QH0 hs
 have h4:=QKO hs
 have p0:=plc_c hs (i:=0) (by omega)
 have oc:=QGZ
 generalize hS:rl n (seatD nm dn c t m ld st)=S at *
 generalize hE:D.lst [.tup [.str "in",.str (nm 0)]]=E at *
 generalize hDo:rl nd (fun d=>.str (dn d))=Do at *
 generalize hN:rl n (fun k=>.str (nm k))=N at *
 generalize hP:D.dic (plc n nd nm dn)=P at *
 generalize hW:rl n (fun k=>rl (m k) (fun j=>.int (ld k j)))=W
 have q0:eComp [none] (itL (eVar 1)) (gN 0) cTrue Qhd [some (.s,.ins "Office" []),some (.k,S),some (.k,E),some (.k,Do),none,none,none]=.ok N:=by
  subst hS;subst hN
  refine QZ (seatD nm dn c t m ld st) (fun k=>D.str (nm k)) rfl (fun k hk=>?_) (by rw[List.length_range];omega)
  have x0:dIx (seatD nm dn c t m ld st k) (.int 0)=.ok (.str (nm k)):=ix_t 0 rfl
  refine Q9 (τ0:=[none]) (Qjm c_nil) (by walk_at "s") ?_
  unfold Qhd
  (repeat walk_at "e")
 have q1:eComp [none,some 5] (itL (eVar 1)) (gN 0) cTrue QhN [some (.s,.ins "Office" []),some (.k,S),some (.k,E),some (.k,Do),some (.k,N),some (.k,P),none]=.ok W:=by
  subst hS;subst hW;subst hP
  refine QZ (seatD nm dn c t m ld st) (fun k=>rl (m k) (fun j=>.int (ld k j))) rfl (fun k hk=>?_) (by rw[List.length_range];omega)
  have hl:=QLP hs (List.mem_range.mp hk)
  refine Q9 (τ0:=[none,some (.k,.dic (plc n nd nm dn))]) (Qjm (c_k rfl c_nil)) (by walk_at "s") ?_
  unfold QhN
  (repeat walk_at "e")
 have q2:eComp [none] (itL (eVar 6)) (gN 0) cTrue QhL [some (.s,.ins "Office" []),some (.k,S),some (.k,E),some (.k,Do),some (.k,N),some (.k,P),some (.k,W)]=.ok (rl n (fun _=>.bl false)):=by
  subst hW
  refine QZ (fun k=>rl (m k) (fun j=>.int (ld k j))) (fun _=>D.bl false) rfl (fun k hk=>?_) (by rw[List.length_range];omega)
  have hl:=QNh hs (List.mem_range.mp hk)
  refine Q9 (τ0:=[none]) (Qjm c_nil) (by walk_at "s") ?_
  unfold QhL
  (repeat walk_at "e")
 have ha:f1 fAny [rl n (fun _=>.bl false)]=.ok (.bl false):=by
  show fAny (.lst ((List.range n).map fun _=>D.bl false))=_
  rw[QEp (fun _=>false)];simp
 have q3:∀ F:List (Str×D),eComp [none,some 5] (itL (eVar 2)) (gN 0) cTrue Qe4 [some (.s,.ins "Office" F),some (.k,S),some (.k,E),some (.k,Do),some (.k,N),some (.k,P),some (.k,W)]=.ok (.lst [.tup [.str "in",.int 0]]):=fun F=>by
  subst hE;subst hP
  refine QZ (l:=List.range 1) (fun _=>.tup [.str "in",.str (nm 0)]) (fun _=>D.tup [.str "in",.int 0]) rfl (fun k hk=>?_) (by simp)
  have x0:dIx (.tup [.str "in",.str (nm 0)]) (.int 0)=.ok (.str "in"):=ix_t 0 rfl
  have x1:dIx (.tup [.str "in",.str (nm 0)]) (.int 1)=.ok (.str (nm 0)):=ix_t 1 rfl
  refine Q9 (τ0:=[none,some (.k,.dic (plc n nd nm dn))]) (Qjm (c_k rfl c_nil)) (by walk_at "s") ?_
  unfold Qe4
  have hd:eDix (eVar 1) (e2 dIx (eVar 0) (eC (.int 1))) [some (.k,.tup [.str "in",.str (nm 0)]),some (.k,.dic (plc n nd nm dn))]=.ok (.int 0):=r_dix (kds:=plc n nd nm dn) (y:=.str (nm 0)) (k:=.inr (nm 0)) (by (repeat walk_at "e")) (by (repeat walk_at "e")) rfl p0
  (repeat walk_at "e")
 have q4:∀ F:List (Str×D),eComp [none] (itL (eVar 1)) (gN 0) cTrue Qe2 [some (.s,.ins "Office" F),some (.k,S),some (.k,E),some (.k,Do),some (.k,N),some (.k,P),some (.k,W)]=.ok (rl n (fun k=>ck (c k) (t k) (m k))):=fun F=>by
  subst hS
  refine QZ (seatD nm dn c t m ld st) (fun k=>ck (c k) (t k) (m k)) rfl (fun k hk=>?_) (by rw[List.length_range];omega)
  have x0:dIx (seatD nm dn c t m ld st k) (.int 1)=.ok (ck (c k) (t k) (m k)):=ix_t 1 rfl
  refine Q9 (τ0:=[none]) (Qjm c_nil) (by walk_at "s") ?_
  unfold Qe2
  (repeat walk_at "e")
 have q5:∀ F:List (Str×D),eComp [none] (itL (eVar 1)) (gN 0) cTrue Qe6 [some (.s,.ins "Office" F),some (.k,S),some (.k,E),some (.k,Do),some (.k,N),some (.k,P),some (.k,W)]=.ok (rl n (fun k=>.int (st k))):=fun F=>by
  subst hS
  refine QZ (seatD nm dn c t m ld st) (fun k=>D.int (st k)) rfl (fun k hk=>?_) (by rw[List.length_range];omega)
  have x0:dIx (seatD nm dn c t m ld st k) (.int 3)=.ok (.int (st k)):=ix_t 3 rfl
  refine Q9 (τ0:=[none]) (Qjm c_nil) (by walk_at "s") ?_
  unfold Qe6
  (repeat walk_at "e")
 have hdl:dList Do=.ok Do:=by subst hDo;rfl
 let F1:List (Str×D):=[("clerk_names",N)]
 let F2:List (Str×D):=[("clerk_names",N),("door_names",Do)]
 let F3:List (Str×D):=[("clerk_names",N),("door_names",Do),("entry_places",.lst [.tup [.str "in",.int 0]])]
 let F4:List (Str×D):=[("clerk_names",N),("door_names",Do),("entry_places",.lst [.tup [.str "in",.int 0]]),("staff",rl n (fun k=>ck (c k) (t k) (m k)))]
 let F5:List (Str×D):=[("clerk_names",N),("door_names",Do),("entry_places",.lst [.tup [.str "in",.int 0]]),("staff",rl n (fun k=>ck (c k) (t k) (m k))),("first_states",rl n (fun k=>.int (st k)))]
 have s1:sFldS Qj "clerk_names" 0 (eVar 4) [some (.s,.ins "Office" []),some (.k,S),some (.k,E),some (.k,Do),some (.k,N),some (.k,P),some (.k,W)]=.ok (.nx [some (.s,.ins "Office" F1),some (.k,S),some (.k,E),some (.k,Do),some (.k,N),some (.k,P),some (.k,W)]):=
  QoV (d:=N) (by (repeat walk_at "e")) rfl oc (by decide) (by decide) rfl
 have s2:sFldS Qj "door_names" 0 (e1 dList (eVar 3)) [some (.s,.ins "Office" F1),some (.k,S),some (.k,E),some (.k,Do),some (.k,N),some (.k,P),some (.k,W)]=.ok (.nx [some (.s,.ins "Office" F2),some (.k,S),some (.k,E),some (.k,Do),some (.k,N),some (.k,P),some (.k,W)]):=
  QoV (d:=Do) (by (repeat walk_at "e")) rfl oc (Nat.le_of_ble_eq_true rfl) (by show(["clerk_names"]:List Str).contains "door_names"=false;decide +kernel) rfl
 have s3:sFldS Qj "entry_places" 0 (eComp [none,some 5] (itL (eVar 2)) (gN 0) cTrue Qe4) [some (.s,.ins "Office" F2),some (.k,S),some (.k,E),some (.k,Do),some (.k,N),some (.k,P),some (.k,W)]=.ok (.nx [some (.s,.ins "Office" F3),some (.k,S),some (.k,E),some (.k,Do),some (.k,N),some (.k,P),some (.k,W)]):=
  QoV (q3 _) rfl oc (Nat.le_of_ble_eq_true rfl) (by show(["clerk_names","door_names"]:List Str).contains "entry_places"=false;decide +kernel) rfl
 have s4:sFldS Qj "staff" 0 (eComp [none] (itL (eVar 1)) (gN 0) cTrue Qe2) [some (.s,.ins "Office" F3),some (.k,S),some (.k,E),some (.k,Do),some (.k,N),some (.k,P),some (.k,W)]=.ok (.nx [some (.s,.ins "Office" F4),some (.k,S),some (.k,E),some (.k,Do),some (.k,N),some (.k,P),some (.k,W)]):=
  QoV (q4 _) rfl oc (Nat.le_of_ble_eq_true rfl) (by show(["clerk_names","door_names","entry_places"]:List Str).contains "staff"=false;decide +kernel) rfl
 have s5:sFldS Qj "first_states" 0 (eComp [none] (itL (eVar 1)) (gN 0) cTrue Qe6) [some (.s,.ins "Office" F4),some (.k,S),some (.k,E),some (.k,Do),some (.k,N),some (.k,P),some (.k,W)]=.ok (.nx [some (.s,.ins "Office" F5),some (.k,S),some (.k,E),some (.k,Do),some (.k,N),some (.k,P),some (.k,W)]):=
  QoV (q5 _) rfl oc (Nat.le_of_ble_eq_true rfl) (by show(["clerk_names","door_names","entry_places","staff"]:List Str).contains "first_states"=false;decide +kernel) rfl
 have s6:sFldS Qj "ways" 0 (eVar 6) [some (.s,.ins "Office" F5),some (.k,S),some (.k,E),some (.k,Do),some (.k,N),some (.k,P),some (.k,W)]=.ok (.nx [some (.s,.ins "Office" (offF n nd nm dn c t m ld st)),some (.k,S),some (.k,E),some (.k,Do),some (.k,N),some (.k,P),some (.k,W)]):=
  QoV (d:=W) (by (repeat walk_at "e")) rfl oc (Nat.le_of_ble_eq_true rfl) (by show(["clerk_names","door_names","entry_places","staff","first_states"]:List Str).contains "ways"=false;decide +kernel) (by subst hN;subst hDo;subst hW;rfl)
 have fin:Qfp "Office" (.nx [some (.s,.ins "Office" (offF n nd nm dn c t m ld st)),some (.k,S),some (.k,E),some (.k,Do),some (.k,N),some (.k,P),some (.k,W)])=.ok (offF n nd nm dn c t m ld st):=by
  show(if ("Office":Str)="Office" then Out.ok (offF n nd nm dn c t m ld st) else .stuck)=_
  rw[if_pos rfl]
 rw[QAL]
 unfold QgM
 (repeat walk_at "e")
end
section
variable{n nd:Nat}{nm dn c:Nat->Str}{t:Nat->List (List Int)}{m:Nat->Nat}{ld:Nat->Nat->Int}{st:Nat->Int}
theorem QHi:(offF n nd nm dn c t m ld st).lookup ("staff":Str)=some (rl n (fun k=>ck (c k) (t k) (m k))):=by
 have h1:(("staff":Str) == "clerk_names")=false:=dk
 have h2:(("staff":Str) == "door_names")=false:=dk
 have h3:(("staff":Str) == "entry_places")=false:=dk
 unfold offF
 rw[List.lookup_cons,h1,List.lookup_cons,h2,List.lookup_cons,h3,List.lookup_cons,beq_self_eq_true]
theorem QKp:(offF n nd nm dn c t m ld st).lookup ("ways":Str)=some (rl n (fun k=>rl (m k) (fun j=>.int (ld k j)))):=by
 have h1:(("ways":Str) == "clerk_names")=false:=dk
 have h2:(("ways":Str) == "door_names")=false:=dk
 have h3:(("ways":Str) == "entry_places")=false:=dk
 have h4:(("ways":Str) == "staff")=false:=dk
 have h5:(("ways":Str) == "first_states")=false:=dk
 unfold offF
 rw[List.lookup_cons,h1,List.lookup_cons,h2,List.lookup_cons,h3,List.lookup_cons,h4,List.lookup_cons,h5,List.lookup_cons,beq_self_eq_true]
theorem QK0{x:Str}(h:(["clerk_names","door_names","entry_places","staff","first_states","ways"]:List Str).all (fun y => !(x == y))=true):(offF n nd nm dn c t m ld st).lookup x=none:=by
 simp only[List.all_cons,List.all_nil,Bool.and_eq_true,Bool.not_eq_true',Bool.and_true]at h
 obtain⟨h1,h2,h3,h4,h5,h6⟩:=h
 unfold offF
 rw[List.lookup_cons,h1,List.lookup_cons,h2,List.lookup_cons,h3,List.lookup_cons,h4,List.lookup_cons,h5,List.lookup_cons,h6];rfl
theorem fld_o{x:Str}{d:D}(h:(offF n nd nm dn c t m ld st).lookup x=some d):dFld Qj x (offD n nd nm dn c t m ld st)=.ok d:=by
 show(if Qj.contains "Office"=true then optO ((offF n nd nm dn c t m ld st).lookup x) else .stuck)=_
 rw[if_pos QGZ,h];rfl
theorem Qix{x:Str}{mt:Str->List D->Out D}{O:SD->Out D}{A:SD->Out (List D)}{ς:SD}{xs:List D}(hO:O ς=.ok (offD n nd nm dn c t m ld st))(hA:A ς=.ok xs)
 (h:(["clerk_names","door_names","entry_places","staff","first_states","ways"]:List Str).all (fun y => !(x == y))=true):eMeth QB x mt O A ς=mt "Office" (offD n nd nm dn c t m ld st::xs):=by
 have hc:QB.contains "Office"=true:=dk
 unfold eMeth
 rw[hO,Out.bind_ok]
 show(if (QB.contains "Office"&&((offF n nd nm dn c t m ld st).lookup x).isNone)=true then A ς>>=fun xs=>mt "Office" (.ins "Office" (offF n nd nm dn c t m ld st)::xs) else .stuck)=_
 rw[QK0 h,hc,if_pos (show(true&&(none:Option D).isNone)=true from rfl),hA];rfl
theorem Qzb{k:Nat}(hk:k<n):QaJ [offD n nd nm dn c t m ld st,.int (k:Int)]=.ok (ck (c k) (t k) (m k)):=by
 have h1:=fld_o (QHi (n:=n) (nd:=nd) (nm:=nm) (dn:=dn) (c:=c) (t:=t) (m:=m) (ld:=ld) (st:=st))
 have x1:dIx (rl n (fun k=>ck (c k) (t k) (m k))) (.int (k:Int))=.ok (ck (c k) (t k) (m k)):=ixR hk
 rw[Qyy]
 unfold QfM
 (repeat walk_at "e")
theorem QJN{k:Nat}(hk:k<n):QbF [offD n nd nm dn c t m ld st,.int (k:Int)]=.ok (rl (m k) (fun j=>.int (ld k j))):=by
 have h1:=fld_o (QKp (n:=n) (nd:=nd) (nm:=nm) (dn:=dn) (c:=c) (t:=t) (m:=m) (ld:=ld) (st:=st))
 have x1:dIx (rl n (fun k=>rl (m k) (fun j=>.int (ld k j)))) (.int (k:Int))=.ok (rl (m k) (fun j=>.int (ld k j))):=ixR hk
 have hd:dList (rl (m k) (fun j=>.int (ld k j)))=.ok (rl (m k) (fun j=>.int (ld k j))):=rfl
 rw[Qxn]
 unfold Qfz
 (repeat walk_at "e")
theorem QHp:(offF n nd nm dn c t m ld st).lookup ("clerk_names":Str)=some (rl n (fun k=>.str (nm k))):=by
 unfold offF
 rw[List.lookup_cons,beq_self_eq_true]
theorem QBU:Qav [offD n nd nm dn c t m ld st]=.ok (.int (n:Int)):=by
 have h1:=fld_o (QHp (n:=n) (nd:=nd) (nm:=nm) (dn:=dn) (c:=c) (t:=t) (m:=m) (ld:=ld) (st:=st))
 have hl:=lenR n (fun k=>.str (nm k))
 rw[QAc]
 unfold QgI
 (repeat walk_at "e")
end
def dkt:Nat->(Nat->Int)->(Nat->Int)->Int->Int
 | 0,_,_,_=>0
 | m+1,l,w,x=>dkt m l w x+if l m=x then w m else 0
theorem dk_bd{l w:Nat->Int}{x B:Int}:∀ m:Nat,(∀ j,j<m->0<=w j/\w j<=B)->0<=dkt m l w x/\dkt m l w x<=m * B
 | 0,_=>by show 0<=(0:Int)/\(0:Int)<=((0:Nat):Int) * B;simp
 | m+1,h=>by
  obtain⟨h0,h1⟩:=dk_bd (l:=l) (x:=x) m fun j hj=>h j (by omega)
  obtain⟨w0,w1⟩:=h m (by omega)
  show 0<=dkt m l w x+(if l m=x then w m else 0)/\dkt m l w x+(if l m=x then w m else 0)<=((m+1:Nat):Int) * B
  have e:((m+1:Nat):Int) * B=m * B+B:=by
   rw[show((m+1:Nat):Int)=(m:Int)+1 by omega,Int.add_mul,Int.one_mul]
  rw[e]
  split<;>omega
theorem QM4{js:List (Option Nat)}{its:SD->Out (List D)}{g:D->SD->Out SD}{c:SD->Out Bool}{e:SD->Out D}{ς:SD}{n:Nat}(f:Nat->D)(p:Nat->Bool)(h:Nat->D)(hi:its ς=.ok ((List.range n).map f))(ht:∀ i,i<n->turnC js g c e ς (f i)=.ok (if p i=true then some (h i) else none))(hl:n<=1000):
 eComp js its g c e ς=.ok (.lst (((List.range n).filter p).map h)):=by
 have go:∀ l:List Nat,(∀ x∈l,turnC js g c e ς (f x)=.ok (if p x=true then some (h x) else none))->compM (turnC js g c e ς) (l.map f)=.ok ((l.filter p).map h):=by
  intro l
  induction l with
  | nil=>intro _;rfl
  | cons x xs ih=>
   intro H
   have h1:=H x (List.mem_cons_self ..)
   have h2:=ih fun y hy=>H y (List.mem_cons_of_mem _ hy)
   show compM (turnC js g c e ς) (f x::xs.map f)=_
   unfold compM
   rw[h1,Out.bind_ok,h2,List.filter_cons]
   cases p x<;>rfl
 unfold eComp
 rw[hi,Out.bind_ok,go _ (fun x hx=>ht x (List.mem_range.mp hx)),Out.bind_ok,if_pos (Qia (by
  rw[List.length_map]
  exact Nat.le_trans (List.length_filter_le ..) (by rw[List.length_range];exact hl)))]
theorem QB1{body:D->SD->Out Fl}{f:Nat->D}{good:Nat->Bool}{P:SD->Prop}{n:Nat}(h:∀ k,k<n->∀ ς,P ς->(good k=true/\∃ ς',body (f k) ς=.ok (.nx ς')/\P ς')∨(good k=false/\body (f k) ς=.ok (.rt false (.bl false))))(ς:SD)(p0:P ς):
 ((List.range n).all good=true/\∃ ς',loopD body ((List.range n).map f) ς=.ok (.nx ς')/\P ς')∨((List.range n).all good=false/\loopD body ((List.range n).map f) ς=.ok (.rt false (.bl false))):=by
 have go:∀ m k:Nat,k+m=n->∀ ς,P ς->((List.range' k m).all good=true/\∃ ς',loopD body ((List.range' k m).map f) ς=.ok (.nx ς')/\P ς')∨((List.range' k m).all good=false/\loopD body ((List.range' k m).map f) ς=.ok (.rt false (.bl false))):=by
  intro m
  induction m with
  | zero=>intro k hk ς p;exact .inl ⟨rfl,ς,rfl,p⟩
  | succ m ih=>
   intro k hk ς p
   rw[List.range'_succ,List.map_cons,List.all_cons,loopD]
   rcases h k (by omega) ς p with⟨hg,ς1,e1',p1⟩ | ⟨hg,e1'⟩
   ·rw[e1',hg,Bool.true_and]
    rcases ih (k+1) (by omega) ς1 p1 with⟨h1,ς2,e2',p2⟩ | ⟨h1,e2'⟩
    ·exact .inl ⟨h1,ς2,e2',p2⟩
    ·exact .inr ⟨h1,e2'⟩
   ·rw[e1',hg]
    exact .inr ⟨rfl,rfl⟩
 rw[List.range_eq_range']
 exact go n 0 (by omega) ς p0
theorem r_ifT{P:SD->Out Bool}{T U:SD->Out Fl}{ς:SD}{b:Bool}{rf:Out Fl}(a:P ς=.ok b)(hb:b=true)(k:T ς=rf):sIf P T U ς=rf:=r_if a (QLi hb k)
theorem r_ifF{P:SD->Out Bool}{T U:SD->Out Fl}{ς:SD}{b:Bool}{rf:Out Fl}(a:P ς=.ok b)(hb:b=false)(k:U ς=rf):sIf P T U ς=rf:=r_if a (QJQ hb k)
def pos(nd:Nat)(l:Int):Int:=if l<0 then -1 - l else(nd:Int)+l
theorem Qqf{l l' w w':Nat->Int}{x x':Int}:∀ m:Nat,(∀ j,j<m->(l j=x↔l' j=x')/\w j=w' j)->dkt m l w x=dkt m l' w' x'
 | 0,_=>rfl
 | m+1,h=>by
  obtain⟨h1,h2⟩:=h m (by omega)
  show dkt m l w x+(if l m=x then w m else 0)=dkt m l' w' x'+(if l' m=x' then w' m else 0)
  rw[Qqf m fun j hj=>h j (by omega),h2]
  by_cases e:l m=x
  ·rw[if_pos e,if_pos (h1.mp e)]
  ·rw[if_neg e,if_neg (fun z=>e (h1.mpr z))]
theorem QJk{l w w':Nat->Int}{x:Int}:∀ m:Nat,dkt m l w x+dkt m l w' x=dkt m l (fun j=>w j+w' j) x
 | 0=>rfl
 | m+1=>by
  have ih:=QJk (l:=l) (w:=w) (w':=w') (x:=x) m
  show dkt m l w x+(if l m=x then w m else 0)+(dkt m l w' x+(if l m=x then w' m else 0))=dkt m l (fun j=>w j+w' j) x+(if l m=x then w m+w' m else 0)
  rw[← ih]
  split<;>omega
theorem QGU{l:Nat->Int}{x:Int}:∀ m:Nat,dkt m l (fun _=>0) x=0
 | 0=>rfl
 | m+1=>by
  show dkt m l (fun _=>0) x+(if l m=x then 0 else 0)=0
  rw[QGU m];split<;>rfl
theorem QNc{t:List (List Int)}{r:Nat}(h:r<t.length)(j:Nat):cs t (r+1) j=cs t r j+(t[r]).getD j 0:=by
 unfold cs
 rw[List.take_succ_eq_append_getElem h,List.map_append,List.sum_append]
 simp
theorem QwN{N p:Nat}(hp:p<N)(F:Nat->Int)(c:Int):((List.range N).map fun i=>D.int (F i)).set p (.int (F p+c))=(List.range N).map fun i=>D.int (F i+if (p:Int)=(i:Int) then c else 0):=by
 rw[setR hp]
 apply List.map_congr_left
 intro i _
 by_cases e:i=p
 ·subst e
  rw[if_pos rfl,if_pos rfl]
 ·rw[if_neg e,if_neg (by omega),Int.add_zero]
theorem QKi{r:List Int}{m:Nat}(h:r.length=m):r.map D.int=(List.range m).map fun j=>D.int (r.getD j 0):=by
 apply List.ext_getElem?
 intro i
 rw[List.getElem?_map,List.getElem?_map]
 by_cases hi:i<m
 ·rw[List.getElem?_range hi,List.getElem?_eq_getElem (by omega)]
  simp[List.getD_eq_getElem?_getD,List.getElem?_eq_getElem (show i<r.length by omega)]
 ·rw[List.getElem?_eq_none (by omega),List.getElem?_eq_none (by rw[List.length_range];omega)];rfl
theorem QOZ(t:List (List Int)):t.map dl=(List.range t.length).map fun r=>dl (t.getD r []):=by
 apply List.ext_getElem?
 intro i
 rw[List.getElem?_map,List.getElem?_map]
 by_cases hi:i<t.length
 ·rw[List.getElem?_range hi,List.getElem?_eq_getElem hi]
  simp[List.getD_eq_getElem?_getD,List.getElem?_eq_getElem hi]
 ·rw[List.getElem?_eq_none (by omega),List.getElem?_eq_none (by rw[List.length_range];omega)];rfl
section
variable{a0 a1 a2 a3 a5 a6:Option (SM×D)}{nd N m:Nat}{l:Nat->Int}
theorem QLF{w:Nat->Int}{F:Nat->Int}(hl:∀ j,j<m->0<=pos nd (l j)/\pos nd (l j)<(N:Int))(a9 a10 a11:Option (SM×D)):
 ∃ a10' a11',loopD (fun x ς=>gT [10,11] x ς>>=fun ς'=>Qgv ς') ((List.range m).map fun j=>D.tup [.int (w j),.int (l j)]) [a0,a1,a2,a3,some (.k,.int (nd:Int)),a5,a6,some (.k,rl m (fun j=>.int (l j))),some (.o,rl N (fun i=>.int (F i))),a9,a10,a11]=
  .ok (.nx [a0,a1,a2,a3,some (.k,.int (nd:Int)),a5,a6,some (.k,rl m (fun j=>.int (l j))),some (.o,rl N (fun i=>.int (F i+dkt m (fun j=>pos nd (l j)) w (i:Int)))),a9,a10',a11']):=by
 generalize rl m (fun j=>D.int (l j))=Nu
 obtain⟨ς',hL,a10',a11',rfl⟩:=Qiz (body:=fun x ς=>gT [10,11] x ς>>=fun ς'=>Qgv ς') (f:=fun j=>D.tup [.int (w j),.int (l j)]) (n:=m)
  (P:=fun j ς=>∃ a10 a11,ς=[a0,a1,a2,a3,some (.k,.int (nd:Int)),a5,a6,some (.k,Nu),some (.o,rl N (fun i=>.int (F i+dkt j (fun j=>pos nd (l j)) w (i:Int)))),a9,a10,a11])
  (by
   rintro j hj ς ⟨a10,a11,rfl⟩
   obtain⟨p0,p1⟩:=hl j hj
   obtain⟨p,hp⟩:∃ p:Nat,pos nd (l j)=(p:Int):=⟨(pos nd (l j)).toNat,by omega⟩
   have hpN:p<N:=by omega
   have hx:dIx (rl N (fun i=>.int (F i+dkt j (fun j=>pos nd (l j)) w (i:Int)))) (.int (p:Int))=.ok (.int (F p+dkt j (fun j=>pos nd (l j)) w (p:Int))):=ixR hpN
   have hn:=ixNR hpN (fun i=>D.int (F i+dkt j (fun j=>pos nd (l j)) w (i:Int)))
   have hset:((List.range N).map fun i:Nat=>D.int (F i+dkt j (fun j=>pos nd (l j)) w (i:Int))).set p (.int (F p+dkt j (fun j=>pos nd (l j)) w (p:Int)+w j))=(List.range N).map fun i:Nat=>D.int (F i+dkt (j+1) (fun j=>pos nd (l j)) w (i:Int)):=by
    rw[QwN hpN (fun i=>F i+dkt j (fun j=>pos nd (l j)) w (i:Int)) (w j)]
    apply List.map_congr_left
    intro i _
    show D.int (F i+dkt j (fun j=>pos nd (l j)) w (i:Int)+(if (p:Int)=(i:Int) then w j else 0))=D.int (F i+(dkt j (fun j=>pos nd (l j)) w (i:Int)+if pos nd (l j)=(i:Int) then w j else 0))
    rw[hp,Int.add_assoc]
   refine⟨[a0,a1,a2,a3,some (.k,.int (nd:Int)),a5,a6,some (.k,Nu),some (.o,rl N (fun i=>.int (F i+dkt (j+1) (fun j=>pos nd (l j)) w (i:Int)))),a9,some (.k,.int (w j)),some (.k,.int (l j))],?_,_,_,rfl⟩
   refine r_gT (by walk_at "all") ?_
   unfold Qgv
   by_cases h:l j<0
   ·have e:pos nd (l j) = -1 - l j:=by unfold pos;rw[if_pos h]
    rw[hp]at e
    refine r_ifT (by (repeat walk_at "e")) (decide_eq_true h) ?_
    have hi:e2 dSub (e1 dNeg (eC (.int 1))) (eVar 11) [a0,a1,a2,a3,some (.k,.int (nd:Int)),a5,a6,some (.k,Nu),some (.o,rl N (fun i=>.int (F i+dkt j (fun j=>pos nd (l j)) w (i:Int)))),a9,some (.k,.int (w j)),some (.k,.int (l j))]=.ok (.int (p:Int)):=by
     rw[e];(repeat walk_at "e")
    exact r_put (k:=(p:Int)) (j:=p) (r_e2 (r_e2 (Qgs rfl) hi hx) (r_var rfl) (Qbv _ _)) rfl hi hn (by rw[hset];walk_at "s")
   ·have e:pos nd (l j)=(nd:Int)+l j:=by unfold pos;rw[if_neg h]
    rw[hp]at e
    refine r_ifF (by (repeat walk_at "e")) (decide_eq_false h) ?_
    have hi:e2 dAdd (eVar 4) (eVar 11) [a0,a1,a2,a3,some (.k,.int (nd:Int)),a5,a6,some (.k,Nu),some (.o,rl N (fun i=>.int (F i+dkt j (fun j=>pos nd (l j)) w (i:Int)))),a9,some (.k,.int (w j)),some (.k,.int (l j))]=.ok (.int (p:Int)):=by
     rw[e];(repeat walk_at "e")
    exact r_put (k:=(p:Int)) (j:=p) (r_e2 (r_e2 (Qgs rfl) hi hx) (r_var rfl) (Qbv _ _)) rfl hi hn (by rw[hset];walk_at "s"))
  [a0,a1,a2,a3,some (.k,.int (nd:Int)),a5,a6,some (.k,Nu),some (.o,rl N (fun i=>.int (F i))),a9,a10,a11] ⟨a10,a11,by
   have:rl N (fun i=>D.int (F i))=rl N (fun i=>D.int (F i+dkt 0 (fun j=>pos nd (l j)) w (i:Int))):=Qcc fun i _=>by show D.int (F i)=D.int (F i+0);rw[Int.add_zero]
   rw[this]⟩
 exact⟨a10',a11',hL⟩
theorem QJO{t:List (List Int)}(htb:∀ r∈t,r.length=m)(hl:∀ j,j<m->0<=pos nd (l j)/\pos nd (l j)<(N:Int))(a9 a10 a11:Option (SM×D)):
 ∃ a9' a10' a11',sFor (gN 9) (itL (eVar 6)) QgH [a0,a1,a2,a3,some (.k,.int (nd:Int)),a5,some (.k,tbD t),some (.k,rl m (fun j=>.int (l j))),some (.o,rl N (fun _=>.int 0)),a9,a10,a11]=
  .ok (.nx [a0,a1,a2,a3,some (.k,.int (nd:Int)),a5,some (.k,tbD t),some (.k,rl m (fun j=>.int (l j))),some (.o,rl N (fun i=>.int (dkt m (fun j=>pos nd (l j)) (cs t t.length) (i:Int)))),a9',a10',a11']):=by
 obtain⟨ς',hL,a9',a10',a11',rfl⟩:=Qiz (body:=fun x ς=>gN 9 x ς>>=fun ς'=>QgH ς') (f:=fun r=>dl (t.getD r [])) (n:=t.length)
  (P:=fun r ς=>∃ a9 a10 a11,ς=[a0,a1,a2,a3,some (.k,.int (nd:Int)),a5,some (.k,tbD t),some (.k,rl m (fun j=>.int (l j))),some (.o,rl N (fun i=>.int (dkt m (fun j=>pos nd (l j)) (cs t r) (i:Int)))),a9,a10,a11])
  (by
   rintro r hr ς ⟨a9,a10,a11,rfl⟩
   have hg:t.getD r []=t[r]:=by simp[List.getD_eq_getElem?_getD,List.getElem?_eq_getElem hr]
   have hm:(t[r]).length=m:=htb _ (List.getElem_mem hr)
   obtain⟨b10,b11,h⟩:=QLF (a0:=a0) (a1:=a1) (a2:=a2) (a3:=a3) (a5:=a5) (a6:=some (.k,tbD t)) (w:=fun j=>(t[r]).getD j 0) (F:=fun i=>dkt m (fun j=>pos nd (l j)) (cs t r) (i:Int)) hl (some (.k,dl t[r])) a10 a11
   have hF:rl N (fun i=>D.int (dkt m (fun j=>pos nd (l j)) (cs t r) (i:Int)+dkt m (fun j=>pos nd (l j)) (fun j=>(t[r]).getD j 0) (i:Int)))=rl N (fun i=>.int (dkt m (fun j=>pos nd (l j)) (cs t (r+1)) (i:Int))):=Qcc fun i _=>by
    rw[QJk]
    exact congrArg D.int (Qqf m fun j _=>⟨Iff.rfl,(QNc hr j).symm⟩)
   rw[hF]at h
   refine⟨[a0,a1,a2,a3,some (.k,.int (nd:Int)),a5,some (.k,tbD t),some (.k,rl m (fun j=>.int (l j))),some (.o,rl N (fun i=>.int (dkt m (fun j=>pos nd (l j)) (cs t (r+1)) (i:Int)))),some (.k,dl t[r]),b10,b11],?_,_,_,_,rfl⟩
   rw[hg]
   refine r_gN (by walk_at "s") ?_
   unfold QgH
   refine Qbk ?_ h
   unfold itZ
   rw[r_var rfl,Out.bind_ok,r_var rfl,Out.bind_ok]
   show Out.ok (List.zipWith _ ((t[r]).map D.int) ((List.range m).map _))=_
   rw[QKi hm,List.zipWith_map,List.zipWith_self])
  [a0,a1,a2,a3,some (.k,.int (nd:Int)),a5,some (.k,tbD t),some (.k,rl m (fun j=>.int (l j))),some (.o,rl N (fun _=>.int 0)),a9,a10,a11] ⟨a9,a10,a11,by
   have:rl N (fun _=>D.int 0)=rl N (fun i=>D.int (dkt m (fun j=>pos nd (l j)) (cs t 0) (i:Int))):=Qcc fun i _=>by
    have z:dkt m (fun j=>pos nd (l j)) (cs t 0) (i:Int)=0:=(Qqf (w':=fun _=>0) (l':=fun j=>pos nd (l j)) (x':=(i:Int)) m fun j _=>⟨Iff.rfl,rfl⟩).trans (QGU m)
    rw[z]
   rw[this]⟩
 refine⟨a9',a10',a11',Qbk (r_itL (xs:=(List.range t.length).map fun r=>dl (t.getD r [])) ?_) hL⟩
 rw[← QOZ]
 exact r_var rfl
end
def tcn(nd:Nat)(t:Nat->List (List Int))(m:Nat->Nat)(ld:Nat->Nat->Int)(k i:Nat):Int×Int:=(dkt (m k) (fun j=>pos nd (ld k j)) (cs (t k) (t k).length) (i:Int),((t k).length:Int))
theorem rep0{N:Nat}(h:N<=1000):dRep (.lst [.int 0]) (.int (N:Int))=.ok (rl N (fun _=>.int 0)):=by
 have e:(List.replicate N (D.int 0))=(List.range N).map fun _=>D.int 0:=by
  apply List.ext_getElem?
  intro i
  rw[List.getElem?_map,List.getElem?_replicate]
  by_cases hi:i<N
  ·rw[if_pos hi,List.getElem?_range hi];rfl
  ·rw[if_neg hi,List.getElem?_eq_none (by rw[List.length_range];omega)];rfl
 show _=Out.ok (D.lst ((List.range N).map fun _=>D.int 0))
 rw[← e]
 unfold dRep
 simp only[Int.toNat_natCast,List.flatten_replicate_singleton,List.length_cons,List.length_nil]
 rw[if_pos]
 rw[Bool.and_eq_true,Bool.and_eq_true]
 exact⟨⟨decide_eq_true (by omega),decide_eq_true (by omega)⟩,Qia (by omega)⟩
section
variable{n nd:Nat}{nm dn c:Nat->Str}{t:Nat->List (List Int)}{m:Nat->Nat}{ld:Nat->Nat->Int}{st:Nat->Int}(hs:Seats n nd nm dn c t m ld st)
include hs
theorem QOI{k j:Nat}(hk:k<n)(hj:j<m k):0<=pos nd (ld k j)/\pos nd (ld k j)<((nd+n:Nat):Int):=by
 obtain⟨h1,h2⟩:=hs.ldr k j hk hj
 unfold pos
 split<;>omega
theorem QL6{O:D}:Qdj [.lst [O,rl n (fun k=>tbD (t k)),rl n (fun k=>rl (m k) (fun j=>.int (ld k j))),.int (nd:Int)]]=.ok (rl n (fun k=>rl (nd+n) (fun i=>fr (tcn nd t m ld k i)))):=by
 have n2:=hs.n2
 have d2:=hs.d2
 have hlr:=lenR n (fun k=>tbD (t k))
 generalize hDr:D.lst [O,rl n (fun k=>tbD (t k)),rl n (fun k=>rl (m k) (fun j=>.int (ld k j))),.int (nd:Int)]=Dr
 obtain⟨ς',hL,a6,a7,a8,a9,a10,a11,rfl⟩:=Qiz (body:=fun x ς=>gT [6,7] x ς>>=fun ς'=>QgJ ς') (f:=fun k=>D.tup [tbD (t k),rl (m k) (fun j=>.int (ld k j))]) (n:=n)
  (P:=fun k ς=>∃ a6 a7 a8 a9 a10 a11,ς=[some (.k,Dr),some (.k,O),some (.k,rl n (fun k=>tbD (t k))),some (.k,rl n (fun k=>rl (m k) (fun j=>.int (ld k j)))),some (.k,.int (nd:Int)),some (.o,.lst ((List.range k).map fun k=>rl (nd+n) (fun i=>fr (tcn nd t m ld k i)))),a6,a7,a8,a9,a10,a11])
  (by
   rintro k hk ς ⟨a6,a7,a8,a9,a10,a11,rfl⟩
   have tb:=hs.tb k hk
   have n12:=tb.n2
   generalize hR:rl n (fun k=>tbD (t k))=R at *
   generalize hW:rl n (fun k=>rl (m k) (fun j=>D.int (ld k j)))=W at *
   obtain⟨b9,b10,b11,h⟩:=QJO (a0:=some (.k,Dr)) (a1:=some (.k,O)) (a2:=some (.k,R)) (a3:=some (.k,W)) (a5:=some (.o,.lst ((List.range k).map fun k=>rl (nd+n) (fun i=>fr (tcn nd t m ld k i))))) (N:=nd+n) (nd:=nd) (m:=m k) (l:=ld k) (t:=t k) tb.row (fun j hj=>QOI hs hk hj) a9 a10 a11
   have hrep:=rep0 (N:=nd+n) (by omega)
   have hsum:e2 dAdd (eVar 4) (eA fLen (aCons (eVar 2) aNil)) [some (.k,Dr),some (.k,O),some (.k,R),some (.k,W),some (.k,.int (nd:Int)),some (.o,.lst ((List.range k).map fun k=>rl (nd+n) (fun i=>fr (tcn nd t m ld k i)))),some (.k,tbD (t k)),some (.k,rl (m k) (fun j=>.int (ld k j))),a8,a9,a10,a11]=.ok (.int ((nd+n:Nat):Int)):=by
    rw[show((nd+n:Nat):Int)=(nd:Int)+(n:Int) by omega]
    (repeat walk_at "e")
   have hcomp:eComp [none,some 6] (itLB (eVarB 8)) (gN 0) cTrue Qj7 [some (.k,Dr),some (.k,O),some (.k,R),some (.k,W),some (.k,.int (nd:Int)),some (.o,.lst ((List.range k).map fun k=>rl (nd+n) (fun i=>fr (tcn nd t m ld k i)))),some (.k,tbD (t k)),some (.k,rl (m k) (fun j=>.int (ld k j))),some (.o,rl (nd+n) (fun i=>.int (dkt (m k) (fun j=>pos nd (ld k j)) (cs (t k) (t k).length) (i:Int)))),b9,b10,b11]=.ok (rl (nd+n) (fun i=>fr (tcn nd t m ld k i))):=by
    refine QZ (fun i:Nat=>D.int (dkt (m k) (fun j=>pos nd (ld k j)) (cs (t k) (t k).length) (i:Int))) (fun i=>fr (tcn nd t m ld k i)) ?_ (fun i hi=>?_) (by rw[List.length_range];omega)
    ·unfold itLB
     rw[Qgs rfl,Out.bind_ok]
     show(if _=true then Out.ok _ else .stuck)=_
     rw[if_pos (allR fun i _=>rfl)]
    ·have hlt:fLen [tbD (t k)]=.ok (.int ((t k).length:Int)):=by simp[fLen,tbD]
     refine Q9 (by walk_at "cap") (by walk_at "s") ?_
     unfold Qj7
     show _=Out.ok (D.tup [.int (dkt (m k) (fun j=>pos nd (ld k j)) (cs (t k) (t k).length) (i:Int)),.int ((t k).length:Int)])
     (repeat walk_at "e")
   refine⟨[some (.k,Dr),some (.k,O),some (.k,R),some (.k,W),some (.k,.int (nd:Int)),some (.o,.lst ((List.range (k+1)).map fun k=>rl (nd+n) (fun i=>fr (tcn nd t m ld k i)))),some (.k,tbD (t k)),some (.k,rl (m k) (fun j=>.int (ld k j))),some (.o,rl (nd+n) (fun i=>.int (dkt (m k) (fun j=>pos nd (ld k j)) (cs (t k) (t k).length) (i:Int)))),b9,b10,b11],?_,_,_,_,_,_,_,rfl⟩
   refine r_gT (by walk_at "all") ?_
   unfold QgJ
   refine r_seq (QeK (r_e2 (r_lst (QA r_C r_nil) (by decide)) hsum hrep) (by walk_at "s")) (Qx (r_seq h (Qx ?_)))
   refine r_app rfl hcomp (by rw[List.length_map,List.length_range];omega) ?_
   rw[List.range_succ,List.map_append]
   walk_at "s")
  [some (.k,Dr),some (.k,O),some (.k,rl n (fun k=>tbD (t k))),some (.k,rl n (fun k=>rl (m k) (fun j=>.int (ld k j)))),some (.k,.int (nd:Int)),some (.o,.lst []),none,none,none,none,none,none] ⟨_,_,_,_,_,_,rfl⟩
 have hz:itZ (eVar 2) (eVar 3) [some (.k,Dr),some (.k,O),some (.k,rl n (fun k=>tbD (t k))),some (.k,rl n (fun k=>rl (m k) (fun j=>.int (ld k j)))),some (.k,.int (nd:Int)),some (.o,.lst []),none,none,none,none,none,none]=.ok ((List.range n).map fun k=>D.tup [tbD (t k),rl (m k) (fun j=>.int (ld k j))]):=by
  unfold itZ
  rw[r_var rfl,Out.bind_ok,r_var rfl,Out.bind_ok]
  show Out.ok (List.zipWith _ ((List.range n).map _) ((List.range n).map _))=_
  rw[List.zipWith_map,List.zipWith_self]
 have hfor:=Qbk (g:=gT [6,7]) (T:=QgJ) hz hL
 have hun:sUnpL [1,2,3,4] (eVar 0) [some (.k,Dr),none,none,none,none,none,none,none,none,none,none,none]=.ok (.nx [some (.k,Dr),some (.k,O),some (.k,rl n (fun k=>tbD (t k))),some (.k,rl n (fun k=>rl (m k) (fun j=>.int (ld k j)))),some (.k,.int (nd:Int)),none,none,none,none,none,none,none]):=by
  subst hDr;rfl
 rw[QGw]
 unfold QiH
 exact Qct (r_seq hun (Qx (r_seq (QeK (d:=.lst []) rfl (by walk_at "s")) (Qx (r_seq hfor (Qx (Qvt rfl))))))) r_rtT
theorem QPA{k i:Nat}(hk:k<n):1<=(tcn nd t m ld k i).2/\bitsI (tcn nd t m ld k i).1<=48/\bitsI (tcn nd t m ld k i).2<=49:=by
 have tb:=hs.tb k hk
 have tn1:=tb.n1
 have tn2:=tb.n2
 have m6:=tb.m6
 obtain⟨d0,d1⟩:=dk_bd (l:=fun j=>pos nd (ld k j)) (w:=cs (t k) (t k).length) (x:=(i:Int)) (B:=108) (m k) fun j _=>by
  have:=cs_le tb (t k).length j
  omega
 refine⟨by show 1<=((t k).length:Int);omega,?_,?_⟩
 ·show bitsI (dkt (m k) (fun j=>pos nd (ld k j)) (cs (t k) (t k).length) (i:Int))<=48
  exact Qan (by omega)
 ·show bitsI ((t k).length:Int)<=49
  exact Qan (by omega)
end
theorem QDG{x:D}{N:Nat}(h:N<=1000):dRep (.lst [x]) (.int (N:Int))=.ok (rl N (fun _=>x)):=by
 have e:(List.replicate N x)=(List.range N).map fun _=>x:=by
  apply List.ext_getElem?
  intro i
  rw[List.getElem?_map,List.getElem?_replicate]
  by_cases hi:i<N
  ·rw[if_pos hi,List.getElem?_range hi];rfl
  ·rw[if_neg hi,List.getElem?_eq_none (by rw[List.length_range];omega)];rfl
 show _=Out.ok (D.lst ((List.range N).map fun _=>x))
 rw[← e]
 unfold dRep
 simp only[Int.toNat_natCast,List.flatten_replicate_singleton,List.length_cons,List.length_nil]
 rw[if_pos]
 rw[Bool.and_eq_true,Bool.and_eq_true]
 exact⟨⟨decide_eq_true (by omega),decide_eq_true (by omega)⟩,Qia (by omega)⟩
theorem QD0{ς ς':SD}{i:Nat}{d:D}(e:ς[i]?=some (some (.o,d)))(h:ς.set i (some (.k,d))=ς'):frz i ς=ς':=by
 unfold frz
 rw[e]
 exact h
theorem QBX{T:SD->Out Fl}{j:Nat}{ς ς1:SD}{r:Out Fl}(hz:frz j ς=ς1)(h:T ς1=r):(fun ς=>T (frz j ς)) ς=r:=by
 show T (frz j ς)=r
 rw[hz];exact h
theorem dblI(b:Bool):f1 dInt [.bl b]=.ok (.int (if b=true then 1 else 0)):=by cases b<;>rfl
theorem QML(t:List (List Int))(r:List Int):tbD (t++[r])=.lst (t.map dl++[dl r]):=by unfold tbD;simp
theorem QLc{n:Nat}(hn:n<=100){ς:SD}(h:ς[3]?=some (some (.k,.int (n:Int))))(hc:captD [none,some 3] ς=[none,some (.k,.int (n:Int))]):eComp [none,some 3] (itR1 (eVar 3)) (gN 0) cTrue Qkk ς=.ok (tbD (dealT n)):=by
 have e:tbD (dealT n)=.lst ((List.range n).map fun s=>dl (one n s)):=by unfold tbD dealT;rw[List.map_map];rfl
 rw[e]
 refine QZ (fun s:Nat=>D.int ((0:Int)+s)) (fun s=>dl (one n s)) (QcP n (r_var h) (by omega)) (fun s _=>?_) (by rw[List.length_range];omega)
 refine Q9 hc (by walk_at "s") ?_
 unfold Qkk
 have e2':dl (one n s)=.lst ((List.range n).map fun k=>D.int (if k=s then 1 else 0)):=by unfold dl one;rw[List.map_map];rfl
 rw[e2',Int.zero_add]
 refine QZ (fun k:Nat=>D.int ((0:Int)+k)) (fun k=>D.int (if k=s then 1 else 0)) (QcP n rfl (by omega)) (fun k _=>?_) (by rw[List.length_range];omega)
 refine Q9 (by walk_at "cap") (by walk_at "s") ?_
 unfold QqX
 have hd:=dblI (decide (((0:Int)+(k:Int))=(s:Int)))
 have hh:(if decide (((0:Int)+(k:Int))=(s:Int))=true then(1:Int) else 0)=if k=s then 1 else 0:=by
  by_cases q:k=s
  ·rw[if_pos q,if_pos (decide_eq_true (by omega))]
  ·rw[if_neg q,decide_eq_false (by omega)];rfl
 rw[hh]at hd
 (repeat walk_at "e")
theorem QMj{n:Nat}(hn:n<=100){ς:SD}(h:ς[3]?=some (some (.k,.int (n:Int))))(hc:captD [none,some 3] ς=[none,some (.k,.int (n:Int))]):eComp [none,some 3] (itR1 (eVar 3)) (gN 0) cTrue QjG ς=.ok (tbD (bunT n)):=by
 have e:tbD (bunT n)=.lst ((List.range n).map fun s=>dl [if s+1=n then 1 else 0]):=by unfold tbD bunT;rw[List.map_map];rfl
 rw[e]
 refine QZ (fun s:Nat=>D.int ((0:Int)+s)) (fun s=>dl [if s+1=n then 1 else 0]) (QcP n (r_var h) (by omega)) (fun s _=>?_) (by rw[List.length_range];omega)
 refine Q9 hc (by walk_at "s") ?_
 unfold QjG
 show _=Out.ok (D.lst [.int (if s+1=n then 1 else 0)])
 have hd:=dblI (decide (((0:Int)+(s:Int))=(n:Int) - 1))
 have hh:(if decide (((0:Int)+(s:Int))=(n:Int) - 1)=true then(1:Int) else 0)=if s+1=n then 1 else 0:=by
  by_cases q:s+1=n
  ·rw[if_pos q,if_pos (decide_eq_true (by omega))]
  ·rw[if_neg q,decide_eq_false (by omega)];rfl
 rw[hh]at hd
 (repeat walk_at "e")
theorem Qwe{N T:Int}(n0:0<=N)(n1:N<2147483648)(t2:1<=T)(t9:T<=10){size:Int}{n m:Nat}(hn:n<=12)(hm:size % 5=(m:Int))(hs0:0<=size):∃(t:List (List Int))(a5:Option (SM×D)),t.length=n/\(∀ r∈t,r.length=m)/\(∀ r∈t,∀ x∈r,0<=x/\x<=9)/\
 sFor (gN 5) (itR1 (eVar 3)) QeE [some (.k,.int N),some (.k,.int T),some (.k,.int size),some (.k,.int (n:Int)),some (.o,.lst []),none]=.ok (.nx [some (.k,.int N),some (.k,.int T),some (.k,.int size),some (.k,.int (n:Int)),some (.o,tbD t),a5]):=by
 have M:∀ i j:Int,i.natAbs<2 ^ 60->j.natAbs<2 ^ 60->dMul (.int i) (.int j)=.ok (.int (i * j)):=fun i j h1 h2=>QgY (Qan h1) (Qan h2) (by decide)
 have m4:m<=4:=by omega
 obtain⟨ς',hL,t,a5,rfl,tl,tr,te⟩:=Qgg (body:=fun x ς=>gN 5 x ς>>=fun ς'=>QeE ς') (n:=n)
  (P:=fun s ς=>∃(t:List (List Int))(a5:Option (SM×D)),ς=[some (.k,.int N),some (.k,.int T),some (.k,.int size),some (.k,.int (n:Int)),some (.o,tbD t),a5]/\t.length=s/\(∀ r∈t,r.length=m)/\∀ r∈t,∀ x∈r,0<=x/\x<=9)
  (by
   rintro s hs ς ⟨t,a5,rfl,tl,tr,te⟩
   have hmod:dMod (.int size) (.int 5)=.ok (.int (m:Int)):=by rw[QT (by decide),hm]
   have hc:eComp [none,some 0,some 5,some 1] (itR1 (e2 dMod (eVar 2) (eC (.int 5)))) (gN 0) cTrue Qj6 [some (.k,.int N),some (.k,.int T),some (.k,.int size),some (.k,.int (n:Int)),some (.o,tbD t),some (.k,.int (s:Int))]=.ok (dl ((List.range m).map fun k:Nat=>N * (7 * (s:Int)+2 * (k:Int)+3) % 1000003 % T)):=by
    have e:dl ((List.range m).map fun k:Nat=>N * (7 * (s:Int)+2 * (k:Int)+3) % 1000003 % T)=.lst ((List.range m).map fun k:Nat=>D.int (N * (7 * (s:Int)+2 * (k:Int)+3) % 1000003 % T)):=by unfold dl;rw[List.map_map];rfl
    rw[e]
    refine QZ (fun k:Nat=>D.int ((0:Int)+k)) (fun k:Nat=>D.int (N * (7 * (s:Int)+2 * (k:Int)+3) % 1000003 % T)) (QcP m (by (repeat walk_at "e")) (by omega)) (fun k hk=>?_) (by rw[List.length_range];omega)
    have hk:=List.mem_range.mp hk
    refine Q9 (by walk_at "cap") (by walk_at "s") ?_
    unfold Qj6
    rw[Int.zero_add]
    have e1':=M 7 s (by decide) (by omega)
    have e2':=M 2 k (by decide) (by omega)
    have e3':=M N (7 * (s:Int)+2 * (k:Int)+3) (by omega) (by omega)
    have q1:dMod (.int (N * (7 * (s:Int)+2 * (k:Int)+3))) (.int 1000003)=.ok (.int (N * (7 * (s:Int)+2 * (k:Int)+3) % 1000003)):=QT (by decide)
    have q2:dMod (.int (N * (7 * (s:Int)+2 * (k:Int)+3) % 1000003)) (.int T)=.ok (.int (N * (7 * (s:Int)+2 * (k:Int)+3) % 1000003 % T)):=QT (by omega)
    (repeat walk_at "e")
   refine⟨[some (.k,.int N),some (.k,.int T),some (.k,.int size),some (.k,.int (n:Int)),some (.o,tbD (t++[(List.range m).map fun k:Nat=>N * (7 * (s:Int)+2 * (k:Int)+3) % 1000003 % T])),some (.k,.int (s:Int))],?_,_,_,rfl,?_,?_,?_⟩
   ·refine r_gN (by walk_at "s") ?_
    unfold QeE
    refine r_app (xs:=t.map dl) rfl hc (by rw[List.length_map];omega) ?_
    rw[QML]
    walk_at "s"
   ·rw[List.length_append,tl];rfl
   ·intro r hr
    rcases List.mem_append.mp hr with h | h
    ·exact tr r h
    ·rw[List.mem_singleton.mp h,List.length_map,List.length_range]
   ·intro r hr x hx
    rcases List.mem_append.mp hr with h | h
    ·exact te r h x hx
    ·rw[List.mem_singleton.mp h]at hx
     obtain⟨k,_,rfl⟩:=List.mem_map.mp hx
     have a:=Int.emod_nonneg (N * (7 * (s:Int)+2 * (k:Int)+3) % 1000003) (b:=T) (by omega)
     have b:=Int.emod_lt_of_pos (N * (7 * (s:Int)+2 * (k:Int)+3) % 1000003) (b:=T) (by omega)
     omega)
  [some (.k,.int N),some (.k,.int T),some (.k,.int size),some (.k,.int (n:Int)),some (.o,.lst []),none] ⟨[],none,rfl,rfl,(fun r h=>by cases h),fun r h=>by cases h⟩
 exact⟨t,a5,tl,tr,te,Qbk (g:=gN 5) (its:=itR1 (eVar 3)) (T:=QeE) (QcP n (r_var rfl) (by omega)) hL⟩
theorem QMu{N T:Int}(n0:0<=N)(n1:N<2147483648)(t2:1<=T)(t9:T<=10):∃(c:Str)(t:List (List Int))(m:Nat),CK.contains c=true/\Tb t m/\Qbm [.int N,.int T]=.ok (.lst [ck c t m,tbD t]):=by
 have d4:dFdiv (.int N) (.int 4)=.ok (.int (N / 4)):=QbY (by decide) (by decide)
 have p4:dMod (.int N) (.int 4)=.ok (.int (N % 4)):=QT (by decide)
 have h4:N % 4=0∨N % 4=1∨N % 4=2∨N % 4=3:=by omega
 have c1:CK.contains ("Deal":Str)=true:=dk
 have c2:CK.contains ("Bundle":Str)=true:=dk
 have c3:CK.contains ("Copy":Str)=true:=dk
 have c4:CK.contains ("Rows":Str)=true:=dk
 rcases h4 with h | h | h | h
 ·obtain⟨n,hn⟩:∃ n:Nat,1+N / 4 % 6=(n:Int):=⟨(1+N / 4 % 6).toNat,by omega⟩
  have p6:dMod (.int (N / 4)) (.int 6)=.ok (.int (N / 4 % 6)):=QT (by decide)
  refine⟨"Deal",dealT n,n,c1,QHa (by omega) (by omega),?_⟩
  have hi:=QJ3 c1 (n:=n) (by omega) (by omega)
  have hr:=QLc (n:=n) (by omega) (ς:=[some (.k,.int N),some (.k,.int T),some (.k,.int (N / 4)),some (.k,.int (n:Int)),none,none]) rfl (by walk_at "cap")
  have s3:sSet 3 (e2 dAdd (eC (.int 1)) (e2 dMod (eVar 2) (eC (.int 6)))) [some (.k,.int N),some (.k,.int T),some (.k,.int (N / 4)),none,none,none]=.ok (.nx [some (.k,.int N),some (.k,.int T),some (.k,.int (N / 4)),some (.k,.int (n:Int)),none,none]):=by
   rw[← hn];(repeat walk_at "e")
  rw[QiE]
  unfold Qdv
  refine Qct (fl:=.rt true (.lst [ck "Deal" (dealT n) n,tbD (dealT n)])) ?_ r_rtT
  refine r_seq (fl:=.nx [some (.k,.int N),some (.k,.int T),some (.k,.int (N / 4)),none,none,none]) (by (repeat walk_at "e")) (Qx ?_)
  refine r_seq (fl:=.rt true (.lst [ck "Deal" (dealT n) n,tbD (dealT n)])) ?_ Qin
  refine r_ifT (by (repeat walk_at "e")) (decide_eq_true h) ?_
  refine r_seq s3 (Qx ?_)
  exact Qfk (r_lst (QA (QoF (QA (r_var rfl) r_nil) hi) (QA hr r_nil)) (show 2<=1000 by decide))
 ·obtain⟨n,hn⟩:∃ n:Nat,1+N / 4 % 12=(n:Int):=⟨(1+N / 4 % 12).toNat,by omega⟩
  have p12:dMod (.int (N / 4)) (.int 12)=.ok (.int (N / 4 % 12)):=QT (by decide)
  refine⟨"Bundle",bunT n,1,c2,QLa (by omega) (by omega),?_⟩
  have hi:=QLT c2 (n:=n) (by omega) (by omega)
  have hr:=QMj (n:=n) (by omega) (ς:=[some (.k,.int N),some (.k,.int T),some (.k,.int (N / 4)),some (.k,.int (n:Int)),none,none]) rfl (by walk_at "cap")
  have s3:sSet 3 (e2 dAdd (eC (.int 1)) (e2 dMod (eVar 2) (eC (.int 12)))) [some (.k,.int N),some (.k,.int T),some (.k,.int (N / 4)),none,none,none]=.ok (.nx [some (.k,.int N),some (.k,.int T),some (.k,.int (N / 4)),some (.k,.int (n:Int)),none,none]):=by
   rw[← hn];(repeat walk_at "e")
  rw[QiE]
  unfold Qdv
  refine Qct (fl:=.rt true (.lst [ck "Bundle" (bunT n) 1,tbD (bunT n)])) ?_ r_rtT
  refine r_seq (fl:=.nx [some (.k,.int N),some (.k,.int T),some (.k,.int (N / 4)),none,none,none]) (by (repeat walk_at "e")) (Qx ?_)
  refine r_seq (fl:=.nx [some (.k,.int N),some (.k,.int T),some (.k,.int (N / 4)),none,none,none]) (r_ifF (by (repeat walk_at "e")) (decide_eq_false (show ¬ N % 4=0 by omega)) Qhw) (Qx ?_)
  refine r_seq (fl:=.rt true (.lst [ck "Bundle" (bunT n) 1,tbD (bunT n)])) ?_ Qin
  refine r_ifT (by (repeat walk_at "e")) (decide_eq_true h) ?_
  refine r_seq s3 (Qx ?_)
  exact Qfk (r_lst (QA (QoF (QA (r_var rfl) r_nil) hi) (QA hr r_nil)) (show 2<=1000 by decide))
 ·obtain⟨m,hm⟩:∃ m:Nat,N / 4 % 5=(m:Int):=⟨(N / 4 % 5).toNat,by omega⟩
  obtain⟨t,a5,tl,tr,te,hfor⟩:=Qwe n0 n1 t2 t9 (size:=N / 4) (n:=1) (by decide) hm (by omega)
  obtain⟨r,rfl⟩:∃ r,t=[r]:=by
   match t,tl with
   | [r],_=>exact⟨r,rfl⟩
  have tb:Tb [r] m:=⟨show 1<=1 by decide,show 1<=12 by decide,by omega,tr,te⟩
  refine⟨"Copy",[r],m,c3,tb,?_⟩
  have hi:=QJo c3 tb
  have d7:dFdiv (.int (N / 4)) (.int 7)=.ok (.int (N / 4 / 7)):=QbY (by decide) (by decide)
  have p12:dMod (.int (N / 4 / 7)) (.int 12)=.ok (.int (N / 4 / 7 % 12)):=QT (by decide)
  have hd:f1 dInt [.bl (decide (N % 4=3))]=.ok (.int 0):=by rw[dblI,decide_eq_false (by omega)];rfl
  have hmu:dMul (.int (N / 4 / 7 % 12)) (.int 0)=.ok (.int 0):=by rw[QgY (Qan (n:=60) (by omega)) (Qan (n:=60) (by decide)) (by decide),Int.mul_zero]
  have s3:sSet 3 (e2 dAdd (eC (.int 1)) (e2 dMul (e2 dMod (e2 dFdiv (eVar 2) (eC (.int 7))) (eC (.int 12))) (eA (f1 dInt) (aCons (e2 dEq (e2 dMod (eVar 0) (eC (.int 4))) (eC (.int 3))) aNil)))) [some (.k,.int N),some (.k,.int T),some (.k,.int (N / 4)),none,none,none]=.ok (.nx [some (.k,.int N),some (.k,.int T),some (.k,.int (N / 4)),some (.k,.int ((1:Nat):Int)),none,none]):=by
   show _=Out.ok (Fl.nx [some (.k,.int N),some (.k,.int T),some (.k,.int (N / 4)),some (.k,.int (1+0)),none,none])
   (repeat walk_at "e")
  have hx:dIx (tbD [r]) (.int 0)=.ok (dl r):=ixL 0 rfl
  have hli:dList (dl r)=.ok (dl r):=rfl
  rw[QiE]
  unfold Qdv
  refine Qct (fl:=.rt true (.lst [ck "Copy" [r] m,tbD [r]])) ?_ r_rtT
  refine r_seq (fl:=.nx [some (.k,.int N),some (.k,.int T),some (.k,.int (N / 4)),none,none,none]) (by (repeat walk_at "e")) (Qx ?_)
  refine r_seq (fl:=.nx [some (.k,.int N),some (.k,.int T),some (.k,.int (N / 4)),none,none,none]) (r_ifF (by (repeat walk_at "e")) (decide_eq_false (show ¬ N % 4=0 by omega)) Qhw) (Qx ?_)
  refine r_seq (fl:=.nx [some (.k,.int N),some (.k,.int T),some (.k,.int (N / 4)),none,none,none]) (r_ifF (by (repeat walk_at "e")) (decide_eq_false (show ¬ N % 4=1 by omega)) Qhw) (Qx ?_)
  refine r_seq s3 (Qx ?_)
  refine r_seq (QeK (d:=.lst []) rfl (by walk_at "s")) (Qx (r_seq hfor (Qx ?_)))
  refine r_seq (fl:=.rt true (.lst [ck "Copy" [r] m,tbD [r]])) ?_ Qin
  refine r_ifT (by (repeat walk_at "e")) (decide_eq_true h) ?_
  refine QBX (QD0 (d:=tbD [r]) rfl (by walk_at "s")) ?_
  exact Qfk (r_lst (QA (QoF (QA (r_e1 (r_e2 (r_var rfl) r_C hx) hli) r_nil) hi) (QA (r_var rfl) r_nil)) (show 2<=1000 by decide))
 ·obtain⟨m,hm⟩:∃ m:Nat,N / 4 % 5=(m:Int):=⟨(N / 4 % 5).toNat,by omega⟩
  obtain⟨n,hn⟩:∃ n:Nat,1+N / 4 / 7 % 12=(n:Int):=⟨(1+N / 4 / 7 % 12).toNat,by omega⟩
  obtain⟨t,a5,tl,tr,te,hfor⟩:=Qwe n0 n1 t2 t9 (size:=N / 4) (n:=n) (by omega) hm (by omega)
  have tb:Tb t m:=⟨by omega,by omega,by omega,tr,te⟩
  refine⟨"Rows",t,m,c4,tb,?_⟩
  have hi:=QKV c4 tb
  have d7:dFdiv (.int (N / 4)) (.int 7)=.ok (.int (N / 4 / 7)):=QbY (by decide) (by decide)
  have p12:dMod (.int (N / 4 / 7)) (.int 12)=.ok (.int (N / 4 / 7 % 12)):=QT (by decide)
  have hd:f1 dInt [.bl (decide (N % 4=3))]=.ok (.int 1):=by rw[dblI,decide_eq_true h];rfl
  have hmu:dMul (.int (N / 4 / 7 % 12)) (.int 1)=.ok (.int (N / 4 / 7 % 12)):=by rw[QgY (Qan (n:=60) (by omega)) (Qan (n:=60) (by decide)) (by decide),Int.mul_one]
  have s3:sSet 3 (e2 dAdd (eC (.int 1)) (e2 dMul (e2 dMod (e2 dFdiv (eVar 2) (eC (.int 7))) (eC (.int 12))) (eA (f1 dInt) (aCons (e2 dEq (e2 dMod (eVar 0) (eC (.int 4))) (eC (.int 3))) aNil)))) [some (.k,.int N),some (.k,.int T),some (.k,.int (N / 4)),none,none,none]=.ok (.nx [some (.k,.int N),some (.k,.int T),some (.k,.int (N / 4)),some (.k,.int (n:Int)),none,none]):=by
   rw[← hn];(repeat walk_at "e")
  have hcomp:∀ a5,eComp [none] (itL (eVar 4)) (gN 0) cTrue Qkf [some (.k,.int N),some (.k,.int T),some (.k,.int (N / 4)),some (.k,.int (n:Int)),some (.k,tbD t),a5]=.ok (tbD t):=fun a5=>by
   refine QZ dl dl rfl (fun r _=>?_) (by omega)
   refine Q9 (by walk_at "cap") (by walk_at "s") ?_
   unfold Qkf
   exact r_e1 (r_var rfl) rfl
  rw[QiE]
  unfold Qdv
  refine Qct (fl:=.rt true (.lst [ck "Rows" t m,tbD t])) ?_ r_rtT
  refine r_seq (fl:=.nx [some (.k,.int N),some (.k,.int T),some (.k,.int (N / 4)),none,none,none]) (by (repeat walk_at "e")) (Qx ?_)
  refine r_seq (fl:=.nx [some (.k,.int N),some (.k,.int T),some (.k,.int (N / 4)),none,none,none]) (r_ifF (by (repeat walk_at "e")) (decide_eq_false (show ¬ N % 4=0 by omega)) Qhw) (Qx ?_)
  refine r_seq (fl:=.nx [some (.k,.int N),some (.k,.int T),some (.k,.int (N / 4)),none,none,none]) (r_ifF (by (repeat walk_at "e")) (decide_eq_false (show ¬ N % 4=1 by omega)) Qhw) (Qx ?_)
  refine r_seq s3 (Qx ?_)
  refine r_seq (QeK (d:=.lst []) rfl (by walk_at "s")) (Qx (r_seq hfor (Qx ?_)))
  refine r_seq (r_ifF (by (repeat walk_at "e")) (decide_eq_false (show ¬ N % 4=2 by omega)) Qhw) (Qx ?_)
  refine QBX (QD0 (d:=tbD t) rfl (by walk_at "s")) ?_
  exact Qfk (r_lst (QA (QoF (QA (hcomp _) r_nil) hi) (QA (r_var rfl) r_nil)) (show 2<=1000 by decide))
def cnm(k:Nat):Str:=match k with | 0=>"a" | 1=>"b" | 2=>"c" | 3=>"d" | 4=>"e" | 5=>"f" | _=>"g"
def dnm(k:Nat):Str:=match k with | 0=>"x" | 1=>"y" | _=>"z"
theorem QO1{k:Nat}(h:k<7):dIx (.str "abcdefghijklm") (.int (k:Int))=.ok (.str (cnm k)):=by
 rcases(by omega:k=0∨k=1∨k=2∨k=3∨k=4∨k=5∨k=6) with rfl | rfl | rfl | rfl | rfl | rfl | rfl<;>with_unfolding_all rfl
theorem cisn{k:Nat}(h:k<7):Qa1 [.str (cnm k)]=.ok (.bl true):=by
 rcases(by omega:k=0∨k=1∨k=2∨k=3∨k=4∨k=5∨k=6) with rfl | rfl | rfl | rfl | rfl | rfl | rfl<;>with_unfolding_all rfl
theorem disn{k:Nat}(h:k<3):Qa1 [.str (dnm k)]=.ok (.bl true):=by
 rcases(by omega:k=0∨k=1∨k=2) with rfl | rfl | rfl<;>with_unfolding_all rfl
theorem QM3{i j:Nat}(hi:i<7)(hj:j<7)(e:cnm i=cnm j):i=j:=by
 have key:∀ a b:Fin 7,cnm a=cnm b->a=b:=dk
 have:=key ⟨i,hi⟩ ⟨j,hj⟩ e
 simpa using this
theorem QNZ{i j:Nat}(hi:i<3)(hj:j<3)(e:dnm i=dnm j):i=j:=by
 have key:∀ a b:Fin 3,dnm a=dnm b->a=b:=dk
 have:=key ⟨i,hi⟩ ⟨j,hj⟩ e
 simpa using this
theorem QPg{i j:Nat}(hi:i<7)(hj:j<3):cnm i≠dnm j:=by
 have key:∀(a:Fin 7)(b:Fin 3),cnm a≠dnm b:=dk
 exact key ⟨i,hi⟩ ⟨j,hj⟩
def evN(nd i:Nat):Str:=if i<nd then dnm i else cnm (i - nd)
theorem QON(a b:Nat)(f g:Nat->D):(List.range a).map f++(List.range b).map g=(List.range (a+b)).map fun i=>if i<a then f i else g (i - a):=by
 apply List.ext_getElem?
 intro i
 by_cases h:i<a
 ·rw[List.getElem?_append_left (by rw[List.length_map,List.length_range];exact h),List.getElem?_map,List.getElem?_map,List.getElem?_range h,List.getElem?_range (by omega)]
  show some (f i)=some (if i<a then f i else g (i - a))
  rw[if_pos h]
 ·rw[List.getElem?_append_right (by rw[List.length_map,List.length_range];omega),List.length_map,List.length_range,List.getElem?_map,List.getElem?_map]
  by_cases h2:i - a<b
  ·rw[List.getElem?_range h2,List.getElem?_range (by omega)]
   show some (g (i - a))=some (if i<a then f i else g (i - a))
   rw[if_neg h]
  ·rw[List.getElem?_eq_none (by rw[List.length_range];omega),List.getElem?_eq_none (by rw[List.length_range];omega)];rfl
theorem QLV{nd n:Nat}(h1:nd<=10)(h2:n<=10):dCat (rl nd (fun d=>.str (dnm d))) (rl n (fun k=>.str (cnm k)))=.ok (rl (nd+n) (fun i=>.str (evN nd i))):=by
 show dCat (.lst _) (.lst _)=_
 rw[Qyo (by rw[List.length_map,List.length_map,List.length_range,List.length_range];omega),QON]
 refine congrArg (fun l=>Out.ok (D.lst l)) (List.map_congr_left fun i _=>?_)
 unfold evN
 split<;>rfl
theorem QLN{l:Int}{nd:Nat}{f:Nat->D}:QcC [.int l,rl nd f]=.ok (.int (pos nd l)):=by
 have hl:=lenR nd f
 rw[QFU]
 unfold QiR pos
 by_cases h:l<0
 ·rw[if_pos h]
  (repeat walk_at "e")
 ·rw[if_neg h]
  (repeat walk_at "e")
theorem QOz{n nd:Nat}{l:Int}(h1 : -(nd:Int)<=l)(h2:l<(n:Int)):dIx (rl (nd+n) (fun i=>.str (evN nd i))) (.int (pos nd l))=.ok (.str (nml cnm dnm l)):=by
 unfold pos nml
 by_cases h:l<0
 ·rw[if_pos h,if_pos h]
  obtain⟨p,hp⟩:∃ p:Nat, -1 - l=(p:Int):=⟨(-1 - l).toNat,by omega⟩
  rw[hp,ixR (by omega)]
  unfold evN
  rw[if_pos (by omega)];rfl
 ·rw[if_neg h,if_neg h]
  obtain⟨p,hp⟩:∃ p:Nat,l=(p:Int):=⟨l.toNat,by omega⟩
  rw[hp,show(nd:Int)+(p:Int)=((nd+p:Nat):Int) by omega,ixR (by omega)]
  unfold evN
  rw[if_neg (by omega)]
  show Out.ok (D.str (cnm (nd+p - nd)))=_
  rw[show nd+p - nd=p by omega];rfl
def mixV(c k:Int):Int:=(c % 2147483647+11) * (48271+2 * k * k) % 2147483629
theorem Qvc(c k:Int):0<=mixV c k/\mixV c k<2147483629:=⟨Int.emod_nonneg _ (by decide),Int.emod_lt_of_pos _ (by decide)⟩
theorem QuQ(c:Int){k:Int}(hk0:0<=k)(hk:k<=1000):QaH [.int c,.int k]=.ok (.int (mixV c k)):=by
 have c0:=Int.emod_nonneg c (b:=2147483647) (by decide)
 have c1:=Int.emod_lt_of_pos c (b:=2147483647) (by decide)
 have M:∀ i j:Int,i.natAbs<2 ^ 60->j.natAbs<2 ^ 60->dMul (.int i) (.int j)=.ok (.int (i * j)):=fun i j h1 h2=>QgY (Qan h1) (Qan h2) (by decide)
 have kk:2 * k * k<=2000000:=by
  have:=Int.mul_le_mul (show 2 * k<=2000 by omega) hk hk0 (by decide)
  omega
 have kk0:0<=2 * k * k:=Int.mul_nonneg (by omega) hk0
 have m1:=M 2 k (by decide) (by omega)
 have m2:=M (2 * k) k (by omega) (by omega)
 have m3:=M (c % 2147483647+11) (48271+2 * k * k) (by omega) (by omega)
 unfold mixV
 simp only[QaH,QoA,bodyF,retF,sSeq,thenF,sSet,sRet,sIf,sNil,eVar,eC,e1,e2,eA,f1,aNil,aCons,tVal,tAnd',tOr',tNot',eAnd,eOr,eNot,eIf,eTup,eLst,eIsa,isaT,Qc8,oNo,oSome,sPar,sUnp,QaB,gN,gT,fLen,QfF,Out.bind_ok,Out.bind_exc,Out.bind_stuck,Out.pure_eq,D.scal,Qbv,Qla,Qlz,QpY,Qti,Qiq,Qpd,Qs9,Qid,Qh2,List.length_cons,List.length_nil,List.map_cons,List.map_nil,List.cons_append,List.nil_append,List.append_nil,List.getElem?_cons_zero,List.getElem?_cons_succ,List.set_cons_zero,List.set_cons_succ,List.replicate,Nat.reduceAdd,Nat.reduceSub,Nat.reduceLeDiff,Nat.zero_add,Nat.add_zero,reduceIte,Bool.not_true,Bool.not_false,Bool.true_and,Bool.and_true,Bool.false_and,Bool.and_false,Bool.or_true,Bool.true_or,Bool.or_false,Bool.false_or,Bool.false_eq_true,decide_true,decide_false,decide_eq_true_eq,Bool.not_eq_true',decide_eq_false_iff_not,Int.reduceEq,Int.reduceLT,Int.reduceLE,Int.reduceNeg,Nat.reduceEqDiff, ↓reduceIte,not_true_eq_false,not_false_eq_true,QT (show(0:Int)<2147483647 by decide),QT (show(0:Int)<2147483629 by decide),m1,m2,m3]
theorem QHh(ns:List Int)(k:Nat):∃ v:Int,QbS [.lst (ns.map .int),.int (k:Int)]=.ok (.int v):=by
 have hlen:fLen [.lst (ns.map D.int)]=.ok (.int (ns.length:Int)):=by simp[fLen]
 by_cases h:k<ns.length
 ·have hix:dIx (.lst (ns.map D.int)) (.int (k:Int))=.ok (.int ns[k]):=ixL k (by rw[List.getElem?_map,List.getElem?_eq_getElem h];rfl)
  have hlt:(k:Int)<(ns.length:Int):=by omega
  refine⟨ns[k],?_⟩
  rw[QvS]
  unfold QhU
  (repeat walk_at "e")
 ·have hlt:¬ (k:Int)<(ns.length:Int):=by omega
  refine⟨0,?_⟩
  rw[QvS]
  unfold QhU
  (repeat walk_at "e")
def ldV(seed:Int)(n nd:Nat)(N:Int)(j:Nat):Int:=if N * (2 * (j:Int)+5) % 999983 % 8<seed / 12 % 8 then -1 - N * (2 * (j:Int)+5) % 999983 / 8 % (nd:Int) else N * (2 * (j:Int)+5) % 999983 / 8 % (n:Int)
theorem QOV{seed:Int}{n nd:Nat}(hn:1<=n)(hd:1<=nd)(N:Int)(j:Nat) : -(nd:Int)<=ldV seed n nd N j/\ldV seed n nd N j<(n:Int):=by
 unfold ldV
 have a0:=Int.emod_nonneg (N * (2 * (j:Int)+5) % 999983 / 8) (b:=(nd:Int)) (by omega)
 have a1:=Int.emod_lt_of_pos (N * (2 * (j:Int)+5) % 999983 / 8) (b:=(nd:Int)) (by omega)
 have b0:=Int.emod_nonneg (N * (2 * (j:Int)+5) % 999983 / 8) (b:=(n:Int)) (by omega)
 have b1:=Int.emod_lt_of_pos (N * (2 * (j:Int)+5) % 999983 / 8) (b:=(n:Int)) (by omega)
 split<;>omega
theorem QHK{a0 a1 a2 a6 a7 a8 a9 a10 a12 a13 a15 a16 a17:Option (SM×D)}{seed N:Int}{n nd m:Nat}{fc fd:Nat->D}(hn:1<=n)(hd:1<=nd)(hm:m<=100)(N0:0<=N)(N1:N<2147483648):
 ∃ a15' a16',loopD (fun x ς=>gN 15 x ς>>=fun ς'=>QeL ς') (Qcu 0 m) [a0,a1,a2,some (.k,.int seed),some (.k,rl n fc),some (.k,rl nd fd),a6,a7,a8,a9,a10,some (.k,.int N),a12,a13,some (.o,.lst []),a15,a16,a17]=
  .ok (.nx [a0,a1,a2,some (.k,.int seed),some (.k,rl n fc),some (.k,rl nd fd),a6,a7,a8,a9,a10,some (.k,.int N),a12,a13,some (.o,rl m (fun j=>.int (ldV seed n nd N j))),a15',a16',a17]):=by
 have M:∀ i j:Int,i.natAbs<2 ^ 60->j.natAbs<2 ^ 60->dMul (.int i) (.int j)=.ok (.int (i * j)):=fun i j h1 h2=>QgY (Qan h1) (Qan h2) (by decide)
 have lc:=lenR n fc
 have ldr:=lenR nd fd
 have d12:dFdiv (.int seed) (.int 12)=.ok (.int (seed / 12)):=QbY (by decide) (by decide)
 have p12:dMod (.int (seed / 12)) (.int 8)=.ok (.int (seed / 12 % 8)):=QT (by decide)
 generalize hC:rl n fc=C at *
 generalize hD:rl nd fd=Do at *
 obtain⟨ς',hL,a15',a16',rfl⟩:=Qgg (body:=fun x ς=>gN 15 x ς>>=fun ς'=>QeL ς') (n:=m)
  (P:=fun j ς=>∃ a15 a16,ς=[a0,a1,a2,some (.k,.int seed),some (.k,C),some (.k,Do),a6,a7,a8,a9,a10,some (.k,.int N),a12,a13,some (.o,.lst ((List.range j).map fun j=>D.int (ldV seed n nd N j))),a15,a16,a17])
  (by
   rintro j hj ς ⟨a15,a16,rfl⟩
   have e1':=M 2 j (by decide) (by omega)
   have e2':=M N (2 * (j:Int)+5) (by omega) (by omega)
   have q1:dMod (.int (N * (2 * (j:Int)+5))) (.int 999983)=.ok (.int (N * (2 * (j:Int)+5) % 999983)):=QT (by decide)
   have ea:(List.range j).map (fun j=>D.int (ldV seed n nd N j))++[D.int (ldV seed n nd N j)]=(List.range (j+1)).map fun j=>D.int (ldV seed n nd N j):=by
    rw[List.range_succ,List.map_append];rfl
   have hle:((List.range j).map fun j=>D.int (ldV seed n nd N j)).length<=1000:=by rw[List.length_map,List.length_range];omega
   have hv:ldV seed n nd N j=if N * (2 * (j:Int)+5) % 999983 % 8<seed / 12 % 8 then -1 - N * (2 * (j:Int)+5) % 999983 / 8 % (nd:Int) else N * (2 * (j:Int)+5) % 999983 / 8 % (n:Int):=rfl
   refine⟨[a0,a1,a2,some (.k,.int seed),some (.k,C),some (.k,Do),a6,a7,a8,a9,a10,some (.k,.int N),a12,a13,some (.o,.lst ((List.range (j+1)).map fun j=>D.int (ldV seed n nd N j))),some (.k,.int (j:Int)),some (.k,.int (N * (2 * (j:Int)+5) % 999983)),a17],?_,_,_,rfl⟩
   rw[← ea]
   generalize ((List.range j).map fun j=>D.int (ldV seed n nd N j))=xs at *
   generalize hG:N * (2 * (j:Int)+5) % 999983=G at *
   have d8:dFdiv (.int G) (.int 8)=.ok (.int (G / 8)):=QbY (by decide) (by decide)
   have p8:dMod (.int G) (.int 8)=.ok (.int (G % 8)):=QT (by decide)
   have pd:dMod (.int (G / 8)) (.int (nd:Int))=.ok (.int (G / 8 % (nd:Int))):=QT (by omega)
   have pn:dMod (.int (G / 8)) (.int (n:Int))=.ok (.int (G / 8 % (n:Int))):=QT (by omega)
   rw[hv]
   refine r_gN (by walk_at "s") ?_
   unfold QeL
   refine r_seq (fl:=.nx [a0,a1,a2,some (.k,.int seed),some (.k,C),some (.k,Do),a6,a7,a8,a9,a10,some (.k,.int N),a12,a13,some (.o,.lst xs),some (.k,.int (j:Int)),some (.k,.int G),a17]) (by (repeat walk_at "e")) (Qx ?_)
   by_cases h:G % 8<seed / 12 % 8
   ·rw[if_pos h]
    refine r_ifT (by (repeat walk_at "e")) (decide_eq_true h) ?_
    exact r_app rfl (by (repeat walk_at "e")) hle (by walk_at "s")
   ·rw[if_neg h]
    refine r_ifF (by (repeat walk_at "e")) (decide_eq_false h) ?_
    exact r_app rfl (by (repeat walk_at "e")) hle (by walk_at "s"))
  [a0,a1,a2,some (.k,.int seed),some (.k,C),some (.k,Do),a6,a7,a8,a9,a10,some (.k,.int N),a12,a13,some (.o,.lst []),a15,a16,a17] ⟨_,_,rfl⟩
 exact⟨a15',a16',hL⟩
theorem QLE{ns:List Int}{seed:Int}{a3:List (Option (SM×D))}:∃ cs:List Int,1<=cs.length/\cs.length<=7/\e2 dCat (eSl (eVar 0) (oSome (eVar 1)) (oSome (e2 dAdd (eVar 1) (eVar 2)))) (e2 dRep (eLst (aCons (eVar 3) aNil)) (eA (f1 dInt) (aCons (e2 dLe (eA fLen (aCons (eVar 0) aNil)) (eVar 1)) aNil))) (some (.k,.lst (ns.map D.int))::some (.k,.int 2)::some (.k,.int 7)::some (.k,.int seed)::a3)=.ok (.lst (cs.map D.int)):=by
 have hlen:fLen [.lst (ns.map D.int)]=.ok (.int (ns.length:Int)):=by simp[fLen]
 have hsl:eSl (eVar 0) (oSome (eVar 1)) (oSome (e2 dAdd (eVar 1) (eVar 2))) (some (.k,.lst (ns.map D.int))::some (.k,.int 2)::some (.k,.int 7)::some (.k,.int seed)::a3)=.ok (.lst (((ns.drop 2).take 7).map D.int)):=by
  refine r_sl (xs:=ns.map D.int) (p:=some ((2:Nat):Int)) (q:=some ((9:Nat):Int)) rfl rfl rfl ?_
  rw[QOK,List.map_take,List.map_drop]
 have hd:=dblI (decide ((ns.length:Int)<=2))
 by_cases h:ns.length<=2
 ·have hr:dRep (.lst [.int seed]) (.int 1)=.ok (rl 1 (fun _=>.int seed)):=QDG (N:=1) (by decide)
  rw[decide_eq_true (show(ns.length:Int)<=2 by omega)]at hd
  have hd:f1 dInt [.bl true]=.ok (.int 1):=hd
  have hdr:ns.drop 2=[]:=List.drop_eq_nil_of_le h
  have hle:decide ((ns.length:Int)<=2)=true:=decide_eq_true (by omega)
  have hL:dLe (.int (ns.length:Int)) (.int 2)=.ok (.bl true):=by rw[Qiq,hle]
  have hcat:dCat (.lst (((ns.drop 2).take 7).map D.int)) (rl 1 (fun _=>.int seed))=.ok (.lst ([seed].map D.int)):=by
   rw[hdr];rfl
  exact⟨[seed],show 1<=1 by decide,show 1<=7 by decide,r_e2 hsl (r_e2 (r_lst (QA (r_var rfl) r_nil) (show 1<=1000 by decide)) (r_eA (QA (r_e2 (r_eA (QA (r_var rfl) r_nil) hlen) (r_var rfl) hL) r_nil) hd) hr) hcat⟩
 ·have hr:dRep (.lst [.int seed]) (.int 0)=.ok (rl 0 (fun _=>.int seed)):=QDG (N:=0) (by decide)
  rw[decide_eq_false (show ¬ (ns.length:Int)<=2 by omega)]at hd
  have hd:f1 dInt [.bl false]=.ok (.int 0):=hd
  have hL:dLe (.int (ns.length:Int)) (.int 2)=.ok (.bl false):=by rw[Qiq,decide_eq_false (by omega)]
  have hl:((ns.drop 2).take 7).length<=7:=by rw[List.length_take];omega
  have hcat:dCat (.lst (((ns.drop 2).take 7).map D.int)) (rl 0 (fun _=>.int seed))=.ok (.lst (((ns.drop 2).take 7).map D.int)):=by
   show dCat (.lst _) (.lst [])=_
   rw[Qyo (by rw[List.length_map];show _+0<=1000;omega),List.append_nil]
  exact⟨(ns.drop 2).take 7,by rw[List.length_take,List.length_drop];omega,hl,r_e2 hsl (r_e2 (r_lst (QA (r_var rfl) r_nil) (show 1<=1000 by decide)) (r_eA (QA (r_e2 (r_eA (QA (r_var rfl) r_nil) hlen) (r_var rfl) hL) r_nil) hd) hr) hcat⟩
theorem QKX{nd:Nat}(h1:1<=nd)(h3:nd<=3):cutD [D.str "x",.str "y",.str "z"] none (some (nd:Int))=(List.range nd).map fun d=>.str (dnm d):=by
 rw[QPC]
 rcases(by omega:nd=1∨nd=2∨nd=3) with rfl | rfl | rfl<;>rfl
theorem QMe(ns:List Int):∃(n nd:Nat)(c:Nat->Str)(t:Nat->List (List Int))(m:Nat->Nat)(ld:Nat->Nat->Int)(st:Nat->Int),n<=7/\nd<=3/\Seats n nd cnm dnm c t m ld st/\
 Qdf [.lst (ns.map D.int),.int 2,.int 7]=.ok (.lst [offD n nd cnm dnm c t m ld st,rl n (fun k=>tbD (t k)),rl n (fun k=>rl (m k) (fun j=>.int (ld k j))),.int (nd:Int)]):=by
 obtain⟨v,hv⟩:=QHh ns 0
 have hmx:=QuQ v (k:=0) (by decide) (by decide)
 obtain⟨s0,s1⟩:=Qvc v 0
 generalize hseed:mixV v 0=seed at *
 obtain⟨cs,c1,c7,hcells⟩:=QLE (ns:=ns) (seed:=seed) (a3:=[none,none,none,none,none,none,none,none,none,none,none,none,none,none])
 obtain⟨nd,hnd⟩:∃ nd:Nat,1+seed % 3=(nd:Int):=⟨(1+seed % 3).toNat,by omega⟩
 have d1:1<=nd:=by omega
 have d3:nd<=3:=by omega
 have p3:dMod (.int seed) (.int 3)=.ok (.int (seed % 3)):=QT (by decide)
 have dv3:dFdiv (.int seed) (.int 3)=.ok (.int (seed / 3)):=QbY (by decide) (by decide)
 have p4:dMod (.int (seed / 3)) (.int 4)=.ok (.int (seed / 3 % 4)):=QT (by decide)
 obtain⟨T,T1,T10,hT⟩:∃ T:Int,1<=T/\T<=10/\dIx (.lst [.int 2,.int 3,.int 4,.int 10]) (.int (seed / 3 % 4))=.ok (.int T):=by
  have h:seed / 3 % 4=0∨seed / 3 % 4=1∨seed / 3 % 4=2∨seed / 3 % 4=3:=by omega
  rcases h with h | h | h | h<;>rw[h]
  ·exact⟨2,by decide,by decide,ixL 0 rfl⟩
  ·exact⟨3,by decide,by decide,ixL 1 rfl⟩
  ·exact⟨4,by decide,by decide,ixL 2 rfl⟩
  ·exact⟨10,by decide,by decide,ixL 3 rfl⟩
 generalize hn:cs.length=n at *
 let N:Nat->Int:=fun k=>mixV (cs.getD k 0) ((k:Int)+2)
 have H:∀ k:Nat,∃ x:Str×List (List Int)×Nat,CK.contains x.1=true/\Tb x.2.1 x.2.2/\Qbm [.int (N k),.int T]=.ok (.lst [ck x.1 x.2.1 x.2.2,tbD x.2.1]):=fun k=>by
  obtain⟨b0,b1⟩:=Qvc (cs.getD k 0) ((k:Int)+2)
  obtain⟨c,t,m,h1,h2,h3⟩:=QMu (N:=N k) (T:=T) b0 (Int.lt_trans b1 (by decide)) T1 T10
  exact⟨(c,t,m),h1,h2,h3⟩
 obtain⟨X,hX⟩:=Classical.axiomOfChoice H
 let c:Nat->Str:=fun k=>(X k).1
 let t:Nat->List (List Int):=fun k=>(X k).2.1
 let m:Nat->Nat:=fun k=>(X k).2.2
 let ld:Nat->Nat->Int:=fun k j=>ldV seed n nd (N k) j
 let st:Nat->Int:=fun k=>N k / 11 % ((t k).length:Int)
 have sts:Seats n nd cnm dnm c t m ld st:=⟨by omega,by omega,d1,by omega,fun k _=>(hX k).1,fun k _=>(hX k).2.1,fun k j _ _=>QOV (by omega) d1 (N k) j,fun k _=>by
  have h1:1<=(t k).length:=(hX k).2.1.n1
  exact⟨Int.emod_nonneg _ (by show((t k).length:Int)≠0;omega),Int.emod_lt_of_pos _ (by show 0<((t k).length:Int);omega)⟩,fun k h=>cisn (by omega),fun d h=>disn (by omega),fun i j hi hj e=>QM3 (by omega) (by omega) e,fun i j hi hj e=>QNZ (by omega) (by omega) e,fun i d hi hd=>QPg (by omega) (by omega)⟩
 refine⟨n,nd,c,t,m,ld,st,by omega,d3,sts,?_⟩
 have hck:∀ k,Qbm [.int (N k),.int T]=.ok (.lst [ck (c k) (t k) (m k),tbD (t k)]):=fun k=>(hX k).2.2
 have mk:=QK1 sts
 have hldv:∀ k j,ld k j=ldV seed n nd (N k) j:=fun _ _=>rfl
 have hst:∀ k,st k=N k / 11 % ((t k).length:Int):=fun _=>rfl
 have hNb:∀ k,0<=N k/\N k<2147483648:=fun k=>by
  obtain⟨b0,b1⟩:=Qvc (cs.getD k 0) ((k:Int)+2)
  exact⟨b0,Int.lt_trans b1 (by decide)⟩
 have hNm:∀ k:Nat,k<n->QaH [.int (cs.getD k 0),.int ((k:Int)+2)]=.ok (.int (N k)):=fun k hk=>QuQ _ (by omega) (by omega)
 clear_value N c t m ld st
 have hcl:cs.map D.int=(List.range n).map fun k=>D.int (cs.getD k 0):=QKi hn
 rw[hcl]at hcells
 have hcx:∀ k:Nat,k<n->dIx (rl n (fun k=>.int (cs.getD k 0))) (.int (k:Int))=.ok (.int (cs.getD k 0)):=fun k hk=>ixR hk
 have hlc:=lenR n (fun k=>D.int (cs.getD k 0))
 have hld:=lenR nd (fun d=>D.str (dnm d))
 have hev:=QLV (nd:=nd) (n:=n) (by omega) (by omega)
 generalize hS:D.lst (ns.map D.int)=S at *
 have hcells:e2 dCat (eSl (eVar 0) (oSome (eVar 1)) (oSome (e2 dAdd (eVar 1) (eVar 2)))) (e2 dRep (eLst (aCons (eVar 3) aNil)) (eA (f1 dInt) (aCons (e2 dLe (eA fLen (aCons (eVar 0) aNil)) (eVar 1)) aNil))) [some (.k,S),some (.k,.int 2),some (.k,.int 7),some (.k,.int seed),none,none,none,none,none,none,none,none,none,none,none,none,none,none]=.ok (rl n (fun k=>.int (cs.getD k 0))):=hcells
 generalize hC:rl n (fun k=>D.int (cs.getD k 0))=Ce at *
 obtain⟨ς',hL,a10,a11,a12,a13,a14,a15,a16,a17,rfl⟩:=Qgg (body:=fun x ς=>gN 10 x ς>>=fun ς'=>QgA ς') (n:=n)
  (P:=fun k ς=>∃ a10 a11 a12 a13 a14 a15 a16 a17,ς=[some (.k,S),some (.k,.int 2),some (.k,.int 7),some (.k,.int seed),some (.k,Ce),some (.k,rl nd (fun d=>.str (dnm d))),some (.k,rl (nd+n) (fun i=>.str (evN nd i))),some (.o,rl k (seatD cnm dnm c t m ld st)),some (.o,rl k (fun k=>tbD (t k))),some (.o,rl k (fun k=>rl (m k) (fun j=>.int (ld k j)))),a10,a11,a12,a13,a14,a15,a16,a17])
  (by
   rintro k hk ς ⟨a10,a11,a12,a13,a14,a15,a16,a17,rfl⟩
   have tb:=sts.tb k hk
   have tn1:=tb.n1
   have m6:=tb.m6
   obtain⟨r0,hr0,hrl⟩:∃ r0,(t k)[0]?=some r0/\r0.length=m k:=by
    have h0:0<(t k).length:=by omega
    exact⟨(t k)[0],List.getElem?_eq_getElem h0,tb.row _ (List.getElem_mem h0)⟩
   have hx0:dIx (tbD (t k)) (.int 0)=.ok (dl r0):=ixL 0 (by rw[List.getElem?_map,hr0];rfl)
   have hl0:fLen [dl r0]=.ok (.int (m k:Int)):=by rw[← hrl];simp[fLen,dl]
   have hlt:fLen [tbD (t k)]=.ok (.int ((t k).length:Int)):=by simp[fLen,tbD]
   have hcxk:=hcx k hk
   have hmk:=hNm k hk
   have hckk:=hck k
   obtain⟨N0,N1⟩:=hNb k
   generalize hE:rl (nd+n) (fun i=>D.str (evN nd i))=Ev at *
   generalize hDo:rl nd (fun d=>D.str (dnm d))=Do at *
   have hex:dIx Ev (.int ((nd:Int)+(k:Int)))=.ok (.str (cnm k)):=by
    subst hE
    rw[show(nd:Int)+(k:Int)=((nd+k:Nat):Int) by omega,ixR (by omega)]
    unfold evN
    rw[if_neg (by omega),show nd+k - nd=k by omega]
   generalize hA7:rl k (seatD cnm dnm c t m ld st)=A7
   generalize hA8:rl k (fun k=>tbD (t k))=A8
   generalize hA9:rl k (fun k=>rl (m k) (fun j=>D.int (ld k j)))=A9
   have s11:sSet 11 (eA (fun xs=>QaH (xs++[])) (aCons (e2 dIx (eVar 4) (eVar 10)) (aCons (e2 dAdd (eVar 10) (eC (.int 2))) aNil))) [some (.k,S),some (.k,.int 2),some (.k,.int 7),some (.k,.int seed),some (.k,Ce),some (.k,Do),some (.k,Ev),some (.o,A7),some (.o,A8),some (.o,A9),some (.k,.int (k:Int)),a11,a12,a13,a14,a15,a16,a17]=.ok (.nx [some (.k,S),some (.k,.int 2),some (.k,.int 7),some (.k,.int seed),some (.k,Ce),some (.k,Do),some (.k,Ev),some (.o,A7),some (.o,A8),some (.o,A9),some (.k,.int (k:Int)),some (.k,.int (N k)),a12,a13,a14,a15,a16,a17]):=by (repeat walk_at "e")
   have s12:sUnpL [12,13] (eA (fun xs=>Qbm (xs++[])) (aCons (eVar 11) (aCons (e2 dIx (eLst (aCons (eC (.int 2)) (aCons (eC (.int 3)) (aCons (eC (.int 4)) (aCons (eC (.int 10)) aNil))))) (e2 dMod (e2 dFdiv (eVar 3) (eC (.int 3))) (eC (.int 4)))) aNil))) [some (.k,S),some (.k,.int 2),some (.k,.int 7),some (.k,.int seed),some (.k,Ce),some (.k,Do),some (.k,Ev),some (.o,A7),some (.o,A8),some (.o,A9),some (.k,.int (k:Int)),some (.k,.int (N k)),a12,a13,a14,a15,a16,a17]=.ok (.nx [some (.k,S),some (.k,.int 2),some (.k,.int 7),some (.k,.int seed),some (.k,Ce),some (.k,Do),some (.k,Ev),some (.o,A7),some (.o,A8),some (.o,A9),some (.k,.int (k:Int)),some (.k,.int (N k)),some (.k,ck (c k) (t k) (m k)),some (.k,tbD (t k)),a14,a15,a16,a17]):=by
    have hh:eA (fun xs=>Qbm (xs++[])) (aCons (eVar 11) (aCons (e2 dIx (eLst (aCons (eC (.int 2)) (aCons (eC (.int 3)) (aCons (eC (.int 4)) (aCons (eC (.int 10)) aNil))))) (e2 dMod (e2 dFdiv (eVar 3) (eC (.int 3))) (eC (.int 4)))) aNil)) [some (.k,S),some (.k,.int 2),some (.k,.int 7),some (.k,.int seed),some (.k,Ce),some (.k,Do),some (.k,Ev),some (.o,A7),some (.o,A8),some (.o,A9),some (.k,.int (k:Int)),some (.k,.int (N k)),a12,a13,a14,a15,a16,a17]=.ok (.lst [ck (c k) (t k) (m k),tbD (t k)]):=by (repeat walk_at "e")
    unfold sUnpL
    rw[hh]
    rfl
   obtain⟨b15,b16,hLL⟩:=QHK (a0:=some (.k,S)) (a1:=some (.k,.int 2)) (a2:=some (.k,.int 7)) (a6:=some (.k,Ev)) (a7:=some (.o,A7)) (a8:=some (.o,A8)) (a9:=some (.o,A9)) (a10:=some (.k,.int (k:Int))) (a12:=some (.k,ck (c k) (t k) (m k))) (a13:=some (.k,tbD (t k))) (a15:=a15) (a16:=a16) (a17:=a17) (seed:=seed) (N:=N k) (n:=n) (nd:=nd) (m:=m k) (fc:=fun k=>D.int (cs.getD k 0)) (fd:=fun d=>D.str (dnm d)) (by omega) d1 (by omega) N0 N1
   rw[hC,hDo]at hLL
   have hldf:rl (m k) (fun j=>D.int (ldV seed n nd (N k) j))=rl (m k) (fun j=>D.int (ld k j)):=Qcc fun j _=>by rw[hldv]
   rw[hldf]at hLL
   have hrm:eA fLen (aCons (e2 dIx (eVar 13) (eC (.int 0))) aNil) [some (.k,S),some (.k,.int 2),some (.k,.int 7),some (.k,.int seed),some (.k,Ce),some (.k,Do),some (.k,Ev),some (.o,A7),some (.o,A8),some (.o,A9),some (.k,.int (k:Int)),some (.k,.int (N k)),some (.k,ck (c k) (t k) (m k)),some (.k,tbD (t k)),some (.o,.lst []),a15,a16,a17]=.ok (.int (m k:Int)):=by (repeat walk_at "e")
   have hfor:=Qbk (g:=gN 15) (T:=QeL) (QcP (m k) hrm (by omega)) hLL
   have hcm:eComp [none,some 6,some 5] (itLB (eVarB 14)) (gN 0) cTrue QjM [some (.k,S),some (.k,.int 2),some (.k,.int 7),some (.k,.int seed),some (.k,Ce),some (.k,Do),some (.k,Ev),some (.o,A7),some (.o,A8),some (.o,A9),some (.k,.int (k:Int)),some (.k,.int (N k)),some (.k,ck (c k) (t k) (m k)),some (.k,tbD (t k)),some (.o,rl (m k) (fun j=>.int (ld k j))),b15,b16,a17]=.ok (rl (m k) (fun j=>.str (nml cnm dnm (ld k j)))):=by
    refine QZ (fun j=>D.int (ld k j)) (fun j=>D.str (nml cnm dnm (ld k j))) ?_ (fun j hj=>?_) (by rw[List.length_range];omega)
    ·unfold itLB
     rw[Qgs rfl,Out.bind_ok]
     show(if _=true then Out.ok _ else .stuck)=_
     rw[if_pos (allR fun i _=>rfl)]
    ·obtain⟨r1,r2⟩:=sts.ldr k j hk (List.mem_range.mp hj)
     have hp:QcC [.int (ld k j),Do]=.ok (.int (pos nd (ld k j))):=by rw[← hDo];exact QLN
     have hx:dIx Ev (.int (pos nd (ld k j)))=.ok (.str (nml cnm dnm (ld k j))):=by rw[← hE];exact QOz r1 r2
     refine Q9 (by walk_at "cap") (by walk_at "s") ?_
     unfold QjM
     (repeat walk_at "e")
   have d11:dFdiv (.int (N k)) (.int 11)=.ok (.int (N k / 11)):=QbY (by decide) (by decide)
   have pst:dMod (.int (N k / 11)) (.int ((t k).length:Int))=.ok (.int (st k)):=by rw[QT (by omega),hst]
   have e7:A7=.lst ((List.range k).map (seatD cnm dnm c t m ld st)):=hA7.symm
   have e8:A8=.lst ((List.range k).map fun k=>tbD (t k)):=hA8.symm
   have e9:A9=.lst ((List.range k).map fun k=>rl (m k) (fun j=>D.int (ld k j))):=hA9.symm
   have x7:(List.range k).map (seatD cnm dnm c t m ld st)++[.tup [.str (cnm k),ck (c k) (t k) (m k),rl (m k) (fun j=>.str (nml cnm dnm (ld k j))),.int (st k)]]=(List.range (k+1)).map (seatD cnm dnm c t m ld st):=by
    rw[List.range_succ,List.map_append];rfl
   have x8:((List.range k).map fun k=>tbD (t k))++[tbD (t k)]=(List.range (k+1)).map fun k=>tbD (t k):=by
    rw[List.range_succ,List.map_append];rfl
   have x9:((List.range k).map fun k=>rl (m k) (fun j=>D.int (ld k j)))++[rl (m k) (fun j=>D.int (ld k j))]=(List.range (k+1)).map fun k=>rl (m k) (fun j=>D.int (ld k j)):=by
    rw[List.range_succ,List.map_append];rfl
   have l7:((List.range k).map (seatD cnm dnm c t m ld st)).length<=1000:=by rw[List.length_map,List.length_range];omega
   have l8:((List.range k).map fun k=>tbD (t k)).length<=1000:=by rw[List.length_map,List.length_range];omega
   have l9:((List.range k).map fun k=>rl (m k) (fun j=>D.int (ld k j))).length<=1000:=by rw[List.length_map,List.length_range];omega
   have y7:QbW 7 (eTup (aCons (e2 dIx (eVar 6) (e2 dAdd (eA fLen (aCons (eVar 5) aNil)) (eVar 10))) (aCons (eVar 12) (aCons (eVar 17) (aCons (e2 dMod (e2 dFdiv (eVar 11) (eC (.int 11))) (eA fLen (aCons (eVar 13) aNil))) aNil))))) [some (.k,S),some (.k,.int 2),some (.k,.int 7),some (.k,.int seed),some (.k,Ce),some (.k,Do),some (.k,Ev),some (.o,A7),some (.o,A8),some (.o,A9),some (.k,.int (k:Int)),some (.k,.int (N k)),some (.k,ck (c k) (t k) (m k)),some (.k,tbD (t k)),some (.o,rl (m k) (fun j=>.int (ld k j))),b15,b16,some (.k,rl (m k) (fun j=>.str (nml cnm dnm (ld k j))))]=.ok (.nx [some (.k,S),some (.k,.int 2),some (.k,.int 7),some (.k,.int seed),some (.k,Ce),some (.k,Do),some (.k,Ev),some (.o,rl (k+1) (seatD cnm dnm c t m ld st)),some (.o,A8),some (.o,A9),some (.k,.int (k:Int)),some (.k,.int (N k)),some (.k,ck (c k) (t k) (m k)),some (.k,tbD (t k)),some (.o,rl (m k) (fun j=>.int (ld k j))),b15,b16,some (.k,rl (m k) (fun j=>.str (nml cnm dnm (ld k j))))]):=by
    rw[e7]
    refine r_app (d:=.tup [.str (cnm k),ck (c k) (t k) (m k),rl (m k) (fun j=>.str (nml cnm dnm (ld k j))),.int (st k)]) rfl (by (repeat walk_at "e")) l7 ?_
    rw[x7]
    walk_at "s"
   refine⟨[some (.k,S),some (.k,.int 2),some (.k,.int 7),some (.k,.int seed),some (.k,Ce),some (.k,Do),some (.k,Ev),some (.o,rl (k+1) (seatD cnm dnm c t m ld st)),some (.o,rl (k+1) (fun k=>tbD (t k))),some (.o,rl (k+1) (fun k=>rl (m k) (fun j=>.int (ld k j)))),some (.k,.int (k:Int)),some (.k,.int (N k)),some (.k,ck (c k) (t k) (m k)),some (.k,tbD (t k)),some (.k,rl (m k) (fun j=>.int (ld k j))),b15,b16,some (.k,rl (m k) (fun j=>.str (nml cnm dnm (ld k j))))],?_,_,_,_,_,_,_,_,_,rfl⟩
   refine r_gN (by walk_at "s") ?_
   unfold QgA
   refine r_seq s11 (Qx (r_seq s12 (Qx (r_seq (QeK (d:=.lst []) rfl (by walk_at "s")) (Qx (r_seq hfor (Qx (r_seq (r_set hcm (by walk_at "s")) (Qx (r_seq y7 (Qx ?_)))))))))))
   refine r_seq (fl:=.nx [some (.k,S),some (.k,.int 2),some (.k,.int 7),some (.k,.int seed),some (.k,Ce),some (.k,Do),some (.k,Ev),some (.o,rl (k+1) (seatD cnm dnm c t m ld st)),some (.o,rl (k+1) (fun k=>tbD (t k))),some (.o,A9),some (.k,.int (k:Int)),some (.k,.int (N k)),some (.k,ck (c k) (t k) (m k)),some (.k,tbD (t k)),some (.o,rl (m k) (fun j=>.int (ld k j))),b15,b16,some (.k,rl (m k) (fun j=>.str (nml cnm dnm (ld k j))))]) ?_ (Qx ?_)
   ·rw[e8]
    refine r_app rfl (r_var rfl) l8 ?_
    rw[x8]
    walk_at "s"
   ·refine QBX (T:=QbW 9 (eVar 14)) (QD0 (d:=rl (m k) (fun j=>.int (ld k j))) rfl (by walk_at "s")) ?_
    rw[e9]
    refine r_app rfl (r_var rfl) l9 ?_
    rw[x9]
    walk_at "s")
  [some (.k,S),some (.k,.int 2),some (.k,.int 7),some (.k,.int seed),some (.k,Ce),some (.k,rl nd (fun d=>.str (dnm d))),some (.k,rl (nd+n) (fun i=>.str (evN nd i))),some (.o,.lst []),some (.o,.lst []),some (.o,.lst []),none,none,none,none,none,none,none,none] ⟨_,_,_,_,_,_,_,_,rfl⟩
 have hR:itR1 (eA fLen (aCons (eVar 4) aNil)) [some (.k,S),some (.k,.int 2),some (.k,.int 7),some (.k,.int seed),some (.k,Ce),some (.k,rl nd (fun d=>.str (dnm d))),some (.k,rl (nd+n) (fun i=>.str (evN nd i))),some (.o,.lst []),some (.o,.lst []),some (.o,.lst []),none,none,none,none,none,none,none,none]=.ok (Qcu 0 n):=QcP n (by (repeat walk_at "e")) (by omega)
 have hfor:=Qbk (g:=gN 10) (T:=QgA) hR hL
 have s3:sSet 3 (eA (fun xs=>QaH (xs++[])) (aCons (eA (fun xs=>QbS (xs++[])) (aCons (eVar 0) (aCons (eC (.int 0)) aNil))) (aCons (eC (.int 0)) aNil))) [some (.k,S),some (.k,.int 2),some (.k,.int 7),none,none,none,none,none,none,none,none,none,none,none,none,none,none,none]=.ok (.nx [some (.k,S),some (.k,.int 2),some (.k,.int 7),some (.k,.int seed),none,none,none,none,none,none,none,none,none,none,none,none,none,none]):=by
  have hv:QbS [S,.int 0]=.ok (.int v):=hv
  (repeat walk_at "e")
 have s5:sSet 5 (eSl (eLst (aCons (eC (.str "x")) (aCons (eC (.str "y")) (aCons (eC (.str "z")) aNil)))) oNo (oSome (e2 dAdd (eC (.int 1)) (e2 dMod (eVar 3) (eC (.int 3)))))) [some (.k,S),some (.k,.int 2),some (.k,.int 7),some (.k,.int seed),some (.k,Ce),none,none,none,none,none,none,none,none,none,none,none,none,none]=.ok (.nx [some (.k,S),some (.k,.int 2),some (.k,.int 7),some (.k,.int seed),some (.k,Ce),some (.k,rl nd (fun d=>.str (dnm d))),none,none,none,none,none,none,none,none,none,none,none,none]):=by
  refine r_set (r_sl (xs:=[.str "x",.str "y",.str "z"]) (p:=none) (q:=some (nd:Int)) rfl rfl ?_ (QKX d1 d3)) (by walk_at "s")
  rw[← hnd]
  exact QG2 (r_e2 r_C (r_e2 (r_var rfl) r_C p3) (Qbv _ _))
 have hcomp:eComp [none] (itR1 (eA fLen (aCons (eVar 4) aNil))) (gN 0) cTrue Qkt [some (.k,S),some (.k,.int 2),some (.k,.int 7),some (.k,.int seed),some (.k,Ce),some (.k,rl nd (fun d=>.str (dnm d))),none,none,none,none,none,none,none,none,none,none,none,none]=.ok (rl n (fun k=>.str (cnm k))):=by
  refine QZ (fun k:Nat=>D.int ((0:Int)+k)) (fun k=>D.str (cnm k)) (QcP n (by (repeat walk_at "e")) (by omega)) (fun k hk=>?_) (by rw[List.length_range];omega)
  have hk:=List.mem_range.mp hk
  have:=QO1 (k:=k) (by omega)
  refine Q9 (by walk_at "cap") (by walk_at "s") ?_
  rw[Int.zero_add]
  unfold Qkt
  (repeat walk_at "e")
 have mk':Qb2 "Office" [] [rl n (seatD cnm dnm c t m ld st),.lst [.tup [.str "in",.str "a"]],rl nd (fun d=>.str (dnm d))]=.ok (offF n nd cnm dnm c t m ld st):=mk
 rw[QFS]
 unfold QiI
 refine Qct (r_seq s3 (Qx (r_seq (r_set hcells (by walk_at "s")) (Qx (r_seq s5 (Qx (r_seq (r_set (r_e2 (r_var rfl) hcomp hev) (by walk_at "s")) (Qx (r_seq (QeK (d:=.lst []) rfl (by walk_at "s")) (Qx (r_seq (QeK (d:=.lst []) rfl (by walk_at "s")) (Qx (r_seq (QeK (d:=.lst []) rfl (by walk_at "s")) (Qx (r_seq hfor (Qx ?_)))))))))))))))) r_rtT
 have hz:frzs [7,8,9] [some (.k,S),some (.k,.int 2),some (.k,.int 7),some (.k,.int seed),some (.k,Ce),some (.k,rl nd (fun d=>.str (dnm d))),some (.k,rl (nd+n) (fun i=>.str (evN nd i))),some (.o,rl n (seatD cnm dnm c t m ld st)),some (.o,rl n (fun k=>tbD (t k))),some (.o,rl n (fun k=>rl (m k) (fun j=>.int (ld k j)))),a10,a11,a12,a13,a14,a15,a16,a17]=[some (.k,S),some (.k,.int 2),some (.k,.int 7),some (.k,.int seed),some (.k,Ce),some (.k,rl nd (fun d=>.str (dnm d))),some (.k,rl (nd+n) (fun i=>.str (evN nd i))),some (.k,rl n (seatD cnm dnm c t m ld st)),some (.k,rl n (fun k=>tbD (t k))),some (.k,rl n (fun k=>rl (m k) (fun j=>.int (ld k j)))),a10,a11,a12,a13,a14,a15,a16,a17]:=rfl
 show(sRetF _ (frzs [7,8,9] _))=_
 rw[hz]
 refine Qfk (r_lst (QA (QoF (QA (r_var rfl) (QA (r_lst (QA (r_tup (QA r_C (QA r_C r_nil)) (show 2<=1000 by decide)) r_nil) (show 1<=1000 by decide)) (QA (r_var rfl) r_nil))) mk') (QA (r_var rfl) (QA (r_var rfl) (QA (r_eA (QA (r_var rfl) r_nil) hld) r_nil)))) (show 4<=1000 by decide))
def sf(t:List (List Int))(x:Int)(j:Nat):Int:=x / (t.length:Int) * cs t t.length j+cs t (x % (t.length:Int)).toNat j
theorem QNq(f:Int->Int->Int)(t:List (List Int))(m a b:Nat):List.zipWith f (pre t m a) (pre t m b)=(List.range m).map fun j=>f (cs t a j) (cs t b j):=by
 unfold pre
 rw[List.zipWith_map,List.zipWith_self]
theorem QKJ{c:Str}(hc:CK.contains c=true){t:List (List Int)}{m:Nat}(h:Tb t m){x:Int}(h0:0<=x)(hx:x.natAbs<2 ^ 4000)(hcs:∀ k j,(cs t k j).natAbs<2 ^ 100):QV [ck c t m,.int x]=.ok (dl ((List.range m).map (sf t x))):=by
 have n1:=h.n1
 have hn:(0:Int)<(t.length:Int):=by omega
 have hb:big (t.length:Int)=true:=QJn (n:=10) (by have:=h.n2;show((t.length:Int)).natAbs<2 ^ 10;omega) (by decide)
 have fd:dFdiv (.int x) (.int (t.length:Int))=.ok (.int (x / (t.length:Int))):=QbY hn hb
 have md:dMod (.int x) (.int (t.length:Int))=.ok (.int (x % (t.length:Int))):=QT hn
 have r0:=Int.emod_nonneg x (show(t.length:Int)≠0 by omega)
 have r1:=Int.emod_lt_of_pos x hn
 have hr:((x % (t.length:Int)).toNat:Int)=x % (t.length:Int):=by omega
 have hix:=hd_ix (t:=t) (m:=m) (k:=(x % (t.length:Int)).toNat) (by omega)
 rw[hr]at hix
 have qb:(x / (t.length:Int)).natAbs<2 ^ 4000:=Nat.lt_of_le_of_lt (Int.natAbs_ediv_le_natAbs x _) hx
 have hcomp:=QuI (js:=[none,none,some 2]) (its:=itZ (eMeth CK "whole" (fun _=>QbZ) (eVar 0) aNil) (eVar 3)) (e:=Qe3)
  (ς:=[some (.k,ck c t m),some (.k,.int x),some (.k,.int (x / (t.length:Int))),some (.k,dl (pre t m (x % (t.length:Int)).toNat))]) (a:=pre t m t.length) (b:=pre t m (x % (t.length:Int)).toNat) (fun w v=>x / (t.length:Int) * w+v)
  (by
   unfold itZ
   rw[Qfx (c:=c) (t:=t) (m:=m) hc (xs:=[]) rfl rfl (dk) (dk),QL5 hc t m]
   rfl)
  (by
   intro w hw v hv
   obtain⟨j,_,rfl⟩:=List.mem_map.mp hw
   have mm:dMul (.int (x / (t.length:Int))) (.int (cs t t.length j))=.ok (.int (x / (t.length:Int) * cs t t.length j)):=QgY (Qan qb) (Qan (hcs _ _)) (by decide)
   show(e2 dAdd (e2 dMul (eVar 2) (eVar 0)) (eVar 1) [some (.k,.int (cs t t.length j)),some (.k,.int v),some (.k,.int (x / (t.length:Int)))]>>=fun y=>Out.ok (some y))=_
   simp only[e2,eVar,List.getElem?_cons_succ,List.getElem?_cons_zero,Out.bind_ok,mm,Qbv])
  (by simp[pre];have:=h.m6;omega)
 rw[QNq]at hcomp
 rw[Qmg]
 unfold Qb4
 simp only[sSeq,sSet,e1,e2,eVar,List.getElem?_cons_succ,List.getElem?_cons_zero,Out.bind_ok,thenF,per_m hc t m (ς:=[some (.k,ck c t m),some (.k,.int x),none,none]) rfl,fd,md,List.set_cons_succ,List.set_cons_zero,
  per_m hc t m (ς:=[some (.k,ck c t m),some (.k,.int x),some (.k,.int (x / (t.length:Int))),none]) rfl,fld_h hc,hix,sRetF,hcomp]
 rfl
theorem QNl{c:Str}(hc:CK.contains c=true){t:List (List Int)}{m:Nat}(h:Tb t m){s x:Int}(s0:0<=s)(x0:0<=x)(hs:s.natAbs<2 ^ 4000)(hx:(s+x).natAbs<2 ^ 4000)(hcs:∀ k j,(cs t k j).natAbs<2 ^ 100):
 QbO [ck c t m,.int s,.int x]=.ok (dl ((List.range m).map fun j=>sf t (s+x) j - sf t s j)):=by
 have f1':=QKJ hc h (x:=s+x) (by omega) hx hcs
 have f2':=QKJ hc h (x:=s) s0 hs hcs
 have g1:∀ ς:SD,ς[0]?=some (some (.k,ck c t m))->ς[1]?=some (some (.k,.int s))->ς[2]?=some (some (.k,.int x))->eMeth CK "sent_from_start" (fun _=>QV) (eVar 0) (aCons (e2 dAdd (eVar 1) (eVar 2)) aNil) ς=.ok (dl ((List.range m).map (sf t (s+x)))):=fun ς h0 h1 h2=>by
  rw[Qfx (c:=c) (t:=t) (m:=m) hc (xs:=[.int (s+x)]) (by unfold eVar;rw[h0]) (by simp only[aCons,aNil,e2,eVar,h1,h2,Out.bind_ok,Qbv]) (dk) (dk)]
  exact f1'
 have g2:∀ ς:SD,ς[0]?=some (some (.k,ck c t m))->ς[1]?=some (some (.k,.int s))->eMeth CK "sent_from_start" (fun _=>QV) (eVar 0) (aCons (eVar 1) aNil) ς=.ok (dl ((List.range m).map (sf t s))):=fun ς h0 h1=>by
  rw[Qfx (c:=c) (t:=t) (m:=m) hc (xs:=[.int s]) (by unfold eVar;rw[h0]) (by simp only[aCons,aNil,eVar,h1,Out.bind_ok]) (dk) (dk)]
  exact f2'
 have hcomp:=QuI (js:=[none,none]) (its:=itZ (eVar 3) (eVar 4)) (e:=QoD)
  (ς:=[some (.k,ck c t m),some (.k,.int s),some (.k,.int x),some (.k,dl ((List.range m).map (sf t (s+x)))),some (.k,dl ((List.range m).map (sf t s)))]) (a:=(List.range m).map (sf t (s+x))) (b:=(List.range m).map (sf t s)) (· - ·) rfl (fun _ _ _ _=>rfl) (by simp;have:=h.m6;omega)
 rw[List.zipWith_map,List.zipWith_self]at hcomp
 rw[QCC]
 unfold QhD
 simp only[sSeq,sSet,g1 [some (.k,ck c t m),some (.k,.int s),some (.k,.int x),none,none] rfl rfl rfl,Out.bind_ok,thenF,List.set_cons_succ,List.set_cons_zero,g2 [some (.k,ck c t m),some (.k,.int s),some (.k,.int x),some (.k,dl ((List.range m).map (sf t (s+x)))),none] rfl rfl,sRetF,hcomp]
 rfl
theorem sent0{c:Str}(hc:CK.contains c=true){t:List (List Int)}{m:Nat}(h:Tb t m){x:Int}(x0:0<=x)(hx:x.natAbs<2 ^ 4000)(hm:x % (t.length:Int)=0):
 QbO [ck c t m,.int 0,.int x]=.ok (rl m (fun j=>.int (x / (t.length:Int) * cs t t.length j))):=by
 have n1:=h.n1
 rw[QNl hc h (s:=0) (x:=x) (by decide) x0 (by decide) (by rw[Int.zero_add];exact hx) (fun k j=>QMs h k j)]
 unfold dl
 rw[List.map_map]
 refine congrArg (fun l=>Out.ok (D.lst l)) ?_
 apply List.map_congr_left
 intro j _
 show D.int (sf t (0+x) j - sf t 0 j)=D.int (x / (t.length:Int) * cs t t.length j)
 have z:sf t 0 j=0:=by unfold sf cs;simp
 rw[z,Int.zero_add,Int.sub_zero]
 unfold sf
 rw[hm]
 have c0:cs t (0:Int).toNat j=0:=by unfold cs;simp
 rw[c0,Int.add_zero]
theorem QEh{I E:SD->Out D}{ς ς':SD}{i j:Nat}{k:Int}{s:SM}{xs:List D}{d:D}(hm:wr s=true)(a:E ς=.ok d)(e:ς[i]?=some (some (s,.lst xs)))(a':I ς=.ok (.int k))(q:ixN xs.length k=some j)(l:ς.set i (some (s,.lst (xs.set j d)))=ς'):sPutW i I E ς=.ok (.nx ς'):=by
 unfold sPutW
 rw[a,Out.bind_ok,e]
 show(if wr s=true then _ else _)=_
 rw[if_pos hm,a',Out.bind_ok]
 show(optO (ixN xs.length k)>>=_)=_
 rw[q]
 show Out.ok (Fl.nx (ς.set i _))=_
 rw[l]
theorem QME{ms:List (Option Nat)}{f:List D->Out (D×Option (List D))}{A:SD->Out (List D)}{ς ς':SD}{ds ws:List D}{d:D}(a:A ς=.ok ds)(k:f ds=.ok (d,some ws))(l:setW ms ws ς=ς'):QrX ms f A ς=.ok (.nx ς'):=by
 unfold QrX
 rw[a,Out.bind_ok,k,Out.bind_ok]
 show Out.ok (Fl.nx (setW ms ws ς))=_
 rw[l]
theorem QJx{ς:SD}{i:Nat}{s:SM}{d:D}(hm:wr s=true)(e:ς[i]?=some (some (s,d))):eVarW i ς=.ok d:=by
 unfold eVarW
 rw[e]
 show(if wr s=true then _ else _)=_
 rw[if_pos hm]
theorem QKk{o:Out D}{xs:List D}(a:o=.ok (.lst xs))(h:xs.all D.scal=true):flatL o=.ok (.lst xs):=by
 unfold flatL
 rw[a,Out.bind_ok]
 show(if xs.all D.scal=true then _ else _)=_
 rw[if_pos h]
theorem QDA{l w:Nat->Int}{x q:Int}:∀ m:Nat,dkt m l (fun j=>q * w j) x=q * dkt m l w x
 | 0=>by show(0:Int)=q * 0;rw[Int.mul_zero]
 | m+1=>by
  show dkt m l (fun j=>q * w j) x+(if l m=x then q * w m else 0)=q * (dkt m l w x+if l m=x then w m else 0)
  rw[QDA m,Int.mul_add]
  split
  ·rfl
  ·rw[Int.mul_zero]
theorem QOL{n nd m:Nat}{l w F G:Nat->Int}(hl:∀ j,j<m -> -(nd:Int)<=l j/\l j<(n:Int)):
 Qp6 [rl n (fun i=>.int (F i)),rl nd (fun i=>.int (G i)),rl m (fun j=>.int (l j)),rl m (fun j=>.int (w j))]=.ok (.non,some [rl n (fun i=>.int (F i+dkt m l w (i:Int))),rl nd (fun i=>.int (G i+dkt m l w (-1 - (i:Int))))]):=by
 have hz:∀ x y:Option (SM×D),itZ (eVar 2) (eVar 3) [x,y,some (.k,rl m (fun j=>.int (l j))),some (.k,rl m (fun j=>.int (w j))),none,none]=.ok ((List.range m).map fun j=>D.tup [.int (l j),.int (w j)]):=fun x y=>by
  unfold itZ
  rw[r_var rfl,Out.bind_ok,r_var rfl,Out.bind_ok]
  show Out.ok (List.zipWith _ ((List.range m).map _) ((List.range m).map _))=_
  rw[List.zipWith_map,List.zipWith_self]
 generalize rl m (fun j=>D.int (l j))=Nu at *
 generalize rl m (fun j=>D.int (w j))=Wu at *
 obtain⟨ς',hL,a4,a5,rfl⟩:=Qiz (body:=fun x ς=>gT [4,5] x ς>>=fun ς'=>Qta ς') (f:=fun j=>D.tup [.int (l j),.int (w j)]) (n:=m)
  (P:=fun j ς=>∃ a4 a5,ς=[some (.s,rl n (fun i=>.int (F i+dkt j l w (i:Int)))),some (.s,rl nd (fun i=>.int (G i+dkt j l w (-1 - (i:Int))))),some (.k,Nu),some (.k,Wu),a4,a5])
  (by
   rintro j hj ς ⟨a4,a5,rfl⟩
   obtain⟨p0,p1⟩:=hl j hj
   refine⟨[some (.s,rl n (fun i=>.int (F i+dkt (j+1) l w (i:Int)))),some (.s,rl nd (fun i=>.int (G i+dkt (j+1) l w (-1 - (i:Int))))),some (.k,Nu),some (.k,Wu),some (.k,.int (l j)),some (.k,.int (w j))],?_,_,_,rfl⟩
   refine r_gT (by walk_at "all") ?_
   unfold Qta
   by_cases h:0<=l j
   ·obtain⟨p,hp⟩:∃ p:Nat,l j=(p:Int):=⟨(l j).toNat,by omega⟩
    have hpn:p<n:=by omega
    have hx:dIx (rl n (fun i=>.int (F i+dkt j l w (i:Int)))) (.int (p:Int))=.ok (.int (F p+dkt j l w (p:Int))):=ixR hpn
    have hn:=ixNR hpn (fun i=>D.int (F i+dkt j l w (i:Int)))
    have hset:((List.range n).map fun i:Nat=>D.int (F i+dkt j l w (i:Int))).set p (.int (F p+dkt j l w (p:Int)+w j))=(List.range n).map fun i:Nat=>D.int (F i+dkt (j+1) l w (i:Int)):=by
     rw[QwN hpn (fun i=>F i+dkt j l w (i:Int)) (w j)]
     apply List.map_congr_left
     intro i _
     show D.int (F i+dkt j l w (i:Int)+(if (p:Int)=(i:Int) then w j else 0))=D.int (F i+(dkt j l w (i:Int)+if l j=(i:Int) then w j else 0))
     rw[hp,Int.add_assoc]
    have hG:rl nd (fun i=>D.int (G i+dkt (j+1) l w (-1 - (i:Int))))=rl nd (fun i=>D.int (G i+dkt j l w (-1 - (i:Int)))):=Qcc fun i _=>by
     show D.int (G i+(dkt j l w (-1 - (i:Int))+if l j = -1 - (i:Int) then w j else 0))=_
     rw[if_neg (by omega),Int.add_zero]
    rw[hG]
    refine r_ifT (by (repeat walk_at "e")) (decide_eq_true h) ?_
    have hi:eVar 4 [some (.s,rl n (fun i=>D.int (F i+dkt j l w (i:Int)))),some (.s,rl nd (fun i=>.int (G i+dkt j l w (-1 - (i:Int))))),some (.k,Nu),some (.k,Wu),some (.k,.int (l j)),some (.k,.int (w j))]=.ok (.int (p:Int)):=by
     rw[← hp];exact r_var rfl
    exact QEh (s:=.s) (k:=(p:Int)) (j:=p) rfl (r_e2 (r_e2 (Qgs rfl) hi hx) (r_var rfl) (Qbv _ _)) rfl hi hn (by rw[hset];walk_at "s")
   ·obtain⟨p,hp⟩:∃ p:Nat, -1 - l j=(p:Int):=⟨(-1 - l j).toNat,by omega⟩
    have hpn:p<nd:=by omega
    have hx:dIx (rl nd (fun i=>.int (G i+dkt j l w (-1 - (i:Int))))) (.int (p:Int))=.ok (.int (G p+dkt j l w (-1 - (p:Int)))):=ixR hpn
    have hn:=ixNR hpn (fun i=>D.int (G i+dkt j l w (-1 - (i:Int))))
    have hset:((List.range nd).map fun i:Nat=>D.int (G i+dkt j l w (-1 - (i:Int)))).set p (.int (G p+dkt j l w (-1 - (p:Int))+w j))=(List.range nd).map fun i:Nat=>D.int (G i+dkt (j+1) l w (-1 - (i:Int))):=by
     rw[QwN hpn (fun i=>G i+dkt j l w (-1 - (i:Int))) (w j)]
     apply List.map_congr_left
     intro i _
     show D.int (G i+dkt j l w (-1 - (i:Int))+(if (p:Int)=(i:Int) then w j else 0))=D.int (G i+(dkt j l w (-1 - (i:Int))+if l j = -1 - (i:Int) then w j else 0))
     by_cases e:p=i
     ·subst e
      rw[if_pos rfl,if_pos (by omega),Int.add_assoc]
     ·rw[if_neg (by omega),if_neg (by omega),Int.add_zero,Int.add_zero]
    have hF:rl n (fun i=>D.int (F i+dkt (j+1) l w (i:Int)))=rl n (fun i=>D.int (F i+dkt j l w (i:Int))):=Qcc fun i _=>by
     show D.int (F i+(dkt j l w (i:Int)+if l j=(i:Int) then w j else 0))=_
     rw[if_neg (by omega),Int.add_zero]
    rw[hF]
    refine r_ifF (by (repeat walk_at "e")) (decide_eq_false h) ?_
    have hi:e2 dSub (e1 dNeg (eC (.int 1))) (eVar 4) [some (.s,rl n (fun i=>D.int (F i+dkt j l w (i:Int)))),some (.s,rl nd (fun i=>.int (G i+dkt j l w (-1 - (i:Int))))),some (.k,Nu),some (.k,Wu),some (.k,.int (l j)),some (.k,.int (w j))]=.ok (.int (p:Int)):=by
     rw[← hp];(repeat walk_at "e")
    exact QEh (s:=.s) (k:=(p:Int)) (j:=p) rfl (r_e2 (r_e2 (Qgs rfl) hi hx) (r_var rfl) (Qbv _ _)) rfl hi hn (by rw[hset];walk_at "s"))
  [some (.s,rl n (fun i=>.int (F i))),some (.s,rl nd (fun i=>.int (G i))),some (.k,Nu),some (.k,Wu),none,none] ⟨none,none,by
   have h1:rl n (fun i=>D.int (F i))=rl n (fun i=>D.int (F i+dkt 0 l w (i:Int))):=Qcc fun i _=>by show D.int (F i)=D.int (F i+0);rw[Int.add_zero]
   have h2:rl nd (fun i=>D.int (G i))=rl nd (fun i=>D.int (G i+dkt 0 l w (-1 - (i:Int)))):=Qcc fun i _=>by show D.int (G i)=D.int (G i+0);rw[Int.add_zero]
   rw[h1,h2]⟩
 have hfor:=Qbk (g:=gT [4,5]) (T:=Qta) (hz _ _) hL
 rw[QPI]
 unfold QAT
 rw[hfor]
 rfl
theorem QM2{n:Nat}(hn:n<=1000)(f:Nat->Int):QhS [rl n (fun i=>.int (f i))]=.ok (.lst (((List.range n).filter fun i=>decide (0<f i)).map fun i:Nat=>D.int (i:Int))):=by
 have hc:eComp [none,none] (itE (eVar 0)) (gT [0,1]) QuF QuW [some (.k,rl n (fun i=>.int (f i)))]=.ok (.lst (((List.range n).filter fun i=>decide (0<f i)).map fun i:Nat=>D.int (i:Int))):=by
  refine QM4 (fun i:Nat=>D.tup [.int (i:Int),.int (f i)]) (fun i=>decide (0<f i)) (fun i:Nat=>D.int (i:Int)) ?_ (fun i hi=>?_) hn
  ·rw[r_itE (xs:=(List.range n).map fun i=>D.int (f i)) (r_var rfl),enumR]
  ·refine QLG (by walk_at "cap") (by walk_at "all") ?_ ?_
   ·unfold QuF
    (repeat walk_at "e")
   ·unfold QuW
    (repeat walk_at "e")
 rw[QPp]
 unfold QvN
 exact Qct (Qfk hc) r_rtT
def wv(t:Nat->List (List Int))(m:Nat->Nat)(ld:Nat->Nat->Int)(f:Nat->Int)(x:Int)(k:Nat):Int:=f k / ((t k).length:Int) * dkt (m k) (ld k) (cs (t k) (t k).length) x
theorem QvZ{f:Nat->Int}{g:Nat->Int}:∀ l:List Nat,(∀ k∈l,decide (0<f k)=false->g k=0)->((l.filter fun k=>decide (0<f k)).map g).sum=(l.map g).sum
 | [],_=>rfl
 | k::l,h=>by
  have ih:=QvZ l fun j hj=>h j (List.mem_cons_of_mem _ hj)
  rw[List.filter_cons]
  split
  ·rw[List.map_cons,List.sum_cons,ih,List.map_cons,List.sum_cons]
  ·have:=h k (List.mem_cons_self ..) (by simp_all)
   rw[ih,List.map_cons,List.sum_cons,this,Int.zero_add]
section
variable{n nd:Nat}{nm dn c:Nat->Str}{t:Nat->List (List Int)}{m:Nat->Nat}{ld:Nat->Nat->Int}{st:Nat->Int}(hs:Seats n nd nm dn c t m ld st)
include hs
theorem QKM{f:Nat->Int}{k:Nat}(hk:k<n)(f0:0<=f k)(fb:(f k).natAbs<2 ^ 4000)(fm:f k % ((t k).length:Int)=0)(C G:Nat->Int)(a6:Option (SM×D)):
 Qca [some (.k,offD n nd nm dn c t m ld st),some (.s,rl n (fun _=>.int 0)),some (.k,rl n (fun i=>.int (f i))),some (.s,rl nd (fun i=>.int (G i))),some (.o,rl n (fun i=>.int (C i))),some (.k,.int (k:Int)),a6]=
  .ok (.nx [some (.k,offD n nd nm dn c t m ld st),some (.s,rl n (fun _=>.int 0)),some (.k,rl n (fun i=>.int (f i))),some (.s,rl nd (fun i=>.int (G i+wv t m ld f (-1 - (i:Int)) k))),some (.o,rl n (fun i=>.int (C i+wv t m ld f (i:Int) k))),some (.k,.int (k:Int)),some (.k,ck (c k) (t k) (m k))]):=by
 have hc:=hs.ck k hk
 have tb:=hs.tb k hk
 have n1:=tb.n1
 have n2:=tb.n2
 have hsent:=sent0 hc tb f0 fb fm
 have hlay:=QOL (n:=n) (nd:=nd) (m:=m k) (l:=ld k) (w:=fun j=>f k / ((t k).length:Int) * cs (t k) (t k).length j) (F:=C) (G:=G) (fun j hj=>hs.ldr k j hk hj)
 have eC':rl n (fun i=>D.int (C i+dkt (m k) (ld k) (fun j=>f k / ((t k).length:Int) * cs (t k) (t k).length j) (i:Int)))=rl n (fun i=>D.int (C i+wv t m ld f (i:Int) k)):=Qcc fun i _=>by rw[QDA];rfl
 have eG':rl nd (fun i=>D.int (G i+dkt (m k) (ld k) (fun j=>f k / ((t k).length:Int) * cs (t k) (t k).length j) (-1 - (i:Int))))=rl nd (fun i=>D.int (G i+wv t m ld f (-1 - (i:Int)) k)):=Qcc fun i _=>by rw[QDA];rfl
 rw[eC',eG']at hlay
 have hx1:dIx (rl n (fun _=>D.int 0)) (.int (k:Int))=.ok (.int 0):=ixR (f:=fun _=>D.int 0) hk
 have hx2:dIx (rl n (fun i=>D.int (f i))) (.int (k:Int))=.ok (.int (f k)):=ixR (f:=fun i=>D.int (f i)) hk
 have hset:((List.range n).map fun _=>D.int 0).set k (.int 0)=(List.range n).map fun _=>D.int 0:=by
  rw[setR hk]
  apply List.map_congr_left
  intro i _
  split<;>rfl
 have hnn:=ixNR hk (fun _=>D.int 0)
 have hmod:dMod (.int (0+f k)) (.int ((t k).length:Int))=.ok (.int 0):=by rw[QT (by omega),Int.zero_add,fm]
 have hclk:∀ ς:SD,ς[0]?=some (some (.k,offD n nd nm dn c t m ld st))->ς[5]?=some (some (.k,.int (k:Int)))->eMeth QB "clerk" (fun _=>QaJ) (eVar 0) (aCons (eVar 5) aNil) ς=.ok (ck (c k) (t k) (m k)):=fun ς h0 h5=>by
  rw[Qix (xs:=[.int (k:Int)]) (r_var h0) (QA (r_var h5) r_nil) (dk)]
  exact Qzb hk
 have hlds:∀ ς:SD,ς[0]?=some (some (.k,offD n nd nm dn c t m ld st))->ς[5]?=some (some (.k,.int (k:Int)))->eMeth QB "leads" (fun _=>QbF) (eVar 0) (aCons (eVar 5) aNil) ς=.ok (rl (m k) (fun j=>.int (ld k j))):=fun ς h0 h5=>by
  rw[Qix (xs:=[.int (k:Int)]) (r_var h0) (QA (r_var h5) r_nil) (dk)]
  exact QJN hk
 have hsnt:∀ ς:SD,ς[1]?=some (some (.s,rl n (fun _=>.int 0)))->ς[2]?=some (some (.k,rl n (fun i=>.int (f i))))->ς[5]?=some (some (.k,.int (k:Int)))->ς[6]?=some (some (.k,ck (c k) (t k) (m k)))->eMeth Qc "sent" (fun _=>QbO) (eVar 6) (aCons (fun ς=>Qo0 ((e2 dIx (eVarB 1) (eVar 5)) ς)) (aCons (e2 dIx (eVar 2) (eVar 5)) aNil)) ς=.ok (rl (m k) (fun j=>.int (f k / ((t k).length:Int) * cs (t k) (t k).length j))):=fun ς h1 h2 h5 h6=>by
  rw[Qfx (c:=c k) (t:=t k) (m:=m k) hc (xs:=[.int 0,.int (f k)]) (r_var h6) (QA (QDU (r_e2 (Qgs h1) (r_var h5) hx1) rfl) (QA (r_e2 (r_var h2) (r_var h5) hx2) r_nil)) (dk) (dk)]
  exact hsent
 have hper:∀ ς:SD,ς[6]?=some (some (.k,ck (c k) (t k) (m k)))->eMeth Qc "period" (fun _=>QM) (eVar 6) aNil ς=.ok (.int ((t k).length:Int)):=fun ς h6=>by
  rw[Qfx (c:=c k) (t:=t k) (m:=m k) hc (xs:=[]) (r_var h6) rfl (dk) (dk)]
  exact QmK hc _ _
 generalize offD n nd nm dn c t m ld st=O at *
 generalize hCk:ck (c k) (t k) (m k)=Ck at *
 unfold Qca
 refine r_seq (fl:=.nx [some (.k,O),some (.s,rl n (fun _=>.int 0)),some (.k,rl n (fun i=>.int (f i))),some (.s,rl nd (fun i=>.int (G i))),some (.o,rl n (fun i=>.int (C i))),some (.k,.int (k:Int)),some (.k,Ck)]) (r_set (hclk _ rfl rfl) (by walk_at "s")) (Qx ?_)
 refine r_seq (fl:=.nx [some (.k,O),some (.s,rl n (fun _=>.int 0)),some (.k,rl n (fun i=>.int (f i))),some (.s,rl nd (fun i=>.int (G i+wv t m ld f (-1 - (i:Int)) k))),some (.o,rl n (fun i=>.int (C i+wv t m ld f (i:Int) k))),some (.k,.int (k:Int)),some (.k,Ck)]) (QME (QA (QJx (s:=.o) rfl rfl) (QA (QJx (s:=.s) rfl rfl) (QA (hlds _ rfl rfl) (QA (hsnt _ rfl rfl rfl rfl) r_nil)))) hlay rfl) (Qx ?_)
 refine QEh (s:=.s) (k:=(k:Int)) (j:=k) (d:=.int 0) rfl (r_e2 (r_e2 (r_e2 (Qgs rfl) (r_var rfl) hx1) (r_e2 (r_var rfl) (r_var rfl) hx2) (Qbv _ _)) (hper _ rfl) hmod) rfl (r_var rfl) hnn ?_
 rw[hset]
 walk_at "s"
theorem Qy6{f:Nat->Int}:∀(l:List Nat)(C G:Nat->Int)(a5 a6:Option (SM×D)),(∀ k∈l,k<n/\0<=f k/\(f k).natAbs<2 ^ 4000/\f k % ((t k).length:Int)=0)->
 ∃(G':Nat->Int)(b5 b6:Option (SM×D)),loopD (fun x ς=>gN 5 x ς>>=fun ς'=>Qca ς') (l.map fun i:Nat=>D.int (i:Int)) [some (.k,offD n nd nm dn c t m ld st),some (.s,rl n (fun _=>.int 0)),some (.k,rl n (fun i=>.int (f i))),some (.s,rl nd (fun i=>.int (G i))),some (.o,rl n (fun i=>.int (C i))),a5,a6]=
  .ok (.nx [some (.k,offD n nd nm dn c t m ld st),some (.s,rl n (fun _=>.int 0)),some (.k,rl n (fun i=>.int (f i))),some (.s,rl nd (fun i=>.int (G' i))),some (.o,rl n (fun i=>.int (C i+(l.map (wv t m ld f (i:Int))).sum))),b5,b6])
 | [],C,G,a5,a6,_=>by
  refine⟨G,a5,a6,?_⟩
  have e:rl n (fun i=>D.int (C i))=rl n (fun i=>D.int (C i+(([]:List Nat).map (wv t m ld f (i:Int))).sum)):=Qcc fun i _=>by
   show D.int (C i)=D.int (C i+0)
   rw[Int.add_zero]
  rw[← e]
  rfl
 | k::l,C,G,a5,a6,h=>by
  obtain⟨hk,f0,fb,fm⟩:=h k (List.mem_cons_self ..)
  have h1:=QKM hs hk f0 fb fm C G a6
  obtain⟨G',b5,b6,h2⟩:=Qy6 l (fun i=>C i+wv t m ld f (i:Int) k) (fun i=>G i+wv t m ld f (-1 - (i:Int)) k) (some (.k,.int (k:Int))) (some (.k,ck (c k) (t k) (m k))) (fun j hj=>h j (List.mem_cons_of_mem _ hj))
  refine⟨G',b5,b6,?_⟩
  have e:rl n (fun i=>D.int (C i+wv t m ld f (i:Int) k+(l.map (wv t m ld f (i:Int))).sum))=rl n (fun i=>D.int (C i+((k::l).map (wv t m ld f (i:Int))).sum)):=Qcc fun i _=>by
   rw[List.map_cons,List.sum_cons,Int.add_assoc]
  rw[← e,List.map_cons,loopD]
  have h1':(gN 5 (D.int (k:Int)) [some (.k,offD n nd nm dn c t m ld st),some (.s,rl n (fun _=>.int 0)),some (.k,rl n (fun i=>.int (f i))),some (.s,rl nd (fun i=>.int (G i))),some (.o,rl n (fun i=>.int (C i))),a5,a6]>>=fun ς'=>Qca ς')=_:=r_gN (by walk_at "s") h1
  rw[h1']
  exact h2
theorem QNI{f:Nat->Int}(hf:∀ k,k<n->0<=f k/\(f k).natAbs<2 ^ 4000/\f k % ((t k).length:Int)=0):
 QcS [offD n nd nm dn c t m ld st,rl n (fun _=>.int 0),rl n (fun i=>.int (f i)),rl nd (fun _=>.int 0)]=.ok (rl n (fun i=>.int (((List.range n).map (wv t m ld f (i:Int))).sum)),none):=by
 have n2:=hs.n2
 have hab:=QM2 (n:=n) (by omega) f
 obtain⟨G',b5,b6,hL⟩:=Qy6 hs (f:=f) ((List.range n).filter fun i=>decide (0<f i)) (fun _=>0) (fun _=>0) none none (fun k hk=>by
  have hk:=List.mem_range.mp (List.mem_filter.mp hk).1
  exact⟨hk,hf k hk⟩)
 have e:rl n (fun i=>D.int (0+(((List.range n).filter fun i=>decide (0<f i)).map (wv t m ld f (i:Int))).sum))=rl n (fun i=>.int (((List.range n).map (wv t m ld f (i:Int))).sum)):=Qcc fun i _=>by
  rw[Int.zero_add,QvZ (f:=f) (g:=wv t m ld f (i:Int)) _ fun k hk h=>by
   have:=(hf k (List.mem_range.mp hk)).1
   have z:f k=0:=by have:=of_decide_eq_false h;omega
   unfold wv
   rw[z,Int.zero_ediv,Int.zero_mul]]
 rw[e]at hL
 have hc:eComp [none] (itL (eVar 2)) (gN 0) cTrue QfO [some (.k,offD n nd nm dn c t m ld st),some (.s,rl n (fun _=>.int 0)),some (.k,rl n (fun i=>.int (f i))),some (.s,rl nd (fun _=>.int 0)),none,none,none]=.ok (rl n (fun _=>.int 0)):=by
  refine QZ (fun i=>D.int (f i)) (fun _=>D.int 0) rfl (fun i hi=>?_) (by rw[List.length_range];omega)
  refine Q9 (by walk_at "cap") (by walk_at "s") ?_
  unfold QfO
  (repeat walk_at "e")
 have hfor:=Qbk (g:=gN 5) (its:=itL (eA (fun xs=>QhS (xs++[])) (aCons (eVar 2) aNil))) (T:=Qca) (r_itL (QrK (xs:=[rl n (fun i=>D.int (f i))]) (QA (r_var rfl) r_nil) rfl hab)) hL
 rw[QDy]
 unfold QhQ
 have hb:sSeq (sSetO 4 (eComp [none] (itL (eVar 2)) (gN 0) cTrue QfO)) (sSeq (sFor (gN 5) (itL (eA (fun xs=>QhS (xs++[])) (aCons (eVar 2) aNil))) Qca) (sRetO 4)) [some (.k,offD n nd nm dn c t m ld st),some (.s,rl n (fun _=>.int 0)),some (.k,rl n (fun i=>.int (f i))),some (.s,rl nd (fun _=>.int 0)),none,none,none]=.ok (.rt true (rl n (fun i=>.int (((List.range n).map (wv t m ld f (i:Int))).sum)))):=
  r_seq (QeK hc (by walk_at "s")) (Qx (r_seq hfor (Qx (Qvt rfl))))
 rw[hb]
 rfl
theorem QLv:Qcs [offD n nd nm dn c t m ld st]=.ok (rl nd (fun _=>.int 0)):=by
 have d2:=hs.d2
 have lk:(offF n nd nm dn c t m ld st).lookup ("door_names":Str)=some (rl nd (fun d=>.str (dn d))):=by
  have h1:(("door_names":Str) == "clerk_names")=false:=dk
  unfold offF
  rw[List.lookup_cons,h1,List.lookup_cons,beq_self_eq_true]
 have h1:=fld_o lk
 have hdl:dList (rl nd (fun d=>.str (dn d)))=.ok (rl nd (fun d=>.str (dn d))):=rfl
 have hd:Qbf [offD n nd nm dn c t m ld st]=.ok (rl nd (fun d=>.str (dn d))):=by
  rw[QxM]
  unfold QfA
  (repeat walk_at "e")
 have hm:eMeth QB "doors" (fun _=>Qbf) (eVar 0) aNil [some (.k,offD n nd nm dn c t m ld st)]=.ok (rl nd (fun d=>.str (dn d))):=by
  rw[Qix (xs:=[]) (r_var rfl) rfl (dk)]
  exact hd
 have hc:eComp [none] (itL (eMeth QB "doors" (fun _=>Qbf) (eVar 0) aNil)) (gN 0) cTrue Qhh [some (.k,offD n nd nm dn c t m ld st)]=.ok (rl nd (fun _=>.int 0)):=by
  refine QZ (fun d=>D.str (dn d)) (fun _=>D.int 0) (r_itL hm) (fun i hi=>?_) (by rw[List.length_range];omega)
  refine Q9 (by walk_at "cap") (by walk_at "s") ?_
  unfold Qhh
  (repeat walk_at "e")
 rw[QzJ]
 unfold QgC
 exact Qct (Qfk hc) r_rtT
theorem QKY{f:Nat->Int}(hf:∀ k,k<n->0<=f k/\(f k).natAbs<2 ^ 4000/\f k % ((t k).length:Int)=0):
 Qec [offD n nd nm dn c t m ld st,rl n (fun i=>.int (f i))]=.ok (rl n (fun i=>.int (((List.range n).map (wv t m ld f (i:Int))).sum))):=by
 have n2:=hs.n2
 have hno:=QLv hs
 have hha:=QNI hs hf
 have hc:eComp [none] (itL (eVar 1)) (gN 0) cTrue Qoh [some (.k,offD n nd nm dn c t m ld st),some (.k,rl n (fun i=>.int (f i)))]=.ok (rl n (fun _=>.int 0)):=by
  refine QZ (fun i=>D.int (f i)) (fun _=>D.int 0) rfl (fun i hi=>?_) (by rw[List.length_range];omega)
  refine Q9 (by walk_at "cap") (by walk_at "s") ?_
  unfold Qoh
  (repeat walk_at "e")
 rw[QJ8]
 unfold QmB
 refine Qct (Qfk (Qrh (d:=rl n (fun i=>.int (((List.range n).map (wv t m ld f (i:Int))).sum))) ?_ rfl)) r_rtT
 rw[QA (r_var rfl) (QA (QKk hc (allR fun _ _=>rfl)) (QA (r_var rfl) (QA (QKk (Qrh (QrK (xs:=[offD n nd nm dn c t m ld st]) (QA (r_var rfl) r_nil) rfl hno) rfl) (allR fun _ _=>rfl)) r_nil))),Out.bind_ok,hha]
 rfl
theorem QIe:Qcm [offD n nd nm dn c t m ld st]=.ok (rl n (fun k=>.int ((t k).length:Int))):=by
 have n2:=hs.n2
 have hm:eMeth QB "many" (fun _=>Qav) (eVar 0) aNil [some (.k,offD n nd nm dn c t m ld st)]=.ok (.int (n:Int)):=by
  rw[Qix (xs:=[]) (r_var rfl) rfl (dk)]
  exact QBU
 have hc:eComp [none,some 0] (itR1 (eMeth QB "many" (fun _=>Qav) (eVar 0) aNil)) (gN 0) cTrue Qiu [some (.k,offD n nd nm dn c t m ld st)]=.ok (rl n (fun k=>.int ((t k).length:Int))):=by
  refine QZ (fun k:Nat=>D.int ((0:Int)+k)) (fun k=>D.int ((t k).length:Int)) (QcP n hm (by omega)) (fun k hk=>?_) (by rw[List.length_range];omega)
  have hk:=List.mem_range.mp hk
  refine Q9 (by walk_at "cap") (by walk_at "s") ?_
  unfold Qiu
  rw[Int.zero_add]
  rw[Qfx (c:=c k) (t:=t k) (m:=m k) (hs.ck k hk) (xs:=[]) (by
   rw[Qix (xs:=[.int (k:Int)]) (r_var rfl) (QA (r_var rfl) r_nil) (dk)]
   exact Qzb hk) rfl (dk) (dk)]
  exact QmK (hs.ck k hk) _ _
 rw[QBD]
 unfold Qhy
 exact Qct (Qfk hc) r_rtT
end
def rdB(n:Nat)(t:Nat->List (List Int))(f:Nat->Int):Bool:=(List.range n).all fun k=>decide (0<=f k)&&decide (f k % ((t k).length:Int)=0)
def poB(n:Nat)(f:Nat->Int):Bool:=(List.range n).any fun k=>decide (0<f k)
def coB(n:Nat)(t:Nat->List (List Int))(m:Nat->Nat)(ld:Nat->Nat->Int)(f:Nat->Int):Bool:=(List.range n).all fun k=>decide (f k<=((List.range n).map (wv t m ld f (k:Int))).sum)
theorem QJj{n:Nat}{t:Nat->List (List Int)}{f:Nat->Int}(h:rdB n t f=true){k:Nat}(hk:k<n):0<=f k/\f k % ((t k).length:Int)=0:=by
 have:=List.all_eq_true.mp h k (List.mem_range.mpr hk)
 rw[Bool.and_eq_true]at this
 exact⟨of_decide_eq_true this.1,of_decide_eq_true this.2⟩
theorem QKe{x:Int}{N:Nat}(hN:1<=N):Qdx [.int x,.int (N:Int)]=.ok (.bl (decide (0<=x)&&decide (x % (N:Int)=0))):=by
 have h1:=QyM x
 have h2:dMod (.int x) (.int (N:Int))=.ok (.int (x % (N:Int))):=QT (by omega)
 rw[QFO]
 unfold QiU
 by_cases h:0<=x
 ·rw[decide_eq_true h,Bool.true_and]
  (repeat walk_at "e")
 ·rw[decide_eq_false h,Bool.false_and]
  (repeat walk_at "e")
section
variable{n nd:Nat}{nm dn c:Nat->Str}{t:Nat->List (List Int)}{m:Nat->Nat}{ld:Nat->Nat->Int}{st:Nat->Int}(hs:Seats n nd nm dn c t m ld st)
include hs
theorem QLA(f:Nat->Int):Qfh [offD n nd nm dn c t m ld st,rl n (fun i=>.int (f i))]=.ok (.bl (rdB n t f&&poB n f)):=by
 have n2:=hs.n2
 have hl:=lenR n (fun i=>D.int (f i))
 have hp:=QIe hs
 have hm:eMeth QB "many" (fun _=>Qav) (eVar 0) aNil [some (.k,offD n nd nm dn c t m ld st),some (.k,rl n (fun i=>.int (f i)))]=.ok (.int (n:Int)):=by
  rw[Qix (xs:=[]) (r_var rfl) rfl (dk)]
  exact QBU
 have hne:dNe (.int (n:Int)) (.int (n:Int))=.ok (.bl false):=by rw[Qh2,decide_eq_true rfl];rfl
 have hc0:eComp [none,none] (itZ (eVar 1) (eA (fun xs=>Qcm (xs++[])) (aCons (eVar 0) aNil))) (gT [0,1]) cTrue QnM [some (.k,offD n nd nm dn c t m ld st),some (.k,rl n (fun i=>.int (f i)))]=.ok (rl n (fun k=>.bl (decide (0<=f k)&&decide (f k % ((t k).length:Int)=0)))):=by
  refine QZ (fun k=>D.tup [.int (f k),.int ((t k).length:Int)]) (fun k=>D.bl (decide (0<=f k)&&decide (f k % ((t k).length:Int)=0))) ?_ (fun k hk=>?_) (by rw[List.length_range];omega)
  ·rw[r_itZ (xs:=(List.range n).map fun i=>D.int (f i)) (ys:=(List.range n).map fun k=>D.int ((t k).length:Int)) (r_var rfl) (QrK (xs:=[offD n nd nm dn c t m ld st]) (QA (r_var rfl) r_nil) rfl hp),List.zipWith_map,List.zipWith_self]
  ·have h:=QKe (x:=f k) (hs.tb k (List.mem_range.mp hk)).n1
   refine Qx5 (by walk_at "cap") (by walk_at "all") ?_
   unfold QnM
   (repeat walk_at "e")
 have hc1:eComp [none] (itL (eVar 1)) (gN 0) cTrue QnB [some (.k,offD n nd nm dn c t m ld st),some (.k,rl n (fun i=>.int (f i)))]=.ok (rl n (fun k=>.bl (decide (0<f k)))):=by
  refine QZ (fun k=>D.int (f k)) (fun k=>D.bl (decide (0<f k))) rfl (fun k hk=>?_) (by rw[List.length_range];omega)
  refine Q9 (by walk_at "cap") (by walk_at "s") ?_
  unfold QnB
  (repeat walk_at "e")
 have ha:f1 fAll [rl n (fun k=>.bl (decide (0<=f k)&&decide (f k % ((t k).length:Int)=0)))]=.ok (.bl (rdB n t f)):=QlM (fun k=>decide (0<=f k)&&decide (f k % ((t k).length:Int)=0)) (List.range n)
 have hy:f1 fAny [rl n (fun k=>.bl (decide (0<f k)))]=.ok (.bl (poB n f)):=QEp (fun k=>decide (0<f k)) (List.range n)
 rw[QJv]
 unfold QmC
 generalize offD n nd nm dn c t m ld st=O at *
 generalize rl n (fun i=>D.int (f i))=Fl at *
 generalize rl n (fun k=>D.bl (decide (0<=f k)&&decide (f k % ((t k).length:Int)=0)))=A1 at *
 generalize rl n (fun k=>D.bl (decide (0<f k)))=A2 at *
 cases hr:rdB n t f with
 | false=>
  rw[hr]at ha
  rw[Bool.false_and]
  (repeat walk_at "e")
 | true=>
  rw[hr]at ha
  rw[Bool.true_and]
  (repeat walk_at "e")
theorem QK7{f:Nat->Int}(hf:∀ k,k<n->(f k).natAbs<2 ^ 4000):QcB [offD n nd nm dn c t m ld st,rl n (fun i=>.int (f i))]=.ok (.bl (rdB n t f&&poB n f&&coB n t m ld f)):=by
 have n2:=hs.n2
 have hfl:=QLA hs f
 rw[QGc]
 unfold QiQ
 cases hr:rdB n t f&&poB n f with
 | false=>
  rw[hr]at hfl
  rw[Bool.false_and]
  generalize offD n nd nm dn c t m ld st=O at *
  generalize rl n (fun i=>D.int (f i))=Fl at *
  (repeat walk_at "e")
 | true=>
  rw[hr]at hfl
  rw[Bool.true_and]
  have hrd:rdB n t f=true:=by rw[Bool.and_eq_true]at hr;exact hr.1
  have hsb:=QKY hs (f:=f) fun k hk=>⟨(QJj hrd hk).1,hf k hk,(QJj hrd hk).2⟩
  have hc:eComp [none,none] (itZ (eA (fun xs=>Qec (xs++[])) (aCons (eVar 0) (aCons (eVar 1) aNil))) (eVar 1)) (gT [0,1]) cTrue Qko [some (.k,offD n nd nm dn c t m ld st),some (.k,rl n (fun i=>.int (f i)))]=.ok (rl n (fun k=>.bl (decide (f k<=((List.range n).map (wv t m ld f (k:Int))).sum)))):=by
   refine QZ (fun k:Nat=>D.tup [.int (((List.range n).map (wv t m ld f (k:Int))).sum),.int (f k)]) (fun k:Nat=>D.bl (decide (f k<=((List.range n).map (wv t m ld f (k:Int))).sum))) ?_ (fun k hk=>?_) (by rw[List.length_range];omega)
   ·rw[r_itZ (xs:=(List.range n).map fun i:Nat=>D.int (((List.range n).map (wv t m ld f (i:Int))).sum)) (ys:=(List.range n).map fun i=>D.int (f i)) (QrK (xs:=[offD n nd nm dn c t m ld st,rl n (fun i=>.int (f i))]) (QA (r_var rfl) (QA (r_var rfl) r_nil)) rfl hsb) (r_var rfl),List.zipWith_map,List.zipWith_self]
   ·refine Qx5 (by walk_at "cap") (by walk_at "all") ?_
    unfold Qko
    generalize ((List.range n).map (wv t m ld f (k:Int))).sum=S
    (repeat walk_at "e")
  have ha:f1 fAll [rl n (fun k=>.bl (decide (f k<=((List.range n).map (wv t m ld f (k:Int))).sum)))]=.ok (.bl (coB n t m ld f)):=QlM (fun k=>decide (f k<=((List.range n).map (wv t m ld f (k:Int))).sum)) (List.range n)
  generalize offD n nd nm dn c t m ld st=O at *
  generalize rl n (fun i=>D.int (f i))=Fl at *
  generalize rl n (fun k=>D.bl (decide (f k<=((List.range n).map (wv t m ld f (k:Int))).sum)))=A1 at *
  (repeat walk_at "e")
end
theorem QMI{n:Nat}{f:Nat->D}{v:D}:(List.range n).map f++[v]=(List.range (n+1)).map fun i=>if i=n then v else f i:=by
 rw[List.range_succ,List.map_append]
 congr 1
 ·exact List.map_congr_left fun i hi=>by rw[if_neg (by have:=List.mem_range.mp hi;omega)]
 ·show [v]=[if n=n then v else f n]
  rw[if_pos rfl]
theorem QOq{X:Int}{L k:Nat}(x0:0<=X)(x1:X<2147483648)(hk:k<=100)(hL:L<=12){R:D}{T:D}(hR:dIx R (.int (k:Int))=.ok T)(hT:fLen [T]=.ok (.int (L:Int))):∃ v:Int,bitsI v<=100/\
 ∀(xs:List D)(a4 a5 a6:Option (SM×D)),xs.length<=100->∃ b4 b5,Qe7 [some (.k,R),some (.k,.int X),some (.o,.lst xs),some (.k,.int (k:Int)),a4,a5,a6]=.ok (.nx [some (.k,R),some (.k,.int X),some (.o,.lst (xs++[.int v])),some (.k,.int (k:Int)),b4,b5,a6]):=by
 have M:∀ i j:Int,i.natAbs<2 ^ 90->j.natAbs<2 ^ 90->dMul (.int i) (.int j)=.ok (.int (i * j)):=fun i j h1 h2=>QgY (Qan h1) (Qan h2) (by decide)
 have p18:dPow (.int 10) (.int 18)=.ok (.int 1000000000000000000):=QM5 (by decide)
 have u1:=M 2 (k:Int) (by decide) (by omega)
 have u2:=M X (2 * (k:Int)+3) (by omega) (by omega)
 have q0:=Int.emod_nonneg (X * (2 * (k:Int)+3)) (b:=2147483587) (by decide)
 have q1:=Int.emod_lt_of_pos (X * (2 * (k:Int)+3)) (b:=2147483587) (by decide)
 have md:dMod (.int (X * (2 * (k:Int)+3))) (.int 2147483587)=.ok (.int (X * (2 * (k:Int)+3) % 2147483587)):=QT (by decide)
 generalize X * (2 * (k:Int)+3) % 2147483587=q at *
 have d6:dFdiv (.int q) (.int 6)=.ok (.int (q / 6)):=QbY (by decide) (by decide)
 have u3:=M (q / 6) 465661287 (by omega) (by decide)
 have m10:dMod (.int (q / 6)) (.int 10)=.ok (.int (q / 6 % 10)):=QT (by decide)
 have m18:dMod (.int (q / 6 * 465661287)) (.int 1000000000000000000)=.ok (.int (q / 6 * 465661287 % 1000000000000000000)):=QT (by decide)
 have m4:dMod (.int q) (.int 4)=.ok (.int (q % 4)):=QT (by decide)
 have r0:=Int.emod_nonneg (q / 6 * 465661287) (b:=1000000000000000000) (by decide)
 have r1:=Int.emod_lt_of_pos (q / 6 * 465661287) (b:=1000000000000000000) (by decide)
 generalize q / 6 * 465661287 % 1000000000000000000=B at *
 generalize hA:q / 6 % 10=A at *
 obtain⟨v,v0,v1,hv⟩:∃ v:Int,0<=v/\v<1000000000000000000/\dIx (.lst [.int 0,.int 1,.int A,.int B]) (.int (q % 4))=.ok (.int v):=by
  have h:q % 4=0∨q % 4=1∨q % 4=2∨q % 4=3:=by omega
  rcases h with h | h | h | h<;>rw[h]
  ·exact⟨0,by decide,by decide,ixL 0 rfl⟩
  ·exact⟨1,by decide,by decide,ixL 1 rfl⟩
  ·exact⟨A,by omega,by omega,ixL 2 rfl⟩
  ·exact⟨B,r0,r1,ixL 3 rfl⟩
 have mv:=M v (L:Int) (by omega) (by omega)
 refine⟨v * (L:Int),QJT (m:=90) (n:=10) (Qan (by omega)) (Qan (by omega)),fun xs a4 a5 a6 hx=>⟨some (.k,.int q),some (.k,.int v),?_⟩⟩
 unfold Qe7
 refine r_seq (fl:=.nx [some (.k,R),some (.k,.int X),some (.o,.lst xs),some (.k,.int (k:Int)),some (.k,.int q),a5,a6]) (by (repeat walk_at "e")) (Qx ?_)
 refine r_seq (fl:=.nx [some (.k,R),some (.k,.int X),some (.o,.lst xs),some (.k,.int (k:Int)),some (.k,.int q),some (.k,.int v),a6]) ?_ (Qx ?_)
 ·refine r_set (r_e2 (r_lst (xs:=[.int 0,.int 1,.int A,.int B]) (by (repeat walk_at "e")) (show 4<=1000 by decide)) (by (repeat walk_at "e")) hv) (by walk_at "s")
 ·exact r_app (xs:=xs) rfl (r_e2 (r_var rfl) (r_eA (QA (r_e2 (r_var rfl) (r_var rfl) hR) r_nil) hT) mv) (by omega) (by walk_at "s")
section
variable{n nd:Nat}{nm dn c:Nat->Str}{t:Nat->List (List Int)}{m:Nat->Nat}{ld:Nat->Nat->Int}{st:Nat->Int}(hs:Seats n nd nm dn c t m ld st)
include hs
theorem QMw{X:Int}(x0:0<=X)(x1:X<2147483648):∃ f:Nat->Int,(∀ i,i<n->bitsI (f i)<=200)/\Qem [rl n (fun k=>tbD (t k)),.int X]=.ok (rl n (fun i=>.int (f i))):=by
 have n1:=hs.n1
 have n2:=hs.n2
 have hlen:=lenR n (fun k=>tbD (t k))
 have hR:∀ k,k<n->dIx (rl n (fun k=>tbD (t k))) (.int (k:Int))=.ok (tbD (t k)):=fun k hk=>ixR (f:=fun k=>tbD (t k)) hk
 have hT:∀ k,fLen [tbD (t k)]=.ok (.int ((t k).length:Int)):=fun k=>by simp[fLen,tbD]
 have hrep:=QDG (x:=.int 0) (N:=n) (by omega)
 generalize rl n (fun k=>tbD (t k))=R at *
 obtain⟨ς',hL,f,a3,a4,a5,fb,rfl⟩:=Qgg (body:=fun x ς=>gN 3 x ς>>=fun ς'=>Qe7 ς') (n:=n)
  (P:=fun k ς=>∃(f:Nat->Int)(a3 a4 a5:Option (SM×D)),(∀ i,i<k->bitsI (f i)<=100)/\ς=[some (.k,R),some (.k,.int X),some (.o,rl k (fun i=>.int (f i))),a3,a4,a5,none])
  (by
   rintro k hk ς ⟨f,a3,a4,a5,fb,rfl⟩
   obtain⟨v,vb,hv⟩:=QOq x0 x1 (k:=k) (by omega) (hs.tb k hk).n2 (hR k hk) (hT k)
   obtain⟨b4,b5,h⟩:=hv ((List.range k).map fun i=>D.int (f i)) a4 a5 none (by rw[List.length_map,List.length_range];omega)
   refine⟨[some (.k,R),some (.k,.int X),some (.o,.lst ((List.range k).map (fun i=>D.int (f i))++[.int v])),some (.k,.int (k:Int)),b4,b5,none],r_gN (by walk_at "s") h,fun i=>if i=k then v else f i,some (.k,.int (k:Int)),b4,b5,fun i hi=>?_,?_⟩
   ·show bitsI (if i=k then v else f i)<=100
    split
    ·exact vb
    ·exact fb i (by omega)
   ·rw[QMI]
    have e:(List.range (k+1)).map (fun i=>if i=k then D.int v else D.int (f i))=(List.range (k+1)).map fun i=>D.int (if i=k then v else f i):=by
     apply List.map_congr_left
     intro i _
     split<;>rfl
    rw[e])
  [some (.k,R),some (.k,.int X),some (.o,.lst []),none,none,none,none] ⟨fun _=>0,none,none,none,fun i hi=>absurd hi (by omega),rfl⟩
 have hfor:=Qbk (g:=gN 3) (its:=itR1 (eA fLen (aCons (eVar 0) aNil))) (T:=Qe7) (QcP n (r_eA (QA (r_var rfl) r_nil) hlen) (by omega)) hL
 have m4:dMod (.int X) (.int 4)=.ok (.int (X % 4)):=QT (by decide)
 have m16:dMod (.int X) (.int 16)=.ok (.int (X % 16)):=QT (by decide)
 obtain⟨f2,a6,fb2,h4⟩:∃(f2:Nat->Int)(a6:Option (SM×D)),(∀ i,i<n->bitsI (f2 i)<=200)/\sIf (tVal (e2 dEq (e2 dMod (eVar 1) (eC (.int 4))) (eC (.int 0)))) (sSeq (sSet 6 (e2 dMod (e2 dFdiv (eVar 1) (eC (.int 12))) (eA fLen (aCons (eVar 0) aNil)))) (sPutO 2 (eVar 6) (e2 dIx (eLst (aCons (e2 dAdd (e2 dIx (eVarB 2) (eVar 6)) (eC (.int 1))) (aCons (e2 dSub (eC (.int 0)) (eA fLen (aCons (e2 dIx (eVar 0) (eVar 6)) aNil))) (aCons (eC (.int 0)) aNil)))) (e2 dMod (e2 dFdiv (eVar 1) (eC (.int 4))) (eC (.int 3)))))) sNil [some (.k,R),some (.k,.int X),some (.o,rl n (fun i=>.int (f i))),a3,a4,a5,none]=.ok (.nx [some (.k,R),some (.k,.int X),some (.o,rl n (fun i=>.int (f2 i))),a3,a4,a5,a6]):=by
  by_cases h:X % 4=0
  ·have d12:dFdiv (.int X) (.int 12)=.ok (.int (X / 12)):=QbY (by decide) (by decide)
   have d4:dFdiv (.int X) (.int 4)=.ok (.int (X / 4)):=QbY (by decide) (by decide)
   have m3:dMod (.int (X / 4)) (.int 3)=.ok (.int (X / 4 % 3)):=QT (by decide)
   have b0:=Int.emod_nonneg (X / 12) (b:=(n:Int)) (by omega)
   have b1:=Int.emod_lt_of_pos (X / 12) (b:=(n:Int)) (by omega)
   obtain⟨j,hj⟩:∃ j:Nat,X / 12 % (n:Int)=(j:Int):=⟨(X / 12 % (n:Int)).toNat,by omega⟩
   have mn:dMod (.int (X / 12)) (.int (n:Int))=.ok (.int (j:Int)):=by rw[QT (by omega),hj]
   have hjn:j<n:=by omega
   have hx:dIx (rl n (fun i=>D.int (f i))) (.int (j:Int))=.ok (.int (f j)):=ixR (f:=fun i=>D.int (f i)) hjn
   have l12:=(hs.tb j hjn).n2
   have hRj:=hR j hjn
   have hTj:=hT j
   obtain⟨v,vb,hv⟩:∃ v:Int,bitsI v<=200/\dIx (.lst [.int (f j+1),.int (0 - ((t j).length:Int)),.int 0]) (.int (X / 4 % 3))=.ok (.int v):=by
    have h:X / 4 % 3=0∨X / 4 % 3=1∨X / 4 % 3=2:=by omega
    rcases h with h | h | h<;>rw[h]
    ·exact⟨f j+1,Nat.le_trans (QK4 (n:=2) (fb j hjn) (Qan (by decide))) (by decide),ixL 0 rfl⟩
    ·exact⟨0 - ((t j).length:Int),Qan (Nat.lt_of_lt_of_le (show(0 - ((t j).length:Int)).natAbs<2 ^ 10 by omega) (by decide)),ixL 1 rfl⟩
    ·exact⟨0,Qan (by decide),ixL 2 rfl⟩
   refine⟨fun i=>if i=j then v else f i,some (.k,.int (j:Int)),fun i hi=>?_,?_⟩
   ·show bitsI (if i=j then v else f i)<=200
    split
    ·exact vb
    ·exact Nat.le_trans (fb i hi) (by decide)
   ·refine r_ifT (by (repeat walk_at "e")) (decide_eq_true h) ?_
    refine r_seq (fl:=.nx [some (.k,R),some (.k,.int X),some (.o,rl n (fun i=>.int (f i))),a3,a4,a5,some (.k,.int (j:Int))]) (by (repeat walk_at "e")) (Qx ?_)
    refine r_put (k:=(j:Int)) (j:=j) (d:=.int v) (xs:=(List.range n).map fun i=>D.int (f i)) ?_ rfl (r_var rfl) (ixNR hjn _) ?_
    ·refine r_e2 (r_lst (xs:=[.int (f j+1),.int (0 - ((t j).length:Int)),.int 0]) (QA (r_e2 (r_e2 (Qgs rfl) (r_var rfl) hx) r_C (Qbv _ _)) (QA (r_e2 r_C (r_eA (QA (r_e2 (r_var rfl) (r_var rfl) hRj) r_nil) hTj) (Qla _ _)) (QA r_C r_nil))) (show 3<=1000 by decide)) (by (repeat walk_at "e")) hv
    ·rw[setR hjn]
     have e:(List.range n).map (fun i=>if i=j then D.int v else D.int (f i))=(List.range n).map fun i=>D.int (if i=j then v else f i):=by
      apply List.map_congr_left
      intro i _
      split<;>rfl
     rw[e]
     walk_at "s"
  ·refine⟨f,none,fun i hi=>Nat.le_trans (fb i hi) (by decide),?_⟩
   exact r_ifF (by (repeat walk_at "e")) (decide_eq_false h) Qhw
 by_cases h:X % 16=8
 ·refine⟨fun _=>0,fun _ _=>by show bitsI 0<=200;exact Qan (by decide),?_⟩
  rw[Qvm]
  unfold Qhv
  refine Qct (fl:=.rt true (rl n (fun _=>.int 0))) (r_seq (QeK (d:=.lst []) (by (repeat walk_at "e")) (by walk_at "s")) (Qx (r_seq hfor (Qx (r_seq h4 (Qx (r_seq (fl:=.rt true (rl n (fun _=>.int 0))) ?_ Qin))))))) r_rtT
  refine r_ifT (by (repeat walk_at "e")) (decide_eq_true h) (Qfk (r_e2 (r_lst (xs:=[.int 0]) (by (repeat walk_at "e")) (show 1<=1000 by decide)) (r_eA (QA (r_var rfl) r_nil) hlen) hrep))
 ·refine⟨f2,fb2,?_⟩
  rw[Qvm]
  unfold Qhv
  refine Qct (fl:=.rt true (rl n (fun i=>.int (f2 i)))) (r_seq (QeK (d:=.lst []) (by (repeat walk_at "e")) (by walk_at "s")) (Qx (r_seq hfor (Qx (r_seq h4 (Qx (r_seq (fl:=.nx [some (.k,R),some (.k,.int X),some (.o,rl n (fun i=>.int (f2 i))),a3,a4,a5,a6]) ?_ (Qx (Qvt rfl))))))))) r_rtT
  exact r_ifF (by (repeat walk_at "e")) (decide_eq_false h) Qhw
end
theorem QGT:∀(r:List Int)(a:Int),decide (0<topI a r)=(a::r).any fun x=>decide (0<x)
 | [],a=>by show decide (0<a)=(decide (0<a)||false);rw[Bool.or_false]
 | x::r,a=>by
  show decide (0<topI (if a<x then x else a) r)=(decide (0<a)||(decide (0<x)||r.any fun x=>decide (0<x)))
  rw[QGT r]
  show(decide (0<if a<x then x else a)||r.any fun x=>decide (0<x))=_
  rw[← Bool.or_assoc]
  refine congrArg (fun b=>b||_) ?_
  by_cases h1:0<a<;>by_cases h2:0<x<;>split<;>simp[h1,h2]<;>omega
theorem QOA{n:Nat}(n1:1<=n)(f:Nat->Int):∃ M:Int,f1 fMaxL [rl n (fun i=>.int (f i))]=.ok (.int M)/\decide (0<M)=poB n f:=by
 have e:(List.range n).map (fun i=>D.int (f i))=((List.range n).map f).map D.int:=by rw[List.map_map];rfl
 have hp:poB n f=((List.range n).map f).any fun x=>decide (0<x):=by rw[List.any_map];rfl
 rw[hp]
 show ∃ M:Int,fMaxL (.lst ((List.range n).map fun i=>D.int (f i)))=.ok (.int M)/\_
 rw[e,fMaxL,Qy8]
 cases h:(List.range n).map f with
 | nil=>
  have:=congrArg List.length h
  rw[List.length_map,List.length_range]at this
  exact absurd this (by show ¬ n=0;omega)
 | cons a r=>exact⟨topI a r,rfl,QGT r a⟩
section
variable{n nd:Nat}{nm dn c:Nat->Str}{t:Nat->List (List Int)}{m:Nat->Nat}{ld:Nat->Nat->Int}{st:Nat->Int}(hs:Seats n nd nm dn c t m ld st)
include hs
theorem QOO{f:Nat->Int}{j k:Nat}(hj:j<n):f j / (tcn nd t m ld j (nd+k)).2 * (tcn nd t m ld j (nd+k)).1=wv t m ld f (k:Int) j:=by
 show f j / ((t j).length:Int) * dkt (m j) (fun i=>pos nd (ld j i)) (cs (t j) (t j).length) ((nd+k:Nat):Int)=f j / ((t j).length:Int) * dkt (m j) (ld j) (cs (t j) (t j).length) (k:Int)
 refine congrArg (fun z:Int=>f j / ((t j).length:Int) * z) ?_
 refine Qqf (m j) fun i hi=>⟨?_,rfl⟩
 obtain⟨h1,h2⟩:=hs.ldr j i hj hi
 show pos nd (ld j i)=((nd+k:Nat):Int)↔ld j i=(k:Int)
 unfold pos
 split<;>omega
theorem QMp{f:Nat->Int}(hf:∀ i,i<n->bitsI (f i)<=200){k:Nat}(hk:k<n)(a6 a7:Option (SM×D)):∃ b6 b7,
 sFor (gN 6) (itR1 (eA fLen (aCons (eVar 0) aNil))) QiY [some (.k,rl n (fun k=>tbD (t k))),some (.k,rl n (fun k=>rl (nd+n) (fun i=>fr (tcn nd t m ld k i)))),some (.k,.int (nd:Int)),some (.k,rl n (fun i=>.int (f i))),some (.k,.int (k:Int)),some (.k,.int 0),a6,a7]=
  .ok (.nx [some (.k,rl n (fun k=>tbD (t k))),some (.k,rl n (fun k=>rl (nd+n) (fun i=>fr (tcn nd t m ld k i)))),some (.k,.int (nd:Int)),some (.k,rl n (fun i=>.int (f i))),some (.k,.int (k:Int)),some (.k,.int (((List.range n).map (wv t m ld f (k:Int))).sum)),b6,b7]):=by
 have n2:=hs.n2
 have hlen:=lenR n (fun k=>tbD (t k))
 have hT:∀ j,j<n->dIx (rl n (fun k=>rl (nd+n) (fun i=>fr (tcn nd t m ld k i)))) (.int (j:Int))=.ok (rl (nd+n) (fun i=>fr (tcn nd t m ld j i))):=fun j hj=>ixR (f:=fun k=>rl (nd+n) (fun i=>fr (tcn nd t m ld k i))) hj
 have hF:∀ j,j<n->dIx (rl n (fun i=>D.int (f i))) (.int (j:Int))=.ok (.int (f j)):=fun j hj=>ixR (f:=fun i=>D.int (f i)) hj
 generalize rl n (fun k=>tbD (t k))=R at *
 generalize rl n (fun k=>rl (nd+n) (fun i=>fr (tcn nd t m ld k i)))=Tb at *
 generalize rl n (fun i=>D.int (f i))=F at *
 obtain⟨ς',hL,b6,b7,rfl⟩:=Qgg (body:=fun x ς=>gN 6 x ς>>=fun ς'=>QiY ς') (n:=n)
  (P:=fun j ς=>∃ b6 b7,ς=[some (.k,R),some (.k,Tb),some (.k,.int (nd:Int)),some (.k,F),some (.k,.int (k:Int)),some (.k,.int (((List.range j).map (wv t m ld f (k:Int))).sum)),b6,b7])
  (by
   rintro j hj ς ⟨b6,b7,rfl⟩
   have h1:=hT j hj
   have h2:=hF j hj
   obtain⟨t1,t2,t3⟩:=QPA hs (i:=nd+k) hj
   have hx:dIx (rl (nd+n) (fun i=>fr (tcn nd t m ld j i))) (.int ((nd:Int)+(k:Int)))=.ok (fr (tcn nd t m ld j (nd+k))):=by
    rw[show(nd:Int)+(k:Int)=((nd+k:Nat):Int) by omega]
    exact ixR (f:=fun i=>fr (tcn nd t m ld j i)) (by omega)
   have x0:=fr0 (tcn nd t m ld j (nd+k))
   have x1:=fr1 (tcn nd t m ld j (nd+k))
   have hb:=hf j hj
   have hd:dFdiv (.int (f j)) (.int (tcn nd t m ld j (nd+k)).2)=.ok (.int (f j / (tcn nd t m ld j (nd+k)).2)):=QbY (by omega) (QJn (Qib t3) (by decide))
   have hmu:dMul (.int (f j / (tcn nd t m ld j (nd+k)).2)) (.int (tcn nd t m ld j (nd+k)).1)=.ok (.int (wv t m ld f (k:Int) j)):=by
    rw[QgY (QLp hb) t2 (by decide),QOO hs hj]
   have hsum:((List.range j).map (wv t m ld f (k:Int))).sum+wv t m ld f (k:Int) j=((List.range (j+1)).map (wv t m ld f (k:Int))).sum:=by
    rw[List.range_succ,List.map_append,List.sum_append]
    simp
   refine⟨[some (.k,R),some (.k,Tb),some (.k,.int (nd:Int)),some (.k,F),some (.k,.int (k:Int)),some (.k,.int (((List.range (j+1)).map (wv t m ld f (k:Int))).sum)),some (.k,.int (j:Int)),some (.k,fr (tcn nd t m ld j (nd+k)))],?_,_,_,rfl⟩
   rw[← hsum]
   generalize ((List.range j).map (wv t m ld f (k:Int))).sum=Su
   generalize rl (nd+n) (fun i=>fr (tcn nd t m ld j i))=Row at *
   generalize hfr:fr (tcn nd t m ld j (nd+k))=One at *
   refine r_gN (by walk_at "s") ?_
   unfold QiY
   refine r_seq (r_set (r_e2 (r_e2 (r_var rfl) (r_var rfl) h1) (r_e2 (r_var rfl) (r_var rfl) (Qbv _ _)) hx) (by walk_at "s")) (Qx ?_)
   exact r_set (r_e2 (r_var rfl) (r_e2 (r_e2 (r_e2 (r_var rfl) (r_var rfl) h2) (r_e2 (r_var rfl) r_C x1) hd) (r_e2 (r_var rfl) r_C x0) hmu) (Qbv _ _)) (by walk_at "s"))
  [some (.k,R),some (.k,Tb),some (.k,.int (nd:Int)),some (.k,F),some (.k,.int (k:Int)),some (.k,.int 0),a6,a7] ⟨a6,a7,rfl⟩
 exact⟨b6,b7,Qbk (QcP n (r_eA (QA (r_var rfl) r_nil) hlen) (by omega)) hL⟩
theorem QPm{f:Nat->Int}(hf:∀ i,i<n->bitsI (f i)<=200):Qeb [rl n (fun k=>tbD (t k)),rl n (fun k=>rl (nd+n) (fun i=>fr (tcn nd t m ld k i))),.int (nd:Int),rl n (fun i=>.int (f i))]=.ok (.bl (rdB n t f&&(coB n t m ld f&&poB n f))):=by
 have n1:=hs.n1
 have n2:=hs.n2
 have hlen:=lenR n (fun k=>tbD (t k))
 have hR:∀ k,k<n->dIx (rl n (fun k=>tbD (t k))) (.int (k:Int))=.ok (tbD (t k)):=fun k hk=>ixR (f:=fun k=>tbD (t k)) hk
 have hTl:∀ k,fLen [tbD (t k)]=.ok (.int ((t k).length:Int)):=fun k=>by simp[fLen,tbD]
 have hF:∀ j,j<n->dIx (rl n (fun i=>D.int (f i))) (.int (j:Int))=.ok (.int (f j)):=fun j hj=>ixR (f:=fun i=>D.int (f i)) hj
 have hcm:=fun k hk a6 a7=>QMp hs hf (k:=k) hk a6 a7
 obtain⟨M,hM,hMp⟩:=QOA n1 f
 generalize rl n (fun k=>tbD (t k))=R at *
 generalize rl n (fun k=>rl (nd+n) (fun i=>fr (tcn nd t m ld k i)))=Tb at *
 generalize rl n (fun i=>D.int (f i))=F at *
 have l1:=QB1 (body:=fun x ς=>gN 4 x ς>>=fun ς'=>QbM ς') (f:=fun k:Nat=>D.int ((0:Int)+k)) (n:=n) (good:=fun k=>decide (0<=f k)&&decide (f k % ((t k).length:Int)=0))
  (P:=fun ς=>∃ a4,ς=[some (.k,R),some (.k,Tb),some (.k,.int (nd:Int)),some (.k,F),a4,none,none,none])
  (by
   rintro k hk ς ⟨a4,rfl⟩
   have h1:=hR k hk
   have h2:=hTl k
   have h3:=hF k hk
   have tn1:=(hs.tb k hk).n1
   have hmd:dMod (.int (f k)) (.int ((t k).length:Int))=.ok (.int (f k % ((t k).length:Int))):=QT (by omega)
   generalize tbD (t k)=Tk at *
   generalize f k % ((t k).length:Int)=Q at *
   generalize f k=fk at *
   by_cases g1:0<=fk
   ·have g1':¬ fk<0:=by omega
    by_cases g2:Q=0
    ·refine .inl ⟨by rw[decide_eq_true g1,decide_eq_true g2];rfl,[some (.k,R),some (.k,Tb),some (.k,.int (nd:Int)),some (.k,F),some (.k,.int ((k:Nat):Int)),none,none,none],?_,_,rfl⟩
     show(gN 4 (D.int ((0:Int)+k)) _>>=fun ς'=>QbM ς')=_
     rw[Int.zero_add]
     refine r_gN (by walk_at "s") ?_
     unfold QbM
     (repeat walk_at "e")
    ·refine .inr ⟨by rw[decide_eq_false g2,Bool.and_false],?_⟩
     show(gN 4 (D.int ((0:Int)+k)) _>>=fun ς'=>QbM ς')=_
     rw[Int.zero_add]
     refine r_gN (by walk_at "s") ?_
     unfold QbM
     (repeat walk_at "e")
   ·have g1':fk<0:=by omega
    refine .inr ⟨by rw[decide_eq_false g1,Bool.false_and],?_⟩
    show(gN 4 (D.int ((0:Int)+k)) _>>=fun ς'=>QbM ς')=_
    rw[Int.zero_add]
    refine r_gN (by walk_at "s") ?_
    unfold QbM
    (repeat walk_at "e"))
  [some (.k,R),some (.k,Tb),some (.k,.int (nd:Int)),some (.k,F),none,none,none,none] ⟨none,rfl⟩
 have hit:∀ ς:SD,ς[0]?=some (some (.k,R))->itR1 (eA fLen (aCons (eVar 0) aNil)) ς=.ok ((List.range n).map fun k:Nat=>D.int ((0:Int)+k)):=fun ς h=>QcP n (r_eA (QA (r_var h) r_nil) hlen) (by omega)
 rw[QJK]
 unfold Qmy
 rcases l1 with⟨hg,ς1,hL1,a4,rfl⟩ | ⟨hg,hL1⟩
 ·have hg':rdB n t f=true:=hg
  have hf1:=Qbk (g:=gN 4) (T:=QbM) (hit _ rfl) hL1
  rw[hg',Bool.true_and]
  have l2:=QB1 (body:=fun x ς=>gN 4 x ς>>=fun ς'=>QcD ς') (f:=fun k:Nat=>D.int ((0:Int)+k)) (n:=n) (good:=fun k=>decide (f k<=((List.range n).map (wv t m ld f (k:Int))).sum))
   (P:=fun ς=>∃ a4 a5 a6 a7,ς=[some (.k,R),some (.k,Tb),some (.k,.int (nd:Int)),some (.k,F),a4,a5,a6,a7])
   (by
    rintro k hk ς ⟨a4,a5,a6,a7,rfl⟩
    obtain⟨b6,b7,hc⟩:=hcm k hk a6 a7
    have h3:=hF k hk
    generalize ((List.range n).map (wv t m ld f (k:Int))).sum=Su at *
    generalize f k=fk at *
    have hs0:sSet 5 (eC (.int 0)) [some (.k,R),some (.k,Tb),some (.k,.int (nd:Int)),some (.k,F),some (.k,.int (k:Int)),a5,a6,a7]=.ok (.nx [some (.k,R),some (.k,Tb),some (.k,.int (nd:Int)),some (.k,F),some (.k,.int (k:Int)),some (.k,.int 0),a6,a7]):=r_set r_C (by walk_at "s")
    by_cases g:fk<=Su
    ·have g':¬ Su<fk:=by omega
     refine .inl ⟨decide_eq_true g,[some (.k,R),some (.k,Tb),some (.k,.int (nd:Int)),some (.k,F),some (.k,.int (k:Int)),some (.k,.int Su),b6,b7],?_,_,_,_,_,rfl⟩
     show(gN 4 (D.int ((0:Int)+k)) _>>=fun ς'=>QcD ς')=_
     rw[Int.zero_add]
     refine r_gN (by walk_at "s") ?_
     unfold QcD
     refine r_seq hs0 (Qx (r_seq hc (Qx ?_)))
     (repeat walk_at "e")
    ·have g':Su<fk:=by omega
     refine .inr ⟨decide_eq_false g,?_⟩
     show(gN 4 (D.int ((0:Int)+k)) _>>=fun ς'=>QcD ς')=_
     rw[Int.zero_add]
     refine r_gN (by walk_at "s") ?_
     unfold QcD
     refine r_seq hs0 (Qx (r_seq hc (Qx ?_)))
     (repeat walk_at "e"))
   [some (.k,R),some (.k,Tb),some (.k,.int (nd:Int)),some (.k,F),a4,none,none,none] ⟨_,_,_,_,rfl⟩
  rcases l2 with⟨hg2,ς2,hL2,c4,c5,c6,c7,rfl⟩ | ⟨hg2,hL2⟩
  ·have hg2':coB n t m ld f=true:=hg2
   have hf2:=Qbk (g:=gN 4) (T:=QcD) (hit _ rfl) hL2
   rw[hg2',Bool.true_and, ← hMp]
   refine Qct (r_seq hf1 (Qx (r_seq hf2 (Qx (r_ret (r_e2 (r_eA (QA (r_var rfl) r_nil) hM) r_C (Qpd _ _))))))) r_rt
  ·have hg2':coB n t m ld f=false:=hg2
   have hf2:=Qbk (g:=gN 4) (T:=QcD) (hit _ rfl) hL2
   rw[hg2',Bool.false_and]
   exact Qct (r_seq hf1 (Qx (r_seq hf2 Qin))) r_rt
 ·have hg':rdB n t f=false:=hg
  have hf1:=Qbk (g:=gN 4) (T:=QbM) (hit _ rfl) hL1
  rw[hg',Bool.false_and]
  exact Qct (r_seq hf1 Qin) r_rt
end
theorem rng2{A B:SD->Out D}{ς:SD}{a b:Int}(ha:A ς=.ok (.int a))(hb:B ς=.ok (.int b))(h1 : -1000<=a)(h2:a<=1000)(h3 : -1000<=b)(h4:b<=1000):itR2 A B ς=.ok (Qcu a (b - a).toNat):=by
 unfold itR2
 rw[ha,Out.bind_ok,hb,Out.bind_ok]
 show(if (QeP a&&QeP b)=true then _ else _)=_
 rw[if_pos]
 unfold QeP
 simp only[Bool.and_eq_true,decide_eq_true_eq]
 omega
theorem QKr:∀ l:List Int,layDs (l.map D.int)=true
 | []=>rfl
 | x::l=>by show(layD (D.int x)&&layDs (l.map D.int))=true;rw[QKr l];rfl
theorem QJm:∀ l:List Int,deps (l.map D.int)<=1
 | []=>Nat.zero_le _
 | x::l=>by
  have:=QJm l
  show max (dep (D.int x)) (deps (l.map D.int))<=1
  have h:dep (D.int x)=0:=rfl
  omega
theorem QJR:∀ l:List Int,PyData.eqvAll (D.pys (l.map D.int)) (D.pys (l.map D.int))=true
 | []=>rfl
 | x::l=>by
  show(PyData.eqv (D.int x).py (D.int x).py&&PyData.eqvAll (D.pys (l.map D.int)) (D.pys (l.map D.int)))=true
  rw[QJR l,Bool.and_true]
  simp[D.py,PyData.eqv]
theorem ne_in(n:Nat)(f:Nat->Int):dNe (rl n (fun i=>.int (f i))) (rl n (fun i=>.int (f i)))=.ok (.bl false):=by
 have e:rl n (fun i=>D.int (f i))=.lst (((List.range n).map f).map D.int):=by show D.lst _=_;rw[List.map_map];rfl
 rw[e]
 have hsh:shp (.lst (((List.range n).map f).map D.int))=true:=QDo (d:=.lst (((List.range n).map f).map D.int)) (QKr _) (by show deps (((List.range n).map f).map D.int)+1<=64;have:=QJm ((List.range n).map f);omega)
 rw[QDc hsh hsh]
 show Out.ok (D.bl (!PyData.eqvAll (D.pys (((List.range n).map f).map D.int)) (D.pys (((List.range n).map f).map D.int))))=_
 rw[QJR];rfl
theorem the_law(ns:List Int)(hl:ns.length<=63)(hb:∀ z∈ns,bitsI z<=1048576):Qmx [.lst (ns.map .int)]=.ok (.bl true):=by
 obtain⟨n,nd,c,t,m,ld,st,n7,d3,hs,hdr⟩:=QMe ns
 have n1:=hs.n1
 have htab:=QL6 hs (O:=offD n nd cnm dnm c t m ld st)
 have hlen:fLen [.lst (ns.map D.int)]=.ok (.int (ns.length:Int)):=by simp[fLen]
 have hx0:dIx (.lst [offD n nd cnm dnm c t m ld st,rl n (fun k=>tbD (t k)),rl n (fun k=>rl (m k) (fun j=>.int (ld k j))),.int (nd:Int)]) (.int 0)=.ok (offD n nd cnm dnm c t m ld st):=ixL 0 rfl
 have hx1:dIx (.lst [offD n nd cnm dnm c t m ld st,rl n (fun k=>tbD (t k)),rl n (fun k=>rl (m k) (fun j=>.int (ld k j))),.int (nd:Int)]) (.int 1)=.ok (rl n (fun k=>tbD (t k))):=ixL 1 rfl
 have hx3:dIx (.lst [offD n nd cnm dnm c t m ld st,rl n (fun k=>tbD (t k)),rl n (fun k=>rl (m k) (fun j=>.int (ld k j))),.int (nd:Int)]) (.int 3)=.ok (.int (nd:Int)):=ixL 3 rfl
 have hcells:=QHh ns
 have hflow:=fun X (x0:0<=X) (x1:X<2147483648)=>QMw hs (X:=X) x0 x1
 have main:∀ f:Nat->Int,(∀ i,i<n->bitsI (f i)<=200)->∃ b:Bool,QcB [offD n nd cnm dnm c t m ld st,rl n (fun i=>.int (f i))]=.ok (.bl b)/\Qeb [rl n (fun k=>tbD (t k)),rl n (fun k=>rl (nd+n) (fun i=>fr (tcn nd t m ld k i))),.int (nd:Int),rl n (fun i=>.int (f i))]=.ok (.bl b):=fun f hf=>by
  refine⟨_,QK7 hs (f:=f) (fun k hk=>Nat.lt_of_lt_of_le (Qib (hf k hk)) (dk)),?_⟩
  rw[QPm hs hf]
  refine congrArg (fun b=>Out.ok (D.bl b)) ?_
  cases rdB n t f<;>cases poB n f<;>cases coB n t m ld f<;>rfl
 generalize hO:offD n nd cnm dnm c t m ld st=O at *
 generalize hTb:rl n (fun k=>rl (nd+n) (fun i=>fr (tcn nd t m ld k i)))=Tb at *
 generalize hRo:rl n (fun k=>tbD (t k))=Ro at *
 generalize hDr:D.lst [O,Ro,rl n (fun k=>rl (m k) (fun j=>D.int (ld k j))),.int (nd:Int)]=Dr at *
 generalize hS:D.lst (ns.map D.int)=S at *
 obtain⟨ς',hL,a3,a4,a5,a6,a7,rfl⟩:=QK6 (body:=fun x ς=>gN 3 x ς>>=fun ς'=>Qte ς') (xs:=Qcu 9 (((max 10 (min ns.length 59):Nat):Int) - 9).toNat)
  (P:=fun ς=>∃ a3 a4 a5 a6 a7,ς=[some (.k,S),some (.k,Dr),some (.k,Tb),a3,a4,a5,a6,a7])
  (by
   rintro x hx ς ⟨a3,a4,a5,a6,a7,rfl⟩
   obtain⟨i,hi,rfl⟩:=List.mem_map.mp hx
   have hi:=List.mem_range.mp hi
   obtain⟨v,hv⟩:=hcells (9+i)
   have hmx:=QuQ v (k:=((9+i:Nat):Int)) (by omega) (by omega)
   obtain⟨x0,x1⟩:=Qvc v ((9+i:Nat):Int)
   generalize mixV v ((9+i:Nat):Int)=X at *
   obtain⟨f,hf,hfl⟩:=hflow X x0 (Int.lt_trans x1 (by decide))
   obtain⟨b,h1,h2⟩:=main f hf
   have h3:=ne_in n f
   have h4:dList (rl n (fun i=>.int (f i)))=.ok (rl n (fun i=>.int (f i))):=rfl
   have h5:dNe (.bl b) (.bl b)=.ok (.bl false):=by rw[QOH,beq_self_eq_true];rfl
   have h6:isaT "bool" (.bl b)=.ok true:=rfl
   generalize rl n (fun i=>D.int (f i))=Fl at *
   have hk:(9:Int)+(i:Int)=((9+i:Nat):Int):=by omega
   rw[hk]
   generalize ((9+i:Nat):Int)=K at *
   refine⟨[some (.k,S),some (.k,Dr),some (.k,Tb),some (.k,.int K),some (.k,Fl),some (.k,Fl),some (.k,.bl b),some (.k,.bl b)],?_,_,_,_,_,_,rfl⟩
   refine r_gN (by walk_at "s") ?_
   unfold Qte
   (repeat walk_at "e"))
  [some (.k,S),some (.k,Dr),some (.k,Tb),none,none,none,none,none] ⟨_,_,_,_,_,rfl⟩
 have hmin:fMin2 [.int (ns.length:Int),.int 59]=.ok (.int ((min ns.length 59:Nat):Int)):=by
  show Out.ok (D.int (if (59:Int)<(ns.length:Int) then 59 else(ns.length:Int)))=_
  congr 2;split<;>omega
 have hmax:fMax2 [.int 10,.int ((min ns.length 59:Nat):Int)]=.ok (.int ((max 10 (min ns.length 59):Nat):Int)):=by
  show Out.ok (D.int (if (10:Int)<((min ns.length 59:Nat):Int) then((min ns.length 59:Nat):Int) else 10))=_
  congr 2;split<;>omega
 have hit:itR2 (eC (.int 9)) (eA fMax2 (aCons (eC (.int 10)) (aCons (eA fMin2 (aCons (eA fLen (aCons (eVar 0) aNil)) (aCons (eC (.int 59)) aNil))) aNil))) [some (.k,S),some (.k,Dr),some (.k,Tb),none,none,none,none,none]=.ok (Qcu 9 (((max 10 (min ns.length 59):Nat):Int) - 9).toNat):=rng2 rfl (by (repeat walk_at "e")) (by decide) (by decide) (by omega) (by omega)
 have hfor:=Qbk (g:=gN 3) (T:=Qte) hit hL
 rw[QPP]
 unfold QAS
 (repeat walk_at "e")
end My
namespace My
open PySem PySem.Spec L2 DL
theorem all_mk{l:W.OpenLaw}{w:World}{K:W.Frag}{h:Heap}{mg:Str->Option Value}{fa:Addr}(X:K.In h)(G:h.Ns mainGlobals mg)(hfa:mg "law"=some (.ref fa))
 {QF:Addr} {Qv:Addr} {QG:Addr} {QH:Addr} {QO:Addr} {Qaa:Addr} {Qgd:Addr} {Qgj:Addr} {QeG:Addr} {Qgp:Addr} {Qa2:Addr} {Qaw:Addr} {QeC:Addr} {QeD:Addr} {QdU:Addr} {Qd1:Addr} {QaA:Addr} {QN:Addr} {QaW:Addr} {QdL:Addr} {Qom:Addr} {QCQ QBz:Option Addr} {QBq:Array (Option Value)} {QEd QDM QA5 QEl Qr9 QDC:Value} {QpH:Addr} {QF9 QFa:Option Addr} {QGq:Array (Option Value)} {QGL QFE QGv QGk QtI QEM:Value} {Qsu:Addr} {QHH QH3:Option Addr} {QII:Array (Option Value)} {QHO QHN QIa QIH Qwf QIN:Value} {Qh4:Addr} {QvJ Qv0:Option Addr} {Qwy:Array (Option Value)} {Qu4 Qv8 Qvq Qu8 QmN Qu1:Value} {QsM QsH:Option Addr} {QsK:Array (Option Value)} {Qrx Qsb Qrs QsW Qjg Qrm:Value} {Qql:Addr} {QEO QGe:Option Addr} {QE0:Array (Option Value)} {QEP QGx QGf QGo QtO QGm:Value} {QnH:Addr} {QEj QEm:Option Addr} {QBc:Array (Option Value)} {QDJ QCv QDm QEg Qsj QEo:Value} {Quo:Addr} {QJs QKy:Option Addr} {QK5:Array (Option Value)} {QKo QLB QJU QK3 Qy1 QLt:Value} {Qqr:Addr} {QEF QFW:Option Addr} {QFb:Array (Option Value)} {QGr QGi QFz QFl QtR QEU:Value} {QDn QC8:Option Addr} {QA0:Array (Option Value)} {QBh QCZ QDv QCr Qr2 QBk:Value} {Qls:Addr} {QAm Qzn:Option Addr} {QAa:Array (Option Value)} {QAA QAN QzH Qzt QqW QzP:Value} {QCb QDw:Option Addr} {QBF:Array (Option Value)} {QBg QDK QDr QC9 Qru QA3:Value} {QwS Qxj:Option Addr} {QxP:Array (Option Value)} {QyB Qw8 QxD QxX Qo4 Qw1:Value} {QAY QDz:Option Addr} {QB9:Array (Option Value)} {QDI QEc QCS QA9 Qrv QBb:Value} {Qok:Addr} {QCW QCt:Option Addr} {QDh:Array (Option Value)} {QBV QCL QCk QCR QrF QCP:Value} {Qnz:Addr} {QBQ QBe:Option Addr} {QDW:Array (Option Value)} {QCm QCz QDe QBw QsG QCF:Value} {QrZ:Addr} {QHz QIT:Option Addr} {QJg:Array (Option Value)} {QH6 QH5 QHn QHw Qu2 QHU:Value} {Ql6:Addr} {Qz4 QzF:Option Addr} {QzB:Array (Option Value)} {Qzv QAf Qzr QAE Qqy Qz2:Value} {Qrn:Addr} {QH2 QI7:Option Addr} {QIA:Array (Option Value)} {QJf QIw QHV QJe Qvp QHS:Value} {Qou:Addr} {QBL QC2:Option Addr} {QCI:Array (Option Value)} {QB4 QEe QBd QC5 QrR QBl:Value} {Qm4:Addr} {QBv QDl:Option Addr} {QBn:Array (Option Value)} {QB6 QBy QDq QBE QrV QBf:Value} {QpL:Addr} {QFo QF0:Option Addr} {QGu:Array (Option Value)} {QFc QFZ QF2 QE3 QtV QGO:Value} {QAg QAM:Option Addr} {QAz:Array (Option Value)} {QzL QzX QzS QzU QqN QAi:Value} {QvV Qvw:Option Addr} {QvR:Array (Option Value)} {QwH Qvg Qwh QvK QmE QwC:Value} {Qs1:Addr} {QIv QHj:Option Addr} {QHy:Array (Option Value)} {QIf QHR QHv QIk Qvv QI2:Value} {Qnd:Addr} {QC3 QB7:Option Addr} {QEi:Array (Option Value)} {QA4 QB2 QCa QDL QrU QC0:Value} {Qqn:Addr} {QFh QF1:Option Addr} {QFY:Array (Option Value)} {QGy QFr QFp QEy QtM QF8:Value} {Qjz:Addr} {QxU Qw9:Option Addr} {QxG:Array (Option Value)} {QxN QxJ Qxr QyE QoO Qyv:Value} {Qqj:Addr} {QEW QE4:Option Addr} {QEx:Array (Option Value)} {QGK QFn QEq QED Qt1 QFx:Value} {QyC QxO:Option Addr} {QxV:Array (Option Value)} {Qxh Qx9 Qxu Qx8 QoL Qxl:Value} {Qov:Addr} {QBA QBO:Option Addr} {QDP:Array (Option Value)} {QA2 QBR QDV QDd QsF QCK:Value} {Qos:Addr} {QC4 QBa:Option Addr} {QDu:Array (Option Value)} {QCT QD5 QEk QCq Qsy QBM:Value} {QnC:Addr} {QCn QCl:Option Addr} {QB3:Array (Option Value)} {QBJ QDF QCs QCx Qrg QDs:Value} {QpT:Addr} {QFw QFm:Option Addr} {QF4:Array (Option Value)} {QEQ QFv QEs QGa Qt6 QGI:Value} {Qyw Qxx:Option Addr} {QxS:Array (Option Value)} {QxW QwO Qxg QxZ Qpj Qxb:Value} {Qng:Addr} {QD8 QBo:Option Addr} {QDE:Array (Option Value)} {QBt QEf QBI QDH QsP QDb:Value} {Qvs Qvo:Option Addr} {QuZ:Array (Option Value)} {Qwn QvF QvO QvL QmM Qwo:Value} {Qlg:Addr} {QAp Qzw:Option Addr} {Qzp:Array (Option Value)} {QzN QAn QAP QAC QqT Qzq:Value} {Qsr:Addr} {QIg QI6:Option Addr} {QH7:Array (Option Value)} {QI3 QHu QH9 QHJ Qvh QHr:Value} {QBp:Addr} {QNH QNn:Option Addr} {QNv:Array (Option Value)} {QM6 QNy QMF QNf QG5 QMO:Value} {QHk:Addr} {QOp QPv:Option Addr} {QO0:Array (Option Value)} {QPe QOW QOk QOo QKI QOu:Value} {Qu3 Qvb:Option Addr} {Qwt:Array (Option Value)} {QuY Qws Qv9 Qwa Qmv QvX:Value} {QwV QwY:Option Addr} {QxI:Array (Option Value)} {Qxi QxF Qyx Qx4 QoP Qya:Value} {Qly QlU:Option Addr} {QlL:Array (Option Value)} {QlD Qlh QlT Ql1 Qfa Qlr:Value} {QAq QAj:Option Addr} {QAv:Array (Option Value)} {Qz6 Qzz QzV QAw QqE QzC:Value} {Qlx:Addr} {QAR QAo:Option Addr} {QAJ:Array (Option Value)} {Qzo QzT Qzu QzK QqR QAQ:Value} {Qvl Qva:Option Addr} {Qvi:Array (Option Value)} {QvG Qu9 Qvj QwE QmJ QwB:Value} {Qkz:Addr} {Qx2 QxE:Option Addr} {Qx3:Array (Option Value)} {Qxs Qyc Qw6 Qw3 QoM Qyf:Value} {QrW:Addr} {QHx QIK:Option Addr} {QHT:Array (Option Value)} {QIX QI4 QHL QHQ Qv4 QHW:Value} {Qn7:Addr} {QCh QDj:Option Addr} {QCy:Array (Option Value)} {QDD QCO QEb QDO Qs4 QBY:Value} {Qro:Addr} {QHA QH8:Option Addr} {QIz:Array (Option Value)} {QI0 QID QHI QIn Qvf QIG:Value} {QIS:Addr} {QPd QJB:Option Addr} {QOl:Array (Option Value)} {QO6 QJ5 QLr QKx QCp QLn:Value} {tk_MOST_OUTS:Tok} {tk_MOST_SENT:Tok} {tk_MOST_ROWS:Tok} {tk_MOST_SIGNS:Tok} {tk_LETTERS:Tok} {tk_MOST_CLERKS:Tok} {tk_MOST_ENTRIES:Tok} {tk_MOST_DOORS:Tok}
 (QvC:W.nsIn K mainGlobals "Deal"=some (some (.ref QF)))
 (Qw4:W.plainGet K QF Str.empty=true)
 (Qyh:W.hasDictIn K QF=true)
 (Qxe:W.plainOver K QF=true)
 (Qys:W.findIn K (.ref QF) "__setattr__"=some (some (.builtin "object.__setattr__")))
 (QjA:W.findIn K (.ref QF) "table"=some none)
 (Qkv:W.findIn K (.ref QF) "heads"=some none)
 (QeV:W.findIn K (.ref QF) "clerk_names"=some none)
 (Qfe:W.findIn K (.ref QF) "door_names"=some none)
 (Qeo:W.findIn K (.ref QF) "entry_places"=some none)
 (QjS:W.findIn K (.ref QF) "staff"=some none)
 (Qeu:W.findIn K (.ref QF) "first_states"=some none)
 (Qmb:W.findIn K (.ref QF) "ways"=some none)
 (Qp8:W.nsIn K mainGlobals "Bundle"=some (some (.ref Qv)))
 (Qsi:W.plainGet K Qv Str.empty=true)
 (Qse:W.hasDictIn K Qv=true)
 (Qsm:W.plainOver K Qv=true)
 (Qss:W.findIn K (.ref Qv) "__setattr__"=some (some (.builtin "object.__setattr__")))
 (QhC:W.findIn K (.ref Qv) "table"=some none)
 (Qg7:W.findIn K (.ref Qv) "heads"=some none)
 (QdP:W.findIn K (.ref Qv) "clerk_names"=some none)
 (Qek:W.findIn K (.ref Qv) "door_names"=some none)
 (Qdl:W.findIn K (.ref Qv) "entry_places"=some none)
 (QhH:W.findIn K (.ref Qv) "staff"=some none)
 (Qdw:W.findIn K (.ref Qv) "first_states"=some none)
 (Qh7:W.findIn K (.ref Qv) "ways"=some none)
 (QvB:W.nsIn K mainGlobals "Copy"=some (some (.ref QG)))
 (Qyq:W.plainGet K QG Str.empty=true)
 (Qx0:W.hasDictIn K QG=true)
 (Qyi:W.plainOver K QG=true)
 (QwT:W.findIn K (.ref QG) "__setattr__"=some (some (.builtin "object.__setattr__")))
 (Qj8:W.findIn K (.ref QG) "table"=some none)
 (QjU:W.findIn K (.ref QG) "heads"=some none)
 (QeX:W.findIn K (.ref QG) "clerk_names"=some none)
 (Qfi:W.findIn K (.ref QG) "door_names"=some none)
 (Qef:W.findIn K (.ref QG) "entry_places"=some none)
 (QkA:W.findIn K (.ref QG) "staff"=some none)
 (Qez:W.findIn K (.ref QG) "first_states"=some none)
 (Qlq:W.findIn K (.ref QG) "ways"=some none)
 (Qwk:W.nsIn K mainGlobals "Rows"=some (some (.ref QH)))
 (Qxy:W.plainGet K QH Str.empty=true)
 (Qyz:W.hasDictIn K QH=true)
 (QyA:W.plainOver K QH=true)
 (Qyr:W.findIn K (.ref QH) "__setattr__"=some (some (.builtin "object.__setattr__")))
 (Qki:W.findIn K (.ref QH) "table"=some none)
 (QjF:W.findIn K (.ref QH) "heads"=some none)
 (QeT:W.findIn K (.ref QH) "clerk_names"=some none)
 (Qfd:W.findIn K (.ref QH) "door_names"=some none)
 (Qeh:W.findIn K (.ref QH) "entry_places"=some none)
 (QjZ:W.findIn K (.ref QH) "staff"=some none)
 (Qex:W.findIn K (.ref QH) "first_states"=some none)
 (Qma:W.findIn K (.ref QH) "ways"=some none)
 (QpP:W.nsIn K mainGlobals "Office"=some (some (.ref QO)))
 (QrQ:W.plainGet K QO Str.empty=true)
 (QsR:W.hasDictIn K QO=true)
 (QsA:W.plainOver K QO=true)
 (Qr3:W.findIn K (.ref QO) "__setattr__"=some (some (.builtin "object.__setattr__")))
 (Qhx:W.findIn K (.ref QO) "table"=some none)
 (Qhj:W.findIn K (.ref QO) "heads"=some none)
 (Qd0:W.findIn K (.ref QO) "clerk_names"=some none)
 (Qes:W.findIn K (.ref QO) "door_names"=some none)
 (Qdm:W.findIn K (.ref QO) "entry_places"=some none)
 (Qg9:W.findIn K (.ref QO) "staff"=some none)
 (QdE:W.findIn K (.ref QO) "first_states"=some none)
 (Qh8:W.findIn K (.ref QO) "ways"=some none)
 (Qoc:W.findIn K (.ref QF) "outs"=some (some (.ref Qa2)))
 (QjE:W.findIn K (.ref Qv) "outs"=some (some (.ref Qa2)))
 (Qn8:W.findIn K (.ref QG) "outs"=some (some (.ref Qa2)))
 (Qm9:W.findIn K (.ref QH) "outs"=some (some (.ref Qa2)))
 (Qku:W.findIn K (.ref QF) "period"=some (some (.ref Qaw)))
 (Qhg:W.findIn K (.ref Qv) "period"=some (some (.ref Qaw)))
 (Qkj:W.findIn K (.ref QG) "period"=some (some (.ref Qaw)))
 (QjW:W.findIn K (.ref QH) "period"=some (some (.ref Qaw)))
 (Qkb:W.findIn K (.ref QO) "many"=some (some (.ref QeD)))
 (Qio:W.findIn K (.ref QO) "clerk"=some (some (.ref QdU)))
 (Qle:W.findIn K (.ref QF) "whole"=some (some (.ref QaA)))
 (Qip:W.findIn K (.ref Qv) "whole"=some (some (.ref QaA)))
 (QlR:W.findIn K (.ref QG) "whole"=some (some (.ref QaA)))
 (QlK:W.findIn K (.ref QH) "whole"=some (some (.ref QaA)))
 (QdA:W.findIn K (.ref QF) "sent_from_start"=some (some (.ref QN)))
 (QcN:W.findIn K (.ref Qv) "sent_from_start"=some (some (.ref QN)))
 (Qds:W.findIn K (.ref QG) "sent_from_start"=some (some (.ref QN)))
 (Qdp:W.findIn K (.ref QH) "sent_from_start"=some (some (.ref QN)))
 (Qiv:W.findIn K (.ref QO) "leads"=some (some (.ref Qd1)))
 (QnJ:W.findIn K (.ref QF) "sent"=some (some (.ref QaW)))
 (QjJ:W.findIn K (.ref Qv) "sent"=some (some (.ref QaW)))
 (Qnw:W.findIn K (.ref QG) "sent"=some (some (.ref QaW)))
 (Qoo:W.findIn K (.ref QH) "sent"=some (some (.ref QaW)))
 (Qim:W.findIn K (.ref QO) "doors"=some (some (.ref QdL)))
 (QgO:W.findIn K (.ref QF) "keep_rows"=some (some (.ref Qaa)))
 (Qfc:W.findIn K (.ref Qv) "keep_rows"=some (some (.ref Qaa)))
 (QgR:W.findIn K (.ref QG) "keep_rows"=some (some (.ref Qaa)))
 (QgS:W.findIn K (.ref QH) "keep_rows"=some (some (.ref Qaa)))
 (Qm7:W.findIn K (.ref QF) "__init__"=some (some (.ref Qgj)))
 (QjY:W.findIn K (.ref Qv) "__init__"=some (some (.ref QeG)))
 (Qne:W.findIn K (.ref QG) "__init__"=some (some (.ref Qgp)))
 (Qox:W.findIn K (.ref QH) "__init__"=some (some (.ref Qgd)))
 (Qks:W.findIn K (.ref QO) "__init__"=some (some (.ref QeC)))
 (Qum:W.makesIn K QF=true)
 (Qt8:W.keepIn K (.ref QF)=true)
 (Qqk:W.makesIn K Qv=true)
 (QpS:W.keepIn K (.ref Qv)=true)
 (QuS:W.makesIn K QG=true)
 (Qut:W.keepIn K (.ref QG)=true)
 (QuJ:W.makesIn K QH=true)
 (Qus:W.keepIn K (.ref QH)=true)
 (Qqi:W.makesIn K QO=true)
 (QpW:W.keepIn K (.ref QO)=true)
 (y1:W.specialIn K (.builtin "object.__class__") "__get__"=some (some (.builtin "getset_descriptor.__get__")))
 (y2:W.takesIn K (.builtin "object.__class__")=some true)
 (Qx6:W.findIn K (.ref QF) "__class__"=some (some (.builtin "object.__class__")))
 (QyK:W.mroIn K QF (.type "object")=some true)
 (Qs8:W.findIn K (.ref Qv) "__class__"=some (some (.builtin "object.__class__")))
 (QsU:W.mroIn K Qv (.type "object")=some true)
 (Qxv:W.findIn K (.ref QG) "__class__"=some (some (.builtin "object.__class__")))
 (Qyn:W.mroIn K QG (.type "object")=some true)
 (QwP:W.findIn K (.ref QH) "__class__"=some (some (.builtin "object.__class__")))
 (Qw5:W.mroIn K QH (.type "object")=some true)
 (Qsp:W.findIn K (.ref QO) "__class__"=some (some (.builtin "object.__class__")))
 (Qs0:W.mroIn K QO (.type "object")=some true)
 (QnP:W.nsIn K mainGlobals "_law_mixed"=some (some (.ref Qom)))
 (Qn5:K.lookup Qom=some ⟨QEd,QCQ,.func (W.fnOf "_law_mixed" "_law_mixed" (Qs Qci) (Qn Qci) (Qa Qci) .none QDM QA5 QEl QBz Qr9 QDC),QBq⟩)
 (Qor:W.codeIn K Qr9 "_law_mixed"=true)
 (QiT:W.keepIn K (.ref Qom)=true)
 (Qp1:W.nsIn K mainGlobals "_law_cell"=some (some (.ref QpH)))
 (QpV:K.lookup QpH=some ⟨QGL,QF9,.func (W.fnOf "_law_cell" "_law_cell" (Qs Qcg) (Qn Qcg) (Qa Qcg) .none QFE QGv QGk QFa QtI QEM),QGq⟩)
 (Qpx:W.codeIn K QtI "_law_cell"=true)
 (QkO:W.keepIn K (.ref QpH)=true)
 (Qrq:W.nsIn K mainGlobals "sums_of"=some (some (.ref Qsu)))
 (Qrt:K.lookup Qsu=some ⟨QHO,QHH,.func (W.fnOf "sums_of" "sums_of" (Qs QbC) (Qn QbC) (Qa QbC) .none QHN QIa QIH QH3 Qwf QIN),QII⟩)
 (QrA:W.codeIn K Qwf "sums_of"=true)
 (Qmu:W.keepIn K (.ref Qsu)=true)
 (Qh1:W.nsIn K mainGlobals "running_sums"=some (some (.ref Qh4)))
 (Qik:K.lookup Qh4=some ⟨Qu4,QvJ,.func (W.fnOf "running_sums" "running_sums" (Qs Qae) (Qn Qae) (Qa Qae) .none Qv8 Qvq Qu8 Qv0 QmN Qu1),Qwy⟩)
 (Qh9:W.codeIn K QmN "running_sums"=true)
 (QfC:W.keepIn K (.ref Qh4)=true)
 (QbV:W.isFn K (.ref Qaa)=true)
 (Qf2:K.lookup Qaa=some ⟨Qrx,QsM,.func (W.fnOf "keep_rows" "Clerk.keep_rows" (Qs QX) (Qn QX) (Qa QX) .none Qsb Qrs QsW QsH Qjg Qrm),QsK⟩)
 (Qf8:W.codeIn K Qjg "Clerk.keep_rows"=true)
 (Qbh:W.keepIn K (.ref Qaa)=true)
 (Qqb:W.nsIn K mainGlobals "is_whole"=some (some (.ref Qql)))
 (Qqa:K.lookup Qql=some ⟨QEP,QEO,.func (W.fnOf "is_whole" "is_whole" (Qs QbT) (Qn QbT) (Qa QbT) .none QGx QGf QGo QGe QtO QGm),QE0⟩)
 (Qpw:W.codeIn K QtO "is_whole"=true)
 (QkS:W.keepIn K (.ref Qql)=true)
 (Qnn:W.nsIn K mainGlobals "is_within"=some (some (.ref QnH)))
 (Qoa:K.lookup QnH=some ⟨QDJ,QEj,.func (W.fnOf "is_within" "is_within" (Qs Qbl) (Qn Qbl) (Qa Qbl) .none QCv QDm QEg QEm Qsj QEo),QBc⟩)
 (Qn2:W.codeIn K Qsj "is_within"=true)
 (Qi6:W.keepIn K (.ref QnH)=true)
 (Quq:W.nsIn K mainGlobals "is_row"=some (some (.ref Quo)))
 (QuT:K.lookup Quo=some ⟨QKo,QJs,.func (W.fnOf "is_row" "is_row" (Qs QaV) (Qn QaV) (Qa QaV) .none QLB QJU QK3 QKy Qy1 QLt),QK5⟩)
 (Quf:W.codeIn K Qy1 "is_row"=true)
 (QpX:W.keepIn K (.ref Quo)=true)
 (Qp2:W.nsIn K mainGlobals "is_table"=some (some (.ref Qqr)))
 (Qpy:K.lookup Qqr=some ⟨QGr,QEF,.func (W.fnOf "is_table" "is_table" (Qs Q5) (Qn Q5) (Qa Q5) .none QGi QFz QFl QFW QtR QEU),QFb⟩)
 (Qps:W.codeIn K QtR "is_table"=true)
 (QkY:W.keepIn K (.ref Qqr)=true)
 (QnA:W.isFn K (.ref Qgd)=true)
 (QnX:K.lookup Qgd=some ⟨QBh,QDn,.func (W.fnOf "__init__" "Rows.__init__" (Qs QbN) (Qn QbN) (Qa QbN) .none QCZ QDv QCr QC8 Qr2 QBk),QA0⟩)
 (QnF:W.codeIn K Qr2 "Rows.__init__"=true)
 (Qm6:W.keepIn K (.ref Qgd)=true)
 (QlA:W.nsIn K mainGlobals "single_row"=some (some (.ref Qls)))
 (Ql3:K.lookup Qls=some ⟨QAA,QAm,.func (W.fnOf "single_row" "single_row" (Qs QaE) (Qn QaE) (Qa QaE) .none QAN QzH Qzt Qzn QqW QzP),QAa⟩)
 (QlN:W.codeIn K QqW "single_row"=true)
 (Qhe:W.keepIn K (.ref Qls)=true)
 (Qot:W.isFn K (.ref Qgj)=true)
 (QnL:K.lookup Qgj=some ⟨QBg,QCb,.func (W.fnOf "__init__" "Deal.__init__" (Qs Qal) (Qn Qal) (Qa Qal) .none QDK QDr QC9 QDw Qru QA3),QBF⟩)
 (Qnx:W.codeIn K Qru "Deal.__init__"=true)
 (QnR:W.keepIn K (.ref Qgj)=true)
 (Qkp:W.isFn K (.ref QeG)=true)
 (Qj1:K.lookup QeG=some ⟨QyB,QwS,.func (W.fnOf "__init__" "Bundle.__init__" (Qs Q7) (Qn Q7) (Qa Q7) .none Qw8 QxD QxX Qxj Qo4 Qw1),QxP⟩)
 (Qkq:W.codeIn K Qo4 "Bundle.__init__"=true)
 (Qka:W.keepIn K (.ref QeG)=true)
 (Qol:W.isFn K (.ref Qgp)=true)
 (Qn1:K.lookup Qgp=some ⟨QDI,QAY,.func (W.fnOf "__init__" "Copy.__init__" (Qs QbJ) (Qn QbJ) (Qa QbJ) .none QEc QCS QA9 QDz Qrv QBb),QB9⟩)
 (QnK:W.codeIn K Qrv "Copy.__init__"=true)
 (QoB:W.keepIn K (.ref Qgp)=true)
 (QnS:W.nsIn K mainGlobals "_law_clerk"=some (some (.ref Qok)))
 (QnE:K.lookup Qok=some ⟨QBV,QCW,.func (W.fnOf "_law_clerk" "_law_clerk" (Qs Qo) (Qn Qo) (Qa Qo) .none QCL QCk QCR QCt QrF QCP),QDh⟩)
 (Qm3:W.codeIn K QrF "_law_clerk"=true)
 (QiL:W.keepIn K (.ref Qok)=true)
 (Qn3:W.nsIn K mainGlobals "places_of"=some (some (.ref Qnz)))
 (QnW:K.lookup Qnz=some ⟨QCm,QBQ,.func (W.fnOf "places_of" "places_of" (Qs Qap) (Qn Qap) (Qa Qap) .none QCz QDe QBw QBe QsG QCF),QDW⟩)
 (Qn4:W.codeIn K QsG "places_of"=true)
 (QiN:W.keepIn K (.ref Qnz)=true)
 (QrO:W.nsIn K mainGlobals "is_list"=some (some (.ref QrZ)))
 (QsN:K.lookup QrZ=some ⟨QH6,QHz,.func (W.fnOf "is_list" "is_list" (Qs Qb1) (Qn Qb1) (Qa Qb1) .none QH5 QHn QHw QIT Qu2 QHU),QJg⟩)
 (Qsn:W.codeIn K Qu2 "is_list"=true)
 (Qmz:W.keepIn K (.ref QrZ)=true)
 (QlG:W.nsIn K mainGlobals "all_unlike"=some (some (.ref Ql6)))
 (Qlj:K.lookup Ql6=some ⟨Qzv,Qz4,.func (W.fnOf "all_unlike" "all_unlike" (Qs Qbn) (Qn Qbn) (Qa Qbn) .none QAf Qzr QAE QzF Qqy Qz2),QzB⟩)
 (Qmc:W.codeIn K Qqy "all_unlike"=true)
 (QhF:W.keepIn K (.ref Ql6)=true)
 (Qs6:W.nsIn K mainGlobals "is_name"=some (some (.ref Qrn)))
 (Qs5:K.lookup Qrn=some ⟨QJf,QH2,.func (W.fnOf "is_name" "is_name" (Qs QaM) (Qn QaM) (Qa QaM) .none QIw QHV QJe QI7 Qvp QHS),QIA⟩)
 (Qr4:W.codeIn K Qvp "is_name"=true)
 (QmO:W.keepIn K (.ref Qrn)=true)
 (Qna:W.nsIn K mainGlobals "are_names"=some (some (.ref Qou)))
 (Qn9:K.lookup Qou=some ⟨QB4,QBL,.func (W.fnOf "are_names" "are_names" (Qs Qaq) (Qn Qaq) (Qa Qaq) .none QEe QBd QC5 QC2 QrR QBl),QCI⟩)
 (QnG:W.codeIn K QrR "are_names"=true)
 (QiP:W.keepIn K (.ref Qou)=true)
 (Qnb:W.nsIn K mainGlobals "are_texts"=some (some (.ref Qm4)))
 (Qns:K.lookup Qm4=some ⟨QB6,QBv,.func (W.fnOf "are_texts" "are_texts" (Qs Qad) (Qn Qad) (Qa Qad) .none QBy QDq QBE QDl QrV QBf),QBn⟩)
 (QnI:W.codeIn K QrV "are_texts"=true)
 (Qi7:W.keepIn K (.ref Qm4)=true)
 (QpC:W.nsIn K mainGlobals "is_clerk"=some (some (.ref QpL)))
 (Qqo:K.lookup QpL=some ⟨QFc,QFo,.func (W.fnOf "is_clerk" "is_clerk" (Qs Qa8) (Qn Qa8) (Qa Qa8) .none QFZ QF2 QE3 QF0 QtV QGO),QGu⟩)
 (Qqu:W.codeIn K QtV "is_clerk"=true)
 (QkL:W.keepIn K (.ref QpL)=true)
 (QdX:W.isFn K (.ref Qa2)=true)
 (QlJ:K.lookup Qa2=some ⟨QzL,QAg,.func (W.fnOf "outs" "Clerk.outs" (Qs QbP) (Qn QbP) (Qa QbP) .none QzX QzS QzU QAM QqN QAi),QAz⟩)
 (Qlk:W.codeIn K QqN "Clerk.outs"=true)
 (QcI:W.keepIn K (.ref Qa2)=true)
 (QcF:W.isFn K (.ref Qaw)=true)
 (Qh6:K.lookup Qaw=some ⟨QwH,QvV,.func (W.fnOf "period" "Clerk.period" (Qs Qbd) (Qn Qbd) (Qa Qbd) .none Qvg Qwh QvK Qvw QmE QwC),QvR⟩)
 (Qih:W.codeIn K QmE "Clerk.period"=true)
 (Qce:W.keepIn K (.ref Qaw)=true)
 (Qsc:W.nsIn K mainGlobals "is_seat"=some (some (.ref Qs1)))
 (Qsg:K.lookup Qs1=some ⟨QIf,QIv,.func (W.fnOf "is_seat" "is_seat" (Qs Qa3) (Qn Qa3) (Qa Qa3) .none QHR QHv QIk QHj Qvv QI2),QHy⟩)
 (QsI:W.codeIn K Qvv "is_seat"=true)
 (QmA:W.keepIn K (.ref Qs1)=true)
 (Qop:W.nsIn K mainGlobals "are_seats"=some (some (.ref Qnd)))
 (Qnu:K.lookup Qnd=some ⟨QA4,QC3,.func (W.fnOf "are_seats" "are_seats" (Qs Q6) (Qn Q6) (Qa Q6) .none QB2 QCa QDL QB7 QrU QC0),QEi⟩)
 (Qn6:W.codeIn K QrU "are_seats"=true)
 (QiO:W.keepIn K (.ref Qnd)=true)
 (QpO:W.nsIn K mainGlobals "is_entry"=some (some (.ref Qqn)))
 (Qqg:K.lookup Qqn=some ⟨QGy,QFh,.func (W.fnOf "is_entry" "is_entry" (Qs Qbc) (Qn Qbc) (Qa Qbc) .none QFr QFp QEy QF1 QtM QF8),QFY⟩)
 (Qqq:W.codeIn K QtM "is_entry"=true)
 (QkZ:W.keepIn K (.ref Qqn)=true)
 (QjT:W.nsIn K mainGlobals "are_entries"=some (some (.ref Qjz)))
 (QjH:K.lookup Qjz=some ⟨QxN,QxU,.func (W.fnOf "are_entries" "are_entries" (Qs QW) (Qn QW) (Qa QW) .none QxJ Qxr QyE Qw9 QoO Qyv),QxG⟩)
 (Qkn:W.codeIn K QoO "are_entries"=true)
 (QgK:W.keepIn K (.ref Qjz)=true)
 (QpI:W.nsIn K mainGlobals "leads_to"=some (some (.ref Qqj)))
 (Qpz:K.lookup Qqj=some ⟨QGK,QEW,.func (W.fnOf "leads_to" "leads_to" (Qs QbU) (Qn QbU) (Qa QbU) .none QFn QEq QED QE4 Qt1 QFx),QEx⟩)
 (QpR:W.codeIn K Qt1 "leads_to"=true)
 (Qk0:W.keepIn K (.ref Qqj)=true)
 (QjI:W.isFn K (.ref QeC)=true)
 (QjB:K.lookup QeC=some ⟨Qxh,QyC,.func (W.fnOf "__init__" "Office.__init__" (Qs Ql) (Qn Ql) (Qa Ql) .none Qx9 Qxu Qx8 QxO QoL Qxl),QxV⟩)
 (Qkm:W.codeIn K QoL "Office.__init__"=true)
 (Qkg:W.keepIn K (.ref QeC)=true)
 (QnD:W.nsIn K mainGlobals "_law_place"=some (some (.ref Qov)))
 (Qm5:K.lookup Qov=some ⟨QA2,QBA,.func (W.fnOf "_law_place" "_law_place" (Qs QbK) (Qn QbK) (Qa QbK) .none QBR QDV QDd QBO QsF QCK),QDP⟩)
 (QnO:W.codeIn K QsF "_law_place"=true)
 (QiF:W.keepIn K (.ref Qov)=true)
 (Qnm:W.nsIn K mainGlobals "_law_drawn"=some (some (.ref Qos)))
 (Qoy:K.lookup Qos=some ⟨QCT,QC4,.func (W.fnOf "_law_drawn" "_law_drawn" (Qs Qp) (Qn Qp) (Qa Qp) .none QD5 QEk QCq QBa Qsy QBM),QDu⟩)
 (Qob:W.codeIn K Qsy "_law_drawn"=true)
 (QiK:W.keepIn K (.ref Qos)=true)
 (Qnv:W.nsIn K mainGlobals "_law_table"=some (some (.ref QnC)))
 (Qow:K.lookup QnC=some ⟨QBJ,QCn,.func (W.fnOf "_law_table" "_law_table" (Qs QL) (Qn QL) (Qa QL) .none QDF QCs QCx QCl Qrg QDs),QB3⟩)
 (Qnh:W.codeIn K Qrg "_law_table"=true)
 (Qi0:W.keepIn K (.ref QnC)=true)
 (Qpr:W.nsIn K mainGlobals "_law_flow"=some (some (.ref QpT)))
 (Qp5:K.lookup QpT=some ⟨QEQ,QFw,.func (W.fnOf "_law_flow" "_law_flow" (Qs Qau) (Qn Qau) (Qa Qau) .none QFv QEs QGa QFm Qt6 QGI),QF4⟩)
 (QpF:W.codeIn K Qt6 "_law_flow"=true)
 (QkX:W.keepIn K (.ref QpT)=true)
 (QjL:W.isFn K (.ref QeD)=true)
 (QjR:K.lookup QeD=some ⟨QxW,Qyw,.func (W.fnOf "many" "Office.many" (Qs Qbt) (Qn Qbt) (Qa Qbt) .none QwO Qxg QxZ Qxx Qpj Qxb),QxS⟩)
 (QjC:W.codeIn K Qpj "Office.many"=true)
 (Qgx:W.keepIn K (.ref QeD)=true)
 (Qod:W.nsIn K mainGlobals "is_rounds"=some (some (.ref Qng)))
 (Qnk:K.lookup Qng=some ⟨QBt,QD8,.func (W.fnOf "is_rounds" "is_rounds" (Qs QbL) (Qn QbL) (Qa QbL) .none QEf QBI QDH QBo QsP QDb),QDE⟩)
 (QnQ:W.codeIn K QsP "is_rounds"=true)
 (QiS:W.keepIn K (.ref Qng)=true)
 (Qic:W.isFn K (.ref QdU)=true)
 (Qiw:K.lookup QdU=some ⟨Qwn,Qvs,.func (W.fnOf "clerk" "Office.clerk" (Qs Qa5) (Qn Qa5) (Qa Qa5) .none QvF QvO QvL Qvo QmM Qwo),QuZ⟩)
 (QiB:W.codeIn K QmM "Office.clerk"=true)
 (QfH:W.keepIn K (.ref QdU)=true)
 (QlQ:W.nsIn K mainGlobals "periods_of"=some (some (.ref Qlg)))
 (Ql0:K.lookup Qlg=some ⟨QzN,QAp,.func (W.fnOf "periods_of" "periods_of" (Qs QaC) (Qn QaC) (Qa QaC) .none QAn QAP QAC Qzw QqT Qzq),Qzp⟩)
 (Qll:W.codeIn K QqT "periods_of"=true)
 (QhK:W.keepIn K (.ref Qlg)=true)
 (Qrl:W.nsIn K mainGlobals "is_flow"=some (some (.ref Qsr)))
 (Qs2:K.lookup Qsr=some ⟨QI3,QIg,.func (W.fnOf "is_flow" "is_flow" (Qs Qaj) (Qn Qaj) (Qa Qaj) .none QHu QH9 QHJ QI6 Qvh QHr),QH7⟩)
 (QsQ:W.codeIn K Qvh "is_flow"=true)
 (QmL:W.keepIn K (.ref Qsr)=true)
 (QBT:W.nsIn K mainGlobals "able"=some (some (.ref QBp)))
 (QDT:K.lookup QBp=some ⟨QM6,QNH,.func (W.fnOf "able" "able" (Qs QeH) (Qn QeH) (Qa QeH) .none QNy QMF QNf QNn QG5 QMO),QNv⟩)
 (QBs:W.codeIn K QG5 "able"=true)
 (Qwu:W.keepIn K (.ref QBp)=true)
 (QIP:W.nsIn K mainGlobals "lay"=some (some (.ref QHk)))
 (QJh:K.lookup QHk=some ⟨QPe,QOp,.func (W.fnOf "lay" "lay" (Qs Qe5) (Qn Qe5) (Qa Qe5) .none QOW QOk QOo QPv QKI QOu),QO0⟩)
 (QI1:W.codeIn K QKI "lay"=true)
 (QAU:W.keepIn K (.ref QHk)=true)
 (QiD:W.isFn K (.ref Qd1)=true)
 (Qij:K.lookup Qd1=some ⟨QuY,Qu3,.func (W.fnOf "leads" "Office.leads" (Qs QaF) (Qn QaF) (Qa QaF) .none Qws Qv9 Qwa Qvb Qmv QvX),Qwt⟩)
 (Qig:W.codeIn K Qmv "Office.leads"=true)
 (QfN:W.keepIn K (.ref Qd1)=true)
 (Qc6:W.isFn K (.ref QaA)=true)
 (Qke:K.lookup QaA=some ⟨Qxi,QwV,.func (W.fnOf "whole" "Clerk.whole" (Qs Qbr) (Qn Qbr) (Qa Qbr) .none QxF Qyx Qx4 QwY QoP Qya),QxI⟩)
 (Qjx:W.codeIn K QoP "Clerk.whole"=true)
 (Qcq:W.keepIn K (.ref QaA)=true)
 (Qaz:W.isFn K (.ref QN)=true)
 (Qc2:K.lookup QN=some ⟨QlD,Qly,.func (W.fnOf "sent_from_start" "Clerk.sent_from_start" (Qs Qw) (Qn Qw) (Qa Qw) .none Qlh QlT Ql1 QlU Qfa Qlr),QlL⟩)
 (Qc4:W.codeIn K Qfa "Clerk.sent_from_start"=true)
 (Qam:W.keepIn K (.ref QN)=true)
 (Qd3:W.isFn K (.ref QaW)=true)
 (Qlw:K.lookup QaW=some ⟨Qz6,QAq,.func (W.fnOf "sent" "Clerk.sent" (Qs Q8) (Qn Q8) (Qa Q8) .none Qzz QzV QAw QAj QqE QzC),QAv⟩)
 (QlO:W.codeIn K QqE "Clerk.sent"=true)
 (QcV:W.keepIn K (.ref QaW)=true)
 (QlV:W.nsIn K mainGlobals "handle_all"=some (some (.ref Qlx)))
 (QlE:K.lookup Qlx=some ⟨Qzo,QAR,.func (W.fnOf "handle_all" "handle_all" (Qs Q1) (Qn Q1) (Qa Q1) .none QzT Qzu QzK QAo QqR QAQ),QAJ⟩)
 (QlS:W.codeIn K QqR "handle_all"=true)
 (Qhk:W.keepIn K (.ref Qlx)=true)
 (Qil:W.isFn K (.ref QdL)=true)
 (QiA:K.lookup QdL=some ⟨QvG,Qvl,.func (W.fnOf "doors" "Office.doors" (Qs Qbb) (Qn Qbb) (Qa Qbb) .none Qu9 Qvj QwE Qva QmJ QwB),Qvi⟩)
 (Qiy:W.codeIn K QmJ "Office.doors"=true)
 (Qfu:W.keepIn K (.ref QdL)=true)
 (Qkr:W.nsIn K mainGlobals "nothing_out"=some (some (.ref Qkz)))
 (Qkw:K.lookup Qkz=some ⟨Qxs,Qx2,.func (W.fnOf "nothing_out" "nothing_out" (Qs Qa4) (Qn Qa4) (Qa Qa4) .none Qyc Qw6 Qw3 QxE QoM Qyf),Qx3⟩)
 (QjP:W.codeIn K QoM "nothing_out"=true)
 (QgD:W.keepIn K (.ref Qkz)=true)
 (QrI:W.nsIn K mainGlobals "sent_by"=some (some (.ref QrW)))
 (Qrk:K.lookup QrW=some ⟨QIX,QHx,.func (W.fnOf "sent_by" "sent_by" (Qs Qbz) (Qn Qbz) (Qa Qbz) .none QI4 QHL QHQ QIK Qv4 QHW),QHT⟩)
 (Qso:W.codeIn K Qv4 "sent_by"=true)
 (QmG:W.keepIn K (.ref QrW)=true)
 (Qoj:W.nsIn K mainGlobals "is_unrest"=some (some (.ref Qn7)))
 (Qnp:K.lookup Qn7=some ⟨QDD,QCh,.func (W.fnOf "is_unrest" "is_unrest" (Qs Qak) (Qn Qak) (Qa Qak) .none QCO QEb QDO QDj Qs4 QBY),QCy⟩)
 (QnZ:W.codeIn K Qs4 "is_unrest"=true)
 (QiZ:W.keepIn K (.ref Qn7)=true)
 (QrS:W.nsIn K mainGlobals "_law_due"=some (some (.ref Qro)))
 (Qrr:K.lookup Qro=some ⟨QI0,QHA,.func (W.fnOf "_law_due" "_law_due" (Qs Qat) (Qn Qat) (Qa Qat) .none QID QHI QIn QH8 Qvf QIG),QIz⟩)
 (Qr6:W.codeIn K Qvf "_law_due"=true)
 (QmS:W.keepIn K (.ref Qro)=true)
 (QIQ:W.nsIn K mainGlobals "law"=some (some (.ref QIS)))
 (QIo:K.lookup QIS=some ⟨QO6,QPd,.func (W.fnOf "law" "law" (Qs Qax) (Qn Qax) (Qa Qax) .none QJ5 QLr QKx QJB QCp QLn),QOl⟩)
 (QIC:W.codeIn K QCp "law"=true)
 (QIh:W.keepIn K (.ref QIS)=true)
 (z_len:W.nsIn K mainGlobals "len"=some none)
 (z_zip:W.nsIn K mainGlobals "zip"=some none)
 (z_list:W.nsIn K mainGlobals "list"=some none)
 (z_isinstance:W.nsIn K mainGlobals "isinstance"=some none)
 (z_int:W.nsIn K mainGlobals "int"=some none)
 (z_bool:W.nsIn K mainGlobals "bool"=some none)
 (z_all:W.nsIn K mainGlobals "all"=some none)
 (z_range:W.nsIn K mainGlobals "range"=some none)
 (z_enumerate:W.nsIn K mainGlobals "enumerate"=some none)
 (z_set:W.nsIn K mainGlobals "set"=some none)
 (z_str:W.nsIn K mainGlobals "str"=some none)
 (z_tuple:W.nsIn K mainGlobals "tuple"=some none)
 (z_any:W.nsIn K mainGlobals "any"=some none)
 (z_max:W.nsIn K mainGlobals "max"=some none)
 (z_min:W.nsIn K mainGlobals "min"=some none)
 (c_MOST_OUTS:W.nsIn K mainGlobals "MOST_OUTS"=some (some (.int 6 tk_MOST_OUTS)))
 (c_MOST_SENT:W.nsIn K mainGlobals "MOST_SENT"=some (some (.int 9 tk_MOST_SENT)))
 (c_MOST_ROWS:W.nsIn K mainGlobals "MOST_ROWS"=some (some (.int 12 tk_MOST_ROWS)))
 (c_MOST_SIGNS:W.nsIn K mainGlobals "MOST_SIGNS"=some (some (.int 6 tk_MOST_SIGNS)))
 (c_LETTERS:W.nsIn K mainGlobals "LETTERS"=some (some (.str "abcdefghijklmnopqrstuvwxyz" tk_LETTERS)))
 (c_MOST_CLERKS:W.nsIn K mainGlobals "MOST_CLERKS"=some (some (.int 60 tk_MOST_CLERKS)))
 (c_MOST_ENTRIES:W.nsIn K mainGlobals "MOST_ENTRIES"=some (some (.int 6 tk_MOST_ENTRIES)))
 (c_MOST_DOORS:W.nsIn K mainGlobals "MOST_DOORS"=some (some (.int 6 tk_MOST_DOORS)))
 (Qkc:W.kitOne K (.ref QO) (.ref QF)=some false)
 (QnT:W.kitOne K (.ref QH) (.ref QF)=some false)
 (Qno:W.kitOne K (.ref QG) (.ref QF)=some false)
 (Qky:W.kitOne K (.ref Qv) (.ref QF)=some false)
 (Qn0:W.kitOne K (.ref QF) (.ref QF)=some true)
 (Qhq:W.kitOne K (.ref QO) (.ref Qv)=some false)
 (Qjw:W.kitOne K (.ref QH) (.ref Qv)=some false)
 (Qj9:W.kitOne K (.ref QG) (.ref Qv)=some false)
 (QhI:W.kitOne K (.ref Qv) (.ref Qv)=some true)
 (QjD:W.kitOne K (.ref QF) (.ref Qv)=some false)
 (QjK:W.kitOne K (.ref QO) (.ref QG)=some false)
 (Qnc:W.kitOne K (.ref QH) (.ref QG)=some false)
 (Qnj:W.kitOne K (.ref QG) (.ref QG)=some true)
 (QjO:W.kitOne K (.ref Qv) (.ref QG)=some false)
 (Qoi:W.kitOne K (.ref QF) (.ref QG)=some false)
 (Qj0:W.kitOne K (.ref QO) (.ref QH)=some false)
 (Qnf:W.kitOne K (.ref QH) (.ref QH)=some true)
 (Qoe:W.kitOne K (.ref QG) (.ref QH)=some false)
 (Qj4:W.kitOne K (.ref Qv) (.ref QH)=some false)
 (QnV:W.kitOne K (.ref QF) (.ref QH)=some false):
 ∃ fd:FuncData,(∀(s:Shared)(v:Value),BindsTo s fd ⟨[v],[]⟩ [("_law_script",v)])/\∀ base:Heap,K.In base->base.Ns mainGlobals mg->FnOk l.prog w K mg base CX0 9 fa fd ["_law_script"] (SpD K (ctOf K) false Qmx):=by
 have ee:=hfa.symm.trans (W.mg_of X G QIQ)
 cases ee
 have QGV:=W.mg_of X G QvC
 have Qa7:=ct_of QvC
 have Qcd:Cls K QF:=⟨Qw4,Qyh,Qxe,Qys⟩
 have Qzh:=W.mg_of X G Qp8
 have Qao:=ct_of Qp8
 have QaY:Cls K Qv:=⟨Qsi,Qse,Qsm,Qss⟩
 have QHc:=W.mg_of X G QvB
 have Qa6:=ct_of QvB
 have Qb9:Cls K QG:=⟨Qyq,Qx0,Qyi,QwT⟩
 have QHe:=W.mg_of X G Qwk
 have Qa9:=ct_of Qwk
 have Qb8:Cls K QH:=⟨Qxy,Qyz,QyA,Qyr⟩
 have QKb:=W.mg_of X G QpP
 have Qay:=ct_of QpP
 have QbB:Cls K QO:=⟨QrQ,QsR,QsA,Qr3⟩
 have fo_table:FldOk K (ctOf K) Qj "table":=by
  intro c hc A hA
  have hm:c∈Qj:=by simpa using hc
  simp only[Qj,List.mem_cons,List.not_mem_nil,or_false]at hm
  rcases hm with rfl | rfl | rfl | rfl | rfl
  ·rw[Qa7]at hA;cases hA;exact⟨Qcd,QjA⟩
  ·rw[Qao]at hA;cases hA;exact⟨QaY,QhC⟩
  ·rw[Qa6]at hA;cases hA;exact⟨Qb9,Qj8⟩
  ·rw[Qa9]at hA;cases hA;exact⟨Qb8,Qki⟩
  ·rw[Qay]at hA;cases hA;exact⟨QbB,Qhx⟩
 have fo_heads:FldOk K (ctOf K) Qj "heads":=by
  intro c hc A hA
  have hm:c∈Qj:=by simpa using hc
  simp only[Qj,List.mem_cons,List.not_mem_nil,or_false]at hm
  rcases hm with rfl | rfl | rfl | rfl | rfl
  ·rw[Qa7]at hA;cases hA;exact⟨Qcd,Qkv⟩
  ·rw[Qao]at hA;cases hA;exact⟨QaY,Qg7⟩
  ·rw[Qa6]at hA;cases hA;exact⟨Qb9,QjU⟩
  ·rw[Qa9]at hA;cases hA;exact⟨Qb8,QjF⟩
  ·rw[Qay]at hA;cases hA;exact⟨QbB,Qhj⟩
 have fo_clerk_names:FldOk K (ctOf K) Qj "clerk_names":=by
  intro c hc A hA
  have hm:c∈Qj:=by simpa using hc
  simp only[Qj,List.mem_cons,List.not_mem_nil,or_false]at hm
  rcases hm with rfl | rfl | rfl | rfl | rfl
  ·rw[Qa7]at hA;cases hA;exact⟨Qcd,QeV⟩
  ·rw[Qao]at hA;cases hA;exact⟨QaY,QdP⟩
  ·rw[Qa6]at hA;cases hA;exact⟨Qb9,QeX⟩
  ·rw[Qa9]at hA;cases hA;exact⟨Qb8,QeT⟩
  ·rw[Qay]at hA;cases hA;exact⟨QbB,Qd0⟩
 have fo_door_names:FldOk K (ctOf K) Qj "door_names":=by
  intro c hc A hA
  have hm:c∈Qj:=by simpa using hc
  simp only[Qj,List.mem_cons,List.not_mem_nil,or_false]at hm
  rcases hm with rfl | rfl | rfl | rfl | rfl
  ·rw[Qa7]at hA;cases hA;exact⟨Qcd,Qfe⟩
  ·rw[Qao]at hA;cases hA;exact⟨QaY,Qek⟩
  ·rw[Qa6]at hA;cases hA;exact⟨Qb9,Qfi⟩
  ·rw[Qa9]at hA;cases hA;exact⟨Qb8,Qfd⟩
  ·rw[Qay]at hA;cases hA;exact⟨QbB,Qes⟩
 have fo_entry_places:FldOk K (ctOf K) Qj "entry_places":=by
  intro c hc A hA
  have hm:c∈Qj:=by simpa using hc
  simp only[Qj,List.mem_cons,List.not_mem_nil,or_false]at hm
  rcases hm with rfl | rfl | rfl | rfl | rfl
  ·rw[Qa7]at hA;cases hA;exact⟨Qcd,Qeo⟩
  ·rw[Qao]at hA;cases hA;exact⟨QaY,Qdl⟩
  ·rw[Qa6]at hA;cases hA;exact⟨Qb9,Qef⟩
  ·rw[Qa9]at hA;cases hA;exact⟨Qb8,Qeh⟩
  ·rw[Qay]at hA;cases hA;exact⟨QbB,Qdm⟩
 have fo_staff:FldOk K (ctOf K) Qj "staff":=by
  intro c hc A hA
  have hm:c∈Qj:=by simpa using hc
  simp only[Qj,List.mem_cons,List.not_mem_nil,or_false]at hm
  rcases hm with rfl | rfl | rfl | rfl | rfl
  ·rw[Qa7]at hA;cases hA;exact⟨Qcd,QjS⟩
  ·rw[Qao]at hA;cases hA;exact⟨QaY,QhH⟩
  ·rw[Qa6]at hA;cases hA;exact⟨Qb9,QkA⟩
  ·rw[Qa9]at hA;cases hA;exact⟨Qb8,QjZ⟩
  ·rw[Qay]at hA;cases hA;exact⟨QbB,Qg9⟩
 have fo_first_states:FldOk K (ctOf K) Qj "first_states":=by
  intro c hc A hA
  have hm:c∈Qj:=by simpa using hc
  simp only[Qj,List.mem_cons,List.not_mem_nil,or_false]at hm
  rcases hm with rfl | rfl | rfl | rfl | rfl
  ·rw[Qa7]at hA;cases hA;exact⟨Qcd,Qeu⟩
  ·rw[Qao]at hA;cases hA;exact⟨QaY,Qdw⟩
  ·rw[Qa6]at hA;cases hA;exact⟨Qb9,Qez⟩
  ·rw[Qa9]at hA;cases hA;exact⟨Qb8,Qex⟩
  ·rw[Qay]at hA;cases hA;exact⟨QbB,QdE⟩
 have fo_ways:FldOk K (ctOf K) Qj "ways":=by
  intro c hc A hA
  have hm:c∈Qj:=by simpa using hc
  simp only[Qj,List.mem_cons,List.not_mem_nil,or_false]at hm
  rcases hm with rfl | rfl | rfl | rfl | rfl
  ·rw[Qa7]at hA;cases hA;exact⟨Qcd,Qmb⟩
  ·rw[Qao]at hA;cases hA;exact⟨QaY,Qh7⟩
  ·rw[Qa6]at hA;cases hA;exact⟨Qb9,Qlq⟩
  ·rw[Qa9]at hA;cases hA;exact⟨Qb8,Qma⟩
  ·rw[Qay]at hA;cases hA;exact⟨QbB,Qh8⟩
 have Qtk:ClsD K QF:=⟨Qcd,Qx6,y1,y2,QyK⟩
 have QmP:ClsD K Qv:=⟨QaY,Qs8,y1,y2,QsU⟩
 have Qtg:ClsD K QG:=⟨Qb9,Qxv,y1,y2,Qyn⟩
 have Qtj:ClsD K QH:=⟨Qb8,QwP,y1,y2,Qw5⟩
 have QmT:ClsD K QO:=⟨QbB,Qsp,y1,y2,Qs0⟩
 have QtK:=Qz (st:=Qci) Qn5 Qor QiT
 have QGt:=QtK.binds (ps:=["_law_cell_here","_law_k"]) fun _ _ _ _ _ _ us hl=>match us,hl with | [_,_],_=>rfl
 have QwG:=Qz (st:=Qcg) QpV Qpx QkO
 have QIc:=QwG.binds (ps:=["_law_script","_law_k"]) fun _ _ _ _ _ _ us hl=>match us,hl with | [_,_],_=>rfl
 have Qzk:=Qz (st:=QbC) Qrt QrA Qmu
 have QLg:=Qzk.binds (ps:=["one","other"]) fun _ _ _ _ _ _ us hl=>match us,hl with | [_,_],_=>rfl
 have QoR:=Qz (st:=Qae) Qik Qh9 QfC
 have QyJ:=QoR.binds (ps:=["rows"]) fun _ _ _ _ _ _ us hl=>match us,hl with | [_],_=>rfl
 have QkC:=Qz (st:=QX) Qf2 Qf8 Qbh
 have QdH:=QkC.binds (ps:=["self","rows"]) fun _ _ _ _ _ _ us hl=>match us,hl with | [_,_],_=>rfl
 have Qvk:=Qz (st:=QbT) Qqa Qpw QkS
 have QIm:=Qvk.binds (ps:=["thing"]) fun _ _ _ _ _ _ us hl=>match us,hl with | [_],_=>rfl
 have QtQ:=Qz (st:=Qbl) Qoa Qn2 Qi6
 have QFg:=QtQ.binds (ps:=["thing","least","most"]) fun _ _ _ _ _ _ us hl=>match us,hl with | [_,_,_],_=>rfl
 have QDY:=Qz (st:=QaV) QuT Quf QpX
 have QLL:=QDY.binds (ps:=["thing"]) fun _ _ _ _ _ _ us hl=>match us,hl with | [_],_=>rfl
 have QvE:=Qz (st:=Q5) Qpy Qps QkY
 have QIq:=QvE.binds (ps:=["thing"]) fun _ _ _ _ _ _ us hl=>match us,hl with | [_],_=>rfl
 have QtJ:=Qz (st:=QbN) QnX QnF Qm6
 have QFu:=QtJ.binds (ps:=["self","rows"]) fun _ _ _ _ _ _ us hl=>match us,hl with | [_,_],_=>rfl
 have QrT:=Qz (st:=QaE) Ql3 QlN Qhe
 have QBr:=QrT.binds (ps:=["many","place"]) fun _ _ _ _ _ _ us hl=>match us,hl with | [_,_],_=>rfl
 have QtN:=Qz (st:=Qal) QnL Qnx QnR
 have QFT:=QtN.binds (ps:=["self","many"]) fun _ _ _ _ _ _ us hl=>match us,hl with | [_,_],_=>rfl
 have QqI:=Qz (st:=Q7) Qj1 Qkq Qka
 have QAD:=QqI.binds (ps:=["self","size"]) fun _ _ _ _ _ _ us hl=>match us,hl with | [_,_],_=>rfl
 have QtG:=Qz (st:=QbJ) Qn1 QnK QoB
 have QFj:=QtG.binds (ps:=["self","counts"]) fun _ _ _ _ _ _ us hl=>match us,hl with | [_,_],_=>rfl
 have QtH:=Qz (st:=Qo) QnE Qm3 QiL
 have QE1:=QtH.binds (ps:=["_law_number","_law_top"]) fun _ _ _ _ _ _ us hl=>match us,hl with | [_,_],_=>rfl
 have Qt0:=Qz (st:=Qap) QnW Qn4 QiN
 have QEC:=Qt0.binds (ps:=["names","doors"]) fun _ _ _ _ _ _ us hl=>match us,hl with | [_,_],_=>rfl
 have Qy2:=Qz (st:=Qb1) QsN Qsn Qmz
 have QJZ:=Qy2.binds (ps:=["thing","most"]) fun _ _ _ _ _ _ us hl=>match us,hl with | [_,_],_=>rfl
 have QsC:=Qz (st:=Qbn) Qlj Qmc QhF
 have QDt:=QsC.binds (ps:=["names"]) fun _ _ _ _ _ _ us hl=>match us,hl with | [_],_=>rfl
 have QyZ:=Qz (st:=QaM) Qs5 Qr4 QmO
 have QJI:=QyZ.binds (ps:=["thing"]) fun _ _ _ _ _ _ us hl=>match us,hl with | [_],_=>rfl
 have Qt5:=Qz (st:=Qaq) Qn9 QnG QiP
 have QFA:=Qt5.binds (ps:=["thing","most"]) fun _ _ _ _ _ _ us hl=>match us,hl with | [_,_],_=>rfl
 have QtY:=Qz (st:=Qad) Qns QnI Qi7
 have QGz:=QtY.binds (ps:=["thing","many"]) fun _ _ _ _ _ _ us hl=>match us,hl with | [_,_],_=>rfl
 have Qwc:=Qz (st:=Qa8) Qqo Qqu QkL
 have QIj:=Qwc.binds (ps:=["thing"]) fun _ _ _ _ _ _ us hl=>match us,hl with | [_],_=>rfl
 have QsY:=Qz (st:=QbP) QlJ Qlk QcI
 have Qhf:=QsY.binds (ps:=["self"]) fun _ _ _ _ _ _ us hl=>match us,hl with | [_],_=>rfl
 have QoI:=Qz (st:=Qbd) Qh6 Qih Qce
 have QfG:=QoI.binds (ps:=["self"]) fun _ _ _ _ _ _ us hl=>match us,hl with | [_],_=>rfl
 have QyU:=Qz (st:=Qa3) Qsg QsI QmA
 have QKd:=QyU.binds (ps:=["thing"]) fun _ _ _ _ _ _ us hl=>match us,hl with | [_],_=>rfl
 have Qt4:=Qz (st:=Q6) Qnu Qn6 QiO
 have QEY:=Qt4.binds (ps:=["thing","doors"]) fun _ _ _ _ _ _ us hl=>match us,hl with | [_,_],_=>rfl
 have QvI:=Qz (st:=Qbc) Qqg Qqq QkZ
 have QHs:=QvI.binds (ps:=["thing","names"]) fun _ _ _ _ _ _ us hl=>match us,hl with | [_,_],_=>rfl
 have QqF:=Qz (st:=QW) QjH Qkn QgK
 have Qzy:=QqF.binds (ps:=["thing","names"]) fun _ _ _ _ _ _ us hl=>match us,hl with | [_,_],_=>rfl
 have Qwv:=Qz (st:=QbU) Qpz QpR Qk0
 have QJa:=Qwv.binds (ps:=["seat","places"]) fun _ _ _ _ _ _ us hl=>match us,hl with | [_,_],_=>rfl
 have QqB:=Qz (st:=Ql) QjB Qkm Qkg
 have QzA:=QqB.binds (ps:=["self","clerks","entries","doors"]) fun _ _ _ _ _ _ us hl=>match us,hl with | [_,_,_,_],_=>rfl
 have QtD:=Qz (st:=QbK) Qm5 QnO QiF
 have QFM:=QtD.binds (ps:=["_law_lead","_law_doors"]) fun _ _ _ _ _ _ us hl=>match us,hl with | [_,_],_=>rfl
 have QtL:=Qz (st:=Qp) Qoy Qob QiK
 have QEH:=QtL.binds (ps:=["_law_script","_law_start","_law_most"]) fun _ _ _ _ _ _ us hl=>match us,hl with | [_,_,_],_=>rfl
 have QtW:=Qz (st:=QL) Qow Qnh Qi0
 have QGN:=QtW.binds (ps:=["_law_drawn_here"]) fun _ _ _ _ _ _ us hl=>match us,hl with | [_],_=>rfl
 have QvW:=Qz (st:=Qau) Qp5 QpF QkX
 have QIr:=QvW.binds (ps:=["_law_rows","_law_number"]) fun _ _ _ _ _ _ us hl=>match us,hl with | [_,_],_=>rfl
 have QqC:=Qz (st:=Qbt) QjR QjC Qgx
 have QzR:=QqC.binds (ps:=["self"]) fun _ _ _ _ _ _ us hl=>match us,hl with | [_],_=>rfl
 have Qt2:=Qz (st:=QbL) Qnk QnQ QiS
 have QGd:=Qt2.binds (ps:=["count","period"]) fun _ _ _ _ _ _ us hl=>match us,hl with | [_,_],_=>rfl
 have Qo7:=Qz (st:=Qa5) Qiw QiB QfH
 have QxB:=Qo7.binds (ps:=["self","k"]) fun _ _ _ _ _ _ us hl=>match us,hl with | [_,_],_=>rfl
 have QrN:=Qz (st:=QaC) Ql0 Qll QhK
 have QCM:=QrN.binds (ps:=["office"]) fun _ _ _ _ _ _ us hl=>match us,hl with | [_],_=>rfl
 have QyT:=Qz (st:=Qaj) Qs2 QsQ QmL
 have QLs:=QyT.binds (ps:=["office","thing"]) fun _ _ _ _ _ _ us hl=>match us,hl with | [_,_],_=>rfl
 have QLy:=Qz (st:=QeH) QDT QBs Qwu
 have QOa:=QLy.binds (ps:=["desks"]) fun _ _ _ _ _ _ us hl=>match us,hl with | [_],_=>rfl
 have QMB:=Qz (st:=Qe5) QJh QI1 QAU
 have QPK:=QMB.binds (ps:=["desks","out","leads","dockets"]) fun _ _ _ _ _ _ us hl=>match us,hl with | [_,_,_,_],_=>rfl
 have QoS:=Qz (st:=QaF) Qij Qig QfN
 have QyH:=QoS.binds (ps:=["self","k"]) fun _ _ _ _ _ _ us hl=>match us,hl with | [_,_],_=>rfl
 have QqV:=Qz (st:=Qbr) Qke Qjx Qcq
 have QgL:=QqV.binds (ps:=["self"]) fun _ _ _ _ _ _ us hl=>match us,hl with | [_],_=>rfl
 have QfR:=Qz (st:=Qw) Qc2 Qc4 Qam
 have Qb6:=QfR.binds (ps:=["self","count"]) fun _ _ _ _ _ _ us hl=>match us,hl with | [_,_],_=>rfl
 have Qsa:=Qz (st:=Q8) Qlw QlO QcV
 have Qhs:=Qsa.binds (ps:=["self","state","count"]) fun _ _ _ _ _ _ us hl=>match us,hl with | [_,_,_],_=>rfl
 have QsX:=Qz (st:=Q1) QlE QlS Qhk
 have QDp:=QsX.binds (ps:=["office","states","desks","out"]) fun _ _ _ _ _ _ us hl=>match us,hl with | [_,_,_,_],_=>rfl
 have QoQ:=Qz (st:=Qbb) QiA Qiy Qfu
 have Qx1:=QoQ.binds (ps:=["self"]) fun _ _ _ _ _ _ us hl=>match us,hl with | [_],_=>rfl
 have QqA:=Qz (st:=Qa4) Qkw QjP QgD
 have Qz5:=QqA.binds (ps:=["office"]) fun _ _ _ _ _ _ us hl=>match us,hl with | [_],_=>rfl
 have Qy5:=Qz (st:=Qbz) Qrk Qso QmG
 have QKA:=Qy5.binds (ps:=["office","flow"]) fun _ _ _ _ _ _ us hl=>match us,hl with | [_,_],_=>rfl
 have QtF:=Qz (st:=Qak) Qnp QnZ QiZ
 have QFR:=QtF.binds (ps:=["office","flow"]) fun _ _ _ _ _ _ us hl=>match us,hl with | [_,_],_=>rfl
 have Qy9:=Qz (st:=Qat) Qrr Qr6 QmS
 have QKR:=Qy9.binds (ps:=["_law_rows","_law_table_here","_law_doors","_law_flow_here"]) fun _ _ _ _ _ _ us hl=>match us,hl with | [_,_,_,_],_=>rfl
 have QMC:=Qz (st:=Qax) QIo QIC QIh
 have QPT:=QMC.binds (ps:=["_law_script"]) fun _ _ _ _ _ _ us hl=>match us,hl with | [_],_=>rfl
 have zz_len:mg "len"=none:=W.mg_none_of X G z_len
 have zz_zip:mg "zip"=none:=W.mg_none_of X G z_zip
 have zz_list:mg "list"=none:=W.mg_none_of X G z_list
 have zz_isinstance:mg "isinstance"=none:=W.mg_none_of X G z_isinstance
 have zz_int:mg "int"=none:=W.mg_none_of X G z_int
 have zz_bool:mg "bool"=none:=W.mg_none_of X G z_bool
 have zz_all:mg "all"=none:=W.mg_none_of X G z_all
 have zz_range:mg "range"=none:=W.mg_none_of X G z_range
 have zz_enumerate:mg "enumerate"=none:=W.mg_none_of X G z_enumerate
 have zz_set:mg "set"=none:=W.mg_none_of X G z_set
 have zz_str:mg "str"=none:=W.mg_none_of X G z_str
 have zz_tuple:mg "tuple"=none:=W.mg_none_of X G z_tuple
 have zz_any:mg "any"=none:=W.mg_none_of X G z_any
 have zz_max:mg "max"=none:=W.mg_none_of X G z_max
 have zz_min:mg "min"=none:=W.mg_none_of X G z_min
 have cc_MOST_OUTS:=W.mg_of X G c_MOST_OUTS
 have cc_MOST_SENT:=W.mg_of X G c_MOST_SENT
 have cc_MOST_ROWS:=W.mg_of X G c_MOST_ROWS
 have cc_MOST_SIGNS:=W.mg_of X G c_MOST_SIGNS
 have cc_LETTERS:=W.mg_of X G c_LETTERS
 have cc_MOST_CLERKS:=W.mg_of X G c_MOST_CLERKS
 have cc_MOST_ENTRIES:=W.mg_of X G c_MOST_ENTRIES
 have cc_MOST_DOORS:=W.mg_of X G c_MOST_DOORS
 have Qyj:KitI K (ctOf K) (.ref QF) [("Deal",true),("Bundle",false),("Copy",false),("Rows",false),("Office",false)]:=(Qah Qa7 Qtk Qn0 (Qah Qao QmP Qky (Qah Qa6 Qtg Qno (Qah Qa9 Qtj QnT (Qah Qay QmT Qkc Qqe)))))
 have QrJ:KitI K (ctOf K) (.ref Qv) [("Deal",false),("Bundle",true),("Copy",false),("Rows",false),("Office",false)]:=(Qah Qa7 Qtk QjD (Qah Qao QmP QhI (Qah Qa6 Qtg Qj9 (Qah Qa9 Qtj Qjw (Qah Qay QmT Qhq Qqe)))))
 have QxC:KitI K (ctOf K) (.ref QG) [("Deal",false),("Bundle",false),("Copy",true),("Rows",false),("Office",false)]:=(Qah Qa7 Qtk Qoi (Qah Qao QmP QjO (Qah Qa6 Qtg Qnj (Qah Qa9 Qtj Qnc (Qah Qay QmT QjK Qqe)))))
 have QyF:KitI K (ctOf K) (.ref QH) [("Deal",false),("Bundle",false),("Copy",false),("Rows",true),("Office",false)]:=(Qah Qa7 Qtk QnV (Qah Qao QmP Qj4 (Qah Qa6 Qtg Qoe (Qah Qa9 Qtj Qnf (Qah Qay QmT Qj0 Qqe)))))
 refine⟨W.fnOf "law" "law" (Qs Qax) (Qn Qax) (Qa Qax) .none QJ5 QLr QKx QJB QCp QLn,fun s v=>.of_eq rfl,fun base _ _=>?_⟩
 have QES:FnOk l.prog w K mg base CX0 1 _ _ ["_law_cell_here","_law_k"] (SpD K (ctOf K) false QaH):=QGP QtK
 have QtC:DefOk l.prog w K mg base (ctOf K) "_law_mixed" 1 false [] QaH:=⟨_,_,_,_,QES,W.mg_of X G QnP,QiT,QGt,.nil⟩
 have QIt:FnOk l.prog w K mg base CX0 1 _ _ ["_law_script","_law_k"] (SpD K (ctOf K) false QbS):=QI9 QwG zz_len
 have Qvu:DefOk l.prog w K mg base (ctOf K) "_law_cell" 1 false [] QbS:=⟨_,_,_,_,QIt,W.mg_of X G Qp1,QkO,QIc,.nil⟩
 have QKL:FnOk l.prog w K mg base CX0 1 _ _ ["one","other"] (SpD K (ctOf K) true Qed):=QJ2 Qzk zz_zip
 have QLq:DefOk l.prog w K mg base (ctOf K) "sums_of" 1 true [] Qed:=⟨_,_,_,_,QKL,W.mg_of X G Qrq,Qmu,QLg,.nil⟩
 have QwX:FnOk l.prog w K mg base CX0 2 _ _ ["rows"] (SpD K (ctOf K) true Qbe):=Qye QoR QLq
 have QyI:DefOk l.prog w K mg base (ctOf K) "running_sums" 2 true [] Qbe:=⟨_,_,_,_,QwX,W.mg_of X G Qh1,QfC,QyJ,.nil⟩
 have QdI:FnOk l.prog w K mg base (CXR l.prog w) 3 _ _ ["self","rows"] (SpI K (ctOf K) QU):=Qtx QkC QyI zz_list fo_table fo_heads
 have ms_keep_rows:MtOk l.prog w K mg base (ctOf K) (CXR l.prog w) "keep_rows" 3 Qc (fun _=>SpI K (ctOf K) QU):=by
  intro c hc
  have hm:c∈Qc:=by simpa using hc
  simp only[Qc,List.mem_cons,List.not_mem_nil,or_false]at hm
  rcases hm with rfl | rfl | rfl | rfl
  ·exact⟨QF,Qaa,_,_,Qa7,Qcd,⟨QgO,QbV,Qbh⟩,QdI.mono (by decide),QdH⟩
  ·exact⟨Qv,Qaa,_,_,Qao,QaY,⟨Qfc,QbV,Qbh⟩,QdI.mono (by decide),QdH⟩
  ·exact⟨QG,Qaa,_,_,Qa6,Qb9,⟨QgR,QbV,Qbh⟩,QdI.mono (by decide),QdH⟩
  ·exact⟨QH,Qaa,_,_,Qa9,Qb8,⟨QgS,QbV,Qbh⟩,QdI.mono (by decide),QdH⟩
 have QHY:FnOk l.prog w K mg base CX0 1 _ _ ["thing"] (SpD K (ctOf K) false Qcv):=QHB Qvk zz_isinstance zz_int zz_bool
 have QwA:DefOk l.prog w K mg base (ctOf K) "is_whole" 1 false [] Qcv:=⟨_,_,_,_,QHY,W.mg_of X G Qqb,QkS,QIm,.nil⟩
 have QGn:FnOk l.prog w K mg base CX0 2 _ _ ["thing","least","most"] (SpD K (ctOf K) false QaG):=QFL QtQ QwA
 have QiX:DefOk l.prog w K mg base (ctOf K) "is_within" 2 false [] QaG:=⟨_,_,_,_,QGn,W.mg_of X G Qnn,Qi6,QFg,.nil⟩
 have QLW:FnOk l.prog w K mg base CX0 3 _ _ ["thing"] (SpD K (ctOf K) false Qeq):=QMx QDY QiX zz_isinstance zz_list zz_len zz_all cc_MOST_OUTS ⟨_,rfl⟩ cc_MOST_SENT ⟨_,rfl⟩
 have QEa:DefOk l.prog w K mg base (ctOf K) "is_row" 3 false [] Qeq:=⟨_,_,_,_,QLW,W.mg_of X G Quq,QpX,QLL,.nil⟩
 have QI5:FnOk l.prog w K mg base CX0 4 _ _ ["thing"] (SpD K (ctOf K) false Qew):=QH4 QvE QEa zz_isinstance zz_list zz_len zz_all cc_MOST_ROWS ⟨_,rfl⟩
 have QIs:DefOk l.prog w K mg base (ctOf K) "is_table" 4 false [] Qew:=⟨_,_,_,_,QI5,W.mg_of X G Qp2,QkY,QIq,.nil⟩
 have QFy:FnOk l.prog w K mg base (CXR l.prog w) 5 _ _ ["self","rows"] (SpI K (ctOf K) Qdh):=QEA QtJ QIs ms_keep_rows
 have QxY:MkOk l.prog w K mg base (ctOf K) "Rows" 5 Qdh:=⟨QH,Qgd,_,_,Qa9,QHe,⟨QuJ,Qox,QnA,Qus⟩,QFy,QFu⟩
 have QDN:FnOk l.prog w K mg base CX0 1 _ _ ["many","place"] (SpD K (ctOf K) true QcO):=QCH QrT zz_range
 have QBW:DefOk l.prog w K mg base (ctOf K) "single_row" 1 true [] QcO:=⟨_,_,_,_,QDN,W.mg_of X G QlA,Qhe,QBr,.nil⟩
 have QFP:FnOk l.prog w K mg base (CXR l.prog w) 4 _ _ ["self","many"] (SpI K (ctOf K) QdB):=QEI QtN QiX QBW zz_range cc_MOST_OUTS ⟨_,rfl⟩ ms_keep_rows
 have Qw0:MkOk l.prog w K mg base (ctOf K) "Deal" 4 QdB:=⟨QF,Qgj,_,_,Qa7,QGV,⟨Qum,Qm7,Qot,Qt8⟩,QFP,QFT⟩
 have Qz9:FnOk l.prog w K mg base (CXR l.prog w) 4 _ _ ["self","size"] (SpI K (ctOf K) Qcp):=Qzs QqI QiX zz_range cc_MOST_ROWS ⟨_,rfl⟩ ms_keep_rows
 have QrE:MkOk l.prog w K mg base (ctOf K) "Bundle" 4 Qcp:=⟨Qv,QeG,_,_,Qao,Qzh,⟨Qqk,QjY,Qkp,QpS⟩,Qz9,QAD⟩
 have QGl:FnOk l.prog w K mg base (CXR l.prog w) 4 _ _ ["self","counts"] (SpI K (ctOf K) Qdg):=QFX QtG QEa ms_keep_rows
 have Qym:MkOk l.prog w K mg base (ctOf K) "Copy" 4 Qdg:=⟨QG,Qgp,_,_,Qa6,QHc,⟨QuS,Qne,Qol,Qut⟩,QGl,QFj⟩
 have QGb:FnOk l.prog w K mg base CX0 7 _ _ ["_law_number","_law_top"] (SpD K (ctOf K) true Qbm):=QGh QtH zz_range zz_int zz_list Qw0 QrE Qym QxY
 have QEX:DefOk l.prog w K mg base (ctOf K) "_law_clerk" 7 true [] Qbm:=⟨_,_,_,_,QGb,W.mg_of X G QnS,QiL,QE1,.nil⟩
 have QFf:FnOk l.prog w K mg base CX0 1 _ _ ["names","doors"] (SpD K (ctOf K) true Qdq):=QE5 Qt0 zz_enumerate
 have QF5:DefOk l.prog w K mg base (ctOf K) "places_of" 1 true [] Qdq:=⟨_,_,_,_,QFf,W.mg_of X G Qn3,QiN,QEC,.nil⟩
 have QKB:FnOk l.prog w K mg base CX0 1 _ _ ["thing","most"] (SpD K (ctOf K) false Qb0):=QKK Qy2 zz_isinstance zz_list zz_len
 have Qrz:DefOk l.prog w K mg base (ctOf K) "is_list" 1 false [] Qb0:=⟨_,_,_,_,QKB,W.mg_of X G QrO,Qmz,QJZ,.nil⟩
 have QCV:FnOk l.prog w K mg base CX0 1 _ _ ["names"] (SpD K (ctOf K) false Qaf):=QDi QsC zz_len zz_set
 have Ql7:DefOk l.prog w K mg base (ctOf K) "all_unlike" 1 false [] Qaf:=⟨_,_,_,_,QCV,W.mg_of X G QlG,QhF,QDt,.nil⟩
 have QKz:FnOk l.prog w K mg base CX0 1 _ _ ["thing"] (SpD K (ctOf K) false Qa1):=QJ9 QyZ zz_isinstance zz_str zz_len zz_all cc_MOST_SIGNS ⟨_,rfl⟩ cc_LETTERS ⟨_,rfl⟩
 have QsE:DefOk l.prog w K mg base (ctOf K) "is_name" 1 false [] Qa1:=⟨_,_,_,_,QKz,W.mg_of X G Qs6,QmO,QJI,.nil⟩
 have QF3:FnOk l.prog w K mg base CX0 2 _ _ ["thing","most"] (SpD K (ctOf K) false QdC):=QEV Qt5 Qrz QsE Ql7 zz_all
 have QFq:DefOk l.prog w K mg base (ctOf K) "are_names" 2 false [] QdC:=⟨_,_,_,_,QF3,W.mg_of X G Qna,QiP,QFA,.nil⟩
 have QFV:FnOk l.prog w K mg base CX0 1 _ _ ["thing","many"] (SpD K (ctOf K) false Qdk):=QET QtY zz_isinstance zz_list zz_len zz_all zz_str
 have QFs:DefOk l.prog w K mg base (ctOf K) "are_texts" 1 false [] Qdk:=⟨_,_,_,_,QFV,W.mg_of X G Qnb,Qi7,QGz,.nil⟩
 have QHo:FnOk l.prog w K mg base CX0 1 _ _ ["thing"] (SpD K (ctOf K) false Qej):=QIp Qwc zz_isinstance QGV Qzh QHc QHe Qyj QrJ QxC QyF
 have QHD:DefOk l.prog w K mg base (ctOf K) "is_clerk" 1 false [] Qej:=⟨_,_,_,_,QHo,W.mg_of X G QpC,QkL,QIj,.nil⟩
 have QhG:FnOk l.prog w K mg base CX0 1 _ _ ["self"] (SpD K (ctOf K) false Qcl):=QD3 QsY zz_len fo_table
 have mt_outs:MtOk l.prog w K mg base (ctOf K) CX0 "outs" 1 Qc (fun c=>SpD K (ctOf K) false ((fun _=>Qcl) c)):=by
  intro c hc
  have hm:c∈Qc:=by simpa using hc
  simp only[Qc,List.mem_cons,List.not_mem_nil,or_false]at hm
  rcases hm with rfl | rfl | rfl | rfl
  ·exact⟨QF,Qa2,_,_,Qa7,Qcd,⟨Qoc,QdX,QcI⟩,QhG.mono (by decide),Qhf⟩
  ·exact⟨Qv,Qa2,_,_,Qao,QaY,⟨QjE,QdX,QcI⟩,QhG.mono (by decide),Qhf⟩
  ·exact⟨QG,Qa2,_,_,Qa6,Qb9,⟨Qn8,QdX,QcI⟩,QhG.mono (by decide),Qhf⟩
  ·exact⟨QH,Qa2,_,_,Qa9,Qb8,⟨Qm9,QdX,QcI⟩,QhG.mono (by decide),Qhf⟩
 have QfQ:FnOk l.prog w K mg base CX0 1 _ _ ["self"] (SpD K (ctOf K) false QM):=Qxa QoI zz_len fo_table
 have mt_period:MtOk l.prog w K mg base (ctOf K) CX0 "period" 1 Qc (fun c=>SpD K (ctOf K) false ((fun _=>QM) c)):=by
  intro c hc
  have hm:c∈Qc:=by simpa using hc
  simp only[Qc,List.mem_cons,List.not_mem_nil,or_false]at hm
  rcases hm with rfl | rfl | rfl | rfl
  ·exact⟨QF,Qaw,_,_,Qa7,Qcd,⟨Qku,QcF,Qce⟩,QfQ.mono (by decide),QfG⟩
  ·exact⟨Qv,Qaw,_,_,Qao,QaY,⟨Qhg,QcF,Qce⟩,QfQ.mono (by decide),QfG⟩
  ·exact⟨QG,Qaw,_,_,Qa6,Qb9,⟨Qkj,QcF,Qce⟩,QfQ.mono (by decide),QfG⟩
  ·exact⟨QH,Qaw,_,_,Qa9,Qb8,⟨QjW,QcF,Qce⟩,QfQ.mono (by decide),QfG⟩
 have QJE:FnOk l.prog w K mg base CX0 3 _ _ ["thing"] (SpD K (ctOf K) false Qfs):=QLj QyU QsE QHD QFs QiX zz_isinstance zz_tuple zz_len mt_outs mt_period
 have QK8:DefOk l.prog w K mg base (ctOf K) "is_seat" 3 false [] Qfs:=⟨_,_,_,_,QJE,W.mg_of X G Qsc,QmA,QKd,.nil⟩
 have QGp:FnOk l.prog w K mg base CX0 4 _ _ ["thing","doors"] (SpD K (ctOf K) false Qdu):=QFJ Qt4 Qrz QK8 Ql7 zz_all cc_MOST_CLERKS ⟨_,rfl⟩
 have QGH:DefOk l.prog w K mg base (ctOf K) "are_seats" 4 false [] Qdu:=⟨_,_,_,_,QGp,W.mg_of X G Qop,QiO,QEY,.nil⟩
 have QJc:FnOk l.prog w K mg base CX0 2 _ _ ["thing","names"] (SpD K (ctOf K) false Qer):=QJb QvI QsE zz_isinstance zz_tuple zz_len
 have QHG:DefOk l.prog w K mg base (ctOf K) "is_entry" 2 false [] Qer:=⟨_,_,_,_,QJc,W.mg_of X G QpO,QkZ,QHs,.nil⟩
 have Qz7:FnOk l.prog w K mg base CX0 3 _ _ ["thing","names"] (SpD K (ctOf K) false Qcr):=Qz1 QqF Qrz QHG Ql7 zz_all cc_MOST_ENTRIES ⟨_,rfl⟩
 have QAe:DefOk l.prog w K mg base (ctOf K) "are_entries" 3 false [] Qcr:=⟨_,_,_,_,Qz7,W.mg_of X G QjT,QgK,Qzy,.nil⟩
 have QIV:FnOk l.prog w K mg base CX0 1 _ _ ["seat","places"] (SpD K (ctOf K) true Qet):=QIE Qwv
 have QId:DefOk l.prog w K mg base (ctOf K) "leads_to" 1 true [] Qet:=⟨_,_,_,_,QIV,W.mg_of X G QpI,Qk0,QJa,.nil⟩
 have QAt:FnOk l.prog w K mg base (CXR l.prog w) 5 _ _ ["self","clerks","entries","doors"] (SpI K (ctOf K) Qb2):=QzM QqB QFq QGH QAe QF5 QId zz_any zz_list cc_MOST_DOORS ⟨_,rfl⟩ fo_clerk_names fo_door_names fo_entry_places fo_staff fo_first_states fo_ways
 have Qst:MkOk l.prog w K mg base (ctOf K) "Office" 5 Qb2:=⟨QO,QeC,_,_,Qay,QKb,⟨Qqi,Qks,QjI,QpW⟩,QAt,QzA⟩
 have QFi:FnOk l.prog w K mg base CX0 1 _ _ ["_law_lead","_law_doors"] (SpD K (ctOf K) false QcC):=QGg QtD zz_len
 have QEv:DefOk l.prog w K mg base (ctOf K) "_law_place" 1 false [] QcC:=⟨_,_,_,_,QFi,W.mg_of X G QnD,QiF,QFM,.nil⟩
 have QFQ:FnOk l.prog w K mg base CX0 8 _ _ ["_law_script","_law_start","_law_most"] (SpD K (ctOf K) true Qdf):=QER QtL QtC Qvu QEX QEv zz_int zz_len zz_range Qst
 have QEB:DefOk l.prog w K mg base (ctOf K) "_law_drawn" 8 true [] Qdf:=⟨_,_,_,_,QFQ,W.mg_of X G Qnm,QiK,QEH,.nil⟩
 have QFK:FnOk l.prog w K mg base CX0 1 _ _ ["_law_drawn_here"] (SpD K (ctOf K) true Qdj):=QFt QtW zz_zip zz_len
 have QFC:DefOk l.prog w K mg base (ctOf K) "_law_table" 1 true [] Qdj:=⟨_,_,_,_,QFK,W.mg_of X G Qnv,Qi0,QGN,.nil⟩
 have QJi:FnOk l.prog w K mg base CX0 1 _ _ ["_law_rows","_law_number"] (SpD K (ctOf K) true Qem):=QIl QvW zz_range zz_len
 have QHt:DefOk l.prog w K mg base (ctOf K) "_law_flow" 1 true [] Qem:=⟨_,_,_,_,QJi,W.mg_of X G Qpr,QkX,QIr,.nil⟩
 have QAr:FnOk l.prog w K mg base CX0 1 _ _ ["self"] (SpD K (ctOf K) false Qav):=QAl QqC zz_len fo_clerk_names
 have mt_many:MtOk l.prog w K mg base (ctOf K) CX0 "many" 1 QB (fun c=>SpD K (ctOf K) false ((fun _=>Qav) c)):=by
  intro c hc
  have hm:c∈QB:=by simpa using hc
  simp only[QB,List.mem_cons,List.not_mem_nil,or_false]at hm
  rcases hm with rfl
  ·exact⟨QO,QeD,_,_,Qay,QbB,⟨Qkb,QjL,Qgx⟩,QAr.mono (by decide),QzR⟩
 have QEZ:FnOk l.prog w K mg base CX0 2 _ _ ["count","period"] (SpD K (ctOf K) false Qdx):=QEt Qt2 QwA
 have QGC:DefOk l.prog w K mg base (ctOf K) "is_rounds" 2 false [] Qdx:=⟨_,_,_,_,QEZ,W.mg_of X G Qod,QiS,QGd,.nil⟩
 have Qxc:FnOk l.prog w K mg base CX0 1 _ _ ["self","k"] (SpD K (ctOf K) false QaJ):=QyL Qo7 fo_staff
 have mt_clerk:MtOk l.prog w K mg base (ctOf K) CX0 "clerk" 1 QB (fun c=>SpD K (ctOf K) false ((fun _=>QaJ) c)):=by
  intro c hc
  have hm:c∈QB:=by simpa using hc
  simp only[QB,List.mem_cons,List.not_mem_nil,or_false]at hm
  rcases hm with rfl
  ·exact⟨QO,QdU,_,_,Qay,QbB,⟨Qio,Qic,QfH⟩,Qxc.mono (by decide),QxB⟩
 have QBm:FnOk l.prog w K mg base CX0 2 _ _ ["office"] (SpD K (ctOf K) true Qcm):=QCD QrN zz_range mt_many mt_period mt_clerk
 have QBu:DefOk l.prog w K mg base (ctOf K) "periods_of" 2 true [] Qcm:=⟨_,_,_,_,QBm,W.mg_of X G QlQ,QhK,QCM,.nil⟩
 have QJF:FnOk l.prog w K mg base CX0 3 _ _ ["office","thing"] (SpD K (ctOf K) false Qfh):=QLu QyT QBu QGC zz_len zz_all zz_zip zz_any mt_many
 have QJq:DefOk l.prog w K mg base (ctOf K) "is_flow" 3 false [] Qfh:=⟨_,_,_,_,QJF,W.mg_of X G Qrl,QmL,QLs,.nil⟩
 have QO7:FnOk l.prog w K mg base CX0 1 _ _ ["desks"] (SpD K (ctOf K) true QhS):=QPs QLy zz_enumerate
 have QO9:DefOk l.prog w K mg base (ctOf K) "able" 1 true [] QhS:=⟨_,_,_,_,QO7,W.mg_of X G QBT,Qwu,QOa,.nil⟩
 have QPQ:FnOk l.prog w K mg base CX0 1 _ _ ["desks","out","leads","dockets"] (SpW K (ctOf K) false [true,true,false,false] Qp6):=QPJ QMB zz_zip
 have QPO:DefW l.prog w K mg base (ctOf K) "lay" 1 false [true,true,false,false] Qp6:=⟨_,_,_,QPQ,W.mg_of X G QIP,QAU,QPK⟩
 have QxL:FnOk l.prog w K mg base CX0 1 _ _ ["self","k"] (SpD K (ctOf K) true QbF):=QxQ QoS zz_list fo_ways
 have mt_leads:MtOk l.prog w K mg base (ctOf K) CX0 "leads" 1 QB (fun c=>SpD K (ctOf K) true ((fun _=>QbF) c)):=by
  intro c hc
  have hm:c∈QB:=by simpa using hc
  simp only[QB,List.mem_cons,List.not_mem_nil,or_false]at hm
  rcases hm with rfl
  ·exact⟨QO,Qd1,_,_,Qay,QbB,⟨Qiv,QiD,QfN⟩,QxL.mono (by decide),QyH⟩
 have QgE:FnOk l.prog w K mg base CX0 2 _ _ ["self"] (SpD K (ctOf K) true QbZ):=QzO QqV zz_list fo_heads mt_period
 have mt_whole:MtOk l.prog w K mg base (ctOf K) CX0 "whole" 2 Qc (fun c=>SpD K (ctOf K) true ((fun _=>QbZ) c)):=by
  intro c hc
  have hm:c∈Qc:=by simpa using hc
  simp only[Qc,List.mem_cons,List.not_mem_nil,or_false]at hm
  rcases hm with rfl | rfl | rfl | rfl
  ·exact⟨QF,QaA,_,_,Qa7,Qcd,⟨Qle,Qc6,Qcq⟩,QgE.mono (by decide),QgL⟩
  ·exact⟨Qv,QaA,_,_,Qao,QaY,⟨Qip,Qc6,Qcq⟩,QgE.mono (by decide),QgL⟩
  ·exact⟨QG,QaA,_,_,Qa6,Qb9,⟨QlR,Qc6,Qcq⟩,QgE.mono (by decide),QgL⟩
  ·exact⟨QH,QaA,_,_,Qa9,Qb8,⟨QlK,Qc6,Qcq⟩,QgE.mono (by decide),QgL⟩
 have Qb3:FnOk l.prog w K mg base CX0 3 _ _ ["self","count"] (SpD K (ctOf K) true QV):=Qmk QfR zz_zip fo_heads mt_period mt_whole
 have mt_sent_from_start:MtOk l.prog w K mg base (ctOf K) CX0 "sent_from_start" 3 Qc (fun c=>SpD K (ctOf K) true ((fun _=>QV) c)):=by
  intro c hc
  have hm:c∈Qc:=by simpa using hc
  simp only[Qc,List.mem_cons,List.not_mem_nil,or_false]at hm
  rcases hm with rfl | rfl | rfl | rfl
  ·exact⟨QF,QN,_,_,Qa7,Qcd,⟨QdA,Qaz,Qam⟩,Qb3.mono (by decide),Qb6⟩
  ·exact⟨Qv,QN,_,_,Qao,QaY,⟨QcN,Qaz,Qam⟩,Qb3.mono (by decide),Qb6⟩
  ·exact⟨QG,QN,_,_,Qa6,Qb9,⟨Qds,Qaz,Qam⟩,Qb3.mono (by decide),Qb6⟩
  ·exact⟨QH,QN,_,_,Qa9,Qb8,⟨Qdp,Qaz,Qam⟩,Qb3.mono (by decide),Qb6⟩
 have Qhm:FnOk l.prog w K mg base CX0 4 _ _ ["self","state","count"] (SpD K (ctOf K) true QbO):=QDZ Qsa zz_zip mt_sent_from_start
 have mt_sent:MtOk l.prog w K mg base (ctOf K) CX0 "sent" 4 Qc (fun c=>SpD K (ctOf K) true ((fun _=>QbO) c)):=by
  intro c hc
  have hm:c∈Qc:=by simpa using hc
  simp only[Qc,List.mem_cons,List.not_mem_nil,or_false]at hm
  rcases hm with rfl | rfl | rfl | rfl
  ·exact⟨QF,QaW,_,_,Qa7,Qcd,⟨QnJ,Qd3,QcV⟩,Qhm.mono (by decide),Qhs⟩
  ·exact⟨Qv,QaW,_,_,Qao,QaY,⟨QjJ,Qd3,QcV⟩,Qhm.mono (by decide),Qhs⟩
  ·exact⟨QG,QaW,_,_,Qa6,Qb9,⟨Qnw,Qd3,QcV⟩,Qhm.mono (by decide),Qhs⟩
  ·exact⟨QH,QaW,_,_,Qa9,Qb8,⟨Qoo,Qd3,QcV⟩,Qhm.mono (by decide),Qhs⟩
 have QC6:FnOk l.prog w K mg base CX0 5 _ _ ["office","states","desks","out"] (SpW K (ctOf K) true [false,true,false,true] QcS):=QD4 QsX QO9 QPO mt_clerk mt_leads mt_sent mt_period
 have QEn:DefW l.prog w K mg base (ctOf K) "handle_all" 5 true [false,true,false,true] QcS:=⟨_,_,_,QC6,W.mg_of X G QlV,Qhk,QDp⟩
 have QwL:FnOk l.prog w K mg base CX0 1 _ _ ["self"] (SpD K (ctOf K) true Qbf):=Qyu QoQ zz_list fo_door_names
 have mt_doors:MtOk l.prog w K mg base (ctOf K) CX0 "doors" 1 QB (fun c=>SpD K (ctOf K) true ((fun _=>Qbf) c)):=by
  intro c hc
  have hm:c∈QB:=by simpa using hc
  simp only[QB,List.mem_cons,List.not_mem_nil,or_false]at hm
  rcases hm with rfl
  ·exact⟨QO,QdL,_,_,Qay,QbB,⟨Qim,Qil,Qfu⟩,QwL.mono (by decide),Qx1⟩
 have QAk:FnOk l.prog w K mg base CX0 2 _ _ ["office"] (SpD K (ctOf K) true Qcs):=QAO QqA mt_doors
 have QAh:DefOk l.prog w K mg base (ctOf K) "nothing_out" 2 true [] Qcs:=⟨_,_,_,_,QAk,W.mg_of X G Qkr,QgD,Qz5,.nil⟩
 have QKf:FnOk l.prog w K mg base CX0 6 _ _ ["office","flow"] (SpD K (ctOf K) true Qec):=QJY Qy5 QEn QAh
 have QLz:DefOk l.prog w K mg base (ctOf K) "sent_by" 6 true [] Qec:=⟨_,_,_,_,QKf,W.mg_of X G QrI,QmG,QKA,.nil⟩
 have QGB:FnOk l.prog w K mg base CX0 7 _ _ ["office","flow"] (SpD K (ctOf K) false QcB):=QGs QtF QJq QLz zz_all zz_zip
 have QE8:DefOk l.prog w K mg base (ctOf K) "is_unrest" 7 false [] QcB:=⟨_,_,_,_,QGB,W.mg_of X G Qoj,QiZ,QFR,.nil⟩
 have QKa:FnOk l.prog w K mg base CX0 1 _ _ ["_law_rows","_law_table_here","_law_doors","_law_flow_here"] (SpD K (ctOf K) false Qeb):=QJ4 Qy9 zz_range zz_len zz_max
 have QLm:DefOk l.prog w K mg base (ctOf K) "_law_due" 1 false [] Qeb:=⟨_,_,_,_,QKa,W.mg_of X G QrS,QmS,QKR,.nil⟩
 have QPL:FnOk l.prog w K mg base CX0 9 _ _ ["_law_script"] (SpD K (ctOf K) false Qmx):=QPM QMC QEB QFC QHt QtC Qvu QE8 QLm zz_range zz_max zz_min zz_len zz_list zz_isinstance zz_bool
 exact QPL
theorem walk{l:W.OpenLaw}{q:Program}{loose:List Str}{XP:(Str->Option Value)->Heap->Prop}{YP:World->Heap->Prop}{d:DefRec}{K:Params->W.Frag}(hn:l.most=some 63)(hdf:d.params.defaults=[])
 (hY:∀(w:World)(h:Heap),YP w h->(K w.params).In h) (hlaw:∀ ns:List Int,ns.length<=63->(∀ z∈ns,bitsI z<=1048576)->Qmx [.lst (ns.map .int)]=.ok (.bl true))
 (F:∀(w:World)(mg:Str->Option Value)(fa:Addr)(h:Heap),(K w.params).In h->h.Ns mainGlobals mg->mg d.name=some (.ref fa)->
  ∃ fd:FuncData,(∀(s:Shared)(u:Value),BindsTo s fd ⟨[u],[]⟩ [("_law_script",u)])/\∀ base:Heap,(K w.params).In base->base.Ns mainGlobals mg->FnOk l.prog w (K w.params) mg base CX0 9 fa fd ["_law_script"] (SpD (K w.params) (ctOf (K w.params)) false Qmx)):
 W.WalkO q loose XP YP l.row.toRowW d [] (fun f vs=>PySem.call f vs):=
 DL.walk_of (n:=63) (k:=9) (x:="_law_script") (CX:=fun _=>CX0) (sp:=fun w=>SpD (K w.params) (ctOf (K w.params)) false Qmx) hn (by decide) hdf ⟨rfl,by decide,by decide⟩ hY F
  (fun w H a ns hl hbits _ hS=>⟨[.lst (ns.map .int)],H,Same.refl H,⟨.ref a,[],rfl,⟨a,_,rfl,hS,RepL.map_int ns⟩,rfl⟩,by rw[hlaw ns hl hbits];exact fun v H' G' _ _ _ _ r=>r⟩) fun _ _ _ _ _ z=>z
end My
open PySem PySem.W PyProof.Rows
set_option maxRecDepth 100000 in
set_option maxHeartbeats 0 in
theorem PySem.Challenge.cw_dockethall_k45_is_unrest_holds : PySem.Challenge.rw_dockethall_k45_is_unrest.Holds := by
 w_on;o_law;k_head;(case hw=>w_witness2)
 k_fill
 refine My.walk (l:=PySem.Challenge.rw_dockethall_k45_is_unrest) rfl rfl (fun w h Y=>PySem.W.kIn_of Y) My.the_law ?F
 case F=>
  intro w mg fa h KX G hmg
  refine' My.all_mk KX G hmg ?QvC ?Qw4 ?Qyh ?Qxe ?Qys ?QjA ?Qkv ?QeV ?Qfe ?Qeo ?QjS ?Qeu ?Qmb ?Qp8 ?Qsi ?Qse ?Qsm ?Qss ?QhC ?Qg7 ?QdP ?Qek ?Qdl ?QhH ?Qdw ?Qh7 ?QvB ?Qyq ?Qx0 ?Qyi ?QwT ?Qj8 ?QjU ?QeX ?Qfi ?Qef ?QkA ?Qez ?Qlq ?Qwk ?Qxy ?Qyz ?QyA ?Qyr ?Qki ?QjF ?QeT ?Qfd ?Qeh ?QjZ ?Qex ?Qma ?QpP ?QrQ ?QsR ?QsA ?Qr3 ?Qhx ?Qhj ?Qd0 ?Qes ?Qdm ?Qg9 ?QdE ?Qh8 ?Qoc ?QjE ?Qn8 ?Qm9 ?Qku ?Qhg ?Qkj ?QjW ?Qkb ?Qio ?Qle ?Qip ?QlR ?QlK ?QdA ?QcN ?Qds ?Qdp ?Qiv ?QnJ ?QjJ ?Qnw ?Qoo ?Qim ?QgO ?Qfc ?QgR ?QgS ?Qm7 ?QjY ?Qne ?Qox ?Qks ?Qum ?Qt8 ?Qqk ?QpS ?QuS ?Qut ?QuJ ?Qus ?Qqi ?QpW ?y1 ?y2 ?Qx6 ?QyK ?Qs8 ?QsU ?Qxv ?Qyn ?QwP ?Qw5 ?Qsp ?Qs0 ?QnP ?Qn5 ?Qor ?QiT ?Qp1 ?QpV ?Qpx ?QkO ?Qrq ?Qrt ?QrA ?Qmu ?Qh1 ?Qik ?Qh9 ?QfC ?QbV ?Qf2 ?Qf8 ?Qbh ?Qqb ?Qqa ?Qpw ?QkS ?Qnn ?Qoa ?Qn2 ?Qi6 ?Quq ?QuT ?Quf ?QpX ?Qp2 ?Qpy ?Qps ?QkY ?QnA ?QnX ?QnF ?Qm6 ?QlA ?Ql3 ?QlN ?Qhe ?Qot ?QnL ?Qnx ?QnR ?Qkp ?Qj1 ?Qkq ?Qka ?Qol ?Qn1 ?QnK ?QoB ?QnS ?QnE ?Qm3 ?QiL ?Qn3 ?QnW ?Qn4 ?QiN ?QrO ?QsN ?Qsn ?Qmz ?QlG ?Qlj ?Qmc ?QhF ?Qs6 ?Qs5 ?Qr4 ?QmO ?Qna ?Qn9 ?QnG ?QiP ?Qnb ?Qns ?QnI ?Qi7 ?QpC ?Qqo ?Qqu ?QkL ?QdX ?QlJ ?Qlk ?QcI ?QcF ?Qh6 ?Qih ?Qce ?Qsc ?Qsg ?QsI ?QmA ?Qop ?Qnu ?Qn6 ?QiO ?QpO ?Qqg ?Qqq ?QkZ ?QjT ?QjH ?Qkn ?QgK ?QpI ?Qpz ?QpR ?Qk0 ?QjI ?QjB ?Qkm ?Qkg ?QnD ?Qm5 ?QnO ?QiF ?Qnm ?Qoy ?Qob ?QiK ?Qnv ?Qow ?Qnh ?Qi0 ?Qpr ?Qp5 ?QpF ?QkX ?QjL ?QjR ?QjC ?Qgx ?Qod ?Qnk ?QnQ ?QiS ?Qic ?Qiw ?QiB ?QfH ?QlQ ?Ql0 ?Qll ?QhK ?Qrl ?Qs2 ?QsQ ?QmL ?QBT ?QDT ?QBs ?Qwu ?QIP ?QJh ?QI1 ?QAU ?QiD ?Qij ?Qig ?QfN ?Qc6 ?Qke ?Qjx ?Qcq ?Qaz ?Qc2 ?Qc4 ?Qam ?Qd3 ?Qlw ?QlO ?QcV ?QlV ?QlE ?QlS ?Qhk ?Qil ?QiA ?Qiy ?Qfu ?Qkr ?Qkw ?QjP ?QgD ?QrI ?Qrk ?Qso ?QmG ?Qoj ?Qnp ?QnZ ?QiZ ?QrS ?Qrr ?Qr6 ?QmS ?QIQ ?QIo ?QIC ?QIh ?z_len ?z_zip ?z_list ?z_isinstance ?z_int ?z_bool ?z_all ?z_range ?z_enumerate ?z_set ?z_str ?z_tuple ?z_any ?z_max ?z_min ?c_MOST_OUTS ?c_MOST_SENT ?c_MOST_ROWS ?c_MOST_SIGNS ?c_LETTERS ?c_MOST_CLERKS ?c_MOST_ENTRIES ?c_MOST_DOORS ?Qkc ?QnT ?Qno ?Qky ?Qn0 ?Qhq ?Qjw ?Qj9 ?QhI ?QjD ?QjK ?Qnc ?Qnj ?QjO ?Qoi ?Qj0 ?Qnf ?Qoe ?Qj4 ?QnV
  (case QvC=>k_is)
  (case Qw4=>k_is)
  (case Qyh=>k_is)
  (case Qxe=>k_is)
  (case Qys=>k_is)
  (case QjA=>k_is)
  (case Qkv=>k_is)
  (case QeV=>k_is)
  (case Qfe=>k_is)
  (case Qeo=>k_is)
  (case QjS=>k_is)
  (case Qeu=>k_is)
  (case Qmb=>k_is)
  (case Qp8=>k_is)
  (case Qsi=>k_is)
  (case Qse=>k_is)
  (case Qsm=>k_is)
  (case Qss=>k_is)
  (case QhC=>k_is)
  (case Qg7=>k_is)
  (case QdP=>k_is)
  (case Qek=>k_is)
  (case Qdl=>k_is)
  (case QhH=>k_is)
  (case Qdw=>k_is)
  (case Qh7=>k_is)
  (case QvB=>k_is)
  (case Qyq=>k_is)
  (case Qx0=>k_is)
  (case Qyi=>k_is)
  (case QwT=>k_is)
  (case Qj8=>k_is)
  (case QjU=>k_is)
  (case QeX=>k_is)
  (case Qfi=>k_is)
  (case Qef=>k_is)
  (case QkA=>k_is)
  (case Qez=>k_is)
  (case Qlq=>k_is)
  (case Qwk=>k_is)
  (case Qxy=>k_is)
  (case Qyz=>k_is)
  (case QyA=>k_is)
  (case Qyr=>k_is)
  (case Qki=>k_is)
  (case QjF=>k_is)
  (case QeT=>k_is)
  (case Qfd=>k_is)
  (case Qeh=>k_is)
  (case QjZ=>k_is)
  (case Qex=>k_is)
  (case Qma=>k_is)
  (case QpP=>k_is)
  (case QrQ=>k_is)
  (case QsR=>k_is)
  (case QsA=>k_is)
  (case Qr3=>k_is)
  (case Qhx=>k_is)
  (case Qhj=>k_is)
  (case Qd0=>k_is)
  (case Qes=>k_is)
  (case Qdm=>k_is)
  (case Qg9=>k_is)
  (case QdE=>k_is)
  (case Qh8=>k_is)
  (case Qoc=>k_is)
  (case QjE=>k_is)
  (case Qn8=>k_is)
  (case Qm9=>k_is)
  (case Qku=>k_is)
  (case Qhg=>k_is)
  (case Qkj=>k_is)
  (case QjW=>k_is)
  (case Qkb=>k_is)
  (case Qio=>k_is)
  (case Qle=>k_is)
  (case Qip=>k_is)
  (case QlR=>k_is)
  (case QlK=>k_is)
  (case QdA=>k_is)
  (case QcN=>k_is)
  (case Qds=>k_is)
  (case Qdp=>k_is)
  (case Qiv=>k_is)
  (case QnJ=>k_is)
  (case QjJ=>k_is)
  (case Qnw=>k_is)
  (case Qoo=>k_is)
  (case Qim=>k_is)
  (case QgO=>k_is)
  (case Qfc=>k_is)
  (case QgR=>k_is)
  (case QgS=>k_is)
  (case Qm7=>k_is)
  (case QjY=>k_is)
  (case Qne=>k_is)
  (case Qox=>k_is)
  (case Qks=>k_is)
  (case Qum=>k_is)
  (case Qt8=>k_is)
  (case Qqk=>k_is)
  (case QpS=>k_is)
  (case QuS=>k_is)
  (case Qut=>k_is)
  (case QuJ=>k_is)
  (case Qus=>k_is)
  (case Qqi=>k_is)
  (case QpW=>k_is)
  (case y1=>k_is)
  (case y2=>k_is)
  (case Qx6=>k_is)
  (case QyK=>k_is)
  (case Qs8=>k_is)
  (case QsU=>k_is)
  (case Qxv=>k_is)
  (case Qyn=>k_is)
  (case QwP=>k_is)
  (case Qw5=>k_is)
  (case Qsp=>k_is)
  (case Qs0=>k_is)
  (case QnP=>k_is)
  (case Qn5=>k_is)
  (case Qor=>k_is)
  (case QiT=>k_is)
  (case Qp1=>k_is)
  (case QpV=>k_is)
  (case Qpx=>k_is)
  (case QkO=>k_is)
  (case Qrq=>k_is)
  (case Qrt=>k_is)
  (case QrA=>k_is)
  (case Qmu=>k_is)
  (case Qh1=>k_is)
  (case Qik=>k_is)
  (case Qh9=>k_is)
  (case QfC=>k_is)
  (case QbV=>k_is)
  (case Qf2=>k_is)
  (case Qf8=>k_is)
  (case Qbh=>k_is)
  (case Qqb=>k_is)
  (case Qqa=>k_is)
  (case Qpw=>k_is)
  (case QkS=>k_is)
  (case Qnn=>k_is)
  (case Qoa=>k_is)
  (case Qn2=>k_is)
  (case Qi6=>k_is)
  (case Quq=>k_is)
  (case QuT=>k_is)
  (case Quf=>k_is)
  (case QpX=>k_is)
  (case Qp2=>k_is)
  (case Qpy=>k_is)
  (case Qps=>k_is)
  (case QkY=>k_is)
  (case QnA=>k_is)
  (case QnX=>k_is)
  (case QnF=>k_is)
  (case Qm6=>k_is)
  (case QlA=>k_is)
  (case Ql3=>k_is)
  (case QlN=>k_is)
  (case Qhe=>k_is)
  (case Qot=>k_is)
  (case QnL=>k_is)
  (case Qnx=>k_is)
  (case QnR=>k_is)
  (case Qkp=>k_is)
  (case Qj1=>k_is)
  (case Qkq=>k_is)
  (case Qka=>k_is)
  (case Qol=>k_is)
  (case Qn1=>k_is)
  (case QnK=>k_is)
  (case QoB=>k_is)
  (case QnS=>k_is)
  (case QnE=>k_is)
  (case Qm3=>k_is)
  (case QiL=>k_is)
  (case Qn3=>k_is)
  (case QnW=>k_is)
  (case Qn4=>k_is)
  (case QiN=>k_is)
  (case QrO=>k_is)
  (case QsN=>k_is)
  (case Qsn=>k_is)
  (case Qmz=>k_is)
  (case QlG=>k_is)
  (case Qlj=>k_is)
  (case Qmc=>k_is)
  (case QhF=>k_is)
  (case Qs6=>k_is)
  (case Qs5=>k_is)
  (case Qr4=>k_is)
  (case QmO=>k_is)
  (case Qna=>k_is)
  (case Qn9=>k_is)
  (case QnG=>k_is)
  (case QiP=>k_is)
  (case Qnb=>k_is)
  (case Qns=>k_is)
  (case QnI=>k_is)
  (case Qi7=>k_is)
  (case QpC=>k_is)
  (case Qqo=>k_is)
  (case Qqu=>k_is)
  (case QkL=>k_is)
  (case QdX=>k_is)
  (case QlJ=>k_is)
  (case Qlk=>k_is)
  (case QcI=>k_is)
  (case QcF=>k_is)
  (case Qh6=>k_is)
  (case Qih=>k_is)
  (case Qce=>k_is)
  (case Qsc=>k_is)
  (case Qsg=>k_is)
  (case QsI=>k_is)
  (case QmA=>k_is)
  (case Qop=>k_is)
  (case Qnu=>k_is)
  (case Qn6=>k_is)
  (case QiO=>k_is)
  (case QpO=>k_is)
  (case Qqg=>k_is)
  (case Qqq=>k_is)
  (case QkZ=>k_is)
  (case QjT=>k_is)
  (case QjH=>k_is)
  (case Qkn=>k_is)
  (case QgK=>k_is)
  (case QpI=>k_is)
  (case Qpz=>k_is)
  (case QpR=>k_is)
  (case Qk0=>k_is)
  (case QjI=>k_is)
  (case QjB=>k_is)
  (case Qkm=>k_is)
  (case Qkg=>k_is)
  (case QnD=>k_is)
  (case Qm5=>k_is)
  (case QnO=>k_is)
  (case QiF=>k_is)
  (case Qnm=>k_is)
  (case Qoy=>k_is)
  (case Qob=>k_is)
  (case QiK=>k_is)
  (case Qnv=>k_is)
  (case Qow=>k_is)
  (case Qnh=>k_is)
  (case Qi0=>k_is)
  (case Qpr=>k_is)
  (case Qp5=>k_is)
  (case QpF=>k_is)
  (case QkX=>k_is)
  (case QjL=>k_is)
  (case QjR=>k_is)
  (case QjC=>k_is)
  (case Qgx=>k_is)
  (case Qod=>k_is)
  (case Qnk=>k_is)
  (case QnQ=>k_is)
  (case QiS=>k_is)
  (case Qic=>k_is)
  (case Qiw=>k_is)
  (case QiB=>k_is)
  (case QfH=>k_is)
  (case QlQ=>k_is)
  (case Ql0=>k_is)
  (case Qll=>k_is)
  (case QhK=>k_is)
  (case Qrl=>k_is)
  (case Qs2=>k_is)
  (case QsQ=>k_is)
  (case QmL=>k_is)
  (case QBT=>k_is)
  (case QDT=>k_is)
  (case QBs=>k_is)
  (case Qwu=>k_is)
  (case QIP=>k_is)
  (case QJh=>k_is)
  (case QI1=>k_is)
  (case QAU=>k_is)
  (case QiD=>k_is)
  (case Qij=>k_is)
  (case Qig=>k_is)
  (case QfN=>k_is)
  (case Qc6=>k_is)
  (case Qke=>k_is)
  (case Qjx=>k_is)
  (case Qcq=>k_is)
  (case Qaz=>k_is)
  (case Qc2=>k_is)
  (case Qc4=>k_is)
  (case Qam=>k_is)
  (case Qd3=>k_is)
  (case Qlw=>k_is)
  (case QlO=>k_is)
  (case QcV=>k_is)
  (case QlV=>k_is)
  (case QlE=>k_is)
  (case QlS=>k_is)
  (case Qhk=>k_is)
  (case Qil=>k_is)
  (case QiA=>k_is)
  (case Qiy=>k_is)
  (case Qfu=>k_is)
  (case Qkr=>k_is)
  (case Qkw=>k_is)
  (case QjP=>k_is)
  (case QgD=>k_is)
  (case QrI=>k_is)
  (case Qrk=>k_is)
  (case Qso=>k_is)
  (case QmG=>k_is)
  (case Qoj=>k_is)
  (case Qnp=>k_is)
  (case QnZ=>k_is)
  (case QiZ=>k_is)
  (case QrS=>k_is)
  (case Qrr=>k_is)
  (case Qr6=>k_is)
  (case QmS=>k_is)
  (case QIQ=>k_is)
  (case QIo=>k_is)
  (case QIC=>k_is)
  (case QIh=>k_is)
  (case z_len=>k_is)
  (case z_zip=>k_is)
  (case z_list=>k_is)
  (case z_isinstance=>k_is)
  (case z_int=>k_is)
  (case z_bool=>k_is)
  (case z_all=>k_is)
  (case z_range=>k_is)
  (case z_enumerate=>k_is)
  (case z_set=>k_is)
  (case z_str=>k_is)
  (case z_tuple=>k_is)
  (case z_any=>k_is)
  (case z_max=>k_is)
  (case z_min=>k_is)
  (case c_MOST_OUTS=>k_is)
  (case c_MOST_SENT=>k_is)
  (case c_MOST_ROWS=>k_is)
  (case c_MOST_SIGNS=>k_is)
  (case c_LETTERS=>k_is)
  (case c_MOST_CLERKS=>k_is)
  (case c_MOST_ENTRIES=>k_is)
  (case c_MOST_DOORS=>k_is)
  (case Qkc=>kit_is)
  (case QnT=>kit_is)
  (case Qno=>kit_is)
  (case Qky=>kit_is)
  (case Qn0=>kit_is)
  (case Qhq=>kit_is)
  (case Qjw=>kit_is)
  (case Qj9=>kit_is)
  (case QhI=>kit_is)
  (case QjD=>kit_is)
  (case QjK=>kit_is)
  (case Qnc=>kit_is)
  (case Qnj=>kit_is)
  (case QjO=>kit_is)
  (case Qoi=>kit_is)
  (case Qj0=>kit_is)
  (case Qnf=>kit_is)
  (case Qoe=>kit_is)
  (case Qj4=>kit_is)
  (case QnV=>kit_is)

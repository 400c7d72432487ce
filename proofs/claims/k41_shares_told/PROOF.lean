import PyProof.Rows.All
import Wide.All
import OpenK.AllK
import Wide.FinOn
import Lean
import PyProof.EqAt
import PyProof.EqKinds
import PyProof.TupleCall
import PyProof.ListRange
import PyProof.PureStr
import PyProof.MeetsStr3
import PyProof.Draws
import PySem.Challenge.RW_dockethall_k41_shares_told
namespace PySem.W.Fast
def tw6491999854569881729:=0
def tw18356273703425272132:=0
def tw11586778278190447355:=0
def tw8781188818709436877:=0
def tw12444214819173161454:=0
def tw14916872441290013673:=0
def tw11759919574791977207:=0
def tw1472959250540910840:=0
def tw15315678012866532972:=0
def tw16361458034286666477:=0
def tw7970215117892841146:=0
def tw11348299739946500359:=0
def tw2092111761588405889:=0
def tw3335928830708372549:=0
def tw1180819914391482568:=0
def tw15738868494768586280:=0
def tw17122920866427824438:=0
def tw10927059271694783119:=0
def tw9320425789523907259:=0
def tw3471910717354084262:=0
def tw14866496052644038881:=0
def tw8252838370821306956:=0
def tw8070784844144485948:=0
def tw5979186221390159422:=0
def tw13865414196403384624:=0
def tw8981845807537095744:=0
def tw210067121344804676:=0
def tw16625825299860532266:=0
def tw3822814016198005985:=0
def tw4622753053399214888:=0
def tw11929457467648395921:=0
def tw14209593292770189217:=0
def tw17187799299904633610:=0
def tw833802305443777839:=0
def tw6871793751651097483:=0
def tw8777663117403334617:=0
def tw11438889475490643984:=0
def tw1047652697579439736:=0
def tw9466014461762205486:=0
def tw13654314288837828956:=0
def tw15645619895894330684:=0
def tw3849281808088797790:=0
def tw8320980156462464028:=0
def tw14206867456336299161:=0
def tw2890326437490168314:=0
def tw844769932867388004:=0
def tw10718561943468218279:=0
def tw13010101457525318863:=0
def tw1337338607597408640:=0
def tw7697767488604922494:=0
def tw11434497486454270238:=0
def tw10722366592474576310:=0
def tw1628306324954106757:=0
def tw8034017968007253506:=0
def tw7829491970909565428:=0
def tw11635950741786025087:=0
def tw1416282755411170672:=0
def tw8646286009279835845:=0
def tw12480019544788532553:=0
def tw7655756334336558474:=0
def tw93535923127522462:=0
def tw1877479632498857961:=0
def tw2982169271420718925:=0
def tw14673844600145744835:=0
def tw10144070799301500679:=0
def tw13439574367212529612:=0
def tw8584016150889770057:=0
def tw14979892803608568918:=0
def tw16554500942831027079:=0
def tw2855548485025376625:=0
def tw16918285256848118024:=0
def tw930449338043279196:=0
def tw6764647950781243174:=0
def tw8657947779954803876:=0
def tw1739624541500596534:=0
def tw12201926875709065290:=0
def tw10349838985349126398:=0
def tw11821417469709831683:=0
def tw4639835031939142145:=0
def tw13760482939253457319:=0
def tw9141184775856068441:=0
def tw4807128559984384989:=0
def tw9563472065955287464:=0
def tw8128936966733940610:=0
def tw3657466451862332907:=0
def tw6237027415606433718:=0
def tw6440993707364046425:=0
def tw17099706321148064944:=0
def tw12296370077068909301:=0
def tw7381256833234441226:=0
def tw15205918928991035738:=0
def tw10725404488822571669:=0
def tw16104598434342787755:=0
def tw18081179978503180761:=0
def tw5219185637922922418:=0
def tw3305217215516204774:=0
def tw8834641173339291033:=0
def tw6964064033269740207:=0
def tw11518845461046612788:=0
def tw14117009998621167784:=0
def tw18098339950536303392:=0
end PySem.W.Fast
set_option hygiene false
set_option hygiene true
set_option Elab.async false
set_option linter.all false
set_option maxRecDepth 100000
theorem oi{a b:Prop}(h:a):a∨b:=Or.inl h
theorem dk{p:Prop}(h:p:=by decide +kernel):p:=h
namespace L2
open PySem PySem.Spec PyProof.Rows
abbrev Key:=Sum Int Str
def keyIs:Key->Value->Bool
 | .inl k,v=>Value.isInt k v
 | .inr x,v=>Value.isStrOf x v
def keyH(w:World):Key->Int
 | .inl k=>hashInt k
 | .inr x=>hashStr w x
theorem Qa4:∀{k:Key}{v:Value},keyIs k v=true->(∃ i t,k=Sum.inl i/\v=Value.int i t)∨(∃ x t,k=Sum.inr x/\v=Value.str x t)
 | .inl i,v,h=>by
  obtain⟨t,e⟩:=Value.isInt_shape (k:=i) (v:=v) h
  exact .inl ⟨i,t,rfl,e⟩
 | .inr x,v,h=>by
  obtain⟨t,e⟩:=Value.isStrOf_shape (x:=x) (v:=v) h
  exact .inr ⟨x,t,rfl,e⟩
theorem QDn(i:Int)(t:Tok):keyIs (.inl i) (.int i t)=true:=by simp[keyIs,Value.isInt]
theorem QDO(x:Str)(t:Tok):keyIs (.inr x) (.str x t)=true:=by simp[keyIs,Value.isStrOf]
theorem QHb(a b:Int):decide ((Sum.inl a:Key)=Sum.inl b)=(a == b):=by
 by_cases e:a=b
 ·subst e;simp
 ·have h:¬ (Sum.inl a:Key)=Sum.inl b:=fun q=>e (Sum.inl.inj q)
  rw[decide_eq_false h]
  exact(beq_eq_false_iff_ne.mpr e).symm
theorem QHZ(a b:Str):decide ((Sum.inr a:Key)=Sum.inr b)=decide (a=b):=by
 by_cases e:a=b
 ·subst e;simp
 ·have h:¬ (Sum.inr a:Key)=Sum.inr b:=fun q=>e (Sum.inr.inj q)
  rw[decide_eq_false h,decide_eq_false e]
theorem QHa(a:Int)(b:Str):decide ((Sum.inl a:Key)=Sum.inr b)=false:=decide_eq_false (fun q=>nomatch q)
theorem QHA(a:Str)(b:Int):decide ((Sum.inr a:Key)=Sum.inl b)=false:=decide_eq_false (fun q=>nomatch q)
def QaM(prog:Program)(w:World):PySem.KeyKind prog w Key where
 is:=keyIs
 hash:=keyH w
 inj:=fun v a b ha hb=>by
  rcases Qa4 ha with⟨i,t,rfl,rfl⟩ | ⟨x,t,rfl,rfl⟩
  ·rcases Qa4 hb with⟨j,u,rfl,e⟩ | ⟨y,u,rfl,e⟩
   ·injection e with e1 _;rw[e1]
   ·exact nomatch e
  ·rcases Qa4 hb with⟨j,u,rfl,e⟩ | ⟨y,u,rfl,e⟩
   ·exact nomatch e
   ·injection e with e1 _;rw[e1]
 byValue:=fun k v h=>by
  rcases Qa4 h with⟨i,t,rfl,rfl⟩ | ⟨x,t,rfl,rfl⟩<;>rfl
 pyHash:=fun hv h=>by
  rcases Qa4 hv with⟨i,t,rfl,rfl⟩ | ⟨x,t,rfl,rfl⟩
  ·exact wpAny_pyHash_int h
  ·exact wpAny_pyHash_str h
 eqBool:=fun hu hv h=>by
  rcases Qa4 hu with⟨i,t,rfl,rfl⟩ | ⟨x,t,rfl,rfl⟩
  ·rcases Qa4 hv with⟨j,u,rfl,rfl⟩ | ⟨y,u,rfl,rfl⟩
   ·rw[QHb]at h;exact wpAny_eqBool_int h
   ·rw[QHa]at h;exact SeqAt.EqAt.int_str i t y u _ _ _ _ h
  ·rcases Qa4 hv with⟨j,u,rfl,rfl⟩ | ⟨y,u,rfl,rfl⟩
   ·rw[QHA]at h;exact SeqAt.EqAt.str_int x t j u _ _ _ _ h
   ·rw[QHZ]at h;exact wpAny_eqBool_str h
 «strs»:=fun k x t v h=>by
  rcases Qa4 h with⟨i,u,rfl,e⟩ | ⟨y,u,rfl,e⟩
  ·exact nomatch e
  ·injection e with e1 _
   subst e1
   cases v<;>rfl
theorem Qx3(prog:Program)(w:World)(i:Int)(t:Tok):(QaM prog w).is (.inl i) (.int i t)=true:=QDn i t
theorem Qv8(prog:Program)(w:World)(x:Str)(t:Tok):(QaM prog w).is (.inr x) (.str x t)=true:=QDO x t
end L2
namespace L2
open PySem PySem.Spec PyProof.Rows
inductive V where
 | non | bl (b:Bool) | int (i:Int) | str (x:Str) | byt (b:Array UInt8) | flt (b:UInt64) | ref (a:Addr) | ty (n:String)
 deriving DecidableEq
def RelV:V->Value->Prop
 | .non,u=>u=Value.none
 | .bl b,u=>u=Value.bool b
 | .int i,u=>∃ t,u=Value.int i t
 | .str x,u=>∃ t,u=Value.str x t
 | .byt b,u=>∃ t,u=Value.bytes b t
 | .flt b,u=>∃ t,u=Value.float b t
 | .ref a,u=>u=Value.ref a
 | .ty n,u=>u=Value.type n
abbrev Vals:List V->List Value->Prop:=Paired RelV
theorem Vals.length{xs:List V}{us:List Value}(r:Vals xs us):xs.length=us.length:=Paired.length r
theorem Vals.get:∀{xs:List V}{us:List Value}{i:Nat}{x:V},Vals xs us->xs[i]?=some x->∃ u,us[i]?=some u/\RelV x u
 | _,_,_,_,.nil,e=>by simp at e
 | _,_,0,_,.cons r _,e=>by simp at e;subst e;exact⟨_,rfl,r⟩
 | _,_,i+1,x,.cons _ t,e=>by
  obtain⟨u,h1,h2⟩:=Vals.get (i:=i) (x:=x) t (by simpa using e)
  exact⟨u,by simpa using h1,h2⟩
theorem Vals.set{x:V}{u:Value}(r:RelV x u):∀{xs:List V}{us:List Value}(i:Nat),Vals xs us->Vals (xs.set i x) (us.set i u)
 | _,_,_,.nil=>.nil
 | _,_,0,.cons _ t=>.cons r t
 | _,_,i+1,.cons q t=>.cons q (Vals.set r i t)
theorem Vals.append:∀{xs ys:List V}{us ws:List Value},Vals xs us->Vals ys ws->Vals (xs++ys) (us++ws)
 | _,_,_,_,.nil,s=>s
 | _,_,_,_,.cons r t,s=>.cons r (Vals.append t s)
theorem Vals.take:∀{xs:List V}{us:List Value}(n:Nat),Vals xs us->Vals (xs.take n) (us.take n)
 | _,_,0,_=>.nil
 | _,_,_+1,.nil=>.nil
 | _,_,n+1,.cons r t=>.cons r (Vals.take n t)
theorem Vals.drop:∀{xs:List V}{us:List Value}(n:Nat),Vals xs us->Vals (xs.drop n) (us.drop n)
 | _,_,0,r=>r
 | _,_,_+1,.nil=>.nil
 | _,_,n+1,.cons _ t=>Vals.drop n t
def RelO:Option V->Option Value->Prop
 | some v,some u=>RelV v u
 | none,none=>True
 | _,_=>False
def KV{κ:Type}:List (κ×V)->List (κ×Value)->Prop:=Paired fun(p:κ×V) (q:κ×Value)=>p.1=q.1/\RelV p.2 q.2
def kV:Key->V
 | .inl i=>.int i
 | .inr x=>.str x
inductive HO where
 /-- a list -/
 | lst (xs:List V)
 /-- a tuple (never changes) -/
 | tup (xs:List V)
 /-- a dict whose keys are ints and texts;one whose keys are tuples of ints and texts (the empty one is both) -/
 | dK (kvs:List (Key×V)) | dT (kvs:List (List Key×V))
 /-- a set of ints: its members,its size -/
 | set (S:Int->Bool) (n:Nat)
 /-- an instance of the class at C,its dict at dx,its attributes -/
 | ins (C dx:Addr) (fs:List (Str×V))
 /-- the dict of the instance at x -/
 | own (x:Addr)
 /-- the dict of an exception -/
 | xd (fs:List (Str×V))
 /-- a bound method,f of x -/
 | met (f x:Addr)
 /-- a range object lo,lo+1, .. below hi -/
 | rng (lo hi:Int)
 /-- a thing that is known to the object (the script;a dict while a loop walks it): read,never written while it is so -/
 | frz (o:Obj) (u:HO)
 /-- a code object's table -/
 | tbl (ps:Array Value)
 /-- any other thing,by what is true of its one object (a def of one's own: SetO a S n:=HO.ext fun h => ..) -/
 | ext (φ : Heap->Prop)
abbrev Hp:=Addr->Option HO
def upd(H:Hp)(a:Addr)(o:HO):Hp:=fun b=>if b=a then some o else H b
theorem Qz{H:Hp}{a:Addr}{o:HO}:upd H a o a=some o:=by unfold upd;rw[if_pos rfl]
theorem Qh{H:Hp}{a b:Addr}{o:HO}(h:b≠a):upd H a o b=H b:=by unfold upd;rw[if_neg h]
theorem QFw{H:Hp}{a:Addr}{o u:HO}:upd (upd H a o) a u=upd H a u:=by
 funext b;unfold upd;split<;>rfl
theorem ne_of{H:Hp}{a b:Addr}{o u:HO}(h:H a=some o)(h':H b=some u)(d:o≠u):a≠b:=by
 intro e;subst e;rw[h]at h';exact d (Option.some.inj h')
theorem QJ{H:Hp}{a b:Addr}{o:HO}(h:H a=some o)(h':H b=none):a≠b:=by
 intro e;subst e;rw[h]at h';cases h'
section
variable(P:Program)(w:World)
def ObjOk(H:Hp)(h:Heap)(a:Addr):HO->Prop
 | .lst xs=>xs.length<=sizeLine/\∃(its:List Value)(n:Nat),Vals xs its/\h.get? a=some { cls:=.type "list",data:=.seq its.toArray n }
 | .tup xs=>xs.length<=sizeLine/\∃ its:List Value,Vals xs its/\IsTup h a its.toArray
 | .dK kvs=>kvs.length<=sizeLine/\(a == sysModules)=false/\∃ vs,KV kvs vs/\h.DictOf (QaM P w) a vs
 | .dT kvs=>kvs.length<=sizeLine/\(a == sysModules)=false/\∃ xs:List (List Key×Addr×Value),
  Paired (fun(p:List Key×V) (q:List Key×Addr×Value)=>p.1=q.1/\H q.2.1=some (.tup (p.1.map kV))/\RelV p.2 q.2.2) kvs xs/\
  ∃ o es ep,h.get? a=some o/\o.ExactDict/\o.data=.dict es ep/\es.toList=xs.map (entryOfKey (tupleKind (QaM P w)))/\(xs.map (·.1)).Nodup
 | .set S n=>h.SetOf (intKind P w) a S n
 | .ins C dx fs=>H dx=some (.own a)/\fs.length<=1000/\dx≠a/\h.get? a=some (W.instObj C dx)/\
  ∃ mA,h.Ns1 dx mA/\(∀ f,RelO (fs.lookup f) (mA f))/\PySem.Within mA (fs.map (·.1))
 | .own _=>∃ o,h.get? a=some o
 | .xd fs=>∃ mA,h.Ns1 a mA/\∀ f,RelO (fs.lookup f) (mA f)
 | .rng lo hi=>∃ t u v,h.get? a=some { cls:=.type "range",data:=.fields #[.int lo t,.int hi u,.int 1 v] }
 | .frz o u=>h.get? a=some o/\ObjOk H h a u
 | .tbl ps=>h.get? a=some { cls:=.none,data:=.fields ps }
 | .met f x=>h.get? a=some (W.methodObj (.ref f) (.ref x))
 | .ext φ => φ h/\(∃ o,h.get? a=some o)/\∀ h1 h2:Heap, φ h1->(∀ o,h1.get? a=some o->h2.get? a=some o) -> φ h2
def HOk(H:Hp)(h:Heap):Prop:=∀ a o,H a=some o->ObjOk P w H h a o
end
section
variable{P:Program}{w:World}{H H':Hp}{h h':Heap}{a:Addr}{o:HO}
theorem ObjOk.lt(x:ObjOk P w H h a o):a<h.objs.size:=by
 cases o with
 | lst xs=>obtain⟨_,_,_,_,e⟩:=x;exact Heap.lt_size e
 | tup xs=>obtain⟨_,_,_,p⟩:=x;exact p.lt
 | dK kvs=>obtain⟨_,_,_,_,o,_,_,e,_⟩:=x;exact Heap.lt_size e
 | dT kvs=>obtain⟨_,_,_,_,o,_,_,e,_⟩:=x;exact Heap.lt_size e
 | set S n=>obtain⟨o,_,_,_,e,_⟩:=x;exact Heap.lt_size e
 | ins C dx fs=>obtain⟨_,_,_,e,_⟩:=x;exact Heap.lt_size e
 | own y=>obtain⟨_,e⟩:=x;exact Heap.lt_size e
 | xd fs=>obtain⟨_,⟨_,_,_,e,_⟩,_⟩:=x;exact Heap.lt_size e
 | rng lo hi=>obtain⟨_,_,_,e⟩:=x;exact Heap.lt_size e
 | frz ob u=>obtain⟨e,_⟩:=x;exact Heap.lt_size e
 | tbl ps=>exact Heap.lt_size (show h.get? a=some _ from x)
 | met f y=>exact Heap.lt_size (show h.get? a=some _ from x)
 | ext φ => obtain⟨_,⟨_,e⟩,_⟩:=x;exact Heap.lt_size e
theorem Paired.mapP{α β:Type}{F G:α->β->Prop}:∀{l₁:List α}{l₂ : List β},Paired F l₁ l₂ -> (∀ a b,F a b->G a b)->Paired G l₁ l₂
 | _,_,.nil,_=>.nil
 | _,_,.cons r t,f=>.cons (f _ _ r) (Paired.mapP t f)
theorem ObjOk.stay(x:ObjOk P w H h a o)(k:∀ b u,(b=a∨H b=some (.own a))->h.get? b=some u->h'.get? b=some u)
 (ho:∀ b,H b=some (.own a)->H' b=some (.own a)) (ht:∀ b xs,H b=some (.tup xs)->H' b=some (.tup xs)):ObjOk P w H' h' a o:=by
 induction o with
 | lst xs=>obtain⟨z,its,n,r,e⟩:=x;exact⟨z,its,n,r,k _ _ (.inl rfl) e⟩
 | tup xs=>obtain⟨z,its,r,ob,e,c⟩:=x;exact⟨z,its,r,ob,k _ _ (.inl rfl) e,c⟩
 | dK kvs=>obtain⟨z,y,vs,r,ob,es,ep,e,c⟩:=x;exact⟨z,y,vs,r,ob,es,ep,k _ _ (.inl rfl) e,c⟩
 | dT kvs=>
  obtain⟨z,y,xs,r,ob,es,ep,e,c⟩:=x
  exact⟨z,y,xs,Paired.mapP r fun p q z=>⟨z.1,ht _ _ z.2.1,z.2.2⟩,ob,es,ep,k _ _ (.inl rfl) e,c⟩
 | set S n=>obtain⟨ob,es,ep,t,e,c⟩:=x;exact⟨ob,es,ep,t,k _ _ (.inl rfl) e,c⟩
 | ins C dx fs=>
  obtain⟨d,z,ne,e,mA,⟨od,es,ep,e2,c⟩,r⟩:=x
  exact⟨ho _ d,z,ne,k _ _ (.inl rfl) e,mA,⟨od,es,ep,k _ _ (.inr d) e2,c⟩,r⟩
 | own y=>obtain⟨ob,e⟩:=x;exact⟨ob,k _ _ (.inl rfl) e⟩
 | xd fs=>obtain⟨mA,⟨od,es,ep,e,c⟩,r⟩:=x;exact⟨mA,⟨od,es,ep,k _ _ (.inl rfl) e,c⟩,r⟩
 | rng lo hi=>obtain⟨t,u,v,e⟩:=x;exact⟨t,u,v,k _ _ (.inl rfl) e⟩
 | frz ob u ih=>obtain⟨e,q⟩:=x;exact⟨k _ _ (.inl rfl) e,ih q⟩
 | tbl ps=>
  have e:h.get? a=some { cls:=.none,data:=.fields ps }:=x
  show h'.get? a=some { cls:=.none,data:=.fields ps }
  exact k a _ (.inl rfl) e
 | met f y=>
  have e:h.get? a=some (W.methodObj (.ref f) (.ref y)):=x
  show h'.get? a=some (W.methodObj (.ref f) (.ref y))
  exact k a _ (.inl rfl) e
 | ext φ => obtain⟨p,⟨o,e⟩,st⟩:=x;exact⟨st _ _ p fun o q=>k _ _ (.inl rfl) q,⟨o,k _ _ (.inl rfl) e⟩,st⟩
theorem HOk.lt(x:HOk P w H h)(e:H a=some o):a<h.objs.size:=(x a o e).lt
theorem HOk.fresh(x:HOk P w H h)(e:h.objs.size<=a):H a=none:=by
 cases q:H a with
 | none=>rfl
 | some u=>exact absurd (Nat.lt_of_lt_of_le (x.lt q) e) (Nat.lt_irrefl _)
theorem HOk.kept(x:HOk P w H h)(k:∀ b u,h.get? b=some u->h'.get? b=some u):HOk P w H h':=fun a o e=>
 (x a o e).stay (fun b u _ q=>k b u q) (fun _ q=>q) fun _ _ q=>q
theorem HOk.laid(x:HOk P w H h)(k:∀ b u,h.get? b=some u->h'.get? b=some u)(hp:h.objs.size<=a)(new:ObjOk P w (upd H a o) h' a o):HOk P w (upd H a o) h':=fun b u e=>by
 have hn:=x.fresh hp
 by_cases hb:b=a
 ·subst hb;rw[Qz]at e;cases e;exact new
 ·rw[Qh hb]at e
  exact(x b u e).stay (fun c v _ q=>k c v q) (fun c q=>by rw[Qh (QJ q hn)];exact q) fun c xs q=>by rw[Qh (QJ q hn)];exact q
end
def Rd(H:Hp)(a:Addr)(u:HO):Prop:=H a=some u∨∃ o,H a=some (.frz o u)
theorem Rd.of{H:Hp}{a:Addr}{u:HO}(h:H a=some u):Rd H a u:=.inl h
theorem Rd.ok{P:Program}{w:World}{H:Hp}{h:Heap}{a:Addr}{u:HO}(r:Rd H a u)(x:HOk P w H h):ObjOk P w H h a u:=by
 rcases r with r | ⟨o,r⟩
 ·exact x a u r
 ·obtain⟨_,q⟩:=x a _ r
  exact q
def Mut:Option HO->Prop
 | some (.lst _)=>True
 | some (.dK _)=>True
 | some (.dT _)=>True
 | some (.set _ _)=>True
 | some (.ins _ _ _)=>True
 | some (.ext _)=>True
 | _=>False
section
variable{P:Program}{w:World}{H:Hp}{h h':Heap}{x e:Addr}{o':HO}
theorem HOk.write(ok:HOk P w H h)(mu:Mut (H x))(he:e=x∨H e=some (.own x))(k:∀ b u,b≠e->h.get? b=some u->h'.get? b=some u)(heo:∃ u,h'.get? e=some u)
 (new:ObjOk P w (upd H x o') h' x o'):HOk P w (upd H x o') h':=fun b u q=>by
 have nown:∀ c y,H c=some (.own y)->c≠x:=fun c y r z=>by subst z;rw[r]at mu;exact mu
 have ntup:∀ c xs,H c=some (.tup xs)->c≠x:=fun c xs r z=>by subst z;rw[r]at mu;exact mu
 by_cases hb:b=x
 ·subst hb;rw[Qz]at q;cases q;exact new
 ·rw[Qh hb]at q
  by_cases hbe:b=e
  ·have q':H b=some (.own x):=by
    rcases he with z | z
    ·exact absurd (hbe.trans z) hb
    ·rw[hbe];exact z
   rw[q]at q';cases q'
   obtain⟨v,hv⟩:=heo
   exact⟨v,by rw[hbe];exact hv⟩
  ·refine(ok b u q).stay (fun c v hc r=>k c v ?_ r) (fun c r=>by rw[Qh (nown c b r)];exact r) fun c xs r=>by rw[Qh (ntup c xs r)];exact r
   rcases hc with rfl | hc
   ·exact hbe
   ·rintro rfl
    rcases he with z | z
    ·exact nown c b hc z
    ·rw[hc]at z;cases z;exact hb rfl
end
structure Un(fs ex:List Addr)(H H':Hp)(h h':Heap):Prop where
 keep:∀ b o,h.get? b=some o->H b=none->b∉fs->b∉ex->h'.get? b=some o
 slot:∀ b o,h.get? b=some o->H b=none->b∈fs->b∉ex->∃ sl,h'.get? b=some { o with slots:=sl }
 free:∀ b o,h.get? b=some o->H b=none->b∉ex->H' b=none
 there:∀ b o,h.get? b=some o->b∉ex->∃ o',h'.get? b=some o'
 tups:∀ b xs,H b=some (.tup xs)->H' b=some (.tup xs)
 frzs:∀ b o u,H b=some (.frz o u)->H' b=some (.frz o u)
 tbls:∀ b ps,H b=some (.tbl ps)->∃ more,H' b=some (.tbl (ps++more))
section
variable{fs fs' ex ex':List Addr}{H H1 H2:Hp}{h h1 h2 h':Heap}{a x e:Addr}{o:HO}
theorem Un.any(u:Un fs ex H H1 h h1){b:Addr}{ob:Obj}(q:h.get? b=some ob)(n:H b=none)(hx:b∉ex):∃ sl,h1.get? b=some { ob with slots:=sl }:=by
 by_cases hb:b∈fs
 ·exact u.slot b ob q n hb hx
 ·exact⟨ob.slots,u.keep b ob q n hb hx⟩
theorem Un.trans(a:Un fs ex H H1 h h1)(b:Un fs ex H1 H2 h1 h2):Un fs ex H H2 h h2 where
 keep:=fun c ob q n hc hx=>b.keep c ob (a.keep c ob q n hc hx) (a.free c ob q n hx) hc hx
 slot:=fun c ob q n hc hx=>by
  obtain⟨sl,e1⟩:=a.slot c ob q n hc hx
  obtain⟨sl',e2⟩:=b.slot c _ e1 (a.free c ob q n hx) hc hx
  exact⟨sl',e2⟩
 free:=fun c ob q n hx=>by
  obtain⟨o',e1⟩:=a.there c ob q hx
  exact b.free c o' e1 (a.free c ob q n hx) hx
 there:=fun c ob q hx=>by
  obtain⟨o',e1⟩:=a.there c ob q hx
  exact b.there c o' e1 hx
 tups:=fun c xs q=>b.tups c xs (a.tups c xs q)
 frzs:=fun c ob xs q=>b.frzs c ob xs (a.frzs c ob xs q)
 tbls:=fun c ps q=>by
  obtain⟨m1,e1⟩:=a.tbls c ps q
  obtain⟨m2,e2⟩:=b.tbls c _ e1
  exact⟨m1++m2,by rw[e2,Array.append_assoc]⟩
theorem Un.kept(k:∀ b u,h.get? b=some u->h'.get? b=some u):Un fs ex H H h h':=
 ⟨fun b ob q _ _ _=>k b ob q,fun b ob q _ _ _=>⟨ob.slots,k b ob q⟩,fun _ _ _ n _=>n,fun b ob q _=>⟨ob,k b ob q⟩,fun _ _ q=>q,fun _ _ _ q=>q,fun _ ps q=>⟨#[],by rw[q];simp⟩⟩
theorem Un.refl:Un fs ex H H h h:=Un.kept fun _ _ q=>q
theorem Un.laid(k:∀ b u,h.get? b=some u->h'.get? b=some u)(hp:h.objs.size<=a)(hn:H a=none):Un fs ex H (upd H a o) h h' where
 keep:=fun b u q _ _ _=>k b u q
 slot:=fun b u q _ _ _=>⟨u.slots,k b u q⟩
 free:=fun b u q n _=>by rw[Qh (Nat.ne_of_lt (Nat.lt_of_lt_of_le (Heap.lt_size q) hp))];exact n
 there:=fun b u q _=>⟨u,k b u q⟩
 tups:=fun b xs q=>by rw[Qh (QJ q hn)];exact q
 frzs:=fun b u xs q=>by rw[Qh (QJ q hn)];exact q
 tbls:=fun b ps q=>⟨#[],by rw[Qh (QJ q hn),q];simp⟩
theorem Un.write(mu:Mut (H x))(he:e=x∨H e=some (.own x))(k:∀ b u,b≠e->h.get? b=some u->h'.get? b=some u)(heo:∃ u,h'.get? e=some u):Un fs ex H (upd H x o) h h':=by
 have hx:∀ b,H b=none->b≠x:=fun b n z=>by subst z;rw[n]at mu;exact mu
 have hb:∀ b,H b=none->b≠e:=fun b n z=>by
  subst z
  rcases he with r | r
  ·exact hx b n r
  ·rw[n]at r;cases r
 have hm:∀ b u,H b=some u->¬ Mut (some u)->b≠x:=fun b u q nm z=>by subst z;rw[q]at mu;exact nm mu
 refine⟨fun b u q n _ _=>k b u (hb b n) q,fun b u q n _ _=>⟨u.slots,k b u (hb b n) q⟩,fun b u q n _=>by rw[Qh (hx b n)];exact n,fun b u q _=>?_,
  fun b xs q=>by rw[Qh (hm b _ q fun z=>z)];exact q,fun b u xs q=>by rw[Qh (hm b _ q fun z=>z)];exact q,fun b ps q=>⟨#[],by rw[Qh (hm b _ q fun z=>z),q];simp⟩⟩
 by_cases hbe:b=e
 ·subst hbe;exact heo
 ·exact⟨u,k b u hbe q⟩
theorem Un.mono(u:Un fs ex H H1 h h1)(hs:∀ b∈fs,b∈fs')(hx:∀ b∈ex,b∈ex'):Un fs' ex' H H1 h h1:=
 ⟨fun b ob q n hb he=>u.keep b ob q n (fun z=>hb (hs b z)) fun z=>he (hx b z),fun _ _ q n _ he=>u.any q n fun z=>he (hx _ z),fun b ob q n he=>u.free b ob q n fun z=>he (hx b z),fun b ob q he=>u.there b ob q fun z=>he (hx b z),u.tups,u.frzs,u.tbls⟩
end
def trk(h:Heap)(H:Hp):List Addr:=(List.range h.objs.size).filter fun a=>(H a).isSome
def hidT(h:Heap)(H:Hp):Heap:=W.hideAll h (trk h H)
theorem QCI(h:Heap)(H:Hp):(hidT h H).objs.size=h.objs.size:=W.hideAll_size _ _
theorem QEo{h:Heap}{H:Hp}{b:Addr}{o:Obj}(e:h.get? b=some o)(n:H b=none):(hidT h H).get? b=some o:=
 W.hideAll_get _ e fun hm=>by
  have q:(H b).isSome=true:=(List.mem_filter.mp hm).2
  rw[n]at q;simp at q
theorem QGh{h:Heap}{H:Hp}{b:Addr}{o:Obj}(e:(hidT h H).get? b=some o):h.get? b=some o/\H b=none:=by
 have e':h.get? b=some o:=W.of_hideAll (trk h H) e
 refine⟨e',?_⟩
 cases q:H b with
 | none=>rfl
 | some x=>
  have hm:b∈trk h H:=List.mem_filter.mpr ⟨List.mem_range.mpr (Heap.lt_size e'),by simp[q]⟩
  have z:(hidT h H).get? b=none:=W.hideAll_none (trk h H) hm
  rw[z]at e;cases e
def QFF(g h:Heap)(L:Addr):List (Addr×Obj):=(List.range h.objs.size).filterMap fun a=>if a=L∨(g.get? a).isSome=true then none else(h.get? a).map fun o=>(a,o)
def rest(g h:Heap)(L d:Addr):List (Addr×Obj):=(QFF g h L).filter fun p=>decide (p.1≠d)
end L2
namespace L2
open PySem PySem.Spec PyProof.Rows
structure Mod(K:W.Frag)(mg:Str->Option Value)(base:Heap):Prop where
 kin:K.In base
 glob:base.Ns mainGlobals mg
 blt:∃ mb,base.Ns builtinsNs mb/\∀ x:Str,x≠"__name__"->mb x=bootBuiltins x
 nolimit:base.NoLimit
structure Cx where
 prog:Program
 w:World
 K:W.Frag
 mg:Str->Option Value
 base:Heap
 A:Around
 N:List Str
 s₀:Shared
 H₀:Hp
 env:Env
 outer:List Env
 stack:List Env
 ex:List Addr
 fn:Str->Bool
 calm:Bool
 pn:List (Addr×Obj)
 xe:Value->Shared->Prop
def frs(l:List Env):List Addr:=l.filterMap (·.frame)
abbrev Cx.fs(X:Cx):List Addr:=frs X.outer
def Vis(sc:Scope)(x:Str):Prop:=sc.names.lookup x=some .local∨sc.names.lookup x=some .cell∨sc.names.lookup x=some .free
def Loc(sc:Scope)(x:Str):Prop:=sc.names.lookup x=some .local∨sc.names.lookup x=some .cell
def Look(env:Env)(h:Heap)(m:Str->Option Value)(x:Str)(u:Value):Prop:=
 (env.kindOf x=some .local/\m x=some u)∨((env.kindOf x=some .cell∨env.kindOf x=some .free)/\∃ c,env.cells.lookup x=some c/\h.IsCell c (some u))
structure Cx.Ok(X:Cx):Prop where
 mod:Mod X.K X.mg X.base
 kind:X.env.scope.kind=.function
 glob:X.env.globals=mainGlobals
 blt:X.env.builtins=builtinsNs
 above:X.s₀.heap.objs.size<=X.env.locals
 inj:∀ x y c,X.env.cells.lookup x=some c->X.env.cells.lookup y=some c->x=y
 has:∀ x,(X.env.kindOf x=some .cell∨X.env.kindOf x=some .free)->∃ c,X.env.cells.lookup x=some c
 cab:∀ x c,X.fn x=true->X.env.cells.lookup x=some c->X.s₀.heap.objs.size<=c
 hd:X.calm=true->X.A.handled=none
 frames:X.A.frames=some X.stack
 stk:X.stack=X.outer∨(X.stack=X.env::X.outer/\X.env.frame=some X.env.locals)
 exf:∀ b∈X.ex,b≠X.env.locals/\∀ x c,X.env.cells.lookup x=some c->c≠b
 bs:∀ b o,X.base.get? b=some o->X.s₀.heap.get? b=some o/\X.H₀ b=none
 bsz:X.base.objs.size<=X.s₀.heap.objs.size
 noex:∀ b o,X.base.get? b=some o->b∉X.ex
 exfs:∀ b∈X.ex,b∉X.fs
 funs:X.s₀.heap.FunFrames X.base X.outer
 frf:∀ b∈X.fs,X.H₀ b=none
structure Inv(X:Cx)(pins:List (Addr×Obj))(σ:List (Option V))(H:Hp)(s:Shared):Prop where
 ok:X.Ok
 os:s.os=X.s₀.os
 bare:AllBare s.gens
 base:Un X.fs X.ex X.H₀ H X.s₀.heap s.heap
 loc:∃ m,s.heap.Ns X.env.locals m/\∀(i:Nat)(x:Str)(v:V),X.N[i]?=some x->σ[i]?=some (some v)->Vis X.env.scope x->∃ u,RelV v u/\Look X.env s.heap m x u
 cell:∀ x c,X.env.cells.lookup x=some c->∃ v,s.heap.IsCell c v
 free:H X.env.locals=none
 freeC:∀ x c,X.env.cells.lookup x=some c->H c=none
 pin:∀ p∈X.pn++pins,s.heap.get? p.1=some p.2/\H p.1=none/\p.1≠X.env.locals/\p.1∉X.fs/\∀ v,p.2.data≠.cell v
 hok:HOk X.prog X.w H s.heap
 len:σ.length=X.N.length
section
variable{X:Cx}{pins:List (Addr×Obj)}{σ:List (Option V)}{H H':Hp}{s:Shared}{h':Heap}
theorem Cx.Ok.nofr(ok:X.Ok){b:Addr}{o:Obj}(e:X.base.get? b=some o):b∉X.fs:=fun hb=>by
 have:=(ok.funs.mem hb).1
 rw[e]at this;cases this
theorem Inv.bs(I:Inv X pins σ H s):∀ b o,X.base.get? b=some o->s.heap.get? b=some o/\H b=none:=fun b o e=>
 ⟨I.base.keep b o (I.ok.bs b o e).1 (I.ok.bs b o e).2 (I.ok.nofr e) (I.ok.noex b o e),I.base.free b o (I.ok.bs b o e).1 (I.ok.bs b o e).2 (I.ok.noex b o e)⟩
theorem Inv.bk(I:Inv X pins σ H s):∀ b o,X.base.get? b=some o->s.heap.get? b=some o:=fun b o e=>(I.bs b o e).1
theorem Inv.mod(I:Inv X pins σ H s):Mod X.K X.mg X.base:=I.ok.mod
theorem Inv.kIn(I:Inv X pins σ H s):X.K.In s.heap:=I.ok.mod.kin.keeps I.bk
theorem Inv.fr(I:Inv X pins σ H s):∃ m,Fr X.base X.env.locals s.heap m:=
 let ⟨m,hn,_⟩:=I.loc
 ⟨m,hn,I.bk,Nat.le_trans I.ok.bsz I.ok.above⟩
theorem Inv.lt(I:Inv X pins σ H s):X.env.locals<s.heap.objs.size:=let ⟨_,hn,_⟩:=I.loc;hn.lt
theorem Inv.sz(I:Inv X pins σ H s):X.s₀.heap.objs.size<=s.heap.objs.size:=Nat.le_trans I.ok.above (Nat.le_of_lt I.lt)
theorem Inv.nofs(I:Inv X pins σ H s){a:Addr}(h:s.heap.objs.size<=a):a∉X.fs:=fun hb=>by
 obtain⟨_,o,ho,_⟩:=I.ok.funs.mem hb
 exact absurd (Nat.lt_of_lt_of_le (Heap.lt_size ho) (Nat.le_trans I.sz h)) (Nat.lt_irrefl _)
theorem Inv.cne(I:Inv X pins σ H s):∀ x c,X.env.cells.lookup x=some c->c≠X.env.locals:=fun x c e z=>by
 obtain⟨v,o,ho,hd⟩:=I.cell x c e
 obtain⟨m,⟨o',es,ep,ho',hd',_⟩,_⟩:=I.loc
 rw[z,ho']at ho;cases ho;rw[hd']at hd;cases hd
theorem Inv.funs(I:Inv X pins σ H s):s.heap.FunFrames X.base X.outer:=by
 have all:∀(l:List Env),(∀ b∈frs l,b∈X.fs)->X.s₀.heap.FunFrames X.base l->s.heap.FunFrames X.base l:=by
  intro l
  induction l with
  | nil=>intro _ _;trivial
  | cons env r ih=>
   intro hs hl
   obtain⟨hk,⟨L,o,hf,hn,ho,hd⟩,hr⟩:=hl
   have hL:L∈X.fs:=hs L (by unfold frs;rw[List.filterMap_cons,hf];exact List.mem_cons_self)
   obtain⟨sl,e⟩:=I.base.slot L o ho (I.ok.frf L hL) hL fun z=>I.ok.exfs L z hL
   exact⟨hk,⟨L,_,hf,hn,e,hd⟩,ih (fun b hb=>hs b (by unfold frs;rw[List.filterMap_cons,hf];exact List.mem_cons_of_mem _ hb)) hr⟩
 exact all X.outer (fun _ hb=>hb) I.ok.funs
theorem Inv.stack(I:Inv X pins σ H s):s.heap.FunFrames X.base X.stack:=by
 rcases I.ok.stk with e | ⟨e,hf⟩
 ·rw[e];exact I.funs
 ·rw[e]
  obtain⟨m,hn,_⟩:=I.loc
  refine .cons (by rw[I.ok.kind];decide) hf hn ?_ I.funs
  exact Heap.get?_none_of_le (Nat.le_trans I.ok.bsz I.ok.above)
theorem Inv.stkSub(I:Inv X pins σ H s):∀ b∈frs X.stack,b∈X.env.locals::X.fs:=fun b hb=>by
 rcases I.ok.stk with e | ⟨e,hf⟩
 ·rw[e]at hb;exact List.mem_cons_of_mem _ hb
 ·rw[e]at hb
  unfold frs at hb
  rw[List.filterMap_cons,hf]at hb
  exact hb
theorem Inv.stkFree(I:Inv X pins σ H s):∀ b∈frs X.stack,H b=none:=fun b hb=>by
 rcases List.mem_cons.mp (I.stkSub b hb) with e | hb
 ·rw[e];exact I.free
 ·obtain⟨_,o,ho,_⟩:=I.ok.funs.mem hb
  exact I.base.free b o ho (I.ok.frf b hb) fun z=>I.ok.exfs b z hb
theorem Inv.step{g':Array GenState}{t':Nat}{d':Drawn}{ch:List Addr}(I:Inv X pins σ H s)
 (hch:∀ b∈ch,(b∈X.ex∨X.s₀.heap.objs.size<=b)/\b≠X.env.locals/\(∀ x c,X.env.cells.lookup x=some c->c≠b)/\∀ p∈X.pn++pins,p.1≠b)
 (keep:∀ b o,b≠X.env.locals->b∉X.fs->b∉ch->s.heap.get? b=some o->H b=none->h'.get? b=some o)
 (slot:∀ b o,b≠X.env.locals->b∈X.fs->b∉ch->s.heap.get? b=some o->H b=none->∃ sl,h'.get? b=some { o with slots:=sl }) (free:∀ b o,b∉ch->s.heap.get? b=some o->H b=none->H' b=none)
 (there:∀ b o,b∉ch->s.heap.get? b=some o->∃ o',h'.get? b=some o')
 (tups:∀ b xs,H b=some (.tup xs)->H' b=some (.tup xs)) (frzs:∀ b o u,H b=some (.frz o u)->H' b=some (.frz o u)) (tbls:∀ b ps,H b=some (.tbl ps)->∃ more,H' b=some (.tbl (ps++more)))
 (ns:∀ m,s.heap.Ns X.env.locals m->h'.Ns X.env.locals m) (hok:HOk X.prog X.w H' h') (hg:AllBare g'):
 Inv X pins σ H' { s with heap:=h',gens:=g',drawn:=d',toks:=t' }:=by
 have neL:∀ b o,X.s₀.heap.get? b=some o->b≠X.env.locals:=fun b o e=>Nat.ne_of_lt (Nat.lt_of_lt_of_le (Heap.lt_size e) I.ok.above)
 have neC:∀ b o,X.s₀.heap.get? b=some o->b∉X.ex->b∉ch:=fun b o e hx hb=>by
  rcases(hch b hb).1 with z | z
  ·exact hx z
  ·exact absurd (Nat.lt_of_lt_of_le (Heap.lt_size e) z) (Nat.lt_irrefl _)
 have cellK:∀ x c,X.env.cells.lookup x=some c->∀ v,s.heap.IsCell c v->h'.IsCell c v:=fun x c e v ⟨o,ho,hd⟩=>by
  have nch:c∉ch:=fun z=>(hch c z).2.2.1 x c e rfl
  by_cases hc:c∈X.fs
  ·obtain⟨sl,q⟩:=slot c o (I.cne x c e) hc nch ho (I.freeC x c e)
   exact⟨_,q,hd⟩
  ·exact⟨o,keep c o (I.cne x c e) hc nch ho (I.freeC x c e),hd⟩
 refine⟨I.ok,I.os,hg,⟨fun b o e n hb hx=>?_,fun b o e n hb hx=>?_,fun b o e n hx=>?_,fun b o e hx=>?_,fun b xs e=>tups b xs (I.base.tups b xs e),fun b o xs e=>frzs b o xs (I.base.frzs b o xs e),fun b ps e=>?_⟩,?_,fun x c e=>?_,?_,fun x c e=>?_,fun p hp=>?_,hok,I.len⟩
 ·exact keep b o (neL b o e) hb (neC b o e hx) (I.base.keep b o e n hb hx) (I.base.free b o e n hx)
 ·obtain⟨sl,e1⟩:=I.base.slot b o e n hb hx
  obtain⟨sl',e2⟩:=slot b _ (neL b o e) hb (neC b o e hx) e1 (I.base.free b o e n hx)
  exact⟨sl',e2⟩
 ·obtain⟨o',e1⟩:=I.base.there b o e hx
  exact free b o' (neC b o e hx) e1 (I.base.free b o e n hx)
 ·obtain⟨o',e1⟩:=I.base.there b o e hx
  exact there b o' (neC b o e hx) e1
 ·obtain⟨m1,e1⟩:=I.base.tbls b ps e
  obtain⟨m2,e2⟩:=tbls b _ e1
  exact⟨m1++m2,by rw[e2,Array.append_assoc]⟩
 ·obtain⟨m,hn,hl⟩:=I.loc
  refine⟨m,ns m hn,fun i x v e1 e2 e3=>?_⟩
  obtain⟨u,r,l⟩:=hl i x v e1 e2 e3
  refine⟨u,r,?_⟩
  rcases l with l | ⟨k,c,e,z⟩
  ·exact .inl l
  ·exact .inr ⟨k,c,e,cellK x c e _ z⟩
 ·obtain⟨v,z⟩:=I.cell x c e
  exact⟨v,cellK x c e v z⟩
 ·obtain⟨m,⟨o,_,_,ho,_⟩,_⟩:=I.loc
  exact free _ o (fun z=>(hch _ z).2.1 rfl) ho I.free
 ·obtain⟨v,o,ho,hd⟩:=I.cell x c e
  exact free c o (fun z=>(hch c z).2.2.1 x c e rfl) ho (I.freeC x c e)
 ·obtain⟨e,n,ne,nf,d⟩:=I.pin p hp
  have nch:p.1∉ch:=fun z=>(hch p.1 z).2.2.2 p hp rfl
  exact⟨keep p.1 p.2 ne nf nch e n,free p.1 p.2 nch e n,ne,nf,d⟩
theorem Inv.un{t':Nat}(I:Inv X pins σ H s)(u:Un X.fs [] H H' s.heap h')(hok:HOk X.prog X.w H' h'):Inv X pins σ H' { s with heap:=h',toks:=t' }:=by
 obtain⟨m,⟨o,es,ep,ho,r⟩,_⟩:=id I.loc
 obtain⟨sl,hL⟩:=u.any ho I.free (by simp)
 exact I.step (g':=s.gens) (d':=s.drawn) (ch:=[]) (fun _ z=>nomatch z) (fun b o _ hb _ e n=>u.keep b o e n hb (by simp)) (fun b o _ hb _ e n=>u.slot b o e n hb (by simp)) (fun b o _ e n=>u.free b o e n (by simp)) (fun b o _ e=>u.there b o e (by simp)) u.tups u.frzs u.tbls (fun m' hm=>by
  obtain⟨o',es',ep',ho',r'⟩:=hm
  rw[ho]at ho';cases ho'
  exact⟨_,es',ep',hL,r'⟩) hok I.bare
theorem Inv.call{g':Array GenState}{t':Nat}{d':Drawn}{ch:List Addr}(I:Inv X pins σ H s)(u:Un (frs X.stack) ch H H' s.heap h')(hok:HOk X.prog X.w H' h')(hg:AllBare g')
 (hch:∀ b∈ch,(b∈X.ex∨X.s₀.heap.objs.size<=b)/\b≠X.env.locals/\(∀ x c,X.env.cells.lookup x=some c->c≠b)/\∀ p∈X.pn++pins,p.1≠b):
 Inv X pins σ H' { s with heap:=h',gens:=g',drawn:=d',toks:=t' }:=by
 obtain⟨m,⟨o,es,ep,ho,r⟩,_⟩:=id I.loc
 obtain⟨sl,hL⟩:=u.any ho I.free fun z=>(hch _ z).2.1 rfl
 exact I.step (ch:=ch) hch (fun b o hL hb hc e n=>u.keep b o e n (fun z=>(List.mem_cons.mp (I.stkSub b z)).elim hL hb) hc) (fun b o _ _ hc e n=>u.any e n hc) (fun b o hc e n=>u.free b o e n hc) (fun b o hc e=>u.there b o e hc) u.tups u.frzs u.tbls (fun m' hm=>by
  obtain⟨o',es',ep',ho',r'⟩:=hm
  rw[ho]at ho';cases ho'
  exact⟨_,es',ep',hL,r'⟩) hok hg
theorem Inv.turned{t':Nat}{it:Addr}(I:Inv X pins σ H s)(k:∀ b o,b≠it->s.heap.get? b=some o->h'.get? b=some o)(hn:H it=none)(hL:it≠X.env.locals)
 (h1:it∈X.ex∨X.s₀.heap.objs.size<=it) (h2:∀ x c,X.env.cells.lookup x=some c->c≠it) (h3:∀ p∈X.pn++pins,p.1≠it):Inv X pins σ H { s with heap:=h',toks:=t' }:=by
 have nit:∀ b u,H b=some u->b≠it:=fun b u e z=>by rw[z,hn]at e;cases e
 refine I.step (g':=s.gens) (d':=s.drawn) (ch:=[it]) (fun b hb=>?_) (fun b o _ _ hc e _=>k b o (fun z=>hc (by simp[z])) e) (fun b o _ _ hc e _=>⟨o.slots,k b o (fun z=>hc (by simp[z])) e⟩) (fun _ _ _ _ n=>n)
  (fun b o hc e=>⟨o,k b o (fun z=>hc (by simp[z])) e⟩) (fun _ _ e=>e) (fun _ _ _ e=>e) (fun b ps e=>⟨#[],by rw[e];simp⟩) (fun m hm=>?_) (fun b u e=>?_) I.bare
 ·have e:b=it:=by simpa using hb
  subst e
  exact⟨h1,hL,h2,h3⟩
 ·obtain⟨o,es,ep,ho,r⟩:=hm
  exact⟨o,es,ep,k _ o (Ne.symm hL) ho,r⟩
 ·refine(I.hok b u e).stay (fun c v hc q=>k c v ?_ q) (fun _ q=>q) fun _ _ q=>q
  rcases hc with z | z
  ·rw[z];exact nit b u e
  ·exact nit c _ z
theorem Inv.tok(I:Inv X pins σ H s)(t:Nat):Inv X pins σ H { s with toks:=t }:=I.un (h':=s.heap) (t':=t) Un.refl I.hok
theorem Inv.kept{t':Nat}(I:Inv X pins σ H s)(k:∀ b u,s.heap.get? b=some u->h'.get? b=some u):Inv X pins σ H { s with heap:=h',toks:=t' }:=I.un (Un.kept k) (I.hok.kept k)
theorem Inv.laid{a:Addr}{o:HO}{t':Nat}(I:Inv X pins σ H s)(k:∀ b u,s.heap.get? b=some u->h'.get? b=some u)(hp:s.heap.objs.size<=a)(new:ObjOk X.prog X.w (upd H a o) h' a o):
 Inv X pins σ (upd H a o) { s with heap:=h',toks:=t' }:=I.un (Un.laid k hp (I.hok.fresh hp)) (I.hok.laid k hp new)
theorem Inv.write{x e:Addr}{o:HO}{t':Nat}(I:Inv X pins σ H s)(mu:Mut (H x))(he:e=x∨H e=some (.own x))(k:∀ b u,b≠e->s.heap.get? b=some u->h'.get? b=some u)(heo:∃ u,h'.get? e=some u)
 (new:ObjOk X.prog X.w (upd H x o) h' x o):Inv X pins σ (upd H x o) { s with heap:=h',toks:=t' }:=I.un (Un.write mu he k heo) (I.hok.write mu he k heo new)
theorem Inv.pins_of{pins':List (Addr×Obj)}(I:Inv X pins σ H s)(h:∀ p∈pins',s.heap.get? p.1=some p.2/\H p.1=none/\p.1≠X.env.locals/\p.1∉X.fs/\∀ v,p.2.data≠.cell v):Inv X pins' σ H s:=
 ⟨I.ok,I.os,I.bare,I.base,I.loc,I.cell,I.free,I.freeC,fun p hp=>(List.mem_append.mp hp).elim (fun z=>I.pin p (List.mem_append_left _ z)) (h p),I.hok,I.len⟩
theorem QsH{N:List Str}(hN:N.Nodup){i j:Nat}{x:Str}(a:N[i]?=some x)(b:N[j]?=some x):i=j:=by
 obtain⟨h1,e1⟩:=List.getElem?_eq_some_iff.mp a
 obtain⟨h2,e2⟩:=List.getElem?_eq_some_iff.mp b
 exact(List.getElem_inj hN).mp (e1.trans e2.symm)
theorem QpD{M:Model}{A:Around}{E:Value->Shared->Prop}{i:Nat}{x:Str}{v:V}{u:Value}{Q:Unit->Shared->Prop}(I:Inv X pins σ H s)(hN:X.N.Nodup)(hi:X.N[i]?=some x)(hx:Loc X.env.scope x)(r:RelV v u)
 (h:∀ s',Inv X pins (σ.set i (some v)) H s'->(∃ a,Heap.SameBut a s.heap s'.heap/\(a=X.env.locals∨X.env.cells.lookup x=some a))->Q () s') (hf:X.fn x=true∨X.env.scope.names.lookup x=some .local:=by first | exact .inl rfl | exact .inr rfl | assumption):wpAny M A (storeName X.env x u) Q E s:=by
 obtain⟨m,hn,hl⟩:=id I.loc
 have hcls:(X.env.scope.kind == .class||(X.env.scope.kind == .module&&X.env.locals != X.env.globals))=false:=by rw[I.ok.kind];rfl
 have hiσ:i<σ.length:=by rw[I.len];exact(List.getElem?_eq_some_iff.mp hi).1
 have cne:=I.cne
 have tracked:∀{a:Addr}{h':Heap},(∃ o,s.heap.get? a=some o/\H a=none)->Heap.SameBut a s.heap h'->HOk X.prog X.w H h':=fun {a h'} ha hs b ob e=>by
  obtain⟨_,_,hfree⟩:=ha
  refine(I.hok b ob e).stay (fun c w' hc q=>(hs.2 c ?_).trans q) (fun _ q=>q) fun _ _ q=>q
  rintro rfl
  rcases hc with rfl | hc
  ·rw[hfree]at e;cases e
  ·rw[hfree]at hc;cases hc
 rcases hx with hk | hk
 ·refine wpAny_storeName_local hk hn (fun h' hn' hs=>?_) hcls
  obtain⟨oL,_,_,hoL,_⟩:=id hn
  refine h _ ⟨I.ok,I.os,I.bare,⟨fun b o e n hb hx=>?_,fun b o e n hb hx=>?_,I.base.free,fun b o e hx=>?_,I.base.tups,I.base.frzs,I.base.tbls⟩,⟨_,hn',fun j y v' e1 e2 e3=>?_⟩,fun y c e=>?_,I.free,I.freeC,fun p hp=>?_,tracked ⟨oL,hoL,I.free⟩ hs,by simpa using I.len⟩ ⟨_,hs,.inl rfl⟩
  ·exact(hs.2 b (Nat.ne_of_lt (Nat.lt_of_lt_of_le (Heap.lt_size e) I.ok.above))).trans (I.base.keep b o e n hb hx)
  ·obtain⟨sl,e1⟩:=I.base.slot b o e n hb hx
   exact⟨sl,(hs.2 b (Nat.ne_of_lt (Nat.lt_of_lt_of_le (Heap.lt_size e) I.ok.above))).trans e1⟩
  ·obtain⟨o',e1⟩:=I.base.there b o e hx
   exact⟨o',(hs.2 b (Nat.ne_of_lt (Nat.lt_of_lt_of_le (Heap.lt_size e) I.ok.above))).trans e1⟩
  ·by_cases hj:j=i
   ·subst hj
    rw[hi]at e1;cases e1
    rw[List.getElem?_set_self hiσ]at e2
    cases e2
    exact⟨u,r,.inl ⟨hk,by simp⟩⟩
   ·rw[List.getElem?_set_ne (Ne.symm hj)]at e2
    obtain⟨u',r',q⟩:=hl j y v' e1 e2 e3
    refine⟨u',r',?_⟩
    rcases q with⟨k,e⟩ | ⟨k,c,e,z⟩
    ·refine .inl ⟨k,?_⟩
     have:y≠x:=fun e=>hj (QsH hN e1 (e ▸ hi))
     simp[this,e]
    ·exact .inr ⟨k,c,e,z.sameBut hs (cne y c e)⟩
  ·obtain⟨w',z⟩:=I.cell y c e
   exact⟨w',z.sameBut hs (cne y c e)⟩
  ·obtain⟨e,n,ne,nf,d⟩:=I.pin p hp
   exact⟨(hs.2 p.1 ne).trans e,n,ne,nf,d⟩
 ·have hfn:X.fn x=true:=by
   rcases hf with z | z
   ·exact z
   ·rw[z]at hk;cases hk
  obtain⟨c,hc⟩:=I.ok.has x (.inl hk)
  obtain⟨w',z⟩:=I.cell x c hc
  refine wpAny_storeName_cell I.ok.kind hk hc z (fun h' hc' hs=>?_)
  obtain⟨oc,hoc,hocd⟩:=id z
  refine h { s with heap:=h' } ⟨I.ok,I.os,I.bare,⟨fun b o e n hb hx=>?_,fun b o e n hb hx=>?_,I.base.free,fun b o e hx=>?_,I.base.tups,I.base.frzs,I.base.tbls⟩,⟨m,hn.sameBut hs (Ne.symm (cne x c hc)),fun j y v' e1 e2 e3=>?_⟩,fun y c' e=>?_,I.free,I.freeC,fun p hp=>?_,tracked ⟨oc,hoc,I.freeC x c hc⟩ hs,by simpa using I.len⟩ ⟨c,hs,.inr hc⟩
  ·exact(hs.2 b (Nat.ne_of_lt (Nat.lt_of_lt_of_le (Heap.lt_size e) (I.ok.cab x c hfn hc)))).trans (I.base.keep b o e n hb hx)
  ·obtain⟨sl,e1⟩:=I.base.slot b o e n hb hx
   exact⟨sl,(hs.2 b (Nat.ne_of_lt (Nat.lt_of_lt_of_le (Heap.lt_size e) (I.ok.cab x c hfn hc)))).trans e1⟩
  ·obtain⟨o',e1⟩:=I.base.there b o e hx
   exact⟨o',(hs.2 b (Nat.ne_of_lt (Nat.lt_of_lt_of_le (Heap.lt_size e) (I.ok.cab x c hfn hc)))).trans e1⟩
  ·by_cases hj:j=i
   ·subst hj
    rw[hi]at e1;cases e1
    rw[List.getElem?_set_self hiσ]at e2
    cases e2
    exact⟨u,r,.inr ⟨.inl hk,c,hc,hc'⟩⟩
   ·rw[List.getElem?_set_ne (Ne.symm hj)]at e2
    obtain⟨u',r',q⟩:=hl j y v' e1 e2 e3
    refine⟨u',r',?_⟩
    rcases q with q | ⟨k,c',e,z'⟩
    ·exact .inl q
    ·refine .inr ⟨k,c',e,z'.sameBut hs ?_⟩
     rintro rfl
     exact hj (QsH hN e1 (I.ok.inj _ _ _ e hc ▸ hi))
  ·by_cases hcc:c'=c
   ·subst hcc;exact⟨_,hc'⟩
   ·obtain⟨w2,z2⟩:=I.cell y c' e
    exact⟨w2,z2.sameBut hs hcc⟩
  ·obtain⟨e,n,ne,nf,d⟩:=I.pin p hp
   refine⟨(hs.2 p.1 ?_).trans e,n,ne,nf,d⟩
   intro q
   rw[q,hoc]at e
   have q':oc=p.2:=Option.some.inj e
   exact d w' (by rw[← q'];exact hocd)
theorem Qhm{M:Model}{A:Around}{E:Value->Shared->Prop}{i:Nat}{x:Str}{v:V}{u:Value}{Q:Unit->Shared->Prop}(I:Inv X pins σ H s)(hN:X.N.Nodup)(hi:X.N[i]?=some x)(hx:Loc X.env.scope x)(r:RelV v u)
 (h:∀ s',Inv X pins (σ.set i (some v)) H s'->Q () s') (hf:X.fn x=true∨X.env.scope.names.lookup x=some .local:=by first | exact .inl rfl | exact .inr rfl | assumption):wpAny M A (storeName X.env x u) Q E s:=
 QpD I hN hi hx r (fun s' I' _=>h s' I') hf
theorem Inv.call'{s':Shared}{ch:List Addr}(I:Inv X pins σ H s)(ho:s'.os=s.os)(u:Un (frs X.stack) ch H H' s.heap s'.heap)(hok:HOk X.prog X.w H' s'.heap)(hg:AllBare s'.gens)
 (hch:∀ b∈ch,(b∈X.ex∨X.s₀.heap.objs.size<=b)/\b≠X.env.locals/\(∀ x c,X.env.cells.lookup x=some c->c≠b)/\∀ p∈X.pn++pins,p.1≠b):Inv X pins σ H' s':=by
 obtain⟨h',g',d',t',o'⟩:=s'
 have e:o'=s.os:=ho
 subst e
 exact I.call (g':=g') (t':=t') (d':=d') u hok hg hch
end
abbrev XK:=Value->Option Addr->Hp->Prop
abbrev St:=List (Option V)
abbrev VK:=V->Hp->Prop
abbrev TE:=St->Hp->VK->Prop
abbrev TT:=St->Hp->(Bool->Hp->Prop)->Prop
abbrev TA:=St->Hp->(List V->Hp->Prop)->Prop
structure Ends where
 nx:St->Hp->Prop
 rt:VK
 bk:St->Hp->Prop:=fun _ _=>False
 ct:St->Hp->Prop:=fun _ _=>False
abbrev TS:=Ends->St->Hp->Prop
def EP(X:Cx)(pins:List (Addr×Obj))(σ:St)(Q:VK)(u:Value)(s':Shared):Prop:=∃ v H',Inv X pins σ H' s'/\RelV v u/\Q v H'
def TP(X:Cx)(pins:List (Addr×Obj))(σ:St)(Q:Bool->Hp->Prop)(b:Bool)(s':Shared):Prop:=∃ H',Inv X pins σ H' s'/\Q b H'
def AP(X:Cx)(pins:List (Addr×Obj))(σ:St)(Q:List V->Hp->Prop)(us:List Value)(s':Shared):Prop:=∃ vs H',Inv X pins σ H' s'/\Vals vs us/\Q vs H'
def SP(X:Cx)(pins:List (Addr×Obj))(D:Ends)(f:Flow)(s':Shared):Prop:=
 match f with
 | .next=>∃ σ' H',Inv X pins σ' H' s'/\D.nx σ' H'
 | .brk=>∃ σ' H',Inv X pins σ' H' s'/\D.bk σ' H'
 | .cont=>∃ σ' H',Inv X pins σ' H' s'/\D.ct σ' H'
 | .ret u=>∃ v σ' H',Inv X pins σ' H' s'/\RelV v u/\D.rt v H'
def PE(X:Cx)(e:Expr)(t:TE):Prop:=
 ∀(pins:List (Addr×Obj))(s:Shared)(σ:St)(H:Hp)(Q:VK),Inv X pins σ H s->t σ H Q->wpAny (model X.prog X.w) X.A (eval e X.env) (EP X pins σ Q) X.xe s
def PT(X:Cx)(e:Expr)(t:TT):Prop:=
 ∀(pins:List (Addr×Obj))(s:Shared)(σ:St)(H:Hp)(Q:Bool->Hp->Prop),Inv X pins σ H s->t σ H Q->wpAny (model X.prog X.w) X.A (isTrue e X.env (eval e X.env)) (TP X pins σ Q) X.xe s
def PW(X:Cx)(e:Expr)(t:TT):Prop:=
 ∀(whole:Sem Value)(pins:List (Addr×Obj))(s:Shared)(σ:St)(H:Hp)(Q:Bool->Hp->Prop),Inv X pins σ H s->t σ H Q->wpAny (model X.prog X.w) X.A (isTrue e X.env whole) (TP X pins σ Q) X.xe s
theorem PW.pt{X:Cx}{e:Expr}{t:TT}(h:PW X e t):PT X e t:=h _
def PA(X:Cx)(es:List Expr)(t:TA):Prop:=
 ∀(pos:Pos)(pins:List (Addr×Obj))(s:Shared)(σ:St)(H:Hp)(Q:List V->Hp->Prop),Inv X pins σ H s->t σ H Q->wpAny (model X.prog X.w) X.A (spliced (backTo pos (starEach es X.env))) (AP X pins σ Q) X.xe s
def PS(X:Cx)(st:Stmt)(t:TS):Prop:=
 ∀(pins:List (Addr×Obj))(s:Shared)(σ:St)(H:Hp)(D:Ends),Inv X pins σ H s->t D σ H->wpAny (model X.prog X.w) X.A (exec st X.env) (SP X pins D) X.xe s
def PSs(X:Cx)(st:List Stmt)(t:TS):Prop:=
 ∀(pins:List (Addr×Obj))(s:Shared)(σ:St)(H:Hp)(D:Ends),Inv X pins σ H s->t D σ H->wpAny (model X.prog X.w) X.A (execs st X.env) (SP X pins D) X.xe s
theorem thn{α:Type}{t:Sem α}{Q Q':α->Shared->Prop}{M:Model}{A:Around}{E:Value->Shared->Prop}{s:Shared}(h:wpAny M A t Q E s)(hQ:∀ a s,Q a s->Q' a s):wpAny M A t Q' E s:=wpAny_mono h hQ fun _ _ x=>x
end L2
namespace L2
open PySem PySem.Spec PyProof.Rows
section
variable{X:Cx}
def tVar(i:Nat):TE:=fun σ H Q=>∃ v,σ[i]?=some (some v)/\Q v H
def tC(v:V):TE:=fun _ H Q=>Q v H
theorem QbM{i:Nat}{x:Str}{pos:Pos}(hN:X.N[i]?=some x)(hv:Vis X.env.scope x)(hd:(x == ("__debug__":Str))=false:=by decide)(hcd:(x == ("__classdict__":Str))=false:=by decide):PE X (.Name x pos) (tVar i):=by
 intro pins s σ H Q I h
 obtain⟨v,e,h⟩:=h
 obtain⟨m,hn,hl⟩:=I.loc
 obtain⟨u,r,l⟩:=hl i x v hN e hv
 have fin:EP X pins σ Q u s:=⟨v,H,I,r,h⟩
 rcases l with⟨hk,hm⟩ | ⟨hk,c,hc,hcell⟩
 ·exact wpAny_Name (wpAny_loadName_local I.ok.kind hk hn hm fin) hd
 ·rcases hk with hk | hk
  ·exact wpAny_Name (wpAny_loadName_cell I.ok.kind hk hc hcell fin) hd
  ·exact wpAny_Name (wpAny_loadName_free I.ok.kind hk hc hcell fin hcd) hd
theorem Qsp{i j pos}:PE X (.Constant (.int i) j pos) (tC (.int i)):=fun _ _ _ H _ I h=>wpAny_Constant_int ⟨.int i,H,I.tok _,⟨_,rfl⟩,h⟩
theorem pe_bl{b j pos}:PE X (.Constant (.bool b) j pos) (tC (.bl b)):=fun _ _ _ H _ I h=>Constant_bool ⟨.bl b,H,I,rfl,h⟩
theorem QHm{j pos}:PE X (.Constant .none j pos) (tC .non):=fun _ _ _ H _ I h=>Constant_none ⟨.non,H,I,rfl,h⟩
theorem QGM{x j pos}:PE X (.Constant (.str x) j pos) (tC (.str x)):=fun _ _ _ H _ I h=>Calls.Constant_str ⟨.str x,H,I.tok _,⟨_,rfl⟩,h⟩
def Gl(X:Cx)(x:Str):Prop:=X.env.kindOf x=some .globalImplicit
theorem QnM{E:Value->Shared->Prop}{pins:List (Addr×Obj)}{s:Shared}{σ:St}{H:Hp}{x:Str}{u:Value}{pos:Pos}{Q:Value->Shared->Prop}(I:Inv X pins σ H s)(hg:Gl X x)(hm:X.mg x=some u)(h:Q u s)
 (hd:(x == ("__debug__":Str))=false:=by decide):wpAny (model X.prog X.w) X.A (eval (.Name x pos) X.env) Q E s:=
 Calls.Name_function_global I.ok.kind hg (Calls.loadGlobal_global (by rw[I.ok.glob];exact I.mod.glob.keeps I.bk) hm h) hd
theorem QdC{E:Value->Shared->Prop}{pins:List (Addr×Obj)}{s:Shared}{σ:St}{H:Hp}{x:Str}{u:Value}{pos:Pos}{Q:Value->Shared->Prop}(I:Inv X pins σ H s)(hg:Gl X x)(hm:X.mg x=none)(hv:bootBuiltins x=some u)(h:Q u s)
 (hn:x≠"__name__":=by decide) (hd:(x == ("__debug__":Str))=false:=by decide):wpAny (model X.prog X.w) X.A (eval (.Name x pos) X.env) Q E s:=by
 obtain⟨mb,h1,h2⟩:=I.mod.blt
 exact Calls.Name_function_global I.ok.kind hg (Calls.loadGlobal_builtin (by rw[I.ok.glob];exact I.mod.glob.keeps I.bk) hm (by rw[I.ok.blt];exact h1.keeps I.bk) ((h2 x hn).trans hv) h) hd
theorem QgO{x:Str}{v:V}{u:Value}{pos:Pos}(hg:Gl X x)(hm:X.mg x=some u)(r:RelV v u)(hd:(x == ("__debug__":Str))=false:=by decide):PE X (.Name x pos) (tC v):=
 fun _ _ _ H _ I h=>QnM I hg hm ⟨v,H,I,r,h⟩ hd
theorem QFe{x:Str}{v:V}{u:Value}{pos:Pos}(hg:Gl X x)(hm:X.mg x=none)(hv:bootBuiltins x=some u)(r:RelV v u)(hn:x≠"__name__":=by decide)(hd:(x == ("__debug__":Str))=false:=by decide):PE X (.Name x pos) (tC v):=
 fun _ _ _ H _ I h=>QdC I hg hm hv ⟨v,H,I,r,h⟩ hn hd
variable{a b:Expr}{ta tb:TE}{pos:Pos}
def tB(t:TE):TT:=fun σ H Q=>t σ H fun x H1=>∃ c,x=.bl c/\Q c H1
theorem QHR{e:Expr}{t:TE}(h:PE X e t)(he:∀ whole,isTrue e X.env whole=(do let v ← whole;standAt e.pos;holding [v] (truthy v)):=by intro _;rfl):PT X e (tB t):=by
 intro pins s σ H Q I hw
 refine isTrue_plain (thn (h pins s σ H _ I hw) fun v s1 ⟨x,H1,I1,r1,q1⟩=>?_) (he _)
 obtain⟨d,rfl,q⟩:=q1
 cases r1
 exact wpAny_truthy_bool ⟨H1,I1,q⟩
variable{tA tB':TT}{rest:List Expr}
def tAnd(t u:TT):TT:=fun σ H Q=>t σ H fun c H1=>if c=true then u σ H1 Q else Q false H1
def tOr(t u:TT):TT:=fun σ H Q=>t σ H fun c H1=>if c=true then Q true H1 else u σ H1 Q
def tNot(t:TT):TT:=fun σ H Q=>t σ H fun c H1=>Q (!c) H1
theorem QFG(ha:PT X a tA):PW X (.BoolOp .And [a] pos) tA:=by
 intro wh pins s σ H Q I h
 refine isTrue_and (thn (ha pins s σ H Q I h) fun c s1 e=>?_)
 cases c with
 | true=>exact isTrue_and_nil e
 | false=>exact e
theorem QGL(ha:PT X a tA):PW X (.BoolOp .Or [a] pos) tA:=by
 intro wh pins s σ H Q I h
 refine isTrue_or (thn (ha pins s σ H Q I h) fun c s1 e=>?_)
 cases c with
 | false=>exact isTrue_or_nil e
 | true=>exact e
theorem QGQ(ha:PT X a tA)(hb:PW X (.BoolOp .And (b::rest) pos) tB'):PW X (.BoolOp .And (a::b::rest) pos) (tAnd tA tB'):=by
 intro wh pins s σ H Q I h
 refine isTrue_and (thn (ha pins s σ H _ I h) fun c s1 ⟨H1,I1,q1⟩=>?_)
 cases c with
 | true=>exact hb wh pins s1 σ H1 Q I1 q1
 | false=>exact⟨H1,I1,q1⟩
theorem pw_or(ha:PT X a tA)(hb:PW X (.BoolOp .Or (b::rest) pos) tB'):PW X (.BoolOp .Or (a::b::rest) pos) (tOr tA tB'):=by
 intro wh pins s σ H Q I h
 refine isTrue_or (thn (ha pins s σ H _ I h) fun c s1 ⟨H1,I1,q1⟩=>?_)
 cases c with
 | true=>exact⟨H1,I1,q1⟩
 | false=>exact hb wh pins s1 σ H1 Q I1 q1
theorem QGV(ha:PT X a tA):PT X (.UnaryOp .Not a pos) (tNot tA):=by
 intro pins s σ H Q I h
 exact isTrue_not (ha pins s σ H (fun c H1=>Q (!c) H1) I h)
def tAndV(ta tb:TE):TE:=fun σ H Q=>ta σ H fun x H1=>∃ c,x=.bl c/\if c=true then tb σ H1 Q else Q (.bl false) H1
def tNotV(ta:TE):TE:=fun σ H Q=>ta σ H fun x H1=>∃ c,x=.bl c/\Q (.bl (!c)) H1
theorem QGJ{op}{t:TE}(h:PE X a t):PE X (.BoolOp op [a] pos) t:=fun pins s σ H Q I hw=>BoolOp_one (h pins s σ H Q I hw)
theorem QG4(ha:PE X a ta)(hb:PE X (.BoolOp .And (b::rest) pos) tb):PE X (.BoolOp .And (a::b::rest) pos) (tAndV ta tb):=by
 intro pins s σ H Q I h
 refine BoolOp_and (thn (ha pins s σ H _ I h) fun v s1 ⟨x,H1,I1,r1,q1⟩=>?_)
 obtain⟨c,rfl,q1⟩:=q1
 cases r1
 refine wpAny_truthy_bool ?_
 cases c with
 | true=>exact hb pins s1 σ H1 Q I1 q1
 | false=>exact⟨.bl false,H1,I1,rfl,q1⟩
theorem QG8(ha:PE X a ta):PE X (.UnaryOp .Not a pos) (tNotV ta):=by
 intro pins s σ H Q I h
 refine UnaryOp_ (thn (ha pins s σ H _ I h) fun v s1 ⟨x,H1,I1,r1,q1⟩=>?_)
 obtain⟨c,rfl,q1⟩:=q1
 cases r1
 exact not_of (wpAny_truthy_bool ⟨.bl (!c),H1,I1,rfl,q1⟩)
def tIf(t:TT)(ta tb:TE):TE:=fun σ H Q=>t σ H fun c H1=>if c=true then ta σ H1 Q else tb σ H1 Q
theorem QEZ{c:Expr}(hc:PT X c tA)(ha:PE X a ta)(hb:PE X b tb):PE X (.IfExp c a b pos) (tIf tA ta tb):=by
 intro pins s σ H Q I h
 refine wpAny_IfExp (thn (hc pins s σ H _ I h) fun d s1 ⟨H1,I1,q1⟩=>?_)
 cases d with
 | true=>exact ha pins s1 σ H1 Q I1 q1
 | false=>exact hb pins s1 σ H1 Q I1 q1
end
end L2
namespace L2
open PySem PySem.Spec PyProof.Rows
def SqL(K:W.Frag)(H:Hp)(a:Addr)(xs:List V):Prop:=
 Rd H a (.lst xs)∨
  ∃(o:Obj)(its:Array Value)(n:Nat),K.lookup a=some o/\o.cls=.type "list"/\o.dict=none/\o.data=.seq its n/\its.size<=sizeLine/\Vals xs its.toList
def SqT(K:W.Frag)(H:Hp)(a:Addr)(xs:List V):Prop:=
 Rd H a (.tup xs)∨
  ∃(o:Obj)(its:Array Value)(n:Nat),K.lookup a=some o/\o.cls=.type "tuple"/\o.data=.seq its n/\its.size<=sizeLine/\Vals xs its.toList
def absV:Value->Option V
 | .none=>some .non
 | .bool b=>some (.bl b)
 | .int i _=>some (.int i)
 | .str x _=>some (.str x)
 | .bytes b _=>some (.byt b)
 | .float b _=>some (.flt b)
 | .ref a=>some (.ref a)
 | .type n=>some (.ty n)
 | _=>none
theorem RelV.abs{x:V}{u:Value}(r:RelV x u):absV u=some x:=by
 cases x with
 | non=>cases r;rfl
 | bl _=>cases r;rfl
 | int _=>obtain⟨t,rfl⟩:=r;rfl
 | str _=>obtain⟨t,rfl⟩:=r;rfl
 | byt _=>obtain⟨t,rfl⟩:=r;rfl
 | flt _=>obtain⟨t,rfl⟩:=r;rfl
 | ref _=>cases r;rfl
 | ty _=>cases r;rfl
theorem RelV.inj{x y:V}{u:Value}(r:RelV x u)(q:RelV y u):x=y:=Option.some.inj (r.abs.symm.trans q.abs)
theorem Vals.inj:∀{xs ys:List V}{us:List Value},Vals xs us->Vals ys us->xs=ys
 | _,_,_,.nil,.nil=>rfl
 | _,_,_,.cons r t,.cons r' t'=>by rw[r.inj r',Vals.inj t t']
section
variable{X:Cx}{pins:List (Addr×Obj)}{σ:St}{H:Hp}{s:Shared}{a:Addr}{xs ys:List V}
theorem SqL.of{K:W.Frag}(h:H a=some (.lst xs)):SqL K H a xs:=.inl (.inl h)
theorem SqT.of{K:W.Frag}(h:H a=some (.tup xs)):SqT K H a xs:=.inl (.inl h)
theorem Inv.list(I:Inv X pins σ H s)(h:SqL X.K H a xs):∃ its:List Value,Vals xs its/\PlainL s.heap a its.toArray/\xs.length<=sizeLine:=by
 rcases h with h | ⟨o,its,n,hk,hc,hd,hs,hz,r⟩
 ·obtain⟨z,its,n,r,e⟩:=h.ok I.hok
  exact⟨its,r,⟨_,n,e,rfl,rfl,rfl⟩,z⟩
 ·refine⟨its.toList,r,⟨o,n,I.kIn a o hk,hc,hd,by simpa using hs⟩,?_⟩
  have e:=r.length
  simp only[Array.length_toList]at e
  omega
theorem Inv.tuple(I:Inv X pins σ H s)(h:SqT X.K H a xs):∃ its:List Value,Vals xs its/\IsTup s.heap a its.toArray/\xs.length<=sizeLine:=by
 rcases h with h | ⟨o,its,n,hk,hc,hs,hz,r⟩
 ·obtain⟨z,its,r,p⟩:=h.ok I.hok
  exact⟨its,r,p,z⟩
 ·refine⟨its.toList,r,⟨o,I.kIn a o hk,hc,n,by simpa using hs⟩,?_⟩
  have e:=r.length
  simp only[Array.length_toList]at e
  omega
theorem Inv.list_inj(I:Inv X pins σ H s)(h:SqL X.K H a xs)(h':SqL X.K H a ys):xs=ys:=by
 obtain⟨its,r,⟨o,n,e,_,_,d⟩,_⟩:=I.list h
 obtain⟨its',r',⟨o',n',e',_,_,d'⟩,_⟩:=I.list h'
 rw[e]at e';cases e'
 rw[d]at d'
 injection d' with d1 _
 have:its=its':=by simpa using congrArg Array.toList d1
 subst this
 exact r.inj r'
end
abbrev Cx.wish(X:Cx)(E:Value->Shared->Prop):Cx:={ X with xe:=E }
abbrev Cx.nox(X:Cx):Cx:=X.wish fun _ _=>False
theorem Cx.Ok.wish{X:Cx}(ok:X.Ok)(E:Value->Shared->Prop):(X.wish E).Ok:=
 ⟨ok.mod,ok.kind,ok.glob,ok.blt,ok.above,ok.inj,ok.has,ok.cab,ok.hd,ok.frames,ok.stk,ok.exf,ok.bs,ok.bsz,ok.noex,ok.exfs,ok.funs,ok.frf⟩
theorem Cx.Ok.unwish{X:Cx}{E:Value->Shared->Prop}(ok:(X.wish E).Ok):X.Ok:=
 ⟨ok.mod,ok.kind,ok.glob,ok.blt,ok.above,ok.inj,ok.has,ok.cab,ok.hd,ok.frames,ok.stk,ok.exf,ok.bs,ok.bsz,ok.noex,ok.exfs,ok.funs,ok.frf⟩
section
variable{X:Cx}{pins:List (Addr×Obj)}{σ:St}{H:Hp}{s:Shared}{E:Value->Shared->Prop}
theorem Inv.wish(I:Inv X pins σ H s)(E:Value->Shared->Prop):Inv (X.wish E) pins σ H s:=⟨I.ok.wish E,I.os,I.bare,I.base,I.loc,I.cell,I.free,I.freeC,I.pin,I.hok,I.len⟩
theorem Inv.unwish(I:Inv (X.wish E) pins σ H s):Inv X pins σ H s:=⟨I.ok.unwish,I.os,I.bare,I.base,I.loc,I.cell,I.free,I.freeC,I.pin,I.hok,I.len⟩
theorem SP.unwish{D:Ends}{f:Flow}{s':Shared}(h:SP (X.wish E) pins D f s'):SP X pins D f s':=by
 cases f with
 | next=>obtain⟨σ',H',I,q⟩:=h;exact⟨σ',H',I.unwish,q⟩
 | brk=>obtain⟨σ',H',I,q⟩:=h;exact⟨σ',H',I.unwish,q⟩
 | cont=>obtain⟨σ',H',I,q⟩:=h;exact⟨σ',H',I.unwish,q⟩
 | ret u=>obtain⟨v,σ',H',I,r,q⟩:=h;exact⟨v,σ',H',I.unwish,r,q⟩
theorem PE.nox{e:Expr}{t:TE}(h:PE X.nox e t):PE X e t:=fun pins s σ H Q I hw=>
 wpAny_mono (h pins s σ H Q (I.wish _) hw) (fun _ _ ⟨v,H',I',r,q⟩=>⟨v,H',I'.unwish,r,q⟩) fun _ _ z=>False.elim z
theorem PT.nox{e:Expr}{t:TT}(h:PT X.nox e t):PT X e t:=fun pins s σ H Q I hw=>
 wpAny_mono (h pins s σ H Q (I.wish _) hw) (fun _ _ ⟨H',I',q⟩=>⟨H',I'.unwish,q⟩) fun _ _ z=>False.elim z
theorem PSs.nox{st:List Stmt}{t:TS}(h:PSs X.nox st t):PSs X st t:=fun pins s σ H D I hw=>
 wpAny_mono (h pins s σ H D (I.wish _) hw) (fun _ _ q=>q.unwish) fun _ _ z=>False.elim z
end
section
variable{X:Cx}{st:Stmt}{rest:List Stmt}{t u:TS}{e:Expr}{te:TE}{pos:Pos}
def tNext:TS:=fun D σ H=>D.nx σ H
def tSeq(t u:TS):TS:=fun D σ H=>t { D with nx:=u D } σ H
theorem Qzf:PSs X [] tNext:=fun _ _ σ H _ I h=>wpAny_execs_nil ⟨σ,H,I,h⟩
theorem QdY(h1:PS X st t)(h2:PSs X rest u):PSs X (st::rest) (tSeq t u):=by
 intro pins s σ H D I h
 refine wpAny_execs_cons (thn (h1 pins s σ H { D with nx:=u D } I h) fun f s1 q=>?_)
 cases f with
 | next=>
  obtain⟨σ',H',I',q⟩:=q
  exact h2 pins s1 σ' H' D I' q
 | ret v=>exact q
 | brk=>exact q
 | cont=>exact q
theorem QnZ(h1:PS X st t):PSs X [st] t:=by
 intro pins s σ H D I h
 refine wpAny_execs_cons (thn (h1 pins s σ H D I h) fun f s1 q=>?_)
 cases f with
 | next=>exact wpAny_execs_nil q
 | ret v=>exact q
 | brk=>exact q
 | cont=>exact q
theorem Inv.quiet{pins:List (Addr×Obj)}{σ:St}{H:Hp}{s:Shared}(I:Inv X pins σ H s):interactive X.env=false:=by simp[interactive,I.ok.kind]
def tDrop(te:TE):TS:=fun D σ H=>te σ H fun _ H1=>D.nx σ H1
theorem QjU(he:PE X e te)(hs:swapsWith e none pos.line X.env=pure false:=by rfl):PS X (.Expr e pos) (tDrop te):=by
 intro pins s σ H D I h
 exact wpAny_Expr_any (thn (he pins s σ H _ I h) fun v s1 ⟨x,H1,I1,r1,q1⟩=>⟨σ,H1,I1,q1⟩) I.quiet hs
def tRet(te:TE):TS:=fun D σ H=>te σ H D.rt
theorem QmN(he:PE X e te):PS X (.Return (some e) pos) (tRet te):=by
 intro pins s σ H D I h
 exact wpAny_Return_some (thn (he pins s σ H _ I h) fun v s1 ⟨x,H1,I1,r1,q1⟩=>⟨x,σ,H1,I1,r1,q1⟩)
def tIfS(c:TT)(t u:TS):TS:=fun D σ H=>c σ H fun b H1=>if b=true then t D σ H1 else u D σ H1
theorem ps_if{c:Expr}{a b:List Stmt}{tc:TT}(hc:PT X c tc)(ha:PSs X a t)(hb:PSs X b u):PS X (.If c a b pos) (tIfS tc t u):=by
 intro pins s σ H D I h
 refine wpAny_If (thn (hc pins s σ H _ I h) fun d s1 ⟨H1,I1,q1⟩=>?_)
 cases d with
 | true=>exact ha pins s1 σ H1 D I1 q1
 | false=>exact hb pins s1 σ H1 D I1 q1
def QGZ:TS:=fun _ _ _=>False
theorem QEa:PS X st QGZ:=fun _ _ _ _ _ _ h=>h.elim
end
abbrev TG:=V->St->Hp->(St->Hp->Prop)->Prop
abbrev TGs:=List V->St->Hp->(St->Hp->Prop)->Prop
def PG(X:Cx)(target:Expr)(t:TG):Prop:=
 ∀(pins:List (Addr×Obj))(s:Shared)(σ:St)(H:Hp)(v:V)(u:Value)(Q:St->Hp->Prop),Inv X pins σ H s->RelV v u->t v σ H Q->
  wpAny (model X.prog X.w) X.A (assign target X.env u) (fun _ s'=>∃ σ' H',Inv X pins σ' H' s'/\Q σ' H') X.xe s
def PGs(X:Cx)(ts:List Expr)(t:TGs):Prop:=
 ∀(pins:List (Addr×Obj))(s:Shared)(σ:St)(H:Hp)(vs:List V)(us:List Value)(Q:St->Hp->Prop),Inv X pins σ H s->Vals vs us->t vs σ H Q->
  wpAny (model X.prog X.w) X.A (assignInOrder ((assignEach ts X.env).map (·.2)) us) (fun _ s'=>∃ σ' H',Inv X pins σ' H' s'/\Q σ' H') X.xe s
abbrev TSet:=V->V->V->Hp->(Hp->Prop)->Prop
def PSet(X:Cx)(t:TSet):Prop:=
 ∀(pins:List (Addr×Obj))(s:Shared)(σ:St)(H:Hp)(o i v:V)(ov iv u:Value)(Q:Hp->Prop),Inv X pins σ H s->RelV o ov->RelV i iv->RelV v u->t o i v H Q->
  wpAny (model X.prog X.w) X.A (setItem ov iv u) (fun _ s'=>∃ H',Inv X pins σ H' s'/\Q H') X.xe s
section
variable{X:Cx}{pos:Pos}
def gName(i:Nat):TG:=fun v σ H Q=>Q (σ.set i (some v)) H
theorem Qn5{i:Nat}{x:Str}(hN:X.N.Nodup)(hi:X.N[i]?=some x)(hx:Loc X.env.scope x)(hf:X.fn x=true∨X.env.scope.names.lookup x=some .local:=by first | exact .inl rfl | exact .inr rfl | assumption):PG X (.Name x pos) (gName i):=by
 intro pins s σ H v u Q I r h
 exact wpAny_assign_Name (Qhm I hN hi hx r (fun s' I'=>⟨_,H,I',h⟩) hf)
def gNil:TGs:=fun vs σ H Q=>vs=[]/\Q σ H
def gCons(t:TG)(u:TGs):TGs:=fun vs σ H Q=>∃ v r,vs=v::r/\t v σ H fun σ' H'=>u r σ' H' Q
theorem QFh:PGs X [] gNil:=by
 intro pins s σ H vs us Q I r h
 obtain⟨e,h⟩:=h
 subst e
 cases r
 exact assignInOrder_nil ⟨σ,H,I,h⟩
theorem QD5{e:Expr}{es:List Expr}{t:TG}{u:TGs}(h1:PG X e t)(h2:PGs X es u)
 (hs:(assignEach (e::es) X.env).map (·.2)=assign e X.env::(assignEach es X.env).map (·.2):=by rfl):PGs X (e::es) (gCons t u):=by
 intro pins s σ H vs us Q I r h
 obtain⟨v,vr,e1,h⟩:=h
 subst e1
 cases r with
 | cons r rr=>
  rw[hs]
  refine assignInOrder_cons (thn (h1 pins s σ H _ _ _ I r h) fun _ s1 ⟨σ1,H1,I1,q1⟩=>?_)
  exact h2 pins s1 σ1 H1 _ _ Q I1 rr q1
def gTup(K:W.Frag)(n:Nat)(t:TGs):TG:=fun v σ H Q=>∃ a xs,v=.ref a/\SqT K H a xs/\xs.length=n/\t xs σ H Q
theorem QG6{es:List Expr}{k:Nat}{t:TGs}{n:Nat}(hc:X.calm=true)(h:PGs X es t)
 (hn:(assignEach es X.env).length=n:=by rfl) (hst:(assignEach es X.env).findIdx? (·.1)=none:=by rfl):PG X (.Tuple es k pos) (gTup X.K n t):=by
 intro pins s σ H v u Q I r hw
 obtain⟨a,xs,e1,hq,hl,hw⟩:=hw
 subst e1
 cases r
 obtain⟨its,rv,ht,hz⟩:=I.tuple hq
 refine assign_Tuple_tuple (I.ok.hd hc) ht (by simp[hn, ← hl,rv.length]) hst fun h' hx=>?_
 have I1:Inv X pins σ H { s with heap:=h' }:=I.kept (t':=s.toks) fun b o e=>hx b o (Nat.ne_of_lt (Heap.lt_size e)) e
 exact h pins _ σ H xs _ Q I1 (by simpa using rv) hw
def gSub(to ti:TE)(t:TSet):TG:=fun v σ H Q=>to σ H fun o H1=>ti σ H1 fun i H2=>t o i v H2 fun H3=>Q σ H3
theorem QG3{o i:Expr}{to ti:TE}{t:TSet}(ho:PE X o to)(hi:PE X i ti)(hs:PSet X t)
 (ha:∀ v,assign (.Subscript o i pos) X.env v=(do
  let ov ← holding [v] (eval o X.env)
  let iv ← holding [v,ov] (eval i X.env)
  standAt pos
  holding [v,ov,iv] (setItem ov iv v)
  release [v,ov,iv] []):=by intro _;rfl):PG X (.Subscript o i pos) (gSub to ti t):=by
 intro pins s σ H v u Q I r h
 rw[ha]
 refine wpAny_bind (wpAny_holding (thn (ho pins s σ H _ I h) fun ov s1 ⟨x,H1,I1,r1,q1⟩=>?_))
 refine wpAny_bind (wpAny_holding (thn (hi pins s1 σ H1 _ I1 q1) fun iv s2 ⟨y,H2,I2,r2,q2⟩=>?_))
 refine wpAny_bind (wpAny_standAt (wpAny_bind (wpAny_holding (thn (hs pins s2 σ H2 x y v ov iv u _ I2 r1 r2 r q2) fun _ s3 ⟨H3,I3,q3⟩=>?_))))
 exact wpAny_release ⟨σ,H3,I3,q3⟩
def tAsg(te:TE)(g:TG):TS:=fun D σ H=>te σ H fun x H1=>g x σ H1 D.nx
theorem QCE{tg e:Expr}{te:TE}{g:TG}(he:PE X e te)(hg:PG X tg g)(hs:swapsWithSole [tg] e pos.line X.env=pure false:=by rfl)(hw:swappedStores [tg] e X.env=pure none:=by rfl)
 (h1:(assignEach [tg] X.env).map (·.2)=[assign tg X.env]:=by rfl):PS X (.Assign [tg] e pos) (tAsg te g):=by
 intro pins s σ H D I h
 refine wpAny_Assign_stores (thn (he pins s σ H _ I h) fun v s1 ⟨x,H1,I1,r1,q1⟩=>?_) hs hw
 rw[h1]
 exact thn (hg pins s1 σ H1 x v _ I1 r1 q1) fun _ s2 q=>q
theorem QmJ{i:Nat}{x:Str}{e:Expr}{te:TE}{pos':Pos}(hN:X.N.Nodup)(hi:X.N[i]?=some x)(hx:Loc X.env.scope x)(he:PE X e te)(hs:swapsWith e (some (.Name x pos')) pos.line X.env=pure false:=by rfl)(hf:X.fn x=true∨X.env.scope.names.lookup x=some .local:=by first | exact .inl rfl | exact .inr rfl | assumption):
 PS X (.Assign [.Name x pos'] e pos) (tAsg te (gName i)):=by
 intro pins s σ H D I h
 refine wpAny_Assign_Name (thn (he pins s σ H _ I h) fun v s1 ⟨y,H1,I1,r1,q1⟩=>?_) hs
 exact Qhm I1 hN hi hx r1 (fun s2 I2=>⟨_,H1,I2,q1⟩) hf
def tPar(i j:Nat)(ta:TA):TS:=fun D σ H=>ta σ H fun vs H1=>∃ v w,vs=[v,w]/\D.nx ((σ.set i (some v)).set j (some w)) H1
theorem QHQ{i j:Nat}{x y:Str}{a b:Expr}{ta:TA}{px py pt:Pos}{kt k2 pt2}(hc:X.calm=true)(hN:X.N.Nodup)(hi:X.N[i]?=some x)(hj:X.N[j]?=some y)(hij:i≠j)
 (hx:X.env.scope.names.lookup x=some .local) (hy:X.env.scope.names.lookup y=some .local) (ha:PA X [a,b] ta)
 (hw:swappedStores [.Tuple [.Name x px,.Name y py] kt pt] (.Tuple [a,b] k2 pt2) X.env=pure (some [x,y]))
 (hs:swapsWithSole [.Tuple [.Name x px,.Name y py] kt pt] (.Tuple [a,b] k2 pt2) pos.line X.env=pure false:=by rfl):
 PS X (.Assign [.Tuple [.Name x px,.Name y py] kt pt] (.Tuple [a,b] k2 pt2) pos) (tPar i j ta):=by
 intro pins s σ H D I h
 rw[exec_Assign_arm]
 refine wpAny_bind (wpAny_standAt ?_)
 rw[hs]
 refine wpAny_bind (wpAny_pure ?_)
 rw[if_neg (by decide)]
 refine wpAny_bind (Tuple_ (thn (ha _ pins s σ H _ I h) fun us s1 ⟨vs,H1,I1,r1,q1⟩=>?_))
 obtain⟨v,w,e1,q1⟩:=q1
 subst e1
 obtain⟨u1,u2,rfl,rv,rw'⟩:∃ u1 u2,us=[u1,u2]/\RelV v u1/\RelV w u2:=by
  cases r1 with
  | cons p q=>
   cases q with
   | cons p' q'=>
    cases q'
    exact⟨_,_,rfl,p,p'⟩
 refine wpAny_newObj_type ?_ (by show 2<=sizeLine;decide)
 have I2:Inv X pins σ H1 { s1 with heap:=s1.heap.push { cls:=.type "tuple",data:=.seq [u1,u2].toArray } }:=I1.kept (t':=s1.toks) fun b o e=>Heap.get?_push_of_some _ e
 rw[hw]
 refine wpAny_bind (wpAny_pure ?_)
 show wpAny (model X.prog X.w) X.A (do rule "assign.swapped-stores";let items ← unpackItems (.ref s1.heap.objs.size) 2 none;assignInOrder [fun v=>bindName X.env y v,fun v=>bindName X.env x v] items.reverse;pure Flow.next) _ _ _
 refine wpAny_bind (wpAny_rule (wpAny_bind (unpackItems_tuple (items := #[u1,u2]) (I.ok.hd hc) (IsTup.new s1.heap _) fun h' hx'=>?_)))
 have I3:=I2.kept (h':=h') (t':=s1.toks) fun b o e=>hx' b o (Nat.ne_of_lt (Heap.lt_size e)) e
 show wpAny _ _ (assignInOrder [fun v=>bindName X.env y v,fun v=>bindName X.env x v] [u2,u1]>>=fun _=>pure Flow.next) _ _ _
 refine wpAny_bind (assignInOrder_cons (wpAny_bindName (Qhm I3 hN hj (.inl hy) rw' (fun s2 I4=>?_) (.inr hy))))
 refine assignInOrder_cons (wpAny_bindName (Qhm I4 hN hi (.inl hx) rv (fun s3 I5=>assignInOrder_nil (wpAny_pure ?_)) (.inr hx)))
 rw[List.set_comm _ _ (Ne.symm hij)]at I5
 exact⟨_,H1,I5,q1⟩
end
section
variable{X:Cx}{pos:Pos}
def QGK(c:TT)(tb:TS):TS:=fun D σ H=>∃ W:Nat->St->Hp->Prop,(∃ m,W m σ H)/\∀ m σ H,W m σ H->
 c σ H fun b H1=>if b=true then ∃ N:St->Hp->Prop,(∀ σ' H',N σ' H'->∃ m',m'<m/\W m' σ' H')/\tb { D with nx:=N,ct:=N,bk:=D.nx } σ H1 else D.nx σ H1
theorem QE3{c:Expr}{body:List Stmt}{tc:TT}{tb:TS}(hp:PassesOwn (model X.prog X.w) X.A X.env X.xe)(hc:PT X c tc)(hb:PSs X body tb):PS X (.While c body [] pos) (QGK tc tb):=by
 intro pins s σ H D I h
 obtain⟨W,⟨m0,w0⟩,turn⟩:=h
 refine wpAny_While (codeAny_whileLoop (fun n s'=>∃ σ' H',Inv X pins σ' H' s'/\W n σ' H') ?_ m0 ⟨σ,H,I,w0⟩)
 rintro n s1 ⟨σ1,H1,I1,w1⟩
 refine wpAny_passesOwn hp (thn (hc pins s1 σ1 H1 _ I1 (turn n σ1 H1 w1)) fun b s2 ⟨H2,I2,q2⟩=>?_)
 cases b with
 | true=>
  obtain⟨N,hN,q2⟩:=q2
  rw[if_pos rfl]
  refine wpAny_passesOwn hp (thn (hb pins s2 σ1 H2 _ I2 q2) fun f s3 q3=>?_)
  cases f with
  | next=>
   obtain⟨σ3,H3,I3,n3⟩:=q3
   obtain⟨m',hm,w3⟩:=hN σ3 H3 n3
   exact⟨m',hm,σ3,H3,I3,w3⟩
  | cont=>
   obtain⟨σ3,H3,I3,n3⟩:=q3
   obtain⟨m',hm,w3⟩:=hN σ3 H3 n3
   exact⟨m',hm,σ3,H3,I3,w3⟩
  | brk=>exact q3
  | ret v=>exact q3
 | false=>
  rw[if_neg Bool.false_ne_true]
  exact wpAny_execs_nil ⟨σ1,H2,I2,q2⟩
end
structure It where
 go:Nat->Hp->Prop
 yld:Nat->Hp->V->Hp->Prop
 stop:Nat->Hp->Prop
def FpOk(X:Cx)(pins:List (Addr×Obj))(H:Hp)(b:Addr):Prop:=
 H b=none/\b≠X.env.locals/\b∉X.fs/\(b∈X.ex∨X.s₀.heap.objs.size<=b)/\(∀ x c,X.env.cells.lookup x=some c->c≠b)/\∀ p∈X.pn++pins,p.1≠b
theorem Inv.fpOk{X:Cx}{pins:List (Addr×Obj)}{σ:St}{H H':Hp}{s:Shared}{b:Addr}(I:Inv X pins σ H s)(hb:s.heap.objs.size<=b)(hn:H' b=none):FpOk X pins H' b:=by
 refine⟨hn,Nat.ne_of_gt (Nat.lt_of_lt_of_le I.lt hb),I.nofs hb,.inr (Nat.le_trans I.sz hb),fun x c e z=>?_,fun p hp z=>?_⟩
 ·obtain⟨v,q⟩:=I.cell x c e
  exact absurd (Nat.lt_of_lt_of_le q.lt (by rw[z];exact hb)) (Nat.lt_irrefl _)
 ·exact absurd (Nat.lt_of_lt_of_le (Heap.lt_size (I.pin p hp).1) (by rw[z];exact hb)) (Nat.lt_irrefl _)
structure Turn(P:Program)(w:World)(K:W.Frag)(tg:Expr)(J:It)(fp:List Addr)(it:Addr)(tn:Nat->Heap->Prop):Prop where
 mem:it∈fp
 obj:∀ i h,tn i h->∀ b∈fp,∃ o,h.get? b=some o/\∀ v,o.data≠.cell v
 keep:∀ i h h',tn i h->(∀ b∈fp,∀ o,h.get? b=some o->h'.get? b=some o)->tn i h'
 item:∀(X:Cx),X.prog=P->X.w=w->X.K=K->X.calm=true->∀(i:Nat)(pins:List (Addr×Obj))(s:Shared)(σ:St)(H:Hp)(E:Value->Shared->Prop),Inv X pins σ H s->(∀ b∈fp,FpOk X pins H b)->tn i s.heap->J.go i H->
  wpAny (model P w) X.A (pyNext (.ref it)) (fun r s1=>∃ u,r=some u/\
   wpAny (model P w) X.A (letOwnedTupleGo tg (.ref it) u) (fun _ s2=>∃ x H',Inv X pins σ H' s2/\RelV x u/\J.yld i H x H'/\tn (i+1) s2.heap/\∀ b∈fp,H' b=none) E s1) E s
 done:∀(X:Cx),X.prog=P->X.w=w->X.K=K->X.calm=true->∀(i:Nat)(pins:List (Addr×Obj))(s:Shared)(σ:St)(H:Hp)(E:Value->Shared->Prop),Inv X pins σ H s->(∀ b∈fp,FpOk X pins H b)->tn i s.heap->J.stop i H->
  wpAny (model P w) X.A (pyNext (.ref it)) (fun r s1=>r=none/\Inv X pins σ H s1) E s
 self:∀(A:Around)(i:Nat)(s:Shared)(Q:Value->Shared->Prop)(E:Value->Shared->Prop),tn i s.heap->Q (.ref it) s->wpAny (model P w) A (pyIter (.ref it)) Q E s
abbrev TI:=St->Hp->(It->Hp->Prop)->Prop
def PIE(X:Cx)(pins:List (Addr×Obj))(σ:St)(tg:Expr)(R:It->Hp->Prop)(itv:Value)(s2:Shared):Prop:=
 ∃(it:Addr)(fp:List Addr)(tn:Nat->Heap->Prop)(J:It)(H':Hp),itv=.ref it/\Inv X pins σ H' s2/\Turn X.prog X.w X.K tg J fp it tn/\tn 0 s2.heap/\(∀ b∈fp,FpOk X pins H' b)/\R J H'
def PI(X:Cx)(tg iter:Expr)(wi:TI):Prop:=
 ∀(pins:List (Addr×Obj))(s:Shared)(σ:St)(H:Hp)(R:It->Hp->Prop),Inv X pins σ H s->wi σ H R->
  wpAny (model X.prog X.w) X.A (eval iter X.env) (fun v s1=>wpAny (model X.prog X.w) X.A (pyIter v) (PIE X pins σ tg R) X.xe s1) X.xe s
theorem go_of{M:Model}{A:Around}{E:Value->Shared->Prop}{s:Shared}{tg:Expr}{it:Addr}{u:Value}{o:Obj}{n:String}{vs:Array Value}{Q:Unit->Shared->Prop}(ho:s.heap.get? it=some o)(hc:o.cls=.type n)(hd:o.data=.fields vs)
 (hn:["enumerate","zip","dict_itemiterator","dict_reverseitemiterator","odict_iterator","itertools.zip_longest","itertools.pairwise"].contains n=false) (hQ:Q () s):wpAny M A (letOwnedTupleGo tg (.ref it) u) Q E s:=by
 unfold letOwnedTupleGo
 cases tg<;>first
  | exact wpAny_pure hQ
  | (cases u<;>first
   | exact wpAny_pure hQ
   | (refine wpAny_bind (wpAny_load ho ?_)
      rw[hc,hd]
      show wpAny M A (if (["enumerate","zip","dict_itemiterator","dict_reverseitemiterator","odict_iterator","itertools.zip_longest","itertools.pairwise"].contains n&&vs[0]? == some (rawInt _))=true then _ else _) Q E s
      rw[if_neg (by intro h;rw[hn,Bool.false_and]at h;cases h)]
      exact wpAny_pure hQ))
def Itl(K:W.Frag)(a:Addr):It:=
 ⟨fun i H=>∃ xs x,SqL K H a xs/\xs[i]?=some x,fun i H x H'=>H'=H/\∀ xs,SqL K H a xs->xs[i]?=some x,fun i H=>∃ xs,SqL K H a xs/\xs.length<=i⟩
def Itr(lo:Int)(n:Nat):It:=⟨fun i _=>i<n,fun i H x H'=>H'=H/\x=.int (lo+i),fun i _=>n<=i⟩
theorem QDo{P:Program}{w:World}{K:W.Frag}{tg:Expr}(a it:Addr):Turn P w K tg (Itl K a) [it] it (fun i h=>h.IsListIter it a i) where
 mem:=by simp
 obj:=fun i h st b hb=>by
  have e:b=it:=by simpa using hb
  subst e
  obtain⟨o,e,c,d⟩:=st
  exact⟨o,e,fun v z=>by rw[d]at z;cases z⟩
 keep:=fun i h h' st k=>st.at fun o e=>k it (by simp) o e
 item:=by
  intro X hP hw hK hc i pins s σ H E I hf st hg
  subst hP hw hK
  obtain⟨xs,x,hq,hx⟩:=hg
  obtain⟨its,rv,p,hz⟩:=I.list hq
  obtain⟨u,hu,ru⟩:=rv.get hx
  obtain⟨f0,f1,f2,f3,f4,f5⟩:=hf it (by simp)
  refine wpAny_pyNext_list_item st p.isList (x:=u) (by simpa using hu) fun h' st' sb=>?_
  have I1:Inv X pins σ H { s with heap:=h' }:=I.turned (t':=s.toks) (fun b o hb e=>(sb.2 b hb).trans e) f0 f1 f3 f4 f5
  obtain⟨o,e,c,d⟩:=id st'
  exact⟨u,rfl,go_of (s:={ s with heap:=h' }) e c d (by decide) ⟨x,H,I1,ru,⟨rfl,fun ys hy=>by rw[I.list_inj hy hq];exact hx⟩,st',fun b hb=>(hf b hb).1⟩⟩
 done:=by
  intro X hP hw hK hc i pins s σ H E I hf st hg
  subst hP hw hK
  obtain⟨xs,hq,hx⟩:=hg
  obtain⟨its,rv,p,hz⟩:=I.list hq
  obtain⟨f0,f1,f2,f3,f4,f5⟩:=hf it (by simp)
  have hl:=rv.length
  exact wpAny_pyNext_list_end (I.ok.hd hc) st p.isList (by simp;omega) fun h' eb=>⟨rfl,I.turned (t':=s.toks) (fun b o hb e=>eb b o hb e) f0 f1 f3 f4 f5⟩
 self:=fun _ _ _ _ _ st h=>wpAny_pyIter_listiter st h
theorem QBf{P:Program}{w:World}{K:W.Frag}{tg:Expr}(it:Addr)(lo:Int)(n:Nat):Turn P w K tg (Itr lo n) [it] it (fun i h=>IsRangeIter h it (lo+(i:Nat) * 1) ((n:Int) - (i:Nat)) 1) where
 mem:=by simp
 obj:=fun i h st b hb=>by
  have e:b=it:=by simpa using hb
  subst e
  exact⟨_,st,fun v z=>by
   have z':Data.fields _=Data.cell v:=z
   cases z'⟩
 keep:=fun i h h' st k=>k it (by simp) _ st
 item:=by
  intro X hP hw hK hc i pins s σ H E I hf st hg
  subst hP hw hK
  obtain⟨f0,f1,f2,f3,f4,f5⟩:=hf it (by simp)
  have W:=Walks.range (prog:=X.prog) (w:=X.w) (I.ok.hd hc) it lo 1 n
  refine W.item i s _ _ hg st fun v h' tk hv st' kk=>?_
  obtain⟨t,rfl⟩:=hv
  have I1:Inv X pins σ H { s with heap:=h',toks:=tk }:=I.turned (fun b o hb e=>kk b o (by simpa using hb) e) f0 f1 f3 f4 f5
  refine⟨_,rfl,go_of (s:={ s with heap:=h',toks:=tk }) (n:="range_iterator") st' rfl rfl (by decide) ⟨.int (lo+i),H,I1,⟨t,?_⟩,⟨rfl,rfl⟩,st',fun b hb=>(hf b hb).1⟩⟩
  rw[Int.mul_one]
 done:=by
  intro X hP hw hK hc i pins s σ H E I hf st hg
  subst hP hw hK
  obtain⟨f0,f1,f2,f3,f4,f5⟩:=hf it (by simp)
  exact wpAny_pyNext_range_end (I.ok.hd hc) st (by have:n<=i:=hg;omega) fun h' eb=>⟨rfl,I.turned (t':=s.toks) (fun b o hb e=>eb b o hb e) f0 f1 f3 f4 f5⟩
 self:=fun _ _ _ _ _ st h=>wpAny_pyIter_rangeiter st h
end L2
namespace L2
open PySem PySem.Spec PyProof.Rows
section
variable{X:Cx}{tg:Expr}
def iList(K:W.Frag)(tl:TE):TI:=fun σ H R=>tl σ H fun x H1=>∃ a,x=.ref a/\(∃ xs,SqL K H1 a xs)/\R (Itl K a) H1
theorem Qm9{l:Expr}{tl:TE}(hl:PE X l tl):PI X tg l (iList X.K tl):=by
 intro pins s σ H R I h
 refine thn (hl pins s σ H _ I h) fun v s1 ⟨x,H1,I1,r1,q1⟩=>?_
 obtain⟨a,e,⟨xs,hq⟩,q⟩:=q1
 subst e
 cases r1
 obtain⟨its,rv,p,hz⟩:=I1.list hq
 refine wpAny_pyIter_list p.isList ?_
 refine⟨s1.heap.objs.size,[s1.heap.objs.size],_,_,H1,rfl,I1.kept (t':=s1.toks) fun b o e=>Heap.get?_push_of_some _ e,QDo a _,⟨_,Heap.get?_push_size _ rfl,rfl,rfl⟩,fun b hb=>?_,q⟩
 have e:b=s1.heap.objs.size:=by simpa using hb
 subst e
 exact I1.fpOk (Nat.le_refl _) (I1.hok.fresh (Nat.le_refl _))
theorem QEe{pins:List (Addr×Obj)}{σ:St}{H:Hp}{s:Shared}{R:It->Hp->Prop}{E:Value->Shared->Prop}{lo hi:Int}{t u v:Tok}{tk:Nat}(I:Inv X pins σ H s)(h1 : -(2 ^ 62)<=lo)(h2:lo<2 ^ 62)(h3 : -(2 ^ 62)<=hi)(h4:hi<2 ^ 62)
 (q:R (Itr lo (hi - lo).toNat) H):wpAny (model X.prog X.w) X.A (pyIter (.ref s.heap.objs.size)) (PIE X pins σ tg R) E { s with heap:=s.heap.push { cls:=.type "range",data:=.fields #[.int lo t,.int hi u,.int 1 v] },toks:=tk }:=by
 refine wpAny_pyIter_range (IsRange.new ..) (small_one h1 h2 h3 h4) ?_
 have I1:Inv X pins σ H { s with heap:=s.heap.push { cls:=.type "range",data:=.fields #[.int lo t,.int hi u,.int 1 v] },toks:=tk }:=I.kept fun b o e=>Heap.get?_push_of_some _ e
 refine⟨(s.heap.push { cls:=.type "range",data:=.fields #[.int lo t,.int hi u,.int 1 v] }).objs.size,[(s.heap.push { cls:=.type "range",data:=.fields #[.int lo t,.int hi u,.int 1 v] }).objs.size],_,_,H,rfl,
  I1.kept (t':=tk) fun b o e=>Heap.get?_push_of_some _ e,QBf _ lo (hi - lo).toNat,?_,fun b hb=>?_,q⟩
 ·have e1:lo+((0:Nat):Int) * 1=lo:=by simp
  have e2:(((hi - lo).toNat:Nat):Int) - ((0:Nat):Int)=Builtin.Range.rangeSize lo hi 1:=by rw[rangeSize_one];split<;>omega
  show IsRangeIter _ _ (lo+((0:Nat):Int) * 1) ((((hi - lo).toNat:Nat):Int) - ((0:Nat):Int)) 1
  rw[e1,e2]
  exact Heap.get?_push_size _ rfl
 ·have e:b=(s.heap.push { cls:=.type "range",data:=.fields #[.int lo t,.int hi u,.int 1 v] }).objs.size:=by simpa using hb
  subst e
  exact I1.fpOk (Nat.le_refl _) (I1.hok.fresh (Nat.le_refl _))
def iRng1(ta:TA):TI:=fun σ H R=>ta σ H fun vs H1=>∃ j:Int,vs=[.int j] /\ -(2 ^ 62)<=j/\j<2 ^ 62/\R (Itr 0 j.toNat) H1
theorem QBX{a:Expr}{ta:TA}{p pos:Pos}(hg:Gl X "range")(hm:X.mg "range"=none)(ha:PA X [a] ta)(hs:starEach [a] X.env=[(false,eval a X.env)]:=by rfl):PI X tg (.Call (.Name "range" p) [a] [] pos) (iRng1 ta):=by
 intro pins s σ H R I h
 refine Call_ (QdC I hg hm boot_range (PyProof.Rows.callWith_type1 (thn (ha pos pins s σ H _ I h) fun us s1 ⟨vs,H1,I1,r1,q1⟩=>?_) hs rfl))
 obtain⟨j,e,q1,q2,q⟩:=q1
 subst e
 cases r1 with
 | cons r rr=>
  cases rr
  obtain⟨t,rfl⟩:=r
  exact call_range_1 (QEe I1 (by omega) (by omega) q1 q2 (by simpa using q))
def tFor(wi:TI)(g:TG)(tb:TS):TS:=fun D σ H=>wi σ H fun J H1=>∃ W:Nat->Nat->St->Hp->Prop,(∃ m,W 0 m σ H1)/\∀ i m σ H,W i m σ H->
 (J.stop i H/\D.nx σ H)∨(J.go i H/\∃ N:St->Hp->Prop,(∀ σ' H',N σ' H'->∃ m',m'<m/\W (i+1) m' σ' H')/\∀ x H',J.yld i H x H'->g x σ H' fun σ2 H2=>tb { D with nx:=N,ct:=N,bk:=D.nx } σ2 H2)
def Qjm(fp:List Addr)(h:Heap):List (Addr×Obj):=fp.filterMap fun b=>(h.get? b).map fun o=>(b,o)
theorem Qfj{fp:List Addr}{h:Heap}{b:Addr}{o:Obj}(hb:b∈fp)(e:h.get? b=some o):(b,o)∈Qjm fp h:=List.mem_filterMap.mpr ⟨b,hb,by rw[e];rfl⟩
theorem QCA{fp:List Addr}{h:Heap}{p:Addr×Obj}(hp:p∈Qjm fp h):p.1∈fp/\h.get? p.1=some p.2:=by
 obtain⟨b,hb,e⟩:=List.mem_filterMap.mp hp
 cases q:h.get? b with
 | none=>rw[q]at e;cases e
 | some o=>
  rw[q]at e
  have e':(b,o)=p:=Option.some.inj e
  subst e'
  exact⟨hb,q⟩
theorem Inv.pinned{pins:List (Addr×Obj)}{σ:St}{H:Hp}{s:Shared}{fp:List Addr}(I:Inv X pins σ H s)(hf:∀ b∈fp,FpOk X pins H b)(ho:∀ b∈fp,∃ o,s.heap.get? b=some o/\∀ v,o.data≠.cell v):Inv X (pins++Qjm fp s.heap) σ H s:=
 I.pins_of fun p hp=>(List.mem_append.mp hp).elim (fun z=>I.pin p (List.mem_append_right _ z)) fun z=>by
  obtain⟨hb,e⟩:=QCA z
  obtain⟨f0,f1,f2,_⟩:=hf p.1 hb
  obtain⟨o,e',d⟩:=ho p.1 hb
  rw[e]at e';cases e'
  exact⟨e,f0,f1,f2,d⟩
theorem Inv.unpinned{pins pl:List (Addr×Obj)}{σ:St}{H:Hp}{s:Shared}(I:Inv X (pins++pl) σ H s):Inv X pins σ H s:=I.pins_of fun p hp=>I.pin p (List.mem_append_right _ (List.mem_append_left _ hp))
theorem QB5{iter:Expr}{body:List Stmt}{wi:TI}{g:TG}{tb:TS}{pos:Pos}(hp:PassesOwn (model X.prog X.w) X.A X.env X.xe)(hc:X.calm=true)(hi:PI X tg iter wi)(hg:PG X tg g)(hb:PSs X body tb)
 (hs:∀ x,foldedSetIterable iter X.env x=pure x:=by intro _;rfl):PS X (.For tg iter body [] pos) (tFor wi g tb):=by
 intro pins s σ H D I h
 refine wpAny_For (thn (hi pins s σ H _ I h) fun v s1 h1=>thn h1 fun itv s2 h2=>?_) hs
 obtain⟨it,fp,tn,J,H2,e,I2,T,st2,f2,W,⟨m0,w0⟩,turn⟩:=h2
 subst e
 -- what stays true of the iterator's objects through the loop
 have stat:∀{H':Hp},(∀ b∈fp,H' b=none)->∀ b∈fp,FpOk X pins H' b:=fun hn b hb=>⟨hn b hb,(f2 b hb).2⟩
 refine codeAny_forLoop_any (fun n s'=>∃ i σ' H',Inv X pins σ' H' s'/\tn i s'.heap/\(∀ b∈fp,H' b=none)/\W i n σ' H') ?_ m0 ⟨0,σ,H2,I2,st2,fun b hb=>(f2 b hb).1,w0⟩
 rintro n s3 ⟨i,σ3,H3,I3,st3,fr3,w3⟩
 rcases turn i n σ3 H3 w3 with⟨stop,qn⟩ | ⟨go,N,hN,step⟩
 ·refine wpAny_passesOwn hp (thn (T.done X rfl rfl rfl hc i pins s3 σ3 H3 X.xe I3 (stat fr3) st3 stop) fun r s4 ⟨hr,I4⟩=>?_)
  subst hr
  exact wpAny_execs_nil ⟨σ3,H3,I4,qn⟩
 ·refine wpAny_passesOwn hp (thn (T.item X rfl rfl rfl hc i pins s3 σ3 H3 X.xe I3 (stat fr3) st3 go) fun r s4 ⟨u,hr,h4⟩=>?_)
  subst hr
  refine wpAny_passesOwn hp (thn h4 fun _ s5 ⟨x,H5,I5,r5,y5,st5,fr5⟩=>?_)
  have I5':=I5.pinned (stat fr5) (T.obj _ _ st5)
  refine wpAny_passesOwn hp (thn (hg _ s5 σ3 H5 x u _ I5' r5 (step x H5 y5)) fun _ s6 ⟨σ6,H6,I6,q6⟩=>?_)
  refine wpAny_passesOwn hp (thn (hb _ s6 σ6 H6 _ I6 q6) fun f s7 q7=>?_)
  have again:∀{σ7:St}{H7:Hp},Inv X (pins++Qjm fp s5.heap) σ7 H7 s7->N σ7 H7->∃ m,m<n/\∃ i σ' H',Inv X pins σ' H' s7/\tn i s7.heap/\(∀ b∈fp,H' b=none)/\W i m σ' H':=fun {σ7 H7} I7 n7=>by
   obtain⟨m',hm,w7⟩:=hN σ7 H7 n7
   refine⟨m',hm,i+1,σ7,H7,I7.unpinned,T.keep _ _ _ st5 fun b hb o e=>(I7.pin (b,o) (List.mem_append_right _ (List.mem_append_right _ (Qfj hb e)))).1,fun b hb=>?_,w7⟩
   obtain⟨o,e,d⟩:=T.obj _ _ st5 b hb
   exact(I7.pin (b,o) (List.mem_append_right _ (List.mem_append_right _ (Qfj hb e)))).2.1
  cases f with
  | next=>obtain⟨σ7,H7,I7,n7⟩:=q7;exact again I7 n7
  | cont=>obtain⟨σ7,H7,I7,n7⟩:=q7;exact again I7 n7
  | brk=>obtain⟨σ7,H7,I7,q7⟩:=q7;exact⟨σ7,H7,I7.unpinned,q7⟩
  | ret v=>obtain⟨x7,σ7,H7,I7,r7,q7⟩:=q7;exact⟨x7,σ7,H7,I7.unpinned,r7,q7⟩
end
end L2
namespace L2
open PySem PySem.Spec PyProof.Rows
abbrev R2:=V->V->Hp->VK->Prop
def OpR(X:Cx)(f:Value->Value->Sem Value)(r:R2):Prop:=
 ∀(pins:List (Addr×Obj))(s:Shared)(σ:St)(H:Hp)(x y:V)(v u:Value)(Q:VK),Inv X pins σ H s->RelV x v->RelV y u->r x y H Q->
  wpAny (model X.prog X.w) X.A (f v u) (EP X pins σ Q) X.xe s
def UnR(X:Cx)(f:Value->Sem Value)(r:V->Hp->VK->Prop):Prop:=
 ∀(pins:List (Addr×Obj))(s:Shared)(σ:St)(H:Hp)(x:V)(v:Value)(Q:VK),Inv X pins σ H s->RelV x v->r x H Q->
  wpAny (model X.prog X.w) X.A (f v) (EP X pins σ Q) X.xe s
def CallR(X:Cx)(f:Value)(r:List V->Hp->VK->Prop):Prop:=
 ∀(pins:List (Addr×Obj))(s:Shared)(σ:St)(H:Hp)(xs:List V)(us:List Value)(Q:VK),Inv X pins σ H s->Vals xs us->r xs H Q->
  wpAny (model X.prog X.w) X.A (call f us) (EP X pins σ Q) X.xe s
def tOp(r:R2)(ta tb:TE):TE:=fun σ H Q=>ta σ H fun x H1=>tb σ H1 fun y H2=>r x y H2 Q
def tUn(r:V->Hp->VK->Prop)(ta:TE):TE:=fun σ H Q=>ta σ H fun x H1=>r x H1 Q
def rI(C:Int->Int->Prop)(g:Int->Int->V):R2:=fun x y H Q=>∃ i j,x=.int i/\y=.int j/\C i j/\Q (g i j) H
def rI0(g:Int->Int->V):R2:=fun x y H Q=>∃ i j,x=.int i/\y=.int j/\Q (g i j) H
def rU(g:Int->V):V->Hp->VK->Prop:=fun x H Q=>∃ i,x=.int i/\Q (g i) H
section
variable{X:Cx}{a b c:Expr}{ta tb tc:TE}{pos:Pos}
theorem binT(ha:PE X a ta)(hb:PE X b tb){pins:List (Addr×Obj)}{s:Shared}{σ:St}{H:Hp}{R:V->V->Hp->Prop}(I:Inv X pins σ H s)
 (h:ta σ H fun x H1=>tb σ H1 fun y H2=>R x y H2) {Q:Value->Shared->Prop} {f:Value->Value->Sem Value}
 (hf:∀ v u s2 x y H2,Inv X pins σ H2 s2->RelV x v->RelV y u->R x y H2->wpAny (model X.prog X.w) X.A (f v u) Q X.xe s2):
 wpAny (model X.prog X.w) X.A (eval a X.env) (fun v s₁=>wpAny (model X.prog X.w) X.A (eval b X.env) (fun u s₂ => wpAny (model X.prog X.w) X.A (f v u) Q X.xe s₂) X.xe s₁) X.xe s:=by
 refine thn (ha pins s σ H _ I h) fun v s1 ⟨x,H1,I1,r1,q1⟩=>?_
 refine thn (hb pins s1 σ H1 _ I1 q1) fun u s2 ⟨y,H2,I2,r2,q2⟩=>?_
 exact hf v u s2 x y H2 I2 r1 r2 q2
theorem pe_op{op:Operator}{r:R2}(ho:OpR X (binaryOp op) r)(ha:PE X a ta)(hb:PE X b tb):PE X (.BinOp a op b pos) (tOp r ta tb):=by
 intro pins s σ H Q I h
 exact wpAny_BinOp (binT ha hb I h fun v u s2 x y H2 I2 rx ry q=>ho pins s2 σ H2 x y v u Q I2 rx ry q)
theorem pe_un{op:UnaryOp}{r:V->Hp->VK->Prop}(ho:UnR X (unaryOp op) r)(ha:PE X a ta):PE X (.UnaryOp op a pos) (tUn r ta):=by
 intro pins s σ H Q I h
 exact UnaryOp_ (thn (ha pins s σ H _ I h) fun v s1 ⟨x,H1,I1,r1,q1⟩=>ho pins s1 σ H1 x v Q I1 r1 q1)
theorem opI{f:Value->Value->Sem Value}{C:Int->Int->Prop}{g:Int->Int->Int}
 (rule:∀(i j:Int)(t u:Tok)(s:Shared)(Q:Value->Shared->Prop)(E:Value->Shared->Prop),C i j->Q (.int (g i j) s.toks) { s with toks:=s.toks+1 }->wpAny (model X.prog X.w) X.A (f (.int i t) (.int j u)) Q E s):
 OpR X f (rI C fun i j=>.int (g i j)):=by
 intro pins s σ H x y v u Q I rx ry h
 obtain⟨i,j,rfl,rfl,hc,q⟩:=h
 obtain⟨t,rfl⟩:=rx
 obtain⟨t',rfl⟩:=ry
 exact rule i j t t' s _ _ hc ⟨.int (g i j),H,I.tok _,⟨_,rfl⟩,q⟩
theorem opI0{f:Value->Value->Sem Value}{g:Int->Int->Int}
 (rule:∀(i j:Int)(t u:Tok)(s:Shared)(Q:Value->Shared->Prop)(E:Value->Shared->Prop),Q (.int (g i j) s.toks) { s with toks:=s.toks+1 }->wpAny (model X.prog X.w) X.A (f (.int i t) (.int j u)) Q E s):
 OpR X f (rI0 fun i j=>.int (g i j)):=by
 intro pins s σ H x y v u Q I rx ry h
 obtain⟨i,j,rfl,rfl,q⟩:=h
 obtain⟨t,rfl⟩:=rx
 obtain⟨t',rfl⟩:=ry
 exact rule i j t t' s _ _ ⟨.int (g i j),H,I.tok _,⟨_,rfl⟩,q⟩
theorem opB0{f:Value->Value->Sem Value}{g:Int->Int->Bool}
 (rule:∀(i j:Int)(t u:Tok)(s:Shared)(Q:Value->Shared->Prop)(E:Value->Shared->Prop),Q (.bool (g i j)) s->wpAny (model X.prog X.w) X.A (f (.int i t) (.int j u)) Q E s):
 OpR X f (rI0 fun i j=>.bl (g i j)):=by
 intro pins s σ H x y v u Q I rx ry h
 obtain⟨i,j,rfl,rfl,q⟩:=h
 obtain⟨t,rfl⟩:=rx
 obtain⟨t',rfl⟩:=ry
 exact rule i j t t' s _ _ ⟨.bl (g i j),H,I,rfl,q⟩
def CMul(i j:Int):Prop:=(-(2 ^ 64)<i/\i<2 ^ 64)∨(-(2 ^ 64)<j/\j<2 ^ 64)
theorem CMul.ok{i j:Int}(h:CMul i j):IntMulOk i j:=by
 rcases h with⟨h1,h2⟩ | ⟨h1,h2⟩
 ·exact .of_left (intBits_le_64 h1 h2)
 ·exact .of_right (intBits_le_64 h1 h2)
theorem QHj:OpR X (binaryOp .Add) (rI0 fun i j=>.int (i+j)):=opI0 fun _ _ _ _ _ _ _ q=>add_int q
theorem QHr:OpR X (binaryOp .Sub) (rI0 fun i j=>.int (i - j)):=opI0 fun _ _ _ _ _ _ _ q=>sub_int q
theorem QGE:OpR X (binaryOp .Mod) (rI (fun _ j=>j≠0) fun i j=>.int (i.fmod j)):=opI fun _ _ _ _ _ _ _ hc q=>mod_int' hc q
theorem unI{f:Value->Sem Value}{g:Int->Int}
 (rule:∀(i:Int)(t:Tok)(s:Shared)(Q:Value->Shared->Prop)(E:Value->Shared->Prop),Q (.int (g i) s.toks) { s with toks:=s.toks+1 }->wpAny (model X.prog X.w) X.A (f (.int i t)) Q E s):
 UnR X f (rU fun i=>.int (g i)):=by
 intro pins s σ H x v Q I rx h
 obtain⟨i,rfl,q⟩:=h
 obtain⟨t,rfl⟩:=rx
 exact rule i t s _ _ ⟨.int (g i),H,I.tok _,⟨_,rfl⟩,q⟩
theorem QGW:UnR X (unaryOp .USub) (rU fun i=>.int (-i)):=unI fun _ _ _ _ _ q=>neg_int q
end
def scal:V->V->Bool
 | .non,.non=>true | .non,.int _=>true | .int _,.non=>true | .non,.bl _=>true | .bl _,.non=>true | .non,.str _=>true | .str _,.non=>true
 | .int _,.int _=>true | .bl _,.bl _=>true | .str _,.str _=>true | .byt _,.byt _=>true
 | .int _,.str _=>true | .str _,.int _=>true | .bl _,.str _=>true | .str _,.bl _=>true
 | _,_=>false
section
variable{X:Cx}{a b c:Expr}{ta tb tc:TE}{pos:Pos}
theorem QHM{pins:List (Addr×Obj)}{σ:St}{H:Hp}{s:Shared}{Q:VK}{k k':Bool}(I:Inv X pins σ H s)(q:Q (.bl k) H)(e:k=k'):EP X pins σ Q (.bool k') s:=by
 subst e
 exact⟨.bl k,H,I,rfl,q⟩
theorem op_lt:OpR X (compareOp .Lt) (rI0 fun i j=>.bl (decide (i<j))):=opB0 fun _ _ _ _ _ _ _ q=>lt_int q
theorem op_le:OpR X (compareOp .LtE) (rI0 fun i j=>.bl (decide (i<=j))):=opB0 fun _ _ _ _ _ _ _ q=>le_int q
theorem op_gt:OpR X (compareOp .Gt) (rI0 fun i j=>.bl (decide (j<i))):=opB0 fun _ _ _ _ _ _ _ q=>gt_int q
theorem QDb:OpR X (compareOp .In) (fun x y H Q=>∃ i j,x=.str i/\y=.str j/\Q (.bl (!(Builtin.Str.occurrences j i 0 j.length 1).isEmpty)) H):=by
 intro pins s σ H x y v u Q I rx ry h
 obtain⟨i,j,rfl,rfl,q⟩:=h
 obtain⟨t,rfl⟩:=rx
 obtain⟨t',rfl⟩:=ry
 exact in_str (QHM I q rfl)
theorem OpR.or{f:Value->Value->Sem Value}{r r':R2}(h:OpR X f r)(h':OpR X f r'):OpR X f (fun x y H Q=>r x y H Q∨r' x y H Q):=by
 intro pins s σ H x y v u Q I rx ry q
 rcases q with q | q
 ·exact h pins s σ H x y v u Q I rx ry q
 ·exact h' pins s σ H x y v u Q I rx ry q
theorem QfL(b:Expr){op:CmpOp}(h:op≠.In:=by decide)(h2:op≠.NotIn:=by decide):behindInMarks op b=false:=by
 have e1:(op == CmpOp.In)=false:=by cases op<;>first | rfl | exact absurd rfl h
 have e2:(op == CmpOp.NotIn)=false:=by cases op<;>first | rfl | exact absurd rfl h2
 cases b<;>simp[behindInMarks,e1,e2]
theorem QF0{op:CmpOp}{r:R2}(ho:OpR X (compareOp op) r)(ha:PE X a ta)(hb:PE X b tb)(hm:behindInMarks op b=false):PE X (.Compare a [op] [b] pos) (tOp r ta tb):=by
 intro pins s σ H Q I h
 exact wpAny_Compare1 (binT ha hb I h fun v u s2 x y H2 I2 rx ry q=>ho pins s2 σ H2 x y v u Q I2 rx ry q) hm
def tTest(t:TE):TT:=fun σ H Q=>t σ H fun x H'=>∃ k,x=.bl k/\Q k H'
theorem QF3{op:CmpOp}{r:R2}(ho:OpR X (compareOp op) r)(ha:PE X a ta)(hb:PE X b tb)(hm:behindInMarks op b=false):PT X (.Compare a [op] [b] pos) (tTest (tOp r ta tb)):=by
 intro pins s σ H Q I h
 refine wpAny_isTrue_Compare1 (thn (ha pins s σ H _ I h) fun v s1 ⟨x,H1,I1,r1,q1⟩=>thn (hb pins s1 σ H1 _ I1 q1) fun u s2 ⟨y,H2,I2,r2,q2⟩=>
  thn (ho pins s2 σ H2 x y v u _ I2 r1 r2 q2) fun c s3 ⟨z,H3,I3,r3,k,e,q3⟩=>?_) hm
 subst e
 cases r3
 exact wpAny_truthy_bool ⟨H3,I3,q3⟩
def QtM(r r':R2)(ta tb tc:TE):TE:=fun σ H Q=>ta σ H fun x H1=>tb σ H1 fun y H2=>r x y H2 fun z H3=>∃ k,z=.bl k/\
 (if k=true then tc σ H3 fun w' H4=>r' y w' H4 Q else Q (.bl false) H3)
theorem QDU{op op':CmpOp}{r r':R2}(ho:OpR X (compareOp op) r)(ho':OpR X (compareOp op') r')(ha:PE X a ta)(hb:PE X b tb)(hc:PE X c tc)
 (hm:lastMarks [op,op'] [b,c]=false:=by with_unfolding_all rfl):PE X (.Compare a [op,op'] [b,c] pos) (QtM r r' ta tb tc):=by
 intro pins s σ H Q I h
 refine Compare_chain (thn (ha pins s σ H _ I h) fun v s1 ⟨x,H1,I1,r1,q1⟩=>chain_link (thn (hb pins s1 σ H1 _ I1 q1) fun u s2 ⟨y,H2,I2,r2,q2⟩=>
  thn (ho pins s2 σ H2 x y v u _ I2 r1 r2 q2) fun d s3 ⟨z,H3,I3,r3,k,e,q3⟩=>?_)) hm
 subst e
 cases r3
 refine wpAny_truthy_bool ?_
 cases k with
 | false=>exact ite_ff ⟨.bl false,H3,I3,rfl,q3⟩
 | true=>exact ite_tt (chain_last (thn (hc pins s3 σ H3 _ I3 q3) fun w' s4 ⟨z',H4,I4,r4,q4⟩=>ho' pins s4 σ H4 y z' u w' Q I4 r2 r4 q4))
theorem QDV{op op':CmpOp}{r r':R2}(ho:OpR X (compareOp op) r)(ho':OpR X (compareOp op') r')(ha:PE X a ta)(hb:PE X b tb)(hc:PE X c tc)
 (hm:lastMarks [op,op'] [b,c]=false:=by with_unfolding_all rfl):PT X (.Compare a [op,op'] [b,c] pos) (tTest (QtM r r' ta tb tc)):=by
 intro pins s σ H Q I h
 refine isTrue_chain (thn (ha pins s σ H _ I h) fun v s1 ⟨x,H1,I1,r1,q1⟩=>test_link (thn (hb pins s1 σ H1 _ I1 q1) fun u s2 ⟨y,H2,I2,r2,q2⟩=>
  thn (ho pins s2 σ H2 x y v u _ I2 r1 r2 q2) fun d s3 ⟨z,H3,I3,r3,k,e,q3⟩=>?_)) hm
 subst e
 cases r3
 refine wpAny_truthy_bool ?_
 cases k with
 | false=>
  obtain⟨k',e',q'⟩:=q3
  cases e'
  exact ite_ff ⟨H3,I3,q'⟩
 | true=>
  refine ite_tt (test_last (thn (hc pins s3 σ H3 _ I3 q3) fun w' s4 ⟨z',H4,I4,r4,q4⟩=>thn (ho' pins s4 σ H4 y z' u w' _ I4 r2 r4 q4) fun d' s5 ⟨z2,H5,I5,r5,k2,e2,q5⟩=>?_))
  subst e2
  cases r5
  exact wpAny_truthy_bool ⟨H5,I5,q5⟩
theorem QgW:(sizeLine:Nat)<2 ^ 63:=by rw[sizeLine_eq];decide
theorem QAn:OpR X (binaryOp .Add) (fun x y H Q=>∃ i j,x=.str i/\y=.str j/\i.length+j.length<=sizeLine/\Q (.str (i++j)) H):=by
 intro pins s σ H x y v u Q I rx ry h
 obtain⟨i,j,rfl,rfl,hz,q⟩:=h
 obtain⟨t,rfl⟩:=rx
 obtain⟨t',rfl⟩:=ry
 exact add_str (fun t' tk=>⟨.str (i++j),H,I.tok _,⟨_,rfl⟩,q⟩) hz
theorem vals1{x:V}{us:List Value}(r:Vals [x] us):∃ u,us=[u]/\RelV x u:=by
 cases r with
 | cons r1 r2=>cases r2;exact⟨_,rfl,r1⟩
theorem vals2{x y:V}{us:List Value}(r:Vals [x,y] us):∃ u w',us=[u,w']/\RelV x u/\RelV y w':=by
 cases r with
 | cons r1 r2=>
  cases r2 with
  | cons r3 r4=>cases r4;exact⟨_,_,rfl,r1,r3⟩
theorem QD4:CallR X (.builtin "abs") (fun xs H Q=>∃ i,xs=[.int i]/\Q (.int (if i<0 then -i else i)) H):=by
 intro pins s σ H xs us Q I r h
 obtain⟨i,rfl,q⟩:=h
 obtain⟨u,rfl,t,rfl⟩:=vals1 r
 exact call_abs_int fun u tk=>⟨.int (if i<0 then -i else i),H,I.tok _,⟨_,rfl⟩,q⟩
theorem QDf:CallR X (.type "int") (fun xs H Q=>(∃ i,xs=[.int i]/\Q (.int i) H)∨∃ k,xs=[.bl k]/\Q (.int (if k then 1 else 0)) H):=by
 intro pins s σ H xs us Q I r h
 rcases h with⟨i,rfl,q⟩ | ⟨k,rfl,q⟩
 ·obtain⟨u,rfl,t,rfl⟩:=vals1 r
  exact call_int_int ⟨.int i,H,I,⟨_,rfl⟩,q⟩
 ·obtain⟨u,rfl,r1⟩:=vals1 r
  cases r1
  exact call_int_bool ⟨.int (if k then 1 else 0),H,I.tok _,⟨_,rfl⟩,q⟩
end
end L2
namespace L2
open PySem PySem.Spec PyProof.Rows
structure ObjM(h:Heap)(x dx C:Addr)(mA:Str->Option Value):Prop where
 obj:h.get? x=some (W.instObj C dx)
 ns:h.Ns1 dx mA
 ne:dx≠x
theorem QDB{h:Heap}{dx:Addr}{mA:Str->Option Value}(n:h.Ns1 dx mA):∃ od,h.get? dx=some od/\∀ name,W.lookIn name od=some (mA name):=by
 obtain⟨o,es,ep,ho,hd,hk,_,hm⟩:=n
 refine⟨o,ho,fun name=>?_⟩
 have e:=hm name
 unfold nsFind findBy at e
 rw[← Array.find?_toList]at e
 unfold W.lookIn
 rw[hd]
 dsimp only
 split
 ·rename_i y q
  rw[q]at e
  exact congrArg some e
 ·rename_i q
  rw[q]at e
  have a:es.toList.any (·.refKey)=false:=by
   rw[List.any_eq_false]
   intro y hy
   obtain⟨z,t,hkey⟩:=hk y (Array.mem_toList_iff.mp hy)
   simp[DictEntry.refKey,hkey]
  have a':¬ es.toList.any (·.refKey)=true:=by rw[a];exact Bool.false_ne_true
  rw[if_neg a']
  exact congrArg some e
theorem ObjM.look{h:Heap}{x dx C:Addr}{mA:Str->Option Value}(I:ObjM h x dx C mA):∃ od,W.InstAt h x (W.instObj C dx) C (some od)/\∀ name,W.lookIn name od=some (mA name):=
 let ⟨od,ho,hl⟩:=QDB I.ns
 ⟨od,⟨I.obj,rfl,rfl,ho⟩,hl⟩
section
variable{prog:Program}{w:World}{A:Around}{E:Value->Shared->Prop}{s:Shared}{K:W.Frag}{x dx C f:Addr}{mA:Str->Option Value}{name:Str}{v:Value}
theorem QGc{expr:Bool}{Q:Value->Shared->Prop}(X:K.In s.heap)(I:ObjM s.heap x dx C mA)(hg:W.plainGet K C name=true)(hh:W.hasDictIn K C=true)
 (ha:W.findIn K (.ref C) name=some none) (hv:mA name=some v) (hv':W.handedIn v=true) (h:Q v { s with toks:=s.toks+1 }):
 wpAny (model prog w) A (getAttr (.ref x) name expr) Q E s:=by
 obtain⟨od,J,hl⟩:=I.look
 exact W.get_value X J (W.plainGet_of hg).1 (W.findObj_own hh ha rfl (by rw[hl,hv])) hv' h
theorem QEA{pl:Sem Bool}{Q:Value×List Value->Shared->Prop}(X:K.In s.heap)(I:ObjM s.heap x dx C mA)(hg:W.plainGet K C name=true)
 (hf:W.findIn K (.ref C) name=some (some (.ref f))) (ht:W.isFn K (.ref f)=true) (hv:mA name=none) (h:Q (.ref f,[.ref x]) s):
 wpAny (model prog w) A (getMethod (.ref x) name pl) Q E s:=by
 obtain⟨od,J,hl⟩:=I.look
 exact W.method_fn X J (W.plainGet_of hg).1 (W.plainGet_of hg).2 hf (beq_iff_eq.mp ht) (by show(W.lookIn name od).map (·.isSome)=some false;rw[hl,hv];rfl) h
theorem QGG{ns:List Str}{Q:Unit->Shared->Prop}(X:K.In s.heap)(I:ObjM s.heap x dx C mA)
 (hs:W.findIn K (.ref C) "__setattr__"=some (some (.builtin "object.__setattr__"))) (hp:W.plainOver K C=true) (ht:W.takerIn K C name=some none) (hh:W.hasDictIn K C=true)
 (hw:PySem.Within mA ns) (hsz:ns.length<=sizeLine)
 (h:∀ h',ObjM h' x dx C (fun y=>if y=name then some v else mA y)->Heap.SameBut dx s.heap h'->Q () { s with heap:=h',toks:=s.toks+2 }):
 wpAny (model prog w) A (setAttr (.ref x) name v) Q E s:=by
 obtain⟨od,J,hl⟩:=I.look
 refine W.set_plain X J hs (W.osa_open (s:={ s with toks:=s.toks+1 }) (r:=none) X J hp ht fun b=>?_)
 obtain⟨cd,hc,hd'⟩:=W.any_some hh
 have hx:s.heap.get? x=some ⟨.ref C,some dx,.plain, #[]⟩:=I.obj
 refine wpAny_bind (wpAny_pure (wpAny_bind (wpAny_bind (wpAny_loadPart hx (wpAny_bind (W.Looks.here (s:={ s with toks:=s.toks+1 }) (W.looks_clsIn X hc) ?_))))))
 rw[hd']
 refine wpAny_pure (a:=some dx) (wpAny_bind (wpAny_pure (wpAny_bind ?_)))
 refine wpAny_nsSet1 (s:={ s with toks:=s.toks+1 }) I.ns fun h' hn2 hs2=>?_
 obtain⟨oD,esD,epD,hoD,hdD,hcD⟩:=hn2.count (PySem.Within.cons name v hw)
 refine wpAny_bind (wpAny_lookBehind hoD (by rw[hdD];exact pastItsLine_dict (Nat.le_trans hcD (by rw[List.length_cons];omega))) ?_)
 exact wpAny_pure (h _ ⟨(hs2.2 _ (Ne.symm I.ne)).trans I.obj,hn2,I.ne⟩ hs2)
theorem QDS{R:Result->Shared->Prop}{vs:List Value}{kw:List (Str×Value)}(X:K.In s.heap)(hm:W.makesIn K C=true)
 (hi:W.findIn K (.ref C) "__init__"=some (some (.ref f))) (hf:W.typeIn K (.ref f)=some (.type "function"))
 (h:codeAny (model prog w) (A.under (.builtin "type.__call__" ⟨.ref C::vs,kw⟩)) (.call (.ref f) ⟨.ref (s.heap.objs.size+1)::vs,kw⟩) (W.InitBack (s.heap.objs.size+1) R)
  { s with heap:=(s.heap.push W.emptyDict).push (W.instObj C s.heap.objs.size) }):
 codeAny (model prog w) A (.call (.ref C) ⟨vs,kw⟩) R s:=by
 obtain⟨hh,g,d,t,os⟩:=s
 exact W.make_core (W.makes_of X hm) (W.looks_findIn X hi) (fun self=>W.bind_fn X self hf) (.inl rfl) h
end
def putF(f:Str)(v:V):List (Str×V)->List (Str×V)
 | []=>[(f,v)]
 | (g,x)::r=>if g=f then(g,v)::r else(g,x)::putF f v r
theorem QkQ(f g:Str)(v:V):∀ fs:List (Str×V),(putF f v fs).lookup g=if g=f then some v else fs.lookup g
 | []=>by
  show List.lookup g [(f,v)]=_
  by_cases h:g=f
  ·have hb:(g == f)=true:=beq_iff_eq.mpr h
   simp only[List.lookup,hb,if_pos h]
  ·have hb:(g == f)=false:=beq_eq_false_iff_ne.mpr h
   simp only[List.lookup,hb,if_neg h]
 | (k,x)::r=>by
  have ih:=QkQ f g v r
  rw[show putF f v ((k,x)::r)=(if k=f then(k,v)::r else(k,x)::putF f v r) from rfl]
  by_cases hk:k=f
  ·rw[if_pos hk]
   by_cases h:g=k
   ·have hb:(g == k)=true:=beq_iff_eq.mpr h
    simp only[List.lookup,hb,if_pos (h.trans hk)]
   ·have hb:(g == k)=false:=beq_eq_false_iff_ne.mpr h
    simp only[List.lookup,hb,if_neg (fun e:g=f=>h (e.trans hk.symm))]
  ·rw[if_neg hk]
   by_cases h:g=k
   ·have hb:(g == k)=true:=beq_iff_eq.mpr h
    simp only[List.lookup,hb,if_neg (fun e:g=f=>hk (h.symm.trans e))]
   ·have hb:(g == k)=false:=beq_eq_false_iff_ne.mpr h
    simp only[List.lookup,hb]
    exact ih
theorem Qi5(f:Str)(v:V):∀ fs:List (Str×V),f∈(putF f v fs).map (·.1)/\∀ g,g∈fs.map (·.1)->g∈(putF f v fs).map (·.1)
 | []=>⟨by simp[putF],fun g h=>by simp at h⟩
 | (k,x)::r=>by
  obtain⟨i1,i2⟩:=Qi5 f v r
  rw[show putF f v ((k,x)::r)=(if k=f then(k,v)::r else(k,x)::putF f v r) from rfl]
  by_cases hk:k=f
  ·rw[if_pos hk]
   subst hk
   exact⟨by simp,fun g h=>by simpa using h⟩
  ·rw[if_neg hk]
   refine⟨?_,fun g h=>?_⟩
   ·rw[List.map_cons]
    exact List.mem_cons_of_mem _ i1
   ·rw[List.map_cons]at h ⊢
    rcases List.mem_cons.mp h with e | e
    ·exact List.mem_cons.mpr (.inl e)
    ·exact List.mem_cons_of_mem _ (i2 g e)
theorem Qkx(f:Str)(v:V):∀ fs:List (Str×V),(putF f v fs).length<=fs.length+1
 | []=>by simp[putF]
 | (k,x)::r=>by
  have ih:=Qkx f v r
  rw[show putF f v ((k,x)::r)=(if k=f then(k,v)::r else(k,x)::putF f v r) from rfl]
  by_cases hk:k=f
  ·rw[if_pos hk,List.length_cons,List.length_cons];omega
  ·rw[if_neg hk,List.length_cons,List.length_cons];omega
theorem RelO.some_of{v:V}{o:Option Value}(r:RelO (some v) o):∃ u,o=some u/\RelV v u:=by
 cases o with
 | none=>exact(show False from r).elim
 | some u=>exact⟨u,rfl,r⟩
theorem RelO.none_of{o:Option Value}(r:RelO none o):o=none:=by
 cases o with
 | none=>rfl
 | some u=>exact(show False from r).elim
theorem QDp{v:V}{u:Value}(r:RelV v u):W.handedIn u=true:=by
 cases v with
 | non=>cases (show u=Value.none from r);rfl
 | bl b=>cases (show u=Value.bool b from r);rfl
 | int i=>obtain⟨t,e⟩:=(show ∃ t,u=Value.int i t from r);cases e;rfl
 | str x=>obtain⟨t,e⟩:=(show ∃ t,u=Value.str x t from r);cases e;rfl
 | byt b=>obtain⟨t,e⟩:=(show ∃ t,u=Value.bytes b t from r);cases e;rfl
 | flt b=>obtain⟨t,e⟩:=(show ∃ t,u=Value.float b t from r);cases e;rfl
 | ref a=>cases (show u=Value.ref a from r);rfl
 | ty n=>cases (show u=Value.type n from r);rfl
section
variable{P:Program}{w:World}{H H':Hp}{h h':Heap}{a C dx:Addr}{fs fs':List (Str×V)}
theorem QgQ(hok:HOk P w H h)(e:H a=some (.ins C dx fs)):∃ mA,ObjM h a dx C mA/\(∀ f,RelO (fs.lookup f) (mA f))/\PySem.Within mA (fs.map (·.1))/\fs.length<=1000/\H dx=some (.own a):=by
 obtain⟨d,z,ne,ob,mA,n,r,q⟩:=(show ObjOk P w H h a (.ins C dx fs) from hok a _ e)
 exact⟨mA,⟨ob,n,ne⟩,r,q,z,d⟩
end
structure Cls(K:W.Frag)(C:Addr):Prop where
 pg:W.plainGet K C Str.empty=true
 hd:W.hasDictIn K C=true
 po:W.plainOver K C=true
 sa:W.findIn K (.ref C) "__setattr__"=some (some (.builtin "object.__setattr__"))
theorem Cls.get{K:W.Frag}{C:Addr}(c:Cls K C)(f:Str):W.plainGet K C f=true:=c.pg
def QfI(K:W.Frag)(C:Addr)(f:Str):Prop:=W.findIn K (.ref C) f=some none
theorem QfI.taker{K:W.Frag}{C:Addr}{f:Str}(n:QfI K C f):W.takerIn K C f=some none:=by
 unfold W.takerIn
 rw[show W.findIn K (.ref C) f=some none from n]
 rfl
structure Meth(K:W.Frag)(C:Addr)(m:Str)(f:Addr):Prop where
 at_:W.findIn K (.ref C) m=some (some (.ref f))
 fn:W.isFn K (.ref f)=true
 kp:W.keepIn K (.ref f)=true
section
variable{X:Cx}{pins:List (Addr×Obj)}{σ:St}{H:Hp}{s:Shared}{a C dx:Addr}{fs:List (Str×V)}{f:Str}{v:V}{A:Around}{E:Value->Shared->Prop}
theorem Qz7{b:Bool}{Q:Value->Shared->Prop}(I:Inv X pins σ H s)(e:H a=some (.ins C dx fs))(c:Cls X.K C)(n:QfI X.K C f)(l:fs.lookup f=some v)
 (h:∀ u s',Inv X pins σ H s'->RelV v u->Q u s'):wpAny (model X.prog X.w) A (getAttr (.ref a) f b) Q E s:=by
 obtain⟨mA,O,r,_,_,_⟩:=QgQ I.hok e
 obtain⟨u,hu,ru⟩:=RelO.some_of (v:=v) (o:=mA f) (by rw[← l];exact r f)
 exact QGc I.kIn O (c.get f) c.hd n hu (QDp ru) (h u _ (I.tok _) ru)
theorem QlA{m:Str}{g:Addr}{pl:Sem Bool}{Q:Value×List Value->Shared->Prop}(I:Inv X pins σ H s)(e:H a=some (.ins C dx fs))(c:Cls X.K C)(k:Meth X.K C m g)(l:fs.lookup m=none)
 (h:Q (.ref g,[.ref a]) s):wpAny (model X.prog X.w) A (getMethod (.ref a) m pl) Q E s:=by
 obtain⟨mA,O,r,_,_,_⟩:=QgQ I.hok e
 have hn:mA m=none:=RelO.none_of (by rw[← l];exact r m)
 exact QEA I.kIn O (c.get m) k.at_ k.fn hn h
theorem QBE{y:V}{u:Value}{Q:Unit->Shared->Prop}(I:Inv X pins σ H s)(e:H a=some (.ins C dx fs))(c:Cls X.K C)(n:QfI X.K C f)(hl:fs.length<1000)(ry:RelV y u)
 (h:∀ s',Inv X pins σ (upd H a (.ins C dx (putF f y fs))) s'->Q () s'):wpAny (model X.prog X.w) A (setAttr (.ref a) f u) Q E s:=by
 obtain⟨mA,O,r,wi,_,ho⟩:=QgQ I.hok e
 have hz:(fs.map (·.1)).length<=sizeLine:=by rw[List.length_map,sizeLine_eq];omega
 refine QGG I.kIn O c.sa c.po n.taker c.hd wi hz fun h' O' sb=>h _ ?_
 have hd:∃ o,h'.get? dx=some o:=let ⟨o,_,_,e',_⟩:=O'.ns;⟨o,e'⟩
 refine I.write (x:=a) (e:=dx) (by rw[e];exact True.intro) (.inr ho) (fun b q hb z=>(sb.2 b hb).trans z) hd ?_
 refine⟨by rw[Qh O.ne];exact ho,?_,O.ne,O'.obj,_,O'.ns,fun g=>?_,fun g hg=>?_⟩
 ·have:=Qkx f y fs;omega
 ·show RelO ((putF f y fs).lookup g) (if g=f then some u else mA g)
  rw[QkQ]
  by_cases q:g=f
  ·rw[if_pos q,if_pos q];exact ry
  ·rw[if_neg q,if_neg q];exact r g
 ·by_cases q:g=f
  ·rw[q];exact(Qi5 f y fs).1
  ·refine(Qi5 f y fs).2 g (wi g fun z=>hg ?_)
   show(if g=f then some u else mA g)=none
   rw[if_neg q];exact z
theorem Inv.made(I:Inv X pins σ H s):Inv X pins σ (upd (upd H s.heap.objs.size (.own (s.heap.objs.size+1))) (s.heap.objs.size+1) (.ins C s.heap.objs.size []))
 { s with heap:=(s.heap.push W.emptyDict).push (W.instObj C s.heap.objs.size) }:=by
 have e1:(s.heap.push W.emptyDict).get? s.heap.objs.size=some W.emptyDict:=Heap.get?_push_size s.heap rfl
 have e2:((s.heap.push W.emptyDict).push (W.instObj C s.heap.objs.size)).get? (s.heap.objs.size+1)=some (W.instObj C s.heap.objs.size):=by
  have:=Heap.get?_push_size (s.heap.push W.emptyDict) (o:=W.instObj C s.heap.objs.size) rfl
  rwa [Heap.size_push]at this
 have e3:(s.heap.push W.emptyDict).Ns s.heap.objs.size (fun _=>none):=⟨W.emptyDict, #[],_,e1,rfl,(fun e he=>absurd he (by simp)),fun _=>rfl⟩
 have I1:=I.laid (a:=s.heap.objs.size) (o:=.own (s.heap.objs.size+1)) (h':=s.heap.push W.emptyDict) (t':=s.toks) (fun b u q=>Heap.get?_push_of_some _ q) (Nat.le_refl _) ⟨_,e1⟩
 refine I1.laid (a:=s.heap.objs.size+1) (o:=.ins C s.heap.objs.size []) (t':=s.toks) (fun b u q=>Heap.get?_push_of_some _ q) (Nat.le_of_eq (Heap.size_push _ _)) ?_
 have ne:s.heap.objs.size≠s.heap.objs.size+1:=Nat.ne_of_lt (Nat.lt_succ_self _)
 refine⟨by rw[Qh ne,Qz],Nat.zero_le _,ne,e2,fun _=>none,(Heap.Ns1.of_empty e3).at fun o q=>Heap.get?_push_of_some _ q,fun _=>True.intro,fun y hy=>absurd rfl hy⟩
theorem QGz{prog:Program}{w:World}{env:Env}{e:Expr}{f:Str}{pos:Pos}{s:Shared}{Q:Value->Shared->Prop}(hb:attributeBase e f env (eval e env)=eval e env)
 (h:wpAny (model prog w) A (eval e env) (fun o s₁=>wpAny (model prog w) A (getAttr o f true) Q E s₁) E s):wpAny (model prog w) A (eval (.Attribute e f pos) env) Q E s:=
 Attribute_any_ h (by rw[arm_eval_Attribute,hb])
end
def tFld(K:W.Frag)(ta:TE)(f:Str):TE:=fun σ H Q=>ta σ H fun x H1=>∃ a C dx fs v,x=.ref a/\H1 a=some (.ins C dx fs)/\Cls K C/\QfI K C f/\fs.lookup f=some v/\Q v H1
def sFld(K:W.Frag)(ta tv:TE)(f:Str):TS:=fun D σ H=>tv σ H fun y H1=>ta σ H1 fun x H2=>∃ a C dx fs,x=.ref a/\H2 a=some (.ins C dx fs)/\Cls K C/\QfI K C f/\fs.length<1000/\
 D.nx σ (upd H2 a (.ins C dx (putF f y fs)))
section
variable{X:Cx}{o e value:Expr}{f:Str}{pos pos' tpos:Pos}{ta tv:TE}
theorem QG7(he:PE X e ta)(hb:attributeBase e f X.env (eval e X.env)=eval e X.env):PE X (.Attribute e f pos) (tFld X.K ta f):=by
 intro pins s σ H Q I h
 refine QGz hb (thn (he pins s σ H _ I h) fun u s1 ⟨x,H1,I1,rx,a,C,dx,fs,v,ex,ea,c,n,l,q⟩=>?_)
 subst ex
 obtain rfl:u=Value.ref a:=rx
 exact Qz7 I1 ea c n l fun u' s2 I2 ru=>⟨v,H1,I2,ru,q⟩
theorem QG2(ha:PE X o ta)(hv:PE X value tv)(hs:swapsWith value (some (.Attribute o f pos')) pos.line X.env=pure false):PS X (.Assign [.Attribute o f pos'] value pos) (sFld X.K ta tv f):=by
 intro pins s σ H D I h
 refine plainObj_wpAny_Assign_Attribute (thn (hv pins s σ H _ I h) fun u s1 ⟨y,H1,I1,ry,q⟩=>thn (ha pins s1 σ H1 _ I1 q) fun ov s2 ⟨x,H2,I2,rx,a,C,dx,fs,ex,ea,c,n,l,q2⟩=>?_) hs
 subst ex
 obtain rfl:ov=Value.ref a:=rx
 exact QBE I2 ea c n l ry fun s3 I3=>⟨σ,_,I3,q2⟩
end
section
variable{X:Cx}{pins:List (Addr×Obj)}{σ:St}{H:Hp}{s:Shared}{A:Around}{E:Value->Shared->Prop}{Q:Value->Shared->Prop}{c:Value}{b:Bool}
end
end L2
namespace L2
open PySem PySem.Spec PyProof.Rows
structure Room(k:Nat)(A:Around):Prop where
 hd:A.handled=none
 dp:A.depth+3 * k+5<recursionLimit
 un:A.units+16 * k+200<cLine
theorem Room.mono{j k:Nat}{A:Around}(r:Room k A)(h:j<=k):Room j A:=⟨r.hd,by have:=r.dp;omega,by have:=r.un;omega⟩
theorem Room.deeper{k:Nat}{A:Around}(r:Room (k+1) A)(env:Env):Room k (A.deeper env):=
 ⟨r.hd,by have:=r.dp;show A.depth+1+3 * k+5<_;omega,by have:=r.un;show A.units+3+16 * k+200<_;omega⟩
theorem QA8{A:Around}{C:Addr}{us:List Value}{kw:List (Str×Value)}:(A.under (.builtin "type.__call__" ⟨.ref C::us,kw⟩)).depth=A.depth+1:=by
 first | rfl | simp[Around.under,Code.weight,Code.isCreation,Code.isGuard,Code.isCaller,Code.frames,Code.isFrame,guardIds]
theorem QBs{A:Around}{C:Addr}{us:List Value}{kw:List (Str×Value)}:(A.under (.builtin "type.__call__" ⟨.ref C::us,kw⟩)).units=A.units+1:=by
 first | rfl | simp[Around.under,Code.cUnits,Code.frames,Code.isFrame]
theorem Room.make{k:Nat}{A:Around}(r:Room (k+1) A)(C:Addr)(us:List Value)(kw:List (Str×Value)):Room k (A.under (.builtin "type.__call__" ⟨.ref C::us,kw⟩)):=
 ⟨r.hd,by have:=r.dp;rw[QA8];omega,by have:=r.un;rw[QBs];omega⟩
theorem Room.depth{k:Nat}{A:Around}(r:Room k A):A.depth<recursionLimit:=by have:=r.dp;omega
theorem Room.units{k:Nat}{A:Around}(r:Room k A):A.units+64<cLine:=by have:=r.un;omega
def tNil:TA:=fun _ H Q=>Q [] H
def tCons(ta:TE)(tr:TA):TA:=fun σ H Q=>ta σ H fun x H1=>tr σ H1 fun xs H2=>Q (x::xs) H2
section
variable{X:Cx}{e:Expr}{es:List Expr}{te:TE}{t:TA}{pos:Pos}
theorem QbT:PA X [] tNil:=fun _ _ _ _ H Q I h=>Calls.spliced_nil ⟨[],H,I,.nil,h⟩
theorem Qax(ha:PE X e te)(hr:PA X es t)(hs:starEach (e::es) X.env=(false,eval e X.env)::starEach es X.env:=by rfl):PA X (e::es) (tCons te t):=by
 intro pos pins s σ H Q I h
 rw[hs]
 show wpAny _ _ (spliced ((false,eval e X.env)::backTo pos (starEach es X.env))) _ _ s
 refine Calls.spliced_cons (thn (ha pins s σ H _ I h) fun u s1 ⟨x,H1,I1,r1,q1⟩=>?_)
 exact thn (hr pos pins s1 σ H1 _ I1 q1) fun us s2 ⟨xs,H2,I2,r2,q2⟩=>⟨x::xs,H2,I2,.cons r1 r2,q2⟩
def tTup(t:TA):TE:=fun σ H Q=>t σ H fun xs H1=>xs.length<=sizeLine/\∀ p,H1 p=none->Q (.ref p) (upd H1 p (.tup xs))
def tLst(t:TA):TE:=fun σ H Q=>t σ H fun xs H1=>xs.length<=sizeLine/\∀ p,H1 p=none->Q (.ref p) (upd H1 p (.lst xs))
theorem Qsf{x1}(h:PA X es t):PE X (.Tuple es x1 pos) (tTup t):=by
 intro pins s σ H Q I hq
 refine wpAny_Tuple_spliced (thn (h pos pins s σ H _ I hq) fun us s1 ⟨xs,H1,I1,r,z,q⟩=>⟨by rw[← r.length];exact z,?_⟩)
 have hf:H1 s1.heap.objs.size=none:=I1.hok.fresh (Nat.le_refl _)
 refine⟨.ref s1.heap.objs.size,upd H1 s1.heap.objs.size (.tup xs),I1.laid (t':=s1.toks) (fun b u e=>Heap.get?_push_of_some _ e) (Nat.le_refl _) ?_,rfl,q _ hf⟩
 exact⟨z,us,r,⟨_,Heap.get?_push_size _ rfl,rfl,_,rfl⟩⟩
theorem QHE(h:PA X es t):PE X (.List es pos) (tLst t):=by
 intro pins s σ H Q I hq
 refine wpAny_List_spliced (thn (h pos pins s σ H _ I hq) fun us s1 ⟨xs,H1,I1,r,z,q⟩=>⟨by rw[← r.length];exact z,?_⟩)
 have hf:H1 s1.heap.objs.size=none:=I1.hok.fresh (Nat.le_refl _)
 refine⟨.ref s1.heap.objs.size,upd H1 s1.heap.objs.size (.lst xs),I1.laid (t':=s1.toks) (fun b u e=>Heap.get?_push_of_some _ e) (Nat.le_refl _) ?_,rfl,q _ hf⟩
 exact⟨z,us,0,r,Heap.get?_push_size _ rfl⟩
end
abbrev Sp:=List V->Hp->VK->XK->Prop
abbrev CXT:=List Env->Hp->Shared->XK->Value->Shared->Prop
structure Env0(P:Program)(w:World)(K:W.Frag)(mg:Str->Option Value)(base:Heap)(A:Around)(outer:List Env)(s:Shared)(H:Hp):Prop where
 frames:A.frames=some outer
 mod:Mod K mg base
 bs:∀ b o,base.get? b=some o->s.heap.get? b=some o/\H b=none
 bsz:base.objs.size<=s.heap.objs.size
 funs:s.heap.FunFrames base outer
 frf:∀ b∈frs outer,H b=none
 hok:HOk P w H s.heap
 bare:AllBare s.gens
def CE(outer:List Env)(P:Program)(w:World)(H:Hp)(s:Shared)(Q:VK)(u:Value)(s':Shared):Prop:=
 ∃ v H',s'.os=s.os/\AllBare s'.gens/\Un (frs outer) [] H H' s.heap s'.heap/\HOk P w H' s'.heap/\RelV v u/\Q v H'
def CR(CX:CXT)(outer:List Env)(P:Program)(w:World)(H:Hp)(s:Shared)(Q:VK)(E:XK)(r:Result)(s':Shared):Prop:=
 match r with
 | .ok (.ret u)=>CE outer P w H s Q u s'
 | .ok _=>False
 | .error e=>CX outer H s E e s'
structure FnOk(P:Program)(w:World)(K:W.Frag)(mg:Str->Option Value)(base:Heap)(CX:CXT)(k:Nat)(f:Addr)(fd:FuncData)(ps:List Str)(sp:Sp):Prop where
 len:∀ vs H Q E,sp vs H Q E->vs.length=ps.length
 run:∀(A:Around)(outer:List Env)(s:Shared)(H:Hp)(args:Args)(us:List Value)(vs:List V)(Q:VK)(E:XK),Room k A->Env0 P w K mg base A outer s H->BindsTo s fd args (ps.zip us)->Vals vs us->sp vs H Q E->
  codeAny (model P w) A (.call (.ref f) args) (CR CX outer P w H s Q E) s
theorem FnOk.mono{P:Program}{w:World}{K:W.Frag}{mg:Str->Option Value}{base:Heap}{CX:CXT}{j k:Nat}{f:Addr}{fd:FuncData}{ps:List Str}{sp:Sp}(F:FnOk P w K mg base CX j f fd ps sp)(h:j<=k):
 FnOk P w K mg base CX k f fd ps sp:=⟨F.len,fun A outer s H args us vs Q E hr=>F.run A outer s H args us vs Q E (hr.mono h)⟩
theorem FnOk.imp{P:Program}{w:World}{K:W.Frag}{mg:Str->Option Value}{base:Heap}{CX:CXT}{k:Nat}{f:Addr}{fd:FuncData}{ps:List Str}{sp sp':Sp}(F:FnOk P w K mg base CX k f fd ps sp)
 (h:∀ vs H Q E,sp' vs H Q E->sp vs H Q E):FnOk P w K mg base CX k f fd ps sp':=
 ⟨fun vs H Q E q=>F.len vs H Q E (h _ _ _ _ q),fun A outer s H args us vs Q E hr he hb hv hs=>F.run A outer s H args us vs Q E hr he hb hv (h _ _ _ _ hs)⟩
theorem Env0.make{P:Program}{w:World}{K:W.Frag}{mg:Str->Option Value}{base:Heap}{A:Around}{outer:List Env}{s:Shared}{H:Hp}(e:Env0 P w K mg base A outer s H)(C:Addr)(us:List Value)(kw:List (Str×Value)):
 Env0 P w K mg base (A.under (.builtin "type.__call__" ⟨.ref C::us,kw⟩)) outer s H:=⟨by first | exact e.frames | (simpa [Around.under,Code.envs,Code.isFrame,pushEnvs] using e.frames),e.mod,e.bs,e.bsz,e.funs,e.frf,e.hok,e.bare⟩
section
variable{X:Cx}{pins:List (Addr×Obj)}{σ:St}{H:Hp}{s s':Shared}
theorem Inv.env0(I:Inv X pins σ H s):Env0 X.prog X.w X.K X.mg X.base X.A X.stack s H:=
 ⟨I.ok.frames,I.ok.mod,I.bs,Nat.le_trans I.ok.bsz I.sz,I.stack,I.stkFree,I.hok,I.bare⟩
theorem Inv.after{Q:VK}{u:Value}(I:Inv X pins σ H s)(h:CE X.stack X.prog X.w H s Q u s'):EP X pins σ Q u s':=by
 obtain⟨v,H',os,bare,un,hok,r,q⟩:=h
 obtain⟨hh,g,d,t,os'⟩:=s'
 obtain rfl:os'=s.os:=os
 exact⟨v,H',I.call (h':=hh) (g':=g) (d':=d) (t':=t) (ch:=[]) un hok bare (fun b z=>absurd z (by simp)),r,q⟩
end
def tCall(sp:Sp)(dvs:List V)(E:XK)(t:TA):TE:=fun σ H Q=>t σ H fun vs H1=>sp (vs++dvs) H1 Q E
def tMake(C:Addr)(sp:Sp)(dvs:List V)(E:XK)(t:TA):TE:=fun σ H Q=>t σ H fun vs H1=>∀ x dx,H1 x=none->H1 dx=none->dx≠x->
 sp (.ref x::(vs++dvs)) (upd (upd H1 dx (.own x)) x (.ins C dx [])) (fun v H2=>v=.non/\Q (.ref x) H2) E
def Binds(K:W.Frag)(fd:FuncData)(ps:List Str)(ds:List Value):Prop:=
 ∀(s:Shared)(us:List Value),K.In s.heap->(us++ds).length=ps.length->BindsTo s fd ⟨us,[]⟩ (ps.zip (us++ds))
theorem Binds.all{K:W.Frag}{fd:FuncData}{ps:List Str}(h:∀ us:List Value,us.length=ps.length->bindArgs fd ⟨us,[]⟩=pure (ps.zip us)):Binds K fd ps []:=fun s us _ hl=>by
 rw[List.append_nil]at hl ⊢
 exact .of_eq (h us hl)
def Qd5(CX:CXT)(X:Cx)(E:XK):Prop:=∀(pins:List (Addr×Obj))(σ:St)(H:Hp)(s:Shared)(e:Value)(s':Shared),Inv X pins σ H s->CX X.stack H s E e s'->X.xe e s'
section
variable{X:Cx}{CX:CXT}{k:Nat}{f C:Addr}{fd:FuncData}{ps:List Str}{sp:Sp}{dvs:List V}{ds:List Value}{E:XK}{x m:Str}{p pos apos:Pos}{e o:Expr}{es:List Expr}{ta:TE}{t:TA}
theorem QrW{pins:List (Addr×Obj)}{σ:St}{H:Hp}{s:Shared}{Q:VK}{us:List Value}{vs:List V}(F:FnOk X.prog X.w X.K X.mg X.base CX k f fd ps sp)(hr:Room k X.A)(hb:Binds X.K fd ps ds)(hd:Vals dvs ds)(hx:Qd5 CX X E)
 (I:Inv X pins σ H s) (r:Vals vs us) (h:sp (vs++dvs) H Q E):wpAny (model X.prog X.w) X.A (call (.ref f) us) (EP X pins σ Q) X.xe s:=by
 have r2:Vals (vs++dvs) (us++ds):=r.append hd
 have hl:(us++ds).length=ps.length:=by rw[← r2.length];exact F.len _ _ _ _ h
 refine wpAny_call (codeAny_mono (F.run X.A X.stack s H ⟨us,[]⟩ (us++ds) (vs++dvs) Q E hr I.env0 (hb s us I.kIn hl) r2 h) fun r s' hq=>?_)
 cases r with
 | error e=>exact hx pins σ H s e s' I hq
 | ok fl=>
  cases fl with
  | ret u=>exact I.after hq
  | next=>exact False.elim hq
  | brk=>exact False.elim hq
  | cont=>exact False.elim hq
theorem Qg7(F:FnOk X.prog X.w X.K X.mg X.base CX k f fd ps sp)(hr:Room k X.A)(hg:Gl X x)(hm:X.mg x=some (.ref f))(hk:W.keepIn X.K (.ref f)=true)(hb:Binds X.K fd ps ds)(hd:Vals dvs ds)(hx:Qd5 CX X E)
 (ha:PA X (e::es) t) (hdb:(x == ("__debug__":Str))=false:=by decide) (he:starEach (e::es) X.env=(false,eval e X.env)::starEach es X.env:=by rfl) (hpl:(backTo pos (starEach es X.env)).any (·.1)=false:=by rfl):
 PE X (.Call (.Name x p) (e::es) [] pos) (tCall sp dvs E t):=by
 intro pins s σ H Q I h
 refine wpAny_Call_Name_kw (QnM I hg hm ?_ hdb)
 refine W.callWith_K (h₀:=X.base) I.ok.mod.kin hk (thn (ha pos pins s σ H _ I h) fun us s1 ⟨vs,H1,I1,r,q⟩=>⟨I1.kIn,?_⟩) he hpl
 exact QrW F hr hb hd hx I1 r q
structure Mk(K:W.Frag)(C f:Addr):Prop where
 makes:W.makesIn K C=true
 init:W.findIn K (.ref C) "__init__"=some (some (.ref f))
 fn:W.isFn K (.ref f)=true
 kp:W.keepIn K (.ref C)=true
theorem QDX{pins:List (Addr×Obj)}{σ:St}{H:Hp}{s:Shared}{Q:VK}{us:List Value}{vs:List V}(M:Mk X.K C f)(F:FnOk X.prog X.w X.K X.mg X.base CX k f fd ps sp)(hr:Room (k+1) X.A)(hb:Binds X.K fd ps ds)(hd:Vals dvs ds)
 (hx:Qd5 CX X E) (I:Inv X pins σ H s) (r:Vals vs us)
 (h:∀ x dx,H x=none->H dx=none->dx≠x->sp (.ref x::(vs++dvs)) (upd (upd H dx (.own x)) x (.ins C dx [])) (fun v H2=>v=.non/\Q (.ref x) H2) E):
 wpAny (model X.prog X.w) X.A (call (.ref C) us) (EP X pins σ Q) X.xe s:=by
 have hq:=h (s.heap.objs.size+1) s.heap.objs.size (I.hok.fresh (Nat.le_succ _)) (I.hok.fresh (Nat.le_refl _)) (Nat.ne_of_lt (Nat.lt_succ_self _))
 have I2:=Inv.made (C:=C) I
 have r2:Vals (V.ref (s.heap.objs.size+1)::(vs++dvs)) (Value.ref (s.heap.objs.size+1)::(us++ds)):=.cons rfl (r.append hd)
 have hl:(Value.ref (s.heap.objs.size+1)::us++ds).length=ps.length:=by
  have e:=r2.length
  rw[F.len _ _ _ _ hq]at e
  exact e.symm
 refine wpAny_call (QDS (f:=f) I.kIn M.makes M.init (beq_iff_eq.mp M.fn) (codeAny_mono (F.run _ X.stack _ _ ⟨Value.ref (s.heap.objs.size+1)::us,[]⟩ (Value.ref (s.heap.objs.size+1)::(us++ds)) _ _ E (hr.make C us [])
  (I2.env0.make C us []) (hb _ (Value.ref (s.heap.objs.size+1)::us) I2.kIn hl) r2 hq) fun r s' hq'=>?_))
 cases r with
 | error e=>exact hx pins σ _ _ e s' I2 hq'
 | ok fl=>
  cases fl with
  | ret u=>
   obtain⟨v,H',I3,rv,ev,q3⟩:=I2.after hq'
   subst ev
   exact⟨rv,⟨V.ref (s.heap.objs.size+1),H',I3,rfl,q3⟩⟩
  | next=>exact False.elim hq'
  | brk=>exact False.elim hq'
  | cont=>exact False.elim hq'
theorem QGf(M:Mk X.K C f)(F:FnOk X.prog X.w X.K X.mg X.base CX k f fd ps sp)(hr:Room (k+1) X.A)(hg:Gl X x)(hm:X.mg x=some (.ref C))(hb:Binds X.K fd ps ds)(hd:Vals dvs ds)(hx:Qd5 CX X E)
 (ha:PA X (e::es) t) (hdb:(x == ("__debug__":Str))=false:=by decide) (he:starEach (e::es) X.env=(false,eval e X.env)::starEach es X.env:=by rfl) (hpl:(backTo pos (starEach es X.env)).any (·.1)=false:=by rfl):
 PE X (.Call (.Name x p) (e::es) [] pos) (tMake C sp dvs E t):=by
 intro pins s σ H Q I h
 refine wpAny_Call_Name_kw (QnM I hg hm ?_ hdb)
 refine W.callWith_K (h₀:=X.base) I.ok.mod.kin M.kp (thn (ha pos pins s σ H _ I h) fun us s1 ⟨vs,H1,I1,r,q⟩=>⟨I1.kIn,?_⟩) he hpl
 exact QDX M F hr hb hd hx I1 r q
end
section
variable{X:Cx}{CX:CXT}{k:Nat}{f C:Addr}{fd:FuncData}{ps ks:List Str}{sp:Sp}{E:XK}{x m:Str}{p pos apos kpos:Pos}{e o:Expr}{es:List Expr}{kws:List Keyword}{te ta:TE}{t tk:TA}{nm:Option Str}
variable{g:List Value->List Value->List Value}{gV:List V->List V->List V}
end
structure Qr(N P:List Str)(sc:Scope):Prop where
 kind:sc.kind=.function
 co:sc.isCoroutine=false
 gen:sc.isGenerator=false
 nd:N.Nodup
 pre:N.take P.length=P
 par:∀ x∈P,sc.names.lookup x=some .local∨sc.names.lookup x=some .cell
 nofree:∀ y∈sc.names,y.2≠.free
theorem QpG{kindOf:Str->Option NameKind}{x:Str}:∀{binds:List (Str×Value)}{m:Str->Option Value},(∀ v,(x,v)∉binds)->bindL kindOf binds m x=m x
 | [],_,_=>rfl
 | (n,v)::r,m,h=>by
  unfold bindL
  rw[QpG fun w hw=>h w (List.mem_cons_of_mem _ hw)]
  split
  ·have:x≠n:=by rintro rfl;exact h v List.mem_cons_self
   simp[this]
  ·rfl
theorem QpI{kindOf:Str->Option NameKind}{x:Str}:∀{binds:List (Str×Value)}{m:Str->Option Value},(∀ v,(x,v)∉binds)->bindC kindOf binds m x=m x
 | [],_,_=>rfl
 | (n,v)::r,m,h=>by
  unfold bindC
  rw[QpI fun w hw=>h w (List.mem_cons_of_mem _ hw)]
  split
  ·rfl
  ·have:x≠n:=by rintro rfl;exact h v List.mem_cons_self
   simp[this]
theorem Qpt{kindOf:Str->Option NameKind}{x:Str}{v:Value}:∀{P:List Str}{vs:List Value}{i:Nat}{m:Str->Option Value},P.Nodup->P[i]?=some x->vs[i]?=some v->kindOf x=some .local->
 bindL kindOf (P.zip vs) m x=some v
 | [],_,_,_,_,h,_,_=>by simp at h
 | _::_,[],_,_,_,_,h,_=>by simp at h
 | p::P,w::vs,0,m,nd,h1,h2,hk=>by
  simp at h1 h2;subst h1;subst h2
  show bindL kindOf ((p,w)::P.zip vs) m p=_
  unfold bindL
  rw[QpG fun v hv=>(List.nodup_cons.mp nd).1 (List.of_mem_zip hv).1,if_pos hk]
  simp
 | p::P,w::vs,i+1,m,nd,h1,h2,hk=>by
  show bindL kindOf ((p,w)::P.zip vs) m x=_
  unfold bindL
  exact Qpt (i:=i) (List.nodup_cons.mp nd).2 (by simpa using h1) (by simpa using h2) hk
theorem Qpj{kindOf:Str->Option NameKind}{x:Str}{v:Value}:∀{P:List Str}{vs:List Value}{i:Nat}{m:Str->Option Value},P.Nodup->P[i]?=some x->vs[i]?=some v->kindOf x≠some .local->
 bindC kindOf (P.zip vs) m x=some v
 | [],_,_,_,_,h,_,_=>by simp at h
 | _::_,[],_,_,_,_,h,_=>by simp at h
 | p::P,w::vs,0,m,nd,h1,h2,hk=>by
  simp at h1 h2;subst h1;subst h2
  show bindC kindOf ((p,w)::P.zip vs) m p=_
  unfold bindC
  rw[QpI fun v hv=>(List.nodup_cons.mp nd).1 (List.of_mem_zip hv).1,if_neg hk]
  simp
 | p::P,w::vs,i+1,m,nd,h1,h2,hk=>by
  show bindC kindOf ((p,w)::P.zip vs) m x=_
  unfold bindC
  exact Qpj (i:=i) (List.nodup_cons.mp nd).2 (by simpa using h1) (by simpa using h2) hk
def start(N:List Str)(vs:List V):St:=vs.map some++List.replicate (N.length - vs.length) none
def cxOf(CX:CXT)(P:Program)(w:World)(K:W.Frag)(mg:Str->Option Value)(base:Heap)(N:List Str)(qual:Str)(scope:Scope)(f:Addr)(cd:Value)(A:Around)(outer:List Env)(s:Shared)(H:Hp)(E:XK):Cx where
 prog:=P
 w:=w
 K:=K
 mg:=mg
 base:=base
 A:=A.deeper (envOfC qual scope s.heap.objs.size f cd)
 N:=N
 s₀:=s
 H₀:=H
 env:=envOfC qual scope s.heap.objs.size f cd
 outer:=outer
 stack:=envOfC qual scope s.heap.objs.size f cd::outer
 ex:=[]
 calm:=true
 fn:=fun _=>true
 pn:=[]
 xe:=fun e s'=>wpAny (model P w) (A.deeper (envOfC qual scope s.heap.objs.size f cd)) (leaving (envOfC qual scope s.heap.objs.size f cd) e) (fun _ s''=>CX outer H s E e s'') (fun e' s''=>CX outer H s E e' s'') s'
theorem Qux{sc:Scope}{n:Nat}{x:Str}(h:sc.names.lookup x=some .cell):∃ c,(cellsFrom n sc.names []).lookup x=some c:=by
 have q:=W.cellsFrom_some sc.names n [] (.inl h)
 exact Option.isSome_iff_exists.mp q
theorem QBV{CX:CXT}{P:Program}{w:World}{K:W.Frag}{mg:Str->Option Value}{base:Heap}{N ps:List Str}{qual:Str}{scope:Scope}{f:Addr}{cd:Value}{A:Around}{outer:List Env}{s s1:Shared}{H:Hp}{E:XK}{us:List Value}{vs:List V}
 (S:Qr N ps scope) (hd:A.handled=none) (e0:Env0 P w K mg base A outer s H) (hl:vs.length=ps.length) (r:Vals vs us)
 (x:InCallC s s.heap.objs.size (bindL (envOfC qual scope s.heap.objs.size f cd).kindOf (ps.zip us) fun _=>none) (cellsFrom (s.heap.objs.size+1) scope.names []) (bindC (envOfC qual scope s.heap.objs.size f cd).kindOf (ps.zip us) fun _=>none) s1):
 Inv (cxOf CX P w K mg base N qual scope f cd A outer s H E) [] (start N vs) H s1:=by
 have hpl:ps.length<=N.length:=by have:=congrArg List.length S.pre;rw[List.length_take]at this;omega
 obtain⟨h1,tk,rfl,hk⟩:=x.done
 have noA:∀ b:Addr,b∉(cxOf CX P w K mg base N qual scope f cd A outer s H E).ex:=fun b z=>absurd (show b∈([]:List Addr) from z) (by simp)
 refine⟨⟨e0.mod,S.kind,rfl,rfl,Nat.le_refl _,fun y z c h1 h2=>?_,fun y hy=>?_,fun y c _ h=>?_,fun _=>hd,Around.frames_deeper e0.frames,.inr ⟨rfl,rfl⟩,fun b z=>absurd z (noA b),e0.bs,e0.bsz,fun b _ _=>noA b,fun b z=>absurd z (noA b),e0.funs,e0.frf⟩,
  rfl,e0.bare,Un.kept hk,⟨_,x.toInCall.ns,fun i y v h1 h2 h3=>?_⟩,fun y c h=>⟨_,x.cell y c h⟩,e0.hok.fresh (Nat.le_refl _),fun y c h=>?_,fun p hp=>absurd (show p∈([]:List (Addr×Obj)) from hp) (by simp),e0.hok.kept hk,?_⟩
 ·exact name_of_addr x.apart (PySem.mem_of_lookup h1) (PySem.mem_of_lookup h2)
 ·have hy:scope.names.lookup y=some .cell∨scope.names.lookup y=some .free:=hy
  rcases hy with hy | hy
  ·exact Qux hy
  ·exact absurd rfl (S.nofree _ (PySem.mem_of_lookup hy))
 ·exact Nat.le_of_lt (x.above y c (PySem.mem_of_lookup h))
 ·have hi:i<vs.length:=by
   unfold start at h2
   by_cases hi:i<vs.length
   ·exact hi
   ·rw[List.getElem?_append_right (by simpa using hi)]at h2
    rw[List.getElem?_replicate]at h2
    split at h2<;>cases h2
  have ha:vs[i]?=some v:=by
   unfold start at h2
   rw[List.getElem?_append_left (by simpa using hi),List.getElem?_map]at h2
   cases e:vs[i]? with
   | none=>rw[e]at h2;cases h2
   | some a=>rw[e]at h2;cases h2;rfl
  obtain⟨u,hu,rv⟩:=r.get ha
  have hp:ps[i]?=some y:=by
   rw[← S.pre,List.getElem?_take_of_lt (by omega)];exact h1
  have ndP:ps.Nodup:=by rw[← S.pre];exact S.nd.sublist (List.take_sublist _ _)
  refine⟨u,rv,?_⟩
  rcases S.par y (List.mem_of_getElem? hp) with k | k
  ·exact .inl ⟨k,Qpt ndP hp hu k⟩
  ·obtain⟨c,e⟩:=Qux (n:=s.heap.objs.size+1) k
   refine .inr ⟨.inl k,c,e,?_⟩
   have q:=x.cell y c e
   rw[Qpj ndP hp hu (by show scope.names.lookup y≠_;rw[k];decide)]at q
   exact q
 ·exact e0.hok.fresh (Nat.le_of_lt (x.above y c (PySem.mem_of_lookup h)))
 ·unfold start
  show _=N.length
  rw[List.length_append,List.length_map,List.length_replicate]
  omega
theorem fn_of{CX:CXT}{P:Program}{w:World}{K:W.Frag}{mg:Str->Option Value}{base:Heap}{k:Nat}{f:Addr}{name qual:Str}{params:Arguments}{body:List Stmt}{scope:Scope}{dV kV doc pm cdv ct oc:Value}{an od:Option Addr}
 {osl:Array (Option Value)} {N ps:List Str} {sp:Sp} (lk:K.lookup f=some ⟨oc,od,.func (W.fnOf name qual params body scope dV kV doc pm an cdv ct),osl⟩) (hcd:W.codeIn K cdv qual=true) (S:Qr N ps scope)
 (len:∀ vs H Q E,sp vs H Q E->vs.length=ps.length)
 (hbody:∀(A:Around)(outer:List Env)(s:Shared)(H:Hp)(vs:List V)(Q:VK)(E:XK),Room k (A.deeper (envOfC qual scope s.heap.objs.size f cdv))->sp vs H Q E->
  ∃ t,PSs (cxOf CX P w K mg base N qual scope f cdv A outer s H E) body t/\t { nx:=fun _ H'=>Q .non H',rt:=Q } (start N vs) H):
 FnOk P w K mg base CX (k+1) f (W.fnOf name qual params body scope dV kV doc pm an cdv ct) ps sp:=by
 refine⟨len,fun A outer s H args us vs Q E hr e0 hb r hsp=>?_⟩
 have hl:=len _ _ _ _ hsp
 have KX:K.In s.heap:=e0.mod.kin.keeps fun b o e=>(e0.bs b o e).1
 have lim:s.heap.NoLimit:=e0.mod.nolimit.keeps fun b o e=>(e0.bs b o e).1
 have hkind:∀ y∈ps.zip us,scope.names.lookup y.1=some .local∨(scope.names.lookup y.1=some .cell/\((cellsFrom (s.heap.objs.size+1) scope.names []).lookup y.1).isSome=true):=fun⟨n,v⟩ hy=>by
  rcases S.par n (List.of_mem_zip hy).1 with q | q
  ·exact .inl q
  ·exact .inr ⟨q,W.cellsFrom_some _ _ _ (.inl q)⟩
 refine codeAny_call_function hr.depth (KX _ _ lk) rfl S.co S.gen rfl (W.codeRec_of KX hcd) (hb _ _ _ _ ?_)
 refine wpAny_newFunctionEnv_cells S.kind hkind fun env he s1 x=>?_
 subst he
 refine⟨lim.keeps x.toInCall.keep,codeAny_func ?_⟩
 obtain⟨t,ht,hq⟩:=hbody A outer s H vs Q E (hr.deeper _) hsp
 have I:Inv (cxOf CX P w K mg base N qual scope f cdv A outer s H E) [] (start N vs) H s1:=QBV S hr.hd e0 hl r x
 refine wpAny_mono (ht [] s1 (start N vs) H _ I hq) (fun fl s' hs=>?_) fun e s' hs=>hs
 have fin:∀{σ':St}{H':Hp}{v:V}{u:Value},Inv (cxOf CX P w K mg base N qual scope f cdv A outer s H E) [] σ' H' s'->RelV v u->Q v H'->CE outer P w H s Q u s':=
  fun {σ' H' v u} J rv q=>⟨v,H',J.os,J.bare,J.base,J.hok,rv,q⟩
 cases fl with
 | ret u=>
  obtain⟨v,σ',H',J,rv,q⟩:=hs
  exact fin J rv q
 | next=>
  obtain⟨σ',H',J,q⟩:=hs
  exact fin (v:=V.non) (u:=Value.none) J rfl q
 | brk=>
  obtain⟨_,_,_,q⟩:=hs
  exact False.elim q
 | cont=>
  obtain⟨_,_,_,q⟩:=hs
  exact False.elim q
end L2
namespace L2
open PySem PySem.Spec PyProof.Rows
section
variable{X:Cx}{x:Str}{p pos:Pos}{e:Expr}{es:List Expr}{t:TA}{id T:String}{r:List V->Hp->VK->Prop}
def tCB(r:List V->Hp->VK->Prop)(t:TA):TE:=fun σ H Q=>t σ H fun vs H1=>r vs H1 Q
theorem Qla(hc:CallR X (.builtin id) r)(hg:Gl X x)(hm:X.mg x=none)(hv:bootBuiltins x=some (.builtin id))(ha:PA X (e::es) t)(hn:x≠"__name__":=by decide)(hdb:(x == ("__debug__":Str))=false:=by decide)
 (he:starEach (e::es) X.env=(false,eval e X.env)::starEach es X.env:=by rfl) (hpl:(backTo pos (starEach es X.env)).any (·.1)=false:=by rfl):PE X (.Call (.Name x p) (e::es) [] pos) (tCB r t):=by
 intro pins s σ H Q I h
 refine wpAny_Call_Name_kw (QdC I hg hm hv ?_ hn hdb)
 exact PyProof.Rows.callWith_builtin1 (thn (ha pos pins s σ H _ I h) fun us s1 ⟨vs,H1,I1,r1,q1⟩=>hc pins s1 σ H1 vs us Q I1 r1 q1) he hpl
theorem Qpr(hc:CallR X (.type T) r)(hg:Gl X x)(hm:X.mg x=none)(hv:bootBuiltins x=some (.type T))(ha:PA X (e::es) t)(hn:x≠"__name__":=by decide)(hdb:(x == ("__debug__":Str))=false:=by decide)
 (he:starEach (e::es) X.env=(false,eval e X.env)::starEach es X.env:=by rfl) (hpl:(backTo pos (starEach es X.env)).any (·.1)=false:=by rfl):PE X (.Call (.Name x p) (e::es) [] pos) (tCB r t):=by
 intro pins s σ H Q I h
 refine wpAny_Call_Name_kw (QdC I hg hm hv ?_ hn hdb)
 exact PyProof.Rows.callWith_type1 (thn (ha pos pins s σ H _ I h) fun us s1 ⟨vs,H1,I1,r1,q1⟩=>hc pins s1 σ H1 vs us Q I1 r1 q1) he hpl
end
end L2
namespace HT
open PySem PyProof.Rows
section
open PySem.SeqAt
open PySem.AutoSeq1 (wpAny_loadPart')
open PySem.MeetsSeq PySem.MeetsSeq2 PySem.MeetsSeq3
end
section
variable{prog:Program}{w:World}{A:Around}{E:Value->Shared->Prop}{s:Shared}
def sIx(n d:Nat):Option Int->Nat
 | none=>d
 | some v=>if v<0 then(v+(n:Int)).toNat else min v.toNat n
theorem sIx_none(n d:Nat):sIx n d none=d:=rfl
theorem sIx_nat(n d k:Nat):sIx n d (some (k:Int))=min k n:=by
 show(if (k:Int)<0 then((k:Int)+(n:Int)).toNat else min (k:Int).toNat n)=min k n
 rw[if_neg (by omega),Int.toNat_natCast]
end
end HT
namespace L2
open PySem PySem.Spec PyProof.Rows
abbrev TO:=St->Hp->(Option Int->Hp->Prop)->Prop
def PO(X:Cx)(e:Option Expr)(t:TO):Prop:=
 ∀(pins:List (Addr×Obj))(s:Shared)(σ:St)(H:Hp)(Q:Option Int->Hp->Prop),Inv X pins σ H s->t σ H Q->
  wpAny (model X.prog X.w) X.A (evalPart e X.env) (fun u s'=>∃ o H',Inv X pins σ H' s'/\IsPart u o/\Q o H') X.xe s
def QFR:TO:=fun _ H Q=>Q none H
def tPart(t:TE):TO:=fun σ H Q=>t σ H fun x H1=>∃ i,x=.int i/\Q (some i) H1
section
variable{X:Cx}{e:Expr}{te:TE}{lo hi:Option Expr}{tl th:TO}{pos p2:Pos}
theorem QFd:PO X none QFR:=by
 intro pins s σ H Q I h
 rw[evalPart_none]
 exact wpAny_pure ⟨none,H,I,.none,h⟩
theorem QGF(h:PE X e te):PO X (some e) (tPart te):=by
 intro pins s σ H Q I hw
 rw[evalPart_some]
 refine thn (h pins s σ H _ I hw) fun u s1 ⟨x,H1,I1,r1,q1⟩=>?_
 obtain⟨i,rfl,q⟩:=q1
 obtain⟨t,rfl⟩:=r1
 exact⟨some i,H1,I1,.int i t,q⟩
def SlR(X:Cx)(r:V->Option Int->Option Int->Hp->VK->Prop):Prop:=
 ∀(pins:List (Addr×Obj))(s:Shared)(σ:St)(H:Hp)(x:V)(v vl vu:Value)(lo hi:Option Int)(sl:Addr)(Q:VK),Inv X pins σ H s->RelV x v->s.heap.IsSliceOf sl vl vu .none->IsPart vl lo->IsPart vu hi->r x lo hi H Q->
  ∃ T id,typeLookup (.type T) "__getitem__"=pure (some (.builtin id))/\s.TypeIs v T/\wpAny (model X.prog X.w) X.A (getItem v (.ref sl)) (EP X pins σ Q) X.xe s
def tSl(r:V->Option Int->Option Int->Hp->VK->Prop)(te:TE)(tl th:TO):TE:=fun σ H Q=>te σ H fun x H1=>tl σ H1 fun l H2=>th σ H2 fun u H3=>r x l u H3 Q
theorem QEn{r:V->Option Int->Option Int->Hp->VK->Prop}(hr:SlR X r)(he:PE X e te)(hl:PO X lo tl)(hu:PO X hi th):PE X (.Subscript e (.Slice lo hi none p2) pos) (tSl r te tl th):=by
 intro pins s σ H Q I h
 refine Subscript_ (thn (he pins s σ H _ I h) fun v s1 ⟨x,H1,I1,r1,q1⟩=>?_)
 refine wpAny_Slice (thn (hl pins s1 σ H1 _ I1 q1) fun vl s2 ⟨l,H2,I2,pl,q2⟩=>thn (hu pins s2 σ H2 _ I2 q2) fun vu s3 ⟨u,H3,I3,pu,q3⟩=>?_)
 rw[evalPart_none]
 refine wpAny_pure ?_
 have I4:Inv X pins σ H3 { s3 with heap:=s3.heap.push { cls:=.type "slice",data:=.fields #[vl,vu,.none] } }:=I3.kept (t':=s3.toks) fun b ob q=>Heap.get?_push_of_some _ q
 obtain⟨T,id,hT,ht,hg⟩:=hr pins { s3 with heap:=s3.heap.push { cls:=.type "slice",data:=.fields #[vl,vu,.none] } } σ H3 x v vl vu l u s3.heap.objs.size Q I4 r1 (Heap.IsSliceOf.new ..) pl pu q3
 show wpAny (model X.prog X.w) X.A (subscriptTail e (.Slice lo hi none p2) v (.ref s3.heap.objs.size)) (EP X pins σ Q) X.xe { s3 with heap:=s3.heap.push { cls:=.type "slice",data:=.fields #[vl,vu,.none] } }
 exact tail_any (ops:=[.ref s3.heap.objs.size,v]) ht hT hg (by with_unfolding_all rfl)
def cutV(xs:List V)(lo hi:Option Int):List V:=(xs.drop (HT.sIx xs.length 0 lo)).take (HT.sIx xs.length xs.length hi - HT.sIx xs.length 0 lo)
theorem Qyy(xs:List V)(lo hi:Option Int):(cutV xs lo hi).length<=xs.length:=by
 unfold cutV
 rw[List.length_take,List.length_drop]
 omega
end
end L2
namespace L2
open PySem PySem.Spec PyProof.Rows
def ixN(n:Nat)(i:Int):Option Nat:=if 0<=i then(if i<n then some i.toNat else none) else if -(n:Int)<=i then some (i+n).toNat else none
def atI{α:Type}(xs:List α)(i:Int):Option α:=(ixN xs.length i).bind fun j=>xs[j]?
theorem Qzu{n:Nat}{i:Int}{j:Nat}(h:ixN n i=some j):seqIndex? i n=some j/\j<n /\ -(n:Int)<=i/\i<n:=by
 unfold ixN at h
 by_cases h0:0<=i
 ·rw[if_pos h0]at h
  by_cases h1:i<n
  ·rw[if_pos h1]at h
   have e:i.toNat=j:=Option.some.inj h
   exact⟨by rw[seqIndex_of h0 h1,e],by omega,by omega,h1⟩
  ·rw[if_neg h1]at h;cases h
 ·rw[if_neg h0]at h
  by_cases h1 : -(n:Int)<=i
  ·rw[if_pos h1]at h
   have e:(i+n).toNat=j:=Option.some.inj h
   exact⟨by rw[seqIndex_neg (by omega) h1,e],by omega,h1,by omega⟩
  ·rw[if_neg h1]at h;cases h
theorem Qpd{α:Type}{xs:List α}{i:Int}{v:α}(h:atI xs i=some v):∃ j,seqIndex? i xs.length=some j/\xs[j]?=some v/\j<xs.length /\ -(xs.length:Int)<=i/\i<xs.length:=by
 unfold atI at h
 cases e:ixN xs.length i with
 | none=>rw[e]at h;cases h
 | some j=>
  rw[e]at h
  obtain⟨h1,h2,h3,h4⟩:=Qzu e
  exact⟨j,h1,h,h2,h3,h4⟩
theorem Qzn{α:Type}{xs:List α}{j:Nat}{v:α}(h:xs[j]?=some v):atI xs (j:Int)=some v:=by
 have hj:j<xs.length:=(List.getElem?_eq_some_iff.mp h).1
 have e:ixN xs.length (j:Int)=some j:=by
  unfold ixN
  rw[if_pos (by omega),if_pos (by omega)];simp
 unfold atI;rw[e];exact h
def QjR(b:Expr):Prop:=∀ o i,subscripted b false o i=operate [o,i] (getItem o i)
def IxR(X:Cx)(r:R2):Prop:=
 ∀(value slice:Expr)(pins:List (Addr×Obj))(s:Shared)(σ:St)(H:Hp)(x y:V)(v u:Value)(Q:VK),Inv X pins σ H s->RelV x v->RelV y u->r x y H Q->
  subscripted slice false v u=operate [v,u] (getItem v u)->wpAny (model X.prog X.w) X.A (subscriptTail value slice v u) (EP X pins σ Q) X.xe s
def MtR(X:Cx)(id:String)(r:V->List V->Hp->VK->Prop):Prop:=
 ∀(pins:List (Addr×Obj))(s:Shared)(σ:St)(H:Hp)(x:V)(xs:List V)(v:Value)(us:List Value)(Q:VK),Inv X pins σ H s->RelV x v->Vals xs us->r x xs H Q->
  wpAny (model X.prog X.w) X.A (call (.builtin id) (v::us)) (EP X pins σ Q) X.xe s
section
variable{X:Cx}{a b:Expr}{ta tb:TE}{pos:Pos}
theorem IxR.or{r r':R2}(h:IxR X r)(h':IxR X r'):IxR X (fun x y H Q=>r x y H Q∨r' x y H Q):=by
 intro value slice pins s σ H x y v u Q I rx ry q hs
 rcases q with q | q
 ·exact h value slice pins s σ H x y v u Q I rx ry q hs
 ·exact h' value slice pins s σ H x y v u Q I rx ry q hs
theorem pe_ix{r:R2}(hr:IxR X r)(ha:PE X a ta)(hb:PE X b tb)(hs:QjR b):PE X (.Subscript a b pos) (tOp r ta tb):=by
 intro pins s σ H Q I h
 exact Subscript_ (binT ha hb I h fun v u s2 x y H2 I2 rx ry q=>hr a b pins s2 σ H2 x y v u Q I2 rx ry q (hs _ _))
def rIxL(K:W.Frag):R2:=fun x y H Q=>∃ p xs i v,x=.ref p/\y=.int i/\SqL K H p xs/\atI xs i=some v/\Q v H
def rIxT(K:W.Frag):R2:=fun x y H Q=>∃ p xs i v,x=.ref p/\y=.int i/\SqT K H p xs/\atI xs i=some v/\Q v H
def rIxS:R2:=fun x y H Q=>∃ z i c,x=.str z/\y=.int i/\z.length<=sizeLine/\atI z.cps.toList i=some c/\Q (.str ⟨#[c]⟩) H
theorem QGk:IxR X (rIxL X.K):=by
 intro value slice pins s σ H x y v u Q I rx ry h hs
 obtain⟨p,xs,i,z,rfl,rfl,hq,he,q⟩:=h
 cases rx
 obtain⟨t,rfl⟩:=ry
 obtain⟨its,r,pl,hz⟩:=I.list hq
 obtain⟨j,h1,h2,h3,h4,h5⟩:=Qpd he
 obtain⟨w,ew,rw'⟩:=r.get h2
 have hl:=r.length
 have hn:=QgW
 have fin:EP X pins σ Q w s:=⟨z,H,I,rw',q⟩
 by_cases h0:0<=i
 ·have hj:i.toNat=j:=by
   rw[seqIndex_of h0 h5]at h1
   exact Option.some.inj h1
  exact item_listR pl.isList h0 (by omega) (by rw[hj];simpa using ew) fin hs
 ·have hj:(i+(its.toArray.size:Int)).toNat=j:=by
   rw[seqIndex_neg (by omega) h4]at h1
   rw[List.size_toArray, ← hl]
   exact Option.some.inj h1
  exact subscriptTail_builtinR (x:=w) pl.isList.typeIs slot_list_getitem.lookup
   (wpAny_getItem_list_neg (Q:=fun r s'=>r=w/\EP X pins σ Q r s') pl.isList (by omega) (by rw[List.size_toArray]<;>omega) (by omega) (by rw[hj];simpa using ew) ⟨rfl,fin⟩) hs
theorem QG9:IxR X (rIxT X.K):=by
 intro value slice pins s σ H x y v u Q I rx ry h hs
 obtain⟨p,xs,i,z,rfl,rfl,hq,he,q⟩:=h
 cases rx
 obtain⟨t,rfl⟩:=ry
 obtain⟨its,r,pl,hz⟩:=I.tuple hq
 obtain⟨j,h1,h2,h3,h4,h5⟩:=Qpd he
 obtain⟨w,ew,rw'⟩:=r.get h2
 have hl:=r.length
 have hn:=QgW
 have fin:EP X pins σ Q w s:=⟨z,H,I,rw',q⟩
 exact subscriptTail_builtinR (x:=w) pl.typeIs slot_tuple_getitem.lookup
  (getItem_tuple (j:=j) (Q:=fun r s'=>r=w/\EP X pins σ Q r s') pl (by omega) (by omega) (by rw[List.size_toArray, ← hl];exact h1) (by simpa using ew) ⟨rfl,fin⟩) hs
theorem QGY:IxR X rIxS:=by
 intro value slice pins s σ H x y v u Q I rx ry h hs
 obtain⟨z,i,c,rfl,rfl,hz,he,q⟩:=h
 obtain⟨t,rfl⟩:=rx
 obtain⟨t',rfl⟩:=ry
 obtain⟨j,h1,h2,h3,h4,h5⟩:=Qpd he
 have hl:z.cps.toList.length=z.length:=by simp[Str.length]
 rw[hl]at h1 h4 h5
 have hn:=QgW
 exact tail_any (typeIs_str s z t) slot_str_getitem.lookup (getItem_str (c:=c) (by
  have e1:decide (i < -(2 ^ 63:Int))=false:=decide_eq_false (by omega)
  have e2:decide (i ≥ 2 ^ 63)=false:=decide_eq_false (by omega)
  rw[e1,e2,Bool.or_false]) (by rw[h1];simpa using h2) ⟨.str ⟨#[c]⟩,H,I.tok _,⟨_,rfl⟩,q⟩) hs
def rIx(K:W.Frag):R2:=fun x y H Q=>rIxL K x y H Q∨rIxT K x y H Q∨rIxS x y H Q
theorem QtO:IxR X (rIx X.K):=QGk.or (QG9.or QGY)
theorem QAe(its:List Value)(n j:Nat)(u:Value):Obj.mapSeq (·.setIfInBounds j u) { cls:=.type "list",data:=.seq its.toArray n }={ cls:=.type "list",data:=.seq (its.set j u).toArray n }:=by
 simp[Obj.mapSeq]
theorem Inv.lst{pins:List (Addr×Obj)}{σ:St}{H:Hp}{s:Shared}{p:Addr}{xs:List V}(I:Inv X pins σ H s)(h:H p=some (.lst xs)):
 ∃(its:List Value)(n:Nat),Vals xs its/\s.heap.get? p=some { cls:=.type "list",data:=.seq its.toArray n }/\xs.length<=sizeLine:=by
 obtain⟨z,its,n,r,e⟩:=I.hok p _ h
 exact⟨its,n,r,e,z⟩
theorem Inv.lstUpd{pins:List (Addr×Obj)}{σ:St}{H:Hp}{s:Shared}{p:Addr}{xs ys:List V}{its its':List Value}{n n':Nat}{f:Obj->Obj}(I:Inv X pins σ H s)(h:H p=some (.lst xs))
 (ho:s.heap.get? p=some { cls:=.type "list",data:=.seq its.toArray n }) (hf:f { cls:=.type "list",data:=.seq its.toArray n }={ cls:=.type "list",data:=.seq its'.toArray n' }) (r:Vals ys its') (hz:ys.length<=sizeLine) (t:Nat):
 Inv X pins σ (upd H p (.lst ys)) { s with heap:=s.heap.update p f,toks:=t }:=by
 have e:(s.heap.update p f).get? p=some { cls:=.type "list",data:=.seq its'.toArray n' }:=by
  rw[Heap.get?_update_self f ho (by rw[hf]<;>rfl),hf]
 refine I.write (x:=p) (e:=p) (by rw[h];trivial) (.inl rfl) (fun b u hb q=>(Heap.get?_update_other _ _ (Ne.symm hb)).trans q) ⟨_,e⟩ ?_
 exact⟨hz,its',n',r,e⟩
def rSetL:V->V->V->Hp->(Hp->Prop)->Prop:=fun o i v H Q=>∃ p xs k j,o=.ref p/\i=.int k/\H p=some (.lst xs)/\ixN xs.length k=some j/\Q (upd H p (.lst (xs.set j v)))
theorem QET:PSet X rSetL:=by
 intro pins s σ H o i v ov iv u Q I ro ri rv h
 obtain⟨p,xs,k,j,rfl,rfl,hp,hj,q⟩:=h
 cases ro
 obtain⟨t,rfl⟩:=ri
 obtain⟨its,n,r,ho,hz⟩:=I.lst hp
 obtain⟨h1,h2,h3,h4⟩:=Qzu hj
 have hl:=r.length
 have hn:=QgW
 have I':Inv X pins σ (upd H p (.lst (xs.set j v))) { s with heap:=s.heap.update p (Obj.mapSeq (·.setIfInBounds j u)) }:=
  I.lstUpd hp ho (QAe its n j u) (r.set rv j) (by rw[List.length_set];exact hz) s.toks
 by_cases h0:0<=k
 ·have hk:k.toNat=j:=by
   rw[seqIndex_of h0 h4]at h1
   exact Option.some.inj h1
  exact W.ki_setAt ho h0 (by omega) (by rw[List.size_toArray, ← hl];exact h4) (by rw[hk];exact⟨_,I',q⟩)
 ·have hk:(k+(its.toArray.size:Int)).toNat=j:=by
   rw[seqIndex_neg (by omega) h3]at h1
   rw[List.size_toArray, ← hl]
   exact Option.some.inj h1
  exact W.ki_setBack ho (by omega) (by rw[List.size_toArray, ← hl];exact h3) (by omega) (by rw[hk];exact⟨_,I',q⟩)
theorem Quc(lo hi:Option Int)(n:Nat):(sliceBounds lo hi none n).1=((HT.sIx n 0 lo:Nat):Int)/\(sliceBounds lo hi none n).2.1=((HT.sIx n n hi:Nat):Int)/\(sliceBounds lo hi none n).2.2=1:=by
 refine⟨?_,?_,rfl⟩
 ·cases lo with
  | none=>simp[sliceBounds,HT.sIx]
  | some i=>
   simp only[sliceBounds,HT.sIx,Option.getD_none,show(1:Int) > 0 by decide,if_true]
   by_cases h:i<0
   ·simp only[h,if_true]<;>omega
   ·simp only[h,if_false]<;>omega
 ·cases hi with
  | none=>simp[sliceBounds,HT.sIx]
  | some i=>
   simp only[sliceBounds,HT.sIx,Option.getD_none,show(1:Int) > 0 by decide,if_true]
   by_cases h:i<0
   ·simp only[h,if_true]<;>omega
   ·simp only[h,if_false]<;>omega
theorem Qqp(its:List Value)(lo hi:Option Int):slicePick its.toArray lo hi none=((its.drop (HT.sIx its.length 0 lo)).take (HT.sIx its.length its.length hi - HT.sIx its.length 0 lo)).toArray:=by
 obtain⟨h1,h2,h3⟩:=Quc lo hi its.toArray.size
 unfold slicePick
 rw[h1,h2,h3]
 simp only[sliceRange_one,pick_run,List.size_toArray]<;>rfl
def rSlL(K:W.Frag):V->Option Int->Option Int->Hp->VK->Prop:=fun x lo hi H Q=>∃ a xs,x=.ref a/\SqL K H a xs/\∀ p,H p=none->Q (.ref p) (upd H p (.lst (cutV xs lo hi)))
theorem QFD:SlR X (rSlL X.K):=by
 intro pins s σ H x v vl vu lo hi sl Q I rx hs pl pu h
 obtain⟨a,xs,rfl,hx,q⟩:=h
 cases rx
 obtain⟨its,r,ht,hz⟩:=I.list hx
 have hlen:=r.length
 refine⟨"list",_,slot_list_getitem.lookup,ht.isList.typeIs,?_⟩
 refine wpAny_getItem_list_slice ht.isList hs pl pu .none (by simp) ?_ (by rw[List.size_toArray]<;>omega)
 rw[Qqp, ← hlen]
 refine⟨.ref s.heap.objs.size,_,I.laid (t':=s.toks) (o:=.lst (cutV xs lo hi)) (fun b ob q=>Heap.get?_push_of_some _ q) (Nat.le_refl _) ?_,rfl,q _ (I.hok.fresh (Nat.le_refl _))⟩
 exact⟨Nat.le_trans (Qyy xs lo hi) hz,_,0,(r.drop (HT.sIx xs.length 0 lo)).take (HT.sIx xs.length xs.length hi - HT.sIx xs.length 0 lo),Heap.get?_push_size _ rfl⟩
def flatV:V->Bool
 | .non=>true
 | .bl _=>true
 | .int _=>true
 | .str _=>true
 | _=>false
def eqV:V->V->Bool
 | .non,.non=>true
 | .bl a,.bl b=>a == b
 | .bl a,.int b=>(if a then 1 else 0) == b
 | .int a,.bl b=>a == (if b then 1 else 0)
 | .int a,.int b=>a == b
 | .str a,.str b=>a == b
 | _,_=>false
theorem QHW{A:Around}{s:Shared}{y x:V}{u v:Value}(ry:RelV y u)(rx:RelV x v)(fy:flatV y=true)(fx:flatV x=true):SeqAt.EqAt A s u v (eqV y x):=by
 cases y with
 | non=>
  cases ry
  cases x with
  | non=>cases rx;exact SeqAt.EqAt.same _
  | bl b=>cases rx;exact SeqAt.EqAt.none_bool b
  | int b=>obtain⟨t,rfl⟩:=rx;exact SeqAt.EqAt.none_int b t
  | str b=>obtain⟨t,rfl⟩:=rx;exact SeqAt.EqAt.none_str b t
  | _=>exact absurd (show false=true from fx) Bool.false_ne_true
 | bl a=>
  cases ry
  cases x with
  | non=>cases rx;exact SeqAt.EqAt.bool_none a
  | bl b=>cases rx;exact SeqAt.EqAt.bool_bool a b
  | int b=>obtain⟨t,rfl⟩:=rx;exact SeqAt.EqAt.bool_int a b t
  | str b=>obtain⟨t,rfl⟩:=rx;exact SeqAt.EqAt.bool_str a b t
  | _=>exact absurd (show false=true from fx) Bool.false_ne_true
 | int a=>
  obtain⟨t',rfl⟩:=ry
  cases x with
  | non=>cases rx;exact SeqAt.EqAt.int_none a t'
  | bl b=>cases rx;exact SeqAt.EqAt.int_bool a t' b
  | int b=>obtain⟨t,rfl⟩:=rx;exact SeqAt.EqAt.int_int a t' b t
  | str b=>obtain⟨t,rfl⟩:=rx;exact SeqAt.EqAt.int_str a t' b t
  | _=>exact absurd (show false=true from fx) Bool.false_ne_true
 | str a=>
  obtain⟨t',rfl⟩:=ry
  cases x with
  | non=>cases rx;exact SeqAt.EqAt.str_none a t'
  | bl b=>cases rx;exact SeqAt.EqAt.str_bool a t' b
  | int b=>obtain⟨t,rfl⟩:=rx;exact SeqAt.EqAt.str_int a t' b t
  | str b=>obtain⟨t,rfl⟩:=rx;exact SeqAt.EqAt.str_str a t' b t
  | _=>exact absurd (show false=true from fx) Bool.false_ne_true
 | _=>exact absurd (show false=true from fy) Bool.false_ne_true
def eqU(x:V)(u:Value):Bool:=match u with
 | .none=>eqV .non x
 | .bool b=>eqV (.bl b) x
 | .int i _=>eqV (.int i) x
 | .str z _=>eqV (.str z) x
 | _=>false
theorem QBH{x y:V}{u:Value}(r:RelV y u)(f:flatV y=true):eqU x u=eqV y x:=by
 cases y with
 | non=>cases r;rfl
 | bl b=>cases r;rfl
 | int i=>obtain⟨t,rfl⟩:=r;rfl
 | str z=>obtain⟨t,rfl⟩:=r;rfl
 | _=>exact absurd (show false=true from f) Bool.false_ne_true
theorem QoO{x:V}:∀{xs:List V}{us:List Value},Vals xs us->xs.all flatV=true->us.any (eqU x)=xs.any fun y=>eqV y x
 | _,_,.nil,_=>rfl
 | y::xs,u::us,.cons r t,f=>by
  rw[List.all_cons,Bool.and_eq_true]at f
  rw[List.any_cons,List.any_cons,QBH r f.1,QoO t f.2]
theorem Qk0{A:Around}{s:Shared}{x:V}{v:Value}(rx:RelV x v)(fx:flatV x=true):∀{xs:List V}{us:List Value},Vals xs us->xs.all flatV=true->∀ u∈us,SeqAt.EqAt A s u v (eqU x u)
 | _,_,.nil,_=>fun u hu=>by cases hu
 | y::xs,u::us,.cons r t,f=>fun u' hu=>by
  rw[List.all_cons,Bool.and_eq_true]at f
  rcases List.mem_cons.mp hu with rfl | hu
  ·rw[QBH r f.1];exact QHW r rx f.1 fx
  ·exact Qk0 rx fx t f.2 u' hu
def inV(x:V)(xs:List V):Bool:=xs.any fun y=>eqV y x
def rIn(K:W.Frag)(neg:Bool):R2:=fun x y H Q=>∃ p xs,y=.ref p/\(SqL K H p xs∨SqT K H p xs)/\flatV x=true/\xs.all flatV=true/\Q (.bl (if neg then !inV x xs else inV x xs)) H
theorem QDe:OpR X (compareOp .In) (rIn X.K false):=by
 intro pins s σ H x y v u Q I rx ry h
 obtain⟨p,xs,rfl,hq,fx,fs,q⟩:=h
 cases ry
 rcases hq with hq | hq
 ·obtain⟨its,r,pl,hz⟩:=I.list hq
  refine SeqAt.in_listAt (eqU x) pl.isList (fun w hw=>Qk0 rx fx r fs w (by simpa using hw)) ⟨.bl _,H,I,rfl,?_⟩
  rw[show its.toArray.any (eqU x)=its.any (eqU x) by simp,QoO r fs]
  exact q
 ·obtain⟨its,r,pl,hz⟩:=I.tuple hq
  refine SeqAt.in_tupleAt (eqU x) pl (fun w hw=>Qk0 rx fx r fs w (by simpa using hw)) ⟨.bl _,H,I,rfl,?_⟩
  rw[show its.toArray.any (eqU x)=its.any (eqU x) by simp,QoO r fs]
  exact q
theorem Qus:CallR X (.builtin "len") (fun xs H Q=>∃ p ys,xs=[.ref p]/\(SqL X.K H p ys∨SqT X.K H p ys)/\Q (.int ys.length) H):=by
 intro pins s σ H xs us Q I r h
 obtain⟨p,ys,rfl,hq,q⟩:=h
 obtain⟨u,rfl,rx⟩:=vals1 r
 cases rx
 have hn:=QgW
 rcases hq with hq | hq
 ·obtain⟨its,r',pl,hz⟩:=I.list hq
  have hlen:=r'.length
  exact Calls.call_len_list pl.isList (by simp only[List.size_toArray]<;>omega) ⟨.int ys.length,H,I.tok _,⟨s.toks+1,by rw[List.size_toArray,hlen]⟩,q⟩
 ·obtain⟨its,r',pl,hz⟩:=I.tuple hq
  have hlen:=r'.length
  exact len_tuple pl (by simp only[List.size_toArray]<;>omega) ⟨.int ys.length,H,I.tok _,⟨s.toks+1,by rw[List.size_toArray,hlen]⟩,q⟩
theorem QrP:CallR X (.builtin "len") (fun xs H Q=>∃ z,xs=[.str z]/\z.length<=sizeLine/\Q (.int z.length) H):=by
 intro pins s σ H xs us Q I r h
 obtain⟨z,rfl,hz,q⟩:=h
 obtain⟨u,rfl,t,rfl⟩:=vals1 r
 have hn:=QgW
 exact len_str (by omega) ⟨.int z.length,H,I.tok _,⟨_,rfl⟩,q⟩
theorem CallR.or{f:Value}{r r':List V->Hp->VK->Prop}(h:CallR X f r)(h':CallR X f r'):CallR X f (fun xs H Q=>r xs H Q∨r' xs H Q):=by
 intro pins s σ H xs us Q I rs q
 rcases q with q | q
 ·exact h pins s σ H xs us Q I rs q
 ·exact h' pins s σ H xs us Q I rs q
theorem Qsw:CallR X (.type "list") (fun xs H Q=>∃ p ys,xs=[.ref p]/\(SqL X.K H p ys∨SqT X.K H p ys)/\∀ l,H l=none->Q (.ref l) (upd H l (.lst ys))):=by
 intro pins s σ H xs us Q I r h
 obtain⟨p,ys,rfl,hq,q⟩:=h
 obtain⟨u,rfl,rx⟩:=vals1 r
 cases rx
 have fin:∀(its:List Value),Vals ys its->ys.length<=sizeLine->∀(h':Heap)(c':Nat),(∀ b o',s.heap.get? b=some o'->h'.get? b=some o')->
  h'.get? s.heap.objs.size=some { cls:=.type "list",dict:=none,data:=.seq its.toArray c',slots := #[] }->EP X pins σ Q (.ref s.heap.objs.size) { s with heap:=h' }:=fun its r' hz h' c' kp e=>
  ⟨.ref s.heap.objs.size,_,I.laid (t':=s.toks) kp (Nat.le_refl _) (show ObjOk X.prog X.w _ h' _ (.lst ys) from⟨hz,its,c',r',e⟩),rfl,q _ (I.hok.fresh (Nat.le_refl _))⟩
 rcases hq with hq | hq
 ·obtain⟨its,r',pl,hz⟩:=I.list hq
  have hlen:=r'.length
  obtain⟨o,ho,hc,n,hd⟩:=pl.isList
  exact call_list_seq p (.inl rfl) ho hc hd (fun h' c' kp e=>fin its r' hz h' c' kp e) (by simp only[List.size_toArray]<;>omega)
 ·obtain⟨its,r',pl,hz⟩:=I.tuple hq
  have hlen:=r'.length
  obtain⟨o,ho,hc,n,hd⟩:=pl
  exact call_list_seq p (.inr rfl) ho hc hd (fun h' c' kp e=>fin its r' hz h' c' kp e) (by simp only[List.size_toArray]<;>omega)
def tyV(K:W.Frag)(T:String)(x:V)(H:Hp):Prop:=match x with
 | .str _=>T="str"
 | .int _=>T="int"
 | .ref p=>(T="list"/\∃ xs,SqL K H p xs)∨(T="tuple"/\∃ o,K.lookup p=some o/\o.cls=.type "tuple"/\o.dict=none)∨
  (T="dict"/\((∃ kvs,H p=some (.dK kvs))∨∃ kvs,H p=some (.dT kvs)))∨(T="set"/\∃ S n,H p=some (.set S n))
 | _=>False
theorem QCW{pins:List (Addr×Obj)}{σ:St}{H:Hp}{s:Shared}{T:String}{x:V}{v:Value}(I:Inv X pins σ H s)(r:RelV x v)(ty:tyV X.K T x H):
 s.TypeIs v T/\∀ a,v=.ref a->∃ ob,s.heap.get? a=some ob/\ob.dict=none:=by
 cases x with
 | str z=>
  obtain⟨t,rfl⟩:=r
  cases (show T="str" from ty)
  exact⟨typeIs_str s z t,fun _ e=>nomatch e⟩
 | int i=>
  obtain⟨t,rfl⟩:=r
  cases (show T="int" from ty)
  exact⟨typeIs_int s i t,fun _ e=>nomatch e⟩
 | ref p=>
  cases r
  rcases ty with⟨rfl,xs,hq⟩ | ⟨rfl,o,hk,hc,hd⟩ | ⟨rfl,hk⟩ | ⟨rfl,S,n,hk⟩
  ·obtain⟨its,_,pl,_⟩:=I.list hq
   refine⟨pl.isList.typeIs,fun a e=>?_⟩
   cases e
   obtain⟨o,n,e,c,hd,_⟩:=pl
   exact⟨o,e,hd⟩
  ·refine⟨⟨o,I.kIn p o hk,hc⟩,fun a e=>?_⟩
   cases e
   exact⟨o,I.kIn _ o hk,hd⟩
  ·have z:∃ o,s.heap.get? p=some o/\o.ExactDict:=by
    rcases hk with⟨kvs,hk⟩ | ⟨kvs,hk⟩
    ·obtain⟨_,_,_,_,o,_,_,e,ex,_⟩:=I.hok p _ hk
     exact⟨o,e,ex⟩
    ·obtain⟨_,_,_,_,o,_,_,e,ex,_⟩:=I.hok p _ hk
     exact⟨o,e,ex⟩
   obtain⟨o,e,ex⟩:=z
   refine⟨⟨o,e,ex.1⟩,fun a e2=>?_⟩
   cases e2
   exact⟨o,e,ex.2.1⟩
  ·obtain⟨o,_,_,_,e,ex,_⟩:=I.hok p _ hk
   refine⟨⟨o,e,ex.1⟩,fun a e2=>?_⟩
   cases e2
   exact⟨o,e,ex.2.1⟩
 | _=>exact False.elim ty
def tBM0(K:W.Frag)(T:String)(r:V->List V->Hp->VK->Prop)(to:TE):TE:=fun σ H Q=>to σ H fun x H1=>tyV K T x H1/\r x [] H1 Q
def tBM(K:W.Frag)(T:String)(r:V->List V->Hp->VK->Prop)(to:TE)(t:TA):TE:=fun σ H Q=>to σ H fun x H1=>tyV K T x H1/\t σ H1 fun xs H2=>r x xs H2 Q
variable{o e:Expr}{es:List Expr}{to:TE}{t:TA}{name:Str}{apos cpos:Pos}{T id:String}{r:V->List V->Hp->VK->Prop}
theorem QHn(pa:PlainAttrs T)(slot:Slot T name id)(hty:typeOf (.builtin id)=pure (.type "method_descriptor"))(hm:MtR X id r)(ho:PE X o to)
 (hbase:attributeBase o name X.env (eval o X.env)=eval o X.env:=by rfl) (hline:(apos.endLine == cpos.line)=true:=by rfl):PE X (.Call (.Attribute o name apos) [] [] cpos) (tBM0 X.K T r to):=by
 intro pins s σ H Q I h
 refine wpAny_Call_method0_late hbase hline (thn (ho pins s σ H _ I h) fun v s1 ⟨x,H1,I1,r1,ty,q1⟩=>?_)
 obtain⟨h1,h2⟩:=QCW I1 r1 ty
 exact⟨T,id,pa,slot,hty,h1,h2,Calls.callWith_builtin rfl (PySem.evalArgs_none (hm pins s1 σ H1 x [] v [] Q I1 r1 .nil q1))⟩
theorem pe_bm(pa:PlainAttrs T)(slot:Slot T name id)(hty:typeOf (.builtin id)=pure (.type "method_descriptor"))(hm:MtR X id r)(ho:PE X o to)(ha:PA X (e::es) t)
 (hbase:attributeBase o name X.env (eval o X.env)=eval o X.env:=by rfl)
 (hfew:((backTo cpos (starEach (e::es) X.env)).all (fun x => !x.1)&&(backToKw cpos (keywordEach [] X.env)).all (fun x=>x.1.isSome)
  && decide ((e::es).length+([]:List Keyword).length+(if ([]:List Keyword).isEmpty then 0 else 1)<30))=true:=by rfl)
 (hline:(apos.endLine == cpos.line)=true:=by rfl) (hs:starEach (e::es) X.env=(false,eval e X.env)::starEach es X.env:=by rfl) (hplain:(backTo cpos (starEach es X.env)).any (·.1)=false:=by rfl):
 PE X (.Call (.Attribute o name apos) (e::es) [] cpos) (tBM X.K T r to t):=by
 intro pins s σ H Q I h
 refine wpAny_Call_method_late hbase hfew hline rfl (thn (ho pins s σ H _ I h) fun v s1 ⟨x,H1,I1,r1,ty,q1⟩=>?_)
 obtain⟨h1,h2⟩:=QCW I1 r1 ty
 refine⟨T,id,pa,slot,hty,h1,h2,?_⟩
 have hA:=ha cpos pins s1 σ H1 _ I1 q1
 rw[hs]at hA ⊢
 refine Calls.callWith_builtin (by show(false||(backTo cpos (starEach es X.env)).any (·.1))=false;rw[hplain]<;>rfl) (Calls.evalArgs_plain ?_)
 exact thn hA fun us s2 ⟨vs,H2,I2,r2,q2⟩=>hm pins s2 σ H2 x vs v us Q I2 r1 r2 q2
end
end L2
namespace L2
open PySem PySem.Spec PyProof.Rows
def MtM(X:Cx)(id:String)(r:V->List V->Hp->VK->Prop):Prop:=
 ∀(pins:List (Addr×Obj))(s:Shared)(σ:St)(H:Hp)(x:V)(xs:List V)(v:Value)(us:List Value)(Q:VK),Inv X pins σ H s->RelV x v->Vals xs us->r x xs H Q->
  wpAny (model X.prog X.w) X.A (call (.builtin id) (v::us)) (EP X pins σ Q) X.xe s
theorem Vals.one:∀{x:V}{us:List Value},Vals [x] us->∃ u,us=[u]/\RelV x u
 | _,_,.cons r .nil=>⟨_,rfl,r⟩
theorem Vals.zero:∀{us:List Value},Vals [] us->us=[]
 | _,.nil=>rfl
theorem Vals.rep{xs:List V}{us:List Value}(h:Vals xs us):∀ k:Nat,Vals (List.replicate k xs).flatten (List.replicate k us).flatten
 | 0=>.nil
 | k+1=>by
  rw[List.replicate_succ,List.replicate_succ,List.flatten_cons,List.flatten_cons]
  exact Vals.append h (Vals.rep h k)
theorem Qpw(its:List Value):∀(k:Nat)(acc:List Value),
 List.foldl (fun x1 x2=>x1++x2) acc.toArray (List.replicate k its.toArray)=(acc++(List.replicate k its).flatten).toArray
 | 0,acc=>by simp
 | k+1,acc=>by
  have e:acc.toArray++its.toArray=(acc++its).toArray:=by simp
  have e2:(acc++its)++(List.replicate k its).flatten=acc++(List.replicate (k+1) its).flatten:=by
   rw[List.replicate_succ,List.flatten_cons,List.append_assoc]
  rw[← e2, ← Qpw its k (acc++its), ← e,List.replicate_succ,List.foldl_cons]
section
variable{X:Cx}{pins:List (Addr×Obj)}{σ:St}{H:Hp}{s:Shared}{l b:Addr}{xs ys zs:List V}
theorem Inv.lset{its its':List Value}{n:Nat}{f:Array Value->Array Value}{t':Nat}(I:Inv X pins σ H s)(hH:H l=some (.lst xs))
 (e:s.heap.get? l=some { cls:=.type "list",data:=.seq its.toArray n }) (hf:f its.toArray=its'.toArray) (hv:Vals ys its') (hz:ys.length<=sizeLine):
 Inv X pins σ (upd H l (.lst ys)) { s with heap:=s.heap.update l (Obj.mapSeq f),toks:=t' }:=by
 have q:=PySem.IsL.update e f
 rw[hf]at q
 refine I.write (x:=l) (e:=l) (by rw[hH];exact trivial) (.inl rfl) (fun b' u hb hu=>(Heap.get?_update_other s.heap (Obj.mapSeq f) (Ne.symm hb)).trans hu) ⟨_,q⟩ ?_
 exact⟨hz,its',_,hv,q⟩
theorem Inv.lnew{its:List Value}{t':Nat}(I:Inv X pins σ H s)(hv:Vals ys its)(hz:ys.length<=sizeLine):
 Inv X pins σ (upd H s.heap.objs.size (.lst ys)) { s with heap:=s.heap.push { cls:=.type "list",data:=.seq its.toArray },toks:=t' }:=
 I.laid (fun _ _ q=>Heap.get?_push_of_some _ q) (Nat.le_refl _) ⟨hz,its,0,hv,Heap.get?_push_size _ rfl⟩
theorem Inv.fresh(I:Inv X pins σ H s):H s.heap.objs.size=none:=I.hok.fresh (Nat.le_refl _)
theorem Inv.lstM(I:Inv X pins σ H s)(hH:H l=some (.lst xs)):xs.length<=sizeLine/\∃(its:List Value)(n:Nat),Vals xs its/\xs.length=its.length/\s.heap.get? l=some { cls:=.type "list",data:=.seq its.toArray n }:=by
 obtain⟨z,its,n,r,e⟩:=I.hok l _ hH
 exact⟨z,its,n,r,r.length,e⟩
theorem QD2{n:Nat}(h:n<=sizeLine):Builtin.List.listTooLong n=false:=by
 unfold Builtin.List.listTooLong
 exact decide_eq_false (by omega)
end
section
variable{X:Cx}
def Qzi:V->List V->Hp->VK->Prop:=fun x vs H Q=>∃ l xs y,x=.ref l/\vs=[y]/\H l=some (.lst xs)/\xs.length<sizeLine/\Q .non (upd H l (.lst (xs++[y])))
theorem Qjt:MtM X "list.append" Qzi:=by
 intro pins s σ H x vs v us Q I rx rv h
 obtain⟨l,xs,y,rfl,rfl,hH,hz,q⟩:=h
 cases rx
 obtain⟨u,rfl,ru⟩:=rv.one
 obtain⟨z,its,n,r,hl,e⟩:=I.lstM hH
 refine call_meets F.slot_list_append ⟨_,e,rfl⟩ F.entry_list_append (F.args_list_append_2 _ _) (PySem.list_append l its.toArray n u (by rw[List.size_toArray];omega)) ⟨e,?_⟩
 refine⟨.non,_,I.lset (its':=its++[u]) hH e (by simp) (r.append (.cons ru .nil)) ?_,rfl,q⟩
 rw[List.length_append,List.length_singleton]
 omega
def Qt4:V->List V->Hp->VK->Prop:=fun x vs H Q=>∃ l xs,x=.ref l/\vs=[]/\H l=some (.lst xs)/\Q .non (upd H l (.lst []))
theorem QED:MtM X "list.clear" Qt4:=by
 intro pins s σ H x vs v us Q I rx rv h
 obtain⟨l,xs,rfl,rfl,hH,q⟩:=h
 cases rx
 have hus:=rv.zero
 subst hus
 obtain⟨z,its,n,r,hl,e⟩:=I.lstM hH
 refine call_meets F.slot_list_clear ⟨_,e,rfl⟩ F.entry_list_clear (F.args_list_clear_1 _) (AutoSeq1.list_clear_list_0 l its.toArray n (by rw[List.size_toArray];omega)) ⟨e,?_⟩
 exact⟨.non,_,I.lset (its':=[]) (ys:=[]) hH e rfl .nil (Nat.zero_le _),rfl,q⟩
def rRep:R2:=fun x y H Q=>∃ l k xs,x=.ref l/\y=.int k/\H l=some (.lst xs) /\ -(2 ^ 63)<=k/\k<2 ^ 63/\xs.length * k.toNat<=sizeLine/\
 ∀ p,H p=none->Q (.ref p) (upd H p (.lst (List.replicate k.toNat xs).flatten))
theorem QF5{α:Type}(xs:List α)(k:Nat):(List.replicate k xs).flatten.length=k * xs.length:=by
 induction k with
 | zero=>simp
 | succ k ih=>rw[List.replicate_succ,List.flatten_cons,List.length_append,ih,Nat.succ_mul,Nat.add_comm]
theorem QGO:OpR X (binaryOp .Mult) rRep:=by
 intro pins s σ H x y v u Q I rx ry h
 obtain⟨l,k,xs,rfl,rfl,hH,h1,h2,hz,q⟩:=h
 cases rx
 obtain⟨t,rfl⟩:=ry
 obtain⟨z,its,n,r,hl,e⟩:=I.lstM hH
 have hlen:its.toArray.size * k.toNat<=sizeLine:=by rw[List.size_toArray, ← hl];exact hz
 have hcap:¬ its.toArray.size * k.toNat > (2 ^ 63 - 1) / 8:=by
  have:(sizeLine:Nat)<=(2 ^ 63 - 1) / 8:=by decide
  omega
 have hfit:¬ (!Builtin.List.listFitsIndex k)=true:=by
  rw[fitsIndex_both h1 h2]
  exact Bool.false_ne_true
 have hlong:¬ Builtin.List.listTooLong (its.toArray.size * k.toNat)=true:=by
  rw[QD2 hlen]
  exact Bool.false_ne_true
 have hnew:List.foldl (fun x1 x2=>x1++x2) #[] (List.replicate (if its.toArray.isEmpty=true then 0 else k.toNat) its.toArray)=(List.replicate k.toNat its).flatten.toArray:=by
  have f0:∀ m:Nat,List.foldl (fun x1 x2=>x1++x2) #[] (List.replicate m its.toArray)=(List.replicate m its).flatten.toArray:=fun m=>by
   have:=Qpw its m []
   rw[List.nil_append]at this
   exact this
  rw[f0]
  cases its with
  | nil=>simp
  | cons a r'=>rw[if_neg (by simp)]
 refine wpAny_binaryOp_repeat_ref (T:="list") (U:="int") (by decide) ⟨_,e,rfl⟩ (fun s'=>typeIs_int s' k t) noFill_list_mul F.fills_int_mul F.slot_int_rmul repeat_list F.slot_int_index.lookup
  (call_meets F.slot_int_rmul (typeIs_int s k t) F.entry_int_rmul (F.args_int_rmul_2 _ _) (int___rmul___int_list k t l its.toArray n)
   ⟨e,rfl,⟨_,e,rfl⟩,call_meets F.slot_list_mul ⟨_,e,rfl⟩ F.entry_list_mul (F.args_list_mul_2 _ _) (AutoListH.list___mul___list_int_3 l its.toArray n k t hfit hcap hlong) ⟨e,?_⟩⟩)
 rw[hnew]
 exact⟨.ref _,_,I.lnew (t':=s.toks) (r.rep k.toNat) (by rw[QF5,Nat.mul_comm];exact hz),rfl,q _ I.fresh⟩
end
section
variable{prog:Program}{w:World}{A:Around}{E:Value->Shared->Prop}{s:Shared}
end
section
variable{X:Cx}
end
end L2
namespace Att
open PySem PySem.W PySem.Calls PyProof.Rows
theorem Qmp{P:Params}{h:Heap}:∀(ns:List Int)(vs:List Value),WellAll P h vs (ns.map WData.int)->IntsAre vs ns:=by
 intro ns
 induction ns with
 | nil=>
  intro vs w
  rw[List.map_nil]at w
  cases w
  exact .nil
 | cons n ns ih=>
  intro vs w
  rw[List.map_cons]at w
  cases w with
  | cons a b=>
   cases a
   exact .cons _ _ (ih _ b)
theorem script_of{l:OpenLaw}{n:Nat}(hn:l.most=some n){P:Params}{h:Heap}{args:List WData}{vals:List Value}
 (hpre:l.row.toRowW.claim.pre args=true) (hwl:WellAll P h vals args):
 ∃ a vs ns,vals=[Value.ref a]/\args=[WData.list (ns.map WData.int)]/\h.get? a=some { cls:=.type "list",data:=.seq vs.toArray }/\IntsAre vs ns/\ns.length<=n:=by
 have hsh:WShape.hasAll [] args [.list .int]=true:=(pre_splitW hpre).1
 have hc:l.pre.holds [] { args:=args }=true:=(pre_splitW hpre).2
 obtain⟨d,r,rfl,h1,h2⟩:=hasAllW_cons hsh
 obtain rfl:=hasAllW_nil h2
 obtain⟨xs,rfl,h3⟩:=hasW_list h1
 obtain⟨ns,rfl⟩:=items_int h3
 have hlen:ns.length<=n:=by
  unfold OpenLaw.pre at hc
  have h4:(WTm.not (.lt (.lit (.int (n:Int))) (.len (.arg 0)))).holds [] { args:=[.list (ns.map .int)] }=true:=by
   have h4:=(holds_andW hc).1
   rw[hn]at h4
   exact h4
  have h5:=condW_of h4 (w_not (w_lt w_lit (w_len_list (w_arg rfl))))
  rw[List.length_map]at h5
  refine Nat.le_of_not_lt fun q=>?_
  have q':(n:Int)<((ns.length:Nat):Int):=by omega
  first
   | (rw[decide_eq_true q']at h5;exact absurd h5 (by decide))
   | (simp at h5;omega)
 cases hwl with
 | cons w1 w2=>
  cases w2
  cases w1 with
  | list ho hall=>exact⟨_,_,ns,rfl,rfl,ho,Qmp ns _ hall,hlen⟩
theorem post_true(l:OpenLaw)(args:List WData):l.row.toRowW.claim.post args (.bool true) args=true:=
 postW_of (r:=l.row.toRowW) (X:=(true == true))
  (show WShape.has [] (.bool true) .bool=true by first | rfl | decide | simp[WShape.has,WShape.arms,WShape.armsAll])
  (show(WTm.eq .res (.lit (.bool true))).value [] { args:=args,res:=some (.bool true),after:=args }=some (.bool (true == true)) from w_eq_bool (w_res rfl) w_lit) rfl
section
variable{prog:Program}{w:World}{A:Around}{E:Value->Shared->Prop}{s:Shared}{K:Frag}
end
end Att
namespace L2
open PySem PySem.Spec PyProof.Rows
theorem QpA:∀{vs:List Value}{ns:List Int},IntsAre vs ns->Vals (ns.map V.int) vs
 | _,_,.nil=>.nil
 | _,_,.cons n t h=>.cons ⟨t,rfl⟩ (QpA h)
def Only(H:Hp):Prop:=∀ b,H b=none∨∃ o xs,H b=some (.frz o (.lst xs))
theorem QEV{P:Program}{w:World}{K:W.Frag}{mg mb:Str->Option Value}{CX:CXT}{k:Nat}{fa a:Addr}{fd:FuncData}{x:Str}{sp:Sp}{s₁:Shared}{vs:List Value}{ns:List Int}
 (KX:K.In s₁.heap) (hns:s₁.heap.Ns mainGlobals mg) (hb:s₁.heap.Ns builtinsNs mb) (hbb:∀ x:Str,x≠"__name__"->mb x=bootBuiltins x) (hlim:s₁.heap.NoLimit) (hg:s₁.gens = #[])
 (ha:s₁.heap.get? a=some { cls:=.type "list",data:=.seq vs.toArray }) (hi:IntsAre vs ns) (hl:ns.length<=sizeLine) (hr:Room k callerA)
 (F:∀ base:Heap,K.In base->base.Ns mainGlobals mg->FnOk P w K mg base CX k fa fd [x] sp) (hbind:∀(s:Shared)(u:Value),BindsTo s fd ⟨[u],[]⟩ [(x,u)])
 (hsp:∀ H:Hp,Only H->SqL K H a (ns.map V.int)->sp [.ref a] H (fun v _=>v=.bl true) fun _ _ _=>False)
 (hCX:∀ H e s',CX [] H s₁ (fun _ _ _=>False) e s'->False):
 codeAny (model P w) callerA (.call (.ref fa) ⟨[.ref a],[]⟩) (fun r s'=>r=.ok (.ret (.bool true))/\OldK s₁.heap s'.heap/\s'.os=s₁.os/\AllBare s'.gens) s₁:=by
 have rv:=QpA hi
 have lenV:=hi.length
 -- from an abstract heap in which nothing but the script may be tracked
 have core:∀ H:Hp,Only H->SqL K H a (ns.map V.int)->HOk P w H s₁.heap->(∀ b,H b≠none->b=a)->(H a≠none->K.lookup a=none)->
  codeAny (model P w) callerA (.call (.ref fa) ⟨[.ref a],[]⟩) (fun r s'=>r=.ok (.ret (.bool true))/\OldK s₁.heap s'.heap/\s'.os=s₁.os/\AllBare s'.gens) s₁:=by
  intro H hO hS hok hA hK
  have base_of:∀{b:Addr}{o:Obj},s₁.heap.get? b=some o->H b=none->(hidT s₁.heap H).get? b=some o:=fun e n=>QEo e n
  have noA:∀{b:Addr}{o:Obj}{es:Array DictEntry}{ep:Nat},s₁.heap.get? b=some o->o.data=.dict es ep->H b=none:=fun {b o es ep} e d=>by
   cases q:H b with
   | none=>rfl
   | some u=>
    have e':b=a:=hA b (by rw[q];simp)
    subst e'
    rw[ha]at e;cases e
    have d':Data.seq vs.toArray _=Data.dict es ep:=d
    cases d'
  have nsK:∀{b:Addr}{m:Str->Option Value},s₁.heap.Ns b m->(hidT s₁.heap H).Ns b m:=fun {b m} ⟨o,es,ep,e,d,r⟩=>⟨o,es,ep,base_of e (noA e d),d,r⟩
  have hKb:K.In (hidT s₁.heap H):=fun b o e=>base_of (KX b o e) (by
   cases q:H b with
   | none=>rfl
   | some u=>
    have e':b=a:=hA b (by rw[q];simp)
    subst e'
    rw[hK (by rw[q];simp)]at e;cases e)
  have hM:Mod K mg (hidT s₁.heap H):=⟨hKb,nsK hns,⟨mb,nsK hb,hbb⟩,let ⟨mc,h1,h2⟩:=hlim;⟨mc,nsK h1,h2⟩⟩
  have e0:Env0 P w K mg (hidT s₁.heap H) callerA [] s₁ H:=⟨rfl,hM,fun b o e=>QGh e,Nat.le_of_eq (QCI _ _),trivial,fun b hb=>absurd (show b∈([]:List Addr) from hb) (by simp),hok,.of_eq hg⟩
  refine codeAny_mono ((F _ hKb (nsK hns)).run callerA [] s₁ H ⟨[.ref a],[]⟩ [.ref a] [.ref a] _ _ hr e0 (hbind s₁ (.ref a)) (.cons rfl .nil) (hsp H hO hS)) fun r s' h=>?_
  cases r with
  | error e=>exact(hCX H e s' h).elim
  | ok fl=>
   cases fl with
   | next=>exact False.elim h
   | brk=>exact False.elim h
   | cont=>exact False.elim h
   | ret u=>
    obtain⟨v,H',os,bare,un,hok',r',q⟩:=h
    have q':v=.bl true:=q
    subst q'
    obtain rfl:u=Value.bool true:=r'
    refine⟨rfl,OldK.of_keep fun b o e=>?_,os,bare⟩
    cases q:H b with
    | none=>exact un.keep b o e q (by intro z;exact absurd (show b∈([]:List Addr) from z) (by simp)) (by simp)
    | some u=>
     rcases hO b with z | ⟨ob,xs,z⟩
     ·rw[q]at z;cases z
     ·have z2:=un.frzs b ob _ z
      obtain⟨e1,_⟩:=hok b _ z
      obtain⟨e2,_⟩:=hok' b _ z2
      rw[e]at e1;cases e1
      exact e2
 cases hk:K.lookup a with
 | some o=>
  -- the script is one of the module's own objects
  have e:=KX a o hk
  rw[ha]at e
  cases e
  refine core (fun _=>none) (fun _=>.inl rfl) (.inr ⟨_,vs.toArray,_,hk,rfl,rfl,rfl,by rw[List.size_toArray,lenV];exact hl,by simpa using rv⟩) (fun b u z=>by have z':(none:Option HO)=some u:=z;cases z') (fun b z=>absurd rfl z) fun z=>absurd rfl z
 | none=>
  refine core (fun b=>if b=a then some (.frz { cls:=.type "list",data:=.seq vs.toArray } (.lst (ns.map V.int))) else none) (fun b=>?_) (.inl (.inr ⟨{ cls:=.type "list",data:=.seq vs.toArray },if_pos rfl⟩)) (fun b u z=>?_) (fun b z=>?_) fun _=>hk
  ·by_cases hb:b=a
   ·exact .inr ⟨_,_,if_pos hb⟩
   ·exact .inl (if_neg hb)
  ·by_cases hb:b=a
   ·have z':=(if_pos hb).symm.trans z
    cases z'
    subst hb
    exact⟨ha,by rw[List.length_map];exact hl,vs,_,rv,ha⟩
   ·have z':=(if_neg hb).symm.trans z
    cases z'
  ·by_cases hb:b=a
   ·exact hb
   ·exact absurd (if_neg hb) z
end L2
namespace L2
open PySem PySem.Spec PyProof.Rows
end L2
namespace L2
open PySem PySem.Spec PyProof.Rows
def Qq(s:Stmt):Arguments:=match s with
 | .FunctionDef _ a _ _ _ _ _ _ _ _=>a
 | _=>{ posonlyargs:=[],args:=[],vararg:=none,kwonlyargs:=[],kw_defaults:=[],kwarg:=none,defaults:=[] }
def Qm(s:Stmt):List Stmt:=match s with
 | .FunctionDef _ _ b _ _ _ _ _ _ _=>b
 | _=>[]
def Qb(s:Stmt):Scope:=match s with
 | .FunctionDef _ _ _ _ _ _ sc _ _ _=>sc
 | _=>{ kind:=.function,names:=[],isGenerator:=false,isCoroutine:=false }
abbrev CX0:CXT:=fun _ _ _ _ _ _=>False
abbrev E0:XK:=fun _ _ _=>False
theorem pass0{X:Cx}:Qd5 CX0 X E0:=fun _ _ _ _ _ _ _ h=>h.elim
structure Fun(K:W.Frag)(x qual:Str)(st:Stmt)(f:Addr)(fd:FuncData):Prop where
 ex:∃(oc:Value)(od:Option Addr)(kV doc pm:Value)(an:Option Addr)(cdv ct:Value)(osl:Array (Option Value)),
  fd=W.fnOf x qual (Qq st) (Qm st) (Qb st) .none kV doc pm an cdv ct/\K.lookup f=some ⟨oc,od,.func fd,osl⟩/\W.codeIn K cdv qual=true
 kp:W.keepIn K (.ref f)=true
section
variable{P:Program}{w:World}{K:W.Frag}{mg:Str->Option Value}{base:Heap}
theorem Fun.ok{x qual:Str}{st:Stmt}{f:Addr}{fd:FuncData}{N ps:List Str}{k:Nat}{sp:Sp}(F:Fun K x qual st f fd)(S:Qr N ps (Qb st))(len:∀ vs H Q E,sp vs H Q E->vs.length=ps.length)
 (hbody:∀(cdv:Value)(A:Around)(outer:List Env)(s:Shared)(H:Hp)(vs:List V)(Q:VK)(E:XK),Room k (A.deeper (envOfC qual (Qb st) s.heap.objs.size f cdv))->sp vs H Q E->
  ∃ t,PSs (cxOf CX0 P w K mg base N qual (Qb st) f cdv A outer s H E).nox (Qm st) t/\t { nx:=fun _ H'=>Q .non H',rt:=Q } (start N vs) H):FnOk P w K mg base CX0 (k+1) f fd ps sp:=by
 obtain⟨oc,od,kV,doc,pm,an,cdv,ct,osl,rfl,lk,hcd⟩:=F.ex
 refine fn_of lk hcd S len fun A outer s H vs Q E hr hsp=>?_
 obtain⟨t,h,q⟩:=hbody cdv A outer s H vs Q E hr hsp
 exact⟨t,h.nox,q⟩
end
section
variable{X:Cx}
end
theorem iteF{A B:Prop}(h:B):if false=true then A else B:=by
 rw[if_neg Bool.false_ne_true]
 exact h
theorem iteT{A B:Prop}(h:A):if true=true then A else B:=by
 rw[if_pos rfl]
 exact h
def Same(H H':Hp):Prop:=∀ b o,H b=some o->H' b=some o
theorem Same.refl(H:Hp):Same H H:=fun _ _ h=>h
theorem Same.trans{H H1 H2:Hp}(a:Same H H1)(b:Same H1 H2):Same H H2:=fun c o h=>b c o (a c o h)
theorem Same.free{H H':Hp}(e:Same H H'){l:Addr}(h:H' l=Option.none):H l=Option.none:=by
 cases q:H l with
 | none=>rfl
 | some o=>
  rw[e l o q]at h
  cases h
theorem Same.seq{K:W.Frag}{H H':Hp}{a:Addr}{xs:List V}(e:Same H H')(h:SqL K H a xs):SqL K H' a xs:=by
 rcases h with(h | ⟨o,h⟩) | h
 ·exact .inl (.inl (e _ _ h))
 ·exact .inl (.inr ⟨o,e _ _ h⟩)
 ·exact .inr h
end L2
namespace L2
open PySem PySem.Spec PyProof.Rows
section
variable{κ:Type}[DecidableEq κ]
def valV(kvs:List (κ×V))(k:κ):Option V:=(kvs.find? fun kv=>decide (kv.1=k)).map (·.2)
def putK(kvs:List (κ×V))(k:κ)(v:V):List (κ×V):=
 if (kvs.any fun kv=>decide (kv.1=k))=true then kvs.map (fun kv=>if kv.1=k then(kv.1,v) else kv) else kvs++[(k,v)]
theorem QkT{p:κ×V}{r:List (κ×V)}{k:κ}(e:p.1=k):valV (p::r) k=some p.2:=by simp[valV,List.find?_cons,e]
theorem QkX{p:κ×V}{r:List (κ×V)}{k:κ}(e:¬ p.1=k):valV (p::r) k=valV r k:=by simp[valV,List.find?_cons,e]
theorem Qtb(k:κ):∀ kvs:List (κ×V),(kvs.any fun kv=>decide (kv.1=k))=(valV kvs k).isSome
 | []=>rfl
 | p::r=>by
  rw[List.any_cons]
  by_cases e:p.1=k
  ·simp only[QkT e,decide_eq_true e,Bool.true_or,Option.isSome_some]
  ·rw[QkX e,decide_eq_false e,Bool.false_or];exact Qtb k r
theorem Qkr(kvs:List (κ×V))(k:κ)(v:V):(putK kvs k v).length<=kvs.length+1:=by
 unfold putK
 split
 ·rw[List.length_map];omega
 ·rw[List.length_append,List.length_cons,List.length_nil];omega
theorem RelO.isSome_eq{o:Option V}{u:Option Value}(r:RelO o u):o.isSome=u.isSome:=by
 cases o with
 | none=>cases u with
  | none=>rfl
  | some _=>exact(show False from r).elim
 | some _=>cases u with
  | none=>exact(show False from r).elim
  | some _=>rfl
theorem RelO.getD{o:Option V}{u:Option Value}{d:V}{d':Value}(r:RelO o u)(rd:RelV d d'):RelV (o.getD d) (u.getD d'):=by
 cases o with
 | none=>cases u with
  | none=>exact rd
  | some _=>exact(show False from r).elim
 | some _=>cases u with
  | none=>exact(show False from r).elim
  | some _=>exact r
theorem KV.val{kvs:List (κ×V)}{vs:List (κ×Value)}(r:KV kvs vs)(k:κ):RelO (valV kvs k) (valueAt vs k):=by
 unfold KV at r
 induction r with
 | nil=>exact True.intro
 | @cons p q ps qs h t ih=>
  obtain⟨h1,h2⟩:=h
  by_cases e:p.1=k
  ·have e':q.1=k:=h1.symm.trans e
   have b:valueAt (q::qs) k=some q.2:=by simp[valueAt,List.find?_cons,e']
   rw[QkT e,b];exact h2
  ·have e':¬ q.1=k:=fun z=>e (h1.trans z)
   have b:valueAt (q::qs) k=valueAt qs k:=by simp[valueAt,List.find?_cons,e']
   rw[QkX e,b];exact ih
theorem KV.any{kvs:List (κ×V)}{vs:List (κ×Value)}(r:KV kvs vs)(k:κ):(kvs.any fun kv=>decide (kv.1=k))=vs.any fun kv=>decide (kv.1=k):=by
 unfold KV at r
 induction r with
 | nil=>rfl
 | cons h t ih=>rw[List.any_cons,List.any_cons,ih,h.1]
theorem KV.repl{kvs:List (κ×V)}{vs:List (κ×Value)}(r:KV kvs vs)(k:κ){y:V}{u:Value}(ry:RelV y u):
 KV (kvs.map fun kv=>if kv.1=k then(kv.1,y) else kv) (vs.map fun kv=>if kv.1=k then(kv.1,u) else kv):=by
 unfold KV at r ⊢
 induction r with
 | nil=>exact .nil
 | @cons p q ps qs h t ih=>
  rw[List.map_cons,List.map_cons]
  refine .cons ?_ ih
  obtain⟨h1,h2⟩:=h
  by_cases e:p.1=k
  ·rw[if_pos e,if_pos (h1.symm.trans e)];exact⟨h1,ry⟩
  ·rw[if_neg e,if_neg (fun z=>e (h1.trans z))];exact⟨h1,h2⟩
theorem KV.put{kvs:List (κ×V)}{vs:List (κ×Value)}(r:KV kvs vs)(k:κ){y:V}{u:Value}(ry:RelV y u):KV (putK kvs k y) (stored vs k u):=by
 unfold putK stored
 rw[r.any k]
 by_cases e:(vs.any fun kv=>decide (kv.1=k))=true
 ·rw[if_pos e,if_pos e];exact r.repl k ry
 ·rw[if_neg e,if_neg e];exact Paired.snoc r ⟨rfl,ry⟩
theorem KV.length{kvs:List (κ×V)}{vs:List (κ×Value)}(r:KV kvs vs):kvs.length=vs.length:=Paired.length r
end
theorem kV_is{P:Program}{w:World}{k:Key}{u:Value}(r:RelV (kV k) u):(QaM P w).is k u=true:=by
 cases k with
 | inl i=>obtain⟨t,e⟩:=(show ∃ t,u=Value.int i t from r);subst e;exact Qx3 P w i t
 | inr x=>obtain⟨t,e⟩:=(show ∃ t,u=Value.str x t from r);subst e;exact Qv8 P w x t
theorem QpK{P:Program}{w:World}:∀{ks:List Key}{us:List Value},Vals (ks.map kV) us->ItemsAre (QaM P w) ks us
 | [],_,r=>by rw[List.map_nil]at r;cases r;exact .nil
 | k::ks,_,r=>by
  rw[List.map_cons]at r
  cases r with
  | cons h t=>exact .cons (kV_is h) (QpK t)
abbrev KT(H:Hp):List (List Key×V)->List (List Key×Addr×Value)->Prop:=Paired fun p q=>p.1=q.1/\H q.2.1=some (.tup (p.1.map kV))/\RelV p.2 q.2.2
theorem KT.val{H:Hp}{kvs:List (List Key×V)}{xs:List (List Key×Addr×Value)}(r:KT H kvs xs)(k:List Key):RelO (valV kvs k) ((atKey xs k).map (·.2)):=by
 induction r with
 | nil=>exact True.intro
 | @cons p q ps qs h t ih=>
  obtain⟨h1,_,h2⟩:=h
  by_cases e:p.1=k
  ·have e':q.1=k:=h1.symm.trans e
   have b:atKey (q::qs) k=some q.2:=by simp[atKey,List.find?_cons,e']
   rw[QkT e,b];exact h2
  ·have e':¬ q.1=k:=fun z=>e (h1.trans z)
   have b:atKey (q::qs) k=atKey qs k:=by simp[atKey,List.find?_cons,e']
   rw[QkX e,b];exact ih
theorem KT.repl{H:Hp}{kvs:List (List Key×V)}{xs:List (List Key×Addr×Value)}(r:KT H kvs xs)(k:List Key){y:V}{u:Value}(ry:RelV y u):
 KT H (kvs.map fun kv=>if kv.1=k then(kv.1,y) else kv) (xs.map (putAt k u)):=by
 induction r with
 | nil=>exact .nil
 | @cons p q ps qs h t ih=>
  rw[List.map_cons,List.map_cons]
  refine .cons ?_ ih
  obtain⟨h1,h2,h3⟩:=h
  unfold putAt
  by_cases e:p.1=k
  ·rw[if_pos e,if_pos (h1.symm.trans e)];exact⟨h1,h2,ry⟩
  ·rw[if_neg e,if_neg (fun z=>e (h1.trans z))];exact⟨h1,h2,h3⟩
theorem KT.put{H:Hp}{kvs:List (List Key×V)}{xs:List (List Key×Addr×Value)}(r:KT H kvs xs)(k:List Key){b:Addr}{y:V}{u:Value}(hb:H b=some (.tup (k.map kV)))(ry:RelV y u):
 KT H (putK kvs k y) (storedH xs k b u):=by
 have e:(kvs.any fun kv=>decide (kv.1=k))=(atKey xs k).isSome:=by
  rw[Qtb,(r.val k).isSome_eq,Option.isSome_map]
 unfold putK storedH
 rw[e]
 by_cases q:(atKey xs k).isSome=true
 ·rw[if_pos q,if_pos q];exact r.repl k ry
 ·rw[if_neg q,if_neg q];exact Paired.snoc r ⟨rfl,hb,ry⟩
theorem KT.keeps{H H':Hp}{kvs:List (List Key×V)}{xs:List (List Key×Addr×Value)}(r:KT H kvs xs)(ht:∀ b ys,H b=some (.tup ys)->H' b=some (.tup ys)):KT H' kvs xs:=
 Paired.mapP r fun _ _ z=>⟨z.1,ht _ _ z.2.1,z.2.2⟩
section
variable{P:Program}{w:World}{H:Hp}{h:Heap}{a:Addr}
theorem rd_of{u:HO}(ok:HOk P w H h)(e:Rd H a u):ObjOk P w H h a u:=e.ok ok
theorem dk_rd{kvs:List (Key×V)}(ok:HOk P w H h)(e:Rd H a (.dK kvs)):kvs.length<=sizeLine/\(a == sysModules)=false/\∃ vs,KV kvs vs/\h.DictOf (QaM P w) a vs:=
 show ObjOk P w H h a (.dK kvs) from rd_of ok e
theorem dk_of{kvs:List (Key×V)}(ok:HOk P w H h)(e:H a=some (.dK kvs)):kvs.length<=sizeLine/\(a == sysModules)=false/\∃ vs,KV kvs vs/\h.DictOf (QaM P w) a vs:=dk_rd ok (.inl e)
theorem QjI{ks:List Key}(ok:HOk P w H h)(e:H a=some (.tup (ks.map kV))):(tupleKind (QaM P w)).is h ks a:=by
 obtain⟨_,its,r,o,h1,h2,n,h3⟩:=(show ObjOk P w H h a (.tup (ks.map kV)) from ok a _ e)
 exact⟨o,its.toArray,n,h1,h2,h3,by simpa using QpK r⟩
theorem dt_rd{kvs:List (List Key×V)}(ok:HOk P w H h)(e:Rd H a (.dT kvs)):kvs.length<=sizeLine/\(a == sysModules)=false/\
 ∃ xs,KT H kvs xs/\h.DictOfH (tupleKind (QaM P w)) a xs:=by
 obtain⟨z,y,xs,r,o,es,ep,h1,h2,h3,h4,h5⟩:=(show ObjOk P w H h a (.dT kvs) from rd_of ok e)
 refine⟨z,y,xs,r,o,es,ep,h1,h2,h3,h4,fun x hx=>?_,h5⟩
 have all:∀{l:List (List Key×V)}{m:List (List Key×Addr×Value)},KT H l m->∀ x∈m,(tupleKind (QaM P w)).is h x.1 x.2.1:=by
  intro l m q
  induction q with
  | nil=>intro x hx;exact nomatch hx
  | @cons p q ps qs hq t ih=>
   intro x hx
   rcases List.mem_cons.mp hx with e | hx
   ·subst e
    exact QjI ok (by rw[← hq.1];exact hq.2.1)
   ·exact ih x hx
 exact all r x hx
theorem dt_of{kvs:List (List Key×V)}(ok:HOk P w H h)(e:H a=some (.dT kvs)):kvs.length<=sizeLine/\(a == sysModules)=false/\
 ∃ xs,KT H kvs xs/\h.DictOfH (tupleKind (QaM P w)) a xs:=dt_rd ok (.inl e)
end
def DGet(H:Hp)(a:Addr)(y:V)(r:Option V):Prop:=
 (∃ kvs k,Rd H a (.dK kvs)/\y=kV k/\r=valV kvs k)∨∃ kvs k b,Rd H a (.dT kvs)/\y=.ref b/\H b=some (.tup (k.map kV))/\r=valV kvs k
def DPut(H:Hp)(a:Addr)(y v:V)(H':Hp):Prop:=
 (∃ kvs k,H a=some (.dK kvs)/\y=kV k/\kvs.length<sizeLine/\H'=upd H a (.dK (putK kvs k v)))∨
 ∃ kvs k b,H a=some (.dT kvs)/\y=.ref b/\H b=some (.tup (k.map kV))/\kvs.length<sizeLine/\H'=upd H a (.dT (putK kvs k v))
theorem DGet.k{H:Hp}{a:Addr}{kvs:List (Key×V)}{k:Key}(e:H a=some (.dK kvs)):DGet H a (kV k) (valV kvs k):=.inl ⟨kvs,k,.inl e,rfl,rfl⟩
theorem DGet.t{H:Hp}{a b:Addr}{kvs:List (List Key×V)}{k:List Key}(e:H a=some (.dT kvs))(eb:H b=some (.tup (k.map kV))):DGet H a (.ref b) (valV kvs k):=.inr ⟨kvs,k,b,.inl e,rfl,eb,rfl⟩
theorem DPut.k{H:Hp}{a:Addr}{kvs:List (Key×V)}{k:Key}{v:V}(e:H a=some (.dK kvs))(hl:kvs.length<sizeLine):DPut H a (kV k) v (upd H a (.dK (putK kvs k v))):=.inl ⟨kvs,k,e,rfl,hl,rfl⟩
theorem DPut.t{H:Hp}{a b:Addr}{kvs:List (List Key×V)}{k:List Key}{v:V}(e:H a=some (.dT kvs))(eb:H b=some (.tup (k.map kV)))(hl:kvs.length<sizeLine):
 DPut H a (.ref b) v (upd H a (.dT (putK kvs k v))):=.inr ⟨kvs,k,b,e,rfl,eb,hl,rfl⟩
section
variable{X:Cx}{pins:List (Addr×Obj)}{σ:St}{H:Hp}{s:Shared}{a:Addr}{y v:V}{u r:Value}{o:Option V}{A:Around}{E:Value->Shared->Prop}
theorem QDN{Q:Value->Shared->Prop}(hu:A.units+1<cLine)(I:Inv X pins σ H s)(g:DGet H a y (some v))(ry:RelV y u)(h:∀ w' s',Inv X pins σ H s'->RelV v w'->Q w' s'):
 wpAny (model X.prog X.w) A (getItem (.ref a) u) Q E s:=by
 rcases g with⟨kvs,k,e,ey,l⟩ | ⟨kvs,k,b,e,ey,eb,l⟩
 ·subst ey
  obtain⟨z,hd,vs,rel,dd⟩:=dk_rd I.hok e
  obtain⟨w',hw,rw'⟩:=RelO.some_of (v:=v) (o:=valueAt vs k) (by rw[l];exact rel.val k)
  exact wpAny_getItem_of (kV_is ry) dd.mapOf hw (h w' _ (I.tok _) rw')
 ·subst ey
  cases (show u=Value.ref b from ry)
  obtain⟨z,hd,xs,rel,dd⟩:=dt_rd I.hok e
  obtain⟨w',hw,rw'⟩:=RelO.some_of (v:=v) (o:=(atKey xs k).map (·.2)) (by rw[l];exact rel.val k)
  obtain⟨p,hp,hp2⟩:=Option.map_eq_some_iff.mp hw
  refine wpAny_getItem_heap (tupleKind_room_in1 hu) (QjI I.hok eb) dd hp ?_
  rw[hp2]
  exact h w' _ (I.tok _) rw'
theorem Qze{h':Heap}{t':Nat}{ob:HO}(I:Inv X pins σ H s)(mu:Mut (H a))(hs:Heap.SameBut a s.heap h')(he:∃ q,h'.get? a=some q)(new:ObjOk X.prog X.w (upd H a ob) h' a ob):
 Inv X pins σ (upd H a ob) { s with heap:=h',toks:=t' }:=
 I.write (x:=a) (e:=a) mu (.inl rfl) (fun b q hb z=>(hs.2 b hb).trans z) he new
theorem QHP{P:Program}{w:World}{H':Hp}{h':Heap}{kvs:List (Key×V)}{vs:List (Key×Value)}(z:kvs.length<=sizeLine)(hd:(a == sysModules)=false)(rel:KV kvs vs)(dd:h'.DictOf (QaM P w) a vs):
 ObjOk P w H' h' a (.dK kvs):=⟨z,hd,vs,rel,dd⟩
theorem QCY{H':Hp}{Q:Unit->Shared->Prop}(hu:A.units+1<cLine)(I:Inv X pins σ H s)(g:DPut H a y v H')(ry:RelV y u)(rv:RelV v r)(h:∀ s',Inv X pins σ H' s'->Q () s'):
 wpAny (model X.prog X.w) A (setItem (.ref a) u r) Q E s:=by
 rcases g with⟨kvs,k,e,ey,l,eH⟩ | ⟨kvs,k,b,e,ey,eb,l,eH⟩
 ·subst ey eH
  obtain⟨z,hd,vs,rel,dd⟩:=dk_of I.hok e
  have hz:vs.length<=sizeLine:=by rw[← rel.length];exact z
  have hl:(putK kvs k v).length<=sizeLine:=by have:=Qkr kvs k v;omega
  refine wpAny_setItem_pairs (hsz:=hz) (kV_is ry) dd fun h' dd' hs=>h _ ?_
  have he:∃ q,h'.get? a=some q:=let ⟨q,_,_,hq,_⟩:=dd';⟨q,hq⟩
  exact Qze I (by rw[e];exact True.intro) hs he (QHP hl hd (rel.put k rv) dd')
 ·subst ey eH
  cases (show u=Value.ref b from ry)
  obtain⟨z,hd,xs,rel,dd⟩:=dt_of I.hok e
  have hz:xs.length<=sizeLine:=by rw[← Paired.length rel];exact z
  have hl:(putK kvs k v).length<=sizeLine:=by have:=Qkr kvs k v;omega
  refine wpAny_setItem_heap (hsz:=hz) (tupleKind_room_in1 hu) (QjI I.hok eb) dd fun h' dd' hs=>h _ ?_
  obtain⟨q,es,ep,hq,h2,h3,h4,_,h5⟩:=dd'
  refine Qze I (by rw[e];exact True.intro) hs ⟨q,hq⟩ ⟨hl,hd,_,(rel.put k eb rv).keeps fun c ys ec=>?_,q,es,ep,hq,h2,h3,h4,h5⟩
  rw[Qh (ne_of ec e (fun z=>nomatch z))]
  exact ec
end
section
variable{X:Cx}{pins:List (Addr×Obj)}{σ:St}{H:Hp}{s:Shared}{a:Addr}{kvs:List (Key×V)}{k:Key}{u:Value}{A:Around}{E:Value->Shared->Prop}
end
def NoSl(i:Expr):Prop:=∀ ov iv,subscripted i false ov iv=operate [ov,iv] (getItem ov iv)
theorem QGd{prog:Program}{w:World}{A:Around}{E:Value->Shared->Prop}{s:Shared}{env:Env}{value slice:Expr}{pos:Pos}{T id:String}{Q:Value->Shared->Prop}
 (hl:typeLookup (.type T) "__getitem__"=pure (some (.builtin id))) (hs:NoSl slice)
 (h:wpAny (model prog w) A (eval value env) (fun o s₁=>wpAny (model prog w) A (eval slice env) (fun i s₂ => s₂.TypeIs o T/\wpAny (model prog w) A (getItem o i) Q E s₂) E s₁) E s):
 wpAny (model prog w) A (eval (.Subscript value slice pos) env) Q E s:=by
 refine Subscript_ (wpAny_mono h (fun o s₁ h₁=>wpAny_mono h₁ (fun i s₂ h₂ => ?_) fun _ _ x=>x) fun _ _ x=>x)
 obtain⟨hT,h₂⟩:=h₂
 unfold subscriptTail
 refine wpAny_bind ?_
 rw[getitemInPython_of_ne hT.not_modules]
 refine wpAny_bind (wpAny_specialOf hT hl ?_)
 have fin:wpAny (model prog w) A (subscripted slice false o i) (fun r s₃ => wpAny (model prog w) A (letTemporaryGo value o r>>=fun _=>pure r) Q E s₃) E s₂ := by
  rw[hs o i]
  exact wpAny_operating (wpAny_mono h₂ (fun r s₃ h₃ => wpAny_bind (wpAny_letTemporaryGo (wpAny_pure h₃))) fun _ _ x=>x)
 first
  | exact wpAny_pure (wpAny_bind fin)
  | exact wpAny_bind (wpAny_pure (wpAny_bind fin))
  | exact wpAny_bind fin
theorem Qxa{X:Cx}{pins:List (Addr×Obj)}{σ:St}{H:Hp}{s:Shared}{a:Addr}{y:V}{o:Option V}(I:Inv X pins σ H s)(g:DGet H a y o):s.TypeIs (.ref a) "dict":=by
 rcases g with⟨kvs,k,e,_,_⟩ | ⟨kvs,k,b,e,_,_,_⟩
 ·obtain⟨_,_,vs,_,dd⟩:=dk_rd I.hok e
  exact dd.typeIs
 ·obtain⟨_,_,xs,_,dd⟩:=dt_rd I.hok e
  exact dd.typeIs
def tDGet(td ty:TE):TE:=fun σ H Q=>td σ H fun x H1=>ty σ H1 fun y H2=>∃ a v,x=.ref a/\DGet H2 a y (some v)/\Q v H2
def sDPut(td ty tv:TE):TS:=fun D σ H=>tv σ H fun v H1=>td σ H1 fun x H2=>ty σ H2 fun y H3=>∃ a H4,x=.ref a/\DPut H3 a y v H4/\D.nx σ H4
section
variable{X:Cx}{o i e value:Expr}{pos pos' tpos:Pos}{td ty tv:TE}
theorem QF7(hu:X.A.units+1<cLine)(ho:PE X o td)(hi:PE X i ty)(hs:NoSl i):PE X (.Subscript o i pos) (tDGet td ty):=by
 intro pins s σ H Q I h
 refine QGd PySem.F.slot_dict_getitem.lookup hs (thn (ho pins s σ H _ I h) fun u s1 ⟨x,H1,I1,rx,q1⟩=>thn (hi pins s1 σ H1 _ I1 q1) fun iv s2 ⟨y,H2,I2,ry,a,v,ex,g,q2⟩=>?_)
 subst ex
 obtain rfl:u=Value.ref a:=rx
 exact⟨Qxa I2 g,QDN hu I2 g ry fun w' s3 I3 rw'=>⟨v,H2,I3,rw',q2⟩⟩
theorem QGw(hu:X.A.units+1<cLine)(ho:PE X o td)(hi:PE X i ty)(hv:PE X value tv)(hs:swapsWith value (some (.Subscript o i pos')) pos.line X.env=pure false):
 PS X (.Assign [.Subscript o i pos'] value pos) (sDPut td ty tv):=by
 intro pins s σ H D I h
 refine wpAny_Assign_Subscript (thn (hv pins s σ H _ I h) fun r s1 ⟨v,H1,I1,rv,q1⟩=>thn (ho pins s1 σ H1 _ I1 q1) fun u s2 ⟨x,H2,I2,rx,q2⟩=>thn (hi pins s2 σ H2 _ I2 q2) fun iv s3 ⟨y,H3,I3,ry,a,H4,ex,g,q3⟩=>?_) hs
 subst ex
 obtain rfl:u=Value.ref a:=rx
 exact QCY hu I3 g ry rv fun s4 I4=>⟨σ,H4,I4,q3⟩
end
section
variable{X:Cx}{pos:Pos}
end
structure M1(X:Cx)(o:Expr)(m:Str)(apos:Pos)(e:Expr)(cpos:Pos):Prop where
 base:attributeBase o m X.env (eval o X.env)=eval o X.env
 few:((backTo cpos (starEach [e] X.env)).all (fun x => !x.1)&&(backToKw cpos (keywordEach [] X.env)).all (fun x=>x.1.isSome)
  && decide (([e]:List Expr).length+([]:List Keyword).length+(if ([]:List Keyword).isEmpty then 0 else 1)<30))=true
 line:(apos.endLine == cpos.line)=true
 trees:backTo cpos (starEach [e] X.env)=[(false,eval e X.env)]
structure M2(X:Cx)(o:Expr)(m:Str)(apos:Pos)(e f:Expr)(cpos:Pos):Prop where
 base:attributeBase o m X.env (eval o X.env)=eval o X.env
 few:((backTo cpos (starEach [e,f] X.env)).all (fun x => !x.1)&&(backToKw cpos (keywordEach [] X.env)).all (fun x=>x.1.isSome)
  && decide (([e,f]:List Expr).length+([]:List Keyword).length+(if ([]:List Keyword).isEmpty then 0 else 1)<30))=true
 line:(apos.endLine == cpos.line)=true
 trees:backTo cpos (starEach [e,f] X.env)=[(false,eval e X.env),(false,eval f X.env)]
def IsD(H:Hp)(a:Addr):Prop:=(∃ kvs,Rd H a (.dK kvs))∨∃ kvs,Rd H a (.dT kvs)
theorem QCP{X:Cx}{pins:List (Addr×Obj)}{σ:St}{H:Hp}{s:Shared}{a:Addr}(I:Inv X pins σ H s)(d:IsD H a):
 s.TypeIs (.ref a) "dict"/\(∀ b,Value.ref a=.ref b->∃ ob,s.heap.get? b=some ob/\ob.dict=none)/\(a == sysModules)=false:=by
 rcases d with⟨kvs,e⟩ | ⟨kvs,e⟩
 ·obtain⟨_,hd,vs,_,dd⟩:=dk_rd I.hok e
  refine⟨dd.typeIs,fun b q=>?_,hd⟩
  cases q
  obtain⟨ob,_,_,h1,h2,_⟩:=dd
  exact⟨ob,h1,h2.2.1⟩
 ·obtain⟨_,hd,xs,_,dd⟩:=dt_rd I.hok e
  refine⟨dd.typeIs,fun b q=>?_,hd⟩
  cases q
  obtain⟨ob,_,_,h1,h2,_⟩:=dd
  exact⟨ob,h1,h2.2.1⟩
section
variable{X:Cx}{pins:List (Addr×Obj)}{σ:St}{H:Hp}{s:Shared}{a:Addr}{y d:V}{u r:Value}{o:Option V}{A:Around}{E:Value->Shared->Prop}
theorem QHg{Q:Value->Shared->Prop}(hu:A.units+1<cLine)(I:Inv X pins σ H s)(g:DGet H a y o)(ry:RelV y u)(h:∀ w' s',Inv X pins σ H s'->RelV (o.getD .non) w'->Q w' s'):
 wpAny (model X.prog X.w) A (call (.builtin "dict.get") [.ref a,u]) Q E s:=by
 rcases g with⟨kvs,k,e,ey,l⟩ | ⟨kvs,k,b,e,ey,eb,l⟩
 ·subst ey
  obtain⟨z,hd,vs,rel,dd⟩:=dk_rd I.hok e
  refine call_meetsIn PySem.F.slot_dict_get dd.typeIs PySem.F.entry_dict_get (PySem.F.args_dict_get_2 _ _) (meets_dict_get (QaM X.prog X.w) a (kV_is ry) hd) ⟨_,dd.mapOf,h _ _ (I.tok _) ?_⟩
  rw[l]
  exact(rel.val k).getD rfl
 ·subst ey
  cases (show u=Value.ref b from ry)
  obtain⟨z,hd,xs,rel,dd⟩:=dt_rd I.hok e
  refine call_meetsIn PySem.F.slot_dict_get dd.typeIs PySem.F.entry_dict_get (PySem.F.args_dict_get_2 _ _) (meetsH_dict_get (tupleKind (QaM X.prog X.w)) a b hd) ⟨tupleKind_room_in1 hu,k,xs,QjI I.hok eb,dd,h _ _ (I.tok _) ?_⟩
  rw[l]
  exact(rel.val k).getD rfl
theorem QHI{Q:Value->Shared->Prop}(hu:A.units+1<cLine)(I:Inv X pins σ H s)(g:DGet H a y o)(ry:RelV y u)(rd:RelV d r)(h:∀ w' s',Inv X pins σ H s'->RelV (o.getD d) w'->Q w' s'):
 wpAny (model X.prog X.w) A (call (.builtin "dict.get") [.ref a,u,r]) Q E s:=by
 rcases g with⟨kvs,k,e,ey,l⟩ | ⟨kvs,k,b,e,ey,eb,l⟩
 ·subst ey
  obtain⟨z,hd,vs,rel,dd⟩:=dk_rd I.hok e
  refine call_meetsIn PySem.F.slot_dict_get dd.typeIs PySem.F.entry_dict_get (PySem.F.args_dict_get_3 _ _ _) (meets_dict_get_default (QaM X.prog X.w) a (kV_is ry) hd r) ⟨_,dd.mapOf,h _ _ (I.tok _) ?_⟩
  rw[l]
  exact(rel.val k).getD rd
 ·subst ey
  cases (show u=Value.ref b from ry)
  obtain⟨z,hd,xs,rel,dd⟩:=dt_rd I.hok e
  refine call_meetsIn PySem.F.slot_dict_get dd.typeIs PySem.F.entry_dict_get (PySem.F.args_dict_get_3 _ _ _) (meetsH_dict_get_default (tupleKind (QaM X.prog X.w)) a b hd r) ⟨tupleKind_room_in1 hu,k,xs,QjI I.hok eb,dd,h _ _ (I.tok _) ?_⟩
  rw[l]
  exact(rel.val k).getD rd
end
def QHX(td ty:TE):TE:=fun σ H Q=>td σ H fun x H1=>∃ a,x=.ref a/\IsD H1 a/\ty σ H1 fun y H2=>∃ o,DGet H2 a y o/\Q (o.getD .non) H2
def QGR(td ty tx:TE):TE:=fun σ H Q=>td σ H fun x H1=>∃ a,x=.ref a/\IsD H1 a/\ty σ H1 fun y H2=>tx σ H2 fun z H3=>∃ o,DGet H3 a y o/\Q (o.getD z) H3
section
variable{X:Cx}{o e f:Expr}{apos cpos:Pos}{td ty tx:TE}
theorem QD3(hu:X.A.units+1<cLine)(ho:PE X o td)(he:PE X e ty)(m:M1 X o "get" apos e cpos):PE X (.Call (.Attribute o "get" apos) [e] [] cpos) (QHX td ty):=by
 intro pins s σ H Q I h
 refine wpAny_Call_method m.base m.few m.line PySem.F.plainAttrs_dict PySem.F.slot_dict_get PySem.F.type_dict_get (thn (ho pins s σ H _ I h) fun u s1 ⟨x,H1,I1,rx,a,ex,d,q1⟩=>?_)
 subst ex
 obtain rfl:u=Value.ref a:=rx
 obtain⟨t1,t2,_⟩:=QCP I1 d
 refine⟨t1,t2,?_⟩
 rw[m.trees]
 refine Calls.callWith_builtin rfl (Calls.evalArgs_plain (Calls.spliced_cons (thn (he pins s1 σ H1 _ I1 q1) fun iv s2 ⟨y,H2,I2,ry,ov,g,q2⟩=>Calls.spliced_nil ?_)))
 exact QHg hu I2 g ry fun w' s3 I3 rw'=>⟨_,H2,I3,rw',q2⟩
theorem QsR(hu:X.A.units+1<cLine)(ho:PE X o td)(he:PE X e ty)(hf:PE X f tx)(m:M2 X o "get" apos e f cpos):PE X (.Call (.Attribute o "get" apos) [e,f] [] cpos) (QGR td ty tx):=by
 intro pins s σ H Q I h
 refine wpAny_Call_method m.base m.few m.line PySem.F.plainAttrs_dict PySem.F.slot_dict_get PySem.F.type_dict_get (thn (ho pins s σ H _ I h) fun u s1 ⟨x,H1,I1,rx,a,ex,d,q1⟩=>?_)
 subst ex
 obtain rfl:u=Value.ref a:=rx
 obtain⟨t1,t2,_⟩:=QCP I1 d
 refine⟨t1,t2,?_⟩
 rw[m.trees]
 refine Calls.callWith_builtin rfl (Calls.evalArgs_plain (Calls.spliced_cons (thn (he pins s1 σ H1 _ I1 q1) fun iv s2 ⟨y,H2,I2,ry,q2⟩=>
  Calls.spliced_cons (thn (hf pins s2 σ H2 _ I2 q2) fun fv s3 ⟨z,H3,I3,rz,ov,g,q3⟩=>Calls.spliced_nil ?_))))
 exact QHI hu I3 g ry rz fun w' s4 I4 rw'=>⟨_,H3,I4,rw',q3⟩
end
section
variable{X:Cx}{pins:List (Addr×Obj)}{σ:St}{H:Hp}{s:Shared}{a:Addr}{kvs:List (Key×V)}{A:Around}{E:Value->Shared->Prop}
end
section
variable{X:Cx}{pins:List (Addr×Obj)}{σ:St}{H:Hp}{s:Shared}{a:Addr}{y:V}{u:Value}{A:Around}{E:Value->Shared->Prop}
end
end L2
namespace L2
open PySem PySem.Spec PyProof.Rows
structure FlyS(P:Program)(w:World)(l:List Env)(H:Hp)(s:Shared)(ea C t:Addr)(H':Hp)(B:Heap)(s':Shared):Prop where
 os:s'.os=s.os
 bare:AllBare s'.gens
 un:Un (frs l) [] H H' s.heap s'.heap
 kb:∀ b o,s.heap.get? b=some o->H b=none->b∉frs l->B.get? b=some o
 th:∀ b o,s.heap.get? b=some o->b∉frs l->∃ o',B.get? b=some o'
 hok:HOk P w H' B
 fly:Heap.FlyingW B l ea (.ref C) (.ref t) s'.heap
def CXR(P:Program)(w:World):CXT:=fun l H s E e s'=>∃ ea C t H' B,e=.ref ea/\FlyS P w l H s ea C t H' B s'/\E (.ref C) none H'
section
variable{P:Program}{w:World}{l:List Env}{H H':Hp}{s s':Shared}{ea C t:Addr}{B h':Heap}
end
section
variable{X:Cx}{pins:List (Addr×Obj)}{σ:St}{H1:Hp}{s1:Shared}{E:XK}{ea C:Addr}{vs:List Value}{h':Heap}{Ex:Value->Shared->Prop}{M:Model}
theorem Qfo(I:Inv X pins σ H1 s1):∀ b o,X.s₀.heap.get? b=some o->b∉X.fs->b∉frs X.stack:=fun b o e hb z=>by
 rcases List.mem_cons.mp (I.stkSub b z) with q | q
 ·have:=Heap.lt_size e
  rw[q]at this
  exact absurd (Nat.lt_of_lt_of_le this I.ok.above) (Nat.lt_irrefl _)
 ·exact hb q
theorem QGy(I:Inv X pins σ H1 s1):HOk X.prog X.w H1 (W.hideAll s1.heap (frs X.stack)):=fun a o e=>
 (I.hok a o e).stay (fun b u hb q=>W.hideAll_get _ q fun z=>by
  have:=I.stkFree b z
  rcases hb with rfl | hb
  ·rw[this]at e;cases e
  ·rw[this]at hb;cases hb) (fun _ q=>q) fun _ _ q=>q
theorem Qzq(I:Inv X pins σ H1 s1):∀ b∈X.fs,∀ o,X.s₀.heap.get? b=some o->∀ vs,o.data≠.fields vs:=fun b hb o e=>by
 obtain⟨_,o',h1,h2⟩:=I.ok.funs.mem hb
 rw[e]at h1;cases h1
 exact h2
theorem QAC(I:Inv X pins σ H1 s1)(hst:X.stack=X.env::X.outer)(hfr:X.env.frame=some X.env.locals)(hex:X.ex=[])(hx:Heap.MadeExcOf s1.heap h' ea (.ref C) vs)(hE:E (.ref C) none H1):
 wpAny M X.A (leaving X.env (.ref ea)) (fun _ s''=>CXR X.prog X.w X.outer X.H₀ X.s₀ E (.ref ea) s'') Ex { s1 with heap:=h' }:=by
 have hin:∀ env∈X.stack,∀ b,env.frame=some b->b∈frs X.stack:=fun env he b hb=>List.mem_filterMap.mpr ⟨env,he,hb⟩
 have st:=I.stack
 refine wpAny_leaves_madeW (base:=W.hideAll s1.heap (frs X.stack)) (h:=s1.heap) (env:=X.env) (outer:=X.outer) (by rw[← hst];exact I.ok.frames) hfr (fun b o q=>W.of_hideAll _ q)
  (by rw[← hst];exact W.funFrames_hide st hin) hx fun h2 t fl tp nt up=>?_
 have nx:∀ b:Addr,b∉X.ex:=fun b z=>by rw[hex]at z;cases z
 have kbB:∀ b o,X.s₀.heap.get? b=some o->X.H₀ b=none->b∉X.fs->(W.hideAll s1.heap (frs X.stack)).get? b=some o:=fun b o e n hb=>W.hideAll_get _ (I.base.keep b o e n hb (nx b)) (Qfo I b o e hb)
 have thB:∀ b o,X.s₀.heap.get? b=some o->b∉X.fs->∃ o',(W.hideAll s1.heap (frs X.stack)).get? b=some o':=fun b o e hb=>by
  obtain⟨o',q⟩:=I.base.there b o e (nx b)
  exact⟨o',W.hideAll_get _ q (Qfo I b o e hb)⟩
 have slot:∀ b o,X.s₀.heap.get? b=some o->X.H₀ b=none->b∈X.fs->∃ sl,h2.get? b=some { o with slots:=sl }:=fun b o e n hb=>by
  obtain⟨sl,q⟩:=I.base.slot b o e n hb (nx b)
  obtain⟨sl2,q2⟩:=up b _ (hx.keeps _ _ q) (Qzq I b hb o e)
  exact⟨sl2,q2⟩
 refine⟨ea,C,t,H1,_,rfl,⟨I.os,I.bare,⟨fun b o e n hb _=>fl.1 b o (kbB b o e n hb),fun b o e n hb _=>slot b o e n hb,fun b o e n _=>I.base.free b o e n (nx b),fun b o e _=>?_,I.base.tups,I.base.frzs,I.base.tbls⟩,kbB,thB,QGy I,fl⟩,hE⟩
 by_cases hb:b∈X.fs
 ·obtain⟨sl,q⟩:=slot b o e (I.ok.frf b hb) hb
  exact⟨_,q⟩
 ·obtain⟨o',q⟩:=thB b o e hb
  exact⟨o',fl.1 b o' q⟩
theorem QE1{s':Shared}{e:Value}(I:Inv X pins σ H1 s1)(hst:X.stack=X.env::X.outer)(hfr:X.env.frame=some X.env.locals)(hex:X.ex=[])(h:CXR X.prog X.w X.stack H1 s1 E e s'):
 wpAny M X.A (leaving X.env e) (fun _ s''=>CXR X.prog X.w X.outer X.H₀ X.s₀ E e s'') Ex s':=by
 obtain⟨ea,C,t,H',B,rfl,F,hE⟩:=h
 have fl:=F.fly
 rw[hst]at fl
 refine wpAny_leaves_onW (by rw[← hst];exact I.ok.frames) hfr fl fun h2 fl2 up=>?_
 have nx:∀ b:Addr,b∉X.ex:=fun b z=>by rw[hex]at z;cases z
 have nn:∀ b:Addr,b∉([]:List Addr):=fun b z=>by cases z
 have kbB:∀ b o,X.s₀.heap.get? b=some o->X.H₀ b=none->b∉X.fs->B.get? b=some o:=fun b o e n hb=>
  F.kb b o (I.base.keep b o e n hb (nx b)) (I.base.free b o e n (nx b)) (Qfo I b o e hb)
 have thB:∀ b o,X.s₀.heap.get? b=some o->b∉X.fs->∃ o',B.get? b=some o':=fun b o e hb=>by
  obtain⟨o',q⟩:=I.base.there b o e (nx b)
  exact F.th b o' q (Qfo I b o e hb)
 have slot:∀ b o,X.s₀.heap.get? b=some o->X.H₀ b=none->b∈X.fs->∃ sl,h2.get? b=some { o with slots:=sl }:=fun b o e n hb=>by
  obtain⟨sl,q⟩:=I.base.slot b o e n hb (nx b)
  have hs:b∈frs X.stack:=by
   rw[hst]
   obtain⟨env,h1,h2⟩:=List.mem_filterMap.mp hb
   exact List.mem_filterMap.mpr ⟨env,List.mem_cons_of_mem _ h1,h2⟩
  obtain⟨sl1,q1⟩:=F.un.slot b _ q (I.base.free b o e n (nx b)) hs (nn b)
  obtain⟨sl2,q2⟩:=up b _ q1 (Qzq I b hb o e)
  exact⟨sl2,q2⟩
 refine⟨ea,C,t,H',B,rfl,⟨F.os.trans I.os,F.bare,⟨fun b o e n hb _=>fl2.1 b o (kbB b o e n hb),fun b o e n hb _=>slot b o e n hb,fun b o e n _=>?_,fun b o e _=>?_,fun b xs e=>F.un.tups b xs (I.base.tups b xs e),fun b o u e=>F.un.frzs b o u (I.base.frzs b o u e),fun b ps e=>?_⟩,kbB,thB,F.hok,fl2⟩,hE⟩
 ·obtain⟨o',q⟩:∃ o',s1.heap.get? b=some o':=I.base.there b o e (nx b)
  exact F.un.free b o' q (I.base.free b o e n (nx b)) (nn b)
 ·by_cases hb:b∈X.fs
  ·obtain⟨sl,q⟩:=slot b o e (I.ok.frf b hb) hb
   exact⟨_,q⟩
  ·obtain⟨o',q⟩:=thB b o e hb
   exact⟨o',fl2.1 b o' q⟩
 ·obtain⟨m1,q1⟩:=I.base.tbls b ps e
  obtain⟨m2,q2⟩:=F.un.tbls b _ q1
  exact⟨m1++m2,by rw[q2,Array.append_assoc]⟩
end
section
variable{P:Program}{w:World}{K:W.Frag}{mg:Str->Option Value}{base:Heap}{N:List Str}{qual:Str}{scope:Scope}{f:Addr}{cd:Value}{A:Around}{outer:List Env}{s:Shared}{H:Hp}{E:XK}
theorem passR:Qd5 (CXR P w) (cxOf (CXR P w) P w K mg base N qual scope f cd A outer s H E) E:=fun pins σ H1 s1 e s' I h=>QE1 I rfl rfl rfl h
end
end L2
namespace L2
open PySem PySem.Spec PyProof.Rows
section
variable{X:Cx}{C:Addr}{E:XK}{x:Str}{e₀:Expr}{rest:List Expr}{ta:TA}{np cpos pos:Pos}
end
end L2
namespace L2
open PySem PySem.Spec PyProof.Rows
def exO(ea C:Addr):HO:=.ext fun h=>∃ o vs,h.get? ea=some o/\o.cls=.ref C/\o.data=.fields vs
section
variable{X:Cx}{pins:List (Addr×Obj)}{σ:St}{H H':Hp}{s s':Shared}{ea C t:Addr}{B:Heap}
end
section
variable{X:Cx}{pins:List (Addr×Obj)}{σ:St}{H H':Hp}{s s':Shared}{ea C DD t:Addr}{B:Heap}{x n:Str}{np hpos:Pos}{b₀:Stmt}{suite:List Stmt}{rest:List ExceptHandler}{D:Ends}{Ex:Value->Shared->Prop}{i:Nat}{ts:TS}
end
end L2
namespace L2
open PySem PySem.Spec PyProof.Rows
abbrev TXS:=Ends->St->Hp->(St->XK)->Prop
section
variable{X:Cx}{k:Nat}{f:Addr}{fd:FuncData}{ps:List Str}{sp:Sp}{dvs:List V}{ds:List Value}{x:Str}{p pos:Pos}{e:Expr}{es:List Expr}{ta:TA}
theorem PA.nox{es:List Expr}{t:TA}(h:PA X.nox es t){pos:Pos}{pins:List (Addr×Obj)}{s:Shared}{σ:St}{H:Hp}{Q:List V->Hp->Prop}{E:Value->Shared->Prop}(I:Inv X pins σ H s)(q:t σ H Q):
 wpAny (model X.prog X.w) X.A (spliced (backTo pos (starEach es X.env))) (AP X pins σ Q) E s:=
 wpAny_mono (h pos pins s σ H Q (I.wish _) q) (fun _ _ ⟨v,H',I',r,q⟩=>⟨v,H',I'.unwish,r,q⟩) fun _ _ z=>False.elim z
variable{t u:TXS}{te:TX}{st:Stmt}{rest:List Stmt}{i:Nat}{px:Pos}
end
end L2
namespace L2
open PySem PySem.Spec PyProof.Rows
def ExAt(x D:Addr)(h:Heap):Prop:=∃ o vs,h.get? x=some o/\o.cls=.ref D/\o.data=.fields vs
section
open PySem.W PySem.Calls Builtin Builtin.ObjectAttr Builtin.Getset_descriptor
variable{K:W.Frag}{x D:Addr}
theorem QgE{M:Model}{h:Heap}(I:ExAt x D h):Looks M h (typeOf (.ref x)) (.ref D):=by
 obtain⟨o,vs,h1,h2,_⟩:=I
 exact h2 ▸ (Looks.ld h1).andThen .now
theorem Qmh{M:Model}{h:Heap}(X:K.In h){name:Str}{a g:Value}(ha:findIn K (.ref D) name=some (some a))(hg:specialIn K a "__get__"=some (some g))(ht:takesIn K a=some true):
 Looks M h (find (.ref x) (.ref D) name) (.bind g a):=by
 have L1:=looks_findIn (M:=M) X ha
 have L2:Looks M h (getOf (some a)) (some g):=looks_specialIn X hg
 have L3:=looks_takesIn (M:=M) X ht
 exact L1.andThen (L2.andThen ((show Looks M h (dataDescriptor? (some a) (some g)) (some (g,a)) from L3.andThen .now).andThen (Looks.tag .now)))
variable{prog:Program}{w:World}{A:Around}{E:Value->Shared->Prop}{s:Shared}{name:Str}
theorem QES{M:Model}{nameV:Value}{Q:Unit->Shared->Prop}(X:K.In s.heap)(I:ExAt x D s.heap)(hb:mroIn K D (.type "BaseException")=some true)(hq:Q () s):wpAny M A (checkBuiltinCall "BaseException.__getattribute__" ⟨[.ref x,nameV],[]⟩) Q E s:=by
 obtain⟨hh,g,dr,t,os⟩:=s
 have hk:builtinKind "BaseException.__getattribute__"=some .slot:=dk
 have hsplit:splitId "BaseException.__getattribute__"=some ("BaseException","__getattribute__"):=dk
 have L0:=QgE (M:=M) I
 have L1:=looks_mroIn (M:=M) X hb
 have ha:=F.args_bexc_ga (.ref x) nameV
 simp only[checkBuiltinCall,hk,hsplit]
 refine wpAny_bind ?_
 unfold isInstance
 repeat (first | lk | wp_step)
 exact hq
theorem QHF{R:Result->Shared->Prop}{tp:Value}(X:K.In s.heap)(I:ExAt x D s.heap)(hm:mroIn K D (.type "object")=some true)
 (h:R (.ok (.ret (.ref D))) s):codeAny (model prog w) A (.call (.builtin "getset_descriptor.__get__") ⟨[.builtin "object.__class__",.ref x,tp],[]⟩) R s:=by
 obtain⟨hh,g,dr,t,os⟩:=s
 have L0:=QgE (M:=model prog w) I
 have L1:=looks_mroIn (M:=model prog w) X hm
 refine codeAny_call_builtin KF.slot_gs.plain KF.entry_gs (KF.slot_gs.check _ _ _ _ _ _ _ _ KF.type_class (KF.args_gs _ _ _) ?_)
 unfold Builtin.«getset_descriptor.__get__» descrGet
 rw[dga_obj]
 refine wpAny_bind (wpAny_pure ?_)
 unfold descrGetter descrCheckInstance descrNameAndClass isInstance
 simp only[KF.owner_class]
 repeat lk
 refine⟨Code.quiet_builtin _ (dk),codeAny_builtin KF.entry_class ?_⟩
 unfold Builtin.«object.__class__» shownTypeOf
 repeat lk
 exact h
theorem QEp{g a:Value}{tk:Tok}{Q:Fin->Shared->Prop}(X:K.In s.heap)(I:ExAt x D s.heap)(ha:findIn K (.ref D) "__class__"=some (some (.builtin "object.__class__")))
 (hn:specialIn K (.builtin "object.__class__") "__get__"=some (some (.builtin "getset_descriptor.__get__"))) (ht:takesIn K (.builtin "object.__class__")=some true) (hm:mroIn K D (.type "object")=some true)
 (hq:Q (.done (.ret (.ref D))) s):wpAny (model prog w) A (Builtin.«object.__getattribute__» ⟨[.ref x,.str "__class__" tk],[]⟩) Q E s:=by
 have L3:=Qmh (x:=x) (M:=model prog w) X ha hn ht
 have L0:=QgE (M:=model prog w) I
 obtain⟨hh,gg,d,t,os⟩:=s
 refine wpAny_bind (wpAny_pure ?_)
 refine wpAny_bind (wpAny_pure (wpAny_bind (L0.at (wpAny_bind (L3.at ?_)))))
 show wpAny _ _ (holding [_] (call (.builtin "getset_descriptor.__get__") [.builtin "object.__class__",.ref x,.ref D])>>=ret) _ _ _
 exact wpAny_bind (wpAny_holding (wpAny_call (QHF (s:=⟨hh,gg,d,t,os⟩) X I hm (wpAny_pure hq))))
theorem QGp{Q:Option Value->Shared->Prop}(X:K.In s.heap)(I:ExAt x D s.heap)(g1:findIn K (.ref D) "__getattribute__"=some (some (.builtin "BaseException.__getattribute__")))(hb:mroIn K D (.type "BaseException")=some true)
 (g2:findIn K (.ref D) "__getattr__"=some none) (ha:findIn K (.ref D) "__class__"=some (some (.builtin "object.__class__")))
 (hn:specialIn K (.builtin "object.__class__") "__get__"=some (some (.builtin "getset_descriptor.__get__"))) (ht:takesIn K (.builtin "object.__class__")=some true) (hm:mroIn K D (.type "object")=some true)
 (h:Q (some (.ref D)) { s with toks:=s.toks+1 }):wpAny (model prog w) A (getAttr? (.ref x) "__class__") Q E s:=by
 obtain⟨hh,g,d,t,os⟩:=s
 have L0:=QgE (M:=model prog w) I
 have L1:=looks_findIn (M:=model prog w) X g1
 have L2:=looks_findIn (M:=model prog w) X g2
 have f3:=PySem.F.attr_ValueError.ga.bind (.ref x)
 have hx2:(Value.builtin "BaseException.__getattribute__" == Value.builtin "object.__getattribute__")=false:=dk
 have hx1:(onTheHeap (Value.ref D)&&Value.builtin "BaseException.__getattribute__" == Value.builtin "object.__getattribute__")=false:=by rw[hx2];rfl
 unfold getAttr? getAttrBy? getAttrBy
 refine wpAny_bind (wpAny_mkText (wpAny_bind (wpAny_attempt (wpAny_holding (wpAny_bind (L0.at (wpAny_bind (L1.at ?_))))))))
 show wpAny _ _ (if (onTheHeap (Value.ref D)&&Value.builtin "BaseException.__getattribute__" == Value.builtin "object.__getattribute__")=true then _ else getAttrByItsOwn _ _ _ _ _ _) _ _ _
 rw[hx1,if_neg (by decide)]
 unfold getAttrByItsOwn
 refine wpAny_bind ?_
 show wpAny _ _ (typeLookup (.ref D) "__getattr__") _ _ _
 refine L2.at ?_
 refine wpAny_bind (wpAny_attempt ?_)
 refine wpAny_holding ?_
 show wpAny _ _ (boundAndCalled (.builtin "BaseException.__getattribute__") (.ref x) _) _ _ _
 unfold boundAndCalled
 refine wpAny_bind (wpAny_of_eq f3 ?_)
 refine wpAny_call (codeAny_call_builtin PySem.F.attr_ValueError.ga.plain F.entry_bexc_ga (QES (s:=⟨hh,g,d,t+1,os⟩) X I hb (QEp (g:=.none) (a:=.none) (s:=⟨hh,g,d,t+1,os⟩) X I ha hn ht hm ?_)))
 show wpAny _ _ (handedOut (.ref D)) _ _ _
 exact handed_on rfl (wpAny_pure h)
structure ExCls(K:W.Frag)(D:Addr):Prop where
 cl:(clsIn K D).isSome=true
 g1:findIn K (.ref D) "__getattribute__"=some (some (.builtin "BaseException.__getattribute__"))
 hb:mroIn K D (.type "BaseException")=some true
 g2:findIn K (.ref D) "__getattr__"=some none
 ha:findIn K (.ref D) "__class__"=some (some (.builtin "object.__class__"))
 hn:specialIn K (.builtin "object.__class__") "__get__"=some (some (.builtin "getset_descriptor.__get__"))
 htk:takesIn K (.builtin "object.__class__")=some true
 hm:mroIn K D (.type "object")=some true
theorem QEP(e:ExCls K D):KitX K (.ref x) (.ref D) (ExAt x D) where
 ty:=fun _ _ _ I=>QgE I
 it:=fun _ _ X _=>by
  obtain⟨cdD,hcD⟩:=Option.isSome_iff_exists.mp e.cl
  unfold clsIn at hcD
  split at hcD
  ·rename_i c' d' cd' sl' ho
   intro A' Q' E' s' k q
   unfold isType loadHead
   exact wpAny_bind (wpAny_loadPart (k _ _ (X _ _ ho)) (wpAny_pure q))
  ·cases hcD
 ne:=fun h tp dd its n sl X htp=>by
  obtain⟨cdD,hcD⟩:=Option.isSome_iff_exists.mp e.cl
  refine Bool.eq_false_iff.mpr fun q=>?_
  have e:D=tp:=Value.ref.inj (beq_iff_eq.mp q)
  subst e
  unfold clsIn at hcD
  split at hcD
  ·rename_i c' d' cd' sl' ho
   have z:=(X _ _ ho).symm.trans htp
   cases z
  ·cases hcD
 ca:=fun X I k=>QGp X I e.g1 e.hb e.g2 e.ha e.hn e.htk e.hm k
end
end L2
set_option maxHeartbeats 1000000
namespace L2
open PySem PySem.Spec PyProof.Rows
section
variable{prog:Program}{w:World}{A:Around}{R:Result->Shared->Prop}{s:Shared}
theorem QsV{elt target iter:Expr}{ifs:List Expr}{scope:Scope}{pos:Pos}{it acc:Value}{env:Env}(I:Nat->Shared->Prop)(NB:Value->Shared->Prop)(hNB:∀ e s',NB e s'->notedBy (model prog w) A env (fun e s'=>R (.error e) s') e s')
 (turn:∀ n s,I n s->wpAny (model prog w) A (pyNext it) (fun r s₁=>match r with
  | none=>R (.ok .next) s₁
  | some v=>wpAny (model prog w) A (letOwnedTupleGo target it v) (fun _ s₁'=>wpAny (model prog w) A (assign target env v) (fun _ s₂ =>
   wpAny (model prog w) A (forIn ifs true fun c r=>if r=true then do let ok ← isTrue c env (eval c env);pure (ForInStep.yield ok) else pure (ForInStep.yield r)) (fun ok s₃ =>
    if ok=true then wpAny (model prog w) A (eval elt env) (fun x s₄ =>
     wpAny (model prog w) A (call (.builtin "list.append") [acc,x]) (fun _ s₅ => ∃ m,m<n/\I m s₅) NB s₄) NB s₃
    else ∃ m,m<n/\I m s₃) NB s₂) NB s₁') NB s₁) NB s)
 (n:Nat) (h:I n s):
 codeAny (model prog w) A (.compLoop (.ListComp elt [⟨target,iter,ifs,0⟩] scope pos) 0 it acc env) R s:=by
 refine codeAny_loop rfl I (fun n s hI=>?_) n h
 show wpAny _ A ((compTurn (.ListComp elt [⟨target,iter,ifs,0⟩] scope pos) 0 it acc env).onRaise (fun x=>do noteFrame x env;theTreesLotGoes x)) _ _ s
 refine wpAny_noted ?_
 rw[compTurn_list]
 refine wpAny_bind (wpAny_standAt (wpAny_bind (wpAny_mono (turn n s hI) (fun r s₁ h₁=>?_) hNB)))
 cases r with
 | none=>exact wpAny_pure h₁
 | some v=>
  refine wpAny_bind (wpAny_mono h₁ (fun _ s₁' h₁'=>?_) hNB)
  refine wpAny_bind (wpAny_mono h₁' (fun _ s₂ h₂ => wpAny_bind (wpAny_mono h₂ (fun ok s₃ h₃ => ?_) hNB)) hNB)
  cases ok with
  | false=>exact wpAny_pure ⟨rfl,h₃⟩
  | true=>
   exact wpAny_bind (wpAny_bind (wpAny_mono h₃ (fun x s₄ h₄ => wpAny_bind (wpAny_mono h₄ (fun _ s₅ h₅ => wpAny_pure (wpAny_pure ⟨rfl,h₅⟩)) hNB)) hNB))
end
def Qc7(scope outer:Scope):Scope:=
 { scope with names:=scope.names.map fun(n,k)=>if (k == .free&&outer.kind == .function&&outer.names.lookup n == some .cell) then(n,.cell) else(n,k) }
theorem Qhb(c:Str->NameKind->Bool)(x:Str):∀ names:List (Str×NameKind),(names.map fun(n,k)=>if c n k=true then(n,NameKind.cell) else(n,k)).lookup x=(names.lookup x).map fun k=>if c x k=true then NameKind.cell else k
 | []=>rfl
 | (n,k)::r=>by
  have ih:=Qhb c x r
  show List.lookup x ((if c n k=true then(n,NameKind.cell) else(n,k))::_)=_
  by_cases hx:x=n
  ·subst hx
   by_cases hc:c x k=true
   ·rw[if_pos hc,List.lookup_cons_self,List.lookup_cons_self];simp[hc]
   ·rw[if_neg hc,List.lookup_cons_self,List.lookup_cons_self];simp[hc]
  ·have hb:(x == n)=false:=by simpa using hx
   by_cases hc:c n k=true
   ·rw[if_pos hc,List.lookup_cons,List.lookup_cons,hb];exact ih
   ·rw[if_neg hc,List.lookup_cons,List.lookup_cons,hb];exact ih
theorem Qf3(scope outer:Scope)(x:Str):(Qc7 scope outer).names.lookup x=(scope.names.lookup x).map fun k=>if (k == .free&&outer.kind == .function&&outer.names.lookup x == some .cell)=true then NameKind.cell else k:=
 Qhb (fun n k=>k == .free&&outer.kind == .function&&outer.names.lookup n == some .cell) x scope.names
theorem Qqw{scope outer:Scope}{x:Str}(h:scope.names.lookup x=some .free):(Qc7 scope outer).names.lookup x=some .cell∨(Qc7 scope outer).names.lookup x=some .free:=by
 rw[Qf3,h]
 show some (if _ then _ else _)=_∨some (if _ then _ else _)=_
 split
 ·exact .inl rfl
 ·exact .inr rfl
theorem QqY{scope outer:Scope}{x:Str}(h:(Qc7 scope outer).names.lookup x=some .cell∨(Qc7 scope outer).names.lookup x=some .free):scope.names.lookup x=some .cell∨scope.names.lookup x=some .free:=by
 rw[Qf3]at h
 cases e:scope.names.lookup x with
 | none=>rw[e]at h;rcases h with h | h<;>cases h
 | some k=>
  rw[e]at h
  cases k with
  | free=>exact .inr rfl
  | cell=>exact .inl rfl
  | _=>rcases h with h | h<;>cases h
def QaQ(env:Env):List (Str×NameKind)->List (Str×Addr)->List (Str×Addr)
 | [],acc=>acc
 | (n,k)::r,acc=>if (k == .free)=true then QaQ env r ((n,(env.cells.lookup n).getD 0)::acc) else QaQ env r acc
theorem Qmo{scope:Scope}{env:Env}(h:∀ y∈scope.names,y.2=.free->(env.cells.lookup y.1).isSome=true):closureFor scope env=pure (QaQ env scope.names []):=by
 have go:∀(names:List (Str×NameKind))(acc:List (Str×Addr)),(∀ y∈names,y.2=.free->(env.cells.lookup y.1).isSome=true)->
  (forIn names acc fun x r=>if (x.2 == NameKind.free)=true then(cellOf env x.1>>=fun a=>pure (ForInStep.yield ((x.1,a)::r))) else pure (ForInStep.yield r):Sem (List (Str×Addr)))=pure (QaQ env names acc):=by
  intro names
  induction names with
  | nil=>intro acc _;rfl
  | cons y r ih=>
   intro acc hy
   obtain⟨n,k⟩:=y
   rw[List.forIn_cons]
   unfold QaQ
   by_cases hk:(k == NameKind.free)=true
   ·obtain⟨c,hc⟩:=Option.isSome_iff_exists.mp (hy (n,k) List.mem_cons_self (beq_iff_eq.mp hk))
    have e:cellOf env n=pure c:=by unfold cellOf;rw[show env.cells.lookup n=some c from hc]
    simp only[hk,if_true,e]
    rw[show(env.cells.lookup n).getD 0=c from by rw[show env.cells.lookup n=some c from hc];rfl]
    exact ih _ fun y hm=>hy y (List.mem_cons_of_mem _ hm)
   ·simp only[hk]
    exact ih _ fun y hm=>hy y (List.mem_cons_of_mem _ hm)
 have e:=go scope.names [] h
 unfold closureFor
 exact congrArg (fun m=>m>>=fun s=>(pure s:Sem (List (Str×Addr)))) e
theorem Qfi{env:Env}{p:Str×Addr}:∀{names:List (Str×NameKind)}{acc:List (Str×Addr)},p∈QaQ env names acc->p∈acc∨p.2=(env.cells.lookup p.1).getD 0/\∃ y∈names,y.1=p.1/\y.2=.free
 | [],_,h=>.inl h
 | (n,k)::r,acc,h=>by
  unfold QaQ at h
  split at h
  ·rename_i hk
   rcases Qfi h with h | ⟨h,y,hy,e⟩
   ·rcases List.mem_cons.mp h with h | h
    ·subst h;exact .inr ⟨rfl,(n,k),List.mem_cons_self,rfl,beq_iff_eq.mp hk⟩
    ·exact .inl h
   ·exact .inr ⟨h,y,List.mem_cons_of_mem _ hy,e⟩
  ·rcases Qfi h with h | ⟨h,y,hy,e⟩
   ·exact .inl h
   ·exact .inr ⟨h,y,List.mem_cons_of_mem _ hy,e⟩
theorem Qfp{env:Env}{x:Str}:∀{names:List (Str×NameKind)}{acc:List (Str×Addr)},(acc.lookup x).isSome=true∨(∃ y∈names,y.1=x/\y.2=.free)->((QaQ env names acc).lookup x).isSome=true
 | [],_,h=>h.elim id fun⟨_,hy,_⟩=>nomatch hy
 | (n,k)::r,acc,h=>by
  unfold QaQ
  split
  ·rename_i hk
   refine Qfp ?_
   rcases h with h | ⟨y,hy,e1,e2⟩
   ·refine .inl ?_
    rw[List.lookup_cons]
    split
    ·rfl
    ·exact h
   ·rcases List.mem_cons.mp hy with rfl | hy
    ·refine .inl ?_
     have e1:n=x:=e1
     subst e1
     rw[List.lookup_cons_self];rfl
    ·exact .inr ⟨y,hy,e1,e2⟩
  ·rename_i hk
   refine Qfp ?_
   rcases h with h | ⟨y,hy,e1,e2⟩
   ·exact .inl h
   ·rcases List.mem_cons.mp hy with rfl | hy
    ·have e2:k=.free:=e2
     subst e2
     exact absurd rfl hk
    ·exact .inr ⟨y,hy,e1,e2⟩
theorem Qbi{α:Type}{l:List (Str×α)}{x:Str}{c:α}(h:l.lookup x=some c):(x,c)∈l:=PySem.mem_of_lookup h
theorem QmI{p:Str×Addr}:∀{names:List (Str×NameKind)}{n:Nat}{acc:List (Str×Addr)},p∈cellsFrom n names acc->p∈acc∨n<=p.2
 | [],_,_,h=>.inl h
 | (y,k)::r,n,acc,h=>by
  unfold cellsFrom at h
  split at h
  ·rcases QmI h with h | h
   ·rcases List.mem_cons.mp h with h | h
    ·subst h;exact .inr (Nat.le_refl _)
    ·exact .inl h
   ·exact .inr (Nat.le_of_succ_le h)
  ·exact QmI h
theorem Qud:∀{names:List (Str×NameKind)}{n:Nat}{acc:List (Str×Addr)},(∀ p∈acc,p.2<n)->(∀ p∈acc,∀ q∈acc,p.2=q.2->p.1=q.1)->∀ p∈cellsFrom n names acc,∀ q∈cellsFrom n names acc,p.2=q.2->p.1=q.1
 | [],_,_,_,h=>h
 | (y,k)::r,n,acc,hl,hi=>by
  unfold cellsFrom
  split
  ·refine Qud (fun p hp=>?_) fun p hp q hq e=>?_
   ·rcases List.mem_cons.mp hp with rfl | hp
    ·exact Nat.lt_succ_self _
    ·exact Nat.lt_succ_of_lt (hl p hp)
   ·rcases List.mem_cons.mp hp with rfl | hp<;>rcases List.mem_cons.mp hq with rfl | hq
    ·rfl
    ·exact absurd e (Nat.ne_of_gt (hl q hq))
    ·exact absurd e (Nat.ne_of_lt (hl p hp))
    ·exact hi p hp q hq e
  ·exact Qud hl hi
theorem Qnb:∀{names:List (Str×NameKind)}{h:Heap}{acc:List (Str×Addr)},(∀ p∈acc,∃ v,h.IsCell p.2 v)->∀ p∈cellsFrom h.objs.size names acc,∃ v,(pushCells h names).IsCell p.2 v
 | [],_,_,h=>h
 | (y,k)::r,h,acc,hc=>by
  unfold cellsFrom pushCells
  split
  ·have:=Qnb (names:=r) (h:=h.push { cls:=.type "cell",data:=.cell none }) (acc:=(y,h.objs.size)::acc) fun p hp=>by
    rcases List.mem_cons.mp hp with rfl | hp
    ·exact⟨none,_,Heap.get?_push_size _ rfl,rfl⟩
    ·obtain⟨v,q⟩:=hc p hp
     exact⟨v,q.keeps fun b o e=>Heap.get?_push_of_some _ e⟩
   rwa [Heap.size_push]at this
  ·exact Qnb hc
theorem QmX{x:Str}:∀{names:List (Str×NameKind)}{n:Nat}{acc:List (Str×Addr)},(∀ y∈names,y.1=x->y.2=.free)->(cellsFrom n names acc).lookup x=acc.lookup x
 | [],_,_,_=>rfl
 | (y,k)::r,n,acc,h=>by
  unfold cellsFrom
  split
  ·rename_i hk
   rw[QmX fun z hz=>h z (List.mem_cons_of_mem _ hz),List.lookup_cons]
   split
   ·rename_i hb
    have hx:x=y:=beq_iff_eq.mp hb
    have:=h (y,k) List.mem_cons_self hx.symm
    have this:k=.free:=this
    subst this
    exact absurd hk (by decide)
   ·rfl
  ·exact QmX fun z hz=>h z (List.mem_cons_of_mem _ hz)
def Qu0(scope:Scope)(cl:List (Str×Addr))(L:Addr)(env:Env):Env:=
 { scope:=Qc7 scope env.scope,locals:=L,globals:=env.globals,cells:=cellsFrom (L+1) scope.names cl,qual:=env.qual,func:=none,code:=env.code,frame:=env.frame,builtins:=env.builtins }
theorem QFA{M:Model}{A:Around}{E:Value->Shared->Prop}{s:Shared}{scope:Scope}{cl:List (Str×Addr)}{env:Env}{Q:Env->Shared->Prop}
 (h:∀ c,{ c with scope:=relabel scope env }=Qu0 scope cl s.heap.objs.size env->c.locals=s.heap.objs.size->Q c { s with heap:=pushCells (s.heap.push { cls:=.type "dict",data:=.dict #[] }) scope.names }):
 wpAny M A (newFunctionEnv scope env.globals cl [] env.qual none .none (some env)) Q E s:=by
 simp only[newFunctionEnv,Option.isSome_some,if_true]
 refine wpAny_bind (wpAny_alloc ?_)
 refine wpAny_bind (wpAny_layCells _ (fun name kind cells=>by cases hkc:kind == NameKind.cell<;>simp[hkc]) _ _ _ _ ?_)
 rw[show({ s with heap:=s.heap.push { cls:=.type "dict",data:=.dict #[] } }:Shared).heap.objs.size=s.heap.objs.size+1 from Heap.size_push ..]
 refine wpAny_bind (wpAny_pure (wpAny_pure (h _ ?_ rfl)))
 rfl
def capt(js:List (Option Nat))(σ:St):St:=js.map fun j=>j.bind fun j=>(σ[j]?).join
structure QB(N':List Str)(js:List (Option Nat))(scope outer:Scope)(N:List Str):Prop where
 kind:scope.kind=.function
 uniq:∀ y∈scope.names,scope.names.lookup y.1=some y.2
 nd:N'.Nodup
 len:js.length=N'.length
 free:∀ y∈scope.names,y.2=.free->outer.names.lookup y.1=some .cell∨outer.names.lookup y.1=some .free
 cap:((N'.zip js).all fun p=>match p.2 with
  | none=>true
  | some j=>decide (N[j]?=some p.1)&&decide (scope.names.lookup p.1=some .free))=true
theorem QB.capOf{N':List Str}{js:List (Option Nat)}{scope outer:Scope}{N:List Str}(S:QB N' js scope outer N){i j:Nat}{x:Str}(h1:N'[i]?=some x)(h2:js[i]?=some (some j)):
 N[j]?=some x/\scope.names.lookup x=some .free/\∀ y∈scope.names,y.1=x->y.2=.free:=by
 have h:=List.all_eq_true.mp S.cap (x,some j) (by
  refine List.mem_of_getElem? (i:=i) ?_
  rw[List.getElem?_zip_eq_some]
  exact⟨h1,h2⟩)
 simp only[Bool.and_eq_true,decide_eq_true_eq]at h
 exact⟨h.1,h.2,fun y hy e=>by
  have:=S.uniq y hy
  rw[e,h.2]at this
  exact(Option.some.inj this).symm⟩
theorem QB.names{N':List Str}{js:List (Option Nat)}{scope outer:Scope}{N:List Str}(S:QB N' js scope outer N):∀ y∈scope.names,y.2=.local->scope.names.lookup y.1=some .local:=fun y hy e=>by
 rw[S.uniq y hy,e]
def cxC(X:Cx)(N':List Str)(scope:Scope)(fp:List Addr)(s:Shared)(H:Hp):Cx:=
 { X with N:=N',s₀:=s,H₀:=H,env:=Qu0 scope (QaQ X.env scope.names []) s.heap.objs.size X.env,outer:=X.stack,ex:=fp,
          fn:=fun x=>match scope.names.lookup x with | some .cell=>true | _=>false,pn:=[],xe:=fun _ _=>False }
theorem QEh{X:Cx}{N':List Str}{js:List (Option Nat)}{scope:Scope}{pins:List (Addr×Obj)}{σ:St}{H:Hp}{s:Shared}{fp:List Addr}(S:QB N' js scope X.env.scope X.N)(I:Inv X pins σ H s)(hf:∀ b∈fp,FpOk X pins H b)
 (hlt:∀ b∈fp,b<s.heap.objs.size):
 Inv (cxC X N' scope fp s H) [] (capt js σ) H { s with heap:=pushCells (s.heap.push { cls:=.type "dict",data:=.dict #[] }) scope.names }:=by
 have hk:∀ b o,s.heap.get? b=some o->(pushCells (s.heap.push { cls:=.type "dict",data:=.dict #[] }) scope.names).get? b=some o:=fun b o e=>pushCells_keeps _ _ b o (Heap.get?_push_of_some _ e)
 have sz:(s.heap.push { cls:=.type "dict",data:=.dict #[] }).objs.size=s.heap.objs.size+1:=Heap.size_push ..
 -- captured cells stand in the outer frame
 have out:∀ x,(∃ y∈scope.names,y.1=x/\y.2=.free)->∃ c,X.env.cells.lookup x=some c:=fun x ⟨y,hy,e1,e2⟩=>by
  subst e1
  exact I.ok.has y.1 (S.free y hy e2)
 have clm:∀ p∈QaQ X.env scope.names [],X.env.cells.lookup p.1=some p.2:=fun p hp=>by
  rcases Qfi hp with h | ⟨h,hy⟩
  ·cases h
  ·obtain⟨c,hc⟩:=out p.1 hy
   rw[hc]at h ⊢
   rw[h];rfl
 have cllt:∀ p∈QaQ X.env scope.names [],p.2<s.heap.objs.size:=fun p hp=>by
  obtain⟨v,q⟩:=I.cell p.1 p.2 (clm p hp)
  exact q.lt
 have cin:∀ x c,(cellsFrom (s.heap.objs.size+1) scope.names (QaQ X.env scope.names [])).lookup x=some c->X.env.cells.lookup x=some c∨s.heap.objs.size+1<=c:=fun x c e=>by
  rcases QmI (Qbi e) with h | h
  ·exact .inl (clm _ h)
  ·exact .inr h
 have capL:∀ x,scope.names.lookup x=some .free->(∀ y∈scope.names,y.1=x->y.2=.free)->(cellsFrom (s.heap.objs.size+1) scope.names (QaQ X.env scope.names [])).lookup x=X.env.cells.lookup x:=fun x hx hy=>by
  rw[QmX hy]
  have hs:=Qfp (env:=X.env) (x:=x) (names:=scope.names) (acc:=[]) (.inr ⟨_,Qbi hx,rfl,rfl⟩)
  obtain⟨c,hc⟩:=Option.isSome_iff_exists.mp hs
  rw[hc,clm _ (Qbi hc)]
 refine⟨⟨I.ok.mod,S.kind,I.ok.glob,I.ok.blt,Nat.le_refl _,fun x y c h1 h2=>?_,fun x hx=>?_,fun x c hx h=>?_,I.ok.hd,I.ok.frames,.inl rfl,fun b hb=>?_,I.bs,Nat.le_trans I.ok.bsz I.sz,fun b o e hb=>?_,fun b hb hz=>?_,I.stack,I.stkFree⟩,
  rfl,I.bare,Un.kept hk,?_,fun x c h=>?_,I.hok.fresh (Nat.le_refl _),fun x c h=>?_,fun p hp=>absurd (show p∈([]:List (Addr×Obj)) from hp) (by simp),I.hok.kept hk,?_⟩
 ·refine Qud (names:=scope.names) (n:=s.heap.objs.size+1) (acc:=QaQ X.env scope.names []) (fun p hp=>Nat.lt_succ_of_lt (cllt p hp)) (fun p hp q hq e=>?_) (x,c) (Qbi h1) (y,c) (Qbi h2) rfl
  have a:=clm p hp
  have b:=clm q hq
  rw[← e]at b
  exact I.ok.inj _ _ _ a b
 ·have hx':=QqY (show(Qc7 scope X.env.scope).names.lookup x=some .cell∨_ from hx)
  refine Option.isSome_iff_exists.mp (W.cellsFrom_some scope.names _ _ ?_)
  rcases hx' with h | h
  ·exact .inl h
  ·exact .inr (Qfp (.inr ⟨_,Qbi h,rfl,rfl⟩))
 ·rcases QmI (Qbi h) with hm | hm
  ·-- an own cell's name is captured too: its first entry is the own one
   have hx':scope.names.lookup x=some .cell:=by
    have hx2:(match scope.names.lookup x with | some .cell=>true | _=>false)=true:=hx
    split at hx2
    ·assumption
    ·cases hx2
   rcases Qfi hm with q | ⟨_,y,hy,e1,e2⟩
   ·cases q
   ·have:=S.uniq y hy
    have e1:y.1=x:=e1
    rw[e1,hx',e2]at this
    cases this
  ·exact Nat.le_of_succ_le hm
 ·refine⟨Nat.ne_of_lt (hlt b hb),fun x c h e=>?_⟩
  rcases cin x c h with q | q
  ·exact(hf b hb).2.2.2.2.1 x c q e
  ·have:=hlt b hb
   rw[← e]at this
   exact absurd (Nat.lt_of_lt_of_le this (Nat.le_of_succ_le q)) (Nat.lt_irrefl _)
 ·rcases(hf b hb).2.2.2.1 with z | z
  ·exact I.ok.noex b o e z
  ·exact absurd (Nat.lt_of_lt_of_le (Heap.lt_size (I.ok.bs b o e).1) z) (Nat.lt_irrefl _)
 ·rcases List.mem_cons.mp (I.stkSub b hz) with e | e
  ·exact(hf b hb).2.1 e
  ·exact(hf b hb).2.2.1 e
 ·obtain⟨m,hn,hl⟩:=I.loc
  refine⟨fun _=>none,(Heap.Ns.new s.heap (.type "dict")).keeps (pushCells_keeps _ _),fun i x v h1 h2 h3=>?_⟩
  have h2':((js[i]?).map fun j=>j.bind fun j=>(σ[j]?).join)=some (some v):=by
   unfold capt at h2
   rw[List.getElem?_map]at h2
   exact h2
  cases e:js[i]? with
  | none=>rw[e]at h2';cases h2'
  | some o=>
   rw[e]at h2'
   cases o with
   | none=>cases h2'
   | some j=>
    have h4:(σ[j]?).join=some v:=Option.some.inj h2'
    have h5:σ[j]?=some (some v):=by
     cases z:σ[j]? with
     | none=>rw[z]at h4;cases h4
     | some o=>rw[z]at h4;have h4:o=some v:=h4;rw[h4]
    obtain⟨hN,hx,hy⟩:=S.capOf h1 e
    have hvis:=S.free _ (Qbi hx) rfl
    obtain⟨u,r,lk⟩:=hl j x v hN h5 (.inr hvis)
    refine⟨u,r,.inr ⟨Qqw hx,?_⟩⟩
    rcases lk with⟨k,_⟩ | ⟨_,c,hc,z⟩
    ·have k:X.env.scope.names.lookup x=some .local:=k
     rcases hvis with q | q
     ·rw[k]at q;cases q
     ·rw[k]at q;cases q
    ·exact⟨c,(capL x hx hy).trans hc,z.keeps hk⟩
 ·have:=Qnb (names:=scope.names) (h:=s.heap.push { cls:=.type "dict",data:=.dict #[] }) (acc:=QaQ X.env scope.names []) (fun p hp=>by
   obtain⟨v,q⟩:=I.cell p.1 p.2 (clm p hp)
   exact⟨v,q.keeps fun b o e=>Heap.get?_push_of_some _ e⟩) (x,c) (by rw[sz];exact Qbi h)
  exact this
 ·rcases cin x c h with q | q
  ·exact I.freeC x c q
  ·exact I.hok.fresh (Nat.le_of_succ_le q)
 ·show(js.map _).length=N'.length
  rw[List.length_map];exact S.len
def eMax(X:Cx)(e:Expr):TE:=fun σ H Q=>∃ t,PE X e t/\t σ H Q
theorem QHq{X:Cx}{e:Expr}:PE X e (eMax X e):=fun pins s σ H Q I ⟨t,ht,h⟩=>ht pins s σ H Q I h
def gMax(X:Cx)(e:Expr):TG:=fun v σ H Q=>∃ t,PG X e t/\t v σ H Q
theorem QHS{X:Cx}{e:Expr}:PG X e (gMax X e):=fun pins s σ H v u Q I r ⟨t,ht,h⟩=>ht pins s σ H v u Q I r h
def PIf(X:Cx)(ifs:List Expr)(tc:TT):Prop:=(ifs=[]/\tc=fun _ H Q=>Q true H)∨∃ c,ifs=[c]/\PT X c tc
theorem Qzl{X:Cx}:PIf X [] (fun _ H Q=>Q true H):=.inl ⟨rfl,rfl⟩
theorem PIf.run{X:Cx}{ifs:List Expr}{tc:TT}(h:PIf X ifs tc){pins:List (Addr×Obj)}{s:Shared}{σ:St}{H:Hp}{Q:Bool->Hp->Prop}(I:Inv X pins σ H s)(q:tc σ H Q):
 wpAny (model X.prog X.w) X.A (forIn ifs true fun c r=>if r=true then do let ok ← isTrue c X.env (eval c X.env);pure (ForInStep.yield ok) else pure (ForInStep.yield r)) (TP X pins σ Q) X.xe s:=by
 rcases h with⟨rfl,rfl⟩ | ⟨c,rfl,h⟩
 ·exact wpAny_tests_nil ⟨H,I,q⟩
 ·exact wpAny_tests_one (h pins s σ H Q I q)
def cMax(X:Cx)(ifs:List Expr):TT:=fun σ H Q=>∃ t,PIf X ifs t/\t σ H Q
def CompW(X':Cx)(js:List (Option Nat))(tg elt:Expr)(ifs:List Expr)(σ:St)(H1:Hp)(J:It)(p:Addr)(Q:VK):Prop:=
 ∃ W:Nat->Nat->St->Hp->Prop,(∃ m,W 0 m (capt js σ) (upd H1 p (.lst [])))/\∀ i m τ H',W i m τ H'->
 (J.stop i H'/\Q (.ref p) H')∨(J.go i H'/\∃ N:St->Hp->Prop,(∀ τ' H'',N τ' H''->∃ m',m'<m/\W (i+1) m' τ' H'')/\∀ x H'',J.yld i H' x H''->gMax X' tg x τ H'' fun τ2 H2=>cMax X' ifs τ2 H2 fun b H3=>
  if b=true then eMax X' elt τ2 H3 fun y H4=>∃ ys,H4 p=some (.lst ys)/\ys.length<sizeLine/\N τ2 (upd H4 p (.lst (ys++[y]))) else N τ2 H3)
def tComp(X:Cx)(N':List Str)(js:List (Option Nat))(scope:Scope)(tg elt:Expr)(ifs:List Expr)(wi:TI):TE:=fun σ H Q=>wi σ H fun J H1=>∀ p,H1 p=none->∀ fp s,
 CompW (cxC X N' scope fp s (upd H1 p (.lst []))) js tg elt ifs σ H1 J p Q
section
variable{X:Cx}{N':List Str}{js:List (Option Nat)}{scope:Scope}{tg iter elt:Expr}{ifs:List Expr}{wi:TI}{pos:Pos}
theorem QmH{pins:List (Addr×Obj)}{σ:St}{H:Hp}{s:Shared}{R:V->Hp->Prop}{E:Value->Shared->Prop}(hc:X.calm=true)(S:QB N' js scope X.env.scope X.N)
 {it:Addr} {fp:List Addr} {tn:Nat->Heap->Prop} {J:It} (I2:Inv X pins σ H s) (T:Turn X.prog X.w X.K tg J fp it tn) (st:tn 0 s.heap) (hf:∀ b∈fp,FpOk X pins H b)
 (hW:∀ p,H p=none->∀ fp s,CompW (cxC X N' scope fp s (upd H p (.lst []))) js tg elt ifs σ H J p R)
 {RR:Value->Addr->Result->Shared->Prop}
 (hRR:∀(D C:Addr)(s':Shared)(H':Hp),Inv X pins σ H' s'->(∃ m,s'.heap.Ns C m)->H' C=none->C≠X.env.locals->X.s₀.heap.objs.size<=C->(∀ x c,X.env.cells.lookup x=some c->c≠C)->(∀ p∈X.pn++pins,p.1≠C)->R (.ref D) H'->RR (.ref D) C (.ok .next) s'):
 wpAny (model X.prog X.w) X.A (newList []) (fun acc s₃ => wpAny (model X.prog X.w) X.A (newFunctionEnv scope X.env.globals (QaQ X.env scope.names []) [] X.env.qual none .none (some X.env)) (fun cenv s₄ =>
  codeAny (model X.prog X.w) X.A (.compStart (.ListComp elt [⟨tg,iter,ifs,0⟩] scope pos) 0 (.ref it) acc { cenv with scope:=relabel scope X.env }) (RR acc cenv.locals) s₄) E s₃) E s:=by
 refine wpAny_newObj_type ?_
 have hfresh:H s.heap.objs.size=none:=I2.hok.fresh (Nat.le_refl _)
 have I3:Inv X pins σ (upd H s.heap.objs.size (.lst [])) { s with heap:=s.heap.push { cls:=.type "list",data:=.seq ([]:List Value).toArray } }:=I2.lnew (t':=s.toks) .nil (Nat.zero_le _)
 generalize hs3:({ s with heap:=s.heap.push { cls:=.type "list",data:=.seq ([]:List Value).toArray } }:Shared)=s3 at I3 ⊢
 have hsz3:s3.heap.objs.size=s.heap.objs.size+1:=by rw[← hs3];exact Heap.size_push ..
 have hk3:∀ b o,s.heap.get? b=some o->s3.heap.get? b=some o:=fun b o e=>by rw[← hs3];exact Heap.get?_push_of_some _ e
 have flt:∀ b∈fp,b<s.heap.objs.size:=fun b hb=>by
  obtain⟨o,e,_⟩:=T.obj _ _ st b hb
  exact Heap.lt_size e
 have hf3:∀ b∈fp,FpOk X pins (upd H s.heap.objs.size (.lst [])) b:=fun b hb=>⟨by rw[Qh (Nat.ne_of_lt (flt b hb))];exact(hf b hb).1,(hf b hb).2⟩
 have st3:tn 0 s3.heap:=T.keep _ _ _ st fun b _ o e=>hk3 b o e
 refine QFA fun cenv ecenv el=>?_
 rw[ecenv,el]
 have I4:=QEh (fp:=fp) S I3 hf3 fun b hb=>by rw[hsz3];exact Nat.lt_succ_of_lt (flt b hb)
 obtain⟨W,⟨m0,w0⟩,turn⟩:=hW _ hfresh fp s3
 generalize hX':cxC X N' scope fp s3 (upd H s.heap.objs.size (.lst []))=X' at I4 turn
 generalize hs4:({ s3 with heap:=pushCells (s3.heap.push { cls:=.type "dict",data:=.dict #[] }) scope.names }:Shared)=s4 at I4 ⊢
 have eenv:Qu0 scope (QaQ X.env scope.names []) s3.heap.objs.size X.env=X'.env:=by rw[← hX'];rfl
 have eprog:X'.prog=X.prog:=by rw[← hX'];rfl
 have ew:X'.w=X.w:=by rw[← hX'];rfl
 have eK:X'.K=X.K:=by rw[← hX'];rfl
 have eA:X'.A=X.A:=by rw[← hX'];rfl
 have ecalm:X'.calm=true:=by rw[← hX'];exact hc
 have exe:∀ e s',X'.xe e s'->False:=fun e s' h=>by rw[← hX']at h;exact h
 have eex:X'.ex=fp:=by rw[← hX'];rfl
 have efs:X'.fs=frs X.stack:=by rw[← hX'];rfl
 have epn:X'.pn=[]:=by rw[← hX'];rfl
 have es0:X'.s₀=s3:=by rw[← hX'];rfl
 have eH0:X'.H₀=upd H s.heap.objs.size (.lst []):=by rw[← hX'];rfl
 have eloc:X'.env.locals=s3.heap.objs.size:=by rw[← eenv];rfl
 rw[eenv]
 have st4:tn 0 s4.heap:=T.keep _ _ _ st3 fun b _ o e=>by rw[← hs4];exact pushCells_keeps _ _ b o (Heap.get?_push_of_some _ e)
 -- the iterator's objects,seen from the block
 have fpok:∀{H':Hp},(∀ b∈fp,H' b=none)->∀ b∈fp,FpOk X' [] H' b:=fun {H'} hn b hb=>by
  obtain⟨h1,h2⟩:=I4.ok.exf b (by rw[eex];exact hb)
  exact⟨hn b hb,h1,fun z=>I4.ok.exfs b (by rw[eex];exact hb) z,.inl (by rw[eex];exact hb),h2,fun p hp=>by rw[epn]at hp;cases hp⟩
 have loop:∀ s5,s5=s4->codeAny (model X.prog X.w) X.A (.compLoop (.ListComp elt [⟨tg,iter,ifs,0⟩] scope pos) 0 (.ref it) (.ref s.heap.objs.size) X'.env) (RR (.ref s.heap.objs.size) s3.heap.objs.size) s5:=by
  rintro s5 rfl
  refine QsV (fun n s'=>∃ i τ H',Inv X' [] τ H' s'/\tn i s'.heap/\(∀ b∈fp,H' b=none)/\W i n τ H') (fun _ _=>False) (fun _ _ h=>h.elim) ?_ m0 ⟨0,_,_,I4,st4,fun b hb=>(hf3 b hb).1,w0⟩
  rintro n s6 ⟨i,τ,H6,I6,st6,fr6,w6⟩
  have A1:∀{α:Type}{t:Sem α}{Q:α->Shared->Prop}{s:Shared},wpAny (model X'.prog X'.w) X'.A t Q X'.xe s->wpAny (model X.prog X.w) X.A t Q (fun _ _=>False) s:=fun {α t Q s} h=>by
   rw[eprog,ew,eA]at h
   exact wpAny_mono h (fun _ _ q=>q) exe
  rcases turn i n τ H6 w6 with⟨stop,qn⟩ | ⟨go,N,hN,step⟩
  ·have h7:=T.done X' eprog ew eK ecalm i [] s6 τ H6 (fun _ _=>False) I6 (fpok fr6) st6 stop
   rw[eA]at h7
   refine thn h7 fun r s7 ⟨hr,I7⟩=>?_
   subst hr
   -- back to the frame around
   have un:=I7.base
   rw[es0,eH0,efs,eex]at un
   have Iout:Inv X pins σ H6 s7:=I3.call' (ch:=fp) (by rw[I7.os,es0]) un (by have:=I7.hok;rw[eprog,ew]at this;exact this) I7.bare fun b hb=>by
    obtain⟨f0,f1,f2,f3,f4,f5⟩:=hf3 b hb
    exact⟨f3,f1,f4,f5⟩
   refine hRR _ _ s7 H6 Iout ?_ ?_ ?_ ?_ ?_ ?_ qn
   ·obtain⟨m,hn,_⟩:=I7.loc
    rw[eloc]at hn
    exact⟨m,hn⟩
   ·have:=I7.free
    rw[eloc]at this
    exact this
   ·exact Nat.ne_of_gt I3.lt
   ·exact I3.sz
   ·intro x c e z
    obtain⟨v,q⟩:=I3.cell x c e
    exact absurd q.lt (by rw[z];exact Nat.lt_irrefl _)
   ·intro p hp z
    exact absurd (Heap.lt_size (I3.pin p hp).1) (by rw[z];exact Nat.lt_irrefl _)
  ·have h6:=T.item X' eprog ew eK ecalm i [] s6 τ H6 (fun _ _=>False) I6 (fpok fr6) st6 go
   rw[eA]at h6
   refine thn h6 fun r s7 ⟨u,hr,h7⟩=>?_
   subst hr
   refine thn h7 fun _ s8 ⟨x,H8,I8,r8,y8,st8,fr8⟩=>?_
   have I8':=I8.pinned (fpok fr8) (T.obj _ _ st8)
   refine thn (A1 (QHS _ s8 τ H8 x u _ I8' r8 (step x H8 y8))) fun _ s9 ⟨τ9,H9,I9,q9⟩=>?_
   obtain⟨tcc,hif,q9⟩:=q9
   refine thn (A1 (hif.run I9 q9)) fun ok s10 ⟨H10,I10,q10⟩=>?_
   have again:∀{τ':St}{H':Hp}{s':Shared},Inv X' ([]++Qjm fp s8.heap) τ' H' s'->N τ' H'->∃ m,m<n/\∃ i τ H',Inv X' [] τ H' s'/\tn i s'.heap/\(∀ b∈fp,H' b=none)/\W i m τ H':=fun {τ' H' s'} I' n'=>by
    obtain⟨m',hm,w'⟩:=hN τ' H' n'
    refine⟨m',hm,i+1,τ',H',I'.unpinned,T.keep _ _ _ st8 fun b hb o e=>(I'.pin (b,o) (List.mem_append_right _ (List.mem_append_right _ (Qfj hb e)))).1,fun b hb=>?_,w'⟩
    obtain⟨o,e,d⟩:=T.obj _ _ st8 b hb
    exact(I'.pin (b,o) (List.mem_append_right _ (List.mem_append_right _ (Qfj hb e)))).2.1
   cases ok with
   | false=>
    rw[if_neg Bool.false_ne_true]at q10 ⊢
    exact again I10 q10
   | true=>
    rw[if_pos rfl]at q10 ⊢
    refine thn (A1 (QHq _ s10 τ9 H10 _ I10 q10)) fun y s11 ⟨yv,H11,I11,r11,ys,hp11,hz,n11⟩=>?_
    refine thn (A1 (Qjt _ s11 τ9 H11 (.ref s.heap.objs.size) [yv] (.ref s.heap.objs.size) [y] (fun _ H'=>N τ9 H') I11 rfl (.cons r11 .nil) ⟨_,ys,yv,rfl,rfl,hp11,hz,n11⟩)) fun _ s12 ⟨v12,H12,I12,_,n12⟩=>?_
    exact again I12 n12
 exact codeAny_compStart_list (loop _ rfl) (T.self _ 0 _ _ _ st4 (loop _ rfl))
theorem Qzo(hc:X.calm=true)(S:QB N' js scope X.env.scope X.N)(hi:PI X tg iter wi)
 (hs:∀ x,foldedSetIterable iter X.env x=pure x:=by intro _;rfl):PE X (.ListComp elt [⟨tg,iter,ifs,0⟩] scope pos) (tComp X N' js scope tg elt ifs wi):=by
 intro pins s σ H Q I h
 rw[eval_ListComp]
 have hcl:closureFor scope X.env=pure (QaQ X.env scope.names []):=Qmo fun y hy e=>by
  obtain⟨c,hc⟩:=I.ok.has y.1 (S.free y hy e)
  rw[hc];rfl
 refine wpAny_comprehension_free (use:=none) rfl hs hcl S.kind S.names (thn (hi pins s σ H _ I h) fun v s1 h1=>thn h1 fun itv s2 h2=>?_)
 obtain⟨it,fp,tn,J,H2,e,I2,T,st2,f2,hW⟩:=h2
 subst e
 refine QmH (R:=Q) (RR:=fun acc C=>compPost (model X.prog X.w) X.A X.xe none (EP X pins σ Q) acc C) hc S I2 T st2 f2 hW ?_
 intro D C s' H' I' ⟨m,hn⟩ hC h1 h2 h3 h4 q
 refine⟨m,hn,fun h' hsb=>⟨.ref D,H',?_,rfl,q⟩⟩
 exact I'.turned (t':=s'.toks) (fun b o hb e=>(hsb.2 b hb).trans e) hC (Ne.symm (Ne.symm h1)) (.inr h2) h3 h4
theorem QF9{i:Nat}{x:Str}{px spos:Pos}(hc:X.calm=true)(S:QB N' js scope X.env.scope X.N)(hi:PI X tg iter wi)
 (hN:X.N.Nodup) (hx:X.N[i]?=some x) (hl:Loc X.env.scope x)
 (hsw:swapsWith (.ListComp elt [⟨tg,iter,ifs,0⟩] scope pos) (some (.Name x px)) spos.line X.env=pure true)
 (hf:X.fn x=true∨X.env.scope.names.lookup x=some .local:=by first | exact .inl rfl | exact .inr rfl | assumption)
 (hs:∀ x,foldedSetIterable iter X.env x=pure x:=by intro _;rfl):PS X (.Assign [.Name x px] (.ListComp elt [⟨tg,iter,ifs,0⟩] scope pos) spos) (tAsg (tComp X N' js scope tg elt ifs wi) (gName i)):=by
 intro pins s σ H D I h
 rw[exec_Assign_Name_used _ _ _ _ hsw]
 refine wpAny_bind (wpAny_standAt (wpAny_bind ?_))
 show wpAny _ X.A (do let _ ← comprehension (.ListComp elt [⟨tg,iter,ifs,0⟩] scope pos) scope X.env _ (newList []) false (eval iter X.env) (some (assign (.Name x px) X.env))) _ _ s
 have hcl:closureFor scope X.env=pure (QaQ X.env scope.names []):=Qmo fun y hy e=>by
  obtain⟨c,hc⟩:=I.ok.has y.1 (S.free y hy e)
  rw[hc];rfl
 refine wpAny_bind (wpAny_mono (wpAny_comprehension_free (use:=some (assign (.Name x px) X.env)) (Q:=fun _ s'=>SP X pins D .next s') rfl hs hcl S.kind S.names
  (thn (hi pins s σ H _ I h) fun v s1 h1=>thn h1 fun itv s2 h2=>?_)) (fun _ s' hq=>wpAny_pure (wpAny_pure hq)) fun _ _ e=>e)
 obtain⟨it,fp,tn,J,H2,e,I2,T,st2,f2,hW⟩:=h2
 subst e
 refine QmH (R:=fun v H'=>D.nx (σ.set i (some v)) H') (RR:=fun acc C=>compPost (model X.prog X.w) X.A X.xe (some (assign (.Name x px) X.env)) (fun _ s'=>SP X pins D .next s') acc C) hc S I2 T st2 f2 hW ?_
 intro DD C s' H' I' ⟨m,hn⟩ hC h1 h2 h3 h4 q
 show wpAny _ X.A (assign (.Name x px) X.env (.ref DD)) _ _ s'
 refine wpAny_assign_Name (QpD (v:=.ref DD) I' hN hx hl rfl (fun s'' I'' ⟨a,hsb,ha⟩=>?_) hf)
 have hCa:C≠a:=by
  rcases ha with rfl | ha
  ·exact h1
  ·exact Ne.symm (h3 x a ha)
 refine⟨m,hn.sameBut hsb hCa,fun h' hsb'=>⟨_,H',?_,q⟩⟩
 exact I''.turned (t':=s''.toks) (fun b o hb e=>(hsb'.2 b hb).trans e) hC h1 (.inr h2) h3 h4
end
end L2
namespace DL
open PySem PySem.Spec PyProof.Rows L2
inductive D where
 | non | bl (b:Bool) | int (i:Int) | str (x:Str)
 | lst (xs:List D) | tup (xs:List D) | dic (kvs:List (Key×D)) | ins (c:Str) (fs:List (Str×D)) | err (c:Str)
instance:Inhabited D:=⟨.non⟩
abbrev CTab:=Str->Option Addr
section
variable(K:W.Frag)(CT:CTab)(H:Hp)
mutual
def Rep:D->V->Prop
 | .non,v=>v=.non
 | .bl b,v=>v=.bl b
 | .int i,v=>v=.int i
 | .str x,v=>v=.str x
 | .lst ds,v=>∃ a vs,v=.ref a/\SqL K H a vs/\RepL ds vs
 | .tup ds,v=>∃ a vs,v=.ref a/\SqT K H a vs/\RepL ds vs
 | .dic kds,v=>∃ a kvs,v=.ref a/\Rd H a (.dK kvs)/\RepK kds kvs
 | .ins c fds,v=>∃ a C dx fs,v=.ref a/\CT c=some C/\H a=some (.ins C dx fs)/\RepF fds fs
 | .err c,v=>∃ a C,v=.ref a/\CT c=some C/\H a=some (exO a C)
def RepL:List D->List V->Prop
 | [],vs=>vs=[]
 | d::ds,vs=>∃ v r,vs=v::r/\Rep d v/\RepL ds r
def RepK:List (Key×D)->List (Key×V)->Prop
 | [],kvs=>kvs=[]
 | (k,d)::ds,kvs=>∃ v r,kvs=(k,v)::r/\Rep d v/\RepK ds r
def RepF:List (Str×D)->List (Str×V)->Prop
 | [],kvs=>kvs=[]
 | (k,d)::ds,kvs=>∃ v r,kvs=(k,v)::r/\Rep d v/\RepF ds r
end
end
section
variable{K:W.Frag}{CT:CTab}{H H':Hp}
theorem Same.sqT{a:Addr}{xs:List V}(e:Same H H')(h:SqT K H a xs):SqT K H' a xs:=by
 rcases h with(h | ⟨o,h⟩) | h
 ·exact .inl (.inl (e _ _ h))
 ·exact .inl (.inr ⟨o,e _ _ h⟩)
 ·exact .inr h
theorem Same.rd{a:Addr}{u:HO}(e:Same H H')(h:Rd H a u):Rd H' a u:=by
 rcases h with h | ⟨o,h⟩
 ·exact .inl (e _ _ h)
 ·exact .inr ⟨o,e _ _ h⟩
mutual
theorem Rep.mono(e:Same H H'):∀(d:D)(v:V),Rep K CT H d v->Rep K CT H' d v
 | .non,_,h=>h
 | .bl _,_,h=>h
 | .int _,_,h=>h
 | .str _,_,h=>h
 | .lst ds,_,⟨a,vs,h1,h2,h3⟩=>⟨a,vs,h1,e.seq h2,RepL.mono e ds vs h3⟩
 | .tup ds,_,⟨a,vs,h1,h2,h3⟩=>⟨a,vs,h1,Same.sqT e h2,RepL.mono e ds vs h3⟩
 | .dic ds,_,⟨a,vs,h1,h2,h3⟩=>⟨a,vs,h1,Same.rd e h2,RepK.mono e ds vs h3⟩
 | .ins c ds,_,⟨a,C,dx,fs,h1,h2,h3,h4⟩=>⟨a,C,dx,fs,h1,h2,e _ _ h3,RepF.mono e ds fs h4⟩
 | .err c,_,⟨a,C,h1,h2,h3⟩=>⟨a,C,h1,h2,e _ _ h3⟩
theorem RepL.mono(e:Same H H'):∀(ds:List D)(vs:List V),RepL K CT H ds vs->RepL K CT H' ds vs
 | [],_,h=>h
 | d::ds,_,⟨v,r,h1,h2,h3⟩=>⟨v,r,h1,Rep.mono e d v h2,RepL.mono e ds r h3⟩
theorem RepK.mono(e:Same H H'):∀(ds:List (Key×D))(vs:List (Key×V)),RepK K CT H ds vs->RepK K CT H' ds vs
 | [],_,h=>h
 | (k,d)::ds,_,⟨v,r,h1,h2,h3⟩=>⟨v,r,h1,Rep.mono e d v h2,RepK.mono e ds r h3⟩
theorem RepF.mono(e:Same H H'):∀(ds:List (Str×D))(vs:List (Str×V)),RepF K CT H ds vs->RepF K CT H' ds vs
 | [],_,h=>h
 | (k,d)::ds,_,⟨v,r,h1,h2,h3⟩=>⟨v,r,h1,Rep.mono e d v h2,RepF.mono e ds r h3⟩
end
theorem RepL.length:∀{ds:List D}{vs:List V},RepL K CT H ds vs->ds.length=vs.length
 | [],_,h=>by cases h;rfl
 | d::ds,_,⟨v,r,h1,h2,h3⟩=>by subst h1;simp[RepL.length h3]
theorem RepL.get:∀{ds:List D}{vs:List V}{i:Nat}{d:D},RepL K CT H ds vs->ds[i]?=some d->∃ v,vs[i]?=some v/\Rep K CT H d v
 | [],_,_,_,_,e=>by simp at e
 | d::ds,_,0,_,⟨v,r,h1,h2,h3⟩,e=>by subst h1;simp at e;subst e;exact⟨v,rfl,h2⟩
 | d::ds,_,i+1,x,⟨v,r,h1,h2,h3⟩,e=>by
  subst h1
  obtain⟨u,a,b⟩:=RepL.get (i:=i) (d:=x) h3 (by simpa using e)
  exact⟨u,by simpa using a,b⟩
theorem RepL.append:∀{ds es:List D}{vs us:List V},RepL K CT H ds vs->RepL K CT H es us->RepL K CT H (ds++es) (vs++us)
 | [],_,_,_,h,k=>by cases h;exact k
 | d::ds,_,_,_,⟨v,r,h1,h2,h3⟩,k=>by subst h1;exact⟨v,_,rfl,h2,RepL.append h3 k⟩
theorem RepL.take:∀(n:Nat){ds:List D}{vs:List V},RepL K CT H ds vs->RepL K CT H (ds.take n) (vs.take n)
 | 0,_,_,_=>by simp[RepL]
 | n+1,[],_,h=>by cases h;simp[RepL]
 | n+1,d::ds,_,⟨v,r,h1,h2,h3⟩=>by subst h1;exact⟨v,_,rfl,h2,RepL.take n h3⟩
theorem RepL.drop:∀(n:Nat){ds:List D}{vs:List V},RepL K CT H ds vs->RepL K CT H (ds.drop n) (vs.drop n)
 | 0,_,_,h=>h
 | n+1,[],_,h=>by cases h;simp[RepL]
 | n+1,d::ds,_,⟨v,r,h1,h2,h3⟩=>by subst h1;exact RepL.drop n h3
theorem RepL.set{d:D}{v:V}(q:Rep K CT H d v):∀(i:Nat){ds:List D}{vs:List V},RepL K CT H ds vs->RepL K CT H (ds.set i d) (vs.set i v)
 | _,[],_,h=>by cases h;simp[RepL]
 | 0,_::ds,_,⟨w,r,h1,h2,h3⟩=>by subst h1;exact⟨v,r,rfl,q,h3⟩
 | i+1,e::ds,_,⟨w,r,h1,h2,h3⟩=>by subst h1;exact⟨w,_,rfl,h2,RepL.set q i h3⟩
theorem RepL.rep{ds:List D}{vs:List V}(h:RepL K CT H ds vs):∀ k:Nat,RepL K CT H (List.replicate k ds).flatten (List.replicate k vs).flatten
 | 0=>rfl
 | k+1=>by
  rw[List.replicate_succ,List.replicate_succ,List.flatten_cons,List.flatten_cons]
  exact h.append (h.rep k)
theorem RepL.one{d:D}{v:V}(h:Rep K CT H d v):RepL K CT H [d] [v]:=⟨v,[],rfl,h,rfl⟩
theorem RepL.map_int:∀(ns:List Int),RepL K CT H (ns.map D.int) (ns.map V.int)
 | []=>rfl
 | n::ns=>⟨_,_,rfl,rfl,RepL.map_int ns⟩
end
inductive Out(α:Type) where
 | ok (a:α) | exc (x:D) | stuck
namespace Out
def bind{α β:Type}:Out α->(α->Out β)->Out β
 | .ok a,f=>f a
 | .exc x,_=>.exc x
 | .stuck,_=>.stuck
instance:Monad Out where
 pure:=.ok
 bind:=bind
def post{α:Type}(o:Out α)(k:α->Prop)(x:D->Prop):Prop:=match o with
 | .ok a=>k a
 | .exc e=>x e
 | .stuck=>False
@[simp] theorem bind_ok{α β:Type}(a:α)(f:α->Out β):(Out.ok a>>=f)=f a:=rfl
@[simp] theorem bind_exc{α β:Type}(x:D)(f:α->Out β):((Out.exc x:Out α)>>=f)=.exc x:=rfl
@[simp] theorem bind_stuck{α β:Type}(f:α->Out β):((Out.stuck:Out α)>>=f)=.stuck:=rfl
@[simp] theorem QIe{α β:Type}(a:α)(f:α->Out β):(Out.ok a).bind f=f a:=rfl
@[simp] theorem QId{α β:Type}(x:D)(f:α->Out β):(Out.exc x:Out α).bind f=.exc x:=rfl
@[simp] theorem QH5{α β:Type}(f:α->Out β):(Out.stuck:Out α).bind f=.stuck:=rfl
@[simp] theorem pure_eq{α:Type}(a:α):(pure a:Out α)=.ok a:=rfl
theorem post_bind{α β:Type}(o:Out α)(f:α->Out β)(k:β->Prop)(x:D->Prop):(o>>=f).post k x↔o.post (fun a=>(f a).post k x) x:=by
 cases o<;>exact Iff.rfl
theorem post_mono{α:Type}{o:Out α}{k k':α->Prop}{x:D->Prop}(h:o.post k x)(hk:∀ a,k a->k' a):o.post k' x:=by
 cases o with
 | ok a=>exact hk a h
 | exc e=>exact h
 | stuck=>exact h
end Out
end DL
namespace DL
open PySem PySem.Spec PyProof.Rows L2
abbrev St:=L2.St
inductive SM where
 | k | o | l | s
abbrev SD:=List (Option (SM×D))
structure Dc where
 X:Cx
 CT:CTab
 G0:Hp
 XD:D->Prop
 /-- what is lent -/
 B:Hp
 /-- what of the entry's objects may be written -/
 M:Addr->Prop
 /-- which address a written slot holds -/
 W:Nat->Option Addr:=fun _=>none
abbrev Dc.K(C:Dc):W.Frag:=C.X.K
def Own(K:W.Frag)(CT:CTab)(G H:Hp)(p:Addr):D->Prop
 | .lst ds=>∃ vs,H p=some (.lst vs)/\RepL K CT G ds vs
 | .dic ds=>∃ kvs,H p=some (.dK kvs)/\RepK K CT G ds kvs
 | .ins c ds=>∃ A dx fs,CT c=some A/\H p=some (.ins A dx fs)/\RepF K CT G ds fs
 | _=>False
theorem Own.there{K:W.Frag}{CT:CTab}{G H:Hp}{p:Addr}:∀{d:D},Own K CT G H p d->∃ o,H p=some o
 | .lst _,⟨_,h,_⟩=>⟨_,h⟩
 | .dic _,⟨_,h,_⟩=>⟨_,h⟩
 | .ins _ _,⟨_,_,_,_,h,_⟩=>⟨_,h⟩
 | .non,h=>h.elim
 | .bl _,h=>h.elim
 | .int _,h=>h.elim
 | .str _,h=>h.elim
 | .tup _,h=>h.elim
theorem Own.mono{K:W.Frag}{CT:CTab}{G G' H H':Hp}{p:Addr}(g:Same G G')(h:∀ o,H p=some o->H' p=some o):∀{d:D},Own K CT G H p d->Own K CT G' H' p d
 | .lst ds,⟨vs,a,b⟩=>⟨vs,h _ a,RepL.mono g ds vs b⟩
 | .dic ds,⟨vs,a,b⟩=>⟨vs,h _ a,RepK.mono g ds vs b⟩
 | .ins _ ds,⟨A,dx,fs,e,a,b⟩=>⟨A,dx,fs,e,h _ a,RepF.mono g ds fs b⟩
 | .non,h=>h.elim
 | .bl _,h=>h.elim
 | .int _,h=>h.elim
 | .str _,h=>h.elim
 | .tup _,h=>h.elim
theorem Own.rep{K:W.Frag}{CT:CTab}{G H:Hp}{p:Addr}(g:Same G H):∀{d:D},Own K CT G H p d->Rep K CT H d (.ref p)
 | .lst ds,⟨vs,a,b⟩=>⟨p,vs,rfl,SqL.of a,RepL.mono g ds vs b⟩
 | .dic ds,⟨vs,a,b⟩=>⟨p,vs,rfl,Rd.of a,RepK.mono g ds vs b⟩
 | .ins _ ds,⟨A,dx,fs,e,a,b⟩=>⟨p,A,dx,fs,rfl,e,a,RepF.mono g ds fs b⟩
 | .non,h=>h.elim
 | .bl _,h=>h.elim
 | .int _,h=>h.elim
 | .str _,h=>h.elim
 | .tup _,h=>h.elim
structure GH(C:Dc)(G H:Hp):Prop where
 sub:Same G H
 g0:Same C.G0 G
 new:∀ b,C.G0 b=none->G b≠none->C.X.H₀ b=none
 fr:∀ b o,C.X.H₀ b=some o->¬ C.M b->H b=some o
 dom:∀ b,H b=none->C.X.H₀ b=none
 bs:Same C.B H
 bh:∀ b,C.X.H₀ b=none->C.B b=none
structure StR(C:Dc)(G H:Hp)(σ:St)(ς:SD):Prop extends GH C G H where
 len:σ.length=ς.length
 fz:∀(i:Nat) d,ς[i]?=some (some (.k,d))->∃ v,σ[i]?=some (some v)/\Rep C.X.K C.CT G d v
 ow:∀(i:Nat) d,ς[i]?=some (some (.o,d))->∃ p,σ[i]?=some (some (.ref p))/\G p=none/\C.X.H₀ p=none/\Own C.X.K C.CT G H p d
 ln:∀(i:Nat) d,ς[i]?=some (some (.l,d))->∃ v,σ[i]?=some (some v)/\Rep C.X.K C.CT C.B d v
 inj:∀(i j:Nat) d e p,i≠j->ς[i]?=some (some (.o,d))->ς[j]?=some (some (.o,e))->σ[i]?=some (some (.ref p))->σ[j]?≠some (some (.ref p))
 sf:∀(i:Nat) d,ς[i]?=some (some (.s,d))->∃ p,σ[i]?=some (some (.ref p))/\G p=none/\C.X.H₀ p≠none/\(C.M p/\C.W i=some p)/\C.B p=none/\Own C.X.K C.CT G H p d
 su:∀(i j:Nat) d e p,i≠j->ς[i]?=some (some (.s,d))->ς[j]?=some (some (.s,e))->σ[i]?=some (some (.ref p))->σ[j]?≠some (some (.ref p))
section
variable{C:Dc}{G G' H H':Hp}{σ:St}{ς:SD}
theorem GH.gnone(S:GH C G H){p:Addr}(h:H p=none):G p=none:=S.sub.free h
theorem GH.h0none(S:GH C G H){p:Addr}(h:H p=none):C.X.H₀ p=none:=S.dom p h
theorem Qt{H:Hp}{p:Addr}{o:HO}(h:H p=none):Same H (upd H p o):=fun b u e=>by
 rw[Qh (QJ e h)];exact e
theorem Qi9{G H:Hp}{p:Addr}{o:HO}(s:Same G H):Same (upd G p o) (upd H p o):=fun b u e=>by
 by_cases hb:b=p
 ·subst hb;rw[Qz]at e ⊢;exact e
 ·rw[Qh hb]at e ⊢;exact s b u e
theorem GH.grow(S:GH C G H)(hH:Same H H')(hG:Same G G')(hs:Same G' H')(hn:∀ b,G b=none->G' b≠none->H b=none):GH C G' H' where
 sub:=hs
 g0:=S.g0.trans hG
 new:=fun b h0 h1=>by
  cases q:G b with
  | none=>exact S.h0none (hn b q h1)
  | some o=>exact S.new b h0 (by rw[q];simp)
 fr:=fun b o e m=>hH b o (S.fr b o e m)
 dom:=fun b e=>S.dom b (hH.free e)
 bs:=S.bs.trans hH
 bh:=S.bh
theorem StR.own_ne(S:StR C G H σ ς){i:Nat}{d:D}{p:Addr}(h:ς[i]?=some (some (.o,d)))(hp:σ[i]?=some (some (.ref p))):∃ o,H p=some o:=by
 obtain⟨q,e,_,_,o⟩:=S.ow i d h
 rw[hp]at e;cases e
 exact o.there
theorem StR.grow(S:StR C G H σ ς)(hH:Same H H')(hG:Same G G')(hs:Same G' H')(hn:∀ b,G b=none->G' b≠none->H b=none):StR C G' H' σ ς where
 toGH:=S.toGH.grow hH hG hs hn
 len:=S.len
 fz:=fun i d e=>let ⟨v,a,b⟩:=S.fz i d e;⟨v,a,Rep.mono hG d v b⟩
 ow:=fun i d e=>by
  obtain⟨p,a,b,c,o⟩:=S.ow i d e
  refine⟨p,a,?_,c,o.mono hG fun u q=>hH _ _ q⟩
  cases q:G' p with
  | none=>rfl
  | some u=>
   obtain⟨w,hw⟩:=o.there
   have:=hn p b (by rw[q];simp)
   rw[hw]at this;cases this
 ln:=S.ln
 inj:=S.inj
 sf:=fun i d e=>by
  obtain⟨p,a,b,c,m,z,o⟩:=S.sf i d e
  refine⟨p,a,?_,c,m,z,o.mono hG fun u q=>hH _ _ q⟩
  cases q:G' p with
  | none=>rfl
  | some u=>
   obtain⟨w,hw⟩:=o.there
   have:=hn p b (by rw[q];simp)
   rw[hw]at this;cases this
 su:=S.su
theorem StR.alloc(S:StR C G H σ ς){p:Addr}{o:HO}(h:H p=none):StR C (upd G p o) (upd H p o) σ ς:=
 S.grow (Qt h) (Qt (S.sub.free h)) (Qi9 S.sub) fun b g n=>by
  by_cases hb:b=p
  ·subst hb;exact h
  ·rw[Qh hb,g]at n;exact absurd rfl n
theorem StR.allocO(S:StR C G H σ ς){p:Addr}{o:HO}(h:H p=none):StR C G (upd H p o) σ ς:=
 S.grow (Qt h) (Same.refl G) (S.sub.trans (Qt h)) fun b g n=>absurd g n
end
def KD(C:Dc)(G H:Hp)(σ:St)(ς:SD)(Q:VK)(d:D):Prop:=∀ v H' G',StR C G' H' σ ς->Same H H'->Same G G'->Rep C.X.K C.CT G' d v->Q v H'
def KB(C:Dc)(G H:Hp)(σ:St)(ς:SD)(Q:VK)(d:D):Prop:=∀ v H' G',StR C G' H' σ ς->Same H H'->Same G G'->Rep C.X.K C.CT H' d v->Q v H'
def KF(C:Dc)(G H:Hp)(σ:St)(ς:SD)(Q:VK)(d:D):Prop:=∀ p H' G',StR C G' H' σ ς->Same H H'->Same G G'->H p=none->G' p=none->Own C.X.K C.CT G' H' p d->Q (.ref p) H'
def DE(C:Dc)(e:Expr)(E:SD->Out D):Prop:=∃ t,PE C.X e t/\∀ G H σ ς Q,StR C G H σ ς->(E ς).post (KD C G H σ ς Q) C.XD->t σ H Q
def DB(C:Dc)(e:Expr)(E:SD->Out D):Prop:=∃ t,PE C.X e t/\∀ G H σ ς Q,StR C G H σ ς->(E ς).post (KB C G H σ ς Q) C.XD->t σ H Q
def DF(C:Dc)(e:Expr)(E:SD->Out D):Prop:=∃ t,PE C.X e t/\∀ G H σ ς Q,StR C G H σ ς->(E ς).post (KF C G H σ ς Q) C.XD->t σ H Q
def KT(C:Dc)(G H:Hp)(σ:St)(ς:SD)(Q:Bool->Hp->Prop)(b:Bool):Prop:=∀ H' G',StR C G' H' σ ς->Same H H'->Same G G'->Q b H'
def DT(C:Dc)(e:Expr)(T:SD->Out Bool):Prop:=∃ t,PT C.X e t/\∀ G H σ ς Q,StR C G H σ ς->(T ς).post (KT C G H σ ς Q) C.XD->t σ H Q
def DW(C:Dc)(e:Expr)(T:SD->Out Bool):Prop:=∃ t,PW C.X e t/\∀ G H σ ς Q,StR C G H σ ς->(T ς).post (KT C G H σ ς Q) C.XD->t σ H Q
def DA(C:Dc)(es:List Expr)(A:SD->Out (List D)):Prop:=∃ t,PA C.X es t/\∀ G H σ ς Q,StR C G H σ ς->
 (A ς).post (fun ds=>∀ vs H' G',StR C G' H' σ ς->Same H H'->Same G G'->RepL C.X.K C.CT G' ds vs->Q vs H') C.XD->t σ H Q
def DAB(C:Dc)(es:List Expr)(A:SD->Out (List D)):Prop:=∃ t,PA C.X es t/\∀ G H σ ς Q,StR C G H σ ς->
 (A ς).post (fun ds=>∀ vs H' G',StR C G' H' σ ς->Same H H'->Same G G'->RepL C.X.K C.CT H' ds vs->Q vs H') C.XD->t σ H Q
inductive Fl where
 | nx (ς:SD) | rt (fr:Bool) (d:D) | bk (ς:SD) | ct (ς:SD)
def RetR(K:W.Frag)(CT:CTab)(fr:Bool)(H0 G' H':Hp)(d:D)(v:V):Prop:=
 if fr=true then ∃ p,v=.ref p/\H0 p=none/\G' p=none/\Own K CT G' H' p d else Rep K CT G' d v
def FlK(C:Dc)(G:Hp)(W:Ends):Fl->Prop
 | .nx ς'=>∀ σ' H' G',StR C G' H' σ' ς'->Same G G'->W.nx σ' H'
 | .bk ς'=>∀ σ' H' G',StR C G' H' σ' ς'->Same G G'->W.bk σ' H'
 | .ct ς'=>∀ σ' H' G',StR C G' H' σ' ς'->Same G G'->W.ct σ' H'
 | .rt fr d=>∀ v H' G',GH C G' H'->Same G G'->RetR C.X.K C.CT fr C.X.H₀ G' H' d v->W.rt v H'
def DS(C:Dc)(st:Stmt)(T:SD->Out Fl):Prop:=∃ t,PS C.X st t/\∀ G H σ ς W,StR C G H σ ς->(T ς).post (FlK C G W) C.XD->t W σ H
def DSs(C:Dc)(st:List Stmt)(T:SD->Out Fl):Prop:=∃ t,PSs C.X st t/\∀ G H σ ς W,StR C G H σ ς->(T ς).post (FlK C G W) C.XD->t W σ H
section
variable{C:Dc}{e:Expr}{E:SD->Out D}
theorem StR.freeze{G H:Hp}{σ:St}{ς:SD}(S:StR C G H σ ς){p:Addr}{o:HO}(hp:H p=some o)(hg:G p=none)(h0:C.X.H₀ p=none)(hn:∀(i:Nat) d,ς[i]?=some (some (.o,d))->σ[i]?≠some (some (.ref p))):StR C (upd G p o) H σ ς where
 sub:=fun b u q=>by
  by_cases hb:b=p
  ·subst hb;rw[Qz]at q;cases q;exact hp
  ·rw[Qh hb]at q;exact S.sub b u q
 g0:=S.g0.trans (Qt hg)
 new:=fun b h1 h2=>by
  by_cases hb:b=p
  ·subst hb;exact h0
  ·rw[Qh hb]at h2;exact S.new b h1 h2
 fr:=S.fr
 dom:=S.dom
 bs:=S.bs
 bh:=S.bh
 len:=S.len
 fz:=fun i d q=>let ⟨v,a,b⟩:=S.fz i d q;⟨v,a,Rep.mono (Qt hg) d v b⟩
 ow:=fun i d q=>by
  obtain⟨r,a,b,c,w⟩:=S.ow i d q
  refine⟨r,a,?_,c,w.mono (Qt hg) fun _ z=>z⟩
  rw[Qh (by rintro rfl;exact hn i d q a)];exact b
 ln:=S.ln
 inj:=S.inj
 sf:=fun i d q=>by
  obtain⟨r,a,b,c,m,z,w⟩:=S.sf i d q
  refine⟨r,a,?_,c,m,z,w.mono (Qt hg) fun _ z=>z⟩
  rw[Qh (by rintro rfl;exact c h0)];exact b
 su:=S.su
theorem Own.known{K:W.Frag}{CT:CTab}{G H:Hp}{p:Addr}{o:HO}(hg:G p=none)(hp:H p=some o):∀{d:D},Own K CT G H p d->Rep K CT (upd G p o) d (.ref p)
 | .lst ds,⟨vs,a,b⟩=>by rw[hp]at a;cases a;exact⟨p,vs,rfl,SqL.of Qz,RepL.mono (Qt hg) ds vs b⟩
 | .dic ds,⟨vs,a,b⟩=>by rw[hp]at a;cases a;exact⟨p,vs,rfl,Rd.of Qz,RepK.mono (Qt hg) ds vs b⟩
 | .ins _ ds,⟨A,dx,fs,e,a,b⟩=>by rw[hp]at a;cases a;exact⟨p,A,dx,fs,rfl,e,Qz,RepF.mono (Qt hg) ds fs b⟩
 | .non,h=>h.elim
 | .bl _,h=>h.elim
 | .int _,h=>h.elim
 | .str _,h=>h.elim
 | .tup _,h=>h.elim
theorem StR.new_ne{G H:Hp}{σ:St}{ς:SD}(S:StR C G H σ ς){p:Addr}(h:H p=none):∀(i:Nat) d,ς[i]?=some (some (.o,d))->σ[i]?≠some (some (.ref p)):=fun i d q z=>by
 obtain⟨o,w⟩:=S.own_ne q z
 rw[h]at w;cases w
theorem KD.ofF{G H:Hp}{σ:St}{ς:SD}{Q:VK}{d:D}(S:StR C G H σ ς)(k:KD C G H σ ς Q d):KF C G H σ ς Q d:=fun p H' G' S' hH hG hp hg ow=>by
 obtain⟨o,ho⟩:=ow.there
 exact k _ _ _ (S'.freeze ho hg (S.h0none hp) (S.new_ne hp)) hH (hG.trans (Qt hg)) (ow.known hg ho)
theorem DF.de(h:DF C e E):DE C e E:=by
 obtain⟨t,h1,h2⟩:=h
 refine⟨t,h1,fun G H σ ς Q S q=>h2 G H σ ς Q S (Out.post_mono q fun d k=>KD.ofF S k)⟩
theorem DE.db(h:DE C e E):DB C e E:=by
 obtain⟨t,h1,h2⟩:=h
 refine⟨t,h1,fun G H σ ς Q S q=>h2 G H σ ς Q S (Out.post_mono q fun d k v H' G' S' a b r=>k v H' G' S' a b (Rep.mono S'.sub d v r))⟩
def D.scal:D->Bool
 | .non=>true
 | .bl _=>true
 | .int _=>true
 | .str _=>true
 | _=>false
theorem Rep.scal{K:W.Frag}{CT:CTab}{G H:Hp}:∀{d:D}{v:V},d.scal=true->Rep K CT H d v->Rep K CT G d v
 | .non,_,_,h=>h
 | .bl _,_,_,h=>h
 | .int _,_,_,h=>h
 | .str _,_,_,h=>h
theorem KD.now{G H:Hp}{σ:St}{ς:SD}{Q:VK}{d:D}{v:V}(k:KD C G H σ ς Q d)(S:StR C G H σ ς)(r:Rep C.X.K C.CT G d v):Q v H:=k v H G S (Same.refl H) (Same.refl G) r
theorem KB.now{G H:Hp}{σ:St}{ς:SD}{Q:VK}{d:D}{v:V}(k:KB C G H σ ς Q d)(S:StR C G H σ ς)(r:Rep C.X.K C.CT H d v):Q v H:=k v H G S (Same.refl H) (Same.refl G) r
theorem KT.now{G H:Hp}{σ:St}{ς:SD}{Q:Bool->Hp->Prop}{b:Bool}(k:KT C G H σ ς Q b)(S:StR C G H σ ς):Q b H:=k H G S (Same.refl H) (Same.refl G)
theorem KD.later{G H G1 H1:Hp}{σ:St}{ς:SD}{Q:VK}{d:D}(k:KD C G H σ ς Q d)(hH:Same H H1)(hG:Same G G1):KD C G1 H1 σ ς Q d:=fun v H' G' S a b r=>k v H' G' S (hH.trans a) (hG.trans b) r
theorem KB.later{G H G1 H1:Hp}{σ:St}{ς:SD}{Q:VK}{d:D}(k:KB C G H σ ς Q d)(hH:Same H H1)(hG:Same G G1):KB C G1 H1 σ ς Q d:=fun v H' G' S a b r=>k v H' G' S (hH.trans a) (hG.trans b) r
theorem KT.later{G H G1 H1:Hp}{σ:St}{ς:SD}{Q:Bool->Hp->Prop}{d:Bool}(k:KT C G H σ ς Q d)(hH:Same H H1)(hG:Same G G1):KT C G1 H1 σ ς Q d:=fun H' G' S a b=>k H' G' S (hH.trans a) (hG.trans b)
theorem KF.later{G H G1 H1:Hp}{σ:St}{ς:SD}{Q:VK}{d:D}(k:KF C G H σ ς Q d)(hH:Same H H1)(hG:Same G G1):KF C G1 H1 σ ς Q d:=fun p H' G' S a b hp hg ow=>k p H' G' S (hH.trans a) (hG.trans b) (hH.free hp) hg ow
theorem KF.lst{G H:Hp}{σ:St}{ς:SD}{Q:VK}{ds:List D}{vs:List V}(k:KF C G H σ ς Q (.lst ds))(S:StR C G H σ ς)(r:RepL C.X.K C.CT G ds vs):∀ p,H p=none->Q (.ref p) (upd H p (.lst vs)):=fun p hp=>
 k p _ G (S.allocO hp) (Qt hp) (Same.refl G) hp (S.gnone hp) ⟨vs,Qz,r⟩
theorem KD.lst{G H:Hp}{σ:St}{ς:SD}{Q:VK}{ds:List D}{vs:List V}(k:KD C G H σ ς Q (.lst ds))(S:StR C G H σ ς)(r:RepL C.X.K C.CT G ds vs):∀ p,H p=none->Q (.ref p) (upd H p (.lst vs)):=fun p hp=>
 k _ _ _ (S.alloc hp) (Qt hp) (Qt (S.gnone hp)) ⟨p,vs,rfl,SqL.of Qz,RepL.mono (Qt (S.gnone hp)) ds vs r⟩
theorem KD.tup{G H:Hp}{σ:St}{ς:SD}{Q:VK}{ds:List D}{vs:List V}(k:KD C G H σ ς Q (.tup ds))(S:StR C G H σ ς)(r:RepL C.X.K C.CT G ds vs):∀ p,H p=none->Q (.ref p) (upd H p (.tup vs)):=fun p hp=>
 k _ _ _ (S.alloc hp) (Qt hp) (Qt (S.gnone hp)) ⟨p,vs,rfl,SqT.of Qz,RepL.mono (Qt (S.gnone hp)) ds vs r⟩
end
end DL
namespace DL
open PySem PySem.Spec PyProof.Rows L2
def eVar(i:Nat):SD->Out D:=fun ς=>match ς[i]? with | some (some (.k,d))=>.ok d | _=>.stuck
def eVarB(i:Nat):SD->Out D:=fun ς=>match ς[i]? with | some (some (_,d))=>.ok d | _=>.stuck
def eC(d:D):SD->Out D:=fun _=>.ok d
section
variable{C:Dc}{pos:Pos}
theorem Qsz{i:Nat}{ς:SD}{k:D->Prop}{x:D->Prop}(h:(eVar i ς).post k x):∃ d,ς[i]?=some (some (.k,d))/\k d:=by
 unfold eVar at h
 split at h
 ·rename_i d e;exact⟨d,e,h⟩
 ·exact h.elim
theorem QDl{i:Nat}{ς:SD}{k:D->Prop}{x:D->Prop}(h:(eVarB i ς).post k x):∃ b d,ς[i]?=some (some (b,d))/\k d:=by
 unfold eVarB at h
 split at h
 ·rename_i b d e;exact⟨b,d,e,h⟩
 ·exact h.elim
theorem Qa(i:Nat){x:Str}(hN:C.X.N[i]?=some x:=by rfl)(hv:Vis C.X.env.scope x:=by first | exact Or.inl rfl | exact Or.inr (oi rfl) | exact Or.inr (Or.inr rfl))
 (hd:(x == ("__debug__":Str))=false:=by decide) (hcd:(x == ("__classdict__":Str))=false:=by decide):DE C (.Name x pos) (eVar i):=by
 refine⟨_,QbM (i:=i) hN hv hd hcd,fun G H σ ς Q S q=>?_⟩
 obtain⟨d,e,k⟩:=Qsz q
 obtain⟨v,a,b⟩:=S.fz i d e
 exact⟨v,a,k.now S b⟩
theorem QiG(i:Nat){x:Str}(hN:C.X.N[i]?=some x:=by rfl)(hv:Vis C.X.env.scope x:=by first | exact Or.inl rfl | exact Or.inr (oi rfl) | exact Or.inr (Or.inr rfl))
 (hd:(x == ("__debug__":Str))=false:=by decide) (hcd:(x == ("__classdict__":Str))=false:=by decide):DB C (.Name x pos) (eVarB i):=by
 refine⟨_,QbM (i:=i) hN hv hd hcd,fun G H σ ς Q S q=>?_⟩
 obtain⟨b,d,e,k⟩:=QDl q
 cases b with
 | k=>
  obtain⟨v,a,b⟩:=S.fz i d e
  exact⟨v,a,k.now S (Rep.mono S.sub d v b)⟩
 | o=>
  obtain⟨p,a,b,c,w⟩:=S.ow i d e
  exact⟨_,a,k.now S (w.rep S.sub)⟩
 | l=>
  obtain⟨v,a,b⟩:=S.ln i d e
  exact⟨v,a,k.now S (Rep.mono S.bs d v b)⟩
 | s=>
  obtain⟨p,a,b,c,m,z,w⟩:=S.sf i d e
  exact⟨_,a,k.now S (w.rep S.sub)⟩
theorem Qe{i:Int}{j}:DE C (.Constant (.int i) j pos) (eC (.int i)):=⟨_,Qsp,fun G H σ ς Q S q=>KD.now q S rfl⟩
theorem de_bl{b:Bool}{j}:DE C (.Constant (.bool b) j pos) (eC (.bl b)):=⟨_,pe_bl,fun G H σ ς Q S q=>KD.now q S rfl⟩
theorem QG1{j}:DE C (.Constant .none j pos) (eC .non):=⟨_,QHm,fun G H σ ς Q S q=>KD.now q S rfl⟩
theorem Qg4{x:Str}{j}:DE C (.Constant (.str x) j pos) (eC (.str x)):=⟨_,QGM,fun G H σ ς Q S q=>KD.now q S rfl⟩
def toV:D->V
 | .bl b=>.bl b
 | .int i=>.int i
 | .str x=>.str x
 | _=>.non
theorem Qot{K:W.Frag}{CT:CTab}{H:Hp}:∀{d:D},d.scal=true->Rep K CT H d (toV d)
 | .non,_=>rfl
 | .bl _,_=>rfl
 | .int _,_=>rfl
 | .str _,_=>rfl
theorem QcQ{x:Str}{d:D}{u:Value}(hg:Gl C.X x)(hm:C.X.mg x=some u)(hs:d.scal=true)(r:RelV (toV d) u)(hd:(x == ("__debug__":Str))=false:=by decide):DE C (.Name x pos) (eC d):=
 ⟨_,QgO hg hm r hd,fun G H σ ς Q S q=>KD.now q S (Qot hs)⟩
end
def e1(f:D->Out D)(a:SD->Out D):SD->Out D:=fun ς=>a ς>>=f
def e2(f:D->D->Out D)(a b:SD->Out D):SD->Out D:=fun ς=>a ς>>=fun x=>b ς>>=fun y=>f x y
def DRS(C:Dc)(r:R2)(f:D->D->Out D):Prop:=∀ G H σ ς (Q:VK) x y vx vy,StR C G H σ ς->Rep C.X.K C.CT H x vx->Rep C.X.K C.CT H y vy->
 (f x y).post (fun d=>d.scal=true/\Q (toV d) H) (fun _=>False)->r vx vy H Q
def scal2(f:D->D->Out D):Prop:=∀ x y,match f x y with | .ok d=>d.scal=true | .exc _=>False | .stuck=>True
section
variable{C:Dc}{a b c:Expr}{A B A':SD->Out D}{pos:Pos}
theorem QfE{o:Out D}{G H:Hp}{σ:St}{ς:SD}{Q:VK}(S:StR C G H σ ς)(hs:match o with | .ok d=>d.scal=true | .exc _=>False | .stuck=>True)(q:o.post (KD C G H σ ς Q) C.XD):
 o.post (fun d=>d.scal=true/\Q (toV d) H) (fun _=>False):=by
 cases o with
 | ok d=>exact⟨hs,KD.now q S (Qot hs)⟩
 | exc _=>exact hs
 | stuck=>exact q
theorem dop{t:TE}{r:R2}{f:D->D->Out D}{ta tb:TE}(hr:DRS C r f)(hs:scal2 f)
 (h1:∀ G H σ ς Q,StR C G H σ ς->(A ς).post (KB C G H σ ς Q) C.XD->ta σ H Q) (h2:∀ G H σ ς Q,StR C G H σ ς->(B ς).post (KB C G H σ ς Q) C.XD->tb σ H Q):
 ∀ G H σ ς Q,StR C G H σ ς->(e2 f A B ς).post (KD C G H σ ς Q) C.XD->tOp r ta tb σ H Q:=by
 intro G H σ ς Q S q
 unfold e2 at q
 rw[Out.post_bind]at q
 refine h1 G H σ ς _ S (Out.post_mono q fun x k v1 H1 G1 S1 a1 b1 r1=>?_)
 rw[Out.post_bind]at k
 refine h2 G1 H1 σ ς _ S1 (Out.post_mono k fun y k2 v2 H2 G2 S2 a2 b2 r2=>?_)
 refine hr G2 H2 σ ς _ x y v1 v2 S2 (Rep.mono a2 x v1 r1) r2 (QfE S2 (hs x y) ?_)
 exact Out.post_mono k2 fun d kd=>KD.later kd (a1.trans a2) (b1.trans b2)
theorem de_op{op:Operator}{r:R2}{f:D->D->Out D}(ho:OpR C.X (binaryOp op) r)(hr:DRS C r f)(hs:scal2 f)(ha:DB C a A)(hb:DB C b B):DE C (.BinOp a op b pos) (e2 f A B):=by
 obtain⟨ta,p1,q1⟩:=ha
 obtain⟨tb,p2,q2⟩:=hb
 exact⟨_,pe_op ho p1 p2,dop (t:=ta) hr hs q1 q2⟩
theorem Qix{op:CmpOp}{r:R2}{f:D->D->Out D}(ho:OpR C.X (compareOp op) r)(hr:DRS C r f)(hs:scal2 f)(ha:DB C a A)(hb:DB C b B)(hm:behindInMarks op b=false):DE C (.Compare a [op] [b] pos) (e2 f A B):=by
 obtain⟨ta,p1,q1⟩:=ha
 obtain⟨tb,p2,q2⟩:=hb
 exact⟨_,QF0 ho p1 p2 hm,dop (t:=ta) hr hs q1 q2⟩
def tVal(a:SD->Out D):SD->Out Bool:=fun ς=>a ς>>=fun d=>match d with | .bl b=>.ok b | _=>.stuck
theorem QiW{o:Out D}{G H:Hp}{σ:St}{ς:SD}{Q:Bool->Hp->Prop}(q:(o>>=fun d=>match d with | .bl b=>Out.ok b | _=>.stuck).post (KT C G H σ ς Q) C.XD):
 o.post (KD C G H σ ς fun x H'=>∃ k,x=.bl k/\Q k H') C.XD:=by
 rw[Out.post_bind]at q
 refine Out.post_mono q fun d k v H' G' S' a b r=>?_
 cases d with
 | bl c=>exact⟨c,r,k H' G' S' a b⟩
 | _=>exact k.elim
theorem QlE{op:CmpOp}{r:R2}{f:D->D->Out D}(ho:OpR C.X (compareOp op) r)(hr:DRS C r f)(hs:scal2 f)(ha:DB C a A)(hb:DB C b B)(hm:behindInMarks op b=false):DT C (.Compare a [op] [b] pos) (tVal (e2 f A B)):=by
 obtain⟨ta,p1,q1⟩:=ha
 obtain⟨tb,p2,q2⟩:=hb
 exact⟨_,QF3 ho p1 p2 hm,fun G H σ ς Q S q=>dop (t:=ta) hr hs q1 q2 G H σ ς _ S (QiW q)⟩
theorem Q3(h:DE C a A)(he:∀ whole,isTrue a C.X.env whole=(do let v ← whole;standAt a.pos;holding [v] (truthy v)):=by intro _;rfl):DT C a (tVal A):=by
 obtain⟨ta,p1,q1⟩:=h
 exact⟨_,QHR p1 he,fun G H σ ς Q S q=>q1 G H σ ς _ S (QiW q)⟩
def Qdc(f g:D->D->Out D)(a b c:SD->Out D):SD->Out D:=fun ς=>a ς>>=fun x=>b ς>>=fun y=>f x y>>=fun z=>match z with
 | .bl true=>c ς>>=fun w=>g y w
 | .bl false=>.ok (.bl false)
 | _=>.stuck
theorem QC2{r r':R2}{f g:D->D->Out D}{ta tb tc:TE}(hr:DRS C r f)(hs:scal2 f)(hr':DRS C r' g)(hs':scal2 g)
 (h1:∀ G H σ ς Q,StR C G H σ ς->(A ς).post (KB C G H σ ς Q) C.XD->ta σ H Q) (h2:∀ G H σ ς Q,StR C G H σ ς->(B ς).post (KB C G H σ ς Q) C.XD->tb σ H Q)
 (h3:∀ G H σ ς Q,StR C G H σ ς->(A' ς).post (KB C G H σ ς Q) C.XD->tc σ H Q):
 ∀ G H σ ς Q,StR C G H σ ς->(Qdc f g A B A' ς).post (KD C G H σ ς Q) C.XD->QtM r r' ta tb tc σ H Q:=by
 intro G H σ ς Q S q
 unfold Qdc at q
 rw[Out.post_bind]at q
 refine h1 G H σ ς _ S (Out.post_mono q fun x k v1 H1 G1 S1 a1 b1 r1=>?_)
 rw[Out.post_bind]at k
 refine h2 G1 H1 σ ς _ S1 (Out.post_mono k fun y k2 v2 H2 G2 S2 a2 b2 r2=>?_)
 rw[Out.post_bind]at k2
 refine hr G2 H2 σ ς _ x y v1 v2 S2 (Rep.mono a2 x v1 r1) r2 ?_
 have hxy:=hs x y
 cases e:f x y with
 | exc _=>rw[e]at hxy;exact hxy
 | stuck=>rw[e]at k2;exact k2.elim
 | ok z=>
  rw[e]at k2
  refine⟨by rw[e]at hxy;exact hxy,?_⟩
  cases z with
  | bl cc=>
   refine⟨cc,rfl,?_⟩
   cases cc with
   | false=>exact iteF (KD.now (KD.later (show KD C G H σ ς Q (.bl false) from k2) (a1.trans a2) (b1.trans b2)) S2 rfl)
   | true=>
    refine iteT (h3 G2 H2 σ ς _ S2 ?_)
    have k2':(A' ς>>=fun w=>g y w).post (KD C G H σ ς Q) C.XD:=k2
    rw[Out.post_bind]at k2'
    refine Out.post_mono k2' fun w k3 v3 H3 G3 S3 a3 b3 r3=>?_
    refine hr' G3 H3 σ ς _ y w v2 v3 S3 (Rep.mono a3 y v2 r2) r3 (QfE S3 (hs' y w) ?_)
    exact Out.post_mono k3 fun d kd=>KD.later kd ((a1.trans a2).trans a3) ((b1.trans b2).trans b3)
  | _=>exact k2.elim
theorem Qu2{op op':CmpOp}{r r':R2}{f g:D->D->Out D}(ho:OpR C.X (compareOp op) r)(hr:DRS C r f)(hs:scal2 f)(ho':OpR C.X (compareOp op') r')(hr':DRS C r' g)(hs':scal2 g)
 (ha:DB C a A) (hb:DB C b B) (hc:DB C c A') (hm:lastMarks [op,op'] [b,c]=false:=by with_unfolding_all rfl):DE C (.Compare a [op,op'] [b,c] pos) (Qdc f g A B A'):=by
 obtain⟨ta,p1,q1⟩:=ha
 obtain⟨tb,p2,q2⟩:=hb
 obtain⟨tc,p3,q3⟩:=hc
 exact⟨_,QDU ho ho' p1 p2 p3 hm,QC2 hr hs hr' hs' q1 q2 q3⟩
theorem Qtw{op op':CmpOp}{r r':R2}{f g:D->D->Out D}(ho:OpR C.X (compareOp op) r)(hr:DRS C r f)(hs:scal2 f)(ho':OpR C.X (compareOp op') r')(hr':DRS C r' g)(hs':scal2 g)
 (ha:DB C a A) (hb:DB C b B) (hc:DB C c A') (hm:lastMarks [op,op'] [b,c]=false:=by with_unfolding_all rfl):DT C (.Compare a [op,op'] [b,c] pos) (tVal (Qdc f g A B A')):=by
 obtain⟨ta,p1,q1⟩:=ha
 obtain⟨tb,p2,q2⟩:=hb
 obtain⟨tc,p3,q3⟩:=hc
 exact⟨_,QDV ho ho' p1 p2 p3 hm,fun G H σ ς Q S q=>QC2 hr hs hr' hs' q1 q2 q3 G H σ ς _ S (QiW q)⟩
end
section
variable{C:Dc}
def dI(cnd:Int->Int->Bool)(g:Int->Int->D):D->D->Out D
 | .int i,.int j=>if cnd i j=true then .ok (g i j) else .stuck
 | _,_=>.stuck
def dI0(g:Int->Int->D):D->D->Out D
 | .int i,.int j=>.ok (g i j)
 | _,_=>.stuck
theorem QL{α:Type}{c:Prop}[Decidable c]{a b:Out α}{k:α->Prop}{x:D->Prop}(h:(if c then a else b).post k x):(c/\a.post k x)∨(¬ c/\b.post k x):=by
 by_cases e:c
 ·rw[if_pos e]at h;exact .inl ⟨e,h⟩
 ·rw[if_neg e]at h;exact .inr ⟨e,h⟩
theorem Qfx{c:Prop}[Decidable c]{d:D}(h:d.scal=true):match (if c then Out.ok d else Out.stuck:Out D) with | .ok d=>d.scal=true | .exc _=>False | .stuck=>True:=by
 by_cases e:c
 ·rw[if_pos e];exact h
 ·rw[if_neg e];exact True.intro
theorem Qon{cnd:Int->Int->Bool}{g:Int->Int->D}(h:∀ i j,(g i j).scal=true):scal2 (dI cnd g):=by
 intro x y
 cases x with
 | int i=>
  cases y with
  | int j=>exact Qfx (h i j)
  | _=>exact True.intro
 | _=>exact True.intro
theorem Qa3{g:Int->Int->D}(h:∀ i j,(g i j).scal=true):scal2 (dI0 g):=by
 intro x y
 cases x<;>cases y<;>simp[dI0,h]
theorem Qtt{cnd:Int->Int->Bool}{P:Int->Int->Prop}{g:Int->Int->D}(hP:∀ i j,cnd i j=true->P i j):DRS C (rI P fun i j=>toV (g i j)) (dI cnd g):=by
 intro G H σ ς Q x y vx vy S hx hy q
 cases x with
 | int i=>
  cases y with
  | int j=>
   cases hx;cases hy
   refine⟨i,j,rfl,rfl,?_⟩
   rcases QL (show(if cnd i j=true then Out.ok (g i j) else Out.stuck).post _ _ from q) with⟨hc,q⟩ | ⟨hc,q⟩
   ·exact⟨hP i j hc,q.2⟩
   ·exact q.elim
  | _=>exact q.elim
 | _=>exact q.elim
theorem Qbr{g:Int->Int->D}:DRS C (rI0 fun i j=>toV (g i j)) (dI0 g):=by
 intro G H σ ς Q x y vx vy S hx hy q
 cases x with
 | int i=>
  cases y with
  | int j=>
   cases hx;cases hy
   exact⟨i,j,rfl,rfl,q.2⟩
  | _=>exact q.elim
 | _=>exact q.elim
variable{a b c:Expr}{A B:SD->Out D}{pos:Pos}
def dSub:D->D->Out D:=dI0 fun i j=>.int (i - j)
def big(i:Int):Bool:=decide (i.natAbs<2 ^ 9000)
def dMul:D->D->Out D:=dI (fun i j=>decide (Builtin.Int.intBits i+Builtin.Int.intBits j<=134217728)) fun i j=>.int (i * j)
def dFdiv:D->D->Out D:=dI (fun i j=>decide (j≠0)&&big j) fun i j=>.int (i.fdiv j)
def dMod:D->D->Out D:=dI (fun i j=>decide (j≠0)) fun i j=>.int (i.fmod j)
theorem QEW{i:Int}(h:big i=true):i.natAbs.log2<9000:=by
 have h':i.natAbs<2 ^ 9000:=of_decide_eq_true h
 by_cases z:i.natAbs=0
 ·rw[z];decide
 ·exact(Nat.log2_lt z).mpr h'
theorem QFP{X:Cx}:OpR X (binaryOp .Mult) (rI IntMulOk fun i j=>.int (i * j)):=opI fun _ _ _ _ _ _ _ hc q=>mul_int q hc
def CDivB(i j:Int):Prop:=j≠0/\j.natAbs.log2<9000
theorem QE6{X:Cx}:OpR X (binaryOp .FloorDiv) (rI CDivB fun i j=>.int (i.fdiv j)):=opI fun _ _ _ _ _ _ _ hc q=>floordiv_int hc.1 q (.inl (PyProof.noPylong_of_log2 hc.2))
theorem Qc1(ha:DB C a A)(hb:DB C b B):DE C (.BinOp a .Sub b pos) (e2 dSub A B):=de_op QHr Qbr (Qa3 fun _ _=>rfl) ha hb
theorem Qda(ha:DB C a A)(hb:DB C b B):DE C (.BinOp a .Mult b pos) (e2 dMul A B):=de_op QFP (Qtt fun i j h=>IntMulOk.of_le (Nat.le_refl _) (Nat.le_refl _) (of_decide_eq_true h)) (Qon fun _ _=>rfl) ha hb
theorem QcL(ha:DB C a A)(hb:DB C b B):DE C (.BinOp a .FloorDiv b pos) (e2 dFdiv A B):=de_op QE6 (Qtt fun i j h=>by
 rw[Bool.and_eq_true]at h
 exact⟨of_decide_eq_true h.1,QEW h.2⟩) (Qon fun _ _=>rfl) ha hb
theorem Qap(ha:DB C a A)(hb:DB C b B):DE C (.BinOp a .Mod b pos) (e2 dMod A B):=de_op QGE (Qtt fun i j h=>of_decide_eq_true h) (Qon fun _ _=>rfl) ha hb
def dAdd:D->D->Out D
 | .int i,.int j=>.ok (.int (i+j))
 | .str x,.str y=>if x.length+y.length<=sizeLine then .ok (.str (x++y)) else .stuck
 | _,_=>.stuck
theorem QaD(ha:DB C a A)(hb:DB C b B):DE C (.BinOp a .Add b pos) (e2 dAdd A B):=by
 refine de_op (QHj.or QAn) ?_ ?_ ha hb
 ·intro G H σ ς Q x y vx vy S hx hy q
  cases x with
  | int i=>
   cases y with
   | int j=>
    cases hx;cases hy
    exact .inl ⟨i,j,rfl,rfl,q.2⟩
   | _=>exact q.elim
  | str i=>
   cases y with
   | str j=>
    cases hx;cases hy
    rcases QL (show(if i.length+j.length<=sizeLine then Out.ok (D.str (i++j)) else Out.stuck).post _ _ from q) with⟨hc,q⟩ | ⟨hc,q⟩
    ·exact .inr ⟨i,j,rfl,rfl,hc,q.2⟩
    ·exact q.elim
   | _=>exact q.elim
  | _=>exact q.elim
 ·intro x y
  cases x with
  | int i=>
   cases y with
   | int j=>exact rfl
   | _=>exact True.intro
  | str i=>
   cases y with
   | str j=>exact Qfx rfl
   | _=>exact True.intro
  | _=>exact True.intro
def dLt:D->D->Out D:=dI0 fun i j=>.bl (decide (i<j))
def dLe:D->D->Out D:=dI0 fun i j=>.bl (decide (i<=j))
def dGt:D->D->Out D:=dI0 fun i j=>.bl (decide (j<i))
def dGe:D->D->Out D:=dI0 fun i j=>.bl (decide (j<=i))
end
section
variable{C:Dc}{a b c:Expr}{A B:SD->Out D}{pos:Pos}
def dNeg:D->Out D
 | .int i=>.ok (.int (-i))
 | _=>.stuck
theorem QeX(ha:DB C a A):DE C (.UnaryOp .USub a pos) (e1 dNeg A):=by
 obtain⟨ta,p1,q1⟩:=ha
 refine⟨_,pe_un QGW p1,fun G H σ ς Q S q=>?_⟩
 unfold e1 at q
 rw[Out.post_bind]at q
 refine q1 G H σ ς _ S (Out.post_mono q fun x k v1 H1 G1 S1 a1 b1 r1=>?_)
 cases x with
 | int i=>cases r1;exact⟨i,rfl,KD.now (KD.later k a1 b1) S1 rfl⟩
 | _=>exact k.elim
variable{TA TB:SD->Out Bool}{rest:List Expr}
def tAnd'(a b:SD->Out Bool):SD->Out Bool:=fun ς=>a ς>>=fun c=>if c=true then b ς else .ok false
def tOr'(a b:SD->Out Bool):SD->Out Bool:=fun ς=>a ς>>=fun c=>if c=true then .ok true else b ς
def tNot'(a:SD->Out Bool):SD->Out Bool:=fun ς=>a ς>>=fun c=>.ok (!c)
theorem DW.dt{e:Expr}{T:SD->Out Bool}(h:DW C e T):DT C e T:=let ⟨t,p,q⟩:=h;⟨t,p.pt,q⟩
theorem QFv(ha:DT C a TA):DW C (.BoolOp .And [a] pos) TA:=let ⟨t,p,q⟩:=ha;⟨t,QFG p,q⟩
theorem QbO(ha:DT C a TA):DW C (.BoolOp .Or [a] pos) TA:=let ⟨t,p,q⟩:=ha;⟨t,QGL p,q⟩
theorem QB4(ha:DT C a TA)(hb:DW C (.BoolOp .And (b::rest) pos) TB):DW C (.BoolOp .And (a::b::rest) pos) (tAnd' TA TB):=by
 obtain⟨t1,p1,q1⟩:=ha
 obtain⟨t2,p2,q2⟩:=hb
 refine⟨_,QGQ p1 p2,fun G H σ ς Q S q=>?_⟩
 unfold tAnd' at q
 rw[Out.post_bind]at q
 refine q1 G H σ ς _ S (Out.post_mono q fun x k H1 G1 S1 a1 b1=>?_)
 cases x with
 | true=>exact iteT (q2 G1 H1 σ ς _ S1 (Out.post_mono (show(TB ς).post _ _ from k) fun x k=>KT.later k a1 b1))
 | false=>exact iteF (KT.now (KT.later (show KT C G H σ ς Q false from k) a1 b1) S1)
theorem dw_or(ha:DT C a TA)(hb:DW C (.BoolOp .Or (b::rest) pos) TB):DW C (.BoolOp .Or (a::b::rest) pos) (tOr' TA TB):=by
 obtain⟨t1,p1,q1⟩:=ha
 obtain⟨t2,p2,q2⟩:=hb
 refine⟨_,pw_or p1 p2,fun G H σ ς Q S q=>?_⟩
 unfold tOr' at q
 rw[Out.post_bind]at q
 refine q1 G H σ ς _ S (Out.post_mono q fun x k H1 G1 S1 a1 b1=>?_)
 cases x with
 | true=>exact iteT (KT.now (KT.later (show KT C G H σ ς Q true from k) a1 b1) S1)
 | false=>exact iteF (q2 G1 H1 σ ς _ S1 (Out.post_mono (show(TB ς).post _ _ from k) fun x k=>KT.later k a1 b1))
theorem QY(ha:DT C a TA):DT C (.UnaryOp .Not a pos) (tNot' TA):=by
 obtain⟨t1,p1,q1⟩:=ha
 refine⟨_,QGV p1,fun G H σ ς Q S q=>?_⟩
 unfold tNot' at q
 rw[Out.post_bind]at q
 exact q1 G H σ ς _ S (Out.post_mono q fun x k H1 G1 S1 a1 b1=>k H1 G1 S1 a1 b1)
def eAnd(a b:SD->Out D):SD->Out D:=fun ς=>a ς>>=fun d=>match d with | .bl true=>b ς | .bl false=>.ok (.bl false) | _=>.stuck
def eOr(a b:SD->Out D):SD->Out D:=fun ς=>a ς>>=fun d=>match d with | .bl true=>.ok (.bl true) | .bl false=>b ς | _=>.stuck
def eNot(a:SD->Out D):SD->Out D:=fun ς=>a ς>>=fun d=>match d with | .bl c=>.ok (.bl (!c)) | _=>.stuck
theorem Qdw{op}(h:DE C a A):DE C (.BoolOp op [a] pos) A:=let ⟨t,p,q⟩:=h;⟨t,QGJ p,q⟩
theorem Qcm(ha:DE C a A)(hb:DE C (.BoolOp .And (b::rest) pos) B):DE C (.BoolOp .And (a::b::rest) pos) (eAnd A B):=by
 obtain⟨t1,p1,q1⟩:=ha
 obtain⟨t2,p2,q2⟩:=hb
 refine⟨_,QG4 p1 p2,fun G H σ ς Q S q=>?_⟩
 unfold eAnd at q
 rw[Out.post_bind]at q
 refine q1 G H σ ς _ S (Out.post_mono q fun x k v1 H1 G1 S1 a1 b1 r1=>?_)
 cases x with
 | bl c=>
  refine⟨c,r1,?_⟩
  cases c with
  | true=>exact iteT (q2 G1 H1 σ ς _ S1 (Out.post_mono (show(B ς).post _ _ from k) fun x k=>KD.later k a1 b1))
  | false=>exact iteF (KD.now (KD.later (show KD C G H σ ς Q (.bl false) from k) a1 b1) S1 rfl)
 | _=>exact k.elim
theorem QBZ(ha:DE C a A):DE C (.UnaryOp .Not a pos) (eNot A):=by
 obtain⟨t1,p1,q1⟩:=ha
 refine⟨_,QG8 p1,fun G H σ ς Q S q=>?_⟩
 unfold eNot at q
 rw[Out.post_bind]at q
 refine q1 G H σ ς _ S (Out.post_mono q fun x k v1 H1 G1 S1 a1 b1 r1=>?_)
 cases x with
 | bl c=>exact⟨c,r1,KD.now (KD.later (show KD C G H σ ς Q (.bl (!c)) from k) a1 b1) S1 rfl⟩
 | _=>exact k.elim
def eIf(t:SD->Out Bool)(a b:SD->Out D):SD->Out D:=fun ς=>t ς>>=fun c=>if c=true then a ς else b ς
theorem de_if{t:Expr}(ht:DT C t TA)(ha:DE C a A)(hb:DE C b B):DE C (.IfExp t a b pos) (eIf TA A B):=by
 obtain⟨t0,p0,q0⟩:=ht
 obtain⟨t1,p1,q1⟩:=ha
 obtain⟨t2,p2,q2⟩:=hb
 refine⟨_,QEZ p0 p1 p2,fun G H σ ς Q S q=>?_⟩
 unfold eIf at q
 rw[Out.post_bind]at q
 refine q0 G H σ ς _ S (Out.post_mono q fun x k H1 G1 S1 a1 b1=>?_)
 cases x with
 | true=>exact iteT (q1 G1 H1 σ ς _ S1 (Out.post_mono (show(A ς).post _ _ from k) fun x k=>KD.later k a1 b1))
 | false=>exact iteF (q2 G1 H1 σ ς _ S1 (Out.post_mono (show(B ς).post _ _ from k) fun x k=>KD.later k a1 b1))
end
end DL
namespace DL
open PySem PySem.Spec PyProof.Rows L2
def aNil:SD->Out (List D):=fun _=>.ok []
def aCons(a:SD->Out D)(r:SD->Out (List D)):SD->Out (List D):=fun ς=>a ς>>=fun x=>r ς>>=fun xs=>.ok (x::xs)
section
variable{C:Dc}{e:Expr}{es:List Expr}{E:SD->Out D}{A:SD->Out (List D)}{pos:Pos}
theorem Qi:DA C [] aNil:=⟨_,QbT,fun G H σ ς Q S q=>q [] H G S (Same.refl H) (Same.refl G) rfl⟩
theorem Qv:DAB C [] aNil:=⟨_,QbT,fun G H σ ς Q S q=>q [] H G S (Same.refl H) (Same.refl G) rfl⟩
theorem Qc(ha:DE C e E)(hr:DA C es A)(hs:starEach (e::es) C.X.env=(false,eval e C.X.env)::starEach es C.X.env:=by rfl):DA C (e::es) (aCons E A):=by
 obtain⟨t1,p1,q1⟩:=ha
 obtain⟨t2,p2,q2⟩:=hr
 refine⟨_,Qax p1 p2 hs,fun G H σ ς Q S q=>?_⟩
 unfold aCons at q
 rw[Out.post_bind]at q
 refine q1 G H σ ς _ S (Out.post_mono q fun x k v1 H1 G1 S1 a1 b1 r1=>?_)
 rw[Out.post_bind]at k
 refine q2 G1 H1 σ ς _ S1 (Out.post_mono k fun xs k2 vs H2 G2 S2 a2 b2 r2=>?_)
 exact k2 (v1::vs) H2 G2 S2 (a1.trans a2) (b1.trans b2) ⟨v1,vs,rfl,Rep.mono b2 x v1 r1,r2⟩
theorem Qo(ha:DB C e E)(hr:DAB C es A)(hs:starEach (e::es) C.X.env=(false,eval e C.X.env)::starEach es C.X.env:=by rfl):DAB C (e::es) (aCons E A):=by
 obtain⟨t1,p1,q1⟩:=ha
 obtain⟨t2,p2,q2⟩:=hr
 refine⟨_,Qax p1 p2 hs,fun G H σ ς Q S q=>?_⟩
 unfold aCons at q
 rw[Out.post_bind]at q
 refine q1 G H σ ς _ S (Out.post_mono q fun x k v1 H1 G1 S1 a1 b1 r1=>?_)
 rw[Out.post_bind]at k
 refine q2 G1 H1 σ ς _ S1 (Out.post_mono k fun xs k2 vs H2 G2 S2 a2 b2 r2=>?_)
 exact k2 (v1::vs) H2 G2 S2 (a1.trans a2) (b1.trans b2) ⟨v1,vs,rfl,Rep.mono a2 x v1 r1,r2⟩
def fits(n:Nat):Bool:=decide (n<=sizeLine)
def eTup(a:SD->Out (List D)):SD->Out D:=fun ς=>a ς>>=fun xs=>if fits xs.length=true then .ok (.tup xs) else .stuck
def eLst(a:SD->Out (List D)):SD->Out D:=fun ς=>a ς>>=fun xs=>if fits xs.length=true then .ok (.lst xs) else .stuck
theorem Qiz{x1}(h:DA C es A):DE C (.Tuple es x1 pos) (eTup A):=by
 obtain⟨t,p,q⟩:=h
 refine⟨_,Qsf p,fun G H σ ς Q S k=>?_⟩
 unfold eTup at k
 rw[Out.post_bind]at k
 refine q G H σ ς _ S (Out.post_mono k fun xs k2 vs H1 G1 S1 a1 b1 r1=>?_)
 rcases QL k2 with⟨hc,k3⟩ | ⟨_,k3⟩
 ·exact⟨by rw[← r1.length];exact of_decide_eq_true hc,KD.tup (KD.later k3 a1 b1) S1 r1⟩
 ·exact k3.elim
theorem QaO(h:DA C es A):DF C (.List es pos) (eLst A):=by
 obtain⟨t,p,q⟩:=h
 refine⟨_,QHE p,fun G H σ ς Q S k=>?_⟩
 unfold eLst at k
 rw[Out.post_bind]at k
 refine q G H σ ς _ S (Out.post_mono k fun xs k2 vs H1 G1 S1 a1 b1 r1=>?_)
 rcases QL k2 with⟨hc,k3⟩ | ⟨_,k3⟩
 ·exact⟨by rw[← r1.length];exact of_decide_eq_true hc,KF.lst (KF.later k3 a1 b1) S1 r1⟩
 ·exact k3.elim
end
theorem Qhc{K:W.Frag}{CT:CTab}{H:Hp}{ds:List D}{vs:List V}{i:Int}{d:D}(r:RepL K CT H ds vs)(h:atI ds i=some d):∃ v,atI vs i=some v/\Rep K CT H d v:=by
 unfold atI at h ⊢
 rw[← r.length]
 cases e:ixN ds.length i with
 | none=>rw[e]at h;cases h
 | some j=>
  rw[e]at h
  exact r.get h
def optO{α:Type}:Option α->Out α
 | some a=>.ok a
 | none=>.stuck
theorem Qb1{α:Type}{o:Option α}{k:α->Prop}{x:D->Prop}(h:(optO o).post k x):∃ a,o=some a/\k a:=by
 cases o with
 | none=>exact h.elim
 | some a=>exact⟨a,rfl,h⟩
def dIx:D->D->Out D
 | .lst xs,.int i=>optO (atI xs i)
 | .tup xs,.int i=>optO (atI xs i)
 | .str x,.int i=>if fits x.length=true then optO ((atI x.cps.toList i).map fun c=>D.str ⟨#[c]⟩) else .stuck
 | _,_=>.stuck
section
variable{C:Dc}{a b:Expr}{A B:SD->Out D}{pos:Pos}
theorem QHw{R:Hp->Hp}{G H:Hp}{σ:St}{ς:SD}{Q:VK}{x y:D}{vx vy:V}{k:D->Prop}(hx:Rep C.X.K C.CT H x vx)(hy:Rep C.X.K C.CT H y vy)
 (q:(dIx x y).post k C.XD) (hk:∀ d v,k d->Rep C.X.K C.CT H d v->Q v H):rIx C.X.K vx vy H Q:=by
 cases y with
 | int i=>
  cases hy
  cases x with
  | lst xs=>
   obtain⟨p,vs,rfl,h2,h3⟩:=hx
   obtain⟨d,e,kd⟩:=Qb1 q
   obtain⟨v,e2,r⟩:=Qhc h3 e
   exact .inl ⟨p,vs,i,v,rfl,rfl,h2,e2,hk d v kd r⟩
  | tup xs=>
   obtain⟨p,vs,rfl,h2,h3⟩:=hx
   obtain⟨d,e,kd⟩:=Qb1 q
   obtain⟨v,e2,r⟩:=Qhc h3 e
   exact .inr (.inl ⟨p,vs,i,v,rfl,rfl,h2,e2,hk d v kd r⟩)
  | str z=>
   cases hx
   rcases QL (show(if fits z.length=true then optO ((atI z.cps.toList i).map fun c=>D.str ⟨#[c]⟩) else .stuck).post k C.XD from q) with⟨hc,q⟩ | ⟨_,q⟩
   ·obtain⟨d,e,kd⟩:=Qb1 q
    cases e3:atI z.cps.toList i with
    | none=>rw[e3]at e;cases e
    | some c=>
     rw[e3]at e
     cases e
     exact .inr (.inr ⟨z,i,c,rfl,rfl,of_decide_eq_true hc,e3,hk _ _ kd rfl⟩)
   ·exact q.elim
  | _=>exact q.elim
 | _=>cases x<;>exact q.elim
theorem db_ix(ha:DB C a A)(hb:DB C b B)(hs:QjR b:=by intro _ _;rfl):DB C (.Subscript a b pos) (e2 dIx A B):=by
 obtain⟨ta,p1,q1⟩:=ha
 obtain⟨tb,p2,q2⟩:=hb
 refine⟨_,pe_ix QtO p1 p2 hs,fun G H σ ς Q S q=>?_⟩
 unfold e2 at q
 rw[Out.post_bind]at q
 refine q1 G H σ ς _ S (Out.post_mono q fun x k v1 H1 G1 S1 a1 b1 r1=>?_)
 rw[Out.post_bind]at k
 refine q2 G1 H1 σ ς _ S1 (Out.post_mono k fun y k2 v2 H2 G2 S2 a2 b2 r2=>?_)
 exact QHw (R:=id) (G:=G2) (σ:=σ) (ς:=ς) (Rep.mono a2 x v1 r1) r2 k2 fun d v kd r=>KB.now (KB.later kd (a1.trans a2) (b1.trans b2)) S2 r
theorem de_ix(ha:DE C a A)(hb:DB C b B)(hs:QjR b:=by intro _ _;rfl):DE C (.Subscript a b pos) (e2 dIx A B):=by
 obtain⟨ta,p1,q1⟩:=ha
 obtain⟨tb,p2,q2⟩:=hb
 refine⟨_,pe_ix QtO p1 p2 hs,fun G H σ ς Q S q=>?_⟩
 unfold e2 at q
 rw[Out.post_bind]at q
 refine q1 G H σ ς _ S (Out.post_mono q fun x k v1 H1 G1 S1 a1 b1 r1=>?_)
 rw[Out.post_bind]at k
 refine q2 G1 H1 σ ς _ S1 (Out.post_mono k fun y k2 v2 H2 G2 S2 a2 b2 r2=>?_)
 have r1':=Rep.mono b2 x v1 r1
 cases y with
 | int i=>
  cases r2
  cases x with
  | lst xs=>
   obtain⟨p,vs,rfl,h2,h3⟩:=r1'
   obtain⟨d,e,kd⟩:=Qb1 k2
   obtain⟨v,e2,r⟩:=Qhc h3 e
   exact .inl ⟨p,vs,i,v,rfl,rfl,S2.sub.seq h2,e2,KD.now (KD.later kd (a1.trans a2) (b1.trans b2)) S2 r⟩
  | tup xs=>
   obtain⟨p,vs,rfl,h2,h3⟩:=r1'
   obtain⟨d,e,kd⟩:=Qb1 k2
   obtain⟨v,e2,r⟩:=Qhc h3 e
   exact .inr (.inl ⟨p,vs,i,v,rfl,rfl,Same.sqT S2.sub h2,e2,KD.now (KD.later kd (a1.trans a2) (b1.trans b2)) S2 r⟩)
  | str z=>
   cases r1'
   rcases QL (show(if fits z.length=true then optO ((atI z.cps.toList i).map fun c=>D.str ⟨#[c]⟩) else .stuck).post _ C.XD from k2) with⟨hc,q⟩ | ⟨_,q⟩
   ·obtain⟨d,e,kd⟩:=Qb1 q
    cases e3:atI z.cps.toList i with
    | none=>rw[e3]at e;cases e
    | some c=>
     rw[e3]at e
     cases e
     exact .inr (.inr ⟨z,i,c,rfl,rfl,of_decide_eq_true hc,e3,KD.now (KD.later kd (a1.trans a2) (b1.trans b2)) S2 rfl⟩)
   ·exact q.elim
  | _=>exact k2.elim
 | _=>cases x<;>exact k2.elim
end
def cutD{α:Type}(xs:List α)(lo hi:Option Int):List α:=(xs.drop (HT.sIx xs.length 0 lo)).take (HT.sIx xs.length xs.length hi - HT.sIx xs.length 0 lo)
theorem QFU{K:W.Frag}{CT:CTab}{H:Hp}{ds:List D}{vs:List V}(lo hi:Option Int)(r:RepL K CT H ds vs):RepL K CT H (cutD ds lo hi) (cutV vs lo hi):=by
 unfold cutD cutV
 rw[r.length]
 exact(r.drop _).take _
def oNo:SD->Out (Option Int):=fun _=>.ok none
def oSome(e:SD->Out D):SD->Out (Option Int):=fun ς=>e ς>>=fun d=>match d with | .int i=>.ok (some i) | _=>.stuck
def DO(C:Dc)(e:Option Expr)(T:SD->Out (Option Int)):Prop:=∃ t,PO C.X e t/\∀ G H σ ς Q,StR C G H σ ς->(T ς).post (fun o=>∀ H' G',StR C G' H' σ ς->Same H H'->Same G G'->Q o H') C.XD->t σ H Q
section
variable{C:Dc}{a b:Expr}{A B:SD->Out D}{lo hi:Option Expr}{L U:SD->Out (Option Int)}{pos p2:Pos}
theorem QGq:DO C none oNo:=⟨_,QFd,fun G H σ ς Q S q=>q H G S (Same.refl H) (Same.refl G)⟩
theorem QgZ(h:DB C a A):DO C (some a) (oSome A):=by
 obtain⟨t,p,q⟩:=h
 refine⟨_,QGF p,fun G H σ ς Q S k=>?_⟩
 unfold oSome at k
 rw[Out.post_bind]at k
 refine q G H σ ς _ S (Out.post_mono k fun x k2 v1 H1 G1 S1 a1 b1 r1=>?_)
 cases x with
 | int i=>cases r1;exact⟨i,rfl,k2 H1 G1 S1 a1 b1⟩
 | _=>exact k2.elim
def eSl(a:SD->Out D)(l u:SD->Out (Option Int)):SD->Out D:=fun ς=>a ς>>=fun x=>l ς>>=fun i=>u ς>>=fun j=>match x with
 | .lst xs=>.ok (.lst (cutD xs i j))
 | _=>.stuck
theorem df_sl(ha:DE C a A)(hl:DO C lo L)(hu:DO C hi U):DF C (.Subscript a (.Slice lo hi none p2) pos) (eSl A L U):=by
 obtain⟨ta,p1,q1⟩:=ha
 obtain⟨tl,p3,q3⟩:=hl
 obtain⟨tu,p4,q4⟩:=hu
 refine⟨_,QEn QFD p1 p3 p4,fun G H σ ς Q S q=>?_⟩
 unfold eSl at q
 rw[Out.post_bind]at q
 refine q1 G H σ ς _ S (Out.post_mono q fun x k v1 H1 G1 S1 a1 b1 r1=>?_)
 rw[Out.post_bind]at k
 refine q3 G1 H1 σ ς _ S1 (Out.post_mono k fun i k2 H2 G2 S2 a2 b2=>?_)
 rw[Out.post_bind]at k2
 refine q4 G2 H2 σ ς _ S2 (Out.post_mono k2 fun j k3 H3 G3 S3 a3 b3=>?_)
 cases x with
 | lst xs=>
  obtain⟨p,vs,rfl,h2,h3⟩:=Rep.mono (b2.trans b3) _ v1 r1
  exact⟨p,vs,rfl,S3.sub.seq h2,KF.lst (KF.later (show KF C G H σ ς Q (.lst (cutD xs i j)) from k3) ((a1.trans a2).trans a3) ((b1.trans b2).trans b3)) S3 (QFU i j h3)⟩
 | _=>exact k3.elim
end
section
variable{C:Dc}{x:Str}{p pos:Pos}{e:Expr}{es:List Expr}{A:SD->Out (List D)}{id T:String}
def eA(f:List D->Out D)(a:SD->Out (List D)):SD->Out D:=fun ς=>a ς>>=f
def DCS(C:Dc)(r:List V->Hp->VK->Prop)(f:List D->Out D):Prop:=∀ G H σ ς (Q:VK) xs vs,StR C G H σ ς->RepL C.X.K C.CT H xs vs->
 (f xs).post (fun d=>d.scal=true/\Q (toV d) H) (fun _=>False)->r vs H Q
def scalA(f:List D->Out D):Prop:=∀ xs,match f xs with | .ok d=>d.scal=true | .exc _=>False | .stuck=>True
theorem dcall{r:List V->Hp->VK->Prop}{f:List D->Out D}{t:TA}(hr:DCS C r f)(hs:scalA f)
 (h:∀ G H σ ς Q,StR C G H σ ς->(A ς).post (fun ds=>∀ vs H' G',StR C G' H' σ ς->Same H H'->Same G G'->RepL C.X.K C.CT H' ds vs->Q vs H') C.XD->t σ H Q):
 ∀ G H σ ς Q,StR C G H σ ς->(eA f A ς).post (KD C G H σ ς Q) C.XD->tCB r t σ H Q:=by
 intro G H σ ς Q S q
 unfold eA at q
 rw[Out.post_bind]at q
 refine h G H σ ς _ S (Out.post_mono q fun ds k vs H1 G1 S1 a1 b1 r1=>?_)
 exact hr G1 H1 σ ς Q ds vs S1 r1 (QfE S1 (hs ds) (Out.post_mono k fun d kd=>KD.later kd a1 b1))
theorem QhJ{r:List V->Hp->VK->Prop}{f:List D->Out D}(hc:CallR C.X (.builtin id) r)(hr:DCS C r f)(hs:scalA f)(hg:Gl C.X x)(hm:C.X.mg x=none)(hv:bootBuiltins x=some (.builtin id))(ha:DAB C (e::es) A)(hn:x≠"__name__":=by decide)(hdb:(x == ("__debug__":Str))=false:=by decide)
 (he:starEach (e::es) C.X.env=(false,eval e C.X.env)::starEach es C.X.env:=by rfl) (hpl:(backTo pos (starEach es C.X.env)).any (·.1)=false:=by rfl):DE C (.Call (.Name x p) (e::es) [] pos) (eA f A):=by
 obtain⟨t,p1,q1⟩:=ha
 exact⟨_,Qla hc hg hm hv p1 hn hdb he hpl,dcall hr hs q1⟩
theorem QDP{r:List V->Hp->VK->Prop}{f:List D->Out D}(hc:CallR C.X (.type T) r)(hr:DCS C r f)(hs:scalA f)(hg:Gl C.X x)(hm:C.X.mg x=none)(hv:bootBuiltins x=some (.type T))(ha:DAB C (e::es) A)(hn:x≠"__name__":=by decide)(hdb:(x == ("__debug__":Str))=false:=by decide)
 (he:starEach (e::es) C.X.env=(false,eval e C.X.env)::starEach es C.X.env:=by rfl) (hpl:(backTo pos (starEach es C.X.env)).any (·.1)=false:=by rfl):DE C (.Call (.Name x p) (e::es) [] pos) (eA f A):=by
 obtain⟨t,p1,q1⟩:=ha
 exact⟨_,Qpr hc hg hm hv p1 hn hdb he hpl,dcall hr hs q1⟩
def fLen:List D->Out D
 | [.lst xs]=>.ok (.int xs.length)
 | [.tup xs]=>.ok (.int xs.length)
 | [.str x]=>if fits x.length=true then .ok (.int x.length) else .stuck
 | _=>.stuck
theorem QFI:DCS C (fun xs H Q=>(∃ p ys,xs=[.ref p]/\(SqL C.X.K H p ys∨SqT C.X.K H p ys)/\Q (.int ys.length) H)∨∃ z,xs=[.str z]/\z.length<=sizeLine/\Q (.int z.length) H) fLen:=by
 intro G H σ ς Q xs vs S r q
 cases xs with
 | nil=>exact q.elim
 | cons x xr=>
  obtain⟨v,vr,rfl,r1,r2⟩:=r
  cases xr with
  | cons y yr=>cases x<;>exact q.elim
  | nil=>
   cases r2
   cases x with
   | lst ys=>
    obtain⟨p,us,rfl,h2,h3⟩:=r1
    exact .inl ⟨p,us,rfl,.inl h2,by rw[← h3.length];exact q.2⟩
   | tup ys=>
    obtain⟨p,us,rfl,h2,h3⟩:=r1
    exact .inl ⟨p,us,rfl,.inr h2,by rw[← h3.length];exact q.2⟩
   | str z=>
    cases r1
    rcases QL (show(if fits z.length=true then Out.ok (D.int z.length) else .stuck).post _ _ from q) with⟨hc,q⟩ | ⟨_,q⟩
    ·exact .inr ⟨z,rfl,of_decide_eq_true hc,q.2⟩
    ·exact q.elim
   | _=>exact q.elim
theorem QDT:scalA fLen:=by
 intro xs
 cases xs with
 | nil=>exact True.intro
 | cons x xr=>
  cases xr with
  | cons y yr=>cases x<;>exact True.intro
  | nil=>
   cases x with
   | lst ys=>exact rfl
   | tup ys=>exact rfl
   | str z=>exact Qfx rfl
   | _=>exact True.intro
theorem QT(hg:Gl C.X "len")(hm:C.X.mg "len"=none)(ha:DAB C (e::es) A)
 (he:starEach (e::es) C.X.env=(false,eval e C.X.env)::starEach es C.X.env:=by rfl) (hpl:(backTo pos (starEach es C.X.env)).any (·.1)=false:=by rfl):DE C (.Call (.Name "len" p) (e::es) [] pos) (eA fLen A):=
 QhJ (Qus.or QrP) QFI QDT hg hm PySem.boot_len ha (by decide) (by decide) he hpl
def f1(g:D->Out D):List D->Out D
 | [x]=>g x
 | _=>.stuck
theorem QjS{g:D->Out D}(h:∀ x,match g x with | .ok d=>d.scal=true | .exc _=>False | .stuck=>True):scalA (f1 g):=by
 intro xs
 match xs with
 | []=>exact True.intro
 | [x]=>exact h x
 | _::_::_=>exact True.intro
def dAbs:D->Out D
 | .int i=>.ok (.int (if i<0 then -i else i))
 | _=>.stuck
theorem Qmu{r:List V->Hp->VK->Prop}{g:D->Out D}(h:∀ G H σ ς (Q:VK) x v,StR C G H σ ς->Rep C.X.K C.CT H x v->(g x).post (fun d=>d.scal=true/\Q (toV d) H) (fun _=>False)->r [v] H Q):DCS C r (f1 g):=by
 intro G H σ ς Q xs vs S r q
 match xs,r with
 | [],_=>exact q.elim
 | [x],⟨v,vr,e1,r1,r2⟩=>cases r2;subst e1;exact h G H σ ς Q x v S r1 q
 | _::_::_,_=>exact q.elim
theorem QuI(hg:Gl C.X "abs")(hm:C.X.mg "abs"=none)(hv:bootBuiltins "abs"=some (.builtin "abs"))(ha:DAB C (e::es) A)
 (he:starEach (e::es) C.X.env=(false,eval e C.X.env)::starEach es C.X.env:=by rfl) (hpl:(backTo pos (starEach es C.X.env)).any (·.1)=false:=by rfl):DE C (.Call (.Name "abs" p) (e::es) [] pos) (eA (f1 dAbs) A):=by
 refine QhJ QD4 (Qmu ?_) (QjS ?_) hg hm hv ha (by decide) (by decide) he hpl
 ·intro G H σ ς Q x v S r q
  cases x with
  | int i=>cases r;exact⟨i,rfl,q.2⟩
  | _=>exact q.elim
 ·intro x
  cases x<;>first | exact rfl | exact True.intro
end
mutual
def D.py:D->PyData
 | .non=>.none
 | .bl b=>.bool b
 | .int i=>.int i
 | .str x=>.str x
 | .lst xs=>.list (D.pys xs)
 | .tup xs=>.tuple (D.pys xs)
 | .dic _=>.dict []
 | .ins _ _=>.dict []
 | .err _=>.dict []
def D.pys:List D->List PyData
 | []=>[]
 | x::xs=>D.py x::D.pys xs
end
section
variable{X:Cx}{pins:List (Addr×Obj)}{σ:L2.St}{H:Hp}{s:Shared}{CT:CTab}
mutual
theorem Qfy(I:Inv X pins σ H s):∀(d:D)(v:V)(u:Value),Rep X.K CT H d v->RelV v u->d.py.canLay0=true->∃ as,Reads s.heap u d.py as
 | .non,_,_,h,r,_=>by cases h;cases r;exact⟨_,.none⟩
 | .bl b,_,_,h,r,_=>by cases h;cases r;exact⟨_,.bool b⟩
 | .int i,_,_,h,r,_=>by cases h;obtain⟨t,rfl⟩:=r;exact⟨_,.int i t⟩
 | .str x,_,_,h,r,_=>by cases h;obtain⟨t,rfl⟩:=r;exact⟨_,.str x t⟩
 | .lst ds,_,_,⟨a,vs,h1,h2,h3⟩,r,c=>by
  subst h1;cases r
  obtain⟨its,q,⟨o,n,ho,hc,_,hd⟩,_⟩:=I.list h2
  obtain⟨as,ra⟩:=Qjj I ds vs its h3 q (by simpa [D.py,PyData.canLay0] using c)
  exact⟨_,.list ho hc hd (by simpa using ra)⟩
 | .tup ds,_,_,⟨a,vs,h1,h2,h3⟩,r,c=>by
  subst h1;cases r
  obtain⟨its,q,⟨o,ho,hc,n,hd⟩,_⟩:=I.tuple h2
  obtain⟨as,ra⟩:=Qjj I ds vs its h3 q (by simpa [D.py,PyData.canLay0] using c)
  exact⟨_,.tuple ho hc hd (by simpa using ra)⟩
 | .dic _,_,_,_,_,c=>by simp[D.py,PyData.canLay0]at c
 | .ins _ _,_,_,_,_,c=>by simp[D.py,PyData.canLay0]at c
 | .err _,_,_,_,_,c=>by simp[D.py,PyData.canLay0]at c
theorem Qjj(I:Inv X pins σ H s):∀(ds:List D)(vs:List V)(us:List Value),RepL X.K CT H ds vs->Vals vs us->PyData.canLayAll0 (D.pys ds)=true->∃ as,ReadsAll s.heap us (D.pys ds) as
 | [],_,_,h,r,_=>by cases h;cases r;exact⟨_,.nil⟩
 | d::ds,_,_,⟨v,w,h1,h2,h3⟩,r,c=>by
  subst h1
  cases r with
  | cons r1 r2=>
   have c':d.py.canLay0=true/\PyData.canLayAll0 (D.pys ds)=true:=by simpa [D.pys,PyData.canLayAll0] using c
   obtain⟨as,q1⟩:=Qfy I d v _ h2 r1 c'.1
   obtain⟨bs,q2⟩:=Qjj I ds w _ h3 r2 c'.2
   exact⟨_,.cons q1 q2⟩
end
end
def shp(d:D):Bool:=SeqAt.shaped d.py
def dEq(x y:D):Out D:=if (shp x&&shp y)=true then .ok (.bl (PyData.eqv x.py y.py)) else .stuck
def dNe(x y:D):Out D:=if (shp x&&shp y)=true then .ok (.bl (!PyData.eqv x.py y.py)) else .stuck
section
variable{C:Dc}{a b:Expr}{A B:SD->Out D}{pos:Pos}
def rEqD(C:Dc)(n:Bool):R2:=fun vx vy H Q=>∃ x y,Rep C.X.K C.CT H x vx/\Rep C.X.K C.CT H y vy/\shp x=true/\shp y=true/\Q (.bl (n != PyData.eqv x.py y.py)) H
theorem QDa(hu:C.X.A.units+64<cLine):OpR C.X (compareOp .Eq) (rEqD C false):=by
 intro pins s σ H vx vy u w Q I rx ry h
 obtain⟨x,y,h1,h2,h3,h4,q⟩:=h
 obtain⟨as,ra⟩:=Qfy I x vx u h1 rx (SeqAt.canLay_of_shaped h3)
 obtain⟨bs,rb⟩:=Qfy I y vy w h2 ry (SeqAt.canLay_of_shaped h4)
 exact eq_dataH ra rb h3 h4 hu ⟨.bl _,H,I,rfl,by simpa using q⟩
theorem QGN(hu:C.X.A.units+64<cLine):OpR C.X (compareOp .NotEq) (rEqD C true):=by
 intro pins s σ H vx vy u w Q I rx ry h
 obtain⟨x,y,h1,h2,h3,h4,q⟩:=h
 obtain⟨as,ra⟩:=Qfy I x vx u h1 rx (SeqAt.canLay_of_shaped h3)
 obtain⟨bs,rb⟩:=Qfy I y vy w h2 ry (SeqAt.canLay_of_shaped h4)
 exact ne_dataH ra rb h3 h4 hu ⟨.bl _,H,I,rfl,by simpa using q⟩
theorem QCt:DRS C (rEqD C false) dEq:=by
 intro G H σ ς Q x y vx vy S hx hy q
 rcases QL q with⟨hc,q⟩ | ⟨_,q⟩
 ·rw[Bool.and_eq_true]at hc
  exact⟨x,y,hx,hy,hc.1,hc.2,by simpa [toV] using q.2⟩
 ·exact q.elim
theorem QHi:DRS C (rEqD C true) dNe:=by
 intro G H σ ς Q x y vx vy S hx hy q
 rcases QL q with⟨hc,q⟩ | ⟨_,q⟩
 ·rw[Bool.and_eq_true]at hc
  exact⟨x,y,hx,hy,hc.1,hc.2,by simpa [toV] using q.2⟩
 ·exact q.elim
theorem QzC:scal2 dEq:=fun x y=>Qfx rfl
theorem QFT:scal2 dNe:=fun x y=>Qfx rfl
theorem de_le(ha:DB C a A)(hb:DB C b B):DE C (.Compare a [.LtE] [b] pos) (e2 dLe A B):=Qix op_le Qbr (Qa3 fun _ _=>rfl) ha hb (QfL _)
theorem de_gt(ha:DB C a A)(hb:DB C b B):DE C (.Compare a [.Gt] [b] pos) (e2 dGt A B):=Qix op_gt Qbr (Qa3 fun _ _=>rfl) ha hb (QfL _)
theorem dt_lt(ha:DB C a A)(hb:DB C b B):DT C (.Compare a [.Lt] [b] pos) (tVal (e2 dLt A B)):=QlE op_lt Qbr (Qa3 fun _ _=>rfl) ha hb (QfL _)
theorem dt_gt(ha:DB C a A)(hb:DB C b B):DT C (.Compare a [.Gt] [b] pos) (tVal (e2 dGt A B)):=QlE op_gt Qbr (Qa3 fun _ _=>rfl) ha hb (QfL _)
theorem de_eq(hu:C.X.A.units+64<cLine)(ha:DB C a A)(hb:DB C b B):DE C (.Compare a [.Eq] [b] pos) (e2 dEq A B):=Qix (QDa hu) QCt QzC ha hb (QfL _)
theorem dt_eq(hu:C.X.A.units+64<cLine)(ha:DB C a A)(hb:DB C b B):DT C (.Compare a [.Eq] [b] pos) (tVal (e2 dEq A B)):=QlE (QDa hu) QCt QzC ha hb (QfL _)
theorem dt_ne(hu:C.X.A.units+64<cLine)(ha:DB C a A)(hb:DB C b B):DT C (.Compare a [.NotEq] [b] pos) (tVal (e2 dNe A B)):=QlE (QGN hu) QHi QFT ha hb (QfL _)
end
end DL
namespace DL
open PySem PySem.Spec PyProof.Rows L2
section
variable{C:Dc}{a b:Expr}{A B:SD->Out D}{pos:Pos}
end
def Q9:D->String
 | .non=>"NoneType"
 | .bl _=>"bool"
 | .int _=>"int"
 | .str _=>"str"
 | .lst _=>"list"
 | .tup _=>"tuple"
 | .dic _=>"dict"
 | .ins _ _=>"object"
 | .err _=>"object"
structure ClsD(K:W.Frag)(A:Addr):Prop where
 cl:Cls K A
 ha:W.findIn K (.ref A) "__class__"=some (some (.builtin "object.__class__"))
 hn:W.specialIn K (.builtin "object.__class__") "__get__"=some (some (.builtin "getset_descriptor.__get__"))
 htk:W.takesIn K (.builtin "object.__class__")=some true
 hm:W.mroIn K A (.type "object")=some true
def KitD(K:W.Frag)(CT:CTab)(d:D)(uc:Value)(b:Bool):Prop:=match d with
 | .ins c _=>∀ A,CT c=some A->ClsD K A/\W.kitOne K (.ref A) uc=some b
 | .err c=>∀ A,CT c=some A->ExCls K A/\W.kitOne K (.ref A) uc=some b
 | d=>W.kitOne K (.type (Q9 d)) uc=some b
section
variable{C:Dc}{e cx:Expr}{E:SD->Out D}{p pos:Pos}{vc:V}{uc:Value}
theorem QF6{pins:List (Addr×Obj)}{σ:L2.St}{H:Hp}{s:Shared}{A:Around}{Ex:Value->Shared->Prop}{Q:Value->Shared->Prop}{d:D}{v:V}{u:Value}{b:Bool}(I:Inv C.X pins σ H s)(h:Rep C.X.K C.CT H d v)(r:RelV v u)(k:KitD C.X.K C.CT d uc b)
 (q:∀ tk,Q (.bool b) { s with toks:=tk }):wpAny (model C.X.prog C.X.w) A (call (.builtin "isinstance") [u,uc]) Q Ex s:=by
 cases d with
 | non=>cases h;cases r;exact W.kia_one W.kitx_none I.kIn True.intro k (fun z=>nomatch z) q
 | bl y=>cases h;cases r;exact W.kia_one W.kitx_bool I.kIn True.intro k (fun z=>nomatch z) q
 | int i=>cases h;obtain⟨t,rfl⟩:=r;exact W.kia_one W.kitx_int I.kIn True.intro k (fun z=>nomatch z) q
 | str i=>cases h;obtain⟨t,rfl⟩:=r;exact W.kia_one W.kitx_str I.kIn True.intro k (fun z=>nomatch z) q
 | lst ds=>
  obtain⟨a,vs,rfl,h2,_⟩:=h;cases r
  obtain⟨its,_,⟨o,n,ho,hc,_⟩,_⟩:=I.list h2
  exact W.kia_one W.kitx_list I.kIn ⟨o,ho,hc⟩ k (fun z=>nomatch z) q
 | tup ds=>
  obtain⟨a,vs,rfl,h2,_⟩:=h;cases r
  obtain⟨its,_,⟨o,ho,hc,_⟩,_⟩:=I.tuple h2
  exact W.kia_one W.kitx_tuple I.kIn ⟨o,ho,hc⟩ k (fun z=>nomatch z) q
 | dic ds=>
  obtain⟨a,kvs,rfl,h2,_⟩:=h;cases r
  obtain⟨_,_,vs,_,p⟩:=h2.ok I.hok
  obtain⟨o,es,ep,h1,h2,_⟩:=p
  exact W.kia_one W.kitx_dict I.kIn ⟨o,h1,h2.1⟩ k (fun z=>nomatch z) q
 | ins c fs=>
  obtain⟨a,A',dx,fs',rfl,h1,h2,_⟩:=h;cases r
  obtain⟨cd,kk⟩:=k A' h1
  obtain⟨mA,O,_⟩:=QgQ I.hok h2
  obtain⟨od,J,_⟩:=O.look
  exact W.kia_one (W.kitx_own (cd.cl.get _) cd.cl.hd cd.ha cd.hn cd.htk cd.hm) I.kIn J kk (fun z=>nomatch z) q
 | err c=>
  obtain⟨a,A',rfl,h1,h2⟩:=h;cases r
  obtain⟨cd,kk⟩:=k A' h1
  obtain⟨J,_⟩:=(show ObjOk C.X.prog C.X.w H s.heap a (exO a A') from I.hok a _ h2)
  exact W.kia_one (QEP cd) I.kIn J kk (fun z=>nomatch z) q
def clsV:V->Option Value
 | .ty n=>some (.type n)
 | .ref a=>some (.ref a)
 | _=>none
def eIsa(f:D->Out Bool)(a:SD->Out D):SD->Out D:=fun ς=>a ς>>=fun d=>f d>>=fun b=>.ok (.bl b)
theorem QHz{f:D->Out Bool}(hc:PE C.X cx (tC vc))(rc:clsV vc=some uc)(hf:∀ d,match f d with | .ok b=>KitD C.X.K C.CT d uc b | .exc _=>False | .stuck=>True)(hg:Gl C.X "isinstance")(hm:C.X.mg "isinstance"=none)(h:DB C e E)
 (he:starEach (e::[cx]) C.X.env=(false,eval e C.X.env)::starEach [cx] C.X.env:=by rfl) (he2:starEach (cx::[]) C.X.env=(false,eval cx C.X.env)::starEach [] C.X.env:=by rfl)
 (hpl:(backTo pos (starEach [cx] C.X.env)).any (·.1)=false:=by rfl):DE C (.Call (.Name "isinstance" p) [e,cx] [] pos) (eIsa f E):=by
 obtain⟨t,p1,q1⟩:=h
 have hR:CallR C.X (.builtin "isinstance") (fun xs H Q=>∃ d x b,xs=[x,vc]/\Rep C.X.K C.CT H d x/\KitD C.X.K C.CT d uc b/\Q (.bl b) H):=by
  intro pins s σ H xs us Q I r h
  obtain⟨d,x,b,rfl,h1,h2,q⟩:=h
  obtain⟨u,w,rfl,r1,r2⟩:=vals2 r
  have:w=uc:=by
   cases vc<;>first
    | (cases rc;cases r2;rfl)
    | cases rc
  subst this
  exact QF6 I h1 r1 h2 fun tk=>⟨.bl b,H,I.tok _,rfl,q⟩
 refine⟨_,Qla hR hg hm PyProof.Rows.Boot.«isinstance» (Qax p1 (Qax hc QbT he2) he) (by decide) (by decide) he hpl,fun G H σ ς Q S q=>?_⟩
 unfold eIsa at q
 rw[Out.post_bind]at q
 refine q1 G H σ ς _ S (Out.post_mono q fun d k v1 H1 G1 S1 a1 b1 r1=>?_)
 rw[Out.post_bind]at k
 have hd:=hf d
 cases e:f d with
 | exc _=>rw[e]at hd;exact hd.elim
 | stuck=>rw[e]at k;exact k.elim
 | ok b=>
  rw[e]at k hd
  exact⟨d,v1,b,rfl,r1,hd,KD.now (KD.later (show KD C G H σ ς Q (.bl b) from k) a1 b1) S1 rfl⟩
end
end DL
namespace DL
open PySem PySem.Spec PyProof.Rows L2
section
variable{C:Dc}{G H:Hp}{σ:St}{ς:SD}
theorem Qp{α:Type}{xs:List α}{i j:Nat}{x y:α}(h:(xs.set i x)[j]?=some y):(i=j/\y=x/\i<xs.length)∨(i≠j/\xs[j]?=some y):=by
 rw[List.getElem?_set]at h
 by_cases e:i=j
 ·rw[if_pos e]at h
  by_cases l:i<xs.length
  ·rw[if_pos l]at h;exact .inl ⟨e,(Option.some.inj h).symm,l⟩
  ·rw[if_neg l]at h;cases h
 ·rw[if_neg e]at h;exact .inr ⟨e,h⟩
theorem Qev{α:Type}{xs:List α}{i:Nat}{x:α}(h:i<xs.length):(xs.set i x)[i]?=some x:=by
 rw[List.getElem?_set,if_pos rfl,if_pos h]
theorem Qk{α:Type}{xs:List α}{i j:Nat}{x:α}(h:i≠j):(xs.set i x)[j]?=xs[j]?:=by
 rw[List.getElem?_set,if_neg h]
theorem StR.set(S:StR C G H σ ς){d:D}{v:V}(i:Nat)(r:Rep C.X.K C.CT G d v):StR C G H (σ.set i (some v)) (ς.set i (some (.k,d))) where
 toGH:=S.toGH
 len:=by rw[List.length_set,List.length_set];exact S.len
 fz:=fun j e h=>by
  rcases Qp h with⟨rfl,h2,l⟩ | ⟨ne,h2⟩
  ·cases h2
   exact⟨v,Qev (by rw[S.len];exact l),r⟩
  ·rw[Qk ne];exact S.fz j e h2
 ow:=fun j e h=>by
  rcases Qp h with⟨rfl,h2,l⟩ | ⟨ne,h2⟩
  ·cases h2
  ·rw[Qk ne];exact S.ow j e h2
 ln:=fun j e h=>by
  rcases Qp h with⟨rfl,h2,l⟩ | ⟨ne,h2⟩
  ·cases h2
  ·rw[Qk ne];exact S.ln j e h2
 inj:=fun j k d1 d2 p hjk h1 h2 h3=>by
  rcases Qp h1 with⟨rfl,q1,l⟩ | ⟨n1,q1⟩
  ·cases q1
  ·rcases Qp h2 with⟨rfl,q2,l⟩ | ⟨n2,q2⟩
   ·cases q2
   ·rw[Qk n1]at h3
    rw[Qk n2];exact S.inj j k d1 d2 p hjk q1 q2 h3
 sf:=fun j e h=>by
  rcases Qp h with⟨rfl,h2,l⟩ | ⟨ne,h2⟩
  ·cases h2
  ·rw[Qk ne];exact S.sf j e h2
 su:=fun j k d1 d2 p hjk h1 h2 h3=>by
  rcases Qp h1 with⟨rfl,q1,l⟩ | ⟨n1,q1⟩
  ·cases q1
  ·rcases Qp h2 with⟨rfl,q2,l⟩ | ⟨n2,q2⟩
   ·cases q2
   ·rw[Qk n1]at h3
    rw[Qk n2];exact S.su j k d1 d2 p hjk q1 q2 h3
theorem StR.setO(S:StR C G H σ ς){d:D}{p:Addr}(i:Nat)(hg:G p=none)(h0:C.X.H₀ p=none)(ow:Own C.X.K C.CT G H p d)(hn:∀(j:Nat) e,j≠i->ς[j]?=some (some (.o,e))->σ[j]?≠some (some (.ref p))):
 StR C G H (σ.set i (some (.ref p))) (ς.set i (some (.o,d))) where
 toGH:=S.toGH
 len:=by rw[List.length_set,List.length_set];exact S.len
 fz:=fun j e h=>by
  rcases Qp h with⟨rfl,h2,l⟩ | ⟨ne,h2⟩
  ·cases h2
  ·rw[Qk ne];exact S.fz j e h2
 ow:=fun j e h=>by
  rcases Qp h with⟨rfl,h2,l⟩ | ⟨ne,h2⟩
  ·cases h2
   exact⟨p,Qev (by rw[S.len];exact l),hg,h0,ow⟩
  ·rw[Qk ne];exact S.ow j e h2
 ln:=fun j e h=>by
  rcases Qp h with⟨rfl,h2,l⟩ | ⟨ne,h2⟩
  ·cases h2
  ·rw[Qk ne];exact S.ln j e h2
 inj:=fun j k d1 d2 q hjk h1 h2 h3=>by
  rcases Qp h1 with⟨rfl,q1,l1⟩ | ⟨n1,q1⟩
  ·rcases Qp h2 with⟨rfl,q2,l⟩ | ⟨n2,q2⟩
   ·exact absurd rfl hjk
   ·rw[Qev (by rw[S.len];exact l1)]at h3
    cases h3
    rw[Qk n2];exact hn k d2 (Ne.symm n2) q2
  ·rcases Qp h2 with⟨rfl,q2,l⟩ | ⟨n2,q2⟩
   ·rw[Qk n1]at h3
    rw[Qev (by rw[S.len];exact l)]
    intro z;cases z
    exact hn j d1 (Ne.symm n1) q1 h3
   ·rw[Qk n1]at h3
    rw[Qk n2];exact S.inj j k d1 d2 q hjk q1 q2 h3
 sf:=fun j e h=>by
  rcases Qp h with⟨rfl,h2,l⟩ | ⟨ne,h2⟩
  ·cases h2
  ·rw[Qk ne];exact S.sf j e h2
 su:=fun j k d1 d2 p hjk h1 h2 h3=>by
  rcases Qp h1 with⟨rfl,q1,l⟩ | ⟨n1,q1⟩
  ·cases q1
  ·rcases Qp h2 with⟨rfl,q2,l⟩ | ⟨n2,q2⟩
   ·cases q2
   ·rw[Qk n1]at h3
    rw[Qk n2];exact S.su j k d1 d2 p hjk q1 q2 h3
end
def sNil:SD->Out Fl:=fun ς=>.ok (.nx ς)
def thenF(U:SD->Out Fl):Fl->Out Fl
 | .nx ς=>U ς
 | .rt b d=>.ok (.rt b d)
 | .bk ς=>.ok (.bk ς)
 | .ct ς=>.ok (.ct ς)
def sSeq(T U:SD->Out Fl):SD->Out Fl:=fun ς=>T ς>>=thenF U
section
variable{C:Dc}{e:Expr}{E:SD->Out D}{st:Stmt}{rest:List Stmt}{T U:SD->Out Fl}{pos:Pos}
theorem FlK.later{G G1:Hp}{W:Ends}{f:Fl}(h:FlK C G W f)(s:Same G G1):FlK C G1 W f:=by
 cases f with
 | nx ς=>exact fun σ' H' G' S q=>h σ' H' G' S (s.trans q)
 | bk ς=>exact fun σ' H' G' S q=>h σ' H' G' S (s.trans q)
 | ct ς=>exact fun σ' H' G' S q=>h σ' H' G' S (s.trans q)
 | rt b d=>exact fun σ' H' G' S q=>h σ' H' G' S (s.trans q)
theorem QR:DSs C [] sNil:=⟨_,Qzf,fun G H σ ς W S q=>q σ H G S (Same.refl G)⟩
theorem Qf(h1:DS C st T)(h2:DSs C rest U):DSs C (st::rest) (sSeq T U):=by
 obtain⟨t1,p1,q1⟩:=h1
 obtain⟨t2,p2,q2⟩:=h2
 refine⟨_,QdY p1 p2,fun G H σ ς W S q=>?_⟩
 unfold sSeq at q
 rw[Out.post_bind]at q
 refine q1 G H σ ς _ S (Out.post_mono q fun f k=>?_)
 cases f with
 | nx ς'=>exact fun σ' H' G' S' s'=>q2 G' H' σ' ς' W S' (Out.post_mono (show(U ς').post _ _ from k) fun f k=>FlK.later k s')
 | bk ς'=>exact k
 | ct ς'=>exact k
 | rt b d=>exact k
theorem Qg(h1:DS C st T):DSs C [st] T:=let ⟨t,p,q⟩:=h1;⟨t,QnZ p,q⟩
def sSet(i:Nat)(E:SD->Out D):SD->Out Fl:=fun ς=>E ς>>=fun d=>.ok (.nx (ς.set i (some (.k,d))))
def sSetO(i:Nat)(E:SD->Out D):SD->Out Fl:=fun ς=>E ς>>=fun d=>.ok (.nx (ς.set i (some (.o,d))))
theorem Qac{i:Nat}{x:Str}{pos':Pos}(hN:C.X.N.Nodup)(hi:C.X.N[i]?=some x)(hx:Loc C.X.env.scope x)(he:DE C e E)(hs:swapsWith e (some (.Name x pos')) pos.line C.X.env=pure false:=by rfl)
 (hf:C.X.fn x=true∨C.X.env.scope.names.lookup x=some .local:=by first | exact .inl rfl | exact .inr rfl | assumption):DS C (.Assign [.Name x pos'] e pos) (sSet i E):=by
 obtain⟨t,p,q⟩:=he
 refine⟨_,QmJ hN hi hx p hs hf,fun G H σ ς W S k=>?_⟩
 unfold sSet at k
 rw[Out.post_bind]at k
 exact q G H σ ς _ S (Out.post_mono k fun d k v H1 G1 S1 a1 b1 r1=>k _ H1 G1 (S1.set i r1) b1)
theorem QcS{i:Nat}{x:Str}{pos':Pos}(hN:C.X.N.Nodup)(hi:C.X.N[i]?=some x)(hx:Loc C.X.env.scope x)(he:DF C e E)(hs:swapsWith e (some (.Name x pos')) pos.line C.X.env=pure false:=by rfl)
 (hf:C.X.fn x=true∨C.X.env.scope.names.lookup x=some .local:=by first | exact .inl rfl | exact .inr rfl | assumption):DS C (.Assign [.Name x pos'] e pos) (sSetO i E):=by
 obtain⟨t,p,q⟩:=he
 refine⟨_,QmJ hN hi hx p hs hf,fun G H σ ς W S k=>?_⟩
 unfold sSetO at k
 rw[Out.post_bind]at k
 exact q G H σ ς _ S (Out.post_mono k fun d k p H1 G1 S1 a1 b1 hp hg ow=>k _ H1 G1 (S1.setO i hg (S.h0none hp) ow fun j e _ z=>S.new_ne hp j e z) b1)
def sPar(i j:Nat)(A:SD->Out (List D)):SD->Out Fl:=fun ς=>A ς>>=fun ds=>match ds with
 | [x,y]=>.ok (.nx ((ς.set i (some (.k,x))).set j (some (.k,y))))
 | _=>.stuck
theorem QHN{i j:Nat}{x y:Str}{a b:Expr}{A:SD->Out (List D)}{px py pt:Pos}{kt k2 pt2}(hc:C.X.calm=true)(hN:C.X.N.Nodup)(hi:C.X.N[i]?=some x)(hj:C.X.N[j]?=some y)(hij:i≠j)
 (hx:C.X.env.scope.names.lookup x=some .local) (hy:C.X.env.scope.names.lookup y=some .local) (ha:DA C [a,b] A)
 (hw:swappedStores [.Tuple [.Name x px,.Name y py] kt pt] (.Tuple [a,b] k2 pt2) C.X.env=pure (some [x,y]))
 (hs:swapsWithSole [.Tuple [.Name x px,.Name y py] kt pt] (.Tuple [a,b] k2 pt2) pos.line C.X.env=pure false:=by rfl):
 DS C (.Assign [.Tuple [.Name x px,.Name y py] kt pt] (.Tuple [a,b] k2 pt2) pos) (sPar i j A):=by
 obtain⟨t,p,q⟩:=ha
 refine⟨_,QHQ hc hN hi hj hij hx hy p hw hs,fun G H σ ς W S k=>?_⟩
 unfold sPar at k
 rw[Out.post_bind]at k
 refine q G H σ ς _ S (Out.post_mono k fun ds k vs H1 G1 S1 a1 b1 r1=>?_)
 match ds,r1 with
 | [d1,d2],⟨v1,_,e1,rr1,v2,_,e2,rr2,e3⟩=>
  subst e3 e2 e1
  exact⟨v1,v2,rfl,k _ H1 G1 ((S1.set i rr1).set j rr2) b1⟩
 | [],_=>exact k.elim
 | [_],_=>exact k.elim
 | _::_::_::_,_=>exact k.elim
def QV:List Nat->List D->SD->Out SD
 | [],[],ς=>.ok ς
 | i::is,d::ds,ς=>QV is ds (ς.set i (some (.k,d)))
 | _,_,_=>.stuck
def DGs(C:Dc)(es:List Expr)(is:List Nat):Prop:=∃ t,PGs C.X es t/\∀ G H σ ς ds vs ς' (Q:St->Hp->Prop),StR C G H σ ς->RepL C.X.K C.CT G ds vs->QV is ds ς=.ok ς'->
 (∀ σ',StR C G H σ' ς'->Q σ' H)->t vs σ H Q
theorem QcR:DGs C [] []:=by
 refine⟨_,QFh,fun G H σ ς ds vs ς' Q S r h q=>?_⟩
 cases ds with
 | nil=>
  cases h
  exact⟨r,q σ S⟩
 | cons d ds=>cases h
theorem Q4{i:Nat}{is:List Nat}{x:Str}{es:List Expr}(hN:C.X.N.Nodup)(hi:C.X.N[i]?=some x)(hx:Loc C.X.env.scope x)(h2:DGs C es is)
 (hf:C.X.fn x=true∨C.X.env.scope.names.lookup x=some .local:=by first | exact .inl rfl | exact .inr rfl | assumption)
 (hs:(assignEach (.Name x pos::es) C.X.env).map (·.2)=assign (.Name x pos) C.X.env::(assignEach es C.X.env).map (·.2):=by rfl):DGs C (.Name x pos::es) (i::is):=by
 obtain⟨t,p,q⟩:=h2
 refine⟨_,QD5 (Qn5 hN hi hx hf) p hs,fun G H σ ς ds vs ς' Q S r h k=>?_⟩
 cases ds with
 | nil=>cases h
 | cons d ds=>
  obtain⟨v,w,rfl,r1,r2⟩:=r
  exact⟨v,w,rfl,q G H _ _ ds w ς' Q (S.set i r1) r2 h k⟩
def sUnp(is:List Nat)(E:SD->Out D):SD->Out Fl:=fun ς=>E ς>>=fun d=>match d with
 | .tup ds=>QV is ds ς>>=fun ς'=>.ok (.nx ς')
 | _=>.stuck
theorem QhC:∀{is:List Nat}{ds:List D}{ς ς':SD},QV is ds ς=.ok ς'->ds.length=is.length
 | [],[],_,_,_=>rfl
 | i::is,d::ds,ς,ς',h=>by
  have:=QhC (is:=is) (ds:=ds) h
  simp[this]
 | [],_::_,_,_,h=>by cases h
 | _::_,[],_,_,h=>by cases h
def sRet(E:SD->Out D):SD->Out Fl:=fun ς=>E ς>>=fun d=>.ok (.rt false d)
def sRetF(E:SD->Out D):SD->Out Fl:=fun ς=>E ς>>=fun d=>.ok (.rt true d)
theorem QG(he:DE C e E):DS C (.Return (some e) pos) (sRet E):=by
 obtain⟨t,p,q⟩:=he
 refine⟨_,QmN p,fun G H σ ς W S k=>?_⟩
 unfold sRet at k
 rw[Out.post_bind]at k
 exact q G H σ ς _ S (Out.post_mono k fun d k v H1 G1 S1 a1 b1 r1=>k v H1 G1 S1.toGH b1 r1)
theorem QbI(he:DF C e E):DS C (.Return (some e) pos) (sRetF E):=by
 obtain⟨t,p,q⟩:=he
 refine⟨_,QmN p,fun G H σ ς W S k=>?_⟩
 unfold sRetF at k
 rw[Out.post_bind]at k
 exact q G H σ ς _ S (Out.post_mono k fun d k p H1 G1 S1 a1 b1 hp hg ow=>k _ H1 G1 S1.toGH b1 ⟨p,rfl,S.h0none hp,hg,ow⟩)
def sRetO(i:Nat):SD->Out Fl:=fun ς=>match ς[i]? with | some (some (.o,d))=>.ok (.rt true d) | _=>.stuck
theorem QjT(i:Nat){x:Str}{px:Pos}(hN:C.X.N[i]?=some x:=by rfl)(hv:Vis C.X.env.scope x:=by first | exact Or.inl rfl | exact Or.inr (oi rfl) | exact Or.inr (Or.inr rfl))
 (hd:(x == ("__debug__":Str))=false:=by decide) (hcd:(x == ("__classdict__":Str))=false:=by decide):DS C (.Return (some (.Name x px)) pos) (sRetO i):=by
 refine⟨_,QmN (QbM (i:=i) hN hv hd hcd),fun G H σ ς W S k=>?_⟩
 unfold sRetO at k
 split at k
 ·rename_i d z
  obtain⟨p,a,b,c,w⟩:=S.ow i d z
  exact⟨_,a,k _ H G S.toGH (Same.refl G) ⟨p,rfl,c,b,w⟩⟩
 ·exact k.elim
def sIf(c:SD->Out Bool)(T U:SD->Out Fl):SD->Out Fl:=fun ς=>c ς>>=fun b=>if b=true then T ς else U ς
theorem ds_if{c:Expr}{a b:List Stmt}{TC:SD->Out Bool}(hc:DT C c TC)(ha:DSs C a T)(hb:DSs C b U):DS C (.If c a b pos) (sIf TC T U):=by
 obtain⟨t0,p0,q0⟩:=hc
 obtain⟨t1,p1,q1⟩:=ha
 obtain⟨t2,p2,q2⟩:=hb
 refine⟨_,ps_if p0 p1 p2,fun G H σ ς W S k=>?_⟩
 unfold sIf at k
 rw[Out.post_bind]at k
 refine q0 G H σ ς _ S (Out.post_mono k fun b k H1 G1 S1 a1 b1=>?_)
 cases b with
 | true=>exact iteT (q1 G1 H1 σ ς W S1 (Out.post_mono (show(T ς).post _ _ from k) fun f k=>FlK.later k b1))
 | false=>exact iteF (q2 G1 H1 σ ς W S1 (Out.post_mono (show(U ς).post _ _ from k) fun f k=>FlK.later k b1))
def Qdz:SD->Out Fl:=fun _=>.stuck
theorem Qcy:DS C st Qdz:=⟨_,QEa,fun G H σ ς W S k=>k.elim⟩
end
def loopD(body:D->SD->Out Fl):List D->SD->Out Fl
 | [],ς=>.ok (.nx ς)
 | x::xs,ς=>body x ς>>=fun f=>match f with
  | .nx ς'=>loopD body xs ς'
  | .ct ς'=>loopD body xs ς'
  | .bk ς'=>.ok (.nx ς')
  | .rt b d=>.ok (.rt b d)
def DG(C:Dc)(tg:Expr)(g:D->SD->Out SD):Prop:=∃ t,PG C.X tg t/\∀ G H σ ς d v ς' (Q:St->Hp->Prop),StR C G H σ ς->Rep C.X.K C.CT G d v->g d ς=.ok ς'->(∀ σ',StR C G H σ' ς'->Q σ' H)->t v σ H Q
def gN(i:Nat):D->SD->Out SD:=fun d ς=>.ok (ς.set i (some (.k,d)))
def gT(is:List Nat):D->SD->Out SD:=fun d ς=>match d with | .tup ds=>QV is ds ς | _=>.stuck
def noExc{α β γ : Type}(g:α->β->Out γ):Prop:=∀ a b x,g a b≠.exc x
theorem Qy(i:Nat):noExc (gN i):=fun _ _ _ h=>by cases h
theorem Qi8(is:List Nat):∀(ds:List D) (ς:SD) x,QV is ds ς≠.exc x:=by
 induction is with
 | nil=>intro ds ς x h;cases ds<;>cases h
 | cons i is ih=>intro ds ς x h;cases ds with
  | nil=>cases h
  | cons d ds=>exact ih ds _ x h
theorem Qc5(is:List Nat):noExc (gT is):=fun d ς x h=>by
 cases d with
 | tup ds=>exact Qi8 is ds ς x h
 | _=>cases h
section
variable{C:Dc}{e tg iter:Expr}{E:SD->Out D}{body:List Stmt}{T U:SD->Out Fl}{pos:Pos}{g:D->SD->Out SD}
theorem QD{i:Nat}{x:Str}(hN:C.X.N.Nodup)(hi:C.X.N[i]?=some x)(hx:Loc C.X.env.scope x)
 (hf:C.X.fn x=true∨C.X.env.scope.names.lookup x=some .local:=by first | exact .inl rfl | exact .inr rfl | assumption):DG C (.Name x pos) (gN i):=
 ⟨_,Qn5 hN hi hx hf,fun G H σ ς d v ς' Q S r h k=>by cases h;exact k _ (S.set i r)⟩
theorem QeP{es:List Expr}{is:List Nat}{k:Nat}(hc:C.X.calm=true)(hg:DGs C es is)(hn:(assignEach es C.X.env).length=is.length:=by rfl)(hst:(assignEach es C.X.env).findIdx? (·.1)=none:=by rfl):
 DG C (.Tuple es k pos) (gT is):=by
 obtain⟨t2,p2,q2⟩:=hg
 refine⟨_,QG6 hc p2 hn hst,fun G H σ ς d v ς' Q S r h k=>?_⟩
 cases d with
 | tup ds=>
  obtain⟨a,vs,rfl,h2,h3⟩:=r
  exact⟨a,vs,rfl,Same.sqT S.sub h2,by rw[← h3.length];exact QhC h,q2 G H σ ς ds vs ς' Q S h3 h k⟩
 | _=>cases h
def sFor(g:D->SD->Out SD)(its:SD->Out (List D))(T:SD->Out Fl):SD->Out Fl:=fun ς=>its ς>>=fun xs=>loopD (fun x ς=>g x ς>>=fun ς'=>T ς') xs ς
def itL(E:SD->Out D):SD->Out (List D):=fun ς=>E ς>>=fun d=>match d with | .lst xs=>.ok xs | _=>.stuck
theorem turnD{W:Ends}{x:D}{v:V}{xs:List D}{G H:Hp}{σ:St}{ς:SD}{tb:TS}{tt:TG}{N:L2.St->Hp->Prop}(hne:noExc g)
 (hg:∀ G H σ ς d v ς' (Q:St->Hp->Prop),StR C G H σ ς->Rep C.X.K C.CT G d v->g d ς=.ok ς'->(∀ σ',StR C G H σ' ς'->Q σ' H)->tt v σ H Q)
 (hb:∀ G H σ ς W,StR C G H σ ς->(T ς).post (FlK C G W) C.XD->tb W σ H)
 (S:StR C G H σ ς) (r:Rep C.X.K C.CT G x v) (q:(loopD (fun x ς=>g x ς>>=fun ς'=>T ς') (x::xs) ς).post (FlK C G W) C.XD)
 (hN:∀ σ' H' G' ς',StR C G' H' σ' ς'->Same G G'->(loopD (fun x ς=>g x ς>>=fun ς'=>T ς') xs ς').post (FlK C G' W) C.XD->N σ' H'):
 tt v σ H fun σ2 H2=>tb { W with nx:=N,ct:=N,bk:=W.nx } σ2 H2:=by
 have q':((g x ς>>=fun ς'=>T ς')>>=fun f=>match f with
  | .nx ς'=>loopD (fun x ς=>g x ς>>=fun ς'=>T ς') xs ς'
  | .ct ς'=>loopD (fun x ς=>g x ς>>=fun ς'=>T ς') xs ς'
  | .bk ς'=>.ok (.nx ς')
  | .rt b d=>.ok (.rt b d)).post (FlK C G W) C.XD:=q
 rw[Out.post_bind,Out.post_bind]at q'
 cases z:g x ς with
 | exc y=>exact absurd z (hne _ _ _)
 | stuck=>rw[z]at q';exact q'.elim
 | ok ς1=>
  rw[z]at q'
  refine hg G H σ ς x v ς1 _ S r z fun σ1 S1=>hb G H σ1 ς1 _ S1 (Out.post_mono q' fun f k=>?_)
  cases f with
  | nx ς'=>exact fun σ' H' G' S' s'=>hN σ' H' G' ς' S' s' (Out.post_mono (show(loopD _ xs ς').post _ _ from k) fun f k=>FlK.later k s')
  | ct ς'=>exact fun σ' H' G' S' s'=>hN σ' H' G' ς' S' s' (Out.post_mono (show(loopD _ xs ς').post _ _ from k) fun f k=>FlK.later k s')
  | bk ς'=>exact fun σ' H' G' S' s'=>(show FlK C G W (.nx ς') from k) σ' H' G' S' s'
  | rt b d=>exact k
theorem QjG{α:Type}{xs:List α}{i:Nat}{x:α}(h:xs[i]?=some x):xs.drop i=x::xs.drop (i+1):=by
 obtain⟨l,e⟩:=List.getElem?_eq_some_iff.mp h
 rw[List.drop_eq_getElem_cons l,e]
def Qa6(lo:Int)(n:Nat):List D:=(List.range n).map fun(i:Nat)=>D.int (lo+i)
theorem QBo{lo:Int}{n i:Nat}(h:i<n):(Qa6 lo n)[i]?=some (D.int (lo+i)):=by
 unfold Qa6
 rw[List.getElem?_map,List.getElem?_range h];rfl
theorem Ql0{lo:Int}{n:Nat}:(Qa6 lo n).length=n:=by simp[Qa6]
def QgI(i:Int):Bool:=decide (-(2 ^ 62)<=i)&&decide (i<2 ^ 62)
def itR1(A:SD->Out D):SD->Out (List D):=fun ς=>A ς>>=fun d=>match d with
 | .int n=>if QgI n=true then .ok (Qa6 0 n.toNat) else .stuck
 | _=>.stuck
theorem QA1{i:Int}(h:QgI i=true) : -(2 ^ 62)<=i/\i<2 ^ 62:=by
 unfold QgI at h
 rw[Bool.and_eq_true]at h
 exact⟨of_decide_eq_true h.1,of_decide_eq_true h.2⟩
def QA(c:SD->Out Bool)(b:SD->Out Fl):Nat->SD->Out Fl
 | 0,_=>.stuck
 | n+1,ς=>c ς>>=fun t=>if t=true then b ς>>=fun f=>match f with
  | .nx ς'=>QA c b n ς'
  | .ct ς'=>QA c b n ς'
  | .bk ς'=>.ok (.nx ς')
  | .rt b d=>.ok (.rt b d)
  else .ok (.nx ς)
def QrR(m:SD->Nat)(c:SD->Out Bool)(b:SD->Out Fl):SD->Out Fl:=fun ς=>QA c b (m ς) ς
theorem QEq(m:SD->Nat){c:Expr}{TC:SD->Out Bool}(hp:PassesOwn (model C.X.prog C.X.w) C.X.A C.X.env C.X.xe)(hc:DT C c TC)(hb:DSs C body T):DS C (.While c body [] pos) (QrR m TC T):=by
 obtain⟨t0,p0,q0⟩:=hc
 obtain⟨t1,p1,q1⟩:=hb
 refine⟨_,QE3 hp p0 p1,fun G H σ ς W S k=>?_⟩
 refine⟨fun n σ' H'=>∃ G' ς',StR C G' H' σ' ς'/\(QA TC T n ς').post (FlK C G' W) C.XD,⟨m ς,G,ς,S,k⟩,?_⟩
 rintro n σ' H' ⟨G',ς',S',k'⟩
 cases n with
 | zero=>exact k'.elim
 | succ n=>
  rw[QA,Out.post_bind]at k'
  refine q0 G' H' σ' ς' _ S' (Out.post_mono k' fun b k H1 G1 S1 a1 b1=>?_)
  cases b with
  | false=>exact iteF ((show FlK C G' W (.nx ς') from k) σ' H1 G1 S1 b1)
  | true=>
   rw[if_pos rfl,Out.post_bind]at k
   refine iteT ⟨fun σ2 H2=>∃ G2 ς2,StR C G2 H2 σ2 ς2/\(QA TC T n ς2).post (FlK C G2 W) C.XD,fun σ2 H2 h=>⟨n,Nat.lt_succ_self n,h⟩,?_⟩
   refine q1 G1 H1 σ' ς' _ S1 (Out.post_mono k fun f k=>?_)
   cases f with
   | nx ς2=>exact fun σ2 H2 G2 S2 s2=>⟨G2,ς2,S2,Out.post_mono (show(QA TC T n ς2).post _ _ from k) fun f k=>FlK.later k (b1.trans s2)⟩
   | ct ς2=>exact fun σ2 H2 G2 S2 s2=>⟨G2,ς2,S2,Out.post_mono (show(QA TC T n ς2).post _ _ from k) fun f k=>FlK.later k (b1.trans s2)⟩
   | bk ς2=>exact fun σ2 H2 G2 S2 s2=>(show FlK C G' W (.nx ς2) from k) σ2 H2 G2 S2 (b1.trans s2)
   | rt b d=>exact FlK.later (show FlK C G' W (.rt b d) from k) b1
noncomputable def fuelC(c:SD->Out Bool)(b:SD->Out Fl)(ς:SD):Nat:=by
 classical exact if h:∃ n,QA c b n ς≠.stuck then Classical.choose h else 0
noncomputable def Qba(c:SD->Out Bool)(b:SD->Out Fl):SD->Out Fl:=QrR (fuelC c b) c b
theorem QpJ{c:Expr}{TC:SD->Out Bool}(hp:PassesOwn (model C.X.prog C.X.w) C.X.A C.X.env C.X.xe)(hc:DT C c TC)(hb:DSs C body T):DS C (.While c body [] pos) (Qba TC T):=QEq (fuelC TC T) hp hc hb
theorem Qgn{c:SD->Out Bool}{b:SD->Out Fl}:∀(n:Nat)(ς:SD),QA c b n ς≠.stuck->QA c b (n+1) ς=QA c b n ς
 | 0,ς,h=>absurd rfl h
 | n+1,ς,h=>by
  rw[QA,QA]
  rw[QA]at h
  cases hc:c ς with
  | stuck=>rfl
  | exc _=>rfl
  | ok t=>
   rw[hc]at h
   cases t with
   | false=>rfl
   | true=>
    have h':(b ς>>=fun f=>match f with
     | .nx ς'=>QA c b n ς'
     | .ct ς'=>QA c b n ς'
     | .bk ς'=>.ok (.nx ς')
     | .rt b d=>.ok (.rt b d))≠.stuck:=h
    show(b ς>>=fun f=>match f with
     | .nx ς'=>QA c b (n+1) ς'
     | .ct ς'=>QA c b (n+1) ς'
     | .bk ς'=>.ok (.nx ς')
     | .rt b d=>.ok (.rt b d))=(b ς>>=fun f=>match f with
     | .nx ς'=>QA c b n ς'
     | .ct ς'=>QA c b n ς'
     | .bk ς'=>.ok (.nx ς')
     | .rt b d=>.ok (.rt b d))
    cases hb:b ς with
    | stuck=>rfl
    | exc _=>rfl
    | ok f=>
     rw[hb]at h'
     cases f with
     | nx ς'=>exact Qgn n ς' h'
     | ct ς'=>exact Qgn n ς' h'
     | bk _=>rfl
     | rt _ _=>rfl
theorem QiI{c:SD->Out Bool}{b:SD->Out Fl}{ς:SD}{n:Nat}(h:QA c b n ς≠.stuck):∀ k,QA c b (n+k) ς=QA c b n ς
 | 0=>rfl
 | k+1=>by
  have ih:=QiI h k
  rw[← Nat.add_assoc,Qgn (n+k) ς (by rw[ih];exact h),ih]
theorem QbN{c:SD->Out Bool}{b:SD->Out Fl}{ς:SD}(n:Nat)(h:QA c b n ς≠.stuck):Qba c b ς=QA c b n ς:=by
 have hx:∃ n,QA c b n ς≠.stuck:=⟨n,h⟩
 have e:fuelC c b ς=Classical.choose hx:=by unfold fuelC;rw[dif_pos hx]
 unfold Qba QrR
 rw[e]
 have h2:=Classical.choose_spec hx
 generalize Classical.choose hx=m at h2 ⊢
 rcases Nat.le_total n m with hl | hl
 ·obtain⟨k,rfl⟩:=Nat.exists_eq_add_of_le hl
  exact QiI h k
 ·obtain⟨k,rfl⟩:=Nat.exists_eq_add_of_le hl
  exact(QiI h2 k).symm
theorem QdK{c:SD->Out Bool}{b:SD->Out Fl}{ς:SD}(h:∀ n,QA c b n ς=.stuck):Qba c b ς=.stuck:=h _
theorem Qby(c:SD->Out Bool)(b:SD->Out Fl)(ς:SD):Qba c b ς=(c ς>>=fun t=>if t=true then b ς>>=fun f=>match f with
 | .nx ς'=>Qba c b ς'
 | .ct ς'=>Qba c b ς'
 | .bk ς'=>.ok (.nx ς')
 | .rt b d=>.ok (.rt b d)
 else .ok (.nx ς)):=by
 have key:∀ n,QA c b (n+1) ς≠.stuck->Qba c b ς=QA c b (n+1) ς:=fun n h=>QbN _ h
 cases hc:c ς with
 | stuck=>exact QdK fun n=>by cases n with | zero=>rfl | succ n=>rw[QA,hc];rfl
 | exc x=>exact(QbN 1 (by rw[QA,hc];exact fun z=>nomatch z)).trans (by rw[QA,hc];rfl)
 | ok t=>
  cases t with
  | false=>exact(QbN 1 (by rw[QA,hc];exact fun z=>nomatch z)).trans (by rw[QA,hc];rfl)
  | true=>
   cases hb:b ς with
   | stuck=>exact(QdK fun n=>by cases n with | zero=>rfl | succ n=>rw[QA,hc];show(b ς>>=_)=_;rw[hb];rfl).trans (by show _=Out.stuck;rfl)
   | exc x=>exact(QbN 1 (by rw[QA,hc];show(b ς>>=_)≠_;rw[hb];exact fun z=>nomatch z)).trans (by rw[QA,hc];show(b ς>>=_)=_;rw[hb];rfl)
   | ok f=>
    have go:∀ ς',(f=.nx ς'∨f=.ct ς')->(∀ n,QA c b (n+1) ς=QA c b n ς')->Qba c b ς=Qba c b ς':=fun ς' _ e=>by
     by_cases hx:∃ n,QA c b n ς'≠.stuck
     ·obtain⟨n,hn⟩:=hx
      rw[QbN n hn,QbN (n+1) (by rw[e];exact hn),e]
     ·have hs:∀ n,QA c b n ς'=.stuck:=fun n=>Classical.byContradiction fun z=>hx ⟨n,z⟩
      rw[QdK hs]
      exact QdK fun n=>by cases n with | zero=>rfl | succ n=>rw[e];exact hs n
    cases f with
    | nx ς'=>exact go ς' (.inl rfl) fun n=>by rw[QA,hc];show(b ς>>=_)=_;rw[hb];rfl
    | ct ς'=>exact go ς' (.inr rfl) fun n=>by rw[QA,hc];show(b ς>>=_)=_;rw[hb];rfl
    | bk ς'=>exact(QbN 1 (by rw[QA,hc];show(b ς>>=_)≠_;rw[hb];exact fun z=>nomatch z)).trans (by rw[QA,hc];show(b ς>>=_)=_;rw[hb];rfl)
    | rt r d=>exact(QbN 1 (by rw[QA,hc];show(b ς>>=_)≠_;rw[hb];exact fun z=>nomatch z)).trans (by rw[QA,hc];show(b ς>>=_)=_;rw[hb];rfl)
end
end DL
namespace DL
open PySem PySem.Spec PyProof.Rows L2
def RetG(K:W.Frag)(CT:CTab)(fr:Bool)(H0 G' H':Hp)(d:D)(v:V):Prop:=
 if (fr && !d.scal)=true then ∃ p,v=.ref p/\H0 p=none/\G' p=none/\Own K CT G' H' p d else Rep K CT G' d v
def retF(fr:Bool):Fl->Out D
 | .rt b d=>if (!fr||b||d.scal)=true then .ok d else .stuck
 | .nx _=>.ok .non
 | _=>.stuck
def bodyF(fr:Bool)(n len:Nat)(T:SD->Out Fl):List D->Out D:=fun ds=>
 if ds.length=n then T (ds.map (fun d=>some (.k,d))++List.replicate (len - n) none)>>=retF fr else .stuck
def SpD(K:W.Frag)(CT:CTab)(fr:Bool)(m:List D->Out D):Sp:=fun vs H Q _=>∃ ds G0,Same G0 H/\RepL K CT G0 ds vs/\
 (m ds).post (fun d=>∀ v H' G',Same G0 G'->Same H H'->Same G' H'->(∀ b,G0 b=none->G' b≠none->H b=none)->RetG K CT fr H G' H' d v->Q v H') (fun _=>False)
structure FunV(K:W.Frag)(x qual:Str)(st:Stmt)(f:Addr)(fd:FuncData)(dV:Value):Prop where
 ex:∃(oc:Value)(od:Option Addr)(kV doc pm:Value)(an:Option Addr)(cdv ct:Value)(osl:Array (Option Value)),
  fd=W.fnOf x qual (Qq st) (Qm st) (Qb st) dV kV doc pm an cdv ct/\K.lookup f=some ⟨oc,od,.func fd,osl⟩/\W.codeIn K cdv qual=true
 kp:W.keepIn K (.ref f)=true
theorem Qw{K:W.Frag}{x qual:Str}{st:Stmt}{f:Addr}{oc:Value}{od an:Option Addr}{osl:Array (Option Value)}{dV kV doc pm cdv ct:Value}(l:K.lookup f=some ⟨oc,od,.func (W.fnOf x qual (Qq st) (Qm st) (Qb st) dV kV doc pm an cdv ct),osl⟩)
 (c:W.codeIn K cdv qual=true) (k:W.keepIn K (.ref f)=true):FunV K x qual st f (W.fnOf x qual (Qq st) (Qm st) (Qb st) dV kV doc pm an cdv ct) dV:=⟨⟨oc,od,kV,doc,pm,an,cdv,ct,osl,rfl,l,c⟩,k⟩
theorem FunV.binds{K:W.Frag}{x qual:Str}{st:Stmt}{f:Addr}{fd:FuncData}{ps:List Str}(F:FunV K x qual st f fd .none)
 (h:∀(kV doc pm:Value)(an:Option Addr)(cdv ct:Value)(us:List Value),us.length=ps.length->bindArgs (W.fnOf x qual (Qq st) (Qm st) (Qb st) .none kV doc pm an cdv ct) ⟨us,[]⟩=pure (ps.zip us)):Binds K fd ps []:=by
 obtain⟨oc,od,kV,doc,pm,an,cdv,ct,osl,rfl,lk,hcd⟩:=F.ex
 exact .all (h kV doc pm an cdv ct)
abbrev dcOf(P:Program)(w:World)(K:W.Frag)(mg:Str->Option Value)(base:Heap)(CT:CTab)(N:List Str)(qual:Str)(sc:Scope)(f:Addr)(cdv:Value)(A:Around)(outer:List Env)(s:Shared)(H:Hp)(E:XK)(G:Hp):Dc:=
 { X:=(cxOf CX0 P w K mg base N qual sc f cdv A outer s H E).nox,CT:=CT,G0:=G,XD:=fun _=>False,B:=H,M:=fun _=>False }
theorem Qge{N:List Str}{vs:List V}{i:Nat}{v:V}(h:vs[i]?=some v):(L2.start N vs)[i]?=some (some v):=by
 unfold L2.start
 have hi:i<vs.length:=(List.getElem?_eq_some_iff.mp h).1
 rw[List.getElem?_append_left (by simpa using hi),List.getElem?_map,h];rfl
theorem QaL{ds:List D}{k:Nat}{i:Nat}{x:SM×D}(h:(ds.map (fun d=>some (SM.k,d))++List.replicate k (none:Option (SM×D)))[i]?=some (some x)):∃ d,ds[i]?=some d/\x=(.k,d):=by
 by_cases hi:i<ds.length
 ·rw[List.getElem?_append_left (by simpa using hi),List.getElem?_map]at h
  cases e:ds[i]? with
  | none=>rw[e]at h;cases h
  | some d=>rw[e]at h;cases h;exact⟨d,rfl,rfl⟩
 ·rw[List.getElem?_append_right (by simpa using hi),List.getElem?_replicate]at h
  split at h<;>cases h
theorem GH.freezeR{C:Dc}{G' H':Hp}(S:GH C G' H'){p:Addr}{o:HO}(hp:H' p=some o)(hg:G' p=none)(h0:C.X.H₀ p=none):GH C (upd G' p o) H' where
 sub:=fun b u q=>by
  by_cases hb:b=p
  ·subst hb;rw[Qz]at q;cases q;exact hp
  ·rw[Qh hb]at q;exact S.sub b u q
 g0:=S.g0.trans (Qt hg)
 new:=fun b h1 h2=>by
  by_cases hb:b=p
  ·subst hb;exact h0
  ·rw[Qh hb]at h2;exact S.new b h1 h2
 fr:=S.fr
 dom:=S.dom
 bs:=S.bs
 bh:=S.bh
theorem fnV{P:Program}{w:World}{K:W.Frag}{mg:Str->Option Value}{base:Heap}{CT:CTab}{fr:Bool}{x qual:Str}{st:Stmt}{f:Addr}{fd:FuncData}{dV:Value}{N ps:List Str}{k:Nat}{T:SD->Out Fl}
 (F:FunV K x qual st f fd dV) (S:Qr N ps (Qb st))
 (hb:∀(cdv:Value)(A:Around)(outer:List Env)(s:Shared)(H:Hp)(E:XK)(G:Hp),Room k (A.deeper (envOfC qual (Qb st) s.heap.objs.size f cdv))->DSs (dcOf P w K mg base CT N qual (Qb st) f cdv A outer s H E G) (Qm st) T):
 FnOk P w K mg base CX0 (k+1) f fd ps (SpD K CT fr (bodyF fr ps.length N.length T)):=by
 obtain⟨oc,od,kV,doc,pm,an,cdv,ct,osl,rfl,lk,hcd⟩:=F.ex
 have hpl:ps.length<=N.length:=by have:=congrArg List.length S.pre;rw[List.length_take]at this;omega
 have len:∀ vs H Q E,SpD K CT fr (bodyF fr ps.length N.length T) vs H Q E->vs.length=ps.length:=by
  intro vs H Q E ⟨ds,G0,sub,r,q⟩
  unfold bodyF at q
  by_cases hl:ds.length=ps.length
  ·rw[← r.length];exact hl
  ·rw[if_neg hl]at q;exact q.elim
 refine fn_of lk hcd S len fun A outer s H vs Q E hr hsp=>?_
 have hlen:=len vs H Q E hsp
 obtain⟨ds,G0,sub,r,q⟩:=hsp
 obtain⟨t,p1,q1⟩:=hb cdv A outer s H E G0 hr
 have hl:ds.length=ps.length:=by rw[r.length];exact hlen
 refine⟨t,p1.nox,?_⟩
 unfold bodyF at q
 rw[if_pos hl,Out.post_bind]at q
 have S0:StR (dcOf P w K mg base CT N qual (Qb st) f cdv A outer s H E G0) G0 H (L2.start N vs) (ds.map (fun d=>some (.k,d))++List.replicate (N.length - ps.length) none):={
  sub:=sub
  g0:=Same.refl _
  new:=fun b h1 h2=>absurd h1 h2
  fr:=fun b o e _=>e
  dom:=fun b e=>e
  bs:=Same.refl _
  bh:=fun b e=>e
  len:=by unfold L2.start;simp;omega
  fz:=fun i d e=>by
   obtain⟨d',e1,e2⟩:=QaL e
   cases e2
   obtain⟨v,e3,rv⟩:=r.get e1
   exact⟨v,Qge e3,rv⟩
  ow:=fun i d e=>by
   obtain⟨d',e1,e2⟩:=QaL e
   cases e2
  ln:=fun i d e=>by
   obtain⟨d',e1,e2⟩:=QaL e
   cases e2
  inj:=fun i j d e p _ h=>by
   obtain⟨d',e1,e2⟩:=QaL h
   cases e2
  sf:=fun i d e=>by
   obtain⟨d',e1,e2⟩:=QaL e
   cases e2
  su:=fun i j d e p _ h=>by
   obtain⟨d',e1,e2⟩:=QaL h
   cases e2 }
 refine q1 G0 H (L2.start N vs) _ _ S0 (Out.post_mono q fun fl kk=>?_)
 cases fl with
 | nx ς'=>exact fun σ' H' G' S' s'=>kk .non H' G' s' (fun b o e=>S'.fr b o e id) S'.sub S'.new (by unfold RetG;rw[if_neg (by cases fr<;>decide)];rfl)
 | bk ς'=>exact fun σ' H' G' S' s'=>kk.elim
 | ct ς'=>exact fun σ' H' G' S' s'=>kk.elim
 | rt b d=>
  intro v H' G' S' s' ret
  have kk':(if (!fr||b||d.scal)=true then Out.ok d else Out.stuck).post (fun d=>∀ v H' G',Same G0 G'->Same H H'->Same G' H'->(∀ b,G0 b=none->G' b≠none->H b=none)->RetG K CT fr H G' H' d v->Q v H') (fun _=>False):=kk
  rcases QL kk' with⟨hc,k2⟩ | ⟨_,k2⟩
  ·have k3:∀ v H' G',Same G0 G'->Same H H'->Same G' H'->(∀ b,G0 b=none->G' b≠none->H b=none)->RetG K CT fr H G' H' d v->Q v H':=k2
   cases b with
   | false=>
    refine k3 v H' G' s' (fun b o e=>S'.fr b o e id) S'.sub S'.new ?_
    unfold RetG
    have hn:¬ (fr && !d.scal)=true:=by revert hc;cases fr<;>cases d.scal<;>simp
    rw[if_neg hn]
    exact ret
   | true=>
    obtain⟨p,rfl,h0,hg,ow⟩:=(show ∃ p,v=.ref p/\H p=none/\G' p=none/\Own K CT G' H' p d from ret)
    cases fr with
    | true=>
     refine k3 _ H' G' s' (fun b o e=>S'.fr b o e id) S'.sub S'.new ?_
     have hs:d.scal=false:=by cases d<;>first | rfl | exact ow.elim
     unfold RetG
     rw[if_pos (by rw[hs];rfl)]
     exact⟨p,rfl,h0,hg,ow⟩
    | false=>
     obtain⟨o,ho⟩:=ow.there
     have S2:=GH.freezeR S' ho hg h0
     refine k3 _ H' _ (s'.trans (Qt hg)) (fun b o e=>S2.fr b o e id) S2.sub S2.new ?_
     unfold RetG
     rw[if_neg (by simp)]
     exact ow.known hg ho
  ·exact k2.elim
theorem FnOk.as{P:Program}{w:World}{K:W.Frag}{mg:Str->Option Value}{base:Heap}{CT:CTab}{fr:Bool}{k:Nat}{f:Addr}{fd:FuncData}{ps:List Str}{m m':List D->Out D}
 (F:FnOk P w K mg base CX0 k f fd ps (SpD K CT fr m)) (h:∀ ds,m' ds=.stuck∨m' ds=m ds):FnOk P w K mg base CX0 k f fd ps (SpD K CT fr m'):=by
 refine F.imp fun vs H Q E ⟨ds,G0,sub,r,q⟩=>⟨ds,G0,sub,r,?_⟩
 rcases h ds with e | e
 ·rw[e]at q;exact q.elim
 ·rw[← e];exact q
def DefOk(P:Program)(w:World)(K:W.Frag)(mg:Str->Option Value)(base:Heap)(CT:CTab)(x:Str)(k:Nat)(fr:Bool)(dd:List D)(m:List D->Out D):Prop:=
 ∃ f fd ps ds,FnOk P w K mg base CX0 k f fd ps (SpD K CT fr m)/\mg x=some (.ref f)/\W.keepIn K (.ref f)=true/\Binds K fd ps ds/\Vals (dd.map toV) ds
theorem QrJ{K:W.Frag}{CT:CTab}{H:Hp}:∀{dd:List D},dd.all D.scal=true->RepL K CT H dd (dd.map toV)
 | [],_=>rfl
 | d::ds,h=>by
  rw[List.all_cons,Bool.and_eq_true]at h
  exact⟨_,_,rfl,Qot h.1,QrJ h.2⟩
section
variable{C:Dc}{x:Str}{k:Nat}{fr:Bool}{dd:List D}{m:List D->Out D}{e:Expr}{es:List Expr}{A:SD->Out (List D)}{p pos:Pos}
theorem de_f(h:DefOk C.X.prog C.X.w C.X.K C.X.mg C.X.base C.CT x k fr dd m)(hr:Room k C.X.A)(ha:DA C (e::es) A)(hg:Gl C.X x)(hs:dd.all D.scal=true:=by rfl)(hx:∀ x,¬ C.XD x:=by exact fun _ h=>h)
 (hdb:(x == ("__debug__":Str))=false:=by decide) (he:starEach (e::es) C.X.env=(false,eval e C.X.env)::starEach es C.X.env:=by rfl) (hpl:(backTo pos (starEach es C.X.env)).any (·.1)=false:=by rfl):
 DE C (.Call (.Name x p) (e::es) [] pos) (eA (fun xs=>m (xs++dd)) A):=by
 obtain⟨f,fd,ps,ds,F,hm,hk,hb,hd⟩:=h
 obtain⟨t,p1,q1⟩:=ha
 refine⟨_,Qg7 F hr hg hm hk hb hd pass0 p1 hdb he hpl,fun G H σ ς Q S q=>?_⟩
 unfold eA at q
 rw[Out.post_bind]at q
 refine q1 G H σ ς _ S (Out.post_mono q fun xs kk vs H1 G1 S1 a1 b1 r1=>⟨xs++dd,G1,S1.sub,r1.append (QrJ hs),?_⟩)
 cases z:m (xs++dd) with
 | stuck=>rw[z]at kk;exact kk.elim
 | exc y=>rw[z]at kk;exact absurd kk (hx y)
 | ok d=>
  rw[z]at kk
  intro v H' G' g1 h1 s1 n1 ret
  unfold RetG at ret
  by_cases hc:(fr && !d.scal)=true
  ·rw[if_pos hc]at ret
   obtain⟨pp,rfl,h0,hg',ow⟩:=ret
   obtain⟨o,ho⟩:=ow.there
   have S2:=(S1.grow h1 g1 s1 n1).freeze ho hg' (S1.h0none h0) (fun i d' z1 z2=>by
    obtain⟨o',ho'⟩:=S1.own_ne z1 z2
    rw[h0]at ho';cases ho')
   exact(show KD C G H σ ς Q d from kk) _ _ _ S2 (a1.trans h1) ((b1.trans g1).trans (Qt hg')) (ow.known hg' ho)
  ·rw[if_neg hc]at ret
   exact(show KD C G H σ ς Q d from kk) v H' G' (S1.grow h1 g1 s1 n1) (a1.trans h1) (b1.trans g1) ret
end
abbrev bitsI(i:Int):Nat:=Builtin.Int.intBits i
theorem QlS:∀{xs:List W.WData}{x:W.WData},x∈xs->x.weight<=W.WData.weightAll xs
 | y::r,x,hx=>by
  rcases List.mem_cons.mp hx with rfl | hx'
  ·simp only[W.WData.weightAll];omega
  ·have:=QlS hx'
   simp only[W.WData.weightAll];omega
theorem Qxx{ns:List Int}(h:W.WData.layableAll [W.WData.list (ns.map W.WData.int)]=true):∀ z∈ns,bitsI z<=1048576:=fun z hz=>by
 have h1:(W.WData.list (ns.map W.WData.int)).layable=true:=by simpa [W.WData.layableAll] using h
 have h2:(W.WData.list (ns.map W.WData.int)).weight<=2 ^ 20:=of_decide_eq_true (Bool.and_eq_true_iff.mp h1).2
 have h3:(W.WData.int z).weight<=W.WData.weightAll (ns.map W.WData.int):=QlS (List.mem_map.mpr ⟨z,hz,rfl⟩)
 have h4:(W.WData.int z).weight<=1048576:=by
  have e:(2:Nat) ^ 20=1048576:=by decide
  simp only[W.WData.weight]at h2
  omega
 simpa only[W.WData.weight,Builtin.Int.intBits] using h4
theorem walk_of{l:W.OpenLaw}{n k:Nat}{q:Program}{loose:List Str}{XP:(Str->Option Value)->Heap->Prop}{YP:World->Heap->Prop}{d:DefRec}{K:Params->W.Frag}{CX:World->CXT}{sp:World->Sp}{x:Str}
 (hn:l.most=some n) (hn2:n<=sizeLine) (hdf:d.params.defaults=[]) (hr:Room k callerA)
 (hY:∀(w:World)(h:Heap),YP w h->(K w.params).In h)
 (F:∀(w:World)(mg:Str->Option Value)(fa:Addr)(h:Heap),(K w.params).In h->h.Ns mainGlobals mg->mg d.name=some (.ref fa)->
  ∃ fd:FuncData,(∀(s:Shared)(u:Value),BindsTo s fd ⟨[u],[]⟩ [(x,u)])/\
   ∀ base:Heap,(K w.params).In base->base.Ns mainGlobals mg->FnOk l.prog w (K w.params) mg base (CX w) k fa fd [x] (sp w))
 (hsp:∀(w:World)(H:Hp)(a:Addr)(ns:List Int),ns.length<=n->(∀ z∈ns,bitsI z<=1048576)->Only H->SqL (K w.params) H a (ns.map V.int)->sp w [.ref a] H (fun v _=>v=.bl true) fun _ _ _=>False)
 (hCX:∀(w:World)(H:Hp)(s:Shared)(e:Value)(s':Shared),CX w [] H s (fun _ _ _=>False) e s'->False):
 W.WalkO q loose XP YP l.row.toRowW d [] (fun f vs=>PySem.call f vs):=by
 intro w s₀ s₁ mg mb G Y fa o pm cd doc dV kV ho hd hcd hD hmg hg args vals as hpre hlay hrd hwl hlo
 obtain rfl:dV=.none:=W.Dflts.none hD hdf
 obtain rfl:kV=.none:=W.Dflts.noKw hD
 obtain⟨a,vs,ns,rfl,rfl,hobj,hints,hlen⟩:=Att.script_of hn hpre hwl
 have KX:=hY w _ Y
 obtain⟨fd,hb,hF⟩:=F w mg fa _ KX G.T.g hmg
 refine W.enter_call (codeAny_mono (QEV KX G.T.g G.T.b G.T.builtins G.T.nolimit hg hobj hints (Nat.le_trans hlen hn2) hr hF hb (fun H hO hS=>hsp w H a ns hlen (Qxx hlay) hO hS) fun H e s'=>hCX w H s₁ e s') fun r s' hq=>?_)
 obtain⟨rfl,h2,h3,h4⟩:=hq
 exact⟨.inl ⟨.bool true,.bool true,[],rfl,fun _=>rfl,.bool true,Att.post_true l _,fun _=>⟨List.Pairwise.nil,fun _ hm=>(nomatch hm)⟩⟩,h2,h3,h4⟩
end DL
namespace DL
open PySem PySem.Spec PyProof.Rows L2
def rCatS(K:W.Frag):R2:=fun x y H Q=>∃ l b xs zs,x=.ref l/\y=.ref b/\SqL K H l xs/\SqL K H b zs/\xs.length+zs.length<=sizeLine/\∀ p,H p=none->Q (.ref p) (upd H p (.lst (xs++zs)))
theorem Qzj{X:Cx}:OpR X (binaryOp .Add) (rCatS X.K):=by
 intro pins s σ H x y v u Q I rx ry h
 obtain⟨l,b,xs,zs,rfl,rfl,hH,hB,hz,q⟩:=h
 cases rx
 cases ry
 obtain⟨its,r,pl,hz1⟩:=I.list hH
 obtain⟨its2,r2,pl2,hz2⟩:=I.list hB
 obtain⟨⟨cls,dd,data,sl⟩,n,ho,hc,hdd,hd⟩:=pl
 obtain⟨⟨cls2,dd2,data2,sl2⟩,n2,ho2,hc2,hdd2,hd2⟩:=pl2
 simp only at hc hd hc2 hd2
 subst hc hd hc2 hd2
 have e:its.toArray++its2.toArray=(its++its2).toArray:=by simp
 have h1:=r.length
 have h2:=r2.length
 refine concat_meets ⟨_,ho,rfl⟩ ⟨_,ho2,rfl⟩ noFill_list_add seq_list_add PySem.F.slot_list_add PySem.F.entry_list_add (PySem.F.args_list_add_2 _ _) (list_addW l b its.toArray its2.toArray n n2 dd dd2 sl sl2 (by rw[List.size_toArray,List.size_toArray];omega)) ⟨ho,ho2,?_⟩
 rw[e]
 exact⟨.ref _,_,I.lnew (t':=s.toks) (r.append r2) (by rw[List.length_append];omega),rfl,q _ I.fresh⟩
def dCat:D->D->Out D
 | .lst xs,.lst ys=>if fits (xs.length+ys.length)=true then .ok (.lst (xs++ys)) else .stuck
 | _,_=>.stuck
def dRep:D->D->Out D
 | .lst xs,.int k=>if (decide (-(2 ^ 63)<=k)&&decide (k<2 ^ 63)&&fits (xs.length * k.toNat))=true then .ok (.lst (List.replicate k.toNat xs).flatten) else .stuck
 | _,_=>.stuck
section
variable{C:Dc}{a b:Expr}{A B:SD->Out D}{pos:Pos}
theorem Qr2(ha:DE C a A)(hb:DE C b B):DF C (.BinOp a .Add b pos) (e2 dCat A B):=by
 obtain⟨ta,p1,q1⟩:=ha
 obtain⟨tb,p2,q2⟩:=hb
 refine⟨_,pe_op Qzj p1 p2,fun G H σ ς Q S q=>?_⟩
 unfold e2 at q
 rw[Out.post_bind]at q
 refine q1 G H σ ς _ S (Out.post_mono q fun x k v1 H1 G1 S1 a1 b1 r1=>?_)
 rw[Out.post_bind]at k
 refine q2 G1 H1 σ ς _ S1 (Out.post_mono k fun y k2 v2 H2 G2 S2 a2 b2 r2=>?_)
 have r1':=Rep.mono b2 x v1 r1
 cases x with
 | lst xs=>
  cases y with
  | lst ys=>
   obtain⟨p,vs,rfl,h2,h3⟩:=r1'
   obtain⟨p',vs',rfl,h2',h3'⟩:=r2
   rcases QL (show(if fits (xs.length+ys.length)=true then Out.ok (D.lst (xs++ys)) else .stuck).post _ _ from k2) with⟨hc,k3⟩ | ⟨_,k3⟩
   ·exact⟨p,p',vs,vs',rfl,rfl,S2.sub.seq h2,S2.sub.seq h2',by rw[← h3.length, ← h3'.length];exact of_decide_eq_true hc,
     KF.lst (KF.later (show KF C G H σ ς Q (.lst (xs++ys)) from k3) (a1.trans a2) (b1.trans b2)) S2 (h3.append h3')⟩
   ·exact k3.elim
  | _=>exact k2.elim
 | _=>cases y<;>exact k2.elim
theorem QCw(ha:DF C a A)(hb:DB C b B):DF C (.BinOp a .Mult b pos) (e2 dRep A B):=by
 obtain⟨ta,p1,q1⟩:=ha
 obtain⟨tb,p2,q2⟩:=hb
 refine⟨_,pe_op QGO p1 p2,fun G H σ ς Q S q=>?_⟩
 unfold e2 at q
 rw[Out.post_bind]at q
 refine q1 G H σ ς _ S (Out.post_mono q fun x k p H1 G1 S1 a1 b1 hp hg ow=>?_)
 rw[Out.post_bind]at k
 refine q2 G1 H1 σ ς _ S1 (Out.post_mono k fun y k2 v2 H2 G2 S2 a2 b2 r2=>?_)
 cases x with
 | lst xs=>
  cases y with
  | int i=>
   cases r2
   obtain⟨vs,h2,h3⟩:=ow
   rcases QL (show(if (decide (-(2 ^ 63)<=i)&&decide (i<2 ^ 63)&&fits (xs.length * i.toNat))=true then Out.ok (D.lst (List.replicate i.toNat xs).flatten) else .stuck).post _ _ from k2) with⟨hc,k3⟩ | ⟨_,k3⟩
   ·rw[Bool.and_eq_true,Bool.and_eq_true]at hc
    have h3':RepL C.X.K C.CT G2 xs vs:=RepL.mono b2 xs vs h3
    exact⟨p,i,vs,rfl,rfl,a2 _ _ h2,of_decide_eq_true hc.1.1,of_decide_eq_true hc.1.2,by rw[← h3'.length];exact of_decide_eq_true hc.2,
     KF.lst (KF.later (show KF C G H σ ς Q (.lst (List.replicate i.toNat xs).flatten) from k3) (a1.trans a2) (b1.trans b2)) S2 (h3'.rep i.toNat)⟩
   ·exact k3.elim
  | _=>exact k2.elim
 | _=>cases y<;>exact k2.elim
def dList:D->Out D
 | .lst xs=>.ok (.lst xs)
 | .tup xs=>.ok (.lst xs)
 | _=>.stuck
theorem Qex{p:Pos}(hg:Gl C.X "list")(hm:C.X.mg "list"=none)(ha:DE C a A)
 (he:starEach (a::[]) C.X.env=(false,eval a C.X.env)::starEach [] C.X.env:=by rfl):DF C (.Call (.Name "list" p) [a] [] pos) (e1 dList A):=by
 obtain⟨ta,p1,q1⟩:=ha
 refine⟨_,Qpr Qsw hg hm PyProof.Rows.Boot.«list» (Qax p1 QbT he) (by decide) (by decide) he rfl,fun G H σ ς Q S q=>?_⟩
 unfold e1 at q
 rw[Out.post_bind]at q
 refine q1 G H σ ς _ S (Out.post_mono q fun x k v1 H1 G1 S1 a1 b1 r1=>?_)
 cases x with
 | lst xs=>
  obtain⟨p,vs,rfl,h2,h3⟩:=r1
  exact⟨p,vs,rfl,.inl (S1.sub.seq h2),KF.lst (KF.later (show KF C G H σ ς Q (.lst xs) from k) a1 b1) S1 h3⟩
 | tup xs=>
  obtain⟨p,vs,rfl,h2,h3⟩:=r1
  exact⟨p,vs,rfl,.inr (Same.sqT S1.sub h2),KF.lst (KF.later (show KF C G H σ ς Q (.lst xs) from k) a1 b1) S1 h3⟩
 | _=>exact k.elim
end
section
variable{C:Dc}{e:Expr}{es:List Expr}{A:SD->Out (List D)}{p pos:Pos}
def dInt:D->Out D
 | .int i=>.ok (.int i)
 | .bl b=>.ok (.int (if b then 1 else 0))
 | _=>.stuck
theorem QjY(hg:Gl C.X "int")(hm:C.X.mg "int"=none)(ha:DAB C (e::es) A)
 (he:starEach (e::es) C.X.env=(false,eval e C.X.env)::starEach es C.X.env:=by rfl) (hpl:(backTo pos (starEach es C.X.env)).any (·.1)=false:=by rfl):DE C (.Call (.Name "int" p) (e::es) [] pos) (eA (f1 dInt) A):=by
 refine QDP QDf (Qmu ?_) (QjS ?_) hg hm PyProof.Rows.Boot.«int» ha (by decide) (by decide) he hpl
 ·intro G H σ ς Q x v S r q
  cases x with
  | int i=>cases r;exact .inl ⟨i,rfl,q.2⟩
  | bl b=>cases r;exact .inr ⟨b,rfl,q.2⟩
  | _=>exact q.elim
 ·intro x
  cases x<;>first | exact rfl | exact True.intro
end
def isaT(T:String):D->Out Bool
 | .ins _ _=>.stuck
 | .err _=>.stuck
 | .bl _=>.ok (T == "bool"||T == "int")
 | d=>.ok (Q9 d == T)
structure Kit(K:W.Frag)(T:String):Prop where
 h:∀ d:D,(match d with | .ins _ _=>True | .err _=>True | .bl _=>W.kitOne K (.type "bool") (.type T)=some (T == "bool"||T == "int") | d=>W.kitOne K (.type (Q9 d)) (.type T)=some (Q9 d == T))
section
variable{C:Dc}{e:Expr}{E:SD->Out D}{p pc pos:Pos}
theorem Qa2(T:Str){T':String}(k:Kit C.X.K T')(hgT:Gl C.X T)(hmT:C.X.mg T=none)(hb:bootBuiltins T=some (.type T'))(hg:Gl C.X "isinstance")(hm:C.X.mg "isinstance"=none)(h:DB C e E)
 (hn:T≠"__name__":=by decide) (hdb:(T == ("__debug__":Str))=false:=by decide)
 (he:starEach (e::[.Name T pc]) C.X.env=(false,eval e C.X.env)::starEach [.Name T pc] C.X.env:=by rfl) (he2:starEach (.Name T pc::[]) C.X.env=(false,eval (.Name T pc) C.X.env)::starEach [] C.X.env:=by rfl)
 (hpl:(backTo pos (starEach [.Name T pc] C.X.env)).any (·.1)=false:=by rfl):DE C (.Call (.Name "isinstance" p) [e,.Name T pc] [] pos) (eIsa (isaT T') E):=by
 refine QHz (vc:=.ty T') (uc:=.type T') (QFe hgT hmT hb rfl hn hdb) rfl (fun d=>?_) hg hm h he he2 hpl
 have:=k.h d
 cases d<;>first | exact True.intro | exact this
end
theorem Qjk{K:W.Frag}{T:String}(h1:W.kitOne K (.type "NoneType") (.type T)=some ("NoneType" == T))(h2:W.kitOne K (.type "bool") (.type T)=some (T == "bool"||T == "int"))
 (h3:W.kitOne K (.type "int") (.type T)=some ("int" == T)) (h4:W.kitOne K (.type "str") (.type T)=some ("str" == T)) (h5:W.kitOne K (.type "list") (.type T)=some ("list" == T))
 (h6:W.kitOne K (.type "tuple") (.type T)=some ("tuple" == T)) (h7:W.kitOne K (.type "dict") (.type T)=some ("dict" == T)):Kit K T:=⟨fun d=>by
 cases d with
 | non=>exact h1
 | bl _=>exact h2
 | int _=>exact h3
 | str _=>exact h4
 | lst _=>exact h5
 | tup _=>exact h6
 | dic _=>exact h7
 | ins _ _=>exact True.intro
 | err _=>exact True.intro⟩
theorem QzJ{K:W.Frag}:Kit K "int":=Qjk (by rfl) (by rfl) (by rfl) (by rfl) (by rfl) (by rfl) (by rfl)
theorem Qsy{K:W.Frag}:Kit K "bool":=Qjk (by rfl) (by rfl) (by rfl) (by rfl) (by rfl) (by rfl) (by rfl)
theorem Qzk{K:W.Frag}:Kit K "str":=Qjk (by rfl) (by rfl) (by rfl) (by rfl) (by rfl) (by rfl) (by rfl)
theorem Qes{K:W.Frag}:Kit K "list":=Qjk (by rfl) (by rfl) (by rfl) (by rfl) (by rfl) (by rfl) (by rfl)
theorem Qjb{K:W.Frag}:Kit K "tuple":=Qjk (by rfl) (by rfl) (by rfl) (by rfl) (by rfl) (by rfl) (by rfl)
def Qa1(i:Nat)(E:SD->Out D):SD->Out Fl:=fun ς=>match ς[i]? with
 | some (some (.o,.lst xs))=>E ς>>=fun d=>if decide (xs.length<sizeLine)=true then .ok (.nx (ς.set i (some (.o,.lst (xs++[d]))))) else .stuck
 | _=>.stuck
def sPutO(i:Nat)(I E:SD->Out D):SD->Out Fl:=fun ς=>E ς>>=fun d=>match ς[i]? with
 | some (some (.o,.lst xs))=>I ς>>=fun k=>match k with
  | .int k=>optO (ixN xs.length k)>>=fun j=>.ok (.nx (ς.set i (some (.o,.lst (xs.set j d)))))
  | _=>.stuck
 | _=>.stuck
section
variable{C:Dc}{G H:Hp}{σ:St}{ς:SD}
theorem Qeu{α:Type}{xs:List α}{i:Nat}{x:α}(h:xs[i]?=some x):xs.set i x=xs:=by
 obtain⟨hi,e⟩:=List.getElem?_eq_some_iff.mp h
 rw[← e];exact List.set_getElem_self hi
theorem StR.write(S:StR C G H σ ς){i:Nat}{p:Addr}{xs ys:List D}{vs ws:List V}(hi:ς[i]?=some (some (.o,.lst xs)))(hp:σ[i]?=some (some (.ref p)))(hH:H p=some (.lst vs))(r:RepL C.X.K C.CT G ys ws):
 StR C G (upd H p (.lst ws)) σ (ς.set i (some (.o,.lst ys))):=by
 obtain⟨p',e1,hg,h0,ow⟩:=S.ow i _ hi
 rw[hp]at e1;cases e1
 have hil:i<ς.length:=(List.getElem?_eq_some_iff.mp hi).1
 have ne:∀ b o,G b=some o->b≠p:=fun b o e z=>by subst z;rw[hg]at e;cases e
 have S':StR C G (upd H p (.lst ws)) (σ.set i (some (.ref p))) (ς.set i (some (.o,.lst ys))):={
  sub:=fun b o e=>by rw[Qh (ne b o e)];exact S.sub b o e
  g0:=S.g0
  new:=S.new
  fr:=fun b o e m=>by
   rw[Qh (by rintro rfl;rw[h0]at e;cases e)];exact S.fr b o e m
  dom:=fun b e=>by
   by_cases hb:b=p
   ·subst hb;exact h0
   ·rw[Qh hb]at e;exact S.dom b e
  bs:=fun b o e=>by
   rw[Qh (by rintro rfl;rw[S.bh _ h0]at e;cases e)];exact S.bs b o e
  bh:=S.bh
  len:=by rw[List.length_set,List.length_set];exact S.len
  fz:=fun j d h=>by
   rcases Qp h with⟨rfl,h2,l⟩ | ⟨hne,h2⟩
   ·cases h2
   ·rw[Qk hne];exact S.fz j d h2
  ow:=fun j d h=>by
   rcases Qp h with⟨rfl,h2,l⟩ | ⟨hne,h2⟩
   ·cases h2
    exact⟨p,Qev (by rw[S.len];exact l),hg,h0,⟨ws,Qz,r⟩⟩
   ·rw[Qk hne]
    obtain⟨q,a,b,c,w⟩:=S.ow j d h2
    have qp:q≠p:=by
     rintro rfl
     exact S.inj i j _ _ q hne hi h2 hp a
    exact⟨q,a,b,c,w.mono (Same.refl G) fun o z=>by rw[Qh qp];exact z⟩
  ln:=fun j d h=>by
   rcases Qp h with⟨rfl,h2,l⟩ | ⟨hne,h2⟩
   ·cases h2
   ·rw[Qk hne];exact S.ln j d h2
  inj:=fun j k d1 d2 q hjk h1 h2 h3=>by
   have get:∀(j:Nat) d,(ς.set i (some (.o,D.lst ys)))[j]?=some (some (.o,d))->∃ d',ς[j]?=some (some (.o,d')):=fun j d h=>by
    rcases Qp h with⟨rfl,h2,l⟩ | ⟨hne,h2⟩
    ·exact⟨_,hi⟩
    ·exact⟨_,h2⟩
   obtain⟨d1',g1⟩:=get j d1 h1
   obtain⟨d2',g2⟩:=get k d2 h2
   rw[Qeu hp]at h3 ⊢
   exact S.inj j k d1' d2' q hjk g1 g2 h3
  sf:=fun j d h=>by
   rcases Qp h with⟨rfl,h2,l⟩ | ⟨hne,h2⟩
   ·cases h2
   ·rw[Qk hne]
    obtain⟨q,a,b,c,m,z,w⟩:=S.sf j d h2
    have qp:q≠p:=by
     rintro rfl
     exact c h0
    exact⟨q,a,b,c,m,z,w.mono (Same.refl G) fun o z=>by rw[Qh qp];exact z⟩
  su:=fun j k d1 d2 q hjk h1 h2 h3=>by
   rcases Qp h1 with⟨rfl,q1,l⟩ | ⟨n1,q1⟩
   ·cases q1
   ·rcases Qp h2 with⟨rfl,q2,l⟩ | ⟨n2,q2⟩
    ·cases q2
    ·rw[Qk n1]at h3
     rw[Qk n2];exact S.su j k d1 d2 q hjk q1 q2 h3 }
 rw[Qeu hp]at S'
 exact S'
variable{a e:Expr}{A E:SD->Out D}{pos p1 p2 p3:Pos}{x:Str}
theorem Qcp(i:Nat)(he:DE C e E)(hN:C.X.N[i]?=some x:=by rfl)(hv:Vis C.X.env.scope x:=by first | exact Or.inl rfl | exact Or.inr (oi rfl) | exact Or.inr (Or.inr rfl))
 (hd:(x == ("__debug__":Str))=false:=by decide) (hcd:(x == ("__classdict__":Str))=false:=by decide)
 (hbase:attributeBase (.Name x p1) "append" C.X.env (eval (.Name x p1) C.X.env)=eval (.Name x p1) C.X.env:=by rfl)
 (hfew:((backTo p3 (starEach (e::[]) C.X.env)).all (fun x => !x.1)&&(backToKw p3 (keywordEach [] C.X.env)).all (fun x=>x.1.isSome)
  && decide ((e::[]).length+([]:List Keyword).length+(if ([]:List Keyword).isEmpty then 0 else 1)<30))=true:=by rfl)
 (hline:(p2.endLine == p3.line)=true:=by rfl) (hs:starEach (e::[]) C.X.env=(false,eval e C.X.env)::starEach [] C.X.env:=by rfl)
 (hsw:swapsWith (.Call (.Attribute (.Name x p1) "append" p2) [e] [] p3) none pos.line C.X.env=pure false:=by rfl):
 DS C (.Expr (.Call (.Attribute (.Name x p1) "append" p2) [e] [] p3) pos) (Qa1 i E):=by
 obtain⟨t,p,q⟩:=he
 refine⟨_,QjU (pe_bm PySem.F.plainAttrs_list PySem.F.slot_list_append PySem.F.type_list_append Qjt (QbM (i:=i) hN hv hd hcd) (Qax p QbT hs) hbase hfew hline hs rfl) hsw,fun G H σ ς W S k=>?_⟩
 unfold Qa1 at k
 split at k
 ·rename_i xs z
  obtain⟨pp,e1,hg,h0,ow⟩:=S.ow i _ z
  obtain⟨vs,hv1,hv2⟩:=ow
  rw[Out.post_bind]at k
  refine⟨_,e1,.inl ⟨rfl,vs,SqL.of hv1⟩,q G H σ ς _ S (Out.post_mono k fun d k2 v H1 G1 S1 a1 b1 r1=>?_)⟩
  rcases QL k2 with⟨hc,k3⟩ | ⟨_,k3⟩
  ·have hl:=hv2.length
   refine⟨pp,vs,v,rfl,rfl,a1 _ _ hv1,by rw[← hl];exact of_decide_eq_true hc,?_⟩
   exact k3 σ _ G1 (S1.write z e1 (a1 _ _ hv1) ((RepL.mono b1 xs vs hv2).append (RepL.one r1))) b1
  ·exact k3.elim
 ·exact k.elim
theorem Qzg(i:Nat)(hi:DB C a A)(he:DE C e E)(hN:C.X.N[i]?=some x:=by rfl)(hv:Vis C.X.env.scope x:=by first | exact Or.inl rfl | exact Or.inr (oi rfl) | exact Or.inr (Or.inr rfl))
 (hd:(x == ("__debug__":Str))=false:=by decide) (hcd:(x == ("__classdict__":Str))=false:=by decide)
 (hst:∀ v,assign (.Subscript (.Name x p1) a p2) C.X.env v=(do
  let ov ← holding [v] (eval (.Name x p1) C.X.env)
  let iv ← holding [v,ov] (eval a C.X.env)
  standAt p2
  holding [v,ov,iv] (setItem ov iv v)
  release [v,ov,iv] []):=by intro _;rfl)
 (hs:swapsWithSole [.Subscript (.Name x p1) a p2] e pos.line C.X.env=pure false:=by rfl) (hw:swappedStores [.Subscript (.Name x p1) a p2] e C.X.env=pure none:=by rfl)
 (h1:(assignEach [.Subscript (.Name x p1) a p2] C.X.env).map (·.2)=[assign (.Subscript (.Name x p1) a p2) C.X.env]:=by rfl):DS C (.Assign [.Subscript (.Name x p1) a p2] e pos) (sPutO i A E):=by
 obtain⟨t,p,q⟩:=he
 obtain⟨t2,p2,q2⟩:=hi
 refine⟨_,QCE p (QG3 (QbM (i:=i) hN hv hd hcd) p2 QET hst) hs hw h1,fun G H σ ς W S k=>?_⟩
 unfold sPutO at k
 rw[Out.post_bind]at k
 refine q G H σ ς _ S (Out.post_mono k fun d k v H1 G1 S1 a1 b1 r1=>?_)
 split at k
 ·rename_i xs z
  obtain⟨pp,e1,hg,h0,ow⟩:=S1.ow i _ z
  obtain⟨vs,hv1,hv2⟩:=ow
  rw[Out.post_bind]at k
  refine⟨_,e1,q2 G1 H1 σ ς _ S1 (Out.post_mono k fun y k2 w H2 G2 S2 a2 b2 r2=>?_)⟩
  cases y with
  | int j=>
   cases r2
   have k2':(optO (ixN xs.length j)>>=fun j=>Out.ok (Fl.nx (ς.set i (some (.o,D.lst (xs.set j d)))))).post (FlK C G W) C.XD:=k2
   rw[Out.post_bind]at k2'
   obtain⟨jj,ej,k3⟩:=Qb1 k2'
   refine⟨pp,vs,j,jj,rfl,rfl,a2 _ _ hv1,by rw[← hv2.length];exact ej,?_⟩
   exact k3 σ _ G2 (S2.write z e1 (a2 _ _ hv1) ((RepL.mono b2 xs vs hv2).set (Rep.mono b2 d v r1) jj)) (b1.trans b2)
  | _=>exact k2.elim
 ·exact k.elim
end
end DL
namespace DL
open PySem PySem.Spec PyProof.Rows L2
structure DIt(K:W.Frag)(CT:CTab)(G1:Hp)(J:It)(ds:List D):Prop where
 go:∀ G H (i:Nat) d,Same G1 G->Same G H->ds[i]?=some d->J.go i H/\∀ x H',J.yld i H x H'->∃ G',Same G G'/\Same H H'/\Same G' H'/\(∀ b,G b=none->G' b≠none->H b=none)/\Rep K CT G' d x
 stop:∀ G H,Same G1 G->Same G H->J.stop ds.length H
structure DItB(K:W.Frag)(CT:CTab)(B1 G1:Hp)(J:It)(ds:List D):Prop where
 go:∀ G H (i:Nat) d,Same G1 G->Same G H->Same B1 H->ds[i]?=some d->J.go i H/\∀ x H',J.yld i H x H'->∃ G',Same G G'/\Same H H'/\Same G' H'/\(∀ b,G b=none->G' b≠none->H b=none)/\Rep K CT G' d x
 stop:∀ G H,Same G1 G->Same G H->Same B1 H->J.stop ds.length H
theorem DIt.b{K:W.Frag}{CT:CTab}{B1 G1:Hp}{J:It}{ds:List D}(h:DIt K CT G1 J ds):DItB K CT B1 G1 J ds:=⟨fun G H i d a b _ e=>h.go G H i d a b e,fun G H a b _=>h.stop G H a b⟩
def DIB(C:Dc)(tg iter:Expr)(its:SD->Out (List D)):Prop:=∃ wi,PI C.X tg iter wi/\∀ G H σ ς (R:It->Hp->Prop),StR C G H σ ς->
 (its ς).post (fun ds=>∀ J H1 G1,StR C G1 H1 σ ς->Same H H1->Same G G1->DItB C.X.K C.CT H1 G1 J ds->R J H1) C.XD->wi σ H R
def DI(C:Dc)(tg iter:Expr)(its:SD->Out (List D)):Prop:=∃ wi,PI C.X tg iter wi/\∀ G H σ ς (R:It->Hp->Prop),StR C G H σ ς->
 (its ς).post (fun ds=>∀ J H1 G1,StR C G1 H1 σ ς->Same H H1->Same G G1->DIt C.X.K C.CT G1 J ds->R J H1) C.XD->wi σ H R
section
variable{C:Dc}{e tg iter:Expr}{E:SD->Out D}{body:List Stmt}{T U:SD->Out Fl}{pos:Pos}{g:D->SD->Out SD}{its:SD->Out (List D)}
theorem DI.b(h:DI C tg iter its):DIB C tg iter its:=by
 obtain⟨wi,p,q⟩:=h
 exact⟨wi,p,fun G H σ ς R S k=>q G H σ ς R S (Out.post_mono k fun ds kd J H1 G1 S1 a b dit=>kd J H1 G1 S1 a b dit.b)⟩
theorem QDQ{K:W.Frag}{CT:CTab}{G1:Hp}{a:Addr}{ds:List D}{vs:List V}(h:SqL K G1 a vs)(r:RepL K CT G1 ds vs):DIt K CT G1 (Itl K a) ds where
 go:=fun G H i d s1 sH hd=>by
  obtain⟨v,hv,rv⟩:=r.get hd
  have hq:SqL K H a vs:=sH.seq (s1.seq h)
  refine⟨⟨vs,v,hq,hv⟩,fun x H' ⟨e,y⟩=>?_⟩
  have ex:vs[i]?=some x:=y vs hq
  rw[hv]at ex;cases ex
  subst e
  exact⟨G,Same.refl _,Same.refl _,sH,fun b g n=>absurd g n,Rep.mono s1 d v rv⟩
 stop:=fun G H s1 sH=>⟨vs,sH.seq (s1.seq h),by rw[r.length];exact Nat.le_refl _⟩
theorem QBL{K:W.Frag}{CT:CTab}{G1:Hp}{lo:Int}{n:Nat}:DIt K CT G1 (Itr lo n) (Qa6 lo n) where
 go:=fun G H i d s1 sH hd=>by
  have hi:i<n:=by
   have:=(List.getElem?_eq_some_iff.mp hd).1
   rw[Ql0]at this;exact this
  rw[QBo hi]at hd;cases hd
  exact⟨hi,fun x H' ⟨e,y⟩=>by
   subst e y
   exact⟨G,Same.refl _,Same.refl _,sH,fun b g n=>absurd g n,rfl⟩⟩
 stop:=fun G H s1 sH=>by rw[Ql0];exact Nat.le_refl _
theorem Qag(h:DE C iter E):DI C tg iter (itL E):=by
 obtain⟨t,p,q⟩:=h
 refine⟨_,Qm9 p,fun G H σ ς R S k=>?_⟩
 unfold itL at k
 rw[Out.post_bind]at k
 refine q G H σ ς _ S (Out.post_mono k fun d k v H1 G1 S1 a1 b1 r1=>?_)
 cases d with
 | lst xs=>
  obtain⟨a,vs,rfl,h2,h3⟩:=r1
  exact⟨a,rfl,⟨vs,S1.sub.seq h2⟩,k _ H1 G1 S1 a1 b1 (QDQ h2 h3)⟩
 | _=>exact k.elim
theorem Qaw{a:Expr}{A:SD->Out D}{p1 p2:Pos}(hgl:Gl C.X "range")(hm:C.X.mg "range"=none)(ha:DB C a A)
 (hst:starEach [a] C.X.env=(false,eval a C.X.env)::starEach [] C.X.env:=by rfl):DI C tg (.Call (.Name "range" p1) [a] [] p2) (itR1 A):=by
 obtain⟨t,p,q⟩:=ha
 refine⟨_,QBX hgl hm (Qax p QbT hst) hst,fun G H σ ς R S k=>?_⟩
 unfold itR1 at k
 rw[Out.post_bind]at k
 refine q G H σ ς _ S (Out.post_mono k fun d k v H1 G1 S1 a1 b1 r=>?_)
 cases d with
 | int n=>
  cases r
  rcases QL k with⟨hc,k⟩ | ⟨_,k⟩
  ·obtain⟨c1,c2⟩:=QA1 hc
   exact⟨n,rfl,c1,c2,k _ H1 G1 S1 a1 b1 QBL⟩
  ·exact k.elim
 | _=>exact k.elim
theorem QbL(hp:PassesOwn (model C.X.prog C.X.w) C.X.A C.X.env C.X.xe)(hc:C.X.calm=true)(hi:DI C tg iter its)(hg:DG C tg g)(hne:noExc g)(hb:DSs C body T)
 (hs:∀ x,foldedSetIterable iter C.X.env x=pure x:=by intro _;rfl):DS C (.For tg iter body [] pos) (sFor g its T):=by
 obtain⟨t0,p0,q0⟩:=hi
 obtain⟨t1,p1,q1⟩:=hg
 obtain⟨t2,p2,q2⟩:=hb
 refine⟨_,QB5 hp hc p0 p1 p2 hs,fun G H σ ς W S k=>?_⟩
 unfold sFor at k
 rw[Out.post_bind]at k
 refine q0 G H σ ς _ S (Out.post_mono k fun xs k J H1 G1 S1 a1 b1 dit=>?_)
 refine⟨fun i m σ' H'=>m=xs.length - i/\i<=xs.length/\∃ G' ς',StR C G' H' σ' ς'/\Same G1 G'/\(loopD (fun x ς=>g x ς>>=fun ς'=>T ς') (xs.drop i) ς').post (FlK C G' W) C.XD,
  ⟨xs.length,by simp,Nat.zero_le _,G1,ς,S1,Same.refl _,Out.post_mono (by simpa using k) fun f k=>FlK.later k b1⟩,?_⟩
 rintro i m σ' H' ⟨rfl,hle,G',ς',S',s',q'⟩
 by_cases hlt:i<xs.length
 ·have hd:xs[i]?=some xs[i]:=by simp[hlt]
  obtain⟨hgo,hy⟩:=dit.go G' H' i _ s' S'.sub hd
  refine .inr ⟨hgo,fun σ2 H2=>∃ G2 ς2,StR C G2 H2 σ2 ς2/\Same G1 G2/\(loopD (fun x ς=>g x ς>>=fun ς'=>T ς') (xs.drop (i+1)) ς2).post (FlK C G2 W) C.XD,
   fun σ2 H2 h2=>⟨xs.length - (i+1),by omega,rfl,hlt,h2⟩,fun x H'' y=>?_⟩
  obtain⟨G'',g1,h1,s1,n1,r⟩:=hy x H'' y
  rw[QjG hd]at q'
  exact turnD hne q1 q2 (S'.grow h1 g1 s1 n1) r (Out.post_mono q' fun f k=>FlK.later k g1) fun σ2 H2 G2 ς2 S2 s2 q2=>⟨G2,ς2,S2,(s'.trans g1).trans s2,q2⟩
 ·have e:i=xs.length:=by omega
  subst e
  rw[List.drop_length]at q'
  exact .inl ⟨dit.stop G' H' s' S'.sub,q' σ' H' G' S' (Same.refl _)⟩
end
def compM(f:D->Out (Option D)):List D->Out (List D)
 | []=>.ok []
 | x::xs=>f x>>=fun o=>compM f xs>>=fun ys=>.ok (o.toList++ys)
def captS(ς:SD)(j:Nat):Option (SM×D):=match ς[j]? with
 | some (some (.k,d))=>some (.k,d)
 | some (some (_,d))=>some (.l,d)
 | _=>none
def captD(js:List (Option Nat))(ς:SD):SD:=js.map fun j=>j.bind (captS ς)
def turnC(js:List (Option Nat))(g:D->SD->Out SD)(c:SD->Out Bool)(e:SD->Out D)(ς:SD)(x:D):Out (Option D):=
 g x (captD js ς)>>=fun τ=>c τ>>=fun b=>if b=true then e τ>>=fun y=>.ok (some y) else .ok none
def eComp(js:List (Option Nat))(its:SD->Out (List D))(g:D->SD->Out SD)(c:SD->Out Bool)(e:SD->Out D):SD->Out D:=fun ς=>
 its ς>>=fun xs=>compM (turnC js g c e ς) xs>>=fun ys=>if fits ys.length=true then .ok (.lst ys) else .stuck
def DIf(C:Dc)(ifs:List Expr)(T:SD->Out Bool):Prop:=∃ t,PIf C.X ifs t/\∀ G H σ ς Q,StR C G H σ ς->(T ς).post (KT C G H σ ς Q) C.XD->t σ H Q
def cTrue:SD->Out Bool:=fun _=>.ok true
theorem QM{C:Dc}:DIf C [] cTrue:=⟨_,Qzl,fun G H σ ς Q S q=>KT.now q S⟩
def gKeep(g:D->SD->Out SD)(τ0:SD):Prop:=∀ x τ,g x τ0=.ok τ->τ.length=τ0.length/\∀(i:Nat) md,τ0[i]?=some (some md)->τ[i]?=some (some md)
theorem QC{i:Nat}{τ0:SD}(h:τ0[i]?=some none):gKeep (gN i) τ0:=by
 intro x τ e
 cases e
 refine⟨List.length_set ..,fun j md hj=>?_⟩
 rw[Qk (by rintro rfl;rw[h]at hj;cases hj)];exact hj
theorem Qw3:∀(is:List Nat)(ds:List D)(τ0 τ:SD),(∀ i∈is,∀ md,τ0[i]?=some (some md)->False)->QV is ds τ0=.ok τ->τ.length=τ0.length/\∀(i:Nat) md,τ0[i]?=some (some md)->τ[i]?=some (some md)
 | [],[],τ0,τ,_,e=>by cases e;exact⟨rfl,fun _ _ h=>h⟩
 | i::is,d::ds,τ0,τ,h,e=>by
  have e':QV is ds (τ0.set i (some (.k,d)))=.ok τ:=e
  -- the later targets may meet the stored one again: only what was there ahead is kept
  have go:∀(is:List Nat)(ds:List D)(τ1 τ:SD),τ1.length=τ0.length->(∀ i∈is,∀ md,τ0[i]?=some (some md)->False)->(∀(i:Nat) md,τ0[i]?=some (some md)->τ1[i]?=some (some md))->QV is ds τ1=.ok τ->
   τ.length=τ0.length/\∀(i:Nat) md,τ0[i]?=some (some md)->τ[i]?=some (some md):=by
   intro is
   induction is with
   | nil=>intro ds τ1 τ hl _ hk e;cases ds with
    | nil=>cases e;exact⟨hl,hk⟩
    | cons _ _=>cases e
   | cons i is ih=>intro ds τ1 τ hl hn hk e;cases ds with
    | nil=>cases e
    | cons d ds=>
     refine ih ds _ τ (by rw[List.length_set];exact hl) (fun j hj=>hn j (List.mem_cons_of_mem _ hj)) (fun j md hj=>?_) e
     rw[Qk (by rintro rfl;exact hn _ List.mem_cons_self md hj)];exact hk j md hj
  refine go is ds _ τ (List.length_set ..) (fun j hj=>h j (List.mem_cons_of_mem _ hj)) (fun j md hj=>?_) e'
  rw[Qk (by rintro rfl;exact h _ List.mem_cons_self md hj)];exact hj
 | [],_::_,_,_,_,e=>by cases e
 | _::_,[],_,_,_,e=>by cases e
theorem QEY{is:List Nat}{τ0:SD}(h:∀ i∈is,τ0[i]?=some none):gKeep (gT is) τ0:=by
 intro x τ e
 cases x with
 | tup ds=>exact Qw3 is ds τ0 τ (fun i hi md z=>by rw[h i hi]at z;cases z) e
 | _=>cases e
theorem Qu{js:List (Option Nat)}{i:Nat}(h:js[i]?=some none)(ς:SD):(captD js ς)[i]?=some none:=by
 unfold captD
 rw[List.getElem?_map,h];rfl
section
variable{C:Dc}{G H:Hp}{σ:St}{ς:SD}
theorem StR.weak{ς':SD}(S:StR C G H σ ς')(hl:ς'.length=ς.length)(h:∀(i:Nat) md,ς[i]?=some (some md)->ς'[i]?=some (some md)):StR C G H σ ς:=
 { S with len:=by rw[S.len,hl],fz:=fun i d e=>S.fz i d (h i _ e),ow:=fun i d e=>S.ow i d (h i _ e),ln:=fun i d e=>S.ln i d (h i _ e),inj:=fun i j d e p n h1 h2=>S.inj i j d e p n (h i _ h1) (h j _ h2),sf:=fun i d e=>S.sf i d (h i _ e),su:=fun i j d e p n h1 h2=>S.su i j d e p n (h i _ h1) (h j _ h2) }
theorem StR.updM(S:StR C G H σ ς){p:Addr}{o:HO}(hM:C.M p)(h0:C.X.H₀ p≠none)(hno:∀(i:Nat) d,ς[i]?≠some (some (.s,d)))(hB:C.B p=none)(hg:G p=none):StR C G (upd H p o) σ ς where
 sub:=fun b u e=>by rw[Qh (by rintro rfl;rw[hg]at e;cases e)];exact S.sub b u e
 g0:=S.g0
 new:=S.new
 fr:=fun b u e m=>by rw[Qh (by rintro rfl;exact m hM)];exact S.fr b u e m
 dom:=fun b e=>by
  by_cases hb:b=p
  ·subst hb;rw[Qz]at e;cases e
  ·rw[Qh hb]at e;exact S.dom b e
 bs:=fun b u e=>by rw[Qh (by rintro rfl;rw[hB]at e;cases e)];exact S.bs b u e
 bh:=S.bh
 len:=S.len
 fz:=S.fz
 ow:=fun i d e=>by
  obtain⟨q,a,b,c,w⟩:=S.ow i d e
  exact⟨q,a,b,c,w.mono (Same.refl G) fun u z=>by rw[Qh (by rintro rfl;exact h0 c)];exact z⟩
 ln:=S.ln
 inj:=S.inj
 sf:=fun i d e=>absurd e (hno i d)
 su:=S.su
abbrev ccOf(C:Dc)(N':List Str)(scope:Scope)(fp:List Addr)(s:Shared)(H1 G1:Hp)(p:Addr):Dc:=
 { X:=cxC C.X N' scope fp s (upd H1 p (.lst [])),CT:=C.CT,G0:=G1,XD:=fun _=>False,B:=H1,M:=fun b=>b=p }
theorem QeR{js:List (Option Nat)}{i:Nat}{md:SM×D}(h:(captD js ς)[i]?=some (some md)):∃ j,js[i]?=some (some j)/\captS ς j=some md:=by
 unfold captD at h
 rw[List.getElem?_map]at h
 cases e:js[i]? with
 | none=>rw[e]at h;cases h
 | some o=>
  rw[e]at h
  cases o with
  | none=>cases h
  | some j=>exact⟨j,rfl,Option.some.inj h⟩
theorem QhI{js:List (Option Nat)}{i j:Nat}{v:V}(h:js[i]?=some (some j))(hv:σ[j]?=some (some v)):(capt js σ)[i]?=some (some v):=by
 unfold capt
 rw[List.getElem?_map,h]
 show some ((σ[j]?).join)=_
 rw[hv];rfl
theorem Qdx{j:Nat}{m:SM}{d:D}(h:captS ς j=some (m,d)):(m=.k/\ς[j]?=some (some (.k,d)))∨(m=.l/\(ς[j]?=some (some (.o,d))∨ς[j]?=some (some (.l,d))∨ς[j]?=some (some (.s,d)))):=by
 unfold captS at h
 split at h
 ·rename_i d' e;cases h;exact .inl ⟨rfl,e⟩
 ·rename_i m' d' hne e
  cases h
  cases m' with
  | k=>exact(hne rfl).elim
  | o=>exact .inr ⟨rfl,.inl e⟩
  | l=>exact .inr ⟨rfl,.inr (.inl e)⟩
  | s=>exact .inr ⟨rfl,.inr (.inr e)⟩
 ·cases h
theorem Qho{js:List (Option Nat)}{i:Nat}{d:D}(h:(captD js ς)[i]?=some (some (.s,d))):False:=by
 obtain⟨j,h1,h2⟩:=QeR h
 rcases Qdx h2 with⟨h3,_⟩ | ⟨h3,_⟩<;>cases h3
theorem StR.comp{N':List Str}{scope:Scope}{fp:List Addr}{s:Shared}{js:List (Option Nat)}{p:Addr}(S:StR C G H σ ς)(hp:H p=none):StR (ccOf C N' scope fp s H G p) G (upd H p (.lst [])) (capt js σ) (captD js ς) where
 sub:=S.sub.trans (Qt hp)
 g0:=Same.refl _
 new:=fun b h1 h2=>absurd h1 h2
 fr:=fun b o e _=>e
 dom:=fun b e=>e
 bs:=Qt hp
 bh:=fun b e=>by
  have e':upd H p (.lst []) b=none:=e
  by_cases hb:b=p
  ·subst hb;exact hp
  ·rw[Qh hb]at e';exact e'
 len:=by unfold capt captD;rw[List.length_map,List.length_map]
 fz:=fun i d e=>by
  obtain⟨j,h1,h2⟩:=QeR e
  rcases Qdx h2 with⟨_,h3⟩ | ⟨h3,_⟩
  ·obtain⟨v,a,b⟩:=S.fz j d h3
   exact⟨v,QhI h1 a,b⟩
  ·cases h3
 ow:=fun i d e=>by
  obtain⟨j,h1,h2⟩:=QeR e
  rcases Qdx h2 with⟨h3,_⟩ | ⟨h3,_⟩<;>cases h3
 ln:=fun i d e=>by
  obtain⟨j,h1,h2⟩:=QeR e
  rcases Qdx h2 with⟨h3,_⟩ | ⟨_,h3 | h3 | h3⟩
  ·cases h3
  ·obtain⟨q,a,_,_,w⟩:=S.ow j d h3
   exact⟨_,QhI h1 a,w.rep S.sub⟩
  ·obtain⟨v,a,b⟩:=S.ln j d h3
   exact⟨v,QhI h1 a,Rep.mono S.bs d v b⟩
  ·obtain⟨q,a,_,_,_,_,w⟩:=S.sf j d h3
   exact⟨_,QhI h1 a,w.rep S.sub⟩
 inj:=fun i j d e q _ h=>by
  obtain⟨j,h1,h2⟩:=QeR h
  rcases Qdx h2 with⟨h3,_⟩ | ⟨h3,_⟩<;>cases h3
 sf:=fun i d e=>(Qho e).elim
 su:=fun i j d e p _ h=>(Qho h).elim
variable{N':List Str}{js:List (Option Nat)}{scope:Scope}{tg iter elt:Expr}{ifs:List Expr}{its:SD->Out (List D)}{g:D->SD->Out SD}{c:SD->Out Bool}{e:SD->Out D}{pos:Pos}
theorem QE2{J:It}{xs:List D}{p:Addr}{fp:List Addr}{s:Shared}{Q:VK}(S:StR C G H σ ς)(hp:H p=none)(dit:DItB C.X.K C.CT H G J xs)(hx:∀ x,¬ C.XD x)(hk:gKeep g (captD js ς))(hne:noExc g)
 (hin:DG (ccOf C N' scope fp s H G p) tg g/\DIf (ccOf C N' scope fp s H G p) ifs c/\DE (ccOf C N' scope fp s H G p) elt e)
 (q:(compM (turnC js g c e ς) xs>>=fun ys=>if fits ys.length=true then Out.ok (D.lst ys) else .stuck).post (fun d=>∀ H' G',StR C G' H' σ ς->Same H H'->Same G G'->G' p=none->Own C.X.K C.CT G' H' p d->Q (.ref p) H') C.XD):
 CompW (cxC C.X N' scope fp s (upd H p (.lst []))) js tg elt ifs σ H J p Q:=by
 obtain⟨⟨tt,pg,hg⟩,⟨tcc,pif,hcI⟩,⟨te,pe,he⟩⟩:=hin
 generalize hτ:captD js ς=τ0 at hk
 have S0:StR (ccOf C N' scope fp s H G p) G (upd H p (.lst [])) (capt js σ) τ0:=by rw[← hτ];exact S.comp hp
 refine⟨fun i m τ H'=>m=xs.length - i/\i<=xs.length/\∃ G' acc vs,StR (ccOf C N' scope fp s H G p) G' H' τ τ0/\H' p=some (.lst vs)/\RepL C.X.K C.CT G' acc vs/\G' p=none/\
  (compM (turnC js g c e ς) (xs.drop i)).post (fun ys=>(if fits (acc++ys).length=true then Out.ok (D.lst (acc++ys)) else .stuck).post (fun d=>∀ H' G',StR C G' H' σ ς->Same H H'->Same G G'->G' p=none->Own C.X.K C.CT G' H' p d->Q (.ref p) H') C.XD) C.XD,
  ⟨xs.length,by simp,Nat.zero_le _,G,[],[],S0,Qz,rfl,S.sub.free hp,by rw[Out.post_bind]at q;simpa using q⟩,?_⟩
 rintro i m τ H' ⟨rfl,hle,G',acc,vs,S',hp',r',hg',q'⟩
 have hH0:(ccOf C N' scope fp s H G p).X.H₀ p≠none:=by
  show upd H p (.lst []) p≠none
  rw[Qz];simp
 by_cases hlt:i<xs.length
 ·have hd:xs[i]?=some xs[i]:=by simp[hlt]
  obtain⟨hgo,hy⟩:=dit.go G' H' i _ S'.g0 S'.sub S'.bs hd
  refine .inr ⟨hgo,fun τ2 H2=>i+1<=xs.length/\∃ G' acc vs,StR (ccOf C N' scope fp s H G p) G' H2 τ2 τ0/\H2 p=some (.lst vs)/\RepL C.X.K C.CT G' acc vs/\G' p=none/\
   (compM (turnC js g c e ς) (xs.drop (i+1))).post (fun ys=>(if fits (acc++ys).length=true then Out.ok (D.lst (acc++ys)) else .stuck).post (fun d=>∀ H' G',StR C G' H' σ ς->Same H H'->Same G G'->G' p=none->Own C.X.K C.CT G' H' p d->Q (.ref p) H') C.XD) C.XD,
   fun τ2 H2 h2=>⟨xs.length - (i+1),by omega,rfl,h2⟩,fun x H'' y=>?_⟩
  obtain⟨G'',g1,h1,s1,n1,r⟩:=hy x H'' y
  have S'':=S'.grow h1 g1 s1 n1
  have hgp:G'' p=none:=by
   cases z:G'' p with
   | none=>rfl
   | some o=>
    have:=n1 p hg' (by rw[z];simp)
    rw[hp']at this;cases this
  rw[QjG hd,compM,Out.post_bind]at q'
  have tu:turnC js g c e ς xs[i]=(g xs[i] τ0>>=fun τ=>c τ>>=fun b=>if b=true then e τ>>=fun y=>Out.ok (some y) else Out.ok none):=by unfold turnC;rw[hτ]
  rw[tu,Out.post_bind]at q'
  cases z:g xs[i] τ0 with
  | exc w=>exact absurd z (hne _ _ _)
  | stuck=>rw[z]at q';exact q'.elim
  | ok τ1=>
   rw[z]at q'
   obtain⟨hl1,hk1⟩:=hk _ _ z
   refine⟨tt,pg,hg G'' H'' τ τ0 xs[i] x τ1 _ S'' r z fun τ2 S2=>?_⟩
   have q2:(c τ1>>=fun b=>if b=true then e τ1>>=fun y=>Out.ok (some y) else Out.ok none).post _ _:=q'
   rw[Out.post_bind]at q2
   -- no refusal leaves the block
   have q3:(c τ1).post (fun b=>(if b=true then e τ1>>=fun y=>Out.ok (some y) else Out.ok none).post (fun o=>(compM (turnC js g c e ς) (xs.drop (i+1))>>=fun ys=>Out.ok (o.toList++ys)).post (fun ys=>(if fits (acc++ys).length=true then Out.ok (D.lst (acc++ys)) else .stuck).post (fun d=>∀ H' G',StR C G' H' σ ς->Same H H'->Same G G'->G' p=none->Own C.X.K C.CT G' H' p d->Q (.ref p) H') C.XD) C.XD) C.XD) (fun _=>False):=by
    cases w:c τ1 with
    | ok b=>rw[w]at q2;exact q2
    | exc w'=>rw[w]at q2;exact absurd q2 (hx _)
    | stuck=>rw[w]at q2;exact q2.elim
   refine⟨tcc,pif,hcI G'' H'' τ2 τ1 _ S2 (Out.post_mono q3 fun b kb H3 G3 S3 a3 b3=>?_)⟩
   have hp3:H3 p=some (.lst vs):=a3 _ _ (h1 _ _ hp')
   have hg3:G3 p=none:=by
    cases z3:G3 p with
    | none=>rfl
    | some o=>
     have e3:(ccOf C N' scope fp s H G p).G0 p=none:=S.sub.free hp
     exact absurd (S3.new p e3 (by rw[z3];simp)) hH0
   cases b with
   | false=>
    refine iteF ⟨hlt,G3,acc,vs,S3.weak (by rw[hl1]) hk1,hp3,RepL.mono (g1.trans b3) acc vs r',hg3,?_⟩
    have kb':(compM (turnC js g c e ς) (xs.drop (i+1))>>=fun ys=>Out.ok ((none:Option D).toList++ys)).post (fun ys=>(if fits (acc++ys).length=true then Out.ok (D.lst (acc++ys)) else .stuck).post (fun d=>∀ H' G',StR C G' H' σ ς->Same H H'->Same G G'->G' p=none->Own C.X.K C.CT G' H' p d->Q (.ref p) H') C.XD) C.XD:=kb
    rw[Out.post_bind]at kb'
    exact Out.post_mono kb' fun ys k=>k
   | true=>
    have kb:(e τ1>>=fun y=>Out.ok (some y)).post (fun o=>(compM (turnC js g c e ς) (xs.drop (i+1))>>=fun ys=>Out.ok (o.toList++ys)).post (fun ys=>(if fits (acc++ys).length=true then Out.ok (D.lst (acc++ys)) else .stuck).post (fun d=>∀ H' G',StR C G' H' σ ς->Same H H'->Same G G'->G' p=none->Own C.X.K C.CT G' H' p d->Q (.ref p) H') C.XD) C.XD) C.XD:=kb
    rw[Out.post_bind]at kb
    have kb2:(e τ1).post (fun y=>(compM (turnC js g c e ς) (xs.drop (i+1))>>=fun ys=>Out.ok ((some y:Option D).toList++ys)).post (fun ys=>(if fits (acc++ys).length=true then Out.ok (D.lst (acc++ys)) else .stuck).post (fun d=>∀ H' G',StR C G' H' σ ς->Same H H'->Same G G'->G' p=none->Own C.X.K C.CT G' H' p d->Q (.ref p) H') C.XD) C.XD) (fun _=>False):=by
     cases w:e τ1 with
     | ok b=>rw[w]at kb;exact kb
     | exc w'=>rw[w]at kb;exact absurd kb (hx _)
     | stuck=>rw[w]at kb;exact kb.elim
    refine iteT ⟨te,pe,he G3 H3 τ2 τ1 _ S3 (Out.post_mono kb2 fun y ky v4 H4 G4 S4 a4 b4 r4=>?_)⟩
    rw[Out.post_bind]at ky
    have hp4:H4 p=some (.lst vs):=a4 _ _ hp3
    have hg4:G4 p=none:=by
     cases z3:G4 p with
     | none=>rfl
     | some o=>
      have e3:(ccOf C N' scope fp s H G p).G0 p=none:=S.sub.free hp
      exact absurd (S4.new p e3 (by rw[z3];simp)) hH0
    have rr:=RepL.mono ((g1.trans b3).trans b4) acc vs r'
    refine⟨vs,hp4,?_,hlt,G4,acc++[y],vs++[v4],?_,Qz,rr.append (RepL.one r4),hg4,?_⟩
    ·cases w:compM (turnC js g c e ς) (xs.drop (i+1)) with
     | stuck=>rw[w]at ky;exact ky.elim
     | exc w'=>rw[w]at ky;exact absurd ky (hx _)
     | ok ys=>
      rw[w]at ky
      rcases QL (show(if fits (acc++((some y:Option D).toList++ys)).length=true then Out.ok (D.lst (acc++((some y:Option D).toList++ys))) else .stuck).post _ _ from ky) with⟨hc,_⟩ | ⟨_,k⟩
      ·have hc':=of_decide_eq_true hc
       rw[List.length_append,List.length_append]at hc'
       have:(some y:Option D).toList.length=1:=rfl
       have hl:=r'.length
       omega
      ·exact k.elim
    ·exact(S4.weak (by rw[hl1]) hk1).updM rfl hH0 (fun i d z=>by rw[← hτ]at z;exact Qho z) hp hg4
    ·exact Out.post_mono ky fun ys k=>by
      have e5:acc++[y]++ys=acc++((some y:Option D).toList++ys):=by simp
      rw[e5];exact k
 ·have ei:i=xs.length:=by omega
  subst ei
  rw[List.drop_length]at q'
  refine .inl ⟨dit.stop G' H' S'.g0 S'.sub S'.bs,?_⟩
  have q2:(if fits (acc++[]).length=true then Out.ok (D.lst (acc++[])) else .stuck).post _ C.XD:=q'
  rcases QL q2 with⟨_,k⟩ | ⟨_,k⟩
  ·rw[List.append_nil]at k
   have hHH:Same H H':=fun b o eb=>S'.fr b o (by
    show upd H p (.lst []) b=some o
    rw[Qh (QJ eb hp)];exact eb) (QJ eb hp)
   have SG:StR C G' H' σ ς:=S.grow hHH S'.g0 S'.sub fun b h1 h2=>by
    have:=S'.new b h1 h2
    have this:upd H p (.lst []) b=none:=this
    by_cases hb:b=p
    ·subst hb;exact hp
    ·rw[Qh hb]at this;exact this
   exact k H' G' SG hHH S'.g0 hg' ⟨vs,hp',r'⟩
  ·exact k.elim
theorem compT(hi:∃ wi,PI C.X tg iter wi/\∀ G H σ ς (R:It->Hp->Prop),StR C G H σ ς->(its ς).post (fun ds=>∀ J H1 G1,StR C G1 H1 σ ς->Same H H1->Same G G1->DItB C.X.K C.CT H1 G1 J ds->R J H1) C.XD->wi σ H R)
 (hx:∀ x,¬ C.XD x) (hk:∀ ς,gKeep g (captD js ς)) (hne:noExc g)
 (hin:∀ fp s H G p,DG (ccOf C N' scope fp s H G p) tg g/\DIf (ccOf C N' scope fp s H G p) ifs c/\DE (ccOf C N' scope fp s H G p) elt e):
 ∃ wi,PI C.X tg iter wi/\∀ G H σ ς Q,StR C G H σ ς->(eComp js its g c e ς).post (KF C G H σ ς Q) C.XD->tComp C.X N' js scope tg elt ifs wi σ H Q:=by
 obtain⟨wi,pi,hq⟩:=hi
 refine⟨wi,pi,fun G H σ ς Q S k=>?_⟩
 unfold eComp at k
 rw[Out.post_bind]at k
 refine hq G H σ ς _ S (Out.post_mono k fun xs k J H1 G1 S1 a1 b1 dit p hp fp s=>?_)
 refine QE2 S1 hp dit hx (hk ς) hne (hin fp s H1 G1 p) (Out.post_mono k fun d kd H' G' S' h1 g1 hg ow=>?_)
 exact kd p H' G' S' (a1.trans h1) (b1.trans g1) (a1.free hp) hg ow
theorem QO(hc:C.X.calm=true)(S:QB N' js scope C.X.env.scope C.X.N)(hi:DIB C tg iter its)(hk:∀ ς,gKeep g (captD js ς))(hne:noExc g)
 (hin:∀ fp s H G p,DG (ccOf C N' scope fp s H G p) tg g/\DIf (ccOf C N' scope fp s H G p) ifs c/\DE (ccOf C N' scope fp s H G p) elt e)
 (hx:∀ x,¬ C.XD x:=by exact fun _ h=>h) (hs:∀ x,foldedSetIterable iter C.X.env x=pure x:=by intro _;rfl):DF C (.ListComp elt [⟨tg,iter,ifs,0⟩] scope pos) (eComp js its g c e):=by
 obtain⟨wi,pi,h⟩:=compT hi hx hk hne hin
 exact⟨_,Qzo hc S pi hs,h⟩
variable{i:Nat}{x:Str}{px spos:Pos}
theorem Qnr(hc:C.X.calm=true)(S:QB N' js scope C.X.env.scope C.X.N)(hi:DIB C tg iter its)(hk:∀ ς,gKeep g (captD js ς))(hne:noExc g)
 (hin:∀ fp s H G p,DG (ccOf C N' scope fp s H G p) tg g/\DIf (ccOf C N' scope fp s H G p) ifs c/\DE (ccOf C N' scope fp s H G p) elt e)
 (hN:C.X.N.Nodup) (hxN:C.X.N[i]?=some x) (hl:Loc C.X.env.scope x)
 (hsw:swapsWith (.ListComp elt [⟨tg,iter,ifs,0⟩] scope pos) (some (.Name x px)) spos.line C.X.env=pure true:=by rfl)
 (hf:C.X.fn x=true∨C.X.env.scope.names.lookup x=some .local:=by first | exact .inl rfl | exact .inr rfl | assumption)
 (hx:∀ x,¬ C.XD x:=by exact fun _ h=>h) (hs:∀ x,foldedSetIterable iter C.X.env x=pure x:=by intro _;rfl):DS C (.Assign [.Name x px] (.ListComp elt [⟨tg,iter,ifs,0⟩] scope pos) spos) (sSet i (eComp js its g c e)):=by
 obtain⟨wi,pi,h⟩:=compT hi hx hk hne hin
 refine⟨_,QF9 hc S pi hN hxN hl hsw hf hs,fun G H σ ς W S k=>?_⟩
 unfold sSet at k
 rw[Out.post_bind]at k
 exact h G H σ ς _ S (Out.post_mono k fun d k=>KD.ofF (Q:=fun v H1=>W.nx (σ.set i (some v)) H1) S fun v H1 G1 S1 a1 b1 r1=>k _ H1 G1 (S1.set i r1) b1)
end
end DL
namespace L2
open PySem PySem.Spec PyProof.Rows
def Its(x:Str):It:=⟨fun i _=>i<x.cps.size,fun i H v H'=>H'=H/\∃ c,x.cps[i]?=some c/\v=.str ⟨#[c]⟩,fun i _=>x.cps.size<=i⟩
section
variable{X:Cx}{tg:Expr}
theorem QpC{P:Program}{w:World}{K:W.Frag}{tg:Expr}{x:Str}{ty:String}{t:Tok}(it:Addr)(hn:["enumerate","zip","dict_itemiterator","dict_reverseitemiterator","odict_iterator","itertools.zip_longest","itertools.pairwise"].contains ty=false)
 (hs:∀(A:Around)(i:Nat)(s:Shared)(Q:Value->Shared->Prop)(E:Value->Shared->Prop),s.heap.IsStrIter it ty x t i->Q (.ref it) s->wpAny (model P w) A (pyIter (.ref it)) Q E s)
 (W:∀ A':Around,A'.handled=none->Walks P w A' it [it] [it] x.cps.size (SignAt x) (fun i h=>h.IsStrIter it ty x t i)):Turn P w K tg (Its x) [it] it (fun i h=>h.IsStrIter it ty x t i/\i<=x.cps.size) where
 mem:=by simp
 obj:=fun i h st b hb=>by
  have e:b=it:=by simpa using hb
  subst e
  obtain⟨⟨o,e,c,d⟩,_⟩:=st
  exact⟨o,e,fun v z=>by rw[d]at z;cases z⟩
 keep:=fun i h h' st k=>⟨by obtain⟨⟨o,e,c,d⟩,_⟩:=st;exact⟨o,k it (by simp) o e,c,d⟩,st.2⟩
 item:=by
  intro X hP hw hK hc i pins s σ H E I hf st hg
  subst hP hw hK
  obtain⟨f0,f1,f2,f3,f4,f5⟩:=hf it (by simp)
  refine(W X.A (I.ok.hd hc)).item i s _ _ hg st.1 fun v h' tk hv st' kk=>?_
  obtain⟨c,u,hcx,rfl⟩:=hv
  have I1:Inv X pins σ H { s with heap:=h',toks:=tk }:=I.turned (fun b o hb e=>kk b o (by simpa using hb) e) f0 f1 f3 f4 f5
  obtain⟨o,e,c',d⟩:=id st'
  exact⟨_,rfl,go_of (s:={ s with heap:=h',toks:=tk }) e c' d hn ⟨.str ⟨#[c]⟩,H,I1,⟨u,rfl⟩,⟨rfl,c,hcx,rfl⟩,⟨st',hg⟩,fun b hb=>(hf b hb).1⟩⟩
 done:=by
  intro X hP hw hK hc i pins s σ H E I hf st hg
  subst hP hw hK
  obtain⟨f0,f1,f2,f3,f4,f5⟩:=hf it (by simp)
  have hg':x.cps.size<=i:=hg
  have e:i=x.cps.size:=Nat.le_antisymm st.2 hg'
  subst e
  exact(W X.A (I.ok.hd hc)).done s _ _ st.1 fun h' tk kk=>⟨rfl,I.turned (fun b o hb e=>kk b o (by simpa using hb) e) f0 f1 f3 f4 f5⟩
 self:=fun A i s Q E st h=>hs A i s Q E st.1 h
def iStr(tl:TE):TI:=fun σ H R=>tl σ H fun x H1=>∃ z,x=.str z/\R (Its z) H1
theorem QHL{l:Expr}{tl:TE}(hl:PE X l tl):PI X tg l (iStr tl):=by
 intro pins s σ H R I h
 refine thn (hl pins s σ H _ I h) fun v s1 ⟨x,H1,I1,r1,q1⟩=>?_
 obtain⟨z,e,q⟩:=q1
 subst e
 obtain⟨t,rfl⟩:=r1
 cases ha:z.cps.all (· < 128)
 ·refine wpAny_pyIter_wide ha ⟨s1.heap.objs.size,[s1.heap.objs.size],_,_,H1,rfl,I1.kept (t':=s1.toks) fun b o e=>Heap.get?_push_of_some _ e,QpC (x:=z) (ty:="str_iterator") (t:=t) _ (by decide) (fun _ _ _ _ _ st h=>wpAny_pyIter_striter_wide st h) (fun A' hA=>Walks.strWide hA _ z t),⟨⟨_,Heap.get?_push_size _ rfl,rfl,rfl⟩,Nat.zero_le _⟩,fun b hb=>?_,q⟩
  have e:b=s1.heap.objs.size:=by simpa using hb
  subst e
  exact I1.fpOk (Nat.le_refl _) (I1.hok.fresh (Nat.le_refl _))
 ·refine wpAny_pyIter_ascii ha ⟨s1.heap.objs.size,[s1.heap.objs.size],_,_,H1,rfl,I1.kept (t':=s1.toks) fun b o e=>Heap.get?_push_of_some _ e,QpC (x:=z) (ty:="str_ascii_iterator") (t:=t) _ (by decide) (fun _ _ _ _ _ st h=>wpAny_pyIter_striter_ascii st h) (fun A' hA=>Walks.strAscii hA _ z t),⟨⟨_,Heap.get?_push_size _ rfl,rfl,rfl⟩,Nat.zero_le _⟩,fun b hb=>?_,q⟩
  have e:b=s1.heap.objs.size:=by simpa using hb
  subst e
  exact I1.fpOk (Nat.le_refl _) (I1.hok.fresh (Nat.le_refl _))
theorem QCp(bs:List Bool):(List.range bs.length).all (fun i=>(bs[i]?).getD false)=bs.all id:=by
 rw[Bool.eq_iff_iff,List.all_eq_true,List.all_eq_true]
 constructor
 ·intro h b hb
  obtain⟨i,hi,e⟩:=List.mem_iff_getElem.mp hb
  have:=h i (List.mem_range.mpr hi)
  rw[List.getElem?_eq_getElem hi,Option.getD_some,e]at this
  exact this
 ·intro h i hi
  have hi':=List.mem_range.mp hi
  rw[List.getElem?_eq_getElem hi',Option.getD_some]
  exact h _ (List.getElem_mem hi')
theorem QCz(bs:List Bool):(List.range bs.length).any (fun i=>(bs[i]?).getD false)=bs.any id:=by
 rw[Bool.eq_iff_iff,List.any_eq_true,List.any_eq_true]
 constructor
 ·rintro ⟨i,hi,h⟩
  have hi':=List.mem_range.mp hi
  rw[List.getElem?_eq_getElem hi',Option.getD_some]at h
  exact⟨_,List.getElem_mem hi',h⟩
 ·rintro ⟨b,hb,h⟩
  obtain⟨i,hi,e⟩:=List.mem_iff_getElem.mp hb
  exact⟨i,List.mem_range.mpr hi,by rw[List.getElem?_eq_getElem hi,Option.getD_some,e];exact h⟩
theorem QDy(hc:X.calm=true):CallR X (.builtin "all") (fun xs H Q=>∃(p:Addr)(bs:List Bool),xs=[.ref p]/\SqL X.K H p (bs.map V.bl)/\Q (.bl (bs.all id)) H):=by
 intro pins s σ H xs us Q I r h
 obtain⟨p,bs,rfl,hq,q⟩:=h
 obtain⟨u,rfl,rx⟩:=vals1 r
 cases rx
 obtain⟨its,rv,pl,hz⟩:=I.list hq
 have hlen:=rv.length
 refine call_all_walk ?_
 refine wpAny_pyIter_list pl.isList ?_
 have hp:p<s.heap.objs.size:=by obtain⟨o,n,ho,_⟩:=pl;exact Heap.lt_size ho
 have hne:p≠s.heap.objs.size:=Nat.ne_of_lt hp
 refine⟨_,_,_,_,_,_,fun i=>(bs[i]?).getD false,rfl,Walks.list (A:=X.A.in1) (I.ok.hd hc) _ p hne its.toArray,⟨⟨_,Heap.get?_push_size _ rfl,rfl,rfl⟩,pl.isList.at fun o e=>Heap.get?_push_of_some _ e⟩,?_,fun h' tk kk=>⟨.bl (bs.all id),H,?_,?_,q⟩⟩
 ·intro i v s2 Q2 E2 hv hQ2
  have hv':its[i]?=some v:=by simpa using hv
  have hi:i<bs.length:=by
   have:=(List.getElem?_eq_some_iff.mp hv').1
   rw[List.length_map]at hlen
   omega
  obtain⟨y,hy,ry⟩:=rv.get (i:=i) (x:=.bl bs[i]) (by rw[List.getElem?_map,List.getElem?_eq_getElem hi];rfl)
  rw[hv']at hy
  cases hy
  cases ry
  have hQ2:Q2 ((bs[i]?).getD false) s2:=hQ2
  rw[List.getElem?_eq_getElem hi,Option.getD_some]at hQ2
  exact wpAny_pure hQ2
 ·exact I.kept fun b o e=>kk b o (by
   intro hb
   have e2:b=s.heap.objs.size:=by simpa using hb
   subst e2
   exact absurd (Heap.lt_size e) (Nat.lt_irrefl _)) (Heap.get?_push_of_some _ e)
 ·rw[List.size_toArray, ← hlen,List.length_map,QCp];exact rfl
theorem QB2(hc:X.calm=true):CallR X (.builtin "any") (fun xs H Q=>∃(p:Addr)(bs:List Bool),xs=[.ref p]/\SqL X.K H p (bs.map V.bl)/\Q (.bl (bs.any id)) H):=by
 intro pins s σ H xs us Q I r h
 obtain⟨p,bs,rfl,hq,q⟩:=h
 obtain⟨u,rfl,rx⟩:=vals1 r
 cases rx
 obtain⟨its,rv,pl,hz⟩:=I.list hq
 have hlen:=rv.length
 refine call_any_walk ?_
 refine wpAny_pyIter_list pl.isList ?_
 have hp:p<s.heap.objs.size:=by obtain⟨o,n,ho,_⟩:=pl;exact Heap.lt_size ho
 have hne:p≠s.heap.objs.size:=Nat.ne_of_lt hp
 refine⟨_,_,_,_,_,_,fun i=>(bs[i]?).getD false,rfl,Walks.list (A:=X.A.in1) (I.ok.hd hc) _ p hne its.toArray,⟨⟨_,Heap.get?_push_size _ rfl,rfl,rfl⟩,pl.isList.at fun o e=>Heap.get?_push_of_some _ e⟩,?_,fun h' tk kk=>⟨.bl (bs.any id),H,?_,?_,q⟩⟩
 ·intro i v s2 Q2 E2 hv hQ2
  have hv':its[i]?=some v:=by simpa using hv
  have hi:i<bs.length:=by
   have:=(List.getElem?_eq_some_iff.mp hv').1
   rw[List.length_map]at hlen
   omega
  obtain⟨y,hy,ry⟩:=rv.get (i:=i) (x:=.bl bs[i]) (by rw[List.getElem?_map,List.getElem?_eq_getElem hi];rfl)
  rw[hv']at hy
  cases hy
  cases ry
  have hQ2:Q2 ((bs[i]?).getD false) s2:=hQ2
  rw[List.getElem?_eq_getElem hi,Option.getD_some]at hQ2
  exact wpAny_pure hQ2
 ·exact I.kept fun b o e=>kk b o (by
   intro hb
   have e2:b=s.heap.objs.size:=by simpa using hb
   subst e2
   exact absurd (Heap.lt_size e) (Nat.lt_irrefl _)) (Heap.get?_push_of_some _ e)
 ·rw[List.size_toArray, ← hlen,List.length_map,QCz];exact rfl
end
end L2
namespace DL
open PySem PySem.Spec PyProof.Rows L2
def signs(z:Str):List D:=z.cps.toList.map fun c=>D.str ⟨#[c]⟩
def itS(E:SD->Out D):SD->Out (List D):=fun ς=>E ς>>=fun d=>match d with | .str z=>.ok (signs z) | _=>.stuck
section
variable{C:Dc}{e tg iter a b:Expr}{E A B:SD->Out D}{pos p:Pos}{es:List Expr}{AA:SD->Out (List D)}
theorem QGI{K:W.Frag}{CT:CTab}{G1:Hp}{z:Str}:DIt K CT G1 (Its z) (signs z) where
 go:=fun G H i d s1 sH hd=>by
  unfold signs at hd
  rw[List.getElem?_map]at hd
  cases hc:z.cps.toList[i]? with
  | none=>rw[hc]at hd;cases hd
  | some c=>
   rw[hc]at hd
   cases hd
   have hi:i<z.cps.size:=by
    have:=(List.getElem?_eq_some_iff.mp hc).1
    simpa using this
   refine⟨hi,fun x H' ⟨e,c',h1,h2⟩=>?_⟩
   subst e h2
   have h1':z.cps.toList[i]?=some c':=by simpa using h1
   rw[hc]at h1'
   cases h1'
   exact⟨G,Same.refl _,Same.refl _,sH,fun b g n=>absurd g n,rfl⟩
 stop:=fun G H s1 sH=>by
  unfold signs
  show z.cps.size<=_
  rw[List.length_map];simp
theorem QHo(h:DB C iter E):DI C tg iter (itS E):=by
 obtain⟨t,p,q⟩:=h
 refine⟨_,QHL p,fun G H σ ς R S k=>?_⟩
 unfold itS at k
 rw[Out.post_bind]at k
 refine q G H σ ς _ S (Out.post_mono k fun d k v H1 G1 S1 a1 b1 r1=>?_)
 cases d with
 | str z=>cases r1;exact⟨z,rfl,k _ H1 G1 S1 a1 b1 QGI⟩
 | _=>exact k.elim
def dIn:D->D->Out D
 | .str x,.str y=>.ok (.bl (!(Builtin.Str.occurrences y x 0 y.length 1).isEmpty))
 | _,_=>.stuck
theorem QHk:DRS C (fun x y H Q=>∃ i j,x=.str i/\y=.str j/\Q (.bl (!(Builtin.Str.occurrences j i 0 j.length 1).isEmpty)) H) dIn:=by
 intro G H σ ς Q x y vx vy S hx hy q
 cases x with
 | str x=>
  cases y with
  | str y=>cases hx;cases hy;exact⟨x,y,rfl,rfl,q.2⟩
  | _=>exact q.elim
 | _=>cases y<;>exact q.elim
theorem QFz:scal2 dIn:=fun x y=>by cases x<;>cases y<;>first | exact rfl | exact True.intro
theorem de_in(ha:DB C a A)(hb:DB C b B)(hm:behindInMarks .In b=false:=by rfl):DE C (.Compare a [.In] [b] pos) (e2 dIn A B):=Qix QDb QHk QFz ha hb hm
def blsOf:List D->Option (List Bool)
 | []=>some []
 | .bl b::r=>(blsOf r).map (b :: ·)
 | _::_=>none
theorem Qiy{K:W.Frag}{CT:CTab}{H:Hp}:∀{ds:List D}{bs:List Bool}{vs:List V},blsOf ds=some bs->RepL K CT H ds vs->vs=bs.map V.bl
 | [],bs,vs,h,r=>by cases h;exact r
 | d::ds,bs,vs,h,⟨v,w,h1,h2,h3⟩=>by
  cases d with
  | bl b=>
   cases e:blsOf ds with
   | none=>rw[blsOf,e]at h;cases h
   | some cs=>
    rw[blsOf,e]at h
    cases h
    cases h2
    rw[h1,Qiy e h3];rfl
  | _=>cases h
def fAll:D->Out D
 | .lst xs=>match blsOf xs with | some bs=>.ok (.bl (bs.all id)) | none=>.stuck
 | _=>.stuck
def fAny:D->Out D
 | .lst xs=>match blsOf xs with | some bs=>.ok (.bl (bs.any id)) | none=>.stuck
 | _=>.stuck
theorem QeV(hc:C.X.calm=true)(hg:Gl C.X "all")(hm:C.X.mg "all"=none)(ha:DAB C (e::es) AA)
 (he:starEach (e::es) C.X.env=(false,eval e C.X.env)::starEach es C.X.env:=by rfl) (hpl:(backTo pos (starEach es C.X.env)).any (·.1)=false:=by rfl):DE C (.Call (.Name "all" p) (e::es) [] pos) (eA (f1 fAll) AA):=by
 refine QhJ (QDy hc) (Qmu ?_) (QjS ?_) hg hm PyProof.Rows.Boot.«all» ha (by decide) (by decide) he hpl
 ·intro G H σ ς Q x v S r q
  cases x with
  | lst xs=>
   cases eb:blsOf xs with
   | none=>rw[fAll,eb]at q;exact q.elim
   | some bs=>
    rw[fAll,eb]at q
    obtain⟨a,vs,rfl,h2,h3⟩:=r
    rw[Qiy eb h3]at h2
    exact⟨a,bs,rfl,h2,q.2⟩
  | _=>exact q.elim
 ·intro x
  cases x with
  | lst xs=>
   rw[fAll]
   cases blsOf xs with
   | none=>exact True.intro
   | some bs=>exact rfl
  | _=>exact True.intro
theorem QHG(hc:C.X.calm=true)(hg:Gl C.X "any")(hm:C.X.mg "any"=none)(ha:DAB C (e::es) AA)
 (he:starEach (e::es) C.X.env=(false,eval e C.X.env)::starEach es C.X.env:=by rfl) (hpl:(backTo pos (starEach es C.X.env)).any (·.1)=false:=by rfl):DE C (.Call (.Name "any" p) (e::es) [] pos) (eA (f1 fAny) AA):=by
 refine QhJ (QB2 hc) (Qmu ?_) (QjS ?_) hg hm PyProof.Rows.Boot.«any» ha (by decide) (by decide) he hpl
 ·intro G H σ ς Q x v S r q
  cases x with
  | lst xs=>
   cases eb:blsOf xs with
   | none=>rw[fAny,eb]at q;exact q.elim
   | some bs=>
    rw[fAny,eb]at q
    obtain⟨a,vs,rfl,h2,h3⟩:=r
    rw[Qiy eb h3]at h2
    exact⟨a,bs,rfl,h2,q.2⟩
  | _=>exact q.elim
 ·intro x
  cases x with
  | lst xs=>
   rw[fAny]
   cases blsOf xs with
   | none=>exact True.intro
   | some bs=>exact rfl
  | _=>exact True.intro
theorem QEi{X:Cx}:PE X (.Dict [] [] pos) (fun _ H Q=>∀ p,H p=none->Q (.ref p) (upd H p (.dK []))):=fun pins s σ H Q I h=>by
 have hb:sysModules<s.heap.objs.size:=Nat.lt_trans (by decide) (show mainGlobals<s.heap.objs.size from(I.mod.glob.keeps I.bk).lt)
 exact wpAny_Dict_empty ⟨.ref s.heap.objs.size,_,I.laid (a:=s.heap.objs.size) (o:=.dK []) (t':=s.toks) (fun _ _ q=>Heap.get?_push_of_some _ q) (Nat.le_refl _)
  ⟨Nat.zero_le _,beq_eq_false_iff_ne.mpr (Ne.symm (Nat.ne_of_lt hb)),[],.nil,Heap.DictOf.new s.heap⟩,rfl,h _ (I.hok.fresh (Nat.le_refl _))⟩
def eDic0:SD->Out D:=fun _=>.ok (.dic [])
theorem Qzh:DF C (.Dict [] [] pos) eDic0:=⟨_,QEi,fun G H σ ς Q S q p hp=>by
 have q:KF C G H σ ς Q (.dic []):=q
 exact q p _ G (S.allocO hp) (Qt hp) (Same.refl _) hp (S.gnone hp) ⟨[],Qz,rfl⟩⟩
end
end DL
namespace DL
open PySem PySem.Spec PyProof.Rows L2
def ctOf(K:W.Frag):CTab:=fun c=>match W.nsIn K mainGlobals c with | some (some (.ref a))=>some a | _=>none
theorem ct_of{K:W.Frag}{c:Str}{a:Addr}(h:W.nsIn K mainGlobals c=some (some (.ref a))):ctOf K c=some a:=by unfold ctOf;rw[h]
structure Rz(C:Dc)(E:XK):Prop where
 pass:Qd5 (CXR C.X.prog C.X.w) C.X E
 xd:∀ d,C.XD d->∃ c Cc,d=.err c/\C.CT c=some Cc/\∀ H',(∀ b o,C.X.H₀ b=some o->¬ C.M b->H' b=some o)->E (.ref Cc) none H'
 made:∀(Cc:Addr) pins σ H1 s1 ea h' vs,Inv C.X pins σ H1 s1->Heap.MadeExcOf s1.heap h' ea (.ref Cc) vs->E (.ref Cc) none H1->C.X.xe (.ref ea) { s1 with heap:=h' }
 calm:C.X.calm=true
theorem rz0{C:Dc}(hx:∀ d,¬ C.XD d:=by exact fun _ h=>h)(hc:C.X.calm=true:=by rfl):Rz C E0 where
 pass:=fun pins σ H s e s' I h=>by obtain⟨_,_,_,_,_,_,_,z⟩:=h;exact z.elim
 xd:=fun d h=>absurd h (hx d)
 made:=fun Cc pins σ H1 s1 ea h' vs I hx hE=>hE.elim
 calm:=hc
abbrev Dc.nox(C:Dc):Dc:={ C with X:=C.X.nox,XD:=fun _=>False }
def noX{α:Type}:Out α->Out α
 | .exc _=>.stuck
 | o=>o
theorem QHT{α:Type}(a:α):noX (.ok a)=.ok a:=rfl
theorem QuM{α:Type}{o:Out α}{k:α->Prop}{x:D->Prop}(h:(noX o).post k x):o.post k (fun _=>False):=by cases o<;>exact h
section
variable{C:Dc}{G H:Hp}{σ:St}{ς:SD}{e:Expr}{es:List Expr}{st:Stmt}{sts:List Stmt}
theorem GH.nox(S:GH C G H):GH C.nox G H:=⟨S.sub,S.g0,S.new,S.fr,S.dom,S.bs,S.bh⟩
theorem GH.unnox(S:GH C.nox G H):GH C G H:=⟨S.sub,S.g0,S.new,S.fr,S.dom,S.bs,S.bh⟩
theorem StR.nox(S:StR C G H σ ς):StR C.nox G H σ ς:=⟨S.toGH.nox,S.len,S.fz,S.ow,S.ln,S.inj,S.sf,S.su⟩
theorem StR.unnox(S:StR C.nox G H σ ς):StR C G H σ ς:=⟨S.toGH.unnox,S.len,S.fz,S.ow,S.ln,S.inj,S.sf,S.su⟩
theorem PA.nox'{X:Cx}{t:TA}(h:PA X.nox es t):PA X es t:=fun pos pins s σ H Q I q=>PA.nox h I q
theorem DA.lift{A:SD->Out (List D)}(h:DA C.nox es A):DA C es (fun ς=>noX (A ς)):=by
 obtain⟨t,p,q⟩:=h
 exact⟨t,PA.nox' p,fun G H σ ς Q S k=>q G H σ ς Q S.nox (Out.post_mono (QuM k) fun d kd v H' G' S' a b r=>kd v H' G' S'.unnox a b r)⟩
theorem FlK.nox{W:Ends}{f:Fl}(h:FlK C G W f):FlK C.nox G W f:=by
 cases f with
 | nx ς=>exact fun σ' H' G' S q=>h σ' H' G' S.unnox q
 | bk ς=>exact fun σ' H' G' S q=>h σ' H' G' S.unnox q
 | ct ς=>exact fun σ' H' G' S q=>h σ' H' G' S.unnox q
 | rt b d=>exact fun v H' G' S q r=>h v H' G' S.unnox q r
theorem PS.nox'{X:Cx}{t:TS}(h:PS X.nox st t):PS X st t:=fun pins s σ H D I hw=>
 wpAny_mono (h pins s σ H D (I.wish _) hw) (fun _ _ q=>q.unwish) fun _ _ z=>False.elim z
theorem DS.lift{T:SD->Out Fl}(h:DS C.nox st T):DS C st (fun ς=>noX (T ς)):=by
 obtain⟨t,p,q⟩:=h
 exact⟨t,PS.nox' p,fun G H σ ς W S k=>q G H σ ς W S.nox (Out.post_mono (QuM k) fun f kf=>kf.nox)⟩
variable{x:Str}{k:Nat}{fr:Bool}{dd:List D}{m:List D->Out D}{A:SD->Out (List D)}{p pos:Pos}{E:XK}
end
end DL
namespace DL
open PySem PySem.Spec PyProof.Rows L2
section
variable{C:Dc}{x:Str}{k:Nat}{fr:Bool}{dd:List D}{m:List D->Out D}{e:Expr}{es:List Expr}{A:SD->Out (List D)}{p pos:Pos}
variable{T U:SD->Out FX}{TE:SD->Out EX}{st:Stmt}{sts rest:List Stmt}{i:Nat}{px:Pos}
section
variable{G H:Hp}{σ:St}{ς:SD}{ea:Addr}
end
end
end DL
namespace L2
open PySem PySem.Spec PyProof.Rows
end L2
namespace DL
open PySem PySem.Spec PyProof.Rows L2
section
variable{C:Dc}{pos p:Pos}{e cx:Expr}{E:SD->Out D}
end
end DL
namespace L2
open PySem PySem.Spec PyProof.Rows
def Itz(K:W.Frag)(a b:Addr):It:=
 ⟨fun i H=>∃ xs ys x y,SqL K H a xs/\SqL K H b ys/\xs[i]?=some x/\ys[i]?=some y,
  fun i H v H'=>∃ p x y,H p=none/\v=.ref p/\H'=upd H p (.tup [x,y])/\(∀ xs,SqL K H a xs->xs[i]?=some x)/\∀ ys,SqL K H b ys->ys[i]?=some y,
  fun i H=>∃ xs ys,SqL K H a xs/\SqL K H b ys/\(xs.length<=i∨ys.length<=i)⟩
theorem QDW{P:Program}{w:World}{K:W.Frag}{elts:List Expr}{k1:Nat}{pos:Pos}{z TI TO i1 i2 l1 l2:Addr}(D:ZipApart z TI TO i1 i2 l1 l2):
 Turn P w K (.Tuple elts k1 pos) (Itz K l1 l2) [z,TI,TO,i1,i2] z (fun i h=>IsZip h z TI TO .none/\IsPair h TI (.ref i1) (.ref i2)/\(∃ a b,IsPair h TO a b)/\h.IsListIter i1 l1 i/\h.IsListIter i2 l2 i) where
 mem:=by simp
 obj:=fun i h st b hb=>by
  obtain⟨s1,s2,⟨_,_,s3⟩,⟨o4,e4,c4,d4⟩,⟨o5,e5,c5,d5⟩⟩:=st
  simp only[List.mem_cons,List.not_mem_nil,or_false]at hb
  rcases hb with rfl | rfl | rfl | rfl | rfl
  ·exact⟨_,s1,fun v q=>by cases q⟩
  ·exact⟨_,s2,fun v q=>by cases q⟩
  ·exact⟨_,s3,fun v q=>by cases q⟩
  ·exact⟨_,e4,fun v q=>by rw[d4]at q;cases q⟩
  ·exact⟨_,e5,fun v q=>by rw[d5]at q;cases q⟩
 keep:=fun i h h' st k=>by
  obtain⟨s1,s2,⟨a,b,s3⟩,s4,s5⟩:=st
  exact⟨k z (by simp) _ s1,k TI (by simp) _ s2,⟨a,b,k TO (by simp) _ s3⟩,s4.at fun o e=>k i1 (by simp) o e,s5.at fun o e=>k i2 (by simp) o e⟩
 item:=by
  intro X hP hw hK hc i pins s σ H E I hf st hg
  subst hP hw hK
  obtain⟨xs,ys,x,y,q1,q2,hx,hy⟩:=hg
  obtain⟨its1,rv1,p1,hz1⟩:=I.list q1
  obtain⟨its2,rv2,p2,hz2⟩:=I.list q2
  obtain⟨u1,hu1,ru1⟩:=rv1.get hx
  obtain⟨u2,hu2,ru2⟩:=rv2.get hy
  obtain⟨s1,s2,⟨a,b,s3⟩,s4,s5⟩:=st
  refine wpAny_pyNext_zip_item D s1 s2 s3 s4 s5 p1.isList p2.isList (x:=u1) (y:=u2) (by simpa using hu1) (by simpa using hu2) fun h' a1 a2 a3 a4 a5 a6 hk=>?_
  have hT:H s.heap.objs.size=none:=I.hok.fresh (Nat.le_refl _)
  have fp:∀ c∈[z,TO,i1,i2],FpOk X pins H c:=fun c hc=>hf c (by
   simp only[List.mem_cons,List.not_mem_nil,or_false]at hc ⊢
   rcases hc with rfl | rfl | rfl | rfl<;>simp)
  have out:∀ c,c∉[z,TO,i1,i2]->∀ o,s.heap.get? c=some o->h'.get? c=some o:=fun c hc o e=>hk c o (fun q=>hc (by simp[q])) (fun q=>hc (by simp[q])) (fun q=>hc (by simp[q])) (fun q=>hc (by simp[q])) e
  have trk:∀ c o,H c=some o->c∉[z,TO,i1,i2]:=fun c o e hc=>by rw[(fp c hc).1]at e;cases e
  have hok:HOk X.prog X.w (upd H s.heap.objs.size (.tup [x,y])) h':=fun c o e=>by
   by_cases hcT:c=s.heap.objs.size
   ·subst hcT
    rw[Qz]at e
    cases e
    exact⟨by show 2<=sizeLine;decide,[u1,u2],.cons ru1 (.cons ru2 .nil),⟨_,a5,rfl,_,rfl⟩⟩
   ·rw[Qh hcT]at e
    refine(I.hok c o e).stay (fun b u hb q=>out b ?_ u q) (fun b q=>?_) fun b ts q=>?_
    ·rcases hb with rfl | hb
     ·exact trk b _ e
     ·exact trk b _ hb
    ·rw[Qh (QJ q hT)];exact q
    ·rw[Qh (QJ q hT)];exact q
  have I1:Inv X pins σ (upd H s.heap.objs.size (.tup [x,y])) { s with heap:=h',gens:=s.gens,drawn:=s.drawn,toks:=s.toks }:=I.step (ch:=[z,TO,i1,i2])
   (fun c hc=>⟨(fp c hc).2.2.2.1,(fp c hc).2.1,(fp c hc).2.2.2.2.1,(fp c hc).2.2.2.2.2⟩) (fun c o _ _ hc e _=>out c hc o e) (fun c o _ _ hc e _=>⟨o.slots,out c hc o e⟩)
   (fun c o hc e n=>by rw[Qh (Nat.ne_of_lt (Heap.lt_size e))];exact n) (fun c o hc e=>⟨o,out c hc o e⟩)
   (fun c ts e=>by rw[Qh (QJ e hT)];exact e) (fun c o u e=>by rw[Qh (QJ e hT)];exact e) (fun c ts e=>⟨#[],by rw[Qh (QJ e hT),e];simp⟩)
   (fun m hm=>by
    obtain⟨o,es,ep,ho,r⟩:=hm
    exact⟨o,es,ep,out _ (fun hc=>(fp _ hc).2.1 rfl) o ho,r⟩) hok I.bare
  have lt:∀{c o},s.heap.get? c=some o->s.heap.objs.size≠c:=fun e=>Nat.ne_of_gt (Heap.lt_size e)
  refine⟨_,rfl,wpAny_letOwnedTupleGo_zip a1 fun h2 hz2 hs2=>?_⟩
  obtain⟨z0,z1,z2,z3,z4,z5⟩:=hf z (by simp)
  have I2:Inv X pins σ (upd H s.heap.objs.size (.tup [x,y])) { s with heap:=h2 }:=Inv.turned (s:={ s with heap:=h',gens:=s.gens,drawn:=s.drawn,toks:=s.toks }) (t':=s.toks) (it:=z) I1 (fun b o hb e=>(hs2.2 b hb).trans e) (by rw[Qh (lt s1).symm];exact z0) z1 z3 z4 z5
  refine⟨.ref s.heap.objs.size,_,I2,rfl,⟨_,x,y,hT,rfl,rfl,fun xs' q'=>by rw[I.list_inj q' q1];exact hx,fun ys' q'=>by rw[I.list_inj q' q2];exact hy⟩,
   ⟨hz2,hs2.extBut _ _ D.TIz (out TI (by simp[D.TIz,D.TITO,D.TIi1,D.TIi2]) _ s2),⟨_,_,hs2.extBut _ _ D.TOz a2⟩,a3.extBut hs2.extBut D.i1z,a4.extBut hs2.extBut D.i2z⟩,fun c hc=>?_⟩
  have:H c=none:=(hf c hc).1
  obtain⟨oc,hoc⟩:∃ o,s.heap.get? c=some o:=by
   simp only[List.mem_cons,List.not_mem_nil,or_false]at hc
   rcases hc with rfl | rfl | rfl | rfl | rfl
   ·exact⟨_,s1⟩
   ·exact⟨_,s2⟩
   ·exact⟨_,s3⟩
   ·obtain⟨o,e,_⟩:=s4;exact⟨o,e⟩
   ·obtain⟨o,e,_⟩:=s5;exact⟨o,e⟩
  rw[Qh (lt hoc).symm];exact this
 done:=by
  intro X hP hw hK hc i pins s σ H E I hf st hg
  subst hP hw hK
  obtain⟨xs,ys,q1,q2,hend⟩:=hg
  obtain⟨its1,rv1,p1,hz1⟩:=I.list q1
  obtain⟨its2,rv2,p2,hz2⟩:=I.list q2
  have l1:=rv1.length
  have l2:=rv2.length
  obtain⟨s1,s2,⟨a,b,s3⟩,s4,s5⟩:=st
  have fp:∀ c∈[z,TO,i1,i2],FpOk X pins H c:=fun c hc=>hf c (by
   simp only[List.mem_cons,List.not_mem_nil,or_false]at hc ⊢
   rcases hc with rfl | rfl | rfl | rfl<;>simp)
  refine wpAny_pyNext_zip_end (I.ok.hd hc) D s1 s2 s3 s4 s5 p1.isList p2.isList (by simp;omega) fun h' hk=>⟨rfl,?_⟩
  have out:∀ c,c∉[z,TO,i1,i2]->∀ o,s.heap.get? c=some o->h'.get? c=some o:=fun c hc o e=>hk c o (fun q=>hc (by simp[q])) (fun q=>hc (by simp[q])) (fun q=>hc (by simp[q])) (fun q=>hc (by simp[q])) e
  have trk:∀ c o,H c=some o->c∉[z,TO,i1,i2]:=fun c o e hc=>by rw[(fp c hc).1]at e;cases e
  exact I.step (g':=s.gens) (d':=s.drawn) (t':=s.toks) (ch:=[z,TO,i1,i2]) (fun c hc=>⟨(fp c hc).2.2.2.1,(fp c hc).2.1,(fp c hc).2.2.2.2.1,(fp c hc).2.2.2.2.2⟩) (fun c o _ _ hc e _=>out c hc o e) (fun c o _ _ hc e _=>⟨o.slots,out c hc o e⟩)
   (fun c o hc e n=>n) (fun c o hc e=>⟨o,out c hc o e⟩) (fun c ts e=>e) (fun c o u e=>e) (fun c ts e=>⟨#[],by rw[e];simp⟩)
   (fun m hm=>by
    obtain⟨o,es,ep,ho,r⟩:=hm
    exact⟨o,es,ep,out _ (fun hc=>(fp _ hc).2.1 rfl) o ho,r⟩)
   (fun c o e=>(I.hok c o e).stay (fun b u hb q=>out b (by
    rcases hb with rfl | hb
    ·exact trk b _ e
    ·exact trk b _ hb) u q) (fun b q=>q) fun b ts q=>q) I.bare
 self:=fun _ _ _ _ _ st h=>wpAny_pyIter_zip st.1 h
section
variable{X:Cx}
theorem QCL(n l1 l2:Nat)(h1:l1<n)(h2:l2<n):ZipApart (n+4) (n+2) (n+3) n (n+1) l1 l2:=⟨(show ¬ ((n+2:Nat)=n+4) by omega),(show ¬ ((n+3:Nat)=n+4) by omega),(show ¬ ((n:Nat)=n+4) by omega),(show ¬ ((n+1:Nat)=n+4) by omega),(show ¬ ((n+2:Nat)=n+3) by omega),(show ¬ ((n+2:Nat)=n) by omega),(show ¬ ((n+2:Nat)=n+1) by omega),(show ¬ ((n+3:Nat)=n) by omega),(show ¬ ((n+3:Nat)=n+1) by omega),(show ¬ ((n:Nat)=n+1) by omega),(show ¬ ((l1:Nat)=n+4) by omega),(show ¬ ((l1:Nat)=n+3) by omega),(show ¬ ((l1:Nat)=n) by omega),(show ¬ ((l1:Nat)=n+1) by omega),(show ¬ ((l2:Nat)=n+4) by omega),(show ¬ ((l2:Nat)=n+3) by omega),(show ¬ ((l2:Nat)=n) by omega),(show ¬ ((l2:Nat)=n+1) by omega)⟩
def iZip(K:W.Frag)(ta:TA):TI:=fun σ H R=>ta σ H fun vs H1=>∃ a b,vs=[.ref a,.ref b]/\(∃ xs,SqL K H1 a xs)/\(∃ ys,SqL K H1 b ys)/\R (Itz K a b) H1
theorem QH1{elts:List Expr}{k1:Nat}{tpos:Pos}{a b:Expr}{ta:TA}{p pos:Pos}(hg:Gl X "zip")(hm:X.mg "zip"=none)(ha:PA X [a,b] ta)(hs:starEach [a,b] X.env=[(false,eval a X.env),(false,eval b X.env)]:=by rfl)(hs2:starEach [b] X.env=[(false,eval b X.env)]:=by rfl):
 PI X (.Tuple elts k1 tpos) (.Call (.Name "zip" p) [a,b] [] pos) (iZip X.K ta):=by
 intro pins s σ H R I h
 refine Call_ (QdC I hg hm PyProof.Rows.Boot.«zip» (PyProof.Rows.callWith_type1 (thn (ha pos pins s σ H _ I h) fun us s1 ⟨vs,H1,I1,r1,q1⟩=>?_) (by rw[hs,hs2]) (by rw[hs2];rfl)))
 obtain⟨l1,l2,e,⟨xs,hx⟩,⟨ys,hy⟩,q⟩:=q1
 subst e
 cases r1 with
 | cons r rr=>
  cases rr with
  | cons r' rr=>
   cases rr
   cases r
   cases r'
   obtain⟨its1,rv1,p1,hz1⟩:=I1.list hx
   obtain⟨its2,rv2,p2,hz2⟩:=I1.list hy
   have n1:l1<s1.heap.objs.size:=by obtain⟨o,n,ho,_⟩:=p1;exact Heap.lt_size ho
   have n2:l2<s1.heap.objs.size:=by obtain⟨o,n,ho,_⟩:=p2;exact Heap.lt_size ho
   refine call_zip_2 p1.isList p2.isList fun h' c1 c2 c3 c4 c5 c6 hk=>?_
   refine wpAny_pyIter_zip c1 ?_
   refine⟨_,_,_,Itz X.K l1 l2,H1,rfl,I1.kept (t':=s1.toks) fun b o e=>hk b o e,QDW (i1:=s1.heap.objs.size) (i2:=s1.heap.objs.size+1) (TI:=s1.heap.objs.size+2) (TO:=s1.heap.objs.size+3) (z:=s1.heap.objs.size+4) (l1:=l1) (l2:=l2)
    (QCL s1.heap.objs.size l1 l2 n1 n2),⟨c1,c2,⟨_,_,c3⟩,c4,c5⟩,fun b hb=>?_,q⟩
   have hb':s1.heap.objs.size<=b:=by
    simp only[List.mem_cons,List.not_mem_nil,or_false]at hb
    rcases hb with rfl | rfl | rfl | rfl | rfl<;>omega
   exact I1.fpOk hb' (I1.hok.fresh hb')
end
end L2
namespace DL
open PySem PySem.Spec PyProof.Rows L2
def itZ(A B:SD->Out D):SD->Out (List D):=fun ς=>A ς>>=fun x=>B ς>>=fun y=>match x,y with
 | .lst xs,.lst ys=>.ok (List.zipWith (fun a b=>.tup [a,b]) xs ys)
 | _,_=>.stuck
section
variable{C:Dc}{a b:Expr}{A B:SD->Out D}
theorem QGr{K:W.Frag}{CT:CTab}{G1:Hp}{p q:Addr}{xs ys:List D}{us vs:List V}(h1:SqL K G1 p us)(r1:RepL K CT G1 xs us)(h2:SqL K G1 q vs)(r2:RepL K CT G1 ys vs):DIt K CT G1 (Itz K p q) (List.zipWith (fun a b=>D.tup [a,b]) xs ys) where
 go:=fun G H i d s1 sH hd=>by
  rw[List.getElem?_zipWith]at hd
  cases e1:xs[i]? with
  | none=>rw[e1]at hd;cases hd
  | some x=>
   cases e2:ys[i]? with
   | none=>rw[e1,e2]at hd;cases hd
   | some y=>
    rw[e1,e2]at hd
    cases hd
    obtain⟨u,hu,ru⟩:=r1.get e1
    obtain⟨v,hv,rv⟩:=r2.get e2
    have q1:SqL K H p us:=sH.seq (s1.seq h1)
    have q2:SqL K H q vs:=sH.seq (s1.seq h2)
    refine⟨⟨us,vs,u,v,q1,q2,hu,hv⟩,fun w H' ⟨t,x',y',n,e,e',k1,k2⟩=>?_⟩
    have z1:=k1 us q1
    have z2:=k2 vs q2
    rw[hu]at z1;cases z1
    rw[hv]at z2;cases z2
    subst e e'
    have gn:G t=none:=sH.free n
    refine⟨upd G t (.tup [u,v]),Qt gn,Qt n,Qi9 sH,fun b g g'=>?_,t,[u,v],rfl,SqT.of Qz,⟨u,_,rfl,Rep.mono (s1.trans (Qt gn)) x u ru,v,_,rfl,Rep.mono (s1.trans (Qt gn)) y v rv,rfl⟩⟩
    by_cases hb:b=t
    ·subst hb;exact n
    ·rw[Qh hb]at g';exact absurd g g'
 stop:=fun G H s1 sH=>by
  refine⟨us,vs,sH.seq (s1.seq h1),sH.seq (s1.seq h2),?_⟩
  have l1:=r1.length
  have l2:=r2.length
  rw[List.length_zipWith]
  omega
theorem Qg6{elts:List Expr}{k1:Nat}{tpos p pos:Pos}(hgl:Gl C.X "zip")(hm:C.X.mg "zip"=none)(ha:DE C a A)(hb:DE C b B)
 (hst:starEach [a,b] C.X.env=(false,eval a C.X.env)::starEach [b] C.X.env:=by rfl) (hst2:starEach [b] C.X.env=(false,eval b C.X.env)::starEach [] C.X.env:=by rfl):DI C (.Tuple elts k1 tpos) (.Call (.Name "zip" p) [a,b] [] pos) (itZ A B):=by
 obtain⟨t0,p0,q0⟩:=ha
 obtain⟨t3,p3,q3⟩:=hb
 refine⟨_,QH1 hgl hm (Qax p0 (Qax p3 QbT hst2) hst) (by rw[hst,hst2];rfl) (by rw[hst2];rfl),fun G H σ ς R S k=>?_⟩
 unfold itZ at k
 rw[Out.post_bind]at k
 refine q0 G H σ ς _ S (Out.post_mono k fun d k v H1 G1 S1 a1 b1 r=>?_)
 rw[Out.post_bind]at k
 refine q3 G1 H1 σ ς _ S1 (Out.post_mono k fun d2 k v2 H2 G2 S2 a2 b2 r'=>?_)
 cases d with
 | lst xs=>
  cases d2 with
  | lst ys=>
   obtain⟨p1,us,rfl,h1,r1⟩:=Rep.mono b2 _ v r
   obtain⟨p2,vs,rfl,h2,r2⟩:=r'
   exact⟨p1,p2,rfl,⟨us,S2.sub.seq h1⟩,⟨vs,S2.sub.seq h2⟩,k _ H2 G2 S2 (a1.trans a2) (b1.trans b2) (QGr h1 r1 h2 r2)⟩
  | _=>exact k.elim
 | _=>exact k.elim
end
end DL
namespace DL
open PySem PySem.Spec PyProof.Rows L2
def putD(f:Str)(d:D):List (Str×D)->List (Str×D)
 | []=>[(f,d)]
 | (g,x)::r=>if g=f then(g,d)::r else(g,x)::putD f d r
section
variable{K:W.Frag}{CT:CTab}{H H':Hp}
theorem RepF.look:∀{fds:List (Str×D)}{fs:List (Str×V)}{f:Str},RepF K CT H fds fs->(∀ d,fds.lookup f=some d->∃ v,fs.lookup f=some v/\Rep K CT H d v)/\(fds.lookup f=none->fs.lookup f=none)
 | [],_,f,h=>by cases h;exact⟨fun d z=>(by cases z),fun _=>rfl⟩
 | (k,d)::fds,_,f,⟨v,r,h1,h2,h3⟩=>by
  subst h1
  have ih:=RepF.look (f:=f) h3
  rw[List.lookup_cons,List.lookup_cons]
  cases f == k with
  | true=>exact⟨fun d' z=>by cases z;exact⟨v,rfl,h2⟩,fun z=>by cases z⟩
  | false=>exact ih
theorem RepF.len:∀{fds:List (Str×D)}{fs:List (Str×V)},RepF K CT H fds fs->fds.length=fs.length
 | [],_,h=>by cases h;rfl
 | (k,d)::fds,_,⟨v,r,h1,h2,h3⟩=>by subst h1;rw[List.length_cons,List.length_cons,RepF.len h3]
theorem RepF.put{f:Str}{d:D}{v:V}(q:Rep K CT H d v):∀{fds:List (Str×D)}{fs:List (Str×V)},RepF K CT H fds fs->RepF K CT H (putD f d fds) (putF f v fs)
 | [],_,h=>by cases h;exact⟨v,[],rfl,q,rfl⟩
 | (k,x)::fds,_,⟨u,r,h1,h2,h3⟩=>by
  subst h1
  unfold putD putF
  by_cases hk:k=f
  ·rw[if_pos hk,if_pos hk];exact⟨v,r,rfl,q,h3⟩
  ·rw[if_neg hk,if_neg hk];exact⟨u,_,rfl,h2,RepF.put q h3⟩
end
def FldOk(K:W.Frag)(CT:CTab)(cs:List Str)(f:Str):Prop:=∀ c,cs.contains c=true->∀ A,CT c=some A->Cls K A/\QfI K A f
def dFld(cs:List Str)(f:Str):D->Out D
 | .ins c fs=>if cs.contains c=true then optO (fs.lookup f) else .stuck
 | _=>.stuck
section
variable{C:Dc}{e:Expr}{E:SD->Out D}{f:Str}{cs:List Str}{pos:Pos}
theorem Qfw(hF:FldOk C.X.K C.CT cs f)(h:DE C e E)(hb:attributeBase e f C.X.env (eval e C.X.env)=eval e C.X.env:=by rfl):DE C (.Attribute e f pos) (e1 (dFld cs f) E):=by
 obtain⟨t,p,q⟩:=h
 refine⟨_,QG7 p hb,fun G H σ ς Q S k=>?_⟩
 unfold e1 at k
 rw[Out.post_bind]at k
 refine q G H σ ς _ S (Out.post_mono k fun d k v H1 G1 S1 a1 b1 r=>?_)
 cases d with
 | ins c fds=>
  rcases QL k with⟨hc,k⟩ | ⟨_,k⟩
  ·obtain⟨d,e1',kd⟩:=Qb1 k
   obtain⟨a,A,dx,fs,rfl,h1,h2,h3⟩:=r
   obtain⟨v,e2',rv⟩:=(RepF.look h3).1 d e1'
   obtain⟨cl,na⟩:=hF c hc A h1
   exact⟨a,A,dx,fs,v,rfl,S1.sub _ _ h2,cl,na,e2',KD.now (KD.later kd a1 b1) S1 rv⟩
  ·exact k.elim
 | _=>exact k.elim
theorem StR.writeS{G H:Hp}{σ:St}{ς:SD}(S:StR C G H σ ς){i:Nat}{p A dx:Addr}{c:Str}{fds fds':List (Str×D)}{fs':List (Str×V)}(hi:ς[i]?=some (some (.s,.ins c fds)))(hp:σ[i]?=some (some (.ref p)))(hc:C.CT c=some A)(r:RepF C.X.K C.CT G fds' fs'):
 StR C G (upd H p (.ins A dx fs')) σ (ς.set i (some (.s,.ins c fds'))):=by
 obtain⟨p',e1,hg,h0,⟨hM,hW⟩,hB,ow⟩:=S.sf i _ hi
 rw[hp]at e1;cases e1
 have ne:∀ b o,G b=some o->b≠p:=fun b o e z=>by subst z;rw[hg]at e;cases e
 have S':StR C G (upd H p (.ins A dx fs')) (σ.set i (some (.ref p))) (ς.set i (some (.s,.ins c fds'))):={
  sub:=fun b o e=>by rw[Qh (ne b o e)];exact S.sub b o e
  g0:=S.g0
  new:=S.new
  fr:=fun b o e m=>by
   rw[Qh (by rintro rfl;exact m hM)];exact S.fr b o e m
  dom:=fun b e=>by
   by_cases hb:b=p
   ·subst hb;rw[Qz]at e;cases e
   ·rw[Qh hb]at e;exact S.dom b e
  bs:=fun b o e=>by
   rw[Qh (by rintro rfl;rw[hB]at e;cases e)];exact S.bs b o e
  bh:=S.bh
  len:=by rw[List.length_set,List.length_set];exact S.len
  fz:=fun j d h=>by
   rcases Qp h with⟨rfl,h2,l⟩ | ⟨hne,h2⟩
   ·cases h2
   ·rw[Qk hne];exact S.fz j d h2
  ow:=fun j d h=>by
   rcases Qp h with⟨rfl,h2,l⟩ | ⟨hne,h2⟩
   ·cases h2
   ·rw[Qk hne]
    obtain⟨q,a,b,c',w⟩:=S.ow j d h2
    have qp:q≠p:=by
     rintro rfl
     exact h0 c'
    exact⟨q,a,b,c',w.mono (Same.refl G) fun o z=>by rw[Qh qp];exact z⟩
  ln:=fun j d h=>by
   rcases Qp h with⟨rfl,h2,l⟩ | ⟨hne,h2⟩
   ·cases h2
   ·rw[Qk hne];exact S.ln j d h2
  inj:=fun j k d1 d2 q hjk h1 h2 h3=>by
   rcases Qp h1 with⟨rfl,q1,l⟩ | ⟨n1,q1⟩
   ·cases q1
   ·rcases Qp h2 with⟨rfl,q2,l⟩ | ⟨n2,q2⟩
    ·cases q2
    ·rw[Qk n1]at h3
     rw[Qk n2]
     exact S.inj j k d1 d2 q hjk q1 q2 h3
  sf:=fun j d h=>by
   rcases Qp h with⟨rfl,h2,l⟩ | ⟨hne,h2⟩
   ·cases h2
    exact⟨p,Qev (by rw[S.len];exact l),hg,h0,⟨hM,hW⟩,hB,⟨A,dx,fs',hc,Qz,r⟩⟩
   ·rw[Qk hne]
    obtain⟨q,a,b,c2,m,z,w⟩:=S.sf j d h2
    have qp:q≠p:=by
     rintro rfl
     exact S.su i j _ _ q hne hi h2 hp a
    exact⟨q,a,b,c2,m,z,w.mono (Same.refl G) fun o z=>by rw[Qh qp];exact z⟩
  su:=fun j k d1 d2 q hjk h1 h2 h3=>by
   have get:∀(j:Nat) d,(ς.set i (some (.s,D.ins c fds')))[j]?=some (some (.s,d))->∃ d',ς[j]?=some (some (.s,d')):=fun j d h=>by
    rcases Qp h with⟨rfl,h2,l⟩ | ⟨hne,h2⟩
    ·exact⟨_,hi⟩
    ·exact⟨_,h2⟩
   obtain⟨d1',g1⟩:=get j d1 h1
   obtain⟨d2',g2⟩:=get k d2 h2
   rw[Qeu hp]at h3 ⊢
   exact S.su j k d1' d2' q hjk g1 g2 h3 }
 rw[Qeu hp]at S'
 exact S'
def sFldS(cs:List Str)(f:Str)(i:Nat)(E:SD->Out D):SD->Out Fl:=fun ς=>E ς>>=fun d=>match ς[i]? with
 | some (some (.s,.ins c fds))=>if (cs.contains c&&decide (fds.length<1000))=true then .ok (.nx (ς.set i (some (.s,.ins c (putD f d fds))))) else .stuck
 | _=>.stuck
theorem Qd1(i:Nat){x:Str}{px pa:Pos}(hF:FldOk C.X.K C.CT cs f)(h:DE C e E)(hN:C.X.N[i]?=some x:=by rfl)(hv:Vis C.X.env.scope x:=by first | exact Or.inl rfl | exact Or.inr (oi rfl) | exact Or.inr (Or.inr rfl))
 (hd:(x == ("__debug__":Str))=false:=by decide) (hcd:(x == ("__classdict__":Str))=false:=by decide)
 (hs:swapsWith e (some (.Attribute (.Name x px) f pa)) pos.line C.X.env=pure false:=by rfl):DS C (.Assign [.Attribute (.Name x px) f pa] e pos) (sFldS cs f i E):=by
 obtain⟨t,p,q⟩:=h
 refine⟨_,QG2 (QbM (i:=i) hN hv hd hcd) p hs,fun G H σ ς W S k=>?_⟩
 unfold sFldS at k
 rw[Out.post_bind]at k
 refine q G H σ ς _ S (Out.post_mono k fun d k v H1 G1 S1 a1 b1 r=>?_)
 split at k
 ·rename_i c fds z
  rcases QL k with⟨hc,k⟩ | ⟨_,k⟩
  ·rw[Bool.and_eq_true]at hc
   obtain⟨pp,e1',hg,h0,hM,hB,A,dx,fs,hA,hH,rf⟩:=S1.sf i _ z
   obtain⟨cl,na⟩:=hF c hc.1 A hA
   refine⟨_,e1',pp,A,dx,fs,rfl,hH,cl,na,by rw[← rf.len];exact of_decide_eq_true hc.2,?_⟩
   exact(show FlK C G W (.nx (ς.set i (some (.s,.ins c (putD f d fds))))) from k) σ _ G1 (S1.writeS z e1' hA (rf.put r)) b1
  ·exact k.elim
 ·exact k.elim
end
end DL
namespace L2
open PySem PySem.Spec PyProof.Rows
section
variable{X:Cx}{CX:CXT}{k:Nat}{m:Str}{dvs:List V}{E:XK}{o e:Expr}{es:List Expr}{ta:TE}{t:TA}{apos pos:Pos}{cs:Addr->Sp->Prop}
def MTab(X:Cx)(CX:CXT)(k:Nat)(m:Str)(dvs:List V)(cs:Addr->Sp->Prop):Prop:=
 ∀ C sp,cs C sp->Cls X.K C/\∃ f fd ps ds,Meth X.K C m f/\FnOk X.prog X.w X.K X.mg X.base CX k f fd ps sp/\Binds X.K fd ps ds/\Vals dvs ds
def QBP(m:Str)(dvs:List V)(cs:Addr->Sp->Prop)(E:XK)(ta:TE)(t:TA):TE:=fun σ H Q=>ta σ H fun x H1=>∃ a C dx fs sp,x=.ref a/\H1 a=some (.ins C dx fs)/\cs C sp/\fs.lookup m=none/\t σ H1 fun vs H2=>sp (x::(vs++dvs)) H2 Q E
theorem QtX{pl:Sem Bool}(he:PE X o ta)(tab:MTab X CX k m dvs cs)(hr:Room k X.A)(hx:Qd5 CX X E)(ha:PA X (e::es) t)
 (hst:starEach (e::es) X.env=(false,eval e X.env)::starEach es X.env:=by rfl) (hpl:(backTo pos (starEach es X.env)).any (·.1)=false:=by rfl)
 (ht:eval (.Call (.Attribute o m apos) (e::es) [] pos) X.env=(do
  let ov ← eval o X.env
  standAt apos.atName
  let (f,first) ← holding [ov] (getMethod ov m pl)
  callWith pos f first (backTo pos (starEach (e::es) X.env)) (backToKw pos (keywordEach [] X.env))):=by rfl):
 PE X (.Call (.Attribute o m apos) (e::es) [] pos) (QBP m dvs cs E ta t):=by
 intro pins s σ H Q I h
 refine W.methodCall_KW (pl:=pl) (thn (he pins s σ H _ I h) fun u s1 ⟨x,H1,I1,rx,a,C,dx,fs,sp,ex,ea,hc,l,q⟩=>?_) ht
 subst ex
 obtain rfl:u=Value.ref a:=rx
 obtain⟨c,f,fd,ps,ds,hm,F,hb,hd⟩:=tab C sp hc
 refine QlA I1 ea c hm l ?_
 refine W.callWith_K (first:=[.ref a]) (h₀:=X.base) I.ok.mod.kin hm.kp (thn (ha pos pins s1 σ H1 _ I1 q) fun us s2 ⟨vs,H2,I2,r,q2⟩=>⟨I2.kIn,?_⟩) hst hpl
 exact QrW (us:=.ref a::us) (vs:=.ref a::vs) F hr hb hd hx I2 (.cons rfl r) q2
theorem QB3{pl:Sem Bool}(he:PE X o ta)(tab:MTab X CX k m dvs cs)(hr:Room k X.A)(hx:Qd5 CX X E)
 (ht:eval (.Call (.Attribute o m apos) [] [] pos) X.env=(do
  let ov ← eval o X.env
  standAt apos.atName
  let (f,first) ← holding [ov] (getMethod ov m pl)
  callWith pos f first (backTo pos (starEach [] X.env)) (backToKw pos (keywordEach [] X.env))):=by rfl):
 PE X (.Call (.Attribute o m apos) [] [] pos) (QBP m dvs cs E ta tNil):=by
 intro pins s σ H Q I h
 refine W.methodCall_KW (pl:=pl) (thn (he pins s σ H _ I h) fun u s1 ⟨x,H1,I1,rx,a,C,dx,fs,sp,ex,ea,hc,l,q⟩=>?_) ht
 subst ex
 obtain rfl:u=Value.ref a:=rx
 obtain⟨c,f,fd,ps,ds,hm,F,hb,hd⟩:=tab C sp hc
 refine QlA I1 ea c hm l ?_
 exact W.callWith_K0 (first:=[.ref a]) I1.kIn hm.kp (QrW (us:=[.ref a]) (vs:=[.ref a]) F hr hb hd hx I1 (.cons rfl .nil) q)
end
end L2
namespace DL
open PySem PySem.Spec PyProof.Rows L2
def XDofI(CT:CTab)(E:XK)(H:Hp)(p:Addr):D->Prop:=fun d=>∃ c C,d=.err c/\CT c=some C/\∀ H',(∀ b o,H b=some o->b≠p->H' b=some o)->E (.ref C) none H'
def SpI(K:W.Frag)(CT:CTab)(m:Str->List (Str×D)->List D->Out (List (Str×D))):Sp:=fun vs H Q E=>∃ p c A dx fs fds vs' ds G0,vs=.ref p::vs'/\CT c=some A/\H p=some (.ins A dx fs)/\G0 p=none/\Same G0 H/\RepF K CT G0 fds fs/\RepL K CT G0 ds vs'/\
 (m c fds ds).post (fun fds'=>∀ H' G' fs' dx',Same G0 G'->(∀ b o,H b=some o->b≠p->H' b=some o)->Same G' H'->(∀ b,G0 b=none->G' b≠none->H b=none)->H' p=some (.ins A dx' fs')->RepF K CT G' fds' fs'->Q .non H') (XDofI CT E H p)
def QiJ(c:Str)(ς:SD):Out (List (Str×D)):=match (ς[0]?:Option (Option (SM×D))) with
 | some (some (SM.s,D.ins c' fds))=>if c'=c then .ok fds else .stuck
 | _=>.stuck
def Qdb(c:Str):Fl->Out (List (Str×D))
 | .nx ς=>QiJ c ς
 | _=>.stuck
def bodyI(n len:Nat)(T:SD->Out Fl):Str->List (Str×D)->List D->Out (List (Str×D)):=fun c fds ds=>
 if ds.length+1=n then T (some (.s,.ins c fds)::(ds.map (fun d=>some (.k,d))++List.replicate (len - n) none))>>=Qdb c else .stuck
abbrev dcI(P:Program)(w:World)(K:W.Frag)(mg:Str->Option Value)(base:Heap)(CT:CTab)(N:List Str)(qual:Str)(sc:Scope)(f:Addr)(cdv:Value)(A:Around)(outer:List Env)(s:Shared)(H:Hp)(E:XK)(G:Hp)(p:Addr):Dc:=
 { X:=cxOf (CXR P w) P w K mg base N qual sc f cdv A outer s H E,CT:=CT,G0:=G,XD:=XDofI CT E H p,B:=fun b=>if b=p then none else H b,M:=fun b=>b=p,W:=fun _=>some p }
theorem fnI{P:Program}{w:World}{K:W.Frag}{mg:Str->Option Value}{base:Heap}{CT:CTab}{x qual:Str}{st:Stmt}{f:Addr}{fd:FuncData}{dV:Value}{N ps:List Str}{k:Nat}{T:SD->Out Fl}
 (F:FunV K x qual st f fd dV) (S:Qr N ps (Qb st))
 (hb:∀(cdv:Value)(A:Around)(outer:List Env)(s:Shared)(H:Hp)(E:XK)(G:Hp)(p:Addr),Room k (A.deeper (envOfC qual (Qb st) s.heap.objs.size f cdv))->DSs (dcI P w K mg base CT N qual (Qb st) f cdv A outer s H E G p) (Qm st) T):
 FnOk P w K mg base (CXR P w) (k+1) f fd ps (SpI K CT (bodyI ps.length N.length T)):=by
 obtain⟨oc,od,kV,doc,pm,an,cdv,ct,osl,rfl,lk,hcd⟩:=F.ex
 have hpl:ps.length<=N.length:=by have:=congrArg List.length S.pre;rw[List.length_take]at this;omega
 have len:∀ vs H Q E,SpI K CT (bodyI ps.length N.length T) vs H Q E->vs.length=ps.length:=by
  intro vs H Q E ⟨p,c,A,dx,fs,fds,vs',ds,G0,e,_,_,_,_,_,r,q⟩
  unfold bodyI at q
  by_cases hl:ds.length+1=ps.length
  ·rw[e,List.length_cons, ← r.length];exact hl
  ·rw[if_neg hl]at q;exact q.elim
 refine fn_of lk hcd S len fun A outer s H vs Q E hr hsp=>?_
 have hlen:=len vs H Q E hsp
 obtain⟨p,c,Ac,dx,fs,fds,vs',ds,G0,rfl,hct,hp,hg,sub,rf,r,q⟩:=hsp
 obtain⟨t,p1,q1⟩:=hb cdv A outer s H E G0 p hr
 have hl:ds.length+1=ps.length:=by rw[r.length];exact hlen
 refine⟨t,p1,?_⟩
 unfold bodyI at q
 rw[if_pos hl,Out.post_bind]at q
 have get:∀(i:Nat) x,(some (SM.s,D.ins c fds)::(ds.map (fun d=>some (SM.k,d))++List.replicate (N.length - ps.length) none))[i]?=some (some x)->(i=0/\x=(.s,.ins c fds))∨∃ j d,i=j+1/\ds[j]?=some d/\x=(.k,d):=fun i x h=>by
  cases i with
  | zero=>exact .inl ⟨rfl,by simpa using h.symm⟩
  | succ j=>
   rw[List.getElem?_cons_succ]at h
   obtain⟨d,e1,e2⟩:=QaL h
   exact .inr ⟨j,d,rfl,e1,e2⟩
 have S0:StR (dcI P w K mg base CT N qual (Qb st) f cdv A outer s H E G0 p) G0 H (L2.start N (.ref p::vs')) (some (.s,.ins c fds)::(ds.map (fun d=>some (.k,d))++List.replicate (N.length - ps.length) none)):={
  sub:=sub
  g0:=Same.refl _
  new:=fun b h1 h2=>absurd h1 h2
  fr:=fun b o e _=>e
  dom:=fun b e=>e
  bs:=fun b o e=>by
   have e':(if b=p then none else H b)=some o:=e
   by_cases hb:b=p
   ·rw[if_pos hb]at e';cases e'
   ·rw[if_neg hb]at e';exact e'
  bh:=fun b e=>by
   show(if b=p then none else H b)=none
   by_cases hb:b=p
   ·rw[if_pos hb]
   ·rw[if_neg hb];exact e
  len:=by unfold L2.start;simp;have:=r.length;simp at hlen;omega
  fz:=fun i d e=>by
   rcases get i _ e with⟨_,z⟩ | ⟨j,d',rfl,e1,z⟩
   ·cases z
   ·cases z
    obtain⟨v,e3,rv⟩:=r.get e1
    exact⟨v,Qge (by simpa using e3),rv⟩
  ow:=fun i d e=>by
   rcases get i _ e with⟨_,z⟩ | ⟨j,d',rfl,e1,z⟩<;>cases z
  ln:=fun i d e=>by
   rcases get i _ e with⟨_,z⟩ | ⟨j,d',rfl,e1,z⟩<;>cases z
  inj:=fun i j d e p _ h=>by
   rcases get i _ h with⟨_,z⟩ | ⟨j,d',rfl,e1,z⟩<;>cases z
  sf:=fun i d e=>by
   rcases get i _ e with⟨rfl,z⟩ | ⟨j,d',rfl,e1,z⟩
   ·cases z
    exact⟨p,Qge rfl,hg,(by show H p≠none;rw[hp];simp),⟨rfl,rfl⟩,if_pos rfl,⟨Ac,dx,fs,hct,hp,rf⟩⟩
   ·cases z
  su:=fun i j d e q hij h1 h2=>by
   rcases get i _ h1 with⟨rfl,z⟩ | ⟨j,d',rfl,e1,z⟩
   ·rcases get j _ h2 with⟨rfl,z⟩ | ⟨j,d',rfl,e1,z⟩
    ·exact absurd rfl hij
    ·cases z
   ·cases z }
 refine q1 G0 H (L2.start N (.ref p::vs')) _ _ S0 (Out.post_mono q fun fl kk=>?_)
 cases fl with
 | nx ς'=>
  intro σ' H' G' S' s'
  have kk:(QiJ c ς').post _ _:=kk
  unfold QiJ at kk
  split at kk
  ·rename_i c' fds' z
   rcases QL kk with⟨rfl,k2⟩ | ⟨_,k2⟩
   ·obtain⟨p',e1,hg',h0,⟨hM,_⟩,hB,A',dx',fs',hA',hH',rf'⟩:=S'.sf 0 _ z
    have hM:p'=p:=hM
    subst hM
    have hA':CT c'=some A':=hA'
    rw[hct]at hA'
    cases hA'
    exact k2 H' G' fs' dx' s' (fun b o e hb=>S'.fr b o e hb) S'.sub S'.new hH' rf'
   ·exact k2.elim
  ·exact kk.elim
 | bk ς'=>exact kk.elim
 | ct ς'=>exact kk.elim
 | rt b d=>exact kk.elim
end DL
namespace DL
open PySem PySem.Spec PyProof.Rows L2
theorem QmD{P:Program}{w:World}{K:W.Frag}{mg:Str->Option Value}{base:Heap}{CT:CTab}{N:List Str}{qual:Str}{sc:Scope}{f:Addr}{cdv:Value}{A:Around}{outer:List Env}{s:Shared}{H:Hp}{E:XK}{G:Hp}{p:Addr}:
 Rz (dcI P w K mg base CT N qual sc f cdv A outer s H E G p) E where
 pass:=passR
 xd:=fun d ⟨c,Cc,h1,h2,h3⟩=>⟨c,Cc,h1,h2,fun H' k=>h3 H' fun b o e hb=>k b o e hb⟩
 made:=fun Cc pins σ H1 s1 ea h' vs I hx hE=>QAC I rfl rfl rfl hx hE
 calm:=rfl
section
variable{C:Dc}{E:XK}{c:Str}{A f:Addr}{fd:FuncData}{ps:List Str}{ds:List Value}{dd:List D}{k:Nat}{m:Str->List (Str×D)->List D->Out (List (Str×D))}{e:Expr}{es:List Expr}{AA:SD->Out (List D)}{p pos:Pos}
def eMake(c:Str)(m:Str->List (Str×D)->List D->Out (List (Str×D)))(a:SD->Out (List D)):SD->Out D:=fun ς=>a ς>>=fun xs=>m c [] xs>>=fun fds=>.ok (.ins c fds)
def MkOk(P:Program)(w:World)(K:W.Frag)(mg:Str->Option Value)(base:Heap)(CT:CTab)(c:Str)(k:Nat)(m:Str->List (Str×D)->List D->Out (List (Str×D))):Prop:=
 ∃ A f fd ps,CT c=some A/\mg c=some (.ref A)/\Mk K A f/\FnOk P w K mg base (CXR P w) k f fd ps (SpI K CT m)/\Binds K fd ps []
theorem QgL(rz:Rz C E)(h:MkOk C.X.prog C.X.w C.X.K C.X.mg C.X.base C.CT c k m)(hr:Room (k+1) C.X.A)(ha:DA C (e::es) AA)(hg:Gl C.X c)
 (hdb:(c == ("__debug__":Str))=false:=by decide) (he:starEach (e::es) C.X.env=(false,eval e C.X.env)::starEach es C.X.env:=by rfl) (hpl:(backTo pos (starEach es C.X.env)).any (·.1)=false:=by rfl):
 DF C (.Call (.Name c p) (e::es) [] pos) (eMake c m AA):=by
 obtain⟨A,f,fd,ps,hct,hm,M,F,hb⟩:=h
 obtain⟨t,p1,q1⟩:=ha
 refine⟨_,QGf M F hr hg hm hb .nil rz.pass p1 hdb he hpl,fun G H σ ς Q S q=>?_⟩
 unfold eMake at q
 rw[Out.post_bind]at q
 refine q1 G H σ ς _ S (Out.post_mono q fun xs kk vs H1 G1 S1 a1 b1 r1=>?_)
 intro x dx nx ndx ne
 rw[Out.post_bind]at kk
 have keep:∀ b o,H1 b=some o->upd (upd H1 dx (.own x)) x (.ins A dx []) b=some o:=fun b o e=>by
  rw[Qh (QJ e nx),Qh (QJ e ndx)];exact e
 have back:∀ b,upd (upd H1 dx (.own x)) x (.ins A dx []) b=none->H1 b=none:=fun b e=>by
  by_cases hx:b=x
  ·subst hx;exact nx
  ·rw[Qh hx]at e
   by_cases hd:b=dx
   ·subst hd;exact ndx
   ·rw[Qh hd]at e;exact e
 refine⟨x,c,A,dx,[],[],vs++[],xs,G1,rfl,hct,Qz,S1.sub.free nx,fun b o e=>keep b o (S1.sub b o e),rfl,by rw[List.append_nil];exact r1,?_⟩
 cases z:m c [] xs with
 | stuck=>rw[z]at kk;exact kk.elim
 | exc y=>
  rw[z]at kk
  obtain⟨c',Cc,e1',e2',e3'⟩:=rz.xd y kk
  exact⟨c',Cc,e1',e2',fun H' s'=>e3' H' fun b o q m'=>s' b o (keep b o (S1.fr b o q m')) (QJ (S1.fr b o q m') nx)⟩
 | ok fds=>
  rw[z]at kk
  intro H' G' fs' dx' g1 h1 s1 n1 hp rf
  have hh:Same H1 H':=fun b o e=>h1 b o (keep b o e) (QJ e nx)
  have hgp:G' x=none:=by
   cases zz:G' x with
   | none=>rfl
   | some o=>have:=n1 x (S1.sub.free nx) (by rw[zz];simp);rw[Qz]at this;cases this
  exact⟨rfl,(show KF C G H σ ς Q (.ins c fds) from kk) x H' G' (S1.grow hh g1 s1 fun b g g'=>back b (n1 b g g')) (a1.trans hh) (b1.trans g1) (a1.free nx) hgp ⟨A,dx',fs',hct,hp,rf⟩⟩
end
def MtOk(P:Program)(w:World)(K:W.Frag)(mg:Str->Option Value)(base:Heap)(CT:CTab)(CX:CXT)(name:Str)(k:Nat)(cs:List Str)(sp:Str->Sp):Prop:=
 ∀ c,cs.contains c=true->∃ A f fd ps,CT c=some A/\Cls K A/\Meth K A name f/\FnOk P w K mg base CX k f fd ps (sp c)/\Binds K fd ps []
def csOf(CT:CTab)(cs:List Str)(sp:Str->Sp):Addr->Sp->Prop:=fun A s=>∃ c,cs.contains c=true/\CT c=some A/\s=sp c
theorem mtab{X:Cx}{CT:CTab}{CX:CXT}{name:Str}{k:Nat}{cs:List Str}{sp:Str->Sp}(h:MtOk X.prog X.w X.K X.mg X.base CT CX name k cs sp):MTab X CX k name [] (csOf CT cs sp):=by
 rintro A s ⟨c,hc,hA,rfl⟩
 obtain⟨A',f,fd,ps,h1,h2,h3,h4,h5⟩:=h c hc
 rw[hA]at h1;cases h1
 exact⟨h2,f,fd,ps,[],h3,h4,h5,.nil⟩
section
variable{C:Dc}{name:Str}{k:Nat}{cs:List Str}{fr:Bool}{mt:Str->List D->Out D}{o e:Expr}{es:List Expr}{O:SD->Out D}{AA:SD->Out (List D)}{apos pos:Pos}
def eMeth(cs:List Str)(name:Str)(mt:Str->List D->Out D)(O:SD->Out D)(A:SD->Out (List D)):SD->Out D:=fun ς=>O ς>>=fun d=>match d with
 | .ins c fds=>if (cs.contains c&&(fds.lookup name).isNone)=true then A ς>>=fun xs=>mt c (.ins c fds::xs) else .stuck
 | _=>.stuck
theorem QzI{G H:Hp}{σ:St}{ς:SD}{Q:VK}{t:TA}{c:Str}{fds:List (Str×D)}{v1:V}{H1 G1:Hp}(S1:StR C G1 H1 σ ς)(a1:Same H H1)(b1:Same G G1)(r1:Rep C.X.K C.CT G1 (.ins c fds) v1)
 (tk:MtOk C.X.prog C.X.w C.X.K C.X.mg C.X.base C.CT CX0 name k cs (fun c=>SpD C.X.K C.CT fr (mt c))) (hx:∀ x,¬ C.XD x)
 (hq:∀ G H σ ς Q,StR C G H σ ς->(AA ς).post (fun ds=>∀ vs H' G',StR C G' H' σ ς->Same H H'->Same G G'->RepL C.X.K C.CT G' ds vs->Q vs H') C.XD->t σ H Q)
 {K':D->Prop} (hK:∀ d v H2 G2 H' G',StR C G2 H2 σ ς->Same H H2->Same G G2->K' d->Same G2 G'->Same H2 H'->Same G' H'->(∀ b,G2 b=none->G' b≠none->H2 b=none)->RetG C.X.K C.CT fr H2 G' H' d v->Q v H')
 (kk:(if (cs.contains c&&(fds.lookup name).isNone)=true then AA ς>>=fun xs=>mt c (.ins c fds::xs) else .stuck).post K' C.XD):
 ∃ a Cc dx fs sp,v1=.ref a/\H1 a=some (.ins Cc dx fs)/\csOf C.CT cs (fun c=>SpD C.X.K C.CT fr (mt c)) Cc sp/\fs.lookup name=none/\t σ H1 fun vs H2=>sp (v1::(vs++[])) H2 Q E0:=by
 rcases QL kk with⟨hc,kk⟩ | ⟨_,kk⟩
 ·rw[Bool.and_eq_true]at hc
  obtain⟨a,Cc,dx,fs,rfl,hct,hh,rf⟩:=r1
  refine⟨a,Cc,dx,fs,_,rfl,S1.sub _ _ hh,⟨c,hc.1,hct,rfl⟩,(RepF.look rf).2 (by simpa using hc.2),?_⟩
  rw[Out.post_bind]at kk
  refine hq G1 H1 σ ς _ S1 (Out.post_mono kk fun xs k2 vs H2 G2 S2 a2 b2 r2=>?_)
  refine⟨.ins c fds::xs,G2,S2.sub,⟨_,_,rfl,Rep.mono b2 (.ins c fds) (.ref a) ⟨a,Cc,dx,fs,rfl,hct,hh,rf⟩,by rw[List.append_nil];exact r2⟩,?_⟩
  cases z:mt c (.ins c fds::xs) with
  | stuck=>rw[z]at k2;exact k2.elim
  | exc y=>rw[z]at k2;exact absurd k2 (hx y)
  | ok d=>
   rw[z]at k2
   intro v H' G' g1 h1 s1 n1 ret
   exact hK d v H2 G2 H' G' S2 (a1.trans a2) (b1.trans b2) k2 g1 h1 s1 n1 ret
 ·exact kk.elim
theorem retKD{G H:Hp}{σ:St}{ς:SD}{Q:VK}:∀ d v H2 G2 H' G',StR C G2 H2 σ ς->Same H H2->Same G G2->KD C G H σ ς Q d->Same G2 G'->Same H2 H'->Same G' H'->(∀ b,G2 b=none->G' b≠none->H2 b=none)->RetG C.X.K C.CT fr H2 G' H' d v->Q v H':=by
 intro d v H2 G2 H' G' S2 a b kd g1 h1 s1 n1 ret
 unfold RetG at ret
 by_cases hc:(fr && !d.scal)=true
 ·rw[if_pos hc]at ret
  obtain⟨pp,rfl,h0,hg',ow⟩:=ret
  obtain⟨o,ho⟩:=ow.there
  have S3:=(S2.grow h1 g1 s1 n1).freeze ho hg' (S2.h0none h0) (fun i d' z1 z2=>by
   obtain⟨o',ho'⟩:=S2.own_ne z1 z2
   rw[h0]at ho';cases ho')
  exact kd _ _ _ S3 (a.trans h1) ((b.trans g1).trans (Qt hg')) (ow.known hg' ho)
 ·rw[if_neg hc]at ret
  exact kd v H' G' (S2.grow h1 g1 s1 n1) (a.trans h1) (b.trans g1) ret
theorem Qn1{pl:Sem Bool}(tk:MtOk C.X.prog C.X.w C.X.K C.X.mg C.X.base C.CT CX0 name k cs (fun c=>SpD C.X.K C.CT fr (mt c)))(hr:Room k C.X.A)(ho:DE C o O)(ha:DA C (e::es) AA)(hx:∀ x,¬ C.XD x:=by exact fun _ h=>h)
 (hst:starEach (e::es) C.X.env=(false,eval e C.X.env)::starEach es C.X.env:=by rfl) (hpl:(backTo pos (starEach es C.X.env)).any (·.1)=false:=by rfl)
 (ht:eval (.Call (.Attribute o name apos) (e::es) [] pos) C.X.env=(do
  let ov ← eval o C.X.env
  standAt apos.atName
  let (f,first) ← holding [ov] (getMethod ov name pl)
  callWith pos f first (backTo pos (starEach (e::es) C.X.env)) (backToKw pos (keywordEach [] C.X.env))):=by rfl):
 DE C (.Call (.Attribute o name apos) (e::es) [] pos) (eMeth cs name mt O AA):=by
 obtain⟨t1,p1,q1⟩:=ho
 obtain⟨t2,p2,q2⟩:=ha
 refine⟨_,QtX (pl:=pl) p1 (mtab tk) hr pass0 p2 hst hpl ht,fun G H σ ς Q S q=>?_⟩
 unfold eMeth at q
 rw[Out.post_bind]at q
 refine q1 G H σ ς _ S (Out.post_mono q fun d kk v1 H1 G1 S1 a1 b1 r1=>?_)
 cases d with
 | ins c fds=>exact QzI S1 a1 b1 r1 tk hx q2 retKD kk
 | _=>exact kk.elim
theorem Qcx{pl:Sem Bool}(tk:MtOk C.X.prog C.X.w C.X.K C.X.mg C.X.base C.CT CX0 name k cs (fun c=>SpD C.X.K C.CT fr (mt c)))(hr:Room k C.X.A)(ho:DE C o O)(hx:∀ x,¬ C.XD x:=by exact fun _ h=>h)
 (ht:eval (.Call (.Attribute o name apos) [] [] pos) C.X.env=(do
  let ov ← eval o C.X.env
  standAt apos.atName
  let (f,first) ← holding [ov] (getMethod ov name pl)
  callWith pos f first (backTo pos (starEach [] C.X.env)) (backToKw pos (keywordEach [] C.X.env))):=by rfl):
 DE C (.Call (.Attribute o name apos) [] [] pos) (eMeth cs name mt O aNil):=by
 obtain⟨t1,p1,q1⟩:=ho
 refine⟨_,QB3 (pl:=pl) p1 (mtab tk) hr pass0 ht,fun G H σ ς Q S q=>?_⟩
 unfold eMeth at q
 rw[Out.post_bind]at q
 refine q1 G H σ ς _ S (Out.post_mono q fun d kk v1 H1 G1 S1 a1 b1 r1=>?_)
 cases d with
 | ins c fds=>exact QzI (AA:=aNil) (t:=tNil) S1 a1 b1 r1 tk hx (fun G H σ ς Q S q=>q [] H G S (Same.refl H) (Same.refl G) rfl) retKD kk
 | _=>exact kk.elim
end
end DL
namespace DL
open PySem PySem.Spec PyProof.Rows L2
section
variable{C:Dc}{name:Str}{k:Nat}{cs:List Str}{mt:Str->List D->Out D}{o e:Expr}{es:List Expr}{O:SD->Out D}{AA:SD->Out (List D)}{apos pos:Pos}
variable{E:XK}{m:Str->List (Str×D)->List D->Out (List (Str×D))}{x:Str}{px spos:Pos}
def QeS(cs:List Str)(name:Str)(m:Str->List (Str×D)->List D->Out (List (Str×D)))(i:Nat)(A:SD->Out (List D)):SD->Out Fl:=fun ς=>match (ς[i]?:Option (Option (SM×D))) with
 | some (some (SM.s,D.ins c fds))=>if (cs.contains c&&(fds.lookup name).isNone)=true then A ς>>=fun xs=>m c fds xs>>=fun fds'=>.ok (.nx (ς.set i (some (.s,.ins c fds')))) else .stuck
 | _=>.stuck
theorem Qhr{pl:Sem Bool}(i:Nat)(rz:Rz C E)(tk:MtOk C.X.prog C.X.w C.X.K C.X.mg C.X.base C.CT (CXR C.X.prog C.X.w) name k cs (fun _=>SpI C.X.K C.CT m))(hr:Room k C.X.A)(ha:DA C (e::es) AA)
 (hN:C.X.N[i]?=some x:=by rfl) (hv:Vis C.X.env.scope x:=by first | exact Or.inl rfl | exact Or.inr (oi rfl) | exact Or.inr (Or.inr rfl))
 (hd:(x == ("__debug__":Str))=false:=by decide) (hcd:(x == ("__classdict__":Str))=false:=by decide)
 (hst:starEach (e::es) C.X.env=(false,eval e C.X.env)::starEach es C.X.env:=by rfl) (hpl:(backTo pos (starEach es C.X.env)).any (·.1)=false:=by rfl)
 (ht:eval (.Call (.Attribute (.Name x px) name apos) (e::es) [] pos) C.X.env=(do
  let ov ← eval (.Name x px) C.X.env
  standAt apos.atName
  let (f,first) ← holding [ov] (getMethod ov name pl)
  callWith pos f first (backTo pos (starEach (e::es) C.X.env)) (backToKw pos (keywordEach [] C.X.env))):=by rfl)
 (hsw:swapsWith (.Call (.Attribute (.Name x px) name apos) (e::es) [] pos) none spos.line C.X.env=pure false:=by rfl):
 DS C (.Expr (.Call (.Attribute (.Name x px) name apos) (e::es) [] pos) spos) (QeS cs name m i AA):=by
 obtain⟨t2,p2,q2⟩:=ha
 refine⟨_,QjU (QtX (pl:=pl) (QbM (i:=i) hN hv hd hcd) (mtab tk) hr rz.pass p2 hst hpl ht) hsw,fun G H σ ς W S kk=>?_⟩
 unfold QeS at kk
 split at kk
 ·rename_i c fds z
  rcases QL kk with⟨hc,kk⟩ | ⟨_,kk⟩
  ·rw[Bool.and_eq_true]at hc
   obtain⟨p,e1',hg,h0,⟨hM,_⟩,hB,A,dx,fs,hct,hh,rf⟩:=S.sf i _ z
   refine⟨_,e1',p,A,dx,fs,_,rfl,hh,⟨c,hc.1,hct,rfl⟩,(RepF.look rf).2 (by simpa using hc.2),?_⟩
   rw[Out.post_bind]at kk
   refine q2 G H σ ς _ S (Out.post_mono kk fun xs k2 vs H2 G2 S2 a2 b2 r2=>?_)
   obtain⟨p',e2',hg2,_,_,_,A2,dx2,fs2,hct2,hh2,rf2⟩:=S2.sf i _ z
   rw[e1']at e2';cases e2'
   rw[Out.post_bind]at k2
   refine⟨p,c,A2,dx2,fs2,fds,vs++[],xs,G2,rfl,hct2,hh2,hg2,S2.sub,rf2,by rw[List.append_nil];exact r2,?_⟩
   cases zz:m c fds xs with
   | stuck=>rw[zz]at k2;exact k2.elim
   | exc y=>
    rw[zz]at k2
    obtain⟨c',Cc,f1,f2,f3⟩:=rz.xd y k2
    exact⟨c',Cc,f1,f2,fun H' s'=>f3 H' fun b o q mm=>s' b o (S2.fr b o q mm) (by rintro rfl;exact mm hM)⟩
   | ok fds'=>
    rw[zz]at k2
    intro H' G' fs' dx' g1 h1 s1 n1 hp rf'
    have gp:G' p=none:=by
     cases y:G' p with
     | none=>rfl
     | some o=>have:=n1 p hg2 (by rw[y];simp);rw[hh2]at this;cases this
    have S3:StR C G' (upd H' p (.ins A2 dx2 fs2)) σ ς:=S2.grow (fun b o e=>by
     by_cases hb:b=p
     ·subst hb;rw[Qz];rw[hh2]at e;exact e
     ·rw[Qh hb];exact h1 b o e hb) g1 (fun b o e=>by
     rw[Qh (by rintro rfl;rw[gp]at e;cases e)];exact s1 b o e) n1
    have S4:=S3.writeS (dx:=dx') z e1' hct2 rf'
    have eq:upd (upd H' p (.ins A2 dx2 fs2)) p (.ins A2 dx' fs')=H':=by
     rw[QFw]
     funext b
     by_cases hb:b=p
     ·subst hb;rw[Qz,hp]
     ·rw[Qh hb]
    rw[eq]at S4
    exact(show FlK C G W (.nx (ς.set i (some (.s,.ins c fds')))) from k2) σ H' G' S4 (b2.trans g1)
  ·exact kk.elim
 ·exact kk.elim
end
end DL
namespace DL
open PySem PySem.Spec PyProof.Rows L2
def inCls(s:Stmt)(j:Nat):Stmt:=match s with
 | .ClassDef _ _ _ b _ _ _ _ _ _ _=>b.getD j (.Pass ⟨0,0,0,0⟩)
 | _=>.Pass ⟨0,0,0,0⟩
def KitI(K:W.Frag)(CT:CTab)(uc:Value)(tbl:List (Str×Bool)):Prop:=∀ c b,tbl.lookup c=some b->∀ A,CT c=some A->ClsD K A/\W.kitOne K (.ref A) uc=some b
theorem QhH{K:W.Frag}{CT:CTab}{uc:Value}:KitI K CT uc []:=fun _ _ h=>nomatch h
theorem Q1{K:W.Frag}{CT:CTab}{uc:Value}{c:Str}{b:Bool}{A:Addr}{tbl:List (Str×Bool)}(hc:CT c=some A)(hx:ClsD K A)(hk:W.kitOne K (.ref A) uc=some b)(r:KitI K CT uc tbl):KitI K CT uc ((c,b)::tbl):=by
 intro c' b' h A' hA
 rw[List.lookup_cons]at h
 cases e:c' == c with
 | true=>
  rw[e]at h
  cases h
  rw[beq_iff_eq.mp e,hc]at hA
  cases hA
  exact⟨hx,hk⟩
 | false=>
  rw[e]at h
  exact r c' b' h A' hA
section
variable{C:Dc}{pos p:Pos}{e cx:Expr}{E:SD->Out D}
end
def eIxO(i:Nat)(b:SD->Out D):SD->Out D:=fun ς=>match (ς[i]?:Option (Option (SM×D))) with
 | some (some (SM.o,D.lst xs))=>b ς>>=fun k=>match k with | .int k=>optO (atI xs k) | _=>.stuck
 | _=>.stuck
section
variable{C:Dc}{pos px:Pos}{b:Expr}{B:SD->Out D}{x f:Str}{cs:List Str}
theorem QsK(i:Nat)(hb:DB C b B)(hN:C.X.N[i]?=some x:=by rfl)(hv:Vis C.X.env.scope x:=by first | exact Or.inl rfl | exact Or.inr (oi rfl) | exact Or.inr (Or.inr rfl))
 (hd:(x == ("__debug__":Str))=false:=by decide) (hcd:(x == ("__classdict__":Str))=false:=by decide) (hs:QjR b:=by intro _ _;rfl):DE C (.Subscript (.Name x px) b pos) (eIxO i B):=by
 obtain⟨tb,p2,q2⟩:=hb
 refine⟨_,pe_ix QtO (QbM (i:=i) hN hv hd hcd) p2 hs,fun G H σ ς Q S q=>?_⟩
 unfold eIxO at q
 split at q
 ·rename_i xs z
  obtain⟨p,e1',hg,h0,ow⟩:=S.ow i _ z
  rw[Out.post_bind]at q
  refine⟨_,e1',q2 G H σ ς _ S (Out.post_mono q fun y k2 v2 H2 G2 S2 a2 b2 r2=>?_)⟩
  cases y with
  | int k=>
   cases r2
   obtain⟨d,e2',kd⟩:=Qb1 k2
   obtain⟨p',e3',hg',h0',vs,hv1,hv2⟩:=S2.ow i _ z
   rw[e1']at e3';cases e3'
   obtain⟨v,e4',rv⟩:=Qhc hv2 e2'
   exact .inl ⟨p,vs,k,v,rfl,rfl,SqL.of hv1,e4',KD.now (KD.later kd a2 b2) S2 rv⟩
  | _=>exact k2.elim
 ·exact q.elim
end
end DL
namespace L2
open PySem PySem.Spec PyProof.Rows
def Ite(K:W.Frag)(a:Addr):It:=
 ⟨fun i H=>∃ xs x,SqL K H a xs/\xs[i]?=some x,
  fun i H v H'=>∃ p x,H p=none/\v=.ref p/\H'=upd H p (.tup [.int i,x])/\(∀ xs,SqL K H a xs->xs[i]?=some x),
  fun i H=>∃ xs,SqL K H a xs/\xs.length<=i⟩
theorem QDv{P:Program}{w:World}{K:W.Frag}{elts:List Expr}{k1:Nat}{pos:Pos}{e it l:Addr}(D1:e≠it):
 Turn P w K (.Tuple elts k1 pos) (Ite K l) [e,it] e (fun i h=>(∃ old,IsEnum h e it (i:Int) old)/\h.IsListIter it l i) where
 mem:=by simp
 obj:=fun i h st b hb=>by
  obtain⟨⟨old,s1⟩,⟨o4,e4,c4,d4⟩⟩:=st
  simp only[List.mem_cons,List.not_mem_nil,or_false]at hb
  rcases hb with rfl | rfl
  ·exact⟨_,s1,fun v q=>by cases q⟩
  ·exact⟨_,e4,fun v q=>by rw[d4]at q;cases q⟩
 keep:=fun i h h' st k=>by
  obtain⟨⟨old,s1⟩,s4⟩:=st
  exact⟨⟨old,k e (by simp) _ s1⟩,s4.at fun o q=>k it (by simp) o q⟩
 item:=by
  intro X hP hw hK hc i pins s σ H E I hf st hg
  subst hP hw hK
  obtain⟨xs,x,q1,hx⟩:=hg
  obtain⟨its1,rv1,p1,hz1⟩:=I.list q1
  obtain⟨u1,hu1,ru1⟩:=rv1.get hx
  obtain⟨⟨old,s1⟩,s4⟩:=st
  refine wpAny_pyNext_enum_item s1 s4 p1.isList (x:=u1) (by simpa using hu1) D1 fun h' a1 a3 a5 a6 hk=>?_
  have hT:H s.heap.objs.size=none:=I.hok.fresh (Nat.le_refl _)
  have fp:∀ c∈[e,it],FpOk X pins H c:=hf
  have out:∀ c,c∉[e,it]->∀ o,s.heap.get? c=some o->h'.get? c=some o:=fun c hc o q=>hk c o (fun q=>hc (by simp[q])) (fun q=>hc (by simp[q])) q
  have trk:∀ c o,H c=some o->c∉[e,it]:=fun c o q hc=>by rw[(fp c hc).1]at q;cases q
  have hok:HOk X.prog X.w (upd H s.heap.objs.size (.tup [.int i,x])) h':=fun c o q=>by
   by_cases hcT:c=s.heap.objs.size
   ·subst hcT
    rw[Qz]at q
    cases q
    exact⟨by show 2<=sizeLine;decide,[.int i s.toks,u1],.cons ⟨_,rfl⟩ (.cons ru1 .nil),⟨_,a5,rfl,_,rfl⟩⟩
   ·rw[Qh hcT]at q
    refine(I.hok c o q).stay (fun b u hb q'=>out b ?_ u q') (fun b q'=>?_) fun b ts q'=>?_
    ·rcases hb with rfl | hb
     ·exact trk b _ q
     ·exact trk b _ hb
    ·rw[Qh (QJ q' hT)];exact q'
    ·rw[Qh (QJ q' hT)];exact q'
  have I1:Inv X pins σ (upd H s.heap.objs.size (.tup [.int i,x])) { s with heap:=h',gens:=s.gens,drawn:=s.drawn,toks:=s.toks+1 }:=I.step (ch:=[e,it])
   (fun c hc=>⟨(fp c hc).2.2.2.1,(fp c hc).2.1,(fp c hc).2.2.2.2.1,(fp c hc).2.2.2.2.2⟩) (fun c o _ _ hc q _=>out c hc o q) (fun c o _ _ hc q _=>⟨o.slots,out c hc o q⟩)
   (fun c o hc q n=>by rw[Qh (Nat.ne_of_lt (Heap.lt_size q))];exact n) (fun c o hc q=>⟨o,out c hc o q⟩)
   (fun c ts q=>by rw[Qh (QJ q hT)];exact q) (fun c o u q=>by rw[Qh (QJ q hT)];exact q) (fun c ts q=>⟨#[],by rw[Qh (QJ q hT),q];simp⟩)
   (fun m hm=>by
    obtain⟨o,es,ep,ho,r⟩:=hm
    exact⟨o,es,ep,out _ (fun hc=>(fp _ hc).2.1 rfl) o ho,r⟩) hok I.bare
  have lt:∀{c o},s.heap.get? c=some o->s.heap.objs.size≠c:=fun q=>Nat.ne_of_gt (Heap.lt_size q)
  refine⟨_,rfl,wpAny_letOwnedTupleGo_enum a1 fun h2 hz2 hs2=>?_⟩
  obtain⟨z0,z1,z2,z3,z4,z5⟩:=hf e (by simp)
  have I2:Inv X pins σ (upd H s.heap.objs.size (.tup [.int i,x])) { s with heap:=h2,toks:=s.toks+1 }:=Inv.turned (s:={ s with heap:=h',gens:=s.gens,drawn:=s.drawn,toks:=s.toks+1 }) (t':=s.toks+1) (it:=e) I1 (fun b o hb q=>(hs2.2 b hb).trans q) (by rw[Qh (lt s1).symm];exact z0) z1 z3 z4 z5
  refine⟨.ref s.heap.objs.size,_,I2,rfl,⟨_,x,hT,rfl,rfl,fun xs' q'=>by rw[I.list_inj q' q1];exact hx⟩,
   ⟨⟨_,by have:((i+1:Nat):Int)=(i:Int)+1:=by push_cast;rfl
          rw[this];exact hz2⟩,a3.extBut hs2.extBut D1.symm⟩,fun c hc=>?_⟩
  have:H c=none:=(hf c hc).1
  obtain⟨oc,hoc⟩:∃ o,s.heap.get? c=some o:=by
   simp only[List.mem_cons,List.not_mem_nil,or_false]at hc
   rcases hc with rfl | rfl
   ·exact⟨_,s1⟩
   ·obtain⟨o,q,_⟩:=s4;exact⟨o,q⟩
  rw[Qh (lt hoc).symm];exact this
 done:=by
  intro X hP hw hK hc i pins s σ H E I hf st hg
  subst hP hw hK
  obtain⟨xs,q1,hend⟩:=hg
  obtain⟨its1,rv1,p1,hz1⟩:=I.list q1
  have l1:=rv1.length
  obtain⟨⟨old,s1⟩,s4⟩:=st
  obtain⟨z0,z1,z2,z3,z4,z5⟩:=hf it (by simp)
  refine wpAny_pyNext_enum_end (I.ok.hd hc) s1 s4 p1.isList (by simp;omega) fun h' hk=>⟨rfl,?_⟩
  have fp:∀ c∈[it],FpOk X pins H c:=fun c hc=>hf c (by simp only[List.mem_cons,List.not_mem_nil,or_false]at hc ⊢;exact Or.inr hc)
  have out:∀ c,c∉[it]->∀ o,s.heap.get? c=some o->h'.get? c=some o:=fun c hc o q=>hk c o (fun q=>hc (by simp[q])) q
  have trk:∀ c o,H c=some o->c∉[it]:=fun c o q hc=>by rw[(fp c hc).1]at q;cases q
  exact I.step (g':=s.gens) (d':=s.drawn) (t':=s.toks) (ch:=[it]) (fun c hc=>⟨(fp c hc).2.2.2.1,(fp c hc).2.1,(fp c hc).2.2.2.2.1,(fp c hc).2.2.2.2.2⟩) (fun c o _ _ hc q _=>out c hc o q) (fun c o _ _ hc q _=>⟨o.slots,out c hc o q⟩)
   (fun c o hc q n=>n) (fun c o hc q=>⟨o,out c hc o q⟩) (fun c ts q=>q) (fun c o u q=>q) (fun c ts q=>⟨#[],by rw[q];simp⟩)
   (fun m hm=>by
    obtain⟨o,es,ep,ho,r⟩:=hm
    exact⟨o,es,ep,out _ (fun hc=>(fp _ hc).2.1 rfl) o ho,r⟩)
   (fun c o q=>(I.hok c o q).stay (fun b u hb q'=>out b (by
    rcases hb with rfl | hb
    ·exact trk b _ q
    ·exact trk b _ hb) u q') (fun b q'=>q') fun b ts q'=>q') I.bare
 self:=fun _ _ _ _ _ st h=>wpAny_pyIter_enum st.1.choose_spec h
section
variable{X:Cx}
def iEnum(K:W.Frag)(ta:TA):TI:=fun σ H R=>ta σ H fun vs H1=>∃ a,vs=[.ref a]/\(∃ xs,SqL K H1 a xs)/\R (Ite K a) H1
theorem QGv{elts:List Expr}{k1:Nat}{tpos:Pos}{a:Expr}{ta:TA}{p pos:Pos}(hg:Gl X "enumerate")(hm:X.mg "enumerate"=none)(ha:PA X [a] ta)(hs:starEach [a] X.env=[(false,eval a X.env)]:=by rfl):
 PI X (.Tuple elts k1 tpos) (.Call (.Name "enumerate" p) [a] [] pos) (iEnum X.K ta):=by
 intro pins s σ H R I h
 refine Call_ (QdC I hg hm PyProof.Rows.Boot.«enumerate» (PyProof.Rows.callWith_type1 (thn (ha pos pins s σ H _ I h) fun us s1 ⟨vs,H1,I1,r1,q1⟩=>?_) (by rw[hs];rfl) (by rfl)))
 obtain⟨l1,e,⟨xs,hx⟩,q⟩:=q1
 subst e
 cases r1 with
 | cons r rr=>
  cases rr
  cases r
  obtain⟨its1,rv1,p1,hz1⟩:=I1.list hx
  refine call_enumerate_list p1.isList fun h' c1 c4 c6 hk=>?_
  refine wpAny_pyIter_enum c1 ?_
  refine⟨_,_,_,Ite X.K l1,H1,rfl,I1.kept (t':=s1.toks) fun b o e=>hk b o e,QDv (e:=s1.heap.objs.size+1) (it:=s1.heap.objs.size) (l:=l1) (show ¬ ((s1.heap.objs.size+1:Nat)=s1.heap.objs.size) by omega),
   ⟨⟨_,c1⟩,c4⟩,fun b hb=>?_,q⟩
  have hb':s1.heap.objs.size<=b:=by
   simp only[List.mem_cons,List.not_mem_nil,or_false]at hb
   rcases hb with rfl | rfl<;>omega
  exact I1.fpOk hb' (I1.hok.fresh hb')
end
end L2
namespace DL
open PySem PySem.Spec PyProof.Rows L2
def enumD(i:Nat):List D->List D
 | []=>[]
 | x::xs=>.tup [.int i,x]::enumD (i+1) xs
theorem Qpy:∀(xs:List D)(i:Nat),(enumD i xs).length=xs.length
 | [],_=>rfl
 | x::xs,i=>by simp[enumD,Qpy xs]
theorem Qjl:∀(xs:List D)(n i:Nat),(enumD n xs)[i]?=xs[i]?.map fun x=>.tup [.int (n+i:Nat),x]
 | [],_,_=>rfl
 | x::xs,n,0=>rfl
 | x::xs,n,i+1=>by
  show(enumD (n+1) xs)[i]?=_
  rw[Qjl xs (n+1) i,show n+1+i=n+(i+1) by omega]
  rfl
def itE(A:SD->Out D):SD->Out (List D):=fun ς=>A ς>>=fun x=>match x with
 | .lst xs=>.ok (enumD 0 xs)
 | _=>.stuck
section
variable{C:Dc}{a:Expr}{A:SD->Out D}
theorem QEv{K:W.Frag}{CT:CTab}{G1:Hp}{p:Addr}{xs:List D}{us:List V}(h1:SqL K G1 p us)(r1:RepL K CT G1 xs us):DIt K CT G1 (Ite K p) (enumD 0 xs) where
 go:=fun G H i d s1 sH hd=>by
  rw[Qjl,Nat.zero_add]at hd
  cases e1':xs[i]? with
  | none=>rw[e1']at hd;cases hd
  | some x=>
   rw[e1']at hd
   cases hd
   obtain⟨u,hu,ru⟩:=r1.get e1'
   have q1:SqL K H p us:=sH.seq (s1.seq h1)
   refine⟨⟨us,u,q1,hu⟩,fun w H' ⟨t,x',n,e,e',k1⟩=>?_⟩
   have z1:=k1 us q1
   rw[hu]at z1;cases z1
   subst e e'
   have gn:G t=none:=sH.free n
   refine⟨upd G t (.tup [.int i,u]),Qt gn,Qt n,Qi9 sH,fun b g g'=>?_,t,[.int i,u],rfl,SqT.of Qz,⟨.int i,_,rfl,rfl,u,_,rfl,Rep.mono (s1.trans (Qt gn)) x u ru,rfl⟩⟩
   by_cases hb:b=t
   ·subst hb;exact n
   ·rw[Qh hb]at g';exact absurd g g'
 stop:=fun G H s1 sH=>by
  refine⟨us,sH.seq (s1.seq h1),?_⟩
  have l1:=r1.length
  rw[Qpy]
  omega
theorem Qzw{elts:List Expr}{k1:Nat}{tpos p pos:Pos}(hgl:Gl C.X "enumerate")(hm:C.X.mg "enumerate"=none)(ha:DE C a A)
 (hst:starEach [a] C.X.env=(false,eval a C.X.env)::starEach [] C.X.env:=by rfl):DI C (.Tuple elts k1 tpos) (.Call (.Name "enumerate" p) [a] [] pos) (itE A):=by
 obtain⟨t0,p0,q0⟩:=ha
 refine⟨_,QGv hgl hm (Qax p0 QbT hst) (by rw[hst];rfl),fun G H σ ς R S k=>?_⟩
 unfold itE at k
 rw[Out.post_bind]at k
 refine q0 G H σ ς _ S (Out.post_mono k fun d k v H1 G1 S1 a1 b1 r=>?_)
 cases d with
 | lst xs=>
  obtain⟨p1,us,rfl,h1,r1⟩:=r
  exact⟨p1,rfl,⟨us,S1.sub.seq h1⟩,k _ H1 G1 S1 a1 b1 (QEv h1 r1)⟩
 | _=>exact k.elim
end
end DL
namespace L2
open PySem PySem.Spec PyProof.Rows
section
variable{X:Cx}
end
end L2
namespace DL
open PySem PySem.Spec PyProof.Rows L2
section
variable{C:Dc}{o e:Expr}{O E:SD->Out D}{apos cpos:Pos}
end
end DL
namespace L2
open PySem PySem.Spec PyProof.Rows
section
variable{X:Cx}{k:Nat}{f ea:Addr}{fd:FuncData}{ps:List Str}{sp:Sp}{dvs:List V}{ds:List Value}{x:Str}{p pos:Pos}{e:Expr}{es:List Expr}{t:TA}
end
end L2
namespace DL
open PySem PySem.Spec PyProof.Rows L2
section
variable{C:Dc}{ea:Addr}{x:Str}{k:Nat}{m:List D->Out D}{e:Expr}{es:List Expr}{A:SD->Out (List D)}{p pos:Pos}
end
end DL
namespace L2
open PySem PySem.Spec PyProof.Rows
section
variable{X:Cx}{tg:Expr}
end
end L2
namespace DL
open PySem PySem.Spec PyProof.Rows L2
section
variable{C:Dc}{a b c e:Expr}{es:List Expr}{A B E:SD->Out D}{AA:SD->Out (List D)}{tg:Expr}{p pos:Pos}
def frz(j:Nat)(ς:SD):SD:=match (ς[j]?:Option (Option (SM×D))) with
 | some (some (SM.o,d))=>ς.set j (some (.k,d))
 | _=>ς
theorem StR.frz{G H:Hp}{σ:L2.St}{ς:SD}(S:StR C G H σ ς){j:Nat}{d:D}(z:ς[j]?=some (some (.o,d))):∃ G',Same G G'/\StR C G' H σ (ς.set j (some (.k,d))):=by
 obtain⟨p,e,hg,h0,ow⟩:=S.ow j d z
 obtain⟨o,ho⟩:=ow.there
 have hj:j<ς.length:=(List.getElem?_eq_some_iff.mp z).1
 have get:∀(i:Nat) x,(ς.set j (some (.k,d)))[i]?=some (some x)->(i=j/\x=(.k,d))∨(i≠j/\ς[i]?=some (some x)):=fun i x h=>by
  rw[List.getElem?_set]at h
  by_cases q:j=i
  ·rw[if_pos q,if_pos (by omega)]at h
   cases h
   exact .inl ⟨q.symm,rfl⟩
  ·rw[if_neg q]at h
   exact .inr ⟨fun w=>q w.symm,h⟩
 refine⟨upd G p o,Qt hg,?_⟩
 have hn:∀(i:Nat) d',i≠j->ς[i]?=some (some (.o,d'))->σ[i]?≠some (some (.ref p)):=fun i d' hi q w=>S.inj i j d' d p hi q z w e
 exact {
  toGH:=GH.freezeR S.toGH ho hg h0
  len:=by rw[List.length_set];exact S.len
  fz:=fun i d' q=>by
   rcases get i _ q with⟨rfl,w⟩ | ⟨_,w⟩
   ·cases w
    exact⟨_,e,ow.known hg ho⟩
   ·obtain⟨v,a,b⟩:=S.fz i d' w
    exact⟨v,a,Rep.mono (Qt hg) d' v b⟩
  ow:=fun i d' q=>by
   rcases get i _ q with⟨rfl,w⟩ | ⟨hi,w⟩
   ·cases w
   ·obtain⟨r,a,b,c,w'⟩:=S.ow i d' w
    refine⟨r,a,?_,c,w'.mono (Qt hg) fun _ z=>z⟩
    rw[Qh (by rintro rfl;exact hn i d' hi w a)];exact b
  ln:=fun i d' q=>by
   rcases get i _ q with⟨rfl,w⟩ | ⟨_,w⟩
   ·cases w
   ·exact S.ln i d' w
  inj:=fun i k d1 d2 q hne h1 h2=>by
   rcases get i _ h1 with⟨rfl,w⟩ | ⟨_,w⟩
   ·cases w
   ·rcases get k _ h2 with⟨rfl,w2⟩ | ⟨_,w2⟩
    ·cases w2
    ·exact S.inj i k d1 d2 q hne w w2
  sf:=fun i d' q=>by
   rcases get i _ q with⟨rfl,w⟩ | ⟨_,w⟩
   ·cases w
   ·obtain⟨r,a,b,c,m,z',w'⟩:=S.sf i d' w
    refine⟨r,a,?_,c,m,z',w'.mono (Qt hg) fun _ z=>z⟩
    rw[Qh (by rintro rfl;exact c h0)];exact b
  su:=fun i k d1 d2 q hne h1 h2=>by
   rcases get i _ h1 with⟨rfl,w⟩ | ⟨_,w⟩
   ·cases w
   ·rcases get k _ h2 with⟨rfl,w2⟩ | ⟨_,w2⟩
    ·cases w2
    ·exact S.su i k d1 d2 q hne w w2 }
theorem Qlh(j:Nat){st:Stmt}{T:SD->Out Fl}(h:DS C st T):DS C st (fun ς=>T (frz j ς)):=by
 obtain⟨t,p1,q⟩:=h
 refine⟨t,p1,fun G H σ ς W S k=>?_⟩
 have k:(T (frz j ς)).post (FlK C G W) C.XD:=k
 by_cases z:∃ d,ς[j]?=some (some (SM.o,d))
 ·obtain⟨d,z⟩:=z
  have e:frz j ς=ς.set j (some (.k,d)):=by unfold frz;rw[z]
  rw[e]at k
  obtain⟨G',sG,S'⟩:=S.frz z
  exact q G' H σ _ W S' (Out.post_mono k fun f kf=>FlK.later kf sG)
 ·have e:frz j ς=ς:=by
   unfold frz
   split
   ·rename_i d w;exact absurd ⟨d,w⟩ z
   ·rfl
  rw[e]at k
  exact q G H σ ς W S k
def itLB(A:SD->Out D):SD->Out (List D):=fun ς=>A ς>>=fun x=>match x with
 | .lst xs=>if xs.all D.scal=true then .ok xs else .stuck
 | _=>.stuck
theorem QBT{K:W.Frag}{CT:CTab}{B1 G1:Hp}{p:Addr}{xs:List D}{us:List V}(fx:xs.all D.scal=true)(h1:SqL K B1 p us)(r1:RepL K CT B1 xs us):DItB K CT B1 G1 (Itl K p) xs where
 go:=fun G H i d s1 sH sB hd=>by
  obtain⟨v,hv,rv⟩:=r1.get hd
  have sx:d.scal=true:=List.all_eq_true.mp fx d (List.mem_of_getElem? hd)
  have hq:SqL K H p us:=sB.seq h1
  refine⟨⟨us,v,hq,hv⟩,fun x H' ⟨e,y⟩=>?_⟩
  have ex:us[i]?=some x:=y us hq
  rw[hv]at ex;cases ex
  subst e
  exact⟨G,Same.refl _,Same.refl _,sH,fun b g n=>absurd g n,rv.scal sx⟩
 stop:=fun G H s1 sH sB=>⟨us,sB.seq h1,by rw[r1.length];exact Nat.le_refl _⟩
theorem Qr5(ha:DB C a A):DIB C tg a (itLB A):=by
 obtain⟨t0,p0,q0⟩:=ha
 refine⟨_,Qm9 p0,fun G H σ ς R S k=>?_⟩
 unfold itLB at k
 rw[Out.post_bind]at k
 refine q0 G H σ ς _ S (Out.post_mono k fun d k v H1 G1 S1 a1 b1 r=>?_)
 cases d with
 | lst xs=>
  rcases QL k with⟨hc,k⟩ | ⟨_,k⟩
  ·obtain⟨p1,us,rfl,h1,r1⟩:=r
   exact⟨p1,rfl,⟨us,h1⟩,k _ H1 G1 S1 a1 b1 (QBT hc h1 r1)⟩
  ·exact k.elim
 | _=>exact k.elim
end
end DL
namespace LS
open PySem PySem.Spec PyProof.Rows
def met(f:Nat->Str):Nat->List Str
 | 0=>[]
 | i+1=>if f i∈met f i then met f i else met f i++[f i]
theorem met_le(f:Nat->Str):∀ i,(met f i).length<=i
 | 0=>Nat.le_refl _
 | i+1=>by
  have h:=met_le f i
  show(if _ then _ else _:List Str).length<=_
  split
  ·omega
  ·rw[List.length_append,List.length_singleton];omega
abbrev isIn(f:Nat->Str)(i:Nat):Str->Bool:=fun y=>decide (y∈met f i)
theorem QCH(f:Nat->Str)(i:Nat)(y:Str):(isIn f i y||decide (y=f i))=isIn f (i+1) y:=by
 show _=decide (y∈(if _ then _ else _:List Str))
 by_cases h:f i∈met f i
 ·rw[if_pos h]
  by_cases e:y=f i
  ·subst e;simp[isIn,h]
  ·simp[isIn,e]
 ·rw[if_neg h]
  simp[isIn,Bool.decide_or]
theorem QEw(f:Nat->Str)(i:Nat):(if isIn f i (f i)=true then(met f i).length else(met f i).length+1)=(met f (i+1)).length:=by
 show _=(if _ then _ else _:List Str).length
 by_cases h:f i∈met f i
 ·rw[if_pos h,if_pos (decide_eq_true h)]
 ·rw[if_neg h,if_neg (by simpa [isIn] using h),List.length_append];rfl
section
variable{pg:Program}{wd:World}
theorem QDH{hp:Heap}{p:Addr}{f g:Str->Bool}{m n:Nat}(h:hp.SetOf (strKind pg wd) p f m)(hf:f=g)(hn:m=n):hp.SetOf (strKind pg wd) p g n:=hn ▸ hf ▸ h
variable{ar:Around}{Res:Result->Shared->Prop}{it:Addr}{ff wt:List Addr}{Gn:Array GenState->Array GenState->Prop}{n:Nat}{Pv:Nat->Value->Prop}{Sv:Nat->Shared->Prop}
theorem fill(Wk:WalksS pg wd ar.in1 it ff wt Gn n Pv Sv){p:Addr}(off:p∉ff){f:Nat->Str}(txt:∀ i v,Pv i v->∃ t,v=.str (f i) t)(few:n+1<scanBound):
 ∀(m i:Nat)(st:Shared),i+m=n->Sv i st->st.heap.SetOf (strKind pg wd) p (isIn f i) (met f i).length->
  (∀ st',Moved (p::wt) Gn st st'->st'.heap.SetOf (strKind pg wd) p (isIn f n) (met f n).length->Res (.ok (.ret .none)) st')->
  codeAny (model pg wd) ar (.builtin "set.update.loop" ⟨[.ref p,.ref it],[]⟩) Res st:=by
 have off':p∉wt:=fun z=>off (Wk.sub _ z)
 have more:∀ b,b∈wt->b∈p::wt:=fun b hb=>List.mem_cons_of_mem p hb
 have stays:∀{s s':Shared}{i:Nat},Moved wt Gn s s'->s.heap.SetOf (strKind pg wd) p (isIn f i) (met f i).length->s'.heap.SetOf (strKind pg wd) p (isIn f i) (met f i).length:=
  fun mv ⟨o,es,ep,tb,ho,rest⟩=>⟨o,es,ep,tb,mv.heap p o off' ho,rest⟩
 intro m
 induction m with
 | zero=>
  intro i st him hs hset fin
  obtain rfl:i=n:=by omega
  refine codeAny_builtin PyProof.Rows.F.entry_set_update_loop ?_
  rw[Around.under_plainId PyProof.Rows.F.plain_set_update_loop _]
  exact wpAny_bind (m:=pyNext (.ref it)) (Wk.done st _ _ hs fun st' mv=>wpAny_pure (fin st' (mv.mono more) (stays mv hset)))
 | succ m next=>
  intro i st him hs hset fin
  refine codeAny_builtin PyProof.Rows.F.entry_set_update_loop ?_
  rw[Around.under_plainId PyProof.Rows.F.plain_set_update_loop _]
  refine wpAny_bind (m:=pyNext (.ref it)) (Wk.item i st _ _ (by omega) hs fun v st' hv hs' mv=>?_)
  obtain⟨t,rfl⟩:=txt i v hv
  have key:=strKind_is pg wd (f i) t
  have hset1:=stays mv hset
  refine wpAny_bind (m:=holding [.str (f i) t] (setAdd p (.str (f i) t))) (wpAny_holding ?_)
  unfold setAdd
  refine wpAny_holding (wpAny_bind ((strKind pg wd).pyHash (k:=f i) key ?_))
  refine wpAny_setAddHashed_of (knd:=strKind pg wd) key rfl hset1 (by have:=met_le f i;omega) fun hp' same hset'=>?_
  have now:=QDH hset' (g:=isIn f (i+1)) (funext fun y=>QCH f i y) (QEw f i)
  have tt:st'.toks<=st'.toks+1:=Nat.le_succ _
  refine wpAny_pure ⟨plainId_quiet PyProof.Rows.F.plain_set_update_loop _,next (i+1) _ (by omega) (Wk.frame _ st' _ _ hs' tt fun b hb o e=>?_) now fun st2 mv2 hset2=>fin st2 (Moved.trans Wk.gtrans ((mv.mono more).then_heap tt fun b o hb e=>?_) mv2) hset2⟩
  ·rw[same.2 b fun z=>off (z ▸ hb)];exact e
  ·rw[same.2 b fun z=>hb (z ▸ List.mem_cons_self)];exact e
end
abbrev Qcw(led:Bool):Obj:={ cls:=.type "set",dict:=none,data:=.set #[] 0 (.fresh 0 0 led) }
section
variable{pg:Program}{wd:World}{ar:Around}{Ex:Value->Shared->Prop}{st:Shared}
set_option maxHeartbeats 4000000 in
theorem of_list{l:Addr}{vs:Array Value}{f:Nat->Str}{Q:Value->Shared->Prop}(nh:ar.handled=none)(isl:st.heap.IsList l vs)(txt:∀ i v,vs[i]?=some v->∃ t,v=Value.str (f i) t)(few:vs.size+1<scanBound)
 (goal:∀(hp:Heap)(tk:Nat),hp.SetOf (strKind pg wd) st.heap.objs.size (isIn f vs.size) (met f vs.size).length->(∀ b o,b<st.heap.objs.size->st.heap.get? b=some o->hp.get? b=some o)->Q (.ref st.heap.objs.size) { st with heap:=hp,toks:=tk }):
 wpAny (model pg wd) ar (call (.type "set") [.ref l]) Q Ex st:=by
 have made:=PySem.F.called_set.made
 have sub:=PySem.F.called_set.sub
 have nt:=PySem.F.called_set.notType
 have cc:=PySem.F.called_set.canCreate
 have tc:=PySem.F.typeCall_set_1 (.ref l)
 obtain⟨c1,c2,mro⟩:=PySem.F.called_set.mro
 refine wpAny_call (codeAny_of_tree ?_)
 show wpAny (model pg wd) _ (callAny (.type "set") ⟨[.ref l],[]⟩) _ _ st
 refine wpAny_pure ⟨Code.quiet_builtin _ (dk),codeAny_builtin F.entry_type_call ?_⟩
 rw[Around.under_plain (weight_type_call_type "set" [.ref l] []) rfl]
 repeat (any_goals (first | assumption | wp_step))
 let mid:Shared->Prop:=fun s2=>∃ hp tk,s2={ st with heap:=hp,toks:=tk }/\hp.SetOf (strKind pg wd) st.heap.objs.size (isIn f vs.size) (met f vs.size).length/\∀ b o,b<st.heap.objs.size->st.heap.get? b=some o->hp.get? b=some o
 refine codeAny_mono (code_set_new_1 (.ref l) (E:=Ex) (Q₁:=fun v s1=>∃ led,v=.ref st.heap.objs.size/\s1={ st with heap:=st.heap.push (Qcw led) }) fun led=>⟨led,rfl,rfl⟩) fun r1 s1 h1=>?_
 cases r1 with
 | error _=>exact h1
 | ok fl1=>
  cases fl1 with
  | ret v1=>
   obtain⟨led,rfl,rfl⟩:=h1
   have at1:(st.heap.push (Qcw led)).get? st.heap.objs.size=some (Qcw led):=Heap.get?_push_size _ rfl
   have ty1:Shared.TypeIs { st with heap:=st.heap.push (Qcw led) } (.ref st.heap.objs.size) "set":=⟨_,at1,rfl⟩
   have lk:=PySem.F.called_set.init.lookup
   have bd:=PySem.F.called_set.init.bind (.ref st.heap.objs.size)
   repeat (any_goals (first | assumption | wp_step))
   refine codeAny_mono (codeAny_call_builtin (R:=wants (fun v s2=>v=.none/\mid s2) Ex) PySem.F.called_set.init.plain F.entry_set_init (check_set_init_1 ty1 ?_)) fun r2 s2 h2=>?_
   ·obtain⟨⟨oc,od,dt,os⟩,hol,e1,nl,e2⟩:=isl
    obtain rfl:oc=.type "list":=e1
    obtain rfl:dt=.seq vs nl:=e2
    have hol1:(st.heap.push (Qcw led)).get? l=some ⟨.type "list",od,.seq vs nl,os⟩:=Heap.get?_push_of_some _ hol
    have isl1:(st.heap.push (Qcw led)).IsList l vs:=⟨_,hol1,rfl,nl,rfl⟩
    have n1:=PySem.F.sub_list_set
    have n2:=PySem.F.sub_list_frozenset
    have n3:(Value.type "list" == Value.type "dict")=false:=by decide
    have lt : @LT.lt Nat _ l st.heap.objs.size:=Heap.lt_size hol
    have sz:=Heap.size_push st.heap (Qcw led)
    unfold Builtin.«set.__init__» noKeywords Builtin.Frozenset.updateFrom
    generalize keep:pyIter=ITER
    wp_walk
    subst keep
    refine wpAny_pyIter_list isl1 (wpAny_bind (wpAny_runValue ?_))
    have off:st.heap.objs.size∉[(st.heap.push (Qcw led)).objs.size,l]:=by
     rw[sz]
     intro z
     rcases List.mem_cons.mp z with z | z
     ·exact Nat.ne_of_lt (Nat.lt_succ_self _) z
     ·exact Nat.ne_of_gt lt (List.mem_singleton.mp z)
    have off2:l≠(st.heap.push (Qcw led)).objs.size:=by rw[sz];exact Nat.ne_of_lt (Nat.lt_succ_of_lt lt)
    refine fill ((Walks.list (by simp[nh]) _ l off2 vs).toS) off txt few vs.size 0 _ (Nat.zero_add _) ⟨⟨_,Heap.get?_push_size _ rfl,rfl,rfl⟩,isl1.push _⟩ ?_ fun s3 mv hs3=>?_
    ·exact QDH ((setObjOf_fresh (knd:=strKind pg wd) led).setOf (Heap.get?_push_of_some _ at1) (by unfold scanBound;omega)) (funext fun y=>by simp[isIn,met]) rfl
    ·obtain⟨hp3,g3,d3,tk3,os3⟩:=s3
     obtain rfl:g3=st.gens:=mv.gens
     obtain rfl:d3=st.drawn:=mv.drawn
     obtain rfl:os3=st.os:=mv.os
     refine wpAny_pure (wpAny_pure ⟨rfl,hp3,tk3,rfl,hs3,fun b o hb e=>?_⟩)
     refine mv.heap b o (fun z=>?_) (Heap.get?_push_of_some _ (Heap.get?_push_of_some _ e))
     rw[sz]at z
     rcases List.mem_cons.mp z with z | z
     ·exact Nat.ne_of_lt hb z
     ·rcases List.mem_cons.mp z with z | z
      ·exact Nat.ne_of_lt (Nat.lt_succ_of_lt hb) z
      ·exact absurd z List.not_mem_nil
   ·cases r2 with
    | error _=>exact h2
    | ok fl2=>
     cases fl2 with
     | ret v2=>
      obtain⟨rfl,hp,tk,rfl,hs2,kp⟩:=h2
      repeat (any_goals (first | assumption | wp_step))
      exact goal hp tk hs2 kp
     | _=>exact h2.elim
  | _=>exact h1.elim
end
end LS
namespace DL
open PySem PySem.Spec PyProof.Rows L2
def dkey:D->Option Key
 | .int i=>some (.inl i)
 | .str x=>some (.inr x)
 | _=>none
def valD(kds:List (Key×D))(k:Key):Option D:=(kds.find? fun kv=>decide (kv.1=k)).map (·.2)
def putKD(kds:List (Key×D))(k:Key)(d:D):List (Key×D):=
 if (kds.any fun kv=>decide (kv.1=k))=true then kds.map (fun kv=>if kv.1=k then(kv.1,d) else kv) else kds++[(k,d)]
section
variable{K:W.Frag}{CT:CTab}{H:Hp}
theorem QfA{d:D}{v:V}{k:Key}(h:dkey d=some k)(r:Rep K CT H d v):v=kV k:=by
 cases d with
 | int i=>cases h;exact r
 | str x=>cases h;exact r
 | _=>cases h
theorem RepK.len:∀{ds:List (Key×D)}{vs:List (Key×V)},RepK K CT H ds vs->ds.length=vs.length
 | [],_,h=>by cases h;rfl
 | (k,d)::ds,_,⟨v,r,h1,h2,h3⟩=>by rw[h1,List.length_cons,List.length_cons,RepK.len h3]
theorem RepK.val(k:Key):∀{ds:List (Key×D)}{vs:List (Key×V)},RepK K CT H ds vs->(valD ds k=none/\valV vs k=none)∨∃ d v,valD ds k=some d/\valV vs k=some v/\Rep K CT H d v
 | [],_,h=>by cases h;exact .inl ⟨rfl,rfl⟩
 | (k',d)::ds,_,⟨v,r,h1,h2,h3⟩=>by
  subst h1
  by_cases e:k'=k
  ·subst e
   exact .inr ⟨d,v,by simp[valD],by simp[valV],h2⟩
  ·have a:valD ((k',d)::ds) k=valD ds k:=by simp[valD,List.find?_cons,e]
   have b:valV ((k',v)::r) k=valV r k:=by simp[valV,List.find?_cons,e]
   rw[a,b];exact RepK.val k h3
theorem RepK.any(k:Key):∀{ds:List (Key×D)}{vs:List (Key×V)},RepK K CT H ds vs->(ds.any fun kv=>decide (kv.1=k))=vs.any fun kv=>decide (kv.1=k)
 | [],_,h=>by cases h;rfl
 | (k',d)::ds,_,⟨v,r,h1,h2,h3⟩=>by
  subst h1
  rw[List.any_cons,List.any_cons,RepK.any k h3]
theorem RepK.repl(k:Key){d:D}{v:V}(hd:Rep K CT H d v):∀{ds:List (Key×D)}{vs:List (Key×V)},RepK K CT H ds vs->RepK K CT H (ds.map fun kv=>if kv.1=k then(kv.1,d) else kv) (vs.map fun kv=>if kv.1=k then(kv.1,v) else kv)
 | [],_,h=>by cases h;rfl
 | (k',d')::ds,_,⟨v',r,h1,h2,h3⟩=>by
  subst h1
  rw[List.map_cons,List.map_cons]
  by_cases e:k'=k
  ·rw[if_pos (show(k',d').1=k from e),if_pos (show(k',v').1=k from e)]
   exact⟨v,_,rfl,hd,RepK.repl k hd h3⟩
  ·rw[if_neg (show ¬ (k',d').1=k from e),if_neg (show ¬ (k',v').1=k from e)]
   exact⟨v',_,rfl,h2,RepK.repl k hd h3⟩
theorem RepK.snoc(k:Key){d:D}{v:V}(hd:Rep K CT H d v):∀{ds:List (Key×D)}{vs:List (Key×V)},RepK K CT H ds vs->RepK K CT H (ds++[(k,d)]) (vs++[(k,v)])
 | [],_,h=>by cases h;exact⟨v,[],rfl,hd,rfl⟩
 | (k',d')::ds,_,⟨v',r,h1,h2,h3⟩=>by
  subst h1
  exact⟨v',_,rfl,h2,RepK.snoc k hd h3⟩
theorem RepK.put(k:Key){d:D}{v:V}(hd:Rep K CT H d v){ds:List (Key×D)}{vs:List (Key×V)}(h:RepK K CT H ds vs):RepK K CT H (putKD ds k d) (putK vs k v):=by
 unfold putKD putK
 rw[RepK.any k h]
 split
 ·exact RepK.repl k hd h
 ·exact RepK.snoc k hd h
end
def eDix(A B:SD->Out D):SD->Out D:=fun ς=>A ς>>=fun x=>match x with
 | .dic kds=>B ς>>=fun y=>match dkey y with | some k=>optO (valD kds k) | none=>.stuck
 | _=>.stuck
def eDget(A B:SD->Out D):SD->Out D:=fun ς=>A ς>>=fun x=>match x with
 | .dic kds=>B ς>>=fun y=>match dkey y with | some k=>.ok ((valD kds k).getD .non) | none=>.stuck
 | _=>.stuck
def Qdy(A B Z:SD->Out D):SD->Out D:=fun ς=>A ς>>=fun x=>match x with
 | .dic kds=>B ς>>=fun y=>Z ς>>=fun z=>match dkey y with | some k=>.ok ((valD kds k).getD z) | none=>.stuck
 | _=>.stuck
def sPutD(i:Nat)(I E:SD->Out D):SD->Out Fl:=fun ς=>E ς>>=fun d=>match ς[i]? with
 | some (some (.o,.dic kds))=>I ς>>=fun y=>match dkey y with
  | some k=>if decide (kds.length<sizeLine)=true then .ok (.nx (ς.set i (some (.o,.dic (putKD kds k d))))) else .stuck
  | none=>.stuck
 | _=>.stuck
section
variable{C:Dc}{a b c:Expr}{A B Z:SD->Out D}{pos apos:Pos}
theorem QHs(hu:C.X.A.units+64<cLine)(ha:DE C a A)(hb:DB C b B)(hs:NoSl b:=by intro _ _;rfl):DE C (.Subscript a b pos) (eDix A B):=by
 obtain⟨ta,p1,q1⟩:=ha
 obtain⟨tb,p2,q2⟩:=hb
 refine⟨_,QF7 (by omega) p1 p2 hs,fun G H σ ς Q S q=>?_⟩
 unfold eDix at q
 rw[Out.post_bind]at q
 refine q1 G H σ ς _ S (Out.post_mono q fun x k v1 H1 G1 S1 a1 b1 r1=>?_)
 cases x with
 | dic kds=>
  have k:(B ς>>=fun y=>match dkey y with | some k=>optO (valD kds k) | none=>.stuck).post (KD C G H σ ς Q) C.XD:=k
  rw[Out.post_bind]at k
  refine q2 G1 H1 σ ς _ S1 (Out.post_mono k fun y k2 v2 H2 G2 S2 a2 b2 r2=>?_)
  cases e:dkey y with
  | none=>rw[e]at k2;exact k2.elim
  | some kk=>
   rw[e]at k2
   obtain⟨d,ed,kd⟩:=Qb1 k2
   obtain⟨p,kvs,rfl,h2,h3⟩:=Rep.mono b2 _ v1 r1
   rcases RepK.val kk h3 with⟨n1,n2⟩ | ⟨d',v,n1,n2,r⟩
   ·rw[n1]at ed;cases ed
   ·rw[n1]at ed;cases ed
    exact⟨p,v,rfl,.inl ⟨kvs,kk,Same.rd S2.sub h2,QfA e r2,n2.symm⟩,KD.now (KD.later kd (a1.trans a2) (b1.trans b2)) S2 r⟩
 | _=>exact k.elim
theorem QFM{K:W.Frag}{CT:CTab}{H:Hp}:Rep K CT H .non .non:=rfl
theorem QGC(hu:C.X.A.units+64<cLine)(ha:DE C a A)(hb:DB C b B)
 (hbase:attributeBase a "get" C.X.env (eval a C.X.env)=eval a C.X.env:=by rfl)
 (hfew:((backTo pos (starEach [b] C.X.env)).all (fun x => !x.1)&&(backToKw pos (keywordEach [] C.X.env)).all (fun x=>x.1.isSome)
  && decide (([b]:List Expr).length+([]:List Keyword).length+(if ([]:List Keyword).isEmpty then 0 else 1)<30))=true:=by rfl)
 (hline:(apos.endLine == pos.line)=true:=by rfl) (htr:backTo pos (starEach [b] C.X.env)=[(false,eval b C.X.env)]:=by rfl):DE C (.Call (.Attribute a "get" apos) [b] [] pos) (eDget A B):=by
 obtain⟨ta,p1,q1⟩:=ha
 obtain⟨tb,p2,q2⟩:=hb
 refine⟨_,QD3 (by omega) p1 p2 ⟨hbase,hfew,hline,htr⟩,fun G H σ ς Q S q=>?_⟩
 unfold eDget at q
 rw[Out.post_bind]at q
 refine q1 G H σ ς _ S (Out.post_mono q fun x k v1 H1 G1 S1 a1 b1 r1=>?_)
 cases x with
 | dic kds=>
  have k:(B ς>>=fun y=>match dkey y with | some k=>Out.ok ((valD kds k).getD .non) | none=>.stuck).post (KD C G H σ ς Q) C.XD:=k
  rw[Out.post_bind]at k
  obtain⟨p,kvs,rfl,h2,h3⟩:=r1
  refine⟨p,rfl,.inl ⟨kvs,Same.rd S1.sub h2⟩,q2 G1 H1 σ ς _ S1 (Out.post_mono k fun y k2 v2 H2 G2 S2 a2 b2 r2=>?_)⟩
  cases e:dkey y with
  | none=>rw[e]at k2;exact k2.elim
  | some kk=>
   rw[e]at k2
   have kd:KD C G H σ ς Q ((valD kds kk).getD .non):=k2
   refine⟨valV kvs kk,.inl ⟨kvs,kk,Same.rd (S1.sub.trans a2) h2,QfA e r2,rfl⟩,?_⟩
   rcases RepK.val kk (RepK.mono b2 kds kvs h3) with⟨n1,n2⟩ | ⟨d',v,n1,n2,r⟩
   ·rw[n1]at kd;rw[n2];exact KD.now (KD.later kd (a1.trans a2) (b1.trans b2)) S2 QFM
   ·rw[n1]at kd;rw[n2];exact KD.now (KD.later kd (a1.trans a2) (b1.trans b2)) S2 r
 | _=>exact k.elim
theorem QDR(hu:C.X.A.units+64<cLine)(ha:DE C a A)(hb:DB C b B)(hc:DE C c Z)
 (hbase:attributeBase a "get" C.X.env (eval a C.X.env)=eval a C.X.env:=by rfl)
 (hfew:((backTo pos (starEach [b,c] C.X.env)).all (fun x => !x.1)&&(backToKw pos (keywordEach [] C.X.env)).all (fun x=>x.1.isSome)
  && decide (([b,c]:List Expr).length+([]:List Keyword).length+(if ([]:List Keyword).isEmpty then 0 else 1)<30))=true:=by rfl)
 (hline:(apos.endLine == pos.line)=true:=by rfl) (htr:backTo pos (starEach [b,c] C.X.env)=[(false,eval b C.X.env),(false,eval c C.X.env)]:=by rfl):DE C (.Call (.Attribute a "get" apos) [b,c] [] pos) (Qdy A B Z):=by
 obtain⟨ta,p1,q1⟩:=ha
 obtain⟨tb,p2,q2⟩:=hb
 obtain⟨tc,p3,q3⟩:=hc
 refine⟨_,QsR (by omega) p1 p2 p3 ⟨hbase,hfew,hline,htr⟩,fun G H σ ς Q S q=>?_⟩
 unfold Qdy at q
 rw[Out.post_bind]at q
 refine q1 G H σ ς _ S (Out.post_mono q fun x k v1 H1 G1 S1 a1 b1 r1=>?_)
 cases x with
 | dic kds=>
  have k:(B ς>>=fun y=>Z ς>>=fun z=>match dkey y with | some k=>Out.ok ((valD kds k).getD z) | none=>.stuck).post (KD C G H σ ς Q) C.XD:=k
  rw[Out.post_bind]at k
  obtain⟨p,kvs,rfl,h2,h3⟩:=r1
  refine⟨p,rfl,.inl ⟨kvs,Same.rd S1.sub h2⟩,q2 G1 H1 σ ς _ S1 (Out.post_mono k fun y k2 v2 H2 G2 S2 a2 b2 r2=>?_)⟩
  rw[Out.post_bind]at k2
  refine q3 G2 H2 σ ς _ S2 (Out.post_mono k2 fun z k3 v3 H3 G3 S3 a3 b3 r3=>?_)
  cases e:dkey y with
  | none=>rw[e]at k3;exact k3.elim
  | some kk=>
   rw[e]at k3
   have kd:KD C G H σ ς Q ((valD kds kk).getD z):=k3
   refine⟨valV kvs kk,.inl ⟨kvs,kk,Same.rd ((S1.sub.trans a2).trans a3) h2,QfA e r2,rfl⟩,?_⟩
   rcases RepK.val kk (RepK.mono (b2.trans b3) kds kvs h3) with⟨n1,n2⟩ | ⟨d',v,n1,n2,r⟩
   ·rw[n1]at kd;rw[n2];exact KD.now (KD.later kd ((a1.trans a2).trans a3) ((b1.trans b2).trans b3)) S3 r3
   ·rw[n1]at kd;rw[n2];exact KD.now (KD.later kd ((a1.trans a2).trans a3) ((b1.trans b2).trans b3)) S3 r
 | _=>exact k.elim
theorem QEb(hu:C.X.A.units+64<cLine)(ha:DB C a A)(hb:DB C b B)(hc:DB C c Z)
 (hbase:attributeBase a "get" C.X.env (eval a C.X.env)=eval a C.X.env:=by rfl)
 (hfew:((backTo pos (starEach [b,c] C.X.env)).all (fun x => !x.1)&&(backToKw pos (keywordEach [] C.X.env)).all (fun x=>x.1.isSome)
  && decide (([b,c]:List Expr).length+([]:List Keyword).length+(if ([]:List Keyword).isEmpty then 0 else 1)<30))=true:=by rfl)
 (hline:(apos.endLine == pos.line)=true:=by rfl) (htr:backTo pos (starEach [b,c] C.X.env)=[(false,eval b C.X.env),(false,eval c C.X.env)]:=by rfl):DB C (.Call (.Attribute a "get" apos) [b,c] [] pos) (Qdy A B Z):=by
 obtain⟨ta,p1,q1⟩:=ha
 obtain⟨tb,p2,q2⟩:=hb
 obtain⟨tc,p3,q3⟩:=hc
 refine⟨_,QsR (by omega) p1 p2 p3 ⟨hbase,hfew,hline,htr⟩,fun G H σ ς Q S q=>?_⟩
 unfold Qdy at q
 rw[Out.post_bind]at q
 refine q1 G H σ ς _ S (Out.post_mono q fun x k v1 H1 G1 S1 a1 b1 r1=>?_)
 cases x with
 | dic kds=>
  have k:(B ς>>=fun y=>Z ς>>=fun z=>match dkey y with | some k=>Out.ok ((valD kds k).getD z) | none=>.stuck).post (KB C G H σ ς Q) C.XD:=k
  rw[Out.post_bind]at k
  obtain⟨p,kvs,rfl,h2,h3⟩:=r1
  refine⟨p,rfl,.inl ⟨kvs,h2⟩,q2 G1 H1 σ ς _ S1 (Out.post_mono k fun y k2 v2 H2 G2 S2 a2 b2 r2=>?_)⟩
  rw[Out.post_bind]at k2
  refine q3 G2 H2 σ ς _ S2 (Out.post_mono k2 fun z k3 v3 H3 G3 S3 a3 b3 r3=>?_)
  cases e:dkey y with
  | none=>rw[e]at k3;exact k3.elim
  | some kk=>
   rw[e]at k3
   have kd:KB C G H σ ς Q ((valD kds kk).getD z):=k3
   refine⟨valV kvs kk,.inl ⟨kvs,kk,Same.rd (a2.trans a3) h2,QfA e r2,rfl⟩,?_⟩
   rcases RepK.val kk (RepK.mono (a2.trans a3) kds kvs h3) with⟨n1,n2⟩ | ⟨d',v,n1,n2,r⟩
   ·rw[n1]at kd;rw[n2];exact KB.now (KB.later kd ((a1.trans a2).trans a3) ((b1.trans b2).trans b3)) S3 r3
   ·rw[n1]at kd;rw[n2];exact KB.now (KB.later kd ((a1.trans a2).trans a3) ((b1.trans b2).trans b3)) S3 r
 | _=>exact k.elim
theorem StR.writeD{G H:Hp}{σ:St}{ς:SD}(S:StR C G H σ ς){i:Nat}{p:Addr}{xs ys:List (Key×D)}{vs ws:List (Key×V)}(hi:ς[i]?=some (some (.o,.dic xs)))(hp:σ[i]?=some (some (.ref p)))(hH:H p=some (.dK vs))(r:RepK C.X.K C.CT G ys ws):
 StR C G (upd H p (.dK ws)) σ (ς.set i (some (.o,.dic ys))):=by
 obtain⟨p',e1,hg,h0,ow⟩:=S.ow i _ hi
 rw[hp]at e1;cases e1
 have hil:i<ς.length:=(List.getElem?_eq_some_iff.mp hi).1
 have ne:∀ b o,G b=some o->b≠p:=fun b o e z=>by subst z;rw[hg]at e;cases e
 have S':StR C G (upd H p (.dK ws)) (σ.set i (some (.ref p))) (ς.set i (some (.o,.dic ys))):={
  sub:=fun b o e=>by rw[Qh (ne b o e)];exact S.sub b o e
  g0:=S.g0
  new:=S.new
  fr:=fun b o e m=>by
   rw[Qh (by rintro rfl;rw[h0]at e;cases e)];exact S.fr b o e m
  dom:=fun b e=>by
   by_cases hb:b=p
   ·subst hb;exact h0
   ·rw[Qh hb]at e;exact S.dom b e
  bs:=fun b o e=>by
   rw[Qh (by rintro rfl;rw[S.bh _ h0]at e;cases e)];exact S.bs b o e
  bh:=S.bh
  len:=by rw[List.length_set,List.length_set];exact S.len
  fz:=fun j d h=>by
   rcases Qp h with⟨rfl,h2,l⟩ | ⟨hne,h2⟩
   ·cases h2
   ·rw[Qk hne];exact S.fz j d h2
  ow:=fun j d h=>by
   rcases Qp h with⟨rfl,h2,l⟩ | ⟨hne,h2⟩
   ·cases h2
    exact⟨p,Qev (by rw[S.len];exact l),hg,h0,⟨ws,Qz,r⟩⟩
   ·rw[Qk hne]
    obtain⟨q,a,b,c,w⟩:=S.ow j d h2
    have qp:q≠p:=by
     rintro rfl
     exact S.inj i j _ _ q hne hi h2 hp a
    exact⟨q,a,b,c,w.mono (Same.refl G) fun o z=>by rw[Qh qp];exact z⟩
  ln:=fun j d h=>by
   rcases Qp h with⟨rfl,h2,l⟩ | ⟨hne,h2⟩
   ·cases h2
   ·rw[Qk hne];exact S.ln j d h2
  inj:=fun j k d1 d2 q hjk h1 h2 h3=>by
   have get:∀(j:Nat) d,(ς.set i (some (.o,D.dic ys)))[j]?=some (some (.o,d))->∃ d',ς[j]?=some (some (.o,d')):=fun j d h=>by
    rcases Qp h with⟨rfl,h2,l⟩ | ⟨hne,h2⟩
    ·exact⟨_,hi⟩
    ·exact⟨_,h2⟩
   obtain⟨d1',g1⟩:=get j d1 h1
   obtain⟨d2',g2⟩:=get k d2 h2
   rw[Qeu hp]at h3 ⊢
   exact S.inj j k d1' d2' q hjk g1 g2 h3
  sf:=fun j d h=>by
   rcases Qp h with⟨rfl,h2,l⟩ | ⟨hne,h2⟩
   ·cases h2
   ·rw[Qk hne]
    obtain⟨q,a,b,c,m,z,w⟩:=S.sf j d h2
    have qp:q≠p:=by
     rintro rfl
     exact c h0
    exact⟨q,a,b,c,m,z,w.mono (Same.refl G) fun o z=>by rw[Qh qp];exact z⟩
  su:=fun j k d1 d2 q hjk h1 h2 h3=>by
   rcases Qp h1 with⟨rfl,q1,l⟩ | ⟨n1,q1⟩
   ·cases q1
   ·rcases Qp h2 with⟨rfl,q2,l⟩ | ⟨n2,q2⟩
    ·cases q2
    ·rw[Qk n1]at h3
     rw[Qk n2];exact S.su j k d1 d2 q hjk q1 q2 h3 }
 rw[Qeu hp]at S'
 exact S'
variable{e:Expr}{E:SD->Out D}{p1 p2:Pos}{x:Str}
theorem Qoq(hu:C.X.A.units+64<cLine)(i:Nat)(hi:DB C a A)(he:DE C e E)(hN:C.X.N[i]?=some x:=by rfl)(hv:Vis C.X.env.scope x:=by first | exact Or.inl rfl | exact Or.inr (oi rfl) | exact Or.inr (Or.inr rfl))
 (hd:(x == ("__debug__":Str))=false:=by decide) (hcd:(x == ("__classdict__":Str))=false:=by decide)
 (hs:swapsWith e (some (.Subscript (.Name x p1) a p2)) pos.line C.X.env=pure false:=by rfl):DS C (.Assign [.Subscript (.Name x p1) a p2] e pos) (sPutD i A E):=by
 obtain⟨t,p,q⟩:=he
 obtain⟨t2,p2',q2⟩:=hi
 refine⟨_,QGw (by omega) (QbM (i:=i) hN hv hd hcd) p2' p hs,fun G H σ ς W S k=>?_⟩
 unfold sPutD at k
 rw[Out.post_bind]at k
 refine q G H σ ς _ S (Out.post_mono k fun d k v H1 G1 S1 a1 b1 r1=>?_)
 split at k
 ·rename_i kds z
  obtain⟨pp,e1,hg,h0,ow⟩:=S1.ow i _ z
  rw[Out.post_bind]at k
  refine⟨_,e1,q2 G1 H1 σ ς _ S1 (Out.post_mono k fun y k2 w H2 G2 S2 a2 b2 r2=>?_)⟩
  cases ey:dkey y with
  | none=>rw[ey]at k2;exact k2.elim
  | some kk=>
   rw[ey]at k2
   obtain⟨pp',e1',hg',h0',kvs,hv1,hv2⟩:=S2.ow i _ z
   rw[e1]at e1';cases e1'
   rcases QL k2 with⟨hc,k3⟩ | ⟨_,k3⟩
   ·refine⟨pp,_,rfl,.inl ⟨kvs,kk,hv1,QfA ey r2,by rw[← hv2.len];exact of_decide_eq_true hc,rfl⟩,?_⟩
    exact k3 σ _ G2 (S2.writeD z e1 hv1 (RepK.put kk (Rep.mono b2 d v r1) hv2)) (b1.trans b2)
   ·exact k3.elim
 ·exact k.elim
end
end DL
namespace DL
open PySem PySem.Spec PyProof.Rows L2
def QcF(xs:List Str):Nat:=(LS.met (fun i=>xs.getD i "") xs.length).length
def QGe(K:W.Frag)(te:TA):TE:=fun σ H Q=>te σ H fun vs H1=>∃ p xs,vs=[V.ref p]/\SqL K H1 p (xs.map V.str)/\xs.length<4000/\Q (.int (QcF xs)) H1
section
variable{X:Cx}{e:Expr}{te:TA}{p1 p2 p3 pos:Pos}
theorem Qso:∀{xs:List Str}{us:List Value},Vals (xs.map V.str) us->∀(i:Nat) v,us[i]?=some v->∃ t,v=.str (xs.getD i "") t
 | [],_,h,i,v,hv=>by cases h;simp at hv
 | x::xs,_,h,i,v,hv=>by
  cases h with
  | cons hx hr=>
   cases i with
   | zero=>
    obtain⟨t,ht⟩:=hx
    refine⟨t,?_⟩
    simp at hv
    rw[← hv,ht];rfl
   | succ i=>
    have:=Qso hr i v (by simpa using hv)
    simpa using this
theorem QCh(hh:X.A.handled=none)(gl:Gl X "len")(ml:X.mg "len"=none)(gs:Gl X "set")(ms:X.mg "set"=none)(he:PA X [e] te)
 (h1:starEach [e] X.env=(false,eval e X.env)::starEach [] X.env:=by rfl)
 (h2:starEach [.Call (.Name "set" p2) [e] [] p3] X.env=(false,eval (.Call (.Name "set" p2) [e] [] p3) X.env)::starEach [] X.env:=by rfl)
 (h3:backTo pos (starEach [.Call (.Name "set" p2) [e] [] p3] X.env)=[(false,eval (.Call (.Name "set" p2) [e] [] p3) X.env)]:=by rfl):
 PE X (.Call (.Name "len" p1) [.Call (.Name "set" p2) [e] [] p3] [] pos) (QGe X.K te):=by
 intro pins s σ H Q I h
 have inner:wpAny (model X.prog X.w) X.A (eval (.Call (.Name "set" p2) [e] [] p3) X.env) (fun u s'=>∃ D H1 xs,u=.ref D/\Inv X pins σ H1 s'/\s'.heap.SetOf (strKind X.prog X.w) D (LS.isIn (fun i=>xs.getD i "") xs.length) (QcF xs)/\QcF xs<4000/\Q (.int (QcF xs)) H1) X.xe s:=by
  refine wpAny_Call_Name_kw (QdC I gs ms PyProof.Rows.Boot.«set» ?_ (by decide) (by decide))
  refine PyProof.Rows.callWith_type1 (thn (he p3 pins s σ H _ I h) fun us s1 ⟨vs,H1,I1,r1,p,xs,ev,sq,few,q⟩=>?_) h1 rfl
  ·subst ev
   obtain⟨u,rfl,rx⟩:=vals1 r1
   cases rx
   obtain⟨its,rv,pl,hz⟩:=I1.list sq
   have hl:=rv.length
   rw[List.length_map]at hl
   have le:=LS.met_le (fun i=>xs.getD i "") xs.length
   refine LS.of_list hh pl.isList (f:=fun i=>xs.getD i "") (fun i v hv=>Qso rv i v (by simpa using hv)) (by rw[List.size_toArray, ← hl];unfold scanBound;omega) fun hp tk hs kp=>?_
   have sz:its.toArray.size=xs.length:=by rw[List.size_toArray];omega
   rw[sz]at hs
   exact⟨_,H1,xs,rfl,I1.kept fun b o eb=>kp b o (Heap.lt_size eb) eb,hs,by unfold QcF;omega,q⟩
 refine wpAny_Call_Name_kw (QdC I gl ml PySem.boot_len ?_ (by decide) (by decide))
 refine PyProof.Rows.callWith_builtin1 ?_ h2 rfl
 rw[h3]
 refine Calls.spliced_cons (thn inner fun u s1 ⟨D,H1,xs,eu,I1,hs,few,q⟩=>Calls.spliced_nil ?_)
 subst eu
 obtain⟨o,es,ep,t,ho,hex,hd,hel,hmem,hb,hf,hn⟩:=hs
 refine call_len_set ho hex hd hf (by rw[hn];omega) ?_
 rw[hn]
 exact⟨.int (QcF xs),H1,(I1.tok _).tok _,⟨_,rfl⟩,q⟩
end
def strsD:List D->Option (List Str)
 | []=>some []
 | .str x::ds=>(strsD ds).map (x :: ·)
 | _::_=>none
theorem Qvh{K:W.Frag}{CT:CTab}{H:Hp}:∀{ds:List D}{vs:List V}{xs:List Str},strsD ds=some xs->RepL K CT H ds vs->vs=xs.map V.str
 | [],_,_,h,r=>by cases h;cases r;rfl
 | d::ds,_,xs,h,⟨v,r,h1,h2,h3⟩=>by
  cases d with
  | str x=>
   obtain⟨ys,hy,rfl⟩:=Option.map_eq_some_iff.mp (show(strsD ds).map (x :: ·)=some xs from h)
   rw[h1,Qvh hy h3,show v=V.str x from h2];rfl
  | _=>cases h
def QoC:D->Out D
 | .lst ds=>match strsD ds with
  | some xs=>if decide (xs.length<4000)=true then .ok (.int (QcF xs)) else .stuck
  | none=>.stuck
 | _=>.stuck
section
variable{C:Dc}{a:Expr}{A:SD->Out D}{p1 p2 p3 pos:Pos}
theorem QDw(hh:C.X.A.handled=none)(gl:Gl C.X "len")(ml:C.X.mg "len"=none)(gs:Gl C.X "set")(ms:C.X.mg "set"=none)(ha:DB C a A)
 (h1:starEach [a] C.X.env=(false,eval a C.X.env)::starEach [] C.X.env:=by rfl)
 (h2:starEach [.Call (.Name "set" p2) [a] [] p3] C.X.env=(false,eval (.Call (.Name "set" p2) [a] [] p3) C.X.env)::starEach [] C.X.env:=by rfl)
 (h3:backTo pos (starEach [.Call (.Name "set" p2) [a] [] p3] C.X.env)=[(false,eval (.Call (.Name "set" p2) [a] [] p3) C.X.env)]:=by rfl):
 DE C (.Call (.Name "len" p1) [.Call (.Name "set" p2) [a] [] p3] [] pos) (e1 QoC A):=by
 obtain⟨ta,q1,q2⟩:=ha
 refine⟨_,QCh hh gl ml gs ms (Qax q1 QbT h1) h1 h2 h3,fun G H σ ς Q S q=>?_⟩
 unfold e1 at q
 rw[Out.post_bind]at q
 refine q2 G H σ ς _ S (Out.post_mono q fun x k v1 H1 G1 S1 a1 b1 r1=>?_)
 cases x with
 | lst ds=>
  obtain⟨p,vs,rfl,sq,r⟩:=r1
  have k:(match strsD ds with | some xs=>if decide (xs.length<4000)=true then Out.ok (D.int (QcF xs)) else .stuck | none=>.stuck).post (KD C G H σ ς Q) C.XD:=k
  cases es:strsD ds with
  | none=>rw[es]at k;exact k.elim
  | some xs=>
   rw[es]at k
   have ev:=Qvh es r
   subst ev
   rcases QL k with⟨hc,kd⟩ | ⟨_,kd⟩
   ·exact⟨p,xs,rfl,sq,of_decide_eq_true hc,KD.now (KD.later (show KD C G H σ ς Q (.int (QcF xs)) from kd) a1 b1) S1 rfl⟩
   ·exact kd.elim
 | _=>exact k.elim
end
end DL
namespace DL
open PySem PySem.Spec PyProof.Rows L2
def tVs(vs:List V):TA:=fun _ H Q=>Q vs H
def anyT:List (List (Str×Bool))->Str->Option Bool
 | [],_=>some false
 | t::ts,c=>match t.lookup c with
  | some true=>some true
  | some false=>anyT ts c
  | none=>none
def KitsT(K:W.Frag)(CT:CTab):List Value->List (List (Str×Bool))->Prop
 | [],[]=>True
 | u::us,t::ts=>KitI K CT u t/\KitsT K CT us ts
 | _,_=>False
theorem QsE{K:W.Frag}{CT:CTab}{c:Str}{A:Addr}(hA:CT c=some A):∀{us:List Value}{ts:List (List (Str×Bool))}{b:Bool},KitsT K CT us ts->anyT ts c=some b->W.kitAny K (.ref A) us=some b
 | [],[],b,_,h=>h
 | u::us,t::ts,b,⟨h1,h2⟩,h=>by
  unfold anyT at h
  unfold W.kitAny
  cases e:t.lookup c with
  | none=>rw[e]at h;cases h
  | some z=>
   rw[(h1 c z e A hA).2]
   rw[e]at h
   cases z with
   | true=>exact h
   | false=>exact QsE hA h2 h
theorem QDZ{K:W.Frag}{CT:CTab}{c:Str}{A:Addr}(hA:CT c=some A){u:Value}{us:List Value}{t:List (Str×Bool)}{ts:List (List (Str×Bool))}{b:Bool}(h:KitsT K CT (u::us) (t::ts))(e:anyT (t::ts) c=some b):ClsD K A:=by
 unfold anyT at e
 cases q:t.lookup c with
 | none=>rw[q]at e;cases e
 | some z=>exact(h.1 c z q A hA).1
def isaTs(ts:List (List (Str×Bool))):D->Out Bool
 | .ins c _=>match anyT ts c with | some b=>.ok b | none=>.stuck
 | _=>.stuck
section
variable{C:Dc}{e:Expr}{E:SD->Out D}{p pos tp1:Pos}{cs:List Expr}
theorem QFW{X:Cx}:PA X [] (tVs []):=QbT
theorem Qhk{X:Cx}{e:Expr}{es:List Expr}{v:V}{vs:List V}(h:PE X e (tC v))(r:PA X es (tVs vs))(he:starEach (e::es) X.env=(false,eval e X.env)::starEach es X.env:=by rfl):PA X (e::es) (tVs (v::vs)):=Qax h r he
theorem Qut:∀{as:List Addr}{us:List Value},Vals (as.map V.ref) us->us=as.map Value.ref
 | [],_,h=>by cases h;rfl
 | a::as,_,h=>by
  cases h with
  | cons h1 h2=>rw[Qut h2,show _=Value.ref a from h1];rfl
theorem QFg{x1}{a:Addr}{as:List Addr}{t:List (Str×Bool)}{ts:List (List (Str×Bool))}(hc:PA C.X cs (tVs ((a::as).map V.ref)))(hk:KitsT C.X.K C.CT ((a::as).map Value.ref) (t::ts))(hz:(a::as).length<=20)(hg:Gl C.X "isinstance")(hm:C.X.mg "isinstance"=none)(h:DB C e E)
 (he:starEach (e::[.Tuple cs x1 tp1]) C.X.env=(false,eval e C.X.env)::starEach [.Tuple cs x1 tp1] C.X.env:=by rfl) (he2:starEach (.Tuple cs x1 tp1::[]) C.X.env=(false,eval (.Tuple cs x1 tp1) C.X.env)::starEach [] C.X.env:=by rfl)
 (hpl:(backTo pos (starEach [.Tuple cs x1 tp1] C.X.env)).any (·.1)=false:=by rfl):DE C (.Call (.Name "isinstance" p) [e,.Tuple cs x1 tp1] [] pos) (eIsa (isaTs (t::ts)) E):=by
 obtain⟨te,p1,q1⟩:=h
 have hR:CallR C.X (.builtin "isinstance") (fun xs H Q=>∃ c fs x tp b,xs=[x,V.ref tp]/\Rep C.X.K C.CT H (.ins c fs) x/\H tp=some (.tup ((a::as).map V.ref))/\anyT (t::ts) c=some b/\Q (.bl b) H):=by
  intro pins s σ H xs us Q I r hq
  obtain⟨c,fs,x,tp,b,rfl,h1,h2,h3,q⟩:=hq
  obtain⟨u,w,rfl,r1,r2⟩:=vals2 r
  obtain rfl:w=Value.ref tp:=r2
  obtain⟨p',A',dx,fs',rfl,g1,g2,_⟩:=h1
  obtain rfl:u=Value.ref p':=r1
  have cd:=QDZ g1 hk h3
  obtain⟨mA,O,_⟩:=QgQ I.hok g2
  obtain⟨od,J,_⟩:=O.look
  obtain⟨_,its,rv,pt⟩:=(show ObjOk C.X.prog C.X.w H s.heap tp (.tup ((a::as).map V.ref)) from I.hok tp _ h2)
  obtain⟨⟨oc,odd,odt,osl⟩,ho,hcl,nn,hd⟩:=pt
  obtain rfl:oc=.type "tuple":=hcl
  obtain rfl:odt=.seq its.toArray nn:=hd
  obtain rfl:=Qut rv
  exact W.kia_tup (W.kitx_own (cd.cl.get _) cd.cl.hd cd.ha cd.hn cd.htk cd.hm) I.kIn J ho (QsE g1 hk h3) (fun z=>nomatch z) fun tk=>⟨.bl b,H,I.tok _,rfl,q⟩
 refine⟨_,Qla hR hg hm PyProof.Rows.Boot.«isinstance» (Qax p1 (Qax (Qsf hc) QbT he2) he) (by decide) (by decide) he hpl,fun G H σ ς Q S q=>?_⟩
 unfold eIsa at q
 rw[Out.post_bind]at q
 refine q1 G H σ ς _ S (Out.post_mono q fun d k v1 H1 G1 S1 a1 b1 r1=>?_)
 rw[Out.post_bind]at k
 cases d with
 | ins c fs=>
  cases ea:anyT (t::ts) c with
  | none=>
   have hs:isaTs (t::ts) (D.ins c fs)=.stuck:=by show(match anyT (t::ts) c with | some b=>Out.ok b | none=>Out.stuck)=_;rw[ea]
   rw[hs]at k;exact k.elim
  | some b=>
   have hs:isaTs (t::ts) (D.ins c fs)=.ok b:=by show(match anyT (t::ts) c with | some b=>Out.ok b | none=>Out.stuck)=_;rw[ea]
   rw[hs]at k
   refine⟨by rw[List.length_map];exact Nat.le_trans hz (by decide),fun tp htp=>?_⟩
   have S2:=S1.allocO (o:=.tup ((a::as).map V.ref)) htp
   exact⟨c,fs,v1,tp,b,rfl,Rep.mono (Qt htp) _ v1 r1,Qz,ea,KD.now (KD.later (show KD C G H σ ς Q (.bl b) from k) (a1.trans (Qt htp)) b1) S2 rfl⟩
 | _=>exact k.elim
end
end DL
namespace DL
open PySem PySem.Spec PyProof.Rows L2
theorem Quv{K:W.Frag}{CT:CTab}{H:Hp}{d:D}{v:V}(h:d.scal=true)(r:Rep K CT H d v):v=toV d:=by
 cases d with
 | non=>exact r
 | bl b=>exact r
 | int i=>exact r
 | str x=>exact r
 | _=>cases h
theorem Qpl{K:W.Frag}{CT:CTab}{H:Hp}:∀{ds:List D}{vs:List V},ds.all D.scal=true->RepL K CT H ds vs->vs=ds.map toV
 | [],_,_,r=>by cases r;rfl
 | d::ds,_,h,⟨v,r,h1,h2,h3⟩=>by
  rw[List.all_cons,Bool.and_eq_true]at h
  rw[h1,Quv h.1 h2,Qpl h.2 h3];rfl
theorem QpH{d:D}(h:d.scal=true):flatV (toV d)=true:=by
 cases d with
 | non=>rfl
 | bl b=>rfl
 | int i=>rfl
 | str x=>rfl
 | _=>cases h
theorem Qmz:∀{ds:List D},ds.all D.scal=true->(ds.map toV).all flatV=true
 | [],_=>rfl
 | d::ds,h=>by
  rw[List.all_cons,Bool.and_eq_true]at h
  rw[List.map_cons,List.all_cons,QpH h.1,Qmz h.2];rfl
def dInL:D->D->Out D
 | x,.lst ds=>if (x.scal&&ds.all D.scal)=true then .ok (.bl (inV (toV x) (ds.map toV))) else .stuck
 | _,_=>.stuck
section
variable{C:Dc}{a b:Expr}{A B:SD->Out D}{pos:Pos}
theorem QFy:DRS C (rIn C.X.K false) dInL:=by
 intro G H σ ς Q x y vx vy S hx hy q
 cases y with
 | lst ds=>
  have q:(if (x.scal&&ds.all D.scal)=true then Out.ok (D.bl (inV (toV x) (ds.map toV))) else .stuck).post _ _:=q
  rcases QL q with⟨hc,q⟩ | ⟨_,q⟩
  ·rw[Bool.and_eq_true]at hc
   obtain⟨p,vs,rfl,h2,h3⟩:=hy
   have e1:=Quv hc.1 hx
   have e2:=Qpl hc.2 h3
   subst e1;subst e2
   exact⟨p,_,rfl,.inl h2,QpH hc.1,Qmz hc.2,q.2⟩
  ·exact q.elim
 | _=>exact q.elim
theorem QE7:scal2 dInL:=fun x y=>by
 cases y with
 | lst ds=>
  show match (if (x.scal&&ds.all D.scal)=true then Out.ok (D.bl (inV (toV x) (ds.map toV))) else .stuck) with | .ok d=>d.scal=true | .exc _=>False | .stuck=>True
  split<;>rename_i h<;>(split at h<;>cases h)<;>first | rfl | trivial
 | _=>exact True.intro
theorem QDI(ha:DB C a A)(hb:DB C b B)(hm:behindInMarks .In b=false:=by rfl):DE C (.Compare a [.In] [b] pos) (e2 dInL A B):=Qix QDe QFy QE7 ha hb hm
end
end DL
namespace DL
open PySem PySem.Spec PyProof.Rows L2
section
variable{C:Dc}{a b:Expr}{A B:SD->Out D}{pos:Pos}
end
end DL
namespace DL
open PySem PySem.Spec PyProof.Rows L2
section
variable{C:Dc}{e:Expr}{E:SD->Out D}{pos p1 p2 p3:Pos}{x:Str}
end
end DL
namespace DL
open PySem PySem.Spec PyProof.Rows L2
section
variable{K:W.Frag}{CT:CTab}{G H:Hp}
end
theorem Qzt:∀{xs:List V}{us:List Value},xs.length=us.length->(∀(j:Nat)(u:Value),us[j]?=some u->∃ x,xs[j]?=some x/\RelV x u)->Vals xs us
 | [],[],_,_=>.nil
 | [],_::_,h,_=>by cases h
 | _::_,[],h,_=>by cases h
 | x::xs,u::us,hl,h=>by
  obtain⟨y,e,r⟩:=h 0 u rfl
  cases e
  exact .cons r (Qzt (by simpa using hl) fun j v e=>h (j+1) v e)
section
variable{C:Dc}{a b:Expr}{A B:SD->Out D}{pos:Pos}
end
end DL
namespace DL
open PySem PySem.Spec PyProof.Rows L2
def frzs:List Nat->SD->SD
 | [],ς=>ς
 | i::is,ς=>frzs is (frz i ς)
theorem QzG{C:Dc}{st:Stmt}:∀(is:List Nat){T:SD->Out Fl},DS C st T->DS C st (fun ς=>T (frzs is ς))
 | [],_,h=>h
 | i::is,_,h=>Qlh i (QzG is h)
def QA2(te:TA):TE:=fun σ H Q=>te σ H fun vs H1=>∃ n:Nat,vs=[V.int (n:Int)]/\n<=1000/\∀ l,H1 l=none->Q (.ref l) (upd H1 l (.lst ((List.range n).map fun(i:Nat)=>V.int (i:Int))))
section
variable{X:Cx}{e:Expr}{te:TA}{p1 p2 p3 pos:Pos}
theorem Qt8(hh:X.A.handled=none)(gl:Gl X "list")(ml:X.mg "list"=none)(gr:Gl X "range")(mr:X.mg "range"=none)(he:PA X [e] te)
 (h1:starEach [e] X.env=(false,eval e X.env)::starEach [] X.env:=by rfl)
 (h2:starEach [.Call (.Name "range" p2) [e] [] p3] X.env=(false,eval (.Call (.Name "range" p2) [e] [] p3) X.env)::starEach [] X.env:=by rfl)
 (h3:backTo pos (starEach [.Call (.Name "range" p2) [e] [] p3] X.env)=[(false,eval (.Call (.Name "range" p2) [e] [] p3) X.env)]:=by rfl):
 PE X (.Call (.Name "list" p1) [.Call (.Name "range" p2) [e] [] p3] [] pos) (QA2 te):=by
 intro pins s σ H Q I h
 have inner:wpAny (model X.prog X.w) X.A (eval (.Call (.Name "range" p2) [e] [] p3) X.env) (fun u s'=>∃(r:Addr)(H1:Hp)(n:Nat)(t v w:Tok),u=.ref r/\Inv X pins σ H1 s'/\IsRange s'.heap r 0 (n:Int) 1 t v w/\n<=1000/\∀ l,H1 l=none->Q (.ref l) (upd H1 l (.lst ((List.range n).map fun(i:Nat)=>V.int (i:Int))))) X.xe s:=by
  refine wpAny_Call_Name_kw (QdC I gr mr boot_range ?_ (by decide) (by decide))
  refine PyProof.Rows.callWith_type1 (thn (he p3 pins s σ H _ I h) fun us s1 ⟨vs,H1,I1,r1,n,ev,hn,q⟩=>?_) h1 rfl
  subst ev
  obtain⟨u,rfl,rx⟩:=vals1 r1
  obtain⟨t,rfl⟩:=rx
  exact call_range_1 ⟨_,H1,n,_,_,_,rfl,I1.kept fun b o e=>Heap.get?_push_of_some _ e,IsRange.new ..,hn,q⟩
 refine wpAny_Call_Name_kw (QdC I gl ml PyProof.Rows.Boot.«list» ?_ (by decide) (by decide))
 refine PyProof.Rows.callWith_type1 ?_ h2 rfl
 rw[h3]
 refine Calls.spliced_cons (thn inner fun u s1 ⟨r,H1,n,t,v,w,eu,I1,hr,hn,q⟩=>Calls.spliced_nil ?_)
 subst eu
 have hsz:Builtin.Range.rangeSize 0 (n:Int) 1=(n:Int):=by rw[rangeSize_one];split<;>omega
 refine call_list_range hh hr (small_one (by omega) (by omega) (by omega) (by omega)) hsz (by omega) fun h' tk acc' c' kp e' hacc=>?_
 have hv:Vals ((List.range n).map fun(i:Nat)=>V.int (i:Int)) acc'.toList:=by
  refine Qzt (by rw[List.length_map,List.length_range,Array.length_toList];exact hacc.1.symm) fun j u eu=>?_
  have hj:j<n:=by
   have:=(List.getElem?_eq_some_iff.mp eu).1
   rw[Array.length_toList,hacc.1]at this
   exact this
  obtain⟨t,rfl⟩:=hacc.2 j u (by rw[← Array.getElem?_toList];exact eu)
  refine⟨V.int (j:Int),by rw[List.getElem?_map,List.getElem?_range hj];rfl,t,?_⟩
  simp
 exact⟨.ref s1.heap.objs.size,_,I1.laid (t':=tk) kp (Nat.le_refl _) (show ObjOk X.prog X.w _ h' _ (.lst ((List.range n).map fun(i:Nat)=>V.int (i:Int))) from⟨by rw[List.length_map,List.length_range];exact Nat.le_trans hn (by decide),acc'.toList,c',hv,by simpa using e'⟩),rfl,q _ (I1.hok.fresh (Nat.le_refl _))⟩
end
def QjK(A:SD->Out (List D)):SD->Out D:=fun ς=>A ς>>=fun xs=>match xs with
 | [.int i]=>if (decide (0<=i)&&decide (i<=1000))=true then .ok (.lst (Qa6 0 i.toNat)) else .stuck
 | _=>.stuck
section
variable{C:Dc}{e:Expr}{A:SD->Out (List D)}{p1 p2 p3 pos:Pos}
theorem Qpp{K:W.Frag}{CT:CTab}{G:Hp}:∀(ns:List Nat),RepL K CT G (ns.map fun(i:Nat)=>D.int ((0:Int)+i)) (ns.map fun(i:Nat)=>V.int (i:Int))
 | []=>rfl
 | n::ns=>⟨_,_,rfl,by show V.int (n:Int)=V.int (0+(n:Int));rw[Int.zero_add],Qpp ns⟩
theorem Qvd(hh:C.X.A.handled=none)(gl:Gl C.X "list")(ml:C.X.mg "list"=none)(gr:Gl C.X "range")(mr:C.X.mg "range"=none)(ha:DAB C [e] A)
 (h1:starEach [e] C.X.env=(false,eval e C.X.env)::starEach [] C.X.env:=by rfl)
 (h2:starEach [.Call (.Name "range" p2) [e] [] p3] C.X.env=(false,eval (.Call (.Name "range" p2) [e] [] p3) C.X.env)::starEach [] C.X.env:=by rfl)
 (h3:backTo pos (starEach [.Call (.Name "range" p2) [e] [] p3] C.X.env)=[(false,eval (.Call (.Name "range" p2) [e] [] p3) C.X.env)]:=by rfl):
 DF C (.Call (.Name "list" p1) [.Call (.Name "range" p2) [e] [] p3] [] pos) (QjK A):=by
 obtain⟨t,p,q⟩:=ha
 refine⟨_,Qt8 hh gl ml gr mr p h1 h2 h3,fun G H σ ς Q S k=>?_⟩
 unfold QjK at k
 rw[Out.post_bind]at k
 refine q G H σ ς _ S (Out.post_mono k fun xs kk vs H1 G1 S1 a1 b1 r1=>?_)
 match xs,kk,r1 with
 | [.int i],kk,r1=>
  obtain⟨v,r,rfl,hv,hr⟩:=r1
  cases hr;cases hv
  rcases QL (show(if (decide (0<=i)&&decide (i<=1000))=true then Out.ok (D.lst (Qa6 0 i.toNat)) else .stuck).post _ _ from kk) with⟨hc,k3⟩ | ⟨_,k3⟩
  ·rw[Bool.and_eq_true]at hc
   have c1:=of_decide_eq_true hc.1
   have c2:=of_decide_eq_true hc.2
   refine⟨i.toNat,by rw[show((i.toNat:Nat):Int)=i by omega],by omega,?_⟩
   exact KF.lst (KF.later (show KF C G H σ ς Q (.lst (Qa6 0 i.toNat)) from k3) a1 b1) S1 (Qpp _)
  ·exact k3.elim
 | [],kk,_=>exact kk.elim
 | [.non],kk,_=>exact kk.elim
 | [.bl _],kk,_=>exact kk.elim
 | [.str _],kk,_=>exact kk.elim
 | [.lst _],kk,_=>exact kk.elim
 | [.tup _],kk,_=>exact kk.elim
 | [.dic _],kk,_=>exact kk.elim
 | [.ins _ _],kk,_=>exact kk.elim
 | [.err _],kk,_=>exact kk.elim
 | x::y::r,kk,_=>
  cases x<;>exact kk.elim
end
end DL
namespace DL
open PySem PySem.Spec PyProof.Rows L2
def gLst(K:W.Frag)(n:Nat)(t:TGs):TG:=fun v σ H Q=>∃ a xs,v=.ref a/\SqL K H a xs/\xs.length=n/\t xs σ H Q
theorem QHC{X:Cx}{pos:Pos}{es:List Expr}{k:Nat}{t:TGs}{n:Nat}(hc:X.calm=true)(h:PGs X es t)
 (hn:(assignEach es X.env).length=n:=by rfl) (hst:(assignEach es X.env).findIdx? (·.1)=none:=by rfl):PG X (.Tuple es k pos) (gLst X.K n t):=by
 intro pins s σ H v u Q I r hw
 obtain⟨a,xs,rfl,hq,hl,hw⟩:=hw
 cases r
 obtain⟨its,rv,ht,hz⟩:=I.list hq
 have hlen:its.length=n:=by rw[← rv.length];exact hl
 rw[assign_Tuple]
 refine wpAny_bind (wpAny_standAt (?_:wpAny (model X.prog X.w) X.A (unpack (.ref a) (assignEach es X.env)) _ _ s))
 unfold unpack
 rw[hst,hn,show n=its.toArray.size by simp[hlen]]
 refine wpAny_bind (wpAny_holding (W.kun_itemsOf (I.ok.hd hc) ht.isList fun g hg=>?_))
 exact h pins { s with heap:=g } σ H xs its Q (I.kept (t':=s.toks) fun b o e=>hg b o (Nat.ne_of_lt (Heap.lt_size e)) e) rv hw
def sUnpL(is:List Nat)(E:SD->Out D):SD->Out Fl:=fun ς=>E ς>>=fun d=>match d with
 | .lst ds=>QV is ds ς>>=fun ς'=>.ok (.nx ς')
 | _=>.stuck
section
variable{C:Dc}{e:Expr}{E:SD->Out D}{pos:Pos}
theorem QzH{es:List Expr}{is:List Nat}{k:Nat}{pt:Pos}(hc:C.X.calm=true)(he:DE C e E)(hg:DGs C es is)(hn:(assignEach es C.X.env).length=is.length:=by rfl)(hst:(assignEach es C.X.env).findIdx? (·.1)=none:=by rfl)
 (hs:swapsWithSole [.Tuple es k pt] e pos.line C.X.env=pure false:=by rfl) (hw:swappedStores [.Tuple es k pt] e C.X.env=pure none:=by rfl)
 (h1:(assignEach [.Tuple es k pt] C.X.env).map (·.2)=[assign (.Tuple es k pt) C.X.env]:=by rfl):DS C (.Assign [.Tuple es k pt] e pos) (sUnpL is E):=by
 obtain⟨t,p,q⟩:=he
 obtain⟨t2,p2,q2⟩:=hg
 refine⟨_,QCE p (QHC hc p2 hn hst) hs hw h1,fun G H σ ς W S k=>?_⟩
 unfold sUnpL at k
 rw[Out.post_bind]at k
 refine q G H σ ς _ S (Out.post_mono k fun d k v H1 G1 S1 a1 b1 r1=>?_)
 cases d with
 | lst ds=>
  obtain⟨a,vs,rfl,h2,h3⟩:=r1
  have k':(QV is ds ς>>=fun ς'=>Out.ok (Fl.nx ς')).post (FlK C G W) C.XD:=k
  rw[Out.post_bind]at k'
  cases z:QV is ds ς with
  | exc _=>exact absurd z (Qi8 is ds ς _)
  | stuck=>rw[z]at k';exact k'.elim
  | ok ς'=>
   rw[z]at k'
   refine⟨a,vs,rfl,S1.sub.seq h2,by rw[← h3.length];exact QhC z,?_⟩
   exact q2 G1 H1 σ ς ds vs ς' _ S1 h3 z fun σ' S'=>k' σ' H1 G1 S' b1
 | _=>exact k.elim
end
end DL
namespace DL
open PySem PySem.Spec PyProof.Rows L2
section
variable{C:Dc}{o e:Expr}{es:List Expr}{O:SD->Out D}{A:SD->Out (List D)}{apos cpos:Pos}{m:Str}{id:String}{r:V->List V->Hp->VK->Prop}{f:D->List D->Out D}
end
end DL
namespace L2
open PySem PySem.Spec PyProof.Rows
section
variable{X:Cx}
end
end L2
namespace DL
open PySem PySem.Spec PyProof.Rows L2
section
variable{C:Dc}{a:Expr}{A:SD->Out D}
end
end DL
namespace DL
open PySem PySem.Spec PyProof.Rows L2
section
variable{C:Dc}{G G' H H':Hp}{σ:St}{ς ς':SD}
end
end DL
namespace DL
open PySem PySem.Spec PyProof.Rows L2
section
variable{C:Dc}{a e:Expr}{A E:SD->Out D}{pos p1 p2:Pos}{x:Str}
end
def ArgW(K:W.Frag)(CT:CTab)(G H:Hp):List Bool->List D->List V->List Addr->Prop
 | [],[],[],ps=>ps=[]
 | true::bs,d::ds,v::vs,ps=>∃ p ps',v=.ref p/\ps=p::ps'/\p∉ps'/\G p=none/\Own K CT G H p d/\ArgW K CT G H bs ds vs ps'
 | false::bs,d::ds,v::vs,ps=>Rep K CT G d v/\ArgW K CT G H bs ds vs ps
 | _,_,_,_=>False
section
variable{K:W.Frag}{CT:CTab}{G H:Hp}
theorem ArgW.len:∀{bs:List Bool}{ds:List D}{vs:List V}{ps:List Addr},ArgW K CT G H bs ds vs ps->bs.length=vs.length/\ds.length=vs.length
 | [],[],[],_,_=>⟨rfl,rfl⟩
 | true::bs,d::ds,v::vs,ps,⟨_,_,_,_,_,_,_,h⟩=>by have:=ArgW.len h;simp[this.1,this.2]
 | false::bs,d::ds,v::vs,ps,⟨_,h⟩=>by have:=ArgW.len h;simp[this.1,this.2]
end
end DL
namespace DL
open PySem PySem.Spec PyProof.Rows L2
end DL
namespace DL
open PySem PySem.Spec PyProof.Rows L2
section
variable{C:Dc}{e:Expr}{es:List Expr}{E:SD->Out D}{A:SD->Out (List D)}{ms:List (Option Nat)}
end
end DL
namespace DL
open PySem PySem.Spec PyProof.Rows L2
section
variable{C:Dc}{e:Expr}{es:List Expr}{E:SD->Out D}{A:SD->Out (List D)}{bs:List Bool}
end
end DL
namespace L2
open PySem PySem.Spec PyProof.Rows
section
variable{X:Cx}
end
end L2
namespace DL
open PySem PySem.Spec PyProof.Rows L2
section
variable{C:Dc}{e:Expr}{es:List Expr}{AA:SD->Out (List D)}{p pos:Pos}
end
end DL
namespace DL
open PySem PySem.Spec PyProof.Rows L2
section
variable{C:Dc}{x:Str}{k:Nat}{dd:List D}{m:List D->Out D}{e:Expr}{es:List Expr}{A:SD->Out (List D)}{p pos:Pos}
end
end DL
namespace L2
open PySem PySem.Spec PyProof.Rows
section
variable{prog:Program}{w:World}{A:Around}{E:Value->Shared->Prop}{s:Shared}{I l:Addr}
end
section
variable{prog:Program}{w:World}{A:Around}{s:Shared}{R:Result->Shared->Prop}{I l:Addr}
end
section
variable{prog:Program}{w:World}{A:Around}{E:Value->Shared->Prop}{s:Shared}{I l:Addr}
end
section
variable{X:Cx}{e:Expr}{te:TA}{p1 p2 p3 pos:Pos}
end
end L2
namespace DL
open PySem PySem.Spec PyProof.Rows L2
section
variable{C:Dc}{e:Expr}{A:SD->Out (List D)}{p1 p2 p3 pos:Pos}
end
end DL
namespace DL
open PySem PySem.Spec PyProof.Rows L2
def OwnAs(K:W.Frag)(CT:CTab)(H0 G H:Hp):List (List D)->List Addr->Prop
 | [],[]=>True
 | xs::r,a::as=>(H0 a=none/\G a=none/\Own K CT G H a (.lst xs))/\a∉as/\OwnAs K CT H0 G H r as
 | _,_=>False
theorem OwnAs.mono{K:W.Frag}{CT:CTab}{H0 G G' H H':Hp}(g:Same G G')(h:Same H H'):∀{xss:List (List D)}{as:List Addr},(∀ a∈as,G' a=none)->OwnAs K CT H0 G H xss as->OwnAs K CT H0 G' H' xss as
 | [],[],_,_=>trivial
 | xs::r,a::as,n,⟨⟨h0,_,o⟩,na,ho⟩=>⟨⟨h0,n a (List.mem_cons_self ..),o.mono g fun o e=>h _ _ e⟩,na,ho.mono g h fun b hb=>n b (List.mem_cons_of_mem _ hb)⟩
theorem OwnAs.mem{K:W.Frag}{CT:CTab}{H0 G H:Hp}:∀{xss:List (List D)}{as:List Addr}{a:Addr},OwnAs K CT H0 G H xss as->a∈as->H0 a=none/\G a=none/\∃ vs,H a=some (.lst vs)
 | [],[],_,_,hm=>(nomatch hm)
 | [],_::_,_,h,_=>h.elim
 | _::_,[],_,h,_=>h.elim
 | xs::r,b::as,a,⟨⟨h0,hg,vs,hv,_⟩,_,ho⟩,hm=>by
  rcases List.mem_cons.mp hm with rfl | hm
  ·exact⟨h0,hg,vs,hv⟩
  ·exact ho.mem hm
section
variable{C:Dc}{G G' H H':Hp}{σ:St}{ς:SD}
theorem StR.hide(S:StR C G H σ ς)(i:Nat)(w:Option V):StR C G H (σ.set i w) (ς.set i none) where
 toGH:=S.toGH
 len:=by rw[List.length_set,List.length_set];exact S.len
 fz:=fun j e h=>by
  rcases Qp h with⟨rfl,h2,l⟩ | ⟨ne,h2⟩
  ·cases h2
  ·rw[Qk ne];exact S.fz j e h2
 ow:=fun j e h=>by
  rcases Qp h with⟨rfl,h2,l⟩ | ⟨ne,h2⟩
  ·cases h2
  ·rw[Qk ne];exact S.ow j e h2
 ln:=fun j e h=>by
  rcases Qp h with⟨rfl,h2,l⟩ | ⟨ne,h2⟩
  ·cases h2
  ·rw[Qk ne];exact S.ln j e h2
 inj:=fun j k d1 d2 p hjk h1 h2 h3=>by
  rcases Qp h1 with⟨rfl,q1,l⟩ | ⟨n1,q1⟩
  ·cases q1
  ·rcases Qp h2 with⟨rfl,q2,l⟩ | ⟨n2,q2⟩
   ·cases q2
   ·rw[Qk n1]at h3
    rw[Qk n2]
    exact S.inj j k d1 d2 p hjk q1 q2 h3
 sf:=fun j e h=>by
  rcases Qp h with⟨rfl,h2,l⟩ | ⟨ne,h2⟩
  ·cases h2
  ·rw[Qk ne];exact S.sf j e h2
 su:=fun j k d1 d2 p hjk h1 h2 h3=>by
  rcases Qp h1 with⟨rfl,q1,l⟩ | ⟨n1,q1⟩
  ·cases q1
  ·rcases Qp h2 with⟨rfl,q2,l⟩ | ⟨n2,q2⟩
   ·cases q2
   ·rw[Qk n1]at h3
    rw[Qk n2];exact S.su j k d1 d2 p hjk q1 q2 h3
theorem StR.freezeAs:∀{xss:List (List D)}{as:List Addr}{G:Hp},StR C G H σ ς->OwnAs C.X.K C.CT C.X.H₀ G H xss as->(∀ a∈as,∀(i:Nat) d,ς[i]?=some (some (.o,d))->σ[i]?≠some (some (.ref a)))->∃ G',StR C G' H σ ς/\Same G G'/\(∀ b,b∉as->G' b=G b)/\RepL C.X.K C.CT G' (xss.map .lst) (as.map V.ref)
 | [],[],G,S,_,_=>⟨G,S,Same.refl G,fun _ _=>rfl,rfl⟩
 | xs::r,a::as,G,S,⟨⟨h0,hg,o⟩,na,ho⟩,nn=>by
  obtain⟨vs,hv,rv⟩:=id o
  have S1:=S.freeze hv hg h0 (nn a (List.mem_cons_self ..))
  have ho1:OwnAs C.X.K C.CT C.X.H₀ (upd G a (.lst vs)) H r as:=ho.mono (Qt hg) (Same.refl H) fun b hb=>by
   rw[Qh (by rintro rfl;exact na hb)]
   exact(ho.mem hb).2.1
  obtain⟨G',S',g',k',r'⟩:=StR.freezeAs S1 ho1 fun b hb=>nn b (List.mem_cons_of_mem _ hb)
  refine⟨G',S',(Qt hg).trans g',fun b hb=>?_,?_⟩
  ·rw[k' b (fun h=>hb (List.mem_cons_of_mem _ h)),Qh (by rintro rfl;exact hb (List.mem_cons_self ..))]
  ·exact⟨.ref a,as.map V.ref,rfl,Rep.mono g' _ _ (o.known hg hv),r'⟩
end
def tSeq(T:SD->Out Fl)(U:SD->Out D):SD->Out D:=fun ς=>T ς>>=fun f=>match f with
 | .nx ς'=>U ς'
 | _=>.stuck
def AtO(σ:St)(ς:SD):List Nat->List (List D)->List Addr->Prop
 | [],[],[]=>True
 | i::is,xs::r,a::as=>ς[i]?=some (some (.o,.lst xs))/\σ[i]?=some (some (.ref a))/\AtO σ ς is r as
 | _,_,_=>False
section
variable{C:Dc}{G H:Hp}{σ:St}{ς:SD}
theorem AtO.len:∀{is:List Nat}{xss:List (List D)}{as:List Addr},AtO σ ς is xss as->as.length=is.length
 | [],[],[],_=>rfl
 | i::is,xs::r,a::as,⟨_,_,h⟩=>by rw[List.length_cons,List.length_cons,h.len]
end
section
variable{C:Dc}{st:Stmt}{rest:List Stmt}{T:SD->Out Fl}{U:SD->Out D}{es:List Expr}{is:List Nat}{pos:Pos}
end
def bodyT(n len:Nat)(T:SD->Out D):List D->Out D:=fun ds=>if ds.length=n then T (ds.map (fun d=>some (SM.k,d))++List.replicate (len - n) none) else .stuck
section
variable{C:Dc}{G G' H H':Hp}{σ:St}{ς:SD}
theorem StR.touch(S:StR C G H σ ς){a:Addr}{o o':HO}(ha:H a=some o)(hg:G a=none)(h0:C.X.H₀ a=none)(hn:∀(i:Nat) d,ς[i]?=some (some (.o,d))->σ[i]?≠some (some (.ref a))):StR C G (upd H a o') σ ς where
 sub:=fun b u e=>by rw[Qh (by rintro rfl;rw[hg]at e;cases e)];exact S.sub b u e
 g0:=S.g0
 new:=S.new
 fr:=fun b u e m=>by rw[Qh (by rintro rfl;rw[h0]at e;cases e)];exact S.fr b u e m
 dom:=fun b e=>by
  by_cases hb:b=a
  ·subst hb;exact h0
  ·rw[Qh hb]at e;exact S.dom b e
 bs:=fun b u e=>by rw[Qh (by rintro rfl;rw[S.bh _ h0]at e;cases e)];exact S.bs b u e
 bh:=S.bh
 len:=S.len
 fz:=S.fz
 ow:=fun i d e=>by
  obtain⟨p,e1,e2,e3,w⟩:=S.ow i d e
  exact⟨p,e1,e2,e3,w.mono (Same.refl G) fun u z=>by rw[Qh (by rintro rfl;exact hn i d e e1)];exact z⟩
 ln:=S.ln
 inj:=S.inj
 sf:=fun i d e=>by
  obtain⟨p,e1,e2,e3,m,z,w⟩:=S.sf i d e
  exact⟨p,e1,e2,e3,m,z,w.mono (Same.refl G) fun u z=>by rw[Qh (by rintro rfl;exact e3 h0)];exact z⟩
 su:=S.su
theorem QEN{ς:SD}{j:Nat}(h:ς[j]?=some none):ς.set j none=ς:=by
 apply List.ext_getElem?
 intro k
 rw[List.getElem?_set]
 split
 ·rename_i e
  subst e
  split
  ·exact h.symm
  ·rename_i hl
   rw[List.getElem?_eq_none (by omega)]at h
   cases h
 ·rfl
end
def Qa8(xss:List (List D)):Bool:=xss.all fun xs=>decide (xs.length<100000)
theorem OwnAs.short{K:W.Frag}{CT:CTab}{H0 G H:Hp}:∀{xss:List (List D)}{as:List Addr}{a:Addr},Qa8 xss=true->OwnAs K CT H0 G H xss as->a∈as->∃ vs:List V,H a=some (.lst vs)/\vs.length<100000
 | [],[],_,_,_,hm=>(nomatch hm)
 | [],_::_,_,_,h,_=>h.elim
 | _::_,[],_,_,h,_=>h.elim
 | xs::r,b::as,a,hs,⟨⟨_,_,vs,hv,rv⟩,_,ho⟩,hm=>by
  unfold Qa8 at hs
  rw[List.all_cons,Bool.and_eq_true]at hs
  rcases List.mem_cons.mp hm with rfl | hm
  ·exact⟨vs,hv,by rw[← rv.length];exact of_decide_eq_true hs.1⟩
  ·exact OwnAs.short (show Qa8 r=true from hs.2) ho hm
def lstsD:List D->Option (List (List D))
 | []=>some []
 | .lst xs::r=>(lstsD r).map (xs :: ·)
 | _=>none
theorem QeO:∀ xss:List (List D),lstsD (xss.map .lst)=some xss
 | []=>rfl
 | xs::r=>by show(lstsD (r.map .lst)).map (xs :: ·)=_;rw[QeO r];rfl
section
variable{C:Dc}{i j:Nat}{x y:Str}{p2 p3 p4 p5 p6 p7 p8 p9:Pos}{cj:Nat}{c:Int}{body:List Stmt}
end
section
variable{C:Dc}{G H:Hp}{σ:St}{ς:SD}
theorem StR.forget(S:StR C G H σ ς)(i:Nat):StR C G H σ (ς.set i none) where
 toGH:=S.toGH
 len:=by rw[List.length_set];exact S.len
 fz:=fun j e h=>by
  rcases Qp h with⟨rfl,h2,l⟩ | ⟨ne,h2⟩
  ·cases h2
  ·exact S.fz j e h2
 ow:=fun j e h=>by
  rcases Qp h with⟨rfl,h2,l⟩ | ⟨ne,h2⟩
  ·cases h2
  ·exact S.ow j e h2
 ln:=fun j e h=>by
  rcases Qp h with⟨rfl,h2,l⟩ | ⟨ne,h2⟩
  ·cases h2
  ·exact S.ln j e h2
 inj:=fun j k d1 d2 p hjk h1 h2 h3=>by
  rcases Qp h1 with⟨rfl,q1,l⟩ | ⟨n1,q1⟩
  ·cases q1
  ·rcases Qp h2 with⟨rfl,q2,l⟩ | ⟨n2,q2⟩
   ·cases q2
   ·exact S.inj j k d1 d2 p hjk q1 q2 h3
 sf:=fun j e h=>by
  rcases Qp h with⟨rfl,h2,l⟩ | ⟨ne,h2⟩
  ·cases h2
  ·exact S.sf j e h2
 su:=fun j k d1 d2 p hjk h1 h2 h3=>by
  rcases Qp h1 with⟨rfl,q1,l⟩ | ⟨n1,q1⟩
  ·cases q1
  ·rcases Qp h2 with⟨rfl,q2,l⟩ | ⟨n2,q2⟩
   ·cases q2
   ·exact S.su j k d1 d2 p hjk q1 q2 h3
end
theorem OwnAs.h0{K:W.Frag}{CT:CTab}{H0 H0' G H:Hp}:∀{xss:List (List D)}{as:List Addr},(∀ a,H0 a=none->H0' a=none)->OwnAs K CT H0 G H xss as->OwnAs K CT H0' G H xss as
 | [],[],_,_=>trivial
 | xs::r,a::as,n,⟨⟨h0,hg,o⟩,na,ho⟩=>⟨⟨n a h0,hg,o⟩,na,ho.h0 n⟩
theorem OwnAs.nodup{K:W.Frag}{CT:CTab}{H0 G H:Hp}:∀{xss:List (List D)}{as:List Addr},OwnAs K CT H0 G H xss as->as.Nodup
 | [],[],_=>List.nodup_nil
 | [],_::_,h=>h.elim
 | _::_,[],_=>List.nodup_nil
 | xs::r,a::as,⟨_,na,ho⟩=>List.nodup_cons.mpr ⟨na,ho.nodup⟩
def onlyR:Fl->Out Fl
 | .rt b d=>.ok (.rt b d)
 | _=>.stuck
section
variable{C:Dc}{i j:Nat}{x y fn:Str}{k:Nat}{m:List D->Out D}{e:Expr}{es:List Expr}{A:SD->Out (List D)}{tc:Expr}{TC:SD->Out Bool}{ra:List Stmt}{R U:SD->Out Fl}{rest:List Stmt}{sf:Stmt}{p0 p1 p2 p3 p4:Pos}
end
section
variable{C:Dc}{j:Nat}{y:Str}{p5 p6 p7 p8 p9:Pos}{cj:Nat}{c:Int}
end
end DL
namespace DL
open PySem PySem.Spec PyProof.Rows L2
theorem OwnAs.go{K:W.Frag}{CT:CTab}{H0 G G' H H':Hp}(g:Same G G'):∀{xss:List (List D)}{as:List Addr},(∀ a∈as,G' a=none)->(∀ a∈as,∀ o,H a=some o->H' a=some o)->OwnAs K CT H0 G H xss as->OwnAs K CT H0 G' H' xss as
 | [],[],_,_,_=>trivial
 | xs::r,a::as,n,h,⟨⟨h0,_,o⟩,na,ho⟩=>⟨⟨h0,n a (List.mem_cons_self ..),o.mono g fun o e=>h a (List.mem_cons_self ..) _ e⟩,na,ho.go g (fun b hb=>n b (List.mem_cons_of_mem _ hb)) fun b hb=>h b (List.mem_cons_of_mem _ hb)⟩
theorem OwnAs.app{K:W.Frag}{CT:CTab}{H0 G H:Hp}:∀{xss yss:List (List D)}{as bs:List Addr},OwnAs K CT H0 G H xss as->OwnAs K CT H0 G H yss bs->(∀ a∈as,a∉bs)->OwnAs K CT H0 G H (xss++yss) (as++bs)
 | [],_,[],_,_,h,_=>h
 | xs::r,_,a::as,_,⟨h1,na,ho⟩,h,n=>⟨h1,fun hm=>by
  rcases List.mem_append.mp hm with hm | hm
  ·exact na hm
  ·exact n a (List.mem_cons_self ..) hm,ho.app h fun b hb=>n b (List.mem_cons_of_mem _ hb)⟩
theorem OwnAs.len{K:W.Frag}{CT:CTab}{H0 G H:Hp}:∀{xss:List (List D)}{as:List Addr},OwnAs K CT H0 G H xss as->as.length=xss.length
 | [],[],_=>rfl
 | [],_::_,h=>h.elim
 | _::_,[],h=>h.elim
 | xs::r,a::as,⟨_,_,h⟩=>by rw[List.length_cons,List.length_cons,h.len]
theorem keepN{G G' H:Hp}{a:Addr}{o:HO}(n:∀ b,G b=none->G' b≠none->H b=none)(hg:G a=none)(hh:H a=some o):G' a=none:=by
 cases z:G' a with
 | none=>rfl
 | some u=>
  have:=n a hg (by rw[z];simp)
  rw[hh]at this;cases this
def LstA(K:W.Frag)(CT:CTab)(H0 G H:Hp)(d:D)(p:Addr)(as:List Addr):Prop:=
 ∃ xss:List (List D),d=.lst (xss.map D.lst)/\H0 p=none/\G p=none/\H p=some (.lst (as.map V.ref))/\OwnAs K CT H0 G H xss as/\p∉as
def LstO(K:W.Frag)(CT:CTab)(H0 G H:Hp)(d:D)(v:V):Prop:=∃ p as,v=.ref p/\LstA K CT H0 G H d p as
theorem LstA.go{K:W.Frag}{CT:CTab}{H0 G G' H H':Hp}{d:D}{p:Addr}{as:List Addr}(g:Same G G')(n:∀ a∈p::as,G' a=none)(h:∀ a∈p::as,∀ o,H a=some o->H' a=some o)(l:LstA K CT H0 G H d p as):LstA K CT H0 G' H' d p as:=by
 obtain⟨xss,e,h0,hg,hp,ho,np⟩:=l
 exact⟨xss,e,h0,n p (List.mem_cons_self ..),h p (List.mem_cons_self ..) _ hp,ho.go g (fun a ha=>n a (List.mem_cons_of_mem _ ha)) fun a ha=>h a (List.mem_cons_of_mem _ ha),np⟩
theorem LstA.mem{K:W.Frag}{CT:CTab}{H0 G H:Hp}{d:D}{p:Addr}{as:List Addr}(l:LstA K CT H0 G H d p as):∀ a∈p::as,H0 a=none/\G a=none/\∃ vs,H a=some (.lst vs):=by
 obtain⟨xss,e,h0,hg,hp,ho,np⟩:=l
 intro a ha
 rcases List.mem_cons.mp ha with rfl | ha
 ·exact⟨h0,hg,_,hp⟩
 ·exact ho.mem ha
section
variable{C:Dc}{G H:Hp}{σ:St}{ς:SD}
theorem LstA.known{H0:Hp}{d:D}{p:Addr}{as:List Addr}(S:StR C G H σ ς)(h0:∀ a,H0 a=none->C.X.H₀ a=none)(hn:∀ a,H0 a=none->∀(i:Nat) d,ς[i]?=some (some (.o,d))->σ[i]?≠some (some (.ref a)))(l:LstA C.X.K C.CT H0 G H d p as):
 ∃ G',StR C G' H σ ς/\Same G G'/\(∀ b,b∉p::as->G' b=G b)/\Rep C.X.K C.CT G' d (.ref p):=by
 obtain⟨xss,rfl,hp0,hpg,hpt,ow,np⟩:=l
 obtain⟨G3,S3,g3,k3,r3⟩:=S.freezeAs (ow.h0 h0) fun a hm=>hn a (ow.mem hm).1
 have hG3:G3 p=none:=by rw[k3 p np];exact hpg
 refine⟨_,S3.freeze hpt hG3 (h0 p hp0) (hn p hp0),g3.trans (Qt hG3),fun b hb=>?_,p,as.map V.ref,rfl,SqL.of Qz,RepL.mono (Qt hG3) _ _ r3⟩
 rw[Qh (fun e=>hb (by rw[e];exact List.mem_cons_self ..)),k3 b fun h=>hb (List.mem_cons_of_mem _ h)]
end
def DAV(C:Dc)(es:List Expr)(A:SD->Out (List D)):Prop:=∃ t,PA C.X es t/\∀ G H σ ς Q,StR C G H σ ς->(A ς).post (fun ds=>∀ vs,RepL C.X.K C.CT G ds vs->Q vs H) C.XD->t σ H Q
def DN(C:Dc)(e:Expr)(E:SD->Out D):Prop:=∃ t,PE C.X e t/\∀ G H σ ς Q,StR C G H σ ς->(E ς).post (fun d=>∀ xs p H' G',d=.lst xs->StR C G' H' σ ς->Same H H'->Same G G'->(∀ b,G b=none->G' b≠none->H b=none)->H p=none->G' p=none->Own C.X.K C.CT G' H' p (.lst xs)->Q (.ref p) H') C.XD->t σ H Q
def lstO(o:Out D):Out D:=o>>=fun d=>match d with
 | .lst xs=>.ok (.lst xs)
 | _=>.stuck
section
variable{C:Dc}{e:Expr}{es:List Expr}{A:SD->Out (List D)}{x:Str}{k:Nat}{m:List D->Out D}{p pos:Pos}
theorem QjV:DAV C [] aNil:=⟨_,QbT,fun G H σ ς Q S q=>q [] rfl⟩
theorem dav_v(i:Nat){x:Str}{px:Pos}(hr:DAV C es A)(hN:C.X.N[i]?=some x:=by rfl)(hv:Vis C.X.env.scope x:=by first | exact Or.inl rfl | exact Or.inr (oi rfl) | exact Or.inr (Or.inr rfl))
 (hd:(x == ("__debug__":Str))=false:=by decide) (hcd:(x == ("__classdict__":Str))=false:=by decide) (hs:starEach (.Name x px::es) C.X.env=(false,eval (.Name x px) C.X.env)::starEach es C.X.env:=by rfl):DAV C (.Name x px::es) (aCons (eVar i) A):=by
 obtain⟨t2,p2,q2⟩:=hr
 refine⟨_,Qax (QbM (i:=i) hN hv hd hcd) p2 hs,fun G H σ ς Q S q=>?_⟩
 unfold aCons at q
 rw[Out.post_bind]at q
 obtain⟨d,z,k⟩:=Qsz q
 obtain⟨v,a,r⟩:=S.fz i d z
 rw[Out.post_bind]at k
 exact⟨v,a,q2 G H σ ς _ S (Out.post_mono k fun xs k2 vs w2=>k2 (v::vs) ⟨v,vs,rfl,r,w2⟩)⟩
theorem Qzp(h:DefOk C.X.prog C.X.w C.X.K C.X.mg C.X.base C.CT x k true [] m)(hr:Room k C.X.A)(ha:DAV C (e::es) A)(hg:Gl C.X x)(hx:∀ x,¬ C.XD x:=by exact fun _ h=>h)
 (hdb:(x == ("__debug__":Str))=false:=by decide) (he:starEach (e::es) C.X.env=(false,eval e C.X.env)::starEach es C.X.env:=by rfl) (hpl:(backTo pos (starEach es C.X.env)).any (·.1)=false:=by rfl):
 DN C (.Call (.Name x p) (e::es) [] pos) (fun ς=>lstO (eA (fun xs=>m (xs++[])) A ς)):=by
 obtain⟨f,fd,ps,ds,F,hm,hk,hb,hd⟩:=h
 obtain⟨t,p1,q1⟩:=ha
 refine⟨_,Qg7 F hr hg hm hk hb hd pass0 p1 hdb he hpl,fun G H σ ς Q S q=>?_⟩
 unfold lstO eA at q
 rw[Out.post_bind,Out.post_bind]at q
 refine q1 G H σ ς _ S (Out.post_mono q fun xs kk vs r1=>⟨xs++[],G,S.sub,r1.append rfl,?_⟩)
 cases z:m (xs++[]) with
 | stuck=>rw[z]at kk;exact kk.elim
 | exc y=>rw[z]at kk;exact absurd kk (hx y)
 | ok d=>
  rw[z]at kk
  intro v H' G' g1 h1 s1 n1 ret
  cases d with
  | lst ys=>
   have ret:∃ p,v=.ref p/\H p=none/\G' p=none/\Own C.X.K C.CT G' H' p (.lst ys):=ret
   obtain⟨pp,rfl,h0,hg',ow⟩:=ret
   exact kk ys pp H' G' rfl (S.grow h1 g1 s1 n1) h1 g1 n1 h0 hg' ow
  | _=>exact kk.elim
end
def NK(C:Dc)(G H:Hp)(σ:St)(ς:SD)(p:Addr)(Q:VK)(d:D):Prop:=∀ H' G' as,StR C G' H' σ ς->Same H H'->Same G G'->LstA C.X.K C.CT H G' H' d p as->Q (.ref p) H'
section
variable{C:Dc}{G H:Hp}{σ:St}{ς:SD}{N':List Str}{js:List (Option Nat)}{scope:Scope}{tg iter elt:Expr}{its:SD->Out (List D)}{g:D->SD->Out SD}{e:SD->Out D}{pos:Pos}
theorem QEL{J:It}{xs:List D}{p:Addr}{fp:List Addr}{s:Shared}{Q:VK}(S:StR C G H σ ς)(hp:H p=none)(dit:DItB C.X.K C.CT H G J xs)(hx:∀ x,¬ C.XD x)(hk:gKeep g (captD js ς))(hne:noExc g)
 (hin:DG (ccOf C N' scope fp s H G p) tg g/\DN (ccOf C N' scope fp s H G p) elt e)
 (q:(compM (turnC js g cTrue e ς) xs>>=fun ys=>if fits ys.length=true then Out.ok (D.lst ys) else .stuck).post (NK C G H σ ς p Q) C.XD):
 CompW (cxC C.X N' scope fp s (upd H p (.lst []))) js tg elt [] σ H J p Q:=by
 obtain⟨⟨tt,pg,hg⟩,⟨te,pe,he⟩⟩:=hin
 generalize hτ:captD js ς=τ0 at hk
 have S0:StR (ccOf C N' scope fp s H G p) G (upd H p (.lst [])) (capt js σ) τ0:=by rw[← hτ];exact S.comp hp
 let I:Nat->St->Hp->Prop:=fun i τ H'=>∃ G' xss as,StR (ccOf C N' scope fp s H G p) G' H' τ τ0/\H' p=some (.lst (as.map V.ref))/\OwnAs C.X.K C.CT (upd H p (.lst [])) G' H' xss as/\G' p=none/\
  (compM (turnC js g cTrue e ς) (xs.drop i)).post (fun ys=>(if fits (xss.map D.lst++ys).length=true then Out.ok (D.lst (xss.map D.lst++ys)) else .stuck).post (NK C G H σ ς p Q) C.XD) C.XD
 have hnp:∀{G' H':Hp}{xss:List (List D)}{as:List Addr},OwnAs C.X.K C.CT (upd H p (.lst [])) G' H' xss as->∀ a∈as,a≠p:=fun ho a ha e=>by
  have:=(ho.mem ha).1
  rw[e,Qz]at this;cases this
 refine⟨fun i m τ H'=>m=xs.length - i/\i<=xs.length/\I i τ H',⟨xs.length,by simp,Nat.zero_le _,G,[],[],S0,Qz,trivial,S.sub.free hp,by rw[Out.post_bind]at q;simpa using q⟩,?_⟩
 rintro i m τ H' ⟨rfl,hle,G',xss,as,S',hp',ho,hg',q'⟩
 have hH0:(ccOf C N' scope fp s H G p).X.H₀ p≠none:=by
  show upd H p (.lst []) p≠none
  rw[Qz];simp
 by_cases hlt:i<xs.length
 ·have hd:xs[i]?=some xs[i]:=by simp[hlt]
  obtain⟨hgo,hy⟩:=dit.go G' H' i _ S'.g0 S'.sub S'.bs hd
  refine .inr ⟨hgo,fun τ2 H2=>i+1<=xs.length/\I (i+1) τ2 H2,fun τ2 H2 h2=>⟨xs.length - (i+1),by omega,rfl,h2⟩,fun x H'' y=>?_⟩
  obtain⟨G'',g1,h1,s1,n1,r⟩:=hy x H'' y
  have S'':=S'.grow h1 g1 s1 n1
  have hpp:=h1 _ _ hp'
  have ho1:OwnAs C.X.K C.CT (upd H p (.lst [])) G'' H'' xss as:=ho.go g1 (fun a ha=>let ⟨_,b,vs,c⟩:=ho.mem ha;keepN n1 b c) fun a _ o e=>h1 a o e
  rw[QjG hd,compM,Out.post_bind]at q'
  have tu:turnC js g cTrue e ς xs[i]=(g xs[i] τ0>>=fun τ=>e τ>>=fun y=>Out.ok (some y)):=by unfold turnC;rw[hτ];rfl
  rw[tu,Out.post_bind]at q'
  cases z:g xs[i] τ0 with
  | exc w=>exact absurd z (hne _ _ _)
  | stuck=>rw[z]at q';exact q'.elim
  | ok τ1=>
   rw[z]at q'
   obtain⟨hl1,hk1⟩:=hk _ _ z
   refine⟨tt,pg,hg G'' H'' τ τ0 xs[i] x τ1 _ S'' r z fun τ2 S2=>⟨_,Qzl,iteT ?_⟩⟩
   have q2:(e τ1>>=fun y=>Out.ok (some y)).post (fun o=>(compM (turnC js g cTrue e ς) (xs.drop (i+1))>>=fun ys=>Out.ok (o.toList++ys)).post (fun ys=>(if fits (xss.map D.lst++ys).length=true then Out.ok (D.lst (xss.map D.lst++ys)) else .stuck).post (NK C G H σ ς p Q) C.XD) C.XD) C.XD:=q'
   rw[Out.post_bind]at q2
   have q3:(e τ1).post (fun y=>(compM (turnC js g cTrue e ς) (xs.drop (i+1))>>=fun ys=>Out.ok ((some y:Option D).toList++ys)).post (fun ys=>(if fits (xss.map D.lst++ys).length=true then Out.ok (D.lst (xss.map D.lst++ys)) else .stuck).post (NK C G H σ ς p Q) C.XD) C.XD) (fun _=>False):=by
    cases w:e τ1 with
    | ok b=>rw[w]at q2;exact q2
    | exc w'=>rw[w]at q2;exact absurd q2 (hx _)
    | stuck=>rw[w]at q2;exact q2.elim
   refine⟨te,pe,he G'' H'' τ2 τ1 _ S2 (Out.post_mono q3 fun y ky xs' q0 H4 G4 ey S4 a4 b4 n4 hq hgq ow=>?_)⟩
   subst ey
   rw[Out.post_bind]at ky
   have hp4:H4 p=some (.lst (as.map V.ref)):=a4 _ _ hpp
   have hg4:G4 p=none:=by
    cases z3:G4 p with
    | none=>rfl
    | some o=>
     have e3:(ccOf C N' scope fp s H G p).G0 p=none:=S.sub.free hp
     exact absurd (S4.new p e3 (by rw[z3];simp)) hH0
   have hqa:q0∉as:=fun hm=>by
    obtain⟨_,_,us,hu⟩:=ho1.mem hm
    rw[hq]at hu;cases hu
   have ho4:OwnAs C.X.K C.CT (upd H p (.lst [])) G4 H4 xss as:=ho1.go b4 (fun a ha=>let ⟨_,b,vs,c⟩:=ho1.mem ha;keepN n4 b c) fun a _ o e=>a4 a o e
   have ho5:=ho4.app (yss:=[xs']) (bs:=[q0]) ⟨⟨S2.h0none hq,hgq,ow⟩,List.not_mem_nil,trivial⟩ fun a ha hm=>by
    rw[List.mem_singleton.mp hm]at ha;exact hqa ha
   refine⟨as.map V.ref,hp4,?_,hlt,G4,xss++[xs'],as++[q0],(S4.weak (by rw[hl1]) hk1).updM rfl hH0 (fun i d z=>by rw[← hτ]at z;exact Qho z) hp hg4,by rw[Qz,List.map_append];rfl,ho5.go (Same.refl _) (fun a ha=>(ho5.mem ha).2.1) (fun a ha o e=>by rw[Qh (hnp ho5 a ha)];exact e),hg4,?_⟩
   ·cases w:compM (turnC js g cTrue e ς) (xs.drop (i+1)) with
    | stuck=>rw[w]at ky;exact ky.elim
    | exc w'=>rw[w]at ky;exact absurd ky (hx _)
    | ok ys=>
     rw[w]at ky
     rcases QL (show(if fits (xss.map D.lst++((some (D.lst xs'):Option D).toList++ys)).length=true then Out.ok (D.lst (xss.map D.lst++((some (D.lst xs'):Option D).toList++ys))) else .stuck).post _ _ from ky) with⟨hc,_⟩ | ⟨_,k⟩
     ·have hc':=of_decide_eq_true hc
      rw[List.length_append,List.length_append,List.length_map]at hc'
      have:(some (D.lst xs'):Option D).toList.length=1:=rfl
      have hl:=ho1.len
      rw[List.length_map]
      omega
     ·exact k.elim
   ·exact Out.post_mono ky fun ys k=>by
     have e5:(xss++[xs']).map D.lst++ys=xss.map D.lst++((some (D.lst xs'):Option D).toList++ys):=by simp
     rw[e5];exact k
 ·have ei:i=xs.length:=by omega
  subst ei
  rw[List.drop_length]at q'
  refine .inl ⟨dit.stop G' H' S'.g0 S'.sub S'.bs,?_⟩
  have q2:(if fits (xss.map D.lst++[]).length=true then Out.ok (D.lst (xss.map D.lst++[])) else .stuck).post (NK C G H σ ς p Q) C.XD:=q'
  rcases QL q2 with⟨_,k⟩ | ⟨_,k⟩
  ·rw[List.append_nil]at k
   have hHH:Same H H':=fun b o eb=>S'.fr b o (by
    show upd H p (.lst []) b=some o
    rw[Qh (QJ eb hp)];exact eb) (QJ eb hp)
   have hz:∀ b,upd H p (.lst []) b=none->H b=none:=fun b e=>by
    by_cases hb:b=p
    ·subst hb;exact hp
    ·rw[Qh hb]at e;exact e
   have SG:StR C G' H' σ ς:=S.grow hHH S'.g0 S'.sub fun b h1 h2=>hz b (S'.new b h1 h2)
   exact k H' G' as SG hHH S'.g0 ⟨xss,rfl,hp,hg',hp',ho.h0 hz,fun hm=>hnp ho p hm rfl⟩
  ·exact k.elim
end
def SpN(K:W.Frag)(CT:CTab)(m:List D->Out D):Sp:=fun vs H Q _=>∃ ds G0,Same G0 H/\RepL K CT G0 ds vs/\
 (m ds).post (fun d=>∀ v H' G',Same G0 G'->Same H H'->Same G' H'->(∀ b,G0 b=none->G' b≠none->H b=none)->LstO K CT H G' H' d v->Q v H') (fun _=>False)
def DefN(P:Program)(w:World)(K:W.Frag)(mg:Str->Option Value)(base:Heap)(CT:CTab)(x:Str)(k:Nat)(m:List D->Out D):Prop:=
 ∃ f fd ps,FnOk P w K mg base CX0 k f fd ps (SpN K CT m)/\mg x=some (.ref f)/\W.keepIn K (.ref f)=true/\Binds K fd ps []
def DNs(C:Dc)(sts:List Stmt)(T:SD->Out D):Prop:=∃ t,PSs C.X sts t/\∀ G H σ ς W,StR C G H σ ς->(T ς).post (fun d=>∀ v H' G',GH C G' H'->Same G G'->LstO C.X.K C.CT C.X.H₀ G' H' d v->W.rt v H') C.XD->t W σ H
section
variable{C:Dc}{st:Stmt}{rest:List Stmt}{T:SD->Out Fl}{U:SD->Out D}{N':List Str}{js:List (Option Nat)}{scope:Scope}{tg iter elt:Expr}{its:SD->Out (List D)}{g:D->SD->Out SD}{e:SD->Out D}{pos rpos:Pos}
theorem QtQ(h1:DS C st T)(h2:DNs C rest U):DNs C (st::rest) (tSeq T U):=by
 obtain⟨t1,p1,q1⟩:=h1
 obtain⟨t2,p2,q2⟩:=h2
 refine⟨_,QdY p1 p2,fun G H σ ς W S q=>?_⟩
 unfold tSeq at q
 rw[Out.post_bind]at q
 refine q1 G H σ ς _ S (Out.post_mono q fun f k=>?_)
 cases f with
 | nx ς'=>exact fun σ' H' G' S' s'=>q2 G' H' σ' ς' W S' (Out.post_mono (show(U ς').post _ _ from k) fun d kd v H'' G'' gh s'' tu=>kd v H'' G'' gh (s'.trans s'') tu)
 | bk ς'=>exact k.elim
 | ct ς'=>exact k.elim
 | rt b d=>exact k.elim
theorem Qzy(hc:C.X.calm=true)(S:QB N' js scope C.X.env.scope C.X.N)(hi:DIB C tg iter its)(hk:∀ ς,gKeep g (captD js ς))(hne:noExc g)
 (hin:∀ fp s H G p,DG (ccOf C N' scope fp s H G p) tg g/\DN (ccOf C N' scope fp s H G p) elt e)
 (hx:∀ x,¬ C.XD x:=by exact fun _ h=>h) (hs:∀ x,foldedSetIterable iter C.X.env x=pure x:=by intro _;rfl):DNs C [.Return (some (.ListComp elt [⟨tg,iter,[],0⟩] scope pos)) rpos] (eComp js its g cTrue e):=by
 obtain⟨wi,pi,hq⟩:=hi
 refine⟨_,QnZ (QmN (Qzo hc S pi hs)),fun G H σ ς W S k=>?_⟩
 unfold eComp at k
 rw[Out.post_bind]at k
 refine hq G H σ ς _ S (Out.post_mono k fun xs k J H1 G1 S1 a1 b1 dit p hp fp s=>?_)
 refine QEL S1 hp dit hx (hk ς) hne (hin fp s H1 G1 p) (Out.post_mono k fun d kd H' G' as S' h1 g1 l=>?_)
 obtain⟨xss,ed,h0,hg,hpt,ho,np⟩:=l
 exact kd _ H' G' S'.toGH (b1.trans g1) ⟨p,as,rfl,xss,ed,S1.h0none hp,hg,hpt,ho.h0 fun a h=>S1.h0none h,np⟩
end
theorem fnN{P:Program}{w:World}{K:W.Frag}{mg:Str->Option Value}{base:Heap}{CT:CTab}{x qual:Str}{st:Stmt}{f:Addr}{fd:FuncData}{dV:Value}{N ps:List Str}{k:Nat}{T:SD->Out D}
 (F:FunV K x qual st f fd dV) (S:Qr N ps (Qb st))
 (hb:∀(cdv:Value)(A:Around)(outer:List Env)(s:Shared)(H:Hp)(E:XK)(G:Hp),Room k (A.deeper (envOfC qual (Qb st) s.heap.objs.size f cdv))->DNs (dcOf P w K mg base CT N qual (Qb st) f cdv A outer s H E G) (Qm st) T):
 FnOk P w K mg base CX0 (k+1) f fd ps (SpN K CT (bodyT ps.length N.length T)):=by
 obtain⟨oc,od,kV,doc,pm,an,cdv,ct,osl,rfl,lk,hcd⟩:=F.ex
 have hpl:ps.length<=N.length:=by have:=congrArg List.length S.pre;rw[List.length_take]at this;omega
 have len:∀ vs H Q E,SpN K CT (bodyT ps.length N.length T) vs H Q E->vs.length=ps.length:=by
  intro vs H Q E ⟨ds,G0,sub,r,q⟩
  unfold bodyT at q
  by_cases hl:ds.length=ps.length
  ·rw[← r.length];exact hl
  ·rw[if_neg hl]at q;exact q.elim
 refine fn_of lk hcd S len fun A outer s H vs Q E hr hsp=>?_
 have hlen:=len vs H Q E hsp
 obtain⟨ds,G0,sub,r,q⟩:=hsp
 obtain⟨t,p1,q1⟩:=hb cdv A outer s H E G0 hr
 have hl:ds.length=ps.length:=by rw[r.length];exact hlen
 refine⟨t,p1.nox,?_⟩
 unfold bodyT at q
 rw[if_pos hl]at q
 have S0:StR (dcOf P w K mg base CT N qual (Qb st) f cdv A outer s H E G0) G0 H (L2.start N vs) (ds.map (fun d=>some (.k,d))++List.replicate (N.length - ps.length) none):={
  sub:=sub
  g0:=Same.refl _
  new:=fun b h1 h2=>absurd h1 h2
  fr:=fun b o e _=>e
  dom:=fun b e=>e
  bs:=Same.refl _
  bh:=fun b e=>e
  len:=by unfold L2.start;simp;omega
  fz:=fun i d e=>by
   obtain⟨d',e1,e2⟩:=QaL e
   cases e2
   obtain⟨v,e3,rv⟩:=r.get e1
   exact⟨v,Qge e3,rv⟩
  ow:=fun i d e=>by obtain⟨d',e1,e2⟩:=QaL e;cases e2
  ln:=fun i d e=>by obtain⟨d',e1,e2⟩:=QaL e;cases e2
  inj:=fun i j d e p _ h=>by obtain⟨d',e1,e2⟩:=QaL h;cases e2
  sf:=fun i d e=>by obtain⟨d',e1,e2⟩:=QaL e;cases e2
  su:=fun i j d e p _ h=>by obtain⟨d',e1,e2⟩:=QaL h;cases e2 }
 exact q1 G0 H (L2.start N vs) _ _ S0 (Out.post_mono q fun d kk v H' G' gh s' tu=>kk v H' G' s' (fun b o e=>gh.fr b o e id) gh.sub gh.new tu)
section
variable{C:Dc}{fn:Str}{k:Nat}{m:List D->Out D}{e:Expr}{es:List Expr}{A:SD->Out (List D)}{p pos:Pos}
theorem de_fN(h:DefN C.X.prog C.X.w C.X.K C.X.mg C.X.base C.CT fn k m)(hr:Room k C.X.A)(ha:DA C (e::es) A)(hg:Gl C.X fn)(hx:∀ x,¬ C.XD x:=by exact fun _ h=>h)
 (hdb:(fn == ("__debug__":Str))=false:=by decide) (he:starEach (e::es) C.X.env=(false,eval e C.X.env)::starEach es C.X.env:=by rfl) (hpl:(backTo pos (starEach es C.X.env)).any (·.1)=false:=by rfl):
 DE C (.Call (.Name fn p) (e::es) [] pos) (eA (fun xs=>m (xs++[])) A):=by
 obtain⟨f,fd,ps,F,hm,hk,hb⟩:=h
 obtain⟨t,p1,q1⟩:=ha
 refine⟨_,Qg7 F hr hg hm hk hb .nil pass0 p1 hdb he hpl,fun G H σ ς Q S q=>?_⟩
 unfold eA at q
 rw[Out.post_bind]at q
 refine q1 G H σ ς _ S (Out.post_mono q fun xs kk vs H1 G1 S1 a1 b1 r1=>⟨xs++[],G1,S1.sub,r1.append rfl,?_⟩)
 cases z:m (xs++[]) with
 | stuck=>rw[z]at kk;exact kk.elim
 | exc y=>rw[z]at kk;exact absurd kk (hx y)
 | ok d=>
  rw[z]at kk
  intro v H' G' g1 h1 s1 n1 ⟨p,as,ev,l⟩
  subst ev
  obtain⟨G3,S3,g3,_,r3⟩:=l.known (S1.grow h1 g1 s1 n1) (fun a h=>S1.h0none h) fun a h i d hd hσ=>by
   obtain⟨o,ho⟩:=S1.own_ne hd hσ
   rw[h]at ho;cases ho
  exact kk _ _ _ S3 (a1.trans h1) (b1.trans (g1.trans g3)) r3
end
section
variable{C:Dc}{i j r:Nat}{x y z:Str}{p2 p3 p4 p5 p6:Pos}{body:List Stmt}{tb:TS}
theorem QBm(hN:C.X.N.Nodup)(hr:C.X.N[r]?=some z)(hz:Loc C.X.env.scope z)(hfz:C.X.fn z=true∨C.X.env.scope.names.lookup z=some .local)(hcalm:C.X.calm=true)(hp:PassesOwn (model C.X.prog C.X.w) C.X.A C.X.env C.X.xe)
 (hx:PE C.X (.Name x p4) (tVar i)) (hy:PE C.X (.Name y p5) (tVar j)) (hb:PSs C.X body tb)
 (hq:∀(W:Ends) σ H (a:Addr) (vs:List V),σ[r]?=some (some (.ref a))->H a=some (.lst vs)->vs.length<100000->(∀ H1 u,Same H H1->W.nx σ (upd H1 a (.lst (vs++[u]))))->tb W σ H)
 (hs:∀ z,foldedSetIterable (.BinOp (.Name x p4) .Add (.Name y p5) p6) C.X.env z=pure z):
 ∃ t,PS C.X (.For (.Name z p3) (.BinOp (.Name x p4) .Add (.Name y p5) p6) body [] p2) t/\
  ∀ G H σ ς (W:Ends) (p q:Addr) (as bs:List Addr),StR C G H σ ς->ς[r]?=some none->r<σ.length->σ[i]?=some (some (.ref p))->σ[j]?=some (some (.ref q))->H p=some (.lst (as.map V.ref))->H q=some (.lst (bs.map V.ref))->i≠r->(as++bs).length<=100000->
   (∀ a∈as++bs,C.X.H₀ a=none/\G a=none/\∀(k:Nat) d,ς[k]?=some (some (.o,d))->σ[k]?≠some (some (.ref a)))->(∀ a∈as++bs,∃ vs:List V,H a=some (.lst vs)/\vs.length<100000)->(as++bs).Nodup->
   (∀ σ' H',StR C G H' σ' ς->σ'[i]?=σ[i]?->(∀(k:Nat) d,ς[k]?=some (some (.o,d))->σ'[k]?=σ[k]?)->(∀ b o,b∉as++bs->H b=some o->H' b=some o)->W.nx σ' H')->t W σ H:=by
 refine⟨_,QB5 hp hcalm (Qm9 (pe_op Qzj hx hy)) (Qn5 hN hr hz hfz) hb hs,?_⟩
 intro G H σ ς W p q as bs S hςr hrl hσi hσj hpt hqt hir hlen hfr hls nd hnx
 refine⟨_,hσi,_,hσj,p,q,_,_,rfl,rfl,SqL.of hpt,SqL.of hqt,?_,fun l hl=>⟨l,rfl,⟨_,SqL.of Qz⟩,?_⟩⟩
 ·rw[← List.length_append, ← List.map_append,List.length_map]
  exact Nat.le_trans hlen (by decide)
 rw[← List.map_append]
 generalize as++bs=cs at *
 have hlc:∀ a∈cs,a≠l:=fun a ha e=>by
  obtain⟨vs,hv,_⟩:=hls a ha
  rw[e,hl]at hv;cases hv
 refine⟨fun k mm σ' H'=>mm=cs.length - k/\k<=cs.length/\StR C G H' σ' ς/\(∀ n,n≠r->σ'[n]?=σ[n]?)/\σ'.length=σ.length/\H' l=some (.lst (cs.map V.ref))/\(∀ b o,b∉cs->H b=some o->H' b=some o)/\∀ a∈cs.drop k,∃ vs:List V,H' a=some (.lst vs)/\vs.length<100000,
  ⟨cs.length,by simp,Nat.zero_le _,S.allocO hl,fun _ _=>rfl,rfl,Qz,fun b o _ e=>by rw[Qh (QJ e hl)];exact e,fun a ha=>by
   obtain⟨vs,hv,hvl⟩:=hls a ha
   exact⟨vs,by rw[Qh (hlc a ha)];exact hv,hvl⟩⟩,?_⟩
 rintro k mm σ' H' ⟨rfl,hle,S',hσ,hln,hpt',hkp,hls'⟩
 by_cases hk:k<cs.length
 ·have hat:cs[k]?=some cs[k]:=List.getElem?_eq_getElem hk
  have hat':(cs.map V.ref)[k]?=some (.ref cs[k]):=by rw[List.getElem?_map,hat];rfl
  have hdr:cs.drop k=cs[k]::cs.drop (k+1):=List.drop_eq_getElem_cons hk
  have hmem:cs[k]∈cs:=List.getElem_mem hk
  rw[hdr]at hls'
  obtain⟨vs,hv,hvl⟩:=hls' cs[k] (List.mem_cons_self ..)
  obtain⟨h0,hg,hn⟩:=hfr cs[k] hmem
  have hna:cs[k]∉cs.drop (k+1):=by
   have:=List.Nodup.sublist (List.drop_sublist k cs) nd
   rw[hdr]at this
   exact(List.nodup_cons.mp this).1
  have hal:=hlc cs[k] hmem
  generalize cs[k]=a at *
  refine .inr ⟨⟨_,_,SqL.of hpt',hat'⟩,fun σ2 H2=>cs.length - (k+1)=cs.length - (k+1)/\k+1<=cs.length/\StR C G H2 σ2 ς/\(∀ n,n≠r->σ2[n]?=σ[n]?)/\σ2.length=σ.length/\H2 l=some (.lst (cs.map V.ref))/\(∀ b o,b∉cs->H b=some o->H2 b=some o)/\∀ a∈cs.drop (k+1),∃ vs:List V,H2 a=some (.lst vs)/\vs.length<100000,fun σ2 H2 h=>⟨_,by omega,h⟩,?_⟩
  rintro w H'' ⟨rfl,hw⟩
  have hw:=hw _ (SqL.of hpt')
  rw[hat']at hw
  cases hw
  have hjs:(σ'.set r (some (V.ref a)))[r]?=some (some (.ref a)):=by rw[List.getElem?_set];simp;omega
  refine hq _ _ _ a vs hjs hv hvl fun H1 u h1=>⟨rfl,hk,?_,?_,?_,?_,?_,?_⟩
  ·have S2:=S'.hide r (some (V.ref a))
   rw[QEN hςr]at S2
   refine(S2.grow h1 (Same.refl G) (S2.sub.trans h1) fun b g n=>absurd g n).touch (h1 _ _ hv) hg h0 fun n d hd=>?_
   have hnj:n≠r:=by rintro rfl;rw[hςr]at hd;cases hd
   rw[List.getElem?_set_ne (Ne.symm hnj),hσ n hnj]
   exact hn n d hd
  ·intro n hnj
   rw[List.getElem?_set_ne (Ne.symm hnj)]
   exact hσ n hnj
  ·rw[List.length_set];exact hln
  ·rw[Qh (Ne.symm hal)];exact h1 _ _ hpt'
  ·intro b o hb' e
   rw[Qh (by rintro rfl;exact hb' hmem)]
   exact h1 _ _ (hkp b o hb' e)
  ·intro b hb'
   obtain⟨us,hu,hul⟩:=hls' b (List.mem_cons_of_mem _ hb')
   exact⟨us,by rw[Qh (by rintro rfl;exact hna hb')];exact h1 _ _ hu,hul⟩
 ·have e:k=cs.length:=by omega
  exact .inl ⟨⟨_,SqL.of hpt',by rw[List.length_map];omega⟩,hnx σ' H' S' (hσ i hir) (fun n d hd=>hσ n (by rintro rfl;rw[hςr]at hd;cases hd)) hkp⟩
end
section
variable{C:Dc}{r:Nat}{z:Str}{p5 p6 p7 p8 p9 p10 p11:Pos}{c1 c2:Nat}{i1 i2:Int}{x1:_}
def tApp2(K:W.Frag)(r:Nat)(a b:Int):TS:=L2.tDrop (tBM K "list" Qzi (tVar r) (tCons (tTup (tCons (tC (.int a)) (tCons (tC (.int b)) tNil))) tNil))
theorem QFJ{K:W.Frag}{a b:Int}(W:Ends)(σ:St)(H:Hp)(q:Addr)(vs:List V)(hσ:σ[r]?=some (some (.ref q)))(hv:H q=some (.lst vs))(hl:vs.length<100000)(k:∀ H1 u,Same H H1->W.nx σ (upd H1 q (.lst (vs++[u])))):tApp2 K r a b W σ H:=
 ⟨_,hσ,.inl ⟨rfl,vs,SqL.of hv⟩,by show 2<=sizeLine;decide,fun p hp=>⟨q,vs,.ref p,rfl,rfl,by rw[Qh (QJ hv hp)];exact hv,Nat.lt_of_lt_of_le hl (by decide),k _ _ (Qt hp)⟩⟩
theorem QC3(hN:C.X.N[r]?=some z:=by rfl)(hv:Vis C.X.env.scope z:=by first | exact Or.inl rfl | exact Or.inr (oi rfl) | exact Or.inr (Or.inr rfl))
 (hd:(z == ("__debug__":Str))=false:=by decide) (hcd:(z == ("__classdict__":Str))=false:=by decide)
 (hbase:attributeBase (.Name z p6) "append" C.X.env (eval (.Name z p6) C.X.env)=eval (.Name z p6) C.X.env:=by rfl)
 (hfew:((backTo p9 (starEach (.Tuple [.Constant (.int i1) c1 p10,.Constant (.int i2) c2 p11] x1 p8::[]) C.X.env)).all (fun x => !x.1)&&(backToKw p9 (keywordEach [] C.X.env)).all (fun x=>x.1.isSome)
  && decide ((Expr.Tuple [.Constant (.int i1) c1 p10,.Constant (.int i2) c2 p11] x1 p8::[]).length+([]:List Keyword).length+(if ([]:List Keyword).isEmpty then 0 else 1)<30))=true:=by rfl)
 (hline:(p7.endLine == p9.line)=true:=by rfl) (hs:starEach (.Tuple [.Constant (.int i1) c1 p10,.Constant (.int i2) c2 p11] x1 p8::[]) C.X.env=(false,eval (.Tuple [.Constant (.int i1) c1 p10,.Constant (.int i2) c2 p11] x1 p8) C.X.env)::starEach [] C.X.env:=by rfl)
 (hs1:starEach [.Constant (.int i1) c1 p10,.Constant (.int i2) c2 p11] C.X.env=(false,eval (.Constant (.int i1) c1 p10) C.X.env)::starEach [.Constant (.int i2) c2 p11] C.X.env:=by rfl)
 (hs2:starEach [.Constant (.int i2) c2 p11] C.X.env=(false,eval (.Constant (.int i2) c2 p11) C.X.env)::starEach [] C.X.env:=by rfl)
 (hsw:swapsWith (.Call (.Attribute (.Name z p6) "append" p7) [.Tuple [.Constant (.int i1) c1 p10,.Constant (.int i2) c2 p11] x1 p8] [] p9) none p5.line C.X.env=pure false:=by rfl):
 PSs C.X [.Expr (.Call (.Attribute (.Name z p6) "append" p7) [.Tuple [.Constant (.int i1) c1 p10,.Constant (.int i2) c2 p11] x1 p8] [] p9) p5] (tApp2 C.X.K r i1 i2):=
 QnZ (QjU (pe_bm PySem.F.plainAttrs_list PySem.F.slot_list_append PySem.F.type_list_append Qjt (QbM (i:=r) hN hv hd hcd) (Qax (Qsf (Qax Qsp (Qax Qsp QbT hs2) hs1)) QbT hs) hbase hfew hline hs rfl) hsw)
theorem QAv(hN:C.X.N[r]?=some z:=by rfl)(hv:Vis C.X.env.scope z:=by first | exact Or.inl rfl | exact Or.inr (oi rfl) | exact Or.inr (Or.inr rfl))
 (hd:(z == ("__debug__":Str))=false:=by decide) (hcd:(z == ("__classdict__":Str))=false:=by decide)
 (hbase:attributeBase (.Name z p6) "clear" C.X.env (eval (.Name z p6) C.X.env)=eval (.Name z p6) C.X.env:=by rfl) (hline:(p7.endLine == p9.line)=true:=by rfl)
 (hsw:swapsWith (.Call (.Attribute (.Name z p6) "clear" p7) [] [] p9) none p5.line C.X.env=pure false:=by rfl):
 PS C.X (.Expr (.Call (.Attribute (.Name z p6) "clear" p7) [] [] p9) p5) (L2.tDrop (tBM0 C.X.K "list" Qt4 (tVar r))):=
 QjU (QHn PySem.F.plainAttrs_list PySem.F.slot_list_clear PySem.F.type_list_clear QED (QbM (i:=r) hN hv hd hcd) hbase hline) hsw
end
def Qg8(i j r:Nat)(m m':List D->Out D)(A A':SD->Out (List D))(TC:SD->Out Bool)(R U:SD->Out Fl):SD->Out Fl:=fun ς=>A ς>>=fun ds=>m ds>>=fun d=>A' (ς.set i none)>>=fun ds'=>m' ds'>>=fun d'=>match d,d' with
 | .lst es,.lst es'=>match lstsD es,lstsD es' with
  | some xss,some yss=>if (Qa8 xss&&Qa8 yss&&decide (i<ς.length)&&decide (j<ς.length)&&decide (r<ς.length)&&decide (xss.length+yss.length<=100000))=true then
   TC ((ς.set i (some (.k,.lst es))).set j (some (.k,.lst es')))>>=fun b=>if b=true then R ((ς.set i (some (.k,.lst es))).set j (some (.k,.lst es')))>>=onlyR else U (((ς.set i none).set j none).set r none) else .stuck
  | _,_=>.stuck
 | _,_=>.stuck
section
variable{C:Dc}{i j r:Nat}{x y fn gn:Str}{k k':Nat}{m m':List D->Out D}{e e':Expr}{es es':List Expr}{A A':SD->Out (List D)}{tc:Expr}{TC:SD->Out Bool}{ra:List Stmt}{R U:SD->Out Fl}{rest:List Stmt}{sf cl:Stmt}{p0 p1 p2 p3 p4 q1 q2 q3 q4:Pos}
theorem QzN(hij:i≠j)(hir:i≠r)(hjr:j≠r)(h:DefN C.X.prog C.X.w C.X.K C.X.mg C.X.base C.CT fn k m)(hr:Room k C.X.A)(ha:DAV C (e::es) A)(hg:Gl C.X fn)(h':DefN C.X.prog C.X.w C.X.K C.X.mg C.X.base C.CT gn k' m')(hr':Room k' C.X.A)(ha':DAV C (e'::es') A')(hg':Gl C.X gn)
 (hN:C.X.N.Nodup) (hi:C.X.N[i]?=some x) (hx:Loc C.X.env.scope x) (hj:C.X.N[j]?=some y) (hy:Loc C.X.env.scope y)
 (hc:DT C tc TC) (hra:DSs C ra R)
 (hfor:∃ t,PS C.X sf t/\∀ G H σ ς (W:Ends) (p q:Addr) (as bs:List Addr),StR C G H σ ς->ς[r]?=some none->r<σ.length->σ[i]?=some (some (.ref p))->σ[j]?=some (some (.ref q))->H p=some (.lst (as.map V.ref))->H q=some (.lst (bs.map V.ref))->i≠r->(as++bs).length<=100000->
  (∀ a∈as++bs,C.X.H₀ a=none/\G a=none/\∀(k:Nat) d,ς[k]?=some (some (.o,d))->σ[k]?≠some (some (.ref a)))->(∀ a∈as++bs,∃ vs:List V,H a=some (.lst vs)/\vs.length<100000)->(as++bs).Nodup->
  (∀ σ' H',StR C G H' σ' ς->σ'[i]?=σ[i]?->(∀(k:Nat) d,ς[k]?=some (some (.o,d))->σ'[k]?=σ[k]?)->(∀ b o,b∉as++bs->H b=some o->H' b=some o)->W.nx σ' H')->t W σ H)
 (hcl:PS C.X cl (L2.tDrop (tBM0 C.X.K "list" Qt4 (tVar i))))
 (hrest:DSs C rest U) (hxd:∀ x,¬ C.XD x:=by exact fun _ h=>h)
 (hs:swapsWith (.Call (.Name fn p3) (e::es) [] p4) (some (.Name x p2)) p1.line C.X.env=pure false:=by rfl)
 (hf:C.X.fn x=true∨C.X.env.scope.names.lookup x=some .local:=by first | exact .inl rfl | exact .inr rfl | assumption)
 (hdb:(fn == ("__debug__":Str))=false:=by decide) (he:starEach (e::es) C.X.env=(false,eval e C.X.env)::starEach es C.X.env:=by rfl) (hpl:(backTo p4 (starEach es C.X.env)).any (·.1)=false:=by rfl)
 (hs':swapsWith (.Call (.Name gn q3) (e'::es') [] q4) (some (.Name y q2)) q1.line C.X.env=pure false:=by rfl)
 (hf':C.X.fn y=true∨C.X.env.scope.names.lookup y=some .local:=by first | exact .inl rfl | exact .inr rfl | assumption)
 (hdb':(gn == ("__debug__":Str))=false:=by decide) (he':starEach (e'::es') C.X.env=(false,eval e' C.X.env)::starEach es' C.X.env:=by rfl) (hpl':(backTo q4 (starEach es' C.X.env)).any (·.1)=false:=by rfl):
 DSs C (.Assign [.Name x p2] (.Call (.Name fn p3) (e::es) [] p4) p1::.Assign [.Name y q2] (.Call (.Name gn q3) (e'::es') [] q4) q1::.If tc ra [] p0::sf::cl::rest) (Qg8 i j r m m' A A' TC R U):=by
 obtain⟨f,fd,pn,F,hm,hk,hb⟩:=h
 obtain⟨f',fd',pn',F',hm',hk',hb'⟩:=h'
 obtain⟨ta,pa,qa⟩:=ha
 obtain⟨ta',pa',qa'⟩:=ha'
 obtain⟨t2,pt,qt⟩:=hc
 obtain⟨t3,pr,qr⟩:=hra
 obtain⟨t4,pf,qf⟩:=hfor
 obtain⟨t5,pu,qu⟩:=hrest
 refine⟨_,QdY (QmJ hN hi hx (Qg7 F hr hg hm hk hb .nil pass0 pa hdb he hpl) hs hf) (QdY (QmJ hN hj hy (Qg7 F' hr' hg' hm' hk' hb' .nil pass0 pa' hdb' he' hpl') hs' hf') (QdY (ps_if pt pr Qzf) (QdY pf (QdY hcl pu)))),fun G H σ ς W S q=>?_⟩
 unfold Qg8 at q
 rw[Out.post_bind]at q
 refine qa G H σ ς _ S (Out.post_mono q fun ds kk vs r1=>⟨ds,G,S.sub,by rw[List.append_nil];exact r1,?_⟩)
 rw[Out.post_bind]at kk
 cases zm:m ds with
 | stuck=>rw[zm]at kk;exact kk.elim
 | exc y=>rw[zm]at kk;exact absurd kk (hxd y)
 | ok d=>
  rw[zm]at kk
  intro v H1 G1 g1 h1 s1 n1 ⟨p,as,ev,l1⟩
  subst ev
  have S1:StR C G1 H1 σ ς:=S.grow h1 g1 s1 n1
  have kk:(A' (ς.set i none)>>=fun ds'=>m' ds'>>=fun d'=>match d,d' with
   | .lst es,.lst es'=>match lstsD es,lstsD es' with
    | some xss,some yss=>if (Qa8 xss&&Qa8 yss&&decide (i<ς.length)&&decide (j<ς.length)&&decide (r<ς.length)&&decide (xss.length+yss.length<=100000))=true then
     TC ((ς.set i (some (.k,.lst es))).set j (some (.k,.lst es')))>>=fun b=>if b=true then R ((ς.set i (some (.k,.lst es))).set j (some (.k,.lst es')))>>=onlyR else U (((ς.set i none).set j none).set r none) else .stuck
    | _,_=>.stuck
   | _,_=>.stuck).post (FlK C G W) C.XD:=kk
  rw[Out.post_bind]at kk
  refine qa' G1 H1 _ _ _ (S1.hide i (some (.ref p))) (Out.post_mono kk fun ds' kk vs' r2=>⟨ds',G1,S1.sub,by rw[List.append_nil];exact r2,?_⟩)
  rw[Out.post_bind]at kk
  cases zm':m' ds' with
  | stuck=>rw[zm']at kk;exact kk.elim
  | exc y=>rw[zm']at kk;exact absurd kk (hxd y)
  | ok d'=>
   rw[zm']at kk
   intro v' H2 G2 g2 h2 s2 n2 ⟨q,bs,ev,l2⟩
   subst ev
   have S2:StR C G2 H2 σ ς:=S1.grow h2 g2 s2 n2
   have l1':LstA C.X.K C.CT H G2 H2 d p as:=l1.go g2 (fun a ha=>let ⟨_,b,vs,c⟩:=l1.mem a ha;keepN n2 b c) fun a _ o e=>h2 a o e
   have hne:∀ a,H a=none->∀(n:Nat) d,ς[n]?=some (some (.o,d))->σ[n]?≠some (some (.ref a)):=fun a ha n d hd hσ=>by
    obtain⟨o,ho⟩:=S.own_ne hd hσ
    rw[ha]at ho;cases ho
   have hdj:∀ a∈p::as,a∉q::bs:=fun a ha hb=>by
    obtain⟨_,_,vs,hv⟩:=l1.mem a ha
    rw[(l2.mem a hb).1]at hv;cases hv
   obtain⟨G3,S3,g3,k3,r3⟩:=l1'.known S2 (fun a h=>S.h0none h) hne
   have l2':LstA C.X.K C.CT H1 G3 H2 d' q bs:=l2.go g3 (fun a ha=>by rw[k3 a fun hm=>hdj a hm ha];exact(l2.mem a ha).2.1) fun a _ o e=>e
   obtain⟨G4,S4,g4,k4,r4⟩:=l2'.known S3 (fun a h=>S1.h0none h) fun a ha=>hne a (h1.free ha)
   obtain⟨xss,ed,hp0,hpg,hpt,ow,np⟩:=l1'
   obtain⟨yss,ed',hq0,hqg,hqt,ow',nq⟩:=l2
   subst ed
   subst ed'
   have S5:=(S4.set i (Rep.mono g4 _ _ r3)).set j r4
   have kk:(match lstsD (xss.map D.lst),lstsD (yss.map D.lst) with
    | some xss',some yss'=>if (Qa8 xss'&&Qa8 yss'&&decide (i<ς.length)&&decide (j<ς.length)&&decide (r<ς.length)&&decide (xss'.length+yss'.length<=100000))=true then
     TC ((ς.set i (some (.k,.lst (xss.map D.lst)))).set j (some (.k,.lst (yss.map D.lst))))>>=fun b=>if b=true then R ((ς.set i (some (.k,.lst (xss.map D.lst)))).set j (some (.k,.lst (yss.map D.lst))))>>=onlyR else U (((ς.set i none).set j none).set r none) else Out.stuck
    | _,_=>Out.stuck).post (FlK C G W) C.XD:=kk
   rw[QeO,QeO]at kk
   rcases QL kk with⟨hcc,kk⟩ | ⟨_,kk⟩
   case inr=>exact kk.elim
   rw[Bool.and_eq_true,Bool.and_eq_true,Bool.and_eq_true,Bool.and_eq_true,Bool.and_eq_true]at hcc
   obtain⟨⟨⟨⟨⟨hsx,hsy⟩,hil⟩,hjl⟩,hrl⟩,hll⟩:=hcc
   have hil:=of_decide_eq_true hil
   have hjl:=of_decide_eq_true hjl
   have hrl:=of_decide_eq_true hrl
   have hll:=of_decide_eq_true hll
   have hln:=S.len
   rw[Out.post_bind]at kk
   refine qt _ H2 _ _ _ S5 (Out.post_mono kk fun b kb H3 G6 S6 a6 b6=>?_)
   have gg:Same G G6:=(g1.trans g2).trans (g3.trans (g4.trans b6))
   cases b with
   | true=>
    refine iteT (qr G6 H3 _ _ _ S6 ?_)
    have kb:(R ((ς.set i (some (.k,.lst (xss.map D.lst)))).set j (some (.k,.lst (yss.map D.lst))))>>=onlyR).post (FlK C G W) C.XD:=kb
    rw[Out.post_bind]at kb
    refine Out.post_mono kb fun fl kf=>?_
    cases fl with
    | nx ς'=>exact kf.elim
    | bk ς'=>exact kf.elim
    | ct ς'=>exact kf.elim
    | rt b d=>exact FlK.later (show FlK C G W (.rt b d) from kf) gg
   | false=>
    refine iteF ?_
    have kb:(U (((ς.set i none).set j none).set r none)).post (FlK C G W) C.XD:=kb
    have S7:StR C G2 H3 ((σ.set i (some (.ref p))).set j (some (.ref q))) (((ς.set i none).set j none).set r none):=(((S2.hide i (some (.ref p))).hide j (some (.ref q))).grow a6 (Same.refl G2) (S2.sub.trans a6) fun b g n=>absurd g n).forget r
    have hσi:((σ.set i (some (V.ref p))).set j (some (.ref q)))[i]?=some (some (.ref p)):=by
     rw[List.getElem?_set_ne (Ne.symm hij),List.getElem?_set]
     simp
     omega
    have hno:∀ a,H a=none->∀(n:Nat) d,(((ς.set i none).set j none).set r none)[n]?=some (some (.o,d))->((σ.set i (some (V.ref p))).set j (some (.ref q)))[n]?≠some (some (.ref a)):=fun a ha n d hd=>by
     rcases Qp hd with⟨rfl,h2,l⟩ | ⟨nr,h2⟩
     ·cases h2
     ·rcases Qp h2 with⟨rfl,h3,l⟩ | ⟨nj,h3⟩
      ·cases h3
      ·rcases Qp h3 with⟨rfl,h4,l⟩ | ⟨ni,h4⟩
       ·cases h4
       ·rw[Qk nj,Qk ni]
        exact hne a ha n d h4
    have hff:∀ a∈as++bs,H a=none/\G2 a=none/\∃ vs:List V,H3 a=some (.lst vs)/\vs.length<100000:=fun a ha=>by
     rcases List.mem_append.mp ha with ha | ha
     ·obtain⟨us,hu,hul⟩:=OwnAs.short hsx ow ha
      exact⟨(ow.mem ha).1,(ow.mem ha).2.1,us,a6 _ _ hu,hul⟩
     ·obtain⟨us,hu,hul⟩:=OwnAs.short hsy ow' ha
      exact⟨h1.free (ow'.mem ha).1,(ow'.mem ha).2.1,us,a6 _ _ hu,hul⟩
    have hpn:p∉as++bs:=fun hm=>by
     rcases List.mem_append.mp hm with hm | hm
     ·exact np hm
     ·exact hdj p (List.mem_cons_self ..) (List.mem_cons_of_mem _ hm)
    refine qf G2 H3 _ _ _ p q as bs S7 ?_ ?_ hσi ?_ (a6 _ _ hpt) (a6 _ _ hqt) hir ?_ (fun a ha=>⟨S.h0none (hff a ha).1,(hff a ha).2.1,hno a (hff a ha).1⟩) (fun a ha=>(hff a ha).2.2) ?_ (fun σ' H' S' hi' how hkp=>?_)
    ·rw[List.getElem?_set]
     simp
     omega
    ·rw[List.length_set,List.length_set];omega
    ·rw[List.getElem?_set]
     simp
     omega
    ·rw[List.length_append,ow.len,ow'.len];exact hll
    ·exact List.nodup_append.mpr ⟨ow.nodup,ow'.nodup,fun a ha b hb e=>by subst e;exact hdj a (List.mem_cons_of_mem _ ha) (List.mem_cons_of_mem _ hb)⟩
    ·have hpH:H' p=some (.lst (as.map V.ref)):=hkp p _ hpn (a6 _ _ hpt)
     refine⟨_,hi'.trans hσi,.inl ⟨rfl,_,SqL.of hpH⟩,p,_,rfl,rfl,hpH,?_⟩
     refine qu G2 _ σ' _ W (S'.touch hpH hpg (S.h0none hp0) fun n d hd=>?_) (Out.post_mono kb fun f k=>FlK.later k (g1.trans g2))
     rw[how n d hd]
     exact hno p hp0 n d hd
end
end DL
namespace DL
open PySem PySem.Spec PyProof.Rows L2
theorem Q5{i j:Int}(h:0<j):dMod (.int i) (.int j)=.ok (.int (i % j)):=by
 show(if decide (j≠0)=true then Out.ok (D.int (i.fmod j)) else Out.stuck)=_
 rw[if_pos (decide_eq_true (by omega)),Int.fmod_eq_emod_of_nonneg i (by omega)]
theorem QG0{j:Int}{n:Nat}(h:j.natAbs<2 ^ n)(hn:n<=9000):big j=true:=decide_eq_true (Nat.lt_of_lt_of_le h (Nat.pow_le_pow_right (by decide) hn))
theorem QkW{i j:Int}(h:j≠0)(hb:big j=true):dFdiv (.int i) (.int j)=.ok (.int (i.fdiv j)):=by
 show(if (decide (j≠0)&&big j)=true then Out.ok (D.int (i.fdiv j)) else Out.stuck)=_
 rw[if_pos (by rw[hb,decide_eq_true h];rfl)]
theorem Qcq{i j:Int}(h:0<j)(hb:big j=true):dFdiv (.int i) (.int j)=.ok (.int (i / j)):=by
 rw[QkW (by omega) hb,Int.fdiv_eq_ediv_of_nonneg i (by omega)]
theorem Qa9{i:Int}{n:Nat}(h:i.natAbs<2 ^ n):bitsI i<=n:=PySem.intBits_le_iff.mpr h
theorem QzD{i:Int}{n:Nat}(h:bitsI i<=n):i.natAbs<2 ^ n:=PySem.intBits_le_iff.mp h
theorem QFY{i j:Int}(h:bitsI i+bitsI j<=134217728):dMul (.int i) (.int j)=.ok (.int (i * j)):=by
 show(if decide (bitsI i+bitsI j<=134217728)=true then Out.ok (D.int (i * j)) else Out.stuck)=_
 rw[if_pos (decide_eq_true h)]
theorem Qfu{i j:Int}{m n:Nat}(hi:bitsI i<=m)(hj:bitsI j<=n)(h:m+n<=134217728):dMul (.int i) (.int j)=.ok (.int (i * j)):=QFY (by omega)
theorem Q7(i j:Int):dAdd (.int i) (.int j)=.ok (.int (i+j)):=rfl
theorem Qak(i j:Int):dSub (.int i) (.int j)=.ok (.int (i - j)):=rfl
theorem Qan(i:Int):dNeg (.int i)=.ok (.int (-i)):=rfl
theorem Qaq(i:Int):dAbs (.int i)=.ok (.int (i.natAbs:Int)):=by
 show Out.ok (D.int (if i<0 then -i else i))=_
 congr 2;split<;>omega
theorem QaT(i j:Int):dLt (.int i) (.int j)=.ok (.bl (decide (i<j))):=rfl
theorem Qat(i j:Int):dLe (.int i) (.int j)=.ok (.bl (decide (i<=j))):=rfl
theorem Qay(i j:Int):dGt (.int i) (.int j)=.ok (.bl (decide (j<i))):=rfl
theorem QaU(i j:Int):dGe (.int i) (.int j)=.ok (.bl (decide (j<=i))):=rfl
mutual
def layD:D->Bool
 | .non=>true
 | .bl _=>true
 | .int _=>true
 | .str x=>PyData.strOk x
 | .lst xs=>layDs xs
 | .tup xs=>layDs xs
 | _=>false
def layDs:List D->Bool
 | []=>true
 | x::xs=>layD x&&layDs xs
end
mutual
def dep:D->Nat
 | .lst xs=>deps xs+1
 | .tup xs=>deps xs+1
 | _=>0
def deps:List D->Nat
 | []=>0
 | x::xs=>max (dep x) (deps xs)
end
mutual
theorem QDJ:∀ d:D,layD d=true->d.py.canLay0=true
 | .non,_=>rfl
 | .bl _,_=>rfl
 | .int _,_=>rfl
 | .str x,h=>h
 | .lst xs,h=>Qov xs h
 | .tup xs,h=>Qov xs h
theorem Qov:∀ ds:List D,layDs ds=true->PyData.canLayAll0 (D.pys ds)=true
 | [],_=>rfl
 | x::xs,h=>by
  rw[layDs,Bool.and_eq_true]at h
  rw[D.pys,PyData.canLayAll0,Bool.and_eq_true]
  exact⟨QDJ x h.1,Qov xs h.2⟩
end
mutual
theorem QCF:∀ d:D,layD d=true->d.py.depth=dep d
 | .non,_=>rfl
 | .bl _,_=>rfl
 | .int _,_=>rfl
 | .str x,h=>rfl
 | .lst xs,h=>by rw[D.py,PyData.depth,dep,Qor xs h]
 | .tup xs,h=>by rw[D.py,PyData.depth,dep,Qor xs h]
theorem Qor:∀ ds:List D,layDs ds=true->PyData.depthAll (D.pys ds)=deps ds
 | [],_=>rfl
 | x::xs,h=>by
  rw[layDs,Bool.and_eq_true]at h
  rw[D.pys,PyData.depthAll,deps,QCF x h.1,Qor xs h.2]
end
theorem QHv{d:D}(h:layD d=true)(hd:dep d<=64):shp d=true:=by
 unfold shp SeqAt.shaped
 rw[QDJ d h,QCF d h]
 simpa using hd
theorem QjQ(i:Int):shp (.int i)=true:=QHv rfl (Nat.zero_le _)
theorem QHU{x y:D}(hx:shp x=true)(hy:shp y=true):dEq x y=.ok (.bl (PyData.eqv x.py y.py)):=by
 unfold dEq;rw[hx,hy];rfl
theorem QG5{x y:D}(hx:shp x=true)(hy:shp y=true):dNe x y=.ok (.bl (!PyData.eqv x.py y.py)):=by
 unfold dNe;rw[hx,hy];rfl
theorem Qzz(i j:Int):(i == j)=decide (i=j):=by
 by_cases h:i=j
 ·subst h;simp
 ·simp[h]
theorem Qaf(i j:Int):dEq (.int i) (.int j)=.ok (.bl (decide (i=j))):=by
 rw[QHU (QjQ i) (QjQ j), ← Qzz]
 rfl
theorem Qal(i j:Int):dNe (.int i) (.int j)=.ok (.bl (!decide (i=j))):=by
 rw[QG5 (QjQ i) (QjQ j), ← Qzz]
 rfl
theorem Q0{n:Nat}(h:n<=1000:=by decide):fits n=true:=decide_eq_true (Nat.le_trans h (by decide))
theorem ixT{xs:List D}{x:D}(k:Nat)(h:xs[k]?=some x):dIx (.tup xs) (.int (k:Int))=.ok x:=by
 show optO (atI xs (k:Int))=_
 rw[Qzn h];rfl
theorem ixL{xs:List D}{x:D}(k:Nat)(h:xs[k]?=some x):dIx (.lst xs) (.int (k:Int))=.ok x:=by
 show optO (atI xs (k:Int))=_
 rw[Qzn h];rfl
theorem QFj(x:D)(xs:List D):dIx (.tup (x::xs)) (.int 0)=.ok x:=ixT 0 rfl
theorem QFN(x y:D)(xs:List D):dIx (.tup (x::y::xs)) (.int 1)=.ok y:=ixT 1 rfl
theorem QHD{α:Type}(xs:List α)(k:Nat):cutD xs none (some (k:Int))=xs.take k:=by
 unfold cutD
 rw[HT.sIx_none,HT.sIx_nat,List.drop_zero,Nat.sub_zero]
 by_cases h:k<=xs.length
 ·rw[Nat.min_eq_left h]
 ·rw[Nat.min_eq_right (by omega),List.take_of_length_le (Nat.le_refl _),List.take_of_length_le (by omega)]
theorem QC5{α:Type}(xs:List α)(i k:Nat):cutD xs (some (i:Int)) (some (k:Int))=(xs.drop i).take (k - i):=by
 unfold cutD
 rw[HT.sIx_nat,HT.sIx_nat]
 by_cases h:i<=xs.length
 ·rw[Nat.min_eq_left h]
  by_cases h2:k<=xs.length
  ·rw[Nat.min_eq_left h2]
  ·rw[Nat.min_eq_right (by omega),List.take_of_length_le (by rw[List.length_drop];exact Nat.le_refl _),List.take_of_length_le (by rw[List.length_drop];omega)]
 ·rw[show min i xs.length=xs.length by omega,List.drop_length,List.drop_eq_nil_of_le (by omega:xs.length<=i)];simp
theorem Qom{xs ys:List D}(h:xs.length+ys.length<=1000):dCat (.lst xs) (.lst ys)=.ok (.lst (xs++ys)):=by
 show(if fits _=true then _ else _)=_
 rw[if_pos (Q0 h)]
theorem QbG{g:D->SD->Out SD}{its:SD->Out (List D)}{T:SD->Out Fl}{ς:SD}{xs:List D}{r:Out Fl}(h:its ς=.ok xs)(hL:loopD (fun x ς=>g x ς>>=fun ς'=>T ς') xs ς=r):sFor g its T ς=r:=by
 unfold sFor
 rw[h];exact hL
theorem Qcg{A:SD->Out D}{ς:SD}(m:Nat)(h:A ς=.ok (.int (m:Int)))(hm:m<=1000000):itR1 A ς=.ok (Qa6 0 m):=by
 have hs:QgI (m:Int)=true:=by
  unfold QgI
  rw[Bool.and_eq_true]
  exact⟨decide_eq_true (by omega),decide_eq_true (by omega)⟩
 unfold itR1
 rw[h,Out.bind_ok]
 simp only[hs,if_true,Int.toNat_natCast]
end DL
namespace DL
open PySem PySem.Spec PyProof.Rows L2
theorem Qgp{body:D->SD->Out Fl}{P:Nat->SD->Prop}{n:Nat}(h:∀ k:Nat,k<n->∀ ς,P k ς->∃ ς',body (.int (k:Int)) ς=.ok (.nx ς')/\P (k+1) ς'):∀ ς,P 0 ς->∃ ς',loopD body (Qa6 0 n) ς=.ok (.nx ς')/\P n ς':=by
 have key:∀(j:Nat)(k:Nat),k+j=n->∀ ς,P k ς->∃ ς',loopD body ((List.range' k j).map fun(i:Nat)=>D.int ((0:Int)+i)) ς=.ok (.nx ς')/\P n ς':=by
  intro j
  induction j with
  | zero=>
   intro k hk ς p
   have:k=n:=by omega
   subst this
   exact⟨ς,rfl,p⟩
  | succ j ih=>
   intro k hk ς p
   obtain⟨ς1,e1,p1⟩:=h k (by omega) ς p
   obtain⟨ς2,e2,p2⟩:=ih (k+1) (by omega) ς1 p1
   refine⟨ς2,?_,p2⟩
   rw[List.range'_succ,List.map_cons,loopD,Int.zero_add,e1]
   exact e2
 intro ς p
 have:=key n 0 (by omega) ς p
 unfold Qa6
 rw[List.range_eq_range']
 exact this
theorem Qvx{f:D->Out (Option D)}{h:D->Option D}:∀{xs:List D},(∀ x∈xs,f x=.ok (h x))->compM f xs=.ok (xs.filterMap h)
 | [],_=>rfl
 | x::xs,hf=>by
  rw[compM,hf x List.mem_cons_self,Out.bind_ok,Qvx (xs:=xs) (fun y hy=>hf y (List.mem_cons_of_mem _ hy)),Out.bind_ok,List.filterMap_cons]
  cases h x<;>rfl
theorem QiP{α:Type}(f:α->Bool):∀ xs:List α,blsOf (xs.map fun x=>D.bl (f x))=some (xs.map f)
 | []=>rfl
 | x::xs=>by rw[List.map_cons,blsOf,QiP f xs];rfl
theorem Qk6{α:Type}(f:α->Bool)(xs:List α):fAll (.lst (xs.map fun x=>D.bl (f x)))=.ok (.bl (xs.all f)):=by
 rw[fAll,QiP]
 show Out.ok (D.bl ((xs.map f).all id))=_
 rw[List.all_map];rfl
theorem QEm{α:Type}(f:α->Bool)(xs:List α):fAny (.lst (xs.map fun x=>D.bl (f x)))=.ok (.bl (xs.any f)):=by
 rw[fAny,QiP]
 show Out.ok (D.bl ((xs.map f).any id))=_
 rw[List.any_map];rfl
theorem Qfv{n:Nat}(h:n<=1000):fits n=true:=Q0 h
end DL
namespace My
def shD(a b:Int):Int:=if b<0 then -(a.gcd b:Int) else(a.gcd b:Int)
def low(p q:Int):Prop:=1<=q/\p.gcd q=1
theorem Qfk{a b:Int}(h:b≠0):0<a.gcd b:=Int.gcd_pos_of_ne_zero_right a h
theorem Quk{a b:Int}(h:b≠0):shD a b≠0:=by
 have:=Qfk (a:=a) h
 unfold shD;split<;>omega
theorem Qj1(a b:Int):(shD a b).natAbs=a.gcd b:=by
 unfold shD;split<;>omega
theorem Qsm(a b:Int):shD a b∣a:=by
 rw[← Int.natAbs_dvd,Qj1];exact Int.gcd_dvd_left a b
theorem QrC(a b:Int):shD a b∣b:=by
 rw[← Int.natAbs_dvd,Qj1];exact Int.gcd_dvd_right a b
theorem Qu4{a b:Int}(h:b≠0):∃ x y,a=shD a b * x/\b=shD a b * y/\a.fdiv (shD a b)=x/\b.fdiv (shD a b)=y:=by
 obtain⟨x,hx⟩:=Qsm a b
 obtain⟨y,hy⟩:=QrC a b
 have hs:=Quk (a:=a) h
 refine⟨x,y,hx,hy,?_,?_⟩
 ·have e:a.fdiv (shD a b)=(shD a b * x).fdiv (shD a b):=congrArg (fun z=>Int.fdiv z (shD a b)) hx
  rw[e,Int.mul_fdiv_cancel_left x hs]
 ·have e:b.fdiv (shD a b)=(shD a b * y).fdiv (shD a b):=congrArg (fun z=>Int.fdiv z (shD a b)) hy
  rw[e,Int.mul_fdiv_cancel_left y hs]
theorem QGU{a b:Int}(h:b≠0):low (a.fdiv (shD a b)) (b.fdiv (shD a b)):=by
 obtain⟨x,y,hx,hy,e1,e2⟩:=Qu4 (a:=a) h
 rw[e1,e2]
 constructor
 ·have hs:=Quk (a:=a) h
  by_cases hb:b<0
  ·have hd:shD a b<0:=by
    have:=Qfk (a:=a) h
    unfold shD;rw[if_pos hb];omega
   rcases Int.lt_or_le 0 y with h0 | h0
   ·omega
   ·have:0<=shD a b * y:=Int.mul_nonneg_of_nonpos_of_nonpos (by omega) h0
    omega
  ·have hd:0<shD a b:=by
    have:=Qfk (a:=a) h
    unfold shD;rw[if_neg hb];omega
   rcases Int.lt_or_le 0 y with h0 | h0
   ·omega
   ·have:shD a b * y<=0:=Int.mul_nonpos_of_nonneg_of_nonpos (by omega) h0
    omega
 ·have g0:=Qfk (a:=a) h
  have e:a.gcd b=(shD a b).natAbs * x.gcd y:=by
   have e0:(shD a b * x).gcd (shD a b * y)=(shD a b).natAbs * x.gcd y:=Int.gcd_mul_left ..
   rw[← hx, ← hy]at e0
   exact e0
  rw[Qj1]at e
  have:a.gcd b * 1=a.gcd b * x.gcd y:=by omega
  exact(Nat.eq_of_mul_eq_mul_left g0 this).symm
theorem QuF{a b:Int}(h:b≠0):(a.fdiv (shD a b)) * b=a * (b.fdiv (shD a b)):=by
 obtain⟨x,y,hx,hy,e1,e2⟩:=Qu4 (a:=a) h
 rw[e1,e2]
 generalize shD a b=s at *
 subst hx hy
 rw[Int.mul_assoc,Int.mul_left_comm]
theorem Qs7(a b:Int):b.gcd (a % b)=a.gcd b:=by
 have h:a % b=a - b * (a / b):=Int.emod_def a b
 rw[h,Int.gcd_sub_mul_left_right,Int.gcd_comm]
end My
namespace DL
open PySem PySem.Spec L2
section
variable{i j:Nat}{d x y:D}{m:SM}{ς ς' ς1:SD}{E A B:SD->Out D}{AA:SD->Out (List D)}{f:D->Out D}{g:D->D->Out D}{h:List D->Out D}{r:Out D}{xs ys:List D}{T U:SD->Out Fl}{P Q:SD->Out Bool}{b c:Bool}{fl:Fl}{rf:Out Fl}{rb:Out Bool}
theorem r_var(e:ς[i]?=some (some (.k,d))):eVar i ς=.ok d:=by unfold eVar;rw[e]
theorem QiQ(e:ς[i]?=some (some (m,d))):eVarB i ς=.ok d:=by unfold eVarB;rw[e]
theorem r_C:eC d ς=.ok d:=rfl
theorem r_e1(a:A ς=.ok x)(k:f x=r):e1 f A ς=r:=by unfold e1;rw[a];exact k
theorem r_e2(a:A ς=.ok x)(a':B ς=.ok y)(k:g x y=r):e2 g A B ς=r:=by unfold e2;rw[a,Out.bind_ok,a'];exact k
theorem r_eA(a:AA ς=.ok xs)(k:h xs=r):eA h AA ς=r:=by unfold eA;rw[a];exact k
theorem Qbh{dd:List D}(a:AA ς=.ok xs)(e:xs++dd=ys)(k:h ys=r):eA (fun xs=>h (xs++dd)) AA ς=r:=by unfold eA;rw[a];show h (xs++dd)=r;rw[e];exact k
theorem r_nil:aNil ς=.ok []:=rfl
theorem Ql(a:A ς=.ok x)(k:AA ς=.ok xs):aCons A AA ς=.ok (x::xs):=by unfold aCons;rw[a,Out.bind_ok,k];rfl
theorem r_tup(a:AA ς=.ok xs)(k:xs.length<=1000):eTup AA ς=.ok (.tup xs):=by unfold eTup;rw[a,Out.bind_ok,if_pos (Qfv k)]
theorem r_lst(a:AA ς=.ok xs)(k:xs.length<=1000):eLst AA ς=.ok (.lst xs):=by unfold eLst;rw[a,Out.bind_ok,if_pos (Qfv k)]
theorem Qbf(a:A ς=.ok (.bl b)):tVal A ς=.ok b:=by unfold tVal;rw[a];rfl
theorem Qea(a:P ς=.ok b):tNot' P ς=.ok (!b):=by unfold tNot';rw[a];rfl
theorem r_or'(a:P ς=.ok b)(k:(if b=true then .ok true else Q ς)=rb):tOr' P Q ς=rb:=by unfold tOr';rw[a];exact k
theorem Qs4(a:P ς=.ok b)(k:(if b=true then Q ς else .ok false)=rb):tAnd' P Q ς=rb:=by unfold tAnd';rw[a];exact k
theorem Qs9(a:A ς=.ok (.bl b))(k:(if b=true then B ς else .ok (.bl false))=r):eAnd A B ς=r:=by unfold eAnd;rw[a];cases b<;>exact k
theorem r_eIf(a:P ς=.ok b)(k:(if b=true then A ς else B ς)=r):eIf P A B ς=r:=by unfold eIf;rw[a];exact k
theorem r_isa{F:D->Out Bool}(a:A ς=.ok x)(k:F x=.ok b):eIsa F A ς=.ok (.bl b):=by unfold eIsa;rw[a,Out.bind_ok,k];rfl
theorem QGm{g':D->D->Out D}{E':SD->Out D}(a:A ς=.ok x)(a':B ς=.ok y)(k:g x y=.ok (.bl b))(k':(if b=true then E' ς>>=fun w=>g' y w else .ok (.bl false))=r):Qdc g g' A B E' ς=r:=by unfold Qdc;rw[a,Out.bind_ok,a',Out.bind_ok,k];cases b<;>exact k'
theorem QHp{z:D}(a:E ς=.ok z)(k:f z=r):(E ς>>=fun w=>f w)=r:=by rw[a];exact k
theorem r_set(a:E ς=.ok d)(k:ς.set i (some (.k,d))=ς'):sSet i E ς=.ok (.nx ς'):=by unfold sSet;rw[a,Out.bind_ok,k]
theorem QdE(a:E ς=.ok d)(k:ς.set i (some (.o,d))=ς'):sSetO i E ς=.ok (.nx ς'):=by unfold sSetO;rw[a,Out.bind_ok,k]
theorem r_seq(a:T ς=.ok fl)(k:thenF U fl=rf):sSeq T U ς=rf:=by unfold sSeq;rw[a];exact k
theorem Qx(k:U ς=rf):thenF U (.nx ς)=rf:=k
theorem Qj2{z:Bool}:thenF U (.rt z d)=.ok (.rt z d):=rfl
theorem r_if(a:P ς=.ok b)(k:(if b=true then T ς else U ς)=rf):sIf P T U ς=rf:=by unfold sIf;rw[a];exact k
theorem QgY{α:Type}{u v w:α}(a:b=true)(k:u=w):(if b=true then u else v)=w:=by rw[if_pos a];exact k
theorem Qeb{α:Type}{u v w:α}(a:b=false)(k:v=w):(if b=true then u else v)=w:=by subst a;exact k
theorem r_ret(a:E ς=.ok d):sRet E ς=.ok (.rt false d):=by unfold sRet;rw[a];rfl
theorem QfN(a:E ς=.ok d):sRetF E ς=.ok (.rt true d):=by unfold sRetF;rw[a];rfl
theorem QuW(e:ς[i]?=some (some (.o,d))):sRetO i ς=.ok (.rt true d):=by unfold sRetO;rw[e]
theorem QcB:sNil ς=.ok (.nx ς):=rfl
theorem Qzx{n:Nat}(k:n<=1000):decide (n<sizeLine)=true:=decide_eq_true (Nat.lt_of_le_of_lt k (by decide))
theorem r_app(e:ς[i]?=some (some (.o,.lst xs)))(a:E ς=.ok d)(k:xs.length<=1000)(l:ς.set i (some (.o,.lst (xs++[d])))=ς'):Qa1 i E ς=.ok (.nx ς'):=by
 unfold Qa1;rw[e];show(E ς>>=fun d=>if decide (xs.length<sizeLine)=true then _ else _)=_;rw[a,Out.bind_ok,if_pos (Qzx k),l]
theorem r_put{I:SD->Out D}{k:Int}(a:E ς=.ok d)(e:ς[i]?=some (some (.o,.lst xs)))(a':I ς=.ok (.int k))(q:ixN xs.length k=some j)(l:ς.set i (some (.o,.lst (xs.set j d)))=ς'):sPutO i I E ς=.ok (.nx ς'):=by
 unfold sPutO;rw[a,Out.bind_ok,e]
 show(I ς>>=_)=_
 rw[a',Out.bind_ok]
 show(optO (ixN xs.length k)>>=_)=_
 rw[q]
 show Out.ok (Fl.nx (ς.set i (some (.o,.lst (xs.set j d)))))=_
 rw[l]
theorem r_noX{α:Type}{o:Out α}{a:α}(k:o=.ok a):noX o=.ok a:=by rw[k];rfl
theorem r_sl{l u:SD->Out (Option Int)}{p q:Option Int}(a:A ς=.ok (.lst xs))(k1:l ς=.ok p)(k2:u ς=.ok q)(e:cutD xs p q=ys):eSl A l u ς=.ok (.lst ys):=by unfold eSl;rw[a,Out.bind_ok,k1,Out.bind_ok,k2,Out.bind_ok];show Out.ok (D.lst _)=_;rw[e]
theorem QjX{k:Int}(a:E ς=.ok (.int k)):oSome E ς=.ok (some k):=by unfold oSome;rw[a];rfl
theorem r_ixO{k:Int}(e:ς[i]?=some (some (.o,.lst xs)))(a:A ς=.ok (.int k))(q:atI xs k=some d):eIxO i A ς=.ok d:=by
 unfold eIxO;rw[e]
 show(A ς>>=_)=_
 rw[a,Out.bind_ok]
 show optO (atI xs k)=_
 rw[q];rfl
theorem Qpu:QV [] [] ς=.ok ς:=rfl
theorem QpB{is:List Nat}{rs:Out SD}(a:ς.set i (some (.k,d))=ς1)(k:QV is ys ς1=rs):QV (i::is) (d::ys) ς=rs:=by show QV is ys (ς.set i (some (.k,d)))=rs;rw[a];exact k
theorem QcI{fr:Bool}(a:T ς=.ok fl)(k:retF fr fl=r):(T ς>>=retF fr)=r:=by rw[a];exact k
theorem r_rt{z:Bool}:retF false (.rt z d)=.ok d:=by unfold retF;simp
theorem r_rtT:retF true (.rt true d)=.ok d:=by unfold retF;simp
theorem r_gN{L:SD->Out Fl}(a:ς.set i (some (.k,d))=ς1)(k:L ς1=rf):(gN i d ς>>=fun ς'=>L ς')=rf:=by unfold gN;rw[a];exact k
theorem r_gT{L:SD->Out Fl}{is:List Nat}(a:QV is ys ς=.ok ς1)(k:L ς1=rf):(gT is (.tup ys) ς>>=fun ς'=>L ς')=rf:=by unfold gT;show(QV is ys ς>>=fun ς'=>L ς')=rf;rw[a];exact k
theorem Qg3{cl:Str}{fds:List (Str×D)}{mk:Str->List (Str×D)->List D->Out (List (Str×D))}(a:AA ς=.ok xs)(k:mk cl [] xs=.ok fds):eMake cl mk AA ς=.ok (.ins cl fds):=by unfold eMake;rw[a,Out.bind_ok,k];rfl
theorem QGa{cs:List Str}{n cl:Str}{fds fds':List (Str×D)}{mk:Str->List (Str×D)->List D->Out (List (Str×D))}(e:ς[i]?=some (some (.s,.ins cl fds)))(k1:cs.contains cl=true)(k2:fds.lookup n=none)(a:AA ς=.ok xs)(k:mk cl fds xs=.ok fds')(l:ς.set i (some (.s,.ins cl fds'))=ς'):QeS cs n mk i AA ς=.ok (.nx ς'):=by
 unfold QeS;rw[e]
 show(if (cs.contains cl&&(fds.lookup n).isNone)=true then _ else _)=_
 rw[k1,k2]
 show(AA ς>>=_)=_
 rw[a,Out.bind_ok,k,Out.bind_ok,l]
theorem r_itL(a:E ς=.ok (.lst xs)):itL E ς=.ok xs:=by unfold itL;rw[a];rfl
end
theorem QHH{T:SD->Out Fl}{ς τ:SD}{c:Str}{fds:List (Str×D)}(a:T ς=.ok (.nx (some (.s,.ins c fds)::τ))):(T ς>>=Qdb c)=.ok fds:=by
 rw[a];simp[Qdb,QiJ]
theorem c_nil{ς:SD}:captD [] ς=[]:=rfl
theorem QeN{ς τ:SD}{js:List (Option Nat)}(k:captD js ς=τ):captD (none::js) ς=none::τ:=by rw[← k];rfl
theorem c_k{ς τ:SD}{js:List (Option Nat)}{j:Nat}{d:D}(e:ς[j]?=some (some (.k,d)))(k:captD js ς=τ):captD (some j::js) ς=some (.k,d)::τ:=by
 rw[← k];show captS ς j::_=_;unfold captS;rw[e];rfl
theorem QZ{js:List (Option Nat)}{i:Nat}{e:SD->Out D}{ς τ0 τ:SD}{x d:D}(c:captD js ς=τ0)(a:τ0.set i (some (.k,x))=τ)(k:e τ=.ok d):turnC js (gN i) cTrue e ς x=.ok (some d):=by
 unfold turnC gN cTrue
 rw[c,a,Out.bind_ok,Out.bind_ok,if_pos rfl,k];rfl
theorem QW{α:Type}{js:List (Option Nat)}{its:SD->Out (List D)}{g:D->SD->Out SD}{e:SD->Out D}{ς:SD}{l:List α}(f:α->D)(h:α->D)(hi:its ς=.ok (l.map f))(ht:∀ x∈l,turnC js g cTrue e ς (f x)=.ok (some (h x)))(hl:l.length<=1000):
 eComp js its g cTrue e ς=.ok (.lst (l.map h)):=by
 have go:∀ l:List α,(∀ x∈l,turnC js g cTrue e ς (f x)=.ok (some (h x)))->compM (turnC js g cTrue e ς) (l.map f)=.ok (l.map h):=by
  intro l
  induction l with
  | nil=>intro _;rfl
  | cons x xs ih=>
   intro H
   have h1:=H x (List.mem_cons_self ..)
   have h2:=ih fun y hy=>H y (List.mem_cons_of_mem _ hy)
   show compM (turnC js g cTrue e ς) (f x::xs.map f)=_
   unfold compM
   rw[h1,Out.bind_ok,h2];rfl
 unfold eComp
 rw[hi,Out.bind_ok,go l ht,Out.bind_ok,if_pos (Qfv (by rw[List.length_map];exact hl))]
theorem QkV{js:List (Option Nat)}{its:SD->Out (List D)}{g:D->SD->Out SD}{e:SD->Out D}{ς:SD}{n:Nat}(h:Nat->D)(hi:its ς=.ok (Qa6 0 n))(ht:∀ k:Nat,k<n->turnC js g cTrue e ς (.int (k:Int))=.ok (some (h k)))(hl:n<=1000):
 eComp js its g cTrue e ς=.ok (.lst ((List.range n).map h)):=by
 refine QW (fun i:Nat=>D.int (0+(i:Int))) h hi (fun k hk=>?_) (by rw[List.length_range];exact hl)
 show turnC js g cTrue e ς (.int (0+(k:Int)))=_
 rw[Int.zero_add]
 exact ht k (List.mem_range.mp hk)
theorem r_get{ς:SD}{i:Nat}{m:SM}{d:D}(h:ς[i]?=some (some (m,d))):ς[i]?=some (some (m,d)):=h
theorem r_len{n:Nat}(h:n<=1000):n<=1000:=h
theorem r_id{α:Type}{a b:α}(h:a=b):a=b:=h
theorem QFu{n:Str}:List.lookup n ([]:List (Str×D))=none:=rfl
theorem QHO{α:Type}{x:α}{xs:List α}:(x::xs)[0]?=some x:=rfl
theorem QHd{α:Type}{x:α}{xs:List α}{n:Nat}{r:Option α}(h:xs[n]?=r):(x::xs)[n+1]?=r:=by rw[List.getElem?_cons_succ];exact h
theorem QBR{α:Type}{x y:α}{xs:List α}:(x::xs).set 0 y=y::xs:=rfl
theorem QDL{α:Type}{x y:α}{xs ys:List α}{n:Nat}(h:xs.set n y=ys):(x::xs).set (n+1) y=x::ys:=by rw[List.set_cons_succ,h]
theorem QH3{α:Type}{ys:List α}:[]++ys=ys:=rfl
theorem QHh{α:Type}{x:α}{xs ys zs:List α}(h:xs++ys=zs):x::xs++ys=x::zs:=by rw[List.cons_append,h]
theorem r_mul{i j:Int}{m n:Nat}(hi:bitsI i<=m)(hj:bitsI j<=n)(h:decide (m+n<=134217728)=true):dMul (.int i) (.int j)=.ok (.int (i * j)):=Qfu hi hj (of_decide_eq_true h)
end DL
set_option maxHeartbeats 4000000
namespace My
open PySem PySem.Spec L2 DL
set_option hygiene false
local macro_rules
 | `("e"^$q $s $k $b) => `(DefOk P w K mg base CT $s $k $b [] $q)
 | `("f"^$k $l $b $q) => `(FnOk P w K mg base CX0 $k f fd $l (SpD K CT $b $q))
set_option hygiene true
theorem Rm{k k1:Nat}{A:Around}(h:Room k1 A)(e:k<=k1:=by decide):Room k A:=h.mono e
def top(i:Nat):Stmt:=PySem.Challenge.pw_dockethall_k41_shares_told.main.body.getD i (.Pass ⟨0,0,0,0⟩)
def Qj:List Str:=["Deal","Bundle","Copy","Rows","Office"]
def Qd:List Str:=["Deal","Bundle","Copy","Rows"]
def Qn:List Str:=["Office"]
noncomputable section
variable{P:Program}{w:World}{K:W.Frag}{mg:Str->Option Value}{base:Heap}{CT:CTab}{f:Addr}{fd:FuncData}{dV:Value}
abbrev QcU:Stmt:=top 53
theorem QsW:Qr ["_law_cell_here","_law_k"] ["_law_cell_here","_law_k"] (Qb QcU):=⟨rfl,rfl,rfl,dk,rfl,dk,dk⟩
def Qgw:SD->Out Fl:=(sRet (e2 dMod (e2 dMul (e2 dAdd (e2 dMod (eVar 0) (eC (.int 2147483647))) (eC (.int 11))) (e2 dAdd (eC (.int 48271)) (e2 dMul (e2 dMul (eC (.int 2)) (eVar 1)) (eVar 1)))) (eC (.int 2147483629))))
def QaC:List D->Out D:=bodyF false 2 2 Qgw
theorem QwL(F:FunV K "_law_mixed" "_law_mixed" QcU f fd dV)  : "f"^1 ["_law_cell_here","_law_k"] false QaC:=
 (@fnV P w K mg base CT false _ _ _ f fd dV _ _ 0 Qgw F QsW fun cdv A outer s H E G hr=>
  (Qg (QG (Qap (DE.db (Qda (DE.db (QaD (DE.db (Qap (DE.db (Qa 0)) (DE.db Qe))) (DE.db Qe))) (DE.db (QaD (DE.db Qe) (DE.db (Qda (DE.db (Qda (DE.db Qe) (DE.db (Qa 1)))) (DE.db (Qa 1)))))))) (DE.db Qe)))) :)
abbrev Qdp:Stmt:=top 51
theorem QyZ:Qr ["_law_script","_law_k"] ["_law_script","_law_k"] (Qb Qdp):=⟨rfl,rfl,rfl,dk,rfl,dk,dk⟩
def Qei:SD->Out Fl:=(sSeq (sIf (tVal (e2 dLt (eVar 1) (eA fLen (aCons (eVar 0) aNil)))) (sRet (e2 dIx (eVar 0) (eVar 1))) sNil) (sRet (eC (.int 0))))
def Qbj:List D->Out D:=bodyF false 2 2 Qei
theorem Qmv(d0 d1:D):Qbj [d0,d1]=(Qei [some (.k,d0),some (.k,d1)]>>=retF false):=rfl
theorem QzL(F:FunV K "_law_cell" "_law_cell" Qdp f fd dV)(z_len:mg "len"=none):"f"^1 ["_law_script","_law_k"] false Qbj:=
 (@fnV P w K mg base CT false _ _ _ f fd dV _ _ 0 Qei F QyZ fun cdv A outer s H E G hr=>
  (Qf (ds_if (dt_lt (DE.db (Qa 1)) (DE.db (QT rfl z_len (Qo (DE.db (Qa 0)) Qv)))) (Qg (QG (de_ix (Qa 0) (DE.db (Qa 1))))) QR) (Qg (QG Qe))) :)
abbrev QcZ:Stmt:=top 20
theorem QAt:Qr ["one","other"] ["one","other"] (Qb QcZ):=⟨rfl,rfl,rfl,dk,rfl,dk,dk⟩
abbrev Qum:Scope:={ kind:=ScopeKind.function,names:=[ (Str.ofString ".0",NameKind.local),(Str.ofString "each",NameKind.local),(Str.ofString "more",NameKind.local)],isGenerator:=false,isCoroutine:=false,more:=[]:Scope }
theorem Qgj:QB ["each","more"] [none,none] Qum (Qb QcZ) ["one","other"]:=⟨rfl,dk,dk,rfl,dk,dk⟩
def Qko:SD->Out D:=(e2 dAdd (eVar 0) (eVar 1))
def QfR:SD->Out Fl:=(sRetF (eComp [none,none] (itZ (eVar 0) (eVar 1)) (gT [0,1]) cTrue Qko))
def Qcr:List D->Out D:=bodyF true 2 2 QfR
theorem QC6(d0 d1:D):Qcr [d0,d1]=(QfR [some (.k,d0),some (.k,d1)]>>=retF true):=rfl
theorem QCK(F:FunV K "sums_of" "sums_of" QcZ f fd dV)(z_zip:mg "zip"=none):"f"^1 ["one","other"] true Qcr:=
 (@fnV P w K mg base CT true _ _ _ f fd dV _ _ 0 QfR F QAt fun cdv A outer s H E G hr=>
  (Qg (QbI (QO rfl Qgj (DI.b (Qg6 rfl z_zip (Qa 0) (Qa 1))) (fun ς=>QEY (fun i hi=>Qu (by revert hi;revert i;decide) ς)) (Qc5 _) (fun fp s H G p=>⟨(QeP rfl (Q4 (i:=0) Qgj.nd rfl (oi rfl) (Q4 (i:=1) Qgj.nd rfl (oi rfl) QcR (hf:=Or.inr rfl)) (hf:=Or.inr rfl))),QM,(QaD (DE.db (Qa 0)) (DE.db (Qa 1)))⟩)))) :)
abbrev Qa0:Stmt:=top 21
theorem Qed:Qr ["rows","sums","row"] ["rows"] (Qb Qa0):=⟨rfl,rfl,rfl,dk,rfl,dk,dk⟩
abbrev Qj3:Scope:={ kind:=ScopeKind.function,names:=[(Str.ofString ".0",NameKind.local),(Str.ofString "each",NameKind.local)],isGenerator:=false,isCoroutine:=false,more:=[]:Scope }
theorem QfK:QB ["each"] [none] Qj3 (Qb Qa0) ["rows","sums","row"]:=⟨rfl,dk,dk,rfl,dk,dk⟩
def QdW:SD->Out D:=(eC (.int 0))
def QbE:SD->Out Fl:=(Qa1 1 (eA (fun xs=>Qcr (xs++[])) (aCons (eIxO 1 (e1 dNeg (eC (.int 1)))) (aCons (eVar 2) aNil))))
def Qdu:SD->Out Fl:=(sSeq (sSetO 1 (eLst (aCons (eComp [none] (itL (e2 dIx (eVar 0) (eC (.int 0)))) (gN 0) cTrue QdW) aNil))) (sSeq (sFor (gN 2) (itL (eVar 0)) QbE) (sRetO 1)))
def Qas:List D->Out D:=bodyF true 1 3 Qdu
theorem QoP(d0:D):Qas [d0]=(Qdu [some (.k,d0),none,none]>>=retF true):=rfl
theorem Qnx(F:FunV K "running_sums" "running_sums" Qa0 f fd dV)(QDt:"e"^Qcr "sums_of" 1 true):"f"^2 ["rows"] true Qas:=
 (@fnV P w K mg base CT true _ _ _ f fd dV _ _ 1 Qdu F Qed fun cdv A outer s H E G hr=>
  (Qf (QcS (i:=1) Qed.nd rfl (oi rfl) (QaO (Qc (DF.de (QO rfl QfK (DI.b (Qag (de_ix (Qa 0) (DE.db Qe)))) (fun ς=>QC (Qu rfl ς)) (Qy _) (fun fp s H G p=>⟨(QD (i:=0) QfK.nd rfl (oi rfl) (hf:=Or.inr rfl)),QM,Qe⟩))) Qi))) (Qf (QbL PassesOwn.never rfl (Qag (Qa 0)) (QD (i:=2) Qed.nd rfl (oi rfl)) (Qy _) (Qg (Qcp 1 (de_f QDt (Rm hr) (Qc (QsK 1 (DE.db (QeX (DE.db Qe))) rfl (oi rfl)) (Qc (Qa 2) Qi)) rfl) rfl (oi rfl)))) (Qg (QjT 1 rfl (oi rfl))))) :)
abbrev Qav:Stmt:=inCls (top 22) 1
theorem Qjc:Qr ["self","rows"] ["self","rows"] (Qb Qav):=⟨rfl,rfl,rfl,dk,rfl,dk,dk⟩
abbrev QhG:Scope:={ kind:=ScopeKind.function,names:=[ (Str.ofString ".0",NameKind.local),(Str.ofString "row",NameKind.local),(Str.ofString "list",NameKind.globalImplicit)],isGenerator:=false,isCoroutine:=false,more:=[]:Scope }
theorem Qeq:QB ["row"] [none] QhG (Qb Qav) ["self","rows"]:=⟨rfl,dk,dk,rfl,dk,dk⟩
def QcV:SD->Out D:=(e1 dList (eVar 0))
def Qcb:SD->Out Fl:=(sSeq (fun ς=>noX (sFldS Qj "table" 0 (eComp [none] (itL (eVar 1)) (gN 0) cTrue QcV) ς)) (fun ς=>noX (sFldS Qj "heads" 0 (eA (fun xs=>Qas (xs++[])) (aCons (eVar 1) aNil)) ς)))
def QK:Str->List (Str×D)->List D->Out (List (Str×D)):=bodyI 2 2 Qcb
theorem Qj4(c:Str)(fds:List (Str×D))(d1:D):QK c fds [d1]=(Qcb [some (.s,.ins c fds),some (.k,d1)]>>=Qdb c):=rfl
theorem Qj6(F:FunV K "keep_rows" "Clerk.keep_rows" Qav f fd dV)(Qox:"e"^Qas "running_sums" 2 true)(z_list:mg "list"=none)(fo_table:FldOk K CT Qj "table")(fo_heads:FldOk K CT Qj "heads"):FnOk P w K mg base (CXR P w) 3 f fd ["self","rows"] (SpI K CT QK):=
 (@fnI P w K mg base CT _ _ _ f fd dV _ _ 2 Qcb F Qjc fun cdv A outer s H E G p hr=>
  (Qf (DS.lift (Qd1 0 fo_table (DF.de (QO rfl Qeq (DI.b (Qag (Qa 1))) (fun ς=>QC (Qu rfl ς)) (Qy _) (fun fp s H G p=>⟨(QD (i:=0) Qeq.nd rfl (oi rfl) (hf:=Or.inr rfl)),QM,(DF.de (Qex rfl z_list (Qa 0)))⟩))) rfl (oi rfl))) (Qg (DS.lift (Qd1 0 fo_heads (de_f Qox (Rm hr) (Qc (Qa 1) Qi) rfl) rfl (oi rfl))))) :)
abbrev Qdq:Stmt:=top 7
theorem Qxb:Qr ["thing"] ["thing"] (Qb Qdq):=⟨rfl,rfl,rfl,dk,rfl,dk,dk⟩
def Qd8:SD->Out Fl:=(sRet (eAnd (eIsa (isaT "int") (eVar 0)) (eNot (eIsa (isaT "bool") (eVar 0)))))
def QaG:List D->Out D:=bodyF false 1 1 Qd8
theorem QAw(d0:D):QaG [d0]=(Qd8 [some (.k,d0)]>>=retF false):=rfl
theorem QzO(F:FunV K "is_whole" "is_whole" Qdq f fd dV)(z_isinstance:mg "isinstance"=none)(z_int:mg "int"=none)(z_bool:mg "bool"=none):"f"^1 ["thing"] false QaG:=
 (@fnV P w K mg base CT false _ _ _ f fd dV _ _ 0 Qd8 F Qxb fun cdv A outer s H E G hr=>
  (Qg (QG (Qcm (Qa2 "int" QzJ rfl z_int PyProof.Rows.Boot.«int» rfl z_isinstance (DE.db (Qa 0))) (Qdw (QBZ (Qa2 "bool" Qsy rfl z_bool PyProof.Rows.Boot.«bool» rfl z_isinstance (DE.db (Qa 0)))))))) :)
abbrev QcP:Stmt:=top 8
theorem Qs1:Qr ["thing","least","most"] ["thing","least","most"] (Qb QcP):=⟨rfl,rfl,rfl,dk,rfl,dk,dk⟩
def QeK:SD->Out Fl:=(sRet (eAnd (eA (fun xs=>QaG (xs++[])) (aCons (eVar 0) aNil)) (Qdc dLe dLe (eVar 1) (eVar 0) (eVar 2))))
def Qaj:List D->Out D:=bodyF false 3 3 QeK
theorem Qxc(d0 d1 d2:D):Qaj [d0,d1,d2]=(QeK [some (.k,d0),some (.k,d1),some (.k,d2)]>>=retF false):=rfl
theorem QxP(F:FunV K "is_within" "is_within" QcP f fd dV)(Qft:"e"^QaG "is_whole" 1 false):"f"^2 ["thing","least","most"] false Qaj:=
 (@fnV P w K mg base CT false _ _ _ f fd dV _ _ 1 QeK F Qs1 fun cdv A outer s H E G hr=>
  (Qg (QG (Qcm (de_f Qft (Rm hr) (Qc (Qa 0) Qi) rfl) (Qdw (Qu2 op_le Qbr (Qa3 fun _ _=>rfl) op_le Qbr (Qa3 fun _ _=>rfl) (DE.db (Qa 1)) (DE.db (Qa 0)) (DE.db (Qa 2))))))) :)
abbrev QdX:Stmt:=top 28
theorem QCn:Qr ["thing"] ["thing"] (Qb QdX):=⟨rfl,rfl,rfl,dk,rfl,dk,dk⟩
abbrev QwK:Scope:={ kind:=ScopeKind.function,names:=[ (Str.ofString ".0",NameKind.local),(Str.ofString "count",NameKind.local),(Str.ofString "is_within",NameKind.globalImplicit),(Str.ofString "MOST_SENT",NameKind.globalImplicit)],isGenerator:=false,isCoroutine:=false,more:=[]:Scope }
theorem Qlt:QB ["count"] [none] QwK (Qb QdX) ["thing"]:=⟨rfl,dk,dk,rfl,dk,dk⟩
def Qhu:SD->Out D:=(eA (fun xs=>Qaj (xs++[])) (aCons (eVar 0) (aCons (eC (.int 0)) (aCons (eC (.int 9)) aNil))))
def Qht:SD->Out Fl:=(sSeq (sIf (tOr' (tNot' (tVal (eIsa (isaT "list") (eVar 0)))) (tVal (e2 dGt (eA fLen (aCons (eVar 0) aNil)) (eC (.int 6))))) (sRet (eC (.bl false))) sNil) (sRet (eA (f1 fAll) (aCons (eComp [none] (itL (eVar 0)) (gN 0) cTrue Qhu) aNil))))
def Qcu:List D->Out D:=bodyF false 1 1 Qht
theorem QEI(d0:D):Qcu [d0]=(Qht [some (.k,d0)]>>=retF false):=rfl
theorem QE8{u_MOST_OUTS:Value}{u_MOST_SENT:Value}(F:FunV K "is_row" "is_row" QdX f fd dV)(QbX:"e"^Qaj "is_within" 2 false)(z_isinstance:mg "isinstance"=none)(z_list:mg "list"=none)(z_len:mg "len"=none)(z_all:mg "all"=none)(c_MOST_OUTS:mg "MOST_OUTS"=some u_MOST_OUTS)(r_MOST_OUTS:RelV (toV (.int 6)) u_MOST_OUTS)(c_MOST_SENT:mg "MOST_SENT"=some u_MOST_SENT)(r_MOST_SENT:RelV (toV (.int 9)) u_MOST_SENT):"f"^3 ["thing"] false Qcu:=
 (@fnV P w K mg base CT false _ _ _ f fd dV _ _ 2 Qht F QCn fun cdv A outer s H E G hr=>
  (Qf (ds_if (DW.dt (dw_or (QY (Q3 (Qa2 "list" Qes rfl z_list PyProof.Rows.Boot.«list» rfl z_isinstance (DE.db (Qa 0))))) (QbO (dt_gt (DE.db (QT rfl z_len (Qo (DE.db (Qa 0)) Qv))) (DE.db (QcQ (d:=(.int 6)) rfl c_MOST_OUTS rfl r_MOST_OUTS)))))) (Qg (QG de_bl)) QR) (Qg (QG (QeV rfl rfl z_all (Qo (DE.db (DF.de (QO rfl Qlt (DI.b (Qag (Qa 0))) (fun ς=>QC (Qu rfl ς)) (Qy _) (fun fp s H G p=>⟨(QD (i:=0) Qlt.nd rfl (oi rfl) (hf:=Or.inr rfl)),QM,(de_f QbX (Rm hr) (Qc (Qa 0) (Qc Qe (Qc (QcQ (d:=(.int 9)) rfl c_MOST_SENT rfl r_MOST_SENT) Qi))) rfl)⟩)))) Qv))))) :)
abbrev QbQ:Stmt:=top 29
theorem QyD:Qr ["thing"] ["thing"] (Qb QbQ):=⟨rfl,rfl,rfl,dk,rfl,dk,dk⟩
abbrev QqQ:Scope:={ kind:=ScopeKind.function,names:=[ (Str.ofString ".0",NameKind.local),(Str.ofString "row",NameKind.local),(Str.ofString "is_row",NameKind.globalImplicit)],isGenerator:=false,isCoroutine:=false,more:=[]:Scope }
theorem QiK:QB ["row"] [none] QqQ (Qb QbQ) ["thing"]:=⟨rfl,dk,dk,rfl,dk,dk⟩
def QfJ:SD->Out D:=(eA (fun xs=>Qcu (xs++[])) (aCons (eVar 0) aNil))
abbrev QqU:Scope:={ kind:=ScopeKind.function,names:=[ (Str.ofString ".0",NameKind.local),(Str.ofString "row",NameKind.local),(Str.ofString "len",NameKind.globalImplicit),(Str.ofString "thing",NameKind.free)],isGenerator:=false,isCoroutine:=false,more:=[]:Scope }
theorem Qiu:QB ["row","thing"] [none,some 0] QqU (Qb QbQ) ["thing"]:=⟨rfl,dk,dk,rfl,dk,dk⟩
def QfD:SD->Out D:=(e2 dEq (eA fLen (aCons (eVar 0) aNil)) (eA fLen (aCons (e2 dIx (eVar 1) (eC (.int 0))) aNil)))
def Qfl:SD->Out Fl:=(sSeq (sIf (tOr' (tNot' (tVal (eIsa (isaT "list") (eVar 0)))) (tNot' (tVal (Qdc dLe dLe (eC (.int 1)) (eA fLen (aCons (eVar 0) aNil)) (eC (.int 12)))))) (sRet (eC (.bl false))) sNil) (sSeq (sIf (tNot' (tVal (eA (f1 fAll) (aCons (eComp [none] (itL (eVar 0)) (gN 0) cTrue QfJ) aNil)))) (sRet (eC (.bl false))) sNil) (sRet (eA (f1 fAll) (aCons (eComp [none,some 0] (itL (eVar 0)) (gN 0) cTrue QfD) aNil)))))
def Qct:List D->Out D:=bodyF false 1 1 Qfl
theorem QA3(d0:D):Qct [d0]=(Qfl [some (.k,d0)]>>=retF false):=rfl
theorem QAf{u_MOST_ROWS:Value}(F:FunV K "is_table" "is_table" QbQ f fd dV)(QkY:"e"^Qcu "is_row" 3 false)(z_isinstance:mg "isinstance"=none)(z_list:mg "list"=none)(z_len:mg "len"=none)(z_all:mg "all"=none)(c_MOST_ROWS:mg "MOST_ROWS"=some u_MOST_ROWS)(r_MOST_ROWS:RelV (toV (.int 12)) u_MOST_ROWS):"f"^4 ["thing"] false Qct:=
 (@fnV P w K mg base CT false _ _ _ f fd dV _ _ 3 Qfl F QyD fun cdv A outer s H E G hr=>
  (Qf (ds_if (DW.dt (dw_or (QY (Q3 (Qa2 "list" Qes rfl z_list PyProof.Rows.Boot.«list» rfl z_isinstance (DE.db (Qa 0))))) (QbO (QY (Qtw op_le Qbr (Qa3 fun _ _=>rfl) op_le Qbr (Qa3 fun _ _=>rfl) (DE.db Qe) (DE.db (QT rfl z_len (Qo (DE.db (Qa 0)) Qv))) (DE.db (QcQ (d:=(.int 12)) rfl c_MOST_ROWS rfl r_MOST_ROWS))))))) (Qg (QG de_bl)) QR) (Qf (ds_if (QY (Q3 (QeV rfl rfl z_all (Qo (DE.db (DF.de (QO rfl QiK (DI.b (Qag (Qa 0))) (fun ς=>QC (Qu rfl ς)) (Qy _) (fun fp s H G p=>⟨(QD (i:=0) QiK.nd rfl (oi rfl) (hf:=Or.inr rfl)),QM,(de_f QkY (Rm hr) (Qc (Qa 0) Qi) rfl)⟩)))) Qv)))) (Qg (QG de_bl)) QR) (Qg (QG (QeV rfl rfl z_all (Qo (DE.db (DF.de (QO rfl Qiu (DI.b (Qag (Qa 0))) (fun ς=>QC (Qu rfl ς)) (Qy _) (fun fp s H G p=>⟨(QD (i:=0) Qiu.nd rfl (oi rfl) (hf:=Or.inr rfl)),QM,(de_eq hr.units (DE.db (QT rfl z_len (Qo (DE.db (Qa 0)) Qv))) (DE.db (QT rfl z_len (Qo (DE.db (de_ix (Qa 1) (DE.db Qe))) Qv))))⟩)))) Qv)))))) :)
abbrev QcT:Stmt:=inCls (top 26) 0
theorem Qth:Qr ["self","rows"] ["self","rows"] (Qb QcT):=⟨rfl,rfl,rfl,dk,rfl,dk,dk⟩
def QeE:SD->Out Fl:=(sSeq (fun ς=>noX ((sIf (tNot' (tVal (eA (fun xs=>Qct (xs++[])) (aCons (eVar 1) aNil)))) Qdz sNil) ς)) (QeS Qd "keep_rows" QK 0 (fun ς=>noX ((aCons (eVar 1) aNil) ς))))
def Qb6:Str->List (Str×D)->List D->Out (List (Str×D)):=bodyI 2 2 QeE
theorem Qy1(c:Str)(fds:List (Str×D))(d1:D):Qb6 c fds [d1]=(QeE [some (.s,.ins c fds),some (.k,d1)]>>=Qdb c):=rfl
theorem Qx2(F:FunV K "__init__" "Rows.__init__" QcT f fd dV)(QBi:"e"^Qct "is_table" 4 false)(ms_keep_rows:MtOk P w K mg base CT (CXR P w) "keep_rows" 3 Qd (fun _=>SpI K CT QK)):FnOk P w K mg base (CXR P w) 5 f fd ["self","rows"] (SpI K CT Qb6):=
 (@fnI P w K mg base CT _ _ _ f fd dV _ _ 4 QeE F Qth fun cdv A outer s H E G p hr=>
  (Qf (DS.lift (ds_if (QY (Q3 (de_f QBi (Rm hr) (Qc (Qa 1) Qi) rfl))) (Qg Qcy) QR)) (Qg (Qhr 0 QmD ms_keep_rows (Rm hr) (DA.lift (Qc (Qa 1) Qi)) rfl (oi rfl)))) :)
abbrev QbC:Stmt:=top 27
theorem Qq8:Qr ["many","place"] ["many","place"] (Qb QbC):=⟨rfl,rfl,rfl,dk,rfl,dk,dk⟩
abbrev Ql9:Scope:={ kind:=ScopeKind.function,names:=[ (Str.ofString ".0",NameKind.local),(Str.ofString "out",NameKind.local),(Str.ofString "place",NameKind.free)],isGenerator:=false,isCoroutine:=false,more:=[]:Scope }
theorem QgT:QB ["out","place"] [none,some 1] Ql9 (Qb QbC) ["many","place"]:=⟨rfl,dk,dk,rfl,dk,dk⟩
def Qew:SD->Out D:=(eIf (tVal (e2 dEq (eVar 0) (eVar 1))) (eC (.int 1)) (eC (.int 0)))
def Qen:SD->Out Fl:=(sRetF (eComp [none,some 1] (itR1 (eVar 0)) (gN 0) cTrue Qew))
def QbD:List D->Out D:=bodyF true 2 2 Qen
theorem Qsc(d0 d1:D):QbD [d0,d1]=(Qen [some (.k,d0),some (.k,d1)]>>=retF true):=rfl
theorem QuC(F:FunV K "single_row" "single_row" QbC f fd dV)(z_range:mg "range"=none):"f"^1 ["many","place"] true QbD:=
 (@fnV P w K mg base CT true _ _ _ f fd dV _ _ 0 Qen F Qq8 fun cdv A outer s H E G hr=>
  (Qg (QbI (QO rfl QgT (DI.b (Qaw rfl z_range (DE.db (Qa 0)))) (fun ς=>QC (Qu rfl ς)) (Qy _) (fun fp s H G p=>⟨(QD (i:=0) QgT.nd rfl (oi rfl) (hf:=Or.inr rfl)),QM,(de_if (dt_eq hr.units (DE.db (Qa 0)) (DE.db (Qa 1))) Qe Qe)⟩)))) :)
abbrev Qb8:Stmt:=inCls (top 23) 0
theorem QrU:Qr ["self","many"] ["self","many"] (Qb Qb8):=⟨rfl,rfl,rfl,dk,rfl,dk,dk⟩
abbrev QoN:Scope:={ kind:=ScopeKind.function,names:=[ (Str.ofString ".0",NameKind.local),(Str.ofString "state",NameKind.local),(Str.ofString "single_row",NameKind.globalImplicit),(Str.ofString "many",NameKind.free)],isGenerator:=false,isCoroutine:=false,more:=[]:Scope }
theorem Qif:QB ["state","many"] [none,some 1] QoN (Qb Qb8) ["self","many"]:=⟨rfl,dk,dk,rfl,dk,dk⟩
def Qe5:SD->Out D:=(eA (fun xs=>QbD (xs++[])) (aCons (eVar 1) (aCons (eVar 0) aNil)))
def QeC:SD->Out Fl:=(sSeq (fun ς=>noX ((sIf (tNot' (tVal (eA (fun xs=>Qaj (xs++[])) (aCons (eVar 1) (aCons (eC (.int 1)) (aCons (eC (.int 6)) aNil)))))) Qdz sNil) ς)) (QeS Qd "keep_rows" QK 0 (fun ς=>noX ((aCons (eComp [none,some 1] (itR1 (eVar 1)) (gN 0) cTrue Qe5) aNil) ς))))
def Qb9:Str->List (Str×D)->List D->Out (List (Str×D)):=bodyI 2 2 QeC
theorem Qx6(c:Str)(fds:List (Str×D))(d1:D):Qb9 c fds [d1]=(QeC [some (.s,.ins c fds),some (.k,d1)]>>=Qdb c):=rfl
theorem Qyb{u_MOST_OUTS:Value}(F:FunV K "__init__" "Deal.__init__" Qb8 f fd dV)(QbX:"e"^Qaj "is_within" 2 false)(QtS:"e"^QbD "single_row" 1 true)(z_range:mg "range"=none)(c_MOST_OUTS:mg "MOST_OUTS"=some u_MOST_OUTS)(r_MOST_OUTS:RelV (toV (.int 6)) u_MOST_OUTS)(ms_keep_rows:MtOk P w K mg base CT (CXR P w) "keep_rows" 3 Qd (fun _=>SpI K CT QK)):FnOk P w K mg base (CXR P w) 4 f fd ["self","many"] (SpI K CT Qb9):=
 (@fnI P w K mg base CT _ _ _ f fd dV _ _ 3 QeC F QrU fun cdv A outer s H E G p hr=>
  (Qf (DS.lift (ds_if (QY (Q3 (de_f QbX (Rm hr) (Qc (Qa 1) (Qc Qe (Qc (QcQ (d:=(.int 6)) rfl c_MOST_OUTS rfl r_MOST_OUTS) Qi))) rfl))) (Qg Qcy) QR)) (Qg (Qhr 0 QmD ms_keep_rows (Rm hr) (DA.lift (Qc (DF.de (QO rfl Qif (DI.b (Qaw rfl z_range (DE.db (Qa 1)))) (fun ς=>QC (Qu rfl ς)) (Qy _) (fun fp s H G p=>⟨(QD (i:=0) Qif.nd rfl (oi rfl) (hf:=Or.inr rfl)),QM,(de_f QtS (Rm hr) (Qc (Qa 1) (Qc (Qa 0) Qi)) rfl)⟩))) Qi)) rfl (oi rfl)))) :)
abbrev Qbe:Stmt:=inCls (top 24) 0
theorem Qo6:Qr ["self","size"] ["self","size"] (Qb Qbe):=⟨rfl,rfl,rfl,dk,rfl,dk,dk⟩
abbrev Qk1:Scope:={ kind:=ScopeKind.function,names:=[ (Str.ofString ".0",NameKind.local),(Str.ofString "state",NameKind.local),(Str.ofString "size",NameKind.free)],isGenerator:=false,isCoroutine:=false,more:=[]:Scope }
theorem Qf5:QB ["state","size"] [none,some 1] Qk1 (Qb Qbe) ["self","size"]:=⟨rfl,dk,dk,rfl,dk,dk⟩
def Qee:SD->Out D:=(eLst (aCons (eIf (tVal (e2 dEq (eVar 0) (e2 dSub (eVar 1) (eC (.int 1))))) (eC (.int 1)) (eC (.int 0))) aNil))
def QdP:SD->Out Fl:=(sSeq (fun ς=>noX ((sIf (tNot' (tVal (eA (fun xs=>Qaj (xs++[])) (aCons (eVar 1) (aCons (eC (.int 1)) (aCons (eC (.int 12)) aNil)))))) Qdz sNil) ς)) (QeS Qd "keep_rows" QK 0 (fun ς=>noX ((aCons (eComp [none,some 1] (itR1 (eVar 1)) (gN 0) cTrue Qee) aNil) ς))))
def Qbc:Str->List (Str×D)->List D->Out (List (Str×D)):=bodyI 2 2 QdP
theorem Qp5(c:Str)(fds:List (Str×D))(d1:D):Qbc c fds [d1]=(QdP [some (.s,.ins c fds),some (.k,d1)]>>=Qdb c):=rfl
theorem Qq7{u_MOST_ROWS:Value}(F:FunV K "__init__" "Bundle.__init__" Qbe f fd dV)(QbX:"e"^Qaj "is_within" 2 false)(z_range:mg "range"=none)(c_MOST_ROWS:mg "MOST_ROWS"=some u_MOST_ROWS)(r_MOST_ROWS:RelV (toV (.int 12)) u_MOST_ROWS)(ms_keep_rows:MtOk P w K mg base CT (CXR P w) "keep_rows" 3 Qd (fun _=>SpI K CT QK)):FnOk P w K mg base (CXR P w) 4 f fd ["self","size"] (SpI K CT Qbc):=
 (@fnI P w K mg base CT _ _ _ f fd dV _ _ 3 QdP F Qo6 fun cdv A outer s H E G p hr=>
  (Qf (DS.lift (ds_if (QY (Q3 (de_f QbX (Rm hr) (Qc (Qa 1) (Qc Qe (Qc (QcQ (d:=(.int 12)) rfl c_MOST_ROWS rfl r_MOST_ROWS) Qi))) rfl))) (Qg Qcy) QR)) (Qg (Qhr 0 QmD ms_keep_rows (Rm hr) (DA.lift (Qc (DF.de (QO rfl Qf5 (DI.b (Qaw rfl z_range (DE.db (Qa 1)))) (fun ς=>QC (Qu rfl ς)) (Qy _) (fun fp s H G p=>⟨(QD (i:=0) Qf5.nd rfl (oi rfl) (hf:=Or.inr rfl)),QM,(DF.de (QaO (Qc (de_if (dt_eq hr.units (DE.db (Qa 0)) (DE.db (Qc1 (DE.db (Qa 1)) (DE.db Qe)))) Qe Qe) Qi)))⟩))) Qi)) rfl (oi rfl)))) :)
abbrev QcN:Stmt:=inCls (top 25) 0
theorem Qtm:Qr ["self","counts"] ["self","counts"] (Qb QcN):=⟨rfl,rfl,rfl,dk,rfl,dk,dk⟩
def QeL:SD->Out Fl:=(sSeq (fun ς=>noX ((sIf (tNot' (tVal (eA (fun xs=>Qcu (xs++[])) (aCons (eVar 1) aNil)))) Qdz sNil) ς)) (QeS Qd "keep_rows" QK 0 (fun ς=>noX ((aCons (eLst (aCons (eVar 1) aNil)) aNil) ς))))
def Qb7:Str->List (Str×D)->List D->Out (List (Str×D)):=bodyI 2 2 QeL
theorem QxX(c:Str)(fds:List (Str×D))(d1:D):Qb7 c fds [d1]=(QeL [some (.s,.ins c fds),some (.k,d1)]>>=Qdb c):=rfl
theorem Qyh(F:FunV K "__init__" "Copy.__init__" QcN f fd dV)(QkY:"e"^Qcu "is_row" 3 false)(ms_keep_rows:MtOk P w K mg base CT (CXR P w) "keep_rows" 3 Qd (fun _=>SpI K CT QK)):FnOk P w K mg base (CXR P w) 4 f fd ["self","counts"] (SpI K CT Qb7):=
 (@fnI P w K mg base CT _ _ _ f fd dV _ _ 3 QeL F Qtm fun cdv A outer s H E G p hr=>
  (Qf (DS.lift (ds_if (QY (Q3 (de_f QkY (Rm hr) (Qc (Qa 1) Qi) rfl))) (Qg Qcy) QR)) (Qg (Qhr 0 QmD ms_keep_rows (Rm hr) (DA.lift (Qc (DF.de (QaO (Qc (Qa 1) Qi))) Qi)) rfl (oi rfl)))) :)
abbrev Qaz:Stmt:=top 56
theorem QbB:Qr ["_law_number","_law_top","_law_size","_law_many","_law_rows","_law_s"] ["_law_number","_law_top"] (Qb Qaz):=⟨rfl,rfl,rfl,dk,rfl,dk,dk⟩
abbrev QgV:Scope:={ kind:=ScopeKind.function,names:=[ (Str.ofString ".0",NameKind.local),(Str.ofString "_law_s",NameKind.cell),(Str.ofString "range",NameKind.globalImplicit),(Str.ofString "_law_many",NameKind.free)],isGenerator:=false,isCoroutine:=false,more:=[]:Scope }
theorem Qh1:QB ["_law_s","_law_many"] [none,some 3] QgV (Qb Qaz) ["_law_number","_law_top","_law_size","_law_many","_law_rows","_law_s"]:=⟨rfl,dk,dk,rfl,dk,dk⟩
abbrev QmU:Scope:={ kind:=ScopeKind.function,names:=[ (Str.ofString ".0",NameKind.local),(Str.ofString "_law_k",NameKind.local),(Str.ofString "int",NameKind.globalImplicit),(Str.ofString "_law_s",NameKind.free)],isGenerator:=false,isCoroutine:=false,more:=[]:Scope }
theorem QhM:QB ["_law_k","_law_s"] [none,some 0] QmU (Qc7 QgV (Qb Qaz)) ["_law_s","_law_many"]:=⟨rfl,dk,dk,rfl,dk,dk⟩
def QhU:SD->Out D:=(eA (f1 dInt) (aCons (e2 dEq (eVar 0) (eVar 1)) aNil))
def Qe6:SD->Out D:=(eComp [none,some 0] (itR1 (eVar 1)) (gN 0) cTrue QhU)
abbrev Qou:Scope:={ kind:=ScopeKind.function,names:=[ (Str.ofString ".0",NameKind.local),(Str.ofString "_law_s",NameKind.local),(Str.ofString "int",NameKind.globalImplicit),(Str.ofString "_law_many",NameKind.free)],isGenerator:=false,isCoroutine:=false,more:=[]:Scope }
theorem Qic:QB ["_law_s","_law_many"] [none,some 3] Qou (Qb Qaz) ["_law_number","_law_top","_law_size","_law_many","_law_rows","_law_s"]:=⟨rfl,dk,dk,rfl,dk,dk⟩
def QeZ:SD->Out D:=(eLst (aCons (eA (f1 dInt) (aCons (e2 dEq (eVar 0) (e2 dSub (eVar 1) (eC (.int 1)))) aNil)) aNil))
abbrev Qo1:Scope:={ kind:=ScopeKind.function,names:=[ (Str.ofString ".0",NameKind.local),(Str.ofString "_law_k",NameKind.local),(Str.ofString "_law_number",NameKind.free),(Str.ofString "_law_s",NameKind.free),(Str.ofString "_law_top",NameKind.free)],isGenerator:=false,isCoroutine:=false,more:=[]:Scope }
theorem QhQ:QB ["_law_k","_law_number","_law_s","_law_top"] [none,some 0,some 5,some 1] Qo1 (Qb Qaz) ["_law_number","_law_top","_law_size","_law_many","_law_rows","_law_s"]:=⟨rfl,dk,dk,rfl,dk,dk⟩
def Qe2:SD->Out D:=(e2 dMod (e2 dMod (e2 dMul (eVar 1) (e2 dAdd (e2 dAdd (e2 dMul (eC (.int 7)) (eVar 2)) (e2 dMul (eC (.int 2)) (eVar 0))) (eC (.int 3)))) (eC (.int 1000003))) (eVar 3))
def QcG:SD->Out Fl:=(Qa1 4 (eComp [none,some 0,some 5,some 1] (itR1 (e2 dMod (eVar 2) (eC (.int 5)))) (gN 0) cTrue Qe2))
abbrev Qo7:Scope:={ kind:=ScopeKind.function,names:=[ (Str.ofString ".0",NameKind.local),(Str.ofString "_law_row",NameKind.local),(Str.ofString "list",NameKind.globalImplicit)],isGenerator:=false,isCoroutine:=false,more:=[]:Scope }
theorem Qih:QB ["_law_row"] [none] Qo7 (Qb Qaz) ["_law_number","_law_top","_law_size","_law_many","_law_rows","_law_s"]:=⟨rfl,dk,dk,rfl,dk,dk⟩
def Qfc:SD->Out D:=(e1 dList (eVar 0))
def Qb3:SD->Out Fl:=(sSeq (sSet 2 (e2 dFdiv (eVar 0) (eC (.int 4)))) (sSeq (sIf (tVal (e2 dEq (e2 dMod (eVar 0) (eC (.int 4))) (eC (.int 0)))) (sSeq (sSet 3 (e2 dAdd (eC (.int 1)) (e2 dMod (eVar 2) (eC (.int 6))))) (sRetF (eLst (aCons (eMake "Deal" Qb9 (aCons (eVar 3) aNil)) (aCons (eComp [none,some 3] (itR1 (eVar 3)) (gN 0) cTrue Qe6) aNil))))) sNil) (sSeq (sIf (tVal (e2 dEq (e2 dMod (eVar 0) (eC (.int 4))) (eC (.int 1)))) (sSeq (sSet 3 (e2 dAdd (eC (.int 1)) (e2 dMod (eVar 2) (eC (.int 12))))) (sRetF (eLst (aCons (eMake "Bundle" Qbc (aCons (eVar 3) aNil)) (aCons (eComp [none,some 3] (itR1 (eVar 3)) (gN 0) cTrue QeZ) aNil))))) sNil) (sSeq (sSet 3 (e2 dAdd (eC (.int 1)) (e2 dMul (e2 dMod (e2 dFdiv (eVar 2) (eC (.int 7))) (eC (.int 12))) (eA (f1 dInt) (aCons (e2 dEq (e2 dMod (eVar 0) (eC (.int 4))) (eC (.int 3))) aNil))))) (sSeq (sSetO 4 (eLst aNil)) (sSeq (sFor (gN 5) (itR1 (eVar 3)) QcG) (sSeq (sIf (tVal (e2 dEq (e2 dMod (eVar 0) (eC (.int 4))) (eC (.int 2)))) (fun ς=>(sRetF (eLst (aCons (eMake "Copy" Qb7 (aCons (e1 dList (e2 dIx (eVar 4) (eC (.int 0)))) aNil)) (aCons (eVar 4) aNil)))) (frz 4 ς)) sNil) (fun ς=>(sRetF (eLst (aCons (eMake "Rows" Qb6 (aCons (eComp [none] (itL (eVar 4)) (gN 0) cTrue Qfc) aNil)) (aCons (eVar 4) aNil)))) (frz 4 ς)))))))))
def QaA:List D->Out D:=bodyF true 2 6 Qb3
theorem QeF(d0 d1:D):QaA [d0,d1]=(Qb3 [some (.k,d0),some (.k,d1),none,none,none,none]>>=retF true):=rfl
theorem Qv1(F:FunV K "_law_clerk" "_law_clerk" Qaz f fd dV)(z_range:mg "range"=none)(z_int:mg "int"=none)(z_list:mg "list"=none)(Qn9:MkOk P w K mg base CT "Deal" 4 Qb9)(Qjd:MkOk P w K mg base CT "Bundle" 4 Qbc)(QoT:MkOk P w K mg base CT "Copy" 4 Qb7)(Qod:MkOk P w K mg base CT "Rows" 5 Qb6):"f"^7 ["_law_number","_law_top"] true QaA:=
 (@fnV P w K mg base CT true _ _ _ f fd dV _ _ 6 Qb3 F QbB fun cdv A outer s H E G hr=>
  (Qf (Qac (i:=2) QbB.nd rfl (oi rfl) (QcL (DE.db (Qa 0)) (DE.db Qe))) (Qf (ds_if (dt_eq hr.units (DE.db (Qap (DE.db (Qa 0)) (DE.db Qe))) (DE.db Qe)) (Qf (Qac (i:=3) QbB.nd rfl (Or.inr rfl) (QaD (DE.db Qe) (DE.db (Qap (DE.db (Qa 2)) (DE.db Qe))))) (Qg (QbI (QaO (Qc (DF.de (QgL rz0 Qn9 (Rm hr) (Qc (Qa 3) Qi) rfl)) (Qc (DF.de (QO rfl Qh1 (DI.b (Qaw rfl z_range (DE.db (Qa 3)))) (fun ς=>QC (Qu rfl ς)) (Qy _) (fun fp s H G p=>⟨(QD (i:=0) Qh1.nd rfl (Or.inr rfl) (hf:=Or.inl rfl)),QM,(DF.de (QO rfl QhM (DI.b (Qaw rfl z_range (DE.db (Qa 1)))) (fun ς=>QC (Qu rfl ς)) (Qy _) (fun fp s H G p=>⟨(QD (i:=0) QhM.nd rfl (oi rfl) (hf:=Or.inr rfl)),QM,(QjY rfl z_int (Qo (DE.db (de_eq hr.units (DE.db (Qa 0)) (DE.db (Qa 1)))) Qv))⟩)))⟩))) Qi)))))) QR) (Qf (ds_if (dt_eq hr.units (DE.db (Qap (DE.db (Qa 0)) (DE.db Qe))) (DE.db Qe)) (Qf (Qac (i:=3) QbB.nd rfl (Or.inr rfl) (QaD (DE.db Qe) (DE.db (Qap (DE.db (Qa 2)) (DE.db Qe))))) (Qg (QbI (QaO (Qc (DF.de (QgL rz0 Qjd (Rm hr) (Qc (Qa 3) Qi) rfl)) (Qc (DF.de (QO rfl Qic (DI.b (Qaw rfl z_range (DE.db (Qa 3)))) (fun ς=>QC (Qu rfl ς)) (Qy _) (fun fp s H G p=>⟨(QD (i:=0) Qic.nd rfl (oi rfl) (hf:=Or.inr rfl)),QM,(DF.de (QaO (Qc (QjY rfl z_int (Qo (DE.db (de_eq hr.units (DE.db (Qa 0)) (DE.db (Qc1 (DE.db (Qa 1)) (DE.db Qe))))) Qv)) Qi)))⟩))) Qi)))))) QR) (Qf (Qac (i:=3) QbB.nd rfl (Or.inr rfl) (QaD (DE.db Qe) (DE.db (Qda (DE.db (Qap (DE.db (QcL (DE.db (Qa 2)) (DE.db Qe))) (DE.db Qe))) (DE.db (QjY rfl z_int (Qo (DE.db (de_eq hr.units (DE.db (Qap (DE.db (Qa 0)) (DE.db Qe))) (DE.db Qe))) Qv))))))) (Qf (QcS (i:=4) QbB.nd rfl (oi rfl) (QaO Qi)) (Qf (QbL PassesOwn.never rfl (Qaw rfl z_range (DE.db (Qa 3))) (QD (i:=5) QbB.nd rfl (Or.inr rfl)) (Qy _) (Qg (Qcp 4 (DF.de (QO rfl QhQ (DI.b (Qaw rfl z_range (DE.db (Qap (DE.db (Qa 2)) (DE.db Qe))))) (fun ς=>QC (Qu rfl ς)) (Qy _) (fun fp s H G p=>⟨(QD (i:=0) QhQ.nd rfl (oi rfl) (hf:=Or.inr rfl)),QM,(Qap (DE.db (Qap (DE.db (Qda (DE.db (Qa 1)) (DE.db (QaD (DE.db (QaD (DE.db (Qda (DE.db Qe) (DE.db (Qa 2)))) (DE.db (Qda (DE.db Qe) (DE.db (Qa 0)))))) (DE.db Qe))))) (DE.db Qe))) (DE.db (Qa 3)))⟩))) rfl (oi rfl)))) (Qf (ds_if (dt_eq hr.units (DE.db (Qap (DE.db (Qa 0)) (DE.db Qe))) (DE.db Qe)) (Qg (Qlh 4 (QbI (QaO (Qc (DF.de (QgL rz0 QoT (Rm hr) (Qc (DF.de (Qex rfl z_list (de_ix (Qa 4) (DE.db Qe)))) Qi) rfl)) (Qc (Qa 4) Qi)))))) QR) (Qg (Qlh 4 (QbI (QaO (Qc (DF.de (QgL rz0 Qod (Rm hr) (Qc (DF.de (QO rfl Qih (DI.b (Qag (Qa 4))) (fun ς=>QC (Qu rfl ς)) (Qy _) (fun fp s H G p=>⟨(QD (i:=0) Qih.nd rfl (oi rfl) (hf:=Or.inr rfl)),QM,(DF.de (Qex rfl z_list (Qa 0)))⟩))) Qi) rfl)) (Qc (Qa 4) Qi))))))))))))) :)
abbrev QcO:Stmt:=top 47
theorem Qcf:Qr ["names","doors","places","k","name","d","door"] ["names","doors"] (Qb QcO):=⟨rfl,rfl,rfl,dk,rfl,dk,dk⟩
def QdG:SD->Out Fl:=(sPutD 2 (eVar 4) (eVar 3))
def QdJ:SD->Out Fl:=(sPutD 2 (eVar 6) (e2 dSub (e1 dNeg (eC (.int 1))) (eVar 5)))
def QeM:SD->Out Fl:=(sSeq (sSetO 2 eDic0) (sSeq (sFor (gT [3,4]) (itE (eVar 0)) QdG) (sSeq (sFor (gT [5,6]) (itE (eVar 1)) QdJ) (sRetO 2))))
def Qb4:List D->Out D:=bodyF true 2 7 QeM
theorem QyS(d0 d1:D):Qb4 [d0,d1]=(QeM [some (.k,d0),some (.k,d1),none,none,none,none,none]>>=retF true):=rfl
theorem Qwp(F:FunV K "places_of" "places_of" QcO f fd dV)(z_enumerate:mg "enumerate"=none):"f"^1 ["names","doors"] true Qb4:=
 (@fnV P w K mg base CT true _ _ _ f fd dV _ _ 0 QeM F Qcf fun cdv A outer s H E G hr=>
  (Qf (QcS (i:=2) Qcf.nd rfl (oi rfl) Qzh) (Qf (QbL PassesOwn.never rfl (Qzw rfl z_enumerate (Qa 0)) (QeP rfl (Q4 (i:=3) Qcf.nd rfl (oi rfl) (Q4 (i:=4) Qcf.nd rfl (oi rfl) QcR))) (Qc5 _) (Qg (Qoq hr.units 2 (DE.db (Qa 4)) (Qa 3) rfl (oi rfl)))) (Qf (QbL PassesOwn.never rfl (Qzw rfl z_enumerate (Qa 1)) (QeP rfl (Q4 (i:=5) Qcf.nd rfl (oi rfl) (Q4 (i:=6) Qcf.nd rfl (oi rfl) QcR))) (Qc5 _) (Qg (Qoq hr.units 2 (DE.db (Qa 6)) (Qc1 (DE.db (QeX (DE.db Qe))) (DE.db (Qa 5))) rfl (oi rfl)))) (Qg (QjT 2 rfl (oi rfl)))))) :)
abbrev Qd2:Stmt:=top 39
theorem QBC:Qr ["thing","most"] ["thing","most"] (Qb Qd2):=⟨rfl,rfl,rfl,dk,rfl,dk,dk⟩
def Qga:SD->Out Fl:=(sRet (eAnd (eIsa (isaT "list") (eVar 0)) (Qdc dLe dLe (eC (.int 1)) (eA fLen (aCons (eVar 0) aNil)) (eVar 1))))
def QaV:List D->Out D:=bodyF false 2 2 Qga
theorem QC9(d0 d1:D):QaV [d0,d1]=(Qga [some (.k,d0),some (.k,d1)]>>=retF false):=rfl
theorem QCv(F:FunV K "is_list" "is_list" Qd2 f fd dV)(z_isinstance:mg "isinstance"=none)(z_list:mg "list"=none)(z_len:mg "len"=none):"f"^1 ["thing","most"] false QaV:=
 (@fnV P w K mg base CT false _ _ _ f fd dV _ _ 0 Qga F QBC fun cdv A outer s H E G hr=>
  (Qg (QG (Qcm (Qa2 "list" Qes rfl z_list PyProof.Rows.Boot.«list» rfl z_isinstance (DE.db (Qa 0))) (Qdw (Qu2 op_le Qbr (Qa3 fun _ _=>rfl) op_le Qbr (Qa3 fun _ _=>rfl) (DE.db Qe) (DE.db (QT rfl z_len (Qo (DE.db (Qa 0)) Qv))) (DE.db (Qa 1))))))) :)
abbrev Qcl:Stmt:=top 40
theorem Qrg:Qr ["names"] ["names"] (Qb Qcl):=⟨rfl,rfl,rfl,dk,rfl,dk,dk⟩
def Qeo:SD->Out Fl:=(sRet (e2 dEq (e1 QoC (eVar 0)) (eA fLen (aCons (eVar 0) aNil))))
def QX:List D->Out D:=bodyF false 1 1 Qeo
theorem Qti(d0:D):QX [d0]=(Qeo [some (.k,d0)]>>=retF false):=rfl
theorem QuT(F:FunV K "all_unlike" "all_unlike" Qcl f fd dV)(z_len:mg "len"=none)(z_set:mg "set"=none):"f"^1 ["names"] false QX:=
 (@fnV P w K mg base CT false _ _ _ f fd dV _ _ 0 Qeo F Qrg fun cdv A outer s H E G hr=>
  (Qg (QG (de_eq hr.units (DE.db (QDw hr.hd rfl z_len rfl z_set (DE.db (Qa 0)))) (DE.db (QT rfl z_len (Qo (DE.db (Qa 0)) Qv)))))) :)
abbrev Qc2:Stmt:=top 38
theorem QAz:Qr ["thing"] ["thing"] (Qb Qc2):=⟨rfl,rfl,rfl,dk,rfl,dk,dk⟩
abbrev Qu9:Scope:={ kind:=ScopeKind.function,names:=[ (Str.ofString ".0",NameKind.local),(Str.ofString "sign",NameKind.local),(Str.ofString "LETTERS",NameKind.globalImplicit)],isGenerator:=false,isCoroutine:=false,more:=[]:Scope }
theorem Qku:QB ["sign"] [none] Qu9 (Qb Qc2) ["thing"]:=⟨rfl,dk,dk,rfl,dk,dk⟩
def Qxl:SD->Out D:=(e2 dIn (eVar 0) (eC (.str "abcdefghijklmnopqrstuvwxyz")))
def Qpx:SD->Out Fl:=(sSeq (sIf (tOr' (tNot' (tVal (eIsa (isaT "str") (eVar 0)))) (tNot' (tVal (Qdc dLe dLe (eC (.int 1)) (eA fLen (aCons (eVar 0) aNil)) (eC (.int 6)))))) (sRet (eC (.bl false))) sNil) (sRet (eA (f1 fAll) (aCons (eComp [none] (itS (eVar 0)) (gN 0) cTrue Qxl) aNil))))
def Qao:List D->Out D:=bodyF false 1 1 Qpx
theorem QDd{u_MOST_SIGNS:Value}{u_LETTERS:Value}(F:FunV K "is_name" "is_name" Qc2 f fd dV)(z_isinstance:mg "isinstance"=none)(z_str:mg "str"=none)(z_len:mg "len"=none)(z_all:mg "all"=none)(c_MOST_SIGNS:mg "MOST_SIGNS"=some u_MOST_SIGNS)(r_MOST_SIGNS:RelV (toV (.int 6)) u_MOST_SIGNS)(c_LETTERS:mg "LETTERS"=some u_LETTERS)(r_LETTERS:RelV (toV (.str "abcdefghijklmnopqrstuvwxyz")) u_LETTERS):"f"^1 ["thing"] false Qao:=
 (@fnV P w K mg base CT false _ _ _ f fd dV _ _ 0 Qpx F QAz fun cdv A outer s H E G hr=>
  (Qf (ds_if (DW.dt (dw_or (QY (Q3 (Qa2 "str" Qzk rfl z_str PyProof.Rows.Boot.«str» rfl z_isinstance (DE.db (Qa 0))))) (QbO (QY (Qtw op_le Qbr (Qa3 fun _ _=>rfl) op_le Qbr (Qa3 fun _ _=>rfl) (DE.db Qe) (DE.db (QT rfl z_len (Qo (DE.db (Qa 0)) Qv))) (DE.db (QcQ (d:=(.int 6)) rfl c_MOST_SIGNS rfl r_MOST_SIGNS))))))) (Qg (QG de_bl)) QR) (Qg (QG (QeV rfl rfl z_all (Qo (DE.db (DF.de (QO rfl Qku (DI.b (QHo (DE.db (Qa 0)))) (fun ς=>QC (Qu rfl ς)) (Qy _) (fun fp s H G p=>⟨(QD (i:=0) Qku.nd rfl (oi rfl) (hf:=Or.inr rfl)),QM,(de_in (DE.db (Qa 0)) (DE.db (QcQ (d:=(.str "abcdefghijklmnopqrstuvwxyz")) rfl c_LETTERS rfl r_LETTERS)))⟩)))) Qv))))) :)
abbrev Qb5:Stmt:=top 41
theorem QsS:Qr ["thing","most"] ["thing","most"] (Qb Qb5):=⟨rfl,rfl,rfl,dk,rfl,dk,dk⟩
abbrev Qnd:Scope:={ kind:=ScopeKind.function,names:=[ (Str.ofString ".0",NameKind.local),(Str.ofString "name",NameKind.local),(Str.ofString "is_name",NameKind.globalImplicit)],isGenerator:=false,isCoroutine:=false,more:=[]:Scope }
theorem QhV:QB ["name"] [none] Qnd (Qb Qb5) ["thing","most"]:=⟨rfl,dk,dk,rfl,dk,dk⟩
def Qfa:SD->Out D:=(eA (fun xs=>Qao (xs++[])) (aCons (eVar 0) aNil))
def QeG:SD->Out Fl:=(sRet (eAnd (eA (fun xs=>QaV (xs++[])) (aCons (eVar 0) (aCons (eVar 1) aNil))) (eAnd (eA (f1 fAll) (aCons (eComp [none] (itL (eVar 0)) (gN 0) cTrue Qfa) aNil)) (eA (fun xs=>QX (xs++[])) (aCons (eVar 0) aNil)))))
def QbV:List D->Out D:=bodyF false 2 2 QeG
theorem Qww(d0 d1:D):QbV [d0,d1]=(QeG [some (.k,d0),some (.k,d1)]>>=retF false):=rfl
theorem QvJ(F:FunV K "are_names" "are_names" Qb5 f fd dV)(QeW:"e"^QaV "is_list" 1 false)(QdZ:"e"^Qao "is_name" 1 false)(Qc4:"e"^QX "all_unlike" 1 false)(z_all:mg "all"=none):"f"^2 ["thing","most"] false QbV:=
 (@fnV P w K mg base CT false _ _ _ f fd dV _ _ 1 QeG F QsS fun cdv A outer s H E G hr=>
  (Qg (QG (Qcm (de_f QeW (Rm hr) (Qc (Qa 0) (Qc (Qa 1) Qi)) rfl) (Qcm (QeV rfl rfl z_all (Qo (DE.db (DF.de (QO rfl QhV (DI.b (Qag (Qa 0))) (fun ς=>QC (Qu rfl ς)) (Qy _) (fun fp s H G p=>⟨(QD (i:=0) QhV.nd rfl (oi rfl) (hf:=Or.inr rfl)),QM,(de_f QdZ (Rm hr) (Qc (Qa 0) Qi) rfl)⟩)))) Qv)) (Qdw (de_f Qc4 (Rm hr) (Qc (Qa 0) Qi) rfl)))))) :)
abbrev QbY:Stmt:=top 42
theorem Qtx:Qr ["thing","many"] ["thing","many"] (Qb QbY):=⟨rfl,rfl,rfl,dk,rfl,dk,dk⟩
abbrev QoR:Scope:={ kind:=ScopeKind.function,names:=[ (Str.ofString ".0",NameKind.local),(Str.ofString "text",NameKind.local),(Str.ofString "isinstance",NameKind.globalImplicit),(Str.ofString "str",NameKind.globalImplicit)],isGenerator:=false,isCoroutine:=false,more:=[]:Scope }
theorem Qh8:QB ["text"] [none] QoR (Qb QbY) ["thing","many"]:=⟨rfl,dk,dk,rfl,dk,dk⟩
def Qe7:SD->Out D:=(eIsa (isaT "str") (eVar 0))
def QeH:SD->Out Fl:=(sRet (eAnd (eIsa (isaT "list") (eVar 0)) (eAnd (e2 dEq (eA fLen (aCons (eVar 0) aNil)) (eVar 1)) (eA (f1 fAll) (aCons (eComp [none] (itL (eVar 0)) (gN 0) cTrue Qe7) aNil)))))
def QbU:List D->Out D:=bodyF false 2 2 QeH
theorem Qx5(d0 d1:D):QbU [d0,d1]=(QeH [some (.k,d0),some (.k,d1)]>>=retF false):=rfl
theorem QvM(F:FunV K "are_texts" "are_texts" QbY f fd dV)(z_isinstance:mg "isinstance"=none)(z_list:mg "list"=none)(z_len:mg "len"=none)(z_all:mg "all"=none)(z_str:mg "str"=none):"f"^1 ["thing","many"] false QbU:=
 (@fnV P w K mg base CT false _ _ _ f fd dV _ _ 0 QeH F Qtx fun cdv A outer s H E G hr=>
  (Qg (QG (Qcm (Qa2 "list" Qes rfl z_list PyProof.Rows.Boot.«list» rfl z_isinstance (DE.db (Qa 0))) (Qcm (de_eq hr.units (DE.db (QT rfl z_len (Qo (DE.db (Qa 0)) Qv))) (DE.db (Qa 1))) (Qdw (QeV rfl rfl z_all (Qo (DE.db (DF.de (QO rfl Qh8 (DI.b (Qag (Qa 0))) (fun ς=>QC (Qu rfl ς)) (Qy _) (fun fp s H G p=>⟨(QD (i:=0) Qh8.nd rfl (oi rfl) (hf:=Or.inr rfl)),QM,(Qa2 "str" Qzk rfl z_str PyProof.Rows.Boot.«str» rfl z_isinstance (DE.db (Qa 0)))⟩)))) Qv))))))) :)
abbrev Qdi:Stmt:=top 30
theorem QxZ:Qr ["thing"] ["thing"] (Qb Qdi):=⟨rfl,rfl,rfl,dk,rfl,dk,dk⟩
def Qfn:SD->Out Fl:=(sRet (eIsa (isaTs [[("Deal",true),("Bundle",false),("Copy",false),("Rows",false),("Office",false)],[("Deal",false),("Bundle",true),("Copy",false),("Rows",false),("Office",false)],[("Deal",false),("Bundle",false),("Copy",true),("Rows",false),("Office",false)],[("Deal",false),("Bundle",false),("Copy",false),("Rows",true),("Office",false)]]) (eVar 0)))
def Qcv:List D->Out D:=bodyF false 1 1 Qfn
theorem QAs(d0:D):Qcv [d0]=(Qfn [some (.k,d0)]>>=retF false):=rfl
theorem QA9{QH:Addr}{Qs:Addr}{QI:Addr}{QF:Addr}(F:FunV K "is_clerk" "is_clerk" Qdi f fd dV)(z_isinstance:mg "isinstance"=none)(QH2:mg "Deal"=some (.ref QH))(QEj:mg "Bundle"=some (.ref Qs))(QHu:mg "Copy"=some (.ref QI))(QHe:mg "Rows"=some (.ref QF))(Qoa:KitI K CT (.ref QH) [("Deal",true),("Bundle",false),("Copy",false),("Rows",false),("Office",false)])(QiD:KitI K CT (.ref Qs) [("Deal",false),("Bundle",true),("Copy",false),("Rows",false),("Office",false)])(Qm2:KitI K CT (.ref QI) [("Deal",false),("Bundle",false),("Copy",true),("Rows",false),("Office",false)])(QmY:KitI K CT (.ref QF) [("Deal",false),("Bundle",false),("Copy",false),("Rows",true),("Office",false)]):"f"^1 ["thing"] false Qcv:=
 (@fnV P w K mg base CT false _ _ _ f fd dV _ _ 0 Qfn F QxZ fun cdv A outer s H E G hr=>
  (Qg (QG (QFg (a:=QH) (as:=[Qs,QI,QF]) (Qhk (QgO (v:=.ref QH) rfl QH2 rfl) (Qhk (QgO (v:=.ref Qs) rfl QEj rfl) (Qhk (QgO (v:=.ref QI) rfl QHu rfl) (Qhk (QgO (v:=.ref QF) rfl QHe rfl) QFW)))) ⟨Qoa,QiD,Qm2,QmY,True.intro⟩ (by simp) rfl z_isinstance (DE.db (Qa 0))))) :)
abbrev Qci:Stmt:=inCls (top 22) 3
theorem QqN:Qr ["self"] ["self"] (Qb Qci):=⟨rfl,rfl,rfl,dk,rfl,dk,dk⟩
def Qd3:SD->Out Fl:=(sRet (eA fLen (aCons (e2 dIx (e1 (dFld Qj "table") (eVar 0)) (eC (.int 0))) aNil)))
def Qa7:List D->Out D:=bodyF false 1 1 Qd3
theorem Qt6(d0:D):Qa7 [d0]=(Qd3 [some (.k,d0)]>>=retF false):=rfl
theorem QtT(F:FunV K "outs" "Clerk.outs" Qci f fd dV)(z_len:mg "len"=none)(fo_table:FldOk K CT Qj "table"):"f"^1 ["self"] false Qa7:=
 (@fnV P w K mg base CT false _ _ _ f fd dV _ _ 0 Qd3 F QqN fun cdv A outer s H E G hr=>
  (Qg (QG (QT rfl z_len (Qo (DE.db (de_ix (Qfw fo_table (Qa 0)) (DE.db Qe))) Qv)))) :)
abbrev Qbv:Stmt:=inCls (top 22) 2
theorem Ql6:Qr ["self"] ["self"] (Qb Qbv):=⟨rfl,rfl,rfl,dk,rfl,dk,dk⟩
def Qdm:SD->Out Fl:=(sRet (eA fLen (aCons (e1 (dFld Qj "table") (eVar 0)) aNil)))
def QP:List D->Out D:=bodyF false 1 1 Qdm
theorem Qog(d0:D):QP [d0]=(Qdm [some (.k,d0)]>>=retF false):=rfl
theorem Qnz(F:FunV K "period" "Clerk.period" Qbv f fd dV)(z_len:mg "len"=none)(fo_table:FldOk K CT Qj "table"):"f"^1 ["self"] false QP:=
 (@fnV P w K mg base CT false _ _ _ f fd dV _ _ 0 Qdm F Ql6 fun cdv A outer s H E G hr=>
  (Qg (QG (QT rfl z_len (Qo (DE.db (Qfw fo_table (Qa 0))) Qv)))) :)
abbrev Qd0:Stmt:=top 43
theorem QzP:Qr ["thing"] ["thing"] (Qb Qd0):=⟨rfl,rfl,rfl,dk,rfl,dk,dk⟩
def Qgc:SD->Out Fl:=(sSeq (sIf (tOr' (tNot' (tVal (eIsa (isaT "tuple") (eVar 0)))) (tVal (e2 dNe (eA fLen (aCons (eVar 0) aNil)) (eC (.int 4))))) (sRet (eC (.bl false))) sNil) (sSeq (sIf (tOr' (tNot' (tVal (eA (fun xs=>Qao (xs++[])) (aCons (e2 dIx (eVar 0) (eC (.int 0))) aNil)))) (tNot' (tVal (eA (fun xs=>Qcv (xs++[])) (aCons (e2 dIx (eVar 0) (eC (.int 1))) aNil))))) (sRet (eC (.bl false))) sNil) (sRet (eAnd (eA (fun xs=>QbU (xs++[])) (aCons (e2 dIx (eVar 0) (eC (.int 2))) (aCons (eMeth Qd "outs" (fun _=>Qa7) (e2 dIx (eVar 0) (eC (.int 1))) aNil) aNil))) (eA (fun xs=>Qaj (xs++[])) (aCons (e2 dIx (eVar 0) (eC (.int 3))) (aCons (eC (.int 0)) (aCons (e2 dSub (eMeth Qd "period" (fun _=>QP) (e2 dIx (eVar 0) (eC (.int 1))) aNil) (eC (.int 1))) aNil))))))))
def Qc8:List D->Out D:=bodyF false 1 1 Qgc
theorem QBN(d0:D):Qc8 [d0]=(Qgc [some (.k,d0)]>>=retF false):=rfl
theorem QCU(F:FunV K "is_seat" "is_seat" Qd0 f fd dV)(QdZ:"e"^Qao "is_name" 1 false)(QBx:"e"^Qcv "is_clerk" 1 false)(Qwq:"e"^QbU "are_texts" 1 false)(QbX:"e"^Qaj "is_within" 2 false)(z_isinstance:mg "isinstance"=none)(z_tuple:mg "tuple"=none)(z_len:mg "len"=none)(mt_outs:MtOk P w K mg base CT CX0 "outs" 1 Qd (fun c=>SpD K CT false ((fun _=>Qa7) c)))(mt_period:MtOk P w K mg base CT CX0 "period" 1 Qd (fun c=>SpD K CT false ((fun _=>QP) c))):"f"^3 ["thing"] false Qc8:=
 (@fnV P w K mg base CT false _ _ _ f fd dV _ _ 2 Qgc F QzP fun cdv A outer s H E G hr=>
  (Qf (ds_if (DW.dt (dw_or (QY (Q3 (Qa2 "tuple" Qjb rfl z_tuple PyProof.Rows.Boot.«tuple» rfl z_isinstance (DE.db (Qa 0))))) (QbO (dt_ne hr.units (DE.db (QT rfl z_len (Qo (DE.db (Qa 0)) Qv))) (DE.db Qe))))) (Qg (QG de_bl)) QR) (Qf (ds_if (DW.dt (dw_or (QY (Q3 (de_f QdZ (Rm hr) (Qc (de_ix (Qa 0) (DE.db Qe)) Qi) rfl))) (QbO (QY (Q3 (de_f QBx (Rm hr) (Qc (de_ix (Qa 0) (DE.db Qe)) Qi) rfl)))))) (Qg (QG de_bl)) QR) (Qg (QG (Qcm (de_f Qwq (Rm hr) (Qc (de_ix (Qa 0) (DE.db Qe)) (Qc (Qcx mt_outs (Rm hr) (de_ix (Qa 0) (DE.db Qe))) Qi)) rfl) (Qdw (de_f QbX (Rm hr) (Qc (de_ix (Qa 0) (DE.db Qe)) (Qc Qe (Qc (Qc1 (DE.db (Qcx mt_period (Rm hr) (de_ix (Qa 0) (DE.db Qe)))) (DE.db Qe)) Qi))) rfl))))))) :)
abbrev Qbo:Stmt:=top 44
theorem Qvr:Qr ["thing","doors"] ["thing","doors"] (Qb Qbo):=⟨rfl,rfl,rfl,dk,rfl,dk,dk⟩
abbrev QnF:Scope:={ kind:=ScopeKind.function,names:=[ (Str.ofString ".0",NameKind.local),(Str.ofString "seat",NameKind.local),(Str.ofString "is_seat",NameKind.globalImplicit)],isGenerator:=false,isCoroutine:=false,more:=[]:Scope }
theorem Qh6:QB ["seat"] [none] QnF (Qb Qbo) ["thing","doors"]:=⟨rfl,dk,dk,rfl,dk,dk⟩
def Qe3:SD->Out D:=(eA (fun xs=>Qc8 (xs++[])) (aCons (eVar 0) aNil))
abbrev Qpf:Scope:={ kind:=ScopeKind.function,names:=[(Str.ofString ".0",NameKind.local),(Str.ofString "seat",NameKind.local)],isGenerator:=false,isCoroutine:=false,more:=[]:Scope }
theorem QhX:QB ["seat"] [none] Qpf (Qb Qbo) ["thing","doors"]:=⟨rfl,dk,dk,rfl,dk,dk⟩
def Qe0:SD->Out D:=(e2 dIx (eVar 0) (eC (.int 0)))
def QeI:SD->Out Fl:=(sSeq (sIf (tOr' (tNot' (tVal (eA (fun xs=>QaV (xs++[])) (aCons (eVar 0) (aCons (eC (.int 60)) aNil))))) (tNot' (tVal (eA (f1 fAll) (aCons (eComp [none] (itL (eVar 0)) (gN 0) cTrue Qe3) aNil))))) (sRet (eC (.bl false))) sNil) (sRet (eA (fun xs=>QX (xs++[])) (aCons (e2 dCat (eComp [none] (itL (eVar 0)) (gN 0) cTrue Qe0) (eVar 1)) aNil))))
def QbZ:List D->Out D:=bodyF false 2 2 QeI
theorem QyX(d0 d1:D):QbZ [d0,d1]=(QeI [some (.k,d0),some (.k,d1)]>>=retF false):=rfl
theorem QyT{u_MOST_CLERKS:Value}(F:FunV K "are_seats" "are_seats" Qbo f fd dV)(QeW:"e"^QaV "is_list" 1 false)(QCr:"e"^Qc8 "is_seat" 3 false)(Qc4:"e"^QX "all_unlike" 1 false)(z_all:mg "all"=none)(c_MOST_CLERKS:mg "MOST_CLERKS"=some u_MOST_CLERKS)(r_MOST_CLERKS:RelV (toV (.int 60)) u_MOST_CLERKS):"f"^4 ["thing","doors"] false QbZ:=
 (@fnV P w K mg base CT false _ _ _ f fd dV _ _ 3 QeI F Qvr fun cdv A outer s H E G hr=>
  (Qf (ds_if (DW.dt (dw_or (QY (Q3 (de_f QeW (Rm hr) (Qc (Qa 0) (Qc (QcQ (d:=(.int 60)) rfl c_MOST_CLERKS rfl r_MOST_CLERKS) Qi)) rfl))) (QbO (QY (Q3 (QeV rfl rfl z_all (Qo (DE.db (DF.de (QO rfl Qh6 (DI.b (Qag (Qa 0))) (fun ς=>QC (Qu rfl ς)) (Qy _) (fun fp s H G p=>⟨(QD (i:=0) Qh6.nd rfl (oi rfl) (hf:=Or.inr rfl)),QM,(de_f QCr (Rm hr) (Qc (Qa 0) Qi) rfl)⟩)))) Qv))))))) (Qg (QG de_bl)) QR) (Qg (QG (de_f Qc4 (Rm hr) (Qc (DF.de (Qr2 (DF.de (QO rfl QhX (DI.b (Qag (Qa 0))) (fun ς=>QC (Qu rfl ς)) (Qy _) (fun fp s H G p=>⟨(QD (i:=0) QhX.nd rfl (oi rfl) (hf:=Or.inr rfl)),QM,(de_ix (Qa 0) (DE.db Qe))⟩))) (Qa 1))) Qi) rfl)))) :)
abbrev Qdf:Stmt:=top 45
theorem Qw5:Qr ["thing","names"] ["thing","names"] (Qb Qdf):=⟨rfl,rfl,rfl,dk,rfl,dk,dk⟩
def Qfq:SD->Out Fl:=(sSeq (sIf (tOr' (tNot' (tVal (eIsa (isaT "tuple") (eVar 0)))) (tVal (e2 dNe (eA fLen (aCons (eVar 0) aNil)) (eC (.int 2))))) (sRet (eC (.bl false))) sNil) (sRet (eAnd (eA (fun xs=>Qao (xs++[])) (aCons (e2 dIx (eVar 0) (eC (.int 0))) aNil)) (eAnd (eA (fun xs=>Qao (xs++[])) (aCons (e2 dIx (eVar 0) (eC (.int 1))) aNil)) (e2 dInL (e2 dIx (eVar 0) (eC (.int 1))) (eVar 1))))))
def QcA:List D->Out D:=bodyF false 2 2 Qfq
theorem QBB(d0 d1:D):QcA [d0,d1]=(Qfq [some (.k,d0),some (.k,d1)]>>=retF false):=rfl
theorem QAM(F:FunV K "is_entry" "is_entry" Qdf f fd dV)(QdZ:"e"^Qao "is_name" 1 false)(z_isinstance:mg "isinstance"=none)(z_tuple:mg "tuple"=none)(z_len:mg "len"=none):"f"^2 ["thing","names"] false QcA:=
 (@fnV P w K mg base CT false _ _ _ f fd dV _ _ 1 Qfq F Qw5 fun cdv A outer s H E G hr=>
  (Qf (ds_if (DW.dt (dw_or (QY (Q3 (Qa2 "tuple" Qjb rfl z_tuple PyProof.Rows.Boot.«tuple» rfl z_isinstance (DE.db (Qa 0))))) (QbO (dt_ne hr.units (DE.db (QT rfl z_len (Qo (DE.db (Qa 0)) Qv))) (DE.db Qe))))) (Qg (QG de_bl)) QR) (Qg (QG (Qcm (de_f QdZ (Rm hr) (Qc (de_ix (Qa 0) (DE.db Qe)) Qi) rfl) (Qcm (de_f QdZ (Rm hr) (Qc (de_ix (Qa 0) (DE.db Qe)) Qi) rfl) (Qdw (QDI (DE.db (de_ix (Qa 0) (DE.db Qe))) (DE.db (Qa 1))))))))) :)
abbrev QaW:Stmt:=top 46
theorem Qny:Qr ["thing","names"] ["thing","names"] (Qb QaW):=⟨rfl,rfl,rfl,dk,rfl,dk,dk⟩
abbrev Qk9:Scope:={ kind:=ScopeKind.function,names:=[ (Str.ofString ".0",NameKind.local),(Str.ofString "entry",NameKind.local),(Str.ofString "is_entry",NameKind.globalImplicit),(Str.ofString "names",NameKind.free)],isGenerator:=false,isCoroutine:=false,more:=[]:Scope }
theorem QfO:QB ["entry","names"] [none,some 1] Qk9 (Qb QaW) ["thing","names"]:=⟨rfl,dk,dk,rfl,dk,dk⟩
def Qek:SD->Out D:=(eA (fun xs=>QcA (xs++[])) (aCons (eVar 0) (aCons (eVar 1) aNil)))
abbrev Qle:Scope:={ kind:=ScopeKind.function,names:=[(Str.ofString ".0",NameKind.local),(Str.ofString "entry",NameKind.local)],isGenerator:=false,isCoroutine:=false,more:=[]:Scope }
theorem QfS:QB ["entry"] [none] Qle (Qb QaW) ["thing","names"]:=⟨rfl,dk,dk,rfl,dk,dk⟩
def Qej:SD->Out D:=(e2 dIx (eVar 0) (eC (.int 0)))
def QdS:SD->Out Fl:=(sSeq (sIf (tOr' (tNot' (tVal (eA (fun xs=>QaV (xs++[])) (aCons (eVar 0) (aCons (eC (.int 6)) aNil))))) (tNot' (tVal (eA (f1 fAll) (aCons (eComp [none,some 1] (itL (eVar 0)) (gN 0) cTrue Qek) aNil))))) (sRet (eC (.bl false))) sNil) (sRet (eA (fun xs=>QX (xs++[])) (aCons (eComp [none] (itL (eVar 0)) (gN 0) cTrue Qej) aNil))))
def Qbd:List D->Out D:=bodyF false 2 2 QdS
theorem QpW(d0 d1:D):Qbd [d0,d1]=(QdS [some (.k,d0),some (.k,d1)]>>=retF false):=rfl
theorem Qql{u_MOST_ENTRIES:Value}(F:FunV K "are_entries" "are_entries" QaW f fd dV)(QeW:"e"^QaV "is_list" 1 false)(QBg:"e"^QcA "is_entry" 2 false)(Qc4:"e"^QX "all_unlike" 1 false)(z_all:mg "all"=none)(c_MOST_ENTRIES:mg "MOST_ENTRIES"=some u_MOST_ENTRIES)(r_MOST_ENTRIES:RelV (toV (.int 6)) u_MOST_ENTRIES):"f"^3 ["thing","names"] false Qbd:=
 (@fnV P w K mg base CT false _ _ _ f fd dV _ _ 2 QdS F Qny fun cdv A outer s H E G hr=>
  (Qf (ds_if (DW.dt (dw_or (QY (Q3 (de_f QeW (Rm hr) (Qc (Qa 0) (Qc (QcQ (d:=(.int 6)) rfl c_MOST_ENTRIES rfl r_MOST_ENTRIES) Qi)) rfl))) (QbO (QY (Q3 (QeV rfl rfl z_all (Qo (DE.db (DF.de (QO rfl QfO (DI.b (Qag (Qa 0))) (fun ς=>QC (Qu rfl ς)) (Qy _) (fun fp s H G p=>⟨(QD (i:=0) QfO.nd rfl (oi rfl) (hf:=Or.inr rfl)),QM,(de_f QBg (Rm hr) (Qc (Qa 0) (Qc (Qa 1) Qi)) rfl)⟩)))) Qv))))))) (Qg (QG de_bl)) QR) (Qg (QG (de_f Qc4 (Rm hr) (Qc (DF.de (QO rfl QfS (DI.b (Qag (Qa 0))) (fun ς=>QC (Qu rfl ς)) (Qy _) (fun fp s H G p=>⟨(QD (i:=0) QfS.nd rfl (oi rfl) (hf:=Or.inr rfl)),QM,(de_ix (Qa 0) (DE.db Qe))⟩))) Qi) rfl)))) :)
abbrev Qcs:Stmt:=top 48
theorem Qwk:Qr ["seat","places"] ["seat","places"] (Qb Qcs):=⟨rfl,rfl,rfl,dk,rfl,dk,dk⟩
abbrev QqO:Scope:={ kind:=ScopeKind.function,names:=[ (Str.ofString ".0",NameKind.local),(Str.ofString "text",NameKind.local),(Str.ofString "places",NameKind.free)],isGenerator:=false,isCoroutine:=false,more:=[]:Scope }
theorem Qjw:QB ["text","places"] [none,some 1] QqO (Qb Qcs) ["seat","places"]:=⟨rfl,dk,dk,rfl,dk,dk⟩
def QfC:SD->Out D:=(eDget (eVar 1) (eVar 0))
def Qfr:SD->Out Fl:=(sRetF (eComp [none,some 1] (itL (e2 dIx (eVar 0) (eC (.int 2)))) (gN 0) cTrue QfC))
def Qcz:List D->Out D:=bodyF true 2 2 Qfr
theorem QBn(d0 d1:D):Qcz [d0,d1]=(Qfr [some (.k,d0),some (.k,d1)]>>=retF true):=rfl
theorem QAW(F:FunV K "leads_to" "leads_to" Qcs f fd dV)  : "f"^1 ["seat","places"] true Qcz:=
 (@fnV P w K mg base CT true _ _ _ f fd dV _ _ 0 Qfr F Qwk fun cdv A outer s H E G hr=>
  (Qg (QbI (QO rfl Qjw (DI.b (Qag (de_ix (Qa 0) (DE.db Qe)))) (fun ς=>QC (Qu rfl ς)) (Qy _) (fun fp s H G p=>⟨(QD (i:=0) Qjw.nd rfl (oi rfl) (hf:=Or.inr rfl)),QM,(QGC hr.units (Qa 1) (DE.db (Qa 0)))⟩)))) :)
abbrev Q8:Stmt:=inCls (top 49) 0
theorem Qdk:Qr ["self","clerks","entries","doors","names","places","ways"] ["self","clerks","entries","doors"] (Qb Q8):=⟨rfl,rfl,rfl,dk,rfl,dk,dk⟩
abbrev QkZ:Scope:={ kind:=ScopeKind.function,names:=[(Str.ofString ".0",NameKind.local),(Str.ofString "seat",NameKind.local)],isGenerator:=false,isCoroutine:=false,more:=[]:Scope }
theorem Qf0:QB ["seat"] [none] QkZ (Qb Q8) ["self","clerks","entries","doors","names","places","ways"]:=⟨rfl,dk,dk,rfl,dk,dk⟩
def Qd7:SD->Out D:=(e2 dIx (eVar 0) (eC (.int 0)))
abbrev Qlb:Scope:={ kind:=ScopeKind.function,names:=[ (Str.ofString ".0",NameKind.local),(Str.ofString "seat",NameKind.local),(Str.ofString "leads_to",NameKind.globalImplicit),(Str.ofString "places",NameKind.free)],isGenerator:=false,isCoroutine:=false,more:=[]:Scope }
theorem QfW:QB ["seat","places"] [none,some 5] Qlb (Qb Q8) ["self","clerks","entries","doors","names","places","ways"]:=⟨rfl,dk,dk,rfl,dk,dk⟩
def Qd6:SD->Out D:=(eA (fun xs=>Qcz (xs++[])) (aCons (eVar 0) (aCons (eVar 1) aNil)))
abbrev Qk5:Scope:={ kind:=ScopeKind.function,names:=[(Str.ofString ".0",NameKind.local),(Str.ofString "way",NameKind.local)],isGenerator:=false,isCoroutine:=false,more:=[]:Scope }
theorem QfZ:QB ["way"] [none] Qk5 (Qb Q8) ["self","clerks","entries","doors","names","places","ways"]:=⟨rfl,dk,dk,rfl,dk,dk⟩
def Qec:SD->Out D:=(e2 dInL (eC .non) (eVar 0))
abbrev QkS:Scope:={ kind:=ScopeKind.function,names:=[ (Str.ofString ".0",NameKind.local),(Str.ofString "entry",NameKind.local),(Str.ofString "places",NameKind.free)],isGenerator:=false,isCoroutine:=false,more:=[]:Scope }
theorem QfT:QB ["entry","places"] [none,some 5] QkS (Qb Q8) ["self","clerks","entries","doors","names","places","ways"]:=⟨rfl,dk,dk,rfl,dk,dk⟩
def QcY:SD->Out D:=(eTup (aCons (e2 dIx (eVar 0) (eC (.int 0))) (aCons (eDix (eVar 1) (e2 dIx (eVar 0) (eC (.int 1)))) aNil)))
abbrev QkR:Scope:={ kind:=ScopeKind.function,names:=[(Str.ofString ".0",NameKind.local),(Str.ofString "seat",NameKind.local)],isGenerator:=false,isCoroutine:=false,more:=[]:Scope }
theorem Qf1:QB ["seat"] [none] QkR (Qb Q8) ["self","clerks","entries","doors","names","places","ways"]:=⟨rfl,dk,dk,rfl,dk,dk⟩
def QcX:SD->Out D:=(e2 dIx (eVar 0) (eC (.int 1)))
abbrev Qk8:Scope:={ kind:=ScopeKind.function,names:=[(Str.ofString ".0",NameKind.local),(Str.ofString "seat",NameKind.local)],isGenerator:=false,isCoroutine:=false,more:=[]:Scope }
theorem Qf2:QB ["seat"] [none] Qk8 (Qb Q8) ["self","clerks","entries","doors","names","places","ways"]:=⟨rfl,dk,dk,rfl,dk,dk⟩
def QcW:SD->Out D:=(e2 dIx (eVar 0) (eC (.int 3)))
def QdT:SD->Out Fl:=(sSeq (fun ς=>noX ((sIf (tNot' (tVal (eA (fun xs=>QbV (xs++[])) (aCons (eVar 3) (aCons (eC (.int 6)) aNil))))) Qdz sNil) ς)) (sSeq (fun ς=>noX ((sIf (tNot' (tVal (eA (fun xs=>QbZ (xs++[])) (aCons (eVar 1) (aCons (eVar 3) aNil))))) Qdz sNil) ς)) (sSeq (fun ς=>noX ((sSet 4 (eComp [none] (itL (eVar 1)) (gN 0) cTrue Qd7)) ς)) (sSeq (fun ς=>noX ((sIf (tNot' (tVal (eA (fun xs=>Qbd (xs++[])) (aCons (eVar 2) (aCons (eVar 4) aNil))))) Qdz sNil) ς)) (sSeq (fun ς=>noX ((sSet 5 (eA (fun xs=>Qb4 (xs++[])) (aCons (eVar 4) (aCons (eVar 3) aNil)))) ς)) (sSeq (fun ς=>noX ((sSet 6 (eComp [none,some 5] (itL (eVar 1)) (gN 0) cTrue Qd6)) ς)) (sSeq (fun ς=>noX ((sIf (tVal (eA (f1 fAny) (aCons (eComp [none] (itL (eVar 6)) (gN 0) cTrue Qec) aNil))) Qdz sNil) ς)) (sSeq (fun ς=>noX (sFldS Qj "clerk_names" 0 (eVar 4) ς)) (sSeq (fun ς=>noX (sFldS Qj "door_names" 0 (e1 dList (eVar 3)) ς)) (sSeq (fun ς=>noX (sFldS Qj "entry_places" 0 (eComp [none,some 5] (itL (eVar 2)) (gN 0) cTrue QcY) ς)) (sSeq (fun ς=>noX (sFldS Qj "staff" 0 (eComp [none] (itL (eVar 1)) (gN 0) cTrue QcX) ς)) (sSeq (fun ς=>noX (sFldS Qj "first_states" 0 (eComp [none] (itL (eVar 1)) (gN 0) cTrue QcW) ς)) (fun ς=>noX (sFldS Qj "ways" 0 (eVar 6) ς))))))))))))))
def QaY:Str->List (Str×D)->List D->Out (List (Str×D)):=bodyI 4 7 QdT
theorem QrG(c:Str)(fds:List (Str×D))(d1 d2 d3:D):QaY c fds [d1,d2,d3]=(QdT [some (.s,.ins c fds),some (.k,d1),some (.k,d2),some (.k,d3),none,none,none]>>=Qdb c):=rfl
theorem Qrp{u_MOST_DOORS:Value}(F:FunV K "__init__" "Office.__init__" Q8 f fd dV)(Qw0:"e"^QbV "are_names" 2 false)(Qv6:"e"^QbZ "are_seats" 4 false)(Qqx:"e"^Qbd "are_entries" 3 false)(QyR:"e"^Qb4 "places_of" 1 true)(QBD:"e"^Qcz "leads_to" 1 true)(z_any:mg "any"=none)(z_list:mg "list"=none)(c_MOST_DOORS:mg "MOST_DOORS"=some u_MOST_DOORS)(r_MOST_DOORS:RelV (toV (.int 6)) u_MOST_DOORS)(fo_clerk_names:FldOk K CT Qj "clerk_names")(fo_door_names:FldOk K CT Qj "door_names")(fo_entry_places:FldOk K CT Qj "entry_places")(fo_staff:FldOk K CT Qj "staff")(fo_first_states:FldOk K CT Qj "first_states")(fo_ways:FldOk K CT Qj "ways"):FnOk P w K mg base (CXR P w) 5 f fd ["self","clerks","entries","doors"] (SpI K CT QaY):=
 (@fnI P w K mg base CT _ _ _ f fd dV _ _ 4 QdT F Qdk fun cdv A outer s H E G p hr=>
  (Qf (DS.lift (ds_if (QY (Q3 (de_f Qw0 (Rm hr) (Qc (Qa 3) (Qc (QcQ (d:=(.int 6)) rfl c_MOST_DOORS rfl r_MOST_DOORS) Qi)) rfl))) (Qg Qcy) QR)) (Qf (DS.lift (ds_if (QY (Q3 (de_f Qv6 (Rm hr) (Qc (Qa 1) (Qc (Qa 3) Qi)) rfl))) (Qg Qcy) QR)) (Qf (DS.lift (Qnr (i:=4) rfl Qf0 (DI.b (Qag (Qa 1))) (fun ς=>QC (Qu rfl ς)) (Qy _) (fun fp s H G p=>⟨(QD (i:=0) Qf0.nd rfl (oi rfl) (hf:=Or.inr rfl)),QM,(de_ix (Qa 0) (DE.db Qe))⟩) Qdk.nd rfl (oi rfl))) (Qf (DS.lift (ds_if (QY (Q3 (de_f Qqx (Rm hr) (Qc (Qa 2) (Qc (Qa 4) Qi)) rfl))) (Qg Qcy) QR)) (Qf (DS.lift (Qac (i:=5) Qdk.nd rfl (Or.inr rfl) (de_f QyR (Rm hr) (Qc (Qa 4) (Qc (Qa 3) Qi)) rfl))) (Qf (DS.lift (Qnr (i:=6) rfl QfW (DI.b (Qag (Qa 1))) (fun ς=>QC (Qu rfl ς)) (Qy _) (fun fp s H G p=>⟨(QD (i:=0) QfW.nd rfl (oi rfl) (hf:=Or.inr rfl)),QM,(de_f QBD (Rm hr) (Qc (Qa 0) (Qc (Qa 1) Qi)) rfl)⟩) Qdk.nd rfl (oi rfl))) (Qf (DS.lift (ds_if (Q3 (QHG rfl rfl z_any (Qo (DE.db (DF.de (QO rfl QfZ (DI.b (Qag (Qa 6))) (fun ς=>QC (Qu rfl ς)) (Qy _) (fun fp s H G p=>⟨(QD (i:=0) QfZ.nd rfl (oi rfl) (hf:=Or.inr rfl)),QM,(QDI (DE.db QG1) (DE.db (Qa 0)))⟩)))) Qv))) (Qg Qcy) QR)) (Qf (DS.lift (Qd1 0 fo_clerk_names (Qa 4) rfl (oi rfl))) (Qf (DS.lift (Qd1 0 fo_door_names (DF.de (Qex rfl z_list (Qa 3))) rfl (oi rfl))) (Qf (DS.lift (Qd1 0 fo_entry_places (DF.de (QO rfl QfT (DI.b (Qag (Qa 2))) (fun ς=>QC (Qu rfl ς)) (Qy _) (fun fp s H G p=>⟨(QD (i:=0) QfT.nd rfl (oi rfl) (hf:=Or.inr rfl)),QM,(Qiz (Qc (de_ix (Qa 0) (DE.db Qe)) (Qc (QHs hr.units (Qa 1) (DE.db (de_ix (Qa 0) (DE.db Qe)))) Qi)))⟩))) rfl (oi rfl))) (Qf (DS.lift (Qd1 0 fo_staff (DF.de (QO rfl Qf1 (DI.b (Qag (Qa 1))) (fun ς=>QC (Qu rfl ς)) (Qy _) (fun fp s H G p=>⟨(QD (i:=0) Qf1.nd rfl (oi rfl) (hf:=Or.inr rfl)),QM,(de_ix (Qa 0) (DE.db Qe))⟩))) rfl (oi rfl))) (Qf (DS.lift (Qd1 0 fo_first_states (DF.de (QO rfl Qf2 (DI.b (Qag (Qa 1))) (fun ς=>QC (Qu rfl ς)) (Qy _) (fun fp s H G p=>⟨(QD (i:=0) Qf2.nd rfl (oi rfl) (hf:=Or.inr rfl)),QM,(de_ix (Qa 0) (DE.db Qe))⟩))) rfl (oi rfl))) (Qg (DS.lift (Qd1 0 fo_ways (Qa 6) rfl (oi rfl)))))))))))))))) :)
abbrev QcM:Stmt:=top 57
theorem QrS:Qr ["_law_lead","_law_doors"] ["_law_lead","_law_doors"] (Qb QcM):=⟨rfl,rfl,rfl,dk,rfl,dk,dk⟩
def Qey:SD->Out Fl:=(sSeq (sIf (tVal (e2 dLt (eVar 0) (eC (.int 0)))) (sRet (e2 dSub (e1 dNeg (eC (.int 1))) (eVar 0))) sNil) (sRet (e2 dAdd (eA fLen (aCons (eVar 1) aNil)) (eVar 0))))
def Qbp:List D->Out D:=bodyF false 2 2 Qey
theorem QyV(d0 d1:D):Qbp [d0,d1]=(Qey [some (.k,d0),some (.k,d1)]>>=retF false):=rfl
theorem QwR(F:FunV K "_law_place" "_law_place" QcM f fd dV)(z_len:mg "len"=none):"f"^1 ["_law_lead","_law_doors"] false Qbp:=
 (@fnV P w K mg base CT false _ _ _ f fd dV _ _ 0 Qey F QrS fun cdv A outer s H E G hr=>
  (Qf (ds_if (dt_lt (DE.db (Qa 0)) (DE.db Qe)) (Qg (QG (Qc1 (DE.db (QeX (DE.db Qe))) (DE.db (Qa 0))))) QR) (Qg (QG (QaD (DE.db (QT rfl z_len (Qo (DE.db (Qa 1)) Qv))) (DE.db (Qa 0)))))) :)
abbrev Qbk:Stmt:=top 58
theorem QN:Qr ["_law_script","_law_start","_law_most","_law_seed","_law_cells","_law_doors","_law_every","_law_clerks","_law_rows","_law_leads","_law_k","_law_number","_law_clerk_here","_law_mine","_law_numbers","_law_j","_law_lead","_law_names"] ["_law_script","_law_start","_law_most"] (Qb Qbk):=⟨rfl,rfl,rfl,dk,rfl,dk,dk⟩
abbrev QnR:Scope:={ kind:=ScopeKind.function,names:=[(Str.ofString ".0",NameKind.local),(Str.ofString "_law_k",NameKind.local)],isGenerator:=false,isCoroutine:=false,more:=[]:Scope }
theorem QhR:QB ["_law_k"] [none] QnR (Qb Qbk) ["_law_script","_law_start","_law_most","_law_seed","_law_cells","_law_doors","_law_every","_law_clerks","_law_rows","_law_leads","_law_k","_law_number","_law_clerk_here","_law_mine","_law_numbers","_law_j","_law_lead","_law_names"]:=⟨rfl,dk,dk,rfl,dk,dk⟩
def Qfb:SD->Out D:=(e2 dIx (eC (.str "abcdefghijklm")) (eVar 0))
def QcC:SD->Out Fl:=(sSeq (sSet 16 (e2 dMod (e2 dMul (eVar 11) (e2 dAdd (e2 dMul (eC (.int 2)) (eVar 15)) (eC (.int 5)))) (eC (.int 999983)))) (sIf (tVal (e2 dLt (e2 dMod (eVar 16) (eC (.int 8))) (e2 dMod (e2 dFdiv (eVar 3) (eC (.int 12))) (eC (.int 8))))) (Qa1 14 (e2 dSub (e1 dNeg (eC (.int 1))) (e2 dMod (e2 dFdiv (eVar 16) (eC (.int 8))) (eA fLen (aCons (eVar 5) aNil))))) (Qa1 14 (e2 dMod (e2 dFdiv (eVar 16) (eC (.int 8))) (eA fLen (aCons (eVar 4) aNil))))))
abbrev QnW:Scope:={ kind:=ScopeKind.function,names:=[ (Str.ofString ".0",NameKind.local),(Str.ofString "_law_lead",NameKind.local),(Str.ofString "_law_place",NameKind.globalImplicit),(Str.ofString "_law_doors",NameKind.free),(Str.ofString "_law_every",NameKind.free)],isGenerator:=false,isCoroutine:=false,more:=[]:Scope }
theorem Qia:QB ["_law_lead","_law_every","_law_doors"] [none,some 6,some 5] QnW (Qb Qbk) ["_law_script","_law_start","_law_most","_law_seed","_law_cells","_law_doors","_law_every","_law_clerks","_law_rows","_law_leads","_law_k","_law_number","_law_clerk_here","_law_mine","_law_numbers","_law_j","_law_lead","_law_names"]:=⟨rfl,dk,dk,rfl,dk,dk⟩
def Qfe:SD->Out D:=(e2 dIx (eVar 1) (eA (fun xs=>Qbp (xs++[])) (aCons (eVar 0) (aCons (eVar 2) aNil))))
def QdN:SD->Out Fl:=(sSeq (sSet 11 (eA (fun xs=>QaC (xs++[])) (aCons (e2 dIx (eVar 4) (eVar 10)) (aCons (e2 dAdd (eVar 10) (eC (.int 2))) aNil)))) (sSeq (sUnpL [12,13] (eA (fun xs=>QaA (xs++[])) (aCons (eVar 11) (aCons (e2 dIx (eLst (aCons (eC (.int 2)) (aCons (eC (.int 3)) (aCons (eC (.int 4)) (aCons (eC (.int 10)) aNil))))) (e2 dMod (e2 dFdiv (eVar 3) (eC (.int 3))) (eC (.int 4)))) aNil)))) (sSeq (sIf (tAnd' (tVal (e2 dGt (eVar 10) (eC (.int 0)))) (tAnd' (tVal (e2 dEq (eVar 10) (e2 dSub (eA fLen (aCons (eVar 4) aNil)) (eC (.int 1))))) (tVal (e2 dEq (e2 dMod (e2 dFdiv (eVar 3) (eC (.int 96))) (eC (.int 3))) (eC (.int 0)))))) (sSeq (sSet 12 (e2 dIx (eIxO 7 (eC (.int 0))) (eC (.int 1)))) (sSet 13 (eIxO 8 (eC (.int 0))))) sNil) (sSeq (sSetO 14 (eLst aNil)) (sSeq (sFor (gN 15) (itR1 (eA fLen (aCons (e2 dIx (eVar 13) (eC (.int 0))) aNil))) QcC) (sSeq (sSet 17 (eComp [none,some 6,some 5] (itLB (eVarB 14)) (gN 0) cTrue Qfe)) (sSeq (Qa1 7 (eTup (aCons (e2 dIx (eVar 6) (e2 dAdd (eA fLen (aCons (eVar 5) aNil)) (eVar 10))) (aCons (eVar 12) (aCons (eVar 17) (aCons (e2 dMod (e2 dFdiv (eVar 11) (eC (.int 11))) (eA fLen (aCons (eVar 13) aNil))) aNil)))))) (sSeq (Qa1 8 (eVar 13)) (fun ς=>Qa1 9 (eVar 14) (frz 14 ς))))))))))
def QeJ:SD->Out Fl:=(sSeq (sSet 3 (eA (fun xs=>QaC (xs++[])) (aCons (eA (fun xs=>Qbj (xs++[])) (aCons (eVar 0) (aCons (eC (.int 0)) aNil))) (aCons (eC (.int 0)) aNil)))) (sSeq (sSet 4 (e2 dCat (eSl (eVar 0) (oSome (eVar 1)) (oSome (e2 dAdd (eVar 1) (eVar 2)))) (e2 dRep (eLst (aCons (eVar 3) aNil)) (eA (f1 dInt) (aCons (e2 dLe (eA fLen (aCons (eVar 0) aNil)) (eVar 1)) aNil))))) (sSeq (sSet 5 (eSl (eLst (aCons (eC (.str "x")) (aCons (eC (.str "y")) (aCons (eC (.str "z")) aNil)))) oNo (oSome (e2 dAdd (eC (.int 1)) (e2 dMod (eVar 3) (eC (.int 3))))))) (sSeq (sSet 6 (e2 dCat (eVar 5) (eComp [none] (itR1 (eA fLen (aCons (eVar 4) aNil))) (gN 0) cTrue Qfb))) (sSeq (sSetO 7 (eLst aNil)) (sSeq (sSetO 8 (eLst aNil)) (sSeq (sSetO 9 (eLst aNil)) (sSeq (sFor (gN 10) (itR1 (eA fLen (aCons (eVar 4) aNil))) QdN) (fun ς=>(sRetF (eLst (aCons (eMake "Office" QaY (aCons (eVar 7) (aCons (eLst (aCons (eTup (aCons (eC (.str "in")) (aCons (eC (.str "a")) aNil))) aNil)) (aCons (eVar 5) aNil)))) (aCons (eVar 8) (aCons (eVar 9) (aCons (eA fLen (aCons (eVar 5) aNil)) aNil)))))) (frzs [7,8,9] ς))))))))))
def QbW:List D->Out D:=bodyF true 3 18 QeJ
theorem Qws(d0 d1 d2:D):QbW [d0,d1,d2]=(QeJ [some (.k,d0),some (.k,d1),some (.k,d2),none,none,none,none,none,none,none,none,none,none,none,none,none,none,none]>>=retF true):=rfl
theorem QvX(F:FunV K "_law_drawn" "_law_drawn" Qbk f fd dV)(Qkj:"e"^QaC "_law_mixed" 1 false)(QAp:"e"^Qbj "_law_cell" 1 false)(Qyl:"e"^QaA "_law_clerk" 7 true)(QxL:"e"^Qbp "_law_place" 1 false)(z_int:mg "int"=none)(z_len:mg "len"=none)(z_range:mg "range"=none)(Qjg:MkOk P w K mg base CT "Office" 5 QaY):"f"^8 ["_law_script","_law_start","_law_most"] true QbW:=
 (@fnV P w K mg base CT true _ _ _ f fd dV _ _ 7 QeJ F QN fun cdv A outer s H E G hr=>
  (Qf (Qac (i:=3) QN.nd rfl (oi rfl) (de_f Qkj (Rm hr) (Qc (de_f QAp (Rm hr) (Qc (Qa 0) (Qc Qe Qi)) rfl) (Qc Qe Qi)) rfl)) (Qf (Qac (i:=4) QN.nd rfl (oi rfl) (DF.de (Qr2 (DF.de (df_sl (Qa 0) (QgZ (DE.db (Qa 1))) (QgZ (DE.db (QaD (DE.db (Qa 1)) (DE.db (Qa 2))))))) (DF.de (QCw (QaO (Qc (Qa 3) Qi)) (DE.db (QjY rfl z_int (Qo (DE.db (de_le (DE.db (QT rfl z_len (Qo (DE.db (Qa 0)) Qv))) (DE.db (Qa 1)))) Qv)))))))) (Qf (Qac (i:=5) QN.nd rfl (Or.inr rfl) (DF.de (df_sl (DF.de (QaO (Qc Qg4 (Qc Qg4 (Qc Qg4 Qi))))) QGq (QgZ (DE.db (QaD (DE.db Qe) (DE.db (Qap (DE.db (Qa 3)) (DE.db Qe))))))))) (Qf (Qac (i:=6) QN.nd rfl (Or.inr rfl) (DF.de (Qr2 (Qa 5) (DF.de (QO rfl QhR (DI.b (Qaw rfl z_range (DE.db (QT rfl z_len (Qo (DE.db (Qa 4)) Qv))))) (fun ς=>QC (Qu rfl ς)) (Qy _) (fun fp s H G p=>⟨(QD (i:=0) QhR.nd rfl (oi rfl) (hf:=Or.inr rfl)),QM,(de_ix Qg4 (DE.db (Qa 0)))⟩)))))) (Qf (QcS (i:=7) QN.nd rfl (oi rfl) (QaO Qi)) (Qf (QcS (i:=8) QN.nd rfl (oi rfl) (QaO Qi)) (Qf (QcS (i:=9) QN.nd rfl (oi rfl) (QaO Qi)) (Qf (QbL PassesOwn.never rfl (Qaw rfl z_range (DE.db (QT rfl z_len (Qo (DE.db (Qa 4)) Qv)))) (QD (i:=10) QN.nd rfl (oi rfl)) (Qy _) (Qf (Qac (i:=11) QN.nd rfl (oi rfl) (de_f Qkj (Rm hr) (Qc (de_ix (Qa 4) (DE.db (Qa 10))) (Qc (QaD (DE.db (Qa 10)) (DE.db Qe)) Qi)) rfl)) (Qf (QzH rfl (de_f Qyl (Rm hr) (Qc (Qa 11) (Qc (de_ix (DF.de (QaO (Qc Qe (Qc Qe (Qc Qe (Qc Qe Qi)))))) (DE.db (Qap (DE.db (QcL (DE.db (Qa 3)) (DE.db Qe))) (DE.db Qe)))) Qi)) rfl) (Q4 (i:=12) QN.nd rfl (oi rfl) (Q4 (i:=13) QN.nd rfl (oi rfl) QcR))) (Qf (ds_if (DW.dt (QB4 (dt_gt (DE.db (Qa 10)) (DE.db Qe)) (QB4 (dt_eq hr.units (DE.db (Qa 10)) (DE.db (Qc1 (DE.db (QT rfl z_len (Qo (DE.db (Qa 4)) Qv))) (DE.db Qe)))) (QFv (dt_eq hr.units (DE.db (Qap (DE.db (QcL (DE.db (Qa 3)) (DE.db Qe))) (DE.db Qe))) (DE.db Qe)))))) (Qf (Qac (i:=12) QN.nd rfl (oi rfl) (de_ix (QsK 7 (DE.db Qe) rfl (oi rfl)) (DE.db Qe))) (Qg (Qac (i:=13) QN.nd rfl (oi rfl) (QsK 8 (DE.db Qe) rfl (oi rfl))))) QR) (Qf (QcS (i:=14) QN.nd rfl (oi rfl) (QaO Qi)) (Qf (QbL PassesOwn.never rfl (Qaw rfl z_range (DE.db (QT rfl z_len (Qo (DE.db (de_ix (Qa 13) (DE.db Qe))) Qv)))) (QD (i:=15) QN.nd rfl (oi rfl)) (Qy _) (Qf (Qac (i:=16) QN.nd rfl (oi rfl) (Qap (DE.db (Qda (DE.db (Qa 11)) (DE.db (QaD (DE.db (Qda (DE.db Qe) (DE.db (Qa 15)))) (DE.db Qe))))) (DE.db Qe))) (Qg (ds_if (dt_lt (DE.db (Qap (DE.db (Qa 16)) (DE.db Qe))) (DE.db (Qap (DE.db (QcL (DE.db (Qa 3)) (DE.db Qe))) (DE.db Qe)))) (Qg (Qcp 14 (Qc1 (DE.db (QeX (DE.db Qe))) (DE.db (Qap (DE.db (QcL (DE.db (Qa 16)) (DE.db Qe))) (DE.db (QT rfl z_len (Qo (DE.db (Qa 5)) Qv)))))) rfl (oi rfl))) (Qg (Qcp 14 (Qap (DE.db (QcL (DE.db (Qa 16)) (DE.db Qe))) (DE.db (QT rfl z_len (Qo (DE.db (Qa 4)) Qv)))) rfl (oi rfl))))))) (Qf (Qnr (i:=17) rfl Qia (Qr5 (QiG 14)) (fun ς=>QC (Qu rfl ς)) (Qy _) (fun fp s H G p=>⟨(QD (i:=0) Qia.nd rfl (oi rfl) (hf:=Or.inr rfl)),QM,(de_ix (Qa 1) (DE.db (de_f QxL (Rm hr) (Qc (Qa 0) (Qc (Qa 2) Qi)) rfl)))⟩) QN.nd rfl (oi rfl)) (Qf (Qcp 7 (Qiz (Qc (de_ix (Qa 6) (DE.db (QaD (DE.db (QT rfl z_len (Qo (DE.db (Qa 5)) Qv))) (DE.db (Qa 10))))) (Qc (Qa 12) (Qc (Qa 17) (Qc (Qap (DE.db (QcL (DE.db (Qa 11)) (DE.db Qe))) (DE.db (QT rfl z_len (Qo (DE.db (Qa 13)) Qv)))) Qi))))) rfl (oi rfl)) (Qf (Qcp 8 (Qa 13) rfl (oi rfl)) (Qg (Qlh 14 (Qcp 9 (Qa 14) rfl (oi rfl))))))))))))) (Qg (QzG [7,8,9] (QbI (QaO (Qc (DF.de (QgL rz0 Qjg (Rm hr) (Qc (Qa 7) (Qc (DF.de (QaO (Qc (Qiz (Qc Qg4 (Qc Qg4 Qi))) Qi))) (Qc (Qa 5) Qi))) rfl)) (Qc (Qa 8) (Qc (Qa 9) (Qc (QT rfl z_len (Qo (DE.db (Qa 5)) Qv)) Qi)))))))))))))))) :)
abbrev Qca:Stmt:=top 59
theorem Qah:Qr ["_law_drawn_here","_law_office","_law_rows","_law_leads","_law_doors","_law_table_here","_law_mine","_law_numbers","_law_found","_law_row","_law_count","_law_lead"] ["_law_drawn_here"] (Qb Qca):=⟨rfl,rfl,rfl,dk,rfl,dk,dk⟩
def QdO:SD->Out Fl:=(sIf (tVal (e2 dLt (eVar 11) (eC (.int 0)))) (sPutO 8 (e2 dSub (e1 dNeg (eC (.int 1))) (eVar 11)) (e2 dAdd (e2 dIx (eVarB 8) (e2 dSub (e1 dNeg (eC (.int 1))) (eVar 11))) (eVar 10))) (sPutO 8 (e2 dAdd (eVar 4) (eVar 11)) (e2 dAdd (e2 dIx (eVarB 8) (e2 dAdd (eVar 4) (eVar 11))) (eVar 10))))
def QdU:SD->Out Fl:=(sFor (gT [10,11]) (itZ (eVar 9) (eVar 7)) QdO)
abbrev Qng:Scope:={ kind:=ScopeKind.function,names:=[ (Str.ofString ".0",NameKind.local),(Str.ofString "_law_count",NameKind.local),(Str.ofString "len",NameKind.globalImplicit),(Str.ofString "_law_mine",NameKind.free)],isGenerator:=false,isCoroutine:=false,more:=[]:Scope }
theorem Qh4:QB ["_law_count","_law_mine"] [none,some 6] Qng (Qb Qca) ["_law_drawn_here","_law_office","_law_rows","_law_leads","_law_doors","_law_table_here","_law_mine","_law_numbers","_law_found","_law_row","_law_count","_law_lead"]:=⟨rfl,dk,dk,rfl,dk,dk⟩
def Qff:SD->Out D:=(eTup (aCons (eVar 0) (aCons (eA fLen (aCons (eVar 1) aNil)) aNil)))
def QdV:SD->Out Fl:=(sSeq (sSetO 8 (e2 dRep (eLst (aCons (eC (.int 0)) aNil)) (e2 dAdd (eVar 4) (eA fLen (aCons (eVar 2) aNil))))) (sSeq (sFor (gN 9) (itL (eVar 6)) QdU) (Qa1 5 (eComp [none,some 6] (itLB (eVarB 8)) (gN 0) cTrue Qff))))
def QeD:SD->Out Fl:=(sSeq (sUnpL [1,2,3,4] (eVar 0)) (sSeq (sSetO 5 (eLst aNil)) (sSeq (sFor (gT [6,7]) (itZ (eVar 2) (eVar 3)) QdV) (sRetO 5))))
def Qb0:List D->Out D:=bodyF true 1 12 QeD
theorem Qy9(d0:D):Qb0 [d0]=(QeD [some (.k,d0),none,none,none,none,none,none,none,none,none,none,none]>>=retF true):=rfl
theorem QwI(F:FunV K "_law_table" "_law_table" Qca f fd dV)(z_zip:mg "zip"=none)(z_len:mg "len"=none):"f"^1 ["_law_drawn_here"] true Qb0:=
 (@fnV P w K mg base CT true _ _ _ f fd dV _ _ 0 QeD F Qah fun cdv A outer s H E G hr=>
  (Qf (QzH rfl (Qa 0) (Q4 (i:=1) Qah.nd rfl (oi rfl) (Q4 (i:=2) Qah.nd rfl (oi rfl) (Q4 (i:=3) Qah.nd rfl (oi rfl) (Q4 (i:=4) Qah.nd rfl (oi rfl) QcR))))) (Qf (QcS (i:=5) Qah.nd rfl (oi rfl) (QaO Qi)) (Qf (QbL PassesOwn.never rfl (Qg6 rfl z_zip (Qa 2) (Qa 3)) (QeP rfl (Q4 (i:=6) Qah.nd rfl (Or.inr rfl) (Q4 (i:=7) Qah.nd rfl (oi rfl) QcR))) (Qc5 _) (Qf (QcS (i:=8) Qah.nd rfl (oi rfl) (QCw (QaO (Qc Qe Qi)) (DE.db (QaD (DE.db (Qa 4)) (DE.db (QT rfl z_len (Qo (DE.db (Qa 2)) Qv))))))) (Qf (QbL PassesOwn.never rfl (Qag (Qa 6)) (QD (i:=9) Qah.nd rfl (oi rfl)) (Qy _) (Qg (QbL PassesOwn.never rfl (Qg6 rfl z_zip (Qa 9) (Qa 7)) (QeP rfl (Q4 (i:=10) Qah.nd rfl (oi rfl) (Q4 (i:=11) Qah.nd rfl (oi rfl) QcR))) (Qc5 _) (Qg (ds_if (dt_lt (DE.db (Qa 11)) (DE.db Qe)) (Qg (Qzg 8 (DE.db (Qc1 (DE.db (QeX (DE.db Qe))) (DE.db (Qa 11)))) (QaD (db_ix (QiG 8) (DE.db (Qc1 (DE.db (QeX (DE.db Qe))) (DE.db (Qa 11))))) (DE.db (Qa 10))) rfl (oi rfl))) (Qg (Qzg 8 (DE.db (QaD (DE.db (Qa 4)) (DE.db (Qa 11)))) (QaD (db_ix (QiG 8) (DE.db (QaD (DE.db (Qa 4)) (DE.db (Qa 11))))) (DE.db (Qa 10))) rfl (oi rfl)))))))) (Qg (Qcp 5 (DF.de (QO rfl Qh4 (Qr5 (QiG 8)) (fun ς=>QC (Qu rfl ς)) (Qy _) (fun fp s H G p=>⟨(QD (i:=0) Qh4.nd rfl (oi rfl) (hf:=Or.inr rfl)),QM,(Qiz (Qc (Qa 0) (Qc (QT rfl z_len (Qo (DE.db (Qa 1)) Qv)) Qi)))⟩))) rfl (oi rfl)))))) (Qg (QjT 5 rfl (oi rfl)))))) :)
abbrev Qbu:Stmt:=inCls (top 49) 7
theorem Qmc:Qr ["self","k"] ["self","k"] (Qb Qbu):=⟨rfl,rfl,rfl,dk,rfl,dk,dk⟩
def Qdh:SD->Out Fl:=(sRetF (e1 dList (e2 dIx (e1 (dFld Qj "ways") (eVar 0)) (eVar 1))))
def Qar:List D->Out D:=bodyF true 2 2 Qdh
theorem Qo5(d0 d1:D):Qar [d0,d1]=(Qdh [some (.k,d0),some (.k,d1)]>>=retF true):=rfl
theorem Qok(F:FunV K "leads" "Office.leads" Qbu f fd dV)(z_list:mg "list"=none)(fo_ways:FldOk K CT Qj "ways"):"f"^1 ["self","k"] true Qar:=
 (@fnV P w K mg base CT true _ _ _ f fd dV _ _ 0 Qdh F Qmc fun cdv A outer s H E G hr=>
  (Qg (QbI (Qex rfl z_list (de_ix (Qfw fo_ways (Qa 0)) (DE.db (Qa 1)))))) :)
abbrev QbH:Stmt:=inCls (top 22) 5
theorem QoY:Qr ["self"] ["self"] (Qb QbH):=⟨rfl,rfl,rfl,dk,rfl,dk,dk⟩
def QdL:SD->Out Fl:=(sRetF (e1 dList (e2 dIx (e1 (dFld Qj "heads") (eVar 0)) (eMeth Qd "period" (fun _=>QP) (eVar 0) aNil))))
def QaF:List D->Out D:=bodyF true 1 1 QdL
theorem Qqh(d0:D):QaF [d0]=(QdL [some (.k,d0)]>>=retF true):=rfl
theorem QqW(F:FunV K "whole" "Clerk.whole" QbH f fd dV)(z_list:mg "list"=none)(fo_heads:FldOk K CT Qj "heads")(mt_period:MtOk P w K mg base CT CX0 "period" 1 Qd (fun c=>SpD K CT false ((fun _=>QP) c))):"f"^2 ["self"] true QaF:=
 (@fnV P w K mg base CT true _ _ _ f fd dV _ _ 1 QdL F QoY fun cdv A outer s H E G hr=>
  (Qg (QbI (Qex rfl z_list (de_ix (Qfw fo_heads (Qa 0)) (DE.db (Qcx mt_period (Rm hr) (Qa 0))))))) :)
abbrev Qbs:Stmt:=inCls (top 49) 5
theorem QlT:Qr ["self","k"] ["self","k"] (Qb Qbs):=⟨rfl,rfl,rfl,dk,rfl,dk,dk⟩
def Qds:SD->Out Fl:=(sRet (e2 dIx (e1 (dFld Qj "staff") (eVar 0)) (eVar 1)))
def QS:List D->Out D:=bodyF false 2 2 Qds
theorem Qos(d0 d1:D):QS [d0,d1]=(Qds [some (.k,d0),some (.k,d1)]>>=retF false):=rfl
theorem Qnt(F:FunV K "clerk" "Office.clerk" Qbs f fd dV)(fo_staff:FldOk K CT Qj "staff"):"f"^1 ["self","k"] false QS:=
 (@fnV P w K mg base CT false _ _ _ f fd dV _ _ 0 Qds F QlT fun cdv A outer s H E G hr=>
  (Qg (QG (de_ix (Qfw fo_staff (Qa 0)) (DE.db (Qa 1))))) :)
abbrev Qcn:Stmt:=top 12
theorem QdF:Qr ["office","k","dockets","lead","count"] ["office","k"] (Qb Qcn):=⟨rfl,rfl,rfl,dk,rfl,dk,dk⟩
def Qdn:SD->Out Fl:=(sPutD 2 (eVar 3) (e2 dAdd (Qdy (eVarB 2) (eVar 3) (eC (.int 0))) (eVar 4)))
def Qd9:SD->Out Fl:=(sSeq (sSetO 2 eDic0) (sSeq (sFor (gT [3,4]) (itZ (eMeth Qn "leads" (fun _=>Qar) (eVar 0) (aCons (eVar 1) aNil)) (eMeth Qd "whole" (fun _=>QaF) (eMeth Qn "clerk" (fun _=>QS) (eVar 0) (aCons (eVar 1) aNil)) aNil)) Qdn) (sRetO 2)))
def QbA:List D->Out D:=bodyF true 2 5 Qd9
theorem QvA(d0 d1:D):QbA [d0,d1]=(Qd9 [some (.k,d0),some (.k,d1),none,none,none]>>=retF true):=rfl
theorem QtL(F:FunV K "sent_round" "sent_round" Qcn f fd dV)(z_zip:mg "zip"=none)(mt_leads:MtOk P w K mg base CT CX0 "leads" 1 Qn (fun c=>SpD K CT true ((fun _=>Qar) c)))(mt_whole:MtOk P w K mg base CT CX0 "whole" 2 Qd (fun c=>SpD K CT true ((fun _=>QaF) c)))(mt_clerk:MtOk P w K mg base CT CX0 "clerk" 1 Qn (fun c=>SpD K CT false ((fun _=>QS) c))):"f"^3 ["office","k"] true QbA:=
 (@fnV P w K mg base CT true _ _ _ f fd dV _ _ 2 Qd9 F QdF fun cdv A outer s H E G hr=>
  (Qf (QcS (i:=2) QdF.nd rfl (oi rfl) Qzh) (Qf (QbL PassesOwn.never rfl (Qg6 rfl z_zip (Qn1 mt_leads (Rm hr) (Qa 0) (Qc (Qa 1) Qi)) (Qcx mt_whole (Rm hr) (Qn1 mt_clerk (Rm hr) (Qa 0) (Qc (Qa 1) Qi)))) (QeP rfl (Q4 (i:=3) QdF.nd rfl (oi rfl) (Q4 (i:=4) QdF.nd rfl (oi rfl) QcR))) (Qc5 _) (Qg (Qoq hr.units 2 (DE.db (Qa 3)) (QaD (QEb hr.units (QiG 2) (DE.db (Qa 3)) (DE.db Qe)) (DE.db (Qa 4))) rfl (oi rfl)))) (Qg (QjT 2 rfl (oi rfl))))) :)
abbrev QaN:Stmt:=top 9
theorem QbF:Qr ["one","other","rest"] ["one","other"] (Qb QaN):=⟨rfl,rfl,rfl,dk,rfl,dk,dk⟩
def QaS:SD->Out Bool:=(tVal (e2 dNe (eVar 1) (eC (.int 0))))
def QaR:SD->Out Fl:=(sSeq (sSet 2 (e2 dMod (eVar 0) (eVar 1))) (sSeq (sSet 0 (eVar 1)) (sSet 1 (eVar 2))))
def Qc3:SD->Out Fl:=(sSeq (Qba QaS QaR) (sRet (eVar 0)))
def Qab:List D->Out D:=bodyF false 2 3 Qc3
theorem QiL(F:FunV K "greatest_divisor" "greatest_divisor" QaN f fd dV)  : "f"^1 ["one","other"] false Qab:=
 (@fnV P w K mg base CT false _ _ _ f fd dV _ _ 0 Qc3 F QbF fun cdv A outer s H E G hr=>
  (Qf (QpJ PassesOwn.never (dt_ne hr.units (DE.db (Qa 1)) (DE.db Qe)) (Qf (Qac (i:=2) QbF.nd rfl (oi rfl) (Qap (DE.db (Qa 0)) (DE.db (Qa 1)))) (Qf (Qac (i:=0) QbF.nd rfl (oi rfl) (Qa 1)) (Qg (Qac (i:=1) QbF.nd rfl (oi rfl) (Qa 2)))))) (Qg (QG (Qa 0)))) :)
abbrev Qdo:Stmt:=top 10
theorem Qlc:Qr ["top","bottom","divisor"] ["top","bottom"] (Qb Qdo):=⟨rfl,rfl,rfl,dk,rfl,dk,dk⟩
def QjO:SD->Out Fl:=(sSeq (sIf (tOr' (tNot' (tVal (eA (fun xs=>QaG (xs++[])) (aCons (eVar 0) aNil)))) (tOr' (tNot' (tVal (eA (fun xs=>QaG (xs++[])) (aCons (eVar 1) aNil)))) (tVal (e2 dEq (eVar 1) (eC (.int 0)))))) Qdz sNil) (sSeq (sSet 2 (eA (fun xs=>Qab (xs++[])) (aCons (eA (f1 dAbs) (aCons (eVar 0) aNil)) (aCons (eA (f1 dAbs) (aCons (eVar 1) aNil)) aNil)))) (sSeq (sIf (tVal (e2 dLt (eVar 1) (eC (.int 0)))) (sSet 2 (e1 dNeg (eVar 2))) sNil) (sRet (eTup (aCons (e2 dFdiv (eVar 0) (eVar 2)) (aCons (e2 dFdiv (eVar 1) (eVar 2)) aNil)))))))
def Qdl:List D->Out D:=bodyF false 2 3 QjO
theorem QFc(F:FunV K "share" "share" Qdo f fd dV)(Qft:"e"^QaG "is_whole" 1 false)(Qjh:"e"^Qab "greatest_divisor" 1 false)(z_abs:mg "abs"=none):"f"^2 ["top","bottom"] false Qdl:=
 (@fnV P w K mg base CT false _ _ _ f fd dV _ _ 1 QjO F Qlc fun cdv A outer s H E G hr=>
  (Qf (ds_if (DW.dt (dw_or (QY (Q3 (de_f Qft (Rm hr) (Qc (Qa 0) Qi) rfl))) (dw_or (QY (Q3 (de_f Qft (Rm hr) (Qc (Qa 1) Qi) rfl))) (QbO (dt_eq hr.units (DE.db (Qa 1)) (DE.db Qe)))))) (Qg Qcy) QR) (Qf (Qac (i:=2) Qlc.nd rfl (oi rfl) (de_f Qjh (Rm hr) (Qc (QuI rfl z_abs PyProof.Rows.Boot.«abs» (Qo (DE.db (Qa 0)) Qv)) (Qc (QuI rfl z_abs PyProof.Rows.Boot.«abs» (Qo (DE.db (Qa 1)) Qv)) Qi)) rfl)) (Qf (ds_if (dt_lt (DE.db (Qa 1)) (DE.db Qe)) (Qg (Qac (i:=2) Qlc.nd rfl (oi rfl) (QeX (DE.db (Qa 2))))) QR) (Qg (QG (Qiz (Qc (QcL (DE.db (Qa 0)) (DE.db (Qa 2))) (Qc (QcL (DE.db (Qa 1)) (DE.db (Qa 2))) Qi)))))))) :)
abbrev Qb2:Stmt:=top 13
theorem QjB:Qr ["office","k","places","dockets"] ["office","k","places"] (Qb Qb2):=⟨rfl,rfl,rfl,dk,rfl,dk,dk⟩
abbrev Qpc:Scope:={ kind:=ScopeKind.function,names:=[ (Str.ofString ".0",NameKind.local),(Str.ofString "place",NameKind.local),(Str.ofString "share",NameKind.globalImplicit),(Str.ofString "dockets",NameKind.free),(Str.ofString "k",NameKind.free),(Str.ofString "office",NameKind.free)],isGenerator:=false,isCoroutine:=false,more:=[]:Scope }
theorem QhW:QB ["place","dockets","office","k"] [none,some 3,some 0,some 1] Qpc (Qb Qb2) ["office","k","places","dockets"]:=⟨rfl,dk,dk,rfl,dk,dk⟩
def Qe4:SD->Out D:=(eA (fun xs=>Qdl (xs++[])) (aCons (Qdy (eVar 1) (eVar 0) (eC (.int 0))) (aCons (eMeth Qd "period" (fun _=>QP) (eMeth Qn "clerk" (fun _=>QS) (eVar 2) (aCons (eVar 3) aNil)) aNil) aNil)))
def Qez:SD->Out Fl:=(sSeq (sSet 3 (eA (fun xs=>QbA (xs++[])) (aCons (eVar 0) (aCons (eVar 1) aNil)))) (sRetF (eComp [none,some 3,some 0,some 1] (itL (eVar 2)) (gN 0) cTrue Qe4)))
def QaB:List D->Out D:=bodyF true 3 4 Qez
theorem QvY(d0 d1 d2:D):QaB [d0,d1,d2]=(Qez [some (.k,d0),some (.k,d1),some (.k,d2),none]>>=retF true):=rfl
theorem Qw4(F:FunV K "shares_to" "shares_to" Qb2 f fd dV)(Qu8:"e"^QbA "sent_round" 3 true)(QF1:"e"^Qdl "share" 2 false)(mt_period:MtOk P w K mg base CT CX0 "period" 1 Qd (fun c=>SpD K CT false ((fun _=>QP) c)))(mt_clerk:MtOk P w K mg base CT CX0 "clerk" 1 Qn (fun c=>SpD K CT false ((fun _=>QS) c))):"f"^4 ["office","k","places"] true QaB:=
 (@fnV P w K mg base CT true _ _ _ f fd dV _ _ 3 Qez F QjB fun cdv A outer s H E G hr=>
  (Qf (Qac (i:=3) QjB.nd rfl (Or.inr rfl) (de_f Qu8 (Rm hr) (Qc (Qa 0) (Qc (Qa 1) Qi)) rfl)) (Qg (QbI (QO rfl QhW (DI.b (Qag (Qa 2))) (fun ς=>QC (Qu rfl ς)) (Qy _) (fun fp s H G p=>⟨(QD (i:=0) QhW.nd rfl (oi rfl) (hf:=Or.inr rfl)),QM,(de_f QF1 (Rm hr) (Qc (QDR hr.units (Qa 1) (DE.db (Qa 0)) Qe) (Qc (Qcx mt_period (Rm hr) (Qn1 mt_clerk (Rm hr) (Qa 2) (Qc (Qa 3) Qi))) Qi)) rfl)⟩))))) :)
abbrev QbK:Stmt:=inCls (top 49) 4
theorem Qnp:Qr ["self"] ["self"] (Qb QbK):=⟨rfl,rfl,rfl,dk,rfl,dk,dk⟩
def QdI:SD->Out Fl:=(sRet (eA fLen (aCons (e1 (dFld Qj "clerk_names") (eVar 0)) aNil)))
def Q6:List D->Out D:=bodyF false 1 1 QdI
theorem Qry(d0:D):Q6 [d0]=(QdI [some (.k,d0)]>>=retF false):=rfl
theorem QrB(F:FunV K "many" "Office.many" QbK f fd dV)(z_len:mg "len"=none)(fo_clerk_names:FldOk K CT Qj "clerk_names"):"f"^1 ["self"] false Q6:=
 (@fnV P w K mg base CT false _ _ _ f fd dV _ _ 0 QdI F Qnp fun cdv A outer s H E G hr=>
  (Qg (QG (QT rfl z_len (Qo (DE.db (Qfw fo_clerk_names (Qa 0))) Qv)))) :)
abbrev Qbm:Stmt:=top 14
theorem QiY:Qr ["office","places"] ["office"] (Qb Qbm):=⟨rfl,rfl,rfl,dk,rfl,dk,dk⟩
abbrev Qow:Scope:={ kind:=ScopeKind.function,names:=[ (Str.ofString ".0",NameKind.local),(Str.ofString "k",NameKind.local),(Str.ofString "shares_to",NameKind.globalImplicit),(Str.ofString "office",NameKind.free),(Str.ofString "places",NameKind.free)],isGenerator:=false,isCoroutine:=false,more:=[]:Scope }
theorem Qh5:QB ["k","office","places"] [none,some 0,some 1] Qow (Qb Qbm) ["office","places"]:=⟨rfl,dk,dk,rfl,dk,dk⟩
def QhP:SD->Out D:=(fun ς=>lstO (eA (fun xs=>QaB (xs++[])) (aCons (eVar 1) (aCons (eVar 0) (aCons (eVar 2) aNil))) ς))
def QeB:SD->Out D:=(tSeq (sSet 1 (QjK (aCons (eMeth Qn "many" (fun _=>Q6) (eVar 0) aNil) aNil))) (eComp [none,some 0,some 1] (itR1 (eMeth Qn "many" (fun _=>Q6) (eVar 0) aNil)) (gN 0) cTrue QhP))
def Qbn:List D->Out D:=bodyT 1 2 QeB
theorem Qym(d0:D):Qbn [d0]=QeB [some (.k,d0),none]:=rfl
theorem Qy0(F:FunV K "shares_of" "shares_of" Qbm f fd dV)(Qgl:"e"^QaB "shares_to" 4 true)(z_list:mg "list"=none)(z_range:mg "range"=none)(mt_many:MtOk P w K mg base CT CX0 "many" 1 Qn (fun c=>SpD K CT false ((fun _=>Q6) c))):FnOk P w K mg base CX0 5 f fd ["office"] (SpN K CT Qbn):=
 @fnN P w K mg base CT "shares_of" "shares_of" Qbm f fd dV ["office","places"] ["office"] 4 QeB F QiY fun cdv A outer s H E G hr=>
  (QtQ (Qac (i:=1) QiY.nd rfl (Or.inr rfl) (DF.de (Qvd hr.hd rfl z_list rfl z_range (Qo (DE.db (Qcx mt_many (Rm hr) (Qa 0))) Qv)))) (Qzy rfl Qh5 (DI.b (Qaw rfl z_range (DE.db (Qcx mt_many (Rm hr) (Qa 0))))) (fun ς=>QC (Qu rfl ς)) (Qy _) (fun fp s H G p=>⟨(QD (i:=0) Qh5.nd rfl (oi rfl) (hf:=Or.inr rfl)),(Qzp Qgl (Rm hr) (dav_v 1 (dav_v 0 (dav_v 2 QjV rfl (Or.inr (oi rfl))) rfl (oi rfl)) rfl (Or.inr (oi rfl))) rfl)⟩)))
abbrev Qbw:Stmt:=inCls (top 49) 2
theorem Qmg:Qr ["self"] ["self"] (Qb Qbw):=⟨rfl,rfl,rfl,dk,rfl,dk,dk⟩
def Qde:SD->Out Fl:=(sRetF (e1 dList (e1 (dFld Qj "door_names") (eVar 0))))
def Qau:List D->Out D:=bodyF true 1 1 Qde
theorem QnX(d0:D):Qau [d0]=(Qde [some (.k,d0)]>>=retF true):=rfl
theorem Qm6(F:FunV K "doors" "Office.doors" Qbw f fd dV)(z_list:mg "list"=none)(fo_door_names:FldOk K CT Qj "door_names"):"f"^1 ["self"] true Qau:=
 (@fnV P w K mg base CT true _ _ _ f fd dV _ _ 0 Qde F Qmg fun cdv A outer s H E G hr=>
  (Qg (QbI (Qex rfl z_list (Qfw fo_door_names (Qa 0))))) :)
abbrev QaE:Stmt:=top 15
theorem QgU:Qr ["office","places"] ["office"] (Qb QaE):=⟨rfl,rfl,rfl,dk,rfl,dk,dk⟩
abbrev Qld:Scope:={ kind:=ScopeKind.function,names:=[(Str.ofString ".0",NameKind.local),(Str.ofString "d",NameKind.local)],isGenerator:=false,isCoroutine:=false,more:=[]:Scope }
theorem Qf4:QB ["d"] [none] Qld (Qb QaE) ["office","places"]:=⟨rfl,dk,dk,rfl,dk,dk⟩
def Qef:SD->Out D:=(e2 dSub (e1 dNeg (eC (.int 1))) (eVar 0))
abbrev Qk2:Scope:={ kind:=ScopeKind.function,names:=[ (Str.ofString ".0",NameKind.local),(Str.ofString "k",NameKind.local),(Str.ofString "shares_to",NameKind.globalImplicit),(Str.ofString "office",NameKind.free),(Str.ofString "places",NameKind.free)],isGenerator:=false,isCoroutine:=false,more:=[]:Scope }
theorem QfX:QB ["k","office","places"] [none,some 0,some 1] Qk2 (Qb QaE) ["office","places"]:=⟨rfl,dk,dk,rfl,dk,dk⟩
def Qf8:SD->Out D:=(fun ς=>lstO (eA (fun xs=>QaB (xs++[])) (aCons (eVar 1) (aCons (eVar 0) (aCons (eVar 2) aNil))) ς))
def QdH:SD->Out D:=(tSeq (sSet 1 (eComp [none] (itR1 (eA fLen (aCons (eMeth Qn "doors" (fun _=>Qau) (eVar 0) aNil) aNil))) (gN 0) cTrue Qef)) (eComp [none,some 0,some 1] (itR1 (eMeth Qn "many" (fun _=>Q6) (eVar 0) aNil)) (gN 0) cTrue Qf8))
def QaX:List D->Out D:=bodyT 1 2 QdH
theorem Qro(d0:D):QaX [d0]=QdH [some (.k,d0),none]:=rfl
theorem Qq3(F:FunV K "door_shares" "door_shares" QaE f fd dV)(Qgl:"e"^QaB "shares_to" 4 true)(z_range:mg "range"=none)(z_len:mg "len"=none)(mt_doors:MtOk P w K mg base CT CX0 "doors" 1 Qn (fun c=>SpD K CT true ((fun _=>Qau) c)))(mt_many:MtOk P w K mg base CT CX0 "many" 1 Qn (fun c=>SpD K CT false ((fun _=>Q6) c))):FnOk P w K mg base CX0 5 f fd ["office"] (SpN K CT QaX):=
 @fnN P w K mg base CT "door_shares" "door_shares" QaE f fd dV ["office","places"] ["office"] 4 QdH F QgU fun cdv A outer s H E G hr=>
  (QtQ (Qac (i:=1) QgU.nd rfl (Or.inr rfl) (DF.de (QO rfl Qf4 (DI.b (Qaw rfl z_range (DE.db (QT rfl z_len (Qo (DE.db (Qcx mt_doors (Rm hr) (Qa 0))) Qv))))) (fun ς=>QC (Qu rfl ς)) (Qy _) (fun fp s H G p=>⟨(QD (i:=0) Qf4.nd rfl (oi rfl) (hf:=Or.inr rfl)),QM,(Qc1 (DE.db (QeX (DE.db Qe))) (DE.db (Qa 0)))⟩)))) (Qzy rfl QfX (DI.b (Qaw rfl z_range (DE.db (Qcx mt_many (Rm hr) (Qa 0))))) (fun ς=>QC (Qu rfl ς)) (Qy _) (fun fp s H G p=>⟨(QD (i:=0) QfX.nd rfl (oi rfl) (hf:=Or.inr rfl)),(Qzp Qgl (Rm hr) (dav_v 1 (dav_v 0 (dav_v 2 QjV rfl (Or.inr (oi rfl))) rfl (oi rfl)) rfl (Or.inr (oi rfl))) rfl)⟩)))
abbrev QcK:Stmt:=top 52
theorem QuU:Qr ["_law_found"] ["_law_found"] (Qb QcK):=⟨rfl,rfl,rfl,dk,rfl,dk,dk⟩
def Qgk:SD->Out Fl:=(sRet (eAnd (eIsa (isaT "int") (eVar 0)) (eNot (eIsa (isaT "bool") (eVar 0)))))
def Qbl:List D->Out D:=bodyF false 1 1 Qgk
theorem Qyp(F:FunV K "_law_whole" "_law_whole" QcK f fd dV)(z_isinstance:mg "isinstance"=none)(z_int:mg "int"=none)(z_bool:mg "bool"=none):"f"^1 ["_law_found"] false Qbl:=
 (@fnV P w K mg base CT false _ _ _ f fd dV _ _ 0 Qgk F QuU fun cdv A outer s H E G hr=>
  (Qg (QG (Qcm (Qa2 "int" QzJ rfl z_int PyProof.Rows.Boot.«int» rfl z_isinstance (DE.db (Qa 0))) (Qdw (QBZ (Qa2 "bool" Qsy rfl z_bool PyProof.Rows.Boot.«bool» rfl z_isinstance (DE.db (Qa 0)))))))) :)
abbrev QbJ:Stmt:=top 54
theorem QgP:Qr ["_law_one","_law_other"] ["_law_one","_law_other"] (Qb QbJ):=⟨rfl,rfl,rfl,dk,rfl,dk,dk⟩
def QbP:SD->Out Bool:=(tVal (e2 dNe (eVar 1) (eC (.int 0))))
def QbS:SD->Out Fl:=(sPar 0 1 (aCons (eVar 1) (aCons (e2 dMod (eVar 0) (eVar 1)) aNil)))
def Qfd:SD->Out Fl:=(sSeq (Qba QbP QbS) (sRet (eVar 0)))
def Qbb:List D->Out D:=bodyF false 2 2 Qfd
theorem Qqz(F:FunV K "_law_divisor" "_law_divisor" QbJ f fd dV)  : "f"^1 ["_law_one","_law_other"] false Qbb:=
 (@fnV P w K mg base CT false _ _ _ f fd dV _ _ 0 Qfd F QgP fun cdv A outer s H E G hr=>
  (Qf (QpJ PassesOwn.never (dt_ne hr.units (DE.db (Qa 1)) (DE.db Qe)) (Qg (QHN (i:=0) (j:=1) rfl QgP.nd rfl rfl (by decide) rfl rfl (Qc (Qa 1) (Qc (Qap (DE.db (Qa 0)) (DE.db (Qa 1))) Qi)) (by rfl)))) (Qg (QG (Qa 0)))) :)
abbrev Qbt:Stmt:=top 55
theorem QlG:Qr ["_law_found"] ["_law_found"] (Qb Qbt):=⟨rfl,rfl,rfl,dk,rfl,dk,dk⟩
def Qdd:SD->Out Fl:=(sSeq (sIf (tOr' (tNot' (tVal (eIsa (isaT "tuple") (eVar 0)))) (tOr' (tVal (e2 dNe (eA fLen (aCons (eVar 0) aNil)) (eC (.int 2)))) (tOr' (tNot' (tVal (eA (fun xs=>Qbl (xs++[])) (aCons (e2 dIx (eVar 0) (eC (.int 0))) aNil)))) (tNot' (tVal (eA (fun xs=>Qbl (xs++[])) (aCons (e2 dIx (eVar 0) (eC (.int 1))) aNil))))))) (sRet (eC (.bl false))) sNil) (sRet (eAnd (e2 dGt (e2 dIx (eVar 0) (eC (.int 1))) (eC (.int 0))) (e2 dEq (eA (fun xs=>Qbb (xs++[])) (aCons (eA (f1 dAbs) (aCons (e2 dIx (eVar 0) (eC (.int 0))) aNil)) (aCons (e2 dIx (eVar 0) (eC (.int 1))) aNil))) (eC (.int 1))))))
def QaZ:List D->Out D:=bodyF false 1 1 Qdd
theorem Qoc(d0:D):QaZ [d0]=(Qdd [some (.k,d0)]>>=retF false):=rfl
theorem Qnl(F:FunV K "_law_fraction" "_law_fraction" Qbt f fd dV)(Qkv:"e"^Qbl "_law_whole" 1 false)(Qrl:"e"^Qbb "_law_divisor" 1 false)(z_isinstance:mg "isinstance"=none)(z_tuple:mg "tuple"=none)(z_len:mg "len"=none)(z_abs:mg "abs"=none):"f"^2 ["_law_found"] false QaZ:=
 (@fnV P w K mg base CT false _ _ _ f fd dV _ _ 1 Qdd F QlG fun cdv A outer s H E G hr=>
  (Qf (ds_if (DW.dt (dw_or (QY (Q3 (Qa2 "tuple" Qjb rfl z_tuple PyProof.Rows.Boot.«tuple» rfl z_isinstance (DE.db (Qa 0))))) (dw_or (dt_ne hr.units (DE.db (QT rfl z_len (Qo (DE.db (Qa 0)) Qv))) (DE.db Qe)) (dw_or (QY (Q3 (de_f Qkv (Rm hr) (Qc (de_ix (Qa 0) (DE.db Qe)) Qi) rfl))) (QbO (QY (Q3 (de_f Qkv (Rm hr) (Qc (de_ix (Qa 0) (DE.db Qe)) Qi) rfl)))))))) (Qg (QG de_bl)) QR) (Qg (QG (Qcm (de_gt (DE.db (de_ix (Qa 0) (DE.db Qe))) (DE.db Qe)) (Qdw (de_eq hr.units (DE.db (de_f Qrl (Rm hr) (Qc (QuI rfl z_abs PyProof.Rows.Boot.«abs» (Qo (DE.db (de_ix (Qa 0) (DE.db Qe))) Qv)) (Qc (de_ix (Qa 0) (DE.db Qe)) Qi)) rfl)) (DE.db Qe))))))) :)
abbrev Qdt:Stmt:=top 60
theorem QdB:Qr ["_law_found","_law_due","_law_low","_law_high","_law_row","_law_wanted","_law_one","_law_other"] ["_law_found","_law_due","_law_low","_law_high"] (Qb Qdt):=⟨rfl,rfl,rfl,dk,rfl,dk,dk⟩
def Qel:SD->Out Fl:=(sIf (tOr' (tNot' (tVal (eA (fun xs=>QaZ (xs++[])) (aCons (eVar 6) aNil)))) (tVal (e2 dNe (e2 dMul (e2 dIx (eVar 6) (eC (.int 0))) (e2 dIx (eVar 7) (eC (.int 1)))) (e2 dMul (e2 dIx (eVar 7) (eC (.int 0))) (e2 dIx (eVar 6) (eC (.int 1))))))) (sRet (eC (.bl false))) sNil)
def Qd4:SD->Out Fl:=(sSeq (sIf (tOr' (tNot' (tVal (eIsa (isaT "list") (eVar 4)))) (tVal (e2 dNe (eA fLen (aCons (eVar 4) aNil)) (e2 dSub (eVar 3) (eVar 2))))) (sRet (eC (.bl false))) sNil) (sFor (gT [6,7]) (itZ (eVar 4) (eSl (eVar 5) (oSome (eVar 2)) (oSome (eVar 3)))) Qel))
def Qfm:SD->Out Fl:=(sSeq (sIf (tOr' (tNot' (tVal (eIsa (isaT "list") (eVar 0)))) (tVal (e2 dNe (eA fLen (aCons (eVar 0) aNil)) (eA fLen (aCons (eVar 1) aNil))))) (sRet (eC (.bl false))) sNil) (sSeq (sFor (gT [4,5]) (itZ (eVar 0) (eVar 1)) Qd4) (sRet (eC (.bl true)))))
def Qa5:List D->Out D:=bodyF false 4 8 Qfm
theorem QBp(d0 d1 d2 d3:D):Qa5 [d0,d1,d2,d3]=(Qfm [some (.k,d0),some (.k,d1),some (.k,d2),some (.k,d3),none,none,none,none]>>=retF false):=rfl
theorem QzY(F:FunV K "_law_same" "_law_same" Qdt f fd dV)(QoB:"e"^QaZ "_law_fraction" 2 false)(z_isinstance:mg "isinstance"=none)(z_list:mg "list"=none)(z_len:mg "len"=none)(z_zip:mg "zip"=none):"f"^3 ["_law_found","_law_due","_law_low","_law_high"] false Qa5:=
 (@fnV P w K mg base CT false _ _ _ f fd dV _ _ 2 Qfm F QdB fun cdv A outer s H E G hr=>
  (Qf (ds_if (DW.dt (dw_or (QY (Q3 (Qa2 "list" Qes rfl z_list PyProof.Rows.Boot.«list» rfl z_isinstance (DE.db (Qa 0))))) (QbO (dt_ne hr.units (DE.db (QT rfl z_len (Qo (DE.db (Qa 0)) Qv))) (DE.db (QT rfl z_len (Qo (DE.db (Qa 1)) Qv))))))) (Qg (QG de_bl)) QR) (Qf (QbL PassesOwn.never rfl (Qg6 rfl z_zip (Qa 0) (Qa 1)) (QeP rfl (Q4 (i:=4) QdB.nd rfl (oi rfl) (Q4 (i:=5) QdB.nd rfl (oi rfl) QcR))) (Qc5 _) (Qf (ds_if (DW.dt (dw_or (QY (Q3 (Qa2 "list" Qes rfl z_list PyProof.Rows.Boot.«list» rfl z_isinstance (DE.db (Qa 4))))) (QbO (dt_ne hr.units (DE.db (QT rfl z_len (Qo (DE.db (Qa 4)) Qv))) (DE.db (Qc1 (DE.db (Qa 3)) (DE.db (Qa 2)))))))) (Qg (QG de_bl)) QR) (Qg (QbL PassesOwn.never rfl (Qg6 rfl z_zip (Qa 4) (DF.de (df_sl (Qa 5) (QgZ (DE.db (Qa 2))) (QgZ (DE.db (Qa 3)))))) (QeP rfl (Q4 (i:=6) QdB.nd rfl (oi rfl) (Q4 (i:=7) QdB.nd rfl (oi rfl) QcR))) (Qc5 _) (Qg (ds_if (DW.dt (dw_or (QY (Q3 (de_f QoB (Rm hr) (Qc (Qa 6) Qi) rfl))) (QbO (dt_ne hr.units (DE.db (Qda (DE.db (de_ix (Qa 6) (DE.db Qe))) (DE.db (de_ix (Qa 7) (DE.db Qe))))) (DE.db (Qda (DE.db (de_ix (Qa 7) (DE.db Qe))) (DE.db (de_ix (Qa 6) (DE.db Qe))))))))) (Qg (QG de_bl)) QR)))))) (Qg (QG de_bl)))) :)
abbrev Qfs:Stmt:=top 61
theorem QeU:Qr ["_law_script","_law_drawn_here","_law_office","_law_doors","_law_due","_law_last","_law_found","_law_other","_law_row"] ["_law_script"] (Qb Qfs):=⟨rfl,rfl,rfl,dk,rfl,dk,dk⟩
def QrH:SD->Out Fl:=(sSeq (sSet 1 (eA (fun xs=>QbW (xs++[])) (aCons (eVar 0) (aCons (eC (.int 2)) (aCons (eC (.int 12)) aNil))))) (sSeq (sSet 2 (e2 dIx (eVar 1) (eC (.int 0)))) (sSeq (sSet 3 (e2 dIx (eVar 1) (eC (.int 3)))) (sSeq (sSet 4 (eA (fun xs=>Qb0 (xs++[])) (aCons (eVar 1) aNil))) (sSeq (sSet 5 (e2 dAdd (eVar 3) (eA fLen (aCons (eVar 4) aNil)))) (Qg8 6 7 8 Qbn QaX (aCons (eVar 2) aNil) (aCons (eVar 2) aNil) (tOr' (tNot' (tVal (eA (fun xs=>Qa5 (xs++[])) (aCons (eVar 6) (aCons (eVar 4) (aCons (eVar 3) (aCons (eVar 5) aNil))))))) (tNot' (tVal (eA (fun xs=>Qa5 (xs++[])) (aCons (eVar 7) (aCons (eVar 4) (aCons (eC (.int 0)) (aCons (eVar 3) aNil)))))))) (sRet (eC (.bl false))) (sRet (eAnd (eA (fun xs=>Qa5 (xs++[])) (aCons (eA (fun xs=>Qbn (xs++[])) (aCons (eVar 2) aNil)) (aCons (eVar 4) (aCons (eVar 3) (aCons (eVar 5) aNil))))) (eA (fun xs=>Qa5 (xs++[])) (aCons (eA (fun xs=>QaX (xs++[])) (aCons (eVar 2) aNil)) (aCons (eVar 4) (aCons (eC (.int 0)) (aCons (eVar 3) aNil)))))))))))))
def Qf6:List D->Out D:=bodyF false 1 9 QrH
theorem QH6(d0:D):Qf6 [d0]=(QrH [some (.k,d0),none,none,none,none,none,none,none,none]>>=retF false):=rfl
theorem QIc(F:FunV K "law" "law" Qfs f fd dV)(QxR:"e"^QbW "_law_drawn" 8 true)(Qv3:"e"^Qb0 "_law_table" 1 true)(QkJ:DefN P w K mg base CT "shares_of" 5 Qbn)(QhL:DefN P w K mg base CT "door_shares" 5 QaX)(Qfh:"e"^Qa5 "_law_same" 3 false)(z_len:mg "len"=none):"f"^9 ["_law_script"] false Qf6:=
 (@fnV P w K mg base CT false _ _ _ f fd dV _ _ 8 QrH F QeU fun cdv A outer s H E G hr=>
  (Qf (Qac (i:=1) QeU.nd rfl (oi rfl) (de_f QxR (Rm hr) (Qc (Qa 0) (Qc Qe (Qc Qe Qi))) rfl)) (Qf (Qac (i:=2) QeU.nd rfl (oi rfl) (de_ix (Qa 1) (DE.db Qe))) (Qf (Qac (i:=3) QeU.nd rfl (oi rfl) (de_ix (Qa 1) (DE.db Qe))) (Qf (Qac (i:=4) QeU.nd rfl (oi rfl) (de_f Qv3 (Rm hr) (Qc (Qa 1) Qi) rfl)) (Qf (Qac (i:=5) QeU.nd rfl (oi rfl) (QaD (DE.db (Qa 3)) (DE.db (QT rfl z_len (Qo (DE.db (Qa 4)) Qv))))) (QzN (i:=6) (j:=7) (r:=8) (by decide) (by decide) (by decide) QkJ (Rm hr) (dav_v 2 QjV rfl (oi rfl)) rfl QhL (Rm hr) (dav_v 2 QjV rfl (oi rfl)) rfl QeU.nd rfl (oi rfl) rfl (oi rfl) (DW.dt (dw_or (QY (Q3 (de_f Qfh (Rm hr) (Qc (Qa 6) (Qc (Qa 4) (Qc (Qa 3) (Qc (Qa 5) Qi)))) rfl))) (QbO (QY (Q3 (de_f Qfh (Rm hr) (Qc (Qa 7) (Qc (Qa 4) (Qc Qe (Qc (Qa 3) Qi)))) rfl)))))) (Qg (QG de_bl)) (QBm QeU.nd rfl (oi rfl) (by first | exact .inl rfl | exact .inr rfl) rfl PassesOwn.never (QbM (i:=6) rfl (oi rfl)) (QbM (i:=7) rfl (oi rfl)) (QC3 rfl (oi rfl)) QFJ (by intro _;rfl)) (QAv rfl (oi rfl)) (Qg (QG (Qcm (de_f Qfh (Rm hr) (Qc (de_fN QkJ (Rm hr) (Qc (Qa 2) Qi) rfl) (Qc (Qa 4) (Qc (Qa 3) (Qc (Qa 5) Qi)))) rfl) (Qdw (de_f Qfh (Rm hr) (Qc (de_fN QhL (Rm hr) (Qc (Qa 2) Qi) rfl) (Qc (Qa 4) (Qc Qe (Qc (Qa 3) Qi)))) rfl))))))))))) :)
end
end My
set_option exponentiation.threshold 20000
namespace My
open PySem PySem.Spec L2 DL
local macro_rules | `(tactic| walk_at "g") => `(tactic| ((repeat (first | exact QHO | apply QHd));done))
local macro_rules | `(tactic| walk_at "s") => `(tactic| repeat (first | exact QBR | apply QDL))
local macro_rules | `(tactic| walk_at "all") => `(tactic| repeat (first | with_reducible exact Qpu | (apply QpB;focus walk_at "s")))
local macro_rules | `(tactic| walk_at "cap") => `(tactic| repeat (first | exact c_nil | apply QeN | (apply c_k;focus walk_at "g") | (apply c_o;focus walk_at "g") | (apply c_l;focus walk_at "g") | (apply c_s;focus walk_at "g")))
local macro_rules | `(tactic| walk_at "b") => `(tactic| first | rfl | with_reducible assumption | (simp only[Bool.not_eq_true',Bool.not_eq_false',decide_eq_true_eq,decide_eq_false_iff_not,Bool.not_true,Bool.not_false];first | with_reducible assumption | omega) | (simp;done))
local macro_rules | `(tactic| walk_at "p") => `(tactic| first | decide | with_reducible assumption | omega)
local macro_rules | `(tactic| walk_at "l") => `(tactic| first | decide | with_reducible assumption | (simp only[List.length_map,List.length_cons,List.length_nil,List.length_range,List.length_append];omega) | omega | (simp;omega))
local macro_rules | `(tactic| walk_at "e") => `(tactic| first
 | ((with_reducible apply r_id);with_reducible assumption)
 | with_reducible exact r_okR | with_reducible exact QFu
 | with_reducible apply r_var | with_reducible apply QiQ | with_reducible exact r_C | with_reducible exact r_nil | with_reducible exact r_oNo | with_reducible exact QcB | with_reducible exact Qj2
 | with_reducible exact Q7 _ _ | with_reducible exact Qak _ _ | with_reducible exact Qan _ | with_reducible exact Qaq _ | with_reducible exact QaT _ _ | with_reducible exact Qat _ _ | with_reducible exact Qay _ _ | with_reducible exact QaU _ _ | with_reducible exact Qaf _ _ | with_reducible exact Qal _ _
 | with_reducible exact Q5 (by walk_at "p")
 | with_reducible exact r_rt | with_reducible exact r_rtT | with_reducible exact r_rtS rfl
 | with_reducible apply QuW
 | with_reducible exact QBR | with_reducible apply QDL
 | with_reducible exact QH3 | with_reducible apply QHh
 | with_reducible exact Qpu | with_reducible apply QpB
 | with_reducible exact c_nil | with_reducible apply QeN | ((with_reducible apply c_k);focus walk_at "g") | ((with_reducible apply c_o);focus walk_at "g") | ((with_reducible apply c_l);focus walk_at "g") | ((with_reducible apply c_s);focus walk_at "g")
 | ((with_reducible apply r_scal);exact rfl)
 | ((with_reducible apply r_get);focus walk_at "g")
 | ((with_reducible apply r_bits);with_reducible assumption)
 | ((with_reducible apply bd_mod);focus walk_at "p") | with_reducible apply bd_add | with_reducible apply bd_sub | with_reducible apply bd_mul | with_reducible apply bd_div | with_reducible apply bd_neg | with_reducible exact bd_lit rfl
 | ((with_reducible apply r_dec);focus exact rfl)
 | ((with_reducible apply r_len);focus walk_at "l")
 | with_reducible apply r_mul
 | ((with_reducible apply r_fdiv);focus walk_at "p")
 | ((with_reducible apply QgY);focus walk_at "b")
 | ((with_reducible apply Qeb);focus walk_at "b")
 | with_reducible apply Ql | with_reducible apply r_e2 | with_reducible apply r_e1 | with_reducible apply r_seq | with_reducible apply r_set | with_reducible apply QdE | with_reducible apply r_if | with_reducible apply Qx | with_reducible apply Qbf | with_reducible apply Qea | with_reducible apply r_or' | with_reducible apply Qs4 | with_reducible apply Qs9 | with_reducible apply r_eOr | with_reducible apply r_eNot | with_reducible apply r_eIf | with_reducible apply r_isa | with_reducible apply QGm | with_reducible apply QHp | with_reducible apply r_ret | with_reducible apply QfN | with_reducible apply r_drop | with_reducible apply r_tup | with_reducible apply r_lst | with_reducible apply r_scalar | with_reducible apply r_nonScal | with_reducible apply r_noX | with_reducible apply QjX | with_reducible apply QcI | with_reducible apply r_gN | with_reducible apply r_gT | with_reducible apply r_unp | with_reducible apply r_for | with_reducible apply r_itL | with_reducible apply r_itT | with_reducible apply r_itE | with_reducible apply r_itZ | with_reducible apply Qbh | with_reducible apply r_eA | with_reducible apply r_sl | with_reducible apply r_slB | with_reducible apply r_ixO | with_reducible apply r_meth | with_reducible apply Qg3 | with_reducible apply r_app | with_reducible apply r_put | with_reducible apply QZ | with_reducible apply r_turnT | with_reducible apply QHH | with_reducible apply QGa | with_reducible apply r_lm)
abbrev CK:List Str:=Qd
theorem QtR{c:Str}(h:CK.contains c=true):Qj.contains c=true:=by
 have hm:c∈Qd:=by simpa using h
 simp only[Qd,List.mem_cons,List.not_mem_nil,or_false]at hm
 rcases hm with rfl | rfl | rfl | rfl<;>decide +kernel
def dl(r:List Int):D:=.lst (r.map .int)
def tbD(t:List (List Int)):D:=.lst (t.map dl)
theorem Qlf{js:List (Option Nat)}{its:SD->Out (List D)}{g:D->SD->Out SD}{e:SD->Out D}{ς:SD}{xs:List D}{h:D->D}(hi:its ς=.ok xs)(ht:∀ x∈xs,turnC js g cTrue e ς x=.ok (some (h x)))(hl:xs.length<=1000):
 eComp js its g cTrue e ς=.ok (.lst (xs.map h)):=by
 unfold eComp
 rw[hi,Out.bind_ok,Qvx (h:=fun x=>some (h x)) ht,Out.bind_ok]
 have e:xs.filterMap (fun x=>some (h x))=xs.map h:=by rw[← List.filterMap_eq_map];rfl
 rw[e,if_pos (Qfv (by rw[List.length_map];exact hl))]
theorem QEF{js:List (Option Nat)}{its:SD->Out (List D)}{e:SD->Out D}{ς:SD}{a b:List Int}(f:Int->Int->Int)(hi:its ς=.ok (List.zipWith (fun x y=>.tup [x,y]) (a.map .int) (b.map .int)))
 (ht:∀ x∈a,∀ y∈b,turnC js (gT [0,1]) cTrue e ς (.tup [.int x,.int y])=.ok (some (.int (f x y)))) (hl:a.length<=1000):eComp js its (gT [0,1]) cTrue e ς=.ok (dl (List.zipWith f a b)):=by
 have hz:List.zipWith (fun x y=>D.tup [x,y]) (a.map .int) (b.map .int)=(List.zip a b).map fun p=>D.tup [.int p.1,.int p.2]:=by
  rw[List.zipWith_map,List.map_zip_eq_zipWith]
  rfl
 rw[Qlf (h:=fun d=>match d with | .tup [.int x,.int y]=>.int (f x y) | _=>.non) (by rw[hi,hz]) ?_ ?_]
 ·unfold dl
  rw[List.map_map,List.map_zipWith,List.map_zip_eq_zipWith]
  rfl
 ·intro x hx
  obtain⟨⟨p,q⟩,hp,rfl⟩:=List.mem_map.mp hx
  exact ht p (List.of_mem_zip hp).1 q (List.of_mem_zip hp).2
 ·rw[List.length_map,List.length_zip]
  omega
theorem loopL{body:D->SD->Out Fl}{P:Nat->SD->Prop}:∀{xs:List D}(n:Nat),(∀ k x,xs[k]?=some x->∀ ς,P (n+k) ς->∃ ς',body x ς=.ok (.nx ς')/\P (n+k+1) ς')->∀ ς,P n ς->∃ ς',loopD body xs ς=.ok (.nx ς')/\P (n+xs.length) ς'
 | [],n,_,ς,p=>⟨ς,rfl,p⟩
 | x::xs,n,h,ς,p=>by
  obtain⟨ς1,e1',p1⟩:=h 0 x rfl ς p
  obtain⟨ς2,e2',p2⟩:=loopL (xs:=xs) (n+1) (fun k y hy ς q=>by
   have:=h (k+1) y hy ς (by rw[show n+(k+1)=n+1+k by omega];exact q)
   rw[show n+(k+1)+1=n+1+k+1 by omega]at this
   exact this) ς1 p1
  refine⟨ς2,?_,by rw[List.length_cons,show n+(xs.length+1)=n+1+xs.length by omega];exact p2⟩
  rw[loopD,e1']
  exact e2'
def cs(t:List (List Int))(k j:Nat):Int:=((t.take k).map fun r=>r.getD j 0).sum
def pre(t:List (List Int))(m k:Nat):List Int:=(List.range m).map (cs t k)
theorem QE9{t:List (List Int)}{m k:Nat}{r:List Int}(hr:t[k]?=some r)(hm:r.length=m):List.zipWith (· + ·) (pre t m k) r=pre t m (k+1):=by
 apply List.ext_getElem?
 intro j
 unfold pre
 rw[List.getElem?_zipWith,List.getElem?_map,List.getElem?_map]
 by_cases hj:j<m
 ·have h1:(List.range m)[j]?=some j:=by simp[hj]
  have h2:r[j]?=some r[j]:=by simp[hm,hj]
  rw[h1,h2]
  show some (cs t k j+r[j])=some (cs t (k+1) j)
  unfold cs
  rw[List.take_add_one,hr]
  simp[hm,hj,List.getD_eq_getElem?_getD]
 ·have h1:(List.range m)[j]?=none:=by simp;omega
  rw[h1];rfl
theorem QEM(t:List (List Int))(m:Nat):pre t m 0=List.replicate m 0:=by
 unfold pre
 rw[List.eq_replicate_iff]
 refine⟨by simp,fun x hx=>?_⟩
 obtain⟨j,_,rfl⟩:=List.mem_map.mp hx
 rfl
structure Tb(t:List (List Int))(m:Nat):Prop where
 n1:1<=t.length
 n2:t.length<=12
 m6:m<=6
 row:∀ r∈t,r.length=m
 ent:∀ r∈t,∀ x∈r,0<=x/\x<=9
theorem QFK{a b:List Int}(hl:a.length<=1000):Qcr [dl a,dl b]=.ok (dl (List.zipWith (· + ·) a b)):=by
 have h:=QEF (js:=[none,none]) (its:=itZ (eVar 0) (eVar 1)) (e:=Qko) (ς:=[some (.k,dl a),some (.k,dl b)]) (a:=a) (b:=b) (· + ·) rfl (fun x _ y _=>rfl) hl
 rw[QC6]
 unfold QfR sRetF
 rw[h];rfl
def hdD(t:List (List Int))(m:Nat)(k:Nat):D:=.lst ((List.range (k+1)).map fun i=>dl (pre t m i))
theorem Qz3{t:List (List Int)}{m:Nat}(h:Tb t m):Qas [tbD t]=.ok (hdD t m t.length):=by
 obtain⟨n1,n2,m6,row,_⟩:=h
 have r0:t[0]?=some t[0]:=by simp
 have hr0:(t[0]).length=m:=row _ (List.getElem_mem _)
 have hix:dIx (tbD t) (.int 0)=.ok (dl t[0]):=ixL 0 (by rw[List.getElem?_map,r0];rfl)
 have hc:eComp [none] (itL (e2 dIx (eVar 0) (eC (.int 0)))) (gN 0) cTrue QdW [some (.k,tbD t),none,none]=.ok (dl (pre t m 0)):=by
  rw[Qlf (xs:=(t[0]).map .int) (h:=fun _=>.int 0) (by simp only[itL,e2,eVar,eC,Out.bind_ok,List.getElem?_cons_zero,hix];rfl) (fun x _=>rfl) (by rw[List.length_map];omega)]
  rw[QEM,List.map_map]
  unfold dl
  congr 2
  rw[List.map_replicate]
  exact List.eq_replicate_iff.mpr ⟨by simp[hr0],fun x hx=>by obtain⟨_,_,rfl⟩:=List.mem_map.mp hx;rfl⟩
 obtain⟨ς',hL,a2,rfl⟩:=loopL (body:=fun x ς=>gN 2 x ς>>=fun ς'=>QbE ς') (xs:=t.map dl) (P:=fun k ς=>∃ a2,ς=[some (.k,tbD t),some (.o,hdD t m k),a2]) 0
  (by
   rintro k x hx ς ⟨a2,rfl⟩
   rw[Nat.zero_add]at *
   rw[List.getElem?_map]at hx
   cases ht:t[k]? with
   | none=>rw[ht]at hx;cases hx
   | some r=>
    rw[ht]at hx
    cases hx
    have hk:k<t.length:=(List.getElem?_eq_some_iff.mp ht).1
    have hrm:r.length=m:=row r (List.mem_of_getElem? ht)
    have hl:(pre t m k).length=m:=by simp[pre]
    have s:=QFK (a:=pre t m k) (b:=r) (by omega)
    rw[QE9 ht hrm]at s
    have hat:atI ((List.range (k+1)).map fun i=>dl (pre t m i)) (-1)=some (dl (pre t m k)):=by
     unfold atI ixN
     simp
     rw[if_pos (by omega),show((-1:Int)+((k:Int)+1)).toNat=k by omega]
     simp
    refine⟨[some (.k,tbD t),some (.o,hdD t m (k+1)),some (.k,dl r)],?_,_,rfl⟩
    have e1':eIxO 1 (e1 dNeg (eC (.int 1))) [some (.k,tbD t),some (.o,hdD t m k),some (.k,dl r)]=.ok (dl (pre t m k)):=by
     unfold eIxO hdD
     simp only[List.getElem?_cons_succ,List.getElem?_cons_zero,e1,eC,Out.bind_ok,Qan,hat];rfl
    have hlt:decide (((List.range (k+1)).map fun i=>dl (pre t m i)).length<sizeLine)=true:=by
     have:(1000:Nat)<=sizeLine:=by decide
     rw[List.length_map,List.length_range]
     exact decide_eq_true (by omega)
    have hnext:((List.range (k+1)).map fun i=>dl (pre t m i))++[dl (pre t m (k+1))]=(List.range (k+1+1)).map fun i=>dl (pre t m i):=by
     rw[List.range_succ (n:=k+1),List.map_append];rfl
    show QbE [some (.k,tbD t),some (.o,hdD t m k),some (.k,dl r)]=_
    unfold QbE Qa1
    simp only[List.getElem?_cons_succ,List.getElem?_cons_zero,hdD]
    have e3':eA (fun xs=>Qcr (xs++[])) (aCons (eIxO 1 (e1 dNeg (eC (.int 1)))) (aCons (eVar 2) aNil)) [some (.k,tbD t),some (.o,hdD t m k),some (.k,dl r)]=.ok (dl (pre t m (k+1))):=by
     simp only[eA,aCons,aNil,e1',eVar,Out.bind_ok,List.getElem?_cons_succ,List.getElem?_cons_zero,List.append_nil,s]
    rw[show(D.lst ((List.range (k+1)).map fun i=>dl (pre t m i)))=hdD t m k from rfl,e3',Out.bind_ok,if_pos hlt,hnext]
    rfl)
  [some (.k,tbD t),some (.o,hdD t m 0),none] ⟨_,rfl⟩
 rw[Nat.zero_add,List.length_map]at hL
 have hfor:=QbG (g:=gN 2) (its:=itL (eVar 0)) (T:=QbE) (ς:=[some (.k,tbD t),some (.o,hdD t m 0),none]) (xs:=t.map dl) rfl hL
 rw[QoP]
 unfold Qdu
 have hs:sSetO 1 (eLst (aCons (eComp [none] (itL (e2 dIx (eVar 0) (eC (.int 0)))) (gN 0) cTrue QdW) aNil)) [some (.k,tbD t),none,none]=.ok (.nx [some (.k,tbD t),some (.o,hdD t m 0),none]):=by
  simp only[sSetO,eLst,aCons,aNil,hc,Out.bind_ok,List.length_cons,List.length_nil,Q0,Nat.reduceAdd,Nat.reduceLeDiff,if_true];rfl
 simp only[sSeq,hs,Out.bind_ok,thenF,hfor]
 rfl
def ckF(t:List (List Int))(m:Nat):List (Str×D):=[("table",tbD t),("heads",hdD t m t.length)]
def ck(c:Str)(t:List (List Int))(m:Nat):D:=.ins c (ckF t m)
theorem QGX:(("heads":Str) == ("table":Str))=false:=dk
theorem QHJ(t:List (List Int))(m:Nat):(ckF t m).lookup ("table":Str)=some (tbD t):=by
 unfold ckF;rw[List.lookup_cons,beq_self_eq_true]
theorem QHc(t:List (List Int))(m:Nat):(ckF t m).lookup ("heads":Str)=some (hdD t m t.length):=by
 unfold ckF;rw[List.lookup_cons,QGX,List.lookup_cons,beq_self_eq_true]
theorem QFZ{n:Str}(h1:(n == ("table":Str))=false)(h2:(n == ("heads":Str))=false)(t:List (List Int))(m:Nat):(ckF t m).lookup n=none:=by
 unfold ckF;rw[List.lookup_cons,h1,List.lookup_cons,h2];rfl
theorem put_h(t:List (List Int))(m:Nat):putD "heads" (hdD t m t.length) [("table",tbD t)]=ckF t m:=by
 have:¬ (("table":Str)=("heads":Str)):=dk
 unfold putD
 rw[if_neg this];rfl
theorem QjZ{c:Str}(hc:CK.contains c=true){t:List (List Int)}{m:Nat}(h:Tb t m):QK c [] [tbD t]=.ok (ckF t m):=by
 have hk:eComp [none] (itL (eVar 1)) (gN 0) cTrue QcV [some (.s,.ins c []),some (.k,tbD t)]=.ok (tbD t):=by
  rw[Qlf (xs:=t.map dl) (h:=id) rfl ?_ (by rw[List.length_map];have:=h.n2;omega),List.map_id]
  ·rfl
  ·intro x hx
   obtain⟨r,_,rfl⟩:=List.mem_map.mp hx
   rfl
 have r1:=Qz3 h
 have hz:∀ n:Nat,n<10->(Qj.contains c&&decide (n<1000))=true:=fun n hn=>by rw[QtR hc,Bool.true_and];exact decide_eq_true (by omega)
 have s1:sFldS Qj "table" 0 (eComp [none] (itL (eVar 1)) (gN 0) cTrue QcV) [some (.s,.ins c []),some (.k,tbD t)]=.ok (.nx [some (.s,.ins c [("table",tbD t)]),some (.k,tbD t)]):=by
  unfold sFldS
  rw[hk,Out.bind_ok]
  show(if (Qj.contains c&&decide (([]:List (Str×D)).length<1000))=true then _ else _)=_
  exact(if_pos (c:=(Qj.contains c&&decide (0<1000))=true) (hz 0 (by decide))).trans rfl
 have s2:sFldS Qj "heads" 0 (eA (fun xs=>Qas (xs++[])) (aCons (eVar 1) aNil)) [some (.s,.ins c [("table",tbD t)]),some (.k,tbD t)]=.ok (.nx [some (.s,.ins c (ckF t m)),some (.k,tbD t)]):=by
  unfold sFldS
  have:eA (fun xs=>Qas (xs++[])) (aCons (eVar 1) aNil) [some (.s,.ins c [("table",tbD t)]),some (.k,tbD t)]=.ok (hdD t m t.length):=by
   simp only[eA,aCons,aNil,eVar,Out.bind_ok,List.getElem?_cons_succ,List.getElem?_cons_zero,List.append_nil,r1]
  rw[this,Out.bind_ok]
  show(if (Qj.contains c&&decide ([(("table":Str),tbD t)].length<1000))=true then _ else _)=_
  refine(if_pos (c:=(Qj.contains c&&decide (1<1000))=true) (hz 1 (by decide))).trans ?_
  rw[put_h];rfl
 rw[Qj4]
 unfold Qcb
 simp only[sSeq,s1,QHT,Out.bind_ok,thenF,s2]
 simp only[Qdb,QiJ,List.getElem?_cons_zero,if_true]
theorem Qha{c:Str}(hc:CK.contains c=true){t:List (List Int)}{m:Nat}{n:Str}{mt:Str->List D->Out D}{O:SD->Out D}{A:SD->Out (List D)}{ς:SD}{xs:List D}(hO:O ς=.ok (ck c t m))(hA:A ς=.ok xs)(h1:(n == ("table":Str))=false)(h2:(n == ("heads":Str))=false):
 eMeth CK n mt O A ς=mt c (ck c t m::xs):=by
 unfold eMeth
 rw[hO,Out.bind_ok]
 show(if (CK.contains c&&((ckF t m).lookup n).isNone)=true then A ς>>=fun xs=>mt c (.ins c (ckF t m)::xs) else .stuck)=_
 simp only[QFZ h1 h2,hc,Option.isNone_none,Bool.and_self,if_true,hA,Out.bind_ok]
 rfl
theorem fld_t{c:Str}(hc:CK.contains c=true)(t:List (List Int))(m:Nat):dFld Qj "table" (ck c t m)=.ok (tbD t):=by
 show(if Qj.contains c=true then optO ((ckF t m).lookup ("table":Str)) else .stuck)=_
 rw[if_pos (QtR hc),QHJ];rfl
theorem fld_h{c:Str}(hc:CK.contains c=true)(t:List (List Int))(m:Nat):dFld Qj "heads" (ck c t m)=.ok (hdD t m t.length):=by
 show(if Qj.contains c=true then optO ((ckF t m).lookup ("heads":Str)) else .stuck)=_
 rw[if_pos (QtR hc),QHc];rfl
theorem Qi0{c:Str}(hc:CK.contains c=true)(t:List (List Int))(m:Nat):QP [ck c t m]=.ok (.int (t.length:Int)):=by
 have:fLen [tbD t]=.ok (.int (t.length:Int)):=by simp[fLen,tbD]
 simp only[Qog,Qdm,sRet,eA,aCons,aNil,e1,eVar,List.getElem?_cons_zero,Out.bind_ok,fld_t hc,this]
 rfl
theorem per_m{c:Str}(hc:CK.contains c=true)(t:List (List Int))(m:Nat){ς:SD}(h:ς[0]?=some (some (.k,ck c t m))):eMeth CK "period" (fun _=>QP) (eVar 0) aNil ς=.ok (.int (t.length:Int)):=by
 rw[Qha (c:=c) (t:=t) (m:=m) hc (xs:=[]) (by unfold eVar;rw[h]) rfl (dk) (dk)]
 exact Qi0 hc t m
theorem hd_ix{t:List (List Int)}{m k:Nat}(hk:k<=t.length):dIx (hdD t m t.length) (.int (k:Int))=.ok (dl (pre t m k)):=ixL k (by rw[List.getElem?_map,List.getElem?_range (by omega)];rfl)
theorem QD1{c:Str}(hc:CK.contains c=true)(t:List (List Int))(m:Nat):QaF [ck c t m]=.ok (dl (pre t m t.length)):=by
 rw[Qqh]
 unfold QdL sRetF
 simp only[e1,e2,eVar,List.getElem?_cons_zero,Out.bind_ok,fld_h hc,per_m hc t m (ς:=[some (.k,ck c t m)]) rfl,hd_ix (Nat.le_refl _)]
 rfl
theorem cs_le{t:List (List Int)}{m:Nat}(h:Tb t m)(k j:Nat):0<=cs t k j/\cs t k j<=9 * (t.length:Int):=by
 have key:∀ l:List (List Int),(∀ r∈l,r∈t)->0<=(l.map fun r=>r.getD j 0).sum/\(l.map fun r=>r.getD j 0).sum<=9 * (l.length:Int):=by
  intro l
  induction l with
  | nil=>intro _;simp
  | cons r l ih=>
   intro hr
   have i1:=ih fun x hx=>hr x (List.mem_cons_of_mem _ hx)
   have h0:0<=r.getD j 0/\r.getD j 0<=9:=by
    rw[List.getD_eq_getElem?_getD]
    cases hx:r[j]? with
    | none=>decide
    | some x=>exact h.ent r (hr r (List.mem_cons_self ..)) x (List.mem_of_getElem? hx)
   rw[List.map_cons,List.sum_cons,List.length_cons]
   omega
 have:=key (t.take k) fun r hr=>List.mem_of_mem_take hr
 unfold cs
 have hl:(t.take k).length<=t.length:=by rw[List.length_take];omega
 omega
theorem QCD(i:Int):QaG [.int i]=.ok (.bl true):=by
 rw[QAw];simp[Qd8,bodyF,retF,sSeq,thenF,sSet,sRet,sIf,sNil,eVar,eC,e1,e2,eA,f1,aNil,aCons,tVal,tAnd',tOr',tNot',eAnd,eOr,eNot,eIf,eTup,eLst,eIsa,isaT,Q9,oNo,oSome,sPar,sUnp,QV,gN,gT,fLen,Q0,Out.bind_ok,Out.bind_exc,Out.bind_stuck,Out.pure_eq,D.scal,Q7,Qak,Qan,Qaq,QaT,Qat,Qay,QaU,Qaf,Qal,List.length_cons,List.length_nil,List.map_cons,List.map_nil,List.cons_append,List.nil_append,List.append_nil,List.getElem?_cons_zero,List.getElem?_cons_succ,List.set_cons_zero,List.set_cons_succ,List.replicate,Nat.reduceAdd,Nat.reduceSub,Nat.reduceLeDiff,Nat.zero_add,Nat.add_zero,reduceIte,Bool.not_true,Bool.not_false,Bool.true_and,Bool.and_true,Bool.false_and,Bool.and_false,Bool.or_true,Bool.true_or,Bool.or_false,Bool.false_or,Bool.false_eq_true,decide_true,decide_false,decide_eq_true_eq,Bool.not_eq_true',decide_eq_false_iff_not,Int.reduceEq,Int.reduceLT,Int.reduceLE,Int.reduceNeg,Nat.reduceEqDiff, ↓reduceIte,not_true_eq_false,not_false_eq_true]
theorem Qgb{i a b:Int}(h1:a<=i)(h2:i<=b):Qaj [.int i,.int a,.int b]=.ok (.bl true):=by
 have hw:=QCD i
 have e1':decide (a<=i)=true:=decide_eq_true h1
 have e2':decide (i<=b)=true:=decide_eq_true h2
 rw[Qxc]
 simp[QeK,bodyF,retF,sSeq,thenF,sSet,sRet,sIf,sNil,eVar,eC,e1,e2,eA,f1,aNil,aCons,tVal,tAnd',tOr',tNot',eAnd,eOr,eNot,eIf,eTup,eLst,eIsa,isaT,Q9,oNo,oSome,sPar,sUnp,QV,gN,gT,fLen,Q0,Out.bind_ok,Out.bind_exc,Out.bind_stuck,Out.pure_eq,D.scal,Q7,Qak,Qan,Qaq,QaT,Qat,Qay,QaU,Qaf,Qal,List.length_cons,List.length_nil,List.map_cons,List.map_nil,List.cons_append,List.nil_append,List.append_nil,List.getElem?_cons_zero,List.getElem?_cons_succ,List.set_cons_zero,List.set_cons_succ,List.replicate,Nat.reduceAdd,Nat.reduceSub,Nat.reduceLeDiff,Nat.zero_add,Nat.add_zero,reduceIte,Bool.not_true,Bool.not_false,Bool.true_and,Bool.and_true,Bool.false_and,Bool.and_false,Bool.or_true,Bool.true_or,Bool.or_false,Bool.false_or,Bool.false_eq_true,decide_true,decide_false,decide_eq_true_eq,Bool.not_eq_true',decide_eq_false_iff_not,Int.reduceEq,Int.reduceLT,Int.reduceLE,Int.reduceNeg,Nat.reduceEqDiff, ↓reduceIte,not_true_eq_false,not_false_eq_true,hw,Qdc,h1,h2]
theorem Quo{r:List Int}(hl:r.length<=6)(h:∀ x∈r,0<=x/\x<=9):Qcu [dl r]=.ok (.bl true):=by
 have hlen:fLen [dl r]=.ok (.int (r.length:Int)):=by simp[fLen,dl]
 have hc:eComp [none] (itL (eVar 0)) (gN 0) cTrue Qhu [some (.k,dl r)]=.ok (.lst (r.map fun _=>D.bl true)):=by
  refine QW D.int (fun _=>.bl true) rfl (fun x hx=>?_) (by omega)
  have hw:=Qgb (h x hx).1 (h x hx).2
  refine QZ (by walk_at "cap") (by walk_at "s") ?_
  unfold Qhu
  (repeat walk_at "e")
 have ha:fAll (.lst (r.map fun _=>D.bl true))=.ok (.bl true):=by rw[Qk6 (fun _=>true)];simp
 have hf:f1 fAll [.lst (r.map fun _=>D.bl true)]=.ok (.bl true):=ha
 have hi:isaT "list" (dl r)=.ok true:=by simp[isaT,dl,Q9]
 have hg:decide ((6:Int)<(r.length:Int))=false:=decide_eq_false (by omega)
 rw[QEI]
 unfold Qht
 (repeat walk_at "e")
theorem QBt{t:List (List Int)}{m:Nat}(h:Tb t m):Qct [tbD t]=.ok (.bl true):=by
 obtain⟨n1,n2,m6,row,ent'⟩:=h
 have hlen:fLen [tbD t]=.ok (.int (t.length:Int)):=by simp[fLen,tbD]
 have hc:eComp [none] (itL (eVar 0)) (gN 0) cTrue QfJ [some (.k,tbD t)]=.ok (.lst (t.map fun _=>D.bl true)):=by
  refine QW dl (fun _=>.bl true) rfl (fun x hx=>?_) (by omega)
  have hw:=Quo (r:=x) (by rw[row x hx];exact m6) (ent' x hx)
  refine QZ (by walk_at "cap") (by walk_at "s") ?_
  unfold QfJ
  (repeat walk_at "e")
 have r0:t[0]?=some t[0]:=by simp
 have hr0:(t[0]).length=m:=row _ (List.getElem_mem _)
 have hix0:dIx (tbD t) (.int 0)=.ok (dl t[0]):=ixL 0 (by rw[List.getElem?_map,r0];rfl)
 have hl0:fLen [dl t[0]]=.ok (.int (m:Int)):=by simp[fLen,dl,hr0]
 have hc2:eComp [none,some 0] (itL (eVar 0)) (gN 0) cTrue QfD [some (.k,tbD t)]=.ok (.lst (t.map fun _=>D.bl true)):=by
  refine QW dl (fun _=>.bl true) rfl (fun x hx=>?_) (by omega)
  have hlx:fLen [dl x]=.ok (.int (m:Int)):=by simp[fLen,dl,row x hx]
  have he:dEq (.int (m:Int)) (.int (m:Int))=.ok (.bl true):=by rw[Qaf];simp
  refine QZ (by walk_at "cap") (by walk_at "s") ?_
  unfold QfD
  (repeat walk_at "e")
 have ha:fAll (.lst (t.map fun _=>D.bl true))=.ok (.bl true):=by rw[Qk6 (fun _=>true)];simp
 have hf:f1 fAll [.lst (t.map fun _=>D.bl true)]=.ok (.bl true):=ha
 have hi:isaT "list" (tbD t)=.ok true:=by simp[isaT,tbD,Q9]
 have hg:decide ((1:Int)<=(t.length:Int))=true:=decide_eq_true (by omega)
 have hg2:decide ((t.length:Int)<=12)=true:=decide_eq_true (by omega)
 rw[QA3]
 unfold Qfl
 (repeat walk_at "e")
theorem QDi{c:Str}(hc:CK.contains c=true){t:List (List Int)}{m:Nat}(h:Tb t m):Qb6 c [] [tbD t]=.ok (ckF t m):=by
 have h1:=QBt h
 have h2:=QjZ hc h
 rw[Qy1]
 unfold QeE
 (repeat walk_at "e")
theorem QCu{c:Str}(hc:CK.contains c=true){r:List Int}{m:Nat}(h:Tb [r] m):Qb7 c [] [dl r]=.ok (ckF [r] m):=by
 have h1:=Quo (r:=r) (by rw[h.row r (by simp)];exact h.m6) (h.ent r (by simp))
 have h2:QK c [] [.lst [dl r]]=.ok (ckF [r] m):=QjZ hc h
 rw[QxX]
 unfold QeL
 (repeat walk_at "e")
def one(n s:Nat):List Int:=(List.range n).map fun k=>if k=s then 1 else 0
def dealT(n:Nat):List (List Int):=(List.range n).map (one n)
def bunT(n:Nat):List (List Int):=(List.range n).map fun s=>[if s+1=n then 1 else 0]
theorem QDA{n s:Nat}(h:n<=100):QbD [.int n,.int s]=.ok (dl (one n s)):=by
 have hc:eComp [none,some 1] (itR1 (eVar 0)) (gN 0) cTrue Qew [some (.k,.int n),some (.k,.int s)]=.ok (.lst ((List.range n).map fun k=>D.int (if k=s then 1 else 0))):=by
  refine QkV (fun k=>D.int (if k=s then 1 else 0)) (Qcg n rfl (by omega)) (fun k hk=>?_) (by omega)
  refine QZ (by walk_at "cap") (by walk_at "s") ?_
  unfold Qew
  by_cases e:k=s
  ·have e':decide ((k:Int)=(s:Int))=true:=decide_eq_true (by omega)
   rw[if_pos e]
   (repeat walk_at "e")
  ·have e':decide ((k:Int)=(s:Int))=false:=decide_eq_false (by omega)
   rw[if_neg e]
   (repeat walk_at "e")
 have he:dl (one n s)=.lst ((List.range n).map fun k=>D.int (if k=s then 1 else 0)):=by unfold dl one;rw[List.map_map];rfl
 rw[he,Qsc]
 unfold Qen
 (repeat walk_at "e")
theorem Qzv{n:Nat}(h1:1<=n)(h6:n<=6):Tb (dealT n) n:=by
 refine⟨by simp[dealT];omega,by simp[dealT];omega,h6,fun r hr=>?_,fun r hr x hx=>?_⟩<;>obtain⟨s,_,rfl⟩:=List.mem_map.mp hr
 ·simp[one]
 ·obtain⟨k,_,rfl⟩:=List.mem_map.mp hx
  split<;>decide
theorem QBJ{n:Nat}(h1:1<=n)(h6:n<=12):Tb (bunT n) 1:=by
 refine⟨by simp[bunT];omega,by simp[bunT];omega,by decide,fun r hr=>?_,fun r hr x hx=>?_⟩<;>obtain⟨s,_,rfl⟩:=List.mem_map.mp hr
 ·simp
 ·rw[List.mem_singleton.mp hx]
  split<;>decide
theorem QCC{c:Str}(hc:CK.contains c=true){n:Nat}(n1:1<=n)(n6:n<=6):Qb9 c [] [.int n]=.ok (ckF (dealT n) n):=by
 have h1:=Qgb (i:=n) (a:=1) (b:=6) (by omega) (by omega)
 have h2:=QjZ hc (Qzv n1 n6)
 have hc':eComp [none,some 1] (itR1 (eVar 1)) (gN 0) cTrue Qe5 [some (.s,.ins c []),some (.k,.int n)]=.ok (tbD (dealT n)):=by
  have he:tbD (dealT n)=.lst ((List.range n).map fun s=>dl (one n s)):=by unfold tbD dealT;rw[List.map_map];rfl
  rw[he]
  refine QkV (fun s=>dl (one n s)) (Qcg n rfl (by omega)) (fun k hk=>?_) (by omega)
  have hs:=QDA (n:=n) (s:=k) (by omega)
  refine QZ (by walk_at "cap") (by walk_at "s") ?_
  unfold Qe5
  (repeat walk_at "e")
 rw[Qx6]
 unfold QeC
 (repeat walk_at "e")
theorem QEx{c:Str}(hc:CK.contains c=true){n:Nat}(n1:1<=n)(n6:n<=12):Qbc c [] [.int n]=.ok (ckF (bunT n) 1):=by
 have h1:=Qgb (i:=n) (a:=1) (b:=12) (by omega) (by omega)
 have h2:=QjZ hc (QBJ n1 n6)
 have hc':eComp [none,some 1] (itR1 (eVar 1)) (gN 0) cTrue Qee [some (.s,.ins c []),some (.k,.int n)]=.ok (tbD (bunT n)):=by
  have he:tbD (bunT n)=.lst ((List.range n).map fun s=>D.lst [.int (if s+1=n then 1 else 0)]):=by unfold tbD bunT;rw[List.map_map];rfl
  rw[he]
  refine QkV (fun s=>D.lst [.int (if s+1=n then 1 else 0)]) (Qcg n rfl (by omega)) (fun k hk=>?_) (by omega)
  refine QZ (by walk_at "cap") (by walk_at "s") ?_
  unfold Qee
  by_cases e:k+1=n
  ·have e':decide ((k:Int)=(n:Int) - 1)=true:=decide_eq_true (by omega)
   rw[if_pos e]
   (repeat walk_at "e")
  ·have e':decide ((k:Int)=(n:Int) - 1)=false:=decide_eq_false (by omega)
   rw[if_neg e]
   (repeat walk_at "e")
 rw[Qp5]
 unfold QdP
 (repeat walk_at "e")
abbrev rl(n:Nat)(f:Nat->D):D:=.lst ((List.range n).map f)
theorem atR{n i:Nat}{f:Nat->D}(h:i<n):((List.range n).map f)[i]?=some (f i):=by
 rw[List.getElem?_map,List.getElem?_range h];rfl
theorem ixR{n i:Nat}{f:Nat->D}(h:i<n):dIx (rl n f) (.int (i:Int))=.ok (f i):=ixL i (atR h)
theorem lenR(n:Nat)(f:Nat->D):fLen [rl n f]=.ok (.int (n:Int)):=by simp[fLen]
theorem Qhq{n:Nat}{f g:Nat->D}(h:∀ i,i<n->f i=g i):rl n f=rl n g:=by
 show D.lst _=D.lst _
 rw[List.map_congr_left fun i hi=>h i (List.mem_range.mp hi)]
theorem Qc6{body:D->SD->Out Fl}{P:Nat->SD->Prop}{f:Nat->D}{n:Nat}(h:∀ k:Nat,k<n->∀ ς,P k ς->∃ ς',body (f k) ς=.ok (.nx ς')/\P (k+1) ς')(ς:SD)(p0:P 0 ς):∃ ς',loopD body ((List.range n).map f) ς=.ok (.nx ς')/\P n ς':=by
 have go:∀ m k:Nat,k+m=n->∀ ς,P k ς->∃ ς',loopD body ((List.range' k m).map f) ς=.ok (.nx ς')/\P n ς':=by
  intro m
  induction m with
  | zero=>intro k hk ς p;exact⟨ς,rfl,by rw[← hk];exact p⟩
  | succ m ih=>
   intro k hk ς p
   obtain⟨ς1,e1',p1⟩:=h k (by omega) ς p
   obtain⟨ς2,e2',p2⟩:=ih (k+1) (by omega) ς1 p1
   refine⟨ς2,?_,p2⟩
   rw[List.range'_succ,List.map_cons,loopD,e1']
   exact e2'
 rw[List.range_eq_range']
 exact go n 0 (by omega) ς p0
def fr(x:Int×Int):D:=.tup [.int x.1,.int x.2]
theorem fr0(x:Int×Int):dIx (fr x) (.int 0)=.ok (.int x.1):=QFj _ _
theorem fr1(x:Int×Int):dIx (fr x) (.int 1)=.ok (.int x.2):=QFN _ _ _
theorem setR{n k:Nat}(hk:k<n)(f:Nat->D)(v:D):((List.range n).map f).set k v=(List.range n).map fun i=>if i=k then v else f i:=by
 apply List.ext_getElem?
 intro i
 rw[List.getElem?_set]
 by_cases hi:i<n
 ·have r1:((List.range n).map fun i=>if i=k then v else f i)[i]?=some (if i=k then v else f i):=atR hi
  rw[r1]
  by_cases e:k=i
  ·subst e
   rw[if_pos rfl,if_pos (by simpa using hi),if_pos rfl]
  ·rw[if_neg e,atR hi,if_neg (Ne.symm e)]
 ·have h1:((List.range n).map f)[i]?=none:=by simp;omega
  have h2:((List.range n).map fun i=>if i=k then v else f i)[i]?=none:=by simp;omega
  rw[h1,h2,if_neg (by omega)]
theorem ixNR{n k:Nat}(hk:k<n)(f:Nat->D):ixN ((List.range n).map f).length (k:Int)=some k:=by
 rw[List.length_map,List.length_range]
 unfold ixN
 rw[if_pos (by omega),if_pos (by omega)];simp
theorem allR{n:Nat}{f:Nat->D}(h:∀ i,i<n->(f i).scal=true):((List.range n).map f).all D.scal=true:=List.all_eq_true.mpr fun d hd=>by
 obtain⟨i,hi,rfl⟩:=List.mem_map.mp hd
 exact h i (List.mem_range.mp hi)
theorem QsY:∀ xs:List Str,strsD (xs.map D.str)=some xs
 | []=>rfl
 | x::xs=>by show(strsD (xs.map D.str)).map (x :: ·)=_;rw[QsY xs];rfl
def Inj(xs:List Str):Prop:=∀ i j,i<xs.length->xs[i]?=xs[j]?->i=j
theorem QsF{xs:List Str}(h:Inj xs):∀ i,i<=xs.length->LS.met (fun i=>xs.getD i "") i=xs.take i
 | 0,_=>rfl
 | i+1,hi=>by
  have ih:=QsF h i (by omega)
  have hl:i<xs.length:=by omega
  have e:xs.getD i ""=xs[i]:=by rw[List.getD_eq_getElem?_getD,List.getElem?_eq_getElem hl];rfl
  have ni:¬ xs[i]∈xs.take i:=fun z=>by
   obtain⟨j,hj,ej⟩:=List.getElem_of_mem z
   rw[List.getElem_take]at ej
   rw[List.length_take]at hj
   have:=h i j (by omega) (by rw[List.getElem?_eq_getElem hl,List.getElem?_eq_getElem (show j<xs.length by omega),ej])
   omega
  show(if xs.getD i ""∈LS.met (fun i=>xs.getD i "") i then LS.met (fun i=>xs.getD i "") i else LS.met (fun i=>xs.getD i "") i++[xs.getD i ""])=_
  rw[ih,e,if_neg ni,List.take_add_one,List.getElem?_eq_getElem hl];rfl
theorem Qju{xs:List Str}(h:Inj xs)(hl:xs.length<=1000):QX [.lst (xs.map .str)]=.ok (.bl true):=by
 have hu:QoC (.lst (xs.map .str))=.ok (.int (xs.length:Int)):=by
  show(match strsD (xs.map .str) with | some xs=>if decide (xs.length<4000)=true then Out.ok (D.int (QcF xs)) else .stuck | none=>.stuck)=_
  rw[QsY]
  show(if decide (xs.length<4000)=true then Out.ok (D.int (QcF xs)) else .stuck)=_
  rw[if_pos (decide_eq_true (by omega))]
  unfold QcF
  rw[QsF h _ (Nat.le_refl _),List.take_length]
 have hlen:fLen [.lst (xs.map D.str)]=.ok (.int (xs.length:Int)):=by simp[fLen]
 have he:dEq (.int (xs.length:Int)) (.int (xs.length:Int))=.ok (.bl true):=by rw[Qaf];simp
 rw[Qti]
 unfold Qeo
 (repeat walk_at "e")
theorem Qhh{n:Nat}{f:Nat->D}{M:Int}(h1:1<=n)(h2:(n:Int)<=M):QaV [rl n f,.int M]=.ok (.bl true):=by
 have hlen:=lenR n f
 have hi:isaT "list" (rl n f)=.ok true:=by simp[isaT,Q9]
 have g1:decide ((1:Int)<=(n:Int))=true:=decide_eq_true (by omega)
 have g2:decide ((n:Int)<=M)=true:=decide_eq_true h2
 have g3:dLe (.int (n:Int)) (.int M)=.ok (.bl true):=by rw[Qat,g2]
 rw[QC9]
 unfold Qga
 (repeat walk_at "e")
theorem QhE(n:Nat):f1 fAll [rl n (fun _=>.bl true)]=.ok (.bl true):=by
 show fAll (.lst ((List.range n).map fun _=>D.bl true))=_
 rw[Qk6 (fun _=>true)];simp
theorem QiO(n:Nat)(f:Nat->Str):(List.range n).map (fun i=>D.str (f i))=((List.range n).map f).map D.str:=by rw[List.map_map];rfl
theorem QFf{n:Nat}{f:Nat->Str}(h:∀ i j,i<n->j<n->f i=f j->i=j):Inj ((List.range n).map f):=by
 intro i j hi z
 rw[List.length_map,List.length_range]at hi
 rw[List.getElem?_map,List.getElem?_map,List.getElem?_range hi]at z
 by_cases hj:j<n
 ·rw[List.getElem?_range hj]at z
  exact h i j hi hj (Option.some.inj z)
 ·have h1:(List.range n)[j]?=none:=by simp;omega
  rw[h1]at z;cases z
structure Seats(n nd:Nat)(nm dn c:Nat->Str)(t:Nat->List (List Int))(m:Nat->Nat)(ld:Nat->Nat->Int)(st:Nat->Int):Prop where
 n1:1<=n
 n2:n<=60
 d1:1<=nd
 d2:nd<=6
 ck:∀ k,k<n->CK.contains (c k)=true
 tb:∀ k,k<n->Tb (t k) (m k)
 ldr:∀ k j,k<n->j<m k -> -(nd:Int)<=ld k j/\ld k j<(n:Int)
 str:∀ k,k<n->0<=st k/\st k<((t k).length:Int)
 isn:∀ k,k<n->Qao [.str (nm k)]=.ok (.bl true)
 isd:∀ d,d<nd->Qao [.str (dn d)]=.ok (.bl true)
 inj:∀ i j,i<n->j<n->nm i=nm j->i=j
 injd:∀ i j,i<nd->j<nd->dn i=dn j->i=j
 sep:∀ i d,i<n->d<nd->nm i≠dn d
def nml(nm dn:Nat->Str)(l:Int):Str:=if l<0 then dn (-1 - l).toNat else nm l.toNat
def seatD(nm dn c:Nat->Str)(t:Nat->List (List Int))(m:Nat->Nat)(ld:Nat->Nat->Int)(st:Nat->Int)(k:Nat):D:=
 .tup [.str (nm k),ck (c k) (t k) (m k),rl (m k) (fun j=>.str (nml nm dn (ld k j))),.int (st k)]
theorem ix_t{xs:List D}{d:D}(i:Nat)(h:xs[i]?=some d):dIx (.tup xs) (.int (i:Int))=.ok d:=by
 show optO (atI xs (i:Int))=_
 have hi:i<xs.length:=(List.getElem?_eq_some_iff.mp h).1
 have:atI xs (i:Int)=some d:=by
  unfold atI ixN
  rw[if_pos (by omega),if_pos (by omega)]
  simpa using h
 rw[this];rfl
theorem QE4{c:Str}(hc:CK.contains c=true)(t:List (List Int))(m:Nat):Qcv [ck c t m]=.ok (.bl true):=by
 have hm:c∈Qd:=by simpa using hc
 simp only[Qd,List.mem_cons,List.not_mem_nil,or_false]at hm
 have key:∀ c:Str,(c="Deal"∨c="Bundle"∨c="Copy"∨c="Rows")->anyT [[("Deal",true),("Bundle",false),("Copy",false),("Rows",false),("Office",false)],[("Deal",false),("Bundle",true),("Copy",false),("Rows",false),("Office",false)],[("Deal",false),("Bundle",false),("Copy",true),("Rows",false),("Office",false)],[("Deal",false),("Bundle",false),("Copy",false),("Rows",true),("Office",false)]] c=some true:=by
  rintro c (rfl | rfl | rfl | rfl)<;>decide +kernel
 have k:=key c hm
 rw[QAs]
 unfold Qfn
 show(sRet (eIsa (isaTs _) (eVar 0)) [some (.k,.ins c (ckF t m))]>>=retF false)=_
 have hi:isaTs [[("Deal",true),("Bundle",false),("Copy",false),("Rows",false),("Office",false)],[("Deal",false),("Bundle",true),("Copy",false),("Rows",false),("Office",false)],[("Deal",false),("Bundle",false),("Copy",true),("Rows",false),("Office",false)],[("Deal",false),("Bundle",false),("Copy",false),("Rows",true),("Office",false)]] (.ins c (ckF t m))=.ok true:=by
  show(match anyT _ c with | some b=>Out.ok b | none=>Out.stuck)=_
  rw[k]
 (repeat walk_at "e")
theorem QFr{c:Str}(hc:CK.contains c=true){t:List (List Int)}{m:Nat}(h:Tb t m):Qa7 [ck c t m]=.ok (.int (m:Int)):=by
 have n1:=h.n1
 have r0:t[0]?=some t[0]:=by simp
 have hix:dIx (tbD t) (.int 0)=.ok (dl t[0]):=ixL 0 (by rw[List.getElem?_map,r0];rfl)
 have hl0:fLen [dl t[0]]=.ok (.int (m:Int)):=by simp[fLen,dl,h.row _ (List.getElem_mem _)]
 have hf:=fld_t hc t m
 rw[Qt6]
 unfold Qd3
 (repeat walk_at "e")
theorem QEc{n:Nat}(hn:n<=100)(f:Nat->Str):QbU [rl n (fun j=>.str (f j)),.int (n:Int)]=.ok (.bl true):=by
 have hlen:=lenR n (fun j=>D.str (f j))
 have hi:isaT "list" (rl n (fun j=>D.str (f j)))=.ok true:=by simp[isaT,Q9]
 have hc:eComp [none] (itL (eVar 0)) (gN 0) cTrue Qe7 [some (.k,rl n (fun j=>.str (f j))),some (.k,.int (n:Int))]=.ok (rl n (fun _=>.bl true)):=by
  refine QW (fun j=>D.str (f j)) (fun _=>.bl true) rfl (fun j _=>?_) (by rw[List.length_range];omega)
  have hs:isaT "str" (D.str (f j))=.ok true:=by simp[isaT,Q9]
  refine QZ (by walk_at "cap") (by walk_at "s") ?_
  unfold Qe7
  (repeat walk_at "e")
 have he:dEq (.int (n:Int)) (.int (n:Int))=.ok (.bl true):=by rw[Qaf];simp
 have ha:=QhE n
 rw[Qx5]
 unfold QeH
 (repeat walk_at "e")
theorem QFm:Qao [.str "in"]=.ok (.bl true):=by with_unfolding_all rfl
section
variable{n nd:Nat}{nm dn c:Nat->Str}{t:Nat->List (List Int)}{m:Nat->Nat}{ld:Nat->Nat->Int}{st:Nat->Int}(hs:Seats n nd nm dn c t m ld st)
include hs
theorem QD0:QbV [rl nd (fun d=>.str (dn d)),.int 6]=.ok (.bl true):=by
 have d2:=hs.d2
 have h1:=Qhh (n:=nd) (f:=fun d=>.str (dn d)) (M:=6) hs.d1 (by omega)
 have hc:eComp [none] (itL (eVar 0)) (gN 0) cTrue Qfa [some (.k,rl nd (fun d=>.str (dn d))),some (.k,.int 6)]=.ok (rl nd (fun _=>.bl true)):=by
  refine QW (fun d=>D.str (dn d)) (fun _=>.bl true) rfl (fun d hd=>?_) (by rw[List.length_range];omega)
  have h:=hs.isd d (List.mem_range.mp hd)
  refine QZ (by walk_at "cap") (by walk_at "s") ?_
  unfold Qfa
  (repeat walk_at "e")
 have ha:=QhE nd
 have hu:QX [rl nd (fun d=>.str (dn d))]=.ok (.bl true):=by
  show QX [.lst _]=_
  rw[QiO]
  exact Qju (QFf hs.injd) (by simp;omega)
 rw[Qww]
 unfold QeG
 (repeat walk_at "e")
theorem QGH{k:Nat}(hk:k<n):Qc8 [seatD nm dn c t m ld st k]=.ok (.bl true):=by
 have tb:=hs.tb k hk
 have hc:=hs.ck k hk
 have m6:=tb.m6
 obtain⟨s0,s1⟩:=hs.str k hk
 have hi:isaT "tuple" (seatD nm dn c t m ld st k)=.ok true:=by simp[isaT,Q9,seatD]
 have hl:fLen [seatD nm dn c t m ld st k]=.ok (.int 4):=by simp[fLen,seatD]
 have x0:dIx (seatD nm dn c t m ld st k) (.int 0)=.ok (.str (nm k)):=ix_t 0 rfl
 have x1:dIx (seatD nm dn c t m ld st k) (.int 1)=.ok (ck (c k) (t k) (m k)):=ix_t 1 rfl
 have x2:dIx (seatD nm dn c t m ld st k) (.int 2)=.ok (rl (m k) (fun j=>.str (nml nm dn (ld k j)))):=ix_t 2 rfl
 have x3:dIx (seatD nm dn c t m ld st k) (.int 3)=.ok (.int (st k)):=ix_t 3 rfl
 have h0:=hs.isn k hk
 have h1:=QE4 hc (t k) (m k)
 have h2:=QEc (n:=m k) (by omega) (fun j=>nml nm dn (ld k j))
 have h3:=Qgb (i:=st k) (a:=0) (b:=((t k).length:Int) - 1) s0 (by omega)
 have mo:eMeth Qd "outs" (fun _=>Qa7) (e2 dIx (eVar 0) (eC (.int 1))) aNil [some (.k,seatD nm dn c t m ld st k)]=.ok (.int (m k:Int)):=by
  rw[Qha (c:=c k) (t:=t k) (m:=m k) hc (xs:=[]) (by (repeat walk_at "e")) rfl (dk) (dk)]
  exact QFr hc tb
 have mp:eMeth Qd "period" (fun _=>QP) (e2 dIx (eVar 0) (eC (.int 1))) aNil [some (.k,seatD nm dn c t m ld st k)]=.ok (.int ((t k).length:Int)):=by
  rw[Qha (c:=c k) (t:=t k) (m:=m k) hc (xs:=[]) (by (repeat walk_at "e")) rfl (dk) (dk)]
  exact Qi0 hc _ _
 have hne:dNe (.int 4) (.int 4)=.ok (.bl false):=by rw[Qal];rfl
 rw[QBN]
 unfold Qgc
 (repeat walk_at "e")
theorem QEy:QbZ [rl n (seatD nm dn c t m ld st),rl nd (fun d=>.str (dn d))]=.ok (.bl true):=by
 have n2:=hs.n2
 have d2:=hs.d2
 have h1:=Qhh (n:=n) (f:=seatD nm dn c t m ld st) (M:=60) hs.n1 (by omega)
 have hc:eComp [none] (itL (eVar 0)) (gN 0) cTrue Qe3 [some (.k,rl n (seatD nm dn c t m ld st)),some (.k,rl nd (fun d=>.str (dn d)))]=.ok (rl n (fun _=>.bl true)):=by
  refine QW (seatD nm dn c t m ld st) (fun _=>.bl true) rfl (fun k hk=>?_) (by rw[List.length_range];omega)
  have h:=QGH hs (List.mem_range.mp hk)
  refine QZ (by walk_at "cap") (by walk_at "s") ?_
  unfold Qe3
  (repeat walk_at "e")
 have ha:=QhE n
 have hn:eComp [none] (itL (eVar 0)) (gN 0) cTrue Qe0 [some (.k,rl n (seatD nm dn c t m ld st)),some (.k,rl nd (fun d=>.str (dn d)))]=.ok (rl n (fun k=>.str (nm k))):=by
  refine QW (seatD nm dn c t m ld st) (fun k=>D.str (nm k)) rfl (fun k hk=>?_) (by rw[List.length_range];omega)
  have x0:dIx (seatD nm dn c t m ld st k) (.int 0)=.ok (.str (nm k)):=ix_t 0 rfl
  refine QZ (by walk_at "cap") (by walk_at "s") ?_
  unfold Qe0
  (repeat walk_at "e")
 have hcat:dCat (rl n (fun k=>.str (nm k))) (rl nd (fun d=>.str (dn d)))=.ok (.lst ((((List.range n).map nm)++((List.range nd).map dn)).map .str)):=by
  rw[Qom (by simp;omega),List.map_append, ← QiO, ← QiO]
 have hu:QX [.lst ((((List.range n).map nm)++((List.range nd).map dn)).map .str)]=.ok (.bl true):=by
  refine Qju ?_ (by simp;omega)
  intro i j hi z
  rw[List.length_append,List.length_map,List.length_map,List.length_range,List.length_range]at hi
  have at':∀ i,(((List.range n).map nm)++((List.range nd).map dn))[i]?=if i<n then some (nm i) else if i - n<nd then some (dn (i - n)) else none:=fun i=>by
   rw[List.getElem?_append,List.length_map,List.length_range]
   split
   ·rw[List.getElem?_map,List.getElem?_range (by assumption)];rfl
   ·split
    ·rw[List.getElem?_map,List.getElem?_range (by assumption)];rfl
    ·simp;omega
  rw[at',at']at z
  by_cases a:i<n
  ·rw[if_pos a]at z
   by_cases b:j<n
   ·rw[if_pos b]at z;exact hs.inj i j a b (Option.some.inj z)
   ·rw[if_neg b]at z
    by_cases d:j - n<nd
    ·rw[if_pos d]at z;exact absurd (Option.some.inj z) (hs.sep i _ a d)
    ·rw[if_neg d]at z;cases z
  ·rw[if_neg a,if_pos (show i - n<nd by omega)]at z
   by_cases b:j<n
   ·rw[if_pos b]at z;exact absurd (Option.some.inj z).symm (hs.sep j _ b (by omega))
   ·rw[if_neg b]at z
    by_cases d:j - n<nd
    ·rw[if_pos d]at z
     have:=hs.injd _ _ (by omega) d (Option.some.inj z)
     omega
    ·rw[if_neg d]at z;cases z
 rw[QyX]
 unfold QeI
 (repeat walk_at "e")
theorem QER:dInL (.str (nm 0)) (rl n (fun k=>.str (nm k)))=.ok (.bl true):=by
 have n1:=hs.n1
 show(if (_&&((List.range n).map fun k=>D.str (nm k)).all D.scal)=true then Out.ok (D.bl (inV _ _)) else _)=_
 rw[if_pos (by rw[Bool.and_eq_true];exact⟨rfl,allR fun i _=>rfl⟩)]
 have:inV (toV (.str (nm 0))) (((List.range n).map fun k=>D.str (nm k)).map toV)=true:=by
  unfold inV
  rw[List.any_eq_true]
  refine⟨V.str (nm 0),?_,by show(nm 0 == nm 0)=true;exact beq_self_eq_true _⟩
  rw[List.map_map,List.mem_map]
  exact⟨0,List.mem_range.mpr (by omega),rfl⟩
 rw[this]
theorem Qz4:Qbd [.lst [.tup [.str "in",.str (nm 0)]],rl n (fun k=>.str (nm k))]=.ok (.bl true):=by
 have n1:=hs.n1
 have hin:=QFm
 have h0:=hs.isn 0 (by omega)
 have hL:=QER hs
 have e1':QcA [.tup [.str "in",.str (nm 0)],rl n (fun k=>.str (nm k))]=.ok (.bl true):=by
  have hi:isaT "tuple" (.tup [.str "in",.str (nm 0)])=.ok true:=by simp[isaT,Q9]
  have hl:fLen [.tup [.str "in",.str (nm 0)]]=.ok (.int 2):=by simp[fLen]
  have x0:dIx (.tup [.str "in",.str (nm 0)]) (.int 0)=.ok (.str "in"):=ix_t 0 rfl
  have x1:dIx (.tup [.str "in",.str (nm 0)]) (.int 1)=.ok (.str (nm 0)):=ix_t 1 rfl
  have hne:dNe (.int 2) (.int 2)=.ok (.bl false):=by rw[Qal];rfl
  rw[QBB]
  unfold Qfq
  (repeat walk_at "e")
 have h1:QaV [.lst [.tup [.str "in",.str (nm 0)]],.int 6]=.ok (.bl true):=Qhh (n:=1) (f:=fun _=>.tup [.str "in",.str (nm 0)]) (M:=6) (by decide) (by decide)
 have hc:eComp [none,some 1] (itL (eVar 0)) (gN 0) cTrue Qek [some (.k,.lst [.tup [.str "in",.str (nm 0)]]),some (.k,rl n (fun k=>.str (nm k)))]=.ok (rl 1 (fun _=>.bl true)):=by
  refine QW (l:=List.range 1) (fun _=>.tup [.str "in",.str (nm 0)]) (fun _=>.bl true) rfl (fun k hk=>?_) (by simp)
  refine QZ (by walk_at "cap") (by walk_at "s") ?_
  unfold Qek
  (repeat walk_at "e")
 have ha:=QhE 1
 have hn:eComp [none] (itL (eVar 0)) (gN 0) cTrue Qej [some (.k,.lst [.tup [.str "in",.str (nm 0)]]),some (.k,rl n (fun k=>.str (nm k)))]=.ok (.lst ([("in":Str)].map .str)):=by
  refine QW (l:=List.range 1) (fun _=>.tup [.str "in",.str (nm 0)]) (fun _=>.str "in") rfl (fun k hk=>?_) (by simp)
  have x0:dIx (.tup [.str "in",.str (nm 0)]) (.int 0)=.ok (.str "in"):=ix_t 0 rfl
  refine QZ (by walk_at "cap") (by walk_at "s") ?_
  unfold Qej
  (repeat walk_at "e")
 have hu:QX [.lst ([("in":Str)].map .str)]=.ok (.bl true):=Qju (by
  intro i j hi z
  have hi:i<1:=hi
  have:i=0:=by omega
  subst this
  cases j with
  | zero=>rfl
  | succ j=>simp at z) (by simp)
 rw[QpW]
 unfold QdS
 (repeat walk_at "e")
end
theorem Qsk{i:Nat}{I E:SD->Out D}{ς ς':SD}{kds:List (Key×D)}{d y:D}{k:Key}(a:E ς=.ok d)(e:ς[i]?=some (some (.o,.dic kds)))(a':I ς=.ok y)(hk:dkey y=some k)(hl:kds.length<=1000)
 (l:ς.set i (some (.o,.dic (putKD kds k d)))=ς'):sPutD i I E ς=.ok (.nx ς'):=by
 unfold sPutD
 rw[a,Out.bind_ok,e]
 show(I ς>>=_)=_
 rw[a',Out.bind_ok,hk]
 show(if _ then _ else _)=_
 rw[if_pos (Qzx hl),l]
theorem QHY{A B:SD->Out D}{ς:SD}{kds:List (Key×D)}{y:D}{k:Key}(a:A ς=.ok (.dic kds))(a':B ς=.ok y)(hk:dkey y=some k):eDget A B ς=.ok ((valD kds k).getD .non):=by
 unfold eDget
 rw[a,Out.bind_ok]
 show(B ς>>=_)=_
 rw[a',Out.bind_ok,hk]
theorem r_dix{A B:SD->Out D}{ς:SD}{kds:List (Key×D)}{y d:D}{k:Key}(a:A ς=.ok (.dic kds))(a':B ς=.ok y)(hk:dkey y=some k)(hv:valD kds k=some d):eDix A B ς=.ok d:=by
 unfold eDix
 rw[a,Out.bind_ok]
 show(B ς>>=_)=_
 rw[a',Out.bind_ok,hk]
 show optO (valD kds k)=_
 rw[hv];rfl
theorem QzB{kds:List (Key×D)}{k:Key}{d:D}(h:∀ kv∈kds,kv.1≠k):putKD kds k d=kds++[(k,d)]:=by
 unfold putKD
 rw[if_neg]
 intro z
 obtain⟨kv,hk,e⟩:=List.any_eq_true.mp z
 exact h kv hk (of_decide_eq_true e)
theorem QnV{k:Key}{d:D}:∀{kds:List (Key×D)}(i:Nat),kds[i]?=some (k,d)->(∀ j kv,j<i->kds[j]?=some kv->kv.1≠k)->valD kds k=some d
 | [],i,h,_=>by simp at h
 | kv::kds,0,h,_=>by
  simp at h
  subst h
  simp[valD]
 | kv::kds,i+1,h,hn=>by
  have h0:=hn 0 kv (by omega) rfl
  have:valD (kv::kds) k=valD kds k:=by simp[valD,List.find?_cons,h0]
  rw[this]
  exact QnV i (by simpa using h) fun j kv' hj he=>hn (j+1) kv' (by omega) (by simpa using he)
theorem enumR(n:Nat)(f:Nat->D):enumD 0 ((List.range n).map f)=(List.range n).map fun i:Nat=>D.tup [.int (i:Int),f i]:=by
 apply List.ext_getElem?
 intro i
 rw[Qjl,Nat.zero_add]
 by_cases hi:i<n
 ·have r1:((List.range n).map fun i:Nat=>D.tup [.int (i:Int),f i])[i]?=some (D.tup [.int (i:Int),f i]):=atR hi
  rw[atR hi,r1];rfl
 ·have h1:((List.range n).map f)[i]?=none:=by simp;omega
  have h2:((List.range n).map fun i:Nat=>D.tup [.int (i:Int),f i])[i]?=none:=by simp;omega
  rw[h1,h2];rfl
def plc(n nd:Nat)(nm dn:Nat->Str):List (Key×D):=((List.range n).map fun i:Nat=>((.inr (nm i):Key),D.int (i:Int)))++((List.range nd).map fun i:Nat=>((.inr (dn i):Key),D.int (-1 - (i:Int))))
theorem QmC(n nd:Nat)(nm dn:Nat->Str)(i:Nat):(plc n nd nm dn)[i]?=if i<n then some (.inr (nm i),.int (i:Int)) else if i - n<nd then some (.inr (dn (i - n)),.int (-1 - ((i - n:Nat):Int))) else none:=by
 unfold plc
 rw[List.getElem?_append,List.length_map,List.length_range]
 split
 ·rw[List.getElem?_map,List.getElem?_range (by assumption)];rfl
 ·split
  ·rw[List.getElem?_map,List.getElem?_range (by assumption)];rfl
  ·simp;omega
section
variable{n nd:Nat}{nm dn c:Nat->Str}{t:Nat->List (List Int)}{m:Nat->Nat}{ld:Nat->Nat->Int}{st:Nat->Int}(hs:Seats n nd nm dn c t m ld st)
include hs
theorem plc_c{i:Nat}(hi:i<n):valD (plc n nd nm dn) (.inr (nm i))=some (.int (i:Int)):=by
 refine QnV i (by rw[QmC,if_pos hi]) fun j kv hj he=>?_
 rw[QmC,if_pos (by omega)]at he
 cases he
 intro z
 have:=hs.inj j i (by omega) hi (Sum.inr.inj z)
 omega
theorem plc_d{d:Nat}(hd:d<nd):valD (plc n nd nm dn) (.inr (dn d))=some (.int (-1 - (d:Int))):=by
 refine QnV (n+d) (by rw[QmC,if_neg (by omega),if_pos (by omega),show n+d - n=d by omega]) fun j kv hj he=>?_
 rw[QmC]at he
 by_cases a:j<n
 ·rw[if_pos a]at he
  cases he
  intro z
  exact hs.sep j d a hd (Sum.inr.inj z)
 ·rw[if_neg a,if_pos (by omega)]at he
  cases he
  intro z
  have:=hs.injd _ _ (by omega) hd (Sum.inr.inj z)
  omega
theorem QBO:Qb4 [rl n (fun k=>.str (nm k)),rl nd (fun d=>.str (dn d))]=.ok (.dic (plc n nd nm dn)):=by
 have n2:=hs.n2
 have d2:=hs.d2
 obtain⟨ς1,hL1,a3,a4,rfl⟩:=Qc6 (body:=fun x ς=>gT [3,4] x ς>>=fun ς'=>QdG ς') (f:=fun i:Nat=>D.tup [.int (i:Int),.str (nm i)]) (n:=n)
  (P:=fun k ς=>∃(a3 a4:Option (SM×D)),ς=[some (.k,rl n (fun k=>.str (nm k))),some (.k,rl nd (fun d=>.str (dn d))),some (.o,.dic (plc k 0 nm dn)),a3,a4,none,none])
  (by
   rintro k hk ς ⟨a3,a4,rfl⟩
   refine⟨[some (.k,rl n (fun k=>.str (nm k))),some (.k,rl nd (fun d=>.str (dn d))),some (.o,.dic (plc (k+1) 0 nm dn)),some (.k,.int (k:Int)),some (.k,.str (nm k)),none,none],?_,_,_,rfl⟩
   have e:plc (k+1) 0 nm dn=putKD (plc k 0 nm dn) (.inr (nm k)) (.int (k:Int)):=by
    rw[QzB]
    ·show((List.range (k+1)).map _)++[]=((List.range k).map _++[])++[_]
     rw[List.append_nil,List.append_nil,List.range_succ,List.map_append];rfl
    ·intro kv hkv
     have hkv:kv∈((List.range k).map fun i:Nat=>((.inr (nm i):Key),D.int (i:Int)))++[]:=hkv
     rw[List.append_nil]at hkv
     obtain⟨i,hi,rfl⟩:=List.mem_map.mp hkv
     have hi:=List.mem_range.mp hi
     intro z
     have:=hs.inj i k (by omega) hk (Sum.inr.inj z)
     omega
   rw[e]
   refine r_gT (by walk_at "all") ?_
   unfold QdG
   exact Qsk (d:=.int (k:Int)) (y:=.str (nm k)) (k:=.inr (nm k)) (by (repeat walk_at "e")) rfl (by (repeat walk_at "e")) rfl (by unfold plc;simp;omega) rfl)
  [some (.k,rl n (fun k=>.str (nm k))),some (.k,rl nd (fun d=>.str (dn d))),some (.o,.dic []),none,none,none,none] ⟨_,_,rfl⟩
 obtain⟨ς2,hL2,a5,a6,rfl⟩:=Qc6 (body:=fun x ς=>gT [5,6] x ς>>=fun ς'=>QdJ ς') (f:=fun i:Nat=>D.tup [.int (i:Int),.str (dn i)]) (n:=nd)
  (P:=fun k ς=>∃(a5 a6:Option (SM×D)),ς=[some (.k,rl n (fun k=>.str (nm k))),some (.k,rl nd (fun d=>.str (dn d))),some (.o,.dic (plc n k nm dn)),a3,a4,a5,a6])
  (by
   rintro k hk ς ⟨a5,a6,rfl⟩
   refine⟨[some (.k,rl n (fun k=>.str (nm k))),some (.k,rl nd (fun d=>.str (dn d))),some (.o,.dic (plc n (k+1) nm dn)),a3,a4,some (.k,.int (k:Int)),some (.k,.str (dn k))],?_,_,_,rfl⟩
   have e:plc n (k+1) nm dn=putKD (plc n k nm dn) (.inr (dn k)) (.int (-1 - (k:Int))):=by
    rw[QzB]
    ·unfold plc
     rw[List.range_succ,List.map_append,List.append_assoc];rfl
    ·intro kv hkv
     rcases List.mem_append.mp hkv with w | w
     ·obtain⟨i,hi,rfl⟩:=List.mem_map.mp w
      intro z
      exact hs.sep i k (List.mem_range.mp hi) hk (Sum.inr.inj z)
     ·obtain⟨i,hi,rfl⟩:=List.mem_map.mp w
      have hi:=List.mem_range.mp hi
      intro z
      have:=hs.injd i k (by omega) hk (Sum.inr.inj z)
      omega
   rw[e]
   refine r_gT (by walk_at "all") ?_
   unfold QdJ
   exact Qsk (d:=.int (-1 - (k:Int))) (y:=.str (dn k)) (k:=.inr (dn k)) (by (repeat walk_at "e")) rfl (by (repeat walk_at "e")) rfl (by unfold plc;simp;omega) rfl)
  [some (.k,rl n (fun k=>.str (nm k))),some (.k,rl nd (fun d=>.str (dn d))),some (.o,.dic (plc n 0 nm dn)),a3,a4,none,none] ⟨_,_,rfl⟩
 have hi1:itE (eVar 0) [some (.k,rl n (fun k=>.str (nm k))),some (.k,rl nd (fun d=>.str (dn d))),some (.o,.dic []),none,none,none,none]=.ok ((List.range n).map fun i:Nat=>D.tup [.int (i:Int),.str (nm i)]):=by rw[← enumR];rfl
 have hi2:itE (eVar 1) [some (.k,rl n (fun k=>.str (nm k))),some (.k,rl nd (fun d=>.str (dn d))),some (.o,.dic (plc n 0 nm dn)),a3,a4,none,none]=.ok ((List.range nd).map fun i:Nat=>D.tup [.int (i:Int),.str (dn i)]):=by rw[← enumR];rfl
 have f1':=QbG (g:=gT [3,4]) (T:=QdG) hi1 hL1
 have f2':=QbG (g:=gT [5,6]) (T:=QdJ) hi2 hL2
 have s0:sSetO 2 eDic0 [some (.k,rl n (fun k=>.str (nm k))),some (.k,rl nd (fun d=>.str (dn d))),none,none,none,none,none]=.ok (.nx [some (.k,rl n (fun k=>.str (nm k))),some (.k,rl nd (fun d=>.str (dn d))),some (.o,.dic []),none,none,none,none]):=rfl
 rw[QyS]
 unfold QeM
 (repeat walk_at "e")
theorem QD7{k:Nat}(hk:k<n):Qcz [seatD nm dn c t m ld st k,.dic (plc n nd nm dn)]=.ok (rl (m k) (fun j=>.int (ld k j))):=by
 have m6:=(hs.tb k hk).m6
 have x2:dIx (seatD nm dn c t m ld st k) (.int 2)=.ok (rl (m k) (fun j=>.str (nml nm dn (ld k j)))):=ix_t 2 rfl
 have hc:eComp [none,some 1] (itL (e2 dIx (eVar 0) (eC (.int 2)))) (gN 0) cTrue QfC [some (.k,seatD nm dn c t m ld st k),some (.k,.dic (plc n nd nm dn))]=.ok (rl (m k) (fun j=>.int (ld k j))):=by
  refine QW (fun j=>D.str (nml nm dn (ld k j))) (fun j=>D.int (ld k j)) (by (repeat walk_at "e")) (fun j hj=>?_) (by rw[List.length_range];omega)
  obtain⟨l1,l2⟩:=hs.ldr k j hk (List.mem_range.mp hj)
  refine QZ (by walk_at "cap") (by walk_at "s") ?_
  unfold QfC
  have hv:valD (plc n nd nm dn) (.inr (nml nm dn (ld k j)))=some (.int (ld k j)):=by
   unfold nml
   by_cases h:ld k j<0
   ·rw[if_pos h,plc_d hs (show(-1 - ld k j).toNat<nd by omega)]
    congr 2;omega
   ·rw[if_neg h,plc_c hs (show(ld k j).toNat<n by omega)]
    congr 2;omega
  rw[QHY (kds:=plc n nd nm dn) (y:=.str (nml nm dn (ld k j))) (k:=.inr (nml nm dn (ld k j))) (by (repeat walk_at "e")) (by (repeat walk_at "e")) rfl,hv];rfl
 rw[QBn]
 unfold Qfr
 (repeat walk_at "e")
end
theorem QzE{f:Str}{d:D}:∀{fs:List (Str×D)},(fs.map Prod.fst).contains f=false->putD f d fs=fs++[(f,d)]
 | [],_=>rfl
 | (g,x)::fs,h=>by
  rw[List.map_cons,List.contains_cons,Bool.or_eq_false_iff]at h
  have ne:¬ g=f:=fun z=>by subst z;simp at h
  show(if g=f then _ else(g,x)::putD f d fs)=_
  rw[if_neg ne,QzE h.2];rfl
theorem Qhf{cs:List Str}{f c:Str}{i:Nat}{E:SD->Out D}{ς ς':SD}{d:D}{fds:List (Str×D)}(a:E ς=.ok d)(e:ς[i]?=some (some (.s,.ins c fds)))(hc:cs.contains c=true)(hl:fds.length<=900)(hf:(fds.map Prod.fst).contains f=false)
 (l:ς.set i (some (.s,.ins c (fds++[(f,d)])))=ς'):sFldS cs f i E ς=.ok (.nx ς'):=by
 unfold sFldS
 rw[a,Out.bind_ok,e]
 show(if (cs.contains c&&decide (fds.length<1000))=true then _ else _)=_
 rw[if_pos (by rw[hc,Bool.true_and];exact decide_eq_true (by omega)),QzE hf,l]
section
variable(n nd:Nat)(nm dn c:Nat->Str)(t:Nat->List (List Int))(m:Nat->Nat)(ld:Nat->Nat->Int)(st:Nat->Int)
def offF:List (Str×D):=[("clerk_names",rl n (fun k=>.str (nm k))),("door_names",rl nd (fun d=>.str (dn d))),("entry_places",.lst [.tup [.str "in",.int 0]]),("staff",rl n (fun k=>ck (c k) (t k) (m k))),("first_states",rl n (fun k=>.int (st k))),("ways",rl n (fun k=>rl (m k) (fun j=>.int (ld k j))))]
def offD:D:=.ins "Office" (offF n nd nm dn c t m ld st)
end
theorem Qzd:Qj.contains "Office"=true:=dk
section
variable{n nd:Nat}{nm dn c:Nat->Str}{t:Nat->List (List Int)}{m:Nat->Nat}{ld:Nat->Nat->Int}{st:Nat->Int}(hs:Seats n nd nm dn c t m ld st)
include hs
theorem QGD{k:Nat}(hk:k<n):dInL .non (rl (m k) (fun j=>.int (ld k j)))=.ok (.bl false):=by
 show(if (_&&((List.range (m k)).map fun j=>D.int (ld k j)).all D.scal)=true then Out.ok (D.bl (inV _ _)) else _)=_
 rw[if_pos (by rw[Bool.and_eq_true];exact⟨rfl,allR fun i _=>rfl⟩)]
 have:inV (toV .non) (((List.range (m k)).map fun j=>D.int (ld k j)).map toV)=false:=by
  unfold inV
  rw[List.any_eq_false]
  intro v hv
  rw[List.map_map]at hv
  obtain⟨j,_,rfl⟩:=List.mem_map.mp hv
  simp[toV,eqV]
 rw[this]
theorem QCi:QaY "Office" [] [rl n (seatD nm dn c t m ld st),.lst [.tup [.str "in",.str (nm 0)]],rl nd (fun d=>.str (dn d))]=.ok (offF n nd nm dn c t m ld st):=by
 have n1:=hs.n1
 have n2:=hs.n2
 have d2:=hs.d2
 have h1:=QD0 hs
 have h2:=QEy hs
 have h3:=Qz4 hs
 have h4:=QBO hs
 have p0:=plc_c hs (i:=0) (by omega)
 have oc:=Qzd
 generalize hS:rl n (seatD nm dn c t m ld st)=S at *
 generalize hE:D.lst [.tup [.str "in",.str (nm 0)]]=E at *
 generalize hDo:rl nd (fun d=>.str (dn d))=Do at *
 generalize hN:rl n (fun k=>.str (nm k))=N at *
 generalize hP:D.dic (plc n nd nm dn)=P at *
 generalize hW:rl n (fun k=>rl (m k) (fun j=>.int (ld k j)))=W
 have q0:eComp [none] (itL (eVar 1)) (gN 0) cTrue Qd7 [some (.s,.ins "Office" []),some (.k,S),some (.k,E),some (.k,Do),none,none,none]=.ok N:=by
  subst hS;subst hN
  refine QW (seatD nm dn c t m ld st) (fun k=>D.str (nm k)) rfl (fun k hk=>?_) (by rw[List.length_range];omega)
  have x0:dIx (seatD nm dn c t m ld st k) (.int 0)=.ok (.str (nm k)):=ix_t 0 rfl
  refine QZ (τ0:=[none]) (QeN c_nil) (by walk_at "s") ?_
  unfold Qd7
  (repeat walk_at "e")
 have q1:eComp [none,some 5] (itL (eVar 1)) (gN 0) cTrue Qd6 [some (.s,.ins "Office" []),some (.k,S),some (.k,E),some (.k,Do),some (.k,N),some (.k,P),none]=.ok W:=by
  subst hS;subst hW;subst hP
  refine QW (seatD nm dn c t m ld st) (fun k=>rl (m k) (fun j=>.int (ld k j))) rfl (fun k hk=>?_) (by rw[List.length_range];omega)
  have hl:=QD7 hs (List.mem_range.mp hk)
  refine QZ (τ0:=[none,some (.k,.dic (plc n nd nm dn))]) (QeN (c_k rfl c_nil)) (by walk_at "s") ?_
  unfold Qd6
  (repeat walk_at "e")
 have q2:eComp [none] (itL (eVar 6)) (gN 0) cTrue Qec [some (.s,.ins "Office" []),some (.k,S),some (.k,E),some (.k,Do),some (.k,N),some (.k,P),some (.k,W)]=.ok (rl n (fun _=>.bl false)):=by
  subst hW
  refine QW (fun k=>rl (m k) (fun j=>.int (ld k j))) (fun _=>D.bl false) rfl (fun k hk=>?_) (by rw[List.length_range];omega)
  have hl:=QGD hs (List.mem_range.mp hk)
  refine QZ (τ0:=[none]) (QeN c_nil) (by walk_at "s") ?_
  unfold Qec
  (repeat walk_at "e")
 have ha:f1 fAny [rl n (fun _=>.bl false)]=.ok (.bl false):=by
  show fAny (.lst ((List.range n).map fun _=>D.bl false))=_
  rw[QEm (fun _=>false)];simp
 have q3:∀ F:List (Str×D),eComp [none,some 5] (itL (eVar 2)) (gN 0) cTrue QcY [some (.s,.ins "Office" F),some (.k,S),some (.k,E),some (.k,Do),some (.k,N),some (.k,P),some (.k,W)]=.ok (.lst [.tup [.str "in",.int 0]]):=fun F=>by
  subst hE;subst hP
  refine QW (l:=List.range 1) (fun _=>.tup [.str "in",.str (nm 0)]) (fun _=>D.tup [.str "in",.int 0]) rfl (fun k hk=>?_) (by simp)
  have x0:dIx (.tup [.str "in",.str (nm 0)]) (.int 0)=.ok (.str "in"):=ix_t 0 rfl
  have x1:dIx (.tup [.str "in",.str (nm 0)]) (.int 1)=.ok (.str (nm 0)):=ix_t 1 rfl
  refine QZ (τ0:=[none,some (.k,.dic (plc n nd nm dn))]) (QeN (c_k rfl c_nil)) (by walk_at "s") ?_
  unfold QcY
  have hd:eDix (eVar 1) (e2 dIx (eVar 0) (eC (.int 1))) [some (.k,.tup [.str "in",.str (nm 0)]),some (.k,.dic (plc n nd nm dn))]=.ok (.int 0):=r_dix (kds:=plc n nd nm dn) (y:=.str (nm 0)) (k:=.inr (nm 0)) (by (repeat walk_at "e")) (by (repeat walk_at "e")) rfl p0
  (repeat walk_at "e")
 have q4:∀ F:List (Str×D),eComp [none] (itL (eVar 1)) (gN 0) cTrue QcX [some (.s,.ins "Office" F),some (.k,S),some (.k,E),some (.k,Do),some (.k,N),some (.k,P),some (.k,W)]=.ok (rl n (fun k=>ck (c k) (t k) (m k))):=fun F=>by
  subst hS
  refine QW (seatD nm dn c t m ld st) (fun k=>ck (c k) (t k) (m k)) rfl (fun k hk=>?_) (by rw[List.length_range];omega)
  have x0:dIx (seatD nm dn c t m ld st k) (.int 1)=.ok (ck (c k) (t k) (m k)):=ix_t 1 rfl
  refine QZ (τ0:=[none]) (QeN c_nil) (by walk_at "s") ?_
  unfold QcX
  (repeat walk_at "e")
 have q5:∀ F:List (Str×D),eComp [none] (itL (eVar 1)) (gN 0) cTrue QcW [some (.s,.ins "Office" F),some (.k,S),some (.k,E),some (.k,Do),some (.k,N),some (.k,P),some (.k,W)]=.ok (rl n (fun k=>.int (st k))):=fun F=>by
  subst hS
  refine QW (seatD nm dn c t m ld st) (fun k=>D.int (st k)) rfl (fun k hk=>?_) (by rw[List.length_range];omega)
  have x0:dIx (seatD nm dn c t m ld st k) (.int 3)=.ok (.int (st k)):=ix_t 3 rfl
  refine QZ (τ0:=[none]) (QeN c_nil) (by walk_at "s") ?_
  unfold QcW
  (repeat walk_at "e")
 have hdl:dList Do=.ok Do:=by subst hDo;rfl
 let F1:List (Str×D):=[("clerk_names",N)]
 let F2:List (Str×D):=[("clerk_names",N),("door_names",Do)]
 let F3:List (Str×D):=[("clerk_names",N),("door_names",Do),("entry_places",.lst [.tup [.str "in",.int 0]])]
 let F4:List (Str×D):=[("clerk_names",N),("door_names",Do),("entry_places",.lst [.tup [.str "in",.int 0]]),("staff",rl n (fun k=>ck (c k) (t k) (m k)))]
 let F5:List (Str×D):=[("clerk_names",N),("door_names",Do),("entry_places",.lst [.tup [.str "in",.int 0]]),("staff",rl n (fun k=>ck (c k) (t k) (m k))),("first_states",rl n (fun k=>.int (st k)))]
 have s1:sFldS Qj "clerk_names" 0 (eVar 4) [some (.s,.ins "Office" []),some (.k,S),some (.k,E),some (.k,Do),some (.k,N),some (.k,P),some (.k,W)]=.ok (.nx [some (.s,.ins "Office" F1),some (.k,S),some (.k,E),some (.k,Do),some (.k,N),some (.k,P),some (.k,W)]):=
  Qhf (d:=N) (by (repeat walk_at "e")) rfl oc (by decide) (by decide) rfl
 have s2:sFldS Qj "door_names" 0 (e1 dList (eVar 3)) [some (.s,.ins "Office" F1),some (.k,S),some (.k,E),some (.k,Do),some (.k,N),some (.k,P),some (.k,W)]=.ok (.nx [some (.s,.ins "Office" F2),some (.k,S),some (.k,E),some (.k,Do),some (.k,N),some (.k,P),some (.k,W)]):=
  Qhf (d:=Do) (by (repeat walk_at "e")) rfl oc (Nat.le_of_ble_eq_true rfl) (by show(["clerk_names"]:List Str).contains "door_names"=false;decide +kernel) rfl
 have s3:sFldS Qj "entry_places" 0 (eComp [none,some 5] (itL (eVar 2)) (gN 0) cTrue QcY) [some (.s,.ins "Office" F2),some (.k,S),some (.k,E),some (.k,Do),some (.k,N),some (.k,P),some (.k,W)]=.ok (.nx [some (.s,.ins "Office" F3),some (.k,S),some (.k,E),some (.k,Do),some (.k,N),some (.k,P),some (.k,W)]):=
  Qhf (q3 _) rfl oc (Nat.le_of_ble_eq_true rfl) (by show(["clerk_names","door_names"]:List Str).contains "entry_places"=false;decide +kernel) rfl
 have s4:sFldS Qj "staff" 0 (eComp [none] (itL (eVar 1)) (gN 0) cTrue QcX) [some (.s,.ins "Office" F3),some (.k,S),some (.k,E),some (.k,Do),some (.k,N),some (.k,P),some (.k,W)]=.ok (.nx [some (.s,.ins "Office" F4),some (.k,S),some (.k,E),some (.k,Do),some (.k,N),some (.k,P),some (.k,W)]):=
  Qhf (q4 _) rfl oc (Nat.le_of_ble_eq_true rfl) (by show(["clerk_names","door_names","entry_places"]:List Str).contains "staff"=false;decide +kernel) rfl
 have s5:sFldS Qj "first_states" 0 (eComp [none] (itL (eVar 1)) (gN 0) cTrue QcW) [some (.s,.ins "Office" F4),some (.k,S),some (.k,E),some (.k,Do),some (.k,N),some (.k,P),some (.k,W)]=.ok (.nx [some (.s,.ins "Office" F5),some (.k,S),some (.k,E),some (.k,Do),some (.k,N),some (.k,P),some (.k,W)]):=
  Qhf (q5 _) rfl oc (Nat.le_of_ble_eq_true rfl) (by show(["clerk_names","door_names","entry_places","staff"]:List Str).contains "first_states"=false;decide +kernel) rfl
 have s6:sFldS Qj "ways" 0 (eVar 6) [some (.s,.ins "Office" F5),some (.k,S),some (.k,E),some (.k,Do),some (.k,N),some (.k,P),some (.k,W)]=.ok (.nx [some (.s,.ins "Office" (offF n nd nm dn c t m ld st)),some (.k,S),some (.k,E),some (.k,Do),some (.k,N),some (.k,P),some (.k,W)]):=
  Qhf (d:=W) (by (repeat walk_at "e")) rfl oc (Nat.le_of_ble_eq_true rfl) (by show(["clerk_names","door_names","entry_places","staff","first_states"]:List Str).contains "ways"=false;decide +kernel) (by subst hN;subst hDo;subst hW;rfl)
 have fin:Qdb "Office" (.nx [some (.s,.ins "Office" (offF n nd nm dn c t m ld st)),some (.k,S),some (.k,E),some (.k,Do),some (.k,N),some (.k,P),some (.k,W)])=.ok (offF n nd nm dn c t m ld st):=by
  show(if ("Office":Str)="Office" then Out.ok (offF n nd nm dn c t m ld st) else .stuck)=_
  rw[if_pos rfl]
 rw[QrG]
 unfold QdT
 (repeat walk_at "e")
end
theorem QjA(i:Int):QaG [.int i]=.ok (.bl true):=by
 simp[QaG,Qd8,bodyF,retF,sSeq,thenF,sSet,sRet,sIf,sNil,eVar,eC,e1,e2,eA,f1,aNil,aCons,tVal,tAnd',tOr',tNot',eAnd,eOr,eNot,eIf,eTup,eLst,eIsa,isaT,Q9,oNo,oSome,sPar,sUnp,QV,gN,gT,fLen,Q0,Out.bind_ok,Out.bind_exc,Out.bind_stuck,Out.pure_eq,D.scal,Q7,Qak,Qan,Qaq,QaT,Qat,Qay,QaU,Qaf,Qal,List.length_cons,List.length_nil,List.map_cons,List.map_nil,List.cons_append,List.nil_append,List.append_nil,List.getElem?_cons_zero,List.getElem?_cons_succ,List.set_cons_zero,List.set_cons_succ,List.replicate,Nat.reduceAdd,Nat.reduceSub,Nat.reduceLeDiff,Nat.zero_add,Nat.add_zero,reduceIte,Bool.not_true,Bool.not_false,Bool.true_and,Bool.and_true,Bool.false_and,Bool.and_false,Bool.or_true,Bool.true_or,Bool.or_false,Bool.false_or,Bool.false_eq_true,decide_true,decide_false,decide_eq_true_eq,Bool.not_eq_true',decide_eq_false_iff_not,Int.reduceEq,Int.reduceLT,Int.reduceLE,Int.reduceNeg,Nat.reduceEqDiff, ↓reduceIte,not_true_eq_false,not_false_eq_true]
theorem QGo:∀(n:Nat)(a b:Int)(r:Option (SM×D)),0<=a->0<=b->b.toNat<=n->∃ r',Qba QaS QaR [some (.k,.int a),some (.k,.int b),r]
 = .ok (.nx [some (.k,.int (a.gcd b:Nat)),some (.k,.int 0),r']):=by
 intro n
 induction n with
 | zero=>
  intro a b r ha hb hn
  have e:b=0:=by omega
  subst e
  refine⟨r,?_⟩
  rw[Qby]
  simp[QaS,QaR,bodyF,retF,sSeq,thenF,sSet,sRet,sIf,sNil,eVar,eC,e1,e2,eA,f1,aNil,aCons,tVal,tAnd',tOr',tNot',eAnd,eOr,eNot,eIf,eTup,eLst,eIsa,isaT,Q9,oNo,oSome,sPar,sUnp,QV,gN,gT,fLen,Q0,Out.bind_ok,Out.bind_exc,Out.bind_stuck,Out.pure_eq,D.scal,Q7,Qak,Qan,Qaq,QaT,Qat,Qay,QaU,Qaf,Qal,List.length_cons,List.length_nil,List.map_cons,List.map_nil,List.cons_append,List.nil_append,List.append_nil,List.getElem?_cons_zero,List.getElem?_cons_succ,List.set_cons_zero,List.set_cons_succ,List.replicate,Nat.reduceAdd,Nat.reduceSub,Nat.reduceLeDiff,Nat.zero_add,Nat.add_zero,reduceIte,Bool.not_true,Bool.not_false,Bool.true_and,Bool.and_true,Bool.false_and,Bool.and_false,Bool.or_true,Bool.true_or,Bool.or_false,Bool.false_or,Bool.false_eq_true,decide_true,decide_false,decide_eq_true_eq,Bool.not_eq_true',decide_eq_false_iff_not,Int.reduceEq,Int.reduceLT,Int.reduceLE,Int.reduceNeg,Nat.reduceEqDiff, ↓reduceIte,not_true_eq_false,not_false_eq_true]
  omega
 | succ n ih=>
  intro a b r ha hb hn
  by_cases e:b=0
  ·subst e
   refine⟨r,?_⟩
   rw[Qby]
   simp[QaS,QaR,bodyF,retF,sSeq,thenF,sSet,sRet,sIf,sNil,eVar,eC,e1,e2,eA,f1,aNil,aCons,tVal,tAnd',tOr',tNot',eAnd,eOr,eNot,eIf,eTup,eLst,eIsa,isaT,Q9,oNo,oSome,sPar,sUnp,QV,gN,gT,fLen,Q0,Out.bind_ok,Out.bind_exc,Out.bind_stuck,Out.pure_eq,D.scal,Q7,Qak,Qan,Qaq,QaT,Qat,Qay,QaU,Qaf,Qal,List.length_cons,List.length_nil,List.map_cons,List.map_nil,List.cons_append,List.nil_append,List.append_nil,List.getElem?_cons_zero,List.getElem?_cons_succ,List.set_cons_zero,List.set_cons_succ,List.replicate,Nat.reduceAdd,Nat.reduceSub,Nat.reduceLeDiff,Nat.zero_add,Nat.add_zero,reduceIte,Bool.not_true,Bool.not_false,Bool.true_and,Bool.and_true,Bool.false_and,Bool.and_false,Bool.or_true,Bool.true_or,Bool.or_false,Bool.false_or,Bool.false_eq_true,decide_true,decide_false,decide_eq_true_eq,Bool.not_eq_true',decide_eq_false_iff_not,Int.reduceEq,Int.reduceLT,Int.reduceLE,Int.reduceNeg,Nat.reduceEqDiff, ↓reduceIte,not_true_eq_false,not_false_eq_true]
   omega
  ·have hb':0<b:=by omega
   have h1:=Int.emod_nonneg a e
   have h2:=Int.emod_lt_of_pos a hb'
   obtain⟨r',h⟩:=ih b (a % b) (some (.k,.int (a % b))) hb h1 (by omega)
   refine⟨r',?_⟩
   rw[Qby]
   rw[Qs7]at h
   simp[QaS,QaR,bodyF,retF,sSeq,thenF,sSet,sRet,sIf,sNil,eVar,eC,e1,e2,eA,f1,aNil,aCons,tVal,tAnd',tOr',tNot',eAnd,eOr,eNot,eIf,eTup,eLst,eIsa,isaT,Q9,oNo,oSome,sPar,sUnp,QV,gN,gT,fLen,Q0,Out.bind_ok,Out.bind_exc,Out.bind_stuck,Out.pure_eq,D.scal,Q7,Qak,Qan,Qaq,QaT,Qat,Qay,QaU,Qaf,Qal,List.length_cons,List.length_nil,List.map_cons,List.map_nil,List.cons_append,List.nil_append,List.append_nil,List.getElem?_cons_zero,List.getElem?_cons_succ,List.set_cons_zero,List.set_cons_succ,List.replicate,Nat.reduceAdd,Nat.reduceSub,Nat.reduceLeDiff,Nat.zero_add,Nat.add_zero,reduceIte,Bool.not_true,Bool.not_false,Bool.true_and,Bool.and_true,Bool.false_and,Bool.and_false,Bool.or_true,Bool.true_or,Bool.or_false,Bool.false_or,Bool.false_eq_true,decide_true,decide_false,decide_eq_true_eq,Bool.not_eq_true',decide_eq_false_iff_not,Int.reduceEq,Int.reduceLT,Int.reduceLE,Int.reduceNeg,Nat.reduceEqDiff, ↓reduceIte,not_true_eq_false,not_false_eq_true,e,Q5 hb']
   exact h
theorem gd_ok{a b:Int}(ha:0<=a)(hb:0<=b):Qab [.int a,.int b]=.ok (.int (a.gcd b:Nat)):=by
 obtain⟨r',h⟩:=QGo b.toNat a b none ha hb (Nat.le_refl _)
 simp[Qab,Qc3,bodyF,retF,sSeq,thenF,sSet,sRet,sIf,sNil,eVar,eC,e1,e2,eA,f1,aNil,aCons,tVal,tAnd',tOr',tNot',eAnd,eOr,eNot,eIf,eTup,eLst,eIsa,isaT,Q9,oNo,oSome,sPar,sUnp,QV,gN,gT,fLen,Q0,Out.bind_ok,Out.bind_exc,Out.bind_stuck,Out.pure_eq,D.scal,Q7,Qak,Qan,Qaq,QaT,Qat,Qay,QaU,Qaf,Qal,List.length_cons,List.length_nil,List.map_cons,List.map_nil,List.cons_append,List.nil_append,List.append_nil,List.getElem?_cons_zero,List.getElem?_cons_succ,List.set_cons_zero,List.set_cons_succ,List.replicate,Nat.reduceAdd,Nat.reduceSub,Nat.reduceLeDiff,Nat.zero_add,Nat.add_zero,reduceIte,Bool.not_true,Bool.not_false,Bool.true_and,Bool.and_true,Bool.false_and,Bool.and_false,Bool.or_true,Bool.true_or,Bool.or_false,Bool.false_or,Bool.false_eq_true,decide_true,decide_false,decide_eq_true_eq,Bool.not_eq_true',decide_eq_false_iff_not,Int.reduceEq,Int.reduceLT,Int.reduceLE,Int.reduceNeg,Nat.reduceEqDiff, ↓reduceIte,not_true_eq_false,not_false_eq_true,h]
theorem QFO{a b:Int}(hb:b≠0)(h:b.natAbs<2 ^ 8000):big (shD a b)=true:=by
 refine QG0 (n:=8000) ?_ (by decide)
 rw[Qj1]
 have h1:a.gcd b∣b.natAbs:=Int.gcd_dvd_natAbs_right a b
 have h2:=Nat.le_of_dvd (by omega) h1
 exact Nat.lt_of_le_of_lt h2 h
theorem QD8{a b:Int}(hb:b≠0)(h:b.natAbs<2 ^ 8000):Qdl [.int a,.int b]=.ok (.tup [.int (a.fdiv (shD a b)),.int (b.fdiv (shD a b))]):=by
 have g:Qab [.int (a.natAbs:Int),.int (b.natAbs:Int)]=.ok (.int (a.gcd b:Nat)):=by
  rw[gd_ok (by omega) (by omega)]
  congr 3
 have hd:=Quk (a:=a) hb
 have hB:=QFO (a:=a) hb h
 by_cases h0:b<0
 ·have e:shD a b = -(a.gcd b:Int):=by unfold shD;rw[if_pos h0]
  rw[e]at hd hB ⊢
  simp[Qdl,QjO,bodyF,retF,sSeq,thenF,sSet,sRet,sIf,sNil,eVar,eC,e1,e2,eA,f1,aNil,aCons,tVal,tAnd',tOr',tNot',eAnd,eOr,eNot,eIf,eTup,eLst,eIsa,isaT,Q9,oNo,oSome,sPar,sUnp,QV,gN,gT,fLen,Q0,Out.bind_ok,Out.bind_exc,Out.bind_stuck,Out.pure_eq,D.scal,Q7,Qak,Qan,Qaq,QaT,Qat,Qay,QaU,Qaf,Qal,List.length_cons,List.length_nil,List.map_cons,List.map_nil,List.cons_append,List.nil_append,List.append_nil,List.getElem?_cons_zero,List.getElem?_cons_succ,List.set_cons_zero,List.set_cons_succ,List.replicate,Nat.reduceAdd,Nat.reduceSub,Nat.reduceLeDiff,Nat.zero_add,Nat.add_zero,reduceIte,Bool.not_true,Bool.not_false,Bool.true_and,Bool.and_true,Bool.false_and,Bool.and_false,Bool.or_true,Bool.true_or,Bool.or_false,Bool.false_or,Bool.false_eq_true,decide_true,decide_false,decide_eq_true_eq,Bool.not_eq_true',decide_eq_false_iff_not,Int.reduceEq,Int.reduceLT,Int.reduceLE,Int.reduceNeg,Nat.reduceEqDiff, ↓reduceIte,not_true_eq_false,not_false_eq_true,QjA,hb,g,h0,QkW hd hB]
 ·have e:shD a b=(a.gcd b:Int):=by unfold shD;rw[if_neg h0]
  rw[e]at hd hB ⊢
  simp[Qdl,QjO,bodyF,retF,sSeq,thenF,sSet,sRet,sIf,sNil,eVar,eC,e1,e2,eA,f1,aNil,aCons,tVal,tAnd',tOr',tNot',eAnd,eOr,eNot,eIf,eTup,eLst,eIsa,isaT,Q9,oNo,oSome,sPar,sUnp,QV,gN,gT,fLen,Q0,Out.bind_ok,Out.bind_exc,Out.bind_stuck,Out.pure_eq,D.scal,Q7,Qak,Qan,Qaq,QaT,Qat,Qay,QaU,Qaf,Qal,List.length_cons,List.length_nil,List.map_cons,List.map_nil,List.cons_append,List.nil_append,List.append_nil,List.getElem?_cons_zero,List.getElem?_cons_succ,List.set_cons_zero,List.set_cons_succ,List.replicate,Nat.reduceAdd,Nat.reduceSub,Nat.reduceLeDiff,Nat.zero_add,Nat.add_zero,reduceIte,Bool.not_true,Bool.not_false,Bool.true_and,Bool.and_true,Bool.false_and,Bool.and_false,Bool.or_true,Bool.true_or,Bool.or_false,Bool.false_or,Bool.false_eq_true,decide_true,decide_false,decide_eq_true_eq,Bool.not_eq_true',decide_eq_false_iff_not,Int.reduceEq,Int.reduceLT,Int.reduceLE,Int.reduceNeg,Nat.reduceEqDiff, ↓reduceIte,not_true_eq_false,not_false_eq_true,QjA,hb,g,h0,QkW hd hB]
theorem QGt:∀(n:Nat)(a b:Int),0<=a->0<=b->b.toNat<=n->Qba QbP QbS [some (.k,.int a),some (.k,.int b)]
 = .ok (.nx [some (.k,.int (a.gcd b:Nat)),some (.k,.int 0)]):=by
 intro n
 induction n with
 | zero=>
  intro a b ha hb hn
  have e:b=0:=by omega
  subst e
  rw[Qby]
  simp[QbP,QbS,bodyF,retF,sSeq,thenF,sSet,sRet,sIf,sNil,eVar,eC,e1,e2,eA,f1,aNil,aCons,tVal,tAnd',tOr',tNot',eAnd,eOr,eNot,eIf,eTup,eLst,eIsa,isaT,Q9,oNo,oSome,sPar,sUnp,QV,gN,gT,fLen,Q0,Out.bind_ok,Out.bind_exc,Out.bind_stuck,Out.pure_eq,D.scal,Q7,Qak,Qan,Qaq,QaT,Qat,Qay,QaU,Qaf,Qal,List.length_cons,List.length_nil,List.map_cons,List.map_nil,List.cons_append,List.nil_append,List.append_nil,List.getElem?_cons_zero,List.getElem?_cons_succ,List.set_cons_zero,List.set_cons_succ,List.replicate,Nat.reduceAdd,Nat.reduceSub,Nat.reduceLeDiff,Nat.zero_add,Nat.add_zero,reduceIte,Bool.not_true,Bool.not_false,Bool.true_and,Bool.and_true,Bool.false_and,Bool.and_false,Bool.or_true,Bool.true_or,Bool.or_false,Bool.false_or,Bool.false_eq_true,decide_true,decide_false,decide_eq_true_eq,Bool.not_eq_true',decide_eq_false_iff_not,Int.reduceEq,Int.reduceLT,Int.reduceLE,Int.reduceNeg,Nat.reduceEqDiff, ↓reduceIte,not_true_eq_false,not_false_eq_true]
  omega
 | succ n ih=>
  intro a b ha hb hn
  by_cases e:b=0
  ·subst e
   rw[Qby]
   simp[QbP,QbS,bodyF,retF,sSeq,thenF,sSet,sRet,sIf,sNil,eVar,eC,e1,e2,eA,f1,aNil,aCons,tVal,tAnd',tOr',tNot',eAnd,eOr,eNot,eIf,eTup,eLst,eIsa,isaT,Q9,oNo,oSome,sPar,sUnp,QV,gN,gT,fLen,Q0,Out.bind_ok,Out.bind_exc,Out.bind_stuck,Out.pure_eq,D.scal,Q7,Qak,Qan,Qaq,QaT,Qat,Qay,QaU,Qaf,Qal,List.length_cons,List.length_nil,List.map_cons,List.map_nil,List.cons_append,List.nil_append,List.append_nil,List.getElem?_cons_zero,List.getElem?_cons_succ,List.set_cons_zero,List.set_cons_succ,List.replicate,Nat.reduceAdd,Nat.reduceSub,Nat.reduceLeDiff,Nat.zero_add,Nat.add_zero,reduceIte,Bool.not_true,Bool.not_false,Bool.true_and,Bool.and_true,Bool.false_and,Bool.and_false,Bool.or_true,Bool.true_or,Bool.or_false,Bool.false_or,Bool.false_eq_true,decide_true,decide_false,decide_eq_true_eq,Bool.not_eq_true',decide_eq_false_iff_not,Int.reduceEq,Int.reduceLT,Int.reduceLE,Int.reduceNeg,Nat.reduceEqDiff, ↓reduceIte,not_true_eq_false,not_false_eq_true]
   omega
  ·have hb':0<b:=by omega
   have h1:=Int.emod_nonneg a e
   have h2:=Int.emod_lt_of_pos a hb'
   have h:=ih b (a % b) hb h1 (by omega)
   rw[Qs7]at h
   rw[Qby]
   simp[QbP,QbS,bodyF,retF,sSeq,thenF,sSet,sRet,sIf,sNil,eVar,eC,e1,e2,eA,f1,aNil,aCons,tVal,tAnd',tOr',tNot',eAnd,eOr,eNot,eIf,eTup,eLst,eIsa,isaT,Q9,oNo,oSome,sPar,sUnp,QV,gN,gT,fLen,Q0,Out.bind_ok,Out.bind_exc,Out.bind_stuck,Out.pure_eq,D.scal,Q7,Qak,Qan,Qaq,QaT,Qat,Qay,QaU,Qaf,Qal,List.length_cons,List.length_nil,List.map_cons,List.map_nil,List.cons_append,List.nil_append,List.append_nil,List.getElem?_cons_zero,List.getElem?_cons_succ,List.set_cons_zero,List.set_cons_succ,List.replicate,Nat.reduceAdd,Nat.reduceSub,Nat.reduceLeDiff,Nat.zero_add,Nat.add_zero,reduceIte,Bool.not_true,Bool.not_false,Bool.true_and,Bool.and_true,Bool.false_and,Bool.and_false,Bool.or_true,Bool.true_or,Bool.or_false,Bool.false_or,Bool.false_eq_true,decide_true,decide_false,decide_eq_true_eq,Bool.not_eq_true',decide_eq_false_iff_not,Int.reduceEq,Int.reduceLT,Int.reduceLE,Int.reduceNeg,Nat.reduceEqDiff, ↓reduceIte,not_true_eq_false,not_false_eq_true,e,Q5 hb']
   exact h
theorem ld_ok{a b:Int}(ha:0<=a)(hb:0<=b):Qbb [.int a,.int b]=.ok (.int (a.gcd b:Nat)):=by
 have h:=QGt b.toNat a b ha hb (Nat.le_refl _)
 simp[Qbb,Qfd,bodyF,retF,sSeq,thenF,sSet,sRet,sIf,sNil,eVar,eC,e1,e2,eA,f1,aNil,aCons,tVal,tAnd',tOr',tNot',eAnd,eOr,eNot,eIf,eTup,eLst,eIsa,isaT,Q9,oNo,oSome,sPar,sUnp,QV,gN,gT,fLen,Q0,Out.bind_ok,Out.bind_exc,Out.bind_stuck,Out.pure_eq,D.scal,Q7,Qak,Qan,Qaq,QaT,Qat,Qay,QaU,Qaf,Qal,List.length_cons,List.length_nil,List.map_cons,List.map_nil,List.cons_append,List.nil_append,List.append_nil,List.getElem?_cons_zero,List.getElem?_cons_succ,List.set_cons_zero,List.set_cons_succ,List.replicate,Nat.reduceAdd,Nat.reduceSub,Nat.reduceLeDiff,Nat.zero_add,Nat.add_zero,reduceIte,Bool.not_true,Bool.not_false,Bool.true_and,Bool.and_true,Bool.false_and,Bool.and_false,Bool.or_true,Bool.true_or,Bool.or_false,Bool.false_or,Bool.false_eq_true,decide_true,decide_false,decide_eq_true_eq,Bool.not_eq_true',decide_eq_false_iff_not,Int.reduceEq,Int.reduceLT,Int.reduceLE,Int.reduceNeg,Nat.reduceEqDiff, ↓reduceIte,not_true_eq_false,not_false_eq_true,h]
def pr(a b:Int):Int×Int:=(a.fdiv (shD a b),b.fdiv (shD a b))
theorem QCR{x:D}{N:Nat}(h:N<=1000):dRep (.lst [x]) (.int (N:Int))=.ok (rl N (fun _=>x)):=by
 have e:(List.replicate N x)=(List.range N).map fun _=>x:=by
  apply List.ext_getElem?
  intro i
  rw[List.getElem?_map,List.getElem?_replicate]
  by_cases hi:i<N
  ·rw[if_pos hi,List.getElem?_range hi];rfl
  ·rw[if_neg hi,List.getElem?_eq_none (by rw[List.length_range];omega)];rfl
 show _=Out.ok (D.lst ((List.range N).map fun _=>x))
 rw[← e]
 unfold dRep
 simp only[Int.toNat_natCast,List.flatten_replicate_singleton,List.length_cons,List.length_nil]
 rw[if_pos]
 rw[Bool.and_eq_true,Bool.and_eq_true]
 exact⟨⟨decide_eq_true (by omega),decide_eq_true (by omega)⟩,Qfv (by omega)⟩
section
variable{n nd:Nat}{nm dn c:Nat->Str}{t:Nat->List (List Int)}{m:Nat->Nat}{ld:Nat->Nat->Int}{st:Nat->Int}
theorem QzZ:(offF n nd nm dn c t m ld st).lookup ("staff":Str)=some (rl n (fun k=>ck (c k) (t k) (m k))):=by
 have h1:(("staff":Str) == "clerk_names")=false:=dk
 have h2:(("staff":Str) == "door_names")=false:=dk
 have h3:(("staff":Str) == "entry_places")=false:=dk
 unfold offF
 rw[List.lookup_cons,h1,List.lookup_cons,h2,List.lookup_cons,h3,List.lookup_cons,beq_self_eq_true]
theorem QDD:(offF n nd nm dn c t m ld st).lookup ("ways":Str)=some (rl n (fun k=>rl (m k) (fun j=>.int (ld k j)))):=by
 have h1:(("ways":Str) == "clerk_names")=false:=dk
 have h2:(("ways":Str) == "door_names")=false:=dk
 have h3:(("ways":Str) == "entry_places")=false:=dk
 have h4:(("ways":Str) == "staff")=false:=dk
 have h5:(("ways":Str) == "first_states")=false:=dk
 unfold offF
 rw[List.lookup_cons,h1,List.lookup_cons,h2,List.lookup_cons,h3,List.lookup_cons,h4,List.lookup_cons,h5,List.lookup_cons,beq_self_eq_true]
theorem QDk{x:Str}(h:(["clerk_names","door_names","entry_places","staff","first_states","ways"]:List Str).all (fun y => !(x == y))=true):(offF n nd nm dn c t m ld st).lookup x=none:=by
 simp only[List.all_cons,List.all_nil,Bool.and_eq_true,Bool.not_eq_true',Bool.and_true]at h
 obtain⟨h1,h2,h3,h4,h5,h6⟩:=h
 unfold offF
 rw[List.lookup_cons,h1,List.lookup_cons,h2,List.lookup_cons,h3,List.lookup_cons,h4,List.lookup_cons,h5,List.lookup_cons,h6];rfl
theorem fld_o{x:Str}{d:D}(h:(offF n nd nm dn c t m ld st).lookup x=some d):dFld Qj x (offD n nd nm dn c t m ld st)=.ok d:=by
 show(if Qj.contains "Office"=true then optO ((offF n nd nm dn c t m ld st).lookup x) else .stuck)=_
 rw[if_pos Qzd,h];rfl
theorem QfB{x:Str}{mt:Str->List D->Out D}{O:SD->Out D}{A:SD->Out (List D)}{ς:SD}{xs:List D}(hO:O ς=.ok (offD n nd nm dn c t m ld st))(hA:A ς=.ok xs)
 (h:(["clerk_names","door_names","entry_places","staff","first_states","ways"]:List Str).all (fun y => !(x == y))=true):eMeth Qn x mt O A ς=mt "Office" (offD n nd nm dn c t m ld st::xs):=by
 have hc:Qn.contains "Office"=true:=dk
 unfold eMeth
 rw[hO,Out.bind_ok]
 show(if (Qn.contains "Office"&&((offF n nd nm dn c t m ld st).lookup x).isNone)=true then A ς>>=fun xs=>mt "Office" (.ins "Office" (offF n nd nm dn c t m ld st)::xs) else .stuck)=_
 rw[QDk h,hc,if_pos (show(true&&(none:Option D).isNone)=true from rfl),hA];rfl
theorem QpE{k:Nat}(hk:k<n):QS [offD n nd nm dn c t m ld st,.int (k:Int)]=.ok (ck (c k) (t k) (m k)):=by
 have h1:=fld_o (QzZ (n:=n) (nd:=nd) (nm:=nm) (dn:=dn) (c:=c) (t:=t) (m:=m) (ld:=ld) (st:=st))
 have x1:dIx (rl n (fun k=>ck (c k) (t k) (m k))) (.int (k:Int))=.ok (ck (c k) (t k) (m k)):=ixR hk
 rw[Qos]
 unfold Qds
 (repeat walk_at "e")
theorem QC1{k:Nat}(hk:k<n):Qar [offD n nd nm dn c t m ld st,.int (k:Int)]=.ok (rl (m k) (fun j=>.int (ld k j))):=by
 have h1:=fld_o (QDD (n:=n) (nd:=nd) (nm:=nm) (dn:=dn) (c:=c) (t:=t) (m:=m) (ld:=ld) (st:=st))
 have x1:dIx (rl n (fun k=>rl (m k) (fun j=>.int (ld k j)))) (.int (k:Int))=.ok (rl (m k) (fun j=>.int (ld k j))):=ixR hk
 have hd:dList (rl (m k) (fun j=>.int (ld k j)))=.ok (rl (m k) (fun j=>.int (ld k j))):=rfl
 rw[Qo5]
 unfold Qdh
 (repeat walk_at "e")
theorem QA4:(offF n nd nm dn c t m ld st).lookup ("clerk_names":Str)=some (rl n (fun k=>.str (nm k))):=by
 unfold offF
 rw[List.lookup_cons,beq_self_eq_true]
theorem QEf:Q6 [offD n nd nm dn c t m ld st]=.ok (.int (n:Int)):=by
 have h1:=fld_o (QA4 (n:=n) (nd:=nd) (nm:=nm) (dn:=dn) (c:=c) (t:=t) (m:=m) (ld:=ld) (st:=st))
 have hl:=lenR n (fun k=>.str (nm k))
 rw[Qry]
 unfold QdI
 (repeat walk_at "e")
end
theorem QbR(k':Key)(x:D)(r:List (Key×D))(j:Key):valD ((k',x)::r) j=if k'=j then some x else valD r j:=by
 by_cases e:k'=j<;>simp[valD,List.find?_cons,e]
theorem QsU(k:Key):∀ kds:List (Key×D),(kds.any fun kv=>decide (kv.1=k))=(valD kds k).isSome
 | []=>rfl
 | (k',x)::r=>by
  rw[List.any_cons,QsU k r,QbR]
  by_cases e:k'=k<;>simp[e]
theorem Quh(k j:Key)(d:D):∀ kds:List (Key×D),valD (kds.map fun kv=>if kv.1=k then(kv.1,d) else kv) j=if j=k then(valD kds j).map (fun _=>d) else valD kds j
 | []=>by simp[valD]
 | (k',x)::r=>by
  have ih:=Quh k j d r
  rw[List.map_cons]
  by_cases e:k'=k
  ·rw[if_pos (show((k',x):Key×D).1=k from e),QbR,QbR,ih]
   by_cases f:k'=j
   ·have h:j=k:=f.symm.trans e
    rw[if_pos f,if_pos f,if_pos h];rfl
   ·rw[if_neg f,if_neg f]
  ·rw[if_neg (show ¬ ((k',x):Key×D).1=k from e),QbR,QbR,ih]
   by_cases f:k'=j
   ·have h:¬ j=k:=fun z=>e (f.trans z)
    rw[if_pos f,if_pos f,if_neg h]
   ·rw[if_neg f,if_neg f]
theorem QtI(k j:Key)(d:D):∀ kds:List (Key×D),valD kds k=none->valD (kds++[(k,d)]) j=if j=k then some d else valD kds j
 | [],_=>by
  rw[List.nil_append,QbR]
  by_cases e:k=j
  ·rw[if_pos e,if_pos e.symm]
  ·rw[if_neg e,if_neg (fun z=>e z.symm)]
 | (k',x)::r,h=>by
  rw[QbR]at h
  by_cases e:k'=k
  ·rw[if_pos e]at h;cases h
  ·rw[if_neg e]at h
   rw[List.cons_append,QbR,QtI k j d r h,QbR]
   by_cases f:k'=j
   ·rw[if_pos f,if_pos f,if_neg (fun z=>e (f.trans z))]
   ·rw[if_neg f,if_neg f]
theorem QD9(kds:List (Key×D))(k j:Key)(d:D):valD (putKD kds k d) j=if j=k then some d else valD kds j:=by
 unfold putKD
 have ha:=QsU k kds
 cases hv:valD kds k with
 | none=>
  rw[hv]at ha
  rw[ha,if_neg (by decide),QtI k j d kds hv]
 | some x=>
  rw[hv]at ha
  rw[ha]
  show valD (if true=true then _ else _) j=_
  rw[if_pos rfl,Quh]
  by_cases e:j=k
  ·rw[if_pos e,if_pos e,e,hv];rfl
  ·rw[if_neg e,if_neg e]
theorem QCc(kds:List (Key×D))(k:Key)(d:D):(putKD kds k d).length<=kds.length+1:=by
 unfold putKD
 split
 ·rw[List.length_map];omega
 ·rw[List.length_append];exact Nat.le_refl _
theorem Qzs{A B Z:SD->Out D}{ς:SD}{kds:List (Key×D)}{y z:D}{k:Key}(a:A ς=.ok (.dic kds))(a':B ς=.ok y)(az:Z ς=.ok z)(hk:dkey y=some k):Qdy A B Z ς=.ok ((valD kds k).getD z):=by
 unfold Qdy
 rw[a,Out.bind_ok]
 show(B ς>>=_)=_
 rw[a',Out.bind_ok]
 show(Z ς>>=_)=_
 rw[az,Out.bind_ok,hk]
theorem QCX{T:SD->Out Fl}{U:SD->Out D}{ς ς':SD}{r:Out D}(a:T ς=.ok (.nx ς'))(k:U ς'=r):DL.tSeq T U ς=r:=by
 unfold DL.tSeq
 rw[a];exact k
def dkt:Nat->(Nat->Int)->(Nat->Int)->Int->Int
 | 0,_,_,_=>0
 | m+1,l,w,x=>dkt m l w x+if l m=x then w m else 0
theorem dk_bd{l w:Nat->Int}{x B:Int}:∀ m:Nat,(∀ j,j<m->0<=w j/\w j<=B)->0<=dkt m l w x/\dkt m l w x<=m * B
 | 0,_=>by show 0<=(0:Int)/\(0:Int)<=((0:Nat):Int) * B;simp
 | m+1,h=>by
  obtain⟨h0,h1⟩:=dk_bd (l:=l) (x:=x) m fun j hj=>h j (by omega)
  obtain⟨w0,w1⟩:=h m (by omega)
  show 0<=dkt m l w x+(if l m=x then w m else 0)/\dkt m l w x+(if l m=x then w m else 0)<=((m+1:Nat):Int) * B
  have e:((m+1:Nat):Int) * B=m * B+B:=by
   rw[show((m+1:Nat):Int)=(m:Int)+1 by omega,Int.add_mul,Int.one_mul]
  rw[e]
  split<;>omega
section
variable{n nd:Nat}{nm dn c:Nat->Str}{t:Nat->List (List Int)}{m:Nat->Nat}{ld:Nat->Nat->Int}{st:Nat->Int}(hs:Seats n nd nm dn c t m ld st)
include hs
theorem QH0{k:Nat}(hk:k<n){ς:SD}(h0:ς[0]?=some (some (.k,offD n nd nm dn c t m ld st)))(h1:ς[1]?=some (some (.k,.int (k:Int)))):itZ (eMeth Qn "leads" (fun _=>Qar) (eVar 0) (aCons (eVar 1) aNil)) (eMeth Qd "whole" (fun _=>QaF) (eMeth Qn "clerk" (fun _=>QS) (eVar 0) (aCons (eVar 1) aNil)) aNil) ς=.ok ((List.range (m k)).map fun j=>D.tup [.int (ld k j),.int (cs (t k) (t k).length j)]):=by
 have hc:=hs.ck k hk
 have ha:aCons (eVar 1) aNil ς=.ok [.int (k:Int)]:=Ql (r_var h1) r_nil
 have m1:eMeth Qn "leads" (fun _=>Qar) (eVar 0) (aCons (eVar 1) aNil) ς=.ok (rl (m k) (fun j=>.int (ld k j))):=by
  rw[QfB (xs:=[.int (k:Int)]) (r_var h0) ha (dk)]
  exact QC1 hk
 have m2:eMeth Qn "clerk" (fun _=>QS) (eVar 0) (aCons (eVar 1) aNil) ς=.ok (ck (c k) (t k) (m k)):=by
  rw[QfB (xs:=[.int (k:Int)]) (r_var h0) ha (dk)]
  exact QpE hk
 have m3:eMeth Qd "whole" (fun _=>QaF) (eMeth Qn "clerk" (fun _=>QS) (eVar 0) (aCons (eVar 1) aNil)) aNil ς=.ok (dl (pre (t k) (m k) (t k).length)):=by
  rw[Qha (c:=c k) (t:=t k) (m:=m k) hc (xs:=[]) m2 rfl (dk) (dk)]
  exact QD1 hc _ _
 unfold itZ
 rw[m1,Out.bind_ok,m3,Out.bind_ok]
 show Out.ok (List.zipWith _ ((List.range (m k)).map _) ((pre (t k) (m k) (t k).length).map D.int))=_
 unfold pre
 rw[List.map_map,List.zipWith_map,List.zipWith_self]
 rfl
theorem sr_ok{k:Nat}(hk:k<n):∃ kds,QbA [offD n nd nm dn c t m ld st,.int (k:Int)]=.ok (.dic kds)/\∀ x:Int,(valD kds (.inl x)).getD (.int 0)=.int (dkt (m k) (ld k) (cs (t k) (t k).length) x):=by
 have m6:=(hs.tb k hk).m6
 obtain⟨ς',hL,kds,a3,a4,rfl,hl,hv⟩:=Qc6 (body:=fun x ς=>gT [3,4] x ς>>=fun ς'=>Qdn ς') (f:=fun j=>D.tup [.int (ld k j),.int (cs (t k) (t k).length j)]) (n:=m k)
  (P:=fun j ς=>∃(kds:List (Key×D))(a3 a4:Option (SM×D)),ς=[some (.k,offD n nd nm dn c t m ld st),some (.k,.int (k:Int)),some (.o,.dic kds),a3,a4]/\kds.length<=j/\∀ x:Int,(valD kds (.inl x)).getD (.int 0)=.int (dkt j (ld k) (cs (t k) (t k).length) x))
  (by
   rintro j hj ς ⟨kds,a3,a4,rfl,hl,hv⟩
   have hp:=QCc kds (.inl (ld k j)) (.int (dkt j (ld k) (cs (t k) (t k).length) (ld k j)+cs (t k) (t k).length j))
   have hd:Qdy (eVarB 2) (eVar 3) (eC (.int 0)) [some (.k,offD n nd nm dn c t m ld st),some (.k,.int (k:Int)),some (.o,.dic kds),some (.k,.int (ld k j)),some (.k,.int (cs (t k) (t k).length j))]=.ok (.int (dkt j (ld k) (cs (t k) (t k).length) (ld k j))):=by
    rw[Qzs (kds:=kds) (y:=.int (ld k j)) (z:=.int 0) (k:=.inl (ld k j)) rfl rfl rfl rfl,hv]
   refine⟨[some (.k,offD n nd nm dn c t m ld st),some (.k,.int (k:Int)),some (.o,.dic (putKD kds (.inl (ld k j)) (.int (dkt j (ld k) (cs (t k) (t k).length) (ld k j)+cs (t k) (t k).length j)))),some (.k,.int (ld k j)),some (.k,.int (cs (t k) (t k).length j))],?_,_,_,_,rfl,by omega,fun x=>?_⟩
   ·refine r_gT (by walk_at "all") ?_
    unfold Qdn
    exact Qsk (kds:=kds) (d:=.int (dkt j (ld k) (cs (t k) (t k).length) (ld k j)+cs (t k) (t k).length j)) (y:=.int (ld k j)) (k:=.inl (ld k j)) (r_e2 hd (r_var rfl) (Q7 _ _)) rfl (r_var rfl) rfl (by omega) rfl
   ·rw[QD9]
    show _=D.int (dkt j (ld k) (cs (t k) (t k).length) x+if ld k j=x then cs (t k) (t k).length j else 0)
    by_cases e:x=ld k j
    ·rw[if_pos (by rw[e]),if_pos e.symm,e];rfl
    ·rw[if_neg (fun z=>e (Sum.inl.inj z)),hv,if_neg (fun z=>e z.symm),Int.add_zero])
  [some (.k,offD n nd nm dn c t m ld st),some (.k,.int (k:Int)),some (.o,.dic []),none,none] ⟨[],none,none,rfl,Nat.le_refl _,fun _=>rfl⟩
 have hz:=QH0 hs hk (ς:=[some (.k,offD n nd nm dn c t m ld st),some (.k,.int (k:Int)),some (.o,.dic []),none,none]) rfl rfl
 have hfor:=QbG (g:=gT [3,4]) (T:=Qdn) hz hL
 refine⟨kds,?_,hv⟩
 rw[QvA]
 unfold Qd9
 refine QcI (fl:=.rt true (.dic kds)) ?_ r_rtT
 refine r_seq (fl:=.nx [some (.k,offD n nd nm dn c t m ld st),some (.k,.int (k:Int)),some (.o,.dic []),none,none]) (QdE (d:=.dic []) rfl (by walk_at "s")) (Qx (r_seq hfor (Qx (QuW rfl))))
def shx(t:Nat->List (List Int))(m:Nat->Nat)(ld:Nat->Nat->Int)(k:Nat)(x:Int):Int×Int:=pr (dkt (m k) (ld k) (cs (t k) (t k).length) x) ((t k).length:Int)
theorem QFq{k N:Nat}(hk:k<n)(hN:N<=100)(q:Nat->Int):QaB [offD n nd nm dn c t m ld st,.int (k:Int),rl N (fun i=>.int (q i))]=.ok (rl N (fun i=>fr (shx t m ld k (q i)))):=by
 obtain⟨kds,h1,hv⟩:=sr_ok hs hk
 have hc:=hs.ck k hk
 have tn1:=(hs.tb k hk).n1
 have tn2:=(hs.tb k hk).n2
 have hcomp:eComp [none,some 3,some 0,some 1] (itL (eVar 2)) (gN 0) cTrue Qe4 [some (.k,offD n nd nm dn c t m ld st),some (.k,.int (k:Int)),some (.k,rl N (fun i=>.int (q i))),some (.k,.dic kds)]=.ok (rl N (fun i=>fr (shx t m ld k (q i)))):=by
  refine QW (fun i=>D.int (q i)) (fun i=>fr (shx t m ld k (q i))) rfl (fun i hi=>?_) (by rw[List.length_range];omega)
  refine QZ (by walk_at "cap") (by walk_at "s") ?_
  unfold Qe4
  have hd:Qdy (eVar 1) (eVar 0) (eC (.int 0)) [some (.k,.int (q i)),some (.k,.dic kds),some (.k,offD n nd nm dn c t m ld st),some (.k,.int (k:Int))]=.ok (.int (dkt (m k) (ld k) (cs (t k) (t k).length) (q i))):=by
   rw[Qzs (kds:=kds) (y:=.int (q i)) (z:=.int 0) (k:=.inl (q i)) rfl rfl rfl rfl,hv]
  have ha:aCons (eVar 3) aNil [some (.k,.int (q i)),some (.k,.dic kds),some (.k,offD n nd nm dn c t m ld st),some (.k,.int (k:Int))]=.ok [.int (k:Int)]:=rfl
  have m2:eMeth Qn "clerk" (fun _=>QS) (eVar 2) (aCons (eVar 3) aNil) [some (.k,.int (q i)),some (.k,.dic kds),some (.k,offD n nd nm dn c t m ld st),some (.k,.int (k:Int))]=.ok (ck (c k) (t k) (m k)):=by
   rw[QfB (xs:=[.int (k:Int)]) (r_var rfl) ha (dk)]
   exact QpE hk
  have m3:eMeth Qd "period" (fun _=>QP) (eMeth Qn "clerk" (fun _=>QS) (eVar 2) (aCons (eVar 3) aNil)) aNil [some (.k,.int (q i)),some (.k,.dic kds),some (.k,offD n nd nm dn c t m ld st),some (.k,.int (k:Int))]=.ok (.int ((t k).length:Int)):=by
   rw[Qha (c:=c k) (t:=t k) (m:=m k) hc (xs:=[]) m2 rfl (dk) (dk)]
   exact Qi0 hc _ _
  have hsh:Qdl [.int (dkt (m k) (ld k) (cs (t k) (t k).length) (q i)),.int ((t k).length:Int)]=.ok (fr (shx t m ld k (q i))):=QD8 (by omega) (Nat.lt_of_le_of_lt (show(((t k).length:Int)).natAbs<=12 by omega) (by decide))
  exact Qbh (Ql hd (Ql m3 r_nil)) rfl hsh
 rw[QvY]
 unfold Qez
 refine QcI (fl:=.rt true (rl N (fun i=>fr (shx t m ld k (q i))))) ?_ r_rtT
 refine r_seq (fl:=.nx [some (.k,offD n nd nm dn c t m ld st),some (.k,.int (k:Int)),some (.k,rl N (fun i=>.int (q i))),some (.k,.dic kds)]) (r_set (d:=.dic kds) (Qbh (xs:=[offD n nd nm dn c t m ld st,.int (k:Int)]) rfl rfl h1) (by walk_at "s")) (Qx (QfN hcomp))
theorem QBS{ς:SD}(h:ς[0]?=some (some (.k,offD n nd nm dn c t m ld st))):eMeth Qn "many" (fun _=>Q6) (eVar 0) aNil ς=.ok (.int (n:Int)):=by
 rw[QfB (xs:=[]) (r_var h) rfl (dk)]
 exact QEf
theorem Qzb{X:SD->Out D}(hX:X=fun ς=>lstO (eA (fun xs=>QaB (xs++[])) (aCons (eVar 1) (aCons (eVar 0) (aCons (eVar 2) aNil))) ς)){N:Nat}(hN:N<=100)(q:Nat->Int):eComp [none,some 0,some 1] (itR1 (eMeth Qn "many" (fun _=>Q6) (eVar 0) aNil)) (gN 0) cTrue X [some (.k,offD n nd nm dn c t m ld st),some (.k,rl N (fun i=>.int (q i)))]=.ok (rl n (fun k=>rl N (fun i=>fr (shx t m ld k (q i))))):=by
 have n2:=hs.n2
 refine QW (fun k:Nat=>D.int ((0:Int)+k)) (fun k=>rl N (fun i=>fr (shx t m ld k (q i)))) (Qcg n (QBS hs rfl) (by omega)) (fun k hk=>?_) (by rw[List.length_range];omega)
 have h:=QFq hs (List.mem_range.mp hk) hN q
 refine QZ (by walk_at "cap") (by walk_at "s") ?_
 rw[hX,Int.zero_add]
 show lstO (eA (fun xs=>QaB (xs++[])) (aCons (eVar 1) (aCons (eVar 0) (aCons (eVar 2) aNil))) _)=_
 rw[Qbh (xs:=[offD n nd nm dn c t m ld st,.int (k:Int),rl N (fun i=>.int (q i))]) rfl rfl h]
 rfl
theorem QGA:Qbn [offD n nd nm dn c t m ld st]=.ok (rl n (fun k=>rl n (fun i=>fr (shx t m ld k (0+(i:Int)))))):=by
 have n2:=hs.n2
 have h1:QjK (aCons (eMeth Qn "many" (fun _=>Q6) (eVar 0) aNil) aNil) [some (.k,offD n nd nm dn c t m ld st),none]=.ok (.lst (Qa6 0 n)):=by
  unfold QjK
  rw[Ql (QBS hs rfl) r_nil,Out.bind_ok]
  show(if (decide (0<=(n:Int))&&decide ((n:Int)<=1000))=true then Out.ok (D.lst (Qa6 0 (n:Int).toNat)) else .stuck)=_
  rw[if_pos (by rw[Bool.and_eq_true];exact⟨decide_eq_true (by omega),decide_eq_true (by omega)⟩),Int.toNat_natCast]
 have hcomp:=Qzb hs (X:=QhP) rfl (N:=n) (by omega) (fun i=>0+(i:Int))
 rw[Qym]
 unfold QeB
 exact QCX (r_set h1 (by walk_at "s")) hcomp
theorem QHy:QaX [offD n nd nm dn c t m ld st]=.ok (rl n (fun k=>rl nd (fun i=>fr (shx t m ld k (-1 - (i:Int)))))):=by
 have d2:=hs.d2
 have lk:(offF n nd nm dn c t m ld st).lookup ("door_names":Str)=some (rl nd (fun d=>.str (dn d))):=by
  have h1:(("door_names":Str) == "clerk_names")=false:=dk
  unfold offF
  rw[List.lookup_cons,h1,List.lookup_cons,beq_self_eq_true]
 have h1:=fld_o lk
 have hdl:dList (rl nd (fun d=>.str (dn d)))=.ok (rl nd (fun d=>.str (dn d))):=rfl
 have hd:Qau [offD n nd nm dn c t m ld st]=.ok (rl nd (fun d=>.str (dn d))):=by
  rw[QnX]
  unfold Qde
  (repeat walk_at "e")
 have hm:eMeth Qn "doors" (fun _=>Qau) (eVar 0) aNil [some (.k,offD n nd nm dn c t m ld st),none]=.ok (rl nd (fun d=>.str (dn d))):=by
  rw[QfB (xs:=[]) (r_var rfl) rfl (dk)]
  exact hd
 have hl:=lenR nd (fun d=>D.str (dn d))
 have hpl:eComp [none] (itR1 (eA fLen (aCons (eMeth Qn "doors" (fun _=>Qau) (eVar 0) aNil) aNil))) (gN 0) cTrue Qef [some (.k,offD n nd nm dn c t m ld st),none]=.ok (rl nd (fun i=>.int (-1 - (i:Int)))):=by
  refine QW (fun i:Nat=>D.int ((0:Int)+i)) (fun i=>D.int (-1 - (i:Int))) (Qcg nd (r_eA (Ql hm r_nil) hl) (by omega)) (fun i hi=>?_) (by rw[List.length_range];omega)
  refine QZ (by walk_at "cap") (by walk_at "s") ?_
  unfold Qef
  rw[Int.zero_add]
  (repeat walk_at "e")
 have hcomp:=Qzb hs (X:=Qf8) rfl (N:=nd) (by omega) (fun i => -1 - (i:Int))
 rw[Qro]
 unfold QdH
 exact QCX (r_set hpl (by walk_at "s")) hcomp
end
theorem r_ifT{P:SD->Out Bool}{T U:SD->Out Fl}{ς:SD}{b:Bool}{rf:Out Fl}(a:P ς=.ok b)(hb:b=true)(k:T ς=rf):sIf P T U ς=rf:=r_if a (QgY hb k)
theorem r_ifF{P:SD->Out Bool}{T U:SD->Out Fl}{ς:SD}{b:Bool}{rf:Out Fl}(a:P ς=.ok b)(hb:b=false)(k:U ς=rf):sIf P T U ς=rf:=r_if a (Qeb hb k)
def pos(nd:Nat)(l:Int):Int:=if l<0 then -1 - l else(nd:Int)+l
theorem Qfz{l l' w w':Nat->Int}{x x':Int}:∀ m:Nat,(∀ j,j<m->(l j=x↔l' j=x')/\w j=w' j)->dkt m l w x=dkt m l' w' x'
 | 0,_=>rfl
 | m+1,h=>by
  obtain⟨h1,h2⟩:=h m (by omega)
  show dkt m l w x+(if l m=x then w m else 0)=dkt m l' w' x'+(if l' m=x' then w' m else 0)
  rw[Qfz m fun j hj=>h j (by omega),h2]
  by_cases e:l m=x
  ·rw[if_pos e,if_pos (h1.mp e)]
  ·rw[if_neg e,if_neg (fun z=>e (h1.mpr z))]
theorem QCg{l w w':Nat->Int}{x:Int}:∀ m:Nat,dkt m l w x+dkt m l w' x=dkt m l (fun j=>w j+w' j) x
 | 0=>rfl
 | m+1=>by
  have ih:=QCg (l:=l) (w:=w) (w':=w') (x:=x) m
  show dkt m l w x+(if l m=x then w m else 0)+(dkt m l w' x+(if l m=x then w' m else 0))=dkt m l (fun j=>w j+w' j) x+(if l m=x then w m+w' m else 0)
  rw[← ih]
  split<;>omega
theorem QzF{l:Nat->Int}{x:Int}:∀ m:Nat,dkt m l (fun _=>0) x=0
 | 0=>rfl
 | m+1=>by
  show dkt m l (fun _=>0) x+(if l m=x then 0 else 0)=0
  rw[QzF m];split<;>rfl
theorem QFp{t:List (List Int)}{r:Nat}(h:r<t.length)(j:Nat):cs t (r+1) j=cs t r j+(t[r]).getD j 0:=by
 unfold cs
 rw[List.take_succ_eq_append_getElem h,List.map_append,List.sum_append]
 simp
theorem QFE{N p:Nat}(hp:p<N)(F:Nat->Int)(c:Int):((List.range N).map fun i=>D.int (F i)).set p (.int (F p+c))=(List.range N).map fun i=>D.int (F i+if (p:Int)=(i:Int) then c else 0):=by
 rw[setR hp]
 apply List.map_congr_left
 intro i _
 by_cases e:i=p
 ·subst e
  rw[if_pos rfl,if_pos rfl]
 ·rw[if_neg e,if_neg (by omega),Int.add_zero]
theorem QDx{r:List Int}{m:Nat}(h:r.length=m):r.map D.int=(List.range m).map fun j=>D.int (r.getD j 0):=by
 apply List.ext_getElem?
 intro i
 rw[List.getElem?_map,List.getElem?_map]
 by_cases hi:i<m
 ·rw[List.getElem?_range hi,List.getElem?_eq_getElem (by omega)]
  simp[List.getD_eq_getElem?_getD,List.getElem?_eq_getElem (show i<r.length by omega)]
 ·rw[List.getElem?_eq_none (by omega),List.getElem?_eq_none (by rw[List.length_range];omega)];rfl
theorem QHV(t:List (List Int)):t.map dl=(List.range t.length).map fun r=>dl (t.getD r []):=by
 apply List.ext_getElem?
 intro i
 rw[List.getElem?_map,List.getElem?_map]
 by_cases hi:i<t.length
 ·rw[List.getElem?_range hi,List.getElem?_eq_getElem hi]
  simp[List.getD_eq_getElem?_getD,List.getElem?_eq_getElem hi]
 ·rw[List.getElem?_eq_none (by omega),List.getElem?_eq_none (by rw[List.length_range];omega)];rfl
section
variable{a0 a1 a2 a3 a5 a6:Option (SM×D)}{nd N m:Nat}{l:Nat->Int}
theorem QEk{w:Nat->Int}{F:Nat->Int}(hl:∀ j,j<m->0<=pos nd (l j)/\pos nd (l j)<(N:Int))(a9 a10 a11:Option (SM×D)):
 ∃ a10' a11',loopD (fun x ς=>gT [10,11] x ς>>=fun ς'=>QdO ς') ((List.range m).map fun j=>D.tup [.int (w j),.int (l j)]) [a0,a1,a2,a3,some (.k,.int (nd:Int)),a5,a6,some (.k,rl m (fun j=>.int (l j))),some (.o,rl N (fun i=>.int (F i))),a9,a10,a11]=
  .ok (.nx [a0,a1,a2,a3,some (.k,.int (nd:Int)),a5,a6,some (.k,rl m (fun j=>.int (l j))),some (.o,rl N (fun i=>.int (F i+dkt m (fun j=>pos nd (l j)) w (i:Int)))),a9,a10',a11']):=by
 generalize rl m (fun j=>D.int (l j))=Nu
 obtain⟨ς',hL,a10',a11',rfl⟩:=Qc6 (body:=fun x ς=>gT [10,11] x ς>>=fun ς'=>QdO ς') (f:=fun j=>D.tup [.int (w j),.int (l j)]) (n:=m)
  (P:=fun j ς=>∃ a10 a11,ς=[a0,a1,a2,a3,some (.k,.int (nd:Int)),a5,a6,some (.k,Nu),some (.o,rl N (fun i=>.int (F i+dkt j (fun j=>pos nd (l j)) w (i:Int)))),a9,a10,a11])
  (by
   rintro j hj ς ⟨a10,a11,rfl⟩
   obtain⟨p0,p1⟩:=hl j hj
   obtain⟨p,hp⟩:∃ p:Nat,pos nd (l j)=(p:Int):=⟨(pos nd (l j)).toNat,by omega⟩
   have hpN:p<N:=by omega
   have hx:dIx (rl N (fun i=>.int (F i+dkt j (fun j=>pos nd (l j)) w (i:Int)))) (.int (p:Int))=.ok (.int (F p+dkt j (fun j=>pos nd (l j)) w (p:Int))):=ixR hpN
   have hn:=ixNR hpN (fun i=>D.int (F i+dkt j (fun j=>pos nd (l j)) w (i:Int)))
   have hset:((List.range N).map fun i:Nat=>D.int (F i+dkt j (fun j=>pos nd (l j)) w (i:Int))).set p (.int (F p+dkt j (fun j=>pos nd (l j)) w (p:Int)+w j))=(List.range N).map fun i:Nat=>D.int (F i+dkt (j+1) (fun j=>pos nd (l j)) w (i:Int)):=by
    rw[QFE hpN (fun i=>F i+dkt j (fun j=>pos nd (l j)) w (i:Int)) (w j)]
    apply List.map_congr_left
    intro i _
    show D.int (F i+dkt j (fun j=>pos nd (l j)) w (i:Int)+(if (p:Int)=(i:Int) then w j else 0))=D.int (F i+(dkt j (fun j=>pos nd (l j)) w (i:Int)+if pos nd (l j)=(i:Int) then w j else 0))
    rw[hp,Int.add_assoc]
   refine⟨[a0,a1,a2,a3,some (.k,.int (nd:Int)),a5,a6,some (.k,Nu),some (.o,rl N (fun i=>.int (F i+dkt (j+1) (fun j=>pos nd (l j)) w (i:Int)))),a9,some (.k,.int (w j)),some (.k,.int (l j))],?_,_,_,rfl⟩
   refine r_gT (by walk_at "all") ?_
   unfold QdO
   by_cases h:l j<0
   ·have e:pos nd (l j) = -1 - l j:=by unfold pos;rw[if_pos h]
    rw[hp]at e
    refine r_ifT (by (repeat walk_at "e")) (decide_eq_true h) ?_
    have hi:e2 dSub (e1 dNeg (eC (.int 1))) (eVar 11) [a0,a1,a2,a3,some (.k,.int (nd:Int)),a5,a6,some (.k,Nu),some (.o,rl N (fun i=>.int (F i+dkt j (fun j=>pos nd (l j)) w (i:Int)))),a9,some (.k,.int (w j)),some (.k,.int (l j))]=.ok (.int (p:Int)):=by
     rw[e];(repeat walk_at "e")
    exact r_put (k:=(p:Int)) (j:=p) (r_e2 (r_e2 (QiQ rfl) hi hx) (r_var rfl) (Q7 _ _)) rfl hi hn (by rw[hset];walk_at "s")
   ·have e:pos nd (l j)=(nd:Int)+l j:=by unfold pos;rw[if_neg h]
    rw[hp]at e
    refine r_ifF (by (repeat walk_at "e")) (decide_eq_false h) ?_
    have hi:e2 dAdd (eVar 4) (eVar 11) [a0,a1,a2,a3,some (.k,.int (nd:Int)),a5,a6,some (.k,Nu),some (.o,rl N (fun i=>.int (F i+dkt j (fun j=>pos nd (l j)) w (i:Int)))),a9,some (.k,.int (w j)),some (.k,.int (l j))]=.ok (.int (p:Int)):=by
     rw[e];(repeat walk_at "e")
    exact r_put (k:=(p:Int)) (j:=p) (r_e2 (r_e2 (QiQ rfl) hi hx) (r_var rfl) (Q7 _ _)) rfl hi hn (by rw[hset];walk_at "s"))
  [a0,a1,a2,a3,some (.k,.int (nd:Int)),a5,a6,some (.k,Nu),some (.o,rl N (fun i=>.int (F i))),a9,a10,a11] ⟨a10,a11,by
   have:rl N (fun i=>D.int (F i))=rl N (fun i=>D.int (F i+dkt 0 (fun j=>pos nd (l j)) w (i:Int))):=Qhq fun i _=>by show D.int (F i)=D.int (F i+0);rw[Int.add_zero]
   rw[this]⟩
 exact⟨a10',a11',hL⟩
theorem QCB{t:List (List Int)}(htb:∀ r∈t,r.length=m)(hl:∀ j,j<m->0<=pos nd (l j)/\pos nd (l j)<(N:Int))(a9 a10 a11:Option (SM×D)):
 ∃ a9' a10' a11',sFor (gN 9) (itL (eVar 6)) QdU [a0,a1,a2,a3,some (.k,.int (nd:Int)),a5,some (.k,tbD t),some (.k,rl m (fun j=>.int (l j))),some (.o,rl N (fun _=>.int 0)),a9,a10,a11]=
  .ok (.nx [a0,a1,a2,a3,some (.k,.int (nd:Int)),a5,some (.k,tbD t),some (.k,rl m (fun j=>.int (l j))),some (.o,rl N (fun i=>.int (dkt m (fun j=>pos nd (l j)) (cs t t.length) (i:Int)))),a9',a10',a11']):=by
 obtain⟨ς',hL,a9',a10',a11',rfl⟩:=Qc6 (body:=fun x ς=>gN 9 x ς>>=fun ς'=>QdU ς') (f:=fun r=>dl (t.getD r [])) (n:=t.length)
  (P:=fun r ς=>∃ a9 a10 a11,ς=[a0,a1,a2,a3,some (.k,.int (nd:Int)),a5,some (.k,tbD t),some (.k,rl m (fun j=>.int (l j))),some (.o,rl N (fun i=>.int (dkt m (fun j=>pos nd (l j)) (cs t r) (i:Int)))),a9,a10,a11])
  (by
   rintro r hr ς ⟨a9,a10,a11,rfl⟩
   have hg:t.getD r []=t[r]:=by simp[List.getD_eq_getElem?_getD,List.getElem?_eq_getElem hr]
   have hm:(t[r]).length=m:=htb _ (List.getElem_mem hr)
   obtain⟨b10,b11,h⟩:=QEk (a0:=a0) (a1:=a1) (a2:=a2) (a3:=a3) (a5:=a5) (a6:=some (.k,tbD t)) (w:=fun j=>(t[r]).getD j 0) (F:=fun i=>dkt m (fun j=>pos nd (l j)) (cs t r) (i:Int)) hl (some (.k,dl t[r])) a10 a11
   have hF:rl N (fun i=>D.int (dkt m (fun j=>pos nd (l j)) (cs t r) (i:Int)+dkt m (fun j=>pos nd (l j)) (fun j=>(t[r]).getD j 0) (i:Int)))=rl N (fun i=>.int (dkt m (fun j=>pos nd (l j)) (cs t (r+1)) (i:Int))):=Qhq fun i _=>by
    rw[QCg]
    exact congrArg D.int (Qfz m fun j _=>⟨Iff.rfl,(QFp hr j).symm⟩)
   rw[hF]at h
   refine⟨[a0,a1,a2,a3,some (.k,.int (nd:Int)),a5,some (.k,tbD t),some (.k,rl m (fun j=>.int (l j))),some (.o,rl N (fun i=>.int (dkt m (fun j=>pos nd (l j)) (cs t (r+1)) (i:Int)))),some (.k,dl t[r]),b10,b11],?_,_,_,_,rfl⟩
   rw[hg]
   refine r_gN (by walk_at "s") ?_
   unfold QdU
   refine QbG ?_ h
   unfold itZ
   rw[r_var rfl,Out.bind_ok,r_var rfl,Out.bind_ok]
   show Out.ok (List.zipWith _ ((t[r]).map D.int) ((List.range m).map _))=_
   rw[QDx hm,List.zipWith_map,List.zipWith_self])
  [a0,a1,a2,a3,some (.k,.int (nd:Int)),a5,some (.k,tbD t),some (.k,rl m (fun j=>.int (l j))),some (.o,rl N (fun _=>.int 0)),a9,a10,a11] ⟨a9,a10,a11,by
   have:rl N (fun _=>D.int 0)=rl N (fun i=>D.int (dkt m (fun j=>pos nd (l j)) (cs t 0) (i:Int))):=Qhq fun i _=>by
    have z:dkt m (fun j=>pos nd (l j)) (cs t 0) (i:Int)=0:=(Qfz (w':=fun _=>0) (l':=fun j=>pos nd (l j)) (x':=(i:Int)) m fun j _=>⟨Iff.rfl,rfl⟩).trans (QzF m)
    rw[z]
   rw[this]⟩
 refine⟨a9',a10',a11',QbG (r_itL (xs:=(List.range t.length).map fun r=>dl (t.getD r [])) ?_) hL⟩
 rw[← QHV]
 exact r_var rfl
end
def tcn(nd:Nat)(t:Nat->List (List Int))(m:Nat->Nat)(ld:Nat->Nat->Int)(k i:Nat):Int×Int:=(dkt (m k) (fun j=>pos nd (ld k j)) (cs (t k) (t k).length) (i:Int),((t k).length:Int))
theorem rep0{N:Nat}(h:N<=1000):dRep (.lst [.int 0]) (.int (N:Int))=.ok (rl N (fun _=>.int 0)):=by
 have e:(List.replicate N (D.int 0))=(List.range N).map fun _=>D.int 0:=by
  apply List.ext_getElem?
  intro i
  rw[List.getElem?_map,List.getElem?_replicate]
  by_cases hi:i<N
  ·rw[if_pos hi,List.getElem?_range hi];rfl
  ·rw[if_neg hi,List.getElem?_eq_none (by rw[List.length_range];omega)];rfl
 show _=Out.ok (D.lst ((List.range N).map fun _=>D.int 0))
 rw[← e]
 unfold dRep
 simp only[Int.toNat_natCast,List.flatten_replicate_singleton,List.length_cons,List.length_nil]
 rw[if_pos]
 rw[Bool.and_eq_true,Bool.and_eq_true]
 exact⟨⟨decide_eq_true (by omega),decide_eq_true (by omega)⟩,Qfv (by omega)⟩
section
variable{n nd:Nat}{nm dn c:Nat->Str}{t:Nat->List (List Int)}{m:Nat->Nat}{ld:Nat->Nat->Int}{st:Nat->Int}(hs:Seats n nd nm dn c t m ld st)
include hs
theorem QGP{k j:Nat}(hk:k<n)(hj:j<m k):0<=pos nd (ld k j)/\pos nd (ld k j)<((nd+n:Nat):Int):=by
 obtain⟨h1,h2⟩:=hs.ldr k j hk hj
 unfold pos
 split<;>omega
theorem QE5{O:D}:Qb0 [.lst [O,rl n (fun k=>tbD (t k)),rl n (fun k=>rl (m k) (fun j=>.int (ld k j))),.int (nd:Int)]]=.ok (rl n (fun k=>rl (nd+n) (fun i=>fr (tcn nd t m ld k i)))):=by
 have n2:=hs.n2
 have d2:=hs.d2
 have hlr:=lenR n (fun k=>tbD (t k))
 generalize hDr:D.lst [O,rl n (fun k=>tbD (t k)),rl n (fun k=>rl (m k) (fun j=>.int (ld k j))),.int (nd:Int)]=Dr
 obtain⟨ς',hL,a6,a7,a8,a9,a10,a11,rfl⟩:=Qc6 (body:=fun x ς=>gT [6,7] x ς>>=fun ς'=>QdV ς') (f:=fun k=>D.tup [tbD (t k),rl (m k) (fun j=>.int (ld k j))]) (n:=n)
  (P:=fun k ς=>∃ a6 a7 a8 a9 a10 a11,ς=[some (.k,Dr),some (.k,O),some (.k,rl n (fun k=>tbD (t k))),some (.k,rl n (fun k=>rl (m k) (fun j=>.int (ld k j)))),some (.k,.int (nd:Int)),some (.o,.lst ((List.range k).map fun k=>rl (nd+n) (fun i=>fr (tcn nd t m ld k i)))),a6,a7,a8,a9,a10,a11])
  (by
   rintro k hk ς ⟨a6,a7,a8,a9,a10,a11,rfl⟩
   have tb:=hs.tb k hk
   have n12:=tb.n2
   generalize hR:rl n (fun k=>tbD (t k))=R at *
   generalize hW:rl n (fun k=>rl (m k) (fun j=>D.int (ld k j)))=W at *
   obtain⟨b9,b10,b11,h⟩:=QCB (a0:=some (.k,Dr)) (a1:=some (.k,O)) (a2:=some (.k,R)) (a3:=some (.k,W)) (a5:=some (.o,.lst ((List.range k).map fun k=>rl (nd+n) (fun i=>fr (tcn nd t m ld k i))))) (N:=nd+n) (nd:=nd) (m:=m k) (l:=ld k) (t:=t k) tb.row (fun j hj=>QGP hs hk hj) a9 a10 a11
   have hrep:=rep0 (N:=nd+n) (by omega)
   have hsum:e2 dAdd (eVar 4) (eA fLen (aCons (eVar 2) aNil)) [some (.k,Dr),some (.k,O),some (.k,R),some (.k,W),some (.k,.int (nd:Int)),some (.o,.lst ((List.range k).map fun k=>rl (nd+n) (fun i=>fr (tcn nd t m ld k i)))),some (.k,tbD (t k)),some (.k,rl (m k) (fun j=>.int (ld k j))),a8,a9,a10,a11]=.ok (.int ((nd+n:Nat):Int)):=by
    rw[show((nd+n:Nat):Int)=(nd:Int)+(n:Int) by omega]
    (repeat walk_at "e")
   have hcomp:eComp [none,some 6] (itLB (eVarB 8)) (gN 0) cTrue Qff [some (.k,Dr),some (.k,O),some (.k,R),some (.k,W),some (.k,.int (nd:Int)),some (.o,.lst ((List.range k).map fun k=>rl (nd+n) (fun i=>fr (tcn nd t m ld k i)))),some (.k,tbD (t k)),some (.k,rl (m k) (fun j=>.int (ld k j))),some (.o,rl (nd+n) (fun i=>.int (dkt (m k) (fun j=>pos nd (ld k j)) (cs (t k) (t k).length) (i:Int)))),b9,b10,b11]=.ok (rl (nd+n) (fun i=>fr (tcn nd t m ld k i))):=by
    refine QW (fun i:Nat=>D.int (dkt (m k) (fun j=>pos nd (ld k j)) (cs (t k) (t k).length) (i:Int))) (fun i=>fr (tcn nd t m ld k i)) ?_ (fun i hi=>?_) (by rw[List.length_range];omega)
    ·unfold itLB
     rw[QiQ rfl,Out.bind_ok]
     show(if _=true then Out.ok _ else .stuck)=_
     rw[if_pos (allR fun i _=>rfl)]
    ·have hlt:fLen [tbD (t k)]=.ok (.int ((t k).length:Int)):=by simp[fLen,tbD]
     refine QZ (by walk_at "cap") (by walk_at "s") ?_
     unfold Qff
     show _=Out.ok (D.tup [.int (dkt (m k) (fun j=>pos nd (ld k j)) (cs (t k) (t k).length) (i:Int)),.int ((t k).length:Int)])
     (repeat walk_at "e")
   refine⟨[some (.k,Dr),some (.k,O),some (.k,R),some (.k,W),some (.k,.int (nd:Int)),some (.o,.lst ((List.range (k+1)).map fun k=>rl (nd+n) (fun i=>fr (tcn nd t m ld k i)))),some (.k,tbD (t k)),some (.k,rl (m k) (fun j=>.int (ld k j))),some (.o,rl (nd+n) (fun i=>.int (dkt (m k) (fun j=>pos nd (ld k j)) (cs (t k) (t k).length) (i:Int)))),b9,b10,b11],?_,_,_,_,_,_,_,rfl⟩
   refine r_gT (by walk_at "all") ?_
   unfold QdV
   refine r_seq (QdE (r_e2 (r_lst (Ql r_C r_nil) (by decide)) hsum hrep) (by walk_at "s")) (Qx (r_seq h (Qx ?_)))
   refine r_app rfl hcomp (by rw[List.length_map,List.length_range];omega) ?_
   rw[List.range_succ,List.map_append]
   walk_at "s")
  [some (.k,Dr),some (.k,O),some (.k,rl n (fun k=>tbD (t k))),some (.k,rl n (fun k=>rl (m k) (fun j=>.int (ld k j)))),some (.k,.int (nd:Int)),some (.o,.lst []),none,none,none,none,none,none] ⟨_,_,_,_,_,_,rfl⟩
 have hz:itZ (eVar 2) (eVar 3) [some (.k,Dr),some (.k,O),some (.k,rl n (fun k=>tbD (t k))),some (.k,rl n (fun k=>rl (m k) (fun j=>.int (ld k j)))),some (.k,.int (nd:Int)),some (.o,.lst []),none,none,none,none,none,none]=.ok ((List.range n).map fun k=>D.tup [tbD (t k),rl (m k) (fun j=>.int (ld k j))]):=by
  unfold itZ
  rw[r_var rfl,Out.bind_ok,r_var rfl,Out.bind_ok]
  show Out.ok (List.zipWith _ ((List.range n).map _) ((List.range n).map _))=_
  rw[List.zipWith_map,List.zipWith_self]
 have hfor:=QbG (g:=gT [6,7]) (T:=QdV) hz hL
 have hun:sUnpL [1,2,3,4] (eVar 0) [some (.k,Dr),none,none,none,none,none,none,none,none,none,none,none]=.ok (.nx [some (.k,Dr),some (.k,O),some (.k,rl n (fun k=>tbD (t k))),some (.k,rl n (fun k=>rl (m k) (fun j=>.int (ld k j)))),some (.k,.int (nd:Int)),none,none,none,none,none,none,none]):=by
  subst hDr;rfl
 rw[Qy9]
 unfold QeD
 exact QcI (r_seq hun (Qx (r_seq (QdE (d:=.lst []) rfl (by walk_at "s")) (Qx (r_seq hfor (Qx (QuW rfl))))))) r_rtT
theorem tcn_c{k i:Nat}(hk:k<n):tcn nd t m ld k (nd+i)=(dkt (m k) (ld k) (cs (t k) (t k).length) (0+(i:Int)),((t k).length:Int)):=by
 unfold tcn
 refine congrArg (fun x=>(x,((t k).length:Int))) (Qfz (m k) fun j hj=>?_)
 obtain⟨h1,h2⟩:=hs.ldr k j hk hj
 refine⟨?_,rfl⟩
 unfold pos
 constructor
 ·intro h
  split at h<;>omega
 ·intro h
  rw[if_neg (by omega)];omega
theorem tcn_d{k i:Nat}(hk:k<n)(hi:i<nd):tcn nd t m ld k i=(dkt (m k) (ld k) (cs (t k) (t k).length) (-1 - (i:Int)),((t k).length:Int)):=by
 unfold tcn
 refine congrArg (fun x=>(x,((t k).length:Int))) (Qfz (m k) fun j hj=>?_)
 obtain⟨h1,h2⟩:=hs.ldr k j hk hj
 refine⟨?_,rfl⟩
 unfold pos
 constructor
 ·intro h
  split at h<;>omega
 ·intro h
  rw[if_pos (by omega)];omega
theorem dk_sm{k:Nat}(hk:k<n)(x:Int):bitsI (dkt (m k) (ld k) (cs (t k) (t k).length) x)<=48:=by
 have tb:=hs.tb k hk
 have tn2:=tb.n2
 have m6:=tb.m6
 obtain⟨d0,d1⟩:=dk_bd (l:=ld k) (w:=cs (t k) (t k).length) (x:=x) (B:=108) (m k) fun j _=>by
  have:=cs_le tb (t k).length j
  omega
 exact Qa9 (by omega)
end
theorem QsJ{ς ς':SD}{i:Nat}{d:D}(e:ς[i]?=some (some (.o,d)))(h:ς.set i (some (.k,d))=ς'):frz i ς=ς':=by
 unfold frz
 rw[e]
 exact h
theorem Qvw{T:SD->Out Fl}{j:Nat}{ς ς1:SD}{r:Out Fl}(hz:frz j ς=ς1)(h:T ς1=r):(fun ς=>T (frz j ς)) ς=r:=by
 show T (frz j ς)=r
 rw[hz];exact h
theorem dblI(b:Bool):f1 dInt [.bl b]=.ok (.int (if b=true then 1 else 0)):=by cases b<;>rfl
theorem QFC(t:List (List Int))(r:List Int):tbD (t++[r])=.lst (t.map dl++[dl r]):=by unfold tbD;simp
theorem QCm{n:Nat}(hn:n<=100){ς:SD}(h:ς[3]?=some (some (.k,.int (n:Int))))(hc:captD [none,some 3] ς=[none,some (.k,.int (n:Int))]):eComp [none,some 3] (itR1 (eVar 3)) (gN 0) cTrue Qe6 ς=.ok (tbD (dealT n)):=by
 have e:tbD (dealT n)=.lst ((List.range n).map fun s=>dl (one n s)):=by unfold tbD dealT;rw[List.map_map];rfl
 rw[e]
 refine QW (fun s:Nat=>D.int ((0:Int)+s)) (fun s=>dl (one n s)) (Qcg n (r_var h) (by omega)) (fun s _=>?_) (by rw[List.length_range];omega)
 refine QZ hc (by walk_at "s") ?_
 unfold Qe6
 have e2':dl (one n s)=.lst ((List.range n).map fun k=>D.int (if k=s then 1 else 0)):=by unfold dl one;rw[List.map_map];rfl
 rw[e2',Int.zero_add]
 refine QW (fun k:Nat=>D.int ((0:Int)+k)) (fun k=>D.int (if k=s then 1 else 0)) (Qcg n rfl (by omega)) (fun k _=>?_) (by rw[List.length_range];omega)
 refine QZ (by walk_at "cap") (by walk_at "s") ?_
 unfold QhU
 have hd:=dblI (decide (((0:Int)+(k:Int))=(s:Int)))
 have hh:(if decide (((0:Int)+(k:Int))=(s:Int))=true then(1:Int) else 0)=if k=s then 1 else 0:=by
  by_cases q:k=s
  ·rw[if_pos q,if_pos (decide_eq_true (by omega))]
  ·rw[if_neg q,decide_eq_false (by omega)];rfl
 rw[hh]at hd
 (repeat walk_at "e")
theorem QEX{n:Nat}(hn:n<=100){ς:SD}(h:ς[3]?=some (some (.k,.int (n:Int))))(hc:captD [none,some 3] ς=[none,some (.k,.int (n:Int))]):eComp [none,some 3] (itR1 (eVar 3)) (gN 0) cTrue QeZ ς=.ok (tbD (bunT n)):=by
 have e:tbD (bunT n)=.lst ((List.range n).map fun s=>dl [if s+1=n then 1 else 0]):=by unfold tbD bunT;rw[List.map_map];rfl
 rw[e]
 refine QW (fun s:Nat=>D.int ((0:Int)+s)) (fun s=>dl [if s+1=n then 1 else 0]) (Qcg n (r_var h) (by omega)) (fun s _=>?_) (by rw[List.length_range];omega)
 refine QZ hc (by walk_at "s") ?_
 unfold QeZ
 show _=Out.ok (D.lst [.int (if s+1=n then 1 else 0)])
 have hd:=dblI (decide (((0:Int)+(s:Int))=(n:Int) - 1))
 have hh:(if decide (((0:Int)+(s:Int))=(n:Int) - 1)=true then(1:Int) else 0)=if s+1=n then 1 else 0:=by
  by_cases q:s+1=n
  ·rw[if_pos q,if_pos (decide_eq_true (by omega))]
  ·rw[if_neg q,decide_eq_false (by omega)];rfl
 rw[hh]at hd
 (repeat walk_at "e")
theorem Qmn{N T:Int}(n0:0<=N)(n1:N<2147483648)(t2:1<=T)(t9:T<=10){size:Int}{n m:Nat}(hn:n<=12)(hm:size % 5=(m:Int))(hs0:0<=size):∃(t:List (List Int))(a5:Option (SM×D)),t.length=n/\(∀ r∈t,r.length=m)/\(∀ r∈t,∀ x∈r,0<=x/\x<=9)/\
 sFor (gN 5) (itR1 (eVar 3)) QcG [some (.k,.int N),some (.k,.int T),some (.k,.int size),some (.k,.int (n:Int)),some (.o,.lst []),none]=.ok (.nx [some (.k,.int N),some (.k,.int T),some (.k,.int size),some (.k,.int (n:Int)),some (.o,tbD t),a5]):=by
 have M:∀ i j:Int,i.natAbs<2 ^ 60->j.natAbs<2 ^ 60->dMul (.int i) (.int j)=.ok (.int (i * j)):=fun i j h1 h2=>Qfu (Qa9 h1) (Qa9 h2) (by decide)
 have m4:m<=4:=by omega
 obtain⟨ς',hL,t,a5,rfl,tl,tr,te⟩:=Qgp (body:=fun x ς=>gN 5 x ς>>=fun ς'=>QcG ς') (n:=n)
  (P:=fun s ς=>∃(t:List (List Int))(a5:Option (SM×D)),ς=[some (.k,.int N),some (.k,.int T),some (.k,.int size),some (.k,.int (n:Int)),some (.o,tbD t),a5]/\t.length=s/\(∀ r∈t,r.length=m)/\∀ r∈t,∀ x∈r,0<=x/\x<=9)
  (by
   rintro s hs ς ⟨t,a5,rfl,tl,tr,te⟩
   have hmod:dMod (.int size) (.int 5)=.ok (.int (m:Int)):=by rw[Q5 (by decide),hm]
   have hc:eComp [none,some 0,some 5,some 1] (itR1 (e2 dMod (eVar 2) (eC (.int 5)))) (gN 0) cTrue Qe2 [some (.k,.int N),some (.k,.int T),some (.k,.int size),some (.k,.int (n:Int)),some (.o,tbD t),some (.k,.int (s:Int))]=.ok (dl ((List.range m).map fun k:Nat=>N * (7 * (s:Int)+2 * (k:Int)+3) % 1000003 % T)):=by
    have e:dl ((List.range m).map fun k:Nat=>N * (7 * (s:Int)+2 * (k:Int)+3) % 1000003 % T)=.lst ((List.range m).map fun k:Nat=>D.int (N * (7 * (s:Int)+2 * (k:Int)+3) % 1000003 % T)):=by unfold dl;rw[List.map_map];rfl
    rw[e]
    refine QW (fun k:Nat=>D.int ((0:Int)+k)) (fun k:Nat=>D.int (N * (7 * (s:Int)+2 * (k:Int)+3) % 1000003 % T)) (Qcg m (by (repeat walk_at "e")) (by omega)) (fun k hk=>?_) (by rw[List.length_range];omega)
    have hk:=List.mem_range.mp hk
    refine QZ (by walk_at "cap") (by walk_at "s") ?_
    unfold Qe2
    rw[Int.zero_add]
    have e1':=M 7 s (by decide) (by omega)
    have e2':=M 2 k (by decide) (by omega)
    have e3':=M N (7 * (s:Int)+2 * (k:Int)+3) (by omega) (by omega)
    have q1:dMod (.int (N * (7 * (s:Int)+2 * (k:Int)+3))) (.int 1000003)=.ok (.int (N * (7 * (s:Int)+2 * (k:Int)+3) % 1000003)):=Q5 (by decide)
    have q2:dMod (.int (N * (7 * (s:Int)+2 * (k:Int)+3) % 1000003)) (.int T)=.ok (.int (N * (7 * (s:Int)+2 * (k:Int)+3) % 1000003 % T)):=Q5 (by omega)
    (repeat walk_at "e")
   refine⟨[some (.k,.int N),some (.k,.int T),some (.k,.int size),some (.k,.int (n:Int)),some (.o,tbD (t++[(List.range m).map fun k:Nat=>N * (7 * (s:Int)+2 * (k:Int)+3) % 1000003 % T])),some (.k,.int (s:Int))],?_,_,_,rfl,?_,?_,?_⟩
   ·refine r_gN (by walk_at "s") ?_
    unfold QcG
    refine r_app (xs:=t.map dl) rfl hc (by rw[List.length_map];omega) ?_
    rw[QFC]
    walk_at "s"
   ·rw[List.length_append,tl];rfl
   ·intro r hr
    rcases List.mem_append.mp hr with h | h
    ·exact tr r h
    ·rw[List.mem_singleton.mp h,List.length_map,List.length_range]
   ·intro r hr x hx
    rcases List.mem_append.mp hr with h | h
    ·exact te r h x hx
    ·rw[List.mem_singleton.mp h]at hx
     obtain⟨k,_,rfl⟩:=List.mem_map.mp hx
     have a:=Int.emod_nonneg (N * (7 * (s:Int)+2 * (k:Int)+3) % 1000003) (b:=T) (by omega)
     have b:=Int.emod_lt_of_pos (N * (7 * (s:Int)+2 * (k:Int)+3) % 1000003) (b:=T) (by omega)
     omega)
  [some (.k,.int N),some (.k,.int T),some (.k,.int size),some (.k,.int (n:Int)),some (.o,.lst []),none] ⟨[],none,rfl,rfl,(fun r h=>by cases h),fun r h=>by cases h⟩
 exact⟨t,a5,tl,tr,te,QbG (g:=gN 5) (its:=itR1 (eVar 3)) (T:=QcG) (Qcg n (r_var rfl) (by omega)) hL⟩
theorem QDY{N T:Int}(n0:0<=N)(n1:N<2147483648)(t2:1<=T)(t9:T<=10):∃(c:Str)(t:List (List Int))(m:Nat),CK.contains c=true/\Tb t m/\QaA [.int N,.int T]=.ok (.lst [ck c t m,tbD t]):=by
 have d4:dFdiv (.int N) (.int 4)=.ok (.int (N / 4)):=Qcq (by decide) (by decide)
 have p4:dMod (.int N) (.int 4)=.ok (.int (N % 4)):=Q5 (by decide)
 have h4:N % 4=0∨N % 4=1∨N % 4=2∨N % 4=3:=by omega
 have c1:CK.contains ("Deal":Str)=true:=dk
 have c2:CK.contains ("Bundle":Str)=true:=dk
 have c3:CK.contains ("Copy":Str)=true:=dk
 have c4:CK.contains ("Rows":Str)=true:=dk
 rcases h4 with h | h | h | h
 ·obtain⟨n,hn⟩:∃ n:Nat,1+N / 4 % 6=(n:Int):=⟨(1+N / 4 % 6).toNat,by omega⟩
  have p6:dMod (.int (N / 4)) (.int 6)=.ok (.int (N / 4 % 6)):=Q5 (by decide)
  refine⟨"Deal",dealT n,n,c1,Qzv (by omega) (by omega),?_⟩
  have hi:=QCC c1 (n:=n) (by omega) (by omega)
  have hr:=QCm (n:=n) (by omega) (ς:=[some (.k,.int N),some (.k,.int T),some (.k,.int (N / 4)),some (.k,.int (n:Int)),none,none]) rfl (by walk_at "cap")
  have s3:sSet 3 (e2 dAdd (eC (.int 1)) (e2 dMod (eVar 2) (eC (.int 6)))) [some (.k,.int N),some (.k,.int T),some (.k,.int (N / 4)),none,none,none]=.ok (.nx [some (.k,.int N),some (.k,.int T),some (.k,.int (N / 4)),some (.k,.int (n:Int)),none,none]):=by
   rw[← hn];(repeat walk_at "e")
  rw[QeF]
  unfold Qb3
  refine QcI (fl:=.rt true (.lst [ck "Deal" (dealT n) n,tbD (dealT n)])) ?_ r_rtT
  refine r_seq (fl:=.nx [some (.k,.int N),some (.k,.int T),some (.k,.int (N / 4)),none,none,none]) (by (repeat walk_at "e")) (Qx ?_)
  refine r_seq (fl:=.rt true (.lst [ck "Deal" (dealT n) n,tbD (dealT n)])) ?_ Qj2
  refine r_ifT (by (repeat walk_at "e")) (decide_eq_true h) ?_
  refine r_seq s3 (Qx ?_)
  exact QfN (r_lst (Ql (Qg3 (Ql (r_var rfl) r_nil) hi) (Ql hr r_nil)) (show 2<=1000 by decide))
 ·obtain⟨n,hn⟩:∃ n:Nat,1+N / 4 % 12=(n:Int):=⟨(1+N / 4 % 12).toNat,by omega⟩
  have p12:dMod (.int (N / 4)) (.int 12)=.ok (.int (N / 4 % 12)):=Q5 (by decide)
  refine⟨"Bundle",bunT n,1,c2,QBJ (by omega) (by omega),?_⟩
  have hi:=QEx c2 (n:=n) (by omega) (by omega)
  have hr:=QEX (n:=n) (by omega) (ς:=[some (.k,.int N),some (.k,.int T),some (.k,.int (N / 4)),some (.k,.int (n:Int)),none,none]) rfl (by walk_at "cap")
  have s3:sSet 3 (e2 dAdd (eC (.int 1)) (e2 dMod (eVar 2) (eC (.int 12)))) [some (.k,.int N),some (.k,.int T),some (.k,.int (N / 4)),none,none,none]=.ok (.nx [some (.k,.int N),some (.k,.int T),some (.k,.int (N / 4)),some (.k,.int (n:Int)),none,none]):=by
   rw[← hn];(repeat walk_at "e")
  rw[QeF]
  unfold Qb3
  refine QcI (fl:=.rt true (.lst [ck "Bundle" (bunT n) 1,tbD (bunT n)])) ?_ r_rtT
  refine r_seq (fl:=.nx [some (.k,.int N),some (.k,.int T),some (.k,.int (N / 4)),none,none,none]) (by (repeat walk_at "e")) (Qx ?_)
  refine r_seq (fl:=.nx [some (.k,.int N),some (.k,.int T),some (.k,.int (N / 4)),none,none,none]) (r_ifF (by (repeat walk_at "e")) (decide_eq_false (show ¬ N % 4=0 by omega)) QcB) (Qx ?_)
  refine r_seq (fl:=.rt true (.lst [ck "Bundle" (bunT n) 1,tbD (bunT n)])) ?_ Qj2
  refine r_ifT (by (repeat walk_at "e")) (decide_eq_true h) ?_
  refine r_seq s3 (Qx ?_)
  exact QfN (r_lst (Ql (Qg3 (Ql (r_var rfl) r_nil) hi) (Ql hr r_nil)) (show 2<=1000 by decide))
 ·obtain⟨m,hm⟩:∃ m:Nat,N / 4 % 5=(m:Int):=⟨(N / 4 % 5).toNat,by omega⟩
  obtain⟨t,a5,tl,tr,te,hfor⟩:=Qmn n0 n1 t2 t9 (size:=N / 4) (n:=1) (by decide) hm (by omega)
  obtain⟨r,rfl⟩:∃ r,t=[r]:=by
   match t,tl with
   | [r],_=>exact⟨r,rfl⟩
  have tb:Tb [r] m:=⟨show 1<=1 by decide,show 1<=12 by decide,by omega,tr,te⟩
  refine⟨"Copy",[r],m,c3,tb,?_⟩
  have hi:=QCu c3 tb
  have d7:dFdiv (.int (N / 4)) (.int 7)=.ok (.int (N / 4 / 7)):=Qcq (by decide) (by decide)
  have p12:dMod (.int (N / 4 / 7)) (.int 12)=.ok (.int (N / 4 / 7 % 12)):=Q5 (by decide)
  have hd:f1 dInt [.bl (decide (N % 4=3))]=.ok (.int 0):=by rw[dblI,decide_eq_false (by omega)];rfl
  have hmu:dMul (.int (N / 4 / 7 % 12)) (.int 0)=.ok (.int 0):=by rw[Qfu (Qa9 (n:=60) (by omega)) (Qa9 (n:=60) (by decide)) (by decide),Int.mul_zero]
  have s3:sSet 3 (e2 dAdd (eC (.int 1)) (e2 dMul (e2 dMod (e2 dFdiv (eVar 2) (eC (.int 7))) (eC (.int 12))) (eA (f1 dInt) (aCons (e2 dEq (e2 dMod (eVar 0) (eC (.int 4))) (eC (.int 3))) aNil)))) [some (.k,.int N),some (.k,.int T),some (.k,.int (N / 4)),none,none,none]=.ok (.nx [some (.k,.int N),some (.k,.int T),some (.k,.int (N / 4)),some (.k,.int ((1:Nat):Int)),none,none]):=by
   show _=Out.ok (Fl.nx [some (.k,.int N),some (.k,.int T),some (.k,.int (N / 4)),some (.k,.int (1+0)),none,none])
   (repeat walk_at "e")
  have hx:dIx (tbD [r]) (.int 0)=.ok (dl r):=ixL 0 rfl
  have hli:dList (dl r)=.ok (dl r):=rfl
  rw[QeF]
  unfold Qb3
  refine QcI (fl:=.rt true (.lst [ck "Copy" [r] m,tbD [r]])) ?_ r_rtT
  refine r_seq (fl:=.nx [some (.k,.int N),some (.k,.int T),some (.k,.int (N / 4)),none,none,none]) (by (repeat walk_at "e")) (Qx ?_)
  refine r_seq (fl:=.nx [some (.k,.int N),some (.k,.int T),some (.k,.int (N / 4)),none,none,none]) (r_ifF (by (repeat walk_at "e")) (decide_eq_false (show ¬ N % 4=0 by omega)) QcB) (Qx ?_)
  refine r_seq (fl:=.nx [some (.k,.int N),some (.k,.int T),some (.k,.int (N / 4)),none,none,none]) (r_ifF (by (repeat walk_at "e")) (decide_eq_false (show ¬ N % 4=1 by omega)) QcB) (Qx ?_)
  refine r_seq s3 (Qx ?_)
  refine r_seq (QdE (d:=.lst []) rfl (by walk_at "s")) (Qx (r_seq hfor (Qx ?_)))
  refine r_seq (fl:=.rt true (.lst [ck "Copy" [r] m,tbD [r]])) ?_ Qj2
  refine r_ifT (by (repeat walk_at "e")) (decide_eq_true h) ?_
  refine Qvw (QsJ (d:=tbD [r]) rfl (by walk_at "s")) ?_
  exact QfN (r_lst (Ql (Qg3 (Ql (r_e1 (r_e2 (r_var rfl) r_C hx) hli) r_nil) hi) (Ql (r_var rfl) r_nil)) (show 2<=1000 by decide))
 ·obtain⟨m,hm⟩:∃ m:Nat,N / 4 % 5=(m:Int):=⟨(N / 4 % 5).toNat,by omega⟩
  obtain⟨n,hn⟩:∃ n:Nat,1+N / 4 / 7 % 12=(n:Int):=⟨(1+N / 4 / 7 % 12).toNat,by omega⟩
  obtain⟨t,a5,tl,tr,te,hfor⟩:=Qmn n0 n1 t2 t9 (size:=N / 4) (n:=n) (by omega) hm (by omega)
  have tb:Tb t m:=⟨by omega,by omega,by omega,tr,te⟩
  refine⟨"Rows",t,m,c4,tb,?_⟩
  have hi:=QDi c4 tb
  have d7:dFdiv (.int (N / 4)) (.int 7)=.ok (.int (N / 4 / 7)):=Qcq (by decide) (by decide)
  have p12:dMod (.int (N / 4 / 7)) (.int 12)=.ok (.int (N / 4 / 7 % 12)):=Q5 (by decide)
  have hd:f1 dInt [.bl (decide (N % 4=3))]=.ok (.int 1):=by rw[dblI,decide_eq_true h];rfl
  have hmu:dMul (.int (N / 4 / 7 % 12)) (.int 1)=.ok (.int (N / 4 / 7 % 12)):=by rw[Qfu (Qa9 (n:=60) (by omega)) (Qa9 (n:=60) (by decide)) (by decide),Int.mul_one]
  have s3:sSet 3 (e2 dAdd (eC (.int 1)) (e2 dMul (e2 dMod (e2 dFdiv (eVar 2) (eC (.int 7))) (eC (.int 12))) (eA (f1 dInt) (aCons (e2 dEq (e2 dMod (eVar 0) (eC (.int 4))) (eC (.int 3))) aNil)))) [some (.k,.int N),some (.k,.int T),some (.k,.int (N / 4)),none,none,none]=.ok (.nx [some (.k,.int N),some (.k,.int T),some (.k,.int (N / 4)),some (.k,.int (n:Int)),none,none]):=by
   rw[← hn];(repeat walk_at "e")
  have hcomp:∀ a5,eComp [none] (itL (eVar 4)) (gN 0) cTrue Qfc [some (.k,.int N),some (.k,.int T),some (.k,.int (N / 4)),some (.k,.int (n:Int)),some (.k,tbD t),a5]=.ok (tbD t):=fun a5=>by
   refine QW dl dl rfl (fun r _=>?_) (by omega)
   refine QZ (by walk_at "cap") (by walk_at "s") ?_
   unfold Qfc
   exact r_e1 (r_var rfl) rfl
  rw[QeF]
  unfold Qb3
  refine QcI (fl:=.rt true (.lst [ck "Rows" t m,tbD t])) ?_ r_rtT
  refine r_seq (fl:=.nx [some (.k,.int N),some (.k,.int T),some (.k,.int (N / 4)),none,none,none]) (by (repeat walk_at "e")) (Qx ?_)
  refine r_seq (fl:=.nx [some (.k,.int N),some (.k,.int T),some (.k,.int (N / 4)),none,none,none]) (r_ifF (by (repeat walk_at "e")) (decide_eq_false (show ¬ N % 4=0 by omega)) QcB) (Qx ?_)
  refine r_seq (fl:=.nx [some (.k,.int N),some (.k,.int T),some (.k,.int (N / 4)),none,none,none]) (r_ifF (by (repeat walk_at "e")) (decide_eq_false (show ¬ N % 4=1 by omega)) QcB) (Qx ?_)
  refine r_seq s3 (Qx ?_)
  refine r_seq (QdE (d:=.lst []) rfl (by walk_at "s")) (Qx (r_seq hfor (Qx ?_)))
  refine r_seq (r_ifF (by (repeat walk_at "e")) (decide_eq_false (show ¬ N % 4=2 by omega)) QcB) (Qx ?_)
  refine Qvw (QsJ (d:=tbD t) rfl (by walk_at "s")) ?_
  exact QfN (r_lst (Ql (Qg3 (Ql (hcomp _) r_nil) hi) (Ql (r_var rfl) r_nil)) (show 2<=1000 by decide))
def cnm(k:Nat):Str:=match k with | 0=>"a" | 1=>"b" | 2=>"c" | 3=>"d" | 4=>"e" | 5=>"f" | 6=>"g" | 7=>"h" | 8=>"i" | 9=>"j" | 10=>"k" | _=>"l"
def dnm(k:Nat):Str:=match k with | 0=>"x" | 1=>"y" | _=>"z"
theorem QHf{k:Nat}(h:k<12):dIx (.str "abcdefghijklm") (.int (k:Int))=.ok (.str (cnm k)):=by
 rcases(by omega:k=0∨k=1∨k=2∨k=3∨k=4∨k=5∨k=6∨k=7∨k=8∨k=9∨k=10∨k=11) with rfl | rfl | rfl | rfl | rfl | rfl | rfl | rfl | rfl | rfl | rfl | rfl<;>with_unfolding_all rfl
theorem cisn{k:Nat}(h:k<12):Qao [.str (cnm k)]=.ok (.bl true):=by
 rcases(by omega:k=0∨k=1∨k=2∨k=3∨k=4∨k=5∨k=6∨k=7∨k=8∨k=9∨k=10∨k=11) with rfl | rfl | rfl | rfl | rfl | rfl | rfl | rfl | rfl | rfl | rfl | rfl<;>with_unfolding_all rfl
theorem disn{k:Nat}(h:k<3):Qao [.str (dnm k)]=.ok (.bl true):=by
 rcases(by omega:k=0∨k=1∨k=2) with rfl | rfl | rfl<;>with_unfolding_all rfl
theorem QFV{i j:Nat}(hi:i<12)(hj:j<12)(e:cnm i=cnm j):i=j:=by
 have key:∀ a b:Fin 12,cnm a=cnm b->a=b:=dk
 have:=key ⟨i,hi⟩ ⟨j,hj⟩ e
 simpa using this
theorem QGu{i j:Nat}(hi:i<3)(hj:j<3)(e:dnm i=dnm j):i=j:=by
 have key:∀ a b:Fin 3,dnm a=dnm b->a=b:=dk
 have:=key ⟨i,hi⟩ ⟨j,hj⟩ e
 simpa using this
theorem QHt{i j:Nat}(hi:i<12)(hj:j<3):cnm i≠dnm j:=by
 have key:∀(a:Fin 12)(b:Fin 3),cnm a≠dnm b:=dk
 exact key ⟨i,hi⟩ ⟨j,hj⟩
def evN(nd i:Nat):Str:=if i<nd then dnm i else cnm (i - nd)
theorem QHl(a b:Nat)(f g:Nat->D):(List.range a).map f++(List.range b).map g=(List.range (a+b)).map fun i=>if i<a then f i else g (i - a):=by
 apply List.ext_getElem?
 intro i
 by_cases h:i<a
 ·rw[List.getElem?_append_left (by rw[List.length_map,List.length_range];exact h),List.getElem?_map,List.getElem?_map,List.getElem?_range h,List.getElem?_range (by omega)]
  show some (f i)=some (if i<a then f i else g (i - a))
  rw[if_pos h]
 ·rw[List.getElem?_append_right (by rw[List.length_map,List.length_range];omega),List.length_map,List.length_range,List.getElem?_map,List.getElem?_map]
  by_cases h2:i - a<b
  ·rw[List.getElem?_range h2,List.getElem?_range (by omega)]
   show some (g (i - a))=some (if i<a then f i else g (i - a))
   rw[if_neg h]
  ·rw[List.getElem?_eq_none (by rw[List.length_range];omega),List.getElem?_eq_none (by rw[List.length_range];omega)];rfl
theorem QE0{nd n:Nat}(h1:nd<=10)(h2:n<=20):dCat (rl nd (fun d=>.str (dnm d))) (rl n (fun k=>.str (cnm k)))=.ok (rl (nd+n) (fun i=>.str (evN nd i))):=by
 show dCat (.lst _) (.lst _)=_
 rw[Qom (by rw[List.length_map,List.length_map,List.length_range,List.length_range];omega),QHl]
 refine congrArg (fun l=>Out.ok (D.lst l)) (List.map_congr_left fun i _=>?_)
 unfold evN
 split<;>rfl
theorem QEB{l:Int}{nd:Nat}{f:Nat->D}:Qbp [.int l,rl nd f]=.ok (.int (pos nd l)):=by
 have hl:=lenR nd f
 rw[QyV]
 unfold Qey pos
 by_cases h:l<0
 ·rw[if_pos h]
  (repeat walk_at "e")
 ·rw[if_neg h]
  (repeat walk_at "e")
theorem QH4{n nd:Nat}{l:Int}(h1 : -(nd:Int)<=l)(h2:l<(n:Int)):dIx (rl (nd+n) (fun i=>.str (evN nd i))) (.int (pos nd l))=.ok (.str (nml cnm dnm l)):=by
 unfold pos nml
 by_cases h:l<0
 ·rw[if_pos h,if_pos h]
  obtain⟨p,hp⟩:∃ p:Nat, -1 - l=(p:Int):=⟨(-1 - l).toNat,by omega⟩
  rw[hp,ixR (by omega)]
  unfold evN
  rw[if_pos (by omega)];rfl
 ·rw[if_neg h,if_neg h]
  obtain⟨p,hp⟩:∃ p:Nat,l=(p:Int):=⟨l.toNat,by omega⟩
  rw[hp,show(nd:Int)+(p:Int)=((nd+p:Nat):Int) by omega,ixR (by omega)]
  unfold evN
  rw[if_neg (by omega)]
  show Out.ok (D.str (cnm (nd+p - nd)))=_
  rw[show nd+p - nd=p by omega];rfl
def mixV(c k:Int):Int:=(c % 2147483647+11) * (48271+2 * k * k) % 2147483629
theorem QrN(c k:Int):0<=mixV c k/\mixV c k<2147483629:=⟨Int.emod_nonneg _ (by decide),Int.emod_lt_of_pos _ (by decide)⟩
theorem Qsn(c:Int){k:Int}(hk0:0<=k)(hk:k<=1000):QaC [.int c,.int k]=.ok (.int (mixV c k)):=by
 have c0:=Int.emod_nonneg c (b:=2147483647) (by decide)
 have c1:=Int.emod_lt_of_pos c (b:=2147483647) (by decide)
 have M:∀ i j:Int,i.natAbs<2 ^ 60->j.natAbs<2 ^ 60->dMul (.int i) (.int j)=.ok (.int (i * j)):=fun i j h1 h2=>Qfu (Qa9 h1) (Qa9 h2) (by decide)
 have kk:2 * k * k<=2000000:=by
  have:=Int.mul_le_mul (show 2 * k<=2000 by omega) hk hk0 (by decide)
  omega
 have kk0:0<=2 * k * k:=Int.mul_nonneg (by omega) hk0
 have m1:=M 2 k (by decide) (by omega)
 have m2:=M (2 * k) k (by omega) (by omega)
 have m3:=M (c % 2147483647+11) (48271+2 * k * k) (by omega) (by omega)
 unfold mixV
 simp only[QaC,Qgw,bodyF,retF,sSeq,thenF,sSet,sRet,sIf,sNil,eVar,eC,e1,e2,eA,f1,aNil,aCons,tVal,tAnd',tOr',tNot',eAnd,eOr,eNot,eIf,eTup,eLst,eIsa,isaT,Q9,oNo,oSome,sPar,sUnp,QV,gN,gT,fLen,Q0,Out.bind_ok,Out.bind_exc,Out.bind_stuck,Out.pure_eq,D.scal,Q7,Qak,Qan,Qaq,QaT,Qat,Qay,QaU,Qaf,Qal,List.length_cons,List.length_nil,List.map_cons,List.map_nil,List.cons_append,List.nil_append,List.append_nil,List.getElem?_cons_zero,List.getElem?_cons_succ,List.set_cons_zero,List.set_cons_succ,List.replicate,Nat.reduceAdd,Nat.reduceSub,Nat.reduceLeDiff,Nat.zero_add,Nat.add_zero,reduceIte,Bool.not_true,Bool.not_false,Bool.true_and,Bool.and_true,Bool.false_and,Bool.and_false,Bool.or_true,Bool.true_or,Bool.or_false,Bool.false_or,Bool.false_eq_true,decide_true,decide_false,decide_eq_true_eq,Bool.not_eq_true',decide_eq_false_iff_not,Int.reduceEq,Int.reduceLT,Int.reduceLE,Int.reduceNeg,Nat.reduceEqDiff, ↓reduceIte,not_true_eq_false,not_false_eq_true,Q5 (show(0:Int)<2147483647 by decide),Q5 (show(0:Int)<2147483629 by decide),m1,m2,m3]
theorem QGj(ns:List Int)(k:Nat):∃ v:Int,Qbj [.lst (ns.map .int),.int (k:Int)]=.ok (.int v):=by
 have hlen:fLen [.lst (ns.map D.int)]=.ok (.int (ns.length:Int)):=by simp[fLen]
 by_cases h:k<ns.length
 ·have hix:dIx (.lst (ns.map D.int)) (.int (k:Int))=.ok (.int ns[k]):=ixL k (by rw[List.getElem?_map,List.getElem?_eq_getElem h];rfl)
  have hlt:(k:Int)<(ns.length:Int):=by omega
  refine⟨ns[k],?_⟩
  rw[Qmv]
  unfold Qei
  (repeat walk_at "e")
 ·have hlt:¬ (k:Int)<(ns.length:Int):=by omega
  refine⟨0,?_⟩
  rw[Qmv]
  unfold Qei
  (repeat walk_at "e")
def ldV(seed:Int)(n nd:Nat)(N:Int)(j:Nat):Int:=if N * (2 * (j:Int)+5) % 999983 % 8<seed / 12 % 8 then -1 - N * (2 * (j:Int)+5) % 999983 / 8 % (nd:Int) else N * (2 * (j:Int)+5) % 999983 / 8 % (n:Int)
theorem QHx{seed:Int}{n nd:Nat}(hn:1<=n)(hd:1<=nd)(N:Int)(j:Nat) : -(nd:Int)<=ldV seed n nd N j/\ldV seed n nd N j<(n:Int):=by
 unfold ldV
 have a0:=Int.emod_nonneg (N * (2 * (j:Int)+5) % 999983 / 8) (b:=(nd:Int)) (by omega)
 have a1:=Int.emod_lt_of_pos (N * (2 * (j:Int)+5) % 999983 / 8) (b:=(nd:Int)) (by omega)
 have b0:=Int.emod_nonneg (N * (2 * (j:Int)+5) % 999983 / 8) (b:=(n:Int)) (by omega)
 have b1:=Int.emod_lt_of_pos (N * (2 * (j:Int)+5) % 999983 / 8) (b:=(n:Int)) (by omega)
 split<;>omega
theorem QzT{a0 a1 a2 a6 a7 a8 a9 a10 a12 a13 a15 a16 a17:Option (SM×D)}{seed N:Int}{n nd m:Nat}{fc fd:Nat->D}(hn:1<=n)(hd:1<=nd)(hm:m<=100)(N0:0<=N)(N1:N<2147483648):
 ∃ a15' a16',loopD (fun x ς=>gN 15 x ς>>=fun ς'=>QcC ς') (Qa6 0 m) [a0,a1,a2,some (.k,.int seed),some (.k,rl n fc),some (.k,rl nd fd),a6,a7,a8,a9,a10,some (.k,.int N),a12,a13,some (.o,.lst []),a15,a16,a17]=
  .ok (.nx [a0,a1,a2,some (.k,.int seed),some (.k,rl n fc),some (.k,rl nd fd),a6,a7,a8,a9,a10,some (.k,.int N),a12,a13,some (.o,rl m (fun j=>.int (ldV seed n nd N j))),a15',a16',a17]):=by
 have M:∀ i j:Int,i.natAbs<2 ^ 60->j.natAbs<2 ^ 60->dMul (.int i) (.int j)=.ok (.int (i * j)):=fun i j h1 h2=>Qfu (Qa9 h1) (Qa9 h2) (by decide)
 have lc:=lenR n fc
 have ldr:=lenR nd fd
 have d12:dFdiv (.int seed) (.int 12)=.ok (.int (seed / 12)):=Qcq (by decide) (by decide)
 have p12:dMod (.int (seed / 12)) (.int 8)=.ok (.int (seed / 12 % 8)):=Q5 (by decide)
 generalize hC:rl n fc=C at *
 generalize hD:rl nd fd=Do at *
 obtain⟨ς',hL,a15',a16',rfl⟩:=Qgp (body:=fun x ς=>gN 15 x ς>>=fun ς'=>QcC ς') (n:=m)
  (P:=fun j ς=>∃ a15 a16,ς=[a0,a1,a2,some (.k,.int seed),some (.k,C),some (.k,Do),a6,a7,a8,a9,a10,some (.k,.int N),a12,a13,some (.o,.lst ((List.range j).map fun j=>D.int (ldV seed n nd N j))),a15,a16,a17])
  (by
   rintro j hj ς ⟨a15,a16,rfl⟩
   have e1':=M 2 j (by decide) (by omega)
   have e2':=M N (2 * (j:Int)+5) (by omega) (by omega)
   have q1:dMod (.int (N * (2 * (j:Int)+5))) (.int 999983)=.ok (.int (N * (2 * (j:Int)+5) % 999983)):=Q5 (by decide)
   have ea:(List.range j).map (fun j=>D.int (ldV seed n nd N j))++[D.int (ldV seed n nd N j)]=(List.range (j+1)).map fun j=>D.int (ldV seed n nd N j):=by
    rw[List.range_succ,List.map_append];rfl
   have hle:((List.range j).map fun j=>D.int (ldV seed n nd N j)).length<=1000:=by rw[List.length_map,List.length_range];omega
   have hv:ldV seed n nd N j=if N * (2 * (j:Int)+5) % 999983 % 8<seed / 12 % 8 then -1 - N * (2 * (j:Int)+5) % 999983 / 8 % (nd:Int) else N * (2 * (j:Int)+5) % 999983 / 8 % (n:Int):=rfl
   refine⟨[a0,a1,a2,some (.k,.int seed),some (.k,C),some (.k,Do),a6,a7,a8,a9,a10,some (.k,.int N),a12,a13,some (.o,.lst ((List.range (j+1)).map fun j=>D.int (ldV seed n nd N j))),some (.k,.int (j:Int)),some (.k,.int (N * (2 * (j:Int)+5) % 999983)),a17],?_,_,_,rfl⟩
   rw[← ea]
   generalize ((List.range j).map fun j=>D.int (ldV seed n nd N j))=xs at *
   generalize hG:N * (2 * (j:Int)+5) % 999983=G at *
   have d8:dFdiv (.int G) (.int 8)=.ok (.int (G / 8)):=Qcq (by decide) (by decide)
   have p8:dMod (.int G) (.int 8)=.ok (.int (G % 8)):=Q5 (by decide)
   have pd:dMod (.int (G / 8)) (.int (nd:Int))=.ok (.int (G / 8 % (nd:Int))):=Q5 (by omega)
   have pn:dMod (.int (G / 8)) (.int (n:Int))=.ok (.int (G / 8 % (n:Int))):=Q5 (by omega)
   rw[hv]
   refine r_gN (by walk_at "s") ?_
   unfold QcC
   refine r_seq (fl:=.nx [a0,a1,a2,some (.k,.int seed),some (.k,C),some (.k,Do),a6,a7,a8,a9,a10,some (.k,.int N),a12,a13,some (.o,.lst xs),some (.k,.int (j:Int)),some (.k,.int G),a17]) (by (repeat walk_at "e")) (Qx ?_)
   by_cases h:G % 8<seed / 12 % 8
   ·rw[if_pos h]
    refine r_ifT (by (repeat walk_at "e")) (decide_eq_true h) ?_
    exact r_app rfl (by (repeat walk_at "e")) hle (by walk_at "s")
   ·rw[if_neg h]
    refine r_ifF (by (repeat walk_at "e")) (decide_eq_false h) ?_
    exact r_app rfl (by (repeat walk_at "e")) hle (by walk_at "s"))
  [a0,a1,a2,some (.k,.int seed),some (.k,C),some (.k,Do),a6,a7,a8,a9,a10,some (.k,.int N),a12,a13,some (.o,.lst []),a15,a16,a17] ⟨_,_,rfl⟩
 exact⟨a15',a16',hL⟩
theorem QEJ{ns:List Int}{seed:Int}{a3:List (Option (SM×D))}:∃ cs:List Int,1<=cs.length/\cs.length<=12/\e2 dCat (eSl (eVar 0) (oSome (eVar 1)) (oSome (e2 dAdd (eVar 1) (eVar 2)))) (e2 dRep (eLst (aCons (eVar 3) aNil)) (eA (f1 dInt) (aCons (e2 dLe (eA fLen (aCons (eVar 0) aNil)) (eVar 1)) aNil))) (some (.k,.lst (ns.map D.int))::some (.k,.int 2)::some (.k,.int 12)::some (.k,.int seed)::a3)=.ok (.lst (cs.map D.int)):=by
 have hlen:fLen [.lst (ns.map D.int)]=.ok (.int (ns.length:Int)):=by simp[fLen]
 have hsl:eSl (eVar 0) (oSome (eVar 1)) (oSome (e2 dAdd (eVar 1) (eVar 2))) (some (.k,.lst (ns.map D.int))::some (.k,.int 2)::some (.k,.int 12)::some (.k,.int seed)::a3)=.ok (.lst (((ns.drop 2).take 12).map D.int)):=by
  refine r_sl (xs:=ns.map D.int) (p:=some ((2:Nat):Int)) (q:=some ((14:Nat):Int)) rfl rfl rfl ?_
  rw[QC5,List.map_take,List.map_drop]
 have hd:=dblI (decide ((ns.length:Int)<=2))
 by_cases h:ns.length<=2
 ·have hr:dRep (.lst [.int seed]) (.int 1)=.ok (rl 1 (fun _=>.int seed)):=QCR (N:=1) (by decide)
  rw[decide_eq_true (show(ns.length:Int)<=2 by omega)]at hd
  have hd:f1 dInt [.bl true]=.ok (.int 1):=hd
  have hdr:ns.drop 2=[]:=List.drop_eq_nil_of_le h
  have hle:decide ((ns.length:Int)<=2)=true:=decide_eq_true (by omega)
  have hL:dLe (.int (ns.length:Int)) (.int 2)=.ok (.bl true):=by rw[Qat,hle]
  have hcat:dCat (.lst (((ns.drop 2).take 12).map D.int)) (rl 1 (fun _=>.int seed))=.ok (.lst ([seed].map D.int)):=by
   rw[hdr];rfl
  exact⟨[seed],show 1<=1 by decide,show 1<=12 by decide,r_e2 hsl (r_e2 (r_lst (Ql (r_var rfl) r_nil) (show 1<=1000 by decide)) (r_eA (Ql (r_e2 (r_eA (Ql (r_var rfl) r_nil) hlen) (r_var rfl) hL) r_nil) hd) hr) hcat⟩
 ·have hr:dRep (.lst [.int seed]) (.int 0)=.ok (rl 0 (fun _=>.int seed)):=QCR (N:=0) (by decide)
  rw[decide_eq_false (show ¬ (ns.length:Int)<=2 by omega)]at hd
  have hd:f1 dInt [.bl false]=.ok (.int 0):=hd
  have hL:dLe (.int (ns.length:Int)) (.int 2)=.ok (.bl false):=by rw[Qat,decide_eq_false (by omega)]
  have hl:((ns.drop 2).take 12).length<=12:=by rw[List.length_take];omega
  have hcat:dCat (.lst (((ns.drop 2).take 12).map D.int)) (rl 0 (fun _=>.int seed))=.ok (.lst (((ns.drop 2).take 12).map D.int)):=by
   show dCat (.lst _) (.lst [])=_
   rw[Qom (by rw[List.length_map];show _+0<=1000;omega),List.append_nil]
  exact⟨(ns.drop 2).take 12,by rw[List.length_take,List.length_drop];omega,hl,r_e2 hsl (r_e2 (r_lst (Ql (r_var rfl) r_nil) (show 1<=1000 by decide)) (r_eA (Ql (r_e2 (r_eA (Ql (r_var rfl) r_nil) hlen) (r_var rfl) hL) r_nil) hd) hr) hcat⟩
theorem QDs{nd:Nat}(h1:1<=nd)(h3:nd<=3):cutD [D.str "x",.str "y",.str "z"] none (some (nd:Int))=(List.range nd).map fun d=>.str (dnm d):=by
 rw[QHD]
 rcases(by omega:nd=1∨nd=2∨nd=3) with rfl | rfl | rfl<;>rfl
theorem at_ok{xs:List D}{i:Nat}{d:D}(h:xs[i]?=some d):atI xs (i:Int)=some d:=by
 have hi:i<xs.length:=(List.getElem?_eq_some_iff.mp h).1
 unfold atI ixN
 rw[if_pos (by omega),if_pos (by omega)]
 simpa using h
theorem QEt(ns:List Int):∃(n nd:Nat)(c:Nat->Str)(t:Nat->List (List Int))(m:Nat->Nat)(ld:Nat->Nat->Int)(st:Nat->Int),n<=12/\nd<=3/\Seats n nd cnm dnm c t m ld st/\
 QbW [.lst (ns.map D.int),.int 2,.int 12]=.ok (.lst [offD n nd cnm dnm c t m ld st,rl n (fun k=>tbD (t k)),rl n (fun k=>rl (m k) (fun j=>.int (ld k j))),.int (nd:Int)]):=by
 obtain⟨v,hv⟩:=QGj ns 0
 have hmx:=Qsn v (k:=0) (by decide) (by decide)
 obtain⟨s0,s1⟩:=QrN v 0
 generalize hseed:mixV v 0=seed at *
 obtain⟨cs,c1,c7,hcells⟩:=QEJ (ns:=ns) (seed:=seed) (a3:=[none,none,none,none,none,none,none,none,none,none,none,none,none,none])
 obtain⟨nd,hnd⟩:∃ nd:Nat,1+seed % 3=(nd:Int):=⟨(1+seed % 3).toNat,by omega⟩
 have d1:1<=nd:=by omega
 have d3:nd<=3:=by omega
 have p3:dMod (.int seed) (.int 3)=.ok (.int (seed % 3)):=Q5 (by decide)
 have dv3:dFdiv (.int seed) (.int 3)=.ok (.int (seed / 3)):=Qcq (by decide) (by decide)
 have p4:dMod (.int (seed / 3)) (.int 4)=.ok (.int (seed / 3 % 4)):=Q5 (by decide)
 obtain⟨T,T1,T10,hT⟩:∃ T:Int,1<=T/\T<=10/\dIx (.lst [.int 2,.int 3,.int 4,.int 10]) (.int (seed / 3 % 4))=.ok (.int T):=by
  have h:seed / 3 % 4=0∨seed / 3 % 4=1∨seed / 3 % 4=2∨seed / 3 % 4=3:=by omega
  rcases h with h | h | h | h<;>rw[h]
  ·exact⟨2,by decide,by decide,ixL 0 rfl⟩
  ·exact⟨3,by decide,by decide,ixL 1 rfl⟩
  ·exact⟨4,by decide,by decide,ixL 2 rfl⟩
  ·exact⟨10,by decide,by decide,ixL 3 rfl⟩
 generalize hn:cs.length=n at *
 let N:Nat->Int:=fun k=>mixV (cs.getD k 0) ((k:Int)+2)
 have H:∀ k:Nat,∃ x:Str×List (List Int)×Nat,CK.contains x.1=true/\Tb x.2.1 x.2.2/\QaA [.int (N k),.int T]=.ok (.lst [ck x.1 x.2.1 x.2.2,tbD x.2.1]):=fun k=>by
  obtain⟨b0,b1⟩:=QrN (cs.getD k 0) ((k:Int)+2)
  obtain⟨c,t,m,h1,h2,h3⟩:=QDY (N:=N k) (T:=T) b0 (Int.lt_trans b1 (by decide)) T1 T10
  exact⟨(c,t,m),h1,h2,h3⟩
 obtain⟨X,hX⟩:=Classical.axiomOfChoice H
 let src:Nat->Nat:=fun k=>if 0<k/\(k:Int)=(n:Int) - 1/\seed / 96 % 3=0 then 0 else k
 let c:Nat->Str:=fun k=>(X (src k)).1
 let t:Nat->List (List Int):=fun k=>(X (src k)).2.1
 let m:Nat->Nat:=fun k=>(X (src k)).2.2
 let ld:Nat->Nat->Int:=fun k j=>ldV seed n nd (N k) j
 let st:Nat->Int:=fun k=>N k / 11 % ((t k).length:Int)
 have sts:Seats n nd cnm dnm c t m ld st:=⟨by omega,by omega,d1,by omega,fun k _=>(hX (src k)).1,fun k _=>(hX (src k)).2.1,fun k j _ _=>QHx (by omega) d1 (N k) j,fun k _=>by
  have h1:1<=(t k).length:=(hX (src k)).2.1.n1
  exact⟨Int.emod_nonneg _ (by show((t k).length:Int)≠0;omega),Int.emod_lt_of_pos _ (by show 0<((t k).length:Int);omega)⟩,fun k h=>cisn (by omega),fun d h=>disn (by omega),fun i j hi hj e=>QFV (by omega) (by omega) e,fun i j hi hj e=>QGu (by omega) (by omega) e,fun i d hi hd=>QHt (by omega) (by omega)⟩
 refine⟨n,nd,c,t,m,ld,st,by omega,d3,sts,?_⟩
 have hck:∀ k,QaA [.int (N k),.int T]=.ok (.lst [ck (X k).1 (X k).2.1 (X k).2.2,tbD (X k).2.1]):=fun k=>(hX k).2.2
 have hsN:∀ k:Nat,¬ (0<k/\(k:Int)=(n:Int) - 1/\seed / 96 % 3=0)->c k=(X k).1/\t k=(X k).2.1/\m k=(X k).2.2:=fun k h=>by
  have e:src k=k:=if_neg h
  show(X (src k)).1=_/\(X (src k)).2.1=_/\(X (src k)).2.2=_
  rw[e];exact⟨rfl,rfl,rfl⟩
 have hsY:∀ k:Nat,(0<k/\(k:Int)=(n:Int) - 1/\seed / 96 % 3=0)->c k=c 0/\t k=t 0/\m k=m 0:=fun k h=>by
  have e:src k=0:=if_pos h
  have e0:src 0=0:=if_neg fun z=>Nat.lt_irrefl 0 z.1
  show(X (src k)).1=(X (src 0)).1/\(X (src k)).2.1=(X (src 0)).2.1/\(X (src k)).2.2=(X (src 0)).2.2
  rw[e,e0];exact⟨rfl,rfl,rfl⟩
 have d96:dFdiv (.int seed) (.int 96)=.ok (.int (seed / 96)):=Qcq (by decide) (by decide)
 have p96:dMod (.int (seed / 96)) (.int 3)=.ok (.int (seed / 96 % 3)):=Q5 (by decide)
 have mk:=QCi sts
 have hldv:∀ k j,ld k j=ldV seed n nd (N k) j:=fun _ _=>rfl
 have hst:∀ k,st k=N k / 11 % ((t k).length:Int):=fun _=>rfl
 have hNb:∀ k,0<=N k/\N k<2147483648:=fun k=>by
  obtain⟨b0,b1⟩:=QrN (cs.getD k 0) ((k:Int)+2)
  exact⟨b0,Int.lt_trans b1 (by decide)⟩
 have hNm:∀ k:Nat,k<n->QaC [.int (cs.getD k 0),.int ((k:Int)+2)]=.ok (.int (N k)):=fun k hk=>Qsn _ (by omega) (by omega)
 clear_value N c t m ld st src
 have hcl:cs.map D.int=(List.range n).map fun k=>D.int (cs.getD k 0):=QDx hn
 rw[hcl]at hcells
 have hcx:∀ k:Nat,k<n->dIx (rl n (fun k=>.int (cs.getD k 0))) (.int (k:Int))=.ok (.int (cs.getD k 0)):=fun k hk=>ixR hk
 have hlc:=lenR n (fun k=>D.int (cs.getD k 0))
 have hld:=lenR nd (fun d=>D.str (dnm d))
 have hev:=QE0 (nd:=nd) (n:=n) (by omega) (by omega)
 generalize hS:D.lst (ns.map D.int)=S at *
 have hcells:e2 dCat (eSl (eVar 0) (oSome (eVar 1)) (oSome (e2 dAdd (eVar 1) (eVar 2)))) (e2 dRep (eLst (aCons (eVar 3) aNil)) (eA (f1 dInt) (aCons (e2 dLe (eA fLen (aCons (eVar 0) aNil)) (eVar 1)) aNil))) [some (.k,S),some (.k,.int 2),some (.k,.int 12),some (.k,.int seed),none,none,none,none,none,none,none,none,none,none,none,none,none,none]=.ok (rl n (fun k=>.int (cs.getD k 0))):=hcells
 generalize hC:rl n (fun k=>D.int (cs.getD k 0))=Ce at *
 obtain⟨ς',hL,a10,a11,a12,a13,a14,a15,a16,a17,rfl⟩:=Qgp (body:=fun x ς=>gN 10 x ς>>=fun ς'=>QdN ς') (n:=n)
  (P:=fun k ς=>∃ a10 a11 a12 a13 a14 a15 a16 a17,ς=[some (.k,S),some (.k,.int 2),some (.k,.int 12),some (.k,.int seed),some (.k,Ce),some (.k,rl nd (fun d=>.str (dnm d))),some (.k,rl (nd+n) (fun i=>.str (evN nd i))),some (.o,rl k (seatD cnm dnm c t m ld st)),some (.o,rl k (fun k=>tbD (t k))),some (.o,rl k (fun k=>rl (m k) (fun j=>.int (ld k j)))),a10,a11,a12,a13,a14,a15,a16,a17])
  (by
   rintro k hk ς ⟨a10,a11,a12,a13,a14,a15,a16,a17,rfl⟩
   have tb:=sts.tb k hk
   have tn1:=tb.n1
   have m6:=tb.m6
   obtain⟨r0,hr0,hrl⟩:∃ r0,(t k)[0]?=some r0/\r0.length=m k:=by
    have h0:0<(t k).length:=by omega
    exact⟨(t k)[0],List.getElem?_eq_getElem h0,tb.row _ (List.getElem_mem h0)⟩
   have hx0:dIx (tbD (t k)) (.int 0)=.ok (dl r0):=ixL 0 (by rw[List.getElem?_map,hr0];rfl)
   have hl0:fLen [dl r0]=.ok (.int (m k:Int)):=by rw[← hrl];simp[fLen,dl]
   have hlt:fLen [tbD (t k)]=.ok (.int ((t k).length:Int)):=by simp[fLen,tbD]
   have hcxk:=hcx k hk
   have hmk:=hNm k hk
   have hckk:=hck k
   obtain⟨N0,N1⟩:=hNb k
   generalize hE:rl (nd+n) (fun i=>D.str (evN nd i))=Ev at *
   generalize hDo:rl nd (fun d=>D.str (dnm d))=Do at *
   have hex:dIx Ev (.int ((nd:Int)+(k:Int)))=.ok (.str (cnm k)):=by
    subst hE
    rw[show(nd:Int)+(k:Int)=((nd+k:Nat):Int) by omega,ixR (by omega)]
    unfold evN
    rw[if_neg (by omega),show nd+k - nd=k by omega]
   generalize hA7:rl k (seatD cnm dnm c t m ld st)=A7
   generalize hA8:rl k (fun k=>tbD (t k))=A8
   generalize hA9:rl k (fun k=>rl (m k) (fun j=>D.int (ld k j)))=A9
   have s11:sSet 11 (eA (fun xs=>QaC (xs++[])) (aCons (e2 dIx (eVar 4) (eVar 10)) (aCons (e2 dAdd (eVar 10) (eC (.int 2))) aNil))) [some (.k,S),some (.k,.int 2),some (.k,.int 12),some (.k,.int seed),some (.k,Ce),some (.k,Do),some (.k,Ev),some (.o,A7),some (.o,A8),some (.o,A9),some (.k,.int (k:Int)),a11,a12,a13,a14,a15,a16,a17]=.ok (.nx [some (.k,S),some (.k,.int 2),some (.k,.int 12),some (.k,.int seed),some (.k,Ce),some (.k,Do),some (.k,Ev),some (.o,A7),some (.o,A8),some (.o,A9),some (.k,.int (k:Int)),some (.k,.int (N k)),a12,a13,a14,a15,a16,a17]):=by (repeat walk_at "e")
   have s12:sUnpL [12,13] (eA (fun xs=>QaA (xs++[])) (aCons (eVar 11) (aCons (e2 dIx (eLst (aCons (eC (.int 2)) (aCons (eC (.int 3)) (aCons (eC (.int 4)) (aCons (eC (.int 10)) aNil))))) (e2 dMod (e2 dFdiv (eVar 3) (eC (.int 3))) (eC (.int 4)))) aNil))) [some (.k,S),some (.k,.int 2),some (.k,.int 12),some (.k,.int seed),some (.k,Ce),some (.k,Do),some (.k,Ev),some (.o,A7),some (.o,A8),some (.o,A9),some (.k,.int (k:Int)),some (.k,.int (N k)),a12,a13,a14,a15,a16,a17]=.ok (.nx [some (.k,S),some (.k,.int 2),some (.k,.int 12),some (.k,.int seed),some (.k,Ce),some (.k,Do),some (.k,Ev),some (.o,A7),some (.o,A8),some (.o,A9),some (.k,.int (k:Int)),some (.k,.int (N k)),some (.k,ck (X k).1 (X k).2.1 (X k).2.2),some (.k,tbD (X k).2.1),a14,a15,a16,a17]):=by
    have hh:eA (fun xs=>QaA (xs++[])) (aCons (eVar 11) (aCons (e2 dIx (eLst (aCons (eC (.int 2)) (aCons (eC (.int 3)) (aCons (eC (.int 4)) (aCons (eC (.int 10)) aNil))))) (e2 dMod (e2 dFdiv (eVar 3) (eC (.int 3))) (eC (.int 4)))) aNil)) [some (.k,S),some (.k,.int 2),some (.k,.int 12),some (.k,.int seed),some (.k,Ce),some (.k,Do),some (.k,Ev),some (.o,A7),some (.o,A8),some (.o,A9),some (.k,.int (k:Int)),some (.k,.int (N k)),a12,a13,a14,a15,a16,a17]=.ok (.lst [ck (X k).1 (X k).2.1 (X k).2.2,tbD (X k).2.1]):=by (repeat walk_at "e")
    unfold sUnpL
    rw[hh]
    rfl
   have hlc':fLen [Ce]=.ok (.int (n:Int)):=hlc
   have tst:(tAnd' (tVal (e2 dGt (eVar 10) (eC (.int 0)))) (tAnd' (tVal (e2 dEq (eVar 10) (e2 dSub (eA fLen (aCons (eVar 4) aNil)) (eC (.int 1))))) (tVal (e2 dEq (e2 dMod (e2 dFdiv (eVar 3) (eC (.int 96))) (eC (.int 3))) (eC (.int 0)))))) [some (.k,S),some (.k,.int 2),some (.k,.int 12),some (.k,.int seed),some (.k,Ce),some (.k,Do),some (.k,Ev),some (.o,A7),some (.o,A8),some (.o,A9),some (.k,.int (k:Int)),some (.k,.int (N k)),some (.k,ck (X k).1 (X k).2.1 (X k).2.2),some (.k,tbD (X k).2.1),a14,a15,a16,a17]=.ok (decide (0<(k:Int))&&(decide ((k:Int)=(n:Int) - 1)&&decide (seed / 96 % 3=0))):=by
    refine Qs4 (Qbf (r_e2 (r_var rfl) r_C (Qay _ _))) ?_
    by_cases h0:0<(k:Int)
    ·rw[decide_eq_true h0,Bool.true_and]
     refine QgY rfl (Qs4 (Qbf (r_e2 (r_var rfl) (r_e2 (r_eA (Ql (r_var rfl) r_nil) hlc') r_C (Qak _ _)) (Qaf _ _))) ?_)
     by_cases h1:(k:Int)=(n:Int) - 1
     ·rw[decide_eq_true h1,Bool.true_and]
      exact QgY rfl (Qbf (r_e2 (r_e2 (r_e2 (r_var rfl) r_C d96) r_C p96) r_C (Qaf _ _)))
     ·rw[decide_eq_false h1,Bool.false_and];rfl
    ·rw[decide_eq_false h0,Bool.false_and];rfl
   have s13:sIf (tAnd' (tVal (e2 dGt (eVar 10) (eC (.int 0)))) (tAnd' (tVal (e2 dEq (eVar 10) (e2 dSub (eA fLen (aCons (eVar 4) aNil)) (eC (.int 1))))) (tVal (e2 dEq (e2 dMod (e2 dFdiv (eVar 3) (eC (.int 96))) (eC (.int 3))) (eC (.int 0)))))) (sSeq (sSet 12 (e2 dIx (eIxO 7 (eC (.int 0))) (eC (.int 1)))) (sSet 13 (eIxO 8 (eC (.int 0))))) sNil [some (.k,S),some (.k,.int 2),some (.k,.int 12),some (.k,.int seed),some (.k,Ce),some (.k,Do),some (.k,Ev),some (.o,A7),some (.o,A8),some (.o,A9),some (.k,.int (k:Int)),some (.k,.int (N k)),some (.k,ck (X k).1 (X k).2.1 (X k).2.2),some (.k,tbD (X k).2.1),a14,a15,a16,a17]=.ok (.nx [some (.k,S),some (.k,.int 2),some (.k,.int 12),some (.k,.int seed),some (.k,Ce),some (.k,Do),some (.k,Ev),some (.o,A7),some (.o,A8),some (.o,A9),some (.k,.int (k:Int)),some (.k,.int (N k)),some (.k,ck (c k) (t k) (m k)),some (.k,tbD (t k)),a14,a15,a16,a17]):=by
    by_cases hf:0<k/\(k:Int)=(n:Int) - 1/\seed / 96 % 3=0
    ·obtain⟨e1',e2',e3'⟩:=hsY k hf
     rw[decide_eq_true (show 0<(k:Int) by omega),decide_eq_true hf.2.1,decide_eq_true hf.2.2]at tst
     refine r_ifT tst rfl ?_
     have i7:∀ ς:SD,ς[7]?=some (some (.o,A7))->eIxO 7 (eC (.int 0)) ς=.ok (seatD cnm dnm c t m ld st 0):=fun ς h=>r_ixO (k:=0) (by rw[h, ← hA7]) r_C (at_ok (i:=0) (by rw[List.getElem?_map,List.getElem?_range hf.1];rfl))
     have i8:∀ ς:SD,ς[8]?=some (some (.o,A8))->eIxO 8 (eC (.int 0)) ς=.ok (tbD (t 0)):=fun ς h=>r_ixO (k:=0) (by rw[h, ← hA8]) r_C (at_ok (i:=0) (by rw[List.getElem?_map,List.getElem?_range hf.1];rfl))
     have ix1:dIx (seatD cnm dnm c t m ld st 0) (.int 1)=.ok (ck (c 0) (t 0) (m 0)):=ix_t 1 rfl
     rw[e1',e2',e3']
     exact r_seq (r_set (r_e2 (i7 _ rfl) r_C ix1) (by walk_at "s")) (Qx (r_set (i8 _ rfl) (by walk_at "s")))
    ·obtain⟨e1',e2',e3'⟩:=hsN k hf
     have hb:(decide (0<(k:Int))&&(decide ((k:Int)=(n:Int) - 1)&&decide (seed / 96 % 3=0)))=false:=by
      rw[Bool.eq_false_iff]
      intro z
      rw[Bool.and_eq_true,Bool.and_eq_true,decide_eq_true_eq,decide_eq_true_eq,decide_eq_true_eq]at z
      exact hf ⟨by omega,z.2.1,z.2.2⟩
     rw[hb]at tst
     refine r_ifF tst rfl ?_
     rw[e1',e2',e3']
     exact QcB
   obtain⟨b15,b16,hLL⟩:=QzT (a0:=some (.k,S)) (a1:=some (.k,.int 2)) (a2:=some (.k,.int 12)) (a6:=some (.k,Ev)) (a7:=some (.o,A7)) (a8:=some (.o,A8)) (a9:=some (.o,A9)) (a10:=some (.k,.int (k:Int))) (a12:=some (.k,ck (c k) (t k) (m k))) (a13:=some (.k,tbD (t k))) (a15:=a15) (a16:=a16) (a17:=a17) (seed:=seed) (N:=N k) (n:=n) (nd:=nd) (m:=m k) (fc:=fun k=>D.int (cs.getD k 0)) (fd:=fun d=>D.str (dnm d)) (by omega) d1 (by omega) N0 N1
   rw[hC,hDo]at hLL
   have hldf:rl (m k) (fun j=>D.int (ldV seed n nd (N k) j))=rl (m k) (fun j=>D.int (ld k j)):=Qhq fun j _=>by rw[hldv]
   rw[hldf]at hLL
   have hrm:eA fLen (aCons (e2 dIx (eVar 13) (eC (.int 0))) aNil) [some (.k,S),some (.k,.int 2),some (.k,.int 12),some (.k,.int seed),some (.k,Ce),some (.k,Do),some (.k,Ev),some (.o,A7),some (.o,A8),some (.o,A9),some (.k,.int (k:Int)),some (.k,.int (N k)),some (.k,ck (c k) (t k) (m k)),some (.k,tbD (t k)),some (.o,.lst []),a15,a16,a17]=.ok (.int (m k:Int)):=by (repeat walk_at "e")
   have hfor:=QbG (g:=gN 15) (T:=QcC) (Qcg (m k) hrm (by omega)) hLL
   have hcm:eComp [none,some 6,some 5] (itLB (eVarB 14)) (gN 0) cTrue Qfe [some (.k,S),some (.k,.int 2),some (.k,.int 12),some (.k,.int seed),some (.k,Ce),some (.k,Do),some (.k,Ev),some (.o,A7),some (.o,A8),some (.o,A9),some (.k,.int (k:Int)),some (.k,.int (N k)),some (.k,ck (c k) (t k) (m k)),some (.k,tbD (t k)),some (.o,rl (m k) (fun j=>.int (ld k j))),b15,b16,a17]=.ok (rl (m k) (fun j=>.str (nml cnm dnm (ld k j)))):=by
    refine QW (fun j=>D.int (ld k j)) (fun j=>D.str (nml cnm dnm (ld k j))) ?_ (fun j hj=>?_) (by rw[List.length_range];omega)
    ·unfold itLB
     rw[QiQ rfl,Out.bind_ok]
     show(if _=true then Out.ok _ else .stuck)=_
     rw[if_pos (allR fun i _=>rfl)]
    ·obtain⟨r1,r2⟩:=sts.ldr k j hk (List.mem_range.mp hj)
     have hp:Qbp [.int (ld k j),Do]=.ok (.int (pos nd (ld k j))):=by rw[← hDo];exact QEB
     have hx:dIx Ev (.int (pos nd (ld k j)))=.ok (.str (nml cnm dnm (ld k j))):=by rw[← hE];exact QH4 r1 r2
     refine QZ (by walk_at "cap") (by walk_at "s") ?_
     unfold Qfe
     (repeat walk_at "e")
   have d11:dFdiv (.int (N k)) (.int 11)=.ok (.int (N k / 11)):=Qcq (by decide) (by decide)
   have pst:dMod (.int (N k / 11)) (.int ((t k).length:Int))=.ok (.int (st k)):=by rw[Q5 (by omega),hst]
   have e7:A7=.lst ((List.range k).map (seatD cnm dnm c t m ld st)):=hA7.symm
   have e8:A8=.lst ((List.range k).map fun k=>tbD (t k)):=hA8.symm
   have e9:A9=.lst ((List.range k).map fun k=>rl (m k) (fun j=>D.int (ld k j))):=hA9.symm
   have x7:(List.range k).map (seatD cnm dnm c t m ld st)++[.tup [.str (cnm k),ck (c k) (t k) (m k),rl (m k) (fun j=>.str (nml cnm dnm (ld k j))),.int (st k)]]=(List.range (k+1)).map (seatD cnm dnm c t m ld st):=by
    rw[List.range_succ,List.map_append];rfl
   have x8:((List.range k).map fun k=>tbD (t k))++[tbD (t k)]=(List.range (k+1)).map fun k=>tbD (t k):=by
    rw[List.range_succ,List.map_append];rfl
   have x9:((List.range k).map fun k=>rl (m k) (fun j=>D.int (ld k j)))++[rl (m k) (fun j=>D.int (ld k j))]=(List.range (k+1)).map fun k=>rl (m k) (fun j=>D.int (ld k j)):=by
    rw[List.range_succ,List.map_append];rfl
   have l7:((List.range k).map (seatD cnm dnm c t m ld st)).length<=1000:=by rw[List.length_map,List.length_range];omega
   have l8:((List.range k).map fun k=>tbD (t k)).length<=1000:=by rw[List.length_map,List.length_range];omega
   have l9:((List.range k).map fun k=>rl (m k) (fun j=>D.int (ld k j))).length<=1000:=by rw[List.length_map,List.length_range];omega
   have y7:Qa1 7 (eTup (aCons (e2 dIx (eVar 6) (e2 dAdd (eA fLen (aCons (eVar 5) aNil)) (eVar 10))) (aCons (eVar 12) (aCons (eVar 17) (aCons (e2 dMod (e2 dFdiv (eVar 11) (eC (.int 11))) (eA fLen (aCons (eVar 13) aNil))) aNil))))) [some (.k,S),some (.k,.int 2),some (.k,.int 12),some (.k,.int seed),some (.k,Ce),some (.k,Do),some (.k,Ev),some (.o,A7),some (.o,A8),some (.o,A9),some (.k,.int (k:Int)),some (.k,.int (N k)),some (.k,ck (c k) (t k) (m k)),some (.k,tbD (t k)),some (.o,rl (m k) (fun j=>.int (ld k j))),b15,b16,some (.k,rl (m k) (fun j=>.str (nml cnm dnm (ld k j))))]=.ok (.nx [some (.k,S),some (.k,.int 2),some (.k,.int 12),some (.k,.int seed),some (.k,Ce),some (.k,Do),some (.k,Ev),some (.o,rl (k+1) (seatD cnm dnm c t m ld st)),some (.o,A8),some (.o,A9),some (.k,.int (k:Int)),some (.k,.int (N k)),some (.k,ck (c k) (t k) (m k)),some (.k,tbD (t k)),some (.o,rl (m k) (fun j=>.int (ld k j))),b15,b16,some (.k,rl (m k) (fun j=>.str (nml cnm dnm (ld k j))))]):=by
    rw[e7]
    refine r_app (d:=.tup [.str (cnm k),ck (c k) (t k) (m k),rl (m k) (fun j=>.str (nml cnm dnm (ld k j))),.int (st k)]) rfl (by (repeat walk_at "e")) l7 ?_
    rw[x7]
    walk_at "s"
   refine⟨[some (.k,S),some (.k,.int 2),some (.k,.int 12),some (.k,.int seed),some (.k,Ce),some (.k,Do),some (.k,Ev),some (.o,rl (k+1) (seatD cnm dnm c t m ld st)),some (.o,rl (k+1) (fun k=>tbD (t k))),some (.o,rl (k+1) (fun k=>rl (m k) (fun j=>.int (ld k j)))),some (.k,.int (k:Int)),some (.k,.int (N k)),some (.k,ck (c k) (t k) (m k)),some (.k,tbD (t k)),some (.k,rl (m k) (fun j=>.int (ld k j))),b15,b16,some (.k,rl (m k) (fun j=>.str (nml cnm dnm (ld k j))))],?_,_,_,_,_,_,_,_,_,rfl⟩
   refine r_gN (by walk_at "s") ?_
   unfold QdN
   refine r_seq s11 (Qx (r_seq s12 (Qx (r_seq s13 (Qx (r_seq (QdE (d:=.lst []) rfl (by walk_at "s")) (Qx (r_seq hfor (Qx (r_seq (r_set hcm (by walk_at "s")) (Qx (r_seq y7 (Qx ?_)))))))))))))
   refine r_seq (fl:=.nx [some (.k,S),some (.k,.int 2),some (.k,.int 12),some (.k,.int seed),some (.k,Ce),some (.k,Do),some (.k,Ev),some (.o,rl (k+1) (seatD cnm dnm c t m ld st)),some (.o,rl (k+1) (fun k=>tbD (t k))),some (.o,A9),some (.k,.int (k:Int)),some (.k,.int (N k)),some (.k,ck (c k) (t k) (m k)),some (.k,tbD (t k)),some (.o,rl (m k) (fun j=>.int (ld k j))),b15,b16,some (.k,rl (m k) (fun j=>.str (nml cnm dnm (ld k j))))]) ?_ (Qx ?_)
   ·rw[e8]
    refine r_app rfl (r_var rfl) l8 ?_
    rw[x8]
    walk_at "s"
   ·refine Qvw (T:=Qa1 9 (eVar 14)) (QsJ (d:=rl (m k) (fun j=>.int (ld k j))) rfl (by walk_at "s")) ?_
    rw[e9]
    refine r_app rfl (r_var rfl) l9 ?_
    rw[x9]
    walk_at "s")
  [some (.k,S),some (.k,.int 2),some (.k,.int 12),some (.k,.int seed),some (.k,Ce),some (.k,rl nd (fun d=>.str (dnm d))),some (.k,rl (nd+n) (fun i=>.str (evN nd i))),some (.o,.lst []),some (.o,.lst []),some (.o,.lst []),none,none,none,none,none,none,none,none] ⟨_,_,_,_,_,_,_,_,rfl⟩
 have hR:itR1 (eA fLen (aCons (eVar 4) aNil)) [some (.k,S),some (.k,.int 2),some (.k,.int 12),some (.k,.int seed),some (.k,Ce),some (.k,rl nd (fun d=>.str (dnm d))),some (.k,rl (nd+n) (fun i=>.str (evN nd i))),some (.o,.lst []),some (.o,.lst []),some (.o,.lst []),none,none,none,none,none,none,none,none]=.ok (Qa6 0 n):=Qcg n (by (repeat walk_at "e")) (by omega)
 have hfor:=QbG (g:=gN 10) (T:=QdN) hR hL
 have s3:sSet 3 (eA (fun xs=>QaC (xs++[])) (aCons (eA (fun xs=>Qbj (xs++[])) (aCons (eVar 0) (aCons (eC (.int 0)) aNil))) (aCons (eC (.int 0)) aNil))) [some (.k,S),some (.k,.int 2),some (.k,.int 12),none,none,none,none,none,none,none,none,none,none,none,none,none,none,none]=.ok (.nx [some (.k,S),some (.k,.int 2),some (.k,.int 12),some (.k,.int seed),none,none,none,none,none,none,none,none,none,none,none,none,none,none]):=by
  have hv:Qbj [S,.int 0]=.ok (.int v):=hv
  (repeat walk_at "e")
 have s5:sSet 5 (eSl (eLst (aCons (eC (.str "x")) (aCons (eC (.str "y")) (aCons (eC (.str "z")) aNil)))) oNo (oSome (e2 dAdd (eC (.int 1)) (e2 dMod (eVar 3) (eC (.int 3)))))) [some (.k,S),some (.k,.int 2),some (.k,.int 12),some (.k,.int seed),some (.k,Ce),none,none,none,none,none,none,none,none,none,none,none,none,none]=.ok (.nx [some (.k,S),some (.k,.int 2),some (.k,.int 12),some (.k,.int seed),some (.k,Ce),some (.k,rl nd (fun d=>.str (dnm d))),none,none,none,none,none,none,none,none,none,none,none,none]):=by
  refine r_set (r_sl (xs:=[.str "x",.str "y",.str "z"]) (p:=none) (q:=some (nd:Int)) rfl rfl ?_ (QDs d1 d3)) (by walk_at "s")
  rw[← hnd]
  exact QjX (r_e2 r_C (r_e2 (r_var rfl) r_C p3) (Q7 _ _))
 have hcomp:eComp [none] (itR1 (eA fLen (aCons (eVar 4) aNil))) (gN 0) cTrue Qfb [some (.k,S),some (.k,.int 2),some (.k,.int 12),some (.k,.int seed),some (.k,Ce),some (.k,rl nd (fun d=>.str (dnm d))),none,none,none,none,none,none,none,none,none,none,none,none]=.ok (rl n (fun k=>.str (cnm k))):=by
  refine QW (fun k:Nat=>D.int ((0:Int)+k)) (fun k=>D.str (cnm k)) (Qcg n (by (repeat walk_at "e")) (by omega)) (fun k hk=>?_) (by rw[List.length_range];omega)
  have hk:=List.mem_range.mp hk
  have:=QHf (k:=k) (by omega)
  refine QZ (by walk_at "cap") (by walk_at "s") ?_
  rw[Int.zero_add]
  unfold Qfb
  (repeat walk_at "e")
 have mk':QaY "Office" [] [rl n (seatD cnm dnm c t m ld st),.lst [.tup [.str "in",.str "a"]],rl nd (fun d=>.str (dnm d))]=.ok (offF n nd cnm dnm c t m ld st):=mk
 rw[Qws]
 unfold QeJ
 refine QcI (r_seq s3 (Qx (r_seq (r_set hcells (by walk_at "s")) (Qx (r_seq s5 (Qx (r_seq (r_set (r_e2 (r_var rfl) hcomp hev) (by walk_at "s")) (Qx (r_seq (QdE (d:=.lst []) rfl (by walk_at "s")) (Qx (r_seq (QdE (d:=.lst []) rfl (by walk_at "s")) (Qx (r_seq (QdE (d:=.lst []) rfl (by walk_at "s")) (Qx (r_seq hfor (Qx ?_)))))))))))))))) r_rtT
 have hz:frzs [7,8,9] [some (.k,S),some (.k,.int 2),some (.k,.int 12),some (.k,.int seed),some (.k,Ce),some (.k,rl nd (fun d=>.str (dnm d))),some (.k,rl (nd+n) (fun i=>.str (evN nd i))),some (.o,rl n (seatD cnm dnm c t m ld st)),some (.o,rl n (fun k=>tbD (t k))),some (.o,rl n (fun k=>rl (m k) (fun j=>.int (ld k j)))),a10,a11,a12,a13,a14,a15,a16,a17]=[some (.k,S),some (.k,.int 2),some (.k,.int 12),some (.k,.int seed),some (.k,Ce),some (.k,rl nd (fun d=>.str (dnm d))),some (.k,rl (nd+n) (fun i=>.str (evN nd i))),some (.k,rl n (seatD cnm dnm c t m ld st)),some (.k,rl n (fun k=>tbD (t k))),some (.k,rl n (fun k=>rl (m k) (fun j=>.int (ld k j)))),a10,a11,a12,a13,a14,a15,a16,a17]:=rfl
 show(sRetF _ (frzs [7,8,9] _))=_
 rw[hz]
 refine QfN (r_lst (Ql (Qg3 (Ql (r_var rfl) (Ql (r_lst (Ql (r_tup (Ql r_C (Ql r_C r_nil)) (show 2<=1000 by decide)) r_nil) (show 1<=1000 by decide)) (Ql (r_var rfl) r_nil))) mk') (Ql (r_var rfl) (Ql (r_var rfl) (Ql (r_eA (Ql (r_var rfl) r_nil) hld) r_nil)))) (show 4<=1000 by decide))
theorem QhK(i:Int):Qbl [.int i]=.ok (.bl true):=by
 simp[Qbl,Qgk,bodyF,retF,sSeq,thenF,sSet,sRet,sIf,sNil,eVar,eC,e1,e2,eA,f1,aNil,aCons,tVal,tAnd',tOr',tNot',eAnd,eOr,eNot,eIf,eTup,eLst,eIsa,isaT,Q9,oNo,oSome,sPar,sUnp,QV,gN,gT,fLen,Q0,Out.bind_ok,Out.bind_exc,Out.bind_stuck,Out.pure_eq,D.scal,Q7,Qak,Qan,Qaq,QaT,Qat,Qay,QaU,Qaf,Qal,List.length_cons,List.length_nil,List.map_cons,List.map_nil,List.cons_append,List.nil_append,List.append_nil,List.getElem?_cons_zero,List.getElem?_cons_succ,List.set_cons_zero,List.set_cons_succ,List.replicate,Nat.reduceAdd,Nat.reduceSub,Nat.reduceLeDiff,Nat.zero_add,Nat.add_zero,reduceIte,Bool.not_true,Bool.not_false,Bool.true_and,Bool.and_true,Bool.false_and,Bool.and_false,Bool.or_true,Bool.true_or,Bool.or_false,Bool.false_or,Bool.false_eq_true,decide_true,decide_false,decide_eq_true_eq,Bool.not_eq_true',decide_eq_false_iff_not,Int.reduceEq,Int.reduceLT,Int.reduceLE,Int.reduceNeg,Nat.reduceEqDiff, ↓reduceIte,not_true_eq_false,not_false_eq_true]
theorem QGB{p:Int×Int}(l:low p.1 p.2):QaZ [fr p]=.ok (.bl true):=by
 have hi:isaT "tuple" (fr p)=.ok true:=by simp[isaT,Q9,fr]
 have hl:fLen [fr p]=.ok (.int 2):=by simp[fLen,fr]
 have hne:dNe (.int 2) (.int 2)=.ok (.bl false):=by rw[Qal];rfl
 have x0:=fr0 p
 have x1:=fr1 p
 have w0:=QhK p.1
 have w1:=QhK p.2
 have p1:=l.1
 have hd:=ld_ok (a:=(p.1.natAbs:Int)) (b:=p.2) (by omega) (by omega)
 have hg:((p.1.natAbs:Int)).gcd p.2=1:=by
  show Nat.gcd ((p.1.natAbs:Int)).natAbs p.2.natAbs=1
  rw[Int.natAbs_natCast];exact l.2
 rw[hg]at hd
 have hab:f1 dAbs [.int p.1]=.ok (.int (p.1.natAbs:Int)):=Qaq _
 have h1:dEq (.int ((1:Nat):Int)) (.int 1)=.ok (.bl true):=by rw[Qaf];rfl
 have hgt:dGt (.int p.2) (.int 0)=.ok (.bl true):=by rw[Qay,decide_eq_true (by omega)]
 generalize fr p=F at *
 rw[Qoc]
 unfold Qdd
 refine QcI (fl:=.rt false (.bl true)) (r_seq (r_ifF (r_or' (b:=false) (Qea (b:=true) (Qbf (r_isa (r_var rfl) hi))) (Qeb rfl (r_or' (Qbf (r_e2 (r_eA (Ql (r_var rfl) r_nil) hl) r_C hne)) (Qeb rfl (r_or' (b:=false) (Qea (b:=true) (Qbf (Qbh (xs:=[.int p.1]) (Ql (r_e2 (r_var rfl) r_C x0) r_nil) rfl w0))) (Qeb rfl (Qea (b:=true) (Qbf (Qbh (xs:=[.int p.2]) (Ql (r_e2 (r_var rfl) r_C x1) r_nil) rfl w1))))))))) rfl QcB) (Qx (r_ret ?_))) r_rt
 exact Qs9 (r_e2 (r_e2 (r_var rfl) r_C x1) r_C hgt) (QgY rfl (r_e2 (Qbh (xs:=[.int (p.1.natAbs:Int),.int p.2]) (Ql (r_eA (Ql (r_e2 (r_var rfl) r_C x0) r_nil) hab) (Ql (r_e2 (r_var rfl) r_C x1) r_nil)) rfl hd) r_C h1))
theorem QHK{lo N M:Nat}(h:lo+N<=M)(f:Nat->D):cutD ((List.range M).map f) (some (lo:Int)) (some ((lo+N:Nat):Int))=(List.range N).map fun i=>f (lo+i):=by
 rw[QC5,show lo+N - lo=N by omega]
 apply List.ext_getElem?
 intro i
 by_cases hi:i<N
 ·rw[List.getElem?_take_of_lt hi,List.getElem?_drop,List.getElem?_map,List.getElem?_map,List.getElem?_range hi,List.getElem?_range (by omega)];rfl
 ·rw[List.getElem?_eq_none (by rw[List.length_take];omega),List.getElem?_eq_none (by rw[List.length_map,List.length_range];omega)]
theorem QCV{n:Nat}(f g:Nat->D){A B:SD->Out D}{ς:SD}(ha:A ς=.ok (rl n f))(hb:B ς=.ok (rl n g)):itZ A B ς=.ok ((List.range n).map fun i=>D.tup [f i,g i]):=by
 unfold itZ
 rw[ha,Out.bind_ok,hb,Out.bind_ok]
 show Out.ok (List.zipWith _ ((List.range n).map _) ((List.range n).map _))=_
 rw[List.zipWith_map,List.zipWith_self]
theorem QzA{n N M lo:Nat}(n2:n<=100)(N2:N<=100)(hM:lo+N<=M){p q:Nat->Nat->Int×Int}(hp:∀ k i,k<n->i<N->low (p k i).1 (p k i).2/\bitsI (p k i).1<=48/\bitsI (p k i).2<=48/\bitsI (q k (lo+i)).1<=48/\bitsI (q k (lo+i)).2<=48/\(p k i).1 * (q k (lo+i)).2=(q k (lo+i)).1 * (p k i).2):
 Qa5 [rl n (fun k=>rl N (fun i=>fr (p k i))),rl n (fun k=>rl M (fun i=>fr (q k i))),.int (lo:Int),.int ((lo+N:Nat):Int)]=.ok (.bl true):=by
 have hl1:=lenR n (fun k=>rl N (fun i=>fr (p k i)))
 have hl2:=lenR n (fun k=>rl M (fun i=>fr (q k i)))
 have hi1:isaT "list" (rl n (fun k=>rl N (fun i=>fr (p k i))))=.ok true:=rfl
 have hne:∀ z:Int,dNe (.int z) (.int z)=.ok (.bl false):=fun z=>by rw[Qal,decide_eq_true rfl];rfl
 have zz:∀ ς:SD,ς[0]?=some (some (.k,rl n (fun k=>rl N (fun i=>fr (p k i)))))->ς[1]?=some (some (.k,rl n (fun k=>rl M (fun i=>fr (q k i)))))->itZ (eVar 0) (eVar 1) ς=.ok ((List.range n).map fun k=>D.tup [rl N (fun i=>fr (p k i)),rl M (fun i=>fr (q k i))]):=fun ς h0 h1=>QCV (fun k=>rl N (fun i=>fr (p k i))) (fun k=>rl M (fun i=>fr (q k i))) (r_var h0) (r_var h1)
 generalize rl n (fun k=>rl N (fun i=>fr (p k i)))=FF at *
 generalize rl n (fun k=>rl M (fun i=>fr (q k i)))=QQ at *
 obtain⟨ς',hL,a4,a5,a6,a7,rfl⟩:=Qc6 (body:=fun x ς=>gT [4,5] x ς>>=fun ς'=>Qd4 ς') (f:=fun k=>D.tup [rl N (fun i=>fr (p k i)),rl M (fun i=>fr (q k i))]) (n:=n)
  (P:=fun _ ς=>∃ a4 a5 a6 a7,ς=[some (.k,FF),some (.k,QQ),some (.k,.int (lo:Int)),some (.k,.int ((lo+N:Nat):Int)),a4,a5,a6,a7])
  (by
   rintro k hk ς ⟨a4,a5,a6,a7,rfl⟩
   have hlr:=lenR N (fun i=>fr (p k i))
   have hir:isaT "list" (rl N (fun i=>fr (p k i)))=.ok true:=rfl
   have hsl:∀ ς:SD,ς[5]?=some (some (.k,rl M (fun i=>fr (q k i))))->ς[2]?=some (some (.k,.int (lo:Int)))->ς[3]?=some (some (.k,.int ((lo+N:Nat):Int)))->eSl (eVar 5) (oSome (eVar 2)) (oSome (eVar 3)) ς=.ok (rl N (fun i=>fr (q k (lo+i)))):=fun ς h5 h2 h3=>r_sl (r_var h5) (QjX (r_var h2)) (QjX (r_var h3)) (QHK hM (fun i=>fr (q k i)))
   have zi:∀ ς:SD,ς[4]?=some (some (.k,rl N (fun i=>fr (p k i))))->ς[5]?=some (some (.k,rl M (fun i=>fr (q k i))))->ς[2]?=some (some (.k,.int (lo:Int)))->ς[3]?=some (some (.k,.int ((lo+N:Nat):Int)))->itZ (eVar 4) (eSl (eVar 5) (oSome (eVar 2)) (oSome (eVar 3))) ς=.ok ((List.range N).map fun i=>D.tup [fr (p k i),fr (q k (lo+i))]):=fun ς h4 h5 h2 h3=>QCV (fun i=>fr (p k i)) (fun i=>fr (q k (lo+i))) (r_var h4) (hsl ς h5 h2 h3)
   generalize rl N (fun i=>fr (p k i))=RR at *
   generalize rl M (fun i=>fr (q k i))=SS at *
   obtain⟨ς',hL,b6,b7,rfl⟩:=Qc6 (body:=fun x ς=>gT [6,7] x ς>>=fun ς'=>Qel ς') (f:=fun i=>D.tup [fr (p k i),fr (q k (lo+i))]) (n:=N)
    (P:=fun _ ς=>∃ a6 a7,ς=[some (.k,FF),some (.k,QQ),some (.k,.int (lo:Int)),some (.k,.int ((lo+N:Nat):Int)),some (.k,RR),some (.k,SS),a6,a7])
    (by
     rintro i hi ς ⟨a6,a7,rfl⟩
     obtain⟨lw,b1,b2,b3,b4,ew⟩:=hp k i hk hi
     have hf:=QGB lw
     have x0:=fr0 (p k i)
     have x1:=fr1 (p k i)
     have y0:=fr0 (q k (lo+i))
     have y1:=fr1 (q k (lo+i))
     have m1:dMul (.int (p k i).1) (.int (q k (lo+i)).2)=.ok (.int ((p k i).1 * (q k (lo+i)).2)):=r_mul b1 b4 rfl
     have m2:dMul (.int (q k (lo+i)).1) (.int (p k i).2)=.ok (.int ((p k i).1 * (q k (lo+i)).2)):=by rw[ew];exact r_mul b3 b2 rfl
     have hn:=hne ((p k i).1 * (q k (lo+i)).2)
     generalize fr (p k i)=U at *
     generalize fr (q k (lo+i))=Vv at *
     refine⟨[some (.k,FF),some (.k,QQ),some (.k,.int (lo:Int)),some (.k,.int ((lo+N:Nat):Int)),some (.k,RR),some (.k,SS),some (.k,U),some (.k,Vv)],?_,_,_,rfl⟩
     refine r_gT (by walk_at "all") ?_
     unfold Qel
     exact r_ifF (r_or' (b:=false) (Qea (b:=true) (Qbf (Qbh (xs:=[U]) (Ql (r_var rfl) r_nil) rfl hf))) (Qeb rfl (Qbf (r_e2 (r_e2 (r_e2 (r_var rfl) r_C x0) (r_e2 (r_var rfl) r_C y1) m1) (r_e2 (r_e2 (r_var rfl) r_C y0) (r_e2 (r_var rfl) r_C x1) m2) hn)))) rfl QcB)
    [some (.k,FF),some (.k,QQ),some (.k,.int (lo:Int)),some (.k,.int ((lo+N:Nat):Int)),some (.k,RR),some (.k,SS),a6,a7] ⟨a6,a7,rfl⟩
   have hfor:=QbG (g:=gT [6,7]) (T:=Qel) (zi _ rfl rfl rfl rfl) hL
   have hsub:dSub (.int ((lo+N:Nat):Int)) (.int (lo:Int))=.ok (.int (N:Int)):=by rw[Qak,show((lo+N:Nat):Int) - (lo:Int)=(N:Int) by omega]
   refine⟨[some (.k,FF),some (.k,QQ),some (.k,.int (lo:Int)),some (.k,.int ((lo+N:Nat):Int)),some (.k,RR),some (.k,SS),b6,b7],?_,_,_,_,_,rfl⟩
   refine r_gT (by walk_at "all") ?_
   unfold Qd4
   refine r_seq (r_ifF (r_or' (b:=false) (Qea (b:=true) (Qbf (r_isa (r_var rfl) hir))) (Qeb rfl (Qbf (r_e2 (r_eA (Ql (r_var rfl) r_nil) hlr) (r_e2 (r_var rfl) (r_var rfl) hsub) (hne _))))) rfl QcB) (Qx hfor))
  [some (.k,FF),some (.k,QQ),some (.k,.int (lo:Int)),some (.k,.int ((lo+N:Nat):Int)),none,none,none,none] ⟨none,none,none,none,rfl⟩
 have hfor:=QbG (g:=gT [4,5]) (T:=Qd4) (zz _ rfl rfl) hL
 rw[QBp]
 unfold Qfm
 exact QcI (fl:=.rt false (.bl true)) (r_seq (r_ifF (r_or' (b:=false) (Qea (b:=true) (Qbf (r_isa (r_var rfl) hi1))) (Qeb rfl (Qbf (r_e2 (r_eA (Ql (r_var rfl) r_nil) hl1) (r_eA (Ql (r_var rfl) r_nil) hl2) (hne _))))) rfl QcB) (Qx (r_seq hfor (Qx (r_ret r_C))))) r_rt
theorem QEg{i j r:Nat}{m m':List D->Out D}{A A':SD->Out (List D)}{TC:SD->Out Bool}{R U:SD->Out Fl}{ς ς1 ς2 ς3:SD}{ds ds':List D}{xss yss:List (List D)}{rf:Out Fl}(a:A ς=.ok ds)(h:m ds=.ok (.lst (xss.map D.lst)))(e1':ς.set i none=ς1)(a':A' ς1=.ok ds')(h':m' ds'=.ok (.lst (yss.map D.lst)))
 (hc:(Qa8 xss&&Qa8 yss&&decide (i<ς.length)&&decide (j<ς.length)&&decide (r<ς.length)&&decide (xss.length+yss.length<=100000))=true) (e2':(ς.set i (some (.k,.lst (xss.map D.lst)))).set j (some (.k,.lst (yss.map D.lst)))=ς2) (t:TC ς2=.ok false) (e3':((ς.set i none).set j none).set r none=ς3) (u:U ς3=rf):Qg8 i j r m m' A A' TC R U ς=rf:=by
 unfold Qg8
 rw[a,Out.bind_ok,h,Out.bind_ok,e1',a',Out.bind_ok,h',Out.bind_ok]
 show(match lstsD (xss.map D.lst),lstsD (yss.map D.lst) with
  | some xss',some yss'=>if (Qa8 xss'&&Qa8 yss'&&decide (i<ς.length)&&decide (j<ς.length)&&decide (r<ς.length)&&decide (xss'.length+yss'.length<=100000))=true then
   TC ((ς.set i (some (.k,.lst (xss.map D.lst)))).set j (some (.k,.lst (yss.map D.lst))))>>=fun b=>if b=true then R ((ς.set i (some (.k,.lst (xss.map D.lst)))).set j (some (.k,.lst (yss.map D.lst))))>>=onlyR else U ((ς1.set j none).set r none) else Out.stuck
  | _,_=>Out.stuck)=rf
 rw[QeO,QeO]
 show(if (Qa8 xss&&Qa8 yss&&decide (i<ς.length)&&decide (j<ς.length)&&decide (r<ς.length)&&decide (xss.length+yss.length<=100000))=true then _ else _)=rf
 rw[if_pos hc,e2',t,Out.bind_ok,if_neg (by decide), ← e1',e3']
 exact u
theorem Qza(n N:Nat)(f:Nat->Nat->D):rl n (fun k=>rl N (f k))=.lst (((List.range n).map fun k=>(List.range N).map (f k)).map D.lst):=by
 show D.lst _=_
 rw[List.map_map];rfl
theorem Qtn(n:Nat){N:Nat}(h:N<100000)(f:Nat->Nat->D):Qa8 ((List.range n).map fun k=>(List.range N).map (f k))=true:=by
 unfold Qa8
 rw[List.all_eq_true]
 intro x hx
 obtain⟨k,_,rfl⟩:=List.mem_map.mp hx
 rw[List.length_map,List.length_range]
 exact decide_eq_true h
theorem the_law(ns:List Int)(hl:ns.length<=63)(hb:∀ z∈ns,bitsI z<=1048576):Qf6 [.lst (ns.map .int)]=.ok (.bl true):=by
 obtain⟨n,nd,c,t,m,ld,st,n12,d3,hs,hdr⟩:=QEt ns
 have htb:=QE5 hs (O:=offD n nd cnm dnm c t m ld st)
 have hsh:=QGA hs
 have hds:=QHy hs
 have hlt:=lenR n (fun k=>rl (nd+n) (fun i=>fr (tcn nd t m ld k i)))
 have bl:∀ k,k<n->bitsI ((t k).length:Int)<=48:=fun k hk=>by
  have:=(hs.tb k hk).n2
  exact Qa9 (by omega)
 have pb:∀(k:Nat)(x:Int),k<n->low (shx t m ld k x).1 (shx t m ld k x).2/\bitsI (shx t m ld k x).1<=48/\bitsI (shx t m ld k x).2<=48:=fun k x hk=>by
  have tn1:=(hs.tb k hk).n1
  refine⟨QGU (by omega),?_,?_⟩
  ·show bitsI ((dkt (m k) (ld k) (cs (t k) (t k).length) x).fdiv _)<=48
   exact Qa9 (Nat.lt_of_le_of_lt (Int.natAbs_fdiv_le_natAbs _ _) (QzD (dk_sm hs hk x)))
  ·show bitsI (((t k).length:Int).fdiv _)<=48
   exact Qa9 (Nat.lt_of_le_of_lt (Int.natAbs_fdiv_le_natAbs _ _) (QzD (bl k hk)))
 have s1:=QzA (n:=n) (N:=n) (M:=nd+n) (lo:=nd) (by omega) (by omega) (Nat.le_refl _) (p:=fun k i=>shx t m ld k (0+(i:Int))) (q:=fun k i=>tcn nd t m ld k i) (fun k i hk hi=>by
  have e:=tcn_c hs (i:=i) hk
  have tn1:=(hs.tb k hk).n1
  obtain⟨q1,q2,q3⟩:=pb k (0+(i:Int)) hk
  refine⟨q1,q2,q3,?_,?_,?_⟩
  ·show bitsI (tcn nd t m ld k (nd+i)).1<=48
   rw[e];exact dk_sm hs hk _
  ·show bitsI (tcn nd t m ld k (nd+i)).2<=48
   rw[e];exact bl k hk
  ·show _ * (tcn nd t m ld k (nd+i)).2=(tcn nd t m ld k (nd+i)).1 * _
   rw[e];exact QuF (by omega))
 have s2:=QzA (n:=n) (N:=nd) (M:=nd+n) (lo:=0) (by omega) (by omega) (by omega) (p:=fun k i=>shx t m ld k (-1 - (i:Int))) (q:=fun k i=>tcn nd t m ld k i) (fun k i hk hi=>by
  have e:=tcn_d hs (i:=i) hk hi
  have tn1:=(hs.tb k hk).n1
  obtain⟨q1,q2,q3⟩:=pb k (-1 - (i:Int)) hk
  rw[Nat.zero_add]
  refine⟨q1,q2,q3,?_,?_,?_⟩
  ·show bitsI (tcn nd t m ld k i).1<=48
   rw[e];exact dk_sm hs hk _
  ·show bitsI (tcn nd t m ld k i).2<=48
   rw[e];exact bl k hk
  ·show _ * (tcn nd t m ld k i).2=(tcn nd t m ld k i).1 * _
   rw[e];exact QuF (by omega))
 have e1':((nd+n:Nat):Int)=(nd:Int)+(n:Int):=by omega
 have e2':((0+nd:Nat):Int)=(nd:Int):=by omega
 have e3':((0:Nat):Int)=0:=rfl
 rw[e1']at s1
 rw[e2',e3']at s2
 have i0:dIx (.lst [offD n nd cnm dnm c t m ld st,rl n (fun k=>tbD (t k)),rl n (fun k=>rl (m k) (fun j=>.int (ld k j))),.int (nd:Int)]) (.int 0)=.ok (offD n nd cnm dnm c t m ld st):=ixL 0 rfl
 have i3:dIx (.lst [offD n nd cnm dnm c t m ld st,rl n (fun k=>tbD (t k)),rl n (fun k=>rl (m k) (fun j=>.int (ld k j))),.int (nd:Int)]) (.int 3)=.ok (.int (nd:Int)):=ixL 3 rfl
 have z1:=Qtn n (N:=n) (by omega) (fun k i=>fr (shx t m ld k (0+(i:Int))))
 have z2:=Qtn n (N:=nd) (by omega) (fun k i=>fr (shx t m ld k (-1 - (i:Int))))
 have hsh':=hsh
 have hds':=hds
 have l1:=Qza n n (fun k i=>fr (shx t m ld k (0+(i:Int))))
 have l2:=Qza n nd (fun k i=>fr (shx t m ld k (-1 - (i:Int))))
 have hz1:((List.range n).map fun k=>(List.range n).map (fun i:Nat=>fr (shx t m ld k (0+(i:Int))))).length=n:=by rw[List.length_map,List.length_range]
 have hz2:((List.range n).map fun k=>(List.range nd).map (fun i:Nat=>fr (shx t m ld k (-1 - (i:Int))))).length=n:=by rw[List.length_map,List.length_range]
 rw[l1]at hsh' s1
 rw[l2]at hds' s2
 generalize (List.range n).map (fun k=>(List.range n).map (fun i:Nat=>fr (shx t m ld k (0+(i:Int)))))=XS at *
 generalize (List.range n).map (fun k=>(List.range nd).map (fun i:Nat=>fr (shx t m ld k (-1 - (i:Int)))))=YS at *
 generalize offD n nd cnm dnm c t m ld st=O at *
 generalize rl n (fun k=>rl (nd+n) (fun i=>fr (tcn nd t m ld k i)))=Tb' at *
 generalize D.lst [O,rl n (fun k=>tbD (t k)),rl n (fun k=>rl (m k) (fun j=>.int (ld k j))),.int (nd:Int)]=Dr at *
 generalize D.lst (ns.map D.int)=S at *
 rw[QH6]
 unfold QrH
 refine QcI (fl:=.rt false (.bl true)) ?_ r_rt
 refine r_seq (r_set (Qbh (xs:=[S,.int 2,.int 12]) (Ql (r_var rfl) (Ql r_C (Ql r_C r_nil))) rfl hdr) (by walk_at "s")) (Qx ?_)
 refine r_seq (r_set (r_e2 (r_var rfl) r_C i0) (by walk_at "s")) (Qx ?_)
 refine r_seq (r_set (r_e2 (r_var rfl) r_C i3) (by walk_at "s")) (Qx ?_)
 refine r_seq (r_set (Qbh (xs:=[Dr]) (Ql (r_var rfl) r_nil) rfl htb) (by walk_at "s")) (Qx ?_)
 refine r_seq (r_set (r_e2 (r_var rfl) (r_eA (Ql (r_var rfl) r_nil) hlt) (Q7 _ _)) (by walk_at "s")) (Qx ?_)
 refine QEg (ds:=[O]) (ds':=[O]) (xss:=XS) (yss:=YS) (Ql (r_var rfl) r_nil) hsh' rfl (Ql (r_var rfl) r_nil) hds' ?_ rfl ?_ rfl ?_
 ·rw[z1,z2,hz1,hz2]
  show(decide (6<9)&&decide (7<9)&&decide (8<9)&&decide (n+n<=100000))=true
  rw[decide_eq_true (show n+n<=100000 by omega)];rfl
 ·exact r_or' (b:=false) (Qea (b:=true) (Qbf (Qbh (xs:=[.lst (XS.map D.lst),Tb',.int (nd:Int),.int ((nd:Int)+(n:Int))]) (Ql (r_var rfl) (Ql (r_var rfl) (Ql (r_var rfl) (Ql (r_var rfl) r_nil)))) rfl s1))) (Qeb rfl (Qea (b:=true) (Qbf (Qbh (xs:=[.lst (YS.map D.lst),Tb',.int 0,.int (nd:Int)]) (Ql (r_var rfl) (Ql (r_var rfl) (Ql r_C (Ql (r_var rfl) r_nil)))) rfl s2))))
 ·refine r_ret ?_
  exact Qs9 (Qbh (xs:=[.lst (XS.map D.lst),Tb',.int (nd:Int),.int ((nd:Int)+(n:Int))]) (Ql (Qbh (xs:=[O]) (Ql (r_var rfl) r_nil) rfl hsh') (Ql (r_var rfl) (Ql (r_var rfl) (Ql (r_var rfl) r_nil)))) rfl s1) (QgY rfl (Qbh (xs:=[.lst (YS.map D.lst),Tb',.int 0,.int (nd:Int)]) (Ql (Qbh (xs:=[O]) (Ql (r_var rfl) r_nil) rfl hds') (Ql (r_var rfl) (Ql r_C (Ql (r_var rfl) r_nil)))) rfl s2))
end My
namespace My
open PySem PySem.Spec L2 DL
set_option hygiene false
local macro_rules
 | `("L"^$f $a $b $x $y $s $d $c $e $g $h $i $j $z) => `(K.lookup $f=some ⟨$a,$b,.func (W.fnOf $x $y (Qq $s) (Qm $s) (Qb $s) $d $c $e $g $h $i $j),$z⟩)
 | `("N"^$x $s) => `(W.nsIn K mainGlobals $s=some (some (.ref $x)))
 | `("Z"^$s) => `(W.nsIn K mainGlobals $s=some none)
 | `("K"^$x) => `(W.keepIn K (.ref $x)=true)
 | `("C"^$x $s) => `(W.codeIn K $x $s=true)
 | `("I"^$x) => `(W.isFn K (.ref $x)=true)
 | `("V"^$x $s) => `(W.findIn K (.ref $x) $s=some none)
 | `("G"^$x $s $y) => `(W.findIn K (.ref $x) $s=some (some (.ref $y)))
 | `("T"^$x $y $b) => `(W.kitOne K (.ref $x) (.ref $y)=some $b)
 | `("D"^$a $b $c $d) => `(⟨_,_,_,_,$a,W.mg_of X G $b,$c,$d,.nil⟩)
 | `("F"^$k $l $b $q) => `(FnOk l.prog w K mg base CX0 $k _ _ $l (SpD K (ctOf K) $b $q))
 | `("E"^$q $s $k $b) => `(DefOk l.prog w K mg base (ctOf K) $s $k $b [] $q)
 | `("A"^$x) => `(W.mg_of X G $x)
 | `("R"^$a $b $c) => `(by rw[$a:term]at hA;cases hA;exact⟨$b,$c⟩)
local macro_rules
 | `(tactic|walk_at "h0") => `(tactic|((have hm:c∈Qj := by simpa using hc);simp only[Qj,List.mem_cons,List.not_mem_nil,or_false]at hm))
 | `(tactic|walk_at "h1") => `(tactic|((have hm:c∈Qd := by simpa using hc);simp only[Qd,List.mem_cons,List.not_mem_nil,or_false]at hm))
 | `(tactic|walk_at "h2") => `(tactic|((have hm:c∈Qn := by simpa using hc);simp only[Qn,List.mem_cons,List.not_mem_nil,or_false]at hm))
set_option hygiene true
theorem all_mk{l:W.OpenLaw}{w:World}{K:W.Frag}{h:Heap}{mg:Str->Option Value}{fa:Addr}(X:K.In h)(G:h.Ns mainGlobals mg)(hfa:mg "law"=some (.ref fa))
 {QH Qs QI QF QE QU Qdv QdD QcJ QdA Qam Qaa QcE Qck Qai Qcj QcD Qch Qgt Qhx QiT Qet QhA Qgo Qlg QhB QfH Qgq Qgh Qjv QfM Qjo Qgi Qgm QhF Qiw Qgs Qhs Qe8 Qhw Qgg Qgx QgA QfG Qc9 QoK QnH Qgr Qgf Qe1 Qgy Qe9 Qer Qhi QzM:Addr} {Qt5 QrM QwW Qwa QBv QA0 QmT QmQ QiS QjL QyH QwY Qse QvB QDG QCS Qw1 Qyo QsQ Qtc Qqf QqM QuG QuJ QnN Qoj QuH Qr0 Qvs Qu5 QuQ QtV QAE QAu QpT Qq1 Qz6 QAq Qva QtP Qss Qvn QyM Qxh Qqn Qra QlO QmG QBw QAy QvE QtA QyU QwJ Qpb Qnq Qyr Qxf Qm0 Qo2 Qt7 Quy Quz Qve Qt1 QrL QlZ Qly Qne Qpa Qlk Qmq QpM Qq5 Qiq Qil QEE QrO QB7 Qto Qua Qoi Qoz Qsv Qsi Qml Qlm Qo8 Qo3 Qt0 Qur QoW Qns QlC QlD Qwm QwA QGS QCG:Option Addr} {Qup Qxu QA6 Ql4 QiV Qwu Qvc QDc Qxd Qr8 Qrk Qvf Qof Quw Qta Qr6 QzV Qp6 QAg Qsb Qt9 Qyn QqP Qlo QBF QuX QwZ Qn7 Qy7 QoD QtB Quu QuD QmF QnG Qln Qrb Qis QEU QDz Qvj Qoy Qtf QlB QoF Qtd Qo4 QlM QwE QHB:Array (Option Value)} {QsD Qug QtW Qun Qit Qte Qwy QxW QwU Qys Qkw Qyt QAV QBG QBb QBj QmB QzS QmP QlH Ql1 QlP Qf9 Qmf Qi1 QiB Qi3 QiF QeQ Qi7 QxM QwP QxA QwN QkN Qwb Qtu Qtv QtK Qr7 Qjn QvC QDg QBQ QDK QCk QpL QBY QyK Qwg Qwi QyJ Qkq Qyq QrY QuO Qvp QsT Qjp QsM Qp4 Qrq QqF QrE QhT Qq2 Qs8 Qvo Qt3 QsI QiX Qtk QnB Qpe QnJ Qnf QgS Qnn QtC QsZ QsX QsN Qi4 Qu3 Qsr QsA Qvg Qsa Qjs Qts QtY Qvq QsB Qsq QjE QrQ QAh QBq QBa Qz0 QlQ QAF QqC Qrh QqZ Qqu QhS Qq0 QAR QAI Qz2 QA7 Qls QAT QuZ QtH Qvv QuY Qi6 Qtg QsO Qtz Que Qvz QjH Qul Qxo Qy2 QvT Qx4 Qkh QyY Qqc Qrx Qqq QrD Qh7 Qq9 Qme Qmr Qmk Ql2 QfY QmL QAl QAJ QzR QA5 Qlz QAG Qtq QtN Qu6 Qvu QiA QsC Qv0 Qyd QwB Qwo QkO Qwd Qn3 QnK QnY Qnv Qg5 QoZ Qx1 QwM Qxt Qy4 Qkf QvN QoU QnP Qob QnL QgM QmW QuV Qs0 Qsu QuR QiC QuA QvF QrI QrV QrX Qi2 Qsl QvD Qr1 QtE Qs5 Qjz QuL QlK Qlx QlN Qlj QfP Qlu Qm4 Qpi Qn4 QoM Qhe Qpg Qlp Qlr QlU QlW QfV QlY Qrt Qq4 Qqo QpN Qh0 QpV Qim Qip Qij Qik Qep Qii QEK Qub Qst Qvk Qk4 QtU QDC Qs6 Qsg Qs2 Qr3 QiN QsP Qnw Qm1 Qno Qni Qhd QoE Qu7 QsL Qvt Quj QiR Qvy QlJ Qmt Ql8 QmO Qgd QlI Qm8 Qnh Qoo QnT Qg9 QoJ Qsd Qtr Qvl QtZ QjC QuB Qnm QnE Qnk QnI Qg2 Qph Qmd Qlq Ql5 QlX QfU QmS QyG QwD Qx8 QyI Qkz QxQ QGT QCb QDF QBU Qu1 QCa:Value} {QEd vi vj vk ve vo vc v8 vf:Tok} {QEQ:Nat}
 (QCN:"N"^QH "Deal")
 (QGl:W.plainGet K QH Str.empty=true)
 (QFH:W.hasDictIn K QH=true)
 (QFo:W.plainOver K QH=true)
 (QFs:W.findIn K (.ref QH) "__setattr__"=some (some (.builtin "object.__setattr__")))
 (Qqb:"V"^QH "table")
 (QqD:"V"^QH "heads")
 (Qio:"V"^QH "clerk_names")
 (Qjy:"V"^QH "door_names")
 (Qhz:"V"^QH "entry_places")
 (Qrs:"V"^QH "staff")
 (Qhl:"V"^QH "first_states")
 (Qsh:"V"^QH "ways")
 (QtF:"N"^Qs "Bundle")
 (QCe:W.plainGet K Qs Str.empty=true)
 (QDE:W.hasDictIn K Qs=true)
 (QCT:W.plainOver K Qs=true)
 (QBI:W.findIn K (.ref Qs) "__setattr__"=some (some (.builtin "object.__setattr__")))
 (QlF:"V"^Qs "table")
 (QmR:"V"^Qs "heads")
 (Qhg:"V"^Qs "clerk_names")
 (Qhp:"V"^Qs "door_names")
 (QgB:"V"^Qs "entry_places")
 (QlL:"V"^Qs "staff")
 (Qgz:"V"^Qs "first_states")
 (Qm7:"V"^Qs "ways")
 (QB1:"N"^QI "Copy")
 (QGx:W.plainGet K QI Str.empty=true)
 (QF8:W.hasDictIn K QI=true)
 (QGs:W.plainOver K QI=true)
 (QFi:W.findIn K (.ref QI) "__setattr__"=some (some (.builtin "object.__setattr__")))
 (Qrr:"V"^QI "table")
 (Qrw:"V"^QI "heads")
 (Qir:"V"^QI "clerk_names")
 (Qjf:"V"^QI "door_names")
 (Qhj:"V"^QI "entry_places")
 (Qq6:"V"^QI "staff")
 (Qhy:"V"^QI "first_states")
 (Qt2:"V"^QI "ways")
 (QB8:"N"^QF "Rows")
 (QF4:W.plainGet K QF Str.empty=true)
 (QGn:W.hasDictIn K QF=true)
 (QFx:W.plainOver K QF=true)
 (QFL:W.findIn K (.ref QF) "__setattr__"=some (some (.builtin "object.__setattr__")))
 (QqG:"V"^QF "table")
 (Qqs:"V"^QF "heads")
 (Qin:"V"^QF "clerk_names")
 (Qji:"V"^QF "door_names")
 (Qhn:"V"^QF "entry_places")
 (QqR:"V"^QF "staff")
 (QhD:"V"^QF "first_states")
 (Qsx:"V"^QF "ways")
 (QrZ:"N"^QE "Office")
 (QCd:W.plainGet K QE Str.empty=true)
 (QDq:W.hasDictIn K QE=true)
 (QCj:W.plainOver K QE=true)
 (QDu:W.findIn K (.ref QE) "__setattr__"=some (some (.builtin "object.__setattr__")))
 (Qmm:"V"^QE "table")
 (QlV:"V"^QE "heads")
 (QgF:"V"^QE "clerk_names")
 (Qhv:"V"^QE "door_names")
 (Qgu:"V"^QE "entry_places")
 (Qms:"V"^QE "staff")
 (Qgv:"V"^QE "first_states")
 (Qm5:"V"^QE "ways")
 (QwS:"G"^QH "outs" Qam)
 (Qqe:"G"^Qs "outs" Qam)
 (Qv2:"G"^QI "outs" Qam)
 (Qw6:"G"^QF "outs" Qam)
 (Qp3:"G"^QH "period" Qaa)
 (Qll:"G"^Qs "period" Qaa)
 (Qqd:"G"^QI "period" Qaa)
 (QpQ:"G"^QF "period" Qaa)
 (QoH:"G"^QE "leads" Qck)
 (QsG:"G"^QH "whole" Qai)
 (QnA:"G"^Qs "whole" Qai)
 (Quq:"G"^QI "whole" Qai)
 (Qtl:"G"^QF "whole" Qai)
 (Qn0:"G"^QE "clerk" Qcj)
 (Qqy:"G"^QE "many" QcD)
 (QoQ:"G"^QE "doors" Qch)
 (Qk3:"G"^QH "keep_rows" QU)
 (Qiv:"G"^Qs "keep_rows" QU)
 (QkU:"G"^QI "keep_rows" QU)
 (Qk7:"G"^QF "keep_rows" QU)
 (Qxs:"G"^QH "__init__" QdD)
 (Qp1:"G"^Qs "__init__" QcJ)
 (QyO:"G"^QI "__init__" QdA)
 (Qxg:"G"^QF "__init__" Qdv)
 (QqA:"G"^QE "__init__" QcE)
 (QEH:W.makesIn K QH=true)
 (QEs:"K"^QH)
 (Qz1:W.makesIn K Qs=true)
 (QAA:"K"^Qs)
 (QEr:W.makesIn K QI=true)
 (QD6:"K"^QI)
 (QEC:W.makesIn K QF=true)
 (QEz:"K"^QF)
 (QzX:W.makesIn K QE=true)
 (QAa:"K"^QE)
 (y1:W.specialIn K (.builtin "object.__class__") "__get__"=some (some (.builtin "getset_descriptor.__get__")))
 (y2:W.takesIn K (.builtin "object.__class__")=some true)
 (QFS:W.findIn K (.ref QH) "__class__"=some (some (.builtin "object.__class__")))
 (QFB:W.mroIn K QH (.type "object")=some true)
 (QDr:W.findIn K (.ref Qs) "__class__"=some (some (.builtin "object.__class__")))
 (QDM:W.mroIn K Qs (.type "object")=some true)
 (QFn:W.findIn K (.ref QI) "__class__"=some (some (.builtin "object.__class__")))
 (QFX:W.mroIn K QI (.type "object")=some true)
 (QFl:W.findIn K (.ref QF) "__class__"=some (some (.builtin "object.__class__")))
 (QFk:W.mroIn K QF (.type "object")=some true)
 (QC0:W.findIn K (.ref QE) "__class__"=some (some (.builtin "object.__class__")))
 (QCf:W.mroIn K QE (.type "object")=some true)
 (QvS:"N"^Qgt "_law_mixed")
 (QvR:"L"^Qgt QsD Qt5 "_law_mixed" "_law_mixed" QcU .none Qug QtW Qun QrM Qit Qte Qup)
 (Qyu:"C"^Qit "_law_mixed")
 (QkA:"K"^Qgt)
 (QAZ:"N"^Qhx "_law_cell")
 (QAm:"L"^Qhx Qwy QwW "_law_cell" "_law_cell" Qdp .none QxW QwU Qys Qwa Qkw Qyt Qxu)
 (QAd:"C"^Qkw "_law_cell")
 (QmM:"K"^Qhx)
 (QBK:"N"^QiT "sums_of")
 (QC4:"L"^QiT QAV QBv "sums_of" "sums_of" QcZ .none QBG QBb QBj QA0 QmB QzS QA6)
 (QDj:"C"^QmB "sums_of")
 (Qpq:"K"^QiT)
 (Qoh:"N"^Qet "running_sums")
 (QoG:"L"^Qet QmP QmT "running_sums" "running_sums" Qa0 .none QlH Ql1 QlP QmQ Qf9 Qmf Ql4)
 (QmZ:"C"^Qf9 "running_sums")
 (QgR:"K"^Qet)
 (Qce:"I"^QU)
 (Qj7:"L"^QU Qi1 QiS "keep_rows" "Clerk.keep_rows" Qav .none QiB Qi3 QiF QjL QeQ Qi7 QiV)
 (Qj5:"C"^QeQ "Clerk.keep_rows")
 (Qbg:"K"^QU)
 (QAU:"N"^QhA "is_whole")
 (QAN:"L"^QhA QxM QyH "is_whole" "is_whole" Qdq .none QwP QxA QwN QwY QkN Qwb Qwu)
 (QBr:"C"^QkN "is_whole")
 (Qmj:"K"^QhA)
 (QvL:"N"^Qgo "is_within")
 (Qv5:"L"^Qgo Qtu Qse "is_within" "is_within" QcP .none Qtv QtK Qr7 QvB Qjn QvC Qvc)
 (Qwf:"C"^Qjn "is_within")
 (Qka:"K"^Qgo)
 (QEu:"N"^Qlg "is_row")
 (QEl:"L"^Qlg QDg QDG "is_row" "is_row" QdX .none QBQ QDK QCk QCS QpL QBY QDc)
 (QEG:"C"^QpL "is_row")
 (QuP:"K"^Qlg)
 (QzW:"N"^QhB "is_table")
 (QBy:"L"^QhB QyK Qw1 "is_table" "is_table" QbQ .none Qwg Qwi QyJ Qyo Qkq Qyq Qxd)
 (QBu:"C"^Qkq "is_table")
 (Qmw:"K"^QhB)
 (Qyw:"I"^Qdv)
 (QxC:"L"^Qdv QrY QsQ "__init__" "Rows.__init__" QcT .none QuO Qvp QsT Qtc Qjp QsM Qr8)
 (QxG:"C"^Qjp "Rows.__init__")
 (Qy8:"K"^Qdv)
 (Qtp:"N"^QfH "single_row")
 (QuE:"L"^QfH Qp4 Qqf "single_row" "single_row" QbC .none Qrq QqF QrE QqM QhT Qq2 Qrk)
 (Qvi:"C"^QhT "single_row")
 (QiU:"K"^QfH)
 (QxU:"I"^QdD)
 (Qxn:"L"^QdD Qs8 QuG "__init__" "Deal.__init__" Qb8 .none Qvo Qt3 QsI QuJ QiX Qtk Qvf)
 (QwV:"C"^QiX "Deal.__init__")
 (Qxy:"K"^QdD)
 (QqB:"I"^QcJ)
 (QqE:"L"^QcJ QnB QnN "__init__" "Bundle.__init__" Qbe .none Qpe QnJ Qnf Qoj QgS Qnn Qof)
 (Qqi:"C"^QgS "Bundle.__init__")
 (Qp8:"K"^QcJ)
 (QvU:"I"^QdA)
 (Qy6:"L"^QdA QtC QuH "__init__" "Copy.__init__" QcN .none QsZ QsX QsN Qr0 Qi4 Qu3 Quw)
 (Qyx:"C"^Qi4 "Copy.__init__")
 (QyB:"K"^QdA)
 (Qwe:"N"^Qgq "_law_clerk")
 (QwQ:"L"^Qgq Qsr Qvs "_law_clerk" "_law_clerk" Qaz .none QsA Qvg Qsa Qu5 Qjs Qts Qta)
 (QvZ:"C"^Qjs "_law_clerk")
 (Qkl:"K"^Qgq)
 (QvP:"N"^Qgh "places_of")
 (Qw8:"L"^Qgh QtY QuQ "places_of" "places_of" QcO .none Qvq QsB Qsq QtV QjE QrQ Qr6)
 (Qwj:"C"^QjE "places_of")
 (QkL:"K"^Qgh)
 (QB6:"N"^Qjv "is_list")
 (QCs:"L"^Qjv QAh QAE "is_list" "is_list" Qd2 .none QBq QBa Qz0 QAu QlQ QAF QzV)
 (QB0:"C"^QlQ "is_list")
 (Qpo:"K"^Qjv)
 (QuS:"N"^QfM "all_unlike")
 (QuN:"L"^QfM QqC QpT "all_unlike" "all_unlike" Qcl .none Qrh QqZ Qqu Qq1 QhS Qq0 Qp6)
 (Qr9:"C"^QhS "all_unlike")
 (Qjx:"K"^QfM)
 (QB9:"N"^Qjo "is_name")
 (QDh:"L"^Qjo QAR Qz6 "is_name" "is_name" Qc2 .none QAI Qz2 QA7 QAq Qls QAT QAg)
 (QCZ:"C"^Qls "is_name")
 (Qpn:"K"^Qjo)
 (QwF:"N"^Qgi "are_names")
 (Qxw:"L"^Qgi QuZ Qva "are_names" "are_names" Qb5 .none QtH Qvv QuY QtP Qi6 Qtg Qsb)
 (Qyf:"C"^Qi6 "are_names")
 (Qkk:"K"^Qgi)
 (Qxi:"N"^Qgm "are_texts")
 (Qwv:"L"^Qgm QsO Qss "are_texts" "are_texts" QbY .none Qtz Que Qvz Qvn QjH Qul Qt9)
 (Qv9:"C"^QjH "are_texts")
 (Qkg:"K"^Qgm)
 (QBc:"N"^QhF "is_clerk")
 (QAj:"L"^QhF Qxo QyM "is_clerk" "is_clerk" Qdi .none Qy2 QvT Qx4 Qxh Qkh QyY Qyn)
 (Qz9:"C"^Qkh "is_clerk")
 (Ql7:"K"^QhF)
 (Qem:"I"^Qam)
 (Qvm:"L"^Qam Qqc Qqn "outs" "Clerk.outs" Qci .none Qrx Qqq QrD Qra Qh7 Qq9 QqP)
 (QrK:"C"^Qh7 "Clerk.outs")
 (Qc0:"K"^Qam)
 (Qdj:"I"^Qaa)
 (Qn8:"L"^Qaa Qme QlO "period" "Clerk.period" Qbv .none Qmr Qmk Ql2 QmG QfY QmL Qlo)
 (Qoe:"C"^QfY "Clerk.period")
 (Qco:"K"^Qaa)
 (QCy:"N"^Qiw "is_seat")
 (QBW:"L"^Qiw QAl QBw "is_seat" "is_seat" Qd0 .none QAJ QzR QA5 QAy Qlz QAG QBF)
 (QCl:"C"^Qlz "is_seat")
 (Qpz:"K"^Qiw)
 (Qxv:"N"^Qgs "are_seats")
 (QxJ:"L"^Qgs Qtq QvE "are_seats" "are_seats" Qbo .none QtN Qu6 Qvu QtA QiA QsC QuX)
 (QvV:"C"^QiA "are_seats")
 (Qkn:"K"^Qgs)
 (Qz8:"N"^Qhs "is_entry")
 (QzQ:"L"^Qhs Qv0 QyU "is_entry" "is_entry" Qdf .none Qyd QwB Qwo QwJ QkO Qwd QwZ)
 (QBA:"C"^QkO "is_entry")
 (Qmb:"K"^Qhs)
 (QqI:"N"^Qe8 "are_entries")
 (QqL:"L"^Qe8 Qn3 Qpb "are_entries" "are_entries" QaW .none QnK QnY Qnv Qnq Qg5 QoZ Qn7)
 (Qqa:"C"^Qg5 "are_entries")
 (Qie:"K"^Qe8)
 (QBz:"N"^Qhw "leads_to")
 (QAi:"L"^Qhw Qx1 Qyr "leads_to" "leads_to" Qcs .none QwM Qxt Qy4 Qxf Qkf QvN Qy7)
 (QBd:"C"^Qkf "leads_to")
 (QmA:"K"^Qhw)
 (Qrv:"I"^QcE)
 (Qqg:"L"^QcE QoU Qm0 "__init__" "Office.__init__" Q8 .none QnP Qob QnL Qo2 QgM QmW QoD)
 (Qrf:"C"^QgM "Office.__init__")
 (Qp9:"K"^QcE)
 (QvW:"N"^Qgg "_law_place")
 (Qw9:"L"^Qgg QuV Qt7 "_law_place" "_law_place" QcM .none Qs0 Qsu QuR Quy QiC QuA QtB)
 (Qya:"C"^QiC "_law_place")
 (QkM:"K"^Qgg)
 (QxH:"N"^Qgx "_law_drawn")
 (Qx7:"L"^Qgx QvF Quz "_law_drawn" "_law_drawn" Qbk .none QrI QrV QrX Qve Qi2 Qsl Quu)
 (QyL:"C"^Qi2 "_law_drawn")
 (QkE:"K"^Qgx)
 (QxT:"N"^QgA "_law_table")
 (Qv4:"L"^QgA QvD Qt1 "_law_table" "_law_table" Qca .none Qr1 QtE Qs5 QrL Qjz QuL QuD)
 (Qy3:"C"^Qjz "_law_table")
 (QkG:"K"^QgA)
 (Qo9:"I"^Qck)
 (Qn2:"L"^Qck QlK QlZ "leads" "Office.leads" Qbu .none Qlx QlN Qlj Qly QfP Qlu QmF)
 (QoS:"C"^QfP "Office.leads")
 (Qg1:"K"^Qck)
 (QdM:"I"^Qai)
 (QqX:"L"^Qai Qm4 Qne "whole" "Clerk.whole" QbH .none Qpi Qn4 QoM Qpa Qhe Qpg QnG)
 (QqV:"C"^Qhe "Clerk.whole")
 (QcH:"K"^Qai)
 (QoV:"I"^Qcj)
 (QoL:"L"^Qcj Qlp Qlk "clerk" "Office.clerk" Qbs .none Qlr QlU QlW Qmq QfV QlY Qln)
 (QnC:"C"^QfV "Office.clerk")
 (QgX:"K"^Qcj)
 (Qui:"N"^QfG "sent_round")
 (Qvb:"L"^QfG Qrt QpM "sent_round" "sent_round" Qcn .none Qq4 Qqo QpN Qq5 Qh0 QpV Qrb)
 (QtJ:"C"^Qh0 "sent_round")
 (Qje:"K"^QfG)
 (Qja:"N"^Qc9 "greatest_divisor")
 (QjD:"L"^Qc9 Qim Qiq "greatest_divisor" "greatest_divisor" QaN .none Qip Qij Qik Qil Qep Qii Qis)
 (QjM:"C"^Qep "greatest_divisor")
 (QeY:"K"^Qc9)
 (QGi:"N"^QoK "share")
 (QFt:"L"^QoK QEK QEE "share" "share" Qdo (.ref QnH) Qub Qst Qvk QrO Qk4 QtU QEU)
 (QFQ:"C"^Qk4 "share")
 (Qzc:"K"^QoK)
 (t_shareh:K.lookup QnH=some ⟨QDC,QB7,.seq #[.int 1 QEd] QEQ,QDz⟩)
 (QxI:"N"^Qgr "shares_to")
 (Qxq:"L"^Qgr Qs6 Qto "shares_to" "shares_to" Qb2 .none Qsg Qs2 Qr3 Qua QiN QsP Qvj)
 (QxE:"C"^QiN "shares_to")
 (Qkm:"K"^Qgr)
 (QpX:"I"^QcD)
 (QpZ:"L"^QcD Qnw Qoi "many" "Office.many" QbK .none Qm1 Qno Qni Qoz Qhd QoE Qoy)
 (QqK:"C"^Qhd "Office.many")
 (Qid:"K"^QcD)
 (Qxj:"N"^Qgf "shares_of")
 (QyW:"L"^Qgf Qu7 Qsv "shares_of" "shares_of" Qbm .none QsL Qvt Quj Qsi QiR Qvy Qtf)
 (Qwh:"C"^QiR "shares_of")
 (Qkt:"K"^Qgf)
 (Qol:"I"^Qch)
 (Qn6:"L"^Qch QlJ Qml "doors" "Office.doors" Qbw .none Qmt Ql8 QmO Qlm Qgd QlI QlB)
 (Qna:"C"^Qgd "Office.doors")
 (QgK:"K"^Qch)
 (QrA:"N"^Qe1 "door_shares")
 (QqT:"L"^Qe1 Qm8 Qo8 "door_shares" "door_shares" QaE .none Qnh Qoo QnT Qo3 Qg9 QoJ QoF)
 (QpP:"C"^Qg9 "door_shares")
 (Qh9:"K"^Qe1)
 (Qxm:"N"^Qgy "_law_whole")
 (Qwl:"L"^Qgy Qsd Qt0 "_law_whole" "_law_whole" QcK .none Qtr Qvl QtZ Qur QjC QuB Qtd)
 (QyA:"C"^QjC "_law_whole")
 (Qkp:"K"^Qgy)
 (Qri:"N"^Qe9 "_law_divisor")
 (QpU:"L"^Qe9 Qnm QoW "_law_divisor" "_law_divisor" QbJ .none QnE Qnk QnI Qns Qg2 Qph Qo4)
 (Qqj:"C"^Qg2 "_law_divisor")
 (Qh3:"K"^Qe9)
 (QoA:"N"^Qer "_law_fraction")
 (Qnj:"L"^Qer Qmd QlC "_law_fraction" "_law_fraction" Qbt .none Qlq Ql5 QlX QlD QfU QmS QlM)
 (Qop:"C"^QfU "_law_fraction")
 (QgC:"K"^Qer)
 (QBl:"N"^Qhi "_law_same")
 (QAr:"L"^Qhi QyG Qwm "_law_same" "_law_same" Qdt .none QwD Qx8 QyI QwA Qkz QxQ QwE)
 (QAc:"C"^Qkz "_law_same")
 (Qlw:"K"^Qhi)
 (QH7:"N"^QzM "law")
 (QH8:"L"^QzM QGT QGS "law" "law" Qfs .none QCb QDF QBU QCG Qu1 QCa QHB)
 (QIa:"C"^Qu1 "law")
 (QIb:"K"^QzM)
 (z_len:"Z"^"len")
 (z_zip:"Z"^"zip")
 (z_list:"Z"^"list")
 (z_isinstance:"Z"^"isinstance")
 (z_int:"Z"^"int")
 (z_bool:"Z"^"bool")
 (z_all:"Z"^"all")
 (z_range:"Z"^"range")
 (z_enumerate:"Z"^"enumerate")
 (z_set:"Z"^"set")
 (z_str:"Z"^"str")
 (z_tuple:"Z"^"tuple")
 (z_any:"Z"^"any")
 (z_abs:"Z"^"abs")
 (c_MOST_OUTS:W.nsIn K mainGlobals "MOST_OUTS"=some (some (.int 6 vi)))
 (c_MOST_SENT:W.nsIn K mainGlobals "MOST_SENT"=some (some (.int 9 vj)))
 (c_MOST_ROWS:W.nsIn K mainGlobals "MOST_ROWS"=some (some (.int 12 vk)))
 (c_MOST_SIGNS:W.nsIn K mainGlobals "MOST_SIGNS"=some (some (.int 6 ve)))
 (c_LETTERS:W.nsIn K mainGlobals "LETTERS"=some (some (.str "abcdefghijklmnopqrstuvwxyz" vo)))
 (c_MOST_CLERKS:W.nsIn K mainGlobals "MOST_CLERKS"=some (some (.int 60 vc)))
 (c_MOST_ENTRIES:W.nsIn K mainGlobals "MOST_ENTRIES"=some (some (.int 6 v8)))
 (c_MOST_DOORS:W.nsIn K mainGlobals "MOST_DOORS"=some (some (.int 6 vf)))
 (Qrj:"T"^QE QH false)
 (QyC:"T"^QF QH false)
 (Qwt:"T"^QI QH false)
 (Qqv:"T"^Qs QH false)
 (QyF:"T"^QH QH true)
 (Qlv:"T"^QE Qs false)
 (Qp2:"T"^QF Qs false)
 (Qqk:"T"^QI Qs false)
 (Ql3:"T"^Qs Qs true)
 (QqH:"T"^QH Qs false)
 (QqS:"T"^QE QI false)
 (QyN:"T"^QF QI false)
 (Qxe:"T"^QI QI true)
 (Qru:"T"^Qs QI false)
 (QyQ:"T"^QH QI false)
 (Qrz:"T"^QE QF false)
 (Qwx:"T"^QF QF true)
 (Qw7:"T"^QI QF false)
 (Qp0:"T"^Qs QF false)
 (Qx9:"T"^QH QF false):
 ∃ fd:FuncData,(∀(s:Shared)(v:Value),BindsTo s fd ⟨[v],[]⟩ [("_law_script",v)])/\∀ base:Heap,K.In base->base.Ns mainGlobals mg->FnOk l.prog w K mg base CX0 9 fa fd ["_law_script"] (SpD K (ctOf K) false Qf6):=by
 have ee:=hfa.symm.trans ("A"^QH7)
 cases ee
 have Qzm:="A"^QCN
 have QaH:=ct_of QCN
 have Qbz:Cls K QH:=⟨QGl,QFH,QFo,QFs⟩
 have QpF:="A"^QtF
 have Qad:=ct_of QtF
 have QaK:Cls K Qs:=⟨QCe,QDE,QCT,QBI⟩
 have QzK:="A"^QB1
 have QaI:=ct_of QB1
 have Qbx:Cls K QI:=⟨QGx,QF8,QGs,QFi⟩
 have Qzr:="A"^QB8
 have QaJ:=ct_of QB8
 have Qbq:Cls K QF:=⟨QF4,QGn,QFx,QFL⟩
 have QDm:="A"^QrZ
 have Qae:=ct_of QrZ
 have QaP:Cls K QE:=⟨QCd,QDq,QCj,QDu⟩
 have fo_table:FldOk K (ctOf K) Qj "table":=by
  intro c hc A hA
  walk_at "h0"
  rcases hm with rfl | rfl | rfl | rfl | rfl
  ·exact "R"^QaH Qbz Qqb
  ·exact "R"^Qad QaK QlF
  ·exact "R"^QaI Qbx Qrr
  ·exact "R"^QaJ Qbq QqG
  ·exact "R"^Qae QaP Qmm
 have fo_heads:FldOk K (ctOf K) Qj "heads":=by
  intro c hc A hA
  walk_at "h0"
  rcases hm with rfl | rfl | rfl | rfl | rfl
  ·exact "R"^QaH Qbz QqD
  ·exact "R"^Qad QaK QmR
  ·exact "R"^QaI Qbx Qrw
  ·exact "R"^QaJ Qbq Qqs
  ·exact "R"^Qae QaP QlV
 have fo_clerk_names:FldOk K (ctOf K) Qj "clerk_names":=by
  intro c hc A hA
  walk_at "h0"
  rcases hm with rfl | rfl | rfl | rfl | rfl
  ·exact "R"^QaH Qbz Qio
  ·exact "R"^Qad QaK Qhg
  ·exact "R"^QaI Qbx Qir
  ·exact "R"^QaJ Qbq Qin
  ·exact "R"^Qae QaP QgF
 have fo_door_names:FldOk K (ctOf K) Qj "door_names":=by
  intro c hc A hA
  walk_at "h0"
  rcases hm with rfl | rfl | rfl | rfl | rfl
  ·exact "R"^QaH Qbz Qjy
  ·exact "R"^Qad QaK Qhp
  ·exact "R"^QaI Qbx Qjf
  ·exact "R"^QaJ Qbq Qji
  ·exact "R"^Qae QaP Qhv
 have fo_entry_places:FldOk K (ctOf K) Qj "entry_places":=by
  intro c hc A hA
  walk_at "h0"
  rcases hm with rfl | rfl | rfl | rfl | rfl
  ·exact "R"^QaH Qbz Qhz
  ·exact "R"^Qad QaK QgB
  ·exact "R"^QaI Qbx Qhj
  ·exact "R"^QaJ Qbq Qhn
  ·exact "R"^Qae QaP Qgu
 have fo_staff:FldOk K (ctOf K) Qj "staff":=by
  intro c hc A hA
  walk_at "h0"
  rcases hm with rfl | rfl | rfl | rfl | rfl
  ·exact "R"^QaH Qbz Qrs
  ·exact "R"^Qad QaK QlL
  ·exact "R"^QaI Qbx Qq6
  ·exact "R"^QaJ Qbq QqR
  ·exact "R"^Qae QaP Qms
 have fo_first_states:FldOk K (ctOf K) Qj "first_states":=by
  intro c hc A hA
  walk_at "h0"
  rcases hm with rfl | rfl | rfl | rfl | rfl
  ·exact "R"^QaH Qbz Qhl
  ·exact "R"^Qad QaK Qgz
  ·exact "R"^QaI Qbx Qhy
  ·exact "R"^QaJ Qbq QhD
  ·exact "R"^Qae QaP Qgv
 have fo_ways:FldOk K (ctOf K) Qj "ways":=by
  intro c hc A hA
  walk_at "h0"
  rcases hm with rfl | rfl | rfl | rfl | rfl
  ·exact "R"^QaH Qbz Qsh
  ·exact "R"^Qad QaK Qm7
  ·exact "R"^QaI Qbx Qt2
  ·exact "R"^QaJ Qbq Qsx
  ·exact "R"^Qae QaP Qm5
 have Qj0:ClsD K QH:=⟨Qbz,QFS,y1,y2,QFB⟩
 have Qf7:ClsD K Qs:=⟨QaK,QDr,y1,y2,QDM⟩
 have QjP:ClsD K QI:=⟨Qbx,QFn,y1,y2,QFX⟩
 have QjW:ClsD K QF:=⟨Qbq,QFl,y1,y2,QFk⟩
 have QfQ:ClsD K QE:=⟨QaP,QC0,y1,y2,QCf⟩
 have Qkb:=Qw (st:=QcU) QvR Qyu QkA
 have QwH:=Qkb.binds (ps:=["_law_cell_here","_law_k"]) fun _ _ _ _ _ _ us hl=>match us,hl with | [_,_],_=>rfl
 have QlR:=Qw (st:=Qdp) QAm QAd QmM
 have QAB:=QlR.binds (ps:=["_law_script","_law_k"]) fun _ _ _ _ _ _ us hl=>match us,hl with | [_,_],_=>rfl
 have Qpm:=Qw (st:=QcZ) QC4 QDj Qpq
 have QBM:=Qpm.binds (ps:=["one","other"]) fun _ _ _ _ _ _ us hl=>match us,hl with | [_,_],_=>rfl
 have Qg0:=Qw (st:=Qa0) QoG QmZ QgR
 have Qnc:=Qg0.binds (ps:=["rows"]) fun _ _ _ _ _ _ us hl=>match us,hl with | [_],_=>rfl
 have Qfg:=Qw (st:=Qav) Qj7 Qj5 Qbg
 have Qcc:=Qfg.binds (ps:=["self","rows"]) fun _ _ _ _ _ _ us hl=>match us,hl with | [_,_],_=>rfl
 have Qma:=Qw (st:=Qdq) QAN QBr Qmj
 have QAS:=Qma.binds (ps:=["thing"]) fun _ _ _ _ _ _ us hl=>match us,hl with | [_],_=>rfl
 have Qkd:=Qw (st:=QcP) Qv5 Qwf Qka
 have QwX:=Qkd.binds (ps:=["thing","least","most"]) fun _ _ _ _ _ _ us hl=>match us,hl with | [_,_,_],_=>rfl
 have Qr4:=Qw (st:=QdX) QEl QEG QuP
 have QFa:=Qr4.binds (ps:=["thing"]) fun _ _ _ _ _ _ us hl=>match us,hl with | [_],_=>rfl
 have QmE:=Qw (st:=QbQ) QBy QBu Qmw
 have QAP:=QmE.binds (ps:=["thing"]) fun _ _ _ _ _ _ us hl=>match us,hl with | [_],_=>rfl
 have QkC:=Qw (st:=QcT) QxC QxG Qy8
 have Qw2:=QkC.binds (ps:=["self","rows"]) fun _ _ _ _ _ _ us hl=>match us,hl with | [_,_],_=>rfl
 have QiH:=Qw (st:=QbC) QuE Qvi QiU
 have QtD:=QiH.binds (ps:=["many","place"]) fun _ _ _ _ _ _ us hl=>match us,hl with | [_,_],_=>rfl
 have Qj8:=Qw (st:=Qb8) Qxn QwV Qxy
 have QwC:=Qj8.binds (ps:=["self","many"]) fun _ _ _ _ _ _ us hl=>match us,hl with | [_,_],_=>rfl
 have QhY:=Qw (st:=Qbe) QqE Qqi Qp8
 have Qrn:=QhY.binds (ps:=["self","size"]) fun _ _ _ _ _ _ us hl=>match us,hl with | [_,_],_=>rfl
 have Qky:=Qw (st:=QcN) Qy6 Qyx QyB
 have QxK:=Qky.binds (ps:=["self","counts"]) fun _ _ _ _ _ _ us hl=>match us,hl with | [_,_],_=>rfl
 have Qks:=Qw (st:=Qaz) QwQ QvZ Qkl
 have QxO:=Qks.binds (ps:=["_law_number","_law_top"]) fun _ _ _ _ _ _ us hl=>match us,hl with | [_,_],_=>rfl
 have QkD:=Qw (st:=QcO) Qw8 Qwj QkL
 have QxS:=QkD.binds (ps:=["names","doors"]) fun _ _ _ _ _ _ us hl=>match us,hl with | [_,_],_=>rfl
 have Qps:=Qw (st:=Qd2) QCs QB0 Qpo
 have QC7:=Qps.binds (ps:=["thing","most"]) fun _ _ _ _ _ _ us hl=>match us,hl with | [_,_],_=>rfl
 have QjF:=Qw (st:=Qcl) QuN Qr9 Qjx
 have QrT:=QjF.binds (ps:=["names"]) fun _ _ _ _ _ _ us hl=>match us,hl with | [_],_=>rfl
 have Qpv:=Qw (st:=Qc2) QDh QCZ Qpn
 have QCq:=Qpv.binds (ps:=["thing"]) fun _ _ _ _ _ _ us hl=>match us,hl with | [_],_=>rfl
 have QkF:=Qw (st:=Qb5) Qxw Qyf Qkk
 have Qwr:=QkF.binds (ps:=["thing","most"]) fun _ _ _ _ _ _ us hl=>match us,hl with | [_,_],_=>rfl
 have QkH:=Qw (st:=QbY) Qwv Qv9 Qkg
 have Qyz:=QkH.binds (ps:=["thing","many"]) fun _ _ _ _ _ _ us hl=>match us,hl with | [_,_],_=>rfl
 have Qli:=Qw (st:=Qdi) QAj Qz9 Ql7
 have QAY:=Qli.binds (ps:=["thing"]) fun _ _ _ _ _ _ us hl=>match us,hl with | [_],_=>rfl
 have Qjr:=Qw (st:=Qci) Qvm QrK Qc0
 have Qeh:=Qjr.binds (ps:=["self"]) fun _ _ _ _ _ _ us hl=>match us,hl with | [_],_=>rfl
 have QgD:=Qw (st:=Qbv) Qn8 Qoe Qco
 have Qdg:=QgD.binds (ps:=["self"]) fun _ _ _ _ _ _ us hl=>match us,hl with | [_],_=>rfl
 have Qpk:=Qw (st:=Qd0) QBW QCl Qpz
 have QCM:=Qpk.binds (ps:=["thing"]) fun _ _ _ _ _ _ us hl=>match us,hl with | [_],_=>rfl
 have Qj9:=Qw (st:=Qbo) QxJ QvV Qkn
 have Qyi:=Qj9.binds (ps:=["thing","doors"]) fun _ _ _ _ _ _ us hl=>match us,hl with | [_,_],_=>rfl
 have Qmx:=Qw (st:=Qdf) QzQ QBA Qmb
 have QAx:=Qmx.binds (ps:=["thing","names"]) fun _ _ _ _ _ _ us hl=>match us,hl with | [_,_],_=>rfl
 have Qib:=Qw (st:=QaW) QqL Qqa Qie
 have Qrm:=Qib.binds (ps:=["thing","names"]) fun _ _ _ _ _ _ us hl=>match us,hl with | [_,_],_=>rfl
 have QmK:=Qw (st:=Qcs) QAi QBd QmA
 have QBh:=QmK.binds (ps:=["seat","places"]) fun _ _ _ _ _ _ us hl=>match us,hl with | [_,_],_=>rfl
 have QhO:=Qw (st:=Q8) Qqg Qrf Qp9
 have Qrd:=QhO.binds (ps:=["self","clerks","entries","doors"]) fun _ _ _ _ _ _ us hl=>match us,hl with | [_,_,_,_],_=>rfl
 have QkB:=Qw (st:=QcM) Qw9 Qya QkM
 have Qy5:=QkB.binds (ps:=["_law_lead","_law_doors"]) fun _ _ _ _ _ _ us hl=>match us,hl with | [_,_],_=>rfl
 have Qki:=Qw (st:=Qbk) Qx7 QyL QkE
 have Qwn:=Qki.binds (ps:=["_law_script","_law_start","_law_most"]) fun _ _ _ _ _ _ us hl=>match us,hl with | [_,_,_],_=>rfl
 have QkP:=Qw (st:=Qca) Qv4 Qy3 QkG
 have QwT:=QkP.binds (ps:=["_law_drawn_here"]) fun _ _ _ _ _ _ us hl=>match us,hl with | [_],_=>rfl
 have QgG:=Qw (st:=Qbu) Qn2 QoS Qg1
 have QnD:=QgG.binds (ps:=["self","k"]) fun _ _ _ _ _ _ us hl=>match us,hl with | [_,_],_=>rfl
 have Qh2:=Qw (st:=QbH) QqX QqV QcH
 have QdQ:=Qh2.binds (ps:=["self"]) fun _ _ _ _ _ _ us hl=>match us,hl with | [_],_=>rfl
 have QgH:=Qw (st:=Qbs) QoL QnC QgX
 have QoX:=QgH.binds (ps:=["self","k"]) fun _ _ _ _ _ _ us hl=>match us,hl with | [_,_],_=>rfl
 have QjN:=Qw (st:=Qcn) Qvb QtJ Qje
 have Qsj:=QjN.binds (ps:=["office","k"]) fun _ _ _ _ _ _ us hl=>match us,hl with | [_,_],_=>rfl
 have QeT:=Qw (st:=QaN) QjD QjM QeY
 have QiM:=QeT.binds (ps:=["one","other"]) fun _ _ _ _ _ _ us hl=>match us,hl with | [_,_],_=>rfl
 have QGb:=Qw (st:=Qdo) QFt QFQ Qzc
 have Qke:=Qw (st:=Qb2) Qxq QxE Qkm
 have QxN:=Qke.binds (ps:=["office","k","places"]) fun _ _ _ _ _ _ us hl=>match us,hl with | [_,_,_],_=>rfl
 have QhN:=Qw (st:=QbK) QpZ QqK Qid
 have Qqt:=QhN.binds (ps:=["self"]) fun _ _ _ _ _ _ us hl=>match us,hl with | [_],_=>rfl
 have Qkc:=Qw (st:=Qbm) QyW Qwh Qkt
 have Qwc:=Qkc.binds (ps:=["office"]) fun _ _ _ _ _ _ us hl=>match us,hl with | [_],_=>rfl
 have QgN:=Qw (st:=Qbw) Qn6 Qna QgK
 have QnS:=QgN.binds (ps:=["self"]) fun _ _ _ _ _ _ us hl=>match us,hl with | [_],_=>rfl
 have QhZ:=Qw (st:=QaE) QqT QpP Qh9
 have QpS:=QhZ.binds (ps:=["office"]) fun _ _ _ _ _ _ us hl=>match us,hl with | [_],_=>rfl
 have QkK:=Qw (st:=QcK) Qwl QyA Qkp
 have Qv7:=QkK.binds (ps:=["_law_found"]) fun _ _ _ _ _ _ us hl=>match us,hl with | [_],_=>rfl
 have Qig:=Qw (st:=QbJ) QpU Qqj Qh3
 have QpO:=Qig.binds (ps:=["_law_one","_law_other"]) fun _ _ _ _ _ _ us hl=>match us,hl with | [_,_],_=>rfl
 have QgJ:=Qw (st:=Qbt) Qnj Qop QgC
 have Qnu:=QgJ.binds (ps:=["_law_found"]) fun _ _ _ _ _ _ us hl=>match us,hl with | [_],_=>rfl
 have Qmi:=Qw (st:=Qdt) QAr QAc Qlw
 have QAk:=Qmi.binds (ps:=["_law_found","_law_due","_law_low","_law_high"]) fun _ _ _ _ _ _ us hl=>match us,hl with | [_,_,_,_],_=>rfl
 have QFb:=Qw (st:=Qfs) QH8 QIa QIb
 have QIf:=QFb.binds (ps:=["_law_script"]) fun _ _ _ _ _ _ us hl=>match us,hl with | [_],_=>rfl
 have v1:mg "len"=none:=W.mg_none_of X G z_len
 have v9:mg "zip"=none:=W.mg_none_of X G z_zip
 have v2:mg "list"=none:=W.mg_none_of X G z_list
 have v0:mg "isinstance"=none:=W.mg_none_of X G z_isinstance
 have va:mg "int"=none:=W.mg_none_of X G z_int
 have vn:mg "bool"=none:=W.mg_none_of X G z_bool
 have v4:mg "all"=none:=W.mg_none_of X G z_all
 have v3:mg "range"=none:=W.mg_none_of X G z_range
 have vl:mg "enumerate"=none:=W.mg_none_of X G z_enumerate
 have vs:mg "set"=none:=W.mg_none_of X G z_set
 have vq:mg "str"=none:=W.mg_none_of X G z_str
 have v7:mg "tuple"=none:=W.mg_none_of X G z_tuple
 have vt:mg "any"=none:=W.mg_none_of X G z_any
 have vr:mg "abs"=none:=W.mg_none_of X G z_abs
 have v5:="A"^c_MOST_OUTS
 have vm:="A"^c_MOST_SENT
 have v6:="A"^c_MOST_ROWS
 have vg:="A"^c_MOST_SIGNS
 have vp:="A"^c_LETTERS
 have vd:="A"^c_MOST_CLERKS
 have vb:="A"^c_MOST_ENTRIES
 have vh:="A"^c_MOST_DOORS
 have Qoa:KitI K (ctOf K) (.ref QH) [("Deal",true),("Bundle",false),("Copy",false),("Rows",false),("Office",false)]:=(Q1 QaH Qj0 QyF (Q1 Qad Qf7 Qqv (Q1 QaI QjP Qwt (Q1 QaJ QjW QyC (Q1 Qae QfQ Qrj QhH)))))
 have QiD:KitI K (ctOf K) (.ref Qs) [("Deal",false),("Bundle",true),("Copy",false),("Rows",false),("Office",false)]:=(Q1 QaH Qj0 QqH (Q1 Qad Qf7 Ql3 (Q1 QaI QjP Qqk (Q1 QaJ QjW Qp2 (Q1 Qae QfQ Qlv QhH)))))
 have Qm2:KitI K (ctOf K) (.ref QI) [("Deal",false),("Bundle",false),("Copy",true),("Rows",false),("Office",false)]:=(Q1 QaH Qj0 QyQ (Q1 Qad Qf7 Qru (Q1 QaI QjP Qxe (Q1 QaJ QjW QyN (Q1 Qae QfQ QqS QhH)))))
 have QmY:KitI K (ctOf K) (.ref QF) [("Deal",false),("Bundle",false),("Copy",false),("Rows",true),("Office",false)]:=(Q1 QaH Qj0 Qx9 (Q1 Qad Qf7 Qp0 (Q1 QaI QjP Qw7 (Q1 QaJ QjW Qwx (Q1 Qae QfQ Qrz QhH)))))
 refine⟨W.fnOf "law" "law" (Qq Qfs) (Qm Qfs) (Qb Qfs) .none QCb QDF QBU QCG Qu1 QCa,fun s v=>.of_eq rfl,fun base _ _=>?_⟩
 have QwO:"F"^1 ["_law_cell_here","_law_k"] false QaC:=QwL Qkb
 have Qyg:"E"^QaC "_law_mixed" 1 false:="D"^QwO QvS QkA QwH
 have QAQ:"F"^1 ["_law_script","_law_k"] false Qbj:=QzL QlR v1
 have QBk:"E"^Qbj "_law_cell" 1 false:="D"^QAQ QAZ QmM QAB
 have QCQ:"F"^1 ["one","other"] true Qcr:=QCK Qpm v9
 have QCO:"E"^Qcr "sums_of" 1 true:="D"^QCQ QBK Qpq QBM
 have QoI:"F"^2 ["rows"] true Qas:=Qnx Qg0 QCO
 have Qo0:"E"^Qas "running_sums" 2 true:="D"^QoI Qoh QgR Qnc
 have Qcd:FnOk l.prog w K mg base (CXR l.prog w) 3 _ _ ["self","rows"] (SpI K (ctOf K) QK):=Qj6 Qfg Qo0 v2 fo_table fo_heads
 have ms_keep_rows:MtOk l.prog w K mg base (ctOf K) (CXR l.prog w) "keep_rows" 3 Qd (fun _=>SpI K (ctOf K) QK):=by
  intro c hc
  walk_at "h1"
  rcases hm with rfl | rfl | rfl | rfl
  ·exact⟨QH,QU,_,_,QaH,Qbz,⟨Qk3,Qce,Qbg⟩,Qcd.mono (by decide),Qcc⟩
  ·exact⟨Qs,QU,_,_,Qad,QaK,⟨Qiv,Qce,Qbg⟩,Qcd.mono (by decide),Qcc⟩
  ·exact⟨QI,QU,_,_,QaI,Qbx,⟨QkU,Qce,Qbg⟩,Qcd.mono (by decide),Qcc⟩
  ·exact⟨QF,QU,_,_,QaJ,Qbq,⟨Qk7,Qce,Qbg⟩,Qcd.mono (by decide),Qcc⟩
 have QBe:"F"^1 ["thing"] false QaG:=QzO Qma v0 va vn
 have Qmy:"E"^QaG "is_whole" 1 false:="D"^QBe QAU Qmj QAS
 have Qye:"F"^2 ["thing","least","most"] false Qaj:=QxP Qkd Qmy
 have QeA:"E"^Qaj "is_within" 2 false:="D"^Qye QvL Qka QwX
 have QEO:"F"^3 ["thing"] false Qcu:=QE8 Qr4 QeA v0 v2 v1 v4 v5 ⟨_,rfl⟩ vm ⟨_,rfl⟩
 have QtG:"E"^Qcu "is_row" 3 false:="D"^QEO QEu QuP QFa
 have QAo:"F"^4 ["thing"] false Qct:=QAf QmE QtG v0 v2 v1 v4 v6 ⟨_,rfl⟩
 have QAb:"E"^Qct "is_table" 4 false:="D"^QAo QzW Qmw QAP
 have Qwz:FnOk l.prog w K mg base (CXR l.prog w) 5 _ _ ["self","rows"] (SpI K (ctOf K) Qb6):=Qx2 QkC QAb ms_keep_rows
 have Qod:MkOk l.prog w K mg base (ctOf K) "Rows" 5 Qb6:=⟨QF,Qdv,_,_,QaJ,Qzr,⟨QEC,Qxg,Qyw,QEz⟩,Qwz,Qw2⟩
 have Qty:"F"^1 ["many","place"] true QbD:=QuC QiH v3
 have QuK:"E"^QbD "single_row" 1 true:="D"^Qty Qtp QiU QtD
 have Qx0:FnOk l.prog w K mg base (CXR l.prog w) 4 _ _ ["self","many"] (SpI K (ctOf K) Qb9):=Qyb Qj8 QeA QuK v3 v5 ⟨_,rfl⟩ ms_keep_rows
 have Qn9:MkOk l.prog w K mg base (ctOf K) "Deal" 4 Qb9:=⟨QH,QdD,_,_,QaH,Qzm,⟨QEH,Qxs,QxU,QEs⟩,Qx0,QwC⟩
 have Qqr:FnOk l.prog w K mg base (CXR l.prog w) 4 _ _ ["self","size"] (SpI K (ctOf K) Qbc):=Qq7 QhY QeA v3 v6 ⟨_,rfl⟩ ms_keep_rows
 have Qjd:MkOk l.prog w K mg base (ctOf K) "Bundle" 4 Qbc:=⟨Qs,QcJ,_,_,Qad,QpF,⟨Qz1,Qp1,QqB,QAA⟩,Qqr,Qrn⟩
 have QxV:FnOk l.prog w K mg base (CXR l.prog w) 4 _ _ ["self","counts"] (SpI K (ctOf K) Qb7):=Qyh Qky QtG ms_keep_rows
 have QoT:MkOk l.prog w K mg base (ctOf K) "Copy" 4 Qb7:=⟨QI,QdA,_,_,QaI,QzK,⟨QEr,QyO,QvU,QD6⟩,QxV,QxK⟩
 have QvH:"F"^7 ["_law_number","_law_top"] true QaA:=Qv1 Qks v3 va v2 Qn9 Qjd QoT Qod
 have Qyk:"E"^QaA "_law_clerk" 7 true:="D"^QvH Qwe Qkl QxO
 have Qxr:"F"^1 ["names","doors"] true Qb4:=Qwp QkD vl
 have Qxz:"E"^Qb4 "places_of" 1 true:="D"^Qxr QvP QkL QxS
 have QCx:"F"^1 ["thing","most"] false QaV:=QCv Qps v0 v2 v1
 have QiZ:"E"^QaV "is_list" 1 false:="D"^QCx QB6 Qpo QC7
 have Quf:"F"^1 ["names"] false QX:=QuT QjF v1 vs
 have QfF:"E"^QX "all_unlike" 1 false:="D"^Quf QuS Qjx QrT
 have QCJ:"F"^1 ["thing"] false Qao:=QDd Qpv v0 vq v1 v4 vg ⟨_,rfl⟩ vp ⟨_,rfl⟩
 have Qjq:"E"^Qao "is_name" 1 false:="D"^QCJ QB9 Qpn QCq
 have Qxk:"F"^2 ["thing","most"] false QbV:=QvJ QkF QiZ Qjq QfF v4
 have QvG:"E"^QbV "are_names" 2 false:="D"^Qxk QwF Qkk Qwr
 have Qxp:"F"^1 ["thing","many"] false QbU:=QvM QkH v0 v2 v1 v4 vq
 have QxD:"E"^QbU "are_texts" 1 false:="D"^Qxp Qxi Qkg Qyz
 have QAK:"F"^1 ["thing"] false Qcv:=QA9 Qli v0 Qzm QpF QzK Qzr Qoa QiD Qm2 QmY
 have QAD:"E"^Qcv "is_clerk" 1 false:="D"^QAK QBc Ql7 QAY
 have Qeg:"F"^1 ["self"] false Qa7:=QtT Qjr v1 fo_table
 have mt_outs:MtOk l.prog w K mg base (ctOf K) CX0 "outs" 1 Qd (fun c=>SpD K (ctOf K) false ((fun _=>Qa7) c)):=by
  intro c hc
  walk_at "h1"
  rcases hm with rfl | rfl | rfl | rfl
  ·exact⟨QH,Qam,_,_,QaH,Qbz,⟨QwS,Qem,Qc0⟩,Qeg.mono (by decide),Qeh⟩
  ·exact⟨Qs,Qam,_,_,Qad,QaK,⟨Qqe,Qem,Qc0⟩,Qeg.mono (by decide),Qeh⟩
  ·exact⟨QI,Qam,_,_,QaI,Qbx,⟨Qv2,Qem,Qc0⟩,Qeg.mono (by decide),Qeh⟩
  ·exact⟨QF,Qam,_,_,QaJ,Qbq,⟨Qw6,Qem,Qc0⟩,Qeg.mono (by decide),Qeh⟩
 have Qdr:"F"^1 ["self"] false QP:=Qnz QgD v1 fo_table
 have mt_period:MtOk l.prog w K mg base (ctOf K) CX0 "period" 1 Qd (fun c=>SpD K (ctOf K) false ((fun _=>QP) c)):=by
  intro c hc
  walk_at "h1"
  rcases hm with rfl | rfl | rfl | rfl
  ·exact⟨QH,Qaa,_,_,QaH,Qbz,⟨Qp3,Qdj,Qco⟩,Qdr.mono (by decide),Qdg⟩
  ·exact⟨Qs,Qaa,_,_,Qad,QaK,⟨Qll,Qdj,Qco⟩,Qdr.mono (by decide),Qdg⟩
  ·exact⟨QI,Qaa,_,_,QaI,Qbx,⟨Qqd,Qdj,Qco⟩,Qdr.mono (by decide),Qdg⟩
  ·exact⟨QF,Qaa,_,_,QaJ,Qbq,⟨QpQ,Qdj,Qco⟩,Qdr.mono (by decide),Qdg⟩
 have QCo:"F"^3 ["thing"] false Qc8:=QCU Qpk Qjq QAD QxD QeA v0 v7 v1 mt_outs mt_period
 have QC8:"E"^Qc8 "is_seat" 3 false:="D"^QCo QCy Qpz QCM
 have QvI:"F"^4 ["thing","doors"] false QbZ:=QyT Qj9 QiZ QC8 QfF v4 vd ⟨_,rfl⟩
 have QxF:"E"^QbZ "are_seats" 4 false:="D"^QvI Qxv Qkn Qyi
 have QzU:"F"^2 ["thing","names"] false QcA:=QAM Qmx Qjq v0 v7 v1
 have QAX:"E"^QcA "is_entry" 2 false:="D"^QzU Qz8 Qmb QAx
 have QqJ:"F"^3 ["thing","names"] false Qbd:=Qql Qib QiZ QAX QfF v4 vb ⟨_,rfl⟩
 have QpR:"E"^Qbd "are_entries" 3 false:="D"^QqJ QqI Qie Qrm
 have Qz5:"F"^1 ["seat","places"] true Qcz:=QAW QmK
 have QAL:"E"^Qcz "leads_to" 1 true:="D"^Qz5 QBz QmA QBh
 have Qqm:FnOk l.prog w K mg base (CXR l.prog w) 5 _ _ ["self","clerks","entries","doors"] (SpI K (ctOf K) QaY):=Qrp QhO QvG QxF QpR Qxz QAL vt v2 vh ⟨_,rfl⟩ fo_clerk_names fo_door_names fo_entry_places fo_staff fo_first_states fo_ways
 have Qjg:MkOk l.prog w K mg base (ctOf K) "Office" 5 QaY:=⟨QE,QcE,_,_,Qae,QDm,⟨QzX,QqA,Qrv,QAa⟩,Qqm,Qrd⟩
 have Qyc:"F"^1 ["_law_lead","_law_doors"] false Qbp:=QwR QkB v1
 have QvK:"E"^Qbp "_law_place" 1 false:="D"^Qyc QvW QkM Qy5
 have Qyj:"F"^8 ["_law_script","_law_start","_law_most"] true QbW:=QvX Qki Qyg QBk Qyk QvK va v1 v3 Qjg
 have QyP:"E"^QbW "_law_drawn" 8 true:="D"^Qyj QxH QkE Qwn
 have QxY:"F"^1 ["_law_drawn_here"] true Qb0:=QwI QkP v9 v1
 have QvO:"E"^Qb0 "_law_table" 1 true:="D"^QxY QxT QkG QwT
 have QnU:"F"^1 ["self","k"] true Qar:=Qok QgG v2 fo_ways
 have mt_leads:MtOk l.prog w K mg base (ctOf K) CX0 "leads" 1 Qn (fun c=>SpD K (ctOf K) true ((fun _=>Qar) c)):=by
  intro c hc
  walk_at "h2"
  rcases hm with rfl
  ·exact⟨QE,Qck,_,_,Qae,QaP,⟨QoH,Qo9,Qg1⟩,QnU.mono (by decide),QnD⟩
 have QdR:"F"^2 ["self"] true QaF:=QqW Qh2 v2 fo_heads mt_period
 have mt_whole:MtOk l.prog w K mg base (ctOf K) CX0 "whole" 2 Qd (fun c=>SpD K (ctOf K) true ((fun _=>QaF) c)):=by
  intro c hc
  walk_at "h1"
  rcases hm with rfl | rfl | rfl | rfl
  ·exact⟨QH,Qai,_,_,QaH,Qbz,⟨QsG,QdM,QcH⟩,QdR.mono (by decide),QdQ⟩
  ·exact⟨Qs,Qai,_,_,Qad,QaK,⟨QnA,QdM,QcH⟩,QdR.mono (by decide),QdQ⟩
  ·exact⟨QI,Qai,_,_,QaI,Qbx,⟨Quq,QdM,QcH⟩,QdR.mono (by decide),QdQ⟩
  ·exact⟨QF,Qai,_,_,QaJ,Qbq,⟨Qtl,QdM,QcH⟩,QdR.mono (by decide),QdQ⟩
 have QnO:"F"^1 ["self","k"] false QS:=Qnt QgH fo_staff
 have mt_clerk:MtOk l.prog w K mg base (ctOf K) CX0 "clerk" 1 Qn (fun c=>SpD K (ctOf K) false ((fun _=>QS) c)):=by
  intro c hc
  walk_at "h2"
  rcases hm with rfl
  ·exact⟨QE,Qcj,_,_,Qae,QaP,⟨Qn0,QoV,QgX⟩,QnO.mono (by decide),QoX⟩
 have Qtj:"F"^3 ["office","k"] true QbA:=QtL QjN v9 mt_leads mt_whole mt_clerk
 have Qs3:"E"^QbA "sent_round" 3 true:="D"^Qtj Qui Qje Qsj
 have QiE:"F"^1 ["one","other"] false Qab:=QiL QeT
 have QjJ:"E"^Qab "greatest_divisor" 1 false:="D"^QiE Qja QeY QiM
 have QGg:"F"^2 ["top","bottom"] false Qdl:=QFc QGb Qmy QjJ vr
 have B_share_0:Binds K (W.fnOf "share" "share" (Qq Qdo) (Qm Qdo) (Qb Qdo) (.ref QnH) Qub Qst Qvk QrO Qk4 QtU) ["top","bottom"] []:=fun s us kin hl=>by
  match us,hl with
  | [],hh=>exact absurd hh (by simp)
  | [_],hh=>exact absurd hh (by simp)
  | [_,_],_=>exact W.binds_K kin rfl t_shareh rfl rfl rfl
  | _::_::_::_,hh=>exact absurd hh (by simp<;>omega)
 have QF2:"E"^Qdl "share" 2 false:="D"^QGg QGi Qzc B_share_0
 have QvQ:"F"^4 ["office","k","places"] true QaB:=Qw4 Qke Qs3 QF2 mt_period mt_clerk
 have QkI:"E"^QaB "shares_to" 4 true:="D"^QvQ QxI Qkm QxN
 have Qre:"F"^1 ["self"] false Q6:=QrB QhN v1 fo_clerk_names
 have mt_many:MtOk l.prog w K mg base (ctOf K) CX0 "many" 1 Qn (fun c=>SpD K (ctOf K) false ((fun _=>Q6) c)):=by
  intro c hc
  walk_at "h2"
  rcases hm with rfl
  ·exact⟨QE,QcD,_,_,Qae,QaP,⟨Qqy,QpX,Qid⟩,Qre.mono (by decide),Qqt⟩
 have QyE:FnOk l.prog w K mg base CX0 5 _ _ ["office"] (SpN K (ctOf K) Qbn):=Qy0 Qkc QkI v2 v3 mt_many
 have Qyv:DefN l.prog w K mg base (ctOf K) "shares_of" 5 Qbn:=⟨_,_,_,QyE,"A"^Qxj,Qkt,Qwc⟩
 have Qm3:"F"^1 ["self"] true Qau:=Qm6 QgN v2 fo_door_names
 have mt_doors:MtOk l.prog w K mg base (ctOf K) CX0 "doors" 1 Qn (fun c=>SpD K (ctOf K) true ((fun _=>Qau) c)):=by
  intro c hc
  walk_at "h2"
  rcases hm with rfl
  ·exact⟨QE,Qch,_,_,Qae,QaP,⟨QoQ,Qol,QgK⟩,Qm3.mono (by decide),QnS⟩
 have QrF:FnOk l.prog w K mg base CX0 5 _ _ ["office"] (SpN K (ctOf K) QaX):=Qq3 QhZ QkI v3 v1 mt_doors mt_many
 have QpY:DefN l.prog w K mg base (ctOf K) "door_shares" 5 QaX:=⟨_,_,_,QrF,"A"^QrA,Qh9,QpS⟩
 have QwG:"F"^1 ["_law_found"] false Qbl:=Qyp QkK v0 va vn
 have QxB:"E"^Qbl "_law_whole" 1 false:="D"^QwG Qxm Qkp Qv7
 have Qrc:"F"^1 ["_law_one","_law_other"] false Qbb:=Qqz Qig
 have Qp7:"E"^Qbb "_law_divisor" 1 false:="D"^Qrc Qri Qh3 QpO
 have QmV:"F"^2 ["_law_found"] false QaZ:=Qnl QgJ QxB Qp7 v0 v7 v1 vr
 have QnQ:"E"^QaZ "_law_fraction" 2 false:="D"^QmV QoA QgC Qnu
 have QAH:"F"^3 ["_law_found","_law_due","_law_low","_law_high"] false Qa5:=QzY Qmi QnQ v0 v2 v1 v9
 have QAO:"E"^Qa5 "_law_same" 3 false:="D"^QAH QBl Qlw QAk
 have QH9:"F"^9 ["_law_script"] false Qf6:=QIc QFb QyP QvO Qyv QpY QAO v1
 exact QH9
theorem walk{l:W.OpenLaw}{q:Program}{loose:List Str}{XP:(Str->Option Value)->Heap->Prop}{YP:World->Heap->Prop}{d:DefRec}{K:Params->W.Frag}(hn:l.most=some 63)(hdf:d.params.defaults=[])
 (hY:∀(w:World)(h:Heap),YP w h->(K w.params).In h) (hlaw:∀ ns:List Int,ns.length<=63->(∀ z∈ns,bitsI z<=1048576)->Qf6 [.lst (ns.map .int)]=.ok (.bl true))
 (F:∀(w:World)(mg:Str->Option Value)(fa:Addr)(h:Heap),(K w.params).In h->h.Ns mainGlobals mg->mg d.name=some (.ref fa)->
  ∃ fd:FuncData,(∀(s:Shared)(u:Value),BindsTo s fd ⟨[u],[]⟩ [("_law_script",u)])/\∀ base:Heap,(K w.params).In base->base.Ns mainGlobals mg->FnOk l.prog w (K w.params) mg base CX0 9 fa fd ["_law_script"] (SpD (K w.params) (ctOf (K w.params)) false Qf6)):
 W.WalkO q loose XP YP l.row.toRowW d [] (fun f vs=>PySem.call f vs):=
 DL.walk_of (n:=63) (k:=9) (x:="_law_script") (CX:=fun _=>CX0) (sp:=fun w=>SpD (K w.params) (ctOf (K w.params)) false Qf6) hn (by decide) hdf ⟨rfl,by decide,by decide⟩ hY F
  (fun w H a ns hl hbits _ hS=>⟨[.lst (ns.map .int)],H,Same.refl H,⟨.ref a,[],rfl,⟨a,_,rfl,hS,RepL.map_int ns⟩,rfl⟩,by rw[hlaw ns hl hbits];exact fun v H' G' _ _ _ _ r=>r⟩) fun _ _ _ _ _ z=>z
end My
open PySem PySem.W PyProof.Rows
set_option maxRecDepth 100000 in
set_option maxHeartbeats 0 in
theorem PySem.Challenge.cw_dockethall_k41_shares_told_holds : PySem.Challenge.rw_dockethall_k41_shares_told.Holds := by
 w_on;o_law;k_head;(case hw=>w_witness2)
 k_fill
 refine My.walk (l:=PySem.Challenge.rw_dockethall_k41_shares_told) rfl rfl (fun w h Y=>PySem.W.kIn_of Y) My.the_law ?F
 case F=>
  intro w mg fa h KX G hmg
  refine' My.all_mk KX G hmg ..
  all_goals try first | k_is | kit_is

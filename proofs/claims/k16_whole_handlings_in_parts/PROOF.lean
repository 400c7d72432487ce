import PyProof.Rows.All
import Wide.All
import OpenK.AllK
import Wide.FinOn
import Lean
import PyProof.EqAt
import PyProof.EqKinds
import PyProof.TupleCall
import PyProof.ListRange
import PyProof.PureStr
import PyProof.MeetsStr3
import PyProof.Draws
import PyProof.StrCalls2
import PyProof.StrBlockH
import KE.KIntText
import PySem.Challenge.RW_dockethall_k16_whole_handlings_in_parts
namespace PySem.W.Fast
def tw4655533370249472662:=0
def tw6192865721045450062:=0
def tw3545883705957710915:=0
def tw15939032296769254195:=0
def tw8932344821487391330:=0
def tw14568396738563979801:=0
def tw4084497070079980268:=0
def tw11368277071756556186:=0
def tw12841537211571936758:=0
def tw9989780400508045894:=0
def tw6767793228922770786:=0
def tw13342236597651972203:=0
def tw12069129297073653588:=0
def tw10804227198943871355:=0
def tw7528010817814699383:=0
def tw2061101985586059216:=0
def tw112855064249262805:=0
def tw8918166043891071589:=0
def tw13022552963843400286:=0
def tw13645311536361523682:=0
def tw18441385783251865739:=0
def tw3870689472372991477:=0
def tw14006875947371922161:=0
def tw7386727184130525045:=0
def tw12370461223871507244:=0
def tw1977986625613250539:=0
def tw809380881152394736:=0
def tw4347481872548600898:=0
def tw4207505978441323429:=0
def tw17176918680188050109:=0
def tw16147546461668858447:=0
def tw9511171477816190385:=0
def tw2535448708043488213:=0
def tw16616478241159976500:=0
def tw6555245883990447323:=0
def tw9468531709347544047:=0
def tw15600839447929412315:=0
def tw2698366536461710800:=0
def tw17688110163080081250:=0
def tw13485132580552892172:=0
def tw6693835979831353482:=0
def tw367137027347675887:=0
def tw7847098787522632536:=0
def tw7036876150891732110:=0
def tw12755678246793795123:=0
def tw14129641615819052490:=0
def tw15354902283386349723:=0
def tw12047558125481226387:=0
def tw2793997217906738298:=0
def tw11539981404507579447:=0
def tw14133190009239961788:=0
def tw214920607321222582:=0
def tw14403332738250082702:=0
def tw12814863335303162994:=0
def tw5076199249420130111:=0
def tw11947516038448975941:=0
def tw7366286397978954690:=0
def tw6068578706744457050:=0
def tw15519149623583092402:=0
def tw9230078400142679229:=0
def tw14584577498084935832:=0
def tw7791962205218898819:=0
def tw4831830176325447919:=0
def tw17435039706900266084:=0
def tw5171345389993658575:=0
def tw12427547491364411771:=0
def tw11878769955087134281:=0
def tw1137526277716445775:=0
end PySem.W.Fast
set_option Elab.async false
set_option linter.all false
set_option maxRecDepth 100000
theorem oi{a b:Prop}(h:a):a∨b:=Or.inl h
theorem dk{p:Prop}(h:p:=by decide +kernel):p:=h
namespace L2
open PySem PySem.Spec PyProof.Rows
abbrev Key:=Sum Int Str
def keyIs:Key->Value->Bool
 | .inl k,v=>Value.isInt k v
 | .inr x,v=>Value.isStrOf x v
def keyH(w:World):Key->Int
 | .inl k=>hashInt k
 | .inr x=>hashStr w x
theorem Qas:∀{k:Key}{v:Value},keyIs k v=true->(∃ i t,k=Sum.inl i/\v=Value.int i t)∨(∃ x t,k=Sum.inr x/\v=Value.str x t)
 | .inl i,v,h=>by
  obtain⟨t,e⟩:=Value.isInt_shape (k:=i) (v:=v) h
  exact .inl ⟨i,t,rfl,e⟩
 | .inr x,v,h=>by
  obtain⟨t,e⟩:=Value.isStrOf_shape (x:=x) (v:=v) h
  exact .inr ⟨x,t,rfl,e⟩
theorem Qu8(a b:Int):decide ((Sum.inl a:Key)=Sum.inl b)=(a == b):=by
 by_cases e:a=b
 ·subst e;simp
 ·have h:¬ (Sum.inl a:Key)=Sum.inl b:=fun q=>e (Sum.inl.inj q)
  rw[decide_eq_false h]
  exact(beq_eq_false_iff_ne.mpr e).symm
theorem Qvs(a b:Str):decide ((Sum.inr a:Key)=Sum.inr b)=decide (a=b):=by
 by_cases e:a=b
 ·subst e;simp
 ·have h:¬ (Sum.inr a:Key)=Sum.inr b:=fun q=>e (Sum.inr.inj q)
  rw[decide_eq_false h,decide_eq_false e]
theorem Quo(a:Int)(b:Str):decide ((Sum.inl a:Key)=Sum.inr b)=false:=decide_eq_false (fun q=>nomatch q)
theorem Qu2(a:Str)(b:Int):decide ((Sum.inr a:Key)=Sum.inl b)=false:=decide_eq_false (fun q=>nomatch q)
def QoN(prog:Program)(w:World):PySem.KeyKind prog w Key where
 is:=keyIs
 hash:=keyH w
 inj:=fun v a b ha hb=>by
  rcases Qas ha with⟨i,t,rfl,rfl⟩ | ⟨x,t,rfl,rfl⟩
  ·rcases Qas hb with⟨j,u,rfl,e⟩ | ⟨y,u,rfl,e⟩
   ·injection e with e1 _;rw[e1]
   ·exact nomatch e
  ·rcases Qas hb with⟨j,u,rfl,e⟩ | ⟨y,u,rfl,e⟩
   ·exact nomatch e
   ·injection e with e1 _;rw[e1]
 byValue:=fun k v h=>by
  rcases Qas h with⟨i,t,rfl,rfl⟩ | ⟨x,t,rfl,rfl⟩<;>rfl
 pyHash:=fun hv h=>by
  rcases Qas hv with⟨i,t,rfl,rfl⟩ | ⟨x,t,rfl,rfl⟩
  ·exact wpAny_pyHash_int h
  ·exact wpAny_pyHash_str h
 eqBool:=fun hu hv h=>by
  rcases Qas hu with⟨i,t,rfl,rfl⟩ | ⟨x,t,rfl,rfl⟩
  ·rcases Qas hv with⟨j,u,rfl,rfl⟩ | ⟨y,u,rfl,rfl⟩
   ·rw[Qu8]at h;exact wpAny_eqBool_int h
   ·rw[Quo]at h;exact SeqAt.EqAt.int_str i t y u _ _ _ _ h
  ·rcases Qas hv with⟨j,u,rfl,rfl⟩ | ⟨y,u,rfl,rfl⟩
   ·rw[Qu2]at h;exact SeqAt.EqAt.str_int x t j u _ _ _ _ h
   ·rw[Qvs]at h;exact wpAny_eqBool_str h
 «strs»:=fun k x t v h=>by
  rcases Qas h with⟨i,u,rfl,e⟩ | ⟨y,u,rfl,e⟩
  ·exact nomatch e
  ·injection e with e1 _
   subst e1
   cases v<;>rfl
end L2
namespace L2
open PySem PySem.Spec PyProof.Rows
inductive V where
 | non | bl (b:Bool) | int (i:Int) | str (x:Str) | byt (b:Array UInt8) | flt (b:UInt64) | ref (a:Addr) | ty (n:String)
 deriving DecidableEq
def RelV:V->Value->Prop
 | .non,u=>u=Value.none
 | .bl b,u=>u=Value.bool b
 | .int i,u=>∃ t,u=Value.int i t
 | .str x,u=>∃ t,u=Value.str x t
 | .byt b,u=>∃ t,u=Value.bytes b t
 | .flt b,u=>∃ t,u=Value.float b t
 | .ref a,u=>u=Value.ref a
 | .ty n,u=>u=Value.type n
abbrev Vals:List V->List Value->Prop:=Paired RelV
theorem Vals.length{xs:List V}{us:List Value}(r:Vals xs us):xs.length=us.length:=Paired.length r
theorem Vals.get:∀{xs:List V}{us:List Value}{i:Nat}{x:V},Vals xs us->xs[i]?=some x->∃ u,us[i]?=some u/\RelV x u
 | _,_,_,_,.nil,e=>by simp at e
 | _,_,0,_,.cons r _,e=>by simp at e;subst e;exact⟨_,rfl,r⟩
 | _,_,i+1,x,.cons _ t,e=>by
  obtain⟨u,h1,h2⟩:=Vals.get (i:=i) (x:=x) t (by simpa using e)
  exact⟨u,by simpa using h1,h2⟩
theorem Vals.set{x:V}{u:Value}(r:RelV x u):∀{xs:List V}{us:List Value}(i:Nat),Vals xs us->Vals (xs.set i x) (us.set i u)
 | _,_,_,.nil=>.nil
 | _,_,0,.cons _ t=>.cons r t
 | _,_,i+1,.cons q t=>.cons q (Vals.set r i t)
theorem Vals.append:∀{xs ys:List V}{us ws:List Value},Vals xs us->Vals ys ws->Vals (xs++ys) (us++ws)
 | _,_,_,_,.nil,s=>s
 | _,_,_,_,.cons r t,s=>.cons r (Vals.append t s)
theorem Vals.take:∀{xs:List V}{us:List Value}(n:Nat),Vals xs us->Vals (xs.take n) (us.take n)
 | _,_,0,_=>.nil
 | _,_,_+1,.nil=>.nil
 | _,_,n+1,.cons r t=>.cons r (Vals.take n t)
theorem Vals.drop:∀{xs:List V}{us:List Value}(n:Nat),Vals xs us->Vals (xs.drop n) (us.drop n)
 | _,_,0,r=>r
 | _,_,_+1,.nil=>.nil
 | _,_,n+1,.cons _ t=>Vals.drop n t
def RelO:Option V->Option Value->Prop
 | some v,some u=>RelV v u
 | none,none=>True
 | _,_=>False
def KV{κ:Type}:List (κ×V)->List (κ×Value)->Prop:=Paired fun(p:κ×V) (q:κ×Value)=>p.1=q.1/\RelV p.2 q.2
def kV:Key->V
 | .inl i=>.int i
 | .inr x=>.str x
inductive HO where
 /-- a list -/
 | lst (xs:List V)
 /-- a tuple (never changes) -/
 | tup (xs:List V)
 /-- a dict whose keys are ints and texts;one whose keys are tuples of ints and texts (the empty one is both) -/
 | dK (kvs:List (Key×V)) | dT (kvs:List (List Key×V))
 /-- a set of ints: its members,its size -/
 | set (S:Int->Bool) (n:Nat)
 /-- an instance of the class at C,its dict at dx,its attributes -/
 | ins (C dx:Addr) (fs:List (Str×V))
 /-- the dict of the instance at x -/
 | own (x:Addr)
 /-- the dict of an exception -/
 | xd (fs:List (Str×V))
 /-- a bound method,f of x -/
 | met (f x:Addr)
 /-- a range object lo,lo+1, .. below hi -/
 | rng (lo hi:Int)
 /-- a thing that is known to the object (the script;a dict while a loop walks it): read,never written while it is so -/
 | frz (o:Obj) (u:HO)
 /-- a code object's table -/
 | tbl (ps:Array Value)
 /-- any other thing,by what is true of its one object (a def of one's own: SetO a S n:=HO.ext fun h => ..) -/
 | ext (φ : Heap->Prop)
abbrev Hp:=Addr->Option HO
def upd(H:Hp)(a:Addr)(o:HO):Hp:=fun b=>if b=a then some o else H b
theorem Qx{H:Hp}{a:Addr}{o:HO}:upd H a o a=some o:=by unfold upd;rw[if_pos rfl]
theorem Qh{H:Hp}{a b:Addr}{o:HO}(h:b≠a):upd H a o b=H b:=by unfold upd;rw[if_neg h]
theorem QsU{H:Hp}{a:Addr}{o u:HO}:upd (upd H a o) a u=upd H a u:=by
 funext b;unfold upd;split<;>rfl
theorem QJ{H:Hp}{a b:Addr}{o:HO}(h:H a=some o)(h':H b=none):a≠b:=by
 intro e;subst e;rw[h]at h';cases h'
section
variable(P:Program)(w:World)
def ObjOk(H:Hp)(h:Heap)(a:Addr):HO->Prop
 | .lst xs=>xs.length<=sizeLine/\∃(its:List Value)(n:Nat),Vals xs its/\h.get? a=some { cls:=.type "list",data:=.seq its.toArray n }
 | .tup xs=>xs.length<=sizeLine/\∃ its:List Value,Vals xs its/\IsTup h a its.toArray
 | .dK kvs=>kvs.length<=sizeLine/\(a == sysModules)=false/\∃ vs,KV kvs vs/\h.DictOf (QoN P w) a vs
 | .dT kvs=>kvs.length<=sizeLine/\(a == sysModules)=false/\∃ xs:List (List Key×Addr×Value),
  Paired (fun(p:List Key×V) (q:List Key×Addr×Value)=>p.1=q.1/\H q.2.1=some (.tup (p.1.map kV))/\RelV p.2 q.2.2) kvs xs/\
  ∃ o es ep,h.get? a=some o/\o.ExactDict/\o.data=.dict es ep/\es.toList=xs.map (entryOfKey (tupleKind (QoN P w)))/\(xs.map (·.1)).Nodup
 | .set S n=>h.SetOf (intKind P w) a S n
 | .ins C dx fs=>H dx=some (.own a)/\fs.length<=1000/\dx≠a/\h.get? a=some (PySem.W.instObj C dx)/\
  ∃ mA,h.Ns1 dx mA/\(∀ f,RelO (fs.lookup f) (mA f))/\PySem.Within mA (fs.map (·.1))
 | .own _=>∃ o,h.get? a=some o
 | .xd fs=>∃ mA,h.Ns1 a mA/\∀ f,RelO (fs.lookup f) (mA f)
 | .rng lo hi=>∃ t u v,h.get? a=some { cls:=.type "range",data:=.fields #[.int lo t,.int hi u,.int 1 v] }
 | .frz o u=>h.get? a=some o/\ObjOk H h a u
 | .tbl ps=>h.get? a=some { cls:=.none,data:=.fields ps }
 | .met f x=>h.get? a=some (PySem.W.methodObj (.ref f) (.ref x))
 | .ext φ => φ h/\(∃ o,h.get? a=some o)/\∀ h1 h2:Heap, φ h1->(∀ o,h1.get? a=some o->h2.get? a=some o) -> φ h2
def HOk(H:Hp)(h:Heap):Prop:=∀ a o,H a=some o->ObjOk P w H h a o
end
section
variable{P:Program}{w:World}{H H':Hp}{h h':Heap}{a:Addr}{o:HO}
theorem ObjOk.lt(x:ObjOk P w H h a o):a<h.objs.size:=by
 cases o with
 | lst xs=>obtain⟨_,_,_,_,e⟩:=x;exact Heap.lt_size e
 | tup xs=>obtain⟨_,_,_,p⟩:=x;exact p.lt
 | dK kvs=>obtain⟨_,_,_,_,o,_,_,e,_⟩:=x;exact Heap.lt_size e
 | dT kvs=>obtain⟨_,_,_,_,o,_,_,e,_⟩:=x;exact Heap.lt_size e
 | set S n=>obtain⟨o,_,_,_,e,_⟩:=x;exact Heap.lt_size e
 | ins C dx fs=>obtain⟨_,_,_,e,_⟩:=x;exact Heap.lt_size e
 | own y=>obtain⟨_,e⟩:=x;exact Heap.lt_size e
 | xd fs=>obtain⟨_,⟨_,_,_,e,_⟩,_⟩:=x;exact Heap.lt_size e
 | rng lo hi=>obtain⟨_,_,_,e⟩:=x;exact Heap.lt_size e
 | frz ob u=>obtain⟨e,_⟩:=x;exact Heap.lt_size e
 | tbl ps=>exact Heap.lt_size (show h.get? a=some _ from x)
 | met f y=>exact Heap.lt_size (show h.get? a=some _ from x)
 | ext φ => obtain⟨_,⟨_,e⟩,_⟩:=x;exact Heap.lt_size e
theorem Paired.mapP{α β:Type}{F G:α->β->Prop}:∀{l₁:List α}{l₂ : List β},Paired F l₁ l₂ -> (∀ a b,F a b->G a b)->Paired G l₁ l₂
 | _,_,.nil,_=>.nil
 | _,_,.cons r t,f=>.cons (f _ _ r) (Paired.mapP t f)
theorem ObjOk.stay(x:ObjOk P w H h a o)(k:∀ b u,(b=a∨H b=some (.own a))->h.get? b=some u->h'.get? b=some u)
 (ho:∀ b,H b=some (.own a)->H' b=some (.own a)) (ht:∀ b xs,H b=some (.tup xs)->H' b=some (.tup xs)):ObjOk P w H' h' a o:=by
 induction o with
 | lst xs=>obtain⟨z,its,n,r,e⟩:=x;exact⟨z,its,n,r,k _ _ (.inl rfl) e⟩
 | tup xs=>obtain⟨z,its,r,ob,e,c⟩:=x;exact⟨z,its,r,ob,k _ _ (.inl rfl) e,c⟩
 | dK kvs=>obtain⟨z,y,vs,r,ob,es,ep,e,c⟩:=x;exact⟨z,y,vs,r,ob,es,ep,k _ _ (.inl rfl) e,c⟩
 | dT kvs=>
  obtain⟨z,y,xs,r,ob,es,ep,e,c⟩:=x
  exact⟨z,y,xs,Paired.mapP r fun p q z=>⟨z.1,ht _ _ z.2.1,z.2.2⟩,ob,es,ep,k _ _ (.inl rfl) e,c⟩
 | set S n=>obtain⟨ob,es,ep,t,e,c⟩:=x;exact⟨ob,es,ep,t,k _ _ (.inl rfl) e,c⟩
 | ins C dx fs=>
  obtain⟨d,z,ne,e,mA,⟨od,es,ep,e2,c⟩,r⟩:=x
  exact⟨ho _ d,z,ne,k _ _ (.inl rfl) e,mA,⟨od,es,ep,k _ _ (.inr d) e2,c⟩,r⟩
 | own y=>obtain⟨ob,e⟩:=x;exact⟨ob,k _ _ (.inl rfl) e⟩
 | xd fs=>obtain⟨mA,⟨od,es,ep,e,c⟩,r⟩:=x;exact⟨mA,⟨od,es,ep,k _ _ (.inl rfl) e,c⟩,r⟩
 | rng lo hi=>obtain⟨t,u,v,e⟩:=x;exact⟨t,u,v,k _ _ (.inl rfl) e⟩
 | frz ob u ih=>obtain⟨e,q⟩:=x;exact⟨k _ _ (.inl rfl) e,ih q⟩
 | tbl ps=>
  have e:h.get? a=some { cls:=.none,data:=.fields ps }:=x
  show h'.get? a=some { cls:=.none,data:=.fields ps }
  exact k a _ (.inl rfl) e
 | met f y=>
  have e:h.get? a=some (PySem.W.methodObj (.ref f) (.ref y)):=x
  show h'.get? a=some (PySem.W.methodObj (.ref f) (.ref y))
  exact k a _ (.inl rfl) e
 | ext φ => obtain⟨p,⟨o,e⟩,st⟩:=x;exact⟨st _ _ p fun o q=>k _ _ (.inl rfl) q,⟨o,k _ _ (.inl rfl) e⟩,st⟩
theorem HOk.lt(x:HOk P w H h)(e:H a=some o):a<h.objs.size:=(x a o e).lt
theorem HOk.fresh(x:HOk P w H h)(e:h.objs.size<=a):H a=none:=by
 cases q:H a with
 | none=>rfl
 | some u=>exact absurd (Nat.lt_of_lt_of_le (x.lt q) e) (Nat.lt_irrefl _)
theorem HOk.kept(x:HOk P w H h)(k:∀ b u,h.get? b=some u->h'.get? b=some u):HOk P w H h':=fun a o e=>
 (x a o e).stay (fun b u _ q=>k b u q) (fun _ q=>q) fun _ _ q=>q
theorem HOk.laid(x:HOk P w H h)(k:∀ b u,h.get? b=some u->h'.get? b=some u)(hp:h.objs.size<=a)(new:ObjOk P w (upd H a o) h' a o):HOk P w (upd H a o) h':=fun b u e=>by
 have hn:=x.fresh hp
 by_cases hb:b=a
 ·subst hb;rw[Qx]at e;cases e;exact new
 ·rw[Qh hb]at e
  exact(x b u e).stay (fun c v _ q=>k c v q) (fun c q=>by rw[Qh (QJ q hn)];exact q) fun c xs q=>by rw[Qh (QJ q hn)];exact q
end
def Rd(H:Hp)(a:Addr)(u:HO):Prop:=H a=some u∨∃ o,H a=some (.frz o u)
theorem Rd.of{H:Hp}{a:Addr}{u:HO}(h:H a=some u):Rd H a u:=.inl h
theorem Rd.ok{P:Program}{w:World}{H:Hp}{h:Heap}{a:Addr}{u:HO}(r:Rd H a u)(x:HOk P w H h):ObjOk P w H h a u:=by
 rcases r with r | ⟨o,r⟩
 ·exact x a u r
 ·obtain⟨_,q⟩:=x a _ r
  exact q
def Mut:Option HO->Prop
 | some (.lst _)=>True
 | some (.dK _)=>True
 | some (.dT _)=>True
 | some (.set _ _)=>True
 | some (.ins _ _ _)=>True
 | some (.ext _)=>True
 | _=>False
section
variable{P:Program}{w:World}{H:Hp}{h h':Heap}{x e:Addr}{o':HO}
theorem HOk.write(ok:HOk P w H h)(mu:Mut (H x))(he:e=x∨H e=some (.own x))(k:∀ b u,b≠e->h.get? b=some u->h'.get? b=some u)(heo:∃ u,h'.get? e=some u)
 (new:ObjOk P w (upd H x o') h' x o'):HOk P w (upd H x o') h':=fun b u q=>by
 have nown:∀ c y,H c=some (.own y)->c≠x:=fun c y r z=>by subst z;rw[r]at mu;exact mu
 have ntup:∀ c xs,H c=some (.tup xs)->c≠x:=fun c xs r z=>by subst z;rw[r]at mu;exact mu
 by_cases hb:b=x
 ·subst hb;rw[Qx]at q;cases q;exact new
 ·rw[Qh hb]at q
  by_cases hbe:b=e
  ·have q':H b=some (.own x):=by
    rcases he with z | z
    ·exact absurd (hbe.trans z) hb
    ·rw[hbe];exact z
   rw[q]at q';cases q'
   obtain⟨v,hv⟩:=heo
   exact⟨v,by rw[hbe];exact hv⟩
  ·refine(ok b u q).stay (fun c v hc r=>k c v ?_ r) (fun c r=>by rw[Qh (nown c b r)];exact r) fun c xs r=>by rw[Qh (ntup c xs r)];exact r
   rcases hc with rfl | hc
   ·exact hbe
   ·rintro rfl
    rcases he with z | z
    ·exact nown c b hc z
    ·rw[hc]at z;cases z;exact hb rfl
end
structure Un(fs ex:List Addr)(H H':Hp)(h h':Heap):Prop where
 keep:∀ b o,h.get? b=some o->H b=none->b∉fs->b∉ex->h'.get? b=some o
 slot:∀ b o,h.get? b=some o->H b=none->b∈fs->b∉ex->∃ sl,h'.get? b=some { o with slots:=sl }
 free:∀ b o,h.get? b=some o->H b=none->b∉ex->H' b=none
 there:∀ b o,h.get? b=some o->b∉ex->∃ o',h'.get? b=some o'
 tups:∀ b xs,H b=some (.tup xs)->H' b=some (.tup xs)
 frzs:∀ b o u,H b=some (.frz o u)->H' b=some (.frz o u)
 tbls:∀ b ps,H b=some (.tbl ps)->∃ more,H' b=some (.tbl (ps++more))
section
variable{fs fs' ex ex':List Addr}{H H1 H2:Hp}{h h1 h2 h':Heap}{a x e:Addr}{o:HO}
theorem Un.any(u:Un fs ex H H1 h h1){b:Addr}{ob:Obj}(q:h.get? b=some ob)(n:H b=none)(hx:b∉ex):∃ sl,h1.get? b=some { ob with slots:=sl }:=by
 by_cases hb:b∈fs
 ·exact u.slot b ob q n hb hx
 ·exact⟨ob.slots,u.keep b ob q n hb hx⟩
theorem Un.trans(a:Un fs ex H H1 h h1)(b:Un fs ex H1 H2 h1 h2):Un fs ex H H2 h h2 where
 keep:=fun c ob q n hc hx=>b.keep c ob (a.keep c ob q n hc hx) (a.free c ob q n hx) hc hx
 slot:=fun c ob q n hc hx=>by
  obtain⟨sl,e1⟩:=a.slot c ob q n hc hx
  obtain⟨sl',e2⟩:=b.slot c _ e1 (a.free c ob q n hx) hc hx
  exact⟨sl',e2⟩
 free:=fun c ob q n hx=>by
  obtain⟨o',e1⟩:=a.there c ob q hx
  exact b.free c o' e1 (a.free c ob q n hx) hx
 there:=fun c ob q hx=>by
  obtain⟨o',e1⟩:=a.there c ob q hx
  exact b.there c o' e1 hx
 tups:=fun c xs q=>b.tups c xs (a.tups c xs q)
 frzs:=fun c ob xs q=>b.frzs c ob xs (a.frzs c ob xs q)
 tbls:=fun c ps q=>by
  obtain⟨m1,e1⟩:=a.tbls c ps q
  obtain⟨m2,e2⟩:=b.tbls c _ e1
  exact⟨m1++m2,by rw[e2,Array.append_assoc]⟩
theorem Un.kept(k:∀ b u,h.get? b=some u->h'.get? b=some u):Un fs ex H H h h':=
 ⟨fun b ob q _ _ _=>k b ob q,fun b ob q _ _ _=>⟨ob.slots,k b ob q⟩,fun _ _ _ n _=>n,fun b ob q _=>⟨ob,k b ob q⟩,fun _ _ q=>q,fun _ _ _ q=>q,fun _ ps q=>⟨#[],by rw[q];simp⟩⟩
theorem Un.refl:Un fs ex H H h h:=Un.kept fun _ _ q=>q
theorem Un.laid(k:∀ b u,h.get? b=some u->h'.get? b=some u)(hp:h.objs.size<=a)(hn:H a=none):Un fs ex H (upd H a o) h h' where
 keep:=fun b u q _ _ _=>k b u q
 slot:=fun b u q _ _ _=>⟨u.slots,k b u q⟩
 free:=fun b u q n _=>by rw[Qh (Nat.ne_of_lt (Nat.lt_of_lt_of_le (Heap.lt_size q) hp))];exact n
 there:=fun b u q _=>⟨u,k b u q⟩
 tups:=fun b xs q=>by rw[Qh (QJ q hn)];exact q
 frzs:=fun b u xs q=>by rw[Qh (QJ q hn)];exact q
 tbls:=fun b ps q=>⟨#[],by rw[Qh (QJ q hn),q];simp⟩
theorem Un.write(mu:Mut (H x))(he:e=x∨H e=some (.own x))(k:∀ b u,b≠e->h.get? b=some u->h'.get? b=some u)(heo:∃ u,h'.get? e=some u):Un fs ex H (upd H x o) h h':=by
 have hx:∀ b,H b=none->b≠x:=fun b n z=>by subst z;rw[n]at mu;exact mu
 have hb:∀ b,H b=none->b≠e:=fun b n z=>by
  subst z
  rcases he with r | r
  ·exact hx b n r
  ·rw[n]at r;cases r
 have hm:∀ b u,H b=some u->¬ Mut (some u)->b≠x:=fun b u q nm z=>by subst z;rw[q]at mu;exact nm mu
 refine⟨fun b u q n _ _=>k b u (hb b n) q,fun b u q n _ _=>⟨u.slots,k b u (hb b n) q⟩,fun b u q n _=>by rw[Qh (hx b n)];exact n,fun b u q _=>?_,
  fun b xs q=>by rw[Qh (hm b _ q fun z=>z)];exact q,fun b u xs q=>by rw[Qh (hm b _ q fun z=>z)];exact q,fun b ps q=>⟨#[],by rw[Qh (hm b _ q fun z=>z),q];simp⟩⟩
 by_cases hbe:b=e
 ·subst hbe;exact heo
 ·exact⟨u,k b u hbe q⟩
end
def trk(h:Heap)(H:Hp):List Addr:=(List.range h.objs.size).filter fun a=>(H a).isSome
def hidT(h:Heap)(H:Hp):Heap:=PySem.W.hideAll h (trk h H)
theorem Qqp(h:Heap)(H:Hp):(hidT h H).objs.size=h.objs.size:=PySem.W.hideAll_size _ _
theorem Qsl{h:Heap}{H:Hp}{b:Addr}{o:Obj}(e:h.get? b=some o)(n:H b=none):(hidT h H).get? b=some o:=
 PySem.W.hideAll_get _ e fun hm=>by
  have q:(H b).isSome=true:=(List.mem_filter.mp hm).2
  rw[n]at q;simp at q
theorem QsQ{h:Heap}{H:Hp}{b:Addr}{o:Obj}(e:(hidT h H).get? b=some o):h.get? b=some o/\H b=none:=by
 have e':h.get? b=some o:=PySem.W.of_hideAll (trk h H) e
 refine⟨e',?_⟩
 cases q:H b with
 | none=>rfl
 | some x=>
  have hm:b∈trk h H:=List.mem_filter.mpr ⟨List.mem_range.mpr (Heap.lt_size e'),by simp[q]⟩
  have z:(hidT h H).get? b=none:=PySem.W.hideAll_none (trk h H) hm
  rw[z]at e;cases e
def Qs2(g h:Heap)(L:Addr):List (Addr×Obj):=(List.range h.objs.size).filterMap fun a=>if a=L∨(g.get? a).isSome=true then none else(h.get? a).map fun o=>(a,o)
def rest(g h:Heap)(L d:Addr):List (Addr×Obj):=(Qs2 g h L).filter fun p=>decide (p.1≠d)
end L2
namespace L2
open PySem PySem.Spec PyProof.Rows
structure Mod(K:PySem.W.Frag)(mg:Str->Option Value)(base:Heap):Prop where
 kin:K.In base
 glob:base.Ns mainGlobals mg
 blt:∃ mb,base.Ns builtinsNs mb/\∀ x:Str,x≠"__name__"->mb x=bootBuiltins x
 nolimit:base.NoLimit
structure Cx where
 prog:Program
 w:World
 K:PySem.W.Frag
 mg:Str->Option Value
 base:Heap
 A:Around
 N:List Str
 s₀:Shared
 H₀:Hp
 env:Env
 outer:List Env
 stack:List Env
 ex:List Addr
 fn:Str->Bool
 calm:Bool
 pn:List (Addr×Obj)
 xe:Value->Shared->Prop
def frs(l:List Env):List Addr:=l.filterMap (·.frame)
abbrev Cx.fs(X:Cx):List Addr:=frs X.outer
def Vis(sc:Scope)(x:Str):Prop:=sc.names.lookup x=some .local∨sc.names.lookup x=some .cell∨sc.names.lookup x=some .free
def Loc(sc:Scope)(x:Str):Prop:=sc.names.lookup x=some .local∨sc.names.lookup x=some .cell
def Look(env:Env)(h:Heap)(m:Str->Option Value)(x:Str)(u:Value):Prop:=
 (env.kindOf x=some .local/\m x=some u)∨((env.kindOf x=some .cell∨env.kindOf x=some .free)/\∃ c,env.cells.lookup x=some c/\h.IsCell c (some u))
structure Cx.Ok(X:Cx):Prop where
 mod:Mod X.K X.mg X.base
 kind:X.env.scope.kind=.function
 glob:X.env.globals=mainGlobals
 blt:X.env.builtins=builtinsNs
 above:X.s₀.heap.objs.size<=X.env.locals
 inj:∀ x y c,X.env.cells.lookup x=some c->X.env.cells.lookup y=some c->x=y
 has:∀ x,(X.env.kindOf x=some .cell∨X.env.kindOf x=some .free)->∃ c,X.env.cells.lookup x=some c
 cab:∀ x c,X.fn x=true->X.env.cells.lookup x=some c->X.s₀.heap.objs.size<=c
 hd:X.calm=true->X.A.handled=none
 frames:X.A.frames=some X.stack
 stk:X.stack=X.outer∨(X.stack=X.env::X.outer/\X.env.frame=some X.env.locals)
 exf:∀ b∈X.ex,b≠X.env.locals/\∀ x c,X.env.cells.lookup x=some c->c≠b
 bs:∀ b o,X.base.get? b=some o->X.s₀.heap.get? b=some o/\X.H₀ b=none
 bsz:X.base.objs.size<=X.s₀.heap.objs.size
 noex:∀ b o,X.base.get? b=some o->b∉X.ex
 exfs:∀ b∈X.ex,b∉X.fs
 funs:X.s₀.heap.FunFrames X.base X.outer
 frf:∀ b∈X.fs,X.H₀ b=none
structure Inv(X:Cx)(pins:List (Addr×Obj))(σ:List (Option V))(H:Hp)(s:Shared):Prop where
 ok:X.Ok
 os:s.os=X.s₀.os
 bare:AllBare s.gens
 base:Un X.fs X.ex X.H₀ H X.s₀.heap s.heap
 loc:∃ m,s.heap.Ns X.env.locals m/\∀(i:Nat)(x:Str)(v:V),X.N[i]?=some x->σ[i]?=some (some v)->Vis X.env.scope x->∃ u,RelV v u/\Look X.env s.heap m x u
 cell:∀ x c,X.env.cells.lookup x=some c->∃ v,s.heap.IsCell c v
 free:H X.env.locals=none
 freeC:∀ x c,X.env.cells.lookup x=some c->H c=none
 pin:∀ p∈X.pn++pins,s.heap.get? p.1=some p.2/\H p.1=none/\p.1≠X.env.locals/\p.1∉X.fs/\∀ v,p.2.data≠.cell v
 hok:HOk X.prog X.w H s.heap
 len:σ.length=X.N.length
section
variable{X:Cx}{pins:List (Addr×Obj)}{σ:List (Option V)}{H H':Hp}{s:Shared}{h':Heap}
theorem Cx.Ok.nofr(ok:X.Ok){b:Addr}{o:Obj}(e:X.base.get? b=some o):b∉X.fs:=fun hb=>by
 have:=(ok.funs.mem hb).1
 rw[e]at this;cases this
theorem Inv.bs(I:Inv X pins σ H s):∀ b o,X.base.get? b=some o->s.heap.get? b=some o/\H b=none:=fun b o e=>
 ⟨I.base.keep b o (I.ok.bs b o e).1 (I.ok.bs b o e).2 (I.ok.nofr e) (I.ok.noex b o e),I.base.free b o (I.ok.bs b o e).1 (I.ok.bs b o e).2 (I.ok.noex b o e)⟩
theorem Inv.bk(I:Inv X pins σ H s):∀ b o,X.base.get? b=some o->s.heap.get? b=some o:=fun b o e=>(I.bs b o e).1
theorem Inv.mod(I:Inv X pins σ H s):Mod X.K X.mg X.base:=I.ok.mod
theorem Inv.kIn(I:Inv X pins σ H s):X.K.In s.heap:=I.ok.mod.kin.keeps I.bk
theorem Inv.fr(I:Inv X pins σ H s):∃ m,Fr X.base X.env.locals s.heap m:=
 let ⟨m,hn,_⟩:=I.loc
 ⟨m,hn,I.bk,Nat.le_trans I.ok.bsz I.ok.above⟩
theorem Inv.lt(I:Inv X pins σ H s):X.env.locals<s.heap.objs.size:=let ⟨_,hn,_⟩:=I.loc;hn.lt
theorem Inv.sz(I:Inv X pins σ H s):X.s₀.heap.objs.size<=s.heap.objs.size:=Nat.le_trans I.ok.above (Nat.le_of_lt I.lt)
theorem Inv.nofs(I:Inv X pins σ H s){a:Addr}(h:s.heap.objs.size<=a):a∉X.fs:=fun hb=>by
 obtain⟨_,o,ho,_⟩:=I.ok.funs.mem hb
 exact absurd (Nat.lt_of_lt_of_le (Heap.lt_size ho) (Nat.le_trans I.sz h)) (Nat.lt_irrefl _)
theorem Inv.cne(I:Inv X pins σ H s):∀ x c,X.env.cells.lookup x=some c->c≠X.env.locals:=fun x c e z=>by
 obtain⟨v,o,ho,hd⟩:=I.cell x c e
 obtain⟨m,⟨o',es,ep,ho',hd',_⟩,_⟩:=I.loc
 rw[z,ho']at ho;cases ho;rw[hd']at hd;cases hd
theorem Inv.funs(I:Inv X pins σ H s):s.heap.FunFrames X.base X.outer:=by
 have all:∀(l:List Env),(∀ b∈frs l,b∈X.fs)->X.s₀.heap.FunFrames X.base l->s.heap.FunFrames X.base l:=by
  intro l
  induction l with
  | nil=>intro _ _;trivial
  | cons env r ih=>
   intro hs hl
   obtain⟨hk,⟨L,o,hf,hn,ho,hd⟩,hr⟩:=hl
   have hL:L∈X.fs:=hs L (by unfold frs;rw[List.filterMap_cons,hf];exact List.mem_cons_self)
   obtain⟨sl,e⟩:=I.base.slot L o ho (I.ok.frf L hL) hL fun z=>I.ok.exfs L z hL
   exact⟨hk,⟨L,_,hf,hn,e,hd⟩,ih (fun b hb=>hs b (by unfold frs;rw[List.filterMap_cons,hf];exact List.mem_cons_of_mem _ hb)) hr⟩
 exact all X.outer (fun _ hb=>hb) I.ok.funs
theorem Inv.stack(I:Inv X pins σ H s):s.heap.FunFrames X.base X.stack:=by
 rcases I.ok.stk with e | ⟨e,hf⟩
 ·rw[e];exact I.funs
 ·rw[e]
  obtain⟨m,hn,_⟩:=I.loc
  refine .cons (by rw[I.ok.kind];decide) hf hn ?_ I.funs
  exact Heap.get?_none_of_le (Nat.le_trans I.ok.bsz I.ok.above)
theorem Inv.stkSub(I:Inv X pins σ H s):∀ b∈frs X.stack,b∈X.env.locals::X.fs:=fun b hb=>by
 rcases I.ok.stk with e | ⟨e,hf⟩
 ·rw[e]at hb;exact List.mem_cons_of_mem _ hb
 ·rw[e]at hb
  unfold frs at hb
  rw[List.filterMap_cons,hf]at hb
  exact hb
theorem Inv.stkFree(I:Inv X pins σ H s):∀ b∈frs X.stack,H b=none:=fun b hb=>by
 rcases List.mem_cons.mp (I.stkSub b hb) with e | hb
 ·rw[e];exact I.free
 ·obtain⟨_,o,ho,_⟩:=I.ok.funs.mem hb
  exact I.base.free b o ho (I.ok.frf b hb) fun z=>I.ok.exfs b z hb
theorem Inv.step{g':Array GenState}{t':Nat}{d':Drawn}{ch:List Addr}(I:Inv X pins σ H s)
 (hch:∀ b∈ch,(b∈X.ex∨X.s₀.heap.objs.size<=b)/\b≠X.env.locals/\(∀ x c,X.env.cells.lookup x=some c->c≠b)/\∀ p∈X.pn++pins,p.1≠b)
 (keep:∀ b o,b≠X.env.locals->b∉X.fs->b∉ch->s.heap.get? b=some o->H b=none->h'.get? b=some o)
 (slot:∀ b o,b≠X.env.locals->b∈X.fs->b∉ch->s.heap.get? b=some o->H b=none->∃ sl,h'.get? b=some { o with slots:=sl }) (free:∀ b o,b∉ch->s.heap.get? b=some o->H b=none->H' b=none)
 (there:∀ b o,b∉ch->s.heap.get? b=some o->∃ o',h'.get? b=some o')
 (tups:∀ b xs,H b=some (.tup xs)->H' b=some (.tup xs)) (frzs:∀ b o u,H b=some (.frz o u)->H' b=some (.frz o u)) (tbls:∀ b ps,H b=some (.tbl ps)->∃ more,H' b=some (.tbl (ps++more)))
 (ns:∀ m,s.heap.Ns X.env.locals m->h'.Ns X.env.locals m) (hok:HOk X.prog X.w H' h') (hg:AllBare g'):
 Inv X pins σ H' { s with heap:=h',gens:=g',drawn:=d',toks:=t' }:=by
 have neL:∀ b o,X.s₀.heap.get? b=some o->b≠X.env.locals:=fun b o e=>Nat.ne_of_lt (Nat.lt_of_lt_of_le (Heap.lt_size e) I.ok.above)
 have neC:∀ b o,X.s₀.heap.get? b=some o->b∉X.ex->b∉ch:=fun b o e hx hb=>by
  rcases(hch b hb).1 with z | z
  ·exact hx z
  ·exact absurd (Nat.lt_of_lt_of_le (Heap.lt_size e) z) (Nat.lt_irrefl _)
 have cellK:∀ x c,X.env.cells.lookup x=some c->∀ v,s.heap.IsCell c v->h'.IsCell c v:=fun x c e v ⟨o,ho,hd⟩=>by
  have nch:c∉ch:=fun z=>(hch c z).2.2.1 x c e rfl
  by_cases hc:c∈X.fs
  ·obtain⟨sl,q⟩:=slot c o (I.cne x c e) hc nch ho (I.freeC x c e)
   exact⟨_,q,hd⟩
  ·exact⟨o,keep c o (I.cne x c e) hc nch ho (I.freeC x c e),hd⟩
 refine⟨I.ok,I.os,hg,⟨fun b o e n hb hx=>?_,fun b o e n hb hx=>?_,fun b o e n hx=>?_,fun b o e hx=>?_,fun b xs e=>tups b xs (I.base.tups b xs e),fun b o xs e=>frzs b o xs (I.base.frzs b o xs e),fun b ps e=>?_⟩,?_,fun x c e=>?_,?_,fun x c e=>?_,fun p hp=>?_,hok,I.len⟩
 ·exact keep b o (neL b o e) hb (neC b o e hx) (I.base.keep b o e n hb hx) (I.base.free b o e n hx)
 ·obtain⟨sl,e1⟩:=I.base.slot b o e n hb hx
  obtain⟨sl',e2⟩:=slot b _ (neL b o e) hb (neC b o e hx) e1 (I.base.free b o e n hx)
  exact⟨sl',e2⟩
 ·obtain⟨o',e1⟩:=I.base.there b o e hx
  exact free b o' (neC b o e hx) e1 (I.base.free b o e n hx)
 ·obtain⟨o',e1⟩:=I.base.there b o e hx
  exact there b o' (neC b o e hx) e1
 ·obtain⟨m1,e1⟩:=I.base.tbls b ps e
  obtain⟨m2,e2⟩:=tbls b _ e1
  exact⟨m1++m2,by rw[e2,Array.append_assoc]⟩
 ·obtain⟨m,hn,hl⟩:=I.loc
  refine⟨m,ns m hn,fun i x v e1 e2 e3=>?_⟩
  obtain⟨u,r,l⟩:=hl i x v e1 e2 e3
  refine⟨u,r,?_⟩
  rcases l with l | ⟨k,c,e,z⟩
  ·exact .inl l
  ·exact .inr ⟨k,c,e,cellK x c e _ z⟩
 ·obtain⟨v,z⟩:=I.cell x c e
  exact⟨v,cellK x c e v z⟩
 ·obtain⟨m,⟨o,_,_,ho,_⟩,_⟩:=I.loc
  exact free _ o (fun z=>(hch _ z).2.1 rfl) ho I.free
 ·obtain⟨v,o,ho,hd⟩:=I.cell x c e
  exact free c o (fun z=>(hch c z).2.2.1 x c e rfl) ho (I.freeC x c e)
 ·obtain⟨e,n,ne,nf,d⟩:=I.pin p hp
  have nch:p.1∉ch:=fun z=>(hch p.1 z).2.2.2 p hp rfl
  exact⟨keep p.1 p.2 ne nf nch e n,free p.1 p.2 nch e n,ne,nf,d⟩
theorem Inv.un{t':Nat}(I:Inv X pins σ H s)(u:Un X.fs [] H H' s.heap h')(hok:HOk X.prog X.w H' h'):Inv X pins σ H' { s with heap:=h',toks:=t' }:=by
 obtain⟨m,⟨o,es,ep,ho,r⟩,_⟩:=id I.loc
 obtain⟨sl,hL⟩:=u.any ho I.free (by simp)
 exact I.step (g':=s.gens) (d':=s.drawn) (ch:=[]) (fun _ z=>nomatch z) (fun b o _ hb _ e n=>u.keep b o e n hb (by simp)) (fun b o _ hb _ e n=>u.slot b o e n hb (by simp)) (fun b o _ e n=>u.free b o e n (by simp)) (fun b o _ e=>u.there b o e (by simp)) u.tups u.frzs u.tbls (fun m' hm=>by
  obtain⟨o',es',ep',ho',r'⟩:=hm
  rw[ho]at ho';cases ho'
  exact⟨_,es',ep',hL,r'⟩) hok I.bare
theorem Inv.call{g':Array GenState}{t':Nat}{d':Drawn}{ch:List Addr}(I:Inv X pins σ H s)(u:Un (frs X.stack) ch H H' s.heap h')(hok:HOk X.prog X.w H' h')(hg:AllBare g')
 (hch:∀ b∈ch,(b∈X.ex∨X.s₀.heap.objs.size<=b)/\b≠X.env.locals/\(∀ x c,X.env.cells.lookup x=some c->c≠b)/\∀ p∈X.pn++pins,p.1≠b):
 Inv X pins σ H' { s with heap:=h',gens:=g',drawn:=d',toks:=t' }:=by
 obtain⟨m,⟨o,es,ep,ho,r⟩,_⟩:=id I.loc
 obtain⟨sl,hL⟩:=u.any ho I.free fun z=>(hch _ z).2.1 rfl
 exact I.step (ch:=ch) hch (fun b o hL hb hc e n=>u.keep b o e n (fun z=>(List.mem_cons.mp (I.stkSub b z)).elim hL hb) hc) (fun b o _ _ hc e n=>u.any e n hc) (fun b o hc e n=>u.free b o e n hc) (fun b o hc e=>u.there b o e hc) u.tups u.frzs u.tbls (fun m' hm=>by
  obtain⟨o',es',ep',ho',r'⟩:=hm
  rw[ho]at ho';cases ho'
  exact⟨_,es',ep',hL,r'⟩) hok hg
theorem Inv.turned{t':Nat}{it:Addr}(I:Inv X pins σ H s)(k:∀ b o,b≠it->s.heap.get? b=some o->h'.get? b=some o)(hn:H it=none)(hL:it≠X.env.locals)
 (h1:it∈X.ex∨X.s₀.heap.objs.size<=it) (h2:∀ x c,X.env.cells.lookup x=some c->c≠it) (h3:∀ p∈X.pn++pins,p.1≠it):Inv X pins σ H { s with heap:=h',toks:=t' }:=by
 have nit:∀ b u,H b=some u->b≠it:=fun b u e z=>by rw[z,hn]at e;cases e
 refine I.step (g':=s.gens) (d':=s.drawn) (ch:=[it]) (fun b hb=>?_) (fun b o _ _ hc e _=>k b o (fun z=>hc (by simp[z])) e) (fun b o _ _ hc e _=>⟨o.slots,k b o (fun z=>hc (by simp[z])) e⟩) (fun _ _ _ _ n=>n)
  (fun b o hc e=>⟨o,k b o (fun z=>hc (by simp[z])) e⟩) (fun _ _ e=>e) (fun _ _ _ e=>e) (fun b ps e=>⟨#[],by rw[e];simp⟩) (fun m hm=>?_) (fun b u e=>?_) I.bare
 ·have e:b=it:=by simpa using hb
  subst e
  exact⟨h1,hL,h2,h3⟩
 ·obtain⟨o,es,ep,ho,r⟩:=hm
  exact⟨o,es,ep,k _ o (Ne.symm hL) ho,r⟩
 ·refine(I.hok b u e).stay (fun c v hc q=>k c v ?_ q) (fun _ q=>q) fun _ _ q=>q
  rcases hc with z | z
  ·rw[z];exact nit b u e
  ·exact nit c _ z
theorem Inv.tok(I:Inv X pins σ H s)(t:Nat):Inv X pins σ H { s with toks:=t }:=I.un (h':=s.heap) (t':=t) Un.refl I.hok
theorem Inv.kept{t':Nat}(I:Inv X pins σ H s)(k:∀ b u,s.heap.get? b=some u->h'.get? b=some u):Inv X pins σ H { s with heap:=h',toks:=t' }:=I.un (Un.kept k) (I.hok.kept k)
theorem Inv.laid{a:Addr}{o:HO}{t':Nat}(I:Inv X pins σ H s)(k:∀ b u,s.heap.get? b=some u->h'.get? b=some u)(hp:s.heap.objs.size<=a)(new:ObjOk X.prog X.w (upd H a o) h' a o):
 Inv X pins σ (upd H a o) { s with heap:=h',toks:=t' }:=I.un (Un.laid k hp (I.hok.fresh hp)) (I.hok.laid k hp new)
theorem Inv.write{x e:Addr}{o:HO}{t':Nat}(I:Inv X pins σ H s)(mu:Mut (H x))(he:e=x∨H e=some (.own x))(k:∀ b u,b≠e->s.heap.get? b=some u->h'.get? b=some u)(heo:∃ u,h'.get? e=some u)
 (new:ObjOk X.prog X.w (upd H x o) h' x o):Inv X pins σ (upd H x o) { s with heap:=h',toks:=t' }:=I.un (Un.write mu he k heo) (I.hok.write mu he k heo new)
theorem Inv.pins_of{pins':List (Addr×Obj)}(I:Inv X pins σ H s)(h:∀ p∈pins',s.heap.get? p.1=some p.2/\H p.1=none/\p.1≠X.env.locals/\p.1∉X.fs/\∀ v,p.2.data≠.cell v):Inv X pins' σ H s:=
 ⟨I.ok,I.os,I.bare,I.base,I.loc,I.cell,I.free,I.freeC,fun p hp=>(List.mem_append.mp hp).elim (fun z=>I.pin p (List.mem_append_left _ z)) (h p),I.hok,I.len⟩
theorem QlR{N:List Str}(hN:N.Nodup){i j:Nat}{x:Str}(a:N[i]?=some x)(b:N[j]?=some x):i=j:=by
 obtain⟨h1,e1⟩:=List.getElem?_eq_some_iff.mp a
 obtain⟨h2,e2⟩:=List.getElem?_eq_some_iff.mp b
 exact(List.getElem_inj hN).mp (e1.trans e2.symm)
theorem QjH{M:Model}{A:Around}{E:Value->Shared->Prop}{i:Nat}{x:Str}{v:V}{u:Value}{Q:Unit->Shared->Prop}(I:Inv X pins σ H s)(hN:X.N.Nodup)(hi:X.N[i]?=some x)(hx:Loc X.env.scope x)(r:RelV v u)
 (h:∀ s',Inv X pins (σ.set i (some v)) H s'->(∃ a,Heap.SameBut a s.heap s'.heap/\(a=X.env.locals∨X.env.cells.lookup x=some a))->Q () s') (hf:X.fn x=true∨X.env.scope.names.lookup x=some .local:=by first | exact .inl rfl | exact .inr rfl | assumption):wpAny M A (storeName X.env x u) Q E s:=by
 obtain⟨m,hn,hl⟩:=id I.loc
 have hcls:(X.env.scope.kind == .class||(X.env.scope.kind == .module&&X.env.locals != X.env.globals))=false:=by rw[I.ok.kind];rfl
 have hiσ:i<σ.length:=by rw[I.len];exact(List.getElem?_eq_some_iff.mp hi).1
 have cne:=I.cne
 have tracked:∀{a:Addr}{h':Heap},(∃ o,s.heap.get? a=some o/\H a=none)->Heap.SameBut a s.heap h'->HOk X.prog X.w H h':=fun {a h'} ha hs b ob e=>by
  obtain⟨_,_,hfree⟩:=ha
  refine(I.hok b ob e).stay (fun c w' hc q=>(hs.2 c ?_).trans q) (fun _ q=>q) fun _ _ q=>q
  rintro rfl
  rcases hc with rfl | hc
  ·rw[hfree]at e;cases e
  ·rw[hfree]at hc;cases hc
 rcases hx with hk | hk
 ·refine wpAny_storeName_local hk hn (fun h' hn' hs=>?_) hcls
  obtain⟨oL,_,_,hoL,_⟩:=id hn
  refine h _ ⟨I.ok,I.os,I.bare,⟨fun b o e n hb hx=>?_,fun b o e n hb hx=>?_,I.base.free,fun b o e hx=>?_,I.base.tups,I.base.frzs,I.base.tbls⟩,⟨_,hn',fun j y v' e1 e2 e3=>?_⟩,fun y c e=>?_,I.free,I.freeC,fun p hp=>?_,tracked ⟨oL,hoL,I.free⟩ hs,by simpa using I.len⟩ ⟨_,hs,.inl rfl⟩
  ·exact(hs.2 b (Nat.ne_of_lt (Nat.lt_of_lt_of_le (Heap.lt_size e) I.ok.above))).trans (I.base.keep b o e n hb hx)
  ·obtain⟨sl,e1⟩:=I.base.slot b o e n hb hx
   exact⟨sl,(hs.2 b (Nat.ne_of_lt (Nat.lt_of_lt_of_le (Heap.lt_size e) I.ok.above))).trans e1⟩
  ·obtain⟨o',e1⟩:=I.base.there b o e hx
   exact⟨o',(hs.2 b (Nat.ne_of_lt (Nat.lt_of_lt_of_le (Heap.lt_size e) I.ok.above))).trans e1⟩
  ·by_cases hj:j=i
   ·subst hj
    rw[hi]at e1;cases e1
    rw[List.getElem?_set_self hiσ]at e2
    cases e2
    exact⟨u,r,.inl ⟨hk,by simp⟩⟩
   ·rw[List.getElem?_set_ne (Ne.symm hj)]at e2
    obtain⟨u',r',q⟩:=hl j y v' e1 e2 e3
    refine⟨u',r',?_⟩
    rcases q with⟨k,e⟩ | ⟨k,c,e,z⟩
    ·refine .inl ⟨k,?_⟩
     have:y≠x:=fun e=>hj (QlR hN e1 (e ▸ hi))
     simp[this,e]
    ·exact .inr ⟨k,c,e,z.sameBut hs (cne y c e)⟩
  ·obtain⟨w',z⟩:=I.cell y c e
   exact⟨w',z.sameBut hs (cne y c e)⟩
  ·obtain⟨e,n,ne,nf,d⟩:=I.pin p hp
   exact⟨(hs.2 p.1 ne).trans e,n,ne,nf,d⟩
 ·have hfn:X.fn x=true:=by
   rcases hf with z | z
   ·exact z
   ·rw[z]at hk;cases hk
  obtain⟨c,hc⟩:=I.ok.has x (.inl hk)
  obtain⟨w',z⟩:=I.cell x c hc
  refine wpAny_storeName_cell I.ok.kind hk hc z (fun h' hc' hs=>?_)
  obtain⟨oc,hoc,hocd⟩:=id z
  refine h { s with heap:=h' } ⟨I.ok,I.os,I.bare,⟨fun b o e n hb hx=>?_,fun b o e n hb hx=>?_,I.base.free,fun b o e hx=>?_,I.base.tups,I.base.frzs,I.base.tbls⟩,⟨m,hn.sameBut hs (Ne.symm (cne x c hc)),fun j y v' e1 e2 e3=>?_⟩,fun y c' e=>?_,I.free,I.freeC,fun p hp=>?_,tracked ⟨oc,hoc,I.freeC x c hc⟩ hs,by simpa using I.len⟩ ⟨c,hs,.inr hc⟩
  ·exact(hs.2 b (Nat.ne_of_lt (Nat.lt_of_lt_of_le (Heap.lt_size e) (I.ok.cab x c hfn hc)))).trans (I.base.keep b o e n hb hx)
  ·obtain⟨sl,e1⟩:=I.base.slot b o e n hb hx
   exact⟨sl,(hs.2 b (Nat.ne_of_lt (Nat.lt_of_lt_of_le (Heap.lt_size e) (I.ok.cab x c hfn hc)))).trans e1⟩
  ·obtain⟨o',e1⟩:=I.base.there b o e hx
   exact⟨o',(hs.2 b (Nat.ne_of_lt (Nat.lt_of_lt_of_le (Heap.lt_size e) (I.ok.cab x c hfn hc)))).trans e1⟩
  ·by_cases hj:j=i
   ·subst hj
    rw[hi]at e1;cases e1
    rw[List.getElem?_set_self hiσ]at e2
    cases e2
    exact⟨u,r,.inr ⟨.inl hk,c,hc,hc'⟩⟩
   ·rw[List.getElem?_set_ne (Ne.symm hj)]at e2
    obtain⟨u',r',q⟩:=hl j y v' e1 e2 e3
    refine⟨u',r',?_⟩
    rcases q with q | ⟨k,c',e,z'⟩
    ·exact .inl q
    ·refine .inr ⟨k,c',e,z'.sameBut hs ?_⟩
     rintro rfl
     exact hj (QlR hN e1 (I.ok.inj _ _ _ e hc ▸ hi))
  ·by_cases hcc:c'=c
   ·subst hcc;exact⟨_,hc'⟩
   ·obtain⟨w2,z2⟩:=I.cell y c' e
    exact⟨w2,z2.sameBut hs hcc⟩
  ·obtain⟨e,n,ne,nf,d⟩:=I.pin p hp
   refine⟨(hs.2 p.1 ?_).trans e,n,ne,nf,d⟩
   intro q
   rw[q,hoc]at e
   have q':oc=p.2:=Option.some.inj e
   exact d w' (by rw[← q'];exact hocd)
theorem QlF{M:Model}{A:Around}{E:Value->Shared->Prop}{i:Nat}{x:Str}{v:V}{u:Value}{Q:Unit->Shared->Prop}(I:Inv X pins σ H s)(hN:X.N.Nodup)(hi:X.N[i]?=some x)(hx:Loc X.env.scope x)(r:RelV v u)
 (h:∀ s',Inv X pins (σ.set i (some v)) H s'->Q () s') (hf:X.fn x=true∨X.env.scope.names.lookup x=some .local:=by first | exact .inl rfl | exact .inr rfl | assumption):wpAny M A (storeName X.env x u) Q E s:=
 QjH I hN hi hx r (fun s' I' _=>h s' I') hf
theorem Inv.call'{s':Shared}{ch:List Addr}(I:Inv X pins σ H s)(ho:s'.os=s.os)(u:Un (frs X.stack) ch H H' s.heap s'.heap)(hok:HOk X.prog X.w H' s'.heap)(hg:AllBare s'.gens)
 (hch:∀ b∈ch,(b∈X.ex∨X.s₀.heap.objs.size<=b)/\b≠X.env.locals/\(∀ x c,X.env.cells.lookup x=some c->c≠b)/\∀ p∈X.pn++pins,p.1≠b):Inv X pins σ H' s':=by
 obtain⟨h',g',d',t',o'⟩:=s'
 have e:o'=s.os:=ho
 subst e
 exact I.call (g':=g') (t':=t') (d':=d') u hok hg hch
end
abbrev XK:=Value->Option Addr->Hp->Prop
abbrev St:=List (Option V)
abbrev VK:=V->Hp->Prop
abbrev TE:=St->Hp->VK->Prop
abbrev TT:=St->Hp->(Bool->Hp->Prop)->Prop
abbrev TA:=St->Hp->(List V->Hp->Prop)->Prop
structure Ends where
 nx:St->Hp->Prop
 rt:VK
 bk:St->Hp->Prop:=fun _ _=>False
 ct:St->Hp->Prop:=fun _ _=>False
abbrev TS:=Ends->St->Hp->Prop
def EP(X:Cx)(pins:List (Addr×Obj))(σ:St)(Q:VK)(u:Value)(s':Shared):Prop:=∃ v H',Inv X pins σ H' s'/\RelV v u/\Q v H'
def TP(X:Cx)(pins:List (Addr×Obj))(σ:St)(Q:Bool->Hp->Prop)(b:Bool)(s':Shared):Prop:=∃ H',Inv X pins σ H' s'/\Q b H'
def AP(X:Cx)(pins:List (Addr×Obj))(σ:St)(Q:List V->Hp->Prop)(us:List Value)(s':Shared):Prop:=∃ vs H',Inv X pins σ H' s'/\Vals vs us/\Q vs H'
def SP(X:Cx)(pins:List (Addr×Obj))(D:Ends)(f:Flow)(s':Shared):Prop:=
 match f with
 | .next=>∃ σ' H',Inv X pins σ' H' s'/\D.nx σ' H'
 | .brk=>∃ σ' H',Inv X pins σ' H' s'/\D.bk σ' H'
 | .cont=>∃ σ' H',Inv X pins σ' H' s'/\D.ct σ' H'
 | .ret u=>∃ v σ' H',Inv X pins σ' H' s'/\RelV v u/\D.rt v H'
def PE(X:Cx)(e:Expr)(t:TE):Prop:=
 ∀(pins:List (Addr×Obj))(s:Shared)(σ:St)(H:Hp)(Q:VK),Inv X pins σ H s->t σ H Q->wpAny (model X.prog X.w) X.A (eval e X.env) (EP X pins σ Q) X.xe s
def PT(X:Cx)(e:Expr)(t:TT):Prop:=
 ∀(pins:List (Addr×Obj))(s:Shared)(σ:St)(H:Hp)(Q:Bool->Hp->Prop),Inv X pins σ H s->t σ H Q->wpAny (model X.prog X.w) X.A (isTrue e X.env (eval e X.env)) (TP X pins σ Q) X.xe s
def PW(X:Cx)(e:Expr)(t:TT):Prop:=
 ∀(whole:Sem Value)(pins:List (Addr×Obj))(s:Shared)(σ:St)(H:Hp)(Q:Bool->Hp->Prop),Inv X pins σ H s->t σ H Q->wpAny (model X.prog X.w) X.A (isTrue e X.env whole) (TP X pins σ Q) X.xe s
theorem PW.pt{X:Cx}{e:Expr}{t:TT}(h:PW X e t):PT X e t:=h _
def PA(X:Cx)(es:List Expr)(t:TA):Prop:=
 ∀(pos:Pos)(pins:List (Addr×Obj))(s:Shared)(σ:St)(H:Hp)(Q:List V->Hp->Prop),Inv X pins σ H s->t σ H Q->wpAny (model X.prog X.w) X.A (spliced (backTo pos (starEach es X.env))) (AP X pins σ Q) X.xe s
def PS(X:Cx)(st:Stmt)(t:TS):Prop:=
 ∀(pins:List (Addr×Obj))(s:Shared)(σ:St)(H:Hp)(D:Ends),Inv X pins σ H s->t D σ H->wpAny (model X.prog X.w) X.A (exec st X.env) (SP X pins D) X.xe s
def PSs(X:Cx)(st:List Stmt)(t:TS):Prop:=
 ∀(pins:List (Addr×Obj))(s:Shared)(σ:St)(H:Hp)(D:Ends),Inv X pins σ H s->t D σ H->wpAny (model X.prog X.w) X.A (execs st X.env) (SP X pins D) X.xe s
theorem thn{α:Type}{t:Sem α}{Q Q':α->Shared->Prop}{M:Model}{A:Around}{E:Value->Shared->Prop}{s:Shared}(h:wpAny M A t Q E s)(hQ:∀ a s,Q a s->Q' a s):wpAny M A t Q' E s:=wpAny_mono h hQ fun _ _ x=>x
end L2
namespace L2
open PySem PySem.Spec PyProof.Rows
section
variable{X:Cx}
def tVar(i:Nat):TE:=fun σ H Q=>∃ v,σ[i]?=some (some v)/\Q v H
def tC(v:V):TE:=fun _ H Q=>Q v H
theorem QdF{i:Nat}{x:Str}{pos:Pos}(hN:X.N[i]?=some x)(hv:Vis X.env.scope x)(hd:(x == ("__debug__":Str))=false:=by decide)(hcd:(x == ("__classdict__":Str))=false:=by decide):PE X (.Name x pos) (tVar i):=by
 intro pins s σ H Q I h
 obtain⟨v,e,h⟩:=h
 obtain⟨m,hn,hl⟩:=I.loc
 obtain⟨u,r,l⟩:=hl i x v hN e hv
 have fin:EP X pins σ Q u s:=⟨v,H,I,r,h⟩
 rcases l with⟨hk,hm⟩ | ⟨hk,c,hc,hcell⟩
 ·exact wpAny_Name (wpAny_loadName_local I.ok.kind hk hn hm fin) hd
 ·rcases hk with hk | hk
  ·exact wpAny_Name (wpAny_loadName_cell I.ok.kind hk hc hcell fin) hd
  ·exact wpAny_Name (wpAny_loadName_free I.ok.kind hk hc hcell fin hcd) hd
theorem Qva{i j pos}:PE X (.Constant (.int i) j pos) (tC (.int i)):=fun _ _ _ H _ I h=>wpAny_Constant_int ⟨.int i,H,I.tok _,⟨_,rfl⟩,h⟩
theorem pe_bl{b j pos}:PE X (.Constant (.bool b) j pos) (tC (.bl b)):=fun _ _ _ H _ I h=>Constant_bool ⟨.bl b,H,I,rfl,h⟩
theorem Qvp{x j pos}:PE X (.Constant (.str x) j pos) (tC (.str x)):=fun _ _ _ H _ I h=>Calls.Constant_str ⟨.str x,H,I.tok _,⟨_,rfl⟩,h⟩
def Gl(X:Cx)(x:Str):Prop:=X.env.kindOf x=some .globalImplicit
theorem QiO{E:Value->Shared->Prop}{pins:List (Addr×Obj)}{s:Shared}{σ:St}{H:Hp}{x:Str}{u:Value}{pos:Pos}{Q:Value->Shared->Prop}(I:Inv X pins σ H s)(hg:Gl X x)(hm:X.mg x=some u)(h:Q u s)
 (hd:(x == ("__debug__":Str))=false:=by decide):wpAny (model X.prog X.w) X.A (eval (.Name x pos) X.env) Q E s:=
 Calls.Name_function_global I.ok.kind hg (Calls.loadGlobal_global (by rw[I.ok.glob];exact I.mod.glob.keeps I.bk) hm h) hd
theorem QgA{E:Value->Shared->Prop}{pins:List (Addr×Obj)}{s:Shared}{σ:St}{H:Hp}{x:Str}{u:Value}{pos:Pos}{Q:Value->Shared->Prop}(I:Inv X pins σ H s)(hg:Gl X x)(hm:X.mg x=none)(hv:bootBuiltins x=some u)(h:Q u s)
 (hn:x≠"__name__":=by decide) (hd:(x == ("__debug__":Str))=false:=by decide):wpAny (model X.prog X.w) X.A (eval (.Name x pos) X.env) Q E s:=by
 obtain⟨mb,h1,h2⟩:=I.mod.blt
 exact Calls.Name_function_global I.ok.kind hg (Calls.loadGlobal_builtin (by rw[I.ok.glob];exact I.mod.glob.keeps I.bk) hm (by rw[I.ok.blt];exact h1.keeps I.bk) ((h2 x hn).trans hv) h) hd
theorem QoZ{x:Str}{v:V}{u:Value}{pos:Pos}(hg:Gl X x)(hm:X.mg x=some u)(r:RelV v u)(hd:(x == ("__debug__":Str))=false:=by decide):PE X (.Name x pos) (tC v):=
 fun _ _ _ H _ I h=>QiO I hg hm ⟨v,H,I,r,h⟩ hd
theorem Qtg{x:Str}{v:V}{u:Value}{pos:Pos}(hg:Gl X x)(hm:X.mg x=none)(hv:bootBuiltins x=some u)(r:RelV v u)(hn:x≠"__name__":=by decide)(hd:(x == ("__debug__":Str))=false:=by decide):PE X (.Name x pos) (tC v):=
 fun _ _ _ H _ I h=>QgA I hg hm hv ⟨v,H,I,r,h⟩ hn hd
variable{a b:Expr}{ta tb:TE}{pos:Pos}
def tB(t:TE):TT:=fun σ H Q=>t σ H fun x H1=>∃ c,x=.bl c/\Q c H1
theorem Qvr{e:Expr}{t:TE}(h:PE X e t)(he:∀ whole,isTrue e X.env whole=(do let v ← whole;standAt e.pos;holding [v] (truthy v)):=by intro _;rfl):PT X e (tB t):=by
 intro pins s σ H Q I hw
 refine isTrue_plain (thn (h pins s σ H _ I hw) fun v s1 ⟨x,H1,I1,r1,q1⟩=>?_) (he _)
 obtain⟨d,rfl,q⟩:=q1
 cases r1
 exact wpAny_truthy_bool ⟨H1,I1,q⟩
variable{tA tB':TT}{rest:List Expr}
def tAnd(t u:TT):TT:=fun σ H Q=>t σ H fun c H1=>if c=true then u σ H1 Q else Q false H1
def tOr(t u:TT):TT:=fun σ H Q=>t σ H fun c H1=>if c=true then Q true H1 else u σ H1 Q
def tNot(t:TT):TT:=fun σ H Q=>t σ H fun c H1=>Q (!c) H1
theorem QtD(ha:PT X a tA):PW X (.BoolOp .And [a] pos) tA:=by
 intro wh pins s σ H Q I h
 refine isTrue_and (thn (ha pins s σ H Q I h) fun c s1 e=>?_)
 cases c with
 | true=>exact isTrue_and_nil e
 | false=>exact e
theorem Qvo(ha:PT X a tA):PW X (.BoolOp .Or [a] pos) tA:=by
 intro wh pins s σ H Q I h
 refine isTrue_or (thn (ha pins s σ H Q I h) fun c s1 e=>?_)
 cases c with
 | false=>exact isTrue_or_nil e
 | true=>exact e
theorem QuI(ha:PT X a tA)(hb:PW X (.BoolOp .And (b::rest) pos) tB'):PW X (.BoolOp .And (a::b::rest) pos) (tAnd tA tB'):=by
 intro wh pins s σ H Q I h
 refine isTrue_and (thn (ha pins s σ H _ I h) fun c s1 ⟨H1,I1,q1⟩=>?_)
 cases c with
 | true=>exact hb wh pins s1 σ H1 Q I1 q1
 | false=>exact⟨H1,I1,q1⟩
theorem pw_or(ha:PT X a tA)(hb:PW X (.BoolOp .Or (b::rest) pos) tB'):PW X (.BoolOp .Or (a::b::rest) pos) (tOr tA tB'):=by
 intro wh pins s σ H Q I h
 refine isTrue_or (thn (ha pins s σ H _ I h) fun c s1 ⟨H1,I1,q1⟩=>?_)
 cases c with
 | true=>exact⟨H1,I1,q1⟩
 | false=>exact hb wh pins s1 σ H1 Q I1 q1
theorem QuV(ha:PT X a tA):PT X (.UnaryOp .Not a pos) (tNot tA):=by
 intro pins s σ H Q I h
 exact isTrue_not (ha pins s σ H (fun c H1=>Q (!c) H1) I h)
def tAndV(ta tb:TE):TE:=fun σ H Q=>ta σ H fun x H1=>∃ c,x=.bl c/\if c=true then tb σ H1 Q else Q (.bl false) H1
def tOrV(ta tb:TE):TE:=fun σ H Q=>ta σ H fun x H1=>∃ c,x=.bl c/\if c=true then Q (.bl true) H1 else tb σ H1 Q
def tNotV(ta:TE):TE:=fun σ H Q=>ta σ H fun x H1=>∃ c,x=.bl c/\Q (.bl (!c)) H1
theorem Qu1{op}{t:TE}(h:PE X a t):PE X (.BoolOp op [a] pos) t:=fun pins s σ H Q I hw=>BoolOp_one (h pins s σ H Q I hw)
theorem Qvn(ha:PE X a ta)(hb:PE X (.BoolOp .And (b::rest) pos) tb):PE X (.BoolOp .And (a::b::rest) pos) (tAndV ta tb):=by
 intro pins s σ H Q I h
 refine BoolOp_and (thn (ha pins s σ H _ I h) fun v s1 ⟨x,H1,I1,r1,q1⟩=>?_)
 obtain⟨c,rfl,q1⟩:=q1
 cases r1
 refine wpAny_truthy_bool ?_
 cases c with
 | true=>exact hb pins s1 σ H1 Q I1 q1
 | false=>exact⟨.bl false,H1,I1,rfl,q1⟩
theorem pe_or(ha:PE X a ta)(hb:PE X (.BoolOp .Or (b::rest) pos) tb):PE X (.BoolOp .Or (a::b::rest) pos) (tOrV ta tb):=by
 intro pins s σ H Q I h
 refine BoolOp_or (thn (ha pins s σ H _ I h) fun v s1 ⟨x,H1,I1,r1,q1⟩=>?_)
 obtain⟨c,rfl,q1⟩:=q1
 cases r1
 refine wpAny_truthy_bool ?_
 cases c with
 | false=>exact hb pins s1 σ H1 Q I1 q1
 | true=>exact⟨.bl true,H1,I1,rfl,q1⟩
theorem Qve(ha:PE X a ta):PE X (.UnaryOp .Not a pos) (tNotV ta):=by
 intro pins s σ H Q I h
 refine UnaryOp_ (thn (ha pins s σ H _ I h) fun v s1 ⟨x,H1,I1,r1,q1⟩=>?_)
 obtain⟨c,rfl,q1⟩:=q1
 cases r1
 exact not_of (wpAny_truthy_bool ⟨.bl (!c),H1,I1,rfl,q1⟩)
def tIf(t:TT)(ta tb:TE):TE:=fun σ H Q=>t σ H fun c H1=>if c=true then ta σ H1 Q else tb σ H1 Q
theorem QrS{c:Expr}(hc:PT X c tA)(ha:PE X a ta)(hb:PE X b tb):PE X (.IfExp c a b pos) (tIf tA ta tb):=by
 intro pins s σ H Q I h
 refine wpAny_IfExp (thn (hc pins s σ H _ I h) fun d s1 ⟨H1,I1,q1⟩=>?_)
 cases d with
 | true=>exact ha pins s1 σ H1 Q I1 q1
 | false=>exact hb pins s1 σ H1 Q I1 q1
end
end L2
namespace L2
open PySem PySem.Spec PyProof.Rows
def SqL(K:PySem.W.Frag)(H:Hp)(a:Addr)(xs:List V):Prop:=
 Rd H a (.lst xs)∨
  ∃(o:Obj)(its:Array Value)(n:Nat),K.lookup a=some o/\o.cls=.type "list"/\o.dict=none/\o.data=.seq its n/\its.size<=sizeLine/\Vals xs its.toList
def SqT(K:PySem.W.Frag)(H:Hp)(a:Addr)(xs:List V):Prop:=
 Rd H a (.tup xs)∨
  ∃(o:Obj)(its:Array Value)(n:Nat),K.lookup a=some o/\o.cls=.type "tuple"/\o.data=.seq its n/\its.size<=sizeLine/\Vals xs its.toList
def absV:Value->Option V
 | .none=>some .non
 | .bool b=>some (.bl b)
 | .int i _=>some (.int i)
 | .str x _=>some (.str x)
 | .bytes b _=>some (.byt b)
 | .float b _=>some (.flt b)
 | .ref a=>some (.ref a)
 | .type n=>some (.ty n)
 | _=>none
theorem RelV.abs{x:V}{u:Value}(r:RelV x u):absV u=some x:=by
 cases x with
 | non=>cases r;rfl
 | bl _=>cases r;rfl
 | int _=>obtain⟨t,rfl⟩:=r;rfl
 | str _=>obtain⟨t,rfl⟩:=r;rfl
 | byt _=>obtain⟨t,rfl⟩:=r;rfl
 | flt _=>obtain⟨t,rfl⟩:=r;rfl
 | ref _=>cases r;rfl
 | ty _=>cases r;rfl
theorem RelV.inj{x y:V}{u:Value}(r:RelV x u)(q:RelV y u):x=y:=Option.some.inj (r.abs.symm.trans q.abs)
theorem Vals.inj:∀{xs ys:List V}{us:List Value},Vals xs us->Vals ys us->xs=ys
 | _,_,_,.nil,.nil=>rfl
 | _,_,_,.cons r t,.cons r' t'=>by rw[r.inj r',Vals.inj t t']
section
variable{X:Cx}{pins:List (Addr×Obj)}{σ:St}{H:Hp}{s:Shared}{a:Addr}{xs ys:List V}
theorem SqL.of{K:PySem.W.Frag}(h:H a=some (.lst xs)):SqL K H a xs:=.inl (.inl h)
theorem SqT.of{K:PySem.W.Frag}(h:H a=some (.tup xs)):SqT K H a xs:=.inl (.inl h)
theorem Inv.list(I:Inv X pins σ H s)(h:SqL X.K H a xs):∃ its:List Value,Vals xs its/\PlainL s.heap a its.toArray/\xs.length<=sizeLine:=by
 rcases h with h | ⟨o,its,n,hk,hc,hd,hs,hz,r⟩
 ·obtain⟨z,its,n,r,e⟩:=h.ok I.hok
  exact⟨its,r,⟨_,n,e,rfl,rfl,rfl⟩,z⟩
 ·refine⟨its.toList,r,⟨o,n,I.kIn a o hk,hc,hd,by simpa using hs⟩,?_⟩
  have e:=r.length
  simp only[Array.length_toList]at e
  omega
theorem Inv.tuple(I:Inv X pins σ H s)(h:SqT X.K H a xs):∃ its:List Value,Vals xs its/\IsTup s.heap a its.toArray/\xs.length<=sizeLine:=by
 rcases h with h | ⟨o,its,n,hk,hc,hs,hz,r⟩
 ·obtain⟨z,its,r,p⟩:=h.ok I.hok
  exact⟨its,r,p,z⟩
 ·refine⟨its.toList,r,⟨o,I.kIn a o hk,hc,n,by simpa using hs⟩,?_⟩
  have e:=r.length
  simp only[Array.length_toList]at e
  omega
theorem Inv.list_inj(I:Inv X pins σ H s)(h:SqL X.K H a xs)(h':SqL X.K H a ys):xs=ys:=by
 obtain⟨its,r,⟨o,n,e,_,_,d⟩,_⟩:=I.list h
 obtain⟨its',r',⟨o',n',e',_,_,d'⟩,_⟩:=I.list h'
 rw[e]at e';cases e'
 rw[d]at d'
 injection d' with d1 _
 have:its=its':=by simpa using congrArg Array.toList d1
 subst this
 exact r.inj r'
end
abbrev Cx.wish(X:Cx)(E:Value->Shared->Prop):Cx:={ X with xe:=E }
abbrev Cx.nox(X:Cx):Cx:=X.wish fun _ _=>False
theorem Cx.Ok.wish{X:Cx}(ok:X.Ok)(E:Value->Shared->Prop):(X.wish E).Ok:=
 ⟨ok.mod,ok.kind,ok.glob,ok.blt,ok.above,ok.inj,ok.has,ok.cab,ok.hd,ok.frames,ok.stk,ok.exf,ok.bs,ok.bsz,ok.noex,ok.exfs,ok.funs,ok.frf⟩
theorem Cx.Ok.unwish{X:Cx}{E:Value->Shared->Prop}(ok:(X.wish E).Ok):X.Ok:=
 ⟨ok.mod,ok.kind,ok.glob,ok.blt,ok.above,ok.inj,ok.has,ok.cab,ok.hd,ok.frames,ok.stk,ok.exf,ok.bs,ok.bsz,ok.noex,ok.exfs,ok.funs,ok.frf⟩
section
variable{X:Cx}{pins:List (Addr×Obj)}{σ:St}{H:Hp}{s:Shared}{E:Value->Shared->Prop}
theorem Inv.wish(I:Inv X pins σ H s)(E:Value->Shared->Prop):Inv (X.wish E) pins σ H s:=⟨I.ok.wish E,I.os,I.bare,I.base,I.loc,I.cell,I.free,I.freeC,I.pin,I.hok,I.len⟩
theorem Inv.unwish(I:Inv (X.wish E) pins σ H s):Inv X pins σ H s:=⟨I.ok.unwish,I.os,I.bare,I.base,I.loc,I.cell,I.free,I.freeC,I.pin,I.hok,I.len⟩
theorem SP.unwish{D:Ends}{f:Flow}{s':Shared}(h:SP (X.wish E) pins D f s'):SP X pins D f s':=by
 cases f with
 | next=>obtain⟨σ',H',I,q⟩:=h;exact⟨σ',H',I.unwish,q⟩
 | brk=>obtain⟨σ',H',I,q⟩:=h;exact⟨σ',H',I.unwish,q⟩
 | cont=>obtain⟨σ',H',I,q⟩:=h;exact⟨σ',H',I.unwish,q⟩
 | ret u=>obtain⟨v,σ',H',I,r,q⟩:=h;exact⟨v,σ',H',I.unwish,r,q⟩
theorem PE.nox{e:Expr}{t:TE}(h:PE X.nox e t):PE X e t:=fun pins s σ H Q I hw=>
 wpAny_mono (h pins s σ H Q (I.wish _) hw) (fun _ _ ⟨v,H',I',r,q⟩=>⟨v,H',I'.unwish,r,q⟩) fun _ _ z=>False.elim z
theorem PT.nox{e:Expr}{t:TT}(h:PT X.nox e t):PT X e t:=fun pins s σ H Q I hw=>
 wpAny_mono (h pins s σ H Q (I.wish _) hw) (fun _ _ ⟨H',I',q⟩=>⟨H',I'.unwish,q⟩) fun _ _ z=>False.elim z
theorem PSs.nox{st:List Stmt}{t:TS}(h:PSs X.nox st t):PSs X st t:=fun pins s σ H D I hw=>
 wpAny_mono (h pins s σ H D (I.wish _) hw) (fun _ _ q=>q.unwish) fun _ _ z=>False.elim z
end
section
variable{X:Cx}{st:Stmt}{rest:List Stmt}{t u:TS}{e:Expr}{te:TE}{pos:Pos}
def tNext:TS:=fun D σ H=>D.nx σ H
def tSeq(t u:TS):TS:=fun D σ H=>t { D with nx:=u D } σ H
theorem QoC:PSs X [] tNext:=fun _ _ σ H _ I h=>wpAny_execs_nil ⟨σ,H,I,h⟩
theorem Qhx(h1:PS X st t)(h2:PSs X rest u):PSs X (st::rest) (tSeq t u):=by
 intro pins s σ H D I h
 refine wpAny_execs_cons (thn (h1 pins s σ H { D with nx:=u D } I h) fun f s1 q=>?_)
 cases f with
 | next=>
  obtain⟨σ',H',I',q⟩:=q
  exact h2 pins s1 σ' H' D I' q
 | ret v=>exact q
 | brk=>exact q
 | cont=>exact q
theorem Qt4(h1:PS X st t):PSs X [st] t:=by
 intro pins s σ H D I h
 refine wpAny_execs_cons (thn (h1 pins s σ H D I h) fun f s1 q=>?_)
 cases f with
 | next=>exact wpAny_execs_nil q
 | ret v=>exact q
 | brk=>exact q
 | cont=>exact q
theorem Inv.quiet{pins:List (Addr×Obj)}{σ:St}{H:Hp}{s:Shared}(I:Inv X pins σ H s):interactive X.env=false:=by simp[interactive,I.ok.kind]
def tDrop(te:TE):TS:=fun D σ H=>te σ H fun _ H1=>D.nx σ H1
theorem QgX(he:PE X e te)(hs:swapsWith e none pos.line X.env=pure false:=by rfl):PS X (.Expr e pos) (tDrop te):=by
 intro pins s σ H D I h
 exact wpAny_Expr_any (thn (he pins s σ H _ I h) fun v s1 ⟨x,H1,I1,r1,q1⟩=>⟨σ,H1,I1,q1⟩) I.quiet hs
def tRet(te:TE):TS:=fun D σ H=>te σ H D.rt
theorem Qld(he:PE X e te):PS X (.Return (some e) pos) (tRet te):=by
 intro pins s σ H D I h
 exact wpAny_Return_some (thn (he pins s σ H _ I h) fun v s1 ⟨x,H1,I1,r1,q1⟩=>⟨x,σ,H1,I1,r1,q1⟩)
def tIfS(c:TT)(t u:TS):TS:=fun D σ H=>c σ H fun b H1=>if b=true then t D σ H1 else u D σ H1
theorem ps_if{c:Expr}{a b:List Stmt}{tc:TT}(hc:PT X c tc)(ha:PSs X a t)(hb:PSs X b u):PS X (.If c a b pos) (tIfS tc t u):=by
 intro pins s σ H D I h
 refine wpAny_If (thn (hc pins s σ H _ I h) fun d s1 ⟨H1,I1,q1⟩=>?_)
 cases d with
 | true=>exact ha pins s1 σ H1 D I1 q1
 | false=>exact hb pins s1 σ H1 D I1 q1
def Qvc:TS:=fun _ _ _=>False
theorem Qr3:PS X st Qvc:=fun _ _ _ _ _ _ h=>h.elim
end
abbrev TG:=V->St->Hp->(St->Hp->Prop)->Prop
abbrev TGs:=List V->St->Hp->(St->Hp->Prop)->Prop
def PG(X:Cx)(target:Expr)(t:TG):Prop:=
 ∀(pins:List (Addr×Obj))(s:Shared)(σ:St)(H:Hp)(v:V)(u:Value)(Q:St->Hp->Prop),Inv X pins σ H s->RelV v u->t v σ H Q->
  wpAny (model X.prog X.w) X.A (assign target X.env u) (fun _ s'=>∃ σ' H',Inv X pins σ' H' s'/\Q σ' H') X.xe s
def PGs(X:Cx)(ts:List Expr)(t:TGs):Prop:=
 ∀(pins:List (Addr×Obj))(s:Shared)(σ:St)(H:Hp)(vs:List V)(us:List Value)(Q:St->Hp->Prop),Inv X pins σ H s->Vals vs us->t vs σ H Q->
  wpAny (model X.prog X.w) X.A (assignInOrder ((assignEach ts X.env).map (·.2)) us) (fun _ s'=>∃ σ' H',Inv X pins σ' H' s'/\Q σ' H') X.xe s
section
variable{X:Cx}{pos:Pos}
def gName(i:Nat):TG:=fun v σ H Q=>Q (σ.set i (some v)) H
theorem QoY{i:Nat}{x:Str}(hN:X.N.Nodup)(hi:X.N[i]?=some x)(hx:Loc X.env.scope x)(hf:X.fn x=true∨X.env.scope.names.lookup x=some .local:=by first | exact .inl rfl | exact .inr rfl | assumption):PG X (.Name x pos) (gName i):=by
 intro pins s σ H v u Q I r h
 exact wpAny_assign_Name (QlF I hN hi hx r (fun s' I'=>⟨_,H,I',h⟩) hf)
def gNil:TGs:=fun vs σ H Q=>vs=[]/\Q σ H
def gCons(t:TG)(u:TGs):TGs:=fun vs σ H Q=>∃ v r,vs=v::r/\t v σ H fun σ' H'=>u r σ' H' Q
theorem Qs9:PGs X [] gNil:=by
 intro pins s σ H vs us Q I r h
 obtain⟨e,h⟩:=h
 subst e
 cases r
 exact assignInOrder_nil ⟨σ,H,I,h⟩
theorem Qsv{e:Expr}{es:List Expr}{t:TG}{u:TGs}(h1:PG X e t)(h2:PGs X es u)
 (hs:(assignEach (e::es) X.env).map (·.2)=assign e X.env::(assignEach es X.env).map (·.2):=by rfl):PGs X (e::es) (gCons t u):=by
 intro pins s σ H vs us Q I r h
 obtain⟨v,vr,e1,h⟩:=h
 subst e1
 cases r with
 | cons r rr=>
  rw[hs]
  refine assignInOrder_cons (thn (h1 pins s σ H _ _ _ I r h) fun _ s1 ⟨σ1,H1,I1,q1⟩=>?_)
  exact h2 pins s1 σ1 H1 _ _ Q I1 rr q1
def gTup(K:PySem.W.Frag)(n:Nat)(t:TGs):TG:=fun v σ H Q=>∃ a xs,v=.ref a/\SqT K H a xs/\xs.length=n/\t xs σ H Q
theorem QqL{es:List Expr}{k:Nat}{t:TGs}{n:Nat}(hc:X.calm=true)(h:PGs X es t)
 (hn:(assignEach es X.env).length=n:=by rfl) (hst:(assignEach es X.env).findIdx? (·.1)=none:=by rfl):PG X (.Tuple es k pos) (gTup X.K n t):=by
 intro pins s σ H v u Q I r hw
 obtain⟨a,xs,e1,hq,hl,hw⟩:=hw
 subst e1
 cases r
 obtain⟨its,rv,ht,hz⟩:=I.tuple hq
 refine assign_Tuple_tuple (I.ok.hd hc) ht (by simp[hn, ← hl,rv.length]) hst fun h' hx=>?_
 have I1:Inv X pins σ H { s with heap:=h' }:=I.kept (t':=s.toks) fun b o e=>hx b o (Nat.ne_of_lt (Heap.lt_size e)) e
 exact h pins _ σ H xs _ Q I1 (by simpa using rv) hw
def tAsg(te:TE)(g:TG):TS:=fun D σ H=>te σ H fun x H1=>g x σ H1 D.nx
theorem QuK{tg e:Expr}{te:TE}{g:TG}(he:PE X e te)(hg:PG X tg g)(hs:swapsWithSole [tg] e pos.line X.env=pure false:=by rfl)(hw:swappedStores [tg] e X.env=pure none:=by rfl)
 (h1:(assignEach [tg] X.env).map (·.2)=[assign tg X.env]:=by rfl):PS X (.Assign [tg] e pos) (tAsg te g):=by
 intro pins s σ H D I h
 refine wpAny_Assign_stores (thn (he pins s σ H _ I h) fun v s1 ⟨x,H1,I1,r1,q1⟩=>?_) hs hw
 rw[h1]
 exact thn (hg pins s1 σ H1 x v _ I1 r1 q1) fun _ s2 q=>q
theorem QqG{i:Nat}{x:Str}{e:Expr}{te:TE}{pos':Pos}(hN:X.N.Nodup)(hi:X.N[i]?=some x)(hx:Loc X.env.scope x)(he:PE X e te)(hs:swapsWith e (some (.Name x pos')) pos.line X.env=pure false:=by rfl)(hf:X.fn x=true∨X.env.scope.names.lookup x=some .local:=by first | exact .inl rfl | exact .inr rfl | assumption):
 PS X (.Assign [.Name x pos'] e pos) (tAsg te (gName i)):=by
 intro pins s σ H D I h
 refine wpAny_Assign_Name (thn (he pins s σ H _ I h) fun v s1 ⟨y,H1,I1,r1,q1⟩=>?_) hs
 exact QlF I1 hN hi hx r1 (fun s2 I2=>⟨_,H1,I2,q1⟩) hf
end
section
variable{X:Cx}{pos:Pos}
end
structure It where
 go:Nat->Hp->Prop
 yld:Nat->Hp->V->Hp->Prop
 stop:Nat->Hp->Prop
def FpOk(X:Cx)(pins:List (Addr×Obj))(H:Hp)(b:Addr):Prop:=
 H b=none/\b≠X.env.locals/\b∉X.fs/\(b∈X.ex∨X.s₀.heap.objs.size<=b)/\(∀ x c,X.env.cells.lookup x=some c->c≠b)/\∀ p∈X.pn++pins,p.1≠b
theorem Inv.fpOk{X:Cx}{pins:List (Addr×Obj)}{σ:St}{H H':Hp}{s:Shared}{b:Addr}(I:Inv X pins σ H s)(hb:s.heap.objs.size<=b)(hn:H' b=none):FpOk X pins H' b:=by
 refine⟨hn,Nat.ne_of_gt (Nat.lt_of_lt_of_le I.lt hb),I.nofs hb,.inr (Nat.le_trans I.sz hb),fun x c e z=>?_,fun p hp z=>?_⟩
 ·obtain⟨v,q⟩:=I.cell x c e
  exact absurd (Nat.lt_of_lt_of_le q.lt (by rw[z];exact hb)) (Nat.lt_irrefl _)
 ·exact absurd (Nat.lt_of_lt_of_le (Heap.lt_size (I.pin p hp).1) (by rw[z];exact hb)) (Nat.lt_irrefl _)
structure Turn(P:Program)(w:World)(K:PySem.W.Frag)(tg:Expr)(J:It)(fp:List Addr)(it:Addr)(tn:Nat->Heap->Prop):Prop where
 mem:it∈fp
 obj:∀ i h,tn i h->∀ b∈fp,∃ o,h.get? b=some o/\∀ v,o.data≠.cell v
 keep:∀ i h h',tn i h->(∀ b∈fp,∀ o,h.get? b=some o->h'.get? b=some o)->tn i h'
 item:∀(X:Cx),X.prog=P->X.w=w->X.K=K->X.calm=true->∀(i:Nat)(pins:List (Addr×Obj))(s:Shared)(σ:St)(H:Hp)(E:Value->Shared->Prop),Inv X pins σ H s->(∀ b∈fp,FpOk X pins H b)->tn i s.heap->J.go i H->
  wpAny (model P w) X.A (pyNext (.ref it)) (fun r s1=>∃ u,r=some u/\
   wpAny (model P w) X.A (letOwnedTupleGo tg (.ref it) u) (fun _ s2=>∃ x H',Inv X pins σ H' s2/\RelV x u/\J.yld i H x H'/\tn (i+1) s2.heap/\∀ b∈fp,H' b=none) E s1) E s
 done:∀(X:Cx),X.prog=P->X.w=w->X.K=K->X.calm=true->∀(i:Nat)(pins:List (Addr×Obj))(s:Shared)(σ:St)(H:Hp)(E:Value->Shared->Prop),Inv X pins σ H s->(∀ b∈fp,FpOk X pins H b)->tn i s.heap->J.stop i H->
  wpAny (model P w) X.A (pyNext (.ref it)) (fun r s1=>r=none/\Inv X pins σ H s1) E s
 self:∀(A:Around)(i:Nat)(s:Shared)(Q:Value->Shared->Prop)(E:Value->Shared->Prop),tn i s.heap->Q (.ref it) s->wpAny (model P w) A (pyIter (.ref it)) Q E s
abbrev TI:=St->Hp->(It->Hp->Prop)->Prop
def PIE(X:Cx)(pins:List (Addr×Obj))(σ:St)(tg:Expr)(R:It->Hp->Prop)(itv:Value)(s2:Shared):Prop:=
 ∃(it:Addr)(fp:List Addr)(tn:Nat->Heap->Prop)(J:It)(H':Hp),itv=.ref it/\Inv X pins σ H' s2/\Turn X.prog X.w X.K tg J fp it tn/\tn 0 s2.heap/\(∀ b∈fp,FpOk X pins H' b)/\R J H'
def PI(X:Cx)(tg iter:Expr)(wi:TI):Prop:=
 ∀(pins:List (Addr×Obj))(s:Shared)(σ:St)(H:Hp)(R:It->Hp->Prop),Inv X pins σ H s->wi σ H R->
  wpAny (model X.prog X.w) X.A (eval iter X.env) (fun v s1=>wpAny (model X.prog X.w) X.A (pyIter v) (PIE X pins σ tg R) X.xe s1) X.xe s
theorem go_of{M:Model}{A:Around}{E:Value->Shared->Prop}{s:Shared}{tg:Expr}{it:Addr}{u:Value}{o:Obj}{n:String}{vs:Array Value}{Q:Unit->Shared->Prop}(ho:s.heap.get? it=some o)(hc:o.cls=.type n)(hd:o.data=.fields vs)
 (hn:["enumerate","zip","dict_itemiterator","dict_reverseitemiterator","odict_iterator","itertools.zip_longest","itertools.pairwise"].contains n=false) (hQ:Q () s):wpAny M A (letOwnedTupleGo tg (.ref it) u) Q E s:=by
 unfold letOwnedTupleGo
 cases tg<;>first
  | exact wpAny_pure hQ
  | (cases u<;>first
   | exact wpAny_pure hQ
   | (refine wpAny_bind (wpAny_load ho ?_)
      rw[hc,hd]
      show wpAny M A (if (["enumerate","zip","dict_itemiterator","dict_reverseitemiterator","odict_iterator","itertools.zip_longest","itertools.pairwise"].contains n&&vs[0]? == some (rawInt _))=true then _ else _) Q E s
      rw[if_neg (by intro h;rw[hn,Bool.false_and]at h;cases h)]
      exact wpAny_pure hQ))
def Itl(K:PySem.W.Frag)(a:Addr):It:=
 ⟨fun i H=>∃ xs x,SqL K H a xs/\xs[i]?=some x,fun i H x H'=>H'=H/\∀ xs,SqL K H a xs->xs[i]?=some x,fun i H=>∃ xs,SqL K H a xs/\xs.length<=i⟩
def Itr(lo:Int)(n:Nat):It:=⟨fun i _=>i<n,fun i H x H'=>H'=H/\x=.int (lo+i),fun i _=>n<=i⟩
theorem QqV{P:Program}{w:World}{K:PySem.W.Frag}{tg:Expr}(a it:Addr):Turn P w K tg (Itl K a) [it] it (fun i h=>h.IsListIter it a i) where
 mem:=by simp
 obj:=fun i h st b hb=>by
  have e:b=it:=by simpa using hb
  subst e
  obtain⟨o,e,c,d⟩:=st
  exact⟨o,e,fun v z=>by rw[d]at z;cases z⟩
 keep:=fun i h h' st k=>st.at fun o e=>k it (by simp) o e
 item:=by
  intro X hP hw hK hc i pins s σ H E I hf st hg
  subst hP hw hK
  obtain⟨xs,x,hq,hx⟩:=hg
  obtain⟨its,rv,p,hz⟩:=I.list hq
  obtain⟨u,hu,ru⟩:=rv.get hx
  obtain⟨f0,f1,f2,f3,f4,f5⟩:=hf it (by simp)
  refine wpAny_pyNext_list_item st p.isList (x:=u) (by simpa using hu) fun h' st' sb=>?_
  have I1:Inv X pins σ H { s with heap:=h' }:=I.turned (t':=s.toks) (fun b o hb e=>(sb.2 b hb).trans e) f0 f1 f3 f4 f5
  obtain⟨o,e,c,d⟩:=id st'
  exact⟨u,rfl,go_of (s:={ s with heap:=h' }) e c d (by decide) ⟨x,H,I1,ru,⟨rfl,fun ys hy=>by rw[I.list_inj hy hq];exact hx⟩,st',fun b hb=>(hf b hb).1⟩⟩
 done:=by
  intro X hP hw hK hc i pins s σ H E I hf st hg
  subst hP hw hK
  obtain⟨xs,hq,hx⟩:=hg
  obtain⟨its,rv,p,hz⟩:=I.list hq
  obtain⟨f0,f1,f2,f3,f4,f5⟩:=hf it (by simp)
  have hl:=rv.length
  exact wpAny_pyNext_list_end (I.ok.hd hc) st p.isList (by simp;omega) fun h' eb=>⟨rfl,I.turned (t':=s.toks) (fun b o hb e=>eb b o hb e) f0 f1 f3 f4 f5⟩
 self:=fun _ _ _ _ _ st h=>wpAny_pyIter_listiter st h
theorem QpM{P:Program}{w:World}{K:PySem.W.Frag}{tg:Expr}(it:Addr)(lo:Int)(n:Nat):Turn P w K tg (Itr lo n) [it] it (fun i h=>IsRangeIter h it (lo+(i:Nat) * 1) ((n:Int) - (i:Nat)) 1) where
 mem:=by simp
 obj:=fun i h st b hb=>by
  have e:b=it:=by simpa using hb
  subst e
  exact⟨_,st,fun v z=>by
   have z':Data.fields _=Data.cell v:=z
   cases z'⟩
 keep:=fun i h h' st k=>k it (by simp) _ st
 item:=by
  intro X hP hw hK hc i pins s σ H E I hf st hg
  subst hP hw hK
  obtain⟨f0,f1,f2,f3,f4,f5⟩:=hf it (by simp)
  have W:=Walks.range (prog:=X.prog) (w:=X.w) (I.ok.hd hc) it lo 1 n
  refine W.item i s _ _ hg st fun v h' tk hv st' kk=>?_
  obtain⟨t,rfl⟩:=hv
  have I1:Inv X pins σ H { s with heap:=h',toks:=tk }:=I.turned (fun b o hb e=>kk b o (by simpa using hb) e) f0 f1 f3 f4 f5
  refine⟨_,rfl,go_of (s:={ s with heap:=h',toks:=tk }) (n:="range_iterator") st' rfl rfl (by decide) ⟨.int (lo+i),H,I1,⟨t,?_⟩,⟨rfl,rfl⟩,st',fun b hb=>(hf b hb).1⟩⟩
  rw[Int.mul_one]
 done:=by
  intro X hP hw hK hc i pins s σ H E I hf st hg
  subst hP hw hK
  obtain⟨f0,f1,f2,f3,f4,f5⟩:=hf it (by simp)
  exact wpAny_pyNext_range_end (I.ok.hd hc) st (by have:n<=i:=hg;omega) fun h' eb=>⟨rfl,I.turned (t':=s.toks) (fun b o hb e=>eb b o hb e) f0 f1 f3 f4 f5⟩
 self:=fun _ _ _ _ _ st h=>wpAny_pyIter_rangeiter st h
end L2
namespace L2
open PySem PySem.Spec PyProof.Rows
section
variable{X:Cx}{tg:Expr}
def iList(K:PySem.W.Frag)(tl:TE):TI:=fun σ H R=>tl σ H fun x H1=>∃ a,x=.ref a/\(∃ xs,SqL K H1 a xs)/\R (Itl K a) H1
theorem Qtc{l:Expr}{tl:TE}(hl:PE X l tl):PI X tg l (iList X.K tl):=by
 intro pins s σ H R I h
 refine thn (hl pins s σ H _ I h) fun v s1 ⟨x,H1,I1,r1,q1⟩=>?_
 obtain⟨a,e,⟨xs,hq⟩,q⟩:=q1
 subst e
 cases r1
 obtain⟨its,rv,p,hz⟩:=I1.list hq
 refine wpAny_pyIter_list p.isList ?_
 refine⟨s1.heap.objs.size,[s1.heap.objs.size],_,_,H1,rfl,I1.kept (t':=s1.toks) fun b o e=>Heap.get?_push_of_some _ e,QqV a _,⟨_,Heap.get?_push_size _ rfl,rfl,rfl⟩,fun b hb=>?_,q⟩
 have e:b=s1.heap.objs.size:=by simpa using hb
 subst e
 exact I1.fpOk (Nat.le_refl _) (I1.hok.fresh (Nat.le_refl _))
theorem Qr6{pins:List (Addr×Obj)}{σ:St}{H:Hp}{s:Shared}{R:It->Hp->Prop}{E:Value->Shared->Prop}{lo hi:Int}{t u v:Tok}{tk:Nat}(I:Inv X pins σ H s)(h1 : -(2 ^ 62)<=lo)(h2:lo<2 ^ 62)(h3 : -(2 ^ 62)<=hi)(h4:hi<2 ^ 62)
 (q:R (Itr lo (hi - lo).toNat) H):wpAny (model X.prog X.w) X.A (pyIter (.ref s.heap.objs.size)) (PIE X pins σ tg R) E { s with heap:=s.heap.push { cls:=.type "range",data:=.fields #[.int lo t,.int hi u,.int 1 v] },toks:=tk }:=by
 refine wpAny_pyIter_range (IsRange.new ..) (small_one h1 h2 h3 h4) ?_
 have I1:Inv X pins σ H { s with heap:=s.heap.push { cls:=.type "range",data:=.fields #[.int lo t,.int hi u,.int 1 v] },toks:=tk }:=I.kept fun b o e=>Heap.get?_push_of_some _ e
 refine⟨(s.heap.push { cls:=.type "range",data:=.fields #[.int lo t,.int hi u,.int 1 v] }).objs.size,[(s.heap.push { cls:=.type "range",data:=.fields #[.int lo t,.int hi u,.int 1 v] }).objs.size],_,_,H,rfl,
  I1.kept (t':=tk) fun b o e=>Heap.get?_push_of_some _ e,QpM _ lo (hi - lo).toNat,?_,fun b hb=>?_,q⟩
 ·have e1:lo+((0:Nat):Int) * 1=lo:=by simp
  have e2:(((hi - lo).toNat:Nat):Int) - ((0:Nat):Int)=Builtin.Range.rangeSize lo hi 1:=by rw[rangeSize_one];split<;>omega
  show IsRangeIter _ _ (lo+((0:Nat):Int) * 1) ((((hi - lo).toNat:Nat):Int) - ((0:Nat):Int)) 1
  rw[e1,e2]
  exact Heap.get?_push_size _ rfl
 ·have e:b=(s.heap.push { cls:=.type "range",data:=.fields #[.int lo t,.int hi u,.int 1 v] }).objs.size:=by simpa using hb
  subst e
  exact I1.fpOk (Nat.le_refl _) (I1.hok.fresh (Nat.le_refl _))
def iRng1(ta:TA):TI:=fun σ H R=>ta σ H fun vs H1=>∃ j:Int,vs=[.int j] /\ -(2 ^ 62)<=j/\j<2 ^ 62/\R (Itr 0 j.toNat) H1
theorem QqB{a:Expr}{ta:TA}{p pos:Pos}(hg:Gl X "range")(hm:X.mg "range"=none)(ha:PA X [a] ta)(hs:starEach [a] X.env=[(false,eval a X.env)]:=by rfl):PI X tg (.Call (.Name "range" p) [a] [] pos) (iRng1 ta):=by
 intro pins s σ H R I h
 refine Call_ (QgA I hg hm boot_range (PyProof.Rows.callWith_type1 (thn (ha pos pins s σ H _ I h) fun us s1 ⟨vs,H1,I1,r1,q1⟩=>?_) hs rfl))
 obtain⟨j,e,q1,q2,q⟩:=q1
 subst e
 cases r1 with
 | cons r rr=>
  cases rr
  obtain⟨t,rfl⟩:=r
  exact call_range_1 (Qr6 I1 (by omega) (by omega) q1 q2 (by simpa using q))
def tFor(wi:TI)(g:TG)(tb:TS):TS:=fun D σ H=>wi σ H fun J H1=>∃ W:Nat->Nat->St->Hp->Prop,(∃ m,W 0 m σ H1)/\∀ i m σ H,W i m σ H->
 (J.stop i H/\D.nx σ H)∨(J.go i H/\∃ N:St->Hp->Prop,(∀ σ' H',N σ' H'->∃ m',m'<m/\W (i+1) m' σ' H')/\∀ x H',J.yld i H x H'->g x σ H' fun σ2 H2=>tb { D with nx:=N,ct:=N,bk:=D.nx } σ2 H2)
def Qgq(fp:List Addr)(h:Heap):List (Addr×Obj):=fp.filterMap fun b=>(h.get? b).map fun o=>(b,o)
theorem QdX{fp:List Addr}{h:Heap}{b:Addr}{o:Obj}(hb:b∈fp)(e:h.get? b=some o):(b,o)∈Qgq fp h:=List.mem_filterMap.mpr ⟨b,hb,by rw[e];rfl⟩
theorem Qqe{fp:List Addr}{h:Heap}{p:Addr×Obj}(hp:p∈Qgq fp h):p.1∈fp/\h.get? p.1=some p.2:=by
 obtain⟨b,hb,e⟩:=List.mem_filterMap.mp hp
 cases q:h.get? b with
 | none=>rw[q]at e;cases e
 | some o=>
  rw[q]at e
  have e':(b,o)=p:=Option.some.inj e
  subst e'
  exact⟨hb,q⟩
theorem Inv.pinned{pins:List (Addr×Obj)}{σ:St}{H:Hp}{s:Shared}{fp:List Addr}(I:Inv X pins σ H s)(hf:∀ b∈fp,FpOk X pins H b)(ho:∀ b∈fp,∃ o,s.heap.get? b=some o/\∀ v,o.data≠.cell v):Inv X (pins++Qgq fp s.heap) σ H s:=
 I.pins_of fun p hp=>(List.mem_append.mp hp).elim (fun z=>I.pin p (List.mem_append_right _ z)) fun z=>by
  obtain⟨hb,e⟩:=Qqe z
  obtain⟨f0,f1,f2,_⟩:=hf p.1 hb
  obtain⟨o,e',d⟩:=ho p.1 hb
  rw[e]at e';cases e'
  exact⟨e,f0,f1,f2,d⟩
theorem Inv.unpinned{pins pl:List (Addr×Obj)}{σ:St}{H:Hp}{s:Shared}(I:Inv X (pins++pl) σ H s):Inv X pins σ H s:=I.pins_of fun p hp=>I.pin p (List.mem_append_right _ (List.mem_append_left _ hp))
theorem Qmh{iter:Expr}{body:List Stmt}{wi:TI}{g:TG}{tb:TS}{pos:Pos}(hp:PassesOwn (model X.prog X.w) X.A X.env X.xe)(hc:X.calm=true)(hi:PI X tg iter wi)(hg:PG X tg g)(hb:PSs X body tb)
 (hs:∀ x,foldedSetIterable iter X.env x=pure x:=by intro _;rfl):PS X (.For tg iter body [] pos) (tFor wi g tb):=by
 intro pins s σ H D I h
 refine wpAny_For (thn (hi pins s σ H _ I h) fun v s1 h1=>thn h1 fun itv s2 h2=>?_) hs
 obtain⟨it,fp,tn,J,H2,e,I2,T,st2,f2,W,⟨m0,w0⟩,turn⟩:=h2
 subst e
 -- what stays true of the iterator's objects through the loop
 have stat:∀{H':Hp},(∀ b∈fp,H' b=none)->∀ b∈fp,FpOk X pins H' b:=fun hn b hb=>⟨hn b hb,(f2 b hb).2⟩
 refine codeAny_forLoop_any (fun n s'=>∃ i σ' H',Inv X pins σ' H' s'/\tn i s'.heap/\(∀ b∈fp,H' b=none)/\W i n σ' H') ?_ m0 ⟨0,σ,H2,I2,st2,fun b hb=>(f2 b hb).1,w0⟩
 rintro n s3 ⟨i,σ3,H3,I3,st3,fr3,w3⟩
 rcases turn i n σ3 H3 w3 with⟨stop,qn⟩ | ⟨go,N,hN,step⟩
 ·refine wpAny_passesOwn hp (thn (T.done X rfl rfl rfl hc i pins s3 σ3 H3 X.xe I3 (stat fr3) st3 stop) fun r s4 ⟨hr,I4⟩=>?_)
  subst hr
  exact wpAny_execs_nil ⟨σ3,H3,I4,qn⟩
 ·refine wpAny_passesOwn hp (thn (T.item X rfl rfl rfl hc i pins s3 σ3 H3 X.xe I3 (stat fr3) st3 go) fun r s4 ⟨u,hr,h4⟩=>?_)
  subst hr
  refine wpAny_passesOwn hp (thn h4 fun _ s5 ⟨x,H5,I5,r5,y5,st5,fr5⟩=>?_)
  have I5':=I5.pinned (stat fr5) (T.obj _ _ st5)
  refine wpAny_passesOwn hp (thn (hg _ s5 σ3 H5 x u _ I5' r5 (step x H5 y5)) fun _ s6 ⟨σ6,H6,I6,q6⟩=>?_)
  refine wpAny_passesOwn hp (thn (hb _ s6 σ6 H6 _ I6 q6) fun f s7 q7=>?_)
  have again:∀{σ7:St}{H7:Hp},Inv X (pins++Qgq fp s5.heap) σ7 H7 s7->N σ7 H7->∃ m,m<n/\∃ i σ' H',Inv X pins σ' H' s7/\tn i s7.heap/\(∀ b∈fp,H' b=none)/\W i m σ' H':=fun {σ7 H7} I7 n7=>by
   obtain⟨m',hm,w7⟩:=hN σ7 H7 n7
   refine⟨m',hm,i+1,σ7,H7,I7.unpinned,T.keep _ _ _ st5 fun b hb o e=>(I7.pin (b,o) (List.mem_append_right _ (List.mem_append_right _ (QdX hb e)))).1,fun b hb=>?_,w7⟩
   obtain⟨o,e,d⟩:=T.obj _ _ st5 b hb
   exact(I7.pin (b,o) (List.mem_append_right _ (List.mem_append_right _ (QdX hb e)))).2.1
  cases f with
  | next=>obtain⟨σ7,H7,I7,n7⟩:=q7;exact again I7 n7
  | cont=>obtain⟨σ7,H7,I7,n7⟩:=q7;exact again I7 n7
  | brk=>obtain⟨σ7,H7,I7,q7⟩:=q7;exact⟨σ7,H7,I7.unpinned,q7⟩
  | ret v=>obtain⟨x7,σ7,H7,I7,r7,q7⟩:=q7;exact⟨x7,σ7,H7,I7.unpinned,r7,q7⟩
end
end L2
namespace L2
open PySem PySem.Spec PyProof.Rows
abbrev R2:=V->V->Hp->VK->Prop
def OpR(X:Cx)(f:Value->Value->Sem Value)(r:R2):Prop:=
 ∀(pins:List (Addr×Obj))(s:Shared)(σ:St)(H:Hp)(x y:V)(v u:Value)(Q:VK),Inv X pins σ H s->RelV x v->RelV y u->r x y H Q->
  wpAny (model X.prog X.w) X.A (f v u) (EP X pins σ Q) X.xe s
def UnR(X:Cx)(f:Value->Sem Value)(r:V->Hp->VK->Prop):Prop:=
 ∀(pins:List (Addr×Obj))(s:Shared)(σ:St)(H:Hp)(x:V)(v:Value)(Q:VK),Inv X pins σ H s->RelV x v->r x H Q->
  wpAny (model X.prog X.w) X.A (f v) (EP X pins σ Q) X.xe s
def CallR(X:Cx)(f:Value)(r:List V->Hp->VK->Prop):Prop:=
 ∀(pins:List (Addr×Obj))(s:Shared)(σ:St)(H:Hp)(xs:List V)(us:List Value)(Q:VK),Inv X pins σ H s->Vals xs us->r xs H Q->
  wpAny (model X.prog X.w) X.A (call f us) (EP X pins σ Q) X.xe s
def tOp(r:R2)(ta tb:TE):TE:=fun σ H Q=>ta σ H fun x H1=>tb σ H1 fun y H2=>r x y H2 Q
def tUn(r:V->Hp->VK->Prop)(ta:TE):TE:=fun σ H Q=>ta σ H fun x H1=>r x H1 Q
def rI(C:Int->Int->Prop)(g:Int->Int->V):R2:=fun x y H Q=>∃ i j,x=.int i/\y=.int j/\C i j/\Q (g i j) H
def rI0(g:Int->Int->V):R2:=fun x y H Q=>∃ i j,x=.int i/\y=.int j/\Q (g i j) H
def rU(g:Int->V):V->Hp->VK->Prop:=fun x H Q=>∃ i,x=.int i/\Q (g i) H
section
variable{X:Cx}{a b c:Expr}{ta tb tc:TE}{pos:Pos}
theorem binT(ha:PE X a ta)(hb:PE X b tb){pins:List (Addr×Obj)}{s:Shared}{σ:St}{H:Hp}{R:V->V->Hp->Prop}(I:Inv X pins σ H s)
 (h:ta σ H fun x H1=>tb σ H1 fun y H2=>R x y H2) {Q:Value->Shared->Prop} {f:Value->Value->Sem Value}
 (hf:∀ v u s2 x y H2,Inv X pins σ H2 s2->RelV x v->RelV y u->R x y H2->wpAny (model X.prog X.w) X.A (f v u) Q X.xe s2):
 wpAny (model X.prog X.w) X.A (eval a X.env) (fun v s₁=>wpAny (model X.prog X.w) X.A (eval b X.env) (fun u s₂ => wpAny (model X.prog X.w) X.A (f v u) Q X.xe s₂) X.xe s₁) X.xe s:=by
 refine thn (ha pins s σ H _ I h) fun v s1 ⟨x,H1,I1,r1,q1⟩=>?_
 refine thn (hb pins s1 σ H1 _ I1 q1) fun u s2 ⟨y,H2,I2,r2,q2⟩=>?_
 exact hf v u s2 x y H2 I2 r1 r2 q2
theorem pe_op{op:Operator}{r:R2}(ho:OpR X (binaryOp op) r)(ha:PE X a ta)(hb:PE X b tb):PE X (.BinOp a op b pos) (tOp r ta tb):=by
 intro pins s σ H Q I h
 exact wpAny_BinOp (binT ha hb I h fun v u s2 x y H2 I2 rx ry q=>ho pins s2 σ H2 x y v u Q I2 rx ry q)
theorem pe_un{op:UnaryOp}{r:V->Hp->VK->Prop}(ho:UnR X (unaryOp op) r)(ha:PE X a ta):PE X (.UnaryOp op a pos) (tUn r ta):=by
 intro pins s σ H Q I h
 exact UnaryOp_ (thn (ha pins s σ H _ I h) fun v s1 ⟨x,H1,I1,r1,q1⟩=>ho pins s1 σ H1 x v Q I1 r1 q1)
theorem opI{f:Value->Value->Sem Value}{C:Int->Int->Prop}{g:Int->Int->Int}
 (rule:∀(i j:Int)(t u:Tok)(s:Shared)(Q:Value->Shared->Prop)(E:Value->Shared->Prop),C i j->Q (.int (g i j) s.toks) { s with toks:=s.toks+1 }->wpAny (model X.prog X.w) X.A (f (.int i t) (.int j u)) Q E s):
 OpR X f (rI C fun i j=>.int (g i j)):=by
 intro pins s σ H x y v u Q I rx ry h
 obtain⟨i,j,rfl,rfl,hc,q⟩:=h
 obtain⟨t,rfl⟩:=rx
 obtain⟨t',rfl⟩:=ry
 exact rule i j t t' s _ _ hc ⟨.int (g i j),H,I.tok _,⟨_,rfl⟩,q⟩
theorem opI0{f:Value->Value->Sem Value}{g:Int->Int->Int}
 (rule:∀(i j:Int)(t u:Tok)(s:Shared)(Q:Value->Shared->Prop)(E:Value->Shared->Prop),Q (.int (g i j) s.toks) { s with toks:=s.toks+1 }->wpAny (model X.prog X.w) X.A (f (.int i t) (.int j u)) Q E s):
 OpR X f (rI0 fun i j=>.int (g i j)):=by
 intro pins s σ H x y v u Q I rx ry h
 obtain⟨i,j,rfl,rfl,q⟩:=h
 obtain⟨t,rfl⟩:=rx
 obtain⟨t',rfl⟩:=ry
 exact rule i j t t' s _ _ ⟨.int (g i j),H,I.tok _,⟨_,rfl⟩,q⟩
theorem opB0{f:Value->Value->Sem Value}{g:Int->Int->Bool}
 (rule:∀(i j:Int)(t u:Tok)(s:Shared)(Q:Value->Shared->Prop)(E:Value->Shared->Prop),Q (.bool (g i j)) s->wpAny (model X.prog X.w) X.A (f (.int i t) (.int j u)) Q E s):
 OpR X f (rI0 fun i j=>.bl (g i j)):=by
 intro pins s σ H x y v u Q I rx ry h
 obtain⟨i,j,rfl,rfl,q⟩:=h
 obtain⟨t,rfl⟩:=rx
 obtain⟨t',rfl⟩:=ry
 exact rule i j t t' s _ _ ⟨.bl (g i j),H,I,rfl,q⟩
def CPow(i j:Int):Prop:=0<=j/\j<=1000000/\i.natAbs<2 ^ 64
def CMul(i j:Int):Prop:=(-(2 ^ 64)<i/\i<2 ^ 64)∨(-(2 ^ 64)<j/\j<2 ^ 64)
theorem CMul.ok{i j:Int}(h:CMul i j):IntMulOk i j:=by
 rcases h with⟨h1,h2⟩ | ⟨h1,h2⟩
 ·exact .of_left (intBits_le_64 h1 h2)
 ·exact .of_right (intBits_le_64 h1 h2)
theorem Qp3(k:Nat):(0:Int)<=2 ^ k:=by
 rw[two_pow_cast]
 exact Int.natCast_nonneg _
theorem Qu9:OpR X (binaryOp .Add) (rI0 fun i j=>.int (i+j)):=opI0 fun _ _ _ _ _ _ _ q=>add_int q
theorem Qu3:OpR X (binaryOp .Sub) (rI0 fun i j=>.int (i - j)):=opI0 fun _ _ _ _ _ _ _ q=>sub_int q
theorem Qtb:OpR X (binaryOp .Mod) (rI (fun _ j=>j≠0) fun i j=>.int (i.fmod j)):=opI fun _ _ _ _ _ _ _ hc q=>mod_int' hc q
theorem QuP:OpR X (binaryOp .Pow) (rI CPow fun i j=>.int (i ^ j.toNat)):=opI fun _ _ _ _ _ _ _ hc q=>pow_int_small hc.1 hc.2.1 hc.2.2 q
theorem Qvf:OpR X (binaryOp .LShift) (rI CPow fun i j=>.int (i * 2 ^ j.toNat)):=opI fun _ _ _ _ _ _ _ hc q=>lshift_int_small hc.1 hc.2.1 hc.2.2 q
theorem Qur:OpR X (binaryOp .RShift) (rI (fun _ j=>0<=j) fun i j=>.int (i / 2 ^ j.toNat)):=opI fun i j _ _ _ _ _ hc q=>
 rshift_int hc (by rw[Int.fdiv_eq_ediv_of_nonneg i (Qp3 _)];exact q)
theorem unI{f:Value->Sem Value}{g:Int->Int}
 (rule:∀(i:Int)(t:Tok)(s:Shared)(Q:Value->Shared->Prop)(E:Value->Shared->Prop),Q (.int (g i) s.toks) { s with toks:=s.toks+1 }->wpAny (model X.prog X.w) X.A (f (.int i t)) Q E s):
 UnR X f (rU fun i=>.int (g i)):=by
 intro pins s σ H x v Q I rx h
 obtain⟨i,rfl,q⟩:=h
 obtain⟨t,rfl⟩:=rx
 exact rule i t s _ _ ⟨.int (g i),H,I.tok _,⟨_,rfl⟩,q⟩
theorem Qvb:UnR X (unaryOp .USub) (rU fun i=>.int (-i)):=unI fun _ _ _ _ _ q=>neg_int q
end
def scal:V->V->Bool
 | .non,.non=>true | .non,.int _=>true | .int _,.non=>true | .non,.bl _=>true | .bl _,.non=>true | .non,.str _=>true | .str _,.non=>true
 | .int _,.int _=>true | .bl _,.bl _=>true | .str _,.str _=>true | .byt _,.byt _=>true
 | .int _,.str _=>true | .str _,.int _=>true | .bl _,.str _=>true | .str _,.bl _=>true
 | _,_=>false
section
variable{X:Cx}{a b c:Expr}{ta tb tc:TE}{pos:Pos}
theorem Qvj{pins:List (Addr×Obj)}{σ:St}{H:Hp}{s:Shared}{Q:VK}{k k':Bool}(I:Inv X pins σ H s)(q:Q (.bl k) H)(e:k=k'):EP X pins σ Q (.bool k') s:=by
 subst e
 exact⟨.bl k,H,I,rfl,q⟩
theorem op_lt:OpR X (compareOp .Lt) (rI0 fun i j=>.bl (decide (i<j))):=opB0 fun _ _ _ _ _ _ _ q=>lt_int q
theorem op_le:OpR X (compareOp .LtE) (rI0 fun i j=>.bl (decide (i<=j))):=opB0 fun _ _ _ _ _ _ _ q=>le_int q
theorem op_gt:OpR X (compareOp .Gt) (rI0 fun i j=>.bl (decide (j<i))):=opB0 fun _ _ _ _ _ _ _ q=>gt_int q
theorem Qrk:OpR X (compareOp .In) (fun x y H Q=>∃ i j,x=.str i/\y=.str j/\Q (.bl (!(Builtin.Str.occurrences j i 0 j.length 1).isEmpty)) H):=by
 intro pins s σ H x y v u Q I rx ry h
 obtain⟨i,j,rfl,rfl,q⟩:=h
 obtain⟨t,rfl⟩:=rx
 obtain⟨t',rfl⟩:=ry
 exact in_str (Qvj I q rfl)
theorem OpR.or{f:Value->Value->Sem Value}{r r':R2}(h:OpR X f r)(h':OpR X f r'):OpR X f (fun x y H Q=>r x y H Q∨r' x y H Q):=by
 intro pins s σ H x y v u Q I rx ry q
 rcases q with q | q
 ·exact h pins s σ H x y v u Q I rx ry q
 ·exact h' pins s σ H x y v u Q I rx ry q
theorem Qft(b:Expr){op:CmpOp}(h:op≠.In:=by decide)(h2:op≠.NotIn:=by decide):behindInMarks op b=false:=by
 have e1:(op == CmpOp.In)=false:=by cases op<;>first | rfl | exact absurd rfl h
 have e2:(op == CmpOp.NotIn)=false:=by cases op<;>first | rfl | exact absurd rfl h2
 cases b<;>simp[behindInMarks,e1,e2]
theorem QsZ{op:CmpOp}{r:R2}(ho:OpR X (compareOp op) r)(ha:PE X a ta)(hb:PE X b tb)(hm:behindInMarks op b=false):PE X (.Compare a [op] [b] pos) (tOp r ta tb):=by
 intro pins s σ H Q I h
 exact wpAny_Compare1 (binT ha hb I h fun v u s2 x y H2 I2 rx ry q=>ho pins s2 σ H2 x y v u Q I2 rx ry q) hm
def tTest(t:TE):TT:=fun σ H Q=>t σ H fun x H'=>∃ k,x=.bl k/\Q k H'
theorem Qtm{op:CmpOp}{r:R2}(ho:OpR X (compareOp op) r)(ha:PE X a ta)(hb:PE X b tb)(hm:behindInMarks op b=false):PT X (.Compare a [op] [b] pos) (tTest (tOp r ta tb)):=by
 intro pins s σ H Q I h
 refine wpAny_isTrue_Compare1 (thn (ha pins s σ H _ I h) fun v s1 ⟨x,H1,I1,r1,q1⟩=>thn (hb pins s1 σ H1 _ I1 q1) fun u s2 ⟨y,H2,I2,r2,q2⟩=>
  thn (ho pins s2 σ H2 x y v u _ I2 r1 r2 q2) fun c s3 ⟨z,H3,I3,r3,k,e,q3⟩=>?_) hm
 subst e
 cases r3
 exact wpAny_truthy_bool ⟨H3,I3,q3⟩
def Qlx(r r':R2)(ta tb tc:TE):TE:=fun σ H Q=>ta σ H fun x H1=>tb σ H1 fun y H2=>r x y H2 fun z H3=>∃ k,z=.bl k/\
 (if k=true then tc σ H3 fun w' H4=>r' y w' H4 Q else Q (.bl false) H3)
theorem Qsr{op op':CmpOp}{r r':R2}(ho:OpR X (compareOp op) r)(ho':OpR X (compareOp op') r')(ha:PE X a ta)(hb:PE X b tb)(hc:PE X c tc)
 (hm:lastMarks [op,op'] [b,c]=false:=by with_unfolding_all rfl):PE X (.Compare a [op,op'] [b,c] pos) (Qlx r r' ta tb tc):=by
 intro pins s σ H Q I h
 refine Compare_chain (thn (ha pins s σ H _ I h) fun v s1 ⟨x,H1,I1,r1,q1⟩=>chain_link (thn (hb pins s1 σ H1 _ I1 q1) fun u s2 ⟨y,H2,I2,r2,q2⟩=>
  thn (ho pins s2 σ H2 x y v u _ I2 r1 r2 q2) fun d s3 ⟨z,H3,I3,r3,k,e,q3⟩=>?_)) hm
 subst e
 cases r3
 refine wpAny_truthy_bool ?_
 cases k with
 | false=>exact ite_ff ⟨.bl false,H3,I3,rfl,q3⟩
 | true=>exact ite_tt (chain_last (thn (hc pins s3 σ H3 _ I3 q3) fun w' s4 ⟨z',H4,I4,r4,q4⟩=>ho' pins s4 σ H4 y z' u w' Q I4 r2 r4 q4))
theorem Qr8{op op':CmpOp}{r r':R2}(ho:OpR X (compareOp op) r)(ho':OpR X (compareOp op') r')(ha:PE X a ta)(hb:PE X b tb)(hc:PE X c tc)
 (hm:lastMarks [op,op'] [b,c]=false:=by with_unfolding_all rfl):PT X (.Compare a [op,op'] [b,c] pos) (tTest (Qlx r r' ta tb tc)):=by
 intro pins s σ H Q I h
 refine isTrue_chain (thn (ha pins s σ H _ I h) fun v s1 ⟨x,H1,I1,r1,q1⟩=>test_link (thn (hb pins s1 σ H1 _ I1 q1) fun u s2 ⟨y,H2,I2,r2,q2⟩=>
  thn (ho pins s2 σ H2 x y v u _ I2 r1 r2 q2) fun d s3 ⟨z,H3,I3,r3,k,e,q3⟩=>?_)) hm
 subst e
 cases r3
 refine wpAny_truthy_bool ?_
 cases k with
 | false=>
  obtain⟨k',e',q'⟩:=q3
  cases e'
  exact ite_ff ⟨H3,I3,q'⟩
 | true=>
  refine ite_tt (test_last (thn (hc pins s3 σ H3 _ I3 q3) fun w' s4 ⟨z',H4,I4,r4,q4⟩=>thn (ho' pins s4 σ H4 y z' u w' _ I4 r2 r4 q4) fun d' s5 ⟨z2,H5,I5,r5,k2,e2,q5⟩=>?_))
  subst e2
  cases r5
  exact wpAny_truthy_bool ⟨H5,I5,q5⟩
theorem QgC:(sizeLine:Nat)<2 ^ 63:=by rw[sizeLine_eq];decide
theorem Qp4:OpR X (binaryOp .Add) (fun x y H Q=>∃ i j,x=.str i/\y=.str j/\i.length+j.length<=sizeLine/\Q (.str (i++j)) H):=by
 intro pins s σ H x y v u Q I rx ry h
 obtain⟨i,j,rfl,rfl,hz,q⟩:=h
 obtain⟨t,rfl⟩:=rx
 obtain⟨t',rfl⟩:=ry
 exact add_str (fun t' tk=>⟨.str (i++j),H,I.tok _,⟨_,rfl⟩,q⟩) hz
theorem vals1{x:V}{us:List Value}(r:Vals [x] us):∃ u,us=[u]/\RelV x u:=by
 cases r with
 | cons r1 r2=>cases r2;exact⟨_,rfl,r1⟩
theorem vals2{x y:V}{us:List Value}(r:Vals [x,y] us):∃ u w',us=[u,w']/\RelV x u/\RelV y w':=by
 cases r with
 | cons r1 r2=>
  cases r2 with
  | cons r3 r4=>cases r4;exact⟨_,_,rfl,r1,r3⟩
theorem Qq4(hc:X.calm=true):CallR X (.builtin "min") (fun xs H Q=>∃ i j,xs=[.int i,.int j]/\Q (.int (if j<i then j else i)) H):=by
 intro pins s σ H xs us Q I r h
 obtain⟨i,j,rfl,q⟩:=h
 obtain⟨u,w',rfl,⟨t,rfl⟩,⟨t',rfl⟩⟩:=vals2 r
 refine min_two_ints (I.ok.hd hc) fun h' tk k=>⟨_,H,I.kept k,?_,q⟩
 by_cases hj:j<i
 ·rw[if_pos hj,if_pos hj];exact⟨_,rfl⟩
 ·rw[if_neg hj,if_neg hj];exact⟨_,rfl⟩
theorem Qro:CallR X (.type "int") (fun xs H Q=>(∃ i,xs=[.int i]/\Q (.int i) H)∨∃ k,xs=[.bl k]/\Q (.int (if k then 1 else 0)) H):=by
 intro pins s σ H xs us Q I r h
 rcases h with⟨i,rfl,q⟩ | ⟨k,rfl,q⟩
 ·obtain⟨u,rfl,t,rfl⟩:=vals1 r
  exact call_int_int ⟨.int i,H,I,⟨_,rfl⟩,q⟩
 ·obtain⟨u,rfl,r1⟩:=vals1 r
  cases r1
  exact call_int_bool ⟨.int (if k then 1 else 0),H,I.tok _,⟨_,rfl⟩,q⟩
theorem Ql5:CallR X (.type "str") (fun xs H Q=>∃ i,xs=[.int i]/\i.natAbs.log2<1920/\Q (.str (toString i)) H):=by
 intro pins s σ H xs us Q I r h
 obtain⟨i,rfl,hz,q⟩:=h
 obtain⟨u,rfl,t,rfl⟩:=vals1 r
 exact PySem.P.str_of_int hz ⟨.str _,H,I.tok _,⟨_,rfl⟩,q⟩
end
end L2
namespace L2
open PySem PySem.Spec PyProof.Rows
structure ObjM(h:Heap)(x dx C:Addr)(mA:Str->Option Value):Prop where
 obj:h.get? x=some (PySem.W.instObj C dx)
 ns:h.Ns1 dx mA
 ne:dx≠x
theorem Qqv{h:Heap}{dx:Addr}{mA:Str->Option Value}(n:h.Ns1 dx mA):∃ od,h.get? dx=some od/\∀ name,PySem.W.lookIn name od=some (mA name):=by
 obtain⟨o,es,ep,ho,hd,hk,_,hm⟩:=n
 refine⟨o,ho,fun name=>?_⟩
 have e:=hm name
 unfold nsFind findBy at e
 rw[← Array.find?_toList]at e
 unfold PySem.W.lookIn
 rw[hd]
 dsimp only
 split
 ·rename_i y q
  rw[q]at e
  exact congrArg some e
 ·rename_i q
  rw[q]at e
  have a:es.toList.any (·.refKey)=false:=by
   rw[List.any_eq_false]
   intro y hy
   obtain⟨z,t,hkey⟩:=hk y (Array.mem_toList_iff.mp hy)
   simp[DictEntry.refKey,hkey]
  have a':¬ es.toList.any (·.refKey)=true:=by rw[a];exact Bool.false_ne_true
  rw[if_neg a']
  exact congrArg some e
theorem ObjM.look{h:Heap}{x dx C:Addr}{mA:Str->Option Value}(I:ObjM h x dx C mA):∃ od,PySem.W.InstAt h x (PySem.W.instObj C dx) C (some od)/\∀ name,PySem.W.lookIn name od=some (mA name):=
 let ⟨od,ho,hl⟩:=Qqv I.ns
 ⟨od,⟨I.obj,rfl,rfl,ho⟩,hl⟩
section
variable{prog:Program}{w:World}{A:Around}{E:Value->Shared->Prop}{s:Shared}{K:PySem.W.Frag}{x dx C f:Addr}{mA:Str->Option Value}{name:Str}{v:Value}
theorem Qt9{expr:Bool}{Q:Value->Shared->Prop}(X:K.In s.heap)(I:ObjM s.heap x dx C mA)(hg:PySem.W.plainGet K C name=true)(hh:PySem.W.hasDictIn K C=true)
 (ha:PySem.W.findIn K (.ref C) name=some none) (hv:mA name=some v) (hv':PySem.W.handedIn v=true) (h:Q v { s with toks:=s.toks+1 }):
 wpAny (model prog w) A (getAttr (.ref x) name expr) Q E s:=by
 obtain⟨od,J,hl⟩:=I.look
 exact PySem.W.get_value X J (PySem.W.plainGet_of hg).1 (PySem.W.findObj_own hh ha rfl (by rw[hl,hv])) hv' h
theorem QrK{pl:Sem Bool}{Q:Value×List Value->Shared->Prop}(X:K.In s.heap)(I:ObjM s.heap x dx C mA)(hg:PySem.W.plainGet K C name=true)
 (hf:PySem.W.findIn K (.ref C) name=some (some (.ref f))) (ht:PySem.W.isFn K (.ref f)=true) (hv:mA name=none) (h:Q (.ref f,[.ref x]) s):
 wpAny (model prog w) A (getMethod (.ref x) name pl) Q E s:=by
 obtain⟨od,J,hl⟩:=I.look
 exact PySem.W.method_fn X J (PySem.W.plainGet_of hg).1 (PySem.W.plainGet_of hg).2 hf (beq_iff_eq.mp ht) (by show(PySem.W.lookIn name od).map (·.isSome)=some false;rw[hl,hv];rfl) h
theorem QtC{ns:List Str}{Q:Unit->Shared->Prop}(X:K.In s.heap)(I:ObjM s.heap x dx C mA)
 (hs:PySem.W.findIn K (.ref C) "__setattr__"=some (some (.builtin "object.__setattr__"))) (hp:PySem.W.plainOver K C=true) (ht:PySem.W.takerIn K C name=some none) (hh:PySem.W.hasDictIn K C=true)
 (hw:PySem.Within mA ns) (hsz:ns.length<=sizeLine)
 (h:∀ h',ObjM h' x dx C (fun y=>if y=name then some v else mA y)->Heap.SameBut dx s.heap h'->Q () { s with heap:=h',toks:=s.toks+2 }):
 wpAny (model prog w) A (setAttr (.ref x) name v) Q E s:=by
 obtain⟨od,J,hl⟩:=I.look
 refine PySem.W.set_plain X J hs (PySem.W.osa_open (s:={ s with toks:=s.toks+1 }) (r:=none) X J hp ht fun b=>?_)
 obtain⟨cd,hc,hd'⟩:=PySem.W.any_some hh
 have hx:s.heap.get? x=some ⟨.ref C,some dx,.plain, #[]⟩:=I.obj
 refine wpAny_bind (wpAny_pure (wpAny_bind (wpAny_bind (wpAny_loadPart hx (wpAny_bind (PySem.W.Looks.here (s:={ s with toks:=s.toks+1 }) (PySem.W.looks_clsIn X hc) ?_))))))
 rw[hd']
 refine wpAny_pure (a:=some dx) (wpAny_bind (wpAny_pure (wpAny_bind ?_)))
 refine wpAny_nsSet1 (s:={ s with toks:=s.toks+1 }) I.ns fun h' hn2 hs2=>?_
 obtain⟨oD,esD,epD,hoD,hdD,hcD⟩:=hn2.count (PySem.Within.cons name v hw)
 refine wpAny_bind (wpAny_lookBehind hoD (by rw[hdD];exact pastItsLine_dict (Nat.le_trans hcD (by rw[List.length_cons];omega))) ?_)
 exact wpAny_pure (h _ ⟨(hs2.2 _ (Ne.symm I.ne)).trans I.obj,hn2,I.ne⟩ hs2)
theorem Qsa{R:Result->Shared->Prop}{vs:List Value}{kw:List (Str×Value)}(X:K.In s.heap)(hm:PySem.W.makesIn K C=true)
 (hi:PySem.W.findIn K (.ref C) "__init__"=some (some (.ref f))) (hf:PySem.W.typeIn K (.ref f)=some (.type "function"))
 (h:codeAny (model prog w) (A.under (.builtin "type.__call__" ⟨.ref C::vs,kw⟩)) (.call (.ref f) ⟨.ref (s.heap.objs.size+1)::vs,kw⟩) (PySem.W.InitBack (s.heap.objs.size+1) R)
  { s with heap:=(s.heap.push PySem.W.emptyDict).push (PySem.W.instObj C s.heap.objs.size) }):
 codeAny (model prog w) A (.call (.ref C) ⟨vs,kw⟩) R s:=by
 obtain⟨hh,g,d,t,os⟩:=s
 exact PySem.W.make_core (PySem.W.makes_of X hm) (PySem.W.looks_findIn X hi) (fun self=>PySem.W.bind_fn X self hf) (.inl rfl) h
end
def putF(f:Str)(v:V):List (Str×V)->List (Str×V)
 | []=>[(f,v)]
 | (g,x)::r=>if g=f then(g,v)::r else(g,x)::putF f v r
theorem Qhi(f g:Str)(v:V):∀ fs:List (Str×V),(putF f v fs).lookup g=if g=f then some v else fs.lookup g
 | []=>by
  show List.lookup g [(f,v)]=_
  by_cases h:g=f
  ·have hb:(g == f)=true:=beq_iff_eq.mpr h
   simp only[List.lookup,hb,if_pos h]
  ·have hb:(g == f)=false:=beq_eq_false_iff_ne.mpr h
   simp only[List.lookup,hb,if_neg h]
 | (k,x)::r=>by
  have ih:=Qhi f g v r
  rw[show putF f v ((k,x)::r)=(if k=f then(k,v)::r else(k,x)::putF f v r) from rfl]
  by_cases hk:k=f
  ·rw[if_pos hk]
   by_cases h:g=k
   ·have hb:(g == k)=true:=beq_iff_eq.mpr h
    simp only[List.lookup,hb,if_pos (h.trans hk)]
   ·have hb:(g == k)=false:=beq_eq_false_iff_ne.mpr h
    simp only[List.lookup,hb,if_neg (fun e:g=f=>h (e.trans hk.symm))]
  ·rw[if_neg hk]
   by_cases h:g=k
   ·have hb:(g == k)=true:=beq_iff_eq.mpr h
    simp only[List.lookup,hb,if_neg (fun e:g=f=>hk (h.symm.trans e))]
   ·have hb:(g == k)=false:=beq_eq_false_iff_ne.mpr h
    simp only[List.lookup,hb]
    exact ih
theorem QgK(f:Str)(v:V):∀ fs:List (Str×V),f∈(putF f v fs).map (·.1)/\∀ g,g∈fs.map (·.1)->g∈(putF f v fs).map (·.1)
 | []=>⟨by simp[putF],fun g h=>by simp at h⟩
 | (k,x)::r=>by
  obtain⟨i1,i2⟩:=QgK f v r
  rw[show putF f v ((k,x)::r)=(if k=f then(k,v)::r else(k,x)::putF f v r) from rfl]
  by_cases hk:k=f
  ·rw[if_pos hk]
   subst hk
   exact⟨by simp,fun g h=>by simpa using h⟩
  ·rw[if_neg hk]
   refine⟨?_,fun g h=>?_⟩
   ·rw[List.map_cons]
    exact List.mem_cons_of_mem _ i1
   ·rw[List.map_cons]at h ⊢
    rcases List.mem_cons.mp h with e | e
    ·exact List.mem_cons.mpr (.inl e)
    ·exact List.mem_cons_of_mem _ (i2 g e)
theorem Qhh(f:Str)(v:V):∀ fs:List (Str×V),(putF f v fs).length<=fs.length+1
 | []=>by simp[putF]
 | (k,x)::r=>by
  have ih:=Qhh f v r
  rw[show putF f v ((k,x)::r)=(if k=f then(k,v)::r else(k,x)::putF f v r) from rfl]
  by_cases hk:k=f
  ·rw[if_pos hk,List.length_cons,List.length_cons];omega
  ·rw[if_neg hk,List.length_cons,List.length_cons];omega
theorem RelO.some_of{v:V}{o:Option Value}(r:RelO (some v) o):∃ u,o=some u/\RelV v u:=by
 cases o with
 | none=>exact(show False from r).elim
 | some u=>exact⟨u,rfl,r⟩
theorem RelO.none_of{o:Option Value}(r:RelO none o):o=none:=by
 cases o with
 | none=>rfl
 | some u=>exact(show False from r).elim
theorem Qq9{v:V}{u:Value}(r:RelV v u):PySem.W.handedIn u=true:=by
 cases v with
 | non=>cases (show u=Value.none from r);rfl
 | bl b=>cases (show u=Value.bool b from r);rfl
 | int i=>obtain⟨t,e⟩:=(show ∃ t,u=Value.int i t from r);cases e;rfl
 | str x=>obtain⟨t,e⟩:=(show ∃ t,u=Value.str x t from r);cases e;rfl
 | byt b=>obtain⟨t,e⟩:=(show ∃ t,u=Value.bytes b t from r);cases e;rfl
 | flt b=>obtain⟨t,e⟩:=(show ∃ t,u=Value.float b t from r);cases e;rfl
 | ref a=>cases (show u=Value.ref a from r);rfl
 | ty n=>cases (show u=Value.type n from r);rfl
section
variable{P:Program}{w:World}{H H':Hp}{h h':Heap}{a C dx:Addr}{fs fs':List (Str×V)}
theorem Qg1(hok:HOk P w H h)(e:H a=some (.ins C dx fs)):∃ mA,ObjM h a dx C mA/\(∀ f,RelO (fs.lookup f) (mA f))/\PySem.Within mA (fs.map (·.1))/\fs.length<=1000/\H dx=some (.own a):=by
 obtain⟨d,z,ne,ob,mA,n,r,q⟩:=(show ObjOk P w H h a (.ins C dx fs) from hok a _ e)
 exact⟨mA,⟨ob,n,ne⟩,r,q,z,d⟩
end
structure Cls(K:PySem.W.Frag)(C:Addr):Prop where
 pg:PySem.W.plainGet K C Str.empty=true
 hd:PySem.W.hasDictIn K C=true
 po:PySem.W.plainOver K C=true
 sa:PySem.W.findIn K (.ref C) "__setattr__"=some (some (.builtin "object.__setattr__"))
theorem Cls.get{K:PySem.W.Frag}{C:Addr}(c:Cls K C)(f:Str):PySem.W.plainGet K C f=true:=c.pg
def Qek(K:PySem.W.Frag)(C:Addr)(f:Str):Prop:=PySem.W.findIn K (.ref C) f=some none
theorem Qek.taker{K:PySem.W.Frag}{C:Addr}{f:Str}(n:Qek K C f):PySem.W.takerIn K C f=some none:=by
 unfold PySem.W.takerIn
 rw[show PySem.W.findIn K (.ref C) f=some none from n]
 rfl
structure Meth(K:PySem.W.Frag)(C:Addr)(m:Str)(f:Addr):Prop where
 at_:PySem.W.findIn K (.ref C) m=some (some (.ref f))
 fn:PySem.W.isFn K (.ref f)=true
 kp:PySem.W.keepIn K (.ref f)=true
section
variable{X:Cx}{pins:List (Addr×Obj)}{σ:St}{H:Hp}{s:Shared}{a C dx:Addr}{fs:List (Str×V)}{f:Str}{v:V}{A:Around}{E:Value->Shared->Prop}
theorem Qo5{b:Bool}{Q:Value->Shared->Prop}(I:Inv X pins σ H s)(e:H a=some (.ins C dx fs))(c:Cls X.K C)(n:Qek X.K C f)(l:fs.lookup f=some v)
 (h:∀ u s',Inv X pins σ H s'->RelV v u->Q u s'):wpAny (model X.prog X.w) A (getAttr (.ref a) f b) Q E s:=by
 obtain⟨mA,O,r,_,_,_⟩:=Qg1 I.hok e
 obtain⟨u,hu,ru⟩:=RelO.some_of (v:=v) (o:=mA f) (by rw[← l];exact r f)
 exact Qt9 I.kIn O (c.get f) c.hd n hu (Qq9 ru) (h u _ (I.tok _) ru)
theorem QhN{m:Str}{g:Addr}{pl:Sem Bool}{Q:Value×List Value->Shared->Prop}(I:Inv X pins σ H s)(e:H a=some (.ins C dx fs))(c:Cls X.K C)(k:Meth X.K C m g)(l:fs.lookup m=none)
 (h:Q (.ref g,[.ref a]) s):wpAny (model X.prog X.w) A (getMethod (.ref a) m pl) Q E s:=by
 obtain⟨mA,O,r,_,_,_⟩:=Qg1 I.hok e
 have hn:mA m=none:=RelO.none_of (by rw[← l];exact r m)
 exact QrK I.kIn O (c.get m) k.at_ k.fn hn h
theorem QpJ{y:V}{u:Value}{Q:Unit->Shared->Prop}(I:Inv X pins σ H s)(e:H a=some (.ins C dx fs))(c:Cls X.K C)(n:Qek X.K C f)(hl:fs.length<1000)(ry:RelV y u)
 (h:∀ s',Inv X pins σ (upd H a (.ins C dx (putF f y fs))) s'->Q () s'):wpAny (model X.prog X.w) A (setAttr (.ref a) f u) Q E s:=by
 obtain⟨mA,O,r,wi,_,ho⟩:=Qg1 I.hok e
 have hz:(fs.map (·.1)).length<=sizeLine:=by rw[List.length_map,sizeLine_eq];omega
 refine QtC I.kIn O c.sa c.po n.taker c.hd wi hz fun h' O' sb=>h _ ?_
 have hd:∃ o,h'.get? dx=some o:=let ⟨o,_,_,e',_⟩:=O'.ns;⟨o,e'⟩
 refine I.write (x:=a) (e:=dx) (by rw[e];exact True.intro) (.inr ho) (fun b q hb z=>(sb.2 b hb).trans z) hd ?_
 refine⟨by rw[Qh O.ne];exact ho,?_,O.ne,O'.obj,_,O'.ns,fun g=>?_,fun g hg=>?_⟩
 ·have:=Qhh f y fs;omega
 ·show RelO ((putF f y fs).lookup g) (if g=f then some u else mA g)
  rw[Qhi]
  by_cases q:g=f
  ·rw[if_pos q,if_pos q];exact ry
  ·rw[if_neg q,if_neg q];exact r g
 ·by_cases q:g=f
  ·rw[q];exact(QgK f y fs).1
  ·refine(QgK f y fs).2 g (wi g fun z=>hg ?_)
   show(if g=f then some u else mA g)=none
   rw[if_neg q];exact z
theorem Inv.made(I:Inv X pins σ H s):Inv X pins σ (upd (upd H s.heap.objs.size (.own (s.heap.objs.size+1))) (s.heap.objs.size+1) (.ins C s.heap.objs.size []))
 { s with heap:=(s.heap.push PySem.W.emptyDict).push (PySem.W.instObj C s.heap.objs.size) }:=by
 have e1:(s.heap.push PySem.W.emptyDict).get? s.heap.objs.size=some PySem.W.emptyDict:=Heap.get?_push_size s.heap rfl
 have e2:((s.heap.push PySem.W.emptyDict).push (PySem.W.instObj C s.heap.objs.size)).get? (s.heap.objs.size+1)=some (PySem.W.instObj C s.heap.objs.size):=by
  have:=Heap.get?_push_size (s.heap.push PySem.W.emptyDict) (o:=PySem.W.instObj C s.heap.objs.size) rfl
  rwa [Heap.size_push]at this
 have e3:(s.heap.push PySem.W.emptyDict).Ns s.heap.objs.size (fun _=>none):=⟨PySem.W.emptyDict, #[],_,e1,rfl,(fun e he=>absurd he (by simp)),fun _=>rfl⟩
 have I1:=I.laid (a:=s.heap.objs.size) (o:=.own (s.heap.objs.size+1)) (h':=s.heap.push PySem.W.emptyDict) (t':=s.toks) (fun b u q=>Heap.get?_push_of_some _ q) (Nat.le_refl _) ⟨_,e1⟩
 refine I1.laid (a:=s.heap.objs.size+1) (o:=.ins C s.heap.objs.size []) (t':=s.toks) (fun b u q=>Heap.get?_push_of_some _ q) (Nat.le_of_eq (Heap.size_push _ _)) ?_
 have ne:s.heap.objs.size≠s.heap.objs.size+1:=Nat.ne_of_lt (Nat.lt_succ_self _)
 refine⟨by rw[Qh ne,Qx],Nat.zero_le _,ne,e2,fun _=>none,(Heap.Ns1.of_empty e3).at fun o q=>Heap.get?_push_of_some _ q,fun _=>True.intro,fun y hy=>absurd rfl hy⟩
theorem Qt0{prog:Program}{w:World}{env:Env}{e:Expr}{f:Str}{pos:Pos}{s:Shared}{Q:Value->Shared->Prop}(hb:attributeBase e f env (eval e env)=eval e env)
 (h:wpAny (model prog w) A (eval e env) (fun o s₁=>wpAny (model prog w) A (getAttr o f true) Q E s₁) E s):wpAny (model prog w) A (eval (.Attribute e f pos) env) Q E s:=
 Attribute_any_ h (by rw[arm_eval_Attribute,hb])
end
def tFld(K:PySem.W.Frag)(ta:TE)(f:Str):TE:=fun σ H Q=>ta σ H fun x H1=>∃ a C dx fs v,x=.ref a/\H1 a=some (.ins C dx fs)/\Cls K C/\Qek K C f/\fs.lookup f=some v/\Q v H1
def sFld(K:PySem.W.Frag)(ta tv:TE)(f:Str):TS:=fun D σ H=>tv σ H fun y H1=>ta σ H1 fun x H2=>∃ a C dx fs,x=.ref a/\H2 a=some (.ins C dx fs)/\Cls K C/\Qek K C f/\fs.length<1000/\
 D.nx σ (upd H2 a (.ins C dx (putF f y fs)))
section
variable{X:Cx}{o e value:Expr}{f:Str}{pos pos' tpos:Pos}{ta tv:TE}
theorem QuE(he:PE X e ta)(hb:attributeBase e f X.env (eval e X.env)=eval e X.env):PE X (.Attribute e f pos) (tFld X.K ta f):=by
 intro pins s σ H Q I h
 refine Qt0 hb (thn (he pins s σ H _ I h) fun u s1 ⟨x,H1,I1,rx,a,C,dx,fs,v,ex,ea,c,n,l,q⟩=>?_)
 subst ex
 obtain rfl:u=Value.ref a:=rx
 exact Qo5 I1 ea c n l fun u' s2 I2 ru=>⟨v,H1,I2,ru,q⟩
theorem QuN(ha:PE X o ta)(hv:PE X value tv)(hs:swapsWith value (some (.Attribute o f pos')) pos.line X.env=pure false):PS X (.Assign [.Attribute o f pos'] value pos) (sFld X.K ta tv f):=by
 intro pins s σ H D I h
 refine plainObj_wpAny_Assign_Attribute (thn (hv pins s σ H _ I h) fun u s1 ⟨y,H1,I1,ry,q⟩=>thn (ha pins s1 σ H1 _ I1 q) fun ov s2 ⟨x,H2,I2,rx,a,C,dx,fs,ex,ea,c,n,l,q2⟩=>?_) hs
 subst ex
 obtain rfl:ov=Value.ref a:=rx
 exact QpJ I2 ea c n l ry fun s3 I3=>⟨σ,_,I3,q2⟩
end
section
variable{X:Cx}{pins:List (Addr×Obj)}{σ:St}{H:Hp}{s:Shared}{A:Around}{E:Value->Shared->Prop}{Q:Value->Shared->Prop}{c:Value}{b:Bool}
end
end L2
namespace L2
open PySem PySem.Spec PyProof.Rows
structure Room(k:Nat)(A:Around):Prop where
 hd:A.handled=none
 dp:A.depth+3 * k+5<recursionLimit
 un:A.units+16 * k+200<cLine
theorem Room.mono{j k:Nat}{A:Around}(r:Room k A)(h:j<=k):Room j A:=⟨r.hd,by have:=r.dp;omega,by have:=r.un;omega⟩
theorem Room.deeper{k:Nat}{A:Around}(r:Room (k+1) A)(env:Env):Room k (A.deeper env):=
 ⟨r.hd,by have:=r.dp;show A.depth+1+3 * k+5<_;omega,by have:=r.un;show A.units+3+16 * k+200<_;omega⟩
theorem Qpe{A:Around}{C:Addr}{us:List Value}{kw:List (Str×Value)}:(A.under (.builtin "type.__call__" ⟨.ref C::us,kw⟩)).depth=A.depth+1:=by
 first | rfl | simp[Around.under,Code.weight,Code.isCreation,Code.isGuard,Code.isCaller,Code.frames,Code.isFrame,guardIds]
theorem Qps{A:Around}{C:Addr}{us:List Value}{kw:List (Str×Value)}:(A.under (.builtin "type.__call__" ⟨.ref C::us,kw⟩)).units=A.units+1:=by
 first | rfl | simp[Around.under,Code.cUnits,Code.frames,Code.isFrame]
theorem Room.make{k:Nat}{A:Around}(r:Room (k+1) A)(C:Addr)(us:List Value)(kw:List (Str×Value)):Room k (A.under (.builtin "type.__call__" ⟨.ref C::us,kw⟩)):=
 ⟨r.hd,by have:=r.dp;rw[Qpe];omega,by have:=r.un;rw[Qps];omega⟩
theorem Room.depth{k:Nat}{A:Around}(r:Room k A):A.depth<recursionLimit:=by have:=r.dp;omega
theorem Room.units{k:Nat}{A:Around}(r:Room k A):A.units+64<cLine:=by have:=r.un;omega
def tNil:TA:=fun _ H Q=>Q [] H
def tCons(ta:TE)(tr:TA):TA:=fun σ H Q=>ta σ H fun x H1=>tr σ H1 fun xs H2=>Q (x::xs) H2
section
variable{X:Cx}{e:Expr}{es:List Expr}{te:TE}{t:TA}{pos:Pos}
theorem Qb1:PA X [] tNil:=fun _ _ _ _ H Q I h=>Calls.spliced_nil ⟨[],H,I,.nil,h⟩
theorem Qbe(ha:PE X e te)(hr:PA X es t)(hs:starEach (e::es) X.env=(false,eval e X.env)::starEach es X.env:=by rfl):PA X (e::es) (tCons te t):=by
 intro pos pins s σ H Q I h
 rw[hs]
 show wpAny _ _ (spliced ((false,eval e X.env)::backTo pos (starEach es X.env))) _ _ s
 refine Calls.spliced_cons (thn (ha pins s σ H _ I h) fun u s1 ⟨x,H1,I1,r1,q1⟩=>?_)
 exact thn (hr pos pins s1 σ H1 _ I1 q1) fun us s2 ⟨xs,H2,I2,r2,q2⟩=>⟨x::xs,H2,I2,.cons r1 r2,q2⟩
def tTup(t:TA):TE:=fun σ H Q=>t σ H fun xs H1=>xs.length<=sizeLine/\∀ p,H1 p=none->Q (.ref p) (upd H1 p (.tup xs))
def tLst(t:TA):TE:=fun σ H Q=>t σ H fun xs H1=>xs.length<=sizeLine/\∀ p,H1 p=none->Q (.ref p) (upd H1 p (.lst xs))
theorem Qun{x1}(h:PA X es t):PE X (.Tuple es x1 pos) (tTup t):=by
 intro pins s σ H Q I hq
 refine wpAny_Tuple_spliced (thn (h pos pins s σ H _ I hq) fun us s1 ⟨xs,H1,I1,r,z,q⟩=>⟨by rw[← r.length];exact z,?_⟩)
 have hf:H1 s1.heap.objs.size=none:=I1.hok.fresh (Nat.le_refl _)
 refine⟨.ref s1.heap.objs.size,upd H1 s1.heap.objs.size (.tup xs),I1.laid (t':=s1.toks) (fun b u e=>Heap.get?_push_of_some _ e) (Nat.le_refl _) ?_,rfl,q _ hf⟩
 exact⟨z,us,r,⟨_,Heap.get?_push_size _ rfl,rfl,_,rfl⟩⟩
theorem Qra(h:PA X es t):PE X (.List es pos) (tLst t):=by
 intro pins s σ H Q I hq
 refine wpAny_List_spliced (thn (h pos pins s σ H _ I hq) fun us s1 ⟨xs,H1,I1,r,z,q⟩=>⟨by rw[← r.length];exact z,?_⟩)
 have hf:H1 s1.heap.objs.size=none:=I1.hok.fresh (Nat.le_refl _)
 refine⟨.ref s1.heap.objs.size,upd H1 s1.heap.objs.size (.lst xs),I1.laid (t':=s1.toks) (fun b u e=>Heap.get?_push_of_some _ e) (Nat.le_refl _) ?_,rfl,q _ hf⟩
 exact⟨z,us,0,r,Heap.get?_push_size _ rfl⟩
end
abbrev Sp:=List V->Hp->VK->XK->Prop
abbrev CXT:=List Env->Hp->Shared->XK->Value->Shared->Prop
structure Env0(P:Program)(w:World)(K:PySem.W.Frag)(mg:Str->Option Value)(base:Heap)(A:Around)(outer:List Env)(s:Shared)(H:Hp):Prop where
 frames:A.frames=some outer
 mod:Mod K mg base
 bs:∀ b o,base.get? b=some o->s.heap.get? b=some o/\H b=none
 bsz:base.objs.size<=s.heap.objs.size
 funs:s.heap.FunFrames base outer
 frf:∀ b∈frs outer,H b=none
 hok:HOk P w H s.heap
 bare:AllBare s.gens
def CE(outer:List Env)(P:Program)(w:World)(H:Hp)(s:Shared)(Q:VK)(u:Value)(s':Shared):Prop:=
 ∃ v H',s'.os=s.os/\AllBare s'.gens/\Un (frs outer) [] H H' s.heap s'.heap/\HOk P w H' s'.heap/\RelV v u/\Q v H'
def CR(CX:CXT)(outer:List Env)(P:Program)(w:World)(H:Hp)(s:Shared)(Q:VK)(E:XK)(r:Result)(s':Shared):Prop:=
 match r with
 | .ok (.ret u)=>CE outer P w H s Q u s'
 | .ok _=>False
 | .error e=>CX outer H s E e s'
structure FnOk(P:Program)(w:World)(K:PySem.W.Frag)(mg:Str->Option Value)(base:Heap)(CX:CXT)(k:Nat)(f:Addr)(fd:FuncData)(ps:List Str)(sp:Sp):Prop where
 len:∀ vs H Q E,sp vs H Q E->vs.length=ps.length
 run:∀(A:Around)(outer:List Env)(s:Shared)(H:Hp)(args:Args)(us:List Value)(vs:List V)(Q:VK)(E:XK),Room k A->Env0 P w K mg base A outer s H->BindsTo s fd args (ps.zip us)->Vals vs us->sp vs H Q E->
  codeAny (model P w) A (.call (.ref f) args) (CR CX outer P w H s Q E) s
theorem FnOk.mono{P:Program}{w:World}{K:PySem.W.Frag}{mg:Str->Option Value}{base:Heap}{CX:CXT}{j k:Nat}{f:Addr}{fd:FuncData}{ps:List Str}{sp:Sp}(F:FnOk P w K mg base CX j f fd ps sp)(h:j<=k):
 FnOk P w K mg base CX k f fd ps sp:=⟨F.len,fun A outer s H args us vs Q E hr=>F.run A outer s H args us vs Q E (hr.mono h)⟩
theorem FnOk.imp{P:Program}{w:World}{K:PySem.W.Frag}{mg:Str->Option Value}{base:Heap}{CX:CXT}{k:Nat}{f:Addr}{fd:FuncData}{ps:List Str}{sp sp':Sp}(F:FnOk P w K mg base CX k f fd ps sp)
 (h:∀ vs H Q E,sp' vs H Q E->sp vs H Q E):FnOk P w K mg base CX k f fd ps sp':=
 ⟨fun vs H Q E q=>F.len vs H Q E (h _ _ _ _ q),fun A outer s H args us vs Q E hr he hb hv hs=>F.run A outer s H args us vs Q E hr he hb hv (h _ _ _ _ hs)⟩
theorem Env0.make{P:Program}{w:World}{K:PySem.W.Frag}{mg:Str->Option Value}{base:Heap}{A:Around}{outer:List Env}{s:Shared}{H:Hp}(e:Env0 P w K mg base A outer s H)(C:Addr)(us:List Value)(kw:List (Str×Value)):
 Env0 P w K mg base (A.under (.builtin "type.__call__" ⟨.ref C::us,kw⟩)) outer s H:=⟨by first | exact e.frames | (simpa [Around.under,Code.envs,Code.isFrame,pushEnvs] using e.frames),e.mod,e.bs,e.bsz,e.funs,e.frf,e.hok,e.bare⟩
section
variable{X:Cx}{pins:List (Addr×Obj)}{σ:St}{H:Hp}{s s':Shared}
theorem Inv.env0(I:Inv X pins σ H s):Env0 X.prog X.w X.K X.mg X.base X.A X.stack s H:=
 ⟨I.ok.frames,I.ok.mod,I.bs,Nat.le_trans I.ok.bsz I.sz,I.stack,I.stkFree,I.hok,I.bare⟩
theorem Inv.after{Q:VK}{u:Value}(I:Inv X pins σ H s)(h:CE X.stack X.prog X.w H s Q u s'):EP X pins σ Q u s':=by
 obtain⟨v,H',os,bare,un,hok,r,q⟩:=h
 obtain⟨hh,g,d,t,os'⟩:=s'
 obtain rfl:os'=s.os:=os
 exact⟨v,H',I.call (h':=hh) (g':=g) (d':=d) (t':=t) (ch:=[]) un hok bare (fun b z=>absurd z (by simp)),r,q⟩
end
def tCall(sp:Sp)(dvs:List V)(E:XK)(t:TA):TE:=fun σ H Q=>t σ H fun vs H1=>sp (vs++dvs) H1 Q E
def tMake(C:Addr)(sp:Sp)(dvs:List V)(E:XK)(t:TA):TE:=fun σ H Q=>t σ H fun vs H1=>∀ x dx,H1 x=none->H1 dx=none->dx≠x->
 sp (.ref x::(vs++dvs)) (upd (upd H1 dx (.own x)) x (.ins C dx [])) (fun v H2=>v=.non/\Q (.ref x) H2) E
def Binds(K:PySem.W.Frag)(fd:FuncData)(ps:List Str)(ds:List Value):Prop:=
 ∀(s:Shared)(us:List Value),K.In s.heap->(us++ds).length=ps.length->BindsTo s fd ⟨us,[]⟩ (ps.zip (us++ds))
theorem Binds.all{K:PySem.W.Frag}{fd:FuncData}{ps:List Str}(h:∀ us:List Value,us.length=ps.length->bindArgs fd ⟨us,[]⟩=pure (ps.zip us)):Binds K fd ps []:=fun s us _ hl=>by
 rw[List.append_nil]at hl ⊢
 exact .of_eq (h us hl)
def QcH(CX:CXT)(X:Cx)(E:XK):Prop:=∀(pins:List (Addr×Obj))(σ:St)(H:Hp)(s:Shared)(e:Value)(s':Shared),Inv X pins σ H s->CX X.stack H s E e s'->X.xe e s'
section
variable{X:Cx}{CX:CXT}{k:Nat}{f C:Addr}{fd:FuncData}{ps:List Str}{sp:Sp}{dvs:List V}{ds:List Value}{E:XK}{x m:Str}{p pos apos:Pos}{e o:Expr}{es:List Expr}{ta:TE}{t:TA}
theorem Qml{pins:List (Addr×Obj)}{σ:St}{H:Hp}{s:Shared}{Q:VK}{us:List Value}{vs:List V}(F:FnOk X.prog X.w X.K X.mg X.base CX k f fd ps sp)(hr:Room k X.A)(hb:Binds X.K fd ps ds)(hd:Vals dvs ds)(hx:QcH CX X E)
 (I:Inv X pins σ H s) (r:Vals vs us) (h:sp (vs++dvs) H Q E):wpAny (model X.prog X.w) X.A (call (.ref f) us) (EP X pins σ Q) X.xe s:=by
 have r2:Vals (vs++dvs) (us++ds):=r.append hd
 have hl:(us++ds).length=ps.length:=by rw[← r2.length];exact F.len _ _ _ _ h
 refine wpAny_call (codeAny_mono (F.run X.A X.stack s H ⟨us,[]⟩ (us++ds) (vs++dvs) Q E hr I.env0 (hb s us I.kIn hl) r2 h) fun r s' hq=>?_)
 cases r with
 | error e=>exact hx pins σ H s e s' I hq
 | ok fl=>
  cases fl with
  | ret u=>exact I.after hq
  | next=>exact False.elim hq
  | brk=>exact False.elim hq
  | cont=>exact False.elim hq
theorem QtT(F:FnOk X.prog X.w X.K X.mg X.base CX k f fd ps sp)(hr:Room k X.A)(hg:Gl X x)(hm:X.mg x=some (.ref f))(hk:PySem.W.keepIn X.K (.ref f)=true)(hb:Binds X.K fd ps ds)(hd:Vals dvs ds)(hx:QcH CX X E)
 (ha:PA X (e::es) t) (hdb:(x == ("__debug__":Str))=false:=by decide) (he:starEach (e::es) X.env=(false,eval e X.env)::starEach es X.env:=by rfl) (hpl:(backTo pos (starEach es X.env)).any (·.1)=false:=by rfl):
 PE X (.Call (.Name x p) (e::es) [] pos) (tCall sp dvs E t):=by
 intro pins s σ H Q I h
 refine wpAny_Call_Name_kw (QiO I hg hm ?_ hdb)
 refine PySem.W.callWith_K (h₀:=X.base) I.ok.mod.kin hk (thn (ha pos pins s σ H _ I h) fun us s1 ⟨vs,H1,I1,r,q⟩=>⟨I1.kIn,?_⟩) he hpl
 exact Qml F hr hb hd hx I1 r q
structure Mk(K:PySem.W.Frag)(C f:Addr):Prop where
 makes:PySem.W.makesIn K C=true
 init:PySem.W.findIn K (.ref C) "__init__"=some (some (.ref f))
 fn:PySem.W.isFn K (.ref f)=true
 kp:PySem.W.keepIn K (.ref C)=true
theorem Qr9{pins:List (Addr×Obj)}{σ:St}{H:Hp}{s:Shared}{Q:VK}{us:List Value}{vs:List V}(M:Mk X.K C f)(F:FnOk X.prog X.w X.K X.mg X.base CX k f fd ps sp)(hr:Room (k+1) X.A)(hb:Binds X.K fd ps ds)(hd:Vals dvs ds)
 (hx:QcH CX X E) (I:Inv X pins σ H s) (r:Vals vs us)
 (h:∀ x dx,H x=none->H dx=none->dx≠x->sp (.ref x::(vs++dvs)) (upd (upd H dx (.own x)) x (.ins C dx [])) (fun v H2=>v=.non/\Q (.ref x) H2) E):
 wpAny (model X.prog X.w) X.A (call (.ref C) us) (EP X pins σ Q) X.xe s:=by
 have hq:=h (s.heap.objs.size+1) s.heap.objs.size (I.hok.fresh (Nat.le_succ _)) (I.hok.fresh (Nat.le_refl _)) (Nat.ne_of_lt (Nat.lt_succ_self _))
 have I2:=Inv.made (C:=C) I
 have r2:Vals (V.ref (s.heap.objs.size+1)::(vs++dvs)) (Value.ref (s.heap.objs.size+1)::(us++ds)):=.cons rfl (r.append hd)
 have hl:(Value.ref (s.heap.objs.size+1)::us++ds).length=ps.length:=by
  have e:=r2.length
  rw[F.len _ _ _ _ hq]at e
  exact e.symm
 refine wpAny_call (Qsa (f:=f) I.kIn M.makes M.init (beq_iff_eq.mp M.fn) (codeAny_mono (F.run _ X.stack _ _ ⟨Value.ref (s.heap.objs.size+1)::us,[]⟩ (Value.ref (s.heap.objs.size+1)::(us++ds)) _ _ E (hr.make C us [])
  (I2.env0.make C us []) (hb _ (Value.ref (s.heap.objs.size+1)::us) I2.kIn hl) r2 hq) fun r s' hq'=>?_))
 cases r with
 | error e=>exact hx pins σ _ _ e s' I2 hq'
 | ok fl=>
  cases fl with
  | ret u=>
   obtain⟨v,H',I3,rv,ev,q3⟩:=I2.after hq'
   subst ev
   exact⟨rv,⟨V.ref (s.heap.objs.size+1),H',I3,rfl,q3⟩⟩
  | next=>exact False.elim hq'
  | brk=>exact False.elim hq'
  | cont=>exact False.elim hq'
theorem Qtt(M:Mk X.K C f)(F:FnOk X.prog X.w X.K X.mg X.base CX k f fd ps sp)(hr:Room (k+1) X.A)(hg:Gl X x)(hm:X.mg x=some (.ref C))(hb:Binds X.K fd ps ds)(hd:Vals dvs ds)(hx:QcH CX X E)
 (ha:PA X (e::es) t) (hdb:(x == ("__debug__":Str))=false:=by decide) (he:starEach (e::es) X.env=(false,eval e X.env)::starEach es X.env:=by rfl) (hpl:(backTo pos (starEach es X.env)).any (·.1)=false:=by rfl):
 PE X (.Call (.Name x p) (e::es) [] pos) (tMake C sp dvs E t):=by
 intro pins s σ H Q I h
 refine wpAny_Call_Name_kw (QiO I hg hm ?_ hdb)
 refine PySem.W.callWith_K (h₀:=X.base) I.ok.mod.kin M.kp (thn (ha pos pins s σ H _ I h) fun us s1 ⟨vs,H1,I1,r,q⟩=>⟨I1.kIn,?_⟩) he hpl
 exact Qr9 M F hr hb hd hx I1 r q
end
section
variable{X:Cx}{CX:CXT}{k:Nat}{f C:Addr}{fd:FuncData}{ps ks:List Str}{sp:Sp}{E:XK}{x m:Str}{p pos apos kpos:Pos}{e o:Expr}{es:List Expr}{kws:List Keyword}{te ta:TE}{t tk:TA}{nm:Option Str}
variable{g:List Value->List Value->List Value}{gV:List V->List V->List V}
end
structure Qm(N P:List Str)(sc:Scope):Prop where
 kind:sc.kind=.function
 co:sc.isCoroutine=false
 gen:sc.isGenerator=false
 nd:N.Nodup
 pre:N.take P.length=P
 par:∀ x∈P,sc.names.lookup x=some .local∨sc.names.lookup x=some .cell
 nofree:∀ y∈sc.names,y.2≠.free
theorem QjK{kindOf:Str->Option NameKind}{x:Str}:∀{binds:List (Str×Value)}{m:Str->Option Value},(∀ v,(x,v)∉binds)->bindL kindOf binds m x=m x
 | [],_,_=>rfl
 | (n,v)::r,m,h=>by
  unfold bindL
  rw[QjK fun w hw=>h w (List.mem_cons_of_mem _ hw)]
  split
  ·have:x≠n:=by rintro rfl;exact h v List.mem_cons_self
   simp[this]
  ·rfl
theorem QjQ{kindOf:Str->Option NameKind}{x:Str}:∀{binds:List (Str×Value)}{m:Str->Option Value},(∀ v,(x,v)∉binds)->bindC kindOf binds m x=m x
 | [],_,_=>rfl
 | (n,v)::r,m,h=>by
  unfold bindC
  rw[QjQ fun w hw=>h w (List.mem_cons_of_mem _ hw)]
  split
  ·rfl
  ·have:x≠n:=by rintro rfl;exact h v List.mem_cons_self
   simp[this]
theorem Qjw{kindOf:Str->Option NameKind}{x:Str}{v:Value}:∀{P:List Str}{vs:List Value}{i:Nat}{m:Str->Option Value},P.Nodup->P[i]?=some x->vs[i]?=some v->kindOf x=some .local->
 bindL kindOf (P.zip vs) m x=some v
 | [],_,_,_,_,h,_,_=>by simp at h
 | _::_,[],_,_,_,_,h,_=>by simp at h
 | p::P,w::vs,0,m,nd,h1,h2,hk=>by
  simp at h1 h2;subst h1;subst h2
  show bindL kindOf ((p,w)::P.zip vs) m p=_
  unfold bindL
  rw[QjK fun v hv=>(List.nodup_cons.mp nd).1 (List.of_mem_zip hv).1,if_pos hk]
  simp
 | p::P,w::vs,i+1,m,nd,h1,h2,hk=>by
  show bindL kindOf ((p,w)::P.zip vs) m x=_
  unfold bindL
  exact Qjw (i:=i) (List.nodup_cons.mp nd).2 (by simpa using h1) (by simpa using h2) hk
theorem QjM{kindOf:Str->Option NameKind}{x:Str}{v:Value}:∀{P:List Str}{vs:List Value}{i:Nat}{m:Str->Option Value},P.Nodup->P[i]?=some x->vs[i]?=some v->kindOf x≠some .local->
 bindC kindOf (P.zip vs) m x=some v
 | [],_,_,_,_,h,_,_=>by simp at h
 | _::_,[],_,_,_,_,h,_=>by simp at h
 | p::P,w::vs,0,m,nd,h1,h2,hk=>by
  simp at h1 h2;subst h1;subst h2
  show bindC kindOf ((p,w)::P.zip vs) m p=_
  unfold bindC
  rw[QjQ fun v hv=>(List.nodup_cons.mp nd).1 (List.of_mem_zip hv).1,if_neg hk]
  simp
 | p::P,w::vs,i+1,m,nd,h1,h2,hk=>by
  show bindC kindOf ((p,w)::P.zip vs) m x=_
  unfold bindC
  exact QjM (i:=i) (List.nodup_cons.mp nd).2 (by simpa using h1) (by simpa using h2) hk
def start(N:List Str)(vs:List V):St:=vs.map some++List.replicate (N.length - vs.length) none
def cxOf(CX:CXT)(P:Program)(w:World)(K:PySem.W.Frag)(mg:Str->Option Value)(base:Heap)(N:List Str)(qual:Str)(scope:Scope)(f:Addr)(cd:Value)(A:Around)(outer:List Env)(s:Shared)(H:Hp)(E:XK):Cx where
 prog:=P
 w:=w
 K:=K
 mg:=mg
 base:=base
 A:=A.deeper (envOfC qual scope s.heap.objs.size f cd)
 N:=N
 s₀:=s
 H₀:=H
 env:=envOfC qual scope s.heap.objs.size f cd
 outer:=outer
 stack:=envOfC qual scope s.heap.objs.size f cd::outer
 ex:=[]
 calm:=true
 fn:=fun _=>true
 pn:=[]
 xe:=fun e s'=>wpAny (model P w) (A.deeper (envOfC qual scope s.heap.objs.size f cd)) (leaving (envOfC qual scope s.heap.objs.size f cd) e) (fun _ s''=>CX outer H s E e s'') (fun e' s''=>CX outer H s E e' s'') s'
theorem Qlv{sc:Scope}{n:Nat}{x:Str}(h:sc.names.lookup x=some .cell):∃ c,(cellsFrom n sc.names []).lookup x=some c:=by
 have q:=PySem.W.cellsFrom_some sc.names n [] (.inl h)
 exact Option.isSome_iff_exists.mp q
theorem Qqd{CX:CXT}{P:Program}{w:World}{K:PySem.W.Frag}{mg:Str->Option Value}{base:Heap}{N ps:List Str}{qual:Str}{scope:Scope}{f:Addr}{cd:Value}{A:Around}{outer:List Env}{s s1:Shared}{H:Hp}{E:XK}{us:List Value}{vs:List V}
 (S:Qm N ps scope) (hd:A.handled=none) (e0:Env0 P w K mg base A outer s H) (hl:vs.length=ps.length) (r:Vals vs us)
 (x:InCallC s s.heap.objs.size (bindL (envOfC qual scope s.heap.objs.size f cd).kindOf (ps.zip us) fun _=>none) (cellsFrom (s.heap.objs.size+1) scope.names []) (bindC (envOfC qual scope s.heap.objs.size f cd).kindOf (ps.zip us) fun _=>none) s1):
 Inv (cxOf CX P w K mg base N qual scope f cd A outer s H E) [] (start N vs) H s1:=by
 have hpl:ps.length<=N.length:=by have:=congrArg List.length S.pre;rw[List.length_take]at this;omega
 obtain⟨h1,tk,rfl,hk⟩:=x.done
 have noA:∀ b:Addr,b∉(cxOf CX P w K mg base N qual scope f cd A outer s H E).ex:=fun b z=>absurd (show b∈([]:List Addr) from z) (by simp)
 refine⟨⟨e0.mod,S.kind,rfl,rfl,Nat.le_refl _,fun y z c h1 h2=>?_,fun y hy=>?_,fun y c _ h=>?_,fun _=>hd,Around.frames_deeper e0.frames,.inr ⟨rfl,rfl⟩,fun b z=>absurd z (noA b),e0.bs,e0.bsz,fun b _ _=>noA b,fun b z=>absurd z (noA b),e0.funs,e0.frf⟩,
  rfl,e0.bare,Un.kept hk,⟨_,x.toInCall.ns,fun i y v h1 h2 h3=>?_⟩,fun y c h=>⟨_,x.cell y c h⟩,e0.hok.fresh (Nat.le_refl _),fun y c h=>?_,fun p hp=>absurd (show p∈([]:List (Addr×Obj)) from hp) (by simp),e0.hok.kept hk,?_⟩
 ·exact name_of_addr x.apart (PySem.mem_of_lookup h1) (PySem.mem_of_lookup h2)
 ·have hy:scope.names.lookup y=some .cell∨scope.names.lookup y=some .free:=hy
  rcases hy with hy | hy
  ·exact Qlv hy
  ·exact absurd rfl (S.nofree _ (PySem.mem_of_lookup hy))
 ·exact Nat.le_of_lt (x.above y c (PySem.mem_of_lookup h))
 ·have hi:i<vs.length:=by
   unfold start at h2
   by_cases hi:i<vs.length
   ·exact hi
   ·rw[List.getElem?_append_right (by simpa using hi)]at h2
    rw[List.getElem?_replicate]at h2
    split at h2<;>cases h2
  have ha:vs[i]?=some v:=by
   unfold start at h2
   rw[List.getElem?_append_left (by simpa using hi),List.getElem?_map]at h2
   cases e:vs[i]? with
   | none=>rw[e]at h2;cases h2
   | some a=>rw[e]at h2;cases h2;rfl
  obtain⟨u,hu,rv⟩:=r.get ha
  have hp:ps[i]?=some y:=by
   rw[← S.pre,List.getElem?_take_of_lt (by omega)];exact h1
  have ndP:ps.Nodup:=by rw[← S.pre];exact S.nd.sublist (List.take_sublist _ _)
  refine⟨u,rv,?_⟩
  rcases S.par y (List.mem_of_getElem? hp) with k | k
  ·exact .inl ⟨k,Qjw ndP hp hu k⟩
  ·obtain⟨c,e⟩:=Qlv (n:=s.heap.objs.size+1) k
   refine .inr ⟨.inl k,c,e,?_⟩
   have q:=x.cell y c e
   rw[QjM ndP hp hu (by show scope.names.lookup y≠_;rw[k];decide)]at q
   exact q
 ·exact e0.hok.fresh (Nat.le_of_lt (x.above y c (PySem.mem_of_lookup h)))
 ·unfold start
  show _=N.length
  rw[List.length_append,List.length_map,List.length_replicate]
  omega
theorem fn_of{CX:CXT}{P:Program}{w:World}{K:PySem.W.Frag}{mg:Str->Option Value}{base:Heap}{k:Nat}{f:Addr}{name qual:Str}{params:Arguments}{body:List Stmt}{scope:Scope}{dV kV doc pm cdv ct oc:Value}{an od:Option Addr}
 {osl:Array (Option Value)} {N ps:List Str} {sp:Sp} (lk:K.lookup f=some ⟨oc,od,.func (PySem.W.fnOf name qual params body scope dV kV doc pm an cdv ct),osl⟩) (hcd:PySem.W.codeIn K cdv qual=true) (S:Qm N ps scope)
 (len:∀ vs H Q E,sp vs H Q E->vs.length=ps.length)
 (hbody:∀(A:Around)(outer:List Env)(s:Shared)(H:Hp)(vs:List V)(Q:VK)(E:XK),Room k (A.deeper (envOfC qual scope s.heap.objs.size f cdv))->sp vs H Q E->
  ∃ t,PSs (cxOf CX P w K mg base N qual scope f cdv A outer s H E) body t/\t { nx:=fun _ H'=>Q .non H',rt:=Q } (start N vs) H):
 FnOk P w K mg base CX (k+1) f (PySem.W.fnOf name qual params body scope dV kV doc pm an cdv ct) ps sp:=by
 refine⟨len,fun A outer s H args us vs Q E hr e0 hb r hsp=>?_⟩
 have hl:=len _ _ _ _ hsp
 have KX:K.In s.heap:=e0.mod.kin.keeps fun b o e=>(e0.bs b o e).1
 have lim:s.heap.NoLimit:=e0.mod.nolimit.keeps fun b o e=>(e0.bs b o e).1
 have hkind:∀ y∈ps.zip us,scope.names.lookup y.1=some .local∨(scope.names.lookup y.1=some .cell/\((cellsFrom (s.heap.objs.size+1) scope.names []).lookup y.1).isSome=true):=fun⟨n,v⟩ hy=>by
  rcases S.par n (List.of_mem_zip hy).1 with q | q
  ·exact .inl q
  ·exact .inr ⟨q,PySem.W.cellsFrom_some _ _ _ (.inl q)⟩
 refine codeAny_call_function hr.depth (KX _ _ lk) rfl S.co S.gen rfl (PySem.W.codeRec_of KX hcd) (hb _ _ _ _ ?_)
 refine wpAny_newFunctionEnv_cells S.kind hkind fun env he s1 x=>?_
 subst he
 refine⟨lim.keeps x.toInCall.keep,codeAny_func ?_⟩
 obtain⟨t,ht,hq⟩:=hbody A outer s H vs Q E (hr.deeper _) hsp
 have I:Inv (cxOf CX P w K mg base N qual scope f cdv A outer s H E) [] (start N vs) H s1:=Qqd S hr.hd e0 hl r x
 refine wpAny_mono (ht [] s1 (start N vs) H _ I hq) (fun fl s' hs=>?_) fun e s' hs=>hs
 have fin:∀{σ':St}{H':Hp}{v:V}{u:Value},Inv (cxOf CX P w K mg base N qual scope f cdv A outer s H E) [] σ' H' s'->RelV v u->Q v H'->CE outer P w H s Q u s':=
  fun {σ' H' v u} J rv q=>⟨v,H',J.os,J.bare,J.base,J.hok,rv,q⟩
 cases fl with
 | ret u=>
  obtain⟨v,σ',H',J,rv,q⟩:=hs
  exact fin J rv q
 | next=>
  obtain⟨σ',H',J,q⟩:=hs
  exact fin (v:=V.non) (u:=Value.none) J rfl q
 | brk=>
  obtain⟨_,_,_,q⟩:=hs
  exact False.elim q
 | cont=>
  obtain⟨_,_,_,q⟩:=hs
  exact False.elim q
end L2
namespace L2
open PySem PySem.Spec PyProof.Rows
section
variable{X:Cx}{x:Str}{p pos:Pos}{e:Expr}{es:List Expr}{t:TA}{id T:String}{r:List V->Hp->VK->Prop}
def tCB(r:List V->Hp->VK->Prop)(t:TA):TE:=fun σ H Q=>t σ H fun vs H1=>r vs H1 Q
theorem Qmn(hc:CallR X (.builtin id) r)(hg:Gl X x)(hm:X.mg x=none)(hv:bootBuiltins x=some (.builtin id))(ha:PA X (e::es) t)(hn:x≠"__name__":=by decide)(hdb:(x == ("__debug__":Str))=false:=by decide)
 (he:starEach (e::es) X.env=(false,eval e X.env)::starEach es X.env:=by rfl) (hpl:(backTo pos (starEach es X.env)).any (·.1)=false:=by rfl):PE X (.Call (.Name x p) (e::es) [] pos) (tCB r t):=by
 intro pins s σ H Q I h
 refine wpAny_Call_Name_kw (QgA I hg hm hv ?_ hn hdb)
 exact PyProof.Rows.callWith_builtin1 (thn (ha pos pins s σ H _ I h) fun us s1 ⟨vs,H1,I1,r1,q1⟩=>hc pins s1 σ H1 vs us Q I1 r1 q1) he hpl
theorem Qjz(hc:CallR X (.type T) r)(hg:Gl X x)(hm:X.mg x=none)(hv:bootBuiltins x=some (.type T))(ha:PA X (e::es) t)(hn:x≠"__name__":=by decide)(hdb:(x == ("__debug__":Str))=false:=by decide)
 (he:starEach (e::es) X.env=(false,eval e X.env)::starEach es X.env:=by rfl) (hpl:(backTo pos (starEach es X.env)).any (·.1)=false:=by rfl):PE X (.Call (.Name x p) (e::es) [] pos) (tCB r t):=by
 intro pins s σ H Q I h
 refine wpAny_Call_Name_kw (QgA I hg hm hv ?_ hn hdb)
 exact PyProof.Rows.callWith_type1 (thn (ha pos pins s σ H _ I h) fun us s1 ⟨vs,H1,I1,r1,q1⟩=>hc pins s1 σ H1 vs us Q I1 r1 q1) he hpl
end
end L2
namespace HT
open PySem PyProof.Rows
section
open PySem.SeqAt
open PySem.AutoSeq1 (wpAny_loadPart')
open PySem.MeetsSeq PySem.MeetsSeq2 PySem.MeetsSeq3
end
section
variable{prog:Program}{w:World}{A:Around}{E:Value->Shared->Prop}{s:Shared}
def sIx(n d:Nat):Option Int->Nat
 | none=>d
 | some v=>if v<0 then(v+(n:Int)).toNat else min v.toNat n
theorem sIx_none(n d:Nat):sIx n d none=d:=rfl
theorem sIx_nat(n d k:Nat):sIx n d (some (k:Int))=min k n:=by
 show(if (k:Int)<0 then((k:Int)+(n:Int)).toNat else min (k:Int).toNat n)=min k n
 rw[if_neg (by omega),Int.toNat_natCast]
end
end HT
namespace L2
open PySem PySem.Spec PyProof.Rows
abbrev TO:=St->Hp->(Option Int->Hp->Prop)->Prop
def PO(X:Cx)(e:Option Expr)(t:TO):Prop:=
 ∀(pins:List (Addr×Obj))(s:Shared)(σ:St)(H:Hp)(Q:Option Int->Hp->Prop),Inv X pins σ H s->t σ H Q->
  wpAny (model X.prog X.w) X.A (evalPart e X.env) (fun u s'=>∃ o H',Inv X pins σ H' s'/\IsPart u o/\Q o H') X.xe s
def Qt3:TO:=fun _ H Q=>Q none H
def tPart(t:TE):TO:=fun σ H Q=>t σ H fun x H1=>∃ i,x=.int i/\Q (some i) H1
section
variable{X:Cx}{e:Expr}{te:TE}{lo hi:Option Expr}{tl th:TO}{pos p2:Pos}
theorem QsW:PO X none Qt3:=by
 intro pins s σ H Q I h
 rw[evalPart_none]
 exact wpAny_pure ⟨none,H,I,.none,h⟩
theorem Qtq(h:PE X e te):PO X (some e) (tPart te):=by
 intro pins s σ H Q I hw
 rw[evalPart_some]
 refine thn (h pins s σ H _ I hw) fun u s1 ⟨x,H1,I1,r1,q1⟩=>?_
 obtain⟨i,rfl,q⟩:=q1
 obtain⟨t,rfl⟩:=r1
 exact⟨some i,H1,I1,.int i t,q⟩
def SlR(X:Cx)(r:V->Option Int->Option Int->Hp->VK->Prop):Prop:=
 ∀(pins:List (Addr×Obj))(s:Shared)(σ:St)(H:Hp)(x:V)(v vl vu:Value)(lo hi:Option Int)(sl:Addr)(Q:VK),Inv X pins σ H s->RelV x v->s.heap.IsSliceOf sl vl vu .none->IsPart vl lo->IsPart vu hi->r x lo hi H Q->
  ∃ T id,typeLookup (.type T) "__getitem__"=pure (some (.builtin id))/\s.TypeIs v T/\wpAny (model X.prog X.w) X.A (getItem v (.ref sl)) (EP X pins σ Q) X.xe s
def tSl(r:V->Option Int->Option Int->Hp->VK->Prop)(te:TE)(tl th:TO):TE:=fun σ H Q=>te σ H fun x H1=>tl σ H1 fun l H2=>th σ H2 fun u H3=>r x l u H3 Q
theorem Qsd{r:V->Option Int->Option Int->Hp->VK->Prop}(hr:SlR X r)(he:PE X e te)(hl:PO X lo tl)(hu:PO X hi th):PE X (.Subscript e (.Slice lo hi none p2) pos) (tSl r te tl th):=by
 intro pins s σ H Q I h
 refine Subscript_ (thn (he pins s σ H _ I h) fun v s1 ⟨x,H1,I1,r1,q1⟩=>?_)
 refine wpAny_Slice (thn (hl pins s1 σ H1 _ I1 q1) fun vl s2 ⟨l,H2,I2,pl,q2⟩=>thn (hu pins s2 σ H2 _ I2 q2) fun vu s3 ⟨u,H3,I3,pu,q3⟩=>?_)
 rw[evalPart_none]
 refine wpAny_pure ?_
 have I4:Inv X pins σ H3 { s3 with heap:=s3.heap.push { cls:=.type "slice",data:=.fields #[vl,vu,.none] } }:=I3.kept (t':=s3.toks) fun b ob q=>Heap.get?_push_of_some _ q
 obtain⟨T,id,hT,ht,hg⟩:=hr pins { s3 with heap:=s3.heap.push { cls:=.type "slice",data:=.fields #[vl,vu,.none] } } σ H3 x v vl vu l u s3.heap.objs.size Q I4 r1 (Heap.IsSliceOf.new ..) pl pu q3
 show wpAny (model X.prog X.w) X.A (subscriptTail e (.Slice lo hi none p2) v (.ref s3.heap.objs.size)) (EP X pins σ Q) X.xe { s3 with heap:=s3.heap.push { cls:=.type "slice",data:=.fields #[vl,vu,.none] } }
 exact tail_any (ops:=[.ref s3.heap.objs.size,v]) ht hT hg (by with_unfolding_all rfl)
def cutV(xs:List V)(lo hi:Option Int):List V:=(xs.drop (HT.sIx xs.length 0 lo)).take (HT.sIx xs.length xs.length hi - HT.sIx xs.length 0 lo)
theorem Qok(xs:List V)(lo hi:Option Int):(cutV xs lo hi).length<=xs.length:=by
 unfold cutV
 rw[List.length_take,List.length_drop]
 omega
end
end L2
namespace L2
open PySem PySem.Spec PyProof.Rows
def ixN(n:Nat)(i:Int):Option Nat:=if 0<=i then(if i<n then some i.toNat else none) else if -(n:Int)<=i then some (i+n).toNat else none
def atI{α:Type}(xs:List α)(i:Int):Option α:=(ixN xs.length i).bind fun j=>xs[j]?
theorem QtM{n:Nat}{i:Int}{j:Nat}(h:ixN n i=some j):seqIndex? i n=some j/\j<n /\ -(n:Int)<=i/\i<n:=by
 unfold ixN at h
 by_cases h0:0<=i
 ·rw[if_pos h0]at h
  by_cases h1:i<n
  ·rw[if_pos h1]at h
   have e:i.toNat=j:=Option.some.inj h
   exact⟨by rw[seqIndex_of h0 h1,e],by omega,by omega,h1⟩
  ·rw[if_neg h1]at h;cases h
 ·rw[if_neg h0]at h
  by_cases h1 : -(n:Int)<=i
  ·rw[if_pos h1]at h
   have e:(i+n).toNat=j:=Option.some.inj h
   exact⟨by rw[seqIndex_neg (by omega) h1,e],by omega,h1,by omega⟩
  ·rw[if_neg h1]at h;cases h
theorem Qjj{α:Type}{xs:List α}{i:Int}{v:α}(h:atI xs i=some v):∃ j,seqIndex? i xs.length=some j/\xs[j]?=some v/\j<xs.length /\ -(xs.length:Int)<=i/\i<xs.length:=by
 unfold atI at h
 cases e:ixN xs.length i with
 | none=>rw[e]at h;cases h
 | some j=>
  rw[e]at h
  obtain⟨h1,h2,h3,h4⟩:=QtM e
  exact⟨j,h1,h,h2,h3,h4⟩
theorem QtU{α:Type}{xs:List α}{j:Nat}{v:α}(h:xs[j]?=some v):atI xs (j:Int)=some v:=by
 have hj:j<xs.length:=(List.getElem?_eq_some_iff.mp h).1
 have e:ixN xs.length (j:Int)=some j:=by
  unfold ixN
  rw[if_pos (by omega),if_pos (by omega)];simp
 unfold atI;rw[e];exact h
def Qg0(b:Expr):Prop:=∀ o i,subscripted b false o i=operate [o,i] (getItem o i)
def IxR(X:Cx)(r:R2):Prop:=
 ∀(value slice:Expr)(pins:List (Addr×Obj))(s:Shared)(σ:St)(H:Hp)(x y:V)(v u:Value)(Q:VK),Inv X pins σ H s->RelV x v->RelV y u->r x y H Q->
  subscripted slice false v u=operate [v,u] (getItem v u)->wpAny (model X.prog X.w) X.A (subscriptTail value slice v u) (EP X pins σ Q) X.xe s
def MtR(X:Cx)(id:String)(r:V->List V->Hp->VK->Prop):Prop:=
 ∀(pins:List (Addr×Obj))(s:Shared)(σ:St)(H:Hp)(x:V)(xs:List V)(v:Value)(us:List Value)(Q:VK),Inv X pins σ H s->RelV x v->Vals xs us->r x xs H Q->
  wpAny (model X.prog X.w) X.A (call (.builtin id) (v::us)) (EP X pins σ Q) X.xe s
section
variable{X:Cx}{a b:Expr}{ta tb:TE}{pos:Pos}
theorem IxR.or{r r':R2}(h:IxR X r)(h':IxR X r'):IxR X (fun x y H Q=>r x y H Q∨r' x y H Q):=by
 intro value slice pins s σ H x y v u Q I rx ry q hs
 rcases q with q | q
 ·exact h value slice pins s σ H x y v u Q I rx ry q hs
 ·exact h' value slice pins s σ H x y v u Q I rx ry q hs
theorem pe_ix{r:R2}(hr:IxR X r)(ha:PE X a ta)(hb:PE X b tb)(hs:Qg0 b):PE X (.Subscript a b pos) (tOp r ta tb):=by
 intro pins s σ H Q I h
 exact Subscript_ (binT ha hb I h fun v u s2 x y H2 I2 rx ry q=>hr a b pins s2 σ H2 x y v u Q I2 rx ry q (hs _ _))
def rIxL(K:PySem.W.Frag):R2:=fun x y H Q=>∃ p xs i v,x=.ref p/\y=.int i/\SqL K H p xs/\atI xs i=some v/\Q v H
def rIxT(K:PySem.W.Frag):R2:=fun x y H Q=>∃ p xs i v,x=.ref p/\y=.int i/\SqT K H p xs/\atI xs i=some v/\Q v H
def rIxS:R2:=fun x y H Q=>∃ z i c,x=.str z/\y=.int i/\z.length<=sizeLine/\atI z.cps.toList i=some c/\Q (.str ⟨#[c]⟩) H
theorem QsT:IxR X (rIxL X.K):=by
 intro value slice pins s σ H x y v u Q I rx ry h hs
 obtain⟨p,xs,i,z,rfl,rfl,hq,he,q⟩:=h
 cases rx
 obtain⟨t,rfl⟩:=ry
 obtain⟨its,r,pl,hz⟩:=I.list hq
 obtain⟨j,h1,h2,h3,h4,h5⟩:=Qjj he
 obtain⟨w,ew,rw'⟩:=r.get h2
 have hl:=r.length
 have hn:=QgC
 have fin:EP X pins σ Q w s:=⟨z,H,I,rw',q⟩
 by_cases h0:0<=i
 ·have hj:i.toNat=j:=by
   rw[seqIndex_of h0 h5]at h1
   exact Option.some.inj h1
  exact item_listR pl.isList h0 (by omega) (by rw[hj];simpa using ew) fin hs
 ·have hj:(i+(its.toArray.size:Int)).toNat=j:=by
   rw[seqIndex_neg (by omega) h4]at h1
   rw[List.size_toArray, ← hl]
   exact Option.some.inj h1
  exact subscriptTail_builtinR (x:=w) pl.isList.typeIs slot_list_getitem.lookup
   (wpAny_getItem_list_neg (Q:=fun r s'=>r=w/\EP X pins σ Q r s') pl.isList (by omega) (by rw[List.size_toArray]<;>omega) (by omega) (by rw[hj];simpa using ew) ⟨rfl,fin⟩) hs
theorem Qvh:IxR X (rIxT X.K):=by
 intro value slice pins s σ H x y v u Q I rx ry h hs
 obtain⟨p,xs,i,z,rfl,rfl,hq,he,q⟩:=h
 cases rx
 obtain⟨t,rfl⟩:=ry
 obtain⟨its,r,pl,hz⟩:=I.tuple hq
 obtain⟨j,h1,h2,h3,h4,h5⟩:=Qjj he
 obtain⟨w,ew,rw'⟩:=r.get h2
 have hl:=r.length
 have hn:=QgC
 have fin:EP X pins σ Q w s:=⟨z,H,I,rw',q⟩
 exact subscriptTail_builtinR (x:=w) pl.typeIs slot_tuple_getitem.lookup
  (getItem_tuple (j:=j) (Q:=fun r s'=>r=w/\EP X pins σ Q r s') pl (by omega) (by omega) (by rw[List.size_toArray, ← hl];exact h1) (by simpa using ew) ⟨rfl,fin⟩) hs
theorem QuJ:IxR X rIxS:=by
 intro value slice pins s σ H x y v u Q I rx ry h hs
 obtain⟨z,i,c,rfl,rfl,hz,he,q⟩:=h
 obtain⟨t,rfl⟩:=rx
 obtain⟨t',rfl⟩:=ry
 obtain⟨j,h1,h2,h3,h4,h5⟩:=Qjj he
 have hl:z.cps.toList.length=z.length:=by simp[Str.length]
 rw[hl]at h1 h4 h5
 have hn:=QgC
 exact tail_any (typeIs_str s z t) slot_str_getitem.lookup (getItem_str (c:=c) (by
  have e1:decide (i < -(2 ^ 63:Int))=false:=decide_eq_false (by omega)
  have e2:decide (i ≥ 2 ^ 63)=false:=decide_eq_false (by omega)
  rw[e1,e2,Bool.or_false]) (by rw[h1];simpa using h2) ⟨.str ⟨#[c]⟩,H,I.tok _,⟨_,rfl⟩,q⟩) hs
def rIx(K:PySem.W.Frag):R2:=fun x y H Q=>rIxL K x y H Q∨rIxT K x y H Q∨rIxS x y H Q
theorem QmG:IxR X (rIx X.K):=QsT.or (Qvh.or QuJ)
theorem Inv.lst{pins:List (Addr×Obj)}{σ:St}{H:Hp}{s:Shared}{p:Addr}{xs:List V}(I:Inv X pins σ H s)(h:H p=some (.lst xs)):
 ∃(its:List Value)(n:Nat),Vals xs its/\s.heap.get? p=some { cls:=.type "list",data:=.seq its.toArray n }/\xs.length<=sizeLine:=by
 obtain⟨z,its,n,r,e⟩:=I.hok p _ h
 exact⟨its,n,r,e,z⟩
theorem Ql7(lo hi:Option Int)(n:Nat):(sliceBounds lo hi none n).1=((HT.sIx n 0 lo:Nat):Int)/\(sliceBounds lo hi none n).2.1=((HT.sIx n n hi:Nat):Int)/\(sliceBounds lo hi none n).2.2=1:=by
 refine⟨?_,?_,rfl⟩
 ·cases lo with
  | none=>simp[sliceBounds,HT.sIx]
  | some i=>
   simp only[sliceBounds,HT.sIx,Option.getD_none,show(1:Int) > 0 by decide,if_true]
   by_cases h:i<0
   ·simp only[h,if_true]<;>omega
   ·simp only[h,if_false]<;>omega
 ·cases hi with
  | none=>simp[sliceBounds,HT.sIx]
  | some i=>
   simp only[sliceBounds,HT.sIx,Option.getD_none,show(1:Int) > 0 by decide,if_true]
   by_cases h:i<0
   ·simp only[h,if_true]<;>omega
   ·simp only[h,if_false]<;>omega
theorem QkF(its:List Value)(lo hi:Option Int):slicePick its.toArray lo hi none=((its.drop (HT.sIx its.length 0 lo)).take (HT.sIx its.length its.length hi - HT.sIx its.length 0 lo)).toArray:=by
 obtain⟨h1,h2,h3⟩:=Ql7 lo hi its.toArray.size
 unfold slicePick
 rw[h1,h2,h3]
 simp only[sliceRange_one,pick_run,List.size_toArray]<;>rfl
def rSlL(K:PySem.W.Frag):V->Option Int->Option Int->Hp->VK->Prop:=fun x lo hi H Q=>∃ a xs,x=.ref a/\SqL K H a xs/\∀ p,H p=none->Q (.ref p) (upd H p (.lst (cutV xs lo hi)))
theorem Qti:SlR X (rSlL X.K):=by
 intro pins s σ H x v vl vu lo hi sl Q I rx hs pl pu h
 obtain⟨a,xs,rfl,hx,q⟩:=h
 cases rx
 obtain⟨its,r,ht,hz⟩:=I.list hx
 have hlen:=r.length
 refine⟨"list",_,slot_list_getitem.lookup,ht.isList.typeIs,?_⟩
 refine wpAny_getItem_list_slice ht.isList hs pl pu .none (by simp) ?_ (by rw[List.size_toArray]<;>omega)
 rw[QkF, ← hlen]
 refine⟨.ref s.heap.objs.size,_,I.laid (t':=s.toks) (o:=.lst (cutV xs lo hi)) (fun b ob q=>Heap.get?_push_of_some _ q) (Nat.le_refl _) ?_,rfl,q _ (I.hok.fresh (Nat.le_refl _))⟩
 exact⟨Nat.le_trans (Qok xs lo hi) hz,_,0,(r.drop (HT.sIx xs.length 0 lo)).take (HT.sIx xs.length xs.length hi - HT.sIx xs.length 0 lo),Heap.get?_push_size _ rfl⟩
theorem QmK:CallR X (.builtin "len") (fun xs H Q=>∃ p ys,xs=[.ref p]/\(SqL X.K H p ys∨SqT X.K H p ys)/\Q (.int ys.length) H):=by
 intro pins s σ H xs us Q I r h
 obtain⟨p,ys,rfl,hq,q⟩:=h
 obtain⟨u,rfl,rx⟩:=vals1 r
 cases rx
 have hn:=QgC
 rcases hq with hq | hq
 ·obtain⟨its,r',pl,hz⟩:=I.list hq
  have hlen:=r'.length
  exact Calls.call_len_list pl.isList (by simp only[List.size_toArray]<;>omega) ⟨.int ys.length,H,I.tok _,⟨s.toks+1,by rw[List.size_toArray,hlen]⟩,q⟩
 ·obtain⟨its,r',pl,hz⟩:=I.tuple hq
  have hlen:=r'.length
  exact len_tuple pl (by simp only[List.size_toArray]<;>omega) ⟨.int ys.length,H,I.tok _,⟨s.toks+1,by rw[List.size_toArray,hlen]⟩,q⟩
theorem Qmu:CallR X (.builtin "len") (fun xs H Q=>∃ z,xs=[.str z]/\z.length<=sizeLine/\Q (.int z.length) H):=by
 intro pins s σ H xs us Q I r h
 obtain⟨z,rfl,hz,q⟩:=h
 obtain⟨u,rfl,t,rfl⟩:=vals1 r
 have hn:=QgC
 exact len_str (by omega) ⟨.int z.length,H,I.tok _,⟨_,rfl⟩,q⟩
theorem CallR.or{f:Value}{r r':List V->Hp->VK->Prop}(h:CallR X f r)(h':CallR X f r'):CallR X f (fun xs H Q=>r xs H Q∨r' xs H Q):=by
 intro pins s σ H xs us Q I rs q
 rcases q with q | q
 ·exact h pins s σ H xs us Q I rs q
 ·exact h' pins s σ H xs us Q I rs q
theorem Qme:CallR X (.type "list") (fun xs H Q=>∃ p ys,xs=[.ref p]/\(SqL X.K H p ys∨SqT X.K H p ys)/\∀ l,H l=none->Q (.ref l) (upd H l (.lst ys))):=by
 intro pins s σ H xs us Q I r h
 obtain⟨p,ys,rfl,hq,q⟩:=h
 obtain⟨u,rfl,rx⟩:=vals1 r
 cases rx
 have fin:∀(its:List Value),Vals ys its->ys.length<=sizeLine->∀(h':Heap)(c':Nat),(∀ b o',s.heap.get? b=some o'->h'.get? b=some o')->
  h'.get? s.heap.objs.size=some { cls:=.type "list",dict:=none,data:=.seq its.toArray c',slots := #[] }->EP X pins σ Q (.ref s.heap.objs.size) { s with heap:=h' }:=fun its r' hz h' c' kp e=>
  ⟨.ref s.heap.objs.size,_,I.laid (t':=s.toks) kp (Nat.le_refl _) (show ObjOk X.prog X.w _ h' _ (.lst ys) from⟨hz,its,c',r',e⟩),rfl,q _ (I.hok.fresh (Nat.le_refl _))⟩
 rcases hq with hq | hq
 ·obtain⟨its,r',pl,hz⟩:=I.list hq
  have hlen:=r'.length
  obtain⟨o,ho,hc,n,hd⟩:=pl.isList
  exact call_list_seq p (.inl rfl) ho hc hd (fun h' c' kp e=>fin its r' hz h' c' kp e) (by simp only[List.size_toArray]<;>omega)
 ·obtain⟨its,r',pl,hz⟩:=I.tuple hq
  have hlen:=r'.length
  obtain⟨o,ho,hc,n,hd⟩:=pl
  exact call_list_seq p (.inr rfl) ho hc hd (fun h' c' kp e=>fin its r' hz h' c' kp e) (by simp only[List.size_toArray]<;>omega)
def tyV(K:PySem.W.Frag)(T:String)(x:V)(H:Hp):Prop:=match x with
 | .str _=>T="str"
 | .int _=>T="int"
 | .ref p=>(T="list"/\∃ xs,SqL K H p xs)∨(T="tuple"/\∃ o,K.lookup p=some o/\o.cls=.type "tuple"/\o.dict=none)∨
  (T="dict"/\((∃ kvs,H p=some (.dK kvs))∨∃ kvs,H p=some (.dT kvs)))∨(T="set"/\∃ S n,H p=some (.set S n))
 | _=>False
theorem Qut{pins:List (Addr×Obj)}{σ:St}{H:Hp}{s:Shared}{T:String}{x:V}{v:Value}(I:Inv X pins σ H s)(r:RelV x v)(ty:tyV X.K T x H):
 s.TypeIs v T/\∀ a,v=.ref a->∃ ob,s.heap.get? a=some ob/\ob.dict=none:=by
 cases x with
 | str z=>
  obtain⟨t,rfl⟩:=r
  cases (show T="str" from ty)
  exact⟨typeIs_str s z t,fun _ e=>nomatch e⟩
 | int i=>
  obtain⟨t,rfl⟩:=r
  cases (show T="int" from ty)
  exact⟨typeIs_int s i t,fun _ e=>nomatch e⟩
 | ref p=>
  cases r
  rcases ty with⟨rfl,xs,hq⟩ | ⟨rfl,o,hk,hc,hd⟩ | ⟨rfl,hk⟩ | ⟨rfl,S,n,hk⟩
  ·obtain⟨its,_,pl,_⟩:=I.list hq
   refine⟨pl.isList.typeIs,fun a e=>?_⟩
   cases e
   obtain⟨o,n,e,c,hd,_⟩:=pl
   exact⟨o,e,hd⟩
  ·refine⟨⟨o,I.kIn p o hk,hc⟩,fun a e=>?_⟩
   cases e
   exact⟨o,I.kIn _ o hk,hd⟩
  ·have z:∃ o,s.heap.get? p=some o/\o.ExactDict:=by
    rcases hk with⟨kvs,hk⟩ | ⟨kvs,hk⟩
    ·obtain⟨_,_,_,_,o,_,_,e,ex,_⟩:=I.hok p _ hk
     exact⟨o,e,ex⟩
    ·obtain⟨_,_,_,_,o,_,_,e,ex,_⟩:=I.hok p _ hk
     exact⟨o,e,ex⟩
   obtain⟨o,e,ex⟩:=z
   refine⟨⟨o,e,ex.1⟩,fun a e2=>?_⟩
   cases e2
   exact⟨o,e,ex.2.1⟩
  ·obtain⟨o,_,_,_,e,ex,_⟩:=I.hok p _ hk
   refine⟨⟨o,e,ex.1⟩,fun a e2=>?_⟩
   cases e2
   exact⟨o,e,ex.2.1⟩
 | _=>exact False.elim ty
def tBM(K:PySem.W.Frag)(T:String)(r:V->List V->Hp->VK->Prop)(to:TE)(t:TA):TE:=fun σ H Q=>to σ H fun x H1=>tyV K T x H1/\t σ H1 fun xs H2=>r x xs H2 Q
variable{o e:Expr}{es:List Expr}{to:TE}{t:TA}{name:Str}{apos cpos:Pos}{T id:String}{r:V->List V->Hp->VK->Prop}
theorem pe_bm(pa:PlainAttrs T)(slot:Slot T name id)(hty:typeOf (.builtin id)=pure (.type "method_descriptor"))(hm:MtR X id r)(ho:PE X o to)(ha:PA X (e::es) t)
 (hbase:attributeBase o name X.env (eval o X.env)=eval o X.env:=by rfl)
 (hfew:((backTo cpos (starEach (e::es) X.env)).all (fun x => !x.1)&&(backToKw cpos (keywordEach [] X.env)).all (fun x=>x.1.isSome)
  && decide ((e::es).length+([]:List Keyword).length+(if ([]:List Keyword).isEmpty then 0 else 1)<30))=true:=by rfl)
 (hline:(apos.endLine == cpos.line)=true:=by rfl) (hs:starEach (e::es) X.env=(false,eval e X.env)::starEach es X.env:=by rfl) (hplain:(backTo cpos (starEach es X.env)).any (·.1)=false:=by rfl):
 PE X (.Call (.Attribute o name apos) (e::es) [] cpos) (tBM X.K T r to t):=by
 intro pins s σ H Q I h
 refine wpAny_Call_method_late hbase hfew hline rfl (thn (ho pins s σ H _ I h) fun v s1 ⟨x,H1,I1,r1,ty,q1⟩=>?_)
 obtain⟨h1,h2⟩:=Qut I1 r1 ty
 refine⟨T,id,pa,slot,hty,h1,h2,?_⟩
 have hA:=ha cpos pins s1 σ H1 _ I1 q1
 rw[hs]at hA ⊢
 refine Calls.callWith_builtin (by show(false||(backTo cpos (starEach es X.env)).any (·.1))=false;rw[hplain]<;>rfl) (Calls.evalArgs_plain ?_)
 exact thn hA fun us s2 ⟨vs,H2,I2,r2,q2⟩=>hm pins s2 σ H2 x vs v us Q I2 r1 r2 q2
end
end L2
namespace L2
open PySem PySem.Spec PyProof.Rows
def MtM(X:Cx)(id:String)(r:V->List V->Hp->VK->Prop):Prop:=
 ∀(pins:List (Addr×Obj))(s:Shared)(σ:St)(H:Hp)(x:V)(xs:List V)(v:Value)(us:List Value)(Q:VK),Inv X pins σ H s->RelV x v->Vals xs us->r x xs H Q->
  wpAny (model X.prog X.w) X.A (call (.builtin id) (v::us)) (EP X pins σ Q) X.xe s
theorem Vals.one:∀{x:V}{us:List Value},Vals [x] us->∃ u,us=[u]/\RelV x u
 | _,_,.cons r .nil=>⟨_,rfl,r⟩
theorem Vals.rep{xs:List V}{us:List Value}(h:Vals xs us):∀ k:Nat,Vals (List.replicate k xs).flatten (List.replicate k us).flatten
 | 0=>.nil
 | k+1=>by
  rw[List.replicate_succ,List.replicate_succ,List.flatten_cons,List.flatten_cons]
  exact Vals.append h (Vals.rep h k)
theorem QjO(its:List Value):∀(k:Nat)(acc:List Value),
 List.foldl (fun x1 x2=>x1++x2) acc.toArray (List.replicate k its.toArray)=(acc++(List.replicate k its).flatten).toArray
 | 0,acc=>by simp
 | k+1,acc=>by
  have e:acc.toArray++its.toArray=(acc++its).toArray:=by simp
  have e2:(acc++its)++(List.replicate k its).flatten=acc++(List.replicate (k+1) its).flatten:=by
   rw[List.replicate_succ,List.flatten_cons,List.append_assoc]
  rw[← e2, ← QjO its k (acc++its), ← e,List.replicate_succ,List.foldl_cons]
section
variable{X:Cx}{pins:List (Addr×Obj)}{σ:St}{H:Hp}{s:Shared}{l b:Addr}{xs ys zs:List V}
theorem Inv.lset{its its':List Value}{n:Nat}{f:Array Value->Array Value}{t':Nat}(I:Inv X pins σ H s)(hH:H l=some (.lst xs))
 (e:s.heap.get? l=some { cls:=.type "list",data:=.seq its.toArray n }) (hf:f its.toArray=its'.toArray) (hv:Vals ys its') (hz:ys.length<=sizeLine):
 Inv X pins σ (upd H l (.lst ys)) { s with heap:=s.heap.update l (Obj.mapSeq f),toks:=t' }:=by
 have q:=PySem.IsL.update e f
 rw[hf]at q
 refine I.write (x:=l) (e:=l) (by rw[hH];exact trivial) (.inl rfl) (fun b' u hb hu=>(Heap.get?_update_other s.heap (Obj.mapSeq f) (Ne.symm hb)).trans hu) ⟨_,q⟩ ?_
 exact⟨hz,its',_,hv,q⟩
theorem Inv.lnew{its:List Value}{t':Nat}(I:Inv X pins σ H s)(hv:Vals ys its)(hz:ys.length<=sizeLine):
 Inv X pins σ (upd H s.heap.objs.size (.lst ys)) { s with heap:=s.heap.push { cls:=.type "list",data:=.seq its.toArray },toks:=t' }:=
 I.laid (fun _ _ q=>Heap.get?_push_of_some _ q) (Nat.le_refl _) ⟨hz,its,0,hv,Heap.get?_push_size _ rfl⟩
theorem Inv.fresh(I:Inv X pins σ H s):H s.heap.objs.size=none:=I.hok.fresh (Nat.le_refl _)
theorem Inv.lstM(I:Inv X pins σ H s)(hH:H l=some (.lst xs)):xs.length<=sizeLine/\∃(its:List Value)(n:Nat),Vals xs its/\xs.length=its.length/\s.heap.get? l=some { cls:=.type "list",data:=.seq its.toArray n }:=by
 obtain⟨z,its,n,r,e⟩:=I.hok l _ hH
 exact⟨z,its,n,r,r.length,e⟩
theorem Qsw{n:Nat}(h:n<=sizeLine):Builtin.List.listTooLong n=false:=by
 unfold Builtin.List.listTooLong
 exact decide_eq_false (by omega)
end
section
variable{X:Cx}
def Qtp:V->List V->Hp->VK->Prop:=fun x vs H Q=>∃ l xs y,x=.ref l/\vs=[y]/\H l=some (.lst xs)/\xs.length<sizeLine/\Q .non (upd H l (.lst (xs++[y])))
theorem Qe0:MtM X "list.append" Qtp:=by
 intro pins s σ H x vs v us Q I rx rv h
 obtain⟨l,xs,y,rfl,rfl,hH,hz,q⟩:=h
 cases rx
 obtain⟨u,rfl,ru⟩:=rv.one
 obtain⟨z,its,n,r,hl,e⟩:=I.lstM hH
 refine call_meets F.slot_list_append ⟨_,e,rfl⟩ F.entry_list_append (F.args_list_append_2 _ _) (PySem.list_append l its.toArray n u (by rw[List.size_toArray];omega)) ⟨e,?_⟩
 refine⟨.non,_,I.lset (its':=its++[u]) hH e (by simp) (r.append (.cons ru .nil)) ?_,rfl,q⟩
 rw[List.length_append,List.length_singleton]
 omega
def rRep:R2:=fun x y H Q=>∃ l k xs,x=.ref l/\y=.int k/\H l=some (.lst xs) /\ -(2 ^ 63)<=k/\k<2 ^ 63/\xs.length * k.toNat<=sizeLine/\
 ∀ p,H p=none->Q (.ref p) (upd H p (.lst (List.replicate k.toNat xs).flatten))
theorem Quk{α:Type}(xs:List α)(k:Nat):(List.replicate k xs).flatten.length=k * xs.length:=by
 induction k with
 | zero=>simp
 | succ k ih=>rw[List.replicate_succ,List.flatten_cons,List.length_append,ih,Nat.succ_mul,Nat.add_comm]
theorem Qus:OpR X (binaryOp .Mult) rRep:=by
 intro pins s σ H x y v u Q I rx ry h
 obtain⟨l,k,xs,rfl,rfl,hH,h1,h2,hz,q⟩:=h
 cases rx
 obtain⟨t,rfl⟩:=ry
 obtain⟨z,its,n,r,hl,e⟩:=I.lstM hH
 have hlen:its.toArray.size * k.toNat<=sizeLine:=by rw[List.size_toArray, ← hl];exact hz
 have hcap:¬ its.toArray.size * k.toNat > (2 ^ 63 - 1) / 8:=by
  have:(sizeLine:Nat)<=(2 ^ 63 - 1) / 8:=by decide
  omega
 have hfit:¬ (!Builtin.List.listFitsIndex k)=true:=by
  rw[fitsIndex_both h1 h2]
  exact Bool.false_ne_true
 have hlong:¬ Builtin.List.listTooLong (its.toArray.size * k.toNat)=true:=by
  rw[Qsw hlen]
  exact Bool.false_ne_true
 have hnew:List.foldl (fun x1 x2=>x1++x2) #[] (List.replicate (if its.toArray.isEmpty=true then 0 else k.toNat) its.toArray)=(List.replicate k.toNat its).flatten.toArray:=by
  have f0:∀ m:Nat,List.foldl (fun x1 x2=>x1++x2) #[] (List.replicate m its.toArray)=(List.replicate m its).flatten.toArray:=fun m=>by
   have:=QjO its m []
   rw[List.nil_append]at this
   exact this
  rw[f0]
  cases its with
  | nil=>simp
  | cons a r'=>rw[if_neg (by simp)]
 refine wpAny_binaryOp_repeat_ref (T:="list") (U:="int") (by decide) ⟨_,e,rfl⟩ (fun s'=>typeIs_int s' k t) noFill_list_mul F.fills_int_mul F.slot_int_rmul repeat_list F.slot_int_index.lookup
  (call_meets F.slot_int_rmul (typeIs_int s k t) F.entry_int_rmul (F.args_int_rmul_2 _ _) (int___rmul___int_list k t l its.toArray n)
   ⟨e,rfl,⟨_,e,rfl⟩,call_meets F.slot_list_mul ⟨_,e,rfl⟩ F.entry_list_mul (F.args_list_mul_2 _ _) (AutoListH.list___mul___list_int_3 l its.toArray n k t hfit hcap hlong) ⟨e,?_⟩⟩)
 rw[hnew]
 exact⟨.ref _,_,I.lnew (t':=s.toks) (r.rep k.toNat) (by rw[Quk,Nat.mul_comm];exact hz),rfl,q _ I.fresh⟩
end
section
variable{prog:Program}{w:World}{A:Around}{E:Value->Shared->Prop}{s:Shared}
end
section
variable{X:Cx}
end
end L2
namespace Att
open PySem PySem.W PySem.Calls PyProof.Rows
theorem QhQ{P:Params}{h:Heap}:∀(ns:List Int)(vs:List Value),WellAll P h vs (ns.map WData.int)->IntsAre vs ns:=by
 intro ns
 induction ns with
 | nil=>
  intro vs w
  rw[List.map_nil]at w
  cases w
  exact .nil
 | cons n ns ih=>
  intro vs w
  rw[List.map_cons]at w
  cases w with
  | cons a b=>
   cases a
   exact .cons _ _ (ih _ b)
theorem script_of{l:OpenLaw}{n:Nat}(hn:l.most=some n){P:Params}{h:Heap}{args:List WData}{vals:List Value}
 (hpre:l.row.toRowW.claim.pre args=true) (hwl:WellAll P h vals args):
 ∃ a vs ns,vals=[Value.ref a]/\args=[WData.list (ns.map WData.int)]/\h.get? a=some { cls:=.type "list",data:=.seq vs.toArray }/\IntsAre vs ns/\ns.length<=n:=by
 have hsh:WShape.hasAll [] args [.list .int]=true:=(pre_splitW hpre).1
 have hc:l.pre.holds [] { args:=args }=true:=(pre_splitW hpre).2
 obtain⟨d,r,rfl,h1,h2⟩:=hasAllW_cons hsh
 obtain rfl:=hasAllW_nil h2
 obtain⟨xs,rfl,h3⟩:=hasW_list h1
 obtain⟨ns,rfl⟩:=items_int h3
 have hlen:ns.length<=n:=by
  unfold OpenLaw.pre at hc
  have h4:(WTm.not (.lt (.lit (.int (n:Int))) (.len (.arg 0)))).holds [] { args:=[.list (ns.map .int)] }=true:=by
   have h4:=(holds_andW hc).1
   rw[hn]at h4
   exact h4
  have h5:=condW_of h4 (w_not (w_lt w_lit (w_len_list (w_arg rfl))))
  rw[List.length_map]at h5
  refine Nat.le_of_not_lt fun q=>?_
  have q':(n:Int)<((ns.length:Nat):Int):=by omega
  first
   | (rw[decide_eq_true q']at h5;exact absurd h5 (by decide))
   | (simp at h5;omega)
 cases hwl with
 | cons w1 w2=>
  cases w2
  cases w1 with
  | list ho hall=>exact⟨_,_,ns,rfl,rfl,ho,QhQ ns _ hall,hlen⟩
theorem post_true(l:OpenLaw)(args:List WData):l.row.toRowW.claim.post args (.bool true) args=true:=
 postW_of (r:=l.row.toRowW) (X:=(true == true))
  (show WShape.has [] (.bool true) .bool=true by first | rfl | decide | simp[WShape.has,WShape.arms,WShape.armsAll])
  (show(WTm.eq .res (.lit (.bool true))).value [] { args:=args,res:=some (.bool true),after:=args }=some (.bool (true == true)) from w_eq_bool (w_res rfl) w_lit) rfl
section
variable{prog:Program}{w:World}{A:Around}{E:Value->Shared->Prop}{s:Shared}{K:Frag}
end
end Att
namespace L2
open PySem PySem.Spec PyProof.Rows
theorem QjC:∀{vs:List Value}{ns:List Int},IntsAre vs ns->Vals (ns.map V.int) vs
 | _,_,.nil=>.nil
 | _,_,.cons n t h=>.cons ⟨t,rfl⟩ (QjC h)
def Only(H:Hp):Prop:=∀ b,H b=none∨∃ o xs,H b=some (.frz o (.lst xs))
theorem Qsy{P:Program}{w:World}{K:PySem.W.Frag}{mg mb:Str->Option Value}{CX:CXT}{k:Nat}{fa a:Addr}{fd:FuncData}{x:Str}{sp:Sp}{s₁:Shared}{vs:List Value}{ns:List Int}
 (KX:K.In s₁.heap) (hns:s₁.heap.Ns mainGlobals mg) (hb:s₁.heap.Ns builtinsNs mb) (hbb:∀ x:Str,x≠"__name__"->mb x=bootBuiltins x) (hlim:s₁.heap.NoLimit) (hg:s₁.gens = #[])
 (ha:s₁.heap.get? a=some { cls:=.type "list",data:=.seq vs.toArray }) (hi:IntsAre vs ns) (hl:ns.length<=sizeLine) (hr:Room k callerA)
 (F:∀ base:Heap,K.In base->base.Ns mainGlobals mg->FnOk P w K mg base CX k fa fd [x] sp) (hbind:∀(s:Shared)(u:Value),BindsTo s fd ⟨[u],[]⟩ [(x,u)])
 (hsp:∀ H:Hp,Only H->SqL K H a (ns.map V.int)->sp [.ref a] H (fun v _=>v=.bl true) fun _ _ _=>False)
 (hCX:∀ H e s',CX [] H s₁ (fun _ _ _=>False) e s'->False):
 codeAny (model P w) callerA (.call (.ref fa) ⟨[.ref a],[]⟩) (fun r s'=>r=.ok (.ret (.bool true))/\OldK s₁.heap s'.heap/\s'.os=s₁.os/\AllBare s'.gens) s₁:=by
 have rv:=QjC hi
 have lenV:=hi.length
 -- from an abstract heap in which nothing but the script may be tracked
 have core:∀ H:Hp,Only H->SqL K H a (ns.map V.int)->HOk P w H s₁.heap->(∀ b,H b≠none->b=a)->(H a≠none->K.lookup a=none)->
  codeAny (model P w) callerA (.call (.ref fa) ⟨[.ref a],[]⟩) (fun r s'=>r=.ok (.ret (.bool true))/\OldK s₁.heap s'.heap/\s'.os=s₁.os/\AllBare s'.gens) s₁:=by
  intro H hO hS hok hA hK
  have base_of:∀{b:Addr}{o:Obj},s₁.heap.get? b=some o->H b=none->(hidT s₁.heap H).get? b=some o:=fun e n=>Qsl e n
  have noA:∀{b:Addr}{o:Obj}{es:Array DictEntry}{ep:Nat},s₁.heap.get? b=some o->o.data=.dict es ep->H b=none:=fun {b o es ep} e d=>by
   cases q:H b with
   | none=>rfl
   | some u=>
    have e':b=a:=hA b (by rw[q];simp)
    subst e'
    rw[ha]at e;cases e
    have d':Data.seq vs.toArray _=Data.dict es ep:=d
    cases d'
  have nsK:∀{b:Addr}{m:Str->Option Value},s₁.heap.Ns b m->(hidT s₁.heap H).Ns b m:=fun {b m} ⟨o,es,ep,e,d,r⟩=>⟨o,es,ep,base_of e (noA e d),d,r⟩
  have hKb:K.In (hidT s₁.heap H):=fun b o e=>base_of (KX b o e) (by
   cases q:H b with
   | none=>rfl
   | some u=>
    have e':b=a:=hA b (by rw[q];simp)
    subst e'
    rw[hK (by rw[q];simp)]at e;cases e)
  have hM:Mod K mg (hidT s₁.heap H):=⟨hKb,nsK hns,⟨mb,nsK hb,hbb⟩,let ⟨mc,h1,h2⟩:=hlim;⟨mc,nsK h1,h2⟩⟩
  have e0:Env0 P w K mg (hidT s₁.heap H) callerA [] s₁ H:=⟨rfl,hM,fun b o e=>QsQ e,Nat.le_of_eq (Qqp _ _),trivial,fun b hb=>absurd (show b∈([]:List Addr) from hb) (by simp),hok,.of_eq hg⟩
  refine codeAny_mono ((F _ hKb (nsK hns)).run callerA [] s₁ H ⟨[.ref a],[]⟩ [.ref a] [.ref a] _ _ hr e0 (hbind s₁ (.ref a)) (.cons rfl .nil) (hsp H hO hS)) fun r s' h=>?_
  cases r with
  | error e=>exact(hCX H e s' h).elim
  | ok fl=>
   cases fl with
   | next=>exact False.elim h
   | brk=>exact False.elim h
   | cont=>exact False.elim h
   | ret u=>
    obtain⟨v,H',os,bare,un,hok',r',q⟩:=h
    have q':v=.bl true:=q
    subst q'
    obtain rfl:u=Value.bool true:=r'
    refine⟨rfl,OldK.of_keep fun b o e=>?_,os,bare⟩
    cases q:H b with
    | none=>exact un.keep b o e q (by intro z;exact absurd (show b∈([]:List Addr) from z) (by simp)) (by simp)
    | some u=>
     rcases hO b with z | ⟨ob,xs,z⟩
     ·rw[q]at z;cases z
     ·have z2:=un.frzs b ob _ z
      obtain⟨e1,_⟩:=hok b _ z
      obtain⟨e2,_⟩:=hok' b _ z2
      rw[e]at e1;cases e1
      exact e2
 cases hk:K.lookup a with
 | some o=>
  -- the script is one of the module's own objects
  have e:=KX a o hk
  rw[ha]at e
  cases e
  refine core (fun _=>none) (fun _=>.inl rfl) (.inr ⟨_,vs.toArray,_,hk,rfl,rfl,rfl,by rw[List.size_toArray,lenV];exact hl,by simpa using rv⟩) (fun b u z=>by have z':(none:Option HO)=some u:=z;cases z') (fun b z=>absurd rfl z) fun z=>absurd rfl z
 | none=>
  refine core (fun b=>if b=a then some (.frz { cls:=.type "list",data:=.seq vs.toArray } (.lst (ns.map V.int))) else none) (fun b=>?_) (.inl (.inr ⟨{ cls:=.type "list",data:=.seq vs.toArray },if_pos rfl⟩)) (fun b u z=>?_) (fun b z=>?_) fun _=>hk
  ·by_cases hb:b=a
   ·exact .inr ⟨_,_,if_pos hb⟩
   ·exact .inl (if_neg hb)
  ·by_cases hb:b=a
   ·have z':=(if_pos hb).symm.trans z
    cases z'
    subst hb
    exact⟨ha,by rw[List.length_map];exact hl,vs,_,rv,ha⟩
   ·have z':=(if_neg hb).symm.trans z
    cases z'
  ·by_cases hb:b=a
   ·exact hb
   ·exact absurd (if_neg hb) z
end L2
namespace L2
open PySem PySem.Spec PyProof.Rows
end L2
namespace L2
open PySem PySem.Spec PyProof.Rows
def Qcp(s:Stmt):Arguments:=match s with
 | .FunctionDef _ a _ _ _ _ _ _ _ _=>a
 | _=>{ posonlyargs:=[],args:=[],vararg:=none,kwonlyargs:=[],kw_defaults:=[],kwarg:=none,defaults:=[] }
def Qbc(s:Stmt):List Stmt:=match s with
 | .FunctionDef _ _ b _ _ _ _ _ _ _=>b
 | _=>[]
def Qd(s:Stmt):Scope:=match s with
 | .FunctionDef _ _ _ _ _ _ sc _ _ _=>sc
 | _=>{ kind:=.function,names:=[],isGenerator:=false,isCoroutine:=false }
abbrev CX0:CXT:=fun _ _ _ _ _ _=>False
abbrev E0:XK:=fun _ _ _=>False
theorem pass0{X:Cx}:QcH CX0 X E0:=fun _ _ _ _ _ _ _ h=>h.elim
structure Fun(K:PySem.W.Frag)(x qual:Str)(st:Stmt)(f:Addr)(fd:FuncData):Prop where
 ex:∃(oc:Value)(od:Option Addr)(kV doc pm:Value)(an:Option Addr)(cdv ct:Value)(osl:Array (Option Value)),
  fd=PySem.W.fnOf x qual (Qcp st) (Qbc st) (Qd st) .none kV doc pm an cdv ct/\K.lookup f=some ⟨oc,od,.func fd,osl⟩/\PySem.W.codeIn K cdv qual=true
 kp:PySem.W.keepIn K (.ref f)=true
section
variable{P:Program}{w:World}{K:PySem.W.Frag}{mg:Str->Option Value}{base:Heap}
theorem Fun.ok{x qual:Str}{st:Stmt}{f:Addr}{fd:FuncData}{N ps:List Str}{k:Nat}{sp:Sp}(F:Fun K x qual st f fd)(S:Qm N ps (Qd st))(len:∀ vs H Q E,sp vs H Q E->vs.length=ps.length)
 (hbody:∀(cdv:Value)(A:Around)(outer:List Env)(s:Shared)(H:Hp)(vs:List V)(Q:VK)(E:XK),Room k (A.deeper (envOfC qual (Qd st) s.heap.objs.size f cdv))->sp vs H Q E->
  ∃ t,PSs (cxOf CX0 P w K mg base N qual (Qd st) f cdv A outer s H E).nox (Qbc st) t/\t { nx:=fun _ H'=>Q .non H',rt:=Q } (start N vs) H):FnOk P w K mg base CX0 (k+1) f fd ps sp:=by
 obtain⟨oc,od,kV,doc,pm,an,cdv,ct,osl,rfl,lk,hcd⟩:=F.ex
 refine fn_of lk hcd S len fun A outer s H vs Q E hr hsp=>?_
 obtain⟨t,h,q⟩:=hbody cdv A outer s H vs Q E hr hsp
 exact⟨t,h.nox,q⟩
end
section
variable{X:Cx}
end
theorem iteF{A B:Prop}(h:B):if false=true then A else B:=by
 rw[if_neg Bool.false_ne_true]
 exact h
theorem iteT{A B:Prop}(h:A):if true=true then A else B:=by
 rw[if_pos rfl]
 exact h
def Same(H H':Hp):Prop:=∀ b o,H b=some o->H' b=some o
theorem Same.refl(H:Hp):Same H H:=fun _ _ h=>h
theorem Same.trans{H H1 H2:Hp}(a:Same H H1)(b:Same H1 H2):Same H H2:=fun c o h=>b c o (a c o h)
theorem Same.free{H H':Hp}(e:Same H H'){l:Addr}(h:H' l=Option.none):H l=Option.none:=by
 cases q:H l with
 | none=>rfl
 | some o=>
  rw[e l o q]at h
  cases h
theorem Same.seq{K:PySem.W.Frag}{H H':Hp}{a:Addr}{xs:List V}(e:Same H H')(h:SqL K H a xs):SqL K H' a xs:=by
 rcases h with(h | ⟨o,h⟩) | h
 ·exact .inl (.inl (e _ _ h))
 ·exact .inl (.inr ⟨o,e _ _ h⟩)
 ·exact .inr h
end L2
namespace L2
open PySem PySem.Spec PyProof.Rows
section
variable{κ:Type}[DecidableEq κ]
def valV(kvs:List (κ×V))(k:κ):Option V:=(kvs.find? fun kv=>decide (kv.1=k)).map (·.2)
def putK(kvs:List (κ×V))(k:κ)(v:V):List (κ×V):=
 if (kvs.any fun kv=>decide (kv.1=k))=true then kvs.map (fun kv=>if kv.1=k then(kv.1,v) else kv) else kvs++[(k,v)]
theorem KV.any{kvs:List (κ×V)}{vs:List (κ×Value)}(r:KV kvs vs)(k:κ):(kvs.any fun kv=>decide (kv.1=k))=vs.any fun kv=>decide (kv.1=k):=by
 unfold KV at r
 induction r with
 | nil=>rfl
 | cons h t ih=>rw[List.any_cons,List.any_cons,ih,h.1]
theorem KV.length{kvs:List (κ×V)}{vs:List (κ×Value)}(r:KV kvs vs):kvs.length=vs.length:=Paired.length r
end
section
variable{P:Program}{w:World}{H:Hp}{h:Heap}{a:Addr}
end
def DGet(H:Hp)(a:Addr)(y:V)(r:Option V):Prop:=
 (∃ kvs k,Rd H a (.dK kvs)/\y=kV k/\r=valV kvs k)∨∃ kvs k b,Rd H a (.dT kvs)/\y=.ref b/\H b=some (.tup (k.map kV))/\r=valV kvs k
def DPut(H:Hp)(a:Addr)(y v:V)(H':Hp):Prop:=
 (∃ kvs k,H a=some (.dK kvs)/\y=kV k/\kvs.length<sizeLine/\H'=upd H a (.dK (putK kvs k v)))∨
 ∃ kvs k b,H a=some (.dT kvs)/\y=.ref b/\H b=some (.tup (k.map kV))/\kvs.length<sizeLine/\H'=upd H a (.dT (putK kvs k v))
theorem DGet.k{H:Hp}{a:Addr}{kvs:List (Key×V)}{k:Key}(e:H a=some (.dK kvs)):DGet H a (kV k) (valV kvs k):=.inl ⟨kvs,k,.inl e,rfl,rfl⟩
theorem DGet.t{H:Hp}{a b:Addr}{kvs:List (List Key×V)}{k:List Key}(e:H a=some (.dT kvs))(eb:H b=some (.tup (k.map kV))):DGet H a (.ref b) (valV kvs k):=.inr ⟨kvs,k,b,.inl e,rfl,eb,rfl⟩
theorem DPut.k{H:Hp}{a:Addr}{kvs:List (Key×V)}{k:Key}{v:V}(e:H a=some (.dK kvs))(hl:kvs.length<sizeLine):DPut H a (kV k) v (upd H a (.dK (putK kvs k v))):=.inl ⟨kvs,k,e,rfl,hl,rfl⟩
theorem DPut.t{H:Hp}{a b:Addr}{kvs:List (List Key×V)}{k:List Key}{v:V}(e:H a=some (.dT kvs))(eb:H b=some (.tup (k.map kV)))(hl:kvs.length<sizeLine):
 DPut H a (.ref b) v (upd H a (.dT (putK kvs k v))):=.inr ⟨kvs,k,b,e,rfl,eb,hl,rfl⟩
section
variable{X:Cx}{pins:List (Addr×Obj)}{σ:St}{H:Hp}{s:Shared}{a:Addr}{y v:V}{u r:Value}{o:Option V}{A:Around}{E:Value->Shared->Prop}
end
section
variable{X:Cx}{pins:List (Addr×Obj)}{σ:St}{H:Hp}{s:Shared}{a:Addr}{kvs:List (Key×V)}{k:Key}{u:Value}{A:Around}{E:Value->Shared->Prop}
end
section
variable{X:Cx}{o i e value:Expr}{pos pos' tpos:Pos}{td ty tv:TE}
end
section
variable{X:Cx}{pos:Pos}
end
section
variable{X:Cx}{pins:List (Addr×Obj)}{σ:St}{H:Hp}{s:Shared}{a:Addr}{y d:V}{u r:Value}{o:Option V}{A:Around}{E:Value->Shared->Prop}
end
section
variable{X:Cx}{o e f:Expr}{apos cpos:Pos}{td ty tx:TE}
end
section
variable{X:Cx}{pins:List (Addr×Obj)}{σ:St}{H:Hp}{s:Shared}{a:Addr}{kvs:List (Key×V)}{A:Around}{E:Value->Shared->Prop}
end
section
variable{X:Cx}{pins:List (Addr×Obj)}{σ:St}{H:Hp}{s:Shared}{a:Addr}{y:V}{u:Value}{A:Around}{E:Value->Shared->Prop}
end
end L2
namespace L2
open PySem PySem.Spec PyProof.Rows
structure FlyS(P:Program)(w:World)(l:List Env)(H:Hp)(s:Shared)(ea C t:Addr)(H':Hp)(B:Heap)(s':Shared):Prop where
 os:s'.os=s.os
 bare:AllBare s'.gens
 un:Un (frs l) [] H H' s.heap s'.heap
 kb:∀ b o,s.heap.get? b=some o->H b=none->b∉frs l->B.get? b=some o
 th:∀ b o,s.heap.get? b=some o->b∉frs l->∃ o',B.get? b=some o'
 hok:HOk P w H' B
 fly:Heap.FlyingW B l ea (.ref C) (.ref t) s'.heap
def CXR(P:Program)(w:World):CXT:=fun l H s E e s'=>∃ ea C t H' B,e=.ref ea/\FlyS P w l H s ea C t H' B s'/\E (.ref C) none H'
section
variable{P:Program}{w:World}{l:List Env}{H H':Hp}{s s':Shared}{ea C t:Addr}{B h':Heap}
end
section
variable{X:Cx}{pins:List (Addr×Obj)}{σ:St}{H1:Hp}{s1:Shared}{E:XK}{ea C:Addr}{vs:List Value}{h':Heap}{Ex:Value->Shared->Prop}{M:Model}
theorem Qd0(I:Inv X pins σ H1 s1):∀ b o,X.s₀.heap.get? b=some o->b∉X.fs->b∉frs X.stack:=fun b o e hb z=>by
 rcases List.mem_cons.mp (I.stkSub b z) with q | q
 ·have:=Heap.lt_size e
  rw[q]at this
  exact absurd (Nat.lt_of_lt_of_le this I.ok.above) (Nat.lt_irrefl _)
 ·exact hb q
theorem QsO(I:Inv X pins σ H1 s1):HOk X.prog X.w H1 (PySem.W.hideAll s1.heap (frs X.stack)):=fun a o e=>
 (I.hok a o e).stay (fun b u hb q=>PySem.W.hideAll_get _ q fun z=>by
  have:=I.stkFree b z
  rcases hb with rfl | hb
  ·rw[this]at e;cases e
  ·rw[this]at hb;cases hb) (fun _ q=>q) fun _ _ q=>q
theorem Qox(I:Inv X pins σ H1 s1):∀ b∈X.fs,∀ o,X.s₀.heap.get? b=some o->∀ vs,o.data≠.fields vs:=fun b hb o e=>by
 obtain⟨_,o',h1,h2⟩:=I.ok.funs.mem hb
 rw[e]at h1;cases h1
 exact h2
theorem Qpp(I:Inv X pins σ H1 s1)(hst:X.stack=X.env::X.outer)(hfr:X.env.frame=some X.env.locals)(hex:X.ex=[])(hx:Heap.MadeExcOf s1.heap h' ea (.ref C) vs)(hE:E (.ref C) none H1):
 wpAny M X.A (leaving X.env (.ref ea)) (fun _ s''=>CXR X.prog X.w X.outer X.H₀ X.s₀ E (.ref ea) s'') Ex { s1 with heap:=h' }:=by
 have hin:∀ env∈X.stack,∀ b,env.frame=some b->b∈frs X.stack:=fun env he b hb=>List.mem_filterMap.mpr ⟨env,he,hb⟩
 have st:=I.stack
 refine wpAny_leaves_madeW (base:=PySem.W.hideAll s1.heap (frs X.stack)) (h:=s1.heap) (env:=X.env) (outer:=X.outer) (by rw[← hst];exact I.ok.frames) hfr (fun b o q=>PySem.W.of_hideAll _ q)
  (by rw[← hst];exact PySem.W.funFrames_hide st hin) hx fun h2 t fl tp nt up=>?_
 have nx:∀ b:Addr,b∉X.ex:=fun b z=>by rw[hex]at z;cases z
 have kbB:∀ b o,X.s₀.heap.get? b=some o->X.H₀ b=none->b∉X.fs->(PySem.W.hideAll s1.heap (frs X.stack)).get? b=some o:=fun b o e n hb=>PySem.W.hideAll_get _ (I.base.keep b o e n hb (nx b)) (Qd0 I b o e hb)
 have thB:∀ b o,X.s₀.heap.get? b=some o->b∉X.fs->∃ o',(PySem.W.hideAll s1.heap (frs X.stack)).get? b=some o':=fun b o e hb=>by
  obtain⟨o',q⟩:=I.base.there b o e (nx b)
  exact⟨o',PySem.W.hideAll_get _ q (Qd0 I b o e hb)⟩
 have slot:∀ b o,X.s₀.heap.get? b=some o->X.H₀ b=none->b∈X.fs->∃ sl,h2.get? b=some { o with slots:=sl }:=fun b o e n hb=>by
  obtain⟨sl,q⟩:=I.base.slot b o e n hb (nx b)
  obtain⟨sl2,q2⟩:=up b _ (hx.keeps _ _ q) (Qox I b hb o e)
  exact⟨sl2,q2⟩
 refine⟨ea,C,t,H1,_,rfl,⟨I.os,I.bare,⟨fun b o e n hb _=>fl.1 b o (kbB b o e n hb),fun b o e n hb _=>slot b o e n hb,fun b o e n _=>I.base.free b o e n (nx b),fun b o e _=>?_,I.base.tups,I.base.frzs,I.base.tbls⟩,kbB,thB,QsO I,fl⟩,hE⟩
 by_cases hb:b∈X.fs
 ·obtain⟨sl,q⟩:=slot b o e (I.ok.frf b hb) hb
  exact⟨_,q⟩
 ·obtain⟨o',q⟩:=thB b o e hb
  exact⟨o',fl.1 b o' q⟩
theorem Qsj{s':Shared}{e:Value}(I:Inv X pins σ H1 s1)(hst:X.stack=X.env::X.outer)(hfr:X.env.frame=some X.env.locals)(hex:X.ex=[])(h:CXR X.prog X.w X.stack H1 s1 E e s'):
 wpAny M X.A (leaving X.env e) (fun _ s''=>CXR X.prog X.w X.outer X.H₀ X.s₀ E e s'') Ex s':=by
 obtain⟨ea,C,t,H',B,rfl,F,hE⟩:=h
 have fl:=F.fly
 rw[hst]at fl
 refine wpAny_leaves_onW (by rw[← hst];exact I.ok.frames) hfr fl fun h2 fl2 up=>?_
 have nx:∀ b:Addr,b∉X.ex:=fun b z=>by rw[hex]at z;cases z
 have nn:∀ b:Addr,b∉([]:List Addr):=fun b z=>by cases z
 have kbB:∀ b o,X.s₀.heap.get? b=some o->X.H₀ b=none->b∉X.fs->B.get? b=some o:=fun b o e n hb=>
  F.kb b o (I.base.keep b o e n hb (nx b)) (I.base.free b o e n (nx b)) (Qd0 I b o e hb)
 have thB:∀ b o,X.s₀.heap.get? b=some o->b∉X.fs->∃ o',B.get? b=some o':=fun b o e hb=>by
  obtain⟨o',q⟩:=I.base.there b o e (nx b)
  exact F.th b o' q (Qd0 I b o e hb)
 have slot:∀ b o,X.s₀.heap.get? b=some o->X.H₀ b=none->b∈X.fs->∃ sl,h2.get? b=some { o with slots:=sl }:=fun b o e n hb=>by
  obtain⟨sl,q⟩:=I.base.slot b o e n hb (nx b)
  have hs:b∈frs X.stack:=by
   rw[hst]
   obtain⟨env,h1,h2⟩:=List.mem_filterMap.mp hb
   exact List.mem_filterMap.mpr ⟨env,List.mem_cons_of_mem _ h1,h2⟩
  obtain⟨sl1,q1⟩:=F.un.slot b _ q (I.base.free b o e n (nx b)) hs (nn b)
  obtain⟨sl2,q2⟩:=up b _ q1 (Qox I b hb o e)
  exact⟨sl2,q2⟩
 refine⟨ea,C,t,H',B,rfl,⟨F.os.trans I.os,F.bare,⟨fun b o e n hb _=>fl2.1 b o (kbB b o e n hb),fun b o e n hb _=>slot b o e n hb,fun b o e n _=>?_,fun b o e _=>?_,fun b xs e=>F.un.tups b xs (I.base.tups b xs e),fun b o u e=>F.un.frzs b o u (I.base.frzs b o u e),fun b ps e=>?_⟩,kbB,thB,F.hok,fl2⟩,hE⟩
 ·obtain⟨o',q⟩:∃ o',s1.heap.get? b=some o':=I.base.there b o e (nx b)
  exact F.un.free b o' q (I.base.free b o e n (nx b)) (nn b)
 ·by_cases hb:b∈X.fs
  ·obtain⟨sl,q⟩:=slot b o e (I.ok.frf b hb) hb
   exact⟨_,q⟩
  ·obtain⟨o',q⟩:=thB b o e hb
   exact⟨o',fl2.1 b o' q⟩
 ·obtain⟨m1,q1⟩:=I.base.tbls b ps e
  obtain⟨m2,q2⟩:=F.un.tbls b _ q1
  exact⟨m1++m2,by rw[q2,Array.append_assoc]⟩
end
section
variable{P:Program}{w:World}{K:PySem.W.Frag}{mg:Str->Option Value}{base:Heap}{N:List Str}{qual:Str}{scope:Scope}{f:Addr}{cd:Value}{A:Around}{outer:List Env}{s:Shared}{H:Hp}{E:XK}
theorem passR:QcH (CXR P w) (cxOf (CXR P w) P w K mg base N qual scope f cd A outer s H E) E:=fun pins σ H1 s1 e s' I h=>Qsj I rfl rfl rfl h
end
end L2
namespace L2
open PySem PySem.Spec PyProof.Rows
section
variable{X:Cx}{C:Addr}{E:XK}{x:Str}{e₀:Expr}{rest:List Expr}{ta:TA}{np cpos pos:Pos}
end
end L2
namespace L2
open PySem PySem.Spec PyProof.Rows
def exO(ea C:Addr):HO:=.ext fun h=>∃ o vs,h.get? ea=some o/\o.cls=.ref C/\o.data=.fields vs
section
variable{X:Cx}{pins:List (Addr×Obj)}{σ:St}{H H':Hp}{s s':Shared}{ea C t:Addr}{B:Heap}
end
section
variable{X:Cx}{pins:List (Addr×Obj)}{σ:St}{H H':Hp}{s s':Shared}{ea C DD t:Addr}{B:Heap}{x n:Str}{np hpos:Pos}{b₀:Stmt}{suite:List Stmt}{rest:List ExceptHandler}{D:Ends}{Ex:Value->Shared->Prop}{i:Nat}{ts:TS}
end
end L2
namespace L2
open PySem PySem.Spec PyProof.Rows
abbrev TXS:=Ends->St->Hp->(St->XK)->Prop
section
variable{X:Cx}{k:Nat}{f:Addr}{fd:FuncData}{ps:List Str}{sp:Sp}{dvs:List V}{ds:List Value}{x:Str}{p pos:Pos}{e:Expr}{es:List Expr}{ta:TA}
theorem PA.nox{es:List Expr}{t:TA}(h:PA X.nox es t){pos:Pos}{pins:List (Addr×Obj)}{s:Shared}{σ:St}{H:Hp}{Q:List V->Hp->Prop}{E:Value->Shared->Prop}(I:Inv X pins σ H s)(q:t σ H Q):
 wpAny (model X.prog X.w) X.A (spliced (backTo pos (starEach es X.env))) (AP X pins σ Q) E s:=
 wpAny_mono (h pos pins s σ H Q (I.wish _) q) (fun _ _ ⟨v,H',I',r,q⟩=>⟨v,H',I'.unwish,r,q⟩) fun _ _ z=>False.elim z
variable{t u:TXS}{te:TX}{st:Stmt}{rest:List Stmt}{i:Nat}{px:Pos}
end
end L2
namespace L2
open PySem PySem.Spec PyProof.Rows
def ExAt(x D:Addr)(h:Heap):Prop:=∃ o vs,h.get? x=some o/\o.cls=.ref D/\o.data=.fields vs
section
open PySem.W PySem.Calls Builtin Builtin.ObjectAttr Builtin.Getset_descriptor
variable{K:PySem.W.Frag}{x D:Addr}
theorem Qfs{M:Model}{h:Heap}(I:ExAt x D h):Looks M h (typeOf (.ref x)) (.ref D):=by
 obtain⟨o,vs,h1,h2,_⟩:=I
 exact h2 ▸ (Looks.ld h1).andThen .now
theorem Qh1{M:Model}{h:Heap}(X:K.In h){name:Str}{a g:Value}(ha:findIn K (.ref D) name=some (some a))(hg:specialIn K a "__get__"=some (some g))(ht:takesIn K a=some true):
 Looks M h (find (.ref x) (.ref D) name) (.bind g a):=by
 have L1:=looks_findIn (M:=M) X ha
 have L2:Looks M h (getOf (some a)) (some g):=looks_specialIn X hg
 have L3:=looks_takesIn (M:=M) X ht
 exact L1.andThen (L2.andThen ((show Looks M h (dataDescriptor? (some a) (some g)) (some (g,a)) from L3.andThen .now).andThen (Looks.tag .now)))
variable{prog:Program}{w:World}{A:Around}{E:Value->Shared->Prop}{s:Shared}{name:Str}
theorem QrP{M:Model}{nameV:Value}{Q:Unit->Shared->Prop}(X:K.In s.heap)(I:ExAt x D s.heap)(hb:mroIn K D (.type "BaseException")=some true)(hq:Q () s):wpAny M A (checkBuiltinCall "BaseException.__getattribute__" ⟨[.ref x,nameV],[]⟩) Q E s:=by
 obtain⟨hh,g,dr,t,os⟩:=s
 have hk:builtinKind "BaseException.__getattribute__"=some .slot:=dk
 have hsplit:splitId "BaseException.__getattribute__"=some ("BaseException","__getattribute__"):=dk
 have L0:=Qfs (M:=M) I
 have L1:=looks_mroIn (M:=M) X hb
 have ha:=F.args_bexc_ga (.ref x) nameV
 simp only[checkBuiltinCall,hk,hsplit]
 refine wpAny_bind ?_
 unfold isInstance
 repeat (first | lk | wp_step)
 exact hq
theorem Quv{R:Result->Shared->Prop}{tp:Value}(X:K.In s.heap)(I:ExAt x D s.heap)(hm:mroIn K D (.type "object")=some true)
 (h:R (.ok (.ret (.ref D))) s):codeAny (model prog w) A (.call (.builtin "getset_descriptor.__get__") ⟨[.builtin "object.__class__",.ref x,tp],[]⟩) R s:=by
 obtain⟨hh,g,dr,t,os⟩:=s
 have L0:=Qfs (M:=model prog w) I
 have L1:=looks_mroIn (M:=model prog w) X hm
 refine codeAny_call_builtin KF.slot_gs.plain KF.entry_gs (KF.slot_gs.check _ _ _ _ _ _ _ _ KF.type_class (KF.args_gs _ _ _) ?_)
 unfold Builtin.«getset_descriptor.__get__» descrGet
 rw[dga_obj]
 refine wpAny_bind (wpAny_pure ?_)
 unfold descrGetter descrCheckInstance descrNameAndClass isInstance
 simp only[KF.owner_class]
 repeat lk
 refine⟨Code.quiet_builtin _ (dk),codeAny_builtin KF.entry_class ?_⟩
 unfold Builtin.«object.__class__» shownTypeOf
 repeat lk
 exact h
theorem Qr4{g a:Value}{tk:Tok}{Q:Fin->Shared->Prop}(X:K.In s.heap)(I:ExAt x D s.heap)(ha:findIn K (.ref D) "__class__"=some (some (.builtin "object.__class__")))
 (hn:specialIn K (.builtin "object.__class__") "__get__"=some (some (.builtin "getset_descriptor.__get__"))) (ht:takesIn K (.builtin "object.__class__")=some true) (hm:mroIn K D (.type "object")=some true)
 (hq:Q (.done (.ret (.ref D))) s):wpAny (model prog w) A (Builtin.«object.__getattribute__» ⟨[.ref x,.str "__class__" tk],[]⟩) Q E s:=by
 have L3:=Qh1 (x:=x) (M:=model prog w) X ha hn ht
 have L0:=Qfs (M:=model prog w) I
 obtain⟨hh,gg,d,t,os⟩:=s
 refine wpAny_bind (wpAny_pure ?_)
 refine wpAny_bind (wpAny_pure (wpAny_bind (L0.at (wpAny_bind (L3.at ?_)))))
 show wpAny _ _ (holding [_] (call (.builtin "getset_descriptor.__get__") [.builtin "object.__class__",.ref x,.ref D])>>=ret) _ _ _
 exact wpAny_bind (wpAny_holding (wpAny_call (Quv (s:=⟨hh,gg,d,t,os⟩) X I hm (wpAny_pure hq))))
theorem QsR{Q:Option Value->Shared->Prop}(X:K.In s.heap)(I:ExAt x D s.heap)(g1:findIn K (.ref D) "__getattribute__"=some (some (.builtin "BaseException.__getattribute__")))(hb:mroIn K D (.type "BaseException")=some true)
 (g2:findIn K (.ref D) "__getattr__"=some none) (ha:findIn K (.ref D) "__class__"=some (some (.builtin "object.__class__")))
 (hn:specialIn K (.builtin "object.__class__") "__get__"=some (some (.builtin "getset_descriptor.__get__"))) (ht:takesIn K (.builtin "object.__class__")=some true) (hm:mroIn K D (.type "object")=some true)
 (h:Q (some (.ref D)) { s with toks:=s.toks+1 }):wpAny (model prog w) A (getAttr? (.ref x) "__class__") Q E s:=by
 obtain⟨hh,g,d,t,os⟩:=s
 have L0:=Qfs (M:=model prog w) I
 have L1:=looks_findIn (M:=model prog w) X g1
 have L2:=looks_findIn (M:=model prog w) X g2
 have f3:=PySem.F.attr_ValueError.ga.bind (.ref x)
 have hx2:(Value.builtin "BaseException.__getattribute__" == Value.builtin "object.__getattribute__")=false:=dk
 have hx1:(onTheHeap (Value.ref D)&&Value.builtin "BaseException.__getattribute__" == Value.builtin "object.__getattribute__")=false:=by rw[hx2];rfl
 unfold getAttr? getAttrBy? getAttrBy
 refine wpAny_bind (wpAny_mkText (wpAny_bind (wpAny_attempt (wpAny_holding (wpAny_bind (L0.at (wpAny_bind (L1.at ?_))))))))
 show wpAny _ _ (if (onTheHeap (Value.ref D)&&Value.builtin "BaseException.__getattribute__" == Value.builtin "object.__getattribute__")=true then _ else getAttrByItsOwn _ _ _ _ _ _) _ _ _
 rw[hx1,if_neg (by decide)]
 unfold getAttrByItsOwn
 refine wpAny_bind ?_
 show wpAny _ _ (typeLookup (.ref D) "__getattr__") _ _ _
 refine L2.at ?_
 refine wpAny_bind (wpAny_attempt ?_)
 refine wpAny_holding ?_
 show wpAny _ _ (boundAndCalled (.builtin "BaseException.__getattribute__") (.ref x) _) _ _ _
 unfold boundAndCalled
 refine wpAny_bind (wpAny_of_eq f3 ?_)
 refine wpAny_call (codeAny_call_builtin PySem.F.attr_ValueError.ga.plain F.entry_bexc_ga (QrP (s:=⟨hh,g,d,t+1,os⟩) X I hb (Qr4 (g:=.none) (a:=.none) (s:=⟨hh,g,d,t+1,os⟩) X I ha hn ht hm ?_)))
 show wpAny _ _ (handedOut (.ref D)) _ _ _
 exact handed_on rfl (wpAny_pure h)
structure ExCls(K:PySem.W.Frag)(D:Addr):Prop where
 cl:(clsIn K D).isSome=true
 g1:findIn K (.ref D) "__getattribute__"=some (some (.builtin "BaseException.__getattribute__"))
 hb:mroIn K D (.type "BaseException")=some true
 g2:findIn K (.ref D) "__getattr__"=some none
 ha:findIn K (.ref D) "__class__"=some (some (.builtin "object.__class__"))
 hn:specialIn K (.builtin "object.__class__") "__get__"=some (some (.builtin "getset_descriptor.__get__"))
 htk:takesIn K (.builtin "object.__class__")=some true
 hm:mroIn K D (.type "object")=some true
theorem QrQ(e:ExCls K D):KitX K (.ref x) (.ref D) (ExAt x D) where
 ty:=fun _ _ _ I=>Qfs I
 it:=fun _ _ X _=>by
  obtain⟨cdD,hcD⟩:=Option.isSome_iff_exists.mp e.cl
  unfold clsIn at hcD
  split at hcD
  ·rename_i c' d' cd' sl' ho
   intro A' Q' E' s' k q
   unfold isType loadHead
   exact wpAny_bind (wpAny_loadPart (k _ _ (X _ _ ho)) (wpAny_pure q))
  ·cases hcD
 ne:=fun h tp dd its n sl X htp=>by
  obtain⟨cdD,hcD⟩:=Option.isSome_iff_exists.mp e.cl
  refine Bool.eq_false_iff.mpr fun q=>?_
  have e:D=tp:=Value.ref.inj (beq_iff_eq.mp q)
  subst e
  unfold clsIn at hcD
  split at hcD
  ·rename_i c' d' cd' sl' ho
   have z:=(X _ _ ho).symm.trans htp
   cases z
  ·cases hcD
 ca:=fun X I k=>QsR X I e.g1 e.hb e.g2 e.ha e.hn e.htk e.hm k
end
end L2
set_option maxHeartbeats 1000000
namespace L2
open PySem PySem.Spec PyProof.Rows
section
variable{prog:Program}{w:World}{A:Around}{R:Result->Shared->Prop}{s:Shared}
theorem QkY{elt target iter:Expr}{ifs:List Expr}{scope:Scope}{pos:Pos}{it acc:Value}{env:Env}(I:Nat->Shared->Prop)(NB:Value->Shared->Prop)(hNB:∀ e s',NB e s'->notedBy (model prog w) A env (fun e s'=>R (.error e) s') e s')
 (turn:∀ n s,I n s->wpAny (model prog w) A (pyNext it) (fun r s₁=>match r with
  | none=>R (.ok .next) s₁
  | some v=>wpAny (model prog w) A (letOwnedTupleGo target it v) (fun _ s₁'=>wpAny (model prog w) A (assign target env v) (fun _ s₂ =>
   wpAny (model prog w) A (forIn ifs true fun c r=>if r=true then do let ok ← isTrue c env (eval c env);pure (ForInStep.yield ok) else pure (ForInStep.yield r)) (fun ok s₃ =>
    if ok=true then wpAny (model prog w) A (eval elt env) (fun x s₄ =>
     wpAny (model prog w) A (call (.builtin "list.append") [acc,x]) (fun _ s₅ => ∃ m,m<n/\I m s₅) NB s₄) NB s₃
    else ∃ m,m<n/\I m s₃) NB s₂) NB s₁') NB s₁) NB s)
 (n:Nat) (h:I n s):
 codeAny (model prog w) A (.compLoop (.ListComp elt [⟨target,iter,ifs,0⟩] scope pos) 0 it acc env) R s:=by
 refine codeAny_loop rfl I (fun n s hI=>?_) n h
 show wpAny _ A ((compTurn (.ListComp elt [⟨target,iter,ifs,0⟩] scope pos) 0 it acc env).onRaise (fun x=>do noteFrame x env;theTreesLotGoes x)) _ _ s
 refine wpAny_noted ?_
 rw[compTurn_list]
 refine wpAny_bind (wpAny_standAt (wpAny_bind (wpAny_mono (turn n s hI) (fun r s₁ h₁=>?_) hNB)))
 cases r with
 | none=>exact wpAny_pure h₁
 | some v=>
  refine wpAny_bind (wpAny_mono h₁ (fun _ s₁' h₁'=>?_) hNB)
  refine wpAny_bind (wpAny_mono h₁' (fun _ s₂ h₂ => wpAny_bind (wpAny_mono h₂ (fun ok s₃ h₃ => ?_) hNB)) hNB)
  cases ok with
  | false=>exact wpAny_pure ⟨rfl,h₃⟩
  | true=>
   exact wpAny_bind (wpAny_bind (wpAny_mono h₃ (fun x s₄ h₄ => wpAny_bind (wpAny_mono h₄ (fun _ s₅ h₅ => wpAny_pure (wpAny_pure ⟨rfl,h₅⟩)) hNB)) hNB))
end
def QbB(scope outer:Scope):Scope:=
 { scope with names:=scope.names.map fun(n,k)=>if (k == .free&&outer.kind == .function&&outer.names.lookup n == some .cell) then(n,.cell) else(n,k) }
theorem QfG(c:Str->NameKind->Bool)(x:Str):∀ names:List (Str×NameKind),(names.map fun(n,k)=>if c n k=true then(n,NameKind.cell) else(n,k)).lookup x=(names.lookup x).map fun k=>if c x k=true then NameKind.cell else k
 | []=>rfl
 | (n,k)::r=>by
  have ih:=QfG c x r
  show List.lookup x ((if c n k=true then(n,NameKind.cell) else(n,k))::_)=_
  by_cases hx:x=n
  ·subst hx
   by_cases hc:c x k=true
   ·rw[if_pos hc,List.lookup_cons_self,List.lookup_cons_self];simp[hc]
   ·rw[if_neg hc,List.lookup_cons_self,List.lookup_cons_self];simp[hc]
  ·have hb:(x == n)=false:=by simpa using hx
   by_cases hc:c n k=true
   ·rw[if_pos hc,List.lookup_cons,List.lookup_cons,hb];exact ih
   ·rw[if_neg hc,List.lookup_cons,List.lookup_cons,hb];exact ih
theorem QeY(scope outer:Scope)(x:Str):(QbB scope outer).names.lookup x=(scope.names.lookup x).map fun k=>if (k == .free&&outer.kind == .function&&outer.names.lookup x == some .cell)=true then NameKind.cell else k:=
 QfG (fun n k=>k == .free&&outer.kind == .function&&outer.names.lookup n == some .cell) x scope.names
theorem QjY{scope outer:Scope}{x:Str}(h:scope.names.lookup x=some .free):(QbB scope outer).names.lookup x=some .cell∨(QbB scope outer).names.lookup x=some .free:=by
 rw[QeY,h]
 show some (if _ then _ else _)=_∨some (if _ then _ else _)=_
 split
 ·exact .inl rfl
 ·exact .inr rfl
theorem Qkl{scope outer:Scope}{x:Str}(h:(QbB scope outer).names.lookup x=some .cell∨(QbB scope outer).names.lookup x=some .free):scope.names.lookup x=some .cell∨scope.names.lookup x=some .free:=by
 rw[QeY]at h
 cases e:scope.names.lookup x with
 | none=>rw[e]at h;rcases h with h | h<;>cases h
 | some k=>
  rw[e]at h
  cases k with
  | free=>exact .inr rfl
  | cell=>exact .inl rfl
  | _=>rcases h with h | h<;>cases h
def Qad(env:Env):List (Str×NameKind)->List (Str×Addr)->List (Str×Addr)
 | [],acc=>acc
 | (n,k)::r,acc=>if (k == .free)=true then Qad env r ((n,(env.cells.lookup n).getD 0)::acc) else Qad env r acc
theorem QhU{scope:Scope}{env:Env}(h:∀ y∈scope.names,y.2=.free->(env.cells.lookup y.1).isSome=true):closureFor scope env=pure (Qad env scope.names []):=by
 have go:∀(names:List (Str×NameKind))(acc:List (Str×Addr)),(∀ y∈names,y.2=.free->(env.cells.lookup y.1).isSome=true)->
  (forIn names acc fun x r=>if (x.2 == NameKind.free)=true then(cellOf env x.1>>=fun a=>pure (ForInStep.yield ((x.1,a)::r))) else pure (ForInStep.yield r):Sem (List (Str×Addr)))=pure (Qad env names acc):=by
  intro names
  induction names with
  | nil=>intro acc _;rfl
  | cons y r ih=>
   intro acc hy
   obtain⟨n,k⟩:=y
   rw[List.forIn_cons]
   unfold Qad
   by_cases hk:(k == NameKind.free)=true
   ·obtain⟨c,hc⟩:=Option.isSome_iff_exists.mp (hy (n,k) List.mem_cons_self (beq_iff_eq.mp hk))
    have e:cellOf env n=pure c:=by unfold cellOf;rw[show env.cells.lookup n=some c from hc]
    simp only[hk,if_true,e]
    rw[show(env.cells.lookup n).getD 0=c from by rw[show env.cells.lookup n=some c from hc];rfl]
    exact ih _ fun y hm=>hy y (List.mem_cons_of_mem _ hm)
   ·simp only[hk]
    exact ih _ fun y hm=>hy y (List.mem_cons_of_mem _ hm)
 have e:=go scope.names [] h
 unfold closureFor
 exact congrArg (fun m=>m>>=fun s=>(pure s:Sem (List (Str×Addr)))) e
theorem Qd3{env:Env}{p:Str×Addr}:∀{names:List (Str×NameKind)}{acc:List (Str×Addr)},p∈Qad env names acc->p∈acc∨p.2=(env.cells.lookup p.1).getD 0/\∃ y∈names,y.1=p.1/\y.2=.free
 | [],_,h=>.inl h
 | (n,k)::r,acc,h=>by
  unfold Qad at h
  split at h
  ·rename_i hk
   rcases Qd3 h with h | ⟨h,y,hy,e⟩
   ·rcases List.mem_cons.mp h with h | h
    ·subst h;exact .inr ⟨rfl,(n,k),List.mem_cons_self,rfl,beq_iff_eq.mp hk⟩
    ·exact .inl h
   ·exact .inr ⟨h,y,List.mem_cons_of_mem _ hy,e⟩
  ·rcases Qd3 h with h | ⟨h,y,hy,e⟩
   ·exact .inl h
   ·exact .inr ⟨h,y,List.mem_cons_of_mem _ hy,e⟩
theorem Qd4{env:Env}{x:Str}:∀{names:List (Str×NameKind)}{acc:List (Str×Addr)},(acc.lookup x).isSome=true∨(∃ y∈names,y.1=x/\y.2=.free)->((Qad env names acc).lookup x).isSome=true
 | [],_,h=>h.elim id fun⟨_,hy,_⟩=>nomatch hy
 | (n,k)::r,acc,h=>by
  unfold Qad
  split
  ·rename_i hk
   refine Qd4 ?_
   rcases h with h | ⟨y,hy,e1,e2⟩
   ·refine .inl ?_
    rw[List.lookup_cons]
    split
    ·rfl
    ·exact h
   ·rcases List.mem_cons.mp hy with rfl | hy
    ·refine .inl ?_
     have e1:n=x:=e1
     subst e1
     rw[List.lookup_cons_self];rfl
    ·exact .inr ⟨y,hy,e1,e2⟩
  ·rename_i hk
   refine Qd4 ?_
   rcases h with h | ⟨y,hy,e1,e2⟩
   ·exact .inl h
   ·rcases List.mem_cons.mp hy with rfl | hy
    ·have e2:k=.free:=e2
     subst e2
     exact absurd rfl hk
    ·exact .inr ⟨y,hy,e1,e2⟩
theorem QaH{α:Type}{l:List (Str×α)}{x:Str}{c:α}(h:l.lookup x=some c):(x,c)∈l:=PySem.mem_of_lookup h
theorem QhS{p:Str×Addr}:∀{names:List (Str×NameKind)}{n:Nat}{acc:List (Str×Addr)},p∈cellsFrom n names acc->p∈acc∨n<=p.2
 | [],_,_,h=>.inl h
 | (y,k)::r,n,acc,h=>by
  unfold cellsFrom at h
  split at h
  ·rcases QhS h with h | h
   ·rcases List.mem_cons.mp h with h | h
    ·subst h;exact .inr (Nat.le_refl _)
    ·exact .inl h
   ·exact .inr (Nat.le_of_succ_le h)
  ·exact QhS h
theorem Ql1:∀{names:List (Str×NameKind)}{n:Nat}{acc:List (Str×Addr)},(∀ p∈acc,p.2<n)->(∀ p∈acc,∀ q∈acc,p.2=q.2->p.1=q.1)->∀ p∈cellsFrom n names acc,∀ q∈cellsFrom n names acc,p.2=q.2->p.1=q.1
 | [],_,_,_,h=>h
 | (y,k)::r,n,acc,hl,hi=>by
  unfold cellsFrom
  split
  ·refine Ql1 (fun p hp=>?_) fun p hp q hq e=>?_
   ·rcases List.mem_cons.mp hp with rfl | hp
    ·exact Nat.lt_succ_self _
    ·exact Nat.lt_succ_of_lt (hl p hp)
   ·rcases List.mem_cons.mp hp with rfl | hp<;>rcases List.mem_cons.mp hq with rfl | hq
    ·rfl
    ·exact absurd e (Nat.ne_of_gt (hl q hq))
    ·exact absurd e (Nat.ne_of_lt (hl p hp))
    ·exact hi p hp q hq e
  ·exact Ql1 hl hi
theorem Qi7:∀{names:List (Str×NameKind)}{h:Heap}{acc:List (Str×Addr)},(∀ p∈acc,∃ v,h.IsCell p.2 v)->∀ p∈cellsFrom h.objs.size names acc,∃ v,(pushCells h names).IsCell p.2 v
 | [],_,_,h=>h
 | (y,k)::r,h,acc,hc=>by
  unfold cellsFrom pushCells
  split
  ·have:=Qi7 (names:=r) (h:=h.push { cls:=.type "cell",data:=.cell none }) (acc:=(y,h.objs.size)::acc) fun p hp=>by
    rcases List.mem_cons.mp hp with rfl | hp
    ·exact⟨none,_,Heap.get?_push_size _ rfl,rfl⟩
    ·obtain⟨v,q⟩:=hc p hp
     exact⟨v,q.keeps fun b o e=>Heap.get?_push_of_some _ e⟩
   rwa [Heap.size_push]at this
  ·exact Qi7 hc
theorem QiK{x:Str}:∀{names:List (Str×NameKind)}{n:Nat}{acc:List (Str×Addr)},(∀ y∈names,y.1=x->y.2=.free)->(cellsFrom n names acc).lookup x=acc.lookup x
 | [],_,_,_=>rfl
 | (y,k)::r,n,acc,h=>by
  unfold cellsFrom
  split
  ·rename_i hk
   rw[QiK fun z hz=>h z (List.mem_cons_of_mem _ hz),List.lookup_cons]
   split
   ·rename_i hb
    have hx:x=y:=beq_iff_eq.mp hb
    have:=h (y,k) List.mem_cons_self hx.symm
    have this:k=.free:=this
    subst this
    exact absurd hk (by decide)
   ·rfl
  ·exact QiK fun z hz=>h z (List.mem_cons_of_mem _ hz)
def Qla(scope:Scope)(cl:List (Str×Addr))(L:Addr)(env:Env):Env:=
 { scope:=QbB scope env.scope,locals:=L,globals:=env.globals,cells:=cellsFrom (L+1) scope.names cl,qual:=env.qual,func:=none,code:=env.code,frame:=env.frame,builtins:=env.builtins }
theorem QtQ{M:Model}{A:Around}{E:Value->Shared->Prop}{s:Shared}{scope:Scope}{cl:List (Str×Addr)}{env:Env}{Q:Env->Shared->Prop}
 (h:∀ c,{ c with scope:=relabel scope env }=Qla scope cl s.heap.objs.size env->c.locals=s.heap.objs.size->Q c { s with heap:=pushCells (s.heap.push { cls:=.type "dict",data:=.dict #[] }) scope.names }):
 wpAny M A (newFunctionEnv scope env.globals cl [] env.qual none .none (some env)) Q E s:=by
 simp only[newFunctionEnv,Option.isSome_some,if_true]
 refine wpAny_bind (wpAny_alloc ?_)
 refine wpAny_bind (wpAny_layCells _ (fun name kind cells=>by cases hkc:kind == NameKind.cell<;>simp[hkc]) _ _ _ _ ?_)
 rw[show({ s with heap:=s.heap.push { cls:=.type "dict",data:=.dict #[] } }:Shared).heap.objs.size=s.heap.objs.size+1 from Heap.size_push ..]
 refine wpAny_bind (wpAny_pure (wpAny_pure (h _ ?_ rfl)))
 rfl
def capt(js:List (Option Nat))(σ:St):St:=js.map fun j=>j.bind fun j=>(σ[j]?).join
structure QC(N':List Str)(js:List (Option Nat))(scope outer:Scope)(N:List Str):Prop where
 kind:scope.kind=.function
 uniq:∀ y∈scope.names,scope.names.lookup y.1=some y.2
 nd:N'.Nodup
 len:js.length=N'.length
 free:∀ y∈scope.names,y.2=.free->outer.names.lookup y.1=some .cell∨outer.names.lookup y.1=some .free
 cap:((N'.zip js).all fun p=>match p.2 with
  | none=>true
  | some j=>decide (N[j]?=some p.1)&&decide (scope.names.lookup p.1=some .free))=true
theorem QC.capOf{N':List Str}{js:List (Option Nat)}{scope outer:Scope}{N:List Str}(S:QC N' js scope outer N){i j:Nat}{x:Str}(h1:N'[i]?=some x)(h2:js[i]?=some (some j)):
 N[j]?=some x/\scope.names.lookup x=some .free/\∀ y∈scope.names,y.1=x->y.2=.free:=by
 have h:=List.all_eq_true.mp S.cap (x,some j) (by
  refine List.mem_of_getElem? (i:=i) ?_
  rw[List.getElem?_zip_eq_some]
  exact⟨h1,h2⟩)
 simp only[Bool.and_eq_true,decide_eq_true_eq]at h
 exact⟨h.1,h.2,fun y hy e=>by
  have:=S.uniq y hy
  rw[e,h.2]at this
  exact(Option.some.inj this).symm⟩
theorem QC.names{N':List Str}{js:List (Option Nat)}{scope outer:Scope}{N:List Str}(S:QC N' js scope outer N):∀ y∈scope.names,y.2=.local->scope.names.lookup y.1=some .local:=fun y hy e=>by
 rw[S.uniq y hy,e]
def cxC(X:Cx)(N':List Str)(scope:Scope)(fp:List Addr)(s:Shared)(H:Hp):Cx:=
 { X with N:=N',s₀:=s,H₀:=H,env:=Qla scope (Qad X.env scope.names []) s.heap.objs.size X.env,outer:=X.stack,ex:=fp,
          fn:=fun x=>match scope.names.lookup x with | some .cell=>true | _=>false,pn:=[],xe:=fun _ _=>False }
theorem Qr1{X:Cx}{N':List Str}{js:List (Option Nat)}{scope:Scope}{pins:List (Addr×Obj)}{σ:St}{H:Hp}{s:Shared}{fp:List Addr}(S:QC N' js scope X.env.scope X.N)(I:Inv X pins σ H s)(hf:∀ b∈fp,FpOk X pins H b)
 (hlt:∀ b∈fp,b<s.heap.objs.size):
 Inv (cxC X N' scope fp s H) [] (capt js σ) H { s with heap:=pushCells (s.heap.push { cls:=.type "dict",data:=.dict #[] }) scope.names }:=by
 have hk:∀ b o,s.heap.get? b=some o->(pushCells (s.heap.push { cls:=.type "dict",data:=.dict #[] }) scope.names).get? b=some o:=fun b o e=>pushCells_keeps _ _ b o (Heap.get?_push_of_some _ e)
 have sz:(s.heap.push { cls:=.type "dict",data:=.dict #[] }).objs.size=s.heap.objs.size+1:=Heap.size_push ..
 -- captured cells stand in the outer frame
 have out:∀ x,(∃ y∈scope.names,y.1=x/\y.2=.free)->∃ c,X.env.cells.lookup x=some c:=fun x ⟨y,hy,e1,e2⟩=>by
  subst e1
  exact I.ok.has y.1 (S.free y hy e2)
 have clm:∀ p∈Qad X.env scope.names [],X.env.cells.lookup p.1=some p.2:=fun p hp=>by
  rcases Qd3 hp with h | ⟨h,hy⟩
  ·cases h
  ·obtain⟨c,hc⟩:=out p.1 hy
   rw[hc]at h ⊢
   rw[h];rfl
 have cllt:∀ p∈Qad X.env scope.names [],p.2<s.heap.objs.size:=fun p hp=>by
  obtain⟨v,q⟩:=I.cell p.1 p.2 (clm p hp)
  exact q.lt
 have cin:∀ x c,(cellsFrom (s.heap.objs.size+1) scope.names (Qad X.env scope.names [])).lookup x=some c->X.env.cells.lookup x=some c∨s.heap.objs.size+1<=c:=fun x c e=>by
  rcases QhS (QaH e) with h | h
  ·exact .inl (clm _ h)
  ·exact .inr h
 have capL:∀ x,scope.names.lookup x=some .free->(∀ y∈scope.names,y.1=x->y.2=.free)->(cellsFrom (s.heap.objs.size+1) scope.names (Qad X.env scope.names [])).lookup x=X.env.cells.lookup x:=fun x hx hy=>by
  rw[QiK hy]
  have hs:=Qd4 (env:=X.env) (x:=x) (names:=scope.names) (acc:=[]) (.inr ⟨_,QaH hx,rfl,rfl⟩)
  obtain⟨c,hc⟩:=Option.isSome_iff_exists.mp hs
  rw[hc,clm _ (QaH hc)]
 refine⟨⟨I.ok.mod,S.kind,I.ok.glob,I.ok.blt,Nat.le_refl _,fun x y c h1 h2=>?_,fun x hx=>?_,fun x c hx h=>?_,I.ok.hd,I.ok.frames,.inl rfl,fun b hb=>?_,I.bs,Nat.le_trans I.ok.bsz I.sz,fun b o e hb=>?_,fun b hb hz=>?_,I.stack,I.stkFree⟩,
  rfl,I.bare,Un.kept hk,?_,fun x c h=>?_,I.hok.fresh (Nat.le_refl _),fun x c h=>?_,fun p hp=>absurd (show p∈([]:List (Addr×Obj)) from hp) (by simp),I.hok.kept hk,?_⟩
 ·refine Ql1 (names:=scope.names) (n:=s.heap.objs.size+1) (acc:=Qad X.env scope.names []) (fun p hp=>Nat.lt_succ_of_lt (cllt p hp)) (fun p hp q hq e=>?_) (x,c) (QaH h1) (y,c) (QaH h2) rfl
  have a:=clm p hp
  have b:=clm q hq
  rw[← e]at b
  exact I.ok.inj _ _ _ a b
 ·have hx':=Qkl (show(QbB scope X.env.scope).names.lookup x=some .cell∨_ from hx)
  refine Option.isSome_iff_exists.mp (PySem.W.cellsFrom_some scope.names _ _ ?_)
  rcases hx' with h | h
  ·exact .inl h
  ·exact .inr (Qd4 (.inr ⟨_,QaH h,rfl,rfl⟩))
 ·rcases QhS (QaH h) with hm | hm
  ·-- an own cell's name is captured too: its first entry is the own one
   have hx':scope.names.lookup x=some .cell:=by
    have hx2:(match scope.names.lookup x with | some .cell=>true | _=>false)=true:=hx
    split at hx2
    ·assumption
    ·cases hx2
   rcases Qd3 hm with q | ⟨_,y,hy,e1,e2⟩
   ·cases q
   ·have:=S.uniq y hy
    have e1:y.1=x:=e1
    rw[e1,hx',e2]at this
    cases this
  ·exact Nat.le_of_succ_le hm
 ·refine⟨Nat.ne_of_lt (hlt b hb),fun x c h e=>?_⟩
  rcases cin x c h with q | q
  ·exact(hf b hb).2.2.2.2.1 x c q e
  ·have:=hlt b hb
   rw[← e]at this
   exact absurd (Nat.lt_of_lt_of_le this (Nat.le_of_succ_le q)) (Nat.lt_irrefl _)
 ·rcases(hf b hb).2.2.2.1 with z | z
  ·exact I.ok.noex b o e z
  ·exact absurd (Nat.lt_of_lt_of_le (Heap.lt_size (I.ok.bs b o e).1) z) (Nat.lt_irrefl _)
 ·rcases List.mem_cons.mp (I.stkSub b hz) with e | e
  ·exact(hf b hb).2.1 e
  ·exact(hf b hb).2.2.1 e
 ·obtain⟨m,hn,hl⟩:=I.loc
  refine⟨fun _=>none,(Heap.Ns.new s.heap (.type "dict")).keeps (pushCells_keeps _ _),fun i x v h1 h2 h3=>?_⟩
  have h2':((js[i]?).map fun j=>j.bind fun j=>(σ[j]?).join)=some (some v):=by
   unfold capt at h2
   rw[List.getElem?_map]at h2
   exact h2
  cases e:js[i]? with
  | none=>rw[e]at h2';cases h2'
  | some o=>
   rw[e]at h2'
   cases o with
   | none=>cases h2'
   | some j=>
    have h4:(σ[j]?).join=some v:=Option.some.inj h2'
    have h5:σ[j]?=some (some v):=by
     cases z:σ[j]? with
     | none=>rw[z]at h4;cases h4
     | some o=>rw[z]at h4;have h4:o=some v:=h4;rw[h4]
    obtain⟨hN,hx,hy⟩:=S.capOf h1 e
    have hvis:=S.free _ (QaH hx) rfl
    obtain⟨u,r,lk⟩:=hl j x v hN h5 (.inr hvis)
    refine⟨u,r,.inr ⟨QjY hx,?_⟩⟩
    rcases lk with⟨k,_⟩ | ⟨_,c,hc,z⟩
    ·have k:X.env.scope.names.lookup x=some .local:=k
     rcases hvis with q | q
     ·rw[k]at q;cases q
     ·rw[k]at q;cases q
    ·exact⟨c,(capL x hx hy).trans hc,z.keeps hk⟩
 ·have:=Qi7 (names:=scope.names) (h:=s.heap.push { cls:=.type "dict",data:=.dict #[] }) (acc:=Qad X.env scope.names []) (fun p hp=>by
   obtain⟨v,q⟩:=I.cell p.1 p.2 (clm p hp)
   exact⟨v,q.keeps fun b o e=>Heap.get?_push_of_some _ e⟩) (x,c) (by rw[sz];exact QaH h)
  exact this
 ·rcases cin x c h with q | q
  ·exact I.freeC x c q
  ·exact I.hok.fresh (Nat.le_of_succ_le q)
 ·show(js.map _).length=N'.length
  rw[List.length_map];exact S.len
def eMax(X:Cx)(e:Expr):TE:=fun σ H Q=>∃ t,PE X e t/\t σ H Q
theorem Qmk{X:Cx}{e:Expr}:PE X e (eMax X e):=fun pins s σ H Q I ⟨t,ht,h⟩=>ht pins s σ H Q I h
def gMax(X:Cx)(e:Expr):TG:=fun v σ H Q=>∃ t,PG X e t/\t v σ H Q
theorem Qmf{X:Cx}{e:Expr}:PG X e (gMax X e):=fun pins s σ H v u Q I r ⟨t,ht,h⟩=>ht pins s σ H v u Q I r h
def PIf(X:Cx)(ifs:List Expr)(tc:TT):Prop:=(ifs=[]/\tc=fun _ H Q=>Q true H)∨∃ c,ifs=[c]/\PT X c tc
theorem Qte{X:Cx}:PIf X [] (fun _ H Q=>Q true H):=.inl ⟨rfl,rfl⟩
theorem PIf.run{X:Cx}{ifs:List Expr}{tc:TT}(h:PIf X ifs tc){pins:List (Addr×Obj)}{s:Shared}{σ:St}{H:Hp}{Q:Bool->Hp->Prop}(I:Inv X pins σ H s)(q:tc σ H Q):
 wpAny (model X.prog X.w) X.A (forIn ifs true fun c r=>if r=true then do let ok ← isTrue c X.env (eval c X.env);pure (ForInStep.yield ok) else pure (ForInStep.yield r)) (TP X pins σ Q) X.xe s:=by
 rcases h with⟨rfl,rfl⟩ | ⟨c,rfl,h⟩
 ·exact wpAny_tests_nil ⟨H,I,q⟩
 ·exact wpAny_tests_one (h pins s σ H Q I q)
def cMax(X:Cx)(ifs:List Expr):TT:=fun σ H Q=>∃ t,PIf X ifs t/\t σ H Q
def CompW(X':Cx)(js:List (Option Nat))(tg elt:Expr)(ifs:List Expr)(σ:St)(H1:Hp)(J:It)(p:Addr)(Q:VK):Prop:=
 ∃ W:Nat->Nat->St->Hp->Prop,(∃ m,W 0 m (capt js σ) (upd H1 p (.lst [])))/\∀ i m τ H',W i m τ H'->
 (J.stop i H'/\Q (.ref p) H')∨(J.go i H'/\∃ N:St->Hp->Prop,(∀ τ' H'',N τ' H''->∃ m',m'<m/\W (i+1) m' τ' H'')/\∀ x H'',J.yld i H' x H''->gMax X' tg x τ H'' fun τ2 H2=>cMax X' ifs τ2 H2 fun b H3=>
  if b=true then eMax X' elt τ2 H3 fun y H4=>∃ ys,H4 p=some (.lst ys)/\ys.length<sizeLine/\N τ2 (upd H4 p (.lst (ys++[y]))) else N τ2 H3)
def tComp(X:Cx)(N':List Str)(js:List (Option Nat))(scope:Scope)(tg elt:Expr)(ifs:List Expr)(wi:TI):TE:=fun σ H Q=>wi σ H fun J H1=>∀ p,H1 p=none->∀ fp s,
 CompW (cxC X N' scope fp s (upd H1 p (.lst []))) js tg elt ifs σ H1 J p Q
section
variable{X:Cx}{N':List Str}{js:List (Option Nat)}{scope:Scope}{tg iter elt:Expr}{ifs:List Expr}{wi:TI}{pos:Pos}
theorem Qh2{pins:List (Addr×Obj)}{σ:St}{H:Hp}{s:Shared}{R:V->Hp->Prop}{E:Value->Shared->Prop}(hc:X.calm=true)(S:QC N' js scope X.env.scope X.N)
 {it:Addr} {fp:List Addr} {tn:Nat->Heap->Prop} {J:It} (I2:Inv X pins σ H s) (T:Turn X.prog X.w X.K tg J fp it tn) (st:tn 0 s.heap) (hf:∀ b∈fp,FpOk X pins H b)
 (hW:∀ p,H p=none->∀ fp s,CompW (cxC X N' scope fp s (upd H p (.lst []))) js tg elt ifs σ H J p R)
 {RR:Value->Addr->Result->Shared->Prop}
 (hRR:∀(D C:Addr)(s':Shared)(H':Hp),Inv X pins σ H' s'->(∃ m,s'.heap.Ns C m)->H' C=none->C≠X.env.locals->X.s₀.heap.objs.size<=C->(∀ x c,X.env.cells.lookup x=some c->c≠C)->(∀ p∈X.pn++pins,p.1≠C)->R (.ref D) H'->RR (.ref D) C (.ok .next) s'):
 wpAny (model X.prog X.w) X.A (newList []) (fun acc s₃ => wpAny (model X.prog X.w) X.A (newFunctionEnv scope X.env.globals (Qad X.env scope.names []) [] X.env.qual none .none (some X.env)) (fun cenv s₄ =>
  codeAny (model X.prog X.w) X.A (.compStart (.ListComp elt [⟨tg,iter,ifs,0⟩] scope pos) 0 (.ref it) acc { cenv with scope:=relabel scope X.env }) (RR acc cenv.locals) s₄) E s₃) E s:=by
 refine wpAny_newObj_type ?_
 have hfresh:H s.heap.objs.size=none:=I2.hok.fresh (Nat.le_refl _)
 have I3:Inv X pins σ (upd H s.heap.objs.size (.lst [])) { s with heap:=s.heap.push { cls:=.type "list",data:=.seq ([]:List Value).toArray } }:=I2.lnew (t':=s.toks) .nil (Nat.zero_le _)
 generalize hs3:({ s with heap:=s.heap.push { cls:=.type "list",data:=.seq ([]:List Value).toArray } }:Shared)=s3 at I3 ⊢
 have hsz3:s3.heap.objs.size=s.heap.objs.size+1:=by rw[← hs3];exact Heap.size_push ..
 have hk3:∀ b o,s.heap.get? b=some o->s3.heap.get? b=some o:=fun b o e=>by rw[← hs3];exact Heap.get?_push_of_some _ e
 have flt:∀ b∈fp,b<s.heap.objs.size:=fun b hb=>by
  obtain⟨o,e,_⟩:=T.obj _ _ st b hb
  exact Heap.lt_size e
 have hf3:∀ b∈fp,FpOk X pins (upd H s.heap.objs.size (.lst [])) b:=fun b hb=>⟨by rw[Qh (Nat.ne_of_lt (flt b hb))];exact(hf b hb).1,(hf b hb).2⟩
 have st3:tn 0 s3.heap:=T.keep _ _ _ st fun b _ o e=>hk3 b o e
 refine QtQ fun cenv ecenv el=>?_
 rw[ecenv,el]
 have I4:=Qr1 (fp:=fp) S I3 hf3 fun b hb=>by rw[hsz3];exact Nat.lt_succ_of_lt (flt b hb)
 obtain⟨W,⟨m0,w0⟩,turn⟩:=hW _ hfresh fp s3
 generalize hX':cxC X N' scope fp s3 (upd H s.heap.objs.size (.lst []))=X' at I4 turn
 generalize hs4:({ s3 with heap:=pushCells (s3.heap.push { cls:=.type "dict",data:=.dict #[] }) scope.names }:Shared)=s4 at I4 ⊢
 have eenv:Qla scope (Qad X.env scope.names []) s3.heap.objs.size X.env=X'.env:=by rw[← hX'];rfl
 have eprog:X'.prog=X.prog:=by rw[← hX'];rfl
 have ew:X'.w=X.w:=by rw[← hX'];rfl
 have eK:X'.K=X.K:=by rw[← hX'];rfl
 have eA:X'.A=X.A:=by rw[← hX'];rfl
 have ecalm:X'.calm=true:=by rw[← hX'];exact hc
 have exe:∀ e s',X'.xe e s'->False:=fun e s' h=>by rw[← hX']at h;exact h
 have eex:X'.ex=fp:=by rw[← hX'];rfl
 have efs:X'.fs=frs X.stack:=by rw[← hX'];rfl
 have epn:X'.pn=[]:=by rw[← hX'];rfl
 have es0:X'.s₀=s3:=by rw[← hX'];rfl
 have eH0:X'.H₀=upd H s.heap.objs.size (.lst []):=by rw[← hX'];rfl
 have eloc:X'.env.locals=s3.heap.objs.size:=by rw[← eenv];rfl
 rw[eenv]
 have st4:tn 0 s4.heap:=T.keep _ _ _ st3 fun b _ o e=>by rw[← hs4];exact pushCells_keeps _ _ b o (Heap.get?_push_of_some _ e)
 -- the iterator's objects,seen from the block
 have fpok:∀{H':Hp},(∀ b∈fp,H' b=none)->∀ b∈fp,FpOk X' [] H' b:=fun {H'} hn b hb=>by
  obtain⟨h1,h2⟩:=I4.ok.exf b (by rw[eex];exact hb)
  exact⟨hn b hb,h1,fun z=>I4.ok.exfs b (by rw[eex];exact hb) z,.inl (by rw[eex];exact hb),h2,fun p hp=>by rw[epn]at hp;cases hp⟩
 have loop:∀ s5,s5=s4->codeAny (model X.prog X.w) X.A (.compLoop (.ListComp elt [⟨tg,iter,ifs,0⟩] scope pos) 0 (.ref it) (.ref s.heap.objs.size) X'.env) (RR (.ref s.heap.objs.size) s3.heap.objs.size) s5:=by
  rintro s5 rfl
  refine QkY (fun n s'=>∃ i τ H',Inv X' [] τ H' s'/\tn i s'.heap/\(∀ b∈fp,H' b=none)/\W i n τ H') (fun _ _=>False) (fun _ _ h=>h.elim) ?_ m0 ⟨0,_,_,I4,st4,fun b hb=>(hf3 b hb).1,w0⟩
  rintro n s6 ⟨i,τ,H6,I6,st6,fr6,w6⟩
  have A1:∀{α:Type}{t:Sem α}{Q:α->Shared->Prop}{s:Shared},wpAny (model X'.prog X'.w) X'.A t Q X'.xe s->wpAny (model X.prog X.w) X.A t Q (fun _ _=>False) s:=fun {α t Q s} h=>by
   rw[eprog,ew,eA]at h
   exact wpAny_mono h (fun _ _ q=>q) exe
  rcases turn i n τ H6 w6 with⟨stop,qn⟩ | ⟨go,N,hN,step⟩
  ·have h7:=T.done X' eprog ew eK ecalm i [] s6 τ H6 (fun _ _=>False) I6 (fpok fr6) st6 stop
   rw[eA]at h7
   refine thn h7 fun r s7 ⟨hr,I7⟩=>?_
   subst hr
   -- back to the frame around
   have un:=I7.base
   rw[es0,eH0,efs,eex]at un
   have Iout:Inv X pins σ H6 s7:=I3.call' (ch:=fp) (by rw[I7.os,es0]) un (by have:=I7.hok;rw[eprog,ew]at this;exact this) I7.bare fun b hb=>by
    obtain⟨f0,f1,f2,f3,f4,f5⟩:=hf3 b hb
    exact⟨f3,f1,f4,f5⟩
   refine hRR _ _ s7 H6 Iout ?_ ?_ ?_ ?_ ?_ ?_ qn
   ·obtain⟨m,hn,_⟩:=I7.loc
    rw[eloc]at hn
    exact⟨m,hn⟩
   ·have:=I7.free
    rw[eloc]at this
    exact this
   ·exact Nat.ne_of_gt I3.lt
   ·exact I3.sz
   ·intro x c e z
    obtain⟨v,q⟩:=I3.cell x c e
    exact absurd q.lt (by rw[z];exact Nat.lt_irrefl _)
   ·intro p hp z
    exact absurd (Heap.lt_size (I3.pin p hp).1) (by rw[z];exact Nat.lt_irrefl _)
  ·have h6:=T.item X' eprog ew eK ecalm i [] s6 τ H6 (fun _ _=>False) I6 (fpok fr6) st6 go
   rw[eA]at h6
   refine thn h6 fun r s7 ⟨u,hr,h7⟩=>?_
   subst hr
   refine thn h7 fun _ s8 ⟨x,H8,I8,r8,y8,st8,fr8⟩=>?_
   have I8':=I8.pinned (fpok fr8) (T.obj _ _ st8)
   refine thn (A1 (Qmf _ s8 τ H8 x u _ I8' r8 (step x H8 y8))) fun _ s9 ⟨τ9,H9,I9,q9⟩=>?_
   obtain⟨tcc,hif,q9⟩:=q9
   refine thn (A1 (hif.run I9 q9)) fun ok s10 ⟨H10,I10,q10⟩=>?_
   have again:∀{τ':St}{H':Hp}{s':Shared},Inv X' ([]++Qgq fp s8.heap) τ' H' s'->N τ' H'->∃ m,m<n/\∃ i τ H',Inv X' [] τ H' s'/\tn i s'.heap/\(∀ b∈fp,H' b=none)/\W i m τ H':=fun {τ' H' s'} I' n'=>by
    obtain⟨m',hm,w'⟩:=hN τ' H' n'
    refine⟨m',hm,i+1,τ',H',I'.unpinned,T.keep _ _ _ st8 fun b hb o e=>(I'.pin (b,o) (List.mem_append_right _ (List.mem_append_right _ (QdX hb e)))).1,fun b hb=>?_,w'⟩
    obtain⟨o,e,d⟩:=T.obj _ _ st8 b hb
    exact(I'.pin (b,o) (List.mem_append_right _ (List.mem_append_right _ (QdX hb e)))).2.1
   cases ok with
   | false=>
    rw[if_neg Bool.false_ne_true]at q10 ⊢
    exact again I10 q10
   | true=>
    rw[if_pos rfl]at q10 ⊢
    refine thn (A1 (Qmk _ s10 τ9 H10 _ I10 q10)) fun y s11 ⟨yv,H11,I11,r11,ys,hp11,hz,n11⟩=>?_
    refine thn (A1 (Qe0 _ s11 τ9 H11 (.ref s.heap.objs.size) [yv] (.ref s.heap.objs.size) [y] (fun _ H'=>N τ9 H') I11 rfl (.cons r11 .nil) ⟨_,ys,yv,rfl,rfl,hp11,hz,n11⟩)) fun _ s12 ⟨v12,H12,I12,_,n12⟩=>?_
    exact again I12 n12
 exact codeAny_compStart_list (loop _ rfl) (T.self _ 0 _ _ _ st4 (loop _ rfl))
theorem Qs7(hc:X.calm=true)(S:QC N' js scope X.env.scope X.N)(hi:PI X tg iter wi)
 (hs:∀ x,foldedSetIterable iter X.env x=pure x:=by intro _;rfl):PE X (.ListComp elt [⟨tg,iter,ifs,0⟩] scope pos) (tComp X N' js scope tg elt ifs wi):=by
 intro pins s σ H Q I h
 rw[eval_ListComp]
 have hcl:closureFor scope X.env=pure (Qad X.env scope.names []):=QhU fun y hy e=>by
  obtain⟨c,hc⟩:=I.ok.has y.1 (S.free y hy e)
  rw[hc];rfl
 refine wpAny_comprehension_free (use:=none) rfl hs hcl S.kind S.names (thn (hi pins s σ H _ I h) fun v s1 h1=>thn h1 fun itv s2 h2=>?_)
 obtain⟨it,fp,tn,J,H2,e,I2,T,st2,f2,hW⟩:=h2
 subst e
 refine Qh2 (R:=Q) (RR:=fun acc C=>compPost (model X.prog X.w) X.A X.xe none (EP X pins σ Q) acc C) hc S I2 T st2 f2 hW ?_
 intro D C s' H' I' ⟨m,hn⟩ hC h1 h2 h3 h4 q
 refine⟨m,hn,fun h' hsb=>⟨.ref D,H',?_,rfl,q⟩⟩
 exact I'.turned (t':=s'.toks) (fun b o hb e=>(hsb.2 b hb).trans e) hC (Ne.symm (Ne.symm h1)) (.inr h2) h3 h4
theorem Qts{i:Nat}{x:Str}{px spos:Pos}(hc:X.calm=true)(S:QC N' js scope X.env.scope X.N)(hi:PI X tg iter wi)
 (hN:X.N.Nodup) (hx:X.N[i]?=some x) (hl:Loc X.env.scope x)
 (hsw:swapsWith (.ListComp elt [⟨tg,iter,ifs,0⟩] scope pos) (some (.Name x px)) spos.line X.env=pure true)
 (hf:X.fn x=true∨X.env.scope.names.lookup x=some .local:=by first | exact .inl rfl | exact .inr rfl | assumption)
 (hs:∀ x,foldedSetIterable iter X.env x=pure x:=by intro _;rfl):PS X (.Assign [.Name x px] (.ListComp elt [⟨tg,iter,ifs,0⟩] scope pos) spos) (tAsg (tComp X N' js scope tg elt ifs wi) (gName i)):=by
 intro pins s σ H D I h
 rw[exec_Assign_Name_used _ _ _ _ hsw]
 refine wpAny_bind (wpAny_standAt (wpAny_bind ?_))
 show wpAny _ X.A (do let _ ← comprehension (.ListComp elt [⟨tg,iter,ifs,0⟩] scope pos) scope X.env _ (newList []) false (eval iter X.env) (some (assign (.Name x px) X.env))) _ _ s
 have hcl:closureFor scope X.env=pure (Qad X.env scope.names []):=QhU fun y hy e=>by
  obtain⟨c,hc⟩:=I.ok.has y.1 (S.free y hy e)
  rw[hc];rfl
 refine wpAny_bind (wpAny_mono (wpAny_comprehension_free (use:=some (assign (.Name x px) X.env)) (Q:=fun _ s'=>SP X pins D .next s') rfl hs hcl S.kind S.names
  (thn (hi pins s σ H _ I h) fun v s1 h1=>thn h1 fun itv s2 h2=>?_)) (fun _ s' hq=>wpAny_pure (wpAny_pure hq)) fun _ _ e=>e)
 obtain⟨it,fp,tn,J,H2,e,I2,T,st2,f2,hW⟩:=h2
 subst e
 refine Qh2 (R:=fun v H'=>D.nx (σ.set i (some v)) H') (RR:=fun acc C=>compPost (model X.prog X.w) X.A X.xe (some (assign (.Name x px) X.env)) (fun _ s'=>SP X pins D .next s') acc C) hc S I2 T st2 f2 hW ?_
 intro DD C s' H' I' ⟨m,hn⟩ hC h1 h2 h3 h4 q
 show wpAny _ X.A (assign (.Name x px) X.env (.ref DD)) _ _ s'
 refine wpAny_assign_Name (QjH (v:=.ref DD) I' hN hx hl rfl (fun s'' I'' ⟨a,hsb,ha⟩=>?_) hf)
 have hCa:C≠a:=by
  rcases ha with rfl | ha
  ·exact h1
  ·exact Ne.symm (h3 x a ha)
 refine⟨m,hn.sameBut hsb hCa,fun h' hsb'=>⟨_,H',?_,q⟩⟩
 exact I''.turned (t':=s''.toks) (fun b o hb e=>(hsb'.2 b hb).trans e) hC h1 (.inr h2) h3 h4
end
end L2
namespace DL
open PySem PySem.Spec PyProof.Rows L2
inductive D where
 | non | bl (b:Bool) | int (i:Int) | str (x:Str)
 | lst (xs:List D) | tup (xs:List D) | dic (kvs:List (Key×D)) | ins (c:Str) (fs:List (Str×D)) | err (c:Str)
instance:Inhabited D:=⟨.non⟩
abbrev CTab:=Str->Option Addr
section
variable(K:PySem.W.Frag)(CT:CTab)(H:Hp)
mutual
def Rep:D->V->Prop
 | .non,v=>v=.non
 | .bl b,v=>v=.bl b
 | .int i,v=>v=.int i
 | .str x,v=>v=.str x
 | .lst ds,v=>∃ a vs,v=.ref a/\SqL K H a vs/\RepL ds vs
 | .tup ds,v=>∃ a vs,v=.ref a/\SqT K H a vs/\RepL ds vs
 | .dic kds,v=>∃ a kvs,v=.ref a/\Rd H a (.dK kvs)/\RepK kds kvs
 | .ins c fds,v=>∃ a C dx fs,v=.ref a/\CT c=some C/\H a=some (.ins C dx fs)/\RepF fds fs
 | .err c,v=>∃ a C,v=.ref a/\CT c=some C/\H a=some (exO a C)
def RepL:List D->List V->Prop
 | [],vs=>vs=[]
 | d::ds,vs=>∃ v r,vs=v::r/\Rep d v/\RepL ds r
def RepK:List (Key×D)->List (Key×V)->Prop
 | [],kvs=>kvs=[]
 | (k,d)::ds,kvs=>∃ v r,kvs=(k,v)::r/\Rep d v/\RepK ds r
def RepF:List (Str×D)->List (Str×V)->Prop
 | [],kvs=>kvs=[]
 | (k,d)::ds,kvs=>∃ v r,kvs=(k,v)::r/\Rep d v/\RepF ds r
end
end
section
variable{K:PySem.W.Frag}{CT:CTab}{H H':Hp}
theorem Same.sqT{a:Addr}{xs:List V}(e:Same H H')(h:SqT K H a xs):SqT K H' a xs:=by
 rcases h with(h | ⟨o,h⟩) | h
 ·exact .inl (.inl (e _ _ h))
 ·exact .inl (.inr ⟨o,e _ _ h⟩)
 ·exact .inr h
theorem Same.rd{a:Addr}{u:HO}(e:Same H H')(h:Rd H a u):Rd H' a u:=by
 rcases h with h | ⟨o,h⟩
 ·exact .inl (e _ _ h)
 ·exact .inr ⟨o,e _ _ h⟩
mutual
theorem Rep.mono(e:Same H H'):∀(d:D)(v:V),Rep K CT H d v->Rep K CT H' d v
 | .non,_,h=>h
 | .bl _,_,h=>h
 | .int _,_,h=>h
 | .str _,_,h=>h
 | .lst ds,_,⟨a,vs,h1,h2,h3⟩=>⟨a,vs,h1,e.seq h2,RepL.mono e ds vs h3⟩
 | .tup ds,_,⟨a,vs,h1,h2,h3⟩=>⟨a,vs,h1,Same.sqT e h2,RepL.mono e ds vs h3⟩
 | .dic ds,_,⟨a,vs,h1,h2,h3⟩=>⟨a,vs,h1,Same.rd e h2,RepK.mono e ds vs h3⟩
 | .ins c ds,_,⟨a,C,dx,fs,h1,h2,h3,h4⟩=>⟨a,C,dx,fs,h1,h2,e _ _ h3,RepF.mono e ds fs h4⟩
 | .err c,_,⟨a,C,h1,h2,h3⟩=>⟨a,C,h1,h2,e _ _ h3⟩
theorem RepL.mono(e:Same H H'):∀(ds:List D)(vs:List V),RepL K CT H ds vs->RepL K CT H' ds vs
 | [],_,h=>h
 | d::ds,_,⟨v,r,h1,h2,h3⟩=>⟨v,r,h1,Rep.mono e d v h2,RepL.mono e ds r h3⟩
theorem RepK.mono(e:Same H H'):∀(ds:List (Key×D))(vs:List (Key×V)),RepK K CT H ds vs->RepK K CT H' ds vs
 | [],_,h=>h
 | (k,d)::ds,_,⟨v,r,h1,h2,h3⟩=>⟨v,r,h1,Rep.mono e d v h2,RepK.mono e ds r h3⟩
theorem RepF.mono(e:Same H H'):∀(ds:List (Str×D))(vs:List (Str×V)),RepF K CT H ds vs->RepF K CT H' ds vs
 | [],_,h=>h
 | (k,d)::ds,_,⟨v,r,h1,h2,h3⟩=>⟨v,r,h1,Rep.mono e d v h2,RepF.mono e ds r h3⟩
end
theorem RepL.length:∀{ds:List D}{vs:List V},RepL K CT H ds vs->ds.length=vs.length
 | [],_,h=>by cases h;rfl
 | d::ds,_,⟨v,r,h1,h2,h3⟩=>by subst h1;simp[RepL.length h3]
theorem RepL.get:∀{ds:List D}{vs:List V}{i:Nat}{d:D},RepL K CT H ds vs->ds[i]?=some d->∃ v,vs[i]?=some v/\Rep K CT H d v
 | [],_,_,_,_,e=>by simp at e
 | d::ds,_,0,_,⟨v,r,h1,h2,h3⟩,e=>by subst h1;simp at e;subst e;exact⟨v,rfl,h2⟩
 | d::ds,_,i+1,x,⟨v,r,h1,h2,h3⟩,e=>by
  subst h1
  obtain⟨u,a,b⟩:=RepL.get (i:=i) (d:=x) h3 (by simpa using e)
  exact⟨u,by simpa using a,b⟩
theorem RepL.append:∀{ds es:List D}{vs us:List V},RepL K CT H ds vs->RepL K CT H es us->RepL K CT H (ds++es) (vs++us)
 | [],_,_,_,h,k=>by cases h;exact k
 | d::ds,_,_,_,⟨v,r,h1,h2,h3⟩,k=>by subst h1;exact⟨v,_,rfl,h2,RepL.append h3 k⟩
theorem RepL.take:∀(n:Nat){ds:List D}{vs:List V},RepL K CT H ds vs->RepL K CT H (ds.take n) (vs.take n)
 | 0,_,_,_=>by simp[RepL]
 | n+1,[],_,h=>by cases h;simp[RepL]
 | n+1,d::ds,_,⟨v,r,h1,h2,h3⟩=>by subst h1;exact⟨v,_,rfl,h2,RepL.take n h3⟩
theorem RepL.drop:∀(n:Nat){ds:List D}{vs:List V},RepL K CT H ds vs->RepL K CT H (ds.drop n) (vs.drop n)
 | 0,_,_,h=>h
 | n+1,[],_,h=>by cases h;simp[RepL]
 | n+1,d::ds,_,⟨v,r,h1,h2,h3⟩=>by subst h1;exact RepL.drop n h3
theorem RepL.set{d:D}{v:V}(q:Rep K CT H d v):∀(i:Nat){ds:List D}{vs:List V},RepL K CT H ds vs->RepL K CT H (ds.set i d) (vs.set i v)
 | _,[],_,h=>by cases h;simp[RepL]
 | 0,_::ds,_,⟨w,r,h1,h2,h3⟩=>by subst h1;exact⟨v,r,rfl,q,h3⟩
 | i+1,e::ds,_,⟨w,r,h1,h2,h3⟩=>by subst h1;exact⟨w,_,rfl,h2,RepL.set q i h3⟩
theorem RepL.rep{ds:List D}{vs:List V}(h:RepL K CT H ds vs):∀ k:Nat,RepL K CT H (List.replicate k ds).flatten (List.replicate k vs).flatten
 | 0=>rfl
 | k+1=>by
  rw[List.replicate_succ,List.replicate_succ,List.flatten_cons,List.flatten_cons]
  exact h.append (h.rep k)
theorem RepL.one{d:D}{v:V}(h:Rep K CT H d v):RepL K CT H [d] [v]:=⟨v,[],rfl,h,rfl⟩
theorem RepL.map_int:∀(ns:List Int),RepL K CT H (ns.map D.int) (ns.map V.int)
 | []=>rfl
 | n::ns=>⟨_,_,rfl,rfl,RepL.map_int ns⟩
end
inductive Out(α:Type) where
 | ok (a:α) | exc (x:D) | stuck
namespace Out
def bind{α β:Type}:Out α->(α->Out β)->Out β
 | .ok a,f=>f a
 | .exc x,_=>.exc x
 | .stuck,_=>.stuck
instance:Monad Out where
 pure:=.ok
 bind:=bind
def post{α:Type}(o:Out α)(k:α->Prop)(x:D->Prop):Prop:=match o with
 | .ok a=>k a
 | .exc e=>x e
 | .stuck=>False
@[simp] theorem bind_ok{α β:Type}(a:α)(f:α->Out β):(Out.ok a>>=f)=f a:=rfl
@[simp] theorem bind_exc{α β:Type}(x:D)(f:α->Out β):((Out.exc x:Out α)>>=f)=.exc x:=rfl
@[simp] theorem bind_stuck{α β:Type}(f:α->Out β):((Out.stuck:Out α)>>=f)=.stuck:=rfl
@[simp] theorem QvI{α β:Type}(a:α)(f:α->Out β):(Out.ok a).bind f=f a:=rfl
@[simp] theorem QvH{α β:Type}(x:D)(f:α->Out β):(Out.exc x:Out α).bind f=.exc x:=rfl
@[simp] theorem Qvx{α β:Type}(f:α->Out β):(Out.stuck:Out α).bind f=.stuck:=rfl
@[simp] theorem pure_eq{α:Type}(a:α):(pure a:Out α)=.ok a:=rfl
theorem post_bind{α β:Type}(o:Out α)(f:α->Out β)(k:β->Prop)(x:D->Prop):(o>>=f).post k x↔o.post (fun a=>(f a).post k x) x:=by
 cases o<;>exact Iff.rfl
theorem post_mono{α:Type}{o:Out α}{k k':α->Prop}{x:D->Prop}(h:o.post k x)(hk:∀ a,k a->k' a):o.post k' x:=by
 cases o with
 | ok a=>exact hk a h
 | exc e=>exact h
 | stuck=>exact h
end Out
end DL
namespace DL
open PySem PySem.Spec PyProof.Rows L2
abbrev St:=L2.St
inductive SM where
 | k | o | l | s
abbrev SD:=List (Option (SM×D))
structure Dc where
 X:Cx
 CT:CTab
 G0:Hp
 XD:D->Prop
 /-- what is lent -/
 B:Hp
 /-- what of the entry's objects may be written -/
 M:Addr->Prop
 /-- which address a written slot holds -/
 W:Nat->Option Addr:=fun _=>none
 /-- what was there at the entry,and what is kept besides -/
 H0:Hp:=X.H₀
abbrev Dc.K(C:Dc):PySem.W.Frag:=C.X.K
def Own(K:PySem.W.Frag)(CT:CTab)(G H:Hp)(p:Addr):D->Prop
 | .lst ds=>∃ vs,H p=some (.lst vs)/\RepL K CT G ds vs
 | .dic ds=>∃ kvs,H p=some (.dK kvs)/\RepK K CT G ds kvs
 | .ins c ds=>∃ A dx fs,CT c=some A/\H p=some (.ins A dx fs)/\RepF K CT G ds fs
 | _=>False
theorem Own.there{K:PySem.W.Frag}{CT:CTab}{G H:Hp}{p:Addr}:∀{d:D},Own K CT G H p d->∃ o,H p=some o
 | .lst _,⟨_,h,_⟩=>⟨_,h⟩
 | .dic _,⟨_,h,_⟩=>⟨_,h⟩
 | .ins _ _,⟨_,_,_,_,h,_⟩=>⟨_,h⟩
 | .non,h=>h.elim
 | .bl _,h=>h.elim
 | .int _,h=>h.elim
 | .str _,h=>h.elim
 | .tup _,h=>h.elim
theorem Own.mono{K:PySem.W.Frag}{CT:CTab}{G G' H H':Hp}{p:Addr}(g:Same G G')(h:∀ o,H p=some o->H' p=some o):∀{d:D},Own K CT G H p d->Own K CT G' H' p d
 | .lst ds,⟨vs,a,b⟩=>⟨vs,h _ a,RepL.mono g ds vs b⟩
 | .dic ds,⟨vs,a,b⟩=>⟨vs,h _ a,RepK.mono g ds vs b⟩
 | .ins _ ds,⟨A,dx,fs,e,a,b⟩=>⟨A,dx,fs,e,h _ a,RepF.mono g ds fs b⟩
 | .non,h=>h.elim
 | .bl _,h=>h.elim
 | .int _,h=>h.elim
 | .str _,h=>h.elim
 | .tup _,h=>h.elim
theorem Own.rep{K:PySem.W.Frag}{CT:CTab}{G H:Hp}{p:Addr}(g:Same G H):∀{d:D},Own K CT G H p d->Rep K CT H d (.ref p)
 | .lst ds,⟨vs,a,b⟩=>⟨p,vs,rfl,SqL.of a,RepL.mono g ds vs b⟩
 | .dic ds,⟨vs,a,b⟩=>⟨p,vs,rfl,Rd.of a,RepK.mono g ds vs b⟩
 | .ins _ ds,⟨A,dx,fs,e,a,b⟩=>⟨p,A,dx,fs,rfl,e,a,RepF.mono g ds fs b⟩
 | .non,h=>h.elim
 | .bl _,h=>h.elim
 | .int _,h=>h.elim
 | .str _,h=>h.elim
 | .tup _,h=>h.elim
structure GH(C:Dc)(G H:Hp):Prop where
 sub:Same G H
 g0:Same C.G0 G
 new:∀ b,C.G0 b=none->G b≠none->C.H0 b=none
 fr:∀ b o,C.H0 b=some o->¬ C.M b->H b=some o
 dom:∀ b,H b=none->C.H0 b=none
 bs:Same C.B H
 bh:∀ b,C.H0 b=none->C.B b=none
structure StR(C:Dc)(G H:Hp)(σ:St)(ς:SD):Prop extends GH C G H where
 len:σ.length=ς.length
 fz:∀(i:Nat) d,ς[i]?=some (some (.k,d))->∃ v,σ[i]?=some (some v)/\Rep C.X.K C.CT G d v
 ow:∀(i:Nat) d,ς[i]?=some (some (.o,d))->∃ p,σ[i]?=some (some (.ref p))/\G p=none/\C.H0 p=none/\Own C.X.K C.CT G H p d
 ln:∀(i:Nat) d,ς[i]?=some (some (.l,d))->∃ v,σ[i]?=some (some v)/\Rep C.X.K C.CT C.B d v/\∀ p,C.W i=some p->v=.ref p
 inj:∀(i j:Nat) d e p,i≠j->ς[i]?=some (some (.o,d))->ς[j]?=some (some (.o,e))->σ[i]?=some (some (.ref p))->σ[j]?≠some (some (.ref p))
 sf:∀(i:Nat) d,ς[i]?=some (some (.s,d))->∃ p,σ[i]?=some (some (.ref p))/\G p=none/\C.H0 p≠none/\(C.M p/\C.W i=some p)/\C.B p=none/\Own C.X.K C.CT G H p d
 su:∀(i j:Nat) d e p,i≠j->ς[i]?=some (some (.s,d))->ς[j]?=some (some (.s,e))->σ[i]?=some (some (.ref p))->σ[j]?≠some (some (.ref p))
section
variable{C:Dc}{G G' H H':Hp}{σ:St}{ς:SD}
theorem GH.gnone(S:GH C G H){p:Addr}(h:H p=none):G p=none:=S.sub.free h
theorem GH.h0none(S:GH C G H){p:Addr}(h:H p=none):C.H0 p=none:=S.dom p h
theorem Qq{H:Hp}{p:Addr}{o:HO}(h:H p=none):Same H (upd H p o):=fun b u e=>by
 rw[Qh (QJ e h)];exact e
theorem Qjy{G H:Hp}{p:Addr}{o:HO}(s:Same G H):Same (upd G p o) (upd H p o):=fun b u e=>by
 by_cases hb:b=p
 ·subst hb;rw[Qx]at e ⊢;exact e
 ·rw[Qh hb]at e ⊢;exact s b u e
theorem GH.grow(S:GH C G H)(hH:Same H H')(hG:Same G G')(hs:Same G' H')(hn:∀ b,G b=none->G' b≠none->H b=none):GH C G' H' where
 sub:=hs
 g0:=S.g0.trans hG
 new:=fun b h0 h1=>by
  cases q:G b with
  | none=>exact S.h0none (hn b q h1)
  | some o=>exact S.new b h0 (by rw[q];simp)
 fr:=fun b o e m=>hH b o (S.fr b o e m)
 dom:=fun b e=>S.dom b (hH.free e)
 bs:=S.bs.trans hH
 bh:=S.bh
theorem StR.own_ne(S:StR C G H σ ς){i:Nat}{d:D}{p:Addr}(h:ς[i]?=some (some (.o,d)))(hp:σ[i]?=some (some (.ref p))):∃ o,H p=some o:=by
 obtain⟨q,e,_,_,o⟩:=S.ow i d h
 rw[hp]at e;cases e
 exact o.there
theorem StR.grow(S:StR C G H σ ς)(hH:Same H H')(hG:Same G G')(hs:Same G' H')(hn:∀ b,G b=none->G' b≠none->H b=none):StR C G' H' σ ς where
 toGH:=S.toGH.grow hH hG hs hn
 len:=S.len
 fz:=fun i d e=>let ⟨v,a,b⟩:=S.fz i d e;⟨v,a,Rep.mono hG d v b⟩
 ow:=fun i d e=>by
  obtain⟨p,a,b,c,o⟩:=S.ow i d e
  refine⟨p,a,?_,c,o.mono hG fun u q=>hH _ _ q⟩
  cases q:G' p with
  | none=>rfl
  | some u=>
   obtain⟨w,hw⟩:=o.there
   have:=hn p b (by rw[q];simp)
   rw[hw]at this;cases this
 ln:=S.ln
 inj:=S.inj
 sf:=fun i d e=>by
  obtain⟨p,a,b,c,m,z,o⟩:=S.sf i d e
  refine⟨p,a,?_,c,m,z,o.mono hG fun u q=>hH _ _ q⟩
  cases q:G' p with
  | none=>rfl
  | some u=>
   obtain⟨w,hw⟩:=o.there
   have:=hn p b (by rw[q];simp)
   rw[hw]at this;cases this
 su:=S.su
theorem StR.alloc(S:StR C G H σ ς){p:Addr}{o:HO}(h:H p=none):StR C (upd G p o) (upd H p o) σ ς:=
 S.grow (Qq h) (Qq (S.sub.free h)) (Qjy S.sub) fun b g n=>by
  by_cases hb:b=p
  ·subst hb;exact h
  ·rw[Qh hb,g]at n;exact absurd rfl n
theorem StR.allocO(S:StR C G H σ ς){p:Addr}{o:HO}(h:H p=none):StR C G (upd H p o) σ ς:=
 S.grow (Qq h) (Same.refl G) (S.sub.trans (Qq h)) fun b g n=>absurd g n
end
def KD(C:Dc)(G H:Hp)(σ:St)(ς:SD)(Q:VK)(d:D):Prop:=∀ v H' G',StR C G' H' σ ς->Same H H'->Same G G'->Rep C.X.K C.CT G' d v->Q v H'
def KB(C:Dc)(G H:Hp)(σ:St)(ς:SD)(Q:VK)(d:D):Prop:=∀ v H' G',StR C G' H' σ ς->Same H H'->Same G G'->Rep C.X.K C.CT H' d v->Q v H'
def KF(C:Dc)(G H:Hp)(σ:St)(ς:SD)(Q:VK)(d:D):Prop:=∀ p H' G',StR C G' H' σ ς->Same H H'->Same G G'->H p=none->G' p=none->Own C.X.K C.CT G' H' p d->Q (.ref p) H'
def DE(C:Dc)(e:Expr)(E:SD->Out D):Prop:=∃ t,PE C.X e t/\∀ G H σ ς Q,StR C G H σ ς->(E ς).post (KD C G H σ ς Q) C.XD->t σ H Q
def DB(C:Dc)(e:Expr)(E:SD->Out D):Prop:=∃ t,PE C.X e t/\∀ G H σ ς Q,StR C G H σ ς->(E ς).post (KB C G H σ ς Q) C.XD->t σ H Q
def DF(C:Dc)(e:Expr)(E:SD->Out D):Prop:=∃ t,PE C.X e t/\∀ G H σ ς Q,StR C G H σ ς->(E ς).post (KF C G H σ ς Q) C.XD->t σ H Q
def KT(C:Dc)(G H:Hp)(σ:St)(ς:SD)(Q:Bool->Hp->Prop)(b:Bool):Prop:=∀ H' G',StR C G' H' σ ς->Same H H'->Same G G'->Q b H'
def DT(C:Dc)(e:Expr)(T:SD->Out Bool):Prop:=∃ t,PT C.X e t/\∀ G H σ ς Q,StR C G H σ ς->(T ς).post (KT C G H σ ς Q) C.XD->t σ H Q
def DW(C:Dc)(e:Expr)(T:SD->Out Bool):Prop:=∃ t,PW C.X e t/\∀ G H σ ς Q,StR C G H σ ς->(T ς).post (KT C G H σ ς Q) C.XD->t σ H Q
def DA(C:Dc)(es:List Expr)(A:SD->Out (List D)):Prop:=∃ t,PA C.X es t/\∀ G H σ ς Q,StR C G H σ ς->
 (A ς).post (fun ds=>∀ vs H' G',StR C G' H' σ ς->Same H H'->Same G G'->RepL C.X.K C.CT G' ds vs->Q vs H') C.XD->t σ H Q
def DAB(C:Dc)(es:List Expr)(A:SD->Out (List D)):Prop:=∃ t,PA C.X es t/\∀ G H σ ς Q,StR C G H σ ς->
 (A ς).post (fun ds=>∀ vs H' G',StR C G' H' σ ς->Same H H'->Same G G'->RepL C.X.K C.CT H' ds vs->Q vs H') C.XD->t σ H Q
inductive Fl where
 | nx (ς:SD) | rt (fr:Bool) (d:D) | bk (ς:SD) | ct (ς:SD)
def RetR(K:PySem.W.Frag)(CT:CTab)(fr:Bool)(H0 G' H':Hp)(d:D)(v:V):Prop:=
 if fr=true then ∃ p,v=.ref p/\H0 p=none/\G' p=none/\Own K CT G' H' p d else Rep K CT G' d v
def FlK(C:Dc)(G:Hp)(W:Ends):Fl->Prop
 | .nx ς'=>∀ σ' H' G',StR C G' H' σ' ς'->Same G G'->W.nx σ' H'
 | .bk ς'=>∀ σ' H' G',StR C G' H' σ' ς'->Same G G'->W.bk σ' H'
 | .ct ς'=>∀ σ' H' G',StR C G' H' σ' ς'->Same G G'->W.ct σ' H'
 | .rt fr d=>∀ v H' G',GH C G' H'->Same G G'->RetR C.X.K C.CT fr C.H0 G' H' d v->W.rt v H'
def DS(C:Dc)(st:Stmt)(T:SD->Out Fl):Prop:=∃ t,PS C.X st t/\∀ G H σ ς W,StR C G H σ ς->(T ς).post (FlK C G W) C.XD->t W σ H
def DSs(C:Dc)(st:List Stmt)(T:SD->Out Fl):Prop:=∃ t,PSs C.X st t/\∀ G H σ ς W,StR C G H σ ς->(T ς).post (FlK C G W) C.XD->t W σ H
section
variable{C:Dc}{e:Expr}{E:SD->Out D}
theorem StR.freeze{G H:Hp}{σ:St}{ς:SD}(S:StR C G H σ ς){p:Addr}{o:HO}(hp:H p=some o)(hg:G p=none)(h0:C.H0 p=none)(hn:∀(i:Nat) d,ς[i]?=some (some (.o,d))->σ[i]?≠some (some (.ref p))):StR C (upd G p o) H σ ς where
 sub:=fun b u q=>by
  by_cases hb:b=p
  ·subst hb;rw[Qx]at q;cases q;exact hp
  ·rw[Qh hb]at q;exact S.sub b u q
 g0:=S.g0.trans (Qq hg)
 new:=fun b h1 h2=>by
  by_cases hb:b=p
  ·subst hb;exact h0
  ·rw[Qh hb]at h2;exact S.new b h1 h2
 fr:=S.fr
 dom:=S.dom
 bs:=S.bs
 bh:=S.bh
 len:=S.len
 fz:=fun i d q=>let ⟨v,a,b⟩:=S.fz i d q;⟨v,a,Rep.mono (Qq hg) d v b⟩
 ow:=fun i d q=>by
  obtain⟨r,a,b,c,w⟩:=S.ow i d q
  refine⟨r,a,?_,c,w.mono (Qq hg) fun _ z=>z⟩
  rw[Qh (by rintro rfl;exact hn i d q a)];exact b
 ln:=S.ln
 inj:=S.inj
 sf:=fun i d q=>by
  obtain⟨r,a,b,c,m,z,w⟩:=S.sf i d q
  refine⟨r,a,?_,c,m,z,w.mono (Qq hg) fun _ z=>z⟩
  rw[Qh (by rintro rfl;exact c h0)];exact b
 su:=S.su
theorem Own.known{K:PySem.W.Frag}{CT:CTab}{G H:Hp}{p:Addr}{o:HO}(hg:G p=none)(hp:H p=some o):∀{d:D},Own K CT G H p d->Rep K CT (upd G p o) d (.ref p)
 | .lst ds,⟨vs,a,b⟩=>by rw[hp]at a;cases a;exact⟨p,vs,rfl,SqL.of Qx,RepL.mono (Qq hg) ds vs b⟩
 | .dic ds,⟨vs,a,b⟩=>by rw[hp]at a;cases a;exact⟨p,vs,rfl,Rd.of Qx,RepK.mono (Qq hg) ds vs b⟩
 | .ins _ ds,⟨A,dx,fs,e,a,b⟩=>by rw[hp]at a;cases a;exact⟨p,A,dx,fs,rfl,e,Qx,RepF.mono (Qq hg) ds fs b⟩
 | .non,h=>h.elim
 | .bl _,h=>h.elim
 | .int _,h=>h.elim
 | .str _,h=>h.elim
 | .tup _,h=>h.elim
theorem StR.new_ne{G H:Hp}{σ:St}{ς:SD}(S:StR C G H σ ς){p:Addr}(h:H p=none):∀(i:Nat) d,ς[i]?=some (some (.o,d))->σ[i]?≠some (some (.ref p)):=fun i d q z=>by
 obtain⟨o,w⟩:=S.own_ne q z
 rw[h]at w;cases w
theorem KD.ofF{G H:Hp}{σ:St}{ς:SD}{Q:VK}{d:D}(S:StR C G H σ ς)(k:KD C G H σ ς Q d):KF C G H σ ς Q d:=fun p H' G' S' hH hG hp hg ow=>by
 obtain⟨o,ho⟩:=ow.there
 exact k _ _ _ (S'.freeze ho hg (S.h0none hp) (S.new_ne hp)) hH (hG.trans (Qq hg)) (ow.known hg ho)
theorem DF.de(h:DF C e E):DE C e E:=by
 obtain⟨t,h1,h2⟩:=h
 refine⟨t,h1,fun G H σ ς Q S q=>h2 G H σ ς Q S (Out.post_mono q fun d k=>KD.ofF S k)⟩
theorem DE.db(h:DE C e E):DB C e E:=by
 obtain⟨t,h1,h2⟩:=h
 refine⟨t,h1,fun G H σ ς Q S q=>h2 G H σ ς Q S (Out.post_mono q fun d k v H' G' S' a b r=>k v H' G' S' a b (Rep.mono S'.sub d v r))⟩
def D.scal:D->Bool
 | .non=>true
 | .bl _=>true
 | .int _=>true
 | .str _=>true
 | _=>false
theorem Rep.scal{K:PySem.W.Frag}{CT:CTab}{G H:Hp}:∀{d:D}{v:V},d.scal=true->Rep K CT H d v->Rep K CT G d v
 | .non,_,_,h=>h
 | .bl _,_,_,h=>h
 | .int _,_,_,h=>h
 | .str _,_,_,h=>h
theorem KD.now{G H:Hp}{σ:St}{ς:SD}{Q:VK}{d:D}{v:V}(k:KD C G H σ ς Q d)(S:StR C G H σ ς)(r:Rep C.X.K C.CT G d v):Q v H:=k v H G S (Same.refl H) (Same.refl G) r
theorem KT.now{G H:Hp}{σ:St}{ς:SD}{Q:Bool->Hp->Prop}{b:Bool}(k:KT C G H σ ς Q b)(S:StR C G H σ ς):Q b H:=k H G S (Same.refl H) (Same.refl G)
theorem KD.later{G H G1 H1:Hp}{σ:St}{ς:SD}{Q:VK}{d:D}(k:KD C G H σ ς Q d)(hH:Same H H1)(hG:Same G G1):KD C G1 H1 σ ς Q d:=fun v H' G' S a b r=>k v H' G' S (hH.trans a) (hG.trans b) r
theorem KT.later{G H G1 H1:Hp}{σ:St}{ς:SD}{Q:Bool->Hp->Prop}{d:Bool}(k:KT C G H σ ς Q d)(hH:Same H H1)(hG:Same G G1):KT C G1 H1 σ ς Q d:=fun H' G' S a b=>k H' G' S (hH.trans a) (hG.trans b)
theorem KF.later{G H G1 H1:Hp}{σ:St}{ς:SD}{Q:VK}{d:D}(k:KF C G H σ ς Q d)(hH:Same H H1)(hG:Same G G1):KF C G1 H1 σ ς Q d:=fun p H' G' S a b hp hg ow=>k p H' G' S (hH.trans a) (hG.trans b) (hH.free hp) hg ow
theorem KF.lst{G H:Hp}{σ:St}{ς:SD}{Q:VK}{ds:List D}{vs:List V}(k:KF C G H σ ς Q (.lst ds))(S:StR C G H σ ς)(r:RepL C.X.K C.CT G ds vs):∀ p,H p=none->Q (.ref p) (upd H p (.lst vs)):=fun p hp=>
 k p _ G (S.allocO hp) (Qq hp) (Same.refl G) hp (S.gnone hp) ⟨vs,Qx,r⟩
theorem KD.lst{G H:Hp}{σ:St}{ς:SD}{Q:VK}{ds:List D}{vs:List V}(k:KD C G H σ ς Q (.lst ds))(S:StR C G H σ ς)(r:RepL C.X.K C.CT G ds vs):∀ p,H p=none->Q (.ref p) (upd H p (.lst vs)):=fun p hp=>
 k _ _ _ (S.alloc hp) (Qq hp) (Qq (S.gnone hp)) ⟨p,vs,rfl,SqL.of Qx,RepL.mono (Qq (S.gnone hp)) ds vs r⟩
theorem KD.tup{G H:Hp}{σ:St}{ς:SD}{Q:VK}{ds:List D}{vs:List V}(k:KD C G H σ ς Q (.tup ds))(S:StR C G H σ ς)(r:RepL C.X.K C.CT G ds vs):∀ p,H p=none->Q (.ref p) (upd H p (.tup vs)):=fun p hp=>
 k _ _ _ (S.alloc hp) (Qq hp) (Qq (S.gnone hp)) ⟨p,vs,rfl,SqT.of Qx,RepL.mono (Qq (S.gnone hp)) ds vs r⟩
end
end DL
namespace DL
open PySem PySem.Spec PyProof.Rows L2
def eVar(i:Nat):SD->Out D:=fun ς=>match ς[i]? with | some (some (.k,d))=>.ok d | _=>.stuck
def eC(d:D):SD->Out D:=fun _=>.ok d
section
variable{C:Dc}{pos:Pos}
theorem QsC{i:Nat}{ς:SD}{k:D->Prop}{x:D->Prop}(h:(eVar i ς).post k x):∃ d,ς[i]?=some (some (.k,d))/\k d:=by
 unfold eVar at h
 split at h
 ·rename_i d e;exact⟨d,e,h⟩
 ·exact h.elim
theorem Qa(i:Nat){x:Str}(hN:C.X.N[i]?=some x:=by rfl)(hv:Vis C.X.env.scope x:=by first | exact Or.inl rfl | exact Or.inr (oi rfl) | exact Or.inr (Or.inr rfl))
 (hd:(x == ("__debug__":Str))=false:=by decide) (hcd:(x == ("__classdict__":Str))=false:=by decide):DE C (.Name x pos) (eVar i):=by
 refine⟨_,QdF (i:=i) hN hv hd hcd,fun G H σ ς Q S q=>?_⟩
 obtain⟨d,e,k⟩:=QsC q
 obtain⟨v,a,b⟩:=S.fz i d e
 exact⟨v,a,k.now S b⟩
theorem Qe{i:Int}{j}:DE C (.Constant (.int i) j pos) (eC (.int i)):=⟨_,Qva,fun G H σ ς Q S q=>KD.now q S rfl⟩
theorem de_bl{b:Bool}{j}:DE C (.Constant (.bool b) j pos) (eC (.bl b)):=⟨_,pe_bl,fun G H σ ς Q S q=>KD.now q S rfl⟩
theorem QO{x:Str}{j}:DE C (.Constant (.str x) j pos) (eC (.str x)):=⟨_,Qvp,fun G H σ ς Q S q=>KD.now q S rfl⟩
def toV:D->V
 | .bl b=>.bl b
 | .int i=>.int i
 | .str x=>.str x
 | _=>.non
theorem Qjf{K:PySem.W.Frag}{CT:CTab}{H:Hp}:∀{d:D},d.scal=true->Rep K CT H d (toV d)
 | .non,_=>rfl
 | .bl _,_=>rfl
 | .int _,_=>rfl
 | .str _,_=>rfl
theorem Qc2{x:Str}{d:D}{u:Value}(hg:Gl C.X x)(hm:C.X.mg x=some u)(hs:d.scal=true)(r:RelV (toV d) u)(hd:(x == ("__debug__":Str))=false:=by decide):DE C (.Name x pos) (eC d):=
 ⟨_,QoZ hg hm r hd,fun G H σ ς Q S q=>KD.now q S (Qjf hs)⟩
end
def e1(f:D->Out D)(a:SD->Out D):SD->Out D:=fun ς=>a ς>>=f
def e2(f:D->D->Out D)(a b:SD->Out D):SD->Out D:=fun ς=>a ς>>=fun x=>b ς>>=fun y=>f x y
def DRS(C:Dc)(r:R2)(f:D->D->Out D):Prop:=∀ G H σ ς (Q:VK) x y vx vy,StR C G H σ ς->Rep C.X.K C.CT H x vx->Rep C.X.K C.CT H y vy->
 (f x y).post (fun d=>d.scal=true/\Q (toV d) H) (fun _=>False)->r vx vy H Q
def scal2(f:D->D->Out D):Prop:=∀ x y,match f x y with | .ok d=>d.scal=true | .exc _=>False | .stuck=>True
section
variable{C:Dc}{a b c:Expr}{A B A':SD->Out D}{pos:Pos}
theorem QeA{o:Out D}{G H:Hp}{σ:St}{ς:SD}{Q:VK}(S:StR C G H σ ς)(hs:match o with | .ok d=>d.scal=true | .exc _=>False | .stuck=>True)(q:o.post (KD C G H σ ς Q) C.XD):
 o.post (fun d=>d.scal=true/\Q (toV d) H) (fun _=>False):=by
 cases o with
 | ok d=>exact⟨hs,KD.now q S (Qjf hs)⟩
 | exc _=>exact hs
 | stuck=>exact q
theorem dop{t:TE}{r:R2}{f:D->D->Out D}{ta tb:TE}(hr:DRS C r f)(hs:scal2 f)
 (h1:∀ G H σ ς Q,StR C G H σ ς->(A ς).post (KB C G H σ ς Q) C.XD->ta σ H Q) (h2:∀ G H σ ς Q,StR C G H σ ς->(B ς).post (KB C G H σ ς Q) C.XD->tb σ H Q):
 ∀ G H σ ς Q,StR C G H σ ς->(e2 f A B ς).post (KD C G H σ ς Q) C.XD->tOp r ta tb σ H Q:=by
 intro G H σ ς Q S q
 unfold e2 at q
 rw[Out.post_bind]at q
 refine h1 G H σ ς _ S (Out.post_mono q fun x k v1 H1 G1 S1 a1 b1 r1=>?_)
 rw[Out.post_bind]at k
 refine h2 G1 H1 σ ς _ S1 (Out.post_mono k fun y k2 v2 H2 G2 S2 a2 b2 r2=>?_)
 refine hr G2 H2 σ ς _ x y v1 v2 S2 (Rep.mono a2 x v1 r1) r2 (QeA S2 (hs x y) ?_)
 exact Out.post_mono k2 fun d kd=>KD.later kd (a1.trans a2) (b1.trans b2)
theorem de_op{op:Operator}{r:R2}{f:D->D->Out D}(ho:OpR C.X (binaryOp op) r)(hr:DRS C r f)(hs:scal2 f)(ha:DB C a A)(hb:DB C b B):DE C (.BinOp a op b pos) (e2 f A B):=by
 obtain⟨ta,p1,q1⟩:=ha
 obtain⟨tb,p2,q2⟩:=hb
 exact⟨_,pe_op ho p1 p2,dop (t:=ta) hr hs q1 q2⟩
theorem QlI{op:CmpOp}{r:R2}{f:D->D->Out D}(ho:OpR C.X (compareOp op) r)(hr:DRS C r f)(hs:scal2 f)(ha:DB C a A)(hb:DB C b B)(hm:behindInMarks op b=false):DE C (.Compare a [op] [b] pos) (e2 f A B):=by
 obtain⟨ta,p1,q1⟩:=ha
 obtain⟨tb,p2,q2⟩:=hb
 exact⟨_,QsZ ho p1 p2 hm,dop (t:=ta) hr hs q1 q2⟩
def tVal(a:SD->Out D):SD->Out Bool:=fun ς=>a ς>>=fun d=>match d with | .bl b=>.ok b | _=>.stuck
theorem Qgl{o:Out D}{G H:Hp}{σ:St}{ς:SD}{Q:Bool->Hp->Prop}(q:(o>>=fun d=>match d with | .bl b=>Out.ok b | _=>.stuck).post (KT C G H σ ς Q) C.XD):
 o.post (KD C G H σ ς fun x H'=>∃ k,x=.bl k/\Q k H') C.XD:=by
 rw[Out.post_bind]at q
 refine Out.post_mono q fun d k v H' G' S' a b r=>?_
 cases d with
 | bl c=>exact⟨c,r,k H' G' S' a b⟩
 | _=>exact k.elim
theorem Qim{op:CmpOp}{r:R2}{f:D->D->Out D}(ho:OpR C.X (compareOp op) r)(hr:DRS C r f)(hs:scal2 f)(ha:DB C a A)(hb:DB C b B)(hm:behindInMarks op b=false):DT C (.Compare a [op] [b] pos) (tVal (e2 f A B)):=by
 obtain⟨ta,p1,q1⟩:=ha
 obtain⟨tb,p2,q2⟩:=hb
 exact⟨_,Qtm ho p1 p2 hm,fun G H σ ς Q S q=>dop (t:=ta) hr hs q1 q2 G H σ ς _ S (Qgl q)⟩
theorem QaV(h:DE C a A)(he:∀ whole,isTrue a C.X.env whole=(do let v ← whole;standAt a.pos;holding [v] (truthy v)):=by intro _;rfl):DT C a (tVal A):=by
 obtain⟨ta,p1,q1⟩:=h
 exact⟨_,Qvr p1 he,fun G H σ ς Q S q=>q1 G H σ ς _ S (Qgl q)⟩
def QbY(f g:D->D->Out D)(a b c:SD->Out D):SD->Out D:=fun ς=>a ς>>=fun x=>b ς>>=fun y=>f x y>>=fun z=>match z with
 | .bl true=>c ς>>=fun w=>g y w
 | .bl false=>.ok (.bl false)
 | _=>.stuck
theorem QqH{r r':R2}{f g:D->D->Out D}{ta tb tc:TE}(hr:DRS C r f)(hs:scal2 f)(hr':DRS C r' g)(hs':scal2 g)
 (h1:∀ G H σ ς Q,StR C G H σ ς->(A ς).post (KB C G H σ ς Q) C.XD->ta σ H Q) (h2:∀ G H σ ς Q,StR C G H σ ς->(B ς).post (KB C G H σ ς Q) C.XD->tb σ H Q)
 (h3:∀ G H σ ς Q,StR C G H σ ς->(A' ς).post (KB C G H σ ς Q) C.XD->tc σ H Q):
 ∀ G H σ ς Q,StR C G H σ ς->(QbY f g A B A' ς).post (KD C G H σ ς Q) C.XD->Qlx r r' ta tb tc σ H Q:=by
 intro G H σ ς Q S q
 unfold QbY at q
 rw[Out.post_bind]at q
 refine h1 G H σ ς _ S (Out.post_mono q fun x k v1 H1 G1 S1 a1 b1 r1=>?_)
 rw[Out.post_bind]at k
 refine h2 G1 H1 σ ς _ S1 (Out.post_mono k fun y k2 v2 H2 G2 S2 a2 b2 r2=>?_)
 rw[Out.post_bind]at k2
 refine hr G2 H2 σ ς _ x y v1 v2 S2 (Rep.mono a2 x v1 r1) r2 ?_
 have hxy:=hs x y
 cases e:f x y with
 | exc _=>rw[e]at hxy;exact hxy
 | stuck=>rw[e]at k2;exact k2.elim
 | ok z=>
  rw[e]at k2
  refine⟨by rw[e]at hxy;exact hxy,?_⟩
  cases z with
  | bl cc=>
   refine⟨cc,rfl,?_⟩
   cases cc with
   | false=>exact iteF (KD.now (KD.later (show KD C G H σ ς Q (.bl false) from k2) (a1.trans a2) (b1.trans b2)) S2 rfl)
   | true=>
    refine iteT (h3 G2 H2 σ ς _ S2 ?_)
    have k2':(A' ς>>=fun w=>g y w).post (KD C G H σ ς Q) C.XD:=k2
    rw[Out.post_bind]at k2'
    refine Out.post_mono k2' fun w k3 v3 H3 G3 S3 a3 b3 r3=>?_
    refine hr' G3 H3 σ ς _ y w v2 v3 S3 (Rep.mono a3 y v2 r2) r3 (QeA S3 (hs' y w) ?_)
    exact Out.post_mono k3 fun d kd=>KD.later kd ((a1.trans a2).trans a3) ((b1.trans b2).trans b3)
  | _=>exact k2.elim
theorem QrU{op op':CmpOp}{r r':R2}{f g:D->D->Out D}(ho:OpR C.X (compareOp op) r)(hr:DRS C r f)(hs:scal2 f)(ho':OpR C.X (compareOp op') r')(hr':DRS C r' g)(hs':scal2 g)
 (ha:DB C a A) (hb:DB C b B) (hc:DB C c A') (hm:lastMarks [op,op'] [b,c]=false:=by with_unfolding_all rfl):DE C (.Compare a [op,op'] [b,c] pos) (QbY f g A B A'):=by
 obtain⟨ta,p1,q1⟩:=ha
 obtain⟨tb,p2,q2⟩:=hb
 obtain⟨tc,p3,q3⟩:=hc
 exact⟨_,Qsr ho ho' p1 p2 p3 hm,QqH hr hs hr' hs' q1 q2 q3⟩
theorem Ql4{op op':CmpOp}{r r':R2}{f g:D->D->Out D}(ho:OpR C.X (compareOp op) r)(hr:DRS C r f)(hs:scal2 f)(ho':OpR C.X (compareOp op') r')(hr':DRS C r' g)(hs':scal2 g)
 (ha:DB C a A) (hb:DB C b B) (hc:DB C c A') (hm:lastMarks [op,op'] [b,c]=false:=by with_unfolding_all rfl):DT C (.Compare a [op,op'] [b,c] pos) (tVal (QbY f g A B A')):=by
 obtain⟨ta,p1,q1⟩:=ha
 obtain⟨tb,p2,q2⟩:=hb
 obtain⟨tc,p3,q3⟩:=hc
 exact⟨_,Qr8 ho ho' p1 p2 p3 hm,fun G H σ ς Q S q=>QqH hr hs hr' hs' q1 q2 q3 G H σ ς _ S (Qgl q)⟩
end
section
variable{C:Dc}
def dI(cnd:Int->Int->Bool)(g:Int->Int->D):D->D->Out D
 | .int i,.int j=>if cnd i j=true then .ok (g i j) else .stuck
 | _,_=>.stuck
def dI0(g:Int->Int->D):D->D->Out D
 | .int i,.int j=>.ok (g i j)
 | _,_=>.stuck
theorem QE{α:Type}{c:Prop}[Decidable c]{a b:Out α}{k:α->Prop}{x:D->Prop}(h:(if c then a else b).post k x):(c/\a.post k x)∨(¬ c/\b.post k x):=by
 by_cases e:c
 ·rw[if_pos e]at h;exact .inl ⟨e,h⟩
 ·rw[if_neg e]at h;exact .inr ⟨e,h⟩
theorem Qcj{c:Prop}[Decidable c]{d:D}(h:d.scal=true):match (if c then Out.ok d else Out.stuck:Out D) with | .ok d=>d.scal=true | .exc _=>False | .stuck=>True:=by
 by_cases e:c
 ·rw[if_pos e];exact h
 ·rw[if_neg e];exact True.intro
theorem Qd9{cnd:Int->Int->Bool}{g:Int->Int->D}(h:∀ i j,(g i j).scal=true):scal2 (dI cnd g):=by
 intro x y
 cases x with
 | int i=>
  cases y with
  | int j=>exact Qcj (h i j)
  | _=>exact True.intro
 | _=>exact True.intro
theorem Qbn{g:Int->Int->D}(h:∀ i j,(g i j).scal=true):scal2 (dI0 g):=by
 intro x y
 cases x<;>cases y<;>simp[dI0,h]
theorem QfB{cnd:Int->Int->Bool}{P:Int->Int->Prop}{g:Int->Int->D}(hP:∀ i j,cnd i j=true->P i j):DRS C (rI P fun i j=>toV (g i j)) (dI cnd g):=by
 intro G H σ ς Q x y vx vy S hx hy q
 cases x with
 | int i=>
  cases y with
  | int j=>
   cases hx;cases hy
   refine⟨i,j,rfl,rfl,?_⟩
   rcases QE (show(if cnd i j=true then Out.ok (g i j) else Out.stuck).post _ _ from q) with⟨hc,q⟩ | ⟨hc,q⟩
   ·exact⟨hP i j hc,q.2⟩
   ·exact q.elim
  | _=>exact q.elim
 | _=>exact q.elim
theorem QbL{g:Int->Int->D}:DRS C (rI0 fun i j=>toV (g i j)) (dI0 g):=by
 intro G H σ ς Q x y vx vy S hx hy q
 cases x with
 | int i=>
  cases y with
  | int j=>
   cases hx;cases hy
   exact⟨i,j,rfl,rfl,q.2⟩
  | _=>exact q.elim
 | _=>exact q.elim
variable{a b c:Expr}{A B:SD->Out D}{pos:Pos}
def dSub:D->D->Out D:=dI0 fun i j=>.int (i - j)
def big(i:Int):Bool:=decide (i.natAbs<2 ^ 9000)
def dMul:D->D->Out D:=dI (fun i j=>decide (Builtin.Int.intBits i+Builtin.Int.intBits j<=134217728)) fun i j=>.int (i * j)
def dFdiv:D->D->Out D:=dI (fun i j=>decide (j≠0)&&big j) fun i j=>.int (i.fdiv j)
def dMod:D->D->Out D:=dI (fun i j=>decide (j≠0)) fun i j=>.int (i.fmod j)
def dPow:D->D->Out D:=dI (fun i j=>decide (0<=j)&&decide (j<=1000000)&&decide (i.natAbs<2 ^ 64)) fun i j=>.int (i ^ j.toNat)
theorem Qsc{i:Int}(h:big i=true):i.natAbs.log2<9000:=by
 have h':i.natAbs<2 ^ 9000:=of_decide_eq_true h
 by_cases z:i.natAbs=0
 ·rw[z];decide
 ·exact(Nat.log2_lt z).mpr h'
theorem QsH{X:Cx}:OpR X (binaryOp .Mult) (rI IntMulOk fun i j=>.int (i * j)):=opI fun _ _ _ _ _ _ _ hc q=>mul_int q hc
def CDivB(i j:Int):Prop:=j≠0/\j.natAbs.log2<9000
theorem QrV{X:Cx}:OpR X (binaryOp .FloorDiv) (rI CDivB fun i j=>.int (i.fdiv j)):=opI fun _ _ _ _ _ _ _ hc q=>floordiv_int hc.1 q (.inl (PyProof.noPylong_of_log2 hc.2))
theorem Qk3(ha:DB C a A)(hb:DB C b B):DE C (.BinOp a .Sub b pos) (e2 dSub A B):=de_op Qu3 QbL (Qbn fun _ _=>rfl) ha hb
theorem Qdy(ha:DB C a A)(hb:DB C b B):DE C (.BinOp a .Mult b pos) (e2 dMul A B):=de_op QsH (QfB fun i j h=>IntMulOk.of_le (Nat.le_refl _) (Nat.le_refl _) (of_decide_eq_true h)) (Qd9 fun _ _=>rfl) ha hb
theorem Qi6(ha:DB C a A)(hb:DB C b B):DE C (.BinOp a .FloorDiv b pos) (e2 dFdiv A B):=de_op QrV (QfB fun i j h=>by
 rw[Bool.and_eq_true]at h
 exact⟨of_decide_eq_true h.1,Qsc h.2⟩) (Qd9 fun _ _=>rfl) ha hb
theorem Qah(ha:DB C a A)(hb:DB C b B):DE C (.BinOp a .Mod b pos) (e2 dMod A B):=de_op Qtb (QfB fun i j h=>of_decide_eq_true h) (Qd9 fun _ _=>rfl) ha hb
theorem QuF(ha:DB C a A)(hb:DB C b B):DE C (.BinOp a .Pow b pos) (e2 dPow A B):=de_op QuP (QfB fun i j h=>by
 rw[Bool.and_eq_true,Bool.and_eq_true]at h
 exact⟨of_decide_eq_true h.1.1,of_decide_eq_true h.1.2,of_decide_eq_true h.2⟩) (Qd9 fun _ _=>rfl) ha hb
def dAdd:D->D->Out D
 | .int i,.int j=>.ok (.int (i+j))
 | .str x,.str y=>if x.length+y.length<=sizeLine then .ok (.str (x++y)) else .stuck
 | _,_=>.stuck
theorem QS(ha:DB C a A)(hb:DB C b B):DE C (.BinOp a .Add b pos) (e2 dAdd A B):=by
 refine de_op (Qu9.or Qp4) ?_ ?_ ha hb
 ·intro G H σ ς Q x y vx vy S hx hy q
  cases x with
  | int i=>
   cases y with
   | int j=>
    cases hx;cases hy
    exact .inl ⟨i,j,rfl,rfl,q.2⟩
   | _=>exact q.elim
  | str i=>
   cases y with
   | str j=>
    cases hx;cases hy
    rcases QE (show(if i.length+j.length<=sizeLine then Out.ok (D.str (i++j)) else Out.stuck).post _ _ from q) with⟨hc,q⟩ | ⟨hc,q⟩
    ·exact .inr ⟨i,j,rfl,rfl,hc,q.2⟩
    ·exact q.elim
   | _=>exact q.elim
  | _=>exact q.elim
 ·intro x y
  cases x with
  | int i=>
   cases y with
   | int j=>exact rfl
   | _=>exact True.intro
  | str i=>
   cases y with
   | str j=>exact Qcj rfl
   | _=>exact True.intro
  | _=>exact True.intro
def dLt:D->D->Out D:=dI0 fun i j=>.bl (decide (i<j))
def dLe:D->D->Out D:=dI0 fun i j=>.bl (decide (i<=j))
def dGt:D->D->Out D:=dI0 fun i j=>.bl (decide (j<i))
def dGe:D->D->Out D:=dI0 fun i j=>.bl (decide (j<=i))
end
section
variable{C:Dc}{a b c:Expr}{A B:SD->Out D}{pos:Pos}
def dNeg:D->Out D
 | .int i=>.ok (.int (-i))
 | _=>.stuck
theorem Qrc(ha:DB C a A):DE C (.UnaryOp .USub a pos) (e1 dNeg A):=by
 obtain⟨ta,p1,q1⟩:=ha
 refine⟨_,pe_un Qvb p1,fun G H σ ς Q S q=>?_⟩
 unfold e1 at q
 rw[Out.post_bind]at q
 refine q1 G H σ ς _ S (Out.post_mono q fun x k v1 H1 G1 S1 a1 b1 r1=>?_)
 cases x with
 | int i=>cases r1;exact⟨i,rfl,KD.now (KD.later k a1 b1) S1 rfl⟩
 | _=>exact k.elim
variable{TA TB:SD->Out Bool}{rest:List Expr}
def tAnd'(a b:SD->Out Bool):SD->Out Bool:=fun ς=>a ς>>=fun c=>if c=true then b ς else .ok false
def tOr'(a b:SD->Out Bool):SD->Out Bool:=fun ς=>a ς>>=fun c=>if c=true then .ok true else b ς
def tNot'(a:SD->Out Bool):SD->Out Bool:=fun ς=>a ς>>=fun c=>.ok (!c)
theorem DW.dt{e:Expr}{T:SD->Out Bool}(h:DW C e T):DT C e T:=let ⟨t,p,q⟩:=h;⟨t,p.pt,q⟩
theorem QtW(ha:DT C a TA):DW C (.BoolOp .And [a] pos) TA:=let ⟨t,p,q⟩:=ha;⟨t,QtD p,q⟩
theorem QfL(ha:DT C a TA):DW C (.BoolOp .Or [a] pos) TA:=let ⟨t,p,q⟩:=ha;⟨t,Qvo p,q⟩
theorem Quu(ha:DT C a TA)(hb:DW C (.BoolOp .And (b::rest) pos) TB):DW C (.BoolOp .And (a::b::rest) pos) (tAnd' TA TB):=by
 obtain⟨t1,p1,q1⟩:=ha
 obtain⟨t2,p2,q2⟩:=hb
 refine⟨_,QuI p1 p2,fun G H σ ς Q S q=>?_⟩
 unfold tAnd' at q
 rw[Out.post_bind]at q
 refine q1 G H σ ς _ S (Out.post_mono q fun x k H1 G1 S1 a1 b1=>?_)
 cases x with
 | true=>exact iteT (q2 G1 H1 σ ς _ S1 (Out.post_mono (show(TB ς).post _ _ from k) fun x k=>KT.later k a1 b1))
 | false=>exact iteF (KT.now (KT.later (show KT C G H σ ς Q false from k) a1 b1) S1)
theorem dw_or(ha:DT C a TA)(hb:DW C (.BoolOp .Or (b::rest) pos) TB):DW C (.BoolOp .Or (a::b::rest) pos) (tOr' TA TB):=by
 obtain⟨t1,p1,q1⟩:=ha
 obtain⟨t2,p2,q2⟩:=hb
 refine⟨_,pw_or p1 p2,fun G H σ ς Q S q=>?_⟩
 unfold tOr' at q
 rw[Out.post_bind]at q
 refine q1 G H σ ς _ S (Out.post_mono q fun x k H1 G1 S1 a1 b1=>?_)
 cases x with
 | true=>exact iteT (KT.now (KT.later (show KT C G H σ ς Q true from k) a1 b1) S1)
 | false=>exact iteF (q2 G1 H1 σ ς _ S1 (Out.post_mono (show(TB ς).post _ _ from k) fun x k=>KT.later k a1 b1))
theorem QaG(ha:DT C a TA):DT C (.UnaryOp .Not a pos) (tNot' TA):=by
 obtain⟨t1,p1,q1⟩:=ha
 refine⟨_,QuV p1,fun G H σ ς Q S q=>?_⟩
 unfold tNot' at q
 rw[Out.post_bind]at q
 exact q1 G H σ ς _ S (Out.post_mono q fun x k H1 G1 S1 a1 b1=>k H1 G1 S1 a1 b1)
def eAnd(a b:SD->Out D):SD->Out D:=fun ς=>a ς>>=fun d=>match d with | .bl true=>b ς | .bl false=>.ok (.bl false) | _=>.stuck
def eOr(a b:SD->Out D):SD->Out D:=fun ς=>a ς>>=fun d=>match d with | .bl true=>.ok (.bl true) | .bl false=>b ς | _=>.stuck
def eNot(a:SD->Out D):SD->Out D:=fun ς=>a ς>>=fun d=>match d with | .bl c=>.ok (.bl (!c)) | _=>.stuck
theorem Qh3{op}(h:DE C a A):DE C (.BoolOp op [a] pos) A:=let ⟨t,p,q⟩:=h;⟨t,Qu1 p,q⟩
theorem QlX(ha:DE C a A)(hb:DE C (.BoolOp .And (b::rest) pos) B):DE C (.BoolOp .And (a::b::rest) pos) (eAnd A B):=by
 obtain⟨t1,p1,q1⟩:=ha
 obtain⟨t2,p2,q2⟩:=hb
 refine⟨_,Qvn p1 p2,fun G H σ ς Q S q=>?_⟩
 unfold eAnd at q
 rw[Out.post_bind]at q
 refine q1 G H σ ς _ S (Out.post_mono q fun x k v1 H1 G1 S1 a1 b1 r1=>?_)
 cases x with
 | bl c=>
  refine⟨c,r1,?_⟩
  cases c with
  | true=>exact iteT (q2 G1 H1 σ ς _ S1 (Out.post_mono (show(B ς).post _ _ from k) fun x k=>KD.later k a1 b1))
  | false=>exact iteF (KD.now (KD.later (show KD C G H σ ς Q (.bl false) from k) a1 b1) S1 rfl)
 | _=>exact k.elim
theorem de_or(ha:DE C a A)(hb:DE C (.BoolOp .Or (b::rest) pos) B):DE C (.BoolOp .Or (a::b::rest) pos) (eOr A B):=by
 obtain⟨t1,p1,q1⟩:=ha
 obtain⟨t2,p2,q2⟩:=hb
 refine⟨_,pe_or p1 p2,fun G H σ ς Q S q=>?_⟩
 unfold eOr at q
 rw[Out.post_bind]at q
 refine q1 G H σ ς _ S (Out.post_mono q fun x k v1 H1 G1 S1 a1 b1 r1=>?_)
 cases x with
 | bl c=>
  refine⟨c,r1,?_⟩
  cases c with
  | true=>exact iteT (KD.now (KD.later (show KD C G H σ ς Q (.bl true) from k) a1 b1) S1 rfl)
  | false=>exact iteF (q2 G1 H1 σ ς _ S1 (Out.post_mono (show(B ς).post _ _ from k) fun x k=>KD.later k a1 b1))
 | _=>exact k.elim
theorem Qqy(ha:DE C a A):DE C (.UnaryOp .Not a pos) (eNot A):=by
 obtain⟨t1,p1,q1⟩:=ha
 refine⟨_,Qve p1,fun G H σ ς Q S q=>?_⟩
 unfold eNot at q
 rw[Out.post_bind]at q
 refine q1 G H σ ς _ S (Out.post_mono q fun x k v1 H1 G1 S1 a1 b1 r1=>?_)
 cases x with
 | bl c=>exact⟨c,r1,KD.now (KD.later (show KD C G H σ ς Q (.bl (!c)) from k) a1 b1) S1 rfl⟩
 | _=>exact k.elim
def eIf(t:SD->Out Bool)(a b:SD->Out D):SD->Out D:=fun ς=>t ς>>=fun c=>if c=true then a ς else b ς
theorem de_if{t:Expr}(ht:DT C t TA)(ha:DE C a A)(hb:DE C b B):DE C (.IfExp t a b pos) (eIf TA A B):=by
 obtain⟨t0,p0,q0⟩:=ht
 obtain⟨t1,p1,q1⟩:=ha
 obtain⟨t2,p2,q2⟩:=hb
 refine⟨_,QrS p0 p1 p2,fun G H σ ς Q S q=>?_⟩
 unfold eIf at q
 rw[Out.post_bind]at q
 refine q0 G H σ ς _ S (Out.post_mono q fun x k H1 G1 S1 a1 b1=>?_)
 cases x with
 | true=>exact iteT (q1 G1 H1 σ ς _ S1 (Out.post_mono (show(A ς).post _ _ from k) fun x k=>KD.later k a1 b1))
 | false=>exact iteF (q2 G1 H1 σ ς _ S1 (Out.post_mono (show(B ς).post _ _ from k) fun x k=>KD.later k a1 b1))
end
end DL
namespace DL
open PySem PySem.Spec PyProof.Rows L2
def aNil:SD->Out (List D):=fun _=>.ok []
def aCons(a:SD->Out D)(r:SD->Out (List D)):SD->Out (List D):=fun ς=>a ς>>=fun x=>r ς>>=fun xs=>.ok (x::xs)
section
variable{C:Dc}{e:Expr}{es:List Expr}{E:SD->Out D}{A:SD->Out (List D)}{pos:Pos}
theorem Qi:DA C [] aNil:=⟨_,Qb1,fun G H σ ς Q S q=>q [] H G S (Same.refl H) (Same.refl G) rfl⟩
theorem QF:DAB C [] aNil:=⟨_,Qb1,fun G H σ ς Q S q=>q [] H G S (Same.refl H) (Same.refl G) rfl⟩
theorem Qc(ha:DE C e E)(hr:DA C es A)(hs:starEach (e::es) C.X.env=(false,eval e C.X.env)::starEach es C.X.env:=by rfl):DA C (e::es) (aCons E A):=by
 obtain⟨t1,p1,q1⟩:=ha
 obtain⟨t2,p2,q2⟩:=hr
 refine⟨_,Qbe p1 p2 hs,fun G H σ ς Q S q=>?_⟩
 unfold aCons at q
 rw[Out.post_bind]at q
 refine q1 G H σ ς _ S (Out.post_mono q fun x k v1 H1 G1 S1 a1 b1 r1=>?_)
 rw[Out.post_bind]at k
 refine q2 G1 H1 σ ς _ S1 (Out.post_mono k fun xs k2 vs H2 G2 S2 a2 b2 r2=>?_)
 exact k2 (v1::vs) H2 G2 S2 (a1.trans a2) (b1.trans b2) ⟨v1,vs,rfl,Rep.mono b2 x v1 r1,r2⟩
theorem Qw(ha:DB C e E)(hr:DAB C es A)(hs:starEach (e::es) C.X.env=(false,eval e C.X.env)::starEach es C.X.env:=by rfl):DAB C (e::es) (aCons E A):=by
 obtain⟨t1,p1,q1⟩:=ha
 obtain⟨t2,p2,q2⟩:=hr
 refine⟨_,Qbe p1 p2 hs,fun G H σ ς Q S q=>?_⟩
 unfold aCons at q
 rw[Out.post_bind]at q
 refine q1 G H σ ς _ S (Out.post_mono q fun x k v1 H1 G1 S1 a1 b1 r1=>?_)
 rw[Out.post_bind]at k
 refine q2 G1 H1 σ ς _ S1 (Out.post_mono k fun xs k2 vs H2 G2 S2 a2 b2 r2=>?_)
 exact k2 (v1::vs) H2 G2 S2 (a1.trans a2) (b1.trans b2) ⟨v1,vs,rfl,Rep.mono a2 x v1 r1,r2⟩
def fits(n:Nat):Bool:=decide (n<=sizeLine)
def eTup(a:SD->Out (List D)):SD->Out D:=fun ς=>a ς>>=fun xs=>if fits xs.length=true then .ok (.tup xs) else .stuck
def eLst(a:SD->Out (List D)):SD->Out D:=fun ς=>a ς>>=fun xs=>if fits xs.length=true then .ok (.lst xs) else .stuck
theorem QgT{x1}(h:DA C es A):DE C (.Tuple es x1 pos) (eTup A):=by
 obtain⟨t,p,q⟩:=h
 refine⟨_,Qun p,fun G H σ ς Q S k=>?_⟩
 unfold eTup at k
 rw[Out.post_bind]at k
 refine q G H σ ς _ S (Out.post_mono k fun xs k2 vs H1 G1 S1 a1 b1 r1=>?_)
 rcases QE k2 with⟨hc,k3⟩ | ⟨_,k3⟩
 ·exact⟨by rw[← r1.length];exact of_decide_eq_true hc,KD.tup (KD.later k3 a1 b1) S1 r1⟩
 ·exact k3.elim
theorem Qb0(h:DA C es A):DF C (.List es pos) (eLst A):=by
 obtain⟨t,p,q⟩:=h
 refine⟨_,Qra p,fun G H σ ς Q S k=>?_⟩
 unfold eLst at k
 rw[Out.post_bind]at k
 refine q G H σ ς _ S (Out.post_mono k fun xs k2 vs H1 G1 S1 a1 b1 r1=>?_)
 rcases QE k2 with⟨hc,k3⟩ | ⟨_,k3⟩
 ·exact⟨by rw[← r1.length];exact of_decide_eq_true hc,KF.lst (KF.later k3 a1 b1) S1 r1⟩
 ·exact k3.elim
end
theorem QiU{K:PySem.W.Frag}{CT:CTab}{H:Hp}{ds:List D}{vs:List V}{i:Int}{d:D}(r:RepL K CT H ds vs)(h:atI ds i=some d):∃ v,atI vs i=some v/\Rep K CT H d v:=by
 unfold atI at h ⊢
 rw[← r.length]
 cases e:ixN ds.length i with
 | none=>rw[e]at h;cases h
 | some j=>
  rw[e]at h
  exact r.get h
def optO{α:Type}:Option α->Out α
 | some a=>.ok a
 | none=>.stuck
theorem Qew{α:Type}{o:Option α}{k:α->Prop}{x:D->Prop}(h:(optO o).post k x):∃ a,o=some a/\k a:=by
 cases o with
 | none=>exact h.elim
 | some a=>exact⟨a,rfl,h⟩
def dIx:D->D->Out D
 | .lst xs,.int i=>optO (atI xs i)
 | .tup xs,.int i=>optO (atI xs i)
 | .str x,.int i=>if fits x.length=true then optO ((atI x.cps.toList i).map fun c=>D.str ⟨#[c]⟩) else .stuck
 | _,_=>.stuck
section
variable{C:Dc}{a b:Expr}{A B:SD->Out D}{pos:Pos}
theorem de_ix(ha:DE C a A)(hb:DB C b B)(hs:Qg0 b:=by intro _ _;rfl):DE C (.Subscript a b pos) (e2 dIx A B):=by
 obtain⟨ta,p1,q1⟩:=ha
 obtain⟨tb,p2,q2⟩:=hb
 refine⟨_,pe_ix QmG p1 p2 hs,fun G H σ ς Q S q=>?_⟩
 unfold e2 at q
 rw[Out.post_bind]at q
 refine q1 G H σ ς _ S (Out.post_mono q fun x k v1 H1 G1 S1 a1 b1 r1=>?_)
 rw[Out.post_bind]at k
 refine q2 G1 H1 σ ς _ S1 (Out.post_mono k fun y k2 v2 H2 G2 S2 a2 b2 r2=>?_)
 have r1':=Rep.mono b2 x v1 r1
 cases y with
 | int i=>
  cases r2
  cases x with
  | lst xs=>
   obtain⟨p,vs,rfl,h2,h3⟩:=r1'
   obtain⟨d,e,kd⟩:=Qew k2
   obtain⟨v,e2,r⟩:=QiU h3 e
   exact .inl ⟨p,vs,i,v,rfl,rfl,S2.sub.seq h2,e2,KD.now (KD.later kd (a1.trans a2) (b1.trans b2)) S2 r⟩
  | tup xs=>
   obtain⟨p,vs,rfl,h2,h3⟩:=r1'
   obtain⟨d,e,kd⟩:=Qew k2
   obtain⟨v,e2,r⟩:=QiU h3 e
   exact .inr (.inl ⟨p,vs,i,v,rfl,rfl,Same.sqT S2.sub h2,e2,KD.now (KD.later kd (a1.trans a2) (b1.trans b2)) S2 r⟩)
  | str z=>
   cases r1'
   rcases QE (show(if fits z.length=true then optO ((atI z.cps.toList i).map fun c=>D.str ⟨#[c]⟩) else .stuck).post _ C.XD from k2) with⟨hc,q⟩ | ⟨_,q⟩
   ·obtain⟨d,e,kd⟩:=Qew q
    cases e3:atI z.cps.toList i with
    | none=>rw[e3]at e;cases e
    | some c=>
     rw[e3]at e
     cases e
     exact .inr (.inr ⟨z,i,c,rfl,rfl,of_decide_eq_true hc,e3,KD.now (KD.later kd (a1.trans a2) (b1.trans b2)) S2 rfl⟩)
   ·exact q.elim
  | _=>exact k2.elim
 | _=>cases x<;>exact k2.elim
end
def cutD{α:Type}(xs:List α)(lo hi:Option Int):List α:=(xs.drop (HT.sIx xs.length 0 lo)).take (HT.sIx xs.length xs.length hi - HT.sIx xs.length 0 lo)
theorem Qtx{K:PySem.W.Frag}{CT:CTab}{H:Hp}{ds:List D}{vs:List V}(lo hi:Option Int)(r:RepL K CT H ds vs):RepL K CT H (cutD ds lo hi) (cutV vs lo hi):=by
 unfold cutD cutV
 rw[r.length]
 exact(r.drop _).take _
def oNo:SD->Out (Option Int):=fun _=>.ok none
def oSome(e:SD->Out D):SD->Out (Option Int):=fun ς=>e ς>>=fun d=>match d with | .int i=>.ok (some i) | _=>.stuck
def DO(C:Dc)(e:Option Expr)(T:SD->Out (Option Int)):Prop:=∃ t,PO C.X e t/\∀ G H σ ς Q,StR C G H σ ς->(T ς).post (fun o=>∀ H' G',StR C G' H' σ ς->Same H H'->Same G G'->Q o H') C.XD->t σ H Q
section
variable{C:Dc}{a b:Expr}{A B:SD->Out D}{lo hi:Option Expr}{L U:SD->Out (Option Int)}{pos p2:Pos}
theorem Qtk:DO C none oNo:=⟨_,QsW,fun G H σ ς Q S q=>q H G S (Same.refl H) (Same.refl G)⟩
theorem QiA(h:DB C a A):DO C (some a) (oSome A):=by
 obtain⟨t,p,q⟩:=h
 refine⟨_,Qtq p,fun G H σ ς Q S k=>?_⟩
 unfold oSome at k
 rw[Out.post_bind]at k
 refine q G H σ ς _ S (Out.post_mono k fun x k2 v1 H1 G1 S1 a1 b1 r1=>?_)
 cases x with
 | int i=>cases r1;exact⟨i,rfl,k2 H1 G1 S1 a1 b1⟩
 | _=>exact k2.elim
def eSl(a:SD->Out D)(l u:SD->Out (Option Int)):SD->Out D:=fun ς=>a ς>>=fun x=>l ς>>=fun i=>u ς>>=fun j=>match x with
 | .lst xs=>.ok (.lst (cutD xs i j))
 | _=>.stuck
theorem df_sl(ha:DE C a A)(hl:DO C lo L)(hu:DO C hi U):DF C (.Subscript a (.Slice lo hi none p2) pos) (eSl A L U):=by
 obtain⟨ta,p1,q1⟩:=ha
 obtain⟨tl,p3,q3⟩:=hl
 obtain⟨tu,p4,q4⟩:=hu
 refine⟨_,Qsd Qti p1 p3 p4,fun G H σ ς Q S q=>?_⟩
 unfold eSl at q
 rw[Out.post_bind]at q
 refine q1 G H σ ς _ S (Out.post_mono q fun x k v1 H1 G1 S1 a1 b1 r1=>?_)
 rw[Out.post_bind]at k
 refine q3 G1 H1 σ ς _ S1 (Out.post_mono k fun i k2 H2 G2 S2 a2 b2=>?_)
 rw[Out.post_bind]at k2
 refine q4 G2 H2 σ ς _ S2 (Out.post_mono k2 fun j k3 H3 G3 S3 a3 b3=>?_)
 cases x with
 | lst xs=>
  obtain⟨p,vs,rfl,h2,h3⟩:=Rep.mono (b2.trans b3) _ v1 r1
  exact⟨p,vs,rfl,S3.sub.seq h2,KF.lst (KF.later (show KF C G H σ ς Q (.lst (cutD xs i j)) from k3) ((a1.trans a2).trans a3) ((b1.trans b2).trans b3)) S3 (Qtx i j h3)⟩
 | _=>exact k3.elim
end
section
variable{C:Dc}{x:Str}{p pos:Pos}{e:Expr}{es:List Expr}{A:SD->Out (List D)}{id T:String}
def eA(f:List D->Out D)(a:SD->Out (List D)):SD->Out D:=fun ς=>a ς>>=f
def DCS(C:Dc)(r:List V->Hp->VK->Prop)(f:List D->Out D):Prop:=∀ G H σ ς (Q:VK) xs vs,StR C G H σ ς->RepL C.X.K C.CT H xs vs->
 (f xs).post (fun d=>d.scal=true/\Q (toV d) H) (fun _=>False)->r vs H Q
def scalA(f:List D->Out D):Prop:=∀ xs,match f xs with | .ok d=>d.scal=true | .exc _=>False | .stuck=>True
theorem dcall{r:List V->Hp->VK->Prop}{f:List D->Out D}{t:TA}(hr:DCS C r f)(hs:scalA f)
 (h:∀ G H σ ς Q,StR C G H σ ς->(A ς).post (fun ds=>∀ vs H' G',StR C G' H' σ ς->Same H H'->Same G G'->RepL C.X.K C.CT H' ds vs->Q vs H') C.XD->t σ H Q):
 ∀ G H σ ς Q,StR C G H σ ς->(eA f A ς).post (KD C G H σ ς Q) C.XD->tCB r t σ H Q:=by
 intro G H σ ς Q S q
 unfold eA at q
 rw[Out.post_bind]at q
 refine h G H σ ς _ S (Out.post_mono q fun ds k vs H1 G1 S1 a1 b1 r1=>?_)
 exact hr G1 H1 σ ς Q ds vs S1 r1 (QeA S1 (hs ds) (Out.post_mono k fun d kd=>KD.later kd a1 b1))
theorem Qhw{r:List V->Hp->VK->Prop}{f:List D->Out D}(hc:CallR C.X (.builtin id) r)(hr:DCS C r f)(hs:scalA f)(hg:Gl C.X x)(hm:C.X.mg x=none)(hv:bootBuiltins x=some (.builtin id))(ha:DAB C (e::es) A)(hn:x≠"__name__":=by decide)(hdb:(x == ("__debug__":Str))=false:=by decide)
 (he:starEach (e::es) C.X.env=(false,eval e C.X.env)::starEach es C.X.env:=by rfl) (hpl:(backTo pos (starEach es C.X.env)).any (·.1)=false:=by rfl):DE C (.Call (.Name x p) (e::es) [] pos) (eA f A):=by
 obtain⟨t,p1,q1⟩:=ha
 exact⟨_,Qmn hc hg hm hv p1 hn hdb he hpl,dcall hr hs q1⟩
theorem QgB{r:List V->Hp->VK->Prop}{f:List D->Out D}(hc:CallR C.X (.type T) r)(hr:DCS C r f)(hs:scalA f)(hg:Gl C.X x)(hm:C.X.mg x=none)(hv:bootBuiltins x=some (.type T))(ha:DAB C (e::es) A)(hn:x≠"__name__":=by decide)(hdb:(x == ("__debug__":Str))=false:=by decide)
 (he:starEach (e::es) C.X.env=(false,eval e C.X.env)::starEach es C.X.env:=by rfl) (hpl:(backTo pos (starEach es C.X.env)).any (·.1)=false:=by rfl):DE C (.Call (.Name x p) (e::es) [] pos) (eA f A):=by
 obtain⟨t,p1,q1⟩:=ha
 exact⟨_,Qjz hc hg hm hv p1 hn hdb he hpl,dcall hr hs q1⟩
def fLen:List D->Out D
 | [.lst xs]=>.ok (.int xs.length)
 | [.tup xs]=>.ok (.int xs.length)
 | [.str x]=>if fits x.length=true then .ok (.int x.length) else .stuck
 | _=>.stuck
theorem Qt2:DCS C (fun xs H Q=>(∃ p ys,xs=[.ref p]/\(SqL C.X.K H p ys∨SqT C.X.K H p ys)/\Q (.int ys.length) H)∨∃ z,xs=[.str z]/\z.length<=sizeLine/\Q (.int z.length) H) fLen:=by
 intro G H σ ς Q xs vs S r q
 cases xs with
 | nil=>exact q.elim
 | cons x xr=>
  obtain⟨v,vr,rfl,r1,r2⟩:=r
  cases xr with
  | cons y yr=>cases x<;>exact q.elim
  | nil=>
   cases r2
   cases x with
   | lst ys=>
    obtain⟨p,us,rfl,h2,h3⟩:=r1
    exact .inl ⟨p,us,rfl,.inl h2,by rw[← h3.length];exact q.2⟩
   | tup ys=>
    obtain⟨p,us,rfl,h2,h3⟩:=r1
    exact .inl ⟨p,us,rfl,.inr h2,by rw[← h3.length];exact q.2⟩
   | str z=>
    cases r1
    rcases QE (show(if fits z.length=true then Out.ok (D.int z.length) else .stuck).post _ _ from q) with⟨hc,q⟩ | ⟨_,q⟩
    ·exact .inr ⟨z,rfl,of_decide_eq_true hc,q.2⟩
    ·exact q.elim
   | _=>exact q.elim
theorem QrY:scalA fLen:=by
 intro xs
 cases xs with
 | nil=>exact True.intro
 | cons x xr=>
  cases xr with
  | cons y yr=>cases x<;>exact True.intro
  | nil=>
   cases x with
   | lst ys=>exact rfl
   | tup ys=>exact rfl
   | str z=>exact Qcj rfl
   | _=>exact True.intro
theorem Qau(hg:Gl C.X "len")(hm:C.X.mg "len"=none)(ha:DAB C (e::es) A)
 (he:starEach (e::es) C.X.env=(false,eval e C.X.env)::starEach es C.X.env:=by rfl) (hpl:(backTo pos (starEach es C.X.env)).any (·.1)=false:=by rfl):DE C (.Call (.Name "len" p) (e::es) [] pos) (eA fLen A):=
 Qhw (QmK.or Qmu) Qt2 QrY hg hm PySem.boot_len ha (by decide) (by decide) he hpl
def f1(g:D->Out D):List D->Out D
 | [x]=>g x
 | _=>.stuck
theorem QgZ{g:D->Out D}(h:∀ x,match g x with | .ok d=>d.scal=true | .exc _=>False | .stuck=>True):scalA (f1 g):=by
 intro xs
 match xs with
 | []=>exact True.intro
 | [x]=>exact h x
 | _::_::_=>exact True.intro
def dAbs:D->Out D
 | .int i=>.ok (.int (if i<0 then -i else i))
 | _=>.stuck
theorem Qid{r:List V->Hp->VK->Prop}{g:D->Out D}(h:∀ G H σ ς (Q:VK) x v,StR C G H σ ς->Rep C.X.K C.CT H x v->(g x).post (fun d=>d.scal=true/\Q (toV d) H) (fun _=>False)->r [v] H Q):DCS C r (f1 g):=by
 intro G H σ ς Q xs vs S r q
 match xs,r with
 | [],_=>exact q.elim
 | [x],⟨v,vr,e1,r1,r2⟩=>cases r2;subst e1;exact h G H σ ς Q x v S r1 q
 | _::_::_,_=>exact q.elim
end
mutual
def D.py:D->PyData
 | .non=>.none
 | .bl b=>.bool b
 | .int i=>.int i
 | .str x=>.str x
 | .lst xs=>.list (D.pys xs)
 | .tup xs=>.tuple (D.pys xs)
 | .dic _=>.dict []
 | .ins _ _=>.dict []
 | .err _=>.dict []
def D.pys:List D->List PyData
 | []=>[]
 | x::xs=>D.py x::D.pys xs
end
section
variable{X:Cx}{pins:List (Addr×Obj)}{σ:L2.St}{H:Hp}{s:Shared}{CT:CTab}
mutual
theorem Qez(I:Inv X pins σ H s):∀(d:D)(v:V)(u:Value),Rep X.K CT H d v->RelV v u->d.py.canLay0=true->∃ as,Reads s.heap u d.py as
 | .non,_,_,h,r,_=>by cases h;cases r;exact⟨_,.none⟩
 | .bl b,_,_,h,r,_=>by cases h;cases r;exact⟨_,.bool b⟩
 | .int i,_,_,h,r,_=>by cases h;obtain⟨t,rfl⟩:=r;exact⟨_,.int i t⟩
 | .str x,_,_,h,r,_=>by cases h;obtain⟨t,rfl⟩:=r;exact⟨_,.str x t⟩
 | .lst ds,_,_,⟨a,vs,h1,h2,h3⟩,r,c=>by
  subst h1;cases r
  obtain⟨its,q,⟨o,n,ho,hc,_,hd⟩,_⟩:=I.list h2
  obtain⟨as,ra⟩:=Qgp I ds vs its h3 q (by simpa [D.py,PyData.canLay0] using c)
  exact⟨_,.list ho hc hd (by simpa using ra)⟩
 | .tup ds,_,_,⟨a,vs,h1,h2,h3⟩,r,c=>by
  subst h1;cases r
  obtain⟨its,q,⟨o,ho,hc,n,hd⟩,_⟩:=I.tuple h2
  obtain⟨as,ra⟩:=Qgp I ds vs its h3 q (by simpa [D.py,PyData.canLay0] using c)
  exact⟨_,.tuple ho hc hd (by simpa using ra)⟩
 | .dic _,_,_,_,_,c=>by simp[D.py,PyData.canLay0]at c
 | .ins _ _,_,_,_,_,c=>by simp[D.py,PyData.canLay0]at c
 | .err _,_,_,_,_,c=>by simp[D.py,PyData.canLay0]at c
theorem Qgp(I:Inv X pins σ H s):∀(ds:List D)(vs:List V)(us:List Value),RepL X.K CT H ds vs->Vals vs us->PyData.canLayAll0 (D.pys ds)=true->∃ as,ReadsAll s.heap us (D.pys ds) as
 | [],_,_,h,r,_=>by cases h;cases r;exact⟨_,.nil⟩
 | d::ds,_,_,⟨v,w,h1,h2,h3⟩,r,c=>by
  subst h1
  cases r with
  | cons r1 r2=>
   have c':d.py.canLay0=true/\PyData.canLayAll0 (D.pys ds)=true:=by simpa [D.pys,PyData.canLayAll0] using c
   obtain⟨as,q1⟩:=Qez I d v _ h2 r1 c'.1
   obtain⟨bs,q2⟩:=Qgp I ds w _ h3 r2 c'.2
   exact⟨_,.cons q1 q2⟩
end
end
def shp(d:D):Bool:=SeqAt.shaped d.py
def dEq(x y:D):Out D:=if (shp x&&shp y)=true then .ok (.bl (PyData.eqv x.py y.py)) else .stuck
def dNe(x y:D):Out D:=if (shp x&&shp y)=true then .ok (.bl (!PyData.eqv x.py y.py)) else .stuck
section
variable{C:Dc}{a b:Expr}{A B:SD->Out D}{pos:Pos}
def rEqD(C:Dc)(n:Bool):R2:=fun vx vy H Q=>∃ x y,Rep C.X.K C.CT H x vx/\Rep C.X.K C.CT H y vy/\shp x=true/\shp y=true/\Q (.bl (n != PyData.eqv x.py y.py)) H
theorem QqJ(hu:C.X.A.units+64<cLine):OpR C.X (compareOp .Eq) (rEqD C false):=by
 intro pins s σ H vx vy u w Q I rx ry h
 obtain⟨x,y,h1,h2,h3,h4,q⟩:=h
 obtain⟨as,ra⟩:=Qez I x vx u h1 rx (SeqAt.canLay_of_shaped h3)
 obtain⟨bs,rb⟩:=Qez I y vy w h2 ry (SeqAt.canLay_of_shaped h4)
 exact eq_dataH ra rb h3 h4 hu ⟨.bl _,H,I,rfl,by simpa using q⟩
theorem Qrb(hu:C.X.A.units+64<cLine):OpR C.X (compareOp .NotEq) (rEqD C true):=by
 intro pins s σ H vx vy u w Q I rx ry h
 obtain⟨x,y,h1,h2,h3,h4,q⟩:=h
 obtain⟨as,ra⟩:=Qez I x vx u h1 rx (SeqAt.canLay_of_shaped h3)
 obtain⟨bs,rb⟩:=Qez I y vy w h2 ry (SeqAt.canLay_of_shaped h4)
 exact ne_dataH ra rb h3 h4 hu ⟨.bl _,H,I,rfl,by simpa using q⟩
theorem Qqw:DRS C (rEqD C false) dEq:=by
 intro G H σ ς Q x y vx vy S hx hy q
 rcases QE q with⟨hc,q⟩ | ⟨_,q⟩
 ·rw[Bool.and_eq_true]at hc
  exact⟨x,y,hx,hy,hc.1,hc.2,by simpa [toV] using q.2⟩
 ·exact q.elim
theorem Qrx:DRS C (rEqD C true) dNe:=by
 intro G H σ ς Q x y vx vy S hx hy q
 rcases QE q with⟨hc,q⟩ | ⟨_,q⟩
 ·rw[Bool.and_eq_true]at hc
  exact⟨x,y,hx,hy,hc.1,hc.2,by simpa [toV] using q.2⟩
 ·exact q.elim
theorem QoK:scal2 dEq:=fun x y=>Qcj rfl
theorem QoH:scal2 dNe:=fun x y=>Qcj rfl
theorem dt_lt(ha:DB C a A)(hb:DB C b B):DT C (.Compare a [.Lt] [b] pos) (tVal (e2 dLt A B)):=Qim op_lt QbL (Qbn fun _ _=>rfl) ha hb (Qft _)
theorem dt_gt(ha:DB C a A)(hb:DB C b B):DT C (.Compare a [.Gt] [b] pos) (tVal (e2 dGt A B)):=Qim op_gt QbL (Qbn fun _ _=>rfl) ha hb (Qft _)
theorem de_eq(hu:C.X.A.units+64<cLine)(ha:DB C a A)(hb:DB C b B):DE C (.Compare a [.Eq] [b] pos) (e2 dEq A B):=QlI (QqJ hu) Qqw QoK ha hb (Qft _)
theorem de_ne(hu:C.X.A.units+64<cLine)(ha:DB C a A)(hb:DB C b B):DE C (.Compare a [.NotEq] [b] pos) (e2 dNe A B):=QlI (Qrb hu) Qrx QoH ha hb (Qft _)
theorem dt_eq(hu:C.X.A.units+64<cLine)(ha:DB C a A)(hb:DB C b B):DT C (.Compare a [.Eq] [b] pos) (tVal (e2 dEq A B)):=Qim (QqJ hu) Qqw QoK ha hb (Qft _)
theorem dt_ne(hu:C.X.A.units+64<cLine)(ha:DB C a A)(hb:DB C b B):DT C (.Compare a [.NotEq] [b] pos) (tVal (e2 dNe A B)):=Qim (Qrb hu) Qrx QoH ha hb (Qft _)
end
end DL
namespace DL
open PySem PySem.Spec PyProof.Rows L2
section
variable{C:Dc}{a b:Expr}{A B:SD->Out D}{pos:Pos}
end
def Qbt:D->String
 | .non=>"NoneType"
 | .bl _=>"bool"
 | .int _=>"int"
 | .str _=>"str"
 | .lst _=>"list"
 | .tup _=>"tuple"
 | .dic _=>"dict"
 | .ins _ _=>"object"
 | .err _=>"object"
structure ClsD(K:PySem.W.Frag)(A:Addr):Prop where
 cl:Cls K A
 ha:PySem.W.findIn K (.ref A) "__class__"=some (some (.builtin "object.__class__"))
 hn:PySem.W.specialIn K (.builtin "object.__class__") "__get__"=some (some (.builtin "getset_descriptor.__get__"))
 htk:PySem.W.takesIn K (.builtin "object.__class__")=some true
 hm:PySem.W.mroIn K A (.type "object")=some true
def KitD(K:PySem.W.Frag)(CT:CTab)(d:D)(uc:Value)(b:Bool):Prop:=match d with
 | .ins c _=>∀ A,CT c=some A->ClsD K A/\PySem.W.kitOne K (.ref A) uc=some b
 | .err c=>∀ A,CT c=some A->ExCls K A/\PySem.W.kitOne K (.ref A) uc=some b
 | d=>PySem.W.kitOne K (.type (Qbt d)) uc=some b
section
variable{C:Dc}{e cx:Expr}{E:SD->Out D}{p pos:Pos}{vc:V}{uc:Value}
theorem QsK{pins:List (Addr×Obj)}{σ:L2.St}{H:Hp}{s:Shared}{A:Around}{Ex:Value->Shared->Prop}{Q:Value->Shared->Prop}{d:D}{v:V}{u:Value}{b:Bool}(I:Inv C.X pins σ H s)(h:Rep C.X.K C.CT H d v)(r:RelV v u)(k:KitD C.X.K C.CT d uc b)
 (q:∀ tk,Q (.bool b) { s with toks:=tk }):wpAny (model C.X.prog C.X.w) A (call (.builtin "isinstance") [u,uc]) Q Ex s:=by
 cases d with
 | non=>cases h;cases r;exact PySem.W.kia_one PySem.W.kitx_none I.kIn True.intro k (fun z=>nomatch z) q
 | bl y=>cases h;cases r;exact PySem.W.kia_one PySem.W.kitx_bool I.kIn True.intro k (fun z=>nomatch z) q
 | int i=>cases h;obtain⟨t,rfl⟩:=r;exact PySem.W.kia_one PySem.W.kitx_int I.kIn True.intro k (fun z=>nomatch z) q
 | str i=>cases h;obtain⟨t,rfl⟩:=r;exact PySem.W.kia_one PySem.W.kitx_str I.kIn True.intro k (fun z=>nomatch z) q
 | lst ds=>
  obtain⟨a,vs,rfl,h2,_⟩:=h;cases r
  obtain⟨its,_,⟨o,n,ho,hc,_⟩,_⟩:=I.list h2
  exact PySem.W.kia_one PySem.W.kitx_list I.kIn ⟨o,ho,hc⟩ k (fun z=>nomatch z) q
 | tup ds=>
  obtain⟨a,vs,rfl,h2,_⟩:=h;cases r
  obtain⟨its,_,⟨o,ho,hc,_⟩,_⟩:=I.tuple h2
  exact PySem.W.kia_one PySem.W.kitx_tuple I.kIn ⟨o,ho,hc⟩ k (fun z=>nomatch z) q
 | dic ds=>
  obtain⟨a,kvs,rfl,h2,_⟩:=h;cases r
  obtain⟨_,_,vs,_,p⟩:=h2.ok I.hok
  obtain⟨o,es,ep,h1,h2,_⟩:=p
  exact PySem.W.kia_one PySem.W.kitx_dict I.kIn ⟨o,h1,h2.1⟩ k (fun z=>nomatch z) q
 | ins c fs=>
  obtain⟨a,A',dx,fs',rfl,h1,h2,_⟩:=h;cases r
  obtain⟨cd,kk⟩:=k A' h1
  obtain⟨mA,O,_⟩:=Qg1 I.hok h2
  obtain⟨od,J,_⟩:=O.look
  exact PySem.W.kia_one (PySem.W.kitx_own (cd.cl.get _) cd.cl.hd cd.ha cd.hn cd.htk cd.hm) I.kIn J kk (fun z=>nomatch z) q
 | err c=>
  obtain⟨a,A',rfl,h1,h2⟩:=h;cases r
  obtain⟨cd,kk⟩:=k A' h1
  obtain⟨J,_⟩:=(show ObjOk C.X.prog C.X.w H s.heap a (exO a A') from I.hok a _ h2)
  exact PySem.W.kia_one (QrQ cd) I.kIn J kk (fun z=>nomatch z) q
def clsV:V->Option Value
 | .ty n=>some (.type n)
 | .ref a=>some (.ref a)
 | _=>none
def eIsa(f:D->Out Bool)(a:SD->Out D):SD->Out D:=fun ς=>a ς>>=fun d=>f d>>=fun b=>.ok (.bl b)
theorem QqO{f:D->Out Bool}(hc:PE C.X cx (tC vc))(rc:clsV vc=some uc)(hf:∀ d,match f d with | .ok b=>KitD C.X.K C.CT d uc b | .exc _=>False | .stuck=>True)(hg:Gl C.X "isinstance")(hm:C.X.mg "isinstance"=none)(h:DB C e E)
 (he:starEach (e::[cx]) C.X.env=(false,eval e C.X.env)::starEach [cx] C.X.env:=by rfl) (he2:starEach (cx::[]) C.X.env=(false,eval cx C.X.env)::starEach [] C.X.env:=by rfl)
 (hpl:(backTo pos (starEach [cx] C.X.env)).any (·.1)=false:=by rfl):DE C (.Call (.Name "isinstance" p) [e,cx] [] pos) (eIsa f E):=by
 obtain⟨t,p1,q1⟩:=h
 have hR:CallR C.X (.builtin "isinstance") (fun xs H Q=>∃ d x b,xs=[x,vc]/\Rep C.X.K C.CT H d x/\KitD C.X.K C.CT d uc b/\Q (.bl b) H):=by
  intro pins s σ H xs us Q I r h
  obtain⟨d,x,b,rfl,h1,h2,q⟩:=h
  obtain⟨u,w,rfl,r1,r2⟩:=vals2 r
  have:w=uc:=by
   cases vc<;>first
    | (cases rc;cases r2;rfl)
    | cases rc
  subst this
  exact QsK I h1 r1 h2 fun tk=>⟨.bl b,H,I.tok _,rfl,q⟩
 refine⟨_,Qmn hR hg hm PyProof.Rows.Boot.«isinstance» (Qbe p1 (Qbe hc Qb1 he2) he) (by decide) (by decide) he hpl,fun G H σ ς Q S q=>?_⟩
 unfold eIsa at q
 rw[Out.post_bind]at q
 refine q1 G H σ ς _ S (Out.post_mono q fun d k v1 H1 G1 S1 a1 b1 r1=>?_)
 rw[Out.post_bind]at k
 have hd:=hf d
 cases e:f d with
 | exc _=>rw[e]at hd;exact hd.elim
 | stuck=>rw[e]at k;exact k.elim
 | ok b=>
  rw[e]at k hd
  exact⟨d,v1,b,rfl,r1,hd,KD.now (KD.later (show KD C G H σ ς Q (.bl b) from k) a1 b1) S1 rfl⟩
end
end DL
namespace DL
open PySem PySem.Spec PyProof.Rows L2
section
variable{C:Dc}{G H:Hp}{σ:St}{ς:SD}
theorem Ql{α:Type}{xs:List α}{i j:Nat}{x y:α}(h:(xs.set i x)[j]?=some y):(i=j/\y=x/\i<xs.length)∨(i≠j/\xs[j]?=some y):=by
 rw[List.getElem?_set]at h
 by_cases e:i=j
 ·rw[if_pos e]at h
  by_cases l:i<xs.length
  ·rw[if_pos l]at h;exact .inl ⟨e,(Option.some.inj h).symm,l⟩
  ·rw[if_neg l]at h;cases h
 ·rw[if_neg e]at h;exact .inr ⟨e,h⟩
theorem Qee{α:Type}{xs:List α}{i:Nat}{x:α}(h:i<xs.length):(xs.set i x)[i]?=some x:=by
 rw[List.getElem?_set,if_pos rfl,if_pos h]
theorem Qk{α:Type}{xs:List α}{i j:Nat}{x:α}(h:i≠j):(xs.set i x)[j]?=xs[j]?:=by
 rw[List.getElem?_set,if_neg h]
theorem StR.set(S:StR C G H σ ς){d:D}{v:V}(i:Nat)(r:Rep C.X.K C.CT G d v):StR C G H (σ.set i (some v)) (ς.set i (some (.k,d))) where
 toGH:=S.toGH
 len:=by rw[List.length_set,List.length_set];exact S.len
 fz:=fun j e h=>by
  rcases Ql h with⟨rfl,h2,l⟩ | ⟨ne,h2⟩
  ·cases h2
   exact⟨v,Qee (by rw[S.len];exact l),r⟩
  ·rw[Qk ne];exact S.fz j e h2
 ow:=fun j e h=>by
  rcases Ql h with⟨rfl,h2,l⟩ | ⟨ne,h2⟩
  ·cases h2
  ·rw[Qk ne];exact S.ow j e h2
 ln:=fun j e h=>by
  rcases Ql h with⟨rfl,h2,l⟩ | ⟨ne,h2⟩
  ·cases h2
  ·rw[Qk ne];exact S.ln j e h2
 inj:=fun j k d1 d2 p hjk h1 h2 h3=>by
  rcases Ql h1 with⟨rfl,q1,l⟩ | ⟨n1,q1⟩
  ·cases q1
  ·rcases Ql h2 with⟨rfl,q2,l⟩ | ⟨n2,q2⟩
   ·cases q2
   ·rw[Qk n1]at h3
    rw[Qk n2];exact S.inj j k d1 d2 p hjk q1 q2 h3
 sf:=fun j e h=>by
  rcases Ql h with⟨rfl,h2,l⟩ | ⟨ne,h2⟩
  ·cases h2
  ·rw[Qk ne];exact S.sf j e h2
 su:=fun j k d1 d2 p hjk h1 h2 h3=>by
  rcases Ql h1 with⟨rfl,q1,l⟩ | ⟨n1,q1⟩
  ·cases q1
  ·rcases Ql h2 with⟨rfl,q2,l⟩ | ⟨n2,q2⟩
   ·cases q2
   ·rw[Qk n1]at h3
    rw[Qk n2];exact S.su j k d1 d2 p hjk q1 q2 h3
theorem StR.setO(S:StR C G H σ ς){d:D}{p:Addr}(i:Nat)(hg:G p=none)(h0:C.H0 p=none)(ow:Own C.X.K C.CT G H p d)(hn:∀(j:Nat) e,j≠i->ς[j]?=some (some (.o,e))->σ[j]?≠some (some (.ref p))):
 StR C G H (σ.set i (some (.ref p))) (ς.set i (some (.o,d))) where
 toGH:=S.toGH
 len:=by rw[List.length_set,List.length_set];exact S.len
 fz:=fun j e h=>by
  rcases Ql h with⟨rfl,h2,l⟩ | ⟨ne,h2⟩
  ·cases h2
  ·rw[Qk ne];exact S.fz j e h2
 ow:=fun j e h=>by
  rcases Ql h with⟨rfl,h2,l⟩ | ⟨ne,h2⟩
  ·cases h2
   exact⟨p,Qee (by rw[S.len];exact l),hg,h0,ow⟩
  ·rw[Qk ne];exact S.ow j e h2
 ln:=fun j e h=>by
  rcases Ql h with⟨rfl,h2,l⟩ | ⟨ne,h2⟩
  ·cases h2
  ·rw[Qk ne];exact S.ln j e h2
 inj:=fun j k d1 d2 q hjk h1 h2 h3=>by
  rcases Ql h1 with⟨rfl,q1,l1⟩ | ⟨n1,q1⟩
  ·rcases Ql h2 with⟨rfl,q2,l⟩ | ⟨n2,q2⟩
   ·exact absurd rfl hjk
   ·rw[Qee (by rw[S.len];exact l1)]at h3
    cases h3
    rw[Qk n2];exact hn k d2 (Ne.symm n2) q2
  ·rcases Ql h2 with⟨rfl,q2,l⟩ | ⟨n2,q2⟩
   ·rw[Qk n1]at h3
    rw[Qee (by rw[S.len];exact l)]
    intro z;cases z
    exact hn j d1 (Ne.symm n1) q1 h3
   ·rw[Qk n1]at h3
    rw[Qk n2];exact S.inj j k d1 d2 q hjk q1 q2 h3
 sf:=fun j e h=>by
  rcases Ql h with⟨rfl,h2,l⟩ | ⟨ne,h2⟩
  ·cases h2
  ·rw[Qk ne];exact S.sf j e h2
 su:=fun j k d1 d2 p hjk h1 h2 h3=>by
  rcases Ql h1 with⟨rfl,q1,l⟩ | ⟨n1,q1⟩
  ·cases q1
  ·rcases Ql h2 with⟨rfl,q2,l⟩ | ⟨n2,q2⟩
   ·cases q2
   ·rw[Qk n1]at h3
    rw[Qk n2];exact S.su j k d1 d2 p hjk q1 q2 h3
end
def sNil:SD->Out Fl:=fun ς=>.ok (.nx ς)
def thenF(U:SD->Out Fl):Fl->Out Fl
 | .nx ς=>U ς
 | .rt b d=>.ok (.rt b d)
 | .bk ς=>.ok (.bk ς)
 | .ct ς=>.ok (.ct ς)
def sSeq(T U:SD->Out Fl):SD->Out Fl:=fun ς=>T ς>>=thenF U
section
variable{C:Dc}{e:Expr}{E:SD->Out D}{st:Stmt}{rest:List Stmt}{T U:SD->Out Fl}{pos:Pos}
theorem FlK.later{G G1:Hp}{W:Ends}{f:Fl}(h:FlK C G W f)(s:Same G G1):FlK C G1 W f:=by
 cases f with
 | nx ς=>exact fun σ' H' G' S q=>h σ' H' G' S (s.trans q)
 | bk ς=>exact fun σ' H' G' S q=>h σ' H' G' S (s.trans q)
 | ct ς=>exact fun σ' H' G' S q=>h σ' H' G' S (s.trans q)
 | rt b d=>exact fun σ' H' G' S q=>h σ' H' G' S (s.trans q)
theorem QD:DSs C [] sNil:=⟨_,QoC,fun G H σ ς W S q=>q σ H G S (Same.refl G)⟩
theorem Qg(h1:DS C st T)(h2:DSs C rest U):DSs C (st::rest) (sSeq T U):=by
 obtain⟨t1,p1,q1⟩:=h1
 obtain⟨t2,p2,q2⟩:=h2
 refine⟨_,Qhx p1 p2,fun G H σ ς W S q=>?_⟩
 unfold sSeq at q
 rw[Out.post_bind]at q
 refine q1 G H σ ς _ S (Out.post_mono q fun f k=>?_)
 cases f with
 | nx ς'=>exact fun σ' H' G' S' s'=>q2 G' H' σ' ς' W S' (Out.post_mono (show(U ς').post _ _ from k) fun f k=>FlK.later k s')
 | bk ς'=>exact k
 | ct ς'=>exact k
 | rt b d=>exact k
theorem Qf(h1:DS C st T):DSs C [st] T:=let ⟨t,p,q⟩:=h1;⟨t,Qt4 p,q⟩
def sSet(i:Nat)(E:SD->Out D):SD->Out Fl:=fun ς=>E ς>>=fun d=>.ok (.nx (ς.set i (some (.k,d))))
def sSetO(i:Nat)(E:SD->Out D):SD->Out Fl:=fun ς=>E ς>>=fun d=>.ok (.nx (ς.set i (some (.o,d))))
theorem QT{i:Nat}{x:Str}{pos':Pos}(hN:C.X.N.Nodup)(hi:C.X.N[i]?=some x)(hx:Loc C.X.env.scope x)(he:DE C e E)(hs:swapsWith e (some (.Name x pos')) pos.line C.X.env=pure false:=by rfl)
 (hf:C.X.fn x=true∨C.X.env.scope.names.lookup x=some .local:=by first | exact .inl rfl | exact .inr rfl | assumption):DS C (.Assign [.Name x pos'] e pos) (sSet i E):=by
 obtain⟨t,p,q⟩:=he
 refine⟨_,QqG hN hi hx p hs hf,fun G H σ ς W S k=>?_⟩
 unfold sSet at k
 rw[Out.post_bind]at k
 exact q G H σ ς _ S (Out.post_mono k fun d k v H1 G1 S1 a1 b1 r1=>k _ H1 G1 (S1.set i r1) b1)
theorem Qi2{i:Nat}{x:Str}{pos':Pos}(hN:C.X.N.Nodup)(hi:C.X.N[i]?=some x)(hx:Loc C.X.env.scope x)(he:DF C e E)(hs:swapsWith e (some (.Name x pos')) pos.line C.X.env=pure false:=by rfl)
 (hf:C.X.fn x=true∨C.X.env.scope.names.lookup x=some .local:=by first | exact .inl rfl | exact .inr rfl | assumption):DS C (.Assign [.Name x pos'] e pos) (sSetO i E):=by
 obtain⟨t,p,q⟩:=he
 refine⟨_,QqG hN hi hx p hs hf,fun G H σ ς W S k=>?_⟩
 unfold sSetO at k
 rw[Out.post_bind]at k
 exact q G H σ ς _ S (Out.post_mono k fun d k p H1 G1 S1 a1 b1 hp hg ow=>k _ H1 G1 (S1.setO i hg (S.h0none hp) ow fun j e _ z=>S.new_ne hp j e z) b1)
def sPar(i j:Nat)(A:SD->Out (List D)):SD->Out Fl:=fun ς=>A ς>>=fun ds=>match ds with
 | [x,y]=>.ok (.nx ((ς.set i (some (.k,x))).set j (some (.k,y))))
 | _=>.stuck
def QR:List Nat->List D->SD->Out SD
 | [],[],ς=>.ok ς
 | i::is,d::ds,ς=>QR is ds (ς.set i (some (.k,d)))
 | _,_,_=>.stuck
def DGs(C:Dc)(es:List Expr)(is:List Nat):Prop:=∃ t,PGs C.X es t/\∀ G H σ ς ds vs ς' (Q:St->Hp->Prop),StR C G H σ ς->RepL C.X.K C.CT G ds vs->QR is ds ς=.ok ς'->
 (∀ σ',StR C G H σ' ς'->Q σ' H)->t vs σ H Q
theorem QcZ:DGs C [] []:=by
 refine⟨_,Qs9,fun G H σ ς ds vs ς' Q S r h q=>?_⟩
 cases ds with
 | nil=>
  cases h
  exact⟨r,q σ S⟩
 | cons d ds=>cases h
theorem Qab{i:Nat}{is:List Nat}{x:Str}{es:List Expr}(hN:C.X.N.Nodup)(hi:C.X.N[i]?=some x)(hx:Loc C.X.env.scope x)(h2:DGs C es is)
 (hf:C.X.fn x=true∨C.X.env.scope.names.lookup x=some .local:=by first | exact .inl rfl | exact .inr rfl | assumption)
 (hs:(assignEach (.Name x pos::es) C.X.env).map (·.2)=assign (.Name x pos) C.X.env::(assignEach es C.X.env).map (·.2):=by rfl):DGs C (.Name x pos::es) (i::is):=by
 obtain⟨t,p,q⟩:=h2
 refine⟨_,Qsv (QoY hN hi hx hf) p hs,fun G H σ ς ds vs ς' Q S r h k=>?_⟩
 cases ds with
 | nil=>cases h
 | cons d ds=>
  obtain⟨v,w,rfl,r1,r2⟩:=r
  exact⟨v,w,rfl,q G H _ _ ds w ς' Q (S.set i r1) r2 h k⟩
def sUnp(is:List Nat)(E:SD->Out D):SD->Out Fl:=fun ς=>E ς>>=fun d=>match d with
 | .tup ds=>QR is ds ς>>=fun ς'=>.ok (.nx ς')
 | _=>.stuck
theorem QfS:∀{is:List Nat}{ds:List D}{ς ς':SD},QR is ds ς=.ok ς'->ds.length=is.length
 | [],[],_,_,_=>rfl
 | i::is,d::ds,ς,ς',h=>by
  have:=QfS (is:=is) (ds:=ds) h
  simp[this]
 | [],_::_,_,_,h=>by cases h
 | _::_,[],_,_,h=>by cases h
theorem Qqo{es:List Expr}{is:List Nat}{k:Nat}{pt:Pos}(hc:C.X.calm=true)(he:DE C e E)(hg:DGs C es is)(hn:(assignEach es C.X.env).length=is.length:=by rfl)(hst:(assignEach es C.X.env).findIdx? (·.1)=none:=by rfl)
 (hs:swapsWithSole [.Tuple es k pt] e pos.line C.X.env=pure false:=by rfl) (hw:swappedStores [.Tuple es k pt] e C.X.env=pure none:=by rfl)
 (h1:(assignEach [.Tuple es k pt] C.X.env).map (·.2)=[assign (.Tuple es k pt) C.X.env]:=by rfl):DS C (.Assign [.Tuple es k pt] e pos) (sUnp is E):=by
 obtain⟨t,p,q⟩:=he
 obtain⟨t2,p2,q2⟩:=hg
 refine⟨_,QuK p (QqL hc p2 hn hst) hs hw h1,fun G H σ ς W S k=>?_⟩
 unfold sUnp at k
 rw[Out.post_bind]at k
 refine q G H σ ς _ S (Out.post_mono k fun d k v H1 G1 S1 a1 b1 r1=>?_)
 cases d with
 | tup ds=>
  obtain⟨a,vs,rfl,h2,h3⟩:=r1
  have k':(QR is ds ς>>=fun ς'=>Out.ok (Fl.nx ς')).post (FlK C G W) C.XD:=k
  rw[Out.post_bind]at k'
  cases z:QR is ds ς with
  | exc _=>exact absurd z (by
   have:∀(is:List Nat) (ds:List D) (ς:SD) x,QR is ds ς≠.exc x:=by
    intro is
    induction is with
    | nil=>intro ds ς x h;cases ds<;>cases h
    | cons i is ih=>intro ds ς x h;cases ds with
     | nil=>cases h
     | cons d ds=>exact ih ds _ x h
   exact this is ds ς _)
  | stuck=>rw[z]at k';exact k'.elim
  | ok ς'=>
   rw[z]at k'
   refine⟨a,vs,rfl,Same.sqT S1.sub h2,by rw[← h3.length];exact QfS z,?_⟩
   exact q2 G1 H1 σ ς ds vs ς' _ S1 h3 z fun σ' S'=>k' σ' H1 G1 S' b1
 | _=>exact k.elim
def sRet(E:SD->Out D):SD->Out Fl:=fun ς=>E ς>>=fun d=>.ok (.rt false d)
def sRetF(E:SD->Out D):SD->Out Fl:=fun ς=>E ς>>=fun d=>.ok (.rt true d)
theorem Qv(he:DE C e E):DS C (.Return (some e) pos) (sRet E):=by
 obtain⟨t,p,q⟩:=he
 refine⟨_,Qld p,fun G H σ ς W S k=>?_⟩
 unfold sRet at k
 rw[Out.post_bind]at k
 exact q G H σ ς _ S (Out.post_mono k fun d k v H1 G1 S1 a1 b1 r1=>k v H1 G1 S1.toGH b1 r1)
theorem Qai(he:DF C e E):DS C (.Return (some e) pos) (sRetF E):=by
 obtain⟨t,p,q⟩:=he
 refine⟨_,Qld p,fun G H σ ς W S k=>?_⟩
 unfold sRetF at k
 rw[Out.post_bind]at k
 exact q G H σ ς _ S (Out.post_mono k fun d k p H1 G1 S1 a1 b1 hp hg ow=>k _ H1 G1 S1.toGH b1 ⟨p,rfl,S.h0none hp,hg,ow⟩)
def sRetO(i:Nat):SD->Out Fl:=fun ς=>match ς[i]? with | some (some (.o,d))=>.ok (.rt true d) | _=>.stuck
theorem Qtu(i:Nat){x:Str}{px:Pos}(hN:C.X.N[i]?=some x:=by rfl)(hv:Vis C.X.env.scope x:=by first | exact Or.inl rfl | exact Or.inr (oi rfl) | exact Or.inr (Or.inr rfl))
 (hd:(x == ("__debug__":Str))=false:=by decide) (hcd:(x == ("__classdict__":Str))=false:=by decide):DS C (.Return (some (.Name x px)) pos) (sRetO i):=by
 refine⟨_,Qld (QdF (i:=i) hN hv hd hcd),fun G H σ ς W S k=>?_⟩
 unfold sRetO at k
 split at k
 ·rename_i d z
  obtain⟨p,a,b,c,w⟩:=S.ow i d z
  exact⟨_,a,k _ H G S.toGH (Same.refl G) ⟨p,rfl,c,b,w⟩⟩
 ·exact k.elim
def sIf(c:SD->Out Bool)(T U:SD->Out Fl):SD->Out Fl:=fun ς=>c ς>>=fun b=>if b=true then T ς else U ς
theorem ds_if{c:Expr}{a b:List Stmt}{TC:SD->Out Bool}(hc:DT C c TC)(ha:DSs C a T)(hb:DSs C b U):DS C (.If c a b pos) (sIf TC T U):=by
 obtain⟨t0,p0,q0⟩:=hc
 obtain⟨t1,p1,q1⟩:=ha
 obtain⟨t2,p2,q2⟩:=hb
 refine⟨_,ps_if p0 p1 p2,fun G H σ ς W S k=>?_⟩
 unfold sIf at k
 rw[Out.post_bind]at k
 refine q0 G H σ ς _ S (Out.post_mono k fun b k H1 G1 S1 a1 b1=>?_)
 cases b with
 | true=>exact iteT (q1 G1 H1 σ ς W S1 (Out.post_mono (show(T ς).post _ _ from k) fun f k=>FlK.later k b1))
 | false=>exact iteF (q2 G1 H1 σ ς W S1 (Out.post_mono (show(U ς).post _ _ from k) fun f k=>FlK.later k b1))
def QdB:SD->Out Fl:=fun _=>.stuck
theorem Qci:DS C st QdB:=⟨_,Qr3,fun G H σ ς W S k=>k.elim⟩
end
def loopD(body:D->SD->Out Fl):List D->SD->Out Fl
 | [],ς=>.ok (.nx ς)
 | x::xs,ς=>body x ς>>=fun f=>match f with
  | .nx ς'=>loopD body xs ς'
  | .ct ς'=>loopD body xs ς'
  | .bk ς'=>.ok (.nx ς')
  | .rt b d=>.ok (.rt b d)
def DG(C:Dc)(tg:Expr)(g:D->SD->Out SD):Prop:=∃ t,PG C.X tg t/\∀ G H σ ς d v ς' (Q:St->Hp->Prop),StR C G H σ ς->Rep C.X.K C.CT G d v->g d ς=.ok ς'->(∀ σ',StR C G H σ' ς'->Q σ' H)->t v σ H Q
def gN(i:Nat):D->SD->Out SD:=fun d ς=>.ok (ς.set i (some (.k,d)))
def gT(is:List Nat):D->SD->Out SD:=fun d ς=>match d with | .tup ds=>QR is ds ς | _=>.stuck
def noExc{α β γ : Type}(g:α->β->Out γ):Prop:=∀ a b x,g a b≠.exc x
theorem QB(i:Nat):noExc (gN i):=fun _ _ _ h=>by cases h
theorem Qmv(is:List Nat):∀(ds:List D) (ς:SD) x,QR is ds ς≠.exc x:=by
 induction is with
 | nil=>intro ds ς x h;cases ds<;>cases h
 | cons i is ih=>intro ds ς x h;cases ds with
  | nil=>cases h
  | cons d ds=>exact ih ds _ x h
theorem QeH(is:List Nat):noExc (gT is):=fun d ς x h=>by
 cases d with
 | tup ds=>exact Qmv is ds ς x h
 | _=>cases h
section
variable{C:Dc}{e tg iter:Expr}{E:SD->Out D}{body:List Stmt}{T U:SD->Out Fl}{pos:Pos}{g:D->SD->Out SD}
theorem QG{i:Nat}{x:Str}(hN:C.X.N.Nodup)(hi:C.X.N[i]?=some x)(hx:Loc C.X.env.scope x)
 (hf:C.X.fn x=true∨C.X.env.scope.names.lookup x=some .local:=by first | exact .inl rfl | exact .inr rfl | assumption):DG C (.Name x pos) (gN i):=
 ⟨_,QoY hN hi hx hf,fun G H σ ς d v ς' Q S r h k=>by cases h;exact k _ (S.set i r)⟩
theorem Qgn{es:List Expr}{is:List Nat}{k:Nat}(hc:C.X.calm=true)(hg:DGs C es is)(hn:(assignEach es C.X.env).length=is.length:=by rfl)(hst:(assignEach es C.X.env).findIdx? (·.1)=none:=by rfl):
 DG C (.Tuple es k pos) (gT is):=by
 obtain⟨t2,p2,q2⟩:=hg
 refine⟨_,QqL hc p2 hn hst,fun G H σ ς d v ς' Q S r h k=>?_⟩
 cases d with
 | tup ds=>
  obtain⟨a,vs,rfl,h2,h3⟩:=r
  exact⟨a,vs,rfl,Same.sqT S.sub h2,by rw[← h3.length];exact QfS h,q2 G H σ ς ds vs ς' Q S h3 h k⟩
 | _=>cases h
def sFor(g:D->SD->Out SD)(its:SD->Out (List D))(T:SD->Out Fl):SD->Out Fl:=fun ς=>its ς>>=fun xs=>loopD (fun x ς=>g x ς>>=fun ς'=>T ς') xs ς
def itL(E:SD->Out D):SD->Out (List D):=fun ς=>E ς>>=fun d=>match d with | .lst xs=>.ok xs | _=>.stuck
theorem turnD{W:Ends}{x:D}{v:V}{xs:List D}{G H:Hp}{σ:St}{ς:SD}{tb:TS}{tt:TG}{N:L2.St->Hp->Prop}(hne:noExc g)
 (hg:∀ G H σ ς d v ς' (Q:St->Hp->Prop),StR C G H σ ς->Rep C.X.K C.CT G d v->g d ς=.ok ς'->(∀ σ',StR C G H σ' ς'->Q σ' H)->tt v σ H Q)
 (hb:∀ G H σ ς W,StR C G H σ ς->(T ς).post (FlK C G W) C.XD->tb W σ H)
 (S:StR C G H σ ς) (r:Rep C.X.K C.CT G x v) (q:(loopD (fun x ς=>g x ς>>=fun ς'=>T ς') (x::xs) ς).post (FlK C G W) C.XD)
 (hN:∀ σ' H' G' ς',StR C G' H' σ' ς'->Same G G'->(loopD (fun x ς=>g x ς>>=fun ς'=>T ς') xs ς').post (FlK C G' W) C.XD->N σ' H'):
 tt v σ H fun σ2 H2=>tb { W with nx:=N,ct:=N,bk:=W.nx } σ2 H2:=by
 have q':((g x ς>>=fun ς'=>T ς')>>=fun f=>match f with
  | .nx ς'=>loopD (fun x ς=>g x ς>>=fun ς'=>T ς') xs ς'
  | .ct ς'=>loopD (fun x ς=>g x ς>>=fun ς'=>T ς') xs ς'
  | .bk ς'=>.ok (.nx ς')
  | .rt b d=>.ok (.rt b d)).post (FlK C G W) C.XD:=q
 rw[Out.post_bind,Out.post_bind]at q'
 cases z:g x ς with
 | exc y=>exact absurd z (hne _ _ _)
 | stuck=>rw[z]at q';exact q'.elim
 | ok ς1=>
  rw[z]at q'
  refine hg G H σ ς x v ς1 _ S r z fun σ1 S1=>hb G H σ1 ς1 _ S1 (Out.post_mono q' fun f k=>?_)
  cases f with
  | nx ς'=>exact fun σ' H' G' S' s'=>hN σ' H' G' ς' S' s' (Out.post_mono (show(loopD _ xs ς').post _ _ from k) fun f k=>FlK.later k s')
  | ct ς'=>exact fun σ' H' G' S' s'=>hN σ' H' G' ς' S' s' (Out.post_mono (show(loopD _ xs ς').post _ _ from k) fun f k=>FlK.later k s')
  | bk ς'=>exact fun σ' H' G' S' s'=>(show FlK C G W (.nx ς') from k) σ' H' G' S' s'
  | rt b d=>exact k
theorem QeX{α:Type}{xs:List α}{i:Nat}{x:α}(h:xs[i]?=some x):xs.drop i=x::xs.drop (i+1):=by
 obtain⟨l,e⟩:=List.getElem?_eq_some_iff.mp h
 rw[List.drop_eq_getElem_cons l,e]
def QaY(lo:Int)(n:Nat):List D:=(List.range n).map fun(i:Nat)=>D.int (lo+i)
theorem QpG{lo:Int}{n i:Nat}(h:i<n):(QaY lo n)[i]?=some (D.int (lo+i)):=by
 unfold QaY
 rw[List.getElem?_map,List.getElem?_range h];rfl
theorem Qh7{lo:Int}{n:Nat}:(QaY lo n).length=n:=by simp[QaY]
def QfF(i:Int):Bool:=decide (-(2 ^ 62)<=i)&&decide (i<2 ^ 62)
def itR1(A:SD->Out D):SD->Out (List D):=fun ς=>A ς>>=fun d=>match d with
 | .int n=>if QfF n=true then .ok (QaY 0 n.toNat) else .stuck
 | _=>.stuck
theorem QpZ{i:Int}(h:QfF i=true) : -(2 ^ 62)<=i/\i<2 ^ 62:=by
 unfold QfF at h
 rw[Bool.and_eq_true]at h
 exact⟨of_decide_eq_true h.1,of_decide_eq_true h.2⟩
end
end DL
namespace DL
open PySem PySem.Spec PyProof.Rows L2
def RetG(K:PySem.W.Frag)(CT:CTab)(fr:Bool)(H0 G' H':Hp)(d:D)(v:V):Prop:=
 if (fr && !d.scal)=true then ∃ p,v=.ref p/\H0 p=none/\G' p=none/\Own K CT G' H' p d else Rep K CT G' d v
def retF(fr:Bool):Fl->Out D
 | .rt b d=>if (!fr||b||d.scal)=true then .ok d else .stuck
 | .nx _=>.ok .non
 | _=>.stuck
def bodyF(fr:Bool)(n len:Nat)(T:SD->Out Fl):List D->Out D:=fun ds=>
 if ds.length=n then T (ds.map (fun d=>some (.k,d))++List.replicate (len - n) none)>>=retF fr else .stuck
def SpD(K:PySem.W.Frag)(CT:CTab)(fr:Bool)(m:List D->Out D):Sp:=fun vs H Q _=>∃ ds G0,Same G0 H/\RepL K CT G0 ds vs/\
 (m ds).post (fun d=>∀ v H' G',Same G0 G'->Same H H'->Same G' H'->(∀ b,G0 b=none->G' b≠none->H b=none)->RetG K CT fr H G' H' d v->Q v H') (fun _=>False)
structure FunV(K:PySem.W.Frag)(x qual:Str)(st:Stmt)(f:Addr)(fd:FuncData)(dV:Value):Prop where
 ex:∃(oc:Value)(od:Option Addr)(kV doc pm:Value)(an:Option Addr)(cdv ct:Value)(osl:Array (Option Value)),
  fd=PySem.W.fnOf x qual (Qcp st) (Qbc st) (Qd st) dV kV doc pm an cdv ct/\K.lookup f=some ⟨oc,od,.func fd,osl⟩/\PySem.W.codeIn K cdv qual=true
 kp:PySem.W.keepIn K (.ref f)=true
theorem funV_mk{K:PySem.W.Frag}{x qual:Str}{st:Stmt}{f:Addr}{oc:Value}{od an:Option Addr}{osl:Array (Option Value)}{dV kV doc pm cdv ct:Value}(l:K.lookup f=some ⟨oc,od,.func (PySem.W.fnOf x qual (Qcp st) (Qbc st) (Qd st) dV kV doc pm an cdv ct),osl⟩)
 (c:PySem.W.codeIn K cdv qual=true) (k:PySem.W.keepIn K (.ref f)=true):FunV K x qual st f (PySem.W.fnOf x qual (Qcp st) (Qbc st) (Qd st) dV kV doc pm an cdv ct) dV:=⟨⟨oc,od,kV,doc,pm,an,cdv,ct,osl,rfl,l,c⟩,k⟩
theorem FunV.binds{K:PySem.W.Frag}{x qual:Str}{st:Stmt}{f:Addr}{fd:FuncData}{ps:List Str}(F:FunV K x qual st f fd .none)
 (h:∀(kV doc pm:Value)(an:Option Addr)(cdv ct:Value)(us:List Value),us.length=ps.length->bindArgs (PySem.W.fnOf x qual (Qcp st) (Qbc st) (Qd st) .none kV doc pm an cdv ct) ⟨us,[]⟩=pure (ps.zip us)):Binds K fd ps []:=by
 obtain⟨oc,od,kV,doc,pm,an,cdv,ct,osl,rfl,lk,hcd⟩:=F.ex
 exact .all (h kV doc pm an cdv ct)
abbrev dcOf(P:Program)(w:World)(K:PySem.W.Frag)(mg:Str->Option Value)(base:Heap)(CT:CTab)(N:List Str)(qual:Str)(sc:Scope)(f:Addr)(cdv:Value)(A:Around)(outer:List Env)(s:Shared)(H:Hp)(E:XK)(G:Hp):Dc:=
 { X:=(cxOf CX0 P w K mg base N qual sc f cdv A outer s H E).nox,CT:=CT,G0:=G,XD:=fun _=>False,B:=H,M:=fun _=>False }
theorem Qgu{N:List Str}{vs:List V}{i:Nat}{v:V}(h:vs[i]?=some v):(L2.start N vs)[i]?=some (some v):=by
 unfold L2.start
 have hi:i<vs.length:=(List.getElem?_eq_some_iff.mp h).1
 rw[List.getElem?_append_left (by simpa using hi),List.getElem?_map,h];rfl
theorem QbD{ds:List D}{k:Nat}{i:Nat}{x:SM×D}(h:(ds.map (fun d=>some (SM.k,d))++List.replicate k (none:Option (SM×D)))[i]?=some (some x)):∃ d,ds[i]?=some d/\x=(.k,d):=by
 by_cases hi:i<ds.length
 ·rw[List.getElem?_append_left (by simpa using hi),List.getElem?_map]at h
  cases e:ds[i]? with
  | none=>rw[e]at h;cases h
  | some d=>rw[e]at h;cases h;exact⟨d,rfl,rfl⟩
 ·rw[List.getElem?_append_right (by simpa using hi),List.getElem?_replicate]at h
  split at h<;>cases h
theorem GH.freezeR{C:Dc}{G' H':Hp}(S:GH C G' H'){p:Addr}{o:HO}(hp:H' p=some o)(hg:G' p=none)(h0:C.H0 p=none):GH C (upd G' p o) H' where
 sub:=fun b u q=>by
  by_cases hb:b=p
  ·subst hb;rw[Qx]at q;cases q;exact hp
  ·rw[Qh hb]at q;exact S.sub b u q
 g0:=S.g0.trans (Qq hg)
 new:=fun b h1 h2=>by
  by_cases hb:b=p
  ·subst hb;exact h0
  ·rw[Qh hb]at h2;exact S.new b h1 h2
 fr:=S.fr
 dom:=S.dom
 bs:=S.bs
 bh:=S.bh
theorem fnV{P:Program}{w:World}{K:PySem.W.Frag}{mg:Str->Option Value}{base:Heap}{CT:CTab}{fr:Bool}{x qual:Str}{st:Stmt}{f:Addr}{fd:FuncData}{dV:Value}{N ps:List Str}{k:Nat}{T:SD->Out Fl}
 (F:FunV K x qual st f fd dV) (S:Qm N ps (Qd st))
 (hb:∀(cdv:Value)(A:Around)(outer:List Env)(s:Shared)(H:Hp)(E:XK)(G:Hp),Room k (A.deeper (envOfC qual (Qd st) s.heap.objs.size f cdv))->DSs (dcOf P w K mg base CT N qual (Qd st) f cdv A outer s H E G) (Qbc st) T):
 FnOk P w K mg base CX0 (k+1) f fd ps (SpD K CT fr (bodyF fr ps.length N.length T)):=by
 obtain⟨oc,od,kV,doc,pm,an,cdv,ct,osl,rfl,lk,hcd⟩:=F.ex
 have hpl:ps.length<=N.length:=by have:=congrArg List.length S.pre;rw[List.length_take]at this;omega
 have len:∀ vs H Q E,SpD K CT fr (bodyF fr ps.length N.length T) vs H Q E->vs.length=ps.length:=by
  intro vs H Q E ⟨ds,G0,sub,r,q⟩
  unfold bodyF at q
  by_cases hl:ds.length=ps.length
  ·rw[← r.length];exact hl
  ·rw[if_neg hl]at q;exact q.elim
 refine fn_of lk hcd S len fun A outer s H vs Q E hr hsp=>?_
 have hlen:=len vs H Q E hsp
 obtain⟨ds,G0,sub,r,q⟩:=hsp
 obtain⟨t,p1,q1⟩:=hb cdv A outer s H E G0 hr
 have hl:ds.length=ps.length:=by rw[r.length];exact hlen
 refine⟨t,p1.nox,?_⟩
 unfold bodyF at q
 rw[if_pos hl,Out.post_bind]at q
 have S0:StR (dcOf P w K mg base CT N qual (Qd st) f cdv A outer s H E G0) G0 H (L2.start N vs) (ds.map (fun d=>some (.k,d))++List.replicate (N.length - ps.length) none):={
  sub:=sub
  g0:=Same.refl _
  new:=fun b h1 h2=>absurd h1 h2
  fr:=fun b o e _=>e
  dom:=fun b e=>e
  bs:=Same.refl _
  bh:=fun b e=>e
  len:=by unfold L2.start;simp;omega
  fz:=fun i d e=>by
   obtain⟨d',e1,e2⟩:=QbD e
   cases e2
   obtain⟨v,e3,rv⟩:=r.get e1
   exact⟨v,Qgu e3,rv⟩
  ow:=fun i d e=>by
   obtain⟨d',e1,e2⟩:=QbD e
   cases e2
  ln:=fun i d e=>by
   obtain⟨d',e1,e2⟩:=QbD e
   cases e2
  inj:=fun i j d e p _ h=>by
   obtain⟨d',e1,e2⟩:=QbD h
   cases e2
  sf:=fun i d e=>by
   obtain⟨d',e1,e2⟩:=QbD e
   cases e2
  su:=fun i j d e p _ h=>by
   obtain⟨d',e1,e2⟩:=QbD h
   cases e2 }
 refine q1 G0 H (L2.start N vs) _ _ S0 (Out.post_mono q fun fl kk=>?_)
 cases fl with
 | nx ς'=>exact fun σ' H' G' S' s'=>kk .non H' G' s' (fun b o e=>S'.fr b o e id) S'.sub S'.new (by unfold RetG;rw[if_neg (by cases fr<;>decide)];rfl)
 | bk ς'=>exact fun σ' H' G' S' s'=>kk.elim
 | ct ς'=>exact fun σ' H' G' S' s'=>kk.elim
 | rt b d=>
  intro v H' G' S' s' ret
  have kk':(if (!fr||b||d.scal)=true then Out.ok d else Out.stuck).post (fun d=>∀ v H' G',Same G0 G'->Same H H'->Same G' H'->(∀ b,G0 b=none->G' b≠none->H b=none)->RetG K CT fr H G' H' d v->Q v H') (fun _=>False):=kk
  rcases QE kk' with⟨hc,k2⟩ | ⟨_,k2⟩
  ·have k3:∀ v H' G',Same G0 G'->Same H H'->Same G' H'->(∀ b,G0 b=none->G' b≠none->H b=none)->RetG K CT fr H G' H' d v->Q v H':=k2
   cases b with
   | false=>
    refine k3 v H' G' s' (fun b o e=>S'.fr b o e id) S'.sub S'.new ?_
    unfold RetG
    have hn:¬ (fr && !d.scal)=true:=by revert hc;cases fr<;>cases d.scal<;>simp
    rw[if_neg hn]
    exact ret
   | true=>
    obtain⟨p,rfl,h0,hg,ow⟩:=(show ∃ p,v=.ref p/\H p=none/\G' p=none/\Own K CT G' H' p d from ret)
    cases fr with
    | true=>
     refine k3 _ H' G' s' (fun b o e=>S'.fr b o e id) S'.sub S'.new ?_
     have hs:d.scal=false:=by cases d<;>first | rfl | exact ow.elim
     unfold RetG
     rw[if_pos (by rw[hs];rfl)]
     exact⟨p,rfl,h0,hg,ow⟩
    | false=>
     obtain⟨o,ho⟩:=ow.there
     have S2:=GH.freezeR S' ho hg h0
     refine k3 _ H' _ (s'.trans (Qq hg)) (fun b o e=>S2.fr b o e id) S2.sub S2.new ?_
     unfold RetG
     rw[if_neg (by simp)]
     exact ow.known hg ho
  ·exact k2.elim
theorem FnOk.as{P:Program}{w:World}{K:PySem.W.Frag}{mg:Str->Option Value}{base:Heap}{CT:CTab}{fr:Bool}{k:Nat}{f:Addr}{fd:FuncData}{ps:List Str}{m m':List D->Out D}
 (F:FnOk P w K mg base CX0 k f fd ps (SpD K CT fr m)) (h:∀ ds,m' ds=.stuck∨m' ds=m ds):FnOk P w K mg base CX0 k f fd ps (SpD K CT fr m'):=by
 refine F.imp fun vs H Q E ⟨ds,G0,sub,r,q⟩=>⟨ds,G0,sub,r,?_⟩
 rcases h ds with e | e
 ·rw[e]at q;exact q.elim
 ·rw[← e];exact q
def DefOk(P:Program)(w:World)(K:PySem.W.Frag)(mg:Str->Option Value)(base:Heap)(CT:CTab)(x:Str)(k:Nat)(fr:Bool)(dd:List D)(m:List D->Out D):Prop:=
 ∃ f fd ps ds,FnOk P w K mg base CX0 k f fd ps (SpD K CT fr m)/\mg x=some (.ref f)/\PySem.W.keepIn K (.ref f)=true/\Binds K fd ps ds/\Vals (dd.map toV) ds
theorem QlS{K:PySem.W.Frag}{CT:CTab}{H:Hp}:∀{dd:List D},dd.all D.scal=true->RepL K CT H dd (dd.map toV)
 | [],_=>rfl
 | d::ds,h=>by
  rw[List.all_cons,Bool.and_eq_true]at h
  exact⟨_,_,rfl,Qjf h.1,QlS h.2⟩
section
variable{C:Dc}{x:Str}{k:Nat}{fr:Bool}{dd:List D}{m:List D->Out D}{e:Expr}{es:List Expr}{A:SD->Out (List D)}{p pos:Pos}
theorem de_f(h:DefOk C.X.prog C.X.w C.X.K C.X.mg C.X.base C.CT x k fr dd m)(hr:Room k C.X.A)(ha:DA C (e::es) A)(hg:Gl C.X x)(hs:dd.all D.scal=true:=by rfl)(hx:∀ x,¬ C.XD x:=by exact fun _ h=>h)
 (hdb:(x == ("__debug__":Str))=false:=by decide) (he:starEach (e::es) C.X.env=(false,eval e C.X.env)::starEach es C.X.env:=by rfl) (hpl:(backTo pos (starEach es C.X.env)).any (·.1)=false:=by rfl):
 DE C (.Call (.Name x p) (e::es) [] pos) (eA (fun xs=>m (xs++dd)) A):=by
 obtain⟨f,fd,ps,ds,F,hm,hk,hb,hd⟩:=h
 obtain⟨t,p1,q1⟩:=ha
 refine⟨_,QtT F hr hg hm hk hb hd pass0 p1 hdb he hpl,fun G H σ ς Q S q=>?_⟩
 unfold eA at q
 rw[Out.post_bind]at q
 refine q1 G H σ ς _ S (Out.post_mono q fun xs kk vs H1 G1 S1 a1 b1 r1=>⟨xs++dd,G1,S1.sub,r1.append (QlS hs),?_⟩)
 cases z:m (xs++dd) with
 | stuck=>rw[z]at kk;exact kk.elim
 | exc y=>rw[z]at kk;exact absurd kk (hx y)
 | ok d=>
  rw[z]at kk
  intro v H' G' g1 h1 s1 n1 ret
  unfold RetG at ret
  by_cases hc:(fr && !d.scal)=true
  ·rw[if_pos hc]at ret
   obtain⟨pp,rfl,h0,hg',ow⟩:=ret
   obtain⟨o,ho⟩:=ow.there
   have S2:=(S1.grow h1 g1 s1 n1).freeze ho hg' (S1.h0none h0) (fun i d' z1 z2=>by
    obtain⟨o',ho'⟩:=S1.own_ne z1 z2
    rw[h0]at ho';cases ho')
   exact(show KD C G H σ ς Q d from kk) _ _ _ S2 (a1.trans h1) ((b1.trans g1).trans (Qq hg')) (ow.known hg' ho)
  ·rw[if_neg hc]at ret
   exact(show KD C G H σ ς Q d from kk) v H' G' (S1.grow h1 g1 s1 n1) (a1.trans h1) (b1.trans g1) ret
end
abbrev bitsI(i:Int):Nat:=Builtin.Int.intBits i
theorem Qh5:∀{xs:List PySem.W.WData}{x:PySem.W.WData},x∈xs->x.weight<=PySem.W.WData.weightAll xs
 | y::r,x,hx=>by
  rcases List.mem_cons.mp hx with rfl | hx'
  ·simp only[PySem.W.WData.weightAll];omega
  ·have:=Qh5 hx'
   simp only[PySem.W.WData.weightAll];omega
theorem QmQ{ns:List Int}(h:PySem.W.WData.layableAll [PySem.W.WData.list (ns.map PySem.W.WData.int)]=true):∀ z∈ns,bitsI z<=1048576:=fun z hz=>by
 have h1:(PySem.W.WData.list (ns.map PySem.W.WData.int)).layable=true:=by simpa [PySem.W.WData.layableAll] using h
 have h2:(PySem.W.WData.list (ns.map PySem.W.WData.int)).weight<=2 ^ 20:=of_decide_eq_true (Bool.and_eq_true_iff.mp h1).2
 have h3:(PySem.W.WData.int z).weight<=PySem.W.WData.weightAll (ns.map PySem.W.WData.int):=Qh5 (List.mem_map.mpr ⟨z,hz,rfl⟩)
 have h4:(PySem.W.WData.int z).weight<=1048576:=by
  have e:(2:Nat) ^ 20=1048576:=by decide
  simp only[PySem.W.WData.weight]at h2
  omega
 simpa only[PySem.W.WData.weight,Builtin.Int.intBits] using h4
theorem walk_of{l:PySem.W.OpenLaw}{n k:Nat}{q:Program}{loose:List Str}{XP:(Str->Option Value)->Heap->Prop}{YP:World->Heap->Prop}{d:DefRec}{K:Params->PySem.W.Frag}{CX:World->CXT}{sp:World->Sp}{x:Str}
 (hn:l.most=some n) (hn2:n<=sizeLine) (hdf:d.params.defaults=[]) (hr:Room k callerA)
 (hY:∀(w:World)(h:Heap),YP w h->(K w.params).In h)
 (F:∀(w:World)(mg:Str->Option Value)(fa:Addr)(h:Heap),(K w.params).In h->h.Ns mainGlobals mg->mg d.name=some (.ref fa)->
  ∃ fd:FuncData,(∀(s:Shared)(u:Value),BindsTo s fd ⟨[u],[]⟩ [(x,u)])/\
   ∀ base:Heap,(K w.params).In base->base.Ns mainGlobals mg->FnOk l.prog w (K w.params) mg base (CX w) k fa fd [x] (sp w))
 (hsp:∀(w:World)(H:Hp)(a:Addr)(ns:List Int),ns.length<=n->(∀ z∈ns,bitsI z<=1048576)->Only H->SqL (K w.params) H a (ns.map V.int)->sp w [.ref a] H (fun v _=>v=.bl true) fun _ _ _=>False)
 (hCX:∀(w:World)(H:Hp)(s:Shared)(e:Value)(s':Shared),CX w [] H s (fun _ _ _=>False) e s'->False):
 PySem.W.WalkO q loose XP YP l.row.toRowW d [] (fun f vs=>PySem.call f vs):=by
 intro w s₀ s₁ mg mb G Y fa o pm cd doc dV kV ho hd hcd hD hmg hg args vals as hpre hlay hrd hwl hlo
 obtain rfl:dV=.none:=PySem.W.Dflts.none hD hdf
 obtain rfl:kV=.none:=PySem.W.Dflts.noKw hD
 obtain⟨a,vs,ns,rfl,rfl,hobj,hints,hlen⟩:=Att.script_of hn hpre hwl
 have KX:=hY w _ Y
 obtain⟨fd,hb,hF⟩:=F w mg fa _ KX G.T.g hmg
 refine PySem.W.enter_call (codeAny_mono (Qsy KX G.T.g G.T.b G.T.builtins G.T.nolimit hg hobj hints (Nat.le_trans hlen hn2) hr hF hb (fun H hO hS=>hsp w H a ns hlen (QmQ hlay) hO hS) fun H e s'=>hCX w H s₁ e s') fun r s' hq=>?_)
 obtain⟨rfl,h2,h3,h4⟩:=hq
 exact⟨.inl ⟨.bool true,.bool true,[],rfl,fun _=>rfl,.bool true,Att.post_true l _,fun _=>⟨List.Pairwise.nil,fun _ hm=>(nomatch hm)⟩⟩,h2,h3,h4⟩
end DL
namespace DL
open PySem PySem.Spec PyProof.Rows L2
def rCatS(K:PySem.W.Frag):R2:=fun x y H Q=>∃ l b xs zs,x=.ref l/\y=.ref b/\SqL K H l xs/\SqL K H b zs/\xs.length+zs.length<=sizeLine/\∀ p,H p=none->Q (.ref p) (upd H p (.lst (xs++zs)))
theorem Qtv{X:Cx}:OpR X (binaryOp .Add) (rCatS X.K):=by
 intro pins s σ H x y v u Q I rx ry h
 obtain⟨l,b,xs,zs,rfl,rfl,hH,hB,hz,q⟩:=h
 cases rx
 cases ry
 obtain⟨its,r,pl,hz1⟩:=I.list hH
 obtain⟨its2,r2,pl2,hz2⟩:=I.list hB
 obtain⟨⟨cls,dd,data,sl⟩,n,ho,hc,hdd,hd⟩:=pl
 obtain⟨⟨cls2,dd2,data2,sl2⟩,n2,ho2,hc2,hdd2,hd2⟩:=pl2
 simp only at hc hd hc2 hd2
 subst hc hd hc2 hd2
 have e:its.toArray++its2.toArray=(its++its2).toArray:=by simp
 have h1:=r.length
 have h2:=r2.length
 refine concat_meets ⟨_,ho,rfl⟩ ⟨_,ho2,rfl⟩ noFill_list_add seq_list_add PySem.F.slot_list_add PySem.F.entry_list_add (PySem.F.args_list_add_2 _ _) (list_addW l b its.toArray its2.toArray n n2 dd dd2 sl sl2 (by rw[List.size_toArray,List.size_toArray];omega)) ⟨ho,ho2,?_⟩
 rw[e]
 exact⟨.ref _,_,I.lnew (t':=s.toks) (r.append r2) (by rw[List.length_append];omega),rfl,q _ I.fresh⟩
def dCat:D->D->Out D
 | .lst xs,.lst ys=>if fits (xs.length+ys.length)=true then .ok (.lst (xs++ys)) else .stuck
 | _,_=>.stuck
def dRep:D->D->Out D
 | .lst xs,.int k=>if (decide (-(2 ^ 63)<=k)&&decide (k<2 ^ 63)&&fits (xs.length * k.toNat))=true then .ok (.lst (List.replicate k.toNat xs).flatten) else .stuck
 | _,_=>.stuck
section
variable{C:Dc}{a b:Expr}{A B:SD->Out D}{pos:Pos}
theorem QuO(ha:DE C a A)(hb:DE C b B):DF C (.BinOp a .Add b pos) (e2 dCat A B):=by
 obtain⟨ta,p1,q1⟩:=ha
 obtain⟨tb,p2,q2⟩:=hb
 refine⟨_,pe_op Qtv p1 p2,fun G H σ ς Q S q=>?_⟩
 unfold e2 at q
 rw[Out.post_bind]at q
 refine q1 G H σ ς _ S (Out.post_mono q fun x k v1 H1 G1 S1 a1 b1 r1=>?_)
 rw[Out.post_bind]at k
 refine q2 G1 H1 σ ς _ S1 (Out.post_mono k fun y k2 v2 H2 G2 S2 a2 b2 r2=>?_)
 have r1':=Rep.mono b2 x v1 r1
 cases x with
 | lst xs=>
  cases y with
  | lst ys=>
   obtain⟨p,vs,rfl,h2,h3⟩:=r1'
   obtain⟨p',vs',rfl,h2',h3'⟩:=r2
   rcases QE (show(if fits (xs.length+ys.length)=true then Out.ok (D.lst (xs++ys)) else .stuck).post _ _ from k2) with⟨hc,k3⟩ | ⟨_,k3⟩
   ·exact⟨p,p',vs,vs',rfl,rfl,S2.sub.seq h2,S2.sub.seq h2',by rw[← h3.length, ← h3'.length];exact of_decide_eq_true hc,
     KF.lst (KF.later (show KF C G H σ ς Q (.lst (xs++ys)) from k3) (a1.trans a2) (b1.trans b2)) S2 (h3.append h3')⟩
   ·exact k3.elim
  | _=>exact k2.elim
 | _=>cases y<;>exact k2.elim
theorem Qre(ha:DF C a A)(hb:DB C b B):DF C (.BinOp a .Mult b pos) (e2 dRep A B):=by
 obtain⟨ta,p1,q1⟩:=ha
 obtain⟨tb,p2,q2⟩:=hb
 refine⟨_,pe_op Qus p1 p2,fun G H σ ς Q S q=>?_⟩
 unfold e2 at q
 rw[Out.post_bind]at q
 refine q1 G H σ ς _ S (Out.post_mono q fun x k p H1 G1 S1 a1 b1 hp hg ow=>?_)
 rw[Out.post_bind]at k
 refine q2 G1 H1 σ ς _ S1 (Out.post_mono k fun y k2 v2 H2 G2 S2 a2 b2 r2=>?_)
 cases x with
 | lst xs=>
  cases y with
  | int i=>
   cases r2
   obtain⟨vs,h2,h3⟩:=ow
   rcases QE (show(if (decide (-(2 ^ 63)<=i)&&decide (i<2 ^ 63)&&fits (xs.length * i.toNat))=true then Out.ok (D.lst (List.replicate i.toNat xs).flatten) else .stuck).post _ _ from k2) with⟨hc,k3⟩ | ⟨_,k3⟩
   ·rw[Bool.and_eq_true,Bool.and_eq_true]at hc
    have h3':RepL C.X.K C.CT G2 xs vs:=RepL.mono b2 xs vs h3
    exact⟨p,i,vs,rfl,rfl,a2 _ _ h2,of_decide_eq_true hc.1.1,of_decide_eq_true hc.1.2,by rw[← h3'.length];exact of_decide_eq_true hc.2,
     KF.lst (KF.later (show KF C G H σ ς Q (.lst (List.replicate i.toNat xs).flatten) from k3) (a1.trans a2) (b1.trans b2)) S2 (h3'.rep i.toNat)⟩
   ·exact k3.elim
  | _=>exact k2.elim
 | _=>cases y<;>exact k2.elim
def dList:D->Out D
 | .lst xs=>.ok (.lst xs)
 | .tup xs=>.ok (.lst xs)
 | _=>.stuck
theorem Qed{p:Pos}(hg:Gl C.X "list")(hm:C.X.mg "list"=none)(ha:DE C a A)
 (he:starEach (a::[]) C.X.env=(false,eval a C.X.env)::starEach [] C.X.env:=by rfl):DF C (.Call (.Name "list" p) [a] [] pos) (e1 dList A):=by
 obtain⟨ta,p1,q1⟩:=ha
 refine⟨_,Qjz Qme hg hm PyProof.Rows.Boot.«list» (Qbe p1 Qb1 he) (by decide) (by decide) he rfl,fun G H σ ς Q S q=>?_⟩
 unfold e1 at q
 rw[Out.post_bind]at q
 refine q1 G H σ ς _ S (Out.post_mono q fun x k v1 H1 G1 S1 a1 b1 r1=>?_)
 cases x with
 | lst xs=>
  obtain⟨p,vs,rfl,h2,h3⟩:=r1
  exact⟨p,vs,rfl,.inl (S1.sub.seq h2),KF.lst (KF.later (show KF C G H σ ς Q (.lst xs) from k) a1 b1) S1 h3⟩
 | tup xs=>
  obtain⟨p,vs,rfl,h2,h3⟩:=r1
  exact⟨p,vs,rfl,.inr (Same.sqT S1.sub h2),KF.lst (KF.later (show KF C G H σ ς Q (.lst xs) from k) a1 b1) S1 h3⟩
 | _=>exact k.elim
end
section
variable{C:Dc}{e:Expr}{es:List Expr}{A:SD->Out (List D)}{p pos:Pos}
def fMin2:List D->Out D
 | [.int i,.int j]=>.ok (.int (if j<i then j else i))
 | _=>.stuck
def fMax2:List D->Out D
 | [.int i,.int j]=>.ok (.int (if j > i then j else i))
 | _=>.stuck
theorem QrG(xs:List D):(∃ i j,xs=[D.int i,D.int j])∨(fMin2 xs=.stuck/\fMax2 xs=.stuck):=by
 match xs with
 | []=>exact .inr ⟨rfl,rfl⟩
 | [x]=>cases x<;>exact .inr ⟨rfl,rfl⟩
 | [x,y]=>
  cases x with
  | int i=>
   cases y with
   | int j=>exact .inl ⟨i,j,rfl⟩
   | _=>exact .inr ⟨rfl,rfl⟩
  | _=>exact .inr ⟨rfl,rfl⟩
 | x::y::z::r=>
  cases x with
  | int i=>cases y<;>exact .inr ⟨rfl,rfl⟩
  | _=>exact .inr ⟨rfl,rfl⟩
theorem Qtf(hc:C.X.calm=true)(hg:Gl C.X "min")(hm:C.X.mg "min"=none)(ha:DAB C (e::es) A)
 (he:starEach (e::es) C.X.env=(false,eval e C.X.env)::starEach es C.X.env:=by rfl) (hpl:(backTo pos (starEach es C.X.env)).any (·.1)=false:=by rfl):DE C (.Call (.Name "min" p) (e::es) [] pos) (eA fMin2 A):=by
 refine Qhw (Qq4 hc) ?_ ?_ hg hm PyProof.Rows.Boot.«min» ha (by decide) (by decide) he hpl
 ·intro G H σ ς Q xs vs S r q
  rcases QrG xs with⟨i,j,rfl⟩ | ⟨h,_⟩
  ·obtain⟨_,_,rfl,rfl,_,_,rfl,rfl,rfl⟩:=r
   exact⟨i,j,rfl,q.2⟩
  ·rw[h]at q;exact q.elim
 ·intro xs
  rcases QrG xs with⟨i,j,rfl⟩ | ⟨h,_⟩
  ·exact rfl
  ·rw[h];exact True.intro
def dInt:D->Out D
 | .int i=>.ok (.int i)
 | .bl b=>.ok (.int (if b then 1 else 0))
 | _=>.stuck
theorem QoU(hg:Gl C.X "int")(hm:C.X.mg "int"=none)(ha:DAB C (e::es) A)
 (he:starEach (e::es) C.X.env=(false,eval e C.X.env)::starEach es C.X.env:=by rfl) (hpl:(backTo pos (starEach es C.X.env)).any (·.1)=false:=by rfl):DE C (.Call (.Name "int" p) (e::es) [] pos) (eA (f1 dInt) A):=by
 refine QgB Qro (Qid ?_) (QgZ ?_) hg hm PyProof.Rows.Boot.«int» ha (by decide) (by decide) he hpl
 ·intro G H σ ς Q x v S r q
  cases x with
  | int i=>cases r;exact .inl ⟨i,rfl,q.2⟩
  | bl b=>cases r;exact .inr ⟨b,rfl,q.2⟩
  | _=>exact q.elim
 ·intro x
  cases x<;>first | exact rfl | exact True.intro
def dStr:D->Out D
 | .int i=>if decide (i.natAbs.log2<1920)=true then .ok (.str (toString i)) else .stuck
 | _=>.stuck
theorem Qjk(hg:Gl C.X "str")(hm:C.X.mg "str"=none)(ha:DAB C (e::es) A)
 (he:starEach (e::es) C.X.env=(false,eval e C.X.env)::starEach es C.X.env:=by rfl) (hpl:(backTo pos (starEach es C.X.env)).any (·.1)=false:=by rfl):DE C (.Call (.Name "str" p) (e::es) [] pos) (eA (f1 dStr) A):=by
 refine QgB Ql5 (Qid ?_) (QgZ ?_) hg hm PyProof.Rows.Boot.«str» ha (by decide) (by decide) he hpl
 ·intro G H σ ς Q x v S r q
  cases x with
  | int i=>
   cases r
   rcases QE (show(if decide (i.natAbs.log2<1920)=true then Out.ok (D.str (toString i)) else .stuck).post _ _ from q) with⟨hc,q⟩ | ⟨_,q⟩
   ·exact⟨i,rfl,of_decide_eq_true hc,q.2⟩
   ·exact q.elim
  | _=>exact q.elim
 ·intro x
  cases x with
  | int i=>exact Qcj rfl
  | _=>exact True.intro
end
def isaT(T:String):D->Out Bool
 | .ins _ _=>.stuck
 | .err _=>.stuck
 | .bl _=>.ok (T == "bool"||T == "int")
 | d=>.ok (Qbt d == T)
structure Kit(K:PySem.W.Frag)(T:String):Prop where
 h:∀ d:D,(match d with | .ins _ _=>True | .err _=>True | .bl _=>PySem.W.kitOne K (.type "bool") (.type T)=some (T == "bool"||T == "int") | d=>PySem.W.kitOne K (.type (Qbt d)) (.type T)=some (Qbt d == T))
section
variable{C:Dc}{e:Expr}{E:SD->Out D}{p pc pos:Pos}
theorem Qco(T:Str){T':String}(k:Kit C.X.K T')(hgT:Gl C.X T)(hmT:C.X.mg T=none)(hb:bootBuiltins T=some (.type T'))(hg:Gl C.X "isinstance")(hm:C.X.mg "isinstance"=none)(h:DB C e E)
 (hn:T≠"__name__":=by decide) (hdb:(T == ("__debug__":Str))=false:=by decide)
 (he:starEach (e::[.Name T pc]) C.X.env=(false,eval e C.X.env)::starEach [.Name T pc] C.X.env:=by rfl) (he2:starEach (.Name T pc::[]) C.X.env=(false,eval (.Name T pc) C.X.env)::starEach [] C.X.env:=by rfl)
 (hpl:(backTo pos (starEach [.Name T pc] C.X.env)).any (·.1)=false:=by rfl):DE C (.Call (.Name "isinstance" p) [e,.Name T pc] [] pos) (eIsa (isaT T') E):=by
 refine QqO (vc:=.ty T') (uc:=.type T') (Qtg hgT hmT hb rfl hn hdb) rfl (fun d=>?_) hg hm h he he2 hpl
 have:=k.h d
 cases d<;>first | exact True.intro | exact this
end
theorem Qik{K:PySem.W.Frag}{T:String}(h1:PySem.W.kitOne K (.type "NoneType") (.type T)=some ("NoneType" == T))(h2:PySem.W.kitOne K (.type "bool") (.type T)=some (T == "bool"||T == "int"))
 (h3:PySem.W.kitOne K (.type "int") (.type T)=some ("int" == T)) (h4:PySem.W.kitOne K (.type "str") (.type T)=some ("str" == T)) (h5:PySem.W.kitOne K (.type "list") (.type T)=some ("list" == T))
 (h6:PySem.W.kitOne K (.type "tuple") (.type T)=some ("tuple" == T)) (h7:PySem.W.kitOne K (.type "dict") (.type T)=some ("dict" == T)):Kit K T:=⟨fun d=>by
 cases d with
 | non=>exact h1
 | bl _=>exact h2
 | int _=>exact h3
 | str _=>exact h4
 | lst _=>exact h5
 | tup _=>exact h6
 | dic _=>exact h7
 | ins _ _=>exact True.intro
 | err _=>exact True.intro⟩
theorem QoG{K:PySem.W.Frag}:Kit K "int":=Qik (by rfl) (by rfl) (by rfl) (by rfl) (by rfl) (by rfl) (by rfl)
theorem Qlp{K:PySem.W.Frag}:Kit K "bool":=Qik (by rfl) (by rfl) (by rfl) (by rfl) (by rfl) (by rfl) (by rfl)
theorem QsP{K:PySem.W.Frag}:Kit K "str":=Qik (by rfl) (by rfl) (by rfl) (by rfl) (by rfl) (by rfl) (by rfl)
theorem QhC{K:PySem.W.Frag}:Kit K "list":=Qik (by rfl) (by rfl) (by rfl) (by rfl) (by rfl) (by rfl) (by rfl)
def Qda(i:Nat)(E:SD->Out D):SD->Out Fl:=fun ς=>match ς[i]? with
 | some (some (.o,.lst xs))=>E ς>>=fun d=>if decide (xs.length<sizeLine)=true then .ok (.nx (ς.set i (some (.o,.lst (xs++[d]))))) else .stuck
 | _=>.stuck
section
variable{C:Dc}{G H:Hp}{σ:St}{ς:SD}
theorem QfW{α:Type}{xs:List α}{i:Nat}{x:α}(h:xs[i]?=some x):xs.set i x=xs:=by
 obtain⟨hi,e⟩:=List.getElem?_eq_some_iff.mp h
 rw[← e];exact List.set_getElem_self hi
theorem StR.write(S:StR C G H σ ς){i:Nat}{p:Addr}{xs ys:List D}{vs ws:List V}(hi:ς[i]?=some (some (.o,.lst xs)))(hp:σ[i]?=some (some (.ref p)))(hH:H p=some (.lst vs))(r:RepL C.X.K C.CT G ys ws):
 StR C G (upd H p (.lst ws)) σ (ς.set i (some (.o,.lst ys))):=by
 obtain⟨p',e1,hg,h0,ow⟩:=S.ow i _ hi
 rw[hp]at e1;cases e1
 have hil:i<ς.length:=(List.getElem?_eq_some_iff.mp hi).1
 have ne:∀ b o,G b=some o->b≠p:=fun b o e z=>by subst z;rw[hg]at e;cases e
 have S':StR C G (upd H p (.lst ws)) (σ.set i (some (.ref p))) (ς.set i (some (.o,.lst ys))):={
  sub:=fun b o e=>by rw[Qh (ne b o e)];exact S.sub b o e
  g0:=S.g0
  new:=S.new
  fr:=fun b o e m=>by
   rw[Qh (by rintro rfl;rw[h0]at e;cases e)];exact S.fr b o e m
  dom:=fun b e=>by
   by_cases hb:b=p
   ·subst hb;exact h0
   ·rw[Qh hb]at e;exact S.dom b e
  bs:=fun b o e=>by
   rw[Qh (by rintro rfl;rw[S.bh _ h0]at e;cases e)];exact S.bs b o e
  bh:=S.bh
  len:=by rw[List.length_set,List.length_set];exact S.len
  fz:=fun j d h=>by
   rcases Ql h with⟨rfl,h2,l⟩ | ⟨hne,h2⟩
   ·cases h2
   ·rw[Qk hne];exact S.fz j d h2
  ow:=fun j d h=>by
   rcases Ql h with⟨rfl,h2,l⟩ | ⟨hne,h2⟩
   ·cases h2
    exact⟨p,Qee (by rw[S.len];exact l),hg,h0,⟨ws,Qx,r⟩⟩
   ·rw[Qk hne]
    obtain⟨q,a,b,c,w⟩:=S.ow j d h2
    have qp:q≠p:=by
     rintro rfl
     exact S.inj i j _ _ q hne hi h2 hp a
    exact⟨q,a,b,c,w.mono (Same.refl G) fun o z=>by rw[Qh qp];exact z⟩
  ln:=fun j d h=>by
   rcases Ql h with⟨rfl,h2,l⟩ | ⟨hne,h2⟩
   ·cases h2
   ·rw[Qk hne];exact S.ln j d h2
  inj:=fun j k d1 d2 q hjk h1 h2 h3=>by
   have get:∀(j:Nat) d,(ς.set i (some (.o,D.lst ys)))[j]?=some (some (.o,d))->∃ d',ς[j]?=some (some (.o,d')):=fun j d h=>by
    rcases Ql h with⟨rfl,h2,l⟩ | ⟨hne,h2⟩
    ·exact⟨_,hi⟩
    ·exact⟨_,h2⟩
   obtain⟨d1',g1⟩:=get j d1 h1
   obtain⟨d2',g2⟩:=get k d2 h2
   rw[QfW hp]at h3 ⊢
   exact S.inj j k d1' d2' q hjk g1 g2 h3
  sf:=fun j d h=>by
   rcases Ql h with⟨rfl,h2,l⟩ | ⟨hne,h2⟩
   ·cases h2
   ·rw[Qk hne]
    obtain⟨q,a,b,c,m,z,w⟩:=S.sf j d h2
    have qp:q≠p:=by
     rintro rfl
     exact c h0
    exact⟨q,a,b,c,m,z,w.mono (Same.refl G) fun o z=>by rw[Qh qp];exact z⟩
  su:=fun j k d1 d2 q hjk h1 h2 h3=>by
   rcases Ql h1 with⟨rfl,q1,l⟩ | ⟨n1,q1⟩
   ·cases q1
   ·rcases Ql h2 with⟨rfl,q2,l⟩ | ⟨n2,q2⟩
    ·cases q2
    ·rw[Qk n1]at h3
     rw[Qk n2];exact S.su j k d1 d2 q hjk q1 q2 h3 }
 rw[QfW hp]at S'
 exact S'
variable{a e:Expr}{A E:SD->Out D}{pos p1 p2 p3:Pos}{x:Str}
theorem QjN(i:Nat)(he:DE C e E)(hN:C.X.N[i]?=some x:=by rfl)(hv:Vis C.X.env.scope x:=by first | exact Or.inl rfl | exact Or.inr (oi rfl) | exact Or.inr (Or.inr rfl))
 (hd:(x == ("__debug__":Str))=false:=by decide) (hcd:(x == ("__classdict__":Str))=false:=by decide)
 (hbase:attributeBase (.Name x p1) "append" C.X.env (eval (.Name x p1) C.X.env)=eval (.Name x p1) C.X.env:=by rfl)
 (hfew:((backTo p3 (starEach (e::[]) C.X.env)).all (fun x => !x.1)&&(backToKw p3 (keywordEach [] C.X.env)).all (fun x=>x.1.isSome)
  && decide ((e::[]).length+([]:List Keyword).length+(if ([]:List Keyword).isEmpty then 0 else 1)<30))=true:=by rfl)
 (hline:(p2.endLine == p3.line)=true:=by rfl) (hs:starEach (e::[]) C.X.env=(false,eval e C.X.env)::starEach [] C.X.env:=by rfl)
 (hsw:swapsWith (.Call (.Attribute (.Name x p1) "append" p2) [e] [] p3) none pos.line C.X.env=pure false:=by rfl):
 DS C (.Expr (.Call (.Attribute (.Name x p1) "append" p2) [e] [] p3) pos) (Qda i E):=by
 obtain⟨t,p,q⟩:=he
 refine⟨_,QgX (pe_bm PySem.F.plainAttrs_list PySem.F.slot_list_append PySem.F.type_list_append Qe0 (QdF (i:=i) hN hv hd hcd) (Qbe p Qb1 hs) hbase hfew hline hs rfl) hsw,fun G H σ ς W S k=>?_⟩
 unfold Qda at k
 split at k
 ·rename_i xs z
  obtain⟨pp,e1,hg,h0,ow⟩:=S.ow i _ z
  obtain⟨vs,hv1,hv2⟩:=ow
  rw[Out.post_bind]at k
  refine⟨_,e1,.inl ⟨rfl,vs,SqL.of hv1⟩,q G H σ ς _ S (Out.post_mono k fun d k2 v H1 G1 S1 a1 b1 r1=>?_)⟩
  rcases QE k2 with⟨hc,k3⟩ | ⟨_,k3⟩
  ·have hl:=hv2.length
   refine⟨pp,vs,v,rfl,rfl,a1 _ _ hv1,by rw[← hl];exact of_decide_eq_true hc,?_⟩
   exact k3 σ _ G1 (S1.write z e1 (a1 _ _ hv1) ((RepL.mono b1 xs vs hv2).append (RepL.one r1))) b1
  ·exact k3.elim
 ·exact k.elim
end
end DL
namespace DL
open PySem PySem.Spec PyProof.Rows L2
structure DIt(K:PySem.W.Frag)(CT:CTab)(G1:Hp)(J:It)(ds:List D):Prop where
 go:∀ G H (i:Nat) d,Same G1 G->Same G H->ds[i]?=some d->J.go i H/\∀ x H',J.yld i H x H'->∃ G',Same G G'/\Same H H'/\Same G' H'/\(∀ b,G b=none->G' b≠none->H b=none)/\Rep K CT G' d x
 stop:∀ G H,Same G1 G->Same G H->J.stop ds.length H
structure DItB(K:PySem.W.Frag)(CT:CTab)(B1 G1:Hp)(J:It)(ds:List D):Prop where
 go:∀ G H (i:Nat) d,Same G1 G->Same G H->Same B1 H->ds[i]?=some d->J.go i H/\∀ x H',J.yld i H x H'->∃ G',Same G G'/\Same H H'/\Same G' H'/\(∀ b,G b=none->G' b≠none->H b=none)/\Rep K CT G' d x
 stop:∀ G H,Same G1 G->Same G H->Same B1 H->J.stop ds.length H
theorem DIt.b{K:PySem.W.Frag}{CT:CTab}{B1 G1:Hp}{J:It}{ds:List D}(h:DIt K CT G1 J ds):DItB K CT B1 G1 J ds:=⟨fun G H i d a b _ e=>h.go G H i d a b e,fun G H a b _=>h.stop G H a b⟩
def DIB(C:Dc)(tg iter:Expr)(its:SD->Out (List D)):Prop:=∃ wi,PI C.X tg iter wi/\∀ G H σ ς (R:It->Hp->Prop),StR C G H σ ς->
 (its ς).post (fun ds=>∀ J H1 G1,StR C G1 H1 σ ς->Same H H1->Same G G1->DItB C.X.K C.CT H1 G1 J ds->R J H1) C.XD->wi σ H R
def DI(C:Dc)(tg iter:Expr)(its:SD->Out (List D)):Prop:=∃ wi,PI C.X tg iter wi/\∀ G H σ ς (R:It->Hp->Prop),StR C G H σ ς->
 (its ς).post (fun ds=>∀ J H1 G1,StR C G1 H1 σ ς->Same H H1->Same G G1->DIt C.X.K C.CT G1 J ds->R J H1) C.XD->wi σ H R
section
variable{C:Dc}{e tg iter:Expr}{E:SD->Out D}{body:List Stmt}{T U:SD->Out Fl}{pos:Pos}{g:D->SD->Out SD}{its:SD->Out (List D)}
theorem DI.b(h:DI C tg iter its):DIB C tg iter its:=by
 obtain⟨wi,p,q⟩:=h
 exact⟨wi,p,fun G H σ ς R S k=>q G H σ ς R S (Out.post_mono k fun ds kd J H1 G1 S1 a b dit=>kd J H1 G1 S1 a b dit.b)⟩
theorem QrX{K:PySem.W.Frag}{CT:CTab}{G1:Hp}{a:Addr}{ds:List D}{vs:List V}(h:SqL K G1 a vs)(r:RepL K CT G1 ds vs):DIt K CT G1 (Itl K a) ds where
 go:=fun G H i d s1 sH hd=>by
  obtain⟨v,hv,rv⟩:=r.get hd
  have hq:SqL K H a vs:=sH.seq (s1.seq h)
  refine⟨⟨vs,v,hq,hv⟩,fun x H' ⟨e,y⟩=>?_⟩
  have ex:vs[i]?=some x:=y vs hq
  rw[hv]at ex;cases ex
  subst e
  exact⟨G,Same.refl _,Same.refl _,sH,fun b g n=>absurd g n,Rep.mono s1 d v rv⟩
 stop:=fun G H s1 sH=>⟨vs,sH.seq (s1.seq h),by rw[r.length];exact Nat.le_refl _⟩
theorem Qqu{K:PySem.W.Frag}{CT:CTab}{G1:Hp}{lo:Int}{n:Nat}:DIt K CT G1 (Itr lo n) (QaY lo n) where
 go:=fun G H i d s1 sH hd=>by
  have hi:i<n:=by
   have:=(List.getElem?_eq_some_iff.mp hd).1
   rw[Qh7]at this;exact this
  rw[QpG hi]at hd;cases hd
  exact⟨hi,fun x H' ⟨e,y⟩=>by
   subst e y
   exact⟨G,Same.refl _,Same.refl _,sH,fun b g n=>absurd g n,rfl⟩⟩
 stop:=fun G H s1 sH=>by rw[Qh7];exact Nat.le_refl _
theorem QaF(h:DE C iter E):DI C tg iter (itL E):=by
 obtain⟨t,p,q⟩:=h
 refine⟨_,Qtc p,fun G H σ ς R S k=>?_⟩
 unfold itL at k
 rw[Out.post_bind]at k
 refine q G H σ ς _ S (Out.post_mono k fun d k v H1 G1 S1 a1 b1 r1=>?_)
 cases d with
 | lst xs=>
  obtain⟨a,vs,rfl,h2,h3⟩:=r1
  exact⟨a,rfl,⟨vs,S1.sub.seq h2⟩,k _ H1 G1 S1 a1 b1 (QrX h2 h3)⟩
 | _=>exact k.elim
theorem QaA{a:Expr}{A:SD->Out D}{p1 p2:Pos}(hgl:Gl C.X "range")(hm:C.X.mg "range"=none)(ha:DB C a A)
 (hst:starEach [a] C.X.env=(false,eval a C.X.env)::starEach [] C.X.env:=by rfl):DI C tg (.Call (.Name "range" p1) [a] [] p2) (itR1 A):=by
 obtain⟨t,p,q⟩:=ha
 refine⟨_,QqB hgl hm (Qbe p Qb1 hst) hst,fun G H σ ς R S k=>?_⟩
 unfold itR1 at k
 rw[Out.post_bind]at k
 refine q G H σ ς _ S (Out.post_mono k fun d k v H1 G1 S1 a1 b1 r=>?_)
 cases d with
 | int n=>
  cases r
  rcases QE k with⟨hc,k⟩ | ⟨_,k⟩
  ·obtain⟨c1,c2⟩:=QpZ hc
   exact⟨n,rfl,c1,c2,k _ H1 G1 S1 a1 b1 Qqu⟩
  ·exact k.elim
 | _=>exact k.elim
theorem QfE(hp:PassesOwn (model C.X.prog C.X.w) C.X.A C.X.env C.X.xe)(hc:C.X.calm=true)(hi:DI C tg iter its)(hg:DG C tg g)(hne:noExc g)(hb:DSs C body T)
 (hs:∀ x,foldedSetIterable iter C.X.env x=pure x:=by intro _;rfl):DS C (.For tg iter body [] pos) (sFor g its T):=by
 obtain⟨t0,p0,q0⟩:=hi
 obtain⟨t1,p1,q1⟩:=hg
 obtain⟨t2,p2,q2⟩:=hb
 refine⟨_,Qmh hp hc p0 p1 p2 hs,fun G H σ ς W S k=>?_⟩
 unfold sFor at k
 rw[Out.post_bind]at k
 refine q0 G H σ ς _ S (Out.post_mono k fun xs k J H1 G1 S1 a1 b1 dit=>?_)
 refine⟨fun i m σ' H'=>m=xs.length - i/\i<=xs.length/\∃ G' ς',StR C G' H' σ' ς'/\Same G1 G'/\(loopD (fun x ς=>g x ς>>=fun ς'=>T ς') (xs.drop i) ς').post (FlK C G' W) C.XD,
  ⟨xs.length,by simp,Nat.zero_le _,G1,ς,S1,Same.refl _,Out.post_mono (by simpa using k) fun f k=>FlK.later k b1⟩,?_⟩
 rintro i m σ' H' ⟨rfl,hle,G',ς',S',s',q'⟩
 by_cases hlt:i<xs.length
 ·have hd:xs[i]?=some xs[i]:=by simp[hlt]
  obtain⟨hgo,hy⟩:=dit.go G' H' i _ s' S'.sub hd
  refine .inr ⟨hgo,fun σ2 H2=>∃ G2 ς2,StR C G2 H2 σ2 ς2/\Same G1 G2/\(loopD (fun x ς=>g x ς>>=fun ς'=>T ς') (xs.drop (i+1)) ς2).post (FlK C G2 W) C.XD,
   fun σ2 H2 h2=>⟨xs.length - (i+1),by omega,rfl,hlt,h2⟩,fun x H'' y=>?_⟩
  obtain⟨G'',g1,h1,s1,n1,r⟩:=hy x H'' y
  rw[QeX hd]at q'
  exact turnD hne q1 q2 (S'.grow h1 g1 s1 n1) r (Out.post_mono q' fun f k=>FlK.later k g1) fun σ2 H2 G2 ς2 S2 s2 q2=>⟨G2,ς2,S2,(s'.trans g1).trans s2,q2⟩
 ·have e:i=xs.length:=by omega
  subst e
  rw[List.drop_length]at q'
  exact .inl ⟨dit.stop G' H' s' S'.sub,q' σ' H' G' S' (Same.refl _)⟩
end
def compM(f:D->Out (Option D)):List D->Out (List D)
 | []=>.ok []
 | x::xs=>f x>>=fun o=>compM f xs>>=fun ys=>.ok (o.toList++ys)
def captS(ς:SD)(j:Nat):Option (SM×D):=match ς[j]? with
 | some (some (.k,d))=>some (.k,d)
 | some (some (_,d))=>some (.l,d)
 | _=>none
def captD(js:List (Option Nat))(ς:SD):SD:=js.map fun j=>j.bind (captS ς)
def turnC(js:List (Option Nat))(g:D->SD->Out SD)(c:SD->Out Bool)(e:SD->Out D)(ς:SD)(x:D):Out (Option D):=
 g x (captD js ς)>>=fun τ=>c τ>>=fun b=>if b=true then e τ>>=fun y=>.ok (some y) else .ok none
def eComp(js:List (Option Nat))(its:SD->Out (List D))(g:D->SD->Out SD)(c:SD->Out Bool)(e:SD->Out D):SD->Out D:=fun ς=>
 its ς>>=fun xs=>compM (turnC js g c e ς) xs>>=fun ys=>if fits ys.length=true then .ok (.lst ys) else .stuck
def DIf(C:Dc)(ifs:List Expr)(T:SD->Out Bool):Prop:=∃ t,PIf C.X ifs t/\∀ G H σ ς Q,StR C G H σ ς->(T ς).post (KT C G H σ ς Q) C.XD->t σ H Q
def cTrue:SD->Out Bool:=fun _=>.ok true
theorem QK{C:Dc}:DIf C [] cTrue:=⟨_,Qte,fun G H σ ς Q S q=>KT.now q S⟩
def gKeep(g:D->SD->Out SD)(τ0:SD):Prop:=∀ x τ,g x τ0=.ok τ->τ.length=τ0.length/\∀(i:Nat) md,τ0[i]?=some (some md)->τ[i]?=some (some md)
theorem QM{i:Nat}{τ0:SD}(h:τ0[i]?=some none):gKeep (gN i) τ0:=by
 intro x τ e
 cases e
 refine⟨List.length_set ..,fun j md hj=>?_⟩
 rw[Qk (by rintro rfl;rw[h]at hj;cases hj)];exact hj
theorem QnR:∀(is:List Nat)(ds:List D)(τ0 τ:SD),(∀ i∈is,∀ md,τ0[i]?=some (some md)->False)->QR is ds τ0=.ok τ->τ.length=τ0.length/\∀(i:Nat) md,τ0[i]?=some (some md)->τ[i]?=some (some md)
 | [],[],τ0,τ,_,e=>by cases e;exact⟨rfl,fun _ _ h=>h⟩
 | i::is,d::ds,τ0,τ,h,e=>by
  have e':QR is ds (τ0.set i (some (.k,d)))=.ok τ:=e
  -- the later targets may meet the stored one again: only what was there ahead is kept
  have go:∀(is:List Nat)(ds:List D)(τ1 τ:SD),τ1.length=τ0.length->(∀ i∈is,∀ md,τ0[i]?=some (some md)->False)->(∀(i:Nat) md,τ0[i]?=some (some md)->τ1[i]?=some (some md))->QR is ds τ1=.ok τ->
   τ.length=τ0.length/\∀(i:Nat) md,τ0[i]?=some (some md)->τ[i]?=some (some md):=by
   intro is
   induction is with
   | nil=>intro ds τ1 τ hl _ hk e;cases ds with
    | nil=>cases e;exact⟨hl,hk⟩
    | cons _ _=>cases e
   | cons i is ih=>intro ds τ1 τ hl hn hk e;cases ds with
    | nil=>cases e
    | cons d ds=>
     refine ih ds _ τ (by rw[List.length_set];exact hl) (fun j hj=>hn j (List.mem_cons_of_mem _ hj)) (fun j md hj=>?_) e
     rw[Qk (by rintro rfl;exact hn _ List.mem_cons_self md hj)];exact hk j md hj
  refine go is ds _ τ (List.length_set ..) (fun j hj=>h j (List.mem_cons_of_mem _ hj)) (fun j md hj=>?_) e'
  rw[Qk (by rintro rfl;exact h _ List.mem_cons_self md hj)];exact hj
 | [],_::_,_,_,_,e=>by cases e
 | _::_,[],_,_,_,e=>by cases e
theorem QeB{is:List Nat}{τ0:SD}(h:∀ i∈is,τ0[i]?=some none):gKeep (gT is) τ0:=by
 intro x τ e
 cases x with
 | tup ds=>exact QnR is ds τ0 τ (fun i hi md z=>by rw[h i hi]at z;cases z) e
 | _=>cases e
theorem Qu{js:List (Option Nat)}{i:Nat}(h:js[i]?=some none)(ς:SD):(captD js ς)[i]?=some none:=by
 unfold captD
 rw[List.getElem?_map,h];rfl
section
variable{C:Dc}{G H:Hp}{σ:St}{ς:SD}
theorem StR.weak{ς':SD}(S:StR C G H σ ς')(hl:ς'.length=ς.length)(h:∀(i:Nat) md,ς[i]?=some (some md)->ς'[i]?=some (some md)):StR C G H σ ς:=
 { S with len:=by rw[S.len,hl],fz:=fun i d e=>S.fz i d (h i _ e),ow:=fun i d e=>S.ow i d (h i _ e),ln:=fun i d e=>S.ln i d (h i _ e),inj:=fun i j d e p n h1 h2=>S.inj i j d e p n (h i _ h1) (h j _ h2),sf:=fun i d e=>S.sf i d (h i _ e),su:=fun i j d e p n h1 h2=>S.su i j d e p n (h i _ h1) (h j _ h2) }
theorem StR.updM(S:StR C G H σ ς){p:Addr}{o:HO}(hM:C.M p)(h0:C.H0 p≠none)(hno:∀(i:Nat) d,ς[i]?≠some (some (.s,d)))(hB:C.B p=none)(hg:G p=none):StR C G (upd H p o) σ ς where
 sub:=fun b u e=>by rw[Qh (by rintro rfl;rw[hg]at e;cases e)];exact S.sub b u e
 g0:=S.g0
 new:=S.new
 fr:=fun b u e m=>by rw[Qh (by rintro rfl;exact m hM)];exact S.fr b u e m
 dom:=fun b e=>by
  by_cases hb:b=p
  ·subst hb;rw[Qx]at e;cases e
  ·rw[Qh hb]at e;exact S.dom b e
 bs:=fun b u e=>by rw[Qh (by rintro rfl;rw[hB]at e;cases e)];exact S.bs b u e
 bh:=S.bh
 len:=S.len
 fz:=S.fz
 ow:=fun i d e=>by
  obtain⟨q,a,b,c,w⟩:=S.ow i d e
  exact⟨q,a,b,c,w.mono (Same.refl G) fun u z=>by rw[Qh (by rintro rfl;exact h0 c)];exact z⟩
 ln:=S.ln
 inj:=S.inj
 sf:=fun i d e=>absurd e (hno i d)
 su:=S.su
abbrev ccOf(C:Dc)(N':List Str)(scope:Scope)(fp:List Addr)(s:Shared)(H1 G1:Hp)(p:Addr):Dc:=
 { X:=cxC C.X N' scope fp s (upd H1 p (.lst [])),CT:=C.CT,G0:=G1,XD:=fun _=>False,B:=H1,M:=fun b=>b=p }
theorem QdD{js:List (Option Nat)}{i:Nat}{md:SM×D}(h:(captD js ς)[i]?=some (some md)):∃ j,js[i]?=some (some j)/\captS ς j=some md:=by
 unfold captD at h
 rw[List.getElem?_map]at h
 cases e:js[i]? with
 | none=>rw[e]at h;cases h
 | some o=>
  rw[e]at h
  cases o with
  | none=>cases h
  | some j=>exact⟨j,rfl,Option.some.inj h⟩
theorem QfP{js:List (Option Nat)}{i j:Nat}{v:V}(h:js[i]?=some (some j))(hv:σ[j]?=some (some v)):(capt js σ)[i]?=some (some v):=by
 unfold capt
 rw[List.getElem?_map,h]
 show some ((σ[j]?).join)=_
 rw[hv];rfl
theorem Qb3{j:Nat}{m:SM}{d:D}(h:captS ς j=some (m,d)):(m=.k/\ς[j]?=some (some (.k,d)))∨(m=.l/\(ς[j]?=some (some (.o,d))∨ς[j]?=some (some (.l,d))∨ς[j]?=some (some (.s,d)))):=by
 unfold captS at h
 split at h
 ·rename_i d' e;cases h;exact .inl ⟨rfl,e⟩
 ·rename_i m' d' hne e
  cases h
  cases m' with
  | k=>exact(hne rfl).elim
  | o=>exact .inr ⟨rfl,.inl e⟩
  | l=>exact .inr ⟨rfl,.inr (.inl e)⟩
  | s=>exact .inr ⟨rfl,.inr (.inr e)⟩
 ·cases h
theorem QhM{js:List (Option Nat)}{i:Nat}{d:D}(h:(captD js ς)[i]?=some (some (.s,d))):False:=by
 obtain⟨j,h1,h2⟩:=QdD h
 rcases Qb3 h2 with⟨h3,_⟩ | ⟨h3,_⟩<;>cases h3
theorem StR.comp{N':List Str}{scope:Scope}{fp:List Addr}{s:Shared}{js:List (Option Nat)}{p:Addr}(S:StR C G H σ ς)(hp:H p=none):StR (ccOf C N' scope fp s H G p) G (upd H p (.lst [])) (capt js σ) (captD js ς) where
 sub:=S.sub.trans (Qq hp)
 g0:=Same.refl _
 new:=fun b h1 h2=>absurd h1 h2
 fr:=fun b o e _=>e
 dom:=fun b e=>e
 bs:=Qq hp
 bh:=fun b e=>by
  have e':upd H p (.lst []) b=none:=e
  by_cases hb:b=p
  ·subst hb;exact hp
  ·rw[Qh hb]at e';exact e'
 len:=by unfold capt captD;rw[List.length_map,List.length_map]
 fz:=fun i d e=>by
  obtain⟨j,h1,h2⟩:=QdD e
  rcases Qb3 h2 with⟨_,h3⟩ | ⟨h3,_⟩
  ·obtain⟨v,a,b⟩:=S.fz j d h3
   exact⟨v,QfP h1 a,b⟩
  ·cases h3
 ow:=fun i d e=>by
  obtain⟨j,h1,h2⟩:=QdD e
  rcases Qb3 h2 with⟨h3,_⟩ | ⟨h3,_⟩<;>cases h3
 ln:=fun i d e=>by
  obtain⟨j,h1,h2⟩:=QdD e
  rcases Qb3 h2 with⟨h3,_⟩ | ⟨_,h3 | h3 | h3⟩
  ·cases h3
  ·obtain⟨q,a,_,_,w⟩:=S.ow j d h3
   exact⟨_,QfP h1 a,w.rep S.sub,fun _ h=>nomatch h⟩
  ·obtain⟨v,a,b,_⟩:=S.ln j d h3
   exact⟨v,QfP h1 a,Rep.mono S.bs d v b,fun _ h=>nomatch h⟩
  ·obtain⟨q,a,_,_,_,_,w⟩:=S.sf j d h3
   exact⟨_,QfP h1 a,w.rep S.sub,fun _ h=>nomatch h⟩
 inj:=fun i j d e q _ h=>by
  obtain⟨j,h1,h2⟩:=QdD h
  rcases Qb3 h2 with⟨h3,_⟩ | ⟨h3,_⟩<;>cases h3
 sf:=fun i d e=>(QhM e).elim
 su:=fun i j d e p _ h=>(QhM h).elim
variable{N':List Str}{js:List (Option Nat)}{scope:Scope}{tg iter elt:Expr}{ifs:List Expr}{its:SD->Out (List D)}{g:D->SD->Out SD}{c:SD->Out Bool}{e:SD->Out D}{pos:Pos}
theorem Qsn{J:It}{xs:List D}{p:Addr}{fp:List Addr}{s:Shared}{Q:VK}(S:StR C G H σ ς)(hp:H p=none)(dit:DItB C.X.K C.CT H G J xs)(hx:∀ x,¬ C.XD x)(hk:gKeep g (captD js ς))(hne:noExc g)
 (hin:DG (ccOf C N' scope fp s H G p) tg g/\DIf (ccOf C N' scope fp s H G p) ifs c/\DE (ccOf C N' scope fp s H G p) elt e)
 (q:(compM (turnC js g c e ς) xs>>=fun ys=>if fits ys.length=true then Out.ok (D.lst ys) else .stuck).post (fun d=>∀ H' G',StR C G' H' σ ς->Same H H'->Same G G'->G' p=none->Own C.X.K C.CT G' H' p d->Q (.ref p) H') C.XD):
 CompW (cxC C.X N' scope fp s (upd H p (.lst []))) js tg elt ifs σ H J p Q:=by
 obtain⟨⟨tt,pg,hg⟩,⟨tcc,pif,hcI⟩,⟨te,pe,he⟩⟩:=hin
 generalize hτ:captD js ς=τ0 at hk
 have S0:StR (ccOf C N' scope fp s H G p) G (upd H p (.lst [])) (capt js σ) τ0:=by rw[← hτ];exact S.comp hp
 refine⟨fun i m τ H'=>m=xs.length - i/\i<=xs.length/\∃ G' acc vs,StR (ccOf C N' scope fp s H G p) G' H' τ τ0/\H' p=some (.lst vs)/\RepL C.X.K C.CT G' acc vs/\G' p=none/\
  (compM (turnC js g c e ς) (xs.drop i)).post (fun ys=>(if fits (acc++ys).length=true then Out.ok (D.lst (acc++ys)) else .stuck).post (fun d=>∀ H' G',StR C G' H' σ ς->Same H H'->Same G G'->G' p=none->Own C.X.K C.CT G' H' p d->Q (.ref p) H') C.XD) C.XD,
  ⟨xs.length,by simp,Nat.zero_le _,G,[],[],S0,Qx,rfl,S.sub.free hp,by rw[Out.post_bind]at q;simpa using q⟩,?_⟩
 rintro i m τ H' ⟨rfl,hle,G',acc,vs,S',hp',r',hg',q'⟩
 have hH0:(ccOf C N' scope fp s H G p).H0 p≠none:=by
  show upd H p (.lst []) p≠none
  rw[Qx];simp
 by_cases hlt:i<xs.length
 ·have hd:xs[i]?=some xs[i]:=by simp[hlt]
  obtain⟨hgo,hy⟩:=dit.go G' H' i _ S'.g0 S'.sub S'.bs hd
  refine .inr ⟨hgo,fun τ2 H2=>i+1<=xs.length/\∃ G' acc vs,StR (ccOf C N' scope fp s H G p) G' H2 τ2 τ0/\H2 p=some (.lst vs)/\RepL C.X.K C.CT G' acc vs/\G' p=none/\
   (compM (turnC js g c e ς) (xs.drop (i+1))).post (fun ys=>(if fits (acc++ys).length=true then Out.ok (D.lst (acc++ys)) else .stuck).post (fun d=>∀ H' G',StR C G' H' σ ς->Same H H'->Same G G'->G' p=none->Own C.X.K C.CT G' H' p d->Q (.ref p) H') C.XD) C.XD,
   fun τ2 H2 h2=>⟨xs.length - (i+1),by omega,rfl,h2⟩,fun x H'' y=>?_⟩
  obtain⟨G'',g1,h1,s1,n1,r⟩:=hy x H'' y
  have S'':=S'.grow h1 g1 s1 n1
  have hgp:G'' p=none:=by
   cases z:G'' p with
   | none=>rfl
   | some o=>
    have:=n1 p hg' (by rw[z];simp)
    rw[hp']at this;cases this
  rw[QeX hd,compM,Out.post_bind]at q'
  have tu:turnC js g c e ς xs[i]=(g xs[i] τ0>>=fun τ=>c τ>>=fun b=>if b=true then e τ>>=fun y=>Out.ok (some y) else Out.ok none):=by unfold turnC;rw[hτ]
  rw[tu,Out.post_bind]at q'
  cases z:g xs[i] τ0 with
  | exc w=>exact absurd z (hne _ _ _)
  | stuck=>rw[z]at q';exact q'.elim
  | ok τ1=>
   rw[z]at q'
   obtain⟨hl1,hk1⟩:=hk _ _ z
   refine⟨tt,pg,hg G'' H'' τ τ0 xs[i] x τ1 _ S'' r z fun τ2 S2=>?_⟩
   have q2:(c τ1>>=fun b=>if b=true then e τ1>>=fun y=>Out.ok (some y) else Out.ok none).post _ _:=q'
   rw[Out.post_bind]at q2
   -- no refusal leaves the block
   have q3:(c τ1).post (fun b=>(if b=true then e τ1>>=fun y=>Out.ok (some y) else Out.ok none).post (fun o=>(compM (turnC js g c e ς) (xs.drop (i+1))>>=fun ys=>Out.ok (o.toList++ys)).post (fun ys=>(if fits (acc++ys).length=true then Out.ok (D.lst (acc++ys)) else .stuck).post (fun d=>∀ H' G',StR C G' H' σ ς->Same H H'->Same G G'->G' p=none->Own C.X.K C.CT G' H' p d->Q (.ref p) H') C.XD) C.XD) C.XD) (fun _=>False):=by
    cases w:c τ1 with
    | ok b=>rw[w]at q2;exact q2
    | exc w'=>rw[w]at q2;exact absurd q2 (hx _)
    | stuck=>rw[w]at q2;exact q2.elim
   refine⟨tcc,pif,hcI G'' H'' τ2 τ1 _ S2 (Out.post_mono q3 fun b kb H3 G3 S3 a3 b3=>?_)⟩
   have hp3:H3 p=some (.lst vs):=a3 _ _ (h1 _ _ hp')
   have hg3:G3 p=none:=by
    cases z3:G3 p with
    | none=>rfl
    | some o=>
     have e3:(ccOf C N' scope fp s H G p).G0 p=none:=S.sub.free hp
     exact absurd (S3.new p e3 (by rw[z3];simp)) hH0
   cases b with
   | false=>
    refine iteF ⟨hlt,G3,acc,vs,S3.weak (by rw[hl1]) hk1,hp3,RepL.mono (g1.trans b3) acc vs r',hg3,?_⟩
    have kb':(compM (turnC js g c e ς) (xs.drop (i+1))>>=fun ys=>Out.ok ((none:Option D).toList++ys)).post (fun ys=>(if fits (acc++ys).length=true then Out.ok (D.lst (acc++ys)) else .stuck).post (fun d=>∀ H' G',StR C G' H' σ ς->Same H H'->Same G G'->G' p=none->Own C.X.K C.CT G' H' p d->Q (.ref p) H') C.XD) C.XD:=kb
    rw[Out.post_bind]at kb'
    exact Out.post_mono kb' fun ys k=>k
   | true=>
    have kb:(e τ1>>=fun y=>Out.ok (some y)).post (fun o=>(compM (turnC js g c e ς) (xs.drop (i+1))>>=fun ys=>Out.ok (o.toList++ys)).post (fun ys=>(if fits (acc++ys).length=true then Out.ok (D.lst (acc++ys)) else .stuck).post (fun d=>∀ H' G',StR C G' H' σ ς->Same H H'->Same G G'->G' p=none->Own C.X.K C.CT G' H' p d->Q (.ref p) H') C.XD) C.XD) C.XD:=kb
    rw[Out.post_bind]at kb
    have kb2:(e τ1).post (fun y=>(compM (turnC js g c e ς) (xs.drop (i+1))>>=fun ys=>Out.ok ((some y:Option D).toList++ys)).post (fun ys=>(if fits (acc++ys).length=true then Out.ok (D.lst (acc++ys)) else .stuck).post (fun d=>∀ H' G',StR C G' H' σ ς->Same H H'->Same G G'->G' p=none->Own C.X.K C.CT G' H' p d->Q (.ref p) H') C.XD) C.XD) (fun _=>False):=by
     cases w:e τ1 with
     | ok b=>rw[w]at kb;exact kb
     | exc w'=>rw[w]at kb;exact absurd kb (hx _)
     | stuck=>rw[w]at kb;exact kb.elim
    refine iteT ⟨te,pe,he G3 H3 τ2 τ1 _ S3 (Out.post_mono kb2 fun y ky v4 H4 G4 S4 a4 b4 r4=>?_)⟩
    rw[Out.post_bind]at ky
    have hp4:H4 p=some (.lst vs):=a4 _ _ hp3
    have hg4:G4 p=none:=by
     cases z3:G4 p with
     | none=>rfl
     | some o=>
      have e3:(ccOf C N' scope fp s H G p).G0 p=none:=S.sub.free hp
      exact absurd (S4.new p e3 (by rw[z3];simp)) hH0
    have rr:=RepL.mono ((g1.trans b3).trans b4) acc vs r'
    refine⟨vs,hp4,?_,hlt,G4,acc++[y],vs++[v4],?_,Qx,rr.append (RepL.one r4),hg4,?_⟩
    ·cases w:compM (turnC js g c e ς) (xs.drop (i+1)) with
     | stuck=>rw[w]at ky;exact ky.elim
     | exc w'=>rw[w]at ky;exact absurd ky (hx _)
     | ok ys=>
      rw[w]at ky
      rcases QE (show(if fits (acc++((some y:Option D).toList++ys)).length=true then Out.ok (D.lst (acc++((some y:Option D).toList++ys))) else .stuck).post _ _ from ky) with⟨hc,_⟩ | ⟨_,k⟩
      ·have hc':=of_decide_eq_true hc
       rw[List.length_append,List.length_append]at hc'
       have:(some y:Option D).toList.length=1:=rfl
       have hl:=r'.length
       omega
      ·exact k.elim
    ·exact(S4.weak (by rw[hl1]) hk1).updM rfl hH0 (fun i d z=>by rw[← hτ]at z;exact QhM z) hp hg4
    ·exact Out.post_mono ky fun ys k=>by
      have e5:acc++[y]++ys=acc++((some y:Option D).toList++ys):=by simp
      rw[e5];exact k
 ·have ei:i=xs.length:=by omega
  subst ei
  rw[List.drop_length]at q'
  refine .inl ⟨dit.stop G' H' S'.g0 S'.sub S'.bs,?_⟩
  have q2:(if fits (acc++[]).length=true then Out.ok (D.lst (acc++[])) else .stuck).post _ C.XD:=q'
  rcases QE q2 with⟨_,k⟩ | ⟨_,k⟩
  ·rw[List.append_nil]at k
   have hHH:Same H H':=fun b o eb=>S'.fr b o (by
    show upd H p (.lst []) b=some o
    rw[Qh (QJ eb hp)];exact eb) (QJ eb hp)
   have SG:StR C G' H' σ ς:=S.grow hHH S'.g0 S'.sub fun b h1 h2=>by
    have:=S'.new b h1 h2
    have this:upd H p (.lst []) b=none:=this
    by_cases hb:b=p
    ·subst hb;exact hp
    ·rw[Qh hb]at this;exact this
   exact k H' G' SG hHH S'.g0 hg' ⟨vs,hp',r'⟩
  ·exact k.elim
theorem compT(hi:∃ wi,PI C.X tg iter wi/\∀ G H σ ς (R:It->Hp->Prop),StR C G H σ ς->(its ς).post (fun ds=>∀ J H1 G1,StR C G1 H1 σ ς->Same H H1->Same G G1->DItB C.X.K C.CT H1 G1 J ds->R J H1) C.XD->wi σ H R)
 (hx:∀ x,¬ C.XD x) (hk:∀ ς,gKeep g (captD js ς)) (hne:noExc g)
 (hin:∀ fp s H G p,DG (ccOf C N' scope fp s H G p) tg g/\DIf (ccOf C N' scope fp s H G p) ifs c/\DE (ccOf C N' scope fp s H G p) elt e):
 ∃ wi,PI C.X tg iter wi/\∀ G H σ ς Q,StR C G H σ ς->(eComp js its g c e ς).post (KF C G H σ ς Q) C.XD->tComp C.X N' js scope tg elt ifs wi σ H Q:=by
 obtain⟨wi,pi,hq⟩:=hi
 refine⟨wi,pi,fun G H σ ς Q S k=>?_⟩
 unfold eComp at k
 rw[Out.post_bind]at k
 refine hq G H σ ς _ S (Out.post_mono k fun xs k J H1 G1 S1 a1 b1 dit p hp fp s=>?_)
 refine Qsn S1 hp dit hx (hk ς) hne (hin fp s H1 G1 p) (Out.post_mono k fun d kd H' G' S' h1 g1 hg ow=>?_)
 exact kd p H' G' S' (a1.trans h1) (b1.trans g1) (a1.free hp) hg ow
theorem QP(hc:C.X.calm=true)(S:QC N' js scope C.X.env.scope C.X.N)(hi:DIB C tg iter its)(hk:∀ ς,gKeep g (captD js ς))(hne:noExc g)
 (hin:∀ fp s H G p,DG (ccOf C N' scope fp s H G p) tg g/\DIf (ccOf C N' scope fp s H G p) ifs c/\DE (ccOf C N' scope fp s H G p) elt e)
 (hx:∀ x,¬ C.XD x:=by exact fun _ h=>h) (hs:∀ x,foldedSetIterable iter C.X.env x=pure x:=by intro _;rfl):DF C (.ListComp elt [⟨tg,iter,ifs,0⟩] scope pos) (eComp js its g c e):=by
 obtain⟨wi,pi,h⟩:=compT hi hx hk hne hin
 exact⟨_,Qs7 hc S pi hs,h⟩
variable{i:Nat}{x:Str}{px spos:Pos}
theorem Qjo(hc:C.X.calm=true)(S:QC N' js scope C.X.env.scope C.X.N)(hi:DIB C tg iter its)(hk:∀ ς,gKeep g (captD js ς))(hne:noExc g)
 (hin:∀ fp s H G p,DG (ccOf C N' scope fp s H G p) tg g/\DIf (ccOf C N' scope fp s H G p) ifs c/\DE (ccOf C N' scope fp s H G p) elt e)
 (hN:C.X.N.Nodup) (hxN:C.X.N[i]?=some x) (hl:Loc C.X.env.scope x)
 (hsw:swapsWith (.ListComp elt [⟨tg,iter,ifs,0⟩] scope pos) (some (.Name x px)) spos.line C.X.env=pure true:=by rfl)
 (hf:C.X.fn x=true∨C.X.env.scope.names.lookup x=some .local:=by first | exact .inl rfl | exact .inr rfl | assumption)
 (hx:∀ x,¬ C.XD x:=by exact fun _ h=>h) (hs:∀ x,foldedSetIterable iter C.X.env x=pure x:=by intro _;rfl):DS C (.Assign [.Name x px] (.ListComp elt [⟨tg,iter,ifs,0⟩] scope pos) spos) (sSet i (eComp js its g c e)):=by
 obtain⟨wi,pi,h⟩:=compT hi hx hk hne hin
 refine⟨_,Qts hc S pi hN hxN hl hsw hf hs,fun G H σ ς W S k=>?_⟩
 unfold sSet at k
 rw[Out.post_bind]at k
 exact h G H σ ς _ S (Out.post_mono k fun d k=>KD.ofF (Q:=fun v H1=>W.nx (σ.set i (some v)) H1) S fun v H1 G1 S1 a1 b1 r1=>k _ H1 G1 (S1.set i r1) b1)
end
end DL
namespace L2
open PySem PySem.Spec PyProof.Rows
def Its(x:Str):It:=⟨fun i _=>i<x.cps.size,fun i H v H'=>H'=H/\∃ c,x.cps[i]?=some c/\v=.str ⟨#[c]⟩,fun i _=>x.cps.size<=i⟩
section
variable{X:Cx}{tg:Expr}
theorem QjG{P:Program}{w:World}{K:PySem.W.Frag}{tg:Expr}{x:Str}{ty:String}{t:Tok}(it:Addr)(hn:["enumerate","zip","dict_itemiterator","dict_reverseitemiterator","odict_iterator","itertools.zip_longest","itertools.pairwise"].contains ty=false)
 (hs:∀(A:Around)(i:Nat)(s:Shared)(Q:Value->Shared->Prop)(E:Value->Shared->Prop),s.heap.IsStrIter it ty x t i->Q (.ref it) s->wpAny (model P w) A (pyIter (.ref it)) Q E s)
 (W:∀ A':Around,A'.handled=none->Walks P w A' it [it] [it] x.cps.size (SignAt x) (fun i h=>h.IsStrIter it ty x t i)):Turn P w K tg (Its x) [it] it (fun i h=>h.IsStrIter it ty x t i/\i<=x.cps.size) where
 mem:=by simp
 obj:=fun i h st b hb=>by
  have e:b=it:=by simpa using hb
  subst e
  obtain⟨⟨o,e,c,d⟩,_⟩:=st
  exact⟨o,e,fun v z=>by rw[d]at z;cases z⟩
 keep:=fun i h h' st k=>⟨by obtain⟨⟨o,e,c,d⟩,_⟩:=st;exact⟨o,k it (by simp) o e,c,d⟩,st.2⟩
 item:=by
  intro X hP hw hK hc i pins s σ H E I hf st hg
  subst hP hw hK
  obtain⟨f0,f1,f2,f3,f4,f5⟩:=hf it (by simp)
  refine(W X.A (I.ok.hd hc)).item i s _ _ hg st.1 fun v h' tk hv st' kk=>?_
  obtain⟨c,u,hcx,rfl⟩:=hv
  have I1:Inv X pins σ H { s with heap:=h',toks:=tk }:=I.turned (fun b o hb e=>kk b o (by simpa using hb) e) f0 f1 f3 f4 f5
  obtain⟨o,e,c',d⟩:=id st'
  exact⟨_,rfl,go_of (s:={ s with heap:=h',toks:=tk }) e c' d hn ⟨.str ⟨#[c]⟩,H,I1,⟨u,rfl⟩,⟨rfl,c,hcx,rfl⟩,⟨st',hg⟩,fun b hb=>(hf b hb).1⟩⟩
 done:=by
  intro X hP hw hK hc i pins s σ H E I hf st hg
  subst hP hw hK
  obtain⟨f0,f1,f2,f3,f4,f5⟩:=hf it (by simp)
  have hg':x.cps.size<=i:=hg
  have e:i=x.cps.size:=Nat.le_antisymm st.2 hg'
  subst e
  exact(W X.A (I.ok.hd hc)).done s _ _ st.1 fun h' tk kk=>⟨rfl,I.turned (fun b o hb e=>kk b o (by simpa using hb) e) f0 f1 f3 f4 f5⟩
 self:=fun A i s Q E st h=>hs A i s Q E st.1 h
def iStr(tl:TE):TI:=fun σ H R=>tl σ H fun x H1=>∃ z,x=.str z/\R (Its z) H1
theorem Qvv{l:Expr}{tl:TE}(hl:PE X l tl):PI X tg l (iStr tl):=by
 intro pins s σ H R I h
 refine thn (hl pins s σ H _ I h) fun v s1 ⟨x,H1,I1,r1,q1⟩=>?_
 obtain⟨z,e,q⟩:=q1
 subst e
 obtain⟨t,rfl⟩:=r1
 cases ha:z.cps.all (· < 128)
 ·refine wpAny_pyIter_wide ha ⟨s1.heap.objs.size,[s1.heap.objs.size],_,_,H1,rfl,I1.kept (t':=s1.toks) fun b o e=>Heap.get?_push_of_some _ e,QjG (x:=z) (ty:="str_iterator") (t:=t) _ (by decide) (fun _ _ _ _ _ st h=>wpAny_pyIter_striter_wide st h) (fun A' hA=>Walks.strWide hA _ z t),⟨⟨_,Heap.get?_push_size _ rfl,rfl,rfl⟩,Nat.zero_le _⟩,fun b hb=>?_,q⟩
  have e:b=s1.heap.objs.size:=by simpa using hb
  subst e
  exact I1.fpOk (Nat.le_refl _) (I1.hok.fresh (Nat.le_refl _))
 ·refine wpAny_pyIter_ascii ha ⟨s1.heap.objs.size,[s1.heap.objs.size],_,_,H1,rfl,I1.kept (t':=s1.toks) fun b o e=>Heap.get?_push_of_some _ e,QjG (x:=z) (ty:="str_ascii_iterator") (t:=t) _ (by decide) (fun _ _ _ _ _ st h=>wpAny_pyIter_striter_ascii st h) (fun A' hA=>Walks.strAscii hA _ z t),⟨⟨_,Heap.get?_push_size _ rfl,rfl,rfl⟩,Nat.zero_le _⟩,fun b hb=>?_,q⟩
  have e:b=s1.heap.objs.size:=by simpa using hb
  subst e
  exact I1.fpOk (Nat.le_refl _) (I1.hok.fresh (Nat.le_refl _))
theorem QrC(bs:List Bool):(List.range bs.length).all (fun i=>(bs[i]?).getD false)=bs.all id:=by
 rw[Bool.eq_iff_iff,List.all_eq_true,List.all_eq_true]
 constructor
 ·intro h b hb
  obtain⟨i,hi,e⟩:=List.mem_iff_getElem.mp hb
  have:=h i (List.mem_range.mpr hi)
  rw[List.getElem?_eq_getElem hi,Option.getD_some,e]at this
  exact this
 ·intro h i hi
  have hi':=List.mem_range.mp hi
  rw[List.getElem?_eq_getElem hi',Option.getD_some]
  exact h _ (List.getElem_mem hi')
theorem QqK(hc:X.calm=true):CallR X (.builtin "all") (fun xs H Q=>∃(p:Addr)(bs:List Bool),xs=[.ref p]/\SqL X.K H p (bs.map V.bl)/\Q (.bl (bs.all id)) H):=by
 intro pins s σ H xs us Q I r h
 obtain⟨p,bs,rfl,hq,q⟩:=h
 obtain⟨u,rfl,rx⟩:=vals1 r
 cases rx
 obtain⟨its,rv,pl,hz⟩:=I.list hq
 have hlen:=rv.length
 refine call_all_walk ?_
 refine wpAny_pyIter_list pl.isList ?_
 have hp:p<s.heap.objs.size:=by obtain⟨o,n,ho,_⟩:=pl;exact Heap.lt_size ho
 have hne:p≠s.heap.objs.size:=Nat.ne_of_lt hp
 refine⟨_,_,_,_,_,_,fun i=>(bs[i]?).getD false,rfl,Walks.list (A:=X.A.in1) (I.ok.hd hc) _ p hne its.toArray,⟨⟨_,Heap.get?_push_size _ rfl,rfl,rfl⟩,pl.isList.at fun o e=>Heap.get?_push_of_some _ e⟩,?_,fun h' tk kk=>⟨.bl (bs.all id),H,?_,?_,q⟩⟩
 ·intro i v s2 Q2 E2 hv hQ2
  have hv':its[i]?=some v:=by simpa using hv
  have hi:i<bs.length:=by
   have:=(List.getElem?_eq_some_iff.mp hv').1
   rw[List.length_map]at hlen
   omega
  obtain⟨y,hy,ry⟩:=rv.get (i:=i) (x:=.bl bs[i]) (by rw[List.getElem?_map,List.getElem?_eq_getElem hi];rfl)
  rw[hv']at hy
  cases hy
  cases ry
  have hQ2:Q2 ((bs[i]?).getD false) s2:=hQ2
  rw[List.getElem?_eq_getElem hi,Option.getD_some]at hQ2
  exact wpAny_pure hQ2
 ·exact I.kept fun b o e=>kk b o (by
   intro hb
   have e2:b=s.heap.objs.size:=by simpa using hb
   subst e2
   exact absurd (Heap.lt_size e) (Nat.lt_irrefl _)) (Heap.get?_push_of_some _ e)
 ·rw[List.size_toArray, ← hlen,List.length_map,QrC];exact rfl
end
end L2
namespace DL
open PySem PySem.Spec PyProof.Rows L2
def signs(z:Str):List D:=z.cps.toList.map fun c=>D.str ⟨#[c]⟩
def itS(E:SD->Out D):SD->Out (List D):=fun ς=>E ς>>=fun d=>match d with | .str z=>.ok (signs z) | _=>.stuck
section
variable{C:Dc}{e tg iter a b:Expr}{E A B:SD->Out D}{pos p:Pos}{es:List Expr}{AA:SD->Out (List D)}
theorem Qud{K:PySem.W.Frag}{CT:CTab}{G1:Hp}{z:Str}:DIt K CT G1 (Its z) (signs z) where
 go:=fun G H i d s1 sH hd=>by
  unfold signs at hd
  rw[List.getElem?_map]at hd
  cases hc:z.cps.toList[i]? with
  | none=>rw[hc]at hd;cases hd
  | some c=>
   rw[hc]at hd
   cases hd
   have hi:i<z.cps.size:=by
    have:=(List.getElem?_eq_some_iff.mp hc).1
    simpa using this
   refine⟨hi,fun x H' ⟨e,c',h1,h2⟩=>?_⟩
   subst e h2
   have h1':z.cps.toList[i]?=some c':=by simpa using h1
   rw[hc]at h1'
   cases h1'
   exact⟨G,Same.refl _,Same.refl _,sH,fun b g n=>absurd g n,rfl⟩
 stop:=fun G H s1 sH=>by
  unfold signs
  show z.cps.size<=_
  rw[List.length_map];simp
theorem Qu4(h:DB C iter E):DI C tg iter (itS E):=by
 obtain⟨t,p,q⟩:=h
 refine⟨_,Qvv p,fun G H σ ς R S k=>?_⟩
 unfold itS at k
 rw[Out.post_bind]at k
 refine q G H σ ς _ S (Out.post_mono k fun d k v H1 G1 S1 a1 b1 r1=>?_)
 cases d with
 | str z=>cases r1;exact⟨z,rfl,k _ H1 G1 S1 a1 b1 Qud⟩
 | _=>exact k.elim
def dIn:D->D->Out D
 | .str x,.str y=>.ok (.bl (!(Builtin.Str.occurrences y x 0 y.length 1).isEmpty))
 | _,_=>.stuck
theorem QuB:DRS C (fun x y H Q=>∃ i j,x=.str i/\y=.str j/\Q (.bl (!(Builtin.Str.occurrences j i 0 j.length 1).isEmpty)) H) dIn:=by
 intro G H σ ς Q x y vx vy S hx hy q
 cases x with
 | str x=>
  cases y with
  | str y=>cases hx;cases hy;exact⟨x,y,rfl,rfl,q.2⟩
  | _=>exact q.elim
 | _=>cases y<;>exact q.elim
theorem Qt6:scal2 dIn:=fun x y=>by cases x<;>cases y<;>first | exact rfl | exact True.intro
theorem de_in(ha:DB C a A)(hb:DB C b B)(hm:behindInMarks .In b=false:=by rfl):DE C (.Compare a [.In] [b] pos) (e2 dIn A B):=QlI Qrk QuB Qt6 ha hb hm
def blsOf:List D->Option (List Bool)
 | []=>some []
 | .bl b::r=>(blsOf r).map (b :: ·)
 | _::_=>none
theorem Qjt{K:PySem.W.Frag}{CT:CTab}{H:Hp}:∀{ds:List D}{bs:List Bool}{vs:List V},blsOf ds=some bs->RepL K CT H ds vs->vs=bs.map V.bl
 | [],bs,vs,h,r=>by cases h;exact r
 | d::ds,bs,vs,h,⟨v,w,h1,h2,h3⟩=>by
  cases d with
  | bl b=>
   cases e:blsOf ds with
   | none=>rw[blsOf,e]at h;cases h
   | some cs=>
    rw[blsOf,e]at h
    cases h
    cases h2
    rw[h1,Qjt e h3];rfl
  | _=>cases h
def fAll:D->Out D
 | .lst xs=>match blsOf xs with | some bs=>.ok (.bl (bs.all id)) | none=>.stuck
 | _=>.stuck
theorem Qij(hc:C.X.calm=true)(hg:Gl C.X "all")(hm:C.X.mg "all"=none)(ha:DAB C (e::es) AA)
 (he:starEach (e::es) C.X.env=(false,eval e C.X.env)::starEach es C.X.env:=by rfl) (hpl:(backTo pos (starEach es C.X.env)).any (·.1)=false:=by rfl):DE C (.Call (.Name "all" p) (e::es) [] pos) (eA (f1 fAll) AA):=by
 refine Qhw (QqK hc) (Qid ?_) (QgZ ?_) hg hm PyProof.Rows.Boot.«all» ha (by decide) (by decide) he hpl
 ·intro G H σ ς Q x v S r q
  cases x with
  | lst xs=>
   cases eb:blsOf xs with
   | none=>rw[fAll,eb]at q;exact q.elim
   | some bs=>
    rw[fAll,eb]at q
    obtain⟨a,vs,rfl,h2,h3⟩:=r
    rw[Qjt eb h3]at h2
    exact⟨a,bs,rfl,h2,q.2⟩
  | _=>exact q.elim
 ·intro x
  cases x with
  | lst xs=>
   rw[fAll]
   cases blsOf xs with
   | none=>exact True.intro
   | some bs=>exact rfl
  | _=>exact True.intro
end
end DL
namespace DL
open PySem PySem.Spec PyProof.Rows L2
def ctOf(K:PySem.W.Frag):CTab:=fun c=>match PySem.W.nsIn K mainGlobals c with | some (some (.ref a))=>some a | _=>none
theorem ct_of{K:PySem.W.Frag}{c:Str}{a:Addr}(h:PySem.W.nsIn K mainGlobals c=some (some (.ref a))):ctOf K c=some a:=by unfold ctOf;rw[h]
structure Rz(C:Dc)(E:XK):Prop where
 pass:QcH (CXR C.X.prog C.X.w) C.X E
 xd:∀ d,C.XD d->∃ c Cc,d=.err c/\C.CT c=some Cc/\∀ H',(∀ b o,C.H0 b=some o->¬ C.M b->H' b=some o)->E (.ref Cc) none H'
 made:∀(Cc:Addr) pins σ H1 s1 ea h' vs,Inv C.X pins σ H1 s1->Heap.MadeExcOf s1.heap h' ea (.ref Cc) vs->E (.ref Cc) none H1->C.X.xe (.ref ea) { s1 with heap:=h' }
 calm:C.X.calm=true
theorem rz0{C:Dc}(hx:∀ d,¬ C.XD d:=by exact fun _ h=>h)(hc:C.X.calm=true:=by rfl):Rz C E0 where
 pass:=fun pins σ H s e s' I h=>by obtain⟨_,_,_,_,_,_,_,z⟩:=h;exact z.elim
 xd:=fun d h=>absurd h (hx d)
 made:=fun Cc pins σ H1 s1 ea h' vs I hx hE=>hE.elim
 calm:=hc
abbrev Dc.nox(C:Dc):Dc:={ C with X:=C.X.nox,XD:=fun _=>False }
def noX{α:Type}:Out α->Out α
 | .exc _=>.stuck
 | o=>o
theorem QuM{α:Type}(a:α):noX (.ok a)=.ok a:=rfl
theorem QlT{α:Type}{o:Out α}{k:α->Prop}{x:D->Prop}(h:(noX o).post k x):o.post k (fun _=>False):=by cases o<;>exact h
section
variable{C:Dc}{G H:Hp}{σ:St}{ς:SD}{e:Expr}{es:List Expr}{st:Stmt}{sts:List Stmt}
theorem GH.nox(S:GH C G H):GH C.nox G H:=⟨S.sub,S.g0,S.new,S.fr,S.dom,S.bs,S.bh⟩
theorem GH.unnox(S:GH C.nox G H):GH C G H:=⟨S.sub,S.g0,S.new,S.fr,S.dom,S.bs,S.bh⟩
theorem StR.nox(S:StR C G H σ ς):StR C.nox G H σ ς:=⟨S.toGH.nox,S.len,S.fz,S.ow,S.ln,S.inj,S.sf,S.su⟩
theorem StR.unnox(S:StR C.nox G H σ ς):StR C G H σ ς:=⟨S.toGH.unnox,S.len,S.fz,S.ow,S.ln,S.inj,S.sf,S.su⟩
theorem PA.nox'{X:Cx}{t:TA}(h:PA X.nox es t):PA X es t:=fun pos pins s σ H Q I q=>PA.nox h I q
theorem DA.lift{A:SD->Out (List D)}(h:DA C.nox es A):DA C es (fun ς=>noX (A ς)):=by
 obtain⟨t,p,q⟩:=h
 exact⟨t,PA.nox' p,fun G H σ ς Q S k=>q G H σ ς Q S.nox (Out.post_mono (QlT k) fun d kd v H' G' S' a b r=>kd v H' G' S'.unnox a b r)⟩
theorem FlK.nox{W:Ends}{f:Fl}(h:FlK C G W f):FlK C.nox G W f:=by
 cases f with
 | nx ς=>exact fun σ' H' G' S q=>h σ' H' G' S.unnox q
 | bk ς=>exact fun σ' H' G' S q=>h σ' H' G' S.unnox q
 | ct ς=>exact fun σ' H' G' S q=>h σ' H' G' S.unnox q
 | rt b d=>exact fun v H' G' S q r=>h v H' G' S.unnox q r
theorem PS.nox'{X:Cx}{t:TS}(h:PS X.nox st t):PS X st t:=fun pins s σ H D I hw=>
 wpAny_mono (h pins s σ H D (I.wish _) hw) (fun _ _ q=>q.unwish) fun _ _ z=>False.elim z
theorem DS.lift{T:SD->Out Fl}(h:DS C.nox st T):DS C st (fun ς=>noX (T ς)):=by
 obtain⟨t,p,q⟩:=h
 exact⟨t,PS.nox' p,fun G H σ ς W S k=>q G H σ ς W S.nox (Out.post_mono (QlT k) fun f kf=>kf.nox)⟩
variable{x:Str}{k:Nat}{fr:Bool}{dd:List D}{m:List D->Out D}{A:SD->Out (List D)}{p pos:Pos}{E:XK}
end
end DL
namespace DL
open PySem PySem.Spec PyProof.Rows L2
section
variable{C:Dc}{x:Str}{k:Nat}{fr:Bool}{dd:List D}{m:List D->Out D}{e:Expr}{es:List Expr}{A:SD->Out (List D)}{p pos:Pos}
variable{T U:SD->Out FX}{TE:SD->Out EX}{st:Stmt}{sts rest:List Stmt}{i:Nat}{px:Pos}
section
variable{G H:Hp}{σ:St}{ς:SD}{ea:Addr}
end
end
end DL
namespace L2
open PySem PySem.Spec PyProof.Rows
end L2
namespace DL
open PySem PySem.Spec PyProof.Rows L2
section
variable{C:Dc}{pos p:Pos}{e cx:Expr}{E:SD->Out D}
end
end DL
namespace L2
open PySem PySem.Spec PyProof.Rows
def Itz(K:PySem.W.Frag)(a b:Addr):It:=
 ⟨fun i H=>∃ xs ys x y,SqL K H a xs/\SqL K H b ys/\xs[i]?=some x/\ys[i]?=some y,
  fun i H v H'=>∃ p x y,H p=none/\v=.ref p/\H'=upd H p (.tup [x,y])/\(∀ xs,SqL K H a xs->xs[i]?=some x)/\∀ ys,SqL K H b ys->ys[i]?=some y,
  fun i H=>∃ xs ys,SqL K H a xs/\SqL K H b ys/\(xs.length<=i∨ys.length<=i)⟩
theorem QrL{P:Program}{w:World}{K:PySem.W.Frag}{elts:List Expr}{k1:Nat}{pos:Pos}{z TI TO i1 i2 l1 l2:Addr}(D:ZipApart z TI TO i1 i2 l1 l2):
 Turn P w K (.Tuple elts k1 pos) (Itz K l1 l2) [z,TI,TO,i1,i2] z (fun i h=>IsZip h z TI TO .none/\IsPair h TI (.ref i1) (.ref i2)/\(∃ a b,IsPair h TO a b)/\h.IsListIter i1 l1 i/\h.IsListIter i2 l2 i) where
 mem:=by simp
 obj:=fun i h st b hb=>by
  obtain⟨s1,s2,⟨_,_,s3⟩,⟨o4,e4,c4,d4⟩,⟨o5,e5,c5,d5⟩⟩:=st
  simp only[List.mem_cons,List.not_mem_nil,or_false]at hb
  rcases hb with rfl | rfl | rfl | rfl | rfl
  ·exact⟨_,s1,fun v q=>by cases q⟩
  ·exact⟨_,s2,fun v q=>by cases q⟩
  ·exact⟨_,s3,fun v q=>by cases q⟩
  ·exact⟨_,e4,fun v q=>by rw[d4]at q;cases q⟩
  ·exact⟨_,e5,fun v q=>by rw[d5]at q;cases q⟩
 keep:=fun i h h' st k=>by
  obtain⟨s1,s2,⟨a,b,s3⟩,s4,s5⟩:=st
  exact⟨k z (by simp) _ s1,k TI (by simp) _ s2,⟨a,b,k TO (by simp) _ s3⟩,s4.at fun o e=>k i1 (by simp) o e,s5.at fun o e=>k i2 (by simp) o e⟩
 item:=by
  intro X hP hw hK hc i pins s σ H E I hf st hg
  subst hP hw hK
  obtain⟨xs,ys,x,y,q1,q2,hx,hy⟩:=hg
  obtain⟨its1,rv1,p1,hz1⟩:=I.list q1
  obtain⟨its2,rv2,p2,hz2⟩:=I.list q2
  obtain⟨u1,hu1,ru1⟩:=rv1.get hx
  obtain⟨u2,hu2,ru2⟩:=rv2.get hy
  obtain⟨s1,s2,⟨a,b,s3⟩,s4,s5⟩:=st
  refine wpAny_pyNext_zip_item D s1 s2 s3 s4 s5 p1.isList p2.isList (x:=u1) (y:=u2) (by simpa using hu1) (by simpa using hu2) fun h' a1 a2 a3 a4 a5 a6 hk=>?_
  have hT:H s.heap.objs.size=none:=I.hok.fresh (Nat.le_refl _)
  have fp:∀ c∈[z,TO,i1,i2],FpOk X pins H c:=fun c hc=>hf c (by
   simp only[List.mem_cons,List.not_mem_nil,or_false]at hc ⊢
   rcases hc with rfl | rfl | rfl | rfl<;>simp)
  have out:∀ c,c∉[z,TO,i1,i2]->∀ o,s.heap.get? c=some o->h'.get? c=some o:=fun c hc o e=>hk c o (fun q=>hc (by simp[q])) (fun q=>hc (by simp[q])) (fun q=>hc (by simp[q])) (fun q=>hc (by simp[q])) e
  have trk:∀ c o,H c=some o->c∉[z,TO,i1,i2]:=fun c o e hc=>by rw[(fp c hc).1]at e;cases e
  have hok:HOk X.prog X.w (upd H s.heap.objs.size (.tup [x,y])) h':=fun c o e=>by
   by_cases hcT:c=s.heap.objs.size
   ·subst hcT
    rw[Qx]at e
    cases e
    exact⟨by show 2<=sizeLine;decide,[u1,u2],.cons ru1 (.cons ru2 .nil),⟨_,a5,rfl,_,rfl⟩⟩
   ·rw[Qh hcT]at e
    refine(I.hok c o e).stay (fun b u hb q=>out b ?_ u q) (fun b q=>?_) fun b ts q=>?_
    ·rcases hb with rfl | hb
     ·exact trk b _ e
     ·exact trk b _ hb
    ·rw[Qh (QJ q hT)];exact q
    ·rw[Qh (QJ q hT)];exact q
  have I1:Inv X pins σ (upd H s.heap.objs.size (.tup [x,y])) { s with heap:=h',gens:=s.gens,drawn:=s.drawn,toks:=s.toks }:=I.step (ch:=[z,TO,i1,i2])
   (fun c hc=>⟨(fp c hc).2.2.2.1,(fp c hc).2.1,(fp c hc).2.2.2.2.1,(fp c hc).2.2.2.2.2⟩) (fun c o _ _ hc e _=>out c hc o e) (fun c o _ _ hc e _=>⟨o.slots,out c hc o e⟩)
   (fun c o hc e n=>by rw[Qh (Nat.ne_of_lt (Heap.lt_size e))];exact n) (fun c o hc e=>⟨o,out c hc o e⟩)
   (fun c ts e=>by rw[Qh (QJ e hT)];exact e) (fun c o u e=>by rw[Qh (QJ e hT)];exact e) (fun c ts e=>⟨#[],by rw[Qh (QJ e hT),e];simp⟩)
   (fun m hm=>by
    obtain⟨o,es,ep,ho,r⟩:=hm
    exact⟨o,es,ep,out _ (fun hc=>(fp _ hc).2.1 rfl) o ho,r⟩) hok I.bare
  have lt:∀{c o},s.heap.get? c=some o->s.heap.objs.size≠c:=fun e=>Nat.ne_of_gt (Heap.lt_size e)
  refine⟨_,rfl,wpAny_letOwnedTupleGo_zip a1 fun h2 hz2 hs2=>?_⟩
  obtain⟨z0,z1,z2,z3,z4,z5⟩:=hf z (by simp)
  have I2:Inv X pins σ (upd H s.heap.objs.size (.tup [x,y])) { s with heap:=h2 }:=Inv.turned (s:={ s with heap:=h',gens:=s.gens,drawn:=s.drawn,toks:=s.toks }) (t':=s.toks) (it:=z) I1 (fun b o hb e=>(hs2.2 b hb).trans e) (by rw[Qh (lt s1).symm];exact z0) z1 z3 z4 z5
  refine⟨.ref s.heap.objs.size,_,I2,rfl,⟨_,x,y,hT,rfl,rfl,fun xs' q'=>by rw[I.list_inj q' q1];exact hx,fun ys' q'=>by rw[I.list_inj q' q2];exact hy⟩,
   ⟨hz2,hs2.extBut _ _ D.TIz (out TI (by simp[D.TIz,D.TITO,D.TIi1,D.TIi2]) _ s2),⟨_,_,hs2.extBut _ _ D.TOz a2⟩,a3.extBut hs2.extBut D.i1z,a4.extBut hs2.extBut D.i2z⟩,fun c hc=>?_⟩
  have:H c=none:=(hf c hc).1
  obtain⟨oc,hoc⟩:∃ o,s.heap.get? c=some o:=by
   simp only[List.mem_cons,List.not_mem_nil,or_false]at hc
   rcases hc with rfl | rfl | rfl | rfl | rfl
   ·exact⟨_,s1⟩
   ·exact⟨_,s2⟩
   ·exact⟨_,s3⟩
   ·obtain⟨o,e,_⟩:=s4;exact⟨o,e⟩
   ·obtain⟨o,e,_⟩:=s5;exact⟨o,e⟩
  rw[Qh (lt hoc).symm];exact this
 done:=by
  intro X hP hw hK hc i pins s σ H E I hf st hg
  subst hP hw hK
  obtain⟨xs,ys,q1,q2,hend⟩:=hg
  obtain⟨its1,rv1,p1,hz1⟩:=I.list q1
  obtain⟨its2,rv2,p2,hz2⟩:=I.list q2
  have l1:=rv1.length
  have l2:=rv2.length
  obtain⟨s1,s2,⟨a,b,s3⟩,s4,s5⟩:=st
  have fp:∀ c∈[z,TO,i1,i2],FpOk X pins H c:=fun c hc=>hf c (by
   simp only[List.mem_cons,List.not_mem_nil,or_false]at hc ⊢
   rcases hc with rfl | rfl | rfl | rfl<;>simp)
  refine wpAny_pyNext_zip_end (I.ok.hd hc) D s1 s2 s3 s4 s5 p1.isList p2.isList (by simp;omega) fun h' hk=>⟨rfl,?_⟩
  have out:∀ c,c∉[z,TO,i1,i2]->∀ o,s.heap.get? c=some o->h'.get? c=some o:=fun c hc o e=>hk c o (fun q=>hc (by simp[q])) (fun q=>hc (by simp[q])) (fun q=>hc (by simp[q])) (fun q=>hc (by simp[q])) e
  have trk:∀ c o,H c=some o->c∉[z,TO,i1,i2]:=fun c o e hc=>by rw[(fp c hc).1]at e;cases e
  exact I.step (g':=s.gens) (d':=s.drawn) (t':=s.toks) (ch:=[z,TO,i1,i2]) (fun c hc=>⟨(fp c hc).2.2.2.1,(fp c hc).2.1,(fp c hc).2.2.2.2.1,(fp c hc).2.2.2.2.2⟩) (fun c o _ _ hc e _=>out c hc o e) (fun c o _ _ hc e _=>⟨o.slots,out c hc o e⟩)
   (fun c o hc e n=>n) (fun c o hc e=>⟨o,out c hc o e⟩) (fun c ts e=>e) (fun c o u e=>e) (fun c ts e=>⟨#[],by rw[e];simp⟩)
   (fun m hm=>by
    obtain⟨o,es,ep,ho,r⟩:=hm
    exact⟨o,es,ep,out _ (fun hc=>(fp _ hc).2.1 rfl) o ho,r⟩)
   (fun c o e=>(I.hok c o e).stay (fun b u hb q=>out b (by
    rcases hb with rfl | hb
    ·exact trk b _ e
    ·exact trk b _ hb) u q) (fun b q=>q) fun b ts q=>q) I.bare
 self:=fun _ _ _ _ _ st h=>wpAny_pyIter_zip st.1 h
section
variable{X:Cx}
theorem Qrd(n l1 l2:Nat)(h1:l1<n)(h2:l2<n):ZipApart (n+4) (n+2) (n+3) n (n+1) l1 l2:=⟨(show ¬ ((n+2:Nat)=n+4) by omega),(show ¬ ((n+3:Nat)=n+4) by omega),(show ¬ ((n:Nat)=n+4) by omega),(show ¬ ((n+1:Nat)=n+4) by omega),(show ¬ ((n+2:Nat)=n+3) by omega),(show ¬ ((n+2:Nat)=n) by omega),(show ¬ ((n+2:Nat)=n+1) by omega),(show ¬ ((n+3:Nat)=n) by omega),(show ¬ ((n+3:Nat)=n+1) by omega),(show ¬ ((n:Nat)=n+1) by omega),(show ¬ ((l1:Nat)=n+4) by omega),(show ¬ ((l1:Nat)=n+3) by omega),(show ¬ ((l1:Nat)=n) by omega),(show ¬ ((l1:Nat)=n+1) by omega),(show ¬ ((l2:Nat)=n+4) by omega),(show ¬ ((l2:Nat)=n+3) by omega),(show ¬ ((l2:Nat)=n) by omega),(show ¬ ((l2:Nat)=n+1) by omega)⟩
def iZip(K:PySem.W.Frag)(ta:TA):TI:=fun σ H R=>ta σ H fun vs H1=>∃ a b,vs=[.ref a,.ref b]/\(∃ xs,SqL K H1 a xs)/\(∃ ys,SqL K H1 b ys)/\R (Itz K a b) H1
theorem Qu6{elts:List Expr}{k1:Nat}{tpos:Pos}{a b:Expr}{ta:TA}{p pos:Pos}(hg:Gl X "zip")(hm:X.mg "zip"=none)(ha:PA X [a,b] ta)(hs:starEach [a,b] X.env=[(false,eval a X.env),(false,eval b X.env)]:=by rfl)(hs2:starEach [b] X.env=[(false,eval b X.env)]:=by rfl):
 PI X (.Tuple elts k1 tpos) (.Call (.Name "zip" p) [a,b] [] pos) (iZip X.K ta):=by
 intro pins s σ H R I h
 refine Call_ (QgA I hg hm PyProof.Rows.Boot.«zip» (PyProof.Rows.callWith_type1 (thn (ha pos pins s σ H _ I h) fun us s1 ⟨vs,H1,I1,r1,q1⟩=>?_) (by rw[hs,hs2]) (by rw[hs2];rfl)))
 obtain⟨l1,l2,e,⟨xs,hx⟩,⟨ys,hy⟩,q⟩:=q1
 subst e
 cases r1 with
 | cons r rr=>
  cases rr with
  | cons r' rr=>
   cases rr
   cases r
   cases r'
   obtain⟨its1,rv1,p1,hz1⟩:=I1.list hx
   obtain⟨its2,rv2,p2,hz2⟩:=I1.list hy
   have n1:l1<s1.heap.objs.size:=by obtain⟨o,n,ho,_⟩:=p1;exact Heap.lt_size ho
   have n2:l2<s1.heap.objs.size:=by obtain⟨o,n,ho,_⟩:=p2;exact Heap.lt_size ho
   refine call_zip_2 p1.isList p2.isList fun h' c1 c2 c3 c4 c5 c6 hk=>?_
   refine wpAny_pyIter_zip c1 ?_
   refine⟨_,_,_,Itz X.K l1 l2,H1,rfl,I1.kept (t':=s1.toks) fun b o e=>hk b o e,QrL (i1:=s1.heap.objs.size) (i2:=s1.heap.objs.size+1) (TI:=s1.heap.objs.size+2) (TO:=s1.heap.objs.size+3) (z:=s1.heap.objs.size+4) (l1:=l1) (l2:=l2)
    (Qrd s1.heap.objs.size l1 l2 n1 n2),⟨c1,c2,⟨_,_,c3⟩,c4,c5⟩,fun b hb=>?_,q⟩
   have hb':s1.heap.objs.size<=b:=by
    simp only[List.mem_cons,List.not_mem_nil,or_false]at hb
    rcases hb with rfl | rfl | rfl | rfl | rfl<;>omega
   exact I1.fpOk hb' (I1.hok.fresh hb')
end
end L2
namespace DL
open PySem PySem.Spec PyProof.Rows L2
def itZ(A B:SD->Out D):SD->Out (List D):=fun ς=>A ς>>=fun x=>B ς>>=fun y=>match x,y with
 | .lst xs,.lst ys=>.ok (List.zipWith (fun a b=>.tup [a,b]) xs ys)
 | _,_=>.stuck
section
variable{C:Dc}{a b:Expr}{A B:SD->Out D}
theorem Qtn{K:PySem.W.Frag}{CT:CTab}{G1:Hp}{p q:Addr}{xs ys:List D}{us vs:List V}(h1:SqL K G1 p us)(r1:RepL K CT G1 xs us)(h2:SqL K G1 q vs)(r2:RepL K CT G1 ys vs):DIt K CT G1 (Itz K p q) (List.zipWith (fun a b=>D.tup [a,b]) xs ys) where
 go:=fun G H i d s1 sH hd=>by
  rw[List.getElem?_zipWith]at hd
  cases e1:xs[i]? with
  | none=>rw[e1]at hd;cases hd
  | some x=>
   cases e2:ys[i]? with
   | none=>rw[e1,e2]at hd;cases hd
   | some y=>
    rw[e1,e2]at hd
    cases hd
    obtain⟨u,hu,ru⟩:=r1.get e1
    obtain⟨v,hv,rv⟩:=r2.get e2
    have q1:SqL K H p us:=sH.seq (s1.seq h1)
    have q2:SqL K H q vs:=sH.seq (s1.seq h2)
    refine⟨⟨us,vs,u,v,q1,q2,hu,hv⟩,fun w H' ⟨t,x',y',n,e,e',k1,k2⟩=>?_⟩
    have z1:=k1 us q1
    have z2:=k2 vs q2
    rw[hu]at z1;cases z1
    rw[hv]at z2;cases z2
    subst e e'
    have gn:G t=none:=sH.free n
    refine⟨upd G t (.tup [u,v]),Qq gn,Qq n,Qjy sH,fun b g g'=>?_,t,[u,v],rfl,SqT.of Qx,⟨u,_,rfl,Rep.mono (s1.trans (Qq gn)) x u ru,v,_,rfl,Rep.mono (s1.trans (Qq gn)) y v rv,rfl⟩⟩
    by_cases hb:b=t
    ·subst hb;exact n
    ·rw[Qh hb]at g';exact absurd g g'
 stop:=fun G H s1 sH=>by
  refine⟨us,vs,sH.seq (s1.seq h1),sH.seq (s1.seq h2),?_⟩
  have l1:=r1.length
  have l2:=r2.length
  rw[List.length_zipWith]
  omega
theorem QgE{elts:List Expr}{k1:Nat}{tpos p pos:Pos}(hgl:Gl C.X "zip")(hm:C.X.mg "zip"=none)(ha:DE C a A)(hb:DE C b B)
 (hst:starEach [a,b] C.X.env=(false,eval a C.X.env)::starEach [b] C.X.env:=by rfl) (hst2:starEach [b] C.X.env=(false,eval b C.X.env)::starEach [] C.X.env:=by rfl):DI C (.Tuple elts k1 tpos) (.Call (.Name "zip" p) [a,b] [] pos) (itZ A B):=by
 obtain⟨t0,p0,q0⟩:=ha
 obtain⟨t3,p3,q3⟩:=hb
 refine⟨_,Qu6 hgl hm (Qbe p0 (Qbe p3 Qb1 hst2) hst) (by rw[hst,hst2];rfl) (by rw[hst2];rfl),fun G H σ ς R S k=>?_⟩
 unfold itZ at k
 rw[Out.post_bind]at k
 refine q0 G H σ ς _ S (Out.post_mono k fun d k v H1 G1 S1 a1 b1 r=>?_)
 rw[Out.post_bind]at k
 refine q3 G1 H1 σ ς _ S1 (Out.post_mono k fun d2 k v2 H2 G2 S2 a2 b2 r'=>?_)
 cases d with
 | lst xs=>
  cases d2 with
  | lst ys=>
   obtain⟨p1,us,rfl,h1,r1⟩:=Rep.mono b2 _ v r
   obtain⟨p2,vs,rfl,h2,r2⟩:=r'
   exact⟨p1,p2,rfl,⟨us,S2.sub.seq h1⟩,⟨vs,S2.sub.seq h2⟩,k _ H2 G2 S2 (a1.trans a2) (b1.trans b2) (Qtn h1 r1 h2 r2)⟩
  | _=>exact k.elim
 | _=>exact k.elim
end
end DL
namespace DL
open PySem PySem.Spec PyProof.Rows L2
def putD(f:Str)(d:D):List (Str×D)->List (Str×D)
 | []=>[(f,d)]
 | (g,x)::r=>if g=f then(g,d)::r else(g,x)::putD f d r
section
variable{K:PySem.W.Frag}{CT:CTab}{H H':Hp}
theorem RepF.look:∀{fds:List (Str×D)}{fs:List (Str×V)}{f:Str},RepF K CT H fds fs->(∀ d,fds.lookup f=some d->∃ v,fs.lookup f=some v/\Rep K CT H d v)/\(fds.lookup f=none->fs.lookup f=none)
 | [],_,f,h=>by cases h;exact⟨fun d z=>(by cases z),fun _=>rfl⟩
 | (k,d)::fds,_,f,⟨v,r,h1,h2,h3⟩=>by
  subst h1
  have ih:=RepF.look (f:=f) h3
  rw[List.lookup_cons,List.lookup_cons]
  cases f == k with
  | true=>exact⟨fun d' z=>by cases z;exact⟨v,rfl,h2⟩,fun z=>by cases z⟩
  | false=>exact ih
theorem RepF.len:∀{fds:List (Str×D)}{fs:List (Str×V)},RepF K CT H fds fs->fds.length=fs.length
 | [],_,h=>by cases h;rfl
 | (k,d)::fds,_,⟨v,r,h1,h2,h3⟩=>by subst h1;rw[List.length_cons,List.length_cons,RepF.len h3]
theorem RepF.put{f:Str}{d:D}{v:V}(q:Rep K CT H d v):∀{fds:List (Str×D)}{fs:List (Str×V)},RepF K CT H fds fs->RepF K CT H (putD f d fds) (putF f v fs)
 | [],_,h=>by cases h;exact⟨v,[],rfl,q,rfl⟩
 | (k,x)::fds,_,⟨u,r,h1,h2,h3⟩=>by
  subst h1
  unfold putD putF
  by_cases hk:k=f
  ·rw[if_pos hk,if_pos hk];exact⟨v,r,rfl,q,h3⟩
  ·rw[if_neg hk,if_neg hk];exact⟨u,_,rfl,h2,RepF.put q h3⟩
end
def FldOk(K:PySem.W.Frag)(CT:CTab)(cs:List Str)(f:Str):Prop:=∀ c,cs.contains c=true->∀ A,CT c=some A->Cls K A/\Qek K A f
def dFld(cs:List Str)(f:Str):D->Out D
 | .ins c fs=>if cs.contains c=true then optO (fs.lookup f) else .stuck
 | _=>.stuck
section
variable{C:Dc}{e:Expr}{E:SD->Out D}{f:Str}{cs:List Str}{pos:Pos}
theorem Qfy(hF:FldOk C.X.K C.CT cs f)(h:DE C e E)(hb:attributeBase e f C.X.env (eval e C.X.env)=eval e C.X.env:=by rfl):DE C (.Attribute e f pos) (e1 (dFld cs f) E):=by
 obtain⟨t,p,q⟩:=h
 refine⟨_,QuE p hb,fun G H σ ς Q S k=>?_⟩
 unfold e1 at k
 rw[Out.post_bind]at k
 refine q G H σ ς _ S (Out.post_mono k fun d k v H1 G1 S1 a1 b1 r=>?_)
 cases d with
 | ins c fds=>
  rcases QE k with⟨hc,k⟩ | ⟨_,k⟩
  ·obtain⟨d,e1',kd⟩:=Qew k
   obtain⟨a,A,dx,fs,rfl,h1,h2,h3⟩:=r
   obtain⟨v,e2',rv⟩:=(RepF.look h3).1 d e1'
   obtain⟨cl,na⟩:=hF c hc A h1
   exact⟨a,A,dx,fs,v,rfl,S1.sub _ _ h2,cl,na,e2',KD.now (KD.later kd a1 b1) S1 rv⟩
  ·exact k.elim
 | _=>exact k.elim
theorem StR.writeS{G H:Hp}{σ:St}{ς:SD}(S:StR C G H σ ς){i:Nat}{p A dx:Addr}{c:Str}{fds fds':List (Str×D)}{fs':List (Str×V)}(hi:ς[i]?=some (some (.s,.ins c fds)))(hp:σ[i]?=some (some (.ref p)))(hc:C.CT c=some A)(r:RepF C.X.K C.CT G fds' fs'):
 StR C G (upd H p (.ins A dx fs')) σ (ς.set i (some (.s,.ins c fds'))):=by
 obtain⟨p',e1,hg,h0,⟨hM,hW⟩,hB,ow⟩:=S.sf i _ hi
 rw[hp]at e1;cases e1
 have ne:∀ b o,G b=some o->b≠p:=fun b o e z=>by subst z;rw[hg]at e;cases e
 have S':StR C G (upd H p (.ins A dx fs')) (σ.set i (some (.ref p))) (ς.set i (some (.s,.ins c fds'))):={
  sub:=fun b o e=>by rw[Qh (ne b o e)];exact S.sub b o e
  g0:=S.g0
  new:=S.new
  fr:=fun b o e m=>by
   rw[Qh (by rintro rfl;exact m hM)];exact S.fr b o e m
  dom:=fun b e=>by
   by_cases hb:b=p
   ·subst hb;rw[Qx]at e;cases e
   ·rw[Qh hb]at e;exact S.dom b e
  bs:=fun b o e=>by
   rw[Qh (by rintro rfl;rw[hB]at e;cases e)];exact S.bs b o e
  bh:=S.bh
  len:=by rw[List.length_set,List.length_set];exact S.len
  fz:=fun j d h=>by
   rcases Ql h with⟨rfl,h2,l⟩ | ⟨hne,h2⟩
   ·cases h2
   ·rw[Qk hne];exact S.fz j d h2
  ow:=fun j d h=>by
   rcases Ql h with⟨rfl,h2,l⟩ | ⟨hne,h2⟩
   ·cases h2
   ·rw[Qk hne]
    obtain⟨q,a,b,c',w⟩:=S.ow j d h2
    have qp:q≠p:=by
     rintro rfl
     exact h0 c'
    exact⟨q,a,b,c',w.mono (Same.refl G) fun o z=>by rw[Qh qp];exact z⟩
  ln:=fun j d h=>by
   rcases Ql h with⟨rfl,h2,l⟩ | ⟨hne,h2⟩
   ·cases h2
   ·rw[Qk hne];exact S.ln j d h2
  inj:=fun j k d1 d2 q hjk h1 h2 h3=>by
   rcases Ql h1 with⟨rfl,q1,l⟩ | ⟨n1,q1⟩
   ·cases q1
   ·rcases Ql h2 with⟨rfl,q2,l⟩ | ⟨n2,q2⟩
    ·cases q2
    ·rw[Qk n1]at h3
     rw[Qk n2]
     exact S.inj j k d1 d2 q hjk q1 q2 h3
  sf:=fun j d h=>by
   rcases Ql h with⟨rfl,h2,l⟩ | ⟨hne,h2⟩
   ·cases h2
    exact⟨p,Qee (by rw[S.len];exact l),hg,h0,⟨hM,hW⟩,hB,⟨A,dx,fs',hc,Qx,r⟩⟩
   ·rw[Qk hne]
    obtain⟨q,a,b,c2,m,z,w⟩:=S.sf j d h2
    have qp:q≠p:=by
     rintro rfl
     exact S.su i j _ _ q hne hi h2 hp a
    exact⟨q,a,b,c2,m,z,w.mono (Same.refl G) fun o z=>by rw[Qh qp];exact z⟩
  su:=fun j k d1 d2 q hjk h1 h2 h3=>by
   have get:∀(j:Nat) d,(ς.set i (some (.s,D.ins c fds')))[j]?=some (some (.s,d))->∃ d',ς[j]?=some (some (.s,d')):=fun j d h=>by
    rcases Ql h with⟨rfl,h2,l⟩ | ⟨hne,h2⟩
    ·exact⟨_,hi⟩
    ·exact⟨_,h2⟩
   obtain⟨d1',g1⟩:=get j d1 h1
   obtain⟨d2',g2⟩:=get k d2 h2
   rw[QfW hp]at h3 ⊢
   exact S.su j k d1' d2' q hjk g1 g2 h3 }
 rw[QfW hp]at S'
 exact S'
def sFldS(cs:List Str)(f:Str)(i:Nat)(E:SD->Out D):SD->Out Fl:=fun ς=>E ς>>=fun d=>match ς[i]? with
 | some (some (.s,.ins c fds))=>if (cs.contains c&&decide (fds.length<1000))=true then .ok (.nx (ς.set i (some (.s,.ins c (putD f d fds))))) else .stuck
 | _=>.stuck
theorem Qow(i:Nat){x:Str}{px pa:Pos}(hF:FldOk C.X.K C.CT cs f)(h:DE C e E)(hN:C.X.N[i]?=some x:=by rfl)(hv:Vis C.X.env.scope x:=by first | exact Or.inl rfl | exact Or.inr (oi rfl) | exact Or.inr (Or.inr rfl))
 (hd:(x == ("__debug__":Str))=false:=by decide) (hcd:(x == ("__classdict__":Str))=false:=by decide)
 (hs:swapsWith e (some (.Attribute (.Name x px) f pa)) pos.line C.X.env=pure false:=by rfl):DS C (.Assign [.Attribute (.Name x px) f pa] e pos) (sFldS cs f i E):=by
 obtain⟨t,p,q⟩:=h
 refine⟨_,QuN (QdF (i:=i) hN hv hd hcd) p hs,fun G H σ ς W S k=>?_⟩
 unfold sFldS at k
 rw[Out.post_bind]at k
 refine q G H σ ς _ S (Out.post_mono k fun d k v H1 G1 S1 a1 b1 r=>?_)
 split at k
 ·rename_i c fds z
  rcases QE k with⟨hc,k⟩ | ⟨_,k⟩
  ·rw[Bool.and_eq_true]at hc
   obtain⟨pp,e1',hg,h0,hM,hB,A,dx,fs,hA,hH,rf⟩:=S1.sf i _ z
   obtain⟨cl,na⟩:=hF c hc.1 A hA
   refine⟨_,e1',pp,A,dx,fs,rfl,hH,cl,na,by rw[← rf.len];exact of_decide_eq_true hc.2,?_⟩
   exact(show FlK C G W (.nx (ς.set i (some (.s,.ins c (putD f d fds))))) from k) σ _ G1 (S1.writeS z e1' hA (rf.put r)) b1
  ·exact k.elim
 ·exact k.elim
end
end DL
namespace L2
open PySem PySem.Spec PyProof.Rows
section
variable{X:Cx}{CX:CXT}{k:Nat}{m:Str}{dvs:List V}{E:XK}{o e:Expr}{es:List Expr}{ta:TE}{t:TA}{apos pos:Pos}{cs:Addr->Sp->Prop}
def MTab(X:Cx)(CX:CXT)(k:Nat)(m:Str)(dvs:List V)(cs:Addr->Sp->Prop):Prop:=
 ∀ C sp,cs C sp->Cls X.K C/\∃ f fd ps ds,Meth X.K C m f/\FnOk X.prog X.w X.K X.mg X.base CX k f fd ps sp/\Binds X.K fd ps ds/\Vals dvs ds
def QrI(m:Str)(dvs:List V)(cs:Addr->Sp->Prop)(E:XK)(ta:TE)(t:TA):TE:=fun σ H Q=>ta σ H fun x H1=>∃ a C dx fs sp,x=.ref a/\H1 a=some (.ins C dx fs)/\cs C sp/\fs.lookup m=none/\t σ H1 fun vs H2=>sp (x::(vs++dvs)) H2 Q E
theorem QmA{pl:Sem Bool}(he:PE X o ta)(tab:MTab X CX k m dvs cs)(hr:Room k X.A)(hx:QcH CX X E)(ha:PA X (e::es) t)
 (hst:starEach (e::es) X.env=(false,eval e X.env)::starEach es X.env:=by rfl) (hpl:(backTo pos (starEach es X.env)).any (·.1)=false:=by rfl)
 (ht:eval (.Call (.Attribute o m apos) (e::es) [] pos) X.env=(do
  let ov ← eval o X.env
  standAt apos.atName
  let (f,first) ← holding [ov] (getMethod ov m pl)
  callWith pos f first (backTo pos (starEach (e::es) X.env)) (backToKw pos (keywordEach [] X.env))):=by rfl):
 PE X (.Call (.Attribute o m apos) (e::es) [] pos) (QrI m dvs cs E ta t):=by
 intro pins s σ H Q I h
 refine PySem.W.methodCall_KW (pl:=pl) (thn (he pins s σ H _ I h) fun u s1 ⟨x,H1,I1,rx,a,C,dx,fs,sp,ex,ea,hc,l,q⟩=>?_) ht
 subst ex
 obtain rfl:u=Value.ref a:=rx
 obtain⟨c,f,fd,ps,ds,hm,F,hb,hd⟩:=tab C sp hc
 refine QhN I1 ea c hm l ?_
 refine PySem.W.callWith_K (first:=[.ref a]) (h₀:=X.base) I.ok.mod.kin hm.kp (thn (ha pos pins s1 σ H1 _ I1 q) fun us s2 ⟨vs,H2,I2,r,q2⟩=>⟨I2.kIn,?_⟩) hst hpl
 exact Qml (us:=.ref a::us) (vs:=.ref a::vs) F hr hb hd hx I2 (.cons rfl r) q2
theorem QrJ{pl:Sem Bool}(he:PE X o ta)(tab:MTab X CX k m dvs cs)(hr:Room k X.A)(hx:QcH CX X E)
 (ht:eval (.Call (.Attribute o m apos) [] [] pos) X.env=(do
  let ov ← eval o X.env
  standAt apos.atName
  let (f,first) ← holding [ov] (getMethod ov m pl)
  callWith pos f first (backTo pos (starEach [] X.env)) (backToKw pos (keywordEach [] X.env))):=by rfl):
 PE X (.Call (.Attribute o m apos) [] [] pos) (QrI m dvs cs E ta tNil):=by
 intro pins s σ H Q I h
 refine PySem.W.methodCall_KW (pl:=pl) (thn (he pins s σ H _ I h) fun u s1 ⟨x,H1,I1,rx,a,C,dx,fs,sp,ex,ea,hc,l,q⟩=>?_) ht
 subst ex
 obtain rfl:u=Value.ref a:=rx
 obtain⟨c,f,fd,ps,ds,hm,F,hb,hd⟩:=tab C sp hc
 refine QhN I1 ea c hm l ?_
 exact PySem.W.callWith_K0 (first:=[.ref a]) I1.kIn hm.kp (Qml (us:=[.ref a]) (vs:=[.ref a]) F hr hb hd hx I1 (.cons rfl .nil) q)
end
end L2
namespace DL
open PySem PySem.Spec PyProof.Rows L2
def XDofI(CT:CTab)(E:XK)(H:Hp)(p:Addr):D->Prop:=fun d=>∃ c C,d=.err c/\CT c=some C/\∀ H',(∀ b o,H b=some o->b≠p->H' b=some o)->E (.ref C) none H'
def SpI(K:PySem.W.Frag)(CT:CTab)(m:Str->List (Str×D)->List D->Out (List (Str×D))):Sp:=fun vs H Q E=>∃ p c A dx fs fds vs' ds G0,vs=.ref p::vs'/\CT c=some A/\H p=some (.ins A dx fs)/\G0 p=none/\Same G0 H/\RepF K CT G0 fds fs/\RepL K CT G0 ds vs'/\
 (m c fds ds).post (fun fds'=>∀ H' G' fs' dx',Same G0 G'->(∀ b o,H b=some o->b≠p->H' b=some o)->Same G' H'->(∀ b,G0 b=none->G' b≠none->H b=none)->H' p=some (.ins A dx' fs')->RepF K CT G' fds' fs'->Q .non H') (XDofI CT E H p)
def QgG(c:Str)(ς:SD):Out (List (Str×D)):=match (ς[0]?:Option (Option (SM×D))) with
 | some (some (SM.s,D.ins c' fds))=>if c'=c then .ok fds else .stuck
 | _=>.stuck
def QcS(c:Str):Fl->Out (List (Str×D))
 | .nx ς=>QgG c ς
 | _=>.stuck
def bodyI(n len:Nat)(T:SD->Out Fl):Str->List (Str×D)->List D->Out (List (Str×D)):=fun c fds ds=>
 if ds.length+1=n then T (some (.s,.ins c fds)::(ds.map (fun d=>some (.k,d))++List.replicate (len - n) none))>>=QcS c else .stuck
abbrev dcI(P:Program)(w:World)(K:PySem.W.Frag)(mg:Str->Option Value)(base:Heap)(CT:CTab)(N:List Str)(qual:Str)(sc:Scope)(f:Addr)(cdv:Value)(A:Around)(outer:List Env)(s:Shared)(H:Hp)(E:XK)(G:Hp)(p:Addr):Dc:=
 { X:=cxOf (CXR P w) P w K mg base N qual sc f cdv A outer s H E,CT:=CT,G0:=G,XD:=XDofI CT E H p,B:=fun b=>if b=p then none else H b,M:=fun b=>b=p,W:=fun _=>some p }
theorem fnI{P:Program}{w:World}{K:PySem.W.Frag}{mg:Str->Option Value}{base:Heap}{CT:CTab}{x qual:Str}{st:Stmt}{f:Addr}{fd:FuncData}{dV:Value}{N ps:List Str}{k:Nat}{T:SD->Out Fl}
 (F:FunV K x qual st f fd dV) (S:Qm N ps (Qd st))
 (hb:∀(cdv:Value)(A:Around)(outer:List Env)(s:Shared)(H:Hp)(E:XK)(G:Hp)(p:Addr),Room k (A.deeper (envOfC qual (Qd st) s.heap.objs.size f cdv))->DSs (dcI P w K mg base CT N qual (Qd st) f cdv A outer s H E G p) (Qbc st) T):
 FnOk P w K mg base (CXR P w) (k+1) f fd ps (SpI K CT (bodyI ps.length N.length T)):=by
 obtain⟨oc,od,kV,doc,pm,an,cdv,ct,osl,rfl,lk,hcd⟩:=F.ex
 have hpl:ps.length<=N.length:=by have:=congrArg List.length S.pre;rw[List.length_take]at this;omega
 have len:∀ vs H Q E,SpI K CT (bodyI ps.length N.length T) vs H Q E->vs.length=ps.length:=by
  intro vs H Q E ⟨p,c,A,dx,fs,fds,vs',ds,G0,e,_,_,_,_,_,r,q⟩
  unfold bodyI at q
  by_cases hl:ds.length+1=ps.length
  ·rw[e,List.length_cons, ← r.length];exact hl
  ·rw[if_neg hl]at q;exact q.elim
 refine fn_of lk hcd S len fun A outer s H vs Q E hr hsp=>?_
 have hlen:=len vs H Q E hsp
 obtain⟨p,c,Ac,dx,fs,fds,vs',ds,G0,rfl,hct,hp,hg,sub,rf,r,q⟩:=hsp
 obtain⟨t,p1,q1⟩:=hb cdv A outer s H E G0 p hr
 have hl:ds.length+1=ps.length:=by rw[r.length];exact hlen
 refine⟨t,p1,?_⟩
 unfold bodyI at q
 rw[if_pos hl,Out.post_bind]at q
 have get:∀(i:Nat) x,(some (SM.s,D.ins c fds)::(ds.map (fun d=>some (SM.k,d))++List.replicate (N.length - ps.length) none))[i]?=some (some x)->(i=0/\x=(.s,.ins c fds))∨∃ j d,i=j+1/\ds[j]?=some d/\x=(.k,d):=fun i x h=>by
  cases i with
  | zero=>exact .inl ⟨rfl,by simpa using h.symm⟩
  | succ j=>
   rw[List.getElem?_cons_succ]at h
   obtain⟨d,e1,e2⟩:=QbD h
   exact .inr ⟨j,d,rfl,e1,e2⟩
 have S0:StR (dcI P w K mg base CT N qual (Qd st) f cdv A outer s H E G0 p) G0 H (L2.start N (.ref p::vs')) (some (.s,.ins c fds)::(ds.map (fun d=>some (.k,d))++List.replicate (N.length - ps.length) none)):={
  sub:=sub
  g0:=Same.refl _
  new:=fun b h1 h2=>absurd h1 h2
  fr:=fun b o e _=>e
  dom:=fun b e=>e
  bs:=fun b o e=>by
   have e':(if b=p then none else H b)=some o:=e
   by_cases hb:b=p
   ·rw[if_pos hb]at e';cases e'
   ·rw[if_neg hb]at e';exact e'
  bh:=fun b e=>by
   show(if b=p then none else H b)=none
   by_cases hb:b=p
   ·rw[if_pos hb]
   ·rw[if_neg hb];exact e
  len:=by unfold L2.start;simp;have:=r.length;simp at hlen;omega
  fz:=fun i d e=>by
   rcases get i _ e with⟨_,z⟩ | ⟨j,d',rfl,e1,z⟩
   ·cases z
   ·cases z
    obtain⟨v,e3,rv⟩:=r.get e1
    exact⟨v,Qgu (by simpa using e3),rv⟩
  ow:=fun i d e=>by
   rcases get i _ e with⟨_,z⟩ | ⟨j,d',rfl,e1,z⟩<;>cases z
  ln:=fun i d e=>by
   rcases get i _ e with⟨_,z⟩ | ⟨j,d',rfl,e1,z⟩<;>cases z
  inj:=fun i j d e p _ h=>by
   rcases get i _ h with⟨_,z⟩ | ⟨j,d',rfl,e1,z⟩<;>cases z
  sf:=fun i d e=>by
   rcases get i _ e with⟨rfl,z⟩ | ⟨j,d',rfl,e1,z⟩
   ·cases z
    exact⟨p,Qgu rfl,hg,(by show H p≠none;rw[hp];simp),⟨rfl,rfl⟩,if_pos rfl,⟨Ac,dx,fs,hct,hp,rf⟩⟩
   ·cases z
  su:=fun i j d e q hij h1 h2=>by
   rcases get i _ h1 with⟨rfl,z⟩ | ⟨j,d',rfl,e1,z⟩
   ·rcases get j _ h2 with⟨rfl,z⟩ | ⟨j,d',rfl,e1,z⟩
    ·exact absurd rfl hij
    ·cases z
   ·cases z }
 refine q1 G0 H (L2.start N (.ref p::vs')) _ _ S0 (Out.post_mono q fun fl kk=>?_)
 cases fl with
 | nx ς'=>
  intro σ' H' G' S' s'
  have kk:(QgG c ς').post _ _:=kk
  unfold QgG at kk
  split at kk
  ·rename_i c' fds' z
   rcases QE kk with⟨rfl,k2⟩ | ⟨_,k2⟩
   ·obtain⟨p',e1,hg',h0,⟨hM,_⟩,hB,A',dx',fs',hA',hH',rf'⟩:=S'.sf 0 _ z
    have hM:p'=p:=hM
    subst hM
    have hA':CT c'=some A':=hA'
    rw[hct]at hA'
    cases hA'
    exact k2 H' G' fs' dx' s' (fun b o e hb=>S'.fr b o e hb) S'.sub S'.new hH' rf'
   ·exact k2.elim
  ·exact kk.elim
 | bk ς'=>exact kk.elim
 | ct ς'=>exact kk.elim
 | rt b d=>exact kk.elim
end DL
namespace DL
open PySem PySem.Spec PyProof.Rows L2
theorem QhP{P:Program}{w:World}{K:PySem.W.Frag}{mg:Str->Option Value}{base:Heap}{CT:CTab}{N:List Str}{qual:Str}{sc:Scope}{f:Addr}{cdv:Value}{A:Around}{outer:List Env}{s:Shared}{H:Hp}{E:XK}{G:Hp}{p:Addr}:
 Rz (dcI P w K mg base CT N qual sc f cdv A outer s H E G p) E where
 pass:=passR
 xd:=fun d ⟨c,Cc,h1,h2,h3⟩=>⟨c,Cc,h1,h2,fun H' k=>h3 H' fun b o e hb=>k b o e hb⟩
 made:=fun Cc pins σ H1 s1 ea h' vs I hx hE=>Qpp I rfl rfl rfl hx hE
 calm:=rfl
section
variable{C:Dc}{E:XK}{c:Str}{A f:Addr}{fd:FuncData}{ps:List Str}{ds:List Value}{dd:List D}{k:Nat}{m:Str->List (Str×D)->List D->Out (List (Str×D))}{e:Expr}{es:List Expr}{AA:SD->Out (List D)}{p pos:Pos}
def eMake(c:Str)(m:Str->List (Str×D)->List D->Out (List (Str×D)))(a:SD->Out (List D)):SD->Out D:=fun ς=>a ς>>=fun xs=>m c [] xs>>=fun fds=>.ok (.ins c fds)
def MkOk(P:Program)(w:World)(K:PySem.W.Frag)(mg:Str->Option Value)(base:Heap)(CT:CTab)(c:Str)(k:Nat)(m:Str->List (Str×D)->List D->Out (List (Str×D))):Prop:=
 ∃ A f fd ps,CT c=some A/\mg c=some (.ref A)/\Mk K A f/\FnOk P w K mg base (CXR P w) k f fd ps (SpI K CT m)/\Binds K fd ps []
theorem QbQ(rz:Rz C E)(h:MkOk C.X.prog C.X.w C.X.K C.X.mg C.X.base C.CT c k m)(hr:Room (k+1) C.X.A)(ha:DA C (e::es) AA)(hg:Gl C.X c)
 (hdb:(c == ("__debug__":Str))=false:=by decide) (he:starEach (e::es) C.X.env=(false,eval e C.X.env)::starEach es C.X.env:=by rfl) (hpl:(backTo pos (starEach es C.X.env)).any (·.1)=false:=by rfl):
 DF C (.Call (.Name c p) (e::es) [] pos) (eMake c m AA):=by
 obtain⟨A,f,fd,ps,hct,hm,M,F,hb⟩:=h
 obtain⟨t,p1,q1⟩:=ha
 refine⟨_,Qtt M F hr hg hm hb .nil rz.pass p1 hdb he hpl,fun G H σ ς Q S q=>?_⟩
 unfold eMake at q
 rw[Out.post_bind]at q
 refine q1 G H σ ς _ S (Out.post_mono q fun xs kk vs H1 G1 S1 a1 b1 r1=>?_)
 intro x dx nx ndx ne
 rw[Out.post_bind]at kk
 have keep:∀ b o,H1 b=some o->upd (upd H1 dx (.own x)) x (.ins A dx []) b=some o:=fun b o e=>by
  rw[Qh (QJ e nx),Qh (QJ e ndx)];exact e
 have back:∀ b,upd (upd H1 dx (.own x)) x (.ins A dx []) b=none->H1 b=none:=fun b e=>by
  by_cases hx:b=x
  ·subst hx;exact nx
  ·rw[Qh hx]at e
   by_cases hd:b=dx
   ·subst hd;exact ndx
   ·rw[Qh hd]at e;exact e
 refine⟨x,c,A,dx,[],[],vs++[],xs,G1,rfl,hct,Qx,S1.sub.free nx,fun b o e=>keep b o (S1.sub b o e),rfl,by rw[List.append_nil];exact r1,?_⟩
 cases z:m c [] xs with
 | stuck=>rw[z]at kk;exact kk.elim
 | exc y=>
  rw[z]at kk
  obtain⟨c',Cc,e1',e2',e3'⟩:=rz.xd y kk
  exact⟨c',Cc,e1',e2',fun H' s'=>e3' H' fun b o q m'=>s' b o (keep b o (S1.fr b o q m')) (QJ (S1.fr b o q m') nx)⟩
 | ok fds=>
  rw[z]at kk
  intro H' G' fs' dx' g1 h1 s1 n1 hp rf
  have hh:Same H1 H':=fun b o e=>h1 b o (keep b o e) (QJ e nx)
  have hgp:G' x=none:=by
   cases zz:G' x with
   | none=>rfl
   | some o=>have:=n1 x (S1.sub.free nx) (by rw[zz];simp);rw[Qx]at this;cases this
  exact⟨rfl,(show KF C G H σ ς Q (.ins c fds) from kk) x H' G' (S1.grow hh g1 s1 fun b g g'=>back b (n1 b g g')) (a1.trans hh) (b1.trans g1) (a1.free nx) hgp ⟨A,dx',fs',hct,hp,rf⟩⟩
end
def MtOk(P:Program)(w:World)(K:PySem.W.Frag)(mg:Str->Option Value)(base:Heap)(CT:CTab)(CX:CXT)(name:Str)(k:Nat)(cs:List Str)(sp:Str->Sp):Prop:=
 ∀ c,cs.contains c=true->∃ A f fd ps,CT c=some A/\Cls K A/\Meth K A name f/\FnOk P w K mg base CX k f fd ps (sp c)/\Binds K fd ps []
def csOf(CT:CTab)(cs:List Str)(sp:Str->Sp):Addr->Sp->Prop:=fun A s=>∃ c,cs.contains c=true/\CT c=some A/\s=sp c
theorem mtab{X:Cx}{CT:CTab}{CX:CXT}{name:Str}{k:Nat}{cs:List Str}{sp:Str->Sp}(h:MtOk X.prog X.w X.K X.mg X.base CT CX name k cs sp):MTab X CX k name [] (csOf CT cs sp):=by
 rintro A s ⟨c,hc,hA,rfl⟩
 obtain⟨A',f,fd,ps,h1,h2,h3,h4,h5⟩:=h c hc
 rw[hA]at h1;cases h1
 exact⟨h2,f,fd,ps,[],h3,h4,h5,.nil⟩
section
variable{C:Dc}{name:Str}{k:Nat}{cs:List Str}{fr:Bool}{mt:Str->List D->Out D}{o e:Expr}{es:List Expr}{O:SD->Out D}{AA:SD->Out (List D)}{apos pos:Pos}
def eMeth(cs:List Str)(name:Str)(mt:Str->List D->Out D)(O:SD->Out D)(A:SD->Out (List D)):SD->Out D:=fun ς=>O ς>>=fun d=>match d with
 | .ins c fds=>if (cs.contains c&&(fds.lookup name).isNone)=true then A ς>>=fun xs=>mt c (.ins c fds::xs) else .stuck
 | _=>.stuck
theorem QoM{G H:Hp}{σ:St}{ς:SD}{Q:VK}{t:TA}{c:Str}{fds:List (Str×D)}{v1:V}{H1 G1:Hp}(S1:StR C G1 H1 σ ς)(a1:Same H H1)(b1:Same G G1)(r1:Rep C.X.K C.CT G1 (.ins c fds) v1)
 (tk:MtOk C.X.prog C.X.w C.X.K C.X.mg C.X.base C.CT CX0 name k cs (fun c=>SpD C.X.K C.CT fr (mt c))) (hx:∀ x,¬ C.XD x)
 (hq:∀ G H σ ς Q,StR C G H σ ς->(AA ς).post (fun ds=>∀ vs H' G',StR C G' H' σ ς->Same H H'->Same G G'->RepL C.X.K C.CT G' ds vs->Q vs H') C.XD->t σ H Q)
 {K':D->Prop} (hK:∀ d v H2 G2 H' G',StR C G2 H2 σ ς->Same H H2->Same G G2->K' d->Same G2 G'->Same H2 H'->Same G' H'->(∀ b,G2 b=none->G' b≠none->H2 b=none)->RetG C.X.K C.CT fr H2 G' H' d v->Q v H')
 (kk:(if (cs.contains c&&(fds.lookup name).isNone)=true then AA ς>>=fun xs=>mt c (.ins c fds::xs) else .stuck).post K' C.XD):
 ∃ a Cc dx fs sp,v1=.ref a/\H1 a=some (.ins Cc dx fs)/\csOf C.CT cs (fun c=>SpD C.X.K C.CT fr (mt c)) Cc sp/\fs.lookup name=none/\t σ H1 fun vs H2=>sp (v1::(vs++[])) H2 Q E0:=by
 rcases QE kk with⟨hc,kk⟩ | ⟨_,kk⟩
 ·rw[Bool.and_eq_true]at hc
  obtain⟨a,Cc,dx,fs,rfl,hct,hh,rf⟩:=r1
  refine⟨a,Cc,dx,fs,_,rfl,S1.sub _ _ hh,⟨c,hc.1,hct,rfl⟩,(RepF.look rf).2 (by simpa using hc.2),?_⟩
  rw[Out.post_bind]at kk
  refine hq G1 H1 σ ς _ S1 (Out.post_mono kk fun xs k2 vs H2 G2 S2 a2 b2 r2=>?_)
  refine⟨.ins c fds::xs,G2,S2.sub,⟨_,_,rfl,Rep.mono b2 (.ins c fds) (.ref a) ⟨a,Cc,dx,fs,rfl,hct,hh,rf⟩,by rw[List.append_nil];exact r2⟩,?_⟩
  cases z:mt c (.ins c fds::xs) with
  | stuck=>rw[z]at k2;exact k2.elim
  | exc y=>rw[z]at k2;exact absurd k2 (hx y)
  | ok d=>
   rw[z]at k2
   intro v H' G' g1 h1 s1 n1 ret
   exact hK d v H2 G2 H' G' S2 (a1.trans a2) (b1.trans b2) k2 g1 h1 s1 n1 ret
 ·exact kk.elim
theorem retKD{G H:Hp}{σ:St}{ς:SD}{Q:VK}:∀ d v H2 G2 H' G',StR C G2 H2 σ ς->Same H H2->Same G G2->KD C G H σ ς Q d->Same G2 G'->Same H2 H'->Same G' H'->(∀ b,G2 b=none->G' b≠none->H2 b=none)->RetG C.X.K C.CT fr H2 G' H' d v->Q v H':=by
 intro d v H2 G2 H' G' S2 a b kd g1 h1 s1 n1 ret
 unfold RetG at ret
 by_cases hc:(fr && !d.scal)=true
 ·rw[if_pos hc]at ret
  obtain⟨pp,rfl,h0,hg',ow⟩:=ret
  obtain⟨o,ho⟩:=ow.there
  have S3:=(S2.grow h1 g1 s1 n1).freeze ho hg' (S2.h0none h0) (fun i d' z1 z2=>by
   obtain⟨o',ho'⟩:=S2.own_ne z1 z2
   rw[h0]at ho';cases ho')
  exact kd _ _ _ S3 (a.trans h1) ((b.trans g1).trans (Qq hg')) (ow.known hg' ho)
 ·rw[if_neg hc]at ret
  exact kd v H' G' (S2.grow h1 g1 s1 n1) (a.trans h1) (b.trans g1) ret
theorem Qeg{pl:Sem Bool}(tk:MtOk C.X.prog C.X.w C.X.K C.X.mg C.X.base C.CT CX0 name k cs (fun c=>SpD C.X.K C.CT fr (mt c)))(hr:Room k C.X.A)(ho:DE C o O)(ha:DA C (e::es) AA)(hx:∀ x,¬ C.XD x:=by exact fun _ h=>h)
 (hst:starEach (e::es) C.X.env=(false,eval e C.X.env)::starEach es C.X.env:=by rfl) (hpl:(backTo pos (starEach es C.X.env)).any (·.1)=false:=by rfl)
 (ht:eval (.Call (.Attribute o name apos) (e::es) [] pos) C.X.env=(do
  let ov ← eval o C.X.env
  standAt apos.atName
  let (f,first) ← holding [ov] (getMethod ov name pl)
  callWith pos f first (backTo pos (starEach (e::es) C.X.env)) (backToKw pos (keywordEach [] C.X.env))):=by rfl):
 DE C (.Call (.Attribute o name apos) (e::es) [] pos) (eMeth cs name mt O AA):=by
 obtain⟨t1,p1,q1⟩:=ho
 obtain⟨t2,p2,q2⟩:=ha
 refine⟨_,QmA (pl:=pl) p1 (mtab tk) hr pass0 p2 hst hpl ht,fun G H σ ς Q S q=>?_⟩
 unfold eMeth at q
 rw[Out.post_bind]at q
 refine q1 G H σ ς _ S (Out.post_mono q fun d kk v1 H1 G1 S1 a1 b1 r1=>?_)
 cases d with
 | ins c fds=>exact QoM S1 a1 b1 r1 tk hx q2 retKD kk
 | _=>exact kk.elim
theorem QaN{pl:Sem Bool}(tk:MtOk C.X.prog C.X.w C.X.K C.X.mg C.X.base C.CT CX0 name k cs (fun c=>SpD C.X.K C.CT fr (mt c)))(hr:Room k C.X.A)(ho:DE C o O)(hx:∀ x,¬ C.XD x:=by exact fun _ h=>h)
 (ht:eval (.Call (.Attribute o name apos) [] [] pos) C.X.env=(do
  let ov ← eval o C.X.env
  standAt apos.atName
  let (f,first) ← holding [ov] (getMethod ov name pl)
  callWith pos f first (backTo pos (starEach [] C.X.env)) (backToKw pos (keywordEach [] C.X.env))):=by rfl):
 DE C (.Call (.Attribute o name apos) [] [] pos) (eMeth cs name mt O aNil):=by
 obtain⟨t1,p1,q1⟩:=ho
 refine⟨_,QrJ (pl:=pl) p1 (mtab tk) hr pass0 ht,fun G H σ ς Q S q=>?_⟩
 unfold eMeth at q
 rw[Out.post_bind]at q
 refine q1 G H σ ς _ S (Out.post_mono q fun d kk v1 H1 G1 S1 a1 b1 r1=>?_)
 cases d with
 | ins c fds=>exact QoM (AA:=aNil) (t:=tNil) S1 a1 b1 r1 tk hx (fun G H σ ς Q S q=>q [] H G S (Same.refl H) (Same.refl G) rfl) retKD kk
 | _=>exact kk.elim
end
end DL
namespace DL
open PySem PySem.Spec PyProof.Rows L2
section
variable{C:Dc}{name:Str}{k:Nat}{cs:List Str}{mt:Str->List D->Out D}{o e:Expr}{es:List Expr}{O:SD->Out D}{AA:SD->Out (List D)}{apos pos:Pos}
variable{E:XK}{m:Str->List (Str×D)->List D->Out (List (Str×D))}{x:Str}{px spos:Pos}
def Qdz(cs:List Str)(name:Str)(m:Str->List (Str×D)->List D->Out (List (Str×D)))(i:Nat)(A:SD->Out (List D)):SD->Out Fl:=fun ς=>match (ς[i]?:Option (Option (SM×D))) with
 | some (some (SM.s,D.ins c fds))=>if (cs.contains c&&(fds.lookup name).isNone)=true then A ς>>=fun xs=>m c fds xs>>=fun fds'=>.ok (.nx (ς.set i (some (.s,.ins c fds')))) else .stuck
 | _=>.stuck
theorem QfV{pl:Sem Bool}(i:Nat)(rz:Rz C E)(tk:MtOk C.X.prog C.X.w C.X.K C.X.mg C.X.base C.CT (CXR C.X.prog C.X.w) name k cs (fun _=>SpI C.X.K C.CT m))(hr:Room k C.X.A)(ha:DA C (e::es) AA)
 (hN:C.X.N[i]?=some x:=by rfl) (hv:Vis C.X.env.scope x:=by first | exact Or.inl rfl | exact Or.inr (oi rfl) | exact Or.inr (Or.inr rfl))
 (hd:(x == ("__debug__":Str))=false:=by decide) (hcd:(x == ("__classdict__":Str))=false:=by decide)
 (hst:starEach (e::es) C.X.env=(false,eval e C.X.env)::starEach es C.X.env:=by rfl) (hpl:(backTo pos (starEach es C.X.env)).any (·.1)=false:=by rfl)
 (ht:eval (.Call (.Attribute (.Name x px) name apos) (e::es) [] pos) C.X.env=(do
  let ov ← eval (.Name x px) C.X.env
  standAt apos.atName
  let (f,first) ← holding [ov] (getMethod ov name pl)
  callWith pos f first (backTo pos (starEach (e::es) C.X.env)) (backToKw pos (keywordEach [] C.X.env))):=by rfl)
 (hsw:swapsWith (.Call (.Attribute (.Name x px) name apos) (e::es) [] pos) none spos.line C.X.env=pure false:=by rfl):
 DS C (.Expr (.Call (.Attribute (.Name x px) name apos) (e::es) [] pos) spos) (Qdz cs name m i AA):=by
 obtain⟨t2,p2,q2⟩:=ha
 refine⟨_,QgX (QmA (pl:=pl) (QdF (i:=i) hN hv hd hcd) (mtab tk) hr rz.pass p2 hst hpl ht) hsw,fun G H σ ς W S kk=>?_⟩
 unfold Qdz at kk
 split at kk
 ·rename_i c fds z
  rcases QE kk with⟨hc,kk⟩ | ⟨_,kk⟩
  ·rw[Bool.and_eq_true]at hc
   obtain⟨p,e1',hg,h0,⟨hM,_⟩,hB,A,dx,fs,hct,hh,rf⟩:=S.sf i _ z
   refine⟨_,e1',p,A,dx,fs,_,rfl,hh,⟨c,hc.1,hct,rfl⟩,(RepF.look rf).2 (by simpa using hc.2),?_⟩
   rw[Out.post_bind]at kk
   refine q2 G H σ ς _ S (Out.post_mono kk fun xs k2 vs H2 G2 S2 a2 b2 r2=>?_)
   obtain⟨p',e2',hg2,_,_,_,A2,dx2,fs2,hct2,hh2,rf2⟩:=S2.sf i _ z
   rw[e1']at e2';cases e2'
   rw[Out.post_bind]at k2
   refine⟨p,c,A2,dx2,fs2,fds,vs++[],xs,G2,rfl,hct2,hh2,hg2,S2.sub,rf2,by rw[List.append_nil];exact r2,?_⟩
   cases zz:m c fds xs with
   | stuck=>rw[zz]at k2;exact k2.elim
   | exc y=>
    rw[zz]at k2
    obtain⟨c',Cc,f1,f2,f3⟩:=rz.xd y k2
    exact⟨c',Cc,f1,f2,fun H' s'=>f3 H' fun b o q mm=>s' b o (S2.fr b o q mm) (by rintro rfl;exact mm hM)⟩
   | ok fds'=>
    rw[zz]at k2
    intro H' G' fs' dx' g1 h1 s1 n1 hp rf'
    have gp:G' p=none:=by
     cases y:G' p with
     | none=>rfl
     | some o=>have:=n1 p hg2 (by rw[y];simp);rw[hh2]at this;cases this
    have S3:StR C G' (upd H' p (.ins A2 dx2 fs2)) σ ς:=S2.grow (fun b o e=>by
     by_cases hb:b=p
     ·subst hb;rw[Qx];rw[hh2]at e;exact e
     ·rw[Qh hb];exact h1 b o e hb) g1 (fun b o e=>by
     rw[Qh (by rintro rfl;rw[gp]at e;cases e)];exact s1 b o e) n1
    have S4:=S3.writeS (dx:=dx') z e1' hct2 rf'
    have eq:upd (upd H' p (.ins A2 dx2 fs2)) p (.ins A2 dx' fs')=H':=by
     rw[QsU]
     funext b
     by_cases hb:b=p
     ·subst hb;rw[Qx,hp]
     ·rw[Qh hb]
    rw[eq]at S4
    exact(show FlK C G W (.nx (ς.set i (some (.s,.ins c fds')))) from k2) σ H' G' S4 (b2.trans g1)
  ·exact kk.elim
 ·exact kk.elim
end
end DL
namespace DL
open PySem PySem.Spec PyProof.Rows L2
def inCls(s:Stmt)(j:Nat):Stmt:=match s with
 | .ClassDef _ _ _ b _ _ _ _ _ _ _=>b.getD j (.Pass ⟨0,0,0,0⟩)
 | _=>.Pass ⟨0,0,0,0⟩
def isaI(tbl:List (Str×Bool)):D->Out Bool
 | .ins c _=>match tbl.lookup c with | some b=>.ok b | none=>.stuck
 | _=>.stuck
def KitI(K:PySem.W.Frag)(CT:CTab)(uc:Value)(tbl:List (Str×Bool)):Prop:=∀ c b,tbl.lookup c=some b->∀ A,CT c=some A->ClsD K A/\PySem.W.kitOne K (.ref A) uc=some b
theorem Qsq{K:PySem.W.Frag}{CT:CTab}{uc:Value}:KitI K CT uc []:=fun _ _ h=>nomatch h
theorem QeR{K:PySem.W.Frag}{CT:CTab}{uc:Value}{c:Str}{b:Bool}{A:Addr}{tbl:List (Str×Bool)}(hc:CT c=some A)(hx:ClsD K A)(hk:PySem.W.kitOne K (.ref A) uc=some b)(r:KitI K CT uc tbl):KitI K CT uc ((c,b)::tbl):=by
 intro c' b' h A' hA
 rw[List.lookup_cons]at h
 cases e:c' == c with
 | true=>
  rw[e]at h
  cases h
  rw[beq_iff_eq.mp e,hc]at hA
  cases hA
  exact⟨hx,hk⟩
 | false=>
  rw[e]at h
  exact r c' b' h A' hA
section
variable{C:Dc}{pos p:Pos}{e cx:Expr}{E:SD->Out D}
theorem QtZ{vc:V}{uc:Value}{tbl:List (Str×Bool)}(hc:PE C.X cx (tC vc))(rc:clsV vc=some uc)(hk:KitI C.X.K C.CT uc tbl)(hg:Gl C.X "isinstance")(hm:C.X.mg "isinstance"=none)(h:DB C e E)
 (he:starEach (e::[cx]) C.X.env=(false,eval e C.X.env)::starEach [cx] C.X.env:=by rfl) (he2:starEach (cx::[]) C.X.env=(false,eval cx C.X.env)::starEach [] C.X.env:=by rfl)
 (hpl:(backTo pos (starEach [cx] C.X.env)).any (·.1)=false:=by rfl):DE C (.Call (.Name "isinstance" p) [e,cx] [] pos) (eIsa (isaI tbl) E):=by
 refine QqO hc rc (fun d=>?_) hg hm h he he2 hpl
 cases d with
 | ins c fs=>
  rw[isaI]
  cases e:tbl.lookup c with
  | none=>exact True.intro
  | some b=>exact fun A hA=>hk c b e A hA
 | _=>exact True.intro
end
def eIxO(i:Nat)(b:SD->Out D):SD->Out D:=fun ς=>match (ς[i]?:Option (Option (SM×D))) with
 | some (some (SM.o,D.lst xs))=>b ς>>=fun k=>match k with | .int k=>optO (atI xs k) | _=>.stuck
 | _=>.stuck
section
variable{C:Dc}{pos px:Pos}{b:Expr}{B:SD->Out D}{x f:Str}{cs:List Str}
theorem Qqs(i:Nat)(hb:DB C b B)(hN:C.X.N[i]?=some x:=by rfl)(hv:Vis C.X.env.scope x:=by first | exact Or.inl rfl | exact Or.inr (oi rfl) | exact Or.inr (Or.inr rfl))
 (hd:(x == ("__debug__":Str))=false:=by decide) (hcd:(x == ("__classdict__":Str))=false:=by decide) (hs:Qg0 b:=by intro _ _;rfl):DE C (.Subscript (.Name x px) b pos) (eIxO i B):=by
 obtain⟨tb,p2,q2⟩:=hb
 refine⟨_,pe_ix QmG (QdF (i:=i) hN hv hd hcd) p2 hs,fun G H σ ς Q S q=>?_⟩
 unfold eIxO at q
 split at q
 ·rename_i xs z
  obtain⟨p,e1',hg,h0,ow⟩:=S.ow i _ z
  rw[Out.post_bind]at q
  refine⟨_,e1',q2 G H σ ς _ S (Out.post_mono q fun y k2 v2 H2 G2 S2 a2 b2 r2=>?_)⟩
  cases y with
  | int k=>
   cases r2
   obtain⟨d,e2',kd⟩:=Qew k2
   obtain⟨p',e3',hg',h0',vs,hv1,hv2⟩:=S2.ow i _ z
   rw[e1']at e3';cases e3'
   obtain⟨v,e4',rv⟩:=QiU hv2 e2'
   exact .inl ⟨p,vs,k,v,rfl,rfl,SqL.of hv1,e4',KD.now (KD.later kd a2 b2) S2 rv⟩
  | _=>exact k2.elim
 ·exact q.elim
end
end DL
namespace L2
open PySem PySem.Spec PyProof.Rows
section
variable{X:Cx}
end
end L2
namespace DL
open PySem PySem.Spec PyProof.Rows L2
section
variable{C:Dc}{a:Expr}{A:SD->Out D}
end
end DL
namespace L2
open PySem PySem.Spec PyProof.Rows
section
variable{X:Cx}
end
end L2
namespace DL
open PySem PySem.Spec PyProof.Rows L2
section
variable{C:Dc}{o e:Expr}{O E:SD->Out D}{apos cpos:Pos}
end
end DL
namespace L2
open PySem PySem.Spec PyProof.Rows
section
variable{X:Cx}{k:Nat}{f ea:Addr}{fd:FuncData}{ps:List Str}{sp:Sp}{dvs:List V}{ds:List Value}{x:Str}{p pos:Pos}{e:Expr}{es:List Expr}{t:TA}
end
end L2
namespace DL
open PySem PySem.Spec PyProof.Rows L2
section
variable{C:Dc}{ea:Addr}{x:Str}{k:Nat}{m:List D->Out D}{e:Expr}{es:List Expr}{A:SD->Out (List D)}{p pos:Pos}
end
end DL
namespace L2
open PySem PySem.Spec PyProof.Rows
section
variable{X:Cx}{tg:Expr}
end
end L2
namespace DL
open PySem PySem.Spec PyProof.Rows L2
section
variable{C:Dc}{a b c e:Expr}{es:List Expr}{A B E:SD->Out D}{AA:SD->Out (List D)}{tg:Expr}{p pos:Pos}
def frz(j:Nat)(ς:SD):SD:=match (ς[j]?:Option (Option (SM×D))) with
 | some (some (SM.o,d))=>ς.set j (some (.k,d))
 | _=>ς
theorem StR.frz{G H:Hp}{σ:L2.St}{ς:SD}(S:StR C G H σ ς){j:Nat}{d:D}(z:ς[j]?=some (some (.o,d))):∃ G',Same G G'/\StR C G' H σ (ς.set j (some (.k,d))):=by
 obtain⟨p,e,hg,h0,ow⟩:=S.ow j d z
 obtain⟨o,ho⟩:=ow.there
 have hj:j<ς.length:=(List.getElem?_eq_some_iff.mp z).1
 have get:∀(i:Nat) x,(ς.set j (some (.k,d)))[i]?=some (some x)->(i=j/\x=(.k,d))∨(i≠j/\ς[i]?=some (some x)):=fun i x h=>by
  rw[List.getElem?_set]at h
  by_cases q:j=i
  ·rw[if_pos q,if_pos (by omega)]at h
   cases h
   exact .inl ⟨q.symm,rfl⟩
  ·rw[if_neg q]at h
   exact .inr ⟨fun w=>q w.symm,h⟩
 refine⟨upd G p o,Qq hg,?_⟩
 have hn:∀(i:Nat) d',i≠j->ς[i]?=some (some (.o,d'))->σ[i]?≠some (some (.ref p)):=fun i d' hi q w=>S.inj i j d' d p hi q z w e
 exact {
  toGH:=GH.freezeR S.toGH ho hg h0
  len:=by rw[List.length_set];exact S.len
  fz:=fun i d' q=>by
   rcases get i _ q with⟨rfl,w⟩ | ⟨_,w⟩
   ·cases w
    exact⟨_,e,ow.known hg ho⟩
   ·obtain⟨v,a,b⟩:=S.fz i d' w
    exact⟨v,a,Rep.mono (Qq hg) d' v b⟩
  ow:=fun i d' q=>by
   rcases get i _ q with⟨rfl,w⟩ | ⟨hi,w⟩
   ·cases w
   ·obtain⟨r,a,b,c,w'⟩:=S.ow i d' w
    refine⟨r,a,?_,c,w'.mono (Qq hg) fun _ z=>z⟩
    rw[Qh (by rintro rfl;exact hn i d' hi w a)];exact b
  ln:=fun i d' q=>by
   rcases get i _ q with⟨rfl,w⟩ | ⟨_,w⟩
   ·cases w
   ·exact S.ln i d' w
  inj:=fun i k d1 d2 q hne h1 h2=>by
   rcases get i _ h1 with⟨rfl,w⟩ | ⟨_,w⟩
   ·cases w
   ·rcases get k _ h2 with⟨rfl,w2⟩ | ⟨_,w2⟩
    ·cases w2
    ·exact S.inj i k d1 d2 q hne w w2
  sf:=fun i d' q=>by
   rcases get i _ q with⟨rfl,w⟩ | ⟨_,w⟩
   ·cases w
   ·obtain⟨r,a,b,c,m,z',w'⟩:=S.sf i d' w
    refine⟨r,a,?_,c,m,z',w'.mono (Qq hg) fun _ z=>z⟩
    rw[Qh (by rintro rfl;exact c h0)];exact b
  su:=fun i k d1 d2 q hne h1 h2=>by
   rcases get i _ h1 with⟨rfl,w⟩ | ⟨_,w⟩
   ·cases w
   ·rcases get k _ h2 with⟨rfl,w2⟩ | ⟨_,w2⟩
    ·cases w2
    ·exact S.su i k d1 d2 q hne w w2 }
theorem Qgo(j:Nat){st:Stmt}{T:SD->Out Fl}(h:DS C st T):DS C st (fun ς=>T (frz j ς)):=by
 obtain⟨t,p1,q⟩:=h
 refine⟨t,p1,fun G H σ ς W S k=>?_⟩
 have k:(T (frz j ς)).post (FlK C G W) C.XD:=k
 by_cases z:∃ d,ς[j]?=some (some (SM.o,d))
 ·obtain⟨d,z⟩:=z
  have e:frz j ς=ς.set j (some (.k,d)):=by unfold frz;rw[z]
  rw[e]at k
  obtain⟨G',sG,S'⟩:=S.frz z
  exact q G' H σ _ W S' (Out.post_mono k fun f kf=>FlK.later kf sG)
 ·have e:frz j ς=ς:=by
   unfold frz
   split
   ·rename_i d w;exact absurd ⟨d,w⟩ z
   ·rfl
  rw[e]at k
  exact q G H σ ς W S k
end
end DL
namespace LS
open PySem PySem.Spec PyProof.Rows
section
variable{pg:Program}{wd:World}
variable{ar:Around}{Res:Result->Shared->Prop}{it:Addr}{ff wt:List Addr}{Gn:Array GenState->Array GenState->Prop}{n:Nat}{Pv:Nat->Value->Prop}{Sv:Nat->Shared->Prop}
end
section
variable{pg:Program}{wd:World}{ar:Around}{Ex:Value->Shared->Prop}{st:Shared}
end
end LS
namespace DL
open PySem PySem.Spec PyProof.Rows L2
section
variable{K:PySem.W.Frag}{CT:CTab}{H:Hp}
theorem RepK.len:∀{ds:List (Key×D)}{vs:List (Key×V)},RepK K CT H ds vs->ds.length=vs.length
 | [],_,h=>by cases h;rfl
 | (k,d)::ds,_,⟨v,r,h1,h2,h3⟩=>by rw[h1,List.length_cons,List.length_cons,RepK.len h3]
theorem RepK.any(k:Key):∀{ds:List (Key×D)}{vs:List (Key×V)},RepK K CT H ds vs->(ds.any fun kv=>decide (kv.1=k))=vs.any fun kv=>decide (kv.1=k)
 | [],_,h=>by cases h;rfl
 | (k',d)::ds,_,⟨v,r,h1,h2,h3⟩=>by
  subst h1
  rw[List.any_cons,List.any_cons,RepK.any k h3]
end
section
variable{C:Dc}{a b c:Expr}{A B Z:SD->Out D}{pos apos:Pos}
variable{e:Expr}{E:SD->Out D}{p1 p2:Pos}{x:Str}
end
end DL
namespace DL
open PySem PySem.Spec PyProof.Rows L2
section
variable{X:Cx}{e:Expr}{te:TA}{p1 p2 p3 pos:Pos}
end
section
variable{C:Dc}{a:Expr}{A:SD->Out D}{p1 p2 p3 pos:Pos}
end
end DL
namespace DL
open PySem PySem.Spec PyProof.Rows L2
section
variable{C:Dc}{e:Expr}{E:SD->Out D}{p pos tp1:Pos}{cs:List Expr}
end
end DL
namespace DL
open PySem PySem.Spec PyProof.Rows L2
section
variable{C:Dc}{a b:Expr}{A B:SD->Out D}{pos:Pos}
end
end DL
namespace DL
open PySem PySem.Spec PyProof.Rows L2
section
variable{C:Dc}{a b:Expr}{A B:SD->Out D}{pos:Pos}
end
end DL
namespace DL
open PySem PySem.Spec PyProof.Rows L2
section
variable{C:Dc}{e:Expr}{E:SD->Out D}{pos p1 p2 p3:Pos}{x:Str}
end
end DL
namespace DL
open PySem PySem.Spec PyProof.Rows L2
section
variable{K:PySem.W.Frag}{CT:CTab}{G H:Hp}
end
section
variable{C:Dc}{a b:Expr}{A B:SD->Out D}{pos:Pos}
end
end DL
namespace DL
open PySem PySem.Spec PyProof.Rows L2
def frzs:List Nat->SD->SD
 | [],ς=>ς
 | i::is,ς=>frzs is (frz i ς)
section
variable{X:Cx}{e:Expr}{te:TA}{p1 p2 p3 pos:Pos}
end
section
variable{C:Dc}{e:Expr}{A:SD->Out (List D)}{p1 p2 p3 pos:Pos}
end
end DL
namespace DL
open PySem PySem.Spec PyProof.Rows L2
section
variable{C:Dc}{e:Expr}{E:SD->Out D}{pos:Pos}
end
end DL
namespace DL
open PySem PySem.Spec PyProof.Rows L2
def partF(x y:Str):Str×Str×Str:=match Builtin.Str.occurrences x y 0 x.length 1 with
 | i::_=>(Builtin.Str.strSub x 0 i,y,Builtin.Str.strSub x (i+y.length) x.length)
 | []=>(x,Str.empty,Str.empty)
def rPart(f:Str->Str->Str×Str×Str):V->List V->Hp->VK->Prop:=fun v vs H Q=>∃ x y,v=.str x/\vs=[.str y]/\(y.length == 0)=false/\x.length<=sizeLine/\∀ p,H p=none->Q (.ref p) (upd H p (.tup [.str (f x y).1,.str (f x y).2.1,.str (f x y).2.2]))
theorem tup3{X:Cx}{pins:List (Addr×Obj)}{σ:St}{H:Hp}{s:Shared}{Q:VK}{a b c:Str}{t1 t2 t3:Tok}{tk:Nat}(I:Inv X pins σ H s)(q:∀ p,H p=none->Q (.ref p) (upd H p (.tup [.str a,.str b,.str c]))):
 EP X pins σ Q (.ref s.heap.objs.size) { s with toks:=tk,heap:=s.heap.push { cls:=.type "tuple",data:=.seq [.str a t1,.str b t2,.str c t3].toArray } }:=by
 have hf:H s.heap.objs.size=none:=I.hok.fresh (Nat.le_refl _)
 refine⟨.ref s.heap.objs.size,upd H s.heap.objs.size (.tup [.str a,.str b,.str c]),I.laid (t':=tk) (fun b u e=>Heap.get?_push_of_some _ e) (Nat.le_refl _) ?_,rfl,q _ hf⟩
 exact⟨by show 3<=sizeLine;decide,[.str a t1,.str b t2,.str c t3],.cons ⟨_,rfl⟩ (.cons ⟨_,rfl⟩ (.cons ⟨_,rfl⟩ .nil)),⟨_,Heap.get?_push_size _ rfl,rfl,_,rfl⟩⟩
theorem Qto{X:Cx}:MtR X "str.partition" (rPart partF):=by
 intro pins s σ H v vs u us Q I rx rv h
 obtain⟨x,y,rfl,rfl,hy,hx,q⟩:=h
 obtain⟨t,rfl⟩:=rx
 obtain⟨u,rfl,ru⟩:=vals1 rv
 obtain⟨t',rfl⟩:=ru
 refine call_meets F.slot_str_partition rfl F.entry_str_partition (F.args_str_partition_2 _ _) (meets_str_partition x y t t' hy hx) ?_
 unfold partF at q
 cases ho:Builtin.Str.occurrences x y 0 x.length 1 with
 | nil=>rw[ho]at q;exact tup3 I q
 | cons i r=>rw[ho]at q;exact tup3 I q
def fPart(f:Str->Str->Str×Str×Str):D->List D->Out D
 | .str x,[.str y]=>if (!(y.length == 0)&&decide (x.length<=sizeLine))=true then .ok (.tup [.str (f x y).1,.str (f x y).2.1,.str (f x y).2.2]) else .stuck
 | _,_=>.stuck
def eSm(f:D->List D->Out D)(O:SD->Out D)(A:SD->Out (List D)):SD->Out D:=fun ς=>O ς>>=fun x=>match x with
 | .str z=>A ς>>=fun ys=>f (.str z) ys
 | _=>.stuck
section
variable{C:Dc}{o e:Expr}{es:List Expr}{O:SD->Out D}{A:SD->Out (List D)}{apos cpos:Pos}{m:Str}{id:String}{r:V->List V->Hp->VK->Prop}{f:D->List D->Out D}
theorem de_sm(slot:Slot "str" m id)(hty:typeOf (.builtin id)=pure (.type "method_descriptor"))(hm:MtR C.X id r)(ho:DB C o O)(ha:DA C (e::es) A)
 (hr:∀ G H σ ς (Q:VK) z ys vs,StR C G H σ ς->RepL C.X.K C.CT G ys vs->(f (.str z) ys).post (KD C G H σ ς Q) C.XD->r (.str z) vs H Q)
 (hbase:attributeBase o m C.X.env (eval o C.X.env)=eval o C.X.env:=by rfl)
 (hfew:((backTo cpos (starEach (e::es) C.X.env)).all (fun x => !x.1)&&(backToKw cpos (keywordEach [] C.X.env)).all (fun x=>x.1.isSome)
  && decide ((e::es).length+([]:List Keyword).length+(if ([]:List Keyword).isEmpty then 0 else 1)<30))=true:=by rfl)
 (hline:(apos.endLine == cpos.line)=true:=by rfl) (hs:starEach (e::es) C.X.env=(false,eval e C.X.env)::starEach es C.X.env:=by rfl) (hplain:(backTo cpos (starEach es C.X.env)).any (·.1)=false:=by rfl):
 DE C (.Call (.Attribute o m apos) (e::es) [] cpos) (eSm f O A):=by
 obtain⟨t0,p0,q0⟩:=ho
 obtain⟨t1,p1,q1⟩:=ha
 refine⟨_,pe_bm PySem.F.plainAttrs_str slot hty hm p0 p1 hbase hfew hline hs hplain,fun G H σ ς Q S k=>?_⟩
 unfold eSm at k
 rw[Out.post_bind]at k
 refine q0 G H σ ς _ S (Out.post_mono k fun x k v H1 G1 S1 a1 b1 r1=>?_)
 cases x with
 | str z=>
  cases r1
  refine⟨rfl,?_⟩
  have k:(A ς>>=fun ys=>f (.str z) ys).post (KD C G H σ ς Q) C.XD:=k
  rw[Out.post_bind]at k
  refine q1 G1 H1 σ ς _ S1 (Out.post_mono k fun ys k vs H2 G2 S2 a2 b2 r2=>?_)
  exact hr G2 H2 σ ς Q z ys vs S2 r2 (Out.post_mono k fun d k=>KD.later k (a1.trans a2) (b1.trans b2))
 | _=>exact k.elim
theorem rep1{K:PySem.W.Frag}{CT:CTab}{G:Hp}{d:D}{vs:List V}(h:RepL K CT G [d] vs):∃ v,vs=[v]/\Rep K CT G d v:=by
 obtain⟨v,r,h1,h2,h3⟩:=h
 have h3:r=[]:=h3
 exact⟨v,by rw[h1,h3],h2⟩
theorem Qvi{C:Dc}(f:Str->Str->Str×Str×Str):∀ G H σ ς (Q:VK) z ys vs,StR C G H σ ς->RepL C.X.K C.CT G ys vs->(fPart f (.str z) ys).post (KD C G H σ ς Q) C.XD->rPart f (.str z) vs H Q:=by
 intro G H σ ς Q z ys vs S hr k
 unfold fPart at k
 split at k
 ·rename_i x y e
  cases e
  obtain⟨v,rfl,h2⟩:=rep1 hr
  cases h2
  rcases QE k with⟨hc,k3⟩ | ⟨_,k3⟩
  ·rw[Bool.and_eq_true]at hc
   refine⟨z,y,rfl,rfl,by simpa using hc.1,of_decide_eq_true hc.2,?_⟩
   exact KD.tup (show KD C G H σ ς Q (.tup [.str (f z y).1,.str (f z y).2.1,.str (f z y).2.2]) from k3) S ⟨_,_,rfl,rfl,_,_,rfl,rfl,_,_,rfl,rfl,rfl⟩
  ·exact k3.elim
 ·exact k.elim
end
end DL
namespace L2
open PySem PySem.Spec PyProof.Rows
section
variable{X:Cx}
end
end L2
namespace DL
open PySem PySem.Spec PyProof.Rows L2
section
variable{C:Dc}{a:Expr}{A:SD->Out D}
end
end DL
namespace DL
open PySem PySem.Spec PyProof.Rows L2
section
variable{C:Dc}{G G' H H':Hp}{σ:St}{ς ς':SD}
end
end DL
namespace DL
open PySem PySem.Spec PyProof.Rows L2
section
variable{C:Dc}{a e:Expr}{A E:SD->Out D}{pos p1 p2:Pos}{x:Str}
end
def ArgW(K:PySem.W.Frag)(CT:CTab)(G H:Hp):List Bool->List D->List V->List Addr->Prop
 | [],[],[],ps=>ps=[]
 | true::bs,d::ds,v::vs,ps=>∃ p ps',v=.ref p/\ps=p::ps'/\p∉ps'/\G p=none/\Own K CT G H p d/\ArgW K CT G H bs ds vs ps'
 | false::bs,d::ds,v::vs,ps=>Rep K CT G d v/\ArgW K CT G H bs ds vs ps
 | _,_,_,_=>False
section
variable{K:PySem.W.Frag}{CT:CTab}{G H:Hp}
theorem ArgW.len:∀{bs:List Bool}{ds:List D}{vs:List V}{ps:List Addr},ArgW K CT G H bs ds vs ps->bs.length=vs.length/\ds.length=vs.length
 | [],[],[],_,_=>⟨rfl,rfl⟩
 | true::bs,d::ds,v::vs,ps,⟨_,_,_,_,_,_,_,h⟩=>by have:=ArgW.len h;simp[this.1,this.2]
 | false::bs,d::ds,v::vs,ps,⟨_,h⟩=>by have:=ArgW.len h;simp[this.1,this.2]
end
end DL
namespace DL
open PySem PySem.Spec PyProof.Rows L2
end DL
namespace DL
open PySem PySem.Spec PyProof.Rows L2
section
variable{C:Dc}{e:Expr}{es:List Expr}{E:SD->Out D}{A:SD->Out (List D)}{ms:List (Option Nat)}
end
end DL
namespace DL
open PySem PySem.Spec PyProof.Rows L2
section
variable{C:Dc}{e:Expr}{es:List Expr}{E:SD->Out D}{A:SD->Out (List D)}{bs:List Bool}
end
end DL
namespace L2
open PySem PySem.Spec PyProof.Rows
section
variable{X:Cx}
end
end L2
namespace DL
open PySem PySem.Spec PyProof.Rows L2
section
variable{C:Dc}{e:Expr}{es:List Expr}{AA:SD->Out (List D)}{p pos:Pos}
end
end DL
namespace DL
open PySem PySem.Spec PyProof.Rows L2
section
variable{C:Dc}{x:Str}{k:Nat}{dd:List D}{m:List D->Out D}{e:Expr}{es:List Expr}{A:SD->Out (List D)}{p pos:Pos}
end
end DL
namespace L2
open PySem PySem.Spec PyProof.Rows
section
variable{prog:Program}{w:World}{A:Around}{E:Value->Shared->Prop}{s:Shared}{I l:Addr}
end
section
variable{prog:Program}{w:World}{A:Around}{s:Shared}{R:Result->Shared->Prop}{I l:Addr}
end
section
variable{prog:Program}{w:World}{A:Around}{E:Value->Shared->Prop}{s:Shared}{I l:Addr}
end
section
variable{X:Cx}{e:Expr}{te:TA}{p1 p2 p3 pos:Pos}
end
end L2
namespace DL
open PySem PySem.Spec PyProof.Rows L2
section
variable{C:Dc}{e:Expr}{A:SD->Out (List D)}{p1 p2 p3 pos:Pos}
end
end DL
namespace DL
open PySem PySem.Spec PyProof.Rows L2
def OwnAs(K:PySem.W.Frag)(CT:CTab)(H0 G H:Hp):List (List D)->List Addr->Prop
 | [],[]=>True
 | xs::r,a::as=>(H0 a=none/\G a=none/\Own K CT G H a (.lst xs))/\a∉as/\OwnAs K CT H0 G H r as
 | _,_=>False
theorem OwnAs.mono{K:PySem.W.Frag}{CT:CTab}{H0 G G' H H':Hp}(g:Same G G')(h:Same H H'):∀{xss:List (List D)}{as:List Addr},(∀ a∈as,G' a=none)->OwnAs K CT H0 G H xss as->OwnAs K CT H0 G' H' xss as
 | [],[],_,_=>trivial
 | xs::r,a::as,n,⟨⟨h0,_,o⟩,na,ho⟩=>⟨⟨h0,n a (List.mem_cons_self ..),o.mono g fun o e=>h _ _ e⟩,na,ho.mono g h fun b hb=>n b (List.mem_cons_of_mem _ hb)⟩
theorem OwnAs.mem{K:PySem.W.Frag}{CT:CTab}{H0 G H:Hp}:∀{xss:List (List D)}{as:List Addr}{a:Addr},OwnAs K CT H0 G H xss as->a∈as->H0 a=none/\G a=none/\∃ vs,H a=some (.lst vs)
 | [],[],_,_,hm=>(nomatch hm)
 | [],_::_,_,h,_=>h.elim
 | _::_,[],_,h,_=>h.elim
 | xs::r,b::as,a,⟨⟨h0,hg,vs,hv,_⟩,_,ho⟩,hm=>by
  rcases List.mem_cons.mp hm with rfl | hm
  ·exact⟨h0,hg,vs,hv⟩
  ·exact ho.mem hm
section
variable{C:Dc}{G G' H H':Hp}{σ:St}{ς:SD}
end
def AtO(σ:St)(ς:SD):List Nat->List (List D)->List Addr->Prop
 | [],[],[]=>True
 | i::is,xs::r,a::as=>ς[i]?=some (some (.o,.lst xs))/\σ[i]?=some (some (.ref a))/\AtO σ ς is r as
 | _,_,_=>False
section
variable{C:Dc}{G H:Hp}{σ:St}{ς:SD}
theorem AtO.len:∀{is:List Nat}{xss:List (List D)}{as:List Addr},AtO σ ς is xss as->as.length=is.length
 | [],[],[],_=>rfl
 | i::is,xs::r,a::as,⟨_,_,h⟩=>by rw[List.length_cons,List.length_cons,h.len]
end
section
variable{C:Dc}{st:Stmt}{rest:List Stmt}{T:SD->Out Fl}{U:SD->Out D}{es:List Expr}{is:List Nat}{pos:Pos}
end
section
variable{C:Dc}{G G' H H':Hp}{σ:St}{ς:SD}
end
def lstsD:List D->Option (List (List D))
 | []=>some []
 | .lst xs::r=>(lstsD r).map (xs :: ·)
 | _=>none
theorem QbA:∀ xss:List (List D),lstsD (xss.map .lst)=some xss
 | []=>rfl
 | xs::r=>by show(lstsD (r.map .lst)).map (xs :: ·)=_;rw[QbA r];rfl
section
variable{C:Dc}{i j:Nat}{x y:Str}{p2 p3 p4 p5 p6 p7 p8 p9:Pos}{cj:Nat}{c:Int}{body:List Stmt}
end
section
variable{C:Dc}{G H:Hp}{σ:St}{ς:SD}
end
section
variable{C:Dc}{i j:Nat}{x y fn:Str}{k:Nat}{m:List D->Out D}{e:Expr}{es:List Expr}{A:SD->Out (List D)}{tc:Expr}{TC:SD->Out Bool}{ra:List Stmt}{R U:SD->Out Fl}{rest:List Stmt}{sf:Stmt}{p0 p1 p2 p3 p4:Pos}
end
section
variable{C:Dc}{j:Nat}{y:Str}{p5 p6 p7 p8 p9:Pos}{cj:Nat}{c:Int}
end
end DL
namespace DL
open PySem PySem.Spec PyProof.Rows L2
theorem OwnAs.go{K:PySem.W.Frag}{CT:CTab}{H0 G G' H H':Hp}(g:Same G G'):∀{xss:List (List D)}{as:List Addr},(∀ a∈as,G' a=none)->(∀ a∈as,∀ o,H a=some o->H' a=some o)->OwnAs K CT H0 G H xss as->OwnAs K CT H0 G' H' xss as
 | [],[],_,_,_=>trivial
 | xs::r,a::as,n,h,⟨⟨h0,_,o⟩,na,ho⟩=>⟨⟨h0,n a (List.mem_cons_self ..),o.mono g fun o e=>h a (List.mem_cons_self ..) _ e⟩,na,ho.go g (fun b hb=>n b (List.mem_cons_of_mem _ hb)) fun b hb=>h b (List.mem_cons_of_mem _ hb)⟩
theorem OwnAs.app{K:PySem.W.Frag}{CT:CTab}{H0 G H:Hp}:∀{xss yss:List (List D)}{as bs:List Addr},OwnAs K CT H0 G H xss as->OwnAs K CT H0 G H yss bs->(∀ a∈as,a∉bs)->OwnAs K CT H0 G H (xss++yss) (as++bs)
 | [],_,[],_,_,h,_=>h
 | xs::r,_,a::as,_,⟨h1,na,ho⟩,h,n=>⟨h1,fun hm=>by
  rcases List.mem_append.mp hm with hm | hm
  ·exact na hm
  ·exact n a (List.mem_cons_self ..) hm,ho.app h fun b hb=>n b (List.mem_cons_of_mem _ hb)⟩
theorem OwnAs.len{K:PySem.W.Frag}{CT:CTab}{H0 G H:Hp}:∀{xss:List (List D)}{as:List Addr},OwnAs K CT H0 G H xss as->as.length=xss.length
 | [],[],_=>rfl
 | [],_::_,h=>h.elim
 | _::_,[],h=>h.elim
 | xs::r,a::as,⟨_,_,h⟩=>by rw[List.length_cons,List.length_cons,h.len]
def LstA(K:PySem.W.Frag)(CT:CTab)(H0 G H:Hp)(d:D)(p:Addr)(as:List Addr):Prop:=
 ∃ xss:List (List D),d=.lst (xss.map D.lst)/\H0 p=none/\G p=none/\H p=some (.lst (as.map V.ref))/\OwnAs K CT H0 G H xss as/\p∉as
theorem LstA.go{K:PySem.W.Frag}{CT:CTab}{H0 G G' H H':Hp}{d:D}{p:Addr}{as:List Addr}(g:Same G G')(n:∀ a∈p::as,G' a=none)(h:∀ a∈p::as,∀ o,H a=some o->H' a=some o)(l:LstA K CT H0 G H d p as):LstA K CT H0 G' H' d p as:=by
 obtain⟨xss,e,h0,hg,hp,ho,np⟩:=l
 exact⟨xss,e,h0,n p (List.mem_cons_self ..),h p (List.mem_cons_self ..) _ hp,ho.go g (fun a ha=>n a (List.mem_cons_of_mem _ ha)) fun a ha=>h a (List.mem_cons_of_mem _ ha),np⟩
theorem LstA.mem{K:PySem.W.Frag}{CT:CTab}{H0 G H:Hp}{d:D}{p:Addr}{as:List Addr}(l:LstA K CT H0 G H d p as):∀ a∈p::as,H0 a=none/\G a=none/\∃ vs,H a=some (.lst vs):=by
 obtain⟨xss,e,h0,hg,hp,ho,np⟩:=l
 intro a ha
 rcases List.mem_cons.mp ha with rfl | ha
 ·exact⟨h0,hg,_,hp⟩
 ·exact ho.mem ha
section
variable{C:Dc}{G H:Hp}{σ:St}{ς:SD}
end
section
variable{C:Dc}{e:Expr}{es:List Expr}{A:SD->Out (List D)}{x:Str}{k:Nat}{m:List D->Out D}{p pos:Pos}
end
section
variable{C:Dc}{G H:Hp}{σ:St}{ς:SD}{N':List Str}{js:List (Option Nat)}{scope:Scope}{tg iter elt:Expr}{its:SD->Out (List D)}{g:D->SD->Out SD}{e:SD->Out D}{pos:Pos}
end
section
variable{C:Dc}{st:Stmt}{rest:List Stmt}{T:SD->Out Fl}{U:SD->Out D}{N':List Str}{js:List (Option Nat)}{scope:Scope}{tg iter elt:Expr}{its:SD->Out (List D)}{g:D->SD->Out SD}{e:SD->Out D}{pos rpos:Pos}
end
section
variable{C:Dc}{fn:Str}{k:Nat}{m:List D->Out D}{e:Expr}{es:List Expr}{A:SD->Out (List D)}{p pos:Pos}
end
section
variable{C:Dc}{i j r:Nat}{x y z:Str}{p2 p3 p4 p5 p6:Pos}{body:List Stmt}{tb:TS}
end
section
variable{C:Dc}{r:Nat}{z:Str}{p5 p6 p7 p8 p9 p10 p11:Pos}{c1 c2:Nat}{i1 i2:Int}{x1:_}
end
section
variable{C:Dc}{i j r:Nat}{x y fn gn:Str}{k k':Nat}{m m':List D->Out D}{e e':Expr}{es es':List Expr}{A A':SD->Out (List D)}{tc:Expr}{TC:SD->Out Bool}{ra:List Stmt}{R U:SD->Out Fl}{rest:List Stmt}{sf cl:Stmt}{p0 p1 p2 p3 p4 q1 q2 q3 q4:Pos}
end
end DL
namespace DL
open PySem PySem.Spec PyProof.Rows L2
theorem Qpk{ns:List Str}:∀{us:List Value},Vals (ns.map V.str) us->StrsAre us ns:=by
 induction ns with
 | nil=>intro us r;rw[List.map_nil]at r;cases r;exact .nil
 | cons n ns ih=>
  intro us r
  rw[List.map_cons]at r
  cases r with
  | cons h r=>
   obtain⟨t,rfl⟩:=h
   exact .cons n t (ih r)
def rJoin(K:PySem.W.Frag):V->List V->Hp->VK->Prop:=fun v vs H Q=>∃ x a ys,v=.str x/\vs=[.ref a]/\SqL K H a (ys.map V.str)/\(ys.map fun y=>y.length).sum+ys.length * x.length<=16777216/\Q (.str (Txt.join x ys)) H
theorem Qt1{X:Cx}:MtR X "str.join" (rJoin X.K):=by
 intro pins s σ H x xs v us Q I rx rv h
 obtain⟨z,a,ys,rfl,rfl,hq,hb,q⟩:=h
 obtain⟨t,rfl⟩:=rx
 cases rv with
 | cons r rr=>
  cases rr
  cases r
  obtain⟨its,rv,p,hz⟩:=I.list hq
  exact join_list p.isList (by simpa using Qpk rv) hb fun t' k=>⟨.str _,H,I.kept (t':=k) fun b o e=>e,⟨t',rfl⟩,q⟩
def strsJ:List D->Option (List Str)
 | []=>some []
 | .str x::r=>(strsJ r).map (x :: ·)
 | _=>none
theorem Qjx:∀ ys:List Str,strsJ (ys.map D.str)=some ys
 | []=>rfl
 | y::r=>by show(strsJ (r.map D.str)).map (y :: ·)=_;rw[Qjx r];rfl
theorem QjT{K:PySem.W.Frag}{CT:CTab}{G:Hp}:∀{ds:List D}{ys:List Str}{vs:List V},strsJ ds=some ys->RepL K CT G ds vs->vs=ys.map V.str
 | [],ys,vs,h,r=>by cases h;exact r
 | .str x::ds,ys,vs,h,⟨v,vs',e,r1,r2⟩=>by
  have h:(strsJ ds).map (x :: ·)=some ys:=h
  cases z:strsJ ds with
  | none=>rw[z]at h;cases h
  | some zs=>
   rw[z]at h
   cases h
   cases r1
   rw[e,QjT z r2];rfl
 | .non::_,_,_,h,_=>by cases h
 | .bl _::_,_,_,h,_=>by cases h
 | .int _::_,_,_,h,_=>by cases h
 | .lst _::_,_,_,h,_=>by cases h
 | .tup _::_,_,_,h,_=>by cases h
 | .dic _::_,_,_,h,_=>by cases h
 | .ins _ _::_,_,_,h,_=>by cases h
def fJoin:D->List D->Out D
 | .str x,[.lst ds]=>match strsJ ds with
  | some ys=>if decide ((ys.map fun y=>y.length).sum+ys.length * x.length<=16777216)=true then .ok (.str (Txt.join x ys)) else .stuck
  | none=>.stuck
 | _,_=>.stuck
theorem Qvm{C:Dc}:∀ G H σ ς (Q:VK) z ys vs,StR C G H σ ς->RepL C.X.K C.CT G ys vs->(fJoin (.str z) ys).post (KD C G H σ ς Q) C.XD->rJoin C.X.K (.str z) vs H Q:=by
 intro G H σ ς Q z ys vs S hr k
 unfold fJoin at k
 split at k
 ·rename_i x ds e
  cases e
  obtain⟨v,rfl,h2⟩:=rep1 hr
  obtain⟨p,us,rfl,h3,h4⟩:=h2
  cases zz:strsJ ds with
  | none=>rw[zz]at k;exact k.elim
  | some ys=>
   rw[zz]at k
   rcases QE (show(if decide ((ys.map fun y=>y.length).sum+ys.length * z.length<=16777216)=true then Out.ok (D.str (Txt.join z ys)) else .stuck).post _ _ from k) with⟨hc,k⟩ | ⟨_,k⟩
   ·have e:=QjT zz h4
    subst e
    exact⟨z,p,ys,rfl,rfl,S.sub.seq h3,of_decide_eq_true hc,KD.now (show KD C G H σ ς Q (.str (Txt.join z ys)) from k) S rfl⟩
   ·exact k.elim
 ·exact k.elim
section
variable{C:Dc}{o e:Expr}{O E:SD->Out D}{apos cpos:Pos}
theorem QoA(ho:DB C o O)(he:DE C e E)
 (hbase:attributeBase o "join" C.X.env (eval o C.X.env)=eval o C.X.env:=by rfl)
 (hfew:((backTo cpos (starEach (e::[]) C.X.env)).all (fun x => !x.1)&&(backToKw cpos (keywordEach [] C.X.env)).all (fun x=>x.1.isSome)
  && decide ((e::[]).length+([]:List Keyword).length+(if ([]:List Keyword).isEmpty then 0 else 1)<30))=true:=by rfl)
 (hline:(apos.endLine == cpos.line)=true:=by rfl) (hs:starEach (e::[]) C.X.env=(false,eval e C.X.env)::starEach [] C.X.env:=by rfl):
 DE C (.Call (.Attribute o "join" apos) [e] [] cpos) (eSm fJoin O (aCons E aNil)):=
 de_sm PySem.F.slot_str_join PySem.F.type_str_join Qt1 ho (Qc he Qi hs) Qvm hbase hfew hline hs rfl
end
end DL
namespace DL
open PySem PySem.Spec PyProof.Rows L2
theorem QkZ:∀ l:List (Str×Tok),Vals ((l.map (·.1)).map V.str) (strValues l)
 | []=>.nil
 | (x,t)::r=>.cons ⟨t,rfl⟩ (QkZ r)
def Qrm:V->List V->Hp->VK->Prop:=fun v vs H Q=>∃ x y,v=.str x/\vs=[.str y]/\(y.length == 0)=false/\x.length+2<=sizeLine/\∀ p,H p=none->Q (.ref p) (upd H p (.lst ((Txt.split x y).map V.str)))
theorem QjB(x y:Str):(Builtin.Str.partsBetween x (Builtin.Str.occurrences x y 0 x.length (x.length+1)) y.length).length<=x.length+2:=by
 rw[length_partsBetween]
 exact Nat.succ_le_succ (StrLaws.occ_length_le _ _ _ _ _)
theorem QrZ{X:Cx}:MtR X "str.split" Qrm:=by
 intro pins s σ H v vs u us Q I rx rv h
 obtain⟨x,y,rfl,rfl,hy,hx,q⟩:=h
 obtain⟨t,rfl⟩:=rx
 obtain⟨u,rfl,ru⟩:=vals1 rv
 obtain⟨t',rfl⟩:=ru
 have hf:H s.heap.objs.size=none:=I.hok.fresh (Nat.le_refl _)
 have key:∀(l:List (Str×Tok))(tk:Nat),l.map (·.1)=Txt.split x y->l.length<=sizeLine->EP X pins σ Q (.ref s.heap.objs.size) { s with toks:=tk,heap:=s.heap.push { cls:=.type "list",data:=.seq (strValues l).toArray } }:=by
  intro l tk e hl
  refine⟨.ref s.heap.objs.size,upd H s.heap.objs.size (.lst ((Txt.split x y).map V.str)),I.laid (t':=tk) (fun b u e=>Heap.get?_push_of_some _ e) (Nat.le_refl _) ?_,rfl,q _ hf⟩
  rw[← e]
  refine⟨by rw[List.length_map,List.length_map];exact hl,strValues l,0,QkZ l,?_⟩
  exact Heap.get?_push_size _ rfl
 cases h1:(decide (x.length<y.length)||decide (Builtin.Str.strKind x<Builtin.Str.strKind y))
 ·cases hf:(Builtin.Str.occurrences x y 0 x.length (x.length+1)).isEmpty
  ·refine call_meets F.slot_str_split rfl F.entry_str_split (F.args_str_split_2 _ _) (meets_str_split_sep x y t t' h1 hy hf (by omega) (Nat.le_trans (QjB x y) hx)) ?_
   show EP X pins σ Q _ { s with toks:=_,heap:=s.heap.push { cls:=.type "list",data:=.seq (strsFrom s.toks (Builtin.Str.partsBetween x (Builtin.Str.occurrences x y 0 x.length (x.length+1)) y.length)).toArray } }
   rw[strsFrom_eq]
   have e:=(numbered_texts s.toks (Builtin.Str.partsBetween x (Builtin.Str.occurrences x y 0 x.length (x.length+1)) y.length))
   refine key _ _ (e.trans ((if_neg (ne_true_of_eq_false h1)).trans (if_neg (ne_true_of_eq_false hf))).symm) ?_
   rw[← List.length_map (f:=(·.1)),e]
   exact Nat.le_trans (QjB x y) hx
  ·exact call_meets F.slot_str_split rfl F.entry_str_split (F.args_str_split_2 _ _) (meets_str_split_not_found x y t t' h1 hy hf)
    (key [(x,t)] s.toks ((if_neg (ne_true_of_eq_false h1)).trans (if_pos hf)).symm (by show 1<=sizeLine;decide))
 ·exact call_meets F.slot_str_split rfl F.entry_str_split (F.args_str_split_2 _ _) (meets_str_split_cannot_occur x y t t' h1)
   (key [(x,t)] s.toks (if_pos h1).symm (by show 1<=sizeLine;decide))
def QbZ:D->List D->Out D
 | .str x,[.str y]=>if (!(y.length == 0)&&decide (x.length+2<=sizeLine))=true then .ok (.lst ((Txt.split x y).map D.str)) else .stuck
 | _,_=>.stuck
theorem Qju{K:PySem.W.Frag}{CT:CTab}{G:Hp}:∀ ys:List Str,RepL K CT G (ys.map D.str) (ys.map V.str)
 | []=>rfl
 | _::r=>⟨_,_,rfl,rfl,Qju r⟩
theorem QsN{C:Dc}:∀ G H σ ς (Q:VK) z ys vs,StR C G H σ ς->RepL C.X.K C.CT G ys vs->(QbZ (.str z) ys).post (KD C G H σ ς Q) C.XD->Qrm (.str z) vs H Q:=by
 intro G H σ ς Q z ys vs S hr k
 unfold QbZ at k
 split at k
 ·rename_i x y e
  cases e
  obtain⟨v,rfl,h2⟩:=rep1 hr
  cases h2
  rcases QE k with⟨hc,k3⟩ | ⟨_,k3⟩
  ·rw[Bool.and_eq_true]at hc
   refine⟨z,y,rfl,rfl,by simpa using hc.1,of_decide_eq_true hc.2,?_⟩
   exact KD.lst (show KD C G H σ ς Q (.lst ((Txt.split z y).map D.str)) from k3) S (Qju _)
  ·exact k3.elim
 ·exact k.elim
section
variable{C:Dc}{o e:Expr}{O E:SD->Out D}{apos cpos:Pos}
theorem Qlk(ho:DB C o O)(he:DE C e E)
 (hbase:attributeBase o "split" C.X.env (eval o C.X.env)=eval o C.X.env:=by rfl)
 (hfew:((backTo cpos (starEach (e::[]) C.X.env)).all (fun x => !x.1)&&(backToKw cpos (keywordEach [] C.X.env)).all (fun x=>x.1.isSome)
  && decide ((e::[]).length+([]:List Keyword).length+(if ([]:List Keyword).isEmpty then 0 else 1)<30))=true:=by rfl)
 (hline:(apos.endLine == cpos.line)=true:=by rfl) (hs:starEach (e::[]) C.X.env=(false,eval e C.X.env)::starEach [] C.X.env:=by rfl):
 DE C (.Call (.Attribute o "split" apos) [e] [] cpos) (eSm QbZ O (aCons E aNil)):=
 de_sm PySem.F.slot_str_split PySem.F.type_str_split QrZ ho (Qc he Qi hs) QsN hbase hfew hline hs rfl
theorem Qug(ho:DB C o O)(he:DE C e E)
 (hbase:attributeBase o "partition" C.X.env (eval o C.X.env)=eval o C.X.env:=by rfl)
 (hfew:((backTo cpos (starEach (e::[]) C.X.env)).all (fun x => !x.1)&&(backToKw cpos (keywordEach [] C.X.env)).all (fun x=>x.1.isSome)
  && decide ((e::[]).length+([]:List Keyword).length+(if ([]:List Keyword).isEmpty then 0 else 1)<30))=true:=by rfl)
 (hline:(apos.endLine == cpos.line)=true:=by rfl) (hs:starEach (e::[]) C.X.env=(false,eval e C.X.env)::starEach [] C.X.env:=by rfl):
 DE C (.Call (.Attribute o "partition" apos) [e] [] cpos) (eSm (fPart partF) O (aCons E aNil)):=
 de_sm PySem.F.slot_str_partition PySem.F.type_str_partition Qto ho (Qc he Qi hs) (Qvi partF) hbase hfew hline hs rfl
end
theorem Qqx{X:Cx}:CallR X (.type "int") (fun xs H Q=>∃ x n,xs=[.str x]/\intText? x=some n/\x.length<=640/\Q (.int n) H):=by
 intro pins s σ H xs us Q I r h
 obtain⟨x,n,rfl,h1,h2,q⟩:=h
 obtain⟨u,rfl,t,rfl⟩:=vals1 r
 exact PySem.W.KIN.call_text h1 h2 ⟨.int n,H,I.tok _,⟨_,rfl⟩,q⟩
def dIntT:D->Out D
 | .str x=>match intText? x with
  | some n=>if decide (x.length<=640)=true then .ok (.int n) else .stuck
  | none=>.stuck
 | _=>.stuck
section
variable{C:Dc}{e:Expr}{es:List Expr}{A:SD->Out (List D)}{p pos:Pos}
theorem QtO(hg:Gl C.X "int")(hm:C.X.mg "int"=none)(ha:DAB C (e::es) A)
 (he:starEach (e::es) C.X.env=(false,eval e C.X.env)::starEach es C.X.env:=by rfl) (hpl:(backTo pos (starEach es C.X.env)).any (·.1)=false:=by rfl):DE C (.Call (.Name "int" p) (e::es) [] pos) (eA (f1 dIntT) A):=by
 refine QgB Qqx (Qid ?_) (QgZ ?_) hg hm PyProof.Rows.Boot.«int» ha (by decide) (by decide) he hpl
 ·intro G H σ ς Q x v S r q
  cases x with
  | str x=>
   cases r
   unfold dIntT at q
   cases hn:intText? x with
   | none=>simp only[hn]at q;exact q.elim
   | some n=>
    simp only[hn]at q
    rcases QE q with⟨hc,q⟩ | ⟨_,q⟩
    ·exact⟨x,n,rfl,hn,of_decide_eq_true hc,q.2⟩
    ·exact q.elim
  | _=>exact q.elim
 ·intro x
  cases x with
  | str x=>
   unfold dIntT
   cases hn:intText? x with
   | none=>simp only[hn];first | done | exact True.intro
   | some n=>simp only[hn];exact Qcj rfl
  | _=>exact True.intro
end
section
variable{C:Dc}{a:Expr}{A:SD->Out D}
end
end DL
namespace DL
open PySem PySem.Spec PyProof.Rows L2
abbrev rx(C:Dc)(g B1 H1:Hp)(w:Nat->Option Addr):Dc:={ C with G0:=g,B:=B1,H0:=H1,W:=w }
def ovl(L:List Addr)(H G X:Hp):Hp:=fun b=>if b∈L then H b else match G b with | some o=>some o | none=>X b
section
variable{L:List Addr}{H G X:Hp}{b:Addr}{o:HO}
theorem QdC(h:b∈L):ovl L H G X b=H b:=by unfold ovl;rw[if_pos h]
theorem ovl_g(h:b∉L)(e:G b=some o):ovl L H G X b=some o:=by unfold ovl;rw[if_neg h,e]
theorem ovl_x(h:b∉L)(e:G b=none):ovl L H G X b=X b:=by unfold ovl;rw[if_neg h,e]
theorem Qk5(h:b∉L)(e:ovl L H G X b=some o):G b=some o∨(G b=none/\X b=some o):=by
 cases z:G b with
 | none=>rw[ovl_x h z]at e;exact .inr ⟨rfl,e⟩
 | some u=>rw[ovl_g h z]at e;exact .inl e
theorem QfZ(h:b∉L)(e:ovl L H G X b=none):G b=none/\X b=none:=by
 cases z:G b with
 | none=>rw[ovl_x h z]at e;exact⟨rfl,e⟩
 | some u=>rw[ovl_g h z]at e;cases e
end
abbrev reb(C:Dc)(L:List Addr)(i:Nat)(p:Addr)(G H:Hp):Dc:=rx C G (ovl L H G C.B) (ovl L H G C.H0) (fun j=>if j=i then some p else C.W j)
def okS(i:Nat)(ς:SD):Bool:=(List.range ς.length).all fun j=>j == i||match ς[j]? with
 | some (some (.l,_))=>false
 | some (some (.s,_))=>false
 | _=>true
theorem Qfx{i:Nat}{ς:SD}(h:okS i ς=true){j:Nat}{m:SM}{d:D}(e:ς[j]?=some (some (m,d)))(hj:j≠i):m=.k∨m=.o:=by
 obtain⟨hl,_⟩:=List.getElem?_eq_some_iff.mp e
 have:=List.all_eq_true.mp h j (List.mem_range.mpr hl)
 rw[e]at this
 cases m with
 | k=>exact .inl rfl
 | o=>exact .inr rfl
 | l=>simp at this;exact absurd this hj
 | s=>simp at this;exact absurd this hj
section
variable{C:Dc}{g B1 H1:Hp}{w:Nat->Option Addr}{G H H'':Hp}{σ:St}{ς:SD}{L:List Addr}{i:Nat}{p:Addr}{d:D}
theorem StR.reb(S:StR (rx C g B1 H1 w) G H σ ς)(hok:okS i ς=true)(hg:∀ b∈L,G b=none)(hx:∀ b,b∉L->G b=none->H1 b=C.H0 b/\B1 b=C.B b)
 (hown:∀ b∈L,∀(j:Nat) d,j≠i->ς[j]?=some (some (.o,d))->σ[j]?≠some (some (.ref b))) (hH:∀ b,b∉L->H'' b=H b) (hL:∀ b∈L,H'' b≠none)
 (hi:σ[i]?=some (some (.ref p))) (hr:Rep C.X.K C.CT (ovl L H'' G C.B) d (.ref p)):StR (reb C L i p G H'') G H'' σ (ς.set i (some (.l,d))):=by
 have sub:Same G H'':=fun b o e=>by
  have hb:b∉L:=fun hb=>by rw[hg b hb]at e;cases e
  rw[hH b hb];exact S.sub b o e
 exact {
  sub:=sub
  g0:=Same.refl _
  new:=fun b h1 h2=>absurd h1 h2
  fr:=fun b o e m=>by
   have e:ovl L H'' G C.H0 b=some o:=e
   by_cases hb:b∈L
   ·rw[QdC hb]at e;exact e
   ·rcases Qk5 hb e with e | ⟨z,e⟩
    ·exact sub b o e
    ·rw[hH b hb];exact S.fr b o ((hx b hb z).1.trans e) m
  dom:=fun b e=>by
   have hb:b∉L:=fun hb=>hL b hb e
   have z:G b=none:=sub.free e
   show ovl L H'' G C.H0 b=none
   rw[ovl_x hb z, ← (hx b hb z).1]
   exact S.dom b (by rw[← hH b hb];exact e)
  bs:=fun b o e=>by
   have e:ovl L H'' G C.B b=some o:=e
   by_cases hb:b∈L
   ·rw[QdC hb]at e;exact e
   ·rcases Qk5 hb e with e | ⟨z,e⟩
    ·exact sub b o e
    ·rw[hH b hb];exact S.bs b o ((hx b hb z).2.trans e)
  bh:=fun b e=>by
   have e:ovl L H'' G C.H0 b=none:=e
   by_cases hb:b∈L
   ·rw[QdC hb]at e;exact absurd e (hL b hb)
   ·obtain⟨z,e⟩:=QfZ hb e
    show ovl L H'' G C.B b=none
    rw[ovl_x hb z, ← (hx b hb z).2]
    exact S.bh b ((hx b hb z).1.trans e)
  len:=by rw[List.length_set];exact S.len
  fz:=fun j e h=>by
   rcases Ql h with⟨rfl,h2,l⟩ | ⟨ne,h2⟩
   ·cases h2
   ·exact S.fz j e h2
  ow:=fun j e h=>by
   rcases Ql h with⟨rfl,h2,l⟩ | ⟨ne,h2⟩
   ·cases h2
   ·obtain⟨q,e1,e2,e3,o⟩:=S.ow j e h2
    have hq:q∉L:=fun hq=>hown q hq j e (Ne.symm ne) h2 e1
    refine⟨q,e1,e2,?_,o.mono (Same.refl G) fun u z=>by rw[hH q hq];exact z⟩
    show ovl L H'' G C.H0 q=none
    rw[ovl_x hq e2, ← (hx q hq e2).1]
    exact e3
  ln:=fun j e h=>by
   rcases Ql h with⟨rfl,h2,l⟩ | ⟨ne,h2⟩
   ·cases h2
    refine⟨_,hi,hr,fun q hq=>?_⟩
    have hq:(if i=i then some p else C.W i)=some q:=hq
    rw[if_pos rfl]at hq
    cases hq;rfl
   ·rcases Qfx hok h2 (Ne.symm ne) with z | z<;>cases z
  inj:=fun j k d1 d2 q hjk h1 h2 h3=>by
   rcases Ql h1 with⟨rfl,q1,l⟩ | ⟨n1,q1⟩
   ·cases q1
   ·rcases Ql h2 with⟨rfl,q2,l⟩ | ⟨n2,q2⟩
    ·cases q2
    ·exact S.inj j k d1 d2 q hjk q1 q2 h3
  sf:=fun j e h=>by
   rcases Ql h with⟨rfl,h2,l⟩ | ⟨ne,h2⟩
   ·cases h2
   ·rcases Qfx hok h2 (Ne.symm ne) with z | z<;>cases z
  su:=fun j k d1 d2 q hjk h1 h2 h3=>by
   rcases Ql h1 with⟨rfl,q1,l⟩ | ⟨n1,q1⟩
   ·cases q1
   ·rcases Qfx hok q1 (Ne.symm n1) with z | z<;>cases z }
theorem GH.back{G' H':Hp}(N:GH C G H)(hL:∀ b∈L,C.H0 b=none/\G b=none/\H b≠none)(S:GH (DL.reb C L i p G H) G' H'):GH C G' H' where
 sub:=S.sub
 g0:=N.g0.trans S.g0
 new:=fun b h1 h2=>by
  by_cases hb:b∈L
  ·exact(hL b hb).1
  ·cases z:G b with
   | some o=>exact N.new b h1 (by rw[z];simp)
   | none=>
    have e:ovl L H G C.H0 b=none:=S.new b z h2
    exact(QfZ hb e).2
 fr:=fun b o e m=>by
  have hb:b∉L:=fun hb=>by rw[(hL b hb).1]at e;cases e
  refine S.fr b o ?_ m
  show ovl L H G C.H0 b=some o
  cases z:G b with
  | none=>rw[ovl_x hb z];exact e
  | some u=>
   rw[ovl_g hb z]
   have h1:=N.fr b o e m
   rw[N.sub b u z]at h1
   exact h1
 dom:=fun b e=>by
  have e:ovl L H G C.H0 b=none:=S.dom b e
  by_cases hb:b∈L
  ·exact(hL b hb).1
  ·exact(QfZ hb e).2
 bs:=fun b o e=>by
  have hb:b∉L:=fun hb=>by rw[N.bh b (hL b hb).1]at e;cases e
  refine S.bs b o ?_
  show ovl L H G C.B b=some o
  cases z:G b with
  | none=>rw[ovl_x hb z];exact e
  | some u=>
   rw[ovl_g hb z]
   have h1:=N.bs b o e
   rw[N.sub b u z]at h1
   exact h1
 bh:=N.bh
end
structure NI(C:Dc)(p:Addr)(as:List Addr)(G H:Hp)(xss:List (List D)):Prop where
 gh:GH C G H
 la:LstA C.X.K C.CT C.H0 G H (.lst (xss.map D.lst)) p as
theorem LstA.xs{K:PySem.W.Frag}{CT:CTab}{H0 G H:Hp}{xss:List (List D)}{p:Addr}{as:List Addr}(l:LstA K CT H0 G H (.lst (xss.map D.lst)) p as):H p=some (.lst (as.map V.ref))/\OwnAs K CT H0 G H xss as/\p∉as:=by
 obtain⟨yss,e,_,_,hp,ho,np⟩:=l
 have e':lstsD (xss.map D.lst)=lstsD (yss.map D.lst):=by injection e with e;rw[e]
 rw[QbA,QbA]at e'
 cases e'
 exact⟨hp,ho,np⟩
theorem Qmj{K:PySem.W.Frag}{CT:CTab}{H0 G H B:Hp}(gb:Same G B):∀{xss:List (List D)}{as:List Addr},(∀ a∈as,B a=H a)->OwnAs K CT H0 G H xss as->RepL K CT B (xss.map D.lst) (as.map V.ref)
 | [],[],_,_=>rfl
 | [],_::_,_,h=>h.elim
 | _::_,[],_,h=>h.elim
 | xs::r,a::as,hb,⟨⟨_,_,vs,hv,rv⟩,_,ho⟩=>⟨_,_,rfl,⟨a,vs,rfl,SqL.of ((hb a (List.mem_cons_self ..)).trans hv),RepL.mono gb xs vs rv⟩,Qmj gb (fun b h=>hb b (List.mem_cons_of_mem _ h)) ho⟩
section
variable{C:Dc}{G H G' H':Hp}{σ:St}{ς:SD}{i:Nat}{p:Addr}{as:List Addr}{xss:List (List D)}
theorem NI.at(N:NI C p as G H xss):∀ b∈p::as,C.H0 b=none/\G b=none/\H b≠none:=fun b hb=>by
 obtain⟨h1,h2,vs,h3⟩:=N.la.mem b hb
 exact⟨h1,h2,by rw[h3];simp⟩
theorem NI.rep(N:NI C p as G H xss):Rep C.X.K C.CT (ovl (p::as) H G C.B) (.lst (xss.map D.lst)) (.ref p):=by
 obtain⟨hp,ho,np⟩:=N.la.xs
 refine⟨p,as.map V.ref,rfl,SqL.of ((QdC (List.mem_cons_self ..)).trans hp),Qmj (fun b o e=>ovl_g (fun hb=>?_) e) (fun a ha=>QdC (List.mem_cons_of_mem _ ha)) ho⟩
 rw[(N.at b hb).2.1]at e;cases e
theorem QhL(N:NI C p as G H xss)(S:GH (reb C (p::as) i p G H) G' H'):∀ b∈p::as,G' b=none/\H' b=H b:=fun b hb=>by
 obtain⟨h1,h2,h3⟩:=N.at b hb
 refine⟨?_,?_⟩
 ·cases z:G' b with
  | none=>rfl
  | some o=>
   have e:ovl (p::as) H G C.H0 b=none:=S.new b h2 (by rw[z];simp)
   rw[QdC hb]at e
   exact absurd e h3
 ·cases z:H b with
  | none=>exact absurd z h3
  | some o=>exact S.bs b o (by show ovl (p::as) H G C.B b=some o;rw[QdC hb];exact z)
theorem NI.move(N:NI C p as G H xss)(S:GH (reb C (p::as) i p G H) G' H'):NI C p as G' H' xss where
 gh:=N.gh.back N.at S
 la:=N.la.go S.g0 (fun a ha=>(QhL N S a ha).1) fun a ha o e=>by rw[(QhL N S a ha).2];exact e
theorem QfI(S:StR (reb C (p::as) i p G H) G' H' σ ς){d:D}(h:ς[i]?=some (some (.l,d))):σ[i]?=some (some (.ref p)):=by
 obtain⟨v,e,_,w⟩:=S.ln i d h
 rw[w p (by show(if i=i then some p else C.W i)=some p;rw[if_pos rfl])]at e
 exact e
theorem Qir(N:NI C p as G H xss)(S:StR (reb C (p::as) i p G H) G' H' σ ς):∀ b∈p::as,∀(j:Nat) d,j≠i->ς[j]?=some (some (.o,d))->σ[j]?≠some (some (.ref b)):=fun b hb j d _ h e=>by
 obtain⟨q,e1,_,e3,_⟩:=S.ow j d h
 rw[e]at e1;cases e1
 have e3:ovl (p::as) H G C.H0 b=none:=e3
 rw[QdC hb]at e3
 exact(N.at b hb).2.2 e3
theorem reb_x(S:GH (reb C (p::as) i p G H) G' H'):∀ b,b∉p::as->G' b=none->ovl (p::as) H G C.H0 b=C.H0 b/\ovl (p::as) H G C.B b=C.B b:=fun b hb z=>by
 have z0:G b=none:=by
  cases q:G b with
  | none=>rfl
  | some o=>rw[S.g0 b o q]at z;cases z
 exact⟨ovl_x hb z0,ovl_x hb z0⟩
theorem StR.reb2{xss':List (List D)}{H2:Hp}{d:D}(N:NI C p as G H xss)(S:StR (DL.reb C (p::as) i p G H) G' H' σ ς)(hok:okS i ς=true)(hi:ς[i]?=some (some (.l,d)))(hH:∀ b,b∉p::as->H2 b=H' b)(N2:NI C p as G' H2 xss'):
 StR (DL.reb C (p::as) i p G' H2) G' H2 σ (ς.set i (some (.l,.lst (xss'.map D.lst)))):=
 StR.reb S hok (fun b hb=>(QhL N S.toGH b hb).1) (reb_x S.toGH) (Qir N S) hH (fun b hb=>(N2.at b hb).2.2) (QfI S hi) N2.rep
theorem GH.touch{a:Addr}{o:HO}(S:GH C G H)(hg:G a=none)(h0:C.H0 a=none):GH C G (upd H a o) where
 sub:=fun b u e=>by rw[Qh (by rintro rfl;rw[hg]at e;cases e)];exact S.sub b u e
 g0:=S.g0
 new:=S.new
 fr:=fun b u e m=>by rw[Qh (by rintro rfl;rw[h0]at e;cases e)];exact S.fr b u e m
 dom:=fun b e=>by
  by_cases hb:b=a
  ·subst hb;exact h0
  ·rw[Qh hb]at e;exact S.dom b e
 bs:=fun b u e=>by rw[Qh (by rintro rfl;rw[S.bh _ h0]at e;cases e)];exact S.bs b u e
 bh:=S.bh
theorem OwnAs.put{K:PySem.W.Frag}{CT:CTab}{H0:Hp}{q:Addr}{ys:List D}{us:List V}(ru:RepL K CT G ys us):∀{n:Nat}{xss:List (List D)}{as:List Addr},as[n]?=some q->OwnAs K CT H0 G H xss as->OwnAs K CT H0 G (upd H q (.lst us)) (xss.set n ys) as
 | _,[],[],e,_=>by simp at e
 | _,[],_::_,_,h=>h.elim
 | _,_::_,[],_,h=>h.elim
 | 0,xs::r,a::as,e,⟨⟨h1,h2,_⟩,na,ho⟩=>by
  simp at e
  subst e
  exact⟨⟨h1,h2,us,Qx,ru⟩,na,ho.go (Same.refl _) (fun b hb=>(ho.mem hb).2.1) fun b hb o z=>by rw[Qh (by rintro rfl;exact na hb)];exact z⟩
 | n+1,xs::r,a::as,e,⟨⟨h1,h2,h3⟩,na,ho⟩=>by
  simp at e
  have hm:q∈as:=List.mem_of_getElem? e
  exact⟨⟨h1,h2,h3.mono (Same.refl _) fun o z=>by rw[Qh (by rintro rfl;exact na hm)];exact z⟩,na,OwnAs.put ru e ho⟩
theorem OwnAs.at{K:PySem.W.Frag}{CT:CTab}{H0:Hp}{xs:List D}:∀{n:Nat}{xss:List (List D)}{as:List Addr},xss[n]?=some xs->OwnAs K CT H0 G H xss as->∃ q vs,as[n]?=some q/\H q=some (.lst vs)/\RepL K CT G xs vs
 | _,[],_,e,_=>by simp at e
 | _,_::_,[],_,h=>h.elim
 | 0,xs::r,a::as,e,⟨⟨h1,h2,vs,h3,h4⟩,na,ho⟩=>by
  simp at e
  subst e
  exact⟨a,vs,rfl,h3,h4⟩
 | n+1,xs::r,a::as,e,⟨_,na,ho⟩=>by
  simp at e
  obtain⟨q,vs,h⟩:=OwnAs.at e ho
  exact⟨q,vs,by simpa using h⟩
end
end DL
namespace DL
open PySem PySem.Spec PyProof.Rows L2
def stM(X:Cx)(st:Stmt):TS:=fun W σ H=>∃ t,PS X st t/\t W σ H
theorem QuT{X:Cx}{st:Stmt}:PS X st (stM X st):=fun pins s σ H D I ⟨t,ht,h⟩=>ht pins s σ H D I h
def iMax(X:Cx)(tg iter:Expr):TI:=fun σ H R=>∃ t,PI X tg iter t/\t σ H R
theorem QuU{X:Cx}{tg iter:Expr}:PI X tg iter (iMax X tg iter):=fun pins s σ H R I ⟨t,ht,h⟩=>ht pins s σ H R I h
open Classical in
noncomputable def qKeep{α:Type}(i:Nat)(T:SD->Out Fl)(U:SD->Out α):SD->Out α:=fun ς=>T ς>>=fun f=>match f with
 | .nx ς'=>if ς'[i]?=ς[i]? then U ς' else .stuck
 | _=>.stuck
section
variable{C:Dc}{i:Nat}{st:Stmt}{rest:List Stmt}{T:SD->Out Fl}{U:SD->Out SD}{Z:SD->Out D}
theorem Qbl{α:Type}{c:Prop}{_:Decidable c}{o:Out α}{k:α->Prop}{x:D->Prop}(h:(if c then o else .stuck).post k x):c/\o.post k x:=by
 by_cases hc:c
 ·rw[if_pos hc]at h;exact⟨hc,h⟩
 ·rw[if_neg hc]at h;exact h.elim
def qThen{α:Type}(U:SD->Out SD)(Z:SD->Out α):SD->Out α:=fun ς=>U ς>>=Z
theorem GH.freezeAs{H:Hp}:∀{xss:List (List D)}{as:List Addr}{G:Hp},GH C G H->OwnAs C.X.K C.CT C.H0 G H xss as->∃ G',GH C G' H/\Same G G'/\(∀ b,b∉as->G' b=G b)/\RepL C.X.K C.CT G' (xss.map .lst) (as.map V.ref)
 | [],[],G,S,_=>⟨G,S,Same.refl G,fun _ _=>rfl,rfl⟩
 | [],_::_,_,_,h=>h.elim
 | _::_,[],_,_,h=>h.elim
 | xs::r,a::as,G,S,⟨⟨h0,hg,o⟩,na,ho⟩=>by
  obtain⟨vs,hv,rv⟩:=id o
  have S1:=S.freezeR hv hg h0
  have ho1:OwnAs C.X.K C.CT C.H0 (upd G a (.lst vs)) H r as:=ho.mono (Qq hg) (Same.refl H) fun b hb=>by
   rw[Qh (by rintro rfl;exact na hb)]
   exact(ho.mem hb).2.1
  obtain⟨G',S',g',k',r'⟩:=GH.freezeAs (H:=H) S1 ho1
  refine⟨G',S',(Qq hg).trans g',fun b hb=>?_,?_⟩
  ·rw[k' b (fun h=>hb (List.mem_cons_of_mem _ h)),Qh (by rintro rfl;exact hb (List.mem_cons_self ..))]
  ·exact⟨.ref a,as.map V.ref,rfl,Rep.mono g' _ _ (o.known hg hv),r'⟩
end
section
variable{C:Dc}{i j:Nat}{e:Expr}{E:SD->Out D}{x y:Str}{p1 p2 p3 p4 p5 pos:Pos}
end
end DL
namespace DL
open PySem PySem.Spec PyProof.Rows L2
theorem QqD{α:Type}{l:List α}{i:Nat}{a:α}(h:l[i]?=some a):l.set i a=l:=by
 apply List.ext_getElem?
 intro k
 rw[List.getElem?_set]
 split
 ·rename_i e
  subst e
  split
  ·exact h.symm
  ·rename_i hl
   rw[List.getElem?_eq_none (by omega)]at h
   cases h
 ·rfl
def loopQ(b:D->SD->Out SD):List D->SD->Out SD
 | [],ς=>.ok ς
 | x::r,ς=>b x ς>>=loopQ b r
open Classical in
noncomputable def turnQ(i:Nat)(g:D->SD->Out SD)(T:SD->Out SD):D->SD->Out SD:=fun x ς=>g x ς>>=fun ς'=>if ς'[i]?=ς[i]? then T ς' else .stuck
noncomputable def qFor(i:Nat)(g:D->SD->Out SD)(its:SD->Out (List D))(T:SD->Out SD):SD->Out SD:=fun ς=>its ς>>=fun xs=>if okS i ς=true then loopQ (turnQ i g T) xs ς else .stuck
section
variable{C:Dc}{i:Nat}{tg iter:Expr}{body:List Stmt}{its:SD->Out (List D)}{g:D->SD->Out SD}{T:SD->Out SD}{pos:Pos}
end
section
variable{C:Dc}{i:Nat}{N':List Str}{js:List (Option Nat)}{scope:Scope}{tg iter elt:Expr}{its:SD->Out (List D)}{g:D->SD->Out SD}{e:SD->Out D}{Z:SD->Out D}{pos px spos:Pos}{x:Str}{rest:List Stmt}
end
end DL
namespace DL
open PySem PySem.Spec PyProof.Rows L2
end DL
namespace PySem
namespace SeqAt
open Builtin
end SeqAt
end PySem
namespace DL
open PySem PySem.Spec PyProof.Rows L2
section
variable{C:Dc}{e:Expr}{E:SD->Out D}{x:Str}{a:Addr}{ys:List Str}{px apos cpos:Pos}
end
end DL
namespace DL
open PySem PySem.Spec PyProof.Rows L2
section
variable{K:PySem.W.Frag}{x qual:Str}{st:Stmt}{f:Addr}{fd:FuncData}{a b c d e:Str}
abbrev bFn(x qual:Str)(st:Stmt)(kV doc pm:Value)(an:Option Addr)(cdv ct:Value):FuncData:=PySem.W.fnOf x qual (Qcp st) (Qbc st) (Qd st) .none kV doc pm an cdv ct
theorem FunV.b1(F:FunV K x qual st f fd .none)(h:∀ kV doc pm an cdv ct u,bindArgs (bFn x qual st kV doc pm an cdv ct) ⟨[u],[]⟩=pure [(a,u)]):Binds K fd [a] []:=
 F.binds fun kV doc pm an cdv ct us hl=>match us,hl with | [u],_=>h kV doc pm an cdv ct u
theorem FunV.b2(F:FunV K x qual st f fd .none)(h:∀ kV doc pm an cdv ct u v,bindArgs (bFn x qual st kV doc pm an cdv ct) ⟨[u,v],[]⟩=pure [(a,u),(b,v)]):Binds K fd [a,b] []:=
 F.binds fun kV doc pm an cdv ct us hl=>match us,hl with | [u,v],_=>h kV doc pm an cdv ct u v
theorem FunV.b3(F:FunV K x qual st f fd .none)(h:∀ kV doc pm an cdv ct u v w,bindArgs (bFn x qual st kV doc pm an cdv ct) ⟨[u,v,w],[]⟩=pure [(a,u),(b,v),(c,w)]):Binds K fd [a,b,c] []:=
 F.binds fun kV doc pm an cdv ct us hl=>match us,hl with | [u,v,w],_=>h kV doc pm an cdv ct u v w
end
end DL
namespace DL
open PySem PySem.Spec PyProof.Rows L2
def QN(C:Dc)(i:Nat)(p:Addr)(G:Hp)(W:Ends)(ς':SD):Prop:=∀ as G2 H2 σ' xss',NI C p as G2 H2 xss'->StR (reb C (p::as) i p G2 H2) G2 H2 σ' ς'->Same G G2->ς'[i]?=some (some (.l,.lst (xss'.map D.lst)))->W.nx σ' H2
theorem QN.later{C:Dc}{i:Nat}{p:Addr}{G G':Hp}{W:Ends}{ς':SD}(k:QN C i p G W ς')(g:Same G G'):QN C i p G' W ς':=fun as G2 H2 σ' xss' n s h e=>k as G2 H2 σ' xss' n s (g.trans h) e
def GQ1(C:Dc)(i:Nat)(st:Stmt)(T:SD->Out SD):Prop:=∃ t,PS C.X st t/\∀ p as G H G' H' σ ς xss (W:Ends),NI C p as G H xss->StR (reb C (p::as) i p G H) G' H' σ ς->ς[i]?=some (some (.l,.lst (xss.map D.lst)))->(T ς).post (QN C i p G' W) C.XD->t W σ H'
def GQ(C:Dc)(i:Nat)(st:List Stmt)(T:SD->Out SD):Prop:=∃ t,PSs C.X st t/\∀ p as G H G' H' σ ς xss (W:Ends),NI C p as G H xss->StR (reb C (p::as) i p G H) G' H' σ ς->ς[i]?=some (some (.l,.lst (xss.map D.lst)))->(T ς).post (QN C i p G' W) C.XD->t W σ H'
def qNil(i:Nat):SD->Out SD:=fun ς=>if okS i ς=true then .ok ς else .stuck
section
variable{C:Dc}{i:Nat}{st:Stmt}{rest:List Stmt}{T:SD->Out Fl}{U V:SD->Out SD}
theorem QqP:GQ C i [] (qNil i):=by
 refine⟨_,QoC,fun p as G H G' H' σ ς xss W N S hi k=>?_⟩
 unfold qNil at k
 obtain⟨hok,k⟩:=Qbl k
 have N1:=N.move S.toGH
 have S1:=StR.reb2 N S hok hi (fun b _=>rfl) N1
 rw[QqD hi]at S1
 exact(show QN C i p G' W ς from k) as G' H' σ xss N1 S1 (Same.refl _) hi
theorem Qoy(h:∀ L p G H,DS (reb C L i p G H) st T)(hr:GQ C i rest U):GQ C i (st::rest) (qKeep i T U):=by
 obtain⟨t,pt,qt⟩:=hr
 refine⟨_,Qhx QuT pt,fun p as G H G' H' σ ς xss W N S hi k=>?_⟩
 obtain⟨t1,p1,q1⟩:=h (p::as) p G H
 refine⟨t1,p1,q1 G' H' σ ς _ S ?_⟩
 unfold qKeep at k
 rw[Out.post_bind]at k
 refine Out.post_mono k fun f k=>?_
 cases f with
 | nx ς'=>
  obtain⟨e,k⟩:=Qbl k
  exact fun σ2 H2 G2 S2 g2=>qt p as G H G2 H2 σ2 ς' xss W N S2 (e.trans hi) (Out.post_mono k fun ς2 k2=>QN.later k2 g2)
 | bk _=>exact k.elim
 | ct _=>exact k.elim
 | rt _ _=>exact k.elim
theorem Qiq(h:GQ1 C i st U)(hr:GQ C i rest V):GQ C i (st::rest) (qThen U V):=by
 obtain⟨t,pt,qt⟩:=hr
 obtain⟨t1,p1,q1⟩:=h
 refine⟨_,Qhx p1 pt,fun p as G H G' H' σ ς xss W N S hi k=>?_⟩
 unfold qThen at k
 rw[Out.post_bind]at k
 refine q1 p as G H G' H' σ ς xss _ N S hi (Out.post_mono k fun ς' k as2 G2 H2 σ' xss' N2 S2 g2 hi2=>?_)
 exact qt p as2 G2 H2 G2 H2 σ' ς' xss' W N2 S2 hi2 (Out.post_mono k fun d k2=>QN.later k2 g2)
end
theorem StR.reb3{C:Dc}{i:Nat}{p:Addr}{as bs:List Addr}{G H G' H' H2:Hp}{σ:St}{ς:SD}{xss xss':List (List D)}{d:D}(N:NI C p as G H xss)(S:StR (DL.reb C (p::as) i p G H) G' H' σ ς)(hok:okS i ς=true)(hi:ς[i]?=some (some (.l,d)))
 (hsub:∀ b,b∈as->b∈bs) (hnew:∀ b,b∈bs->b∉as->H' b=none) (hH:∀ b,b∉p::bs->H2 b=H' b) (N2:NI C p bs G' H2 xss'):
 StR (DL.reb C (p::bs) i p G' H2) G' H2 σ (ς.set i (some (.l,.lst (xss'.map D.lst)))):=by
 refine StR.reb S hok (fun b hb=>(N2.at b hb).2.1) (fun b hb z=>reb_x S.toGH b (fun h=>hb ?_) z) (fun b hb j d hj hs he=>?_) hH (fun b hb=>(N2.at b hb).2.2) (QfI S hi) N2.rep
 ·rcases List.mem_cons.mp h with rfl | h
  ·exact List.mem_cons_self ..
  ·exact List.mem_cons_of_mem _ (hsub b h)
 ·by_cases hm:b∈p::as
  ·exact Qir N S b hm j d hj hs he
  ·rcases List.mem_cons.mp hb with rfl | hb
   ·exact hm (List.mem_cons_self ..)
   ·obtain⟨o,ho⟩:=S.own_ne hs he
    rw[hnew b hb (fun h=>hm (List.mem_cons_of_mem _ h))]at ho;cases ho
def qNew(i:Nat):SD->Out SD:=fun ς=>match ς[i]? with
 | some (some (.l,.lst ds))=>match lstsD ds with
  | some xss=>if (okS i ς&&decide (xss.length<100000))=true then .ok (ς.set i (some (.l,.lst ((xss++[[]]).map D.lst)))) else .stuck
  | none=>.stuck
 | _=>.stuck
section
variable{C:Dc}{i:Nat}{x:Str}{p1 p2 p3 p4 pos:Pos}
theorem QuR(hN:C.X.N[i]?=some x:=by rfl)(hv:Vis C.X.env.scope x:=by first | exact Or.inl rfl | exact Or.inr (oi rfl) | exact Or.inr (Or.inr rfl))
 (hd:(x == ("__debug__":Str))=false:=by decide) (hcd:(x == ("__classdict__":Str))=false:=by decide)
 (hbase:attributeBase (.Name x p1) "append" C.X.env (eval (.Name x p1) C.X.env)=eval (.Name x p1) C.X.env:=by rfl)
 (hfew:((backTo p3 (starEach (.List [] p4::[]) C.X.env)).all (fun x => !x.1)&&(backToKw p3 (keywordEach [] C.X.env)).all (fun x=>x.1.isSome)
  && decide ((Expr.List [] p4::[]).length+([]:List Keyword).length+(if ([]:List Keyword).isEmpty then 0 else 1)<30))=true:=by rfl)
 (hline:(p2.endLine == p3.line)=true:=by rfl) (hs:starEach (.List [] p4::[]) C.X.env=(false,eval (.List [] p4) C.X.env)::starEach [] C.X.env:=by rfl)
 (hsw:swapsWith (.Call (.Attribute (.Name x p1) "append" p2) [.List [] p4] [] p3) none pos.line C.X.env=pure false:=by rfl):
 GQ1 C i (.Expr (.Call (.Attribute (.Name x p1) "append" p2) [.List [] p4] [] p3) pos) (qNew i):=by
 refine⟨_,QgX (pe_bm PySem.F.plainAttrs_list PySem.F.slot_list_append PySem.F.type_list_append Qe0 (QdF (i:=i) hN hv hd hcd) (Qbe (Qra Qb1) Qb1 hs) hbase hfew hline hs rfl) hsw,fun p as G H G' H' σ ς xss W N S hi k=>?_⟩
 unfold qNew at k
 rw[hi]at k
 have k:(match lstsD (xss.map D.lst) with
  | some xss=>if (okS i ς&&decide (xss.length<100000))=true then Out.ok (ς.set i (some (SM.l,D.lst ((xss++[[]]).map D.lst)))) else .stuck
  | none=>.stuck).post (QN C i p G' W) C.XD:=k
 rw[QbA]at k
 obtain⟨hc,k⟩:=Qbl k
 rw[Bool.and_eq_true]at hc
 have hlen:=of_decide_eq_true hc.2
 have N2:=N.move S.toGH
 obtain⟨hp,ho,np⟩:=N2.la.xs
 obtain⟨hp0,hpg,hpn⟩:=N2.at p (List.mem_cons_self ..)
 refine⟨_,QfI S hi,.inl ⟨rfl,_,SqL.of hp⟩,Nat.zero_le _,fun q hq=>?_⟩
 have hpq:p≠q:=fun z=>hpn (by rw[z];exact hq)
 have hqa:q∉as:=fun h=>(N2.at q (List.mem_cons_of_mem _ h)).2.2 hq
 have hqg:G' q=none:=N2.gh.gnone hq
 have hq0:C.H0 q=none:=N2.gh.h0none hq
 refine⟨p,as.map V.ref,.ref q,rfl,rfl,by rw[Qh hpq];exact hp,by rw[List.length_map,ho.len];exact Nat.lt_of_lt_of_le hlen (by decide),?_⟩
 have g1:GH C G' (upd H' q (.lst [])):=N2.gh.touch hqg hq0
 have g2:GH C G' (upd (upd H' q (.lst [])) p (.lst (as.map V.ref++[.ref q]))):=g1.touch hpg hp0
 have o1:OwnAs C.X.K C.CT C.H0 G' (upd (upd H' q (.lst [])) p (.lst (as.map V.ref++[.ref q]))) xss as:=ho.go (Same.refl _) (fun a ha=>(ho.mem ha).2.1) fun a ha o z=>by
  rw[Qh (by rintro rfl;exact np ha),Qh (by rintro rfl;exact hqa ha)];exact z
 have o2:OwnAs C.X.K C.CT C.H0 G' (upd (upd H' q (.lst [])) p (.lst (as.map V.ref++[.ref q]))) [[]] [q]:=⟨⟨hq0,hqg,[],by rw[Qh (Ne.symm hpq),Qx],rfl⟩,List.not_mem_nil,trivial⟩
 have N3:NI C p (as++[q]) G' (upd (upd H' q (.lst [])) p (.lst (as.map V.ref++[.ref q]))) (xss++[[]]):={
  gh:=g2
  la:=⟨_,rfl,hp0,hpg,by rw[Qx,List.map_append];rfl,o1.app o2 (fun a ha hm=>hqa (by rw[List.mem_singleton]at hm;rw[← hm];exact ha)),fun h=>by
   rcases List.mem_append.mp h with h | h
   ·exact np h
   ·exact hpq (List.mem_singleton.mp h)⟩ }
 refine k (as++[q]) G' _ σ _ N3 (StR.reb3 N S hc.1 hi (fun b h=>List.mem_append_left _ h) (fun b h1 h2=>?_) (fun b hb=>?_) N3) (Same.refl _) ?_
 ·rcases List.mem_append.mp h1 with h | h
  ·exact absurd h h2
  ·rw[List.mem_singleton.mp h];exact hq
 ·rw[Qh (by rintro rfl;exact hb (List.mem_cons_self ..)),Qh (by rintro rfl;exact hb (List.mem_cons_of_mem _ (List.mem_append_right _ (List.mem_singleton.mpr rfl))))]
 ·rw[List.getElem?_set]
  obtain⟨hl,_⟩:=List.getElem?_eq_some_iff.mp hi
  simp[hl]
end
def qAppE(i:Nat)(E A:SD->Out D):SD->Out SD:=fun ς=>match ς[i]? with
 | some (some (.l,.lst ds))=>match lstsD ds with
  | some xss=>E ς>>=fun d=>match d with
   | .int k=>match ixN xss.length k with
    | some n=>match xss[n]? with
     | some xs=>A ς>>=fun y=>if (okS i ς&&decide (xs.length<100000))=true then .ok (ς.set i (some (.l,.lst ((xss.set n (xs++[y])).map D.lst)))) else .stuck
     | _=>.stuck
    | none=>.stuck
   | _=>.stuck
  | none=>.stuck
 | _=>.stuck
section
variable{C:Dc}{i:Nat}{e a:Expr}{E A:SD->Out D}{x:Str}{p1 p2 p3 p5 pos:Pos}
theorem QuS(he:∀ L p G H,DB (reb C L i p G H) e E)(ha:∀ L p G H,DE (reb C L i p G H) a A)(hs0:Qg0 e:=by intro _ _;rfl)(hN:C.X.N[i]?=some x:=by rfl)(hv:Vis C.X.env.scope x:=by first | exact Or.inl rfl | exact Or.inr (oi rfl) | exact Or.inr (Or.inr rfl))
 (hd:(x == ("__debug__":Str))=false:=by decide) (hcd:(x == ("__classdict__":Str))=false:=by decide)
 (hbase:attributeBase (.Subscript (.Name x p1) e p2) "append" C.X.env (eval (.Subscript (.Name x p1) e p2) C.X.env)=eval (.Subscript (.Name x p1) e p2) C.X.env:=by rfl)
 (hfew:((backTo p5 (starEach (a::[]) C.X.env)).all (fun x => !x.1)&&(backToKw p5 (keywordEach [] C.X.env)).all (fun x=>x.1.isSome)
  && decide ((a::[]).length+([]:List Keyword).length+(if ([]:List Keyword).isEmpty then 0 else 1)<30))=true:=by rfl)
 (hline:(p3.endLine == p5.line)=true:=by rfl) (hs:starEach (a::[]) C.X.env=(false,eval a C.X.env)::starEach [] C.X.env:=by rfl)
 (hsw:swapsWith (.Call (.Attribute (.Subscript (.Name x p1) e p2) "append" p3) [a] [] p5) none pos.line C.X.env=pure false:=by rfl):
 GQ1 C i (.Expr (.Call (.Attribute (.Subscript (.Name x p1) e p2) "append" p3) [a] [] p5) pos) (qAppE i E A):=by
 refine⟨_,QgX (pe_bm PySem.F.plainAttrs_list PySem.F.slot_list_append PySem.F.type_list_append Qe0 (pe_ix QmG (QdF (i:=i) hN hv hd hcd) Qmk hs0) (Qbe Qmk Qb1 hs) hbase hfew hline hs rfl) hsw,fun p as G H G' H' σ ς xss W N S hi k=>?_⟩
 unfold qAppE at k
 rw[hi]at k
 have k:(match lstsD (xss.map D.lst) with
  | some xss=>E ς>>=fun d=>match d with
   | .int k=>match ixN xss.length k with
    | some n=>match xss[n]? with
     | some xs=>A ς>>=fun y=>if (okS i ς&&decide (xs.length<100000))=true then Out.ok (ς.set i (some (SM.l,D.lst ((xss.set n (xs++[y])).map D.lst)))) else .stuck
     | _=>.stuck
    | none=>.stuck
   | _=>.stuck
  | none=>.stuck).post (QN C i p G' W) C.XD:=k
 rw[QbA]at k
 obtain⟨te,pe,qe⟩:=he (p::as) p G H
 obtain⟨ta,pa,qa⟩:=ha (p::as) p G H
 refine⟨_,QfI S hi,te,pe,?_⟩
 have k:(E ς>>=fun d=>match d with
  | .int k=>match ixN xss.length k with
   | some n=>match xss[n]? with
    | some xs=>A ς>>=fun y=>if (okS i ς&&decide (xs.length<100000))=true then Out.ok (ς.set i (some (SM.l,D.lst ((xss.set n (xs++[y])).map D.lst)))) else .stuck
    | _=>.stuck
   | none=>.stuck
  | _=>.stuck).post (QN C i p G' W) C.XD:=k
 rw[Out.post_bind]at k
 refine qe G' H' σ ς _ S (Out.post_mono k fun d k v H2 G2 S2 a2 b2 r2=>?_)
 cases d with
 | int n0=>
  cases r2
  cases zn:ixN xss.length n0 with
  | none=>simp only[zn]at k;exact k.elim
  | some n=>
   simp only[zn]at k
   cases zx:xss[n]? with
   | none=>simp only[zx]at k;exact k.elim
   | some xs=>
    simp only[zx]at k
    rw[Out.post_bind]at k
    have N2:=N.move S2.toGH
    obtain⟨hp,ho,np⟩:=N2.la.xs
    obtain⟨q,vs,hq,hHq,rq⟩:=OwnAs.at zx ho
    have hqm:q∈as:=List.mem_of_getElem? hq
    have hpq:p≠q:=fun z=>np (by rw[z];exact hqm)
    refine .inl ⟨p,as.map V.ref,n0,.ref q,rfl,rfl,SqL.of hp,?_,?_⟩
    ·unfold atI
     rw[List.length_map,ho.len,zn]
     show(as.map V.ref)[n]?=_
     rw[List.getElem?_map,hq];rfl
    ·refine⟨.inl ⟨rfl,vs,SqL.of hHq⟩,ta,pa,qa G2 H2 σ ς _ S2 (Out.post_mono k fun yd k u H3 G3 S3 a3 b3 ru=>?_)⟩
     obtain⟨hc,k⟩:=Qbl k
     rw[Bool.and_eq_true]at hc
     have hlen:=of_decide_eq_true hc.2
     have N4:=N.move S3.toGH
     obtain⟨hp4,ho4,_⟩:=N4.la.xs
     obtain⟨hq0,hqg,_⟩:=N4.at q (List.mem_cons_of_mem _ hqm)
     obtain⟨hp0,hpg,_⟩:=N4.at p (List.mem_cons_self ..)
     refine⟨q,vs,u,rfl,rfl,a3 _ _ hHq,?_,?_⟩
     ·rw[← rq.length];exact Nat.lt_of_lt_of_le hlen (by decide)
     ·have rr:RepL C.X.K C.CT G3 (xs++[yd]) (vs++[u]):=(RepL.mono b3 xs vs rq).append (RepL.one ru)
      have N3:NI C p as G3 (upd H3 q (.lst (vs++[u]))) (xss.set n (xs++[yd])):={
       gh:=N4.gh.touch hqg hq0
       la:=⟨_,rfl,hp0,hpg,by rw[Qh hpq];exact hp4,OwnAs.put rr hq ho4,np⟩ }
      refine(show QN C i p G' W _ from k) as G3 _ σ _ N3 (StR.reb2 N S3 hc.1 hi (fun b hb=>Qh fun z=>hb (by rw[z];exact List.mem_cons_of_mem _ hqm)) N3) (b2.trans b3) ?_
      rw[List.getElem?_set]
      obtain⟨hl,_⟩:=List.getElem?_eq_some_iff.mp hi
      simp[hl]
 | _=>exact k.elim
end
section
variable{C:Dc}{i:Nat}{tg iter:Expr}{body:List Stmt}{its:SD->Out (List D)}{g:D->SD->Out SD}{T:SD->Out SD}{pos:Pos}
theorem Qvt(hp:PassesOwn (model C.X.prog C.X.w) C.X.A C.X.env C.X.xe)(hc:C.X.calm=true)(hi:∀ L p G H,DI (reb C L i p G H) tg iter its)(hg:∀ L p G H,DG (reb C L i p G H) tg g)(hne:noExc g)(hb:GQ C i body T)
 (hs:∀ x,foldedSetIterable iter C.X.env x=pure x:=by intro _;rfl):GQ1 C i (.For tg iter body [] pos) (qFor i g its T):=by
 obtain⟨tb,pb,qb⟩:=hb
 refine⟨_,Qmh hp hc QuU Qmf pb hs,fun p as G H G' H' σ ς xss W N S hsl k=>?_⟩
 obtain⟨t0,p0,q0⟩:=hi (p::as) p G H
 unfold qFor at k
 rw[Out.post_bind]at k
 refine⟨t0,p0,q0 G' H' σ ς _ S (Out.post_mono k fun xs k J H1 G1 S1 a1 b1 dit=>?_)⟩
 obtain⟨hok,k⟩:=Qbl k
 have N1:=N.move S1.toGH
 have S1':=StR.reb2 N S1 hok hsl (fun b _=>rfl) N1
 rw[QqD hsl]at S1'
 let I:Nat->St->Hp->Prop:=fun n σ' H'=>∃ as' G' ς' xss',NI C p as' G' H' xss'/\StR (reb C (p::as') i p G' H') G' H' σ' ς'/\Same G1 G'/\ς'[i]?=some (some (.l,.lst (xss'.map D.lst)))/\(loopQ (turnQ i g T) (xs.drop n) ς').post (QN C i p G' W) C.XD
 refine⟨fun n m σ' H'=>m=xs.length - n/\n<=xs.length/\I n σ' H',⟨xs.length,by simp,Nat.zero_le _,as,G1,ς,xss,N1,S1',Same.refl _,hsl,Out.post_mono (by simpa using k) fun f k=>QN.later k b1⟩,?_⟩
 rintro n m σ' H2 ⟨rfl,hle,as2,G2,ς2,xss2,N2,S2,s2,hsl2,k2⟩
 by_cases hlt:n<xs.length
 ·have hd:xs[n]?=some xs[n]:=by simp[hlt]
  obtain⟨hgo,hy⟩:=dit.go G2 H2 n _ s2 S2.sub hd
  refine .inr ⟨hgo,fun σ3 H3=>n+1<=xs.length/\I (n+1) σ3 H3,fun σ3 H3 h3=>⟨xs.length - (n+1),by omega,rfl,h3⟩,fun x H3 y=>?_⟩
  obtain⟨G3,g3,h3,s3,n3,r3⟩:=hy x H3 y
  have S3:=S2.grow h3 g3 s3 n3
  rw[QeX hd]at k2
  have k2:(turnQ i g T xs[n] ς2>>=loopQ (turnQ i g T) (xs.drop (n+1))).post (QN C i p G2 W) C.XD:=k2
  unfold turnQ at k2
  rw[Out.post_bind,Out.post_bind]at k2
  cases z:g xs[n] ς2 with
  | exc y=>exact absurd z (hne _ _ _)
  | stuck=>rw[z]at k2;exact k2.elim
  | ok ς3=>
   rw[z]at k2
   obtain⟨tt,pg,hgq⟩:=hg (p::as2) p G2 H2
   refine⟨tt,pg,hgq G3 H3 σ' ς2 xs[n] x ς3 _ S3 r3 z fun σ4 S4=>?_⟩
   obtain⟨e,k2⟩:=Qbl k2
   exact qb p as2 G2 H2 G3 H3 σ4 ς3 xss2 _ N2 S4 (e.trans hsl2) (Out.post_mono k2 fun ς5 k5 as5 G5 H5 σ5 xss5 N5 S5 g5 hsl5=>⟨hlt,as5,G5,ς5,xss5,N5,S5,s2.trans (g3.trans g5),hsl5,Out.post_mono k5 fun f k=>QN.later k (g3.trans g5)⟩)
 ·have e:n=xs.length:=by omega
  subst e
  rw[List.drop_length]at k2
  exact .inl ⟨dit.stop G2 H2 s2 S2.sub,(show QN C i p G2 W ς2 from k2) as2 G2 H2 σ' xss2 N2 S2 (Same.refl _) hsl2⟩
end
theorem StR.unreb{C:Dc}{i:Nat}{p:Addr}{as:List Addr}{G H:Hp}{σ:St}{ς:SD}{xss:List (List D)}(N:NI C p as G H xss)(S:StR (DL.reb C (p::as) i p G H) G H σ ς)(hok:okS i ς=true)(hi:ς[i]?=some (some (.l,.lst (xss.map D.lst)))):
 ∃ G',StR C G' H σ (ς.set i (some (.o,.lst (xss.map D.lst))))/\Same G G':=by
 obtain⟨hp,ho,np⟩:=N.la.xs
 obtain⟨h1,h2,_⟩:=N.at p (List.mem_cons_self ..)
 obtain⟨G2,S2,g2,k2,r2⟩:=GH.freezeAs N.gh ho
 have hpi:=QfI S hi
 have own:∀(j:Nat) d,j≠i->ς[j]?=some (some (.o,d))->∃ q,σ[j]?=some (some (.ref q))/\q∉p::as/\G q=none/\C.H0 q=none/\Own C.X.K C.CT G H q d:=fun j d hj h=>by
  obtain⟨q,e1,e2,e3,o⟩:=S.ow j d h
  have hq:q∉p::as:=fun hq=>Qir N S q hq j d hj h e1
  have e3:ovl (p::as) H G C.H0 q=none:=e3
  exact⟨q,e1,hq,e2,(QfZ hq e3).2,o⟩
 refine⟨G2,{ toGH:=S2,len:=by rw[List.length_set];exact S.len,fz:=?_,ow:=?_,ln:=?_,inj:=?_,sf:=?_,su:=?_ },g2⟩
 ·intro j d h
  rcases Ql h with⟨rfl,h3,_⟩ | ⟨_,h3⟩
  ·cases h3
  ·obtain⟨v,a,b⟩:=S.fz j d h3
   exact⟨v,a,Rep.mono g2 d v b⟩
 ·intro j d h
  rcases Ql h with⟨rfl,h3,_⟩ | ⟨ne,h3⟩
  ·cases h3
   exact⟨p,hpi,by rw[k2 p np];exact h2,h1,_,hp,r2⟩
  ·obtain⟨q,e1,hq,e2,e3,o⟩:=own j d (Ne.symm ne) h3
   exact⟨q,e1,by rw[k2 q fun h=>hq (List.mem_cons_of_mem _ h)];exact e2,e3,o.mono g2 fun u z=>z⟩
 ·intro j d h
  rcases Ql h with⟨rfl,h3,_⟩ | ⟨ne,h3⟩
  ·cases h3
  ·rcases Qfx hok h3 (Ne.symm ne) with z | z<;>cases z
 ·intro j k d1 d2 q hjk h3 h4 h5 h6
  rcases Ql h3 with⟨rfl,z3,_⟩ | ⟨n3,z3⟩
  ·rcases Ql h4 with⟨rfl,_,_⟩ | ⟨n4,z4⟩
   ·exact hjk rfl
   ·obtain⟨q',e1,hq,_⟩:=own k d2 (Ne.symm n4) z4
    rw[hpi]at h5;cases h5
    rw[h6]at e1;cases e1
    exact hq (List.mem_cons_self ..)
  ·rcases Ql h4 with⟨rfl,_,_⟩ | ⟨n4,z4⟩
   ·obtain⟨q',e1,hq,_⟩:=own j d1 (Ne.symm n3) z3
    rw[hpi]at h6;cases h6
    rw[h5]at e1;cases e1
    exact hq (List.mem_cons_self ..)
   ·exact S.inj j k d1 d2 q hjk z3 z4 h5 h6
 ·intro j d h
  rcases Ql h with⟨rfl,h3,_⟩ | ⟨ne,h3⟩
  ·cases h3
  ·rcases Qfx hok h3 (Ne.symm ne) with z | z<;>cases z
 ·intro j k d1 d2 q hjk h3 h4 h5
  rcases Ql h3 with⟨rfl,z3,_⟩ | ⟨n3,z3⟩
  ·cases z3
  ·rcases Qfx hok z3 (Ne.symm n3) with z | z<;>cases z
theorem StR.inreb{C:Dc}{i:Nat}{G H:Hp}{σ:St}{ς:SD}(S:StR C G H σ ς)(hok:okS i ς=true)(hi:ς[i]?=some (some (.o,.lst []))):
 ∃ p,NI C p [] G H []/\StR (DL.reb C [p] i p G H) G H σ (ς.set i (some (.l,.lst []))):=by
 obtain⟨p,e1,hg,h0,vs,hv,rv⟩:=S.ow i _ hi
 have hv0:vs=[]:=by
  have:=rv.length
  cases vs with
  | nil=>rfl
  | cons _ _=>simp at this
 subst hv0
 have N:NI C p [] G H []:=⟨S.toGH,[],rfl,h0,hg,hv,trivial,List.not_mem_nil⟩
 have S0:StR (rx C C.G0 C.B C.H0 C.W) G H σ ς:=S
 refine⟨p,N,StR.reb S0 hok (fun b hb=>(N.at b hb).2.1) (fun b _ _=>⟨rfl,rfl⟩) (fun b hb j d hj hs he=>?_) (fun b _=>rfl) (fun b hb=>(N.at b hb).2.2) e1 N.rep⟩
 rw[List.mem_singleton.mp hb]at he
 exact S.inj i j _ _ p (Ne.symm hj) hi hs e1 he
noncomputable def sForN(i:Nat)(g:D->SD->Out SD)(its:SD->Out (List D))(T:SD->Out SD):SD->Out Fl:=fun ς=>match ς[i]? with
 | some (some (.o,.lst []))=>its ς>>=fun xs=>if okS i ς=true then loopQ (turnQ i g T) xs (ς.set i (some (.l,.lst [])))>>=fun ς'=>(match ς'[i]? with
  | some (some (.l,d))=>if okS i ς'=true then .ok (.nx (ς'.set i (some (.o,d)))) else .stuck
  | _=>.stuck) else .stuck
 | _=>.stuck
section
variable{C:Dc}{i:Nat}{tg iter:Expr}{body:List Stmt}{its:SD->Out (List D)}{g:D->SD->Out SD}{T:SD->Out SD}{pos:Pos}
theorem Qs1(hp:PassesOwn (model C.X.prog C.X.w) C.X.A C.X.env C.X.xe)(hc:C.X.calm=true)(hi:DI C tg iter its)(hg:∀ L p G H,DG (reb C L i p G H) tg g)(hne:noExc g)(hb:GQ C i body T)
 (hs:∀ x,foldedSetIterable iter C.X.env x=pure x:=by intro _;rfl):DS C (.For tg iter body [] pos) (sForN i g its T):=by
 obtain⟨tb,pb,qb⟩:=hb
 obtain⟨t0,p0,q0⟩:=hi
 refine⟨_,Qmh hp hc p0 Qmf pb hs,fun G H σ ς W S k=>?_⟩
 unfold sForN at k
 split at k
 ·rename_i hsl
  rw[Out.post_bind]at k
  refine q0 G H σ ς _ S (Out.post_mono k fun xs k J H1 G1 S1 a1 b1 dit=>?_)
  obtain⟨hok,k⟩:=Qbl k
  rw[Out.post_bind]at k
  obtain⟨p,N1,S1'⟩:=S1.inreb hok hsl
  let I:Nat->St->Hp->Prop:=fun n σ' H'=>∃ as' G' ς' xss',NI C p as' G' H' xss'/\StR (reb C (p::as') i p G' H') G' H' σ' ς'/\Same G1 G'/\ς'[i]?=some (some (.l,.lst (xss'.map D.lst)))/\
   (loopQ (turnQ i g T) (xs.drop n) ς').post (fun ς'=>(match ς'[i]? with
   | some (some (.l,d))=>if okS i ς'=true then Out.ok (Fl.nx (ς'.set i (some (.o,d)))) else .stuck
   | _=>.stuck).post (FlK C G W) C.XD) C.XD
  have hil:(ς.set i (some (SM.l,D.lst [])))[i]?=some (some (.l,.lst (([]:List (List D)).map D.lst))):=by
   rw[List.getElem?_set]
   obtain⟨hl,_⟩:=List.getElem?_eq_some_iff.mp hsl
   simp[hl]
  refine⟨fun n m σ' H'=>m=xs.length - n/\n<=xs.length/\I n σ' H',⟨xs.length,by simp,Nat.zero_le _,[],G1,_,[],N1,S1',Same.refl _,hil,by simpa using k⟩,?_⟩
  rintro n m σ' H2 ⟨rfl,hle,as2,G2,ς2,xss2,N2,S2,s2,hsl2,k2⟩
  by_cases hlt:n<xs.length
  ·have hd:xs[n]?=some xs[n]:=by simp[hlt]
   obtain⟨hgo,hy⟩:=dit.go G2 H2 n _ s2 S2.sub hd
   refine .inr ⟨hgo,fun σ3 H3=>n+1<=xs.length/\I (n+1) σ3 H3,fun σ3 H3 h3=>⟨xs.length - (n+1),by omega,rfl,h3⟩,fun x H3 y=>?_⟩
   obtain⟨G3,g3,h3,s3,n3,r3⟩:=hy x H3 y
   have S3:=S2.grow h3 g3 s3 n3
   rw[QeX hd]at k2
   have k2:(turnQ i g T xs[n] ς2>>=loopQ (turnQ i g T) (xs.drop (n+1))).post _ C.XD:=k2
   unfold turnQ at k2
   rw[Out.post_bind,Out.post_bind]at k2
   cases z:g xs[n] ς2 with
   | exc y=>exact absurd z (hne _ _ _)
   | stuck=>rw[z]at k2;exact k2.elim
   | ok ς3=>
    rw[z]at k2
    obtain⟨tt,pg,hgq⟩:=hg (p::as2) p G2 H2
    refine⟨tt,pg,hgq G3 H3 σ' ς2 xs[n] x ς3 _ S3 r3 z fun σ4 S4=>?_⟩
    obtain⟨e,k2⟩:=Qbl k2
    exact qb p as2 G2 H2 G3 H3 σ4 ς3 xss2 _ N2 S4 (e.trans hsl2) (Out.post_mono k2 fun ς5 k5 as5 G5 H5 σ5 xss5 N5 S5 g5 hsl5=>⟨hlt,as5,G5,ς5,xss5,N5,S5,s2.trans (g3.trans g5),hsl5,k5⟩)
  ·have e:n=xs.length:=by omega
   subst e
   rw[List.drop_length]at k2
   refine .inl ⟨dit.stop G2 H2 s2 S2.sub,?_⟩
   have k2:(match ς2[i]? with
    | some (some (.l,d))=>if okS i ς2=true then Out.ok (Fl.nx (ς2.set i (some (.o,d)))) else .stuck
    | _=>.stuck).post (FlK C G W) C.XD:=k2
   rw[hsl2]at k2
   obtain⟨hok2,k2⟩:=Qbl k2
   obtain⟨G5,S5,g5⟩:=StR.unreb N2 S2 hok2 hsl2
   exact(show FlK C G W (.nx _) from k2) σ' H2 G5 S5 ((b1.trans s2).trans g5)
 ·exact k.elim
end
def dShr:D->D->Out D:=dI (fun _ j=>decide (0<=j)) fun i j=>.int (i / 2 ^ j.toNat)
def dShl:D->D->Out D:=dI (fun i j=>decide (0<=j)&&decide (j<=1000000)&&decide (i.natAbs<2 ^ 64)) fun i j=>.int (i * 2 ^ j.toNat)
section
variable{C:Dc}{a b:Expr}{A B:SD->Out D}{pos:Pos}
theorem QuH(ha:DB C a A)(hb:DB C b B):DE C (.BinOp a .RShift b pos) (e2 dShr A B):=de_op Qur (QfB fun i j h=>of_decide_eq_true h) (Qd9 fun _ _=>rfl) ha hb
theorem QqA(ha:DB C a A)(hb:DB C b B):DE C (.BinOp a .LShift b pos) (e2 dShl A B):=de_op Qvf (QfB fun i j h=>by
 rw[Bool.and_eq_true,Bool.and_eq_true]at h
 exact⟨of_decide_eq_true h.1.1,of_decide_eq_true h.1.2,of_decide_eq_true h.2⟩) (Qd9 fun _ _=>rfl) ha hb
theorem Que{i j:Int}(h:0<=j):dShr (.int i) (.int j)=.ok (.int (i / 2 ^ j.toNat)):=by
 show(if _=true then Out.ok (D.int (i / 2 ^ j.toNat)) else Out.stuck)=_
 rw[if_pos (decide_eq_true h)]
theorem Qs8{i j:Int}(h:(decide (0<=j)&&decide (j<=1000000)&&decide (i.natAbs<2 ^ 64))=true):dShl (.int i) (.int j)=.ok (.int (i * 2 ^ j.toNat)):=by
 show(if _=true then Out.ok (D.int (i * 2 ^ j.toNat)) else Out.stuck)=_
 rw[if_pos h]
end
end DL
namespace DL
open PySem PySem.Spec PyProof.Rows L2
theorem Qa0{i j:Int}(h:0<j):dMod (.int i) (.int j)=.ok (.int (i % j)):=by
 show(if decide (j≠0)=true then Out.ok (D.int (i.fmod j)) else Out.stuck)=_
 rw[if_pos (decide_eq_true (by omega)),Int.fmod_eq_emod_of_nonneg i (by omega)]
theorem Qry{j:Int}{n:Nat}(h:j.natAbs<2 ^ n)(hn:n<=9000):big j=true:=decide_eq_true (Nat.lt_of_lt_of_le h (Nat.pow_le_pow_right (by decide) hn))
theorem Qr5{i j:Int}(h:j≠0)(hb:big j=true):dFdiv (.int i) (.int j)=.ok (.int (i.fdiv j)):=by
 show(if (decide (j≠0)&&big j)=true then Out.ok (D.int (i.fdiv j)) else Out.stuck)=_
 rw[if_pos (by rw[hb,decide_eq_true h];rfl)]
theorem QjP{i j:Int}(h:0<j)(hb:big j=true):dFdiv (.int i) (.int j)=.ok (.int (i / j)):=by
 rw[Qr5 (by omega) hb,Int.fdiv_eq_ediv_of_nonneg i (by omega)]
theorem QcY{i:Int}{n:Nat}(h:i.natAbs<2 ^ n):bitsI i<=n:=PySem.intBits_le_iff.mpr h
theorem Qeb{i:Int}{n:Nat}(h:bitsI i<=n):i.natAbs<2 ^ n:=PySem.intBits_le_iff.mp h
theorem QsI{i j:Int}(h:bitsI i+bitsI j<=134217728):dMul (.int i) (.int j)=.ok (.int (i * j)):=by
 show(if decide (bitsI i+bitsI j<=134217728)=true then Out.ok (D.int (i * j)) else Out.stuck)=_
 rw[if_pos (decide_eq_true h)]
theorem Qoz{i j:Int}{m n:Nat}(hi:bitsI i<=m)(hj:bitsI j<=n)(h:m+n<=134217728):dMul (.int i) (.int j)=.ok (.int (i * j)):=QsI (by omega)
theorem QY(i j:Int):dAdd (.int i) (.int j)=.ok (.int (i+j)):=rfl
theorem Qel(i j:Int):dSub (.int i) (.int j)=.ok (.int (i - j)):=rfl
theorem Qc8(i:Int):dNeg (.int i)=.ok (.int (-i)):=rfl
theorem Qes(i:Int):dAbs (.int i)=.ok (.int (i.natAbs:Int)):=by
 show Out.ok (D.int (if i<0 then -i else i))=_
 congr 2;split<;>omega
theorem Qc6(i j:Int):dLt (.int i) (.int j)=.ok (.bl (decide (i<j))):=rfl
theorem Qfr(i j:Int):dLe (.int i) (.int j)=.ok (.bl (decide (i<=j))):=rfl
theorem QfA(i j:Int):dGt (.int i) (.int j)=.ok (.bl (decide (j<i))):=rfl
theorem QfK(i j:Int):dGe (.int i) (.int j)=.ok (.bl (decide (j<=i))):=rfl
theorem Qtw{i j:Int}(h:(decide (0<=j)&&decide (j<=1000000)&&decide (i.natAbs<2 ^ 64))=true):dPow (.int i) (.int j)=.ok (.int (i ^ j.toNat)):=by
 show(if _=true then Out.ok (D.int (i ^ j.toNat)) else Out.stuck)=_
 rw[if_pos h]
mutual
def layD:D->Bool
 | .non=>true
 | .bl _=>true
 | .int _=>true
 | .str x=>PyData.strOk x
 | .lst xs=>layDs xs
 | .tup xs=>layDs xs
 | _=>false
def layDs:List D->Bool
 | []=>true
 | x::xs=>layD x&&layDs xs
end
mutual
def dep:D->Nat
 | .lst xs=>deps xs+1
 | .tup xs=>deps xs+1
 | _=>0
def deps:List D->Nat
 | []=>0
 | x::xs=>max (dep x) (deps xs)
end
mutual
theorem Qln:∀ d:D,layD d=true->d.py.canLay0=true
 | .non,_=>rfl
 | .bl _,_=>rfl
 | .int _,_=>rfl
 | .str x,h=>h
 | .lst xs,h=>Qi4 xs h
 | .tup xs,h=>Qi4 xs h
theorem Qi4:∀ ds:List D,layDs ds=true->PyData.canLayAll0 (D.pys ds)=true
 | [],_=>rfl
 | x::xs,h=>by
  rw[layDs,Bool.and_eq_true]at h
  rw[D.pys,PyData.canLayAll0,Bool.and_eq_true]
  exact⟨Qln x h.1,Qi4 xs h.2⟩
end
mutual
theorem Qrg:∀ d:D,layD d=true->d.py.depth=dep d
 | .non,_=>rfl
 | .bl _,_=>rfl
 | .int _,_=>rfl
 | .str x,h=>rfl
 | .lst xs,h=>by rw[D.py,PyData.depth,dep,QiB xs h]
 | .tup xs,h=>by rw[D.py,PyData.depth,dep,QiB xs h]
theorem QiB:∀ ds:List D,layDs ds=true->PyData.depthAll (D.pys ds)=deps ds
 | [],_=>rfl
 | x::xs,h=>by
  rw[layDs,Bool.and_eq_true]at h
  rw[D.pys,PyData.depthAll,deps,Qrg x h.1,QiB xs h.2]
end
theorem QhY{d:D}(h:layD d=true)(hd:dep d<=64):shp d=true:=by
 unfold shp SeqAt.shaped
 rw[Qln d h,Qrg d h]
 simpa using hd
theorem QgY(i:Int):shp (.int i)=true:=QhY rfl (Nat.zero_le _)
theorem Qrv{x y:D}(hx:shp x=true)(hy:shp y=true):dEq x y=.ok (.bl (PyData.eqv x.py y.py)):=by
 unfold dEq;rw[hx,hy];rfl
theorem Qqj{x y:D}(hx:shp x=true)(hy:shp y=true):dNe x y=.ok (.bl (!PyData.eqv x.py y.py)):=by
 unfold dNe;rw[hx,hy];rfl
theorem QoJ(i j:Int):(i == j)=decide (i=j):=by
 by_cases h:i=j
 ·subst h;simp
 ·simp[h]
theorem QbM(i j:Int):dEq (.int i) (.int j)=.ok (.bl (decide (i=j))):=by
 rw[Qrv (QgY i) (QgY j), ← QoJ]
 rfl
theorem Qea(i j:Int):dNe (.int i) (.int j)=.ok (.bl (!decide (i=j))):=by
 rw[Qqj (QgY i) (QgY j), ← QoJ]
 rfl
theorem Qjr{body:D->SD->Out Fl}{P:SD->Prop}{xs:List D}(h:∀ x∈xs,∀ ς,P ς->∃ ς',body x ς=.ok (.nx ς')/\P ς'):∀ ς,P ς->∃ ς',loopD body xs ς=.ok (.nx ς')/\P ς':=by
 induction xs with
 | nil=>intro ς p;exact⟨ς,rfl,p⟩
 | cons x xs ih=>
  intro ς p
  obtain⟨ς1,e1,p1⟩:=h x List.mem_cons_self ς p
  obtain⟨ς2,e2,p2⟩:=ih (fun y hy=>h y (List.mem_cons_of_mem _ hy)) ς1 p1
  refine⟨ς2,?_,p2⟩
  rw[loopD,e1]
  exact e2
theorem Qbi{n:Nat}(h:n<=1000:=by decide):fits n=true:=decide_eq_true (Nat.le_trans h (by decide))
theorem ixL{xs:List D}{x:D}(k:Nat)(h:xs[k]?=some x):dIx (.lst xs) (.int (k:Int))=.ok x:=by
 show optO (atI xs (k:Int))=_
 rw[QtU h];rfl
theorem Qvq{α:Type}(xs:List α)(k:Nat):cutD xs none (some (k:Int))=xs.take k:=by
 unfold cutD
 rw[HT.sIx_none,HT.sIx_nat,List.drop_zero,Nat.sub_zero]
 by_cases h:k<=xs.length
 ·rw[Nat.min_eq_left h]
 ·rw[Nat.min_eq_right (by omega),List.take_of_length_le (Nat.le_refl _),List.take_of_length_le (by omega)]
theorem Quq{α:Type}(xs:List α)(i k:Nat):cutD xs (some (i:Int)) (some (k:Int))=(xs.drop i).take (k - i):=by
 unfold cutD
 rw[HT.sIx_nat,HT.sIx_nat]
 by_cases h:i<=xs.length
 ·rw[Nat.min_eq_left h]
  by_cases h2:k<=xs.length
  ·rw[Nat.min_eq_left h2]
  ·rw[Nat.min_eq_right (by omega),List.take_of_length_le (by rw[List.length_drop];exact Nat.le_refl _),List.take_of_length_le (by rw[List.length_drop];omega)]
 ·rw[show min i xs.length=xs.length by omega,List.drop_length,List.drop_eq_nil_of_le (by omega:xs.length<=i)];simp
theorem QtL{xs ys:List D}(h:xs.length+ys.length<=1000):dCat (.lst xs) (.lst ys)=.ok (.lst (xs++ys)):=by
 show(if fits _=true then _ else _)=_
 rw[if_pos (Qbi h)]
theorem Qfv{g:D->SD->Out SD}{its:SD->Out (List D)}{T:SD->Out Fl}{ς:SD}{xs:List D}{r:Out Fl}(h:its ς=.ok xs)(hL:loopD (fun x ς=>g x ς>>=fun ς'=>T ς') xs ς=r):sFor g its T ς=r:=by
 unfold sFor
 rw[h];exact hL
theorem QpX{body:D->SD->Out Fl}{P:SD->Prop}{n:Nat}(h:∀ k:Nat,k<n->∀ ς,P ς->∃ ς',body (.int (k:Int)) ς=.ok (.nx ς')/\P ς')(ς:SD)(hp:P ς):∃ ς',loopD body (QaY 0 n) ς=.ok (.nx ς')/\P ς':=
 Qjr (fun x hx ς p=>by
  unfold QaY at hx
  obtain⟨i,hi,rfl⟩:=List.mem_map.mp hx
  have:=h i (List.mem_range.mp hi) ς p
  rwa [Int.zero_add]) ς hp
theorem QbC{A:SD->Out D}{ς:SD}(m:Nat)(h:A ς=.ok (.int (m:Int)))(hm:m<=1000000):itR1 A ς=.ok (QaY 0 m):=by
 have hs:QfF (m:Int)=true:=by
  unfold QfF
  rw[Bool.and_eq_true]
  exact⟨decide_eq_true (by omega),decide_eq_true (by omega)⟩
 unfold itR1
 rw[h,Out.bind_ok]
 simp only[hs,if_true,Int.toNat_natCast]
end DL
namespace DL
open PySem PySem.Spec PyProof.Rows L2
theorem Qnw{body:D->SD->Out Fl}{P:Nat->SD->Prop}{n:Nat}(h:∀ k:Nat,k<n->∀ ς,P k ς->∃ ς',body (.int (k:Int)) ς=.ok (.nx ς')/\P (k+1) ς'):∀ ς,P 0 ς->∃ ς',loopD body (QaY 0 n) ς=.ok (.nx ς')/\P n ς':=by
 have key:∀(j:Nat)(k:Nat),k+j=n->∀ ς,P k ς->∃ ς',loopD body ((List.range' k j).map fun(i:Nat)=>D.int ((0:Int)+i)) ς=.ok (.nx ς')/\P n ς':=by
  intro j
  induction j with
  | zero=>
   intro k hk ς p
   have:k=n:=by omega
   subst this
   exact⟨ς,rfl,p⟩
  | succ j ih=>
   intro k hk ς p
   obtain⟨ς1,e1,p1⟩:=h k (by omega) ς p
   obtain⟨ς2,e2,p2⟩:=ih (k+1) (by omega) ς1 p1
   refine⟨ς2,?_,p2⟩
   rw[List.range'_succ,List.map_cons,loopD,Int.zero_add,e1]
   exact e2
 intro ς p
 have:=key n 0 (by omega) ς p
 unfold QaY
 rw[List.range_eq_range']
 exact this
theorem Qmr{f:D->Out (Option D)}{h:D->Option D}:∀{xs:List D},(∀ x∈xs,f x=.ok (h x))->compM f xs=.ok (xs.filterMap h)
 | [],_=>rfl
 | x::xs,hf=>by
  rw[compM,hf x List.mem_cons_self,Out.bind_ok,Qmr (xs:=xs) (fun y hy=>hf y (List.mem_cons_of_mem _ hy)),Out.bind_ok,List.filterMap_cons]
  cases h x<;>rfl
theorem Qjv{α:Type}(f:α->Bool):∀ xs:List α,blsOf (xs.map fun x=>D.bl (f x))=some (xs.map f)
 | []=>rfl
 | x::xs=>by rw[List.map_cons,blsOf,Qjv f xs];rfl
theorem Qk0{α:Type}(f:α->Bool)(xs:List α):fAll (.lst (xs.map fun x=>D.bl (f x)))=.ok (.bl (xs.all f)):=by
 rw[fAll,Qjv]
 show Out.ok (D.bl ((xs.map f).all id))=_
 rw[List.all_map];rfl
theorem QfN{n:Nat}(h:n<=1000):fits n=true:=Qbi h
end DL
namespace DL
open PySem PySem.Spec L2
section
variable{i j:Nat}{d x y:D}{m:SM}{ς ς' ς1:SD}{E A B:SD->Out D}{AA:SD->Out (List D)}{f:D->Out D}{g:D->D->Out D}{h:List D->Out D}{r:Out D}{xs ys:List D}{T U:SD->Out Fl}{P Q:SD->Out Bool}{b c:Bool}{fl:Fl}{rf:Out Fl}{rb:Out Bool}
theorem r_var(e:ς[i]?=some (some (.k,d))):eVar i ς=.ok d:=by unfold eVar;rw[e]
theorem r_C:eC d ς=.ok d:=rfl
theorem r_e1(a:A ς=.ok x)(k:f x=r):e1 f A ς=r:=by unfold e1;rw[a];exact k
theorem r_e2(a:A ς=.ok x)(a':B ς=.ok y)(k:g x y=r):e2 g A B ς=r:=by unfold e2;rw[a,Out.bind_ok,a'];exact k
theorem r_eA(a:AA ς=.ok xs)(k:h xs=r):eA h AA ς=r:=by unfold eA;rw[a];exact k
theorem Qac{dd:List D}(a:AA ς=.ok xs)(e:xs++dd=ys)(k:h ys=r):eA (fun xs=>h (xs++dd)) AA ς=r:=by unfold eA;rw[a];show h (xs++dd)=r;rw[e];exact k
theorem r_nil:aNil ς=.ok []:=rfl
theorem Qj(a:A ς=.ok x)(k:AA ς=.ok xs):aCons A AA ς=.ok (x::xs):=by unfold aCons;rw[a,Out.bind_ok,k];rfl
theorem r_tup(a:AA ς=.ok xs)(k:xs.length<=1000):eTup AA ς=.ok (.tup xs):=by unfold eTup;rw[a,Out.bind_ok,if_pos (QfN k)]
theorem r_lst(a:AA ς=.ok xs)(k:xs.length<=1000):eLst AA ς=.ok (.lst xs):=by unfold eLst;rw[a,Out.bind_ok,if_pos (QfN k)]
theorem QX(a:A ς=.ok (.bl b)):tVal A ς=.ok b:=by unfold tVal;rw[a];rfl
theorem QhV(a:P ς=.ok b):tNot' P ς=.ok (!b):=by unfold tNot';rw[a];rfl
theorem r_or'(a:P ς=.ok b)(k:(if b=true then .ok true else Q ς)=rb):tOr' P Q ς=rb:=by unfold tOr';rw[a];exact k
theorem Qli(a:P ς=.ok b)(k:(if b=true then Q ς else .ok false)=rb):tAnd' P Q ς=rb:=by unfold tAnd';rw[a];exact k
theorem r_eIf(a:P ς=.ok b)(k:(if b=true then A ς else B ς)=r):eIf P A B ς=r:=by unfold eIf;rw[a];exact k
theorem r_isa{F:D->Out Bool}(a:A ς=.ok x)(k:F x=.ok b):eIsa F A ς=.ok (.bl b):=by unfold eIsa;rw[a,Out.bind_ok,k];rfl
theorem Qtj{g':D->D->Out D}{E':SD->Out D}(a:A ς=.ok x)(a':B ς=.ok y)(k:g x y=.ok (.bl b))(k':(if b=true then E' ς>>=fun w=>g' y w else .ok (.bl false))=r):QbY g g' A B E' ς=r:=by unfold QbY;rw[a,Out.bind_ok,a',Out.bind_ok,k];cases b<;>exact k'
theorem Qvg{z:D}(a:E ς=.ok z)(k:f z=r):(E ς>>=fun w=>f w)=r:=by rw[a];exact k
theorem r_set(a:E ς=.ok d)(k:ς.set i (some (.k,d))=ς'):sSet i E ς=.ok (.nx ς'):=by unfold sSet;rw[a,Out.bind_ok,k]
theorem QqQ(a:E ς=.ok d)(k:ς.set i (some (.o,d))=ς'):sSetO i E ς=.ok (.nx ς'):=by unfold sSetO;rw[a,Out.bind_ok,k]
theorem r_seq(a:T ς=.ok fl)(k:thenF U fl=rf):sSeq T U ς=rf:=by unfold sSeq;rw[a];exact k
theorem Qn(k:U ς=rf):thenF U (.nx ς)=rf:=k
theorem Qbu{z:Bool}:thenF U (.rt z d)=.ok (.rt z d):=rfl
theorem r_if(a:P ς=.ok b)(k:(if b=true then T ς else U ς)=rf):sIf P T U ς=rf:=by unfold sIf;rw[a];exact k
theorem Qcw{α:Type}{u v w:α}(a:b=true)(k:u=w):(if b=true then u else v)=w:=by rw[if_pos a];exact k
theorem Qex{α:Type}{u v w:α}(a:b=false)(k:v=w):(if b=true then u else v)=w:=by subst a;exact k
theorem r_ret(a:E ς=.ok d):sRet E ς=.ok (.rt false d):=by unfold sRet;rw[a];rfl
theorem QdA(a:E ς=.ok d):sRetF E ς=.ok (.rt true d):=by unfold sRetF;rw[a];rfl
theorem Qag:sNil ς=.ok (.nx ς):=rfl
theorem QsS{n:Nat}(k:n<=1000):decide (n<sizeLine)=true:=decide_eq_true (Nat.lt_of_le_of_lt k (by decide))
theorem r_app(e:ς[i]?=some (some (.o,.lst xs)))(a:E ς=.ok d)(k:xs.length<=1000)(l:ς.set i (some (.o,.lst (xs++[d])))=ς'):Qda i E ς=.ok (.nx ς'):=by
 unfold Qda;rw[e];show(E ς>>=fun d=>if decide (xs.length<sizeLine)=true then _ else _)=_;rw[a,Out.bind_ok,if_pos (QsS k),l]
theorem r_noX{α:Type}{o:Out α}{a:α}(k:o=.ok a):noX o=.ok a:=by rw[k];rfl
theorem r_sl{l u:SD->Out (Option Int)}{p q:Option Int}(a:A ς=.ok (.lst xs))(k1:l ς=.ok p)(k2:u ς=.ok q)(e:cutD xs p q=ys):eSl A l u ς=.ok (.lst ys):=by unfold eSl;rw[a,Out.bind_ok,k1,Out.bind_ok,k2,Out.bind_ok];show Out.ok (D.lst _)=_;rw[e]
theorem r_oNo:oNo ς=.ok none:=rfl
theorem Qg3{k:Int}(a:E ς=.ok (.int k)):oSome E ς=.ok (some k):=by unfold oSome;rw[a];rfl
theorem r_ixO{k:Int}(e:ς[i]?=some (some (.o,.lst xs)))(a:A ς=.ok (.int k))(q:atI xs k=some d):eIxO i A ς=.ok d:=by
 unfold eIxO;rw[e]
 show(A ς>>=_)=_
 rw[a,Out.bind_ok]
 show optO (atI xs k)=_
 rw[q];rfl
theorem QjI:QR [] [] ς=.ok ς:=rfl
theorem Qjs{is:List Nat}{rs:Out SD}(a:ς.set i (some (.k,d))=ς1)(k:QR is ys ς1=rs):QR (i::is) (d::ys) ς=rs:=by show QR is ys (ς.set i (some (.k,d)))=rs;rw[a];exact k
theorem r_unp{is:List Nat}(a:E ς=.ok (.tup ys))(k:QR is ys ς=.ok ς'):sUnp is E ς=.ok (.nx ς'):=by unfold sUnp;rw[a,Out.bind_ok];show(QR is ys ς>>=_)=_;rw[k];rfl
theorem Qav{fr:Bool}(a:T ς=.ok fl)(k:retF fr fl=r):(T ς>>=retF fr)=r:=by rw[a];exact k
theorem r_rt{z:Bool}:retF false (.rt z d)=.ok d:=by unfold retF;simp
theorem r_rtT:retF true (.rt true d)=.ok d:=by unfold retF;simp
theorem r_gN{L:SD->Out Fl}(a:ς.set i (some (.k,d))=ς1)(k:L ς1=rf):(gN i d ς>>=fun ς'=>L ς')=rf:=by unfold gN;rw[a];exact k
theorem QfC{cl:Str}{fds:List (Str×D)}{mk:Str->List (Str×D)->List D->Out (List (Str×D))}(a:AA ς=.ok xs)(k:mk cl [] xs=.ok fds):eMake cl mk AA ς=.ok (.ins cl fds):=by unfold eMake;rw[a,Out.bind_ok,k];rfl
theorem Qtz{cs:List Str}{n cl:Str}{fds fds':List (Str×D)}{mk:Str->List (Str×D)->List D->Out (List (Str×D))}(e:ς[i]?=some (some (.s,.ins cl fds)))(k1:cs.contains cl=true)(k2:fds.lookup n=none)(a:AA ς=.ok xs)(k:mk cl fds xs=.ok fds')(l:ς.set i (some (.s,.ins cl fds'))=ς'):Qdz cs n mk i AA ς=.ok (.nx ς'):=by
 unfold Qdz;rw[e]
 show(if (cs.contains cl&&(fds.lookup n).isNone)=true then _ else _)=_
 rw[k1,k2]
 show(AA ς>>=_)=_
 rw[a,Out.bind_ok,k,Out.bind_ok,l]
theorem r_itL(a:E ς=.ok (.lst xs)):itL E ς=.ok xs:=by unfold itL;rw[a];rfl
theorem r_itZ(a:A ς=.ok (.lst xs))(a':B ς=.ok (.lst ys)):itZ A B ς=.ok (List.zipWith (fun a b=>.tup [a,b]) xs ys):=by unfold itZ;rw[a,Out.bind_ok,a'];rfl
end
theorem QuW{T:SD->Out Fl}{ς τ:SD}{c:Str}{fds:List (Str×D)}(a:T ς=.ok (.nx (some (.s,.ins c fds)::τ))):(T ς>>=QcS c)=.ok fds:=by
 rw[a];simp[QcS,QgG]
theorem c_nil{ς:SD}:captD [] ς=[]:=rfl
theorem Qqn{ς τ:SD}{js:List (Option Nat)}(k:captD js ς=τ):captD (none::js) ς=none::τ:=by rw[← k];rfl
theorem c_k{ς τ:SD}{js:List (Option Nat)}{j:Nat}{d:D}(e:ς[j]?=some (some (.k,d)))(k:captD js ς=τ):captD (some j::js) ς=some (.k,d)::τ:=by
 rw[← k];show captS ς j::_=_;unfold captS;rw[e];rfl
theorem Qax{js:List (Option Nat)}{i:Nat}{e:SD->Out D}{ς τ0 τ:SD}{x d:D}(c:captD js ς=τ0)(a:τ0.set i (some (.k,x))=τ)(k:e τ=.ok d):turnC js (gN i) cTrue e ς x=.ok (some d):=by
 unfold turnC gN cTrue
 rw[c,a,Out.bind_ok,Out.bind_ok,if_pos rfl,k];rfl
theorem Qjg{js:List (Option Nat)}{is:List Nat}{e:SD->Out D}{ς τ0 τ:SD}{xs:List D}{d:D}(c:captD js ς=τ0)(a:QR is xs τ0=.ok τ)(k:e τ=.ok d):turnC js (gT is) cTrue e ς (.tup xs)=.ok (some d):=by
 unfold turnC gT cTrue
 show((QR is xs (captD js ς))>>=_)=_
 rw[c,a,Out.bind_ok,Out.bind_ok,if_pos rfl,k];rfl
theorem Qbb{α:Type}{js:List (Option Nat)}{its:SD->Out (List D)}{g:D->SD->Out SD}{e:SD->Out D}{ς:SD}{l:List α}(f:α->D)(h:α->D)(hi:its ς=.ok (l.map f))(ht:∀ x∈l,turnC js g cTrue e ς (f x)=.ok (some (h x)))(hl:l.length<=1000):
 eComp js its g cTrue e ς=.ok (.lst (l.map h)):=by
 have go:∀ l:List α,(∀ x∈l,turnC js g cTrue e ς (f x)=.ok (some (h x)))->compM (turnC js g cTrue e ς) (l.map f)=.ok (l.map h):=by
  intro l
  induction l with
  | nil=>intro _;rfl
  | cons x xs ih=>
   intro H
   have h1:=H x (List.mem_cons_self ..)
   have h2:=ih fun y hy=>H y (List.mem_cons_of_mem _ hy)
   show compM (turnC js g cTrue e ς) (f x::xs.map f)=_
   unfold compM
   rw[h1,Out.bind_ok,h2];rfl
 unfold eComp
 rw[hi,Out.bind_ok,go l ht,Out.bind_ok,if_pos (QfN (by rw[List.length_map];exact hl))]
theorem Qcm{js:List (Option Nat)}{its:SD->Out (List D)}{g:D->SD->Out SD}{e:SD->Out D}{ς:SD}{n:Nat}(h:Nat->D)(hi:its ς=.ok (QaY 0 n))(ht:∀ k:Nat,k<n->turnC js g cTrue e ς (.int (k:Int))=.ok (some (h k)))(hl:n<=1000):
 eComp js its g cTrue e ς=.ok (.lst ((List.range n).map h)):=by
 refine Qbb (fun i:Nat=>D.int (0+(i:Int))) h hi (fun k hk=>?_) (by rw[List.length_range];exact hl)
 show turnC js g cTrue e ς (.int (0+(k:Int)))=_
 rw[Int.zero_add]
 exact ht k (List.mem_range.mp hk)
theorem QjR{js:List (Option Nat)}{its:SD->Out (List D)}{e:SD->Out D}{ς:SD}{a b:List Int}(f:Int->Int->Int)(hi:its ς=.ok (List.zipWith (fun x y=>.tup [x,y]) (a.map .int) (b.map .int)))
 (ht:∀ x∈a,∀ y∈b,turnC js (gT [0,1]) cTrue e ς (.tup [.int x,.int y])=.ok (some (.int (f x y)))) (hl:a.length<=1000):eComp js its (gT [0,1]) cTrue e ς=.ok (.lst ((List.zipWith f a b).map .int)):=by
 have hz:List.zipWith (fun x y=>D.tup [x,y]) (a.map .int) (b.map .int)=(List.zip a b).map fun p=>D.tup [.int p.1,.int p.2]:=by
  rw[List.zipWith_map,List.map_zip_eq_zipWith]
  rfl
 rw[Qbb (l:=List.zip a b) (fun p=>D.tup [.int p.1,.int p.2]) (fun p=>D.int (f p.1 p.2)) (by rw[hi,hz]) (fun p hp=>ht p.1 (List.of_mem_zip hp).1 p.2 (List.of_mem_zip hp).2) (by rw[List.length_zip];omega)]
 congr 2
 rw[List.map_zipWith,List.map_zip_eq_zipWith]
 rfl
theorem QtS{a b:Str}(ha:PyData.strOk a=true)(hb:PyData.strOk b=true):dEq (.str a) (.str b)=.ok (.bl (a == b)):=by
 rw[Qrv (QhY (d:=.str a) ha (Nat.zero_le _)) (QhY (d:=.str b) hb (Nat.zero_le _))];rfl
theorem r_get{ς:SD}{i:Nat}{m:SM}{d:D}(h:ς[i]?=some (some (m,d))):ς[i]?=some (some (m,d)):=h
theorem r_len{n:Nat}(h:n<=1000):n<=1000:=h
theorem Qvd{i:Int}{n:Nat}(h:bitsI i<=n):bitsI i<=n:=h
theorem r_dec{m n:Nat}(h:decide (m<=n)=true):decide (m<=n)=true:=h
theorem r_id{α:Type}{a b:α}(h:a=b):a=b:=h
theorem Qs5{n:Str}:List.lookup n ([]:List (Str×D))=none:=rfl
theorem Qu5{α:Type}{x:α}{xs:List α}:(x::xs)[0]?=some x:=rfl
theorem QuQ{α:Type}{x:α}{xs:List α}{n:Nat}{r:Option α}(h:xs[n]?=r):(x::xs)[n+1]?=r:=by rw[List.getElem?_cons_succ];exact h
theorem Qq1{α:Type}{x y:α}{xs:List α}:(x::xs).set 0 y=y::xs:=rfl
theorem Qru{α:Type}{x y:α}{xs ys:List α}{n:Nat}(h:xs.set n y=ys):(x::xs).set (n+1) y=x::ys:=by rw[List.set_cons_succ,h]
theorem Qu7{α:Type}{ys:List α}:[]++ys=ys:=rfl
theorem Qvl{α:Type}{x:α}{xs ys zs:List α}(h:xs++ys=zs):x::xs++ys=x::zs:=by rw[List.cons_append,h]
theorem Qrq{i:Int}(h:decide (i.natAbs<2 ^ 300)=true):bitsI i<=300:=QcY (of_decide_eq_true h)
theorem QuZ{i j:Int}{m n:Nat}(a:bitsI i<=m)(b:bitsI j<=n):bitsI (i+j)<=m+n+1:=by
 have a:=Qeb a
 have b:=Qeb b
 refine QcY ?_
 have c1:2 ^ m<=2 ^ (m+n):=Nat.pow_le_pow_right (by decide) (by omega)
 have c2:2 ^ n<=2 ^ (m+n):=Nat.pow_le_pow_right (by decide) (by omega)
 rw[Nat.pow_succ]
 omega
theorem Qux{i j:Int}{m n:Nat}(a:bitsI i<=m)(b:bitsI j<=n):bitsI (i * j)<=m+n:=by
 have a:=Qeb a
 have b:=Qeb b
 refine QcY ?_
 rw[Int.natAbs_mul,Nat.pow_add]
 exact Nat.mul_lt_mul'' a b
theorem Qvu{i j:Int}{n:Nat}(h:0<j)(b:bitsI j<=n):bitsI (i % j)<=n:=by
 have b:=Qeb b
 have h1:=Int.emod_nonneg i (show j≠0 by omega)
 have h2:=Int.emod_lt_of_pos i h
 exact QcY (by omega)
theorem r_mul{i j:Int}{m n:Nat}(hi:bitsI i<=m)(hj:bitsI j<=n)(h:decide (m+n<=134217728)=true):dMul (.int i) (.int j)=.ok (.int (i * j)):=Qoz hi hj (of_decide_eq_true h)
theorem Qqb{i j:Int}{n:Nat}(h:0<j)(hj:bitsI j<=n)(hn:decide (n<=9000)=true):dFdiv (.int i) (.int j)=.ok (.int (i / j)):=QjP h (Qry (Qeb hj) (of_decide_eq_true hn))
end DL
namespace PySem.StrLaws
open Builtin Builtin.Str
def MxTo(s sub:Str)(hi b:Nat):Nat->List Nat->Nat->Prop
 | a,[],f=>f=a/\∀ i,a<=i->i<b->¬ At s sub hi i
 | a,c::r,f=>a<=c/\At s sub hi c/\(∀ i,a<=i->i<c->¬ At s sub hi i)/\MxTo s sub hi b (c+sub.length) r f
theorem QoD{s sub:Str}{hi i:Nat}(hl:0<sub.length)(hi':At s sub hi i):∀{a:Nat}{cuts:List Nat}{f:Nat},MxTo s sub hi i a cuts f->f<=i->MxTo s sub hi (i+1) a (cuts++[i]) (i+sub.length)
 | a,[],f,⟨e,h⟩,hf=>⟨by omega,hi',fun k h1 h2=>h k (by omega) h2,rfl,fun k h1 h2=>by omega⟩
 | a,c::r,f,⟨h1,h2,h3,h4⟩,hf=>⟨h1,h2,h3,QoD hl hi' h4 hf⟩
theorem QoI{s sub:Str}{hi i:Nat}:∀{a:Nat}{cuts:List Nat}{f:Nat},MxTo s sub hi i a cuts f->¬ (f<=i/\At s sub hi i)->MxTo s sub hi (i+1) a cuts f
 | a,[],f,⟨e,h⟩,hf=>⟨e,fun k h1 h2=>by
  by_cases hk:k=i
  ·subst hk;exact fun z=>hf ⟨by omega,z⟩
  ·exact h k h1 (by omega)⟩
 | a,c::r,f,⟨h1,h2,h3,h4⟩,hf=>⟨h1,h2,h3,QoI h4 hf⟩
theorem QlL(s sub:Str)(hi limit lo:Nat)(hl:0<sub.length):∀(m i:Nat)(st:Array Nat×Nat),st.fst.size<=i->i+m<=limit->MxTo s sub hi i lo st.fst.toList st.snd->
 MxTo s sub hi (i+m) lo (forIn (List.range' i m) st (occBody s sub hi limit)).run.fst.toList (forIn (List.range' i m) st (occBody s sub hi limit)).run.snd
 | 0,i,st,_,_,h=>h
 | m+1,i,st,hs,hlim,h=>by
  rw[List.range'_succ,List.forIn_cons]
  unfold occBody
  split
  ·rename_i hc
   have:=QlL s sub hi limit lo hl m (i+1) (st.fst.push i,i+sub.length) (by rw[Array.size_push];omega) (by omega) (by
    show MxTo s sub hi (i+1) lo (st.fst.push i).toList (i+sub.length)
    rw[Array.toList_push]
    exact QoD hl ⟨hc.1.2,hc.2⟩ h hc.1.1.2)
   rw[show i+(m+1)=i+1+m by omega]
   exact this
  ·rename_i hc
   have:=QlL s sub hi limit lo hl m (i+1) st (by omega) (by omega) (QoI h fun z=>hc ⟨⟨⟨by omega,z.1⟩,z.2.1⟩,z.2.2⟩)
   rw[show i+(m+1)=i+1+m by omega]
   exact this
theorem QoX(x y:Str)(hl:0<y.length):∃ f,MxTo x y x.length (x.length+1) 0 (occurrences x y 0 x.length (x.length+1)) f:=by
 rw[occ_eq]
 have:=QlL x y x.length (x.length+1) 0 hl (x.length+1) 0 (#[],0) (by simp) (by omega) ⟨rfl,fun i h1 h2=>by omega⟩
 rw[Nat.zero_add]at this
 exact⟨_,this⟩
theorem QmJ{x y:Str}{c:Nat}(hc:∀ i:Nat,x.cps.toList[i]?=some c->At x y x.length i):∀{cuts:List Nat}{a f:Nat},MxTo x y x.length (x.length+1) a cuts f->∀ q∈partsFrom x y.length a cuts,c∉q.cps.toList
 | [],a,f,⟨_,h⟩,q,hq,hm=>by
  rw[show partsFrom x y.length a []=[strSub x a x.length] from rfl,List.mem_singleton]at hq
  subst hq
  rw[strSub_toList]at hm
  obtain⟨i,hi⟩:=List.mem_iff_getElem?.mp (List.mem_of_mem_take hm)
  rw[List.getElem?_drop]at hi
  have:=hc _ hi
  have hl:=this.1
  exact h (a+i) (by omega) (by omega) this
 | c'::r,a,f,⟨h1,h2,h3,h4⟩,q,hq,hm=>by
  rw[show partsFrom x y.length a (c'::r)=strSub x a c'::partsFrom x y.length (c'+y.length) r from rfl]at hq
  rcases List.mem_cons.mp hq with rfl | hq
  ·rw[strSub_toList]at hm
   obtain⟨i,hi⟩:=List.mem_iff_getElem?.mp hm
   rw[List.getElem?_take]at hi
   split at hi
   ·rename_i hlt
    rw[List.getElem?_drop]at hi
    exact h3 (a+i) (by omega) (by omega) (hc _ hi)
   ·cases hi
  ·exact QmJ hc h4 q hq hm
theorem ahead{c:Nat}:∀{p q R S:List Nat},c∉p->c∉q->(R=[]∨R.head?=some c)->(S=[]∨S.head?=some c)->p++R=q++S->p=q/\R=S
 | [],[],R,S,_,_,_,_,h=>⟨rfl,h⟩
 | [],b::q,R,S,_,hq,hR,_,h=>by
  rw[List.nil_append]at h
  subst h
  rcases hR with hR | hR
  ·cases hR
  ·rw[List.cons_append,List.head?_cons]at hR
   cases hR
   exact absurd (List.mem_cons_self ..) hq
 | a::p,[],R,S,hp,_,_,hS,h=>by
  rw[List.nil_append]at h
  subst h
  rcases hS with hS | hS
  ·cases hS
  ·rw[List.cons_append,List.head?_cons]at hS
   cases hS
   exact absurd (List.mem_cons_self ..) hp
 | a::p,b::q,R,S,hp,hq,hR,hS,h=>by
  rw[List.cons_append,List.cons_append]at h
  injection h with h1 h2
  obtain⟨h3,h4⟩:=ahead (fun z=>hp (List.mem_cons_of_mem _ z)) (fun z=>hq (List.mem_cons_of_mem _ z)) hR hS h2
  exact⟨by rw[h1,h3],h4⟩
theorem QbF(y p q:Str)(r:List Str):(Str.join y (p::q::r)).cps.toList=p.cps.toList++(y.cps.toList++(Str.join y (q::r)).cps.toList):=by
 show(p++y++Str.join y (q::r)).cps.toList=_
 simp[Str.cps_append]
theorem QgW{a b:Str}(h:a.cps.toList=b.cps.toList):a=b:=Str.ext' (Array.toList_inj.mp h)
theorem QhJ{y:Str}{c:Nat}{y':List Nat}(hy:y.cps.toList=c::y'):∀{ps qs:List Str},ps≠[]->qs≠[]->(∀ p∈ps,c∉p.cps.toList)->(∀ p∈qs,c∉p.cps.toList)->Str.join y ps=Str.join y qs->ps=qs
 | [p],[q],_,_,_,_,h=>by
  have h:p=q:=h
  rw[h]
 | [p],q::q2::qs,_,_,hp,hq,h=>by
  have h:=congrArg (fun s:Str=>s.cps.toList) h
  rw[QbF,hy]at h
  have h:p.cps.toList++[]=_:=(List.append_nil _).trans h
  have:=(ahead (c:=c) (hp p (List.mem_cons_self ..)) (hq q (List.mem_cons_self ..)) (.inl rfl) (.inr (by simp)) h).2
  simp at this
 | p::p2::ps,[q],_,_,hp,hq,h=>by
  have h:=congrArg (fun s:Str=>s.cps.toList) h
  rw[QbF,hy]at h
  have h:_=q.cps.toList++[]:=h.trans (List.append_nil _).symm
  have:=(ahead (c:=c) (hp p (List.mem_cons_self ..)) (hq q (List.mem_cons_self ..)) (.inr (by simp)) (.inl rfl) h).2
  simp at this
 | p::p2::ps,q::q2::qs,_,_,hp,hq,h=>by
  have h:=congrArg (fun s:Str=>s.cps.toList) h
  rw[QbF,QbF,hy]at h
  obtain⟨h1,h2⟩:=ahead (c:=c) (hp p (List.mem_cons_self ..)) (hq q (List.mem_cons_self ..)) (.inr (by simp)) (.inr (by simp)) h
  have h3:=List.append_cancel_left h2
  rw[QgW h1,QhJ hy (by simp) (by simp) (fun z hz=>hp z (List.mem_cons_of_mem _ hz)) (fun z hz=>hq z (List.mem_cons_of_mem _ hz)) (QgW h3)]
theorem QoB{y:Str}{c:Nat}{y':List Nat}(hy:y.cps.toList=c::y')(hc:c∉y'):∀{ps:List Str},(∀ p∈ps,c∉p.cps.toList)->∀ i:Nat,(Str.join y ps).cps.toList[i]?=some c->((Str.join y ps).cps.toList.drop i).take y.cps.toList.length=y.cps.toList/\i+y.cps.toList.length<=(Str.join y ps).cps.toList.length
 | [],_,i,h=>by
  have h:([]:List Nat)[i]?=some c:=h
  simp at h
 | [p],hp,i,h=>absurd (List.mem_of_getElem? (show p.cps.toList[i]?=some c from h)) (hp p (List.mem_cons_self ..))
 | p::q::r,hp,i,h=>by
  rw[QbF]at h ⊢
  have hpn:=hp p (List.mem_cons_self ..)
  by_cases h1:i<p.cps.toList.length
  ·rw[List.getElem?_append_left h1]at h
   exact absurd (List.mem_of_getElem? h) hpn
  ·rw[List.getElem?_append_right (by omega)]at h
   generalize hk:i - p.cps.toList.length=k at h
   have hik:i=p.cps.toList.length+k:=by omega
   subst hik
   rw[List.drop_append,List.drop_eq_nil_of_le (by omega),List.nil_append,show p.cps.toList.length+k - p.cps.toList.length=k by omega]
   by_cases h2:k<y.cps.toList.length
   ·rw[List.getElem?_append_left h2,hy]at h
    cases k with
    | zero=>refine⟨by simp,by simp⟩
    | succ k=>
     rw[List.getElem?_cons_succ]at h
     exact absurd (List.mem_of_getElem? h) hc
   ·rw[List.getElem?_append_right (by omega)]at h
    obtain⟨h3,h4⟩:=QoB hy hc (fun z hz=>hp z (List.mem_cons_of_mem _ hz)) _ h
    rw[List.drop_append,List.drop_eq_nil_of_le (by omega),List.nil_append]
    refine⟨h3,?_⟩
    simp only[List.length_append]
    omega
theorem split_join{y:Str}{c:Nat}{y':List Nat}(hy:y.cps.toList=c::y')(hc:c∉y')(hk:Builtin.Str.strKind y=1){ps:List Str}(hne:ps≠[])(hp:∀ p∈ps,c∉p.cps.toList):Txt.split (Txt.join y ps) y=ps:=by
 rw[show Txt.join y ps=Str.join y ps from glued_eq_join y ps]
 generalize hx:Str.join y ps=x
 have hlen:∀ z:Str,z.length=z.cps.toList.length:=fun z=>by simp[Str.length]
 have hat:∀ i:Nat,x.cps.toList[i]?=some c->At x y x.length i:=fun i h=>by
  rw[← hx]at h
  obtain⟨h1,h2⟩:=QoB hy hc hp i h
  rw[hx]at h1 h2
  refine⟨by rw[hlen,hlen];exact h2,?_⟩
  rw[subAt_eq,hlen,h1]
  simp
 have hyl:0<y.length:=by rw[hlen,hy];simp
 have hno:c∉x.cps.toList->Txt.split x y=ps:=fun hn=>by
  have hs:ps=[x]:=QhJ hy hne (by simp) hp (by simpa using hn) hx
  rw[hs]
  unfold Txt.split
  split
  ·rfl
  ·split
   ·rfl
   ·rename_i hz
    obtain⟨f,hm⟩:=QoX x y hyl
    cases ho:occurrences x y 0 x.length (x.length+1) with
    | nil=>rw[ho]at hz;simp at hz
    | cons a r=>
     rw[ho]at hm
     have h2:=hm.2.1
     have h3:=h2.2
     rw[subAt_eq,hlen]at h3
     have h4:=eq_of_beq h3
     rw[hy]at h4
     exact absurd (List.mem_of_mem_drop (List.mem_of_mem_take (by rw[h4];exact List.mem_cons_self ..))) hn
 by_cases hn:c∈x.cps.toList
 ·refine QhJ hy ?_ hne ?_ hp ((join_split x y).trans hx.symm)
  ·unfold Txt.split
   split
   ·simp
   ·split
    ·simp
    ·rw[partsBetween_eq]
     obtain⟨p,r,e⟩:=partsFrom_ne x y.length 0 (occurrences x y 0 x.length (x.length+1))
     rw[e];simp
  ·obtain⟨i,hi⟩:=List.mem_iff_getElem?.mp hn
   have h1:=hat i hi
   obtain⟨f,hm⟩:=QoX x y hyl
   have hk1:1<=Builtin.Str.strKind x:=by unfold Builtin.Str.strKind;split<;>(try split)<;>omega
   unfold Txt.split
   rw[if_neg (by rw[hk];have:=h1.1;simp;omega)]
   split
   ·rename_i hz
    rw[List.isEmpty_iff]at hz
    rw[hz]at hm
    exact absurd h1 (hm.2 i (Nat.zero_le _) (by have:=h1.1;omega))
   ·rw[partsBetween_eq]
    exact QmJ hat hm
 ·exact hno hn
end PySem.StrLaws
namespace PySem.StrLaws
open Builtin Builtin.Str
theorem mem_join{y:Str}{c:Nat}:∀{ps:List Str},c∈(Str.join y ps).cps.toList->c∈y.cps.toList∨∃ p∈ps,c∈p.cps.toList
 | [],h=>by
  have h:c∈([]:List Nat):=h
  cases h
 | [p],h=>.inr ⟨p,List.mem_cons_self ..,h⟩
 | p::q::r,h=>by
  rw[QbF]at h
  rcases List.mem_append.mp h with h | h
  ·exact .inr ⟨p,List.mem_cons_self ..,h⟩
  ·rcases List.mem_append.mp h with h | h
   ·exact .inl h
   ·rcases mem_join h with h | ⟨z,hz,h⟩
    ·exact .inl h
    ·exact .inr ⟨z,List.mem_cons_of_mem _ hz,h⟩
theorem part_cat{w r:Str}{c:Nat}(hw:c∉w.cps.toList):DL.partF (w++(⟨#[c]⟩:Str)++r) ⟨#[c]⟩=(w,⟨#[c]⟩,r):=by
 have hx:(w++(⟨#[c]⟩:Str)++r).cps.toList=w.cps.toList++c::r.cps.toList:=by simp[Str.cps_append]
 generalize w++(⟨#[c]⟩:Str)++r=x at hx
 have hlen:∀ z:Str,z.length=z.cps.toList.length:=fun z=>by simp[Str.length]
 have hat:∀ i,At x ⟨#[c]⟩ x.length i↔x.cps.toList[i]?=some c:=fun i=>subAt_one x c i
 have h0:At x ⟨#[c]⟩ x.length w.cps.toList.length:=(hat _).mpr (by rw[hx,List.getElem?_append_right (by omega)];simp)
 unfold DL.partF
 rcases occ_head x ⟨#[c]⟩ 1 (by omega) with⟨_,h⟩ | ⟨i,t,e,h1,h2⟩
 ·exact absurd h0 (h _)
 ·have hi:i=w.cps.toList.length:=by
   rcases Nat.lt_trichotomy i w.cps.toList.length with hlt | heq | hgt
   ·have h3:=(hat i).mp h1
    rw[hx,List.getElem?_append_left hlt]at h3
    exact absurd (List.mem_of_getElem? h3) hw
   ·exact heq
   ·exact absurd h0 (h2 _ hgt)
  rw[e]
  subst hi
  show(strSub x 0 w.cps.toList.length,(⟨#[c]⟩:Str),strSub x (w.cps.toList.length+1) x.length)=_
  have e1:strSub x 0 w.cps.toList.length=w:=QgW (by rw[strSub_toList,hx];simp)
  have e2:strSub x (w.cps.toList.length+1) x.length=r:=QgW (by
   rw[strSub_toList,hlen,hx,List.drop_append,List.drop_eq_nil_of_le (by omega),List.nil_append,show w.cps.toList.length+1 - w.cps.toList.length=1 by omega]
   simp only[List.drop_succ_cons,List.drop_zero]
   rw[List.take_of_length_le]
   simp only[List.length_append,List.length_cons]
   omega)
  rw[e1,e2]
end PySem.StrLaws
set_option maxHeartbeats 4000000
namespace My
open PySem PySem.Spec L2 DL
set_option hygiene false
local macro_rules
 | `("e"^$q $s $k $b) => `(DefOk P w K mg base CT $s $k $b [] $q)
 | `("f"^$k $l $b $q) => `(FnOk P w K mg base CX0 $k f fd $l (SpD K CT $b $q))
set_option hygiene true
theorem gr{X:Cx}{x:Str}(h:Gl X x:=by rfl):Gl X x:=h
theorem Rm{k k1:Nat}{A:Around}(h:Room k1 A)(e:k<=k1:=by decide):Room k A:=h.mono e
def top(i:Nat):Stmt:=PySem.Challenge.pw_dockethall_k16_whole_handlings_in_parts.main.body.getD i (.Pass ⟨0,0,0,0⟩)
def Qb:List Str:=["Deal","Bundle","Copy","Rows"]
noncomputable section
variable{P:Program}{w:World}{K:PySem.W.Frag}{mg:Str->Option Value}{base:Heap}{CT:CTab}{f:Addr}{fd:FuncData}{dV:Value}
abbrev QgM:Stmt:=top 29
theorem QfR:Qm ["_law_cell","_law_k","_law_number"] ["_law_cell","_law_k"] (Qd QgM):=⟨rfl,rfl,rfl,dk,rfl,dk,dk⟩
def QdE:SD->Out Fl:=(sSeq (sIf (tVal (e2 dEq (e2 dMod (eVar 0) (eC (.int 2))) (eC (.int 0)))) (sRet (e2 dMod (e2 dShr (eVar 0) (e2 dAdd (e2 dMul (eC (.int 20)) (eVar 1)) (eC (.int 1)))) (eC (.int 1048576)))) sNil) (sSeq (sSet 2 (e2 dMod (e2 dMul (e2 dAdd (e2 dAdd (e2 dAdd (e2 dMod (eVar 0) (eC (.int 2147483647))) (e2 dMul (e2 dMul (eC (.int 48271)) (eVar 1)) (eVar 1))) (eVar 1)) (eC (.int 1))) (eC (.int 69621))) (eC (.int 2147483629)))) (sSeq (sSet 2 (e2 dMod (e2 dAdd (e2 dAdd (e2 dMul (eVar 2) (eVar 2)) (e2 dMul (eC (.int 7919)) (eVar 1))) (eC (.int 5))) (eC (.int 2147483587)))) (sRet (e2 dMod (e2 dMul (eVar 2) (eVar 2)) (eC (.int 2147483629)))))))
def QI:List D->Out D:=bodyF false 2 3 QdE
theorem QjA(d0 d1:D):QI [d0,d1]=(QdE [some (.k,d0),some (.k,d1),none]>>=retF false):=rfl
theorem Qqq(F:FunV K "_law_mix" "_law_mix" QgM f fd dV)  : "f"^1 ["_law_cell","_law_k"] false QI:=
 (@fnV P w K mg base CT false _ _ _ f fd dV _ _ 0 QdE F QfR fun cdv A outer s H E G hr=>
  (Qg (ds_if (dt_eq hr.units (DE.db (Qah (DE.db (Qa 0)) (DE.db Qe))) (DE.db Qe)) (Qf (Qv (Qah (DE.db (QuH (DE.db (Qa 0)) (DE.db (QS (DE.db (Qdy (DE.db Qe) (DE.db (Qa 1)))) (DE.db Qe))))) (DE.db Qe)))) QD) (Qg (QT (i:=2) QfR.nd rfl (oi rfl) (Qah (DE.db (Qdy (DE.db (QS (DE.db (QS (DE.db (QS (DE.db (Qah (DE.db (Qa 0)) (DE.db Qe))) (DE.db (Qdy (DE.db (Qdy (DE.db Qe) (DE.db (Qa 1)))) (DE.db (Qa 1)))))) (DE.db (Qa 1)))) (DE.db Qe))) (DE.db Qe))) (DE.db Qe))) (Qg (QT (i:=2) QfR.nd rfl (oi rfl) (Qah (DE.db (QS (DE.db (QS (DE.db (Qdy (DE.db (Qa 2)) (DE.db (Qa 2)))) (DE.db (Qdy (DE.db Qe) (DE.db (Qa 1)))))) (DE.db Qe))) (DE.db Qe))) (Qf (Qv (Qah (DE.db (Qdy (DE.db (Qa 2)) (DE.db (Qa 2)))) (DE.db Qe))))))) :)
abbrev Qbv:Stmt:=top 32
theorem QL:Qm ["_law_cell","_law_caps","_law_longest","_law_outs","_law_top","_law_kind","_law_size","_law_many","_law_rows","_law_state","_law_number","_law_k"] ["_law_cell","_law_caps"] (Qd Qbv):=⟨rfl,rfl,rfl,dk,rfl,dk,dk⟩
abbrev Qfz:PySem.Scope:={ kind:=PySem.ScopeKind.function,names:=[ (PySem.Str.ofString ".0",PySem.NameKind.local),(PySem.Str.ofString "_law_state",PySem.NameKind.cell),(PySem.Str.ofString "range",PySem.NameKind.globalImplicit),(PySem.Str.ofString "_law_size",PySem.NameKind.free)],isGenerator:=false,isCoroutine:=false,more:=[]:PySem.Scope }
theorem Qgi:QC ["_law_state","_law_size"] [none,some 6] Qfz (Qd Qbv) ["_law_cell","_law_caps","_law_longest","_law_outs","_law_top","_law_kind","_law_size","_law_many","_law_rows","_law_state","_law_number","_law_k"]:=⟨rfl,dk,dk,rfl,dk,dk⟩
abbrev QiY:PySem.Scope:={ kind:=PySem.ScopeKind.function,names:=[ (PySem.Str.ofString ".0",PySem.NameKind.local),(PySem.Str.ofString "_law_k",PySem.NameKind.local),(PySem.Str.ofString "int",PySem.NameKind.globalImplicit),(PySem.Str.ofString "_law_state",PySem.NameKind.free)],isGenerator:=false,isCoroutine:=false,more:=[]:PySem.Scope }
theorem Qf7:QC ["_law_k","_law_state"] [none,some 0] QiY (QbB Qfz (Qd Qbv)) ["_law_state","_law_size"]:=⟨rfl,dk,dk,rfl,dk,dk⟩
def Qf5:SD->Out D:=(eA (f1 dInt) (aCons (e2 dEq (eVar 0) (eVar 1)) aNil))
def QdU:SD->Out D:=(eComp [none,some 0] (itR1 (eVar 1)) (gN 0) cTrue Qf5)
abbrev Qi0:PySem.Scope:={ kind:=PySem.ScopeKind.function,names:=[ (PySem.Str.ofString ".0",PySem.NameKind.local),(PySem.Str.ofString "_law_state",PySem.NameKind.local),(PySem.Str.ofString "int",PySem.NameKind.globalImplicit),(PySem.Str.ofString "_law_size",PySem.NameKind.free)],isGenerator:=false,isCoroutine:=false,more:=[]:PySem.Scope }
theorem Qf8:QC ["_law_state","_law_size"] [none,some 6] Qi0 (Qd Qbv) ["_law_cell","_law_caps","_law_longest","_law_outs","_law_top","_law_kind","_law_size","_law_many","_law_rows","_law_state","_law_number","_law_k"]:=⟨rfl,dk,dk,rfl,dk,dk⟩
def QdI:SD->Out D:=(eLst (aCons (eA (f1 dInt) (aCons (e2 dEq (eVar 0) (e2 dSub (eVar 1) (eC (.int 1)))) aNil)) aNil))
def Qb6:SD->Out SD:=(qThen (qAppE 8 (e1 dNeg (eC (.int 1))) (e2 dMod (e2 dMod (eVar 10) (eC (.int 10))) (e2 dAdd (eVar 4) (eC (.int 1))))) (qKeep 8 (sSet 10 (e2 dFdiv (eVar 10) (eC (.int 10)))) (qNil 8)))
def Qch:SD->Out SD:=(qKeep 8 (sSet 10 (eA (fun xs=>QI (xs++[])) (aCons (eVar 0) (aCons (e2 dAdd (eC (.int 10)) (eVar 9)) aNil)))) (qThen (qNew 8) (qThen (qFor 8 (gN 11) (itR1 (eVar 7)) Qb6) (qNil 8))))
def Qa2:SD->Out Fl:=(sSeq (sUnp [2,3,4] (eVar 1)) (sSeq (sSet 5 (e2 dMod (eA (fun xs=>QI (xs++[])) (aCons (eVar 0) (aCons (eC (.int 0)) aNil))) (eC (.int 4)))) (sSeq (sSet 6 (e2 dAdd (eC (.int 1)) (e2 dMod (eA (fun xs=>QI (xs++[])) (aCons (eVar 0) (aCons (eC (.int 1)) aNil))) (eVar 2)))) (sSeq (sIf (tVal (e2 dEq (eVar 5) (eC (.int 0)))) (sSeq (sSet 6 (eA fMin2 (aCons (eVar 6) (aCons (eVar 3) aNil)))) (fun ς=>(sRet (eTup (aCons (eC (.str "deal")) (aCons (eComp [none,some 6] (itR1 (eVar 6)) (gN 0) cTrue QdU) aNil)))) (frz 8 ς))) sNil) (sSeq (sIf (tVal (e2 dEq (eVar 5) (eC (.int 1)))) (fun ς=>(sRet (eTup (aCons (eC (.str "bundle")) (aCons (eComp [none,some 6] (itR1 (eVar 6)) (gN 0) cTrue QdI) aNil)))) (frz 8 ς)) sNil) (sSeq (sSet 7 (e2 dMod (eA (fun xs=>QI (xs++[])) (aCons (eVar 0) (aCons (eC (.int 2)) aNil))) (e2 dAdd (eVar 3) (eC (.int 1))))) (sSeq (sSetO 8 (eLst aNil)) (sSeq (sForN 8 (gN 9) (itR1 (eVar 6)) Qch) (sSeq (sIf (tVal (e2 dEq (eVar 5) (eC (.int 2)))) (fun ς=>(sRet (eTup (aCons (eC (.str "copy")) (aCons (eSl (eVar 8) oNo (oSome (eC (.int 1)))) aNil)))) (frz 8 ς)) sNil) (fun ς=>(sRet (eTup (aCons (eC (.str "rows")) (aCons (eVar 8) aNil)))) (frz 8 ς)))))))))))
def Qa4:List D->Out D:=bodyF false 2 12 Qa2
theorem Qdv(d0 d1:D):Qa4 [d0,d1]=(Qa2 [some (.k,d0),some (.k,d1),none,none,none,none,none,none,none,none,none,none]>>=retF false):=rfl
theorem Qoh(F:FunV K "_law_small" "_law_small" Qbv f fd dV)(QaZ:"e"^QI "_law_mix" 1 false)(z_min:mg "min"=none)(z_range:mg "range"=none)(z_int:mg "int"=none):"f"^2 ["_law_cell","_law_caps"] false Qa4:=
 (@fnV P w K mg base CT false _ _ _ f fd dV _ _ 1 Qa2 F QL fun cdv A outer s H E G hr=>
  (Qg (Qqo rfl (Qa 1) (Qab (i:=2) QL.nd rfl (oi rfl) (Qab (i:=3) QL.nd rfl (oi rfl) (Qab (i:=4) QL.nd rfl (oi rfl) QcZ)))) (Qg (QT (i:=5) QL.nd rfl (oi rfl) (Qah (DE.db (de_f QaZ (Rm hr) (Qc (Qa 0) (Qc Qe Qi)) gr)) (DE.db Qe))) (Qg (QT (i:=6) QL.nd rfl (Or.inr rfl) (QS (DE.db Qe) (DE.db (Qah (DE.db (de_f QaZ (Rm hr) (Qc (Qa 0) (Qc Qe Qi)) gr)) (DE.db (Qa 2)))))) (Qg (ds_if (dt_eq hr.units (DE.db (Qa 5)) (DE.db Qe)) (Qg (QT (i:=6) QL.nd rfl (Or.inr rfl) (Qtf rfl gr z_min (Qw (DE.db (Qa 6)) (Qw (DE.db (Qa 3)) QF)))) (Qf (Qgo 8 (Qv (QgT (Qc QO (Qc (DF.de (QP rfl Qgi (DI.b (QaA gr z_range (DE.db (Qa 6)))) (fun ς=>QM (Qu rfl ς)) (QB _) (fun fp s H G p=>⟨(QG (i:=0) Qgi.nd rfl (Or.inr rfl) (hf:=Or.inl rfl)),QK,(DF.de (QP rfl Qf7 (DI.b (QaA gr z_range (DE.db (Qa 1)))) (fun ς=>QM (Qu rfl ς)) (QB _) (fun fp s H G p=>⟨(QG (i:=0) Qf7.nd rfl (oi rfl) (hf:=Or.inr rfl)),QK,(QoU gr z_int (Qw (DE.db (de_eq hr.units (DE.db (Qa 0)) (DE.db (Qa 1)))) QF))⟩)))⟩))) Qi))))))) QD) (Qg (ds_if (dt_eq hr.units (DE.db (Qa 5)) (DE.db Qe)) (Qf (Qgo 8 (Qv (QgT (Qc QO (Qc (DF.de (QP rfl Qf8 (DI.b (QaA gr z_range (DE.db (Qa 6)))) (fun ς=>QM (Qu rfl ς)) (QB _) (fun fp s H G p=>⟨(QG (i:=0) Qf8.nd rfl (oi rfl) (hf:=Or.inr rfl)),QK,(DF.de (Qb0 (Qc (QoU gr z_int (Qw (DE.db (de_eq hr.units (DE.db (Qa 0)) (DE.db (Qk3 (DE.db (Qa 1)) (DE.db Qe))))) QF)) Qi)))⟩))) Qi)))))) QD) (Qg (QT (i:=7) QL.nd rfl (oi rfl) (Qah (DE.db (de_f QaZ (Rm hr) (Qc (Qa 0) (Qc Qe Qi)) gr)) (DE.db (QS (DE.db (Qa 3)) (DE.db Qe))))) (Qg (Qi2 (i:=8) QL.nd rfl (oi rfl) (Qb0 Qi)) (Qg (Qs1 PassesOwn.never rfl (QaA gr z_range (DE.db (Qa 6))) (fun _ _ _ _=>(QG (i:=9) QL.nd rfl (oi rfl))) (QB _) (Qoy (fun _ _ _ _=>(QT (i:=10) QL.nd rfl (oi rfl) (de_f QaZ (Rm hr) (Qc (Qa 0) (Qc (QS (DE.db Qe) (DE.db (Qa 9))) Qi)) gr))) (Qiq (QuR rfl (oi rfl)) (Qiq (Qvt PassesOwn.never rfl (fun _ _ _ _=>(QaA gr z_range (DE.db (Qa 7)))) (fun _ _ _ _=>(QG (i:=11) QL.nd rfl (oi rfl))) (QB _) (Qiq (QuS (fun _ _ _ _=>(DE.db (Qrc (DE.db Qe)))) (fun _ _ _ _=>(Qah (DE.db (Qah (DE.db (Qa 10)) (DE.db Qe))) (DE.db (QS (DE.db (Qa 4)) (DE.db Qe))))) (by intro _ _;rfl) rfl (oi rfl)) (Qoy (fun _ _ _ _=>(QT (i:=10) QL.nd rfl (oi rfl) (Qi6 (DE.db (Qa 10)) (DE.db Qe)))) QqP))) QqP)))) (Qg (ds_if (dt_eq hr.units (DE.db (Qa 5)) (DE.db Qe)) (Qf (Qgo 8 (Qv (QgT (Qc QO (Qc (DF.de (df_sl (Qa 8) Qtk (QiA (DE.db Qe)))) Qi)))))) QD) (Qf (Qgo 8 (Qv (QgT (Qc QO (Qc (Qa 8) Qi))))))))))))))) :)
abbrev Qe5:Stmt:=top 30
theorem QlD:Qm ["_law_found"] ["_law_found"] (Qd Qe5):=⟨rfl,rfl,rfl,dk,rfl,dk,dk⟩
def Qe7:SD->Out Fl:=(sRet (eAnd (eIsa (isaT "int") (eVar 0)) (eNot (eIsa (isaT "bool") (eVar 0)))))
def Qa1:List D->Out D:=bodyF false 1 1 Qe7
theorem Qnq(F:FunV K "_law_whole" "_law_whole" Qe5 f fd dV)(z_isinstance:mg "isinstance"=none)(z_int:mg "int"=none)(z_bool:mg "bool"=none):"f"^1 ["_law_found"] false Qa1:=
 (@fnV P w K mg base CT false _ _ _ f fd dV _ _ 0 Qe7 F QlD fun cdv A outer s H E G hr=>
  (Qf (Qv (QlX (Qco "int" QoG gr z_int PyProof.Rows.Boot.«int» gr z_isinstance (DE.db (Qa 0))) (Qh3 (Qqy (Qco "bool" Qlp gr z_bool PyProof.Rows.Boot.«bool» gr z_isinstance (DE.db (Qa 0)))))))) :)
abbrev Qgx:Stmt:=top 31
theorem Qie:Qm ["_law_found","_law_due","_law_k"] ["_law_found","_law_due"] (Qd Qgx):=⟨rfl,rfl,rfl,dk,rfl,dk,dk⟩
def QbV:SD->Out Fl:=(sIf (tOr' (tNot' (tVal (eA (fun xs=>Qa1 (xs++[])) (aCons (e2 dIx (eVar 0) (eVar 2)) aNil)))) (tVal (e2 dNe (e2 dIx (eVar 0) (eVar 2)) (e2 dIx (eVar 1) (eVar 2))))) (sRet (eC (.bl false))) sNil)
def QeN:SD->Out Fl:=(sSeq (sIf (tOr' (tNot' (tVal (eIsa (isaT "list") (eVar 0)))) (tVal (e2 dNe (eA fLen (aCons (eVar 0) aNil)) (eA fLen (aCons (eVar 1) aNil))))) (sRet (eC (.bl false))) sNil) (sSeq (sFor (gN 2) (itR1 (eA fLen (aCons (eVar 1) aNil))) QbV) (sRet (eC (.bl true)))))
def QaX:List D->Out D:=bodyF false 2 3 QeN
theorem Qq8(d0 d1:D):QaX [d0,d1]=(QeN [some (.k,d0),some (.k,d1),none]>>=retF false):=rfl
theorem QrF(F:FunV K "_law_row" "_law_row" Qgx f fd dV)(Qni:"e"^Qa1 "_law_whole" 1 false)(z_isinstance:mg "isinstance"=none)(z_list:mg "list"=none)(z_len:mg "len"=none)(z_range:mg "range"=none):"f"^2 ["_law_found","_law_due"] false QaX:=
 (@fnV P w K mg base CT false _ _ _ f fd dV _ _ 1 QeN F Qie fun cdv A outer s H E G hr=>
  (Qg (ds_if (DW.dt (dw_or (QaG (QaV (Qco "list" QhC gr z_list PyProof.Rows.Boot.«list» gr z_isinstance (DE.db (Qa 0))))) (QfL (dt_ne hr.units (DE.db (Qau gr z_len (Qw (DE.db (Qa 0)) QF))) (DE.db (Qau gr z_len (Qw (DE.db (Qa 1)) QF))))))) (Qf (Qv de_bl)) QD) (Qg (QfE PassesOwn.never rfl (QaA gr z_range (DE.db (Qau gr z_len (Qw (DE.db (Qa 1)) QF)))) (QG (i:=2) Qie.nd rfl (oi rfl)) (QB _) (Qf (ds_if (DW.dt (dw_or (QaG (QaV (de_f Qni (Rm hr) (Qc (de_ix (Qa 0) (DE.db (Qa 2))) Qi) gr))) (QfL (dt_ne hr.units (DE.db (de_ix (Qa 0) (DE.db (Qa 2)))) (DE.db (de_ix (Qa 1) (DE.db (Qa 2)))))))) (Qf (Qv de_bl)) QD))) (Qf (Qv de_bl)))) :)
abbrev QdK:Stmt:=top 28
theorem QiT:Qm ["_law_script","_law_k"] ["_law_script","_law_k"] (Qd QdK):=⟨rfl,rfl,rfl,dk,rfl,dk,dk⟩
def Qbs:SD->Out Fl:=(sSeq (sIf (tVal (e2 dLt (eVar 1) (eA fLen (aCons (eVar 0) aNil)))) (sRet (e2 dIx (eVar 0) (eVar 1))) sNil) (sRet (eC (.int 0))))
def Q8:List D->Out D:=bodyF false 2 2 Qbs
theorem Qgg(d0 d1:D):Q8 [d0,d1]=(Qbs [some (.k,d0),some (.k,d1)]>>=retF false):=rfl
theorem Qky(F:FunV K "_law_cell_at" "_law_cell_at" QdK f fd dV)(z_len:mg "len"=none):"f"^1 ["_law_script","_law_k"] false Q8:=
 (@fnV P w K mg base CT false _ _ _ f fd dV _ _ 0 Qbs F QiT fun cdv A outer s H E G hr=>
  (Qg (ds_if (dt_lt (DE.db (Qa 1)) (DE.db (Qau gr z_len (Qw (DE.db (Qa 0)) QF)))) (Qf (Qv (de_ix (Qa 0) (DE.db (Qa 1))))) QD) (Qf (Qv Qe))) :)
abbrev QeV:Stmt:=top 12
theorem Qpj:Qm ["one","other"] ["one","other"] (Qd QeV):=⟨rfl,rfl,rfl,dk,rfl,dk,dk⟩
abbrev Qlj:PySem.Scope:={ kind:=PySem.ScopeKind.function,names:=[ (PySem.Str.ofString ".0",PySem.NameKind.local),(PySem.Str.ofString "each",PySem.NameKind.local),(PySem.Str.ofString "more",PySem.NameKind.local)],isGenerator:=false,isCoroutine:=false,more:=[]:PySem.Scope }
theorem Qfb:QC ["each","more"] [none,none] Qlj (Qd QeV) ["one","other"]:=⟨rfl,dk,dk,rfl,dk,dk⟩
def Qhf:SD->Out D:=(e2 dAdd (eVar 0) (eVar 1))
def QeZ:SD->Out Fl:=(sRetF (eComp [none,none] (itZ (eVar 0) (eVar 1)) (gT [0,1]) cTrue Qhf))
def Qbg:List D->Out D:=bodyF true 2 2 QeZ
theorem Qrs(d0 d1:D):Qbg [d0,d1]=(QeZ [some (.k,d0),some (.k,d1)]>>=retF true):=rfl
theorem Qqr(F:FunV K "sums_of" "sums_of" QeV f fd dV)(z_zip:mg "zip"=none):"f"^1 ["one","other"] true Qbg:=
 (@fnV P w K mg base CT true _ _ _ f fd dV _ _ 0 QeZ F Qpj fun cdv A outer s H E G hr=>
  (Qf (Qai (QP rfl Qfb (DI.b (QgE gr z_zip (Qa 0) (Qa 1))) (fun ς=>QeB (fun i hi=>Qu (by revert hi;revert i;decide) ς)) (QeH _) (fun fp s H G p=>⟨(Qgn rfl (Qab (i:=0) Qfb.nd rfl (oi rfl) (Qab (i:=1) Qfb.nd rfl (oi rfl) QcZ (hf:=Or.inr rfl)) (hf:=Or.inr rfl))),QK,(QS (DE.db (Qa 0)) (DE.db (Qa 1)))⟩)))) :)
abbrev QbR:Stmt:=top 13
theorem QcI:Qm ["rows","sums","row"] ["rows"] (Qd QbR):=⟨rfl,rfl,rfl,dk,rfl,dk,dk⟩
abbrev Qg5:PySem.Scope:={ kind:=PySem.ScopeKind.function,names:=[(PySem.Str.ofString ".0",PySem.NameKind.local),(PySem.Str.ofString "each",PySem.NameKind.local)],isGenerator:=false,isCoroutine:=false,more:=[]:PySem.Scope }
theorem Qey:QC ["each"] [none] Qg5 (Qd QbR) ["rows","sums","row"]:=⟨rfl,dk,dk,rfl,dk,dk⟩
def Qcn:SD->Out D:=(eC (.int 0))
def QaR:SD->Out Fl:=(Qda 1 (eA (fun xs=>Qbg (xs++[])) (aCons (eIxO 1 (e1 dNeg (eC (.int 1)))) (aCons (eVar 2) aNil))))
def QbE:SD->Out Fl:=(sSeq (sSetO 1 (eLst (aCons (eComp [none] (itL (e2 dIx (eVar 0) (eC (.int 0)))) (gN 0) cTrue Qcn) aNil))) (sSeq (sFor (gN 2) (itL (eVar 0)) QaR) (sRetO 1)))
def QV:List D->Out D:=bodyF true 1 3 QbE
theorem Qix(d0:D):QV [d0]=(QbE [some (.k,d0),none,none]>>=retF true):=rfl
theorem Qiz(F:FunV K "running_sums" "running_sums" QbR f fd dV)(QqZ:"e"^Qbg "sums_of" 1 true):"f"^2 ["rows"] true QV:=
 (@fnV P w K mg base CT true _ _ _ f fd dV _ _ 1 QbE F QcI fun cdv A outer s H E G hr=>
  (Qg (Qi2 (i:=1) QcI.nd rfl (oi rfl) (Qb0 (Qc (DF.de (QP rfl Qey (DI.b (QaF (de_ix (Qa 0) (DE.db Qe)))) (fun ς=>QM (Qu rfl ς)) (QB _) (fun fp s H G p=>⟨(QG (i:=0) Qey.nd rfl (oi rfl) (hf:=Or.inr rfl)),QK,Qe⟩))) Qi))) (Qg (QfE PassesOwn.never rfl (QaF (Qa 0)) (QG (i:=2) QcI.nd rfl (oi rfl)) (QB _) (Qf (QjN 1 (de_f QqZ (Rm hr) (Qc (Qqs 1 (DE.db (Qrc (DE.db Qe))) rfl (oi rfl)) (Qc (Qa 2) Qi)) gr) rfl (oi rfl)))) (Qf (Qtu 1 rfl (oi rfl))))) :)
abbrev Qba:Stmt:=inCls (top 14) 1
theorem QgP:Qm ["self","rows"] ["self","rows"] (Qd Qba):=⟨rfl,rfl,rfl,dk,rfl,dk,dk⟩
abbrev QfO:PySem.Scope:={ kind:=PySem.ScopeKind.function,names:=[ (PySem.Str.ofString ".0",PySem.NameKind.local),(PySem.Str.ofString "row",PySem.NameKind.local),(PySem.Str.ofString "list",PySem.NameKind.globalImplicit)],isGenerator:=false,isCoroutine:=false,more:=[]:PySem.Scope }
theorem QcV:QC ["row"] [none] QfO (Qd Qba) ["self","rows"]:=⟨rfl,dk,dk,rfl,dk,dk⟩
def Qbw:SD->Out D:=(e1 dList (eVar 0))
def Qa8:SD->Out Fl:=(sSeq (fun ς=>noX (sFldS Qb "table" 0 (eComp [none] (itL (eVar 1)) (gN 0) cTrue Qbw) ς)) (fun ς=>noX (sFldS Qb "heads" 0 (eA (fun xs=>QV (xs++[])) (aCons (eVar 1) aNil)) ς)))
def Qr:Str->List (Str×D)->List D->Out (List (Str×D)):=bodyI 2 2 Qa8
theorem Qg6(c:Str)(fds:List (Str×D))(d1:D):Qr c fds [d1]=(Qa8 [some (.s,.ins c fds),some (.k,d1)]>>=QcS c):=rfl
theorem Qg8(F:FunV K "keep_rows" "Clerk.keep_rows" Qba f fd dV)(QiH:"e"^QV "running_sums" 2 true)(z_list:mg "list"=none)(fo_table:FldOk K CT Qb "table")(fo_heads:FldOk K CT Qb "heads"):FnOk P w K mg base (CXR P w) 3 f fd ["self","rows"] (SpI K CT Qr):=
 (@fnI P w K mg base CT _ _ _ f fd dV _ _ 2 Qa8 F QgP fun cdv A outer s H E G p hr=>
  (Qg (DS.lift (Qow 0 fo_table (DF.de (QP rfl QcV (DI.b (QaF (Qa 1))) (fun ς=>QM (Qu rfl ς)) (QB _) (fun fp s H G p=>⟨(QG (i:=0) QcV.nd rfl (oi rfl) (hf:=Or.inr rfl)),QK,(DF.de (Qed gr z_list (Qa 0)))⟩))) rfl (oi rfl))) (Qf (DS.lift (Qow 0 fo_heads (de_f QiH (Rm hr) (Qc (Qa 1) Qi) gr) rfl (oi rfl))))) :)
abbrev QfY:Stmt:=top 4
theorem Qn9:Qm ["thing"] ["thing"] (Qd QfY):=⟨rfl,rfl,rfl,dk,rfl,dk,dk⟩
def Qd6:SD->Out Fl:=(sRet (eAnd (eIsa (isaT "int") (eVar 0)) (eNot (eIsa (isaT "bool") (eVar 0)))))
def Qbr:List D->Out D:=bodyF false 1 1 Qd6
theorem QpW(d0:D):Qbr [d0]=(Qd6 [some (.k,d0)]>>=retF false):=rfl
theorem Qp5(F:FunV K "is_whole" "is_whole" QfY f fd dV)(z_isinstance:mg "isinstance"=none)(z_int:mg "int"=none)(z_bool:mg "bool"=none):"f"^1 ["thing"] false Qbr:=
 (@fnV P w K mg base CT false _ _ _ f fd dV _ _ 0 Qd6 F Qn9 fun cdv A outer s H E G hr=>
  (Qf (Qv (QlX (Qco "int" QoG gr z_int PyProof.Rows.Boot.«int» gr z_isinstance (DE.db (Qa 0))) (Qh3 (Qqy (Qco "bool" Qlp gr z_bool PyProof.Rows.Boot.«bool» gr z_isinstance (DE.db (Qa 0)))))))) :)
abbrev Qfa:Stmt:=top 5
theorem QlG:Qm ["thing","least","most"] ["thing","least","most"] (Qd Qfa):=⟨rfl,rfl,rfl,dk,rfl,dk,dk⟩
def Qdn:SD->Out Fl:=(sRet (eAnd (eA (fun xs=>Qbr (xs++[])) (aCons (eVar 0) aNil)) (QbY dLe dLe (eVar 1) (eVar 0) (eVar 2))))
def Q7:List D->Out D:=bodyF false 3 3 Qdn
theorem Qn6(d0 d1 d2:D):Q7 [d0,d1,d2]=(Qdn [some (.k,d0),some (.k,d1),some (.k,d2)]>>=retF false):=rfl
theorem QmX(F:FunV K "is_within" "is_within" Qfa f fd dV)(QpL:"e"^Qbr "is_whole" 1 false):"f"^2 ["thing","least","most"] false Q7:=
 (@fnV P w K mg base CT false _ _ _ f fd dV _ _ 1 Qdn F QlG fun cdv A outer s H E G hr=>
  (Qf (Qv (QlX (de_f QpL (Rm hr) (Qc (Qa 0) Qi) gr) (Qh3 (QrU op_le QbL (Qbn fun _ _=>rfl) op_le QbL (Qbn fun _ _=>rfl) (DE.db (Qa 1)) (DE.db (Qa 0)) (DE.db (Qa 2))))))) :)
abbrev Qf3:Stmt:=top 20
theorem QqF:Qm ["thing"] ["thing"] (Qd Qf3):=⟨rfl,rfl,rfl,dk,rfl,dk,dk⟩
abbrev Qny:PySem.Scope:={ kind:=PySem.ScopeKind.function,names:=[ (PySem.Str.ofString ".0",PySem.NameKind.local),(PySem.Str.ofString "count",PySem.NameKind.local),(PySem.Str.ofString "is_within",PySem.NameKind.globalImplicit),(PySem.Str.ofString "MOST_SENT",PySem.NameKind.globalImplicit)],isGenerator:=false,isCoroutine:=false,more:=[]:PySem.Scope }
theorem Qil:QC ["count"] [none] Qny (Qd Qf3) ["thing"]:=⟨rfl,dk,dk,rfl,dk,dk⟩
def Qf0:SD->Out D:=(eA (fun xs=>Q7 (xs++[])) (aCons (eVar 0) (aCons (eC (.int 0)) (aCons (eC (.int 9)) aNil))))
def Qf1:SD->Out Fl:=(sSeq (sIf (tOr' (tNot' (tVal (eIsa (isaT "list") (eVar 0)))) (tVal (e2 dGt (eA fLen (aCons (eVar 0) aNil)) (eC (.int 6))))) (sRet (eC (.bl false))) sNil) (sRet (eA (f1 fAll) (aCons (eComp [none] (itL (eVar 0)) (gN 0) cTrue Qf0) aNil))))
def Qbk:List D->Out D:=bodyF false 1 1 Qf1
theorem Qsx(d0:D):Qbk [d0]=(Qf1 [some (.k,d0)]>>=retF false):=rfl
theorem QsB{u_MOST_OUTS:Value}{u_MOST_SENT:Value}(F:FunV K "is_row" "is_row" Qf3 f fd dV)(QbW:"e"^Q7 "is_within" 2 false)(z_isinstance:mg "isinstance"=none)(z_list:mg "list"=none)(z_len:mg "len"=none)(z_all:mg "all"=none)(c_MOST_OUTS:mg "MOST_OUTS"=some u_MOST_OUTS)(r_MOST_OUTS:RelV (toV (.int 6)) u_MOST_OUTS)(c_MOST_SENT:mg "MOST_SENT"=some u_MOST_SENT)(r_MOST_SENT:RelV (toV (.int 9)) u_MOST_SENT):"f"^3 ["thing"] false Qbk:=
 (@fnV P w K mg base CT false _ _ _ f fd dV _ _ 2 Qf1 F QqF fun cdv A outer s H E G hr=>
  (Qg (ds_if (DW.dt (dw_or (QaG (QaV (Qco "list" QhC gr z_list PyProof.Rows.Boot.«list» gr z_isinstance (DE.db (Qa 0))))) (QfL (dt_gt (DE.db (Qau gr z_len (Qw (DE.db (Qa 0)) QF))) (DE.db (Qc2 (d:=(.int 6)) gr c_MOST_OUTS rfl r_MOST_OUTS)))))) (Qf (Qv de_bl)) QD) (Qf (Qv (Qij rfl gr z_all (Qw (DE.db (DF.de (QP rfl Qil (DI.b (QaF (Qa 0))) (fun ς=>QM (Qu rfl ς)) (QB _) (fun fp s H G p=>⟨(QG (i:=0) Qil.nd rfl (oi rfl) (hf:=Or.inr rfl)),QK,(de_f QbW (Rm hr) (Qc (Qa 0) (Qc Qe (Qc (Qc2 (d:=(.int 9)) gr c_MOST_SENT rfl r_MOST_SENT) Qi))) gr)⟩)))) QF))))) :)
abbrev QcD:Stmt:=top 21
theorem Qnz:Qm ["thing"] ["thing"] (Qd QcD):=⟨rfl,rfl,rfl,dk,rfl,dk,dk⟩
abbrev QjX:PySem.Scope:={ kind:=PySem.ScopeKind.function,names:=[ (PySem.Str.ofString ".0",PySem.NameKind.local),(PySem.Str.ofString "row",PySem.NameKind.local),(PySem.Str.ofString "is_row",PySem.NameKind.globalImplicit)],isGenerator:=false,isCoroutine:=false,more:=[]:PySem.Scope }
theorem QgO:QC ["row"] [none] QjX (Qd QcD) ["thing"]:=⟨rfl,dk,dk,rfl,dk,dk⟩
def Qeq:SD->Out D:=(eA (fun xs=>Qbk (xs++[])) (aCons (eVar 0) aNil))
abbrev Qj1:PySem.Scope:={ kind:=PySem.ScopeKind.function,names:=[ (PySem.Str.ofString ".0",PySem.NameKind.local),(PySem.Str.ofString "row",PySem.NameKind.local),(PySem.Str.ofString "len",PySem.NameKind.globalImplicit),(PySem.Str.ofString "thing",PySem.NameKind.free)],isGenerator:=false,isCoroutine:=false,more:=[]:PySem.Scope }
theorem Qgk:QC ["row","thing"] [none,some 0] Qj1 (Qd QcD) ["thing"]:=⟨rfl,dk,dk,rfl,dk,dk⟩
def Qep:SD->Out D:=(e2 dEq (eA fLen (aCons (eVar 0) aNil)) (eA fLen (aCons (e2 dIx (eVar 1) (eC (.int 0))) aNil)))
def Qd5:SD->Out Fl:=(sSeq (sIf (tOr' (tNot' (tVal (eIsa (isaT "list") (eVar 0)))) (tNot' (tVal (QbY dLe dLe (eC (.int 1)) (eA fLen (aCons (eVar 0) aNil)) (eC (.int 12)))))) (sRet (eC (.bl false))) sNil) (sSeq (sIf (tNot' (tVal (eA (f1 fAll) (aCons (eComp [none] (itL (eVar 0)) (gN 0) cTrue Qeq) aNil)))) (sRet (eC (.bl false))) sNil) (sRet (eA (f1 fAll) (aCons (eComp [none,some 0] (itL (eVar 0)) (gN 0) cTrue Qep) aNil)))))
def Qbj:List D->Out D:=bodyF false 1 1 Qd5
theorem QpT(d0:D):Qbj [d0]=(Qd5 [some (.k,d0)]>>=retF false):=rfl
theorem Qpu{u_MOST_ROWS:Value}(F:FunV K "is_table" "is_table" QcD f fd dV)(Qhs:"e"^Qbk "is_row" 3 false)(z_isinstance:mg "isinstance"=none)(z_list:mg "list"=none)(z_len:mg "len"=none)(z_all:mg "all"=none)(c_MOST_ROWS:mg "MOST_ROWS"=some u_MOST_ROWS)(r_MOST_ROWS:RelV (toV (.int 12)) u_MOST_ROWS):"f"^4 ["thing"] false Qbj:=
 (@fnV P w K mg base CT false _ _ _ f fd dV _ _ 3 Qd5 F Qnz fun cdv A outer s H E G hr=>
  (Qg (ds_if (DW.dt (dw_or (QaG (QaV (Qco "list" QhC gr z_list PyProof.Rows.Boot.«list» gr z_isinstance (DE.db (Qa 0))))) (QfL (QaG (Ql4 op_le QbL (Qbn fun _ _=>rfl) op_le QbL (Qbn fun _ _=>rfl) (DE.db Qe) (DE.db (Qau gr z_len (Qw (DE.db (Qa 0)) QF))) (DE.db (Qc2 (d:=(.int 12)) gr c_MOST_ROWS rfl r_MOST_ROWS))))))) (Qf (Qv de_bl)) QD) (Qg (ds_if (QaG (QaV (Qij rfl gr z_all (Qw (DE.db (DF.de (QP rfl QgO (DI.b (QaF (Qa 0))) (fun ς=>QM (Qu rfl ς)) (QB _) (fun fp s H G p=>⟨(QG (i:=0) QgO.nd rfl (oi rfl) (hf:=Or.inr rfl)),QK,(de_f Qhs (Rm hr) (Qc (Qa 0) Qi) gr)⟩)))) QF)))) (Qf (Qv de_bl)) QD) (Qf (Qv (Qij rfl gr z_all (Qw (DE.db (DF.de (QP rfl Qgk (DI.b (QaF (Qa 0))) (fun ς=>QM (Qu rfl ς)) (QB _) (fun fp s H G p=>⟨(QG (i:=0) Qgk.nd rfl (oi rfl) (hf:=Or.inr rfl)),QK,(de_eq hr.units (DE.db (Qau gr z_len (Qw (DE.db (Qa 0)) QF))) (DE.db (Qau gr z_len (Qw (DE.db (de_ix (Qa 1) (DE.db Qe))) QF))))⟩)))) QF)))))) :)
abbrev Qe2:Stmt:=inCls (top 18) 0
theorem Qmb:Qm ["self","rows"] ["self","rows"] (Qd Qe2):=⟨rfl,rfl,rfl,dk,rfl,dk,dk⟩
def Qdk:SD->Out Fl:=(sSeq (fun ς=>noX ((sIf (tNot' (tVal (eA (fun xs=>Qbj (xs++[])) (aCons (eVar 1) aNil)))) QdB sNil) ς)) (Qdz Qb "keep_rows" Qr 0 (fun ς=>noX ((aCons (eVar 1) aNil) ς))))
def Q5:Str->List (Str×D)->List D->Out (List (Str×D)):=bodyI 2 2 Qdk
theorem Qm7(c:Str)(fds:List (Str×D))(d1:D):Q5 c fds [d1]=(Qdk [some (.s,.ins c fds),some (.k,d1)]>>=QcS c):=rfl
theorem Qnr(F:FunV K "__init__" "Rows.__init__" Qe2 f fd dV)(Qpc:"e"^Qbj "is_table" 4 false)(ms_keep_rows:MtOk P w K mg base CT (CXR P w) "keep_rows" 3 Qb (fun _=>SpI K CT Qr)):FnOk P w K mg base (CXR P w) 5 f fd ["self","rows"] (SpI K CT Q5):=
 (@fnI P w K mg base CT _ _ _ f fd dV _ _ 4 Qdk F Qmb fun cdv A outer s H E G p hr=>
  (Qg (DS.lift (ds_if (QaG (QaV (de_f Qpc (Rm hr) (Qc (Qa 1) Qi) gr))) (Qf Qci) QD)) (Qf (QfV 0 QhP ms_keep_rows (Rm hr) (DA.lift (Qc (Qa 1) Qi)) rfl (oi rfl)))) :)
abbrev QcT:Stmt:=top 19
theorem QkL:Qm ["many","place"] ["many","place"] (Qd QcT):=⟨rfl,rfl,rfl,dk,rfl,dk,dk⟩
abbrev Qio:PySem.Scope:={ kind:=PySem.ScopeKind.function,names:=[ (PySem.Str.ofString ".0",PySem.NameKind.local),(PySem.Str.ofString "out",PySem.NameKind.local),(PySem.Str.ofString "place",PySem.NameKind.free)],isGenerator:=false,isCoroutine:=false,more:=[]:PySem.Scope }
theorem QfD:QC ["out","place"] [none,some 1] Qio (Qd QcT) ["many","place"]:=⟨rfl,dk,dk,rfl,dk,dk⟩
def Qc7:SD->Out D:=(eIf (tVal (e2 dEq (eVar 0) (eVar 1))) (eC (.int 1)) (eC (.int 0)))
def QcB:SD->Out Fl:=(sRetF (eComp [none,some 1] (itR1 (eVar 0)) (gN 0) cTrue Qc7))
def QaO:List D->Out D:=bodyF true 2 2 QcB
theorem Ql8(d0 d1:D):QaO [d0,d1]=(QcB [some (.k,d0),some (.k,d1)]>>=retF true):=rfl
theorem QkX(F:FunV K "single_row" "single_row" QcT f fd dV)(z_range:mg "range"=none):"f"^1 ["many","place"] true QaO:=
 (@fnV P w K mg base CT true _ _ _ f fd dV _ _ 0 QcB F QkL fun cdv A outer s H E G hr=>
  (Qf (Qai (QP rfl QfD (DI.b (QaA gr z_range (DE.db (Qa 0)))) (fun ς=>QM (Qu rfl ς)) (QB _) (fun fp s H G p=>⟨(QG (i:=0) QfD.nd rfl (oi rfl) (hf:=Or.inr rfl)),QK,(de_if (dt_eq hr.units (DE.db (Qa 0)) (DE.db (Qa 1))) Qe Qe)⟩)))) :)
abbrev Qdd:Stmt:=inCls (top 15) 0
theorem QmI:Qm ["self","many"] ["self","many"] (Qd Qdd):=⟨rfl,rfl,rfl,dk,rfl,dk,dk⟩
abbrev Qji:PySem.Scope:={ kind:=PySem.ScopeKind.function,names:=[ (PySem.Str.ofString ".0",PySem.NameKind.local),(PySem.Str.ofString "state",PySem.NameKind.local),(PySem.Str.ofString "single_row",PySem.NameKind.globalImplicit),(PySem.Str.ofString "many",PySem.NameKind.free)],isGenerator:=false,isCoroutine:=false,more:=[]:PySem.Scope }
theorem Qgd:QC ["state","many"] [none,some 1] Qji (Qd Qdd) ["self","many"]:=⟨rfl,dk,dk,rfl,dk,dk⟩
def QdH:SD->Out D:=(eA (fun xs=>QaO (xs++[])) (aCons (eVar 1) (aCons (eVar 0) aNil)))
def Qdm:SD->Out Fl:=(sSeq (fun ς=>noX ((sIf (tNot' (tVal (eA (fun xs=>Q7 (xs++[])) (aCons (eVar 1) (aCons (eC (.int 1)) (aCons (eC (.int 6)) aNil)))))) QdB sNil) ς)) (Qdz Qb "keep_rows" Qr 0 (fun ς=>noX ((aCons (eComp [none,some 1] (itR1 (eVar 1)) (gN 0) cTrue QdH) aNil) ς))))
def Qat:Str->List (Str×D)->List D->Out (List (Str×D)):=bodyI 2 2 Qdm
theorem Qm4(c:Str)(fds:List (Str×D))(d1:D):Qat c fds [d1]=(Qdm [some (.s,.ins c fds),some (.k,d1)]>>=QcS c):=rfl
theorem QnH{u_MOST_OUTS:Value}(F:FunV K "__init__" "Deal.__init__" Qdd f fd dV)(QbW:"e"^Q7 "is_within" 2 false)(Qms:"e"^QaO "single_row" 1 true)(z_range:mg "range"=none)(c_MOST_OUTS:mg "MOST_OUTS"=some u_MOST_OUTS)(r_MOST_OUTS:RelV (toV (.int 6)) u_MOST_OUTS)(ms_keep_rows:MtOk P w K mg base CT (CXR P w) "keep_rows" 3 Qb (fun _=>SpI K CT Qr)):FnOk P w K mg base (CXR P w) 4 f fd ["self","many"] (SpI K CT Qat):=
 (@fnI P w K mg base CT _ _ _ f fd dV _ _ 3 Qdm F QmI fun cdv A outer s H E G p hr=>
  (Qg (DS.lift (ds_if (QaG (QaV (de_f QbW (Rm hr) (Qc (Qa 1) (Qc Qe (Qc (Qc2 (d:=(.int 6)) gr c_MOST_OUTS rfl r_MOST_OUTS) Qi))) gr))) (Qf Qci) QD)) (Qf (QfV 0 QhP ms_keep_rows (Rm hr) (DA.lift (Qc (DF.de (QP rfl Qgd (DI.b (QaA gr z_range (DE.db (Qa 1)))) (fun ς=>QM (Qu rfl ς)) (QB _) (fun fp s H G p=>⟨(QG (i:=0) Qgd.nd rfl (oi rfl) (hf:=Or.inr rfl)),QK,(de_f Qms (Rm hr) (Qc (Qa 1) (Qc (Qa 0) Qi)) gr)⟩))) Qi)) rfl (oi rfl)))) :)
abbrev Qb4:Stmt:=inCls (top 16) 0
theorem QiE:Qm ["self","size"] ["self","size"] (Qd Qb4):=⟨rfl,rfl,rfl,dk,rfl,dk,dk⟩
abbrev QhE:PySem.Scope:={ kind:=PySem.ScopeKind.function,names:=[ (PySem.Str.ofString ".0",PySem.NameKind.local),(PySem.Str.ofString "state",PySem.NameKind.local),(PySem.Str.ofString "size",PySem.NameKind.free)],isGenerator:=false,isCoroutine:=false,more:=[]:PySem.Scope }
theorem QeO:QC ["state","size"] [none,some 1] QhE (Qd Qb4) ["self","size"]:=⟨rfl,dk,dk,rfl,dk,dk⟩
def QcP:SD->Out D:=(eLst (aCons (eIf (tVal (e2 dEq (eVar 0) (e2 dSub (eVar 1) (eC (.int 1))))) (eC (.int 1)) (eC (.int 0))) aNil))
def Qb9:SD->Out Fl:=(sSeq (fun ς=>noX ((sIf (tNot' (tVal (eA (fun xs=>Q7 (xs++[])) (aCons (eVar 1) (aCons (eC (.int 1)) (aCons (eC (.int 12)) aNil)))))) QdB sNil) ς)) (Qdz Qb "keep_rows" Qr 0 (fun ς=>noX ((aCons (eComp [none,some 1] (itR1 (eVar 1)) (gN 0) cTrue QcP) aNil) ς))))
def Qaa:Str->List (Str×D)->List D->Out (List (Str×D)):=bodyI 2 2 Qb9
theorem Qkw(c:Str)(fds:List (Str×D))(d1:D):Qaa c fds [d1]=(Qb9 [some (.s,.ins c fds),some (.k,d1)]>>=QcS c):=rfl
theorem QjZ{u_MOST_ROWS:Value}(F:FunV K "__init__" "Bundle.__init__" Qb4 f fd dV)(QbW:"e"^Q7 "is_within" 2 false)(z_range:mg "range"=none)(c_MOST_ROWS:mg "MOST_ROWS"=some u_MOST_ROWS)(r_MOST_ROWS:RelV (toV (.int 12)) u_MOST_ROWS)(ms_keep_rows:MtOk P w K mg base CT (CXR P w) "keep_rows" 3 Qb (fun _=>SpI K CT Qr)):FnOk P w K mg base (CXR P w) 4 f fd ["self","size"] (SpI K CT Qaa):=
 (@fnI P w K mg base CT _ _ _ f fd dV _ _ 3 Qb9 F QiE fun cdv A outer s H E G p hr=>
  (Qg (DS.lift (ds_if (QaG (QaV (de_f QbW (Rm hr) (Qc (Qa 1) (Qc Qe (Qc (Qc2 (d:=(.int 12)) gr c_MOST_ROWS rfl r_MOST_ROWS) Qi))) gr))) (Qf Qci) QD)) (Qf (QfV 0 QhP ms_keep_rows (Rm hr) (DA.lift (Qc (DF.de (QP rfl QeO (DI.b (QaA gr z_range (DE.db (Qa 1)))) (fun ς=>QM (Qu rfl ς)) (QB _) (fun fp s H G p=>⟨(QG (i:=0) QeO.nd rfl (oi rfl) (hf:=Or.inr rfl)),QK,(DF.de (Qb0 (Qc (de_if (dt_eq hr.units (DE.db (Qa 0)) (DE.db (Qk3 (DE.db (Qa 1)) (DE.db Qe)))) Qe Qe) Qi)))⟩))) Qi)) rfl (oi rfl)))) :)
abbrev Qe8:Stmt:=inCls (top 17) 0
theorem QmC:Qm ["self","counts"] ["self","counts"] (Qd Qe8):=⟨rfl,rfl,rfl,dk,rfl,dk,dk⟩
def Qdr:SD->Out Fl:=(sSeq (fun ς=>noX ((sIf (tNot' (tVal (eA (fun xs=>Qbk (xs++[])) (aCons (eVar 1) aNil)))) QdB sNil) ς)) (Qdz Qb "keep_rows" Qr 0 (fun ς=>noX ((aCons (eLst (aCons (eVar 1) aNil)) aNil) ς))))
def Qar:Str->List (Str×D)->List D->Out (List (Str×D)):=bodyI 2 2 Qdr
theorem QmO(c:Str)(fds:List (Str×D))(d1:D):Qar c fds [d1]=(Qdr [some (.s,.ins c fds),some (.k,d1)]>>=QcS c):=rfl
theorem Qnn(F:FunV K "__init__" "Copy.__init__" Qe8 f fd dV)(Qhs:"e"^Qbk "is_row" 3 false)(ms_keep_rows:MtOk P w K mg base CT (CXR P w) "keep_rows" 3 Qb (fun _=>SpI K CT Qr)):FnOk P w K mg base (CXR P w) 4 f fd ["self","counts"] (SpI K CT Qar):=
 (@fnI P w K mg base CT _ _ _ f fd dV _ _ 3 Qdr F QmC fun cdv A outer s H E G p hr=>
  (Qg (DS.lift (ds_if (QaG (QaV (de_f Qhs (Rm hr) (Qc (Qa 1) Qi) gr))) (Qf Qci) QD)) (Qf (QfV 0 QhP ms_keep_rows (Rm hr) (DA.lift (Qc (DF.de (Qb0 (Qc (Qa 1) Qi))) Qi)) rfl (oi rfl)))) :)
abbrev Qd1:Stmt:=top 33
theorem QnY:Qm ["_law_word","_law_table"] ["_law_word","_law_table"] (Qd Qd1):=⟨rfl,rfl,rfl,dk,rfl,dk,dk⟩
abbrev Qkf:PySem.Scope:={ kind:=PySem.ScopeKind.function,names:=[ (PySem.Str.ofString ".0",PySem.NameKind.local),(PySem.Str.ofString "_law_row_here",PySem.NameKind.local),(PySem.Str.ofString "list",PySem.NameKind.globalImplicit)],isGenerator:=false,isCoroutine:=false,more:=[]:PySem.Scope }
theorem Qgz:QC ["_law_row_here"] [none] Qkf (Qd Qd1) ["_law_word","_law_table"]:=⟨rfl,dk,dk,rfl,dk,dk⟩
def QgS:SD->Out D:=(e1 dList (eVar 0))
def Qbp:SD->Out Fl:=(sSeq (sIf (tVal (e2 dEq (eVar 0) (eC (.str "deal")))) (sRetF (eMake "Deal" Qat (aCons (eA fLen (aCons (eVar 1) aNil)) aNil))) sNil) (sSeq (sIf (tVal (e2 dEq (eVar 0) (eC (.str "bundle")))) (sRetF (eMake "Bundle" Qaa (aCons (eA fLen (aCons (eVar 1) aNil)) aNil))) sNil) (sSeq (sIf (tVal (e2 dEq (eVar 0) (eC (.str "copy")))) (sRetF (eMake "Copy" Qar (aCons (e1 dList (e2 dIx (eVar 1) (eC (.int 0)))) aNil))) sNil) (sRetF (eMake "Rows" Q5 (aCons (eComp [none] (itL (eVar 1)) (gN 0) cTrue QgS) aNil))))))
def Qbm:List D->Out D:=bodyF true 2 2 Qbp
theorem Qd7(d0 d1:D):Qbm [d0,d1]=(Qbp [some (.k,d0),some (.k,d1)]>>=retF true):=rfl
theorem QpU(F:FunV K "_law_made" "_law_made" Qd1 f fd dV)(z_len:mg "len"=none)(z_list:mg "list"=none)(Qec:MkOk P w K mg base CT "Deal" 4 Qat)(Qcq:MkOk P w K mg base CT "Bundle" 4 Qaa)(Qef:MkOk P w K mg base CT "Copy" 4 Qar)(QbN:MkOk P w K mg base CT "Rows" 5 Q5):"f"^7 ["_law_word","_law_table"] true Qbm:=
 (@fnV P w K mg base CT true _ _ _ f fd dV _ _ 6 Qbp F QnY fun cdv A outer s H E G hr=>
  (Qg (ds_if (dt_eq hr.units (DE.db (Qa 0)) (DE.db QO)) (Qf (Qai (QbQ rz0 Qec (Rm hr) (Qc (Qau gr z_len (Qw (DE.db (Qa 1)) QF)) Qi) gr))) QD) (Qg (ds_if (dt_eq hr.units (DE.db (Qa 0)) (DE.db QO)) (Qf (Qai (QbQ rz0 Qcq (Rm hr) (Qc (Qau gr z_len (Qw (DE.db (Qa 1)) QF)) Qi) gr))) QD) (Qg (ds_if (dt_eq hr.units (DE.db (Qa 0)) (DE.db QO)) (Qf (Qai (QbQ rz0 Qef (Rm hr) (Qc (DF.de (Qed gr z_list (de_ix (Qa 1) (DE.db Qe)))) Qi) gr))) QD) (Qf (Qai (QbQ rz0 QbN (Rm hr) (Qc (DF.de (QP rfl Qgz (DI.b (QaF (Qa 1))) (fun ς=>QM (Qu rfl ς)) (QB _) (fun fp s H G p=>⟨(QG (i:=0) Qgz.nd rfl (oi rfl) (hf:=Or.inr rfl)),QK,(DF.de (Qed gr z_list (Qa 0)))⟩))) Qi) gr)))))) :)
abbrev Qdu:Stmt:=top 23
theorem QlK:Qm ["text","most"] ["text","most"] (Qd Qdu):=⟨rfl,rfl,rfl,dk,rfl,dk,dk⟩
abbrev QiC:PySem.Scope:={ kind:=PySem.ScopeKind.function,names:=[ (PySem.Str.ofString ".0",PySem.NameKind.local),(PySem.Str.ofString "sign",PySem.NameKind.local),(PySem.Str.ofString "FIGURES",PySem.NameKind.globalImplicit)],isGenerator:=false,isCoroutine:=false,more:=[]:PySem.Scope }
theorem Qgc:QC ["sign"] [none] QiC (Qd Qdu) ["text","most"]:=⟨rfl,dk,dk,rfl,dk,dk⟩
def Qj3:SD->Out D:=(e2 dIn (eVar 0) (eC (.str "0123456789")))
def Qhj:SD->Out Fl:=(sSeq (sIf (tOr' (tNot' (tVal (QbY dLe dLe (eC (.int 1)) (eA fLen (aCons (eVar 0) aNil)) (eVar 1)))) (tNot' (tVal (eA (f1 fAll) (aCons (eComp [none] (itS (eVar 0)) (gN 0) cTrue Qj3) aNil))))) (sRet (eC (.bl false))) sNil) (sRet (eOr (e2 dEq (eVar 0) (eC (.str "0"))) (e2 dNe (e2 dIx (eVar 0) (eC (.int 0))) (eC (.str "0"))))))
def Qb2:List D->Out D:=bodyF false 2 2 Qhj
theorem QmN{u_FIGURES:Value}(F:FunV K "is_number" "is_number" Qdu f fd dV)(z_len:mg "len"=none)(z_all:mg "all"=none)(c_FIGURES:mg "FIGURES"=some u_FIGURES)(r_FIGURES:RelV (toV (.str "0123456789")) u_FIGURES):"f"^1 ["text","most"] false Qb2:=
 (@fnV P w K mg base CT false _ _ _ f fd dV _ _ 0 Qhj F QlK fun cdv A outer s H E G hr=>
  (Qg (ds_if (DW.dt (dw_or (QaG (Ql4 op_le QbL (Qbn fun _ _=>rfl) op_le QbL (Qbn fun _ _=>rfl) (DE.db Qe) (DE.db (Qau gr z_len (Qw (DE.db (Qa 0)) QF))) (DE.db (Qa 1)))) (QfL (QaG (QaV (Qij rfl gr z_all (Qw (DE.db (DF.de (QP rfl Qgc (DI.b (Qu4 (DE.db (Qa 0)))) (fun ς=>QM (Qu rfl ς)) (QB _) (fun fp s H G p=>⟨(QG (i:=0) Qgc.nd rfl (oi rfl) (hf:=Or.inr rfl)),QK,(de_in (DE.db (Qa 0)) (DE.db (Qc2 (d:=(.str "0123456789")) gr c_FIGURES rfl r_FIGURES)))⟩)))) QF))))))) (Qf (Qv de_bl)) QD) (Qf (Qv (de_or (de_eq hr.units (DE.db (Qa 0)) (DE.db QO)) (Qh3 (de_ne hr.units (DE.db (de_ix (Qa 0) (DE.db Qe))) (DE.db QO))))))) :)
abbrev QdO:Stmt:=top 24
theorem QiL:Qm ["text"] ["text"] (Qd QdO):=⟨rfl,rfl,rfl,dk,rfl,dk,dk⟩
def Qf6:SD->Out Fl:=(sSeq (sIf (tNot' (tVal (eA (fun xs=>Qb2 (xs++[])) (aCons (eVar 0) (aCons (eC (.int 2)) aNil))))) QdB sNil) (sRet (eA (f1 dIntT) (aCons (eVar 0) aNil))))
def Q9:List D->Out D:=bodyF false 1 1 Qf6
theorem Qkz{u_MOST_FIGURES:Value}(F:FunV K "read_number" "read_number" QdO f fd dV)(Qnx:"e"^Qb2 "is_number" 1 false)(z_int:mg "int"=none)(c_MOST_FIGURES:mg "MOST_FIGURES"=some u_MOST_FIGURES)(r_MOST_FIGURES:RelV (toV (.int 2)) u_MOST_FIGURES):"f"^2 ["text"] false Q9:=
 (@fnV P w K mg base CT false _ _ _ f fd dV _ _ 1 Qf6 F QiL fun cdv A outer s H E G hr=>
  (Qg (ds_if (QaG (QaV (de_f Qnx (Rm hr) (Qc (Qa 0) (Qc (Qc2 (d:=(.int 2)) gr c_MOST_FIGURES rfl r_MOST_FIGURES) Qi)) gr))) (Qf Qci) QD) (Qf (Qv (QtO gr z_int (Qw (DE.db (Qa 0)) QF))))) :)
abbrev QdY:Stmt:=top 25
theorem Qnc:Qm ["text"] ["text"] (Qd QdY):=⟨rfl,rfl,rfl,dk,rfl,dk,dk⟩
abbrev QkP:PySem.Scope:={ kind:=PySem.ScopeKind.function,names:=[ (PySem.Str.ofString ".0",PySem.NameKind.local),(PySem.Str.ofString "part",PySem.NameKind.local),(PySem.Str.ofString "read_number",PySem.NameKind.globalImplicit)],isGenerator:=false,isCoroutine:=false,more:=[]:PySem.Scope }
theorem QgL:QC ["part"] [none] QkP (Qd QdY) ["text"]:=⟨rfl,dk,dk,rfl,dk,dk⟩
def Qem:SD->Out D:=(eA (fun xs=>Q9 (xs++[])) (aCons (eVar 0) aNil))
def Qd8:SD->Out Fl:=(sSeq (sIf (tVal (e2 dEq (eVar 0) (eC (.str "-")))) (sRetF (eLst aNil)) sNil) (sRetF (eComp [none] (itL (eSm QbZ (eVar 0) (aCons (eC (.str ",")) aNil))) (gN 0) cTrue Qem)))
def QaW:List D->Out D:=bodyF true 1 1 Qd8
theorem Qpz(d0:D):QaW [d0]=(Qd8 [some (.k,d0)]>>=retF true):=rfl
theorem QpA(F:FunV K "read_row" "read_row" QdY f fd dV)(Qce:"e"^Q9 "read_number" 2 false):"f"^3 ["text"] true QaW:=
 (@fnV P w K mg base CT true _ _ _ f fd dV _ _ 2 Qd8 F Qnc fun cdv A outer s H E G hr=>
  (Qg (ds_if (dt_eq hr.units (DE.db (Qa 0)) (DE.db QO)) (Qf (Qai (Qb0 Qi))) QD) (Qf (Qai (QP rfl QgL (DI.b (QaF (Qlk (DE.db (Qa 0)) QO))) (fun ς=>QM (Qu rfl ς)) (QB _) (fun fp s H G p=>⟨(QG (i:=0) QgL.nd rfl (oi rfl) (hf:=Or.inr rfl)),QK,(de_f Qce (Rm hr) (Qc (Qa 0) Qi) gr)⟩))))) :)
abbrev QcK:Stmt:=top 26
theorem Qgf:Qm ["text","parts"] ["text"] (Qd QcK):=⟨rfl,rfl,rfl,dk,rfl,dk,dk⟩
abbrev Qif:PySem.Scope:={ kind:=PySem.ScopeKind.function,names:=[ (PySem.Str.ofString ".0",PySem.NameKind.local),(PySem.Str.ofString "part",PySem.NameKind.local),(PySem.Str.ofString "read_row",PySem.NameKind.globalImplicit)],isGenerator:=false,isCoroutine:=false,more:=[]:PySem.Scope }
theorem QfH:QC ["part"] [none] Qif (Qd QcK) ["text","parts"]:=⟨rfl,dk,dk,rfl,dk,dk⟩
def Qdb:SD->Out D:=(eA (fun xs=>QaW (xs++[])) (aCons (eVar 0) aNil))
def Qcs:SD->Out Fl:=(sSeq (sIf (tNot' (tVal (eIsa (isaT "str") (eVar 0)))) QdB sNil) (sSeq (sSet 1 (eSm (fPart partF) (eVar 0) (aCons (eC (.str " ")) aNil))) (sSeq (sIf (tVal (e2 dEq (e2 dIx (eVar 1) (eC (.int 0))) (eC (.str "deal")))) (sRetF (eMake "Deal" Qat (aCons (eA (fun xs=>Q9 (xs++[])) (aCons (e2 dIx (eVar 1) (eC (.int 2))) aNil)) aNil))) sNil) (sSeq (sIf (tVal (e2 dEq (e2 dIx (eVar 1) (eC (.int 0))) (eC (.str "bundle")))) (sRetF (eMake "Bundle" Qaa (aCons (eA (fun xs=>Q9 (xs++[])) (aCons (e2 dIx (eVar 1) (eC (.int 2))) aNil)) aNil))) sNil) (sSeq (sIf (tVal (e2 dEq (e2 dIx (eVar 1) (eC (.int 0))) (eC (.str "copy")))) (sRetF (eMake "Copy" Qar (aCons (eA (fun xs=>QaW (xs++[])) (aCons (e2 dIx (eVar 1) (eC (.int 2))) aNil)) aNil))) sNil) (sSeq (sIf (tVal (e2 dEq (e2 dIx (eVar 1) (eC (.int 0))) (eC (.str "rows")))) (sRetF (eMake "Rows" Q5 (aCons (eComp [none] (itL (eSm QbZ (e2 dIx (eVar 1) (eC (.int 2))) (aCons (eC (.str "/")) aNil))) (gN 0) cTrue Qdb) aNil))) sNil) QdB))))))
def QaQ:List D->Out D:=bodyF true 1 2 Qcs
theorem Qk8(d0:D):QaQ [d0]=(Qcs [some (.k,d0),none]>>=retF true):=rfl
theorem Qlw(F:FunV K "read_clerk" "read_clerk" QcK f fd dV)(Qce:"e"^Q9 "read_number" 2 false)(Qin:"e"^QaW "read_row" 3 true)(z_isinstance:mg "isinstance"=none)(z_str:mg "str"=none)(Qec:MkOk P w K mg base CT "Deal" 4 Qat)(Qcq:MkOk P w K mg base CT "Bundle" 4 Qaa)(Qef:MkOk P w K mg base CT "Copy" 4 Qar)(QbN:MkOk P w K mg base CT "Rows" 5 Q5):"f"^7 ["text"] true QaQ:=
 (@fnV P w K mg base CT true _ _ _ f fd dV _ _ 6 Qcs F Qgf fun cdv A outer s H E G hr=>
  (Qg (ds_if (QaG (QaV (Qco "str" QsP gr z_str PyProof.Rows.Boot.«str» gr z_isinstance (DE.db (Qa 0))))) (Qf Qci) QD) (Qg (QT (i:=1) Qgf.nd rfl (oi rfl) (Qug (DE.db (Qa 0)) QO)) (Qg (ds_if (dt_eq hr.units (DE.db (de_ix (Qa 1) (DE.db Qe))) (DE.db QO)) (Qf (Qai (QbQ rz0 Qec (Rm hr) (Qc (de_f Qce (Rm hr) (Qc (de_ix (Qa 1) (DE.db Qe)) Qi) gr) Qi) gr))) QD) (Qg (ds_if (dt_eq hr.units (DE.db (de_ix (Qa 1) (DE.db Qe))) (DE.db QO)) (Qf (Qai (QbQ rz0 Qcq (Rm hr) (Qc (de_f Qce (Rm hr) (Qc (de_ix (Qa 1) (DE.db Qe)) Qi) gr) Qi) gr))) QD) (Qg (ds_if (dt_eq hr.units (DE.db (de_ix (Qa 1) (DE.db Qe))) (DE.db QO)) (Qf (Qai (QbQ rz0 Qef (Rm hr) (Qc (de_f Qin (Rm hr) (Qc (de_ix (Qa 1) (DE.db Qe)) Qi) gr) Qi) gr))) QD) (Qg (ds_if (dt_eq hr.units (DE.db (de_ix (Qa 1) (DE.db Qe))) (DE.db QO)) (Qf (Qai (QbQ rz0 QbN (Rm hr) (Qc (DF.de (QP rfl QfH (DI.b (QaF (Qlk (DE.db (de_ix (Qa 1) (DE.db Qe))) QO))) (fun ς=>QM (Qu rfl ς)) (QB _) (fun fp s H G p=>⟨(QG (i:=0) QfH.nd rfl (oi rfl) (hf:=Or.inr rfl)),QK,(de_f Qin (Rm hr) (Qc (Qa 0) Qi) gr)⟩))) Qi) gr))) QD) (Qf Qci))))))) :)
abbrev Qdh:Stmt:=top 34
theorem QeC:Qm ["_law_cell","_law_number","_law_parts"] ["_law_cell"] (Qd Qdh):=⟨rfl,rfl,rfl,dk,rfl,dk,dk⟩
abbrev QiS:PySem.Scope:={ kind:=PySem.ScopeKind.function,names:=[ (PySem.Str.ofString ".0",PySem.NameKind.local),(PySem.Str.ofString "_law_k",PySem.NameKind.local),(PySem.Str.ofString "_law_mix",PySem.NameKind.globalImplicit),(PySem.Str.ofString "_law_cell",PySem.NameKind.free)],isGenerator:=false,isCoroutine:=false,more:=[]:PySem.Scope }
theorem Qga:QC ["_law_k","_law_cell"] [none,some 0] QiS (Qd Qdh) ["_law_cell","_law_number","_law_parts"]:=⟨rfl,dk,dk,rfl,dk,dk⟩
def QdN:SD->Out D:=(e2 dMod (eA (fun xs=>QI (xs++[])) (aCons (eVar 1) (aCons (e2 dAdd (eC (.int 1)) (eVar 0)) aNil))) (eC (.int 1048576)))
def QbX:SD->Out Fl:=(sSeq (sSet 1 (eA (fun xs=>QI (xs++[])) (aCons (eVar 0) (aCons (eC (.int 0)) aNil)))) (sSeq (sIf (tVal (e2 dGt (e2 dMod (eVar 1) (eC (.int 3))) (eC (.int 0)))) (sRet (e2 dMod (e2 dFdiv (eVar 1) (eC (.int 3))) (eC (.int 12)))) sNil) (sSeq (sSet 2 (eComp [none,some 0] (itR1 (eC (.int 3))) (gN 0) cTrue QdN)) (sRet (e2 dMod (e2 dAdd (e2 dAdd (e2 dShl (e2 dIx (eVar 2) (eC (.int 0))) (eC (.int 40))) (e2 dShl (e2 dIx (eVar 2) (eC (.int 1))) (eC (.int 20)))) (e2 dIx (eVar 2) (eC (.int 2)))) (e2 dPow (eC (.int 10)) (eC (.int 18))))))))
def Qa3:List D->Out D:=bodyF false 1 3 QbX
theorem Qhm(d0:D):Qa3 [d0]=(QbX [some (.k,d0),none,none]>>=retF false):=rfl
theorem Qm6(F:FunV K "_law_count" "_law_count" Qdh f fd dV)(QaZ:"e"^QI "_law_mix" 1 false)(z_range:mg "range"=none):"f"^2 ["_law_cell"] false Qa3:=
 (@fnV P w K mg base CT false _ _ _ f fd dV _ _ 1 QbX F QeC fun cdv A outer s H E G hr=>
  (Qg (QT (i:=1) QeC.nd rfl (oi rfl) (de_f QaZ (Rm hr) (Qc (Qa 0) (Qc Qe Qi)) gr)) (Qg (ds_if (dt_gt (DE.db (Qah (DE.db (Qa 1)) (DE.db Qe))) (DE.db Qe)) (Qf (Qv (Qah (DE.db (Qi6 (DE.db (Qa 1)) (DE.db Qe))) (DE.db Qe)))) QD) (Qg (Qjo (i:=2) rfl Qga (DI.b (QaA gr z_range (DE.db Qe))) (fun ς=>QM (Qu rfl ς)) (QB _) (fun fp s H G p=>⟨(QG (i:=0) Qga.nd rfl (oi rfl) (hf:=Or.inr rfl)),QK,(Qah (DE.db (de_f QaZ (Rm hr) (Qc (Qa 1) (Qc (QS (DE.db Qe) (DE.db (Qa 0))) Qi)) gr)) (DE.db Qe))⟩) QeC.nd rfl (oi rfl)) (Qf (Qv (Qah (DE.db (QS (DE.db (QS (DE.db (QqA (DE.db (de_ix (Qa 2) (DE.db Qe))) (DE.db Qe))) (DE.db (QqA (DE.db (de_ix (Qa 2) (DE.db Qe))) (DE.db Qe))))) (DE.db (de_ix (Qa 2) (DE.db Qe))))) (DE.db (QuF (DE.db Qe) (DE.db Qe))))))))) :)
abbrev Qc0:Stmt:=inCls (top 14) 2
theorem Qh6:Qm ["self"] ["self"] (Qd Qc0):=⟨rfl,rfl,rfl,dk,rfl,dk,dk⟩
def QbK:SD->Out Fl:=(sRet (eA fLen (aCons (e1 (dFld Qb "table") (eVar 0)) aNil)))
def Qp:List D->Out D:=bodyF false 1 1 QbK
theorem QiI(d0:D):Qp [d0]=(QbK [some (.k,d0)]>>=retF false):=rfl
theorem Qje(F:FunV K "period" "Clerk.period" Qc0 f fd dV)(z_len:mg "len"=none)(fo_table:FldOk K CT Qb "table"):"f"^1 ["self"] false Qp:=
 (@fnV P w K mg base CT false _ _ _ f fd dV _ _ 0 QbK F Qh6 fun cdv A outer s H E G hr=>
  (Qf (Qv (Qau gr z_len (Qw (DE.db (Qfy fo_table (Qa 0))) QF)))) :)
abbrev QdT:Stmt:=inCls (top 14) 5
theorem Qis:Qm ["self"] ["self"] (Qd QdT):=⟨rfl,rfl,rfl,dk,rfl,dk,dk⟩
def Qcb:SD->Out Fl:=(sRetF (e1 dList (e2 dIx (e1 (dFld Qb "heads") (eVar 0)) (eMeth Qb "period" (fun _=>Qp) (eVar 0) aNil))))
def Qaj:List D->Out D:=bodyF true 1 1 Qcb
theorem Qkb(d0:D):Qaj [d0]=(Qcb [some (.k,d0)]>>=retF true):=rfl
theorem Qkd(F:FunV K "whole" "Clerk.whole" QdT f fd dV)(z_list:mg "list"=none)(fo_heads:FldOk K CT Qb "heads")(mt_period:MtOk P w K mg base CT CX0 "period" 1 Qb (fun c=>SpD K CT false ((fun _=>Qp) c))):"f"^2 ["self"] true Qaj:=
 (@fnV P w K mg base CT true _ _ _ f fd dV _ _ 1 Qcb F Qis fun cdv A outer s H E G hr=>
  (Qf (Qai (Qed gr z_list (de_ix (Qfy fo_heads (Qa 0)) (DE.db (QaN mt_period (Rm hr) (Qa 0))))))) :)
abbrev Qak:Stmt:=inCls (top 14) 6
theorem QaS:Qm ["self","count","rounds","head"] ["self","count"] (Qd Qak):=⟨rfl,rfl,rfl,dk,rfl,dk,dk⟩
abbrev QdJ:PySem.Scope:={ kind:=PySem.ScopeKind.function,names:=[ (PySem.Str.ofString ".0",PySem.NameKind.local),(PySem.Str.ofString "each",PySem.NameKind.local),(PySem.Str.ofString "more",PySem.NameKind.local),(PySem.Str.ofString "rounds",PySem.NameKind.free)],isGenerator:=false,isCoroutine:=false,more:=[]:PySem.Scope }
theorem QaI:QC ["each","more","rounds"] [none,none,some 2] QdJ (Qd Qak) ["self","count","rounds","head"]:=⟨rfl,dk,dk,rfl,dk,dk⟩
def Qbz:SD->Out D:=(e2 dAdd (e2 dMul (eVar 2) (eVar 0)) (eVar 1))
def Qam:SD->Out Fl:=(sSeq (sSet 2 (e2 dFdiv (eVar 1) (eMeth Qb "period" (fun _=>Qp) (eVar 0) aNil))) (sSeq (sSet 3 (e2 dIx (e1 (dFld Qb "heads") (eVar 0)) (e2 dMod (eVar 1) (eMeth Qb "period" (fun _=>Qp) (eVar 0) aNil)))) (sRetF (eComp [none,none,some 2] (itZ (eMeth Qb "whole" (fun _=>Qaj) (eVar 0) aNil) (eVar 3)) (gT [0,1]) cTrue Qbz))))
def Qt:List D->Out D:=bodyF true 2 4 Qam
theorem QeJ(d0 d1:D):Qt [d0,d1]=(Qam [some (.k,d0),some (.k,d1),none,none]>>=retF true):=rfl
theorem QeI(F:FunV K "sent_from_start" "Clerk.sent_from_start" Qak f fd dV)(z_zip:mg "zip"=none)(fo_heads:FldOk K CT Qb "heads")(mt_period:MtOk P w K mg base CT CX0 "period" 1 Qb (fun c=>SpD K CT false ((fun _=>Qp) c)))(mt_whole:MtOk P w K mg base CT CX0 "whole" 2 Qb (fun c=>SpD K CT true ((fun _=>Qaj) c))):"f"^3 ["self","count"] true Qt:=
 (@fnV P w K mg base CT true _ _ _ f fd dV _ _ 2 Qam F QaS fun cdv A outer s H E G hr=>
  (Qg (QT (i:=2) QaS.nd rfl (Or.inr rfl) (Qi6 (DE.db (Qa 1)) (DE.db (QaN mt_period (Rm hr) (Qa 0))))) (Qg (QT (i:=3) QaS.nd rfl (oi rfl) (de_ix (Qfy fo_heads (Qa 0)) (DE.db (Qah (DE.db (Qa 1)) (DE.db (QaN mt_period (Rm hr) (Qa 0))))))) (Qf (Qai (QP rfl QaI (DI.b (QgE gr z_zip (QaN mt_whole (Rm hr) (Qa 0)) (Qa 3))) (fun ς=>QeB (fun i hi=>Qu (by revert hi;revert i;decide) ς)) (QeH _) (fun fp s H G p=>⟨(Qgn rfl (Qab (i:=0) QaI.nd rfl (oi rfl) (Qab (i:=1) QaI.nd rfl (oi rfl) QcZ (hf:=Or.inr rfl)) (hf:=Or.inr rfl))),QK,(QS (DE.db (Qdy (DE.db (Qa 2)) (DE.db (Qa 0)))) (DE.db (Qa 1)))⟩)))))) :)
abbrev QcE:Stmt:=inCls (top 14) 7
theorem QdQ:Qm ["self","state","count","late","early"] ["self","state","count"] (Qd QcE):=⟨rfl,rfl,rfl,dk,rfl,dk,dk⟩
abbrev QhW:PySem.Scope:={ kind:=PySem.ScopeKind.function,names:=[ (PySem.Str.ofString ".0",PySem.NameKind.local),(PySem.Str.ofString "after",PySem.NameKind.local),(PySem.Str.ofString "before",PySem.NameKind.local)],isGenerator:=false,isCoroutine:=false,more:=[]:PySem.Scope }
theorem Qc4:QC ["after","before"] [none,none] QhW (Qd QcE) ["self","state","count","late","early"]:=⟨rfl,dk,dk,rfl,dk,dk⟩
def QfJ:SD->Out D:=(e2 dSub (eVar 0) (eVar 1))
def QcJ:SD->Out Fl:=(sSeq (sSet 3 (eMeth Qb "sent_from_start" (fun _=>Qt) (eVar 0) (aCons (e2 dAdd (eVar 1) (eVar 2)) aNil))) (sSeq (sSet 4 (eMeth Qb "sent_from_start" (fun _=>Qt) (eVar 0) (aCons (eVar 1) aNil))) (sRetF (eComp [none,none] (itZ (eVar 3) (eVar 4)) (gT [0,1]) cTrue QfJ))))
def Q1:List D->Out D:=bodyF true 3 5 QcJ
theorem QlC(d0 d1 d2:D):Q1 [d0,d1,d2]=(QcJ [some (.k,d0),some (.k,d1),some (.k,d2),none,none]>>=retF true):=rfl
theorem Qmd(F:FunV K "sent" "Clerk.sent" QcE f fd dV)(z_zip:mg "zip"=none)(mt_sent_from_start:MtOk P w K mg base CT CX0 "sent_from_start" 3 Qb (fun c=>SpD K CT true ((fun _=>Qt) c))):"f"^4 ["self","state","count"] true Q1:=
 (@fnV P w K mg base CT true _ _ _ f fd dV _ _ 3 QcJ F QdQ fun cdv A outer s H E G hr=>
  (Qg (QT (i:=3) QdQ.nd rfl (oi rfl) (Qeg mt_sent_from_start (Rm hr) (Qa 0) (Qc (QS (DE.db (Qa 1)) (DE.db (Qa 2))) Qi))) (Qg (QT (i:=4) QdQ.nd rfl (oi rfl) (Qeg mt_sent_from_start (Rm hr) (Qa 0) (Qc (Qa 1) Qi))) (Qf (Qai (QP rfl Qc4 (DI.b (QgE gr z_zip (Qa 3) (Qa 4))) (fun ς=>QeB (fun i hi=>Qu (by revert hi;revert i;decide) ς)) (QeH _) (fun fp s H G p=>⟨(Qgn rfl (Qab (i:=0) Qc4.nd rfl (oi rfl) (Qab (i:=1) Qc4.nd rfl (oi rfl) QcZ (hf:=Or.inr rfl)) (hf:=Or.inr rfl))),QK,(Qk3 (DE.db (Qa 0)) (DE.db (Qa 1)))⟩)))))) :)
abbrev Qc5:Stmt:=inCls (top 15) 2
theorem Qh9:Qm ["self"] ["self"] (Qd Qc5):=⟨rfl,rfl,rfl,dk,rfl,dk,dk⟩
def QbI:SD->Out Fl:=(sRet (eA (f1 dStr) (aCons (eMeth Qb "period" (fun _=>Qp) (eVar 0) aNil) aNil)))
def Qbf:List D->Out D:=bodyF false 1 1 QbI
theorem QiG(d0:D):Qbf [d0]=(QbI [some (.k,d0)]>>=retF false):=rfl
theorem Qjb(F:FunV K "numbers" "Deal.numbers" Qc5 f fd dV)(z_str:mg "str"=none)(mt_period:MtOk P w K mg base CT CX0 "period" 1 Qb (fun c=>SpD K CT false ((fun _=>Qp) c))):"f"^2 ["self"] false Qbf:=
 (@fnV P w K mg base CT false _ _ _ f fd dV _ _ 1 QbI F Qh9 fun cdv A outer s H E G hr=>
  (Qf (Qv (Qjk gr z_str (Qw (DE.db (QaN mt_period (Rm hr) (Qa 0))) QF)))) :)
abbrev Qck:Stmt:=inCls (top 16) 2
theorem Qha:Qm ["self"] ["self"] (Qd Qck):=⟨rfl,rfl,rfl,dk,rfl,dk,dk⟩
def Qbq:SD->Out Fl:=(sRet (eA (f1 dStr) (aCons (eMeth Qb "period" (fun _=>Qp) (eVar 0) aNil) aNil)))
def QaP:List D->Out D:=bodyF false 1 1 Qbq
theorem Qhz(d0:D):QaP [d0]=(Qbq [some (.k,d0)]>>=retF false):=rfl
theorem Qhq(F:FunV K "numbers" "Bundle.numbers" Qck f fd dV)(z_str:mg "str"=none)(mt_period:MtOk P w K mg base CT CX0 "period" 1 Qb (fun c=>SpD K CT false ((fun _=>Qp) c))):"f"^2 ["self"] false QaP:=
 (@fnV P w K mg base CT false _ _ _ f fd dV _ _ 1 Qbq F Qha fun cdv A outer s H E G hr=>
  (Qf (Qv (Qjk gr z_str (Qw (DE.db (QaN mt_period (Rm hr) (Qa 0))) QF)))) :)
abbrev Qd2:Stmt:=top 22
theorem QmM:Qm ["row"] ["row"] (Qd Qd2):=⟨rfl,rfl,rfl,dk,rfl,dk,dk⟩
abbrev QkA:PySem.Scope:={ kind:=PySem.ScopeKind.function,names:=[ (PySem.Str.ofString ".0",PySem.NameKind.local),(PySem.Str.ofString "count",PySem.NameKind.local),(PySem.Str.ofString "str",PySem.NameKind.globalImplicit)],isGenerator:=false,isCoroutine:=false,more:=[]:PySem.Scope }
theorem Qgt:QC ["count"] [none] QkA (Qd Qd2) ["row"]:=⟨rfl,dk,dk,rfl,dk,dk⟩
def Qei:SD->Out D:=(eA (f1 dStr) (aCons (eVar 0) aNil))
def QdZ:SD->Out Fl:=(sSeq (sIf (tVal (e2 dEq (eA fLen (aCons (eVar 0) aNil)) (eC (.int 0)))) (sRet (eC (.str "-"))) sNil) (sRet (eSm fJoin (eC (.str ",")) (aCons (eComp [none] (itL (eVar 0)) (gN 0) cTrue Qei) aNil))))
def Qbh:List D->Out D:=bodyF false 1 1 QdZ
theorem Qpw(d0:D):Qbh [d0]=(QdZ [some (.k,d0)]>>=retF false):=rfl
theorem Qph(F:FunV K "row_text" "row_text" Qd2 f fd dV)(z_len:mg "len"=none)(z_str:mg "str"=none):"f"^1 ["row"] false Qbh:=
 (@fnV P w K mg base CT false _ _ _ f fd dV _ _ 0 QdZ F QmM fun cdv A outer s H E G hr=>
  (Qg (ds_if (dt_eq hr.units (DE.db (Qau gr z_len (Qw (DE.db (Qa 0)) QF))) (DE.db Qe)) (Qf (Qv QO)) QD) (Qf (Qv (QoA (DE.db QO) (DF.de (QP rfl Qgt (DI.b (QaF (Qa 0))) (fun ς=>QM (Qu rfl ς)) (QB _) (fun fp s H G p=>⟨(QG (i:=0) Qgt.nd rfl (oi rfl) (hf:=Or.inr rfl)),QK,(Qjk gr z_str (Qw (DE.db (Qa 0)) QF))⟩))))))) :)
abbrev Qbx:Stmt:=inCls (top 14) 9
theorem QhG:Qm ["self"] ["self"] (Qd Qbx):=⟨rfl,rfl,rfl,dk,rfl,dk,dk⟩
abbrev QgF:PySem.Scope:={ kind:=PySem.ScopeKind.function,names:=[ (PySem.Str.ofString ".0",PySem.NameKind.local),(PySem.Str.ofString "row",PySem.NameKind.local),(PySem.Str.ofString "row_text",PySem.NameKind.globalImplicit)],isGenerator:=false,isCoroutine:=false,more:=[]:PySem.Scope }
theorem QdV:QC ["row"] [none] QgF (Qd Qbx) ["self"]:=⟨rfl,dk,dk,rfl,dk,dk⟩
def QbU:SD->Out D:=(eA (fun xs=>Qbh (xs++[])) (aCons (eVar 0) aNil))
def Qby:SD->Out Fl:=(sRet (eSm fJoin (eC (.str "/")) (aCons (eComp [none] (itL (e1 (dFld Qb "table") (eVar 0))) (gN 0) cTrue QbU) aNil)))
def Q0:List D->Out D:=bodyF false 1 1 Qby
theorem Qic(d0:D):Q0 [d0]=(Qby [some (.k,d0)]>>=retF false):=rfl
theorem Qh8(F:FunV K "numbers" "Clerk.numbers" Qbx f fd dV)(QpD:"e"^Qbh "row_text" 1 false)(fo_table:FldOk K CT Qb "table"):"f"^2 ["self"] false Q0:=
 (@fnV P w K mg base CT false _ _ _ f fd dV _ _ 1 Qby F QhG fun cdv A outer s H E G hr=>
  (Qf (Qv (QoA (DE.db QO) (DF.de (QP rfl QdV (DI.b (QaF (Qfy fo_table (Qa 0)))) (fun ς=>QM (Qu rfl ς)) (QB _) (fun fp s H G p=>⟨(QG (i:=0) QdV.nd rfl (oi rfl) (hf:=Or.inr rfl)),QK,(de_f QpD (Rm hr) (Qc (Qa 0) Qi) gr)⟩)))))) :)
abbrev Qfi:Stmt:=inCls (top 15) 1
theorem QlQ:Qm ["self"] ["self"] (Qd Qfi):=⟨rfl,rfl,rfl,dk,rfl,dk,dk⟩
def Qhd:SD->Out Fl:=(sRet (eC (.str "deal")))
def Qdt:List D->Out D:=bodyF false 1 1 Qhd
theorem Qoj(F:FunV K "word" "Deal.word" Qfi f fd dV)  : "f"^1 ["self"] false Qdt:=
 (@fnV P w K mg base CT false _ _ _ f fd dV _ _ 0 Qhd F QlQ fun cdv A outer s H E G hr=>
  (Qf (Qv QO)) :)
abbrev QdG:Stmt:=inCls (top 16) 1
theorem Qjn:Qm ["self"] ["self"] (Qd QdG):=⟨rfl,rfl,rfl,dk,rfl,dk,dk⟩
def Qgb:SD->Out Fl:=(sRet (eC (.str "bundle")))
def Qcd:List D->Out D:=bodyF false 1 1 Qgb
theorem Qkv(F:FunV K "word" "Bundle.word" QdG f fd dV)  : "f"^1 ["self"] false Qcd:=
 (@fnV P w K mg base CT false _ _ _ f fd dV _ _ 0 Qgb F Qjn fun cdv A outer s H E G hr=>
  (Qf (Qv QO)) :)
abbrev Qe4:Stmt:=inCls (top 17) 1
theorem QlN:Qm ["self"] ["self"] (Qd Qe4):=⟨rfl,rfl,rfl,dk,rfl,dk,dk⟩
def Qhg:SD->Out Fl:=(sRet (eC (.str "copy")))
def Qdc:List D->Out D:=bodyF false 1 1 Qhg
theorem Qoa(F:FunV K "word" "Copy.word" Qe4 f fd dV)  : "f"^1 ["self"] false Qdc:=
 (@fnV P w K mg base CT false _ _ _ f fd dV _ _ 0 Qhg F QlN fun cdv A outer s H E G hr=>
  (Qf (Qv QO)) :)
abbrev Qfc:Stmt:=inCls (top 18) 1
theorem QlP:Qm ["self"] ["self"] (Qd Qfc):=⟨rfl,rfl,rfl,dk,rfl,dk,dk⟩
def Qhl:SD->Out Fl:=(sRet (eC (.str "rows")))
def Qdg:List D->Out D:=bodyF false 1 1 Qhl
theorem QnZ(F:FunV K "word" "Rows.word" Qfc f fd dV)  : "f"^1 ["self"] false Qdg:=
 (@fnV P w K mg base CT false _ _ _ f fd dV _ _ 0 Qhl F QlP fun cdv A outer s H E G hr=>
  (Qf (Qv QO)) :)
abbrev Qer:Stmt:=inCls (top 14) 10
theorem Qj2:Qm ["self"] ["self"] (Qd Qer):=⟨rfl,rfl,rfl,dk,rfl,dk,dk⟩
def QaJ:Str->List D->Out D:=fun c=>if c=("Deal":Str) then Qdt else if c=("Bundle":Str) then Qcd else if c=("Copy":Str) then Qdc else if c=("Rows":Str) then Qdg else fun _=>.stuck
theorem QgV:QaJ "Deal"=Qdt:=by unfold QaJ;rw[if_pos rfl]
theorem Qfu:QaJ "Bundle"=Qcd:=by unfold QaJ;rw[if_neg (dk),if_pos rfl]
theorem QgI:QaJ "Copy"=Qdc:=by unfold QaJ;rw[if_neg (dk),if_neg (dk),if_pos rfl]
theorem QgH:QaJ "Rows"=Qdg:=by unfold QaJ;rw[if_neg (dk),if_neg (dk),if_neg (dk),if_pos rfl]
def QW:Str->List D->Out D:=fun c=>if c=("Deal":Str) then Qbf else if c=("Bundle":Str) then QaP else if c=("Copy":Str) then Q0 else if c=("Rows":Str) then Q0 else fun _=>.stuck
theorem QeQ:QW "Deal"=Qbf:=by unfold QW;rw[if_pos rfl]
theorem QdW:QW "Bundle"=QaP:=by unfold QW;rw[if_neg (dk),if_pos rfl]
theorem QeU:QW "Copy"=Q0:=by unfold QW;rw[if_neg (dk),if_neg (dk),if_pos rfl]
theorem QeW:QW "Rows"=Q0:=by unfold QW;rw[if_neg (dk),if_neg (dk),if_neg (dk),if_pos rfl]
def QcL:SD->Out Fl:=(sRet (e2 dAdd (e2 dAdd (eMeth Qb "word" QaJ (eVar 0) aNil) (eC (.str " "))) (eMeth Qb "numbers" QW (eVar 0) aNil)))
def Qay:List D->Out D:=bodyF false 1 1 QcL
theorem QmE(d0:D):Qay [d0]=(QcL [some (.k,d0)]>>=retF false):=rfl
theorem Ql2(F:FunV K "text" "Clerk.text" Qer f fd dV)(mt_word:MtOk P w K mg base CT CX0 "word" 1 Qb (fun c=>SpD K CT false (QaJ c)))(mt_numbers:MtOk P w K mg base CT CX0 "numbers" 2 Qb (fun c=>SpD K CT false (QW c))):"f"^3 ["self"] false Qay:=
 (@fnV P w K mg base CT false _ _ _ f fd dV _ _ 2 QcL F Qj2 fun cdv A outer s H E G hr=>
  (Qf (Qv (QS (DE.db (QS (DE.db (QaN mt_word (Rm hr) (Qa 0))) (DE.db QO))) (DE.db (QaN mt_numbers (Rm hr) (Qa 0)))))) :)
abbrev Qeu:Stmt:=inCls (top 14) 3
theorem QkB:Qm ["self"] ["self"] (Qd Qeu):=⟨rfl,rfl,rfl,dk,rfl,dk,dk⟩
def QcG:SD->Out Fl:=(sRet (eA fLen (aCons (e2 dIx (e1 (dFld Qb "table") (eVar 0)) (eC (.int 0))) aNil)))
def Qaw:List D->Out D:=bodyF false 1 1 QcG
theorem QlZ(d0:D):Qaw [d0]=(QcG [some (.k,d0)]>>=retF false):=rfl
theorem Qlu(F:FunV K "outs" "Clerk.outs" Qeu f fd dV)(z_len:mg "len"=none)(fo_table:FldOk K CT Qb "table"):"f"^1 ["self"] false Qaw:=
 (@fnV P w K mg base CT false _ _ _ f fd dV _ _ 0 QcG F QkB fun cdv A outer s H E G hr=>
  (Qf (Qv (Qau gr z_len (Qw (DE.db (de_ix (Qfy fo_table (Qa 0)) (DE.db Qe))) QF)))) :)
abbrev Qfe:Stmt:=inCls (top 14) 4
theorem Qls:Qm ["self","state"] ["self","state"] (Qd Qfe):=⟨rfl,rfl,rfl,dk,rfl,dk,dk⟩
def Qdf:SD->Out Fl:=(sRetF (e1 dList (e2 dIx (e1 (dFld Qb "table") (eVar 0)) (eVar 1))))
def Qaq:List D->Out D:=bodyF true 2 2 Qdf
theorem QnV(d0 d1:D):Qaq [d0,d1]=(Qdf [some (.k,d0),some (.k,d1)]>>=retF true):=rfl
theorem Qn5(F:FunV K "row" "Clerk.row" Qfe f fd dV)(z_list:mg "list"=none)(fo_table:FldOk K CT Qb "table"):"f"^1 ["self","state"] true Qaq:=
 (@fnV P w K mg base CT true _ _ _ f fd dV _ _ 0 Qdf F Qls fun cdv A outer s H E G hr=>
  (Qf (Qai (Qed gr z_list (de_ix (Qfy fo_table (Qa 0)) (DE.db (Qa 1)))))) :)
abbrev QcQ:Stmt:=top 35
theorem Qcc:Qm ["_law_clerk","_law_state","_law_count_here","_law_found","_law_k"] ["_law_clerk","_law_state","_law_count_here"] (Qd QcQ):=⟨rfl,rfl,rfl,dk,rfl,dk,dk⟩
abbrev Qig:PySem.Scope:={ kind:=PySem.ScopeKind.function,names:=[ (PySem.Str.ofString ".0",PySem.NameKind.local),(PySem.Str.ofString "_law_many",PySem.NameKind.local),(PySem.Str.ofString "_law_more",PySem.NameKind.local)],isGenerator:=false,isCoroutine:=false,more:=[]:PySem.Scope }
theorem Qc3:QC ["_law_many","_law_more"] [none,none] Qig (Qd QcQ) ["_law_clerk","_law_state","_law_count_here","_law_found","_law_k"]:=⟨rfl,dk,dk,rfl,dk,dk⟩
def Qc1:SD->Out D:=(e2 dAdd (eVar 0) (eVar 1))
def QbS:SD->Out Fl:=(sSet 3 (eComp [none,none] (itZ (eVar 3) (eMeth Qb "row" (fun _=>Qaq) (eVar 0) (aCons (e2 dMod (e2 dAdd (eVar 1) (eVar 4)) (eMeth Qb "period" (fun _=>Qp) (eVar 0) aNil)) aNil))) (gT [0,1]) cTrue Qc1))
def Qcx:SD->Out Fl:=(sSeq (sSet 3 (e2 dRep (eLst (aCons (eC (.int 0)) aNil)) (eMeth Qb "outs" (fun _=>Qaw) (eVar 0) aNil))) (sSeq (sFor (gN 4) (itR1 (eVar 2)) QbS) (sRet (eVar 3))))
def Qaz:List D->Out D:=bodyF false 3 5 Qcx
theorem Ql6(d0 d1 d2:D):Qaz [d0,d1,d2]=(Qcx [some (.k,d0),some (.k,d1),some (.k,d2),none,none]>>=retF false):=rfl
theorem Qlc(F:FunV K "_law_walked" "_law_walked" QcQ f fd dV)(z_range:mg "range"=none)(z_zip:mg "zip"=none)(mt_outs:MtOk P w K mg base CT CX0 "outs" 1 Qb (fun c=>SpD K CT false ((fun _=>Qaw) c)))(mt_row:MtOk P w K mg base CT CX0 "row" 1 Qb (fun c=>SpD K CT true ((fun _=>Qaq) c)))(mt_period:MtOk P w K mg base CT CX0 "period" 1 Qb (fun c=>SpD K CT false ((fun _=>Qp) c))):"f"^2 ["_law_clerk","_law_state","_law_count_here"] false Qaz:=
 (@fnV P w K mg base CT false _ _ _ f fd dV _ _ 1 Qcx F Qcc fun cdv A outer s H E G hr=>
  (Qg (QT (i:=3) Qcc.nd rfl (oi rfl) (DF.de (Qre (Qb0 (Qc Qe Qi)) (DE.db (QaN mt_outs (Rm hr) (Qa 0)))))) (Qg (QfE PassesOwn.never rfl (QaA gr z_range (DE.db (Qa 2))) (QG (i:=4) Qcc.nd rfl (oi rfl)) (QB _) (Qf (Qjo (i:=3) rfl Qc3 (DI.b (QgE gr z_zip (Qa 3) (Qeg mt_row (Rm hr) (Qa 0) (Qc (Qah (DE.db (QS (DE.db (Qa 1)) (DE.db (Qa 4)))) (DE.db (QaN mt_period (Rm hr) (Qa 0)))) Qi)))) (fun ς=>QeB (fun i hi=>Qu (by revert hi;revert i;decide) ς)) (QeH _) (fun fp s H G p=>⟨(Qgn rfl (Qab (i:=0) Qc3.nd rfl (oi rfl) (Qab (i:=1) Qc3.nd rfl (oi rfl) QcZ (hf:=Or.inr rfl)) (hf:=Or.inr rfl))),QK,(QS (DE.db (Qa 0)) (DE.db (Qa 1)))⟩) Qcc.nd rfl (oi rfl)))) (Qf (Qv (Qa 3))))) :)
abbrev QcR:Stmt:=top 36
theorem QaT:Qm ["_law_script","_law_word","_law_table","_law_some","_law_begin","_law_state","_law_count_here","_law_sums","_law_cell","_law_many","_law_sent","_law_clerk"] ["_law_script"] (Qd QcR):=⟨rfl,rfl,rfl,dk,rfl,dk,dk⟩
abbrev QrT:PySem.Scope:={ kind:=PySem.ScopeKind.function,names:=[ (PySem.Str.ofString ".0",PySem.NameKind.local),(PySem.Str.ofString "_law_row_here",PySem.NameKind.local),(PySem.Str.ofString "list",PySem.NameKind.globalImplicit)],isGenerator:=false,isCoroutine:=false,more:=[]:PySem.Scope }
theorem QoR:QC ["_law_row_here"] [none] QrT (Qd QcR) ["_law_script","_law_word","_law_table","_law_some","_law_begin","_law_state","_law_count_here","_law_sums","_law_cell","_law_many","_law_sent","_law_clerk"]:=⟨rfl,dk,dk,rfl,dk,dk⟩
def QoV:SD->Out D:=(e1 dList (eVar 0))
def Qg4:SD->Out Fl:=(sIf (tOr' (tNot' (tVal (eIsa (isaI [("Deal",true),("Bundle",true),("Copy",true),("Rows",true)]) (eVar 11)))) (tNot' (tVal (eA (fun xs=>QaX (xs++[])) (aCons (eMeth Qb "sent" (fun _=>Q1) (eVar 11) (aCons (eVar 5) (aCons (eVar 9) aNil))) (aCons (eVar 10) aNil)))))) (sRet (eC (.bl false))) sNil)
abbrev Qst:PySem.Scope:={ kind:=PySem.ScopeKind.function,names:=[ (PySem.Str.ofString ".0",PySem.NameKind.local),(PySem.Str.ofString "_law_mine",PySem.NameKind.local),(PySem.Str.ofString "_law_more",PySem.NameKind.local)],isGenerator:=false,isCoroutine:=false,more:=[]:PySem.Scope }
theorem Qiu:QC ["_law_mine","_law_more"] [none,none] Qst (Qd QcR) ["_law_script","_law_word","_law_table","_law_some","_law_begin","_law_state","_law_count_here","_law_sums","_law_cell","_law_many","_law_sent","_law_clerk"]:=⟨rfl,dk,dk,rfl,dk,dk⟩
def Qjh:SD->Out D:=(e2 dAdd (eVar 0) (eVar 1))
def QfM:SD->Out Fl:=(sSeq (sSet 9 (eA (fun xs=>Qa3 (xs++[])) (aCons (eVar 8) aNil))) (sSeq (sSet 10 (eMeth Qb "sent" (fun _=>Q1) (e2 dIx (eVar 3) (eC (.int 0))) (aCons (eVar 5) (aCons (eVar 9) aNil)))) (sSeq (sFor (gN 11) (itL (eVar 3)) Qg4) (sSeq (sIf (tAnd' (tVal (e2 dLt (eVar 9) (eC (.int 12)))) (tVal (e2 dNe (eVar 10) (eA (fun xs=>Qaz (xs++[])) (aCons (e2 dIx (eVar 3) (eC (.int 1))) (aCons (eVar 5) (aCons (eVar 9) aNil))))))) (sRet (eC (.bl false))) sNil) (sSeq (sSet 7 (eComp [none,none] (itZ (eVar 7) (eVar 10)) (gT [0,1]) cTrue Qjh)) (sSeq (sSet 6 (e2 dAdd (eVar 6) (eVar 9))) (sSet 5 (e2 dMod (e2 dAdd (eVar 5) (eVar 9)) (eA fLen (aCons (eVar 2) aNil))))))))))
def QkV:SD->Out Fl:=(sSeq (sUnp [1,2] (eA (fun xs=>Qa4 (xs++[])) (aCons (eA (fun xs=>Q8 (xs++[])) (aCons (eVar 0) (aCons (eC (.int 0)) aNil))) (aCons (eTup (aCons (eC (.int 12)) (aCons (eC (.int 6)) (aCons (eC (.int 9)) aNil)))) aNil)))) (sSeq (sSetO 3 (eLst (aCons (eA (fun xs=>Qbm (xs++[])) (aCons (eVar 1) (aCons (eVar 2) aNil))) (aCons (eMake "Rows" Q5 (aCons (eComp [none] (itL (eVar 2)) (gN 0) cTrue QoV) aNil)) aNil)))) (sSeq (Qda 3 (eA (fun xs=>QaQ (xs++[])) (aCons (eMeth Qb "text" (fun _=>Qay) (eIxO 3 (eC (.int 0))) aNil) aNil))) (sSeq (sSet 4 (e2 dMod (eA (fun xs=>QI (xs++[])) (aCons (eA (fun xs=>Q8 (xs++[])) (aCons (eVar 0) (aCons (eC (.int 0)) aNil))) (aCons (eC (.int 36)) aNil))) (eA fLen (aCons (eVar 2) aNil)))) (sSeq (sSet 5 (eVar 4)) (sSeq (sSet 6 (eC (.int 0))) (sSeq (sSet 7 (e2 dRep (eLst (aCons (eC (.int 0)) aNil)) (eA fLen (aCons (e2 dIx (eVar 2) (eC (.int 0))) aNil)))) (sSeq (fun ς=>(sFor (gN 8) (itL (e2 dCat (eSl (eVar 0) (oSome (eC (.int 1))) (oSome (eC (.int 61)))) (eLst (aCons (eC (.int 0)) aNil)))) QfM) (frz 3 ς)) (sRet (eA (fun xs=>QaX (xs++[])) (aCons (eMeth Qb "sent" (fun _=>Q1) (e2 dIx (eVar 3) (eC (.int 2))) (aCons (eVar 4) (aCons (eVar 6) aNil))) (aCons (eVar 7) aNil))))))))))))
def QeM:List D->Out D:=bodyF false 1 12 QkV
theorem QvD(d0:D):QeM [d0]=(QkV [some (.k,d0),none,none,none,none,none,none,none,none,none,none,none]>>=retF false):=rfl
theorem QvG{C_Clerk:Addr}(F:FunV K "law" "law" QcR f fd dV)(Qm5:"e"^Qa4 "_law_small" 2 false)(Qf9:"e"^Q8 "_law_cell_at" 1 false)(Qpv:"e"^Qbm "_law_made" 7 true)(QkW:"e"^QaQ "read_clerk" 7 true)(QaZ:"e"^QI "_law_mix" 1 false)(Qn1:"e"^Qa3 "_law_count" 2 false)(QjJ:"e"^QaX "_law_row" 2 false)(Qk1:"e"^Qaz "_law_walked" 2 false)(z_list:mg "list"=none)(z_len:mg "len"=none)(z_isinstance:mg "isinstance"=none)(z_zip:mg "zip"=none)(m_Clerk:mg "Clerk"=some (.ref C_Clerk))(mt_text:MtOk P w K mg base CT CX0 "text" 3 Qb (fun c=>SpD K CT false ((fun _=>Qay) c)))(mt_sent:MtOk P w K mg base CT CX0 "sent" 4 Qb (fun c=>SpD K CT true ((fun _=>Q1) c)))(QbN:MkOk P w K mg base CT "Rows" 5 Q5)(ki_Clerk:KitI K CT (.ref C_Clerk) [("Deal",true),("Bundle",true),("Copy",true),("Rows",true)]):"f"^8 ["_law_script"] false QeM:=
 (@fnV P w K mg base CT false _ _ _ f fd dV _ _ 7 QkV F QaT fun cdv A outer s H E G hr=>
  (Qg (Qqo rfl (de_f Qm5 (Rm hr) (Qc (de_f Qf9 (Rm hr) (Qc (Qa 0) (Qc Qe Qi)) gr) (Qc (QgT (Qc Qe (Qc Qe (Qc Qe Qi)))) Qi)) gr) (Qab (i:=1) QaT.nd rfl (oi rfl) (Qab (i:=2) QaT.nd rfl (oi rfl) QcZ))) (Qg (Qi2 (i:=3) QaT.nd rfl (oi rfl) (Qb0 (Qc (de_f Qpv (Rm hr) (Qc (Qa 1) (Qc (Qa 2) Qi)) gr) (Qc (DF.de (QbQ rz0 QbN (Rm hr) (Qc (DF.de (QP rfl QoR (DI.b (QaF (Qa 2))) (fun ς=>QM (Qu rfl ς)) (QB _) (fun fp s H G p=>⟨(QG (i:=0) QoR.nd rfl (oi rfl) (hf:=Or.inr rfl)),QK,(DF.de (Qed gr z_list (Qa 0)))⟩))) Qi) gr)) Qi)))) (Qg (QjN 3 (de_f QkW (Rm hr) (Qc (QaN mt_text (Rm hr) (Qqs 3 (DE.db Qe) rfl (oi rfl))) Qi) gr) rfl (oi rfl)) (Qg (QT (i:=4) QaT.nd rfl (oi rfl) (Qah (DE.db (de_f QaZ (Rm hr) (Qc (de_f Qf9 (Rm hr) (Qc (Qa 0) (Qc Qe Qi)) gr) (Qc Qe Qi)) gr)) (DE.db (Qau gr z_len (Qw (DE.db (Qa 2)) QF))))) (Qg (QT (i:=5) QaT.nd rfl (oi rfl) (Qa 4)) (Qg (QT (i:=6) QaT.nd rfl (oi rfl) Qe) (Qg (QT (i:=7) QaT.nd rfl (oi rfl) (DF.de (Qre (Qb0 (Qc Qe Qi)) (DE.db (Qau gr z_len (Qw (DE.db (de_ix (Qa 2) (DE.db Qe))) QF)))))) (Qg (Qgo 3 (QfE PassesOwn.never rfl (QaF (DF.de (QuO (DF.de (df_sl (Qa 0) (QiA (DE.db Qe)) (QiA (DE.db Qe)))) (DF.de (Qb0 (Qc Qe Qi)))))) (QG (i:=8) QaT.nd rfl (oi rfl)) (QB _) (Qg (QT (i:=9) QaT.nd rfl (oi rfl) (de_f Qn1 (Rm hr) (Qc (Qa 8) Qi) gr)) (Qg (QT (i:=10) QaT.nd rfl (oi rfl) (Qeg mt_sent (Rm hr) (de_ix (Qa 3) (DE.db Qe)) (Qc (Qa 5) (Qc (Qa 9) Qi)))) (Qg (QfE PassesOwn.never rfl (QaF (Qa 3)) (QG (i:=11) QaT.nd rfl (oi rfl)) (QB _) (Qf (ds_if (DW.dt (dw_or (QaG (QaV (QtZ (vc:=.ref C_Clerk) (uc:=.ref C_Clerk) (QoZ gr m_Clerk rfl) rfl ki_Clerk gr z_isinstance (DE.db (Qa 11))))) (QfL (QaG (QaV (de_f QjJ (Rm hr) (Qc (Qeg mt_sent (Rm hr) (Qa 11) (Qc (Qa 5) (Qc (Qa 9) Qi))) (Qc (Qa 10) Qi)) gr)))))) (Qf (Qv de_bl)) QD))) (Qg (ds_if (DW.dt (Quu (dt_lt (DE.db (Qa 9)) (DE.db Qe)) (QtW (dt_ne hr.units (DE.db (Qa 10)) (DE.db (de_f Qk1 (Rm hr) (Qc (de_ix (Qa 3) (DE.db Qe)) (Qc (Qa 5) (Qc (Qa 9) Qi))) gr)))))) (Qf (Qv de_bl)) QD) (Qg (Qjo (i:=7) rfl Qiu (DI.b (QgE gr z_zip (Qa 7) (Qa 10))) (fun ς=>QeB (fun i hi=>Qu (by revert hi;revert i;decide) ς)) (QeH _) (fun fp s H G p=>⟨(Qgn rfl (Qab (i:=0) Qiu.nd rfl (oi rfl) (Qab (i:=1) Qiu.nd rfl (oi rfl) QcZ (hf:=Or.inr rfl)) (hf:=Or.inr rfl))),QK,(QS (DE.db (Qa 0)) (DE.db (Qa 1)))⟩) QaT.nd rfl (oi rfl)) (Qg (QT (i:=6) QaT.nd rfl (oi rfl) (QS (DE.db (Qa 6)) (DE.db (Qa 9)))) (Qf (QT (i:=5) QaT.nd rfl (oi rfl) (Qah (DE.db (QS (DE.db (Qa 5)) (DE.db (Qa 9)))) (DE.db (Qau gr z_len (Qw (DE.db (Qa 2)) QF)))))))))))))) (Qf (Qv (de_f QjJ (Rm hr) (Qc (Qeg mt_sent (Rm hr) (de_ix (Qa 3) (DE.db Qe)) (Qc (Qa 4) (Qc (Qa 6) Qi))) (Qc (Qa 7) Qi)) gr))))))))))) :)
end
end My
set_option exponentiation.threshold 20000
namespace My
open PySem PySem.Spec L2 DL
set_option hygiene false
local macro_rules
 | `(tactic|exists "E",$xs,*)=>`(tactic|simp[$[$xs:term],*,bodyF,retF,sSeq,thenF,sSet,sRet,sIf,sNil,eVar,eC,e1,e2,eA,f1,aNil,aCons,tVal,tAnd',tOr',tNot',eAnd,eOr,eNot,eIf,eTup,eLst,eIsa,isaT,Qbt,oNo,oSome,sPar,sUnp,QR,gN,gT,fLen,Qbi,Out.bind_ok,Out.bind_exc,Out.bind_stuck,Out.pure_eq,D.scal,QY,Qel,Qc8,Qes,Qc6,Qfr,QfA,QfK,QbM,Qea,List.length_cons,List.length_nil,List.map_cons,List.map_nil,List.cons_append,List.nil_append,List.append_nil,List.getElem?_cons_zero,List.getElem?_cons_succ,List.set_cons_zero,List.set_cons_succ,List.replicate,Nat.reduceAdd,Nat.reduceSub,Nat.reduceLeDiff,Nat.zero_add,Nat.add_zero,reduceIte,Bool.not_true,Bool.not_false,Bool.true_and,Bool.and_true,Bool.false_and,Bool.and_false,Bool.or_true,Bool.true_or,Bool.or_false,Bool.false_or,Bool.false_eq_true,decide_true,decide_false,decide_eq_true_eq,Bool.not_eq_true',decide_eq_false_iff_not,Int.reduceEq,Int.reduceLT,Int.reduceLE,Int.reduceNeg,Nat.reduceEqDiff, ↓reduceIte,not_true_eq_false,not_false_eq_true])
 | `(tactic|exists "O",$xs,*)=>`(tactic|simp only[$[$xs:term],*,bodyF,retF,sSeq,thenF,sSet,sRet,sIf,sNil,eVar,eC,e1,e2,eA,f1,aNil,aCons,tVal,tAnd',tOr',tNot',eAnd,eOr,eNot,eIf,eTup,eLst,eIsa,isaT,Qbt,oNo,oSome,sPar,sUnp,QR,gN,gT,fLen,Qbi,Out.bind_ok,Out.bind_exc,Out.bind_stuck,Out.pure_eq,D.scal,QY,Qel,Qc8,Qes,Qc6,Qfr,QfA,QfK,QbM,Qea,List.length_cons,List.length_nil,List.map_cons,List.map_nil,List.cons_append,List.nil_append,List.append_nil,List.getElem?_cons_zero,List.getElem?_cons_succ,List.set_cons_zero,List.set_cons_succ,List.replicate,Nat.reduceAdd,Nat.reduceSub,Nat.reduceLeDiff,Nat.zero_add,Nat.add_zero,reduceIte,Bool.not_true,Bool.not_false,Bool.true_and,Bool.and_true,Bool.false_and,Bool.and_false,Bool.or_true,Bool.true_or,Bool.or_false,Bool.false_or,Bool.false_eq_true,decide_true,decide_false,decide_eq_true_eq,Bool.not_eq_true',decide_eq_false_iff_not,Int.reduceEq,Int.reduceLT,Int.reduceLE,Int.reduceNeg,Nat.reduceEqDiff, ↓reduceIte,not_true_eq_false,not_false_eq_true])
set_option hygiene true
local macro_rules | `(tactic| walk_at "g") => `(tactic| ((repeat (first | exact Qu5 | apply QuQ));done))
local macro_rules | `(tactic| walk_at "s") => `(tactic| repeat (first | exact Qq1 | apply Qru))
local macro_rules | `(tactic| walk_at "all") => `(tactic| repeat (first | with_reducible exact QjI | (apply Qjs;focus walk_at "s")))
local macro_rules | `(tactic| walk_at "cap") => `(tactic| repeat (first | exact c_nil | apply Qqn | (apply c_k;focus walk_at "g") | (apply c_o;focus walk_at "g") | (apply c_l;focus walk_at "g") | (apply c_s;focus walk_at "g")))
local macro_rules | `(tactic| walk_at "b") => `(tactic| first | rfl | with_reducible assumption | (simp only[Bool.not_eq_true',Bool.not_eq_false',decide_eq_true_eq,decide_eq_false_iff_not,Bool.not_true,Bool.not_false];first | with_reducible assumption | omega) | (simp;done))
local macro_rules | `(tactic| walk_at "p") => `(tactic| first | decide | with_reducible assumption | omega)
local macro_rules | `(tactic| walk_at "l") => `(tactic| first | decide | with_reducible assumption | (simp only[List.length_map,List.length_cons,List.length_nil,List.length_range,List.length_append];omega) | omega | (simp;omega))
local macro_rules | `(tactic| walk_at "e") => `(tactic| first
 | ((with_reducible apply r_id);with_reducible assumption)
 | with_reducible exact r_okR | with_reducible exact Qs5
 | with_reducible apply r_var | with_reducible apply r_varB | with_reducible exact r_C | with_reducible exact r_nil | with_reducible exact r_oNo | with_reducible exact Qag | with_reducible exact Qbu
 | with_reducible exact QY _ _ | with_reducible exact Qel _ _ | with_reducible exact Qc8 _ | with_reducible exact Qes _ | with_reducible exact Qc6 _ _ | with_reducible exact Qfr _ _ | with_reducible exact QfA _ _ | with_reducible exact QfK _ _ | with_reducible exact QbM _ _ | with_reducible exact Qea _ _
 | with_reducible exact Qa0 (by walk_at "p")
 | with_reducible exact r_rt | with_reducible exact r_rtT | with_reducible exact r_rtS rfl
 | with_reducible apply r_retO
 | with_reducible exact Qq1 | with_reducible apply Qru
 | with_reducible exact Qu7 | with_reducible apply Qvl
 | with_reducible exact QjI | with_reducible apply Qjs
 | with_reducible exact c_nil | with_reducible apply Qqn | ((with_reducible apply c_k);focus walk_at "g") | ((with_reducible apply c_o);focus walk_at "g") | ((with_reducible apply c_l);focus walk_at "g") | ((with_reducible apply c_s);focus walk_at "g")
 | ((with_reducible apply r_scal);exact rfl)
 | ((with_reducible apply r_get);focus walk_at "g")
 | ((with_reducible apply Qvd);with_reducible assumption)
 | ((with_reducible apply Qvu);focus walk_at "p") | with_reducible apply QuZ | with_reducible apply bd_sub | with_reducible apply Qux | with_reducible apply bd_div | with_reducible apply bd_neg | with_reducible exact Qrq rfl
 | ((with_reducible apply r_dec);focus exact rfl)
 | ((with_reducible apply r_len);focus walk_at "l")
 | with_reducible apply r_mul
 | ((with_reducible apply Qqb);focus walk_at "p")
 | ((with_reducible apply Qcw);focus walk_at "b")
 | ((with_reducible apply Qex);focus walk_at "b")
 | with_reducible apply Qj | with_reducible apply r_e2 | with_reducible apply r_e1 | with_reducible apply r_seq | with_reducible apply r_set | with_reducible apply QqQ | with_reducible apply r_if | with_reducible apply Qn | with_reducible apply QX | with_reducible apply QhV | with_reducible apply r_or' | with_reducible apply Qli | with_reducible apply r_eAnd | with_reducible apply r_eOr | with_reducible apply r_eNot | with_reducible apply r_eIf | with_reducible apply r_isa | with_reducible apply Qtj | with_reducible apply Qvg | with_reducible apply r_ret | with_reducible apply QdA | with_reducible apply r_drop | with_reducible apply r_tup | with_reducible apply r_lst | with_reducible apply r_scalar | with_reducible apply r_nonScal | with_reducible apply r_noX | with_reducible apply Qg3 | with_reducible apply Qav | with_reducible apply r_gN | with_reducible apply r_gT | with_reducible apply r_unp | with_reducible apply r_for | with_reducible apply r_itL | with_reducible apply r_itT | with_reducible apply r_itE | with_reducible apply r_itZ | with_reducible apply Qac | with_reducible apply r_eA | with_reducible apply r_sl | with_reducible apply r_slB | with_reducible apply r_ixO | with_reducible apply r_meth | with_reducible apply QfC | with_reducible apply r_app | with_reducible apply r_put | with_reducible apply Qax | with_reducible apply Qjg | with_reducible apply QuW | with_reducible apply Qtz | with_reducible apply r_lm)
def dl(r:List Int):D:=.lst (r.map .int)
def tbD(t:List (List Int)):D:=.lst (t.map dl)
theorem Qhv{js:List (Option Nat)}{its:SD->Out (List D)}{g:D->SD->Out SD}{e:SD->Out D}{ς:SD}{xs:List D}{h:D->D}(hi:its ς=.ok xs)(ht:∀ x∈xs,turnC js g cTrue e ς x=.ok (some (h x)))(hl:xs.length<=1000):
 eComp js its g cTrue e ς=.ok (.lst (xs.map h)):=by
 unfold eComp
 rw[hi,Out.bind_ok,Qmr (h:=fun x=>some (h x)) ht,Out.bind_ok]
 have e:xs.filterMap (fun x=>some (h x))=xs.map h:=by rw[← List.filterMap_eq_map];rfl
 rw[e,if_pos (QfN (by rw[List.length_map];exact hl))]
theorem QhK{js:List (Option Nat)}{its:SD->Out (List D)}{e:SD->Out D}{ς:SD}{a b:List Int}(f:Int->Int->Int)(hi:its ς=.ok (List.zipWith (fun x y=>.tup [x,y]) (a.map .int) (b.map .int)))
 (ht:∀ x∈a,∀ y∈b,turnC js (gT [0,1]) cTrue e ς (.tup [.int x,.int y])=.ok (some (.int (f x y)))) (hl:a.length<=1000):eComp js its (gT [0,1]) cTrue e ς=.ok (dl (List.zipWith f a b)):=by
 have hz:List.zipWith (fun x y=>D.tup [x,y]) (a.map .int) (b.map .int)=(List.zip a b).map fun p=>D.tup [.int p.1,.int p.2]:=by
  rw[List.zipWith_map,List.map_zip_eq_zipWith]
  rfl
 rw[Qhv (h:=fun d=>match d with | .tup [.int x,.int y]=>.int (f x y) | _=>.non) (by rw[hi,hz]) ?_ ?_]
 ·unfold dl
  rw[List.map_map,List.map_zipWith,List.map_zip_eq_zipWith]
  rfl
 ·intro x hx
  obtain⟨⟨p,q⟩,hp,rfl⟩:=List.mem_map.mp hx
  exact ht p (List.of_mem_zip hp).1 q (List.of_mem_zip hp).2
 ·rw[List.length_map,List.length_zip]
  omega
theorem loopL{body:D->SD->Out Fl}{P:Nat->SD->Prop}:∀{xs:List D}(n:Nat),(∀ k x,xs[k]?=some x->∀ ς,P (n+k) ς->∃ ς',body x ς=.ok (.nx ς')/\P (n+k+1) ς')->∀ ς,P n ς->∃ ς',loopD body xs ς=.ok (.nx ς')/\P (n+xs.length) ς'
 | [],n,_,ς,p=>⟨ς,rfl,p⟩
 | x::xs,n,h,ς,p=>by
  obtain⟨ς1,e1',p1⟩:=h 0 x rfl ς p
  obtain⟨ς2,e2',p2⟩:=loopL (xs:=xs) (n+1) (fun k y hy ς q=>by
   have:=h (k+1) y hy ς (by rw[show n+(k+1)=n+1+k by omega];exact q)
   rw[show n+(k+1)+1=n+1+k+1 by omega]at this
   exact this) ς1 p1
  refine⟨ς2,?_,by rw[List.length_cons,show n+(xs.length+1)=n+1+xs.length by omega];exact p2⟩
  rw[loopD,e1']
  exact e2'
def cs(t:List (List Int))(k j:Nat):Int:=((t.take k).map fun r=>r.getD j 0).sum
def pre(t:List (List Int))(m k:Nat):List Int:=(List.range m).map (cs t k)
theorem Qsg{t:List (List Int)}{m k:Nat}{r:List Int}(hr:t[k]?=some r)(hm:r.length=m):List.zipWith (· + ·) (pre t m k) r=pre t m (k+1):=by
 apply List.ext_getElem?
 intro j
 unfold pre
 rw[List.getElem?_zipWith,List.getElem?_map,List.getElem?_map]
 by_cases hj:j<m
 ·have h1:(List.range m)[j]?=some j:=by simp[hj]
  have h2:r[j]?=some r[j]:=by simp[hm,hj]
  rw[h1,h2]
  show some (cs t k j+r[j])=some (cs t (k+1) j)
  unfold cs
  rw[List.take_add_one,hr]
  simp[hm,hj,List.getD_eq_getElem?_getD]
 ·have h1:(List.range m)[j]?=none:=by simp;omega
  rw[h1];rfl
theorem Qsb(t:List (List Int))(m:Nat):pre t m 0=List.replicate m 0:=by
 unfold pre
 rw[List.eq_replicate_iff]
 refine⟨by simp,fun x hx=>?_⟩
 obtain⟨j,_,rfl⟩:=List.mem_map.mp hx
 rfl
structure Tb(t:List (List Int))(m:Nat):Prop where
 n1:1<=t.length
 n2:t.length<=12
 m6:m<=6
 row:∀ r∈t,r.length=m
 ent:∀ r∈t,∀ x∈r,0<=x/\x<=9
theorem Qth{a b:List Int}(hl:a.length<=1000):Qbg [dl a,dl b]=.ok (dl (List.zipWith (· + ·) a b)):=by
 have h:=QhK (js:=[none,none]) (its:=itZ (eVar 0) (eVar 1)) (e:=Qhf) (ς:=[some (.k,dl a),some (.k,dl b)]) (a:=a) (b:=b) (· + ·) rfl (fun x _ y _=>rfl) hl
 rw[Qrs]
 unfold QeZ sRetF
 rw[h];rfl
def hdD(t:List (List Int))(m:Nat)(k:Nat):D:=.lst ((List.range (k+1)).map fun i=>dl (pre t m i))
theorem Qo8{t:List (List Int)}{m:Nat}(h:Tb t m):QV [tbD t]=.ok (hdD t m t.length):=by
 obtain⟨n1,n2,m6,row,_⟩:=h
 have r0:t[0]?=some t[0]:=by simp
 have hr0:(t[0]).length=m:=row _ (List.getElem_mem _)
 have hix:dIx (tbD t) (.int 0)=.ok (dl t[0]):=ixL 0 (by rw[List.getElem?_map,r0];rfl)
 have hc:eComp [none] (itL (e2 dIx (eVar 0) (eC (.int 0)))) (gN 0) cTrue Qcn [some (.k,tbD t),none,none]=.ok (dl (pre t m 0)):=by
  rw[Qhv (xs:=(t[0]).map .int) (h:=fun _=>.int 0) (by simp only[itL,e2,eVar,eC,Out.bind_ok,List.getElem?_cons_zero,hix];rfl) (fun x _=>rfl) (by rw[List.length_map];omega)]
  rw[Qsb,List.map_map]
  unfold dl
  congr 2
  rw[List.map_replicate]
  exact List.eq_replicate_iff.mpr ⟨by simp[hr0],fun x hx=>by obtain⟨_,_,rfl⟩:=List.mem_map.mp hx;rfl⟩
 obtain⟨ς',hL,a2,rfl⟩:=loopL (body:=fun x ς=>gN 2 x ς>>=fun ς'=>QaR ς') (xs:=t.map dl) (P:=fun k ς=>∃ a2,ς=[some (.k,tbD t),some (.o,hdD t m k),a2]) 0
  (by
   rintro k x hx ς ⟨a2,rfl⟩
   rw[Nat.zero_add]at *
   rw[List.getElem?_map]at hx
   cases ht:t[k]? with
   | none=>rw[ht]at hx;cases hx
   | some r=>
    rw[ht]at hx
    cases hx
    have hk:k<t.length:=(List.getElem?_eq_some_iff.mp ht).1
    have hrm:r.length=m:=row r (List.mem_of_getElem? ht)
    have hl:(pre t m k).length=m:=by simp[pre]
    have s:=Qth (a:=pre t m k) (b:=r) (by omega)
    rw[Qsg ht hrm]at s
    have hat:atI ((List.range (k+1)).map fun i=>dl (pre t m i)) (-1)=some (dl (pre t m k)):=by
     unfold atI ixN
     simp
     rw[if_pos (by omega),show((-1:Int)+((k:Int)+1)).toNat=k by omega]
     simp
    refine⟨[some (.k,tbD t),some (.o,hdD t m (k+1)),some (.k,dl r)],?_,_,rfl⟩
    have e1':eIxO 1 (e1 dNeg (eC (.int 1))) [some (.k,tbD t),some (.o,hdD t m k),some (.k,dl r)]=.ok (dl (pre t m k)):=by
     unfold eIxO hdD
     simp only[List.getElem?_cons_succ,List.getElem?_cons_zero,e1,eC,Out.bind_ok,Qc8,hat];rfl
    have hlt:decide (((List.range (k+1)).map fun i=>dl (pre t m i)).length<sizeLine)=true:=by
     have:(1000:Nat)<=sizeLine:=by decide
     rw[List.length_map,List.length_range]
     exact decide_eq_true (by omega)
    have hnext:((List.range (k+1)).map fun i=>dl (pre t m i))++[dl (pre t m (k+1))]=(List.range (k+1+1)).map fun i=>dl (pre t m i):=by
     rw[List.range_succ (n:=k+1),List.map_append];rfl
    show QaR [some (.k,tbD t),some (.o,hdD t m k),some (.k,dl r)]=_
    unfold QaR Qda
    simp only[List.getElem?_cons_succ,List.getElem?_cons_zero,hdD]
    have e3':eA (fun xs=>Qbg (xs++[])) (aCons (eIxO 1 (e1 dNeg (eC (.int 1)))) (aCons (eVar 2) aNil)) [some (.k,tbD t),some (.o,hdD t m k),some (.k,dl r)]=.ok (dl (pre t m (k+1))):=by
     simp only[eA,aCons,aNil,e1',eVar,Out.bind_ok,List.getElem?_cons_succ,List.getElem?_cons_zero,List.append_nil,s]
    rw[show(D.lst ((List.range (k+1)).map fun i=>dl (pre t m i)))=hdD t m k from rfl,e3',Out.bind_ok,if_pos hlt,hnext]
    rfl)
  [some (.k,tbD t),some (.o,hdD t m 0),none] ⟨_,rfl⟩
 rw[Nat.zero_add,List.length_map]at hL
 have hfor:=Qfv (g:=gN 2) (its:=itL (eVar 0)) (T:=QaR) (ς:=[some (.k,tbD t),some (.o,hdD t m 0),none]) (xs:=t.map dl) rfl hL
 rw[Qix]
 unfold QbE
 have hs:sSetO 1 (eLst (aCons (eComp [none] (itL (e2 dIx (eVar 0) (eC (.int 0)))) (gN 0) cTrue Qcn) aNil)) [some (.k,tbD t),none,none]=.ok (.nx [some (.k,tbD t),some (.o,hdD t m 0),none]):=by
  simp only[sSetO,eLst,aCons,aNil,hc,Out.bind_ok,List.length_cons,List.length_nil,Qbi,Nat.reduceAdd,Nat.reduceLeDiff,if_true];rfl
 simp only[sSeq,hs,Out.bind_ok,thenF,hfor]
 rfl
def ckF(t:List (List Int))(m:Nat):List (Str×D):=[("table",tbD t),("heads",hdD t m t.length)]
def ck(c:Str)(t:List (List Int))(m:Nat):D:=.ins c (ckF t m)
theorem Quz:(("heads":Str) == ("table":Str))=false:=dk
theorem QuY(t:List (List Int))(m:Nat):(ckF t m).lookup ("table":Str)=some (tbD t):=by
 unfold ckF;rw[List.lookup_cons,beq_self_eq_true]
theorem QuG(t:List (List Int))(m:Nat):(ckF t m).lookup ("heads":Str)=some (hdD t m t.length):=by
 unfold ckF;rw[List.lookup_cons,Quz,List.lookup_cons,beq_self_eq_true]
theorem Qtd{n:Str}(h1:(n == ("table":Str))=false)(h2:(n == ("heads":Str))=false)(t:List (List Int))(m:Nat):(ckF t m).lookup n=none:=by
 unfold ckF;rw[List.lookup_cons,h1,List.lookup_cons,h2];rfl
theorem put_h(t:List (List Int))(m:Nat):putD "heads" (hdD t m t.length) [("table",tbD t)]=ckF t m:=by
 have:¬ (("table":Str)=("heads":Str)):=dk
 unfold putD
 rw[if_neg this];rfl
theorem Qg2{c:Str}(hc:Qb.contains c=true){t:List (List Int)}{m:Nat}(h:Tb t m):Qr c [] [tbD t]=.ok (ckF t m):=by
 have hk:eComp [none] (itL (eVar 1)) (gN 0) cTrue Qbw [some (.s,.ins c []),some (.k,tbD t)]=.ok (tbD t):=by
  rw[Qhv (xs:=t.map dl) (h:=id) rfl ?_ (by rw[List.length_map];have:=h.n2;omega),List.map_id]
  ·rfl
  ·intro x hx
   obtain⟨r,_,rfl⟩:=List.mem_map.mp hx
   rfl
 have r1:=Qo8 h
 have hz:∀ n:Nat,n<10->(Qb.contains c&&decide (n<1000))=true:=fun n hn=>by rw[hc,Bool.true_and];exact decide_eq_true (by omega)
 have s1:sFldS Qb "table" 0 (eComp [none] (itL (eVar 1)) (gN 0) cTrue Qbw) [some (.s,.ins c []),some (.k,tbD t)]=.ok (.nx [some (.s,.ins c [("table",tbD t)]),some (.k,tbD t)]):=by
  unfold sFldS
  rw[hk,Out.bind_ok]
  show(if (Qb.contains c&&decide (([]:List (Str×D)).length<1000))=true then _ else _)=_
  exact(if_pos (c:=(Qb.contains c&&decide (0<1000))=true) (hz 0 (by decide))).trans rfl
 have s2:sFldS Qb "heads" 0 (eA (fun xs=>QV (xs++[])) (aCons (eVar 1) aNil)) [some (.s,.ins c [("table",tbD t)]),some (.k,tbD t)]=.ok (.nx [some (.s,.ins c (ckF t m)),some (.k,tbD t)]):=by
  unfold sFldS
  have:eA (fun xs=>QV (xs++[])) (aCons (eVar 1) aNil) [some (.s,.ins c [("table",tbD t)]),some (.k,tbD t)]=.ok (hdD t m t.length):=by
   simp only[eA,aCons,aNil,eVar,Out.bind_ok,List.getElem?_cons_succ,List.getElem?_cons_zero,List.append_nil,r1]
  rw[this,Out.bind_ok]
  show(if (Qb.contains c&&decide ([(("table":Str),tbD t)].length<1000))=true then _ else _)=_
  refine(if_pos (c:=(Qb.contains c&&decide (1<1000))=true) (hz 1 (by decide))).trans ?_
  rw[put_h];rfl
 rw[Qg6]
 unfold Qa8
 simp only[sSeq,s1,QuM,Out.bind_ok,thenF,s2]
 simp only[QcS,QgG,List.getElem?_cons_zero,if_true]
theorem Qbd{c:Str}(hc:Qb.contains c=true){t:List (List Int)}{m:Nat}{n:Str}{mt:Str->List D->Out D}{O:SD->Out D}{A:SD->Out (List D)}{ς:SD}{xs:List D}(hO:O ς=.ok (ck c t m))(hA:A ς=.ok xs)(h1:(n == ("table":Str))=false)(h2:(n == ("heads":Str))=false):
 eMeth Qb n mt O A ς=mt c (ck c t m::xs):=by
 unfold eMeth
 rw[hO,Out.bind_ok]
 show(if (Qb.contains c&&((ckF t m).lookup n).isNone)=true then A ς>>=fun xs=>mt c (.ins c (ckF t m)::xs) else .stuck)=_
 simp only[Qtd h1 h2,hc,Option.isNone_none,Bool.and_self,if_true,hA,Out.bind_ok]
 rfl
theorem fld_t{c:Str}(hc:Qb.contains c=true)(t:List (List Int))(m:Nat):dFld Qb "table" (ck c t m)=.ok (tbD t):=by
 show(if Qb.contains c=true then optO ((ckF t m).lookup ("table":Str)) else .stuck)=_
 rw[if_pos hc,QuY];rfl
theorem fld_h{c:Str}(hc:Qb.contains c=true)(t:List (List Int))(m:Nat):dFld Qb "heads" (ck c t m)=.ok (hdD t m t.length):=by
 show(if Qb.contains c=true then optO ((ckF t m).lookup ("heads":Str)) else .stuck)=_
 rw[if_pos hc,QuG];rfl
theorem QjL{c:Str}(hc:Qb.contains c=true)(t:List (List Int))(m:Nat):Qp [ck c t m]=.ok (.int (t.length:Int)):=by
 have:fLen [tbD t]=.ok (.int (t.length:Int)):=by simp[fLen,tbD]
 simp only[QiI,QbK,sRet,eA,aCons,aNil,e1,eVar,List.getElem?_cons_zero,Out.bind_ok,fld_t hc,this]
 rfl
theorem per_m{c:Str}(hc:Qb.contains c=true)(t:List (List Int))(m:Nat){ς:SD}(h:ς[0]?=some (some (.k,ck c t m))):eMeth Qb "period" (fun _=>Qp) (eVar 0) aNil ς=.ok (.int (t.length:Int)):=by
 rw[Qbd (c:=c) (t:=t) (m:=m) hc (xs:=[]) (by unfold eVar;rw[h]) rfl (dk) (dk)]
 exact QjL hc t m
theorem hd_ix{t:List (List Int)}{m k:Nat}(hk:k<=t.length):dIx (hdD t m t.length) (.int (k:Int))=.ok (dl (pre t m k)):=ixL k (by rw[List.getElem?_map,List.getElem?_range (by omega)];rfl)
theorem Qsm{c:Str}(hc:Qb.contains c=true)(t:List (List Int))(m:Nat):Qaj [ck c t m]=.ok (dl (pre t m t.length)):=by
 rw[Qkb]
 unfold Qcb sRetF
 simp only[e1,e2,eVar,List.getElem?_cons_zero,Out.bind_ok,fld_h hc,per_m hc t m (ς:=[some (.k,ck c t m)]) rfl,hd_ix (Nat.le_refl _)]
 rfl
def sf(t:List (List Int))(x:Int)(j:Nat):Int:=x / (t.length:Int) * cs t t.length j+cs t (x % (t.length:Int)).toNat j
theorem QsF(f:Int->Int->Int)(t:List (List Int))(m a b:Nat):List.zipWith f (pre t m a) (pre t m b)=(List.range m).map fun j=>f (cs t a j) (cs t b j):=by
 unfold pre
 rw[List.zipWith_map,List.zipWith_self]
theorem Qqz{c:Str}(hc:Qb.contains c=true){t:List (List Int)}{m:Nat}(h:Tb t m){x:Int}(h0:0<=x)(hx:x.natAbs<2 ^ 4000)(hcs:∀ k j,(cs t k j).natAbs<2 ^ 100):Qt [ck c t m,.int x]=.ok (dl ((List.range m).map (sf t x))):=by
 have n1:=h.n1
 have hn:(0:Int)<(t.length:Int):=by omega
 have hb:big (t.length:Int)=true:=Qry (n:=10) (by have:=h.n2;show((t.length:Int)).natAbs<2 ^ 10;omega) (by decide)
 have fd:dFdiv (.int x) (.int (t.length:Int))=.ok (.int (x / (t.length:Int))):=QjP hn hb
 have md:dMod (.int x) (.int (t.length:Int))=.ok (.int (x % (t.length:Int))):=Qa0 hn
 have r0:=Int.emod_nonneg x (show(t.length:Int)≠0 by omega)
 have r1:=Int.emod_lt_of_pos x hn
 have hr:((x % (t.length:Int)).toNat:Int)=x % (t.length:Int):=by omega
 have hix:=hd_ix (t:=t) (m:=m) (k:=(x % (t.length:Int)).toNat) (by omega)
 rw[hr]at hix
 have qb:(x / (t.length:Int)).natAbs<2 ^ 4000:=Nat.lt_of_le_of_lt (Int.natAbs_ediv_le_natAbs x _) hx
 have hcomp:=QhK (js:=[none,none,some 2]) (its:=itZ (eMeth Qb "whole" (fun _=>Qaj) (eVar 0) aNil) (eVar 3)) (e:=Qbz)
  (ς:=[some (.k,ck c t m),some (.k,.int x),some (.k,.int (x / (t.length:Int))),some (.k,dl (pre t m (x % (t.length:Int)).toNat))]) (a:=pre t m t.length) (b:=pre t m (x % (t.length:Int)).toNat) (fun w v=>x / (t.length:Int) * w+v)
  (by
   unfold itZ
   rw[Qbd (c:=c) (t:=t) (m:=m) hc (xs:=[]) rfl rfl (dk) (dk),Qsm hc t m]
   rfl)
  (by
   intro w hw v hv
   obtain⟨j,_,rfl⟩:=List.mem_map.mp hw
   have mm:dMul (.int (x / (t.length:Int))) (.int (cs t t.length j))=.ok (.int (x / (t.length:Int) * cs t t.length j)):=Qoz (QcY qb) (QcY (hcs _ _)) (by decide)
   show(e2 dAdd (e2 dMul (eVar 2) (eVar 0)) (eVar 1) [some (.k,.int (cs t t.length j)),some (.k,.int v),some (.k,.int (x / (t.length:Int)))]>>=fun y=>Out.ok (some y))=_
   simp only[e2,eVar,List.getElem?_cons_succ,List.getElem?_cons_zero,Out.bind_ok,mm,QY])
  (by simp[pre];have:=h.m6;omega)
 rw[QsF]at hcomp
 rw[QeJ]
 unfold Qam
 simp only[sSeq,sSet,e1,e2,eVar,List.getElem?_cons_succ,List.getElem?_cons_zero,Out.bind_ok,thenF,per_m hc t m (ς:=[some (.k,ck c t m),some (.k,.int x),none,none]) rfl,fd,md,List.set_cons_succ,List.set_cons_zero,
  per_m hc t m (ς:=[some (.k,ck c t m),some (.k,.int x),some (.k,.int (x / (t.length:Int))),none]) rfl,fld_h hc,hix,sRetF,hcomp]
 rfl
theorem QsY{c:Str}(hc:Qb.contains c=true){t:List (List Int)}{m:Nat}(h:Tb t m){s x:Int}(s0:0<=s)(x0:0<=x)(hs:s.natAbs<2 ^ 4000)(hx:(s+x).natAbs<2 ^ 4000)(hcs:∀ k j,(cs t k j).natAbs<2 ^ 100):
 Q1 [ck c t m,.int s,.int x]=.ok (dl ((List.range m).map fun j=>sf t (s+x) j - sf t s j)):=by
 have f1':=Qqz hc h (x:=s+x) (by omega) hx hcs
 have f2':=Qqz hc h (x:=s) s0 hs hcs
 have g1:∀ ς:SD,ς[0]?=some (some (.k,ck c t m))->ς[1]?=some (some (.k,.int s))->ς[2]?=some (some (.k,.int x))->eMeth Qb "sent_from_start" (fun _=>Qt) (eVar 0) (aCons (e2 dAdd (eVar 1) (eVar 2)) aNil) ς=.ok (dl ((List.range m).map (sf t (s+x)))):=fun ς h0 h1 h2=>by
  rw[Qbd (c:=c) (t:=t) (m:=m) hc (xs:=[.int (s+x)]) (by unfold eVar;rw[h0]) (by simp only[aCons,aNil,e2,eVar,h1,h2,Out.bind_ok,QY]) (dk) (dk)]
  exact f1'
 have g2:∀ ς:SD,ς[0]?=some (some (.k,ck c t m))->ς[1]?=some (some (.k,.int s))->eMeth Qb "sent_from_start" (fun _=>Qt) (eVar 0) (aCons (eVar 1) aNil) ς=.ok (dl ((List.range m).map (sf t s))):=fun ς h0 h1=>by
  rw[Qbd (c:=c) (t:=t) (m:=m) hc (xs:=[.int s]) (by unfold eVar;rw[h0]) (by simp only[aCons,aNil,eVar,h1,Out.bind_ok]) (dk) (dk)]
  exact f2'
 have hcomp:=QhK (js:=[none,none]) (its:=itZ (eVar 3) (eVar 4)) (e:=QfJ)
  (ς:=[some (.k,ck c t m),some (.k,.int s),some (.k,.int x),some (.k,dl ((List.range m).map (sf t (s+x)))),some (.k,dl ((List.range m).map (sf t s)))]) (a:=(List.range m).map (sf t (s+x))) (b:=(List.range m).map (sf t s)) (· - ·) rfl (fun _ _ _ _=>rfl) (by simp;have:=h.m6;omega)
 rw[List.zipWith_map,List.zipWith_self]at hcomp
 rw[QlC]
 unfold QcJ
 simp only[sSeq,sSet,g1 [some (.k,ck c t m),some (.k,.int s),some (.k,.int x),none,none] rfl rfl rfl,Out.bind_ok,thenF,List.set_cons_succ,List.set_cons_zero,g2 [some (.k,ck c t m),some (.k,.int s),some (.k,.int x),some (.k,dl ((List.range m).map (sf t (s+x)))),none] rfl rfl,sRetF,hcomp]
 rfl
theorem Qj7(i:Int):Qa1 [.int i]=.ok (.bl true):=by
 exists"E",Qa1,Qe7
theorem QqU(a:List Int)(hl:a.length<=1000):QaX [dl a,dl a]=.ok (.bl true):=by
 have hlen:fLen [dl a]=.ok (.int (a.length:Int)):=by simp[fLen,dl]
 obtain⟨ς',hL,a2,rfl⟩:=QpX (body:=fun x ς=>gN 2 x ς>>=fun ς'=>QbV ς') (n:=a.length) (P:=fun ς=>∃ a2,ς=[some (.k,dl a),some (.k,dl a),a2])
  (by
   rintro k hk ς ⟨a2,rfl⟩
   have hix:dIx (dl a) (.int (k:Int))=.ok (.int a[k]):=ixL k (by rw[List.getElem?_map,List.getElem?_eq_getElem hk];rfl)
   refine⟨[some (.k,dl a),some (.k,dl a),some (.k,.int k)],?_,_,rfl⟩
   exists"E",QbV,hix,Qj7)
  [some (.k,dl a),some (.k,dl a),none] ⟨_,rfl⟩
 have hfor:=Qfv (g:=gN 2) (its:=itR1 (eA fLen (aCons (eVar 1) aNil))) (T:=QbV) (QbC a.length (by simp only[eA,aCons,aNil,eVar,Out.bind_ok,List.getElem?_cons_succ,List.getElem?_cons_zero,hlen]) (Nat.le_trans hl (by decide))) hL
 show QaX [.lst (a.map .int),.lst (a.map .int)]=_
 have hlen':fLen [.lst (a.map D.int)]=.ok (.int (a.length:Int)):=hlen
 have hfor':sFor (gN 2) (itR1 (eA fLen (aCons (eVar 1) aNil))) QbV [some (.k,.lst (a.map .int)),some (.k,.lst (a.map .int)),none]=.ok (.nx [some (.k,.lst (a.map .int)),some (.k,.lst (a.map .int)),a2]):=hfor
 rw[Qq8]
 unfold QeN
 rw[sSeq]
 have h1:sIf (tOr' (tNot' (tVal (eIsa (isaT "list") (eVar 0)))) (tVal (e2 dNe (eA fLen (aCons (eVar 0) aNil)) (eA fLen (aCons (eVar 1) aNil))))) (sRet (eC (.bl false))) sNil [some (.k,.lst (a.map .int)),some (.k,.lst (a.map .int)),none]=.ok (.nx [some (.k,.lst (a.map .int)),some (.k,.lst (a.map .int)),none]):=by
  simp[sIf,tOr',tNot',tVal,eIsa,isaT,Qbt,eVar,e2,eA,aCons,aNil,hlen',Qea,sNil]
 rw[h1,Out.bind_ok,thenF,sSeq,hfor',Out.bind_ok,thenF]
 simp[sRet,eC,retF]
theorem QoE{x:D}{m:Nat}(h:m<=1000):dRep (.lst [x]) (.int (m:Int))=.ok (.lst (List.replicate m x)):=by
 unfold dRep
 simp only[Int.toNat_natCast,List.flatten_replicate_singleton,List.length_cons,List.length_nil]
 rw[if_pos]
 rw[Bool.and_eq_true,Bool.and_eq_true]
 exact⟨⟨decide_eq_true (by omega),decide_eq_true (by omega)⟩,QfN (by omega)⟩
theorem cs_le{t:List (List Int)}{m:Nat}(h:Tb t m)(k j:Nat):0<=cs t k j/\cs t k j<=9 * (t.length:Int):=by
 have key:∀ l:List (List Int),(∀ r∈l,r∈t)->0<=(l.map fun r=>r.getD j 0).sum/\(l.map fun r=>r.getD j 0).sum<=9 * (l.length:Int):=by
  intro l
  induction l with
  | nil=>intro _;simp
  | cons r l ih=>
   intro hr
   have i1:=ih fun x hx=>hr x (List.mem_cons_of_mem _ hx)
   have h0:0<=r.getD j 0/\r.getD j 0<=9:=by
    rw[List.getD_eq_getElem?_getD]
    cases hx:r[j]? with
    | none=>decide
    | some x=>exact h.ent r (hr r (List.mem_cons_self ..)) x (List.mem_of_getElem? hx)
   rw[List.map_cons,List.sum_cons,List.length_cons]
   omega
 have:=key (t.take k) fun r hr=>List.mem_of_mem_take hr
 unfold cs
 have hl:(t.take k).length<=t.length:=by rw[List.length_take];omega
 omega
theorem Qsk{t:List (List Int)}{m:Nat}(h:Tb t m)(k j:Nat):(cs t k j).natAbs<2 ^ 100:=by
 have:=cs_le h k j
 have:=h.n2
 omega
theorem QqR(i:Int):Qbr [.int i]=.ok (.bl true):=by
 rw[QpW];exists"E",Qd6
theorem QgJ{i a b:Int}(h1:a<=i)(h2:i<=b):Q7 [.int i,.int a,.int b]=.ok (.bl true):=by
 have hw:=QqR i
 have e1':decide (a<=i)=true:=decide_eq_true h1
 have e2':decide (i<=b)=true:=decide_eq_true h2
 rw[Qn6]
 exists"E",Qdn,hw,QbY,h1,h2
theorem Qlr{r:List Int}(hl:r.length<=6)(h:∀ x∈r,0<=x/\x<=9):Qbk [dl r]=.ok (.bl true):=by
 have hlen:fLen [dl r]=.ok (.int (r.length:Int)):=by simp[fLen,dl]
 have hc:eComp [none] (itL (eVar 0)) (gN 0) cTrue Qf0 [some (.k,dl r)]=.ok (.lst (r.map fun _=>D.bl true)):=by
  refine Qbb D.int (fun _=>.bl true) rfl (fun x hx=>?_) (by omega)
  have hw:=QgJ (h x hx).1 (h x hx).2
  refine Qax (by walk_at "cap") (by walk_at "s") ?_
  unfold Qf0
  (repeat walk_at "e")
 have ha:fAll (.lst (r.map fun _=>D.bl true))=.ok (.bl true):=by rw[Qk0 (fun _=>true)];simp
 have hf:f1 fAll [.lst (r.map fun _=>D.bl true)]=.ok (.bl true):=ha
 have hi:isaT "list" (dl r)=.ok true:=by simp[isaT,dl,Qbt]
 have hg:decide ((6:Int)<(r.length:Int))=false:=decide_eq_false (by omega)
 rw[Qsx]
 unfold Qf1
 (repeat walk_at "e")
theorem Qpb{t:List (List Int)}{m:Nat}(h:Tb t m):Qbj [tbD t]=.ok (.bl true):=by
 obtain⟨n1,n2,m6,row,ent'⟩:=h
 have hlen:fLen [tbD t]=.ok (.int (t.length:Int)):=by simp[fLen,tbD]
 have hc:eComp [none] (itL (eVar 0)) (gN 0) cTrue Qeq [some (.k,tbD t)]=.ok (.lst (t.map fun _=>D.bl true)):=by
  refine Qbb dl (fun _=>.bl true) rfl (fun x hx=>?_) (by omega)
  have hw:=Qlr (r:=x) (by rw[row x hx];exact m6) (ent' x hx)
  refine Qax (by walk_at "cap") (by walk_at "s") ?_
  unfold Qeq
  (repeat walk_at "e")
 have r0:t[0]?=some t[0]:=by simp
 have hr0:(t[0]).length=m:=row _ (List.getElem_mem _)
 have hix0:dIx (tbD t) (.int 0)=.ok (dl t[0]):=ixL 0 (by rw[List.getElem?_map,r0];rfl)
 have hl0:fLen [dl t[0]]=.ok (.int (m:Int)):=by simp[fLen,dl,hr0]
 have hc2:eComp [none,some 0] (itL (eVar 0)) (gN 0) cTrue Qep [some (.k,tbD t)]=.ok (.lst (t.map fun _=>D.bl true)):=by
  refine Qbb dl (fun _=>.bl true) rfl (fun x hx=>?_) (by omega)
  have hlx:fLen [dl x]=.ok (.int (m:Int)):=by simp[fLen,dl,row x hx]
  have he:dEq (.int (m:Int)) (.int (m:Int))=.ok (.bl true):=by rw[QbM];simp
  refine Qax (by walk_at "cap") (by walk_at "s") ?_
  unfold Qep
  (repeat walk_at "e")
 have ha:fAll (.lst (t.map fun _=>D.bl true))=.ok (.bl true):=by rw[Qk0 (fun _=>true)];simp
 have hf:f1 fAll [.lst (t.map fun _=>D.bl true)]=.ok (.bl true):=ha
 have hi:isaT "list" (tbD t)=.ok true:=by simp[isaT,tbD,Qbt]
 have hg:decide ((1:Int)<=(t.length:Int))=true:=decide_eq_true (by omega)
 have hg2:decide ((t.length:Int)<=12)=true:=decide_eq_true (by omega)
 rw[QpT]
 unfold Qd5
 (repeat walk_at "e")
theorem QgR{c:Str}(hc:Qb.contains c=true){t:List (List Int)}{m:Nat}(h:Tb t m):Q5 c [] [tbD t]=.ok (ckF t m):=by
 have h1:=Qpb h
 have h2:=Qg2 hc h
 rw[Qm7]
 unfold Qdk
 (repeat walk_at "e")
theorem QjD{c:Str}(hc:Qb.contains c=true){r:List Int}{m:Nat}(h:Tb [r] m):Qar c [] [dl r]=.ok (ckF [r] m):=by
 have h1:=Qlr (r:=r) (by rw[h.row r (by simp)];exact h.m6) (h.ent r (by simp))
 have h2:Qr c [] [.lst [dl r]]=.ok (ckF [r] m):=Qg2 hc h
 rw[QmO]
 unfold Qdr
 (repeat walk_at "e")
def one(n s:Nat):List Int:=(List.range n).map fun k=>if k=s then 1 else 0
def dealT(n:Nat):List (List Int):=(List.range n).map (one n)
def bunT(n:Nat):List (List Int):=(List.range n).map fun s=>[if s+1=n then 1 else 0]
theorem QqM{n s:Nat}(h:n<=100):QaO [.int n,.int s]=.ok (dl (one n s)):=by
 have hc:eComp [none,some 1] (itR1 (eVar 0)) (gN 0) cTrue Qc7 [some (.k,.int n),some (.k,.int s)]=.ok (.lst ((List.range n).map fun k=>D.int (if k=s then 1 else 0))):=by
  refine Qcm (fun k=>D.int (if k=s then 1 else 0)) (QbC n rfl (by omega)) (fun k hk=>?_) (by omega)
  refine Qax (by walk_at "cap") (by walk_at "s") ?_
  unfold Qc7
  by_cases e:k=s
  ·have e':decide ((k:Int)=(s:Int))=true:=decide_eq_true (by omega)
   rw[if_pos e]
   (repeat walk_at "e")
  ·have e':decide ((k:Int)=(s:Int))=false:=decide_eq_false (by omega)
   rw[if_neg e]
   (repeat walk_at "e")
 have he:dl (one n s)=.lst ((List.range n).map fun k=>D.int (if k=s then 1 else 0)):=by unfold dl one;rw[List.map_map];rfl
 rw[he,Ql8]
 unfold QcB
 (repeat walk_at "e")
theorem QoQ{n:Nat}(h1:1<=n)(h6:n<=6):Tb (dealT n) n:=by
 refine⟨by simp[dealT];omega,by simp[dealT];omega,h6,fun r hr=>?_,fun r hr x hx=>?_⟩<;>obtain⟨s,_,rfl⟩:=List.mem_map.mp hr
 ·simp[one]
 ·obtain⟨k,_,rfl⟩:=List.mem_map.mp hx
  split<;>decide
theorem Qrt{n:Nat}(h1:1<=n)(h6:n<=12):Tb (bunT n) 1:=by
 refine⟨by simp[bunT];omega,by simp[bunT];omega,by decide,fun r hr=>?_,fun r hr x hx=>?_⟩<;>obtain⟨s,_,rfl⟩:=List.mem_map.mp hr
 ·simp
 ·rw[List.mem_singleton.mp hx]
  split<;>decide
theorem QjV{c:Str}(hc:Qb.contains c=true){n:Nat}(n1:1<=n)(n6:n<=6):Qat c [] [.int n]=.ok (ckF (dealT n) n):=by
 have h1:=QgJ (i:=n) (a:=1) (b:=6) (by omega) (by omega)
 have h2:=Qg2 hc (QoQ n1 n6)
 have hc':eComp [none,some 1] (itR1 (eVar 1)) (gN 0) cTrue QdH [some (.s,.ins c []),some (.k,.int n)]=.ok (tbD (dealT n)):=by
  have he:tbD (dealT n)=.lst ((List.range n).map fun s=>dl (one n s)):=by unfold tbD dealT;rw[List.map_map];rfl
  rw[he]
  refine Qcm (fun s=>dl (one n s)) (QbC n rfl (by omega)) (fun k hk=>?_) (by omega)
  have hs:=QqM (n:=n) (s:=k) (by omega)
  refine Qax (by walk_at "cap") (by walk_at "s") ?_
  unfold QdH
  (repeat walk_at "e")
 rw[Qm4]
 unfold Qdm
 (repeat walk_at "e")
theorem Qlf{c:Str}(hc:Qb.contains c=true){n:Nat}(n1:1<=n)(n6:n<=12):Qaa c [] [.int n]=.ok (ckF (bunT n) 1):=by
 have h1:=QgJ (i:=n) (a:=1) (b:=12) (by omega) (by omega)
 have h2:=Qg2 hc (Qrt n1 n6)
 have hc':eComp [none,some 1] (itR1 (eVar 1)) (gN 0) cTrue QcP [some (.s,.ins c []),some (.k,.int n)]=.ok (tbD (bunT n)):=by
  have he:tbD (bunT n)=.lst ((List.range n).map fun s=>D.lst [.int (if s+1=n then 1 else 0)]):=by unfold tbD bunT;rw[List.map_map];rfl
  rw[he]
  refine Qcm (fun s=>D.lst [.int (if s+1=n then 1 else 0)]) (QbC n rfl (by omega)) (fun k hk=>?_) (by omega)
  refine Qax (by walk_at "cap") (by walk_at "s") ?_
  unfold QcP
  by_cases e:k+1=n
  ·have e':decide ((k:Int)=(n:Int) - 1)=true:=decide_eq_true (by omega)
   rw[if_pos e]
   (repeat walk_at "e")
  ·have e':decide ((k:Int)=(n:Int) - 1)=false:=decide_eq_false (by omega)
   rw[if_neg e]
   (repeat walk_at "e")
 rw[Qkw]
 unfold Qb9
 (repeat walk_at "e")
theorem Qgs{t:List (List Int)}(h:1<=t.length)(x q:Int)(j:Nat):sf t (x+(t.length:Int) * q) j=sf t x j+q * cs t t.length j:=by
 unfold sf
 rw[Int.add_mul_ediv_left _ _ (by omega),Int.add_mul_emod_self_left]
 grind
theorem QtY{t:List (List Int)}(h:1<=t.length)(x g:Int)(j:Nat):sf t (x+g) j - sf t x j=sf t (x % (t.length:Int)+g) j - sf t (x % (t.length:Int)) j:=by
 have e:=Int.emod_add_mul_ediv x (t.length:Int)
 have a1:=Qgs h (x % (t.length:Int)) (x / (t.length:Int)) j
 have a2:=Qgs h (x % (t.length:Int)+g) (x / (t.length:Int)) j
 rw[e]at a1
 rw[show x % (t.length:Int)+g+(t.length:Int) * (x / (t.length:Int))=x+g by omega]at a2
 rw[a1,a2]
 omega
theorem Qs6{t:List (List Int)}(j:Nat):sf t 0 j=0:=by
 unfold sf cs;simp
theorem ix_t{xs:List D}{d:D}(i:Nat)(h:xs[i]?=some d):dIx (.tup xs) (.int (i:Int))=.ok d:=by
 show optO (atI xs (i:Int))=_
 have hi:i<xs.length:=(List.getElem?_eq_some_iff.mp h).1
 have:atI xs (i:Int)=some d:=by
  unfold atI ixN
  rw[if_pos (by omega),if_pos (by omega)]
  simpa using h
 rw[this];rfl
theorem QtN{c:Str}(hc:Qb.contains c=true){t:List (List Int)}{m:Nat}(h:Tb t m):Qaw [ck c t m]=.ok (.int (m:Int)):=by
 have n1:=h.n1
 have r0:t[0]?=some t[0]:=by simp
 have hix:dIx (tbD t) (.int 0)=.ok (dl t[0]):=ixL 0 (by rw[List.getElem?_map,r0];rfl)
 have hl0:fLen [dl t[0]]=.ok (.int (m:Int)):=by simp[fLen,dl,h.row _ (List.getElem_mem _)]
 have hf:=fld_t hc t m
 rw[QlZ]
 unfold QcG
 (repeat walk_at "e")
structure Tx(x:Str)(n:Nat):Prop where
 ok:PyData.strOk x=true
 len:x.length<=n
theorem QqW{x y:Str}(hx:PyData.strOk x=true)(hy:PyData.strOk y=true):PyData.strOk (x++y)=true:=by
 show(x.cps++y.cps).all _=true
 rw[Array.all_append]
 exact Bool.and_eq_true_iff.mpr ⟨hx,hy⟩
theorem QtV(x y:Str):(x++y).length=x.length+y.length:=by
 show(x.cps++y.cps).size=_
 rw[Array.size_append];rfl
theorem Tx.app{x y:Str}{m n:Nat}(h:Tx x m)(h':Tx y n):Tx (x++y) (m+n):=⟨QqW h.ok h'.ok,by rw[QtV];have:=h.len;have:=h'.len;omega⟩
theorem Tx.le{x:Str}{m n:Nat}(h:Tx x m)(hn:m<=n):Tx x n:=⟨h.ok,Nat.le_trans h.len hn⟩
theorem Qrf{x y:Str}{m n:Nat}(h:Tx x m)(h':Tx y n)(hs:m+n<=100000):dAdd (.str x) (.str y)=.ok (.str (x++y)):=by
 show(if x.length+y.length<=sizeLine then _ else _)=_
 rw[if_pos]
 have:=h.len
 have:=h'.len
 have h2:(100000:Nat)<=sizeLine:=by decide
 omega
def it(k:Int):Str:=((toString k:String):Str)
theorem QtP{i:Int}(h:decide (i.natAbs.log2<1920)=true):dStr (.int i)=.ok (.str (it i)):=by
 show(if decide (i.natAbs.log2<1920)=true then Out.ok (D.str (it i)) else .stuck)=_
 rw[if_pos h]
theorem f1Str{i:Int}(h:decide (i.natAbs.log2<1920)=true):f1 dStr [.int i]=.ok (.str (it i)):=by
 show dStr (.int i)=_
 exact QtP h
theorem Qgr{k:Int}(h0:0<=k)(h1:k<=12):f1 dStr [.int k]=.ok (.str (it k))/\Tx (it k) 2:=by
 have:k=0∨k=1∨k=2∨k=3∨k=4∨k=5∨k=6∨k=7∨k=8∨k=9∨k=10∨k=11∨k=12:=by omega
 rcases this with rfl | rfl | rfl | rfl | rfl | rfl | rfl | rfl | rfl | rfl | rfl | rfl | rfl<;>exact⟨f1Str (dk),dk,dk⟩
theorem streq{a b:Str}{z:Bool}(ha:PyData.strOk a=true:=by decide +kernel)(hb:PyData.strOk b=true:=by decide +kernel)(h:(a == b)=z:=by decide +kernel):dEq (.str a) (.str b)=.ok (.bl z):=by rw[QtS ha hb,h]
theorem QoL{x:Str}{a B:Nat}(hx:Tx x a):∀(l:List Str)(acc:Str)(n:Nat),Tx acc n->(∀ y∈l,Tx y B)->Tx ⟨l.foldl (fun acc p=>acc++x.cps++p.cps) acc.cps⟩ (n+l.length * (a+B))
 | [],acc,n,h,_=>by
  show Tx acc _
  exact h.le (by simp)
 | y::l,acc,n,h,hl=>by
  have:=QoL hx l (acc++x++y) _ ((h.app hx).app (hl y (List.mem_cons_self ..))) fun z hz=>hl z (List.mem_cons_of_mem _ hz)
  refine Tx.le (show Tx ⟨l.foldl (fun acc p=>acc++x.cps++p.cps) (acc++x++y).cps⟩ _ from this) ?_
  rw[List.length_cons,Nat.succ_mul];omega
theorem QoS{x:Str}{a B:Nat}(hx:Tx x a)(ys:List Str)(h:∀ y∈ys,Tx y B):Tx (Txt.join x ys) (ys.length * (a+B)):=by
 cases ys with
 | nil=>exact⟨(dk:PyData.strOk (⟨Str.empty.cps⟩:Str)=true),Nat.zero_le _⟩
 | cons y l=>
  refine Tx.le (QoL hx l y B (h y (List.mem_cons_self ..)) fun z hz=>h z (List.mem_cons_of_mem _ hz)) ?_
  rw[List.length_cons,Nat.succ_mul];omega
theorem QoO{B:Nat}:∀ ys:List Str,(∀ y∈ys,Tx y B)->(ys.map fun y=>y.length).sum<=ys.length * B
 | [],_=>by simp
 | y::l,h=>by
  have h1:=(h y (List.mem_cons_self ..)).len
  have h2:=QoO l fun z hz=>h z (List.mem_cons_of_mem _ hz)
  rw[List.map_cons,List.sum_cons,List.length_cons,Nat.succ_mul];omega
theorem Qp7{x:Str}{a B:Nat}(hx:Tx x a)(ys:List Str)(h:∀ y∈ys,Tx y B)(hb:ys.length * (a+B)<=1000000):fJoin (.str x) [.lst (ys.map .str)]=.ok (.str (Txt.join x ys)):=by
 unfold fJoin
 show(match strsJ (ys.map D.str) with
  | some ys=>if decide ((ys.map fun(y:Str)=>y.length).sum+ys.length * x.length<=16777216)=true then Out.ok (D.str (Txt.join x ys)) else Out.stuck
  | none=>Out.stuck)=_
 rw[Qjx]
 show(if decide ((ys.map fun y=>y.length).sum+ys.length * x.length<=16777216)=true then Out.ok (D.str (Txt.join x ys)) else Out.stuck)=_
 have h1:=QoO ys h
 have h2:ys.length * x.length<=ys.length * a:=Nat.mul_le_mul_left _ hx.len
 rw[Nat.mul_add]at hb
 rw[if_pos (decide_eq_true (by omega))]
theorem QrH{O E:SD->Out D}{ς:SD}{x:Str}{d:D}{r:Out D}(ho:O ς=.ok (.str x))(he:E ς=.ok d)(h:fJoin (.str x) [d]=r):eSm fJoin O (aCons E aNil) ς=r:=by
 unfold eSm
 rw[ho,Out.bind_ok]
 show(aCons E aNil ς>>=fun ys=>fJoin (.str x) ys)=r
 rw[Qj he r_nil];exact h
def rowT(r:List Int):Str:=if r.length=0 then "-" else Txt.join "," (r.map it)
def wordT(c:Str):Str:=if c=("Deal":Str) then "deal" else if c=("Bundle":Str) then "bundle" else if c=("Copy":Str) then "copy" else "rows"
def numT(c:Str)(t:List (List Int)):Str:=if c=("Deal":Str)∨c=("Bundle":Str) then it (t.length:Int) else Txt.join "/" (t.map rowT)
def ctext(c:Str)(t:List (List Int)):Str:=wordT c++(" ":Str)++numT c t
theorem tc:Tx (",":Str) 1:=⟨dk,dk⟩
theorem tsl:Tx ("/":Str) 1:=⟨dk,dk⟩
theorem tbl:Tx (" ":Str) 1:=⟨dk,dk⟩
theorem tmi:Tx ("-":Str) 1:=⟨dk,dk⟩
theorem Qjd{r:List Int}(hl:r.length<=6)(h:∀ x∈r,0<=x/\x<=9):Tx (rowT r) 20:=by
 unfold rowT
 split
 ·exact tmi.le (by decide)
 ·refine Tx.le (QoS tc (r.map it) (B:=2) fun y hy=>?_) (by rw[List.length_map];omega)
  obtain⟨x,hx,rfl⟩:=List.mem_map.mp hy
  obtain⟨h0,h9⟩:=h x hx
  exact(Qgr h0 (by omega)).2
theorem Qi3{c:Str}{t:List (List Int)}{m:Nat}(h:Tb t m):Tx (numT c t) 300:=by
 have n1:=h.n1
 have n2:=h.n2
 have m6:=h.m6
 unfold numT
 split
 ·exact((Qgr (k:=(t.length:Int)) (by omega) (by omega)).2).le (by decide)
 ·refine Tx.le (QoS tsl (t.map rowT) (B:=20) fun y hy=>?_) (by rw[List.length_map];omega)
  obtain⟨r,hr,rfl⟩:=List.mem_map.mp hy
  exact Qjd (by have:=h.row r hr;omega) (h.ent r hr)
theorem QhF(c:Str):Tx (wordT c) 6:=by
 unfold wordT
 split
 ·exact⟨dk,dk⟩
 ·split
  ·exact⟨dk,dk⟩
  ·split<;>exact⟨dk,dk⟩
theorem QsA{c:Str}{t:List (List Int)}{m:Nat}(h:Tb t m):Tx (ctext c t) 310:=(((QhF c).app tbl).app (Qi3 h)).le (by decide)
theorem QrN{r:List Int}(hl:r.length<=6)(h:∀ x∈r,0<=x/\x<=9):Qbh [dl r]=.ok (.str (rowT r)):=by
 have hlen:fLen [dl r]=.ok (.int (r.length:Int)):=by simp[fLen,dl]
 rw[Qpw]
 unfold QdZ
 by_cases e:r.length=0
 ·have he:dEq (.int (r.length:Int)) (.int 0)=.ok (.bl true):=by rw[QbM,decide_eq_true (by omega)]
  have er:rowT r="-":=if_pos e
  rw[er]
  exact Qav (fl:=.rt false (.str "-")) (r_seq (r_if (QX (r_e2 (r_eA (Qj (r_var rfl) r_nil) hlen) r_C he)) (Qcw rfl (r_ret r_C))) Qbu) r_rt
 ·have he:dEq (.int (r.length:Int)) (.int 0)=.ok (.bl false):=by rw[QbM,decide_eq_false (by omega)]
  have er:rowT r=Txt.join "," (r.map it):=if_neg e
  have hc:eComp [none] (itL (eVar 0)) (gN 0) cTrue Qei [some (.k,dl r)]=.ok (.lst ((r.map it).map .str)):=by
   rw[List.map_map]
   refine Qbb (l:=r) (fun x=>D.int x) (fun x=>D.str (it x)) rfl (fun x hx=>?_) (by omega)
   obtain⟨h0,h9⟩:=h x hx
   refine Qax (by walk_at "cap") (by walk_at "s") ?_
   unfold Qei
   exact r_eA (Qj (r_var rfl) r_nil) (Qgr h0 (by omega)).1
  have hj:=Qp7 tc (r.map it) (B:=2) (fun y hy=>by
   obtain⟨x,hx,rfl⟩:=List.mem_map.mp hy
   obtain⟨h0,h9⟩:=h x hx
   exact(Qgr h0 (by omega)).2) (by rw[List.length_map];omega)
  rw[er]
  exact Qav (fl:=.rt false (.str (Txt.join "," (r.map it)))) (r_seq (r_if (QX (r_e2 (r_eA (Qj (r_var rfl) r_nil) hlen) r_C he)) (Qex rfl Qag)) (Qn (r_ret (QrH r_C hc hj)))) r_rt
theorem Qua{c:Str}(hc:Qb.contains c=true){t:List (List Int)}{m:Nat}(h:Tb t m):Q0 [ck c t m]=.ok (.str (Txt.join "/" (t.map rowT))):=by
 have n2:=h.n2
 have m6:=h.m6
 have hf:=fld_t hc t m
 have hcm:eComp [none] (itL (e1 (dFld Qb "table") (eVar 0))) (gN 0) cTrue QbU [some (.k,ck c t m)]=.ok (.lst ((t.map rowT).map .str)):=by
  rw[List.map_map]
  refine Qbb (l:=t) (fun r=>dl r) (fun r=>D.str (rowT r)) (r_itL (r_e1 (r_var rfl) hf)) (fun r hr=>?_) (by omega)
  have hx:=QrN (r:=r) (by have:=h.row r hr;omega) (h.ent r hr)
  refine Qax (by walk_at "cap") (by walk_at "s") ?_
  unfold QbU
  exact Qac (xs:=[dl r]) (Qj (r_var rfl) r_nil) rfl hx
 have hj:=Qp7 tsl (t.map rowT) (B:=20) (fun y hy=>by
  obtain⟨r,hr,rfl⟩:=List.mem_map.mp hy
  exact Qjd (by have:=h.row r hr;omega) (h.ent r hr)) (by rw[List.length_map];omega)
 rw[Qic]
 unfold Qby
 exact Qav (fl:=.rt false (.str (Txt.join "/" (t.map rowT)))) (r_ret (QrH r_C hcm hj)) r_rt
theorem QuX{c:Str}(hc:Qb.contains c=true){t:List (List Int)}{m:Nat}:eMeth Qb "period" (fun _=>Qp) (eVar 0) aNil [some (.k,ck c t m)]=.ok (.int (t.length:Int)):=by
 rw[Qbd (c:=c) (t:=t) (m:=m) hc (xs:=[]) (r_var rfl) rfl (dk) (dk)]
 exact QjL hc _ _
theorem Qtl{c:Str}(hc:Qb.contains c=true){t:List (List Int)}{m:Nat}(h:Tb t m):Qay [ck c t m]=.ok (.str (ctext c t)):=by
 have n1:=h.n1
 have n2:=h.n2
 have hw:QaJ c [ck c t m]=.ok (.str (wordT c)):=by
  have hm:c∈Qb:=by simpa using hc
  simp only[Qb,List.mem_cons,List.not_mem_nil,or_false]at hm
  rcases hm with rfl | rfl | rfl | rfl
  ·rw[QgV];unfold wordT;rw[if_pos rfl];rfl
  ·rw[Qfu];unfold wordT;rw[if_neg (dk),if_pos rfl];rfl
  ·rw[QgI];unfold wordT;rw[if_neg (dk),if_neg (dk),if_pos rfl];rfl
  ·rw[QgH];unfold wordT;rw[if_neg (dk),if_neg (dk),if_neg (dk)];rfl
 have hp:=QuX hc (t:=t) (m:=m)
 have hst:=(Qgr (k:=(t.length:Int)) (by omega) (by omega)).1
 have hn:QW c [ck c t m]=.ok (.str (numT c t)):=by
  have hm:c∈Qb:=by simpa using hc
  have hnum:=Qua hc h
  simp only[Qb,List.mem_cons,List.not_mem_nil,or_false]at hm
  rcases hm with rfl | rfl | rfl | rfl
  ·rw[QeQ,QiG]
   unfold QbI numT
   rw[if_pos (.inl rfl)]
   exact Qav (r_ret (r_eA (Qj hp r_nil) hst)) r_rt
  ·rw[QdW,Qhz]
   unfold Qbq numT
   rw[if_pos (.inr rfl)]
   exact Qav (r_ret (r_eA (Qj hp r_nil) hst)) r_rt
  ·rw[QeU]
   unfold numT
   rw[if_neg (dk)];exact hnum
  ·rw[QeW]
   unfold numT
   rw[if_neg (dk)];exact hnum
 have m1:eMeth Qb "word" QaJ (eVar 0) aNil [some (.k,ck c t m)]=.ok (.str (wordT c)):=by
  rw[Qbd (c:=c) (t:=t) (m:=m) hc (xs:=[]) (r_var rfl) rfl (dk) (dk)]
  exact hw
 have m2:eMeth Qb "numbers" QW (eVar 0) aNil [some (.k,ck c t m)]=.ok (.str (numT c t)):=by
  rw[Qbd (c:=c) (t:=t) (m:=m) hc (xs:=[]) (r_var rfl) rfl (dk) (dk)]
  exact hn
 have a1:=Qrf (QhF c) tbl (by decide)
 have a2:=Qrf ((QhF c).app tbl) (Qi3 (c:=c) h) (by decide)
 rw[QmE]
 unfold QcL
 exact Qav (fl:=.rt false (.str (ctext c t))) (r_ret (r_e2 (r_e2 m1 r_C a1) m2 a2)) r_rt
def Kd(c:Str)(t:List (List Int))(m:Nat):Prop:=
 (c=("Deal":Str)/\∃ n:Nat,1<=n/\n<=6/\t=dealT n/\m=n)∨(c=("Bundle":Str)/\∃ n:Nat,1<=n/\n<=12/\t=bunT n/\m=1)∨(c=("Copy":Str)/\∃ r,t=[r]/\Tb [r] m)∨(c=("Rows":Str)/\Tb t m)
theorem r_ifT{P:SD->Out Bool}{T U:SD->Out Fl}{ς:SD}{b:Bool}{rf:Out Fl}(a:P ς=.ok b)(hb:b=true)(k:T ς=rf):sIf P T U ς=rf:=r_if a (Qcw hb k)
theorem r_ifF{P:SD->Out Bool}{T U:SD->Out Fl}{ς:SD}{b:Bool}{rf:Out Fl}(a:P ς=.ok b)(hb:b=false)(k:U ς=rf):sIf P T U ς=rf:=r_if a (Qex hb k)
theorem QoT{O E:SD->Out D}{ς:SD}{x y:Str}{ps:List Str}(ho:O ς=.ok (.str x))(he:E ς=.ok (.str y))(hy:(y.length == 0)=false)(hx:x.length<=100000)(h:Txt.split x y=ps):eSm QbZ O (aCons E aNil) ς=.ok (.lst (ps.map D.str)):=by
 unfold eSm
 rw[ho,Out.bind_ok]
 show(aCons E aNil ς>>=fun ys=>QbZ (.str x) ys)=_
 rw[Qj he r_nil]
 show(if (!(y.length == 0)&&decide (x.length+2<=sizeLine))=true then Out.ok (D.lst ((Txt.split x y).map D.str)) else .stuck)=_
 have h2:(100002:Nat)<=sizeLine:=by decide
 rw[if_pos (by rw[hy];simp;omega),h]
theorem rn_ok{k:Int}(h0:0<=k)(h1:k<=12):Q9 [.str (it k)]=.ok (.int k):=by
 have:k=0∨k=1∨k=2∨k=3∨k=4∨k=5∨k=6∨k=7∨k=8∨k=9∨k=10∨k=11∨k=12:=by omega
 rcases this with rfl | rfl | rfl | rfl | rfl | rfl | rfl | rfl | rfl | rfl | rfl | rfl | rfl<;>kernel_rfl
def figs(x:Str):Bool:=x.cps.toList.all fun c=>decide (48<=c)&&decide (c<=57)
theorem QiZ{k:Int}(h0:0<=k)(h1:k<=12):figs (it k)=true:=by
 have:k=0∨k=1∨k=2∨k=3∨k=4∨k=5∨k=6∨k=7∨k=8∨k=9∨k=10∨k=11∨k=12:=by omega
 rcases this with rfl | rfl | rfl | rfl | rfl | rfl | rfl | rfl | rfl | rfl | rfl | rfl | rfl<;>decide +kernel
theorem QiP{x:Str}{c:Nat}(h:figs x=true)(hc:c<48∨57<c):c∉x.cps.toList:=fun hm=>by
 have:=List.all_eq_true.mp h c hm
 simp at this
 omega
theorem jeq(y:Str)(ps:List Str):Txt.join y ps=Str.join y ps:=StrLaws.glued_eq_join y ps
theorem Qty{r:List Int}(h:∀ x∈r,0<=x/\x<=9){c:Nat}(hc:c<48∨57<c)(h1:c≠44)(h2:c≠45):c∉(rowT r).cps.toList:=by
 unfold rowT
 split
 ·intro hm
  have:c∈[45]:=hm
  simp at this
  exact h2 this
 ·rw[jeq]
  intro hm
  rcases StrLaws.mem_join hm with hm | ⟨p,hp,hm⟩
  ·have:c∈[44]:=hm
   simp at this
   exact h1 this
  ·obtain⟨x,hx,rfl⟩:=List.mem_map.mp hp
   exact QiP (QiZ (h x hx).1 (by have:=(h x hx).2;omega)) hc hm
theorem Qmt{r:List Int}(hl:r.length<=6)(h:∀ x∈r,0<=x/\x<=9):QaW [.str (rowT r)]=.ok (dl r):=by
 rw[Qpz]
 unfold Qd8
 have htx:=Qjd hl h
 by_cases e:r.length=0
 ·have er:rowT r="-":=if_pos e
  have en:r=[]:=List.length_eq_zero_iff.mp e
  subst en
  rw[er]
  exact Qav (fl:=.rt true (dl [])) (r_seq (r_if (QX (r_e2 (r_var rfl) r_C streq)) (Qcw rfl (QdA (r_lst r_nil (by decide))))) Qbu) r_rtT
 ·have er:rowT r=Txt.join "," (r.map it):=if_neg e
  have hno:(45:Nat)∉(rowT r).cps.toList:=by
   rw[er,jeq]
   intro hm
   rcases StrLaws.mem_join hm with hm | ⟨p,hp,hm⟩
   ·have:(45:Nat)∈[44]:=hm
    simp at this
   ·obtain⟨x,hx,rfl⟩:=List.mem_map.mp hp
    exact QiP (QiZ (h x hx).1 (by have:=(h x hx).2;omega)) (by omega) hm
  have hne:(rowT r == ("-":Str))=false:=by
   rw[beq_eq_false_iff_ne]
   intro z
   rw[z]at hno
   exact hno (dk)
  have hsp:Txt.split (rowT r) ","=r.map it:=by
   rw[er]
   refine StrLaws.split_join (c:=44) (y':=[]) rfl (by simp) (dk) (by intro z;apply e;rw[← List.length_map (f:=it),z];rfl) fun p hp=>?_
   obtain⟨x,hx,rfl⟩:=List.mem_map.mp hp
   exact QiP (QiZ (h x hx).1 (by have:=(h x hx).2;omega)) (by omega)
  have hs:eSm QbZ (eVar 0) (aCons (eC (.str ",")) aNil) [some (.k,.str (rowT r))]=.ok (.lst ((r.map it).map D.str)):=QoT (r_var rfl) r_C (dk) (by have:=htx.len;omega) hsp
  have hc:eComp [none] (itL (eSm QbZ (eVar 0) (aCons (eC (.str ",")) aNil))) (gN 0) cTrue Qem [some (.k,.str (rowT r))]=.ok (.lst (r.map D.int)):=by
   rw[List.map_map]at hs
   refine Qbb (l:=r) (fun x=>D.str (it x)) (fun x=>D.int x) (r_itL hs) (fun x hx=>?_) (by omega)
   obtain⟨h0,h9⟩:=h x hx
   refine Qax (by walk_at "cap") (by walk_at "s") ?_
   unfold Qem
   exact Qac (xs:=[.str (it x)]) (Qj (r_var rfl) r_nil) rfl (rn_ok h0 (by omega))
  exact Qav (fl:=.rt true (dl r)) (r_seq (r_if (QX (r_e2 (r_var rfl) r_C (streq (ha:=htx.ok) (h:=hne)))) (Qex rfl Qag)) (Qn (QdA hc))) r_rtT
theorem QrR:(" ":Str)=⟨#[32]⟩:=dk
theorem QuC{O:SD->Out D}{ς:SD}{x w r:Str}(ho:O ς=.ok (.str x))(hx:x=w++(" ":Str)++r)(hw:(32:Nat)∉w.cps.toList)(hl:x.length<=100000):eSm (fPart partF) O (aCons (eC (.str " ")) aNil) ς=.ok (.tup [.str w,.str " ",.str r]):=by
 unfold eSm
 rw[ho,Out.bind_ok]
 show(aCons (eC (.str " ")) aNil ς>>=fun ys=>fPart partF (.str x) ys)=_
 rw[Qj r_C r_nil]
 show(if (!((" ":Str).length == 0)&&decide (x.length<=sizeLine))=true then Out.ok (D.tup [.str (partF x " ").1,.str (partF x " ").2.1,.str (partF x " ").2.2]) else .stuck)=_
 have h2:(100000:Nat)<=sizeLine:=by decide
 have h3:((" ":Str).length == 0)=false:=dk
 rw[if_pos (by rw[h3];simp;omega)]
 have hp:partF x " "=(w,(" ":Str),r):=by
  rw[hx,QrR]
  exact StrLaws.part_cat hw
 rw[hp]
theorem QeG{P:SD->Out Bool}{A B:SD->Out Fl}{ς:SD}{fl:Fl}(h:P ς=.ok false)(hb:B ς=.ok fl):sIf P A B ς=.ok fl:=r_if h (Qex rfl hb)
theorem Qsu(c:Str):(32:Nat)∉(wordT c).cps.toList:=by
 unfold wordT
 split
 ·decide +kernel
 ·split
  ·decide +kernel
  ·split<;>decide +kernel
theorem QpI{c:Str}{t:List (List Int)}{m:Nat}(ht:Tb t m)(h:Kd c t m):QaQ [.str (ctext c t)]=.ok (ck c t m):=by
 have htx:=QsA (c:=c) ht
 have n2:=ht.n2
 have m6:=ht.m6
 have his:isaT "str" (.str (ctext c t))=.ok true:=by simp[isaT,Qbt]
 have hp:eSm (fPart partF) (eVar 0) (aCons (eC (.str " ")) aNil) [some (.k,.str (ctext c t)),none]=.ok (.tup [.str (wordT c),.str " ",.str (numT c t)]):=QuC (r_var rfl) rfl (Qsu c) (by have:=htx.len;omega)
 have x0:dIx (.tup [.str (wordT c),.str " ",.str (numT c t)]) (.int 0)=.ok (.str (wordT c)):=ix_t 0 rfl
 have x2:dIx (.tup [.str (wordT c),.str " ",.str (numT c t)]) (.int 2)=.ok (.str (numT c t)):=ix_t 2 rfl
 rw[Qk8]
 unfold Qcs
 refine Qav (fl:=.rt true (ck c t m)) (r_seq (QeG (QhV (QX (r_isa (r_var rfl) his))) Qag) (Qn (r_seq (r_set hp (by walk_at "s")) (Qn ?_)))) r_rtT
 have e0:e2 dIx (eVar 1) (eC (.int 0)) [some (.k,.str (ctext c t)),some (.k,.tup [.str (wordT c),.str " ",.str (numT c t)])]=.ok (.str (wordT c)):=r_e2 (r_var rfl) r_C x0
 have e2':e2 dIx (eVar 1) (eC (.int 2)) [some (.k,.str (ctext c t)),some (.k,.tup [.str (wordT c),.str " ",.str (numT c t)])]=.ok (.str (numT c t)):=r_e2 (r_var rfl) r_C x2
 rcases h with⟨rfl,n,n1,n6,rfl,rfl⟩ | ⟨rfl,n,n1,n12,rfl,rfl⟩ | ⟨rfl,r,rfl,hr⟩ | ⟨rfl,hr⟩
 ·have hl:(dealT m).length=m:=by simp[dealT]
  have hnt:numT "Deal" (dealT m)=it (m:Int):=by unfold numT;rw[if_pos (.inl rfl),hl]
  replace e2':=e2'.trans (congrArg (fun z=>Out.ok (D.str z)) hnt)
  exact r_seq (r_if (QX (r_e2 e0 r_C streq)) (Qcw rfl (QdA (QfC (Qj (Qac (xs:=[.str (it (m:Int))]) (Qj e2' r_nil) rfl (rn_ok (by omega) (by omega))) r_nil) (QjV (dk) n1 n6))))) Qbu
 ·have hl:(bunT n).length=n:=by simp[bunT]
  have hnt:numT "Bundle" (bunT n)=it (n:Int):=by unfold numT;rw[if_pos (.inr rfl),hl]
  replace e2':=e2'.trans (congrArg (fun z=>Out.ok (D.str z)) hnt)
  exact r_seq (QeG (QX (r_e2 e0 r_C streq)) Qag) (Qn (r_seq (r_if (QX (r_e2 e0 r_C streq)) (Qcw rfl (QdA (QfC (Qj (Qac (xs:=[.str (it (n:Int))]) (Qj e2' r_nil) rfl (rn_ok (by omega) (by omega))) r_nil) (Qlf (dk) n1 n12))))) Qbu))
 ·have hnt:numT "Copy" [r]=rowT r:=by unfold numT;rw[if_neg (dk)];rfl
  replace e2':=e2'.trans (congrArg (fun z=>Out.ok (D.str z)) hnt)
  have hrr:=Qmt (r:=r) (by have:=ht.row r (List.mem_cons_self ..);omega) (ht.ent r (List.mem_cons_self ..))
  exact r_seq (QeG (QX (r_e2 e0 r_C streq)) Qag) (Qn (r_seq (QeG (QX (r_e2 e0 r_C streq)) Qag) (Qn (r_seq (r_if (QX (r_e2 e0 r_C streq)) (Qcw rfl (QdA (QfC (Qj (Qac (xs:=[.str (rowT r)]) (Qj e2' r_nil) rfl hrr) r_nil) (QjD (dk) hr))))) Qbu))))
 ·have hnt:numT "Rows" t=Txt.join "/" (t.map rowT):=by unfold numT;rw[if_neg (dk)]
  have hntx:=Qi3 (c:="Rows") ht
  replace e2':=e2'.trans (congrArg (fun z=>Out.ok (D.str z)) hnt)
  rw[hnt]at hntx
  have hsp:Txt.split (Txt.join "/" (t.map rowT)) "/"=t.map rowT:=by
   refine StrLaws.split_join (c:=47) (y':=[]) rfl (by simp) (dk) (by intro z;have:=ht.n1;rw[← List.length_map (f:=rowT),z]at this;simp at this) fun p hp=>?_
   obtain⟨r,hr,rfl⟩:=List.mem_map.mp hp
   exact Qty (ht.ent r hr) (by omega) (by omega) (by omega)
  have hs:=QoT (E:=eC (.str "/")) e2' r_C (dk) (by have:=hntx.len;omega) hsp
  have hc:eComp [none] (itL (eSm QbZ (e2 dIx (eVar 1) (eC (.int 2))) (aCons (eC (.str "/")) aNil))) (gN 0) cTrue Qdb [some (.k,.str (ctext "Rows" t)),some (.k,.tup [.str (wordT "Rows"),.str " ",.str (numT "Rows" t)])]=.ok (tbD t):=by
   rw[List.map_map]at hs
   refine Qbb (l:=t) (fun r=>D.str (rowT r)) (fun r=>dl r) (r_itL hs) (fun r hr=>?_) (by omega)
   refine Qax (by walk_at "cap") (by walk_at "s") ?_
   unfold Qdb
   exact Qac (xs:=[.str (rowT r)]) (Qj (r_var rfl) r_nil) rfl (Qmt (by have:=ht.row r hr;omega) (ht.ent r hr))
  exact r_seq (QeG (QX (r_e2 e0 r_C streq)) Qag) (Qn (r_seq (QeG (QX (r_e2 e0 r_C streq)) Qag) (Qn (r_seq (QeG (QX (r_e2 e0 r_C streq)) Qag) (Qn (r_seq (r_if (QX (r_e2 e0 r_C streq)) (Qcw rfl (QdA (QfC (Qj hc r_nil) (QgR (dk) hr))))) Qbu))))))
theorem dbl(b:Bool):f1 dInt [.bl b]=.ok (.int (if b=true then 1 else 0)):=by cases b<;>rfl
theorem Qev(c:Int){k:Int}(h0:0<=k)(h1:k<=100):∃ v:Int,QI [.int c,.int k]=.ok (.int v)/\0<=v/\v<2147483629:=by
 have hk:bitsI k<=100:=QcY (by omega)
 by_cases e:c % 2=0
 ·have e':decide (c % 2=0)=true:=decide_eq_true e
  have hs:dShr (.int c) (.int (20 * k+1))=.ok (.int (c / 2 ^ (20 * k+1).toNat)):=Que (by omega)
  refine⟨c / 2 ^ (20 * k+1).toNat % 1048576,?_,Int.emod_nonneg _ (by decide),Int.lt_trans (Int.emod_lt_of_pos _ (by decide)) (by decide)⟩
  rw[QjA]
  unfold QdE
  (repeat walk_at "e")
 ·have e':decide (c % 2=0)=false:=decide_eq_false e
  refine⟨((c % 2147483647+48271 * k * k+k+1) * 69621 % 2147483629 * ((c % 2147483647+48271 * k * k+k+1) * 69621 % 2147483629)+7919 * k+5) % 2147483587 * (((c % 2147483647+48271 * k * k+k+1) * 69621 % 2147483629 * ((c % 2147483647+48271 * k * k+k+1) * 69621 % 2147483629)+7919 * k+5) % 2147483587) % 2147483629,?_,Int.emod_nonneg _ (by decide),Int.emod_lt_of_pos _ (by decide)⟩
  rw[QjA]
  unfold QdE
  (repeat walk_at "e")
theorem QtK(ns:List Int):∃ v:Int,Q8 [.lst (ns.map .int),.int 0]=.ok (.int v):=by
 have hlen:fLen [.lst (ns.map D.int)]=.ok (.int (ns.length:Int)):=by simp[fLen]
 cases ns with
 | nil=>
  refine⟨0,?_⟩
  have e':decide ((0:Int)<(([]:List Int).length:Int))=false:=by decide
  rw[Qgg]
  unfold Qbs
  (repeat walk_at "e")
 | cons z r=>
  refine⟨z,?_⟩
  have e':decide ((0:Int)<((z::r).length:Int))=true:=decide_eq_true (by simp)
  have hix:dIx (.lst ((z::r).map D.int)) (.int 0)=.ok (.int z):=ixL 0 rfl
  rw[Qgg]
  unfold Qbs
  (repeat walk_at "e")
theorem Qss(c:Int):∃ v:Int,Qa3 [.int c]=.ok (.int v)/\0<=v/\v<1000000000000000000:=by
 obtain⟨n,hn,n0,n1⟩:=Qev c (k:=0) (by decide) (by decide)
 by_cases z:0<n % 3
 ·have z':decide (0<n % 3)=true:=decide_eq_true z
  refine⟨n / 3 % 12,?_,Int.emod_nonneg _ (by decide),Int.lt_trans (Int.emod_lt_of_pos _ (by decide)) (by decide)⟩
  rw[Qhm]
  unfold QbX
  (repeat walk_at "e")
 ·have z':decide (0<n % 3)=false:=decide_eq_false z
  have ex:∀ k:Nat,∃ v:Int,k<3->QI [.int c,.int (1+(k:Int))]=.ok (.int v)/\0<=v/\v<2147483629:=fun k=>by
   by_cases hk:k<3
   ·obtain⟨v,h⟩:=Qev c (k:=1+(k:Int)) (by omega) (by omega)
    exact⟨v,fun _=>h⟩
   ·exact⟨0,fun h=>absurd h hk⟩
  obtain⟨F,hF⟩:=Classical.axiomOfChoice ex
  have hc:eComp [none,some 0] (itR1 (eC (.int 3))) (gN 0) cTrue QdN [some (.k,.int c),some (.k,.int n),none]=.ok (.lst ((List.range 3).map fun k=>D.int (F k % 1048576))):=by
   refine Qcm (fun k=>D.int (F k % 1048576)) (QbC 3 rfl (by decide)) (fun k hk=>?_) (by decide)
   have q:=(hF k hk).1
   refine Qax (by walk_at "cap") (by walk_at "s") ?_
   unfold QdN
   (repeat walk_at "e")
  have m0:∀ k,0<=F k % 1048576/\F k % 1048576<1048576:=fun k=>⟨Int.emod_nonneg _ (by decide),Int.emod_lt_of_pos _ (by decide)⟩
  have i0:dIx (.lst ((List.range 3).map fun k=>D.int (F k % 1048576))) (.int 0)=.ok (.int (F 0 % 1048576)):=ixL 0 rfl
  have i1:dIx (.lst ((List.range 3).map fun k=>D.int (F k % 1048576))) (.int 1)=.ok (.int (F 1 % 1048576)):=ixL 1 rfl
  have i2:dIx (.lst ((List.range 3).map fun k=>D.int (F k % 1048576))) (.int 2)=.ok (.int (F 2 % 1048576)):=ixL 2 rfl
  have sh:∀(k:Nat)(j:Int),0<=j->j<=100->dShl (.int (F k % 1048576)) (.int j)=.ok (.int (F k % 1048576 * 2 ^ j.toNat)):=fun k j h0 h1=>Qs8 (by
   rw[Bool.and_eq_true,Bool.and_eq_true]
   exact⟨⟨decide_eq_true h0,decide_eq_true (by omega)⟩,decide_eq_true (by have:=m0 k;omega)⟩)
  have s0:=sh 0 40 (by decide) (by decide)
  have s1:=sh 1 20 (by decide) (by decide)
  have h18:dPow (.int 10) (.int 18)=.ok (.int 1000000000000000000):=by rw[Qtw (by decide)];rfl
  refine⟨(F 0 % 1048576 * 2 ^ (40:Int).toNat+F 1 % 1048576 * 2 ^ (20:Int).toNat+F 2 % 1048576) % 1000000000000000000,?_,Int.emod_nonneg _ (by decide),Int.emod_lt_of_pos _ (by decide)⟩
  rw[Qhm]
  unfold QbX
  (repeat walk_at "e")
theorem QoF{α:Type}{i:Nat}{T:SD->Out Fl}{U:SD->Out α}{ς ς':SD}{r:Out α}(a:T ς=.ok (.nx ς'))(e:ς'[i]?=ς[i]?)(k:U ς'=r):qKeep i T U ς=r:=by
 unfold qKeep
 rw[a,Out.bind_ok]
 exact(if_pos e).trans k
theorem QoW{i:Nat}{g:D->SD->Out SD}{T:SD->Out SD}{x:D}{ς ς':SD}{r:Out SD}(a:g x ς=.ok ς')(e:ς'[i]?=ς[i]?)(k:T ς'=r):turnQ i g T x ς=r:=by
 unfold turnQ
 rw[a,Out.bind_ok,if_pos e];exact k
theorem Qi8{α:Type}{U:SD->Out SD}{Z:SD->Out α}{ς ς':SD}{r:Out α}(a:U ς=.ok ς')(k:Z ς'=r):qThen U Z ς=r:=by
 unfold qThen
 rw[a,Out.bind_ok];exact k
theorem QuD{i:Nat}{g:D->SD->Out SD}{its:SD->Out (List D)}{T:SD->Out SD}{ς:SD}{xs:List D}{r:Out SD}(a:its ς=.ok xs)(ho:okS i ς=true)(k:loopQ (turnQ i g T) xs ς=r):qFor i g its T ς=r:=by
 unfold qFor
 rw[a,Out.bind_ok,if_pos ho];exact k
theorem Qq0{i:Nat}{ς:SD}(ho:okS i ς=true):qNil i ς=.ok ς:=by unfold qNil;rw[if_pos ho]
theorem Qu0{i:Nat}{ς ς':SD}{xss:List (List D)}(hi:ς[i]?=some (some (.l,.lst (xss.map D.lst))))(ho:okS i ς=true)(hl:xss.length<100000)(hs:ς.set i (some (.l,.lst ((xss++[[]]).map D.lst)))=ς'):qNew i ς=.ok ς':=by
 unfold qNew
 rw[hi]
 show(match lstsD (xss.map D.lst) with | some xss=>_ | none=>_)=_
 rw[QbA]
 show(if (okS i ς&&decide (xss.length<100000))=true then _ else _)=_
 rw[if_pos (by rw[ho,decide_eq_true hl];rfl),hs]
theorem Qt7{i n:Nat}{E A:SD->Out D}{ς ς':SD}{xss:List (List D)}{xs:List D}{k:Int}{y:D}(hi:ς[i]?=some (some (.l,.lst (xss.map D.lst))))(he:E ς=.ok (.int k))(hk:ixN xss.length k=some n)(hx:xss[n]?=some xs)(ha:A ς=.ok y)
 (ho:okS i ς=true) (hl:xs.length<100000) (hs:ς.set i (some (.l,.lst ((xss.set n (xs++[y])).map D.lst)))=ς'):qAppE i E A ς=.ok ς':=by
 unfold qAppE
 rw[hi]
 show(match lstsD (xss.map D.lst) with | some xss=>_ | none=>_)=_
 rw[QbA]
 show(E ς>>=fun d=>_)=_
 rw[he,Out.bind_ok]
 show(match ixN xss.length k with | some n=>_ | none=>_)=_
 rw[hk]
 show(match xss[n]? with | some xs=>_ | _=>_)=_
 rw[hx]
 show(A ς>>=fun y=>_)=_
 rw[ha,Out.bind_ok,if_pos (by rw[ho,decide_eq_true hl];rfl),hs]
theorem QjS{b:D->SD->Out SD}{P:Nat->SD->Prop}{n:Nat}(h:∀ k:Nat,k<n->∀ ς,P k ς->∃ ς',b (.int (k:Int)) ς=.ok ς'/\P (k+1) ς')(ς:SD)(p0:P 0 ς):∃ ς',loopQ b (QaY 0 n) ς=.ok ς'/\P n ς':=by
 have go:∀ m k:Nat,k+m=n->∀ ς,P k ς->∃ ς',loopQ b ((List.range' k m).map fun(i:Nat)=>D.int ((0:Int)+i)) ς=.ok ς'/\P n ς':=by
  intro m
  induction m with
  | zero=>intro k hk ς p;exact⟨ς,rfl,by rw[← hk];exact p⟩
  | succ m ih=>
   intro k hk ς p
   obtain⟨ς1,e1',p1⟩:=h k (by omega) ς p
   obtain⟨ς2,e2',p2⟩:=ih (k+1) (by omega) ς1 p1
   refine⟨ς2,?_,p2⟩
   rw[List.range'_succ,List.map_cons,loopQ,Int.zero_add,e1',Out.bind_ok]
   exact e2'
 unfold QaY
 rw[List.range_eq_range']
 exact go n 0 (by omega) ς p0
theorem Quc{i:Nat}{g:D->SD->Out SD}{its:SD->Out (List D)}{T:SD->Out SD}{ς ς0 ς1 ς2:SD}{xs:List D}{d:D}(h0:ς[i]?=some (some (.o,.lst [])))(hi:its ς=.ok xs)(ho:okS i ς=true)(hs:ς.set i (some (.l,.lst []))=ς0)(hL:loopQ (turnQ i g T) xs ς0=.ok ς1)
 (h1:ς1[i]?=some (some (.l,d))) (ho1:okS i ς1=true) (hs1:ς1.set i (some (.o,d))=ς2):sForN i g its T ς=.ok (.nx ς2):=by
 unfold sForN
 rw[h0]
 show(its ς>>=fun xs=>_)=_
 rw[hi,Out.bind_ok,if_pos ho,hs,hL,Out.bind_ok,h1]
 show(if okS i ς1=true then _ else _)=_
 rw[if_pos ho1,hs1]
def dz(r:List Int):List D:=r.map .int
theorem dz_l(t:List (List Int)):(t.map dz).map D.lst=t.map dl:=by rw[List.map_map];rfl
def Fg(r:List Int):Prop:=∀ x∈r,0<=x/\x<=9
abbrev cps3:D:=.tup [.int 12,.int 6,.int 9]
abbrev sS(c kd sz mn:Int)(a8 a9 a10 a11:Option (SM×D)):SD:=[some (.k,.int c),some (.k,cps3),some (.k,.int 12),some (.k,.int 6),some (.k,.int 9),some (.k,.int kd),some (.k,.int sz),some (.k,.int mn),a8,a9,a10,a11]
theorem Qr7{c kd sz:Int}{mn:Nat}(hm:mn<=6)(t:List (List Int))(ht:t.length<1000)(s num:Int)(d11:D)(a11:Option (SM×D))(h11:a11=none∨∃ d,a11=some (.k,d)):
 ∃ r num' b11,r.length=mn/\Fg r/\(b11=none∨∃ d,b11=some (SM.k,d))/\qFor 8 (gN 11) (itR1 (eVar 7)) Qb6 (sS c kd sz mn (some (.l,.lst (((t.map dz)++[[]]).map D.lst))) (some (.k,.int s)) (some (.k,.int num)) a11)
  = .ok (sS c kd sz mn (some (.l,.lst (((t++[r]).map dz).map D.lst))) (some (.k,.int s)) (some (.k,.int num')) b11):=by
 obtain⟨ς',hL,r,num',b11,hr,hf,hb,rfl⟩:=QjS (b:=turnQ 8 (gN 11) Qb6) (n:=mn)
  (P:=fun j ς=>∃(r:List Int)(num':Int)(b11:Option (SM×D)),r.length=j/\Fg r/\(b11=none∨∃ d,b11=some (SM.k,d))/\ς=sS c kd sz mn (some (.l,.lst (((t++[r]).map dz).map D.lst))) (some (.k,.int s)) (some (.k,.int num')) b11)
  (by
   rintro j hj ς ⟨r,num',b11,hr,hf,hb,rfl⟩
   refine⟨_,?_,r++[num' % 10 % 10],num' / 10,some (.k,.int (j:Int)),by rw[List.length_append,hr];rfl,?_,.inr ⟨_,rfl⟩,rfl⟩
   ·refine QoW (ς':=sS c kd sz mn (some (.l,.lst (((t++[r]).map dz).map D.lst))) (some (.k,.int s)) (some (.k,.int num')) (some (.k,.int (j:Int)))) rfl rfl ?_
    unfold Qb6
    have hlen:((t++[r]).map dz).length=t.length+1:=by simp
    have hset:((t++[r]).map dz).set t.length (dz r++[.int (num' % 10 % 10)])=(t++[r++[num' % 10 % 10]]).map dz:=by
     rw[List.map_append,List.map_append,List.set_append_right _ _ (by simp)]
     simp[dz]
    refine Qi8 (Qt7 (n:=t.length) (k := -1) (xs:=dz r) (y:=.int (num' % 10 % 10)) (ς':=sS c kd sz mn (some (.l,.lst (((t++[r++[num' % 10 % 10]]).map dz).map D.lst))) (some (.k,.int s)) (some (.k,.int num')) (some (.k,.int (j:Int)))) rfl rfl ?_ ?_ ?_ rfl ?_ ?_) ?_
    ·rw[hlen];unfold ixN;rw[if_neg (by omega),if_pos (by omega)];congr 1;omega
    ·rw[List.getElem?_map,List.getElem?_append_right (by omega)];simp
    ·exact r_e2 (r_e2 (r_var rfl) r_C (Qa0 (by decide))) (r_e2 (r_var rfl) r_C (QY _ _)) (Qa0 (by decide))
    ·show(r.map D.int).length<100000;rw[List.length_map,hr];omega
    ·rw[hset];rfl
    ·refine QoF (r_set (d:=.int (num' / 10)) (ς':=sS c kd sz mn (some (.l,.lst (((t++[r++[num' % 10 % 10]]).map dz).map D.lst))) (some (.k,.int s)) (some (.k,.int (num' / 10))) (some (.k,.int (j:Int)))) (r_e2 (r_var rfl) r_C (Qqb (by decide) (Qrq rfl) rfl)) rfl) rfl (Qq0 rfl)
   ·intro x hx
    rcases List.mem_append.mp hx with hx | hx
    ·exact hf x hx
    ·rw[List.mem_singleton.mp hx]
     have a:=Int.emod_nonneg (num' % 10) (b:=10) (by decide)
     have b:=Int.emod_lt_of_pos (num' % 10) (b:=10) (by decide)
     omega)
  (sS c kd sz mn (some (.l,.lst (((t++[[]]).map dz).map D.lst))) (some (.k,.int s)) (some (.k,.int num)) a11) ⟨[],num,a11,rfl,fun x h=>(nomatch h),h11,rfl⟩
 refine⟨r,num',b11,hr,hf,hb,?_⟩
 have e:((t.map dz)++[[]])=(t++[[]]).map dz:=by rw[List.map_append];rfl
 rw[e]
 refine QuD (QbC mn (r_var rfl) (by omega)) ?_ hL
 rcases h11 with rfl | ⟨d,rfl⟩<;>rfl
theorem QsL(c kd:Int){sz mn:Nat}(hs:sz<=12)(hm:mn<=6):∃(t:List (List Int))(b9 b10 b11:Option (SM×D)),t.length=sz/\(∀ r∈t,r.length=mn/\Fg r)/\
 sForN 8 (gN 9) (itR1 (eVar 6)) Qch (sS c kd sz mn (some (.o,.lst [])) none none none)=.ok (.nx (sS c kd sz mn (some (.o,tbD t)) b9 b10 b11)):=by
 let K:Option (SM×D)->Prop:=fun a=>a=none∨∃ d,a=some (SM.k,d)
 obtain⟨ς',hL,t,b9,b10,b11,hl,ht,k9,k10,k11,rfl⟩:=QjS (b:=turnQ 8 (gN 9) Qch) (n:=sz)
  (P:=fun j ς=>∃(t:List (List Int))(b9 b10 b11:Option (SM×D)),t.length=j/\(∀ r∈t,r.length=mn/\Fg r)/\K b9/\K b10/\K b11/\ς=sS c kd sz mn (some (.l,.lst ((t.map dz).map D.lst))) b9 b10 b11)
  (by
   rintro j hj ς ⟨t,b9,b10,b11,hl,ht,k9,k10,k11,rfl⟩
   have hlt:(t.map dz).length<100000:=Nat.lt_of_le_of_lt (Nat.le_of_eq (List.length_map ..)) (Nat.lt_of_lt_of_le (show t.length<13 by omega) (by decide))
   obtain⟨num,hn,_,_⟩:=Qev c (k:=10+(j:Int)) (by omega) (by omega)
   obtain⟨r,num',c11,hr,hf,hb,hF⟩:=Qr7 (c:=c) (kd:=kd) (sz:=sz) hm t (by omega) (j:Int) num .non b11 k11
   have hq:qNil 8 (sS c kd sz mn (some (.l,.lst (((t++[r]).map dz).map D.lst))) (some (.k,.int (j:Int))) (some (.k,.int num')) c11)=.ok (sS c kd sz mn (some (.l,.lst (((t++[r]).map dz).map D.lst))) (some (.k,.int (j:Int))) (some (.k,.int num')) c11):=Qq0 (by rcases hb with rfl | ⟨d,rfl⟩<;>rfl)
   have hok:okS 8 (sS c kd sz mn (some (.l,.lst ((t.map dz).map D.lst))) (some (.k,.int (j:Int))) (some (.k,.int num)) b11)=true:=by rcases k11 with rfl | ⟨d,rfl⟩<;>rfl
   have hnw:=Qu0 (i:=8) (xss:=t.map dz) (ς:=sS c kd sz mn (some (.l,.lst ((t.map dz).map D.lst))) (some (.k,.int (j:Int))) (some (.k,.int num)) b11) (ς':=sS c kd sz mn (some (.l,.lst (((t.map dz)++[[]]).map D.lst))) (some (.k,.int (j:Int))) (some (.k,.int num)) b11) rfl hok hlt rfl
   refine⟨sS c kd sz mn (some (.l,.lst (((t++[r]).map dz).map D.lst))) (some (.k,.int (j:Int))) (some (.k,.int num')) c11,?_,t++[r],some (.k,.int (j:Int)),some (.k,.int num'),c11,by rw[List.length_append,hl];rfl,?_,.inr ⟨_,rfl⟩,.inr ⟨_,rfl⟩,hb,rfl⟩
   ·refine QoW (ς':=sS c kd sz mn (some (.l,.lst ((t.map dz).map D.lst))) (some (.k,.int (j:Int))) b10 b11) rfl rfl ?_
    unfold Qch
    refine QoF (r_set (d:=.int num) (ς':=sS c kd sz mn (some (.l,.lst ((t.map dz).map D.lst))) (some (.k,.int (j:Int))) (some (.k,.int num)) b11) (Qac (xs:=[.int c,.int (10+(j:Int))]) (Qj (r_var rfl) (Qj (r_e2 r_C (r_var rfl) (QY _ _)) r_nil)) rfl hn) rfl) rfl ?_
    exact Qi8 hnw (Qi8 hF hq)
   ·intro q hq'
    rcases List.mem_append.mp hq' with hq' | hq'
    ·exact ht q hq'
    ·rw[List.mem_singleton.mp hq'];exact⟨hr,hf⟩)
  (sS c kd sz mn (some (.l,.lst ((([]:List (List Int)).map dz).map D.lst))) none none none) ⟨[],none,none,none,rfl,fun r h=>(nomatch h),.inl rfl,.inl rfl,.inl rfl,rfl⟩
 refine⟨t,b9,b10,b11,hl,ht,?_⟩
 rw[dz_l t]at hL
 refine Quc (d:=tbD t) (ς1:=sS c kd sz mn (some (.l,tbD t)) b9 b10 b11) rfl (QbC sz (r_var rfl) (by omega)) rfl rfl hL rfl ?_ rfl
 rcases k9 with rfl | ⟨_,rfl⟩<;>rcases k10 with rfl | ⟨_,rfl⟩<;>rcases k11 with rfl | ⟨_,rfl⟩<;>rfl
theorem Qqg:wordT "Deal"="deal":=by unfold wordT;rw[if_pos rfl]
theorem w_bun:wordT "Bundle"="bundle":=by unfold wordT;rw[if_neg (dk),if_pos rfl]
theorem Qrj:wordT "Copy"="copy":=by unfold wordT;rw[if_neg (dk),if_neg (dk),if_pos rfl]
theorem QqT:wordT "Rows"="rows":=by unfold wordT;rw[if_neg (dk),if_neg (dk),if_neg (dk)]
theorem Kd.tb{c:Str}{t:List (List Int)}{m:Nat}(h:Kd c t m):Tb t m:=by
 rcases h with⟨rfl,n,n1,n6,rfl,rfl⟩ | ⟨rfl,n,n1,n12,rfl,rfl⟩ | ⟨rfl,r,rfl,hr⟩ | ⟨rfl,hr⟩
 ·exact QoQ n1 n6
 ·exact Qrt n1 n12
 ·exact hr
 ·exact hr
theorem QuA{n:Nat}(hn:n<=100)(c kd mn:Int):eComp [none,some 6] (itR1 (eVar 6)) (gN 0) cTrue QdU [some (.k,.int c),some (.k,cps3),some (.k,.int 12),some (.k,.int 6),some (.k,.int 9),some (.k,.int kd),some (.k,.int (n:Int)),none,none,none,none,none]=.ok (tbD (dealT n)):=by
 have he:tbD (dealT n)=.lst ((List.range n).map fun s:Nat=>D.lst ((List.range n).map fun k:Nat=>D.int (if k=s then 1 else 0))):=by
  unfold tbD dealT;rw[List.map_map]
  congr 1
  apply List.map_congr_left
  intro s _
  show dl (one n s)=_
  unfold dl one;rw[List.map_map];rfl
 rw[he]
 refine Qcm (fun s=>D.lst ((List.range n).map fun k:Nat=>D.int (if k=s then 1 else 0))) (QbC n rfl (by omega)) (fun s hs=>?_) (by omega)
 refine Qax (by walk_at "cap") (by walk_at "s") ?_
 unfold QdU
 refine Qcm (fun k=>D.int (if k=s then 1 else 0)) (QbC n rfl (by omega)) (fun k hk=>?_) (by omega)
 refine Qax (by walk_at "cap") (by walk_at "s") ?_
 unfold Qf5
 have e:(if k=s then(1:Int) else 0)=(if decide ((k:Int)=(s:Int))=true then 1 else 0):=by
  by_cases e:k=s
  ·rw[if_pos e,if_pos (decide_eq_true (by omega))]
  ·rw[if_neg e,if_neg (by simp;omega)]
 rw[e]
 (repeat (first | with_reducible exact dbl _ | walk_at "e"))
theorem bun_c{n:Nat}(hn:n<=100)(c kd:Int):eComp [none,some 6] (itR1 (eVar 6)) (gN 0) cTrue QdI [some (.k,.int c),some (.k,cps3),some (.k,.int 12),some (.k,.int 6),some (.k,.int 9),some (.k,.int kd),some (.k,.int (n:Int)),none,none,none,none,none]=.ok (tbD (bunT n)):=by
 have he:tbD (bunT n)=.lst ((List.range n).map fun s:Nat=>D.lst [.int (if s+1=n then 1 else 0)]):=by unfold tbD bunT;rw[List.map_map];rfl
 rw[he]
 refine Qcm (fun s=>D.lst [.int (if s+1=n then 1 else 0)]) (QbC n rfl (by omega)) (fun s hs=>?_) (by omega)
 refine Qax (by walk_at "cap") (by walk_at "s") ?_
 unfold QdI
 have e:(if s+1=n then(1:Int) else 0)=(if decide ((s:Int)=(n:Int) - 1)=true then 1 else 0):=by
  by_cases e:s+1=n
  ·rw[if_pos e,if_pos (decide_eq_true (by omega))]
  ·rw[if_neg e,if_neg (by simp;omega)]
 rw[e]
 (repeat (first | with_reducible exact dbl _ | walk_at "e"))
theorem QrO(c:Int):∃(k:Str)(t:List (List Int))(m:Nat),Qa4 [.int c,cps3]=.ok (.tup [.str (wordT k),tbD t])/\Kd k t m/\Qb.contains k=true:=by
 obtain⟨v0,h0,a0,b0⟩:=Qev c (k:=0) (by decide) (by decide)
 obtain⟨v1,h1,a1,b1⟩:=Qev c (k:=1) (by decide) (by decide)
 obtain⟨v2,h2,a2,b2⟩:=Qev c (k:=2) (by decide) (by decide)
 obtain⟨sz,hsz,s1,s12⟩:∃ n:Nat,1+v1 % 12=(n:Int)/\1<=n/\n<=12:=⟨(1+v1 % 12).toNat,by omega,by omega,by omega⟩
 obtain⟨mn,hmn,m6⟩:∃ n:Nat,v2 % 7=(n:Int)/\n<=6:=⟨(v2 % 7).toNat,by omega,by omega⟩
 have q4:=Int.emod_nonneg v0 (b:=4) (by decide)
 have q4':=Int.emod_lt_of_pos v0 (b:=4) (by decide)
 generalize hkd:v0 % 4=kd at q4 q4'
 have g1:sUnp [2,3,4] (eVar 1) [some (.k,.int c),some (.k,cps3),none,none,none,none,none,none,none,none,none,none]=.ok (.nx [some (.k,.int c),some (.k,cps3),some (.k,.int 12),some (.k,.int 6),some (.k,.int 9),none,none,none,none,none,none,none]):=r_unp (r_var rfl) rfl
 have g2:sSet 5 (e2 dMod (eA (fun xs=>QI (xs++[])) (aCons (eVar 0) (aCons (eC (.int 0)) aNil))) (eC (.int 4))) [some (.k,.int c),some (.k,cps3),some (.k,.int 12),some (.k,.int 6),some (.k,.int 9),none,none,none,none,none,none,none]=.ok (.nx [some (.k,.int c),some (.k,cps3),some (.k,.int 12),some (.k,.int 6),some (.k,.int 9),some (.k,.int kd),none,none,none,none,none,none]):=by
  rw[← hkd]
  exact r_set (r_e2 (Qac (xs:=[.int c,.int 0]) (Qj (r_var rfl) (Qj r_C r_nil)) rfl h0) r_C (Qa0 (by decide))) rfl
 have g3:sSet 6 (e2 dAdd (eC (.int 1)) (e2 dMod (eA (fun xs=>QI (xs++[])) (aCons (eVar 0) (aCons (eC (.int 1)) aNil))) (eVar 2))) [some (.k,.int c),some (.k,cps3),some (.k,.int 12),some (.k,.int 6),some (.k,.int 9),some (.k,.int kd),none,none,none,none,none,none]=.ok (.nx [some (.k,.int c),some (.k,cps3),some (.k,.int 12),some (.k,.int 6),some (.k,.int 9),some (.k,.int kd),some (.k,.int (sz:Int)),none,none,none,none,none]):=by
  rw[← hsz]
  exact r_set (r_e2 r_C (r_e2 (Qac (xs:=[.int c,.int 1]) (Qj (r_var rfl) (Qj r_C r_nil)) rfl h1) (r_var rfl) (Qa0 (by decide))) (QY _ _)) rfl
 have tst:∀(z:Int)(ς:SD),ς[5]?=some (some (.k,.int kd))->tVal (e2 dEq (eVar 5) (eC (.int z))) ς=.ok (decide (kd=z)):=fun z ς h=>QX (r_e2 (r_var h) r_C (QbM _ _))
 by_cases k0:kd=0
 ·obtain⟨n,hn,n1,n6⟩:∃ n:Nat,n=min sz 6/\1<=n/\n<=6:=⟨min sz 6,rfl,by omega,by omega⟩
  have hmin:fMin2 [.int (sz:Int),.int 6]=.ok (.int (n:Int)):=by
   show Out.ok (D.int (if (6:Int)<(sz:Int) then 6 else(sz:Int)))=_
   congr 2
   split<;>omega
  have hc:=QuA (n:=n) (by omega) c kd 0
  refine⟨"Deal",dealT n,n,?_,.inl ⟨rfl,n,n1,n6,rfl,rfl⟩,dk⟩
  rw[Qqg,Qdv]
  unfold Qa2
  refine Qav (fl:=.rt false (.tup [.str "deal",tbD (dealT n)])) (r_seq g1 (Qn (r_seq g2 (Qn (r_seq g3 (Qn (r_seq (fl:=.rt false (.tup [.str "deal",tbD (dealT n)])) (r_ifT (tst 0 _ rfl) (decide_eq_true k0) ?_) Qbu))))))) r_rt
  refine r_seq (r_set (d:=.int (n:Int)) (ς':=[some (.k,.int c),some (.k,cps3),some (.k,.int 12),some (.k,.int 6),some (.k,.int 9),some (.k,.int kd),some (.k,.int (n:Int)),none,none,none,none,none]) (r_eA (Qj (r_var rfl) (Qj (r_var rfl) r_nil)) hmin) rfl) (Qn ?_)
  exact r_ret (r_tup (Qj r_C (Qj hc r_nil)) (by show 2<=1000;decide))
 ·by_cases k1:kd=1
  ·have hc:=bun_c (n:=sz) (by omega) c kd
   refine⟨"Bundle",bunT sz,1,?_,.inr (.inl ⟨rfl,sz,s1,s12,rfl,rfl⟩),dk⟩
   rw[w_bun,Qdv]
   unfold Qa2
   refine Qav (fl:=.rt false (.tup [.str "bundle",tbD (bunT sz)])) (r_seq g1 (Qn (r_seq g2 (Qn (r_seq g3 (Qn (r_seq (r_ifF (tst 0 _ rfl) (decide_eq_false k0) Qag) (Qn (r_seq (fl:=.rt false (.tup [.str "bundle",tbD (bunT sz)])) (r_ifT (tst 1 _ rfl) (decide_eq_true k1) ?_) Qbu))))))))) r_rt
   exact r_ret (r_tup (Qj r_C (Qj hc r_nil)) (by show 2<=1000;decide))
  ·obtain⟨t,b9,b10,b11,hl,ht,hF⟩:=QsL c kd s12 m6
   have tb:Tb t mn:=⟨by omega,by omega,m6,fun r hr=>(ht r hr).1,fun r hr x hx=>(ht r hr).2 x hx⟩
   have g4:sSet 7 (e2 dMod (eA (fun xs=>QI (xs++[])) (aCons (eVar 0) (aCons (eC (.int 2)) aNil))) (e2 dAdd (eVar 3) (eC (.int 1)))) [some (.k,.int c),some (.k,cps3),some (.k,.int 12),some (.k,.int 6),some (.k,.int 9),some (.k,.int kd),some (.k,.int (sz:Int)),none,none,none,none,none]=.ok (.nx (sS c kd sz mn none none none none)):=by
    show _=Out.ok (Fl.nx [some (.k,.int c),some (.k,cps3),some (.k,.int 12),some (.k,.int 6),some (.k,.int 9),some (.k,.int kd),some (.k,.int (sz:Int)),some (.k,.int (mn:Int)),none,none,none,none])
    rw[← hmn]
    exact r_set (r_e2 (Qac (xs:=[.int c,.int 2]) (Qj (r_var rfl) (Qj r_C r_nil)) rfl h2) (r_e2 (r_var rfl) r_C (QY _ _)) (Qa0 (by decide))) rfl
   have g5:sSetO 8 (eLst aNil) (sS c kd sz mn none none none none)=.ok (.nx (sS c kd sz mn (some (.o,.lst [])) none none none)):=rfl
   by_cases k2:kd=2
   ·obtain⟨r,hr⟩:∃ r,t.take 1=[r]:=by
     cases t with
     | nil=>simp at hl;omega
     | cons r q=>exact⟨r,rfl⟩
    have hrt:r∈t:=List.mem_of_mem_take (by rw[hr];exact List.mem_singleton.mpr rfl)
    have hcut:cutD (t.map dl) none (some 1)=[dl r]:=by
     have:=Qvq (t.map dl) 1
     rw[← List.map_take,hr]at this
     exact this
    have hsl:eSl (eVar 8) oNo (oSome (eC (.int 1))) (sS c kd sz mn (some (.k,tbD t)) b9 b10 b11)=.ok (tbD [r]):=r_sl (xs:=t.map dl) (ys:=[dl r]) (r_var rfl) r_oNo (Qg3 r_C) hcut
    refine⟨"Copy",[r],mn,?_,.inr (.inr (.inl ⟨rfl,r,rfl,⟨by simp,by simp,m6,fun q hq=>?_,fun q hq x hx=>?_⟩⟩)),dk⟩
    ·rw[Qrj,Qdv]
     unfold Qa2
     refine Qav (fl:=.rt false (.tup [.str "copy",tbD [r]])) (r_seq g1 (Qn (r_seq g2 (Qn (r_seq g3 (Qn (r_seq (r_ifF (tst 0 _ rfl) (decide_eq_false k0) Qag) (Qn (r_seq (r_ifF (tst 1 _ rfl) (decide_eq_false k1) Qag) (Qn (r_seq g4 (Qn (r_seq g5 (Qn (r_seq hF (Qn (r_seq (fl:=.rt false (.tup [.str "copy",tbD [r]])) (r_ifT (tst 2 _ rfl) (decide_eq_true k2) ?_) Qbu))))))))))))))))) r_rt
     exact(show sRet _ (sS c kd sz mn (some (.k,tbD t)) b9 b10 b11)=_ from r_ret (r_tup (Qj r_C (Qj hsl r_nil)) (by show 2<=1000;decide)))
    ·rw[List.mem_singleton.mp hq];exact(ht r hrt).1
    ·rw[List.mem_singleton.mp hq]at hx;exact(ht r hrt).2 x hx
   ·refine⟨"Rows",t,mn,?_,.inr (.inr (.inr ⟨rfl,tb⟩)),dk⟩
    rw[QqT,Qdv]
    unfold Qa2
    refine Qav (fl:=.rt false (.tup [.str "rows",tbD t])) (r_seq g1 (Qn (r_seq g2 (Qn (r_seq g3 (Qn (r_seq (r_ifF (tst 0 _ rfl) (decide_eq_false k0) Qag) (Qn (r_seq (r_ifF (tst 1 _ rfl) (decide_eq_false k1) Qag) (Qn (r_seq g4 (Qn (r_seq g5 (Qn (r_seq hF (Qn (r_seq (r_ifF (tst 2 _ rfl) (decide_eq_false k2) Qag) (Qn ?_)))))))))))))))))) r_rt
    exact(show sRet _ (sS c kd sz mn (some (.k,tbD t)) b9 b10 b11)=_ from r_ret (r_tup (Qj r_C (Qj (r_var rfl) r_nil)) (by show 2<=1000;decide)))
theorem QtF{k:Str}{t:List (List Int)}{m:Nat}(h:Kd k t m):Qbm [.str (wordT k),tbD t]=.ok (ck k t m):=by
 have hlen:fLen [tbD t]=.ok (.int (t.length:Int)):=by simp[fLen,tbD]
 rcases h with⟨rfl,n,n1,n6,rfl,rfl⟩ | ⟨rfl,n,n1,n12,rfl,rfl⟩ | ⟨rfl,r,rfl,hr⟩ | ⟨rfl,hr⟩
 ·have hl:(dealT m).length=m:=by simp[dealT]
  rw[hl]at hlen
  have hi:=QjV (c:="Deal") (dk) n1 n6
  rw[Qqg]
  have s1:=streq (a:="deal") (b:="deal") (z:=true)
  rw[Qd7]
  unfold Qbp ck
  (repeat walk_at "e")
 ·have hl:(bunT n).length=n:=by simp[bunT]
  rw[hl]at hlen
  have hi:=Qlf (c:="Bundle") (dk) n1 n12
  rw[w_bun]
  have s1:=streq (a:="bundle") (b:="deal") (z:=false)
  have s2:=streq (a:="bundle") (b:="bundle") (z:=true)
  rw[Qd7]
  unfold Qbp ck
  (repeat walk_at "e")
 ·have hi:=QjD (c:="Copy") (dk) hr
  rw[Qrj]
  have s1:=streq (a:="copy") (b:="deal") (z:=false)
  have s2:=streq (a:="copy") (b:="bundle") (z:=false)
  have s3:=streq (a:="copy") (b:="copy") (z:=true)
  have hix0:dIx (tbD [r]) (.int 0)=.ok (dl r):=ixL 0 rfl
  have hdl:dList (dl r)=.ok (dl r):=rfl
  rw[Qd7]
  unfold Qbp ck
  (repeat walk_at "e")
 ·have hi:=QgR (c:="Rows") (dk) hr
  rw[QqT]
  have s1:=streq (a:="rows") (b:="deal") (z:=false)
  have s2:=streq (a:="rows") (b:="bundle") (z:=false)
  have s3:=streq (a:="rows") (b:="copy") (z:=false)
  have hc:eComp [none] (itL (eVar 1)) (gN 0) cTrue QgS [some (.k,.str "rows"),some (.k,tbD t)]=.ok (tbD t):=by
   refine Qbb dl dl rfl (fun x hx=>?_) (by have:=hr.n2;omega)
   refine Qax (by walk_at "cap") (by walk_at "s") ?_
   rfl
  rw[Qd7]
  unfold Qbp ck
  (repeat walk_at "e")
theorem QoP:∀ l:List D,(∀ d∈l,layD d=true)->layDs l=true
 | [],_=>rfl
 | x::xs,h=>by
  show(layD x&&layDs xs)=true
  rw[h x (List.mem_cons_self ..),QoP xs fun d hd=>h d (List.mem_cons_of_mem _ hd)];rfl
theorem Qov{m:Nat}:∀ l:List D,(∀ d∈l,dep d<=m)->deps l<=m
 | [],_=>Nat.zero_le _
 | x::xs,h=>by
  show max (dep x) (deps xs)<=m
  have h1:=h x (List.mem_cons_self ..)
  have h2:=Qov xs fun d hd=>h d (List.mem_cons_of_mem _ hd)
  omega
theorem Qs0{d:D}(hl:layD d=true)(hd:dep d<=64):dNe d d=.ok (.bl false):=by
 have hs:=QhY hl hd
 rw[Qqj hs hs,PySem.SeqAt.eqv_refl _ (Qln _ hl)];rfl
def ent(t:List (List Int))(k j:Nat):Int:=(t.getD k []).getD j 0
theorem Qul{t:List (List Int)}{k j:Nat}(hk:k<t.length):cs t (k+1) j=cs t k j+ent t k j:=by
 have e:t.getD k []=t[k]:=by rw[List.getD_eq_getElem?_getD,List.getElem?_eq_getElem hk];rfl
 unfold cs ent
 rw[e,List.take_add_one,List.getElem?_eq_getElem hk,Option.toList_some,List.map_append,List.sum_append]
 simp only[List.map_cons,List.map_nil,List.sum_cons,List.sum_nil,Int.add_zero,Option.getD_some]
theorem Qvk(r:List Int):layD (dl r)=true:=QoP _ fun d hd=>by
 obtain⟨x,_,rfl⟩:=List.mem_map.mp hd
 rfl
theorem ne_dl(r:List Int):dNe (dl r) (dl r)=.ok (.bl false):=Qs0 (Qvk r) (Nat.le_trans (m:=0+1) (Nat.succ_le_succ (Qov (m:=0) (r.map D.int) fun d hd=>by
 obtain⟨x,_,rfl⟩:=List.mem_map.mp hd
 exact Nat.le_refl 0)) (by decide))
theorem QsX{t:List (List Int)}(h:1<=t.length)(x:Int)(j:Nat):sf t (x+1) j=sf t x j+ent t (x % (t.length:Int)).toNat j:=by
 have hn:(0:Int)<(t.length:Int):=by omega
 have e0:=Int.mul_ediv_add_emod x (t.length:Int)
 have r0:=Int.emod_nonneg x (show(t.length:Int)≠0 by omega)
 have r1:=Int.emod_lt_of_pos x hn
 have a:=Qgs h (x % (t.length:Int)) (x / (t.length:Int)) j
 have b:=Qgs h (x % (t.length:Int)+1) (x / (t.length:Int)) j
 rw[show x % (t.length:Int)+(t.length:Int) * (x / (t.length:Int))=x by omega]at a
 rw[show x % (t.length:Int)+1+(t.length:Int) * (x / (t.length:Int))=x+1 by omega]at b
 obtain⟨r,hr⟩:∃ r:Nat,x % (t.length:Int)=(r:Int):=⟨(x % (t.length:Int)).toNat,by omega⟩
 rw[hr]at a b r1 ⊢
 have c:=Qul (t:=t) (k:=r) (j:=j) (by omega)
 have f0:sf t (r:Int) j=cs t r j:=by
  unfold sf
  rw[Int.ediv_eq_zero_of_lt (by omega) r1,Int.emod_eq_of_lt (by omega) r1]
  simp
 have f1':sf t ((r:Int)+1) j=cs t (r+1) j:=by
  by_cases hl:r+1<t.length
  ·unfold sf
   rw[Int.ediv_eq_zero_of_lt (by omega) (by omega),Int.emod_eq_of_lt (by omega) (by omega)]
   simp
  ·have e:(r:Int)+1=0+(t.length:Int) * 1:=by omega
   rw[e,Qgs h 0 1 j,Qs6,show r+1=t.length by omega]
   omega
 rw[a,b,f0,f1',c]
 simp only[Int.toNat_natCast]
 omega
theorem row_m{c:Str}(hc:Qb.contains c=true){t:List (List Int)}{m i:Nat}(hi:i<t.length):Qaq [ck c t m,.int (i:Int)]=.ok (dl (t.getD i [])):=by
 have e:t.getD i []=t[i]:=by rw[List.getD_eq_getElem?_getD,List.getElem?_eq_getElem hi];rfl
 have hix:dIx (tbD t) (.int (i:Int))=.ok (dl t[i]):=ixL i (by rw[List.getElem?_map,List.getElem?_eq_getElem hi];rfl)
 have hf:=fld_t hc t m
 rw[e,QnV]
 unfold Qdf
 exact Qav (fl:=.rt true (dl t[i])) (QdA (r_e1 (r_e2 (r_e1 (r_var rfl) hf) (r_var rfl) hix) rfl)) r_rtT
abbrev snt(t:List (List Int))(m:Nat)(s x:Int):List Int:=(List.range m).map fun j=>sf t (s+x) j - sf t s j
theorem Qk4(t:List (List Int))(m:Nat)(s:Int):snt t m s 0=List.replicate m 0:=List.eq_replicate_iff.mpr ⟨by simp,fun x hx=>by obtain⟨j,_,rfl⟩:=List.mem_map.mp hx;rw[Int.add_zero];omega⟩
theorem Qrl{r:List Int}{m:Nat}(h:r.length=m):r=(List.range m).map fun j=>r.getD j 0:=by
 apply List.ext_getElem?
 intro i
 rw[List.getElem?_map]
 by_cases hi:i<m
 ·rw[List.getElem?_range hi,List.getElem?_eq_getElem (by omega)]
  show _=some (r.getD i 0)
  rw[List.getD_eq_getElem?_getD,List.getElem?_eq_getElem (by omega)];rfl
 ·rw[List.getElem?_eq_none (by omega),List.getElem?_eq_none (by simp;omega)];rfl
theorem Qp9{c:Str}(hc:Qb.contains c=true){t:List (List Int)}{m:Nat}(h:Tb t m){s:Int}(s0:0<=s){v:Nat}(hv:v<=1000):Qaz [ck c t m,.int s,.int (v:Int)]=.ok (dl (snt t m s v)):=by
 have n1:=h.n1
 have n2:=h.n2
 have m6:=h.m6
 have hn:(0:Int)<(t.length:Int):=by omega
 obtain⟨ς',hL,a4,rfl⟩:=Qnw (body:=fun x ς=>gN 4 x ς>>=fun ς'=>QbS ς') (n:=v)
  (P:=fun k ς=>∃ a4,ς=[some (.k,ck c t m),some (.k,.int s),some (.k,.int (v:Int)),some (.k,dl (snt t m s k)),a4])
  (by
   rintro k hk ς ⟨a4,rfl⟩
   refine⟨[some (.k,ck c t m),some (.k,.int s),some (.k,.int (v:Int)),some (.k,dl (snt t m s ((k+1:Nat):Int))),some (.k,.int (k:Int))],?_,_,rfl⟩
   refine r_gN rfl ?_
   unfold QbS
   have r0:=Int.emod_nonneg (s+(k:Int)) (show(t.length:Int)≠0 by omega)
   have r1:=Int.emod_lt_of_pos (s+(k:Int)) hn
   obtain⟨i,hi⟩:∃ i:Nat,(s+(k:Int)) % (t.length:Int)=(i:Int):=⟨((s+(k:Int)) % (t.length:Int)).toNat,by omega⟩
   have hil:i<t.length:=by omega
   have hrow:=row_m hc (t:=t) (m:=m) hil
   have hri:(t.getD i []).length=m:=by
    rw[List.getD_eq_getElem?_getD,List.getElem?_eq_getElem hil]
    exact h.row _ (List.getElem_mem _)
   have hp:=per_m hc t m (ς:=[some (.k,ck c t m),some (.k,.int s),some (.k,.int (v:Int)),some (.k,dl (snt t m s k)),some (.k,.int (k:Int))]) rfl
   have hmt:eMeth Qb "row" (fun _=>Qaq) (eVar 0) (aCons (e2 dMod (e2 dAdd (eVar 1) (eVar 4)) (eMeth Qb "period" (fun _=>Qp) (eVar 0) aNil)) aNil) [some (.k,ck c t m),some (.k,.int s),some (.k,.int (v:Int)),some (.k,dl (snt t m s k)),some (.k,.int (k:Int))]=.ok (dl (t.getD i [])):=by
    rw[Qbd (c:=c) (t:=t) (m:=m) hc (xs:=[.int (i:Int)]) (r_var rfl) (Qj (by rw[← hi];exact r_e2 (r_e2 (r_var rfl) (r_var rfl) (QY _ _)) hp (Qa0 hn)) r_nil) (dk) (dk)]
    exact hrow
   have hz:=QjR (js:=[none,none]) (its:=itZ (eVar 3) (eMeth Qb "row" (fun _=>Qaq) (eVar 0) (aCons (e2 dMod (e2 dAdd (eVar 1) (eVar 4)) (eMeth Qb "period" (fun _=>Qp) (eVar 0) aNil)) aNil))) (e:=Qc1) (ς:=[some (.k,ck c t m),some (.k,.int s),some (.k,.int (v:Int)),some (.k,dl (snt t m s k)),some (.k,.int (k:Int))]) (a:=snt t m s k) (b:=t.getD i []) (· + ·)
    (r_itZ (r_var rfl) hmt)
    (fun x _ y _=>by
     refine Qjg (by walk_at "cap") (by walk_at "all") ?_
     unfold Qc1
     exact r_e2 (r_var rfl) (r_var rfl) (QY _ _)) (by rw[List.length_map,List.length_range];omega)
   refine r_set hz ?_
   have e:List.zipWith (· + ·) (snt t m s k) (t.getD i [])=snt t m s ((k+1:Nat):Int):=by
    rw[Qrl hri]
    unfold snt
    rw[List.zipWith_map,List.zipWith_self]
    apply List.map_congr_left
    intro j _
    have q:=QsX n1 (s+(k:Int)) j
    rw[hi]at q
    rw[show s+((k+1:Nat):Int)=s+(k:Int)+1 by omega,q]
    simp only[Int.toNat_natCast]
    unfold ent
    omega
   rw[e]
   rfl)
  [some (.k,ck c t m),some (.k,.int s),some (.k,.int (v:Int)),some (.k,dl (snt t m s ((0:Nat):Int))),none] ⟨_,rfl⟩
 have hfor:=Qfv (g:=gN 4) (its:=itR1 (eVar 2)) (T:=QbS) (QbC v (r_var rfl) (by omega)) hL
 have ho:eMeth Qb "outs" (fun _=>Qaw) (eVar 0) aNil [some (.k,ck c t m),some (.k,.int s),some (.k,.int (v:Int)),none,none]=.ok (.int (m:Int)):=by
  rw[Qbd (c:=c) (t:=t) (m:=m) hc (xs:=[]) (r_var rfl) rfl (dk) (dk)]
  exact QtN hc h
 have hrep:dRep (.lst [.int 0]) (.int (m:Int))=.ok (dl (snt t m s ((0:Nat):Int))):=by
  rw[QoE (by omega),show((0:Nat):Int)=0 from rfl,Qk4];unfold dl;rw[List.map_replicate]
 rw[Ql6]
 unfold Qcx
 exact Qav (fl:=.rt false (dl (snt t m s v))) (r_seq (r_set (r_e2 (r_lst (Qj r_C r_nil) (show 1<=1000 by decide)) ho hrep) rfl) (Qn (r_seq hfor (Qn (r_ret (r_var rfl)))))) r_rt
abbrev isaTb:List (Str×Bool):=[("Deal",true),("Bundle",true),("Copy",true),("Rows",true)]
theorem QuL{c:Str}(hc:Qb.contains c=true)(t:List (List Int))(m:Nat):isaI [("Deal",true),("Bundle",true),("Copy",true),("Rows",true)] (ck c t m)=.ok true:=by
 have hm:c∈Qb:=by simpa using hc
 simp only[Qb,List.mem_cons,List.not_mem_nil,or_false]at hm
 have key:isaTb.lookup c=some true:=by rcases hm with rfl | rfl | rfl | rfl<;>decide +kernel
 show(match isaTb.lookup c with | some b=>Out.ok b | none=>.stuck)=_
 rw[key]
theorem bg{x:Int}(h0:0<=x)(h1:x<100 * 1000000000000000000):x.natAbs<2 ^ 4000:=by
 have:(100 * 1000000000000000000:Nat)<2 ^ 4000:=by decide
 refine Nat.lt_of_le_of_lt (m:=100 * 1000000000000000000) (by omega) this
theorem QlU{c:Str}(hc:Qb.contains c=true){t:List (List Int)}{m:Nat}(h:Tb t m){s x:Int}(s0:0<=s)(s1:s<100)(x0:0<=x)(x1:x<90 * 1000000000000000000){O A1 A2:SD->Out D}{ς:SD}(ho:O ς=.ok (ck c t m))(h1:A1 ς=.ok (.int s))(h2:A2 ς=.ok (.int x)):
 eMeth Qb "sent" (fun _=>Q1) O (aCons A1 (aCons A2 aNil)) ς=.ok (dl (snt t m s x)):=by
 rw[Qbd (c:=c) (t:=t) (m:=m) hc (xs:=[.int s,.int x]) ho (Qj h1 (Qj h2 r_nil)) (dk) (dk)]
 exact QsY hc h s0 x0 (bg s0 (by omega)) (bg (by omega) (by omega)) (Qsk h)
theorem QiF(t:List (List Int))(m:Nat)(s x:Int)(h:m<=6):(snt t m s x).length<=1000:=by rw[List.length_map,List.length_range];omega
abbrev sL(ns:List Int)(k:Str)(t:List (List Int))(m:Nat)(b s n:Int)(su:D)(a8 a9 a10 a11:Option (SM×D)):SD:=[some (.k,.lst (ns.map .int)),some (.k,.str (wordT k)),some (.k,tbD t),some (.k,.lst [ck k t m,ck "Rows" t m,ck k t m]),some (.k,.int b),some (.k,.int s),some (.k,.int n),some (.k,su),a8,a9,a10,a11]
theorem QtG(ns:List Int){k:Str}(hk:Qb.contains k=true){t:List (List Int)}{m:Nat}(h:Tb t m){b n:Int}(b0:0<=b)(b1:b<(t.length:Int))(n0:0<=n){i:Nat}(hi:i<=70)(hn:n<=(i:Int) * 1000000000000000000)(z:Int)(a8 a9 a10 a11:Option (SM×D)):
 ∃(v:Int)(c9 c10 c11:Option (SM×D)),0<=v/\v<1000000000000000000/\QfM (sL ns k t m b ((b+n) % (t.length:Int)) n (dl (snt t m b n)) (some (.k,.int z)) a9 a10 a11)=.ok (.nx (sL ns k t m b ((b+(n+v)) % (t.length:Int)) (n+v) (dl (snt t m b (n+v))) (some (.k,.int z)) c9 c10 c11)):=by
 have n1:=h.n1
 have n2:=h.n2
 have m6:=h.m6
 have hr:Qb.contains ("Rows":Str)=true:=dk
 have hN:(0:Int)<(t.length:Int):=by omega
 obtain⟨v,hv,v0,v1⟩:=Qss z
 have s0:=Int.emod_nonneg (b+n) (show(t.length:Int)≠0 by omega)
 have s1:=Int.emod_lt_of_pos (b+n) hN
 have key:∀ j,sf t (b+n) j - sf t b j+(sf t ((b+n) % (t.length:Int)+v) j - sf t ((b+n) % (t.length:Int)) j)=sf t (b+(n+v)) j - sf t b j:=fun j=>by
  have e:=QtY n1 (b+n) v j
  rw[Int.add_assoc]at e
  omega
 have hst:((b+n) % (t.length:Int)+v) % (t.length:Int)=(b+(n+v)) % (t.length:Int):=by
  rw[Int.emod_add_emod,Int.add_assoc]
 generalize (b+n) % (t.length:Int)=s at *
 have hlen:fLen [tbD t]=.ok (.int (t.length:Int)):=by simp[fLen,tbD]
 have hne:=ne_dl (snt t m s v)
 have hrow:=QqU (snt t m s v) (QiF t m s v m6)
 -- all three tell the same
 obtain⟨ς',hL,c11,rfl⟩:=Qjr (body:=fun x ς=>gN 11 x ς>>=fun ς'=>Qg4 ς') (xs:=[ck k t m,ck "Rows" t m,ck k t m])
  (P:=fun ς=>∃ c11,ς=sL ns k t m b s n (dl (snt t m b n)) (some (.k,.int z)) (some (.k,.int v)) (some (.k,dl (snt t m s v))) c11)
  (by
   rintro x hx ς ⟨c11,rfl⟩
   obtain⟨c,hc,rfl⟩:∃ c,Qb.contains c=true/\x=ck c t m:=by
    simp only[List.mem_cons,List.not_mem_nil,or_false]at hx
    rcases hx with rfl | rfl | rfl
    ·exact⟨k,hk,rfl⟩
    ·exact⟨"Rows",hr,rfl⟩
    ·exact⟨k,hk,rfl⟩
   refine⟨sL ns k t m b s n (dl (snt t m b n)) (some (.k,.int z)) (some (.k,.int v)) (some (.k,dl (snt t m s v))) (some (.k,ck c t m)),?_,_,rfl⟩
   refine r_gN rfl ?_
   unfold Qg4
   refine r_ifF (r_or' (QhV (QX (r_isa (r_var rfl) (QuL hc t m)))) (Qex rfl (QhV (QX (Qac (xs:=[dl (snt t m s v),dl (snt t m s v)]) (Qj (QlU hc h s0 (by omega) v0 (by omega) (r_var rfl) (r_var rfl) (r_var rfl)) (Qj (r_var rfl) r_nil)) rfl hrow))))) rfl Qag)
  (sL ns k t m b s n (dl (snt t m b n)) (some (.k,.int z)) (some (.k,.int v)) (some (.k,dl (snt t m s v))) a11) ⟨_,rfl⟩
 have hfor:=Qfv (g:=gN 11) (its:=itL (eVar 3)) (T:=Qg4) (r_itL (r_var rfl)) hL
 have i0:dIx (.lst [ck k t m,ck "Rows" t m,ck k t m]) (.int 0)=.ok (ck k t m):=ixL 0 rfl
 have i1:dIx (.lst [ck k t m,ck "Rows" t m,ck k t m]) (.int 1)=.ok (ck "Rows" t m):=ixL 1 rfl
 have hz:=QjR (js:=[none,none]) (its:=itZ (eVar 7) (eVar 10)) (e:=Qjh) (ς:=sL ns k t m b s n (dl (snt t m b n)) (some (.k,.int z)) (some (.k,.int v)) (some (.k,dl (snt t m s v))) c11) (a:=snt t m b n) (b:=snt t m s v) (· + ·)
  (r_itZ (r_var rfl) (r_var rfl))
  (fun x _ y _=>by
   refine Qjg (by walk_at "cap") (by walk_at "all") ?_
   unfold Qjh
   exact r_e2 (r_var rfl) (r_var rfl) (QY _ _)) (QiF t m b n m6)
 have ez:List.zipWith (· + ·) (snt t m b n) (snt t m s v)=snt t m b (n+v):=by
  unfold snt
  rw[List.zipWith_map,List.zipWith_self]
  apply List.map_congr_left
  intro j _
  exact key j
 rw[ez]at hz
 have tst:sIf (tAnd' (tVal (e2 dLt (eVar 9) (eC (.int 12)))) (tVal (e2 dNe (eVar 10) (eA (fun xs=>Qaz (xs++[])) (aCons (e2 dIx (eVar 3) (eC (.int 1))) (aCons (eVar 5) (aCons (eVar 9) aNil))))))) (sRet (eC (.bl false))) sNil (sL ns k t m b s n (dl (snt t m b n)) (some (.k,.int z)) (some (.k,.int v)) (some (.k,dl (snt t m s v))) c11)=.ok (.nx (sL ns k t m b s n (dl (snt t m b n)) (some (.k,.int z)) (some (.k,.int v)) (some (.k,dl (snt t m s v))) c11)):=by
  by_cases hs:v<12
  ·obtain⟨w,hw⟩:∃ w:Nat,v=(w:Int):=⟨v.toNat,by omega⟩
   have hwk:=Qp9 hr h s0 (v:=w) (by omega)
   rw[← hw]at hwk
   exact r_ifF (Qli (QX (r_e2 (r_var rfl) r_C (Qc6 _ _))) (Qcw (decide_eq_true hs) (QX (r_e2 (r_var rfl) (Qac (xs:=[ck "Rows" t m,.int s,.int v]) (Qj (r_e2 (r_var rfl) r_C i1) (Qj (r_var rfl) (Qj (r_var rfl) r_nil))) rfl hwk) hne)))) rfl Qag
  ·exact r_ifF (Qli (QX (r_e2 (r_var rfl) r_C (Qc6 _ _))) (Qex (decide_eq_false hs) rfl)) rfl Qag
 refine⟨v,some (.k,.int v),some (.k,dl (snt t m s v)),c11,v0,v1,?_⟩
 rw[← hst]
 unfold QfM
 refine r_seq (r_set (ς':=sL ns k t m b s n (dl (snt t m b n)) (some (.k,.int z)) (some (.k,.int v)) a10 a11) (Qac (xs:=[.int z]) (Qj (r_var rfl) r_nil) rfl hv) rfl) (Qn ?_)
 refine r_seq (r_set (ς':=sL ns k t m b s n (dl (snt t m b n)) (some (.k,.int z)) (some (.k,.int v)) (some (.k,dl (snt t m s v))) a11) (QlU hk h s0 (by omega) v0 (by omega) (r_e2 (r_var rfl) r_C i0) (r_var rfl) (r_var rfl)) rfl) (Qn ?_)
 refine r_seq hfor (Qn (r_seq tst (Qn ?_)))
 refine r_seq (r_set (ς':=sL ns k t m b s n (dl (snt t m b (n+v))) (some (.k,.int z)) (some (.k,.int v)) (some (.k,dl (snt t m s v))) c11) hz rfl) (Qn ?_)
 refine r_seq (r_set (ς':=sL ns k t m b s (n+v) (dl (snt t m b (n+v))) (some (.k,.int z)) (some (.k,.int v)) (some (.k,dl (snt t m s v))) c11) (r_e2 (r_var rfl) (r_var rfl) (QY _ _)) rfl) (Qn ?_)
 exact r_set (r_e2 (r_e2 (r_var rfl) (r_var rfl) (QY _ _)) (r_eA (Qj (r_var rfl) r_nil) hlen) (Qa0 hN)) rfl
theorem the_law(ns:List Int)(hl:ns.length<=63)(hb:∀ z∈ns,bitsI z<=1048576):QeM [.lst (ns.map .int)]=.ok (.bl true):=by
 obtain⟨c,hc⟩:=QtK ns
 obtain⟨k,t,m,hsm,kd,hk⟩:=QrO c
 have h:=kd.tb
 have n1:=h.n1
 have n2:=h.n2
 have m6:=h.m6
 have hN:(0:Int)<(t.length:Int):=by omega
 obtain⟨x,hx,x0,x1⟩:=Qev c (k:=36) (by decide) (by decide)
 have b0:=Int.emod_nonneg x (show(t.length:Int)≠0 by omega)
 have b1:=Int.emod_lt_of_pos x hN
 have hmod:dMod (.int x) (.int (t.length:Int))=.ok (.int (x % (t.length:Int))):=Qa0 hN
 generalize x % (t.length:Int)=b at *
 have hlen:fLen [tbD t]=.ok (.int (t.length:Int)):=by simp[fLen,tbD]
 have hmd:=QtF kd
 have hri:=QgR (c:="Rows") (dk) h
 have htx:=Qtl hk h
 have hrd:=QpI h kd
 have r0:t[0]?=some t[0]:=by simp
 have hr0:(t[0]).length=m:=h.row _ (List.getElem_mem _)
 have hix0:dIx (tbD t) (.int 0)=.ok (dl t[0]):=ixL 0 (by rw[List.getElem?_map,r0];rfl)
 have hl0:fLen [dl t[0]]=.ok (.int (m:Int)):=by simp[fLen,dl,hr0]
 have hrep:dRep (.lst [.int 0]) (.int (m:Int))=.ok (dl (snt t m b 0)):=by
  rw[QoE (by omega),Qk4];unfold dl;rw[List.map_replicate]
 have hcl:eComp [none] (itL (eVar 2)) (gN 0) cTrue QoV [some (.k,.lst (ns.map .int)),some (.k,.str (wordT k)),some (.k,tbD t),none,none,none,none,none,none,none,none,none]=.ok (tbD t):=by
  refine Qbb dl dl (r_itL (r_var rfl)) (fun x hx=>?_) (by omega)
  refine Qax (by walk_at "cap") (by walk_at "s") ?_
  rfl
 have hmt:eMeth Qb "text" (fun _=>Qay) (eIxO 3 (eC (.int 0))) aNil [some (.k,.lst (ns.map .int)),some (.k,.str (wordT k)),some (.k,tbD t),some (.o,.lst [ck k t m,ck "Rows" t m]),none,none,none,none,none,none,none,none]=.ok (.str (ctext k t)):=by
  rw[Qbd (c:=k) (t:=t) (m:=m) hk (xs:=[]) (r_ixO rfl r_C rfl) rfl (dk) (dk)]
  exact htx
 have hits:∀ a8 a9 a10 a11:Option (SM×D),itL (e2 dCat (eSl (eVar 0) (oSome (eC (.int 1))) (oSome (eC (.int 61)))) (eLst (aCons (eC (.int 0)) aNil))) (sL ns k t m b b 0 (dl (snt t m b 0)) a8 a9 a10 a11)=.ok ((((ns.drop 1).take 60)++[0]).map D.int):=fun a8 a9 a10 a11=>by
  have hcut:cutD (ns.map D.int) (some 1) (some 61)=((ns.drop 1).take 60).map D.int:=by
   have e:=Quq (ns.map D.int) 1 61
   rw[← List.map_drop, ← List.map_take]at e
   exact e
  have hcat:dCat (.lst (((ns.drop 1).take 60).map D.int)) (.lst [.int 0])=.ok (.lst ((((ns.drop 1).take 60)++[0]).map D.int)):=by
   rw[QtL (by simp;omega)];simp
  exact r_itL (r_e2 (r_sl (r_var rfl) (Qg3 r_C) (Qg3 r_C) hcut) (r_lst (Qj r_C r_nil) (show 1<=1000 by decide)) hcat)
 have hxl:((((ns.drop 1).take 60)++[0]).map D.int).length<=61:=by simp;omega
 obtain⟨ς',hL,n,a8,a9,a10,a11,n0,hn,rfl⟩:=loopL (body:=fun x ς=>gN 8 x ς>>=fun ς'=>QfM ς') (xs:=(((ns.drop 1).take 60)++[0]).map D.int)
  (P:=fun i ς=>∃(n:Int)(a8 a9 a10 a11:Option (SM×D)),0<=n/\n<=(i:Int) * 1000000000000000000/\ς=sL ns k t m b ((b+n) % (t.length:Int)) n (dl (snt t m b n)) a8 a9 a10 a11) 0
  (by
   rintro i y hy ς ⟨n,a8,a9,a10,a11,n0,hn,rfl⟩
   have hi:i<((((ns.drop 1).take 60)++[0]).map D.int).length:=(List.getElem?_eq_some_iff.mp hy).1
   obtain⟨z,_,rfl⟩:=List.mem_map.mp (List.mem_of_getElem? hy)
   obtain⟨v,c9,c10,c11,v0,v1,hT⟩:=QtG ns hk h b0 b1 n0 (i:=0+i) (by omega) hn z a8 a9 a10 a11
   exact⟨_,r_gN rfl hT,n+v,some (.k,.int z),c9,c10,c11,by omega,by omega,rfl⟩)
  (sL ns k t m b ((b+0) % (t.length:Int)) 0 (dl (snt t m b 0)) none none none none) ⟨0,none,none,none,none,Int.le_refl 0,by omega,rfl⟩
 have hbb:(b+0) % (t.length:Int)=b:=by rw[Int.add_zero,Int.emod_eq_of_lt b0 b1]
 rw[hbb]at hL
 have hfor:=Qfv (g:=gN 8) (T:=QfM) (hits none none none none) hL
 have i2:dIx (.lst [ck k t m,ck "Rows" t m,ck k t m]) (.int 2)=.ok (ck k t m):=ixL 2 rfl
 have hrow:=QqU (snt t m b n) (QiF t m b n m6)
 have cel:∀ ς:SD,ς[0]?=some (some (.k,.lst (ns.map .int)))->eA (fun xs=>Q8 (xs++[])) (aCons (eVar 0) (aCons (eC (.int 0)) aNil)) ς=.ok (.int c):=fun ς h0=>Qac (xs:=[.lst (ns.map .int),.int 0]) (Qj (r_var h0) (Qj r_C r_nil)) rfl hc
 rw[QvD]
 unfold QkV
 refine Qav (fl:=.rt false (.bl true)) ?_ r_rt
 refine r_seq (r_unp (ς':=[some (.k,.lst (ns.map .int)),some (.k,.str (wordT k)),some (.k,tbD t),none,none,none,none,none,none,none,none,none]) (Qac (xs:=[.int c,cps3]) (Qj (cel _ rfl) (Qj (r_tup (Qj r_C (Qj r_C (Qj r_C r_nil))) (by show 3<=1000;decide)) r_nil)) rfl hsm) rfl) (Qn ?_)
 refine r_seq (QqQ (ς':=[some (.k,.lst (ns.map .int)),some (.k,.str (wordT k)),some (.k,tbD t),some (.o,.lst [ck k t m,ck "Rows" t m]),none,none,none,none,none,none,none,none]) (r_lst (Qj (Qac (xs:=[.str (wordT k),tbD t]) (Qj (r_var rfl) (Qj (r_var rfl) r_nil)) rfl hmd) (Qj (QfC (Qj hcl r_nil) hri) r_nil)) (show 2<=1000 by decide)) rfl) (Qn ?_)
 refine r_seq (r_app (ς':=[some (.k,.lst (ns.map .int)),some (.k,.str (wordT k)),some (.k,tbD t),some (.o,.lst [ck k t m,ck "Rows" t m,ck k t m]),none,none,none,none,none,none,none,none]) rfl (Qac (xs:=[.str (ctext k t)]) (Qj hmt r_nil) rfl hrd) (show 2<=1000 by decide) rfl) (Qn ?_)
 refine r_seq (r_set (ς':=[some (.k,.lst (ns.map .int)),some (.k,.str (wordT k)),some (.k,tbD t),some (.o,.lst [ck k t m,ck "Rows" t m,ck k t m]),some (.k,.int b),none,none,none,none,none,none,none]) (r_e2 (Qac (xs:=[.int c,.int 36]) (Qj (cel _ rfl) (Qj r_C r_nil)) rfl hx) (r_eA (Qj (r_var rfl) r_nil) hlen) hmod) rfl) (Qn ?_)
 refine r_seq (r_set (r_var rfl) rfl) (Qn (r_seq (r_set r_C rfl) (Qn (r_seq (r_set (d:=dl (snt t m b 0)) (r_e2 (r_lst (Qj r_C r_nil) (show 1<=1000 by decide)) (r_eA (Qj (r_e2 (r_var rfl) r_C hix0) r_nil) hl0) hrep) rfl) (Qn ?_)))))
 refine r_seq (show _=Out.ok (Fl.nx _) from hfor) (Qn ?_)
 exact r_ret (Qac (xs:=[dl (snt t m b n),dl (snt t m b n)]) (Qj (QlU hk h b0 (by omega) n0 (by omega) (r_e2 (r_var rfl) r_C i2) (r_var rfl) (r_var rfl)) (Qj (r_var rfl) r_nil)) rfl hrow)
end My
namespace My
open PySem PySem.Spec L2 DL
set_option hygiene false
local macro_rules
 | `("N"^$x $s) => `(W.nsIn K mainGlobals $s=some (some (.ref $x)))
 | `("Z"^$s) => `(W.nsIn K mainGlobals $s=some none)
 | `("K"^$x) => `(W.keepIn K (.ref $x)=true)
 | `("I"^$x) => `(W.isFn K (.ref $x)=true)
 | `("V"^$x $s) => `(W.findIn K (.ref $x) $s=some none)
 | `("G"^$x $s $y) => `(W.findIn K (.ref $x) $s=some (some (.ref $y)))
 | `("T"^$x $y $b) => `(W.kitOne K (.ref $x) (.ref $y)=some $b)
 | `("D"^$a $b $c $d) => `(⟨_,_,_,_,$a,W.mg_of X G $b,$c,$d,.nil⟩)
 | `("F"^$k $l $b $q) => `(FnOk l.prog w K mg base CX0 $k _ _ $l (SpD K (ctOf K) $b $q))
 | `("E"^$q $s $k $b) => `(DefOk l.prog w K mg base (ctOf K) $s $k $b [] $q)
 | `("A"^$x) => `(W.mg_of X G $x)
 | `("R"^$a $b $c) => `(by rw[$a:term]at hA;cases hA;exact⟨$b,$c⟩)
local macro_rules
 | `(tactic|walk_at "h0") => `(tactic|((have hm:c∈Qb := by simpa using hc);simp only[Qb,List.mem_cons,List.not_mem_nil,or_false]at hm))
set_option hygiene true
theorem all_mk{l:W.OpenLaw}{w:World}{K:W.Frag}{h:Heap}{mg:Str->Option Value}{fa:Addr}(X:K.In h)(G:h.Ns mainGlobals mg)(hfa:mg "law"=some (.ref fa))
 {Qy Qo QA Qz QH Qde Qdo Qcg Qdi QQ QU Qs Q4 QbP Qbo QaC Qdq Qcf Qds Qdp Q3 Q6 Qaf QjU Qhb Qhc QjF Qf4 QjE Qfw Qib Qhn QlA QhX QgU QhZ Qhk Qgh Qip QgD Qhe Qh4 Qgw Qo3 C_Clerk:Addr} {Quw Qrz:Option Addr} {Qup:Array (Option Value)} {Quy Qp8 Qq5 Qrp Ql0 QrA:Value} {vb vc vd vh v7:Tok}
 (QqC:"N"^Qy "Deal")
 (Qub:W.plainGet K Qy Str.empty=true)
 (Quh:W.hasDictIn K Qy=true)
 (QtA:W.plainOver K Qy=true)
 (QsJ:W.findIn K (.ref Qy) "__setattr__"=some (some (.builtin "object.__setattr__")))
 (QkU:"V"^Qy "table")
 (Qkq:"V"^Qy "heads")
 (Qk2:"N"^Qo "Bundle")
 (Qri:W.plainGet K Qo Str.empty=true)
 (Qrh:W.hasDictIn K Qo=true)
 (Qqc:W.plainOver K Qo=true)
 (QqE:W.findIn K (.ref Qo) "__setattr__"=some (some (.builtin "object.__setattr__")))
 (Qii:"V"^Qo "table")
 (QhT:"V"^Qo "heads")
 (Qqm:"N"^QA "Copy")
 (QsV:W.plainGet K QA Str.empty=true)
 (QsE:W.hasDictIn K QA=true)
 (Qtr:W.plainOver K QA=true)
 (QtX:W.findIn K (.ref QA) "__setattr__"=some (some (.builtin "object.__setattr__")))
 (QkO:"V"^QA "table")
 (QkC:"V"^QA "heads")
 (Qqk:"N"^Qz "Rows")
 (Qta:W.plainGet K Qz Str.empty=true)
 (Qui:W.hasDictIn K Qz=true)
 (QsM:W.plainOver K Qz=true)
 (QtR:W.findIn K (.ref Qz) "__setattr__"=some (some (.builtin "object.__setattr__")))
 (Qko:"V"^Qz "table")
 (QkR:"V"^Qz "heads")
 (Qkg:"G"^Qy "period" QQ)
 (Qh0:"G"^Qo "period" QQ)
 (QkH:"G"^QA "period" QQ)
 (QkE:"G"^Qz "period" QQ)
 (Qly:"G"^Qy "whole" QU)
 (QiW:"G"^Qo "whole" QU)
 (Ql3:"G"^QA "whole" QU)
 (QmD:"G"^Qz "whole" QU)
 (Qe9:"G"^Qy "sent_from_start" Qs)
 (Qen:"G"^Qo "sent_from_start" Qs)
 (Qe6:"G"^QA "sent_from_start" Qs)
 (Qe3:"G"^Qz "sent_from_start" Qs)
 (Qod:"G"^Qy "word" Qdq)
 (QkN:"G"^Qo "word" Qcf)
 (Qm9:"G"^QA "word" Qds)
 (Qnk:"G"^Qz "word" Qdp)
 (Qjp:"G"^Qy "numbers" QbP)
 (Qhy:"G"^Qo "numbers" Qbo)
 (Qjl:"G"^QA "numbers" QaC)
 (QiQ:"G"^Qz "numbers" QaC)
 (Qnd:"G"^Qy "outs" Q6)
 (QkJ:"G"^Qo "outs" Q6)
 (Qnf:"G"^QA "outs" Q6)
 (QnE:"G"^Qz "outs" Q6)
 (Qpx:"G"^Qy "row" Qaf)
 (QlE:"G"^Qo "row" Qaf)
 (Qpm:"G"^QA "row" Qaf)
 (QpS:"G"^Qz "row" Qaf)
 (Qnt:"G"^Qy "text" Q3)
 (Qku:"G"^Qo "text" Q3)
 (Qnv:"G"^QA "text" Q3)
 (QnO:"G"^Qz "text" Q3)
 (QnU:"G"^Qy "sent" Q4)
 (Qkc:"G"^Qo "sent" Q4)
 (Qoi:"G"^QA "sent" Q4)
 (QnT:"G"^Qz "sent" Q4)
 (Qhp:"G"^Qy "keep_rows" QH)
 (Qgy:"G"^Qo "keep_rows" QH)
 (Qhr:"G"^QA "keep_rows" QH)
 (QhB:"G"^Qz "keep_rows" QH)
 (Qnm:"G"^Qy "__init__" Qdo)
 (QkQ:"G"^Qo "__init__" Qcg)
 (Qog:"G"^QA "__init__" Qdi)
 (QnB:"G"^Qz "__init__" Qde)
 (Qr0:W.makesIn K Qy=true)
 (Qsz:"K"^Qy)
 (Qpy:W.makesIn K Qo=true)
 (QpH:"K"^Qo)
 (Qso:W.makesIn K QA=true)
 (Qse:"K"^QA)
 (Qr2:W.makesIn K Qz=true)
 (Qsh:"K"^Qz)
 (y1:W.specialIn K (.builtin "object.__class__") "__get__"=some (some (.builtin "getset_descriptor.__get__")))
 (y2:W.takesIn K (.builtin "object.__class__")=some true)
 (Quf:W.findIn K (.ref Qy) "__class__"=some (some (.builtin "object.__class__")))
 (Qt8:W.mroIn K Qy (.type "object")=some true)
 (Qq3:W.findIn K (.ref Qo) "__class__"=some (some (.builtin "object.__class__")))
 (Qqf:W.mroIn K Qo (.type "object")=some true)
 (Qt5:W.findIn K (.ref QA) "__class__"=some (some (.builtin "object.__class__")))
 (QtB:W.mroIn K QA (.type "object")=some true)
 (QtE:W.findIn K (.ref Qz) "__class__"=some (some (.builtin "object.__class__")))
 (QtJ:W.mroIn K Qz (.type "object")=some true)
 (Qqa:"N"^QjU "_law_mix")
 (Qq2:∃ fd,FunV K "_law_mix" "_law_mix" QgM QjU fd .none)
 (Qol:"N"^Qhb "_law_small")
 (Qnb:∃ fd,FunV K "_law_small" "_law_small" Qbv Qhb fd .none)
 (Qoc:"N"^Qhc "_law_whole")
 (QnF:∃ fd,FunV K "_law_whole" "_law_whole" Qe5 Qhc fd .none)
 (QqS:"N"^QjF "_law_row")
 (Qqt:∃ fd,FunV K "_law_row" "_law_row" Qgx QjF fd .none)
 (QkD:"N"^Qf4 "_law_cell_at")
 (QjW:∃ fd,FunV K "_law_cell_at" "_law_cell_at" QdK Qf4 fd .none)
 (Qqh:"N"^QjE "sums_of")
 (Qq6:∃ fd,FunV K "sums_of" "sums_of" QeV QjE fd .none)
 (QiV:"N"^Qfw "running_sums")
 (QiD:∃ fd,FunV K "running_sums" "running_sums" QbR Qfw fd .none)
 (Qa5:"I"^QH)
 (Qg9:∃ fd,FunV K "keep_rows" "Clerk.keep_rows" Qba QH fd .none)
 (QpV:"N"^Qib "is_whole")
 (Qpa:∃ fd,FunV K "is_whole" "is_whole" QfY Qib fd .none)
 (Qne:"N"^Qhn "is_within")
 (Qm8:∃ fd,FunV K "is_within" "is_within" Qfa Qhn fd .none)
 (Qsi:"N"^QlA "is_row")
 (QrW:∃ fd,FunV K "is_row" "is_row" Qf3 QlA fd .none)
 (QpC:"N"^QhX "is_table")
 (Qpn:∃ fd,FunV K "is_table" "is_table" QcD QhX fd .none)
 (Qnh:"I"^Qde)
 (Qm0:∃ fd,FunV K "__init__" "Rows.__init__" Qe2 Qde fd .none)
 (Qmo:"N"^QgU "single_row")
 (QlH:∃ fd,FunV K "single_row" "single_row" QcT QgU fd .none)
 (Qob:"I"^Qdo)
 (Qop:∃ fd,FunV K "__init__" "Deal.__init__" Qdd Qdo fd .none)
 (Qkp:"I"^Qcg)
 (Qks:∃ fd,FunV K "__init__" "Bundle.__init__" Qb4 Qcg fd .none)
 (QmV:"I"^Qdi)
 (Qou:∃ fd,FunV K "__init__" "Copy.__init__" Qe8 Qdi fd .none)
 (Qp2:"N"^QhZ "_law_made")
 (Qo7:∃ fd,FunV K "_law_made" "_law_made" Qd1 QhZ fd .none)
 (Qm2:"N"^Qhk "is_number")
 (Qoe:∃ fd,FunV K "is_number" "is_number" Qdu Qhk fd .none)
 (Qkn:"N"^Qgh "read_number")
 (QkS:∃ fd,FunV K "read_number" "read_number" QdO Qgh fd .none)
 (Qpt:"N"^Qip "read_row")
 (QpN:∃ fd,FunV K "read_row" "read_row" QdY Qip fd .none)
 (QmF:"N"^QgD "read_clerk")
 (Qmy:∃ fd,FunV K "read_clerk" "read_clerk" QcK QgD fd .none)
 (Qoq:"N"^Qhe "_law_count")
 (QnP:∃ fd,FunV K "_law_count" "_law_count" Qdh Qhe fd .none)
 (QbH:"I"^QQ)
 (Qi9:∃ fd,FunV K "period" "Clerk.period" Qc0 QQ fd .none)
 (Qb7:"I"^QU)
 (Qj8:∃ fd,FunV K "whole" "Clerk.whole" QdT QU fd .none)
 (Qap:"I"^Qs)
 (QeK:∃ fd,FunV K "sent_from_start" "Clerk.sent_from_start" Qak Qs fd .none)
 (Qcz:"I"^Q4)
 (Qlo:∃ fd,FunV K "sent" "Clerk.sent" QcE Q4 fd .none)
 (QiJ:"I"^QbP)
 (Qi1:∃ fd,FunV K "numbers" "Deal.numbers" Qc5 QbP fd .none)
 (Qho:"I"^Qbo)
 (QhD:∃ fd,FunV K "numbers" "Bundle.numbers" Qck Qbo fd .none)
 (Qpd:"N"^Qh4 "row_text")
 (Qp1:∃ fd,FunV K "row_text" "row_text" Qd2 Qh4 fd .none)
 (QeS:"I"^QaC)
 (Qih:∃ fd,FunV K "numbers" "Clerk.numbers" Qbx QaC fd .none)
 (QnS:"I"^Qdq)
 (Qot:∃ fd,FunV K "word" "Deal.word" Qfi Qdq fd .none)
 (Qj0:"I"^Qcf)
 (Qkj:∃ fd,FunV K "word" "Bundle.word" QdG Qcf fd .none)
 (Qom:"I"^Qds)
 (QnX:∃ fd,FunV K "word" "Copy.word" Qe4 Qds fd .none)
 (QmP:"I"^Qdp)
 (QnM:∃ fd,FunV K "word" "Rows.word" Qfc Qdp fd .none)
 (Qcr:"I"^Q3)
 (QlB:∃ fd,FunV K "text" "Clerk.text" Qer Q3 fd .none)
 (QcN:"I"^Q6)
 (Qlm:∃ fd,FunV K "outs" "Clerk.outs" Qeu Q6 fd .none)
 (Qdj:"I"^Qaf)
 (QnW:∃ fd,FunV K "row" "Clerk.row" Qfe Qaf fd .none)
 (QmB:"N"^Qgw "_law_walked")
 (Qlz:∃ fd,FunV K "_law_walked" "_law_walked" QcQ Qgw fd .none)
 (QvB:"N"^Qo3 "law")
 (QvC:K.lookup Qo3=some ⟨Quy,Quw,.func (W.fnOf "law" "law" (Qcp QcR) (Qbc QcR) (Qd QcR) .none Qp8 Qq5 Qrp Qrz Ql0 QrA),Qup⟩)
 (QvE:W.codeIn K Ql0 "law"=true)
 (QvF:"K"^Qo3)
 (z_min:"Z"^"min")
 (z_range:"Z"^"range")
 (z_int:"Z"^"int")
 (z_isinstance:"Z"^"isinstance")
 (z_bool:"Z"^"bool")
 (z_list:"Z"^"list")
 (z_len:"Z"^"len")
 (z_zip:"Z"^"zip")
 (z_all:"Z"^"all")
 (z_str:"Z"^"str")
 (c_MOST_OUTS:W.nsIn K mainGlobals "MOST_OUTS"=some (some (.int 6 vb)))
 (c_MOST_SENT:W.nsIn K mainGlobals "MOST_SENT"=some (some (.int 9 vc)))
 (c_MOST_ROWS:W.nsIn K mainGlobals "MOST_ROWS"=some (some (.int 12 vd)))
 (c_FIGURES:W.nsIn K mainGlobals "FIGURES"=some (some (.str "0123456789" vh)))
 (c_MOST_FIGURES:W.nsIn K mainGlobals "MOST_FIGURES"=some (some (.int 2 v7)))
 (a_Clerk:"N"^C_Clerk "Clerk")
 (Qma:"T"^Qz C_Clerk true)
 (QlJ:"T"^QA C_Clerk true)
 (QiN:"T"^Qo C_Clerk true)
 (QlO:"T"^Qy C_Clerk true):
 ∃ fd:FuncData,(∀(s:Shared)(v:Value),BindsTo s fd ⟨[v],[]⟩ [("_law_script",v)])/\∀ base:Heap,K.In base->base.Ns mainGlobals mg->FnOk l.prog w K mg base CX0 8 fa fd ["_law_script"] (SpD K (ctOf K) false QeM):=by
 have ee:=hfa.symm.trans ("A"^QvB)
 cases ee
 have Quj:="A"^QqC
 have QaB:=ct_of QqC
 have QaK:Cls K Qy:=⟨Qub,Quh,QtA,QsJ⟩
 have QrE:="A"^Qk2
 have QZ:=ct_of Qk2
 have Qae:Cls K Qo:=⟨Qri,Qrh,Qqc,QqE⟩
 have QtH:="A"^Qqm
 have QaE:=ct_of Qqm
 have QaL:Cls K QA:=⟨QsV,QsE,Qtr,QtX⟩
 have QtI:="A"^Qqk
 have QaD:=ct_of Qqk
 have QaM:Cls K Qz:=⟨Qta,Qui,QsM,QtR⟩
 have fo_table:FldOk K (ctOf K) Qb "table":=by
  intro c hc A hA
  walk_at "h0"
  rcases hm with rfl | rfl | rfl | rfl
  ·exact "R"^QaB QaK QkU
  ·exact "R"^QZ Qae Qii
  ·exact "R"^QaE QaL QkO
  ·exact "R"^QaD QaM Qko
 have fo_heads:FldOk K (ctOf K) Qb "heads":=by
  intro c hc A hA
  walk_at "h0"
  rcases hm with rfl | rfl | rfl | rfl
  ·exact "R"^QaB QaK Qkq
  ·exact "R"^QZ Qae QhT
  ·exact "R"^QaE QaL QkC
  ·exact "R"^QaD QaM QkR
 have Qs4:ClsD K Qy:=⟨QaK,Quf,y1,y2,Qt8⟩
 have Qq7:ClsD K Qo:=⟨Qae,Qq3,y1,y2,Qqf⟩
 have QsG:ClsD K QA:=⟨QaL,Qt5,y1,y2,QtB⟩
 have Qs3:ClsD K Qz:=⟨QaM,QtE,y1,y2,QtJ⟩
 obtain⟨Qpo,QgQ⟩:=Qq2
 have Qrw:=QgQ.kp
 have QrB:Binds K Qpo ["_law_cell","_law_k"] []:=QgQ.b2 fun _ _ _ _ _ _ _ _=>rfl
 obtain⟨Qk7,Qfn⟩:=Qnb
 have Qn7:=Qfn.kp
 have QmY:Binds K Qk7 ["_law_cell","_law_caps"] []:=Qfn.b2 fun _ _ _ _ _ _ _ _=>rfl
 obtain⟨QmH,Qfd⟩:=QnF
 have QnD:=Qfd.kp
 have QmU:Binds K QmH ["_law_found"] []:=Qfd.b1 fun _ _ _ _ _ _ _=>rfl
 obtain⟨QpO,Qgv⟩:=Qqt
 have Qqi:=Qgv.kp
 have QqX:Binds K QpO ["_law_found","_law_due"] []:=Qgv.b2 fun _ _ _ _ _ _ _ _=>rfl
 obtain⟨Qjq,QdR⟩:=QjW
 have QkM:=QdR.kp
 have Qkx:Binds K Qjq ["_law_script","_law_k"] []:=QdR.b2 fun _ _ _ _ _ _ _ _=>rfl
 obtain⟨Qpg,Qgj⟩:=Qq6
 have Qrr:=Qgj.kp
 have QrD:Binds K Qpg ["one","other"] []:=Qgj.b2 fun _ _ _ _ _ _ _ _=>rfl
 obtain⟨QhO,QcX⟩:=QiD
 have Qjm:=QcX.kp
 have Qi5:Binds K QhO ["rows"] []:=QcX.b1 fun _ _ _ _ _ _ _=>rfl
 obtain⟨QgN,QbT⟩:=Qg9
 have Qa9:=QbT.kp
 have Qa7:Binds K QgN ["self","rows"] []:=QbT.b2 fun _ _ _ _ _ _ _ _=>rfl
 obtain⟨QmW,QfU⟩:=Qpa
 have Qpq:=QfU.kp
 have Qp0:Binds K QmW ["thing"] []:=QfU.b1 fun _ _ _ _ _ _ _=>rfl
 obtain⟨Qlg,Qfk⟩:=Qm8
 have Qof:=Qfk.kp
 have QnJ:Binds K Qlg ["thing","least","most"] []:=Qfk.b3 fun _ _ _ _ _ _ _ _ _=>rfl
 obtain⟨QqN,Qhu⟩:=QrW
 have Qsf:=Qhu.kp
 have Qsp:Binds K QqN ["thing"] []:=Qhu.b1 fun _ _ _ _ _ _ _=>rfl
 obtain⟨QmS,QfT⟩:=Qpn
 have Qpr:=QfT.kp
 have Qpi:Binds K QmS ["thing"] []:=QfT.b1 fun _ _ _ _ _ _ _=>rfl
 obtain⟨Ql9,Qfo⟩:=Qm0
 have Qvw:=Qfo.kp
 have QnK:Binds K Ql9 ["self","rows"] []:=Qfo.b2 fun _ _ _ _ _ _ _ _=>rfl
 obtain⟨Qka,QeE⟩:=QlH
 have QlV:=QeE.kp
 have Qk9:Binds K Qka ["many","place"] []:=QeE.b2 fun _ _ _ _ _ _ _ _=>rfl
 obtain⟨Qll,Qfp⟩:=Qop
 have Qvz:=Qfp.kp
 have Qn3:Binds K Qll ["self","many"] []:=Qfp.b2 fun _ _ _ _ _ _ _ _=>rfl
 obtain⟨Qiv,QdP⟩:=Qks
 have Qum:=QdP.kp
 have Qkh:Binds K Qiv ["self","size"] []:=QdP.b2 fun _ _ _ _ _ _ _ _=>rfl
 obtain⟨QlY,Qfh⟩:=Qou
 have Qvy:=Qfh.kp
 have QmR:Binds K QlY ["self","counts"] []:=Qfh.b2 fun _ _ _ _ _ _ _ _=>rfl
 obtain⟨Qnj,QfQ⟩:=Qo7
 have Qo1:=QfQ.kp
 have QpQ:Binds K Qnj ["_law_word","_law_table"] []:=QfQ.b2 fun _ _ _ _ _ _ _ _=>rfl
 obtain⟨Qmw,Qfj⟩:=Qoe
 have QnL:=Qfj.kp
 have QnG:Binds K Qmw ["text","most"] []:=Qfj.b2 fun _ _ _ _ _ _ _ _=>rfl
 obtain⟨Qiy,QdS⟩:=QkS
 have Qkr:=QdS.kp
 have QkK:Binds K Qiy ["text"] []:=QdS.b1 fun _ _ _ _ _ _ _=>rfl
 obtain⟨Qor,Qf2⟩:=QpN
 have QpB:=Qf2.kp
 have QpE:Binds K Qor ["text"] []:=Qf2.b1 fun _ _ _ _ _ _ _=>rfl
 obtain⟨Qj5,QeD⟩:=Qmy
 have Qmx:=QeD.kp
 have Qlq:Binds K Qj5 ["text"] []:=QeD.b1 fun _ _ _ _ _ _ _=>rfl
 obtain⟨Qmc,Qfm⟩:=QnP
 have Qnp:=Qfm.kp
 have Qns:Binds K Qmc ["_law_cell"] []:=Qfm.b1 fun _ _ _ _ _ _ _=>rfl
 obtain⟨Qia,QcW⟩:=Qi9
 have QbO:=QcW.kp
 have QbJ:Binds K Qia ["self"] []:=QcW.b1 fun _ _ _ _ _ _ _=>rfl
 obtain⟨Qjc,QdM⟩:=Qj8
 have Qca:=QdM.kp
 have Qb8:Binds K Qjc ["self"] []:=QdM.b1 fun _ _ _ _ _ _ _=>rfl
 obtain⟨Qet,QaU⟩:=QeK
 have Qan:=QaU.kp
 have Qao:Binds K Qet ["self","count"] []:=QaU.b2 fun _ _ _ _ _ _ _ _=>rfl
 obtain⟨Qkm,Qeh⟩:=Qlo
 have QcO:=Qeh.kp
 have Qct:Binds K Qkm ["self","state","count"] []:=Qeh.b3 fun _ _ _ _ _ _ _ _ _=>rfl
 obtain⟨QhR,Qc9⟩:=Qi1
 have Qiw:=Qc9.kp
 have QiM:Binds K QhR ["self"] []:=Qc9.b1 fun _ _ _ _ _ _ _=>rfl
 obtain⟨Qg7,Qcl⟩:=QhD
 have QhA:=Qcl.kp
 have Qht:Binds K Qg7 ["self"] []:=Qcl.b1 fun _ _ _ _ _ _ _=>rfl
 obtain⟨QnC,QfX⟩:=Qp1
 have QpF:=QfX.kp
 have Qo6:Binds K QnC ["row"] []:=QfX.b1 fun _ _ _ _ _ _ _=>rfl
 obtain⟨QhH,QcC⟩:=Qih
 have QeP:=QcC.kp
 have QeL:Binds K QhH ["self"] []:=QcC.b1 fun _ _ _ _ _ _ _=>rfl
 obtain⟨QlW,Qff⟩:=Qot
 have Qnu:=Qff.kp
 have Qn4:Binds K QlW ["self"] []:=Qff.b1 fun _ _ _ _ _ _ _=>rfl
 obtain⟨Qit,QdL⟩:=Qkj
 have QkI:=QdL.kp
 have Qke:Binds K Qit ["self"] []:=QdL.b1 fun _ _ _ _ _ _ _=>rfl
 obtain⟨Qlh,Qfg⟩:=QnX
 have Qon:=Qfg.kp
 have QmT:Binds K Qlh ["self"] []:=Qfg.b1 fun _ _ _ _ _ _ _=>rfl
 obtain⟨Qle,Qfq⟩:=QnM
 have QnQ:=Qfq.kp
 have Qnl:Binds K Qle ["self"] []:=Qfq.b1 fun _ _ _ _ _ _ _=>rfl
 obtain⟨QkT,Qeo⟩:=QlB
 have Qcv:=Qeo.kp
 have QcM:Binds K QkT ["self"] []:=Qeo.b1 fun _ _ _ _ _ _ _=>rfl
 obtain⟨QkG,QeF⟩:=Qlm
 have Qcu:=QeF.kp
 have Qcy:Binds K QkG ["self"] []:=QeF.b1 fun _ _ _ _ _ _ _=>rfl
 obtain⟨Qlt,Qfl⟩:=QnW
 have Qdl:=Qfl.kp
 have Qdw:Binds K Qlt ["self","state"] []:=Qfl.b2 fun _ _ _ _ _ _ _ _=>rfl
 obtain⟨Qj4,Qej⟩:=Qlz
 have Qk6:=Qej.kp
 have Qmz:Binds K Qj4 ["_law_clerk","_law_state","_law_count_here"] []:=Qej.b3 fun _ _ _ _ _ _ _ _ _=>rfl
 have QsD:=funV_mk (st:=QcR) QvC QvE QvF
 have QvJ:=QsD.binds (ps:=["_law_script"]) fun _ _ _ _ _ _ us hl=>match us,hl with | [_],_=>rfl
 have vj:mg "min"=none:=W.mg_none_of X G z_min
 have v2:mg "range"=none:=W.mg_none_of X G z_range
 have v8:mg "int"=none:=W.mg_none_of X G z_int
 have v0:mg "isinstance"=none:=W.mg_none_of X G z_isinstance
 have vg:mg "bool"=none:=W.mg_none_of X G z_bool
 have v3:mg "list"=none:=W.mg_none_of X G z_list
 have v1:mg "len"=none:=W.mg_none_of X G z_len
 have v4:mg "zip"=none:=W.mg_none_of X G z_zip
 have ve:mg "all"=none:=W.mg_none_of X G z_all
 have v9:mg "str"=none:=W.mg_none_of X G z_str
 have v5:="A"^c_MOST_OUTS
 have vf:="A"^c_MOST_SENT
 have v6:="A"^c_MOST_ROWS
 have vi:="A"^c_FIGURES
 have va:="A"^c_MOST_FIGURES
 have mm_Clerk:="A"^a_Clerk
 have tt_Clerk:=ct_of a_Clerk
 have ki_Clerk:KitI K (ctOf K) (.ref C_Clerk) [("Deal",true),("Bundle",true),("Copy",true),("Rows",true)]:=(QeR QaB Qs4 QlO (QeR QZ Qq7 QiN (QeR QaE QsG QlJ (QeR QaD Qs3 Qma Qsq))))
 refine⟨W.fnOf "law" "law" (Qcp QcR) (Qbc QcR) (Qd QcR) .none Qp8 Qq5 Qrp Qrz Ql0 QrA,fun s v=>.of_eq rfl,fun base _ _=>?_⟩
 have QqI:"F"^1 ["_law_cell","_law_k"] false QI:=Qqq QgQ
 have Qgm:"E"^QI "_law_mix" 1 false:="D"^QqI Qqa Qrw QrB
 have QnI:"F"^2 ["_law_cell","_law_caps"] false Qa4:=Qoh Qfn Qgm vj v2 v8
 have Qm1:"E"^Qa4 "_law_small" 2 false:="D"^QnI Qol Qn7 QmY
 have Qng:"F"^1 ["_law_found"] false Qa1:=Qnq Qfd v0 v8 vg
 have QmZ:"E"^Qa1 "_law_whole" 1 false:="D"^Qng Qoc QnD QmU
 have Qp6:"F"^2 ["_law_found","_law_due"] false QaX:=QrF Qgv QmZ v0 v3 v1 v2
 have Qql:"E"^QaX "_law_row" 2 false:="D"^Qp6 QqS Qqi QqX
 have Qj9:"F"^1 ["_law_script","_law_k"] false Q8:=Qky QdR v1
 have Qki:"E"^Q8 "_law_cell_at" 1 false:="D"^Qj9 QkD QkM Qkx
 have Qrn:"F"^1 ["one","other"] true Qbg:=Qqr Qgj v4
 have QqY:"E"^Qbg "sums_of" 1 true:="D"^Qrn Qqh Qrr QrD
 have QiX:"F"^2 ["rows"] true QV:=Qiz QcX QqY
 have QiR:"E"^QV "running_sums" 2 true:="D"^QiX QiV Qjm Qi5
 have Qa6:FnOk l.prog w K mg base (CXR l.prog w) 3 _ _ ["self","rows"] (SpI K (ctOf K) Qr):=Qg8 QbT QiR v3 fo_table fo_heads
 have ms_keep_rows:MtOk l.prog w K mg base (ctOf K) (CXR l.prog w) "keep_rows" 3 Qb (fun _=>SpI K (ctOf K) Qr):=by
  intro c hc
  walk_at "h0"
  rcases hm with rfl | rfl | rfl | rfl
  ·exact⟨Qy,QH,_,_,QaB,QaK,⟨Qhp,Qa5,Qa9⟩,Qa6.mono (by decide),Qa7⟩
  ·exact⟨Qo,QH,_,_,QZ,Qae,⟨Qgy,Qa5,Qa9⟩,Qa6.mono (by decide),Qa7⟩
  ·exact⟨QA,QH,_,_,QaE,QaL,⟨Qhr,Qa5,Qa9⟩,Qa6.mono (by decide),Qa7⟩
  ·exact⟨Qz,QH,_,_,QaD,QaM,⟨QhB,Qa5,Qa9⟩,Qa6.mono (by decide),Qa7⟩
 have QpP:"F"^1 ["thing"] false Qbr:=Qp5 QfU v0 v8 vg
 have QpK:"E"^Qbr "is_whole" 1 false:="D"^QpP QpV Qpq Qp0
 have Qna:"F"^2 ["thing","least","most"] false Q7:=QmX Qfk QpK
 have Qe1:"E"^Q7 "is_within" 2 false:="D"^Qna Qne Qof QnJ
 have QrM:"F"^3 ["thing"] false Qbk:=QsB Qhu Qe1 v0 v3 v1 ve v5 ⟨_,rfl⟩ vf ⟨_,rfl⟩
 have Qmm:"E"^Qbk "is_row" 3 false:="D"^QrM Qsi Qsf Qsp
 have Qpl:"F"^4 ["thing"] false Qbj:=Qpu QfT Qmm v0 v3 v1 ve v6 ⟨_,rfl⟩
 have Qo2:"E"^Qbj "is_table" 4 false:="D"^Qpl QpC Qpr Qpi
 have Qoo:FnOk l.prog w K mg base (CXR l.prog w) 5 _ _ ["self","rows"] (SpI K (ctOf K) Q5):=Qnr Qfo Qo2 ms_keep_rows
 have QbN:MkOk l.prog w K mg base (ctOf K) "Rows" 5 Q5:=⟨Qz,Qde,_,_,QaD,QtI,⟨Qr2,QnB,Qnh,Qsh⟩,Qoo,QnK⟩
 have Qmi:"F"^1 ["many","place"] true QaO:=QkX QeE v2
 have Qmq:"E"^QaO "single_row" 1 true:="D"^Qmi Qmo QlV Qk9
 have Qno:FnOk l.prog w K mg base (CXR l.prog w) 4 _ _ ["self","many"] (SpI K (ctOf K) Qat):=QnH Qfp Qe1 Qmq v2 v5 ⟨_,rfl⟩ ms_keep_rows
 have Qec:MkOk l.prog w K mg base (ctOf K) "Deal" 4 Qat:=⟨Qy,Qdo,_,_,QaB,Quj,⟨Qr0,Qnm,Qob,Qsz⟩,Qno,Qn3⟩
 have Qj6:FnOk l.prog w K mg base (CXR l.prog w) 4 _ _ ["self","size"] (SpI K (ctOf K) Qaa):=QjZ QdP Qe1 v2 v6 ⟨_,rfl⟩ ms_keep_rows
 have Qcq:MkOk l.prog w K mg base (ctOf K) "Bundle" 4 Qaa:=⟨Qo,Qcg,_,_,QZ,QrE,⟨Qpy,QkQ,Qkp,QpH⟩,Qj6,Qkh⟩
 have QnA:FnOk l.prog w K mg base (CXR l.prog w) 4 _ _ ["self","counts"] (SpI K (ctOf K) Qar):=Qnn Qfh Qmm ms_keep_rows
 have Qef:MkOk l.prog w K mg base (ctOf K) "Copy" 4 Qar:=⟨QA,Qdi,_,_,QaE,QtH,⟨Qso,Qog,QmV,Qse⟩,QnA,QmR⟩
 have Qo0:"F"^7 ["_law_word","_law_table"] true Qbm:=QpU QfQ v1 v3 Qec Qcq Qef QbN
 have Qo9:"E"^Qbm "_law_made" 7 true:="D"^Qo0 Qp2 Qo1 QpQ
 have QmL:"F"^1 ["text","most"] false Qb2:=QmN Qfj v1 ve vi ⟨_,rfl⟩
 have Qn8:"E"^Qb2 "is_number" 1 false:="D"^QmL Qm2 QnL QnG
 have Qkt:"F"^2 ["text"] false Q9:=Qkz QdS Qn8 v8 va ⟨_,rfl⟩
 have Qge:"E"^Q9 "read_number" 2 false:="D"^Qkt Qkn Qkr QkK
 have Qpf:"F"^3 ["text"] true QaW:=QpA Qf2 Qge
 have QpR:"E"^QaW "read_row" 3 true:="D"^Qpf Qpt QpB QpE
 have Qmp:"F"^7 ["text"] true QaQ:=Qlw QeD Qge QpR v0 v9 Qec Qcq Qef QbN
 have Qlb:"E"^QaQ "read_clerk" 7 true:="D"^Qmp QmF Qmx Qlq
 have Qos:"F"^2 ["_law_cell"] false Qa3:=Qm6 Qfm Qgm v2
 have QnN:"E"^Qa3 "_law_count" 2 false:="D"^Qos Qoq Qnp Qns
 have QbG:"F"^1 ["self"] false Qp:=Qje QcW v1 fo_table
 have mt_period:MtOk l.prog w K mg base (ctOf K) CX0 "period" 1 Qb (fun c=>SpD K (ctOf K) false ((fun _=>Qp) c)):=by
  intro c hc
  walk_at "h0"
  rcases hm with rfl | rfl | rfl | rfl
  ·exact⟨Qy,QQ,_,_,QaB,QaK,⟨Qkg,QbH,QbO⟩,QbG.mono (by decide),QbJ⟩
  ·exact⟨Qo,QQ,_,_,QZ,Qae,⟨Qh0,QbH,QbO⟩,QbG.mono (by decide),QbJ⟩
  ·exact⟨QA,QQ,_,_,QaE,QaL,⟨QkH,QbH,QbO⟩,QbG.mono (by decide),QbJ⟩
  ·exact⟨Qz,QQ,_,_,QaD,QaM,⟨QkE,QbH,QbO⟩,QbG.mono (by decide),QbJ⟩
 have Qb5:"F"^2 ["self"] true Qaj:=Qkd QdM v3 fo_heads mt_period
 have mt_whole:MtOk l.prog w K mg base (ctOf K) CX0 "whole" 2 Qb (fun c=>SpD K (ctOf K) true ((fun _=>Qaj) c)):=by
  intro c hc
  walk_at "h0"
  rcases hm with rfl | rfl | rfl | rfl
  ·exact⟨Qy,QU,_,_,QaB,QaK,⟨Qly,Qb7,Qca⟩,Qb5.mono (by decide),Qb8⟩
  ·exact⟨Qo,QU,_,_,QZ,Qae,⟨QiW,Qb7,Qca⟩,Qb5.mono (by decide),Qb8⟩
  ·exact⟨QA,QU,_,_,QaE,QaL,⟨Ql3,Qb7,Qca⟩,Qb5.mono (by decide),Qb8⟩
  ·exact⟨Qz,QU,_,_,QaD,QaM,⟨QmD,Qb7,Qca⟩,Qb5.mono (by decide),Qb8⟩
 have Qal:"F"^3 ["self","count"] true Qt:=QeI QaU v4 fo_heads mt_period mt_whole
 have mt_sent_from_start:MtOk l.prog w K mg base (ctOf K) CX0 "sent_from_start" 3 Qb (fun c=>SpD K (ctOf K) true ((fun _=>Qt) c)):=by
  intro c hc
  walk_at "h0"
  rcases hm with rfl | rfl | rfl | rfl
  ·exact⟨Qy,Qs,_,_,QaB,QaK,⟨Qe9,Qap,Qan⟩,Qal.mono (by decide),Qao⟩
  ·exact⟨Qo,Qs,_,_,QZ,Qae,⟨Qen,Qap,Qan⟩,Qal.mono (by decide),Qao⟩
  ·exact⟨QA,Qs,_,_,QaE,QaL,⟨Qe6,Qap,Qan⟩,Qal.mono (by decide),Qao⟩
  ·exact⟨Qz,Qs,_,_,QaD,QaM,⟨Qe3,Qap,Qan⟩,Qal.mono (by decide),Qao⟩
 have QcU:"F"^4 ["self","state","count"] true Q1:=Qmd Qeh v4 mt_sent_from_start
 have mt_sent:MtOk l.prog w K mg base (ctOf K) CX0 "sent" 4 Qb (fun c=>SpD K (ctOf K) true ((fun _=>Q1) c)):=by
  intro c hc
  walk_at "h0"
  rcases hm with rfl | rfl | rfl | rfl
  ·exact⟨Qy,Q4,_,_,QaB,QaK,⟨QnU,Qcz,QcO⟩,QcU.mono (by decide),Qct⟩
  ·exact⟨Qo,Q4,_,_,QZ,Qae,⟨Qkc,Qcz,QcO⟩,QcU.mono (by decide),Qct⟩
  ·exact⟨QA,Q4,_,_,QaE,QaL,⟨Qoi,Qcz,QcO⟩,QcU.mono (by decide),Qct⟩
  ·exact⟨Qz,Q4,_,_,QaD,QaM,⟨QnT,Qcz,QcO⟩,QcU.mono (by decide),Qct⟩
 have Qja:"F"^2 ["self"] false Qbf:=Qjb Qc9 v9 mt_period
 have QhI:"F"^2 ["self"] false QaP:=Qhq Qcl v9 mt_period
 have QpY:"F"^1 ["row"] false Qbh:=Qph QfX v1 v9
 have Qo4:"E"^Qbh "row_text" 1 false:="D"^QpY Qpd QpF Qo6
 have QeT:"F"^2 ["self"] false Q0:=Qh8 QcC Qo4 fo_table
 have mt_numbers:MtOk l.prog w K mg base (ctOf K) CX0 "numbers" 2 Qb (fun c=>SpD K (ctOf K) false (QW c)):=by
  intro c hc
  walk_at "h0"
  rcases hm with rfl | rfl | rfl | rfl
  ·exact⟨Qy,QbP,_,_,QaB,QaK,⟨Qjp,QiJ,Qiw⟩,(by simp only[QeQ];exact Qja.mono (by decide)),QiM⟩
  ·exact⟨Qo,Qbo,_,_,QZ,Qae,⟨Qhy,Qho,QhA⟩,(by simp only[QdW];exact QhI.mono (by decide)),Qht⟩
  ·exact⟨QA,QaC,_,_,QaE,QaL,⟨Qjl,QeS,QeP⟩,(by simp only[QeU];exact QeT.mono (by decide)),QeL⟩
  ·exact⟨Qz,QaC,_,_,QaD,QaM,⟨QiQ,QeS,QeP⟩,(by simp only[QeW];exact QeT.mono (by decide)),QeL⟩
 have Qn2:"F"^1 ["self"] false Qdt:=Qoj Qff
 have Qkk:"F"^1 ["self"] false Qcd:=Qkv QdL
 have Qn0:"F"^1 ["self"] false Qdc:=Qoa Qfg
 have Qm3:"F"^1 ["self"] false Qdg:=QnZ Qfq
 have mt_word:MtOk l.prog w K mg base (ctOf K) CX0 "word" 1 Qb (fun c=>SpD K (ctOf K) false (QaJ c)):=by
  intro c hc
  walk_at "h0"
  rcases hm with rfl | rfl | rfl | rfl
  ·exact⟨Qy,Qdq,_,_,QaB,QaK,⟨Qod,QnS,Qnu⟩,(by simp only[QgV];exact Qn2.mono (by decide)),Qn4⟩
  ·exact⟨Qo,Qcf,_,_,QZ,Qae,⟨QkN,Qj0,QkI⟩,(by simp only[Qfu];exact Qkk.mono (by decide)),Qke⟩
  ·exact⟨QA,Qds,_,_,QaE,QaL,⟨Qm9,Qom,Qon⟩,(by simp only[QgI];exact Qn0.mono (by decide)),QmT⟩
  ·exact⟨Qz,Qdp,_,_,QaD,QaM,⟨Qnk,QmP,QnQ⟩,(by simp only[QgH];exact Qm3.mono (by decide)),Qnl⟩
 have QcF:"F"^3 ["self"] false Qay:=Ql2 Qeo mt_word mt_numbers
 have mt_text:MtOk l.prog w K mg base (ctOf K) CX0 "text" 3 Qb (fun c=>SpD K (ctOf K) false ((fun _=>Qay) c)):=by
  intro c hc
  walk_at "h0"
  rcases hm with rfl | rfl | rfl | rfl
  ·exact⟨Qy,Q3,_,_,QaB,QaK,⟨Qnt,Qcr,Qcv⟩,QcF.mono (by decide),QcM⟩
  ·exact⟨Qo,Q3,_,_,QZ,Qae,⟨Qku,Qcr,Qcv⟩,QcF.mono (by decide),QcM⟩
  ·exact⟨QA,Q3,_,_,QaE,QaL,⟨Qnv,Qcr,Qcv⟩,QcF.mono (by decide),QcM⟩
  ·exact⟨Qz,Q3,_,_,QaD,QaM,⟨QnO,Qcr,Qcv⟩,QcF.mono (by decide),QcM⟩
 have QcA:"F"^1 ["self"] false Qaw:=Qlu QeF v1 fo_table
 have mt_outs:MtOk l.prog w K mg base (ctOf K) CX0 "outs" 1 Qb (fun c=>SpD K (ctOf K) false ((fun _=>Qaw) c)):=by
  intro c hc
  walk_at "h0"
  rcases hm with rfl | rfl | rfl | rfl
  ·exact⟨Qy,Q6,_,_,QaB,QaK,⟨Qnd,QcN,Qcu⟩,QcA.mono (by decide),Qcy⟩
  ·exact⟨Qo,Q6,_,_,QZ,Qae,⟨QkJ,QcN,Qcu⟩,QcA.mono (by decide),Qcy⟩
  ·exact⟨QA,Q6,_,_,QaE,QaL,⟨Qnf,QcN,Qcu⟩,QcA.mono (by decide),Qcy⟩
  ·exact⟨Qz,Q6,_,_,QaD,QaM,⟨QnE,QcN,Qcu⟩,QcA.mono (by decide),Qcy⟩
 have Qdx:"F"^1 ["self","state"] true Qaq:=Qn5 Qfl v3 fo_table
 have mt_row:MtOk l.prog w K mg base (ctOf K) CX0 "row" 1 Qb (fun c=>SpD K (ctOf K) true ((fun _=>Qaq) c)):=by
  intro c hc
  walk_at "h0"
  rcases hm with rfl | rfl | rfl | rfl
  ·exact⟨Qy,Qaf,_,_,QaB,QaK,⟨Qpx,Qdj,Qdl⟩,Qdx.mono (by decide),Qdw⟩
  ·exact⟨Qo,Qaf,_,_,QZ,Qae,⟨QlE,Qdj,Qdl⟩,Qdx.mono (by decide),Qdw⟩
  ·exact⟨QA,Qaf,_,_,QaE,QaL,⟨Qpm,Qdj,Qdl⟩,Qdx.mono (by decide),Qdw⟩
  ·exact⟨Qz,Qaf,_,_,QaD,QaM,⟨QpS,Qdj,Qdl⟩,Qdx.mono (by decide),Qdw⟩
 have Qmg:"F"^2 ["_law_clerk","_law_state","_law_count_here"] false Qaz:=Qlc Qej v2 v4 mt_outs mt_row mt_period
 have QlM:"E"^Qaz "_law_walked" 2 false:="D"^Qmg QmB Qk6 Qmz
 have QvA:"F"^8 ["_law_script"] false QeM:=QvG QsD Qm1 Qki Qo9 Qlb Qgm QnN Qql QlM v3 v1 v0 v4 mm_Clerk mt_text mt_sent QbN ki_Clerk
 exact QvA
theorem walk{l:W.OpenLaw}{q:Program}{loose:List Str}{XP:(Str->Option Value)->Heap->Prop}{YP:World->Heap->Prop}{d:DefRec}{K:Params->W.Frag}(hn:l.most=some 63)(hdf:d.params.defaults=[])
 (hY:∀(w:World)(h:Heap),YP w h->(K w.params).In h) (hlaw:∀ ns:List Int,ns.length<=63->(∀ z∈ns,bitsI z<=1048576)->QeM [.lst (ns.map .int)]=.ok (.bl true))
 (F:∀(w:World)(mg:Str->Option Value)(fa:Addr)(h:Heap),(K w.params).In h->h.Ns mainGlobals mg->mg d.name=some (.ref fa)->
  ∃ fd:FuncData,(∀(s:Shared)(u:Value),BindsTo s fd ⟨[u],[]⟩ [("_law_script",u)])/\∀ base:Heap,(K w.params).In base->base.Ns mainGlobals mg->FnOk l.prog w (K w.params) mg base CX0 8 fa fd ["_law_script"] (SpD (K w.params) (ctOf (K w.params)) false QeM)):
 W.WalkO q loose XP YP l.row.toRowW d [] (fun f vs=>PySem.call f vs):=
 DL.walk_of (n:=63) (k:=8) (x:="_law_script") (CX:=fun _=>CX0) (sp:=fun w=>SpD (K w.params) (ctOf (K w.params)) false QeM) hn (by decide) hdf ⟨rfl,by decide,by decide⟩ hY F
  (fun w H a ns hl hbits _ hS=>⟨[.lst (ns.map .int)],H,Same.refl H,⟨.ref a,[],rfl,⟨a,_,rfl,hS,RepL.map_int ns⟩,rfl⟩,by rw[hlaw ns hl hbits];exact fun v H' G' _ _ _ _ r=>r⟩) fun _ _ _ _ _ z=>z
end My
open PySem PySem.W PyProof.Rows
set_option maxRecDepth 100000 in
set_option maxHeartbeats 0 in
theorem PySem.Challenge.cw_dockethall_k16_whole_handlings_in_parts_holds : PySem.Challenge.rw_dockethall_k16_whole_handlings_in_parts.Holds := by
 w_on;o_law;k_head;(case hw=>w_witness2)
 k_fill
 refine My.walk (l:=PySem.Challenge.rw_dockethall_k16_whole_handlings_in_parts) rfl rfl (fun w h Y=>PySem.W.kIn_of Y) My.the_law ?F
 case F=>
  intro w mg fa h KX G hmg
  refine' My.all_mk KX G hmg ..
  all_goals try first | k_is | kit_is | rfl | (refine' ⟨_,DL.funV_mk ?_ ?_ ?_⟩<;>try k_is)

import PyProof.Rows.All
import Wide.All
import OpenK.AllK
import Wide.FinOn
import Lean
import PyProof.EqAt
import PyProof.EqKinds
import PyProof.TupleCall
import PyProof.ListRange
import PyProof.PureStr
import PyProof.MeetsStr3
import PyProof.Draws
import PySem.Challenge.RW_dockethall_k24_written
namespace PySem.W.Fast
def tw2832912922678840505:=0
def tw4034990412684887226:=0
def tw13852741151847057938:=0
def tw1135326281128089762:=0
def tw619140496013895970:=0
def tw10983134781986821279:=0
def tw7307167594960527323:=0
def tw16509385876664228400:=0
def tw4467564872238896161:=0
def tw15759464207762387163:=0
def tw12249733900113358812:=0
def tw2959293332610567225:=0
def tw852471445613538576:=0
def tw16006479937172205722:=0
def tw1651356050254810209:=0
def tw2073265439999929599:=0
def tw8005486113958512442:=0
def tw11143884678681840497:=0
def tw15847023589099977915:=0
def tw7911854828765401797:=0
def tw12635581981905504220:=0
def tw10483461612735188806:=0
def tw11147911516061249543:=0
def tw7839002053323637436:=0
def tw15587999551355687051:=0
def tw11043734487499878051:=0
def tw221294314548505592:=0
def tw10819520747305930331:=0
def tw12427823472978138458:=0
def tw13764126905155410884:=0
def tw132924567885139629:=0
def tw9438868218602520834:=0
def tw13587777608013973268:=0
def tw6100240932794506398:=0
def tw3461954079316702510:=0
def tw3769351456406320733:=0
def tw16994559234693943115:=0
def tw12574675582364739208:=0
def tw17405313883864242316:=0
def tw2301020807566733948:=0
def tw2792128951688063678:=0
def tw8412312359305196912:=0
def tw752581297296796893:=0
def tw6565571256025447946:=0
def tw15656891539874982203:=0
def tw7340702597809462051:=0
def tw2551007189129803843:=0
def tw12956264731106644096:=0
def tw3097914478962870848:=0
def tw1002648864845455016:=0
def tw1918140054790818816:=0
def tw9674049460934148215:=0
def tw5822649773938132151:=0
def tw1660002483596648099:=0
def tw16514471490910760275:=0
def tw13946114221614312942:=0
def tw11771015323710224974:=0
def tw11606748135985921432:=0
def tw3467346016271307008:=0
def tw4229389250943420890:=0
def tw11618770460046639162:=0
def tw7414993773668239827:=0
def tw12725320770038495925:=0
def tw3295180431924886042:=0
def tw2533408289183552611:=0
def tw15848950289844612774:=0
def tw16596345283792033380:=0
def tw5347031423991887537:=0
def tw11462937408948921711:=0
def tw3610800423700169602:=0
def tw6593495874332462735:=0
def tw402333058276900355:=0
def tw7192935983558114193:=0
def tw17474341287492933279:=0
def tw8121963119708027937:=0
def tw6740540763096825858:=0
def tw2976605477128346663:=0
def tw11549868915474460699:=0
def tw14711964403947427112:=0
def tw11062117641758472968:=0
def tw9586481918782589779:=0
def tw2958297436580085429:=0
def tw151968369359176707:=0
def tw3810268098162117004:=0
def tw12929020970745263608:=0
def tw16381871896958257501:=0
def tw3682125033484330910:=0
def tw7979533921923195144:=0
def tw16016519802873240615:=0
def tw7694753289491592233:=0
def tw15215606153485461249:=0
def tw6684981530426494509:=0
def tw4099446080738675282:=0
def tw651487787516609871:=0
def tw3126699202807007622:=0
def tw7841245072775265344:=0
def tw8650664447848261353:=0
def tw12854191855052402093:=0
def tw18225671946234164674:=0
def tw1243473224269107134:=0
def tw5804048801205096855:=0
def tw16161026250562586805:=0
def tw4703169529896338238:=0
end PySem.W.Fast
set_option hygiene false
set_option hygiene true
set_option Elab.async false
set_option linter.all false
set_option maxRecDepth 100000
theorem oi{a b:Prop}(h:a):a∨b:=Or.inl h
theorem dk{p:Prop}(h:p:=by decide +kernel):p:=h
namespace L2
open PySem PySem.Spec PyProof.Rows
abbrev Key:=Sum Int Str
def keyIs:Key->Value->Bool
 | .inl k,v=>Value.isInt k v
 | .inr x,v=>Value.isStrOf x v
def keyH(w:World):Key->Int
 | .inl k=>hashInt k
 | .inr x=>hashStr w x
theorem Qa9:∀{k:Key}{v:Value},keyIs k v=true->(∃ i t,k=Sum.inl i/\v=Value.int i t)∨(∃ x t,k=Sum.inr x/\v=Value.str x t)
 | .inl i,v,h=>by
  obtain⟨t,e⟩:=Value.isInt_shape (k:=i) (v:=v) h
  exact .inl ⟨i,t,rfl,e⟩
 | .inr x,v,h=>by
  obtain⟨t,e⟩:=Value.isStrOf_shape (x:=x) (v:=v) h
  exact .inr ⟨x,t,rfl,e⟩
theorem QGv(i:Int)(t:Tok):keyIs (.inl i) (.int i t)=true:=by simp[keyIs,Value.isInt]
theorem QFR(x:Str)(t:Tok):keyIs (.inr x) (.str x t)=true:=by simp[keyIs,Value.isStrOf]
theorem QKv(a b:Int):decide ((Sum.inl a:Key)=Sum.inl b)=(a == b):=by
 by_cases e:a=b
 ·subst e;simp
 ·have h:¬ (Sum.inl a:Key)=Sum.inl b:=fun q=>e (Sum.inl.inj q)
  rw[decide_eq_false h]
  exact(beq_eq_false_iff_ne.mpr e).symm
theorem QKh(a b:Str):decide ((Sum.inr a:Key)=Sum.inr b)=decide (a=b):=by
 by_cases e:a=b
 ·subst e;simp
 ·have h:¬ (Sum.inr a:Key)=Sum.inr b:=fun q=>e (Sum.inr.inj q)
  rw[decide_eq_false h,decide_eq_false e]
theorem QJV(a:Int)(b:Str):decide ((Sum.inl a:Key)=Sum.inr b)=false:=decide_eq_false (fun q=>nomatch q)
theorem QJR(a:Str)(b:Int):decide ((Sum.inr a:Key)=Sum.inl b)=false:=decide_eq_false (fun q=>nomatch q)
def QaV(prog:Program)(w:World):PySem.KeyKind prog w Key where
 is:=keyIs
 hash:=keyH w
 inj:=fun v a b ha hb=>by
  rcases Qa9 ha with⟨i,t,rfl,rfl⟩ | ⟨x,t,rfl,rfl⟩
  ·rcases Qa9 hb with⟨j,u,rfl,e⟩ | ⟨y,u,rfl,e⟩
   ·injection e with e1 _;rw[e1]
   ·exact nomatch e
  ·rcases Qa9 hb with⟨j,u,rfl,e⟩ | ⟨y,u,rfl,e⟩
   ·exact nomatch e
   ·injection e with e1 _;rw[e1]
 byValue:=fun k v h=>by
  rcases Qa9 h with⟨i,t,rfl,rfl⟩ | ⟨x,t,rfl,rfl⟩<;>rfl
 pyHash:=fun hv h=>by
  rcases Qa9 hv with⟨i,t,rfl,rfl⟩ | ⟨x,t,rfl,rfl⟩
  ·exact wpAny_pyHash_int h
  ·exact wpAny_pyHash_str h
 eqBool:=fun hu hv h=>by
  rcases Qa9 hu with⟨i,t,rfl,rfl⟩ | ⟨x,t,rfl,rfl⟩
  ·rcases Qa9 hv with⟨j,u,rfl,rfl⟩ | ⟨y,u,rfl,rfl⟩
   ·rw[QKv]at h;exact wpAny_eqBool_int h
   ·rw[QJV]at h;exact SeqAt.EqAt.int_str i t y u _ _ _ _ h
  ·rcases Qa9 hv with⟨j,u,rfl,rfl⟩ | ⟨y,u,rfl,rfl⟩
   ·rw[QJR]at h;exact SeqAt.EqAt.str_int x t j u _ _ _ _ h
   ·rw[QKh]at h;exact wpAny_eqBool_str h
 «strs»:=fun k x t v h=>by
  rcases Qa9 h with⟨i,u,rfl,e⟩ | ⟨y,u,rfl,e⟩
  ·exact nomatch e
  ·injection e with e1 _
   subst e1
   cases v<;>rfl
theorem QA6(prog:Program)(w:World)(i:Int)(t:Tok):(QaV prog w).is (.inl i) (.int i t)=true:=QGv i t
theorem Qy5(prog:Program)(w:World)(x:Str)(t:Tok):(QaV prog w).is (.inr x) (.str x t)=true:=QFR x t
end L2
namespace L2
open PySem PySem.Spec PyProof.Rows
inductive V where
 | non | bl (b:Bool) | int (i:Int) | str (x:Str) | byt (b:Array UInt8) | flt (b:UInt64) | ref (a:Addr) | ty (n:String)
 deriving DecidableEq
def RelV:V->Value->Prop
 | .non,u=>u=Value.none
 | .bl b,u=>u=Value.bool b
 | .int i,u=>∃ t,u=Value.int i t
 | .str x,u=>∃ t,u=Value.str x t
 | .byt b,u=>∃ t,u=Value.bytes b t
 | .flt b,u=>∃ t,u=Value.float b t
 | .ref a,u=>u=Value.ref a
 | .ty n,u=>u=Value.type n
abbrev Vals:List V->List Value->Prop:=Paired RelV
theorem Vals.length{xs:List V}{us:List Value}(r:Vals xs us):xs.length=us.length:=Paired.length r
theorem Vals.get:∀{xs:List V}{us:List Value}{i:Nat}{x:V},Vals xs us->xs[i]?=some x->∃ u,us[i]?=some u/\RelV x u
 | _,_,_,_,.nil,e=>by simp at e
 | _,_,0,_,.cons r _,e=>by simp at e;subst e;exact⟨_,rfl,r⟩
 | _,_,i+1,x,.cons _ t,e=>by
  obtain⟨u,h1,h2⟩:=Vals.get (i:=i) (x:=x) t (by simpa using e)
  exact⟨u,by simpa using h1,h2⟩
theorem Vals.set{x:V}{u:Value}(r:RelV x u):∀{xs:List V}{us:List Value}(i:Nat),Vals xs us->Vals (xs.set i x) (us.set i u)
 | _,_,_,.nil=>.nil
 | _,_,0,.cons _ t=>.cons r t
 | _,_,i+1,.cons q t=>.cons q (Vals.set r i t)
theorem Vals.append:∀{xs ys:List V}{us ws:List Value},Vals xs us->Vals ys ws->Vals (xs++ys) (us++ws)
 | _,_,_,_,.nil,s=>s
 | _,_,_,_,.cons r t,s=>.cons r (Vals.append t s)
theorem Vals.take:∀{xs:List V}{us:List Value}(n:Nat),Vals xs us->Vals (xs.take n) (us.take n)
 | _,_,0,_=>.nil
 | _,_,_+1,.nil=>.nil
 | _,_,n+1,.cons r t=>.cons r (Vals.take n t)
theorem Vals.drop:∀{xs:List V}{us:List Value}(n:Nat),Vals xs us->Vals (xs.drop n) (us.drop n)
 | _,_,0,r=>r
 | _,_,_+1,.nil=>.nil
 | _,_,n+1,.cons _ t=>Vals.drop n t
def RelO:Option V->Option Value->Prop
 | some v,some u=>RelV v u
 | none,none=>True
 | _,_=>False
def KV{κ:Type}:List (κ×V)->List (κ×Value)->Prop:=Paired fun(p:κ×V) (q:κ×Value)=>p.1=q.1/\RelV p.2 q.2
def kV:Key->V
 | .inl i=>.int i
 | .inr x=>.str x
inductive HO where
 /-- a list -/
 | lst (xs:List V)
 /-- a tuple (never changes) -/
 | tup (xs:List V)
 /-- a dict whose keys are ints and texts;one whose keys are tuples of ints and texts (the empty one is both) -/
 | dK (kvs:List (Key×V)) | dT (kvs:List (List Key×V))
 /-- a set of ints: its members,its size -/
 | set (S:Int->Bool) (n:Nat)
 /-- an instance of the class at C,its dict at dx,its attributes -/
 | ins (C dx:Addr) (fs:List (Str×V))
 /-- the dict of the instance at x -/
 | own (x:Addr)
 /-- the dict of an exception -/
 | xd (fs:List (Str×V))
 /-- a bound method,f of x -/
 | met (f x:Addr)
 /-- a range object lo,lo+1, .. below hi -/
 | rng (lo hi:Int)
 /-- a thing that is known to the object (the script;a dict while a loop walks it): read,never written while it is so -/
 | frz (o:Obj) (u:HO)
 /-- a code object's table -/
 | tbl (ps:Array Value)
 /-- any other thing,by what is true of its one object (a def of one's own: SetO a S n:=HO.ext fun h => ..) -/
 | ext (φ : Heap->Prop)
abbrev Hp:=Addr->Option HO
def upd(H:Hp)(a:Addr)(o:HO):Hp:=fun b=>if b=a then some o else H b
theorem QO{H:Hp}{a:Addr}{o:HO}:upd H a o a=some o:=by unfold upd;rw[if_pos rfl]
theorem Qm{H:Hp}{a b:Addr}{o:HO}(h:b≠a):upd H a o b=H b:=by unfold upd;rw[if_neg h]
theorem QIE{H:Hp}{a:Addr}{o u:HO}:upd (upd H a o) a u=upd H a u:=by
 funext b;unfold upd;split<;>rfl
theorem ne_of{H:Hp}{a b:Addr}{o u:HO}(h:H a=some o)(h':H b=some u)(d:o≠u):a≠b:=by
 intro e;subst e;rw[h]at h';exact d (Option.some.inj h')
theorem QT{H:Hp}{a b:Addr}{o:HO}(h:H a=some o)(h':H b=none):a≠b:=by
 intro e;subst e;rw[h]at h';cases h'
section
variable(P:Program)(w:World)
def ObjOk(H:Hp)(h:Heap)(a:Addr):HO->Prop
 | .lst xs=>xs.length<=sizeLine/\∃(its:List Value)(n:Nat),Vals xs its/\h.get? a=some { cls:=.type "list",data:=.seq its.toArray n }
 | .tup xs=>xs.length<=sizeLine/\∃ its:List Value,Vals xs its/\IsTup h a its.toArray
 | .dK kvs=>kvs.length<=sizeLine/\(a == sysModules)=false/\∃ vs,KV kvs vs/\h.DictOf (QaV P w) a vs
 | .dT kvs=>kvs.length<=sizeLine/\(a == sysModules)=false/\∃ xs:List (List Key×Addr×Value),
  Paired (fun(p:List Key×V) (q:List Key×Addr×Value)=>p.1=q.1/\H q.2.1=some (.tup (p.1.map kV))/\RelV p.2 q.2.2) kvs xs/\
  ∃ o es ep,h.get? a=some o/\o.ExactDict/\o.data=.dict es ep/\es.toList=xs.map (entryOfKey (tupleKind (QaV P w)))/\(xs.map (·.1)).Nodup
 | .set S n=>h.SetOf (intKind P w) a S n
 | .ins C dx fs=>H dx=some (.own a)/\fs.length<=1000/\dx≠a/\h.get? a=some (W.instObj C dx)/\
  ∃ mA,h.Ns1 dx mA/\(∀ f,RelO (fs.lookup f) (mA f))/\PySem.Within mA (fs.map (·.1))
 | .own _=>∃ o,h.get? a=some o
 | .xd fs=>∃ mA,h.Ns1 a mA/\∀ f,RelO (fs.lookup f) (mA f)
 | .rng lo hi=>∃ t u v,h.get? a=some { cls:=.type "range",data:=.fields #[.int lo t,.int hi u,.int 1 v] }
 | .frz o u=>h.get? a=some o/\ObjOk H h a u
 | .tbl ps=>h.get? a=some { cls:=.none,data:=.fields ps }
 | .met f x=>h.get? a=some (W.methodObj (.ref f) (.ref x))
 | .ext φ => φ h/\(∃ o,h.get? a=some o)/\∀ h1 h2:Heap, φ h1->(∀ o,h1.get? a=some o->h2.get? a=some o) -> φ h2
def HOk(H:Hp)(h:Heap):Prop:=∀ a o,H a=some o->ObjOk P w H h a o
end
section
variable{P:Program}{w:World}{H H':Hp}{h h':Heap}{a:Addr}{o:HO}
theorem ObjOk.lt(x:ObjOk P w H h a o):a<h.objs.size:=by
 cases o with
 | lst xs=>obtain⟨_,_,_,_,e⟩:=x;exact Heap.lt_size e
 | tup xs=>obtain⟨_,_,_,p⟩:=x;exact p.lt
 | dK kvs=>obtain⟨_,_,_,_,o,_,_,e,_⟩:=x;exact Heap.lt_size e
 | dT kvs=>obtain⟨_,_,_,_,o,_,_,e,_⟩:=x;exact Heap.lt_size e
 | set S n=>obtain⟨o,_,_,_,e,_⟩:=x;exact Heap.lt_size e
 | ins C dx fs=>obtain⟨_,_,_,e,_⟩:=x;exact Heap.lt_size e
 | own y=>obtain⟨_,e⟩:=x;exact Heap.lt_size e
 | xd fs=>obtain⟨_,⟨_,_,_,e,_⟩,_⟩:=x;exact Heap.lt_size e
 | rng lo hi=>obtain⟨_,_,_,e⟩:=x;exact Heap.lt_size e
 | frz ob u=>obtain⟨e,_⟩:=x;exact Heap.lt_size e
 | tbl ps=>exact Heap.lt_size (show h.get? a=some _ from x)
 | met f y=>exact Heap.lt_size (show h.get? a=some _ from x)
 | ext φ => obtain⟨_,⟨_,e⟩,_⟩:=x;exact Heap.lt_size e
theorem Paired.mapP{α β:Type}{F G:α->β->Prop}:∀{l₁:List α}{l₂ : List β},Paired F l₁ l₂ -> (∀ a b,F a b->G a b)->Paired G l₁ l₂
 | _,_,.nil,_=>.nil
 | _,_,.cons r t,f=>.cons (f _ _ r) (Paired.mapP t f)
theorem ObjOk.stay(x:ObjOk P w H h a o)(k:∀ b u,(b=a∨H b=some (.own a))->h.get? b=some u->h'.get? b=some u)
 (ho:∀ b,H b=some (.own a)->H' b=some (.own a)) (ht:∀ b xs,H b=some (.tup xs)->H' b=some (.tup xs)):ObjOk P w H' h' a o:=by
 induction o with
 | lst xs=>obtain⟨z,its,n,r,e⟩:=x;exact⟨z,its,n,r,k _ _ (.inl rfl) e⟩
 | tup xs=>obtain⟨z,its,r,ob,e,c⟩:=x;exact⟨z,its,r,ob,k _ _ (.inl rfl) e,c⟩
 | dK kvs=>obtain⟨z,y,vs,r,ob,es,ep,e,c⟩:=x;exact⟨z,y,vs,r,ob,es,ep,k _ _ (.inl rfl) e,c⟩
 | dT kvs=>
  obtain⟨z,y,xs,r,ob,es,ep,e,c⟩:=x
  exact⟨z,y,xs,Paired.mapP r fun p q z=>⟨z.1,ht _ _ z.2.1,z.2.2⟩,ob,es,ep,k _ _ (.inl rfl) e,c⟩
 | set S n=>obtain⟨ob,es,ep,t,e,c⟩:=x;exact⟨ob,es,ep,t,k _ _ (.inl rfl) e,c⟩
 | ins C dx fs=>
  obtain⟨d,z,ne,e,mA,⟨od,es,ep,e2,c⟩,r⟩:=x
  exact⟨ho _ d,z,ne,k _ _ (.inl rfl) e,mA,⟨od,es,ep,k _ _ (.inr d) e2,c⟩,r⟩
 | own y=>obtain⟨ob,e⟩:=x;exact⟨ob,k _ _ (.inl rfl) e⟩
 | xd fs=>obtain⟨mA,⟨od,es,ep,e,c⟩,r⟩:=x;exact⟨mA,⟨od,es,ep,k _ _ (.inl rfl) e,c⟩,r⟩
 | rng lo hi=>obtain⟨t,u,v,e⟩:=x;exact⟨t,u,v,k _ _ (.inl rfl) e⟩
 | frz ob u ih=>obtain⟨e,q⟩:=x;exact⟨k _ _ (.inl rfl) e,ih q⟩
 | tbl ps=>
  have e:h.get? a=some { cls:=.none,data:=.fields ps }:=x
  show h'.get? a=some { cls:=.none,data:=.fields ps }
  exact k a _ (.inl rfl) e
 | met f y=>
  have e:h.get? a=some (W.methodObj (.ref f) (.ref y)):=x
  show h'.get? a=some (W.methodObj (.ref f) (.ref y))
  exact k a _ (.inl rfl) e
 | ext φ => obtain⟨p,⟨o,e⟩,st⟩:=x;exact⟨st _ _ p fun o q=>k _ _ (.inl rfl) q,⟨o,k _ _ (.inl rfl) e⟩,st⟩
theorem HOk.lt(x:HOk P w H h)(e:H a=some o):a<h.objs.size:=(x a o e).lt
theorem HOk.fresh(x:HOk P w H h)(e:h.objs.size<=a):H a=none:=by
 cases q:H a with
 | none=>rfl
 | some u=>exact absurd (Nat.lt_of_lt_of_le (x.lt q) e) (Nat.lt_irrefl _)
theorem HOk.kept(x:HOk P w H h)(k:∀ b u,h.get? b=some u->h'.get? b=some u):HOk P w H h':=fun a o e=>
 (x a o e).stay (fun b u _ q=>k b u q) (fun _ q=>q) fun _ _ q=>q
theorem HOk.laid(x:HOk P w H h)(k:∀ b u,h.get? b=some u->h'.get? b=some u)(hp:h.objs.size<=a)(new:ObjOk P w (upd H a o) h' a o):HOk P w (upd H a o) h':=fun b u e=>by
 have hn:=x.fresh hp
 by_cases hb:b=a
 ·subst hb;rw[QO]at e;cases e;exact new
 ·rw[Qm hb]at e
  exact(x b u e).stay (fun c v _ q=>k c v q) (fun c q=>by rw[Qm (QT q hn)];exact q) fun c xs q=>by rw[Qm (QT q hn)];exact q
end
def Rd(H:Hp)(a:Addr)(u:HO):Prop:=H a=some u∨∃ o,H a=some (.frz o u)
theorem Rd.of{H:Hp}{a:Addr}{u:HO}(h:H a=some u):Rd H a u:=.inl h
theorem Rd.ok{P:Program}{w:World}{H:Hp}{h:Heap}{a:Addr}{u:HO}(r:Rd H a u)(x:HOk P w H h):ObjOk P w H h a u:=by
 rcases r with r | ⟨o,r⟩
 ·exact x a u r
 ·obtain⟨_,q⟩:=x a _ r
  exact q
def Mut:Option HO->Prop
 | some (.lst _)=>True
 | some (.dK _)=>True
 | some (.dT _)=>True
 | some (.set _ _)=>True
 | some (.ins _ _ _)=>True
 | some (.ext _)=>True
 | _=>False
section
variable{P:Program}{w:World}{H:Hp}{h h':Heap}{x e:Addr}{o':HO}
theorem HOk.write(ok:HOk P w H h)(mu:Mut (H x))(he:e=x∨H e=some (.own x))(k:∀ b u,b≠e->h.get? b=some u->h'.get? b=some u)(heo:∃ u,h'.get? e=some u)
 (new:ObjOk P w (upd H x o') h' x o'):HOk P w (upd H x o') h':=fun b u q=>by
 have nown:∀ c y,H c=some (.own y)->c≠x:=fun c y r z=>by subst z;rw[r]at mu;exact mu
 have ntup:∀ c xs,H c=some (.tup xs)->c≠x:=fun c xs r z=>by subst z;rw[r]at mu;exact mu
 by_cases hb:b=x
 ·subst hb;rw[QO]at q;cases q;exact new
 ·rw[Qm hb]at q
  by_cases hbe:b=e
  ·have q':H b=some (.own x):=by
    rcases he with z | z
    ·exact absurd (hbe.trans z) hb
    ·rw[hbe];exact z
   rw[q]at q';cases q'
   obtain⟨v,hv⟩:=heo
   exact⟨v,by rw[hbe];exact hv⟩
  ·refine(ok b u q).stay (fun c v hc r=>k c v ?_ r) (fun c r=>by rw[Qm (nown c b r)];exact r) fun c xs r=>by rw[Qm (ntup c xs r)];exact r
   rcases hc with rfl | hc
   ·exact hbe
   ·rintro rfl
    rcases he with z | z
    ·exact nown c b hc z
    ·rw[hc]at z;cases z;exact hb rfl
end
structure Un(fs ex:List Addr)(H H':Hp)(h h':Heap):Prop where
 keep:∀ b o,h.get? b=some o->H b=none->b∉fs->b∉ex->h'.get? b=some o
 slot:∀ b o,h.get? b=some o->H b=none->b∈fs->b∉ex->∃ sl,h'.get? b=some { o with slots:=sl }
 free:∀ b o,h.get? b=some o->H b=none->b∉ex->H' b=none
 there:∀ b o,h.get? b=some o->b∉ex->∃ o',h'.get? b=some o'
 tups:∀ b xs,H b=some (.tup xs)->H' b=some (.tup xs)
 frzs:∀ b o u,H b=some (.frz o u)->H' b=some (.frz o u)
 tbls:∀ b ps,H b=some (.tbl ps)->∃ more,H' b=some (.tbl (ps++more))
section
variable{fs fs' ex ex':List Addr}{H H1 H2:Hp}{h h1 h2 h':Heap}{a x e:Addr}{o:HO}
theorem Un.any(u:Un fs ex H H1 h h1){b:Addr}{ob:Obj}(q:h.get? b=some ob)(n:H b=none)(hx:b∉ex):∃ sl,h1.get? b=some { ob with slots:=sl }:=by
 by_cases hb:b∈fs
 ·exact u.slot b ob q n hb hx
 ·exact⟨ob.slots,u.keep b ob q n hb hx⟩
theorem Un.trans(a:Un fs ex H H1 h h1)(b:Un fs ex H1 H2 h1 h2):Un fs ex H H2 h h2 where
 keep:=fun c ob q n hc hx=>b.keep c ob (a.keep c ob q n hc hx) (a.free c ob q n hx) hc hx
 slot:=fun c ob q n hc hx=>by
  obtain⟨sl,e1⟩:=a.slot c ob q n hc hx
  obtain⟨sl',e2⟩:=b.slot c _ e1 (a.free c ob q n hx) hc hx
  exact⟨sl',e2⟩
 free:=fun c ob q n hx=>by
  obtain⟨o',e1⟩:=a.there c ob q hx
  exact b.free c o' e1 (a.free c ob q n hx) hx
 there:=fun c ob q hx=>by
  obtain⟨o',e1⟩:=a.there c ob q hx
  exact b.there c o' e1 hx
 tups:=fun c xs q=>b.tups c xs (a.tups c xs q)
 frzs:=fun c ob xs q=>b.frzs c ob xs (a.frzs c ob xs q)
 tbls:=fun c ps q=>by
  obtain⟨m1,e1⟩:=a.tbls c ps q
  obtain⟨m2,e2⟩:=b.tbls c _ e1
  exact⟨m1++m2,by rw[e2,Array.append_assoc]⟩
theorem Un.kept(k:∀ b u,h.get? b=some u->h'.get? b=some u):Un fs ex H H h h':=
 ⟨fun b ob q _ _ _=>k b ob q,fun b ob q _ _ _=>⟨ob.slots,k b ob q⟩,fun _ _ _ n _=>n,fun b ob q _=>⟨ob,k b ob q⟩,fun _ _ q=>q,fun _ _ _ q=>q,fun _ ps q=>⟨#[],by rw[q];simp⟩⟩
theorem Un.refl:Un fs ex H H h h:=Un.kept fun _ _ q=>q
theorem Un.laid(k:∀ b u,h.get? b=some u->h'.get? b=some u)(hp:h.objs.size<=a)(hn:H a=none):Un fs ex H (upd H a o) h h' where
 keep:=fun b u q _ _ _=>k b u q
 slot:=fun b u q _ _ _=>⟨u.slots,k b u q⟩
 free:=fun b u q n _=>by rw[Qm (Nat.ne_of_lt (Nat.lt_of_lt_of_le (Heap.lt_size q) hp))];exact n
 there:=fun b u q _=>⟨u,k b u q⟩
 tups:=fun b xs q=>by rw[Qm (QT q hn)];exact q
 frzs:=fun b u xs q=>by rw[Qm (QT q hn)];exact q
 tbls:=fun b ps q=>⟨#[],by rw[Qm (QT q hn),q];simp⟩
theorem Un.write(mu:Mut (H x))(he:e=x∨H e=some (.own x))(k:∀ b u,b≠e->h.get? b=some u->h'.get? b=some u)(heo:∃ u,h'.get? e=some u):Un fs ex H (upd H x o) h h':=by
 have hx:∀ b,H b=none->b≠x:=fun b n z=>by subst z;rw[n]at mu;exact mu
 have hb:∀ b,H b=none->b≠e:=fun b n z=>by
  subst z
  rcases he with r | r
  ·exact hx b n r
  ·rw[n]at r;cases r
 have hm:∀ b u,H b=some u->¬ Mut (some u)->b≠x:=fun b u q nm z=>by subst z;rw[q]at mu;exact nm mu
 refine⟨fun b u q n _ _=>k b u (hb b n) q,fun b u q n _ _=>⟨u.slots,k b u (hb b n) q⟩,fun b u q n _=>by rw[Qm (hx b n)];exact n,fun b u q _=>?_,
  fun b xs q=>by rw[Qm (hm b _ q fun z=>z)];exact q,fun b u xs q=>by rw[Qm (hm b _ q fun z=>z)];exact q,fun b ps q=>⟨#[],by rw[Qm (hm b _ q fun z=>z),q];simp⟩⟩
 by_cases hbe:b=e
 ·subst hbe;exact heo
 ·exact⟨u,k b u hbe q⟩
theorem Un.mono(u:Un fs ex H H1 h h1)(hs:∀ b∈fs,b∈fs')(hx:∀ b∈ex,b∈ex'):Un fs' ex' H H1 h h1:=
 ⟨fun b ob q n hb he=>u.keep b ob q n (fun z=>hb (hs b z)) fun z=>he (hx b z),fun _ _ q n _ he=>u.any q n fun z=>he (hx _ z),fun b ob q n he=>u.free b ob q n fun z=>he (hx b z),fun b ob q he=>u.there b ob q fun z=>he (hx b z),u.tups,u.frzs,u.tbls⟩
end
def trk(h:Heap)(H:Hp):List Addr:=(List.range h.objs.size).filter fun a=>(H a).isSome
def hidT(h:Heap)(H:Hp):Heap:=W.hideAll h (trk h H)
theorem QFw(h:Heap)(H:Hp):(hidT h H).objs.size=h.objs.size:=W.hideAll_size _ _
theorem QHZ{h:Heap}{H:Hp}{b:Addr}{o:Obj}(e:h.get? b=some o)(n:H b=none):(hidT h H).get? b=some o:=
 W.hideAll_get _ e fun hm=>by
  have q:(H b).isSome=true:=(List.mem_filter.mp hm).2
  rw[n]at q;simp at q
theorem QIP{h:Heap}{H:Hp}{b:Addr}{o:Obj}(e:(hidT h H).get? b=some o):h.get? b=some o/\H b=none:=by
 have e':h.get? b=some o:=W.of_hideAll (trk h H) e
 refine⟨e',?_⟩
 cases q:H b with
 | none=>rfl
 | some x=>
  have hm:b∈trk h H:=List.mem_filter.mpr ⟨List.mem_range.mpr (Heap.lt_size e'),by simp[q]⟩
  have z:(hidT h H).get? b=none:=W.hideAll_none (trk h H) hm
  rw[z]at e;cases e
def QJt(g h:Heap)(L:Addr):List (Addr×Obj):=(List.range h.objs.size).filterMap fun a=>if a=L∨(g.get? a).isSome=true then none else(h.get? a).map fun o=>(a,o)
def rest(g h:Heap)(L d:Addr):List (Addr×Obj):=(QJt g h L).filter fun p=>decide (p.1≠d)
end L2
namespace L2
open PySem PySem.Spec PyProof.Rows
structure Mod(K:W.Frag)(mg:Str->Option Value)(base:Heap):Prop where
 kin:K.In base
 glob:base.Ns mainGlobals mg
 blt:∃ mb,base.Ns builtinsNs mb/\∀ x:Str,x≠"__name__"->mb x=bootBuiltins x
 nolimit:base.NoLimit
structure Cx where
 prog:Program
 w:World
 K:W.Frag
 mg:Str->Option Value
 base:Heap
 A:Around
 N:List Str
 s₀:Shared
 H₀:Hp
 env:Env
 outer:List Env
 stack:List Env
 ex:List Addr
 fn:Str->Bool
 calm:Bool
 pn:List (Addr×Obj)
 xe:Value->Shared->Prop
def frs(l:List Env):List Addr:=l.filterMap (·.frame)
abbrev Cx.fs(X:Cx):List Addr:=frs X.outer
def Vis(sc:Scope)(x:Str):Prop:=sc.names.lookup x=some .local∨sc.names.lookup x=some .cell∨sc.names.lookup x=some .free
def Loc(sc:Scope)(x:Str):Prop:=sc.names.lookup x=some .local∨sc.names.lookup x=some .cell
def Look(env:Env)(h:Heap)(m:Str->Option Value)(x:Str)(u:Value):Prop:=
 (env.kindOf x=some .local/\m x=some u)∨((env.kindOf x=some .cell∨env.kindOf x=some .free)/\∃ c,env.cells.lookup x=some c/\h.IsCell c (some u))
structure Cx.Ok(X:Cx):Prop where
 mod:Mod X.K X.mg X.base
 kind:X.env.scope.kind=.function
 glob:X.env.globals=mainGlobals
 blt:X.env.builtins=builtinsNs
 above:X.s₀.heap.objs.size<=X.env.locals
 inj:∀ x y c,X.env.cells.lookup x=some c->X.env.cells.lookup y=some c->x=y
 has:∀ x,(X.env.kindOf x=some .cell∨X.env.kindOf x=some .free)->∃ c,X.env.cells.lookup x=some c
 cab:∀ x c,X.fn x=true->X.env.cells.lookup x=some c->X.s₀.heap.objs.size<=c
 hd:X.calm=true->X.A.handled=none
 frames:X.A.frames=some X.stack
 stk:X.stack=X.outer∨(X.stack=X.env::X.outer/\X.env.frame=some X.env.locals)
 exf:∀ b∈X.ex,b≠X.env.locals/\∀ x c,X.env.cells.lookup x=some c->c≠b
 bs:∀ b o,X.base.get? b=some o->X.s₀.heap.get? b=some o/\X.H₀ b=none
 bsz:X.base.objs.size<=X.s₀.heap.objs.size
 noex:∀ b o,X.base.get? b=some o->b∉X.ex
 exfs:∀ b∈X.ex,b∉X.fs
 funs:X.s₀.heap.FunFrames X.base X.outer
 frf:∀ b∈X.fs,X.H₀ b=none
structure Inv(X:Cx)(pins:List (Addr×Obj))(σ:List (Option V))(H:Hp)(s:Shared):Prop where
 ok:X.Ok
 os:s.os=X.s₀.os
 bare:AllBare s.gens
 base:Un X.fs X.ex X.H₀ H X.s₀.heap s.heap
 loc:∃ m,s.heap.Ns X.env.locals m/\∀(i:Nat)(x:Str)(v:V),X.N[i]?=some x->σ[i]?=some (some v)->Vis X.env.scope x->∃ u,RelV v u/\Look X.env s.heap m x u
 cell:∀ x c,X.env.cells.lookup x=some c->∃ v,s.heap.IsCell c v
 free:H X.env.locals=none
 freeC:∀ x c,X.env.cells.lookup x=some c->H c=none
 pin:∀ p∈X.pn++pins,s.heap.get? p.1=some p.2/\H p.1=none/\p.1≠X.env.locals/\p.1∉X.fs/\∀ v,p.2.data≠.cell v
 hok:HOk X.prog X.w H s.heap
 len:σ.length=X.N.length
section
variable{X:Cx}{pins:List (Addr×Obj)}{σ:List (Option V)}{H H':Hp}{s:Shared}{h':Heap}
theorem Cx.Ok.nofr(ok:X.Ok){b:Addr}{o:Obj}(e:X.base.get? b=some o):b∉X.fs:=fun hb=>by
 have:=(ok.funs.mem hb).1
 rw[e]at this;cases this
theorem Inv.bs(I:Inv X pins σ H s):∀ b o,X.base.get? b=some o->s.heap.get? b=some o/\H b=none:=fun b o e=>
 ⟨I.base.keep b o (I.ok.bs b o e).1 (I.ok.bs b o e).2 (I.ok.nofr e) (I.ok.noex b o e),I.base.free b o (I.ok.bs b o e).1 (I.ok.bs b o e).2 (I.ok.noex b o e)⟩
theorem Inv.bk(I:Inv X pins σ H s):∀ b o,X.base.get? b=some o->s.heap.get? b=some o:=fun b o e=>(I.bs b o e).1
theorem Inv.mod(I:Inv X pins σ H s):Mod X.K X.mg X.base:=I.ok.mod
theorem Inv.kIn(I:Inv X pins σ H s):X.K.In s.heap:=I.ok.mod.kin.keeps I.bk
theorem Inv.fr(I:Inv X pins σ H s):∃ m,Fr X.base X.env.locals s.heap m:=
 let ⟨m,hn,_⟩:=I.loc
 ⟨m,hn,I.bk,Nat.le_trans I.ok.bsz I.ok.above⟩
theorem Inv.lt(I:Inv X pins σ H s):X.env.locals<s.heap.objs.size:=let ⟨_,hn,_⟩:=I.loc;hn.lt
theorem Inv.sz(I:Inv X pins σ H s):X.s₀.heap.objs.size<=s.heap.objs.size:=Nat.le_trans I.ok.above (Nat.le_of_lt I.lt)
theorem Inv.nofs(I:Inv X pins σ H s){a:Addr}(h:s.heap.objs.size<=a):a∉X.fs:=fun hb=>by
 obtain⟨_,o,ho,_⟩:=I.ok.funs.mem hb
 exact absurd (Nat.lt_of_lt_of_le (Heap.lt_size ho) (Nat.le_trans I.sz h)) (Nat.lt_irrefl _)
theorem Inv.cne(I:Inv X pins σ H s):∀ x c,X.env.cells.lookup x=some c->c≠X.env.locals:=fun x c e z=>by
 obtain⟨v,o,ho,hd⟩:=I.cell x c e
 obtain⟨m,⟨o',es,ep,ho',hd',_⟩,_⟩:=I.loc
 rw[z,ho']at ho;cases ho;rw[hd']at hd;cases hd
theorem Inv.funs(I:Inv X pins σ H s):s.heap.FunFrames X.base X.outer:=by
 have all:∀(l:List Env),(∀ b∈frs l,b∈X.fs)->X.s₀.heap.FunFrames X.base l->s.heap.FunFrames X.base l:=by
  intro l
  induction l with
  | nil=>intro _ _;trivial
  | cons env r ih=>
   intro hs hl
   obtain⟨hk,⟨L,o,hf,hn,ho,hd⟩,hr⟩:=hl
   have hL:L∈X.fs:=hs L (by unfold frs;rw[List.filterMap_cons,hf];exact List.mem_cons_self)
   obtain⟨sl,e⟩:=I.base.slot L o ho (I.ok.frf L hL) hL fun z=>I.ok.exfs L z hL
   exact⟨hk,⟨L,_,hf,hn,e,hd⟩,ih (fun b hb=>hs b (by unfold frs;rw[List.filterMap_cons,hf];exact List.mem_cons_of_mem _ hb)) hr⟩
 exact all X.outer (fun _ hb=>hb) I.ok.funs
theorem Inv.stack(I:Inv X pins σ H s):s.heap.FunFrames X.base X.stack:=by
 rcases I.ok.stk with e | ⟨e,hf⟩
 ·rw[e];exact I.funs
 ·rw[e]
  obtain⟨m,hn,_⟩:=I.loc
  refine .cons (by rw[I.ok.kind];decide) hf hn ?_ I.funs
  exact Heap.get?_none_of_le (Nat.le_trans I.ok.bsz I.ok.above)
theorem Inv.stkSub(I:Inv X pins σ H s):∀ b∈frs X.stack,b∈X.env.locals::X.fs:=fun b hb=>by
 rcases I.ok.stk with e | ⟨e,hf⟩
 ·rw[e]at hb;exact List.mem_cons_of_mem _ hb
 ·rw[e]at hb
  unfold frs at hb
  rw[List.filterMap_cons,hf]at hb
  exact hb
theorem Inv.stkFree(I:Inv X pins σ H s):∀ b∈frs X.stack,H b=none:=fun b hb=>by
 rcases List.mem_cons.mp (I.stkSub b hb) with e | hb
 ·rw[e];exact I.free
 ·obtain⟨_,o,ho,_⟩:=I.ok.funs.mem hb
  exact I.base.free b o ho (I.ok.frf b hb) fun z=>I.ok.exfs b z hb
theorem Inv.step{g':Array GenState}{t':Nat}{d':Drawn}{ch:List Addr}(I:Inv X pins σ H s)
 (hch:∀ b∈ch,(b∈X.ex∨X.s₀.heap.objs.size<=b)/\b≠X.env.locals/\(∀ x c,X.env.cells.lookup x=some c->c≠b)/\∀ p∈X.pn++pins,p.1≠b)
 (keep:∀ b o,b≠X.env.locals->b∉X.fs->b∉ch->s.heap.get? b=some o->H b=none->h'.get? b=some o)
 (slot:∀ b o,b≠X.env.locals->b∈X.fs->b∉ch->s.heap.get? b=some o->H b=none->∃ sl,h'.get? b=some { o with slots:=sl }) (free:∀ b o,b∉ch->s.heap.get? b=some o->H b=none->H' b=none)
 (there:∀ b o,b∉ch->s.heap.get? b=some o->∃ o',h'.get? b=some o')
 (tups:∀ b xs,H b=some (.tup xs)->H' b=some (.tup xs)) (frzs:∀ b o u,H b=some (.frz o u)->H' b=some (.frz o u)) (tbls:∀ b ps,H b=some (.tbl ps)->∃ more,H' b=some (.tbl (ps++more)))
 (ns:∀ m,s.heap.Ns X.env.locals m->h'.Ns X.env.locals m) (hok:HOk X.prog X.w H' h') (hg:AllBare g'):
 Inv X pins σ H' { s with heap:=h',gens:=g',drawn:=d',toks:=t' }:=by
 have neL:∀ b o,X.s₀.heap.get? b=some o->b≠X.env.locals:=fun b o e=>Nat.ne_of_lt (Nat.lt_of_lt_of_le (Heap.lt_size e) I.ok.above)
 have neC:∀ b o,X.s₀.heap.get? b=some o->b∉X.ex->b∉ch:=fun b o e hx hb=>by
  rcases(hch b hb).1 with z | z
  ·exact hx z
  ·exact absurd (Nat.lt_of_lt_of_le (Heap.lt_size e) z) (Nat.lt_irrefl _)
 have cellK:∀ x c,X.env.cells.lookup x=some c->∀ v,s.heap.IsCell c v->h'.IsCell c v:=fun x c e v ⟨o,ho,hd⟩=>by
  have nch:c∉ch:=fun z=>(hch c z).2.2.1 x c e rfl
  by_cases hc:c∈X.fs
  ·obtain⟨sl,q⟩:=slot c o (I.cne x c e) hc nch ho (I.freeC x c e)
   exact⟨_,q,hd⟩
  ·exact⟨o,keep c o (I.cne x c e) hc nch ho (I.freeC x c e),hd⟩
 refine⟨I.ok,I.os,hg,⟨fun b o e n hb hx=>?_,fun b o e n hb hx=>?_,fun b o e n hx=>?_,fun b o e hx=>?_,fun b xs e=>tups b xs (I.base.tups b xs e),fun b o xs e=>frzs b o xs (I.base.frzs b o xs e),fun b ps e=>?_⟩,?_,fun x c e=>?_,?_,fun x c e=>?_,fun p hp=>?_,hok,I.len⟩
 ·exact keep b o (neL b o e) hb (neC b o e hx) (I.base.keep b o e n hb hx) (I.base.free b o e n hx)
 ·obtain⟨sl,e1⟩:=I.base.slot b o e n hb hx
  obtain⟨sl',e2⟩:=slot b _ (neL b o e) hb (neC b o e hx) e1 (I.base.free b o e n hx)
  exact⟨sl',e2⟩
 ·obtain⟨o',e1⟩:=I.base.there b o e hx
  exact free b o' (neC b o e hx) e1 (I.base.free b o e n hx)
 ·obtain⟨o',e1⟩:=I.base.there b o e hx
  exact there b o' (neC b o e hx) e1
 ·obtain⟨m1,e1⟩:=I.base.tbls b ps e
  obtain⟨m2,e2⟩:=tbls b _ e1
  exact⟨m1++m2,by rw[e2,Array.append_assoc]⟩
 ·obtain⟨m,hn,hl⟩:=I.loc
  refine⟨m,ns m hn,fun i x v e1 e2 e3=>?_⟩
  obtain⟨u,r,l⟩:=hl i x v e1 e2 e3
  refine⟨u,r,?_⟩
  rcases l with l | ⟨k,c,e,z⟩
  ·exact .inl l
  ·exact .inr ⟨k,c,e,cellK x c e _ z⟩
 ·obtain⟨v,z⟩:=I.cell x c e
  exact⟨v,cellK x c e v z⟩
 ·obtain⟨m,⟨o,_,_,ho,_⟩,_⟩:=I.loc
  exact free _ o (fun z=>(hch _ z).2.1 rfl) ho I.free
 ·obtain⟨v,o,ho,hd⟩:=I.cell x c e
  exact free c o (fun z=>(hch c z).2.2.1 x c e rfl) ho (I.freeC x c e)
 ·obtain⟨e,n,ne,nf,d⟩:=I.pin p hp
  have nch:p.1∉ch:=fun z=>(hch p.1 z).2.2.2 p hp rfl
  exact⟨keep p.1 p.2 ne nf nch e n,free p.1 p.2 nch e n,ne,nf,d⟩
theorem Inv.un{t':Nat}(I:Inv X pins σ H s)(u:Un X.fs [] H H' s.heap h')(hok:HOk X.prog X.w H' h'):Inv X pins σ H' { s with heap:=h',toks:=t' }:=by
 obtain⟨m,⟨o,es,ep,ho,r⟩,_⟩:=id I.loc
 obtain⟨sl,hL⟩:=u.any ho I.free (by simp)
 exact I.step (g':=s.gens) (d':=s.drawn) (ch:=[]) (fun _ z=>nomatch z) (fun b o _ hb _ e n=>u.keep b o e n hb (by simp)) (fun b o _ hb _ e n=>u.slot b o e n hb (by simp)) (fun b o _ e n=>u.free b o e n (by simp)) (fun b o _ e=>u.there b o e (by simp)) u.tups u.frzs u.tbls (fun m' hm=>by
  obtain⟨o',es',ep',ho',r'⟩:=hm
  rw[ho]at ho';cases ho'
  exact⟨_,es',ep',hL,r'⟩) hok I.bare
theorem Inv.call{g':Array GenState}{t':Nat}{d':Drawn}{ch:List Addr}(I:Inv X pins σ H s)(u:Un (frs X.stack) ch H H' s.heap h')(hok:HOk X.prog X.w H' h')(hg:AllBare g')
 (hch:∀ b∈ch,(b∈X.ex∨X.s₀.heap.objs.size<=b)/\b≠X.env.locals/\(∀ x c,X.env.cells.lookup x=some c->c≠b)/\∀ p∈X.pn++pins,p.1≠b):
 Inv X pins σ H' { s with heap:=h',gens:=g',drawn:=d',toks:=t' }:=by
 obtain⟨m,⟨o,es,ep,ho,r⟩,_⟩:=id I.loc
 obtain⟨sl,hL⟩:=u.any ho I.free fun z=>(hch _ z).2.1 rfl
 exact I.step (ch:=ch) hch (fun b o hL hb hc e n=>u.keep b o e n (fun z=>(List.mem_cons.mp (I.stkSub b z)).elim hL hb) hc) (fun b o _ _ hc e n=>u.any e n hc) (fun b o hc e n=>u.free b o e n hc) (fun b o hc e=>u.there b o e hc) u.tups u.frzs u.tbls (fun m' hm=>by
  obtain⟨o',es',ep',ho',r'⟩:=hm
  rw[ho]at ho';cases ho'
  exact⟨_,es',ep',hL,r'⟩) hok hg
theorem Inv.turned{t':Nat}{it:Addr}(I:Inv X pins σ H s)(k:∀ b o,b≠it->s.heap.get? b=some o->h'.get? b=some o)(hn:H it=none)(hL:it≠X.env.locals)
 (h1:it∈X.ex∨X.s₀.heap.objs.size<=it) (h2:∀ x c,X.env.cells.lookup x=some c->c≠it) (h3:∀ p∈X.pn++pins,p.1≠it):Inv X pins σ H { s with heap:=h',toks:=t' }:=by
 have nit:∀ b u,H b=some u->b≠it:=fun b u e z=>by rw[z,hn]at e;cases e
 refine I.step (g':=s.gens) (d':=s.drawn) (ch:=[it]) (fun b hb=>?_) (fun b o _ _ hc e _=>k b o (fun z=>hc (by simp[z])) e) (fun b o _ _ hc e _=>⟨o.slots,k b o (fun z=>hc (by simp[z])) e⟩) (fun _ _ _ _ n=>n)
  (fun b o hc e=>⟨o,k b o (fun z=>hc (by simp[z])) e⟩) (fun _ _ e=>e) (fun _ _ _ e=>e) (fun b ps e=>⟨#[],by rw[e];simp⟩) (fun m hm=>?_) (fun b u e=>?_) I.bare
 ·have e:b=it:=by simpa using hb
  subst e
  exact⟨h1,hL,h2,h3⟩
 ·obtain⟨o,es,ep,ho,r⟩:=hm
  exact⟨o,es,ep,k _ o (Ne.symm hL) ho,r⟩
 ·refine(I.hok b u e).stay (fun c v hc q=>k c v ?_ q) (fun _ q=>q) fun _ _ q=>q
  rcases hc with z | z
  ·rw[z];exact nit b u e
  ·exact nit c _ z
theorem Inv.tok(I:Inv X pins σ H s)(t:Nat):Inv X pins σ H { s with toks:=t }:=I.un (h':=s.heap) (t':=t) Un.refl I.hok
theorem Inv.kept{t':Nat}(I:Inv X pins σ H s)(k:∀ b u,s.heap.get? b=some u->h'.get? b=some u):Inv X pins σ H { s with heap:=h',toks:=t' }:=I.un (Un.kept k) (I.hok.kept k)
theorem Inv.laid{a:Addr}{o:HO}{t':Nat}(I:Inv X pins σ H s)(k:∀ b u,s.heap.get? b=some u->h'.get? b=some u)(hp:s.heap.objs.size<=a)(new:ObjOk X.prog X.w (upd H a o) h' a o):
 Inv X pins σ (upd H a o) { s with heap:=h',toks:=t' }:=I.un (Un.laid k hp (I.hok.fresh hp)) (I.hok.laid k hp new)
theorem Inv.write{x e:Addr}{o:HO}{t':Nat}(I:Inv X pins σ H s)(mu:Mut (H x))(he:e=x∨H e=some (.own x))(k:∀ b u,b≠e->s.heap.get? b=some u->h'.get? b=some u)(heo:∃ u,h'.get? e=some u)
 (new:ObjOk X.prog X.w (upd H x o) h' x o):Inv X pins σ (upd H x o) { s with heap:=h',toks:=t' }:=I.un (Un.write mu he k heo) (I.hok.write mu he k heo new)
theorem Inv.pins_of{pins':List (Addr×Obj)}(I:Inv X pins σ H s)(h:∀ p∈pins',s.heap.get? p.1=some p.2/\H p.1=none/\p.1≠X.env.locals/\p.1∉X.fs/\∀ v,p.2.data≠.cell v):Inv X pins' σ H s:=
 ⟨I.ok,I.os,I.bare,I.base,I.loc,I.cell,I.free,I.freeC,fun p hp=>(List.mem_append.mp hp).elim (fun z=>I.pin p (List.mem_append_left _ z)) (h p),I.hok,I.len⟩
theorem Qvt{N:List Str}(hN:N.Nodup){i j:Nat}{x:Str}(a:N[i]?=some x)(b:N[j]?=some x):i=j:=by
 obtain⟨h1,e1⟩:=List.getElem?_eq_some_iff.mp a
 obtain⟨h2,e2⟩:=List.getElem?_eq_some_iff.mp b
 exact(List.getElem_inj hN).mp (e1.trans e2.symm)
theorem Qr1{M:Model}{A:Around}{E:Value->Shared->Prop}{i:Nat}{x:Str}{v:V}{u:Value}{Q:Unit->Shared->Prop}(I:Inv X pins σ H s)(hN:X.N.Nodup)(hi:X.N[i]?=some x)(hx:Loc X.env.scope x)(r:RelV v u)
 (h:∀ s',Inv X pins (σ.set i (some v)) H s'->(∃ a,Heap.SameBut a s.heap s'.heap/\(a=X.env.locals∨X.env.cells.lookup x=some a))->Q () s') (hf:X.fn x=true∨X.env.scope.names.lookup x=some .local:=by first | exact .inl rfl | exact .inr rfl | assumption):wpAny M A (storeName X.env x u) Q E s:=by
 obtain⟨m,hn,hl⟩:=id I.loc
 have hcls:(X.env.scope.kind == .class||(X.env.scope.kind == .module&&X.env.locals != X.env.globals))=false:=by rw[I.ok.kind];rfl
 have hiσ:i<σ.length:=by rw[I.len];exact(List.getElem?_eq_some_iff.mp hi).1
 have cne:=I.cne
 have tracked:∀{a:Addr}{h':Heap},(∃ o,s.heap.get? a=some o/\H a=none)->Heap.SameBut a s.heap h'->HOk X.prog X.w H h':=fun {a h'} ha hs b ob e=>by
  obtain⟨_,_,hfree⟩:=ha
  refine(I.hok b ob e).stay (fun c w' hc q=>(hs.2 c ?_).trans q) (fun _ q=>q) fun _ _ q=>q
  rintro rfl
  rcases hc with rfl | hc
  ·rw[hfree]at e;cases e
  ·rw[hfree]at hc;cases hc
 rcases hx with hk | hk
 ·refine wpAny_storeName_local hk hn (fun h' hn' hs=>?_) hcls
  obtain⟨oL,_,_,hoL,_⟩:=id hn
  refine h _ ⟨I.ok,I.os,I.bare,⟨fun b o e n hb hx=>?_,fun b o e n hb hx=>?_,I.base.free,fun b o e hx=>?_,I.base.tups,I.base.frzs,I.base.tbls⟩,⟨_,hn',fun j y v' e1 e2 e3=>?_⟩,fun y c e=>?_,I.free,I.freeC,fun p hp=>?_,tracked ⟨oL,hoL,I.free⟩ hs,by simpa using I.len⟩ ⟨_,hs,.inl rfl⟩
  ·exact(hs.2 b (Nat.ne_of_lt (Nat.lt_of_lt_of_le (Heap.lt_size e) I.ok.above))).trans (I.base.keep b o e n hb hx)
  ·obtain⟨sl,e1⟩:=I.base.slot b o e n hb hx
   exact⟨sl,(hs.2 b (Nat.ne_of_lt (Nat.lt_of_lt_of_le (Heap.lt_size e) I.ok.above))).trans e1⟩
  ·obtain⟨o',e1⟩:=I.base.there b o e hx
   exact⟨o',(hs.2 b (Nat.ne_of_lt (Nat.lt_of_lt_of_le (Heap.lt_size e) I.ok.above))).trans e1⟩
  ·by_cases hj:j=i
   ·subst hj
    rw[hi]at e1;cases e1
    rw[List.getElem?_set_self hiσ]at e2
    cases e2
    exact⟨u,r,.inl ⟨hk,by simp⟩⟩
   ·rw[List.getElem?_set_ne (Ne.symm hj)]at e2
    obtain⟨u',r',q⟩:=hl j y v' e1 e2 e3
    refine⟨u',r',?_⟩
    rcases q with⟨k,e⟩ | ⟨k,c,e,z⟩
    ·refine .inl ⟨k,?_⟩
     have:y≠x:=fun e=>hj (Qvt hN e1 (e ▸ hi))
     simp[this,e]
    ·exact .inr ⟨k,c,e,z.sameBut hs (cne y c e)⟩
  ·obtain⟨w',z⟩:=I.cell y c e
   exact⟨w',z.sameBut hs (cne y c e)⟩
  ·obtain⟨e,n,ne,nf,d⟩:=I.pin p hp
   exact⟨(hs.2 p.1 ne).trans e,n,ne,nf,d⟩
 ·have hfn:X.fn x=true:=by
   rcases hf with z | z
   ·exact z
   ·rw[z]at hk;cases hk
  obtain⟨c,hc⟩:=I.ok.has x (.inl hk)
  obtain⟨w',z⟩:=I.cell x c hc
  refine wpAny_storeName_cell I.ok.kind hk hc z (fun h' hc' hs=>?_)
  obtain⟨oc,hoc,hocd⟩:=id z
  refine h { s with heap:=h' } ⟨I.ok,I.os,I.bare,⟨fun b o e n hb hx=>?_,fun b o e n hb hx=>?_,I.base.free,fun b o e hx=>?_,I.base.tups,I.base.frzs,I.base.tbls⟩,⟨m,hn.sameBut hs (Ne.symm (cne x c hc)),fun j y v' e1 e2 e3=>?_⟩,fun y c' e=>?_,I.free,I.freeC,fun p hp=>?_,tracked ⟨oc,hoc,I.freeC x c hc⟩ hs,by simpa using I.len⟩ ⟨c,hs,.inr hc⟩
  ·exact(hs.2 b (Nat.ne_of_lt (Nat.lt_of_lt_of_le (Heap.lt_size e) (I.ok.cab x c hfn hc)))).trans (I.base.keep b o e n hb hx)
  ·obtain⟨sl,e1⟩:=I.base.slot b o e n hb hx
   exact⟨sl,(hs.2 b (Nat.ne_of_lt (Nat.lt_of_lt_of_le (Heap.lt_size e) (I.ok.cab x c hfn hc)))).trans e1⟩
  ·obtain⟨o',e1⟩:=I.base.there b o e hx
   exact⟨o',(hs.2 b (Nat.ne_of_lt (Nat.lt_of_lt_of_le (Heap.lt_size e) (I.ok.cab x c hfn hc)))).trans e1⟩
  ·by_cases hj:j=i
   ·subst hj
    rw[hi]at e1;cases e1
    rw[List.getElem?_set_self hiσ]at e2
    cases e2
    exact⟨u,r,.inr ⟨.inl hk,c,hc,hc'⟩⟩
   ·rw[List.getElem?_set_ne (Ne.symm hj)]at e2
    obtain⟨u',r',q⟩:=hl j y v' e1 e2 e3
    refine⟨u',r',?_⟩
    rcases q with q | ⟨k,c',e,z'⟩
    ·exact .inl q
    ·refine .inr ⟨k,c',e,z'.sameBut hs ?_⟩
     rintro rfl
     exact hj (Qvt hN e1 (I.ok.inj _ _ _ e hc ▸ hi))
  ·by_cases hcc:c'=c
   ·subst hcc;exact⟨_,hc'⟩
   ·obtain⟨w2,z2⟩:=I.cell y c' e
    exact⟨w2,z2.sameBut hs hcc⟩
  ·obtain⟨e,n,ne,nf,d⟩:=I.pin p hp
   refine⟨(hs.2 p.1 ?_).trans e,n,ne,nf,d⟩
   intro q
   rw[q,hoc]at e
   have q':oc=p.2:=Option.some.inj e
   exact d w' (by rw[← q'];exact hocd)
theorem Qyg{M:Model}{A:Around}{E:Value->Shared->Prop}{i:Nat}{x:Str}{v:V}{u:Value}{Q:Unit->Shared->Prop}(I:Inv X pins σ H s)(hN:X.N.Nodup)(hi:X.N[i]?=some x)(hx:Loc X.env.scope x)(r:RelV v u)
 (h:∀ s',Inv X pins (σ.set i (some v)) H s'->Q () s') (hf:X.fn x=true∨X.env.scope.names.lookup x=some .local:=by first | exact .inl rfl | exact .inr rfl | assumption):wpAny M A (storeName X.env x u) Q E s:=
 Qr1 I hN hi hx r (fun s' I' _=>h s' I') hf
theorem Inv.call'{s':Shared}{ch:List Addr}(I:Inv X pins σ H s)(ho:s'.os=s.os)(u:Un (frs X.stack) ch H H' s.heap s'.heap)(hok:HOk X.prog X.w H' s'.heap)(hg:AllBare s'.gens)
 (hch:∀ b∈ch,(b∈X.ex∨X.s₀.heap.objs.size<=b)/\b≠X.env.locals/\(∀ x c,X.env.cells.lookup x=some c->c≠b)/\∀ p∈X.pn++pins,p.1≠b):Inv X pins σ H' s':=by
 obtain⟨h',g',d',t',o'⟩:=s'
 have e:o'=s.os:=ho
 subst e
 exact I.call (g':=g') (t':=t') (d':=d') u hok hg hch
end
abbrev XK:=Value->Option Addr->Hp->Prop
abbrev St:=List (Option V)
abbrev VK:=V->Hp->Prop
abbrev TE:=St->Hp->VK->Prop
abbrev TT:=St->Hp->(Bool->Hp->Prop)->Prop
abbrev TA:=St->Hp->(List V->Hp->Prop)->Prop
structure Ends where
 nx:St->Hp->Prop
 rt:VK
 bk:St->Hp->Prop:=fun _ _=>False
 ct:St->Hp->Prop:=fun _ _=>False
abbrev TS:=Ends->St->Hp->Prop
def EP(X:Cx)(pins:List (Addr×Obj))(σ:St)(Q:VK)(u:Value)(s':Shared):Prop:=∃ v H',Inv X pins σ H' s'/\RelV v u/\Q v H'
def TP(X:Cx)(pins:List (Addr×Obj))(σ:St)(Q:Bool->Hp->Prop)(b:Bool)(s':Shared):Prop:=∃ H',Inv X pins σ H' s'/\Q b H'
def AP(X:Cx)(pins:List (Addr×Obj))(σ:St)(Q:List V->Hp->Prop)(us:List Value)(s':Shared):Prop:=∃ vs H',Inv X pins σ H' s'/\Vals vs us/\Q vs H'
def SP(X:Cx)(pins:List (Addr×Obj))(D:Ends)(f:Flow)(s':Shared):Prop:=
 match f with
 | .next=>∃ σ' H',Inv X pins σ' H' s'/\D.nx σ' H'
 | .brk=>∃ σ' H',Inv X pins σ' H' s'/\D.bk σ' H'
 | .cont=>∃ σ' H',Inv X pins σ' H' s'/\D.ct σ' H'
 | .ret u=>∃ v σ' H',Inv X pins σ' H' s'/\RelV v u/\D.rt v H'
def PE(X:Cx)(e:Expr)(t:TE):Prop:=
 ∀(pins:List (Addr×Obj))(s:Shared)(σ:St)(H:Hp)(Q:VK),Inv X pins σ H s->t σ H Q->wpAny (model X.prog X.w) X.A (eval e X.env) (EP X pins σ Q) X.xe s
def PT(X:Cx)(e:Expr)(t:TT):Prop:=
 ∀(pins:List (Addr×Obj))(s:Shared)(σ:St)(H:Hp)(Q:Bool->Hp->Prop),Inv X pins σ H s->t σ H Q->wpAny (model X.prog X.w) X.A (isTrue e X.env (eval e X.env)) (TP X pins σ Q) X.xe s
def PW(X:Cx)(e:Expr)(t:TT):Prop:=
 ∀(whole:Sem Value)(pins:List (Addr×Obj))(s:Shared)(σ:St)(H:Hp)(Q:Bool->Hp->Prop),Inv X pins σ H s->t σ H Q->wpAny (model X.prog X.w) X.A (isTrue e X.env whole) (TP X pins σ Q) X.xe s
theorem PW.pt{X:Cx}{e:Expr}{t:TT}(h:PW X e t):PT X e t:=h _
def PA(X:Cx)(es:List Expr)(t:TA):Prop:=
 ∀(pos:Pos)(pins:List (Addr×Obj))(s:Shared)(σ:St)(H:Hp)(Q:List V->Hp->Prop),Inv X pins σ H s->t σ H Q->wpAny (model X.prog X.w) X.A (spliced (backTo pos (starEach es X.env))) (AP X pins σ Q) X.xe s
def PS(X:Cx)(st:Stmt)(t:TS):Prop:=
 ∀(pins:List (Addr×Obj))(s:Shared)(σ:St)(H:Hp)(D:Ends),Inv X pins σ H s->t D σ H->wpAny (model X.prog X.w) X.A (exec st X.env) (SP X pins D) X.xe s
def PSs(X:Cx)(st:List Stmt)(t:TS):Prop:=
 ∀(pins:List (Addr×Obj))(s:Shared)(σ:St)(H:Hp)(D:Ends),Inv X pins σ H s->t D σ H->wpAny (model X.prog X.w) X.A (execs st X.env) (SP X pins D) X.xe s
theorem thn{α:Type}{t:Sem α}{Q Q':α->Shared->Prop}{M:Model}{A:Around}{E:Value->Shared->Prop}{s:Shared}(h:wpAny M A t Q E s)(hQ:∀ a s,Q a s->Q' a s):wpAny M A t Q' E s:=wpAny_mono h hQ fun _ _ x=>x
end L2
namespace L2
open PySem PySem.Spec PyProof.Rows
section
variable{X:Cx}
def tVar(i:Nat):TE:=fun σ H Q=>∃ v,σ[i]?=some (some v)/\Q v H
def tC(v:V):TE:=fun _ H Q=>Q v H
theorem Qfn{i:Nat}{x:Str}{pos:Pos}(hN:X.N[i]?=some x)(hv:Vis X.env.scope x)(hd:(x == ("__debug__":Str))=false:=by decide)(hcd:(x == ("__classdict__":Str))=false:=by decide):PE X (.Name x pos) (tVar i):=by
 intro pins s σ H Q I h
 obtain⟨v,e,h⟩:=h
 obtain⟨m,hn,hl⟩:=I.loc
 obtain⟨u,r,l⟩:=hl i x v hN e hv
 have fin:EP X pins σ Q u s:=⟨v,H,I,r,h⟩
 rcases l with⟨hk,hm⟩ | ⟨hk,c,hc,hcell⟩
 ·exact wpAny_Name (wpAny_loadName_local I.ok.kind hk hn hm fin) hd
 ·rcases hk with hk | hk
  ·exact wpAny_Name (wpAny_loadName_cell I.ok.kind hk hc hcell fin) hd
  ·exact wpAny_Name (wpAny_loadName_free I.ok.kind hk hc hcell fin hcd) hd
theorem QKn{i j pos}:PE X (.Constant (.int i) j pos) (tC (.int i)):=fun _ _ _ H _ I h=>wpAny_Constant_int ⟨.int i,H,I.tok _,⟨_,rfl⟩,h⟩
theorem pe_bl{b j pos}:PE X (.Constant (.bool b) j pos) (tC (.bl b)):=fun _ _ _ H _ I h=>Constant_bool ⟨.bl b,H,I,rfl,h⟩
theorem QJN{j pos}:PE X (.Constant .none j pos) (tC .non):=fun _ _ _ H _ I h=>Constant_none ⟨.non,H,I,rfl,h⟩
theorem QKE{x j pos}:PE X (.Constant (.str x) j pos) (tC (.str x)):=fun _ _ _ H _ I h=>Calls.Constant_str ⟨.str x,H,I.tok _,⟨_,rfl⟩,h⟩
def Gl(X:Cx)(x:Str):Prop:=X.env.kindOf x=some .globalImplicit
theorem Qqv{E:Value->Shared->Prop}{pins:List (Addr×Obj)}{s:Shared}{σ:St}{H:Hp}{x:Str}{u:Value}{pos:Pos}{Q:Value->Shared->Prop}(I:Inv X pins σ H s)(hg:Gl X x)(hm:X.mg x=some u)(h:Q u s)
 (hd:(x == ("__debug__":Str))=false:=by decide):wpAny (model X.prog X.w) X.A (eval (.Name x pos) X.env) Q E s:=
 Calls.Name_function_global I.ok.kind hg (Calls.loadGlobal_global (by rw[I.ok.glob];exact I.mod.glob.keeps I.bk) hm h) hd
theorem Qfm{E:Value->Shared->Prop}{pins:List (Addr×Obj)}{s:Shared}{σ:St}{H:Hp}{x:Str}{u:Value}{pos:Pos}{Q:Value->Shared->Prop}(I:Inv X pins σ H s)(hg:Gl X x)(hm:X.mg x=none)(hv:bootBuiltins x=some u)(h:Q u s)
 (hn:x≠"__name__":=by decide) (hd:(x == ("__debug__":Str))=false:=by decide):wpAny (model X.prog X.w) X.A (eval (.Name x pos) X.env) Q E s:=by
 obtain⟨mb,h1,h2⟩:=I.mod.blt
 exact Calls.Name_function_global I.ok.kind hg (Calls.loadGlobal_builtin (by rw[I.ok.glob];exact I.mod.glob.keeps I.bk) hm (by rw[I.ok.blt];exact h1.keeps I.bk) ((h2 x hn).trans hv) h) hd
theorem Qif{x:Str}{v:V}{u:Value}{pos:Pos}(hg:Gl X x)(hm:X.mg x=some u)(r:RelV v u)(hd:(x == ("__debug__":Str))=false:=by decide):PE X (.Name x pos) (tC v):=
 fun _ _ _ H _ I h=>Qqv I hg hm ⟨v,H,I,r,h⟩ hd
theorem QI4{x:Str}{v:V}{u:Value}{pos:Pos}(hg:Gl X x)(hm:X.mg x=none)(hv:bootBuiltins x=some u)(r:RelV v u)(hn:x≠"__name__":=by decide)(hd:(x == ("__debug__":Str))=false:=by decide):PE X (.Name x pos) (tC v):=
 fun _ _ _ H _ I h=>Qfm I hg hm hv ⟨v,H,I,r,h⟩ hn hd
variable{a b:Expr}{ta tb:TE}{pos:Pos}
def tB(t:TE):TT:=fun σ H Q=>t σ H fun x H1=>∃ c,x=.bl c/\Q c H1
theorem QJZ{e:Expr}{t:TE}(h:PE X e t)(he:∀ whole,isTrue e X.env whole=(do let v ← whole;standAt e.pos;holding [v] (truthy v)):=by intro _;rfl):PT X e (tB t):=by
 intro pins s σ H Q I hw
 refine isTrue_plain (thn (h pins s σ H _ I hw) fun v s1 ⟨x,H1,I1,r1,q1⟩=>?_) (he _)
 obtain⟨d,rfl,q⟩:=q1
 cases r1
 exact wpAny_truthy_bool ⟨H1,I1,q⟩
variable{tA tB':TT}{rest:List Expr}
def tAnd(t u:TT):TT:=fun σ H Q=>t σ H fun c H1=>if c=true then u σ H1 Q else Q false H1
def tOr(t u:TT):TT:=fun σ H Q=>t σ H fun c H1=>if c=true then Q true H1 else u σ H1 Q
def tNot(t:TT):TT:=fun σ H Q=>t σ H fun c H1=>Q (!c) H1
theorem QJo(ha:PT X a tA):PW X (.BoolOp .And [a] pos) tA:=by
 intro wh pins s σ H Q I h
 refine isTrue_and (thn (ha pins s σ H Q I h) fun c s1 e=>?_)
 cases c with
 | true=>exact isTrue_and_nil e
 | false=>exact e
theorem QKo(ha:PT X a tA):PW X (.BoolOp .Or [a] pos) tA:=by
 intro wh pins s σ H Q I h
 refine isTrue_or (thn (ha pins s σ H Q I h) fun c s1 e=>?_)
 cases c with
 | false=>exact isTrue_or_nil e
 | true=>exact e
theorem QJP(ha:PT X a tA)(hb:PW X (.BoolOp .And (b::rest) pos) tB'):PW X (.BoolOp .And (a::b::rest) pos) (tAnd tA tB'):=by
 intro wh pins s σ H Q I h
 refine isTrue_and (thn (ha pins s σ H _ I h) fun c s1 ⟨H1,I1,q1⟩=>?_)
 cases c with
 | true=>exact hb wh pins s1 σ H1 Q I1 q1
 | false=>exact⟨H1,I1,q1⟩
theorem pw_or(ha:PT X a tA)(hb:PW X (.BoolOp .Or (b::rest) pos) tB'):PW X (.BoolOp .Or (a::b::rest) pos) (tOr tA tB'):=by
 intro wh pins s σ H Q I h
 refine isTrue_or (thn (ha pins s σ H _ I h) fun c s1 ⟨H1,I1,q1⟩=>?_)
 cases c with
 | true=>exact⟨H1,I1,q1⟩
 | false=>exact hb wh pins s1 σ H1 Q I1 q1
theorem QKJ(ha:PT X a tA):PT X (.UnaryOp .Not a pos) (tNot tA):=by
 intro pins s σ H Q I h
 exact isTrue_not (ha pins s σ H (fun c H1=>Q (!c) H1) I h)
def tAndV(ta tb:TE):TE:=fun σ H Q=>ta σ H fun x H1=>∃ c,x=.bl c/\if c=true then tb σ H1 Q else Q (.bl false) H1
def tNotV(ta:TE):TE:=fun σ H Q=>ta σ H fun x H1=>∃ c,x=.bl c/\Q (.bl (!c)) H1
theorem QKX{op}{t:TE}(h:PE X a t):PE X (.BoolOp op [a] pos) t:=fun pins s σ H Q I hw=>BoolOp_one (h pins s σ H Q I hw)
theorem QKW(ha:PE X a ta)(hb:PE X (.BoolOp .And (b::rest) pos) tb):PE X (.BoolOp .And (a::b::rest) pos) (tAndV ta tb):=by
 intro pins s σ H Q I h
 refine BoolOp_and (thn (ha pins s σ H _ I h) fun v s1 ⟨x,H1,I1,r1,q1⟩=>?_)
 obtain⟨c,rfl,q1⟩:=q1
 cases r1
 refine wpAny_truthy_bool ?_
 cases c with
 | true=>exact hb pins s1 σ H1 Q I1 q1
 | false=>exact⟨.bl false,H1,I1,rfl,q1⟩
theorem QKf(ha:PE X a ta):PE X (.UnaryOp .Not a pos) (tNotV ta):=by
 intro pins s σ H Q I h
 refine UnaryOp_ (thn (ha pins s σ H _ I h) fun v s1 ⟨x,H1,I1,r1,q1⟩=>?_)
 obtain⟨c,rfl,q1⟩:=q1
 cases r1
 exact not_of (wpAny_truthy_bool ⟨.bl (!c),H1,I1,rfl,q1⟩)
def tIf(t:TT)(ta tb:TE):TE:=fun σ H Q=>t σ H fun c H1=>if c=true then ta σ H1 Q else tb σ H1 Q
theorem QHX{c:Expr}(hc:PT X c tA)(ha:PE X a ta)(hb:PE X b tb):PE X (.IfExp c a b pos) (tIf tA ta tb):=by
 intro pins s σ H Q I h
 refine wpAny_IfExp (thn (hc pins s σ H _ I h) fun d s1 ⟨H1,I1,q1⟩=>?_)
 cases d with
 | true=>exact ha pins s1 σ H1 Q I1 q1
 | false=>exact hb pins s1 σ H1 Q I1 q1
end
end L2
namespace L2
open PySem PySem.Spec PyProof.Rows
def SqL(K:W.Frag)(H:Hp)(a:Addr)(xs:List V):Prop:=
 Rd H a (.lst xs)∨
  ∃(o:Obj)(its:Array Value)(n:Nat),K.lookup a=some o/\o.cls=.type "list"/\o.dict=none/\o.data=.seq its n/\its.size<=sizeLine/\Vals xs its.toList
def SqT(K:W.Frag)(H:Hp)(a:Addr)(xs:List V):Prop:=
 Rd H a (.tup xs)∨
  ∃(o:Obj)(its:Array Value)(n:Nat),K.lookup a=some o/\o.cls=.type "tuple"/\o.data=.seq its n/\its.size<=sizeLine/\Vals xs its.toList
def absV:Value->Option V
 | .none=>some .non
 | .bool b=>some (.bl b)
 | .int i _=>some (.int i)
 | .str x _=>some (.str x)
 | .bytes b _=>some (.byt b)
 | .float b _=>some (.flt b)
 | .ref a=>some (.ref a)
 | .type n=>some (.ty n)
 | _=>none
theorem RelV.abs{x:V}{u:Value}(r:RelV x u):absV u=some x:=by
 cases x with
 | non=>cases r;rfl
 | bl _=>cases r;rfl
 | int _=>obtain⟨t,rfl⟩:=r;rfl
 | str _=>obtain⟨t,rfl⟩:=r;rfl
 | byt _=>obtain⟨t,rfl⟩:=r;rfl
 | flt _=>obtain⟨t,rfl⟩:=r;rfl
 | ref _=>cases r;rfl
 | ty _=>cases r;rfl
theorem RelV.inj{x y:V}{u:Value}(r:RelV x u)(q:RelV y u):x=y:=Option.some.inj (r.abs.symm.trans q.abs)
theorem Vals.inj:∀{xs ys:List V}{us:List Value},Vals xs us->Vals ys us->xs=ys
 | _,_,_,.nil,.nil=>rfl
 | _,_,_,.cons r t,.cons r' t'=>by rw[r.inj r',Vals.inj t t']
section
variable{X:Cx}{pins:List (Addr×Obj)}{σ:St}{H:Hp}{s:Shared}{a:Addr}{xs ys:List V}
theorem SqL.of{K:W.Frag}(h:H a=some (.lst xs)):SqL K H a xs:=.inl (.inl h)
theorem SqT.of{K:W.Frag}(h:H a=some (.tup xs)):SqT K H a xs:=.inl (.inl h)
theorem Inv.list(I:Inv X pins σ H s)(h:SqL X.K H a xs):∃ its:List Value,Vals xs its/\PlainL s.heap a its.toArray/\xs.length<=sizeLine:=by
 rcases h with h | ⟨o,its,n,hk,hc,hd,hs,hz,r⟩
 ·obtain⟨z,its,n,r,e⟩:=h.ok I.hok
  exact⟨its,r,⟨_,n,e,rfl,rfl,rfl⟩,z⟩
 ·refine⟨its.toList,r,⟨o,n,I.kIn a o hk,hc,hd,by simpa using hs⟩,?_⟩
  have e:=r.length
  simp only[Array.length_toList]at e
  omega
theorem Inv.tuple(I:Inv X pins σ H s)(h:SqT X.K H a xs):∃ its:List Value,Vals xs its/\IsTup s.heap a its.toArray/\xs.length<=sizeLine:=by
 rcases h with h | ⟨o,its,n,hk,hc,hs,hz,r⟩
 ·obtain⟨z,its,r,p⟩:=h.ok I.hok
  exact⟨its,r,p,z⟩
 ·refine⟨its.toList,r,⟨o,I.kIn a o hk,hc,n,by simpa using hs⟩,?_⟩
  have e:=r.length
  simp only[Array.length_toList]at e
  omega
theorem Inv.list_inj(I:Inv X pins σ H s)(h:SqL X.K H a xs)(h':SqL X.K H a ys):xs=ys:=by
 obtain⟨its,r,⟨o,n,e,_,_,d⟩,_⟩:=I.list h
 obtain⟨its',r',⟨o',n',e',_,_,d'⟩,_⟩:=I.list h'
 rw[e]at e';cases e'
 rw[d]at d'
 injection d' with d1 _
 have:its=its':=by simpa using congrArg Array.toList d1
 subst this
 exact r.inj r'
end
abbrev Cx.wish(X:Cx)(E:Value->Shared->Prop):Cx:={ X with xe:=E }
abbrev Cx.nox(X:Cx):Cx:=X.wish fun _ _=>False
theorem Cx.Ok.wish{X:Cx}(ok:X.Ok)(E:Value->Shared->Prop):(X.wish E).Ok:=
 ⟨ok.mod,ok.kind,ok.glob,ok.blt,ok.above,ok.inj,ok.has,ok.cab,ok.hd,ok.frames,ok.stk,ok.exf,ok.bs,ok.bsz,ok.noex,ok.exfs,ok.funs,ok.frf⟩
theorem Cx.Ok.unwish{X:Cx}{E:Value->Shared->Prop}(ok:(X.wish E).Ok):X.Ok:=
 ⟨ok.mod,ok.kind,ok.glob,ok.blt,ok.above,ok.inj,ok.has,ok.cab,ok.hd,ok.frames,ok.stk,ok.exf,ok.bs,ok.bsz,ok.noex,ok.exfs,ok.funs,ok.frf⟩
section
variable{X:Cx}{pins:List (Addr×Obj)}{σ:St}{H:Hp}{s:Shared}{E:Value->Shared->Prop}
theorem Inv.wish(I:Inv X pins σ H s)(E:Value->Shared->Prop):Inv (X.wish E) pins σ H s:=⟨I.ok.wish E,I.os,I.bare,I.base,I.loc,I.cell,I.free,I.freeC,I.pin,I.hok,I.len⟩
theorem Inv.unwish(I:Inv (X.wish E) pins σ H s):Inv X pins σ H s:=⟨I.ok.unwish,I.os,I.bare,I.base,I.loc,I.cell,I.free,I.freeC,I.pin,I.hok,I.len⟩
theorem SP.unwish{D:Ends}{f:Flow}{s':Shared}(h:SP (X.wish E) pins D f s'):SP X pins D f s':=by
 cases f with
 | next=>obtain⟨σ',H',I,q⟩:=h;exact⟨σ',H',I.unwish,q⟩
 | brk=>obtain⟨σ',H',I,q⟩:=h;exact⟨σ',H',I.unwish,q⟩
 | cont=>obtain⟨σ',H',I,q⟩:=h;exact⟨σ',H',I.unwish,q⟩
 | ret u=>obtain⟨v,σ',H',I,r,q⟩:=h;exact⟨v,σ',H',I.unwish,r,q⟩
theorem PE.nox{e:Expr}{t:TE}(h:PE X.nox e t):PE X e t:=fun pins s σ H Q I hw=>
 wpAny_mono (h pins s σ H Q (I.wish _) hw) (fun _ _ ⟨v,H',I',r,q⟩=>⟨v,H',I'.unwish,r,q⟩) fun _ _ z=>False.elim z
theorem PT.nox{e:Expr}{t:TT}(h:PT X.nox e t):PT X e t:=fun pins s σ H Q I hw=>
 wpAny_mono (h pins s σ H Q (I.wish _) hw) (fun _ _ ⟨H',I',q⟩=>⟨H',I'.unwish,q⟩) fun _ _ z=>False.elim z
theorem PSs.nox{st:List Stmt}{t:TS}(h:PSs X.nox st t):PSs X st t:=fun pins s σ H D I hw=>
 wpAny_mono (h pins s σ H D (I.wish _) hw) (fun _ _ q=>q.unwish) fun _ _ z=>False.elim z
end
section
variable{X:Cx}{st:Stmt}{rest:List Stmt}{t u:TS}{e:Expr}{te:TE}{pos:Pos}
def tNext:TS:=fun D σ H=>D.nx σ H
def tSeq(t u:TS):TS:=fun D σ H=>t { D with nx:=u D } σ H
theorem QIJ:PSs X [] tNext:=fun _ _ σ H _ I h=>wpAny_execs_nil ⟨σ,H,I,h⟩
theorem QHb(h1:PS X st t)(h2:PSs X rest u):PSs X (st::rest) (tSeq t u):=by
 intro pins s σ H D I h
 refine wpAny_execs_cons (thn (h1 pins s σ H { D with nx:=u D } I h) fun f s1 q=>?_)
 cases f with
 | next=>
  obtain⟨σ',H',I',q⟩:=q
  exact h2 pins s1 σ' H' D I' q
 | ret v=>exact q
 | brk=>exact q
 | cont=>exact q
theorem QIa(h1:PS X st t):PSs X [st] t:=by
 intro pins s σ H D I h
 refine wpAny_execs_cons (thn (h1 pins s σ H D I h) fun f s1 q=>?_)
 cases f with
 | next=>exact wpAny_execs_nil q
 | ret v=>exact q
 | brk=>exact q
 | cont=>exact q
theorem Inv.quiet{pins:List (Addr×Obj)}{σ:St}{H:Hp}{s:Shared}(I:Inv X pins σ H s):interactive X.env=false:=by simp[interactive,I.ok.kind]
def tDrop(te:TE):TS:=fun D σ H=>te σ H fun _ H1=>D.nx σ H1
theorem QB5(he:PE X e te)(hs:swapsWith e none pos.line X.env=pure false:=by rfl):PS X (.Expr e pos) (tDrop te):=by
 intro pins s σ H D I h
 exact wpAny_Expr_any (thn (he pins s σ H _ I h) fun v s1 ⟨x,H1,I1,r1,q1⟩=>⟨σ,H1,I1,q1⟩) I.quiet hs
def tRet(te:TE):TS:=fun D σ H=>te σ H D.rt
theorem Qvn(he:PE X e te):PS X (.Return (some e) pos) (tRet te):=by
 intro pins s σ H D I h
 exact wpAny_Return_some (thn (he pins s σ H _ I h) fun v s1 ⟨x,H1,I1,r1,q1⟩=>⟨x,σ,H1,I1,r1,q1⟩)
def tIfS(c:TT)(t u:TS):TS:=fun D σ H=>c σ H fun b H1=>if b=true then t D σ H1 else u D σ H1
theorem ps_if{c:Expr}{a b:List Stmt}{tc:TT}(hc:PT X c tc)(ha:PSs X a t)(hb:PSs X b u):PS X (.If c a b pos) (tIfS tc t u):=by
 intro pins s σ H D I h
 refine wpAny_If (thn (hc pins s σ H _ I h) fun d s1 ⟨H1,I1,q1⟩=>?_)
 cases d with
 | true=>exact ha pins s1 σ H1 D I1 q1
 | false=>exact hb pins s1 σ H1 D I1 q1
def QJL:TS:=fun _ _ _=>False
theorem QG8:PS X st QJL:=fun _ _ _ _ _ _ h=>h.elim
end
abbrev TG:=V->St->Hp->(St->Hp->Prop)->Prop
abbrev TGs:=List V->St->Hp->(St->Hp->Prop)->Prop
def PG(X:Cx)(target:Expr)(t:TG):Prop:=
 ∀(pins:List (Addr×Obj))(s:Shared)(σ:St)(H:Hp)(v:V)(u:Value)(Q:St->Hp->Prop),Inv X pins σ H s->RelV v u->t v σ H Q->
  wpAny (model X.prog X.w) X.A (assign target X.env u) (fun _ s'=>∃ σ' H',Inv X pins σ' H' s'/\Q σ' H') X.xe s
def PGs(X:Cx)(ts:List Expr)(t:TGs):Prop:=
 ∀(pins:List (Addr×Obj))(s:Shared)(σ:St)(H:Hp)(vs:List V)(us:List Value)(Q:St->Hp->Prop),Inv X pins σ H s->Vals vs us->t vs σ H Q->
  wpAny (model X.prog X.w) X.A (assignInOrder ((assignEach ts X.env).map (·.2)) us) (fun _ s'=>∃ σ' H',Inv X pins σ' H' s'/\Q σ' H') X.xe s
section
variable{X:Cx}{pos:Pos}
def gName(i:Nat):TG:=fun v σ H Q=>Q (σ.set i (some v)) H
theorem QBP{i:Nat}{x:Str}(hN:X.N.Nodup)(hi:X.N[i]?=some x)(hx:Loc X.env.scope x)(hf:X.fn x=true∨X.env.scope.names.lookup x=some .local:=by first | exact .inl rfl | exact .inr rfl | assumption):PG X (.Name x pos) (gName i):=by
 intro pins s σ H v u Q I r h
 exact wpAny_assign_Name (Qyg I hN hi hx r (fun s' I'=>⟨_,H,I',h⟩) hf)
def gNil:TGs:=fun vs σ H Q=>vs=[]/\Q σ H
def gCons(t:TG)(u:TGs):TGs:=fun vs σ H Q=>∃ v r,vs=v::r/\t v σ H fun σ' H'=>u r σ' H' Q
theorem QIC:PGs X [] gNil:=by
 intro pins s σ H vs us Q I r h
 obtain⟨e,h⟩:=h
 subst e
 cases r
 exact assignInOrder_nil ⟨σ,H,I,h⟩
theorem QG3{e:Expr}{es:List Expr}{t:TG}{u:TGs}(h1:PG X e t)(h2:PGs X es u)
 (hs:(assignEach (e::es) X.env).map (·.2)=assign e X.env::(assignEach es X.env).map (·.2):=by rfl):PGs X (e::es) (gCons t u):=by
 intro pins s σ H vs us Q I r h
 obtain⟨v,vr,e1,h⟩:=h
 subst e1
 cases r with
 | cons r rr=>
  rw[hs]
  refine assignInOrder_cons (thn (h1 pins s σ H _ _ _ I r h) fun _ s1 ⟨σ1,H1,I1,q1⟩=>?_)
  exact h2 pins s1 σ1 H1 _ _ Q I1 rr q1
def gTup(K:W.Frag)(n:Nat)(t:TGs):TG:=fun v σ H Q=>∃ a xs,v=.ref a/\SqT K H a xs/\xs.length=n/\t xs σ H Q
theorem QKN{es:List Expr}{k:Nat}{t:TGs}{n:Nat}(hc:X.calm=true)(h:PGs X es t)
 (hn:(assignEach es X.env).length=n:=by rfl) (hst:(assignEach es X.env).findIdx? (·.1)=none:=by rfl):PG X (.Tuple es k pos) (gTup X.K n t):=by
 intro pins s σ H v u Q I r hw
 obtain⟨a,xs,e1,hq,hl,hw⟩:=hw
 subst e1
 cases r
 obtain⟨its,rv,ht,hz⟩:=I.tuple hq
 refine assign_Tuple_tuple (I.ok.hd hc) ht (by simp[hn, ← hl,rv.length]) hst fun h' hx=>?_
 have I1:Inv X pins σ H { s with heap:=h' }:=I.kept (t':=s.toks) fun b o e=>hx b o (Nat.ne_of_lt (Heap.lt_size e)) e
 exact h pins _ σ H xs _ Q I1 (by simpa using rv) hw
def tAsg(te:TE)(g:TG):TS:=fun D σ H=>te σ H fun x H1=>g x σ H1 D.nx
theorem QJW{tg e:Expr}{te:TE}{g:TG}(he:PE X e te)(hg:PG X tg g)(hs:swapsWithSole [tg] e pos.line X.env=pure false:=by rfl)(hw:swappedStores [tg] e X.env=pure none:=by rfl)
 (h1:(assignEach [tg] X.env).map (·.2)=[assign tg X.env]:=by rfl):PS X (.Assign [tg] e pos) (tAsg te g):=by
 intro pins s σ H D I h
 refine wpAny_Assign_stores (thn (he pins s σ H _ I h) fun v s1 ⟨x,H1,I1,r1,q1⟩=>?_) hs hw
 rw[h1]
 exact thn (hg pins s1 σ H1 x v _ I1 r1 q1) fun _ s2 q=>q
theorem QFf{i:Nat}{x:Str}{e:Expr}{te:TE}{pos':Pos}(hN:X.N.Nodup)(hi:X.N[i]?=some x)(hx:Loc X.env.scope x)(he:PE X e te)(hs:swapsWith e (some (.Name x pos')) pos.line X.env=pure false:=by rfl)(hf:X.fn x=true∨X.env.scope.names.lookup x=some .local:=by first | exact .inl rfl | exact .inr rfl | assumption):
 PS X (.Assign [.Name x pos'] e pos) (tAsg te (gName i)):=by
 intro pins s σ H D I h
 refine wpAny_Assign_Name (thn (he pins s σ H _ I h) fun v s1 ⟨y,H1,I1,r1,q1⟩=>?_) hs
 exact Qyg I1 hN hi hx r1 (fun s2 I2=>⟨_,H1,I2,q1⟩) hf
end
section
variable{X:Cx}{pos:Pos}
def QK3(c:TT)(tb:TS):TS:=fun D σ H=>∃ W:Nat->St->Hp->Prop,(∃ m,W m σ H)/\∀ m σ H,W m σ H->
 c σ H fun b H1=>if b=true then ∃ N:St->Hp->Prop,(∀ σ' H',N σ' H'->∃ m',m'<m/\W m' σ' H')/\tb { D with nx:=N,ct:=N,bk:=D.nx } σ H1 else D.nx σ H1
theorem QHR{c:Expr}{body:List Stmt}{tc:TT}{tb:TS}(hp:PassesOwn (model X.prog X.w) X.A X.env X.xe)(hc:PT X c tc)(hb:PSs X body tb):PS X (.While c body [] pos) (QK3 tc tb):=by
 intro pins s σ H D I h
 obtain⟨W,⟨m0,w0⟩,turn⟩:=h
 refine wpAny_While (codeAny_whileLoop (fun n s'=>∃ σ' H',Inv X pins σ' H' s'/\W n σ' H') ?_ m0 ⟨σ,H,I,w0⟩)
 rintro n s1 ⟨σ1,H1,I1,w1⟩
 refine wpAny_passesOwn hp (thn (hc pins s1 σ1 H1 _ I1 (turn n σ1 H1 w1)) fun b s2 ⟨H2,I2,q2⟩=>?_)
 cases b with
 | true=>
  obtain⟨N,hN,q2⟩:=q2
  rw[if_pos rfl]
  refine wpAny_passesOwn hp (thn (hb pins s2 σ1 H2 _ I2 q2) fun f s3 q3=>?_)
  cases f with
  | next=>
   obtain⟨σ3,H3,I3,n3⟩:=q3
   obtain⟨m',hm,w3⟩:=hN σ3 H3 n3
   exact⟨m',hm,σ3,H3,I3,w3⟩
  | cont=>
   obtain⟨σ3,H3,I3,n3⟩:=q3
   obtain⟨m',hm,w3⟩:=hN σ3 H3 n3
   exact⟨m',hm,σ3,H3,I3,w3⟩
  | brk=>exact q3
  | ret v=>exact q3
 | false=>
  rw[if_neg Bool.false_ne_true]
  exact wpAny_execs_nil ⟨σ1,H2,I2,q2⟩
end
structure It where
 go:Nat->Hp->Prop
 yld:Nat->Hp->V->Hp->Prop
 stop:Nat->Hp->Prop
def FpOk(X:Cx)(pins:List (Addr×Obj))(H:Hp)(b:Addr):Prop:=
 H b=none/\b≠X.env.locals/\b∉X.fs/\(b∈X.ex∨X.s₀.heap.objs.size<=b)/\(∀ x c,X.env.cells.lookup x=some c->c≠b)/\∀ p∈X.pn++pins,p.1≠b
theorem Inv.fpOk{X:Cx}{pins:List (Addr×Obj)}{σ:St}{H H':Hp}{s:Shared}{b:Addr}(I:Inv X pins σ H s)(hb:s.heap.objs.size<=b)(hn:H' b=none):FpOk X pins H' b:=by
 refine⟨hn,Nat.ne_of_gt (Nat.lt_of_lt_of_le I.lt hb),I.nofs hb,.inr (Nat.le_trans I.sz hb),fun x c e z=>?_,fun p hp z=>?_⟩
 ·obtain⟨v,q⟩:=I.cell x c e
  exact absurd (Nat.lt_of_lt_of_le q.lt (by rw[z];exact hb)) (Nat.lt_irrefl _)
 ·exact absurd (Nat.lt_of_lt_of_le (Heap.lt_size (I.pin p hp).1) (by rw[z];exact hb)) (Nat.lt_irrefl _)
structure Turn(P:Program)(w:World)(K:W.Frag)(tg:Expr)(J:It)(fp:List Addr)(it:Addr)(tn:Nat->Heap->Prop):Prop where
 mem:it∈fp
 obj:∀ i h,tn i h->∀ b∈fp,∃ o,h.get? b=some o/\∀ v,o.data≠.cell v
 keep:∀ i h h',tn i h->(∀ b∈fp,∀ o,h.get? b=some o->h'.get? b=some o)->tn i h'
 item:∀(X:Cx),X.prog=P->X.w=w->X.K=K->X.calm=true->∀(i:Nat)(pins:List (Addr×Obj))(s:Shared)(σ:St)(H:Hp)(E:Value->Shared->Prop),Inv X pins σ H s->(∀ b∈fp,FpOk X pins H b)->tn i s.heap->J.go i H->
  wpAny (model P w) X.A (pyNext (.ref it)) (fun r s1=>∃ u,r=some u/\
   wpAny (model P w) X.A (letOwnedTupleGo tg (.ref it) u) (fun _ s2=>∃ x H',Inv X pins σ H' s2/\RelV x u/\J.yld i H x H'/\tn (i+1) s2.heap/\∀ b∈fp,H' b=none) E s1) E s
 done:∀(X:Cx),X.prog=P->X.w=w->X.K=K->X.calm=true->∀(i:Nat)(pins:List (Addr×Obj))(s:Shared)(σ:St)(H:Hp)(E:Value->Shared->Prop),Inv X pins σ H s->(∀ b∈fp,FpOk X pins H b)->tn i s.heap->J.stop i H->
  wpAny (model P w) X.A (pyNext (.ref it)) (fun r s1=>r=none/\Inv X pins σ H s1) E s
 self:∀(A:Around)(i:Nat)(s:Shared)(Q:Value->Shared->Prop)(E:Value->Shared->Prop),tn i s.heap->Q (.ref it) s->wpAny (model P w) A (pyIter (.ref it)) Q E s
abbrev TI:=St->Hp->(It->Hp->Prop)->Prop
def PIE(X:Cx)(pins:List (Addr×Obj))(σ:St)(tg:Expr)(R:It->Hp->Prop)(itv:Value)(s2:Shared):Prop:=
 ∃(it:Addr)(fp:List Addr)(tn:Nat->Heap->Prop)(J:It)(H':Hp),itv=.ref it/\Inv X pins σ H' s2/\Turn X.prog X.w X.K tg J fp it tn/\tn 0 s2.heap/\(∀ b∈fp,FpOk X pins H' b)/\R J H'
def PI(X:Cx)(tg iter:Expr)(wi:TI):Prop:=
 ∀(pins:List (Addr×Obj))(s:Shared)(σ:St)(H:Hp)(R:It->Hp->Prop),Inv X pins σ H s->wi σ H R->
  wpAny (model X.prog X.w) X.A (eval iter X.env) (fun v s1=>wpAny (model X.prog X.w) X.A (pyIter v) (PIE X pins σ tg R) X.xe s1) X.xe s
theorem go_of{M:Model}{A:Around}{E:Value->Shared->Prop}{s:Shared}{tg:Expr}{it:Addr}{u:Value}{o:Obj}{n:String}{vs:Array Value}{Q:Unit->Shared->Prop}(ho:s.heap.get? it=some o)(hc:o.cls=.type n)(hd:o.data=.fields vs)
 (hn:["enumerate","zip","dict_itemiterator","dict_reverseitemiterator","odict_iterator","itertools.zip_longest","itertools.pairwise"].contains n=false) (hQ:Q () s):wpAny M A (letOwnedTupleGo tg (.ref it) u) Q E s:=by
 unfold letOwnedTupleGo
 cases tg<;>first
  | exact wpAny_pure hQ
  | (cases u<;>first
   | exact wpAny_pure hQ
   | (refine wpAny_bind (wpAny_load ho ?_)
      rw[hc,hd]
      show wpAny M A (if (["enumerate","zip","dict_itemiterator","dict_reverseitemiterator","odict_iterator","itertools.zip_longest","itertools.pairwise"].contains n&&vs[0]? == some (rawInt _))=true then _ else _) Q E s
      rw[if_neg (by intro h;rw[hn,Bool.false_and]at h;cases h)]
      exact wpAny_pure hQ))
def Itl(K:W.Frag)(a:Addr):It:=
 ⟨fun i H=>∃ xs x,SqL K H a xs/\xs[i]?=some x,fun i H x H'=>H'=H/\∀ xs,SqL K H a xs->xs[i]?=some x,fun i H=>∃ xs,SqL K H a xs/\xs.length<=i⟩
def Itr(lo:Int)(n:Nat):It:=⟨fun i _=>i<n,fun i H x H'=>H'=H/\x=.int (lo+i),fun i _=>n<=i⟩
theorem QGy{P:Program}{w:World}{K:W.Frag}{tg:Expr}(a it:Addr):Turn P w K tg (Itl K a) [it] it (fun i h=>h.IsListIter it a i) where
 mem:=by simp
 obj:=fun i h st b hb=>by
  have e:b=it:=by simpa using hb
  subst e
  obtain⟨o,e,c,d⟩:=st
  exact⟨o,e,fun v z=>by rw[d]at z;cases z⟩
 keep:=fun i h h' st k=>st.at fun o e=>k it (by simp) o e
 item:=by
  intro X hP hw hK hc i pins s σ H E I hf st hg
  subst hP hw hK
  obtain⟨xs,x,hq,hx⟩:=hg
  obtain⟨its,rv,p,hz⟩:=I.list hq
  obtain⟨u,hu,ru⟩:=rv.get hx
  obtain⟨f0,f1,f2,f3,f4,f5⟩:=hf it (by simp)
  refine wpAny_pyNext_list_item st p.isList (x:=u) (by simpa using hu) fun h' st' sb=>?_
  have I1:Inv X pins σ H { s with heap:=h' }:=I.turned (t':=s.toks) (fun b o hb e=>(sb.2 b hb).trans e) f0 f1 f3 f4 f5
  obtain⟨o,e,c,d⟩:=id st'
  exact⟨u,rfl,go_of (s:={ s with heap:=h' }) e c d (by decide) ⟨x,H,I1,ru,⟨rfl,fun ys hy=>by rw[I.list_inj hy hq];exact hx⟩,st',fun b hb=>(hf b hb).1⟩⟩
 done:=by
  intro X hP hw hK hc i pins s σ H E I hf st hg
  subst hP hw hK
  obtain⟨xs,hq,hx⟩:=hg
  obtain⟨its,rv,p,hz⟩:=I.list hq
  obtain⟨f0,f1,f2,f3,f4,f5⟩:=hf it (by simp)
  have hl:=rv.length
  exact wpAny_pyNext_list_end (I.ok.hd hc) st p.isList (by simp;omega) fun h' eb=>⟨rfl,I.turned (t':=s.toks) (fun b o hb e=>eb b o hb e) f0 f1 f3 f4 f5⟩
 self:=fun _ _ _ _ _ st h=>wpAny_pyIter_listiter st h
theorem QEy{P:Program}{w:World}{K:W.Frag}{tg:Expr}(it:Addr)(lo:Int)(n:Nat):Turn P w K tg (Itr lo n) [it] it (fun i h=>IsRangeIter h it (lo+(i:Nat) * 1) ((n:Int) - (i:Nat)) 1) where
 mem:=by simp
 obj:=fun i h st b hb=>by
  have e:b=it:=by simpa using hb
  subst e
  exact⟨_,st,fun v z=>by
   have z':Data.fields _=Data.cell v:=z
   cases z'⟩
 keep:=fun i h h' st k=>k it (by simp) _ st
 item:=by
  intro X hP hw hK hc i pins s σ H E I hf st hg
  subst hP hw hK
  obtain⟨f0,f1,f2,f3,f4,f5⟩:=hf it (by simp)
  have W:=Walks.range (prog:=X.prog) (w:=X.w) (I.ok.hd hc) it lo 1 n
  refine W.item i s _ _ hg st fun v h' tk hv st' kk=>?_
  obtain⟨t,rfl⟩:=hv
  have I1:Inv X pins σ H { s with heap:=h',toks:=tk }:=I.turned (fun b o hb e=>kk b o (by simpa using hb) e) f0 f1 f3 f4 f5
  refine⟨_,rfl,go_of (s:={ s with heap:=h',toks:=tk }) (n:="range_iterator") st' rfl rfl (by decide) ⟨.int (lo+i),H,I1,⟨t,?_⟩,⟨rfl,rfl⟩,st',fun b hb=>(hf b hb).1⟩⟩
  rw[Int.mul_one]
 done:=by
  intro X hP hw hK hc i pins s σ H E I hf st hg
  subst hP hw hK
  obtain⟨f0,f1,f2,f3,f4,f5⟩:=hf it (by simp)
  exact wpAny_pyNext_range_end (I.ok.hd hc) st (by have:n<=i:=hg;omega) fun h' eb=>⟨rfl,I.turned (t':=s.toks) (fun b o hb e=>eb b o hb e) f0 f1 f3 f4 f5⟩
 self:=fun _ _ _ _ _ st h=>wpAny_pyIter_rangeiter st h
end L2
namespace L2
open PySem PySem.Spec PyProof.Rows
section
variable{X:Cx}{tg:Expr}
def iList(K:W.Frag)(tl:TE):TI:=fun σ H R=>tl σ H fun x H1=>∃ a,x=.ref a/\(∃ xs,SqL K H1 a xs)/\R (Itl K a) H1
theorem QJp{l:Expr}{tl:TE}(hl:PE X l tl):PI X tg l (iList X.K tl):=by
 intro pins s σ H R I h
 refine thn (hl pins s σ H _ I h) fun v s1 ⟨x,H1,I1,r1,q1⟩=>?_
 obtain⟨a,e,⟨xs,hq⟩,q⟩:=q1
 subst e
 cases r1
 obtain⟨its,rv,p,hz⟩:=I1.list hq
 refine wpAny_pyIter_list p.isList ?_
 refine⟨s1.heap.objs.size,[s1.heap.objs.size],_,_,H1,rfl,I1.kept (t':=s1.toks) fun b o e=>Heap.get?_push_of_some _ e,QGy a _,⟨_,Heap.get?_push_size _ rfl,rfl,rfl⟩,fun b hb=>?_,q⟩
 have e:b=s1.heap.objs.size:=by simpa using hb
 subst e
 exact I1.fpOk (Nat.le_refl _) (I1.hok.fresh (Nat.le_refl _))
theorem QG0{pins:List (Addr×Obj)}{σ:St}{H:Hp}{s:Shared}{R:It->Hp->Prop}{E:Value->Shared->Prop}{lo hi:Int}{t u v:Tok}{tk:Nat}(I:Inv X pins σ H s)(h1 : -(2 ^ 62)<=lo)(h2:lo<2 ^ 62)(h3 : -(2 ^ 62)<=hi)(h4:hi<2 ^ 62)
 (q:R (Itr lo (hi - lo).toNat) H):wpAny (model X.prog X.w) X.A (pyIter (.ref s.heap.objs.size)) (PIE X pins σ tg R) E { s with heap:=s.heap.push { cls:=.type "range",data:=.fields #[.int lo t,.int hi u,.int 1 v] },toks:=tk }:=by
 refine wpAny_pyIter_range (IsRange.new ..) (small_one h1 h2 h3 h4) ?_
 have I1:Inv X pins σ H { s with heap:=s.heap.push { cls:=.type "range",data:=.fields #[.int lo t,.int hi u,.int 1 v] },toks:=tk }:=I.kept fun b o e=>Heap.get?_push_of_some _ e
 refine⟨(s.heap.push { cls:=.type "range",data:=.fields #[.int lo t,.int hi u,.int 1 v] }).objs.size,[(s.heap.push { cls:=.type "range",data:=.fields #[.int lo t,.int hi u,.int 1 v] }).objs.size],_,_,H,rfl,
  I1.kept (t':=tk) fun b o e=>Heap.get?_push_of_some _ e,QEy _ lo (hi - lo).toNat,?_,fun b hb=>?_,q⟩
 ·have e1:lo+((0:Nat):Int) * 1=lo:=by simp
  have e2:(((hi - lo).toNat:Nat):Int) - ((0:Nat):Int)=Builtin.Range.rangeSize lo hi 1:=by rw[rangeSize_one];split<;>omega
  show IsRangeIter _ _ (lo+((0:Nat):Int) * 1) ((((hi - lo).toNat:Nat):Int) - ((0:Nat):Int)) 1
  rw[e1,e2]
  exact Heap.get?_push_size _ rfl
 ·have e:b=(s.heap.push { cls:=.type "range",data:=.fields #[.int lo t,.int hi u,.int 1 v] }).objs.size:=by simpa using hb
  subst e
  exact I1.fpOk (Nat.le_refl _) (I1.hok.fresh (Nat.le_refl _))
def iRng1(ta:TA):TI:=fun σ H R=>ta σ H fun vs H1=>∃ j:Int,vs=[.int j] /\ -(2 ^ 62)<=j/\j<2 ^ 62/\R (Itr 0 j.toNat) H1
theorem QFF{a:Expr}{ta:TA}{p pos:Pos}(hg:Gl X "range")(hm:X.mg "range"=none)(ha:PA X [a] ta)(hs:starEach [a] X.env=[(false,eval a X.env)]:=by rfl):PI X tg (.Call (.Name "range" p) [a] [] pos) (iRng1 ta):=by
 intro pins s σ H R I h
 refine Call_ (Qfm I hg hm boot_range (PyProof.Rows.callWith_type1 (thn (ha pos pins s σ H _ I h) fun us s1 ⟨vs,H1,I1,r1,q1⟩=>?_) hs rfl))
 obtain⟨j,e,q1,q2,q⟩:=q1
 subst e
 cases r1 with
 | cons r rr=>
  cases rr
  obtain⟨t,rfl⟩:=r
  exact call_range_1 (QG0 I1 (by omega) (by omega) q1 q2 (by simpa using q))
def tFor(wi:TI)(g:TG)(tb:TS):TS:=fun D σ H=>wi σ H fun J H1=>∃ W:Nat->Nat->St->Hp->Prop,(∃ m,W 0 m σ H1)/\∀ i m σ H,W i m σ H->
 (J.stop i H/\D.nx σ H)∨(J.go i H/\∃ N:St->Hp->Prop,(∀ σ' H',N σ' H'->∃ m',m'<m/\W (i+1) m' σ' H')/\∀ x H',J.yld i H x H'->g x σ H' fun σ2 H2=>tb { D with nx:=N,ct:=N,bk:=D.nx } σ2 H2)
def Qj1(fp:List Addr)(h:Heap):List (Addr×Obj):=fp.filterMap fun b=>(h.get? b).map fun o=>(b,o)
theorem QfR{fp:List Addr}{h:Heap}{b:Addr}{o:Obj}(hb:b∈fp)(e:h.get? b=some o):(b,o)∈Qj1 fp h:=List.mem_filterMap.mpr ⟨b,hb,by rw[e];rfl⟩
theorem QFt{fp:List Addr}{h:Heap}{p:Addr×Obj}(hp:p∈Qj1 fp h):p.1∈fp/\h.get? p.1=some p.2:=by
 obtain⟨b,hb,e⟩:=List.mem_filterMap.mp hp
 cases q:h.get? b with
 | none=>rw[q]at e;cases e
 | some o=>
  rw[q]at e
  have e':(b,o)=p:=Option.some.inj e
  subst e'
  exact⟨hb,q⟩
theorem Inv.pinned{pins:List (Addr×Obj)}{σ:St}{H:Hp}{s:Shared}{fp:List Addr}(I:Inv X pins σ H s)(hf:∀ b∈fp,FpOk X pins H b)(ho:∀ b∈fp,∃ o,s.heap.get? b=some o/\∀ v,o.data≠.cell v):Inv X (pins++Qj1 fp s.heap) σ H s:=
 I.pins_of fun p hp=>(List.mem_append.mp hp).elim (fun z=>I.pin p (List.mem_append_right _ z)) fun z=>by
  obtain⟨hb,e⟩:=QFt z
  obtain⟨f0,f1,f2,_⟩:=hf p.1 hb
  obtain⟨o,e',d⟩:=ho p.1 hb
  rw[e]at e';cases e'
  exact⟨e,f0,f1,f2,d⟩
theorem Inv.unpinned{pins pl:List (Addr×Obj)}{σ:St}{H:Hp}{s:Shared}(I:Inv X (pins++pl) σ H s):Inv X pins σ H s:=I.pins_of fun p hp=>I.pin p (List.mem_append_right _ (List.mem_append_left _ hp))
theorem QKG{iter:Expr}{body:List Stmt}{wi:TI}{g:TG}{tb:TS}{pos:Pos}(hp:PassesOwn (model X.prog X.w) X.A X.env X.xe)(hc:X.calm=true)(hi:PI X tg iter wi)(hg:PG X tg g)(hb:PSs X body tb)
 (hs:∀ x,foldedSetIterable iter X.env x=pure x:=by intro _;rfl):PS X (.For tg iter body [] pos) (tFor wi g tb):=by
 intro pins s σ H D I h
 refine wpAny_For (thn (hi pins s σ H _ I h) fun v s1 h1=>thn h1 fun itv s2 h2=>?_) hs
 obtain⟨it,fp,tn,J,H2,e,I2,T,st2,f2,W,⟨m0,w0⟩,turn⟩:=h2
 subst e
 -- what stays true of the iterator's objects through the loop
 have stat:∀{H':Hp},(∀ b∈fp,H' b=none)->∀ b∈fp,FpOk X pins H' b:=fun hn b hb=>⟨hn b hb,(f2 b hb).2⟩
 refine codeAny_forLoop_any (fun n s'=>∃ i σ' H',Inv X pins σ' H' s'/\tn i s'.heap/\(∀ b∈fp,H' b=none)/\W i n σ' H') ?_ m0 ⟨0,σ,H2,I2,st2,fun b hb=>(f2 b hb).1,w0⟩
 rintro n s3 ⟨i,σ3,H3,I3,st3,fr3,w3⟩
 rcases turn i n σ3 H3 w3 with⟨stop,qn⟩ | ⟨go,N,hN,step⟩
 ·refine wpAny_passesOwn hp (thn (T.done X rfl rfl rfl hc i pins s3 σ3 H3 X.xe I3 (stat fr3) st3 stop) fun r s4 ⟨hr,I4⟩=>?_)
  subst hr
  exact wpAny_execs_nil ⟨σ3,H3,I4,qn⟩
 ·refine wpAny_passesOwn hp (thn (T.item X rfl rfl rfl hc i pins s3 σ3 H3 X.xe I3 (stat fr3) st3 go) fun r s4 ⟨u,hr,h4⟩=>?_)
  subst hr
  refine wpAny_passesOwn hp (thn h4 fun _ s5 ⟨x,H5,I5,r5,y5,st5,fr5⟩=>?_)
  have I5':=I5.pinned (stat fr5) (T.obj _ _ st5)
  refine wpAny_passesOwn hp (thn (hg _ s5 σ3 H5 x u _ I5' r5 (step x H5 y5)) fun _ s6 ⟨σ6,H6,I6,q6⟩=>?_)
  refine wpAny_passesOwn hp (thn (hb _ s6 σ6 H6 _ I6 q6) fun f s7 q7=>?_)
  have again:∀{σ7:St}{H7:Hp},Inv X (pins++Qj1 fp s5.heap) σ7 H7 s7->N σ7 H7->∃ m,m<n/\∃ i σ' H',Inv X pins σ' H' s7/\tn i s7.heap/\(∀ b∈fp,H' b=none)/\W i m σ' H':=fun {σ7 H7} I7 n7=>by
   obtain⟨m',hm,w7⟩:=hN σ7 H7 n7
   refine⟨m',hm,i+1,σ7,H7,I7.unpinned,T.keep _ _ _ st5 fun b hb o e=>(I7.pin (b,o) (List.mem_append_right _ (List.mem_append_right _ (QfR hb e)))).1,fun b hb=>?_,w7⟩
   obtain⟨o,e,d⟩:=T.obj _ _ st5 b hb
   exact(I7.pin (b,o) (List.mem_append_right _ (List.mem_append_right _ (QfR hb e)))).2.1
  cases f with
  | next=>obtain⟨σ7,H7,I7,n7⟩:=q7;exact again I7 n7
  | cont=>obtain⟨σ7,H7,I7,n7⟩:=q7;exact again I7 n7
  | brk=>obtain⟨σ7,H7,I7,q7⟩:=q7;exact⟨σ7,H7,I7.unpinned,q7⟩
  | ret v=>obtain⟨x7,σ7,H7,I7,r7,q7⟩:=q7;exact⟨x7,σ7,H7,I7.unpinned,r7,q7⟩
end
end L2
namespace L2
open PySem PySem.Spec PyProof.Rows
abbrev R2:=V->V->Hp->VK->Prop
def OpR(X:Cx)(f:Value->Value->Sem Value)(r:R2):Prop:=
 ∀(pins:List (Addr×Obj))(s:Shared)(σ:St)(H:Hp)(x y:V)(v u:Value)(Q:VK),Inv X pins σ H s->RelV x v->RelV y u->r x y H Q->
  wpAny (model X.prog X.w) X.A (f v u) (EP X pins σ Q) X.xe s
def UnR(X:Cx)(f:Value->Sem Value)(r:V->Hp->VK->Prop):Prop:=
 ∀(pins:List (Addr×Obj))(s:Shared)(σ:St)(H:Hp)(x:V)(v:Value)(Q:VK),Inv X pins σ H s->RelV x v->r x H Q->
  wpAny (model X.prog X.w) X.A (f v) (EP X pins σ Q) X.xe s
def CallR(X:Cx)(f:Value)(r:List V->Hp->VK->Prop):Prop:=
 ∀(pins:List (Addr×Obj))(s:Shared)(σ:St)(H:Hp)(xs:List V)(us:List Value)(Q:VK),Inv X pins σ H s->Vals xs us->r xs H Q->
  wpAny (model X.prog X.w) X.A (call f us) (EP X pins σ Q) X.xe s
def tOp(r:R2)(ta tb:TE):TE:=fun σ H Q=>ta σ H fun x H1=>tb σ H1 fun y H2=>r x y H2 Q
def tUn(r:V->Hp->VK->Prop)(ta:TE):TE:=fun σ H Q=>ta σ H fun x H1=>r x H1 Q
def rI(C:Int->Int->Prop)(g:Int->Int->V):R2:=fun x y H Q=>∃ i j,x=.int i/\y=.int j/\C i j/\Q (g i j) H
def rI0(g:Int->Int->V):R2:=fun x y H Q=>∃ i j,x=.int i/\y=.int j/\Q (g i j) H
def rU(g:Int->V):V->Hp->VK->Prop:=fun x H Q=>∃ i,x=.int i/\Q (g i) H
section
variable{X:Cx}{a b c:Expr}{ta tb tc:TE}{pos:Pos}
theorem binT(ha:PE X a ta)(hb:PE X b tb){pins:List (Addr×Obj)}{s:Shared}{σ:St}{H:Hp}{R:V->V->Hp->Prop}(I:Inv X pins σ H s)
 (h:ta σ H fun x H1=>tb σ H1 fun y H2=>R x y H2) {Q:Value->Shared->Prop} {f:Value->Value->Sem Value}
 (hf:∀ v u s2 x y H2,Inv X pins σ H2 s2->RelV x v->RelV y u->R x y H2->wpAny (model X.prog X.w) X.A (f v u) Q X.xe s2):
 wpAny (model X.prog X.w) X.A (eval a X.env) (fun v s₁=>wpAny (model X.prog X.w) X.A (eval b X.env) (fun u s₂ => wpAny (model X.prog X.w) X.A (f v u) Q X.xe s₂) X.xe s₁) X.xe s:=by
 refine thn (ha pins s σ H _ I h) fun v s1 ⟨x,H1,I1,r1,q1⟩=>?_
 refine thn (hb pins s1 σ H1 _ I1 q1) fun u s2 ⟨y,H2,I2,r2,q2⟩=>?_
 exact hf v u s2 x y H2 I2 r1 r2 q2
theorem pe_op{op:Operator}{r:R2}(ho:OpR X (binaryOp op) r)(ha:PE X a ta)(hb:PE X b tb):PE X (.BinOp a op b pos) (tOp r ta tb):=by
 intro pins s σ H Q I h
 exact wpAny_BinOp (binT ha hb I h fun v u s2 x y H2 I2 rx ry q=>ho pins s2 σ H2 x y v u Q I2 rx ry q)
theorem pe_un{op:UnaryOp}{r:V->Hp->VK->Prop}(ho:UnR X (unaryOp op) r)(ha:PE X a ta):PE X (.UnaryOp op a pos) (tUn r ta):=by
 intro pins s σ H Q I h
 exact UnaryOp_ (thn (ha pins s σ H _ I h) fun v s1 ⟨x,H1,I1,r1,q1⟩=>ho pins s1 σ H1 x v Q I1 r1 q1)
theorem opI{f:Value->Value->Sem Value}{C:Int->Int->Prop}{g:Int->Int->Int}
 (rule:∀(i j:Int)(t u:Tok)(s:Shared)(Q:Value->Shared->Prop)(E:Value->Shared->Prop),C i j->Q (.int (g i j) s.toks) { s with toks:=s.toks+1 }->wpAny (model X.prog X.w) X.A (f (.int i t) (.int j u)) Q E s):
 OpR X f (rI C fun i j=>.int (g i j)):=by
 intro pins s σ H x y v u Q I rx ry h
 obtain⟨i,j,rfl,rfl,hc,q⟩:=h
 obtain⟨t,rfl⟩:=rx
 obtain⟨t',rfl⟩:=ry
 exact rule i j t t' s _ _ hc ⟨.int (g i j),H,I.tok _,⟨_,rfl⟩,q⟩
theorem opI0{f:Value->Value->Sem Value}{g:Int->Int->Int}
 (rule:∀(i j:Int)(t u:Tok)(s:Shared)(Q:Value->Shared->Prop)(E:Value->Shared->Prop),Q (.int (g i j) s.toks) { s with toks:=s.toks+1 }->wpAny (model X.prog X.w) X.A (f (.int i t) (.int j u)) Q E s):
 OpR X f (rI0 fun i j=>.int (g i j)):=by
 intro pins s σ H x y v u Q I rx ry h
 obtain⟨i,j,rfl,rfl,q⟩:=h
 obtain⟨t,rfl⟩:=rx
 obtain⟨t',rfl⟩:=ry
 exact rule i j t t' s _ _ ⟨.int (g i j),H,I.tok _,⟨_,rfl⟩,q⟩
theorem opB0{f:Value->Value->Sem Value}{g:Int->Int->Bool}
 (rule:∀(i j:Int)(t u:Tok)(s:Shared)(Q:Value->Shared->Prop)(E:Value->Shared->Prop),Q (.bool (g i j)) s->wpAny (model X.prog X.w) X.A (f (.int i t) (.int j u)) Q E s):
 OpR X f (rI0 fun i j=>.bl (g i j)):=by
 intro pins s σ H x y v u Q I rx ry h
 obtain⟨i,j,rfl,rfl,q⟩:=h
 obtain⟨t,rfl⟩:=rx
 obtain⟨t',rfl⟩:=ry
 exact rule i j t t' s _ _ ⟨.bl (g i j),H,I,rfl,q⟩
def CPow(i j:Int):Prop:=0<=j/\j<=1000000/\i.natAbs<2 ^ 64
def CMul(i j:Int):Prop:=(-(2 ^ 64)<i/\i<2 ^ 64)∨(-(2 ^ 64)<j/\j<2 ^ 64)
theorem CMul.ok{i j:Int}(h:CMul i j):IntMulOk i j:=by
 rcases h with⟨h1,h2⟩ | ⟨h1,h2⟩
 ·exact .of_left (intBits_le_64 h1 h2)
 ·exact .of_right (intBits_le_64 h1 h2)
theorem QJK:OpR X (binaryOp .Add) (rI0 fun i j=>.int (i+j)):=opI0 fun _ _ _ _ _ _ _ q=>add_int q
theorem QKq:OpR X (binaryOp .Sub) (rI0 fun i j=>.int (i - j)):=opI0 fun _ _ _ _ _ _ _ q=>sub_int q
theorem QIZ:OpR X (binaryOp .Mod) (rI (fun _ j=>j≠0) fun i j=>.int (i.fmod j)):=opI fun _ _ _ _ _ _ _ hc q=>mod_int' hc q
theorem QKB:OpR X (binaryOp .Pow) (rI CPow fun i j=>.int (i ^ j.toNat)):=opI fun _ _ _ _ _ _ _ hc q=>pow_int_small hc.1 hc.2.1 hc.2.2 q
theorem unI{f:Value->Sem Value}{g:Int->Int}
 (rule:∀(i:Int)(t:Tok)(s:Shared)(Q:Value->Shared->Prop)(E:Value->Shared->Prop),Q (.int (g i) s.toks) { s with toks:=s.toks+1 }->wpAny (model X.prog X.w) X.A (f (.int i t)) Q E s):
 UnR X f (rU fun i=>.int (g i)):=by
 intro pins s σ H x v Q I rx h
 obtain⟨i,rfl,q⟩:=h
 obtain⟨t,rfl⟩:=rx
 exact rule i t s _ _ ⟨.int (g i),H,I.tok _,⟨_,rfl⟩,q⟩
theorem QJQ:UnR X (unaryOp .USub) (rU fun i=>.int (-i)):=unI fun _ _ _ _ _ q=>neg_int q
end
def scal:V->V->Bool
 | .non,.non=>true | .non,.int _=>true | .int _,.non=>true | .non,.bl _=>true | .bl _,.non=>true | .non,.str _=>true | .str _,.non=>true
 | .int _,.int _=>true | .bl _,.bl _=>true | .str _,.str _=>true | .byt _,.byt _=>true
 | .int _,.str _=>true | .str _,.int _=>true | .bl _,.str _=>true | .str _,.bl _=>true
 | _,_=>false
section
variable{X:Cx}{a b c:Expr}{ta tb tc:TE}{pos:Pos}
theorem QJX{pins:List (Addr×Obj)}{σ:St}{H:Hp}{s:Shared}{Q:VK}{k k':Bool}(I:Inv X pins σ H s)(q:Q (.bl k) H)(e:k=k'):EP X pins σ Q (.bool k') s:=by
 subst e
 exact⟨.bl k,H,I,rfl,q⟩
theorem op_lt:OpR X (compareOp .Lt) (rI0 fun i j=>.bl (decide (i<j))):=opB0 fun _ _ _ _ _ _ _ q=>lt_int q
theorem op_le:OpR X (compareOp .LtE) (rI0 fun i j=>.bl (decide (i<=j))):=opB0 fun _ _ _ _ _ _ _ q=>le_int q
theorem op_gt:OpR X (compareOp .Gt) (rI0 fun i j=>.bl (decide (j<i))):=opB0 fun _ _ _ _ _ _ _ q=>gt_int q
theorem op_ge:OpR X (compareOp .GtE) (rI0 fun i j=>.bl (decide (j<=i))):=opB0 fun _ _ _ _ _ _ _ q=>ge_int q
theorem QGT:OpR X (compareOp .In) (fun x y H Q=>∃ i j,x=.str i/\y=.str j/\Q (.bl (!(Builtin.Str.occurrences j i 0 j.length 1).isEmpty)) H):=by
 intro pins s σ H x y v u Q I rx ry h
 obtain⟨i,j,rfl,rfl,q⟩:=h
 obtain⟨t,rfl⟩:=rx
 obtain⟨t',rfl⟩:=ry
 exact in_str (QJX I q rfl)
theorem OpR.or{f:Value->Value->Sem Value}{r r':R2}(h:OpR X f r)(h':OpR X f r'):OpR X f (fun x y H Q=>r x y H Q∨r' x y H Q):=by
 intro pins s σ H x y v u Q I rx ry q
 rcases q with q | q
 ·exact h pins s σ H x y v u Q I rx ry q
 ·exact h' pins s σ H x y v u Q I rx ry q
theorem Qgu(b:Expr){op:CmpOp}(h:op≠.In:=by decide)(h2:op≠.NotIn:=by decide):behindInMarks op b=false:=by
 have e1:(op == CmpOp.In)=false:=by cases op<;>first | rfl | exact absurd rfl h
 have e2:(op == CmpOp.NotIn)=false:=by cases op<;>first | rfl | exact absurd rfl h2
 cases b<;>simp[behindInMarks,e1,e2]
theorem QJE{op:CmpOp}{r:R2}(ho:OpR X (compareOp op) r)(ha:PE X a ta)(hb:PE X b tb)(hm:behindInMarks op b=false):PE X (.Compare a [op] [b] pos) (tOp r ta tb):=by
 intro pins s σ H Q I h
 exact wpAny_Compare1 (binT ha hb I h fun v u s2 x y H2 I2 rx ry q=>ho pins s2 σ H2 x y v u Q I2 rx ry q) hm
def tTest(t:TE):TT:=fun σ H Q=>t σ H fun x H'=>∃ k,x=.bl k/\Q k H'
theorem QIz{op:CmpOp}{r:R2}(ho:OpR X (compareOp op) r)(ha:PE X a ta)(hb:PE X b tb)(hm:behindInMarks op b=false):PT X (.Compare a [op] [b] pos) (tTest (tOp r ta tb)):=by
 intro pins s σ H Q I h
 refine wpAny_isTrue_Compare1 (thn (ha pins s σ H _ I h) fun v s1 ⟨x,H1,I1,r1,q1⟩=>thn (hb pins s1 σ H1 _ I1 q1) fun u s2 ⟨y,H2,I2,r2,q2⟩=>
  thn (ho pins s2 σ H2 x y v u _ I2 r1 r2 q2) fun c s3 ⟨z,H3,I3,r3,k,e,q3⟩=>?_) hm
 subst e
 cases r3
 exact wpAny_truthy_bool ⟨H3,I3,q3⟩
def Qu5(r r':R2)(ta tb tc:TE):TE:=fun σ H Q=>ta σ H fun x H1=>tb σ H1 fun y H2=>r x y H2 fun z H3=>∃ k,z=.bl k/\
 (if k=true then tc σ H3 fun w' H4=>r' y w' H4 Q else Q (.bl false) H3)
theorem QH0{op op':CmpOp}{r r':R2}(ho:OpR X (compareOp op) r)(ho':OpR X (compareOp op') r')(ha:PE X a ta)(hb:PE X b tb)(hc:PE X c tc)
 (hm:lastMarks [op,op'] [b,c]=false:=by with_unfolding_all rfl):PE X (.Compare a [op,op'] [b,c] pos) (Qu5 r r' ta tb tc):=by
 intro pins s σ H Q I h
 refine Compare_chain (thn (ha pins s σ H _ I h) fun v s1 ⟨x,H1,I1,r1,q1⟩=>chain_link (thn (hb pins s1 σ H1 _ I1 q1) fun u s2 ⟨y,H2,I2,r2,q2⟩=>
  thn (ho pins s2 σ H2 x y v u _ I2 r1 r2 q2) fun d s3 ⟨z,H3,I3,r3,k,e,q3⟩=>?_)) hm
 subst e
 cases r3
 refine wpAny_truthy_bool ?_
 cases k with
 | false=>exact ite_ff ⟨.bl false,H3,I3,rfl,q3⟩
 | true=>exact ite_tt (chain_last (thn (hc pins s3 σ H3 _ I3 q3) fun w' s4 ⟨z',H4,I4,r4,q4⟩=>ho' pins s4 σ H4 y z' u w' Q I4 r2 r4 q4))
theorem QG9{op op':CmpOp}{r r':R2}(ho:OpR X (compareOp op) r)(ho':OpR X (compareOp op') r')(ha:PE X a ta)(hb:PE X b tb)(hc:PE X c tc)
 (hm:lastMarks [op,op'] [b,c]=false:=by with_unfolding_all rfl):PT X (.Compare a [op,op'] [b,c] pos) (tTest (Qu5 r r' ta tb tc)):=by
 intro pins s σ H Q I h
 refine isTrue_chain (thn (ha pins s σ H _ I h) fun v s1 ⟨x,H1,I1,r1,q1⟩=>test_link (thn (hb pins s1 σ H1 _ I1 q1) fun u s2 ⟨y,H2,I2,r2,q2⟩=>
  thn (ho pins s2 σ H2 x y v u _ I2 r1 r2 q2) fun d s3 ⟨z,H3,I3,r3,k,e,q3⟩=>?_)) hm
 subst e
 cases r3
 refine wpAny_truthy_bool ?_
 cases k with
 | false=>
  obtain⟨k',e',q'⟩:=q3
  cases e'
  exact ite_ff ⟨H3,I3,q'⟩
 | true=>
  refine ite_tt (test_last (thn (hc pins s3 σ H3 _ I3 q3) fun w' s4 ⟨z',H4,I4,r4,q4⟩=>thn (ho' pins s4 σ H4 y z' u w' _ I4 r2 r4 q4) fun d' s5 ⟨z2,H5,I5,r5,k2,e2,q5⟩=>?_))
  subst e2
  cases r5
  exact wpAny_truthy_bool ⟨H5,I5,q5⟩
theorem Qj7:(sizeLine:Nat)<2 ^ 63:=by rw[sizeLine_eq];decide
theorem QC1:OpR X (binaryOp .Add) (fun x y H Q=>∃ i j,x=.str i/\y=.str j/\i.length+j.length<=sizeLine/\Q (.str (i++j)) H):=by
 intro pins s σ H x y v u Q I rx ry h
 obtain⟨i,j,rfl,rfl,hz,q⟩:=h
 obtain⟨t,rfl⟩:=rx
 obtain⟨t',rfl⟩:=ry
 exact add_str (fun t' tk=>⟨.str (i++j),H,I.tok _,⟨_,rfl⟩,q⟩) hz
theorem vals1{x:V}{us:List Value}(r:Vals [x] us):∃ u,us=[u]/\RelV x u:=by
 cases r with
 | cons r1 r2=>cases r2;exact⟨_,rfl,r1⟩
theorem vals2{x y:V}{us:List Value}(r:Vals [x,y] us):∃ u w',us=[u,w']/\RelV x u/\RelV y w':=by
 cases r with
 | cons r1 r2=>
  cases r2 with
  | cons r3 r4=>cases r4;exact⟨_,_,rfl,r1,r3⟩
theorem QFq:CallR X (.type "int") (fun xs H Q=>(∃ i,xs=[.int i]/\Q (.int i) H)∨∃ k,xs=[.bl k]/\Q (.int (if k then 1 else 0)) H):=by
 intro pins s σ H xs us Q I r h
 rcases h with⟨i,rfl,q⟩ | ⟨k,rfl,q⟩
 ·obtain⟨u,rfl,t,rfl⟩:=vals1 r
  exact call_int_int ⟨.int i,H,I,⟨_,rfl⟩,q⟩
 ·obtain⟨u,rfl,r1⟩:=vals1 r
  cases r1
  exact call_int_bool ⟨.int (if k then 1 else 0),H,I.tok _,⟨_,rfl⟩,q⟩
theorem Qwk:CallR X (.type "str") (fun xs H Q=>∃ i,xs=[.int i]/\i.natAbs.log2<1920/\Q (.str (toString i)) H):=by
 intro pins s σ H xs us Q I r h
 obtain⟨i,rfl,hz,q⟩:=h
 obtain⟨u,rfl,t,rfl⟩:=vals1 r
 exact PySem.P.str_of_int hz ⟨.str _,H,I.tok _,⟨_,rfl⟩,q⟩
end
end L2
namespace L2
open PySem PySem.Spec PyProof.Rows
structure ObjM(h:Heap)(x dx C:Addr)(mA:Str->Option Value):Prop where
 obj:h.get? x=some (W.instObj C dx)
 ns:h.Ns1 dx mA
 ne:dx≠x
theorem QFG{h:Heap}{dx:Addr}{mA:Str->Option Value}(n:h.Ns1 dx mA):∃ od,h.get? dx=some od/\∀ name,W.lookIn name od=some (mA name):=by
 obtain⟨o,es,ep,ho,hd,hk,_,hm⟩:=n
 refine⟨o,ho,fun name=>?_⟩
 have e:=hm name
 unfold nsFind findBy at e
 rw[← Array.find?_toList]at e
 unfold W.lookIn
 rw[hd]
 dsimp only
 split
 ·rename_i y q
  rw[q]at e
  exact congrArg some e
 ·rename_i q
  rw[q]at e
  have a:es.toList.any (·.refKey)=false:=by
   rw[List.any_eq_false]
   intro y hy
   obtain⟨z,t,hkey⟩:=hk y (Array.mem_toList_iff.mp hy)
   simp[DictEntry.refKey,hkey]
  have a':¬ es.toList.any (·.refKey)=true:=by rw[a];exact Bool.false_ne_true
  rw[if_neg a']
  exact congrArg some e
theorem ObjM.look{h:Heap}{x dx C:Addr}{mA:Str->Option Value}(I:ObjM h x dx C mA):∃ od,W.InstAt h x (W.instObj C dx) C (some od)/\∀ name,W.lookIn name od=some (mA name):=
 let ⟨od,ho,hl⟩:=QFG I.ns
 ⟨od,⟨I.obj,rfl,rfl,ho⟩,hl⟩
section
variable{prog:Program}{w:World}{A:Around}{E:Value->Shared->Prop}{s:Shared}{K:W.Frag}{x dx C f:Addr}{mA:Str->Option Value}{name:Str}{v:Value}
theorem QJG{expr:Bool}{Q:Value->Shared->Prop}(X:K.In s.heap)(I:ObjM s.heap x dx C mA)(hg:W.plainGet K C name=true)(hh:W.hasDictIn K C=true)
 (ha:W.findIn K (.ref C) name=some none) (hv:mA name=some v) (hv':W.handedIn v=true) (h:Q v { s with toks:=s.toks+1 }):
 wpAny (model prog w) A (getAttr (.ref x) name expr) Q E s:=by
 obtain⟨od,J,hl⟩:=I.look
 exact W.get_value X J (W.plainGet_of hg).1 (W.findObj_own hh ha rfl (by rw[hl,hv])) hv' h
theorem QG4{pl:Sem Bool}{Q:Value×List Value->Shared->Prop}(X:K.In s.heap)(I:ObjM s.heap x dx C mA)(hg:W.plainGet K C name=true)
 (hf:W.findIn K (.ref C) name=some (some (.ref f))) (ht:W.isFn K (.ref f)=true) (hv:mA name=none) (h:Q (.ref f,[.ref x]) s):
 wpAny (model prog w) A (getMethod (.ref x) name pl) Q E s:=by
 obtain⟨od,J,hl⟩:=I.look
 exact W.method_fn X J (W.plainGet_of hg).1 (W.plainGet_of hg).2 hf (beq_iff_eq.mp ht) (by show(W.lookIn name od).map (·.isSome)=some false;rw[hl,hv];rfl) h
theorem QJn{ns:List Str}{Q:Unit->Shared->Prop}(X:K.In s.heap)(I:ObjM s.heap x dx C mA)
 (hs:W.findIn K (.ref C) "__setattr__"=some (some (.builtin "object.__setattr__"))) (hp:W.plainOver K C=true) (ht:W.takerIn K C name=some none) (hh:W.hasDictIn K C=true)
 (hw:PySem.Within mA ns) (hsz:ns.length<=sizeLine)
 (h:∀ h',ObjM h' x dx C (fun y=>if y=name then some v else mA y)->Heap.SameBut dx s.heap h'->Q () { s with heap:=h',toks:=s.toks+2 }):
 wpAny (model prog w) A (setAttr (.ref x) name v) Q E s:=by
 obtain⟨od,J,hl⟩:=I.look
 refine W.set_plain X J hs (W.osa_open (s:={ s with toks:=s.toks+1 }) (r:=none) X J hp ht fun b=>?_)
 obtain⟨cd,hc,hd'⟩:=W.any_some hh
 have hx:s.heap.get? x=some ⟨.ref C,some dx,.plain, #[]⟩:=I.obj
 refine wpAny_bind (wpAny_pure (wpAny_bind (wpAny_bind (wpAny_loadPart hx (wpAny_bind (W.Looks.here (s:={ s with toks:=s.toks+1 }) (W.looks_clsIn X hc) ?_))))))
 rw[hd']
 refine wpAny_pure (a:=some dx) (wpAny_bind (wpAny_pure (wpAny_bind ?_)))
 refine wpAny_nsSet1 (s:={ s with toks:=s.toks+1 }) I.ns fun h' hn2 hs2=>?_
 obtain⟨oD,esD,epD,hoD,hdD,hcD⟩:=hn2.count (PySem.Within.cons name v hw)
 refine wpAny_bind (wpAny_lookBehind hoD (by rw[hdD];exact pastItsLine_dict (Nat.le_trans hcD (by rw[List.length_cons];omega))) ?_)
 exact wpAny_pure (h _ ⟨(hs2.2 _ (Ne.symm I.ne)).trans I.obj,hn2,I.ne⟩ hs2)
theorem QHJ{R:Result->Shared->Prop}{vs:List Value}{kw:List (Str×Value)}(X:K.In s.heap)(hm:W.makesIn K C=true)
 (hi:W.findIn K (.ref C) "__init__"=some (some (.ref f))) (hf:W.typeIn K (.ref f)=some (.type "function"))
 (h:codeAny (model prog w) (A.under (.builtin "type.__call__" ⟨.ref C::vs,kw⟩)) (.call (.ref f) ⟨.ref (s.heap.objs.size+1)::vs,kw⟩) (W.InitBack (s.heap.objs.size+1) R)
  { s with heap:=(s.heap.push W.emptyDict).push (W.instObj C s.heap.objs.size) }):
 codeAny (model prog w) A (.call (.ref C) ⟨vs,kw⟩) R s:=by
 obtain⟨hh,g,d,t,os⟩:=s
 exact W.make_core (W.makes_of X hm) (W.looks_findIn X hi) (fun self=>W.bind_fn X self hf) (.inl rfl) h
end
def putF(f:Str)(v:V):List (Str×V)->List (Str×V)
 | []=>[(f,v)]
 | (g,x)::r=>if g=f then(g,v)::r else(g,x)::putF f v r
theorem QlK(f g:Str)(v:V):∀ fs:List (Str×V),(putF f v fs).lookup g=if g=f then some v else fs.lookup g
 | []=>by
  show List.lookup g [(f,v)]=_
  by_cases h:g=f
  ·have hb:(g == f)=true:=beq_iff_eq.mpr h
   simp only[List.lookup,hb,if_pos h]
  ·have hb:(g == f)=false:=beq_eq_false_iff_ne.mpr h
   simp only[List.lookup,hb,if_neg h]
 | (k,x)::r=>by
  have ih:=QlK f g v r
  rw[show putF f v ((k,x)::r)=(if k=f then(k,v)::r else(k,x)::putF f v r) from rfl]
  by_cases hk:k=f
  ·rw[if_pos hk]
   by_cases h:g=k
   ·have hb:(g == k)=true:=beq_iff_eq.mpr h
    simp only[List.lookup,hb,if_pos (h.trans hk)]
   ·have hb:(g == k)=false:=beq_eq_false_iff_ne.mpr h
    simp only[List.lookup,hb,if_neg (fun e:g=f=>h (e.trans hk.symm))]
  ·rw[if_neg hk]
   by_cases h:g=k
   ·have hb:(g == k)=true:=beq_iff_eq.mpr h
    simp only[List.lookup,hb,if_neg (fun e:g=f=>hk (h.symm.trans e))]
   ·have hb:(g == k)=false:=beq_eq_false_iff_ne.mpr h
    simp only[List.lookup,hb]
    exact ih
theorem Qjv(f:Str)(v:V):∀ fs:List (Str×V),f∈(putF f v fs).map (·.1)/\∀ g,g∈fs.map (·.1)->g∈(putF f v fs).map (·.1)
 | []=>⟨by simp[putF],fun g h=>by simp at h⟩
 | (k,x)::r=>by
  obtain⟨i1,i2⟩:=Qjv f v r
  rw[show putF f v ((k,x)::r)=(if k=f then(k,v)::r else(k,x)::putF f v r) from rfl]
  by_cases hk:k=f
  ·rw[if_pos hk]
   subst hk
   exact⟨by simp,fun g h=>by simpa using h⟩
  ·rw[if_neg hk]
   refine⟨?_,fun g h=>?_⟩
   ·rw[List.map_cons]
    exact List.mem_cons_of_mem _ i1
   ·rw[List.map_cons]at h ⊢
    rcases List.mem_cons.mp h with e | e
    ·exact List.mem_cons.mpr (.inl e)
    ·exact List.mem_cons_of_mem _ (i2 g e)
theorem QlQ(f:Str)(v:V):∀ fs:List (Str×V),(putF f v fs).length<=fs.length+1
 | []=>by simp[putF]
 | (k,x)::r=>by
  have ih:=QlQ f v r
  rw[show putF f v ((k,x)::r)=(if k=f then(k,v)::r else(k,x)::putF f v r) from rfl]
  by_cases hk:k=f
  ·rw[if_pos hk,List.length_cons,List.length_cons];omega
  ·rw[if_neg hk,List.length_cons,List.length_cons];omega
theorem RelO.some_of{v:V}{o:Option Value}(r:RelO (some v) o):∃ u,o=some u/\RelV v u:=by
 cases o with
 | none=>exact(show False from r).elim
 | some u=>exact⟨u,rfl,r⟩
theorem RelO.none_of{o:Option Value}(r:RelO none o):o=none:=by
 cases o with
 | none=>rfl
 | some u=>exact(show False from r).elim
theorem QFg{v:V}{u:Value}(r:RelV v u):W.handedIn u=true:=by
 cases v with
 | non=>cases (show u=Value.none from r);rfl
 | bl b=>cases (show u=Value.bool b from r);rfl
 | int i=>obtain⟨t,e⟩:=(show ∃ t,u=Value.int i t from r);cases e;rfl
 | str x=>obtain⟨t,e⟩:=(show ∃ t,u=Value.str x t from r);cases e;rfl
 | byt b=>obtain⟨t,e⟩:=(show ∃ t,u=Value.bytes b t from r);cases e;rfl
 | flt b=>obtain⟨t,e⟩:=(show ∃ t,u=Value.float b t from r);cases e;rfl
 | ref a=>cases (show u=Value.ref a from r);rfl
 | ty n=>cases (show u=Value.type n from r);rfl
section
variable{P:Program}{w:World}{H H':Hp}{h h':Heap}{a C dx:Addr}{fs fs':List (Str×V)}
theorem Qib(hok:HOk P w H h)(e:H a=some (.ins C dx fs)):∃ mA,ObjM h a dx C mA/\(∀ f,RelO (fs.lookup f) (mA f))/\PySem.Within mA (fs.map (·.1))/\fs.length<=1000/\H dx=some (.own a):=by
 obtain⟨d,z,ne,ob,mA,n,r,q⟩:=(show ObjOk P w H h a (.ins C dx fs) from hok a _ e)
 exact⟨mA,⟨ob,n,ne⟩,r,q,z,d⟩
end
structure Cls(K:W.Frag)(C:Addr):Prop where
 pg:W.plainGet K C Str.empty=true
 hd:W.hasDictIn K C=true
 po:W.plainOver K C=true
 sa:W.findIn K (.ref C) "__setattr__"=some (some (.builtin "object.__setattr__"))
theorem Cls.get{K:W.Frag}{C:Addr}(c:Cls K C)(f:Str):W.plainGet K C f=true:=c.pg
def Qgh(K:W.Frag)(C:Addr)(f:Str):Prop:=W.findIn K (.ref C) f=some none
theorem Qgh.taker{K:W.Frag}{C:Addr}{f:Str}(n:Qgh K C f):W.takerIn K C f=some none:=by
 unfold W.takerIn
 rw[show W.findIn K (.ref C) f=some none from n]
 rfl
structure Meth(K:W.Frag)(C:Addr)(m:Str)(f:Addr):Prop where
 at_:W.findIn K (.ref C) m=some (some (.ref f))
 fn:W.isFn K (.ref f)=true
 kp:W.keepIn K (.ref f)=true
section
variable{X:Cx}{pins:List (Addr×Obj)}{σ:St}{H:Hp}{s:Shared}{a C dx:Addr}{fs:List (Str×V)}{f:Str}{v:V}{A:Around}{E:Value->Shared->Prop}
theorem QCY{b:Bool}{Q:Value->Shared->Prop}(I:Inv X pins σ H s)(e:H a=some (.ins C dx fs))(c:Cls X.K C)(n:Qgh X.K C f)(l:fs.lookup f=some v)
 (h:∀ u s',Inv X pins σ H s'->RelV v u->Q u s'):wpAny (model X.prog X.w) A (getAttr (.ref a) f b) Q E s:=by
 obtain⟨mA,O,r,_,_,_⟩:=Qib I.hok e
 obtain⟨u,hu,ru⟩:=RelO.some_of (v:=v) (o:=mA f) (by rw[← l];exact r f)
 exact QJG I.kIn O (c.get f) c.hd n hu (QFg ru) (h u _ (I.tok _) ru)
theorem QoV{m:Str}{g:Addr}{pl:Sem Bool}{Q:Value×List Value->Shared->Prop}(I:Inv X pins σ H s)(e:H a=some (.ins C dx fs))(c:Cls X.K C)(k:Meth X.K C m g)(l:fs.lookup m=none)
 (h:Q (.ref g,[.ref a]) s):wpAny (model X.prog X.w) A (getMethod (.ref a) m pl) Q E s:=by
 obtain⟨mA,O,r,_,_,_⟩:=Qib I.hok e
 have hn:mA m=none:=RelO.none_of (by rw[← l];exact r m)
 exact QG4 I.kIn O (c.get m) k.at_ k.fn hn h
theorem QCA{y:V}{u:Value}{Q:Unit->Shared->Prop}(I:Inv X pins σ H s)(e:H a=some (.ins C dx fs))(c:Cls X.K C)(n:Qgh X.K C f)(hl:fs.length<1000)(ry:RelV y u)
 (h:∀ s',Inv X pins σ (upd H a (.ins C dx (putF f y fs))) s'->Q () s'):wpAny (model X.prog X.w) A (setAttr (.ref a) f u) Q E s:=by
 obtain⟨mA,O,r,wi,_,ho⟩:=Qib I.hok e
 have hz:(fs.map (·.1)).length<=sizeLine:=by rw[List.length_map,sizeLine_eq];omega
 refine QJn I.kIn O c.sa c.po n.taker c.hd wi hz fun h' O' sb=>h _ ?_
 have hd:∃ o,h'.get? dx=some o:=let ⟨o,_,_,e',_⟩:=O'.ns;⟨o,e'⟩
 refine I.write (x:=a) (e:=dx) (by rw[e];exact True.intro) (.inr ho) (fun b q hb z=>(sb.2 b hb).trans z) hd ?_
 refine⟨by rw[Qm O.ne];exact ho,?_,O.ne,O'.obj,_,O'.ns,fun g=>?_,fun g hg=>?_⟩
 ·have:=QlQ f y fs;omega
 ·show RelO ((putF f y fs).lookup g) (if g=f then some u else mA g)
  rw[QlK]
  by_cases q:g=f
  ·rw[if_pos q,if_pos q];exact ry
  ·rw[if_neg q,if_neg q];exact r g
 ·by_cases q:g=f
  ·rw[q];exact(Qjv f y fs).1
  ·refine(Qjv f y fs).2 g (wi g fun z=>hg ?_)
   show(if g=f then some u else mA g)=none
   rw[if_neg q];exact z
theorem Inv.made(I:Inv X pins σ H s):Inv X pins σ (upd (upd H s.heap.objs.size (.own (s.heap.objs.size+1))) (s.heap.objs.size+1) (.ins C s.heap.objs.size []))
 { s with heap:=(s.heap.push W.emptyDict).push (W.instObj C s.heap.objs.size) }:=by
 have e1:(s.heap.push W.emptyDict).get? s.heap.objs.size=some W.emptyDict:=Heap.get?_push_size s.heap rfl
 have e2:((s.heap.push W.emptyDict).push (W.instObj C s.heap.objs.size)).get? (s.heap.objs.size+1)=some (W.instObj C s.heap.objs.size):=by
  have:=Heap.get?_push_size (s.heap.push W.emptyDict) (o:=W.instObj C s.heap.objs.size) rfl
  rwa [Heap.size_push]at this
 have e3:(s.heap.push W.emptyDict).Ns s.heap.objs.size (fun _=>none):=⟨W.emptyDict, #[],_,e1,rfl,(fun e he=>absurd he (by simp)),fun _=>rfl⟩
 have I1:=I.laid (a:=s.heap.objs.size) (o:=.own (s.heap.objs.size+1)) (h':=s.heap.push W.emptyDict) (t':=s.toks) (fun b u q=>Heap.get?_push_of_some _ q) (Nat.le_refl _) ⟨_,e1⟩
 refine I1.laid (a:=s.heap.objs.size+1) (o:=.ins C s.heap.objs.size []) (t':=s.toks) (fun b u q=>Heap.get?_push_of_some _ q) (Nat.le_of_eq (Heap.size_push _ _)) ?_
 have ne:s.heap.objs.size≠s.heap.objs.size+1:=Nat.ne_of_lt (Nat.lt_succ_self _)
 refine⟨by rw[Qm ne,QO],Nat.zero_le _,ne,e2,fun _=>none,(Heap.Ns1.of_empty e3).at fun o q=>Heap.get?_push_of_some _ q,fun _=>True.intro,fun y hy=>absurd rfl hy⟩
theorem QJz{prog:Program}{w:World}{env:Env}{e:Expr}{f:Str}{pos:Pos}{s:Shared}{Q:Value->Shared->Prop}(hb:attributeBase e f env (eval e env)=eval e env)
 (h:wpAny (model prog w) A (eval e env) (fun o s₁=>wpAny (model prog w) A (getAttr o f true) Q E s₁) E s):wpAny (model prog w) A (eval (.Attribute e f pos) env) Q E s:=
 Attribute_any_ h (by rw[arm_eval_Attribute,hb])
end
def tFld(K:W.Frag)(ta:TE)(f:Str):TE:=fun σ H Q=>ta σ H fun x H1=>∃ a C dx fs v,x=.ref a/\H1 a=some (.ins C dx fs)/\Cls K C/\Qgh K C f/\fs.lookup f=some v/\Q v H1
def sFld(K:W.Frag)(ta tv:TE)(f:Str):TS:=fun D σ H=>tv σ H fun y H1=>ta σ H1 fun x H2=>∃ a C dx fs,x=.ref a/\H2 a=some (.ins C dx fs)/\Cls K C/\Qgh K C f/\fs.length<1000/\
 D.nx σ (upd H2 a (.ins C dx (putF f y fs)))
section
variable{X:Cx}{o e value:Expr}{f:Str}{pos pos' tpos:Pos}{ta tv:TE}
theorem QJ5(he:PE X e ta)(hb:attributeBase e f X.env (eval e X.env)=eval e X.env):PE X (.Attribute e f pos) (tFld X.K ta f):=by
 intro pins s σ H Q I h
 refine QJz hb (thn (he pins s σ H _ I h) fun u s1 ⟨x,H1,I1,rx,a,C,dx,fs,v,ex,ea,c,n,l,q⟩=>?_)
 subst ex
 obtain rfl:u=Value.ref a:=rx
 exact QCY I1 ea c n l fun u' s2 I2 ru=>⟨v,H1,I2,ru,q⟩
theorem QJ1(ha:PE X o ta)(hv:PE X value tv)(hs:swapsWith value (some (.Attribute o f pos')) pos.line X.env=pure false):PS X (.Assign [.Attribute o f pos'] value pos) (sFld X.K ta tv f):=by
 intro pins s σ H D I h
 refine plainObj_wpAny_Assign_Attribute (thn (hv pins s σ H _ I h) fun u s1 ⟨y,H1,I1,ry,q⟩=>thn (ha pins s1 σ H1 _ I1 q) fun ov s2 ⟨x,H2,I2,rx,a,C,dx,fs,ex,ea,c,n,l,q2⟩=>?_) hs
 subst ex
 obtain rfl:ov=Value.ref a:=rx
 exact QCA I2 ea c n l ry fun s3 I3=>⟨σ,_,I3,q2⟩
end
section
variable{X:Cx}{pins:List (Addr×Obj)}{σ:St}{H:Hp}{s:Shared}{A:Around}{E:Value->Shared->Prop}{Q:Value->Shared->Prop}{c:Value}{b:Bool}
end
end L2
namespace L2
open PySem PySem.Spec PyProof.Rows
structure Room(k:Nat)(A:Around):Prop where
 hd:A.handled=none
 dp:A.depth+3 * k+5<recursionLimit
 un:A.units+16 * k+200<cLine
theorem Room.mono{j k:Nat}{A:Around}(r:Room k A)(h:j<=k):Room j A:=⟨r.hd,by have:=r.dp;omega,by have:=r.un;omega⟩
theorem Room.deeper{k:Nat}{A:Around}(r:Room (k+1) A)(env:Env):Room k (A.deeper env):=
 ⟨r.hd,by have:=r.dp;show A.depth+1+3 * k+5<_;omega,by have:=r.un;show A.units+3+16 * k+200<_;omega⟩
theorem QCC{A:Around}{C:Addr}{us:List Value}{kw:List (Str×Value)}:(A.under (.builtin "type.__call__" ⟨.ref C::us,kw⟩)).depth=A.depth+1:=by
 first | rfl | simp[Around.under,Code.weight,Code.isCreation,Code.isGuard,Code.isCaller,Code.frames,Code.isFrame,guardIds]
theorem QCq{A:Around}{C:Addr}{us:List Value}{kw:List (Str×Value)}:(A.under (.builtin "type.__call__" ⟨.ref C::us,kw⟩)).units=A.units+1:=by
 first | rfl | simp[Around.under,Code.cUnits,Code.frames,Code.isFrame]
theorem Room.make{k:Nat}{A:Around}(r:Room (k+1) A)(C:Addr)(us:List Value)(kw:List (Str×Value)):Room k (A.under (.builtin "type.__call__" ⟨.ref C::us,kw⟩)):=
 ⟨r.hd,by have:=r.dp;rw[QCC];omega,by have:=r.un;rw[QCq];omega⟩
theorem Room.depth{k:Nat}{A:Around}(r:Room k A):A.depth<recursionLimit:=by have:=r.dp;omega
theorem Room.units{k:Nat}{A:Around}(r:Room k A):A.units+64<cLine:=by have:=r.un;omega
def tNil:TA:=fun _ H Q=>Q [] H
def tCons(ta:TE)(tr:TA):TA:=fun σ H Q=>ta σ H fun x H1=>tr σ H1 fun xs H2=>Q (x::xs) H2
section
variable{X:Cx}{e:Expr}{es:List Expr}{te:TE}{t:TA}{pos:Pos}
theorem QcO:PA X [] tNil:=fun _ _ _ _ H Q I h=>Calls.spliced_nil ⟨[],H,I,.nil,h⟩
theorem QaZ(ha:PE X e te)(hr:PA X es t)(hs:starEach (e::es) X.env=(false,eval e X.env)::starEach es X.env:=by rfl):PA X (e::es) (tCons te t):=by
 intro pos pins s σ H Q I h
 rw[hs]
 show wpAny _ _ (spliced ((false,eval e X.env)::backTo pos (starEach es X.env))) _ _ s
 refine Calls.spliced_cons (thn (ha pins s σ H _ I h) fun u s1 ⟨x,H1,I1,r1,q1⟩=>?_)
 exact thn (hr pos pins s1 σ H1 _ I1 q1) fun us s2 ⟨xs,H2,I2,r2,q2⟩=>⟨x::xs,H2,I2,.cons r1 r2,q2⟩
def tTup(t:TA):TE:=fun σ H Q=>t σ H fun xs H1=>xs.length<=sizeLine/\∀ p,H1 p=none->Q (.ref p) (upd H1 p (.tup xs))
def tLst(t:TA):TE:=fun σ H Q=>t σ H fun xs H1=>xs.length<=sizeLine/\∀ p,H1 p=none->Q (.ref p) (upd H1 p (.lst xs))
theorem QFc{x1}(h:PA X es t):PE X (.Tuple es x1 pos) (tTup t):=by
 intro pins s σ H Q I hq
 refine wpAny_Tuple_spliced (thn (h pos pins s σ H _ I hq) fun us s1 ⟨xs,H1,I1,r,z,q⟩=>⟨by rw[← r.length];exact z,?_⟩)
 have hf:H1 s1.heap.objs.size=none:=I1.hok.fresh (Nat.le_refl _)
 refine⟨.ref s1.heap.objs.size,upd H1 s1.heap.objs.size (.tup xs),I1.laid (t':=s1.toks) (fun b u e=>Heap.get?_push_of_some _ e) (Nat.le_refl _) ?_,rfl,q _ hf⟩
 exact⟨z,us,r,⟨_,Heap.get?_push_size _ rfl,rfl,_,rfl⟩⟩
theorem QKI(h:PA X es t):PE X (.List es pos) (tLst t):=by
 intro pins s σ H Q I hq
 refine wpAny_List_spliced (thn (h pos pins s σ H _ I hq) fun us s1 ⟨xs,H1,I1,r,z,q⟩=>⟨by rw[← r.length];exact z,?_⟩)
 have hf:H1 s1.heap.objs.size=none:=I1.hok.fresh (Nat.le_refl _)
 refine⟨.ref s1.heap.objs.size,upd H1 s1.heap.objs.size (.lst xs),I1.laid (t':=s1.toks) (fun b u e=>Heap.get?_push_of_some _ e) (Nat.le_refl _) ?_,rfl,q _ hf⟩
 exact⟨z,us,0,r,Heap.get?_push_size _ rfl⟩
end
abbrev Sp:=List V->Hp->VK->XK->Prop
abbrev CXT:=List Env->Hp->Shared->XK->Value->Shared->Prop
structure Env0(P:Program)(w:World)(K:W.Frag)(mg:Str->Option Value)(base:Heap)(A:Around)(outer:List Env)(s:Shared)(H:Hp):Prop where
 frames:A.frames=some outer
 mod:Mod K mg base
 bs:∀ b o,base.get? b=some o->s.heap.get? b=some o/\H b=none
 bsz:base.objs.size<=s.heap.objs.size
 funs:s.heap.FunFrames base outer
 frf:∀ b∈frs outer,H b=none
 hok:HOk P w H s.heap
 bare:AllBare s.gens
def CE(outer:List Env)(P:Program)(w:World)(H:Hp)(s:Shared)(Q:VK)(u:Value)(s':Shared):Prop:=
 ∃ v H',s'.os=s.os/\AllBare s'.gens/\Un (frs outer) [] H H' s.heap s'.heap/\HOk P w H' s'.heap/\RelV v u/\Q v H'
def CR(CX:CXT)(outer:List Env)(P:Program)(w:World)(H:Hp)(s:Shared)(Q:VK)(E:XK)(r:Result)(s':Shared):Prop:=
 match r with
 | .ok (.ret u)=>CE outer P w H s Q u s'
 | .ok _=>False
 | .error e=>CX outer H s E e s'
structure FnOk(P:Program)(w:World)(K:W.Frag)(mg:Str->Option Value)(base:Heap)(CX:CXT)(k:Nat)(f:Addr)(fd:FuncData)(ps:List Str)(sp:Sp):Prop where
 len:∀ vs H Q E,sp vs H Q E->vs.length=ps.length
 run:∀(A:Around)(outer:List Env)(s:Shared)(H:Hp)(args:Args)(us:List Value)(vs:List V)(Q:VK)(E:XK),Room k A->Env0 P w K mg base A outer s H->BindsTo s fd args (ps.zip us)->Vals vs us->sp vs H Q E->
  codeAny (model P w) A (.call (.ref f) args) (CR CX outer P w H s Q E) s
theorem FnOk.mono{P:Program}{w:World}{K:W.Frag}{mg:Str->Option Value}{base:Heap}{CX:CXT}{j k:Nat}{f:Addr}{fd:FuncData}{ps:List Str}{sp:Sp}(F:FnOk P w K mg base CX j f fd ps sp)(h:j<=k):
 FnOk P w K mg base CX k f fd ps sp:=⟨F.len,fun A outer s H args us vs Q E hr=>F.run A outer s H args us vs Q E (hr.mono h)⟩
theorem FnOk.imp{P:Program}{w:World}{K:W.Frag}{mg:Str->Option Value}{base:Heap}{CX:CXT}{k:Nat}{f:Addr}{fd:FuncData}{ps:List Str}{sp sp':Sp}(F:FnOk P w K mg base CX k f fd ps sp)
 (h:∀ vs H Q E,sp' vs H Q E->sp vs H Q E):FnOk P w K mg base CX k f fd ps sp':=
 ⟨fun vs H Q E q=>F.len vs H Q E (h _ _ _ _ q),fun A outer s H args us vs Q E hr he hb hv hs=>F.run A outer s H args us vs Q E hr he hb hv (h _ _ _ _ hs)⟩
theorem Env0.make{P:Program}{w:World}{K:W.Frag}{mg:Str->Option Value}{base:Heap}{A:Around}{outer:List Env}{s:Shared}{H:Hp}(e:Env0 P w K mg base A outer s H)(C:Addr)(us:List Value)(kw:List (Str×Value)):
 Env0 P w K mg base (A.under (.builtin "type.__call__" ⟨.ref C::us,kw⟩)) outer s H:=⟨by first | exact e.frames | (simpa [Around.under,Code.envs,Code.isFrame,pushEnvs] using e.frames),e.mod,e.bs,e.bsz,e.funs,e.frf,e.hok,e.bare⟩
section
variable{X:Cx}{pins:List (Addr×Obj)}{σ:St}{H:Hp}{s s':Shared}
theorem Inv.env0(I:Inv X pins σ H s):Env0 X.prog X.w X.K X.mg X.base X.A X.stack s H:=
 ⟨I.ok.frames,I.ok.mod,I.bs,Nat.le_trans I.ok.bsz I.sz,I.stack,I.stkFree,I.hok,I.bare⟩
theorem Inv.after{Q:VK}{u:Value}(I:Inv X pins σ H s)(h:CE X.stack X.prog X.w H s Q u s'):EP X pins σ Q u s':=by
 obtain⟨v,H',os,bare,un,hok,r,q⟩:=h
 obtain⟨hh,g,d,t,os'⟩:=s'
 obtain rfl:os'=s.os:=os
 exact⟨v,H',I.call (h':=hh) (g':=g) (d':=d) (t':=t) (ch:=[]) un hok bare (fun b z=>absurd z (by simp)),r,q⟩
end
def tCall(sp:Sp)(dvs:List V)(E:XK)(t:TA):TE:=fun σ H Q=>t σ H fun vs H1=>sp (vs++dvs) H1 Q E
def tMake(C:Addr)(sp:Sp)(dvs:List V)(E:XK)(t:TA):TE:=fun σ H Q=>t σ H fun vs H1=>∀ x dx,H1 x=none->H1 dx=none->dx≠x->
 sp (.ref x::(vs++dvs)) (upd (upd H1 dx (.own x)) x (.ins C dx [])) (fun v H2=>v=.non/\Q (.ref x) H2) E
def Binds(K:W.Frag)(fd:FuncData)(ps:List Str)(ds:List Value):Prop:=
 ∀(s:Shared)(us:List Value),K.In s.heap->(us++ds).length=ps.length->BindsTo s fd ⟨us,[]⟩ (ps.zip (us++ds))
theorem Binds.all{K:W.Frag}{fd:FuncData}{ps:List Str}(h:∀ us:List Value,us.length=ps.length->bindArgs fd ⟨us,[]⟩=pure (ps.zip us)):Binds K fd ps []:=fun s us _ hl=>by
 rw[List.append_nil]at hl ⊢
 exact .of_eq (h us hl)
def QeL(CX:CXT)(X:Cx)(E:XK):Prop:=∀(pins:List (Addr×Obj))(σ:St)(H:Hp)(s:Shared)(e:Value)(s':Shared),Inv X pins σ H s->CX X.stack H s E e s'->X.xe e s'
section
variable{X:Cx}{CX:CXT}{k:Nat}{f C:Addr}{fd:FuncData}{ps:List Str}{sp:Sp}{dvs:List V}{ds:List Value}{E:XK}{x m:Str}{p pos apos:Pos}{e o:Expr}{es:List Expr}{ta:TE}{t:TA}
theorem QwQ{pins:List (Addr×Obj)}{σ:St}{H:Hp}{s:Shared}{Q:VK}{us:List Value}{vs:List V}(F:FnOk X.prog X.w X.K X.mg X.base CX k f fd ps sp)(hr:Room k X.A)(hb:Binds X.K fd ps ds)(hd:Vals dvs ds)(hx:QeL CX X E)
 (I:Inv X pins σ H s) (r:Vals vs us) (h:sp (vs++dvs) H Q E):wpAny (model X.prog X.w) X.A (call (.ref f) us) (EP X pins σ Q) X.xe s:=by
 have r2:Vals (vs++dvs) (us++ds):=r.append hd
 have hl:(us++ds).length=ps.length:=by rw[← r2.length];exact F.len _ _ _ _ h
 refine wpAny_call (codeAny_mono (F.run X.A X.stack s H ⟨us,[]⟩ (us++ds) (vs++dvs) Q E hr I.env0 (hb s us I.kIn hl) r2 h) fun r s' hq=>?_)
 cases r with
 | error e=>exact hx pins σ H s e s' I hq
 | ok fl=>
  cases fl with
  | ret u=>exact I.after hq
  | next=>exact False.elim hq
  | brk=>exact False.elim hq
  | cont=>exact False.elim hq
theorem QB0(F:FnOk X.prog X.w X.K X.mg X.base CX k f fd ps sp)(hr:Room k X.A)(hg:Gl X x)(hm:X.mg x=some (.ref f))(hk:W.keepIn X.K (.ref f)=true)(hb:Binds X.K fd ps ds)(hd:Vals dvs ds)(hx:QeL CX X E)
 (ha:PA X (e::es) t) (hdb:(x == ("__debug__":Str))=false:=by decide) (he:starEach (e::es) X.env=(false,eval e X.env)::starEach es X.env:=by rfl) (hpl:(backTo pos (starEach es X.env)).any (·.1)=false:=by rfl):
 PE X (.Call (.Name x p) (e::es) [] pos) (tCall sp dvs E t):=by
 intro pins s σ H Q I h
 refine wpAny_Call_Name_kw (Qqv I hg hm ?_ hdb)
 refine W.callWith_K (h₀:=X.base) I.ok.mod.kin hk (thn (ha pos pins s σ H _ I h) fun us s1 ⟨vs,H1,I1,r,q⟩=>⟨I1.kIn,?_⟩) he hpl
 exact QwQ F hr hb hd hx I1 r q
structure Mk(K:W.Frag)(C f:Addr):Prop where
 makes:W.makesIn K C=true
 init:W.findIn K (.ref C) "__init__"=some (some (.ref f))
 fn:W.isFn K (.ref f)=true
 kp:W.keepIn K (.ref C)=true
theorem QHz{pins:List (Addr×Obj)}{σ:St}{H:Hp}{s:Shared}{Q:VK}{us:List Value}{vs:List V}(M:Mk X.K C f)(F:FnOk X.prog X.w X.K X.mg X.base CX k f fd ps sp)(hr:Room (k+1) X.A)(hb:Binds X.K fd ps ds)(hd:Vals dvs ds)
 (hx:QeL CX X E) (I:Inv X pins σ H s) (r:Vals vs us)
 (h:∀ x dx,H x=none->H dx=none->dx≠x->sp (.ref x::(vs++dvs)) (upd (upd H dx (.own x)) x (.ins C dx [])) (fun v H2=>v=.non/\Q (.ref x) H2) E):
 wpAny (model X.prog X.w) X.A (call (.ref C) us) (EP X pins σ Q) X.xe s:=by
 have hq:=h (s.heap.objs.size+1) s.heap.objs.size (I.hok.fresh (Nat.le_succ _)) (I.hok.fresh (Nat.le_refl _)) (Nat.ne_of_lt (Nat.lt_succ_self _))
 have I2:=Inv.made (C:=C) I
 have r2:Vals (V.ref (s.heap.objs.size+1)::(vs++dvs)) (Value.ref (s.heap.objs.size+1)::(us++ds)):=.cons rfl (r.append hd)
 have hl:(Value.ref (s.heap.objs.size+1)::us++ds).length=ps.length:=by
  have e:=r2.length
  rw[F.len _ _ _ _ hq]at e
  exact e.symm
 refine wpAny_call (QHJ (f:=f) I.kIn M.makes M.init (beq_iff_eq.mp M.fn) (codeAny_mono (F.run _ X.stack _ _ ⟨Value.ref (s.heap.objs.size+1)::us,[]⟩ (Value.ref (s.heap.objs.size+1)::(us++ds)) _ _ E (hr.make C us [])
  (I2.env0.make C us []) (hb _ (Value.ref (s.heap.objs.size+1)::us) I2.kIn hl) r2 hq) fun r s' hq'=>?_))
 cases r with
 | error e=>exact hx pins σ _ _ e s' I2 hq'
 | ok fl=>
  cases fl with
  | ret u=>
   obtain⟨v,H',I3,rv,ev,q3⟩:=I2.after hq'
   subst ev
   exact⟨rv,⟨V.ref (s.heap.objs.size+1),H',I3,rfl,q3⟩⟩
  | next=>exact False.elim hq'
  | brk=>exact False.elim hq'
  | cont=>exact False.elim hq'
theorem QIu(M:Mk X.K C f)(F:FnOk X.prog X.w X.K X.mg X.base CX k f fd ps sp)(hr:Room (k+1) X.A)(hg:Gl X x)(hm:X.mg x=some (.ref C))(hb:Binds X.K fd ps ds)(hd:Vals dvs ds)(hx:QeL CX X E)
 (ha:PA X (e::es) t) (hdb:(x == ("__debug__":Str))=false:=by decide) (he:starEach (e::es) X.env=(false,eval e X.env)::starEach es X.env:=by rfl) (hpl:(backTo pos (starEach es X.env)).any (·.1)=false:=by rfl):
 PE X (.Call (.Name x p) (e::es) [] pos) (tMake C sp dvs E t):=by
 intro pins s σ H Q I h
 refine wpAny_Call_Name_kw (Qqv I hg hm ?_ hdb)
 refine W.callWith_K (h₀:=X.base) I.ok.mod.kin M.kp (thn (ha pos pins s σ H _ I h) fun us s1 ⟨vs,H1,I1,r,q⟩=>⟨I1.kIn,?_⟩) he hpl
 exact QHz M F hr hb hd hx I1 r q
end
section
variable{X:Cx}{CX:CXT}{k:Nat}{f C:Addr}{fd:FuncData}{ps ks:List Str}{sp:Sp}{E:XK}{x m:Str}{p pos apos kpos:Pos}{e o:Expr}{es:List Expr}{kws:List Keyword}{te ta:TE}{t tk:TA}{nm:Option Str}
variable{g:List Value->List Value->List Value}{gV:List V->List V->List V}
end
structure Qq(N P:List Str)(sc:Scope):Prop where
 kind:sc.kind=.function
 co:sc.isCoroutine=false
 gen:sc.isGenerator=false
 nd:N.Nodup
 pre:N.take P.length=P
 par:∀ x∈P,sc.names.lookup x=some .local∨sc.names.lookup x=some .cell
 nofree:∀ y∈sc.names,y.2≠.free
theorem QrD{kindOf:Str->Option NameKind}{x:Str}:∀{binds:List (Str×Value)}{m:Str->Option Value},(∀ v,(x,v)∉binds)->bindL kindOf binds m x=m x
 | [],_,_=>rfl
 | (n,v)::r,m,h=>by
  unfold bindL
  rw[QrD fun w hw=>h w (List.mem_cons_of_mem _ hw)]
  split
  ·have:x≠n:=by rintro rfl;exact h v List.mem_cons_self
   simp[this]
  ·rfl
theorem QrF{kindOf:Str->Option NameKind}{x:Str}:∀{binds:List (Str×Value)}{m:Str->Option Value},(∀ v,(x,v)∉binds)->bindC kindOf binds m x=m x
 | [],_,_=>rfl
 | (n,v)::r,m,h=>by
  unfold bindC
  rw[QrF fun w hw=>h w (List.mem_cons_of_mem _ hw)]
  split
  ·rfl
  ·have:x≠n:=by rintro rfl;exact h v List.mem_cons_self
   simp[this]
theorem QrZ{kindOf:Str->Option NameKind}{x:Str}{v:Value}:∀{P:List Str}{vs:List Value}{i:Nat}{m:Str->Option Value},P.Nodup->P[i]?=some x->vs[i]?=some v->kindOf x=some .local->
 bindL kindOf (P.zip vs) m x=some v
 | [],_,_,_,_,h,_,_=>by simp at h
 | _::_,[],_,_,_,_,h,_=>by simp at h
 | p::P,w::vs,0,m,nd,h1,h2,hk=>by
  simp at h1 h2;subst h1;subst h2
  show bindL kindOf ((p,w)::P.zip vs) m p=_
  unfold bindL
  rw[QrD fun v hv=>(List.nodup_cons.mp nd).1 (List.of_mem_zip hv).1,if_pos hk]
  simp
 | p::P,w::vs,i+1,m,nd,h1,h2,hk=>by
  show bindL kindOf ((p,w)::P.zip vs) m x=_
  unfold bindL
  exact QrZ (i:=i) (List.nodup_cons.mp nd).2 (by simpa using h1) (by simpa using h2) hk
theorem QrW{kindOf:Str->Option NameKind}{x:Str}{v:Value}:∀{P:List Str}{vs:List Value}{i:Nat}{m:Str->Option Value},P.Nodup->P[i]?=some x->vs[i]?=some v->kindOf x≠some .local->
 bindC kindOf (P.zip vs) m x=some v
 | [],_,_,_,_,h,_,_=>by simp at h
 | _::_,[],_,_,_,_,h,_=>by simp at h
 | p::P,w::vs,0,m,nd,h1,h2,hk=>by
  simp at h1 h2;subst h1;subst h2
  show bindC kindOf ((p,w)::P.zip vs) m p=_
  unfold bindC
  rw[QrF fun v hv=>(List.nodup_cons.mp nd).1 (List.of_mem_zip hv).1,if_neg hk]
  simp
 | p::P,w::vs,i+1,m,nd,h1,h2,hk=>by
  show bindC kindOf ((p,w)::P.zip vs) m x=_
  unfold bindC
  exact QrW (i:=i) (List.nodup_cons.mp nd).2 (by simpa using h1) (by simpa using h2) hk
def start(N:List Str)(vs:List V):St:=vs.map some++List.replicate (N.length - vs.length) none
def cxOf(CX:CXT)(P:Program)(w:World)(K:W.Frag)(mg:Str->Option Value)(base:Heap)(N:List Str)(qual:Str)(scope:Scope)(f:Addr)(cd:Value)(A:Around)(outer:List Env)(s:Shared)(H:Hp)(E:XK):Cx where
 prog:=P
 w:=w
 K:=K
 mg:=mg
 base:=base
 A:=A.deeper (envOfC qual scope s.heap.objs.size f cd)
 N:=N
 s₀:=s
 H₀:=H
 env:=envOfC qual scope s.heap.objs.size f cd
 outer:=outer
 stack:=envOfC qual scope s.heap.objs.size f cd::outer
 ex:=[]
 calm:=true
 fn:=fun _=>true
 pn:=[]
 xe:=fun e s'=>wpAny (model P w) (A.deeper (envOfC qual scope s.heap.objs.size f cd)) (leaving (envOfC qual scope s.heap.objs.size f cd) e) (fun _ s''=>CX outer H s E e s'') (fun e' s''=>CX outer H s E e' s'') s'
theorem Qx2{sc:Scope}{n:Nat}{x:Str}(h:sc.names.lookup x=some .cell):∃ c,(cellsFrom n sc.names []).lookup x=some c:=by
 have q:=W.cellsFrom_some sc.names n [] (.inl h)
 exact Option.isSome_iff_exists.mp q
theorem QFo{CX:CXT}{P:Program}{w:World}{K:W.Frag}{mg:Str->Option Value}{base:Heap}{N ps:List Str}{qual:Str}{scope:Scope}{f:Addr}{cd:Value}{A:Around}{outer:List Env}{s s1:Shared}{H:Hp}{E:XK}{us:List Value}{vs:List V}
 (S:Qq N ps scope) (hd:A.handled=none) (e0:Env0 P w K mg base A outer s H) (hl:vs.length=ps.length) (r:Vals vs us)
 (x:InCallC s s.heap.objs.size (bindL (envOfC qual scope s.heap.objs.size f cd).kindOf (ps.zip us) fun _=>none) (cellsFrom (s.heap.objs.size+1) scope.names []) (bindC (envOfC qual scope s.heap.objs.size f cd).kindOf (ps.zip us) fun _=>none) s1):
 Inv (cxOf CX P w K mg base N qual scope f cd A outer s H E) [] (start N vs) H s1:=by
 have hpl:ps.length<=N.length:=by have:=congrArg List.length S.pre;rw[List.length_take]at this;omega
 obtain⟨h1,tk,rfl,hk⟩:=x.done
 have noA:∀ b:Addr,b∉(cxOf CX P w K mg base N qual scope f cd A outer s H E).ex:=fun b z=>absurd (show b∈([]:List Addr) from z) (by simp)
 refine⟨⟨e0.mod,S.kind,rfl,rfl,Nat.le_refl _,fun y z c h1 h2=>?_,fun y hy=>?_,fun y c _ h=>?_,fun _=>hd,Around.frames_deeper e0.frames,.inr ⟨rfl,rfl⟩,fun b z=>absurd z (noA b),e0.bs,e0.bsz,fun b _ _=>noA b,fun b z=>absurd z (noA b),e0.funs,e0.frf⟩,
  rfl,e0.bare,Un.kept hk,⟨_,x.toInCall.ns,fun i y v h1 h2 h3=>?_⟩,fun y c h=>⟨_,x.cell y c h⟩,e0.hok.fresh (Nat.le_refl _),fun y c h=>?_,fun p hp=>absurd (show p∈([]:List (Addr×Obj)) from hp) (by simp),e0.hok.kept hk,?_⟩
 ·exact name_of_addr x.apart (PySem.mem_of_lookup h1) (PySem.mem_of_lookup h2)
 ·have hy:scope.names.lookup y=some .cell∨scope.names.lookup y=some .free:=hy
  rcases hy with hy | hy
  ·exact Qx2 hy
  ·exact absurd rfl (S.nofree _ (PySem.mem_of_lookup hy))
 ·exact Nat.le_of_lt (x.above y c (PySem.mem_of_lookup h))
 ·have hi:i<vs.length:=by
   unfold start at h2
   by_cases hi:i<vs.length
   ·exact hi
   ·rw[List.getElem?_append_right (by simpa using hi)]at h2
    rw[List.getElem?_replicate]at h2
    split at h2<;>cases h2
  have ha:vs[i]?=some v:=by
   unfold start at h2
   rw[List.getElem?_append_left (by simpa using hi),List.getElem?_map]at h2
   cases e:vs[i]? with
   | none=>rw[e]at h2;cases h2
   | some a=>rw[e]at h2;cases h2;rfl
  obtain⟨u,hu,rv⟩:=r.get ha
  have hp:ps[i]?=some y:=by
   rw[← S.pre,List.getElem?_take_of_lt (by omega)];exact h1
  have ndP:ps.Nodup:=by rw[← S.pre];exact S.nd.sublist (List.take_sublist _ _)
  refine⟨u,rv,?_⟩
  rcases S.par y (List.mem_of_getElem? hp) with k | k
  ·exact .inl ⟨k,QrZ ndP hp hu k⟩
  ·obtain⟨c,e⟩:=Qx2 (n:=s.heap.objs.size+1) k
   refine .inr ⟨.inl k,c,e,?_⟩
   have q:=x.cell y c e
   rw[QrW ndP hp hu (by show scope.names.lookup y≠_;rw[k];decide)]at q
   exact q
 ·exact e0.hok.fresh (Nat.le_of_lt (x.above y c (PySem.mem_of_lookup h)))
 ·unfold start
  show _=N.length
  rw[List.length_append,List.length_map,List.length_replicate]
  omega
theorem fn_of{CX:CXT}{P:Program}{w:World}{K:W.Frag}{mg:Str->Option Value}{base:Heap}{k:Nat}{f:Addr}{name qual:Str}{params:Arguments}{body:List Stmt}{scope:Scope}{dV kV doc pm cdv ct oc:Value}{an od:Option Addr}
 {osl:Array (Option Value)} {N ps:List Str} {sp:Sp} (lk:K.lookup f=some ⟨oc,od,.func (W.fnOf name qual params body scope dV kV doc pm an cdv ct),osl⟩) (hcd:W.codeIn K cdv qual=true) (S:Qq N ps scope)
 (len:∀ vs H Q E,sp vs H Q E->vs.length=ps.length)
 (hbody:∀(A:Around)(outer:List Env)(s:Shared)(H:Hp)(vs:List V)(Q:VK)(E:XK),Room k (A.deeper (envOfC qual scope s.heap.objs.size f cdv))->sp vs H Q E->
  ∃ t,PSs (cxOf CX P w K mg base N qual scope f cdv A outer s H E) body t/\t { nx:=fun _ H'=>Q .non H',rt:=Q } (start N vs) H):
 FnOk P w K mg base CX (k+1) f (W.fnOf name qual params body scope dV kV doc pm an cdv ct) ps sp:=by
 refine⟨len,fun A outer s H args us vs Q E hr e0 hb r hsp=>?_⟩
 have hl:=len _ _ _ _ hsp
 have KX:K.In s.heap:=e0.mod.kin.keeps fun b o e=>(e0.bs b o e).1
 have lim:s.heap.NoLimit:=e0.mod.nolimit.keeps fun b o e=>(e0.bs b o e).1
 have hkind:∀ y∈ps.zip us,scope.names.lookup y.1=some .local∨(scope.names.lookup y.1=some .cell/\((cellsFrom (s.heap.objs.size+1) scope.names []).lookup y.1).isSome=true):=fun⟨n,v⟩ hy=>by
  rcases S.par n (List.of_mem_zip hy).1 with q | q
  ·exact .inl q
  ·exact .inr ⟨q,W.cellsFrom_some _ _ _ (.inl q)⟩
 refine codeAny_call_function hr.depth (KX _ _ lk) rfl S.co S.gen rfl (W.codeRec_of KX hcd) (hb _ _ _ _ ?_)
 refine wpAny_newFunctionEnv_cells S.kind hkind fun env he s1 x=>?_
 subst he
 refine⟨lim.keeps x.toInCall.keep,codeAny_func ?_⟩
 obtain⟨t,ht,hq⟩:=hbody A outer s H vs Q E (hr.deeper _) hsp
 have I:Inv (cxOf CX P w K mg base N qual scope f cdv A outer s H E) [] (start N vs) H s1:=QFo S hr.hd e0 hl r x
 refine wpAny_mono (ht [] s1 (start N vs) H _ I hq) (fun fl s' hs=>?_) fun e s' hs=>hs
 have fin:∀{σ':St}{H':Hp}{v:V}{u:Value},Inv (cxOf CX P w K mg base N qual scope f cdv A outer s H E) [] σ' H' s'->RelV v u->Q v H'->CE outer P w H s Q u s':=
  fun {σ' H' v u} J rv q=>⟨v,H',J.os,J.bare,J.base,J.hok,rv,q⟩
 cases fl with
 | ret u=>
  obtain⟨v,σ',H',J,rv,q⟩:=hs
  exact fin J rv q
 | next=>
  obtain⟨σ',H',J,q⟩:=hs
  exact fin (v:=V.non) (u:=Value.none) J rfl q
 | brk=>
  obtain⟨_,_,_,q⟩:=hs
  exact False.elim q
 | cont=>
  obtain⟨_,_,_,q⟩:=hs
  exact False.elim q
end L2
namespace L2
open PySem PySem.Spec PyProof.Rows
section
variable{X:Cx}{x:Str}{p pos:Pos}{e:Expr}{es:List Expr}{t:TA}{id T:String}{r:List V->Hp->VK->Prop}
def tCB(r:List V->Hp->VK->Prop)(t:TA):TE:=fun σ H Q=>t σ H fun vs H1=>r vs H1 Q
theorem Ql8(hc:CallR X (.builtin id) r)(hg:Gl X x)(hm:X.mg x=none)(hv:bootBuiltins x=some (.builtin id))(ha:PA X (e::es) t)(hn:x≠"__name__":=by decide)(hdb:(x == ("__debug__":Str))=false:=by decide)
 (he:starEach (e::es) X.env=(false,eval e X.env)::starEach es X.env:=by rfl) (hpl:(backTo pos (starEach es X.env)).any (·.1)=false:=by rfl):PE X (.Call (.Name x p) (e::es) [] pos) (tCB r t):=by
 intro pins s σ H Q I h
 refine wpAny_Call_Name_kw (Qfm I hg hm hv ?_ hn hdb)
 exact PyProof.Rows.callWith_builtin1 (thn (ha pos pins s σ H _ I h) fun us s1 ⟨vs,H1,I1,r1,q1⟩=>hc pins s1 σ H1 vs us Q I1 r1 q1) he hpl
theorem Qjs(hc:CallR X (.type T) r)(hg:Gl X x)(hm:X.mg x=none)(hv:bootBuiltins x=some (.type T))(ha:PA X (e::es) t)(hn:x≠"__name__":=by decide)(hdb:(x == ("__debug__":Str))=false:=by decide)
 (he:starEach (e::es) X.env=(false,eval e X.env)::starEach es X.env:=by rfl) (hpl:(backTo pos (starEach es X.env)).any (·.1)=false:=by rfl):PE X (.Call (.Name x p) (e::es) [] pos) (tCB r t):=by
 intro pins s σ H Q I h
 refine wpAny_Call_Name_kw (Qfm I hg hm hv ?_ hn hdb)
 exact PyProof.Rows.callWith_type1 (thn (ha pos pins s σ H _ I h) fun us s1 ⟨vs,H1,I1,r1,q1⟩=>hc pins s1 σ H1 vs us Q I1 r1 q1) he hpl
end
end L2
namespace HT
open PySem PyProof.Rows
section
open PySem.SeqAt
open PySem.AutoSeq1 (wpAny_loadPart')
open PySem.MeetsSeq PySem.MeetsSeq2 PySem.MeetsSeq3
end
section
variable{prog:Program}{w:World}{A:Around}{E:Value->Shared->Prop}{s:Shared}
def sIx(n d:Nat):Option Int->Nat
 | none=>d
 | some v=>if v<0 then(v+(n:Int)).toNat else min v.toNat n
theorem sIx_none(n d:Nat):sIx n d none=d:=rfl
theorem sIx_nat(n d k:Nat):sIx n d (some (k:Int))=min k n:=by
 show(if (k:Int)<0 then((k:Int)+(n:Int)).toNat else min (k:Int).toNat n)=min k n
 rw[if_neg (by omega),Int.toNat_natCast]
end
end HT
namespace L2
open PySem PySem.Spec PyProof.Rows
abbrev TO:=St->Hp->(Option Int->Hp->Prop)->Prop
def PO(X:Cx)(e:Option Expr)(t:TO):Prop:=
 ∀(pins:List (Addr×Obj))(s:Shared)(σ:St)(H:Hp)(Q:Option Int->Hp->Prop),Inv X pins σ H s->t σ H Q->
  wpAny (model X.prog X.w) X.A (evalPart e X.env) (fun u s'=>∃ o H',Inv X pins σ H' s'/\IsPart u o/\Q o H') X.xe s
def QJb:TO:=fun _ H Q=>Q none H
def tPart(t:TE):TO:=fun σ H Q=>t σ H fun x H1=>∃ i,x=.int i/\Q (some i) H1
section
variable{X:Cx}{e:Expr}{te:TE}{lo hi:Option Expr}{tl th:TO}{pos p2:Pos}
theorem QJc:PO X none QJb:=by
 intro pins s σ H Q I h
 rw[evalPart_none]
 exact wpAny_pure ⟨none,H,I,.none,h⟩
theorem QIF(h:PE X e te):PO X (some e) (tPart te):=by
 intro pins s σ H Q I hw
 rw[evalPart_some]
 refine thn (h pins s σ H _ I hw) fun u s1 ⟨x,H1,I1,r1,q1⟩=>?_
 obtain⟨i,rfl,q⟩:=q1
 obtain⟨t,rfl⟩:=r1
 exact⟨some i,H1,I1,.int i t,q⟩
def SlR(X:Cx)(r:V->Option Int->Option Int->Hp->VK->Prop):Prop:=
 ∀(pins:List (Addr×Obj))(s:Shared)(σ:St)(H:Hp)(x:V)(v vl vu:Value)(lo hi:Option Int)(sl:Addr)(Q:VK),Inv X pins σ H s->RelV x v->s.heap.IsSliceOf sl vl vu .none->IsPart vl lo->IsPart vu hi->r x lo hi H Q->
  ∃ T id,typeLookup (.type T) "__getitem__"=pure (some (.builtin id))/\s.TypeIs v T/\wpAny (model X.prog X.w) X.A (getItem v (.ref sl)) (EP X pins σ Q) X.xe s
def tSl(r:V->Option Int->Option Int->Hp->VK->Prop)(te:TE)(tl th:TO):TE:=fun σ H Q=>te σ H fun x H1=>tl σ H1 fun l H2=>th σ H2 fun u H3=>r x l u H3 Q
theorem QHD{r:V->Option Int->Option Int->Hp->VK->Prop}(hr:SlR X r)(he:PE X e te)(hl:PO X lo tl)(hu:PO X hi th):PE X (.Subscript e (.Slice lo hi none p2) pos) (tSl r te tl th):=by
 intro pins s σ H Q I h
 refine Subscript_ (thn (he pins s σ H _ I h) fun v s1 ⟨x,H1,I1,r1,q1⟩=>?_)
 refine wpAny_Slice (thn (hl pins s1 σ H1 _ I1 q1) fun vl s2 ⟨l,H2,I2,pl,q2⟩=>thn (hu pins s2 σ H2 _ I2 q2) fun vu s3 ⟨u,H3,I3,pu,q3⟩=>?_)
 rw[evalPart_none]
 refine wpAny_pure ?_
 have I4:Inv X pins σ H3 { s3 with heap:=s3.heap.push { cls:=.type "slice",data:=.fields #[vl,vu,.none] } }:=I3.kept (t':=s3.toks) fun b ob q=>Heap.get?_push_of_some _ q
 obtain⟨T,id,hT,ht,hg⟩:=hr pins { s3 with heap:=s3.heap.push { cls:=.type "slice",data:=.fields #[vl,vu,.none] } } σ H3 x v vl vu l u s3.heap.objs.size Q I4 r1 (Heap.IsSliceOf.new ..) pl pu q3
 show wpAny (model X.prog X.w) X.A (subscriptTail e (.Slice lo hi none p2) v (.ref s3.heap.objs.size)) (EP X pins σ Q) X.xe { s3 with heap:=s3.heap.push { cls:=.type "slice",data:=.fields #[vl,vu,.none] } }
 exact tail_any (ops:=[.ref s3.heap.objs.size,v]) ht hT hg (by with_unfolding_all rfl)
def cutV(xs:List V)(lo hi:Option Int):List V:=(xs.drop (HT.sIx xs.length 0 lo)).take (HT.sIx xs.length xs.length hi - HT.sIx xs.length 0 lo)
theorem Qy6(xs:List V)(lo hi:Option Int):(cutV xs lo hi).length<=xs.length:=by
 unfold cutV
 rw[List.length_take,List.length_drop]
 omega
end
end L2
namespace L2
open PySem PySem.Spec PyProof.Rows
def ixN(n:Nat)(i:Int):Option Nat:=if 0<=i then(if i<n then some i.toNat else none) else if -(n:Int)<=i then some (i+n).toNat else none
def atI{α:Type}(xs:List α)(i:Int):Option α:=(ixN xs.length i).bind fun j=>xs[j]?
theorem QJq{n:Nat}{i:Int}{j:Nat}(h:ixN n i=some j):seqIndex? i n=some j/\j<n /\ -(n:Int)<=i/\i<n:=by
 unfold ixN at h
 by_cases h0:0<=i
 ·rw[if_pos h0]at h
  by_cases h1:i<n
  ·rw[if_pos h1]at h
   have e:i.toNat=j:=Option.some.inj h
   exact⟨by rw[seqIndex_of h0 h1,e],by omega,by omega,h1⟩
  ·rw[if_neg h1]at h;cases h
 ·rw[if_neg h0]at h
  by_cases h1 : -(n:Int)<=i
  ·rw[if_pos h1]at h
   have e:(i+n).toNat=j:=Option.some.inj h
   exact⟨by rw[seqIndex_neg (by omega) h1,e],by omega,h1,by omega⟩
  ·rw[if_neg h1]at h;cases h
theorem QpG{α:Type}{xs:List α}{i:Int}{v:α}(h:atI xs i=some v):∃ j,seqIndex? i xs.length=some j/\xs[j]?=some v/\j<xs.length /\ -(xs.length:Int)<=i/\i<xs.length:=by
 unfold atI at h
 cases e:ixN xs.length i with
 | none=>rw[e]at h;cases h
 | some j=>
  rw[e]at h
  obtain⟨h1,h2,h3,h4⟩:=QJq e
  exact⟨j,h1,h,h2,h3,h4⟩
theorem Qqr{α:Type}{xs:List α}{j:Nat}{v:α}(h:xs[j]?=some v):atI xs (j:Int)=some v:=by
 have hj:j<xs.length:=(List.getElem?_eq_some_iff.mp h).1
 have e:ixN xs.length (j:Int)=some j:=by
  unfold ixN
  rw[if_pos (by omega),if_pos (by omega)];simp
 unfold atI;rw[e];exact h
def QqA(b:Expr):Prop:=∀ o i,subscripted b false o i=operate [o,i] (getItem o i)
def IxR(X:Cx)(r:R2):Prop:=
 ∀(value slice:Expr)(pins:List (Addr×Obj))(s:Shared)(σ:St)(H:Hp)(x y:V)(v u:Value)(Q:VK),Inv X pins σ H s->RelV x v->RelV y u->r x y H Q->
  subscripted slice false v u=operate [v,u] (getItem v u)->wpAny (model X.prog X.w) X.A (subscriptTail value slice v u) (EP X pins σ Q) X.xe s
def MtR(X:Cx)(id:String)(r:V->List V->Hp->VK->Prop):Prop:=
 ∀(pins:List (Addr×Obj))(s:Shared)(σ:St)(H:Hp)(x:V)(xs:List V)(v:Value)(us:List Value)(Q:VK),Inv X pins σ H s->RelV x v->Vals xs us->r x xs H Q->
  wpAny (model X.prog X.w) X.A (call (.builtin id) (v::us)) (EP X pins σ Q) X.xe s
section
variable{X:Cx}{a b:Expr}{ta tb:TE}{pos:Pos}
theorem IxR.or{r r':R2}(h:IxR X r)(h':IxR X r'):IxR X (fun x y H Q=>r x y H Q∨r' x y H Q):=by
 intro value slice pins s σ H x y v u Q I rx ry q hs
 rcases q with q | q
 ·exact h value slice pins s σ H x y v u Q I rx ry q hs
 ·exact h' value slice pins s σ H x y v u Q I rx ry q hs
theorem pe_ix{r:R2}(hr:IxR X r)(ha:PE X a ta)(hb:PE X b tb)(hs:QqA b):PE X (.Subscript a b pos) (tOp r ta tb):=by
 intro pins s σ H Q I h
 exact Subscript_ (binT ha hb I h fun v u s2 x y H2 I2 rx ry q=>hr a b pins s2 σ H2 x y v u Q I2 rx ry q (hs _ _))
def rIxL(K:W.Frag):R2:=fun x y H Q=>∃ p xs i v,x=.ref p/\y=.int i/\SqL K H p xs/\atI xs i=some v/\Q v H
def rIxT(K:W.Frag):R2:=fun x y H Q=>∃ p xs i v,x=.ref p/\y=.int i/\SqT K H p xs/\atI xs i=some v/\Q v H
def rIxS:R2:=fun x y H Q=>∃ z i c,x=.str z/\y=.int i/\z.length<=sizeLine/\atI z.cps.toList i=some c/\Q (.str ⟨#[c]⟩) H
theorem QJw:IxR X (rIxL X.K):=by
 intro value slice pins s σ H x y v u Q I rx ry h hs
 obtain⟨p,xs,i,z,rfl,rfl,hq,he,q⟩:=h
 cases rx
 obtain⟨t,rfl⟩:=ry
 obtain⟨its,r,pl,hz⟩:=I.list hq
 obtain⟨j,h1,h2,h3,h4,h5⟩:=QpG he
 obtain⟨w,ew,rw'⟩:=r.get h2
 have hl:=r.length
 have hn:=Qj7
 have fin:EP X pins σ Q w s:=⟨z,H,I,rw',q⟩
 by_cases h0:0<=i
 ·have hj:i.toNat=j:=by
   rw[seqIndex_of h0 h5]at h1
   exact Option.some.inj h1
  exact item_listR pl.isList h0 (by omega) (by rw[hj];simpa using ew) fin hs
 ·have hj:(i+(its.toArray.size:Int)).toNat=j:=by
   rw[seqIndex_neg (by omega) h4]at h1
   rw[List.size_toArray, ← hl]
   exact Option.some.inj h1
  exact subscriptTail_builtinR (x:=w) pl.isList.typeIs slot_list_getitem.lookup
   (wpAny_getItem_list_neg (Q:=fun r s'=>r=w/\EP X pins σ Q r s') pl.isList (by omega) (by rw[List.size_toArray]<;>omega) (by omega) (by rw[hj];simpa using ew) ⟨rfl,fin⟩) hs
theorem QKF:IxR X (rIxT X.K):=by
 intro value slice pins s σ H x y v u Q I rx ry h hs
 obtain⟨p,xs,i,z,rfl,rfl,hq,he,q⟩:=h
 cases rx
 obtain⟨t,rfl⟩:=ry
 obtain⟨its,r,pl,hz⟩:=I.tuple hq
 obtain⟨j,h1,h2,h3,h4,h5⟩:=QpG he
 obtain⟨w,ew,rw'⟩:=r.get h2
 have hl:=r.length
 have hn:=Qj7
 have fin:EP X pins σ Q w s:=⟨z,H,I,rw',q⟩
 exact subscriptTail_builtinR (x:=w) pl.typeIs slot_tuple_getitem.lookup
  (getItem_tuple (j:=j) (Q:=fun r s'=>r=w/\EP X pins σ Q r s') pl (by omega) (by omega) (by rw[List.size_toArray, ← hl];exact h1) (by simpa using ew) ⟨rfl,fin⟩) hs
theorem QKt:IxR X rIxS:=by
 intro value slice pins s σ H x y v u Q I rx ry h hs
 obtain⟨z,i,c,rfl,rfl,hz,he,q⟩:=h
 obtain⟨t,rfl⟩:=rx
 obtain⟨t',rfl⟩:=ry
 obtain⟨j,h1,h2,h3,h4,h5⟩:=QpG he
 have hl:z.cps.toList.length=z.length:=by simp[Str.length]
 rw[hl]at h1 h4 h5
 have hn:=Qj7
 exact tail_any (typeIs_str s z t) slot_str_getitem.lookup (getItem_str (c:=c) (by
  have e1:decide (i < -(2 ^ 63:Int))=false:=decide_eq_false (by omega)
  have e2:decide (i ≥ 2 ^ 63)=false:=decide_eq_false (by omega)
  rw[e1,e2,Bool.or_false]) (by rw[h1];simpa using h2) ⟨.str ⟨#[c]⟩,H,I.tok _,⟨_,rfl⟩,q⟩) hs
def rIx(K:W.Frag):R2:=fun x y H Q=>rIxL K x y H Q∨rIxT K x y H Q∨rIxS x y H Q
theorem QFe:IxR X (rIx X.K):=QJw.or (QKF.or QKt)
theorem Inv.lst{pins:List (Addr×Obj)}{σ:St}{H:Hp}{s:Shared}{p:Addr}{xs:List V}(I:Inv X pins σ H s)(h:H p=some (.lst xs)):
 ∃(its:List Value)(n:Nat),Vals xs its/\s.heap.get? p=some { cls:=.type "list",data:=.seq its.toArray n }/\xs.length<=sizeLine:=by
 obtain⟨z,its,n,r,e⟩:=I.hok p _ h
 exact⟨its,n,r,e,z⟩
theorem QuM(lo hi:Option Int)(n:Nat):(sliceBounds lo hi none n).1=((HT.sIx n 0 lo:Nat):Int)/\(sliceBounds lo hi none n).2.1=((HT.sIx n n hi:Nat):Int)/\(sliceBounds lo hi none n).2.2=1:=by
 refine⟨?_,?_,rfl⟩
 ·cases lo with
  | none=>simp[sliceBounds,HT.sIx]
  | some i=>
   simp only[sliceBounds,HT.sIx,Option.getD_none,show(1:Int) > 0 by decide,if_true]
   by_cases h:i<0
   ·simp only[h,if_true]<;>omega
   ·simp only[h,if_false]<;>omega
 ·cases hi with
  | none=>simp[sliceBounds,HT.sIx]
  | some i=>
   simp only[sliceBounds,HT.sIx,Option.getD_none,show(1:Int) > 0 by decide,if_true]
   by_cases h:i<0
   ·simp only[h,if_true]<;>omega
   ·simp only[h,if_false]<;>omega
theorem QtP(its:List Value)(lo hi:Option Int):slicePick its.toArray lo hi none=((its.drop (HT.sIx its.length 0 lo)).take (HT.sIx its.length its.length hi - HT.sIx its.length 0 lo)).toArray:=by
 obtain⟨h1,h2,h3⟩:=QuM lo hi its.toArray.size
 unfold slicePick
 rw[h1,h2,h3]
 simp only[sliceRange_one,pick_run,List.size_toArray]<;>rfl
def rSlL(K:W.Frag):V->Option Int->Option Int->Hp->VK->Prop:=fun x lo hi H Q=>∃ a xs,x=.ref a/\SqL K H a xs/\∀ p,H p=none->Q (.ref p) (upd H p (.lst (cutV xs lo hi)))
theorem QIS:SlR X (rSlL X.K):=by
 intro pins s σ H x v vl vu lo hi sl Q I rx hs pl pu h
 obtain⟨a,xs,rfl,hx,q⟩:=h
 cases rx
 obtain⟨its,r,ht,hz⟩:=I.list hx
 have hlen:=r.length
 refine⟨"list",_,slot_list_getitem.lookup,ht.isList.typeIs,?_⟩
 refine wpAny_getItem_list_slice ht.isList hs pl pu .none (by simp) ?_ (by rw[List.size_toArray]<;>omega)
 rw[QtP, ← hlen]
 refine⟨.ref s.heap.objs.size,_,I.laid (t':=s.toks) (o:=.lst (cutV xs lo hi)) (fun b ob q=>Heap.get?_push_of_some _ q) (Nat.le_refl _) ?_,rfl,q _ (I.hok.fresh (Nat.le_refl _))⟩
 exact⟨Nat.le_trans (Qy6 xs lo hi) hz,_,0,(r.drop (HT.sIx xs.length 0 lo)).take (HT.sIx xs.length xs.length hi - HT.sIx xs.length 0 lo),Heap.get?_push_size _ rfl⟩
def flatV:V->Bool
 | .non=>true
 | .bl _=>true
 | .int _=>true
 | .str _=>true
 | _=>false
def eqV:V->V->Bool
 | .non,.non=>true
 | .bl a,.bl b=>a == b
 | .bl a,.int b=>(if a then 1 else 0) == b
 | .int a,.bl b=>a == (if b then 1 else 0)
 | .int a,.int b=>a == b
 | .str a,.str b=>a == b
 | _,_=>false
theorem QJ2{A:Around}{s:Shared}{y x:V}{u v:Value}(ry:RelV y u)(rx:RelV x v)(fy:flatV y=true)(fx:flatV x=true):SeqAt.EqAt A s u v (eqV y x):=by
 cases y with
 | non=>
  cases ry
  cases x with
  | non=>cases rx;exact SeqAt.EqAt.same _
  | bl b=>cases rx;exact SeqAt.EqAt.none_bool b
  | int b=>obtain⟨t,rfl⟩:=rx;exact SeqAt.EqAt.none_int b t
  | str b=>obtain⟨t,rfl⟩:=rx;exact SeqAt.EqAt.none_str b t
  | _=>exact absurd (show false=true from fx) Bool.false_ne_true
 | bl a=>
  cases ry
  cases x with
  | non=>cases rx;exact SeqAt.EqAt.bool_none a
  | bl b=>cases rx;exact SeqAt.EqAt.bool_bool a b
  | int b=>obtain⟨t,rfl⟩:=rx;exact SeqAt.EqAt.bool_int a b t
  | str b=>obtain⟨t,rfl⟩:=rx;exact SeqAt.EqAt.bool_str a b t
  | _=>exact absurd (show false=true from fx) Bool.false_ne_true
 | int a=>
  obtain⟨t',rfl⟩:=ry
  cases x with
  | non=>cases rx;exact SeqAt.EqAt.int_none a t'
  | bl b=>cases rx;exact SeqAt.EqAt.int_bool a t' b
  | int b=>obtain⟨t,rfl⟩:=rx;exact SeqAt.EqAt.int_int a t' b t
  | str b=>obtain⟨t,rfl⟩:=rx;exact SeqAt.EqAt.int_str a t' b t
  | _=>exact absurd (show false=true from fx) Bool.false_ne_true
 | str a=>
  obtain⟨t',rfl⟩:=ry
  cases x with
  | non=>cases rx;exact SeqAt.EqAt.str_none a t'
  | bl b=>cases rx;exact SeqAt.EqAt.str_bool a t' b
  | int b=>obtain⟨t,rfl⟩:=rx;exact SeqAt.EqAt.str_int a t' b t
  | str b=>obtain⟨t,rfl⟩:=rx;exact SeqAt.EqAt.str_str a t' b t
  | _=>exact absurd (show false=true from fx) Bool.false_ne_true
 | _=>exact absurd (show false=true from fy) Bool.false_ne_true
def eqU(x:V)(u:Value):Bool:=match u with
 | .none=>eqV .non x
 | .bool b=>eqV (.bl b) x
 | .int i _=>eqV (.int i) x
 | .str z _=>eqV (.str z) x
 | _=>false
theorem QGV{x y:V}{u:Value}(r:RelV y u)(f:flatV y=true):eqU x u=eqV y x:=by
 cases y with
 | non=>cases r;rfl
 | bl b=>cases r;rfl
 | int i=>obtain⟨t,rfl⟩:=r;rfl
 | str z=>obtain⟨t,rfl⟩:=r;rfl
 | _=>exact absurd (show false=true from f) Bool.false_ne_true
theorem Qh0{x:V}:∀{xs:List V}{us:List Value},Vals xs us->xs.all flatV=true->us.any (eqU x)=xs.any fun y=>eqV y x
 | _,_,.nil,_=>rfl
 | y::xs,u::us,.cons r t,f=>by
  rw[List.all_cons,Bool.and_eq_true]at f
  rw[List.any_cons,List.any_cons,QGV r f.1,Qh0 t f.2]
theorem Qgr{A:Around}{s:Shared}{x:V}{v:Value}(rx:RelV x v)(fx:flatV x=true):∀{xs:List V}{us:List Value},Vals xs us->xs.all flatV=true->∀ u∈us,SeqAt.EqAt A s u v (eqU x u)
 | _,_,.nil,_=>fun u hu=>by cases hu
 | y::xs,u::us,.cons r t,f=>fun u' hu=>by
  rw[List.all_cons,Bool.and_eq_true]at f
  rcases List.mem_cons.mp hu with rfl | hu
  ·rw[QGV r f.1];exact QJ2 r rx f.1 fx
  ·exact Qgr rx fx t f.2 u' hu
def inV(x:V)(xs:List V):Bool:=xs.any fun y=>eqV y x
def rIn(K:W.Frag)(neg:Bool):R2:=fun x y H Q=>∃ p xs,y=.ref p/\(SqL K H p xs∨SqT K H p xs)/\flatV x=true/\xs.all flatV=true/\Q (.bl (if neg then !inV x xs else inV x xs)) H
theorem QrI:OpR X (compareOp .In) (rIn X.K false):=by
 intro pins s σ H x y v u Q I rx ry h
 obtain⟨p,xs,rfl,hq,fx,fs,q⟩:=h
 cases ry
 rcases hq with hq | hq
 ·obtain⟨its,r,pl,hz⟩:=I.list hq
  refine SeqAt.in_listAt (eqU x) pl.isList (fun w hw=>Qgr rx fx r fs w (by simpa using hw)) ⟨.bl _,H,I,rfl,?_⟩
  rw[show its.toArray.any (eqU x)=its.any (eqU x) by simp,Qh0 r fs]
  exact q
 ·obtain⟨its,r,pl,hz⟩:=I.tuple hq
  refine SeqAt.in_tupleAt (eqU x) pl (fun w hw=>Qgr rx fx r fs w (by simpa using hw)) ⟨.bl _,H,I,rfl,?_⟩
  rw[show its.toArray.any (eqU x)=its.any (eqU x) by simp,Qh0 r fs]
  exact q
theorem QvL:OpR X (compareOp .NotIn) (rIn X.K true):=by
 intro pins s σ H x y v u Q I rx ry h
 obtain⟨p,xs,rfl,hq,fx,fs,q⟩:=h
 cases ry
 rcases hq with hq | hq
 ·obtain⟨its,r,pl,hz⟩:=I.list hq
  refine SeqAt.notIn_listAt (eqU x) pl.isList (fun w hw=>Qgr rx fx r fs w (by simpa using hw)) ⟨.bl _,H,I,rfl,?_⟩
  rw[show its.toArray.any (eqU x)=its.any (eqU x) by simp,Qh0 r fs]
  exact q
 ·obtain⟨its,r,pl,hz⟩:=I.tuple hq
  refine SeqAt.notIn_tupleAt (eqU x) pl (fun w hw=>Qgr rx fx r fs w (by simpa using hw)) ⟨.bl _,H,I,rfl,?_⟩
  rw[show its.toArray.any (eqU x)=its.any (eqU x) by simp,Qh0 r fs]
  exact q
theorem Qv8:CallR X (.builtin "len") (fun xs H Q=>∃ p ys,xs=[.ref p]/\(SqL X.K H p ys∨SqT X.K H p ys)/\Q (.int ys.length) H):=by
 intro pins s σ H xs us Q I r h
 obtain⟨p,ys,rfl,hq,q⟩:=h
 obtain⟨u,rfl,rx⟩:=vals1 r
 cases rx
 have hn:=Qj7
 rcases hq with hq | hq
 ·obtain⟨its,r',pl,hz⟩:=I.list hq
  have hlen:=r'.length
  exact Calls.call_len_list pl.isList (by simp only[List.size_toArray]<;>omega) ⟨.int ys.length,H,I.tok _,⟨s.toks+1,by rw[List.size_toArray,hlen]⟩,q⟩
 ·obtain⟨its,r',pl,hz⟩:=I.tuple hq
  have hlen:=r'.length
  exact len_tuple pl (by simp only[List.size_toArray]<;>omega) ⟨.int ys.length,H,I.tok _,⟨s.toks+1,by rw[List.size_toArray,hlen]⟩,q⟩
theorem Qu9:CallR X (.builtin "len") (fun xs H Q=>∃ z,xs=[.str z]/\z.length<=sizeLine/\Q (.int z.length) H):=by
 intro pins s σ H xs us Q I r h
 obtain⟨z,rfl,hz,q⟩:=h
 obtain⟨u,rfl,t,rfl⟩:=vals1 r
 have hn:=Qj7
 exact len_str (by omega) ⟨.int z.length,H,I.tok _,⟨_,rfl⟩,q⟩
theorem CallR.or{f:Value}{r r':List V->Hp->VK->Prop}(h:CallR X f r)(h':CallR X f r'):CallR X f (fun xs H Q=>r xs H Q∨r' xs H Q):=by
 intro pins s σ H xs us Q I rs q
 rcases q with q | q
 ·exact h pins s σ H xs us Q I rs q
 ·exact h' pins s σ H xs us Q I rs q
theorem QkM:CallR X (.type "list") (fun xs H Q=>∃ p ys,xs=[.ref p]/\(SqL X.K H p ys∨SqT X.K H p ys)/\∀ l,H l=none->Q (.ref l) (upd H l (.lst ys))):=by
 intro pins s σ H xs us Q I r h
 obtain⟨p,ys,rfl,hq,q⟩:=h
 obtain⟨u,rfl,rx⟩:=vals1 r
 cases rx
 have fin:∀(its:List Value),Vals ys its->ys.length<=sizeLine->∀(h':Heap)(c':Nat),(∀ b o',s.heap.get? b=some o'->h'.get? b=some o')->
  h'.get? s.heap.objs.size=some { cls:=.type "list",dict:=none,data:=.seq its.toArray c',slots := #[] }->EP X pins σ Q (.ref s.heap.objs.size) { s with heap:=h' }:=fun its r' hz h' c' kp e=>
  ⟨.ref s.heap.objs.size,_,I.laid (t':=s.toks) kp (Nat.le_refl _) (show ObjOk X.prog X.w _ h' _ (.lst ys) from⟨hz,its,c',r',e⟩),rfl,q _ (I.hok.fresh (Nat.le_refl _))⟩
 rcases hq with hq | hq
 ·obtain⟨its,r',pl,hz⟩:=I.list hq
  have hlen:=r'.length
  obtain⟨o,ho,hc,n,hd⟩:=pl.isList
  exact call_list_seq p (.inl rfl) ho hc hd (fun h' c' kp e=>fin its r' hz h' c' kp e) (by simp only[List.size_toArray]<;>omega)
 ·obtain⟨its,r',pl,hz⟩:=I.tuple hq
  have hlen:=r'.length
  obtain⟨o,ho,hc,n,hd⟩:=pl
  exact call_list_seq p (.inr rfl) ho hc hd (fun h' c' kp e=>fin its r' hz h' c' kp e) (by simp only[List.size_toArray]<;>omega)
def tyV(K:W.Frag)(T:String)(x:V)(H:Hp):Prop:=match x with
 | .str _=>T="str"
 | .int _=>T="int"
 | .ref p=>(T="list"/\∃ xs,SqL K H p xs)∨(T="tuple"/\∃ o,K.lookup p=some o/\o.cls=.type "tuple"/\o.dict=none)∨
  (T="dict"/\((∃ kvs,H p=some (.dK kvs))∨∃ kvs,H p=some (.dT kvs)))∨(T="set"/\∃ S n,H p=some (.set S n))
 | _=>False
theorem QKw{pins:List (Addr×Obj)}{σ:St}{H:Hp}{s:Shared}{T:String}{x:V}{v:Value}(I:Inv X pins σ H s)(r:RelV x v)(ty:tyV X.K T x H):
 s.TypeIs v T/\∀ a,v=.ref a->∃ ob,s.heap.get? a=some ob/\ob.dict=none:=by
 cases x with
 | str z=>
  obtain⟨t,rfl⟩:=r
  cases (show T="str" from ty)
  exact⟨typeIs_str s z t,fun _ e=>nomatch e⟩
 | int i=>
  obtain⟨t,rfl⟩:=r
  cases (show T="int" from ty)
  exact⟨typeIs_int s i t,fun _ e=>nomatch e⟩
 | ref p=>
  cases r
  rcases ty with⟨rfl,xs,hq⟩ | ⟨rfl,o,hk,hc,hd⟩ | ⟨rfl,hk⟩ | ⟨rfl,S,n,hk⟩
  ·obtain⟨its,_,pl,_⟩:=I.list hq
   refine⟨pl.isList.typeIs,fun a e=>?_⟩
   cases e
   obtain⟨o,n,e,c,hd,_⟩:=pl
   exact⟨o,e,hd⟩
  ·refine⟨⟨o,I.kIn p o hk,hc⟩,fun a e=>?_⟩
   cases e
   exact⟨o,I.kIn _ o hk,hd⟩
  ·have z:∃ o,s.heap.get? p=some o/\o.ExactDict:=by
    rcases hk with⟨kvs,hk⟩ | ⟨kvs,hk⟩
    ·obtain⟨_,_,_,_,o,_,_,e,ex,_⟩:=I.hok p _ hk
     exact⟨o,e,ex⟩
    ·obtain⟨_,_,_,_,o,_,_,e,ex,_⟩:=I.hok p _ hk
     exact⟨o,e,ex⟩
   obtain⟨o,e,ex⟩:=z
   refine⟨⟨o,e,ex.1⟩,fun a e2=>?_⟩
   cases e2
   exact⟨o,e,ex.2.1⟩
  ·obtain⟨o,_,_,_,e,ex,_⟩:=I.hok p _ hk
   refine⟨⟨o,e,ex.1⟩,fun a e2=>?_⟩
   cases e2
   exact⟨o,e,ex.2.1⟩
 | _=>exact False.elim ty
def tBM(K:W.Frag)(T:String)(r:V->List V->Hp->VK->Prop)(to:TE)(t:TA):TE:=fun σ H Q=>to σ H fun x H1=>tyV K T x H1/\t σ H1 fun xs H2=>r x xs H2 Q
variable{o e:Expr}{es:List Expr}{to:TE}{t:TA}{name:Str}{apos cpos:Pos}{T id:String}{r:V->List V->Hp->VK->Prop}
theorem pe_bm(pa:PlainAttrs T)(slot:Slot T name id)(hty:typeOf (.builtin id)=pure (.type "method_descriptor"))(hm:MtR X id r)(ho:PE X o to)(ha:PA X (e::es) t)
 (hbase:attributeBase o name X.env (eval o X.env)=eval o X.env:=by rfl)
 (hfew:((backTo cpos (starEach (e::es) X.env)).all (fun x => !x.1)&&(backToKw cpos (keywordEach [] X.env)).all (fun x=>x.1.isSome)
  && decide ((e::es).length+([]:List Keyword).length+(if ([]:List Keyword).isEmpty then 0 else 1)<30))=true:=by rfl)
 (hline:(apos.endLine == cpos.line)=true:=by rfl) (hs:starEach (e::es) X.env=(false,eval e X.env)::starEach es X.env:=by rfl) (hplain:(backTo cpos (starEach es X.env)).any (·.1)=false:=by rfl):
 PE X (.Call (.Attribute o name apos) (e::es) [] cpos) (tBM X.K T r to t):=by
 intro pins s σ H Q I h
 refine wpAny_Call_method_late hbase hfew hline rfl (thn (ho pins s σ H _ I h) fun v s1 ⟨x,H1,I1,r1,ty,q1⟩=>?_)
 obtain⟨h1,h2⟩:=QKw I1 r1 ty
 refine⟨T,id,pa,slot,hty,h1,h2,?_⟩
 have hA:=ha cpos pins s1 σ H1 _ I1 q1
 rw[hs]at hA ⊢
 refine Calls.callWith_builtin (by show(false||(backTo cpos (starEach es X.env)).any (·.1))=false;rw[hplain]<;>rfl) (Calls.evalArgs_plain ?_)
 exact thn hA fun us s2 ⟨vs,H2,I2,r2,q2⟩=>hm pins s2 σ H2 x vs v us Q I2 r1 r2 q2
end
end L2
namespace L2
open PySem PySem.Spec PyProof.Rows
def MtM(X:Cx)(id:String)(r:V->List V->Hp->VK->Prop):Prop:=
 ∀(pins:List (Addr×Obj))(s:Shared)(σ:St)(H:Hp)(x:V)(xs:List V)(v:Value)(us:List Value)(Q:VK),Inv X pins σ H s->RelV x v->Vals xs us->r x xs H Q->
  wpAny (model X.prog X.w) X.A (call (.builtin id) (v::us)) (EP X pins σ Q) X.xe s
theorem Vals.one:∀{x:V}{us:List Value},Vals [x] us->∃ u,us=[u]/\RelV x u
 | _,_,.cons r .nil=>⟨_,rfl,r⟩
theorem Vals.rep{xs:List V}{us:List Value}(h:Vals xs us):∀ k:Nat,Vals (List.replicate k xs).flatten (List.replicate k us).flatten
 | 0=>.nil
 | k+1=>by
  rw[List.replicate_succ,List.replicate_succ,List.flatten_cons,List.flatten_cons]
  exact Vals.append h (Vals.rep h k)
theorem Qr0(its:List Value):∀(k:Nat)(acc:List Value),
 List.foldl (fun x1 x2=>x1++x2) acc.toArray (List.replicate k its.toArray)=(acc++(List.replicate k its).flatten).toArray
 | 0,acc=>by simp
 | k+1,acc=>by
  have e:acc.toArray++its.toArray=(acc++its).toArray:=by simp
  have e2:(acc++its)++(List.replicate k its).flatten=acc++(List.replicate (k+1) its).flatten:=by
   rw[List.replicate_succ,List.flatten_cons,List.append_assoc]
  rw[← e2, ← Qr0 its k (acc++its), ← e,List.replicate_succ,List.foldl_cons]
section
variable{X:Cx}{pins:List (Addr×Obj)}{σ:St}{H:Hp}{s:Shared}{l b:Addr}{xs ys zs:List V}
theorem Inv.lset{its its':List Value}{n:Nat}{f:Array Value->Array Value}{t':Nat}(I:Inv X pins σ H s)(hH:H l=some (.lst xs))
 (e:s.heap.get? l=some { cls:=.type "list",data:=.seq its.toArray n }) (hf:f its.toArray=its'.toArray) (hv:Vals ys its') (hz:ys.length<=sizeLine):
 Inv X pins σ (upd H l (.lst ys)) { s with heap:=s.heap.update l (Obj.mapSeq f),toks:=t' }:=by
 have q:=PySem.IsL.update e f
 rw[hf]at q
 refine I.write (x:=l) (e:=l) (by rw[hH];exact trivial) (.inl rfl) (fun b' u hb hu=>(Heap.get?_update_other s.heap (Obj.mapSeq f) (Ne.symm hb)).trans hu) ⟨_,q⟩ ?_
 exact⟨hz,its',_,hv,q⟩
theorem Inv.lnew{its:List Value}{t':Nat}(I:Inv X pins σ H s)(hv:Vals ys its)(hz:ys.length<=sizeLine):
 Inv X pins σ (upd H s.heap.objs.size (.lst ys)) { s with heap:=s.heap.push { cls:=.type "list",data:=.seq its.toArray },toks:=t' }:=
 I.laid (fun _ _ q=>Heap.get?_push_of_some _ q) (Nat.le_refl _) ⟨hz,its,0,hv,Heap.get?_push_size _ rfl⟩
theorem Inv.fresh(I:Inv X pins σ H s):H s.heap.objs.size=none:=I.hok.fresh (Nat.le_refl _)
theorem Inv.lstM(I:Inv X pins σ H s)(hH:H l=some (.lst xs)):xs.length<=sizeLine/\∃(its:List Value)(n:Nat),Vals xs its/\xs.length=its.length/\s.heap.get? l=some { cls:=.type "list",data:=.seq its.toArray n }:=by
 obtain⟨z,its,n,r,e⟩:=I.hok l _ hH
 exact⟨z,its,n,r,r.length,e⟩
theorem QHs{n:Nat}(h:n<=sizeLine):Builtin.List.listTooLong n=false:=by
 unfold Builtin.List.listTooLong
 exact decide_eq_false (by omega)
end
section
variable{X:Cx}
def QIB:V->List V->Hp->VK->Prop:=fun x vs H Q=>∃ l xs y,x=.ref l/\vs=[y]/\H l=some (.lst xs)/\xs.length<sizeLine/\Q .non (upd H l (.lst (xs++[y])))
theorem QrG:MtM X "list.append" QIB:=by
 intro pins s σ H x vs v us Q I rx rv h
 obtain⟨l,xs,y,rfl,rfl,hH,hz,q⟩:=h
 cases rx
 obtain⟨u,rfl,ru⟩:=rv.one
 obtain⟨z,its,n,r,hl,e⟩:=I.lstM hH
 refine call_meets F.slot_list_append ⟨_,e,rfl⟩ F.entry_list_append (F.args_list_append_2 _ _) (PySem.list_append l its.toArray n u (by rw[List.size_toArray];omega)) ⟨e,?_⟩
 refine⟨.non,_,I.lset (its':=its++[u]) hH e (by simp) (r.append (.cons ru .nil)) ?_,rfl,q⟩
 rw[List.length_append,List.length_singleton]
 omega
def rRep:R2:=fun x y H Q=>∃ l k xs,x=.ref l/\y=.int k/\H l=some (.lst xs) /\ -(2 ^ 63)<=k/\k<2 ^ 63/\xs.length * k.toNat<=sizeLine/\
 ∀ p,H p=none->Q (.ref p) (upd H p (.lst (List.replicate k.toNat xs).flatten))
theorem QJl{α:Type}(xs:List α)(k:Nat):(List.replicate k xs).flatten.length=k * xs.length:=by
 induction k with
 | zero=>simp
 | succ k ih=>rw[List.replicate_succ,List.flatten_cons,List.length_append,ih,Nat.succ_mul,Nat.add_comm]
theorem QKU:OpR X (binaryOp .Mult) rRep:=by
 intro pins s σ H x y v u Q I rx ry h
 obtain⟨l,k,xs,rfl,rfl,hH,h1,h2,hz,q⟩:=h
 cases rx
 obtain⟨t,rfl⟩:=ry
 obtain⟨z,its,n,r,hl,e⟩:=I.lstM hH
 have hlen:its.toArray.size * k.toNat<=sizeLine:=by rw[List.size_toArray, ← hl];exact hz
 have hcap:¬ its.toArray.size * k.toNat > (2 ^ 63 - 1) / 8:=by
  have:(sizeLine:Nat)<=(2 ^ 63 - 1) / 8:=by decide
  omega
 have hfit:¬ (!Builtin.List.listFitsIndex k)=true:=by
  rw[fitsIndex_both h1 h2]
  exact Bool.false_ne_true
 have hlong:¬ Builtin.List.listTooLong (its.toArray.size * k.toNat)=true:=by
  rw[QHs hlen]
  exact Bool.false_ne_true
 have hnew:List.foldl (fun x1 x2=>x1++x2) #[] (List.replicate (if its.toArray.isEmpty=true then 0 else k.toNat) its.toArray)=(List.replicate k.toNat its).flatten.toArray:=by
  have f0:∀ m:Nat,List.foldl (fun x1 x2=>x1++x2) #[] (List.replicate m its.toArray)=(List.replicate m its).flatten.toArray:=fun m=>by
   have:=Qr0 its m []
   rw[List.nil_append]at this
   exact this
  rw[f0]
  cases its with
  | nil=>simp
  | cons a r'=>rw[if_neg (by simp)]
 refine wpAny_binaryOp_repeat_ref (T:="list") (U:="int") (by decide) ⟨_,e,rfl⟩ (fun s'=>typeIs_int s' k t) noFill_list_mul F.fills_int_mul F.slot_int_rmul repeat_list F.slot_int_index.lookup
  (call_meets F.slot_int_rmul (typeIs_int s k t) F.entry_int_rmul (F.args_int_rmul_2 _ _) (int___rmul___int_list k t l its.toArray n)
   ⟨e,rfl,⟨_,e,rfl⟩,call_meets F.slot_list_mul ⟨_,e,rfl⟩ F.entry_list_mul (F.args_list_mul_2 _ _) (AutoListH.list___mul___list_int_3 l its.toArray n k t hfit hcap hlong) ⟨e,?_⟩⟩)
 rw[hnew]
 exact⟨.ref _,_,I.lnew (t':=s.toks) (r.rep k.toNat) (by rw[QJl,Nat.mul_comm];exact hz),rfl,q _ I.fresh⟩
end
section
variable{prog:Program}{w:World}{A:Around}{E:Value->Shared->Prop}{s:Shared}
end
section
variable{X:Cx}
end
end L2
namespace Att
open PySem PySem.W PySem.Calls PyProof.Rows
theorem Qn6{P:Params}{h:Heap}:∀(ns:List Int)(vs:List Value),WellAll P h vs (ns.map WData.int)->IntsAre vs ns:=by
 intro ns
 induction ns with
 | nil=>
  intro vs w
  rw[List.map_nil]at w
  cases w
  exact .nil
 | cons n ns ih=>
  intro vs w
  rw[List.map_cons]at w
  cases w with
  | cons a b=>
   cases a
   exact .cons _ _ (ih _ b)
theorem script_of{l:OpenLaw}{n:Nat}(hn:l.most=some n){P:Params}{h:Heap}{args:List WData}{vals:List Value}
 (hpre:l.row.toRowW.claim.pre args=true) (hwl:WellAll P h vals args):
 ∃ a vs ns,vals=[Value.ref a]/\args=[WData.list (ns.map WData.int)]/\h.get? a=some { cls:=.type "list",data:=.seq vs.toArray }/\IntsAre vs ns/\ns.length<=n:=by
 have hsh:WShape.hasAll [] args [.list .int]=true:=(pre_splitW hpre).1
 have hc:l.pre.holds [] { args:=args }=true:=(pre_splitW hpre).2
 obtain⟨d,r,rfl,h1,h2⟩:=hasAllW_cons hsh
 obtain rfl:=hasAllW_nil h2
 obtain⟨xs,rfl,h3⟩:=hasW_list h1
 obtain⟨ns,rfl⟩:=items_int h3
 have hlen:ns.length<=n:=by
  unfold OpenLaw.pre at hc
  have h4:(WTm.not (.lt (.lit (.int (n:Int))) (.len (.arg 0)))).holds [] { args:=[.list (ns.map .int)] }=true:=by
   have h4:=(holds_andW hc).1
   rw[hn]at h4
   exact h4
  have h5:=condW_of h4 (w_not (w_lt w_lit (w_len_list (w_arg rfl))))
  rw[List.length_map]at h5
  refine Nat.le_of_not_lt fun q=>?_
  have q':(n:Int)<((ns.length:Nat):Int):=by omega
  first
   | (rw[decide_eq_true q']at h5;exact absurd h5 (by decide))
   | (simp at h5;omega)
 cases hwl with
 | cons w1 w2=>
  cases w2
  cases w1 with
  | list ho hall=>exact⟨_,_,ns,rfl,rfl,ho,Qn6 ns _ hall,hlen⟩
theorem post_true(l:OpenLaw)(args:List WData):l.row.toRowW.claim.post args (.bool true) args=true:=
 postW_of (r:=l.row.toRowW) (X:=(true == true))
  (show WShape.has [] (.bool true) .bool=true by first | rfl | decide | simp[WShape.has,WShape.arms,WShape.armsAll])
  (show(WTm.eq .res (.lit (.bool true))).value [] { args:=args,res:=some (.bool true),after:=args }=some (.bool (true == true)) from w_eq_bool (w_res rfl) w_lit) rfl
section
variable{prog:Program}{w:World}{A:Around}{E:Value->Shared->Prop}{s:Shared}{K:Frag}
end
end Att
namespace L2
open PySem PySem.Spec PyProof.Rows
theorem QrE:∀{vs:List Value}{ns:List Int},IntsAre vs ns->Vals (ns.map V.int) vs
 | _,_,.nil=>.nil
 | _,_,.cons n t h=>.cons ⟨t,rfl⟩ (QrE h)
def Only(H:Hp):Prop:=∀ b,H b=none∨∃ o xs,H b=some (.frz o (.lst xs))
theorem QHQ{P:Program}{w:World}{K:W.Frag}{mg mb:Str->Option Value}{CX:CXT}{k:Nat}{fa a:Addr}{fd:FuncData}{x:Str}{sp:Sp}{s₁:Shared}{vs:List Value}{ns:List Int}
 (KX:K.In s₁.heap) (hns:s₁.heap.Ns mainGlobals mg) (hb:s₁.heap.Ns builtinsNs mb) (hbb:∀ x:Str,x≠"__name__"->mb x=bootBuiltins x) (hlim:s₁.heap.NoLimit) (hg:s₁.gens = #[])
 (ha:s₁.heap.get? a=some { cls:=.type "list",data:=.seq vs.toArray }) (hi:IntsAre vs ns) (hl:ns.length<=sizeLine) (hr:Room k callerA)
 (F:∀ base:Heap,K.In base->base.Ns mainGlobals mg->FnOk P w K mg base CX k fa fd [x] sp) (hbind:∀(s:Shared)(u:Value),BindsTo s fd ⟨[u],[]⟩ [(x,u)])
 (hsp:∀ H:Hp,Only H->SqL K H a (ns.map V.int)->sp [.ref a] H (fun v _=>v=.bl true) fun _ _ _=>False)
 (hCX:∀ H e s',CX [] H s₁ (fun _ _ _=>False) e s'->False):
 codeAny (model P w) callerA (.call (.ref fa) ⟨[.ref a],[]⟩) (fun r s'=>r=.ok (.ret (.bool true))/\OldK s₁.heap s'.heap/\s'.os=s₁.os/\AllBare s'.gens) s₁:=by
 have rv:=QrE hi
 have lenV:=hi.length
 -- from an abstract heap in which nothing but the script may be tracked
 have core:∀ H:Hp,Only H->SqL K H a (ns.map V.int)->HOk P w H s₁.heap->(∀ b,H b≠none->b=a)->(H a≠none->K.lookup a=none)->
  codeAny (model P w) callerA (.call (.ref fa) ⟨[.ref a],[]⟩) (fun r s'=>r=.ok (.ret (.bool true))/\OldK s₁.heap s'.heap/\s'.os=s₁.os/\AllBare s'.gens) s₁:=by
  intro H hO hS hok hA hK
  have base_of:∀{b:Addr}{o:Obj},s₁.heap.get? b=some o->H b=none->(hidT s₁.heap H).get? b=some o:=fun e n=>QHZ e n
  have noA:∀{b:Addr}{o:Obj}{es:Array DictEntry}{ep:Nat},s₁.heap.get? b=some o->o.data=.dict es ep->H b=none:=fun {b o es ep} e d=>by
   cases q:H b with
   | none=>rfl
   | some u=>
    have e':b=a:=hA b (by rw[q];simp)
    subst e'
    rw[ha]at e;cases e
    have d':Data.seq vs.toArray _=Data.dict es ep:=d
    cases d'
  have nsK:∀{b:Addr}{m:Str->Option Value},s₁.heap.Ns b m->(hidT s₁.heap H).Ns b m:=fun {b m} ⟨o,es,ep,e,d,r⟩=>⟨o,es,ep,base_of e (noA e d),d,r⟩
  have hKb:K.In (hidT s₁.heap H):=fun b o e=>base_of (KX b o e) (by
   cases q:H b with
   | none=>rfl
   | some u=>
    have e':b=a:=hA b (by rw[q];simp)
    subst e'
    rw[hK (by rw[q];simp)]at e;cases e)
  have hM:Mod K mg (hidT s₁.heap H):=⟨hKb,nsK hns,⟨mb,nsK hb,hbb⟩,let ⟨mc,h1,h2⟩:=hlim;⟨mc,nsK h1,h2⟩⟩
  have e0:Env0 P w K mg (hidT s₁.heap H) callerA [] s₁ H:=⟨rfl,hM,fun b o e=>QIP e,Nat.le_of_eq (QFw _ _),trivial,fun b hb=>absurd (show b∈([]:List Addr) from hb) (by simp),hok,.of_eq hg⟩
  refine codeAny_mono ((F _ hKb (nsK hns)).run callerA [] s₁ H ⟨[.ref a],[]⟩ [.ref a] [.ref a] _ _ hr e0 (hbind s₁ (.ref a)) (.cons rfl .nil) (hsp H hO hS)) fun r s' h=>?_
  cases r with
  | error e=>exact(hCX H e s' h).elim
  | ok fl=>
   cases fl with
   | next=>exact False.elim h
   | brk=>exact False.elim h
   | cont=>exact False.elim h
   | ret u=>
    obtain⟨v,H',os,bare,un,hok',r',q⟩:=h
    have q':v=.bl true:=q
    subst q'
    obtain rfl:u=Value.bool true:=r'
    refine⟨rfl,OldK.of_keep fun b o e=>?_,os,bare⟩
    cases q:H b with
    | none=>exact un.keep b o e q (by intro z;exact absurd (show b∈([]:List Addr) from z) (by simp)) (by simp)
    | some u=>
     rcases hO b with z | ⟨ob,xs,z⟩
     ·rw[q]at z;cases z
     ·have z2:=un.frzs b ob _ z
      obtain⟨e1,_⟩:=hok b _ z
      obtain⟨e2,_⟩:=hok' b _ z2
      rw[e]at e1;cases e1
      exact e2
 cases hk:K.lookup a with
 | some o=>
  -- the script is one of the module's own objects
  have e:=KX a o hk
  rw[ha]at e
  cases e
  refine core (fun _=>none) (fun _=>.inl rfl) (.inr ⟨_,vs.toArray,_,hk,rfl,rfl,rfl,by rw[List.size_toArray,lenV];exact hl,by simpa using rv⟩) (fun b u z=>by have z':(none:Option HO)=some u:=z;cases z') (fun b z=>absurd rfl z) fun z=>absurd rfl z
 | none=>
  refine core (fun b=>if b=a then some (.frz { cls:=.type "list",data:=.seq vs.toArray } (.lst (ns.map V.int))) else none) (fun b=>?_) (.inl (.inr ⟨{ cls:=.type "list",data:=.seq vs.toArray },if_pos rfl⟩)) (fun b u z=>?_) (fun b z=>?_) fun _=>hk
  ·by_cases hb:b=a
   ·exact .inr ⟨_,_,if_pos hb⟩
   ·exact .inl (if_neg hb)
  ·by_cases hb:b=a
   ·have z':=(if_pos hb).symm.trans z
    cases z'
    subst hb
    exact⟨ha,by rw[List.length_map];exact hl,vs,_,rv,ha⟩
   ·have z':=(if_neg hb).symm.trans z
    cases z'
  ·by_cases hb:b=a
   ·exact hb
   ·exact absurd (if_neg hb) z
end L2
namespace L2
open PySem PySem.Spec PyProof.Rows
end L2
namespace L2
open PySem PySem.Spec PyProof.Rows
def Qp(s:Stmt):Arguments:=match s with
 | .FunctionDef _ a _ _ _ _ _ _ _ _=>a
 | _=>{ posonlyargs:=[],args:=[],vararg:=none,kwonlyargs:=[],kw_defaults:=[],kwarg:=none,defaults:=[] }
def Qo(s:Stmt):List Stmt:=match s with
 | .FunctionDef _ _ b _ _ _ _ _ _ _=>b
 | _=>[]
def Qb(s:Stmt):Scope:=match s with
 | .FunctionDef _ _ _ _ _ _ sc _ _ _=>sc
 | _=>{ kind:=.function,names:=[],isGenerator:=false,isCoroutine:=false }
abbrev CX0:CXT:=fun _ _ _ _ _ _=>False
abbrev E0:XK:=fun _ _ _=>False
theorem pass0{X:Cx}:QeL CX0 X E0:=fun _ _ _ _ _ _ _ h=>h.elim
structure Fun(K:W.Frag)(x qual:Str)(st:Stmt)(f:Addr)(fd:FuncData):Prop where
 ex:∃(oc:Value)(od:Option Addr)(kV doc pm:Value)(an:Option Addr)(cdv ct:Value)(osl:Array (Option Value)),
  fd=W.fnOf x qual (Qp st) (Qo st) (Qb st) .none kV doc pm an cdv ct/\K.lookup f=some ⟨oc,od,.func fd,osl⟩/\W.codeIn K cdv qual=true
 kp:W.keepIn K (.ref f)=true
section
variable{P:Program}{w:World}{K:W.Frag}{mg:Str->Option Value}{base:Heap}
theorem Fun.ok{x qual:Str}{st:Stmt}{f:Addr}{fd:FuncData}{N ps:List Str}{k:Nat}{sp:Sp}(F:Fun K x qual st f fd)(S:Qq N ps (Qb st))(len:∀ vs H Q E,sp vs H Q E->vs.length=ps.length)
 (hbody:∀(cdv:Value)(A:Around)(outer:List Env)(s:Shared)(H:Hp)(vs:List V)(Q:VK)(E:XK),Room k (A.deeper (envOfC qual (Qb st) s.heap.objs.size f cdv))->sp vs H Q E->
  ∃ t,PSs (cxOf CX0 P w K mg base N qual (Qb st) f cdv A outer s H E).nox (Qo st) t/\t { nx:=fun _ H'=>Q .non H',rt:=Q } (start N vs) H):FnOk P w K mg base CX0 (k+1) f fd ps sp:=by
 obtain⟨oc,od,kV,doc,pm,an,cdv,ct,osl,rfl,lk,hcd⟩:=F.ex
 refine fn_of lk hcd S len fun A outer s H vs Q E hr hsp=>?_
 obtain⟨t,h,q⟩:=hbody cdv A outer s H vs Q E hr hsp
 exact⟨t,h.nox,q⟩
end
section
variable{X:Cx}
end
theorem iteF{A B:Prop}(h:B):if false=true then A else B:=by
 rw[if_neg Bool.false_ne_true]
 exact h
theorem iteT{A B:Prop}(h:A):if true=true then A else B:=by
 rw[if_pos rfl]
 exact h
def Same(H H':Hp):Prop:=∀ b o,H b=some o->H' b=some o
theorem Same.refl(H:Hp):Same H H:=fun _ _ h=>h
theorem Same.trans{H H1 H2:Hp}(a:Same H H1)(b:Same H1 H2):Same H H2:=fun c o h=>b c o (a c o h)
theorem Same.free{H H':Hp}(e:Same H H'){l:Addr}(h:H' l=Option.none):H l=Option.none:=by
 cases q:H l with
 | none=>rfl
 | some o=>
  rw[e l o q]at h
  cases h
theorem Same.seq{K:W.Frag}{H H':Hp}{a:Addr}{xs:List V}(e:Same H H')(h:SqL K H a xs):SqL K H' a xs:=by
 rcases h with(h | ⟨o,h⟩) | h
 ·exact .inl (.inl (e _ _ h))
 ·exact .inl (.inr ⟨o,e _ _ h⟩)
 ·exact .inr h
end L2
namespace L2
open PySem PySem.Spec PyProof.Rows
section
variable{κ:Type}[DecidableEq κ]
def valV(kvs:List (κ×V))(k:κ):Option V:=(kvs.find? fun kv=>decide (kv.1=k)).map (·.2)
def putK(kvs:List (κ×V))(k:κ)(v:V):List (κ×V):=
 if (kvs.any fun kv=>decide (kv.1=k))=true then kvs.map (fun kv=>if kv.1=k then(kv.1,v) else kv) else kvs++[(k,v)]
theorem QmR{p:κ×V}{r:List (κ×V)}{k:κ}(e:p.1=k):valV (p::r) k=some p.2:=by simp[valV,List.find?_cons,e]
theorem Qmq{p:κ×V}{r:List (κ×V)}{k:κ}(e:¬ p.1=k):valV (p::r) k=valV r k:=by simp[valV,List.find?_cons,e]
theorem Qyf(k:κ):∀ kvs:List (κ×V),(kvs.any fun kv=>decide (kv.1=k))=(valV kvs k).isSome
 | []=>rfl
 | p::r=>by
  rw[List.any_cons]
  by_cases e:p.1=k
  ·simp only[QmR e,decide_eq_true e,Bool.true_or,Option.isSome_some]
  ·rw[Qmq e,decide_eq_false e,Bool.false_or];exact Qyf k r
theorem Qls(kvs:List (κ×V))(k:κ)(v:V):(putK kvs k v).length<=kvs.length+1:=by
 unfold putK
 split
 ·rw[List.length_map];omega
 ·rw[List.length_append,List.length_cons,List.length_nil];omega
theorem RelO.isSome_eq{o:Option V}{u:Option Value}(r:RelO o u):o.isSome=u.isSome:=by
 cases o with
 | none=>cases u with
  | none=>rfl
  | some _=>exact(show False from r).elim
 | some _=>cases u with
  | none=>exact(show False from r).elim
  | some _=>rfl
theorem RelO.getD{o:Option V}{u:Option Value}{d:V}{d':Value}(r:RelO o u)(rd:RelV d d'):RelV (o.getD d) (u.getD d'):=by
 cases o with
 | none=>cases u with
  | none=>exact rd
  | some _=>exact(show False from r).elim
 | some _=>cases u with
  | none=>exact(show False from r).elim
  | some _=>exact r
theorem KV.val{kvs:List (κ×V)}{vs:List (κ×Value)}(r:KV kvs vs)(k:κ):RelO (valV kvs k) (valueAt vs k):=by
 unfold KV at r
 induction r with
 | nil=>exact True.intro
 | @cons p q ps qs h t ih=>
  obtain⟨h1,h2⟩:=h
  by_cases e:p.1=k
  ·have e':q.1=k:=h1.symm.trans e
   have b:valueAt (q::qs) k=some q.2:=by simp[valueAt,List.find?_cons,e']
   rw[QmR e,b];exact h2
  ·have e':¬ q.1=k:=fun z=>e (h1.trans z)
   have b:valueAt (q::qs) k=valueAt qs k:=by simp[valueAt,List.find?_cons,e']
   rw[Qmq e,b];exact ih
theorem KV.any{kvs:List (κ×V)}{vs:List (κ×Value)}(r:KV kvs vs)(k:κ):(kvs.any fun kv=>decide (kv.1=k))=vs.any fun kv=>decide (kv.1=k):=by
 unfold KV at r
 induction r with
 | nil=>rfl
 | cons h t ih=>rw[List.any_cons,List.any_cons,ih,h.1]
theorem KV.repl{kvs:List (κ×V)}{vs:List (κ×Value)}(r:KV kvs vs)(k:κ){y:V}{u:Value}(ry:RelV y u):
 KV (kvs.map fun kv=>if kv.1=k then(kv.1,y) else kv) (vs.map fun kv=>if kv.1=k then(kv.1,u) else kv):=by
 unfold KV at r ⊢
 induction r with
 | nil=>exact .nil
 | @cons p q ps qs h t ih=>
  rw[List.map_cons,List.map_cons]
  refine .cons ?_ ih
  obtain⟨h1,h2⟩:=h
  by_cases e:p.1=k
  ·rw[if_pos e,if_pos (h1.symm.trans e)];exact⟨h1,ry⟩
  ·rw[if_neg e,if_neg (fun z=>e (h1.trans z))];exact⟨h1,h2⟩
theorem KV.put{kvs:List (κ×V)}{vs:List (κ×Value)}(r:KV kvs vs)(k:κ){y:V}{u:Value}(ry:RelV y u):KV (putK kvs k y) (stored vs k u):=by
 unfold putK stored
 rw[r.any k]
 by_cases e:(vs.any fun kv=>decide (kv.1=k))=true
 ·rw[if_pos e,if_pos e];exact r.repl k ry
 ·rw[if_neg e,if_neg e];exact Paired.snoc r ⟨rfl,ry⟩
theorem KV.length{kvs:List (κ×V)}{vs:List (κ×Value)}(r:KV kvs vs):kvs.length=vs.length:=Paired.length r
end
theorem kV_is{P:Program}{w:World}{k:Key}{u:Value}(r:RelV (kV k) u):(QaV P w).is k u=true:=by
 cases k with
 | inl i=>obtain⟨t,e⟩:=(show ∃ t,u=Value.int i t from r);subst e;exact QA6 P w i t
 | inr x=>obtain⟨t,e⟩:=(show ∃ t,u=Value.str x t from r);subst e;exact Qy5 P w x t
theorem QrO{P:Program}{w:World}:∀{ks:List Key}{us:List Value},Vals (ks.map kV) us->ItemsAre (QaV P w) ks us
 | [],_,r=>by rw[List.map_nil]at r;cases r;exact .nil
 | k::ks,_,r=>by
  rw[List.map_cons]at r
  cases r with
  | cons h t=>exact .cons (kV_is h) (QrO t)
abbrev KT(H:Hp):List (List Key×V)->List (List Key×Addr×Value)->Prop:=Paired fun p q=>p.1=q.1/\H q.2.1=some (.tup (p.1.map kV))/\RelV p.2 q.2.2
theorem KT.val{H:Hp}{kvs:List (List Key×V)}{xs:List (List Key×Addr×Value)}(r:KT H kvs xs)(k:List Key):RelO (valV kvs k) ((atKey xs k).map (·.2)):=by
 induction r with
 | nil=>exact True.intro
 | @cons p q ps qs h t ih=>
  obtain⟨h1,_,h2⟩:=h
  by_cases e:p.1=k
  ·have e':q.1=k:=h1.symm.trans e
   have b:atKey (q::qs) k=some q.2:=by simp[atKey,List.find?_cons,e']
   rw[QmR e,b];exact h2
  ·have e':¬ q.1=k:=fun z=>e (h1.trans z)
   have b:atKey (q::qs) k=atKey qs k:=by simp[atKey,List.find?_cons,e']
   rw[Qmq e,b];exact ih
theorem KT.repl{H:Hp}{kvs:List (List Key×V)}{xs:List (List Key×Addr×Value)}(r:KT H kvs xs)(k:List Key){y:V}{u:Value}(ry:RelV y u):
 KT H (kvs.map fun kv=>if kv.1=k then(kv.1,y) else kv) (xs.map (putAt k u)):=by
 induction r with
 | nil=>exact .nil
 | @cons p q ps qs h t ih=>
  rw[List.map_cons,List.map_cons]
  refine .cons ?_ ih
  obtain⟨h1,h2,h3⟩:=h
  unfold putAt
  by_cases e:p.1=k
  ·rw[if_pos e,if_pos (h1.symm.trans e)];exact⟨h1,h2,ry⟩
  ·rw[if_neg e,if_neg (fun z=>e (h1.trans z))];exact⟨h1,h2,h3⟩
theorem KT.put{H:Hp}{kvs:List (List Key×V)}{xs:List (List Key×Addr×Value)}(r:KT H kvs xs)(k:List Key){b:Addr}{y:V}{u:Value}(hb:H b=some (.tup (k.map kV)))(ry:RelV y u):
 KT H (putK kvs k y) (storedH xs k b u):=by
 have e:(kvs.any fun kv=>decide (kv.1=k))=(atKey xs k).isSome:=by
  rw[Qyf,(r.val k).isSome_eq,Option.isSome_map]
 unfold putK storedH
 rw[e]
 by_cases q:(atKey xs k).isSome=true
 ·rw[if_pos q,if_pos q];exact r.repl k ry
 ·rw[if_neg q,if_neg q];exact Paired.snoc r ⟨rfl,hb,ry⟩
theorem KT.keeps{H H':Hp}{kvs:List (List Key×V)}{xs:List (List Key×Addr×Value)}(r:KT H kvs xs)(ht:∀ b ys,H b=some (.tup ys)->H' b=some (.tup ys)):KT H' kvs xs:=
 Paired.mapP r fun _ _ z=>⟨z.1,ht _ _ z.2.1,z.2.2⟩
section
variable{P:Program}{w:World}{H:Hp}{h:Heap}{a:Addr}
theorem rd_of{u:HO}(ok:HOk P w H h)(e:Rd H a u):ObjOk P w H h a u:=e.ok ok
theorem dk_rd{kvs:List (Key×V)}(ok:HOk P w H h)(e:Rd H a (.dK kvs)):kvs.length<=sizeLine/\(a == sysModules)=false/\∃ vs,KV kvs vs/\h.DictOf (QaV P w) a vs:=
 show ObjOk P w H h a (.dK kvs) from rd_of ok e
theorem dk_of{kvs:List (Key×V)}(ok:HOk P w H h)(e:H a=some (.dK kvs)):kvs.length<=sizeLine/\(a == sysModules)=false/\∃ vs,KV kvs vs/\h.DictOf (QaV P w) a vs:=dk_rd ok (.inl e)
theorem QnH{ks:List Key}(ok:HOk P w H h)(e:H a=some (.tup (ks.map kV))):(tupleKind (QaV P w)).is h ks a:=by
 obtain⟨_,its,r,o,h1,h2,n,h3⟩:=(show ObjOk P w H h a (.tup (ks.map kV)) from ok a _ e)
 exact⟨o,its.toArray,n,h1,h2,h3,by simpa using QrO r⟩
theorem dt_rd{kvs:List (List Key×V)}(ok:HOk P w H h)(e:Rd H a (.dT kvs)):kvs.length<=sizeLine/\(a == sysModules)=false/\
 ∃ xs,KT H kvs xs/\h.DictOfH (tupleKind (QaV P w)) a xs:=by
 obtain⟨z,y,xs,r,o,es,ep,h1,h2,h3,h4,h5⟩:=(show ObjOk P w H h a (.dT kvs) from rd_of ok e)
 refine⟨z,y,xs,r,o,es,ep,h1,h2,h3,h4,fun x hx=>?_,h5⟩
 have all:∀{l:List (List Key×V)}{m:List (List Key×Addr×Value)},KT H l m->∀ x∈m,(tupleKind (QaV P w)).is h x.1 x.2.1:=by
  intro l m q
  induction q with
  | nil=>intro x hx;exact nomatch hx
  | @cons p q ps qs hq t ih=>
   intro x hx
   rcases List.mem_cons.mp hx with e | hx
   ·subst e
    exact QnH ok (by rw[← hq.1];exact hq.2.1)
   ·exact ih x hx
 exact all r x hx
theorem dt_of{kvs:List (List Key×V)}(ok:HOk P w H h)(e:H a=some (.dT kvs)):kvs.length<=sizeLine/\(a == sysModules)=false/\
 ∃ xs,KT H kvs xs/\h.DictOfH (tupleKind (QaV P w)) a xs:=dt_rd ok (.inl e)
end
def DGet(H:Hp)(a:Addr)(y:V)(r:Option V):Prop:=
 (∃ kvs k,Rd H a (.dK kvs)/\y=kV k/\r=valV kvs k)∨∃ kvs k b,Rd H a (.dT kvs)/\y=.ref b/\H b=some (.tup (k.map kV))/\r=valV kvs k
def DPut(H:Hp)(a:Addr)(y v:V)(H':Hp):Prop:=
 (∃ kvs k,H a=some (.dK kvs)/\y=kV k/\kvs.length<sizeLine/\H'=upd H a (.dK (putK kvs k v)))∨
 ∃ kvs k b,H a=some (.dT kvs)/\y=.ref b/\H b=some (.tup (k.map kV))/\kvs.length<sizeLine/\H'=upd H a (.dT (putK kvs k v))
theorem DGet.k{H:Hp}{a:Addr}{kvs:List (Key×V)}{k:Key}(e:H a=some (.dK kvs)):DGet H a (kV k) (valV kvs k):=.inl ⟨kvs,k,.inl e,rfl,rfl⟩
theorem DGet.t{H:Hp}{a b:Addr}{kvs:List (List Key×V)}{k:List Key}(e:H a=some (.dT kvs))(eb:H b=some (.tup (k.map kV))):DGet H a (.ref b) (valV kvs k):=.inr ⟨kvs,k,b,.inl e,rfl,eb,rfl⟩
theorem DPut.k{H:Hp}{a:Addr}{kvs:List (Key×V)}{k:Key}{v:V}(e:H a=some (.dK kvs))(hl:kvs.length<sizeLine):DPut H a (kV k) v (upd H a (.dK (putK kvs k v))):=.inl ⟨kvs,k,e,rfl,hl,rfl⟩
theorem DPut.t{H:Hp}{a b:Addr}{kvs:List (List Key×V)}{k:List Key}{v:V}(e:H a=some (.dT kvs))(eb:H b=some (.tup (k.map kV)))(hl:kvs.length<sizeLine):
 DPut H a (.ref b) v (upd H a (.dT (putK kvs k v))):=.inr ⟨kvs,k,b,e,rfl,eb,hl,rfl⟩
section
variable{X:Cx}{pins:List (Addr×Obj)}{σ:St}{H:Hp}{s:Shared}{a:Addr}{y v:V}{u r:Value}{o:Option V}{A:Around}{E:Value->Shared->Prop}
theorem QEU{Q:Value->Shared->Prop}(hu:A.units+1<cLine)(I:Inv X pins σ H s)(g:DGet H a y (some v))(ry:RelV y u)(h:∀ w' s',Inv X pins σ H s'->RelV v w'->Q w' s'):
 wpAny (model X.prog X.w) A (getItem (.ref a) u) Q E s:=by
 rcases g with⟨kvs,k,e,ey,l⟩ | ⟨kvs,k,b,e,ey,eb,l⟩
 ·subst ey
  obtain⟨z,hd,vs,rel,dd⟩:=dk_rd I.hok e
  obtain⟨w',hw,rw'⟩:=RelO.some_of (v:=v) (o:=valueAt vs k) (by rw[l];exact rel.val k)
  exact wpAny_getItem_of (kV_is ry) dd.mapOf hw (h w' _ (I.tok _) rw')
 ·subst ey
  cases (show u=Value.ref b from ry)
  obtain⟨z,hd,xs,rel,dd⟩:=dt_rd I.hok e
  obtain⟨w',hw,rw'⟩:=RelO.some_of (v:=v) (o:=(atKey xs k).map (·.2)) (by rw[l];exact rel.val k)
  obtain⟨p,hp,hp2⟩:=Option.map_eq_some_iff.mp hw
  refine wpAny_getItem_heap (tupleKind_room_in1 hu) (QnH I.hok eb) dd hp ?_
  rw[hp2]
  exact h w' _ (I.tok _) rw'
theorem QCc{h':Heap}{t':Nat}{ob:HO}(I:Inv X pins σ H s)(mu:Mut (H a))(hs:Heap.SameBut a s.heap h')(he:∃ q,h'.get? a=some q)(new:ObjOk X.prog X.w (upd H a ob) h' a ob):
 Inv X pins σ (upd H a ob) { s with heap:=h',toks:=t' }:=
 I.write (x:=a) (e:=a) mu (.inl rfl) (fun b q hb z=>(hs.2 b hb).trans z) he new
theorem QKy{P:Program}{w:World}{H':Hp}{h':Heap}{kvs:List (Key×V)}{vs:List (Key×Value)}(z:kvs.length<=sizeLine)(hd:(a == sysModules)=false)(rel:KV kvs vs)(dd:h'.DictOf (QaV P w) a vs):
 ObjOk P w H' h' a (.dK kvs):=⟨z,hd,vs,rel,dd⟩
theorem QF9{H':Hp}{Q:Unit->Shared->Prop}(hu:A.units+1<cLine)(I:Inv X pins σ H s)(g:DPut H a y v H')(ry:RelV y u)(rv:RelV v r)(h:∀ s',Inv X pins σ H' s'->Q () s'):
 wpAny (model X.prog X.w) A (setItem (.ref a) u r) Q E s:=by
 rcases g with⟨kvs,k,e,ey,l,eH⟩ | ⟨kvs,k,b,e,ey,eb,l,eH⟩
 ·subst ey eH
  obtain⟨z,hd,vs,rel,dd⟩:=dk_of I.hok e
  have hz:vs.length<=sizeLine:=by rw[← rel.length];exact z
  have hl:(putK kvs k v).length<=sizeLine:=by have:=Qls kvs k v;omega
  refine wpAny_setItem_pairs (hsz:=hz) (kV_is ry) dd fun h' dd' hs=>h _ ?_
  have he:∃ q,h'.get? a=some q:=let ⟨q,_,_,hq,_⟩:=dd';⟨q,hq⟩
  exact QCc I (by rw[e];exact True.intro) hs he (QKy hl hd (rel.put k rv) dd')
 ·subst ey eH
  cases (show u=Value.ref b from ry)
  obtain⟨z,hd,xs,rel,dd⟩:=dt_of I.hok e
  have hz:xs.length<=sizeLine:=by rw[← Paired.length rel];exact z
  have hl:(putK kvs k v).length<=sizeLine:=by have:=Qls kvs k v;omega
  refine wpAny_setItem_heap (hsz:=hz) (tupleKind_room_in1 hu) (QnH I.hok eb) dd fun h' dd' hs=>h _ ?_
  obtain⟨q,es,ep,hq,h2,h3,h4,_,h5⟩:=dd'
  refine QCc I (by rw[e];exact True.intro) hs ⟨q,hq⟩ ⟨hl,hd,_,(rel.put k eb rv).keeps fun c ys ec=>?_,q,es,ep,hq,h2,h3,h4,h5⟩
  rw[Qm (ne_of ec e (fun z=>nomatch z))]
  exact ec
end
section
variable{X:Cx}{pins:List (Addr×Obj)}{σ:St}{H:Hp}{s:Shared}{a:Addr}{kvs:List (Key×V)}{k:Key}{u:Value}{A:Around}{E:Value->Shared->Prop}
end
def NoSl(i:Expr):Prop:=∀ ov iv,subscripted i false ov iv=operate [ov,iv] (getItem ov iv)
theorem QIW{prog:Program}{w:World}{A:Around}{E:Value->Shared->Prop}{s:Shared}{env:Env}{value slice:Expr}{pos:Pos}{T id:String}{Q:Value->Shared->Prop}
 (hl:typeLookup (.type T) "__getitem__"=pure (some (.builtin id))) (hs:NoSl slice)
 (h:wpAny (model prog w) A (eval value env) (fun o s₁=>wpAny (model prog w) A (eval slice env) (fun i s₂ => s₂.TypeIs o T/\wpAny (model prog w) A (getItem o i) Q E s₂) E s₁) E s):
 wpAny (model prog w) A (eval (.Subscript value slice pos) env) Q E s:=by
 refine Subscript_ (wpAny_mono h (fun o s₁ h₁=>wpAny_mono h₁ (fun i s₂ h₂ => ?_) fun _ _ x=>x) fun _ _ x=>x)
 obtain⟨hT,h₂⟩:=h₂
 unfold subscriptTail
 refine wpAny_bind ?_
 rw[getitemInPython_of_ne hT.not_modules]
 refine wpAny_bind (wpAny_specialOf hT hl ?_)
 have fin:wpAny (model prog w) A (subscripted slice false o i) (fun r s₃ => wpAny (model prog w) A (letTemporaryGo value o r>>=fun _=>pure r) Q E s₃) E s₂ := by
  rw[hs o i]
  exact wpAny_operating (wpAny_mono h₂ (fun r s₃ h₃ => wpAny_bind (wpAny_letTemporaryGo (wpAny_pure h₃))) fun _ _ x=>x)
 first
  | exact wpAny_pure (wpAny_bind fin)
  | exact wpAny_bind (wpAny_pure (wpAny_bind fin))
  | exact wpAny_bind fin
theorem QzQ{X:Cx}{pins:List (Addr×Obj)}{σ:St}{H:Hp}{s:Shared}{a:Addr}{y:V}{o:Option V}(I:Inv X pins σ H s)(g:DGet H a y o):s.TypeIs (.ref a) "dict":=by
 rcases g with⟨kvs,k,e,_,_⟩ | ⟨kvs,k,b,e,_,_,_⟩
 ·obtain⟨_,_,vs,_,dd⟩:=dk_rd I.hok e
  exact dd.typeIs
 ·obtain⟨_,_,xs,_,dd⟩:=dt_rd I.hok e
  exact dd.typeIs
def tDGet(td ty:TE):TE:=fun σ H Q=>td σ H fun x H1=>ty σ H1 fun y H2=>∃ a v,x=.ref a/\DGet H2 a y (some v)/\Q v H2
def sDPut(td ty tv:TE):TS:=fun D σ H=>tv σ H fun v H1=>td σ H1 fun x H2=>ty σ H2 fun y H3=>∃ a H4,x=.ref a/\DPut H3 a y v H4/\D.nx σ H4
section
variable{X:Cx}{o i e value:Expr}{pos pos' tpos:Pos}{td ty tv:TE}
theorem QIT(hu:X.A.units+1<cLine)(ho:PE X o td)(hi:PE X i ty)(hs:NoSl i):PE X (.Subscript o i pos) (tDGet td ty):=by
 intro pins s σ H Q I h
 refine QIW PySem.F.slot_dict_getitem.lookup hs (thn (ho pins s σ H _ I h) fun u s1 ⟨x,H1,I1,rx,q1⟩=>thn (hi pins s1 σ H1 _ I1 q1) fun iv s2 ⟨y,H2,I2,ry,a,v,ex,g,q2⟩=>?_)
 subst ex
 obtain rfl:u=Value.ref a:=rx
 exact⟨QzQ I2 g,QEU hu I2 g ry fun w' s3 I3 rw'=>⟨v,H2,I3,rw',q2⟩⟩
theorem QIn(hu:X.A.units+1<cLine)(ho:PE X o td)(hi:PE X i ty)(hv:PE X value tv)(hs:swapsWith value (some (.Subscript o i pos')) pos.line X.env=pure false):
 PS X (.Assign [.Subscript o i pos'] value pos) (sDPut td ty tv):=by
 intro pins s σ H D I h
 refine wpAny_Assign_Subscript (thn (hv pins s σ H _ I h) fun r s1 ⟨v,H1,I1,rv,q1⟩=>thn (ho pins s1 σ H1 _ I1 q1) fun u s2 ⟨x,H2,I2,rx,q2⟩=>thn (hi pins s2 σ H2 _ I2 q2) fun iv s3 ⟨y,H3,I3,ry,a,H4,ex,g,q3⟩=>?_) hs
 subst ex
 obtain rfl:u=Value.ref a:=rx
 exact QF9 hu I3 g ry rv fun s4 I4=>⟨σ,H4,I4,q3⟩
end
section
variable{X:Cx}{pos:Pos}
end
structure M1(X:Cx)(o:Expr)(m:Str)(apos:Pos)(e:Expr)(cpos:Pos):Prop where
 base:attributeBase o m X.env (eval o X.env)=eval o X.env
 few:((backTo cpos (starEach [e] X.env)).all (fun x => !x.1)&&(backToKw cpos (keywordEach [] X.env)).all (fun x=>x.1.isSome)
  && decide (([e]:List Expr).length+([]:List Keyword).length+(if ([]:List Keyword).isEmpty then 0 else 1)<30))=true
 line:(apos.endLine == cpos.line)=true
 trees:backTo cpos (starEach [e] X.env)=[(false,eval e X.env)]
def IsD(H:Hp)(a:Addr):Prop:=(∃ kvs,Rd H a (.dK kvs))∨∃ kvs,Rd H a (.dT kvs)
theorem QKS{X:Cx}{pins:List (Addr×Obj)}{σ:St}{H:Hp}{s:Shared}{a:Addr}(I:Inv X pins σ H s)(d:IsD H a):
 s.TypeIs (.ref a) "dict"/\(∀ b,Value.ref a=.ref b->∃ ob,s.heap.get? b=some ob/\ob.dict=none)/\(a == sysModules)=false:=by
 rcases d with⟨kvs,e⟩ | ⟨kvs,e⟩
 ·obtain⟨_,hd,vs,_,dd⟩:=dk_rd I.hok e
  refine⟨dd.typeIs,fun b q=>?_,hd⟩
  cases q
  obtain⟨ob,_,_,h1,h2,_⟩:=dd
  exact⟨ob,h1,h2.2.1⟩
 ·obtain⟨_,hd,xs,_,dd⟩:=dt_rd I.hok e
  refine⟨dd.typeIs,fun b q=>?_,hd⟩
  cases q
  obtain⟨ob,_,_,h1,h2,_⟩:=dd
  exact⟨ob,h1,h2.2.1⟩
section
variable{X:Cx}{pins:List (Addr×Obj)}{σ:St}{H:Hp}{s:Shared}{a:Addr}{y d:V}{u r:Value}{o:Option V}{A:Around}{E:Value->Shared->Prop}
theorem QKm{Q:Value->Shared->Prop}(hu:A.units+1<cLine)(I:Inv X pins σ H s)(g:DGet H a y o)(ry:RelV y u)(h:∀ w' s',Inv X pins σ H s'->RelV (o.getD .non) w'->Q w' s'):
 wpAny (model X.prog X.w) A (call (.builtin "dict.get") [.ref a,u]) Q E s:=by
 rcases g with⟨kvs,k,e,ey,l⟩ | ⟨kvs,k,b,e,ey,eb,l⟩
 ·subst ey
  obtain⟨z,hd,vs,rel,dd⟩:=dk_rd I.hok e
  refine call_meetsIn PySem.F.slot_dict_get dd.typeIs PySem.F.entry_dict_get (PySem.F.args_dict_get_2 _ _) (meets_dict_get (QaV X.prog X.w) a (kV_is ry) hd) ⟨_,dd.mapOf,h _ _ (I.tok _) ?_⟩
  rw[l]
  exact(rel.val k).getD rfl
 ·subst ey
  cases (show u=Value.ref b from ry)
  obtain⟨z,hd,xs,rel,dd⟩:=dt_rd I.hok e
  refine call_meetsIn PySem.F.slot_dict_get dd.typeIs PySem.F.entry_dict_get (PySem.F.args_dict_get_2 _ _) (meetsH_dict_get (tupleKind (QaV X.prog X.w)) a b hd) ⟨tupleKind_room_in1 hu,k,xs,QnH I.hok eb,dd,h _ _ (I.tok _) ?_⟩
  rw[l]
  exact(rel.val k).getD rfl
end
def QKR(td ty:TE):TE:=fun σ H Q=>td σ H fun x H1=>∃ a,x=.ref a/\IsD H1 a/\ty σ H1 fun y H2=>∃ o,DGet H2 a y o/\Q (o.getD .non) H2
section
variable{X:Cx}{o e f:Expr}{apos cpos:Pos}{td ty tx:TE}
theorem QHA(hu:X.A.units+1<cLine)(ho:PE X o td)(he:PE X e ty)(m:M1 X o "get" apos e cpos):PE X (.Call (.Attribute o "get" apos) [e] [] cpos) (QKR td ty):=by
 intro pins s σ H Q I h
 refine wpAny_Call_method m.base m.few m.line PySem.F.plainAttrs_dict PySem.F.slot_dict_get PySem.F.type_dict_get (thn (ho pins s σ H _ I h) fun u s1 ⟨x,H1,I1,rx,a,ex,d,q1⟩=>?_)
 subst ex
 obtain rfl:u=Value.ref a:=rx
 obtain⟨t1,t2,_⟩:=QKS I1 d
 refine⟨t1,t2,?_⟩
 rw[m.trees]
 refine Calls.callWith_builtin rfl (Calls.evalArgs_plain (Calls.spliced_cons (thn (he pins s1 σ H1 _ I1 q1) fun iv s2 ⟨y,H2,I2,ry,ov,g,q2⟩=>Calls.spliced_nil ?_)))
 exact QKm hu I2 g ry fun w' s3 I3 rw'=>⟨_,H2,I3,rw',q2⟩
end
section
variable{X:Cx}{pins:List (Addr×Obj)}{σ:St}{H:Hp}{s:Shared}{a:Addr}{kvs:List (Key×V)}{A:Around}{E:Value->Shared->Prop}
end
section
variable{X:Cx}{pins:List (Addr×Obj)}{σ:St}{H:Hp}{s:Shared}{a:Addr}{y:V}{u:Value}{A:Around}{E:Value->Shared->Prop}
end
end L2
namespace L2
open PySem PySem.Spec PyProof.Rows
structure FlyS(P:Program)(w:World)(l:List Env)(H:Hp)(s:Shared)(ea C t:Addr)(H':Hp)(B:Heap)(s':Shared):Prop where
 os:s'.os=s.os
 bare:AllBare s'.gens
 un:Un (frs l) [] H H' s.heap s'.heap
 kb:∀ b o,s.heap.get? b=some o->H b=none->b∉frs l->B.get? b=some o
 th:∀ b o,s.heap.get? b=some o->b∉frs l->∃ o',B.get? b=some o'
 hok:HOk P w H' B
 fly:Heap.FlyingW B l ea (.ref C) (.ref t) s'.heap
def CXR(P:Program)(w:World):CXT:=fun l H s E e s'=>∃ ea C t H' B,e=.ref ea/\FlyS P w l H s ea C t H' B s'/\E (.ref C) none H'
section
variable{P:Program}{w:World}{l:List Env}{H H':Hp}{s s':Shared}{ea C t:Addr}{B h':Heap}
end
section
variable{X:Cx}{pins:List (Addr×Obj)}{σ:St}{H1:Hp}{s1:Shared}{E:XK}{ea C:Addr}{vs:List Value}{h':Heap}{Ex:Value->Shared->Prop}{M:Model}
theorem Qf5(I:Inv X pins σ H1 s1):∀ b o,X.s₀.heap.get? b=some o->b∉X.fs->b∉frs X.stack:=fun b o e hb z=>by
 rcases List.mem_cons.mp (I.stkSub b z) with q | q
 ·have:=Heap.lt_size e
  rw[q]at this
  exact absurd (Nat.lt_of_lt_of_le this I.ok.above) (Nat.lt_irrefl _)
 ·exact hb q
theorem QIs(I:Inv X pins σ H1 s1):HOk X.prog X.w H1 (W.hideAll s1.heap (frs X.stack)):=fun a o e=>
 (I.hok a o e).stay (fun b u hb q=>W.hideAll_get _ q fun z=>by
  have:=I.stkFree b z
  rcases hb with rfl | hb
  ·rw[this]at e;cases e
  ·rw[this]at hb;cases hb) (fun _ q=>q) fun _ _ q=>q
theorem QB4(I:Inv X pins σ H1 s1):∀ b∈X.fs,∀ o,X.s₀.heap.get? b=some o->∀ vs,o.data≠.fields vs:=fun b hb o e=>by
 obtain⟨_,o',h1,h2⟩:=I.ok.funs.mem hb
 rw[e]at h1;cases h1
 exact h2
theorem QDh(I:Inv X pins σ H1 s1)(hst:X.stack=X.env::X.outer)(hfr:X.env.frame=some X.env.locals)(hex:X.ex=[])(hx:Heap.MadeExcOf s1.heap h' ea (.ref C) vs)(hE:E (.ref C) none H1):
 wpAny M X.A (leaving X.env (.ref ea)) (fun _ s''=>CXR X.prog X.w X.outer X.H₀ X.s₀ E (.ref ea) s'') Ex { s1 with heap:=h' }:=by
 have hin:∀ env∈X.stack,∀ b,env.frame=some b->b∈frs X.stack:=fun env he b hb=>List.mem_filterMap.mpr ⟨env,he,hb⟩
 have st:=I.stack
 refine wpAny_leaves_madeW (base:=W.hideAll s1.heap (frs X.stack)) (h:=s1.heap) (env:=X.env) (outer:=X.outer) (by rw[← hst];exact I.ok.frames) hfr (fun b o q=>W.of_hideAll _ q)
  (by rw[← hst];exact W.funFrames_hide st hin) hx fun h2 t fl tp nt up=>?_
 have nx:∀ b:Addr,b∉X.ex:=fun b z=>by rw[hex]at z;cases z
 have kbB:∀ b o,X.s₀.heap.get? b=some o->X.H₀ b=none->b∉X.fs->(W.hideAll s1.heap (frs X.stack)).get? b=some o:=fun b o e n hb=>W.hideAll_get _ (I.base.keep b o e n hb (nx b)) (Qf5 I b o e hb)
 have thB:∀ b o,X.s₀.heap.get? b=some o->b∉X.fs->∃ o',(W.hideAll s1.heap (frs X.stack)).get? b=some o':=fun b o e hb=>by
  obtain⟨o',q⟩:=I.base.there b o e (nx b)
  exact⟨o',W.hideAll_get _ q (Qf5 I b o e hb)⟩
 have slot:∀ b o,X.s₀.heap.get? b=some o->X.H₀ b=none->b∈X.fs->∃ sl,h2.get? b=some { o with slots:=sl }:=fun b o e n hb=>by
  obtain⟨sl,q⟩:=I.base.slot b o e n hb (nx b)
  obtain⟨sl2,q2⟩:=up b _ (hx.keeps _ _ q) (QB4 I b hb o e)
  exact⟨sl2,q2⟩
 refine⟨ea,C,t,H1,_,rfl,⟨I.os,I.bare,⟨fun b o e n hb _=>fl.1 b o (kbB b o e n hb),fun b o e n hb _=>slot b o e n hb,fun b o e n _=>I.base.free b o e n (nx b),fun b o e _=>?_,I.base.tups,I.base.frzs,I.base.tbls⟩,kbB,thB,QIs I,fl⟩,hE⟩
 by_cases hb:b∈X.fs
 ·obtain⟨sl,q⟩:=slot b o e (I.ok.frf b hb) hb
  exact⟨_,q⟩
 ·obtain⟨o',q⟩:=thB b o e hb
  exact⟨o',fl.1 b o' q⟩
theorem QHg{s':Shared}{e:Value}(I:Inv X pins σ H1 s1)(hst:X.stack=X.env::X.outer)(hfr:X.env.frame=some X.env.locals)(hex:X.ex=[])(h:CXR X.prog X.w X.stack H1 s1 E e s'):
 wpAny M X.A (leaving X.env e) (fun _ s''=>CXR X.prog X.w X.outer X.H₀ X.s₀ E e s'') Ex s':=by
 obtain⟨ea,C,t,H',B,rfl,F,hE⟩:=h
 have fl:=F.fly
 rw[hst]at fl
 refine wpAny_leaves_onW (by rw[← hst];exact I.ok.frames) hfr fl fun h2 fl2 up=>?_
 have nx:∀ b:Addr,b∉X.ex:=fun b z=>by rw[hex]at z;cases z
 have nn:∀ b:Addr,b∉([]:List Addr):=fun b z=>by cases z
 have kbB:∀ b o,X.s₀.heap.get? b=some o->X.H₀ b=none->b∉X.fs->B.get? b=some o:=fun b o e n hb=>
  F.kb b o (I.base.keep b o e n hb (nx b)) (I.base.free b o e n (nx b)) (Qf5 I b o e hb)
 have thB:∀ b o,X.s₀.heap.get? b=some o->b∉X.fs->∃ o',B.get? b=some o':=fun b o e hb=>by
  obtain⟨o',q⟩:=I.base.there b o e (nx b)
  exact F.th b o' q (Qf5 I b o e hb)
 have slot:∀ b o,X.s₀.heap.get? b=some o->X.H₀ b=none->b∈X.fs->∃ sl,h2.get? b=some { o with slots:=sl }:=fun b o e n hb=>by
  obtain⟨sl,q⟩:=I.base.slot b o e n hb (nx b)
  have hs:b∈frs X.stack:=by
   rw[hst]
   obtain⟨env,h1,h2⟩:=List.mem_filterMap.mp hb
   exact List.mem_filterMap.mpr ⟨env,List.mem_cons_of_mem _ h1,h2⟩
  obtain⟨sl1,q1⟩:=F.un.slot b _ q (I.base.free b o e n (nx b)) hs (nn b)
  obtain⟨sl2,q2⟩:=up b _ q1 (QB4 I b hb o e)
  exact⟨sl2,q2⟩
 refine⟨ea,C,t,H',B,rfl,⟨F.os.trans I.os,F.bare,⟨fun b o e n hb _=>fl2.1 b o (kbB b o e n hb),fun b o e n hb _=>slot b o e n hb,fun b o e n _=>?_,fun b o e _=>?_,fun b xs e=>F.un.tups b xs (I.base.tups b xs e),fun b o u e=>F.un.frzs b o u (I.base.frzs b o u e),fun b ps e=>?_⟩,kbB,thB,F.hok,fl2⟩,hE⟩
 ·obtain⟨o',q⟩:∃ o',s1.heap.get? b=some o':=I.base.there b o e (nx b)
  exact F.un.free b o' q (I.base.free b o e n (nx b)) (nn b)
 ·by_cases hb:b∈X.fs
  ·obtain⟨sl,q⟩:=slot b o e (I.ok.frf b hb) hb
   exact⟨_,q⟩
  ·obtain⟨o',q⟩:=thB b o e hb
   exact⟨o',fl2.1 b o' q⟩
 ·obtain⟨m1,q1⟩:=I.base.tbls b ps e
  obtain⟨m2,q2⟩:=F.un.tbls b _ q1
  exact⟨m1++m2,by rw[q2,Array.append_assoc]⟩
end
section
variable{P:Program}{w:World}{K:W.Frag}{mg:Str->Option Value}{base:Heap}{N:List Str}{qual:Str}{scope:Scope}{f:Addr}{cd:Value}{A:Around}{outer:List Env}{s:Shared}{H:Hp}{E:XK}
theorem passR:QeL (CXR P w) (cxOf (CXR P w) P w K mg base N qual scope f cd A outer s H E) E:=fun pins σ H1 s1 e s' I h=>QHg I rfl rfl rfl h
end
end L2
namespace L2
open PySem PySem.Spec PyProof.Rows
section
variable{X:Cx}{C:Addr}{E:XK}{x:Str}{e₀:Expr}{rest:List Expr}{ta:TA}{np cpos pos:Pos}
end
end L2
namespace L2
open PySem PySem.Spec PyProof.Rows
def exO(ea C:Addr):HO:=.ext fun h=>∃ o vs,h.get? ea=some o/\o.cls=.ref C/\o.data=.fields vs
section
variable{X:Cx}{pins:List (Addr×Obj)}{σ:St}{H H':Hp}{s s':Shared}{ea C t:Addr}{B:Heap}
end
section
variable{X:Cx}{pins:List (Addr×Obj)}{σ:St}{H H':Hp}{s s':Shared}{ea C DD t:Addr}{B:Heap}{x n:Str}{np hpos:Pos}{b₀:Stmt}{suite:List Stmt}{rest:List ExceptHandler}{D:Ends}{Ex:Value->Shared->Prop}{i:Nat}{ts:TS}
end
end L2
namespace L2
open PySem PySem.Spec PyProof.Rows
abbrev TXS:=Ends->St->Hp->(St->XK)->Prop
section
variable{X:Cx}{k:Nat}{f:Addr}{fd:FuncData}{ps:List Str}{sp:Sp}{dvs:List V}{ds:List Value}{x:Str}{p pos:Pos}{e:Expr}{es:List Expr}{ta:TA}
theorem PA.nox{es:List Expr}{t:TA}(h:PA X.nox es t){pos:Pos}{pins:List (Addr×Obj)}{s:Shared}{σ:St}{H:Hp}{Q:List V->Hp->Prop}{E:Value->Shared->Prop}(I:Inv X pins σ H s)(q:t σ H Q):
 wpAny (model X.prog X.w) X.A (spliced (backTo pos (starEach es X.env))) (AP X pins σ Q) E s:=
 wpAny_mono (h pos pins s σ H Q (I.wish _) q) (fun _ _ ⟨v,H',I',r,q⟩=>⟨v,H',I'.unwish,r,q⟩) fun _ _ z=>False.elim z
variable{t u:TXS}{te:TX}{st:Stmt}{rest:List Stmt}{i:Nat}{px:Pos}
end
end L2
namespace L2
open PySem PySem.Spec PyProof.Rows
def ExAt(x D:Addr)(h:Heap):Prop:=∃ o vs,h.get? x=some o/\o.cls=.ref D/\o.data=.fields vs
section
open PySem.W PySem.Calls Builtin Builtin.ObjectAttr Builtin.Getset_descriptor
variable{K:W.Frag}{x D:Addr}
theorem QhI{M:Model}{h:Heap}(I:ExAt x D h):Looks M h (typeOf (.ref x)) (.ref D):=by
 obtain⟨o,vs,h1,h2,_⟩:=I
 exact h2 ▸ (Looks.ld h1).andThen .now
theorem QnU{M:Model}{h:Heap}(X:K.In h){name:Str}{a g:Value}(ha:findIn K (.ref D) name=some (some a))(hg:specialIn K a "__get__"=some (some g))(ht:takesIn K a=some true):
 Looks M h (find (.ref x) (.ref D) name) (.bind g a):=by
 have L1:=looks_findIn (M:=M) X ha
 have L2:Looks M h (getOf (some a)) (some g):=looks_specialIn X hg
 have L3:=looks_takesIn (M:=M) X ht
 exact L1.andThen (L2.andThen ((show Looks M h (dataDescriptor? (some a) (some g)) (some (g,a)) from L3.andThen .now).andThen (Looks.tag .now)))
variable{prog:Program}{w:World}{A:Around}{E:Value->Shared->Prop}{s:Shared}{name:Str}
theorem QHx{M:Model}{nameV:Value}{Q:Unit->Shared->Prop}(X:K.In s.heap)(I:ExAt x D s.heap)(hb:mroIn K D (.type "BaseException")=some true)(hq:Q () s):wpAny M A (checkBuiltinCall "BaseException.__getattribute__" ⟨[.ref x,nameV],[]⟩) Q E s:=by
 obtain⟨hh,g,dr,t,os⟩:=s
 have hk:builtinKind "BaseException.__getattribute__"=some .slot:=dk
 have hsplit:splitId "BaseException.__getattribute__"=some ("BaseException","__getattribute__"):=dk
 have L0:=QhI (M:=M) I
 have L1:=looks_mroIn (M:=M) X hb
 have ha:=F.args_bexc_ga (.ref x) nameV
 simp only[checkBuiltinCall,hk,hsplit]
 refine wpAny_bind ?_
 unfold isInstance
 repeat (first | lk | wp_step)
 exact hq
theorem QKQ{R:Result->Shared->Prop}{tp:Value}(X:K.In s.heap)(I:ExAt x D s.heap)(hm:mroIn K D (.type "object")=some true)
 (h:R (.ok (.ret (.ref D))) s):codeAny (model prog w) A (.call (.builtin "getset_descriptor.__get__") ⟨[.builtin "object.__class__",.ref x,tp],[]⟩) R s:=by
 obtain⟨hh,g,dr,t,os⟩:=s
 have L0:=QhI (M:=model prog w) I
 have L1:=looks_mroIn (M:=model prog w) X hm
 refine codeAny_call_builtin KF.slot_gs.plain KF.entry_gs (KF.slot_gs.check _ _ _ _ _ _ _ _ KF.type_class (KF.args_gs _ _ _) ?_)
 unfold Builtin.«getset_descriptor.__get__» descrGet
 rw[dga_obj]
 refine wpAny_bind (wpAny_pure ?_)
 unfold descrGetter descrCheckInstance descrNameAndClass isInstance
 simp only[KF.owner_class]
 repeat lk
 refine⟨Code.quiet_builtin _ (dk),codeAny_builtin KF.entry_class ?_⟩
 unfold Builtin.«object.__class__» shownTypeOf
 repeat lk
 exact h
theorem QHC{g a:Value}{tk:Tok}{Q:Fin->Shared->Prop}(X:K.In s.heap)(I:ExAt x D s.heap)(ha:findIn K (.ref D) "__class__"=some (some (.builtin "object.__class__")))
 (hn:specialIn K (.builtin "object.__class__") "__get__"=some (some (.builtin "getset_descriptor.__get__"))) (ht:takesIn K (.builtin "object.__class__")=some true) (hm:mroIn K D (.type "object")=some true)
 (hq:Q (.done (.ret (.ref D))) s):wpAny (model prog w) A (Builtin.«object.__getattribute__» ⟨[.ref x,.str "__class__" tk],[]⟩) Q E s:=by
 have L3:=QnU (x:=x) (M:=model prog w) X ha hn ht
 have L0:=QhI (M:=model prog w) I
 obtain⟨hh,gg,d,t,os⟩:=s
 refine wpAny_bind (wpAny_pure ?_)
 refine wpAny_bind (wpAny_pure (wpAny_bind (L0.at (wpAny_bind (L3.at ?_)))))
 show wpAny _ _ (holding [_] (call (.builtin "getset_descriptor.__get__") [.builtin "object.__class__",.ref x,.ref D])>>=ret) _ _ _
 exact wpAny_bind (wpAny_holding (wpAny_call (QKQ (s:=⟨hh,gg,d,t,os⟩) X I hm (wpAny_pure hq))))
theorem QIk{Q:Option Value->Shared->Prop}(X:K.In s.heap)(I:ExAt x D s.heap)(g1:findIn K (.ref D) "__getattribute__"=some (some (.builtin "BaseException.__getattribute__")))(hb:mroIn K D (.type "BaseException")=some true)
 (g2:findIn K (.ref D) "__getattr__"=some none) (ha:findIn K (.ref D) "__class__"=some (some (.builtin "object.__class__")))
 (hn:specialIn K (.builtin "object.__class__") "__get__"=some (some (.builtin "getset_descriptor.__get__"))) (ht:takesIn K (.builtin "object.__class__")=some true) (hm:mroIn K D (.type "object")=some true)
 (h:Q (some (.ref D)) { s with toks:=s.toks+1 }):wpAny (model prog w) A (getAttr? (.ref x) "__class__") Q E s:=by
 obtain⟨hh,g,d,t,os⟩:=s
 have L0:=QhI (M:=model prog w) I
 have L1:=looks_findIn (M:=model prog w) X g1
 have L2:=looks_findIn (M:=model prog w) X g2
 have f3:=PySem.F.attr_ValueError.ga.bind (.ref x)
 have hx2:(Value.builtin "BaseException.__getattribute__" == Value.builtin "object.__getattribute__")=false:=dk
 have hx1:(onTheHeap (Value.ref D)&&Value.builtin "BaseException.__getattribute__" == Value.builtin "object.__getattribute__")=false:=by rw[hx2];rfl
 unfold getAttr? getAttrBy? getAttrBy
 refine wpAny_bind (wpAny_mkText (wpAny_bind (wpAny_attempt (wpAny_holding (wpAny_bind (L0.at (wpAny_bind (L1.at ?_))))))))
 show wpAny _ _ (if (onTheHeap (Value.ref D)&&Value.builtin "BaseException.__getattribute__" == Value.builtin "object.__getattribute__")=true then _ else getAttrByItsOwn _ _ _ _ _ _) _ _ _
 rw[hx1,if_neg (by decide)]
 unfold getAttrByItsOwn
 refine wpAny_bind ?_
 show wpAny _ _ (typeLookup (.ref D) "__getattr__") _ _ _
 refine L2.at ?_
 refine wpAny_bind (wpAny_attempt ?_)
 refine wpAny_holding ?_
 show wpAny _ _ (boundAndCalled (.builtin "BaseException.__getattribute__") (.ref x) _) _ _ _
 unfold boundAndCalled
 refine wpAny_bind (wpAny_of_eq f3 ?_)
 refine wpAny_call (codeAny_call_builtin PySem.F.attr_ValueError.ga.plain F.entry_bexc_ga (QHx (s:=⟨hh,g,d,t+1,os⟩) X I hb (QHC (g:=.none) (a:=.none) (s:=⟨hh,g,d,t+1,os⟩) X I ha hn ht hm ?_)))
 show wpAny _ _ (handedOut (.ref D)) _ _ _
 exact handed_on rfl (wpAny_pure h)
structure ExCls(K:W.Frag)(D:Addr):Prop where
 cl:(clsIn K D).isSome=true
 g1:findIn K (.ref D) "__getattribute__"=some (some (.builtin "BaseException.__getattribute__"))
 hb:mroIn K D (.type "BaseException")=some true
 g2:findIn K (.ref D) "__getattr__"=some none
 ha:findIn K (.ref D) "__class__"=some (some (.builtin "object.__class__"))
 hn:specialIn K (.builtin "object.__class__") "__get__"=some (some (.builtin "getset_descriptor.__get__"))
 htk:takesIn K (.builtin "object.__class__")=some true
 hm:mroIn K D (.type "object")=some true
theorem QHK(e:ExCls K D):KitX K (.ref x) (.ref D) (ExAt x D) where
 ty:=fun _ _ _ I=>QhI I
 it:=fun _ _ X _=>by
  obtain⟨cdD,hcD⟩:=Option.isSome_iff_exists.mp e.cl
  unfold clsIn at hcD
  split at hcD
  ·rename_i c' d' cd' sl' ho
   intro A' Q' E' s' k q
   unfold isType loadHead
   exact wpAny_bind (wpAny_loadPart (k _ _ (X _ _ ho)) (wpAny_pure q))
  ·cases hcD
 ne:=fun h tp dd its n sl X htp=>by
  obtain⟨cdD,hcD⟩:=Option.isSome_iff_exists.mp e.cl
  refine Bool.eq_false_iff.mpr fun q=>?_
  have e:D=tp:=Value.ref.inj (beq_iff_eq.mp q)
  subst e
  unfold clsIn at hcD
  split at hcD
  ·rename_i c' d' cd' sl' ho
   have z:=(X _ _ ho).symm.trans htp
   cases z
  ·cases hcD
 ca:=fun X I k=>QIk X I e.g1 e.hb e.g2 e.ha e.hn e.htk e.hm k
end
end L2
set_option maxHeartbeats 1000000
namespace L2
open PySem PySem.Spec PyProof.Rows
section
variable{prog:Program}{w:World}{A:Around}{R:Result->Shared->Prop}{s:Shared}
theorem QxX{elt target iter:Expr}{ifs:List Expr}{scope:Scope}{pos:Pos}{it acc:Value}{env:Env}(I:Nat->Shared->Prop)(NB:Value->Shared->Prop)(hNB:∀ e s',NB e s'->notedBy (model prog w) A env (fun e s'=>R (.error e) s') e s')
 (turn:∀ n s,I n s->wpAny (model prog w) A (pyNext it) (fun r s₁=>match r with
  | none=>R (.ok .next) s₁
  | some v=>wpAny (model prog w) A (letOwnedTupleGo target it v) (fun _ s₁'=>wpAny (model prog w) A (assign target env v) (fun _ s₂ =>
   wpAny (model prog w) A (forIn ifs true fun c r=>if r=true then do let ok ← isTrue c env (eval c env);pure (ForInStep.yield ok) else pure (ForInStep.yield r)) (fun ok s₃ =>
    if ok=true then wpAny (model prog w) A (eval elt env) (fun x s₄ =>
     wpAny (model prog w) A (call (.builtin "list.append") [acc,x]) (fun _ s₅ => ∃ m,m<n/\I m s₅) NB s₄) NB s₃
    else ∃ m,m<n/\I m s₃) NB s₂) NB s₁') NB s₁) NB s)
 (n:Nat) (h:I n s):
 codeAny (model prog w) A (.compLoop (.ListComp elt [⟨target,iter,ifs,0⟩] scope pos) 0 it acc env) R s:=by
 refine codeAny_loop rfl I (fun n s hI=>?_) n h
 show wpAny _ A ((compTurn (.ListComp elt [⟨target,iter,ifs,0⟩] scope pos) 0 it acc env).onRaise (fun x=>do noteFrame x env;theTreesLotGoes x)) _ _ s
 refine wpAny_noted ?_
 rw[compTurn_list]
 refine wpAny_bind (wpAny_standAt (wpAny_bind (wpAny_mono (turn n s hI) (fun r s₁ h₁=>?_) hNB)))
 cases r with
 | none=>exact wpAny_pure h₁
 | some v=>
  refine wpAny_bind (wpAny_mono h₁ (fun _ s₁' h₁'=>?_) hNB)
  refine wpAny_bind (wpAny_mono h₁' (fun _ s₂ h₂ => wpAny_bind (wpAny_mono h₂ (fun ok s₃ h₃ => ?_) hNB)) hNB)
  cases ok with
  | false=>exact wpAny_pure ⟨rfl,h₃⟩
  | true=>
   exact wpAny_bind (wpAny_bind (wpAny_mono h₃ (fun x s₄ h₄ => wpAny_bind (wpAny_mono h₄ (fun _ s₅ h₅ => wpAny_pure (wpAny_pure ⟨rfl,h₅⟩)) hNB)) hNB))
end
def Qcc(scope outer:Scope):Scope:=
 { scope with names:=scope.names.map fun(n,k)=>if (k == .free&&outer.kind == .function&&outer.names.lookup n == some .cell) then(n,.cell) else(n,k) }
theorem QhG(c:Str->NameKind->Bool)(x:Str):∀ names:List (Str×NameKind),(names.map fun(n,k)=>if c n k=true then(n,NameKind.cell) else(n,k)).lookup x=(names.lookup x).map fun k=>if c x k=true then NameKind.cell else k
 | []=>rfl
 | (n,k)::r=>by
  have ih:=QhG c x r
  show List.lookup x ((if c n k=true then(n,NameKind.cell) else(n,k))::_)=_
  by_cases hx:x=n
  ·subst hx
   by_cases hc:c x k=true
   ·rw[if_pos hc,List.lookup_cons_self,List.lookup_cons_self];simp[hc]
   ·rw[if_neg hc,List.lookup_cons_self,List.lookup_cons_self];simp[hc]
  ·have hb:(x == n)=false:=by simpa using hx
   by_cases hc:c n k=true
   ·rw[if_pos hc,List.lookup_cons,List.lookup_cons,hb];exact ih
   ·rw[if_neg hc,List.lookup_cons,List.lookup_cons,hb];exact ih
theorem Qg3(scope outer:Scope)(x:Str):(Qcc scope outer).names.lookup x=(scope.names.lookup x).map fun k=>if (k == .free&&outer.kind == .function&&outer.names.lookup x == some .cell)=true then NameKind.cell else k:=
 QhG (fun n k=>k == .free&&outer.kind == .function&&outer.names.lookup n == some .cell) x scope.names
theorem Qs1{scope outer:Scope}{x:Str}(h:scope.names.lookup x=some .free):(Qcc scope outer).names.lookup x=some .cell∨(Qcc scope outer).names.lookup x=some .free:=by
 rw[Qg3,h]
 show some (if _ then _ else _)=_∨some (if _ then _ else _)=_
 split
 ·exact .inl rfl
 ·exact .inr rfl
theorem QtU{scope outer:Scope}{x:Str}(h:(Qcc scope outer).names.lookup x=some .cell∨(Qcc scope outer).names.lookup x=some .free):scope.names.lookup x=some .cell∨scope.names.lookup x=some .free:=by
 rw[Qg3]at h
 cases e:scope.names.lookup x with
 | none=>rw[e]at h;rcases h with h | h<;>cases h
 | some k=>
  rw[e]at h
  cases k with
  | free=>exact .inr rfl
  | cell=>exact .inl rfl
  | _=>rcases h with h | h<;>cases h
def QaI(env:Env):List (Str×NameKind)->List (Str×Addr)->List (Str×Addr)
 | [],acc=>acc
 | (n,k)::r,acc=>if (k == .free)=true then QaI env r ((n,(env.cells.lookup n).getD 0)::acc) else QaI env r acc
theorem QoM{scope:Scope}{env:Env}(h:∀ y∈scope.names,y.2=.free->(env.cells.lookup y.1).isSome=true):closureFor scope env=pure (QaI env scope.names []):=by
 have go:∀(names:List (Str×NameKind))(acc:List (Str×Addr)),(∀ y∈names,y.2=.free->(env.cells.lookup y.1).isSome=true)->
  (forIn names acc fun x r=>if (x.2 == NameKind.free)=true then(cellOf env x.1>>=fun a=>pure (ForInStep.yield ((x.1,a)::r))) else pure (ForInStep.yield r):Sem (List (Str×Addr)))=pure (QaI env names acc):=by
  intro names
  induction names with
  | nil=>intro acc _;rfl
  | cons y r ih=>
   intro acc hy
   obtain⟨n,k⟩:=y
   rw[List.forIn_cons]
   unfold QaI
   by_cases hk:(k == NameKind.free)=true
   ·obtain⟨c,hc⟩:=Option.isSome_iff_exists.mp (hy (n,k) List.mem_cons_self (beq_iff_eq.mp hk))
    have e:cellOf env n=pure c:=by unfold cellOf;rw[show env.cells.lookup n=some c from hc]
    simp only[hk,if_true,e]
    rw[show(env.cells.lookup n).getD 0=c from by rw[show env.cells.lookup n=some c from hc];rfl]
    exact ih _ fun y hm=>hy y (List.mem_cons_of_mem _ hm)
   ·simp only[hk]
    exact ih _ fun y hm=>hy y (List.mem_cons_of_mem _ hm)
 have e:=go scope.names [] h
 unfold closureFor
 exact congrArg (fun m=>m>>=fun s=>(pure s:Sem (List (Str×Addr)))) e
theorem QfV{env:Env}{p:Str×Addr}:∀{names:List (Str×NameKind)}{acc:List (Str×Addr)},p∈QaI env names acc->p∈acc∨p.2=(env.cells.lookup p.1).getD 0/\∃ y∈names,y.1=p.1/\y.2=.free
 | [],_,h=>.inl h
 | (n,k)::r,acc,h=>by
  unfold QaI at h
  split at h
  ·rename_i hk
   rcases QfV h with h | ⟨h,y,hy,e⟩
   ·rcases List.mem_cons.mp h with h | h
    ·subst h;exact .inr ⟨rfl,(n,k),List.mem_cons_self,rfl,beq_iff_eq.mp hk⟩
    ·exact .inl h
   ·exact .inr ⟨h,y,List.mem_cons_of_mem _ hy,e⟩
  ·rcases QfV h with h | ⟨h,y,hy,e⟩
   ·exact .inl h
   ·exact .inr ⟨h,y,List.mem_cons_of_mem _ hy,e⟩
theorem QfT{env:Env}{x:Str}:∀{names:List (Str×NameKind)}{acc:List (Str×Addr)},(acc.lookup x).isSome=true∨(∃ y∈names,y.1=x/\y.2=.free)->((QaI env names acc).lookup x).isSome=true
 | [],_,h=>h.elim id fun⟨_,hy,_⟩=>nomatch hy
 | (n,k)::r,acc,h=>by
  unfold QaI
  split
  ·rename_i hk
   refine QfT ?_
   rcases h with h | ⟨y,hy,e1,e2⟩
   ·refine .inl ?_
    rw[List.lookup_cons]
    split
    ·rfl
    ·exact h
   ·rcases List.mem_cons.mp hy with rfl | hy
    ·refine .inl ?_
     have e1:n=x:=e1
     subst e1
     rw[List.lookup_cons_self];rfl
    ·exact .inr ⟨y,hy,e1,e2⟩
  ·rename_i hk
   refine QfT ?_
   rcases h with h | ⟨y,hy,e1,e2⟩
   ·exact .inl h
   ·rcases List.mem_cons.mp hy with rfl | hy
    ·have e2:k=.free:=e2
     subst e2
     exact absurd rfl hk
    ·exact .inr ⟨y,hy,e1,e2⟩
theorem Qbm{α:Type}{l:List (Str×α)}{x:Str}{c:α}(h:l.lookup x=some c):(x,c)∈l:=PySem.mem_of_lookup h
theorem QnB{p:Str×Addr}:∀{names:List (Str×NameKind)}{n:Nat}{acc:List (Str×Addr)},p∈cellsFrom n names acc->p∈acc∨n<=p.2
 | [],_,_,h=>.inl h
 | (y,k)::r,n,acc,h=>by
  unfold cellsFrom at h
  split at h
  ·rcases QnB h with h | h
   ·rcases List.mem_cons.mp h with h | h
    ·subst h;exact .inr (Nat.le_refl _)
    ·exact .inl h
   ·exact .inr (Nat.le_of_succ_le h)
  ·exact QnB h
theorem Qyc:∀{names:List (Str×NameKind)}{n:Nat}{acc:List (Str×Addr)},(∀ p∈acc,p.2<n)->(∀ p∈acc,∀ q∈acc,p.2=q.2->p.1=q.1)->∀ p∈cellsFrom n names acc,∀ q∈cellsFrom n names acc,p.2=q.2->p.1=q.1
 | [],_,_,_,h=>h
 | (y,k)::r,n,acc,hl,hi=>by
  unfold cellsFrom
  split
  ·refine Qyc (fun p hp=>?_) fun p hp q hq e=>?_
   ·rcases List.mem_cons.mp hp with rfl | hp
    ·exact Nat.lt_succ_self _
    ·exact Nat.lt_succ_of_lt (hl p hp)
   ·rcases List.mem_cons.mp hp with rfl | hp<;>rcases List.mem_cons.mp hq with rfl | hq
    ·rfl
    ·exact absurd e (Nat.ne_of_gt (hl q hq))
    ·exact absurd e (Nat.ne_of_lt (hl p hp))
    ·exact hi p hp q hq e
  ·exact Qyc hl hi
theorem QqB:∀{names:List (Str×NameKind)}{h:Heap}{acc:List (Str×Addr)},(∀ p∈acc,∃ v,h.IsCell p.2 v)->∀ p∈cellsFrom h.objs.size names acc,∃ v,(pushCells h names).IsCell p.2 v
 | [],_,_,h=>h
 | (y,k)::r,h,acc,hc=>by
  unfold cellsFrom pushCells
  split
  ·have:=QqB (names:=r) (h:=h.push { cls:=.type "cell",data:=.cell none }) (acc:=(y,h.objs.size)::acc) fun p hp=>by
    rcases List.mem_cons.mp hp with rfl | hp
    ·exact⟨none,_,Heap.get?_push_size _ rfl,rfl⟩
    ·obtain⟨v,q⟩:=hc p hp
     exact⟨v,q.keeps fun b o e=>Heap.get?_push_of_some _ e⟩
   rwa [Heap.size_push]at this
  ·exact QqB hc
theorem QqD{x:Str}:∀{names:List (Str×NameKind)}{n:Nat}{acc:List (Str×Addr)},(∀ y∈names,y.1=x->y.2=.free)->(cellsFrom n names acc).lookup x=acc.lookup x
 | [],_,_,_=>rfl
 | (y,k)::r,n,acc,h=>by
  unfold cellsFrom
  split
  ·rename_i hk
   rw[QqD fun z hz=>h z (List.mem_cons_of_mem _ hz),List.lookup_cons]
   split
   ·rename_i hb
    have hx:x=y:=beq_iff_eq.mp hb
    have:=h (y,k) List.mem_cons_self hx.symm
    have this:k=.free:=this
    subst this
    exact absurd hk (by decide)
   ·rfl
  ·exact QqD fun z hz=>h z (List.mem_cons_of_mem _ hz)
def Qx8(scope:Scope)(cl:List (Str×Addr))(L:Addr)(env:Env):Env:=
 { scope:=Qcc scope env.scope,locals:=L,globals:=env.globals,cells:=cellsFrom (L+1) scope.names cl,qual:=env.qual,func:=none,code:=env.code,frame:=env.frame,builtins:=env.builtins }
theorem QJk{M:Model}{A:Around}{E:Value->Shared->Prop}{s:Shared}{scope:Scope}{cl:List (Str×Addr)}{env:Env}{Q:Env->Shared->Prop}
 (h:∀ c,{ c with scope:=relabel scope env }=Qx8 scope cl s.heap.objs.size env->c.locals=s.heap.objs.size->Q c { s with heap:=pushCells (s.heap.push { cls:=.type "dict",data:=.dict #[] }) scope.names }):
 wpAny M A (newFunctionEnv scope env.globals cl [] env.qual none .none (some env)) Q E s:=by
 simp only[newFunctionEnv,Option.isSome_some,if_true]
 refine wpAny_bind (wpAny_alloc ?_)
 refine wpAny_bind (wpAny_layCells _ (fun name kind cells=>by cases hkc:kind == NameKind.cell<;>simp[hkc]) _ _ _ _ ?_)
 rw[show({ s with heap:=s.heap.push { cls:=.type "dict",data:=.dict #[] } }:Shared).heap.objs.size=s.heap.objs.size+1 from Heap.size_push ..]
 refine wpAny_bind (wpAny_pure (wpAny_pure (h _ ?_ rfl)))
 rfl
def capt(js:List (Option Nat))(σ:St):St:=js.map fun j=>j.bind fun j=>(σ[j]?).join
structure Qy(N':List Str)(js:List (Option Nat))(scope outer:Scope)(N:List Str):Prop where
 kind:scope.kind=.function
 uniq:∀ y∈scope.names,scope.names.lookup y.1=some y.2
 nd:N'.Nodup
 len:js.length=N'.length
 free:∀ y∈scope.names,y.2=.free->outer.names.lookup y.1=some .cell∨outer.names.lookup y.1=some .free
 cap:((N'.zip js).all fun p=>match p.2 with
  | none=>true
  | some j=>decide (N[j]?=some p.1)&&decide (scope.names.lookup p.1=some .free))=true
theorem Qy.capOf{N':List Str}{js:List (Option Nat)}{scope outer:Scope}{N:List Str}(S:Qy N' js scope outer N){i j:Nat}{x:Str}(h1:N'[i]?=some x)(h2:js[i]?=some (some j)):
 N[j]?=some x/\scope.names.lookup x=some .free/\∀ y∈scope.names,y.1=x->y.2=.free:=by
 have h:=List.all_eq_true.mp S.cap (x,some j) (by
  refine List.mem_of_getElem? (i:=i) ?_
  rw[List.getElem?_zip_eq_some]
  exact⟨h1,h2⟩)
 simp only[Bool.and_eq_true,decide_eq_true_eq]at h
 exact⟨h.1,h.2,fun y hy e=>by
  have:=S.uniq y hy
  rw[e,h.2]at this
  exact(Option.some.inj this).symm⟩
theorem Qy.names{N':List Str}{js:List (Option Nat)}{scope outer:Scope}{N:List Str}(S:Qy N' js scope outer N):∀ y∈scope.names,y.2=.local->scope.names.lookup y.1=some .local:=fun y hy e=>by
 rw[S.uniq y hy,e]
def cxC(X:Cx)(N':List Str)(scope:Scope)(fp:List Addr)(s:Shared)(H:Hp):Cx:=
 { X with N:=N',s₀:=s,H₀:=H,env:=Qx8 scope (QaI X.env scope.names []) s.heap.objs.size X.env,outer:=X.stack,ex:=fp,
          fn:=fun x=>match scope.names.lookup x with | some .cell=>true | _=>false,pn:=[],xe:=fun _ _=>False }
theorem QHe{X:Cx}{N':List Str}{js:List (Option Nat)}{scope:Scope}{pins:List (Addr×Obj)}{σ:St}{H:Hp}{s:Shared}{fp:List Addr}(S:Qy N' js scope X.env.scope X.N)(I:Inv X pins σ H s)(hf:∀ b∈fp,FpOk X pins H b)
 (hlt:∀ b∈fp,b<s.heap.objs.size):
 Inv (cxC X N' scope fp s H) [] (capt js σ) H { s with heap:=pushCells (s.heap.push { cls:=.type "dict",data:=.dict #[] }) scope.names }:=by
 have hk:∀ b o,s.heap.get? b=some o->(pushCells (s.heap.push { cls:=.type "dict",data:=.dict #[] }) scope.names).get? b=some o:=fun b o e=>pushCells_keeps _ _ b o (Heap.get?_push_of_some _ e)
 have sz:(s.heap.push { cls:=.type "dict",data:=.dict #[] }).objs.size=s.heap.objs.size+1:=Heap.size_push ..
 -- captured cells stand in the outer frame
 have out:∀ x,(∃ y∈scope.names,y.1=x/\y.2=.free)->∃ c,X.env.cells.lookup x=some c:=fun x ⟨y,hy,e1,e2⟩=>by
  subst e1
  exact I.ok.has y.1 (S.free y hy e2)
 have clm:∀ p∈QaI X.env scope.names [],X.env.cells.lookup p.1=some p.2:=fun p hp=>by
  rcases QfV hp with h | ⟨h,hy⟩
  ·cases h
  ·obtain⟨c,hc⟩:=out p.1 hy
   rw[hc]at h ⊢
   rw[h];rfl
 have cllt:∀ p∈QaI X.env scope.names [],p.2<s.heap.objs.size:=fun p hp=>by
  obtain⟨v,q⟩:=I.cell p.1 p.2 (clm p hp)
  exact q.lt
 have cin:∀ x c,(cellsFrom (s.heap.objs.size+1) scope.names (QaI X.env scope.names [])).lookup x=some c->X.env.cells.lookup x=some c∨s.heap.objs.size+1<=c:=fun x c e=>by
  rcases QnB (Qbm e) with h | h
  ·exact .inl (clm _ h)
  ·exact .inr h
 have capL:∀ x,scope.names.lookup x=some .free->(∀ y∈scope.names,y.1=x->y.2=.free)->(cellsFrom (s.heap.objs.size+1) scope.names (QaI X.env scope.names [])).lookup x=X.env.cells.lookup x:=fun x hx hy=>by
  rw[QqD hy]
  have hs:=QfT (env:=X.env) (x:=x) (names:=scope.names) (acc:=[]) (.inr ⟨_,Qbm hx,rfl,rfl⟩)
  obtain⟨c,hc⟩:=Option.isSome_iff_exists.mp hs
  rw[hc,clm _ (Qbm hc)]
 refine⟨⟨I.ok.mod,S.kind,I.ok.glob,I.ok.blt,Nat.le_refl _,fun x y c h1 h2=>?_,fun x hx=>?_,fun x c hx h=>?_,I.ok.hd,I.ok.frames,.inl rfl,fun b hb=>?_,I.bs,Nat.le_trans I.ok.bsz I.sz,fun b o e hb=>?_,fun b hb hz=>?_,I.stack,I.stkFree⟩,
  rfl,I.bare,Un.kept hk,?_,fun x c h=>?_,I.hok.fresh (Nat.le_refl _),fun x c h=>?_,fun p hp=>absurd (show p∈([]:List (Addr×Obj)) from hp) (by simp),I.hok.kept hk,?_⟩
 ·refine Qyc (names:=scope.names) (n:=s.heap.objs.size+1) (acc:=QaI X.env scope.names []) (fun p hp=>Nat.lt_succ_of_lt (cllt p hp)) (fun p hp q hq e=>?_) (x,c) (Qbm h1) (y,c) (Qbm h2) rfl
  have a:=clm p hp
  have b:=clm q hq
  rw[← e]at b
  exact I.ok.inj _ _ _ a b
 ·have hx':=QtU (show(Qcc scope X.env.scope).names.lookup x=some .cell∨_ from hx)
  refine Option.isSome_iff_exists.mp (W.cellsFrom_some scope.names _ _ ?_)
  rcases hx' with h | h
  ·exact .inl h
  ·exact .inr (QfT (.inr ⟨_,Qbm h,rfl,rfl⟩))
 ·rcases QnB (Qbm h) with hm | hm
  ·-- an own cell's name is captured too: its first entry is the own one
   have hx':scope.names.lookup x=some .cell:=by
    have hx2:(match scope.names.lookup x with | some .cell=>true | _=>false)=true:=hx
    split at hx2
    ·assumption
    ·cases hx2
   rcases QfV hm with q | ⟨_,y,hy,e1,e2⟩
   ·cases q
   ·have:=S.uniq y hy
    have e1:y.1=x:=e1
    rw[e1,hx',e2]at this
    cases this
  ·exact Nat.le_of_succ_le hm
 ·refine⟨Nat.ne_of_lt (hlt b hb),fun x c h e=>?_⟩
  rcases cin x c h with q | q
  ·exact(hf b hb).2.2.2.2.1 x c q e
  ·have:=hlt b hb
   rw[← e]at this
   exact absurd (Nat.lt_of_lt_of_le this (Nat.le_of_succ_le q)) (Nat.lt_irrefl _)
 ·rcases(hf b hb).2.2.2.1 with z | z
  ·exact I.ok.noex b o e z
  ·exact absurd (Nat.lt_of_lt_of_le (Heap.lt_size (I.ok.bs b o e).1) z) (Nat.lt_irrefl _)
 ·rcases List.mem_cons.mp (I.stkSub b hz) with e | e
  ·exact(hf b hb).2.1 e
  ·exact(hf b hb).2.2.1 e
 ·obtain⟨m,hn,hl⟩:=I.loc
  refine⟨fun _=>none,(Heap.Ns.new s.heap (.type "dict")).keeps (pushCells_keeps _ _),fun i x v h1 h2 h3=>?_⟩
  have h2':((js[i]?).map fun j=>j.bind fun j=>(σ[j]?).join)=some (some v):=by
   unfold capt at h2
   rw[List.getElem?_map]at h2
   exact h2
  cases e:js[i]? with
  | none=>rw[e]at h2';cases h2'
  | some o=>
   rw[e]at h2'
   cases o with
   | none=>cases h2'
   | some j=>
    have h4:(σ[j]?).join=some v:=Option.some.inj h2'
    have h5:σ[j]?=some (some v):=by
     cases z:σ[j]? with
     | none=>rw[z]at h4;cases h4
     | some o=>rw[z]at h4;have h4:o=some v:=h4;rw[h4]
    obtain⟨hN,hx,hy⟩:=S.capOf h1 e
    have hvis:=S.free _ (Qbm hx) rfl
    obtain⟨u,r,lk⟩:=hl j x v hN h5 (.inr hvis)
    refine⟨u,r,.inr ⟨Qs1 hx,?_⟩⟩
    rcases lk with⟨k,_⟩ | ⟨_,c,hc,z⟩
    ·have k:X.env.scope.names.lookup x=some .local:=k
     rcases hvis with q | q
     ·rw[k]at q;cases q
     ·rw[k]at q;cases q
    ·exact⟨c,(capL x hx hy).trans hc,z.keeps hk⟩
 ·have:=QqB (names:=scope.names) (h:=s.heap.push { cls:=.type "dict",data:=.dict #[] }) (acc:=QaI X.env scope.names []) (fun p hp=>by
   obtain⟨v,q⟩:=I.cell p.1 p.2 (clm p hp)
   exact⟨v,q.keeps fun b o e=>Heap.get?_push_of_some _ e⟩) (x,c) (by rw[sz];exact Qbm h)
  exact this
 ·rcases cin x c h with q | q
  ·exact I.freeC x c q
  ·exact I.hok.fresh (Nat.le_of_succ_le q)
 ·show(js.map _).length=N'.length
  rw[List.length_map];exact S.len
def eMax(X:Cx)(e:Expr):TE:=fun σ H Q=>∃ t,PE X e t/\t σ H Q
theorem QK1{X:Cx}{e:Expr}:PE X e (eMax X e):=fun pins s σ H Q I ⟨t,ht,h⟩=>ht pins s σ H Q I h
def gMax(X:Cx)(e:Expr):TG:=fun v σ H Q=>∃ t,PG X e t/\t v σ H Q
theorem QK4{X:Cx}{e:Expr}:PG X e (gMax X e):=fun pins s σ H v u Q I r ⟨t,ht,h⟩=>ht pins s σ H v u Q I r h
def PIf(X:Cx)(ifs:List Expr)(tc:TT):Prop:=(ifs=[]/\tc=fun _ H Q=>Q true H)∨∃ c,ifs=[c]/\PT X c tc
theorem QIf{X:Cx}:PIf X [] (fun _ H Q=>Q true H):=.inl ⟨rfl,rfl⟩
theorem PIf.run{X:Cx}{ifs:List Expr}{tc:TT}(h:PIf X ifs tc){pins:List (Addr×Obj)}{s:Shared}{σ:St}{H:Hp}{Q:Bool->Hp->Prop}(I:Inv X pins σ H s)(q:tc σ H Q):
 wpAny (model X.prog X.w) X.A (forIn ifs true fun c r=>if r=true then do let ok ← isTrue c X.env (eval c X.env);pure (ForInStep.yield ok) else pure (ForInStep.yield r)) (TP X pins σ Q) X.xe s:=by
 rcases h with⟨rfl,rfl⟩ | ⟨c,rfl,h⟩
 ·exact wpAny_tests_nil ⟨H,I,q⟩
 ·exact wpAny_tests_one (h pins s σ H Q I q)
def cMax(X:Cx)(ifs:List Expr):TT:=fun σ H Q=>∃ t,PIf X ifs t/\t σ H Q
def CompW(X':Cx)(js:List (Option Nat))(tg elt:Expr)(ifs:List Expr)(σ:St)(H1:Hp)(J:It)(p:Addr)(Q:VK):Prop:=
 ∃ W:Nat->Nat->St->Hp->Prop,(∃ m,W 0 m (capt js σ) (upd H1 p (.lst [])))/\∀ i m τ H',W i m τ H'->
 (J.stop i H'/\Q (.ref p) H')∨(J.go i H'/\∃ N:St->Hp->Prop,(∀ τ' H'',N τ' H''->∃ m',m'<m/\W (i+1) m' τ' H'')/\∀ x H'',J.yld i H' x H''->gMax X' tg x τ H'' fun τ2 H2=>cMax X' ifs τ2 H2 fun b H3=>
  if b=true then eMax X' elt τ2 H3 fun y H4=>∃ ys,H4 p=some (.lst ys)/\ys.length<sizeLine/\N τ2 (upd H4 p (.lst (ys++[y]))) else N τ2 H3)
def tComp(X:Cx)(N':List Str)(js:List (Option Nat))(scope:Scope)(tg elt:Expr)(ifs:List Expr)(wi:TI):TE:=fun σ H Q=>wi σ H fun J H1=>∀ p,H1 p=none->∀ fp s,
 CompW (cxC X N' scope fp s (upd H1 p (.lst []))) js tg elt ifs σ H1 J p Q
section
variable{X:Cx}{N':List Str}{js:List (Option Nat)}{scope:Scope}{tg iter elt:Expr}{ifs:List Expr}{wi:TI}{pos:Pos}
theorem Qnz{pins:List (Addr×Obj)}{σ:St}{H:Hp}{s:Shared}{R:V->Hp->Prop}{E:Value->Shared->Prop}(hc:X.calm=true)(S:Qy N' js scope X.env.scope X.N)
 {it:Addr} {fp:List Addr} {tn:Nat->Heap->Prop} {J:It} (I2:Inv X pins σ H s) (T:Turn X.prog X.w X.K tg J fp it tn) (st:tn 0 s.heap) (hf:∀ b∈fp,FpOk X pins H b)
 (hW:∀ p,H p=none->∀ fp s,CompW (cxC X N' scope fp s (upd H p (.lst []))) js tg elt ifs σ H J p R)
 {RR:Value->Addr->Result->Shared->Prop}
 (hRR:∀(D C:Addr)(s':Shared)(H':Hp),Inv X pins σ H' s'->(∃ m,s'.heap.Ns C m)->H' C=none->C≠X.env.locals->X.s₀.heap.objs.size<=C->(∀ x c,X.env.cells.lookup x=some c->c≠C)->(∀ p∈X.pn++pins,p.1≠C)->R (.ref D) H'->RR (.ref D) C (.ok .next) s'):
 wpAny (model X.prog X.w) X.A (newList []) (fun acc s₃ => wpAny (model X.prog X.w) X.A (newFunctionEnv scope X.env.globals (QaI X.env scope.names []) [] X.env.qual none .none (some X.env)) (fun cenv s₄ =>
  codeAny (model X.prog X.w) X.A (.compStart (.ListComp elt [⟨tg,iter,ifs,0⟩] scope pos) 0 (.ref it) acc { cenv with scope:=relabel scope X.env }) (RR acc cenv.locals) s₄) E s₃) E s:=by
 refine wpAny_newObj_type ?_
 have hfresh:H s.heap.objs.size=none:=I2.hok.fresh (Nat.le_refl _)
 have I3:Inv X pins σ (upd H s.heap.objs.size (.lst [])) { s with heap:=s.heap.push { cls:=.type "list",data:=.seq ([]:List Value).toArray } }:=I2.lnew (t':=s.toks) .nil (Nat.zero_le _)
 generalize hs3:({ s with heap:=s.heap.push { cls:=.type "list",data:=.seq ([]:List Value).toArray } }:Shared)=s3 at I3 ⊢
 have hsz3:s3.heap.objs.size=s.heap.objs.size+1:=by rw[← hs3];exact Heap.size_push ..
 have hk3:∀ b o,s.heap.get? b=some o->s3.heap.get? b=some o:=fun b o e=>by rw[← hs3];exact Heap.get?_push_of_some _ e
 have flt:∀ b∈fp,b<s.heap.objs.size:=fun b hb=>by
  obtain⟨o,e,_⟩:=T.obj _ _ st b hb
  exact Heap.lt_size e
 have hf3:∀ b∈fp,FpOk X pins (upd H s.heap.objs.size (.lst [])) b:=fun b hb=>⟨by rw[Qm (Nat.ne_of_lt (flt b hb))];exact(hf b hb).1,(hf b hb).2⟩
 have st3:tn 0 s3.heap:=T.keep _ _ _ st fun b _ o e=>hk3 b o e
 refine QJk fun cenv ecenv el=>?_
 rw[ecenv,el]
 have I4:=QHe (fp:=fp) S I3 hf3 fun b hb=>by rw[hsz3];exact Nat.lt_succ_of_lt (flt b hb)
 obtain⟨W,⟨m0,w0⟩,turn⟩:=hW _ hfresh fp s3
 generalize hX':cxC X N' scope fp s3 (upd H s.heap.objs.size (.lst []))=X' at I4 turn
 generalize hs4:({ s3 with heap:=pushCells (s3.heap.push { cls:=.type "dict",data:=.dict #[] }) scope.names }:Shared)=s4 at I4 ⊢
 have eenv:Qx8 scope (QaI X.env scope.names []) s3.heap.objs.size X.env=X'.env:=by rw[← hX'];rfl
 have eprog:X'.prog=X.prog:=by rw[← hX'];rfl
 have ew:X'.w=X.w:=by rw[← hX'];rfl
 have eK:X'.K=X.K:=by rw[← hX'];rfl
 have eA:X'.A=X.A:=by rw[← hX'];rfl
 have ecalm:X'.calm=true:=by rw[← hX'];exact hc
 have exe:∀ e s',X'.xe e s'->False:=fun e s' h=>by rw[← hX']at h;exact h
 have eex:X'.ex=fp:=by rw[← hX'];rfl
 have efs:X'.fs=frs X.stack:=by rw[← hX'];rfl
 have epn:X'.pn=[]:=by rw[← hX'];rfl
 have es0:X'.s₀=s3:=by rw[← hX'];rfl
 have eH0:X'.H₀=upd H s.heap.objs.size (.lst []):=by rw[← hX'];rfl
 have eloc:X'.env.locals=s3.heap.objs.size:=by rw[← eenv];rfl
 rw[eenv]
 have st4:tn 0 s4.heap:=T.keep _ _ _ st3 fun b _ o e=>by rw[← hs4];exact pushCells_keeps _ _ b o (Heap.get?_push_of_some _ e)
 -- the iterator's objects,seen from the block
 have fpok:∀{H':Hp},(∀ b∈fp,H' b=none)->∀ b∈fp,FpOk X' [] H' b:=fun {H'} hn b hb=>by
  obtain⟨h1,h2⟩:=I4.ok.exf b (by rw[eex];exact hb)
  exact⟨hn b hb,h1,fun z=>I4.ok.exfs b (by rw[eex];exact hb) z,.inl (by rw[eex];exact hb),h2,fun p hp=>by rw[epn]at hp;cases hp⟩
 have loop:∀ s5,s5=s4->codeAny (model X.prog X.w) X.A (.compLoop (.ListComp elt [⟨tg,iter,ifs,0⟩] scope pos) 0 (.ref it) (.ref s.heap.objs.size) X'.env) (RR (.ref s.heap.objs.size) s3.heap.objs.size) s5:=by
  rintro s5 rfl
  refine QxX (fun n s'=>∃ i τ H',Inv X' [] τ H' s'/\tn i s'.heap/\(∀ b∈fp,H' b=none)/\W i n τ H') (fun _ _=>False) (fun _ _ h=>h.elim) ?_ m0 ⟨0,_,_,I4,st4,fun b hb=>(hf3 b hb).1,w0⟩
  rintro n s6 ⟨i,τ,H6,I6,st6,fr6,w6⟩
  have A1:∀{α:Type}{t:Sem α}{Q:α->Shared->Prop}{s:Shared},wpAny (model X'.prog X'.w) X'.A t Q X'.xe s->wpAny (model X.prog X.w) X.A t Q (fun _ _=>False) s:=fun {α t Q s} h=>by
   rw[eprog,ew,eA]at h
   exact wpAny_mono h (fun _ _ q=>q) exe
  rcases turn i n τ H6 w6 with⟨stop,qn⟩ | ⟨go,N,hN,step⟩
  ·have h7:=T.done X' eprog ew eK ecalm i [] s6 τ H6 (fun _ _=>False) I6 (fpok fr6) st6 stop
   rw[eA]at h7
   refine thn h7 fun r s7 ⟨hr,I7⟩=>?_
   subst hr
   -- back to the frame around
   have un:=I7.base
   rw[es0,eH0,efs,eex]at un
   have Iout:Inv X pins σ H6 s7:=I3.call' (ch:=fp) (by rw[I7.os,es0]) un (by have:=I7.hok;rw[eprog,ew]at this;exact this) I7.bare fun b hb=>by
    obtain⟨f0,f1,f2,f3,f4,f5⟩:=hf3 b hb
    exact⟨f3,f1,f4,f5⟩
   refine hRR _ _ s7 H6 Iout ?_ ?_ ?_ ?_ ?_ ?_ qn
   ·obtain⟨m,hn,_⟩:=I7.loc
    rw[eloc]at hn
    exact⟨m,hn⟩
   ·have:=I7.free
    rw[eloc]at this
    exact this
   ·exact Nat.ne_of_gt I3.lt
   ·exact I3.sz
   ·intro x c e z
    obtain⟨v,q⟩:=I3.cell x c e
    exact absurd q.lt (by rw[z];exact Nat.lt_irrefl _)
   ·intro p hp z
    exact absurd (Heap.lt_size (I3.pin p hp).1) (by rw[z];exact Nat.lt_irrefl _)
  ·have h6:=T.item X' eprog ew eK ecalm i [] s6 τ H6 (fun _ _=>False) I6 (fpok fr6) st6 go
   rw[eA]at h6
   refine thn h6 fun r s7 ⟨u,hr,h7⟩=>?_
   subst hr
   refine thn h7 fun _ s8 ⟨x,H8,I8,r8,y8,st8,fr8⟩=>?_
   have I8':=I8.pinned (fpok fr8) (T.obj _ _ st8)
   refine thn (A1 (QK4 _ s8 τ H8 x u _ I8' r8 (step x H8 y8))) fun _ s9 ⟨τ9,H9,I9,q9⟩=>?_
   obtain⟨tcc,hif,q9⟩:=q9
   refine thn (A1 (hif.run I9 q9)) fun ok s10 ⟨H10,I10,q10⟩=>?_
   have again:∀{τ':St}{H':Hp}{s':Shared},Inv X' ([]++Qj1 fp s8.heap) τ' H' s'->N τ' H'->∃ m,m<n/\∃ i τ H',Inv X' [] τ H' s'/\tn i s'.heap/\(∀ b∈fp,H' b=none)/\W i m τ H':=fun {τ' H' s'} I' n'=>by
    obtain⟨m',hm,w'⟩:=hN τ' H' n'
    refine⟨m',hm,i+1,τ',H',I'.unpinned,T.keep _ _ _ st8 fun b hb o e=>(I'.pin (b,o) (List.mem_append_right _ (List.mem_append_right _ (QfR hb e)))).1,fun b hb=>?_,w'⟩
    obtain⟨o,e,d⟩:=T.obj _ _ st8 b hb
    exact(I'.pin (b,o) (List.mem_append_right _ (List.mem_append_right _ (QfR hb e)))).2.1
   cases ok with
   | false=>
    rw[if_neg Bool.false_ne_true]at q10 ⊢
    exact again I10 q10
   | true=>
    rw[if_pos rfl]at q10 ⊢
    refine thn (A1 (QK1 _ s10 τ9 H10 _ I10 q10)) fun y s11 ⟨yv,H11,I11,r11,ys,hp11,hz,n11⟩=>?_
    refine thn (A1 (QrG _ s11 τ9 H11 (.ref s.heap.objs.size) [yv] (.ref s.heap.objs.size) [y] (fun _ H'=>N τ9 H') I11 rfl (.cons r11 .nil) ⟨_,ys,yv,rfl,rfl,hp11,hz,n11⟩)) fun _ s12 ⟨v12,H12,I12,_,n12⟩=>?_
    exact again I12 n12
 exact codeAny_compStart_list (loop _ rfl) (T.self _ 0 _ _ _ st4 (loop _ rfl))
theorem QIA(hc:X.calm=true)(S:Qy N' js scope X.env.scope X.N)(hi:PI X tg iter wi)
 (hs:∀ x,foldedSetIterable iter X.env x=pure x:=by intro _;rfl):PE X (.ListComp elt [⟨tg,iter,ifs,0⟩] scope pos) (tComp X N' js scope tg elt ifs wi):=by
 intro pins s σ H Q I h
 rw[eval_ListComp]
 have hcl:closureFor scope X.env=pure (QaI X.env scope.names []):=QoM fun y hy e=>by
  obtain⟨c,hc⟩:=I.ok.has y.1 (S.free y hy e)
  rw[hc];rfl
 refine wpAny_comprehension_free (use:=none) rfl hs hcl S.kind S.names (thn (hi pins s σ H _ I h) fun v s1 h1=>thn h1 fun itv s2 h2=>?_)
 obtain⟨it,fp,tn,J,H2,e,I2,T,st2,f2,hW⟩:=h2
 subst e
 refine Qnz (R:=Q) (RR:=fun acc C=>compPost (model X.prog X.w) X.A X.xe none (EP X pins σ Q) acc C) hc S I2 T st2 f2 hW ?_
 intro D C s' H' I' ⟨m,hn⟩ hC h1 h2 h3 h4 q
 refine⟨m,hn,fun h' hsb=>⟨.ref D,H',?_,rfl,q⟩⟩
 exact I'.turned (t':=s'.toks) (fun b o hb e=>(hsb.2 b hb).trans e) hC (Ne.symm (Ne.symm h1)) (.inr h2) h3 h4
theorem QBU{i:Nat}{x:Str}{px spos:Pos}(hc:X.calm=true)(S:Qy N' js scope X.env.scope X.N)(hi:PI X tg iter wi)
 (hN:X.N.Nodup) (hx:X.N[i]?=some x) (hl:Loc X.env.scope x)
 (hsw:swapsWith (.ListComp elt [⟨tg,iter,ifs,0⟩] scope pos) (some (.Name x px)) spos.line X.env=pure true)
 (hf:X.fn x=true∨X.env.scope.names.lookup x=some .local:=by first | exact .inl rfl | exact .inr rfl | assumption)
 (hs:∀ x,foldedSetIterable iter X.env x=pure x:=by intro _;rfl):PS X (.Assign [.Name x px] (.ListComp elt [⟨tg,iter,ifs,0⟩] scope pos) spos) (tAsg (tComp X N' js scope tg elt ifs wi) (gName i)):=by
 intro pins s σ H D I h
 rw[exec_Assign_Name_used _ _ _ _ hsw]
 refine wpAny_bind (wpAny_standAt (wpAny_bind ?_))
 show wpAny _ X.A (do let _ ← comprehension (.ListComp elt [⟨tg,iter,ifs,0⟩] scope pos) scope X.env _ (newList []) false (eval iter X.env) (some (assign (.Name x px) X.env))) _ _ s
 have hcl:closureFor scope X.env=pure (QaI X.env scope.names []):=QoM fun y hy e=>by
  obtain⟨c,hc⟩:=I.ok.has y.1 (S.free y hy e)
  rw[hc];rfl
 refine wpAny_bind (wpAny_mono (wpAny_comprehension_free (use:=some (assign (.Name x px) X.env)) (Q:=fun _ s'=>SP X pins D .next s') rfl hs hcl S.kind S.names
  (thn (hi pins s σ H _ I h) fun v s1 h1=>thn h1 fun itv s2 h2=>?_)) (fun _ s' hq=>wpAny_pure (wpAny_pure hq)) fun _ _ e=>e)
 obtain⟨it,fp,tn,J,H2,e,I2,T,st2,f2,hW⟩:=h2
 subst e
 refine Qnz (R:=fun v H'=>D.nx (σ.set i (some v)) H') (RR:=fun acc C=>compPost (model X.prog X.w) X.A X.xe (some (assign (.Name x px) X.env)) (fun _ s'=>SP X pins D .next s') acc C) hc S I2 T st2 f2 hW ?_
 intro DD C s' H' I' ⟨m,hn⟩ hC h1 h2 h3 h4 q
 show wpAny _ X.A (assign (.Name x px) X.env (.ref DD)) _ _ s'
 refine wpAny_assign_Name (Qr1 (v:=.ref DD) I' hN hx hl rfl (fun s'' I'' ⟨a,hsb,ha⟩=>?_) hf)
 have hCa:C≠a:=by
  rcases ha with rfl | ha
  ·exact h1
  ·exact Ne.symm (h3 x a ha)
 refine⟨m,hn.sameBut hsb hCa,fun h' hsb'=>⟨_,H',?_,q⟩⟩
 exact I''.turned (t':=s''.toks) (fun b o hb e=>(hsb'.2 b hb).trans e) hC h1 (.inr h2) h3 h4
end
end L2
namespace DL
open PySem PySem.Spec PyProof.Rows L2
inductive D where
 | non | bl (b:Bool) | int (i:Int) | str (x:Str)
 | lst (xs:List D) | tup (xs:List D) | dic (kvs:List (Key×D)) | ins (c:Str) (fs:List (Str×D)) | err (c:Str)
instance:Inhabited D:=⟨.non⟩
abbrev CTab:=Str->Option Addr
section
variable(K:W.Frag)(CT:CTab)(H:Hp)
mutual
def Rep:D->V->Prop
 | .non,v=>v=.non
 | .bl b,v=>v=.bl b
 | .int i,v=>v=.int i
 | .str x,v=>v=.str x
 | .lst ds,v=>∃ a vs,v=.ref a/\SqL K H a vs/\RepL ds vs
 | .tup ds,v=>∃ a vs,v=.ref a/\SqT K H a vs/\RepL ds vs
 | .dic kds,v=>∃ a kvs,v=.ref a/\Rd H a (.dK kvs)/\RepK kds kvs
 | .ins c fds,v=>∃ a C dx fs,v=.ref a/\CT c=some C/\H a=some (.ins C dx fs)/\RepF fds fs
 | .err c,v=>∃ a C,v=.ref a/\CT c=some C/\H a=some (exO a C)
def RepL:List D->List V->Prop
 | [],vs=>vs=[]
 | d::ds,vs=>∃ v r,vs=v::r/\Rep d v/\RepL ds r
def RepK:List (Key×D)->List (Key×V)->Prop
 | [],kvs=>kvs=[]
 | (k,d)::ds,kvs=>∃ v r,kvs=(k,v)::r/\Rep d v/\RepK ds r
def RepF:List (Str×D)->List (Str×V)->Prop
 | [],kvs=>kvs=[]
 | (k,d)::ds,kvs=>∃ v r,kvs=(k,v)::r/\Rep d v/\RepF ds r
end
end
section
variable{K:W.Frag}{CT:CTab}{H H':Hp}
theorem Same.sqT{a:Addr}{xs:List V}(e:Same H H')(h:SqT K H a xs):SqT K H' a xs:=by
 rcases h with(h | ⟨o,h⟩) | h
 ·exact .inl (.inl (e _ _ h))
 ·exact .inl (.inr ⟨o,e _ _ h⟩)
 ·exact .inr h
theorem Same.rd{a:Addr}{u:HO}(e:Same H H')(h:Rd H a u):Rd H' a u:=by
 rcases h with h | ⟨o,h⟩
 ·exact .inl (e _ _ h)
 ·exact .inr ⟨o,e _ _ h⟩
mutual
theorem Rep.mono(e:Same H H'):∀(d:D)(v:V),Rep K CT H d v->Rep K CT H' d v
 | .non,_,h=>h
 | .bl _,_,h=>h
 | .int _,_,h=>h
 | .str _,_,h=>h
 | .lst ds,_,⟨a,vs,h1,h2,h3⟩=>⟨a,vs,h1,e.seq h2,RepL.mono e ds vs h3⟩
 | .tup ds,_,⟨a,vs,h1,h2,h3⟩=>⟨a,vs,h1,Same.sqT e h2,RepL.mono e ds vs h3⟩
 | .dic ds,_,⟨a,vs,h1,h2,h3⟩=>⟨a,vs,h1,Same.rd e h2,RepK.mono e ds vs h3⟩
 | .ins c ds,_,⟨a,C,dx,fs,h1,h2,h3,h4⟩=>⟨a,C,dx,fs,h1,h2,e _ _ h3,RepF.mono e ds fs h4⟩
 | .err c,_,⟨a,C,h1,h2,h3⟩=>⟨a,C,h1,h2,e _ _ h3⟩
theorem RepL.mono(e:Same H H'):∀(ds:List D)(vs:List V),RepL K CT H ds vs->RepL K CT H' ds vs
 | [],_,h=>h
 | d::ds,_,⟨v,r,h1,h2,h3⟩=>⟨v,r,h1,Rep.mono e d v h2,RepL.mono e ds r h3⟩
theorem RepK.mono(e:Same H H'):∀(ds:List (Key×D))(vs:List (Key×V)),RepK K CT H ds vs->RepK K CT H' ds vs
 | [],_,h=>h
 | (k,d)::ds,_,⟨v,r,h1,h2,h3⟩=>⟨v,r,h1,Rep.mono e d v h2,RepK.mono e ds r h3⟩
theorem RepF.mono(e:Same H H'):∀(ds:List (Str×D))(vs:List (Str×V)),RepF K CT H ds vs->RepF K CT H' ds vs
 | [],_,h=>h
 | (k,d)::ds,_,⟨v,r,h1,h2,h3⟩=>⟨v,r,h1,Rep.mono e d v h2,RepF.mono e ds r h3⟩
end
theorem RepL.length:∀{ds:List D}{vs:List V},RepL K CT H ds vs->ds.length=vs.length
 | [],_,h=>by cases h;rfl
 | d::ds,_,⟨v,r,h1,h2,h3⟩=>by subst h1;simp[RepL.length h3]
theorem RepL.get:∀{ds:List D}{vs:List V}{i:Nat}{d:D},RepL K CT H ds vs->ds[i]?=some d->∃ v,vs[i]?=some v/\Rep K CT H d v
 | [],_,_,_,_,e=>by simp at e
 | d::ds,_,0,_,⟨v,r,h1,h2,h3⟩,e=>by subst h1;simp at e;subst e;exact⟨v,rfl,h2⟩
 | d::ds,_,i+1,x,⟨v,r,h1,h2,h3⟩,e=>by
  subst h1
  obtain⟨u,a,b⟩:=RepL.get (i:=i) (d:=x) h3 (by simpa using e)
  exact⟨u,by simpa using a,b⟩
theorem RepL.append:∀{ds es:List D}{vs us:List V},RepL K CT H ds vs->RepL K CT H es us->RepL K CT H (ds++es) (vs++us)
 | [],_,_,_,h,k=>by cases h;exact k
 | d::ds,_,_,_,⟨v,r,h1,h2,h3⟩,k=>by subst h1;exact⟨v,_,rfl,h2,RepL.append h3 k⟩
theorem RepL.take:∀(n:Nat){ds:List D}{vs:List V},RepL K CT H ds vs->RepL K CT H (ds.take n) (vs.take n)
 | 0,_,_,_=>by simp[RepL]
 | n+1,[],_,h=>by cases h;simp[RepL]
 | n+1,d::ds,_,⟨v,r,h1,h2,h3⟩=>by subst h1;exact⟨v,_,rfl,h2,RepL.take n h3⟩
theorem RepL.drop:∀(n:Nat){ds:List D}{vs:List V},RepL K CT H ds vs->RepL K CT H (ds.drop n) (vs.drop n)
 | 0,_,_,h=>h
 | n+1,[],_,h=>by cases h;simp[RepL]
 | n+1,d::ds,_,⟨v,r,h1,h2,h3⟩=>by subst h1;exact RepL.drop n h3
theorem RepL.set{d:D}{v:V}(q:Rep K CT H d v):∀(i:Nat){ds:List D}{vs:List V},RepL K CT H ds vs->RepL K CT H (ds.set i d) (vs.set i v)
 | _,[],_,h=>by cases h;simp[RepL]
 | 0,_::ds,_,⟨w,r,h1,h2,h3⟩=>by subst h1;exact⟨v,r,rfl,q,h3⟩
 | i+1,e::ds,_,⟨w,r,h1,h2,h3⟩=>by subst h1;exact⟨w,_,rfl,h2,RepL.set q i h3⟩
theorem RepL.rep{ds:List D}{vs:List V}(h:RepL K CT H ds vs):∀ k:Nat,RepL K CT H (List.replicate k ds).flatten (List.replicate k vs).flatten
 | 0=>rfl
 | k+1=>by
  rw[List.replicate_succ,List.replicate_succ,List.flatten_cons,List.flatten_cons]
  exact h.append (h.rep k)
theorem RepL.one{d:D}{v:V}(h:Rep K CT H d v):RepL K CT H [d] [v]:=⟨v,[],rfl,h,rfl⟩
theorem RepL.map_int:∀(ns:List Int),RepL K CT H (ns.map D.int) (ns.map V.int)
 | []=>rfl
 | n::ns=>⟨_,_,rfl,rfl,RepL.map_int ns⟩
end
inductive Out(α:Type) where
 | ok (a:α) | exc (x:D) | stuck
namespace Out
def bind{α β:Type}:Out α->(α->Out β)->Out β
 | .ok a,f=>f a
 | .exc x,_=>.exc x
 | .stuck,_=>.stuck
instance:Monad Out where
 pure:=.ok
 bind:=bind
def post{α:Type}(o:Out α)(k:α->Prop)(x:D->Prop):Prop:=match o with
 | .ok a=>k a
 | .exc e=>x e
 | .stuck=>False
@[simp] theorem bind_ok{α β:Type}(a:α)(f:α->Out β):(Out.ok a>>=f)=f a:=rfl
@[simp] theorem bind_exc{α β:Type}(x:D)(f:α->Out β):((Out.exc x:Out α)>>=f)=.exc x:=rfl
@[simp] theorem bind_stuck{α β:Type}(f:α->Out β):((Out.stuck:Out α)>>=f)=.stuck:=rfl
@[simp] theorem QLg{α β:Type}(a:α)(f:α->Out β):(Out.ok a).bind f=f a:=rfl
@[simp] theorem QLf{α β:Type}(x:D)(f:α->Out β):(Out.exc x:Out α).bind f=.exc x:=rfl
@[simp] theorem QK7{α β:Type}(f:α->Out β):(Out.stuck:Out α).bind f=.stuck:=rfl
@[simp] theorem pure_eq{α:Type}(a:α):(pure a:Out α)=.ok a:=rfl
theorem post_bind{α β:Type}(o:Out α)(f:α->Out β)(k:β->Prop)(x:D->Prop):(o>>=f).post k x↔o.post (fun a=>(f a).post k x) x:=by
 cases o<;>exact Iff.rfl
theorem post_mono{α:Type}{o:Out α}{k k':α->Prop}{x:D->Prop}(h:o.post k x)(hk:∀ a,k a->k' a):o.post k' x:=by
 cases o with
 | ok a=>exact hk a h
 | exc e=>exact h
 | stuck=>exact h
end Out
end DL
namespace DL
open PySem PySem.Spec PyProof.Rows L2
abbrev St:=L2.St
inductive SM where
 | k | o | l | s
abbrev SD:=List (Option (SM×D))
structure Dc where
 X:Cx
 CT:CTab
 G0:Hp
 XD:D->Prop
 /-- what is lent -/
 B:Hp
 /-- what of the entry's objects may be written -/
 M:Addr->Prop
 /-- which address a written slot holds -/
 W:Nat->Option Addr:=fun _=>none
abbrev Dc.K(C:Dc):W.Frag:=C.X.K
def Own(K:W.Frag)(CT:CTab)(G H:Hp)(p:Addr):D->Prop
 | .lst ds=>∃ vs,H p=some (.lst vs)/\RepL K CT G ds vs
 | .dic ds=>∃ kvs,H p=some (.dK kvs)/\RepK K CT G ds kvs
 | .ins c ds=>∃ A dx fs,CT c=some A/\H p=some (.ins A dx fs)/\RepF K CT G ds fs
 | _=>False
theorem Own.there{K:W.Frag}{CT:CTab}{G H:Hp}{p:Addr}:∀{d:D},Own K CT G H p d->∃ o,H p=some o
 | .lst _,⟨_,h,_⟩=>⟨_,h⟩
 | .dic _,⟨_,h,_⟩=>⟨_,h⟩
 | .ins _ _,⟨_,_,_,_,h,_⟩=>⟨_,h⟩
 | .non,h=>h.elim
 | .bl _,h=>h.elim
 | .int _,h=>h.elim
 | .str _,h=>h.elim
 | .tup _,h=>h.elim
theorem Own.mono{K:W.Frag}{CT:CTab}{G G' H H':Hp}{p:Addr}(g:Same G G')(h:∀ o,H p=some o->H' p=some o):∀{d:D},Own K CT G H p d->Own K CT G' H' p d
 | .lst ds,⟨vs,a,b⟩=>⟨vs,h _ a,RepL.mono g ds vs b⟩
 | .dic ds,⟨vs,a,b⟩=>⟨vs,h _ a,RepK.mono g ds vs b⟩
 | .ins _ ds,⟨A,dx,fs,e,a,b⟩=>⟨A,dx,fs,e,h _ a,RepF.mono g ds fs b⟩
 | .non,h=>h.elim
 | .bl _,h=>h.elim
 | .int _,h=>h.elim
 | .str _,h=>h.elim
 | .tup _,h=>h.elim
theorem Own.rep{K:W.Frag}{CT:CTab}{G H:Hp}{p:Addr}(g:Same G H):∀{d:D},Own K CT G H p d->Rep K CT H d (.ref p)
 | .lst ds,⟨vs,a,b⟩=>⟨p,vs,rfl,SqL.of a,RepL.mono g ds vs b⟩
 | .dic ds,⟨vs,a,b⟩=>⟨p,vs,rfl,Rd.of a,RepK.mono g ds vs b⟩
 | .ins _ ds,⟨A,dx,fs,e,a,b⟩=>⟨p,A,dx,fs,rfl,e,a,RepF.mono g ds fs b⟩
 | .non,h=>h.elim
 | .bl _,h=>h.elim
 | .int _,h=>h.elim
 | .str _,h=>h.elim
 | .tup _,h=>h.elim
structure GH(C:Dc)(G H:Hp):Prop where
 sub:Same G H
 g0:Same C.G0 G
 new:∀ b,C.G0 b=none->G b≠none->C.X.H₀ b=none
 fr:∀ b o,C.X.H₀ b=some o->¬ C.M b->H b=some o
 dom:∀ b,H b=none->C.X.H₀ b=none
 bs:Same C.B H
 bh:∀ b,C.X.H₀ b=none->C.B b=none
structure StR(C:Dc)(G H:Hp)(σ:St)(ς:SD):Prop extends GH C G H where
 len:σ.length=ς.length
 fz:∀(i:Nat) d,ς[i]?=some (some (.k,d))->∃ v,σ[i]?=some (some v)/\Rep C.X.K C.CT G d v
 ow:∀(i:Nat) d,ς[i]?=some (some (.o,d))->∃ p,σ[i]?=some (some (.ref p))/\G p=none/\C.X.H₀ p=none/\Own C.X.K C.CT G H p d
 ln:∀(i:Nat) d,ς[i]?=some (some (.l,d))->∃ v,σ[i]?=some (some v)/\Rep C.X.K C.CT C.B d v
 inj:∀(i j:Nat) d e p,i≠j->ς[i]?=some (some (.o,d))->ς[j]?=some (some (.o,e))->σ[i]?=some (some (.ref p))->σ[j]?≠some (some (.ref p))
 sf:∀(i:Nat) d,ς[i]?=some (some (.s,d))->∃ p,σ[i]?=some (some (.ref p))/\G p=none/\C.X.H₀ p≠none/\(C.M p/\C.W i=some p)/\C.B p=none/\Own C.X.K C.CT G H p d
 su:∀(i j:Nat) d e p,i≠j->ς[i]?=some (some (.s,d))->ς[j]?=some (some (.s,e))->σ[i]?=some (some (.ref p))->σ[j]?≠some (some (.ref p))
section
variable{C:Dc}{G G' H H':Hp}{σ:St}{ς:SD}
theorem GH.gnone(S:GH C G H){p:Addr}(h:H p=none):G p=none:=S.sub.free h
theorem GH.h0none(S:GH C G H){p:Addr}(h:H p=none):C.X.H₀ p=none:=S.dom p h
theorem QC{H:Hp}{p:Addr}{o:HO}(h:H p=none):Same H (upd H p o):=fun b u e=>by
 rw[Qm (QT e h)];exact e
theorem QjD{G H:Hp}{p:Addr}{o:HO}(s:Same G H):Same (upd G p o) (upd H p o):=fun b u e=>by
 by_cases hb:b=p
 ·subst hb;rw[QO]at e ⊢;exact e
 ·rw[Qm hb]at e ⊢;exact s b u e
theorem GH.grow(S:GH C G H)(hH:Same H H')(hG:Same G G')(hs:Same G' H')(hn:∀ b,G b=none->G' b≠none->H b=none):GH C G' H' where
 sub:=hs
 g0:=S.g0.trans hG
 new:=fun b h0 h1=>by
  cases q:G b with
  | none=>exact S.h0none (hn b q h1)
  | some o=>exact S.new b h0 (by rw[q];simp)
 fr:=fun b o e m=>hH b o (S.fr b o e m)
 dom:=fun b e=>S.dom b (hH.free e)
 bs:=S.bs.trans hH
 bh:=S.bh
theorem StR.own_ne(S:StR C G H σ ς){i:Nat}{d:D}{p:Addr}(h:ς[i]?=some (some (.o,d)))(hp:σ[i]?=some (some (.ref p))):∃ o,H p=some o:=by
 obtain⟨q,e,_,_,o⟩:=S.ow i d h
 rw[hp]at e;cases e
 exact o.there
theorem StR.grow(S:StR C G H σ ς)(hH:Same H H')(hG:Same G G')(hs:Same G' H')(hn:∀ b,G b=none->G' b≠none->H b=none):StR C G' H' σ ς where
 toGH:=S.toGH.grow hH hG hs hn
 len:=S.len
 fz:=fun i d e=>let ⟨v,a,b⟩:=S.fz i d e;⟨v,a,Rep.mono hG d v b⟩
 ow:=fun i d e=>by
  obtain⟨p,a,b,c,o⟩:=S.ow i d e
  refine⟨p,a,?_,c,o.mono hG fun u q=>hH _ _ q⟩
  cases q:G' p with
  | none=>rfl
  | some u=>
   obtain⟨w,hw⟩:=o.there
   have:=hn p b (by rw[q];simp)
   rw[hw]at this;cases this
 ln:=S.ln
 inj:=S.inj
 sf:=fun i d e=>by
  obtain⟨p,a,b,c,m,z,o⟩:=S.sf i d e
  refine⟨p,a,?_,c,m,z,o.mono hG fun u q=>hH _ _ q⟩
  cases q:G' p with
  | none=>rfl
  | some u=>
   obtain⟨w,hw⟩:=o.there
   have:=hn p b (by rw[q];simp)
   rw[hw]at this;cases this
 su:=S.su
theorem StR.alloc(S:StR C G H σ ς){p:Addr}{o:HO}(h:H p=none):StR C (upd G p o) (upd H p o) σ ς:=
 S.grow (QC h) (QC (S.sub.free h)) (QjD S.sub) fun b g n=>by
  by_cases hb:b=p
  ·subst hb;exact h
  ·rw[Qm hb,g]at n;exact absurd rfl n
theorem StR.allocO(S:StR C G H σ ς){p:Addr}{o:HO}(h:H p=none):StR C G (upd H p o) σ ς:=
 S.grow (QC h) (Same.refl G) (S.sub.trans (QC h)) fun b g n=>absurd g n
end
def KD(C:Dc)(G H:Hp)(σ:St)(ς:SD)(Q:VK)(d:D):Prop:=∀ v H' G',StR C G' H' σ ς->Same H H'->Same G G'->Rep C.X.K C.CT G' d v->Q v H'
def KB(C:Dc)(G H:Hp)(σ:St)(ς:SD)(Q:VK)(d:D):Prop:=∀ v H' G',StR C G' H' σ ς->Same H H'->Same G G'->Rep C.X.K C.CT H' d v->Q v H'
def KF(C:Dc)(G H:Hp)(σ:St)(ς:SD)(Q:VK)(d:D):Prop:=∀ p H' G',StR C G' H' σ ς->Same H H'->Same G G'->H p=none->G' p=none->Own C.X.K C.CT G' H' p d->Q (.ref p) H'
def DE(C:Dc)(e:Expr)(E:SD->Out D):Prop:=∃ t,PE C.X e t/\∀ G H σ ς Q,StR C G H σ ς->(E ς).post (KD C G H σ ς Q) C.XD->t σ H Q
def DB(C:Dc)(e:Expr)(E:SD->Out D):Prop:=∃ t,PE C.X e t/\∀ G H σ ς Q,StR C G H σ ς->(E ς).post (KB C G H σ ς Q) C.XD->t σ H Q
def DF(C:Dc)(e:Expr)(E:SD->Out D):Prop:=∃ t,PE C.X e t/\∀ G H σ ς Q,StR C G H σ ς->(E ς).post (KF C G H σ ς Q) C.XD->t σ H Q
def KT(C:Dc)(G H:Hp)(σ:St)(ς:SD)(Q:Bool->Hp->Prop)(b:Bool):Prop:=∀ H' G',StR C G' H' σ ς->Same H H'->Same G G'->Q b H'
def DT(C:Dc)(e:Expr)(T:SD->Out Bool):Prop:=∃ t,PT C.X e t/\∀ G H σ ς Q,StR C G H σ ς->(T ς).post (KT C G H σ ς Q) C.XD->t σ H Q
def DW(C:Dc)(e:Expr)(T:SD->Out Bool):Prop:=∃ t,PW C.X e t/\∀ G H σ ς Q,StR C G H σ ς->(T ς).post (KT C G H σ ς Q) C.XD->t σ H Q
def DA(C:Dc)(es:List Expr)(A:SD->Out (List D)):Prop:=∃ t,PA C.X es t/\∀ G H σ ς Q,StR C G H σ ς->
 (A ς).post (fun ds=>∀ vs H' G',StR C G' H' σ ς->Same H H'->Same G G'->RepL C.X.K C.CT G' ds vs->Q vs H') C.XD->t σ H Q
def DAB(C:Dc)(es:List Expr)(A:SD->Out (List D)):Prop:=∃ t,PA C.X es t/\∀ G H σ ς Q,StR C G H σ ς->
 (A ς).post (fun ds=>∀ vs H' G',StR C G' H' σ ς->Same H H'->Same G G'->RepL C.X.K C.CT H' ds vs->Q vs H') C.XD->t σ H Q
inductive Fl where
 | nx (ς:SD) | rt (fr:Bool) (d:D) | bk (ς:SD) | ct (ς:SD)
def RetR(K:W.Frag)(CT:CTab)(fr:Bool)(H0 G' H':Hp)(d:D)(v:V):Prop:=
 if fr=true then ∃ p,v=.ref p/\H0 p=none/\G' p=none/\Own K CT G' H' p d else Rep K CT G' d v
def FlK(C:Dc)(G:Hp)(W:Ends):Fl->Prop
 | .nx ς'=>∀ σ' H' G',StR C G' H' σ' ς'->Same G G'->W.nx σ' H'
 | .bk ς'=>∀ σ' H' G',StR C G' H' σ' ς'->Same G G'->W.bk σ' H'
 | .ct ς'=>∀ σ' H' G',StR C G' H' σ' ς'->Same G G'->W.ct σ' H'
 | .rt fr d=>∀ v H' G',GH C G' H'->Same G G'->RetR C.X.K C.CT fr C.X.H₀ G' H' d v->W.rt v H'
def DS(C:Dc)(st:Stmt)(T:SD->Out Fl):Prop:=∃ t,PS C.X st t/\∀ G H σ ς W,StR C G H σ ς->(T ς).post (FlK C G W) C.XD->t W σ H
def DSs(C:Dc)(st:List Stmt)(T:SD->Out Fl):Prop:=∃ t,PSs C.X st t/\∀ G H σ ς W,StR C G H σ ς->(T ς).post (FlK C G W) C.XD->t W σ H
section
variable{C:Dc}{e:Expr}{E:SD->Out D}
theorem StR.freeze{G H:Hp}{σ:St}{ς:SD}(S:StR C G H σ ς){p:Addr}{o:HO}(hp:H p=some o)(hg:G p=none)(h0:C.X.H₀ p=none)(hn:∀(i:Nat) d,ς[i]?=some (some (.o,d))->σ[i]?≠some (some (.ref p))):StR C (upd G p o) H σ ς where
 sub:=fun b u q=>by
  by_cases hb:b=p
  ·subst hb;rw[QO]at q;cases q;exact hp
  ·rw[Qm hb]at q;exact S.sub b u q
 g0:=S.g0.trans (QC hg)
 new:=fun b h1 h2=>by
  by_cases hb:b=p
  ·subst hb;exact h0
  ·rw[Qm hb]at h2;exact S.new b h1 h2
 fr:=S.fr
 dom:=S.dom
 bs:=S.bs
 bh:=S.bh
 len:=S.len
 fz:=fun i d q=>let ⟨v,a,b⟩:=S.fz i d q;⟨v,a,Rep.mono (QC hg) d v b⟩
 ow:=fun i d q=>by
  obtain⟨r,a,b,c,w⟩:=S.ow i d q
  refine⟨r,a,?_,c,w.mono (QC hg) fun _ z=>z⟩
  rw[Qm (by rintro rfl;exact hn i d q a)];exact b
 ln:=S.ln
 inj:=S.inj
 sf:=fun i d q=>by
  obtain⟨r,a,b,c,m,z,w⟩:=S.sf i d q
  refine⟨r,a,?_,c,m,z,w.mono (QC hg) fun _ z=>z⟩
  rw[Qm (by rintro rfl;exact c h0)];exact b
 su:=S.su
theorem Own.known{K:W.Frag}{CT:CTab}{G H:Hp}{p:Addr}{o:HO}(hg:G p=none)(hp:H p=some o):∀{d:D},Own K CT G H p d->Rep K CT (upd G p o) d (.ref p)
 | .lst ds,⟨vs,a,b⟩=>by rw[hp]at a;cases a;exact⟨p,vs,rfl,SqL.of QO,RepL.mono (QC hg) ds vs b⟩
 | .dic ds,⟨vs,a,b⟩=>by rw[hp]at a;cases a;exact⟨p,vs,rfl,Rd.of QO,RepK.mono (QC hg) ds vs b⟩
 | .ins _ ds,⟨A,dx,fs,e,a,b⟩=>by rw[hp]at a;cases a;exact⟨p,A,dx,fs,rfl,e,QO,RepF.mono (QC hg) ds fs b⟩
 | .non,h=>h.elim
 | .bl _,h=>h.elim
 | .int _,h=>h.elim
 | .str _,h=>h.elim
 | .tup _,h=>h.elim
theorem StR.new_ne{G H:Hp}{σ:St}{ς:SD}(S:StR C G H σ ς){p:Addr}(h:H p=none):∀(i:Nat) d,ς[i]?=some (some (.o,d))->σ[i]?≠some (some (.ref p)):=fun i d q z=>by
 obtain⟨o,w⟩:=S.own_ne q z
 rw[h]at w;cases w
theorem KD.ofF{G H:Hp}{σ:St}{ς:SD}{Q:VK}{d:D}(S:StR C G H σ ς)(k:KD C G H σ ς Q d):KF C G H σ ς Q d:=fun p H' G' S' hH hG hp hg ow=>by
 obtain⟨o,ho⟩:=ow.there
 exact k _ _ _ (S'.freeze ho hg (S.h0none hp) (S.new_ne hp)) hH (hG.trans (QC hg)) (ow.known hg ho)
theorem DF.de(h:DF C e E):DE C e E:=by
 obtain⟨t,h1,h2⟩:=h
 refine⟨t,h1,fun G H σ ς Q S q=>h2 G H σ ς Q S (Out.post_mono q fun d k=>KD.ofF S k)⟩
theorem DE.db(h:DE C e E):DB C e E:=by
 obtain⟨t,h1,h2⟩:=h
 refine⟨t,h1,fun G H σ ς Q S q=>h2 G H σ ς Q S (Out.post_mono q fun d k v H' G' S' a b r=>k v H' G' S' a b (Rep.mono S'.sub d v r))⟩
def D.scal:D->Bool
 | .non=>true
 | .bl _=>true
 | .int _=>true
 | .str _=>true
 | _=>false
theorem Rep.scal{K:W.Frag}{CT:CTab}{G H:Hp}:∀{d:D}{v:V},d.scal=true->Rep K CT H d v->Rep K CT G d v
 | .non,_,_,h=>h
 | .bl _,_,_,h=>h
 | .int _,_,_,h=>h
 | .str _,_,_,h=>h
def QgB(o:Out D):Out D:=o>>=fun d=>if d.scal=true then .ok d else .stuck
theorem DB.de(h:DB C e E):DE C e (fun ς=>QgB (E ς)):=by
 obtain⟨t,h1,h2⟩:=h
 refine⟨t,h1,fun G H σ ς Q S q=>h2 G H σ ς Q S ?_⟩
 unfold QgB at q
 rw[Out.post_bind]at q
 refine Out.post_mono q fun d k v H' G' S' a b r=>?_
 by_cases hs:d.scal=true
 ·rw[if_pos hs]at k
  exact k v H' G' S' a b (r.scal hs)
 ·rw[if_neg hs]at k
  exact k.elim
theorem KD.now{G H:Hp}{σ:St}{ς:SD}{Q:VK}{d:D}{v:V}(k:KD C G H σ ς Q d)(S:StR C G H σ ς)(r:Rep C.X.K C.CT G d v):Q v H:=k v H G S (Same.refl H) (Same.refl G) r
theorem KB.now{G H:Hp}{σ:St}{ς:SD}{Q:VK}{d:D}{v:V}(k:KB C G H σ ς Q d)(S:StR C G H σ ς)(r:Rep C.X.K C.CT H d v):Q v H:=k v H G S (Same.refl H) (Same.refl G) r
theorem KT.now{G H:Hp}{σ:St}{ς:SD}{Q:Bool->Hp->Prop}{b:Bool}(k:KT C G H σ ς Q b)(S:StR C G H σ ς):Q b H:=k H G S (Same.refl H) (Same.refl G)
theorem KD.later{G H G1 H1:Hp}{σ:St}{ς:SD}{Q:VK}{d:D}(k:KD C G H σ ς Q d)(hH:Same H H1)(hG:Same G G1):KD C G1 H1 σ ς Q d:=fun v H' G' S a b r=>k v H' G' S (hH.trans a) (hG.trans b) r
theorem KT.later{G H G1 H1:Hp}{σ:St}{ς:SD}{Q:Bool->Hp->Prop}{d:Bool}(k:KT C G H σ ς Q d)(hH:Same H H1)(hG:Same G G1):KT C G1 H1 σ ς Q d:=fun H' G' S a b=>k H' G' S (hH.trans a) (hG.trans b)
theorem KF.later{G H G1 H1:Hp}{σ:St}{ς:SD}{Q:VK}{d:D}(k:KF C G H σ ς Q d)(hH:Same H H1)(hG:Same G G1):KF C G1 H1 σ ς Q d:=fun p H' G' S a b hp hg ow=>k p H' G' S (hH.trans a) (hG.trans b) (hH.free hp) hg ow
theorem KF.lst{G H:Hp}{σ:St}{ς:SD}{Q:VK}{ds:List D}{vs:List V}(k:KF C G H σ ς Q (.lst ds))(S:StR C G H σ ς)(r:RepL C.X.K C.CT G ds vs):∀ p,H p=none->Q (.ref p) (upd H p (.lst vs)):=fun p hp=>
 k p _ G (S.allocO hp) (QC hp) (Same.refl G) hp (S.gnone hp) ⟨vs,QO,r⟩
theorem KD.lst{G H:Hp}{σ:St}{ς:SD}{Q:VK}{ds:List D}{vs:List V}(k:KD C G H σ ς Q (.lst ds))(S:StR C G H σ ς)(r:RepL C.X.K C.CT G ds vs):∀ p,H p=none->Q (.ref p) (upd H p (.lst vs)):=fun p hp=>
 k _ _ _ (S.alloc hp) (QC hp) (QC (S.gnone hp)) ⟨p,vs,rfl,SqL.of QO,RepL.mono (QC (S.gnone hp)) ds vs r⟩
theorem KD.tup{G H:Hp}{σ:St}{ς:SD}{Q:VK}{ds:List D}{vs:List V}(k:KD C G H σ ς Q (.tup ds))(S:StR C G H σ ς)(r:RepL C.X.K C.CT G ds vs):∀ p,H p=none->Q (.ref p) (upd H p (.tup vs)):=fun p hp=>
 k _ _ _ (S.alloc hp) (QC hp) (QC (S.gnone hp)) ⟨p,vs,rfl,SqT.of QO,RepL.mono (QC (S.gnone hp)) ds vs r⟩
end
end DL
namespace DL
open PySem PySem.Spec PyProof.Rows L2
def eVar(i:Nat):SD->Out D:=fun ς=>match ς[i]? with | some (some (.k,d))=>.ok d | _=>.stuck
def eVarB(i:Nat):SD->Out D:=fun ς=>match ς[i]? with | some (some (_,d))=>.ok d | _=>.stuck
def eC(d:D):SD->Out D:=fun _=>.ok d
section
variable{C:Dc}{pos:Pos}
theorem QHV{i:Nat}{ς:SD}{k:D->Prop}{x:D->Prop}(h:(eVar i ς).post k x):∃ d,ς[i]?=some (some (.k,d))/\k d:=by
 unfold eVar at h
 split at h
 ·rename_i d e;exact⟨d,e,h⟩
 ·exact h.elim
theorem QGH{i:Nat}{ς:SD}{k:D->Prop}{x:D->Prop}(h:(eVarB i ς).post k x):∃ b d,ς[i]?=some (some (b,d))/\k d:=by
 unfold eVarB at h
 split at h
 ·rename_i b d e;exact⟨b,d,e,h⟩
 ·exact h.elim
theorem Qa(i:Nat){x:Str}(hN:C.X.N[i]?=some x:=by rfl)(hv:Vis C.X.env.scope x:=by first | exact Or.inl rfl | exact Or.inr (oi rfl) | exact Or.inr (Or.inr rfl))
 (hd:(x == ("__debug__":Str))=false:=by decide) (hcd:(x == ("__classdict__":Str))=false:=by decide):DE C (.Name x pos) (eVar i):=by
 refine⟨_,Qfn (i:=i) hN hv hd hcd,fun G H σ ς Q S q=>?_⟩
 obtain⟨d,e,k⟩:=QHV q
 obtain⟨v,a,b⟩:=S.fz i d e
 exact⟨v,a,k.now S b⟩
theorem Qfu(i:Nat){x:Str}(hN:C.X.N[i]?=some x:=by rfl)(hv:Vis C.X.env.scope x:=by first | exact Or.inl rfl | exact Or.inr (oi rfl) | exact Or.inr (Or.inr rfl))
 (hd:(x == ("__debug__":Str))=false:=by decide) (hcd:(x == ("__classdict__":Str))=false:=by decide):DB C (.Name x pos) (eVarB i):=by
 refine⟨_,Qfn (i:=i) hN hv hd hcd,fun G H σ ς Q S q=>?_⟩
 obtain⟨b,d,e,k⟩:=QGH q
 cases b with
 | k=>
  obtain⟨v,a,b⟩:=S.fz i d e
  exact⟨v,a,k.now S (Rep.mono S.sub d v b)⟩
 | o=>
  obtain⟨p,a,b,c,w⟩:=S.ow i d e
  exact⟨_,a,k.now S (w.rep S.sub)⟩
 | l=>
  obtain⟨v,a,b⟩:=S.ln i d e
  exact⟨v,a,k.now S (Rep.mono S.bs d v b)⟩
 | s=>
  obtain⟨p,a,b,c,m,z,w⟩:=S.sf i d e
  exact⟨_,a,k.now S (w.rep S.sub)⟩
theorem Qe{i:Int}{j}:DE C (.Constant (.int i) j pos) (eC (.int i)):=⟨_,QKn,fun G H σ ς Q S q=>KD.now q S rfl⟩
theorem de_bl{b:Bool}{j}:DE C (.Constant (.bool b) j pos) (eC (.bl b)):=⟨_,pe_bl,fun G H σ ς Q S q=>KD.now q S rfl⟩
theorem QK0{j}:DE C (.Constant .none j pos) (eC .non):=⟨_,QJN,fun G H σ ς Q S q=>KD.now q S rfl⟩
theorem QL{x:Str}{j}:DE C (.Constant (.str x) j pos) (eC (.str x)):=⟨_,QKE,fun G H σ ς Q S q=>KD.now q S rfl⟩
def toV:D->V
 | .bl b=>.bl b
 | .int i=>.int i
 | .str x=>.str x
 | _=>.non
theorem Qqu{K:W.Frag}{CT:CTab}{H:Hp}:∀{d:D},d.scal=true->Rep K CT H d (toV d)
 | .non,_=>rfl
 | .bl _,_=>rfl
 | .int _,_=>rfl
 | .str _,_=>rfl
theorem Qc1{x:Str}{d:D}{u:Value}(hg:Gl C.X x)(hm:C.X.mg x=some u)(hs:d.scal=true)(r:RelV (toV d) u)(hd:(x == ("__debug__":Str))=false:=by decide):DE C (.Name x pos) (eC d):=
 ⟨_,Qif hg hm r hd,fun G H σ ς Q S q=>KD.now q S (Qqu hs)⟩
end
def e1(f:D->Out D)(a:SD->Out D):SD->Out D:=fun ς=>a ς>>=f
def e2(f:D->D->Out D)(a b:SD->Out D):SD->Out D:=fun ς=>a ς>>=fun x=>b ς>>=fun y=>f x y
def DRS(C:Dc)(r:R2)(f:D->D->Out D):Prop:=∀ G H σ ς (Q:VK) x y vx vy,StR C G H σ ς->Rep C.X.K C.CT H x vx->Rep C.X.K C.CT H y vy->
 (f x y).post (fun d=>d.scal=true/\Q (toV d) H) (fun _=>False)->r vx vy H Q
def scal2(f:D->D->Out D):Prop:=∀ x y,match f x y with | .ok d=>d.scal=true | .exc _=>False | .stuck=>True
section
variable{C:Dc}{a b c:Expr}{A B A':SD->Out D}{pos:Pos}
theorem Qgi{o:Out D}{G H:Hp}{σ:St}{ς:SD}{Q:VK}(S:StR C G H σ ς)(hs:match o with | .ok d=>d.scal=true | .exc _=>False | .stuck=>True)(q:o.post (KD C G H σ ς Q) C.XD):
 o.post (fun d=>d.scal=true/\Q (toV d) H) (fun _=>False):=by
 cases o with
 | ok d=>exact⟨hs,KD.now q S (Qqu hs)⟩
 | exc _=>exact hs
 | stuck=>exact q
theorem dop{t:TE}{r:R2}{f:D->D->Out D}{ta tb:TE}(hr:DRS C r f)(hs:scal2 f)
 (h1:∀ G H σ ς Q,StR C G H σ ς->(A ς).post (KB C G H σ ς Q) C.XD->ta σ H Q) (h2:∀ G H σ ς Q,StR C G H σ ς->(B ς).post (KB C G H σ ς Q) C.XD->tb σ H Q):
 ∀ G H σ ς Q,StR C G H σ ς->(e2 f A B ς).post (KD C G H σ ς Q) C.XD->tOp r ta tb σ H Q:=by
 intro G H σ ς Q S q
 unfold e2 at q
 rw[Out.post_bind]at q
 refine h1 G H σ ς _ S (Out.post_mono q fun x k v1 H1 G1 S1 a1 b1 r1=>?_)
 rw[Out.post_bind]at k
 refine h2 G1 H1 σ ς _ S1 (Out.post_mono k fun y k2 v2 H2 G2 S2 a2 b2 r2=>?_)
 refine hr G2 H2 σ ς _ x y v1 v2 S2 (Rep.mono a2 x v1 r1) r2 (Qgi S2 (hs x y) ?_)
 exact Out.post_mono k2 fun d kd=>KD.later kd (a1.trans a2) (b1.trans b2)
theorem de_op{op:Operator}{r:R2}{f:D->D->Out D}(ho:OpR C.X (binaryOp op) r)(hr:DRS C r f)(hs:scal2 f)(ha:DB C a A)(hb:DB C b B):DE C (.BinOp a op b pos) (e2 f A B):=by
 obtain⟨ta,p1,q1⟩:=ha
 obtain⟨tb,p2,q2⟩:=hb
 exact⟨_,pe_op ho p1 p2,dop (t:=ta) hr hs q1 q2⟩
theorem Qm6{op:CmpOp}{r:R2}{f:D->D->Out D}(ho:OpR C.X (compareOp op) r)(hr:DRS C r f)(hs:scal2 f)(ha:DB C a A)(hb:DB C b B)(hm:behindInMarks op b=false):DE C (.Compare a [op] [b] pos) (e2 f A B):=by
 obtain⟨ta,p1,q1⟩:=ha
 obtain⟨tb,p2,q2⟩:=hb
 exact⟨_,QJE ho p1 p2 hm,dop (t:=ta) hr hs q1 q2⟩
def tVal(a:SD->Out D):SD->Out Bool:=fun ς=>a ς>>=fun d=>match d with | .bl b=>.ok b | _=>.stuck
theorem QkN{o:Out D}{G H:Hp}{σ:St}{ς:SD}{Q:Bool->Hp->Prop}(q:(o>>=fun d=>match d with | .bl b=>Out.ok b | _=>.stuck).post (KT C G H σ ς Q) C.XD):
 o.post (KD C G H σ ς fun x H'=>∃ k,x=.bl k/\Q k H') C.XD:=by
 rw[Out.post_bind]at q
 refine Out.post_mono q fun d k v H' G' S' a b r=>?_
 cases d with
 | bl c=>exact⟨c,r,k H' G' S' a b⟩
 | _=>exact k.elim
theorem Qgy{op:CmpOp}{r:R2}{f:D->D->Out D}(ho:OpR C.X (compareOp op) r)(hr:DRS C r f)(hs:scal2 f)(ha:DB C a A)(hb:DB C b B)(hm:behindInMarks op b=false):DT C (.Compare a [op] [b] pos) (tVal (e2 f A B)):=by
 obtain⟨ta,p1,q1⟩:=ha
 obtain⟨tb,p2,q2⟩:=hb
 exact⟨_,QIz ho p1 p2 hm,fun G H σ ς Q S q=>dop (t:=ta) hr hs q1 q2 G H σ ς _ S (QkN q)⟩
theorem QaH(h:DE C a A)(he:∀ whole,isTrue a C.X.env whole=(do let v ← whole;standAt a.pos;holding [v] (truthy v)):=by intro _;rfl):DT C a (tVal A):=by
 obtain⟨ta,p1,q1⟩:=h
 exact⟨_,QJZ p1 he,fun G H σ ς Q S q=>q1 G H σ ς _ S (QkN q)⟩
def QbY(f g:D->D->Out D)(a b c:SD->Out D):SD->Out D:=fun ς=>a ς>>=fun x=>b ς>>=fun y=>f x y>>=fun z=>match z with
 | .bl true=>c ς>>=fun w=>g y w
 | .bl false=>.ok (.bl false)
 | _=>.stuck
theorem QFT{r r':R2}{f g:D->D->Out D}{ta tb tc:TE}(hr:DRS C r f)(hs:scal2 f)(hr':DRS C r' g)(hs':scal2 g)
 (h1:∀ G H σ ς Q,StR C G H σ ς->(A ς).post (KB C G H σ ς Q) C.XD->ta σ H Q) (h2:∀ G H σ ς Q,StR C G H σ ς->(B ς).post (KB C G H σ ς Q) C.XD->tb σ H Q)
 (h3:∀ G H σ ς Q,StR C G H σ ς->(A' ς).post (KB C G H σ ς Q) C.XD->tc σ H Q):
 ∀ G H σ ς Q,StR C G H σ ς->(QbY f g A B A' ς).post (KD C G H σ ς Q) C.XD->Qu5 r r' ta tb tc σ H Q:=by
 intro G H σ ς Q S q
 unfold QbY at q
 rw[Out.post_bind]at q
 refine h1 G H σ ς _ S (Out.post_mono q fun x k v1 H1 G1 S1 a1 b1 r1=>?_)
 rw[Out.post_bind]at k
 refine h2 G1 H1 σ ς _ S1 (Out.post_mono k fun y k2 v2 H2 G2 S2 a2 b2 r2=>?_)
 rw[Out.post_bind]at k2
 refine hr G2 H2 σ ς _ x y v1 v2 S2 (Rep.mono a2 x v1 r1) r2 ?_
 have hxy:=hs x y
 cases e:f x y with
 | exc _=>rw[e]at hxy;exact hxy
 | stuck=>rw[e]at k2;exact k2.elim
 | ok z=>
  rw[e]at k2
  refine⟨by rw[e]at hxy;exact hxy,?_⟩
  cases z with
  | bl cc=>
   refine⟨cc,rfl,?_⟩
   cases cc with
   | false=>exact iteF (KD.now (KD.later (show KD C G H σ ς Q (.bl false) from k2) (a1.trans a2) (b1.trans b2)) S2 rfl)
   | true=>
    refine iteT (h3 G2 H2 σ ς _ S2 ?_)
    have k2':(A' ς>>=fun w=>g y w).post (KD C G H σ ς Q) C.XD:=k2
    rw[Out.post_bind]at k2'
    refine Out.post_mono k2' fun w k3 v3 H3 G3 S3 a3 b3 r3=>?_
    refine hr' G3 H3 σ ς _ y w v2 v3 S3 (Rep.mono a3 y v2 r2) r3 (Qgi S3 (hs' y w) ?_)
    exact Out.post_mono k3 fun d kd=>KD.later kd ((a1.trans a2).trans a3) ((b1.trans b2).trans b3)
  | _=>exact k2.elim
theorem Qxk{op op':CmpOp}{r r':R2}{f g:D->D->Out D}(ho:OpR C.X (compareOp op) r)(hr:DRS C r f)(hs:scal2 f)(ho':OpR C.X (compareOp op') r')(hr':DRS C r' g)(hs':scal2 g)
 (ha:DB C a A) (hb:DB C b B) (hc:DB C c A') (hm:lastMarks [op,op'] [b,c]=false:=by with_unfolding_all rfl):DE C (.Compare a [op,op'] [b,c] pos) (QbY f g A B A'):=by
 obtain⟨ta,p1,q1⟩:=ha
 obtain⟨tb,p2,q2⟩:=hb
 obtain⟨tc,p3,q3⟩:=hc
 exact⟨_,QH0 ho ho' p1 p2 p3 hm,QFT hr hs hr' hs' q1 q2 q3⟩
theorem Qwp{op op':CmpOp}{r r':R2}{f g:D->D->Out D}(ho:OpR C.X (compareOp op) r)(hr:DRS C r f)(hs:scal2 f)(ho':OpR C.X (compareOp op') r')(hr':DRS C r' g)(hs':scal2 g)
 (ha:DB C a A) (hb:DB C b B) (hc:DB C c A') (hm:lastMarks [op,op'] [b,c]=false:=by with_unfolding_all rfl):DT C (.Compare a [op,op'] [b,c] pos) (tVal (QbY f g A B A')):=by
 obtain⟨ta,p1,q1⟩:=ha
 obtain⟨tb,p2,q2⟩:=hb
 obtain⟨tc,p3,q3⟩:=hc
 exact⟨_,QG9 ho ho' p1 p2 p3 hm,fun G H σ ς Q S q=>QFT hr hs hr' hs' q1 q2 q3 G H σ ς _ S (QkN q)⟩
end
section
variable{C:Dc}
def dI(cnd:Int->Int->Bool)(g:Int->Int->D):D->D->Out D
 | .int i,.int j=>if cnd i j=true then .ok (g i j) else .stuck
 | _,_=>.stuck
def dI0(g:Int->Int->D):D->D->Out D
 | .int i,.int j=>.ok (g i j)
 | _,_=>.stuck
theorem QS{α:Type}{c:Prop}[Decidable c]{a b:Out α}{k:α->Prop}{x:D->Prop}(h:(if c then a else b).post k x):(c/\a.post k x)∨(¬ c/\b.post k x):=by
 by_cases e:c
 ·rw[if_pos e]at h;exact .inl ⟨e,h⟩
 ·rw[if_neg e]at h;exact .inr ⟨e,h⟩
theorem Qe4{c:Prop}[Decidable c]{d:D}(h:d.scal=true):match (if c then Out.ok d else Out.stuck:Out D) with | .ok d=>d.scal=true | .exc _=>False | .stuck=>True:=by
 by_cases e:c
 ·rw[if_pos e];exact h
 ·rw[if_neg e];exact True.intro
theorem QkX{cnd:Int->Int->Bool}{g:Int->Int->D}(h:∀ i j,(g i j).scal=true):scal2 (dI cnd g):=by
 intro x y
 cases x with
 | int i=>
  cases y with
  | int j=>exact Qe4 (h i j)
  | _=>exact True.intro
 | _=>exact True.intro
theorem QaU{g:Int->Int->D}(h:∀ i j,(g i j).scal=true):scal2 (dI0 g):=by
 intro x y
 cases x<;>cases y<;>simp[dI0,h]
theorem Qnb{cnd:Int->Int->Bool}{P:Int->Int->Prop}{g:Int->Int->D}(hP:∀ i j,cnd i j=true->P i j):DRS C (rI P fun i j=>toV (g i j)) (dI cnd g):=by
 intro G H σ ς Q x y vx vy S hx hy q
 cases x with
 | int i=>
  cases y with
  | int j=>
   cases hx;cases hy
   refine⟨i,j,rfl,rfl,?_⟩
   rcases QS (show(if cnd i j=true then Out.ok (g i j) else Out.stuck).post _ _ from q) with⟨hc,q⟩ | ⟨hc,q⟩
   ·exact⟨hP i j hc,q.2⟩
   ·exact q.elim
  | _=>exact q.elim
 | _=>exact q.elim
theorem Qbr{g:Int->Int->D}:DRS C (rI0 fun i j=>toV (g i j)) (dI0 g):=by
 intro G H σ ς Q x y vx vy S hx hy q
 cases x with
 | int i=>
  cases y with
  | int j=>
   cases hx;cases hy
   exact⟨i,j,rfl,rfl,q.2⟩
  | _=>exact q.elim
 | _=>exact q.elim
variable{a b c:Expr}{A B:SD->Out D}{pos:Pos}
def dSub:D->D->Out D:=dI0 fun i j=>.int (i - j)
def big(i:Int):Bool:=decide (i.natAbs<2 ^ 9000)
def dMul:D->D->Out D:=dI (fun i j=>decide (Builtin.Int.intBits i+Builtin.Int.intBits j<=134217728)) fun i j=>.int (i * j)
def dFdiv:D->D->Out D:=dI (fun i j=>decide (j≠0)&&big j) fun i j=>.int (i.fdiv j)
def dMod:D->D->Out D:=dI (fun i j=>decide (j≠0)) fun i j=>.int (i.fmod j)
def dPow:D->D->Out D:=dI (fun i j=>decide (0<=j)&&decide (j<=1000000)&&decide (i.natAbs<2 ^ 64)) fun i j=>.int (i ^ j.toNat)
theorem QHT{i:Int}(h:big i=true):i.natAbs.log2<9000:=by
 have h':i.natAbs<2 ^ 9000:=of_decide_eq_true h
 by_cases z:i.natAbs=0
 ·rw[z];decide
 ·exact(Nat.log2_lt z).mpr h'
theorem QJi{X:Cx}:OpR X (binaryOp .Mult) (rI IntMulOk fun i j=>.int (i * j)):=opI fun _ _ _ _ _ _ _ hc q=>mul_int q hc
def CDivB(i j:Int):Prop:=j≠0/\j.natAbs.log2<9000
theorem QH1{X:Cx}:OpR X (binaryOp .FloorDiv) (rI CDivB fun i j=>.int (i.fdiv j)):=opI fun _ _ _ _ _ _ _ hc q=>floordiv_int hc.1 q (.inl (PyProof.noPylong_of_log2 hc.2))
theorem Qj5(ha:DB C a A)(hb:DB C b B):DE C (.BinOp a .Sub b pos) (e2 dSub A B):=de_op QKq Qbr (QaU fun _ _=>rfl) ha hb
theorem QcU(ha:DB C a A)(hb:DB C b B):DE C (.BinOp a .Mult b pos) (e2 dMul A B):=de_op QJi (Qnb fun i j h=>IntMulOk.of_le (Nat.le_refl _) (Nat.le_refl _) (of_decide_eq_true h)) (QkX fun _ _=>rfl) ha hb
theorem Qdy(ha:DB C a A)(hb:DB C b B):DE C (.BinOp a .FloorDiv b pos) (e2 dFdiv A B):=de_op QH1 (Qnb fun i j h=>by
 rw[Bool.and_eq_true]at h
 exact⟨of_decide_eq_true h.1,QHT h.2⟩) (QkX fun _ _=>rfl) ha hb
theorem Q9(ha:DB C a A)(hb:DB C b B):DE C (.BinOp a .Mod b pos) (e2 dMod A B):=de_op QIZ (Qnb fun i j h=>of_decide_eq_true h) (QkX fun _ _=>rfl) ha hb
theorem QnZ(ha:DB C a A)(hb:DB C b B):DE C (.BinOp a .Pow b pos) (e2 dPow A B):=de_op QKB (Qnb fun i j h=>by
 rw[Bool.and_eq_true,Bool.and_eq_true]at h
 exact⟨of_decide_eq_true h.1.1,of_decide_eq_true h.1.2,of_decide_eq_true h.2⟩) (QkX fun _ _=>rfl) ha hb
def dAdd:D->D->Out D
 | .int i,.int j=>.ok (.int (i+j))
 | .str x,.str y=>if x.length+y.length<=sizeLine then .ok (.str (x++y)) else .stuck
 | _,_=>.stuck
theorem QQ(ha:DB C a A)(hb:DB C b B):DE C (.BinOp a .Add b pos) (e2 dAdd A B):=by
 refine de_op (QJK.or QC1) ?_ ?_ ha hb
 ·intro G H σ ς Q x y vx vy S hx hy q
  cases x with
  | int i=>
   cases y with
   | int j=>
    cases hx;cases hy
    exact .inl ⟨i,j,rfl,rfl,q.2⟩
   | _=>exact q.elim
  | str i=>
   cases y with
   | str j=>
    cases hx;cases hy
    rcases QS (show(if i.length+j.length<=sizeLine then Out.ok (D.str (i++j)) else Out.stuck).post _ _ from q) with⟨hc,q⟩ | ⟨hc,q⟩
    ·exact .inr ⟨i,j,rfl,rfl,hc,q.2⟩
    ·exact q.elim
   | _=>exact q.elim
  | _=>exact q.elim
 ·intro x y
  cases x with
  | int i=>
   cases y with
   | int j=>exact rfl
   | _=>exact True.intro
  | str i=>
   cases y with
   | str j=>exact Qe4 rfl
   | _=>exact True.intro
  | _=>exact True.intro
def dLt:D->D->Out D:=dI0 fun i j=>.bl (decide (i<j))
def dLe:D->D->Out D:=dI0 fun i j=>.bl (decide (i<=j))
def dGt:D->D->Out D:=dI0 fun i j=>.bl (decide (j<i))
def dGe:D->D->Out D:=dI0 fun i j=>.bl (decide (j<=i))
end
section
variable{C:Dc}{a b c:Expr}{A B:SD->Out D}{pos:Pos}
def dNeg:D->Out D
 | .int i=>.ok (.int (-i))
 | _=>.stuck
theorem Qxf(ha:DB C a A):DE C (.UnaryOp .USub a pos) (e1 dNeg A):=by
 obtain⟨ta,p1,q1⟩:=ha
 refine⟨_,pe_un QJQ p1,fun G H σ ς Q S q=>?_⟩
 unfold e1 at q
 rw[Out.post_bind]at q
 refine q1 G H σ ς _ S (Out.post_mono q fun x k v1 H1 G1 S1 a1 b1 r1=>?_)
 cases x with
 | int i=>cases r1;exact⟨i,rfl,KD.now (KD.later k a1 b1) S1 rfl⟩
 | _=>exact k.elim
variable{TA TB:SD->Out Bool}{rest:List Expr}
def tAnd'(a b:SD->Out Bool):SD->Out Bool:=fun ς=>a ς>>=fun c=>if c=true then b ς else .ok false
def tOr'(a b:SD->Out Bool):SD->Out Bool:=fun ς=>a ς>>=fun c=>if c=true then .ok true else b ς
def tNot'(a:SD->Out Bool):SD->Out Bool:=fun ς=>a ς>>=fun c=>.ok (!c)
theorem DW.dt{e:Expr}{T:SD->Out Bool}(h:DW C e T):DT C e T:=let ⟨t,p,q⟩:=h;⟨t,p.pt,q⟩
theorem QIw(ha:DT C a TA):DW C (.BoolOp .And [a] pos) TA:=let ⟨t,p,q⟩:=ha;⟨t,QJo p,q⟩
theorem QeK(ha:DT C a TA):DW C (.BoolOp .Or [a] pos) TA:=let ⟨t,p,q⟩:=ha;⟨t,QKo p,q⟩
theorem QKA(ha:DT C a TA)(hb:DW C (.BoolOp .And (b::rest) pos) TB):DW C (.BoolOp .And (a::b::rest) pos) (tAnd' TA TB):=by
 obtain⟨t1,p1,q1⟩:=ha
 obtain⟨t2,p2,q2⟩:=hb
 refine⟨_,QJP p1 p2,fun G H σ ς Q S q=>?_⟩
 unfold tAnd' at q
 rw[Out.post_bind]at q
 refine q1 G H σ ς _ S (Out.post_mono q fun x k H1 G1 S1 a1 b1=>?_)
 cases x with
 | true=>exact iteT (q2 G1 H1 σ ς _ S1 (Out.post_mono (show(TB ς).post _ _ from k) fun x k=>KT.later k a1 b1))
 | false=>exact iteF (KT.now (KT.later (show KT C G H σ ς Q false from k) a1 b1) S1)
theorem dw_or(ha:DT C a TA)(hb:DW C (.BoolOp .Or (b::rest) pos) TB):DW C (.BoolOp .Or (a::b::rest) pos) (tOr' TA TB):=by
 obtain⟨t1,p1,q1⟩:=ha
 obtain⟨t2,p2,q2⟩:=hb
 refine⟨_,pw_or p1 p2,fun G H σ ς Q S q=>?_⟩
 unfold tOr' at q
 rw[Out.post_bind]at q
 refine q1 G H σ ς _ S (Out.post_mono q fun x k H1 G1 S1 a1 b1=>?_)
 cases x with
 | true=>exact iteT (KT.now (KT.later (show KT C G H σ ς Q true from k) a1 b1) S1)
 | false=>exact iteF (q2 G1 H1 σ ς _ S1 (Out.post_mono (show(TB ς).post _ _ from k) fun x k=>KT.later k a1 b1))
theorem QaC(ha:DT C a TA):DT C (.UnaryOp .Not a pos) (tNot' TA):=by
 obtain⟨t1,p1,q1⟩:=ha
 refine⟨_,QKJ p1,fun G H σ ς Q S q=>?_⟩
 unfold tNot' at q
 rw[Out.post_bind]at q
 exact q1 G H σ ς _ S (Out.post_mono q fun x k H1 G1 S1 a1 b1=>k H1 G1 S1 a1 b1)
def eAnd(a b:SD->Out D):SD->Out D:=fun ς=>a ς>>=fun d=>match d with | .bl true=>b ς | .bl false=>.ok (.bl false) | _=>.stuck
def eOr(a b:SD->Out D):SD->Out D:=fun ς=>a ς>>=fun d=>match d with | .bl true=>.ok (.bl true) | .bl false=>b ς | _=>.stuck
def eNot(a:SD->Out D):SD->Out D:=fun ς=>a ς>>=fun d=>match d with | .bl c=>.ok (.bl (!c)) | _=>.stuck
theorem Qfs{op}(h:DE C a A):DE C (.BoolOp op [a] pos) A:=let ⟨t,p,q⟩:=h;⟨t,QKX p,q⟩
theorem QcV(ha:DE C a A)(hb:DE C (.BoolOp .And (b::rest) pos) B):DE C (.BoolOp .And (a::b::rest) pos) (eAnd A B):=by
 obtain⟨t1,p1,q1⟩:=ha
 obtain⟨t2,p2,q2⟩:=hb
 refine⟨_,QKW p1 p2,fun G H σ ς Q S q=>?_⟩
 unfold eAnd at q
 rw[Out.post_bind]at q
 refine q1 G H σ ς _ S (Out.post_mono q fun x k v1 H1 G1 S1 a1 b1 r1=>?_)
 cases x with
 | bl c=>
  refine⟨c,r1,?_⟩
  cases c with
  | true=>exact iteT (q2 G1 H1 σ ς _ S1 (Out.post_mono (show(B ς).post _ _ from k) fun x k=>KD.later k a1 b1))
  | false=>exact iteF (KD.now (KD.later (show KD C G H σ ς Q (.bl false) from k) a1 b1) S1 rfl)
 | _=>exact k.elim
theorem QJM(ha:DE C a A):DE C (.UnaryOp .Not a pos) (eNot A):=by
 obtain⟨t1,p1,q1⟩:=ha
 refine⟨_,QKf p1,fun G H σ ς Q S q=>?_⟩
 unfold eNot at q
 rw[Out.post_bind]at q
 refine q1 G H σ ς _ S (Out.post_mono q fun x k v1 H1 G1 S1 a1 b1 r1=>?_)
 cases x with
 | bl c=>exact⟨c,r1,KD.now (KD.later (show KD C G H σ ς Q (.bl (!c)) from k) a1 b1) S1 rfl⟩
 | _=>exact k.elim
def eIf(t:SD->Out Bool)(a b:SD->Out D):SD->Out D:=fun ς=>t ς>>=fun c=>if c=true then a ς else b ς
theorem de_if{t:Expr}(ht:DT C t TA)(ha:DE C a A)(hb:DE C b B):DE C (.IfExp t a b pos) (eIf TA A B):=by
 obtain⟨t0,p0,q0⟩:=ht
 obtain⟨t1,p1,q1⟩:=ha
 obtain⟨t2,p2,q2⟩:=hb
 refine⟨_,QHX p0 p1 p2,fun G H σ ς Q S q=>?_⟩
 unfold eIf at q
 rw[Out.post_bind]at q
 refine q0 G H σ ς _ S (Out.post_mono q fun x k H1 G1 S1 a1 b1=>?_)
 cases x with
 | true=>exact iteT (q1 G1 H1 σ ς _ S1 (Out.post_mono (show(A ς).post _ _ from k) fun x k=>KD.later k a1 b1))
 | false=>exact iteF (q2 G1 H1 σ ς _ S1 (Out.post_mono (show(B ς).post _ _ from k) fun x k=>KD.later k a1 b1))
end
end DL
namespace DL
open PySem PySem.Spec PyProof.Rows L2
def aNil:SD->Out (List D):=fun _=>.ok []
def aCons(a:SD->Out D)(r:SD->Out (List D)):SD->Out (List D):=fun ς=>a ς>>=fun x=>r ς>>=fun xs=>.ok (x::xs)
section
variable{C:Dc}{e:Expr}{es:List Expr}{E:SD->Out D}{A:SD->Out (List D)}{pos:Pos}
theorem Qk:DA C [] aNil:=⟨_,QcO,fun G H σ ς Q S q=>q [] H G S (Same.refl H) (Same.refl G) rfl⟩
theorem Qz:DAB C [] aNil:=⟨_,QcO,fun G H σ ς Q S q=>q [] H G S (Same.refl H) (Same.refl G) rfl⟩
theorem Qd(ha:DE C e E)(hr:DA C es A)(hs:starEach (e::es) C.X.env=(false,eval e C.X.env)::starEach es C.X.env:=by rfl):DA C (e::es) (aCons E A):=by
 obtain⟨t1,p1,q1⟩:=ha
 obtain⟨t2,p2,q2⟩:=hr
 refine⟨_,QaZ p1 p2 hs,fun G H σ ς Q S q=>?_⟩
 unfold aCons at q
 rw[Out.post_bind]at q
 refine q1 G H σ ς _ S (Out.post_mono q fun x k v1 H1 G1 S1 a1 b1 r1=>?_)
 rw[Out.post_bind]at k
 refine q2 G1 H1 σ ς _ S1 (Out.post_mono k fun xs k2 vs H2 G2 S2 a2 b2 r2=>?_)
 exact k2 (v1::vs) H2 G2 S2 (a1.trans a2) (b1.trans b2) ⟨v1,vs,rfl,Rep.mono b2 x v1 r1,r2⟩
theorem Qs(ha:DB C e E)(hr:DAB C es A)(hs:starEach (e::es) C.X.env=(false,eval e C.X.env)::starEach es C.X.env:=by rfl):DAB C (e::es) (aCons E A):=by
 obtain⟨t1,p1,q1⟩:=ha
 obtain⟨t2,p2,q2⟩:=hr
 refine⟨_,QaZ p1 p2 hs,fun G H σ ς Q S q=>?_⟩
 unfold aCons at q
 rw[Out.post_bind]at q
 refine q1 G H σ ς _ S (Out.post_mono q fun x k v1 H1 G1 S1 a1 b1 r1=>?_)
 rw[Out.post_bind]at k
 refine q2 G1 H1 σ ς _ S1 (Out.post_mono k fun xs k2 vs H2 G2 S2 a2 b2 r2=>?_)
 exact k2 (v1::vs) H2 G2 S2 (a1.trans a2) (b1.trans b2) ⟨v1,vs,rfl,Rep.mono a2 x v1 r1,r2⟩
def fits(n:Nat):Bool:=decide (n<=sizeLine)
def eTup(a:SD->Out (List D)):SD->Out D:=fun ς=>a ς>>=fun xs=>if fits xs.length=true then .ok (.tup xs) else .stuck
def eLst(a:SD->Out (List D)):SD->Out D:=fun ς=>a ς>>=fun xs=>if fits xs.length=true then .ok (.lst xs) else .stuck
theorem Qne{x1}(h:DA C es A):DE C (.Tuple es x1 pos) (eTup A):=by
 obtain⟨t,p,q⟩:=h
 refine⟨_,QFc p,fun G H σ ς Q S k=>?_⟩
 unfold eTup at k
 rw[Out.post_bind]at k
 refine q G H σ ς _ S (Out.post_mono k fun xs k2 vs H1 G1 S1 a1 b1 r1=>?_)
 rcases QS k2 with⟨hc,k3⟩ | ⟨_,k3⟩
 ·exact⟨by rw[← r1.length];exact of_decide_eq_true hc,KD.tup (KD.later k3 a1 b1) S1 r1⟩
 ·exact k3.elim
theorem Qaw(h:DA C es A):DF C (.List es pos) (eLst A):=by
 obtain⟨t,p,q⟩:=h
 refine⟨_,QKI p,fun G H σ ς Q S k=>?_⟩
 unfold eLst at k
 rw[Out.post_bind]at k
 refine q G H σ ς _ S (Out.post_mono k fun xs k2 vs H1 G1 S1 a1 b1 r1=>?_)
 rcases QS k2 with⟨hc,k3⟩ | ⟨_,k3⟩
 ·exact⟨by rw[← r1.length];exact of_decide_eq_true hc,KF.lst (KF.later k3 a1 b1) S1 r1⟩
 ·exact k3.elim
end
theorem Qq6{K:W.Frag}{CT:CTab}{H:Hp}{ds:List D}{vs:List V}{i:Int}{d:D}(r:RepL K CT H ds vs)(h:atI ds i=some d):∃ v,atI vs i=some v/\Rep K CT H d v:=by
 unfold atI at h ⊢
 rw[← r.length]
 cases e:ixN ds.length i with
 | none=>rw[e]at h;cases h
 | some j=>
  rw[e]at h
  exact r.get h
def optO{α:Type}:Option α->Out α
 | some a=>.ok a
 | none=>.stuck
theorem Qe0{α:Type}{o:Option α}{k:α->Prop}{x:D->Prop}(h:(optO o).post k x):∃ a,o=some a/\k a:=by
 cases o with
 | none=>exact h.elim
 | some a=>exact⟨a,rfl,h⟩
def dIx:D->D->Out D
 | .lst xs,.int i=>optO (atI xs i)
 | .tup xs,.int i=>optO (atI xs i)
 | .str x,.int i=>if fits x.length=true then optO ((atI x.cps.toList i).map fun c=>D.str ⟨#[c]⟩) else .stuck
 | _,_=>.stuck
section
variable{C:Dc}{a b:Expr}{A B:SD->Out D}{pos:Pos}
theorem de_ix(ha:DE C a A)(hb:DB C b B)(hs:QqA b:=by intro _ _;rfl):DE C (.Subscript a b pos) (e2 dIx A B):=by
 obtain⟨ta,p1,q1⟩:=ha
 obtain⟨tb,p2,q2⟩:=hb
 refine⟨_,pe_ix QFe p1 p2 hs,fun G H σ ς Q S q=>?_⟩
 unfold e2 at q
 rw[Out.post_bind]at q
 refine q1 G H σ ς _ S (Out.post_mono q fun x k v1 H1 G1 S1 a1 b1 r1=>?_)
 rw[Out.post_bind]at k
 refine q2 G1 H1 σ ς _ S1 (Out.post_mono k fun y k2 v2 H2 G2 S2 a2 b2 r2=>?_)
 have r1':=Rep.mono b2 x v1 r1
 cases y with
 | int i=>
  cases r2
  cases x with
  | lst xs=>
   obtain⟨p,vs,rfl,h2,h3⟩:=r1'
   obtain⟨d,e,kd⟩:=Qe0 k2
   obtain⟨v,e2,r⟩:=Qq6 h3 e
   exact .inl ⟨p,vs,i,v,rfl,rfl,S2.sub.seq h2,e2,KD.now (KD.later kd (a1.trans a2) (b1.trans b2)) S2 r⟩
  | tup xs=>
   obtain⟨p,vs,rfl,h2,h3⟩:=r1'
   obtain⟨d,e,kd⟩:=Qe0 k2
   obtain⟨v,e2,r⟩:=Qq6 h3 e
   exact .inr (.inl ⟨p,vs,i,v,rfl,rfl,Same.sqT S2.sub h2,e2,KD.now (KD.later kd (a1.trans a2) (b1.trans b2)) S2 r⟩)
  | str z=>
   cases r1'
   rcases QS (show(if fits z.length=true then optO ((atI z.cps.toList i).map fun c=>D.str ⟨#[c]⟩) else .stuck).post _ C.XD from k2) with⟨hc,q⟩ | ⟨_,q⟩
   ·obtain⟨d,e,kd⟩:=Qe0 q
    cases e3:atI z.cps.toList i with
    | none=>rw[e3]at e;cases e
    | some c=>
     rw[e3]at e
     cases e
     exact .inr (.inr ⟨z,i,c,rfl,rfl,of_decide_eq_true hc,e3,KD.now (KD.later kd (a1.trans a2) (b1.trans b2)) S2 rfl⟩)
   ·exact q.elim
  | _=>exact k2.elim
 | _=>cases x<;>exact k2.elim
end
def cutD{α:Type}(xs:List α)(lo hi:Option Int):List α:=(xs.drop (HT.sIx xs.length 0 lo)).take (HT.sIx xs.length xs.length hi - HT.sIx xs.length 0 lo)
theorem QIH{K:W.Frag}{CT:CTab}{H:Hp}{ds:List D}{vs:List V}(lo hi:Option Int)(r:RepL K CT H ds vs):RepL K CT H (cutD ds lo hi) (cutV vs lo hi):=by
 unfold cutD cutV
 rw[r.length]
 exact(r.drop _).take _
def oNo:SD->Out (Option Int):=fun _=>.ok none
def oSome(e:SD->Out D):SD->Out (Option Int):=fun ς=>e ς>>=fun d=>match d with | .int i=>.ok (some i) | _=>.stuck
def DO(C:Dc)(e:Option Expr)(T:SD->Out (Option Int)):Prop:=∃ t,PO C.X e t/\∀ G H σ ς Q,StR C G H σ ς->(T ς).post (fun o=>∀ H' G',StR C G' H' σ ς->Same H H'->Same G G'->Q o H') C.XD->t σ H Q
section
variable{C:Dc}{a b:Expr}{A B:SD->Out D}{lo hi:Option Expr}{L U:SD->Out (Option Int)}{pos p2:Pos}
theorem QIm:DO C none oNo:=⟨_,QJc,fun G H σ ς Q S q=>q H G S (Same.refl H) (Same.refl G)⟩
theorem QeZ(h:DB C a A):DO C (some a) (oSome A):=by
 obtain⟨t,p,q⟩:=h
 refine⟨_,QIF p,fun G H σ ς Q S k=>?_⟩
 unfold oSome at k
 rw[Out.post_bind]at k
 refine q G H σ ς _ S (Out.post_mono k fun x k2 v1 H1 G1 S1 a1 b1 r1=>?_)
 cases x with
 | int i=>cases r1;exact⟨i,rfl,k2 H1 G1 S1 a1 b1⟩
 | _=>exact k2.elim
def eSl(a:SD->Out D)(l u:SD->Out (Option Int)):SD->Out D:=fun ς=>a ς>>=fun x=>l ς>>=fun i=>u ς>>=fun j=>match x with
 | .lst xs=>.ok (.lst (cutD xs i j))
 | _=>.stuck
theorem df_sl(ha:DE C a A)(hl:DO C lo L)(hu:DO C hi U):DF C (.Subscript a (.Slice lo hi none p2) pos) (eSl A L U):=by
 obtain⟨ta,p1,q1⟩:=ha
 obtain⟨tl,p3,q3⟩:=hl
 obtain⟨tu,p4,q4⟩:=hu
 refine⟨_,QHD QIS p1 p3 p4,fun G H σ ς Q S q=>?_⟩
 unfold eSl at q
 rw[Out.post_bind]at q
 refine q1 G H σ ς _ S (Out.post_mono q fun x k v1 H1 G1 S1 a1 b1 r1=>?_)
 rw[Out.post_bind]at k
 refine q3 G1 H1 σ ς _ S1 (Out.post_mono k fun i k2 H2 G2 S2 a2 b2=>?_)
 rw[Out.post_bind]at k2
 refine q4 G2 H2 σ ς _ S2 (Out.post_mono k2 fun j k3 H3 G3 S3 a3 b3=>?_)
 cases x with
 | lst xs=>
  obtain⟨p,vs,rfl,h2,h3⟩:=Rep.mono (b2.trans b3) _ v1 r1
  exact⟨p,vs,rfl,S3.sub.seq h2,KF.lst (KF.later (show KF C G H σ ς Q (.lst (cutD xs i j)) from k3) ((a1.trans a2).trans a3) ((b1.trans b2).trans b3)) S3 (QIH i j h3)⟩
 | _=>exact k3.elim
end
section
variable{C:Dc}{x:Str}{p pos:Pos}{e:Expr}{es:List Expr}{A:SD->Out (List D)}{id T:String}
def eA(f:List D->Out D)(a:SD->Out (List D)):SD->Out D:=fun ς=>a ς>>=f
def DCS(C:Dc)(r:List V->Hp->VK->Prop)(f:List D->Out D):Prop:=∀ G H σ ς (Q:VK) xs vs,StR C G H σ ς->RepL C.X.K C.CT H xs vs->
 (f xs).post (fun d=>d.scal=true/\Q (toV d) H) (fun _=>False)->r vs H Q
def scalA(f:List D->Out D):Prop:=∀ xs,match f xs with | .ok d=>d.scal=true | .exc _=>False | .stuck=>True
theorem dcall{r:List V->Hp->VK->Prop}{f:List D->Out D}{t:TA}(hr:DCS C r f)(hs:scalA f)
 (h:∀ G H σ ς Q,StR C G H σ ς->(A ς).post (fun ds=>∀ vs H' G',StR C G' H' σ ς->Same H H'->Same G G'->RepL C.X.K C.CT H' ds vs->Q vs H') C.XD->t σ H Q):
 ∀ G H σ ς Q,StR C G H σ ς->(eA f A ς).post (KD C G H σ ς Q) C.XD->tCB r t σ H Q:=by
 intro G H σ ς Q S q
 unfold eA at q
 rw[Out.post_bind]at q
 refine h G H σ ς _ S (Out.post_mono q fun ds k vs H1 G1 S1 a1 b1 r1=>?_)
 exact hr G1 H1 σ ς Q ds vs S1 r1 (Qgi S1 (hs ds) (Out.post_mono k fun d kd=>KD.later kd a1 b1))
theorem Qmm{r:List V->Hp->VK->Prop}{f:List D->Out D}(hc:CallR C.X (.builtin id) r)(hr:DCS C r f)(hs:scalA f)(hg:Gl C.X x)(hm:C.X.mg x=none)(hv:bootBuiltins x=some (.builtin id))(ha:DAB C (e::es) A)(hn:x≠"__name__":=by decide)(hdb:(x == ("__debug__":Str))=false:=by decide)
 (he:starEach (e::es) C.X.env=(false,eval e C.X.env)::starEach es C.X.env:=by rfl) (hpl:(backTo pos (starEach es C.X.env)).any (·.1)=false:=by rfl):DE C (.Call (.Name x p) (e::es) [] pos) (eA f A):=by
 obtain⟨t,p1,q1⟩:=ha
 exact⟨_,Ql8 hc hg hm hv p1 hn hdb he hpl,dcall hr hs q1⟩
theorem Qr6{r:List V->Hp->VK->Prop}{f:List D->Out D}(hc:CallR C.X (.type T) r)(hr:DCS C r f)(hs:scalA f)(hg:Gl C.X x)(hm:C.X.mg x=none)(hv:bootBuiltins x=some (.type T))(ha:DAB C (e::es) A)(hn:x≠"__name__":=by decide)(hdb:(x == ("__debug__":Str))=false:=by decide)
 (he:starEach (e::es) C.X.env=(false,eval e C.X.env)::starEach es C.X.env:=by rfl) (hpl:(backTo pos (starEach es C.X.env)).any (·.1)=false:=by rfl):DE C (.Call (.Name x p) (e::es) [] pos) (eA f A):=by
 obtain⟨t,p1,q1⟩:=ha
 exact⟨_,Qjs hc hg hm hv p1 hn hdb he hpl,dcall hr hs q1⟩
def fLen:List D->Out D
 | [.lst xs]=>.ok (.int xs.length)
 | [.tup xs]=>.ok (.int xs.length)
 | [.str x]=>if fits x.length=true then .ok (.int x.length) else .stuck
 | _=>.stuck
theorem QIY:DCS C (fun xs H Q=>(∃ p ys,xs=[.ref p]/\(SqL C.X.K H p ys∨SqT C.X.K H p ys)/\Q (.int ys.length) H)∨∃ z,xs=[.str z]/\z.length<=sizeLine/\Q (.int z.length) H) fLen:=by
 intro G H σ ς Q xs vs S r q
 cases xs with
 | nil=>exact q.elim
 | cons x xr=>
  obtain⟨v,vr,rfl,r1,r2⟩:=r
  cases xr with
  | cons y yr=>cases x<;>exact q.elim
  | nil=>
   cases r2
   cases x with
   | lst ys=>
    obtain⟨p,us,rfl,h2,h3⟩:=r1
    exact .inl ⟨p,us,rfl,.inl h2,by rw[← h3.length];exact q.2⟩
   | tup ys=>
    obtain⟨p,us,rfl,h2,h3⟩:=r1
    exact .inl ⟨p,us,rfl,.inr h2,by rw[← h3.length];exact q.2⟩
   | str z=>
    cases r1
    rcases QS (show(if fits z.length=true then Out.ok (D.int z.length) else .stuck).post _ _ from q) with⟨hc,q⟩ | ⟨_,q⟩
    ·exact .inr ⟨z,rfl,of_decide_eq_true hc,q.2⟩
    ·exact q.elim
   | _=>exact q.elim
theorem QHU:scalA fLen:=by
 intro xs
 cases xs with
 | nil=>exact True.intro
 | cons x xr=>
  cases xr with
  | cons y yr=>cases x<;>exact True.intro
  | nil=>
   cases x with
   | lst ys=>exact rfl
   | tup ys=>exact rfl
   | str z=>exact Qe4 rfl
   | _=>exact True.intro
theorem Qae(hg:Gl C.X "len")(hm:C.X.mg "len"=none)(ha:DAB C (e::es) A)
 (he:starEach (e::es) C.X.env=(false,eval e C.X.env)::starEach es C.X.env:=by rfl) (hpl:(backTo pos (starEach es C.X.env)).any (·.1)=false:=by rfl):DE C (.Call (.Name "len" p) (e::es) [] pos) (eA fLen A):=
 Qmm (Qv8.or Qu9) QIY QHU hg hm PySem.boot_len ha (by decide) (by decide) he hpl
def f1(g:D->Out D):List D->Out D
 | [x]=>g x
 | _=>.stuck
theorem QkW{g:D->Out D}(h:∀ x,match g x with | .ok d=>d.scal=true | .exc _=>False | .stuck=>True):scalA (f1 g):=by
 intro xs
 match xs with
 | []=>exact True.intro
 | [x]=>exact h x
 | _::_::_=>exact True.intro
def dAbs:D->Out D
 | .int i=>.ok (.int (if i<0 then -i else i))
 | _=>.stuck
theorem QnG{r:List V->Hp->VK->Prop}{g:D->Out D}(h:∀ G H σ ς (Q:VK) x v,StR C G H σ ς->Rep C.X.K C.CT H x v->(g x).post (fun d=>d.scal=true/\Q (toV d) H) (fun _=>False)->r [v] H Q):DCS C r (f1 g):=by
 intro G H σ ς Q xs vs S r q
 match xs,r with
 | [],_=>exact q.elim
 | [x],⟨v,vr,e1,r1,r2⟩=>cases r2;subst e1;exact h G H σ ς Q x v S r1 q
 | _::_::_,_=>exact q.elim
end
mutual
def D.py:D->PyData
 | .non=>.none
 | .bl b=>.bool b
 | .int i=>.int i
 | .str x=>.str x
 | .lst xs=>.list (D.pys xs)
 | .tup xs=>.tuple (D.pys xs)
 | .dic _=>.dict []
 | .ins _ _=>.dict []
 | .err _=>.dict []
def D.pys:List D->List PyData
 | []=>[]
 | x::xs=>D.py x::D.pys xs
end
section
variable{X:Cx}{pins:List (Addr×Obj)}{σ:L2.St}{H:Hp}{s:Shared}{CT:CTab}
mutual
theorem Qgz(I:Inv X pins σ H s):∀(d:D)(v:V)(u:Value),Rep X.K CT H d v->RelV v u->d.py.canLay0=true->∃ as,Reads s.heap u d.py as
 | .non,_,_,h,r,_=>by cases h;cases r;exact⟨_,.none⟩
 | .bl b,_,_,h,r,_=>by cases h;cases r;exact⟨_,.bool b⟩
 | .int i,_,_,h,r,_=>by cases h;obtain⟨t,rfl⟩:=r;exact⟨_,.int i t⟩
 | .str x,_,_,h,r,_=>by cases h;obtain⟨t,rfl⟩:=r;exact⟨_,.str x t⟩
 | .lst ds,_,_,⟨a,vs,h1,h2,h3⟩,r,c=>by
  subst h1;cases r
  obtain⟨its,q,⟨o,n,ho,hc,_,hd⟩,_⟩:=I.list h2
  obtain⟨as,ra⟩:=Qkm I ds vs its h3 q (by simpa [D.py,PyData.canLay0] using c)
  exact⟨_,.list ho hc hd (by simpa using ra)⟩
 | .tup ds,_,_,⟨a,vs,h1,h2,h3⟩,r,c=>by
  subst h1;cases r
  obtain⟨its,q,⟨o,ho,hc,n,hd⟩,_⟩:=I.tuple h2
  obtain⟨as,ra⟩:=Qkm I ds vs its h3 q (by simpa [D.py,PyData.canLay0] using c)
  exact⟨_,.tuple ho hc hd (by simpa using ra)⟩
 | .dic _,_,_,_,_,c=>by simp[D.py,PyData.canLay0]at c
 | .ins _ _,_,_,_,_,c=>by simp[D.py,PyData.canLay0]at c
 | .err _,_,_,_,_,c=>by simp[D.py,PyData.canLay0]at c
theorem Qkm(I:Inv X pins σ H s):∀(ds:List D)(vs:List V)(us:List Value),RepL X.K CT H ds vs->Vals vs us->PyData.canLayAll0 (D.pys ds)=true->∃ as,ReadsAll s.heap us (D.pys ds) as
 | [],_,_,h,r,_=>by cases h;cases r;exact⟨_,.nil⟩
 | d::ds,_,_,⟨v,w,h1,h2,h3⟩,r,c=>by
  subst h1
  cases r with
  | cons r1 r2=>
   have c':d.py.canLay0=true/\PyData.canLayAll0 (D.pys ds)=true:=by simpa [D.pys,PyData.canLayAll0] using c
   obtain⟨as,q1⟩:=Qgz I d v _ h2 r1 c'.1
   obtain⟨bs,q2⟩:=Qkm I ds w _ h3 r2 c'.2
   exact⟨_,.cons q1 q2⟩
end
end
def shp(d:D):Bool:=SeqAt.shaped d.py
def dEq(x y:D):Out D:=if (shp x&&shp y)=true then .ok (.bl (PyData.eqv x.py y.py)) else .stuck
def dNe(x y:D):Out D:=if (shp x&&shp y)=true then .ok (.bl (!PyData.eqv x.py y.py)) else .stuck
section
variable{C:Dc}{a b:Expr}{A B:SD->Out D}{pos:Pos}
def rEqD(C:Dc)(n:Bool):R2:=fun vx vy H Q=>∃ x y,Rep C.X.K C.CT H x vx/\Rep C.X.K C.CT H y vy/\shp x=true/\shp y=true/\Q (.bl (n != PyData.eqv x.py y.py)) H
theorem QGm(hu:C.X.A.units+64<cLine):OpR C.X (compareOp .Eq) (rEqD C false):=by
 intro pins s σ H vx vy u w Q I rx ry h
 obtain⟨x,y,h1,h2,h3,h4,q⟩:=h
 obtain⟨as,ra⟩:=Qgz I x vx u h1 rx (SeqAt.canLay_of_shaped h3)
 obtain⟨bs,rb⟩:=Qgz I y vy w h2 ry (SeqAt.canLay_of_shaped h4)
 exact eq_dataH ra rb h3 h4 hu ⟨.bl _,H,I,rfl,by simpa using q⟩
theorem QJ8(hu:C.X.A.units+64<cLine):OpR C.X (compareOp .NotEq) (rEqD C true):=by
 intro pins s σ H vx vy u w Q I rx ry h
 obtain⟨x,y,h1,h2,h3,h4,q⟩:=h
 obtain⟨as,ra⟩:=Qgz I x vx u h1 rx (SeqAt.canLay_of_shaped h3)
 obtain⟨bs,rb⟩:=Qgz I y vy w h2 ry (SeqAt.canLay_of_shaped h4)
 exact ne_dataH ra rb h3 h4 hu ⟨.bl _,H,I,rfl,by simpa using q⟩
theorem QFE:DRS C (rEqD C false) dEq:=by
 intro G H σ ς Q x y vx vy S hx hy q
 rcases QS q with⟨hc,q⟩ | ⟨_,q⟩
 ·rw[Bool.and_eq_true]at hc
  exact⟨x,y,hx,hy,hc.1,hc.2,by simpa [toV] using q.2⟩
 ·exact q.elim
theorem QKD:DRS C (rEqD C true) dNe:=by
 intro G H σ ς Q x y vx vy S hx hy q
 rcases QS q with⟨hc,q⟩ | ⟨_,q⟩
 ·rw[Bool.and_eq_true]at hc
  exact⟨x,y,hx,hy,hc.1,hc.2,by simpa [toV] using q.2⟩
 ·exact q.elim
theorem QCf:scal2 dEq:=fun x y=>Qe4 rfl
theorem QJg:scal2 dNe:=fun x y=>Qe4 rfl
theorem de_lt(ha:DB C a A)(hb:DB C b B):DE C (.Compare a [.Lt] [b] pos) (e2 dLt A B):=Qm6 op_lt Qbr (QaU fun _ _=>rfl) ha hb (Qgu _)
theorem dt_lt(ha:DB C a A)(hb:DB C b B):DT C (.Compare a [.Lt] [b] pos) (tVal (e2 dLt A B)):=Qgy op_lt Qbr (QaU fun _ _=>rfl) ha hb (Qgu _)
theorem dt_gt(ha:DB C a A)(hb:DB C b B):DT C (.Compare a [.Gt] [b] pos) (tVal (e2 dGt A B)):=Qgy op_gt Qbr (QaU fun _ _=>rfl) ha hb (Qgu _)
theorem dt_ge(ha:DB C a A)(hb:DB C b B):DT C (.Compare a [.GtE] [b] pos) (tVal (e2 dGe A B)):=Qgy op_ge Qbr (QaU fun _ _=>rfl) ha hb (Qgu _)
theorem de_eq(hu:C.X.A.units+64<cLine)(ha:DB C a A)(hb:DB C b B):DE C (.Compare a [.Eq] [b] pos) (e2 dEq A B):=Qm6 (QGm hu) QFE QCf ha hb (Qgu _)
theorem dt_eq(hu:C.X.A.units+64<cLine)(ha:DB C a A)(hb:DB C b B):DT C (.Compare a [.Eq] [b] pos) (tVal (e2 dEq A B)):=Qgy (QGm hu) QFE QCf ha hb (Qgu _)
theorem dt_ne(hu:C.X.A.units+64<cLine)(ha:DB C a A)(hb:DB C b B):DT C (.Compare a [.NotEq] [b] pos) (tVal (e2 dNe A B)):=Qgy (QJ8 hu) QKD QJg ha hb (Qgu _)
end
end DL
namespace DL
open PySem PySem.Spec PyProof.Rows L2
section
variable{C:Dc}{a b:Expr}{A B:SD->Out D}{pos:Pos}
end
def Qbk:D->String
 | .non=>"NoneType"
 | .bl _=>"bool"
 | .int _=>"int"
 | .str _=>"str"
 | .lst _=>"list"
 | .tup _=>"tuple"
 | .dic _=>"dict"
 | .ins _ _=>"object"
 | .err _=>"object"
structure ClsD(K:W.Frag)(A:Addr):Prop where
 cl:Cls K A
 ha:W.findIn K (.ref A) "__class__"=some (some (.builtin "object.__class__"))
 hn:W.specialIn K (.builtin "object.__class__") "__get__"=some (some (.builtin "getset_descriptor.__get__"))
 htk:W.takesIn K (.builtin "object.__class__")=some true
 hm:W.mroIn K A (.type "object")=some true
def KitD(K:W.Frag)(CT:CTab)(d:D)(uc:Value)(b:Bool):Prop:=match d with
 | .ins c _=>∀ A,CT c=some A->ClsD K A/\W.kitOne K (.ref A) uc=some b
 | .err c=>∀ A,CT c=some A->ExCls K A/\W.kitOne K (.ref A) uc=some b
 | d=>W.kitOne K (.type (Qbk d)) uc=some b
section
variable{C:Dc}{e cx:Expr}{E:SD->Out D}{p pos:Pos}{vc:V}{uc:Value}
theorem QJm{pins:List (Addr×Obj)}{σ:L2.St}{H:Hp}{s:Shared}{A:Around}{Ex:Value->Shared->Prop}{Q:Value->Shared->Prop}{d:D}{v:V}{u:Value}{b:Bool}(I:Inv C.X pins σ H s)(h:Rep C.X.K C.CT H d v)(r:RelV v u)(k:KitD C.X.K C.CT d uc b)
 (q:∀ tk,Q (.bool b) { s with toks:=tk }):wpAny (model C.X.prog C.X.w) A (call (.builtin "isinstance") [u,uc]) Q Ex s:=by
 cases d with
 | non=>cases h;cases r;exact W.kia_one W.kitx_none I.kIn True.intro k (fun z=>nomatch z) q
 | bl y=>cases h;cases r;exact W.kia_one W.kitx_bool I.kIn True.intro k (fun z=>nomatch z) q
 | int i=>cases h;obtain⟨t,rfl⟩:=r;exact W.kia_one W.kitx_int I.kIn True.intro k (fun z=>nomatch z) q
 | str i=>cases h;obtain⟨t,rfl⟩:=r;exact W.kia_one W.kitx_str I.kIn True.intro k (fun z=>nomatch z) q
 | lst ds=>
  obtain⟨a,vs,rfl,h2,_⟩:=h;cases r
  obtain⟨its,_,⟨o,n,ho,hc,_⟩,_⟩:=I.list h2
  exact W.kia_one W.kitx_list I.kIn ⟨o,ho,hc⟩ k (fun z=>nomatch z) q
 | tup ds=>
  obtain⟨a,vs,rfl,h2,_⟩:=h;cases r
  obtain⟨its,_,⟨o,ho,hc,_⟩,_⟩:=I.tuple h2
  exact W.kia_one W.kitx_tuple I.kIn ⟨o,ho,hc⟩ k (fun z=>nomatch z) q
 | dic ds=>
  obtain⟨a,kvs,rfl,h2,_⟩:=h;cases r
  obtain⟨_,_,vs,_,p⟩:=h2.ok I.hok
  obtain⟨o,es,ep,h1,h2,_⟩:=p
  exact W.kia_one W.kitx_dict I.kIn ⟨o,h1,h2.1⟩ k (fun z=>nomatch z) q
 | ins c fs=>
  obtain⟨a,A',dx,fs',rfl,h1,h2,_⟩:=h;cases r
  obtain⟨cd,kk⟩:=k A' h1
  obtain⟨mA,O,_⟩:=Qib I.hok h2
  obtain⟨od,J,_⟩:=O.look
  exact W.kia_one (W.kitx_own (cd.cl.get _) cd.cl.hd cd.ha cd.hn cd.htk cd.hm) I.kIn J kk (fun z=>nomatch z) q
 | err c=>
  obtain⟨a,A',rfl,h1,h2⟩:=h;cases r
  obtain⟨cd,kk⟩:=k A' h1
  obtain⟨J,_⟩:=(show ObjOk C.X.prog C.X.w H s.heap a (exO a A') from I.hok a _ h2)
  exact W.kia_one (QHK cd) I.kIn J kk (fun z=>nomatch z) q
def clsV:V->Option Value
 | .ty n=>some (.type n)
 | .ref a=>some (.ref a)
 | _=>none
def eIsa(f:D->Out Bool)(a:SD->Out D):SD->Out D:=fun ς=>a ς>>=fun d=>f d>>=fun b=>.ok (.bl b)
theorem QJ7{f:D->Out Bool}(hc:PE C.X cx (tC vc))(rc:clsV vc=some uc)(hf:∀ d,match f d with | .ok b=>KitD C.X.K C.CT d uc b | .exc _=>False | .stuck=>True)(hg:Gl C.X "isinstance")(hm:C.X.mg "isinstance"=none)(h:DB C e E)
 (he:starEach (e::[cx]) C.X.env=(false,eval e C.X.env)::starEach [cx] C.X.env:=by rfl) (he2:starEach (cx::[]) C.X.env=(false,eval cx C.X.env)::starEach [] C.X.env:=by rfl)
 (hpl:(backTo pos (starEach [cx] C.X.env)).any (·.1)=false:=by rfl):DE C (.Call (.Name "isinstance" p) [e,cx] [] pos) (eIsa f E):=by
 obtain⟨t,p1,q1⟩:=h
 have hR:CallR C.X (.builtin "isinstance") (fun xs H Q=>∃ d x b,xs=[x,vc]/\Rep C.X.K C.CT H d x/\KitD C.X.K C.CT d uc b/\Q (.bl b) H):=by
  intro pins s σ H xs us Q I r h
  obtain⟨d,x,b,rfl,h1,h2,q⟩:=h
  obtain⟨u,w,rfl,r1,r2⟩:=vals2 r
  have:w=uc:=by
   cases vc<;>first
    | (cases rc;cases r2;rfl)
    | cases rc
  subst this
  exact QJm I h1 r1 h2 fun tk=>⟨.bl b,H,I.tok _,rfl,q⟩
 refine⟨_,Ql8 hR hg hm PyProof.Rows.Boot.«isinstance» (QaZ p1 (QaZ hc QcO he2) he) (by decide) (by decide) he hpl,fun G H σ ς Q S q=>?_⟩
 unfold eIsa at q
 rw[Out.post_bind]at q
 refine q1 G H σ ς _ S (Out.post_mono q fun d k v1 H1 G1 S1 a1 b1 r1=>?_)
 rw[Out.post_bind]at k
 have hd:=hf d
 cases e:f d with
 | exc _=>rw[e]at hd;exact hd.elim
 | stuck=>rw[e]at k;exact k.elim
 | ok b=>
  rw[e]at k hd
  exact⟨d,v1,b,rfl,r1,hd,KD.now (KD.later (show KD C G H σ ς Q (.bl b) from k) a1 b1) S1 rfl⟩
end
end DL
namespace DL
open PySem PySem.Spec PyProof.Rows L2
section
variable{C:Dc}{G H:Hp}{σ:St}{ς:SD}
theorem QI{α:Type}{xs:List α}{i j:Nat}{x y:α}(h:(xs.set i x)[j]?=some y):(i=j/\y=x/\i<xs.length)∨(i≠j/\xs[j]?=some y):=by
 rw[List.getElem?_set]at h
 by_cases e:i=j
 ·rw[if_pos e]at h
  by_cases l:i<xs.length
  ·rw[if_pos l]at h;exact .inl ⟨e,(Option.some.inj h).symm,l⟩
  ·rw[if_neg l]at h;cases h
 ·rw[if_neg e]at h;exact .inr ⟨e,h⟩
theorem QeX{α:Type}{xs:List α}{i:Nat}{x:α}(h:i<xs.length):(xs.set i x)[i]?=some x:=by
 rw[List.getElem?_set,if_pos rfl,if_pos h]
theorem Qt{α:Type}{xs:List α}{i j:Nat}{x:α}(h:i≠j):(xs.set i x)[j]?=xs[j]?:=by
 rw[List.getElem?_set,if_neg h]
theorem StR.set(S:StR C G H σ ς){d:D}{v:V}(i:Nat)(r:Rep C.X.K C.CT G d v):StR C G H (σ.set i (some v)) (ς.set i (some (.k,d))) where
 toGH:=S.toGH
 len:=by rw[List.length_set,List.length_set];exact S.len
 fz:=fun j e h=>by
  rcases QI h with⟨rfl,h2,l⟩ | ⟨ne,h2⟩
  ·cases h2
   exact⟨v,QeX (by rw[S.len];exact l),r⟩
  ·rw[Qt ne];exact S.fz j e h2
 ow:=fun j e h=>by
  rcases QI h with⟨rfl,h2,l⟩ | ⟨ne,h2⟩
  ·cases h2
  ·rw[Qt ne];exact S.ow j e h2
 ln:=fun j e h=>by
  rcases QI h with⟨rfl,h2,l⟩ | ⟨ne,h2⟩
  ·cases h2
  ·rw[Qt ne];exact S.ln j e h2
 inj:=fun j k d1 d2 p hjk h1 h2 h3=>by
  rcases QI h1 with⟨rfl,q1,l⟩ | ⟨n1,q1⟩
  ·cases q1
  ·rcases QI h2 with⟨rfl,q2,l⟩ | ⟨n2,q2⟩
   ·cases q2
   ·rw[Qt n1]at h3
    rw[Qt n2];exact S.inj j k d1 d2 p hjk q1 q2 h3
 sf:=fun j e h=>by
  rcases QI h with⟨rfl,h2,l⟩ | ⟨ne,h2⟩
  ·cases h2
  ·rw[Qt ne];exact S.sf j e h2
 su:=fun j k d1 d2 p hjk h1 h2 h3=>by
  rcases QI h1 with⟨rfl,q1,l⟩ | ⟨n1,q1⟩
  ·cases q1
  ·rcases QI h2 with⟨rfl,q2,l⟩ | ⟨n2,q2⟩
   ·cases q2
   ·rw[Qt n1]at h3
    rw[Qt n2];exact S.su j k d1 d2 p hjk q1 q2 h3
theorem StR.setO(S:StR C G H σ ς){d:D}{p:Addr}(i:Nat)(hg:G p=none)(h0:C.X.H₀ p=none)(ow:Own C.X.K C.CT G H p d)(hn:∀(j:Nat) e,j≠i->ς[j]?=some (some (.o,e))->σ[j]?≠some (some (.ref p))):
 StR C G H (σ.set i (some (.ref p))) (ς.set i (some (.o,d))) where
 toGH:=S.toGH
 len:=by rw[List.length_set,List.length_set];exact S.len
 fz:=fun j e h=>by
  rcases QI h with⟨rfl,h2,l⟩ | ⟨ne,h2⟩
  ·cases h2
  ·rw[Qt ne];exact S.fz j e h2
 ow:=fun j e h=>by
  rcases QI h with⟨rfl,h2,l⟩ | ⟨ne,h2⟩
  ·cases h2
   exact⟨p,QeX (by rw[S.len];exact l),hg,h0,ow⟩
  ·rw[Qt ne];exact S.ow j e h2
 ln:=fun j e h=>by
  rcases QI h with⟨rfl,h2,l⟩ | ⟨ne,h2⟩
  ·cases h2
  ·rw[Qt ne];exact S.ln j e h2
 inj:=fun j k d1 d2 q hjk h1 h2 h3=>by
  rcases QI h1 with⟨rfl,q1,l1⟩ | ⟨n1,q1⟩
  ·rcases QI h2 with⟨rfl,q2,l⟩ | ⟨n2,q2⟩
   ·exact absurd rfl hjk
   ·rw[QeX (by rw[S.len];exact l1)]at h3
    cases h3
    rw[Qt n2];exact hn k d2 (Ne.symm n2) q2
  ·rcases QI h2 with⟨rfl,q2,l⟩ | ⟨n2,q2⟩
   ·rw[Qt n1]at h3
    rw[QeX (by rw[S.len];exact l)]
    intro z;cases z
    exact hn j d1 (Ne.symm n1) q1 h3
   ·rw[Qt n1]at h3
    rw[Qt n2];exact S.inj j k d1 d2 q hjk q1 q2 h3
 sf:=fun j e h=>by
  rcases QI h with⟨rfl,h2,l⟩ | ⟨ne,h2⟩
  ·cases h2
  ·rw[Qt ne];exact S.sf j e h2
 su:=fun j k d1 d2 p hjk h1 h2 h3=>by
  rcases QI h1 with⟨rfl,q1,l⟩ | ⟨n1,q1⟩
  ·cases q1
  ·rcases QI h2 with⟨rfl,q2,l⟩ | ⟨n2,q2⟩
   ·cases q2
   ·rw[Qt n1]at h3
    rw[Qt n2];exact S.su j k d1 d2 p hjk q1 q2 h3
end
def sNil:SD->Out Fl:=fun ς=>.ok (.nx ς)
def thenF(U:SD->Out Fl):Fl->Out Fl
 | .nx ς=>U ς
 | .rt b d=>.ok (.rt b d)
 | .bk ς=>.ok (.bk ς)
 | .ct ς=>.ok (.ct ς)
def sSeq(T U:SD->Out Fl):SD->Out Fl:=fun ς=>T ς>>=thenF U
section
variable{C:Dc}{e:Expr}{E:SD->Out D}{st:Stmt}{rest:List Stmt}{T U:SD->Out Fl}{pos:Pos}
theorem FlK.later{G G1:Hp}{W:Ends}{f:Fl}(h:FlK C G W f)(s:Same G G1):FlK C G1 W f:=by
 cases f with
 | nx ς=>exact fun σ' H' G' S q=>h σ' H' G' S (s.trans q)
 | bk ς=>exact fun σ' H' G' S q=>h σ' H' G' S (s.trans q)
 | ct ς=>exact fun σ' H' G' S q=>h σ' H' G' S (s.trans q)
 | rt b d=>exact fun σ' H' G' S q=>h σ' H' G' S (s.trans q)
theorem QW:DSs C [] sNil:=⟨_,QIJ,fun G H σ ς W S q=>q σ H G S (Same.refl G)⟩
theorem Qf(h1:DS C st T)(h2:DSs C rest U):DSs C (st::rest) (sSeq T U):=by
 obtain⟨t1,p1,q1⟩:=h1
 obtain⟨t2,p2,q2⟩:=h2
 refine⟨_,QHb p1 p2,fun G H σ ς W S q=>?_⟩
 unfold sSeq at q
 rw[Out.post_bind]at q
 refine q1 G H σ ς _ S (Out.post_mono q fun f k=>?_)
 cases f with
 | nx ς'=>exact fun σ' H' G' S' s'=>q2 G' H' σ' ς' W S' (Out.post_mono (show(U ς').post _ _ from k) fun f k=>FlK.later k s')
 | bk ς'=>exact k
 | ct ς'=>exact k
 | rt b d=>exact k
theorem Qh(h1:DS C st T):DSs C [st] T:=let ⟨t,p,q⟩:=h1;⟨t,QIa p,q⟩
def sSet(i:Nat)(E:SD->Out D):SD->Out Fl:=fun ς=>E ς>>=fun d=>.ok (.nx (ς.set i (some (.k,d))))
def sSetO(i:Nat)(E:SD->Out D):SD->Out Fl:=fun ς=>E ς>>=fun d=>.ok (.nx (ς.set i (some (.o,d))))
theorem QP{i:Nat}{x:Str}{pos':Pos}(hN:C.X.N.Nodup)(hi:C.X.N[i]?=some x)(hx:Loc C.X.env.scope x)(he:DE C e E)(hs:swapsWith e (some (.Name x pos')) pos.line C.X.env=pure false:=by rfl)
 (hf:C.X.fn x=true∨C.X.env.scope.names.lookup x=some .local:=by first | exact .inl rfl | exact .inr rfl | assumption):DS C (.Assign [.Name x pos'] e pos) (sSet i E):=by
 obtain⟨t,p,q⟩:=he
 refine⟨_,QFf hN hi hx p hs hf,fun G H σ ς W S k=>?_⟩
 unfold sSet at k
 rw[Out.post_bind]at k
 exact q G H σ ς _ S (Out.post_mono k fun d k v H1 G1 S1 a1 b1 r1=>k _ H1 G1 (S1.set i r1) b1)
theorem Qdo{i:Nat}{x:Str}{pos':Pos}(hN:C.X.N.Nodup)(hi:C.X.N[i]?=some x)(hx:Loc C.X.env.scope x)(he:DF C e E)(hs:swapsWith e (some (.Name x pos')) pos.line C.X.env=pure false:=by rfl)
 (hf:C.X.fn x=true∨C.X.env.scope.names.lookup x=some .local:=by first | exact .inl rfl | exact .inr rfl | assumption):DS C (.Assign [.Name x pos'] e pos) (sSetO i E):=by
 obtain⟨t,p,q⟩:=he
 refine⟨_,QFf hN hi hx p hs hf,fun G H σ ς W S k=>?_⟩
 unfold sSetO at k
 rw[Out.post_bind]at k
 exact q G H σ ς _ S (Out.post_mono k fun d k p H1 G1 S1 a1 b1 hp hg ow=>k _ H1 G1 (S1.setO i hg (S.h0none hp) ow fun j e _ z=>S.new_ne hp j e z) b1)
def sPar(i j:Nat)(A:SD->Out (List D)):SD->Out Fl:=fun ς=>A ς>>=fun ds=>match ds with
 | [x,y]=>.ok (.nx ((ς.set i (some (.k,x))).set j (some (.k,y))))
 | _=>.stuck
def Qaf:List Nat->List D->SD->Out SD
 | [],[],ς=>.ok ς
 | i::is,d::ds,ς=>Qaf is ds (ς.set i (some (.k,d)))
 | _,_,_=>.stuck
def DGs(C:Dc)(es:List Expr)(is:List Nat):Prop:=∃ t,PGs C.X es t/\∀ G H σ ς ds vs ς' (Q:St->Hp->Prop),StR C G H σ ς->RepL C.X.K C.CT G ds vs->Qaf is ds ς=.ok ς'->
 (∀ σ',StR C G H σ' ς'->Q σ' H)->t vs σ H Q
theorem Qd9:DGs C [] []:=by
 refine⟨_,QIC,fun G H σ ς ds vs ς' Q S r h q=>?_⟩
 cases ds with
 | nil=>
  cases h
  exact⟨r,q σ S⟩
 | cons d ds=>cases h
theorem Qab{i:Nat}{is:List Nat}{x:Str}{es:List Expr}(hN:C.X.N.Nodup)(hi:C.X.N[i]?=some x)(hx:Loc C.X.env.scope x)(h2:DGs C es is)
 (hf:C.X.fn x=true∨C.X.env.scope.names.lookup x=some .local:=by first | exact .inl rfl | exact .inr rfl | assumption)
 (hs:(assignEach (.Name x pos::es) C.X.env).map (·.2)=assign (.Name x pos) C.X.env::(assignEach es C.X.env).map (·.2):=by rfl):DGs C (.Name x pos::es) (i::is):=by
 obtain⟨t,p,q⟩:=h2
 refine⟨_,QG3 (QBP hN hi hx hf) p hs,fun G H σ ς ds vs ς' Q S r h k=>?_⟩
 cases ds with
 | nil=>cases h
 | cons d ds=>
  obtain⟨v,w,rfl,r1,r2⟩:=r
  exact⟨v,w,rfl,q G H _ _ ds w ς' Q (S.set i r1) r2 h k⟩
def sUnp(is:List Nat)(E:SD->Out D):SD->Out Fl:=fun ς=>E ς>>=fun d=>match d with
 | .tup ds=>Qaf is ds ς>>=fun ς'=>.ok (.nx ς')
 | _=>.stuck
theorem QiG:∀{is:List Nat}{ds:List D}{ς ς':SD},Qaf is ds ς=.ok ς'->ds.length=is.length
 | [],[],_,_,_=>rfl
 | i::is,d::ds,ς,ς',h=>by
  have:=QiG (is:=is) (ds:=ds) h
  simp[this]
 | [],_::_,_,_,h=>by cases h
 | _::_,[],_,_,h=>by cases h
def sRet(E:SD->Out D):SD->Out Fl:=fun ς=>E ς>>=fun d=>.ok (.rt false d)
def sRetF(E:SD->Out D):SD->Out Fl:=fun ς=>E ς>>=fun d=>.ok (.rt true d)
theorem QJ(he:DE C e E):DS C (.Return (some e) pos) (sRet E):=by
 obtain⟨t,p,q⟩:=he
 refine⟨_,Qvn p,fun G H σ ς W S k=>?_⟩
 unfold sRet at k
 rw[Out.post_bind]at k
 exact q G H σ ς _ S (Out.post_mono k fun d k v H1 G1 S1 a1 b1 r1=>k v H1 G1 S1.toGH b1 r1)
theorem QaX(he:DF C e E):DS C (.Return (some e) pos) (sRetF E):=by
 obtain⟨t,p,q⟩:=he
 refine⟨_,Qvn p,fun G H σ ς W S k=>?_⟩
 unfold sRetF at k
 rw[Out.post_bind]at k
 exact q G H σ ς _ S (Out.post_mono k fun d k p H1 G1 S1 a1 b1 hp hg ow=>k _ H1 G1 S1.toGH b1 ⟨p,rfl,S.h0none hp,hg,ow⟩)
def sRetO(i:Nat):SD->Out Fl:=fun ς=>match ς[i]? with | some (some (.o,d))=>.ok (.rt true d) | _=>.stuck
theorem Qf7(i:Nat){x:Str}{px:Pos}(hN:C.X.N[i]?=some x:=by rfl)(hv:Vis C.X.env.scope x:=by first | exact Or.inl rfl | exact Or.inr (oi rfl) | exact Or.inr (Or.inr rfl))
 (hd:(x == ("__debug__":Str))=false:=by decide) (hcd:(x == ("__classdict__":Str))=false:=by decide):DS C (.Return (some (.Name x px)) pos) (sRetO i):=by
 refine⟨_,Qvn (Qfn (i:=i) hN hv hd hcd),fun G H σ ς W S k=>?_⟩
 unfold sRetO at k
 split at k
 ·rename_i d z
  obtain⟨p,a,b,c,w⟩:=S.ow i d z
  exact⟨_,a,k _ H G S.toGH (Same.refl G) ⟨p,rfl,c,b,w⟩⟩
 ·exact k.elim
def sIf(c:SD->Out Bool)(T U:SD->Out Fl):SD->Out Fl:=fun ς=>c ς>>=fun b=>if b=true then T ς else U ς
theorem ds_if{c:Expr}{a b:List Stmt}{TC:SD->Out Bool}(hc:DT C c TC)(ha:DSs C a T)(hb:DSs C b U):DS C (.If c a b pos) (sIf TC T U):=by
 obtain⟨t0,p0,q0⟩:=hc
 obtain⟨t1,p1,q1⟩:=ha
 obtain⟨t2,p2,q2⟩:=hb
 refine⟨_,ps_if p0 p1 p2,fun G H σ ς W S k=>?_⟩
 unfold sIf at k
 rw[Out.post_bind]at k
 refine q0 G H σ ς _ S (Out.post_mono k fun b k H1 G1 S1 a1 b1=>?_)
 cases b with
 | true=>exact iteT (q1 G1 H1 σ ς W S1 (Out.post_mono (show(T ς).post _ _ from k) fun f k=>FlK.later k b1))
 | false=>exact iteF (q2 G1 H1 σ ς W S1 (Out.post_mono (show(U ς).post _ _ from k) fun f k=>FlK.later k b1))
def Qel:SD->Out Fl:=fun _=>.stuck
theorem Qdc:DS C st Qel:=⟨_,QG8,fun G H σ ς W S k=>k.elim⟩
end
def loopD(body:D->SD->Out Fl):List D->SD->Out Fl
 | [],ς=>.ok (.nx ς)
 | x::xs,ς=>body x ς>>=fun f=>match f with
  | .nx ς'=>loopD body xs ς'
  | .ct ς'=>loopD body xs ς'
  | .bk ς'=>.ok (.nx ς')
  | .rt b d=>.ok (.rt b d)
def DG(C:Dc)(tg:Expr)(g:D->SD->Out SD):Prop:=∃ t,PG C.X tg t/\∀ G H σ ς d v ς' (Q:St->Hp->Prop),StR C G H σ ς->Rep C.X.K C.CT G d v->g d ς=.ok ς'->(∀ σ',StR C G H σ' ς'->Q σ' H)->t v σ H Q
def gN(i:Nat):D->SD->Out SD:=fun d ς=>.ok (ς.set i (some (.k,d)))
def gT(is:List Nat):D->SD->Out SD:=fun d ς=>match d with | .tup ds=>Qaf is ds ς | _=>.stuck
def noExc{α β γ : Type}(g:α->β->Out γ):Prop:=∀ a b x,g a b≠.exc x
theorem Qr(i:Nat):noExc (gN i):=fun _ _ _ h=>by cases h
theorem Qj3(is:List Nat):∀(ds:List D) (ς:SD) x,Qaf is ds ς≠.exc x:=by
 induction is with
 | nil=>intro ds ς x h;cases ds<;>cases h
 | cons i is ih=>intro ds ς x h;cases ds with
  | nil=>cases h
  | cons d ds=>exact ih ds _ x h
theorem Qgg(is:List Nat):noExc (gT is):=fun d ς x h=>by
 cases d with
 | tup ds=>exact Qj3 is ds ς x h
 | _=>cases h
section
variable{C:Dc}{e tg iter:Expr}{E:SD->Out D}{body:List Stmt}{T U:SD->Out Fl}{pos:Pos}{g:D->SD->Out SD}
theorem Qw{i:Nat}{x:Str}(hN:C.X.N.Nodup)(hi:C.X.N[i]?=some x)(hx:Loc C.X.env.scope x)
 (hf:C.X.fn x=true∨C.X.env.scope.names.lookup x=some .local:=by first | exact .inl rfl | exact .inr rfl | assumption):DG C (.Name x pos) (gN i):=
 ⟨_,QBP hN hi hx hf,fun G H σ ς d v ς' Q S r h k=>by cases h;exact k _ (S.set i r)⟩
theorem Qks{es:List Expr}{is:List Nat}{k:Nat}(hc:C.X.calm=true)(hg:DGs C es is)(hn:(assignEach es C.X.env).length=is.length:=by rfl)(hst:(assignEach es C.X.env).findIdx? (·.1)=none:=by rfl):
 DG C (.Tuple es k pos) (gT is):=by
 obtain⟨t2,p2,q2⟩:=hg
 refine⟨_,QKN hc p2 hn hst,fun G H σ ς d v ς' Q S r h k=>?_⟩
 cases d with
 | tup ds=>
  obtain⟨a,vs,rfl,h2,h3⟩:=r
  exact⟨a,vs,rfl,Same.sqT S.sub h2,by rw[← h3.length];exact QiG h,q2 G H σ ς ds vs ς' Q S h3 h k⟩
 | _=>cases h
def sFor(g:D->SD->Out SD)(its:SD->Out (List D))(T:SD->Out Fl):SD->Out Fl:=fun ς=>its ς>>=fun xs=>loopD (fun x ς=>g x ς>>=fun ς'=>T ς') xs ς
def itL(E:SD->Out D):SD->Out (List D):=fun ς=>E ς>>=fun d=>match d with | .lst xs=>.ok xs | _=>.stuck
theorem turnD{W:Ends}{x:D}{v:V}{xs:List D}{G H:Hp}{σ:St}{ς:SD}{tb:TS}{tt:TG}{N:L2.St->Hp->Prop}(hne:noExc g)
 (hg:∀ G H σ ς d v ς' (Q:St->Hp->Prop),StR C G H σ ς->Rep C.X.K C.CT G d v->g d ς=.ok ς'->(∀ σ',StR C G H σ' ς'->Q σ' H)->tt v σ H Q)
 (hb:∀ G H σ ς W,StR C G H σ ς->(T ς).post (FlK C G W) C.XD->tb W σ H)
 (S:StR C G H σ ς) (r:Rep C.X.K C.CT G x v) (q:(loopD (fun x ς=>g x ς>>=fun ς'=>T ς') (x::xs) ς).post (FlK C G W) C.XD)
 (hN:∀ σ' H' G' ς',StR C G' H' σ' ς'->Same G G'->(loopD (fun x ς=>g x ς>>=fun ς'=>T ς') xs ς').post (FlK C G' W) C.XD->N σ' H'):
 tt v σ H fun σ2 H2=>tb { W with nx:=N,ct:=N,bk:=W.nx } σ2 H2:=by
 have q':((g x ς>>=fun ς'=>T ς')>>=fun f=>match f with
  | .nx ς'=>loopD (fun x ς=>g x ς>>=fun ς'=>T ς') xs ς'
  | .ct ς'=>loopD (fun x ς=>g x ς>>=fun ς'=>T ς') xs ς'
  | .bk ς'=>.ok (.nx ς')
  | .rt b d=>.ok (.rt b d)).post (FlK C G W) C.XD:=q
 rw[Out.post_bind,Out.post_bind]at q'
 cases z:g x ς with
 | exc y=>exact absurd z (hne _ _ _)
 | stuck=>rw[z]at q';exact q'.elim
 | ok ς1=>
  rw[z]at q'
  refine hg G H σ ς x v ς1 _ S r z fun σ1 S1=>hb G H σ1 ς1 _ S1 (Out.post_mono q' fun f k=>?_)
  cases f with
  | nx ς'=>exact fun σ' H' G' S' s'=>hN σ' H' G' ς' S' s' (Out.post_mono (show(loopD _ xs ς').post _ _ from k) fun f k=>FlK.later k s')
  | ct ς'=>exact fun σ' H' G' S' s'=>hN σ' H' G' ς' S' s' (Out.post_mono (show(loopD _ xs ς').post _ _ from k) fun f k=>FlK.later k s')
  | bk ς'=>exact fun σ' H' G' S' s'=>(show FlK C G W (.nx ς') from k) σ' H' G' S' s'
  | rt b d=>exact k
theorem Qr2{α:Type}{xs:List α}{i:Nat}{x:α}(h:xs[i]?=some x):xs.drop i=x::xs.drop (i+1):=by
 obtain⟨l,e⟩:=List.getElem?_eq_some_iff.mp h
 rw[List.drop_eq_getElem_cons l,e]
def Qbb(lo:Int)(n:Nat):List D:=(List.range n).map fun(i:Nat)=>D.int (lo+i)
theorem QCM{lo:Int}{n i:Nat}(h:i<n):(Qbb lo n)[i]?=some (D.int (lo+i)):=by
 unfold Qbb
 rw[List.getElem?_map,List.getElem?_range h];rfl
theorem QoG{lo:Int}{n:Nat}:(Qbb lo n).length=n:=by simp[Qbb]
def Qh9(i:Int):Bool:=decide (-(2 ^ 62)<=i)&&decide (i<2 ^ 62)
def itR1(A:SD->Out D):SD->Out (List D):=fun ς=>A ς>>=fun d=>match d with
 | .int n=>if Qh9 n=true then .ok (Qbb 0 n.toNat) else .stuck
 | _=>.stuck
theorem QCp{i:Int}(h:Qh9 i=true) : -(2 ^ 62)<=i/\i<2 ^ 62:=by
 unfold Qh9 at h
 rw[Bool.and_eq_true]at h
 exact⟨of_decide_eq_true h.1,of_decide_eq_true h.2⟩
def QG(c:SD->Out Bool)(b:SD->Out Fl):Nat->SD->Out Fl
 | 0,_=>.stuck
 | n+1,ς=>c ς>>=fun t=>if t=true then b ς>>=fun f=>match f with
  | .nx ς'=>QG c b n ς'
  | .ct ς'=>QG c b n ς'
  | .bk ς'=>.ok (.nx ς')
  | .rt b d=>.ok (.rt b d)
  else .ok (.nx ς)
def Qwh(m:SD->Nat)(c:SD->Out Bool)(b:SD->Out Fl):SD->Out Fl:=fun ς=>QG c b (m ς) ς
theorem QHt(m:SD->Nat){c:Expr}{TC:SD->Out Bool}(hp:PassesOwn (model C.X.prog C.X.w) C.X.A C.X.env C.X.xe)(hc:DT C c TC)(hb:DSs C body T):DS C (.While c body [] pos) (Qwh m TC T):=by
 obtain⟨t0,p0,q0⟩:=hc
 obtain⟨t1,p1,q1⟩:=hb
 refine⟨_,QHR hp p0 p1,fun G H σ ς W S k=>?_⟩
 refine⟨fun n σ' H'=>∃ G' ς',StR C G' H' σ' ς'/\(QG TC T n ς').post (FlK C G' W) C.XD,⟨m ς,G,ς,S,k⟩,?_⟩
 rintro n σ' H' ⟨G',ς',S',k'⟩
 cases n with
 | zero=>exact k'.elim
 | succ n=>
  rw[QG,Out.post_bind]at k'
  refine q0 G' H' σ' ς' _ S' (Out.post_mono k' fun b k H1 G1 S1 a1 b1=>?_)
  cases b with
  | false=>exact iteF ((show FlK C G' W (.nx ς') from k) σ' H1 G1 S1 b1)
  | true=>
   rw[if_pos rfl,Out.post_bind]at k
   refine iteT ⟨fun σ2 H2=>∃ G2 ς2,StR C G2 H2 σ2 ς2/\(QG TC T n ς2).post (FlK C G2 W) C.XD,fun σ2 H2 h=>⟨n,Nat.lt_succ_self n,h⟩,?_⟩
   refine q1 G1 H1 σ' ς' _ S1 (Out.post_mono k fun f k=>?_)
   cases f with
   | nx ς2=>exact fun σ2 H2 G2 S2 s2=>⟨G2,ς2,S2,Out.post_mono (show(QG TC T n ς2).post _ _ from k) fun f k=>FlK.later k (b1.trans s2)⟩
   | ct ς2=>exact fun σ2 H2 G2 S2 s2=>⟨G2,ς2,S2,Out.post_mono (show(QG TC T n ς2).post _ _ from k) fun f k=>FlK.later k (b1.trans s2)⟩
   | bk ς2=>exact fun σ2 H2 G2 S2 s2=>(show FlK C G' W (.nx ς2) from k) σ2 H2 G2 S2 (b1.trans s2)
   | rt b d=>exact FlK.later (show FlK C G' W (.rt b d) from k) b1
noncomputable def fuelC(c:SD->Out Bool)(b:SD->Out Fl)(ς:SD):Nat:=by
 classical exact if h:∃ n,QG c b n ς≠.stuck then Classical.choose h else 0
noncomputable def QaN(c:SD->Out Bool)(b:SD->Out Fl):SD->Out Fl:=Qwh (fuelC c b) c b
theorem QGG{c:Expr}{TC:SD->Out Bool}(hp:PassesOwn (model C.X.prog C.X.w) C.X.A C.X.env C.X.xe)(hc:DT C c TC)(hb:DSs C body T):DS C (.While c body [] pos) (QaN TC T):=QHt (fuelC TC T) hp hc hb
theorem Qhk{c:SD->Out Bool}{b:SD->Out Fl}:∀(n:Nat)(ς:SD),QG c b n ς≠.stuck->QG c b (n+1) ς=QG c b n ς
 | 0,ς,h=>absurd rfl h
 | n+1,ς,h=>by
  rw[QG,QG]
  rw[QG]at h
  cases hc:c ς with
  | stuck=>rfl
  | exc _=>rfl
  | ok t=>
   rw[hc]at h
   cases t with
   | false=>rfl
   | true=>
    have h':(b ς>>=fun f=>match f with
     | .nx ς'=>QG c b n ς'
     | .ct ς'=>QG c b n ς'
     | .bk ς'=>.ok (.nx ς')
     | .rt b d=>.ok (.rt b d))≠.stuck:=h
    show(b ς>>=fun f=>match f with
     | .nx ς'=>QG c b (n+1) ς'
     | .ct ς'=>QG c b (n+1) ς'
     | .bk ς'=>.ok (.nx ς')
     | .rt b d=>.ok (.rt b d))=(b ς>>=fun f=>match f with
     | .nx ς'=>QG c b n ς'
     | .ct ς'=>QG c b n ς'
     | .bk ς'=>.ok (.nx ς')
     | .rt b d=>.ok (.rt b d))
    cases hb:b ς with
    | stuck=>rfl
    | exc _=>rfl
    | ok f=>
     rw[hb]at h'
     cases f with
     | nx ς'=>exact Qhk n ς' h'
     | ct ς'=>exact Qhk n ς' h'
     | bk _=>rfl
     | rt _ _=>rfl
theorem Qjz{c:SD->Out Bool}{b:SD->Out Fl}{ς:SD}{n:Nat}(h:QG c b n ς≠.stuck):∀ k,QG c b (n+k) ς=QG c b n ς
 | 0=>rfl
 | k+1=>by
  have ih:=Qjz h k
  rw[← Nat.add_assoc,Qhk (n+k) ς (by rw[ih];exact h),ih]
theorem QbS{c:SD->Out Bool}{b:SD->Out Fl}{ς:SD}(n:Nat)(h:QG c b n ς≠.stuck):QaN c b ς=QG c b n ς:=by
 have hx:∃ n,QG c b n ς≠.stuck:=⟨n,h⟩
 have e:fuelC c b ς=Classical.choose hx:=by unfold fuelC;rw[dif_pos hx]
 unfold QaN Qwh
 rw[e]
 have h2:=Classical.choose_spec hx
 generalize Classical.choose hx=m at h2 ⊢
 rcases Nat.le_total n m with hl | hl
 ·obtain⟨k,rfl⟩:=Nat.exists_eq_add_of_le hl
  exact Qjz h k
 ·obtain⟨k,rfl⟩:=Nat.exists_eq_add_of_le hl
  exact(Qjz h2 k).symm
theorem QdX{c:SD->Out Bool}{b:SD->Out Fl}{ς:SD}(h:∀ n,QG c b n ς=.stuck):QaN c b ς=.stuck:=h _
theorem Qid(c:SD->Out Bool)(b:SD->Out Fl)(ς:SD):QaN c b ς=(c ς>>=fun t=>if t=true then b ς>>=fun f=>match f with
 | .nx ς'=>QaN c b ς'
 | .ct ς'=>QaN c b ς'
 | .bk ς'=>.ok (.nx ς')
 | .rt b d=>.ok (.rt b d)
 else .ok (.nx ς)):=by
 have key:∀ n,QG c b (n+1) ς≠.stuck->QaN c b ς=QG c b (n+1) ς:=fun n h=>QbS _ h
 cases hc:c ς with
 | stuck=>exact QdX fun n=>by cases n with | zero=>rfl | succ n=>rw[QG,hc];rfl
 | exc x=>exact(QbS 1 (by rw[QG,hc];exact fun z=>nomatch z)).trans (by rw[QG,hc];rfl)
 | ok t=>
  cases t with
  | false=>exact(QbS 1 (by rw[QG,hc];exact fun z=>nomatch z)).trans (by rw[QG,hc];rfl)
  | true=>
   cases hb:b ς with
   | stuck=>exact(QdX fun n=>by cases n with | zero=>rfl | succ n=>rw[QG,hc];show(b ς>>=_)=_;rw[hb];rfl).trans (by show _=Out.stuck;rfl)
   | exc x=>exact(QbS 1 (by rw[QG,hc];show(b ς>>=_)≠_;rw[hb];exact fun z=>nomatch z)).trans (by rw[QG,hc];show(b ς>>=_)=_;rw[hb];rfl)
   | ok f=>
    have go:∀ ς',(f=.nx ς'∨f=.ct ς')->(∀ n,QG c b (n+1) ς=QG c b n ς')->QaN c b ς=QaN c b ς':=fun ς' _ e=>by
     by_cases hx:∃ n,QG c b n ς'≠.stuck
     ·obtain⟨n,hn⟩:=hx
      rw[QbS n hn,QbS (n+1) (by rw[e];exact hn),e]
     ·have hs:∀ n,QG c b n ς'=.stuck:=fun n=>Classical.byContradiction fun z=>hx ⟨n,z⟩
      rw[QdX hs]
      exact QdX fun n=>by cases n with | zero=>rfl | succ n=>rw[e];exact hs n
    cases f with
    | nx ς'=>exact go ς' (.inl rfl) fun n=>by rw[QG,hc];show(b ς>>=_)=_;rw[hb];rfl
    | ct ς'=>exact go ς' (.inr rfl) fun n=>by rw[QG,hc];show(b ς>>=_)=_;rw[hb];rfl
    | bk ς'=>exact(QbS 1 (by rw[QG,hc];show(b ς>>=_)≠_;rw[hb];exact fun z=>nomatch z)).trans (by rw[QG,hc];show(b ς>>=_)=_;rw[hb];rfl)
    | rt r d=>exact(QbS 1 (by rw[QG,hc];show(b ς>>=_)≠_;rw[hb];exact fun z=>nomatch z)).trans (by rw[QG,hc];show(b ς>>=_)=_;rw[hb];rfl)
end
end DL
namespace DL
open PySem PySem.Spec PyProof.Rows L2
def RetG(K:W.Frag)(CT:CTab)(fr:Bool)(H0 G' H':Hp)(d:D)(v:V):Prop:=
 if (fr && !d.scal)=true then ∃ p,v=.ref p/\H0 p=none/\G' p=none/\Own K CT G' H' p d else Rep K CT G' d v
def retF(fr:Bool):Fl->Out D
 | .rt b d=>if (!fr||b||d.scal)=true then .ok d else .stuck
 | .nx _=>.ok .non
 | _=>.stuck
def bodyF(fr:Bool)(n len:Nat)(T:SD->Out Fl):List D->Out D:=fun ds=>
 if ds.length=n then T (ds.map (fun d=>some (.k,d))++List.replicate (len - n) none)>>=retF fr else .stuck
def SpD(K:W.Frag)(CT:CTab)(fr:Bool)(m:List D->Out D):Sp:=fun vs H Q _=>∃ ds G0,Same G0 H/\RepL K CT G0 ds vs/\
 (m ds).post (fun d=>∀ v H' G',Same G0 G'->Same H H'->Same G' H'->(∀ b,G0 b=none->G' b≠none->H b=none)->RetG K CT fr H G' H' d v->Q v H') (fun _=>False)
structure FunV(K:W.Frag)(x qual:Str)(st:Stmt)(f:Addr)(fd:FuncData)(dV:Value):Prop where
 ex:∃(oc:Value)(od:Option Addr)(kV doc pm:Value)(an:Option Addr)(cdv ct:Value)(osl:Array (Option Value)),
  fd=W.fnOf x qual (Qp st) (Qo st) (Qb st) dV kV doc pm an cdv ct/\K.lookup f=some ⟨oc,od,.func fd,osl⟩/\W.codeIn K cdv qual=true
 kp:W.keepIn K (.ref f)=true
theorem Qu{K:W.Frag}{x qual:Str}{st:Stmt}{f:Addr}{oc:Value}{od an:Option Addr}{osl:Array (Option Value)}{dV kV doc pm cdv ct:Value}(l:K.lookup f=some ⟨oc,od,.func (W.fnOf x qual (Qp st) (Qo st) (Qb st) dV kV doc pm an cdv ct),osl⟩)
 (c:W.codeIn K cdv qual=true) (k:W.keepIn K (.ref f)=true):FunV K x qual st f (W.fnOf x qual (Qp st) (Qo st) (Qb st) dV kV doc pm an cdv ct) dV:=⟨⟨oc,od,kV,doc,pm,an,cdv,ct,osl,rfl,l,c⟩,k⟩
theorem FunV.binds{K:W.Frag}{x qual:Str}{st:Stmt}{f:Addr}{fd:FuncData}{ps:List Str}(F:FunV K x qual st f fd .none)
 (h:∀(kV doc pm:Value)(an:Option Addr)(cdv ct:Value)(us:List Value),us.length=ps.length->bindArgs (W.fnOf x qual (Qp st) (Qo st) (Qb st) .none kV doc pm an cdv ct) ⟨us,[]⟩=pure (ps.zip us)):Binds K fd ps []:=by
 obtain⟨oc,od,kV,doc,pm,an,cdv,ct,osl,rfl,lk,hcd⟩:=F.ex
 exact .all (h kV doc pm an cdv ct)
abbrev dcOf(P:Program)(w:World)(K:W.Frag)(mg:Str->Option Value)(base:Heap)(CT:CTab)(N:List Str)(qual:Str)(sc:Scope)(f:Addr)(cdv:Value)(A:Around)(outer:List Env)(s:Shared)(H:Hp)(E:XK)(G:Hp):Dc:=
 { X:=(cxOf CX0 P w K mg base N qual sc f cdv A outer s H E).nox,CT:=CT,G0:=G,XD:=fun _=>False,B:=H,M:=fun _=>False }
theorem Qju{N:List Str}{vs:List V}{i:Nat}{v:V}(h:vs[i]?=some v):(L2.start N vs)[i]?=some (some v):=by
 unfold L2.start
 have hi:i<vs.length:=(List.getElem?_eq_some_iff.mp h).1
 rw[List.getElem?_append_left (by simpa using hi),List.getElem?_map,h];rfl
theorem Qdl{ds:List D}{k:Nat}{i:Nat}{x:SM×D}(h:(ds.map (fun d=>some (SM.k,d))++List.replicate k (none:Option (SM×D)))[i]?=some (some x)):∃ d,ds[i]?=some d/\x=(.k,d):=by
 by_cases hi:i<ds.length
 ·rw[List.getElem?_append_left (by simpa using hi),List.getElem?_map]at h
  cases e:ds[i]? with
  | none=>rw[e]at h;cases h
  | some d=>rw[e]at h;cases h;exact⟨d,rfl,rfl⟩
 ·rw[List.getElem?_append_right (by simpa using hi),List.getElem?_replicate]at h
  split at h<;>cases h
theorem GH.freezeR{C:Dc}{G' H':Hp}(S:GH C G' H'){p:Addr}{o:HO}(hp:H' p=some o)(hg:G' p=none)(h0:C.X.H₀ p=none):GH C (upd G' p o) H' where
 sub:=fun b u q=>by
  by_cases hb:b=p
  ·subst hb;rw[QO]at q;cases q;exact hp
  ·rw[Qm hb]at q;exact S.sub b u q
 g0:=S.g0.trans (QC hg)
 new:=fun b h1 h2=>by
  by_cases hb:b=p
  ·subst hb;exact h0
  ·rw[Qm hb]at h2;exact S.new b h1 h2
 fr:=S.fr
 dom:=S.dom
 bs:=S.bs
 bh:=S.bh
theorem fnV{P:Program}{w:World}{K:W.Frag}{mg:Str->Option Value}{base:Heap}{CT:CTab}{fr:Bool}{x qual:Str}{st:Stmt}{f:Addr}{fd:FuncData}{dV:Value}{N ps:List Str}{k:Nat}{T:SD->Out Fl}
 (F:FunV K x qual st f fd dV) (S:Qq N ps (Qb st))
 (hb:∀(cdv:Value)(A:Around)(outer:List Env)(s:Shared)(H:Hp)(E:XK)(G:Hp),Room k (A.deeper (envOfC qual (Qb st) s.heap.objs.size f cdv))->DSs (dcOf P w K mg base CT N qual (Qb st) f cdv A outer s H E G) (Qo st) T):
 FnOk P w K mg base CX0 (k+1) f fd ps (SpD K CT fr (bodyF fr ps.length N.length T)):=by
 obtain⟨oc,od,kV,doc,pm,an,cdv,ct,osl,rfl,lk,hcd⟩:=F.ex
 have hpl:ps.length<=N.length:=by have:=congrArg List.length S.pre;rw[List.length_take]at this;omega
 have len:∀ vs H Q E,SpD K CT fr (bodyF fr ps.length N.length T) vs H Q E->vs.length=ps.length:=by
  intro vs H Q E ⟨ds,G0,sub,r,q⟩
  unfold bodyF at q
  by_cases hl:ds.length=ps.length
  ·rw[← r.length];exact hl
  ·rw[if_neg hl]at q;exact q.elim
 refine fn_of lk hcd S len fun A outer s H vs Q E hr hsp=>?_
 have hlen:=len vs H Q E hsp
 obtain⟨ds,G0,sub,r,q⟩:=hsp
 obtain⟨t,p1,q1⟩:=hb cdv A outer s H E G0 hr
 have hl:ds.length=ps.length:=by rw[r.length];exact hlen
 refine⟨t,p1.nox,?_⟩
 unfold bodyF at q
 rw[if_pos hl,Out.post_bind]at q
 have S0:StR (dcOf P w K mg base CT N qual (Qb st) f cdv A outer s H E G0) G0 H (L2.start N vs) (ds.map (fun d=>some (.k,d))++List.replicate (N.length - ps.length) none):={
  sub:=sub
  g0:=Same.refl _
  new:=fun b h1 h2=>absurd h1 h2
  fr:=fun b o e _=>e
  dom:=fun b e=>e
  bs:=Same.refl _
  bh:=fun b e=>e
  len:=by unfold L2.start;simp;omega
  fz:=fun i d e=>by
   obtain⟨d',e1,e2⟩:=Qdl e
   cases e2
   obtain⟨v,e3,rv⟩:=r.get e1
   exact⟨v,Qju e3,rv⟩
  ow:=fun i d e=>by
   obtain⟨d',e1,e2⟩:=Qdl e
   cases e2
  ln:=fun i d e=>by
   obtain⟨d',e1,e2⟩:=Qdl e
   cases e2
  inj:=fun i j d e p _ h=>by
   obtain⟨d',e1,e2⟩:=Qdl h
   cases e2
  sf:=fun i d e=>by
   obtain⟨d',e1,e2⟩:=Qdl e
   cases e2
  su:=fun i j d e p _ h=>by
   obtain⟨d',e1,e2⟩:=Qdl h
   cases e2 }
 refine q1 G0 H (L2.start N vs) _ _ S0 (Out.post_mono q fun fl kk=>?_)
 cases fl with
 | nx ς'=>exact fun σ' H' G' S' s'=>kk .non H' G' s' (fun b o e=>S'.fr b o e id) S'.sub S'.new (by unfold RetG;rw[if_neg (by cases fr<;>decide)];rfl)
 | bk ς'=>exact fun σ' H' G' S' s'=>kk.elim
 | ct ς'=>exact fun σ' H' G' S' s'=>kk.elim
 | rt b d=>
  intro v H' G' S' s' ret
  have kk':(if (!fr||b||d.scal)=true then Out.ok d else Out.stuck).post (fun d=>∀ v H' G',Same G0 G'->Same H H'->Same G' H'->(∀ b,G0 b=none->G' b≠none->H b=none)->RetG K CT fr H G' H' d v->Q v H') (fun _=>False):=kk
  rcases QS kk' with⟨hc,k2⟩ | ⟨_,k2⟩
  ·have k3:∀ v H' G',Same G0 G'->Same H H'->Same G' H'->(∀ b,G0 b=none->G' b≠none->H b=none)->RetG K CT fr H G' H' d v->Q v H':=k2
   cases b with
   | false=>
    refine k3 v H' G' s' (fun b o e=>S'.fr b o e id) S'.sub S'.new ?_
    unfold RetG
    have hn:¬ (fr && !d.scal)=true:=by revert hc;cases fr<;>cases d.scal<;>simp
    rw[if_neg hn]
    exact ret
   | true=>
    obtain⟨p,rfl,h0,hg,ow⟩:=(show ∃ p,v=.ref p/\H p=none/\G' p=none/\Own K CT G' H' p d from ret)
    cases fr with
    | true=>
     refine k3 _ H' G' s' (fun b o e=>S'.fr b o e id) S'.sub S'.new ?_
     have hs:d.scal=false:=by cases d<;>first | rfl | exact ow.elim
     unfold RetG
     rw[if_pos (by rw[hs];rfl)]
     exact⟨p,rfl,h0,hg,ow⟩
    | false=>
     obtain⟨o,ho⟩:=ow.there
     have S2:=GH.freezeR S' ho hg h0
     refine k3 _ H' _ (s'.trans (QC hg)) (fun b o e=>S2.fr b o e id) S2.sub S2.new ?_
     unfold RetG
     rw[if_neg (by simp)]
     exact ow.known hg ho
  ·exact k2.elim
theorem FnOk.as{P:Program}{w:World}{K:W.Frag}{mg:Str->Option Value}{base:Heap}{CT:CTab}{fr:Bool}{k:Nat}{f:Addr}{fd:FuncData}{ps:List Str}{m m':List D->Out D}
 (F:FnOk P w K mg base CX0 k f fd ps (SpD K CT fr m)) (h:∀ ds,m' ds=.stuck∨m' ds=m ds):FnOk P w K mg base CX0 k f fd ps (SpD K CT fr m'):=by
 refine F.imp fun vs H Q E ⟨ds,G0,sub,r,q⟩=>⟨ds,G0,sub,r,?_⟩
 rcases h ds with e | e
 ·rw[e]at q;exact q.elim
 ·rw[← e];exact q
def DefOk(P:Program)(w:World)(K:W.Frag)(mg:Str->Option Value)(base:Heap)(CT:CTab)(x:Str)(k:Nat)(fr:Bool)(dd:List D)(m:List D->Out D):Prop:=
 ∃ f fd ps ds,FnOk P w K mg base CX0 k f fd ps (SpD K CT fr m)/\mg x=some (.ref f)/\W.keepIn K (.ref f)=true/\Binds K fd ps ds/\Vals (dd.map toV) ds
theorem Qms{K:W.Frag}{CT:CTab}{H:Hp}:∀{dd:List D},dd.all D.scal=true->RepL K CT H dd (dd.map toV)
 | [],_=>rfl
 | d::ds,h=>by
  rw[List.all_cons,Bool.and_eq_true]at h
  exact⟨_,_,rfl,Qqu h.1,Qms h.2⟩
section
variable{C:Dc}{x:Str}{k:Nat}{fr:Bool}{dd:List D}{m:List D->Out D}{e:Expr}{es:List Expr}{A:SD->Out (List D)}{p pos:Pos}
theorem de_f(h:DefOk C.X.prog C.X.w C.X.K C.X.mg C.X.base C.CT x k fr dd m)(hr:Room k C.X.A)(ha:DA C (e::es) A)(hg:Gl C.X x)(hs:dd.all D.scal=true:=by rfl)(hx:∀ x,¬ C.XD x:=by exact fun _ h=>h)
 (hdb:(x == ("__debug__":Str))=false:=by decide) (he:starEach (e::es) C.X.env=(false,eval e C.X.env)::starEach es C.X.env:=by rfl) (hpl:(backTo pos (starEach es C.X.env)).any (·.1)=false:=by rfl):
 DE C (.Call (.Name x p) (e::es) [] pos) (eA (fun xs=>m (xs++dd)) A):=by
 obtain⟨f,fd,ps,ds,F,hm,hk,hb,hd⟩:=h
 obtain⟨t,p1,q1⟩:=ha
 refine⟨_,QB0 F hr hg hm hk hb hd pass0 p1 hdb he hpl,fun G H σ ς Q S q=>?_⟩
 unfold eA at q
 rw[Out.post_bind]at q
 refine q1 G H σ ς _ S (Out.post_mono q fun xs kk vs H1 G1 S1 a1 b1 r1=>⟨xs++dd,G1,S1.sub,r1.append (Qms hs),?_⟩)
 cases z:m (xs++dd) with
 | stuck=>rw[z]at kk;exact kk.elim
 | exc y=>rw[z]at kk;exact absurd kk (hx y)
 | ok d=>
  rw[z]at kk
  intro v H' G' g1 h1 s1 n1 ret
  unfold RetG at ret
  by_cases hc:(fr && !d.scal)=true
  ·rw[if_pos hc]at ret
   obtain⟨pp,rfl,h0,hg',ow⟩:=ret
   obtain⟨o,ho⟩:=ow.there
   have S2:=(S1.grow h1 g1 s1 n1).freeze ho hg' (S1.h0none h0) (fun i d' z1 z2=>by
    obtain⟨o',ho'⟩:=S1.own_ne z1 z2
    rw[h0]at ho';cases ho')
   exact(show KD C G H σ ς Q d from kk) _ _ _ S2 (a1.trans h1) ((b1.trans g1).trans (QC hg')) (ow.known hg' ho)
  ·rw[if_neg hc]at ret
   exact(show KD C G H σ ς Q d from kk) v H' G' (S1.grow h1 g1 s1 n1) (a1.trans h1) (b1.trans g1) ret
theorem db_f(h:DefOk C.X.prog C.X.w C.X.K C.X.mg C.X.base C.CT x k fr dd m)(hr:Room k C.X.A)(ha:DAB C (e::es) A)(hg:Gl C.X x)(hs:dd.all D.scal=true:=by rfl)(hx:∀ x,¬ C.XD x:=by exact fun _ h=>h)
 (hdb:(x == ("__debug__":Str))=false:=by decide) (he:starEach (e::es) C.X.env=(false,eval e C.X.env)::starEach es C.X.env:=by rfl) (hpl:(backTo pos (starEach es C.X.env)).any (·.1)=false:=by rfl):
 DB C (.Call (.Name x p) (e::es) [] pos) (eA (fun xs=>m (xs++dd)) A):=by
 obtain⟨f,fd,ps,ds,F,hm,hk,hb,hd⟩:=h
 obtain⟨t,p1,q1⟩:=ha
 refine⟨_,QB0 F hr hg hm hk hb hd pass0 p1 hdb he hpl,fun G H σ ς Q S q=>?_⟩
 unfold eA at q
 rw[Out.post_bind]at q
 refine q1 G H σ ς _ S (Out.post_mono q fun xs kk vs H1 G1 S1 a1 b1 r1=>⟨xs++dd,H1,Same.refl _,r1.append (Qms hs),?_⟩)
 cases z:m (xs++dd) with
 | stuck=>rw[z]at kk;exact kk.elim
 | exc y=>rw[z]at kk;exact absurd kk (hx y)
 | ok d=>
  rw[z]at kk
  intro v H' G' g1 h1 s1 n1 ret
  have S2:StR C G1 H' σ ς:=S1.grow h1 (Same.refl _) (S1.sub.trans h1) fun b g n=>absurd g n
  refine(show KB C G H σ ς Q d from kk) v H' G1 S2 (a1.trans h1) b1 ?_
  unfold RetG at ret
  by_cases hc:(fr && !d.scal)=true
  ·rw[if_pos hc]at ret
   obtain⟨pp,rfl,h0,hg',ow⟩:=ret
   exact ow.rep s1
  ·rw[if_neg hc]at ret
   exact Rep.mono s1 d v ret
end
abbrev bitsI(i:Int):Nat:=Builtin.Int.intBits i
theorem QoF:∀{xs:List W.WData}{x:W.WData},x∈xs->x.weight<=W.WData.weightAll xs
 | y::r,x,hx=>by
  rcases List.mem_cons.mp hx with rfl | hx'
  ·simp only[W.WData.weightAll];omega
  ·have:=QoF hx'
   simp only[W.WData.weightAll];omega
theorem Qzt{ns:List Int}(h:W.WData.layableAll [W.WData.list (ns.map W.WData.int)]=true):∀ z∈ns,bitsI z<=1048576:=fun z hz=>by
 have h1:(W.WData.list (ns.map W.WData.int)).layable=true:=by simpa [W.WData.layableAll] using h
 have h2:(W.WData.list (ns.map W.WData.int)).weight<=2 ^ 20:=of_decide_eq_true (Bool.and_eq_true_iff.mp h1).2
 have h3:(W.WData.int z).weight<=W.WData.weightAll (ns.map W.WData.int):=QoF (List.mem_map.mpr ⟨z,hz,rfl⟩)
 have h4:(W.WData.int z).weight<=1048576:=by
  have e:(2:Nat) ^ 20=1048576:=by decide
  simp only[W.WData.weight]at h2
  omega
 simpa only[W.WData.weight,Builtin.Int.intBits] using h4
theorem walk_of{l:W.OpenLaw}{n k:Nat}{q:Program}{loose:List Str}{XP:(Str->Option Value)->Heap->Prop}{YP:World->Heap->Prop}{d:DefRec}{K:Params->W.Frag}{CX:World->CXT}{sp:World->Sp}{x:Str}
 (hn:l.most=some n) (hn2:n<=sizeLine) (hdf:d.params.defaults=[]) (hr:Room k callerA)
 (hY:∀(w:World)(h:Heap),YP w h->(K w.params).In h)
 (F:∀(w:World)(mg:Str->Option Value)(fa:Addr)(h:Heap),(K w.params).In h->h.Ns mainGlobals mg->mg d.name=some (.ref fa)->
  ∃ fd:FuncData,(∀(s:Shared)(u:Value),BindsTo s fd ⟨[u],[]⟩ [(x,u)])/\
   ∀ base:Heap,(K w.params).In base->base.Ns mainGlobals mg->FnOk l.prog w (K w.params) mg base (CX w) k fa fd [x] (sp w))
 (hsp:∀(w:World)(H:Hp)(a:Addr)(ns:List Int),ns.length<=n->(∀ z∈ns,bitsI z<=1048576)->Only H->SqL (K w.params) H a (ns.map V.int)->sp w [.ref a] H (fun v _=>v=.bl true) fun _ _ _=>False)
 (hCX:∀(w:World)(H:Hp)(s:Shared)(e:Value)(s':Shared),CX w [] H s (fun _ _ _=>False) e s'->False):
 W.WalkO q loose XP YP l.row.toRowW d [] (fun f vs=>PySem.call f vs):=by
 intro w s₀ s₁ mg mb G Y fa o pm cd doc dV kV ho hd hcd hD hmg hg args vals as hpre hlay hrd hwl hlo
 obtain rfl:dV=.none:=W.Dflts.none hD hdf
 obtain rfl:kV=.none:=W.Dflts.noKw hD
 obtain⟨a,vs,ns,rfl,rfl,hobj,hints,hlen⟩:=Att.script_of hn hpre hwl
 have KX:=hY w _ Y
 obtain⟨fd,hb,hF⟩:=F w mg fa _ KX G.T.g hmg
 refine W.enter_call (codeAny_mono (QHQ KX G.T.g G.T.b G.T.builtins G.T.nolimit hg hobj hints (Nat.le_trans hlen hn2) hr hF hb (fun H hO hS=>hsp w H a ns hlen (Qzt hlay) hO hS) fun H e s'=>hCX w H s₁ e s') fun r s' hq=>?_)
 obtain⟨rfl,h2,h3,h4⟩:=hq
 exact⟨.inl ⟨.bool true,.bool true,[],rfl,fun _=>rfl,.bool true,Att.post_true l _,fun _=>⟨List.Pairwise.nil,fun _ hm=>(nomatch hm)⟩⟩,h2,h3,h4⟩
end DL
namespace DL
open PySem PySem.Spec PyProof.Rows L2
def rCatS(K:W.Frag):R2:=fun x y H Q=>∃ l b xs zs,x=.ref l/\y=.ref b/\SqL K H l xs/\SqL K H b zs/\xs.length+zs.length<=sizeLine/\∀ p,H p=none->Q (.ref p) (upd H p (.lst (xs++zs)))
theorem QBR{X:Cx}:OpR X (binaryOp .Add) (rCatS X.K):=by
 intro pins s σ H x y v u Q I rx ry h
 obtain⟨l,b,xs,zs,rfl,rfl,hH,hB,hz,q⟩:=h
 cases rx
 cases ry
 obtain⟨its,r,pl,hz1⟩:=I.list hH
 obtain⟨its2,r2,pl2,hz2⟩:=I.list hB
 obtain⟨⟨cls,dd,data,sl⟩,n,ho,hc,hdd,hd⟩:=pl
 obtain⟨⟨cls2,dd2,data2,sl2⟩,n2,ho2,hc2,hdd2,hd2⟩:=pl2
 simp only at hc hd hc2 hd2
 subst hc hd hc2 hd2
 have e:its.toArray++its2.toArray=(its++its2).toArray:=by simp
 have h1:=r.length
 have h2:=r2.length
 refine concat_meets ⟨_,ho,rfl⟩ ⟨_,ho2,rfl⟩ noFill_list_add seq_list_add PySem.F.slot_list_add PySem.F.entry_list_add (PySem.F.args_list_add_2 _ _) (list_addW l b its.toArray its2.toArray n n2 dd dd2 sl sl2 (by rw[List.size_toArray,List.size_toArray];omega)) ⟨ho,ho2,?_⟩
 rw[e]
 exact⟨.ref _,_,I.lnew (t':=s.toks) (r.append r2) (by rw[List.length_append];omega),rfl,q _ I.fresh⟩
def dCat:D->D->Out D
 | .lst xs,.lst ys=>if fits (xs.length+ys.length)=true then .ok (.lst (xs++ys)) else .stuck
 | _,_=>.stuck
def dRep:D->D->Out D
 | .lst xs,.int k=>if (decide (-(2 ^ 63)<=k)&&decide (k<2 ^ 63)&&fits (xs.length * k.toNat))=true then .ok (.lst (List.replicate k.toNat xs).flatten) else .stuck
 | _,_=>.stuck
section
variable{C:Dc}{a b:Expr}{A B:SD->Out D}{pos:Pos}
theorem Qfl(ha:DE C a A)(hb:DE C b B):DF C (.BinOp a .Add b pos) (e2 dCat A B):=by
 obtain⟨ta,p1,q1⟩:=ha
 obtain⟨tb,p2,q2⟩:=hb
 refine⟨_,pe_op QBR p1 p2,fun G H σ ς Q S q=>?_⟩
 unfold e2 at q
 rw[Out.post_bind]at q
 refine q1 G H σ ς _ S (Out.post_mono q fun x k v1 H1 G1 S1 a1 b1 r1=>?_)
 rw[Out.post_bind]at k
 refine q2 G1 H1 σ ς _ S1 (Out.post_mono k fun y k2 v2 H2 G2 S2 a2 b2 r2=>?_)
 have r1':=Rep.mono b2 x v1 r1
 cases x with
 | lst xs=>
  cases y with
  | lst ys=>
   obtain⟨p,vs,rfl,h2,h3⟩:=r1'
   obtain⟨p',vs',rfl,h2',h3'⟩:=r2
   rcases QS (show(if fits (xs.length+ys.length)=true then Out.ok (D.lst (xs++ys)) else .stuck).post _ _ from k2) with⟨hc,k3⟩ | ⟨_,k3⟩
   ·exact⟨p,p',vs,vs',rfl,rfl,S2.sub.seq h2,S2.sub.seq h2',by rw[← h3.length, ← h3'.length];exact of_decide_eq_true hc,
     KF.lst (KF.later (show KF C G H σ ς Q (.lst (xs++ys)) from k3) (a1.trans a2) (b1.trans b2)) S2 (h3.append h3')⟩
   ·exact k3.elim
  | _=>exact k2.elim
 | _=>cases y<;>exact k2.elim
theorem QFP(ha:DF C a A)(hb:DB C b B):DF C (.BinOp a .Mult b pos) (e2 dRep A B):=by
 obtain⟨ta,p1,q1⟩:=ha
 obtain⟨tb,p2,q2⟩:=hb
 refine⟨_,pe_op QKU p1 p2,fun G H σ ς Q S q=>?_⟩
 unfold e2 at q
 rw[Out.post_bind]at q
 refine q1 G H σ ς _ S (Out.post_mono q fun x k p H1 G1 S1 a1 b1 hp hg ow=>?_)
 rw[Out.post_bind]at k
 refine q2 G1 H1 σ ς _ S1 (Out.post_mono k fun y k2 v2 H2 G2 S2 a2 b2 r2=>?_)
 cases x with
 | lst xs=>
  cases y with
  | int i=>
   cases r2
   obtain⟨vs,h2,h3⟩:=ow
   rcases QS (show(if (decide (-(2 ^ 63)<=i)&&decide (i<2 ^ 63)&&fits (xs.length * i.toNat))=true then Out.ok (D.lst (List.replicate i.toNat xs).flatten) else .stuck).post _ _ from k2) with⟨hc,k3⟩ | ⟨_,k3⟩
   ·rw[Bool.and_eq_true,Bool.and_eq_true]at hc
    have h3':RepL C.X.K C.CT G2 xs vs:=RepL.mono b2 xs vs h3
    exact⟨p,i,vs,rfl,rfl,a2 _ _ h2,of_decide_eq_true hc.1.1,of_decide_eq_true hc.1.2,by rw[← h3'.length];exact of_decide_eq_true hc.2,
     KF.lst (KF.later (show KF C G H σ ς Q (.lst (List.replicate i.toNat xs).flatten) from k3) (a1.trans a2) (b1.trans b2)) S2 (h3'.rep i.toNat)⟩
   ·exact k3.elim
  | _=>exact k2.elim
 | _=>cases y<;>exact k2.elim
def dList:D->Out D
 | .lst xs=>.ok (.lst xs)
 | .tup xs=>.ok (.lst xs)
 | _=>.stuck
def flatD:D->Out D
 | .lst xs=>if xs.all D.scal=true then .ok (.lst xs) else .stuck
 | _=>.stuck
theorem RepL.flat{K:W.Frag}{CT:CTab}{G H:Hp}:∀{ds:List D}{vs:List V},ds.all D.scal=true->RepL K CT H ds vs->RepL K CT G ds vs
 | [],_,_,h=>h
 | d::ds,_,hs,⟨v,r,h1,h2,h3⟩=>by
  rw[List.all_cons,Bool.and_eq_true]at hs
  exact⟨v,r,h1,h2.scal hs.1,RepL.flat hs.2 h3⟩
theorem Qc2{p:Pos}(hg:Gl C.X "list")(hm:C.X.mg "list"=none)(ha:DE C a A)
 (he:starEach (a::[]) C.X.env=(false,eval a C.X.env)::starEach [] C.X.env:=by rfl):DF C (.Call (.Name "list" p) [a] [] pos) (e1 dList A):=by
 obtain⟨ta,p1,q1⟩:=ha
 refine⟨_,Qjs QkM hg hm PyProof.Rows.Boot.«list» (QaZ p1 QcO he) (by decide) (by decide) he rfl,fun G H σ ς Q S q=>?_⟩
 unfold e1 at q
 rw[Out.post_bind]at q
 refine q1 G H σ ς _ S (Out.post_mono q fun x k v1 H1 G1 S1 a1 b1 r1=>?_)
 cases x with
 | lst xs=>
  obtain⟨p,vs,rfl,h2,h3⟩:=r1
  exact⟨p,vs,rfl,.inl (S1.sub.seq h2),KF.lst (KF.later (show KF C G H σ ς Q (.lst xs) from k) a1 b1) S1 h3⟩
 | tup xs=>
  obtain⟨p,vs,rfl,h2,h3⟩:=r1
  exact⟨p,vs,rfl,.inr (Same.sqT S1.sub h2),KF.lst (KF.later (show KF C G H σ ς Q (.lst xs) from k) a1 b1) S1 h3⟩
 | _=>exact k.elim
def QxM:D->Out D:=fun d=>dList d>>=flatD
theorem QH4{p:Pos}(hg:Gl C.X "list")(hm:C.X.mg "list"=none)(ha:DB C a A)
 (he:starEach (a::[]) C.X.env=(false,eval a C.X.env)::starEach [] C.X.env:=by rfl):DF C (.Call (.Name "list" p) [a] [] pos) (e1 QxM A):=by
 obtain⟨ta,p1,q1⟩:=ha
 refine⟨_,Qjs QkM hg hm PyProof.Rows.Boot.«list» (QaZ p1 QcO he) (by decide) (by decide) he rfl,fun G H σ ς Q S q=>?_⟩
 unfold e1 at q
 rw[Out.post_bind]at q
 refine q1 G H σ ς _ S (Out.post_mono q fun x k v1 H1 G1 S1 a1 b1 r1=>?_)
 cases x with
 | lst xs=>
  obtain⟨p,vs,rfl,h2,h3⟩:=r1
  rcases QS (show(if xs.all D.scal=true then Out.ok (D.lst xs) else .stuck).post _ _ from k) with⟨hc,k3⟩ | ⟨_,k3⟩
  ·exact⟨p,vs,rfl,.inl h2,KF.lst (KF.later (show KF C G H σ ς Q (.lst xs) from k3) a1 b1) S1 (h3.flat hc)⟩
  ·exact k3.elim
 | tup xs=>
  obtain⟨p,vs,rfl,h2,h3⟩:=r1
  rcases QS (show(if xs.all D.scal=true then Out.ok (D.lst xs) else .stuck).post _ _ from k) with⟨hc,k3⟩ | ⟨_,k3⟩
  ·exact⟨p,vs,rfl,.inr h2,KF.lst (KF.later (show KF C G H σ ς Q (.lst xs) from k3) a1 b1) S1 (h3.flat hc)⟩
  ·exact k3.elim
 | _=>exact k.elim
end
section
variable{C:Dc}{e:Expr}{es:List Expr}{A:SD->Out (List D)}{p pos:Pos}
def dInt:D->Out D
 | .int i=>.ok (.int i)
 | .bl b=>.ok (.int (if b then 1 else 0))
 | _=>.stuck
theorem Qry(hg:Gl C.X "int")(hm:C.X.mg "int"=none)(ha:DAB C (e::es) A)
 (he:starEach (e::es) C.X.env=(false,eval e C.X.env)::starEach es C.X.env:=by rfl) (hpl:(backTo pos (starEach es C.X.env)).any (·.1)=false:=by rfl):DE C (.Call (.Name "int" p) (e::es) [] pos) (eA (f1 dInt) A):=by
 refine Qr6 QFq (QnG ?_) (QkW ?_) hg hm PyProof.Rows.Boot.«int» ha (by decide) (by decide) he hpl
 ·intro G H σ ς Q x v S r q
  cases x with
  | int i=>cases r;exact .inl ⟨i,rfl,q.2⟩
  | bl b=>cases r;exact .inr ⟨b,rfl,q.2⟩
  | _=>exact q.elim
 ·intro x
  cases x<;>first | exact rfl | exact True.intro
def dStr:D->Out D
 | .int i=>if decide (i.natAbs.log2<1920)=true then .ok (.str (toString i)) else .stuck
 | _=>.stuck
theorem Qed(hg:Gl C.X "str")(hm:C.X.mg "str"=none)(ha:DAB C (e::es) A)
 (he:starEach (e::es) C.X.env=(false,eval e C.X.env)::starEach es C.X.env:=by rfl) (hpl:(backTo pos (starEach es C.X.env)).any (·.1)=false:=by rfl):DE C (.Call (.Name "str" p) (e::es) [] pos) (eA (f1 dStr) A):=by
 refine Qr6 Qwk (QnG ?_) (QkW ?_) hg hm PyProof.Rows.Boot.«str» ha (by decide) (by decide) he hpl
 ·intro G H σ ς Q x v S r q
  cases x with
  | int i=>
   cases r
   rcases QS (show(if decide (i.natAbs.log2<1920)=true then Out.ok (D.str (toString i)) else .stuck).post _ _ from q) with⟨hc,q⟩ | ⟨_,q⟩
   ·exact⟨i,rfl,of_decide_eq_true hc,q.2⟩
   ·exact q.elim
  | _=>exact q.elim
 ·intro x
  cases x with
  | int i=>exact Qe4 rfl
  | _=>exact True.intro
end
def isaT(T:String):D->Out Bool
 | .ins _ _=>.stuck
 | .err _=>.stuck
 | .bl _=>.ok (T == "bool"||T == "int")
 | d=>.ok (Qbk d == T)
structure Kit(K:W.Frag)(T:String):Prop where
 h:∀ d:D,(match d with | .ins _ _=>True | .err _=>True | .bl _=>W.kitOne K (.type "bool") (.type T)=some (T == "bool"||T == "int") | d=>W.kitOne K (.type (Qbk d)) (.type T)=some (Qbk d == T))
section
variable{C:Dc}{e:Expr}{E:SD->Out D}{p pc pos:Pos}
theorem Qcm(T:Str){T':String}(k:Kit C.X.K T')(hgT:Gl C.X T)(hmT:C.X.mg T=none)(hb:bootBuiltins T=some (.type T'))(hg:Gl C.X "isinstance")(hm:C.X.mg "isinstance"=none)(h:DB C e E)
 (hn:T≠"__name__":=by decide) (hdb:(T == ("__debug__":Str))=false:=by decide)
 (he:starEach (e::[.Name T pc]) C.X.env=(false,eval e C.X.env)::starEach [.Name T pc] C.X.env:=by rfl) (he2:starEach (.Name T pc::[]) C.X.env=(false,eval (.Name T pc) C.X.env)::starEach [] C.X.env:=by rfl)
 (hpl:(backTo pos (starEach [.Name T pc] C.X.env)).any (·.1)=false:=by rfl):DE C (.Call (.Name "isinstance" p) [e,.Name T pc] [] pos) (eIsa (isaT T') E):=by
 refine QJ7 (vc:=.ty T') (uc:=.type T') (QI4 hgT hmT hb rfl hn hdb) rfl (fun d=>?_) hg hm h he he2 hpl
 have:=k.h d
 cases d<;>first | exact True.intro | exact this
end
theorem Qjq{K:W.Frag}{T:String}(h1:W.kitOne K (.type "NoneType") (.type T)=some ("NoneType" == T))(h2:W.kitOne K (.type "bool") (.type T)=some (T == "bool"||T == "int"))
 (h3:W.kitOne K (.type "int") (.type T)=some ("int" == T)) (h4:W.kitOne K (.type "str") (.type T)=some ("str" == T)) (h5:W.kitOne K (.type "list") (.type T)=some ("list" == T))
 (h6:W.kitOne K (.type "tuple") (.type T)=some ("tuple" == T)) (h7:W.kitOne K (.type "dict") (.type T)=some ("dict" == T)):Kit K T:=⟨fun d=>by
 cases d with
 | non=>exact h1
 | bl _=>exact h2
 | int _=>exact h3
 | str _=>exact h4
 | lst _=>exact h5
 | tup _=>exact h6
 | dic _=>exact h7
 | ins _ _=>exact True.intro
 | err _=>exact True.intro⟩
theorem QIb{K:W.Frag}:Kit K "int":=Qjq (by rfl) (by rfl) (by rfl) (by rfl) (by rfl) (by rfl) (by rfl)
theorem QG2{K:W.Frag}:Kit K "bool":=Qjq (by rfl) (by rfl) (by rfl) (by rfl) (by rfl) (by rfl) (by rfl)
theorem Qqw{K:W.Frag}:Kit K "str":=Qjq (by rfl) (by rfl) (by rfl) (by rfl) (by rfl) (by rfl) (by rfl)
theorem Qiw{K:W.Frag}:Kit K "list":=Qjq (by rfl) (by rfl) (by rfl) (by rfl) (by rfl) (by rfl) (by rfl)
theorem Qrz{K:W.Frag}:Kit K "tuple":=Qjq (by rfl) (by rfl) (by rfl) (by rfl) (by rfl) (by rfl) (by rfl)
def QaY(i:Nat)(E:SD->Out D):SD->Out Fl:=fun ς=>match ς[i]? with
 | some (some (.o,.lst xs))=>E ς>>=fun d=>if decide (xs.length<sizeLine)=true then .ok (.nx (ς.set i (some (.o,.lst (xs++[d]))))) else .stuck
 | _=>.stuck
section
variable{C:Dc}{G H:Hp}{σ:St}{ς:SD}
theorem QeT{α:Type}{xs:List α}{i:Nat}{x:α}(h:xs[i]?=some x):xs.set i x=xs:=by
 obtain⟨hi,e⟩:=List.getElem?_eq_some_iff.mp h
 rw[← e];exact List.set_getElem_self hi
theorem StR.write(S:StR C G H σ ς){i:Nat}{p:Addr}{xs ys:List D}{vs ws:List V}(hi:ς[i]?=some (some (.o,.lst xs)))(hp:σ[i]?=some (some (.ref p)))(hH:H p=some (.lst vs))(r:RepL C.X.K C.CT G ys ws):
 StR C G (upd H p (.lst ws)) σ (ς.set i (some (.o,.lst ys))):=by
 obtain⟨p',e1,hg,h0,ow⟩:=S.ow i _ hi
 rw[hp]at e1;cases e1
 have hil:i<ς.length:=(List.getElem?_eq_some_iff.mp hi).1
 have ne:∀ b o,G b=some o->b≠p:=fun b o e z=>by subst z;rw[hg]at e;cases e
 have S':StR C G (upd H p (.lst ws)) (σ.set i (some (.ref p))) (ς.set i (some (.o,.lst ys))):={
  sub:=fun b o e=>by rw[Qm (ne b o e)];exact S.sub b o e
  g0:=S.g0
  new:=S.new
  fr:=fun b o e m=>by
   rw[Qm (by rintro rfl;rw[h0]at e;cases e)];exact S.fr b o e m
  dom:=fun b e=>by
   by_cases hb:b=p
   ·subst hb;exact h0
   ·rw[Qm hb]at e;exact S.dom b e
  bs:=fun b o e=>by
   rw[Qm (by rintro rfl;rw[S.bh _ h0]at e;cases e)];exact S.bs b o e
  bh:=S.bh
  len:=by rw[List.length_set,List.length_set];exact S.len
  fz:=fun j d h=>by
   rcases QI h with⟨rfl,h2,l⟩ | ⟨hne,h2⟩
   ·cases h2
   ·rw[Qt hne];exact S.fz j d h2
  ow:=fun j d h=>by
   rcases QI h with⟨rfl,h2,l⟩ | ⟨hne,h2⟩
   ·cases h2
    exact⟨p,QeX (by rw[S.len];exact l),hg,h0,⟨ws,QO,r⟩⟩
   ·rw[Qt hne]
    obtain⟨q,a,b,c,w⟩:=S.ow j d h2
    have qp:q≠p:=by
     rintro rfl
     exact S.inj i j _ _ q hne hi h2 hp a
    exact⟨q,a,b,c,w.mono (Same.refl G) fun o z=>by rw[Qm qp];exact z⟩
  ln:=fun j d h=>by
   rcases QI h with⟨rfl,h2,l⟩ | ⟨hne,h2⟩
   ·cases h2
   ·rw[Qt hne];exact S.ln j d h2
  inj:=fun j k d1 d2 q hjk h1 h2 h3=>by
   have get:∀(j:Nat) d,(ς.set i (some (.o,D.lst ys)))[j]?=some (some (.o,d))->∃ d',ς[j]?=some (some (.o,d')):=fun j d h=>by
    rcases QI h with⟨rfl,h2,l⟩ | ⟨hne,h2⟩
    ·exact⟨_,hi⟩
    ·exact⟨_,h2⟩
   obtain⟨d1',g1⟩:=get j d1 h1
   obtain⟨d2',g2⟩:=get k d2 h2
   rw[QeT hp]at h3 ⊢
   exact S.inj j k d1' d2' q hjk g1 g2 h3
  sf:=fun j d h=>by
   rcases QI h with⟨rfl,h2,l⟩ | ⟨hne,h2⟩
   ·cases h2
   ·rw[Qt hne]
    obtain⟨q,a,b,c,m,z,w⟩:=S.sf j d h2
    have qp:q≠p:=by
     rintro rfl
     exact c h0
    exact⟨q,a,b,c,m,z,w.mono (Same.refl G) fun o z=>by rw[Qm qp];exact z⟩
  su:=fun j k d1 d2 q hjk h1 h2 h3=>by
   rcases QI h1 with⟨rfl,q1,l⟩ | ⟨n1,q1⟩
   ·cases q1
   ·rcases QI h2 with⟨rfl,q2,l⟩ | ⟨n2,q2⟩
    ·cases q2
    ·rw[Qt n1]at h3
     rw[Qt n2];exact S.su j k d1 d2 q hjk q1 q2 h3 }
 rw[QeT hp]at S'
 exact S'
variable{a e:Expr}{A E:SD->Out D}{pos p1 p2 p3:Pos}{x:Str}
theorem Qbp(i:Nat)(he:DE C e E)(hN:C.X.N[i]?=some x:=by rfl)(hv:Vis C.X.env.scope x:=by first | exact Or.inl rfl | exact Or.inr (oi rfl) | exact Or.inr (Or.inr rfl))
 (hd:(x == ("__debug__":Str))=false:=by decide) (hcd:(x == ("__classdict__":Str))=false:=by decide)
 (hbase:attributeBase (.Name x p1) "append" C.X.env (eval (.Name x p1) C.X.env)=eval (.Name x p1) C.X.env:=by rfl)
 (hfew:((backTo p3 (starEach (e::[]) C.X.env)).all (fun x => !x.1)&&(backToKw p3 (keywordEach [] C.X.env)).all (fun x=>x.1.isSome)
  && decide ((e::[]).length+([]:List Keyword).length+(if ([]:List Keyword).isEmpty then 0 else 1)<30))=true:=by rfl)
 (hline:(p2.endLine == p3.line)=true:=by rfl) (hs:starEach (e::[]) C.X.env=(false,eval e C.X.env)::starEach [] C.X.env:=by rfl)
 (hsw:swapsWith (.Call (.Attribute (.Name x p1) "append" p2) [e] [] p3) none pos.line C.X.env=pure false:=by rfl):
 DS C (.Expr (.Call (.Attribute (.Name x p1) "append" p2) [e] [] p3) pos) (QaY i E):=by
 obtain⟨t,p,q⟩:=he
 refine⟨_,QB5 (pe_bm PySem.F.plainAttrs_list PySem.F.slot_list_append PySem.F.type_list_append QrG (Qfn (i:=i) hN hv hd hcd) (QaZ p QcO hs) hbase hfew hline hs rfl) hsw,fun G H σ ς W S k=>?_⟩
 unfold QaY at k
 split at k
 ·rename_i xs z
  obtain⟨pp,e1,hg,h0,ow⟩:=S.ow i _ z
  obtain⟨vs,hv1,hv2⟩:=ow
  rw[Out.post_bind]at k
  refine⟨_,e1,.inl ⟨rfl,vs,SqL.of hv1⟩,q G H σ ς _ S (Out.post_mono k fun d k2 v H1 G1 S1 a1 b1 r1=>?_)⟩
  rcases QS k2 with⟨hc,k3⟩ | ⟨_,k3⟩
  ·have hl:=hv2.length
   refine⟨pp,vs,v,rfl,rfl,a1 _ _ hv1,by rw[← hl];exact of_decide_eq_true hc,?_⟩
   exact k3 σ _ G1 (S1.write z e1 (a1 _ _ hv1) ((RepL.mono b1 xs vs hv2).append (RepL.one r1))) b1
  ·exact k3.elim
 ·exact k.elim
end
end DL
namespace DL
open PySem PySem.Spec PyProof.Rows L2
structure DIt(K:W.Frag)(CT:CTab)(G1:Hp)(J:It)(ds:List D):Prop where
 go:∀ G H (i:Nat) d,Same G1 G->Same G H->ds[i]?=some d->J.go i H/\∀ x H',J.yld i H x H'->∃ G',Same G G'/\Same H H'/\Same G' H'/\(∀ b,G b=none->G' b≠none->H b=none)/\Rep K CT G' d x
 stop:∀ G H,Same G1 G->Same G H->J.stop ds.length H
structure DItB(K:W.Frag)(CT:CTab)(B1 G1:Hp)(J:It)(ds:List D):Prop where
 go:∀ G H (i:Nat) d,Same G1 G->Same G H->Same B1 H->ds[i]?=some d->J.go i H/\∀ x H',J.yld i H x H'->∃ G',Same G G'/\Same H H'/\Same G' H'/\(∀ b,G b=none->G' b≠none->H b=none)/\Rep K CT G' d x
 stop:∀ G H,Same G1 G->Same G H->Same B1 H->J.stop ds.length H
theorem DIt.b{K:W.Frag}{CT:CTab}{B1 G1:Hp}{J:It}{ds:List D}(h:DIt K CT G1 J ds):DItB K CT B1 G1 J ds:=⟨fun G H i d a b _ e=>h.go G H i d a b e,fun G H a b _=>h.stop G H a b⟩
def DIB(C:Dc)(tg iter:Expr)(its:SD->Out (List D)):Prop:=∃ wi,PI C.X tg iter wi/\∀ G H σ ς (R:It->Hp->Prop),StR C G H σ ς->
 (its ς).post (fun ds=>∀ J H1 G1,StR C G1 H1 σ ς->Same H H1->Same G G1->DItB C.X.K C.CT H1 G1 J ds->R J H1) C.XD->wi σ H R
def DI(C:Dc)(tg iter:Expr)(its:SD->Out (List D)):Prop:=∃ wi,PI C.X tg iter wi/\∀ G H σ ς (R:It->Hp->Prop),StR C G H σ ς->
 (its ς).post (fun ds=>∀ J H1 G1,StR C G1 H1 σ ς->Same H H1->Same G G1->DIt C.X.K C.CT G1 J ds->R J H1) C.XD->wi σ H R
section
variable{C:Dc}{e tg iter:Expr}{E:SD->Out D}{body:List Stmt}{T U:SD->Out Fl}{pos:Pos}{g:D->SD->Out SD}{its:SD->Out (List D)}
theorem DI.b(h:DI C tg iter its):DIB C tg iter its:=by
 obtain⟨wi,p,q⟩:=h
 exact⟨wi,p,fun G H σ ς R S k=>q G H σ ς R S (Out.post_mono k fun ds kd J H1 G1 S1 a b dit=>kd J H1 G1 S1 a b dit.b)⟩
theorem QHf{K:W.Frag}{CT:CTab}{G1:Hp}{a:Addr}{ds:List D}{vs:List V}(h:SqL K G1 a vs)(r:RepL K CT G1 ds vs):DIt K CT G1 (Itl K a) ds where
 go:=fun G H i d s1 sH hd=>by
  obtain⟨v,hv,rv⟩:=r.get hd
  have hq:SqL K H a vs:=sH.seq (s1.seq h)
  refine⟨⟨vs,v,hq,hv⟩,fun x H' ⟨e,y⟩=>?_⟩
  have ex:vs[i]?=some x:=y vs hq
  rw[hv]at ex;cases ex
  subst e
  exact⟨G,Same.refl _,Same.refl _,sH,fun b g n=>absurd g n,Rep.mono s1 d v rv⟩
 stop:=fun G H s1 sH=>⟨vs,sH.seq (s1.seq h),by rw[r.length];exact Nat.le_refl _⟩
theorem QES{K:W.Frag}{CT:CTab}{G1:Hp}{lo:Int}{n:Nat}:DIt K CT G1 (Itr lo n) (Qbb lo n) where
 go:=fun G H i d s1 sH hd=>by
  have hi:i<n:=by
   have:=(List.getElem?_eq_some_iff.mp hd).1
   rw[QoG]at this;exact this
  rw[QCM hi]at hd;cases hd
  exact⟨hi,fun x H' ⟨e,y⟩=>by
   subst e y
   exact⟨G,Same.refl _,Same.refl _,sH,fun b g n=>absurd g n,rfl⟩⟩
 stop:=fun G H s1 sH=>by rw[QoG];exact Nat.le_refl _
theorem QK(h:DE C iter E):DI C tg iter (itL E):=by
 obtain⟨t,p,q⟩:=h
 refine⟨_,QJp p,fun G H σ ς R S k=>?_⟩
 unfold itL at k
 rw[Out.post_bind]at k
 refine q G H σ ς _ S (Out.post_mono k fun d k v H1 G1 S1 a1 b1 r1=>?_)
 cases d with
 | lst xs=>
  obtain⟨a,vs,rfl,h2,h3⟩:=r1
  exact⟨a,rfl,⟨vs,S1.sub.seq h2⟩,k _ H1 G1 S1 a1 b1 (QHf h2 h3)⟩
 | _=>exact k.elim
theorem Qaa{a:Expr}{A:SD->Out D}{p1 p2:Pos}(hgl:Gl C.X "range")(hm:C.X.mg "range"=none)(ha:DB C a A)
 (hst:starEach [a] C.X.env=(false,eval a C.X.env)::starEach [] C.X.env:=by rfl):DI C tg (.Call (.Name "range" p1) [a] [] p2) (itR1 A):=by
 obtain⟨t,p,q⟩:=ha
 refine⟨_,QFF hgl hm (QaZ p QcO hst) hst,fun G H σ ς R S k=>?_⟩
 unfold itR1 at k
 rw[Out.post_bind]at k
 refine q G H σ ς _ S (Out.post_mono k fun d k v H1 G1 S1 a1 b1 r=>?_)
 cases d with
 | int n=>
  cases r
  rcases QS k with⟨hc,k⟩ | ⟨_,k⟩
  ·obtain⟨c1,c2⟩:=QCp hc
   exact⟨n,rfl,c1,c2,k _ H1 G1 S1 a1 b1 QES⟩
  ·exact k.elim
 | _=>exact k.elim
theorem QbP(hp:PassesOwn (model C.X.prog C.X.w) C.X.A C.X.env C.X.xe)(hc:C.X.calm=true)(hi:DI C tg iter its)(hg:DG C tg g)(hne:noExc g)(hb:DSs C body T)
 (hs:∀ x,foldedSetIterable iter C.X.env x=pure x:=by intro _;rfl):DS C (.For tg iter body [] pos) (sFor g its T):=by
 obtain⟨t0,p0,q0⟩:=hi
 obtain⟨t1,p1,q1⟩:=hg
 obtain⟨t2,p2,q2⟩:=hb
 refine⟨_,QKG hp hc p0 p1 p2 hs,fun G H σ ς W S k=>?_⟩
 unfold sFor at k
 rw[Out.post_bind]at k
 refine q0 G H σ ς _ S (Out.post_mono k fun xs k J H1 G1 S1 a1 b1 dit=>?_)
 refine⟨fun i m σ' H'=>m=xs.length - i/\i<=xs.length/\∃ G' ς',StR C G' H' σ' ς'/\Same G1 G'/\(loopD (fun x ς=>g x ς>>=fun ς'=>T ς') (xs.drop i) ς').post (FlK C G' W) C.XD,
  ⟨xs.length,by simp,Nat.zero_le _,G1,ς,S1,Same.refl _,Out.post_mono (by simpa using k) fun f k=>FlK.later k b1⟩,?_⟩
 rintro i m σ' H' ⟨rfl,hle,G',ς',S',s',q'⟩
 by_cases hlt:i<xs.length
 ·have hd:xs[i]?=some xs[i]:=by simp[hlt]
  obtain⟨hgo,hy⟩:=dit.go G' H' i _ s' S'.sub hd
  refine .inr ⟨hgo,fun σ2 H2=>∃ G2 ς2,StR C G2 H2 σ2 ς2/\Same G1 G2/\(loopD (fun x ς=>g x ς>>=fun ς'=>T ς') (xs.drop (i+1)) ς2).post (FlK C G2 W) C.XD,
   fun σ2 H2 h2=>⟨xs.length - (i+1),by omega,rfl,hlt,h2⟩,fun x H'' y=>?_⟩
  obtain⟨G'',g1,h1,s1,n1,r⟩:=hy x H'' y
  rw[Qr2 hd]at q'
  exact turnD hne q1 q2 (S'.grow h1 g1 s1 n1) r (Out.post_mono q' fun f k=>FlK.later k g1) fun σ2 H2 G2 ς2 S2 s2 q2=>⟨G2,ς2,S2,(s'.trans g1).trans s2,q2⟩
 ·have e:i=xs.length:=by omega
  subst e
  rw[List.drop_length]at q'
  exact .inl ⟨dit.stop G' H' s' S'.sub,q' σ' H' G' S' (Same.refl _)⟩
end
def compM(f:D->Out (Option D)):List D->Out (List D)
 | []=>.ok []
 | x::xs=>f x>>=fun o=>compM f xs>>=fun ys=>.ok (o.toList++ys)
def captS(ς:SD)(j:Nat):Option (SM×D):=match ς[j]? with
 | some (some (.k,d))=>some (.k,d)
 | some (some (_,d))=>some (.l,d)
 | _=>none
def captD(js:List (Option Nat))(ς:SD):SD:=js.map fun j=>j.bind (captS ς)
def turnC(js:List (Option Nat))(g:D->SD->Out SD)(c:SD->Out Bool)(e:SD->Out D)(ς:SD)(x:D):Out (Option D):=
 g x (captD js ς)>>=fun τ=>c τ>>=fun b=>if b=true then e τ>>=fun y=>.ok (some y) else .ok none
def eComp(js:List (Option Nat))(its:SD->Out (List D))(g:D->SD->Out SD)(c:SD->Out Bool)(e:SD->Out D):SD->Out D:=fun ς=>
 its ς>>=fun xs=>compM (turnC js g c e ς) xs>>=fun ys=>if fits ys.length=true then .ok (.lst ys) else .stuck
def DIf(C:Dc)(ifs:List Expr)(T:SD->Out Bool):Prop:=∃ t,PIf C.X ifs t/\∀ G H σ ς Q,StR C G H σ ς->(T ς).post (KT C G H σ ς Q) C.XD->t σ H Q
def cTrue:SD->Out Bool:=fun _=>.ok true
theorem QA{C:Dc}:DIf C [] cTrue:=⟨_,QIf,fun G H σ ς Q S q=>KT.now q S⟩
def gKeep(g:D->SD->Out SD)(τ0:SD):Prop:=∀ x τ,g x τ0=.ok τ->τ.length=τ0.length/\∀(i:Nat) md,τ0[i]?=some (some md)->τ[i]?=some (some md)
theorem Qx{i:Nat}{τ0:SD}(h:τ0[i]?=some none):gKeep (gN i) τ0:=by
 intro x τ e
 cases e
 refine⟨List.length_set ..,fun j md hj=>?_⟩
 rw[Qt (by rintro rfl;rw[h]at hj;cases hj)];exact hj
theorem QA3:∀(is:List Nat)(ds:List D)(τ0 τ:SD),(∀ i∈is,∀ md,τ0[i]?=some (some md)->False)->Qaf is ds τ0=.ok τ->τ.length=τ0.length/\∀(i:Nat) md,τ0[i]?=some (some md)->τ[i]?=some (some md)
 | [],[],τ0,τ,_,e=>by cases e;exact⟨rfl,fun _ _ h=>h⟩
 | i::is,d::ds,τ0,τ,h,e=>by
  have e':Qaf is ds (τ0.set i (some (.k,d)))=.ok τ:=e
  -- the later targets may meet the stored one again: only what was there ahead is kept
  have go:∀(is:List Nat)(ds:List D)(τ1 τ:SD),τ1.length=τ0.length->(∀ i∈is,∀ md,τ0[i]?=some (some md)->False)->(∀(i:Nat) md,τ0[i]?=some (some md)->τ1[i]?=some (some md))->Qaf is ds τ1=.ok τ->
   τ.length=τ0.length/\∀(i:Nat) md,τ0[i]?=some (some md)->τ[i]?=some (some md):=by
   intro is
   induction is with
   | nil=>intro ds τ1 τ hl _ hk e;cases ds with
    | nil=>cases e;exact⟨hl,hk⟩
    | cons _ _=>cases e
   | cons i is ih=>intro ds τ1 τ hl hn hk e;cases ds with
    | nil=>cases e
    | cons d ds=>
     refine ih ds _ τ (by rw[List.length_set];exact hl) (fun j hj=>hn j (List.mem_cons_of_mem _ hj)) (fun j md hj=>?_) e
     rw[Qt (by rintro rfl;exact hn _ List.mem_cons_self md hj)];exact hk j md hj
  refine go is ds _ τ (List.length_set ..) (fun j hj=>h j (List.mem_cons_of_mem _ hj)) (fun j md hj=>?_) e'
  rw[Qt (by rintro rfl;exact h _ List.mem_cons_self md hj)];exact hj
 | [],_::_,_,_,_,e=>by cases e
 | _::_,[],_,_,_,e=>by cases e
theorem QmJ{is:List Nat}{τ0:SD}(h:∀ i∈is,τ0[i]?=some none):gKeep (gT is) τ0:=by
 intro x τ e
 cases x with
 | tup ds=>exact QA3 is ds τ0 τ (fun i hi md z=>by rw[h i hi]at z;cases z) e
 | _=>cases e
theorem Qn{js:List (Option Nat)}{i:Nat}(h:js[i]?=some none)(ς:SD):(captD js ς)[i]?=some none:=by
 unfold captD
 rw[List.getElem?_map,h];rfl
section
variable{C:Dc}{G H:Hp}{σ:St}{ς:SD}
theorem StR.weak{ς':SD}(S:StR C G H σ ς')(hl:ς'.length=ς.length)(h:∀(i:Nat) md,ς[i]?=some (some md)->ς'[i]?=some (some md)):StR C G H σ ς:=
 { S with len:=by rw[S.len,hl],fz:=fun i d e=>S.fz i d (h i _ e),ow:=fun i d e=>S.ow i d (h i _ e),ln:=fun i d e=>S.ln i d (h i _ e),inj:=fun i j d e p n h1 h2=>S.inj i j d e p n (h i _ h1) (h j _ h2),sf:=fun i d e=>S.sf i d (h i _ e),su:=fun i j d e p n h1 h2=>S.su i j d e p n (h i _ h1) (h j _ h2) }
theorem StR.updM(S:StR C G H σ ς){p:Addr}{o:HO}(hM:C.M p)(h0:C.X.H₀ p≠none)(hno:∀(i:Nat) d,ς[i]?≠some (some (.s,d)))(hB:C.B p=none)(hg:G p=none):StR C G (upd H p o) σ ς where
 sub:=fun b u e=>by rw[Qm (by rintro rfl;rw[hg]at e;cases e)];exact S.sub b u e
 g0:=S.g0
 new:=S.new
 fr:=fun b u e m=>by rw[Qm (by rintro rfl;exact m hM)];exact S.fr b u e m
 dom:=fun b e=>by
  by_cases hb:b=p
  ·subst hb;rw[QO]at e;cases e
  ·rw[Qm hb]at e;exact S.dom b e
 bs:=fun b u e=>by rw[Qm (by rintro rfl;rw[hB]at e;cases e)];exact S.bs b u e
 bh:=S.bh
 len:=S.len
 fz:=S.fz
 ow:=fun i d e=>by
  obtain⟨q,a,b,c,w⟩:=S.ow i d e
  exact⟨q,a,b,c,w.mono (Same.refl G) fun u z=>by rw[Qm (by rintro rfl;exact h0 c)];exact z⟩
 ln:=S.ln
 inj:=S.inj
 sf:=fun i d e=>absurd e (hno i d)
 su:=S.su
abbrev ccOf(C:Dc)(N':List Str)(scope:Scope)(fp:List Addr)(s:Shared)(H1 G1:Hp)(p:Addr):Dc:=
 { X:=cxC C.X N' scope fp s (upd H1 p (.lst [])),CT:=C.CT,G0:=G1,XD:=fun _=>False,B:=H1,M:=fun b=>b=p }
theorem Qfq{js:List (Option Nat)}{i:Nat}{md:SM×D}(h:(captD js ς)[i]?=some (some md)):∃ j,js[i]?=some (some j)/\captS ς j=some md:=by
 unfold captD at h
 rw[List.getElem?_map]at h
 cases e:js[i]? with
 | none=>rw[e]at h;cases h
 | some o=>
  rw[e]at h
  cases o with
  | none=>cases h
  | some j=>exact⟨j,rfl,Option.some.inj h⟩
theorem Qiy{js:List (Option Nat)}{i j:Nat}{v:V}(h:js[i]?=some (some j))(hv:σ[j]?=some (some v)):(capt js σ)[i]?=some (some v):=by
 unfold capt
 rw[List.getElem?_map,h]
 show some ((σ[j]?).join)=_
 rw[hv];rfl
theorem QdU{j:Nat}{m:SM}{d:D}(h:captS ς j=some (m,d)):(m=.k/\ς[j]?=some (some (.k,d)))∨(m=.l/\(ς[j]?=some (some (.o,d))∨ς[j]?=some (some (.l,d))∨ς[j]?=some (some (.s,d)))):=by
 unfold captS at h
 split at h
 ·rename_i d' e;cases h;exact .inl ⟨rfl,e⟩
 ·rename_i m' d' hne e
  cases h
  cases m' with
  | k=>exact(hne rfl).elim
  | o=>exact .inr ⟨rfl,.inl e⟩
  | l=>exact .inr ⟨rfl,.inr (.inl e)⟩
  | s=>exact .inr ⟨rfl,.inr (.inr e)⟩
 ·cases h
theorem QmF{js:List (Option Nat)}{i:Nat}{d:D}(h:(captD js ς)[i]?=some (some (.s,d))):False:=by
 obtain⟨j,h1,h2⟩:=Qfq h
 rcases QdU h2 with⟨h3,_⟩ | ⟨h3,_⟩<;>cases h3
theorem StR.comp{N':List Str}{scope:Scope}{fp:List Addr}{s:Shared}{js:List (Option Nat)}{p:Addr}(S:StR C G H σ ς)(hp:H p=none):StR (ccOf C N' scope fp s H G p) G (upd H p (.lst [])) (capt js σ) (captD js ς) where
 sub:=S.sub.trans (QC hp)
 g0:=Same.refl _
 new:=fun b h1 h2=>absurd h1 h2
 fr:=fun b o e _=>e
 dom:=fun b e=>e
 bs:=QC hp
 bh:=fun b e=>by
  have e':upd H p (.lst []) b=none:=e
  by_cases hb:b=p
  ·subst hb;exact hp
  ·rw[Qm hb]at e';exact e'
 len:=by unfold capt captD;rw[List.length_map,List.length_map]
 fz:=fun i d e=>by
  obtain⟨j,h1,h2⟩:=Qfq e
  rcases QdU h2 with⟨_,h3⟩ | ⟨h3,_⟩
  ·obtain⟨v,a,b⟩:=S.fz j d h3
   exact⟨v,Qiy h1 a,b⟩
  ·cases h3
 ow:=fun i d e=>by
  obtain⟨j,h1,h2⟩:=Qfq e
  rcases QdU h2 with⟨h3,_⟩ | ⟨h3,_⟩<;>cases h3
 ln:=fun i d e=>by
  obtain⟨j,h1,h2⟩:=Qfq e
  rcases QdU h2 with⟨h3,_⟩ | ⟨_,h3 | h3 | h3⟩
  ·cases h3
  ·obtain⟨q,a,_,_,w⟩:=S.ow j d h3
   exact⟨_,Qiy h1 a,w.rep S.sub⟩
  ·obtain⟨v,a,b⟩:=S.ln j d h3
   exact⟨v,Qiy h1 a,Rep.mono S.bs d v b⟩
  ·obtain⟨q,a,_,_,_,_,w⟩:=S.sf j d h3
   exact⟨_,Qiy h1 a,w.rep S.sub⟩
 inj:=fun i j d e q _ h=>by
  obtain⟨j,h1,h2⟩:=Qfq h
  rcases QdU h2 with⟨h3,_⟩ | ⟨h3,_⟩<;>cases h3
 sf:=fun i d e=>(QmF e).elim
 su:=fun i j d e p _ h=>(QmF h).elim
variable{N':List Str}{js:List (Option Nat)}{scope:Scope}{tg iter elt:Expr}{ifs:List Expr}{its:SD->Out (List D)}{g:D->SD->Out SD}{c:SD->Out Bool}{e:SD->Out D}{pos:Pos}
theorem QHM{J:It}{xs:List D}{p:Addr}{fp:List Addr}{s:Shared}{Q:VK}(S:StR C G H σ ς)(hp:H p=none)(dit:DItB C.X.K C.CT H G J xs)(hx:∀ x,¬ C.XD x)(hk:gKeep g (captD js ς))(hne:noExc g)
 (hin:DG (ccOf C N' scope fp s H G p) tg g/\DIf (ccOf C N' scope fp s H G p) ifs c/\DE (ccOf C N' scope fp s H G p) elt e)
 (q:(compM (turnC js g c e ς) xs>>=fun ys=>if fits ys.length=true then Out.ok (D.lst ys) else .stuck).post (fun d=>∀ H' G',StR C G' H' σ ς->Same H H'->Same G G'->G' p=none->Own C.X.K C.CT G' H' p d->Q (.ref p) H') C.XD):
 CompW (cxC C.X N' scope fp s (upd H p (.lst []))) js tg elt ifs σ H J p Q:=by
 obtain⟨⟨tt,pg,hg⟩,⟨tcc,pif,hcI⟩,⟨te,pe,he⟩⟩:=hin
 generalize hτ:captD js ς=τ0 at hk
 have S0:StR (ccOf C N' scope fp s H G p) G (upd H p (.lst [])) (capt js σ) τ0:=by rw[← hτ];exact S.comp hp
 refine⟨fun i m τ H'=>m=xs.length - i/\i<=xs.length/\∃ G' acc vs,StR (ccOf C N' scope fp s H G p) G' H' τ τ0/\H' p=some (.lst vs)/\RepL C.X.K C.CT G' acc vs/\G' p=none/\
  (compM (turnC js g c e ς) (xs.drop i)).post (fun ys=>(if fits (acc++ys).length=true then Out.ok (D.lst (acc++ys)) else .stuck).post (fun d=>∀ H' G',StR C G' H' σ ς->Same H H'->Same G G'->G' p=none->Own C.X.K C.CT G' H' p d->Q (.ref p) H') C.XD) C.XD,
  ⟨xs.length,by simp,Nat.zero_le _,G,[],[],S0,QO,rfl,S.sub.free hp,by rw[Out.post_bind]at q;simpa using q⟩,?_⟩
 rintro i m τ H' ⟨rfl,hle,G',acc,vs,S',hp',r',hg',q'⟩
 have hH0:(ccOf C N' scope fp s H G p).X.H₀ p≠none:=by
  show upd H p (.lst []) p≠none
  rw[QO];simp
 by_cases hlt:i<xs.length
 ·have hd:xs[i]?=some xs[i]:=by simp[hlt]
  obtain⟨hgo,hy⟩:=dit.go G' H' i _ S'.g0 S'.sub S'.bs hd
  refine .inr ⟨hgo,fun τ2 H2=>i+1<=xs.length/\∃ G' acc vs,StR (ccOf C N' scope fp s H G p) G' H2 τ2 τ0/\H2 p=some (.lst vs)/\RepL C.X.K C.CT G' acc vs/\G' p=none/\
   (compM (turnC js g c e ς) (xs.drop (i+1))).post (fun ys=>(if fits (acc++ys).length=true then Out.ok (D.lst (acc++ys)) else .stuck).post (fun d=>∀ H' G',StR C G' H' σ ς->Same H H'->Same G G'->G' p=none->Own C.X.K C.CT G' H' p d->Q (.ref p) H') C.XD) C.XD,
   fun τ2 H2 h2=>⟨xs.length - (i+1),by omega,rfl,h2⟩,fun x H'' y=>?_⟩
  obtain⟨G'',g1,h1,s1,n1,r⟩:=hy x H'' y
  have S'':=S'.grow h1 g1 s1 n1
  have hgp:G'' p=none:=by
   cases z:G'' p with
   | none=>rfl
   | some o=>
    have:=n1 p hg' (by rw[z];simp)
    rw[hp']at this;cases this
  rw[Qr2 hd,compM,Out.post_bind]at q'
  have tu:turnC js g c e ς xs[i]=(g xs[i] τ0>>=fun τ=>c τ>>=fun b=>if b=true then e τ>>=fun y=>Out.ok (some y) else Out.ok none):=by unfold turnC;rw[hτ]
  rw[tu,Out.post_bind]at q'
  cases z:g xs[i] τ0 with
  | exc w=>exact absurd z (hne _ _ _)
  | stuck=>rw[z]at q';exact q'.elim
  | ok τ1=>
   rw[z]at q'
   obtain⟨hl1,hk1⟩:=hk _ _ z
   refine⟨tt,pg,hg G'' H'' τ τ0 xs[i] x τ1 _ S'' r z fun τ2 S2=>?_⟩
   have q2:(c τ1>>=fun b=>if b=true then e τ1>>=fun y=>Out.ok (some y) else Out.ok none).post _ _:=q'
   rw[Out.post_bind]at q2
   -- no refusal leaves the block
   have q3:(c τ1).post (fun b=>(if b=true then e τ1>>=fun y=>Out.ok (some y) else Out.ok none).post (fun o=>(compM (turnC js g c e ς) (xs.drop (i+1))>>=fun ys=>Out.ok (o.toList++ys)).post (fun ys=>(if fits (acc++ys).length=true then Out.ok (D.lst (acc++ys)) else .stuck).post (fun d=>∀ H' G',StR C G' H' σ ς->Same H H'->Same G G'->G' p=none->Own C.X.K C.CT G' H' p d->Q (.ref p) H') C.XD) C.XD) C.XD) (fun _=>False):=by
    cases w:c τ1 with
    | ok b=>rw[w]at q2;exact q2
    | exc w'=>rw[w]at q2;exact absurd q2 (hx _)
    | stuck=>rw[w]at q2;exact q2.elim
   refine⟨tcc,pif,hcI G'' H'' τ2 τ1 _ S2 (Out.post_mono q3 fun b kb H3 G3 S3 a3 b3=>?_)⟩
   have hp3:H3 p=some (.lst vs):=a3 _ _ (h1 _ _ hp')
   have hg3:G3 p=none:=by
    cases z3:G3 p with
    | none=>rfl
    | some o=>
     have e3:(ccOf C N' scope fp s H G p).G0 p=none:=S.sub.free hp
     exact absurd (S3.new p e3 (by rw[z3];simp)) hH0
   cases b with
   | false=>
    refine iteF ⟨hlt,G3,acc,vs,S3.weak (by rw[hl1]) hk1,hp3,RepL.mono (g1.trans b3) acc vs r',hg3,?_⟩
    have kb':(compM (turnC js g c e ς) (xs.drop (i+1))>>=fun ys=>Out.ok ((none:Option D).toList++ys)).post (fun ys=>(if fits (acc++ys).length=true then Out.ok (D.lst (acc++ys)) else .stuck).post (fun d=>∀ H' G',StR C G' H' σ ς->Same H H'->Same G G'->G' p=none->Own C.X.K C.CT G' H' p d->Q (.ref p) H') C.XD) C.XD:=kb
    rw[Out.post_bind]at kb'
    exact Out.post_mono kb' fun ys k=>k
   | true=>
    have kb:(e τ1>>=fun y=>Out.ok (some y)).post (fun o=>(compM (turnC js g c e ς) (xs.drop (i+1))>>=fun ys=>Out.ok (o.toList++ys)).post (fun ys=>(if fits (acc++ys).length=true then Out.ok (D.lst (acc++ys)) else .stuck).post (fun d=>∀ H' G',StR C G' H' σ ς->Same H H'->Same G G'->G' p=none->Own C.X.K C.CT G' H' p d->Q (.ref p) H') C.XD) C.XD) C.XD:=kb
    rw[Out.post_bind]at kb
    have kb2:(e τ1).post (fun y=>(compM (turnC js g c e ς) (xs.drop (i+1))>>=fun ys=>Out.ok ((some y:Option D).toList++ys)).post (fun ys=>(if fits (acc++ys).length=true then Out.ok (D.lst (acc++ys)) else .stuck).post (fun d=>∀ H' G',StR C G' H' σ ς->Same H H'->Same G G'->G' p=none->Own C.X.K C.CT G' H' p d->Q (.ref p) H') C.XD) C.XD) (fun _=>False):=by
     cases w:e τ1 with
     | ok b=>rw[w]at kb;exact kb
     | exc w'=>rw[w]at kb;exact absurd kb (hx _)
     | stuck=>rw[w]at kb;exact kb.elim
    refine iteT ⟨te,pe,he G3 H3 τ2 τ1 _ S3 (Out.post_mono kb2 fun y ky v4 H4 G4 S4 a4 b4 r4=>?_)⟩
    rw[Out.post_bind]at ky
    have hp4:H4 p=some (.lst vs):=a4 _ _ hp3
    have hg4:G4 p=none:=by
     cases z3:G4 p with
     | none=>rfl
     | some o=>
      have e3:(ccOf C N' scope fp s H G p).G0 p=none:=S.sub.free hp
      exact absurd (S4.new p e3 (by rw[z3];simp)) hH0
    have rr:=RepL.mono ((g1.trans b3).trans b4) acc vs r'
    refine⟨vs,hp4,?_,hlt,G4,acc++[y],vs++[v4],?_,QO,rr.append (RepL.one r4),hg4,?_⟩
    ·cases w:compM (turnC js g c e ς) (xs.drop (i+1)) with
     | stuck=>rw[w]at ky;exact ky.elim
     | exc w'=>rw[w]at ky;exact absurd ky (hx _)
     | ok ys=>
      rw[w]at ky
      rcases QS (show(if fits (acc++((some y:Option D).toList++ys)).length=true then Out.ok (D.lst (acc++((some y:Option D).toList++ys))) else .stuck).post _ _ from ky) with⟨hc,_⟩ | ⟨_,k⟩
      ·have hc':=of_decide_eq_true hc
       rw[List.length_append,List.length_append]at hc'
       have:(some y:Option D).toList.length=1:=rfl
       have hl:=r'.length
       omega
      ·exact k.elim
    ·exact(S4.weak (by rw[hl1]) hk1).updM rfl hH0 (fun i d z=>by rw[← hτ]at z;exact QmF z) hp hg4
    ·exact Out.post_mono ky fun ys k=>by
      have e5:acc++[y]++ys=acc++((some y:Option D).toList++ys):=by simp
      rw[e5];exact k
 ·have ei:i=xs.length:=by omega
  subst ei
  rw[List.drop_length]at q'
  refine .inl ⟨dit.stop G' H' S'.g0 S'.sub S'.bs,?_⟩
  have q2:(if fits (acc++[]).length=true then Out.ok (D.lst (acc++[])) else .stuck).post _ C.XD:=q'
  rcases QS q2 with⟨_,k⟩ | ⟨_,k⟩
  ·rw[List.append_nil]at k
   have hHH:Same H H':=fun b o eb=>S'.fr b o (by
    show upd H p (.lst []) b=some o
    rw[Qm (QT eb hp)];exact eb) (QT eb hp)
   have SG:StR C G' H' σ ς:=S.grow hHH S'.g0 S'.sub fun b h1 h2=>by
    have:=S'.new b h1 h2
    have this:upd H p (.lst []) b=none:=this
    by_cases hb:b=p
    ·subst hb;exact hp
    ·rw[Qm hb]at this;exact this
   exact k H' G' SG hHH S'.g0 hg' ⟨vs,hp',r'⟩
  ·exact k.elim
theorem compT(hi:∃ wi,PI C.X tg iter wi/\∀ G H σ ς (R:It->Hp->Prop),StR C G H σ ς->(its ς).post (fun ds=>∀ J H1 G1,StR C G1 H1 σ ς->Same H H1->Same G G1->DItB C.X.K C.CT H1 G1 J ds->R J H1) C.XD->wi σ H R)
 (hx:∀ x,¬ C.XD x) (hk:∀ ς,gKeep g (captD js ς)) (hne:noExc g)
 (hin:∀ fp s H G p,DG (ccOf C N' scope fp s H G p) tg g/\DIf (ccOf C N' scope fp s H G p) ifs c/\DE (ccOf C N' scope fp s H G p) elt e):
 ∃ wi,PI C.X tg iter wi/\∀ G H σ ς Q,StR C G H σ ς->(eComp js its g c e ς).post (KF C G H σ ς Q) C.XD->tComp C.X N' js scope tg elt ifs wi σ H Q:=by
 obtain⟨wi,pi,hq⟩:=hi
 refine⟨wi,pi,fun G H σ ς Q S k=>?_⟩
 unfold eComp at k
 rw[Out.post_bind]at k
 refine hq G H σ ς _ S (Out.post_mono k fun xs k J H1 G1 S1 a1 b1 dit p hp fp s=>?_)
 refine QHM S1 hp dit hx (hk ς) hne (hin fp s H1 G1 p) (Out.post_mono k fun d kd H' G' S' h1 g1 hg ow=>?_)
 exact kd p H' G' S' (a1.trans h1) (b1.trans g1) (a1.free hp) hg ow
theorem QR(hc:C.X.calm=true)(S:Qy N' js scope C.X.env.scope C.X.N)(hi:DIB C tg iter its)(hk:∀ ς,gKeep g (captD js ς))(hne:noExc g)
 (hin:∀ fp s H G p,DG (ccOf C N' scope fp s H G p) tg g/\DIf (ccOf C N' scope fp s H G p) ifs c/\DE (ccOf C N' scope fp s H G p) elt e)
 (hx:∀ x,¬ C.XD x:=by exact fun _ h=>h) (hs:∀ x,foldedSetIterable iter C.X.env x=pure x:=by intro _;rfl):DF C (.ListComp elt [⟨tg,iter,ifs,0⟩] scope pos) (eComp js its g c e):=by
 obtain⟨wi,pi,h⟩:=compT hi hx hk hne hin
 exact⟨_,QIA hc S pi hs,h⟩
variable{i:Nat}{x:Str}{px spos:Pos}
theorem Qcq(hc:C.X.calm=true)(S:Qy N' js scope C.X.env.scope C.X.N)(hi:DIB C tg iter its)(hk:∀ ς,gKeep g (captD js ς))(hne:noExc g)
 (hin:∀ fp s H G p,DG (ccOf C N' scope fp s H G p) tg g/\DIf (ccOf C N' scope fp s H G p) ifs c/\DE (ccOf C N' scope fp s H G p) elt e)
 (hN:C.X.N.Nodup) (hxN:C.X.N[i]?=some x) (hl:Loc C.X.env.scope x)
 (hsw:swapsWith (.ListComp elt [⟨tg,iter,ifs,0⟩] scope pos) (some (.Name x px)) spos.line C.X.env=pure true:=by rfl)
 (hf:C.X.fn x=true∨C.X.env.scope.names.lookup x=some .local:=by first | exact .inl rfl | exact .inr rfl | assumption)
 (hx:∀ x,¬ C.XD x:=by exact fun _ h=>h) (hs:∀ x,foldedSetIterable iter C.X.env x=pure x:=by intro _;rfl):DS C (.Assign [.Name x px] (.ListComp elt [⟨tg,iter,ifs,0⟩] scope pos) spos) (sSet i (eComp js its g c e)):=by
 obtain⟨wi,pi,h⟩:=compT hi hx hk hne hin
 refine⟨_,QBU hc S pi hN hxN hl hsw hf hs,fun G H σ ς W S k=>?_⟩
 unfold sSet at k
 rw[Out.post_bind]at k
 exact h G H σ ς _ S (Out.post_mono k fun d k=>KD.ofF (Q:=fun v H1=>W.nx (σ.set i (some v)) H1) S fun v H1 G1 S1 a1 b1 r1=>k _ H1 G1 (S1.set i r1) b1)
theorem QHq(hc:C.X.calm=true)(S:Qy N' js scope C.X.env.scope C.X.N)(hi:DIB C tg iter its)(hk:∀ ς,gKeep g (captD js ς))(hne:noExc g)
 (hin:∀ fp s H G p,DG (ccOf C N' scope fp s H G p) tg g/\DIf (ccOf C N' scope fp s H G p) ifs c/\DE (ccOf C N' scope fp s H G p) elt e)
 (hN:C.X.N.Nodup) (hxN:C.X.N[i]?=some x) (hl:Loc C.X.env.scope x)
 (hsw:swapsWith (.ListComp elt [⟨tg,iter,ifs,0⟩] scope pos) (some (.Name x px)) spos.line C.X.env=pure true:=by rfl)
 (hf:C.X.fn x=true∨C.X.env.scope.names.lookup x=some .local:=by first | exact .inl rfl | exact .inr rfl | assumption)
 (hx:∀ x,¬ C.XD x:=by exact fun _ h=>h) (hs:∀ x,foldedSetIterable iter C.X.env x=pure x:=by intro _;rfl):DS C (.Assign [.Name x px] (.ListComp elt [⟨tg,iter,ifs,0⟩] scope pos) spos) (sSetO i (eComp js its g c e)):=by
 obtain⟨wi,pi,h⟩:=compT hi hx hk hne hin
 refine⟨_,QBU hc S pi hN hxN hl hsw hf hs,fun G H σ ς W S k=>?_⟩
 unfold sSetO at k
 rw[Out.post_bind]at k
 exact h G H σ ς _ S (Out.post_mono k fun d k p H1 G1 S1 a1 b1 hp hg ow=>k _ H1 G1 (S1.setO i hg (S.h0none hp) ow fun j e _ z=>S.new_ne hp j e z) b1)
end
end DL
namespace L2
open PySem PySem.Spec PyProof.Rows
def Its(x:Str):It:=⟨fun i _=>i<x.cps.size,fun i H v H'=>H'=H/\∃ c,x.cps[i]?=some c/\v=.str ⟨#[c]⟩,fun i _=>x.cps.size<=i⟩
section
variable{X:Cx}{tg:Expr}
theorem QrC{P:Program}{w:World}{K:W.Frag}{tg:Expr}{x:Str}{ty:String}{t:Tok}(it:Addr)(hn:["enumerate","zip","dict_itemiterator","dict_reverseitemiterator","odict_iterator","itertools.zip_longest","itertools.pairwise"].contains ty=false)
 (hs:∀(A:Around)(i:Nat)(s:Shared)(Q:Value->Shared->Prop)(E:Value->Shared->Prop),s.heap.IsStrIter it ty x t i->Q (.ref it) s->wpAny (model P w) A (pyIter (.ref it)) Q E s)
 (W:∀ A':Around,A'.handled=none->Walks P w A' it [it] [it] x.cps.size (SignAt x) (fun i h=>h.IsStrIter it ty x t i)):Turn P w K tg (Its x) [it] it (fun i h=>h.IsStrIter it ty x t i/\i<=x.cps.size) where
 mem:=by simp
 obj:=fun i h st b hb=>by
  have e:b=it:=by simpa using hb
  subst e
  obtain⟨⟨o,e,c,d⟩,_⟩:=st
  exact⟨o,e,fun v z=>by rw[d]at z;cases z⟩
 keep:=fun i h h' st k=>⟨by obtain⟨⟨o,e,c,d⟩,_⟩:=st;exact⟨o,k it (by simp) o e,c,d⟩,st.2⟩
 item:=by
  intro X hP hw hK hc i pins s σ H E I hf st hg
  subst hP hw hK
  obtain⟨f0,f1,f2,f3,f4,f5⟩:=hf it (by simp)
  refine(W X.A (I.ok.hd hc)).item i s _ _ hg st.1 fun v h' tk hv st' kk=>?_
  obtain⟨c,u,hcx,rfl⟩:=hv
  have I1:Inv X pins σ H { s with heap:=h',toks:=tk }:=I.turned (fun b o hb e=>kk b o (by simpa using hb) e) f0 f1 f3 f4 f5
  obtain⟨o,e,c',d⟩:=id st'
  exact⟨_,rfl,go_of (s:={ s with heap:=h',toks:=tk }) e c' d hn ⟨.str ⟨#[c]⟩,H,I1,⟨u,rfl⟩,⟨rfl,c,hcx,rfl⟩,⟨st',hg⟩,fun b hb=>(hf b hb).1⟩⟩
 done:=by
  intro X hP hw hK hc i pins s σ H E I hf st hg
  subst hP hw hK
  obtain⟨f0,f1,f2,f3,f4,f5⟩:=hf it (by simp)
  have hg':x.cps.size<=i:=hg
  have e:i=x.cps.size:=Nat.le_antisymm st.2 hg'
  subst e
  exact(W X.A (I.ok.hd hc)).done s _ _ st.1 fun h' tk kk=>⟨rfl,I.turned (fun b o hb e=>kk b o (by simpa using hb) e) f0 f1 f3 f4 f5⟩
 self:=fun A i s Q E st h=>hs A i s Q E st.1 h
def iStr(tl:TE):TI:=fun σ H R=>tl σ H fun x H1=>∃ z,x=.str z/\R (Its z) H1
theorem QKe{l:Expr}{tl:TE}(hl:PE X l tl):PI X tg l (iStr tl):=by
 intro pins s σ H R I h
 refine thn (hl pins s σ H _ I h) fun v s1 ⟨x,H1,I1,r1,q1⟩=>?_
 obtain⟨z,e,q⟩:=q1
 subst e
 obtain⟨t,rfl⟩:=r1
 cases ha:z.cps.all (· < 128)
 ·refine wpAny_pyIter_wide ha ⟨s1.heap.objs.size,[s1.heap.objs.size],_,_,H1,rfl,I1.kept (t':=s1.toks) fun b o e=>Heap.get?_push_of_some _ e,QrC (x:=z) (ty:="str_iterator") (t:=t) _ (by decide) (fun _ _ _ _ _ st h=>wpAny_pyIter_striter_wide st h) (fun A' hA=>Walks.strWide hA _ z t),⟨⟨_,Heap.get?_push_size _ rfl,rfl,rfl⟩,Nat.zero_le _⟩,fun b hb=>?_,q⟩
  have e:b=s1.heap.objs.size:=by simpa using hb
  subst e
  exact I1.fpOk (Nat.le_refl _) (I1.hok.fresh (Nat.le_refl _))
 ·refine wpAny_pyIter_ascii ha ⟨s1.heap.objs.size,[s1.heap.objs.size],_,_,H1,rfl,I1.kept (t':=s1.toks) fun b o e=>Heap.get?_push_of_some _ e,QrC (x:=z) (ty:="str_ascii_iterator") (t:=t) _ (by decide) (fun _ _ _ _ _ st h=>wpAny_pyIter_striter_ascii st h) (fun A' hA=>Walks.strAscii hA _ z t),⟨⟨_,Heap.get?_push_size _ rfl,rfl,rfl⟩,Nat.zero_le _⟩,fun b hb=>?_,q⟩
  have e:b=s1.heap.objs.size:=by simpa using hb
  subst e
  exact I1.fpOk (Nat.le_refl _) (I1.hok.fresh (Nat.le_refl _))
theorem QFp(bs:List Bool):(List.range bs.length).all (fun i=>(bs[i]?).getD false)=bs.all id:=by
 rw[Bool.eq_iff_iff,List.all_eq_true,List.all_eq_true]
 constructor
 ·intro h b hb
  obtain⟨i,hi,e⟩:=List.mem_iff_getElem.mp hb
  have:=h i (List.mem_range.mpr hi)
  rw[List.getElem?_eq_getElem hi,Option.getD_some,e]at this
  exact this
 ·intro h i hi
  have hi':=List.mem_range.mp hi
  rw[List.getElem?_eq_getElem hi',Option.getD_some]
  exact h _ (List.getElem_mem hi')
theorem QFW(bs:List Bool):(List.range bs.length).any (fun i=>(bs[i]?).getD false)=bs.any id:=by
 rw[Bool.eq_iff_iff,List.any_eq_true,List.any_eq_true]
 constructor
 ·rintro ⟨i,hi,h⟩
  have hi':=List.mem_range.mp hi
  rw[List.getElem?_eq_getElem hi',Option.getD_some]at h
  exact⟨_,List.getElem_mem hi',h⟩
 ·rintro ⟨b,hb,h⟩
  obtain⟨i,hi,e⟩:=List.mem_iff_getElem.mp hb
  exact⟨i,List.mem_range.mpr hi,by rw[List.getElem?_eq_getElem hi,Option.getD_some,e];exact h⟩
theorem QGK(hc:X.calm=true):CallR X (.builtin "all") (fun xs H Q=>∃(p:Addr)(bs:List Bool),xs=[.ref p]/\SqL X.K H p (bs.map V.bl)/\Q (.bl (bs.all id)) H):=by
 intro pins s σ H xs us Q I r h
 obtain⟨p,bs,rfl,hq,q⟩:=h
 obtain⟨u,rfl,rx⟩:=vals1 r
 cases rx
 obtain⟨its,rv,pl,hz⟩:=I.list hq
 have hlen:=rv.length
 refine call_all_walk ?_
 refine wpAny_pyIter_list pl.isList ?_
 have hp:p<s.heap.objs.size:=by obtain⟨o,n,ho,_⟩:=pl;exact Heap.lt_size ho
 have hne:p≠s.heap.objs.size:=Nat.ne_of_lt hp
 refine⟨_,_,_,_,_,_,fun i=>(bs[i]?).getD false,rfl,Walks.list (A:=X.A.in1) (I.ok.hd hc) _ p hne its.toArray,⟨⟨_,Heap.get?_push_size _ rfl,rfl,rfl⟩,pl.isList.at fun o e=>Heap.get?_push_of_some _ e⟩,?_,fun h' tk kk=>⟨.bl (bs.all id),H,?_,?_,q⟩⟩
 ·intro i v s2 Q2 E2 hv hQ2
  have hv':its[i]?=some v:=by simpa using hv
  have hi:i<bs.length:=by
   have:=(List.getElem?_eq_some_iff.mp hv').1
   rw[List.length_map]at hlen
   omega
  obtain⟨y,hy,ry⟩:=rv.get (i:=i) (x:=.bl bs[i]) (by rw[List.getElem?_map,List.getElem?_eq_getElem hi];rfl)
  rw[hv']at hy
  cases hy
  cases ry
  have hQ2:Q2 ((bs[i]?).getD false) s2:=hQ2
  rw[List.getElem?_eq_getElem hi,Option.getD_some]at hQ2
  exact wpAny_pure hQ2
 ·exact I.kept fun b o e=>kk b o (by
   intro hb
   have e2:b=s.heap.objs.size:=by simpa using hb
   subst e2
   exact absurd (Heap.lt_size e) (Nat.lt_irrefl _)) (Heap.get?_push_of_some _ e)
 ·rw[List.size_toArray, ← hlen,List.length_map,QFp];exact rfl
theorem QGp(hc:X.calm=true):CallR X (.builtin "any") (fun xs H Q=>∃(p:Addr)(bs:List Bool),xs=[.ref p]/\SqL X.K H p (bs.map V.bl)/\Q (.bl (bs.any id)) H):=by
 intro pins s σ H xs us Q I r h
 obtain⟨p,bs,rfl,hq,q⟩:=h
 obtain⟨u,rfl,rx⟩:=vals1 r
 cases rx
 obtain⟨its,rv,pl,hz⟩:=I.list hq
 have hlen:=rv.length
 refine call_any_walk ?_
 refine wpAny_pyIter_list pl.isList ?_
 have hp:p<s.heap.objs.size:=by obtain⟨o,n,ho,_⟩:=pl;exact Heap.lt_size ho
 have hne:p≠s.heap.objs.size:=Nat.ne_of_lt hp
 refine⟨_,_,_,_,_,_,fun i=>(bs[i]?).getD false,rfl,Walks.list (A:=X.A.in1) (I.ok.hd hc) _ p hne its.toArray,⟨⟨_,Heap.get?_push_size _ rfl,rfl,rfl⟩,pl.isList.at fun o e=>Heap.get?_push_of_some _ e⟩,?_,fun h' tk kk=>⟨.bl (bs.any id),H,?_,?_,q⟩⟩
 ·intro i v s2 Q2 E2 hv hQ2
  have hv':its[i]?=some v:=by simpa using hv
  have hi:i<bs.length:=by
   have:=(List.getElem?_eq_some_iff.mp hv').1
   rw[List.length_map]at hlen
   omega
  obtain⟨y,hy,ry⟩:=rv.get (i:=i) (x:=.bl bs[i]) (by rw[List.getElem?_map,List.getElem?_eq_getElem hi];rfl)
  rw[hv']at hy
  cases hy
  cases ry
  have hQ2:Q2 ((bs[i]?).getD false) s2:=hQ2
  rw[List.getElem?_eq_getElem hi,Option.getD_some]at hQ2
  exact wpAny_pure hQ2
 ·exact I.kept fun b o e=>kk b o (by
   intro hb
   have e2:b=s.heap.objs.size:=by simpa using hb
   subst e2
   exact absurd (Heap.lt_size e) (Nat.lt_irrefl _)) (Heap.get?_push_of_some _ e)
 ·rw[List.size_toArray, ← hlen,List.length_map,QFW];exact rfl
end
end L2
namespace DL
open PySem PySem.Spec PyProof.Rows L2
def signs(z:Str):List D:=z.cps.toList.map fun c=>D.str ⟨#[c]⟩
def itS(E:SD->Out D):SD->Out (List D):=fun ς=>E ς>>=fun d=>match d with | .str z=>.ok (signs z) | _=>.stuck
section
variable{C:Dc}{e tg iter a b:Expr}{E A B:SD->Out D}{pos p:Pos}{es:List Expr}{AA:SD->Out (List D)}
theorem QJD{K:W.Frag}{CT:CTab}{G1:Hp}{z:Str}:DIt K CT G1 (Its z) (signs z) where
 go:=fun G H i d s1 sH hd=>by
  unfold signs at hd
  rw[List.getElem?_map]at hd
  cases hc:z.cps.toList[i]? with
  | none=>rw[hc]at hd;cases hd
  | some c=>
   rw[hc]at hd
   cases hd
   have hi:i<z.cps.size:=by
    have:=(List.getElem?_eq_some_iff.mp hc).1
    simpa using this
   refine⟨hi,fun x H' ⟨e,c',h1,h2⟩=>?_⟩
   subst e h2
   have h1':z.cps.toList[i]?=some c':=by simpa using h1
   rw[hc]at h1'
   cases h1'
   exact⟨G,Same.refl _,Same.refl _,sH,fun b g n=>absurd g n,rfl⟩
 stop:=fun G H s1 sH=>by
  unfold signs
  show z.cps.size<=_
  rw[List.length_map];simp
theorem QKT(h:DB C iter E):DI C tg iter (itS E):=by
 obtain⟨t,p,q⟩:=h
 refine⟨_,QKe p,fun G H σ ς R S k=>?_⟩
 unfold itS at k
 rw[Out.post_bind]at k
 refine q G H σ ς _ S (Out.post_mono k fun d k v H1 G1 S1 a1 b1 r1=>?_)
 cases d with
 | str z=>cases r1;exact⟨z,rfl,k _ H1 G1 S1 a1 b1 QJD⟩
 | _=>exact k.elim
def dIn:D->D->Out D
 | .str x,.str y=>.ok (.bl (!(Builtin.Str.occurrences y x 0 y.length 1).isEmpty))
 | _,_=>.stuck
theorem QKY:DRS C (fun x y H Q=>∃ i j,x=.str i/\y=.str j/\Q (.bl (!(Builtin.Str.occurrences j i 0 j.length 1).isEmpty)) H) dIn:=by
 intro G H σ ς Q x y vx vy S hx hy q
 cases x with
 | str x=>
  cases y with
  | str y=>cases hx;cases hy;exact⟨x,y,rfl,rfl,q.2⟩
  | _=>exact q.elim
 | _=>cases y<;>exact q.elim
theorem QIj:scal2 dIn:=fun x y=>by cases x<;>cases y<;>first | exact rfl | exact True.intro
theorem de_in(ha:DB C a A)(hb:DB C b B)(hm:behindInMarks .In b=false:=by rfl):DE C (.Compare a [.In] [b] pos) (e2 dIn A B):=Qm6 QGT QKY QIj ha hb hm
def blsOf:List D->Option (List Bool)
 | []=>some []
 | .bl b::r=>(blsOf r).map (b :: ·)
 | _::_=>none
theorem Qjw{K:W.Frag}{CT:CTab}{H:Hp}:∀{ds:List D}{bs:List Bool}{vs:List V},blsOf ds=some bs->RepL K CT H ds vs->vs=bs.map V.bl
 | [],bs,vs,h,r=>by cases h;exact r
 | d::ds,bs,vs,h,⟨v,w,h1,h2,h3⟩=>by
  cases d with
  | bl b=>
   cases e:blsOf ds with
   | none=>rw[blsOf,e]at h;cases h
   | some cs=>
    rw[blsOf,e]at h
    cases h
    cases h2
    rw[h1,Qjw e h3];rfl
  | _=>cases h
def fAll:D->Out D
 | .lst xs=>match blsOf xs with | some bs=>.ok (.bl (bs.all id)) | none=>.stuck
 | _=>.stuck
def fAny:D->Out D
 | .lst xs=>match blsOf xs with | some bs=>.ok (.bl (bs.any id)) | none=>.stuck
 | _=>.stuck
theorem Qfo(hc:C.X.calm=true)(hg:Gl C.X "all")(hm:C.X.mg "all"=none)(ha:DAB C (e::es) AA)
 (he:starEach (e::es) C.X.env=(false,eval e C.X.env)::starEach es C.X.env:=by rfl) (hpl:(backTo pos (starEach es C.X.env)).any (·.1)=false:=by rfl):DE C (.Call (.Name "all" p) (e::es) [] pos) (eA (f1 fAll) AA):=by
 refine Qmm (QGK hc) (QnG ?_) (QkW ?_) hg hm PyProof.Rows.Boot.«all» ha (by decide) (by decide) he hpl
 ·intro G H σ ς Q x v S r q
  cases x with
  | lst xs=>
   cases eb:blsOf xs with
   | none=>rw[fAll,eb]at q;exact q.elim
   | some bs=>
    rw[fAll,eb]at q
    obtain⟨a,vs,rfl,h2,h3⟩:=r
    rw[Qjw eb h3]at h2
    exact⟨a,bs,rfl,h2,q.2⟩
  | _=>exact q.elim
 ·intro x
  cases x with
  | lst xs=>
   rw[fAll]
   cases blsOf xs with
   | none=>exact True.intro
   | some bs=>exact rfl
  | _=>exact True.intro
theorem QKC(hc:C.X.calm=true)(hg:Gl C.X "any")(hm:C.X.mg "any"=none)(ha:DAB C (e::es) AA)
 (he:starEach (e::es) C.X.env=(false,eval e C.X.env)::starEach es C.X.env:=by rfl) (hpl:(backTo pos (starEach es C.X.env)).any (·.1)=false:=by rfl):DE C (.Call (.Name "any" p) (e::es) [] pos) (eA (f1 fAny) AA):=by
 refine Qmm (QGp hc) (QnG ?_) (QkW ?_) hg hm PyProof.Rows.Boot.«any» ha (by decide) (by decide) he hpl
 ·intro G H σ ς Q x v S r q
  cases x with
  | lst xs=>
   cases eb:blsOf xs with
   | none=>rw[fAny,eb]at q;exact q.elim
   | some bs=>
    rw[fAny,eb]at q
    obtain⟨a,vs,rfl,h2,h3⟩:=r
    rw[Qjw eb h3]at h2
    exact⟨a,bs,rfl,h2,q.2⟩
  | _=>exact q.elim
 ·intro x
  cases x with
  | lst xs=>
   rw[fAny]
   cases blsOf xs with
   | none=>exact True.intro
   | some bs=>exact rfl
  | _=>exact True.intro
theorem QHr{X:Cx}:PE X (.Dict [] [] pos) (fun _ H Q=>∀ p,H p=none->Q (.ref p) (upd H p (.dK []))):=fun pins s σ H Q I h=>by
 have hb:sysModules<s.heap.objs.size:=Nat.lt_trans (by decide) (show mainGlobals<s.heap.objs.size from(I.mod.glob.keeps I.bk).lt)
 exact wpAny_Dict_empty ⟨.ref s.heap.objs.size,_,I.laid (a:=s.heap.objs.size) (o:=.dK []) (t':=s.toks) (fun _ _ q=>Heap.get?_push_of_some _ q) (Nat.le_refl _)
  ⟨Nat.zero_le _,beq_eq_false_iff_ne.mpr (Ne.symm (Nat.ne_of_lt hb)),[],.nil,Heap.DictOf.new s.heap⟩,rfl,h _ (I.hok.fresh (Nat.le_refl _))⟩
def eDic0:SD->Out D:=fun _=>.ok (.dic [])
theorem QJr:DF C (.Dict [] [] pos) eDic0:=⟨_,QHr,fun G H σ ς Q S q p hp=>by
 have q:KF C G H σ ς Q (.dic []):=q
 exact q p _ G (S.allocO hp) (QC hp) (Same.refl _) hp (S.gnone hp) ⟨[],QO,rfl⟩⟩
end
end DL
namespace DL
open PySem PySem.Spec PyProof.Rows L2
def ctOf(K:W.Frag):CTab:=fun c=>match W.nsIn K mainGlobals c with | some (some (.ref a))=>some a | _=>none
theorem ct_of{K:W.Frag}{c:Str}{a:Addr}(h:W.nsIn K mainGlobals c=some (some (.ref a))):ctOf K c=some a:=by unfold ctOf;rw[h]
structure Rz(C:Dc)(E:XK):Prop where
 pass:QeL (CXR C.X.prog C.X.w) C.X E
 xd:∀ d,C.XD d->∃ c Cc,d=.err c/\C.CT c=some Cc/\∀ H',(∀ b o,C.X.H₀ b=some o->¬ C.M b->H' b=some o)->E (.ref Cc) none H'
 made:∀(Cc:Addr) pins σ H1 s1 ea h' vs,Inv C.X pins σ H1 s1->Heap.MadeExcOf s1.heap h' ea (.ref Cc) vs->E (.ref Cc) none H1->C.X.xe (.ref ea) { s1 with heap:=h' }
 calm:C.X.calm=true
theorem rz0{C:Dc}(hx:∀ d,¬ C.XD d:=by exact fun _ h=>h)(hc:C.X.calm=true:=by rfl):Rz C E0 where
 pass:=fun pins σ H s e s' I h=>by obtain⟨_,_,_,_,_,_,_,z⟩:=h;exact z.elim
 xd:=fun d h=>absurd h (hx d)
 made:=fun Cc pins σ H1 s1 ea h' vs I hx hE=>hE.elim
 calm:=hc
abbrev Dc.nox(C:Dc):Dc:={ C with X:=C.X.nox,XD:=fun _=>False }
def noX{α:Type}:Out α->Out α
 | .exc _=>.stuck
 | o=>o
theorem QJU{α:Type}(a:α):noX (.ok a)=.ok a:=rfl
theorem Qvy{α:Type}{o:Out α}{k:α->Prop}{x:D->Prop}(h:(noX o).post k x):o.post k (fun _=>False):=by cases o<;>exact h
section
variable{C:Dc}{G H:Hp}{σ:St}{ς:SD}{e:Expr}{es:List Expr}{st:Stmt}{sts:List Stmt}
theorem GH.nox(S:GH C G H):GH C.nox G H:=⟨S.sub,S.g0,S.new,S.fr,S.dom,S.bs,S.bh⟩
theorem GH.unnox(S:GH C.nox G H):GH C G H:=⟨S.sub,S.g0,S.new,S.fr,S.dom,S.bs,S.bh⟩
theorem StR.nox(S:StR C G H σ ς):StR C.nox G H σ ς:=⟨S.toGH.nox,S.len,S.fz,S.ow,S.ln,S.inj,S.sf,S.su⟩
theorem StR.unnox(S:StR C.nox G H σ ς):StR C G H σ ς:=⟨S.toGH.unnox,S.len,S.fz,S.ow,S.ln,S.inj,S.sf,S.su⟩
theorem PA.nox'{X:Cx}{t:TA}(h:PA X.nox es t):PA X es t:=fun pos pins s σ H Q I q=>PA.nox h I q
theorem DA.lift{A:SD->Out (List D)}(h:DA C.nox es A):DA C es (fun ς=>noX (A ς)):=by
 obtain⟨t,p,q⟩:=h
 exact⟨t,PA.nox' p,fun G H σ ς Q S k=>q G H σ ς Q S.nox (Out.post_mono (Qvy k) fun d kd v H' G' S' a b r=>kd v H' G' S'.unnox a b r)⟩
theorem FlK.nox{W:Ends}{f:Fl}(h:FlK C G W f):FlK C.nox G W f:=by
 cases f with
 | nx ς=>exact fun σ' H' G' S q=>h σ' H' G' S.unnox q
 | bk ς=>exact fun σ' H' G' S q=>h σ' H' G' S.unnox q
 | ct ς=>exact fun σ' H' G' S q=>h σ' H' G' S.unnox q
 | rt b d=>exact fun v H' G' S q r=>h v H' G' S.unnox q r
theorem PS.nox'{X:Cx}{t:TS}(h:PS X.nox st t):PS X st t:=fun pins s σ H D I hw=>
 wpAny_mono (h pins s σ H D (I.wish _) hw) (fun _ _ q=>q.unwish) fun _ _ z=>False.elim z
theorem DS.lift{T:SD->Out Fl}(h:DS C.nox st T):DS C st (fun ς=>noX (T ς)):=by
 obtain⟨t,p,q⟩:=h
 exact⟨t,PS.nox' p,fun G H σ ς W S k=>q G H σ ς W S.nox (Out.post_mono (Qvy k) fun f kf=>kf.nox)⟩
variable{x:Str}{k:Nat}{fr:Bool}{dd:List D}{m:List D->Out D}{A:SD->Out (List D)}{p pos:Pos}{E:XK}
end
end DL
namespace DL
open PySem PySem.Spec PyProof.Rows L2
section
variable{C:Dc}{x:Str}{k:Nat}{fr:Bool}{dd:List D}{m:List D->Out D}{e:Expr}{es:List Expr}{A:SD->Out (List D)}{p pos:Pos}
variable{T U:SD->Out FX}{TE:SD->Out EX}{st:Stmt}{sts rest:List Stmt}{i:Nat}{px:Pos}
section
variable{G H:Hp}{σ:St}{ς:SD}{ea:Addr}
end
end
end DL
namespace L2
open PySem PySem.Spec PyProof.Rows
end L2
namespace DL
open PySem PySem.Spec PyProof.Rows L2
section
variable{C:Dc}{pos p:Pos}{e cx:Expr}{E:SD->Out D}
end
end DL
namespace L2
open PySem PySem.Spec PyProof.Rows
def Itz(K:W.Frag)(a b:Addr):It:=
 ⟨fun i H=>∃ xs ys x y,SqL K H a xs/\SqL K H b ys/\xs[i]?=some x/\ys[i]?=some y,
  fun i H v H'=>∃ p x y,H p=none/\v=.ref p/\H'=upd H p (.tup [x,y])/\(∀ xs,SqL K H a xs->xs[i]?=some x)/\∀ ys,SqL K H b ys->ys[i]?=some y,
  fun i H=>∃ xs ys,SqL K H a xs/\SqL K H b ys/\(xs.length<=i∨ys.length<=i)⟩
theorem QHF{P:Program}{w:World}{K:W.Frag}{elts:List Expr}{k1:Nat}{pos:Pos}{z TI TO i1 i2 l1 l2:Addr}(D:ZipApart z TI TO i1 i2 l1 l2):
 Turn P w K (.Tuple elts k1 pos) (Itz K l1 l2) [z,TI,TO,i1,i2] z (fun i h=>IsZip h z TI TO .none/\IsPair h TI (.ref i1) (.ref i2)/\(∃ a b,IsPair h TO a b)/\h.IsListIter i1 l1 i/\h.IsListIter i2 l2 i) where
 mem:=by simp
 obj:=fun i h st b hb=>by
  obtain⟨s1,s2,⟨_,_,s3⟩,⟨o4,e4,c4,d4⟩,⟨o5,e5,c5,d5⟩⟩:=st
  simp only[List.mem_cons,List.not_mem_nil,or_false]at hb
  rcases hb with rfl | rfl | rfl | rfl | rfl
  ·exact⟨_,s1,fun v q=>by cases q⟩
  ·exact⟨_,s2,fun v q=>by cases q⟩
  ·exact⟨_,s3,fun v q=>by cases q⟩
  ·exact⟨_,e4,fun v q=>by rw[d4]at q;cases q⟩
  ·exact⟨_,e5,fun v q=>by rw[d5]at q;cases q⟩
 keep:=fun i h h' st k=>by
  obtain⟨s1,s2,⟨a,b,s3⟩,s4,s5⟩:=st
  exact⟨k z (by simp) _ s1,k TI (by simp) _ s2,⟨a,b,k TO (by simp) _ s3⟩,s4.at fun o e=>k i1 (by simp) o e,s5.at fun o e=>k i2 (by simp) o e⟩
 item:=by
  intro X hP hw hK hc i pins s σ H E I hf st hg
  subst hP hw hK
  obtain⟨xs,ys,x,y,q1,q2,hx,hy⟩:=hg
  obtain⟨its1,rv1,p1,hz1⟩:=I.list q1
  obtain⟨its2,rv2,p2,hz2⟩:=I.list q2
  obtain⟨u1,hu1,ru1⟩:=rv1.get hx
  obtain⟨u2,hu2,ru2⟩:=rv2.get hy
  obtain⟨s1,s2,⟨a,b,s3⟩,s4,s5⟩:=st
  refine wpAny_pyNext_zip_item D s1 s2 s3 s4 s5 p1.isList p2.isList (x:=u1) (y:=u2) (by simpa using hu1) (by simpa using hu2) fun h' a1 a2 a3 a4 a5 a6 hk=>?_
  have hT:H s.heap.objs.size=none:=I.hok.fresh (Nat.le_refl _)
  have fp:∀ c∈[z,TO,i1,i2],FpOk X pins H c:=fun c hc=>hf c (by
   simp only[List.mem_cons,List.not_mem_nil,or_false]at hc ⊢
   rcases hc with rfl | rfl | rfl | rfl<;>simp)
  have out:∀ c,c∉[z,TO,i1,i2]->∀ o,s.heap.get? c=some o->h'.get? c=some o:=fun c hc o e=>hk c o (fun q=>hc (by simp[q])) (fun q=>hc (by simp[q])) (fun q=>hc (by simp[q])) (fun q=>hc (by simp[q])) e
  have trk:∀ c o,H c=some o->c∉[z,TO,i1,i2]:=fun c o e hc=>by rw[(fp c hc).1]at e;cases e
  have hok:HOk X.prog X.w (upd H s.heap.objs.size (.tup [x,y])) h':=fun c o e=>by
   by_cases hcT:c=s.heap.objs.size
   ·subst hcT
    rw[QO]at e
    cases e
    exact⟨by show 2<=sizeLine;decide,[u1,u2],.cons ru1 (.cons ru2 .nil),⟨_,a5,rfl,_,rfl⟩⟩
   ·rw[Qm hcT]at e
    refine(I.hok c o e).stay (fun b u hb q=>out b ?_ u q) (fun b q=>?_) fun b ts q=>?_
    ·rcases hb with rfl | hb
     ·exact trk b _ e
     ·exact trk b _ hb
    ·rw[Qm (QT q hT)];exact q
    ·rw[Qm (QT q hT)];exact q
  have I1:Inv X pins σ (upd H s.heap.objs.size (.tup [x,y])) { s with heap:=h',gens:=s.gens,drawn:=s.drawn,toks:=s.toks }:=I.step (ch:=[z,TO,i1,i2])
   (fun c hc=>⟨(fp c hc).2.2.2.1,(fp c hc).2.1,(fp c hc).2.2.2.2.1,(fp c hc).2.2.2.2.2⟩) (fun c o _ _ hc e _=>out c hc o e) (fun c o _ _ hc e _=>⟨o.slots,out c hc o e⟩)
   (fun c o hc e n=>by rw[Qm (Nat.ne_of_lt (Heap.lt_size e))];exact n) (fun c o hc e=>⟨o,out c hc o e⟩)
   (fun c ts e=>by rw[Qm (QT e hT)];exact e) (fun c o u e=>by rw[Qm (QT e hT)];exact e) (fun c ts e=>⟨#[],by rw[Qm (QT e hT),e];simp⟩)
   (fun m hm=>by
    obtain⟨o,es,ep,ho,r⟩:=hm
    exact⟨o,es,ep,out _ (fun hc=>(fp _ hc).2.1 rfl) o ho,r⟩) hok I.bare
  have lt:∀{c o},s.heap.get? c=some o->s.heap.objs.size≠c:=fun e=>Nat.ne_of_gt (Heap.lt_size e)
  refine⟨_,rfl,wpAny_letOwnedTupleGo_zip a1 fun h2 hz2 hs2=>?_⟩
  obtain⟨z0,z1,z2,z3,z4,z5⟩:=hf z (by simp)
  have I2:Inv X pins σ (upd H s.heap.objs.size (.tup [x,y])) { s with heap:=h2 }:=Inv.turned (s:={ s with heap:=h',gens:=s.gens,drawn:=s.drawn,toks:=s.toks }) (t':=s.toks) (it:=z) I1 (fun b o hb e=>(hs2.2 b hb).trans e) (by rw[Qm (lt s1).symm];exact z0) z1 z3 z4 z5
  refine⟨.ref s.heap.objs.size,_,I2,rfl,⟨_,x,y,hT,rfl,rfl,fun xs' q'=>by rw[I.list_inj q' q1];exact hx,fun ys' q'=>by rw[I.list_inj q' q2];exact hy⟩,
   ⟨hz2,hs2.extBut _ _ D.TIz (out TI (by simp[D.TIz,D.TITO,D.TIi1,D.TIi2]) _ s2),⟨_,_,hs2.extBut _ _ D.TOz a2⟩,a3.extBut hs2.extBut D.i1z,a4.extBut hs2.extBut D.i2z⟩,fun c hc=>?_⟩
  have:H c=none:=(hf c hc).1
  obtain⟨oc,hoc⟩:∃ o,s.heap.get? c=some o:=by
   simp only[List.mem_cons,List.not_mem_nil,or_false]at hc
   rcases hc with rfl | rfl | rfl | rfl | rfl
   ·exact⟨_,s1⟩
   ·exact⟨_,s2⟩
   ·exact⟨_,s3⟩
   ·obtain⟨o,e,_⟩:=s4;exact⟨o,e⟩
   ·obtain⟨o,e,_⟩:=s5;exact⟨o,e⟩
  rw[Qm (lt hoc).symm];exact this
 done:=by
  intro X hP hw hK hc i pins s σ H E I hf st hg
  subst hP hw hK
  obtain⟨xs,ys,q1,q2,hend⟩:=hg
  obtain⟨its1,rv1,p1,hz1⟩:=I.list q1
  obtain⟨its2,rv2,p2,hz2⟩:=I.list q2
  have l1:=rv1.length
  have l2:=rv2.length
  obtain⟨s1,s2,⟨a,b,s3⟩,s4,s5⟩:=st
  have fp:∀ c∈[z,TO,i1,i2],FpOk X pins H c:=fun c hc=>hf c (by
   simp only[List.mem_cons,List.not_mem_nil,or_false]at hc ⊢
   rcases hc with rfl | rfl | rfl | rfl<;>simp)
  refine wpAny_pyNext_zip_end (I.ok.hd hc) D s1 s2 s3 s4 s5 p1.isList p2.isList (by simp;omega) fun h' hk=>⟨rfl,?_⟩
  have out:∀ c,c∉[z,TO,i1,i2]->∀ o,s.heap.get? c=some o->h'.get? c=some o:=fun c hc o e=>hk c o (fun q=>hc (by simp[q])) (fun q=>hc (by simp[q])) (fun q=>hc (by simp[q])) (fun q=>hc (by simp[q])) e
  have trk:∀ c o,H c=some o->c∉[z,TO,i1,i2]:=fun c o e hc=>by rw[(fp c hc).1]at e;cases e
  exact I.step (g':=s.gens) (d':=s.drawn) (t':=s.toks) (ch:=[z,TO,i1,i2]) (fun c hc=>⟨(fp c hc).2.2.2.1,(fp c hc).2.1,(fp c hc).2.2.2.2.1,(fp c hc).2.2.2.2.2⟩) (fun c o _ _ hc e _=>out c hc o e) (fun c o _ _ hc e _=>⟨o.slots,out c hc o e⟩)
   (fun c o hc e n=>n) (fun c o hc e=>⟨o,out c hc o e⟩) (fun c ts e=>e) (fun c o u e=>e) (fun c ts e=>⟨#[],by rw[e];simp⟩)
   (fun m hm=>by
    obtain⟨o,es,ep,ho,r⟩:=hm
    exact⟨o,es,ep,out _ (fun hc=>(fp _ hc).2.1 rfl) o ho,r⟩)
   (fun c o e=>(I.hok c o e).stay (fun b u hb q=>out b (by
    rcases hb with rfl | hb
    ·exact trk b _ e
    ·exact trk b _ hb) u q) (fun b q=>q) fun b ts q=>q) I.bare
 self:=fun _ _ _ _ _ st h=>wpAny_pyIter_zip st.1 h
section
variable{X:Cx}
theorem QFL(n l1 l2:Nat)(h1:l1<n)(h2:l2<n):ZipApart (n+4) (n+2) (n+3) n (n+1) l1 l2:=⟨(show ¬ ((n+2:Nat)=n+4) by omega),(show ¬ ((n+3:Nat)=n+4) by omega),(show ¬ ((n:Nat)=n+4) by omega),(show ¬ ((n+1:Nat)=n+4) by omega),(show ¬ ((n+2:Nat)=n+3) by omega),(show ¬ ((n+2:Nat)=n) by omega),(show ¬ ((n+2:Nat)=n+1) by omega),(show ¬ ((n+3:Nat)=n) by omega),(show ¬ ((n+3:Nat)=n+1) by omega),(show ¬ ((n:Nat)=n+1) by omega),(show ¬ ((l1:Nat)=n+4) by omega),(show ¬ ((l1:Nat)=n+3) by omega),(show ¬ ((l1:Nat)=n) by omega),(show ¬ ((l1:Nat)=n+1) by omega),(show ¬ ((l2:Nat)=n+4) by omega),(show ¬ ((l2:Nat)=n+3) by omega),(show ¬ ((l2:Nat)=n) by omega),(show ¬ ((l2:Nat)=n+1) by omega)⟩
def iZip(K:W.Frag)(ta:TA):TI:=fun σ H R=>ta σ H fun vs H1=>∃ a b,vs=[.ref a,.ref b]/\(∃ xs,SqL K H1 a xs)/\(∃ ys,SqL K H1 b ys)/\R (Itz K a b) H1
theorem QKr{elts:List Expr}{k1:Nat}{tpos:Pos}{a b:Expr}{ta:TA}{p pos:Pos}(hg:Gl X "zip")(hm:X.mg "zip"=none)(ha:PA X [a,b] ta)(hs:starEach [a,b] X.env=[(false,eval a X.env),(false,eval b X.env)]:=by rfl)(hs2:starEach [b] X.env=[(false,eval b X.env)]:=by rfl):
 PI X (.Tuple elts k1 tpos) (.Call (.Name "zip" p) [a,b] [] pos) (iZip X.K ta):=by
 intro pins s σ H R I h
 refine Call_ (Qfm I hg hm PyProof.Rows.Boot.«zip» (PyProof.Rows.callWith_type1 (thn (ha pos pins s σ H _ I h) fun us s1 ⟨vs,H1,I1,r1,q1⟩=>?_) (by rw[hs,hs2]) (by rw[hs2];rfl)))
 obtain⟨l1,l2,e,⟨xs,hx⟩,⟨ys,hy⟩,q⟩:=q1
 subst e
 cases r1 with
 | cons r rr=>
  cases rr with
  | cons r' rr=>
   cases rr
   cases r
   cases r'
   obtain⟨its1,rv1,p1,hz1⟩:=I1.list hx
   obtain⟨its2,rv2,p2,hz2⟩:=I1.list hy
   have n1:l1<s1.heap.objs.size:=by obtain⟨o,n,ho,_⟩:=p1;exact Heap.lt_size ho
   have n2:l2<s1.heap.objs.size:=by obtain⟨o,n,ho,_⟩:=p2;exact Heap.lt_size ho
   refine call_zip_2 p1.isList p2.isList fun h' c1 c2 c3 c4 c5 c6 hk=>?_
   refine wpAny_pyIter_zip c1 ?_
   refine⟨_,_,_,Itz X.K l1 l2,H1,rfl,I1.kept (t':=s1.toks) fun b o e=>hk b o e,QHF (i1:=s1.heap.objs.size) (i2:=s1.heap.objs.size+1) (TI:=s1.heap.objs.size+2) (TO:=s1.heap.objs.size+3) (z:=s1.heap.objs.size+4) (l1:=l1) (l2:=l2)
    (QFL s1.heap.objs.size l1 l2 n1 n2),⟨c1,c2,⟨_,_,c3⟩,c4,c5⟩,fun b hb=>?_,q⟩
   have hb':s1.heap.objs.size<=b:=by
    simp only[List.mem_cons,List.not_mem_nil,or_false]at hb
    rcases hb with rfl | rfl | rfl | rfl | rfl<;>omega
   exact I1.fpOk hb' (I1.hok.fresh hb')
end
end L2
namespace DL
open PySem PySem.Spec PyProof.Rows L2
def itZ(A B:SD->Out D):SD->Out (List D):=fun ς=>A ς>>=fun x=>B ς>>=fun y=>match x,y with
 | .lst xs,.lst ys=>.ok (List.zipWith (fun a b=>.tup [a,b]) xs ys)
 | _,_=>.stuck
section
variable{C:Dc}{a b:Expr}{A B:SD->Out D}
theorem QJj{K:W.Frag}{CT:CTab}{G1:Hp}{p q:Addr}{xs ys:List D}{us vs:List V}(h1:SqL K G1 p us)(r1:RepL K CT G1 xs us)(h2:SqL K G1 q vs)(r2:RepL K CT G1 ys vs):DIt K CT G1 (Itz K p q) (List.zipWith (fun a b=>D.tup [a,b]) xs ys) where
 go:=fun G H i d s1 sH hd=>by
  rw[List.getElem?_zipWith]at hd
  cases e1:xs[i]? with
  | none=>rw[e1]at hd;cases hd
  | some x=>
   cases e2:ys[i]? with
   | none=>rw[e1,e2]at hd;cases hd
   | some y=>
    rw[e1,e2]at hd
    cases hd
    obtain⟨u,hu,ru⟩:=r1.get e1
    obtain⟨v,hv,rv⟩:=r2.get e2
    have q1:SqL K H p us:=sH.seq (s1.seq h1)
    have q2:SqL K H q vs:=sH.seq (s1.seq h2)
    refine⟨⟨us,vs,u,v,q1,q2,hu,hv⟩,fun w H' ⟨t,x',y',n,e,e',k1,k2⟩=>?_⟩
    have z1:=k1 us q1
    have z2:=k2 vs q2
    rw[hu]at z1;cases z1
    rw[hv]at z2;cases z2
    subst e e'
    have gn:G t=none:=sH.free n
    refine⟨upd G t (.tup [u,v]),QC gn,QC n,QjD sH,fun b g g'=>?_,t,[u,v],rfl,SqT.of QO,⟨u,_,rfl,Rep.mono (s1.trans (QC gn)) x u ru,v,_,rfl,Rep.mono (s1.trans (QC gn)) y v rv,rfl⟩⟩
    by_cases hb:b=t
    ·subst hb;exact n
    ·rw[Qm hb]at g';exact absurd g g'
 stop:=fun G H s1 sH=>by
  refine⟨us,vs,sH.seq (s1.seq h1),sH.seq (s1.seq h2),?_⟩
  have l1:=r1.length
  have l2:=r2.length
  rw[List.length_zipWith]
  omega
theorem QKg{elts:List Expr}{k1:Nat}{tpos p pos:Pos}(hgl:Gl C.X "zip")(hm:C.X.mg "zip"=none)(ha:DE C a A)(hb:DE C b B)
 (hst:starEach [a,b] C.X.env=(false,eval a C.X.env)::starEach [b] C.X.env:=by rfl) (hst2:starEach [b] C.X.env=(false,eval b C.X.env)::starEach [] C.X.env:=by rfl):DI C (.Tuple elts k1 tpos) (.Call (.Name "zip" p) [a,b] [] pos) (itZ A B):=by
 obtain⟨t0,p0,q0⟩:=ha
 obtain⟨t3,p3,q3⟩:=hb
 refine⟨_,QKr hgl hm (QaZ p0 (QaZ p3 QcO hst2) hst) (by rw[hst,hst2];rfl) (by rw[hst2];rfl),fun G H σ ς R S k=>?_⟩
 unfold itZ at k
 rw[Out.post_bind]at k
 refine q0 G H σ ς _ S (Out.post_mono k fun d k v H1 G1 S1 a1 b1 r=>?_)
 rw[Out.post_bind]at k
 refine q3 G1 H1 σ ς _ S1 (Out.post_mono k fun d2 k v2 H2 G2 S2 a2 b2 r'=>?_)
 cases d with
 | lst xs=>
  cases d2 with
  | lst ys=>
   obtain⟨p1,us,rfl,h1,r1⟩:=Rep.mono b2 _ v r
   obtain⟨p2,vs,rfl,h2,r2⟩:=r'
   exact⟨p1,p2,rfl,⟨us,S2.sub.seq h1⟩,⟨vs,S2.sub.seq h2⟩,k _ H2 G2 S2 (a1.trans a2) (b1.trans b2) (QJj h1 r1 h2 r2)⟩
  | _=>exact k.elim
 | _=>exact k.elim
end
end DL
namespace DL
open PySem PySem.Spec PyProof.Rows L2
def putD(f:Str)(d:D):List (Str×D)->List (Str×D)
 | []=>[(f,d)]
 | (g,x)::r=>if g=f then(g,d)::r else(g,x)::putD f d r
section
variable{K:W.Frag}{CT:CTab}{H H':Hp}
theorem RepF.look:∀{fds:List (Str×D)}{fs:List (Str×V)}{f:Str},RepF K CT H fds fs->(∀ d,fds.lookup f=some d->∃ v,fs.lookup f=some v/\Rep K CT H d v)/\(fds.lookup f=none->fs.lookup f=none)
 | [],_,f,h=>by cases h;exact⟨fun d z=>(by cases z),fun _=>rfl⟩
 | (k,d)::fds,_,f,⟨v,r,h1,h2,h3⟩=>by
  subst h1
  have ih:=RepF.look (f:=f) h3
  rw[List.lookup_cons,List.lookup_cons]
  cases f == k with
  | true=>exact⟨fun d' z=>by cases z;exact⟨v,rfl,h2⟩,fun z=>by cases z⟩
  | false=>exact ih
theorem RepF.len:∀{fds:List (Str×D)}{fs:List (Str×V)},RepF K CT H fds fs->fds.length=fs.length
 | [],_,h=>by cases h;rfl
 | (k,d)::fds,_,⟨v,r,h1,h2,h3⟩=>by subst h1;rw[List.length_cons,List.length_cons,RepF.len h3]
theorem RepF.put{f:Str}{d:D}{v:V}(q:Rep K CT H d v):∀{fds:List (Str×D)}{fs:List (Str×V)},RepF K CT H fds fs->RepF K CT H (putD f d fds) (putF f v fs)
 | [],_,h=>by cases h;exact⟨v,[],rfl,q,rfl⟩
 | (k,x)::fds,_,⟨u,r,h1,h2,h3⟩=>by
  subst h1
  unfold putD putF
  by_cases hk:k=f
  ·rw[if_pos hk,if_pos hk];exact⟨v,r,rfl,q,h3⟩
  ·rw[if_neg hk,if_neg hk];exact⟨u,_,rfl,h2,RepF.put q h3⟩
end
def FldOk(K:W.Frag)(CT:CTab)(cs:List Str)(f:Str):Prop:=∀ c,cs.contains c=true->∀ A,CT c=some A->Cls K A/\Qgh K A f
def dFld(cs:List Str)(f:Str):D->Out D
 | .ins c fs=>if cs.contains c=true then optO (fs.lookup f) else .stuck
 | _=>.stuck
section
variable{C:Dc}{e:Expr}{E:SD->Out D}{f:Str}{cs:List Str}{pos:Pos}
theorem QdN(hF:FldOk C.X.K C.CT cs f)(h:DE C e E)(hb:attributeBase e f C.X.env (eval e C.X.env)=eval e C.X.env:=by rfl):DE C (.Attribute e f pos) (e1 (dFld cs f) E):=by
 obtain⟨t,p,q⟩:=h
 refine⟨_,QJ5 p hb,fun G H σ ς Q S k=>?_⟩
 unfold e1 at k
 rw[Out.post_bind]at k
 refine q G H σ ς _ S (Out.post_mono k fun d k v H1 G1 S1 a1 b1 r=>?_)
 cases d with
 | ins c fds=>
  rcases QS k with⟨hc,k⟩ | ⟨_,k⟩
  ·obtain⟨d,e1',kd⟩:=Qe0 k
   obtain⟨a,A,dx,fs,rfl,h1,h2,h3⟩:=r
   obtain⟨v,e2',rv⟩:=(RepF.look h3).1 d e1'
   obtain⟨cl,na⟩:=hF c hc A h1
   exact⟨a,A,dx,fs,v,rfl,S1.sub _ _ h2,cl,na,e2',KD.now (KD.later kd a1 b1) S1 rv⟩
  ·exact k.elim
 | _=>exact k.elim
theorem StR.writeS{G H:Hp}{σ:St}{ς:SD}(S:StR C G H σ ς){i:Nat}{p A dx:Addr}{c:Str}{fds fds':List (Str×D)}{fs':List (Str×V)}(hi:ς[i]?=some (some (.s,.ins c fds)))(hp:σ[i]?=some (some (.ref p)))(hc:C.CT c=some A)(r:RepF C.X.K C.CT G fds' fs'):
 StR C G (upd H p (.ins A dx fs')) σ (ς.set i (some (.s,.ins c fds'))):=by
 obtain⟨p',e1,hg,h0,⟨hM,hW⟩,hB,ow⟩:=S.sf i _ hi
 rw[hp]at e1;cases e1
 have ne:∀ b o,G b=some o->b≠p:=fun b o e z=>by subst z;rw[hg]at e;cases e
 have S':StR C G (upd H p (.ins A dx fs')) (σ.set i (some (.ref p))) (ς.set i (some (.s,.ins c fds'))):={
  sub:=fun b o e=>by rw[Qm (ne b o e)];exact S.sub b o e
  g0:=S.g0
  new:=S.new
  fr:=fun b o e m=>by
   rw[Qm (by rintro rfl;exact m hM)];exact S.fr b o e m
  dom:=fun b e=>by
   by_cases hb:b=p
   ·subst hb;rw[QO]at e;cases e
   ·rw[Qm hb]at e;exact S.dom b e
  bs:=fun b o e=>by
   rw[Qm (by rintro rfl;rw[hB]at e;cases e)];exact S.bs b o e
  bh:=S.bh
  len:=by rw[List.length_set,List.length_set];exact S.len
  fz:=fun j d h=>by
   rcases QI h with⟨rfl,h2,l⟩ | ⟨hne,h2⟩
   ·cases h2
   ·rw[Qt hne];exact S.fz j d h2
  ow:=fun j d h=>by
   rcases QI h with⟨rfl,h2,l⟩ | ⟨hne,h2⟩
   ·cases h2
   ·rw[Qt hne]
    obtain⟨q,a,b,c',w⟩:=S.ow j d h2
    have qp:q≠p:=by
     rintro rfl
     exact h0 c'
    exact⟨q,a,b,c',w.mono (Same.refl G) fun o z=>by rw[Qm qp];exact z⟩
  ln:=fun j d h=>by
   rcases QI h with⟨rfl,h2,l⟩ | ⟨hne,h2⟩
   ·cases h2
   ·rw[Qt hne];exact S.ln j d h2
  inj:=fun j k d1 d2 q hjk h1 h2 h3=>by
   rcases QI h1 with⟨rfl,q1,l⟩ | ⟨n1,q1⟩
   ·cases q1
   ·rcases QI h2 with⟨rfl,q2,l⟩ | ⟨n2,q2⟩
    ·cases q2
    ·rw[Qt n1]at h3
     rw[Qt n2]
     exact S.inj j k d1 d2 q hjk q1 q2 h3
  sf:=fun j d h=>by
   rcases QI h with⟨rfl,h2,l⟩ | ⟨hne,h2⟩
   ·cases h2
    exact⟨p,QeX (by rw[S.len];exact l),hg,h0,⟨hM,hW⟩,hB,⟨A,dx,fs',hc,QO,r⟩⟩
   ·rw[Qt hne]
    obtain⟨q,a,b,c2,m,z,w⟩:=S.sf j d h2
    have qp:q≠p:=by
     rintro rfl
     exact S.su i j _ _ q hne hi h2 hp a
    exact⟨q,a,b,c2,m,z,w.mono (Same.refl G) fun o z=>by rw[Qm qp];exact z⟩
  su:=fun j k d1 d2 q hjk h1 h2 h3=>by
   have get:∀(j:Nat) d,(ς.set i (some (.s,D.ins c fds')))[j]?=some (some (.s,d))->∃ d',ς[j]?=some (some (.s,d')):=fun j d h=>by
    rcases QI h with⟨rfl,h2,l⟩ | ⟨hne,h2⟩
    ·exact⟨_,hi⟩
    ·exact⟨_,h2⟩
   obtain⟨d1',g1⟩:=get j d1 h1
   obtain⟨d2',g2⟩:=get k d2 h2
   rw[QeT hp]at h3 ⊢
   exact S.su j k d1' d2' q hjk g1 g2 h3 }
 rw[QeT hp]at S'
 exact S'
def sFldS(cs:List Str)(f:Str)(i:Nat)(E:SD->Out D):SD->Out Fl:=fun ς=>E ς>>=fun d=>match ς[i]? with
 | some (some (.s,.ins c fds))=>if (cs.contains c&&decide (fds.length<1000))=true then .ok (.nx (ς.set i (some (.s,.ins c (putD f d fds))))) else .stuck
 | _=>.stuck
theorem Qej(i:Nat){x:Str}{px pa:Pos}(hF:FldOk C.X.K C.CT cs f)(h:DE C e E)(hN:C.X.N[i]?=some x:=by rfl)(hv:Vis C.X.env.scope x:=by first | exact Or.inl rfl | exact Or.inr (oi rfl) | exact Or.inr (Or.inr rfl))
 (hd:(x == ("__debug__":Str))=false:=by decide) (hcd:(x == ("__classdict__":Str))=false:=by decide)
 (hs:swapsWith e (some (.Attribute (.Name x px) f pa)) pos.line C.X.env=pure false:=by rfl):DS C (.Assign [.Attribute (.Name x px) f pa] e pos) (sFldS cs f i E):=by
 obtain⟨t,p,q⟩:=h
 refine⟨_,QJ1 (Qfn (i:=i) hN hv hd hcd) p hs,fun G H σ ς W S k=>?_⟩
 unfold sFldS at k
 rw[Out.post_bind]at k
 refine q G H σ ς _ S (Out.post_mono k fun d k v H1 G1 S1 a1 b1 r=>?_)
 split at k
 ·rename_i c fds z
  rcases QS k with⟨hc,k⟩ | ⟨_,k⟩
  ·rw[Bool.and_eq_true]at hc
   obtain⟨pp,e1',hg,h0,hM,hB,A,dx,fs,hA,hH,rf⟩:=S1.sf i _ z
   obtain⟨cl,na⟩:=hF c hc.1 A hA
   refine⟨_,e1',pp,A,dx,fs,rfl,hH,cl,na,by rw[← rf.len];exact of_decide_eq_true hc.2,?_⟩
   exact(show FlK C G W (.nx (ς.set i (some (.s,.ins c (putD f d fds))))) from k) σ _ G1 (S1.writeS z e1' hA (rf.put r)) b1
  ·exact k.elim
 ·exact k.elim
end
end DL
namespace L2
open PySem PySem.Spec PyProof.Rows
section
variable{X:Cx}{CX:CXT}{k:Nat}{m:Str}{dvs:List V}{E:XK}{o e:Expr}{es:List Expr}{ta:TE}{t:TA}{apos pos:Pos}{cs:Addr->Sp->Prop}
def MTab(X:Cx)(CX:CXT)(k:Nat)(m:Str)(dvs:List V)(cs:Addr->Sp->Prop):Prop:=
 ∀ C sp,cs C sp->Cls X.K C/\∃ f fd ps ds,Meth X.K C m f/\FnOk X.prog X.w X.K X.mg X.base CX k f fd ps sp/\Binds X.K fd ps ds/\Vals dvs ds
def QGk(m:Str)(dvs:List V)(cs:Addr->Sp->Prop)(E:XK)(ta:TE)(t:TA):TE:=fun σ H Q=>ta σ H fun x H1=>∃ a C dx fs sp,x=.ref a/\H1 a=some (.ins C dx fs)/\cs C sp/\fs.lookup m=none/\t σ H1 fun vs H2=>sp (x::(vs++dvs)) H2 Q E
theorem QvF{pl:Sem Bool}(he:PE X o ta)(tab:MTab X CX k m dvs cs)(hr:Room k X.A)(hx:QeL CX X E)(ha:PA X (e::es) t)
 (hst:starEach (e::es) X.env=(false,eval e X.env)::starEach es X.env:=by rfl) (hpl:(backTo pos (starEach es X.env)).any (·.1)=false:=by rfl)
 (ht:eval (.Call (.Attribute o m apos) (e::es) [] pos) X.env=(do
  let ov ← eval o X.env
  standAt apos.atName
  let (f,first) ← holding [ov] (getMethod ov m pl)
  callWith pos f first (backTo pos (starEach (e::es) X.env)) (backToKw pos (keywordEach [] X.env))):=by rfl):
 PE X (.Call (.Attribute o m apos) (e::es) [] pos) (QGk m dvs cs E ta t):=by
 intro pins s σ H Q I h
 refine W.methodCall_KW (pl:=pl) (thn (he pins s σ H _ I h) fun u s1 ⟨x,H1,I1,rx,a,C,dx,fs,sp,ex,ea,hc,l,q⟩=>?_) ht
 subst ex
 obtain rfl:u=Value.ref a:=rx
 obtain⟨c,f,fd,ps,ds,hm,F,hb,hd⟩:=tab C sp hc
 refine QoV I1 ea c hm l ?_
 refine W.callWith_K (first:=[.ref a]) (h₀:=X.base) I.ok.mod.kin hm.kp (thn (ha pos pins s1 σ H1 _ I1 q) fun us s2 ⟨vs,H2,I2,r,q2⟩=>⟨I2.kIn,?_⟩) hst hpl
 exact QwQ (us:=.ref a::us) (vs:=.ref a::vs) F hr hb hd hx I2 (.cons rfl r) q2
theorem QF4{pl:Sem Bool}(he:PE X o ta)(tab:MTab X CX k m dvs cs)(hr:Room k X.A)(hx:QeL CX X E)
 (ht:eval (.Call (.Attribute o m apos) [] [] pos) X.env=(do
  let ov ← eval o X.env
  standAt apos.atName
  let (f,first) ← holding [ov] (getMethod ov m pl)
  callWith pos f first (backTo pos (starEach [] X.env)) (backToKw pos (keywordEach [] X.env))):=by rfl):
 PE X (.Call (.Attribute o m apos) [] [] pos) (QGk m dvs cs E ta tNil):=by
 intro pins s σ H Q I h
 refine W.methodCall_KW (pl:=pl) (thn (he pins s σ H _ I h) fun u s1 ⟨x,H1,I1,rx,a,C,dx,fs,sp,ex,ea,hc,l,q⟩=>?_) ht
 subst ex
 obtain rfl:u=Value.ref a:=rx
 obtain⟨c,f,fd,ps,ds,hm,F,hb,hd⟩:=tab C sp hc
 refine QoV I1 ea c hm l ?_
 exact W.callWith_K0 (first:=[.ref a]) I1.kIn hm.kp (QwQ (us:=[.ref a]) (vs:=[.ref a]) F hr hb hd hx I1 (.cons rfl .nil) q)
end
end L2
namespace DL
open PySem PySem.Spec PyProof.Rows L2
def XDofI(CT:CTab)(E:XK)(H:Hp)(p:Addr):D->Prop:=fun d=>∃ c C,d=.err c/\CT c=some C/\∀ H',(∀ b o,H b=some o->b≠p->H' b=some o)->E (.ref C) none H'
def SpI(K:W.Frag)(CT:CTab)(m:Str->List (Str×D)->List D->Out (List (Str×D))):Sp:=fun vs H Q E=>∃ p c A dx fs fds vs' ds G0,vs=.ref p::vs'/\CT c=some A/\H p=some (.ins A dx fs)/\G0 p=none/\Same G0 H/\RepF K CT G0 fds fs/\RepL K CT G0 ds vs'/\
 (m c fds ds).post (fun fds'=>∀ H' G' fs' dx',Same G0 G'->(∀ b o,H b=some o->b≠p->H' b=some o)->Same G' H'->(∀ b,G0 b=none->G' b≠none->H b=none)->H' p=some (.ins A dx' fs')->RepF K CT G' fds' fs'->Q .non H') (XDofI CT E H p)
def QjV(c:Str)(ς:SD):Out (List (Str×D)):=match (ς[0]?:Option (Option (SM×D))) with
 | some (some (SM.s,D.ins c' fds))=>if c'=c then .ok fds else .stuck
 | _=>.stuck
def Qdg(c:Str):Fl->Out (List (Str×D))
 | .nx ς=>QjV c ς
 | _=>.stuck
def bodyI(n len:Nat)(T:SD->Out Fl):Str->List (Str×D)->List D->Out (List (Str×D)):=fun c fds ds=>
 if ds.length+1=n then T (some (.s,.ins c fds)::(ds.map (fun d=>some (.k,d))++List.replicate (len - n) none))>>=Qdg c else .stuck
abbrev dcI(P:Program)(w:World)(K:W.Frag)(mg:Str->Option Value)(base:Heap)(CT:CTab)(N:List Str)(qual:Str)(sc:Scope)(f:Addr)(cdv:Value)(A:Around)(outer:List Env)(s:Shared)(H:Hp)(E:XK)(G:Hp)(p:Addr):Dc:=
 { X:=cxOf (CXR P w) P w K mg base N qual sc f cdv A outer s H E,CT:=CT,G0:=G,XD:=XDofI CT E H p,B:=fun b=>if b=p then none else H b,M:=fun b=>b=p,W:=fun _=>some p }
theorem fnI{P:Program}{w:World}{K:W.Frag}{mg:Str->Option Value}{base:Heap}{CT:CTab}{x qual:Str}{st:Stmt}{f:Addr}{fd:FuncData}{dV:Value}{N ps:List Str}{k:Nat}{T:SD->Out Fl}
 (F:FunV K x qual st f fd dV) (S:Qq N ps (Qb st))
 (hb:∀(cdv:Value)(A:Around)(outer:List Env)(s:Shared)(H:Hp)(E:XK)(G:Hp)(p:Addr),Room k (A.deeper (envOfC qual (Qb st) s.heap.objs.size f cdv))->DSs (dcI P w K mg base CT N qual (Qb st) f cdv A outer s H E G p) (Qo st) T):
 FnOk P w K mg base (CXR P w) (k+1) f fd ps (SpI K CT (bodyI ps.length N.length T)):=by
 obtain⟨oc,od,kV,doc,pm,an,cdv,ct,osl,rfl,lk,hcd⟩:=F.ex
 have hpl:ps.length<=N.length:=by have:=congrArg List.length S.pre;rw[List.length_take]at this;omega
 have len:∀ vs H Q E,SpI K CT (bodyI ps.length N.length T) vs H Q E->vs.length=ps.length:=by
  intro vs H Q E ⟨p,c,A,dx,fs,fds,vs',ds,G0,e,_,_,_,_,_,r,q⟩
  unfold bodyI at q
  by_cases hl:ds.length+1=ps.length
  ·rw[e,List.length_cons, ← r.length];exact hl
  ·rw[if_neg hl]at q;exact q.elim
 refine fn_of lk hcd S len fun A outer s H vs Q E hr hsp=>?_
 have hlen:=len vs H Q E hsp
 obtain⟨p,c,Ac,dx,fs,fds,vs',ds,G0,rfl,hct,hp,hg,sub,rf,r,q⟩:=hsp
 obtain⟨t,p1,q1⟩:=hb cdv A outer s H E G0 p hr
 have hl:ds.length+1=ps.length:=by rw[r.length];exact hlen
 refine⟨t,p1,?_⟩
 unfold bodyI at q
 rw[if_pos hl,Out.post_bind]at q
 have get:∀(i:Nat) x,(some (SM.s,D.ins c fds)::(ds.map (fun d=>some (SM.k,d))++List.replicate (N.length - ps.length) none))[i]?=some (some x)->(i=0/\x=(.s,.ins c fds))∨∃ j d,i=j+1/\ds[j]?=some d/\x=(.k,d):=fun i x h=>by
  cases i with
  | zero=>exact .inl ⟨rfl,by simpa using h.symm⟩
  | succ j=>
   rw[List.getElem?_cons_succ]at h
   obtain⟨d,e1,e2⟩:=Qdl h
   exact .inr ⟨j,d,rfl,e1,e2⟩
 have S0:StR (dcI P w K mg base CT N qual (Qb st) f cdv A outer s H E G0 p) G0 H (L2.start N (.ref p::vs')) (some (.s,.ins c fds)::(ds.map (fun d=>some (.k,d))++List.replicate (N.length - ps.length) none)):={
  sub:=sub
  g0:=Same.refl _
  new:=fun b h1 h2=>absurd h1 h2
  fr:=fun b o e _=>e
  dom:=fun b e=>e
  bs:=fun b o e=>by
   have e':(if b=p then none else H b)=some o:=e
   by_cases hb:b=p
   ·rw[if_pos hb]at e';cases e'
   ·rw[if_neg hb]at e';exact e'
  bh:=fun b e=>by
   show(if b=p then none else H b)=none
   by_cases hb:b=p
   ·rw[if_pos hb]
   ·rw[if_neg hb];exact e
  len:=by unfold L2.start;simp;have:=r.length;simp at hlen;omega
  fz:=fun i d e=>by
   rcases get i _ e with⟨_,z⟩ | ⟨j,d',rfl,e1,z⟩
   ·cases z
   ·cases z
    obtain⟨v,e3,rv⟩:=r.get e1
    exact⟨v,Qju (by simpa using e3),rv⟩
  ow:=fun i d e=>by
   rcases get i _ e with⟨_,z⟩ | ⟨j,d',rfl,e1,z⟩<;>cases z
  ln:=fun i d e=>by
   rcases get i _ e with⟨_,z⟩ | ⟨j,d',rfl,e1,z⟩<;>cases z
  inj:=fun i j d e p _ h=>by
   rcases get i _ h with⟨_,z⟩ | ⟨j,d',rfl,e1,z⟩<;>cases z
  sf:=fun i d e=>by
   rcases get i _ e with⟨rfl,z⟩ | ⟨j,d',rfl,e1,z⟩
   ·cases z
    exact⟨p,Qju rfl,hg,(by show H p≠none;rw[hp];simp),⟨rfl,rfl⟩,if_pos rfl,⟨Ac,dx,fs,hct,hp,rf⟩⟩
   ·cases z
  su:=fun i j d e q hij h1 h2=>by
   rcases get i _ h1 with⟨rfl,z⟩ | ⟨j,d',rfl,e1,z⟩
   ·rcases get j _ h2 with⟨rfl,z⟩ | ⟨j,d',rfl,e1,z⟩
    ·exact absurd rfl hij
    ·cases z
   ·cases z }
 refine q1 G0 H (L2.start N (.ref p::vs')) _ _ S0 (Out.post_mono q fun fl kk=>?_)
 cases fl with
 | nx ς'=>
  intro σ' H' G' S' s'
  have kk:(QjV c ς').post _ _:=kk
  unfold QjV at kk
  split at kk
  ·rename_i c' fds' z
   rcases QS kk with⟨rfl,k2⟩ | ⟨_,k2⟩
   ·obtain⟨p',e1,hg',h0,⟨hM,_⟩,hB,A',dx',fs',hA',hH',rf'⟩:=S'.sf 0 _ z
    have hM:p'=p:=hM
    subst hM
    have hA':CT c'=some A':=hA'
    rw[hct]at hA'
    cases hA'
    exact k2 H' G' fs' dx' s' (fun b o e hb=>S'.fr b o e hb) S'.sub S'.new hH' rf'
   ·exact k2.elim
  ·exact kk.elim
 | bk ς'=>exact kk.elim
 | ct ς'=>exact kk.elim
 | rt b d=>exact kk.elim
end DL
namespace DL
open PySem PySem.Spec PyProof.Rows L2
theorem QnI{P:Program}{w:World}{K:W.Frag}{mg:Str->Option Value}{base:Heap}{CT:CTab}{N:List Str}{qual:Str}{sc:Scope}{f:Addr}{cdv:Value}{A:Around}{outer:List Env}{s:Shared}{H:Hp}{E:XK}{G:Hp}{p:Addr}:
 Rz (dcI P w K mg base CT N qual sc f cdv A outer s H E G p) E where
 pass:=passR
 xd:=fun d ⟨c,Cc,h1,h2,h3⟩=>⟨c,Cc,h1,h2,fun H' k=>h3 H' fun b o e hb=>k b o e hb⟩
 made:=fun Cc pins σ H1 s1 ea h' vs I hx hE=>QDh I rfl rfl rfl hx hE
 calm:=rfl
section
variable{C:Dc}{E:XK}{c:Str}{A f:Addr}{fd:FuncData}{ps:List Str}{ds:List Value}{dd:List D}{k:Nat}{m:Str->List (Str×D)->List D->Out (List (Str×D))}{e:Expr}{es:List Expr}{AA:SD->Out (List D)}{p pos:Pos}
def eMake(c:Str)(m:Str->List (Str×D)->List D->Out (List (Str×D)))(a:SD->Out (List D)):SD->Out D:=fun ς=>a ς>>=fun xs=>m c [] xs>>=fun fds=>.ok (.ins c fds)
def MkOk(P:Program)(w:World)(K:W.Frag)(mg:Str->Option Value)(base:Heap)(CT:CTab)(c:Str)(k:Nat)(m:Str->List (Str×D)->List D->Out (List (Str×D))):Prop:=
 ∃ A f fd ps,CT c=some A/\mg c=some (.ref A)/\Mk K A f/\FnOk P w K mg base (CXR P w) k f fd ps (SpI K CT m)/\Binds K fd ps []
theorem QhD(rz:Rz C E)(h:MkOk C.X.prog C.X.w C.X.K C.X.mg C.X.base C.CT c k m)(hr:Room (k+1) C.X.A)(ha:DA C (e::es) AA)(hg:Gl C.X c)
 (hdb:(c == ("__debug__":Str))=false:=by decide) (he:starEach (e::es) C.X.env=(false,eval e C.X.env)::starEach es C.X.env:=by rfl) (hpl:(backTo pos (starEach es C.X.env)).any (·.1)=false:=by rfl):
 DF C (.Call (.Name c p) (e::es) [] pos) (eMake c m AA):=by
 obtain⟨A,f,fd,ps,hct,hm,M,F,hb⟩:=h
 obtain⟨t,p1,q1⟩:=ha
 refine⟨_,QIu M F hr hg hm hb .nil rz.pass p1 hdb he hpl,fun G H σ ς Q S q=>?_⟩
 unfold eMake at q
 rw[Out.post_bind]at q
 refine q1 G H σ ς _ S (Out.post_mono q fun xs kk vs H1 G1 S1 a1 b1 r1=>?_)
 intro x dx nx ndx ne
 rw[Out.post_bind]at kk
 have keep:∀ b o,H1 b=some o->upd (upd H1 dx (.own x)) x (.ins A dx []) b=some o:=fun b o e=>by
  rw[Qm (QT e nx),Qm (QT e ndx)];exact e
 have back:∀ b,upd (upd H1 dx (.own x)) x (.ins A dx []) b=none->H1 b=none:=fun b e=>by
  by_cases hx:b=x
  ·subst hx;exact nx
  ·rw[Qm hx]at e
   by_cases hd:b=dx
   ·subst hd;exact ndx
   ·rw[Qm hd]at e;exact e
 refine⟨x,c,A,dx,[],[],vs++[],xs,G1,rfl,hct,QO,S1.sub.free nx,fun b o e=>keep b o (S1.sub b o e),rfl,by rw[List.append_nil];exact r1,?_⟩
 cases z:m c [] xs with
 | stuck=>rw[z]at kk;exact kk.elim
 | exc y=>
  rw[z]at kk
  obtain⟨c',Cc,e1',e2',e3'⟩:=rz.xd y kk
  exact⟨c',Cc,e1',e2',fun H' s'=>e3' H' fun b o q m'=>s' b o (keep b o (S1.fr b o q m')) (QT (S1.fr b o q m') nx)⟩
 | ok fds=>
  rw[z]at kk
  intro H' G' fs' dx' g1 h1 s1 n1 hp rf
  have hh:Same H1 H':=fun b o e=>h1 b o (keep b o e) (QT e nx)
  have hgp:G' x=none:=by
   cases zz:G' x with
   | none=>rfl
   | some o=>have:=n1 x (S1.sub.free nx) (by rw[zz];simp);rw[QO]at this;cases this
  exact⟨rfl,(show KF C G H σ ς Q (.ins c fds) from kk) x H' G' (S1.grow hh g1 s1 fun b g g'=>back b (n1 b g g')) (a1.trans hh) (b1.trans g1) (a1.free nx) hgp ⟨A,dx',fs',hct,hp,rf⟩⟩
end
def MtOk(P:Program)(w:World)(K:W.Frag)(mg:Str->Option Value)(base:Heap)(CT:CTab)(CX:CXT)(name:Str)(k:Nat)(cs:List Str)(sp:Str->Sp):Prop:=
 ∀ c,cs.contains c=true->∃ A f fd ps,CT c=some A/\Cls K A/\Meth K A name f/\FnOk P w K mg base CX k f fd ps (sp c)/\Binds K fd ps []
def csOf(CT:CTab)(cs:List Str)(sp:Str->Sp):Addr->Sp->Prop:=fun A s=>∃ c,cs.contains c=true/\CT c=some A/\s=sp c
theorem mtab{X:Cx}{CT:CTab}{CX:CXT}{name:Str}{k:Nat}{cs:List Str}{sp:Str->Sp}(h:MtOk X.prog X.w X.K X.mg X.base CT CX name k cs sp):MTab X CX k name [] (csOf CT cs sp):=by
 rintro A s ⟨c,hc,hA,rfl⟩
 obtain⟨A',f,fd,ps,h1,h2,h3,h4,h5⟩:=h c hc
 rw[hA]at h1;cases h1
 exact⟨h2,f,fd,ps,[],h3,h4,h5,.nil⟩
section
variable{C:Dc}{name:Str}{k:Nat}{cs:List Str}{fr:Bool}{mt:Str->List D->Out D}{o e:Expr}{es:List Expr}{O:SD->Out D}{AA:SD->Out (List D)}{apos pos:Pos}
def eMeth(cs:List Str)(name:Str)(mt:Str->List D->Out D)(O:SD->Out D)(A:SD->Out (List D)):SD->Out D:=fun ς=>O ς>>=fun d=>match d with
 | .ins c fds=>if (cs.contains c&&(fds.lookup name).isNone)=true then A ς>>=fun xs=>mt c (.ins c fds::xs) else .stuck
 | _=>.stuck
theorem QB8{G H:Hp}{σ:St}{ς:SD}{Q:VK}{t:TA}{c:Str}{fds:List (Str×D)}{v1:V}{H1 G1:Hp}(S1:StR C G1 H1 σ ς)(a1:Same H H1)(b1:Same G G1)(r1:Rep C.X.K C.CT G1 (.ins c fds) v1)
 (tk:MtOk C.X.prog C.X.w C.X.K C.X.mg C.X.base C.CT CX0 name k cs (fun c=>SpD C.X.K C.CT fr (mt c))) (hx:∀ x,¬ C.XD x)
 (hq:∀ G H σ ς Q,StR C G H σ ς->(AA ς).post (fun ds=>∀ vs H' G',StR C G' H' σ ς->Same H H'->Same G G'->RepL C.X.K C.CT G' ds vs->Q vs H') C.XD->t σ H Q)
 {K':D->Prop} (hK:∀ d v H2 G2 H' G',StR C G2 H2 σ ς->Same H H2->Same G G2->K' d->Same G2 G'->Same H2 H'->Same G' H'->(∀ b,G2 b=none->G' b≠none->H2 b=none)->RetG C.X.K C.CT fr H2 G' H' d v->Q v H')
 (kk:(if (cs.contains c&&(fds.lookup name).isNone)=true then AA ς>>=fun xs=>mt c (.ins c fds::xs) else .stuck).post K' C.XD):
 ∃ a Cc dx fs sp,v1=.ref a/\H1 a=some (.ins Cc dx fs)/\csOf C.CT cs (fun c=>SpD C.X.K C.CT fr (mt c)) Cc sp/\fs.lookup name=none/\t σ H1 fun vs H2=>sp (v1::(vs++[])) H2 Q E0:=by
 rcases QS kk with⟨hc,kk⟩ | ⟨_,kk⟩
 ·rw[Bool.and_eq_true]at hc
  obtain⟨a,Cc,dx,fs,rfl,hct,hh,rf⟩:=r1
  refine⟨a,Cc,dx,fs,_,rfl,S1.sub _ _ hh,⟨c,hc.1,hct,rfl⟩,(RepF.look rf).2 (by simpa using hc.2),?_⟩
  rw[Out.post_bind]at kk
  refine hq G1 H1 σ ς _ S1 (Out.post_mono kk fun xs k2 vs H2 G2 S2 a2 b2 r2=>?_)
  refine⟨.ins c fds::xs,G2,S2.sub,⟨_,_,rfl,Rep.mono b2 (.ins c fds) (.ref a) ⟨a,Cc,dx,fs,rfl,hct,hh,rf⟩,by rw[List.append_nil];exact r2⟩,?_⟩
  cases z:mt c (.ins c fds::xs) with
  | stuck=>rw[z]at k2;exact k2.elim
  | exc y=>rw[z]at k2;exact absurd k2 (hx y)
  | ok d=>
   rw[z]at k2
   intro v H' G' g1 h1 s1 n1 ret
   exact hK d v H2 G2 H' G' S2 (a1.trans a2) (b1.trans b2) k2 g1 h1 s1 n1 ret
 ·exact kk.elim
theorem retKD{G H:Hp}{σ:St}{ς:SD}{Q:VK}:∀ d v H2 G2 H' G',StR C G2 H2 σ ς->Same H H2->Same G G2->KD C G H σ ς Q d->Same G2 G'->Same H2 H'->Same G' H'->(∀ b,G2 b=none->G' b≠none->H2 b=none)->RetG C.X.K C.CT fr H2 G' H' d v->Q v H':=by
 intro d v H2 G2 H' G' S2 a b kd g1 h1 s1 n1 ret
 unfold RetG at ret
 by_cases hc:(fr && !d.scal)=true
 ·rw[if_pos hc]at ret
  obtain⟨pp,rfl,h0,hg',ow⟩:=ret
  obtain⟨o,ho⟩:=ow.there
  have S3:=(S2.grow h1 g1 s1 n1).freeze ho hg' (S2.h0none h0) (fun i d' z1 z2=>by
   obtain⟨o',ho'⟩:=S2.own_ne z1 z2
   rw[h0]at ho';cases ho')
  exact kd _ _ _ S3 (a.trans h1) ((b.trans g1).trans (QC hg')) (ow.known hg' ho)
 ·rw[if_neg hc]at ret
  exact kd v H' G' (S2.grow h1 g1 s1 n1) (a.trans h1) (b.trans g1) ret
theorem QB3{pl:Sem Bool}(tk:MtOk C.X.prog C.X.w C.X.K C.X.mg C.X.base C.CT CX0 name k cs (fun c=>SpD C.X.K C.CT fr (mt c)))(hr:Room k C.X.A)(ho:DE C o O)(ha:DA C (e::es) AA)(hx:∀ x,¬ C.XD x:=by exact fun _ h=>h)
 (hst:starEach (e::es) C.X.env=(false,eval e C.X.env)::starEach es C.X.env:=by rfl) (hpl:(backTo pos (starEach es C.X.env)).any (·.1)=false:=by rfl)
 (ht:eval (.Call (.Attribute o name apos) (e::es) [] pos) C.X.env=(do
  let ov ← eval o C.X.env
  standAt apos.atName
  let (f,first) ← holding [ov] (getMethod ov name pl)
  callWith pos f first (backTo pos (starEach (e::es) C.X.env)) (backToKw pos (keywordEach [] C.X.env))):=by rfl):
 DE C (.Call (.Attribute o name apos) (e::es) [] pos) (eMeth cs name mt O AA):=by
 obtain⟨t1,p1,q1⟩:=ho
 obtain⟨t2,p2,q2⟩:=ha
 refine⟨_,QvF (pl:=pl) p1 (mtab tk) hr pass0 p2 hst hpl ht,fun G H σ ς Q S q=>?_⟩
 unfold eMeth at q
 rw[Out.post_bind]at q
 refine q1 G H σ ς _ S (Out.post_mono q fun d kk v1 H1 G1 S1 a1 b1 r1=>?_)
 cases d with
 | ins c fds=>exact QB8 S1 a1 b1 r1 tk hx q2 retKD kk
 | _=>exact kk.elim
theorem QaF{pl:Sem Bool}(tk:MtOk C.X.prog C.X.w C.X.K C.X.mg C.X.base C.CT CX0 name k cs (fun c=>SpD C.X.K C.CT fr (mt c)))(hr:Room k C.X.A)(ho:DE C o O)(hx:∀ x,¬ C.XD x:=by exact fun _ h=>h)
 (ht:eval (.Call (.Attribute o name apos) [] [] pos) C.X.env=(do
  let ov ← eval o C.X.env
  standAt apos.atName
  let (f,first) ← holding [ov] (getMethod ov name pl)
  callWith pos f first (backTo pos (starEach [] C.X.env)) (backToKw pos (keywordEach [] C.X.env))):=by rfl):
 DE C (.Call (.Attribute o name apos) [] [] pos) (eMeth cs name mt O aNil):=by
 obtain⟨t1,p1,q1⟩:=ho
 refine⟨_,QF4 (pl:=pl) p1 (mtab tk) hr pass0 ht,fun G H σ ς Q S q=>?_⟩
 unfold eMeth at q
 rw[Out.post_bind]at q
 refine q1 G H σ ς _ S (Out.post_mono q fun d kk v1 H1 G1 S1 a1 b1 r1=>?_)
 cases d with
 | ins c fds=>exact QB8 (AA:=aNil) (t:=tNil) S1 a1 b1 r1 tk hx (fun G H σ ς Q S q=>q [] H G S (Same.refl H) (Same.refl G) rfl) retKD kk
 | _=>exact kk.elim
end
end DL
namespace DL
open PySem PySem.Spec PyProof.Rows L2
section
variable{C:Dc}{name:Str}{k:Nat}{cs:List Str}{mt:Str->List D->Out D}{o e:Expr}{es:List Expr}{O:SD->Out D}{AA:SD->Out (List D)}{apos pos:Pos}
variable{E:XK}{m:Str->List (Str×D)->List D->Out (List (Str×D))}{x:Str}{px spos:Pos}
def Qfx(cs:List Str)(name:Str)(m:Str->List (Str×D)->List D->Out (List (Str×D)))(i:Nat)(A:SD->Out (List D)):SD->Out Fl:=fun ς=>match (ς[i]?:Option (Option (SM×D))) with
 | some (some (SM.s,D.ins c fds))=>if (cs.contains c&&(fds.lookup name).isNone)=true then A ς>>=fun xs=>m c fds xs>>=fun fds'=>.ok (.nx (ς.set i (some (.s,.ins c fds')))) else .stuck
 | _=>.stuck
theorem Qis{pl:Sem Bool}(i:Nat)(rz:Rz C E)(tk:MtOk C.X.prog C.X.w C.X.K C.X.mg C.X.base C.CT (CXR C.X.prog C.X.w) name k cs (fun _=>SpI C.X.K C.CT m))(hr:Room k C.X.A)(ha:DA C (e::es) AA)
 (hN:C.X.N[i]?=some x:=by rfl) (hv:Vis C.X.env.scope x:=by first | exact Or.inl rfl | exact Or.inr (oi rfl) | exact Or.inr (Or.inr rfl))
 (hd:(x == ("__debug__":Str))=false:=by decide) (hcd:(x == ("__classdict__":Str))=false:=by decide)
 (hst:starEach (e::es) C.X.env=(false,eval e C.X.env)::starEach es C.X.env:=by rfl) (hpl:(backTo pos (starEach es C.X.env)).any (·.1)=false:=by rfl)
 (ht:eval (.Call (.Attribute (.Name x px) name apos) (e::es) [] pos) C.X.env=(do
  let ov ← eval (.Name x px) C.X.env
  standAt apos.atName
  let (f,first) ← holding [ov] (getMethod ov name pl)
  callWith pos f first (backTo pos (starEach (e::es) C.X.env)) (backToKw pos (keywordEach [] C.X.env))):=by rfl)
 (hsw:swapsWith (.Call (.Attribute (.Name x px) name apos) (e::es) [] pos) none spos.line C.X.env=pure false:=by rfl):
 DS C (.Expr (.Call (.Attribute (.Name x px) name apos) (e::es) [] pos) spos) (Qfx cs name m i AA):=by
 obtain⟨t2,p2,q2⟩:=ha
 refine⟨_,QB5 (QvF (pl:=pl) (Qfn (i:=i) hN hv hd hcd) (mtab tk) hr rz.pass p2 hst hpl ht) hsw,fun G H σ ς W S kk=>?_⟩
 unfold Qfx at kk
 split at kk
 ·rename_i c fds z
  rcases QS kk with⟨hc,kk⟩ | ⟨_,kk⟩
  ·rw[Bool.and_eq_true]at hc
   obtain⟨p,e1',hg,h0,⟨hM,_⟩,hB,A,dx,fs,hct,hh,rf⟩:=S.sf i _ z
   refine⟨_,e1',p,A,dx,fs,_,rfl,hh,⟨c,hc.1,hct,rfl⟩,(RepF.look rf).2 (by simpa using hc.2),?_⟩
   rw[Out.post_bind]at kk
   refine q2 G H σ ς _ S (Out.post_mono kk fun xs k2 vs H2 G2 S2 a2 b2 r2=>?_)
   obtain⟨p',e2',hg2,_,_,_,A2,dx2,fs2,hct2,hh2,rf2⟩:=S2.sf i _ z
   rw[e1']at e2';cases e2'
   rw[Out.post_bind]at k2
   refine⟨p,c,A2,dx2,fs2,fds,vs++[],xs,G2,rfl,hct2,hh2,hg2,S2.sub,rf2,by rw[List.append_nil];exact r2,?_⟩
   cases zz:m c fds xs with
   | stuck=>rw[zz]at k2;exact k2.elim
   | exc y=>
    rw[zz]at k2
    obtain⟨c',Cc,f1,f2,f3⟩:=rz.xd y k2
    exact⟨c',Cc,f1,f2,fun H' s'=>f3 H' fun b o q mm=>s' b o (S2.fr b o q mm) (by rintro rfl;exact mm hM)⟩
   | ok fds'=>
    rw[zz]at k2
    intro H' G' fs' dx' g1 h1 s1 n1 hp rf'
    have gp:G' p=none:=by
     cases y:G' p with
     | none=>rfl
     | some o=>have:=n1 p hg2 (by rw[y];simp);rw[hh2]at this;cases this
    have S3:StR C G' (upd H' p (.ins A2 dx2 fs2)) σ ς:=S2.grow (fun b o e=>by
     by_cases hb:b=p
     ·subst hb;rw[QO];rw[hh2]at e;exact e
     ·rw[Qm hb];exact h1 b o e hb) g1 (fun b o e=>by
     rw[Qm (by rintro rfl;rw[gp]at e;cases e)];exact s1 b o e) n1
    have S4:=S3.writeS (dx:=dx') z e1' hct2 rf'
    have eq:upd (upd H' p (.ins A2 dx2 fs2)) p (.ins A2 dx' fs')=H':=by
     rw[QIE]
     funext b
     by_cases hb:b=p
     ·subst hb;rw[QO,hp]
     ·rw[Qm hb]
    rw[eq]at S4
    exact(show FlK C G W (.nx (ς.set i (some (.s,.ins c fds')))) from k2) σ H' G' S4 (b2.trans g1)
  ·exact kk.elim
 ·exact kk.elim
end
end DL
namespace DL
open PySem PySem.Spec PyProof.Rows L2
def inCls(s:Stmt)(j:Nat):Stmt:=match s with
 | .ClassDef _ _ _ b _ _ _ _ _ _ _=>b.getD j (.Pass ⟨0,0,0,0⟩)
 | _=>.Pass ⟨0,0,0,0⟩
def KitI(K:W.Frag)(CT:CTab)(uc:Value)(tbl:List (Str×Bool)):Prop:=∀ c b,tbl.lookup c=some b->∀ A,CT c=some A->ClsD K A/\W.kitOne K (.ref A) uc=some b
theorem Qih{K:W.Frag}{CT:CTab}{uc:Value}:KitI K CT uc []:=fun _ _ h=>nomatch h
theorem QZ{K:W.Frag}{CT:CTab}{uc:Value}{c:Str}{b:Bool}{A:Addr}{tbl:List (Str×Bool)}(hc:CT c=some A)(hx:ClsD K A)(hk:W.kitOne K (.ref A) uc=some b)(r:KitI K CT uc tbl):KitI K CT uc ((c,b)::tbl):=by
 intro c' b' h A' hA
 rw[List.lookup_cons]at h
 cases e:c' == c with
 | true=>
  rw[e]at h
  cases h
  rw[beq_iff_eq.mp e,hc]at hA
  cases hA
  exact⟨hx,hk⟩
 | false=>
  rw[e]at h
  exact r c' b' h A' hA
section
variable{C:Dc}{pos p:Pos}{e cx:Expr}{E:SD->Out D}
end
def eIxO(i:Nat)(b:SD->Out D):SD->Out D:=fun ς=>match (ς[i]?:Option (Option (SM×D))) with
 | some (some (SM.o,D.lst xs))=>b ς>>=fun k=>match k with | .int k=>optO (atI xs k) | _=>.stuck
 | _=>.stuck
section
variable{C:Dc}{pos px:Pos}{b:Expr}{B:SD->Out D}{x f:Str}{cs:List Str}
theorem QFk(i:Nat)(hb:DB C b B)(hN:C.X.N[i]?=some x:=by rfl)(hv:Vis C.X.env.scope x:=by first | exact Or.inl rfl | exact Or.inr (oi rfl) | exact Or.inr (Or.inr rfl))
 (hd:(x == ("__debug__":Str))=false:=by decide) (hcd:(x == ("__classdict__":Str))=false:=by decide) (hs:QqA b:=by intro _ _;rfl):DE C (.Subscript (.Name x px) b pos) (eIxO i B):=by
 obtain⟨tb,p2,q2⟩:=hb
 refine⟨_,pe_ix QFe (Qfn (i:=i) hN hv hd hcd) p2 hs,fun G H σ ς Q S q=>?_⟩
 unfold eIxO at q
 split at q
 ·rename_i xs z
  obtain⟨p,e1',hg,h0,ow⟩:=S.ow i _ z
  rw[Out.post_bind]at q
  refine⟨_,e1',q2 G H σ ς _ S (Out.post_mono q fun y k2 v2 H2 G2 S2 a2 b2 r2=>?_)⟩
  cases y with
  | int k=>
   cases r2
   obtain⟨d,e2',kd⟩:=Qe0 k2
   obtain⟨p',e3',hg',h0',vs,hv1,hv2⟩:=S2.ow i _ z
   rw[e1']at e3';cases e3'
   obtain⟨v,e4',rv⟩:=Qq6 hv2 e2'
   exact .inl ⟨p,vs,k,v,rfl,rfl,SqL.of hv1,e4',KD.now (KD.later kd a2 b2) S2 rv⟩
  | _=>exact k2.elim
 ·exact q.elim
end
end DL
namespace L2
open PySem PySem.Spec PyProof.Rows
def Ite(K:W.Frag)(a:Addr):It:=
 ⟨fun i H=>∃ xs x,SqL K H a xs/\xs[i]?=some x,
  fun i H v H'=>∃ p x,H p=none/\v=.ref p/\H'=upd H p (.tup [.int i,x])/\(∀ xs,SqL K H a xs->xs[i]?=some x),
  fun i H=>∃ xs,SqL K H a xs/\xs.length<=i⟩
theorem QGa{P:Program}{w:World}{K:W.Frag}{elts:List Expr}{k1:Nat}{pos:Pos}{e it l:Addr}(D1:e≠it):
 Turn P w K (.Tuple elts k1 pos) (Ite K l) [e,it] e (fun i h=>(∃ old,IsEnum h e it (i:Int) old)/\h.IsListIter it l i) where
 mem:=by simp
 obj:=fun i h st b hb=>by
  obtain⟨⟨old,s1⟩,⟨o4,e4,c4,d4⟩⟩:=st
  simp only[List.mem_cons,List.not_mem_nil,or_false]at hb
  rcases hb with rfl | rfl
  ·exact⟨_,s1,fun v q=>by cases q⟩
  ·exact⟨_,e4,fun v q=>by rw[d4]at q;cases q⟩
 keep:=fun i h h' st k=>by
  obtain⟨⟨old,s1⟩,s4⟩:=st
  exact⟨⟨old,k e (by simp) _ s1⟩,s4.at fun o q=>k it (by simp) o q⟩
 item:=by
  intro X hP hw hK hc i pins s σ H E I hf st hg
  subst hP hw hK
  obtain⟨xs,x,q1,hx⟩:=hg
  obtain⟨its1,rv1,p1,hz1⟩:=I.list q1
  obtain⟨u1,hu1,ru1⟩:=rv1.get hx
  obtain⟨⟨old,s1⟩,s4⟩:=st
  refine wpAny_pyNext_enum_item s1 s4 p1.isList (x:=u1) (by simpa using hu1) D1 fun h' a1 a3 a5 a6 hk=>?_
  have hT:H s.heap.objs.size=none:=I.hok.fresh (Nat.le_refl _)
  have fp:∀ c∈[e,it],FpOk X pins H c:=hf
  have out:∀ c,c∉[e,it]->∀ o,s.heap.get? c=some o->h'.get? c=some o:=fun c hc o q=>hk c o (fun q=>hc (by simp[q])) (fun q=>hc (by simp[q])) q
  have trk:∀ c o,H c=some o->c∉[e,it]:=fun c o q hc=>by rw[(fp c hc).1]at q;cases q
  have hok:HOk X.prog X.w (upd H s.heap.objs.size (.tup [.int i,x])) h':=fun c o q=>by
   by_cases hcT:c=s.heap.objs.size
   ·subst hcT
    rw[QO]at q
    cases q
    exact⟨by show 2<=sizeLine;decide,[.int i s.toks,u1],.cons ⟨_,rfl⟩ (.cons ru1 .nil),⟨_,a5,rfl,_,rfl⟩⟩
   ·rw[Qm hcT]at q
    refine(I.hok c o q).stay (fun b u hb q'=>out b ?_ u q') (fun b q'=>?_) fun b ts q'=>?_
    ·rcases hb with rfl | hb
     ·exact trk b _ q
     ·exact trk b _ hb
    ·rw[Qm (QT q' hT)];exact q'
    ·rw[Qm (QT q' hT)];exact q'
  have I1:Inv X pins σ (upd H s.heap.objs.size (.tup [.int i,x])) { s with heap:=h',gens:=s.gens,drawn:=s.drawn,toks:=s.toks+1 }:=I.step (ch:=[e,it])
   (fun c hc=>⟨(fp c hc).2.2.2.1,(fp c hc).2.1,(fp c hc).2.2.2.2.1,(fp c hc).2.2.2.2.2⟩) (fun c o _ _ hc q _=>out c hc o q) (fun c o _ _ hc q _=>⟨o.slots,out c hc o q⟩)
   (fun c o hc q n=>by rw[Qm (Nat.ne_of_lt (Heap.lt_size q))];exact n) (fun c o hc q=>⟨o,out c hc o q⟩)
   (fun c ts q=>by rw[Qm (QT q hT)];exact q) (fun c o u q=>by rw[Qm (QT q hT)];exact q) (fun c ts q=>⟨#[],by rw[Qm (QT q hT),q];simp⟩)
   (fun m hm=>by
    obtain⟨o,es,ep,ho,r⟩:=hm
    exact⟨o,es,ep,out _ (fun hc=>(fp _ hc).2.1 rfl) o ho,r⟩) hok I.bare
  have lt:∀{c o},s.heap.get? c=some o->s.heap.objs.size≠c:=fun q=>Nat.ne_of_gt (Heap.lt_size q)
  refine⟨_,rfl,wpAny_letOwnedTupleGo_enum a1 fun h2 hz2 hs2=>?_⟩
  obtain⟨z0,z1,z2,z3,z4,z5⟩:=hf e (by simp)
  have I2:Inv X pins σ (upd H s.heap.objs.size (.tup [.int i,x])) { s with heap:=h2,toks:=s.toks+1 }:=Inv.turned (s:={ s with heap:=h',gens:=s.gens,drawn:=s.drawn,toks:=s.toks+1 }) (t':=s.toks+1) (it:=e) I1 (fun b o hb q=>(hs2.2 b hb).trans q) (by rw[Qm (lt s1).symm];exact z0) z1 z3 z4 z5
  refine⟨.ref s.heap.objs.size,_,I2,rfl,⟨_,x,hT,rfl,rfl,fun xs' q'=>by rw[I.list_inj q' q1];exact hx⟩,
   ⟨⟨_,by have:((i+1:Nat):Int)=(i:Int)+1:=by push_cast;rfl
          rw[this];exact hz2⟩,a3.extBut hs2.extBut D1.symm⟩,fun c hc=>?_⟩
  have:H c=none:=(hf c hc).1
  obtain⟨oc,hoc⟩:∃ o,s.heap.get? c=some o:=by
   simp only[List.mem_cons,List.not_mem_nil,or_false]at hc
   rcases hc with rfl | rfl
   ·exact⟨_,s1⟩
   ·obtain⟨o,q,_⟩:=s4;exact⟨o,q⟩
  rw[Qm (lt hoc).symm];exact this
 done:=by
  intro X hP hw hK hc i pins s σ H E I hf st hg
  subst hP hw hK
  obtain⟨xs,q1,hend⟩:=hg
  obtain⟨its1,rv1,p1,hz1⟩:=I.list q1
  have l1:=rv1.length
  obtain⟨⟨old,s1⟩,s4⟩:=st
  obtain⟨z0,z1,z2,z3,z4,z5⟩:=hf it (by simp)
  refine wpAny_pyNext_enum_end (I.ok.hd hc) s1 s4 p1.isList (by simp;omega) fun h' hk=>⟨rfl,?_⟩
  have fp:∀ c∈[it],FpOk X pins H c:=fun c hc=>hf c (by simp only[List.mem_cons,List.not_mem_nil,or_false]at hc ⊢;exact Or.inr hc)
  have out:∀ c,c∉[it]->∀ o,s.heap.get? c=some o->h'.get? c=some o:=fun c hc o q=>hk c o (fun q=>hc (by simp[q])) q
  have trk:∀ c o,H c=some o->c∉[it]:=fun c o q hc=>by rw[(fp c hc).1]at q;cases q
  exact I.step (g':=s.gens) (d':=s.drawn) (t':=s.toks) (ch:=[it]) (fun c hc=>⟨(fp c hc).2.2.2.1,(fp c hc).2.1,(fp c hc).2.2.2.2.1,(fp c hc).2.2.2.2.2⟩) (fun c o _ _ hc q _=>out c hc o q) (fun c o _ _ hc q _=>⟨o.slots,out c hc o q⟩)
   (fun c o hc q n=>n) (fun c o hc q=>⟨o,out c hc o q⟩) (fun c ts q=>q) (fun c o u q=>q) (fun c ts q=>⟨#[],by rw[q];simp⟩)
   (fun m hm=>by
    obtain⟨o,es,ep,ho,r⟩:=hm
    exact⟨o,es,ep,out _ (fun hc=>(fp _ hc).2.1 rfl) o ho,r⟩)
   (fun c o q=>(I.hok c o q).stay (fun b u hb q'=>out b (by
    rcases hb with rfl | hb
    ·exact trk b _ q
    ·exact trk b _ hb) u q') (fun b q'=>q') fun b ts q'=>q') I.bare
 self:=fun _ _ _ _ _ st h=>wpAny_pyIter_enum st.1.choose_spec h
section
variable{X:Cx}
def iEnum(K:W.Frag)(ta:TA):TI:=fun σ H R=>ta σ H fun vs H1=>∃ a,vs=[.ref a]/\(∃ xs,SqL K H1 a xs)/\R (Ite K a) H1
theorem QJd{elts:List Expr}{k1:Nat}{tpos:Pos}{a:Expr}{ta:TA}{p pos:Pos}(hg:Gl X "enumerate")(hm:X.mg "enumerate"=none)(ha:PA X [a] ta)(hs:starEach [a] X.env=[(false,eval a X.env)]:=by rfl):
 PI X (.Tuple elts k1 tpos) (.Call (.Name "enumerate" p) [a] [] pos) (iEnum X.K ta):=by
 intro pins s σ H R I h
 refine Call_ (Qfm I hg hm PyProof.Rows.Boot.«enumerate» (PyProof.Rows.callWith_type1 (thn (ha pos pins s σ H _ I h) fun us s1 ⟨vs,H1,I1,r1,q1⟩=>?_) (by rw[hs];rfl) (by rfl)))
 obtain⟨l1,e,⟨xs,hx⟩,q⟩:=q1
 subst e
 cases r1 with
 | cons r rr=>
  cases rr
  cases r
  obtain⟨its1,rv1,p1,hz1⟩:=I1.list hx
  refine call_enumerate_list p1.isList fun h' c1 c4 c6 hk=>?_
  refine wpAny_pyIter_enum c1 ?_
  refine⟨_,_,_,Ite X.K l1,H1,rfl,I1.kept (t':=s1.toks) fun b o e=>hk b o e,QGa (e:=s1.heap.objs.size+1) (it:=s1.heap.objs.size) (l:=l1) (show ¬ ((s1.heap.objs.size+1:Nat)=s1.heap.objs.size) by omega),
   ⟨⟨_,c1⟩,c4⟩,fun b hb=>?_,q⟩
  have hb':s1.heap.objs.size<=b:=by
   simp only[List.mem_cons,List.not_mem_nil,or_false]at hb
   rcases hb with rfl | rfl<;>omega
  exact I1.fpOk hb' (I1.hok.fresh hb')
end
end L2
namespace DL
open PySem PySem.Spec PyProof.Rows L2
def enumD(i:Nat):List D->List D
 | []=>[]
 | x::xs=>.tup [.int i,x]::enumD (i+1) xs
theorem QrY:∀(xs:List D)(i:Nat),(enumD i xs).length=xs.length
 | [],_=>rfl
 | x::xs,i=>by simp[enumD,QrY xs]
theorem Qjm:∀(xs:List D)(n i:Nat),(enumD n xs)[i]?=xs[i]?.map fun x=>.tup [.int (n+i:Nat),x]
 | [],_,_=>rfl
 | x::xs,n,0=>rfl
 | x::xs,n,i+1=>by
  show(enumD (n+1) xs)[i]?=_
  rw[Qjm xs (n+1) i,show n+1+i=n+(i+1) by omega]
  rfl
def itE(A:SD->Out D):SD->Out (List D):=fun ς=>A ς>>=fun x=>match x with
 | .lst xs=>.ok (enumD 0 xs)
 | _=>.stuck
section
variable{C:Dc}{a:Expr}{A:SD->Out D}
theorem QHH{K:W.Frag}{CT:CTab}{G1:Hp}{p:Addr}{xs:List D}{us:List V}(h1:SqL K G1 p us)(r1:RepL K CT G1 xs us):DIt K CT G1 (Ite K p) (enumD 0 xs) where
 go:=fun G H i d s1 sH hd=>by
  rw[Qjm,Nat.zero_add]at hd
  cases e1':xs[i]? with
  | none=>rw[e1']at hd;cases hd
  | some x=>
   rw[e1']at hd
   cases hd
   obtain⟨u,hu,ru⟩:=r1.get e1'
   have q1:SqL K H p us:=sH.seq (s1.seq h1)
   refine⟨⟨us,u,q1,hu⟩,fun w H' ⟨t,x',n,e,e',k1⟩=>?_⟩
   have z1:=k1 us q1
   rw[hu]at z1;cases z1
   subst e e'
   have gn:G t=none:=sH.free n
   refine⟨upd G t (.tup [.int i,u]),QC gn,QC n,QjD sH,fun b g g'=>?_,t,[.int i,u],rfl,SqT.of QO,⟨.int i,_,rfl,rfl,u,_,rfl,Rep.mono (s1.trans (QC gn)) x u ru,rfl⟩⟩
   by_cases hb:b=t
   ·subst hb;exact n
   ·rw[Qm hb]at g';exact absurd g g'
 stop:=fun G H s1 sH=>by
  refine⟨us,sH.seq (s1.seq h1),?_⟩
  have l1:=r1.length
  rw[QrY]
  omega
theorem QCj{elts:List Expr}{k1:Nat}{tpos p pos:Pos}(hgl:Gl C.X "enumerate")(hm:C.X.mg "enumerate"=none)(ha:DE C a A)
 (hst:starEach [a] C.X.env=(false,eval a C.X.env)::starEach [] C.X.env:=by rfl):DI C (.Tuple elts k1 tpos) (.Call (.Name "enumerate" p) [a] [] pos) (itE A):=by
 obtain⟨t0,p0,q0⟩:=ha
 refine⟨_,QJd hgl hm (QaZ p0 QcO hst) (by rw[hst];rfl),fun G H σ ς R S k=>?_⟩
 unfold itE at k
 rw[Out.post_bind]at k
 refine q0 G H σ ς _ S (Out.post_mono k fun d k v H1 G1 S1 a1 b1 r=>?_)
 cases d with
 | lst xs=>
  obtain⟨p1,us,rfl,h1,r1⟩:=r
  exact⟨p1,rfl,⟨us,S1.sub.seq h1⟩,k _ H1 G1 S1 a1 b1 (QHH h1 r1)⟩
 | _=>exact k.elim
end
end DL
namespace L2
open PySem PySem.Spec PyProof.Rows
section
variable{X:Cx}
end
end L2
namespace DL
open PySem PySem.Spec PyProof.Rows L2
section
variable{C:Dc}{o e:Expr}{O E:SD->Out D}{apos cpos:Pos}
end
end DL
namespace L2
open PySem PySem.Spec PyProof.Rows
section
variable{X:Cx}{k:Nat}{f ea:Addr}{fd:FuncData}{ps:List Str}{sp:Sp}{dvs:List V}{ds:List Value}{x:Str}{p pos:Pos}{e:Expr}{es:List Expr}{t:TA}
end
end L2
namespace DL
open PySem PySem.Spec PyProof.Rows L2
section
variable{C:Dc}{ea:Addr}{x:Str}{k:Nat}{m:List D->Out D}{e:Expr}{es:List Expr}{A:SD->Out (List D)}{p pos:Pos}
end
end DL
namespace L2
open PySem PySem.Spec PyProof.Rows
section
variable{X:Cx}{tg:Expr}
end
end L2
namespace DL
open PySem PySem.Spec PyProof.Rows L2
section
variable{C:Dc}{a b c e:Expr}{es:List Expr}{A B E:SD->Out D}{AA:SD->Out (List D)}{tg:Expr}{p pos:Pos}
def dCatB:D->D->Out D
 | .lst xs,.lst ys=>if (fits (xs.length+ys.length)&&xs.all D.scal)=true then .ok (.lst (xs++ys)) else .stuck
 | _,_=>.stuck
theorem QIv(ha:DB C a A)(hb:DE C b B):DF C (.BinOp a .Add b pos) (e2 dCatB A B):=by
 obtain⟨ta,p1,q1⟩:=ha
 obtain⟨tb,p2,q2⟩:=hb
 refine⟨_,pe_op QBR p1 p2,fun G H σ ς Q S q=>?_⟩
 unfold e2 at q
 rw[Out.post_bind]at q
 refine q1 G H σ ς _ S (Out.post_mono q fun x k v1 H1 G1 S1 a1 b1 r1=>?_)
 rw[Out.post_bind]at k
 refine q2 G1 H1 σ ς _ S1 (Out.post_mono k fun y k2 v2 H2 G2 S2 a2 b2 r2=>?_)
 cases x with
 | lst xs=>
  cases y with
  | lst ys=>
   rcases QS (show(if (fits (xs.length+ys.length)&&xs.all D.scal)=true then Out.ok (D.lst (xs++ys)) else .stuck).post _ _ from k2) with⟨hc,k3⟩ | ⟨_,k3⟩
   ·rw[Bool.and_eq_true]at hc
    obtain⟨p,vs,rfl,h2,h3⟩:=r1
    obtain⟨p',vs',rfl,h2',h3'⟩:=r2
    exact⟨p,p',vs,vs',rfl,rfl,a2.seq h2,S2.sub.seq h2',by rw[← h3.length, ← h3'.length];exact of_decide_eq_true hc.1,
     KF.lst (KF.later (show KF C G H σ ς Q (.lst (xs++ys)) from k3) (a1.trans a2) (b1.trans b2)) S2 ((h3.flat hc.2).append h3')⟩
   ·exact k3.elim
  | _=>exact k2.elim
 | _=>cases y<;>exact k2.elim
def frz(j:Nat)(ς:SD):SD:=match (ς[j]?:Option (Option (SM×D))) with
 | some (some (SM.o,d))=>ς.set j (some (.k,d))
 | _=>ς
theorem StR.frz{G H:Hp}{σ:L2.St}{ς:SD}(S:StR C G H σ ς){j:Nat}{d:D}(z:ς[j]?=some (some (.o,d))):∃ G',Same G G'/\StR C G' H σ (ς.set j (some (.k,d))):=by
 obtain⟨p,e,hg,h0,ow⟩:=S.ow j d z
 obtain⟨o,ho⟩:=ow.there
 have hj:j<ς.length:=(List.getElem?_eq_some_iff.mp z).1
 have get:∀(i:Nat) x,(ς.set j (some (.k,d)))[i]?=some (some x)->(i=j/\x=(.k,d))∨(i≠j/\ς[i]?=some (some x)):=fun i x h=>by
  rw[List.getElem?_set]at h
  by_cases q:j=i
  ·rw[if_pos q,if_pos (by omega)]at h
   cases h
   exact .inl ⟨q.symm,rfl⟩
  ·rw[if_neg q]at h
   exact .inr ⟨fun w=>q w.symm,h⟩
 refine⟨upd G p o,QC hg,?_⟩
 have hn:∀(i:Nat) d',i≠j->ς[i]?=some (some (.o,d'))->σ[i]?≠some (some (.ref p)):=fun i d' hi q w=>S.inj i j d' d p hi q z w e
 exact {
  toGH:=GH.freezeR S.toGH ho hg h0
  len:=by rw[List.length_set];exact S.len
  fz:=fun i d' q=>by
   rcases get i _ q with⟨rfl,w⟩ | ⟨_,w⟩
   ·cases w
    exact⟨_,e,ow.known hg ho⟩
   ·obtain⟨v,a,b⟩:=S.fz i d' w
    exact⟨v,a,Rep.mono (QC hg) d' v b⟩
  ow:=fun i d' q=>by
   rcases get i _ q with⟨rfl,w⟩ | ⟨hi,w⟩
   ·cases w
   ·obtain⟨r,a,b,c,w'⟩:=S.ow i d' w
    refine⟨r,a,?_,c,w'.mono (QC hg) fun _ z=>z⟩
    rw[Qm (by rintro rfl;exact hn i d' hi w a)];exact b
  ln:=fun i d' q=>by
   rcases get i _ q with⟨rfl,w⟩ | ⟨_,w⟩
   ·cases w
   ·exact S.ln i d' w
  inj:=fun i k d1 d2 q hne h1 h2=>by
   rcases get i _ h1 with⟨rfl,w⟩ | ⟨_,w⟩
   ·cases w
   ·rcases get k _ h2 with⟨rfl,w2⟩ | ⟨_,w2⟩
    ·cases w2
    ·exact S.inj i k d1 d2 q hne w w2
  sf:=fun i d' q=>by
   rcases get i _ q with⟨rfl,w⟩ | ⟨_,w⟩
   ·cases w
   ·obtain⟨r,a,b,c,m,z',w'⟩:=S.sf i d' w
    refine⟨r,a,?_,c,m,z',w'.mono (QC hg) fun _ z=>z⟩
    rw[Qm (by rintro rfl;exact c h0)];exact b
  su:=fun i k d1 d2 q hne h1 h2=>by
   rcases get i _ h1 with⟨rfl,w⟩ | ⟨_,w⟩
   ·cases w
   ·rcases get k _ h2 with⟨rfl,w2⟩ | ⟨_,w2⟩
    ·cases w2
    ·exact S.su i k d1 d2 q hne w w2 }
theorem Qx3(j:Nat){st:Stmt}{T:SD->Out Fl}(h:DS C st T):DS C st (fun ς=>T (frz j ς)):=by
 obtain⟨t,p1,q⟩:=h
 refine⟨t,p1,fun G H σ ς W S k=>?_⟩
 have k:(T (frz j ς)).post (FlK C G W) C.XD:=k
 by_cases z:∃ d,ς[j]?=some (some (SM.o,d))
 ·obtain⟨d,z⟩:=z
  have e:frz j ς=ς.set j (some (.k,d)):=by unfold frz;rw[z]
  rw[e]at k
  obtain⟨G',sG,S'⟩:=S.frz z
  exact q G' H σ _ W S' (Out.post_mono k fun f kf=>FlK.later kf sG)
 ·have e:frz j ς=ς:=by
   unfold frz
   split
   ·rename_i d w;exact absurd ⟨d,w⟩ z
   ·rfl
  rw[e]at k
  exact q G H σ ς W S k
end
end DL
namespace LS
open PySem PySem.Spec PyProof.Rows
def met(f:Nat->Str):Nat->List Str
 | 0=>[]
 | i+1=>if f i∈met f i then met f i else met f i++[f i]
theorem met_le(f:Nat->Str):∀ i,(met f i).length<=i
 | 0=>Nat.le_refl _
 | i+1=>by
  have h:=met_le f i
  show(if _ then _ else _:List Str).length<=_
  split
  ·omega
  ·rw[List.length_append,List.length_singleton];omega
abbrev isIn(f:Nat->Str)(i:Nat):Str->Bool:=fun y=>decide (y∈met f i)
theorem QEP(f:Nat->Str)(i:Nat)(y:Str):(isIn f i y||decide (y=f i))=isIn f (i+1) y:=by
 show _=decide (y∈(if _ then _ else _:List Str))
 by_cases h:f i∈met f i
 ·rw[if_pos h]
  by_cases e:y=f i
  ·subst e;simp[isIn,h]
  ·simp[isIn,e]
 ·rw[if_neg h]
  simp[isIn,Bool.decide_or]
theorem QG5(f:Nat->Str)(i:Nat):(if isIn f i (f i)=true then(met f i).length else(met f i).length+1)=(met f (i+1)).length:=by
 show _=(if _ then _ else _:List Str).length
 by_cases h:f i∈met f i
 ·rw[if_pos h,if_pos (decide_eq_true h)]
 ·rw[if_neg h,if_neg (by simpa [isIn] using h),List.length_append];rfl
section
variable{pg:Program}{wd:World}
theorem QFb{hp:Heap}{p:Addr}{f g:Str->Bool}{m n:Nat}(h:hp.SetOf (strKind pg wd) p f m)(hf:f=g)(hn:m=n):hp.SetOf (strKind pg wd) p g n:=hn ▸ hf ▸ h
variable{ar:Around}{Res:Result->Shared->Prop}{it:Addr}{ff wt:List Addr}{Gn:Array GenState->Array GenState->Prop}{n:Nat}{Pv:Nat->Value->Prop}{Sv:Nat->Shared->Prop}
theorem fill(Wk:WalksS pg wd ar.in1 it ff wt Gn n Pv Sv){p:Addr}(off:p∉ff){f:Nat->Str}(txt:∀ i v,Pv i v->∃ t,v=.str (f i) t)(few:n+1<scanBound):
 ∀(m i:Nat)(st:Shared),i+m=n->Sv i st->st.heap.SetOf (strKind pg wd) p (isIn f i) (met f i).length->
  (∀ st',Moved (p::wt) Gn st st'->st'.heap.SetOf (strKind pg wd) p (isIn f n) (met f n).length->Res (.ok (.ret .none)) st')->
  codeAny (model pg wd) ar (.builtin "set.update.loop" ⟨[.ref p,.ref it],[]⟩) Res st:=by
 have off':p∉wt:=fun z=>off (Wk.sub _ z)
 have more:∀ b,b∈wt->b∈p::wt:=fun b hb=>List.mem_cons_of_mem p hb
 have stays:∀{s s':Shared}{i:Nat},Moved wt Gn s s'->s.heap.SetOf (strKind pg wd) p (isIn f i) (met f i).length->s'.heap.SetOf (strKind pg wd) p (isIn f i) (met f i).length:=
  fun mv ⟨o,es,ep,tb,ho,rest⟩=>⟨o,es,ep,tb,mv.heap p o off' ho,rest⟩
 intro m
 induction m with
 | zero=>
  intro i st him hs hset fin
  obtain rfl:i=n:=by omega
  refine codeAny_builtin PyProof.Rows.F.entry_set_update_loop ?_
  rw[Around.under_plainId PyProof.Rows.F.plain_set_update_loop _]
  exact wpAny_bind (m:=pyNext (.ref it)) (Wk.done st _ _ hs fun st' mv=>wpAny_pure (fin st' (mv.mono more) (stays mv hset)))
 | succ m next=>
  intro i st him hs hset fin
  refine codeAny_builtin PyProof.Rows.F.entry_set_update_loop ?_
  rw[Around.under_plainId PyProof.Rows.F.plain_set_update_loop _]
  refine wpAny_bind (m:=pyNext (.ref it)) (Wk.item i st _ _ (by omega) hs fun v st' hv hs' mv=>?_)
  obtain⟨t,rfl⟩:=txt i v hv
  have key:=strKind_is pg wd (f i) t
  have hset1:=stays mv hset
  refine wpAny_bind (m:=holding [.str (f i) t] (setAdd p (.str (f i) t))) (wpAny_holding ?_)
  unfold setAdd
  refine wpAny_holding (wpAny_bind ((strKind pg wd).pyHash (k:=f i) key ?_))
  refine wpAny_setAddHashed_of (knd:=strKind pg wd) key rfl hset1 (by have:=met_le f i;omega) fun hp' same hset'=>?_
  have now:=QFb hset' (g:=isIn f (i+1)) (funext fun y=>QEP f i y) (QG5 f i)
  have tt:st'.toks<=st'.toks+1:=Nat.le_succ _
  refine wpAny_pure ⟨plainId_quiet PyProof.Rows.F.plain_set_update_loop _,next (i+1) _ (by omega) (Wk.frame _ st' _ _ hs' tt fun b hb o e=>?_) now fun st2 mv2 hset2=>fin st2 (Moved.trans Wk.gtrans ((mv.mono more).then_heap tt fun b o hb e=>?_) mv2) hset2⟩
  ·rw[same.2 b fun z=>off (z ▸ hb)];exact e
  ·rw[same.2 b fun z=>hb (z ▸ List.mem_cons_self)];exact e
end
abbrev QcC(led:Bool):Obj:={ cls:=.type "set",dict:=none,data:=.set #[] 0 (.fresh 0 0 led) }
section
variable{pg:Program}{wd:World}{ar:Around}{Ex:Value->Shared->Prop}{st:Shared}
set_option maxHeartbeats 4000000 in
theorem of_list{l:Addr}{vs:Array Value}{f:Nat->Str}{Q:Value->Shared->Prop}(nh:ar.handled=none)(isl:st.heap.IsList l vs)(txt:∀ i v,vs[i]?=some v->∃ t,v=Value.str (f i) t)(few:vs.size+1<scanBound)
 (goal:∀(hp:Heap)(tk:Nat),hp.SetOf (strKind pg wd) st.heap.objs.size (isIn f vs.size) (met f vs.size).length->(∀ b o,b<st.heap.objs.size->st.heap.get? b=some o->hp.get? b=some o)->Q (.ref st.heap.objs.size) { st with heap:=hp,toks:=tk }):
 wpAny (model pg wd) ar (call (.type "set") [.ref l]) Q Ex st:=by
 have made:=PySem.F.called_set.made
 have sub:=PySem.F.called_set.sub
 have nt:=PySem.F.called_set.notType
 have cc:=PySem.F.called_set.canCreate
 have tc:=PySem.F.typeCall_set_1 (.ref l)
 obtain⟨c1,c2,mro⟩:=PySem.F.called_set.mro
 refine wpAny_call (codeAny_of_tree ?_)
 show wpAny (model pg wd) _ (callAny (.type "set") ⟨[.ref l],[]⟩) _ _ st
 refine wpAny_pure ⟨Code.quiet_builtin _ (dk),codeAny_builtin F.entry_type_call ?_⟩
 rw[Around.under_plain (weight_type_call_type "set" [.ref l] []) rfl]
 repeat (any_goals (first | assumption | wp_step))
 let mid:Shared->Prop:=fun s2=>∃ hp tk,s2={ st with heap:=hp,toks:=tk }/\hp.SetOf (strKind pg wd) st.heap.objs.size (isIn f vs.size) (met f vs.size).length/\∀ b o,b<st.heap.objs.size->st.heap.get? b=some o->hp.get? b=some o
 refine codeAny_mono (code_set_new_1 (.ref l) (E:=Ex) (Q₁:=fun v s1=>∃ led,v=.ref st.heap.objs.size/\s1={ st with heap:=st.heap.push (QcC led) }) fun led=>⟨led,rfl,rfl⟩) fun r1 s1 h1=>?_
 cases r1 with
 | error _=>exact h1
 | ok fl1=>
  cases fl1 with
  | ret v1=>
   obtain⟨led,rfl,rfl⟩:=h1
   have at1:(st.heap.push (QcC led)).get? st.heap.objs.size=some (QcC led):=Heap.get?_push_size _ rfl
   have ty1:Shared.TypeIs { st with heap:=st.heap.push (QcC led) } (.ref st.heap.objs.size) "set":=⟨_,at1,rfl⟩
   have lk:=PySem.F.called_set.init.lookup
   have bd:=PySem.F.called_set.init.bind (.ref st.heap.objs.size)
   repeat (any_goals (first | assumption | wp_step))
   refine codeAny_mono (codeAny_call_builtin (R:=wants (fun v s2=>v=.none/\mid s2) Ex) PySem.F.called_set.init.plain F.entry_set_init (check_set_init_1 ty1 ?_)) fun r2 s2 h2=>?_
   ·obtain⟨⟨oc,od,dt,os⟩,hol,e1,nl,e2⟩:=isl
    obtain rfl:oc=.type "list":=e1
    obtain rfl:dt=.seq vs nl:=e2
    have hol1:(st.heap.push (QcC led)).get? l=some ⟨.type "list",od,.seq vs nl,os⟩:=Heap.get?_push_of_some _ hol
    have isl1:(st.heap.push (QcC led)).IsList l vs:=⟨_,hol1,rfl,nl,rfl⟩
    have n1:=PySem.F.sub_list_set
    have n2:=PySem.F.sub_list_frozenset
    have n3:(Value.type "list" == Value.type "dict")=false:=by decide
    have lt : @LT.lt Nat _ l st.heap.objs.size:=Heap.lt_size hol
    have sz:=Heap.size_push st.heap (QcC led)
    unfold Builtin.«set.__init__» noKeywords Builtin.Frozenset.updateFrom
    generalize keep:pyIter=ITER
    wp_walk
    subst keep
    refine wpAny_pyIter_list isl1 (wpAny_bind (wpAny_runValue ?_))
    have off:st.heap.objs.size∉[(st.heap.push (QcC led)).objs.size,l]:=by
     rw[sz]
     intro z
     rcases List.mem_cons.mp z with z | z
     ·exact Nat.ne_of_lt (Nat.lt_succ_self _) z
     ·exact Nat.ne_of_gt lt (List.mem_singleton.mp z)
    have off2:l≠(st.heap.push (QcC led)).objs.size:=by rw[sz];exact Nat.ne_of_lt (Nat.lt_succ_of_lt lt)
    refine fill ((Walks.list (by simp[nh]) _ l off2 vs).toS) off txt few vs.size 0 _ (Nat.zero_add _) ⟨⟨_,Heap.get?_push_size _ rfl,rfl,rfl⟩,isl1.push _⟩ ?_ fun s3 mv hs3=>?_
    ·exact QFb ((setObjOf_fresh (knd:=strKind pg wd) led).setOf (Heap.get?_push_of_some _ at1) (by unfold scanBound;omega)) (funext fun y=>by simp[isIn,met]) rfl
    ·obtain⟨hp3,g3,d3,tk3,os3⟩:=s3
     obtain rfl:g3=st.gens:=mv.gens
     obtain rfl:d3=st.drawn:=mv.drawn
     obtain rfl:os3=st.os:=mv.os
     refine wpAny_pure (wpAny_pure ⟨rfl,hp3,tk3,rfl,hs3,fun b o hb e=>?_⟩)
     refine mv.heap b o (fun z=>?_) (Heap.get?_push_of_some _ (Heap.get?_push_of_some _ e))
     rw[sz]at z
     rcases List.mem_cons.mp z with z | z
     ·exact Nat.ne_of_lt hb z
     ·rcases List.mem_cons.mp z with z | z
      ·exact Nat.ne_of_lt (Nat.lt_succ_of_lt hb) z
      ·exact absurd z List.not_mem_nil
   ·cases r2 with
    | error _=>exact h2
    | ok fl2=>
     cases fl2 with
     | ret v2=>
      obtain⟨rfl,hp,tk,rfl,hs2,kp⟩:=h2
      repeat (any_goals (first | assumption | wp_step))
      exact goal hp tk hs2 kp
     | _=>exact h2.elim
  | _=>exact h1.elim
end
end LS
namespace DL
open PySem PySem.Spec PyProof.Rows L2
def dkey:D->Option Key
 | .int i=>some (.inl i)
 | .str x=>some (.inr x)
 | _=>none
def valD(kds:List (Key×D))(k:Key):Option D:=(kds.find? fun kv=>decide (kv.1=k)).map (·.2)
def putKD(kds:List (Key×D))(k:Key)(d:D):List (Key×D):=
 if (kds.any fun kv=>decide (kv.1=k))=true then kds.map (fun kv=>if kv.1=k then(kv.1,d) else kv) else kds++[(k,d)]
section
variable{K:W.Frag}{CT:CTab}{H:Hp}
theorem Qme{d:D}{v:V}{k:Key}(h:dkey d=some k)(r:Rep K CT H d v):v=kV k:=by
 cases d with
 | int i=>cases h;exact r
 | str x=>cases h;exact r
 | _=>cases h
theorem RepK.len:∀{ds:List (Key×D)}{vs:List (Key×V)},RepK K CT H ds vs->ds.length=vs.length
 | [],_,h=>by cases h;rfl
 | (k,d)::ds,_,⟨v,r,h1,h2,h3⟩=>by rw[h1,List.length_cons,List.length_cons,RepK.len h3]
theorem RepK.val(k:Key):∀{ds:List (Key×D)}{vs:List (Key×V)},RepK K CT H ds vs->(valD ds k=none/\valV vs k=none)∨∃ d v,valD ds k=some d/\valV vs k=some v/\Rep K CT H d v
 | [],_,h=>by cases h;exact .inl ⟨rfl,rfl⟩
 | (k',d)::ds,_,⟨v,r,h1,h2,h3⟩=>by
  subst h1
  by_cases e:k'=k
  ·subst e
   exact .inr ⟨d,v,by simp[valD],by simp[valV],h2⟩
  ·have a:valD ((k',d)::ds) k=valD ds k:=by simp[valD,List.find?_cons,e]
   have b:valV ((k',v)::r) k=valV r k:=by simp[valV,List.find?_cons,e]
   rw[a,b];exact RepK.val k h3
theorem RepK.any(k:Key):∀{ds:List (Key×D)}{vs:List (Key×V)},RepK K CT H ds vs->(ds.any fun kv=>decide (kv.1=k))=vs.any fun kv=>decide (kv.1=k)
 | [],_,h=>by cases h;rfl
 | (k',d)::ds,_,⟨v,r,h1,h2,h3⟩=>by
  subst h1
  rw[List.any_cons,List.any_cons,RepK.any k h3]
theorem RepK.repl(k:Key){d:D}{v:V}(hd:Rep K CT H d v):∀{ds:List (Key×D)}{vs:List (Key×V)},RepK K CT H ds vs->RepK K CT H (ds.map fun kv=>if kv.1=k then(kv.1,d) else kv) (vs.map fun kv=>if kv.1=k then(kv.1,v) else kv)
 | [],_,h=>by cases h;rfl
 | (k',d')::ds,_,⟨v',r,h1,h2,h3⟩=>by
  subst h1
  rw[List.map_cons,List.map_cons]
  by_cases e:k'=k
  ·rw[if_pos (show(k',d').1=k from e),if_pos (show(k',v').1=k from e)]
   exact⟨v,_,rfl,hd,RepK.repl k hd h3⟩
  ·rw[if_neg (show ¬ (k',d').1=k from e),if_neg (show ¬ (k',v').1=k from e)]
   exact⟨v',_,rfl,h2,RepK.repl k hd h3⟩
theorem RepK.snoc(k:Key){d:D}{v:V}(hd:Rep K CT H d v):∀{ds:List (Key×D)}{vs:List (Key×V)},RepK K CT H ds vs->RepK K CT H (ds++[(k,d)]) (vs++[(k,v)])
 | [],_,h=>by cases h;exact⟨v,[],rfl,hd,rfl⟩
 | (k',d')::ds,_,⟨v',r,h1,h2,h3⟩=>by
  subst h1
  exact⟨v',_,rfl,h2,RepK.snoc k hd h3⟩
theorem RepK.put(k:Key){d:D}{v:V}(hd:Rep K CT H d v){ds:List (Key×D)}{vs:List (Key×V)}(h:RepK K CT H ds vs):RepK K CT H (putKD ds k d) (putK vs k v):=by
 unfold putKD putK
 rw[RepK.any k h]
 split
 ·exact RepK.repl k hd h
 ·exact RepK.snoc k hd h
end
def eDix(A B:SD->Out D):SD->Out D:=fun ς=>A ς>>=fun x=>match x with
 | .dic kds=>B ς>>=fun y=>match dkey y with | some k=>optO (valD kds k) | none=>.stuck
 | _=>.stuck
def eDget(A B:SD->Out D):SD->Out D:=fun ς=>A ς>>=fun x=>match x with
 | .dic kds=>B ς>>=fun y=>match dkey y with | some k=>.ok ((valD kds k).getD .non) | none=>.stuck
 | _=>.stuck
def sPutD(i:Nat)(I E:SD->Out D):SD->Out Fl:=fun ς=>E ς>>=fun d=>match ς[i]? with
 | some (some (.o,.dic kds))=>I ς>>=fun y=>match dkey y with
  | some k=>if decide (kds.length<sizeLine)=true then .ok (.nx (ς.set i (some (.o,.dic (putKD kds k d))))) else .stuck
  | none=>.stuck
 | _=>.stuck
section
variable{C:Dc}{a b c:Expr}{A B Z:SD->Out D}{pos apos:Pos}
theorem QJT(hu:C.X.A.units+64<cLine)(ha:DE C a A)(hb:DB C b B)(hs:NoSl b:=by intro _ _;rfl):DE C (.Subscript a b pos) (eDix A B):=by
 obtain⟨ta,p1,q1⟩:=ha
 obtain⟨tb,p2,q2⟩:=hb
 refine⟨_,QIT (by omega) p1 p2 hs,fun G H σ ς Q S q=>?_⟩
 unfold eDix at q
 rw[Out.post_bind]at q
 refine q1 G H σ ς _ S (Out.post_mono q fun x k v1 H1 G1 S1 a1 b1 r1=>?_)
 cases x with
 | dic kds=>
  have k:(B ς>>=fun y=>match dkey y with | some k=>optO (valD kds k) | none=>.stuck).post (KD C G H σ ς Q) C.XD:=k
  rw[Out.post_bind]at k
  refine q2 G1 H1 σ ς _ S1 (Out.post_mono k fun y k2 v2 H2 G2 S2 a2 b2 r2=>?_)
  cases e:dkey y with
  | none=>rw[e]at k2;exact k2.elim
  | some kk=>
   rw[e]at k2
   obtain⟨d,ed,kd⟩:=Qe0 k2
   obtain⟨p,kvs,rfl,h2,h3⟩:=Rep.mono b2 _ v1 r1
   rcases RepK.val kk h3 with⟨n1,n2⟩ | ⟨d',v,n1,n2,r⟩
   ·rw[n1]at ed;cases ed
   ·rw[n1]at ed;cases ed
    exact⟨p,v,rfl,.inl ⟨kvs,kk,Same.rd S2.sub h2,Qme e r2,n2.symm⟩,KD.now (KD.later kd (a1.trans a2) (b1.trans b2)) S2 r⟩
 | _=>exact k.elim
theorem QJs{K:W.Frag}{CT:CTab}{H:Hp}:Rep K CT H .non .non:=rfl
theorem QI7(hu:C.X.A.units+64<cLine)(ha:DE C a A)(hb:DB C b B)
 (hbase:attributeBase a "get" C.X.env (eval a C.X.env)=eval a C.X.env:=by rfl)
 (hfew:((backTo pos (starEach [b] C.X.env)).all (fun x => !x.1)&&(backToKw pos (keywordEach [] C.X.env)).all (fun x=>x.1.isSome)
  && decide (([b]:List Expr).length+([]:List Keyword).length+(if ([]:List Keyword).isEmpty then 0 else 1)<30))=true:=by rfl)
 (hline:(apos.endLine == pos.line)=true:=by rfl) (htr:backTo pos (starEach [b] C.X.env)=[(false,eval b C.X.env)]:=by rfl):DE C (.Call (.Attribute a "get" apos) [b] [] pos) (eDget A B):=by
 obtain⟨ta,p1,q1⟩:=ha
 obtain⟨tb,p2,q2⟩:=hb
 refine⟨_,QHA (by omega) p1 p2 ⟨hbase,hfew,hline,htr⟩,fun G H σ ς Q S q=>?_⟩
 unfold eDget at q
 rw[Out.post_bind]at q
 refine q1 G H σ ς _ S (Out.post_mono q fun x k v1 H1 G1 S1 a1 b1 r1=>?_)
 cases x with
 | dic kds=>
  have k:(B ς>>=fun y=>match dkey y with | some k=>Out.ok ((valD kds k).getD .non) | none=>.stuck).post (KD C G H σ ς Q) C.XD:=k
  rw[Out.post_bind]at k
  obtain⟨p,kvs,rfl,h2,h3⟩:=r1
  refine⟨p,rfl,.inl ⟨kvs,Same.rd S1.sub h2⟩,q2 G1 H1 σ ς _ S1 (Out.post_mono k fun y k2 v2 H2 G2 S2 a2 b2 r2=>?_)⟩
  cases e:dkey y with
  | none=>rw[e]at k2;exact k2.elim
  | some kk=>
   rw[e]at k2
   have kd:KD C G H σ ς Q ((valD kds kk).getD .non):=k2
   refine⟨valV kvs kk,.inl ⟨kvs,kk,Same.rd (S1.sub.trans a2) h2,Qme e r2,rfl⟩,?_⟩
   rcases RepK.val kk (RepK.mono b2 kds kvs h3) with⟨n1,n2⟩ | ⟨d',v,n1,n2,r⟩
   ·rw[n1]at kd;rw[n2];exact KD.now (KD.later kd (a1.trans a2) (b1.trans b2)) S2 QJs
   ·rw[n1]at kd;rw[n2];exact KD.now (KD.later kd (a1.trans a2) (b1.trans b2)) S2 r
 | _=>exact k.elim
theorem StR.writeD{G H:Hp}{σ:St}{ς:SD}(S:StR C G H σ ς){i:Nat}{p:Addr}{xs ys:List (Key×D)}{vs ws:List (Key×V)}(hi:ς[i]?=some (some (.o,.dic xs)))(hp:σ[i]?=some (some (.ref p)))(hH:H p=some (.dK vs))(r:RepK C.X.K C.CT G ys ws):
 StR C G (upd H p (.dK ws)) σ (ς.set i (some (.o,.dic ys))):=by
 obtain⟨p',e1,hg,h0,ow⟩:=S.ow i _ hi
 rw[hp]at e1;cases e1
 have hil:i<ς.length:=(List.getElem?_eq_some_iff.mp hi).1
 have ne:∀ b o,G b=some o->b≠p:=fun b o e z=>by subst z;rw[hg]at e;cases e
 have S':StR C G (upd H p (.dK ws)) (σ.set i (some (.ref p))) (ς.set i (some (.o,.dic ys))):={
  sub:=fun b o e=>by rw[Qm (ne b o e)];exact S.sub b o e
  g0:=S.g0
  new:=S.new
  fr:=fun b o e m=>by
   rw[Qm (by rintro rfl;rw[h0]at e;cases e)];exact S.fr b o e m
  dom:=fun b e=>by
   by_cases hb:b=p
   ·subst hb;exact h0
   ·rw[Qm hb]at e;exact S.dom b e
  bs:=fun b o e=>by
   rw[Qm (by rintro rfl;rw[S.bh _ h0]at e;cases e)];exact S.bs b o e
  bh:=S.bh
  len:=by rw[List.length_set,List.length_set];exact S.len
  fz:=fun j d h=>by
   rcases QI h with⟨rfl,h2,l⟩ | ⟨hne,h2⟩
   ·cases h2
   ·rw[Qt hne];exact S.fz j d h2
  ow:=fun j d h=>by
   rcases QI h with⟨rfl,h2,l⟩ | ⟨hne,h2⟩
   ·cases h2
    exact⟨p,QeX (by rw[S.len];exact l),hg,h0,⟨ws,QO,r⟩⟩
   ·rw[Qt hne]
    obtain⟨q,a,b,c,w⟩:=S.ow j d h2
    have qp:q≠p:=by
     rintro rfl
     exact S.inj i j _ _ q hne hi h2 hp a
    exact⟨q,a,b,c,w.mono (Same.refl G) fun o z=>by rw[Qm qp];exact z⟩
  ln:=fun j d h=>by
   rcases QI h with⟨rfl,h2,l⟩ | ⟨hne,h2⟩
   ·cases h2
   ·rw[Qt hne];exact S.ln j d h2
  inj:=fun j k d1 d2 q hjk h1 h2 h3=>by
   have get:∀(j:Nat) d,(ς.set i (some (.o,D.dic ys)))[j]?=some (some (.o,d))->∃ d',ς[j]?=some (some (.o,d')):=fun j d h=>by
    rcases QI h with⟨rfl,h2,l⟩ | ⟨hne,h2⟩
    ·exact⟨_,hi⟩
    ·exact⟨_,h2⟩
   obtain⟨d1',g1⟩:=get j d1 h1
   obtain⟨d2',g2⟩:=get k d2 h2
   rw[QeT hp]at h3 ⊢
   exact S.inj j k d1' d2' q hjk g1 g2 h3
  sf:=fun j d h=>by
   rcases QI h with⟨rfl,h2,l⟩ | ⟨hne,h2⟩
   ·cases h2
   ·rw[Qt hne]
    obtain⟨q,a,b,c,m,z,w⟩:=S.sf j d h2
    have qp:q≠p:=by
     rintro rfl
     exact c h0
    exact⟨q,a,b,c,m,z,w.mono (Same.refl G) fun o z=>by rw[Qm qp];exact z⟩
  su:=fun j k d1 d2 q hjk h1 h2 h3=>by
   rcases QI h1 with⟨rfl,q1,l⟩ | ⟨n1,q1⟩
   ·cases q1
   ·rcases QI h2 with⟨rfl,q2,l⟩ | ⟨n2,q2⟩
    ·cases q2
    ·rw[Qt n1]at h3
     rw[Qt n2];exact S.su j k d1 d2 q hjk q1 q2 h3 }
 rw[QeT hp]at S'
 exact S'
variable{e:Expr}{E:SD->Out D}{p1 p2:Pos}{x:Str}
theorem QB7(hu:C.X.A.units+64<cLine)(i:Nat)(hi:DB C a A)(he:DE C e E)(hN:C.X.N[i]?=some x:=by rfl)(hv:Vis C.X.env.scope x:=by first | exact Or.inl rfl | exact Or.inr (oi rfl) | exact Or.inr (Or.inr rfl))
 (hd:(x == ("__debug__":Str))=false:=by decide) (hcd:(x == ("__classdict__":Str))=false:=by decide)
 (hs:swapsWith e (some (.Subscript (.Name x p1) a p2)) pos.line C.X.env=pure false:=by rfl):DS C (.Assign [.Subscript (.Name x p1) a p2] e pos) (sPutD i A E):=by
 obtain⟨t,p,q⟩:=he
 obtain⟨t2,p2',q2⟩:=hi
 refine⟨_,QIn (by omega) (Qfn (i:=i) hN hv hd hcd) p2' p hs,fun G H σ ς W S k=>?_⟩
 unfold sPutD at k
 rw[Out.post_bind]at k
 refine q G H σ ς _ S (Out.post_mono k fun d k v H1 G1 S1 a1 b1 r1=>?_)
 split at k
 ·rename_i kds z
  obtain⟨pp,e1,hg,h0,ow⟩:=S1.ow i _ z
  rw[Out.post_bind]at k
  refine⟨_,e1,q2 G1 H1 σ ς _ S1 (Out.post_mono k fun y k2 w H2 G2 S2 a2 b2 r2=>?_)⟩
  cases ey:dkey y with
  | none=>rw[ey]at k2;exact k2.elim
  | some kk=>
   rw[ey]at k2
   obtain⟨pp',e1',hg',h0',kvs,hv1,hv2⟩:=S2.ow i _ z
   rw[e1]at e1';cases e1'
   rcases QS k2 with⟨hc,k3⟩ | ⟨_,k3⟩
   ·refine⟨pp,_,rfl,.inl ⟨kvs,kk,hv1,Qme ey r2,by rw[← hv2.len];exact of_decide_eq_true hc,rfl⟩,?_⟩
    exact k3 σ _ G2 (S2.writeD z e1 hv1 (RepK.put kk (Rep.mono b2 d v r1) hv2)) (b1.trans b2)
   ·exact k3.elim
 ·exact k.elim
end
end DL
namespace DL
open PySem PySem.Spec PyProof.Rows L2
def QcP(xs:List Str):Nat:=(LS.met (fun i=>xs.getD i "") xs.length).length
def QIG(K:W.Frag)(te:TA):TE:=fun σ H Q=>te σ H fun vs H1=>∃ p xs,vs=[V.ref p]/\SqL K H1 p (xs.map V.str)/\xs.length<4000/\Q (.int (QcP xs)) H1
section
variable{X:Cx}{e:Expr}{te:TA}{p1 p2 p3 pos:Pos}
theorem QwP:∀{xs:List Str}{us:List Value},Vals (xs.map V.str) us->∀(i:Nat) v,us[i]?=some v->∃ t,v=.str (xs.getD i "") t
 | [],_,h,i,v,hv=>by cases h;simp at hv
 | x::xs,_,h,i,v,hv=>by
  cases h with
  | cons hx hr=>
   cases i with
   | zero=>
    obtain⟨t,ht⟩:=hx
    refine⟨t,?_⟩
    simp at hv
    rw[← hv,ht];rfl
   | succ i=>
    have:=QwP hr i v (by simpa using hv)
    simpa using this
theorem QGt(hh:X.A.handled=none)(gl:Gl X "len")(ml:X.mg "len"=none)(gs:Gl X "set")(ms:X.mg "set"=none)(he:PA X [e] te)
 (h1:starEach [e] X.env=(false,eval e X.env)::starEach [] X.env:=by rfl)
 (h2:starEach [.Call (.Name "set" p2) [e] [] p3] X.env=(false,eval (.Call (.Name "set" p2) [e] [] p3) X.env)::starEach [] X.env:=by rfl)
 (h3:backTo pos (starEach [.Call (.Name "set" p2) [e] [] p3] X.env)=[(false,eval (.Call (.Name "set" p2) [e] [] p3) X.env)]:=by rfl):
 PE X (.Call (.Name "len" p1) [.Call (.Name "set" p2) [e] [] p3] [] pos) (QIG X.K te):=by
 intro pins s σ H Q I h
 have inner:wpAny (model X.prog X.w) X.A (eval (.Call (.Name "set" p2) [e] [] p3) X.env) (fun u s'=>∃ D H1 xs,u=.ref D/\Inv X pins σ H1 s'/\s'.heap.SetOf (strKind X.prog X.w) D (LS.isIn (fun i=>xs.getD i "") xs.length) (QcP xs)/\QcP xs<4000/\Q (.int (QcP xs)) H1) X.xe s:=by
  refine wpAny_Call_Name_kw (Qfm I gs ms PyProof.Rows.Boot.«set» ?_ (by decide) (by decide))
  refine PyProof.Rows.callWith_type1 (thn (he p3 pins s σ H _ I h) fun us s1 ⟨vs,H1,I1,r1,p,xs,ev,sq,few,q⟩=>?_) h1 rfl
  ·subst ev
   obtain⟨u,rfl,rx⟩:=vals1 r1
   cases rx
   obtain⟨its,rv,pl,hz⟩:=I1.list sq
   have hl:=rv.length
   rw[List.length_map]at hl
   have le:=LS.met_le (fun i=>xs.getD i "") xs.length
   refine LS.of_list hh pl.isList (f:=fun i=>xs.getD i "") (fun i v hv=>QwP rv i v (by simpa using hv)) (by rw[List.size_toArray, ← hl];unfold scanBound;omega) fun hp tk hs kp=>?_
   have sz:its.toArray.size=xs.length:=by rw[List.size_toArray];omega
   rw[sz]at hs
   exact⟨_,H1,xs,rfl,I1.kept fun b o eb=>kp b o (Heap.lt_size eb) eb,hs,by unfold QcP;omega,q⟩
 refine wpAny_Call_Name_kw (Qfm I gl ml PySem.boot_len ?_ (by decide) (by decide))
 refine PyProof.Rows.callWith_builtin1 ?_ h2 rfl
 rw[h3]
 refine Calls.spliced_cons (thn inner fun u s1 ⟨D,H1,xs,eu,I1,hs,few,q⟩=>Calls.spliced_nil ?_)
 subst eu
 obtain⟨o,es,ep,t,ho,hex,hd,hel,hmem,hb,hf,hn⟩:=hs
 refine call_len_set ho hex hd hf (by rw[hn];omega) ?_
 rw[hn]
 exact⟨.int (QcP xs),H1,(I1.tok _).tok _,⟨_,rfl⟩,q⟩
end
def strsD:List D->Option (List Str)
 | []=>some []
 | .str x::ds=>(strsD ds).map (x :: ·)
 | _::_=>none
theorem Qvh{K:W.Frag}{CT:CTab}{H:Hp}:∀{ds:List D}{vs:List V}{xs:List Str},strsD ds=some xs->RepL K CT H ds vs->vs=xs.map V.str
 | [],_,_,h,r=>by cases h;cases r;rfl
 | d::ds,_,xs,h,⟨v,r,h1,h2,h3⟩=>by
  cases d with
  | str x=>
   obtain⟨ys,hy,rfl⟩:=Option.map_eq_some_iff.mp (show(strsD ds).map (x :: ·)=some xs from h)
   rw[h1,Qvh hy h3,show v=V.str x from h2];rfl
  | _=>cases h
def Qp9:D->Out D
 | .lst ds=>match strsD ds with
  | some xs=>if decide (xs.length<4000)=true then .ok (.int (QcP xs)) else .stuck
  | none=>.stuck
 | _=>.stuck
section
variable{C:Dc}{a:Expr}{A:SD->Out D}{p1 p2 p3 pos:Pos}
theorem QGs(hh:C.X.A.handled=none)(gl:Gl C.X "len")(ml:C.X.mg "len"=none)(gs:Gl C.X "set")(ms:C.X.mg "set"=none)(ha:DB C a A)
 (h1:starEach [a] C.X.env=(false,eval a C.X.env)::starEach [] C.X.env:=by rfl)
 (h2:starEach [.Call (.Name "set" p2) [a] [] p3] C.X.env=(false,eval (.Call (.Name "set" p2) [a] [] p3) C.X.env)::starEach [] C.X.env:=by rfl)
 (h3:backTo pos (starEach [.Call (.Name "set" p2) [a] [] p3] C.X.env)=[(false,eval (.Call (.Name "set" p2) [a] [] p3) C.X.env)]:=by rfl):
 DE C (.Call (.Name "len" p1) [.Call (.Name "set" p2) [a] [] p3] [] pos) (e1 Qp9 A):=by
 obtain⟨ta,q1,q2⟩:=ha
 refine⟨_,QGt hh gl ml gs ms (QaZ q1 QcO h1) h1 h2 h3,fun G H σ ς Q S q=>?_⟩
 unfold e1 at q
 rw[Out.post_bind]at q
 refine q2 G H σ ς _ S (Out.post_mono q fun x k v1 H1 G1 S1 a1 b1 r1=>?_)
 cases x with
 | lst ds=>
  obtain⟨p,vs,rfl,sq,r⟩:=r1
  have k:(match strsD ds with | some xs=>if decide (xs.length<4000)=true then Out.ok (D.int (QcP xs)) else .stuck | none=>.stuck).post (KD C G H σ ς Q) C.XD:=k
  cases es:strsD ds with
  | none=>rw[es]at k;exact k.elim
  | some xs=>
   rw[es]at k
   have ev:=Qvh es r
   subst ev
   rcases QS k with⟨hc,kd⟩ | ⟨_,kd⟩
   ·exact⟨p,xs,rfl,sq,of_decide_eq_true hc,KD.now (KD.later (show KD C G H σ ς Q (.int (QcP xs)) from kd) a1 b1) S1 rfl⟩
   ·exact kd.elim
 | _=>exact k.elim
end
end DL
namespace DL
open PySem PySem.Spec PyProof.Rows L2
def tVs(vs:List V):TA:=fun _ H Q=>Q vs H
def anyT:List (List (Str×Bool))->Str->Option Bool
 | [],_=>some false
 | t::ts,c=>match t.lookup c with
  | some true=>some true
  | some false=>anyT ts c
  | none=>none
def KitsT(K:W.Frag)(CT:CTab):List Value->List (List (Str×Bool))->Prop
 | [],[]=>True
 | u::us,t::ts=>KitI K CT u t/\KitsT K CT us ts
 | _,_=>False
theorem QvW{K:W.Frag}{CT:CTab}{c:Str}{A:Addr}(hA:CT c=some A):∀{us:List Value}{ts:List (List (Str×Bool))}{b:Bool},KitsT K CT us ts->anyT ts c=some b->W.kitAny K (.ref A) us=some b
 | [],[],b,_,h=>h
 | u::us,t::ts,b,⟨h1,h2⟩,h=>by
  unfold anyT at h
  unfold W.kitAny
  cases e:t.lookup c with
  | none=>rw[e]at h;cases h
  | some z=>
   rw[(h1 c z e A hA).2]
   rw[e]at h
   cases z with
   | true=>exact h
   | false=>exact QvW hA h2 h
theorem QHk{K:W.Frag}{CT:CTab}{c:Str}{A:Addr}(hA:CT c=some A){u:Value}{us:List Value}{t:List (Str×Bool)}{ts:List (List (Str×Bool))}{b:Bool}(h:KitsT K CT (u::us) (t::ts))(e:anyT (t::ts) c=some b):ClsD K A:=by
 unfold anyT at e
 cases q:t.lookup c with
 | none=>rw[q]at e;cases e
 | some z=>exact(h.1 c z q A hA).1
def isaTs(ts:List (List (Str×Bool))):D->Out Bool
 | .ins c _=>match anyT ts c with | some b=>.ok b | none=>.stuck
 | _=>.stuck
section
variable{C:Dc}{e:Expr}{E:SD->Out D}{p pos tp1:Pos}{cs:List Expr}
theorem QIX{X:Cx}:PA X [] (tVs []):=QcO
theorem QiM{X:Cx}{e:Expr}{es:List Expr}{v:V}{vs:List V}(h:PE X e (tC v))(r:PA X es (tVs vs))(he:starEach (e::es) X.env=(false,eval e X.env)::starEach es X.env:=by rfl):PA X (e::es) (tVs (v::vs)):=QaZ h r he
theorem Qvf:∀{as:List Addr}{us:List Value},Vals (as.map V.ref) us->us=as.map Value.ref
 | [],_,h=>by cases h;rfl
 | a::as,_,h=>by
  cases h with
  | cons h1 h2=>rw[Qvf h2,show _=Value.ref a from h1];rfl
theorem QIh{x1}{a:Addr}{as:List Addr}{t:List (Str×Bool)}{ts:List (List (Str×Bool))}(hc:PA C.X cs (tVs ((a::as).map V.ref)))(hk:KitsT C.X.K C.CT ((a::as).map Value.ref) (t::ts))(hz:(a::as).length<=20)(hg:Gl C.X "isinstance")(hm:C.X.mg "isinstance"=none)(h:DB C e E)
 (he:starEach (e::[.Tuple cs x1 tp1]) C.X.env=(false,eval e C.X.env)::starEach [.Tuple cs x1 tp1] C.X.env:=by rfl) (he2:starEach (.Tuple cs x1 tp1::[]) C.X.env=(false,eval (.Tuple cs x1 tp1) C.X.env)::starEach [] C.X.env:=by rfl)
 (hpl:(backTo pos (starEach [.Tuple cs x1 tp1] C.X.env)).any (·.1)=false:=by rfl):DE C (.Call (.Name "isinstance" p) [e,.Tuple cs x1 tp1] [] pos) (eIsa (isaTs (t::ts)) E):=by
 obtain⟨te,p1,q1⟩:=h
 have hR:CallR C.X (.builtin "isinstance") (fun xs H Q=>∃ c fs x tp b,xs=[x,V.ref tp]/\Rep C.X.K C.CT H (.ins c fs) x/\H tp=some (.tup ((a::as).map V.ref))/\anyT (t::ts) c=some b/\Q (.bl b) H):=by
  intro pins s σ H xs us Q I r hq
  obtain⟨c,fs,x,tp,b,rfl,h1,h2,h3,q⟩:=hq
  obtain⟨u,w,rfl,r1,r2⟩:=vals2 r
  obtain rfl:w=Value.ref tp:=r2
  obtain⟨p',A',dx,fs',rfl,g1,g2,_⟩:=h1
  obtain rfl:u=Value.ref p':=r1
  have cd:=QHk g1 hk h3
  obtain⟨mA,O,_⟩:=Qib I.hok g2
  obtain⟨od,J,_⟩:=O.look
  obtain⟨_,its,rv,pt⟩:=(show ObjOk C.X.prog C.X.w H s.heap tp (.tup ((a::as).map V.ref)) from I.hok tp _ h2)
  obtain⟨⟨oc,odd,odt,osl⟩,ho,hcl,nn,hd⟩:=pt
  obtain rfl:oc=.type "tuple":=hcl
  obtain rfl:odt=.seq its.toArray nn:=hd
  obtain rfl:=Qvf rv
  exact W.kia_tup (W.kitx_own (cd.cl.get _) cd.cl.hd cd.ha cd.hn cd.htk cd.hm) I.kIn J ho (QvW g1 hk h3) (fun z=>nomatch z) fun tk=>⟨.bl b,H,I.tok _,rfl,q⟩
 refine⟨_,Ql8 hR hg hm PyProof.Rows.Boot.«isinstance» (QaZ p1 (QaZ (QFc hc) QcO he2) he) (by decide) (by decide) he hpl,fun G H σ ς Q S q=>?_⟩
 unfold eIsa at q
 rw[Out.post_bind]at q
 refine q1 G H σ ς _ S (Out.post_mono q fun d k v1 H1 G1 S1 a1 b1 r1=>?_)
 rw[Out.post_bind]at k
 cases d with
 | ins c fs=>
  cases ea:anyT (t::ts) c with
  | none=>
   have hs:isaTs (t::ts) (D.ins c fs)=.stuck:=by show(match anyT (t::ts) c with | some b=>Out.ok b | none=>Out.stuck)=_;rw[ea]
   rw[hs]at k;exact k.elim
  | some b=>
   have hs:isaTs (t::ts) (D.ins c fs)=.ok b:=by show(match anyT (t::ts) c with | some b=>Out.ok b | none=>Out.stuck)=_;rw[ea]
   rw[hs]at k
   refine⟨by rw[List.length_map];exact Nat.le_trans hz (by decide),fun tp htp=>?_⟩
   have S2:=S1.allocO (o:=.tup ((a::as).map V.ref)) htp
   exact⟨c,fs,v1,tp,b,rfl,Rep.mono (QC htp) _ v1 r1,QO,ea,KD.now (KD.later (show KD C G H σ ς Q (.bl b) from k) (a1.trans (QC htp)) b1) S2 rfl⟩
 | _=>exact k.elim
end
end DL
namespace DL
open PySem PySem.Spec PyProof.Rows L2
theorem Qmu{K:W.Frag}{CT:CTab}{H:Hp}{d:D}{v:V}(h:d.scal=true)(r:Rep K CT H d v):v=toV d:=by
 cases d with
 | non=>exact r
 | bl b=>exact r
 | int i=>exact r
 | str x=>exact r
 | _=>cases h
theorem Qkz{K:W.Frag}{CT:CTab}{H:Hp}:∀{ds:List D}{vs:List V},ds.all D.scal=true->RepL K CT H ds vs->vs=ds.map toV
 | [],_,_,r=>by cases r;rfl
 | d::ds,_,h,⟨v,r,h1,h2,h3⟩=>by
  rw[List.all_cons,Bool.and_eq_true]at h
  rw[h1,Qmu h.1 h2,Qkz h.2 h3];rfl
theorem QkK{d:D}(h:d.scal=true):flatV (toV d)=true:=by
 cases d with
 | non=>rfl
 | bl b=>rfl
 | int i=>rfl
 | str x=>rfl
 | _=>cases h
theorem Qix:∀{ds:List D},ds.all D.scal=true->(ds.map toV).all flatV=true
 | [],_=>rfl
 | d::ds,h=>by
  rw[List.all_cons,Bool.and_eq_true]at h
  rw[List.map_cons,List.all_cons,QkK h.1,Qix h.2];rfl
def dInL:D->D->Out D
 | x,.lst ds=>if (x.scal&&ds.all D.scal)=true then .ok (.bl (inV (toV x) (ds.map toV))) else .stuck
 | _,_=>.stuck
def Qf6:D->D->Out D
 | x,.lst ds=>if (x.scal&&ds.all D.scal)=true then .ok (.bl (!inV (toV x) (ds.map toV))) else .stuck
 | _,_=>.stuck
section
variable{C:Dc}{a b:Expr}{A B:SD->Out D}{pos:Pos}
theorem QCi:DRS C (rIn C.X.K false) dInL:=by
 intro G H σ ς Q x y vx vy S hx hy q
 cases y with
 | lst ds=>
  have q:(if (x.scal&&ds.all D.scal)=true then Out.ok (D.bl (inV (toV x) (ds.map toV))) else .stuck).post _ _:=q
  rcases QS q with⟨hc,q⟩ | ⟨_,q⟩
  ·rw[Bool.and_eq_true]at hc
   obtain⟨p,vs,rfl,h2,h3⟩:=hy
   have e1:=Qmu hc.1 hx
   have e2:=Qkz hc.2 h3
   subst e1;subst e2
   exact⟨p,_,rfl,.inl h2,QkK hc.1,Qix hc.2,q.2⟩
  ·exact q.elim
 | _=>exact q.elim
theorem QCD:DRS C (rIn C.X.K true) Qf6:=by
 intro G H σ ς Q x y vx vy S hx hy q
 cases y with
 | lst ds=>
  have q:(if (x.scal&&ds.all D.scal)=true then Out.ok (D.bl (!inV (toV x) (ds.map toV))) else .stuck).post _ _:=q
  rcases QS q with⟨hc,q⟩ | ⟨_,q⟩
  ·rw[Bool.and_eq_true]at hc
   obtain⟨p,vs,rfl,h2,h3⟩:=hy
   have e1:=Qmu hc.1 hx
   have e2:=Qkz hc.2 h3
   subst e1;subst e2
   exact⟨p,_,rfl,.inl h2,QkK hc.1,Qix hc.2,q.2⟩
  ·exact q.elim
 | _=>exact q.elim
theorem Qw0:scal2 dInL:=fun x y=>by
 cases y with
 | lst ds=>
  show match (if (x.scal&&ds.all D.scal)=true then Out.ok (D.bl (inV (toV x) (ds.map toV))) else .stuck) with | .ok d=>d.scal=true | .exc _=>False | .stuck=>True
  split<;>rename_i h<;>(split at h<;>cases h)<;>first | rfl | trivial
 | _=>exact True.intro
theorem Qz0:scal2 Qf6:=fun x y=>by
 cases y with
 | lst ds=>
  show match (if (x.scal&&ds.all D.scal)=true then Out.ok (D.bl (!inV (toV x) (ds.map toV))) else .stuck) with | .ok d=>d.scal=true | .exc _=>False | .stuck=>True
  split<;>rename_i h<;>(split at h<;>cases h)<;>first | rfl | trivial
 | _=>exact True.intro
theorem QFn(ha:DB C a A)(hb:DB C b B)(hm:behindInMarks .In b=false:=by rfl):DE C (.Compare a [.In] [b] pos) (e2 dInL A B):=Qm6 QrI QCi Qw0 ha hb hm
theorem QJI(ha:DB C a A)(hb:DB C b B)(hm:behindInMarks .In b=false:=by rfl):DT C (.Compare a [.In] [b] pos) (tVal (e2 dInL A B)):=Qgy QrI QCi Qw0 ha hb hm
theorem QEM(ha:DB C a A)(hb:DB C b B)(hm:behindInMarks .NotIn b=false:=by rfl):DT C (.Compare a [.NotIn] [b] pos) (tVal (e2 Qf6 A B)):=Qgy QvL QCD Qz0 ha hb hm
end
end DL
namespace DL
open PySem PySem.Spec PyProof.Rows L2
section
variable{C:Dc}{a b:Expr}{A B:SD->Out D}{pos:Pos}
end
end DL
namespace DL
open PySem PySem.Spec PyProof.Rows L2
section
variable{C:Dc}{e:Expr}{E:SD->Out D}{pos p1 p2 p3:Pos}{x:Str}
end
end DL
namespace DL
open PySem PySem.Spec PyProof.Rows L2
section
variable{K:W.Frag}{CT:CTab}{G H:Hp}
end
section
variable{C:Dc}{a b:Expr}{A B:SD->Out D}{pos:Pos}
end
end DL
namespace DL
open PySem PySem.Spec PyProof.Rows L2
def frzs:List Nat->SD->SD
 | [],ς=>ς
 | i::is,ς=>frzs is (frz i ς)
section
variable{X:Cx}{e:Expr}{te:TA}{p1 p2 p3 pos:Pos}
end
section
variable{C:Dc}{e:Expr}{A:SD->Out (List D)}{p1 p2 p3 pos:Pos}
end
end DL
namespace DL
open PySem PySem.Spec PyProof.Rows L2
def gLst(K:W.Frag)(n:Nat)(t:TGs):TG:=fun v σ H Q=>∃ a xs,v=.ref a/\SqL K H a xs/\xs.length=n/\t xs σ H Q
theorem QJO{X:Cx}{pos:Pos}{es:List Expr}{k:Nat}{t:TGs}{n:Nat}(hc:X.calm=true)(h:PGs X es t)
 (hn:(assignEach es X.env).length=n:=by rfl) (hst:(assignEach es X.env).findIdx? (·.1)=none:=by rfl):PG X (.Tuple es k pos) (gLst X.K n t):=by
 intro pins s σ H v u Q I r hw
 obtain⟨a,xs,rfl,hq,hl,hw⟩:=hw
 cases r
 obtain⟨its,rv,ht,hz⟩:=I.list hq
 have hlen:its.length=n:=by rw[← rv.length];exact hl
 rw[assign_Tuple]
 refine wpAny_bind (wpAny_standAt (?_:wpAny (model X.prog X.w) X.A (unpack (.ref a) (assignEach es X.env)) _ _ s))
 unfold unpack
 rw[hst,hn,show n=its.toArray.size by simp[hlen]]
 refine wpAny_bind (wpAny_holding (W.kun_itemsOf (I.ok.hd hc) ht.isList fun g hg=>?_))
 exact h pins { s with heap:=g } σ H xs its Q (I.kept (t':=s.toks) fun b o e=>hg b o (Nat.ne_of_lt (Heap.lt_size e)) e) rv hw
def sUnpL(is:List Nat)(E:SD->Out D):SD->Out Fl:=fun ς=>E ς>>=fun d=>match d with
 | .lst ds=>Qaf is ds ς>>=fun ς'=>.ok (.nx ς')
 | _=>.stuck
section
variable{C:Dc}{e:Expr}{E:SD->Out D}{pos:Pos}
theorem Qqo{es:List Expr}{is:List Nat}{k:Nat}{pt:Pos}(hc:C.X.calm=true)(he:DE C e E)(hg:DGs C es is)(hn:(assignEach es C.X.env).length=is.length:=by rfl)(hst:(assignEach es C.X.env).findIdx? (·.1)=none:=by rfl)
 (hs:swapsWithSole [.Tuple es k pt] e pos.line C.X.env=pure false:=by rfl) (hw:swappedStores [.Tuple es k pt] e C.X.env=pure none:=by rfl)
 (h1:(assignEach [.Tuple es k pt] C.X.env).map (·.2)=[assign (.Tuple es k pt) C.X.env]:=by rfl):DS C (.Assign [.Tuple es k pt] e pos) (sUnpL is E):=by
 obtain⟨t,p,q⟩:=he
 obtain⟨t2,p2,q2⟩:=hg
 refine⟨_,QJW p (QJO hc p2 hn hst) hs hw h1,fun G H σ ς W S k=>?_⟩
 unfold sUnpL at k
 rw[Out.post_bind]at k
 refine q G H σ ς _ S (Out.post_mono k fun d k v H1 G1 S1 a1 b1 r1=>?_)
 cases d with
 | lst ds=>
  obtain⟨a,vs,rfl,h2,h3⟩:=r1
  have k':(Qaf is ds ς>>=fun ς'=>Out.ok (Fl.nx ς')).post (FlK C G W) C.XD:=k
  rw[Out.post_bind]at k'
  cases z:Qaf is ds ς with
  | exc _=>exact absurd z (Qj3 is ds ς _)
  | stuck=>rw[z]at k';exact k'.elim
  | ok ς'=>
   rw[z]at k'
   refine⟨a,vs,rfl,S1.sub.seq h2,by rw[← h3.length];exact QiG z,?_⟩
   exact q2 G1 H1 σ ς ds vs ς' _ S1 h3 z fun σ' S'=>k' σ' H1 G1 S' b1
 | _=>exact k.elim
end
end DL
namespace DL
open PySem PySem.Spec PyProof.Rows L2
def eSm(f:D->List D->Out D)(O:SD->Out D)(A:SD->Out (List D)):SD->Out D:=fun ς=>O ς>>=fun x=>match x with
 | .str z=>A ς>>=fun ys=>f (.str z) ys
 | _=>.stuck
section
variable{C:Dc}{o e:Expr}{es:List Expr}{O:SD->Out D}{A:SD->Out (List D)}{apos cpos:Pos}{m:Str}{id:String}{r:V->List V->Hp->VK->Prop}{f:D->List D->Out D}
theorem de_sm(slot:Slot "str" m id)(hty:typeOf (.builtin id)=pure (.type "method_descriptor"))(hm:MtR C.X id r)(ho:DB C o O)(ha:DA C (e::es) A)
 (hr:∀ G H σ ς (Q:VK) z ys vs,StR C G H σ ς->RepL C.X.K C.CT G ys vs->(f (.str z) ys).post (KD C G H σ ς Q) C.XD->r (.str z) vs H Q)
 (hbase:attributeBase o m C.X.env (eval o C.X.env)=eval o C.X.env:=by rfl)
 (hfew:((backTo cpos (starEach (e::es) C.X.env)).all (fun x => !x.1)&&(backToKw cpos (keywordEach [] C.X.env)).all (fun x=>x.1.isSome)
  && decide ((e::es).length+([]:List Keyword).length+(if ([]:List Keyword).isEmpty then 0 else 1)<30))=true:=by rfl)
 (hline:(apos.endLine == cpos.line)=true:=by rfl) (hs:starEach (e::es) C.X.env=(false,eval e C.X.env)::starEach es C.X.env:=by rfl) (hplain:(backTo cpos (starEach es C.X.env)).any (·.1)=false:=by rfl):
 DE C (.Call (.Attribute o m apos) (e::es) [] cpos) (eSm f O A):=by
 obtain⟨t0,p0,q0⟩:=ho
 obtain⟨t1,p1,q1⟩:=ha
 refine⟨_,pe_bm PySem.F.plainAttrs_str slot hty hm p0 p1 hbase hfew hline hs hplain,fun G H σ ς Q S k=>?_⟩
 unfold eSm at k
 rw[Out.post_bind]at k
 refine q0 G H σ ς _ S (Out.post_mono k fun x k v H1 G1 S1 a1 b1 r1=>?_)
 cases x with
 | str z=>
  cases r1
  refine⟨rfl,?_⟩
  have k:(A ς>>=fun ys=>f (.str z) ys).post (KD C G H σ ς Q) C.XD:=k
  rw[Out.post_bind]at k
  refine q1 G1 H1 σ ς _ S1 (Out.post_mono k fun ys k vs H2 G2 S2 a2 b2 r2=>?_)
  exact hr G2 H2 σ ς Q z ys vs S2 r2 (Out.post_mono k fun d k=>KD.later k (a1.trans a2) (b1.trans b2))
 | _=>exact k.elim
theorem rep1{K:W.Frag}{CT:CTab}{G:Hp}{d:D}{vs:List V}(h:RepL K CT G [d] vs):∃ v,vs=[v]/\Rep K CT G d v:=by
 obtain⟨v,r,h1,h2,h3⟩:=h
 have h3:r=[]:=h3
 exact⟨v,by rw[h1,h3],h2⟩
end
end DL
namespace L2
open PySem PySem.Spec PyProof.Rows
section
variable{X:Cx}
end
end L2
namespace DL
open PySem PySem.Spec PyProof.Rows L2
section
variable{C:Dc}{a:Expr}{A:SD->Out D}
end
end DL
namespace DL
open PySem PySem.Spec PyProof.Rows L2
section
variable{C:Dc}{G G' H H':Hp}{σ:St}{ς ς':SD}
end
end DL
namespace DL
open PySem PySem.Spec PyProof.Rows L2
section
variable{C:Dc}{a e:Expr}{A E:SD->Out D}{pos p1 p2:Pos}{x:Str}
end
def ArgW(K:W.Frag)(CT:CTab)(G H:Hp):List Bool->List D->List V->List Addr->Prop
 | [],[],[],ps=>ps=[]
 | true::bs,d::ds,v::vs,ps=>∃ p ps',v=.ref p/\ps=p::ps'/\p∉ps'/\G p=none/\Own K CT G H p d/\ArgW K CT G H bs ds vs ps'
 | false::bs,d::ds,v::vs,ps=>Rep K CT G d v/\ArgW K CT G H bs ds vs ps
 | _,_,_,_=>False
section
variable{K:W.Frag}{CT:CTab}{G H:Hp}
theorem ArgW.len:∀{bs:List Bool}{ds:List D}{vs:List V}{ps:List Addr},ArgW K CT G H bs ds vs ps->bs.length=vs.length/\ds.length=vs.length
 | [],[],[],_,_=>⟨rfl,rfl⟩
 | true::bs,d::ds,v::vs,ps,⟨_,_,_,_,_,_,_,h⟩=>by have:=ArgW.len h;simp[this.1,this.2]
 | false::bs,d::ds,v::vs,ps,⟨_,h⟩=>by have:=ArgW.len h;simp[this.1,this.2]
end
end DL
namespace DL
open PySem PySem.Spec PyProof.Rows L2
end DL
namespace DL
open PySem PySem.Spec PyProof.Rows L2
section
variable{C:Dc}{e:Expr}{es:List Expr}{E:SD->Out D}{A:SD->Out (List D)}{ms:List (Option Nat)}
end
end DL
namespace DL
open PySem PySem.Spec PyProof.Rows L2
section
variable{C:Dc}{e:Expr}{es:List Expr}{E:SD->Out D}{A:SD->Out (List D)}{bs:List Bool}
end
end DL
namespace L2
open PySem PySem.Spec PyProof.Rows
section
variable{X:Cx}
end
end L2
namespace DL
open PySem PySem.Spec PyProof.Rows L2
section
variable{C:Dc}{e:Expr}{es:List Expr}{AA:SD->Out (List D)}{p pos:Pos}
end
end DL
namespace DL
open PySem PySem.Spec PyProof.Rows L2
section
variable{C:Dc}{x:Str}{k:Nat}{dd:List D}{m:List D->Out D}{e:Expr}{es:List Expr}{A:SD->Out (List D)}{p pos:Pos}
end
end DL
namespace L2
open PySem PySem.Spec PyProof.Rows
section
variable{prog:Program}{w:World}{A:Around}{E:Value->Shared->Prop}{s:Shared}{I l:Addr}
end
section
variable{prog:Program}{w:World}{A:Around}{s:Shared}{R:Result->Shared->Prop}{I l:Addr}
end
section
variable{prog:Program}{w:World}{A:Around}{E:Value->Shared->Prop}{s:Shared}{I l:Addr}
end
section
variable{X:Cx}{e:Expr}{te:TA}{p1 p2 p3 pos:Pos}
end
end L2
namespace DL
open PySem PySem.Spec PyProof.Rows L2
section
variable{C:Dc}{e:Expr}{A:SD->Out (List D)}{p1 p2 p3 pos:Pos}
end
end DL
namespace DL
open PySem PySem.Spec PyProof.Rows L2
def OwnAs(K:W.Frag)(CT:CTab)(H0 G H:Hp):List (List D)->List Addr->Prop
 | [],[]=>True
 | xs::r,a::as=>(H0 a=none/\G a=none/\Own K CT G H a (.lst xs))/\a∉as/\OwnAs K CT H0 G H r as
 | _,_=>False
theorem OwnAs.mono{K:W.Frag}{CT:CTab}{H0 G G' H H':Hp}(g:Same G G')(h:Same H H'):∀{xss:List (List D)}{as:List Addr},(∀ a∈as,G' a=none)->OwnAs K CT H0 G H xss as->OwnAs K CT H0 G' H' xss as
 | [],[],_,_=>trivial
 | xs::r,a::as,n,⟨⟨h0,_,o⟩,na,ho⟩=>⟨⟨h0,n a (List.mem_cons_self ..),o.mono g fun o e=>h _ _ e⟩,na,ho.mono g h fun b hb=>n b (List.mem_cons_of_mem _ hb)⟩
section
variable{C:Dc}{G G' H H':Hp}{σ:St}{ς:SD}
end
def AtO(σ:St)(ς:SD):List Nat->List (List D)->List Addr->Prop
 | [],[],[]=>True
 | i::is,xs::r,a::as=>ς[i]?=some (some (.o,.lst xs))/\σ[i]?=some (some (.ref a))/\AtO σ ς is r as
 | _,_,_=>False
section
variable{C:Dc}{G H:Hp}{σ:St}{ς:SD}
theorem AtO.len:∀{is:List Nat}{xss:List (List D)}{as:List Addr},AtO σ ς is xss as->as.length=is.length
 | [],[],[],_=>rfl
 | i::is,xs::r,a::as,⟨_,_,h⟩=>by rw[List.length_cons,List.length_cons,h.len]
end
section
variable{C:Dc}{st:Stmt}{rest:List Stmt}{T:SD->Out Fl}{U:SD->Out D}{es:List Expr}{is:List Nat}{pos:Pos}
end
section
variable{C:Dc}{G G' H H':Hp}{σ:St}{ς:SD}
end
section
variable{C:Dc}{i j:Nat}{x y:Str}{p2 p3 p4 p5 p6 p7 p8 p9:Pos}{cj:Nat}{c:Int}{body:List Stmt}
end
section
variable{C:Dc}{G H:Hp}{σ:St}{ς:SD}
end
theorem OwnAs.h0{K:W.Frag}{CT:CTab}{H0 H0' G H:Hp}:∀{xss:List (List D)}{as:List Addr},(∀ a,H0 a=none->H0' a=none)->OwnAs K CT H0 G H xss as->OwnAs K CT H0' G H xss as
 | [],[],_,_=>trivial
 | xs::r,a::as,n,⟨⟨h0,hg,o⟩,na,ho⟩=>⟨⟨n a h0,hg,o⟩,na,ho.h0 n⟩
section
variable{C:Dc}{i j:Nat}{x y fn:Str}{k:Nat}{m:List D->Out D}{e:Expr}{es:List Expr}{A:SD->Out (List D)}{tc:Expr}{TC:SD->Out Bool}{ra:List Stmt}{R U:SD->Out Fl}{rest:List Stmt}{sf:Stmt}{p0 p1 p2 p3 p4:Pos}
end
section
variable{C:Dc}{j:Nat}{y:Str}{p5 p6 p7 p8 p9:Pos}{cj:Nat}{c:Int}
end
end DL
namespace DL
open PySem PySem.Spec PyProof.Rows L2
theorem OwnAs.len{K:W.Frag}{CT:CTab}{H0 G H:Hp}:∀{xss:List (List D)}{as:List Addr},OwnAs K CT H0 G H xss as->as.length=xss.length
 | [],[],_=>rfl
 | [],_::_,h=>h.elim
 | _::_,[],h=>h.elim
 | xs::r,a::as,⟨_,_,h⟩=>by rw[List.length_cons,List.length_cons,h.len]
section
variable{C:Dc}{G H:Hp}{σ:St}{ς:SD}
end
section
variable{C:Dc}{e:Expr}{es:List Expr}{A:SD->Out (List D)}{x:Str}{k:Nat}{m:List D->Out D}{p pos:Pos}
end
section
variable{C:Dc}{G H:Hp}{σ:St}{ς:SD}{N':List Str}{js:List (Option Nat)}{scope:Scope}{tg iter elt:Expr}{its:SD->Out (List D)}{g:D->SD->Out SD}{e:SD->Out D}{pos:Pos}
end
section
variable{C:Dc}{st:Stmt}{rest:List Stmt}{T:SD->Out Fl}{U:SD->Out D}{N':List Str}{js:List (Option Nat)}{scope:Scope}{tg iter elt:Expr}{its:SD->Out (List D)}{g:D->SD->Out SD}{e:SD->Out D}{pos rpos:Pos}
end
section
variable{C:Dc}{fn:Str}{k:Nat}{m:List D->Out D}{e:Expr}{es:List Expr}{A:SD->Out (List D)}{p pos:Pos}
end
section
variable{C:Dc}{i j r:Nat}{x y z:Str}{p2 p3 p4 p5 p6:Pos}{body:List Stmt}{tb:TS}
end
section
variable{C:Dc}{r:Nat}{z:Str}{p5 p6 p7 p8 p9 p10 p11:Pos}{c1 c2:Nat}{i1 i2:Int}{x1:_}
end
section
variable{C:Dc}{i j r:Nat}{x y fn gn:Str}{k k':Nat}{m m':List D->Out D}{e e':Expr}{es es':List Expr}{A A':SD->Out (List D)}{tc:Expr}{TC:SD->Out Bool}{ra:List Stmt}{R U:SD->Out Fl}{rest:List Stmt}{sf cl:Stmt}{p0 p1 p2 p3 p4 q1 q2 q3 q4:Pos}
end
end DL
namespace DL
open PySem PySem.Spec PyProof.Rows L2
theorem QCI{ns:List Str}:∀{us:List Value},Vals (ns.map V.str) us->StrsAre us ns:=by
 induction ns with
 | nil=>intro us r;rw[List.map_nil]at r;cases r;exact .nil
 | cons n ns ih=>
  intro us r
  rw[List.map_cons]at r
  cases r with
  | cons h r=>
   obtain⟨t,rfl⟩:=h
   exact .cons n t (ih r)
def rJoin(K:W.Frag):V->List V->Hp->VK->Prop:=fun v vs H Q=>∃ x a ys,v=.str x/\vs=[.ref a]/\SqL K H a (ys.map V.str)/\(ys.map fun y=>y.length).sum+ys.length * x.length<=16777216/\Q (.str (Txt.join x ys)) H
theorem QIl{X:Cx}:MtR X "str.join" (rJoin X.K):=by
 intro pins s σ H x xs v us Q I rx rv h
 obtain⟨z,a,ys,rfl,rfl,hq,hb,q⟩:=h
 obtain⟨t,rfl⟩:=rx
 cases rv with
 | cons r rr=>
  cases rr
  cases r
  obtain⟨its,rv,p,hz⟩:=I.list hq
  exact join_list p.isList (by simpa using QCI rv) hb fun t' k=>⟨.str _,H,I.kept (t':=k) fun b o e=>e,⟨t',rfl⟩,q⟩
def strsJ:List D->Option (List Str)
 | []=>some []
 | .str x::r=>(strsJ r).map (x :: ·)
 | _=>none
theorem QrQ:∀ ys:List Str,strsJ (ys.map D.str)=some ys
 | []=>rfl
 | y::r=>by show(strsJ (r.map D.str)).map (y :: ·)=_;rw[QrQ r];rfl
theorem Qr3{K:W.Frag}{CT:CTab}{G:Hp}:∀{ds:List D}{ys:List Str}{vs:List V},strsJ ds=some ys->RepL K CT G ds vs->vs=ys.map V.str
 | [],ys,vs,h,r=>by cases h;exact r
 | .str x::ds,ys,vs,h,⟨v,vs',e,r1,r2⟩=>by
  have h:(strsJ ds).map (x :: ·)=some ys:=h
  cases z:strsJ ds with
  | none=>rw[z]at h;cases h
  | some zs=>
   rw[z]at h
   cases h
   cases r1
   rw[e,Qr3 z r2];rfl
 | .non::_,_,_,h,_=>by cases h
 | .bl _::_,_,_,h,_=>by cases h
 | .int _::_,_,_,h,_=>by cases h
 | .lst _::_,_,_,h,_=>by cases h
 | .tup _::_,_,_,h,_=>by cases h
 | .dic _::_,_,_,h,_=>by cases h
 | .ins _ _::_,_,_,h,_=>by cases h
def fJoin:D->List D->Out D
 | .str x,[.lst ds]=>match strsJ ds with
  | some ys=>if decide ((ys.map fun y=>y.length).sum+ys.length * x.length<=16777216)=true then .ok (.str (Txt.join x ys)) else .stuck
  | none=>.stuck
 | _,_=>.stuck
theorem QKM{C:Dc}:∀ G H σ ς (Q:VK) z ys vs,StR C G H σ ς->RepL C.X.K C.CT G ys vs->(fJoin (.str z) ys).post (KD C G H σ ς Q) C.XD->rJoin C.X.K (.str z) vs H Q:=by
 intro G H σ ς Q z ys vs S hr k
 unfold fJoin at k
 split at k
 ·rename_i x ds e
  cases e
  obtain⟨v,rfl,h2⟩:=rep1 hr
  obtain⟨p,us,rfl,h3,h4⟩:=h2
  cases zz:strsJ ds with
  | none=>rw[zz]at k;exact k.elim
  | some ys=>
   rw[zz]at k
   rcases QS (show(if decide ((ys.map fun y=>y.length).sum+ys.length * z.length<=16777216)=true then Out.ok (D.str (Txt.join z ys)) else .stuck).post _ _ from k) with⟨hc,k⟩ | ⟨_,k⟩
   ·have e:=Qr3 zz h4
    subst e
    exact⟨z,p,ys,rfl,rfl,S.sub.seq h3,of_decide_eq_true hc,KD.now (show KD C G H σ ς Q (.str (Txt.join z ys)) from k) S rfl⟩
   ·exact k.elim
 ·exact k.elim
section
variable{C:Dc}{o e:Expr}{O E:SD->Out D}{apos cpos:Pos}
theorem Qeg(ho:DB C o O)(he:DE C e E)
 (hbase:attributeBase o "join" C.X.env (eval o C.X.env)=eval o C.X.env:=by rfl)
 (hfew:((backTo cpos (starEach (e::[]) C.X.env)).all (fun x => !x.1)&&(backToKw cpos (keywordEach [] C.X.env)).all (fun x=>x.1.isSome)
  && decide ((e::[]).length+([]:List Keyword).length+(if ([]:List Keyword).isEmpty then 0 else 1)<30))=true:=by rfl)
 (hline:(apos.endLine == cpos.line)=true:=by rfl) (hs:starEach (e::[]) C.X.env=(false,eval e C.X.env)::starEach [] C.X.env:=by rfl):
 DE C (.Call (.Attribute o "join" apos) [e] [] cpos) (eSm fJoin O (aCons E aNil)):=
 de_sm PySem.F.slot_str_join PySem.F.type_str_join QIl ho (Qd he Qk hs) QKM hbase hfew hline hs rfl
end
end DL
namespace DL
open PySem PySem.Spec PyProof.Rows L2
theorem Qad{i j:Int}(h:0<j):dMod (.int i) (.int j)=.ok (.int (i % j)):=by
 show(if decide (j≠0)=true then Out.ok (D.int (i.fmod j)) else Out.stuck)=_
 rw[if_pos (decide_eq_true (by omega)),Int.fmod_eq_emod_of_nonneg i (by omega)]
theorem QKl{j:Int}{n:Nat}(h:j.natAbs<2 ^ n)(hn:n<=9000):big j=true:=decide_eq_true (Nat.lt_of_lt_of_le h (Nat.pow_le_pow_right (by decide) hn))
theorem QH3{i j:Int}(h:j≠0)(hb:big j=true):dFdiv (.int i) (.int j)=.ok (.int (i.fdiv j)):=by
 show(if (decide (j≠0)&&big j)=true then Out.ok (D.int (i.fdiv j)) else Out.stuck)=_
 rw[if_pos (by rw[hb,decide_eq_true h];rfl)]
theorem QbX{i j:Int}(h:0<j)(hb:big j=true):dFdiv (.int i) (.int j)=.ok (.int (i / j)):=by
 rw[QH3 (by omega) hb,Int.fdiv_eq_ediv_of_nonneg i (by omega)]
theorem Qec{i:Int}{n:Nat}(h:i.natAbs<2 ^ n):bitsI i<=n:=PySem.intBits_le_iff.mpr h
theorem QIo{i:Int}{n:Nat}(h:bitsI i<=n):i.natAbs<2 ^ n:=PySem.intBits_le_iff.mp h
theorem QIO{i j:Int}(h:bitsI i+bitsI j<=134217728):dMul (.int i) (.int j)=.ok (.int (i * j)):=by
 show(if decide (bitsI i+bitsI j<=134217728)=true then Out.ok (D.int (i * j)) else Out.stuck)=_
 rw[if_pos (decide_eq_true h)]
theorem QIp{i j:Int}{m n:Nat}(hi:bitsI i<=m)(hj:bitsI j<=n)(h:m+n<=134217728):dMul (.int i) (.int j)=.ok (.int (i * j)):=QIO (by omega)
theorem QU(i j:Int):dAdd (.int i) (.int j)=.ok (.int (i+j)):=rfl
theorem Qd5(i j:Int):dSub (.int i) (.int j)=.ok (.int (i - j)):=rfl
theorem Qdf(i:Int):dNeg (.int i)=.ok (.int (-i)):=rfl
theorem Qe1(i:Int):dAbs (.int i)=.ok (.int (i.natAbs:Int)):=by
 show Out.ok (D.int (if i<0 then -i else i))=_
 congr 2;split<;>omega
theorem QcW(i j:Int):dLt (.int i) (.int j)=.ok (.bl (decide (i<j))):=rfl
theorem QeQ(i j:Int):dLe (.int i) (.int j)=.ok (.bl (decide (i<=j))):=rfl
theorem QdB(i j:Int):dGt (.int i) (.int j)=.ok (.bl (decide (j<i))):=rfl
theorem Qeh(i j:Int):dGe (.int i) (.int j)=.ok (.bl (decide (j<=i))):=rfl
theorem QBQ{i j:Int}(h:(decide (0<=j)&&decide (j<=1000000)&&decide (i.natAbs<2 ^ 64))=true):dPow (.int i) (.int j)=.ok (.int (i ^ j.toNat)):=by
 show(if _=true then Out.ok (D.int (i ^ j.toNat)) else Out.stuck)=_
 rw[if_pos h]
mutual
def layD:D->Bool
 | .non=>true
 | .bl _=>true
 | .int _=>true
 | .str x=>PyData.strOk x
 | .lst xs=>layDs xs
 | .tup xs=>layDs xs
 | _=>false
def layDs:List D->Bool
 | []=>true
 | x::xs=>layD x&&layDs xs
end
mutual
def dep:D->Nat
 | .lst xs=>deps xs+1
 | .tup xs=>deps xs+1
 | _=>0
def deps:List D->Nat
 | []=>0
 | x::xs=>max (dep x) (deps xs)
end
mutual
theorem QFs:∀ d:D,layD d=true->d.py.canLay0=true
 | .non,_=>rfl
 | .bl _,_=>rfl
 | .int _,_=>rfl
 | .str x,h=>h
 | .lst xs,h=>Qrl xs h
 | .tup xs,h=>Qrl xs h
theorem Qrl:∀ ds:List D,layDs ds=true->PyData.canLayAll0 (D.pys ds)=true
 | [],_=>rfl
 | x::xs,h=>by
  rw[layDs,Bool.and_eq_true]at h
  rw[D.pys,PyData.canLayAll0,Bool.and_eq_true]
  exact⟨QFs x h.1,Qrl xs h.2⟩
end
mutual
theorem QGF:∀ d:D,layD d=true->d.py.depth=dep d
 | .non,_=>rfl
 | .bl _,_=>rfl
 | .int _,_=>rfl
 | .str x,h=>rfl
 | .lst xs,h=>by rw[D.py,PyData.depth,dep,Qpp xs h]
 | .tup xs,h=>by rw[D.py,PyData.depth,dep,Qpp xs h]
theorem Qpp:∀ ds:List D,layDs ds=true->PyData.depthAll (D.pys ds)=deps ds
 | [],_=>rfl
 | x::xs,h=>by
  rw[layDs,Bool.and_eq_true]at h
  rw[D.pys,PyData.depthAll,deps,QGF x h.1,Qpp xs h.2]
end
theorem Qvr{d:D}(h:layD d=true)(hd:dep d<=64):shp d=true:=by
 unfold shp SeqAt.shaped
 rw[QFs d h,QGF d h]
 simpa using hd
theorem QkR(i:Int):shp (.int i)=true:=Qvr rfl (Nat.zero_le _)
theorem QFV{x y:D}(hx:shp x=true)(hy:shp y=true):dEq x y=.ok (.bl (PyData.eqv x.py y.py)):=by
 unfold dEq;rw[hx,hy];rfl
theorem QJ4{x y:D}(hx:shp x=true)(hy:shp y=true):dNe x y=.ok (.bl (!PyData.eqv x.py y.py)):=by
 unfold dNe;rw[hx,hy];rfl
theorem QBW(i j:Int):(i == j)=decide (i=j):=by
 by_cases h:i=j
 ·subst h;simp
 ·simp[h]
theorem QaA(i j:Int):dEq (.int i) (.int j)=.ok (.bl (decide (i=j))):=by
 rw[QFV (QkR i) (QkR j), ← QBW]
 rfl
theorem Qeb(i j:Int):dNe (.int i) (.int j)=.ok (.bl (!decide (i=j))):=by
 rw[QJ4 (QkR i) (QkR j), ← QBW]
 rfl
theorem QbR{n:Nat}(h:n<=1000:=by decide):fits n=true:=decide_eq_true (Nat.le_trans h (by decide))
theorem ixL{xs:List D}{x:D}(k:Nat)(h:xs[k]?=some x):dIx (.lst xs) (.int (k:Int))=.ok x:=by
 show optO (atI xs (k:Int))=_
 rw[Qqr h];rfl
theorem QHI{α:Type}(xs:List α)(k:Nat):cutD xs (some (k:Int)) none=xs.drop k:=by
 unfold cutD
 rw[HT.sIx_none,HT.sIx_nat]
 by_cases h:k<=xs.length
 ·rw[Nat.min_eq_left h,List.take_of_length_le (by rw[List.length_drop];exact Nat.le_refl _)]
 ·rw[Nat.min_eq_right (by omega),List.drop_length,List.drop_eq_nil_of_le (by omega)];simp
theorem QGd{α:Type}(xs:List α)(i k:Nat):cutD xs (some (i:Int)) (some (k:Int))=(xs.drop i).take (k - i):=by
 unfold cutD
 rw[HT.sIx_nat,HT.sIx_nat]
 by_cases h:i<=xs.length
 ·rw[Nat.min_eq_left h]
  by_cases h2:k<=xs.length
  ·rw[Nat.min_eq_left h2]
  ·rw[Nat.min_eq_right (by omega),List.take_of_length_le (by rw[List.length_drop];exact Nat.le_refl _),List.take_of_length_le (by rw[List.length_drop];omega)]
 ·rw[show min i xs.length=xs.length by omega,List.drop_length,List.drop_eq_nil_of_le (by omega:xs.length<=i)];simp
theorem QeW{xs ys:List D}(h:xs.length+ys.length<=1000):dCat (.lst xs) (.lst ys)=.ok (.lst (xs++ys)):=by
 show(if fits _=true then _ else _)=_
 rw[if_pos (QbR h)]
theorem QbK{g:D->SD->Out SD}{its:SD->Out (List D)}{T:SD->Out Fl}{ς:SD}{xs:List D}{r:Out Fl}(h:its ς=.ok xs)(hL:loopD (fun x ς=>g x ς>>=fun ς'=>T ς') xs ς=r):sFor g its T ς=r:=by
 unfold sFor
 rw[h];exact hL
theorem Qbe{A:SD->Out D}{ς:SD}(m:Nat)(h:A ς=.ok (.int (m:Int)))(hm:m<=1000000):itR1 A ς=.ok (Qbb 0 m):=by
 have hs:Qh9 (m:Int)=true:=by
  unfold Qh9
  rw[Bool.and_eq_true]
  exact⟨decide_eq_true (by omega),decide_eq_true (by omega)⟩
 unfold itR1
 rw[h,Out.bind_ok]
 simp only[hs,if_true,Int.toNat_natCast]
end DL
namespace DL
open PySem PySem.Spec PyProof.Rows L2
theorem Qb6{body:D->SD->Out Fl}{P:Nat->SD->Prop}{n:Nat}(h:∀ k:Nat,k<n->∀ ς,P k ς->∃ ς',body (.int (k:Int)) ς=.ok (.nx ς')/\P (k+1) ς'):∀ ς,P 0 ς->∃ ς',loopD body (Qbb 0 n) ς=.ok (.nx ς')/\P n ς':=by
 have key:∀(j:Nat)(k:Nat),k+j=n->∀ ς,P k ς->∃ ς',loopD body ((List.range' k j).map fun(i:Nat)=>D.int ((0:Int)+i)) ς=.ok (.nx ς')/\P n ς':=by
  intro j
  induction j with
  | zero=>
   intro k hk ς p
   have:k=n:=by omega
   subst this
   exact⟨ς,rfl,p⟩
  | succ j ih=>
   intro k hk ς p
   obtain⟨ς1,e1,p1⟩:=h k (by omega) ς p
   obtain⟨ς2,e2,p2⟩:=ih (k+1) (by omega) ς1 p1
   refine⟨ς2,?_,p2⟩
   rw[List.range'_succ,List.map_cons,loopD,Int.zero_add,e1]
   exact e2
 intro ς p
 have:=key n 0 (by omega) ς p
 unfold Qbb
 rw[List.range_eq_range']
 exact this
theorem Qmn{f:D->Out (Option D)}{h:D->Option D}:∀{xs:List D},(∀ x∈xs,f x=.ok (h x))->compM f xs=.ok (xs.filterMap h)
 | [],_=>rfl
 | x::xs,hf=>by
  rw[compM,hf x List.mem_cons_self,Out.bind_ok,Qmn (xs:=xs) (fun y hy=>hf y (List.mem_cons_of_mem _ hy)),Out.bind_ok,List.filterMap_cons]
  cases h x<;>rfl
theorem Qjo{α:Type}(f:α->Bool):∀ xs:List α,blsOf (xs.map fun x=>D.bl (f x))=some (xs.map f)
 | []=>rfl
 | x::xs=>by rw[List.map_cons,blsOf,Qjo f xs];rfl
theorem QeY{α:Type}(f:α->Bool)(xs:List α):fAll (.lst (xs.map fun x=>D.bl (f x)))=.ok (.bl (xs.all f)):=by
 rw[fAll,Qjo]
 show Out.ok (D.bl ((xs.map f).all id))=_
 rw[List.all_map];rfl
theorem QHm{α:Type}(f:α->Bool)(xs:List α):fAny (.lst (xs.map fun x=>D.bl (f x)))=.ok (.bl (xs.any f)):=by
 rw[fAny,Qjo]
 show Out.ok (D.bl ((xs.map f).any id))=_
 rw[List.any_map];rfl
theorem Qei{n:Nat}(h:n<=1000):fits n=true:=QbR h
theorem QIx(z:Str):z.cps.toList.length=z.length:=by simp[Str.length]
end DL
namespace DL
open PySem PySem.Spec L2
section
variable{i j:Nat}{d x y:D}{m:SM}{ς ς' ς1:SD}{E A B:SD->Out D}{AA:SD->Out (List D)}{f:D->Out D}{g:D->D->Out D}{h:List D->Out D}{r:Out D}{xs ys:List D}{T U:SD->Out Fl}{P Q:SD->Out Bool}{b c:Bool}{fl:Fl}{rf:Out Fl}{rb:Out Bool}
theorem r_var(e:ς[i]?=some (some (.k,d))):eVar i ς=.ok d:=by unfold eVar;rw[e]
theorem QdT(e:ς[i]?=some (some (m,d))):eVarB i ς=.ok d:=by unfold eVarB;rw[e]
theorem r_C:eC d ς=.ok d:=rfl
theorem r_e1(a:A ς=.ok x)(k:f x=r):e1 f A ς=r:=by unfold e1;rw[a];exact k
theorem r_e2(a:A ς=.ok x)(a':B ς=.ok y)(k:g x y=r):e2 g A B ς=r:=by unfold e2;rw[a,Out.bind_ok,a'];exact k
theorem r_eA(a:AA ς=.ok xs)(k:h xs=r):eA h AA ς=r:=by unfold eA;rw[a];exact k
theorem Qax{dd:List D}(a:AA ς=.ok xs)(e:xs++dd=ys)(k:h ys=r):eA (fun xs=>h (xs++dd)) AA ς=r:=by unfold eA;rw[a];show h (xs++dd)=r;rw[e];exact k
theorem r_nil:aNil ς=.ok []:=rfl
theorem Qg(a:A ς=.ok x)(k:AA ς=.ok xs):aCons A AA ς=.ok (x::xs):=by unfold aCons;rw[a,Out.bind_ok,k];rfl
theorem r_tup(a:AA ς=.ok xs)(k:xs.length<=1000):eTup AA ς=.ok (.tup xs):=by unfold eTup;rw[a,Out.bind_ok,if_pos (Qei k)]
theorem r_lst(a:AA ς=.ok xs)(k:xs.length<=1000):eLst AA ς=.ok (.lst xs):=by unfold eLst;rw[a,Out.bind_ok,if_pos (Qei k)]
theorem QaK(a:A ς=.ok (.bl b)):tVal A ς=.ok b:=by unfold tVal;rw[a];rfl
theorem QK5(a:P ς=.ok b):tNot' P ς=.ok (!b):=by unfold tNot';rw[a];rfl
theorem r_or'(a:P ς=.ok b)(k:(if b=true then .ok true else Q ς)=rb):tOr' P Q ς=rb:=by unfold tOr';rw[a];exact k
theorem Qvp(a:P ς=.ok b)(k:(if b=true then Q ς else .ok false)=rb):tAnd' P Q ς=rb:=by unfold tAnd';rw[a];exact k
theorem QxT(a:A ς=.ok (.bl b))(k:(if b=true then B ς else .ok (.bl false))=r):eAnd A B ς=r:=by unfold eAnd;rw[a];cases b<;>exact k
theorem r_eIf(a:P ς=.ok b)(k:(if b=true then A ς else B ς)=r):eIf P A B ς=r:=by unfold eIf;rw[a];exact k
theorem r_isa{F:D->Out Bool}(a:A ς=.ok x)(k:F x=.ok b):eIsa F A ς=.ok (.bl b):=by unfold eIsa;rw[a,Out.bind_ok,k];rfl
theorem QI5{g':D->D->Out D}{E':SD->Out D}(a:A ς=.ok x)(a':B ς=.ok y)(k:g x y=.ok (.bl b))(k':(if b=true then E' ς>>=fun w=>g' y w else .ok (.bl false))=r):QbY g g' A B E' ς=r:=by unfold QbY;rw[a,Out.bind_ok,a',Out.bind_ok,k];cases b<;>exact k'
theorem QKV{z:D}(a:E ς=.ok z)(k:f z=r):(E ς>>=fun w=>f w)=r:=by rw[a];exact k
theorem r_set(a:E ς=.ok d)(k:ς.set i (some (.k,d))=ς'):sSet i E ς=.ok (.nx ς'):=by unfold sSet;rw[a,Out.bind_ok,k]
theorem QdQ(a:E ς=.ok d)(k:ς.set i (some (.o,d))=ς'):sSetO i E ς=.ok (.nx ς'):=by unfold sSetO;rw[a,Out.bind_ok,k]
theorem r_seq(a:T ς=.ok fl)(k:thenF U fl=rf):sSeq T U ς=rf:=by unfold sSeq;rw[a];exact k
theorem Ql(k:U ς=rf):thenF U (.nx ς)=rf:=k
theorem Qf9{z:Bool}:thenF U (.rt z d)=.ok (.rt z d):=rfl
theorem r_if(a:P ς=.ok b)(k:(if b=true then T ς else U ς)=rf):sIf P T U ς=rf:=by unfold sIf;rw[a];exact k
theorem Qfv{α:Type}{u v w:α}(a:b=true)(k:u=w):(if b=true then u else v)=w:=by rw[if_pos a];exact k
theorem Qj9{α:Type}{u v w:α}(a:b=false)(k:v=w):(if b=true then u else v)=w:=by subst a;exact k
theorem r_ret(a:E ς=.ok d):sRet E ς=.ok (.rt false d):=by unfold sRet;rw[a];rfl
theorem QcQ(a:E ς=.ok d):sRetF E ς=.ok (.rt true d):=by unfold sRetF;rw[a];rfl
theorem QkL(e:ς[i]?=some (some (.o,d))):sRetO i ς=.ok (.rt true d):=by unfold sRetO;rw[e]
theorem QbU:sNil ς=.ok (.nx ς):=rfl
theorem QBV{n:Nat}(k:n<=1000):decide (n<sizeLine)=true:=decide_eq_true (Nat.lt_of_le_of_lt k (by decide))
theorem r_app(e:ς[i]?=some (some (.o,.lst xs)))(a:E ς=.ok d)(k:xs.length<=1000)(l:ς.set i (some (.o,.lst (xs++[d])))=ς'):QaY i E ς=.ok (.nx ς'):=by
 unfold QaY;rw[e];show(E ς>>=fun d=>if decide (xs.length<sizeLine)=true then _ else _)=_;rw[a,Out.bind_ok,if_pos (QBV k),l]
theorem Qio{o:Out D}(a:o=.ok d)(k:d.scal=true):QgB o=.ok d:=by unfold QgB;rw[a,Out.bind_ok,if_pos k]
theorem r_noX{α:Type}{o:Out α}{a:α}(k:o=.ok a):noX o=.ok a:=by rw[k];rfl
theorem r_sl{l u:SD->Out (Option Int)}{p q:Option Int}(a:A ς=.ok (.lst xs))(k1:l ς=.ok p)(k2:u ς=.ok q)(e:cutD xs p q=ys):eSl A l u ς=.ok (.lst ys):=by unfold eSl;rw[a,Out.bind_ok,k1,Out.bind_ok,k2,Out.bind_ok];show Out.ok (D.lst _)=_;rw[e]
theorem Qf8{k:Int}(a:E ς=.ok (.int k)):oSome E ς=.ok (some k):=by unfold oSome;rw[a];rfl
theorem r_ixO{k:Int}(e:ς[i]?=some (some (.o,.lst xs)))(a:A ς=.ok (.int k))(q:atI xs k=some d):eIxO i A ς=.ok d:=by
 unfold eIxO;rw[e]
 show(A ς>>=_)=_
 rw[a,Out.bind_ok]
 show optO (atI xs k)=_
 rw[q];rfl
theorem QrH:Qaf [] [] ς=.ok ς:=rfl
theorem Qr8{is:List Nat}{rs:Out SD}(a:ς.set i (some (.k,d))=ς1)(k:Qaf is ys ς1=rs):Qaf (i::is) (d::ys) ς=rs:=by show Qaf is ys (ς.set i (some (.k,d)))=rs;rw[a];exact k
theorem Q5{fr:Bool}(a:T ς=.ok fl)(k:retF fr fl=r):(T ς>>=retF fr)=r:=by rw[a];exact k
theorem r_rt{z:Bool}:retF false (.rt z d)=.ok d:=by unfold retF;simp
theorem r_rtT:retF true (.rt true d)=.ok d:=by unfold retF;simp
theorem r_gN{L:SD->Out Fl}(a:ς.set i (some (.k,d))=ς1)(k:L ς1=rf):(gN i d ς>>=fun ς'=>L ς')=rf:=by unfold gN;rw[a];exact k
theorem r_gT{L:SD->Out Fl}{is:List Nat}(a:Qaf is ys ς=.ok ς1)(k:L ς1=rf):(gT is (.tup ys) ς>>=fun ς'=>L ς')=rf:=by unfold gT;show(Qaf is ys ς>>=fun ς'=>L ς')=rf;rw[a];exact k
theorem Qie{cl:Str}{fds:List (Str×D)}{mk:Str->List (Str×D)->List D->Out (List (Str×D))}(a:AA ς=.ok xs)(k:mk cl [] xs=.ok fds):eMake cl mk AA ς=.ok (.ins cl fds):=by unfold eMake;rw[a,Out.bind_ok,k];rfl
theorem QIe{cs:List Str}{n cl:Str}{fds fds':List (Str×D)}{mk:Str->List (Str×D)->List D->Out (List (Str×D))}(e:ς[i]?=some (some (.s,.ins cl fds)))(k1:cs.contains cl=true)(k2:fds.lookup n=none)(a:AA ς=.ok xs)(k:mk cl fds xs=.ok fds')(l:ς.set i (some (.s,.ins cl fds'))=ς'):Qfx cs n mk i AA ς=.ok (.nx ς'):=by
 unfold Qfx;rw[e]
 show(if (cs.contains cl&&(fds.lookup n).isNone)=true then _ else _)=_
 rw[k1,k2]
 show(AA ς>>=_)=_
 rw[a,Out.bind_ok,k,Out.bind_ok,l]
theorem r_itL(a:E ς=.ok (.lst xs)):itL E ς=.ok xs:=by unfold itL;rw[a];rfl
end
theorem QK2{T:SD->Out Fl}{ς τ:SD}{c:Str}{fds:List (Str×D)}(a:T ς=.ok (.nx (some (.s,.ins c fds)::τ))):(T ς>>=Qdg c)=.ok fds:=by
 rw[a];simp[Qdg,QjV]
theorem c_nil{ς:SD}:captD [] ς=[]:=rfl
theorem Qfw{ς τ:SD}{js:List (Option Nat)}(k:captD js ς=τ):captD (none::js) ς=none::τ:=by rw[← k];rfl
theorem c_k{ς τ:SD}{js:List (Option Nat)}{j:Nat}{d:D}(e:ς[j]?=some (some (.k,d)))(k:captD js ς=τ):captD (some j::js) ς=some (.k,d)::τ:=by
 rw[← k];show captS ς j::_=_;unfold captS;rw[e];rfl
theorem c_o{ς τ:SD}{js:List (Option Nat)}{j:Nat}{d:D}(e:ς[j]?=some (some (.o,d)))(k:captD js ς=τ):captD (some j::js) ς=some (.l,d)::τ:=by
 rw[← k];show captS ς j::_=_;unfold captS;rw[e];rfl
theorem QN{js:List (Option Nat)}{i:Nat}{e:SD->Out D}{ς τ0 τ:SD}{x d:D}(c:captD js ς=τ0)(a:τ0.set i (some (.k,x))=τ)(k:e τ=.ok d):turnC js (gN i) cTrue e ς x=.ok (some d):=by
 unfold turnC gN cTrue
 rw[c,a,Out.bind_ok,Out.bind_ok,if_pos rfl,k];rfl
theorem QpO{js:List (Option Nat)}{is:List Nat}{e:SD->Out D}{ς τ0 τ:SD}{xs:List D}{d:D}(c:captD js ς=τ0)(a:Qaf is xs τ0=.ok τ)(k:e τ=.ok d):turnC js (gT is) cTrue e ς (.tup xs)=.ok (some d):=by
 unfold turnC gT cTrue
 show((Qaf is xs (captD js ς))>>=_)=_
 rw[c,a,Out.bind_ok,Out.bind_ok,if_pos rfl,k];rfl
theorem QH{α:Type}{js:List (Option Nat)}{its:SD->Out (List D)}{g:D->SD->Out SD}{e:SD->Out D}{ς:SD}{l:List α}(f:α->D)(h:α->D)(hi:its ς=.ok (l.map f))(ht:∀ x∈l,turnC js g cTrue e ς (f x)=.ok (some (h x)))(hl:l.length<=1000):
 eComp js its g cTrue e ς=.ok (.lst (l.map h)):=by
 have go:∀ l:List α,(∀ x∈l,turnC js g cTrue e ς (f x)=.ok (some (h x)))->compM (turnC js g cTrue e ς) (l.map f)=.ok (l.map h):=by
  intro l
  induction l with
  | nil=>intro _;rfl
  | cons x xs ih=>
   intro H
   have h1:=H x (List.mem_cons_self ..)
   have h2:=ih fun y hy=>H y (List.mem_cons_of_mem _ hy)
   show compM (turnC js g cTrue e ς) (f x::xs.map f)=_
   unfold compM
   rw[h1,Out.bind_ok,h2];rfl
 unfold eComp
 rw[hi,Out.bind_ok,go l ht,Out.bind_ok,if_pos (Qei (by rw[List.length_map];exact hl))]
theorem Qmw{js:List (Option Nat)}{its:SD->Out (List D)}{g:D->SD->Out SD}{e:SD->Out D}{ς:SD}{n:Nat}(h:Nat->D)(hi:its ς=.ok (Qbb 0 n))(ht:∀ k:Nat,k<n->turnC js g cTrue e ς (.int (k:Int))=.ok (some (h k)))(hl:n<=1000):
 eComp js its g cTrue e ς=.ok (.lst ((List.range n).map h)):=by
 refine QH (fun i:Nat=>D.int (0+(i:Int))) h hi (fun k hk=>?_) (by rw[List.length_range];exact hl)
 show turnC js g cTrue e ς (.int (0+(k:Int)))=_
 rw[Int.zero_add]
 exact ht k (List.mem_range.mp hk)
theorem QBZ{a b:Str}(ha:PyData.strOk a=true)(hb:PyData.strOk b=true):dEq (.str a) (.str b)=.ok (.bl (a == b)):=by
 rw[QFV (Qvr (d:=.str a) ha (Nat.zero_le _)) (Qvr (d:=.str b) hb (Nat.zero_le _))];rfl
theorem r_get{ς:SD}{i:Nat}{m:SM}{d:D}(h:ς[i]?=some (some (m,d))):ς[i]?=some (some (m,d)):=h
theorem r_len{n:Nat}(h:n<=1000):n<=1000:=h
theorem QKL{i:Int}{n:Nat}(h:bitsI i<=n):bitsI i<=n:=h
theorem r_dec{m n:Nat}(h:decide (m<=n)=true):decide (m<=n)=true:=h
theorem r_id{α:Type}{a b:α}(h:a=b):a=b:=h
theorem QJy{n:Str}:List.lookup n ([]:List (Str×D))=none:=rfl
theorem QKc{α:Type}{x:α}{xs:List α}:(x::xs)[0]?=some x:=rfl
theorem QJ9{α:Type}{x:α}{xs:List α}{n:Nat}{r:Option α}(h:xs[n]?=r):(x::xs)[n+1]?=r:=by rw[List.getElem?_cons_succ];exact h
theorem QE1{α:Type}{x y:α}{xs:List α}:(x::xs).set 0 y=y::xs:=rfl
theorem QFH{α:Type}{x y:α}{xs ys:List α}{n:Nat}(h:xs.set n y=ys):(x::xs).set (n+1) y=x::ys:=by rw[List.set_cons_succ,h]
theorem QJ3{α:Type}{ys:List α}:[]++ys=ys:=rfl
theorem QKx{α:Type}{x:α}{xs ys zs:List α}(h:xs++ys=zs):x::xs++ys=x::zs:=by rw[List.cons_append,h]
theorem QJ0{i:Int}(h:decide (i.natAbs<2 ^ 300)=true):bitsI i<=300:=Qec (of_decide_eq_true h)
theorem bd_in{i:Int}{n:Nat}(h0:0<=i)(h:i<2 ^ n):bitsI i<=n:=Qec (by
 have:((2 ^ n:Nat):Int)=2 ^ n:=by simp
 omega)
theorem r_mul{i j:Int}{m n:Nat}(hi:bitsI i<=m)(hj:bitsI j<=n)(h:decide (m+n<=134217728)=true):dMul (.int i) (.int j)=.ok (.int (i * j)):=QIp hi hj (of_decide_eq_true h)
theorem QK6{i j:Int}{n:Nat}(h:0<j)(hj:bitsI j<=n)(hn:decide (n<=9000)=true):dFdiv (.int i) (.int j)=.ok (.int (i / j)):=QbX h (QKl (QIo hj) (of_decide_eq_true hn))
end DL
set_option maxHeartbeats 4000000
namespace My
open PySem PySem.Spec L2 DL
set_option hygiene false
local macro_rules
 | `("e"^$q $s $k $b) => `(DefOk P w K mg base CT $s $k $b [] $q)
 | `("f"^$k $l $b $q) => `(FnOk P w K mg base CX0 $k f fd $l (SpD K CT $b $q))
set_option hygiene true
theorem gr{X:Cx}{x:Str}(h:Gl X x:=by rfl):Gl X x:=h
theorem Rm{k k1:Nat}{A:Around}(h:Room k1 A)(e:k<=k1:=by decide):Room k A:=h.mono e
def top(i:Nat):Stmt:=PySem.Challenge.pw_dockethall_k24_written.main.body.getD i (.Pass ⟨0,0,0,0⟩)
def Qj:List Str:=["Deal","Bundle","Copy","Rows","Office"]
def Qc:List Str:=["Deal","Bundle","Copy","Rows"]
def Qi:List Str:=["Office"]
noncomputable section
variable{P:Program}{w:World}{K:W.Frag}{mg:Str->Option Value}{base:Heap}{CT:CTab}{f:Addr}{fd:FuncData}{dV:Value}
abbrev Qco:Stmt:=top 48
theorem QaS:Qq ["_law_cell_here","_law_k","_law_many","_law_found","_law_rest","_law_j","_law_number"] ["_law_cell_here","_law_k","_law_many"] (Qb Qco):=⟨rfl,rfl,rfl,dk,rfl,dk,dk⟩
def Qdp:SD->Out Fl:=(sSeq (QaY 3 (e2 dMod (eVar 4) (e2 dPow (eC (.int 10)) (eC (.int 6))))) (sSet 4 (e2 dFdiv (eVar 4) (e2 dPow (eC (.int 10)) (eC (.int 6))))))
def Qdr:SD->Out Fl:=(sSeq (sSet 6 (e2 dMod (e2 dAdd (e2 dAdd (e2 dMul (eVar 6) (eC (.int 1181783497276652981))) (e2 dMul (eVar 5) (eVar 5))) (eVar 1)) (eC (.int 2305843009213693951)))) (QaY 3 (e2 dMod (e2 dFdiv (e2 dMod (e2 dMul (eVar 6) (eVar 6)) (eC (.int 2305843009213693921))) (eC (.int 1048576))) (e2 dPow (eC (.int 10)) (eC (.int 6))))))
def Qdm:SD->Out Fl:=(sSeq (sSetO 3 (eLst aNil)) (sSeq (sIf (tVal (e2 dEq (e2 dMod (eVar 0) (eC (.int 2))) (eC (.int 0)))) (sSeq (sSet 4 (e2 dFdiv (eVar 0) (eC (.int 2)))) (sSeq (sFor (gN 5) (itR1 (eVar 2)) Qdp) (sRetO 3))) sNil) (sSeq (sSet 6 (e2 dAdd (e2 dAdd (e2 dMod (eVar 0) (eC (.int 2305843009213693951))) (e2 dMul (eVar 1) (eVar 1))) (eC (.int 7)))) (sSeq (sFor (gN 5) (itR1 (eVar 2)) Qdr) (sRetO 3)))))
def Qag:List D->Out D:=bodyF true 3 7 Qdm
theorem Qkv(d0 d1 d2:D):Qag [d0,d1,d2]=(Qdm [some (.k,d0),some (.k,d1),some (.k,d2),none,none,none,none]>>=retF true):=rfl
theorem QwH(F:FunV K "_law_digits" "_law_digits" Qco f fd dV)(z_range:mg "range"=none):"f"^1 ["_law_cell_here","_law_k","_law_many"] true Qag:=
 (@fnV P w K mg base CT true _ _ _ f fd dV _ _ 0 Qdm F QaS fun cdv A outer s H E G hr=>
  (Qf (Qdo (i:=3) QaS.nd rfl (oi rfl) (Qaw Qk)) (Qf (ds_if (dt_eq hr.units (DE.db (Q9 (DE.db (Qa 0)) (DE.db Qe))) (DE.db Qe)) (Qf (QP (i:=4) QaS.nd rfl (oi rfl) (Qdy (DE.db (Qa 0)) (DE.db Qe))) (Qf (QbP PassesOwn.never rfl (Qaa gr z_range (DE.db (Qa 2))) (Qw (i:=5) QaS.nd rfl (oi rfl)) (Qr _) (Qf (Qbp 3 (Q9 (DE.db (Qa 4)) (DE.db (QnZ (DE.db Qe) (DE.db Qe)))) rfl (oi rfl)) (Qh (QP (i:=4) QaS.nd rfl (oi rfl) (Qdy (DE.db (Qa 4)) (DE.db (QnZ (DE.db Qe) (DE.db Qe)))))))) (Qh (Qf7 3 rfl (oi rfl))))) QW) (Qf (QP (i:=6) QaS.nd rfl (oi rfl) (QQ (DE.db (QQ (DE.db (Q9 (DE.db (Qa 0)) (DE.db Qe))) (DE.db (QcU (DE.db (Qa 1)) (DE.db (Qa 1)))))) (DE.db Qe))) (Qf (QbP PassesOwn.never rfl (Qaa gr z_range (DE.db (Qa 2))) (Qw (i:=5) QaS.nd rfl (oi rfl)) (Qr _) (Qf (QP (i:=6) QaS.nd rfl (oi rfl) (Q9 (DE.db (QQ (DE.db (QQ (DE.db (QcU (DE.db (Qa 6)) (DE.db Qe))) (DE.db (QcU (DE.db (Qa 5)) (DE.db (Qa 5)))))) (DE.db (Qa 1)))) (DE.db Qe))) (Qh (Qbp 3 (Q9 (DE.db (Qdy (DE.db (Q9 (DE.db (QcU (DE.db (Qa 6)) (DE.db (Qa 6)))) (DE.db Qe))) (DE.db Qe))) (DE.db (QnZ (DE.db Qe) (DE.db Qe)))) rfl (oi rfl))))) (Qh (Qf7 3 rfl (oi rfl))))))) :)
abbrev QdG:Stmt:=top 47
theorem QyC:Qq ["_law_script","_law_k"] ["_law_script","_law_k"] (Qb QdG):=⟨rfl,rfl,rfl,dk,rfl,dk,dk⟩
def Qes:SD->Out Fl:=(sSeq (sIf (tVal (e2 dLt (eVar 1) (eA fLen (aCons (eVar 0) aNil)))) (sRet (e2 dIx (eVar 0) (eVar 1))) sNil) (sRet (eC (.int 0))))
def Qa4:List D->Out D:=bodyF false 2 2 Qes
theorem QoH(d0 d1:D):Qa4 [d0,d1]=(Qes [some (.k,d0),some (.k,d1)]>>=retF false):=rfl
theorem QDq(F:FunV K "_law_cell" "_law_cell" QdG f fd dV)(z_len:mg "len"=none):"f"^1 ["_law_script","_law_k"] false Qa4:=
 (@fnV P w K mg base CT false _ _ _ f fd dV _ _ 0 Qes F QyC fun cdv A outer s H E G hr=>
  (Qf (ds_if (dt_lt (DE.db (Qa 1)) (DE.db (Qae gr z_len (Qs (DE.db (Qa 0)) Qz)))) (Qh (QJ (de_ix (Qa 0) (DE.db (Qa 1))))) QW) (Qh (QJ Qe))) :)
abbrev QbO:Stmt:=top 49
theorem Qdz:Qq ["_law_one","_law_many","_law_found","_law_k"] ["_law_one","_law_many"] (Qb QbO):=⟨rfl,rfl,rfl,dk,rfl,dk,dk⟩
def QbT:SD->Out Fl:=(sSeq (QaY 2 (e2 dMod (eVar 0) (eC (.int 10)))) (sSet 0 (e2 dFdiv (eVar 0) (eC (.int 10)))))
def Qd0:SD->Out Fl:=(sSeq (sSetO 2 (eLst aNil)) (sSeq (sFor (gN 3) (itR1 (eVar 1)) QbT) (sRetO 2)))
def QaR:List D->Out D:=bodyF true 2 4 Qd0
theorem QsY(d0 d1:D):QaR [d0,d1]=(Qd0 [some (.k,d0),some (.k,d1),none,none]>>=retF true):=rfl
theorem Quh(F:FunV K "_law_figures" "_law_figures" QbO f fd dV)(z_range:mg "range"=none):"f"^1 ["_law_one","_law_many"] true QaR:=
 (@fnV P w K mg base CT true _ _ _ f fd dV _ _ 0 Qd0 F Qdz fun cdv A outer s H E G hr=>
  (Qf (Qdo (i:=2) Qdz.nd rfl (oi rfl) (Qaw Qk)) (Qf (QbP PassesOwn.never rfl (Qaa gr z_range (DE.db (Qa 1))) (Qw (i:=3) Qdz.nd rfl (oi rfl)) (Qr _) (Qf (Qbp 2 (Q9 (DE.db (Qa 0)) (DE.db Qe)) rfl (oi rfl)) (Qh (QP (i:=0) Qdz.nd rfl (oi rfl) (Qdy (DE.db (Qa 0)) (DE.db Qe)))))) (Qh (Qf7 2 rfl (oi rfl))))) :)
abbrev Qdj:Stmt:=top 12
theorem QCv:Qq ["one","other"] ["one","other"] (Qb Qdj):=⟨rfl,rfl,rfl,dk,rfl,dk,dk⟩
abbrev Qxs:Scope:={ kind:=ScopeKind.function,names:=[ (Str.ofString ".0",NameKind.local),(Str.ofString "each",NameKind.local),(Str.ofString "more",NameKind.local)],isGenerator:=false,isCoroutine:=false,more:=[]:Scope }
theorem Qhm:Qy ["each","more"] [none,none] Qxs (Qb Qdj) ["one","other"]:=⟨rfl,dk,dk,rfl,dk,dk⟩
def QlY:SD->Out D:=(e2 dAdd (eVar 0) (eVar 1))
def Qg5:SD->Out Fl:=(sRetF (eComp [none,none] (itZ (eVar 0) (eVar 1)) (gT [0,1]) cTrue QlY))
def Qcz:List D->Out D:=bodyF true 2 2 Qg5
theorem QEZ(d0 d1:D):Qcz [d0,d1]=(Qg5 [some (.k,d0),some (.k,d1)]>>=retF true):=rfl
theorem QEV(F:FunV K "sums_of" "sums_of" Qdj f fd dV)(z_zip:mg "zip"=none):"f"^1 ["one","other"] true Qcz:=
 (@fnV P w K mg base CT true _ _ _ f fd dV _ _ 0 Qg5 F QCv fun cdv A outer s H E G hr=>
  (Qh (QaX (QR rfl Qhm (DI.b (QKg gr z_zip (Qa 0) (Qa 1))) (fun ς=>QmJ (fun i hi=>Qn (by revert hi;revert i;decide) ς)) (Qgg _) (fun fp s H G p=>⟨(Qks rfl (Qab (i:=0) Qhm.nd rfl (oi rfl) (Qab (i:=1) Qhm.nd rfl (oi rfl) Qd9 (hf:=Or.inr rfl)) (hf:=Or.inr rfl))),QA,(QQ (DE.db (Qa 0)) (DE.db (Qa 1)))⟩)))) :)
abbrev Qa3:Stmt:=top 13
theorem QeE:Qq ["rows","sums","row"] ["rows"] (Qb Qa3):=⟨rfl,rfl,rfl,dk,rfl,dk,dk⟩
abbrev Qk4:Scope:={ kind:=ScopeKind.function,names:=[(Str.ofString ".0",NameKind.local),(Str.ofString "each",NameKind.local)],isGenerator:=false,isCoroutine:=false,more:=[]:Scope }
theorem Qgd:Qy ["each"] [none] Qk4 (Qb Qa3) ["rows","sums","row"]:=⟨rfl,dk,dk,rfl,dk,dk⟩
def Qd7:SD->Out D:=(eC (.int 0))
def Qbz:SD->Out Fl:=(QaY 1 (eA (fun xs=>Qcz (xs++[])) (aCons (eIxO 1 (e1 dNeg (eC (.int 1)))) (aCons (eVar 2) aNil))))
def Qdx:SD->Out Fl:=(sSeq (sSetO 1 (eLst (aCons (eComp [none] (itL (e2 dIx (eVar 0) (eC (.int 0)))) (gN 0) cTrue Qd7) aNil))) (sSeq (sFor (gN 2) (itL (eVar 0)) Qbz) (sRetO 1)))
def Qau:List D->Out D:=bodyF true 1 3 Qdx
theorem Qrx(d0:D):Qau [d0]=(Qdx [some (.k,d0),none,none]>>=retF true):=rfl
theorem QqW(F:FunV K "running_sums" "running_sums" Qa3 f fd dV)(QEL:"e"^Qcz "sums_of" 1 true):"f"^2 ["rows"] true Qau:=
 (@fnV P w K mg base CT true _ _ _ f fd dV _ _ 1 Qdx F QeE fun cdv A outer s H E G hr=>
  (Qf (Qdo (i:=1) QeE.nd rfl (oi rfl) (Qaw (Qd (DF.de (QR rfl Qgd (DI.b (QK (de_ix (Qa 0) (DE.db Qe)))) (fun ς=>Qx (Qn rfl ς)) (Qr _) (fun fp s H G p=>⟨(Qw (i:=0) Qgd.nd rfl (oi rfl) (hf:=Or.inr rfl)),QA,Qe⟩))) Qk))) (Qf (QbP PassesOwn.never rfl (QK (Qa 0)) (Qw (i:=2) QeE.nd rfl (oi rfl)) (Qr _) (Qh (Qbp 1 (de_f QEL (Rm hr) (Qd (QFk 1 (DE.db (Qxf (DE.db Qe))) rfl (oi rfl)) (Qd (Qa 2) Qk)) gr) rfl (oi rfl)))) (Qh (Qf7 1 rfl (oi rfl))))) :)
abbrev Qay:Stmt:=inCls (top 14) 1
theorem Qjx:Qq ["self","rows"] ["self","rows"] (Qb Qay):=⟨rfl,rfl,rfl,dk,rfl,dk,dk⟩
abbrev Qim:Scope:={ kind:=ScopeKind.function,names:=[ (Str.ofString ".0",NameKind.local),(Str.ofString "row",NameKind.local),(Str.ofString "list",NameKind.globalImplicit)],isGenerator:=false,isCoroutine:=false,more:=[]:Scope }
theorem QeP:Qy ["row"] [none] Qim (Qb Qay) ["self","rows"]:=⟨rfl,dk,dk,rfl,dk,dk⟩
def Qc7:SD->Out D:=(e1 dList (eVar 0))
def Qcf:SD->Out Fl:=(sSeq (fun ς=>noX (sFldS Qj "table" 0 (eComp [none] (itL (eVar 1)) (gN 0) cTrue Qc7) ς)) (fun ς=>noX (sFldS Qj "heads" 0 (eA (fun xs=>Qau (xs++[])) (aCons (eVar 1) aNil)) ς)))
def QM:Str->List (Str×D)->List D->Out (List (Str×D)):=bodyI 2 2 Qcf
theorem Qk3(c:Str)(fds:List (Str×D))(d1:D):QM c fds [d1]=(Qcf [some (.s,.ins c fds),some (.k,d1)]>>=Qdg c):=rfl
theorem Qla(F:FunV K "keep_rows" "Clerk.keep_rows" Qay f fd dV)(Qpz:"e"^Qau "running_sums" 2 true)(z_list:mg "list"=none)(fo_table:FldOk K CT Qj "table")(fo_heads:FldOk K CT Qj "heads"):FnOk P w K mg base (CXR P w) 3 f fd ["self","rows"] (SpI K CT QM):=
 (@fnI P w K mg base CT _ _ _ f fd dV _ _ 2 Qcf F Qjx fun cdv A outer s H E G p hr=>
  (Qf (DS.lift (Qej 0 fo_table (DF.de (QR rfl QeP (DI.b (QK (Qa 1))) (fun ς=>Qx (Qn rfl ς)) (Qr _) (fun fp s H G p=>⟨(Qw (i:=0) QeP.nd rfl (oi rfl) (hf:=Or.inr rfl)),QA,(DF.de (Qc2 gr z_list (Qa 0)))⟩))) rfl (oi rfl))) (Qh (DS.lift (Qej 0 fo_heads (de_f Qpz (Rm hr) (Qd (Qa 1) Qk) gr) rfl (oi rfl))))) :)
abbrev QdA:Stmt:=top 6
theorem Qze:Qq ["thing"] ["thing"] (Qb QdA):=⟨rfl,rfl,rfl,dk,rfl,dk,dk⟩
def QfW:SD->Out Fl:=(sRet (eAnd (eIsa (isaT "int") (eVar 0)) (eNot (eIsa (isaT "bool") (eVar 0)))))
def QcF:List D->Out D:=bodyF false 1 1 QfW
theorem QCT(d0:D):QcF [d0]=(QfW [some (.k,d0)]>>=retF false):=rfl
theorem QD4(F:FunV K "is_whole" "is_whole" QdA f fd dV)(z_isinstance:mg "isinstance"=none)(z_int:mg "int"=none)(z_bool:mg "bool"=none):"f"^1 ["thing"] false QcF:=
 (@fnV P w K mg base CT false _ _ _ f fd dV _ _ 0 QfW F Qze fun cdv A outer s H E G hr=>
  (Qh (QJ (QcV (Qcm "int" QIb gr z_int PyProof.Rows.Boot.«int» gr z_isinstance (DE.db (Qa 0))) (Qfs (QJM (Qcm "bool" QG2 gr z_bool PyProof.Rows.Boot.«bool» gr z_isinstance (DE.db (Qa 0)))))))) :)
abbrev Qc4:Stmt:=top 7
theorem QuR:Qq ["thing","least","most"] ["thing","least","most"] (Qb Qc4):=⟨rfl,rfl,rfl,dk,rfl,dk,dk⟩
def Qfd:SD->Out Fl:=(sRet (eAnd (eA (fun xs=>QcF (xs++[])) (aCons (eVar 0) aNil)) (QbY dLe dLe (eVar 1) (eVar 0) (eVar 2))))
def Qai:List D->Out D:=bodyF false 3 3 Qfd
theorem QyZ(d0 d1 d2:D):Qai [d0,d1,d2]=(Qfd [some (.k,d0),some (.k,d1),some (.k,d2)]>>=retF false):=rfl
theorem Qzh(F:FunV K "is_within" "is_within" Qc4 f fd dV)(QCQ:"e"^QcF "is_whole" 1 false):"f"^2 ["thing","least","most"] false Qai:=
 (@fnV P w K mg base CT false _ _ _ f fd dV _ _ 1 Qfd F QuR fun cdv A outer s H E G hr=>
  (Qh (QJ (QcV (de_f QCQ (Rm hr) (Qd (Qa 0) Qk) gr) (Qfs (Qxk op_le Qbr (QaU fun _ _=>rfl) op_le Qbr (QaU fun _ _=>rfl) (DE.db (Qa 1)) (DE.db (Qa 0)) (DE.db (Qa 2))))))) :)
abbrev Qd8:Stmt:=top 20
theorem QGq:Qq ["thing"] ["thing"] (Qb Qd8):=⟨rfl,rfl,rfl,dk,rfl,dk,dk⟩
abbrev Qzs:Scope:={ kind:=ScopeKind.function,names:=[ (Str.ofString ".0",NameKind.local),(Str.ofString "count",NameKind.local),(Str.ofString "is_within",NameKind.globalImplicit),(Str.ofString "MOST_SENT",NameKind.globalImplicit)],isGenerator:=false,isCoroutine:=false,more:=[]:Scope }
theorem QnS:Qy ["count"] [none] Qzs (Qb Qd8) ["thing"]:=⟨rfl,dk,dk,rfl,dk,dk⟩
def QiI:SD->Out D:=(eA (fun xs=>Qai (xs++[])) (aCons (eVar 0) (aCons (eC (.int 0)) (aCons (eC (.int 9)) aNil))))
def Qip:SD->Out Fl:=(sSeq (sIf (tOr' (tNot' (tVal (eIsa (isaT "list") (eVar 0)))) (tVal (e2 dGt (eA fLen (aCons (eVar 0) aNil)) (eC (.int 6))))) (sRet (eC (.bl false))) sNil) (sRet (eA (f1 fAll) (aCons (eComp [none] (itL (eVar 0)) (gN 0) cTrue QiI) aNil))))
def QcA:List D->Out D:=bodyF false 1 1 Qip
theorem QHp(d0:D):QcA [d0]=(Qip [some (.k,d0)]>>=retF false):=rfl
theorem QHP{u_MOST_OUTS:Value}{u_MOST_SENT:Value}(F:FunV K "is_row" "is_row" Qd8 f fd dV)(Qb1:"e"^Qai "is_within" 2 false)(z_isinstance:mg "isinstance"=none)(z_list:mg "list"=none)(z_len:mg "len"=none)(z_all:mg "all"=none)(c_MOST_OUTS:mg "MOST_OUTS"=some u_MOST_OUTS)(r_MOST_OUTS:RelV (toV (.int 6)) u_MOST_OUTS)(c_MOST_SENT:mg "MOST_SENT"=some u_MOST_SENT)(r_MOST_SENT:RelV (toV (.int 9)) u_MOST_SENT):"f"^3 ["thing"] false QcA:=
 (@fnV P w K mg base CT false _ _ _ f fd dV _ _ 2 Qip F QGq fun cdv A outer s H E G hr=>
  (Qf (ds_if (DW.dt (dw_or (QaC (QaH (Qcm "list" Qiw gr z_list PyProof.Rows.Boot.«list» gr z_isinstance (DE.db (Qa 0))))) (QeK (dt_gt (DE.db (Qae gr z_len (Qs (DE.db (Qa 0)) Qz))) (DE.db (Qc1 (d:=(.int 6)) gr c_MOST_OUTS rfl r_MOST_OUTS)))))) (Qh (QJ de_bl)) QW) (Qh (QJ (Qfo rfl gr z_all (Qs (DE.db (DF.de (QR rfl QnS (DI.b (QK (Qa 0))) (fun ς=>Qx (Qn rfl ς)) (Qr _) (fun fp s H G p=>⟨(Qw (i:=0) QnS.nd rfl (oi rfl) (hf:=Or.inr rfl)),QA,(de_f Qb1 (Rm hr) (Qd (Qa 0) (Qd Qe (Qd (Qc1 (d:=(.int 9)) gr c_MOST_SENT rfl r_MOST_SENT) Qk))) gr)⟩)))) Qz))))) :)
abbrev QbZ:Stmt:=top 21
theorem Qys:Qq ["thing"] ["thing"] (Qb QbZ):=⟨rfl,rfl,rfl,dk,rfl,dk,dk⟩
abbrev Quj:Scope:={ kind:=ScopeKind.function,names:=[ (Str.ofString ".0",NameKind.local),(Str.ofString "row",NameKind.local),(Str.ofString "is_row",NameKind.globalImplicit)],isGenerator:=false,isCoroutine:=false,more:=[]:Scope }
theorem Qjp:Qy ["row"] [none] Quj (Qb QbZ) ["thing"]:=⟨rfl,dk,dk,rfl,dk,dk⟩
def Qgc:SD->Out D:=(eA (fun xs=>QcA (xs++[])) (aCons (eVar 0) aNil))
abbrev Qtg:Scope:={ kind:=ScopeKind.function,names:=[ (Str.ofString ".0",NameKind.local),(Str.ofString "row",NameKind.local),(Str.ofString "len",NameKind.globalImplicit),(Str.ofString "thing",NameKind.free)],isGenerator:=false,isCoroutine:=false,more:=[]:Scope }
theorem QjS:Qy ["row","thing"] [none,some 0] Qtg (Qb QbZ) ["thing"]:=⟨rfl,dk,dk,rfl,dk,dk⟩
def Qgf:SD->Out D:=(e2 dEq (eA fLen (aCons (eVar 0) aNil)) (eA fLen (aCons (e2 dIx (eVar 1) (eC (.int 0))) aNil)))
def Qf4:SD->Out Fl:=(sSeq (sIf (tOr' (tNot' (tVal (eIsa (isaT "list") (eVar 0)))) (tNot' (tVal (QbY dLe dLe (eC (.int 1)) (eA fLen (aCons (eVar 0) aNil)) (eC (.int 12)))))) (sRet (eC (.bl false))) sNil) (sSeq (sIf (tNot' (tVal (eA (f1 fAll) (aCons (eComp [none] (itL (eVar 0)) (gN 0) cTrue Qgc) aNil)))) (sRet (eC (.bl false))) sNil) (sRet (eA (f1 fAll) (aCons (eComp [none,some 0] (itL (eVar 0)) (gN 0) cTrue Qgf) aNil)))))
def QcG:List D->Out D:=bodyF false 1 1 Qf4
theorem QDa(d0:D):QcG [d0]=(Qf4 [some (.k,d0)]>>=retF false):=rfl
theorem QD3{u_MOST_ROWS:Value}(F:FunV K "is_table" "is_table" QbZ f fd dV)(Ql7:"e"^QcA "is_row" 3 false)(z_isinstance:mg "isinstance"=none)(z_list:mg "list"=none)(z_len:mg "len"=none)(z_all:mg "all"=none)(c_MOST_ROWS:mg "MOST_ROWS"=some u_MOST_ROWS)(r_MOST_ROWS:RelV (toV (.int 12)) u_MOST_ROWS):"f"^4 ["thing"] false QcG:=
 (@fnV P w K mg base CT false _ _ _ f fd dV _ _ 3 Qf4 F Qys fun cdv A outer s H E G hr=>
  (Qf (ds_if (DW.dt (dw_or (QaC (QaH (Qcm "list" Qiw gr z_list PyProof.Rows.Boot.«list» gr z_isinstance (DE.db (Qa 0))))) (QeK (QaC (Qwp op_le Qbr (QaU fun _ _=>rfl) op_le Qbr (QaU fun _ _=>rfl) (DE.db Qe) (DE.db (Qae gr z_len (Qs (DE.db (Qa 0)) Qz))) (DE.db (Qc1 (d:=(.int 12)) gr c_MOST_ROWS rfl r_MOST_ROWS))))))) (Qh (QJ de_bl)) QW) (Qf (ds_if (QaC (QaH (Qfo rfl gr z_all (Qs (DE.db (DF.de (QR rfl Qjp (DI.b (QK (Qa 0))) (fun ς=>Qx (Qn rfl ς)) (Qr _) (fun fp s H G p=>⟨(Qw (i:=0) Qjp.nd rfl (oi rfl) (hf:=Or.inr rfl)),QA,(de_f Ql7 (Rm hr) (Qd (Qa 0) Qk) gr)⟩)))) Qz)))) (Qh (QJ de_bl)) QW) (Qh (QJ (Qfo rfl gr z_all (Qs (DE.db (DF.de (QR rfl QjS (DI.b (QK (Qa 0))) (fun ς=>Qx (Qn rfl ς)) (Qr _) (fun fp s H G p=>⟨(Qw (i:=0) QjS.nd rfl (oi rfl) (hf:=Or.inr rfl)),QA,(de_eq hr.units (DE.db (Qae gr z_len (Qs (DE.db (Qa 0)) Qz))) (DE.db (Qae gr z_len (Qs (DE.db (de_ix (Qa 1) (DE.db Qe))) Qz))))⟩)))) Qz)))))) :)
abbrev Qc5:Stmt:=inCls (top 18) 0
theorem QuI:Qq ["self","rows"] ["self","rows"] (Qb Qc5):=⟨rfl,rfl,rfl,dk,rfl,dk,dk⟩
def Qe8:SD->Out Fl:=(sSeq (fun ς=>noX ((sIf (tNot' (tVal (eA (fun xs=>QcG (xs++[])) (aCons (eVar 1) aNil)))) Qel sNil) ς)) (Qfx Qc "keep_rows" QM 0 (fun ς=>noX ((aCons (eVar 1) aNil) ς))))
def Qb9:Str->List (Str×D)->List D->Out (List (Str×D)):=bodyI 2 2 Qe8
theorem QBC(c:Str)(fds:List (Str×D))(d1:D):Qb9 c fds [d1]=(Qe8 [some (.s,.ins c fds),some (.k,d1)]>>=Qdg c):=rfl
theorem QzA(F:FunV K "__init__" "Rows.__init__" Qc5 f fd dV)(QCX:"e"^QcG "is_table" 4 false)(ms_keep_rows:MtOk P w K mg base CT (CXR P w) "keep_rows" 3 Qc (fun _=>SpI K CT QM)):FnOk P w K mg base (CXR P w) 5 f fd ["self","rows"] (SpI K CT Qb9):=
 (@fnI P w K mg base CT _ _ _ f fd dV _ _ 4 Qe8 F QuI fun cdv A outer s H E G p hr=>
  (Qf (DS.lift (ds_if (QaC (QaH (de_f QCX (Rm hr) (Qd (Qa 1) Qk) gr))) (Qh Qdc) QW)) (Qh (Qis 0 QnI ms_keep_rows (Rm hr) (DA.lift (Qd (Qa 1) Qk)) rfl (oi rfl)))) :)
abbrev QbB:Stmt:=top 19
theorem QtV:Qq ["many","place"] ["many","place"] (Qb QbB):=⟨rfl,rfl,rfl,dk,rfl,dk,dk⟩
abbrev QoK:Scope:={ kind:=ScopeKind.function,names:=[ (Str.ofString ".0",NameKind.local),(Str.ofString "out",NameKind.local),(Str.ofString "place",NameKind.free)],isGenerator:=false,isCoroutine:=false,more:=[]:Scope }
theorem QhR:Qy ["out","place"] [none,some 1] QoK (Qb QbB) ["many","place"]:=⟨rfl,dk,dk,rfl,dk,dk⟩
def Qe6:SD->Out D:=(eIf (tVal (e2 dEq (eVar 0) (eVar 1))) (eC (.int 1)) (eC (.int 0)))
def QeC:SD->Out Fl:=(sRetF (eComp [none,some 1] (itR1 (eVar 0)) (gN 0) cTrue Qe6))
def QbG:List D->Out D:=bodyF true 2 2 QeC
theorem QwT(d0 d1:D):QbG [d0,d1]=(QeC [some (.k,d0),some (.k,d1)]>>=retF true):=rfl
theorem Qv7(F:FunV K "single_row" "single_row" QbB f fd dV)(z_range:mg "range"=none):"f"^1 ["many","place"] true QbG:=
 (@fnV P w K mg base CT true _ _ _ f fd dV _ _ 0 QeC F QtV fun cdv A outer s H E G hr=>
  (Qh (QaX (QR rfl QhR (DI.b (Qaa gr z_range (DE.db (Qa 0)))) (fun ς=>Qx (Qn rfl ς)) (Qr _) (fun fp s H G p=>⟨(Qw (i:=0) QhR.nd rfl (oi rfl) (hf:=Or.inr rfl)),QA,(de_if (dt_eq hr.units (DE.db (Qa 0)) (DE.db (Qa 1))) Qe Qe)⟩)))) :)
abbrev Qcd:Stmt:=inCls (top 15) 0
theorem Qv3:Qq ["self","many"] ["self","many"] (Qb Qcd):=⟨rfl,rfl,rfl,dk,rfl,dk,dk⟩
abbrev QpX:Scope:={ kind:=ScopeKind.function,names:=[ (Str.ofString ".0",NameKind.local),(Str.ofString "state",NameKind.local),(Str.ofString "single_row",NameKind.globalImplicit),(Str.ofString "many",NameKind.free)],isGenerator:=false,isCoroutine:=false,more:=[]:Scope }
theorem Qi3:Qy ["state","many"] [none,some 1] QpX (Qb Qcd) ["self","many"]:=⟨rfl,dk,dk,rfl,dk,dk⟩
def QfD:SD->Out D:=(eA (fun xs=>QbG (xs++[])) (aCons (eVar 1) (aCons (eVar 0) aNil)))
def Qfe:SD->Out Fl:=(sSeq (fun ς=>noX ((sIf (tNot' (tVal (eA (fun xs=>Qai (xs++[])) (aCons (eVar 1) (aCons (eC (.int 1)) (aCons (eC (.int 6)) aNil)))))) Qel sNil) ς)) (Qfx Qc "keep_rows" QM 0 (fun ς=>noX ((aCons (eComp [none,some 1] (itR1 (eVar 1)) (gN 0) cTrue QfD) aNil) ς))))
def Qb5:Str->List (Str×D)->List D->Out (List (Str×D)):=bodyI 2 2 Qfe
theorem QyR(c:Str)(fds:List (Str×D))(d1:D):Qb5 c fds [d1]=(Qfe [some (.s,.ins c fds),some (.k,d1)]>>=Qdg c):=rfl
theorem QBh{u_MOST_OUTS:Value}(F:FunV K "__init__" "Deal.__init__" Qcd f fd dV)(Qb1:"e"^Qai "is_within" 2 false)(Qvg:"e"^QbG "single_row" 1 true)(z_range:mg "range"=none)(c_MOST_OUTS:mg "MOST_OUTS"=some u_MOST_OUTS)(r_MOST_OUTS:RelV (toV (.int 6)) u_MOST_OUTS)(ms_keep_rows:MtOk P w K mg base CT (CXR P w) "keep_rows" 3 Qc (fun _=>SpI K CT QM)):FnOk P w K mg base (CXR P w) 4 f fd ["self","many"] (SpI K CT Qb5):=
 (@fnI P w K mg base CT _ _ _ f fd dV _ _ 3 Qfe F Qv3 fun cdv A outer s H E G p hr=>
  (Qf (DS.lift (ds_if (QaC (QaH (de_f Qb1 (Rm hr) (Qd (Qa 1) (Qd Qe (Qd (Qc1 (d:=(.int 6)) gr c_MOST_OUTS rfl r_MOST_OUTS) Qk))) gr))) (Qh Qdc) QW)) (Qh (Qis 0 QnI ms_keep_rows (Rm hr) (DA.lift (Qd (DF.de (QR rfl Qi3 (DI.b (Qaa gr z_range (DE.db (Qa 1)))) (fun ς=>Qx (Qn rfl ς)) (Qr _) (fun fp s H G p=>⟨(Qw (i:=0) Qi3.nd rfl (oi rfl) (hf:=Or.inr rfl)),QA,(de_f Qvg (Rm hr) (Qd (Qa 1) (Qd (Qa 0) Qk)) gr)⟩))) Qk)) rfl (oi rfl)))) :)
abbrev Qbi:Stmt:=inCls (top 16) 0
theorem Qqh:Qq ["self","size"] ["self","size"] (Qb Qbi):=⟨rfl,rfl,rfl,dk,rfl,dk,dk⟩
abbrev QmM:Scope:={ kind:=ScopeKind.function,names:=[ (Str.ofString ".0",NameKind.local),(Str.ofString "state",NameKind.local),(Str.ofString "size",NameKind.free)],isGenerator:=false,isCoroutine:=false,more:=[]:Scope }
theorem QgY:Qy ["state","size"] [none,some 1] QmM (Qb Qbi) ["self","size"]:=⟨rfl,dk,dk,rfl,dk,dk⟩
def QeH:SD->Out D:=(eLst (aCons (eIf (tVal (e2 dEq (eVar 0) (e2 dSub (eVar 1) (eC (.int 1))))) (eC (.int 1)) (eC (.int 0))) aNil))
def Qd3:SD->Out Fl:=(sSeq (fun ς=>noX ((sIf (tNot' (tVal (eA (fun xs=>Qai (xs++[])) (aCons (eVar 1) (aCons (eC (.int 1)) (aCons (eC (.int 12)) aNil)))))) Qel sNil) ς)) (Qfx Qc "keep_rows" QM 0 (fun ς=>noX ((aCons (eComp [none,some 1] (itR1 (eVar 1)) (gN 0) cTrue QeH) aNil) ς))))
def Qbh:Str->List (Str×D)->List D->Out (List (Str×D)):=bodyI 2 2 Qd3
theorem Qtp(c:Str)(fds:List (Str×D))(d1:D):Qbh c fds [d1]=(Qd3 [some (.s,.ins c fds),some (.k,d1)]>>=Qdg c):=rfl
theorem Qtq{u_MOST_ROWS:Value}(F:FunV K "__init__" "Bundle.__init__" Qbi f fd dV)(Qb1:"e"^Qai "is_within" 2 false)(z_range:mg "range"=none)(c_MOST_ROWS:mg "MOST_ROWS"=some u_MOST_ROWS)(r_MOST_ROWS:RelV (toV (.int 12)) u_MOST_ROWS)(ms_keep_rows:MtOk P w K mg base CT (CXR P w) "keep_rows" 3 Qc (fun _=>SpI K CT QM)):FnOk P w K mg base (CXR P w) 4 f fd ["self","size"] (SpI K CT Qbh):=
 (@fnI P w K mg base CT _ _ _ f fd dV _ _ 3 Qd3 F Qqh fun cdv A outer s H E G p hr=>
  (Qf (DS.lift (ds_if (QaC (QaH (de_f Qb1 (Rm hr) (Qd (Qa 1) (Qd Qe (Qd (Qc1 (d:=(.int 12)) gr c_MOST_ROWS rfl r_MOST_ROWS) Qk))) gr))) (Qh Qdc) QW)) (Qh (Qis 0 QnI ms_keep_rows (Rm hr) (DA.lift (Qd (DF.de (QR rfl QgY (DI.b (Qaa gr z_range (DE.db (Qa 1)))) (fun ς=>Qx (Qn rfl ς)) (Qr _) (fun fp s H G p=>⟨(Qw (i:=0) QgY.nd rfl (oi rfl) (hf:=Or.inr rfl)),QA,(DF.de (Qaw (Qd (de_if (dt_eq hr.units (DE.db (Qa 0)) (DE.db (Qj5 (DE.db (Qa 1)) (DE.db Qe)))) Qe Qe) Qk)))⟩))) Qk)) rfl (oi rfl)))) :)
abbrev QcZ:Stmt:=inCls (top 17) 0
theorem Qwu:Qq ["self","counts"] ["self","counts"] (Qb QcZ):=⟨rfl,rfl,rfl,dk,rfl,dk,dk⟩
def Qfk:SD->Out Fl:=(sSeq (fun ς=>noX ((sIf (tNot' (tVal (eA (fun xs=>QcA (xs++[])) (aCons (eVar 1) aNil)))) Qel sNil) ς)) (Qfx Qc "keep_rows" QM 0 (fun ς=>noX ((aCons (eLst (aCons (eVar 1) aNil)) aNil) ς))))
def Qb7:Str->List (Str×D)->List D->Out (List (Str×D)):=bodyI 2 2 Qfk
theorem QBk(c:Str)(fds:List (Str×D))(d1:D):Qb7 c fds [d1]=(Qfk [some (.s,.ins c fds),some (.k,d1)]>>=Qdg c):=rfl
theorem Qyt(F:FunV K "__init__" "Copy.__init__" QcZ f fd dV)(Ql7:"e"^QcA "is_row" 3 false)(ms_keep_rows:MtOk P w K mg base CT (CXR P w) "keep_rows" 3 Qc (fun _=>SpI K CT QM)):FnOk P w K mg base (CXR P w) 4 f fd ["self","counts"] (SpI K CT Qb7):=
 (@fnI P w K mg base CT _ _ _ f fd dV _ _ 3 Qfk F Qwu fun cdv A outer s H E G p hr=>
  (Qf (DS.lift (ds_if (QaC (QaH (de_f Ql7 (Rm hr) (Qd (Qa 1) Qk) gr))) (Qh Qdc) QW)) (Qh (Qis 0 QnI ms_keep_rows (Rm hr) (DA.lift (Qd (DF.de (Qaw (Qd (Qa 1) Qk))) Qk)) rfl (oi rfl)))) :)
abbrev Qah:Stmt:=top 50
theorem QaM:Qq ["_law_d","_law_many","_law_rows","_law_size","_law_texts"] ["_law_d"] (Qb Qah):=⟨rfl,rfl,rfl,dk,rfl,dk,dk⟩
abbrev QhQ:Scope:={ kind:=ScopeKind.function,names:=[ (Str.ofString ".0",NameKind.local),(Str.ofString "_law_s",NameKind.cell),(Str.ofString "range",NameKind.globalImplicit),(Str.ofString "_law_many",NameKind.free)],isGenerator:=false,isCoroutine:=false,more:=[]:Scope }
theorem QiS:Qy ["_law_s","_law_many"] [none,some 1] QhQ (Qb Qah) ["_law_d","_law_many","_law_rows","_law_size","_law_texts"]:=⟨rfl,dk,dk,rfl,dk,dk⟩
abbrev QpB:Scope:={ kind:=ScopeKind.function,names:=[ (Str.ofString ".0",NameKind.local),(Str.ofString "_law_k",NameKind.local),(Str.ofString "int",NameKind.globalImplicit),(Str.ofString "_law_s",NameKind.free)],isGenerator:=false,isCoroutine:=false,more:=[]:Scope }
theorem QiP:Qy ["_law_k","_law_s"] [none,some 0] QpB (Qcc QhQ (Qb Qah)) ["_law_s","_law_many"]:=⟨rfl,dk,dk,rfl,dk,dk⟩
def Qi8:SD->Out D:=(eA (f1 dInt) (aCons (e2 dEq (eVar 0) (eVar 1)) aNil))
def QfH:SD->Out D:=(eComp [none,some 0] (itR1 (eVar 1)) (gN 0) cTrue Qi8)
abbrev Qru:Scope:={ kind:=ScopeKind.function,names:=[ (Str.ofString ".0",NameKind.local),(Str.ofString "_law_s",NameKind.local),(Str.ofString "int",NameKind.globalImplicit),(Str.ofString "_law_size",NameKind.free)],isGenerator:=false,isCoroutine:=false,more:=[]:Scope }
theorem QiQ:Qy ["_law_s","_law_size"] [none,some 3] Qru (Qb Qah) ["_law_d","_law_many","_law_rows","_law_size","_law_texts"]:=⟨rfl,dk,dk,rfl,dk,dk⟩
def QfE:SD->Out D:=(eLst (aCons (eA (f1 dInt) (aCons (e2 dEq (eVar 0) (e2 dSub (eVar 1) (eC (.int 1)))) aNil)) aNil))
abbrev QpC:Scope:={ kind:=ScopeKind.function,names:=[ (Str.ofString ".0",NameKind.local),(Str.ofString "_law_s",NameKind.local),(Str.ofString "_law_figures",NameKind.globalImplicit),(Str.ofString "_law_d",NameKind.free)],isGenerator:=false,isCoroutine:=false,more:=[]:Scope }
theorem Qi1:Qy ["_law_s","_law_d"] [none,some 0] QpC (Qb Qah) ["_law_d","_law_many","_law_rows","_law_size","_law_texts"]:=⟨rfl,dk,dk,rfl,dk,dk⟩
def Qfz:SD->Out D:=(eA (fun xs=>QaR (xs++[])) (aCons (e2 dIx (eVar 1) (e2 dAdd (eC (.int 3)) (eVar 0))) (aCons (e2 dMod (e2 dIx (eVar 1) (eC (.int 2))) (eC (.int 7))) aNil)))
abbrev QhB:Scope:={ kind:=ScopeKind.function,names:=[(Str.ofString ".0",NameKind.local),(Str.ofString "_law_row",NameKind.local)],isGenerator:=false,isCoroutine:=false,more:=[]:Scope }
theorem QiU:Qy ["_law_row"] [none] QhB (Qb Qah) ["_law_d","_law_many","_law_rows","_law_size","_law_texts"]:=⟨rfl,dk,dk,rfl,dk,dk⟩
abbrev QqN:Scope:={ kind:=ScopeKind.function,names:=[ (Str.ofString ".0",NameKind.local),(Str.ofString "_law_count",NameKind.local),(Str.ofString "str",NameKind.globalImplicit)],isGenerator:=false,isCoroutine:=false,more:=[]:Scope }
theorem QiW:Qy ["_law_count"] [none] QqN (Qcc QhB (Qb Qah)) ["_law_row"]:=⟨rfl,dk,dk,rfl,dk,dk⟩
def QfI:SD->Out D:=(eA (f1 dStr) (aCons (eVar 0) aNil))
def QfJ:SD->Out D:=(eSm fJoin (eC (.str ",")) (aCons (eComp [none] (itL (eVar 0)) (gN 0) cTrue QfI) aNil))
abbrev Qps:Scope:={ kind:=ScopeKind.function,names:=[ (Str.ofString ".0",NameKind.local),(Str.ofString "_law_row",NameKind.local),(Str.ofString "list",NameKind.globalImplicit)],isGenerator:=false,isCoroutine:=false,more:=[]:Scope }
theorem QiZ:Qy ["_law_row"] [none] Qps (Qb Qah) ["_law_d","_law_many","_law_rows","_law_size","_law_texts"]:=⟨rfl,dk,dk,rfl,dk,dk⟩
def Qfy:SD->Out D:=(e1 dList (eVar 0))
def Qb4:SD->Out Fl:=(sSeq (sIf (tVal (e2 dEq (e2 dMod (e2 dIx (eVar 0) (eC (.int 0))) (eC (.int 4))) (eC (.int 0)))) (sSeq (sSet 1 (e2 dAdd (eC (.int 1)) (e2 dMod (e2 dIx (eVar 0) (eC (.int 1))) (eC (.int 6))))) (sSeq (sSet 2 (eComp [none,some 1] (itR1 (eVar 1)) (gN 0) cTrue QfH)) (sRetF (eLst (aCons (eMake "Deal" Qb5 (aCons (eVar 1) aNil)) (aCons (eVar 2) (aCons (e2 dAdd (eC (.str "deal ")) (eA (f1 dStr) (aCons (eVar 1) aNil))) aNil))))))) sNil) (sSeq (sSet 3 (e2 dAdd (eC (.int 1)) (e2 dMod (e2 dIx (eVar 0) (eC (.int 1))) (eC (.int 12))))) (sSeq (sIf (tVal (e2 dEq (e2 dMod (e2 dIx (eVar 0) (eC (.int 0))) (eC (.int 4))) (eC (.int 1)))) (sSeq (sSet 2 (eComp [none,some 3] (itR1 (eVar 3)) (gN 0) cTrue QfE)) (sRetF (eLst (aCons (eMake "Bundle" Qbh (aCons (eVar 3) aNil)) (aCons (eVar 2) (aCons (e2 dAdd (eC (.str "bundle ")) (eA (f1 dStr) (aCons (eVar 3) aNil))) aNil)))))) sNil) (sSeq (sIf (tVal (e2 dEq (e2 dMod (e2 dIx (eVar 0) (eC (.int 0))) (eC (.int 4))) (eC (.int 2)))) (sSet 3 (eC (.int 1))) sNil) (sSeq (sSet 2 (eComp [none,some 0] (itR1 (eVar 3)) (gN 0) cTrue Qfz)) (sSeq (sSet 4 (eComp [none] (itL (eVar 2)) (gN 0) cTrue QfJ)) (sSeq (sIf (tVal (e2 dEq (e2 dMod (e2 dIx (eVar 0) (eC (.int 2))) (eC (.int 7))) (eC (.int 0)))) (sSet 4 (e2 dRep (eLst (aCons (eC (.str "-")) aNil)) (eVar 3))) sNil) (sSeq (sIf (tVal (e2 dEq (e2 dMod (e2 dIx (eVar 0) (eC (.int 0))) (eC (.int 4))) (eC (.int 2)))) (sRetF (eLst (aCons (eMake "Copy" Qb7 (aCons (e1 dList (e2 dIx (eVar 2) (eC (.int 0)))) aNil)) (aCons (eVar 2) (aCons (e2 dAdd (eC (.str "copy ")) (e2 dIx (eVar 4) (eC (.int 0)))) aNil))))) sNil) (sRetF (eLst (aCons (eMake "Rows" Qb9 (aCons (eComp [none] (itL (eVar 2)) (gN 0) cTrue Qfy) aNil)) (aCons (eVar 2) (aCons (e2 dAdd (eC (.str "rows ")) (eSm fJoin (eC (.str "/")) (aCons (eVar 4) aNil))) aNil)))))))))))))
def Qa5:List D->Out D:=bodyF true 1 5 Qb4
theorem Qfc(d0:D):Qa5 [d0]=(Qb4 [some (.k,d0),none,none,none,none]>>=retF true):=rfl
theorem QyJ(F:FunV K "_law_clerk" "_law_clerk" Qah f fd dV)(QsB:"e"^QaR "_law_figures" 1 true)(z_range:mg "range"=none)(z_int:mg "int"=none)(z_str:mg "str"=none)(z_list:mg "list"=none)(Qqm:MkOk P w K mg base CT "Deal" 4 Qb5)(QjI:MkOk P w K mg base CT "Bundle" 4 Qbh)(QqZ:MkOk P w K mg base CT "Copy" 4 Qb7)(Qp6:MkOk P w K mg base CT "Rows" 5 Qb9):"f"^7 ["_law_d"] true Qa5:=
 (@fnV P w K mg base CT true _ _ _ f fd dV _ _ 6 Qb4 F QaM fun cdv A outer s H E G hr=>
  (Qf (ds_if (dt_eq hr.units (DE.db (Q9 (DE.db (de_ix (Qa 0) (DE.db Qe))) (DE.db Qe))) (DE.db Qe)) (Qf (QP (i:=1) QaM.nd rfl (Or.inr rfl) (QQ (DE.db Qe) (DE.db (Q9 (DE.db (de_ix (Qa 0) (DE.db Qe))) (DE.db Qe))))) (Qf (Qcq (i:=2) rfl QiS (DI.b (Qaa gr z_range (DE.db (Qa 1)))) (fun ς=>Qx (Qn rfl ς)) (Qr _) (fun fp s H G p=>⟨(Qw (i:=0) QiS.nd rfl (Or.inr rfl) (hf:=Or.inl rfl)),QA,(DF.de (QR rfl QiP (DI.b (Qaa gr z_range (DE.db (Qa 1)))) (fun ς=>Qx (Qn rfl ς)) (Qr _) (fun fp s H G p=>⟨(Qw (i:=0) QiP.nd rfl (oi rfl) (hf:=Or.inr rfl)),QA,(Qry gr z_int (Qs (DE.db (de_eq hr.units (DE.db (Qa 0)) (DE.db (Qa 1)))) Qz))⟩)))⟩) QaM.nd rfl (oi rfl)) (Qh (QaX (Qaw (Qd (DF.de (QhD rz0 Qqm (Rm hr) (Qd (Qa 1) Qk) gr)) (Qd (Qa 2) (Qd (QQ (DE.db QL) (DE.db (Qed gr z_str (Qs (DE.db (Qa 1)) Qz)))) Qk)))))))) QW) (Qf (QP (i:=3) QaM.nd rfl (Or.inr rfl) (QQ (DE.db Qe) (DE.db (Q9 (DE.db (de_ix (Qa 0) (DE.db Qe))) (DE.db Qe))))) (Qf (ds_if (dt_eq hr.units (DE.db (Q9 (DE.db (de_ix (Qa 0) (DE.db Qe))) (DE.db Qe))) (DE.db Qe)) (Qf (Qcq (i:=2) rfl QiQ (DI.b (Qaa gr z_range (DE.db (Qa 3)))) (fun ς=>Qx (Qn rfl ς)) (Qr _) (fun fp s H G p=>⟨(Qw (i:=0) QiQ.nd rfl (oi rfl) (hf:=Or.inr rfl)),QA,(DF.de (Qaw (Qd (Qry gr z_int (Qs (DE.db (de_eq hr.units (DE.db (Qa 0)) (DE.db (Qj5 (DE.db (Qa 1)) (DE.db Qe))))) Qz)) Qk)))⟩) QaM.nd rfl (oi rfl)) (Qh (QaX (Qaw (Qd (DF.de (QhD rz0 QjI (Rm hr) (Qd (Qa 3) Qk) gr)) (Qd (Qa 2) (Qd (QQ (DE.db QL) (DE.db (Qed gr z_str (Qs (DE.db (Qa 3)) Qz)))) Qk))))))) QW) (Qf (ds_if (dt_eq hr.units (DE.db (Q9 (DE.db (de_ix (Qa 0) (DE.db Qe))) (DE.db Qe))) (DE.db Qe)) (Qh (QP (i:=3) QaM.nd rfl (Or.inr rfl) Qe)) QW) (Qf (Qcq (i:=2) rfl Qi1 (DI.b (Qaa gr z_range (DE.db (Qa 3)))) (fun ς=>Qx (Qn rfl ς)) (Qr _) (fun fp s H G p=>⟨(Qw (i:=0) Qi1.nd rfl (oi rfl) (hf:=Or.inr rfl)),QA,(de_f QsB (Rm hr) (Qd (de_ix (Qa 1) (DE.db (QQ (DE.db Qe) (DE.db (Qa 0))))) (Qd (Q9 (DE.db (de_ix (Qa 1) (DE.db Qe))) (DE.db Qe)) Qk)) gr)⟩) QaM.nd rfl (oi rfl)) (Qf (Qcq (i:=4) rfl QiU (DI.b (QK (Qa 2))) (fun ς=>Qx (Qn rfl ς)) (Qr _) (fun fp s H G p=>⟨(Qw (i:=0) QiU.nd rfl (oi rfl) (hf:=Or.inr rfl)),QA,(Qeg (DE.db QL) (DF.de (QR rfl QiW (DI.b (QK (Qa 0))) (fun ς=>Qx (Qn rfl ς)) (Qr _) (fun fp s H G p=>⟨(Qw (i:=0) QiW.nd rfl (oi rfl) (hf:=Or.inr rfl)),QA,(Qed gr z_str (Qs (DE.db (Qa 0)) Qz))⟩))))⟩) QaM.nd rfl (oi rfl)) (Qf (ds_if (dt_eq hr.units (DE.db (Q9 (DE.db (de_ix (Qa 0) (DE.db Qe))) (DE.db Qe))) (DE.db Qe)) (Qh (QP (i:=4) QaM.nd rfl (oi rfl) (DF.de (QFP (Qaw (Qd QL Qk)) (DE.db (Qa 3)))))) QW) (Qf (ds_if (dt_eq hr.units (DE.db (Q9 (DE.db (de_ix (Qa 0) (DE.db Qe))) (DE.db Qe))) (DE.db Qe)) (Qh (QaX (Qaw (Qd (DF.de (QhD rz0 QqZ (Rm hr) (Qd (DF.de (Qc2 gr z_list (de_ix (Qa 2) (DE.db Qe)))) Qk) gr)) (Qd (Qa 2) (Qd (QQ (DE.db QL) (DE.db (de_ix (Qa 4) (DE.db Qe)))) Qk)))))) QW) (Qh (QaX (Qaw (Qd (DF.de (QhD rz0 Qp6 (Rm hr) (Qd (DF.de (QR rfl QiZ (DI.b (QK (Qa 2))) (fun ς=>Qx (Qn rfl ς)) (Qr _) (fun fp s H G p=>⟨(Qw (i:=0) QiZ.nd rfl (oi rfl) (hf:=Or.inr rfl)),QA,(DF.de (Qc2 gr z_list (Qa 0)))⟩))) Qk) gr)) (Qd (Qa 2) (Qd (QQ (DE.db QL) (DE.db (Qeg (DE.db QL) (Qa 4)))) Qk)))))))))))))) :)
abbrev Qdw:Stmt:=top 51
theorem Qao:Qq ["_law_d","_law_used","_law_letters","_law_words","_law_name_here","_law_rest","_law_j","_law_spare"] ["_law_d","_law_used"] (Qb Qdw):=⟨rfl,rfl,rfl,dk,rfl,dk,dk⟩
def QeI:SD->Out Fl:=(sSeq (sSet 4 (e2 dAdd (eVar 4) (e2 dIx (eVar 2) (e2 dMod (eVar 5) (eC (.int 26)))))) (sSet 5 (e2 dFdiv (eVar 5) (eC (.int 26)))))
def Qbd:SD->Out Bool:=(tOr' (tVal (e2 dInL (eVar 4) (eVar 1))) (tVal (e2 dEq (eVar 4) (eC (.str "nobody")))))
def Qbc:SD->Out Fl:=(sSeq (sSet 4 (e2 dAdd (e2 dIx (eVar 2) (e2 dMod (eVar 7) (eC (.int 26)))) (e2 dIx (eVar 2) (e2 dFdiv (eVar 7) (eC (.int 26)))))) (sSet 7 (e2 dAdd (eVar 7) (eC (.int 1)))))
def QfS:SD->Out Fl:=(sSeq (sSet 2 (eC (.str "abcdefghijklmnopqrstuvwxyz"))) (sSeq (sSet 3 (eLst (aCons (eC (.str "to")) (aCons (eC (.str "at")) (aCons (eC (.str "door")) (aCons (eC (.str "entry")) (aCons (eC (.str "clerk")) (aCons (eC (.str "bundle")) (aCons (eC (.str "copy")) (aCons (eC (.str "a")) aNil)))))))))) (sSeq (sSet 4 (eC (.str ""))) (sSeq (sSet 5 (e2 dAdd (e2 dIx (eVar 0) (eC (.int 1))) (e2 dMul (e2 dPow (eC (.int 10)) (eC (.int 6))) (e2 dIx (eVar 0) (eC (.int 2)))))) (sSeq (sFor (gN 6) (itR1 (e2 dAdd (eC (.int 1)) (e2 dMod (e2 dIx (eVar 0) (eC (.int 0))) (eC (.int 6))))) QeI) (sSeq (sIf (tVal (e2 dEq (e2 dMod (e2 dFdiv (e2 dIx (eVar 0) (eC (.int 0))) (eC (.int 6))) (eC (.int 8))) (eC (.int 3)))) (sSet 4 (e2 dIx (eVar 3) (e2 dMod (e2 dFdiv (e2 dIx (eVar 0) (eC (.int 0))) (eC (.int 48))) (eC (.int 8))))) sNil) (sSeq (sSet 7 (eC (.int 0))) (sSeq (QaN Qbd Qbc) (sRet (eVar 4))))))))))
def Qa7:List D->Out D:=bodyF false 2 8 QfS
theorem QEz(d0 d1:D):Qa7 [d0,d1]=(QfS [some (.k,d0),some (.k,d1),none,none,none,none,none,none]>>=retF false):=rfl
theorem QEo(F:FunV K "_law_name" "_law_name" Qdw f fd dV)(z_range:mg "range"=none):"f"^1 ["_law_d","_law_used"] false Qa7:=
 (@fnV P w K mg base CT false _ _ _ f fd dV _ _ 0 QfS F Qao fun cdv A outer s H E G hr=>
  (Qf (QP (i:=2) Qao.nd rfl (oi rfl) QL) (Qf (QP (i:=3) Qao.nd rfl (oi rfl) (DF.de (Qaw (Qd QL (Qd QL (Qd QL (Qd QL (Qd QL (Qd QL (Qd QL (Qd QL Qk))))))))))) (Qf (QP (i:=4) Qao.nd rfl (oi rfl) QL) (Qf (QP (i:=5) Qao.nd rfl (oi rfl) (QQ (DE.db (de_ix (Qa 0) (DE.db Qe))) (DE.db (QcU (DE.db (QnZ (DE.db Qe) (DE.db Qe))) (DE.db (de_ix (Qa 0) (DE.db Qe))))))) (Qf (QbP PassesOwn.never rfl (Qaa gr z_range (DE.db (QQ (DE.db Qe) (DE.db (Q9 (DE.db (de_ix (Qa 0) (DE.db Qe))) (DE.db Qe)))))) (Qw (i:=6) Qao.nd rfl (oi rfl)) (Qr _) (Qf (QP (i:=4) Qao.nd rfl (oi rfl) (QQ (DE.db (Qa 4)) (DE.db (de_ix (Qa 2) (DE.db (Q9 (DE.db (Qa 5)) (DE.db Qe))))))) (Qh (QP (i:=5) Qao.nd rfl (oi rfl) (Qdy (DE.db (Qa 5)) (DE.db Qe)))))) (Qf (ds_if (dt_eq hr.units (DE.db (Q9 (DE.db (Qdy (DE.db (de_ix (Qa 0) (DE.db Qe))) (DE.db Qe))) (DE.db Qe))) (DE.db Qe)) (Qh (QP (i:=4) Qao.nd rfl (oi rfl) (de_ix (Qa 3) (DE.db (Q9 (DE.db (Qdy (DE.db (de_ix (Qa 0) (DE.db Qe))) (DE.db Qe))) (DE.db Qe)))))) QW) (Qf (QP (i:=7) Qao.nd rfl (oi rfl) Qe) (Qf (QGG PassesOwn.never (DW.dt (dw_or (QJI (DE.db (Qa 4)) (DE.db (Qa 1))) (QeK (dt_eq hr.units (DE.db (Qa 4)) (DE.db QL))))) (Qf (QP (i:=4) Qao.nd rfl (oi rfl) (QQ (DE.db (de_ix (Qa 2) (DE.db (Q9 (DE.db (Qa 7)) (DE.db Qe))))) (DE.db (de_ix (Qa 2) (DE.db (Qdy (DE.db (Qa 7)) (DE.db Qe))))))) (Qh (QP (i:=7) Qao.nd rfl (oi rfl) (QQ (DE.db (Qa 7)) (DE.db Qe)))))) (Qh (QJ (Qa 4))))))))))) :)
abbrev Qcj:Stmt:=top 53
theorem Qbg:Qq ["_law_d","_law_names","_law_many","_law_used","_law_let_in_here","_law_j","_law_name_here","_law_other"] ["_law_d","_law_names","_law_many"] (Qb Qcj):=⟨rfl,rfl,rfl,dk,rfl,dk,dk⟩
def Qdv:SD->Out Fl:=(sSeq (sSet 6 (fun ς=>QgB ((eA (fun xs=>Qa7 (xs++[])) (aCons (eSl (eVar 0) (oSome (e2 dAdd (eC (.int 1)) (e2 dMul (eC (.int 5)) (eVar 5)))) (oSome (e2 dAdd (eC (.int 4)) (e2 dMul (eC (.int 5)) (eVar 5))))) (aCons (eVarB 3) aNil))) ς))) (sSeq (sSet 7 (e2 dIx (eVar 1) (e2 dMod (e2 dFdiv (e2 dIx (eVar 0) (e2 dAdd (eC (.int 4)) (e2 dMul (eC (.int 5)) (eVar 5)))) (eC (.int 3))) (eA fLen (aCons (eVar 1) aNil))))) (sSeq (sIf (tAnd' (tVal (e2 dGt (e2 dMod (e2 dIx (eVar 0) (e2 dAdd (eC (.int 4)) (e2 dMul (eC (.int 5)) (eVar 5)))) (eC (.int 3))) (eC (.int 0)))) (tVal (e2 Qf6 (eVar 7) (eVarB 3)))) (sSet 6 (eVar 7)) sNil) (sSeq (QaY 3 (eVar 6)) (QaY 4 (eTup (aCons (eVar 6) (aCons (e2 dMod (e2 dIx (eVar 0) (e2 dAdd (eC (.int 5)) (e2 dMul (eC (.int 5)) (eVar 5)))) (eVar 2)) aNil))))))))
def Qen:SD->Out Fl:=(sSeq (sSetO 3 (eLst aNil)) (sSeq (sSetO 4 (eLst aNil)) (sSeq (sFor (gN 5) (itR1 (e2 dAdd (eC (.int 1)) (e2 dMod (e2 dIx (eVar 0) (eC (.int 0))) (eC (.int 6))))) Qdv) (sRetO 4))))
def QbE:List D->Out D:=bodyF true 3 8 Qen
theorem Qwa(d0 d1 d2:D):QbE [d0,d1,d2]=(Qen [some (.k,d0),some (.k,d1),some (.k,d2),none,none,none,none,none]>>=retF true):=rfl
theorem Qu4(F:FunV K "_law_let_in" "_law_let_in" Qcj f fd dV)(QfX:"e"^Qa7 "_law_name" 1 false)(z_range:mg "range"=none)(z_len:mg "len"=none):"f"^2 ["_law_d","_law_names","_law_many"] true QbE:=
 (@fnV P w K mg base CT true _ _ _ f fd dV _ _ 1 Qen F Qbg fun cdv A outer s H E G hr=>
  (Qf (Qdo (i:=3) Qbg.nd rfl (oi rfl) (Qaw Qk)) (Qf (Qdo (i:=4) Qbg.nd rfl (oi rfl) (Qaw Qk)) (Qf (QbP PassesOwn.never rfl (Qaa gr z_range (DE.db (QQ (DE.db Qe) (DE.db (Q9 (DE.db (de_ix (Qa 0) (DE.db Qe))) (DE.db Qe)))))) (Qw (i:=5) Qbg.nd rfl (oi rfl)) (Qr _) (Qf (QP (i:=6) Qbg.nd rfl (oi rfl) (DB.de (db_f QfX (Rm hr) (Qs (DE.db (DF.de (df_sl (Qa 0) (QeZ (DE.db (QQ (DE.db Qe) (DE.db (QcU (DE.db Qe) (DE.db (Qa 5))))))) (QeZ (DE.db (QQ (DE.db Qe) (DE.db (QcU (DE.db Qe) (DE.db (Qa 5)))))))))) (Qs (Qfu 3) Qz)) gr))) (Qf (QP (i:=7) Qbg.nd rfl (oi rfl) (de_ix (Qa 1) (DE.db (Q9 (DE.db (Qdy (DE.db (de_ix (Qa 0) (DE.db (QQ (DE.db Qe) (DE.db (QcU (DE.db Qe) (DE.db (Qa 5)))))))) (DE.db Qe))) (DE.db (Qae gr z_len (Qs (DE.db (Qa 1)) Qz))))))) (Qf (ds_if (DW.dt (QKA (dt_gt (DE.db (Q9 (DE.db (de_ix (Qa 0) (DE.db (QQ (DE.db Qe) (DE.db (QcU (DE.db Qe) (DE.db (Qa 5)))))))) (DE.db Qe))) (DE.db Qe)) (QIw (QEM (DE.db (Qa 7)) (Qfu 3))))) (Qh (QP (i:=6) Qbg.nd rfl (oi rfl) (Qa 7))) QW) (Qf (Qbp 3 (Qa 6) rfl (oi rfl)) (Qh (Qbp 4 (Qne (Qd (Qa 6) (Qd (Q9 (DE.db (de_ix (Qa 0) (DE.db (QQ (DE.db Qe) (DE.db (QcU (DE.db Qe) (DE.db (Qa 5)))))))) (DE.db (Qa 2))) Qk))) rfl (oi rfl)))))))) (Qh (Qf7 4 rfl (oi rfl)))))) :)
abbrev QbV:Stmt:=top 52
theorem Q4:Qq ["_law_script","_law_most","_law_first","_law_second","_law_doors","_law_k","_law_cells","_law_drawn","_law_names","_law_d","_law_seats","_law_clerk_here","_law_rows","_law_text_here","_law_leads"] ["_law_script","_law_most"] (Qb QbV):=⟨rfl,rfl,rfl,dk,rfl,dk,dk⟩
def Qet:SD->Out Fl:=(QaY 4 (fun ς=>QgB ((eA (fun xs=>Qa7 (xs++[])) (aCons (eSl (eVar 2) (oSome (e2 dAdd (eC (.int 1)) (e2 dMul (eC (.int 3)) (eVar 5)))) (oSome (e2 dAdd (eC (.int 4)) (e2 dMul (eC (.int 3)) (eVar 5))))) (aCons (eVarB 4) aNil))) ς)))
abbrev QsN:Scope:={ kind:=ScopeKind.function,names:=[ (Str.ofString ".0",NameKind.local),(Str.ofString "_law_k",NameKind.local),(Str.ofString "_law_digits",NameKind.globalImplicit),(Str.ofString "_law_cells",NameKind.free)],isGenerator:=false,isCoroutine:=false,more:=[]:Scope }
theorem QkB:Qy ["_law_k","_law_cells"] [none,some 6] QsN (Qb QbV) ["_law_script","_law_most","_law_first","_law_second","_law_doors","_law_k","_law_cells","_law_drawn","_law_names","_law_d","_law_seats","_law_clerk_here","_law_rows","_law_text_here","_law_leads"]:=⟨rfl,dk,dk,rfl,dk,dk⟩
def Qgt:SD->Out D:=(eA (fun xs=>Qag (xs++[])) (aCons (e2 dIx (eVar 1) (eVar 0)) (aCons (e2 dAdd (eVar 0) (eC (.int 2))) (aCons (eC (.int 25)) aNil))))
def Qeq:SD->Out Fl:=(QaY 8 (fun ς=>QgB ((eA (fun xs=>Qa7 (xs++[])) (aCons (eSl (eVar 9) (oSome (eC (.int 22))) oNo) (aCons (eVarB 8) aNil))) ς)))
abbrev Qr9:Scope:={ kind:=ScopeKind.function,names:=[ (Str.ofString ".0",NameKind.local),(Str.ofString "_law_j",NameKind.local),(Str.ofString "len",NameKind.globalImplicit),(Str.ofString "_law_drawn",NameKind.free),(Str.ofString "_law_k",NameKind.free),(Str.ofString "_law_names",NameKind.free)],isGenerator:=false,isCoroutine:=false,more:=[]:Scope }
theorem QjT:Qy ["_law_j","_law_drawn","_law_k","_law_names"] [none,some 7,some 5,some 8] Qr9 (Qb QbV) ["_law_script","_law_most","_law_first","_law_second","_law_doors","_law_k","_law_cells","_law_drawn","_law_names","_law_d","_law_seats","_law_clerk_here","_law_rows","_law_text_here","_law_leads"]:=⟨rfl,dk,dk,rfl,dk,dk⟩
def Qgx:SD->Out D:=(e2 dMod (e2 dIx (e2 dIx (eVar 1) (eVar 2)) (e2 dAdd (eC (.int 15)) (eVar 0))) (eA fLen (aCons (eVarB 3) aNil)))
def Qex:SD->Out Fl:=(sSeq (sUnpL [11,12,13] (eA (fun xs=>Qa5 (xs++[])) (aCons (e2 dIx (eVar 7) (eVar 5)) aNil))) (sSeq (sSet 14 (eComp [none,some 7,some 5,some 8] (itR1 (eA fLen (aCons (e2 dIx (eVar 12) (eC (.int 0))) aNil))) (gN 0) cTrue Qgx)) (QaY 10 (eLst (aCons (eIxO 8 (e2 dAdd (eA fLen (aCons (eVarB 4) aNil)) (eVar 5))) (aCons (eVar 11) (aCons (eVar 12) (aCons (eVar 13) (aCons (eVar 14) (aCons (e2 dMod (e2 dIx (e2 dIx (eVar 7) (eVar 5)) (eC (.int 21))) (eA fLen (aCons (eVar 12) aNil))) aNil))))))))))
def Qf2:SD->Out Fl:=(sSeq (sSet 2 (eA (fun xs=>Qag (xs++[])) (aCons (eA (fun xs=>Qa4 (xs++[])) (aCons (eVar 0) (aCons (eC (.int 0)) aNil))) (aCons (eC (.int 0)) (aCons (eC (.int 19)) aNil))))) (sSeq (sSet 3 (eA (fun xs=>Qag (xs++[])) (aCons (eA (fun xs=>Qa4 (xs++[])) (aCons (eVar 0) (aCons (eC (.int 1)) aNil))) (aCons (eC (.int 1)) (aCons (eC (.int 31)) aNil))))) (sSeq (sSetO 4 (eLst aNil)) (sSeq (sFor (gN 5) (itR1 (e2 dAdd (eC (.int 1)) (e2 dMod (e2 dIx (eVar 2) (eC (.int 0))) (eC (.int 6))))) Qet) (sSeq (sSet 6 (e2 dCat (eSl (eVar 0) (oSome (eC (.int 2))) (oSome (e2 dAdd (eC (.int 2)) (eVar 1)))) (e2 dRep (eLst (aCons (eC (.int 1)) aNil)) (eA (f1 dInt) (aCons (e2 dLt (eA fLen (aCons (eVar 0) aNil)) (eC (.int 3))) aNil))))) (sSeq (sSet 7 (eComp [none,some 6] (itR1 (eA fLen (aCons (eVar 6) aNil))) (gN 0) cTrue Qgt)) (sSeq (sSetO 8 (e1 QxM (eVarB 4))) (sSeq (sFor (gN 9) (itL (eVar 7)) Qeq) (sSeq (sSetO 10 (eLst aNil)) (sSeq (sFor (gN 5) (itR1 (eA fLen (aCons (eVar 6) aNil))) Qex) (fun ς=>(fun ς=>(fun ς=>(sRetF (eLst (aCons (eVar 4) (aCons (eVar 10) (aCons (eA (fun xs=>QbE (xs++[])) (aCons (eVar 3) (aCons (eVar 8) (aCons (eA fLen (aCons (eVar 6) aNil)) aNil)))) aNil))))) (frz 10 ς)) (frz 4 ς)) (frz 8 ς))))))))))))
def QaD:List D->Out D:=bodyF true 2 15 Qf2
theorem QD9(d0 d1:D):QaD [d0,d1]=(Qf2 [some (.k,d0),some (.k,d1),none,none,none,none,none,none,none,none,none,none,none,none,none]>>=retF true):=rfl
theorem QD0(F:FunV K "_law_plan" "_law_plan" QbV f fd dV)(QgH:"e"^Qag "_law_digits" 1 true)(Qnt:"e"^Qa4 "_law_cell" 1 false)(QfX:"e"^Qa7 "_law_name" 1 false)(QBE:"e"^Qa5 "_law_clerk" 7 true)(Qwo:"e"^QbE "_law_let_in" 2 true)(z_range:mg "range"=none)(z_int:mg "int"=none)(z_len:mg "len"=none)(z_list:mg "list"=none):"f"^8 ["_law_script","_law_most"] true QaD:=
 (@fnV P w K mg base CT true _ _ _ f fd dV _ _ 7 Qf2 F Q4 fun cdv A outer s H E G hr=>
  (Qf (QP (i:=2) Q4.nd rfl (oi rfl) (de_f QgH (Rm hr) (Qd (de_f Qnt (Rm hr) (Qd (Qa 0) (Qd Qe Qk)) gr) (Qd Qe (Qd Qe Qk))) gr)) (Qf (QP (i:=3) Q4.nd rfl (oi rfl) (de_f QgH (Rm hr) (Qd (de_f Qnt (Rm hr) (Qd (Qa 0) (Qd Qe Qk)) gr) (Qd Qe (Qd Qe Qk))) gr)) (Qf (Qdo (i:=4) Q4.nd rfl (oi rfl) (Qaw Qk)) (Qf (QbP PassesOwn.never rfl (Qaa gr z_range (DE.db (QQ (DE.db Qe) (DE.db (Q9 (DE.db (de_ix (Qa 2) (DE.db Qe))) (DE.db Qe)))))) (Qw (i:=5) Q4.nd rfl (Or.inr rfl)) (Qr _) (Qh (Qbp 4 (DB.de (db_f QfX (Rm hr) (Qs (DE.db (DF.de (df_sl (Qa 2) (QeZ (DE.db (QQ (DE.db Qe) (DE.db (QcU (DE.db Qe) (DE.db (Qa 5))))))) (QeZ (DE.db (QQ (DE.db Qe) (DE.db (QcU (DE.db Qe) (DE.db (Qa 5)))))))))) (Qs (Qfu 4) Qz)) gr)) rfl (oi rfl)))) (Qf (QP (i:=6) Q4.nd rfl (Or.inr rfl) (DF.de (Qfl (DF.de (df_sl (Qa 0) (QeZ (DE.db Qe)) (QeZ (DE.db (QQ (DE.db Qe) (DE.db (Qa 1))))))) (DF.de (QFP (Qaw (Qd Qe Qk)) (DE.db (Qry gr z_int (Qs (DE.db (de_lt (DE.db (Qae gr z_len (Qs (DE.db (Qa 0)) Qz))) (DE.db Qe))) Qz)))))))) (Qf (QP (i:=7) Q4.nd rfl (Or.inr rfl) (DF.de (QR rfl QkB (DI.b (Qaa gr z_range (DE.db (Qae gr z_len (Qs (DE.db (Qa 6)) Qz))))) (fun ς=>Qx (Qn rfl ς)) (Qr _) (fun fp s H G p=>⟨(Qw (i:=0) QkB.nd rfl (oi rfl) (hf:=Or.inr rfl)),QA,(de_f QgH (Rm hr) (Qd (de_ix (Qa 1) (DE.db (Qa 0))) (Qd (QQ (DE.db (Qa 0)) (DE.db Qe)) (Qd Qe Qk))) gr)⟩)))) (Qf (Qdo (i:=8) Q4.nd rfl (Or.inr rfl) (QH4 gr z_list (Qfu 4))) (Qf (QbP PassesOwn.never rfl (QK (Qa 7)) (Qw (i:=9) Q4.nd rfl (oi rfl)) (Qr _) (Qh (Qbp 8 (DB.de (db_f QfX (Rm hr) (Qs (DE.db (DF.de (df_sl (Qa 9) (QeZ (DE.db Qe)) QIm))) (Qs (Qfu 8) Qz)) gr)) rfl (Or.inr (oi rfl))))) (Qf (Qdo (i:=10) Q4.nd rfl (oi rfl) (Qaw Qk)) (Qf (QbP PassesOwn.never rfl (Qaa gr z_range (DE.db (Qae gr z_len (Qs (DE.db (Qa 6)) Qz)))) (Qw (i:=5) Q4.nd rfl (Or.inr rfl)) (Qr _) (Qf (Qqo rfl (de_f QBE (Rm hr) (Qd (de_ix (Qa 7) (DE.db (Qa 5))) Qk) gr) (Qab (i:=11) Q4.nd rfl (oi rfl) (Qab (i:=12) Q4.nd rfl (oi rfl) (Qab (i:=13) Q4.nd rfl (oi rfl) Qd9)))) (Qf (Qcq (i:=14) rfl QjT (DI.b (Qaa gr z_range (DE.db (Qae gr z_len (Qs (DE.db (de_ix (Qa 12) (DE.db Qe))) Qz))))) (fun ς=>Qx (Qn rfl ς)) (Qr _) (fun fp s H G p=>⟨(Qw (i:=0) QjT.nd rfl (oi rfl) (hf:=Or.inr rfl)),QA,(Q9 (DE.db (de_ix (de_ix (Qa 1) (DE.db (Qa 2))) (DE.db (QQ (DE.db Qe) (DE.db (Qa 0)))))) (DE.db (Qae gr z_len (Qs (Qfu 3) Qz))))⟩) Q4.nd rfl (oi rfl)) (Qh (Qbp 10 (DF.de (Qaw (Qd (QFk 8 (DE.db (QQ (DE.db (Qae gr z_len (Qs (Qfu 4) Qz))) (DE.db (Qa 5)))) rfl (Or.inr (oi rfl))) (Qd (Qa 11) (Qd (Qa 12) (Qd (Qa 13) (Qd (Qa 14) (Qd (Q9 (DE.db (de_ix (de_ix (Qa 7) (DE.db (Qa 5))) (DE.db Qe))) (DE.db (Qae gr z_len (Qs (DE.db (Qa 12)) Qz)))) Qk)))))))) rfl (oi rfl)))))) (Qh (Qx3 8 (Qx3 4 (Qx3 10 (QaX (Qaw (Qd (Qa 4) (Qd (Qa 10) (Qd (de_f Qwo (Rm hr) (Qd (Qa 3) (Qd (Qa 8) (Qd (Qae gr z_len (Qs (DE.db (Qa 6)) Qz)) Qk))) gr) Qk))))))))))))))))))) :)
abbrev QaB:Stmt:=top 54
theorem QbL:Qq ["_law_plan_here","_law_doors","_law_seats","_law_let_in_here","_law_names","_law_clerks"] ["_law_plan_here"] (Qb QaB):=⟨rfl,rfl,rfl,dk,rfl,dk,dk⟩
abbrev Qog:Scope:={ kind:=ScopeKind.function,names:=[(Str.ofString ".0",NameKind.local),(Str.ofString "_law_seat",NameKind.local)],isGenerator:=false,isCoroutine:=false,more:=[]:Scope }
theorem Qic:Qy ["_law_seat"] [none] Qog (Qb QaB) ["_law_plan_here","_law_doors","_law_seats","_law_let_in_here","_law_names","_law_clerks"]:=⟨rfl,dk,dk,rfl,dk,dk⟩
def QeV:SD->Out D:=(e2 dIx (eVar 0) (eC (.int 0)))
abbrev Qha:Scope:={ kind:=ScopeKind.function,names:=[ (Str.ofString ".0",NameKind.local),(Str.ofString "_law_seat",NameKind.local),(Str.ofString "_law_names",NameKind.free)],isGenerator:=false,isCoroutine:=false,more:=[]:Scope }
theorem Qh7:Qy ["_law_seat","_law_names"] [none,some 4] Qha (Qb QaB) ["_law_plan_here","_law_doors","_law_seats","_law_let_in_here","_law_names","_law_clerks"]:=⟨rfl,dk,dk,rfl,dk,dk⟩
abbrev Qnv:Scope:={ kind:=ScopeKind.function,names:=[ (Str.ofString ".0",NameKind.local),(Str.ofString "_law_lead",NameKind.local),(Str.ofString "_law_names",NameKind.free)],isGenerator:=false,isCoroutine:=false,more:=[]:Scope }
theorem QhS:Qy ["_law_lead","_law_names"] [none,some 1] Qnv (Qcc Qha (Qb QaB)) ["_law_seat","_law_names"]:=⟨rfl,dk,dk,rfl,dk,dk⟩
def QeU:SD->Out D:=(e2 dIx (eVar 1) (eVar 0))
def QeR:SD->Out D:=(eTup (aCons (e2 dIx (eVar 0) (eC (.int 0))) (aCons (e2 dIx (eVar 0) (eC (.int 1))) (aCons (eComp [none,some 1] (itL (e2 dIx (eVar 0) (eC (.int 4)))) (gN 0) cTrue QeU) (aCons (e2 dIx (eVar 0) (eC (.int 5))) aNil)))))
abbrev QoZ:Scope:={ kind:=ScopeKind.function,names:=[ (Str.ofString ".0",NameKind.local),(Str.ofString "_law_name_here",NameKind.local),(Str.ofString "_law_clerk_here",NameKind.local),(Str.ofString "_law_seats",NameKind.free)],isGenerator:=false,isCoroutine:=false,more:=[]:Scope }
theorem QeS:Qy ["_law_name_here","_law_clerk_here","_law_seats"] [none,none,some 2] QoZ (Qb QaB) ["_law_plan_here","_law_doors","_law_seats","_law_let_in_here","_law_names","_law_clerks"]:=⟨rfl,dk,dk,rfl,dk,dk⟩
def Qe5:SD->Out D:=(eTup (aCons (eVar 0) (aCons (e2 dIx (e2 dIx (eVar 2) (eVar 1)) (eC (.int 0))) aNil)))
def Qek:SD->Out Fl:=(sSeq (sUnpL [1,2,3] (eVar 0)) (sSeq (sSet 4 (e2 dCat (eVar 1) (eComp [none] (itL (eVar 2)) (gN 0) cTrue QeV))) (sSeq (sSet 5 (eComp [none,some 4] (itL (eVar 2)) (gN 0) cTrue QeR)) (sRetF (eLst (aCons (eVar 5) (aCons (eComp [none,none,some 2] (itL (eVar 3)) (gT [0,1]) cTrue Qe5) (aCons (e1 dList (eVar 1)) aNil))))))))
def QbI:List D->Out D:=bodyF true 1 6 Qek
theorem QxF(d0:D):QbI [d0]=(Qek [some (.k,d0),none,none,none,none,none]>>=retF true):=rfl
theorem QuO(F:FunV K "_law_handed" "_law_handed" QaB f fd dV)(z_list:mg "list"=none):"f"^1 ["_law_plan_here"] true QbI:=
 (@fnV P w K mg base CT true _ _ _ f fd dV _ _ 0 Qek F QbL fun cdv A outer s H E G hr=>
  (Qf (Qqo rfl (Qa 0) (Qab (i:=1) QbL.nd rfl (oi rfl) (Qab (i:=2) QbL.nd rfl (Or.inr rfl) (Qab (i:=3) QbL.nd rfl (oi rfl) Qd9)))) (Qf (QP (i:=4) QbL.nd rfl (Or.inr rfl) (DF.de (Qfl (Qa 1) (DF.de (QR rfl Qic (DI.b (QK (Qa 2))) (fun ς=>Qx (Qn rfl ς)) (Qr _) (fun fp s H G p=>⟨(Qw (i:=0) Qic.nd rfl (oi rfl) (hf:=Or.inr rfl)),QA,(de_ix (Qa 0) (DE.db Qe))⟩)))))) (Qf (Qcq (i:=5) rfl Qh7 (DI.b (QK (Qa 2))) (fun ς=>Qx (Qn rfl ς)) (Qr _) (fun fp s H G p=>⟨(Qw (i:=0) Qh7.nd rfl (oi rfl) (hf:=Or.inr rfl)),QA,(Qne (Qd (de_ix (Qa 0) (DE.db Qe)) (Qd (de_ix (Qa 0) (DE.db Qe)) (Qd (DF.de (QR rfl QhS (DI.b (QK (de_ix (Qa 0) (DE.db Qe)))) (fun ς=>Qx (Qn rfl ς)) (Qr _) (fun fp s H G p=>⟨(Qw (i:=0) QhS.nd rfl (oi rfl) (hf:=Or.inr rfl)),QA,(de_ix (Qa 1) (DE.db (Qa 0)))⟩))) (Qd (de_ix (Qa 0) (DE.db Qe)) Qk)))))⟩) QbL.nd rfl (oi rfl)) (Qh (QaX (Qaw (Qd (Qa 5) (Qd (DF.de (QR rfl QeS (DI.b (QK (Qa 3))) (fun ς=>QmJ (fun i hi=>Qn (by revert hi;revert i;decide) ς)) (Qgg _) (fun fp s H G p=>⟨(Qks rfl (Qab (i:=0) QeS.nd rfl (oi rfl) (Qab (i:=1) QeS.nd rfl (oi rfl) Qd9 (hf:=Or.inr rfl)) (hf:=Or.inr rfl))),QA,(Qne (Qd (Qa 0) (Qd (de_ix (de_ix (Qa 2) (DE.db (Qa 1))) (DE.db Qe)) Qk)))⟩))) (Qd (DF.de (Qc2 gr z_list (Qa 1))) Qk))))))))) :)
abbrev Qc3:Stmt:=top 39
theorem Qcl:Qq ["names","doors","places","k","name","d","door"] ["names","doors"] (Qb Qc3):=⟨rfl,rfl,rfl,dk,rfl,dk,dk⟩
def QdW:SD->Out Fl:=(sPutD 2 (eVar 4) (eVar 3))
def QdY:SD->Out Fl:=(sPutD 2 (eVar 6) (e2 dSub (e1 dNeg (eC (.int 1))) (eVar 5)))
def Qe9:SD->Out Fl:=(sSeq (sSetO 2 eDic0) (sSeq (sFor (gT [3,4]) (itE (eVar 0)) QdW) (sSeq (sFor (gT [5,6]) (itE (eVar 1)) QdY) (sRetO 2))))
def Qce:List D->Out D:=bodyF true 2 7 Qe9
theorem QyK(d0 d1:D):Qce [d0,d1]=(Qe9 [some (.k,d0),some (.k,d1),none,none,none,none,none]>>=retF true):=rfl
theorem Qy9(F:FunV K "places_of" "places_of" Qc3 f fd dV)(z_enumerate:mg "enumerate"=none):"f"^1 ["names","doors"] true Qce:=
 (@fnV P w K mg base CT true _ _ _ f fd dV _ _ 0 Qe9 F Qcl fun cdv A outer s H E G hr=>
  (Qf (Qdo (i:=2) Qcl.nd rfl (oi rfl) QJr) (Qf (QbP PassesOwn.never rfl (QCj gr z_enumerate (Qa 0)) (Qks rfl (Qab (i:=3) Qcl.nd rfl (oi rfl) (Qab (i:=4) Qcl.nd rfl (oi rfl) Qd9))) (Qgg _) (Qh (QB7 hr.units 2 (DE.db (Qa 4)) (Qa 3) rfl (oi rfl)))) (Qf (QbP PassesOwn.never rfl (QCj gr z_enumerate (Qa 1)) (Qks rfl (Qab (i:=5) Qcl.nd rfl (oi rfl) (Qab (i:=6) Qcl.nd rfl (oi rfl) Qd9))) (Qgg _) (Qh (QB7 hr.units 2 (DE.db (Qa 6)) (Qj5 (DE.db (Qxf (DE.db Qe))) (DE.db (Qa 5))) rfl (oi rfl)))) (Qh (Qf7 2 rfl (oi rfl)))))) :)
abbrev Qea:Stmt:=top 31
theorem QEh:Qq ["thing","most"] ["thing","most"] (Qb Qea):=⟨rfl,rfl,rfl,dk,rfl,dk,dk⟩
def QgR:SD->Out Fl:=(sRet (eAnd (eIsa (isaT "list") (eVar 0)) (QbY dLe dLe (eC (.int 1)) (eA fLen (aCons (eVar 0) aNil)) (eVar 1))))
def QaQ:List D->Out D:=bodyF false 2 2 QgR
theorem QFy(d0 d1:D):QaQ [d0,d1]=(QgR [some (.k,d0),some (.k,d1)]>>=retF false):=rfl
theorem QFQ(F:FunV K "is_list" "is_list" Qea f fd dV)(z_isinstance:mg "isinstance"=none)(z_list:mg "list"=none)(z_len:mg "len"=none):"f"^1 ["thing","most"] false QaQ:=
 (@fnV P w K mg base CT false _ _ _ f fd dV _ _ 0 QgR F QEh fun cdv A outer s H E G hr=>
  (Qh (QJ (QcV (Qcm "list" Qiw gr z_list PyProof.Rows.Boot.«list» gr z_isinstance (DE.db (Qa 0))) (Qfs (Qxk op_le Qbr (QaU fun _ _=>rfl) op_le Qbr (QaU fun _ _=>rfl) (DE.db Qe) (DE.db (Qae gr z_len (Qs (DE.db (Qa 0)) Qz))) (DE.db (Qa 1))))))) :)
abbrev Qcr:Stmt:=top 32
theorem QtM:Qq ["names"] ["names"] (Qb Qcr):=⟨rfl,rfl,rfl,dk,rfl,dk,dk⟩
def QeA:SD->Out Fl:=(sRet (e2 dEq (e1 Qp9 (eVar 0)) (eA fLen (aCons (eVar 0) aNil))))
def QY:List D->Out D:=bodyF false 1 1 QeA
theorem QvA(d0:D):QY [d0]=(QeA [some (.k,d0)]>>=retF false):=rfl
theorem QwN(F:FunV K "all_unlike" "all_unlike" Qcr f fd dV)(z_len:mg "len"=none)(z_set:mg "set"=none):"f"^1 ["names"] false QY:=
 (@fnV P w K mg base CT false _ _ _ f fd dV _ _ 0 QeA F QtM fun cdv A outer s H E G hr=>
  (Qh (QJ (de_eq hr.units (DE.db (QGs hr.hd gr z_len gr z_set (DE.db (Qa 0)))) (DE.db (Qae gr z_len (Qs (DE.db (Qa 0)) Qz)))))) :)
abbrev Qdh:Stmt:=top 30
theorem QCG:Qq ["thing"] ["thing"] (Qb Qdh):=⟨rfl,rfl,rfl,dk,rfl,dk,dk⟩
abbrev QvX:Scope:={ kind:=ScopeKind.function,names:=[ (Str.ofString ".0",NameKind.local),(Str.ofString "sign",NameKind.local),(Str.ofString "LETTERS",NameKind.globalImplicit)],isGenerator:=false,isCoroutine:=false,more:=[]:Scope }
theorem QlU:Qy ["sign"] [none] QvX (Qb Qdh) ["thing"]:=⟨rfl,dk,dk,rfl,dk,dk⟩
def Qhv:SD->Out D:=(e2 dIn (eVar 0) (eC (.str "abcdefghijklmnopqrstuvwxyz")))
def QgQ:SD->Out Fl:=(sSeq (sIf (tOr' (tNot' (tVal (eIsa (isaT "str") (eVar 0)))) (tNot' (tVal (QbY dLe dLe (eC (.int 1)) (eA fLen (aCons (eVar 0) aNil)) (eC (.int 6)))))) (sRet (eC (.bl false))) sNil) (sRet (eA (f1 fAll) (aCons (eComp [none] (itS (eVar 0)) (gN 0) cTrue Qhv) aNil))))
def Qaj:List D->Out D:=bodyF false 1 1 QgQ
theorem QFi(d0:D):Qaj [d0]=(QgQ [some (.k,d0)]>>=retF false):=rfl
theorem QE4{u_MOST_SIGNS:Value}{u_LETTERS:Value}(F:FunV K "is_name" "is_name" Qdh f fd dV)(z_isinstance:mg "isinstance"=none)(z_str:mg "str"=none)(z_len:mg "len"=none)(z_all:mg "all"=none)(c_MOST_SIGNS:mg "MOST_SIGNS"=some u_MOST_SIGNS)(r_MOST_SIGNS:RelV (toV (.int 6)) u_MOST_SIGNS)(c_LETTERS:mg "LETTERS"=some u_LETTERS)(r_LETTERS:RelV (toV (.str "abcdefghijklmnopqrstuvwxyz")) u_LETTERS):"f"^1 ["thing"] false Qaj:=
 (@fnV P w K mg base CT false _ _ _ f fd dV _ _ 0 QgQ F QCG fun cdv A outer s H E G hr=>
  (Qf (ds_if (DW.dt (dw_or (QaC (QaH (Qcm "str" Qqw gr z_str PyProof.Rows.Boot.«str» gr z_isinstance (DE.db (Qa 0))))) (QeK (QaC (Qwp op_le Qbr (QaU fun _ _=>rfl) op_le Qbr (QaU fun _ _=>rfl) (DE.db Qe) (DE.db (Qae gr z_len (Qs (DE.db (Qa 0)) Qz))) (DE.db (Qc1 (d:=(.int 6)) gr c_MOST_SIGNS rfl r_MOST_SIGNS))))))) (Qh (QJ de_bl)) QW) (Qh (QJ (Qfo rfl gr z_all (Qs (DE.db (DF.de (QR rfl QlU (DI.b (QKT (DE.db (Qa 0)))) (fun ς=>Qx (Qn rfl ς)) (Qr _) (fun fp s H G p=>⟨(Qw (i:=0) QlU.nd rfl (oi rfl) (hf:=Or.inr rfl)),QA,(de_in (DE.db (Qa 0)) (DE.db (Qc1 (d:=(.str "abcdefghijklmnopqrstuvwxyz")) gr c_LETTERS rfl r_LETTERS)))⟩)))) Qz))))) :)
abbrev Qb8:Stmt:=top 33
theorem Qu7:Qq ["thing","most"] ["thing","most"] (Qb Qb8):=⟨rfl,rfl,rfl,dk,rfl,dk,dk⟩
abbrev Qq9:Scope:={ kind:=ScopeKind.function,names:=[ (Str.ofString ".0",NameKind.local),(Str.ofString "name",NameKind.local),(Str.ofString "is_name",NameKind.globalImplicit)],isGenerator:=false,isCoroutine:=false,more:=[]:Scope }
theorem Qi2:Qy ["name"] [none] Qq9 (Qb Qb8) ["thing","most"]:=⟨rfl,dk,dk,rfl,dk,dk⟩
def QfL:SD->Out D:=(eA (fun xs=>Qaj (xs++[])) (aCons (eVar 0) aNil))
def Qff:SD->Out Fl:=(sRet (eAnd (eA (fun xs=>QaQ (xs++[])) (aCons (eVar 0) (aCons (eVar 1) aNil))) (eAnd (eA (f1 fAll) (aCons (eComp [none] (itL (eVar 0)) (gN 0) cTrue QfL) aNil)) (eA (fun xs=>QY (xs++[])) (aCons (eVar 0) aNil)))))
def Qb3:List D->Out D:=bodyF false 2 2 Qff
theorem QBa(d0 d1:D):Qb3 [d0,d1]=(Qff [some (.k,d0),some (.k,d1)]>>=retF false):=rfl
theorem Qym(F:FunV K "are_names" "are_names" Qb8 f fd dV)(Qft:"e"^QaQ "is_list" 1 false)(Qee:"e"^Qaj "is_name" 1 false)(Qdd:"e"^QY "all_unlike" 1 false)(z_all:mg "all"=none):"f"^2 ["thing","most"] false Qb3:=
 (@fnV P w K mg base CT false _ _ _ f fd dV _ _ 1 Qff F Qu7 fun cdv A outer s H E G hr=>
  (Qh (QJ (QcV (de_f Qft (Rm hr) (Qd (Qa 0) (Qd (Qa 1) Qk)) gr) (QcV (Qfo rfl gr z_all (Qs (DE.db (DF.de (QR rfl Qi2 (DI.b (QK (Qa 0))) (fun ς=>Qx (Qn rfl ς)) (Qr _) (fun fp s H G p=>⟨(Qw (i:=0) Qi2.nd rfl (oi rfl) (hf:=Or.inr rfl)),QA,(de_f Qee (Rm hr) (Qd (Qa 0) Qk) gr)⟩)))) Qz)) (Qfs (de_f Qdd (Rm hr) (Qd (Qa 0) Qk) gr)))))) :)
abbrev Qca:Stmt:=top 34
theorem QxH:Qq ["thing","many"] ["thing","many"] (Qb Qca):=⟨rfl,rfl,rfl,dk,rfl,dk,dk⟩
abbrev Qrd:Scope:={ kind:=ScopeKind.function,names:=[ (Str.ofString ".0",NameKind.local),(Str.ofString "text",NameKind.local),(Str.ofString "isinstance",NameKind.globalImplicit),(Str.ofString "str",NameKind.globalImplicit)],isGenerator:=false,isCoroutine:=false,more:=[]:Scope }
theorem Qja:Qy ["text"] [none] Qrd (Qb Qca) ["thing","many"]:=⟨rfl,dk,dk,rfl,dk,dk⟩
def QfG:SD->Out D:=(eIsa (isaT "str") (eVar 0))
def Qe7:SD->Out Fl:=(sRet (eAnd (eIsa (isaT "list") (eVar 0)) (eAnd (e2 dEq (eA fLen (aCons (eVar 0) aNil)) (eVar 1)) (eA (f1 fAll) (aCons (eComp [none] (itL (eVar 0)) (gN 0) cTrue QfG) aNil)))))
def Qb2:List D->Out D:=bodyF false 2 2 Qe7
theorem QzG(d0 d1:D):Qb2 [d0,d1]=(Qe7 [some (.k,d0),some (.k,d1)]>>=retF false):=rfl
theorem QAf(F:FunV K "are_texts" "are_texts" Qca f fd dV)(z_isinstance:mg "isinstance"=none)(z_list:mg "list"=none)(z_len:mg "len"=none)(z_all:mg "all"=none)(z_str:mg "str"=none):"f"^1 ["thing","many"] false Qb2:=
 (@fnV P w K mg base CT false _ _ _ f fd dV _ _ 0 Qe7 F QxH fun cdv A outer s H E G hr=>
  (Qh (QJ (QcV (Qcm "list" Qiw gr z_list PyProof.Rows.Boot.«list» gr z_isinstance (DE.db (Qa 0))) (QcV (de_eq hr.units (DE.db (Qae gr z_len (Qs (DE.db (Qa 0)) Qz))) (DE.db (Qa 1))) (Qfs (Qfo rfl gr z_all (Qs (DE.db (DF.de (QR rfl Qja (DI.b (QK (Qa 0))) (fun ς=>Qx (Qn rfl ς)) (Qr _) (fun fp s H G p=>⟨(Qw (i:=0) Qja.nd rfl (oi rfl) (hf:=Or.inr rfl)),QA,(Qcm "str" Qqw gr z_str PyProof.Rows.Boot.«str» gr z_isinstance (DE.db (Qa 0)))⟩)))) Qz))))))) :)
abbrev Qdn:Stmt:=top 22
theorem QzH:Qq ["thing"] ["thing"] (Qb Qdn):=⟨rfl,rfl,rfl,dk,rfl,dk,dk⟩
def QfU:SD->Out Fl:=(sRet (eIsa (isaTs [[("Deal",true),("Bundle",false),("Copy",false),("Rows",false),("Office",false)],[("Deal",false),("Bundle",true),("Copy",false),("Rows",false),("Office",false)],[("Deal",false),("Bundle",false),("Copy",true),("Rows",false),("Office",false)],[("Deal",false),("Bundle",false),("Copy",false),("Rows",true),("Office",false)]]) (eVar 0)))
def QcH:List D->Out D:=bodyF false 1 1 QfU
theorem QDP(d0:D):QcH [d0]=(QfU [some (.k,d0)]>>=retF false):=rfl
theorem QEs{QD:Addr}{Qv:Addr}{QE:Addr}{QF:Addr}(F:FunV K "is_clerk" "is_clerk" Qdn f fd dV)(z_isinstance:mg "isinstance"=none)(QKH:mg "Deal"=some (.ref QD))(QHY:mg "Bundle"=some (.ref Qv))(QKK:mg "Copy"=some (.ref QE))(QKs:mg "Rows"=some (.ref QF))(QqE:KitI K CT (.ref QD) [("Deal",true),("Bundle",false),("Copy",false),("Rows",false),("Office",false)])(QjY:KitI K CT (.ref Qv) [("Deal",false),("Bundle",true),("Copy",false),("Rows",false),("Office",false)])(Qpq:KitI K CT (.ref QE) [("Deal",false),("Bundle",false),("Copy",true),("Rows",false),("Office",false)])(QqJ:KitI K CT (.ref QF) [("Deal",false),("Bundle",false),("Copy",false),("Rows",true),("Office",false)]):"f"^1 ["thing"] false QcH:=
 (@fnV P w K mg base CT false _ _ _ f fd dV _ _ 0 QfU F QzH fun cdv A outer s H E G hr=>
  (Qh (QJ (QIh (a:=QD) (as:=[Qv,QE,QF]) (QiM (Qif (v:=.ref QD) gr QKH rfl) (QiM (Qif (v:=.ref Qv) gr QHY rfl) (QiM (Qif (v:=.ref QE) gr QKK rfl) (QiM (Qif (v:=.ref QF) gr QKs rfl) QIX)))) ⟨QqE,QjY,Qpq,QqJ,True.intro⟩ (by simp) gr z_isinstance (DE.db (Qa 0))))) :)
abbrev Qcp:Stmt:=inCls (top 14) 3
theorem Qs0:Qq ["self"] ["self"] (Qb Qcp):=⟨rfl,rfl,rfl,dk,rfl,dk,dk⟩
def Qer:SD->Out Fl:=(sRet (eA fLen (aCons (e2 dIx (e1 (dFld Qj "table") (eVar 0)) (eC (.int 0))) aNil)))
def Qba:List D->Out D:=bodyF false 1 1 Qer
theorem Qv1(d0:D):Qba [d0]=(Qer [some (.k,d0)]>>=retF false):=rfl
theorem QvR(F:FunV K "outs" "Clerk.outs" Qcp f fd dV)(z_len:mg "len"=none)(fo_table:FldOk K CT Qj "table"):"f"^1 ["self"] false Qba:=
 (@fnV P w K mg base CT false _ _ _ f fd dV _ _ 0 Qer F Qs0 fun cdv A outer s H E G hr=>
  (Qh (QJ (Qae gr z_len (Qs (DE.db (de_ix (QdN fo_table (Qa 0)) (DE.db Qe))) Qz)))) :)
abbrev Qbt:Stmt:=inCls (top 14) 2
theorem Qoi:Qq ["self"] ["self"] (Qb Qbt):=⟨rfl,rfl,rfl,dk,rfl,dk,dk⟩
def QdE:SD->Out Fl:=(sRet (eA fLen (aCons (e1 (dFld Qj "table") (eVar 0)) aNil)))
def QX:List D->Out D:=bodyF false 1 1 QdE
theorem Qp2(d0:D):QX [d0]=(QdE [some (.k,d0)]>>=retF false):=rfl
theorem QqK(F:FunV K "period" "Clerk.period" Qbt f fd dV)(z_len:mg "len"=none)(fo_table:FldOk K CT Qj "table"):"f"^1 ["self"] false QX:=
 (@fnV P w K mg base CT false _ _ _ f fd dV _ _ 0 QdE F Qoi fun cdv A outer s H E G hr=>
  (Qh (QJ (Qae gr z_len (Qs (DE.db (QdN fo_table (Qa 0))) Qz)))) :)
abbrev Qef:Stmt:=top 35
theorem QEr:Qq ["thing"] ["thing"] (Qb Qef):=⟨rfl,rfl,rfl,dk,rfl,dk,dk⟩
def QgK:SD->Out Fl:=(sSeq (sIf (tOr' (tNot' (tVal (eIsa (isaT "tuple") (eVar 0)))) (tVal (e2 dNe (eA fLen (aCons (eVar 0) aNil)) (eC (.int 4))))) (sRet (eC (.bl false))) sNil) (sSeq (sIf (tOr' (tNot' (tVal (eA (fun xs=>Qaj (xs++[])) (aCons (e2 dIx (eVar 0) (eC (.int 0))) aNil)))) (tNot' (tVal (eA (fun xs=>QcH (xs++[])) (aCons (e2 dIx (eVar 0) (eC (.int 1))) aNil))))) (sRet (eC (.bl false))) sNil) (sRet (eAnd (eA (fun xs=>Qb2 (xs++[])) (aCons (e2 dIx (eVar 0) (eC (.int 2))) (aCons (eMeth Qc "outs" (fun _=>Qba) (e2 dIx (eVar 0) (eC (.int 1))) aNil) aNil))) (eA (fun xs=>Qai (xs++[])) (aCons (e2 dIx (eVar 0) (eC (.int 3))) (aCons (eC (.int 0)) (aCons (e2 dSub (eMeth Qc "period" (fun _=>QX) (e2 dIx (eVar 0) (eC (.int 1))) aNil) (eC (.int 1))) aNil))))))))
def Qde:List D->Out D:=bodyF false 1 1 QgK
theorem QGe(d0:D):Qde [d0]=(QgK [some (.k,d0)]>>=retF false):=rfl
theorem QGz(F:FunV K "is_seat" "is_seat" Qef f fd dV)(Qee:"e"^Qaj "is_name" 1 false)(QDC:"e"^QcH "is_clerk" 1 false)(QyP:"e"^Qb2 "are_texts" 1 false)(Qb1:"e"^Qai "is_within" 2 false)(z_isinstance:mg "isinstance"=none)(z_tuple:mg "tuple"=none)(z_len:mg "len"=none)(mt_outs:MtOk P w K mg base CT CX0 "outs" 1 Qc (fun c=>SpD K CT false ((fun _=>Qba) c)))(mt_period:MtOk P w K mg base CT CX0 "period" 1 Qc (fun c=>SpD K CT false ((fun _=>QX) c))):"f"^3 ["thing"] false Qde:=
 (@fnV P w K mg base CT false _ _ _ f fd dV _ _ 2 QgK F QEr fun cdv A outer s H E G hr=>
  (Qf (ds_if (DW.dt (dw_or (QaC (QaH (Qcm "tuple" Qrz gr z_tuple PyProof.Rows.Boot.«tuple» gr z_isinstance (DE.db (Qa 0))))) (QeK (dt_ne hr.units (DE.db (Qae gr z_len (Qs (DE.db (Qa 0)) Qz))) (DE.db Qe))))) (Qh (QJ de_bl)) QW) (Qf (ds_if (DW.dt (dw_or (QaC (QaH (de_f Qee (Rm hr) (Qd (de_ix (Qa 0) (DE.db Qe)) Qk) gr))) (QeK (QaC (QaH (de_f QDC (Rm hr) (Qd (de_ix (Qa 0) (DE.db Qe)) Qk) gr)))))) (Qh (QJ de_bl)) QW) (Qh (QJ (QcV (de_f QyP (Rm hr) (Qd (de_ix (Qa 0) (DE.db Qe)) (Qd (QaF mt_outs (Rm hr) (de_ix (Qa 0) (DE.db Qe))) Qk)) gr) (Qfs (de_f Qb1 (Rm hr) (Qd (de_ix (Qa 0) (DE.db Qe)) (Qd Qe (Qd (Qj5 (DE.db (QaF mt_period (Rm hr) (de_ix (Qa 0) (DE.db Qe)))) (DE.db Qe)) Qk))) gr))))))) :)
abbrev Qbn:Stmt:=top 36
theorem Qxc:Qq ["thing","doors"] ["thing","doors"] (Qb Qbn):=⟨rfl,rfl,rfl,dk,rfl,dk,dk⟩
abbrev Qrg:Scope:={ kind:=ScopeKind.function,names:=[ (Str.ofString ".0",NameKind.local),(Str.ofString "seat",NameKind.local),(Str.ofString "is_seat",NameKind.globalImplicit)],isGenerator:=false,isCoroutine:=false,more:=[]:Scope }
theorem Qji:Qy ["seat"] [none] Qrg (Qb Qbn) ["thing","doors"]:=⟨rfl,dk,dk,rfl,dk,dk⟩
def QfA:SD->Out D:=(eA (fun xs=>Qde (xs++[])) (aCons (eVar 0) aNil))
abbrev Qpy:Scope:={ kind:=ScopeKind.function,names:=[(Str.ofString ".0",NameKind.local),(Str.ofString "seat",NameKind.local)],isGenerator:=false,isCoroutine:=false,more:=[]:Scope }
theorem Qi9:Qy ["seat"] [none] Qpy (Qb Qbn) ["thing","doors"]:=⟨rfl,dk,dk,rfl,dk,dk⟩
def QfF:SD->Out D:=(e2 dIx (eVar 0) (eC (.int 0)))
def Qfa:SD->Out Fl:=(sSeq (sIf (tOr' (tNot' (tVal (eA (fun xs=>QaQ (xs++[])) (aCons (eVar 0) (aCons (eC (.int 60)) aNil))))) (tNot' (tVal (eA (f1 fAll) (aCons (eComp [none] (itL (eVar 0)) (gN 0) cTrue QfA) aNil))))) (sRet (eC (.bl false))) sNil) (sRet (eA (fun xs=>QY (xs++[])) (aCons (e2 dCat (eComp [none] (itL (eVar 0)) (gN 0) cTrue QfF) (eVar 1)) aNil))))
def Qb0:List D->Out D:=bodyF false 2 2 Qfa
theorem Qzu(d0 d1:D):Qb0 [d0,d1]=(Qfa [some (.k,d0),some (.k,d1)]>>=retF false):=rfl
theorem Qzi{u_MOST_CLERKS:Value}(F:FunV K "are_seats" "are_seats" Qbn f fd dV)(Qft:"e"^QaQ "is_list" 1 false)(QGW:"e"^Qde "is_seat" 3 false)(Qdd:"e"^QY "all_unlike" 1 false)(z_all:mg "all"=none)(c_MOST_CLERKS:mg "MOST_CLERKS"=some u_MOST_CLERKS)(r_MOST_CLERKS:RelV (toV (.int 60)) u_MOST_CLERKS):"f"^4 ["thing","doors"] false Qb0:=
 (@fnV P w K mg base CT false _ _ _ f fd dV _ _ 3 Qfa F Qxc fun cdv A outer s H E G hr=>
  (Qf (ds_if (DW.dt (dw_or (QaC (QaH (de_f Qft (Rm hr) (Qd (Qa 0) (Qd (Qc1 (d:=(.int 60)) gr c_MOST_CLERKS rfl r_MOST_CLERKS) Qk)) gr))) (QeK (QaC (QaH (Qfo rfl gr z_all (Qs (DE.db (DF.de (QR rfl Qji (DI.b (QK (Qa 0))) (fun ς=>Qx (Qn rfl ς)) (Qr _) (fun fp s H G p=>⟨(Qw (i:=0) Qji.nd rfl (oi rfl) (hf:=Or.inr rfl)),QA,(de_f QGW (Rm hr) (Qd (Qa 0) Qk) gr)⟩)))) Qz))))))) (Qh (QJ de_bl)) QW) (Qh (QJ (de_f Qdd (Rm hr) (Qd (DF.de (Qfl (DF.de (QR rfl Qi9 (DI.b (QK (Qa 0))) (fun ς=>Qx (Qn rfl ς)) (Qr _) (fun fp s H G p=>⟨(Qw (i:=0) Qi9.nd rfl (oi rfl) (hf:=Or.inr rfl)),QA,(de_ix (Qa 0) (DE.db Qe))⟩))) (Qa 1))) Qk) gr)))) :)
abbrev QdF:Stmt:=top 37
theorem Qy0:Qq ["thing","names"] ["thing","names"] (Qb QdF):=⟨rfl,rfl,rfl,dk,rfl,dk,dk⟩
def Qf0:SD->Out Fl:=(sSeq (sIf (tOr' (tNot' (tVal (eIsa (isaT "tuple") (eVar 0)))) (tVal (e2 dNe (eA fLen (aCons (eVar 0) aNil)) (eC (.int 2))))) (sRet (eC (.bl false))) sNil) (sRet (eAnd (eA (fun xs=>Qaj (xs++[])) (aCons (e2 dIx (eVar 0) (eC (.int 0))) aNil)) (eAnd (eA (fun xs=>Qaj (xs++[])) (aCons (e2 dIx (eVar 0) (eC (.int 1))) aNil)) (e2 dInL (e2 dIx (eVar 0) (eC (.int 1))) (eVar 1))))))
def QcE:List D->Out D:=bodyF false 2 2 Qf0
theorem QDu(d0 d1:D):QcE [d0,d1]=(Qf0 [some (.k,d0),some (.k,d1)]>>=retF false):=rfl
theorem QCF(F:FunV K "is_entry" "is_entry" QdF f fd dV)(Qee:"e"^Qaj "is_name" 1 false)(z_isinstance:mg "isinstance"=none)(z_tuple:mg "tuple"=none)(z_len:mg "len"=none):"f"^2 ["thing","names"] false QcE:=
 (@fnV P w K mg base CT false _ _ _ f fd dV _ _ 1 Qf0 F Qy0 fun cdv A outer s H E G hr=>
  (Qf (ds_if (DW.dt (dw_or (QaC (QaH (Qcm "tuple" Qrz gr z_tuple PyProof.Rows.Boot.«tuple» gr z_isinstance (DE.db (Qa 0))))) (QeK (dt_ne hr.units (DE.db (Qae gr z_len (Qs (DE.db (Qa 0)) Qz))) (DE.db Qe))))) (Qh (QJ de_bl)) QW) (Qh (QJ (QcV (de_f Qee (Rm hr) (Qd (de_ix (Qa 0) (DE.db Qe)) Qk) gr) (QcV (de_f Qee (Rm hr) (Qd (de_ix (Qa 0) (DE.db Qe)) Qk) gr) (Qfs (QFn (DE.db (de_ix (Qa 0) (DE.db Qe))) (DE.db (Qa 1))))))))) :)
abbrev QaP:Stmt:=top 38
theorem Qq1:Qq ["thing","names"] ["thing","names"] (Qb QaP):=⟨rfl,rfl,rfl,dk,rfl,dk,dk⟩
abbrev QmL:Scope:={ kind:=ScopeKind.function,names:=[ (Str.ofString ".0",NameKind.local),(Str.ofString "entry",NameKind.local),(Str.ofString "is_entry",NameKind.globalImplicit),(Str.ofString "names",NameKind.free)],isGenerator:=false,isCoroutine:=false,more:=[]:Scope }
theorem Qhi:Qy ["entry","names"] [none,some 1] QmL (Qb QaP) ["thing","names"]:=⟨rfl,dk,dk,rfl,dk,dk⟩
def QeJ:SD->Out D:=(eA (fun xs=>QcE (xs++[])) (aCons (eVar 0) (aCons (eVar 1) aNil)))
abbrev QmK:Scope:={ kind:=ScopeKind.function,names:=[(Str.ofString ".0",NameKind.local),(Str.ofString "entry",NameKind.local)],isGenerator:=false,isCoroutine:=false,more:=[]:Scope }
theorem Qg1:Qy ["entry"] [none] QmK (Qb QaP) ["thing","names"]:=⟨rfl,dk,dk,rfl,dk,dk⟩
def Qep:SD->Out D:=(e2 dIx (eVar 0) (eC (.int 0)))
def QdZ:SD->Out Fl:=(sSeq (sIf (tOr' (tNot' (tVal (eA (fun xs=>QaQ (xs++[])) (aCons (eVar 0) (aCons (eC (.int 6)) aNil))))) (tNot' (tVal (eA (f1 fAll) (aCons (eComp [none,some 1] (itL (eVar 0)) (gN 0) cTrue QeJ) aNil))))) (sRet (eC (.bl false))) sNil) (sRet (eA (fun xs=>QY (xs++[])) (aCons (eComp [none] (itL (eVar 0)) (gN 0) cTrue Qep) aNil))))
def Qbj:List D->Out D:=bodyF false 2 2 QdZ
theorem QuB(d0 d1:D):Qbj [d0,d1]=(QdZ [some (.k,d0),some (.k,d1)]>>=retF false):=rfl
theorem Qsy{u_MOST_ENTRIES:Value}(F:FunV K "are_entries" "are_entries" QaP f fd dV)(Qft:"e"^QaQ "is_list" 1 false)(QC2:"e"^QcE "is_entry" 2 false)(Qdd:"e"^QY "all_unlike" 1 false)(z_all:mg "all"=none)(c_MOST_ENTRIES:mg "MOST_ENTRIES"=some u_MOST_ENTRIES)(r_MOST_ENTRIES:RelV (toV (.int 6)) u_MOST_ENTRIES):"f"^3 ["thing","names"] false Qbj:=
 (@fnV P w K mg base CT false _ _ _ f fd dV _ _ 2 QdZ F Qq1 fun cdv A outer s H E G hr=>
  (Qf (ds_if (DW.dt (dw_or (QaC (QaH (de_f Qft (Rm hr) (Qd (Qa 0) (Qd (Qc1 (d:=(.int 6)) gr c_MOST_ENTRIES rfl r_MOST_ENTRIES) Qk)) gr))) (QeK (QaC (QaH (Qfo rfl gr z_all (Qs (DE.db (DF.de (QR rfl Qhi (DI.b (QK (Qa 0))) (fun ς=>Qx (Qn rfl ς)) (Qr _) (fun fp s H G p=>⟨(Qw (i:=0) Qhi.nd rfl (oi rfl) (hf:=Or.inr rfl)),QA,(de_f QC2 (Rm hr) (Qd (Qa 0) (Qd (Qa 1) Qk)) gr)⟩)))) Qz))))))) (Qh (QJ de_bl)) QW) (Qh (QJ (de_f Qdd (Rm hr) (Qd (DF.de (QR rfl Qg1 (DI.b (QK (Qa 0))) (fun ς=>Qx (Qn rfl ς)) (Qr _) (fun fp s H G p=>⟨(Qw (i:=0) Qg1.nd rfl (oi rfl) (hf:=Or.inr rfl)),QA,(de_ix (Qa 0) (DE.db Qe))⟩))) Qk) gr)))) :)
abbrev QcJ:Stmt:=top 40
theorem QBp:Qq ["seat","places"] ["seat","places"] (Qb QcJ):=⟨rfl,rfl,rfl,dk,rfl,dk,dk⟩
abbrev QtX:Scope:={ kind:=ScopeKind.function,names:=[ (Str.ofString ".0",NameKind.local),(Str.ofString "text",NameKind.local),(Str.ofString "places",NameKind.free)],isGenerator:=false,isCoroutine:=false,more:=[]:Scope }
theorem QkE:Qy ["text","places"] [none,some 1] QtX (Qb QcJ) ["seat","places"]:=⟨rfl,dk,dk,rfl,dk,dk⟩
def Qgw:SD->Out D:=(eDget (eVar 1) (eVar 0))
def QfZ:SD->Out Fl:=(sRetF (eComp [none,some 1] (itL (e2 dIx (eVar 0) (eC (.int 2)))) (gN 0) cTrue Qgw))
def QcD:List D->Out D:=bodyF true 2 2 QfZ
theorem QDw(d0 d1:D):QcD [d0,d1]=(QfZ [some (.k,d0),some (.k,d1)]>>=retF true):=rfl
theorem QEx(F:FunV K "leads_to" "leads_to" QcJ f fd dV)  : "f"^1 ["seat","places"] true QcD:=
 (@fnV P w K mg base CT true _ _ _ f fd dV _ _ 0 QfZ F QBp fun cdv A outer s H E G hr=>
  (Qh (QaX (QR rfl QkE (DI.b (QK (de_ix (Qa 0) (DE.db Qe)))) (fun ς=>Qx (Qn rfl ς)) (Qr _) (fun fp s H G p=>⟨(Qw (i:=0) QkE.nd rfl (oi rfl) (hf:=Or.inr rfl)),QA,(QI7 hr.units (Qa 1) (DE.db (Qa 0)))⟩)))) :)
abbrev Q6:Stmt:=inCls (top 41) 0
theorem QdK:Qq ["self","clerks","entries","doors","names","places","ways"] ["self","clerks","entries","doors"] (Qb Q6):=⟨rfl,rfl,rfl,dk,rfl,dk,dk⟩
abbrev Qmd:Scope:={ kind:=ScopeKind.function,names:=[(Str.ofString ".0",NameKind.local),(Str.ofString "seat",NameKind.local)],isGenerator:=false,isCoroutine:=false,more:=[]:Scope }
theorem Qhc:Qy ["seat"] [none] Qmd (Qb Q6) ["self","clerks","entries","doors","names","places","ways"]:=⟨rfl,dk,dk,rfl,dk,dk⟩
def QeN:SD->Out D:=(e2 dIx (eVar 0) (eC (.int 0)))
abbrev Qmp:Scope:={ kind:=ScopeKind.function,names:=[ (Str.ofString ".0",NameKind.local),(Str.ofString "seat",NameKind.local),(Str.ofString "leads_to",NameKind.globalImplicit),(Str.ofString "places",NameKind.free)],isGenerator:=false,isCoroutine:=false,more:=[]:Scope }
theorem Qhh:Qy ["seat","places"] [none,some 5] Qmp (Qb Q6) ["self","clerks","entries","doors","names","places","ways"]:=⟨rfl,dk,dk,rfl,dk,dk⟩
def Qem:SD->Out D:=(eA (fun xs=>QcD (xs++[])) (aCons (eVar 0) (aCons (eVar 1) aNil)))
abbrev QmE:Scope:={ kind:=ScopeKind.function,names:=[(Str.ofString ".0",NameKind.local),(Str.ofString "way",NameKind.local)],isGenerator:=false,isCoroutine:=false,more:=[]:Scope }
theorem QgW:Qy ["way"] [none] QmE (Qb Q6) ["self","clerks","entries","doors","names","places","ways"]:=⟨rfl,dk,dk,rfl,dk,dk⟩
def QeD:SD->Out D:=(e2 dInL (eC .non) (eVar 0))
abbrev Qmg:Scope:={ kind:=ScopeKind.function,names:=[ (Str.ofString ".0",NameKind.local),(Str.ofString "entry",NameKind.local),(Str.ofString "places",NameKind.free)],isGenerator:=false,isCoroutine:=false,more:=[]:Scope }
theorem QgX:Qy ["entry","places"] [none,some 5] Qmg (Qb Q6) ["self","clerks","entries","doors","names","places","ways"]:=⟨rfl,dk,dk,rfl,dk,dk⟩
def Qda:SD->Out D:=(eTup (aCons (e2 dIx (eVar 0) (eC (.int 0))) (aCons (eDix (eVar 1) (e2 dIx (eVar 0) (eC (.int 1)))) aNil)))
abbrev Qmx:Scope:={ kind:=ScopeKind.function,names:=[(Str.ofString ".0",NameKind.local),(Str.ofString "seat",NameKind.local)],isGenerator:=false,isCoroutine:=false,more:=[]:Scope }
theorem Qg9:Qy ["seat"] [none] Qmx (Qb Q6) ["self","clerks","entries","doors","names","places","ways"]:=⟨rfl,dk,dk,rfl,dk,dk⟩
def Qc9:SD->Out D:=(e2 dIx (eVar 0) (eC (.int 1)))
abbrev Qmt:Scope:={ kind:=ScopeKind.function,names:=[(Str.ofString ".0",NameKind.local),(Str.ofString "seat",NameKind.local)],isGenerator:=false,isCoroutine:=false,more:=[]:Scope }
theorem Qg7:Qy ["seat"] [none] Qmt (Qb Q6) ["self","clerks","entries","doors","names","places","ways"]:=⟨rfl,dk,dk,rfl,dk,dk⟩
def Qc8:SD->Out D:=(e2 dIx (eVar 0) (eC (.int 3)))
def Qd4:SD->Out Fl:=(sSeq (fun ς=>noX ((sIf (tNot' (tVal (eA (fun xs=>Qb3 (xs++[])) (aCons (eVar 3) (aCons (eC (.int 6)) aNil))))) Qel sNil) ς)) (sSeq (fun ς=>noX ((sIf (tNot' (tVal (eA (fun xs=>Qb0 (xs++[])) (aCons (eVar 1) (aCons (eVar 3) aNil))))) Qel sNil) ς)) (sSeq (fun ς=>noX ((sSet 4 (eComp [none] (itL (eVar 1)) (gN 0) cTrue QeN)) ς)) (sSeq (fun ς=>noX ((sIf (tNot' (tVal (eA (fun xs=>Qbj (xs++[])) (aCons (eVar 2) (aCons (eVar 4) aNil))))) Qel sNil) ς)) (sSeq (fun ς=>noX ((sSet 5 (eA (fun xs=>Qce (xs++[])) (aCons (eVar 4) (aCons (eVar 3) aNil)))) ς)) (sSeq (fun ς=>noX ((sSet 6 (eComp [none,some 5] (itL (eVar 1)) (gN 0) cTrue Qem)) ς)) (sSeq (fun ς=>noX ((sIf (tVal (eA (f1 fAny) (aCons (eComp [none] (itL (eVar 6)) (gN 0) cTrue QeD) aNil))) Qel sNil) ς)) (sSeq (fun ς=>noX (sFldS Qj "clerk_names" 0 (eVar 4) ς)) (sSeq (fun ς=>noX (sFldS Qj "door_names" 0 (e1 dList (eVar 3)) ς)) (sSeq (fun ς=>noX (sFldS Qj "entry_places" 0 (eComp [none,some 5] (itL (eVar 2)) (gN 0) cTrue Qda) ς)) (sSeq (fun ς=>noX (sFldS Qj "staff" 0 (eComp [none] (itL (eVar 1)) (gN 0) cTrue Qc9) ς)) (sSeq (fun ς=>noX (sFldS Qj "first_states" 0 (eComp [none] (itL (eVar 1)) (gN 0) cTrue Qc8) ς)) (fun ς=>noX (sFldS Qj "ways" 0 (eVar 6) ς))))))))))))))
def QaO:Str->List (Str×D)->List D->Out (List (Str×D)):=bodyI 4 7 Qd4
theorem Qun(c:Str)(fds:List (Str×D))(d1 d2 d3:D):QaO c fds [d1,d2,d3]=(Qd4 [some (.s,.ins c fds),some (.k,d1),some (.k,d2),some (.k,d3),none,none,none]>>=Qdg c):=rfl
theorem Qt8{u_MOST_DOORS:Value}(F:FunV K "__init__" "Office.__init__" Q6 f fd dV)(QyE:"e"^Qb3 "are_names" 2 false)(QzM:"e"^Qb0 "are_seats" 4 false)(Qt0:"e"^Qbj "are_entries" 3 false)(Qz5:"e"^Qce "places_of" 1 true)(QCB:"e"^QcD "leads_to" 1 true)(z_any:mg "any"=none)(z_list:mg "list"=none)(c_MOST_DOORS:mg "MOST_DOORS"=some u_MOST_DOORS)(r_MOST_DOORS:RelV (toV (.int 6)) u_MOST_DOORS)(fo_clerk_names:FldOk K CT Qj "clerk_names")(fo_door_names:FldOk K CT Qj "door_names")(fo_entry_places:FldOk K CT Qj "entry_places")(fo_staff:FldOk K CT Qj "staff")(fo_first_states:FldOk K CT Qj "first_states")(fo_ways:FldOk K CT Qj "ways"):FnOk P w K mg base (CXR P w) 5 f fd ["self","clerks","entries","doors"] (SpI K CT QaO):=
 (@fnI P w K mg base CT _ _ _ f fd dV _ _ 4 Qd4 F QdK fun cdv A outer s H E G p hr=>
  (Qf (DS.lift (ds_if (QaC (QaH (de_f QyE (Rm hr) (Qd (Qa 3) (Qd (Qc1 (d:=(.int 6)) gr c_MOST_DOORS rfl r_MOST_DOORS) Qk)) gr))) (Qh Qdc) QW)) (Qf (DS.lift (ds_if (QaC (QaH (de_f QzM (Rm hr) (Qd (Qa 1) (Qd (Qa 3) Qk)) gr))) (Qh Qdc) QW)) (Qf (DS.lift (Qcq (i:=4) rfl Qhc (DI.b (QK (Qa 1))) (fun ς=>Qx (Qn rfl ς)) (Qr _) (fun fp s H G p=>⟨(Qw (i:=0) Qhc.nd rfl (oi rfl) (hf:=Or.inr rfl)),QA,(de_ix (Qa 0) (DE.db Qe))⟩) QdK.nd rfl (oi rfl))) (Qf (DS.lift (ds_if (QaC (QaH (de_f Qt0 (Rm hr) (Qd (Qa 2) (Qd (Qa 4) Qk)) gr))) (Qh Qdc) QW)) (Qf (DS.lift (QP (i:=5) QdK.nd rfl (Or.inr rfl) (de_f Qz5 (Rm hr) (Qd (Qa 4) (Qd (Qa 3) Qk)) gr))) (Qf (DS.lift (Qcq (i:=6) rfl Qhh (DI.b (QK (Qa 1))) (fun ς=>Qx (Qn rfl ς)) (Qr _) (fun fp s H G p=>⟨(Qw (i:=0) Qhh.nd rfl (oi rfl) (hf:=Or.inr rfl)),QA,(de_f QCB (Rm hr) (Qd (Qa 0) (Qd (Qa 1) Qk)) gr)⟩) QdK.nd rfl (oi rfl))) (Qf (DS.lift (ds_if (QaH (QKC rfl gr z_any (Qs (DE.db (DF.de (QR rfl QgW (DI.b (QK (Qa 6))) (fun ς=>Qx (Qn rfl ς)) (Qr _) (fun fp s H G p=>⟨(Qw (i:=0) QgW.nd rfl (oi rfl) (hf:=Or.inr rfl)),QA,(QFn (DE.db QK0) (DE.db (Qa 0)))⟩)))) Qz))) (Qh Qdc) QW)) (Qf (DS.lift (Qej 0 fo_clerk_names (Qa 4) rfl (oi rfl))) (Qf (DS.lift (Qej 0 fo_door_names (DF.de (Qc2 gr z_list (Qa 3))) rfl (oi rfl))) (Qf (DS.lift (Qej 0 fo_entry_places (DF.de (QR rfl QgX (DI.b (QK (Qa 2))) (fun ς=>Qx (Qn rfl ς)) (Qr _) (fun fp s H G p=>⟨(Qw (i:=0) QgX.nd rfl (oi rfl) (hf:=Or.inr rfl)),QA,(Qne (Qd (de_ix (Qa 0) (DE.db Qe)) (Qd (QJT hr.units (Qa 1) (DE.db (de_ix (Qa 0) (DE.db Qe)))) Qk)))⟩))) rfl (oi rfl))) (Qf (DS.lift (Qej 0 fo_staff (DF.de (QR rfl Qg9 (DI.b (QK (Qa 1))) (fun ς=>Qx (Qn rfl ς)) (Qr _) (fun fp s H G p=>⟨(Qw (i:=0) Qg9.nd rfl (oi rfl) (hf:=Or.inr rfl)),QA,(de_ix (Qa 0) (DE.db Qe))⟩))) rfl (oi rfl))) (Qf (DS.lift (Qej 0 fo_first_states (DF.de (QR rfl Qg7 (DI.b (QK (Qa 1))) (fun ς=>Qx (Qn rfl ς)) (Qr _) (fun fp s H G p=>⟨(Qw (i:=0) Qg7.nd rfl (oi rfl) (hf:=Or.inr rfl)),QA,(de_ix (Qa 0) (DE.db Qe))⟩))) rfl (oi rfl))) (Qh (DS.lift (Qej 0 fo_ways (Qa 6) rfl (oi rfl)))))))))))))))) :)
abbrev Qbu:Stmt:=inCls (top 41) 1
theorem Qn9:Qq ["self"] ["self"] (Qb Qbu):=⟨rfl,rfl,rfl,dk,rfl,dk,dk⟩
def Qdq:SD->Out Fl:=(sRetF (e1 dList (e1 (dFld Qj "clerk_names") (eVar 0))))
def Q1:List D->Out D:=bodyF true 1 1 Qdq
theorem QpA(d0:D):Q1 [d0]=(Qdq [some (.k,d0)]>>=retF true):=rfl
theorem Qpu(F:FunV K "names" "Office.names" Qbu f fd dV)(z_list:mg "list"=none)(fo_clerk_names:FldOk K CT Qj "clerk_names"):"f"^1 ["self"] true Q1:=
 (@fnV P w K mg base CT true _ _ _ f fd dV _ _ 0 Qdq F Qn9 fun cdv A outer s H E G hr=>
  (Qh (QaX (Qc2 gr z_list (QdN fo_clerk_names (Qa 0))))) :)
abbrev Qbs:Stmt:=inCls (top 15) 2
theorem Qnm:Qq ["self"] ["self"] (Qb Qbs):=⟨rfl,rfl,rfl,dk,rfl,dk,dk⟩
def Qdu:SD->Out Fl:=(sRet (eA (f1 dStr) (aCons (eMeth Qc "period" (fun _=>QX) (eVar 0) aNil) aNil)))
def Qcu:List D->Out D:=bodyF false 1 1 Qdu
theorem Qo8(d0:D):Qcu [d0]=(Qdu [some (.k,d0)]>>=retF false):=rfl
theorem QpD(F:FunV K "numbers" "Deal.numbers" Qbs f fd dV)(z_str:mg "str"=none)(mt_period:MtOk P w K mg base CT CX0 "period" 1 Qc (fun c=>SpD K CT false ((fun _=>QX) c))):"f"^2 ["self"] false Qcu:=
 (@fnV P w K mg base CT false _ _ _ f fd dV _ _ 1 Qdu F Qnm fun cdv A outer s H E G hr=>
  (Qh (QJ (Qed gr z_str (Qs (DE.db (QaF mt_period (Rm hr) (Qa 0))) Qz)))) :)
abbrev QaT:Stmt:=inCls (top 16) 2
theorem Qk5:Qq ["self"] ["self"] (Qb QaT):=⟨rfl,rfl,rfl,dk,rfl,dk,dk⟩
def QcI:SD->Out Fl:=(sRet (eA (f1 dStr) (aCons (eMeth Qc "period" (fun _=>QX) (eVar 0) aNil) aNil)))
def QbH:List D->Out D:=bodyF false 1 1 QcI
theorem Qmy(d0:D):QbH [d0]=(QcI [some (.k,d0)]>>=retF false):=rfl
theorem QmP(F:FunV K "numbers" "Bundle.numbers" QaT f fd dV)(z_str:mg "str"=none)(mt_period:MtOk P w K mg base CT CX0 "period" 1 Qc (fun c=>SpD K CT false ((fun _=>QX) c))):"f"^2 ["self"] false QbH:=
 (@fnV P w K mg base CT false _ _ _ f fd dV _ _ 1 QcI F Qk5 fun cdv A outer s H E G hr=>
  (Qh (QJ (Qed gr z_str (Qs (DE.db (QaF mt_period (Rm hr) (Qa 0))) Qz)))) :)
abbrev QcK:Stmt:=top 23
theorem QBy:Qq ["row"] ["row"] (Qb QcK):=⟨rfl,rfl,rfl,dk,rfl,dk,dk⟩
abbrev Qtf:Scope:={ kind:=ScopeKind.function,names:=[ (Str.ofString ".0",NameKind.local),(Str.ofString "count",NameKind.local),(Str.ofString "str",NameKind.globalImplicit)],isGenerator:=false,isCoroutine:=false,more:=[]:Scope }
theorem QkF:Qy ["count"] [none] Qtf (Qb QcK) ["row"]:=⟨rfl,dk,dk,rfl,dk,dk⟩
def QgA:SD->Out D:=(eA (f1 dStr) (aCons (eVar 0) aNil))
def QfY:SD->Out Fl:=(sSeq (sIf (tVal (e2 dEq (eA fLen (aCons (eVar 0) aNil)) (eC (.int 0)))) (sRet (eC (.str "-"))) sNil) (sRet (eSm fJoin (eC (.str ",")) (aCons (eComp [none] (itL (eVar 0)) (gN 0) cTrue QgA) aNil))))
def QcL:List D->Out D:=bodyF false 1 1 QfY
theorem QDy(d0:D):QcL [d0]=(QfY [some (.k,d0)]>>=retF false):=rfl
theorem QEH(F:FunV K "row_text" "row_text" QcK f fd dV)(z_len:mg "len"=none)(z_str:mg "str"=none):"f"^1 ["row"] false QcL:=
 (@fnV P w K mg base CT false _ _ _ f fd dV _ _ 0 QfY F QBy fun cdv A outer s H E G hr=>
  (Qf (ds_if (dt_eq hr.units (DE.db (Qae gr z_len (Qs (DE.db (Qa 0)) Qz))) (DE.db Qe)) (Qh (QJ QL)) QW) (Qh (QJ (Qeg (DE.db QL) (DF.de (QR rfl QkF (DI.b (QK (Qa 0))) (fun ς=>Qx (Qn rfl ς)) (Qr _) (fun fp s H G p=>⟨(Qw (i:=0) QkF.nd rfl (oi rfl) (hf:=Or.inr rfl)),QA,(Qed gr z_str (Qs (DE.db (Qa 0)) Qz))⟩))))))) :)
abbrev QaL:Stmt:=inCls (top 14) 9
theorem Qmo:Qq ["self"] ["self"] (Qb QaL):=⟨rfl,rfl,rfl,dk,rfl,dk,dk⟩
abbrev Qkq:Scope:={ kind:=ScopeKind.function,names:=[ (Str.ofString ".0",NameKind.local),(Str.ofString "row",NameKind.local),(Str.ofString "row_text",NameKind.globalImplicit)],isGenerator:=false,isCoroutine:=false,more:=[]:Scope }
theorem QfP:Qy ["row"] [none] Qkq (Qb QaL) ["self"]:=⟨rfl,dk,dk,rfl,dk,dk⟩
def QdL:SD->Out D:=(eA (fun xs=>QcL (xs++[])) (aCons (eVar 0) aNil))
def Qdb:SD->Out Fl:=(sRet (eSm fJoin (eC (.str "/")) (aCons (eComp [none] (itL (e1 (dFld Qj "table") (eVar 0))) (gN 0) cTrue QdL) aNil)))
def Qaz:List D->Out D:=bodyF false 1 1 Qdb
theorem QoN(d0:D):Qaz [d0]=(Qdb [some (.k,d0)]>>=retF false):=rfl
theorem QnD(F:FunV K "numbers" "Clerk.numbers" QaL f fd dV)(QCW:"e"^QcL "row_text" 1 false)(fo_table:FldOk K CT Qj "table"):"f"^2 ["self"] false Qaz:=
 (@fnV P w K mg base CT false _ _ _ f fd dV _ _ 1 Qdb F Qmo fun cdv A outer s H E G hr=>
  (Qh (QJ (Qeg (DE.db QL) (DF.de (QR rfl QfP (DI.b (QK (QdN fo_table (Qa 0)))) (fun ς=>Qx (Qn rfl ς)) (Qr _) (fun fp s H G p=>⟨(Qw (i:=0) QfP.nd rfl (oi rfl) (hf:=Or.inr rfl)),QA,(de_f QCW (Rm hr) (Qd (Qa 0) Qk) gr)⟩)))))) :)
abbrev QcX:Stmt:=inCls (top 15) 1
theorem QxZ:Qq ["self"] ["self"] (Qb QcX):=⟨rfl,rfl,rfl,dk,rfl,dk,dk⟩
def QlJ:SD->Out Fl:=(sRet (eC (.str "deal")))
def Qfb:List D->Out D:=bodyF false 1 1 QlJ
theorem QA4(F:FunV K "word" "Deal.word" QcX f fd dV)  : "f"^1 ["self"] false Qfb:=
 (@fnV P w K mg base CT false _ _ _ f fd dV _ _ 0 QlJ F QxZ fun cdv A outer s H E G hr=>
  (Qh (QJ QL)) :)
abbrev QbM:Stmt:=inCls (top 16) 1
theorem QpZ:Qq ["self"] ["self"] (Qb QbM):=⟨rfl,rfl,rfl,dk,rfl,dk,dk⟩
def Qjf:SD->Out Fl:=(sRet (eC (.str "bundle")))
def Qd2:List D->Out D:=bodyF false 1 1 Qjf
theorem QsI(F:FunV K "word" "Bundle.word" QbM f fd dV)  : "f"^1 ["self"] false Qd2:=
 (@fnV P w K mg base CT false _ _ _ f fd dV _ _ 0 Qjf F QpZ fun cdv A outer s H E G hr=>
  (Qh (QJ QL)) :)
abbrev Qc0:Stmt:=inCls (top 17) 1
theorem Qvq:Qq ["self"] ["self"] (Qb Qc0):=⟨rfl,rfl,rfl,dk,rfl,dk,dk⟩
def Qlv:SD->Out Fl:=(sRet (eC (.str "copy")))
def Qfh:List D->Out D:=bodyF false 1 1 Qlv
theorem QBL(F:FunV K "word" "Copy.word" Qc0 f fd dV)  : "f"^1 ["self"] false Qfh:=
 (@fnV P w K mg base CT false _ _ _ f fd dV _ _ 0 Qlv F Qvq fun cdv A outer s H E G hr=>
  (Qh (QJ QL)) :)
abbrev QcY:Stmt:=inCls (top 18) 1
theorem Qvu:Qq ["self"] ["self"] (Qb QcY):=⟨rfl,rfl,rfl,dk,rfl,dk,dk⟩
def Qlt:SD->Out Fl:=(sRet (eC (.str "rows")))
def Qfj:List D->Out D:=bodyF false 1 1 Qlt
theorem QBF(F:FunV K "word" "Rows.word" QcY f fd dV)  : "f"^1 ["self"] false Qfj:=
 (@fnV P w K mg base CT false _ _ _ f fd dV _ _ 0 Qlt F Qvu fun cdv A outer s H E G hr=>
  (Qh (QJ QL)) :)
abbrev Qcv:Stmt:=inCls (top 14) 10
theorem QsF:Qq ["self"] ["self"] (Qb Qcv):=⟨rfl,rfl,rfl,dk,rfl,dk,dk⟩
def Qbv:Str->List D->Out D:=fun c=>if c=("Deal":Str) then Qfb else if c=("Bundle":Str) then Qd2 else if c=("Copy":Str) then Qfh else if c=("Rows":Str) then Qfj else fun _=>.stuck
theorem Qkl:Qbv "Deal"=Qfb:=by unfold Qbv;rw[if_pos rfl]
theorem Qh6:Qbv "Bundle"=Qd2:=by unfold Qbv;rw[if_neg (dk),if_pos rfl]
theorem Qj8:Qbv "Copy"=Qfh:=by unfold Qbv;rw[if_neg (dk),if_neg (dk),if_pos rfl]
theorem Qjr:Qbv "Rows"=Qfj:=by unfold Qbv;rw[if_neg (dk),if_neg (dk),if_neg (dk),if_pos rfl]
def Qat:Str->List D->Out D:=fun c=>if c=("Deal":Str) then Qcu else if c=("Bundle":Str) then QbH else if c=("Copy":Str) then Qaz else if c=("Rows":Str) then Qaz else fun _=>.stuck
theorem QgM:Qat "Deal"=Qcu:=by unfold Qat;rw[if_pos rfl]
theorem QfN:Qat "Bundle"=QbH:=by unfold Qat;rw[if_neg (dk),if_pos rfl]
theorem QgT:Qat "Copy"=Qaz:=by unfold Qat;rw[if_neg (dk),if_neg (dk),if_pos rfl]
theorem QgV:Qat "Rows"=Qaz:=by unfold Qat;rw[if_neg (dk),if_neg (dk),if_neg (dk),if_pos rfl]
def QeF:SD->Out Fl:=(sRet (e2 dAdd (e2 dAdd (eMeth Qc "word" Qbv (eVar 0) aNil) (eC (.str " "))) (eMeth Qc "numbers" Qat (eVar 0) aNil)))
def Qbf:List D->Out D:=bodyF false 1 1 QeF
theorem Qws(d0:D):Qbf [d0]=(QeF [some (.k,d0)]>>=retF false):=rfl
theorem QuS(F:FunV K "text" "Clerk.text" Qcv f fd dV)(mt_word:MtOk P w K mg base CT CX0 "word" 1 Qc (fun c=>SpD K CT false (Qbv c)))(mt_numbers:MtOk P w K mg base CT CX0 "numbers" 2 Qc (fun c=>SpD K CT false (Qat c))):"f"^3 ["self"] false Qbf:=
 (@fnV P w K mg base CT false _ _ _ f fd dV _ _ 2 QeF F QsF fun cdv A outer s H E G hr=>
  (Qh (QJ (QQ (DE.db (QQ (DE.db (QaF mt_word (Rm hr) (Qa 0))) (DE.db QL))) (DE.db (QaF mt_numbers (Rm hr) (Qa 0)))))) :)
abbrev Qbx:Stmt:=inCls (top 41) 2
theorem Qno:Qq ["self"] ["self"] (Qb Qbx):=⟨rfl,rfl,rfl,dk,rfl,dk,dk⟩
def QdC:SD->Out Fl:=(sRetF (e1 dList (e1 (dFld Qj "door_names") (eVar 0))))
def Q7:List D->Out D:=bodyF true 1 1 QdC
theorem QpT(d0:D):Q7 [d0]=(QdC [some (.k,d0)]>>=retF true):=rfl
theorem QqF(F:FunV K "doors" "Office.doors" Qbx f fd dV)(z_list:mg "list"=none)(fo_door_names:FldOk K CT Qj "door_names"):"f"^1 ["self"] true Q7:=
 (@fnV P w K mg base CT true _ _ _ f fd dV _ _ 0 QdC F Qno fun cdv A outer s H E G hr=>
  (Qh (QaX (Qc2 gr z_list (QdN fo_door_names (Qa 0))))) :)
abbrev Qby:Stmt:=inCls (top 41) 7
theorem Qos:Qq ["self","k"] ["self","k"] (Qb Qby):=⟨rfl,rfl,rfl,dk,rfl,dk,dk⟩
def Qdt:SD->Out Fl:=(sRetF (e1 dList (e2 dIx (e1 (dFld Qj "ways") (eVar 0)) (eVar 1))))
def Qap:List D->Out D:=bodyF true 2 2 Qdt
theorem Qq5(d0 d1:D):Qap [d0,d1]=(Qdt [some (.k,d0),some (.k,d1)]>>=retF true):=rfl
theorem QqU(F:FunV K "leads" "Office.leads" Qby f fd dV)(z_list:mg "list"=none)(fo_ways:FldOk K CT Qj "ways"):"f"^1 ["self","k"] true Qap:=
 (@fnV P w K mg base CT true _ _ _ f fd dV _ _ 0 Qdt F Qos fun cdv A outer s H E G hr=>
  (Qh (QaX (Qc2 gr z_list (de_ix (QdN fo_ways (Qa 0)) (DE.db (Qa 1)))))) :)
abbrev QbJ:Stmt:=top 43
theorem QfC:Qq ["office","k","names","doors"] ["office","k"] (Qb QbJ):=⟨rfl,rfl,rfl,dk,rfl,dk,dk⟩
abbrev QnF:Scope:={ kind:=ScopeKind.function,names:=[ (Str.ofString ".0",NameKind.local),(Str.ofString "lead",NameKind.local),(Str.ofString "doors",NameKind.free),(Str.ofString "names",NameKind.free)],isGenerator:=false,isCoroutine:=false,more:=[]:Scope }
theorem QhM:Qy ["lead","names","doors"] [none,some 2,some 3] QnF (Qb QbJ) ["office","k","names","doors"]:=⟨rfl,dk,dk,rfl,dk,dk⟩
def Qe2:SD->Out D:=(eIf (tVal (e2 dGe (eVar 0) (eC (.int 0)))) (e2 dIx (eVar 1) (eVar 0)) (e2 dIx (eVar 2) (e2 dSub (e1 dNeg (eC (.int 1))) (eVar 0))))
def QeB:SD->Out Fl:=(sSeq (sSet 2 (eMeth Qi "names" (fun _=>Q1) (eVar 0) aNil)) (sSeq (sSet 3 (eMeth Qi "doors" (fun _=>Q7) (eVar 0) aNil)) (sRetF (eComp [none,some 2,some 3] (itL (eMeth Qi "leads" (fun _=>Qap) (eVar 0) (aCons (eVar 1) aNil))) (gN 0) cTrue Qe2))))
def QbC:List D->Out D:=bodyF true 2 4 QeB
theorem QwF(d0 d1:D):QbC [d0,d1]=(QeB [some (.k,d0),some (.k,d1),none,none]>>=retF true):=rfl
theorem Qx6(F:FunV K "lead_names" "lead_names" QbJ f fd dV)(mt_names:MtOk P w K mg base CT CX0 "names" 1 Qi (fun c=>SpD K CT true ((fun _=>Q1) c)))(mt_doors:MtOk P w K mg base CT CX0 "doors" 1 Qi (fun c=>SpD K CT true ((fun _=>Q7) c)))(mt_leads:MtOk P w K mg base CT CX0 "leads" 1 Qi (fun c=>SpD K CT true ((fun _=>Qap) c))):"f"^2 ["office","k"] true QbC:=
 (@fnV P w K mg base CT true _ _ _ f fd dV _ _ 1 QeB F QfC fun cdv A outer s H E G hr=>
  (Qf (QP (i:=2) QfC.nd rfl (Or.inr rfl) (QaF mt_names (Rm hr) (Qa 0))) (Qf (QP (i:=3) QfC.nd rfl (Or.inr rfl) (QaF mt_doors (Rm hr) (Qa 0))) (Qh (QaX (QR rfl QhM (DI.b (QK (QB3 mt_leads (Rm hr) (Qa 0) (Qd (Qa 1) Qk)))) (fun ς=>Qx (Qn rfl ς)) (Qr _) (fun fp s H G p=>⟨(Qw (i:=0) QhM.nd rfl (oi rfl) (hf:=Or.inr rfl)),QA,(de_if (dt_ge (DE.db (Qa 0)) (DE.db Qe)) (de_ix (Qa 1) (DE.db (Qa 0))) (de_ix (Qa 2) (DE.db (Qj5 (DE.db (Qxf (DE.db Qe))) (DE.db (Qa 0))))))⟩)))))) :)
abbrev Qbw:Stmt:=inCls (top 41) 5
theorem Qnj:Qq ["self","k"] ["self","k"] (Qb Qbw):=⟨rfl,rfl,rfl,dk,rfl,dk,dk⟩
def QdJ:SD->Out Fl:=(sRet (e2 dIx (e1 (dFld Qj "staff") (eVar 0)) (eVar 1)))
def Qar:List D->Out D:=bodyF false 2 2 QdJ
theorem QqP(d0 d1:D):Qar [d0,d1]=(QdJ [some (.k,d0),some (.k,d1)]>>=retF false):=rfl
theorem QqL(F:FunV K "clerk" "Office.clerk" Qbw f fd dV)(fo_staff:FldOk K CT Qj "staff"):"f"^1 ["self","k"] false Qar:=
 (@fnV P w K mg base CT false _ _ _ f fd dV _ _ 0 QdJ F Qnj fun cdv A outer s H E G hr=>
  (Qh (QJ (de_ix (QdN fo_staff (Qa 0)) (DE.db (Qa 1))))) :)
abbrev Qbq:Stmt:=inCls (top 41) 6
theorem QnT:Qq ["self"] ["self"] (Qb Qbq):=⟨rfl,rfl,rfl,dk,rfl,dk,dk⟩
def QdI:SD->Out Fl:=(sRetF (e1 dList (e1 (dFld Qj "first_states") (eVar 0))))
def QaG:List D->Out D:=bodyF true 1 1 QdI
theorem QqX(d0:D):QaG [d0]=(QdI [some (.k,d0)]>>=retF true):=rfl
theorem QpP(F:FunV K "begin" "Office.begin" Qbq f fd dV)(z_list:mg "list"=none)(fo_first_states:FldOk K CT Qj "first_states"):"f"^1 ["self"] true QaG:=
 (@fnV P w K mg base CT true _ _ _ f fd dV _ _ 0 QdI F QnT fun cdv A outer s H E G hr=>
  (Qh (QaX (Qc2 gr z_list (QdN fo_first_states (Qa 0))))) :)
abbrev Qc6:Stmt:=top 44
theorem QkC:Qq ["office","k","words"] ["office","k"] (Qb Qc6):=⟨rfl,rfl,rfl,dk,rfl,dk,dk⟩
def Qfi:SD->Out Fl:=(sSeq (sSet 2 (eLst (aCons (eC (.str "clerk")) (aCons (e2 dIx (eMeth Qi "names" (fun _=>Q1) (eVar 0) aNil) (eVar 1)) (aCons (eMeth Qc "text" (fun _=>Qbf) (eMeth Qi "clerk" (fun _=>Qar) (eVar 0) (aCons (eVar 1) aNil)) aNil) (aCons (eC (.str "at")) (aCons (eA (f1 dStr) (aCons (e2 dIx (eMeth Qi "begin" (fun _=>QaG) (eVar 0) aNil) (eVar 1)) aNil)) (aCons (eC (.str "to")) aNil)))))))) (sRet (eSm fJoin (eC (.str " ")) (aCons (e2 dCat (eVar 2) (eA (fun xs=>QbC (xs++[])) (aCons (eVar 0) (aCons (eVar 1) aNil)))) aNil))))
def Qcb:List D->Out D:=bodyF false 2 3 Qfi
theorem QA2(d0 d1:D):Qcb [d0,d1]=(Qfi [some (.k,d0),some (.k,d1),none]>>=retF false):=rfl
theorem QAo(F:FunV K "clerk_row" "clerk_row" Qc6 f fd dV)(QwO:"e"^QbC "lead_names" 2 true)(z_str:mg "str"=none)(mt_names:MtOk P w K mg base CT CX0 "names" 1 Qi (fun c=>SpD K CT true ((fun _=>Q1) c)))(mt_text:MtOk P w K mg base CT CX0 "text" 3 Qc (fun c=>SpD K CT false ((fun _=>Qbf) c)))(mt_clerk:MtOk P w K mg base CT CX0 "clerk" 1 Qi (fun c=>SpD K CT false ((fun _=>Qar) c)))(mt_begin:MtOk P w K mg base CT CX0 "begin" 1 Qi (fun c=>SpD K CT true ((fun _=>QaG) c))):"f"^4 ["office","k"] false Qcb:=
 (@fnV P w K mg base CT false _ _ _ f fd dV _ _ 3 Qfi F QkC fun cdv A outer s H E G hr=>
  (Qf (QP (i:=2) QkC.nd rfl (oi rfl) (DF.de (Qaw (Qd QL (Qd (de_ix (QaF mt_names (Rm hr) (Qa 0)) (DE.db (Qa 1))) (Qd (QaF mt_text (Rm hr) (QB3 mt_clerk (Rm hr) (Qa 0) (Qd (Qa 1) Qk))) (Qd QL (Qd (Qed gr z_str (Qs (DE.db (de_ix (QaF mt_begin (Rm hr) (Qa 0)) (DE.db (Qa 1)))) Qz)) (Qd QL Qk))))))))) (Qh (QJ (Qeg (DE.db QL) (DF.de (Qfl (Qa 2) (de_f QwO (Rm hr) (Qd (Qa 0) (Qd (Qa 1) Qk)) gr))))))) :)
abbrev Qa2:Stmt:=inCls (top 41) 3
theorem QkY:Qq ["self"] ["self"] (Qb Qa2):=⟨rfl,rfl,rfl,dk,rfl,dk,dk⟩
def QcB:SD->Out Fl:=(sRetF (e1 dList (e1 (dFld Qj "entry_places") (eVar 0))))
def Qac:List D->Out D:=bodyF true 1 1 QcB
theorem QmU(d0:D):Qac [d0]=(QcB [some (.k,d0)]>>=retF true):=rfl
theorem QmC(F:FunV K "entries" "Office.entries" Qa2 f fd dV)(z_list:mg "list"=none)(fo_entry_places:FldOk K CT Qj "entry_places"):"f"^1 ["self"] true Qac:=
 (@fnV P w K mg base CT true _ _ _ f fd dV _ _ 0 QcB F QkY fun cdv A outer s H E G hr=>
  (Qh (QaX (Qc2 gr z_list (QdN fo_entry_places (Qa 0))))) :)
abbrev QbN:Stmt:=inCls (top 41) 4
theorem Qrh:Qq ["self"] ["self"] (Qb QbN):=⟨rfl,rfl,rfl,dk,rfl,dk,dk⟩
def Qd1:SD->Out Fl:=(sRet (eA fLen (aCons (e1 (dFld Qj "clerk_names") (eVar 0)) aNil)))
def QaE:List D->Out D:=bodyF false 1 1 Qd1
theorem QtI(d0:D):QaE [d0]=(Qd1 [some (.k,d0)]>>=retF false):=rfl
theorem Qto(F:FunV K "many" "Office.many" QbN f fd dV)(z_len:mg "len"=none)(fo_clerk_names:FldOk K CT Qj "clerk_names"):"f"^1 ["self"] false QaE:=
 (@fnV P w K mg base CT false _ _ _ f fd dV _ _ 0 Qd1 F Qrh fun cdv A outer s H E G hr=>
  (Qh (QJ (Qae gr z_len (Qs (DE.db (QdN fo_clerk_names (Qa 0))) Qz)))) :)
abbrev QbW:Stmt:=top 45
theorem Qeu:Qq ["office","names","door_rows","clerk_rows","entry_rows"] ["office"] (Qb QbW):=⟨rfl,rfl,rfl,dk,rfl,dk,dk⟩
abbrev Qv4:Scope:={ kind:=ScopeKind.function,names:=[(Str.ofString ".0",NameKind.local),(Str.ofString "door",NameKind.local)],isGenerator:=false,isCoroutine:=false,more:=[]:Scope }
theorem Qll:Qy ["door"] [none] Qv4 (Qb QbW) ["office","names","door_rows","clerk_rows","entry_rows"]:=⟨rfl,dk,dk,rfl,dk,dk⟩
def Qhw:SD->Out D:=(e2 dAdd (eC (.str "door ")) (eVar 0))
abbrev QxU:Scope:={ kind:=ScopeKind.function,names:=[ (Str.ofString ".0",NameKind.local),(Str.ofString "k",NameKind.local),(Str.ofString "clerk_row",NameKind.globalImplicit),(Str.ofString "office",NameKind.free)],isGenerator:=false,isCoroutine:=false,more:=[]:Scope }
theorem Qlw:Qy ["k","office"] [none,some 0] QxU (Qb QbW) ["office","names","door_rows","clerk_rows","entry_rows"]:=⟨rfl,dk,dk,rfl,dk,dk⟩
def Qhq:SD->Out D:=(eA (fun xs=>Qcb (xs++[])) (aCons (eVar 1) (aCons (eVar 0) aNil)))
abbrev Qu0:Scope:={ kind:=ScopeKind.function,names:=[ (Str.ofString ".0",NameKind.local),(Str.ofString "entry",NameKind.local),(Str.ofString "names",NameKind.free)],isGenerator:=false,isCoroutine:=false,more:=[]:Scope }
theorem Qly:Qy ["entry","names"] [none,some 1] Qu0 (Qb QbW) ["office","names","door_rows","clerk_rows","entry_rows"]:=⟨rfl,dk,dk,rfl,dk,dk⟩
def Qhy:SD->Out D:=(e2 dAdd (e2 dAdd (e2 dAdd (eC (.str "entry ")) (e2 dIx (eVar 0) (eC (.int 0)))) (eC (.str " "))) (e2 dIx (eVar 1) (e2 dIx (eVar 0) (eC (.int 1)))))
def QgL:SD->Out Fl:=(sSeq (sSet 1 (eMeth Qi "names" (fun _=>Q1) (eVar 0) aNil)) (sSeq (sSet 2 (eComp [none] (itL (eMeth Qi "doors" (fun _=>Q7) (eVar 0) aNil)) (gN 0) cTrue Qhw)) (sSeq (sSet 3 (eComp [none,some 0] (itR1 (eMeth Qi "many" (fun _=>QaE) (eVar 0) aNil)) (gN 0) cTrue Qhq)) (sSeq (sSet 4 (eComp [none,some 1] (itL (eMeth Qi "entries" (fun _=>Qac) (eVar 0) aNil)) (gN 0) cTrue Qhy)) (sRet (eSm fJoin (eC (.str "; ")) (aCons (e2 dCat (e2 dCat (eVar 2) (eVar 3)) (eVar 4)) aNil)))))))
def QbQ:List D->Out D:=bodyF false 1 5 QgL
theorem QGU(d0:D):QbQ [d0]=(QgL [some (.k,d0),none,none,none,none]>>=retF false):=rfl
theorem QEQ(F:FunV K "written" "written" QbW f fd dV)(Qyz:"e"^Qcb "clerk_row" 4 false)(z_range:mg "range"=none)(mt_names:MtOk P w K mg base CT CX0 "names" 1 Qi (fun c=>SpD K CT true ((fun _=>Q1) c)))(mt_doors:MtOk P w K mg base CT CX0 "doors" 1 Qi (fun c=>SpD K CT true ((fun _=>Q7) c)))(mt_many:MtOk P w K mg base CT CX0 "many" 1 Qi (fun c=>SpD K CT false ((fun _=>QaE) c)))(mt_entries:MtOk P w K mg base CT CX0 "entries" 1 Qi (fun c=>SpD K CT true ((fun _=>Qac) c))):"f"^5 ["office"] false QbQ:=
 (@fnV P w K mg base CT false _ _ _ f fd dV _ _ 4 QgL F Qeu fun cdv A outer s H E G hr=>
  (Qf (QP (i:=1) Qeu.nd rfl (Or.inr rfl) (QaF mt_names (Rm hr) (Qa 0))) (Qf (Qcq (i:=2) rfl Qll (DI.b (QK (QaF mt_doors (Rm hr) (Qa 0)))) (fun ς=>Qx (Qn rfl ς)) (Qr _) (fun fp s H G p=>⟨(Qw (i:=0) Qll.nd rfl (oi rfl) (hf:=Or.inr rfl)),QA,(QQ (DE.db QL) (DE.db (Qa 0)))⟩) Qeu.nd rfl (oi rfl)) (Qf (Qcq (i:=3) rfl Qlw (DI.b (Qaa gr z_range (DE.db (QaF mt_many (Rm hr) (Qa 0))))) (fun ς=>Qx (Qn rfl ς)) (Qr _) (fun fp s H G p=>⟨(Qw (i:=0) Qlw.nd rfl (oi rfl) (hf:=Or.inr rfl)),QA,(de_f Qyz (Rm hr) (Qd (Qa 1) (Qd (Qa 0) Qk)) gr)⟩) Qeu.nd rfl (oi rfl)) (Qf (Qcq (i:=4) rfl Qly (DI.b (QK (QaF mt_entries (Rm hr) (Qa 0)))) (fun ς=>Qx (Qn rfl ς)) (Qr _) (fun fp s H G p=>⟨(Qw (i:=0) Qly.nd rfl (oi rfl) (hf:=Or.inr rfl)),QA,(QQ (DE.db (QQ (DE.db (QQ (DE.db QL) (DE.db (de_ix (Qa 0) (DE.db Qe))))) (DE.db QL))) (DE.db (de_ix (Qa 1) (DE.db (de_ix (Qa 0) (DE.db Qe))))))⟩) Qeu.nd rfl (oi rfl)) (Qh (QJ (Qeg (DE.db QL) (DF.de (Qfl (DF.de (Qfl (Qa 2) (Qa 3))) (Qa 4)))))))))) :)
abbrev Qa8:Stmt:=top 55
theorem Qbo:Qq ["_law_plan_here","_law_doors","_law_seats","_law_let_in_here","_law_names","_law_rows","_law_seat","_law_words"] ["_law_plan_here"] (Qb Qa8):=⟨rfl,rfl,rfl,dk,rfl,dk,dk⟩
abbrev Qsa:Scope:={ kind:=ScopeKind.function,names:=[(Str.ofString ".0",NameKind.local),(Str.ofString "_law_seat",NameKind.local)],isGenerator:=false,isCoroutine:=false,more:=[]:Scope }
theorem QjZ:Qy ["_law_seat"] [none] Qsa (Qb Qa8) ["_law_plan_here","_law_doors","_law_seats","_law_let_in_here","_law_names","_law_rows","_law_seat","_law_words"]:=⟨rfl,dk,dk,rfl,dk,dk⟩
def QgE:SD->Out D:=(e2 dIx (eVar 0) (eC (.int 0)))
abbrev Qsv:Scope:={ kind:=ScopeKind.function,names:=[(Str.ofString ".0",NameKind.local),(Str.ofString "_law_name_here",NameKind.local)],isGenerator:=false,isCoroutine:=false,more:=[]:Scope }
theorem QkI:Qy ["_law_name_here"] [none] Qsv (Qb Qa8) ["_law_plan_here","_law_doors","_law_seats","_law_let_in_here","_law_names","_law_rows","_law_seat","_law_words"]:=⟨rfl,dk,dk,rfl,dk,dk⟩
def Qgv:SD->Out D:=(e2 dAdd (eC (.str "door ")) (eVar 0))
abbrev Qt3:Scope:={ kind:=ScopeKind.function,names:=[ (Str.ofString ".0",NameKind.local),(Str.ofString "_law_lead",NameKind.local),(Str.ofString "_law_names",NameKind.free)],isGenerator:=false,isCoroutine:=false,more:=[]:Scope }
theorem Qke:Qy ["_law_lead","_law_names"] [none,some 4] Qt3 (Qb Qa8) ["_law_plan_here","_law_doors","_law_seats","_law_let_in_here","_law_names","_law_rows","_law_seat","_law_words"]:=⟨rfl,dk,dk,rfl,dk,dk⟩
def Qgp:SD->Out D:=(e2 dIx (eVar 1) (eVar 0))
def QeG:SD->Out Fl:=(sSeq (sSet 7 (e2 dCat (eLst (aCons (eC (.str "clerk")) (aCons (e2 dIx (eVar 6) (eC (.int 0))) (aCons (e2 dIx (eVar 6) (eC (.int 3))) (aCons (eC (.str "at")) (aCons (eA (f1 dStr) (aCons (e2 dIx (eVar 6) (eC (.int 5))) aNil)) (aCons (eC (.str "to")) aNil))))))) (eComp [none,some 4] (itL (e2 dIx (eVar 6) (eC (.int 4)))) (gN 0) cTrue Qgp))) (QaY 5 (eSm fJoin (eC (.str " ")) (aCons (eVar 7) aNil))))
abbrev Qsq:Scope:={ kind:=ScopeKind.function,names:=[ (Str.ofString ".0",NameKind.local),(Str.ofString "_law_name_here",NameKind.local),(Str.ofString "_law_clerk_here",NameKind.local),(Str.ofString "_law_seats",NameKind.free)],isGenerator:=false,isCoroutine:=false,more:=[]:Scope }
theorem Qgk:Qy ["_law_name_here","_law_clerk_here","_law_seats"] [none,none,some 2] Qsq (Qb Qa8) ["_law_plan_here","_law_doors","_law_seats","_law_let_in_here","_law_names","_law_rows","_law_seat","_law_words"]:=⟨rfl,dk,dk,rfl,dk,dk⟩
def QgG:SD->Out D:=(e2 dAdd (e2 dAdd (e2 dAdd (eC (.str "entry ")) (eVar 0)) (eC (.str " "))) (e2 dIx (e2 dIx (eVar 2) (eVar 1)) (eC (.int 0))))
def Qf1:SD->Out Fl:=(sSeq (sUnpL [1,2,3] (eVar 0)) (sSeq (sSet 4 (e2 dCat (eVar 1) (eComp [none] (itL (eVar 2)) (gN 0) cTrue QgE))) (sSeq (sSetO 5 (eComp [none] (itL (eVar 1)) (gN 0) cTrue Qgv)) (sSeq (sFor (gN 6) (itL (eVar 2)) QeG) (sRet (eSm fJoin (eC (.str "; ")) (aCons (e2 dCatB (eVarB 5) (eComp [none,none,some 2] (itL (eVar 3)) (gT [0,1]) cTrue QgG)) aNil)))))))
def Qa6:List D->Out D:=bodyF false 1 8 Qf1
theorem QEk(d0:D):Qa6 [d0]=(Qf1 [some (.k,d0),none,none,none,none,none,none,none]>>=retF false):=rfl
theorem QCE(F:FunV K "_law_text" "_law_text" Qa8 f fd dV)(z_str:mg "str"=none):"f"^1 ["_law_plan_here"] false Qa6:=
 (@fnV P w K mg base CT false _ _ _ f fd dV _ _ 0 Qf1 F Qbo fun cdv A outer s H E G hr=>
  (Qf (Qqo rfl (Qa 0) (Qab (i:=1) Qbo.nd rfl (oi rfl) (Qab (i:=2) Qbo.nd rfl (Or.inr rfl) (Qab (i:=3) Qbo.nd rfl (oi rfl) Qd9)))) (Qf (QP (i:=4) Qbo.nd rfl (Or.inr rfl) (DF.de (Qfl (Qa 1) (DF.de (QR rfl QjZ (DI.b (QK (Qa 2))) (fun ς=>Qx (Qn rfl ς)) (Qr _) (fun fp s H G p=>⟨(Qw (i:=0) QjZ.nd rfl (oi rfl) (hf:=Or.inr rfl)),QA,(de_ix (Qa 0) (DE.db Qe))⟩)))))) (Qf (QHq (i:=5) rfl QkI (DI.b (QK (Qa 1))) (fun ς=>Qx (Qn rfl ς)) (Qr _) (fun fp s H G p=>⟨(Qw (i:=0) QkI.nd rfl (oi rfl) (hf:=Or.inr rfl)),QA,(QQ (DE.db QL) (DE.db (Qa 0)))⟩) Qbo.nd rfl (oi rfl)) (Qf (QbP PassesOwn.never rfl (QK (Qa 2)) (Qw (i:=6) Qbo.nd rfl (oi rfl)) (Qr _) (Qf (QP (i:=7) Qbo.nd rfl (oi rfl) (DF.de (Qfl (DF.de (Qaw (Qd QL (Qd (de_ix (Qa 6) (DE.db Qe)) (Qd (de_ix (Qa 6) (DE.db Qe)) (Qd QL (Qd (Qed gr z_str (Qs (DE.db (de_ix (Qa 6) (DE.db Qe))) Qz)) (Qd QL Qk)))))))) (DF.de (QR rfl Qke (DI.b (QK (de_ix (Qa 6) (DE.db Qe)))) (fun ς=>Qx (Qn rfl ς)) (Qr _) (fun fp s H G p=>⟨(Qw (i:=0) Qke.nd rfl (oi rfl) (hf:=Or.inr rfl)),QA,(de_ix (Qa 1) (DE.db (Qa 0)))⟩)))))) (Qh (Qbp 5 (Qeg (DE.db QL) (Qa 7)) rfl (oi rfl))))) (Qh (QJ (Qeg (DE.db QL) (DF.de (QIv (Qfu 5) (DF.de (QR rfl Qgk (DI.b (QK (Qa 3))) (fun ς=>QmJ (fun i hi=>Qn (by revert hi;revert i;decide) ς)) (Qgg _) (fun fp s H G p=>⟨(Qks rfl (Qab (i:=0) Qgk.nd rfl (oi rfl) (Qab (i:=1) Qgk.nd rfl (oi rfl) Qd9 (hf:=Or.inr rfl)) (hf:=Or.inr rfl))),QA,(QQ (DE.db (QQ (DE.db (QQ (DE.db QL) (DE.db (Qa 0)))) (DE.db QL))) (DE.db (de_ix (de_ix (Qa 2) (DE.db (Qa 1))) (DE.db Qe))))⟩)))))))))))) :)
abbrev Qf3:Stmt:=top 56
theorem Qgl:Qq ["_law_script","_law_plan_here","_law_handed_here","_law_office","_law_found","_law_due"] ["_law_script"] (Qb Qf3):=⟨rfl,rfl,rfl,dk,rfl,dk,dk⟩
def QuE:SD->Out Fl:=(sSeq (sSet 1 (eA (fun xs=>QaD (xs++[])) (aCons (eVar 0) (aCons (eC (.int 60)) aNil)))) (sSeq (sIf (tVal (e2 dGt (eA fLen (aCons (eA (fun xs=>Qa6 (xs++[])) (aCons (eVar 1) aNil)) aNil)) (eC (.int 4000)))) (sSet 1 (eA (fun xs=>QaD (xs++[])) (aCons (eVar 0) (aCons (eC (.int 12)) aNil)))) sNil) (sSeq (sSet 2 (eA (fun xs=>QbI (xs++[])) (aCons (eVar 1) aNil))) (sSeq (sSet 3 (eMake "Office" QaO (aCons (e2 dIx (eVar 2) (eC (.int 0))) (aCons (e2 dIx (eVar 2) (eC (.int 1))) (aCons (e2 dIx (eVar 2) (eC (.int 2))) aNil))))) (sSeq (sSet 4 (eA (fun xs=>QbQ (xs++[])) (aCons (eVar 3) aNil))) (sSeq (sSet 5 (eA (fun xs=>Qa6 (xs++[])) (aCons (eVar 1) aNil))) (sRet (eAnd (eIsa (isaT "str") (eVar 4)) (eAnd (e2 dEq (eVar 4) (eVar 5)) (e2 dEq (eA (fun xs=>QbQ (xs++[])) (aCons (eVar 3) aNil)) (eVar 5)))))))))))
def Qg8:List D->Out D:=bodyF false 1 6 QuE
theorem QLe(d0:D):Qg8 [d0]=(QuE [some (.k,d0),none,none,none,none,none]>>=retF false):=rfl
theorem QLa(F:FunV K "law" "law" Qf3 f fd dV)(Qoc:"e"^QaD "_law_plan" 8 true)(QoO:"e"^Qa6 "_law_text" 1 false)(Qw8:"e"^QbI "_law_handed" 1 true)(QrT:"e"^QbQ "written" 5 false)(z_len:mg "len"=none)(z_isinstance:mg "isinstance"=none)(z_str:mg "str"=none)(Qky:MkOk P w K mg base CT "Office" 5 QaO):"f"^9 ["_law_script"] false Qg8:=
 (@fnV P w K mg base CT false _ _ _ f fd dV _ _ 8 QuE F Qgl fun cdv A outer s H E G hr=>
  (Qf (QP (i:=1) Qgl.nd rfl (oi rfl) (de_f Qoc (Rm hr) (Qd (Qa 0) (Qd Qe Qk)) gr)) (Qf (ds_if (dt_gt (DE.db (Qae gr z_len (Qs (DE.db (de_f QoO (Rm hr) (Qd (Qa 1) Qk) gr)) Qz))) (DE.db Qe)) (Qh (QP (i:=1) Qgl.nd rfl (oi rfl) (de_f Qoc (Rm hr) (Qd (Qa 0) (Qd Qe Qk)) gr))) QW) (Qf (QP (i:=2) Qgl.nd rfl (oi rfl) (de_f Qw8 (Rm hr) (Qd (Qa 1) Qk) gr)) (Qf (QP (i:=3) Qgl.nd rfl (oi rfl) (DF.de (QhD rz0 Qky (Rm hr) (Qd (de_ix (Qa 2) (DE.db Qe)) (Qd (de_ix (Qa 2) (DE.db Qe)) (Qd (de_ix (Qa 2) (DE.db Qe)) Qk))) gr))) (Qf (QP (i:=4) Qgl.nd rfl (oi rfl) (de_f QrT (Rm hr) (Qd (Qa 3) Qk) gr)) (Qf (QP (i:=5) Qgl.nd rfl (oi rfl) (de_f QoO (Rm hr) (Qd (Qa 1) Qk) gr)) (Qh (QJ (QcV (Qcm "str" Qqw gr z_str PyProof.Rows.Boot.«str» gr z_isinstance (DE.db (Qa 4))) (QcV (de_eq hr.units (DE.db (Qa 4)) (DE.db (Qa 5))) (Qfs (de_eq hr.units (DE.db (de_f QrT (Rm hr) (Qd (Qa 3) Qk) gr)) (DE.db (Qa 5)))))))))))))) :)
end
end My
set_option exponentiation.threshold 20000
namespace My
open PySem PySem.Spec L2 DL
local macro_rules | `(tactic| walk_at "g") => `(tactic| ((repeat (first | exact QKc | apply QJ9));done))
local macro_rules | `(tactic| walk_at "s") => `(tactic| repeat (first | exact QE1 | apply QFH))
local macro_rules | `(tactic| walk_at "all") => `(tactic| repeat (first | with_reducible exact QrH | (apply Qr8;focus walk_at "s")))
local macro_rules | `(tactic| walk_at "cap") => `(tactic| repeat (first | exact c_nil | apply Qfw | (apply c_k;focus walk_at "g") | (apply c_o;focus walk_at "g") | (apply c_l;focus walk_at "g") | (apply c_s;focus walk_at "g")))
local macro_rules | `(tactic| walk_at "b") => `(tactic| first | rfl | with_reducible assumption | (simp only[Bool.not_eq_true',Bool.not_eq_false',decide_eq_true_eq,decide_eq_false_iff_not,Bool.not_true,Bool.not_false];first | with_reducible assumption | omega) | (simp;done))
local macro_rules | `(tactic| walk_at "p") => `(tactic| first | decide | with_reducible assumption | omega)
local macro_rules | `(tactic| walk_at "l") => `(tactic| first | decide | with_reducible assumption | (simp only[List.length_map,List.length_cons,List.length_nil,List.length_range,List.length_append];omega) | omega | (simp;omega))
local macro_rules | `(tactic| walk_at "e") => `(tactic| first
 | ((with_reducible apply r_id);with_reducible assumption)
 | with_reducible exact r_okR | with_reducible exact QJy
 | with_reducible apply r_var | with_reducible apply QdT | with_reducible exact r_C | with_reducible exact r_nil | with_reducible exact r_oNo | with_reducible exact QbU | with_reducible exact Qf9
 | with_reducible exact QU _ _ | with_reducible exact Qd5 _ _ | with_reducible exact Qdf _ | with_reducible exact Qe1 _ | with_reducible exact QcW _ _ | with_reducible exact QeQ _ _ | with_reducible exact QdB _ _ | with_reducible exact Qeh _ _ | with_reducible exact QaA _ _ | with_reducible exact Qeb _ _
 | with_reducible exact Qad (by walk_at "p")
 | with_reducible exact r_rt | with_reducible exact r_rtT | with_reducible exact r_rtS rfl
 | with_reducible apply QkL
 | with_reducible exact QE1 | with_reducible apply QFH
 | with_reducible exact QJ3 | with_reducible apply QKx
 | with_reducible exact QrH | with_reducible apply Qr8
 | with_reducible exact c_nil | with_reducible apply Qfw | ((with_reducible apply c_k);focus walk_at "g") | ((with_reducible apply c_o);focus walk_at "g") | ((with_reducible apply c_l);focus walk_at "g") | ((with_reducible apply c_s);focus walk_at "g")
 | ((with_reducible apply r_scal);exact rfl)
 | ((with_reducible apply r_get);focus walk_at "g")
 | ((with_reducible apply QKL);with_reducible assumption)
 | ((with_reducible apply bd_mod);focus walk_at "p") | with_reducible apply bd_add | with_reducible apply bd_sub | with_reducible apply bd_mul | with_reducible apply bd_div | with_reducible apply bd_neg | with_reducible exact QJ0 rfl
 | ((with_reducible apply r_dec);focus exact rfl)
 | ((with_reducible apply r_len);focus walk_at "l")
 | with_reducible apply r_mul
 | ((with_reducible apply QK6);focus walk_at "p")
 | ((with_reducible apply Qfv);focus walk_at "b")
 | ((with_reducible apply Qj9);focus walk_at "b")
 | with_reducible apply Qg | with_reducible apply r_e2 | with_reducible apply r_e1 | with_reducible apply r_seq | with_reducible apply r_set | with_reducible apply QdQ | with_reducible apply r_if | with_reducible apply Ql | with_reducible apply QaK | with_reducible apply QK5 | with_reducible apply r_or' | with_reducible apply Qvp | with_reducible apply QxT | with_reducible apply r_eOr | with_reducible apply r_eNot | with_reducible apply r_eIf | with_reducible apply r_isa | with_reducible apply QI5 | with_reducible apply QKV | with_reducible apply r_ret | with_reducible apply QcQ | with_reducible apply r_drop | with_reducible apply r_tup | with_reducible apply r_lst | with_reducible apply Qio | with_reducible apply r_nonScal | with_reducible apply r_noX | with_reducible apply Qf8 | with_reducible apply Q5 | with_reducible apply r_gN | with_reducible apply r_gT | with_reducible apply r_unp | with_reducible apply r_for | with_reducible apply r_itL | with_reducible apply r_itT | with_reducible apply r_itE | with_reducible apply r_itZ | with_reducible apply Qax | with_reducible apply r_eA | with_reducible apply r_sl | with_reducible apply r_slB | with_reducible apply r_ixO | with_reducible apply r_meth | with_reducible apply Qie | with_reducible apply r_app | with_reducible apply r_put | with_reducible apply QN | with_reducible apply QpO | with_reducible apply QK2 | with_reducible apply QIe | with_reducible apply r_lm)
abbrev CK:List Str:=Qc
theorem QGc{c:Str}(h:CK.contains c=true):Qj.contains c=true:=by
 have hm:c∈Qc:=by simpa using h
 simp only[Qc,List.mem_cons,List.not_mem_nil,or_false]at hm
 rcases hm with rfl | rfl | rfl | rfl<;>decide +kernel
def dl(r:List Int):D:=.lst (r.map .int)
def tbD(t:List (List Int)):D:=.lst (t.map dl)
theorem Ql5{js:List (Option Nat)}{its:SD->Out (List D)}{g:D->SD->Out SD}{e:SD->Out D}{ς:SD}{xs:List D}{h:D->D}(hi:its ς=.ok xs)(ht:∀ x∈xs,turnC js g cTrue e ς x=.ok (some (h x)))(hl:xs.length<=1000):
 eComp js its g cTrue e ς=.ok (.lst (xs.map h)):=by
 unfold eComp
 rw[hi,Out.bind_ok,Qmn (h:=fun x=>some (h x)) ht,Out.bind_ok]
 have e:xs.filterMap (fun x=>some (h x))=xs.map h:=by rw[← List.filterMap_eq_map];rfl
 rw[e,if_pos (Qei (by rw[List.length_map];exact hl))]
theorem QHi{js:List (Option Nat)}{its:SD->Out (List D)}{e:SD->Out D}{ς:SD}{a b:List Int}(f:Int->Int->Int)(hi:its ς=.ok (List.zipWith (fun x y=>.tup [x,y]) (a.map .int) (b.map .int)))
 (ht:∀ x∈a,∀ y∈b,turnC js (gT [0,1]) cTrue e ς (.tup [.int x,.int y])=.ok (some (.int (f x y)))) (hl:a.length<=1000):eComp js its (gT [0,1]) cTrue e ς=.ok (dl (List.zipWith f a b)):=by
 have hz:List.zipWith (fun x y=>D.tup [x,y]) (a.map .int) (b.map .int)=(List.zip a b).map fun p=>D.tup [.int p.1,.int p.2]:=by
  rw[List.zipWith_map,List.map_zip_eq_zipWith]
  rfl
 rw[Ql5 (h:=fun d=>match d with | .tup [.int x,.int y]=>.int (f x y) | _=>.non) (by rw[hi,hz]) ?_ ?_]
 ·unfold dl
  rw[List.map_map,List.map_zipWith,List.map_zip_eq_zipWith]
  rfl
 ·intro x hx
  obtain⟨⟨p,q⟩,hp,rfl⟩:=List.mem_map.mp hx
  exact ht p (List.of_mem_zip hp).1 q (List.of_mem_zip hp).2
 ·rw[List.length_map,List.length_zip]
  omega
theorem loopL{body:D->SD->Out Fl}{P:Nat->SD->Prop}:∀{xs:List D}(n:Nat),(∀ k x,xs[k]?=some x->∀ ς,P (n+k) ς->∃ ς',body x ς=.ok (.nx ς')/\P (n+k+1) ς')->∀ ς,P n ς->∃ ς',loopD body xs ς=.ok (.nx ς')/\P (n+xs.length) ς'
 | [],n,_,ς,p=>⟨ς,rfl,p⟩
 | x::xs,n,h,ς,p=>by
  obtain⟨ς1,e1',p1⟩:=h 0 x rfl ς p
  obtain⟨ς2,e2',p2⟩:=loopL (xs:=xs) (n+1) (fun k y hy ς q=>by
   have:=h (k+1) y hy ς (by rw[show n+(k+1)=n+1+k by omega];exact q)
   rw[show n+(k+1)+1=n+1+k+1 by omega]at this
   exact this) ς1 p1
  refine⟨ς2,?_,by rw[List.length_cons,show n+(xs.length+1)=n+1+xs.length by omega];exact p2⟩
  rw[loopD,e1']
  exact e2'
def cs(t:List (List Int))(k j:Nat):Int:=((t.take k).map fun r=>r.getD j 0).sum
def pre(t:List (List Int))(m k:Nat):List Int:=(List.range m).map (cs t k)
theorem QHn{t:List (List Int)}{m k:Nat}{r:List Int}(hr:t[k]?=some r)(hm:r.length=m):List.zipWith (· + ·) (pre t m k) r=pre t m (k+1):=by
 apply List.ext_getElem?
 intro j
 unfold pre
 rw[List.getElem?_zipWith,List.getElem?_map,List.getElem?_map]
 by_cases hj:j<m
 ·have h1:(List.range m)[j]?=some j:=by simp[hj]
  have h2:r[j]?=some r[j]:=by simp[hm,hj]
  rw[h1,h2]
  show some (cs t k j+r[j])=some (cs t (k+1) j)
  unfold cs
  rw[List.take_add_one,hr]
  simp[hm,hj,List.getD_eq_getElem?_getD]
 ·have h1:(List.range m)[j]?=none:=by simp;omega
  rw[h1];rfl
theorem QH6(t:List (List Int))(m:Nat):pre t m 0=List.replicate m 0:=by
 unfold pre
 rw[List.eq_replicate_iff]
 refine⟨by simp,fun x hx=>?_⟩
 obtain⟨j,_,rfl⟩:=List.mem_map.mp hx
 rfl
structure Tb(t:List (List Int))(m:Nat):Prop where
 n1:1<=t.length
 n2:t.length<=12
 m6:m<=6
 row:∀ r∈t,r.length=m
 ent:∀ r∈t,∀ x∈r,0<=x/\x<=9
theorem QJx{a b:List Int}(hl:a.length<=1000):Qcz [dl a,dl b]=.ok (dl (List.zipWith (· + ·) a b)):=by
 have h:=QHi (js:=[none,none]) (its:=itZ (eVar 0) (eVar 1)) (e:=QlY) (ς:=[some (.k,dl a),some (.k,dl b)]) (a:=a) (b:=b) (· + ·) rfl (fun x _ y _=>rfl) hl
 rw[QEZ]
 unfold Qg5 sRetF
 rw[h];rfl
def hdD(t:List (List Int))(m:Nat)(k:Nat):D:=.lst ((List.range (k+1)).map fun i=>dl (pre t m i))
theorem QDo{t:List (List Int)}{m:Nat}(h:Tb t m):Qau [tbD t]=.ok (hdD t m t.length):=by
 obtain⟨n1,n2,m6,row,_⟩:=h
 have r0:t[0]?=some t[0]:=by simp
 have hr0:(t[0]).length=m:=row _ (List.getElem_mem _)
 have hix:dIx (tbD t) (.int 0)=.ok (dl t[0]):=ixL 0 (by rw[List.getElem?_map,r0];rfl)
 have hc:eComp [none] (itL (e2 dIx (eVar 0) (eC (.int 0)))) (gN 0) cTrue Qd7 [some (.k,tbD t),none,none]=.ok (dl (pre t m 0)):=by
  rw[Ql5 (xs:=(t[0]).map .int) (h:=fun _=>.int 0) (by simp only[itL,e2,eVar,eC,Out.bind_ok,List.getElem?_cons_zero,hix];rfl) (fun x _=>rfl) (by rw[List.length_map];omega)]
  rw[QH6,List.map_map]
  unfold dl
  congr 2
  rw[List.map_replicate]
  exact List.eq_replicate_iff.mpr ⟨by simp[hr0],fun x hx=>by obtain⟨_,_,rfl⟩:=List.mem_map.mp hx;rfl⟩
 obtain⟨ς',hL,a2,rfl⟩:=loopL (body:=fun x ς=>gN 2 x ς>>=fun ς'=>Qbz ς') (xs:=t.map dl) (P:=fun k ς=>∃ a2,ς=[some (.k,tbD t),some (.o,hdD t m k),a2]) 0
  (by
   rintro k x hx ς ⟨a2,rfl⟩
   rw[Nat.zero_add]at *
   rw[List.getElem?_map]at hx
   cases ht:t[k]? with
   | none=>rw[ht]at hx;cases hx
   | some r=>
    rw[ht]at hx
    cases hx
    have hk:k<t.length:=(List.getElem?_eq_some_iff.mp ht).1
    have hrm:r.length=m:=row r (List.mem_of_getElem? ht)
    have hl:(pre t m k).length=m:=by simp[pre]
    have s:=QJx (a:=pre t m k) (b:=r) (by omega)
    rw[QHn ht hrm]at s
    have hat:atI ((List.range (k+1)).map fun i=>dl (pre t m i)) (-1)=some (dl (pre t m k)):=by
     unfold atI ixN
     simp
     rw[if_pos (by omega),show((-1:Int)+((k:Int)+1)).toNat=k by omega]
     simp
    refine⟨[some (.k,tbD t),some (.o,hdD t m (k+1)),some (.k,dl r)],?_,_,rfl⟩
    have e1':eIxO 1 (e1 dNeg (eC (.int 1))) [some (.k,tbD t),some (.o,hdD t m k),some (.k,dl r)]=.ok (dl (pre t m k)):=by
     unfold eIxO hdD
     simp only[List.getElem?_cons_succ,List.getElem?_cons_zero,e1,eC,Out.bind_ok,Qdf,hat];rfl
    have hlt:decide (((List.range (k+1)).map fun i=>dl (pre t m i)).length<sizeLine)=true:=by
     have:(1000:Nat)<=sizeLine:=by decide
     rw[List.length_map,List.length_range]
     exact decide_eq_true (by omega)
    have hnext:((List.range (k+1)).map fun i=>dl (pre t m i))++[dl (pre t m (k+1))]=(List.range (k+1+1)).map fun i=>dl (pre t m i):=by
     rw[List.range_succ (n:=k+1),List.map_append];rfl
    show Qbz [some (.k,tbD t),some (.o,hdD t m k),some (.k,dl r)]=_
    unfold Qbz QaY
    simp only[List.getElem?_cons_succ,List.getElem?_cons_zero,hdD]
    have e3':eA (fun xs=>Qcz (xs++[])) (aCons (eIxO 1 (e1 dNeg (eC (.int 1)))) (aCons (eVar 2) aNil)) [some (.k,tbD t),some (.o,hdD t m k),some (.k,dl r)]=.ok (dl (pre t m (k+1))):=by
     simp only[eA,aCons,aNil,e1',eVar,Out.bind_ok,List.getElem?_cons_succ,List.getElem?_cons_zero,List.append_nil,s]
    rw[show(D.lst ((List.range (k+1)).map fun i=>dl (pre t m i)))=hdD t m k from rfl,e3',Out.bind_ok,if_pos hlt,hnext]
    rfl)
  [some (.k,tbD t),some (.o,hdD t m 0),none] ⟨_,rfl⟩
 rw[Nat.zero_add,List.length_map]at hL
 have hfor:=QbK (g:=gN 2) (its:=itL (eVar 0)) (T:=Qbz) (ς:=[some (.k,tbD t),some (.o,hdD t m 0),none]) (xs:=t.map dl) rfl hL
 rw[Qrx]
 unfold Qdx
 have hs:sSetO 1 (eLst (aCons (eComp [none] (itL (e2 dIx (eVar 0) (eC (.int 0)))) (gN 0) cTrue Qd7) aNil)) [some (.k,tbD t),none,none]=.ok (.nx [some (.k,tbD t),some (.o,hdD t m 0),none]):=by
  simp only[sSetO,eLst,aCons,aNil,hc,Out.bind_ok,List.length_cons,List.length_nil,QbR,Nat.reduceAdd,Nat.reduceLeDiff,if_true];rfl
 simp only[sSeq,hs,Out.bind_ok,thenF,hfor]
 rfl
def ckF(t:List (List Int))(m:Nat):List (Str×D):=[("table",tbD t),("heads",hdD t m t.length)]
def ck(c:Str)(t:List (List Int))(m:Nat):D:=.ins c (ckF t m)
theorem QJJ(t:List (List Int))(m:Nat):(ckF t m).lookup ("table":Str)=some (tbD t):=by
 unfold ckF;rw[List.lookup_cons,beq_self_eq_true]
theorem QIg{n:Str}(h1:(n == ("table":Str))=false)(h2:(n == ("heads":Str))=false)(t:List (List Int))(m:Nat):(ckF t m).lookup n=none:=by
 unfold ckF;rw[List.lookup_cons,h1,List.lookup_cons,h2];rfl
theorem put_h(t:List (List Int))(m:Nat):putD "heads" (hdD t m t.length) [("table",tbD t)]=ckF t m:=by
 have:¬ (("table":Str)=("heads":Str)):=dk
 unfold putD
 rw[if_neg this];rfl
theorem QkP{c:Str}(hc:CK.contains c=true){t:List (List Int)}{m:Nat}(h:Tb t m):QM c [] [tbD t]=.ok (ckF t m):=by
 have hk:eComp [none] (itL (eVar 1)) (gN 0) cTrue Qc7 [some (.s,.ins c []),some (.k,tbD t)]=.ok (tbD t):=by
  rw[Ql5 (xs:=t.map dl) (h:=id) rfl ?_ (by rw[List.length_map];have:=h.n2;omega),List.map_id]
  ·rfl
  ·intro x hx
   obtain⟨r,_,rfl⟩:=List.mem_map.mp hx
   rfl
 have r1:=QDo h
 have hz:∀ n:Nat,n<10->(Qj.contains c&&decide (n<1000))=true:=fun n hn=>by rw[QGc hc,Bool.true_and];exact decide_eq_true (by omega)
 have s1:sFldS Qj "table" 0 (eComp [none] (itL (eVar 1)) (gN 0) cTrue Qc7) [some (.s,.ins c []),some (.k,tbD t)]=.ok (.nx [some (.s,.ins c [("table",tbD t)]),some (.k,tbD t)]):=by
  unfold sFldS
  rw[hk,Out.bind_ok]
  show(if (Qj.contains c&&decide (([]:List (Str×D)).length<1000))=true then _ else _)=_
  exact(if_pos (c:=(Qj.contains c&&decide (0<1000))=true) (hz 0 (by decide))).trans rfl
 have s2:sFldS Qj "heads" 0 (eA (fun xs=>Qau (xs++[])) (aCons (eVar 1) aNil)) [some (.s,.ins c [("table",tbD t)]),some (.k,tbD t)]=.ok (.nx [some (.s,.ins c (ckF t m)),some (.k,tbD t)]):=by
  unfold sFldS
  have:eA (fun xs=>Qau (xs++[])) (aCons (eVar 1) aNil) [some (.s,.ins c [("table",tbD t)]),some (.k,tbD t)]=.ok (hdD t m t.length):=by
   simp only[eA,aCons,aNil,eVar,Out.bind_ok,List.getElem?_cons_succ,List.getElem?_cons_zero,List.append_nil,r1]
  rw[this,Out.bind_ok]
  show(if (Qj.contains c&&decide ([(("table":Str),tbD t)].length<1000))=true then _ else _)=_
  refine(if_pos (c:=(Qj.contains c&&decide (1<1000))=true) (hz 1 (by decide))).trans ?_
  rw[put_h];rfl
 rw[Qk3]
 unfold Qcf
 simp only[sSeq,s1,QJU,Out.bind_ok,thenF,s2]
 simp only[Qdg,QjV,List.getElem?_cons_zero,if_true]
theorem Qga{c:Str}(hc:CK.contains c=true){t:List (List Int)}{m:Nat}{n:Str}{mt:Str->List D->Out D}{O:SD->Out D}{A:SD->Out (List D)}{ς:SD}{xs:List D}(hO:O ς=.ok (ck c t m))(hA:A ς=.ok xs)(h1:(n == ("table":Str))=false)(h2:(n == ("heads":Str))=false):
 eMeth CK n mt O A ς=mt c (ck c t m::xs):=by
 unfold eMeth
 rw[hO,Out.bind_ok]
 show(if (CK.contains c&&((ckF t m).lookup n).isNone)=true then A ς>>=fun xs=>mt c (.ins c (ckF t m)::xs) else .stuck)=_
 simp only[QIg h1 h2,hc,Option.isNone_none,Bool.and_self,if_true,hA,Out.bind_ok]
 rfl
theorem fld_t{c:Str}(hc:CK.contains c=true)(t:List (List Int))(m:Nat):dFld Qj "table" (ck c t m)=.ok (tbD t):=by
 show(if Qj.contains c=true then optO ((ckF t m).lookup ("table":Str)) else .stuck)=_
 rw[if_pos (QGc hc),QJJ];rfl
theorem QrS{c:Str}(hc:CK.contains c=true)(t:List (List Int))(m:Nat):QX [ck c t m]=.ok (.int (t.length:Int)):=by
 have:fLen [tbD t]=.ok (.int (t.length:Int)):=by simp[fLen,tbD]
 simp only[Qp2,QdE,sRet,eA,aCons,aNil,e1,eVar,List.getElem?_cons_zero,Out.bind_ok,fld_t hc,this]
 rfl
theorem QGi(i:Int):QcF [.int i]=.ok (.bl true):=by
 rw[QCT];simp[QfW,bodyF,retF,sSeq,thenF,sSet,sRet,sIf,sNil,eVar,eC,e1,e2,eA,f1,aNil,aCons,tVal,tAnd',tOr',tNot',eAnd,eOr,eNot,eIf,eTup,eLst,eIsa,isaT,Qbk,oNo,oSome,sPar,sUnp,Qaf,gN,gT,fLen,QbR,Out.bind_ok,Out.bind_exc,Out.bind_stuck,Out.pure_eq,D.scal,QU,Qd5,Qdf,Qe1,QcW,QeQ,QdB,Qeh,QaA,Qeb,List.length_cons,List.length_nil,List.map_cons,List.map_nil,List.cons_append,List.nil_append,List.append_nil,List.getElem?_cons_zero,List.getElem?_cons_succ,List.set_cons_zero,List.set_cons_succ,List.replicate,Nat.reduceAdd,Nat.reduceSub,Nat.reduceLeDiff,Nat.zero_add,Nat.add_zero,reduceIte,Bool.not_true,Bool.not_false,Bool.true_and,Bool.and_true,Bool.false_and,Bool.and_false,Bool.or_true,Bool.true_or,Bool.or_false,Bool.false_or,Bool.false_eq_true,decide_true,decide_false,decide_eq_true_eq,Bool.not_eq_true',decide_eq_false_iff_not,Int.reduceEq,Int.reduceLT,Int.reduceLE,Int.reduceNeg,Nat.reduceEqDiff, ↓reduceIte,not_true_eq_false,not_false_eq_true]
theorem Qg4{i a b:Int}(h1:a<=i)(h2:i<=b):Qai [.int i,.int a,.int b]=.ok (.bl true):=by
 have hw:=QGi i
 have e1':decide (a<=i)=true:=decide_eq_true h1
 have e2':decide (i<=b)=true:=decide_eq_true h2
 rw[QyZ]
 simp[Qfd,bodyF,retF,sSeq,thenF,sSet,sRet,sIf,sNil,eVar,eC,e1,e2,eA,f1,aNil,aCons,tVal,tAnd',tOr',tNot',eAnd,eOr,eNot,eIf,eTup,eLst,eIsa,isaT,Qbk,oNo,oSome,sPar,sUnp,Qaf,gN,gT,fLen,QbR,Out.bind_ok,Out.bind_exc,Out.bind_stuck,Out.pure_eq,D.scal,QU,Qd5,Qdf,Qe1,QcW,QeQ,QdB,Qeh,QaA,Qeb,List.length_cons,List.length_nil,List.map_cons,List.map_nil,List.cons_append,List.nil_append,List.append_nil,List.getElem?_cons_zero,List.getElem?_cons_succ,List.set_cons_zero,List.set_cons_succ,List.replicate,Nat.reduceAdd,Nat.reduceSub,Nat.reduceLeDiff,Nat.zero_add,Nat.add_zero,reduceIte,Bool.not_true,Bool.not_false,Bool.true_and,Bool.and_true,Bool.false_and,Bool.and_false,Bool.or_true,Bool.true_or,Bool.or_false,Bool.false_or,Bool.false_eq_true,decide_true,decide_false,decide_eq_true_eq,Bool.not_eq_true',decide_eq_false_iff_not,Int.reduceEq,Int.reduceLT,Int.reduceLE,Int.reduceNeg,Nat.reduceEqDiff, ↓reduceIte,not_true_eq_false,not_false_eq_true,hw,QbY,h1,h2]
theorem Qw1{r:List Int}(hl:r.length<=6)(h:∀ x∈r,0<=x/\x<=9):QcA [dl r]=.ok (.bl true):=by
 have hlen:fLen [dl r]=.ok (.int (r.length:Int)):=by simp[fLen,dl]
 have hc:eComp [none] (itL (eVar 0)) (gN 0) cTrue QiI [some (.k,dl r)]=.ok (.lst (r.map fun _=>D.bl true)):=by
  refine QH D.int (fun _=>.bl true) rfl (fun x hx=>?_) (by omega)
  have hw:=Qg4 (h x hx).1 (h x hx).2
  refine QN (by walk_at "cap") (by walk_at "s") ?_
  unfold QiI
  (repeat walk_at "e")
 have ha:fAll (.lst (r.map fun _=>D.bl true))=.ok (.bl true):=by rw[QeY (fun _=>true)];simp
 have hf:f1 fAll [.lst (r.map fun _=>D.bl true)]=.ok (.bl true):=ha
 have hi:isaT "list" (dl r)=.ok true:=by simp[isaT,dl,Qbk]
 have hg:decide ((6:Int)<(r.length:Int))=false:=decide_eq_false (by omega)
 rw[QHp]
 unfold Qip
 (repeat walk_at "e")
theorem QDV{t:List (List Int)}{m:Nat}(h:Tb t m):QcG [tbD t]=.ok (.bl true):=by
 obtain⟨n1,n2,m6,row,ent'⟩:=h
 have hlen:fLen [tbD t]=.ok (.int (t.length:Int)):=by simp[fLen,tbD]
 have hc:eComp [none] (itL (eVar 0)) (gN 0) cTrue Qgc [some (.k,tbD t)]=.ok (.lst (t.map fun _=>D.bl true)):=by
  refine QH dl (fun _=>.bl true) rfl (fun x hx=>?_) (by omega)
  have hw:=Qw1 (r:=x) (by rw[row x hx];exact m6) (ent' x hx)
  refine QN (by walk_at "cap") (by walk_at "s") ?_
  unfold Qgc
  (repeat walk_at "e")
 have r0:t[0]?=some t[0]:=by simp
 have hr0:(t[0]).length=m:=row _ (List.getElem_mem _)
 have hix0:dIx (tbD t) (.int 0)=.ok (dl t[0]):=ixL 0 (by rw[List.getElem?_map,r0];rfl)
 have hl0:fLen [dl t[0]]=.ok (.int (m:Int)):=by simp[fLen,dl,hr0]
 have hc2:eComp [none,some 0] (itL (eVar 0)) (gN 0) cTrue Qgf [some (.k,tbD t)]=.ok (.lst (t.map fun _=>D.bl true)):=by
  refine QH dl (fun _=>.bl true) rfl (fun x hx=>?_) (by omega)
  have hlx:fLen [dl x]=.ok (.int (m:Int)):=by simp[fLen,dl,row x hx]
  have he:dEq (.int (m:Int)) (.int (m:Int))=.ok (.bl true):=by rw[QaA];simp
  refine QN (by walk_at "cap") (by walk_at "s") ?_
  unfold Qgf
  (repeat walk_at "e")
 have ha:fAll (.lst (t.map fun _=>D.bl true))=.ok (.bl true):=by rw[QeY (fun _=>true)];simp
 have hf:f1 fAll [.lst (t.map fun _=>D.bl true)]=.ok (.bl true):=ha
 have hi:isaT "list" (tbD t)=.ok true:=by simp[isaT,tbD,Qbk]
 have hg:decide ((1:Int)<=(t.length:Int))=true:=decide_eq_true (by omega)
 have hg2:decide ((t.length:Int)<=12)=true:=decide_eq_true (by omega)
 rw[QDa]
 unfold Qf4
 (repeat walk_at "e")
theorem QFX{c:Str}(hc:CK.contains c=true){t:List (List Int)}{m:Nat}(h:Tb t m):Qb9 c [] [tbD t]=.ok (ckF t m):=by
 have h1:=QDV h
 have h2:=QkP hc h
 rw[QBC]
 unfold Qe8
 (repeat walk_at "e")
theorem QGn{c:Str}(hc:CK.contains c=true){r:List Int}{m:Nat}(h:Tb [r] m):Qb7 c [] [dl r]=.ok (ckF [r] m):=by
 have h1:=Qw1 (r:=r) (by rw[h.row r (by simp)];exact h.m6) (h.ent r (by simp))
 have h2:QM c [] [.lst [dl r]]=.ok (ckF [r] m):=QkP hc h
 rw[QBk]
 unfold Qfk
 (repeat walk_at "e")
def one(n s:Nat):List Int:=(List.range n).map fun k=>if k=s then 1 else 0
def dealT(n:Nat):List (List Int):=(List.range n).map (one n)
def bunT(n:Nat):List (List Int):=(List.range n).map fun s=>[if s+1=n then 1 else 0]
theorem QE7{n s:Nat}(h:n<=100):QbG [.int n,.int s]=.ok (dl (one n s)):=by
 have hc:eComp [none,some 1] (itR1 (eVar 0)) (gN 0) cTrue Qe6 [some (.k,.int n),some (.k,.int s)]=.ok (.lst ((List.range n).map fun k=>D.int (if k=s then 1 else 0))):=by
  refine Qmw (fun k=>D.int (if k=s then 1 else 0)) (Qbe n rfl (by omega)) (fun k hk=>?_) (by omega)
  refine QN (by walk_at "cap") (by walk_at "s") ?_
  unfold Qe6
  by_cases e:k=s
  ·have e':decide ((k:Int)=(s:Int))=true:=decide_eq_true (by omega)
   rw[if_pos e]
   (repeat walk_at "e")
  ·have e':decide ((k:Int)=(s:Int))=false:=decide_eq_false (by omega)
   rw[if_neg e]
   (repeat walk_at "e")
 have he:dl (one n s)=.lst ((List.range n).map fun k=>D.int (if k=s then 1 else 0)):=by unfold dl one;rw[List.map_map];rfl
 rw[he,QwT]
 unfold QeC
 (repeat walk_at "e")
theorem QBY{n:Nat}(h1:1<=n)(h6:n<=6):Tb (dealT n) n:=by
 refine⟨by simp[dealT];omega,by simp[dealT];omega,h6,fun r hr=>?_,fun r hr x hx=>?_⟩<;>obtain⟨s,_,rfl⟩:=List.mem_map.mp hr
 ·simp[one]
 ·obtain⟨k,_,rfl⟩:=List.mem_map.mp hx
  split<;>decide
theorem QFd{n:Nat}(h1:1<=n)(h6:n<=12):Tb (bunT n) 1:=by
 refine⟨by simp[bunT];omega,by simp[bunT];omega,by decide,fun r hr=>?_,fun r hr x hx=>?_⟩<;>obtain⟨s,_,rfl⟩:=List.mem_map.mp hr
 ·simp
 ·rw[List.mem_singleton.mp hx]
  split<;>decide
theorem QFZ{c:Str}(hc:CK.contains c=true){n:Nat}(n1:1<=n)(n6:n<=6):Qb5 c [] [.int n]=.ok (ckF (dealT n) n):=by
 have h1:=Qg4 (i:=n) (a:=1) (b:=6) (by omega) (by omega)
 have h2:=QkP hc (QBY n1 n6)
 have hc':eComp [none,some 1] (itR1 (eVar 1)) (gN 0) cTrue QfD [some (.s,.ins c []),some (.k,.int n)]=.ok (tbD (dealT n)):=by
  have he:tbD (dealT n)=.lst ((List.range n).map fun s=>dl (one n s)):=by unfold tbD dealT;rw[List.map_map];rfl
  rw[he]
  refine Qmw (fun s=>dl (one n s)) (Qbe n rfl (by omega)) (fun k hk=>?_) (by omega)
  have hs:=QE7 (n:=n) (s:=k) (by omega)
  refine QN (by walk_at "cap") (by walk_at "s") ?_
  unfold QfD
  (repeat walk_at "e")
 rw[QyR]
 unfold Qfe
 (repeat walk_at "e")
theorem QHO{c:Str}(hc:CK.contains c=true){n:Nat}(n1:1<=n)(n6:n<=12):Qbh c [] [.int n]=.ok (ckF (bunT n) 1):=by
 have h1:=Qg4 (i:=n) (a:=1) (b:=12) (by omega) (by omega)
 have h2:=QkP hc (QFd n1 n6)
 have hc':eComp [none,some 1] (itR1 (eVar 1)) (gN 0) cTrue QeH [some (.s,.ins c []),some (.k,.int n)]=.ok (tbD (bunT n)):=by
  have he:tbD (bunT n)=.lst ((List.range n).map fun s=>D.lst [.int (if s+1=n then 1 else 0)]):=by unfold tbD bunT;rw[List.map_map];rfl
  rw[he]
  refine Qmw (fun s=>D.lst [.int (if s+1=n then 1 else 0)]) (Qbe n rfl (by omega)) (fun k hk=>?_) (by omega)
  refine QN (by walk_at "cap") (by walk_at "s") ?_
  unfold QeH
  by_cases e:k+1=n
  ·have e':decide ((k:Int)=(n:Int) - 1)=true:=decide_eq_true (by omega)
   rw[if_pos e]
   (repeat walk_at "e")
  ·have e':decide ((k:Int)=(n:Int) - 1)=false:=decide_eq_false (by omega)
   rw[if_neg e]
   (repeat walk_at "e")
 rw[Qtp]
 unfold Qd3
 (repeat walk_at "e")
abbrev rl(n:Nat)(f:Nat->D):D:=.lst ((List.range n).map f)
theorem atR{n i:Nat}{f:Nat->D}(h:i<n):((List.range n).map f)[i]?=some (f i):=by
 rw[List.getElem?_map,List.getElem?_range h];rfl
theorem ixR{n i:Nat}{f:Nat->D}(h:i<n):dIx (rl n f) (.int (i:Int))=.ok (f i):=ixL i (atR h)
theorem lenR(n:Nat)(f:Nat->D):fLen [rl n f]=.ok (.int (n:Int)):=by simp[fLen]
theorem Qvo{n:Nat}{f g:Nat->D}(h:∀ i,i<n->f i=g i):rl n f=rl n g:=by
 show D.lst _=D.lst _
 rw[List.map_congr_left fun i hi=>h i (List.mem_range.mp hi)]
theorem QiF{body:D->SD->Out Fl}{P:Nat->SD->Prop}{f:Nat->D}{n:Nat}(h:∀ k:Nat,k<n->∀ ς,P k ς->∃ ς',body (f k) ς=.ok (.nx ς')/\P (k+1) ς')(ς:SD)(p0:P 0 ς):∃ ς',loopD body ((List.range n).map f) ς=.ok (.nx ς')/\P n ς':=by
 have go:∀ m k:Nat,k+m=n->∀ ς,P k ς->∃ ς',loopD body ((List.range' k m).map f) ς=.ok (.nx ς')/\P n ς':=by
  intro m
  induction m with
  | zero=>intro k hk ς p;exact⟨ς,rfl,by rw[← hk];exact p⟩
  | succ m ih=>
   intro k hk ς p
   obtain⟨ς1,e1',p1⟩:=h k (by omega) ς p
   obtain⟨ς2,e2',p2⟩:=ih (k+1) (by omega) ς1 p1
   refine⟨ς2,?_,p2⟩
   rw[List.range'_succ,List.map_cons,loopD,e1']
   exact e2'
 rw[List.range_eq_range']
 exact go n 0 (by omega) ς p0
def fr(x:Int×Int):D:=.tup [.int x.1,.int x.2]
theorem allR{n:Nat}{f:Nat->D}(h:∀ i,i<n->(f i).scal=true):((List.range n).map f).all D.scal=true:=List.all_eq_true.mpr fun d hd=>by
 obtain⟨i,hi,rfl⟩:=List.mem_map.mp hd
 exact h i (List.mem_range.mp hi)
theorem Qxu:∀ xs:List Str,strsD (xs.map D.str)=some xs
 | []=>rfl
 | x::xs=>by show(strsD (xs.map D.str)).map (x :: ·)=_;rw[Qxu xs];rfl
def Inj(xs:List Str):Prop:=∀ i j,i<xs.length->xs[i]?=xs[j]?->i=j
theorem Qx9{xs:List Str}(h:Inj xs):∀ i,i<=xs.length->LS.met (fun i=>xs.getD i "") i=xs.take i
 | 0,_=>rfl
 | i+1,hi=>by
  have ih:=Qx9 h i (by omega)
  have hl:i<xs.length:=by omega
  have e:xs.getD i ""=xs[i]:=by rw[List.getD_eq_getElem?_getD,List.getElem?_eq_getElem hl];rfl
  have ni:¬ xs[i]∈xs.take i:=fun z=>by
   obtain⟨j,hj,ej⟩:=List.getElem_of_mem z
   rw[List.getElem_take]at ej
   rw[List.length_take]at hj
   have:=h i j (by omega) (by rw[List.getElem?_eq_getElem hl,List.getElem?_eq_getElem (show j<xs.length by omega),ej])
   omega
  show(if xs.getD i ""∈LS.met (fun i=>xs.getD i "") i then LS.met (fun i=>xs.getD i "") i else LS.met (fun i=>xs.getD i "") i++[xs.getD i ""])=_
  rw[ih,e,if_neg ni,List.take_add_one,List.getElem?_eq_getElem hl];rfl
theorem Qkj{xs:List Str}(h:Inj xs)(hl:xs.length<=1000):QY [.lst (xs.map .str)]=.ok (.bl true):=by
 have hu:Qp9 (.lst (xs.map .str))=.ok (.int (xs.length:Int)):=by
  show(match strsD (xs.map .str) with | some xs=>if decide (xs.length<4000)=true then Out.ok (D.int (QcP xs)) else .stuck | none=>.stuck)=_
  rw[Qxu]
  show(if decide (xs.length<4000)=true then Out.ok (D.int (QcP xs)) else .stuck)=_
  rw[if_pos (decide_eq_true (by omega))]
  unfold QcP
  rw[Qx9 h _ (Nat.le_refl _),List.take_length]
 have hlen:fLen [.lst (xs.map D.str)]=.ok (.int (xs.length:Int)):=by simp[fLen]
 have he:dEq (.int (xs.length:Int)) (.int (xs.length:Int))=.ok (.bl true):=by rw[QaA];simp
 rw[QvA]
 unfold QeA
 (repeat walk_at "e")
theorem Qit{n:Nat}{f:Nat->D}{M:Int}(h1:1<=n)(h2:(n:Int)<=M):QaQ [rl n f,.int M]=.ok (.bl true):=by
 have hlen:=lenR n f
 have hi:isaT "list" (rl n f)=.ok true:=by simp[isaT,Qbk]
 have g1:decide ((1:Int)<=(n:Int))=true:=decide_eq_true (by omega)
 have g2:decide ((n:Int)<=M)=true:=decide_eq_true h2
 have g3:dLe (.int (n:Int)) (.int M)=.ok (.bl true):=by rw[QeQ,g2]
 rw[QFy]
 unfold QgR
 (repeat walk_at "e")
theorem QiA(n:Nat):f1 fAll [rl n (fun _=>.bl true)]=.ok (.bl true):=by
 show fAll (.lst ((List.range n).map fun _=>D.bl true))=_
 rw[QeY (fun _=>true)];simp
theorem Qkd(n:Nat)(f:Nat->Str):(List.range n).map (fun i=>D.str (f i))=((List.range n).map f).map D.str:=by rw[List.map_map];rfl
theorem QIU{n:Nat}{f:Nat->Str}(h:∀ i j,i<n->j<n->f i=f j->i=j):Inj ((List.range n).map f):=by
 intro i j hi z
 rw[List.length_map,List.length_range]at hi
 rw[List.getElem?_map,List.getElem?_map,List.getElem?_range hi]at z
 by_cases hj:j<n
 ·rw[List.getElem?_range hj]at z
  exact h i j hi hj (Option.some.inj z)
 ·have h1:(List.range n)[j]?=none:=by simp;omega
  rw[h1]at z;cases z
structure Seats(n nd:Nat)(nm dn c:Nat->Str)(t:Nat->List (List Int))(m:Nat->Nat)(ld:Nat->Nat->Int)(st:Nat->Int):Prop where
 n1:1<=n
 n2:n<=60
 d1:1<=nd
 d2:nd<=6
 ck:∀ k,k<n->CK.contains (c k)=true
 tb:∀ k,k<n->Tb (t k) (m k)
 ldr:∀ k j,k<n->j<m k -> -(nd:Int)<=ld k j/\ld k j<(n:Int)
 str:∀ k,k<n->0<=st k/\st k<((t k).length:Int)
 isn:∀ k,k<n->Qaj [.str (nm k)]=.ok (.bl true)
 isd:∀ d,d<nd->Qaj [.str (dn d)]=.ok (.bl true)
 inj:∀ i j,i<n->j<n->nm i=nm j->i=j
 injd:∀ i j,i<nd->j<nd->dn i=dn j->i=j
 sep:∀ i d,i<n->d<nd->nm i≠dn d
def nml(nm dn:Nat->Str)(l:Int):Str:=if l<0 then dn (-1 - l).toNat else nm l.toNat
def seatD(nm dn c:Nat->Str)(t:Nat->List (List Int))(m:Nat->Nat)(ld:Nat->Nat->Int)(st:Nat->Int)(k:Nat):D:=
 .tup [.str (nm k),ck (c k) (t k) (m k),rl (m k) (fun j=>.str (nml nm dn (ld k j))),.int (st k)]
theorem ix_t{xs:List D}{d:D}(i:Nat)(h:xs[i]?=some d):dIx (.tup xs) (.int (i:Int))=.ok d:=by
 show optO (atI xs (i:Int))=_
 have hi:i<xs.length:=(List.getElem?_eq_some_iff.mp h).1
 have:atI xs (i:Int)=some d:=by
  unfold atI ixN
  rw[if_pos (by omega),if_pos (by omega)]
  simpa using h
 rw[this];rfl
theorem QHv{c:Str}(hc:CK.contains c=true)(t:List (List Int))(m:Nat):QcH [ck c t m]=.ok (.bl true):=by
 have hm:c∈Qc:=by simpa using hc
 simp only[Qc,List.mem_cons,List.not_mem_nil,or_false]at hm
 have key:∀ c:Str,(c="Deal"∨c="Bundle"∨c="Copy"∨c="Rows")->anyT [[("Deal",true),("Bundle",false),("Copy",false),("Rows",false),("Office",false)],[("Deal",false),("Bundle",true),("Copy",false),("Rows",false),("Office",false)],[("Deal",false),("Bundle",false),("Copy",true),("Rows",false),("Office",false)],[("Deal",false),("Bundle",false),("Copy",false),("Rows",true),("Office",false)]] c=some true:=by
  rintro c (rfl | rfl | rfl | rfl)<;>decide +kernel
 have k:=key c hm
 rw[QDP]
 unfold QfU
 show(sRet (eIsa (isaTs _) (eVar 0)) [some (.k,.ins c (ckF t m))]>>=retF false)=_
 have hi:isaTs [[("Deal",true),("Bundle",false),("Copy",false),("Rows",false),("Office",false)],[("Deal",false),("Bundle",true),("Copy",false),("Rows",false),("Office",false)],[("Deal",false),("Bundle",false),("Copy",true),("Rows",false),("Office",false)],[("Deal",false),("Bundle",false),("Copy",false),("Rows",true),("Office",false)]] (.ins c (ckF t m))=.ok true:=by
  show(match anyT _ c with | some b=>Out.ok b | none=>Out.stuck)=_
  rw[k]
 (repeat walk_at "e")
theorem QIN{c:Str}(hc:CK.contains c=true){t:List (List Int)}{m:Nat}(h:Tb t m):Qba [ck c t m]=.ok (.int (m:Int)):=by
 have n1:=h.n1
 have r0:t[0]?=some t[0]:=by simp
 have hix:dIx (tbD t) (.int 0)=.ok (dl t[0]):=ixL 0 (by rw[List.getElem?_map,r0];rfl)
 have hl0:fLen [dl t[0]]=.ok (.int (m:Int)):=by simp[fLen,dl,h.row _ (List.getElem_mem _)]
 have hf:=fld_t hc t m
 rw[Qv1]
 unfold Qer
 (repeat walk_at "e")
theorem QHo{n:Nat}(hn:n<=100)(f:Nat->Str):Qb2 [rl n (fun j=>.str (f j)),.int (n:Int)]=.ok (.bl true):=by
 have hlen:=lenR n (fun j=>D.str (f j))
 have hi:isaT "list" (rl n (fun j=>D.str (f j)))=.ok true:=by simp[isaT,Qbk]
 have hc:eComp [none] (itL (eVar 0)) (gN 0) cTrue QfG [some (.k,rl n (fun j=>.str (f j))),some (.k,.int (n:Int))]=.ok (rl n (fun _=>.bl true)):=by
  refine QH (fun j=>D.str (f j)) (fun _=>.bl true) rfl (fun j _=>?_) (by rw[List.length_range];omega)
  have hs:isaT "str" (D.str (f j))=.ok true:=by simp[isaT,Qbk]
  refine QN (by walk_at "cap") (by walk_at "s") ?_
  unfold QfG
  (repeat walk_at "e")
 have he:dEq (.int (n:Int)) (.int (n:Int))=.ok (.bl true):=by rw[QaA];simp
 have ha:=QiA n
 rw[QzG]
 unfold Qe7
 (repeat walk_at "e")
section
variable{n nd:Nat}{nm dn c:Nat->Str}{t:Nat->List (List Int)}{m:Nat->Nat}{ld:Nat->Nat->Int}{st:Nat->Int}(hs:Seats n nd nm dn c t m ld st)
include hs
theorem QHS:Qb3 [rl nd (fun d=>.str (dn d)),.int 6]=.ok (.bl true):=by
 have d2:=hs.d2
 have h1:=Qit (n:=nd) (f:=fun d=>.str (dn d)) (M:=6) hs.d1 (by omega)
 have hc:eComp [none] (itL (eVar 0)) (gN 0) cTrue QfL [some (.k,rl nd (fun d=>.str (dn d))),some (.k,.int 6)]=.ok (rl nd (fun _=>.bl true)):=by
  refine QH (fun d=>D.str (dn d)) (fun _=>.bl true) rfl (fun d hd=>?_) (by rw[List.length_range];omega)
  have h:=hs.isd d (List.mem_range.mp hd)
  refine QN (by walk_at "cap") (by walk_at "s") ?_
  unfold QfL
  (repeat walk_at "e")
 have ha:=QiA nd
 have hu:QY [rl nd (fun d=>.str (dn d))]=.ok (.bl true):=by
  show QY [.lst _]=_
  rw[Qkd]
  exact Qkj (QIU hs.injd) (by simp;omega)
 rw[QBa]
 unfold Qff
 (repeat walk_at "e")
theorem QJf{k:Nat}(hk:k<n):Qde [seatD nm dn c t m ld st k]=.ok (.bl true):=by
 have tb:=hs.tb k hk
 have hc:=hs.ck k hk
 have m6:=tb.m6
 obtain⟨s0,s1⟩:=hs.str k hk
 have hi:isaT "tuple" (seatD nm dn c t m ld st k)=.ok true:=by simp[isaT,Qbk,seatD]
 have hl:fLen [seatD nm dn c t m ld st k]=.ok (.int 4):=by simp[fLen,seatD]
 have x0:dIx (seatD nm dn c t m ld st k) (.int 0)=.ok (.str (nm k)):=ix_t 0 rfl
 have x1:dIx (seatD nm dn c t m ld st k) (.int 1)=.ok (ck (c k) (t k) (m k)):=ix_t 1 rfl
 have x2:dIx (seatD nm dn c t m ld st k) (.int 2)=.ok (rl (m k) (fun j=>.str (nml nm dn (ld k j)))):=ix_t 2 rfl
 have x3:dIx (seatD nm dn c t m ld st k) (.int 3)=.ok (.int (st k)):=ix_t 3 rfl
 have h0:=hs.isn k hk
 have h1:=QHv hc (t k) (m k)
 have h2:=QHo (n:=m k) (by omega) (fun j=>nml nm dn (ld k j))
 have h3:=Qg4 (i:=st k) (a:=0) (b:=((t k).length:Int) - 1) s0 (by omega)
 have mo:eMeth Qc "outs" (fun _=>Qba) (e2 dIx (eVar 0) (eC (.int 1))) aNil [some (.k,seatD nm dn c t m ld st k)]=.ok (.int (m k:Int)):=by
  rw[Qga (c:=c k) (t:=t k) (m:=m k) hc (xs:=[]) (by (repeat walk_at "e")) rfl (dk) (dk)]
  exact QIN hc tb
 have mp:eMeth Qc "period" (fun _=>QX) (e2 dIx (eVar 0) (eC (.int 1))) aNil [some (.k,seatD nm dn c t m ld st k)]=.ok (.int ((t k).length:Int)):=by
  rw[Qga (c:=c k) (t:=t k) (m:=m k) hc (xs:=[]) (by (repeat walk_at "e")) rfl (dk) (dk)]
  exact QrS hc _ _
 have hne:dNe (.int 4) (.int 4)=.ok (.bl false):=by rw[Qeb];rfl
 rw[QGe]
 unfold QgK
 (repeat walk_at "e")
theorem QHW:Qb0 [rl n (seatD nm dn c t m ld st),rl nd (fun d=>.str (dn d))]=.ok (.bl true):=by
 have n2:=hs.n2
 have d2:=hs.d2
 have h1:=Qit (n:=n) (f:=seatD nm dn c t m ld st) (M:=60) hs.n1 (by omega)
 have hc:eComp [none] (itL (eVar 0)) (gN 0) cTrue QfA [some (.k,rl n (seatD nm dn c t m ld st)),some (.k,rl nd (fun d=>.str (dn d)))]=.ok (rl n (fun _=>.bl true)):=by
  refine QH (seatD nm dn c t m ld st) (fun _=>.bl true) rfl (fun k hk=>?_) (by rw[List.length_range];omega)
  have h:=QJf hs (List.mem_range.mp hk)
  refine QN (by walk_at "cap") (by walk_at "s") ?_
  unfold QfA
  (repeat walk_at "e")
 have ha:=QiA n
 have hn:eComp [none] (itL (eVar 0)) (gN 0) cTrue QfF [some (.k,rl n (seatD nm dn c t m ld st)),some (.k,rl nd (fun d=>.str (dn d)))]=.ok (rl n (fun k=>.str (nm k))):=by
  refine QH (seatD nm dn c t m ld st) (fun k=>D.str (nm k)) rfl (fun k hk=>?_) (by rw[List.length_range];omega)
  have x0:dIx (seatD nm dn c t m ld st k) (.int 0)=.ok (.str (nm k)):=ix_t 0 rfl
  refine QN (by walk_at "cap") (by walk_at "s") ?_
  unfold QfF
  (repeat walk_at "e")
 have hcat:dCat (rl n (fun k=>.str (nm k))) (rl nd (fun d=>.str (dn d)))=.ok (.lst ((((List.range n).map nm)++((List.range nd).map dn)).map .str)):=by
  rw[QeW (by simp;omega),List.map_append, ← Qkd, ← Qkd]
 have hu:QY [.lst ((((List.range n).map nm)++((List.range nd).map dn)).map .str)]=.ok (.bl true):=by
  refine Qkj ?_ (by simp;omega)
  intro i j hi z
  rw[List.length_append,List.length_map,List.length_map,List.length_range,List.length_range]at hi
  have at':∀ i,(((List.range n).map nm)++((List.range nd).map dn))[i]?=if i<n then some (nm i) else if i - n<nd then some (dn (i - n)) else none:=fun i=>by
   rw[List.getElem?_append,List.length_map,List.length_range]
   split
   ·rw[List.getElem?_map,List.getElem?_range (by assumption)];rfl
   ·split
    ·rw[List.getElem?_map,List.getElem?_range (by assumption)];rfl
    ·simp;omega
  rw[at',at']at z
  by_cases a:i<n
  ·rw[if_pos a]at z
   by_cases b:j<n
   ·rw[if_pos b]at z;exact hs.inj i j a b (Option.some.inj z)
   ·rw[if_neg b]at z
    by_cases d:j - n<nd
    ·rw[if_pos d]at z;exact absurd (Option.some.inj z) (hs.sep i _ a d)
    ·rw[if_neg d]at z;cases z
  ·rw[if_neg a,if_pos (show i - n<nd by omega)]at z
   by_cases b:j<n
   ·rw[if_pos b]at z;exact absurd (Option.some.inj z).symm (hs.sep j _ b (by omega))
   ·rw[if_neg b]at z
    by_cases d:j - n<nd
    ·rw[if_pos d]at z
     have:=hs.injd _ _ (by omega) d (Option.some.inj z)
     omega
    ·rw[if_neg d]at z;cases z
 rw[Qzu]
 unfold Qfa
 (repeat walk_at "e")
theorem QH5{i:Nat}(hi:i<n):dInL (.str (nm i)) (rl n (fun k=>.str (nm k)))=.ok (.bl true):=by
 show(if (_&&((List.range n).map fun k=>D.str (nm k)).all D.scal)=true then Out.ok (D.bl (inV _ _)) else _)=_
 rw[if_pos (by rw[Bool.and_eq_true];exact⟨rfl,allR fun i _=>rfl⟩)]
 have:inV (toV (.str (nm i))) (((List.range n).map fun k=>D.str (nm k)).map toV)=true:=by
  unfold inV
  rw[List.any_eq_true]
  refine⟨V.str (nm i),?_,by show(nm i == nm i)=true;exact beq_self_eq_true _⟩
  rw[List.map_map,List.mem_map]
  exact⟨i,List.mem_range.mpr hi,rfl⟩
 rw[this]
end
structure Ent(n ne:Nat)(en:Nat->Str)(ek:Nat->Nat):Prop where
 e1:1<=ne
 e6:ne<=6
 isn:∀ j,j<ne->Qaj [.str (en j)]=.ok (.bl true)
 inj:∀ i j,i<ne->j<ne->en i=en j->i=j
 rng:∀ j,j<ne->ek j<n
def entD(nm en:Nat->Str)(ek:Nat->Nat)(j:Nat):D:=.tup [.str (en j),.str (nm (ek j))]
section
variable{n nd ne:Nat}{nm dn c en:Nat->Str}{ek:Nat->Nat}{t:Nat->List (List Int)}{m:Nat->Nat}{ld:Nat->Nat->Int}{st:Nat->Int}(hs:Seats n nd nm dn c t m ld st)(he:Ent n ne en ek)
include hs he
theorem QDG:Qbj [rl ne (entD nm en ek),rl n (fun k=>.str (nm k))]=.ok (.bl true):=by
 have e1:=he.e1
 have e6:=he.e6
 have h1:QaQ [rl ne (entD nm en ek),.int 6]=.ok (.bl true):=Qit (n:=ne) (f:=entD nm en ek) (M:=6) (by omega) (by omega)
 have hc:eComp [none,some 1] (itL (eVar 0)) (gN 0) cTrue QeJ [some (.k,rl ne (entD nm en ek)),some (.k,rl n (fun k=>.str (nm k)))]=.ok (rl ne (fun _=>.bl true)):=by
  refine QH (entD nm en ek) (fun _=>.bl true) rfl (fun j hj=>?_) (by rw[List.length_range];omega)
  have hj:=List.mem_range.mp hj
  have hin:=he.isn j hj
  have h0:=hs.isn (ek j) (he.rng j hj)
  have hL:=QH5 hs (he.rng j hj)
  have e1':QcE [entD nm en ek j,rl n (fun k=>.str (nm k))]=.ok (.bl true):=by
   have hi:isaT "tuple" (entD nm en ek j)=.ok true:=by simp[isaT,Qbk,entD]
   have hl:fLen [entD nm en ek j]=.ok (.int 2):=by simp[fLen,entD]
   have x0:dIx (entD nm en ek j) (.int 0)=.ok (.str (en j)):=ix_t 0 rfl
   have x1:dIx (entD nm en ek j) (.int 1)=.ok (.str (nm (ek j))):=ix_t 1 rfl
   have hne:dNe (.int 2) (.int 2)=.ok (.bl false):=by rw[Qeb];rfl
   rw[QDu]
   unfold Qf0
   (repeat walk_at "e")
  refine QN (by walk_at "cap") (by walk_at "s") ?_
  unfold QeJ
  (repeat walk_at "e")
 have ha:=QiA ne
 have hn:eComp [none] (itL (eVar 0)) (gN 0) cTrue Qep [some (.k,rl ne (entD nm en ek)),some (.k,rl n (fun k=>.str (nm k)))]=.ok (.lst (((List.range ne).map en).map .str)):=by
  have e:(.lst (((List.range ne).map en).map .str):D)=rl ne (fun j=>.str (en j)):=by show D.lst _=D.lst _;rw[List.map_map];rfl
  rw[e]
  refine QH (entD nm en ek) (fun j=>.str (en j)) rfl (fun j hj=>?_) (by rw[List.length_range];omega)
  have x0:dIx (entD nm en ek j) (.int 0)=.ok (.str (en j)):=ix_t 0 rfl
  refine QN (by walk_at "cap") (by walk_at "s") ?_
  unfold Qep
  (repeat walk_at "e")
 have hu:QY [.lst (((List.range ne).map en).map .str)]=.ok (.bl true):=Qkj (by
  intro i j hi z
  rw[List.length_map,List.length_range]at hi
  rw[List.getElem?_map,List.getElem?_map,List.getElem?_range hi]at z
  by_cases hj:j<ne
  ·rw[List.getElem?_range hj]at z
   exact he.inj i j hi hj (Option.some.inj z)
  ·rw[List.getElem?_eq_none (by rw[List.length_range];omega)]at z;cases z) (by rw[List.length_map,List.length_range];omega)
 rw[QuB]
 unfold QdZ
 (repeat walk_at "e")
end
theorem QGZ{i:Nat}{I E:SD->Out D}{ς ς':SD}{kds:List (Key×D)}{d y:D}{k:Key}(a:E ς=.ok d)(e:ς[i]?=some (some (.o,.dic kds)))(a':I ς=.ok y)(hk:dkey y=some k)(hl:kds.length<=1000)
 (l:ς.set i (some (.o,.dic (putKD kds k d)))=ς'):sPutD i I E ς=.ok (.nx ς'):=by
 unfold sPutD
 rw[a,Out.bind_ok,e]
 show(I ς>>=_)=_
 rw[a',Out.bind_ok,hk]
 show(if _ then _ else _)=_
 rw[if_pos (QBV hl),l]
theorem QJY{A B:SD->Out D}{ς:SD}{kds:List (Key×D)}{y:D}{k:Key}(a:A ς=.ok (.dic kds))(a':B ς=.ok y)(hk:dkey y=some k):eDget A B ς=.ok ((valD kds k).getD .non):=by
 unfold eDget
 rw[a,Out.bind_ok]
 show(B ς>>=_)=_
 rw[a',Out.bind_ok,hk]
theorem r_dix{A B:SD->Out D}{ς:SD}{kds:List (Key×D)}{y d:D}{k:Key}(a:A ς=.ok (.dic kds))(a':B ς=.ok y)(hk:dkey y=some k)(hv:valD kds k=some d):eDix A B ς=.ok d:=by
 unfold eDix
 rw[a,Out.bind_ok]
 show(B ς>>=_)=_
 rw[a',Out.bind_ok,hk]
 show optO (valD kds k)=_
 rw[hv];rfl
theorem QCd{kds:List (Key×D)}{k:Key}{d:D}(h:∀ kv∈kds,kv.1≠k):putKD kds k d=kds++[(k,d)]:=by
 unfold putKD
 rw[if_neg]
 intro z
 obtain⟨kv,hk,e⟩:=List.any_eq_true.mp z
 exact h kv hk (of_decide_eq_true e)
theorem Qpe{k:Key}{d:D}:∀{kds:List (Key×D)}(i:Nat),kds[i]?=some (k,d)->(∀ j kv,j<i->kds[j]?=some kv->kv.1≠k)->valD kds k=some d
 | [],i,h,_=>by simp at h
 | kv::kds,0,h,_=>by
  simp at h
  subst h
  simp[valD]
 | kv::kds,i+1,h,hn=>by
  have h0:=hn 0 kv (by omega) rfl
  have:valD (kv::kds) k=valD kds k:=by simp[valD,List.find?_cons,h0]
  rw[this]
  exact Qpe i (by simpa using h) fun j kv' hj he=>hn (j+1) kv' (by omega) (by simpa using he)
theorem enumR(n:Nat)(f:Nat->D):enumD 0 ((List.range n).map f)=(List.range n).map fun i:Nat=>D.tup [.int (i:Int),f i]:=by
 apply List.ext_getElem?
 intro i
 rw[Qjm,Nat.zero_add]
 by_cases hi:i<n
 ·have r1:((List.range n).map fun i:Nat=>D.tup [.int (i:Int),f i])[i]?=some (D.tup [.int (i:Int),f i]):=atR hi
  rw[atR hi,r1];rfl
 ·have h1:((List.range n).map f)[i]?=none:=by simp;omega
  have h2:((List.range n).map fun i:Nat=>D.tup [.int (i:Int),f i])[i]?=none:=by simp;omega
  rw[h1,h2];rfl
def plc(n nd:Nat)(nm dn:Nat->Str):List (Key×D):=((List.range n).map fun i:Nat=>((.inr (nm i):Key),D.int (i:Int)))++((List.range nd).map fun i:Nat=>((.inr (dn i):Key),D.int (-1 - (i:Int))))
theorem QnY(n nd:Nat)(nm dn:Nat->Str)(i:Nat):(plc n nd nm dn)[i]?=if i<n then some (.inr (nm i),.int (i:Int)) else if i - n<nd then some (.inr (dn (i - n)),.int (-1 - ((i - n:Nat):Int))) else none:=by
 unfold plc
 rw[List.getElem?_append,List.length_map,List.length_range]
 split
 ·rw[List.getElem?_map,List.getElem?_range (by assumption)];rfl
 ·split
  ·rw[List.getElem?_map,List.getElem?_range (by assumption)];rfl
  ·simp;omega
section
variable{n nd:Nat}{nm dn c:Nat->Str}{t:Nat->List (List Int)}{m:Nat->Nat}{ld:Nat->Nat->Int}{st:Nat->Int}(hs:Seats n nd nm dn c t m ld st)
include hs
theorem plc_c{i:Nat}(hi:i<n):valD (plc n nd nm dn) (.inr (nm i))=some (.int (i:Int)):=by
 refine Qpe i (by rw[QnY,if_pos hi]) fun j kv hj he=>?_
 rw[QnY,if_pos (by omega)]at he
 cases he
 intro z
 have:=hs.inj j i (by omega) hi (Sum.inr.inj z)
 omega
theorem plc_d{d:Nat}(hd:d<nd):valD (plc n nd nm dn) (.inr (dn d))=some (.int (-1 - (d:Int))):=by
 refine Qpe (n+d) (by rw[QnY,if_neg (by omega),if_pos (by omega),show n+d - n=d by omega]) fun j kv hj he=>?_
 rw[QnY]at he
 by_cases a:j<n
 ·rw[if_pos a]at he
  cases he
  intro z
  exact hs.sep j d a hd (Sum.inr.inj z)
 ·rw[if_neg a,if_pos (by omega)]at he
  cases he
  intro z
  have:=hs.injd _ _ (by omega) hd (Sum.inr.inj z)
  omega
theorem QEX:Qce [rl n (fun k=>.str (nm k)),rl nd (fun d=>.str (dn d))]=.ok (.dic (plc n nd nm dn)):=by
 have n2:=hs.n2
 have d2:=hs.d2
 obtain⟨ς1,hL1,a3,a4,rfl⟩:=QiF (body:=fun x ς=>gT [3,4] x ς>>=fun ς'=>QdW ς') (f:=fun i:Nat=>D.tup [.int (i:Int),.str (nm i)]) (n:=n)
  (P:=fun k ς=>∃(a3 a4:Option (SM×D)),ς=[some (.k,rl n (fun k=>.str (nm k))),some (.k,rl nd (fun d=>.str (dn d))),some (.o,.dic (plc k 0 nm dn)),a3,a4,none,none])
  (by
   rintro k hk ς ⟨a3,a4,rfl⟩
   refine⟨[some (.k,rl n (fun k=>.str (nm k))),some (.k,rl nd (fun d=>.str (dn d))),some (.o,.dic (plc (k+1) 0 nm dn)),some (.k,.int (k:Int)),some (.k,.str (nm k)),none,none],?_,_,_,rfl⟩
   have e:plc (k+1) 0 nm dn=putKD (plc k 0 nm dn) (.inr (nm k)) (.int (k:Int)):=by
    rw[QCd]
    ·show((List.range (k+1)).map _)++[]=((List.range k).map _++[])++[_]
     rw[List.append_nil,List.append_nil,List.range_succ,List.map_append];rfl
    ·intro kv hkv
     have hkv:kv∈((List.range k).map fun i:Nat=>((.inr (nm i):Key),D.int (i:Int)))++[]:=hkv
     rw[List.append_nil]at hkv
     obtain⟨i,hi,rfl⟩:=List.mem_map.mp hkv
     have hi:=List.mem_range.mp hi
     intro z
     have:=hs.inj i k (by omega) hk (Sum.inr.inj z)
     omega
   rw[e]
   refine r_gT (by walk_at "all") ?_
   unfold QdW
   exact QGZ (d:=.int (k:Int)) (y:=.str (nm k)) (k:=.inr (nm k)) (by (repeat walk_at "e")) rfl (by (repeat walk_at "e")) rfl (by unfold plc;simp;omega) rfl)
  [some (.k,rl n (fun k=>.str (nm k))),some (.k,rl nd (fun d=>.str (dn d))),some (.o,.dic []),none,none,none,none] ⟨_,_,rfl⟩
 obtain⟨ς2,hL2,a5,a6,rfl⟩:=QiF (body:=fun x ς=>gT [5,6] x ς>>=fun ς'=>QdY ς') (f:=fun i:Nat=>D.tup [.int (i:Int),.str (dn i)]) (n:=nd)
  (P:=fun k ς=>∃(a5 a6:Option (SM×D)),ς=[some (.k,rl n (fun k=>.str (nm k))),some (.k,rl nd (fun d=>.str (dn d))),some (.o,.dic (plc n k nm dn)),a3,a4,a5,a6])
  (by
   rintro k hk ς ⟨a5,a6,rfl⟩
   refine⟨[some (.k,rl n (fun k=>.str (nm k))),some (.k,rl nd (fun d=>.str (dn d))),some (.o,.dic (plc n (k+1) nm dn)),a3,a4,some (.k,.int (k:Int)),some (.k,.str (dn k))],?_,_,_,rfl⟩
   have e:plc n (k+1) nm dn=putKD (plc n k nm dn) (.inr (dn k)) (.int (-1 - (k:Int))):=by
    rw[QCd]
    ·unfold plc
     rw[List.range_succ,List.map_append,List.append_assoc];rfl
    ·intro kv hkv
     rcases List.mem_append.mp hkv with w | w
     ·obtain⟨i,hi,rfl⟩:=List.mem_map.mp w
      intro z
      exact hs.sep i k (List.mem_range.mp hi) hk (Sum.inr.inj z)
     ·obtain⟨i,hi,rfl⟩:=List.mem_map.mp w
      have hi:=List.mem_range.mp hi
      intro z
      have:=hs.injd i k (by omega) hk (Sum.inr.inj z)
      omega
   rw[e]
   refine r_gT (by walk_at "all") ?_
   unfold QdY
   exact QGZ (d:=.int (-1 - (k:Int))) (y:=.str (dn k)) (k:=.inr (dn k)) (by (repeat walk_at "e")) rfl (by (repeat walk_at "e")) rfl (by unfold plc;simp;omega) rfl)
  [some (.k,rl n (fun k=>.str (nm k))),some (.k,rl nd (fun d=>.str (dn d))),some (.o,.dic (plc n 0 nm dn)),a3,a4,none,none] ⟨_,_,rfl⟩
 have hi1:itE (eVar 0) [some (.k,rl n (fun k=>.str (nm k))),some (.k,rl nd (fun d=>.str (dn d))),some (.o,.dic []),none,none,none,none]=.ok ((List.range n).map fun i:Nat=>D.tup [.int (i:Int),.str (nm i)]):=by rw[← enumR];rfl
 have hi2:itE (eVar 1) [some (.k,rl n (fun k=>.str (nm k))),some (.k,rl nd (fun d=>.str (dn d))),some (.o,.dic (plc n 0 nm dn)),a3,a4,none,none]=.ok ((List.range nd).map fun i:Nat=>D.tup [.int (i:Int),.str (dn i)]):=by rw[← enumR];rfl
 have f1':=QbK (g:=gT [3,4]) (T:=QdW) hi1 hL1
 have f2':=QbK (g:=gT [5,6]) (T:=QdY) hi2 hL2
 have s0:sSetO 2 eDic0 [some (.k,rl n (fun k=>.str (nm k))),some (.k,rl nd (fun d=>.str (dn d))),none,none,none,none,none]=.ok (.nx [some (.k,rl n (fun k=>.str (nm k))),some (.k,rl nd (fun d=>.str (dn d))),some (.o,.dic []),none,none,none,none]):=rfl
 rw[QyK]
 unfold Qe9
 (repeat walk_at "e")
theorem QHc{k:Nat}(hk:k<n):QcD [seatD nm dn c t m ld st k,.dic (plc n nd nm dn)]=.ok (rl (m k) (fun j=>.int (ld k j))):=by
 have m6:=(hs.tb k hk).m6
 have x2:dIx (seatD nm dn c t m ld st k) (.int 2)=.ok (rl (m k) (fun j=>.str (nml nm dn (ld k j)))):=ix_t 2 rfl
 have hc:eComp [none,some 1] (itL (e2 dIx (eVar 0) (eC (.int 2)))) (gN 0) cTrue Qgw [some (.k,seatD nm dn c t m ld st k),some (.k,.dic (plc n nd nm dn))]=.ok (rl (m k) (fun j=>.int (ld k j))):=by
  refine QH (fun j=>D.str (nml nm dn (ld k j))) (fun j=>D.int (ld k j)) (by (repeat walk_at "e")) (fun j hj=>?_) (by rw[List.length_range];omega)
  obtain⟨l1,l2⟩:=hs.ldr k j hk (List.mem_range.mp hj)
  refine QN (by walk_at "cap") (by walk_at "s") ?_
  unfold Qgw
  have hv:valD (plc n nd nm dn) (.inr (nml nm dn (ld k j)))=some (.int (ld k j)):=by
   unfold nml
   by_cases h:ld k j<0
   ·rw[if_pos h,plc_d hs (show(-1 - ld k j).toNat<nd by omega)]
    congr 2;omega
   ·rw[if_neg h,plc_c hs (show(ld k j).toNat<n by omega)]
    congr 2;omega
  rw[QJY (kds:=plc n nd nm dn) (y:=.str (nml nm dn (ld k j))) (k:=.inr (nml nm dn (ld k j))) (by (repeat walk_at "e")) (by (repeat walk_at "e")) rfl,hv];rfl
 rw[QDw]
 unfold QfZ
 (repeat walk_at "e")
end
theorem QCa{f:Str}{d:D}:∀{fs:List (Str×D)},(fs.map Prod.fst).contains f=false->putD f d fs=fs++[(f,d)]
 | [],_=>rfl
 | (g,x)::fs,h=>by
  rw[List.map_cons,List.contains_cons,Bool.or_eq_false_iff]at h
  have ne:¬ g=f:=fun z=>by subst z;simp at h
  show(if g=f then _ else(g,x)::putD f d fs)=_
  rw[if_neg ne,QCa h.2];rfl
theorem QhL{cs:List Str}{f c:Str}{i:Nat}{E:SD->Out D}{ς ς':SD}{d:D}{fds:List (Str×D)}(a:E ς=.ok d)(e:ς[i]?=some (some (.s,.ins c fds)))(hc:cs.contains c=true)(hl:fds.length<=900)(hf:(fds.map Prod.fst).contains f=false)
 (l:ς.set i (some (.s,.ins c (fds++[(f,d)])))=ς'):sFldS cs f i E ς=.ok (.nx ς'):=by
 unfold sFldS
 rw[a,Out.bind_ok,e]
 show(if (cs.contains c&&decide (fds.length<1000))=true then _ else _)=_
 rw[if_pos (by rw[hc,Bool.true_and];exact decide_eq_true (by omega)),QCa hf,l]
section
variable(n nd ne:Nat)(nm dn c en:Nat->Str)(ek:Nat->Nat)(t:Nat->List (List Int))(m:Nat->Nat)(ld:Nat->Nat->Int)(st:Nat->Int)
def offF:List (Str×D):=[("clerk_names",rl n (fun k=>.str (nm k))),("door_names",rl nd (fun d=>.str (dn d))),("entry_places",rl ne (fun j=>.tup [.str (en j),.int ((ek j:Nat):Int)])),("staff",rl n (fun k=>ck (c k) (t k) (m k))),("first_states",rl n (fun k=>.int (st k))),("ways",rl n (fun k=>rl (m k) (fun j=>.int (ld k j))))]
def offD:D:=.ins "Office" (offF n nd ne nm dn c en ek t m ld st)
end
theorem QBN:Qj.contains "Office"=true:=dk
section
variable{n nd:Nat}{nm dn c:Nat->Str}{t:Nat->List (List Int)}{m:Nat->Nat}{ld:Nat->Nat->Int}{st:Nat->Int}(hs:Seats n nd nm dn c t m ld st)
include hs
theorem QIQ{k:Nat}(hk:k<n):dInL .non (rl (m k) (fun j=>.int (ld k j)))=.ok (.bl false):=by
 show(if (_&&((List.range (m k)).map fun j=>D.int (ld k j)).all D.scal)=true then Out.ok (D.bl (inV _ _)) else _)=_
 rw[if_pos (by rw[Bool.and_eq_true];exact⟨rfl,allR fun i _=>rfl⟩)]
 have:inV (toV .non) (((List.range (m k)).map fun j=>D.int (ld k j)).map toV)=false:=by
  unfold inV
  rw[List.any_eq_false]
  intro v hv
  rw[List.map_map]at hv
  obtain⟨j,_,rfl⟩:=List.mem_map.mp hv
  simp[toV,eqV]
 rw[this]
end
section
variable{n nd ne:Nat}{nm dn c en:Nat->Str}{ek:Nat->Nat}{t:Nat->List (List Int)}{m:Nat->Nat}{ld:Nat->Nat->Int}{st:Nat->Int}(hs:Seats n nd nm dn c t m ld st)(he:Ent n ne en ek)
include hs he
theorem QE2:QaO "Office" [] [rl n (seatD nm dn c t m ld st),rl ne (entD nm en ek),rl nd (fun d=>.str (dn d))]=.ok (offF n nd ne nm dn c en ek t m ld st):=by
 have n1:=hs.n1
 have n2:=hs.n2
 have d2:=hs.d2
 have h1:=QHS hs
 have h2:=QHW hs
 have h3:=QDG hs he
 have e6:=he.e6
 have h4:=QEX hs
 have oc:=QBN
 generalize hS:rl n (seatD nm dn c t m ld st)=S at *
 generalize hE:rl ne (entD nm en ek)=E at *
 generalize hDo:rl nd (fun d=>.str (dn d))=Do at *
 generalize hN:rl n (fun k=>.str (nm k))=N at *
 generalize hP:D.dic (plc n nd nm dn)=P at *
 generalize hW:rl n (fun k=>rl (m k) (fun j=>.int (ld k j)))=W
 have q0:eComp [none] (itL (eVar 1)) (gN 0) cTrue QeN [some (.s,.ins "Office" []),some (.k,S),some (.k,E),some (.k,Do),none,none,none]=.ok N:=by
  subst hS;subst hN
  refine QH (seatD nm dn c t m ld st) (fun k=>D.str (nm k)) rfl (fun k hk=>?_) (by rw[List.length_range];omega)
  have x0:dIx (seatD nm dn c t m ld st k) (.int 0)=.ok (.str (nm k)):=ix_t 0 rfl
  refine QN (τ0:=[none]) (Qfw c_nil) (by walk_at "s") ?_
  unfold QeN
  (repeat walk_at "e")
 have q1:eComp [none,some 5] (itL (eVar 1)) (gN 0) cTrue Qem [some (.s,.ins "Office" []),some (.k,S),some (.k,E),some (.k,Do),some (.k,N),some (.k,P),none]=.ok W:=by
  subst hS;subst hW;subst hP
  refine QH (seatD nm dn c t m ld st) (fun k=>rl (m k) (fun j=>.int (ld k j))) rfl (fun k hk=>?_) (by rw[List.length_range];omega)
  have hl:=QHc hs (List.mem_range.mp hk)
  refine QN (τ0:=[none,some (.k,.dic (plc n nd nm dn))]) (Qfw (c_k rfl c_nil)) (by walk_at "s") ?_
  unfold Qem
  (repeat walk_at "e")
 have q2:eComp [none] (itL (eVar 6)) (gN 0) cTrue QeD [some (.s,.ins "Office" []),some (.k,S),some (.k,E),some (.k,Do),some (.k,N),some (.k,P),some (.k,W)]=.ok (rl n (fun _=>.bl false)):=by
  subst hW
  refine QH (fun k=>rl (m k) (fun j=>.int (ld k j))) (fun _=>D.bl false) rfl (fun k hk=>?_) (by rw[List.length_range];omega)
  have hl:=QIQ hs (List.mem_range.mp hk)
  refine QN (τ0:=[none]) (Qfw c_nil) (by walk_at "s") ?_
  unfold QeD
  (repeat walk_at "e")
 have ha:f1 fAny [rl n (fun _=>.bl false)]=.ok (.bl false):=by
  show fAny (.lst ((List.range n).map fun _=>D.bl false))=_
  rw[QHm (fun _=>false)];simp
 have q3:∀ F:List (Str×D),eComp [none,some 5] (itL (eVar 2)) (gN 0) cTrue Qda [some (.s,.ins "Office" F),some (.k,S),some (.k,E),some (.k,Do),some (.k,N),some (.k,P),some (.k,W)]=.ok (rl ne (fun j=>.tup [.str (en j),.int ((ek j:Nat):Int)])):=fun F=>by
  subst hE;subst hP
  refine QH (entD nm en ek) (fun j=>D.tup [.str (en j),.int ((ek j:Nat):Int)]) rfl (fun j hj=>?_) (by rw[List.length_range];omega)
  have p0:=plc_c hs (he.rng j (List.mem_range.mp hj))
  have x0:dIx (entD nm en ek j) (.int 0)=.ok (.str (en j)):=ix_t 0 rfl
  have x1:dIx (entD nm en ek j) (.int 1)=.ok (.str (nm (ek j))):=ix_t 1 rfl
  refine QN (τ0:=[none,some (.k,.dic (plc n nd nm dn))]) (Qfw (c_k rfl c_nil)) (by walk_at "s") ?_
  unfold Qda
  have hd:eDix (eVar 1) (e2 dIx (eVar 0) (eC (.int 1))) [some (.k,entD nm en ek j),some (.k,.dic (plc n nd nm dn))]=.ok (.int ((ek j:Nat):Int)):=r_dix (kds:=plc n nd nm dn) (y:=.str (nm (ek j))) (k:=.inr (nm (ek j))) (by (repeat walk_at "e")) (by (repeat walk_at "e")) rfl p0
  (repeat walk_at "e")
 have q4:∀ F:List (Str×D),eComp [none] (itL (eVar 1)) (gN 0) cTrue Qc9 [some (.s,.ins "Office" F),some (.k,S),some (.k,E),some (.k,Do),some (.k,N),some (.k,P),some (.k,W)]=.ok (rl n (fun k=>ck (c k) (t k) (m k))):=fun F=>by
  subst hS
  refine QH (seatD nm dn c t m ld st) (fun k=>ck (c k) (t k) (m k)) rfl (fun k hk=>?_) (by rw[List.length_range];omega)
  have x0:dIx (seatD nm dn c t m ld st k) (.int 1)=.ok (ck (c k) (t k) (m k)):=ix_t 1 rfl
  refine QN (τ0:=[none]) (Qfw c_nil) (by walk_at "s") ?_
  unfold Qc9
  (repeat walk_at "e")
 have q5:∀ F:List (Str×D),eComp [none] (itL (eVar 1)) (gN 0) cTrue Qc8 [some (.s,.ins "Office" F),some (.k,S),some (.k,E),some (.k,Do),some (.k,N),some (.k,P),some (.k,W)]=.ok (rl n (fun k=>.int (st k))):=fun F=>by
  subst hS
  refine QH (seatD nm dn c t m ld st) (fun k=>D.int (st k)) rfl (fun k hk=>?_) (by rw[List.length_range];omega)
  have x0:dIx (seatD nm dn c t m ld st k) (.int 3)=.ok (.int (st k)):=ix_t 3 rfl
  refine QN (τ0:=[none]) (Qfw c_nil) (by walk_at "s") ?_
  unfold Qc8
  (repeat walk_at "e")
 have hdl:dList Do=.ok Do:=by subst hDo;rfl
 let F1:List (Str×D):=[("clerk_names",N)]
 let F2:List (Str×D):=[("clerk_names",N),("door_names",Do)]
 let F3:List (Str×D):=[("clerk_names",N),("door_names",Do),("entry_places",rl ne (fun j=>.tup [.str (en j),.int ((ek j:Nat):Int)]))]
 let F4:List (Str×D):=[("clerk_names",N),("door_names",Do),("entry_places",rl ne (fun j=>.tup [.str (en j),.int ((ek j:Nat):Int)])),("staff",rl n (fun k=>ck (c k) (t k) (m k)))]
 let F5:List (Str×D):=[("clerk_names",N),("door_names",Do),("entry_places",rl ne (fun j=>.tup [.str (en j),.int ((ek j:Nat):Int)])),("staff",rl n (fun k=>ck (c k) (t k) (m k))),("first_states",rl n (fun k=>.int (st k)))]
 have s1:sFldS Qj "clerk_names" 0 (eVar 4) [some (.s,.ins "Office" []),some (.k,S),some (.k,E),some (.k,Do),some (.k,N),some (.k,P),some (.k,W)]=.ok (.nx [some (.s,.ins "Office" F1),some (.k,S),some (.k,E),some (.k,Do),some (.k,N),some (.k,P),some (.k,W)]):=
  QhL (d:=N) (by (repeat walk_at "e")) rfl oc (by decide) (by decide) rfl
 have s2:sFldS Qj "door_names" 0 (e1 dList (eVar 3)) [some (.s,.ins "Office" F1),some (.k,S),some (.k,E),some (.k,Do),some (.k,N),some (.k,P),some (.k,W)]=.ok (.nx [some (.s,.ins "Office" F2),some (.k,S),some (.k,E),some (.k,Do),some (.k,N),some (.k,P),some (.k,W)]):=
  QhL (d:=Do) (by (repeat walk_at "e")) rfl oc (Nat.le_of_ble_eq_true rfl) (by show(["clerk_names"]:List Str).contains "door_names"=false;decide +kernel) rfl
 have s3:sFldS Qj "entry_places" 0 (eComp [none,some 5] (itL (eVar 2)) (gN 0) cTrue Qda) [some (.s,.ins "Office" F2),some (.k,S),some (.k,E),some (.k,Do),some (.k,N),some (.k,P),some (.k,W)]=.ok (.nx [some (.s,.ins "Office" F3),some (.k,S),some (.k,E),some (.k,Do),some (.k,N),some (.k,P),some (.k,W)]):=
  QhL (q3 _) rfl oc (Nat.le_of_ble_eq_true rfl) (by show(["clerk_names","door_names"]:List Str).contains "entry_places"=false;decide +kernel) rfl
 have s4:sFldS Qj "staff" 0 (eComp [none] (itL (eVar 1)) (gN 0) cTrue Qc9) [some (.s,.ins "Office" F3),some (.k,S),some (.k,E),some (.k,Do),some (.k,N),some (.k,P),some (.k,W)]=.ok (.nx [some (.s,.ins "Office" F4),some (.k,S),some (.k,E),some (.k,Do),some (.k,N),some (.k,P),some (.k,W)]):=
  QhL (q4 _) rfl oc (Nat.le_of_ble_eq_true rfl) (by show(["clerk_names","door_names","entry_places"]:List Str).contains "staff"=false;decide +kernel) rfl
 have s5:sFldS Qj "first_states" 0 (eComp [none] (itL (eVar 1)) (gN 0) cTrue Qc8) [some (.s,.ins "Office" F4),some (.k,S),some (.k,E),some (.k,Do),some (.k,N),some (.k,P),some (.k,W)]=.ok (.nx [some (.s,.ins "Office" F5),some (.k,S),some (.k,E),some (.k,Do),some (.k,N),some (.k,P),some (.k,W)]):=
  QhL (q5 _) rfl oc (Nat.le_of_ble_eq_true rfl) (by show(["clerk_names","door_names","entry_places","staff"]:List Str).contains "first_states"=false;decide +kernel) rfl
 have s6:sFldS Qj "ways" 0 (eVar 6) [some (.s,.ins "Office" F5),some (.k,S),some (.k,E),some (.k,Do),some (.k,N),some (.k,P),some (.k,W)]=.ok (.nx [some (.s,.ins "Office" (offF n nd ne nm dn c en ek t m ld st)),some (.k,S),some (.k,E),some (.k,Do),some (.k,N),some (.k,P),some (.k,W)]):=
  QhL (d:=W) (by (repeat walk_at "e")) rfl oc (Nat.le_of_ble_eq_true rfl) (by show(["clerk_names","door_names","entry_places","staff","first_states"]:List Str).contains "ways"=false;decide +kernel) (by subst hN;subst hDo;subst hW;rfl)
 have fin:Qdg "Office" (.nx [some (.s,.ins "Office" (offF n nd ne nm dn c en ek t m ld st)),some (.k,S),some (.k,E),some (.k,Do),some (.k,N),some (.k,P),some (.k,W)])=.ok (offF n nd ne nm dn c en ek t m ld st):=by
  show(if ("Office":Str)="Office" then Out.ok (offF n nd ne nm dn c en ek t m ld st) else .stuck)=_
  rw[if_pos rfl]
 rw[Qun]
 unfold Qd4
 (repeat walk_at "e")
end
structure Tx(x:Str)(n:Nat):Prop where
 ok:PyData.strOk x=true
 len:x.length<=n
theorem QGE{x y:Str}(hx:PyData.strOk x=true)(hy:PyData.strOk y=true):PyData.strOk (x++y)=true:=by
 show(x.cps++y.cps).all _=true
 rw[Array.all_append]
 exact Bool.and_eq_true_iff.mpr ⟨hx,hy⟩
theorem QCb(x y:Str):(x++y).length=x.length+y.length:=by
 show(x.cps++y.cps).size=_
 rw[Array.size_append];rfl
theorem Tx.app{x y:Str}{m n:Nat}(h:Tx x m)(h':Tx y n):Tx (x++y) (m+n):=⟨QGE h.ok h'.ok,by rw[QCb];have:=h.len;have:=h'.len;omega⟩
theorem Tx.le{x:Str}{m n:Nat}(h:Tx x m)(hn:m<=n):Tx x n:=⟨h.ok,Nat.le_trans h.len hn⟩
theorem QbF{x y:Str}{m n:Nat}(h:Tx x m)(h':Tx y n)(hs:m+n<=100000):dAdd (.str x) (.str y)=.ok (.str (x++y)):=by
 show(if x.length+y.length<=sizeLine then _ else _)=_
 rw[if_pos]
 have:=h.len
 have:=h'.len
 have h2:(100000:Nat)<=sizeLine:=by decide
 omega
def it(k:Int):Str:=((toString k:String):Str)
theorem QJB{i:Int}(h:decide (i.natAbs.log2<1920)=true):dStr (.int i)=.ok (.str (it i)):=by
 show(if decide (i.natAbs.log2<1920)=true then Out.ok (D.str (it i)) else .stuck)=_
 rw[if_pos h]
theorem f1Str{i:Int}(h:decide (i.natAbs.log2<1920)=true):f1 dStr [.int i]=.ok (.str (it i)):=by
 show dStr (.int i)=_
 exact QJB h
theorem QcM{k:Int}(h0:0<=k)(h1:k<=12):f1 dStr [.int k]=.ok (.str (it k))/\Tx (it k) 2:=by
 have:k=0∨k=1∨k=2∨k=3∨k=4∨k=5∨k=6∨k=7∨k=8∨k=9∨k=10∨k=11∨k=12:=by omega
 rcases this with rfl | rfl | rfl | rfl | rfl | rfl | rfl | rfl | rfl | rfl | rfl | rfl | rfl<;>exact⟨f1Str (dk),dk,dk⟩
theorem QBS{x:Str}{a B:Nat}(hx:Tx x a):∀(l:List Str)(acc:Str)(n:Nat),Tx acc n->(∀ y∈l,Tx y B)->Tx ⟨l.foldl (fun acc p=>acc++x.cps++p.cps) acc.cps⟩ (n+l.length * (a+B))
 | [],acc,n,h,_=>by
  show Tx acc _
  exact h.le (by simp)
 | y::l,acc,n,h,hl=>by
  have:=QBS hx l (acc++x++y) _ ((h.app hx).app (hl y (List.mem_cons_self ..))) fun z hz=>hl z (List.mem_cons_of_mem _ hz)
  refine Tx.le (show Tx ⟨l.foldl (fun acc p=>acc++x.cps++p.cps) (acc++x++y).cps⟩ _ from this) ?_
  rw[List.length_cons,Nat.succ_mul];omega
theorem QhA{x:Str}{a B:Nat}(hx:Tx x a)(ys:List Str)(h:∀ y∈ys,Tx y B):Tx (Txt.join x ys) (ys.length * (a+B)):=by
 cases ys with
 | nil=>exact⟨(dk:PyData.strOk (⟨Str.empty.cps⟩:Str)=true),Nat.zero_le _⟩
 | cons y l=>
  refine Tx.le (QBS hx l y B (h y (List.mem_cons_self ..)) fun z hz=>h z (List.mem_cons_of_mem _ hz)) ?_
  rw[List.length_cons,Nat.succ_mul];omega
theorem QB6{B:Nat}:∀ ys:List Str,(∀ y∈ys,Tx y B)->(ys.map fun y=>y.length).sum<=ys.length * B
 | [],_=>by simp
 | y::l,h=>by
  have h1:=(h y (List.mem_cons_self ..)).len
  have h2:=QB6 l fun z hz=>h z (List.mem_cons_of_mem _ hz)
  rw[List.map_cons,List.sum_cons,List.length_cons,Nat.succ_mul];omega
theorem QgJ{x:Str}{a B:Nat}(hx:Tx x a)(ys:List Str)(h:∀ y∈ys,Tx y B)(hb:ys.length * (a+B)<=1000000):fJoin (.str x) [.lst (ys.map .str)]=.ok (.str (Txt.join x ys)):=by
 unfold fJoin
 show(match strsJ (ys.map D.str) with
  | some ys=>if decide ((ys.map fun(y:Str)=>y.length).sum+ys.length * x.length<=16777216)=true then Out.ok (D.str (Txt.join x ys)) else Out.stuck
  | none=>Out.stuck)=_
 rw[QrQ]
 show(if decide ((ys.map fun y=>y.length).sum+ys.length * x.length<=16777216)=true then Out.ok (D.str (Txt.join x ys)) else Out.stuck)=_
 have h1:=QB6 ys h
 have h2:ys.length * x.length<=ys.length * a:=Nat.mul_le_mul_left _ hx.len
 rw[Nat.mul_add]at hb
 rw[if_pos (decide_eq_true (by omega))]
theorem Qfr{O E:SD->Out D}{ς:SD}{x:Str}{d:D}{r:Out D}(ho:O ς=.ok (.str x))(he:E ς=.ok d)(h:fJoin (.str x) [d]=r):eSm fJoin O (aCons E aNil) ς=r:=by
 unfold eSm
 rw[ho,Out.bind_ok]
 show(aCons E aNil ς>>=fun ys=>fJoin (.str x) ys)=r
 rw[Qg he r_nil];exact h
def rowT(r:List Int):Str:=if r.length=0 then "-" else Txt.join "," (r.map it)
def wordT(c:Str):Str:=if c=("Deal":Str) then "deal" else if c=("Bundle":Str) then "bundle" else if c=("Copy":Str) then "copy" else "rows"
def numT(c:Str)(t:List (List Int)):Str:=if c=("Deal":Str)∨c=("Bundle":Str) then it (t.length:Int) else Txt.join "/" (t.map rowT)
def ctext(c:Str)(t:List (List Int)):Str:=wordT c++(" ":Str)++numT c t
theorem tc:Tx (",":Str) 1:=⟨dk,dk⟩
theorem tsl:Tx ("/":Str) 1:=⟨dk,dk⟩
theorem tbl:Tx (" ":Str) 1:=⟨dk,dk⟩
theorem tmi:Tx ("-":Str) 1:=⟨dk,dk⟩
theorem QkQ{r:List Int}(hl:r.length<=6)(h:∀ x∈r,0<=x/\x<=9):Tx (rowT r) 20:=by
 unfold rowT
 split
 ·exact tmi.le (by decide)
 ·refine Tx.le (QhA tc (r.map it) (B:=2) fun y hy=>?_) (by rw[List.length_map];omega)
  obtain⟨x,hx,rfl⟩:=List.mem_map.mp hy
  obtain⟨h0,h9⟩:=h x hx
  exact(QcM h0 (by omega)).2
theorem QBX{c:Str}{t:List (List Int)}{m:Nat}(h:Tb t m):Tx (numT c t) 300:=by
 have n1:=h.n1
 have n2:=h.n2
 have m6:=h.m6
 unfold numT
 split
 ·exact((QcM (k:=(t.length:Int)) (by omega) (by omega)).2).le (by decide)
 ·refine Tx.le (QhA tsl (t.map rowT) (B:=20) fun y hy=>?_) (by rw[List.length_map];omega)
  obtain⟨r,hr,rfl⟩:=List.mem_map.mp hy
  exact QkQ (by have:=h.row r hr;omega) (h.ent r hr)
theorem QmH(c:Str):Tx (wordT c) 6:=by
 unfold wordT
 split
 ·exact⟨dk,dk⟩
 ·split
  ·exact⟨dk,dk⟩
  ·split<;>exact⟨dk,dk⟩
theorem QHu{c:Str}{t:List (List Int)}{m:Nat}(h:Tb t m):Tx (ctext c t) 310:=(((QmH c).app tbl).app (QBX h)).le (by decide)
theorem QG1{r:List Int}(hl:r.length<=6)(h:∀ x∈r,0<=x/\x<=9):QcL [dl r]=.ok (.str (rowT r)):=by
 have hlen:fLen [dl r]=.ok (.int (r.length:Int)):=by simp[fLen,dl]
 rw[QDy]
 unfold QfY
 by_cases e:r.length=0
 ·have he:dEq (.int (r.length:Int)) (.int 0)=.ok (.bl true):=by rw[QaA,decide_eq_true (by omega)]
  have er:rowT r="-":=if_pos e
  rw[er]
  exact Q5 (fl:=.rt false (.str "-")) (r_seq (r_if (QaK (r_e2 (r_eA (Qg (r_var rfl) r_nil) hlen) r_C he)) (Qfv rfl (r_ret r_C))) Qf9) r_rt
 ·have he:dEq (.int (r.length:Int)) (.int 0)=.ok (.bl false):=by rw[QaA,decide_eq_false (by omega)]
  have er:rowT r=Txt.join "," (r.map it):=if_neg e
  have hc:eComp [none] (itL (eVar 0)) (gN 0) cTrue QgA [some (.k,dl r)]=.ok (.lst ((r.map it).map .str)):=by
   rw[List.map_map]
   refine QH (l:=r) (fun x=>D.int x) (fun x=>D.str (it x)) rfl (fun x hx=>?_) (by omega)
   obtain⟨h0,h9⟩:=h x hx
   refine QN (by walk_at "cap") (by walk_at "s") ?_
   unfold QgA
   exact r_eA (Qg (r_var rfl) r_nil) (QcM h0 (by omega)).1
  have hj:=QgJ tc (r.map it) (B:=2) (fun y hy=>by
   obtain⟨x,hx,rfl⟩:=List.mem_map.mp hy
   obtain⟨h0,h9⟩:=h x hx
   exact(QcM h0 (by omega)).2) (by rw[List.length_map];omega)
  rw[er]
  exact Q5 (fl:=.rt false (.str (Txt.join "," (r.map it)))) (r_seq (r_if (QaK (r_e2 (r_eA (Qg (r_var rfl) r_nil) hlen) r_C he)) (Qj9 rfl QbU)) (Ql (r_ret (Qfr r_C hc hj)))) r_rt
theorem QIq{c:Str}(hc:CK.contains c=true){t:List (List Int)}{m:Nat}(h:Tb t m):Qaz [ck c t m]=.ok (.str (Txt.join "/" (t.map rowT))):=by
 have n2:=h.n2
 have m6:=h.m6
 have hf:=fld_t hc t m
 have hcm:eComp [none] (itL (e1 (dFld Qj "table") (eVar 0))) (gN 0) cTrue QdL [some (.k,ck c t m)]=.ok (.lst ((t.map rowT).map .str)):=by
  rw[List.map_map]
  refine QH (l:=t) (fun r=>dl r) (fun r=>D.str (rowT r)) (r_itL (r_e1 (r_var rfl) hf)) (fun r hr=>?_) (by omega)
  have hx:=QG1 (r:=r) (by have:=h.row r hr;omega) (h.ent r hr)
  refine QN (by walk_at "cap") (by walk_at "s") ?_
  unfold QdL
  exact Qax (xs:=[dl r]) (Qg (r_var rfl) r_nil) rfl hx
 have hj:=QgJ tsl (t.map rowT) (B:=20) (fun y hy=>by
  obtain⟨r,hr,rfl⟩:=List.mem_map.mp hy
  exact QkQ (by have:=h.row r hr;omega) (h.ent r hr)) (by rw[List.length_map];omega)
 rw[QoN]
 unfold Qdb
 exact Q5 (fl:=.rt false (.str (Txt.join "/" (t.map rowT)))) (r_ret (Qfr r_C hcm hj)) r_rt
theorem QKp{c:Str}(hc:CK.contains c=true){t:List (List Int)}{m:Nat}:eMeth Qc "period" (fun _=>QX) (eVar 0) aNil [some (.k,ck c t m)]=.ok (.int (t.length:Int)):=by
 rw[Qga (c:=c) (t:=t) (m:=m) hc (xs:=[]) (r_var rfl) rfl (dk) (dk)]
 exact QrS hc _ _
theorem QIi{c:Str}(hc:CK.contains c=true){t:List (List Int)}{m:Nat}(h:Tb t m):Qbf [ck c t m]=.ok (.str (ctext c t)):=by
 have n1:=h.n1
 have n2:=h.n2
 have hw:Qbv c [ck c t m]=.ok (.str (wordT c)):=by
  have hm:c∈CK:=by simpa using hc
  simp only[CK,Qc,List.mem_cons,List.not_mem_nil,or_false]at hm
  rcases hm with rfl | rfl | rfl | rfl
  ·rw[Qkl];unfold wordT;rw[if_pos rfl];rfl
  ·rw[Qh6];unfold wordT;rw[if_neg (dk),if_pos rfl];rfl
  ·rw[Qj8];unfold wordT;rw[if_neg (dk),if_neg (dk),if_pos rfl];rfl
  ·rw[Qjr];unfold wordT;rw[if_neg (dk),if_neg (dk),if_neg (dk)];rfl
 have hp:=QKp hc (t:=t) (m:=m)
 have hst:=(QcM (k:=(t.length:Int)) (by omega) (by omega)).1
 have hn:Qat c [ck c t m]=.ok (.str (numT c t)):=by
  have hm:c∈CK:=by simpa using hc
  have hnum:=QIq hc h
  simp only[CK,Qc,List.mem_cons,List.not_mem_nil,or_false]at hm
  rcases hm with rfl | rfl | rfl | rfl
  ·rw[QgM,Qo8]
   unfold Qdu numT
   rw[if_pos (.inl rfl)]
   exact Q5 (r_ret (r_eA (Qg hp r_nil) hst)) r_rt
  ·rw[QfN,Qmy]
   unfold QcI numT
   rw[if_pos (.inr rfl)]
   exact Q5 (r_ret (r_eA (Qg hp r_nil) hst)) r_rt
  ·rw[QgT]
   unfold numT
   rw[if_neg (dk)];exact hnum
  ·rw[QgV]
   unfold numT
   rw[if_neg (dk)];exact hnum
 have m1:eMeth Qc "word" Qbv (eVar 0) aNil [some (.k,ck c t m)]=.ok (.str (wordT c)):=by
  rw[Qga (c:=c) (t:=t) (m:=m) hc (xs:=[]) (r_var rfl) rfl (dk) (dk)]
  exact hw
 have m2:eMeth Qc "numbers" Qat (eVar 0) aNil [some (.k,ck c t m)]=.ok (.str (numT c t)):=by
  rw[Qga (c:=c) (t:=t) (m:=m) hc (xs:=[]) (r_var rfl) rfl (dk) (dk)]
  exact hn
 have a1:=QbF (QmH c) tbl (by decide)
 have a2:=QbF ((QmH c).app tbl) (QBX (c:=c) h) (by decide)
 rw[Qws]
 unfold QeF
 exact Q5 (fl:=.rt false (.str (ctext c t))) (r_ret (r_e2 (r_e2 m1 r_C a1) m2 a2)) r_rt
section
variable{n nd ne:Nat}{nm dn c en:Nat->Str}{ek:Nat->Nat}{t:Nat->List (List Int)}{m:Nat->Nat}{ld:Nat->Nat->Int}{st:Nat->Int}
theorem QDn:(offF n nd ne nm dn c en ek t m ld st).lookup ("staff":Str)=some (rl n (fun k=>ck (c k) (t k) (m k))):=by
 have h1:(("staff":Str) == "clerk_names")=false:=dk
 have h2:(("staff":Str) == "door_names")=false:=dk
 have h3:(("staff":Str) == "entry_places")=false:=dk
 unfold offF
 rw[List.lookup_cons,h1,List.lookup_cons,h2,List.lookup_cons,h3,List.lookup_cons,beq_self_eq_true]
theorem QGQ:(offF n nd ne nm dn c en ek t m ld st).lookup ("ways":Str)=some (rl n (fun k=>rl (m k) (fun j=>.int (ld k j)))):=by
 have h1:(("ways":Str) == "clerk_names")=false:=dk
 have h2:(("ways":Str) == "door_names")=false:=dk
 have h3:(("ways":Str) == "entry_places")=false:=dk
 have h4:(("ways":Str) == "staff")=false:=dk
 have h5:(("ways":Str) == "first_states")=false:=dk
 unfold offF
 rw[List.lookup_cons,h1,List.lookup_cons,h2,List.lookup_cons,h3,List.lookup_cons,h4,List.lookup_cons,h5,List.lookup_cons,beq_self_eq_true]
theorem QGx{x:Str}(h:(["clerk_names","door_names","entry_places","staff","first_states","ways"]:List Str).all (fun y => !(x == y))=true):(offF n nd ne nm dn c en ek t m ld st).lookup x=none:=by
 simp only[List.all_cons,List.all_nil,Bool.and_eq_true,Bool.not_eq_true',Bool.and_true]at h
 obtain⟨h1,h2,h3,h4,h5,h6⟩:=h
 unfold offF
 rw[List.lookup_cons,h1,List.lookup_cons,h2,List.lookup_cons,h3,List.lookup_cons,h4,List.lookup_cons,h5,List.lookup_cons,h6];rfl
theorem fld_o{x:Str}{d:D}(h:(offF n nd ne nm dn c en ek t m ld st).lookup x=some d):dFld Qj x (offD n nd ne nm dn c en ek t m ld st)=.ok d:=by
 show(if Qj.contains "Office"=true then optO ((offF n nd ne nm dn c en ek t m ld st).lookup x) else .stuck)=_
 rw[if_pos QBN,h];rfl
theorem Qd6{x:Str}{mt:Str->List D->Out D}{O:SD->Out D}{A:SD->Out (List D)}{ς:SD}{xs:List D}(hO:O ς=.ok (offD n nd ne nm dn c en ek t m ld st))(hA:A ς=.ok xs)
 (h:(["clerk_names","door_names","entry_places","staff","first_states","ways"]:List Str).all (fun y => !(x == y))=true):eMeth Qi x mt O A ς=mt "Office" (offD n nd ne nm dn c en ek t m ld st::xs):=by
 have hc:Qi.contains "Office"=true:=dk
 unfold eMeth
 rw[hO,Out.bind_ok]
 show(if (Qi.contains "Office"&&((offF n nd ne nm dn c en ek t m ld st).lookup x).isNone)=true then A ς>>=fun xs=>mt "Office" (.ins "Office" (offF n nd ne nm dn c en ek t m ld st)::xs) else .stuck)=_
 rw[QGx h,hc,if_pos (show(true&&(none:Option D).isNone)=true from rfl),hA];rfl
theorem QFM{k:Nat}(hk:k<n):Qar [offD n nd ne nm dn c en ek t m ld st,.int (k:Int)]=.ok (ck (c k) (t k) (m k)):=by
 have h1:=fld_o (QDn (n:=n) (nd:=nd) (ne:=ne) (nm:=nm) (dn:=dn) (c:=c) (en:=en) (ek:=ek) (t:=t) (m:=m) (ld:=ld) (st:=st))
 have x1:dIx (rl n (fun k=>ck (c k) (t k) (m k))) (.int (k:Int))=.ok (ck (c k) (t k) (m k)):=ixR hk
 rw[QqP]
 unfold QdJ
 (repeat walk_at "e")
theorem QGO{k:Nat}(hk:k<n):Qap [offD n nd ne nm dn c en ek t m ld st,.int (k:Int)]=.ok (rl (m k) (fun j=>.int (ld k j))):=by
 have h1:=fld_o (QGQ (n:=n) (nd:=nd) (ne:=ne) (nm:=nm) (dn:=dn) (c:=c) (en:=en) (ek:=ek) (t:=t) (m:=m) (ld:=ld) (st:=st))
 have x1:dIx (rl n (fun k=>rl (m k) (fun j=>.int (ld k j)))) (.int (k:Int))=.ok (rl (m k) (fun j=>.int (ld k j))):=ixR hk
 have hd:dList (rl (m k) (fun j=>.int (ld k j)))=.ok (rl (m k) (fun j=>.int (ld k j))):=rfl
 rw[Qq5]
 unfold Qdt
 (repeat walk_at "e")
theorem QFU:(offF n nd ne nm dn c en ek t m ld st).lookup ("clerk_names":Str)=some (rl n (fun k=>.str (nm k))):=by
 unfold offF
 rw[List.lookup_cons,beq_self_eq_true]
theorem QJ6:(offF n nd ne nm dn c en ek t m ld st).lookup ("door_names":Str)=some (rl nd (fun d=>.str (dn d))):=by
 have h1:(("door_names":Str) == "clerk_names")=false:=dk
 unfold offF
 rw[List.lookup_cons,h1,List.lookup_cons,beq_self_eq_true]
theorem QKu:(offF n nd ne nm dn c en ek t m ld st).lookup ("entry_places":Str)=some (rl ne (fun j=>.tup [.str (en j),.int ((ek j:Nat):Int)])):=by
 have h1:(("entry_places":Str) == "clerk_names")=false:=dk
 have h2:(("entry_places":Str) == "door_names")=false:=dk
 unfold offF
 rw[List.lookup_cons,h1,List.lookup_cons,h2,List.lookup_cons,beq_self_eq_true]
theorem QKO:(offF n nd ne nm dn c en ek t m ld st).lookup ("first_states":Str)=some (rl n (fun k=>.int (st k))):=by
 have h1:(("first_states":Str) == "clerk_names")=false:=dk
 have h2:(("first_states":Str) == "door_names")=false:=dk
 have h3:(("first_states":Str) == "entry_places")=false:=dk
 have h4:(("first_states":Str) == "staff")=false:=dk
 unfold offF
 rw[List.lookup_cons,h1,List.lookup_cons,h2,List.lookup_cons,h3,List.lookup_cons,h4,List.lookup_cons,beq_self_eq_true]
theorem on:Q1 [offD n nd ne nm dn c en ek t m ld st]=.ok (rl n (fun k=>.str (nm k))):=by
 have h1:=fld_o (QFU (n:=n) (nd:=nd) (ne:=ne) (nm:=nm) (dn:=dn) (c:=c) (en:=en) (ek:=ek) (t:=t) (m:=m) (ld:=ld) (st:=st))
 have hd:dList (rl n (fun k=>.str (nm k)))=.ok (rl n (fun k=>.str (nm k))):=rfl
 rw[QpA]
 unfold Qdq
 exact Q5 (QcQ (r_e1 (r_e1 (r_var rfl) h1) hd)) r_rtT
theorem onm{i:Nat}{ς:SD}(h:ς[i]?=some (some (.k,offD n nd ne nm dn c en ek t m ld st))):eMeth Qi "names" (fun _=>Q1) (eVar i) aNil ς=.ok (rl n (fun k=>.str (nm k))):=by
 rw[Qd6 (xs:=[]) (r_var h) rfl (dk)]
 exact on
theorem od:Q7 [offD n nd ne nm dn c en ek t m ld st]=.ok (rl nd (fun d=>.str (dn d))):=by
 have h1:=fld_o (QJ6 (n:=n) (nd:=nd) (ne:=ne) (nm:=nm) (dn:=dn) (c:=c) (en:=en) (ek:=ek) (t:=t) (m:=m) (ld:=ld) (st:=st))
 have hd:dList (rl nd (fun d=>.str (dn d)))=.ok (rl nd (fun d=>.str (dn d))):=rfl
 rw[QpT]
 unfold QdC
 exact Q5 (QcQ (r_e1 (r_e1 (r_var rfl) h1) hd)) r_rtT
theorem odm{i:Nat}{ς:SD}(h:ς[i]?=some (some (.k,offD n nd ne nm dn c en ek t m ld st))):eMeth Qi "doors" (fun _=>Q7) (eVar i) aNil ς=.ok (rl nd (fun d=>.str (dn d))):=by
 rw[Qd6 (xs:=[]) (r_var h) rfl (dk)]
 exact od
theorem oe:Qac [offD n nd ne nm dn c en ek t m ld st]=.ok (rl ne (fun j=>.tup [.str (en j),.int ((ek j:Nat):Int)])):=by
 have h1:=fld_o (QKu (n:=n) (nd:=nd) (ne:=ne) (nm:=nm) (dn:=dn) (c:=c) (en:=en) (ek:=ek) (t:=t) (m:=m) (ld:=ld) (st:=st))
 have hd:dList (rl ne (fun j=>.tup [.str (en j),.int ((ek j:Nat):Int)]))=.ok (rl ne (fun j=>.tup [.str (en j),.int ((ek j:Nat):Int)])):=rfl
 rw[QmU]
 unfold QcB
 exact Q5 (QcQ (r_e1 (r_e1 (r_var rfl) h1) hd)) r_rtT
theorem oem{i:Nat}{ς:SD}(h:ς[i]?=some (some (.k,offD n nd ne nm dn c en ek t m ld st))):eMeth Qi "entries" (fun _=>Qac) (eVar i) aNil ς=.ok (rl ne (fun j=>.tup [.str (en j),.int ((ek j:Nat):Int)])):=by
 rw[Qd6 (xs:=[]) (r_var h) rfl (dk)]
 exact oe
theorem ob:QaG [offD n nd ne nm dn c en ek t m ld st]=.ok (rl n (fun k=>.int (st k))):=by
 have h1:=fld_o (QKO (n:=n) (nd:=nd) (ne:=ne) (nm:=nm) (dn:=dn) (c:=c) (en:=en) (ek:=ek) (t:=t) (m:=m) (ld:=ld) (st:=st))
 have hd:dList (rl n (fun k=>.int (st k)))=.ok (rl n (fun k=>.int (st k))):=rfl
 rw[QqX]
 unfold QdI
 exact Q5 (QcQ (r_e1 (r_e1 (r_var rfl) h1) hd)) r_rtT
theorem obm{i:Nat}{ς:SD}(h:ς[i]?=some (some (.k,offD n nd ne nm dn c en ek t m ld st))):eMeth Qi "begin" (fun _=>QaG) (eVar i) aNil ς=.ok (rl n (fun k=>.int (st k))):=by
 rw[Qd6 (xs:=[]) (r_var h) rfl (dk)]
 exact ob
theorem om:QaE [offD n nd ne nm dn c en ek t m ld st]=.ok (.int (n:Int)):=by
 have h1:=fld_o (QFU (n:=n) (nd:=nd) (ne:=ne) (nm:=nm) (dn:=dn) (c:=c) (en:=en) (ek:=ek) (t:=t) (m:=m) (ld:=ld) (st:=st))
 have hl:=lenR n (fun k=>D.str (nm k))
 rw[QtI]
 unfold Qd1
 exact Q5 (r_ret (r_eA (Qg (r_e1 (r_var rfl) h1) r_nil) hl)) r_rt
theorem omm{i:Nat}{ς:SD}(h:ς[i]?=some (some (.k,offD n nd ne nm dn c en ek t m ld st))):eMeth Qi "many" (fun _=>QaE) (eVar i) aNil ς=.ok (.int (n:Int)):=by
 rw[Qd6 (xs:=[]) (r_var h) rfl (dk)]
 exact om
theorem ocm{i j k:Nat}{ς:SD}(hk:k<n)(h:ς[i]?=some (some (.k,offD n nd ne nm dn c en ek t m ld st)))(h':ς[j]?=some (some (.k,.int (k:Int)))):eMeth Qi "clerk" (fun _=>Qar) (eVar i) (aCons (eVar j) aNil) ς=.ok (ck (c k) (t k) (m k)):=by
 rw[Qd6 (xs:=[.int (k:Int)]) (r_var h) (Qg (r_var h') r_nil) (dk)]
 exact QFM hk
theorem olm{i j k:Nat}{ς:SD}(hk:k<n)(h:ς[i]?=some (some (.k,offD n nd ne nm dn c en ek t m ld st)))(h':ς[j]?=some (some (.k,.int (k:Int)))):eMeth Qi "leads" (fun _=>Qap) (eVar i) (aCons (eVar j) aNil) ς=.ok (rl (m k) (fun j=>.int (ld k j))):=by
 rw[Qd6 (xs:=[.int (k:Int)]) (r_var h) (Qg (r_var h') r_nil) (dk)]
 exact QGO hk
end
def crowT(nm dn c:Nat->Str)(t:Nat->List (List Int))(m:Nat->Nat)(ld:Nat->Nat->Int)(st:Nat->Int)(k:Nat):Str:=Txt.join " " ([("clerk":Str),nm k,ctext (c k) (t k),"at",it (st k),"to"]++(List.range (m k)).map (fun j=>nml nm dn (ld k j)))
def rowsT(n nd ne:Nat)(nm dn c en:Nat->Str)(ek:Nat->Nat)(t:Nat->List (List Int))(m:Nat->Nat)(ld:Nat->Nat->Int)(st:Nat->Int):List Str:=(List.range nd).map (fun d=>("door ":Str)++dn d)++(List.range n).map (crowT nm dn c t m ld st)++(List.range ne).map (fun j=>("entry ":Str)++en j++(" ":Str)++nm (ek j))
structure Nms(n nd ne:Nat)(nm dn en:Nat->Str):Prop where
 a:∀ k,k<n->Tx (nm k) 6
 b:∀ d,d<nd->Tx (dn d) 6
 c:∀ j,j<ne->Tx (en j) 6
theorem tdo:Tx ("door ":Str) 5:=⟨dk,dk⟩
theorem ten:Tx ("entry ":Str) 6:=⟨dk,dk⟩
theorem tck:Tx ("clerk":Str) 310:=⟨dk,dk⟩
theorem tat:Tx ("at":Str) 310:=⟨dk,dk⟩
theorem tto:Tx ("to":Str) 310:=⟨dk,dk⟩
theorem tse:Tx ("; ":Str) 2:=⟨dk,dk⟩
section
variable{n nd ne:Nat}{nm dn c en:Nat->Str}{ek:Nat->Nat}{t:Nat->List (List Int)}{m:Nat->Nat}{ld:Nat->Nat->Int}{st:Nat->Int}(hs:Seats n nd nm dn c t m ld st)(he:Ent n ne en ek)(hn:Nms n nd ne nm dn en)
include hs hn
theorem QJS{k j:Nat}(hk:k<n)(hj:j<m k):Tx (nml nm dn (ld k j)) 6:=by
 obtain⟨l1,l2⟩:=hs.ldr k j hk hj
 unfold nml
 split
 ·exact hn.b _ (by omega)
 ·exact hn.a _ (by omega)
theorem QmQ{k:Nat}(hk:k<n):∀ y∈[("clerk":Str),nm k,ctext (c k) (t k),"at",it (st k),"to"]++(List.range (m k)).map (fun j=>nml nm dn (ld k j)),Tx y 310:=by
 intro y hy
 have tb:=hs.tb k hk
 obtain⟨s0,s1⟩:=hs.str k hk
 have n2:=tb.n2
 rcases List.mem_append.mp hy with hy | hy
 ·simp only[List.mem_cons,List.not_mem_nil,or_false]at hy
  rcases hy with rfl | rfl | rfl | rfl | rfl | rfl
  ·exact tck
  ·exact(hn.a k hk).le (by decide)
  ·exact QHu tb
  ·exact tat
  ·exact((QcM s0 (by omega)).2).le (by decide)
  ·exact tto
 ·obtain⟨j,hj,rfl⟩:=List.mem_map.mp hy
  exact(QJS hs hn hk (List.mem_range.mp hj)).le (by decide)
theorem Qj4{k:Nat}(hk:k<n):([("clerk":Str),nm k,ctext (c k) (t k),"at",it (st k),"to"]++(List.range (m k)).map (fun j=>nml nm dn (ld k j))).length<=12:=by
 have:=(hs.tb k hk).m6
 rw[List.length_append,List.length_map,List.length_range]
 show 6+m k<=12
 omega
theorem QIK{k:Nat}(hk:k<n):Tx (crowT nm dn c t m ld st k) 4000:=by
 have:=Qj4 hs hn hk
 exact(QhA tbl _ (QmQ hs hn hk)).le (by omega)
theorem QGu{k:Nat}(hk:k<n):QbC [offD n nd ne nm dn c en ek t m ld st,.int (k:Int)]=.ok (rl (m k) (fun j=>.str (nml nm dn (ld k j)))):=by
 have m6:=(hs.tb k hk).m6
 have hc:eComp [none,some 2,some 3] (itL (eMeth Qi "leads" (fun _=>Qap) (eVar 0) (aCons (eVar 1) aNil))) (gN 0) cTrue Qe2 [some (.k,offD n nd ne nm dn c en ek t m ld st),some (.k,.int (k:Int)),some (.k,rl n (fun k=>.str (nm k))),some (.k,rl nd (fun d=>.str (dn d)))]=.ok (rl (m k) (fun j=>.str (nml nm dn (ld k j)))):=by
  refine QH (fun j=>D.int (ld k j)) (fun j=>D.str (nml nm dn (ld k j))) (r_itL (olm hk rfl rfl)) (fun j hj=>?_) (by rw[List.length_range];omega)
  obtain⟨l1,l2⟩:=hs.ldr k j hk (List.mem_range.mp hj)
  refine QN (by walk_at "cap") (by walk_at "s") ?_
  unfold Qe2
  by_cases h:0<=ld k j
  ·obtain⟨p,hp⟩:∃ p:Nat,ld k j=(p:Int):=⟨(ld k j).toNat,by omega⟩
   have e:nml nm dn (ld k j)=nm p:=by unfold nml;rw[if_neg (by omega),hp,Int.toNat_natCast]
   have hx:dIx (rl n (fun k=>.str (nm k))) (.int (p:Int))=.ok (.str (nm p)):=ixR (f:=fun k=>D.str (nm k)) (by omega)
   rw[e,hp]
   exact r_eIf (QaK (r_e2 (r_var rfl) r_C (Qeh _ _))) (Qfv (decide_eq_true (by omega)) (r_e2 (r_var rfl) (r_var rfl) hx))
  ·obtain⟨p,hp⟩:∃ p:Nat, -1 - ld k j=(p:Int):=⟨(-1 - ld k j).toNat,by omega⟩
   have e:nml nm dn (ld k j)=dn p:=by unfold nml;rw[if_pos (by omega),hp,Int.toNat_natCast]
   have hx:dIx (rl nd (fun d=>.str (dn d))) (.int (-1 - ld k j))=.ok (.str (dn p)):=by rw[hp];exact ixR (f:=fun k=>D.str (dn k)) (by omega)
   rw[e]
   exact r_eIf (QaK (r_e2 (r_var rfl) r_C (Qeh _ _))) (Qj9 (decide_eq_false h) (r_e2 (r_var rfl) (r_e2 (r_e1 r_C (Qdf _)) (r_var rfl) (Qd5 _ _)) hx))
 rw[QwF]
 unfold QeB
 exact Q5 (r_seq (r_set (onm rfl) (by walk_at "s")) (Ql (r_seq (r_set (odm rfl) (by walk_at "s")) (Ql (QcQ hc))))) r_rtT
theorem QIM{k:Nat}(hk:k<n):Qcb [offD n nd ne nm dn c en ek t m ld st,.int (k:Int)]=.ok (.str (crowT nm dn c t m ld st k)):=by
 have tb:=hs.tb k hk
 have n2:=tb.n2
 have m6:=tb.m6
 obtain⟨s0,s1⟩:=hs.str k hk
 have hx:dIx (rl n (fun k=>.str (nm k))) (.int (k:Int))=.ok (.str (nm k)):=ixR (f:=fun k=>D.str (nm k)) hk
 have hb:dIx (rl n (fun k=>.int (st k))) (.int (k:Int))=.ok (.int (st k)):=ixR (f:=fun k=>D.int (st k)) hk
 have hst:=(QcM s0 (show st k<=12 by omega)).1
 have htx:∀ ς:SD,ς[0]?=some (some (.k,offD n nd ne nm dn c en ek t m ld st))->ς[1]?=some (some (.k,.int (k:Int)))->eMeth Qc "text" (fun _=>Qbf) (eMeth Qi "clerk" (fun _=>Qar) (eVar 0) (aCons (eVar 1) aNil)) aNil ς=.ok (.str (ctext (c k) (t k))):=fun ς h0 h1=>by
  rw[Qga (c:=c k) (t:=t k) (m:=m k) (hs.ck k hk) (xs:=[]) (ocm hk h0 h1) rfl (dk) (dk)]
  exact QIi (hs.ck k hk) tb
 have hln:=QGu hs hn (ne:=ne) (en:=en) (ek:=ek) hk
 have hcat:dCat (.lst [.str "clerk",.str (nm k),.str (ctext (c k) (t k)),.str "at",.str (it (st k)),.str "to"]) (rl (m k) (fun j=>.str (nml nm dn (ld k j))))=.ok (.lst (([("clerk":Str),nm k,ctext (c k) (t k),"at",it (st k),"to"]++(List.range (m k)).map (fun j=>nml nm dn (ld k j))).map .str)):=by
  show dCat (.lst _) (.lst _)=_
  rw[QeW (by rw[List.length_map,List.length_range];show 6+m k<=1000;omega),List.map_append,List.map_map]
  rfl
 have hj:=QgJ tbl _ (QmQ hs hn hk) (by have:=Qj4 hs hn hk;omega)
 rw[QA2]
 unfold Qfi
 refine Q5 (fl:=.rt false (.str (crowT nm dn c t m ld st k))) ?_ r_rt
 refine r_seq (r_set (r_lst (Qg r_C (Qg (r_e2 (onm rfl) (r_var rfl) hx) (Qg (htx _ rfl rfl) (Qg r_C (Qg (r_eA (Qg (r_e2 (obm rfl) (r_var rfl) hb) r_nil) hst) (Qg r_C r_nil)))))) (show 6<=1000 by decide)) (by walk_at "s")) (Ql ?_)
 exact r_ret (Qfr r_C (r_e2 (r_var rfl) (Qax (xs:=[offD n nd ne nm dn c en ek t m ld st,.int (k:Int)]) (Qg (r_var rfl) (Qg (r_var rfl) r_nil)) rfl hln) hcat) hj)
theorem QCg(he:Ent n ne en ek):∀ y∈rowsT n nd ne nm dn c en ek t m ld st,Tx y 4000:=by
 intro y hy
 unfold rowsT at hy
 rcases List.mem_append.mp hy with hy | hy
 ·rcases List.mem_append.mp hy with hy | hy
  ·obtain⟨d,hd,rfl⟩:=List.mem_map.mp hy
   exact(tdo.app (hn.b d (List.mem_range.mp hd))).le (by decide)
  ·obtain⟨k,hk,rfl⟩:=List.mem_map.mp hy
   exact QIK hs hn (List.mem_range.mp hk)
 ·obtain⟨j,hj,rfl⟩:=List.mem_map.mp hy
  have hj:=List.mem_range.mp hj
  exact(((ten.app (hn.c j hj)).app tbl).app (hn.a _ (he.rng j hj))).le (by decide)
theorem QvG(he:Ent n ne en ek):(rowsT n nd ne nm dn c en ek t m ld st).length<=72:=by
 have:=hs.n2
 have:=hs.d2
 have:=he.e6
 unfold rowsT
 rw[List.length_append,List.length_append,List.length_map,List.length_map,List.length_map,List.length_range,List.length_range,List.length_range]
 omega
theorem QrV(he:Ent n ne en ek):fJoin (.str "; ") [.lst ((rowsT n nd ne nm dn c en ek t m ld st).map .str)]=.ok (.str (Txt.join "; " (rowsT n nd ne nm dn c en ek t m ld st))):=QgJ tse _ (QCg hs hn he) (by have:=QvG hs hn he;omega)
theorem QCk{d:Nat}(hd:d<nd):dAdd (.str "door ") (.str (dn d))=.ok (.str (("door ":Str)++dn d)):=QbF tdo (hn.b d hd) (by decide)
theorem QD1(he:Ent n ne en ek):QbQ [offD n nd ne nm dn c en ek t m ld st]=.ok (.str (Txt.join "; " (rowsT n nd ne nm dn c en ek t m ld st))):=by
 have n2:=hs.n2
 have d2:=hs.d2
 have e6:=he.e6
 have c1:∀ a1 a2 a3 a4:Option (SM×D),eComp [none] (itL (eMeth Qi "doors" (fun _=>Q7) (eVar 0) aNil)) (gN 0) cTrue Qhw [some (.k,offD n nd ne nm dn c en ek t m ld st),a1,a2,a3,a4]=.ok (rl nd (fun d=>.str (("door ":Str)++dn d))):=fun a1 a2 a3 a4=>by
  refine QH (fun d=>D.str (dn d)) (fun d=>D.str (("door ":Str)++dn d)) (r_itL (odm rfl)) (fun d hd=>?_) (by rw[List.length_range];omega)
  refine QN (by walk_at "cap") (by walk_at "s") ?_
  unfold Qhw
  exact r_e2 r_C (r_var rfl) (QCk hs hn (List.mem_range.mp hd))
 have c2:∀ a1 a2 a3 a4:Option (SM×D),eComp [none,some 0] (itR1 (eMeth Qi "many" (fun _=>QaE) (eVar 0) aNil)) (gN 0) cTrue Qhq [some (.k,offD n nd ne nm dn c en ek t m ld st),a1,a2,a3,a4]=.ok (rl n (fun k=>.str (crowT nm dn c t m ld st k))):=fun a1 a2 a3 a4=>by
  refine QH (fun k:Nat=>D.int ((0:Int)+k)) (fun k=>D.str (crowT nm dn c t m ld st k)) (Qbe n (omm rfl) (by omega)) (fun k hk=>?_) (by rw[List.length_range];omega)
  have h:=QIM hs hn (ne:=ne) (en:=en) (ek:=ek) (List.mem_range.mp hk)
  refine QN (by walk_at "cap") (by walk_at "s") ?_
  unfold Qhq
  rw[Int.zero_add]
  exact Qax (xs:=[offD n nd ne nm dn c en ek t m ld st,.int (k:Int)]) (Qg (r_var rfl) (Qg (r_var rfl) r_nil)) rfl h
 have c3:∀ a0 a2 a3 a4:Option (SM×D),a0=some (.k,offD n nd ne nm dn c en ek t m ld st)->eComp [none,some 1] (itL (eMeth Qi "entries" (fun _=>Qac) (eVar 0) aNil)) (gN 0) cTrue Qhy [a0,some (.k,rl n (fun k=>.str (nm k))),a2,a3,a4]=.ok (rl ne (fun j=>.str (("entry ":Str)++en j++(" ":Str)++nm (ek j)))):=fun a0 a2 a3 a4 h0=>by
  refine QH (fun j=>D.tup [.str (en j),.int ((ek j:Nat):Int)]) (fun j=>D.str (("entry ":Str)++en j++(" ":Str)++nm (ek j))) (r_itL (oem (by rw[h0];rfl))) (fun j hj=>?_) (by rw[List.length_range];omega)
  have hj:=List.mem_range.mp hj
  have x0:dIx (.tup [.str (en j),.int ((ek j:Nat):Int)]) (.int 0)=.ok (.str (en j)):=ix_t 0 rfl
  have x1:dIx (.tup [.str (en j),.int ((ek j:Nat):Int)]) (.int 1)=.ok (.int ((ek j:Nat):Int)):=ix_t 1 rfl
  have x2:dIx (rl n (fun k=>.str (nm k))) (.int ((ek j:Nat):Int))=.ok (.str (nm (ek j))):=ixR (f:=fun k=>D.str (nm k)) (he.rng j hj)
  refine QN (by walk_at "cap") (by walk_at "s") ?_
  unfold Qhy
  exact r_e2 (r_e2 (r_e2 r_C (r_e2 (r_var rfl) r_C x0) (QbF ten (hn.c j hj) (by decide))) r_C (QbF (ten.app (hn.c j hj)) tbl (by decide))) (r_e2 (r_var rfl) (r_e2 (r_var rfl) r_C x1) x2) (QbF ((ten.app (hn.c j hj)).app tbl) (hn.a _ (he.rng j hj)) (by decide))
 have hj:=QrV hs hn he
 have hc1:dCat (rl nd (fun d=>.str (("door ":Str)++dn d))) (rl n (fun k=>.str (crowT nm dn c t m ld st k)))=.ok (.lst (((List.range nd).map (fun d=>("door ":Str)++dn d)++(List.range n).map (crowT nm dn c t m ld st)).map .str)):=by
  show dCat (.lst _) (.lst _)=_
  rw[QeW (by rw[List.length_map,List.length_map,List.length_range,List.length_range];omega),List.map_append,List.map_map,List.map_map]
  rfl
 have hc2:dCat (.lst (((List.range nd).map (fun d=>("door ":Str)++dn d)++(List.range n).map (crowT nm dn c t m ld st)).map .str)) (rl ne (fun j=>.str (("entry ":Str)++en j++(" ":Str)++nm (ek j))))=.ok (.lst ((rowsT n nd ne nm dn c en ek t m ld st).map .str)):=by
  show dCat (.lst _) (.lst _)=_
  rw[QeW (by rw[List.length_map,List.length_append,List.length_map,List.length_map,List.length_map,List.length_range,List.length_range,List.length_range];omega)]
  unfold rowsT
  rw[List.map_append (l₁:=(List.range nd).map (fun d=>("door ":Str)++dn d)++(List.range n).map (crowT nm dn c t m ld st)),List.map_map (l:=List.range ne)]
  rfl
 generalize hO:offD n nd ne nm dn c en ek t m ld st=O at *
 rw[QGU]
 unfold QgL
 refine Q5 (fl:=.rt false (.str (Txt.join "; " (rowsT n nd ne nm dn c en ek t m ld st)))) ?_ r_rt
 refine r_seq (r_set (by rw[← hO];exact onm rfl) (by walk_at "s")) (Ql (r_seq (r_set (c1 _ _ _ _) (by walk_at "s")) (Ql (r_seq (r_set (c2 _ _ _ _) (by walk_at "s")) (Ql (r_seq (r_set (c3 _ _ _ _ rfl) (by walk_at "s")) (Ql ?_)))))))
 exact r_ret (Qfr r_C (r_e2 (r_e2 (r_var rfl) (r_var rfl) hc1) (r_var rfl) hc2) hj)
end
theorem r_ifT{P:SD->Out Bool}{T U:SD->Out Fl}{ς:SD}{b:Bool}{rf:Out Fl}(a:P ς=.ok b)(hb:b=true)(k:T ς=rf):sIf P T U ς=rf:=r_if a (Qfv hb k)
theorem r_ifF{P:SD->Out Bool}{T U:SD->Out Fl}{ς:SD}{b:Bool}{rf:Out Fl}(a:P ς=.ok b)(hb:b=false)(k:U ς=rf):sIf P T U ς=rf:=r_if a (Qj9 hb k)
theorem QCe(ns:List Int)(k:Nat):∃ v:Int,Qa4 [.lst (ns.map .int),.int (k:Int)]=.ok (.int v):=by
 have hlen:fLen [.lst (ns.map D.int)]=.ok (.int (ns.length:Int)):=by simp[fLen]
 by_cases h:k<ns.length
 ·have hlt:dLt (.int (k:Int)) (.int (ns.length:Int))=.ok (.bl true):=by rw[QcW,decide_eq_true (by omega)]
  have hx:dIx (.lst (ns.map D.int)) (.int (k:Int))=.ok (.int ns[k]):=ixL k (by rw[List.getElem?_map,List.getElem?_eq_getElem h];rfl)
  refine⟨ns[k],?_⟩
  rw[QoH]
  unfold Qes
  (repeat walk_at "e")
 ·have hlt:dLt (.int (k:Int)) (.int (ns.length:Int))=.ok (.bl false):=by rw[QcW,decide_eq_false (by omega)]
  refine⟨0,?_⟩
  rw[QoH]
  unfold Qes
  (repeat walk_at "e")
theorem QGA(n:Nat)(f:Nat->D)(d:D):(List.range n).map f++[d]=(List.range (n+1)).map fun i=>if i<n then f i else d:=by
 rw[List.range_succ,List.map_append]
 congr 1
 ·exact List.map_congr_left fun i hi=>by rw[if_pos (List.mem_range.mp hi)]
 ·show _=[if n<n then f n else d]
  rw[if_neg (Nat.lt_irrefl n)]
def Dg(M:Nat)(g:Nat->Int):Prop:=∀ i,i<M->0<=g i/\g i<1000000
theorem QB9{k:Nat}{g:Nat->Int}(hg:Dg k g){v:Int}(v0:0<=v)(v1:v<1000000):Dg (k+1) (fun i=>if i<k then g i else v):=fun i hi=>by
 show 0<=(if i<k then g i else v)/\(if i<k then g i else v)<1000000
 split
 ·rename_i w;exact hg i w
 ·exact⟨v0,v1⟩
theorem QGh(k:Nat)(g:Nat->Int)(v:Int):(List.range k).map (fun j=>D.int (g j))++[.int v]=(List.range (k+1)).map (fun i=>D.int (if i<k then g i else v)):=by
 rw[QGA]
 exact List.map_congr_left fun i _=>by split<;>rfl
theorem QjR(c:Int){q:Nat}(hq:q<=100){M:Nat}(hM:M<=100):∃ g:Nat->Int,Dg M g/\Qag [.int c,.int (q:Int),.int (M:Int)]=.ok (rl M (fun i=>.int (g i))):=by
 have h6:dPow (.int 10) (.int 6)=.ok (.int 1000000):=by rw[QBQ (by decide)];rfl
 have m2:dMod (.int c) (.int 2)=.ok (.int (c % 2)):=Qad (by decide)
 have hlen:∀{k:Nat}{g:Nat->Int},k<M->((List.range k).map (fun i=>D.int (g i))).length<=1000:=fun h=>by rw[List.length_map,List.length_range];omega
 by_cases h:c % 2=0
 ·obtain⟨ς',hL,g,z,a5,rfl,hg⟩:=Qb6 (body:=fun x ς=>gN 5 x ς>>=fun ς'=>Qdp ς') (n:=M)
   (P:=fun k ς=>∃(g:Nat->Int)(z:Int)(a5:Option (SM×D)),ς=[some (.k,.int c),some (.k,.int (q:Int)),some (.k,.int (M:Int)),some (.o,rl k (fun i=>.int (g i))),some (.k,.int z),a5,none]/\Dg k g)
   (by
    rintro k hk ς ⟨g,z,a5,rfl,hg⟩
    have mz:dMod (.int z) (.int 1000000)=.ok (.int (z % 1000000)):=Qad (by decide)
    have dz:dFdiv (.int z) (.int 1000000)=.ok (.int (z / 1000000)):=QbX (by decide) (by decide)
    have v0:=Int.emod_nonneg z (b:=1000000) (by decide)
    have v1:=Int.emod_lt_of_pos z (b:=1000000) (by decide)
    generalize z % 1000000=v at *
    refine⟨[some (.k,.int c),some (.k,.int (q:Int)),some (.k,.int (M:Int)),some (.o,rl (k+1) (fun i=>.int (if i<k then g i else v))),some (.k,.int (z / 1000000)),some (.k,.int (k:Int)),none],?_,_,_,_,rfl,QB9 hg v0 v1⟩
    refine r_gN (by walk_at "s") ?_
    unfold Qdp
    refine r_seq (r_app (xs:=(List.range k).map (fun i=>D.int (g i))) rfl (r_e2 (r_var rfl) (r_e2 r_C r_C h6) mz) (hlen hk) (by rw[QGh k g v];walk_at "s")) (Ql ?_)
    exact r_set (r_e2 (r_var rfl) (r_e2 r_C r_C h6) dz) (by walk_at "s"))
   [some (.k,.int c),some (.k,.int (q:Int)),some (.k,.int (M:Int)),some (.o,.lst []),some (.k,.int (c / 2)),none,none] ⟨fun _=>0,_,_,rfl,fun i hi=>absurd hi (by omega)⟩
  have hR:itR1 (eVar 2) [some (.k,.int c),some (.k,.int (q:Int)),some (.k,.int (M:Int)),some (.o,.lst []),some (.k,.int (c / 2)),none,none]=.ok (Qbb 0 M):=Qbe M (r_var rfl) (by omega)
  have hfor:=QbK (g:=gN 5) (T:=Qdp) hR hL
  have d2:dFdiv (.int c) (.int 2)=.ok (.int (c / 2)):=QbX (by decide) (by decide)
  refine⟨g,hg,?_⟩
  rw[Qkv]
  unfold Qdm
  refine Q5 (fl:=.rt true (rl M (fun i=>.int (g i)))) (r_seq (QdQ (d:=.lst []) (by (repeat walk_at "e")) (by walk_at "s")) (Ql (r_seq (fl:=.rt true (rl M (fun i=>.int (g i)))) (r_ifT (QaK (r_e2 (r_e2 (r_var rfl) r_C m2) r_C (QaA _ _))) (decide_eq_true h) ?_) Qf9))) r_rtT
  exact r_seq (r_set (r_e2 (r_var rfl) r_C d2) (by walk_at "s")) (Ql (r_seq hfor (Ql (QkL rfl))))
 ·have bq:bitsI (q:Int)<=10:=Qec (show((q:Int)).natAbs<2 ^ 10 by omega)
  obtain⟨ς',hL,g,z,a5,rfl,hg,bz⟩:=Qb6 (body:=fun x ς=>gN 5 x ς>>=fun ς'=>Qdr ς') (n:=M)
   (P:=fun k ς=>∃(g:Nat->Int)(z:Int)(a5:Option (SM×D)),ς=[some (.k,.int c),some (.k,.int (q:Int)),some (.k,.int (M:Int)),some (.o,rl k (fun i=>.int (g i))),none,a5,some (.k,.int z)]/\Dg k g/\bitsI z<=100)
   (by
    rintro k hk ς ⟨g,z,a5,rfl,hg,bz⟩
    have bk:bitsI (k:Int)<=10:=Qec (show((k:Int)).natAbs<2 ^ 10 by omega)
    have s6:sSet 6 (e2 dMod (e2 dAdd (e2 dAdd (e2 dMul (eVar 6) (eC (.int 1181783497276652981))) (e2 dMul (eVar 5) (eVar 5))) (eVar 1)) (eC (.int 2305843009213693951))) [some (.k,.int c),some (.k,.int (q:Int)),some (.k,.int (M:Int)),some (.o,rl k (fun i=>.int (g i))),none,some (.k,.int (k:Int)),some (.k,.int z)]=.ok (.nx [some (.k,.int c),some (.k,.int (q:Int)),some (.k,.int (M:Int)),some (.o,rl k (fun i=>.int (g i))),none,some (.k,.int (k:Int)),some (.k,.int ((z * 1181783497276652981+(k:Int) * (k:Int)+(q:Int)) % 2305843009213693951))]):=by (repeat walk_at "e")
    have bw:bitsI ((z * 1181783497276652981+(k:Int) * (k:Int)+(q:Int)) % 2305843009213693951)<=100:=bd_in (Int.emod_nonneg _ (by decide)) (Int.lt_trans (Int.emod_lt_of_pos _ (by decide)) (by decide))
    generalize (z * 1181783497276652981+(k:Int) * (k:Int)+(q:Int)) % 2305843009213693951=y at *
    have v0:=Int.emod_nonneg (y * y % 2305843009213693921 / 1048576) (b:=1000000) (by decide)
    have v1:=Int.emod_lt_of_pos (y * y % 2305843009213693921 / 1048576) (b:=1000000) (by decide)
    have hv:e2 dMod (e2 dFdiv (e2 dMod (e2 dMul (eVar 6) (eVar 6)) (eC (.int 2305843009213693921))) (eC (.int 1048576))) (e2 dPow (eC (.int 10)) (eC (.int 6))) [some (.k,.int c),some (.k,.int (q:Int)),some (.k,.int (M:Int)),some (.o,rl k (fun i=>.int (g i))),none,some (.k,.int (k:Int)),some (.k,.int y)]=.ok (.int (y * y % 2305843009213693921 / 1048576 % 1000000)):=by (repeat walk_at "e")
    generalize y * y % 2305843009213693921 / 1048576 % 1000000=v at *
    refine⟨[some (.k,.int c),some (.k,.int (q:Int)),some (.k,.int (M:Int)),some (.o,rl (k+1) (fun i=>.int (if i<k then g i else v))),none,some (.k,.int (k:Int)),some (.k,.int y)],?_,_,_,_,rfl,QB9 hg v0 v1,bw⟩
    refine r_gN (by walk_at "s") ?_
    unfold Qdr
    exact r_seq s6 (Ql (r_app (xs:=(List.range k).map (fun i=>D.int (g i))) rfl hv (hlen hk) (by rw[QGh k g v];walk_at "s"))))
   [some (.k,.int c),some (.k,.int (q:Int)),some (.k,.int (M:Int)),some (.o,.lst []),none,none,some (.k,.int (c % 2305843009213693951+(q:Int) * (q:Int)+7))] ⟨fun _=>0,_,_,rfl,fun i hi=>absurd hi (by omega),by
    have a:=Int.emod_nonneg c (b:=2305843009213693951) (by decide)
    have b:=Int.emod_lt_of_pos c (b:=2305843009213693951) (by decide)
    have e1':(q:Int) * (q:Int)<=100 * 100:=Int.mul_le_mul (by omega) (by omega) (by omega) (by decide)
    have e2':0<=(q:Int) * (q:Int):=Int.mul_nonneg (by omega) (by omega)
    exact Nat.le_trans (Qec (show(c % 2305843009213693951+(q:Int) * (q:Int)+7).natAbs<2 ^ 70 by omega)) (by decide)⟩
  have hR:itR1 (eVar 2) [some (.k,.int c),some (.k,.int (q:Int)),some (.k,.int (M:Int)),some (.o,.lst []),none,none,some (.k,.int (c % 2305843009213693951+(q:Int) * (q:Int)+7))]=.ok (Qbb 0 M):=Qbe M (r_var rfl) (by omega)
  have hfor:=QbK (g:=gN 5) (T:=Qdr) hR hL
  have s6:sSet 6 (e2 dAdd (e2 dAdd (e2 dMod (eVar 0) (eC (.int 2305843009213693951))) (e2 dMul (eVar 1) (eVar 1))) (eC (.int 7))) [some (.k,.int c),some (.k,.int (q:Int)),some (.k,.int (M:Int)),some (.o,.lst []),none,none,none]=.ok (.nx [some (.k,.int c),some (.k,.int (q:Int)),some (.k,.int (M:Int)),some (.o,.lst []),none,none,some (.k,.int (c % 2305843009213693951+(q:Int) * (q:Int)+7))]):=by (repeat walk_at "e")
  refine⟨g,hg,?_⟩
  rw[Qkv]
  unfold Qdm
  exact Q5 (fl:=.rt true (rl M (fun i=>.int (g i)))) (r_seq (QdQ (d:=.lst []) (by (repeat walk_at "e")) (by walk_at "s")) (Ql (r_seq (r_ifF (QaK (r_e2 (r_e2 (r_var rfl) r_C m2) r_C (QaA _ _))) (decide_eq_false h) QbU) (Ql (r_seq s6 (Ql (r_seq hfor (Ql (QkL rfl))))))))) r_rtT
theorem dg_ix{M i:Nat}{g:Nat->Int}(h:i<M):dIx (rl M (fun i=>.int (g i))) (.int (i:Int))=.ok (.int (g i)):=ixR (f:=fun i=>D.int (g i)) h
theorem QJv(d:Int){m:Nat}(hm:m<=100):∃ r:List Int,r.length=m/\(∀ x∈r,0<=x/\x<=9)/\QaR [.int d,.int (m:Int)]=.ok (dl r):=by
 obtain⟨ς',hL,v,r,a3,rfl,hl,hr⟩:=Qb6 (body:=fun x ς=>gN 3 x ς>>=fun ς'=>QbT ς') (n:=m)
  (P:=fun k ς=>∃(v:Int)(r:List Int)(a3:Option (SM×D)),ς=[some (.k,.int v),some (.k,.int (m:Int)),some (.o,dl r),a3]/\r.length=k/\∀ x∈r,0<=x/\x<=9)
  (by
   rintro k hk ς ⟨v,r,a3,rfl,hl,hr⟩
   have hm10:dMod (.int v) (.int 10)=.ok (.int (v % 10)):=Qad (by decide)
   have hd10:dFdiv (.int v) (.int 10)=.ok (.int (v / 10)):=QbX (by decide) (by decide)
   have q0:=Int.emod_nonneg v (b:=10) (by decide)
   have q1:=Int.emod_lt_of_pos v (b:=10) (by decide)
   generalize v % 10=e at *
   refine⟨[some (.k,.int (v / 10)),some (.k,.int (m:Int)),some (.o,dl (r++[e])),some (.k,.int (k:Int))],?_,v / 10,r++[e],_,rfl,by rw[List.length_append,hl];rfl,fun x hx=>by
    rcases List.mem_append.mp hx with w | w
    ·exact hr x w
    ·rw[List.mem_singleton.mp w];exact⟨q0,by omega⟩⟩
   have hle:(r.map D.int).length<=1000:=by rw[List.length_map];omega
   have ea:dl (r++[e])=.lst (r.map D.int++[.int e]):=by unfold dl;simp
   rw[ea]
   show(gN 3 (D.int (k:Int)) [some (.k,.int v),some (.k,.int (m:Int)),some (.o,.lst (r.map D.int)),a3]>>=fun ς'=>QbT ς')=_
   refine r_gN (by walk_at "s") ?_
   unfold QbT
   exact r_seq (r_app (xs:=r.map D.int) rfl (r_e2 (r_var rfl) r_C hm10) hle (by walk_at "s")) (Ql (r_set (r_e2 (r_var rfl) r_C hd10) (by walk_at "s"))))
  [some (.k,.int d),some (.k,.int (m:Int)),some (.o,.lst []),none] ⟨d,[],_,rfl,rfl,fun x hx=>absurd hx List.not_mem_nil⟩
 have hR:itR1 (eVar 1) [some (.k,.int d),some (.k,.int (m:Int)),some (.o,.lst []),none]=.ok (Qbb 0 m):=Qbe m (by (repeat walk_at "e")) (by omega)
 have hfor:=QbK (g:=gN 3) (T:=QbT) hR hL
 refine⟨r,hl,hr,?_⟩
 rw[QsY]
 unfold Qd0
 exact Q5 (fl:=.rt true (dl r)) (r_seq (QdQ (d:=.lst []) (by (repeat walk_at "e")) (by walk_at "s")) (Ql (r_seq hfor (Ql (QkL rfl))))) r_rtT
theorem dbl(b:Bool):f1 dInt [.bl b]=.ok (.int (if b=true then 1 else 0)):=by cases b<;>rfl
theorem QEO{n:Nat}(hn:n<=100){ς:SD}(h:ς[1]?=some (some (.k,.int (n:Int))))(hc:captD [none,some 1] ς=[none,some (.k,.int (n:Int))]):eComp [none,some 1] (itR1 (eVar 1)) (gN 0) cTrue QfH ς=.ok (tbD (dealT n)):=by
 have e:tbD (dealT n)=.lst ((List.range n).map fun s=>dl (one n s)):=by unfold tbD dealT;rw[List.map_map];rfl
 rw[e]
 refine QH (fun s:Nat=>D.int ((0:Int)+s)) (fun s=>dl (one n s)) (Qbe n (r_var h) (by omega)) (fun s _=>?_) (by rw[List.length_range];omega)
 refine QN hc (by walk_at "s") ?_
 unfold QfH
 have e2':dl (one n s)=.lst ((List.range n).map fun k=>D.int (if k=s then 1 else 0)):=by unfold dl one;rw[List.map_map];rfl
 rw[e2',Int.zero_add]
 refine QH (fun k:Nat=>D.int ((0:Int)+k)) (fun k=>D.int (if k=s then 1 else 0)) (Qbe n rfl (by omega)) (fun k _=>?_) (by rw[List.length_range];omega)
 refine QN (by walk_at "cap") (by walk_at "s") ?_
 unfold Qi8
 have hd:=dbl (decide (((0:Int)+(k:Int))=(s:Int)))
 have hh:(if decide (((0:Int)+(k:Int))=(s:Int))=true then(1:Int) else 0)=if k=s then 1 else 0:=by
  by_cases q:k=s
  ·rw[if_pos q,if_pos (decide_eq_true (by omega))]
  ·rw[if_neg q,decide_eq_false (by omega)];rfl
 rw[hh]at hd
 (repeat walk_at "e")
theorem QHl{n:Nat}(hn:n<=100){ς:SD}(h:ς[3]?=some (some (.k,.int (n:Int))))(hc:captD [none,some 3] ς=[none,some (.k,.int (n:Int))]):eComp [none,some 3] (itR1 (eVar 3)) (gN 0) cTrue QfE ς=.ok (tbD (bunT n)):=by
 have e:tbD (bunT n)=.lst ((List.range n).map fun s=>dl [if s+1=n then 1 else 0]):=by unfold tbD bunT;rw[List.map_map];rfl
 rw[e]
 refine QH (fun s:Nat=>D.int ((0:Int)+s)) (fun s=>dl [if s+1=n then 1 else 0]) (Qbe n (r_var h) (by omega)) (fun s _=>?_) (by rw[List.length_range];omega)
 refine QN hc (by walk_at "s") ?_
 unfold QfE
 show _=Out.ok (D.lst [.int (if s+1=n then 1 else 0)])
 have hd:=dbl (decide (((0:Int)+(s:Int))=(n:Int) - 1))
 have hh:(if decide (((0:Int)+(s:Int))=(n:Int) - 1)=true then(1:Int) else 0)=if s+1=n then 1 else 0:=by
  by_cases q:s+1=n
  ·rw[if_pos q,if_pos (decide_eq_true (by omega))]
  ·rw[if_neg q,decide_eq_false (by omega)];rfl
 rw[hh]at hd
 (repeat walk_at "e")
theorem QwL{x:D}{N:Nat}(h:N<=1000):dRep (.lst [x]) (.int (N:Int))=.ok (rl N (fun _=>x)):=by
 have e:(List.replicate N x)=(List.range N).map fun _=>x:=by
  apply List.ext_getElem?
  intro i
  rw[List.getElem?_map,List.getElem?_replicate]
  by_cases hi:i<N
  ·rw[if_pos hi,List.getElem?_range hi];rfl
  ·rw[if_neg hi,List.getElem?_eq_none (by rw[List.length_range];omega)];rfl
 show _=Out.ok (D.lst ((List.range N).map fun _=>x))
 rw[← e]
 unfold dRep
 simp only[Int.toNat_natCast,List.flatten_replicate_singleton,List.length_cons,List.length_nil]
 rw[if_pos]
 rw[Bool.and_eq_true,Bool.and_eq_true]
 exact⟨⟨decide_eq_true (by omega),decide_eq_true (by omega)⟩,Qei (by omega)⟩
theorem QJe{t:List (List Int)}{n:Nat}(h:t.length=n):ctext "Deal" t=("deal ":Str)++it (n:Int):=by
 have e:(("deal":Str)++(" ":Str))="deal ":=dk
 unfold ctext wordT numT
 rw[if_pos rfl,if_pos (.inl rfl),e,h]
theorem QKj{t:List (List Int)}{n:Nat}(h:t.length=n):ctext "Bundle" t=("bundle ":Str)++it (n:Int):=by
 have e:(("bundle":Str)++(" ":Str))="bundle ":=dk
 unfold ctext wordT numT
 rw[if_neg (dk),if_pos rfl,if_pos (.inr rfl),e,h]
theorem QI6(t:List (List Int)):ctext "Copy" t=("copy ":Str)++Txt.join "/" (t.map rowT):=by
 have e:(("copy":Str)++(" ":Str))="copy ":=dk
 unfold ctext wordT numT
 rw[if_neg (dk),if_neg (dk),if_pos rfl,if_neg (dk),e]
theorem QIV(t:List (List Int)):ctext "Rows" t=("rows ":Str)++Txt.join "/" (t.map rowT):=by
 have e:(("rows":Str)++(" ":Str))="rows ":=dk
 unfold ctext wordT numT
 rw[if_neg (dk),if_neg (dk),if_neg (dk),if_neg (dk),e]
theorem QKZ:Tx ("deal ":Str) 5:=⟨dk,dk⟩
theorem t_bun:Tx ("bundle ":Str) 7:=⟨dk,dk⟩
theorem QKz:Tx ("copy ":Str) 5:=⟨dk,dk⟩
theorem QKk:Tx ("rows ":Str) 5:=⟨dk,dk⟩
theorem QFA{g:Nat->Int}(hg:Dg 25 g):∃(c:Str)(t:List (List Int))(m:Nat),CK.contains c=true/\Tb t m/\Qa5 [rl 25 (fun i=>.int (g i))]=.ok (.lst [ck c t m,tbD t,.str (ctext c t)]):=by
 have x0:dIx (rl 25 (fun i=>.int (g i))) (.int 0)=.ok (.int (g 0)):=dg_ix (M:=25) (i:=0) (by decide)
 have x1:dIx (rl 25 (fun i=>.int (g i))) (.int 1)=.ok (.int (g 1)):=dg_ix (M:=25) (i:=1) (by decide)
 have x2:dIx (rl 25 (fun i=>.int (g i))) (.int 2)=.ok (.int (g 2)):=dg_ix (M:=25) (i:=2) (by decide)
 have xs:∀ s:Nat,s<12->dIx (rl 25 (fun i=>.int (g i))) (.int (3+(s:Int)))=.ok (.int (g (3+s))):=fun s hs=>by
  rw[show(3:Int)+(s:Int)=((3+s:Nat):Int) by omega]
  exact dg_ix (by omega)
 have m4:dMod (.int (g 0)) (.int 4)=.ok (.int (g 0 % 4)):=Qad (by decide)
 have m6:dMod (.int (g 1)) (.int 6)=.ok (.int (g 1 % 6)):=Qad (by decide)
 have m12:dMod (.int (g 1)) (.int 12)=.ok (.int (g 1 % 12)):=Qad (by decide)
 have m7:dMod (.int (g 2)) (.int 7)=.ok (.int (g 2 % 7)):=Qad (by decide)
 obtain⟨n6,hn6,a1,a6⟩:∃ n:Nat,1+g 1 % 6=(n:Int)/\1<=n/\n<=6:=⟨(1+g 1 % 6).toNat,by omega,by omega,by omega⟩
 obtain⟨n12,hn12,b1,b12⟩:∃ n:Nat,1+g 1 % 12=(n:Int)/\1<=n/\n<=12:=⟨(1+g 1 % 12).toNat,by omega,by omega,by omega⟩
 obtain⟨ot,hot,o6⟩:∃ n:Nat,g 2 % 7=(n:Int)/\n<=6:=⟨(g 2 % 7).toNat,by omega,by omega⟩
 have q4:=Int.emod_nonneg (g 0) (b:=4) (by decide)
 have q4':=Int.emod_lt_of_pos (g 0) (b:=4) (by decide)
 have k4:∀(ς:SD),ς[0]?=some (some (.k,rl 25 (fun i=>.int (g i))))->e2 dMod (e2 dIx (eVar 0) (eC (.int 0))) (eC (.int 4)) ς=.ok (.int (g 0 % 4)):=fun ς h=>r_e2 (r_e2 (r_var h) r_C x0) r_C m4
 have tst:∀(z:Int)(ς:SD),ς[0]?=some (some (.k,rl 25 (fun i=>.int (g i))))->tVal (e2 dEq (e2 dMod (e2 dIx (eVar 0) (eC (.int 0))) (eC (.int 4))) (eC (.int z))) ς=.ok (decide (g 0 % 4=z)):=fun z ς h=>QaK (r_e2 (k4 ς h) r_C (QaA _ _))
 have a1':dAdd (.int 1) (.int (g 1 % 6))=.ok (.int (n6:Int)):=by rw[QU,hn6]
 have a2':dAdd (.int 1) (.int (g 1 % 12))=.ok (.int (n12:Int)):=by rw[QU,hn12]
 have s3:∀(ς ς':SD),ς[0]?=some (some (.k,rl 25 (fun i=>.int (g i))))->ς.set 3 (some (.k,.int (n12:Int)))=ς'->sSet 3 (e2 dAdd (eC (.int 1)) (e2 dMod (e2 dIx (eVar 0) (eC (.int 1))) (eC (.int 12)))) ς=.ok (.nx ς'):=fun ς ς' h l=>r_set (r_e2 r_C (r_e2 (r_e2 (r_var h) r_C x1) r_C m12) a2') l
 have mr:∀ ς:SD,ς[0]?=some (some (.k,rl 25 (fun i=>.int (g i))))->e2 dMod (e2 dIx (eVar 0) (eC (.int 2))) (eC (.int 7)) ς=.ok (.int (ot:Int)):=fun ς h=>by rw[← hot];exact r_e2 (r_e2 (r_var h) r_C x2) r_C m7
 have FG:∀ s:Nat,∃ r:List Int,s<12->r.length=ot/\(∀ x∈r,0<=x/\x<=9)/\QaR [.int (g (3+s)),.int (ot:Int)]=.ok (dl r):=fun s=>by
  obtain⟨r,h1,h2,h3⟩:=QJv (g (3+s)) (m:=ot) (by omega)
  exact⟨r,fun _=>⟨h1,h2,h3⟩⟩
 obtain⟨R,hR⟩:=Classical.axiomOfChoice FG
 have rows:∀(sz:Nat)(ς:SD),sz<=12->ς[3]?=some (some (.k,.int (sz:Int)))->captD [none,some 0] ς=[none,some (.k,rl 25 (fun i=>.int (g i)))]->eComp [none,some 0] (itR1 (eVar 3)) (gN 0) cTrue Qfz ς=.ok (tbD ((List.range sz).map R)):=fun sz ς hsz h3 hc=>by
  have e:tbD ((List.range sz).map R)=.lst ((List.range sz).map fun s=>dl (R s)):=by unfold tbD;rw[List.map_map];rfl
  rw[e]
  refine QH (fun s:Nat=>D.int ((0:Int)+s)) (fun s=>dl (R s)) (Qbe sz (r_var h3) (by omega)) (fun s hs=>?_) (by rw[List.length_range];omega)
  have hs:=List.mem_range.mp hs
  refine QN hc (by walk_at "s") ?_
  unfold Qfz
  rw[Int.zero_add]
  exact Qax (xs:=[.int (g (3+s)),.int (ot:Int)]) (Qg (r_e2 (r_var rfl) (r_e2 r_C (r_var rfl) (QU _ _)) (xs s (by omega))) (Qg (by rw[← hot];exact r_e2 (r_e2 (r_var rfl) r_C x2) r_C m7) r_nil)) rfl (hR s (by omega)).2.2
 have itx:∀ s,s<12->∀ y∈(R s).map it,Tx y 2:=fun s hs y hy=>by
  obtain⟨x,hx,rfl⟩:=List.mem_map.mp hy
  obtain⟨h0,h9⟩:=(hR s hs).2.1 x hx
  exact(QcM h0 (by omega)).2
 have texts:∀(sz:Nat)(ς:SD),sz<=12->ς[2]?=some (some (.k,tbD ((List.range sz).map R)))->captD [none] ς=[none]->eComp [none] (itL (eVar 2)) (gN 0) cTrue QfJ ς=.ok (rl sz (fun s=>.str (Txt.join "," ((R s).map it)))):=fun sz ς hsz h2 hc=>by
  have e:tbD ((List.range sz).map R)=.lst ((List.range sz).map fun s=>dl (R s)):=by unfold tbD;rw[List.map_map];rfl
  refine QH (fun s=>dl (R s)) (fun s=>D.str (Txt.join "," ((R s).map it))) (by rw[e]at h2;exact r_itL (r_var h2)) (fun s hs=>?_) (by rw[List.length_range];omega)
  have hs:=List.mem_range.mp hs
  have hl:=(hR s (by omega)).1
  refine QN hc (by walk_at "s") ?_
  unfold QfJ
  have hcc:eComp [none] (itL (eVar 0)) (gN 0) cTrue QfI [some (.k,dl (R s))]=.ok (.lst (((R s).map it).map .str)):=by
   rw[List.map_map]
   refine QH (l:=R s) (fun x=>D.int x) (fun x=>D.str (it x)) rfl (fun x hx=>?_) (by omega)
   obtain⟨h0,h9⟩:=(hR s (by omega)).2.1 x hx
   refine QN (by walk_at "cap") (by walk_at "s") ?_
   unfold QfI
   exact r_eA (Qg (r_var rfl) r_nil) (QcM h0 (by omega)).1
  exact Qfr r_C hcc (QgJ tc _ (itx s (by omega)) (by rw[List.length_map];omega))
 -- behind the dash
 have dash:∀(sz:Nat)(a1 a2:Option (SM×D)),sz<=12->sIf (tVal (e2 dEq (e2 dMod (e2 dIx (eVar 0) (eC (.int 2))) (eC (.int 7))) (eC (.int 0)))) (sSet 4 (e2 dRep (eLst (aCons (eC (.str "-")) aNil)) (eVar 3))) sNil [some (.k,rl 25 (fun i=>.int (g i))),a1,a2,some (.k,.int (sz:Int)),some (.k,rl sz (fun s=>.str (Txt.join "," ((R s).map it))))]=.ok (.nx [some (.k,rl 25 (fun i=>.int (g i))),a1,a2,some (.k,.int (sz:Int)),some (.k,rl sz (fun s=>.str (rowT (R s))))]):=fun sz a1 a2 hsz=>by
  by_cases h:ot=0
  ·have e:rl sz (fun s=>D.str (rowT (R s)))=rl sz (fun _=>.str "-"):=Qvo fun s hs=>by
    unfold rowT
    rw[if_pos (by rw[(hR s (by omega)).1];exact h)]
   rw[e]
   exact r_ifT (QaK (r_e2 (mr _ rfl) r_C (QaA _ _))) (decide_eq_true (by omega)) (r_set (r_e2 (r_lst (Qg r_C r_nil) (show 1<=1000 by decide)) (r_var rfl) (QwL (by omega))) (by walk_at "s"))
  ·have e:rl sz (fun s=>D.str (rowT (R s)))=rl sz (fun s=>.str (Txt.join "," ((R s).map it))):=Qvo fun s hs=>by
    unfold rowT
    rw[if_neg (by rw[(hR s (by omega)).1];exact h)]
   rw[e]
   exact r_ifF (QaK (r_e2 (mr _ rfl) r_C (QaA _ _))) (decide_eq_false (by omega)) QbU
 have tbR:∀ sz:Nat,1<=sz->sz<=12->Tb ((List.range sz).map R) ot:=fun sz h1 h2=>by
  refine⟨by rw[List.length_map,List.length_range];exact h1,by rw[List.length_map,List.length_range];exact h2,o6,fun r hr=>?_,fun r hr=>?_⟩
  ·obtain⟨s,hs,rfl⟩:=List.mem_map.mp hr
   exact(hR s (by have:=List.mem_range.mp hs;omega)).1
  ·obtain⟨s,hs,rfl⟩:=List.mem_map.mp hr
   exact(hR s (by have:=List.mem_range.mp hs;omega)).2.1
 generalize hG:rl 25 (fun i=>D.int (g i))=Gd at *
 by_cases h0:g 0 % 4=0
 ·have hi:=QFZ (c:="Deal") (dk) a1 a6
  have hl:(dealT n6).length=n6:=by simp[dealT]
  have hst:=QcM (k:=(n6:Int)) (by omega) (by omega)
  refine⟨"Deal",dealT n6,n6,dk,QBY a1 a6,?_⟩
  rw[QJe hl,Qfc]
  unfold Qb4
  refine Q5 (fl:=.rt true (.lst [ck "Deal" (dealT n6) n6,tbD (dealT n6),.str (("deal ":Str)++it (n6:Int))])) (r_seq (fl:=.rt true (.lst [ck "Deal" (dealT n6) n6,tbD (dealT n6),.str (("deal ":Str)++it (n6:Int))])) (r_ifT (tst 0 _ rfl) (decide_eq_true h0) ?_) Qf9) r_rtT
  refine r_seq (r_set (r_e2 r_C (r_e2 (r_e2 (r_var rfl) r_C x1) r_C m6) a1') (by walk_at "s")) (Ql (r_seq (r_set (QEO (n:=n6) (by omega) rfl rfl) (by walk_at "s")) (Ql ?_)))
  exact QcQ (r_lst (Qg (Qie (Qg (r_var rfl) r_nil) hi) (Qg (r_var rfl) (Qg (r_e2 r_C (r_eA (Qg (r_var rfl) r_nil) hst.1) (QbF QKZ hst.2 (by decide))) r_nil))) (show 3<=1000 by decide))
 ·by_cases h1:g 0 % 4=1
  ·have hi:=QHO (c:="Bundle") (dk) b1 b12
   have hl:(bunT n12).length=n12:=by simp[bunT]
   have hst:=QcM (k:=(n12:Int)) (by omega) (by omega)
   refine⟨"Bundle",bunT n12,1,dk,QFd b1 b12,?_⟩
   rw[QKj hl,Qfc]
   unfold Qb4
   refine Q5 (fl:=.rt true (.lst [ck "Bundle" (bunT n12) 1,tbD (bunT n12),.str (("bundle ":Str)++it (n12:Int))])) (r_seq (r_ifF (tst 0 _ rfl) (decide_eq_false h0) QbU) (Ql (r_seq (s3 _ _ rfl (by walk_at "s")) (Ql (r_seq (fl:=.rt true (.lst [ck "Bundle" (bunT n12) 1,tbD (bunT n12),.str (("bundle ":Str)++it (n12:Int))])) (r_ifT (tst 1 _ rfl) (decide_eq_true h1) ?_) Qf9))))) r_rtT
   refine r_seq (r_set (QHl (n:=n12) (by omega) rfl rfl) (by walk_at "s")) (Ql ?_)
   exact QcQ (r_lst (Qg (Qie (Qg (r_var rfl) r_nil) hi) (Qg (r_var rfl) (Qg (r_e2 r_C (r_eA (Qg (r_var rfl) r_nil) hst.1) (QbF t_bun hst.2 (by decide))) r_nil))) (show 3<=1000 by decide))
  ·by_cases h2:g 0 % 4=2
   ·have tb1:=tbR 1 (by decide) (by decide)
    have hi:=QGn (c:="Copy") (dk) (r:=R 0) (m:=ot) tb1
    have e1':(List.range 1).map R=[R 0]:=rfl
    have i0:dIx (tbD ((List.range 1).map R)) (.int 0)=.ok (dl (R 0)):=ixL 0 rfl
    have i4:dIx (rl 1 (fun s=>.str (rowT (R s)))) (.int 0)=.ok (.str (rowT (R 0))):=ixL 0 rfl
    have hdl:dList (dl (R 0))=.ok (dl (R 0)):=rfl
    have rt:=QkQ (r:=R 0) (by have:=(hR 0 (by decide)).1;omega) (hR 0 (by decide)).2.1
    refine⟨"Copy",(List.range 1).map R,ot,dk,tb1,?_⟩
    have ec:ctext "Copy" ((List.range 1).map R)=("copy ":Str)++rowT (R 0):=by rw[QI6];rfl
    rw[ec,Qfc]
    unfold Qb4
    refine Q5 (fl:=.rt true (.lst [ck "Copy" ((List.range 1).map R) ot,tbD ((List.range 1).map R),.str (("copy ":Str)++rowT (R 0))])) (r_seq (r_ifF (tst 0 _ rfl) (decide_eq_false h0) QbU) (Ql (r_seq (s3 _ _ rfl (by walk_at "s")) (Ql (r_seq (r_ifF (tst 1 _ rfl) (decide_eq_false h1) QbU) (Ql (r_seq (r_ifT (tst 2 _ rfl) (decide_eq_true h2) (r_set (d:=.int ((1:Nat):Int)) r_C (by walk_at "s"))) (Ql (r_seq (r_set (rows 1 _ (by decide) rfl rfl) (by walk_at "s")) (Ql (r_seq (r_set (texts 1 _ (by decide) rfl rfl) (by walk_at "s")) (Ql (r_seq (dash 1 _ _ (by decide)) (Ql (r_seq (fl:=.rt true (.lst [ck "Copy" ((List.range 1).map R) ot,tbD ((List.range 1).map R),.str (("copy ":Str)++rowT (R 0))])) (r_ifT (tst 2 _ rfl) (decide_eq_true h2) ?_) Qf9))))))))))))))) r_rtT
    exact QcQ (r_lst (Qg (Qie (Qg (r_e1 (r_e2 (r_var rfl) r_C i0) hdl) r_nil) hi) (Qg (r_var rfl) (Qg (r_e2 r_C (r_e2 (r_var rfl) r_C i4) (QbF QKz rt (by decide))) r_nil))) (show 3<=1000 by decide))
   ·have tbn:=tbR n12 b1 b12
    have hi:=QFX (c:="Rows") (dk) tbn
    have hcl:∀ a0 a1 a3 a4:Option (SM×D),eComp [none] (itL (eVar 2)) (gN 0) cTrue Qfy [a0,a1,some (.k,tbD ((List.range n12).map R)),a3,a4]=.ok (tbD ((List.range n12).map R)):=fun a0 a1 a3 a4=>by
     refine QH dl dl rfl (fun x hx=>?_) (by rw[List.length_map,List.length_range];omega)
     refine QN (by walk_at "cap") (by walk_at "s") ?_
     unfold Qfy
     exact r_e1 (r_var rfl) rfl
    have htr:rl n12 (fun s=>D.str (rowT (R s)))=.lst ((((List.range n12).map R).map rowT).map .str):=by
     show D.lst _=D.lst _
     rw[List.map_map,List.map_map];rfl
    have rtx:∀ y∈((List.range n12).map R).map rowT,Tx y 20:=fun y hy=>by
     obtain⟨r,hr,rfl⟩:=List.mem_map.mp hy
     exact QkQ (by have:=tbn.row r hr;omega) (tbn.ent r hr)
    have hj:=QgJ tsl _ rtx (by rw[List.length_map,List.length_map,List.length_range];omega)
    have hjt:=QhA tsl _ rtx
    rw[List.length_map,List.length_map,List.length_range]at hjt
    refine⟨"Rows",(List.range n12).map R,ot,dk,tbn,?_⟩
    rw[QIV,Qfc]
    unfold Qb4
    have hd:=dash n12 none (some (.k,tbD ((List.range n12).map R))) b12
    rw[htr]at hd
    refine Q5 (fl:=.rt true (.lst [ck "Rows" ((List.range n12).map R) ot,tbD ((List.range n12).map R),.str (("rows ":Str)++Txt.join "/" (((List.range n12).map R).map rowT))])) (r_seq (r_ifF (tst 0 _ rfl) (decide_eq_false h0) QbU) (Ql (r_seq (s3 _ _ rfl (by walk_at "s")) (Ql (r_seq (r_ifF (tst 1 _ rfl) (decide_eq_false h1) QbU) (Ql (r_seq (r_ifF (tst 2 _ rfl) (decide_eq_false h2) QbU) (Ql (r_seq (r_set (rows n12 _ b12 rfl rfl) (by walk_at "s")) (Ql (r_seq (r_set (texts n12 _ b12 rfl rfl) (by walk_at "s")) (Ql (r_seq hd (Ql (r_seq (r_ifF (tst 2 _ rfl) (decide_eq_false h2) QbU) (Ql ?_)))))))))))))))) r_rtT
    exact QcQ (r_lst (Qg (Qie (Qg (hcl _ _ _ _) r_nil) hi) (Qg (r_var rfl) (Qg (r_e2 r_C (Qfr r_C (r_var rfl) hj) (QbF QKk hjt (by omega))) r_nil))) (show 3<=1000 by decide))
def inL(c:Nat):Bool := !(Builtin.Str.occurrences ("abcdefghijklmnopqrstuvwxyz":Str) ⟨#[c]⟩ 0 ("abcdefghijklmnopqrstuvwxyz":Str).length 1).isEmpty
theorem compN(z:Str)(hz:z.length<=1000):eComp [none] (itS (eVar 0)) (gN 0) cTrue Qhv [some (.k,.str z)]=.ok (.lst (z.cps.toList.map fun c=>D.bl (inL c))):=by
 unfold eComp
 have h:=Qmn (f:=turnC [none] (gN 0) cTrue Qhv [some (.k,.str z)]) (h:=fun d=>match d with | .str x=>some (.bl (!(Builtin.Str.occurrences ("abcdefghijklmnopqrstuvwxyz":Str) x 0 ("abcdefghijklmnopqrstuvwxyz":Str).length 1).isEmpty)) | _=>none) (xs:=signs z) (by
  intro x hx
  obtain⟨c,_,rfl⟩:=List.mem_map.mp hx
  rfl)
 have e:(signs z).filterMap (fun d=>match d with | .str x=>some (D.bl (!(Builtin.Str.occurrences ("abcdefghijklmnopqrstuvwxyz":Str) x 0 ("abcdefghijklmnopqrstuvwxyz":Str).length 1).isEmpty)) | _=>none)=z.cps.toList.map fun c=>D.bl (inL c):=by
  unfold signs
  rw[List.filterMap_map]
  exact List.filterMap_eq_map' (f:=fun c=>D.bl (inL c)) ▸ rfl
 show(compM _ (signs z)>>=_)=_
 rw[h,e,Out.bind_ok,if_pos (Qei (by rw[List.length_map,QIx];exact hz))]
def nmB(z:Str):Bool:=decide (1<=z.length)&&decide (z.length<=6)&&z.cps.toList.all inL
theorem QI8(z:Str)(hz:z.length<=1000):Qaj [.str z]=.ok (.bl (nmB z)):=by
 rw[QFi]
 unfold QgQ
 have hf:=Qei hz
 unfold nmB
 by_cases h1:1<=z.length
 ·by_cases h2:z.length<=6
  ·have h1':(1:Int)<=(z.length:Int):=by omega
   have h2':(z.length:Int)<=6:=by omega
   simp only[bodyF,retF,sSeq,thenF,sSet,sRet,sIf,sNil,eVar,eC,e1,e2,eA,f1,aNil,aCons,tVal,tAnd',tOr',tNot',eAnd,eOr,eNot,eIf,eTup,eLst,eIsa,isaT,Qbk,oNo,oSome,sPar,sUnp,Qaf,gN,gT,fLen,QbR,Out.bind_ok,Out.bind_exc,Out.bind_stuck,Out.pure_eq,D.scal,QU,Qd5,Qdf,Qe1,QcW,QeQ,QdB,Qeh,QaA,Qeb,List.length_cons,List.length_nil,List.map_cons,List.map_nil,List.cons_append,List.nil_append,List.append_nil,List.getElem?_cons_zero,List.getElem?_cons_succ,List.set_cons_zero,List.set_cons_succ,List.replicate,Nat.reduceAdd,Nat.reduceSub,Nat.reduceLeDiff,Nat.zero_add,Nat.add_zero,reduceIte,Bool.not_true,Bool.not_false,Bool.true_and,Bool.and_true,Bool.false_and,Bool.and_false,Bool.or_true,Bool.true_or,Bool.or_false,Bool.false_or,Bool.false_eq_true,decide_true,decide_false,decide_eq_true_eq,Bool.not_eq_true',decide_eq_false_iff_not,Int.reduceEq,Int.reduceLT,Int.reduceLE,Int.reduceNeg,Nat.reduceEqDiff, ↓reduceIte,not_true_eq_false,not_false_eq_true,QbY,compN z hz,QeY,hf,h1,h2,h1',h2',beq_self_eq_true]
  ·have h1':(1:Int)<=(z.length:Int):=by omega
   have h2':¬ (z.length:Int)<=6:=by omega
   simp only[bodyF,retF,sSeq,thenF,sSet,sRet,sIf,sNil,eVar,eC,e1,e2,eA,f1,aNil,aCons,tVal,tAnd',tOr',tNot',eAnd,eOr,eNot,eIf,eTup,eLst,eIsa,isaT,Qbk,oNo,oSome,sPar,sUnp,Qaf,gN,gT,fLen,QbR,Out.bind_ok,Out.bind_exc,Out.bind_stuck,Out.pure_eq,D.scal,QU,Qd5,Qdf,Qe1,QcW,QeQ,QdB,Qeh,QaA,Qeb,List.length_cons,List.length_nil,List.map_cons,List.map_nil,List.cons_append,List.nil_append,List.append_nil,List.getElem?_cons_zero,List.getElem?_cons_succ,List.set_cons_zero,List.set_cons_succ,List.replicate,Nat.reduceAdd,Nat.reduceSub,Nat.reduceLeDiff,Nat.zero_add,Nat.add_zero,reduceIte,Bool.not_true,Bool.not_false,Bool.true_and,Bool.and_true,Bool.false_and,Bool.and_false,Bool.or_true,Bool.true_or,Bool.or_false,Bool.false_or,Bool.false_eq_true,decide_true,decide_false,decide_eq_true_eq,Bool.not_eq_true',decide_eq_false_iff_not,Int.reduceEq,Int.reduceLT,Int.reduceLE,Int.reduceNeg,Nat.reduceEqDiff, ↓reduceIte,not_true_eq_false,not_false_eq_true,QbY,compN z hz,QeY,hf,h1,h2,h1',h2',beq_self_eq_true]
 ·have h1':¬ (1:Int)<=(z.length:Int):=by omega
  simp only[bodyF,retF,sSeq,thenF,sSet,sRet,sIf,sNil,eVar,eC,e1,e2,eA,f1,aNil,aCons,tVal,tAnd',tOr',tNot',eAnd,eOr,eNot,eIf,eTup,eLst,eIsa,isaT,Qbk,oNo,oSome,sPar,sUnp,Qaf,gN,gT,fLen,QbR,Out.bind_ok,Out.bind_exc,Out.bind_stuck,Out.pure_eq,D.scal,QU,Qd5,Qdf,Qe1,QcW,QeQ,QdB,Qeh,QaA,Qeb,List.length_cons,List.length_nil,List.map_cons,List.map_nil,List.cons_append,List.nil_append,List.append_nil,List.getElem?_cons_zero,List.getElem?_cons_succ,List.set_cons_zero,List.set_cons_succ,List.replicate,Nat.reduceAdd,Nat.reduceSub,Nat.reduceLeDiff,Nat.zero_add,Nat.add_zero,reduceIte,Bool.not_true,Bool.not_false,Bool.true_and,Bool.and_true,Bool.false_and,Bool.and_false,Bool.or_true,Bool.true_or,Bool.or_false,Bool.false_or,Bool.false_eq_true,decide_true,decide_false,decide_eq_true_eq,Bool.not_eq_true',decide_eq_false_iff_not,Int.reduceEq,Int.reduceLT,Int.reduceLE,Int.reduceNeg,Nat.reduceEqDiff, ↓reduceIte,not_true_eq_false,not_false_eq_true,QbY,compN z hz,QeY,hf,h1,h1',beq_self_eq_true]
theorem ltr{i:Nat}(h:i<26):dIx (.str "abcdefghijklmnopqrstuvwxyz") (.int (i:Int))=.ok (.str ⟨#[97+i]⟩):=by
 have e:("abcdefghijklmnopqrstuvwxyz":Str).cps.toList=(List.range 26).map (97 + ·):=dk
 show(if fits ("abcdefghijklmnopqrstuvwxyz":Str).length=true then optO ((atI ("abcdefghijklmnopqrstuvwxyz":Str).cps.toList (i:Int)).map fun c=>D.str ⟨#[c]⟩) else .stuck)=_
 rw[if_pos (dk),e,Qqr (show((List.range 26).map (97 + ·))[i]?=some (97+i) by rw[List.getElem?_map,List.getElem?_range h];rfl)]
 rfl
theorem QqM{i:Nat}(h:i<26):inL (97+i)=true:=by
 have key:∀ a:Fin 26,inL (97+a)=true:=dk
 exact key ⟨i,h⟩
theorem QkU(x y:Str):(x++y).cps.toList=x.cps.toList++y.cps.toList:=by
 show(x.cps++y.cps).toList=_
 rw[Array.toList_append]
theorem Qh3{i:Nat}(h:i<26):Tx (⟨#[97+i]⟩:Str) 1:=by
 refine⟨?_,Nat.le_refl 1⟩
 have key:∀ a:Fin 26,PyData.strOk (⟨#[97+a.1]⟩:Str)=true:=dk
 exact key ⟨i,h⟩
structure Nw(x:Str):Prop where
 nb:nmB x=true
 tx:Tx x 6
theorem Nw.isn{x:Str}(h:Nw x):Qaj [.str x]=.ok (.bl true):=by
 rw[QI8 x (by have:=h.tx.len;omega),h.nb]
theorem Nw.mk'{x:Str}(h1:1<=x.length)(h2:Tx x 6)(h3:x.cps.toList.all inL=true):Nw x:=by
 refine⟨?_,h2⟩
 unfold nmB
 rw[decide_eq_true h1,decide_eq_true h2.len,h3];rfl
def sp(i:Nat):Str:=(⟨#[97+i % 26]⟩:Str)++(⟨#[97+i / 26]⟩:Str)
theorem sp_nw{i:Nat}(h:i<676):Nw (sp i):=by
 have a:i % 26<26:=Nat.mod_lt _ (by decide)
 have b:i / 26<26:=by omega
 refine Nw.mk' (by show 1<=2;decide) (((Qh3 a).app (Qh3 b)).le (by decide)) ?_
 unfold sp
 rw[QkU,List.all_append]
 show([97+i % 26].all inL&&[97+i / 26].all inL)=true
 simp only[List.all_cons,List.all_nil,QqM a,QqM b,Bool.and_true]
theorem QKa{i j:Nat}(e:sp i=sp j):i=j:=by
 have h:(sp i).cps.toList=(sp j).cps.toList:=by rw[e]
 unfold sp at h
 rw[QkU,QkU]at h
 have h:[97+i % 26,97+i / 26]=[97+j % 26,97+j / 26]:=h
 have h1:=(List.cons.inj h).1
 have h2:=(List.cons.inj (List.cons.inj h).2).1
 omega
theorem QGS(i:Nat):sp i≠"nobody":=fun e=>by
 have h:(sp i).length=("nobody":Str).length:=by rw[e]
 have h1:(sp i).length=2:=rfl
 have h2:("nobody":Str).length=6:=dk
 omega
theorem least{P:Nat->Prop}(n:Nat)(h:P n):∃ m,m<=n/\P m/\∀ i,i<m->¬ P i:=by
 induction n using Nat.strongRecOn with
 | _ n ih=>
  by_cases q:∃ i,i<n/\P i
  ·obtain⟨i,hi,pi⟩:=q
   obtain⟨m,a,b,c⟩:=ih i hi pi
   exact⟨m,by omega,b,c⟩
  ·exact⟨n,Nat.le_refl n,h,fun i hi pi=>q ⟨i,hi,pi⟩⟩
theorem QBT:∀(l U:List Str),l.Nodup->(∀ x∈l,x∈U)->l.length<=U.length
 | [],_,_,_=>Nat.zero_le _
 | x::l,U,nd,h=>by
  have nd:=List.nodup_cons.mp nd
  have hx:=h x (List.mem_cons_self ..)
  have:=QBT l (U.erase x) nd.2 fun y hy=>(List.mem_erase_of_ne (fun e=>nd.1 (by rw[← e];exact hy))).mpr (h y (List.mem_cons_of_mem _ hy))
  rw[List.length_erase_of_mem hx]at this
  have hp:0<U.length:=List.length_pos_of_mem hx
  rw[List.length_cons];omega
theorem QG7{U:List Str}(hU:U.length<=100):∃ N,N<=100/\sp N∉U/\∀ i,i<N->sp i∈U:=by
 have:∃ n,n<=100/\sp n∉U:=by
  apply Classical.byContradiction
  intro q
  have hall:∀ n,n<=100->sp n∈U:=fun n hn=>Classical.byContradiction fun w=>q ⟨n,hn,w⟩
  have hs:=QBT ((List.range 101).map sp) U (by
   rw[List.nodup_iff_pairwise_ne]
   refine List.Pairwise.map _ (fun a b (hab:a≠b) e=>hab (QKa e)) (List.nodup_range)) (fun x hx=>by
   obtain⟨n,hn,rfl⟩:=List.mem_map.mp hx
   exact hall n (by have:=List.mem_range.mp hn;omega))
  rw[List.length_map,List.length_range]at hs
  omega
 obtain⟨n,hn,h⟩:=this
 obtain⟨m,hm,pm,lm⟩:=least (P:=fun i=>sp i∉U) n h
 exact⟨m,by omega,pm,fun i hi=>Classical.byContradiction (lm i hi)⟩
theorem QCh(y:Str)(U:List Str):dInL (.str y) (.lst (U.map .str))=.ok (.bl (decide (y∈U))):=by
 have hsc:(U.map D.str).all D.scal=true:=by rw[List.all_eq_true];intro d hd;obtain⟨u,_,rfl⟩:=List.mem_map.mp hd;rfl
 show(if ((D.str y).scal&&(U.map D.str).all D.scal)=true then Out.ok (D.bl (inV (toV (.str y)) ((U.map D.str).map toV))) else _)=_
 rw[hsc,if_pos (show((D.str y).scal&&true)=true from rfl)]
 refine congrArg (fun b=>Out.ok (D.bl b)) ?_
 unfold inV
 rw[List.map_map,List.any_map]
 rw[Bool.eq_iff_iff,List.any_eq_true,decide_eq_true_eq]
 constructor
 ·rintro ⟨u,hu,e⟩
  have e:(u == y)=true:=e
  rw[← eq_of_beq e];exact hu
 ·intro h
  exact⟨y,h,by show(y == y)=true;exact beq_self_eq_true y⟩
theorem Qox(y:Str)(U:List Str):Qf6 (.str y) (.lst (U.map .str))=.ok (.bl (!decide (y∈U))):=by
 have h:=QCh y U
 have hsc:(U.map D.str).all D.scal=true:=by rw[List.all_eq_true];intro d hd;obtain⟨u,_,rfl⟩:=List.mem_map.mp hd;rfl
 have h:(if ((D.str y).scal&&(U.map D.str).all D.scal)=true then Out.ok (D.bl (inV (toV (.str y)) ((U.map D.str).map toV))) else .stuck)=Out.ok (.bl (decide (y∈U))):=h
 rw[hsc,if_pos (show((D.str y).scal&&true)=true from rfl)]at h
 show(if ((D.str y).scal&&(U.map D.str).all D.scal)=true then Out.ok (D.bl (!inV (toV (.str y)) ((U.map D.str).map toV))) else _)=_
 rw[hsc,if_pos (show((D.str y).scal&&true)=true from rfl)]
 have h:inV (toV (.str y)) ((U.map D.str).map toV)=decide (y∈U):=by injection h with h;injection h
 rw[h]
section
variable{d0 w3:D}{U:List Str}{a5 a6:Option (SM×D)}
def nst(d0:D)(U:List Str)(w3:D)(y:Str)(a5 a6:Option (SM×D))(s:Nat):SD:=[some (.k,d0),some (.k,.lst (U.map .str)),some (.k,.str "abcdefghijklmnopqrstuvwxyz"),some (.k,w3),some (.k,.str y),a5,a6,some (.k,.int (s:Int))]
theorem QGL{y:Str}(hy:PyData.strOk y=true)(s:Nat):Qbd (nst d0 U w3 y a5 a6 s)=.ok (decide (y∈U)||(y == "nobody")):=by
 unfold Qbd nst
 refine r_or' (QaK (r_e2 (r_var rfl) (r_var rfl) (QCh y U))) ?_
 by_cases h:y∈U
 ·rw[decide_eq_true h];rfl
 ·rw[decide_eq_false h,Bool.false_or]
  exact Qj9 rfl (QaK (r_e2 (r_var rfl) r_C (QBZ hy (dk))))
theorem QJH{y:Str}{s:Nat}(hs:s<676):Qbc (nst d0 U w3 y a5 a6 s)=.ok (.nx (nst d0 U w3 (sp s) a5 a6 (s+1))):=by
 have a:s % 26<26:=Nat.mod_lt _ (by decide)
 have b:s / 26<26:=by omega
 have m1:dMod (.int (s:Int)) (.int 26)=.ok (.int ((s % 26:Nat):Int)):=by rw[Qad (by decide)];rfl
 have m2:dFdiv (.int (s:Int)) (.int 26)=.ok (.int ((s / 26:Nat):Int)):=by rw[QbX (by decide) (by decide)];rfl
 have ha:=QbF (Qh3 a) (Qh3 b) (by decide)
 have e:(s:Int)+1=((s+1:Nat):Int):=by omega
 unfold Qbc nst
 rw[← e]
 exact r_seq (r_set (r_e2 (r_e2 (r_var rfl) (r_e2 (r_var rfl) r_C m1) (ltr a)) (r_e2 (r_var rfl) (r_e2 (r_var rfl) r_C m2) (ltr b)) ha) (by walk_at "s")) (Ql (r_set (r_e2 (r_var rfl) r_C (QU _ _)) (by walk_at "s")))
theorem Qvv{y:Str}(hy:PyData.strOk y=true){s:Nat}(hs:s<676)(h:(decide (y∈U)||(y == "nobody"))=true):QaN Qbd Qbc (nst d0 U w3 y a5 a6 s)=QaN Qbd Qbc (nst d0 U w3 (sp s) a5 a6 (s+1)):=by
 rw[Qid,QGL hy,h,Out.bind_ok,if_pos rfl,QJH hs];rfl
theorem QFr{y:Str}(hy:PyData.strOk y=true){s:Nat}(h:(decide (y∈U)||(y == "nobody"))=false):QaN Qbd Qbc (nst d0 U w3 y a5 a6 s)=.ok (.nx (nst d0 U w3 y a5 a6 s)):=by
 rw[Qid,QGL hy,h,Out.bind_ok];rfl
theorem n_run{N:Nat}(hN:N<=100)(hn:sp N∉U)(hl:∀ i,i<N->sp i∈U):∀(d s:Nat)(y:Str),N=s+d->PyData.strOk y=true->(decide (y∈U)||(y == "nobody"))=true->QaN Qbd Qbc (nst d0 U w3 y a5 a6 s)=.ok (.nx (nst d0 U w3 (sp N) a5 a6 (N+1)))
 | 0,s,y,e,hy,h=>by
  have e:N=s:=e
  subst e
  rw[Qvv hy (by omega) h]
  refine QFr (sp_nw (by omega)).tx.ok ?_
  rw[decide_eq_false hn,Bool.false_or]
  exact beq_eq_false_iff_ne.mpr (QGS N)
 | d+1,s,y,e,hy,h=>by
  rw[Qvv hy (by omega) h]
  exact n_run hN hn hl d (s+1) (sp s) (by omega) (sp_nw (by omega)).tx.ok (by rw[decide_eq_true (hl s (by omega))];rfl)
theorem n_end{y:Str}(hy:Nw y)(hU:U.length<=100):∃(x:Str)(s:Nat),Nw x/\x∉U/\QaN Qbd Qbc (nst d0 U w3 y a5 a6 0)=.ok (.nx (nst d0 U w3 x a5 a6 s)):=by
 cases h:(decide (y∈U)||(y == "nobody")) with
 | false=>
  rw[Bool.or_eq_false_iff]at h
  exact⟨y,0,hy,of_decide_eq_false h.1,QFr hy.tx.ok (by rw[h.1,h.2];rfl)⟩
 | true=>
  obtain⟨N,hN,hn,hl⟩:=QG7 hU
  exact⟨sp N,N+1,sp_nw (by omega),hn,n_run hN hn hl N 0 y (by omega) hy.tx.ok h⟩
end
theorem word8(v:Int):∃ x:Str,Nw x/\dIx (.lst [.str "to",.str "at",.str "door",.str "entry",.str "clerk",.str "bundle",.str "copy",.str "a"]) (.int (v % 8))=.ok (.str x):=by
 have w:∀ x:Str,x∈([("to":Str),"at","door","entry","clerk","bundle","copy","a"])->Nw x:=by
  intro x hx
  simp only[List.mem_cons,List.not_mem_nil,or_false]at hx
  rcases hx with rfl | rfl | rfl | rfl | rfl | rfl | rfl | rfl<;>exact⟨dk,dk,dk⟩
 rcases(by omega:v % 8=0∨v % 8=1∨v % 8=2∨v % 8=3∨v % 8=4∨v % 8=5∨v % 8=6∨v % 8=7) with e | e | e | e | e | e | e | e<;>rw[e]
 ·exact⟨"to",w _ (by simp),rfl⟩
 ·exact⟨"at",w _ (by simp),rfl⟩
 ·exact⟨"door",w _ (by simp),rfl⟩
 ·exact⟨"entry",w _ (by simp),rfl⟩
 ·exact⟨"clerk",w _ (by simp),rfl⟩
 ·exact⟨"bundle",w _ (by simp),rfl⟩
 ·exact⟨"copy",w _ (by simp),rfl⟩
 ·exact⟨"a",w _ (by simp),rfl⟩
theorem QpV{h:Nat->Int}(hh:Dg 3 h){U:List Str}(hU:U.length<=100):∃ x:Str,Nw x/\x∉U/\Qa7 [rl 3 (fun i=>.int (h i)),.lst (U.map .str)]=.ok (.str x):=by
 have x0:dIx (rl 3 (fun i=>.int (h i))) (.int 0)=.ok (.int (h 0)):=dg_ix (M:=3) (i:=0) (by decide)
 have x1:dIx (rl 3 (fun i=>.int (h i))) (.int 1)=.ok (.int (h 1)):=dg_ix (M:=3) (i:=1) (by decide)
 have x2:dIx (rl 3 (fun i=>.int (h i))) (.int 2)=.ok (.int (h 2)):=dg_ix (M:=3) (i:=2) (by decide)
 have h6:dPow (.int 10) (.int 6)=.ok (.int 1000000):=by rw[QBQ (by decide)];rfl
 have m6:dMod (.int (h 0)) (.int 6)=.ok (.int (h 0 % 6)):=Qad (by decide)
 have d6:dFdiv (.int (h 0)) (.int 6)=.ok (.int (h 0 / 6)):=QbX (by decide) (by decide)
 have d48:dFdiv (.int (h 0)) (.int 48)=.ok (.int (h 0 / 48)):=QbX (by decide) (by decide)
 have m8:∀ v:Int,dMod (.int v) (.int 8)=.ok (.int (v % 8)):=fun v=>Qad (by decide)
 obtain⟨L,hL,L1,L6⟩:∃ n:Nat,1+h 0 % 6=(n:Int)/\1<=n/\n<=6:=⟨(1+h 0 % 6).toNat,by omega,by omega,by omega⟩
 have b2:bitsI (h 2)<=20:=by
  obtain⟨a,b⟩:=hh 2 (by decide)
  exact Qec (by omega)
 have mu:dMul (.int 1000000) (.int (h 2))=.ok (.int (1000000 * h 2)):=r_mul (m:=20) (n:=20) (by decide) b2 rfl
 have aL:dAdd (.int 1) (.int (h 0 % 6))=.ok (.int (L:Int)):=by rw[QU,hL]
 obtain⟨z,w8,hw8⟩:=word8 (h 0 / 48)
 generalize hG:rl 3 (fun i=>D.int (h i))=Gd at *
 generalize hW:D.lst [.str "to",.str "at",.str "door",.str "entry",.str "clerk",.str "bundle",.str "copy",.str "a"]=W at *
 generalize hUd:D.lst (U.map D.str)=Ud
 obtain⟨ς',hLp,x,v,a6,rfl,hx,hxl,hxa⟩:=Qb6 (body:=fun x ς=>gN 6 x ς>>=fun ς'=>QeI ς') (n:=L)
  (P:=fun k ς=>∃(x:Str)(v:Int)(a6:Option (SM×D)),ς=[some (.k,Gd),some (.k,Ud),some (.k,.str "abcdefghijklmnopqrstuvwxyz"),some (.k,W),some (.k,.str x),some (.k,.int v),a6,none]/\Tx x k/\x.length=k/\x.cps.toList.all inL=true)
  (by
   rintro k hk ς ⟨x,v,a6,rfl,hx,hxl,hxa⟩
   obtain⟨i,hi,i26⟩:∃ i:Nat,v % 26=(i:Int)/\i<26:=⟨(v % 26).toNat,by omega,by omega⟩
   have mv:dMod (.int v) (.int 26)=.ok (.int (i:Int)):=by rw[Qad (by decide),hi]
   have dv:dFdiv (.int v) (.int 26)=.ok (.int (v / 26)):=QbX (by decide) (by decide)
   refine⟨[some (.k,Gd),some (.k,Ud),some (.k,.str "abcdefghijklmnopqrstuvwxyz"),some (.k,W),some (.k,.str (x++⟨#[97+i]⟩)),some (.k,.int (v / 26)),some (.k,.int (k:Int)),none],?_,_,_,_,rfl,hx.app (Qh3 i26),by rw[QCb,hxl];rfl,?_⟩
   ·refine r_gN (by walk_at "s") ?_
    unfold QeI
    exact r_seq (r_set (r_e2 (r_var rfl) (r_e2 (r_var rfl) (r_e2 (r_var rfl) r_C mv) (ltr i26)) (QbF hx (Qh3 i26) (by omega))) (by walk_at "s")) (Ql (r_set (r_e2 (r_var rfl) r_C dv) (by walk_at "s")))
   ·rw[QkU,List.all_append,hxa]
    show(true&&[97+i].all inL)=true
    simp only[List.all_cons,List.all_nil,QqM i26,Bool.and_true])
  [some (.k,Gd),some (.k,Ud),some (.k,.str "abcdefghijklmnopqrstuvwxyz"),some (.k,W),some (.k,.str ""),some (.k,.int (h 1+1000000 * h 2)),none,none] ⟨"",_,_,rfl,⟨dk,dk⟩,dk,dk⟩
 have hR:itR1 (e2 dAdd (eC (.int 1)) (e2 dMod (e2 dIx (eVar 0) (eC (.int 0))) (eC (.int 6)))) [some (.k,Gd),some (.k,Ud),some (.k,.str "abcdefghijklmnopqrstuvwxyz"),some (.k,W),some (.k,.str ""),some (.k,.int (h 1+1000000 * h 2)),none,none]=.ok (Qbb 0 L):=Qbe L (r_e2 r_C (r_e2 (r_e2 (r_var rfl) r_C x0) r_C m6) aL) (by omega)
 have hfor:=QbK (g:=gN 6) (T:=QeI) hR hLp
 have nx:Nw x:=Nw.mk' (by omega) (hx.le L6) hxa
 obtain⟨y,ny,hif⟩:∃ y:Str,Nw y/\sIf (tVal (e2 dEq (e2 dMod (e2 dFdiv (e2 dIx (eVar 0) (eC (.int 0))) (eC (.int 6))) (eC (.int 8))) (eC (.int 3)))) (sSet 4 (e2 dIx (eVar 3) (e2 dMod (e2 dFdiv (e2 dIx (eVar 0) (eC (.int 0))) (eC (.int 48))) (eC (.int 8))))) sNil [some (.k,Gd),some (.k,Ud),some (.k,.str "abcdefghijklmnopqrstuvwxyz"),some (.k,W),some (.k,.str x),some (.k,.int v),a6,none]=.ok (.nx [some (.k,Gd),some (.k,Ud),some (.k,.str "abcdefghijklmnopqrstuvwxyz"),some (.k,W),some (.k,.str y),some (.k,.int v),a6,none]):=by
  by_cases q:h 0 / 6 % 8=3
  ·exact⟨z,w8,r_ifT (QaK (r_e2 (r_e2 (r_e2 (r_e2 (r_var rfl) r_C x0) r_C d6) r_C (m8 _)) r_C (QaA _ _))) (decide_eq_true q) (r_set (r_e2 (r_var rfl) (r_e2 (r_e2 (r_e2 (r_var rfl) r_C x0) r_C d48) r_C (m8 _)) hw8) (by walk_at "s"))⟩
  ·exact⟨x,nx,r_ifF (QaK (r_e2 (r_e2 (r_e2 (r_e2 (r_var rfl) r_C x0) r_C d6) r_C (m8 _)) r_C (QaA _ _))) (decide_eq_false q) QbU⟩
 obtain⟨r,s,nr,hr,hwh⟩:=n_end (d0:=Gd) (w3:=W) (U:=U) (a5:=some (.k,.int v)) (a6:=a6) ny hU
 unfold nst at hwh
 rw[hUd]at hwh
 refine⟨r,nr,hr,?_⟩
 rw[QEz]
 unfold QfS
 refine Q5 (fl:=.rt false (.str r)) ?_ r_rt
 refine r_seq (r_set r_C (by walk_at "s")) (Ql (r_seq (r_set (d:=W) (by rw[← hW];exact r_lst (Qg r_C (Qg r_C (Qg r_C (Qg r_C (Qg r_C (Qg r_C (Qg r_C (Qg r_C r_nil)))))))) (show 8<=1000 by decide)) (by walk_at "s")) (Ql (r_seq (r_set r_C (by walk_at "s")) (Ql (r_seq (r_set (r_e2 (r_e2 (r_var rfl) r_C x1) (r_e2 (r_e2 r_C r_C h6) (r_e2 (r_var rfl) r_C x2) mu) (QU _ _)) (by walk_at "s")) (Ql (r_seq hfor (Ql (r_seq hif (Ql (r_seq (r_set (d:=.int ((0:Nat):Int)) r_C (by walk_at "s")) (Ql (r_seq hwh (Ql (r_ret (r_var rfl)))))))))))))))))
theorem QF1{lo N M:Nat}(h:lo+N<=M)(f:Nat->D):cutD ((List.range M).map f) (some (lo:Int)) (some ((lo+N:Nat):Int))=(List.range N).map fun i=>f (lo+i):=by
 rw[QGd,show lo+N - lo=N by omega]
 apply List.ext_getElem?
 intro i
 by_cases hi:i<N
 ·rw[List.getElem?_take_of_lt hi,List.getElem?_drop,List.getElem?_map,List.getElem?_map,List.getElem?_range hi,List.getElem?_range (by omega)];rfl
 ·rw[List.getElem?_eq_none (by rw[List.length_take];omega),List.getElem?_eq_none (by rw[List.length_map,List.length_range];omega)]
structure Ns(U:List Str):Prop where
 nd:U.Nodup
 nw:∀ x∈U,Nw x
theorem Ns.snoc{U:List Str}(h:Ns U){x:Str}(hx:Nw x)(hn:x∉U):Ns (U++[x]):=by
 refine⟨?_,fun y hy=>?_⟩
 ·rw[List.nodup_append]
  exact⟨h.nd,by simp,fun a ha b hb e=>by rw[List.mem_singleton.mp hb]at e;exact hn (e ▸ ha)⟩
 ·rcases List.mem_append.mp hy with hy | hy
  ·exact h.nw y hy
  ·rw[List.mem_singleton.mp hy];exact hx
theorem QmT(U:List Str)(x:Str):U.map D.str++[.str x]=(U++[x]).map .str:=by rw[List.map_append];rfl
theorem sl3{M lo:Nat}{g:Nat->Int}(hg:Dg M g)(h:lo+3<=M):Dg 3 (fun i=>g (lo+i)):=fun i hi=>hg _ (by omega)
theorem QH2(ns:List Int){M:Nat}(hM:1<=M)(hM2:M<=60):∃ cs:List Int,1<=cs.length/\cs.length<=M/\∀ ς:SD,ς[0]?=some (some (.k,.lst (ns.map D.int)))->ς[1]?=some (some (.k,.int (M:Int)))->e2 dCat (eSl (eVar 0) (oSome (eC (.int 2))) (oSome (e2 dAdd (eC (.int 2)) (eVar 1)))) (e2 dRep (eLst (aCons (eC (.int 1)) aNil)) (eA (f1 dInt) (aCons (e2 dLt (eA fLen (aCons (eVar 0) aNil)) (eC (.int 3))) aNil))) ς=.ok (.lst (cs.map D.int)):=by
 have hlen:fLen [.lst (ns.map D.int)]=.ok (.int (ns.length:Int)):=by simp[fLen]
 have hsl:∀ ς:SD,ς[0]?=some (some (.k,.lst (ns.map D.int)))->ς[1]?=some (some (.k,.int (M:Int)))->eSl (eVar 0) (oSome (eC (.int 2))) (oSome (e2 dAdd (eC (.int 2)) (eVar 1))) ς=.ok (.lst (((ns.drop 2).take M).map D.int)):=fun ς h0 h1=>by
  refine r_sl (xs:=ns.map D.int) (p:=some ((2:Nat):Int)) (q:=some ((2+M:Nat):Int)) (r_var h0) rfl (by rw[show((2+M:Nat):Int)=2+(M:Int) by omega];exact Qf8 (r_e2 r_C (r_var h1) (QU _ _))) ?_
  rw[QGd,List.map_take,List.map_drop,show 2+M - 2=M by omega]
 have hd:=dbl (decide ((ns.length:Int)<3))
 by_cases h:ns.length<3
 ·have hr:dRep (.lst [.int 1]) (.int 1)=.ok (rl 1 (fun _=>.int 1)):=QwL (N:=1) (by decide)
  rw[decide_eq_true (show(ns.length:Int)<3 by omega)]at hd
  have hd:f1 dInt [.bl true]=.ok (.int 1):=hd
  have hdr:ns.drop 2=[]:=List.drop_eq_nil_of_le (by omega)
  have hL:dLt (.int (ns.length:Int)) (.int 3)=.ok (.bl true):=by rw[QcW,decide_eq_true (by omega)]
  have hcat:dCat (.lst (((ns.drop 2).take M).map D.int)) (rl 1 (fun _=>.int 1))=.ok (.lst ([1].map D.int)):=by
   rw[hdr];cases M<;>rfl
  exact⟨[1],show 1<=1 by decide,hM,fun ς h0 h1=>r_e2 (hsl ς h0 h1) (r_e2 (r_lst (Qg r_C r_nil) (show 1<=1000 by decide)) (r_eA (Qg (r_e2 (r_eA (Qg (r_var h0) r_nil) hlen) r_C hL) r_nil) hd) hr) hcat⟩
 ·have hr:dRep (.lst [.int 1]) (.int 0)=.ok (rl 0 (fun _=>.int 1)):=QwL (N:=0) (by decide)
  rw[decide_eq_false (show ¬ (ns.length:Int)<3 by omega)]at hd
  have hd:f1 dInt [.bl false]=.ok (.int 0):=hd
  have hL:dLt (.int (ns.length:Int)) (.int 3)=.ok (.bl false):=by rw[QcW,decide_eq_false (by omega)]
  have hcat:dCat (.lst (((ns.drop 2).take M).map D.int)) (rl 0 (fun _=>.int 1))=.ok (.lst (((ns.drop 2).take M).map D.int)):=by
   show dCat (.lst _) (.lst [])=_
   rw[QeW (by rw[List.length_map,List.length_take];show min M _+0<=1000;omega),List.append_nil]
  exact⟨(ns.drop 2).take M,by rw[List.length_take,List.length_drop];omega,by rw[List.length_take];omega,fun ς h0 h1=>r_e2 (hsl ς h0 h1) (r_e2 (r_lst (Qg r_C r_nil) (show 1<=1000 by decide)) (r_eA (Qg (r_e2 (r_eA (Qg (r_var h0) r_nil) hlen) r_C hL) r_nil) hd) hr) hcat⟩
theorem QHw{g:Nat->Int}(hg:Dg 31 g){A:List Str}(hA:Ns A)(A1:1<=A.length)(A2:A.length<=66){n:Nat}(n1:1<=n):∃(ne:Nat)(en:Nat->Str)(ek:Nat->Nat),1<=ne/\ne<=6/\(∀ j,j<ne->Nw (en j))/\(∀ i j,i<ne->j<ne->en i=en j->i=j)/\(∀ j,j<ne->ek j<n)/\
 QbE [rl 31 (fun i=>.int (g i)),.lst (A.map .str),.int (n:Int)]=.ok (rl ne (fun j=>.tup [.str (en j),.int ((ek j:Nat):Int)])):=by
 have x0:dIx (rl 31 (fun i=>.int (g i))) (.int 0)=.ok (.int (g 0)):=dg_ix (M:=31) (i:=0) (by decide)
 have m6:dMod (.int (g 0)) (.int 6)=.ok (.int (g 0 % 6)):=Qad (by decide)
 obtain⟨ne,hne,e1',e6⟩:∃ n:Nat,1+g 0 % 6=(n:Int)/\1<=n/\n<=6:=⟨(1+g 0 % 6).toNat,by omega,by omega,by omega⟩
 have aL:dAdd (.int 1) (.int (g 0 % 6))=.ok (.int (ne:Int)):=by rw[QU,hne]
 have hlA:fLen [.lst (A.map D.str)]=.ok (.int (A.length:Int)):=by simp[fLen]
 have xj:∀(a j:Nat),a<=5->j<6->dIx (rl 31 (fun i=>.int (g i))) (.int ((a:Int)+5 * (j:Int)))=.ok (.int (g (a+5 * j))):=fun a j ha hj=>by
  rw[show(a:Int)+5 * (j:Int)=((a+5 * j:Nat):Int) by omega]
  exact dg_ix (by omega)
 have mu:∀ j:Nat,j<6->dMul (.int 5) (.int (j:Int))=.ok (.int (5 * (j:Int))):=fun j hj=>r_mul (m:=3) (n:=3) (by decide) (Qec (show((j:Int)).natAbs<2 ^ 3 by omega)) rfl
 have hslc:∀(j:Nat)(ς:SD),j<6->ς[0]?=some (some (.k,rl 31 (fun i=>.int (g i))))->ς[5]?=some (some (.k,.int (j:Int)))->eSl (eVar 0) (oSome (e2 dAdd (eC (.int 1)) (e2 dMul (eC (.int 5)) (eVar 5)))) (oSome (e2 dAdd (eC (.int 4)) (e2 dMul (eC (.int 5)) (eVar 5)))) ς=.ok (rl 3 (fun i=>.int (g (1+5 * j+i)))):=fun j ς hj h0 h5=>
  r_sl (xs:=(List.range 31).map fun i=>D.int (g i)) (p:=some ((1+5 * j:Nat):Int)) (q:=some ((1+5 * j+3:Nat):Int)) (r_var h0) (by rw[show((1+5 * j:Nat):Int)=1+5 * (j:Int) by omega];exact Qf8 (r_e2 r_C (r_e2 r_C (r_var h5) (mu j hj)) (QU _ _))) (by rw[show((1+5 * j+3:Nat):Int)=4+5 * (j:Int) by omega];exact Qf8 (r_e2 r_C (r_e2 r_C (r_var h5) (mu j hj)) (QU _ _))) (QF1 (by omega) _)
 generalize hGd:rl 31 (fun i=>D.int (g i))=Gd at *
 obtain⟨ς',hL,U,ek,a5,a6,a7,rfl,hU,hUl,hek⟩:=Qb6 (body:=fun x ς=>gN 5 x ς>>=fun ς'=>Qdv ς') (n:=ne)
  (P:=fun k ς=>∃(U:List Str)(ek:Nat->Nat)(a5 a6 a7:Option (SM×D)),ς=[some (.k,Gd),some (.k,.lst (A.map .str)),some (.k,.int (n:Int)),some (.o,.lst (U.map .str)),some (.o,rl k (fun j=>.tup [.str (U.getD j Str.empty),.int ((ek j:Nat):Int)])),a5,a6,a7]/\Ns U/\U.length=k/\∀ j,j<k->ek j<n)
  (by
   rintro k hk ς ⟨U,ek,a5,a6,a7,rfl,hU,hUl,hek⟩
   have k6:k<6:=by omega
   obtain⟨x,nx,hx,hnm⟩:=QpV (sl3 hg (lo:=1+5 * k) (by omega)) (U:=U) (by omega)
   have x4:=xj 4 k (by decide) k6
   have x5:=xj 5 k (by decide) k6
   obtain⟨i,hi,iA⟩:∃ i:Nat,g (4+5 * k) / 3 % (A.length:Int)=(i:Int)/\i<A.length:=by
    have a:=Int.emod_nonneg (g (4+5 * k) / 3) (b:=(A.length:Int)) (by omega)
    have b:=Int.emod_lt_of_pos (g (4+5 * k) / 3) (b:=(A.length:Int)) (by omega)
    exact⟨(g (4+5 * k) / 3 % (A.length:Int)).toNat,by omega,by omega⟩
   obtain⟨e,he,en1⟩:∃ e:Nat,g (5+5 * k) % (n:Int)=(e:Int)/\e<n:=by
    have a:=Int.emod_nonneg (g (5+5 * k)) (b:=(n:Int)) (by omega)
    have b:=Int.emod_lt_of_pos (g (5+5 * k)) (b:=(n:Int)) (by omega)
    exact⟨(g (5+5 * k) % (n:Int)).toNat,by omega,by omega⟩
   have d3:dFdiv (.int (g (4+5 * k))) (.int 3)=.ok (.int (g (4+5 * k) / 3)):=QbX (by decide) (by decide)
   have mA:dMod (.int (g (4+5 * k) / 3)) (.int (A.length:Int))=.ok (.int (i:Int)):=by rw[Qad (by omega),hi]
   have ixA:dIx (.lst (A.map D.str)) (.int (i:Int))=.ok (.str A[i]):=ixL i (by rw[List.getElem?_map,List.getElem?_eq_getElem iA];rfl)
   have m3:dMod (.int (g (4+5 * k))) (.int 3)=.ok (.int (g (4+5 * k) % 3)):=Qad (by decide)
   have mn:dMod (.int (g (5+5 * k))) (.int (n:Int))=.ok (.int (e:Int)):=by rw[Qad (by omega),he]
   have nA:Nw A[i]:=hA.nw _ (List.getElem_mem iA)
   generalize A[i]=oth at *
   -- the name that is taken
   obtain⟨y,ny,hy,hif⟩:∃ y:Str,Nw y/\y∉U/\∀ a4:Option (SM×D),sIf (tAnd' (tVal (e2 dGt (e2 dMod (e2 dIx (eVar 0) (e2 dAdd (eC (.int 4)) (e2 dMul (eC (.int 5)) (eVar 5)))) (eC (.int 3))) (eC (.int 0)))) (tVal (e2 Qf6 (eVar 7) (eVarB 3)))) (sSet 6 (eVar 7)) sNil [some (.k,Gd),some (.k,.lst (A.map .str)),some (.k,.int (n:Int)),some (.o,.lst (U.map .str)),a4,some (.k,.int (k:Int)),some (.k,.str x),some (.k,.str oth)]=.ok (.nx [some (.k,Gd),some (.k,.lst (A.map .str)),some (.k,.int (n:Int)),some (.o,.lst (U.map .str)),a4,some (.k,.int (k:Int)),some (.k,.str y),some (.k,.str oth)]):=by
    by_cases q:0<g (4+5 * k) % 3/\oth∉U
    ·refine⟨oth,nA,q.2,fun a4=>r_ifT (b:=true) (Qvp (QaK (r_e2 (r_e2 (r_e2 (r_var rfl) (r_e2 r_C (r_e2 r_C (r_var rfl) (mu k k6)) (QU _ _)) x4) r_C m3) r_C (QdB _ _))) ?_) rfl (r_set (r_var rfl) (by walk_at "s"))⟩
     rw[decide_eq_true q.1]
     refine Qfv rfl ?_
     rw[QaK (r_e2 (r_var rfl) (QdT rfl) (Qox oth U)),decide_eq_false q.2];rfl
    ·refine⟨x,nx,hx,fun a4=>r_ifF (b:=false) (Qvp (QaK (r_e2 (r_e2 (r_e2 (r_var rfl) (r_e2 r_C (r_e2 r_C (r_var rfl) (mu k k6)) (QU _ _)) x4) r_C m3) r_C (QdB _ _))) ?_) rfl QbU⟩
     by_cases q1:0<g (4+5 * k) % 3
     ·rw[decide_eq_true q1]
      refine Qfv rfl ?_
      rw[QaK (r_e2 (r_var rfl) (QdT rfl) (Qox oth U)),decide_eq_true (Classical.byContradiction fun w=>q ⟨q1,w⟩)];rfl
     ·rw[decide_eq_false q1];rfl
   have hle:(U.map D.str).length<=1000:=by rw[List.length_map];omega
   have hle2:((List.range k).map fun j=>D.tup [.str (U.getD j Str.empty),.int ((ek j:Nat):Int)]).length<=1000:=by rw[List.length_map,List.length_range];omega
   have ex:(List.range k).map (fun j=>D.tup [.str (U.getD j Str.empty),.int ((ek j:Nat):Int)])++[.tup [.str y,.int (e:Int)]]=(List.range (k+1)).map (fun j=>D.tup [.str ((U++[y]).getD j Str.empty),.int (((if j<k then ek j else e):Nat):Int)]):=by
    rw[QGA]
    refine List.map_congr_left fun j hj=>?_
    have hj:=List.mem_range.mp hj
    by_cases q:j<k
    ·rw[if_pos q,if_pos q,List.getD_eq_getElem?_getD,List.getD_eq_getElem?_getD,List.getElem?_append_left (by omega)]
    ·have ej:j=U.length:=by omega
     rw[if_neg q,if_neg q,List.getD_eq_getElem?_getD,ej,List.getElem?_append_right (Nat.le_refl _),Nat.sub_self];rfl
   refine⟨[some (.k,Gd),some (.k,.lst (A.map .str)),some (.k,.int (n:Int)),some (.o,.lst ((U++[y]).map .str)),some (.o,rl (k+1) (fun j=>.tup [.str ((U++[y]).getD j Str.empty),.int (((if j<k then ek j else e):Nat):Int)])),some (.k,.int (k:Int)),some (.k,.str y),some (.k,.str oth)],?_,U++[y],fun j=>if j<k then ek j else e,_,_,_,rfl,hU.snoc ny hy,by rw[List.length_append,hUl];rfl,fun j hj=>?_⟩
   ·refine r_gN (by walk_at "s") ?_
    unfold Qdv
    refine r_seq (r_set (Qio (Qax (xs:=[rl 3 (fun i=>.int (g (1+5 * k+i))),.lst (U.map .str)]) (Qg (hslc k _ k6 rfl rfl) (Qg (QdT rfl) r_nil)) rfl hnm) rfl) (by walk_at "s")) (Ql ?_)
    refine r_seq (r_set (r_e2 (r_var rfl) (r_e2 (r_e2 (r_e2 (r_var rfl) (r_e2 r_C (r_e2 r_C (r_var rfl) (mu k k6)) (QU _ _)) x4) r_C d3) (r_eA (Qg (r_var rfl) r_nil) hlA) mA) ixA) (by walk_at "s")) (Ql ?_)
    refine r_seq (hif _) (Ql ?_)
    refine r_seq (r_app (xs:=U.map .str) rfl (r_var rfl) hle (by rw[QmT];walk_at "s")) (Ql ?_)
    exact r_app (xs:=(List.range k).map fun j=>D.tup [.str (U.getD j Str.empty),.int ((ek j:Nat):Int)]) rfl (r_tup (Qg (r_var rfl) (Qg (r_e2 (r_e2 (r_var rfl) (r_e2 r_C (r_e2 r_C (r_var rfl) (mu k k6)) (QU _ _)) x5) (r_var rfl) mn) r_nil)) (show 2<=1000 by decide)) hle2 (by rw[ex];walk_at "s")
   ·show(if j<k then ek j else e)<n
    split
    ·rename_i w;exact hek j w
    ·exact en1)
  [some (.k,Gd),some (.k,.lst (A.map .str)),some (.k,.int (n:Int)),some (.o,.lst []),some (.o,.lst []),none,none,none] ⟨[],fun _=>0,_,_,_,rfl,⟨List.nodup_nil,fun x hx=>(nomatch hx)⟩,rfl,fun j hj=>absurd hj (by omega)⟩
 have hR:itR1 (e2 dAdd (eC (.int 1)) (e2 dMod (e2 dIx (eVar 0) (eC (.int 0))) (eC (.int 6)))) [some (.k,Gd),some (.k,.lst (A.map .str)),some (.k,.int (n:Int)),some (.o,.lst []),some (.o,.lst []),none,none,none]=.ok (Qbb 0 ne):=Qbe ne (r_e2 r_C (r_e2 (r_e2 (r_var rfl) r_C x0) r_C m6) aL) (by omega)
 have hfor:=QbK (g:=gN 5) (T:=Qdv) hR hL
 have gd:∀ j,(h:j<U.length)->U.getD j Str.empty=U[j]:=fun j h=>by rw[List.getD_eq_getElem?_getD,List.getElem?_eq_getElem h];rfl
 refine⟨ne,fun j=>U.getD j Str.empty,ek,e1',e6,fun j hj=>?_,fun i j hi hj e=>?_,hek,?_⟩
 ·show Nw (U.getD j Str.empty)
  rw[gd j (by omega)];exact hU.nw _ (List.getElem_mem _)
 ·have e:U.getD i Str.empty=U.getD j Str.empty:=e
  rw[gd i (by omega),gd j (by omega)]at e
  exact(List.getElem_inj hU.nd).mp e
 ·rw[Qwa]
  unfold Qen
  exact Q5 (fl:=.rt true (rl ne (fun j=>.tup [.str (U.getD j Str.empty),.int ((ek j:Nat):Int)]))) (r_seq (QdQ (d:=.lst []) (by (repeat walk_at "e")) (by walk_at "s")) (Ql (r_seq (QdQ (d:=.lst []) (by (repeat walk_at "e")) (by walk_at "s")) (Ql (r_seq hfor (Ql (QkL rfl))))))) r_rtT
structure Cl where
 c:Str
 t:List (List Int)
 m:Nat
def seatL(A:List Str)(nd:Nat)(X:Nat->Cl)(li:Nat->Nat->Nat)(st:Nat->Int)(k:Nat):D:=.lst [.str (A.getD (nd+k) Str.empty),ck (X k).c (X k).t (X k).m,tbD (X k).t,.str (ctext (X k).c (X k).t),rl (X k).m (fun j=>.int ((li k j:Nat):Int)),.int (st k)]
theorem QJa(A:List Str):(A.map D.str)=(List.range A.length).map fun i=>D.str (A.getD i Str.empty):=by
 apply List.ext_getElem?
 intro i
 rw[List.getElem?_map,List.getElem?_map]
 by_cases h:i<A.length
 ·rw[List.getElem?_range h,List.getElem?_eq_getElem h]
  show some (D.str A[i])=some (D.str (A.getD i Str.empty))
  rw[List.getD_eq_getElem?_getD,List.getElem?_eq_getElem h];rfl
 ·rw[List.getElem?_eq_none (by omega),List.getElem?_eq_none (by rw[List.length_range];omega)];rfl
theorem QJu(ns:List Int){M:Nat}(hM:1<=M)(hM2:M<=60):∃(nd n ne:Nat)(A:List Str)(X:Nat->Cl)(li:Nat->Nat->Nat)(st:Nat->Int)(en:Nat->Str)(ek:Nat->Nat),1<=nd/\nd<=6/\1<=n/\n<=60/\A.length=nd+n/\Ns A/\
 (∀ k,k<n->CK.contains (X k).c=true/\Tb (X k).t (X k).m/\(∀ j,j<(X k).m->li k j<nd+n)/\0<=st k/\st k<((X k).t.length:Int))/\Ent n ne en ek/\(∀ j,j<ne->Nw (en j))/\
 QaD [.lst (ns.map .int),.int (M:Int)]=.ok (.lst [.lst ((A.take nd).map .str),rl n (seatL A nd X li st),rl ne (fun j=>.tup [.str (en j),.int ((ek j:Nat):Int)])]):=by
 obtain⟨v0,hv0⟩:=QCe ns 0
 obtain⟨v1,hv1⟩:=QCe ns 1
 have hv0:Qa4 [.lst (ns.map .int),.int 0]=.ok (.int v0):=hv0
 have hv1:Qa4 [.lst (ns.map .int),.int 1]=.ok (.int v1):=hv1
 obtain⟨g1,hg1,hd1⟩:=QjR v0 (q:=0) (by decide) (M:=19) (by decide)
 obtain⟨g2,hg2,hd2⟩:=QjR v1 (q:=1) (by decide) (M:=31) (by decide)
 have hd1:Qag [.int v0,.int 0,.int 19]=.ok (rl 19 (fun i=>.int (g1 i))):=hd1
 have hd2:Qag [.int v1,.int 1,.int 31]=.ok (rl 31 (fun i=>.int (g2 i))):=hd2
 obtain⟨cs,c1,cM,hcells⟩:=QH2 ns hM hM2
 generalize hn:cs.length=n at *
 have hcl:cs.map D.int=(List.range n).map fun k=>D.int (cs.getD k 0):=by
  apply List.ext_getElem?
  intro i
  rw[List.getElem?_map,List.getElem?_map]
  by_cases h:i<n
  ·rw[List.getElem?_range h,List.getElem?_eq_getElem (by omega)]
   show some (D.int cs[i])=some (D.int (cs.getD i 0))
   rw[List.getD_eq_getElem?_getD,List.getElem?_eq_getElem (by omega)];rfl
  ·rw[List.getElem?_eq_none (by omega),List.getElem?_eq_none (by rw[List.length_range];omega)];rfl
 rw[hcl]at hcells
 have hcells:∀ ς:SD,ς[0]?=some (some (.k,.lst (ns.map D.int)))->ς[1]?=some (some (.k,.int (M:Int)))->e2 dCat (eSl (eVar 0) (oSome (eC (.int 2))) (oSome (e2 dAdd (eC (.int 2)) (eVar 1)))) (e2 dRep (eLst (aCons (eC (.int 1)) aNil)) (eA (f1 dInt) (aCons (e2 dLt (eA fLen (aCons (eVar 0) aNil)) (eC (.int 3))) aNil))) ς=.ok (rl n (fun k=>.int (cs.getD k 0))):=hcells
 have hcx:∀ k:Nat,k<n->dIx (rl n (fun k=>.int (cs.getD k 0))) (.int (k:Int))=.ok (.int (cs.getD k 0)):=fun k hk=>ixR (f:=fun k=>D.int (cs.getD k 0)) hk
 have hlc:=lenR n (fun k=>D.int (cs.getD k 0))
 have DR:∀ k:Nat,∃ g:Nat->Int,k<n->Dg 25 g/\Qag [.int (cs.getD k 0),.int ((k:Int)+2),.int 25]=.ok (rl 25 (fun i=>.int (g i))):=fun k=>by
  by_cases h:k<n
  ·obtain⟨g,a,b⟩:=QjR (cs.getD k 0) (q:=k+2) (by omega) (M:=25) (by decide)
   refine⟨g,fun _=>⟨a,?_⟩⟩
   rw[show(k:Int)+2=((k+2:Nat):Int) by omega];exact b
  ·exact⟨fun _=>0,fun z=>absurd z h⟩
 obtain⟨G,hG⟩:=Classical.axiomOfChoice DR
 have CLK:∀ k:Nat,∃ x:Cl,k<n->CK.contains x.c=true/\Tb x.t x.m/\Qa5 [rl 25 (fun i=>.int (G k i))]=.ok (.lst [ck x.c x.t x.m,tbD x.t,.str (ctext x.c x.t)]):=fun k=>by
  by_cases h:k<n
  ·obtain⟨c,t,m,a,b,d⟩:=QFA (hG k h).1
   exact⟨⟨c,t,m⟩,fun _=>⟨a,b,d⟩⟩
  ·exact⟨⟨Str.empty,[],0⟩,fun z=>absurd z h⟩
 obtain⟨X,hX⟩:=Classical.axiomOfChoice CLK
 have y0:dIx (rl 19 (fun i=>.int (g1 i))) (.int 0)=.ok (.int (g1 0)):=dg_ix (M:=19) (i:=0) (by decide)
 have m6:dMod (.int (g1 0)) (.int 6)=.ok (.int (g1 0 % 6)):=Qad (by decide)
 obtain⟨nd,hnd,d1,d6⟩:∃ n:Nat,1+g1 0 % 6=(n:Int)/\1<=n/\n<=6:=⟨(1+g1 0 % 6).toNat,by omega,by omega,by omega⟩
 have aL:dAdd (.int 1) (.int (g1 0 % 6))=.ok (.int (nd:Int)):=by rw[QU,hnd]
 have mu:∀ j:Nat,j<6->dMul (.int 3) (.int (j:Int))=.ok (.int (3 * (j:Int))):=fun j hj=>r_mul (m:=3) (n:=3) (by decide) (Qec (show((j:Int)).natAbs<2 ^ 3 by omega)) rfl
 have sl1:∀(j:Nat)(ς:SD),j<6->ς[2]?=some (some (.k,rl 19 (fun i=>.int (g1 i))))->ς[5]?=some (some (.k,.int (j:Int)))->eSl (eVar 2) (oSome (e2 dAdd (eC (.int 1)) (e2 dMul (eC (.int 3)) (eVar 5)))) (oSome (e2 dAdd (eC (.int 4)) (e2 dMul (eC (.int 3)) (eVar 5)))) ς=.ok (rl 3 (fun i=>.int (g1 (1+3 * j+i)))):=fun j ς hj h0 h5=>
  r_sl (xs:=(List.range 19).map fun i=>D.int (g1 i)) (p:=some ((1+3 * j:Nat):Int)) (q:=some ((1+3 * j+3:Nat):Int)) (r_var h0) (by rw[show((1+3 * j:Nat):Int)=1+3 * (j:Int) by omega];exact Qf8 (r_e2 r_C (r_e2 r_C (r_var h5) (mu j hj)) (QU _ _))) (by rw[show((1+3 * j+3:Nat):Int)=4+3 * (j:Int) by omega];exact Qf8 (r_e2 r_C (r_e2 r_C (r_var h5) (mu j hj)) (QU _ _))) (QF1 (by omega) _)
 have sl2:∀(k:Nat)(ς:SD),ς[9]?=some (some (.k,rl 25 (fun i=>.int (G k i))))->eSl (eVar 9) (oSome (eC (.int 22))) oNo ς=.ok (rl 3 (fun i=>.int (G k (22+i)))):=fun k ς h=>
  r_sl (xs:=(List.range 25).map fun i=>D.int (G k i)) (p:=some ((22:Nat):Int)) (q:=none) (r_var h) rfl rfl (by rw[QHI];rfl)
 generalize hS:D.lst (ns.map D.int)=S at *
 generalize hF1:rl 19 (fun i=>D.int (g1 i))=F1 at *
 generalize hF2:rl 31 (fun i=>D.int (g2 i))=F2 at *
 generalize hCe:rl n (fun k=>D.int (cs.getD k 0))=Ce at *
 -- the doors
 obtain⟨ς',hL1,U,a5,rfl,hU,hUl⟩:=Qb6 (body:=fun x ς=>gN 5 x ς>>=fun ς'=>Qet ς') (n:=nd)
  (P:=fun k ς=>∃(U:List Str)(a5:Option (SM×D)),ς=[some (.k,S),some (.k,.int (M:Int)),some (.k,F1),some (.k,F2),some (.o,.lst (U.map .str)),a5,none,none,none,none,none,none,none,none,none]/\Ns U/\U.length=k)
  (by
   rintro k hk ς ⟨U,a5,rfl,hU,hUl⟩
   obtain⟨x,nx,hx,hnm⟩:=QpV (sl3 hg1 (lo:=1+3 * k) (by omega)) (U:=U) (by omega)
   refine⟨[some (.k,S),some (.k,.int (M:Int)),some (.k,F1),some (.k,F2),some (.o,.lst ((U++[x]).map .str)),some (.k,.int (k:Int)),none,none,none,none,none,none,none,none,none],?_,_,_,rfl,hU.snoc nx hx,by rw[List.length_append,hUl];rfl⟩
   refine r_gN (by walk_at "s") ?_
   unfold Qet
   exact r_app (xs:=U.map .str) rfl (Qio (Qax (xs:=[rl 3 (fun i=>.int (g1 (1+3 * k+i))),.lst (U.map .str)]) (Qg (sl1 k _ (by omega) rfl rfl) (Qg (QdT rfl) r_nil)) rfl hnm) rfl) (by rw[List.length_map];omega) (by rw[QmT];walk_at "s"))
  [some (.k,S),some (.k,.int (M:Int)),some (.k,F1),some (.k,F2),some (.o,.lst []),none,none,none,none,none,none,none,none,none,none] ⟨[],_,rfl,⟨List.nodup_nil,fun x hx=>(nomatch hx)⟩,rfl⟩
 have hR1:itR1 (e2 dAdd (eC (.int 1)) (e2 dMod (e2 dIx (eVar 2) (eC (.int 0))) (eC (.int 6)))) [some (.k,S),some (.k,.int (M:Int)),some (.k,F1),some (.k,F2),some (.o,.lst []),none,none,none,none,none,none,none,none,none,none]=.ok (Qbb 0 nd):=Qbe nd (r_e2 r_C (r_e2 (r_e2 (r_var rfl) r_C y0) r_C m6) aL) (by omega)
 have hfor1:=QbK (g:=gN 5) (T:=Qet) hR1 hL1
 -- what is drawn for the clerks
 have hdr:∀ a2 a3 a4 a5':Option (SM×D),eComp [none,some 6] (itR1 (eA fLen (aCons (eVar 6) aNil))) (gN 0) cTrue Qgt [some (.k,S),some (.k,.int (M:Int)),a2,a3,a4,a5',some (.k,Ce),none,none,none,none,none,none,none,none]=.ok (rl n (fun k=>rl 25 (fun i=>.int (G k i)))):=fun a2 a3 a4 a5'=>by
  refine QH (fun k:Nat=>D.int ((0:Int)+k)) (fun k=>rl 25 (fun i=>.int (G k i))) (Qbe n (r_eA (Qg (r_var rfl) r_nil) hlc) (by omega)) (fun k hk=>?_) (by rw[List.length_range];omega)
  have hk:=List.mem_range.mp hk
  refine QN (by walk_at "cap") (by walk_at "s") ?_
  unfold Qgt
  rw[Int.zero_add]
  exact Qax (xs:=[.int (cs.getD k 0),.int ((k:Int)+2),.int 25]) (Qg (r_e2 (r_var rfl) (r_var rfl) (hcx k hk)) (Qg (r_e2 (r_var rfl) r_C (QU _ _)) (Qg r_C r_nil))) rfl (hG k hk).2
 have hlst:QxM (.lst (U.map D.str))=.ok (.lst (U.map .str)):=by
  show(if (U.map D.str).all D.scal=true then _ else _)=_
  rw[if_pos (by rw[List.all_eq_true];intro d hd;obtain⟨u,_,rfl⟩:=List.mem_map.mp hd;rfl)]
 -- the names
 obtain⟨ς',hL2,A,a9,rfl,hA,hAl,hAt⟩:=QiF (body:=fun x ς=>gN 9 x ς>>=fun ς'=>Qeq ς') (f:=fun k=>rl 25 (fun i=>D.int (G k i))) (n:=n)
  (P:=fun k ς=>∃(A:List Str)(a9:Option (SM×D)),ς=[some (.k,S),some (.k,.int (M:Int)),some (.k,F1),some (.k,F2),some (.o,.lst (U.map .str)),a5,some (.k,Ce),some (.k,rl n (fun k=>rl 25 (fun i=>.int (G k i)))),some (.o,.lst (A.map .str)),a9,none,none,none,none,none]/\Ns A/\A.length=nd+k/\A.take nd=U)
  (by
   rintro k hk ς ⟨A,a9,rfl,hA,hAl,hAt⟩
   obtain⟨x,nx,hx,hnm⟩:=QpV (sl3 (hG k hk).1 (lo:=22) (by decide)) (U:=A) (by omega)
   refine⟨[some (.k,S),some (.k,.int (M:Int)),some (.k,F1),some (.k,F2),some (.o,.lst (U.map .str)),a5,some (.k,Ce),some (.k,rl n (fun k=>rl 25 (fun i=>.int (G k i)))),some (.o,.lst ((A++[x]).map .str)),some (.k,rl 25 (fun i=>.int (G k i))),none,none,none,none,none],?_,_,_,rfl,hA.snoc nx hx,by rw[List.length_append,hAl];rfl,by rw[List.take_append_of_le_length (by omega)];exact hAt⟩
   refine r_gN (by walk_at "s") ?_
   unfold Qeq
   exact r_app (xs:=A.map .str) rfl (Qio (Qax (xs:=[rl 3 (fun i=>.int (G k (22+i))),.lst (A.map .str)]) (Qg (sl2 k _ rfl) (Qg (QdT rfl) r_nil)) rfl hnm) rfl) (by rw[List.length_map];omega) (by rw[QmT];walk_at "s"))
  [some (.k,S),some (.k,.int (M:Int)),some (.k,F1),some (.k,F2),some (.o,.lst (U.map .str)),a5,some (.k,Ce),some (.k,rl n (fun k=>rl 25 (fun i=>.int (G k i)))),some (.o,.lst (U.map .str)),none,none,none,none,none,none] ⟨U,_,rfl,hU,by omega,List.take_of_length_le (by omega)⟩
 have hR2:itL (eVar 7) [some (.k,S),some (.k,.int (M:Int)),some (.k,F1),some (.k,F2),some (.o,.lst (U.map .str)),a5,some (.k,Ce),some (.k,rl n (fun k=>rl 25 (fun i=>.int (G k i)))),some (.o,.lst (U.map .str)),none,none,none,none,none,none]=.ok ((List.range n).map fun k=>rl 25 (fun i=>.int (G k i))):=r_itL (r_var rfl)
 have hfor2:=QbK (g:=gN 9) (T:=Qeq) hR2 hL2
 have hlA:fLen [.lst (A.map D.str)]=.ok (.int ((nd+n:Nat):Int)):=by rw[← hAl];simp[fLen]
 have hlU:fLen [.lst (U.map D.str)]=.ok (.int (nd:Int)):=by rw[← hUl];simp[fLen]
 -- the leads and states
 have LI:∀ k j:Nat,∃ l:Nat,G k (15+j) % ((nd+n:Nat):Int)=(l:Int)/\l<nd+n:=fun k j=>by
  have a:=Int.emod_nonneg (G k (15+j)) (b:=((nd+n:Nat):Int)) (by omega)
  have b:=Int.emod_lt_of_pos (G k (15+j)) (b:=((nd+n:Nat):Int)) (by omega)
  exact⟨(G k (15+j) % ((nd+n:Nat):Int)).toNat,by omega,by omega⟩
 obtain⟨li,hli⟩:∃ li:Nat->Nat->Nat,∀ k j,G k (15+j) % ((nd+n:Nat):Int)=(li k j:Int)/\li k j<nd+n:=⟨fun k j=>(LI k j).choose,fun k j=>(LI k j).choose_spec⟩
 obtain⟨st,hst⟩:∃ st:Nat->Int,∀ k,st k=G k 21 % ((X k).t.length:Int):=⟨_,fun _=>rfl⟩
 have gA:∀ k,k<n->atI (A.map D.str) ((nd:Int)+(k:Int))=some (.str (A.getD (nd+k) Str.empty)):=fun k hk=>by
  rw[show(nd:Int)+(k:Int)=((nd+k:Nat):Int) by omega]
  exact Qqr (by rw[List.getElem?_map,List.getElem?_eq_getElem (by omega),List.getD_eq_getElem?_getD,List.getElem?_eq_getElem (by omega)];rfl)
 generalize hDr:rl n (fun k=>rl 25 (fun i=>D.int (G k i)))=Dr at *
 have hdx:∀ k,k<n->dIx Dr (.int (k:Int))=.ok (rl 25 (fun i=>.int (G k i))):=fun k hk=>by rw[← hDr];exact ixR (f:=fun k=>rl 25 (fun i=>D.int (G k i))) hk
 obtain⟨ς',hL3,a5',a11,a12,a13,a14,rfl⟩:=Qb6 (body:=fun x ς=>gN 5 x ς>>=fun ς'=>Qex ς') (n:=n)
  (P:=fun k ς=>∃ a5 a11 a12 a13 a14,ς=[some (.k,S),some (.k,.int (M:Int)),some (.k,F1),some (.k,F2),some (.o,.lst (U.map .str)),a5,some (.k,Ce),some (.k,Dr),some (.o,.lst (A.map .str)),a9,some (.o,rl k (seatL A nd X li st)),a11,a12,a13,a14])
  (by
   rintro k hk ς ⟨a5,a11,a12,a13,a14,rfl⟩
   obtain⟨xc,tb,hck⟩:=hX k hk
   have tn1:=tb.n1
   have m6':=tb.m6
   obtain⟨r0,hr0,hrl⟩:∃ r0,(X k).t[0]?=some r0/\r0.length=(X k).m:=by
    have h0:0<(X k).t.length:=by omega
    exact⟨(X k).t[0],List.getElem?_eq_getElem h0,tb.row _ (List.getElem_mem h0)⟩
   have hx0:dIx (tbD (X k).t) (.int 0)=.ok (dl r0):=ixL 0 (by rw[List.getElem?_map,hr0];rfl)
   have hl0:fLen [dl r0]=.ok (.int ((X k).m:Int)):=by rw[← hrl];simp[fLen,dl]
   have hlt:fLen [tbD (X k).t]=.ok (.int ((X k).t.length:Int)):=by simp[fLen,tbD]
   have h21:dIx (rl 25 (fun i=>.int (G k i))) (.int 21)=.ok (.int (G k 21)):=dg_ix (M:=25) (i:=21) (by decide)
   have mst:dMod (.int (G k 21)) (.int ((X k).t.length:Int))=.ok (.int (st k)):=by rw[Qad (by omega),hst]
   have hun:∀ a11 a12 a13:Option (SM×D),sUnpL [11,12,13] (eA (fun xs=>Qa5 (xs++[])) (aCons (e2 dIx (eVar 7) (eVar 5)) aNil)) [some (.k,S),some (.k,.int (M:Int)),some (.k,F1),some (.k,F2),some (.o,.lst (U.map .str)),some (.k,.int (k:Int)),some (.k,Ce),some (.k,Dr),some (.o,.lst (A.map .str)),a9,some (.o,rl k (seatL A nd X li st)),a11,a12,a13,a14]=.ok (.nx [some (.k,S),some (.k,.int (M:Int)),some (.k,F1),some (.k,F2),some (.o,.lst (U.map .str)),some (.k,.int (k:Int)),some (.k,Ce),some (.k,Dr),some (.o,.lst (A.map .str)),a9,some (.o,rl k (seatL A nd X li st)),some (.k,ck (X k).c (X k).t (X k).m),some (.k,tbD (X k).t),some (.k,.str (ctext (X k).c (X k).t)),a14]):=fun a11 a12 a13=>by
    unfold sUnpL
    rw[Qax (xs:=[rl 25 (fun i=>.int (G k i))]) (Qg (r_e2 (r_var rfl) (r_var rfl) (hdx k hk)) r_nil) rfl hck]
    rfl
   have hcm:eComp [none,some 7,some 5,some 8] (itR1 (eA fLen (aCons (e2 dIx (eVar 12) (eC (.int 0))) aNil))) (gN 0) cTrue Qgx [some (.k,S),some (.k,.int (M:Int)),some (.k,F1),some (.k,F2),some (.o,.lst (U.map .str)),some (.k,.int (k:Int)),some (.k,Ce),some (.k,Dr),some (.o,.lst (A.map .str)),a9,some (.o,rl k (seatL A nd X li st)),some (.k,ck (X k).c (X k).t (X k).m),some (.k,tbD (X k).t),some (.k,.str (ctext (X k).c (X k).t)),a14]=.ok (rl (X k).m (fun j=>.int ((li k j:Nat):Int))):=by
    refine QH (fun j:Nat=>D.int ((0:Int)+j)) (fun j=>D.int ((li k j:Nat):Int)) (Qbe (X k).m (r_eA (Qg (r_e2 (r_var rfl) r_C hx0) r_nil) hl0) (by omega)) (fun j hj=>?_) (by rw[List.length_range];omega)
    have hj:=List.mem_range.mp hj
    have h15:dIx (rl 25 (fun i=>.int (G k i))) (.int (15+(j:Int)))=.ok (.int (G k (15+j))):=by
     rw[show(15:Int)+(j:Int)=((15+j:Nat):Int) by omega]
     exact dg_ix (by omega)
    have ml:dMod (.int (G k (15+j))) (.int ((nd+n:Nat):Int))=.ok (.int ((li k j:Nat):Int)):=by rw[Qad (by omega),(hli k j).1]
    refine QN (by walk_at "cap") (by walk_at "s") ?_
    unfold Qgx
    rw[Int.zero_add]
    exact r_e2 (r_e2 (r_e2 (r_var rfl) (r_var rfl) (hdx k hk)) (r_e2 r_C (r_var rfl) (QU _ _)) h15) (r_eA (Qg (QdT rfl) r_nil) hlA) ml
   have x10:(List.range k).map (seatL A nd X li st)++[.lst [.str (A.getD (nd+k) Str.empty),ck (X k).c (X k).t (X k).m,tbD (X k).t,.str (ctext (X k).c (X k).t),rl (X k).m (fun j=>.int ((li k j:Nat):Int)),.int (st k)]]=(List.range (k+1)).map (seatL A nd X li st):=by
    rw[List.range_succ,List.map_append];rfl
   refine⟨[some (.k,S),some (.k,.int (M:Int)),some (.k,F1),some (.k,F2),some (.o,.lst (U.map .str)),some (.k,.int (k:Int)),some (.k,Ce),some (.k,Dr),some (.o,.lst (A.map .str)),a9,some (.o,rl (k+1) (seatL A nd X li st)),some (.k,ck (X k).c (X k).t (X k).m),some (.k,tbD (X k).t),some (.k,.str (ctext (X k).c (X k).t)),some (.k,rl (X k).m (fun j=>.int ((li k j:Nat):Int)))],?_,_,_,_,_,_,rfl⟩
   refine r_gN (by walk_at "s") ?_
   unfold Qex
   refine r_seq (hun _ _ _) (Ql (r_seq (r_set hcm (by walk_at "s")) (Ql ?_)))
   exact r_app (xs:=(List.range k).map (seatL A nd X li st)) rfl (r_lst (Qg (r_ixO rfl (r_e2 (r_eA (Qg (QdT rfl) r_nil) hlU) (r_var rfl) (QU _ _)) (gA k hk)) (Qg (r_var rfl) (Qg (r_var rfl) (Qg (r_var rfl) (Qg (r_var rfl) (Qg (r_e2 (r_e2 (r_e2 (r_var rfl) (r_var rfl) (hdx k hk)) r_C h21) (r_eA (Qg (r_var rfl) r_nil) hlt) mst) r_nil)))))) (show 6<=1000 by decide)) (by rw[List.length_map,List.length_range];omega) (by rw[x10];walk_at "s"))
  [some (.k,S),some (.k,.int (M:Int)),some (.k,F1),some (.k,F2),some (.o,.lst (U.map .str)),a5,some (.k,Ce),some (.k,Dr),some (.o,.lst (A.map .str)),a9,some (.o,.lst []),none,none,none,none] ⟨_,_,_,_,_,rfl⟩
 have hR3:itR1 (eA fLen (aCons (eVar 6) aNil)) [some (.k,S),some (.k,.int (M:Int)),some (.k,F1),some (.k,F2),some (.o,.lst (U.map .str)),a5,some (.k,Ce),some (.k,Dr),some (.o,.lst (A.map .str)),a9,some (.o,.lst []),none,none,none,none]=.ok (Qbb 0 n):=Qbe n (r_eA (Qg (r_var rfl) r_nil) hlc) (by omega)
 have hfor3:=QbK (g:=gN 5) (T:=Qex) hR3 hL3
 obtain⟨ne,en,ek,e1',e6,enw,einj,erng,hlet⟩:=QHw hg2 hA (by omega) (by omega) (n:=n) (by omega)
 rw[hF2]at hlet
 refine⟨nd,n,ne,A,X,li,st,en,ek,d1,d6,by omega,by omega,hAl,hA,fun k hk=>?_,⟨e1',e6,fun j hj=>(enw j hj).isn,einj,erng⟩,enw,?_⟩
 ·obtain⟨xc,tb,_⟩:=hX k hk
  have tn1:=tb.n1
  refine⟨xc,tb,fun j _=>(hli k j).2,?_,?_⟩
  ·rw[hst];exact Int.emod_nonneg _ (by omega)
  ·rw[hst];exact Int.emod_lt_of_pos _ (by omega)
 ·rw[hAt,QD9]
  unfold Qf2
  refine Q5 (fl:=.rt true (.lst [.lst (U.map .str),rl n (seatL A nd X li st),rl ne (fun j=>.tup [.str (en j),.int ((ek j:Nat):Int)])])) ?_ r_rtT
  refine r_seq (r_set (Qax (xs:=[.int v0,.int 0,.int 19]) (Qg (Qax (xs:=[S,.int 0]) (Qg (r_var rfl) (Qg r_C r_nil)) rfl hv0) (Qg r_C (Qg r_C r_nil))) rfl hd1) (by walk_at "s")) (Ql ?_)
  refine r_seq (r_set (Qax (xs:=[.int v1,.int 1,.int 31]) (Qg (Qax (xs:=[S,.int 1]) (Qg (r_var rfl) (Qg r_C r_nil)) rfl hv1) (Qg r_C (Qg r_C r_nil))) rfl hd2) (by walk_at "s")) (Ql ?_)
  refine r_seq (QdQ (d:=.lst []) (by (repeat walk_at "e")) (by walk_at "s")) (Ql (r_seq hfor1 (Ql ?_)))
  refine r_seq (r_set (hcells _ rfl rfl) (by walk_at "s")) (Ql (r_seq (r_set (hdr _ _ _ _) (by walk_at "s")) (Ql ?_)))
  refine r_seq (QdQ (r_e1 (QdT rfl) hlst) (by walk_at "s")) (Ql (r_seq hfor2 (Ql ?_)))
  refine r_seq (QdQ (d:=.lst []) (by (repeat walk_at "e")) (by walk_at "s")) (Ql (r_seq hfor3 (Ql ?_)))
  have hz:frz 10 (frz 4 (frz 8 [some (.k,S),some (.k,.int (M:Int)),some (.k,F1),some (.k,F2),some (.o,.lst (U.map .str)),a5',some (.k,Ce),some (.k,Dr),some (.o,.lst (A.map .str)),a9,some (.o,rl n (seatL A nd X li st)),a11,a12,a13,a14]))=[some (.k,S),some (.k,.int (M:Int)),some (.k,F1),some (.k,F2),some (.k,.lst (U.map .str)),a5',some (.k,Ce),some (.k,Dr),some (.k,.lst (A.map .str)),a9,some (.k,rl n (seatL A nd X li st)),a11,a12,a13,a14]:=rfl
  show sRetF _ (frz 10 (frz 4 (frz 8 _)))=_
  rw[hz]
  exact QcQ (r_lst (Qg (r_var rfl) (Qg (r_var rfl) (Qg (Qax (xs:=[F2,.lst (A.map .str),.int (n:Int)]) (Qg (r_var rfl) (Qg (r_var rfl) (Qg (r_eA (Qg (r_var rfl) r_nil) hlc) r_nil))) rfl hlet) r_nil))) (show 3<=1000 by decide))
def Good(Pl:D):Prop:=∃(H1 H2 H3:D)(fs:List (Str×D))(T:Str),Tx T 300000/\Qa6 [Pl]=.ok (.str T)/\QbI [Pl]=.ok (.lst [H1,H2,H3])/\QaO "Office" [] [H1,H2,H3]=.ok fs/\QbQ [.ins "Office" fs]=.ok (.str T)
section
variable{nd n ne:Nat}{A:List Str}{X:Nat->Cl}{li:Nat->Nat->Nat}{st:Nat->Int}{en:Nat->Str}{ek:Nat->Nat}
def dnA(A:List Str)(d:Nat):Str:=A.getD d Str.empty
def nmA(A:List Str)(nd k:Nat):Str:=A.getD (nd+k) Str.empty
def ldA(nd:Nat)(li:Nat->Nat->Nat)(k j:Nat):Int:=if li k j<nd then -1 - (li k j:Int) else(li k j:Int) - (nd:Int)
theorem nml_A{k j:Nat}(h:li k j<nd+n):nml (nmA A nd) (dnA A) (ldA nd li k j)=A.getD (li k j) Str.empty:=by
 unfold nml ldA
 by_cases q:li k j<nd
 ·rw[if_pos q,if_pos (by omega)]
  unfold dnA
  rw[show(-1 - (-1 - (li k j:Int))).toNat=li k j by omega]
 ·rw[if_neg q,if_neg (by omega)]
  unfold nmA
  rw[show nd+((li k j:Int) - (nd:Int)).toNat=li k j by omega]
theorem Qr5(hA:nd<=A.length):(A.take nd).map D.str=(List.range nd).map fun d=>D.str (dnA A d):=by
 rw[QJa,List.length_take,Nat.min_eq_left hA]
 refine List.map_congr_left fun d hd=>?_
 have hd:=List.mem_range.mp hd
 unfold dnA
 rw[List.getD_eq_getElem?_getD,List.getD_eq_getElem?_getD,List.getElem?_take_of_lt hd]
theorem QHB(hA:A.length=nd+n):(A.take nd).map D.str++(List.range n).map (fun k=>D.str (nmA A nd k))=(List.range (nd+n)).map fun i=>D.str (A.getD i Str.empty):=by
 rw[Qr5 (by omega),List.range_add,List.map_append,List.map_map]
 rfl
variable(d1:1<=nd)(d6:nd<=6)(n1:1<=n)(n60:n<=60)(hA:A.length=nd+n)(hN:Ns A)
 (hX:∀ k,k<n->CK.contains (X k).c=true/\Tb (X k).t (X k).m/\(∀ j,j<(X k).m->li k j<nd+n)/\0<=st k/\st k<((X k).t.length:Int)) (hE:Ent n ne en ek) (hW:∀ j,j<ne->Nw (en j))
include d1 d6 n1 n60 hA hN hX hE hW
theorem gA{i:Nat}(h:i<nd+n):Nw (A.getD i Str.empty):=by
 rw[List.getD_eq_getElem?_getD,List.getElem?_eq_getElem (by omega)]
 exact hN.nw _ (List.getElem_mem _)
theorem iA{i j:Nat}(hi:i<nd+n)(hj:j<nd+n)(e:A.getD i Str.empty=A.getD j Str.empty):i=j:=by
 rw[List.getD_eq_getElem?_getD,List.getD_eq_getElem?_getD,List.getElem?_eq_getElem (by omega),List.getElem?_eq_getElem (by omega)]at e
 exact(List.getElem_inj hN.nd).mp e
theorem QId:Seats n nd (nmA A nd) (dnA A) (fun k=>(X k).c) (fun k=>(X k).t) (fun k=>(X k).m) (ldA nd li) st where
 n1:=n1
 n2:=n60
 d1:=d1
 d2:=d6
 ck:=fun k hk=>(hX k hk).1
 tb:=fun k hk=>(hX k hk).2.1
 ldr:=fun k j hk hj=>by
  have:=(hX k hk).2.2.1 j hj
  unfold ldA
  split<;>omega
 str:=fun k hk=>(hX k hk).2.2.2
 isn:=fun k hk=>(gA d1 d6 n1 n60 hA hN hX hE hW (i:=nd+k) (by omega)).isn
 isd:=fun d hd=>(gA d1 d6 n1 n60 hA hN hX hE hW (i:=d) (by omega)).isn
 inj:=fun i j hi hj e=>by have:=iA d1 d6 n1 n60 hA hN hX hE hW (i:=nd+i) (j:=nd+j) (by omega) (by omega) e;omega
 injd:=fun i j hi hj e=>iA d1 d6 n1 n60 hA hN hX hE hW (by omega) (by omega) e
 sep:=fun i d hi hd e=>by have:=iA d1 d6 n1 n60 hA hN hX hE hW (i:=nd+i) (j:=d) (by omega) (by omega) e;omega
theorem nms_A:Nms n nd ne (nmA A nd) (dnA A) en where
 a:=fun k hk=>(gA d1 d6 n1 n60 hA hN hX hE hW (i:=nd+k) (by omega)).tx
 b:=fun d hd=>(gA d1 d6 n1 n60 hA hN hX hE hW (i:=d) (by omega)).tx
 c:=fun j hj=>(hW j hj).tx
theorem QKP:Good (.lst [.lst ((A.take nd).map .str),rl n (seatL A nd X li st),rl ne (fun j=>.tup [.str (en j),.int ((ek j:Nat):Int)])]):=by
 have hs:=QId d1 d6 n1 n60 hA hN hX hE hW
 have hn:=nms_A d1 d6 n1 n60 hA hN hX hE hW
 have e6:=hE.e6
 have hO:=QE2 hs hE
 have hw:=QD1 hs hn hE
 have hT:=(QhA tse _ (QCg hs hn hE)).le (show _<=300000 by have:=QvG hs hn hE;omega)
 have hj:=QrV hs hn hE
 have ht:(.lst ((A.take nd).map .str):D)=rl nd (fun d=>.str (dnA A d)):=by rw[Qr5 (by omega)]
 have s0:∀ k,dIx (seatL A nd X li st k) (.int 0)=.ok (.str (nmA A nd k)):=fun k=>ixL 0 rfl
 have s1:∀ k,dIx (seatL A nd X li st k) (.int 1)=.ok (ck (X k).c (X k).t (X k).m):=fun k=>ixL 1 rfl
 have s3:∀ k,dIx (seatL A nd X li st k) (.int 3)=.ok (.str (ctext (X k).c (X k).t)):=fun k=>ixL 3 rfl
 have s4:∀ k,dIx (seatL A nd X li st k) (.int 4)=.ok (rl (X k).m (fun j=>.int ((li k j:Nat):Int))):=fun k=>ixL 4 rfl
 have s5:∀ k,dIx (seatL A nd X li st k) (.int 5)=.ok (.int (st k)):=fun k=>ixL 5 rfl
 have hcat:dCat (.lst ((A.take nd).map .str)) (rl n (fun k=>.str (nmA A nd k)))=.ok (rl (nd+n) (fun i=>.str (A.getD i Str.empty))):=by
  show dCat (.lst _) (.lst _)=_
  rw[QeW (by rw[List.length_map,List.length_take,List.length_map,List.length_range];omega),QHB hA]
 have hxA:∀ i,i<nd+n->dIx (rl (nd+n) (fun i=>.str (A.getD i Str.empty))) (.int (i:Int))=.ok (.str (A.getD i Str.empty)):=fun i hi=>ixR (f:=fun i=>D.str (A.getD i Str.empty)) hi
 have hxS:∀ k,k<n->dIx (rl n (seatL A nd X li st)) (.int (k:Int))=.ok (seatL A nd X li st k):=fun k hk=>ixR hk
 have hun:∀(N:Nat)(q:SD),q.length=N->(N=2∨N=4)->sUnpL [1,2,3] (eVar 0) (some (.k,.lst [.lst ((A.take nd).map .str),rl n (seatL A nd X li st),rl ne (fun j=>.tup [.str (en j),.int ((ek j:Nat):Int)])])::none::none::none::q)=.ok (.nx (some (.k,.lst [.lst ((A.take nd).map .str),rl n (seatL A nd X li st),rl ne (fun j=>.tup [.str (en j),.int ((ek j:Nat):Int)])])::some (.k,.lst ((A.take nd).map .str))::some (.k,rl n (seatL A nd X li st))::some (.k,rl ne (fun j=>.tup [.str (en j),.int ((ek j:Nat):Int)]))::q)):=fun N q _ _=>rfl
 have hend:dCatB (.lst (((List.range nd).map (fun d=>("door ":Str)++dnA A d)++(List.range n).map (crowT (nmA A nd) (dnA A) (fun k=>(X k).c) (fun k=>(X k).t) (fun k=>(X k).m) (ldA nd li) st)).map .str)) (rl ne (fun j=>.str (("entry ":Str)++en j++(" ":Str)++nmA A nd (ek j))))=.ok (.lst ((rowsT n nd ne (nmA A nd) (dnA A) (fun k=>(X k).c) en ek (fun k=>(X k).t) (fun k=>(X k).m) (ldA nd li) st).map .str)):=by
  show(if (fits (_+_)&&(((List.range nd).map (fun d=>("door ":Str)++dnA A d)++(List.range n).map (crowT (nmA A nd) (dnA A) (fun k=>(X k).c) (fun k=>(X k).t) (fun k=>(X k).m) (ldA nd li) st)).map D.str).all D.scal)=true then Out.ok (D.lst (_++_)) else _)=_
  rw[if_pos (by
   rw[Bool.and_eq_true]
   exact⟨Qei (by simp only[List.length_map,List.length_append,List.length_range];omega),by rw[List.all_eq_true];intro d hd;obtain⟨u,_,rfl⟩:=List.mem_map.mp hd;rfl⟩)]
  unfold rowsT
  rw[List.map_append (l₁:=(List.range nd).map (fun d=>("door ":Str)++dnA A d)++(List.range n).map (crowT (nmA A nd) (dnA A) (fun k=>(X k).c) (fun k=>(X k).t) (fun k=>(X k).m) (ldA nd li) st)),List.map_map (l:=List.range ne)]
  rfl
 generalize hPl:D.lst [.lst ((A.take nd).map .str),rl n (seatL A nd X li st),rl ne (fun j=>.tup [.str (en j),.int ((ek j:Nat):Int)])]=Pl at *
 generalize hEn:rl ne (fun j=>D.tup [.str (en j),.int ((ek j:Nat):Int)])=En at *
 refine⟨rl n (seatD (nmA A nd) (dnA A) (fun k=>(X k).c) (fun k=>(X k).t) (fun k=>(X k).m) (ldA nd li) st),rl ne (entD (nmA A nd) en ek),rl nd (fun d=>.str (dnA A d)),_,_,hT,?_,?_,hO,hw⟩
 ·-- the law's text
  have c0:∀ a5 a6 a7:Option (SM×D),eComp [none] (itL (eVar 2)) (gN 0) cTrue QgE [some (.k,Pl),some (.k,.lst ((A.take nd).map .str)),some (.k,rl n (seatL A nd X li st)),some (.k,En),none,a5,a6,a7]=.ok (rl n (fun k=>.str (nmA A nd k))):=fun a5 a6 a7=>by
   refine QH (seatL A nd X li st) (fun k=>.str (nmA A nd k)) rfl (fun k hk=>?_) (by rw[List.length_range];omega)
   refine QN (by walk_at "cap") (by walk_at "s") ?_
   unfold QgE
   exact r_e2 (r_var rfl) r_C (s0 k)
  have c1:∀ a4 a5 a6 a7:Option (SM×D),eComp [none] (itL (eVar 1)) (gN 0) cTrue Qgv [some (.k,Pl),some (.k,.lst ((A.take nd).map .str)),some (.k,rl n (seatL A nd X li st)),some (.k,En),a4,a5,a6,a7]=.ok (rl nd (fun d=>.str (("door ":Str)++dnA A d))):=fun a4 a5 a6 a7=>by
   refine QH (fun d=>D.str (dnA A d)) (fun d=>D.str (("door ":Str)++dnA A d)) (r_itL (r_var (by rw[ht];rfl))) (fun d hd=>?_) (by rw[List.length_range];omega)
   refine QN (by walk_at "cap") (by walk_at "s") ?_
   unfold Qgv
   exact r_e2 r_C (r_var rfl) (QCk hs hn (List.mem_range.mp hd))
  obtain⟨ς',hL,a6,a7,rfl⟩:=QiF (body:=fun x ς=>gN 6 x ς>>=fun ς'=>QeG ς') (f:=seatL A nd X li st) (n:=n)
   (P:=fun k ς=>∃ a6 a7,ς=[some (.k,Pl),some (.k,.lst ((A.take nd).map .str)),some (.k,rl n (seatL A nd X li st)),some (.k,En),some (.k,rl (nd+n) (fun i=>.str (A.getD i Str.empty))),some (.o,.lst (((List.range nd).map (fun d=>("door ":Str)++dnA A d)++(List.range k).map (crowT (nmA A nd) (dnA A) (fun k=>(X k).c) (fun k=>(X k).t) (fun k=>(X k).m) (ldA nd li) st)).map .str)),a6,a7])
   (by
    rintro k hk ς ⟨a6,a7,rfl⟩
    obtain⟨xc,tb,xl,xs0,xs1⟩:=hX k hk
    have n2:=tb.n2
    have m6:=tb.m6
    have hst:=(QcM xs0 (show st k<=12 by omega)).1
    have c2:∀ a5 a7:Option (SM×D),eComp [none,some 4] (itL (e2 dIx (eVar 6) (eC (.int 4)))) (gN 0) cTrue Qgp [some (.k,Pl),some (.k,.lst ((A.take nd).map .str)),some (.k,rl n (seatL A nd X li st)),some (.k,En),some (.k,rl (nd+n) (fun i=>.str (A.getD i Str.empty))),a5,some (.k,seatL A nd X li st k),a7]=.ok (rl (X k).m (fun j=>.str (nml (nmA A nd) (dnA A) (ldA nd li k j)))):=fun a5 a7=>by
     refine QH (fun j=>D.int ((li k j:Nat):Int)) (fun j=>D.str (nml (nmA A nd) (dnA A) (ldA nd li k j))) (r_itL (r_e2 (r_var rfl) r_C (s4 k))) (fun j hj=>?_) (by rw[List.length_range];omega)
     have hj:=xl j (List.mem_range.mp hj)
     rw[nml_A hj]
     refine QN (by walk_at "cap") (by walk_at "s") ?_
     unfold Qgp
     exact r_e2 (r_var rfl) (r_var rfl) (hxA _ hj)
    have hcw:dCat (.lst [.str "clerk",.str (nmA A nd k),.str (ctext (X k).c (X k).t),.str "at",.str (it (st k)),.str "to"]) (rl (X k).m (fun j=>.str (nml (nmA A nd) (dnA A) (ldA nd li k j))))=.ok (.lst (([("clerk":Str),nmA A nd k,ctext (X k).c (X k).t,"at",it (st k),"to"]++(List.range (X k).m).map (fun j=>nml (nmA A nd) (dnA A) (ldA nd li k j))).map .str)):=by
     show dCat (.lst _) (.lst _)=_
     rw[QeW (by rw[List.length_map,List.length_range];show 6+(X k).m<=1000;omega),List.map_append,List.map_map]
     rfl
    have hjw:=QgJ tbl _ (QmQ hs hn hk) (by have:=Qj4 hs hn hk;omega)
    have ea:((List.range nd).map (fun d=>("door ":Str)++dnA A d)++(List.range k).map (crowT (nmA A nd) (dnA A) (fun k=>(X k).c) (fun k=>(X k).t) (fun k=>(X k).m) (ldA nd li) st)).map D.str++[.str (crowT (nmA A nd) (dnA A) (fun k=>(X k).c) (fun k=>(X k).t) (fun k=>(X k).m) (ldA nd li) st k)]=((List.range nd).map (fun d=>("door ":Str)++dnA A d)++(List.range (k+1)).map (crowT (nmA A nd) (dnA A) (fun k=>(X k).c) (fun k=>(X k).t) (fun k=>(X k).m) (ldA nd li) st)).map .str:=by
     rw[List.range_succ,List.map_append (l₁:=List.range k), ← List.append_assoc,List.map_append (l₂ := List.map _ [k])];rfl
    have hle:(((List.range nd).map (fun d=>("door ":Str)++dnA A d)++(List.range k).map (crowT (nmA A nd) (dnA A) (fun k=>(X k).c) (fun k=>(X k).t) (fun k=>(X k).m) (ldA nd li) st)).map D.str).length<=1000:=by
     simp only[List.length_map,List.length_append,List.length_range];omega
    refine⟨[some (.k,Pl),some (.k,.lst ((A.take nd).map .str)),some (.k,rl n (seatL A nd X li st)),some (.k,En),some (.k,rl (nd+n) (fun i=>.str (A.getD i Str.empty))),some (.o,.lst (((List.range nd).map (fun d=>("door ":Str)++dnA A d)++(List.range (k+1)).map (crowT (nmA A nd) (dnA A) (fun k=>(X k).c) (fun k=>(X k).t) (fun k=>(X k).m) (ldA nd li) st)).map .str)),some (.k,seatL A nd X li st k),some (.k,.lst (([("clerk":Str),nmA A nd k,ctext (X k).c (X k).t,"at",it (st k),"to"]++(List.range (X k).m).map (fun j=>nml (nmA A nd) (dnA A) (ldA nd li k j))).map .str))],?_,_,_,rfl⟩
    rw[← ea]
    refine r_gN (by walk_at "s") ?_
    unfold QeG
    refine r_seq (r_set (r_e2 (r_lst (Qg r_C (Qg (r_e2 (r_var rfl) r_C (s0 k)) (Qg (r_e2 (r_var rfl) r_C (s3 k)) (Qg r_C (Qg (r_eA (Qg (r_e2 (r_var rfl) r_C (s5 k)) r_nil) hst) (Qg r_C r_nil)))))) (show 6<=1000 by decide)) (c2 _ _) hcw) (by walk_at "s")) (Ql ?_)
    exact r_app rfl (Qfr r_C (r_var rfl) hjw) hle (by walk_at "s"))
   [some (.k,Pl),some (.k,.lst ((A.take nd).map .str)),some (.k,rl n (seatL A nd X li st)),some (.k,En),some (.k,rl (nd+n) (fun i=>.str (A.getD i Str.empty))),some (.o,rl nd (fun d=>.str (("door ":Str)++dnA A d))),none,none] ⟨none,none,by
    have e:rl nd (fun d=>D.str (("door ":Str)++dnA A d))=.lst (((List.range nd).map (fun d=>("door ":Str)++dnA A d)++(List.range 0).map (crowT (nmA A nd) (dnA A) (fun k=>(X k).c) (fun k=>(X k).t) (fun k=>(X k).m) (ldA nd li) st)).map .str):=by
     rw[List.range_zero,List.map_nil,List.append_nil,List.map_map];rfl
    rw[e]⟩
  have hfor:=QbK (g:=gN 6) (T:=QeG) (its:=itL (eVar 2)) (xs:=(List.range n).map (seatL A nd X li st)) (ς:=[some (.k,Pl),some (.k,.lst ((A.take nd).map .str)),some (.k,rl n (seatL A nd X li st)),some (.k,En),some (.k,rl (nd+n) (fun i=>.str (A.getD i Str.empty))),some (.o,rl nd (fun d=>.str (("door ":Str)++dnA A d))),none,none]) (r_itL (r_var rfl)) hL
  have c3:∀ a5:Option (SM×D),eComp [none,none,some 2] (itL (eVar 3)) (gT [0,1]) cTrue QgG [some (.k,Pl),some (.k,.lst ((A.take nd).map .str)),some (.k,rl n (seatL A nd X li st)),some (.k,En),some (.k,rl (nd+n) (fun i=>.str (A.getD i Str.empty))),a5,a6,a7]=.ok (rl ne (fun j=>.str (("entry ":Str)++en j++(" ":Str)++nmA A nd (ek j)))):=fun a5=>by
   refine QH (fun j=>D.tup [.str (en j),.int ((ek j:Nat):Int)]) (fun j=>D.str (("entry ":Str)++en j++(" ":Str)++nmA A nd (ek j))) (r_itL (r_var (by rw[← hEn];rfl))) (fun j hj=>?_) (by rw[List.length_range];omega)
   have hj:=List.mem_range.mp hj
   refine QpO (by walk_at "cap") (by walk_at "all") ?_
   unfold QgG
   exact r_e2 (r_e2 (r_e2 r_C (r_var rfl) (QbF ten (hn.c j hj) (by decide))) r_C (QbF (ten.app (hn.c j hj)) tbl (by decide))) (r_e2 (r_e2 (r_var rfl) (r_var rfl) (hxS _ (hE.rng j hj))) r_C (s0 _)) (QbF ((ten.app (hn.c j hj)).app tbl) (hn.a _ (hE.rng j hj)) (by decide))
  rw[QEk]
  unfold Qf1
  refine Q5 (fl:=.rt false (.str (Txt.join "; " (rowsT n nd ne (nmA A nd) (dnA A) (fun k=>(X k).c) en ek (fun k=>(X k).t) (fun k=>(X k).m) (ldA nd li) st)))) ?_ r_rt
  refine r_seq (hun 4 [none,none,none,none] rfl (.inr rfl)) (Ql (r_seq (r_set (r_e2 (r_var rfl) (c0 _ _ _) hcat) (by walk_at "s")) (Ql (r_seq (QdQ (c1 _ _ _ _) (by walk_at "s")) (Ql (r_seq hfor (Ql ?_)))))))
  exact r_ret (Qfr r_C (r_e2 (QdT rfl) (c3 _) hend) hj)
 ·-- what is handed in
  have c0:∀ a5:Option (SM×D),eComp [none] (itL (eVar 2)) (gN 0) cTrue QeV [some (.k,Pl),some (.k,.lst ((A.take nd).map .str)),some (.k,rl n (seatL A nd X li st)),some (.k,En),none,a5]=.ok (rl n (fun k=>.str (nmA A nd k))):=fun a5=>by
   refine QH (seatL A nd X li st) (fun k=>.str (nmA A nd k)) rfl (fun k hk=>?_) (by rw[List.length_range];omega)
   refine QN (by walk_at "cap") (by walk_at "s") ?_
   unfold QeV
   exact r_e2 (r_var rfl) r_C (s0 k)
  have c1:∀ a5:Option (SM×D),eComp [none,some 4] (itL (eVar 2)) (gN 0) cTrue QeR [some (.k,Pl),some (.k,.lst ((A.take nd).map .str)),some (.k,rl n (seatL A nd X li st)),some (.k,En),some (.k,rl (nd+n) (fun i=>.str (A.getD i Str.empty))),a5]=.ok (rl n (seatD (nmA A nd) (dnA A) (fun k=>(X k).c) (fun k=>(X k).t) (fun k=>(X k).m) (ldA nd li) st)):=fun a5=>by
   refine QH (seatL A nd X li st) (seatD (nmA A nd) (dnA A) (fun k=>(X k).c) (fun k=>(X k).t) (fun k=>(X k).m) (ldA nd li) st) rfl (fun k hk=>?_) (by rw[List.length_range];omega)
   have hk:=List.mem_range.mp hk
   obtain⟨xc,tb,xl,xs0,xs1⟩:=hX k hk
   have m6:=tb.m6
   have c2:eComp [none,some 1] (itL (e2 dIx (eVar 0) (eC (.int 4)))) (gN 0) cTrue QeU [some (.k,seatL A nd X li st k),some (.k,rl (nd+n) (fun i=>.str (A.getD i Str.empty)))]=.ok (rl (X k).m (fun j=>.str (nml (nmA A nd) (dnA A) (ldA nd li k j)))):=by
    refine QH (fun j=>D.int ((li k j:Nat):Int)) (fun j=>D.str (nml (nmA A nd) (dnA A) (ldA nd li k j))) (r_itL (r_e2 (r_var rfl) r_C (s4 k))) (fun j hj=>?_) (by rw[List.length_range];omega)
    have hj:=xl j (List.mem_range.mp hj)
    rw[nml_A hj]
    refine QN (by walk_at "cap") (by walk_at "s") ?_
    unfold QeU
    exact r_e2 (r_var rfl) (r_var rfl) (hxA _ hj)
   refine QN (by walk_at "cap") (by walk_at "s") ?_
   unfold QeR
   exact r_tup (Qg (r_e2 (r_var rfl) r_C (s0 k)) (Qg (r_e2 (r_var rfl) r_C (s1 k)) (Qg c2 (Qg (r_e2 (r_var rfl) r_C (s5 k)) r_nil)))) (show 4<=1000 by decide)
  have c3:∀ a4 a5:Option (SM×D),eComp [none,none,some 2] (itL (eVar 3)) (gT [0,1]) cTrue Qe5 [some (.k,Pl),some (.k,.lst ((A.take nd).map .str)),some (.k,rl n (seatL A nd X li st)),some (.k,En),a4,a5]=.ok (rl ne (entD (nmA A nd) en ek)):=fun a4 a5=>by
   refine QH (fun j=>D.tup [.str (en j),.int ((ek j:Nat):Int)]) (entD (nmA A nd) en ek) (r_itL (r_var (by rw[← hEn];rfl))) (fun j hj=>?_) (by rw[List.length_range];omega)
   have hj:=List.mem_range.mp hj
   refine QpO (by walk_at "cap") (by walk_at "all") ?_
   unfold Qe5
   exact r_tup (Qg (r_var rfl) (Qg (r_e2 (r_e2 (r_var rfl) (r_var rfl) (hxS _ (hE.rng j hj))) r_C (s0 _)) r_nil)) (show 2<=1000 by decide)
  have hdl:dList (.lst ((A.take nd).map .str))=.ok (rl nd (fun d=>.str (dnA A d))):=by rw[ht];rfl
  rw[QxF]
  unfold Qek
  refine Q5 (fl:=.rt true (.lst [rl n (seatD (nmA A nd) (dnA A) (fun k=>(X k).c) (fun k=>(X k).t) (fun k=>(X k).m) (ldA nd li) st),rl ne (entD (nmA A nd) en ek),rl nd (fun d=>.str (dnA A d))])) ?_ r_rtT
  refine r_seq (hun 2 [none,none] rfl (.inl rfl)) (Ql (r_seq (r_set (r_e2 (r_var rfl) (c0 _) hcat) (by walk_at "s")) (Ql (r_seq (r_set (c1 _) (by walk_at "s")) (Ql ?_)))))
  exact QcQ (r_lst (Qg (r_var rfl) (Qg (c3 _ _) (Qg (r_e1 (r_var rfl) hdl) r_nil))) (show 3<=1000 by decide))
end
theorem QrA(ns:List Int){M:Nat}(hM:1<=M)(hM2:M<=60):∃ Pl:D,Good Pl/\QaD [.lst (ns.map .int),.int (M:Int)]=.ok Pl:=by
 obtain⟨nd,n,ne,A,X,li,st,en,ek,d1,d6,n1,n60,hA,hN,hX,hE,hW,h⟩:=QJu ns hM hM2
 exact⟨_,QKP d1 d6 n1 n60 hA hN hX hE hW,h⟩
theorem the_law(ns:List Int)(hl:ns.length<=63)(hb:∀ z∈ns,bitsI z<=1048576):Qg8 [.lst (ns.map .int)]=.ok (.bl true):=by
 obtain⟨P1,G1,h1⟩:=QrA ns (M:=60) (by decide) (by decide)
 obtain⟨P2,G2,h2⟩:=QrA ns (M:=12) (by decide) (by decide)
 have h1:QaD [.lst (ns.map .int),.int 60]=.ok P1:=h1
 have h2:QaD [.lst (ns.map .int),.int 12]=.ok P2:=h2
 obtain⟨_,_,_,_,T1,hT1,ht1,_⟩:=id G1
 generalize D.lst (ns.map D.int)=S at *
 have hlen:fLen [.str T1]=.ok (.int (T1.length:Int)):=by
  have:=hT1.len
  have hf:fits T1.length=true:=decide_eq_true (Nat.le_trans this (by decide))
  simp[fLen,hf]
 obtain⟨Pl,GP,hif⟩:∃ Pl:D,Good Pl/\sIf (tVal (e2 dGt (eA fLen (aCons (eA (fun xs=>Qa6 (xs++[])) (aCons (eVar 1) aNil)) aNil)) (eC (.int 4000)))) (sSet 1 (eA (fun xs=>QaD (xs++[])) (aCons (eVar 0) (aCons (eC (.int 12)) aNil)))) sNil [some (.k,S),some (.k,P1),none,none,none,none]=.ok (.nx [some (.k,S),some (.k,Pl),none,none,none,none]):=by
  have tst:tVal (e2 dGt (eA fLen (aCons (eA (fun xs=>Qa6 (xs++[])) (aCons (eVar 1) aNil)) aNil)) (eC (.int 4000))) [some (.k,S),some (.k,P1),none,none,none,none]=.ok (decide (4000<(T1.length:Int))):=QaK (r_e2 (r_eA (Qg (Qax (xs:=[P1]) (Qg (r_var rfl) r_nil) rfl ht1) r_nil) hlen) r_C (QdB _ _))
  by_cases q:4000<(T1.length:Int)
  ·exact⟨P2,G2,r_ifT tst (decide_eq_true q) (r_set (Qax (xs:=[S,.int 12]) (Qg (r_var rfl) (Qg r_C r_nil)) rfl h2) (by walk_at "s"))⟩
  ·exact⟨P1,G1,r_ifF tst (decide_eq_false q) QbU⟩
 obtain⟨H1,H2,H3,fs,T,hT,ht,hh,hO,hw⟩:=GP
 have i0:dIx (.lst [H1,H2,H3]) (.int 0)=.ok H1:=ixL 0 rfl
 have i1:dIx (.lst [H1,H2,H3]) (.int 1)=.ok H2:=ixL 1 rfl
 have i2:dIx (.lst [H1,H2,H3]) (.int 2)=.ok H3:=ixL 2 rfl
 have he:dEq (.str T) (.str T)=.ok (.bl true):=by rw[QBZ hT.ok hT.ok,beq_self_eq_true]
 have hi:isaT "str" (.str T)=.ok true:=rfl
 rw[QLe]
 unfold QuE
 refine Q5 (fl:=.rt false (.bl true)) ?_ r_rt
 refine r_seq (r_set (Qax (xs:=[S,.int 60]) (Qg (r_var rfl) (Qg r_C r_nil)) rfl h1) (by walk_at "s")) (Ql (r_seq hif (Ql ?_)))
 refine r_seq (r_set (Qax (xs:=[Pl]) (Qg (r_var rfl) r_nil) rfl hh) (by walk_at "s")) (Ql ?_)
 refine r_seq (r_set (Qie (Qg (r_e2 (r_var rfl) r_C i0) (Qg (r_e2 (r_var rfl) r_C i1) (Qg (r_e2 (r_var rfl) r_C i2) r_nil))) hO) (by walk_at "s")) (Ql ?_)
 refine r_seq (r_set (Qax (xs:=[.ins "Office" fs]) (Qg (r_var rfl) r_nil) rfl hw) (by walk_at "s")) (Ql (r_seq (r_set (Qax (xs:=[Pl]) (Qg (r_var rfl) r_nil) rfl ht) (by walk_at "s")) (Ql ?_)))
 exact r_ret (QxT (r_isa (r_var rfl) hi) (Qfv rfl (QxT (r_e2 (r_var rfl) (r_var rfl) he) (Qfv rfl (r_e2 (Qax (xs:=[.ins "Office" fs]) (Qg (r_var rfl) r_nil) rfl hw) (r_var rfl) he)))))
end My
namespace My
open PySem PySem.Spec L2 DL
set_option hygiene false
local macro_rules
 | `("L"^$f $a $b $x $y $s $d $c $e $g $h $i $j $z) => `(K.lookup $f=some ⟨$a,$b,.func (W.fnOf $x $y (Qp $s) (Qo $s) (Qb $s) $d $c $e $g $h $i $j),$z⟩)
 | `("N"^$x $s) => `(W.nsIn K mainGlobals $s=some (some (.ref $x)))
 | `("Z"^$s) => `(W.nsIn K mainGlobals $s=some none)
 | `("K"^$x) => `(W.keepIn K (.ref $x)=true)
 | `("C"^$x $s) => `(W.codeIn K $x $s=true)
 | `("I"^$x) => `(W.isFn K (.ref $x)=true)
 | `("V"^$x $s) => `(W.findIn K (.ref $x) $s=some none)
 | `("G"^$x $s $y) => `(W.findIn K (.ref $x) $s=some (some (.ref $y)))
 | `("T"^$x $y $b) => `(W.kitOne K (.ref $x) (.ref $y)=some $b)
 | `("D"^$a $b $c $d) => `(⟨_,_,_,_,$a,W.mg_of X G $b,$c,$d,.nil⟩)
 | `("F"^$k $l $b $q) => `(FnOk l.prog w K mg base CX0 $k _ _ $l (SpD K (ctOf K) $b $q))
 | `("E"^$q $s $k $b) => `(DefOk l.prog w K mg base (ctOf K) $s $k $b [] $q)
 | `("A"^$x) => `(W.mg_of X G $x)
 | `("R"^$a $b $c) => `(by rw[$a:term]at hA;cases hA;exact⟨$b,$c⟩)
local macro_rules
 | `(tactic|walk_at "h0") => `(tactic|((have hm:c∈Qj := by simpa using hc);simp only[Qj,List.mem_cons,List.not_mem_nil,or_false]at hm))
 | `(tactic|walk_at "h1") => `(tactic|((have hm:c∈Qc := by simpa using hc);simp only[Qc,List.mem_cons,List.not_mem_nil,or_false]at hm))
 | `(tactic|walk_at "h2") => `(tactic|((have hm:c∈Qi := by simpa using hc);simp only[Qi,List.mem_cons,List.not_mem_nil,or_false]at hm))
set_option hygiene true
theorem all_mk{l:W.OpenLaw}{w:World}{K:W.Frag}{h:Heap}{mg:Str->Option Value}{fa:Addr}(X:K.In h)(G:h.Ns mainGlobals mg)(hfa:mg "law"=some (.ref fa))
 {QD Qv QE QF QB QV QdP QdV QcS QdO Qam Q8 QcR Qcs Qct QbA QaJ QdS QcT QdR QdM Qal Qcn Qcy Qcx Qcw QbD QcN Qgj QiC QfK QjW Qe3 Qiv Qht Qml QiK Qge Qhl Qik QgD Qij Qgs Qhj QjU Qgq Qkw Qho Qhx QiJ Qkp Qhr QiE QfB QiH QiL QgC Qhs QjM Qii QCy:Addr} {Qur Qtw QAu Qy1 Qpf Qql QCt QDK Qon QnN Qki Qkb QyS QBw QxQ QwX QFm QEN QA8 QBs Qu2 QwE Qso QsW Qvb QuK Qqb Qo9 Qwl QxJ Qw6 QuN Qyj QBf Qs2 Qsu Qyu QAj Qtt Qti Qxq Qw2 QEF QDX QsU Qul QEE QDg Qv5 Qxv QuL Qvj Qz2 QAT Quo QtG Qnp QmW QDU QDS QxC QxL QzE QAC Qq8 Qpm Qzc QAz QqS Qrf QoC Qoj Qo3 Qm7 Qk2 Qli QAK Qy3 QmN QmG QxR Qxj QpW Qrs QuT QuU QvK QwJ Qup Qsx QnV Qoe Qm8 QoA QsP Qsg Qot QoW Qo6 Qoh Qwe QvQ Qk6 Qlb Qq0 Qpv QEB QEm QBr QBq QKi QGw:Option Addr} {Qts QzL QpJ QC6 QoE Qkn Qz1 QuJ QGR Qz6 Qwi QtY QuV QqT QvB QxN QyM QtK Qyv QsM Qxp QDW Qtk QCo QvU Qx1 QyI QsL QoP QCl QxK QAi Qrw Qz8 QpU Qnu Qol Qlf Qyo Qmb QxS Qqp Qva Qx0 QsK Qn5 QoQ Quz Qn4 Qod QwY Qlg Qph QDp Qzf QKb:Array (Option Value)} {Qug Qs8 QsC QsH Qi7 Que QBd QAL QAD QBc QlD QzF QqC QpI Qpw QqI Qia QpM QCw QDT QEi QEJ QoI QEt QmY Qna QoU QnW Qhd Qoy Qku Qka QjN QjP Qfp QjG Qzn QyN QAm QAM QlW QyD Qx5 Qwx QwD Qwf Qkc QvN QEW QE5 QGb QFJ QrM QGC QBB Qzl QAs QBo QlN Qz7 Qxb Qxn Qvc QxE Qj6 QvE Qss QtF Qus Qux Qi6 Qsw Qwr QuW QvP Qxy QjL QvS Qqd Qpj Qro Qpx QhJ Qpc QvZ QuF Qv2 Qyb Qkh Qvm QuX QxO Qxi Qxd QjB Qw3 QBG QAO QA0 QAN QlA QyF QtH QtW Qt5 Qs7 Qjb Qsb QAk QAG QBt QyO Ql2 QzY QsX Qsz QtN QsA QiR Qst Qyd QwR Qxh Qv0 Qjn QvV QC4 QDN QCO QDi Qnq QEg Qs3 QtR Qtj Qsd Qi5 Quq QDZ QCS QEv QEd Qm1 QDm Qvk Qu6 QuH Qvw QkD Qu3 QuP Qvl Qvz Qvd Qj0 QuZ QAX QyQ QBA QAh QlX QAv Qsl Qtr QtB Qs6 QiT QtT QnP Qnf Qo2 QnA Qhf Qo1 QCU QDY QCN QEA QnL QEj QwC QvO QwU Qxa Qj2 QwS QAF QBe QBM QzV QlR Qy7 QqH Qpn QqV Qrp Qh4 Qp5 Qyy QBg Qy8 QAZ QlF Qyw Qpb QpN Qqj Qq2 QhX Qrc Qm5 Qo0 Qm3 QnM QgO QnR Qnn QoJ QoB QnC QgS QnX Qk8 Qlk Qlc Qk1 QfQ QkZ QyV Qzz QBz QAl QlL QAU QmO Qmv Qmh QmS Qgb Qmf QvD QxA Qxw QvH Qjy Qvs QqQ Qre Qqz Qq7 Qh5 Qp7 QxB QwG Qv6 Qxz Qkg Qwv QvT QwZ QuG QxW QjH QxD Qt9 Quf QuD Qtl Qjh Qut QmX Qnk QnO Qoq QgP Qm4 Qoz Qoo Qow QoS Qg0 Qnr Qua Quy QtL Quw QiX Qs9 Qn0 Qop Qo4 Qns QgU Qnh QmV Qn1 Qm2 Qm9 Qhb Qou Qxg Qwn QuQ QuY QjF Qxt Qk0 Qk9 Qlh Qld QfO Qlj Qrj QpQ Qpa Qqs QhZ Qqx QDx QDE QDB QD2 Qni QEI QAw Qza Qyh QBl QlE QzI QKd QFz QGM QFB Qwb QF0:Value} {vg vh vi vc vn va v8 vd:Tok}
 (QGP:"N"^QD "Deal")
 (QIR:W.plainGet K QD Str.empty=true)
 (QJF:W.hasDictIn K QD=true)
 (QII:W.plainOver K QD=true)
 (QI1:W.findIn K (.ref QD) "__setattr__"=some (some (.builtin "object.__setattr__")))
 (Quk:"V"^QD "table")
 (Quc:"V"^QD "heads")
 (Qjl:"V"^QD "clerk_names")
 (QjX:"V"^QD "door_names")
 (QiD:"V"^QD "entry_places")
 (Qum:"V"^QD "staff")
 (Qiz:"V"^QD "first_states")
 (QwB:"V"^QD "ways")
 (QvC:"N"^Qv "Bundle")
 (QFC:W.plainGet K Qv Str.empty=true)
 (QE8:W.hasDictIn K Qv=true)
 (QEK:W.plainOver K Qv=true)
 (QF3:W.findIn K (.ref Qv) "__setattr__"=some (some (.builtin "object.__setattr__")))
 (Qm0:"V"^Qv "table")
 (Qn7:"V"^Qv "heads")
 (QhW:"V"^Qv "clerk_names")
 (Qir:"V"^Qv "door_names")
 (Qhn:"V"^Qv "entry_places")
 (Qnl:"V"^Qv "staff")
 (Qhp:"V"^Qv "first_states")
 (QqY:"V"^Qv "ways")
 (QGD:"N"^QE "Copy")
 (QID:W.plainGet K QE Str.empty=true)
 (QI2:W.hasDictIn K QE=true)
 (QIc:W.plainOver K QE=true)
 (QIt:W.findIn K (.ref QE) "__setattr__"=some (some (.builtin "object.__setattr__")))
 (Qui:"V"^QE "table")
 (Qtn:"V"^QE "heads")
 (Qjj:"V"^QE "clerk_names")
 (QjO:"V"^QE "door_names")
 (Qiq:"V"^QE "entry_places")
 (Qth:"V"^QE "staff")
 (QiB:"V"^QE "first_states")
 (QwM:"V"^QE "ways")
 (QE9:"N"^QF "Rows")
 (QI9:W.plainGet K QF Str.empty=true)
 (QJh:W.hasDictIn K QF=true)
 (QIr:W.plainOver K QF=true)
 (QIy:W.findIn K (.ref QF) "__setattr__"=some (some (.builtin "object.__setattr__")))
 (Qsk:"V"^QF "table")
 (QsT:"V"^QF "heads")
 (Qjk:"V"^QF "clerk_names")
 (QjC:"V"^QF "door_names")
 (Qil:"V"^QF "entry_places")
 (Qub:"V"^QF "staff")
 (Qin:"V"^QF "first_states")
 (QwK:"V"^QF "ways")
 (Qwc:"N"^QB "Office")
 (QFD:W.plainGet K QB Str.empty=true)
 (QGJ:W.hasDictIn K QB=true)
 (QFS:W.plainOver K QB=true)
 (QEY:W.findIn K (.ref QB) "__setattr__"=some (some (.builtin "object.__setattr__")))
 (Qok:"V"^QB "table")
 (Qn2:"V"^QB "heads")
 (QhU:"V"^QB "clerk_names")
 (Qiu:"V"^QB "door_names")
 (Qhu:"V"^QB "entry_places")
 (Qom:"V"^QB "staff")
 (Qhz:"V"^QB "first_states")
 (Qrm:"V"^QB "ways")
 (QBH:"G"^QD "outs" Qam)
 (QtO:"G"^Qv "outs" Qam)
 (Qyn:"G"^QE "outs" Qam)
 (QzT:"G"^QF "outs" Qam)
 (Qsh:"G"^QD "period" Q8)
 (Qoa:"G"^Qv "period" Q8)
 (Qs5:"G"^QE "period" Q8)
 (Qsj:"G"^QF "period" Q8)
 (QBK:"G"^QD "word" QdS)
 (QsE:"G"^Qv "word" QcT)
 (QzU:"G"^QE "word" QdR)
 (QyX:"G"^QF "word" QdM)
 (Qqf:"G"^QD "numbers" Qct)
 (QmB:"G"^Qv "numbers" QbA)
 (Qpg:"G"^QE "numbers" QaJ)
 (Qpk:"G"^QF "numbers" QaJ)
 (Qrr:"G"^QB "names" Qcs)
 (Qq3:"G"^QB "doors" Qcn)
 (Qp3:"G"^QB "leads" Qcy)
 (QyA:"G"^QD "text" Qal)
 (Qsm:"G"^Qv "text" Qal)
 (QzB:"G"^QE "text" Qal)
 (QyW:"G"^QF "text" Qal)
 (Qrt:"G"^QB "clerk" Qcx)
 (Qqq:"G"^QB "begin" Qcw)
 (Qtd:"G"^QB "many" QcN)
 (QmD:"G"^QB "entries" QbD)
 (Qmk:"G"^QD "keep_rows" QV)
 (Qko:"G"^Qv "keep_rows" QV)
 (Qmr:"G"^QE "keep_rows" QV)
 (Qmc:"G"^QF "keep_rows" QV)
 (QAq:"G"^QD "__init__" QdV)
 (Qse:"G"^Qv "__init__" QcS)
 (QBJ:"G"^QE "__init__" QdO)
 (QyU:"G"^QF "__init__" QdP)
 (Qt1:"G"^QB "__init__" QcR)
 (QH7:W.makesIn K QD=true)
 (QHy:"K"^QD)
 (QCm:W.makesIn K Qv=true)
 (QCR:"K"^Qv)
 (QHN:W.makesIn K QE=true)
 (QG6:"K"^QE)
 (QHd:W.makesIn K QF=true)
 (QHG:"K"^QF)
 (QDj:W.makesIn K QB=true)
 (QEq:"K"^QB)
 (y1:W.specialIn K (.builtin "object.__class__") "__get__"=some (some (.builtin "getset_descriptor.__get__")))
 (y2:W.takesIn K (.builtin "object.__class__")=some true)
 (QJC:W.findIn K (.ref QD) "__class__"=some (some (.builtin "object.__class__")))
 (QH9:W.mroIn K QD (.type "object")=some true)
 (QF8:W.findIn K (.ref Qv) "__class__"=some (some (.builtin "object.__class__")))
 (QFa:W.mroIn K Qv (.type "object")=some true)
 (QIL:W.findIn K (.ref QE) "__class__"=some (some (.builtin "object.__class__")))
 (QI3:W.mroIn K QE (.type "object")=some true)
 (QI0:W.findIn K (.ref QF) "__class__"=some (some (.builtin "object.__class__")))
 (QJA:W.mroIn K QF (.type "object")=some true)
 (QGI:W.findIn K (.ref QB) "__class__"=some (some (.builtin "object.__class__")))
 (QFh:W.mroIn K QB (.type "object")=some true)
 (Qye:"N"^Qgj "_law_digits")
 (Qu1:"L"^Qgj Qug Qur "_law_digits" "_law_digits" Qco .none Qs8 QsC QsH Qtw Qi7 Que Qts)
 (Qxl:"C"^Qi7 "_law_digits")
 (Qkt:"K"^Qgj)
 (QC7:"N"^QiC "_law_cell")
 (QEa:"L"^QiC QBd QAu "_law_cell" "_law_cell" QdG .none QAL QAD QBc Qy1 QlD QzF QzL)
 (QCJ:"C"^QlD "_law_cell")
 (QnJ:"K"^QiC)
 (QtS:"N"^QfK "_law_figures")
 (Qtv:"L"^QfK QqC Qpf "_law_figures" "_law_figures" QbO .none QpI Qpw QqI Qql Qia QpM QpJ)
 (QsG:"C"^Qia "_law_figures")
 (QiO:"K"^QfK)
 (QFN:"N"^QjW "sums_of")
 (QGl:"L"^QjW QCw QCt "sums_of" "sums_of" Qdj .none QDT QEi QEJ QDK QoI QEt QC6)
 (QFl:"C"^QoI "sums_of")
 (QrL:"K"^QjW)
 (Qp1:"N"^Qe3 "running_sums")
 (Qp4:"L"^Qe3 QmY Qon "running_sums" "running_sums" Qa3 .none Qna QoU QnW QnN Qhd Qoy QoE)
 (Qra:"C"^Qhd "running_sums")
 (Qh8:"K"^Qe3)
 (Qci:"I"^QV)
 (Qle:"L"^QV Qku Qki "keep_rows" "Clerk.keep_rows" Qay .none Qka QjN QjP Qkb Qfp QjG Qkn)
 (Qk7:"C"^Qfp "Clerk.keep_rows")
 (Qbl:"K"^QV)
 (QEp:"N"^Qiv "is_whole")
 (QCV:"L"^Qiv Qzn QyS "is_whole" "is_whole" QdA .none QyN QAm QAM QBw QlW QyD Qz1)
 (QEu:"C"^QlW "is_whole")
 (QmZ:"K"^Qiv)
 (QyL:"N"^Qht "is_within")
 (QBu:"L"^Qht Qx5 QxQ "is_within" "is_within" Qc4 .none Qwx QwD Qwf QwX Qkc QvN QuJ)
 (Qzr:"C"^Qkc "is_within")
 (QlS:"K"^Qht)
 (QHj:"N"^Qml "is_row")
 (QHE:"L"^Qml QEW QFm "is_row" "is_row" Qd8 .none QE5 QGb QFJ QEN QrM QGC QGR)
 (QHa:"C"^QrM "is_row")
 (Qve:"K"^Qml)
 (QDr:"N"^QiK "is_table")
 (QCn:"L"^QiK QBB QA8 "is_table" "is_table" QbZ .none Qzl QAs QBo QBs QlN Qz7 Qz6)
 (QCZ:"C"^QlN "is_table")
 (QoT:"K"^QiK)
 (QA7:"I"^QdP)
 (Qzj:"L"^QdP Qxb Qu2 "__init__" "Rows.__init__" Qc5 .none Qxn Qvc QxE QwE Qj6 QvE Qwi)
 (QAr:"C"^Qj6 "Rows.__init__")
 (Qyl:"K"^QdP)
 (QwV:"N"^Qge "single_row")
 (Qxo:"L"^Qge Qss Qso "single_row" "single_row" QbB .none QtF Qus Qux QsW Qi6 Qsw QtY)
 (Qxe:"C"^Qi6 "single_row")
 (QjQ:"K"^Qge)
 (QBi:"I"^QdV)
 (Qzo:"L"^QdV Qwr Qvb "__init__" "Deal.__init__" Qcd .none QuW QvP Qxy QuK QjL QvS QuV)
 (QA5:"C"^QjL "Deal.__init__")
 (QBI:"K"^QdV)
 (QsD:"I"^QcS)
 (Qsi:"L"^QcS Qqd Qqb "__init__" "Bundle.__init__" Qbi .none Qpj Qro Qpx Qo9 QhJ Qpc QqT)
 (Qsf:"C"^QhJ "Bundle.__init__")
 (Qtc:"K"^QcS)
 (Qz3:"I"^QdO)
 (QAV:"L"^QdO QvZ Qwl "__init__" "Copy.__init__" QcZ .none QuF Qv2 Qyb QxJ Qkh Qvm QvB)
 (Qzv:"C"^Qkh "Copy.__init__")
 (Qyq:"K"^QdO)
 (QzN:"N"^Qhl "_law_clerk")
 (Qyk:"L"^Qhl QuX Qw6 "_law_clerk" "_law_clerk" Qah .none QxO Qxi Qxd QuN QjB Qw3 QxN)
 (QBx:"C"^QjB "_law_clerk")
 (Qlz:"K"^Qhl)
 (QDt:"N"^Qik "_law_name")
 (QDd:"L"^Qik QBG Qyj "_law_name" "_law_name" Qdw .none QAO QA0 QAN QBf QlA QyF QyM)
 (QDI:"C"^QlA "_law_name")
 (QoX:"K"^Qik)
 (Qxx:"N"^QgD "_law_let_in")
 (Qvx:"L"^QgD QtH Qs2 "_law_let_in" "_law_let_in" Qcj .none QtW Qt5 Qs7 Qsu Qjb Qsb QtK)
 (Qwj:"C"^Qjb "_law_let_in")
 (QjE:"K"^QgD)
 (QDA:"N"^Qij "_law_plan")
 (QED:"L"^Qij QAk Qyu "_law_plan" "_law_plan" QbV .none QAG QBt QyO QAj Ql2 QzY Qyv)
 (QDJ:"C"^Ql2 "_law_plan")
 (QoD:"K"^Qij)
 (QxI:"N"^Qgs "_law_handed")
 (QvJ:"L"^Qgs QsX Qtt "_law_handed" "_law_handed" QaB .none Qsz QtN QsA Qti QiR Qst QsM)
 (Qxm:"C"^QiR "_law_handed")
 (QjA:"K"^Qgs)
 (QBm:"N"^Qhj "places_of")
 (QyT:"L"^Qhj Qyd Qxq "places_of" "places_of" Qc3 .none QwR Qxh Qv0 Qw2 Qjn QvV Qxp)
 (Qzg:"C"^Qjn "places_of")
 (Qlp:"K"^Qhj)
 (QFx:"N"^QjU "is_list")
 (QFO:"L"^QjU QC4 QEF "is_list" "is_list" Qea .none QDN QCO QDi QDX Qnq QEg QDW)
 (QFI:"C"^Qnq "is_list")
 (QrN:"K"^QjU)
 (Qwm:"N"^Qgq "all_unlike")
 (Qvi:"L"^Qgq Qs3 QsU "all_unlike" "all_unlike" Qcr .none QtR Qtj Qsd Qul Qi5 Quq Qtk)
 (Qw4:"C"^Qi5 "all_unlike")
 (Qkx:"K"^Qgq)
 (QGr:"N"^Qkw "is_name")
 (QE3:"L"^Qkw QDZ QEE "is_name" "is_name" Qdh .none QCS QEv QEd QDg Qm1 QDm QCo)
 (QE6:"C"^Qm1 "is_name")
 (QrR:"K"^Qkw)
 (QAB:"N"^Qho "are_names")
 (QzR:"L"^Qho Qvk Qv5 "are_names" "are_names" Qb8 .none Qu6 QuH Qvw Qxv QkD Qu3 QvU)
 (Qzk:"C"^QkD "are_names")
 (Qln:"K"^Qho)
 (QBn:"N"^Qhx "are_texts")
 (QzD:"L"^Qhx QuP QuL "are_texts" "are_texts" Qca .none Qvl Qvz Qvd Qvj Qj0 QuZ Qx1)
 (QAn:"C"^Qj0 "are_texts")
 (QlZ:"K"^Qhx)
 (QCL:"N"^QiJ "is_clerk")
 (QC0:"L"^QiJ QAX Qz2 "is_clerk" "is_clerk" Qdn .none QyQ QBA QAh QAT QlX QAv QyI)
 (QDe:"C"^QlX "is_clerk")
 (QoR:"K"^QiJ)
 (Qeo:"I"^Qam)
 (QwW:"L"^Qam Qsl Quo "outs" "Clerk.outs" Qcp .none Qtr QtB Qs6 QtG QiT QtT QsL)
 (Qya:"C"^QiT "Clerk.outs")
 (Qdi:"K"^Qam)
 (Qds:"I"^Q8)
 (Qqy:"L"^Q8 QnP Qnp "period" "Clerk.period" Qbt .none Qnf Qo2 QnA QmW Qhf Qo1 QoP)
 (Qpr:"C"^Qhf "Clerk.period")
 (Qck:"K"^Q8)
 (QFu:"N"^Qkp "is_seat")
 (QF7:"L"^Qkp QCU QDU "is_seat" "is_seat" Qef .none QDY QCN QEA QDS QnL QEj QCl)
 (QFj:"C"^QnL "is_seat")
 (QrU:"K"^Qkp)
 (QAP:"N"^Qhr "are_seats")
 (QA9:"L"^Qhr QwC QxC "are_seats" "are_seats" Qbn .none QvO QwU Qxa QxL Qj2 QwS QxK)
 (Qyr:"C"^Qj2 "are_seats")
 (QlO:"K"^Qhr)
 (QDz:"N"^QiE "is_entry")
 (QD8:"L"^QiE QAF QzE "is_entry" "is_entry" QdF .none QBe QBM QzV QAC QlR Qy7 QAi)
 (QCK:"C"^QlR "is_entry")
 (Qov:"K"^QiE)
 (QtQ:"N"^QfB "are_entries")
 (QsR:"L"^QfB QqH Qq8 "are_entries" "are_entries" QaP .none Qpn QqV Qrp Qpm Qh4 Qp5 Qrw)
 (Qud:"C"^Qh4 "are_entries")
 (Qjg:"K"^QfB)
 (QDv:"N"^QiH "leads_to")
 (QDM:"L"^QiH Qyy Qzc "leads_to" "leads_to" QcJ .none QBg Qy8 QAZ QAz QlF Qyw Qz8)
 (QEn:"C"^QlF "leads_to")
 (QnK:"K"^QiH)
 (Qs4:"I"^QcR)
 (QtJ:"L"^QcR Qpb QqS "__init__" "Office.__init__" Q6 .none QpN Qqj Qq2 Qrf QhX Qrc QpU)
 (QuC:"C"^QhX "Office.__init__")
 (Qt7:"K"^QcR)
 (QqO:"I"^Qcs)
 (Qrq:"L"^Qcs Qm5 QoC "names" "Office.names" Qbu .none Qo0 Qm3 QnM Qoj QgO QnR Qnu)
 (QpR:"C"^QgO "Office.names")
 (QhV:"K"^Qcs)
 (Qqk:"I"^Qct)
 (Qqg:"L"^Qct Qnn Qo3 "numbers" "Deal.numbers" Qbs .none QoJ QoB QnC Qm7 QgS QnX Qol)
 (Qqc:"C"^QgS "Deal.numbers")
 (QhO:"K"^Qct)
 (Qmi:"I"^QbA)
 (Qmj:"L"^QbA Qk8 Qk2 "numbers" "Bundle.numbers" QaT .none Qlk Qlc Qk1 Qli QfQ QkZ Qlf)
 (Qma:"C"^QfQ "Bundle.numbers")
 (QgF:"K"^QbA)
 (QC3:"N"^QiL "row_text")
 (QDc:"L"^QiL QyV QAK "row_text" "row_text" QcK .none Qzz QBz QAl Qy3 QlL QAU Qyo)
 (QC8:"C"^QlL "row_text")
 (QoY:"K"^QiL)
 (QgZ:"I"^QaJ)
 (QoL:"L"^QaJ QmO QmN "numbers" "Clerk.numbers" QaL .none Qmv Qmh QmS QmG Qgb Qmf Qmb)
 (Qng:"C"^Qgb "Clerk.numbers")
 (QeM:"K"^QaJ)
 (QAJ:"I"^QdS)
 (QBb:"L"^QdS QvD QxR "word" "Deal.word" QcX .none QxA Qxw QvH Qxj Qjy Qvs QxS)
 (QzP:"C"^Qjy "Deal.word")
 (Qlr:"K"^QdS)
 (Qtm:"I"^QcT)
 (Qsp:"L"^QcT QqQ QpW "word" "Bundle.word" QbM .none Qre Qqz Qq7 Qrs Qh5 Qp7 Qqp)
 (Qt6:"C"^Qh5 "Bundle.word")
 (QiV:"K"^QcT)
 (Qy2:"I"^QdR)
 (QyG:"L"^QdR QxB QuT "word" "Copy.word" Qc0 .none QwG Qv6 Qxz QuU Qkg Qwv Qva)
 (QAW:"C"^Qkg "Copy.word")
 (QlT:"K"^QdR)
 (QAA:"I"^QdM)
 (Qyp:"L"^QdM QvT QvK "word" "Rows.word" QcY .none QwZ QuG QxW QwJ QjH QxD Qx0)
 (QyH:"C"^QjH "Rows.word")
 (Ql0:"K"^QdM)
 (QeO:"I"^Qal)
 (Qw7:"L"^Qal Qt9 Qup "text" "Clerk.text" Qcv .none Quf QuD Qtl Qsx Qjh Qut QsK)
 (QvM:"C"^Qjh "Clerk.text")
 (Qdk:"K"^Qal)
 (QpF:"I"^Qcn)
 (Qrn:"L"^Qcn QmX QnV "doors" "Office.doors" Qbx .none Qnk QnO Qoq Qoe QgP Qm4 Qn5)
 (QqG:"C"^QgP "Office.doors")
 (Qh1:"K"^Qcn)
 (QpS:"I"^Qcy)
 (Qqi:"L"^Qcy Qoz Qm8 "leads" "Office.leads" Qby .none Qoo Qow QoS QoA Qg0 Qnr QoQ)
 (Qpt:"C"^Qg0 "Office.leads")
 (Qig:"K"^Qcy)
 (QxY:"N"^QgC "lead_names")
 (Qww:"L"^QgC Qua QsP "lead_names" "lead_names" QbJ .none Quy QtL Quw Qsg QiX Qs9 Quz)
 (QxV:"C"^QiX "lead_names")
 (Qkr:"K"^QgC)
 (Qqe:"I"^Qcx)
 (Qpi:"L"^Qcx Qn0 Qot "clerk" "Office.clerk" Qbw .none Qop Qo4 Qns QoW QgU Qnh Qn4)
 (Qpo:"C"^QgU "Office.clerk")
 (QhC:"K"^Qcx)
 (QpH:"I"^Qcw)
 (Qpl:"L"^Qcw QmV Qo6 "begin" "Office.begin" Qbq .none Qn1 Qm2 Qm9 Qoh Qhb Qou Qod)
 (QpY:"C"^Qhb "Office.begin")
 (QhK:"K"^Qcw)
 (QAx:"N"^Qhs "clerk_row")
 (Qzb:"L"^Qhs Qxg Qwe "clerk_row" "clerk_row" Qc6 .none Qwn QuQ QuY QvQ QjF Qxt QwY)
 (Qyi:"C"^QjF "clerk_row")
 (QlH:"K"^Qhs)
 (Ql9:"I"^QbD)
 (Ql6:"L"^QbD Qk0 Qk6 "entries" "Office.entries" Qa2 .none Qk9 Qlh Qld Qlb QfO Qlj Qlg)
 (Qmz:"C"^QfO "Office.entries")
 (Qgn:"K"^QbD)
 (Qta:"I"^QcN)
 (QsQ:"L"^QcN Qrj Qq0 "many" "Office.many" QbN .none QpQ Qpa Qqs Qpv QhZ Qqx Qph)
 (QtE:"C"^QhZ "Office.many")
 (Qi0:"K"^QcN)
 (QF2:"N"^QjM "written")
 (QFY:"L"^QjM QDx QEB "written" "written" QbW .none QDE QDB QD2 QEm Qni QEI QDp)
 (QF6:"C"^Qni "written")
 (QrX:"K"^QjM)
 (QCH:"N"^Qii "_law_text")
 (QD7:"L"^Qii QAw QBr "_law_text" "_law_text" Qa8 .none Qza Qyh QBl QBq QlE QzI Qzf)
 (QDO:"C"^QlE "_law_text")
 (QnE:"K"^Qii)
 (QK9:"N"^QCy "law")
 (QK8:"L"^QCy QKd QKi "law" "law" Qf3 .none QFz QGM QFB QGw Qwb QF0 QKb)
 (QLd:"C"^Qwb "law")
 (QLc:"K"^QCy)
 (z_range:"Z"^"range")
 (z_len:"Z"^"len")
 (z_zip:"Z"^"zip")
 (z_list:"Z"^"list")
 (z_isinstance:"Z"^"isinstance")
 (z_int:"Z"^"int")
 (z_bool:"Z"^"bool")
 (z_all:"Z"^"all")
 (z_str:"Z"^"str")
 (z_enumerate:"Z"^"enumerate")
 (z_set:"Z"^"set")
 (z_tuple:"Z"^"tuple")
 (z_any:"Z"^"any")
 (c_MOST_OUTS:W.nsIn K mainGlobals "MOST_OUTS"=some (some (.int 6 vg)))
 (c_MOST_SENT:W.nsIn K mainGlobals "MOST_SENT"=some (some (.int 9 vh)))
 (c_MOST_ROWS:W.nsIn K mainGlobals "MOST_ROWS"=some (some (.int 12 vi)))
 (c_MOST_SIGNS:W.nsIn K mainGlobals "MOST_SIGNS"=some (some (.int 6 vc)))
 (c_LETTERS:W.nsIn K mainGlobals "LETTERS"=some (some (.str "abcdefghijklmnopqrstuvwxyz" vn)))
 (c_MOST_CLERKS:W.nsIn K mainGlobals "MOST_CLERKS"=some (some (.int 60 va)))
 (c_MOST_ENTRIES:W.nsIn K mainGlobals "MOST_ENTRIES"=some (some (.int 6 v8)))
 (c_MOST_DOORS:W.nsIn K mainGlobals "MOST_DOORS"=some (some (.int 6 vd)))
 (QtD:"T"^QB QD false)
 (QAc:"T"^QF QD false)
 (Qzp:"T"^QE QD false)
 (QsO:"T"^Qv QD false)
 (QAd:"T"^QD QD true)
 (Qnx:"T"^QB Qv false)
 (Qsn:"T"^QF Qv false)
 (QsJ:"T"^QE Qv false)
 (QnQ:"T"^Qv Qv true)
 (Quu:"T"^QD Qv false)
 (Qt4:"T"^QB QE false)
 (QyY:"T"^QF QE false)
 (QAY:"T"^QE QE true)
 (Qtx:"T"^Qv QE false)
 (QzK:"T"^QD QE false)
 (QsZ:"T"^QB QF false)
 (QyB:"T"^QF QF true)
 (QAR:"T"^QE QF false)
 (Qtu:"T"^Qv QF false)
 (QBD:"T"^QD QF false):
 ∃ fd:FuncData,(∀(s:Shared)(v:Value),BindsTo s fd ⟨[v],[]⟩ [("_law_script",v)])/\∀ base:Heap,K.In base->base.Ns mainGlobals mg->FnOk l.prog w K mg base CX0 9 fa fd ["_law_script"] (SpD K (ctOf K) false Qg8):=by
 have ee:=hfa.symm.trans ("A"^QK9)
 cases ee
 have QB1:="A"^QGP
 have Qav:=ct_of QGP
 have Qa1:Cls K QD:=⟨QIR,QJF,QII,QI1⟩
 have QrJ:="A"^QvC
 have Q3:=ct_of QvC
 have Qan:Cls K Qv:=⟨QFC,QE8,QEK,QF3⟩
 have QBO:="A"^QGD
 have Qas:=ct_of QGD
 have QaW:Cls K QE:=⟨QID,QI2,QIc,QIt⟩
 have QB2:="A"^QE9
 have Qaq:=ct_of QE9
 have Qa0:Cls K QF:=⟨QI9,QJh,QIr,QIy⟩
 have QGo:="A"^Qwc
 have Q0:=ct_of Qwc
 have Qak:Cls K QB:=⟨QFD,QGJ,QFS,QEY⟩
 have fo_table:FldOk K (ctOf K) Qj "table":=by
  intro c hc A hA
  walk_at "h0"
  rcases hm with rfl | rfl | rfl | rfl | rfl
  ·exact "R"^Qav Qa1 Quk
  ·exact "R"^Q3 Qan Qm0
  ·exact "R"^Qas QaW Qui
  ·exact "R"^Qaq Qa0 Qsk
  ·exact "R"^Q0 Qak Qok
 have fo_heads:FldOk K (ctOf K) Qj "heads":=by
  intro c hc A hA
  walk_at "h0"
  rcases hm with rfl | rfl | rfl | rfl | rfl
  ·exact "R"^Qav Qa1 Quc
  ·exact "R"^Q3 Qan Qn7
  ·exact "R"^Qas QaW Qtn
  ·exact "R"^Qaq Qa0 QsT
  ·exact "R"^Q0 Qak Qn2
 have fo_clerk_names:FldOk K (ctOf K) Qj "clerk_names":=by
  intro c hc A hA
  walk_at "h0"
  rcases hm with rfl | rfl | rfl | rfl | rfl
  ·exact "R"^Qav Qa1 Qjl
  ·exact "R"^Q3 Qan QhW
  ·exact "R"^Qas QaW Qjj
  ·exact "R"^Qaq Qa0 Qjk
  ·exact "R"^Q0 Qak QhU
 have fo_door_names:FldOk K (ctOf K) Qj "door_names":=by
  intro c hc A hA
  walk_at "h0"
  rcases hm with rfl | rfl | rfl | rfl | rfl
  ·exact "R"^Qav Qa1 QjX
  ·exact "R"^Q3 Qan Qir
  ·exact "R"^Qas QaW QjO
  ·exact "R"^Qaq Qa0 QjC
  ·exact "R"^Q0 Qak Qiu
 have fo_entry_places:FldOk K (ctOf K) Qj "entry_places":=by
  intro c hc A hA
  walk_at "h0"
  rcases hm with rfl | rfl | rfl | rfl | rfl
  ·exact "R"^Qav Qa1 QiD
  ·exact "R"^Q3 Qan Qhn
  ·exact "R"^Qas QaW Qiq
  ·exact "R"^Qaq Qa0 Qil
  ·exact "R"^Q0 Qak Qhu
 have fo_staff:FldOk K (ctOf K) Qj "staff":=by
  intro c hc A hA
  walk_at "h0"
  rcases hm with rfl | rfl | rfl | rfl | rfl
  ·exact "R"^Qav Qa1 Qum
  ·exact "R"^Q3 Qan Qnl
  ·exact "R"^Qas QaW Qth
  ·exact "R"^Qaq Qa0 Qub
  ·exact "R"^Q0 Qak Qom
 have fo_first_states:FldOk K (ctOf K) Qj "first_states":=by
  intro c hc A hA
  walk_at "h0"
  rcases hm with rfl | rfl | rfl | rfl | rfl
  ·exact "R"^Qav Qa1 Qiz
  ·exact "R"^Q3 Qan Qhp
  ·exact "R"^Qas QaW QiB
  ·exact "R"^Qaq Qa0 Qin
  ·exact "R"^Q0 Qak Qhz
 have fo_ways:FldOk K (ctOf K) Qj "ways":=by
  intro c hc A hA
  walk_at "h0"
  rcases hm with rfl | rfl | rfl | rfl | rfl
  ·exact "R"^Qav Qa1 QwB
  ·exact "R"^Q3 Qan QqY
  ·exact "R"^Qas QaW QwM
  ·exact "R"^Qaq Qa0 QwK
  ·exact "R"^Q0 Qak Qrm
 have QkV:ClsD K QD:=⟨Qa1,QJC,y1,y2,QH9⟩
 have Qhg:ClsD K Qv:=⟨Qan,QF8,y1,y2,QFa⟩
 have QkT:ClsD K QE:=⟨QaW,QIL,y1,y2,QI3⟩
 have QkS:ClsD K QF:=⟨Qa0,QI0,y1,y2,QJA⟩
 have Qg6:ClsD K QB:=⟨Qak,QGI,y1,y2,QFh⟩
 have QjK:=Qu (st:=Qco) Qu1 Qxl Qkt
 have QxG:=QjK.binds (ps:=["_law_cell_here","_law_k","_law_many"]) fun _ _ _ _ _ _ us hl=>match us,hl with | [_,_,_],_=>rfl
 have Qnc:=Qu (st:=QdG) QEa QCJ QnJ
 have QDL:=Qnc.binds (ps:=["_law_script","_law_k"]) fun _ _ _ _ _ _ us hl=>match us,hl with | [_,_],_=>rfl
 have QiN:=Qu (st:=QbO) Qtv QsG QiO
 have QtZ:=QiN.binds (ps:=["_law_one","_law_many"]) fun _ _ _ _ _ _ us hl=>match us,hl with | [_,_],_=>rfl
 have Qr7:=Qu (st:=Qdj) QGl QFl QrL
 have QGY:=Qr7.binds (ps:=["one","other"]) fun _ _ _ _ _ _ us hl=>match us,hl with | [_,_],_=>rfl
 have QhF:=Qu (st:=Qa3) Qp4 Qra Qh8
 have QpE:=QhF.binds (ps:=["rows"]) fun _ _ _ _ _ _ us hl=>match us,hl with | [_],_=>rfl
 have QfM:=Qu (st:=Qay) Qle Qk7 Qbl
 have Qcg:=QfM.binds (ps:=["self","rows"]) fun _ _ _ _ _ _ us hl=>match us,hl with | [_,_],_=>rfl
 have Qo5:=Qu (st:=QdA) QCV QEu QmZ
 have QCs:=Qo5.binds (ps:=["thing"]) fun _ _ _ _ _ _ us hl=>match us,hl with | [_],_=>rfl
 have Ql1:=Qu (st:=Qc4) QBu Qzr QlS
 have QAE:=Ql1.binds (ps:=["thing","least","most"]) fun _ _ _ _ _ _ us hl=>match us,hl with | [_,_,_],_=>rfl
 have Qwd:=Qu (st:=Qd8) QHE QHa Qve
 have QHh:=Qwd.binds (ps:=["thing"]) fun _ _ _ _ _ _ us hl=>match us,hl with | [_],_=>rfl
 have Qor:=Qu (st:=QbZ) QCn QCZ QoT
 have QEe:=Qor.binds (ps:=["thing"]) fun _ _ _ _ _ _ us hl=>match us,hl with | [_],_=>rfl
 have Qlo:=Qu (st:=Qc5) Qzj QAr Qyl
 have QzW:=Qlo.binds (ps:=["self","rows"]) fun _ _ _ _ _ _ us hl=>match us,hl with | [_,_],_=>rfl
 have QkO:=Qu (st:=QbB) Qxo Qxe QjQ
 have QwA:=QkO.binds (ps:=["many","place"]) fun _ _ _ _ _ _ us hl=>match us,hl with | [_,_],_=>rfl
 have Qlu:=Qu (st:=Qcd) Qzo QA5 QBI
 have QBv:=Qlu.binds (ps:=["self","many"]) fun _ _ _ _ _ _ us hl=>match us,hl with | [_,_],_=>rfl
 have QiY:=Qu (st:=Qbi) Qsi Qsf Qtc
 have Qt2:=QiY.binds (ps:=["self","size"]) fun _ _ _ _ _ _ us hl=>match us,hl with | [_,_],_=>rfl
 have QlM:=Qu (st:=QcZ) QAV Qzv Qyq
 have QzO:=QlM.binds (ps:=["self","counts"]) fun _ _ _ _ _ _ us hl=>match us,hl with | [_,_],_=>rfl
 have QlP:=Qu (st:=Qah) Qyk QBx Qlz
 have QAe:=QlP.binds (ps:=["_law_d"]) fun _ _ _ _ _ _ us hl=>match us,hl with | [_],_=>rfl
 have Qn8:=Qu (st:=Qdw) QDd QDI QoX
 have QDD:=Qn8.binds (ps:=["_law_d","_law_used"]) fun _ _ _ _ _ _ us hl=>match us,hl with | [_,_],_=>rfl
 have Qkk:=Qu (st:=Qcj) Qvx Qwj QjE
 have Qv9:=Qkk.binds (ps:=["_law_d","_law_names","_law_many"]) fun _ _ _ _ _ _ us hl=>match us,hl with | [_,_,_],_=>rfl
 have Qo7:=Qu (st:=QbV) QED QDJ QoD
 have QEc:=Qo7.binds (ps:=["_law_script","_law_most"]) fun _ _ _ _ _ _ us hl=>match us,hl with | [_,_],_=>rfl
 have QkH:=Qu (st:=QaB) QvJ Qxm QjA
 have Qwg:=QkH.binds (ps:=["_law_plan_here"]) fun _ _ _ _ _ _ us hl=>match us,hl with | [_],_=>rfl
 have QlC:=Qu (st:=Qc3) QyT Qzg Qlp
 have Qzw:=QlC.binds (ps:=["names","doors"]) fun _ _ _ _ _ _ us hl=>match us,hl with | [_,_],_=>rfl
 have QrK:=Qu (st:=Qea) QFO QFI QrN
 have QGg:=QrK.binds (ps:=["thing","most"]) fun _ _ _ _ _ _ us hl=>match us,hl with | [_,_],_=>rfl
 have QjJ:=Qu (st:=Qcr) Qvi Qw4 Qkx
 have Qwt:=QjJ.binds (ps:=["names"]) fun _ _ _ _ _ _ us hl=>match us,hl with | [_],_=>rfl
 have QrP:=Qu (st:=Qdh) QE3 QE6 QrR
 have QF5:=QrP.binds (ps:=["thing"]) fun _ _ _ _ _ _ us hl=>match us,hl with | [_],_=>rfl
 have Qlm:=Qu (st:=Qb8) QzR Qzk Qln
 have QAg:=Qlm.binds (ps:=["thing","most"]) fun _ _ _ _ _ _ us hl=>match us,hl with | [_,_],_=>rfl
 have QlV:=Qu (st:=Qca) QzD QAn QlZ
 have Qzx:=QlV.binds (ps:=["thing","many"]) fun _ _ _ _ _ _ us hl=>match us,hl with | [_,_],_=>rfl
 have Qnd:=Qu (st:=Qdn) QC0 QDe QoR
 have QDs:=Qnd.binds (ps:=["thing"]) fun _ _ _ _ _ _ us hl=>match us,hl with | [_],_=>rfl
 have Qkf:=Qu (st:=Qcp) QwW Qya Qdi
 have Qev:=Qkf.binds (ps:=["self"]) fun _ _ _ _ _ _ us hl=>match us,hl with | [_],_=>rfl
 have QhY:=Qu (st:=Qbt) Qqy Qpr Qck
 have QdD:=QhY.binds (ps:=["self"]) fun _ _ _ _ _ _ us hl=>match us,hl with | [_],_=>rfl
 have Qr4:=Qu (st:=Qef) QF7 QFj QrU
 have QET:=Qr4.binds (ps:=["thing"]) fun _ _ _ _ _ _ us hl=>match us,hl with | [_],_=>rfl
 have QlB:=Qu (st:=Qbn) QA9 Qyr QlO
 have QAS:=QlB.binds (ps:=["thing","doors"]) fun _ _ _ _ _ _ us hl=>match us,hl with | [_,_],_=>rfl
 have Qn3:=Qu (st:=QdF) QD8 QCK Qov
 have QEb:=Qn3.binds (ps:=["thing","names"]) fun _ _ _ _ _ _ us hl=>match us,hl with | [_,_],_=>rfl
 have Qjd:=Qu (st:=QaP) QsR Qud Qjg
 have Qsr:=Qjd.binds (ps:=["thing","names"]) fun _ _ _ _ _ _ us hl=>match us,hl with | [_,_],_=>rfl
 have Qof:=Qu (st:=QcJ) QDM QEn QnK
 have QCz:=Qof.binds (ps:=["seat","places"]) fun _ _ _ _ _ _ us hl=>match us,hl with | [_,_],_=>rfl
 have Qje:=Qu (st:=Q6) QtJ QuC Qt7
 have Quv:=Qje.binds (ps:=["self","clerks","entries","doors"]) fun _ _ _ _ _ _ us hl=>match us,hl with | [_,_,_,_],_=>rfl
 have QhP:=Qu (st:=Qbu) Qrq QpR QhV
 have Qp0:=QhP.binds (ps:=["self"]) fun _ _ _ _ _ _ us hl=>match us,hl with | [_],_=>rfl
 have QhT:=Qu (st:=Qbs) Qqg Qqc QhO
 have Qqn:=QhT.binds (ps:=["self"]) fun _ _ _ _ _ _ us hl=>match us,hl with | [_],_=>rfl
 have QgI:=Qu (st:=QaT) Qmj Qma QgF
 have Ql3:=QgI.binds (ps:=["self"]) fun _ _ _ _ _ _ us hl=>match us,hl with | [_],_=>rfl
 have Qnw:=Qu (st:=QcK) QDc QC8 QoY
 have QCu:=Qnw.binds (ps:=["row"]) fun _ _ _ _ _ _ us hl=>match us,hl with | [_],_=>rfl
 have QgN:=Qu (st:=QaL) QoL Qng QeM
 have Qg2:=QgN.binds (ps:=["self"]) fun _ _ _ _ _ _ us hl=>match us,hl with | [_],_=>rfl
 have QlI:=Qu (st:=QcX) QBb QzP Qlr
 have QAt:=QlI.binds (ps:=["self"]) fun _ _ _ _ _ _ us hl=>match us,hl with | [_],_=>rfl
 have Qi4:=Qu (st:=QbM) Qsp Qt6 QiV
 have Qtb:=Qi4.binds (ps:=["self"]) fun _ _ _ _ _ _ us hl=>match us,hl with | [_],_=>rfl
 have Qlx:=Qu (st:=Qc0) QyG QAW QlT
 have Qz4:=Qlx.binds (ps:=["self"]) fun _ _ _ _ _ _ us hl=>match us,hl with | [_],_=>rfl
 have QlG:=Qu (st:=QcY) Qyp QyH Ql0
 have QAy:=QlG.binds (ps:=["self"]) fun _ _ _ _ _ _ us hl=>match us,hl with | [_],_=>rfl
 have QkG:=Qu (st:=Qcv) Qw7 QvM Qdk
 have Qey:=QkG.binds (ps:=["self"]) fun _ _ _ _ _ _ us hl=>match us,hl with | [_],_=>rfl
 have QhN:=Qu (st:=Qbx) Qrn QqG Qh1
 have Qp8:=QhN.binds (ps:=["self"]) fun _ _ _ _ _ _ us hl=>match us,hl with | [_],_=>rfl
 have QhE:=Qu (st:=Qby) Qqi Qpt Qig
 have QqR:=QhE.binds (ps:=["self","k"]) fun _ _ _ _ _ _ us hl=>match us,hl with | [_,_],_=>rfl
 have QkA:=Qu (st:=QbJ) Qww QxV Qkr
 have Qx7:=QkA.binds (ps:=["office","k"]) fun _ _ _ _ _ _ us hl=>match us,hl with | [_,_],_=>rfl
 have QhH:=Qu (st:=Qbw) Qpi Qpo QhC
 have Qpd:=QhH.binds (ps:=["self","k"]) fun _ _ _ _ _ _ us hl=>match us,hl with | [_,_],_=>rfl
 have Qh2:=Qu (st:=Qbq) Qpl QpY QhK
 have QpL:=Qh2.binds (ps:=["self"]) fun _ _ _ _ _ _ us hl=>match us,hl with | [_],_=>rfl
 have Qlq:=Qu (st:=Qc6) Qzb Qyi QlH
 have QzS:=Qlq.binds (ps:=["office","k"]) fun _ _ _ _ _ _ us hl=>match us,hl with | [_,_],_=>rfl
 have Qgm:=Qu (st:=Qa2) Ql6 Qmz Qgn
 have QmA:=Qgm.binds (ps:=["self"]) fun _ _ _ _ _ _ us hl=>match us,hl with | [_],_=>rfl
 have Qjc:=Qu (st:=QbN) QsQ QtE Qi0
 have QtC:=Qjc.binds (ps:=["self"]) fun _ _ _ _ _ _ us hl=>match us,hl with | [_],_=>rfl
 have QrB:=Qu (st:=QbW) QFY QF6 QrX
 have QFK:=QrB.binds (ps:=["office"]) fun _ _ _ _ _ _ us hl=>match us,hl with | [_],_=>rfl
 have Qob:=Qu (st:=Qa8) QD7 QDO QnE
 have QCx:=Qob.binds (ps:=["_law_plan_here"]) fun _ _ _ _ _ _ us hl=>match us,hl with | [_],_=>rfl
 have QH8:=Qu (st:=Qf3) QK8 QLd QLc
 have QLh:=QH8.binds (ps:=["_law_script"]) fun _ _ _ _ _ _ us hl=>match us,hl with | [_],_=>rfl
 have v3:mg "range"=none:=W.mg_none_of X G z_range
 have v2:mg "len"=none:=W.mg_none_of X G z_len
 have vq:mg "zip"=none:=W.mg_none_of X G z_zip
 have v1:mg "list"=none:=W.mg_none_of X G z_list
 have v0:mg "isinstance"=none:=W.mg_none_of X G z_isinstance
 have vj:mg "int"=none:=W.mg_none_of X G z_int
 have vp:mg "bool"=none:=W.mg_none_of X G z_bool
 have v5:mg "all"=none:=W.mg_none_of X G z_all
 have v4:mg "str"=none:=W.mg_none_of X G z_str
 have vk:mg "enumerate"=none:=W.mg_none_of X G z_enumerate
 have vr:mg "set"=none:=W.mg_none_of X G z_set
 have vl:mg "tuple"=none:=W.mg_none_of X G z_tuple
 have vs:mg "any"=none:=W.mg_none_of X G z_any
 have v6:="A"^c_MOST_OUTS
 have vm:="A"^c_MOST_SENT
 have v7:="A"^c_MOST_ROWS
 have ve:="A"^c_MOST_SIGNS
 have vo:="A"^c_LETTERS
 have vb:="A"^c_MOST_CLERKS
 have v9:="A"^c_MOST_ENTRIES
 have vf:="A"^c_MOST_DOORS
 have QqE:KitI K (ctOf K) (.ref QD) [("Deal",true),("Bundle",false),("Copy",false),("Rows",false),("Office",false)]:=(QZ Qav QkV QAd (QZ Q3 Qhg QsO (QZ Qas QkT Qzp (QZ Qaq QkS QAc (QZ Q0 Qg6 QtD Qih)))))
 have QjY:KitI K (ctOf K) (.ref Qv) [("Deal",false),("Bundle",true),("Copy",false),("Rows",false),("Office",false)]:=(QZ Qav QkV Quu (QZ Q3 Qhg QnQ (QZ Qas QkT QsJ (QZ Qaq QkS Qsn (QZ Q0 Qg6 Qnx Qih)))))
 have Qpq:KitI K (ctOf K) (.ref QE) [("Deal",false),("Bundle",false),("Copy",true),("Rows",false),("Office",false)]:=(QZ Qav QkV QzK (QZ Q3 Qhg Qtx (QZ Qas QkT QAY (QZ Qaq QkS QyY (QZ Q0 Qg6 Qt4 Qih)))))
 have QqJ:KitI K (ctOf K) (.ref QF) [("Deal",false),("Bundle",false),("Copy",false),("Rows",true),("Office",false)]:=(QZ Qav QkV QBD (QZ Q3 Qhg Qtu (QZ Qas QkT QAR (QZ Qaq QkS QyB (QZ Q0 Qg6 QsZ Qih)))))
 refine⟨W.fnOf "law" "law" (Qp Qf3) (Qo Qf3) (Qb Qf3) .none QFz QGM QFB QGw Qwb QF0,fun s v=>.of_eq rfl,fun base _ _=>?_⟩
 have Qwz:"F"^1 ["_law_cell_here","_law_k","_law_many"] true Qag:=QwH QjK v3
 have QvI:"E"^Qag "_law_digits" 1 true:="D"^Qwz Qye Qkt QxG
 have QCP:"F"^1 ["_law_script","_law_k"] false Qa4:=QDq Qnc v2
 have QD5:"E"^Qa4 "_law_cell" 1 false:="D"^QCP QC7 QnJ QDL
 have QtA:"F"^1 ["_law_one","_law_many"] true QaR:=Quh QiN v3
 have Qtz:"E"^QaR "_law_figures" 1 true:="D"^QtA QtS QiO QtZ
 have QGf:"F"^1 ["one","other"] true Qcz:=QEV Qr7 vq
 have QGB:"E"^Qcz "sums_of" 1 true:="D"^QGf QFN QrL QGY
 have Qrk:"F"^2 ["rows"] true Qau:=QqW QhF QGB
 have Qqt:"E"^Qau "running_sums" 2 true:="D"^Qrk Qp1 Qh8 QpE
 have Qch:FnOk l.prog w K mg base (CXR l.prog w) 3 _ _ ["self","rows"] (SpI K (ctOf K) QM):=Qla QfM Qqt v1 fo_table fo_heads
 have ms_keep_rows:MtOk l.prog w K mg base (ctOf K) (CXR l.prog w) "keep_rows" 3 Qc (fun _=>SpI K (ctOf K) QM):=by
  intro c hc
  walk_at "h1"
  rcases hm with rfl | rfl | rfl | rfl
  ·exact⟨QD,QV,_,_,Qav,Qa1,⟨Qmk,Qci,Qbl⟩,Qch.mono (by decide),Qcg⟩
  ·exact⟨Qv,QV,_,_,Q3,Qan,⟨Qko,Qci,Qbl⟩,Qch.mono (by decide),Qcg⟩
  ·exact⟨QE,QV,_,_,Qas,QaW,⟨Qmr,Qci,Qbl⟩,Qch.mono (by decide),Qcg⟩
  ·exact⟨QF,QV,_,_,Qaq,Qa0,⟨Qmc,Qci,Qbl⟩,Qch.mono (by decide),Qcg⟩
 have QDR:"F"^1 ["thing"] false QcF:=QD4 Qo5 v0 vj vp
 have QDk:"E"^QcF "is_whole" 1 false:="D"^QDR QEp QmZ QCs
 have QA1:"F"^2 ["thing","least","most"] false Qai:=Qzh Ql1 QDk
 have Qfg:"E"^Qai "is_within" 2 false:="D"^QA1 QyL QlS QAE
 have QHL:"F"^3 ["thing"] false QcA:=QHP Qwd Qfg v0 v1 v2 v5 v6 ⟨_,rfl⟩ vm ⟨_,rfl⟩
 have Qu8:"E"^QcA "is_row" 3 false:="D"^QHL QHj Qve QHh
 have QC5:"F"^4 ["thing"] false QcG:=QD3 Qor Qu8 v0 v1 v2 v5 v7 ⟨_,rfl⟩
 have QDb:"E"^QcG "is_table" 4 false:="D"^QC5 QDr QoT QEe
 have Qzy:FnOk l.prog w K mg base (CXR l.prog w) 5 _ _ ["self","rows"] (SpI K (ctOf K) Qb9):=QzA Qlo QDb ms_keep_rows
 have Qp6:MkOk l.prog w K mg base (ctOf K) "Rows" 5 Qb9:=⟨QF,QdP,_,_,Qaq,QB2,⟨QHd,QyU,QA7,QHG⟩,Qzy,QzW⟩
 have Qwq:"F"^1 ["many","place"] true QbG:=Qv7 QkO v3
 have Qwy:"E"^QbG "single_row" 1 true:="D"^Qwq QwV QjQ QwA
 have Qyx:FnOk l.prog w K mg base (CXR l.prog w) 4 _ _ ["self","many"] (SpI K (ctOf K) Qb5):=QBh Qlu Qfg Qwy v3 v6 ⟨_,rfl⟩ ms_keep_rows
 have Qqm:MkOk l.prog w K mg base (ctOf K) "Deal" 4 Qb5:=⟨QD,QdV,_,_,Qav,QB1,⟨QH7,QAq,QBi,QHy⟩,Qyx,QBv⟩
 have QsV:FnOk l.prog w K mg base (CXR l.prog w) 4 _ _ ["self","size"] (SpI K (ctOf K) Qbh):=Qtq QiY Qfg v3 v7 ⟨_,rfl⟩ ms_keep_rows
 have QjI:MkOk l.prog w K mg base (ctOf K) "Bundle" 4 Qbh:=⟨Qv,QcS,_,_,Q3,QrJ,⟨QCm,Qse,QsD,QCR⟩,QsV,Qt2⟩
 have Qzm:FnOk l.prog w K mg base (CXR l.prog w) 4 _ _ ["self","counts"] (SpI K (ctOf K) Qb7):=Qyt QlM Qu8 ms_keep_rows
 have QqZ:MkOk l.prog w K mg base (ctOf K) "Copy" 4 Qb7:=⟨QE,QdO,_,_,Qas,QBO,⟨QHN,QBJ,Qz3,QG6⟩,Qzm,QzO⟩
 have QAp:"F"^7 ["_law_d"] true Qa5:=QyJ QlP Qtz v3 vj v4 v1 Qqm QjI QqZ Qp6
 have QAI:"E"^Qa5 "_law_clerk" 7 true:="D"^QAp QzN Qlz QAe
 have QCr:"F"^1 ["_law_d","_law_used"] false Qa7:=QEo Qn8 v3
 have Qny:"E"^Qa7 "_law_name" 1 false:="D"^QCr QDt QoX QDD
 have QxP:"F"^2 ["_law_d","_law_names","_law_many"] true QbE:=Qu4 Qkk Qny v3 v2
 have Qxr:"E"^QbE "_law_let_in" 2 true:="D"^QxP Qxx QjE Qv9
 have QEl:"F"^8 ["_law_script","_law_most"] true QaD:=QD0 Qo7 QvI QD5 Qny QAI Qxr v3 vj v2 v1
 have QEC:"E"^QaD "_law_plan" 8 true:="D"^QEl QDA QoD QEc
 have QwI:"F"^1 ["_law_plan_here"] true QbI:=QuO QkH v1
 have Qx4:"E"^QbI "_law_handed" 1 true:="D"^QwI QxI QjA Qwg
 have QzC:"F"^1 ["names","doors"] true Qce:=Qy9 QlC vk
 have QAb:"E"^Qce "places_of" 1 true:="D"^QzC QBm Qlp Qzw
 have QGj:"F"^1 ["thing","most"] false QaQ:=QFQ QrK v0 v1 v2
 have QkJ:"E"^QaQ "is_list" 1 false:="D"^QGj QFx QrN QGg
 have QvY:"F"^1 ["names"] false QY:=QwN QjJ v2 vr
 have Qgo:"E"^QY "all_unlike" 1 false:="D"^QvY Qwm Qkx Qwt
 have QGX:"F"^1 ["thing"] false Qaj:=QE4 QrP v0 v4 v2 v5 ve ⟨_,rfl⟩ vo ⟨_,rfl⟩
 have Qjt:"E"^Qaj "is_name" 1 false:="D"^QGX QGr QrR QF5
 have Qy4:"F"^2 ["thing","most"] false Qb3:=Qym Qlm QkJ Qjt Qgo v5
 have QAQ:"E"^Qb3 "are_names" 2 false:="D"^Qy4 QAB Qln QAg
 have QAH:"F"^1 ["thing","many"] false Qb2:=QAf QlV v0 v1 v2 v5 v4
 have QzJ:"E"^Qb2 "are_texts" 1 false:="D"^QAH QBn QlZ Qzx
 have QDQ:"F"^1 ["thing"] false QcH:=QEs Qnd v0 QB1 QrJ QBO QB2 QqE QjY Qpq QqJ
 have QDH:"E"^QcH "is_clerk" 1 false:="D"^QDQ QCL QoR QDs
 have Qew:"F"^1 ["self"] false Qba:=QvR Qkf v2 fo_table
 have mt_outs:MtOk l.prog w K mg base (ctOf K) CX0 "outs" 1 Qc (fun c=>SpD K (ctOf K) false ((fun _=>Qba) c)):=by
  intro c hc
  walk_at "h1"
  rcases hm with rfl | rfl | rfl | rfl
  ·exact⟨QD,Qam,_,_,Qav,Qa1,⟨QBH,Qeo,Qdi⟩,Qew.mono (by decide),Qev⟩
  ·exact⟨Qv,Qam,_,_,Q3,Qan,⟨QtO,Qeo,Qdi⟩,Qew.mono (by decide),Qev⟩
  ·exact⟨QE,Qam,_,_,Qas,QaW,⟨Qyn,Qeo,Qdi⟩,Qew.mono (by decide),Qev⟩
  ·exact⟨QF,Qam,_,_,Qaq,Qa0,⟨QzT,Qeo,Qdi⟩,Qew.mono (by decide),Qev⟩
 have QdH:"F"^1 ["self"] false QX:=QqK QhY v2 fo_table
 have mt_period:MtOk l.prog w K mg base (ctOf K) CX0 "period" 1 Qc (fun c=>SpD K (ctOf K) false ((fun _=>QX) c)):=by
  intro c hc
  walk_at "h1"
  rcases hm with rfl | rfl | rfl | rfl
  ·exact⟨QD,Q8,_,_,Qav,Qa1,⟨Qsh,Qds,Qck⟩,QdH.mono (by decide),QdD⟩
  ·exact⟨Qv,Q8,_,_,Q3,Qan,⟨Qoa,Qds,Qck⟩,QdH.mono (by decide),QdD⟩
  ·exact⟨QE,Q8,_,_,Qas,QaW,⟨Qs5,Qds,Qck⟩,QdH.mono (by decide),QdD⟩
  ·exact⟨QF,Q8,_,_,Qaq,Qa0,⟨Qsj,Qds,Qck⟩,QdH.mono (by decide),QdD⟩
 have QER:"F"^3 ["thing"] false Qde:=QGz Qr4 Qjt QDH QzJ Qfg v0 vl v2 mt_outs mt_period
 have QE0:"E"^Qde "is_seat" 3 false:="D"^QER QFu QrU QET
 have QBj:"F"^4 ["thing","doors"] false Qb0:=Qzi QlB QkJ QE0 Qgo v5 vb ⟨_,rfl⟩
 have Qz9:"E"^Qb0 "are_seats" 4 false:="D"^QBj QAP QlO QAS
 have QC9:"F"^2 ["thing","names"] false QcE:=QCF Qn3 Qjt v0 vl v2
 have QDf:"E"^QcE "is_entry" 2 false:="D"^QC9 QDz Qov QEb
 have Qte:"F"^3 ["thing","names"] false Qbj:=Qsy Qjd QkJ QDf Qgo v5 v9 ⟨_,rfl⟩
 have Qty:"E"^Qbj "are_entries" 3 false:="D"^Qte QtQ Qjg Qsr
 have QEG:"F"^1 ["seat","places"] true QcD:=QEx Qof
 have QEw:"E"^QcD "leads_to" 1 true:="D"^QEG QDv QnK QCz
 have QsS:FnOk l.prog w K mg base (CXR l.prog w) 5 _ _ ["self","clerks","entries","doors"] (SpI K (ctOf K) QaO):=Qt8 Qje QAQ Qz9 Qty QAb QEw vs v1 vf ⟨_,rfl⟩ fo_clerk_names fo_door_names fo_entry_places fo_staff fo_first_states fo_ways
 have Qky:MkOk l.prog w K mg base (ctOf K) "Office" 5 QaO:=⟨QB,QcR,_,_,Q0,QGo,⟨QDj,Qt1,Qs4,QEq⟩,QsS,Quv⟩
 have QpK:"F"^1 ["self"] true Q1:=Qpu QhP v1 fo_clerk_names
 have mt_names:MtOk l.prog w K mg base (ctOf K) CX0 "names" 1 Qi (fun c=>SpD K (ctOf K) true ((fun _=>Q1) c)):=by
  intro c hc
  walk_at "h2"
  rcases hm with rfl
  ·exact⟨QB,Qcs,_,_,Q0,Qak,⟨Qrr,QqO,QhV⟩,QpK.mono (by decide),Qp0⟩
 have Qri:"F"^2 ["self"] false Qcu:=QpD QhT v4 mt_period
 have QmI:"F"^2 ["self"] false QbH:=QmP QgI v4 mt_period
 have QD6:"F"^1 ["row"] false QcL:=QEH Qnw v2 v4
 have QDl:"E"^QcL "row_text" 1 false:="D"^QD6 QC3 QoY QCu
 have Qhe:"F"^2 ["self"] false Qaz:=QnD QgN QDl fo_table
 have mt_numbers:MtOk l.prog w K mg base (ctOf K) CX0 "numbers" 2 Qc (fun c=>SpD K (ctOf K) false (Qat c)):=by
  intro c hc
  walk_at "h1"
  rcases hm with rfl | rfl | rfl | rfl
  ·exact⟨QD,Qct,_,_,Qav,Qa1,⟨Qqf,Qqk,QhO⟩,(by simp only[QgM];exact Qri.mono (by decide)),Qqn⟩
  ·exact⟨Qv,QbA,_,_,Q3,Qan,⟨QmB,Qmi,QgF⟩,(by simp only[QfN];exact QmI.mono (by decide)),Ql3⟩
  ·exact⟨QE,QaJ,_,_,Qas,QaW,⟨Qpg,QgZ,QeM⟩,(by simp only[QgT];exact Qhe.mono (by decide)),Qg2⟩
  ·exact⟨QF,QaJ,_,_,Qaq,Qa0,⟨Qpk,QgZ,QeM⟩,(by simp only[QgV];exact Qhe.mono (by decide)),Qg2⟩
 have QAa:"F"^1 ["self"] false Qfb:=QA4 QlI
 have Qsc:"F"^1 ["self"] false Qd2:=QsI Qi4
 have QzZ:"F"^1 ["self"] false Qfh:=QBL Qlx
 have Qzd:"F"^1 ["self"] false Qfj:=QBF QlG
 have mt_word:MtOk l.prog w K mg base (ctOf K) CX0 "word" 1 Qc (fun c=>SpD K (ctOf K) false (Qbv c)):=by
  intro c hc
  walk_at "h1"
  rcases hm with rfl | rfl | rfl | rfl
  ·exact⟨QD,QdS,_,_,Qav,Qa1,⟨QBK,QAJ,Qlr⟩,(by simp only[Qkl];exact QAa.mono (by decide)),QAt⟩
  ·exact⟨Qv,QcT,_,_,Q3,Qan,⟨QsE,Qtm,QiV⟩,(by simp only[Qh6];exact Qsc.mono (by decide)),Qtb⟩
  ·exact⟨QE,QdR,_,_,Qas,QaW,⟨QzU,Qy2,QlT⟩,(by simp only[Qj8];exact QzZ.mono (by decide)),Qz4⟩
  ·exact⟨QF,QdM,_,_,Qaq,Qa0,⟨QyX,QAA,Ql0⟩,(by simp only[Qjr];exact Qzd.mono (by decide)),QAy⟩
 have Qez:"F"^3 ["self"] false Qbf:=QuS QkG mt_word mt_numbers
 have mt_text:MtOk l.prog w K mg base (ctOf K) CX0 "text" 3 Qc (fun c=>SpD K (ctOf K) false ((fun _=>Qbf) c)):=by
  intro c hc
  walk_at "h1"
  rcases hm with rfl | rfl | rfl | rfl
  ·exact⟨QD,Qal,_,_,Qav,Qa1,⟨QyA,QeO,Qdk⟩,Qez.mono (by decide),Qey⟩
  ·exact⟨Qv,Qal,_,_,Q3,Qan,⟨Qsm,QeO,Qdk⟩,Qez.mono (by decide),Qey⟩
  ·exact⟨QE,Qal,_,_,Qas,QaW,⟨QzB,QeO,Qdk⟩,Qez.mono (by decide),Qey⟩
  ·exact⟨QF,Qal,_,_,Qaq,Qa0,⟨QyW,QeO,Qdk⟩,Qez.mono (by decide),Qey⟩
 have Qq4:"F"^1 ["self"] true Q7:=QqF QhN v1 fo_door_names
 have mt_doors:MtOk l.prog w K mg base (ctOf K) CX0 "doors" 1 Qi (fun c=>SpD K (ctOf K) true ((fun _=>Q7) c)):=by
  intro c hc
  walk_at "h2"
  rcases hm with rfl
  ·exact⟨QB,Qcn,_,_,Q0,Qak,⟨Qq3,QpF,Qh1⟩,Qq4.mono (by decide),Qp8⟩
 have Qqa:"F"^1 ["self","k"] true Qap:=QqU QhE v1 fo_ways
 have mt_leads:MtOk l.prog w K mg base (ctOf K) CX0 "leads" 1 Qi (fun c=>SpD K (ctOf K) true ((fun _=>Qap) c)):=by
  intro c hc
  walk_at "h2"
  rcases hm with rfl
  ·exact⟨QB,Qcy,_,_,Q0,Qak,⟨Qp3,QpS,Qig⟩,Qqa.mono (by decide),QqR⟩
 have Qw9:"F"^2 ["office","k"] true QbC:=Qx6 QkA mt_names mt_doors mt_leads
 have Qw5:"E"^QbC "lead_names" 2 true:="D"^Qw9 QxY Qkr Qx7
 have Qrv:"F"^1 ["self","k"] false Qar:=QqL QhH fo_staff
 have mt_clerk:MtOk l.prog w K mg base (ctOf K) CX0 "clerk" 1 Qi (fun c=>SpD K (ctOf K) false ((fun _=>Qar) c)):=by
  intro c hc
  walk_at "h2"
  rcases hm with rfl
  ·exact⟨QB,Qcx,_,_,Q0,Qak,⟨Qrt,Qqe,QhC⟩,Qrv.mono (by decide),Qpd⟩
 have Qrb:"F"^1 ["self"] true QaG:=QpP Qh2 v1 fo_first_states
 have mt_begin:MtOk l.prog w K mg base (ctOf K) CX0 "begin" 1 Qi (fun c=>SpD K (ctOf K) true ((fun _=>QaG) c)):=by
  intro c hc
  walk_at "h2"
  rcases hm with rfl
  ·exact⟨QB,Qcw,_,_,Q0,Qak,⟨Qqq,QpH,QhK⟩,Qrb.mono (by decide),QpL⟩
 have Qzq:"F"^4 ["office","k"] false Qcb:=QAo Qlq Qw5 v4 mt_names mt_text mt_clerk mt_begin
 have QzX:"E"^Qcb "clerk_row" 4 false:="D"^Qzq QAx QlH QzS
 have Ql4:"F"^1 ["self"] true Qac:=QmC Qgm v1 fo_entry_places
 have mt_entries:MtOk l.prog w K mg base (ctOf K) CX0 "entries" 1 Qi (fun c=>SpD K (ctOf K) true ((fun _=>Qac) c)):=by
  intro c hc
  walk_at "h2"
  rcases hm with rfl
  ·exact⟨QB,QbD,_,_,Q0,Qak,⟨QmD,Ql9,Qgn⟩,Ql4.mono (by decide),QmA⟩
 have QuA:"F"^1 ["self"] false QaE:=Qto Qjc v2 fo_clerk_names
 have mt_many:MtOk l.prog w K mg base (ctOf K) CX0 "many" 1 Qi (fun c=>SpD K (ctOf K) false ((fun _=>QaE) c)):=by
  intro c hc
  walk_at "h2"
  rcases hm with rfl
  ·exact⟨QB,QcN,_,_,Q0,Qak,⟨Qtd,Qta,Qi0⟩,QuA.mono (by decide),QtC⟩
 have QGN:"F"^5 ["office"] false QbQ:=QEQ QrB QzX v3 mt_names mt_doors mt_many mt_entries
 have QFv:"E"^QbQ "written" 5 false:="D"^QGN QF2 QrX QFK
 have QEf:"F"^1 ["_law_plan_here"] false Qa6:=QCE Qob v4
 have QDF:"E"^Qa6 "_law_text" 1 false:="D"^QEf QCH QnE QCx
 have QLb:"F"^9 ["_law_script"] false Qg8:=QLa QH8 QEC QDF Qx4 QFv v2 v0 v4 Qky
 exact QLb
theorem walk{l:W.OpenLaw}{q:Program}{loose:List Str}{XP:(Str->Option Value)->Heap->Prop}{YP:World->Heap->Prop}{d:DefRec}{K:Params->W.Frag}(hn:l.most=some 63)(hdf:d.params.defaults=[])
 (hY:∀(w:World)(h:Heap),YP w h->(K w.params).In h) (hlaw:∀ ns:List Int,ns.length<=63->(∀ z∈ns,bitsI z<=1048576)->Qg8 [.lst (ns.map .int)]=.ok (.bl true))
 (F:∀(w:World)(mg:Str->Option Value)(fa:Addr)(h:Heap),(K w.params).In h->h.Ns mainGlobals mg->mg d.name=some (.ref fa)->
  ∃ fd:FuncData,(∀(s:Shared)(u:Value),BindsTo s fd ⟨[u],[]⟩ [("_law_script",u)])/\∀ base:Heap,(K w.params).In base->base.Ns mainGlobals mg->FnOk l.prog w (K w.params) mg base CX0 9 fa fd ["_law_script"] (SpD (K w.params) (ctOf (K w.params)) false Qg8)):
 W.WalkO q loose XP YP l.row.toRowW d [] (fun f vs=>PySem.call f vs):=
 DL.walk_of (n:=63) (k:=9) (x:="_law_script") (CX:=fun _=>CX0) (sp:=fun w=>SpD (K w.params) (ctOf (K w.params)) false Qg8) hn (by decide) hdf ⟨rfl,by decide,by decide⟩ hY F
  (fun w H a ns hl hbits _ hS=>⟨[.lst (ns.map .int)],H,Same.refl H,⟨.ref a,[],rfl,⟨a,_,rfl,hS,RepL.map_int ns⟩,rfl⟩,by rw[hlaw ns hl hbits];exact fun v H' G' _ _ _ _ r=>r⟩) fun _ _ _ _ _ z=>z
end My
open PySem PySem.W PyProof.Rows
set_option maxRecDepth 100000 in
set_option maxHeartbeats 0 in
theorem PySem.Challenge.cw_dockethall_k24_written_holds : PySem.Challenge.rw_dockethall_k24_written.Holds := by
 w_on;o_law;k_head;(case hw=>w_witness2)
 k_fill
 refine My.walk (l:=PySem.Challenge.rw_dockethall_k24_written) rfl rfl (fun w h Y=>PySem.W.kIn_of Y) My.the_law ?F
 case F=>
  intro w mg fa h KX G hmg
  refine' My.all_mk KX G hmg ..
  all_goals try first | k_is | kit_is

import PyProof.Rows.All
import Wide.All
import OpenK.AllK
import Wide.FinOn
import Lean
import PyProof.EqAt
import PyProof.EqKinds
import PyProof.TupleCall
import PySem.Challenge.RW_dockethall_k72_is_a_sum
set_option Elab.async false
set_option linter.all false
set_option maxRecDepth 100000
namespace L2
open PySem PySem.Spec PyProof.Rows
abbrev Key := Sum Int Str
def keyIs : Key → Value → Bool
  | .inl k, v => Value.isInt k v
  | .inr x, v => Value.isStrOf x v
def keyH (w : World) : Key → Int
  | .inl k => hashInt k
  | .inr x => hashStr w x
theorem keyIs_shape : ∀ {k : Key} {v : Value}, keyIs k v = true → (∃ i t, k = Sum.inl i ∧ v = Value.int i t) ∨ (∃ x t, k = Sum.inr x ∧ v = Value.str x t)
  | .inl i, v, h => by
    obtain ⟨t, e⟩ := Value.isInt_shape (k := i) (v := v) h
    exact .inl ⟨i, t, rfl, e⟩
  | .inr x, v, h => by
    obtain ⟨t, e⟩ := Value.isStrOf_shape (x := x) (v := v) h
    exact .inr ⟨x, t, rfl, e⟩
theorem key_ll (a b : Int) : decide ((Sum.inl a : Key) = Sum.inl b) = (a == b) := by
  by_cases e : a = b
  · subst e; simp
  · have h : ¬ (Sum.inl a : Key) = Sum.inl b := fun q => e (Sum.inl.inj q)
    rw [decide_eq_false h]
    exact (beq_eq_false_iff_ne.mpr e).symm
theorem key_rr (a b : Str) : decide ((Sum.inr a : Key) = Sum.inr b) = decide (a = b) := by
  by_cases e : a = b
  · subst e; simp
  · have h : ¬ (Sum.inr a : Key) = Sum.inr b := fun q => e (Sum.inr.inj q)
    rw [decide_eq_false h, decide_eq_false e]
theorem key_lr (a : Int) (b : Str) : decide ((Sum.inl a : Key) = Sum.inr b) = false := decide_eq_false (fun q => nomatch q)
theorem key_rl (a : Str) (b : Int) : decide ((Sum.inr a : Key) = Sum.inl b) = false := decide_eq_false (fun q => nomatch q)
def mixKind (prog : Program) (w : World) : PySem.KeyKind prog w Key where
  is := keyIs
  hash := keyH w
  inj := fun v a b ha hb => by
    rcases keyIs_shape ha with ⟨i, t, rfl, rfl⟩ | ⟨x, t, rfl, rfl⟩
    · rcases keyIs_shape hb with ⟨j, u, rfl, e⟩ | ⟨y, u, rfl, e⟩
      · injection e with e1 _; rw [e1]
      · exact nomatch e
    · rcases keyIs_shape hb with ⟨j, u, rfl, e⟩ | ⟨y, u, rfl, e⟩
      · exact nomatch e
      · injection e with e1 _; rw [e1]
  byValue := fun k v h => by
    rcases keyIs_shape h with ⟨i, t, rfl, rfl⟩ | ⟨x, t, rfl, rfl⟩ <;> rfl
  pyHash := fun hv h => by
    rcases keyIs_shape hv with ⟨i, t, rfl, rfl⟩ | ⟨x, t, rfl, rfl⟩
    · exact wpAny_pyHash_int h
    · exact wpAny_pyHash_str h
  eqBool := fun hu hv h => by
    rcases keyIs_shape hu with ⟨i, t, rfl, rfl⟩ | ⟨x, t, rfl, rfl⟩
    · rcases keyIs_shape hv with ⟨j, u, rfl, rfl⟩ | ⟨y, u, rfl, rfl⟩
      · rw [key_ll] at h; exact wpAny_eqBool_int h
      · rw [key_lr] at h; exact SeqAt.EqAt.int_str i t y u _ _ _ _ h
    · rcases keyIs_shape hv with ⟨j, u, rfl, rfl⟩ | ⟨y, u, rfl, rfl⟩
      · rw [key_rl] at h; exact SeqAt.EqAt.str_int x t j u _ _ _ _ h
      · rw [key_rr] at h; exact wpAny_eqBool_str h
  «strs» := fun k x t v h => by
    rcases keyIs_shape h with ⟨i, u, rfl, e⟩ | ⟨y, u, rfl, e⟩
    · exact nomatch e
    · injection e with e1 _
      subst e1
      cases v <;> rfl
end L2
namespace L2
open PySem PySem.Spec PyProof.Rows
inductive V where
  | non | bl (b : Bool) | int (i : Int) | str (x : Str) | byt (b : Array UInt8) | flt (b : UInt64) | ref (a : Addr) | ty (n : String)
  deriving DecidableEq
def RelV : V → Value → Prop
  | .non, u => u = Value.none
  | .bl b, u => u = Value.bool b
  | .int i, u => ∃ t, u = Value.int i t
  | .str x, u => ∃ t, u = Value.str x t
  | .byt b, u => ∃ t, u = Value.bytes b t
  | .flt b, u => ∃ t, u = Value.float b t
  | .ref a, u => u = Value.ref a
  | .ty n, u => u = Value.type n
abbrev Vals : List V → List Value → Prop := Paired RelV
theorem Vals.length {xs : List V} {us : List Value} (r : Vals xs us) : xs.length = us.length := Paired.length r
theorem Vals.get : ∀ {xs : List V} {us : List Value} {i : Nat} {x : V}, Vals xs us → xs[i]? = some x → ∃ u, us[i]? = some u ∧ RelV x u
  | _, _, _, _, .nil, e => by simp at e
  | _, _, 0, _, .cons r _, e => by simp at e; subst e; exact ⟨_, rfl, r⟩
  | _, _, i + 1, x, .cons _ t, e => by
    obtain ⟨u, h1, h2⟩ := Vals.get (i := i) (x := x) t (by simpa using e)
    exact ⟨u, by simpa using h1, h2⟩
theorem Vals.set {x : V} {u : Value} (r : RelV x u) : ∀ {xs : List V} {us : List Value} (i : Nat), Vals xs us → Vals (xs.set i x) (us.set i u)
  | _, _, _, .nil => .nil
  | _, _, 0, .cons _ t => .cons r t
  | _, _, i + 1, .cons q t => .cons q (Vals.set r i t)
theorem Vals.append : ∀ {xs ys : List V} {us ws : List Value}, Vals xs us → Vals ys ws → Vals (xs ++ ys) (us ++ ws)
  | _, _, _, _, .nil, s => s
  | _, _, _, _, .cons r t, s => .cons r (Vals.append t s)
theorem Vals.take : ∀ {xs : List V} {us : List Value} (n : Nat), Vals xs us → Vals (xs.take n) (us.take n)
  | _, _, 0, _ => .nil
  | _, _, _ + 1, .nil => .nil
  | _, _, n + 1, .cons r t => .cons r (Vals.take n t)
theorem Vals.drop : ∀ {xs : List V} {us : List Value} (n : Nat), Vals xs us → Vals (xs.drop n) (us.drop n)
  | _, _, 0, r => r
  | _, _, _ + 1, .nil => .nil
  | _, _, n + 1, .cons _ t => Vals.drop n t
def RelO : Option V → Option Value → Prop
  | some v, some u => RelV v u
  | none, none => True
  | _, _ => False
def KV {κ : Type} : List (κ × V) → List (κ × Value) → Prop := Paired fun (p : κ × V) (q : κ × Value) => p.1 = q.1 ∧ RelV p.2 q.2
def kV : Key → V
  | .inl i => .int i
  | .inr x => .str x
inductive HO where
  /-- a list -/
  | lst (xs : List V)
  /-- a tuple (never changes) -/
  | tup (xs : List V)
  /-- a dict whose keys are ints and texts; one whose keys are tuples of ints and texts (the empty one is both) -/
  | dK (kvs : List (Key × V)) | dT (kvs : List (List Key × V))
  /-- a set of ints: its members, its size -/
  | set (S : Int → Bool) (n : Nat)
  /-- an instance of the class at C, its dict at dx, its attributes -/
  | ins (C dx : Addr) (fs : List (Str × V))
  /-- the dict of the instance at x -/
  | own (x : Addr)
  /-- the dict of an exception -/
  | xd (fs : List (Str × V))
  /-- a bound method, f of x -/
  | met (f x : Addr)
  /-- a range object lo, lo + 1, .. below hi -/
  | rng (lo hi : Int)
  /-- a thing that is known to the object (the script; a dict while a loop walks it): read, never written while it is so -/
  | frz (o : Obj) (u : HO)
  /-- a code object's table -/
  | tbl (ps : Array Value)
  /-- any other thing, by what is true of its one object (a def of one's own: SetO a S n := HO.ext fun h => ..) -/
  | ext (φ : Heap → Prop)
abbrev Hp := Addr → Option HO
def upd (H : Hp) (a : Addr) (o : HO) : Hp := fun b => if b = a then some o else H b
theorem upd_same {H : Hp} {a : Addr} {o : HO} : upd H a o a = some o := by unfold upd; rw [if_pos rfl]
theorem upd_ne {H : Hp} {a b : Addr} {o : HO} (h : b ≠ a) : upd H a o b = H b := by unfold upd; rw [if_neg h]
theorem ne_of_none {H : Hp} {a b : Addr} {o : HO} (h : H a = some o) (h' : H b = none) : a ≠ b := by
  intro e; subst e; rw [h] at h'; cases h'
section
variable (P : Program) (w : World)
def ObjOk (H : Hp) (h : Heap) (a : Addr) : HO → Prop
  | .lst xs => xs.length ≤ sizeLine ∧ ∃ (its : List Value) (n : Nat), Vals xs its ∧ h.get? a = some { cls := .type "list", data := .seq its.toArray n }
  | .tup xs => xs.length ≤ sizeLine ∧ ∃ its : List Value, Vals xs its ∧ IsTup h a its.toArray
  | .dK kvs => kvs.length ≤ sizeLine ∧ (a == sysModules) = false ∧ ∃ vs, KV kvs vs ∧ h.DictOf (mixKind P w) a vs
  | .dT kvs => kvs.length ≤ sizeLine ∧ (a == sysModules) = false ∧ ∃ xs : List (List Key × Addr × Value),
      Paired (fun (p : List Key × V) (q : List Key × Addr × Value) => p.1 = q.1 ∧ H q.2.1 = some (.tup (p.1.map kV)) ∧ RelV p.2 q.2.2) kvs xs ∧
      ∃ o es ep, h.get? a = some o ∧ o.ExactDict ∧ o.data = .dict es ep ∧ es.toList = xs.map (entryOfKey (tupleKind (mixKind P w))) ∧ (xs.map (·.1)).Nodup
  | .set S n => h.SetOf (intKind P w) a S n
  | .ins C dx fs => H dx = some (.own a) ∧ fs.length ≤ 1000 ∧ dx ≠ a ∧ h.get? a = some (PySem.W.instObj C dx) ∧
      ∃ mA, h.Ns1 dx mA ∧ (∀ f, RelO (fs.lookup f) (mA f)) ∧ PySem.Within mA (fs.map (·.1))
  | .own _ => ∃ o, h.get? a = some o
  | .xd fs => ∃ mA, h.Ns1 a mA ∧ ∀ f, RelO (fs.lookup f) (mA f)
  | .rng lo hi => ∃ t u v, h.get? a = some { cls := .type "range", data := .fields #[.int lo t, .int hi u, .int 1 v] }
  | .frz o u => h.get? a = some o ∧ ObjOk H h a u
  | .tbl ps => h.get? a = some { cls := .none, data := .fields ps }
  | .met f x => h.get? a = some (PySem.W.methodObj (.ref f) (.ref x))
  | .ext φ => φ h ∧ (∃ o, h.get? a = some o) ∧ ∀ h1 h2 : Heap, φ h1 → (∀ o, h1.get? a = some o → h2.get? a = some o) → φ h2
def HOk (H : Hp) (h : Heap) : Prop := ∀ a o, H a = some o → ObjOk P w H h a o
end
section
variable {P : Program} {w : World} {H H' : Hp} {h h' : Heap} {a : Addr} {o : HO}
theorem ObjOk.lt (x : ObjOk P w H h a o) : a < h.objs.size := by
  cases o with
  | lst xs => obtain ⟨_, _, _, _, e⟩ := x; exact Heap.lt_size e
  | tup xs => obtain ⟨_, _, _, p⟩ := x; exact p.lt
  | dK kvs => obtain ⟨_, _, _, _, o, _, _, e, _⟩ := x; exact Heap.lt_size e
  | dT kvs => obtain ⟨_, _, _, _, o, _, _, e, _⟩ := x; exact Heap.lt_size e
  | set S n => obtain ⟨o, _, _, _, e, _⟩ := x; exact Heap.lt_size e
  | ins C dx fs => obtain ⟨_, _, _, e, _⟩ := x; exact Heap.lt_size e
  | own y => obtain ⟨_, e⟩ := x; exact Heap.lt_size e
  | xd fs => obtain ⟨_, ⟨_, _, _, e, _⟩, _⟩ := x; exact Heap.lt_size e
  | rng lo hi => obtain ⟨_, _, _, e⟩ := x; exact Heap.lt_size e
  | frz ob u => obtain ⟨e, _⟩ := x; exact Heap.lt_size e
  | tbl ps => exact Heap.lt_size (show h.get? a = some _ from x)
  | met f y => exact Heap.lt_size (show h.get? a = some _ from x)
  | ext φ => obtain ⟨_, ⟨_, e⟩, _⟩ := x; exact Heap.lt_size e
theorem Paired.mapP {α β : Type} {F G : α → β → Prop} : ∀ {l₁ : List α} {l₂ : List β}, Paired F l₁ l₂ → (∀ a b, F a b → G a b) → Paired G l₁ l₂
  | _, _, .nil, _ => .nil
  | _, _, .cons r t, f => .cons (f _ _ r) (Paired.mapP t f)
theorem ObjOk.stay (x : ObjOk P w H h a o) (k : ∀ b u, (b = a ∨ H b = some (.own a)) → h.get? b = some u → h'.get? b = some u)
    (ho : ∀ b, H b = some (.own a) → H' b = some (.own a)) (ht : ∀ b xs, H b = some (.tup xs) → H' b = some (.tup xs)) : ObjOk P w H' h' a o := by
  induction o with
  | lst xs => obtain ⟨z, its, n, r, e⟩ := x; exact ⟨z, its, n, r, k _ _ (.inl rfl) e⟩
  | tup xs => obtain ⟨z, its, r, ob, e, c⟩ := x; exact ⟨z, its, r, ob, k _ _ (.inl rfl) e, c⟩
  | dK kvs => obtain ⟨z, y, vs, r, ob, es, ep, e, c⟩ := x; exact ⟨z, y, vs, r, ob, es, ep, k _ _ (.inl rfl) e, c⟩
  | dT kvs =>
    obtain ⟨z, y, xs, r, ob, es, ep, e, c⟩ := x
    exact ⟨z, y, xs, Paired.mapP r fun p q z => ⟨z.1, ht _ _ z.2.1, z.2.2⟩, ob, es, ep, k _ _ (.inl rfl) e, c⟩
  | set S n => obtain ⟨ob, es, ep, t, e, c⟩ := x; exact ⟨ob, es, ep, t, k _ _ (.inl rfl) e, c⟩
  | ins C dx fs =>
    obtain ⟨d, z, ne, e, mA, ⟨od, es, ep, e2, c⟩, r⟩ := x
    exact ⟨ho _ d, z, ne, k _ _ (.inl rfl) e, mA, ⟨od, es, ep, k _ _ (.inr d) e2, c⟩, r⟩
  | own y => obtain ⟨ob, e⟩ := x; exact ⟨ob, k _ _ (.inl rfl) e⟩
  | xd fs => obtain ⟨mA, ⟨od, es, ep, e, c⟩, r⟩ := x; exact ⟨mA, ⟨od, es, ep, k _ _ (.inl rfl) e, c⟩, r⟩
  | rng lo hi => obtain ⟨t, u, v, e⟩ := x; exact ⟨t, u, v, k _ _ (.inl rfl) e⟩
  | frz ob u ih => obtain ⟨e, q⟩ := x; exact ⟨k _ _ (.inl rfl) e, ih q⟩
  | tbl ps =>
    have e : h.get? a = some { cls := .none, data := .fields ps } := x
    show h'.get? a = some { cls := .none, data := .fields ps }
    exact k a _ (.inl rfl) e
  | met f y =>
    have e : h.get? a = some (PySem.W.methodObj (.ref f) (.ref y)) := x
    show h'.get? a = some (PySem.W.methodObj (.ref f) (.ref y))
    exact k a _ (.inl rfl) e
  | ext φ => obtain ⟨p, ⟨o, e⟩, st⟩ := x; exact ⟨st _ _ p fun o q => k _ _ (.inl rfl) q, ⟨o, k _ _ (.inl rfl) e⟩, st⟩
theorem HOk.lt (x : HOk P w H h) (e : H a = some o) : a < h.objs.size := (x a o e).lt
theorem HOk.fresh (x : HOk P w H h) (e : h.objs.size ≤ a) : H a = none := by
  cases q : H a with
  | none => rfl
  | some u => exact absurd (Nat.lt_of_lt_of_le (x.lt q) e) (Nat.lt_irrefl _)
theorem HOk.kept (x : HOk P w H h) (k : ∀ b u, h.get? b = some u → h'.get? b = some u) : HOk P w H h' := fun a o e =>
  (x a o e).stay (fun b u _ q => k b u q) (fun _ q => q) fun _ _ q => q
theorem HOk.laid (x : HOk P w H h) (k : ∀ b u, h.get? b = some u → h'.get? b = some u) (hp : h.objs.size ≤ a) (new : ObjOk P w (upd H a o) h' a o) : HOk P w (upd H a o) h' := fun b u e => by
  have hn := x.fresh hp
  by_cases hb : b = a
  · subst hb; rw [upd_same] at e; cases e; exact new
  · rw [upd_ne hb] at e
    exact (x b u e).stay (fun c v _ q => k c v q) (fun c q => by rw [upd_ne (ne_of_none q hn)]; exact q) fun c xs q => by rw [upd_ne (ne_of_none q hn)]; exact q
end
def Rd (H : Hp) (a : Addr) (u : HO) : Prop := H a = some u ∨ ∃ o, H a = some (.frz o u)
theorem Rd.of {H : Hp} {a : Addr} {u : HO} (h : H a = some u) : Rd H a u := .inl h
theorem Rd.ok {P : Program} {w : World} {H : Hp} {h : Heap} {a : Addr} {u : HO} (r : Rd H a u) (x : HOk P w H h) : ObjOk P w H h a u := by
  rcases r with r | ⟨o, r⟩
  · exact x a u r
  · obtain ⟨_, q⟩ := x a _ r
    exact q
def Mut : Option HO → Prop
  | some (.lst _) => True
  | some (.dK _) => True
  | some (.dT _) => True
  | some (.set _ _) => True
  | some (.ins _ _ _) => True
  | some (.ext _) => True
  | _ => False
section
variable {P : Program} {w : World} {H : Hp} {h h' : Heap} {x e : Addr} {o' : HO}
theorem HOk.write (ok : HOk P w H h) (mu : Mut (H x)) (he : e = x ∨ H e = some (.own x)) (k : ∀ b u, b ≠ e → h.get? b = some u → h'.get? b = some u) (heo : ∃ u, h'.get? e = some u)
    (new : ObjOk P w (upd H x o') h' x o') : HOk P w (upd H x o') h' := fun b u q => by
  have nown : ∀ c y, H c = some (.own y) → c ≠ x := fun c y r z => by subst z; rw [r] at mu; exact mu
  have ntup : ∀ c xs, H c = some (.tup xs) → c ≠ x := fun c xs r z => by subst z; rw [r] at mu; exact mu
  by_cases hb : b = x
  · subst hb; rw [upd_same] at q; cases q; exact new
  · rw [upd_ne hb] at q
    by_cases hbe : b = e
    · have q' : H b = some (.own x) := by
        rcases he with z | z
        · exact absurd (hbe.trans z) hb
        · rw [hbe]; exact z
      rw [q] at q'; cases q'
      obtain ⟨v, hv⟩ := heo
      exact ⟨v, by rw [hbe]; exact hv⟩
    · refine (ok b u q).stay (fun c v hc r => k c v ?_ r) (fun c r => by rw [upd_ne (nown c b r)]; exact r) fun c xs r => by rw [upd_ne (ntup c xs r)]; exact r
      rcases hc with rfl | hc
      · exact hbe
      · rintro rfl
        rcases he with z | z
        · exact nown c b hc z
        · rw [hc] at z; cases z; exact hb rfl
end
structure Un (fs ex : List Addr) (H H' : Hp) (h h' : Heap) : Prop where
  keep : ∀ b o, h.get? b = some o → H b = none → b ∉ fs → b ∉ ex → h'.get? b = some o
  slot : ∀ b o, h.get? b = some o → H b = none → b ∈ fs → b ∉ ex → ∃ sl, h'.get? b = some { o with slots := sl }
  free : ∀ b o, h.get? b = some o → H b = none → b ∉ ex → H' b = none
  there : ∀ b o, h.get? b = some o → b ∉ ex → ∃ o', h'.get? b = some o'
  tups : ∀ b xs, H b = some (.tup xs) → H' b = some (.tup xs)
  frzs : ∀ b o u, H b = some (.frz o u) → H' b = some (.frz o u)
  tbls : ∀ b ps, H b = some (.tbl ps) → ∃ more, H' b = some (.tbl (ps ++ more))
section
variable {fs fs' ex ex' : List Addr} {H H1 H2 : Hp} {h h1 h2 h' : Heap} {a x e : Addr} {o : HO}
theorem Un.any (u : Un fs ex H H1 h h1) {b : Addr} {ob : Obj} (q : h.get? b = some ob) (n : H b = none) (hx : b ∉ ex) : ∃ sl, h1.get? b = some { ob with slots := sl } := by
  by_cases hb : b ∈ fs
  · exact u.slot b ob q n hb hx
  · exact ⟨ob.slots, u.keep b ob q n hb hx⟩
theorem Un.trans (a : Un fs ex H H1 h h1) (b : Un fs ex H1 H2 h1 h2) : Un fs ex H H2 h h2 where
  keep := fun c ob q n hc hx => b.keep c ob (a.keep c ob q n hc hx) (a.free c ob q n hx) hc hx
  slot := fun c ob q n hc hx => by
    obtain ⟨sl, e1⟩ := a.slot c ob q n hc hx
    obtain ⟨sl', e2⟩ := b.slot c _ e1 (a.free c ob q n hx) hc hx
    exact ⟨sl', e2⟩
  free := fun c ob q n hx => by
    obtain ⟨o', e1⟩ := a.there c ob q hx
    exact b.free c o' e1 (a.free c ob q n hx) hx
  there := fun c ob q hx => by
    obtain ⟨o', e1⟩ := a.there c ob q hx
    exact b.there c o' e1 hx
  tups := fun c xs q => b.tups c xs (a.tups c xs q)
  frzs := fun c ob xs q => b.frzs c ob xs (a.frzs c ob xs q)
  tbls := fun c ps q => by
    obtain ⟨m1, e1⟩ := a.tbls c ps q
    obtain ⟨m2, e2⟩ := b.tbls c _ e1
    exact ⟨m1 ++ m2, by rw [e2, Array.append_assoc]⟩
theorem Un.kept (k : ∀ b u, h.get? b = some u → h'.get? b = some u) : Un fs ex H H h h' :=
  ⟨fun b ob q _ _ _ => k b ob q, fun b ob q _ _ _ => ⟨ob.slots, k b ob q⟩, fun _ _ _ n _ => n, fun b ob q _ => ⟨ob, k b ob q⟩, fun _ _ q => q, fun _ _ _ q => q, fun _ ps q => ⟨#[], by rw [q]; simp⟩⟩
theorem Un.refl : Un fs ex H H h h := Un.kept fun _ _ q => q
theorem Un.laid (k : ∀ b u, h.get? b = some u → h'.get? b = some u) (hp : h.objs.size ≤ a) (hn : H a = none) : Un fs ex H (upd H a o) h h' where
  keep := fun b u q _ _ _ => k b u q
  slot := fun b u q _ _ _ => ⟨u.slots, k b u q⟩
  free := fun b u q n _ => by rw [upd_ne (Nat.ne_of_lt (Nat.lt_of_lt_of_le (Heap.lt_size q) hp))]; exact n
  there := fun b u q _ => ⟨u, k b u q⟩
  tups := fun b xs q => by rw [upd_ne (ne_of_none q hn)]; exact q
  frzs := fun b u xs q => by rw [upd_ne (ne_of_none q hn)]; exact q
  tbls := fun b ps q => ⟨#[], by rw [upd_ne (ne_of_none q hn), q]; simp⟩
theorem Un.write (mu : Mut (H x)) (he : e = x ∨ H e = some (.own x)) (k : ∀ b u, b ≠ e → h.get? b = some u → h'.get? b = some u) (heo : ∃ u, h'.get? e = some u) : Un fs ex H (upd H x o) h h' := by
  have hx : ∀ b, H b = none → b ≠ x := fun b n z => by subst z; rw [n] at mu; exact mu
  have hb : ∀ b, H b = none → b ≠ e := fun b n z => by
    subst z
    rcases he with r | r
    · exact hx b n r
    · rw [n] at r; cases r
  have hm : ∀ b u, H b = some u → ¬ Mut (some u) → b ≠ x := fun b u q nm z => by subst z; rw [q] at mu; exact nm mu
  refine ⟨fun b u q n _ _ => k b u (hb b n) q, fun b u q n _ _ => ⟨u.slots, k b u (hb b n) q⟩, fun b u q n _ => by rw [upd_ne (hx b n)]; exact n, fun b u q _ => ?_,
    fun b xs q => by rw [upd_ne (hm b _ q fun z => z)]; exact q, fun b u xs q => by rw [upd_ne (hm b _ q fun z => z)]; exact q, fun b ps q => ⟨#[], by rw [upd_ne (hm b _ q fun z => z), q]; simp⟩⟩
  by_cases hbe : b = e
  · subst hbe; exact heo
  · exact ⟨u, k b u hbe q⟩
end
def trk (h : Heap) (H : Hp) : List Addr := (List.range h.objs.size).filter fun a => (H a).isSome
def hidT (h : Heap) (H : Hp) : Heap := PySem.W.hideAll h (trk h H)
theorem hidT_size (h : Heap) (H : Hp) : (hidT h H).objs.size = h.objs.size := PySem.W.hideAll_size _ _
theorem hidT_get {h : Heap} {H : Hp} {b : Addr} {o : Obj} (e : h.get? b = some o) (n : H b = none) : (hidT h H).get? b = some o :=
  PySem.W.hideAll_get _ e fun hm => by
    have q : (H b).isSome = true := (List.mem_filter.mp hm).2
    rw [n] at q; simp at q
theorem of_hidT {h : Heap} {H : Hp} {b : Addr} {o : Obj} (e : (hidT h H).get? b = some o) : h.get? b = some o ∧ H b = none := by
  have e' : h.get? b = some o := PySem.W.of_hideAll (trk h H) e
  refine ⟨e', ?_⟩
  cases q : H b with
  | none => rfl
  | some x =>
    have hm : b ∈ trk h H := List.mem_filter.mpr ⟨List.mem_range.mpr (Heap.lt_size e'), by simp [q]⟩
    have z : (hidT h H).get? b = none := PySem.W.hideAll_none (trk h H) hm
    rw [z] at e; cases e
def allNews (g h : Heap) (L : Addr) : List (Addr × Obj) := (List.range h.objs.size).filterMap fun a => if a = L ∨ (g.get? a).isSome = true then none else (h.get? a).map fun o => (a, o)
def rest (g h : Heap) (L d : Addr) : List (Addr × Obj) := (allNews g h L).filter fun p => decide (p.1 ≠ d)
end L2
namespace L2
open PySem PySem.Spec PyProof.Rows
structure Mod (K : PySem.W.Frag) (mg : Str → Option Value) (base : Heap) : Prop where
  kin : K.In base
  glob : base.Ns mainGlobals mg
  blt : ∃ mb, base.Ns builtinsNs mb ∧ ∀ x : Str, x ≠ "__name__" → mb x = bootBuiltins x
  nolimit : base.NoLimit
structure Cx where
  prog : Program
  w : World
  K : PySem.W.Frag
  mg : Str → Option Value
  base : Heap
  A : Around
  N : List Str
  s₀ : Shared
  H₀ : Hp
  env : Env
  outer : List Env
  stack : List Env
  ex : List Addr
  fn : Str → Bool
  calm : Bool
  pn : List (Addr × Obj)
  xe : Value → Shared → Prop
def frs (l : List Env) : List Addr := l.filterMap (·.frame)
abbrev Cx.fs (X : Cx) : List Addr := frs X.outer
def Vis (sc : Scope) (x : Str) : Prop := sc.names.lookup x = some .local ∨ sc.names.lookup x = some .cell ∨ sc.names.lookup x = some .free
def Loc (sc : Scope) (x : Str) : Prop := sc.names.lookup x = some .local ∨ sc.names.lookup x = some .cell
def Look (env : Env) (h : Heap) (m : Str → Option Value) (x : Str) (u : Value) : Prop :=
  (env.kindOf x = some .local ∧ m x = some u) ∨ ((env.kindOf x = some .cell ∨ env.kindOf x = some .free) ∧ ∃ c, env.cells.lookup x = some c ∧ h.IsCell c (some u))
structure Cx.Ok (X : Cx) : Prop where
  mod : Mod X.K X.mg X.base
  kind : X.env.scope.kind = .function
  glob : X.env.globals = mainGlobals
  blt : X.env.builtins = builtinsNs
  above : X.s₀.heap.objs.size ≤ X.env.locals
  inj : ∀ x y c, X.env.cells.lookup x = some c → X.env.cells.lookup y = some c → x = y
  has : ∀ x, (X.env.kindOf x = some .cell ∨ X.env.kindOf x = some .free) → ∃ c, X.env.cells.lookup x = some c
  cab : ∀ x c, X.fn x = true → X.env.cells.lookup x = some c → X.s₀.heap.objs.size ≤ c
  hd : X.calm = true → X.A.handled = none
  frames : X.A.frames = some X.stack
  stk : X.stack = X.outer ∨ (X.stack = X.env :: X.outer ∧ X.env.frame = some X.env.locals)
  exf : ∀ b ∈ X.ex, b ≠ X.env.locals ∧ ∀ x c, X.env.cells.lookup x = some c → c ≠ b
  bs : ∀ b o, X.base.get? b = some o → X.s₀.heap.get? b = some o ∧ X.H₀ b = none
  bsz : X.base.objs.size ≤ X.s₀.heap.objs.size
  noex : ∀ b o, X.base.get? b = some o → b ∉ X.ex
  exfs : ∀ b ∈ X.ex, b ∉ X.fs
  funs : X.s₀.heap.FunFrames X.base X.outer
  frf : ∀ b ∈ X.fs, X.H₀ b = none
structure Inv (X : Cx) (pins : List (Addr × Obj)) (σ : List (Option V)) (H : Hp) (s : Shared) : Prop where
  ok : X.Ok
  os : s.os = X.s₀.os
  bare : AllBare s.gens
  base : Un X.fs X.ex X.H₀ H X.s₀.heap s.heap
  loc : ∃ m, s.heap.Ns X.env.locals m ∧ ∀ (i : Nat) (x : Str) (v : V), X.N[i]? = some x → σ[i]? = some (some v) → Vis X.env.scope x → ∃ u, RelV v u ∧ Look X.env s.heap m x u
  cell : ∀ x c, X.env.cells.lookup x = some c → ∃ v, s.heap.IsCell c v
  free : H X.env.locals = none
  freeC : ∀ x c, X.env.cells.lookup x = some c → H c = none
  pin : ∀ p ∈ X.pn ++ pins, s.heap.get? p.1 = some p.2 ∧ H p.1 = none ∧ p.1 ≠ X.env.locals ∧ p.1 ∉ X.fs ∧ ∀ v, p.2.data ≠ .cell v
  hok : HOk X.prog X.w H s.heap
  len : σ.length = X.N.length
section
variable {X : Cx} {pins : List (Addr × Obj)} {σ : List (Option V)} {H H' : Hp} {s : Shared} {h' : Heap}
theorem Cx.Ok.nofr (ok : X.Ok) {b : Addr} {o : Obj} (e : X.base.get? b = some o) : b ∉ X.fs := fun hb => by
  have := (ok.funs.mem hb).1
  rw [e] at this; cases this
theorem Inv.bs (I : Inv X pins σ H s) : ∀ b o, X.base.get? b = some o → s.heap.get? b = some o ∧ H b = none := fun b o e =>
  ⟨I.base.keep b o (I.ok.bs b o e).1 (I.ok.bs b o e).2 (I.ok.nofr e) (I.ok.noex b o e), I.base.free b o (I.ok.bs b o e).1 (I.ok.bs b o e).2 (I.ok.noex b o e)⟩
theorem Inv.bk (I : Inv X pins σ H s) : ∀ b o, X.base.get? b = some o → s.heap.get? b = some o := fun b o e => (I.bs b o e).1
theorem Inv.mod (I : Inv X pins σ H s) : Mod X.K X.mg X.base := I.ok.mod
theorem Inv.kIn (I : Inv X pins σ H s) : X.K.In s.heap := I.ok.mod.kin.keeps I.bk
theorem Inv.fr (I : Inv X pins σ H s) : ∃ m, Fr X.base X.env.locals s.heap m :=
  let ⟨m, hn, _⟩ := I.loc
  ⟨m, hn, I.bk, Nat.le_trans I.ok.bsz I.ok.above⟩
theorem Inv.lt (I : Inv X pins σ H s) : X.env.locals < s.heap.objs.size := let ⟨_, hn, _⟩ := I.loc; hn.lt
theorem Inv.sz (I : Inv X pins σ H s) : X.s₀.heap.objs.size ≤ s.heap.objs.size := Nat.le_trans I.ok.above (Nat.le_of_lt I.lt)
theorem Inv.nofs (I : Inv X pins σ H s) {a : Addr} (h : s.heap.objs.size ≤ a) : a ∉ X.fs := fun hb => by
  obtain ⟨_, o, ho, _⟩ := I.ok.funs.mem hb
  exact absurd (Nat.lt_of_lt_of_le (Heap.lt_size ho) (Nat.le_trans I.sz h)) (Nat.lt_irrefl _)
theorem Inv.cne (I : Inv X pins σ H s) : ∀ x c, X.env.cells.lookup x = some c → c ≠ X.env.locals := fun x c e z => by
  obtain ⟨v, o, ho, hd⟩ := I.cell x c e
  obtain ⟨m, ⟨o', es, ep, ho', hd', _⟩, _⟩ := I.loc
  rw [z, ho'] at ho; cases ho; rw [hd'] at hd; cases hd
theorem Inv.funs (I : Inv X pins σ H s) : s.heap.FunFrames X.base X.outer := by
  have all : ∀ (l : List Env), (∀ b ∈ frs l, b ∈ X.fs) → X.s₀.heap.FunFrames X.base l → s.heap.FunFrames X.base l := by
    intro l
    induction l with
    | nil => intro _ _; trivial
    | cons env r ih =>
      intro hs hl
      obtain ⟨hk, ⟨L, o, hf, hn, ho, hd⟩, hr⟩ := hl
      have hL : L ∈ X.fs := hs L (by unfold frs; rw [List.filterMap_cons, hf]; exact List.mem_cons_self)
      obtain ⟨sl, e⟩ := I.base.slot L o ho (I.ok.frf L hL) hL fun z => I.ok.exfs L z hL
      exact ⟨hk, ⟨L, _, hf, hn, e, hd⟩, ih (fun b hb => hs b (by unfold frs; rw [List.filterMap_cons, hf]; exact List.mem_cons_of_mem _ hb)) hr⟩
  exact all X.outer (fun _ hb => hb) I.ok.funs
theorem Inv.stack (I : Inv X pins σ H s) : s.heap.FunFrames X.base X.stack := by
  rcases I.ok.stk with e | ⟨e, hf⟩
  · rw [e]; exact I.funs
  · rw [e]
    obtain ⟨m, hn, _⟩ := I.loc
    refine .cons (by rw [I.ok.kind]; decide) hf hn ?_ I.funs
    exact Heap.get?_none_of_le (Nat.le_trans I.ok.bsz I.ok.above)
theorem Inv.stkSub (I : Inv X pins σ H s) : ∀ b ∈ frs X.stack, b ∈ X.env.locals :: X.fs := fun b hb => by
  rcases I.ok.stk with e | ⟨e, hf⟩
  · rw [e] at hb; exact List.mem_cons_of_mem _ hb
  · rw [e] at hb
    unfold frs at hb
    rw [List.filterMap_cons, hf] at hb
    exact hb
theorem Inv.stkFree (I : Inv X pins σ H s) : ∀ b ∈ frs X.stack, H b = none := fun b hb => by
  rcases List.mem_cons.mp (I.stkSub b hb) with e | hb
  · rw [e]; exact I.free
  · obtain ⟨_, o, ho, _⟩ := I.ok.funs.mem hb
    exact I.base.free b o ho (I.ok.frf b hb) fun z => I.ok.exfs b z hb
theorem Inv.step {g' : Array GenState} {t' : Nat} {d' : Drawn} {ch : List Addr} (I : Inv X pins σ H s)
    (hch : ∀ b ∈ ch, (b ∈ X.ex ∨ X.s₀.heap.objs.size ≤ b) ∧ b ≠ X.env.locals ∧ (∀ x c, X.env.cells.lookup x = some c → c ≠ b) ∧ ∀ p ∈ X.pn ++ pins, p.1 ≠ b)
    (keep : ∀ b o, b ≠ X.env.locals → b ∉ X.fs → b ∉ ch → s.heap.get? b = some o → H b = none → h'.get? b = some o)
    (slot : ∀ b o, b ≠ X.env.locals → b ∈ X.fs → b ∉ ch → s.heap.get? b = some o → H b = none → ∃ sl, h'.get? b = some { o with slots := sl }) (free : ∀ b o, b ∉ ch → s.heap.get? b = some o → H b = none → H' b = none)
    (there : ∀ b o, b ∉ ch → s.heap.get? b = some o → ∃ o', h'.get? b = some o')
    (tups : ∀ b xs, H b = some (.tup xs) → H' b = some (.tup xs)) (frzs : ∀ b o u, H b = some (.frz o u) → H' b = some (.frz o u)) (tbls : ∀ b ps, H b = some (.tbl ps) → ∃ more, H' b = some (.tbl (ps ++ more)))
    (ns : ∀ m, s.heap.Ns X.env.locals m → h'.Ns X.env.locals m) (hok : HOk X.prog X.w H' h') (hg : AllBare g') :
    Inv X pins σ H' { s with heap := h', gens := g', drawn := d', toks := t' } := by
  have neL : ∀ b o, X.s₀.heap.get? b = some o → b ≠ X.env.locals := fun b o e => Nat.ne_of_lt (Nat.lt_of_lt_of_le (Heap.lt_size e) I.ok.above)
  have neC : ∀ b o, X.s₀.heap.get? b = some o → b ∉ X.ex → b ∉ ch := fun b o e hx hb => by
    rcases (hch b hb).1 with z | z
    · exact hx z
    · exact absurd (Nat.lt_of_lt_of_le (Heap.lt_size e) z) (Nat.lt_irrefl _)
  have cellK : ∀ x c, X.env.cells.lookup x = some c → ∀ v, s.heap.IsCell c v → h'.IsCell c v := fun x c e v ⟨o, ho, hd⟩ => by
    have nch : c ∉ ch := fun z => (hch c z).2.2.1 x c e rfl
    by_cases hc : c ∈ X.fs
    · obtain ⟨sl, q⟩ := slot c o (I.cne x c e) hc nch ho (I.freeC x c e)
      exact ⟨_, q, hd⟩
    · exact ⟨o, keep c o (I.cne x c e) hc nch ho (I.freeC x c e), hd⟩
  refine ⟨I.ok, I.os, hg, ⟨fun b o e n hb hx => ?_, fun b o e n hb hx => ?_, fun b o e n hx => ?_, fun b o e hx => ?_, fun b xs e => tups b xs (I.base.tups b xs e), fun b o xs e => frzs b o xs (I.base.frzs b o xs e), fun b ps e => ?_⟩, ?_, fun x c e => ?_, ?_, fun x c e => ?_, fun p hp => ?_, hok, I.len⟩
  · exact keep b o (neL b o e) hb (neC b o e hx) (I.base.keep b o e n hb hx) (I.base.free b o e n hx)
  · obtain ⟨sl, e1⟩ := I.base.slot b o e n hb hx
    obtain ⟨sl', e2⟩ := slot b _ (neL b o e) hb (neC b o e hx) e1 (I.base.free b o e n hx)
    exact ⟨sl', e2⟩
  · obtain ⟨o', e1⟩ := I.base.there b o e hx
    exact free b o' (neC b o e hx) e1 (I.base.free b o e n hx)
  · obtain ⟨o', e1⟩ := I.base.there b o e hx
    exact there b o' (neC b o e hx) e1
  · obtain ⟨m1, e1⟩ := I.base.tbls b ps e
    obtain ⟨m2, e2⟩ := tbls b _ e1
    exact ⟨m1 ++ m2, by rw [e2, Array.append_assoc]⟩
  · obtain ⟨m, hn, hl⟩ := I.loc
    refine ⟨m, ns m hn, fun i x v e1 e2 e3 => ?_⟩
    obtain ⟨u, r, l⟩ := hl i x v e1 e2 e3
    refine ⟨u, r, ?_⟩
    rcases l with l | ⟨k, c, e, z⟩
    · exact .inl l
    · exact .inr ⟨k, c, e, cellK x c e _ z⟩
  · obtain ⟨v, z⟩ := I.cell x c e
    exact ⟨v, cellK x c e v z⟩
  · obtain ⟨m, ⟨o, _, _, ho, _⟩, _⟩ := I.loc
    exact free _ o (fun z => (hch _ z).2.1 rfl) ho I.free
  · obtain ⟨v, o, ho, hd⟩ := I.cell x c e
    exact free c o (fun z => (hch c z).2.2.1 x c e rfl) ho (I.freeC x c e)
  · obtain ⟨e, n, ne, nf, d⟩ := I.pin p hp
    have nch : p.1 ∉ ch := fun z => (hch p.1 z).2.2.2 p hp rfl
    exact ⟨keep p.1 p.2 ne nf nch e n, free p.1 p.2 nch e n, ne, nf, d⟩
theorem Inv.un {t' : Nat} (I : Inv X pins σ H s) (u : Un X.fs [] H H' s.heap h') (hok : HOk X.prog X.w H' h') : Inv X pins σ H' { s with heap := h', toks := t' } := by
  obtain ⟨m, ⟨o, es, ep, ho, r⟩, _⟩ := id I.loc
  obtain ⟨sl, hL⟩ := u.any ho I.free (by simp)
  exact I.step (g' := s.gens) (d' := s.drawn) (ch := []) (fun _ z => nomatch z) (fun b o _ hb _ e n => u.keep b o e n hb (by simp)) (fun b o _ hb _ e n => u.slot b o e n hb (by simp)) (fun b o _ e n => u.free b o e n (by simp)) (fun b o _ e => u.there b o e (by simp)) u.tups u.frzs u.tbls (fun m' hm => by
    obtain ⟨o', es', ep', ho', r'⟩ := hm
    rw [ho] at ho'; cases ho'
    exact ⟨_, es', ep', hL, r'⟩) hok I.bare
theorem Inv.call {g' : Array GenState} {t' : Nat} {d' : Drawn} {ch : List Addr} (I : Inv X pins σ H s) (u : Un (frs X.stack) ch H H' s.heap h') (hok : HOk X.prog X.w H' h') (hg : AllBare g')
    (hch : ∀ b ∈ ch, (b ∈ X.ex ∨ X.s₀.heap.objs.size ≤ b) ∧ b ≠ X.env.locals ∧ (∀ x c, X.env.cells.lookup x = some c → c ≠ b) ∧ ∀ p ∈ X.pn ++ pins, p.1 ≠ b) :
    Inv X pins σ H' { s with heap := h', gens := g', drawn := d', toks := t' } := by
  obtain ⟨m, ⟨o, es, ep, ho, r⟩, _⟩ := id I.loc
  obtain ⟨sl, hL⟩ := u.any ho I.free fun z => (hch _ z).2.1 rfl
  exact I.step (ch := ch) hch (fun b o hL hb hc e n => u.keep b o e n (fun z => (List.mem_cons.mp (I.stkSub b z)).elim hL hb) hc) (fun b o _ _ hc e n => u.any e n hc) (fun b o hc e n => u.free b o e n hc) (fun b o hc e => u.there b o e hc) u.tups u.frzs u.tbls (fun m' hm => by
    obtain ⟨o', es', ep', ho', r'⟩ := hm
    rw [ho] at ho'; cases ho'
    exact ⟨_, es', ep', hL, r'⟩) hok hg
theorem Inv.turned {t' : Nat} {it : Addr} (I : Inv X pins σ H s) (k : ∀ b o, b ≠ it → s.heap.get? b = some o → h'.get? b = some o) (hn : H it = none) (hL : it ≠ X.env.locals)
    (h1 : it ∈ X.ex ∨ X.s₀.heap.objs.size ≤ it) (h2 : ∀ x c, X.env.cells.lookup x = some c → c ≠ it) (h3 : ∀ p ∈ X.pn ++ pins, p.1 ≠ it) : Inv X pins σ H { s with heap := h', toks := t' } := by
  have nit : ∀ b u, H b = some u → b ≠ it := fun b u e z => by rw [z, hn] at e; cases e
  refine I.step (g' := s.gens) (d' := s.drawn) (ch := [it]) (fun b hb => ?_) (fun b o _ _ hc e _ => k b o (fun z => hc (by simp [z])) e) (fun b o _ _ hc e _ => ⟨o.slots, k b o (fun z => hc (by simp [z])) e⟩) (fun _ _ _ _ n => n)
    (fun b o hc e => ⟨o, k b o (fun z => hc (by simp [z])) e⟩) (fun _ _ e => e) (fun _ _ _ e => e) (fun b ps e => ⟨#[], by rw [e]; simp⟩) (fun m hm => ?_) (fun b u e => ?_) I.bare
  · have e : b = it := by simpa using hb
    subst e
    exact ⟨h1, hL, h2, h3⟩
  · obtain ⟨o, es, ep, ho, r⟩ := hm
    exact ⟨o, es, ep, k _ o (Ne.symm hL) ho, r⟩
  · refine (I.hok b u e).stay (fun c v hc q => k c v ?_ q) (fun _ q => q) fun _ _ q => q
    rcases hc with z | z
    · rw [z]; exact nit b u e
    · exact nit c _ z
theorem Inv.tok (I : Inv X pins σ H s) (t : Nat) : Inv X pins σ H { s with toks := t } := I.un (h' := s.heap) (t' := t) Un.refl I.hok
theorem Inv.kept {t' : Nat} (I : Inv X pins σ H s) (k : ∀ b u, s.heap.get? b = some u → h'.get? b = some u) : Inv X pins σ H { s with heap := h', toks := t' } := I.un (Un.kept k) (I.hok.kept k)
theorem Inv.laid {a : Addr} {o : HO} {t' : Nat} (I : Inv X pins σ H s) (k : ∀ b u, s.heap.get? b = some u → h'.get? b = some u) (hp : s.heap.objs.size ≤ a) (new : ObjOk X.prog X.w (upd H a o) h' a o) :
    Inv X pins σ (upd H a o) { s with heap := h', toks := t' } := I.un (Un.laid k hp (I.hok.fresh hp)) (I.hok.laid k hp new)
theorem Inv.write {x e : Addr} {o : HO} {t' : Nat} (I : Inv X pins σ H s) (mu : Mut (H x)) (he : e = x ∨ H e = some (.own x)) (k : ∀ b u, b ≠ e → s.heap.get? b = some u → h'.get? b = some u) (heo : ∃ u, h'.get? e = some u)
    (new : ObjOk X.prog X.w (upd H x o) h' x o) : Inv X pins σ (upd H x o) { s with heap := h', toks := t' } := I.un (Un.write mu he k heo) (I.hok.write mu he k heo new)
theorem Inv.pins_of {pins' : List (Addr × Obj)} (I : Inv X pins σ H s) (h : ∀ p ∈ pins', s.heap.get? p.1 = some p.2 ∧ H p.1 = none ∧ p.1 ≠ X.env.locals ∧ p.1 ∉ X.fs ∧ ∀ v, p.2.data ≠ .cell v) : Inv X pins' σ H s :=
  ⟨I.ok, I.os, I.bare, I.base, I.loc, I.cell, I.free, I.freeC, fun p hp => (List.mem_append.mp hp).elim (fun z => I.pin p (List.mem_append_left _ z)) (h p), I.hok, I.len⟩
theorem nodup_ix {N : List Str} (hN : N.Nodup) {i j : Nat} {x : Str} (a : N[i]? = some x) (b : N[j]? = some x) : i = j := by
  obtain ⟨h1, e1⟩ := List.getElem?_eq_some_iff.mp a
  obtain ⟨h2, e2⟩ := List.getElem?_eq_some_iff.mp b
  exact (List.getElem_inj hN).mp (e1.trans e2.symm)
theorem store_ok2 {M : Model} {A : Around} {E : Value → Shared → Prop} {i : Nat} {x : Str} {v : V} {u : Value} {Q : Unit → Shared → Prop} (I : Inv X pins σ H s) (hN : X.N.Nodup) (hi : X.N[i]? = some x) (hx : Loc X.env.scope x) (r : RelV v u)
    (h : ∀ s', Inv X pins (σ.set i (some v)) H s' → (∃ a, Heap.SameBut a s.heap s'.heap ∧ (a = X.env.locals ∨ X.env.cells.lookup x = some a)) → Q () s') (hf : X.fn x = true ∨ X.env.scope.names.lookup x = some .local := by first | exact .inl rfl | exact .inr rfl | assumption) : wpAny M A (storeName X.env x u) Q E s := by
  obtain ⟨m, hn, hl⟩ := id I.loc
  have hcls : (X.env.scope.kind == .class || (X.env.scope.kind == .module && X.env.locals != X.env.globals)) = false := by rw [I.ok.kind]; rfl
  have hiσ : i < σ.length := by rw [I.len]; exact (List.getElem?_eq_some_iff.mp hi).1
  have cne := I.cne
  have tracked : ∀ {a : Addr} {h' : Heap}, (∃ o, s.heap.get? a = some o ∧ H a = none) → Heap.SameBut a s.heap h' → HOk X.prog X.w H h' := fun {a h'} ha hs b ob e => by
    obtain ⟨_, _, hfree⟩ := ha
    refine (I.hok b ob e).stay (fun c w' hc q => (hs.2 c ?_).trans q) (fun _ q => q) fun _ _ q => q
    rintro rfl
    rcases hc with rfl | hc
    · rw [hfree] at e; cases e
    · rw [hfree] at hc; cases hc
  rcases hx with hk | hk
  · refine wpAny_storeName_local hk hn (fun h' hn' hs => ?_) hcls
    obtain ⟨oL, _, _, hoL, _⟩ := id hn
    refine h _ ⟨I.ok, I.os, I.bare, ⟨fun b o e n hb hx => ?_, fun b o e n hb hx => ?_, I.base.free, fun b o e hx => ?_, I.base.tups, I.base.frzs, I.base.tbls⟩, ⟨_, hn', fun j y v' e1 e2 e3 => ?_⟩, fun y c e => ?_, I.free, I.freeC, fun p hp => ?_, tracked ⟨oL, hoL, I.free⟩ hs, by simpa using I.len⟩ ⟨_, hs, .inl rfl⟩
    · exact (hs.2 b (Nat.ne_of_lt (Nat.lt_of_lt_of_le (Heap.lt_size e) I.ok.above))).trans (I.base.keep b o e n hb hx)
    · obtain ⟨sl, e1⟩ := I.base.slot b o e n hb hx
      exact ⟨sl, (hs.2 b (Nat.ne_of_lt (Nat.lt_of_lt_of_le (Heap.lt_size e) I.ok.above))).trans e1⟩
    · obtain ⟨o', e1⟩ := I.base.there b o e hx
      exact ⟨o', (hs.2 b (Nat.ne_of_lt (Nat.lt_of_lt_of_le (Heap.lt_size e) I.ok.above))).trans e1⟩
    · by_cases hj : j = i
      · subst hj
        rw [hi] at e1; cases e1
        rw [List.getElem?_set_self hiσ] at e2
        cases e2
        exact ⟨u, r, .inl ⟨hk, by simp⟩⟩
      · rw [List.getElem?_set_ne (Ne.symm hj)] at e2
        obtain ⟨u', r', q⟩ := hl j y v' e1 e2 e3
        refine ⟨u', r', ?_⟩
        rcases q with ⟨k, e⟩ | ⟨k, c, e, z⟩
        · refine .inl ⟨k, ?_⟩
          have : y ≠ x := fun e => hj (nodup_ix hN e1 (e ▸ hi))
          simp [this, e]
        · exact .inr ⟨k, c, e, z.sameBut hs (cne y c e)⟩
    · obtain ⟨w', z⟩ := I.cell y c e
      exact ⟨w', z.sameBut hs (cne y c e)⟩
    · obtain ⟨e, n, ne, nf, d⟩ := I.pin p hp
      exact ⟨(hs.2 p.1 ne).trans e, n, ne, nf, d⟩
  · have hfn : X.fn x = true := by
      rcases hf with z | z
      · exact z
      · rw [z] at hk; cases hk
    obtain ⟨c, hc⟩ := I.ok.has x (.inl hk)
    obtain ⟨w', z⟩ := I.cell x c hc
    refine wpAny_storeName_cell I.ok.kind hk hc z (fun h' hc' hs => ?_)
    obtain ⟨oc, hoc, hocd⟩ := id z
    refine h { s with heap := h' } ⟨I.ok, I.os, I.bare, ⟨fun b o e n hb hx => ?_, fun b o e n hb hx => ?_, I.base.free, fun b o e hx => ?_, I.base.tups, I.base.frzs, I.base.tbls⟩, ⟨m, hn.sameBut hs (Ne.symm (cne x c hc)), fun j y v' e1 e2 e3 => ?_⟩, fun y c' e => ?_, I.free, I.freeC, fun p hp => ?_, tracked ⟨oc, hoc, I.freeC x c hc⟩ hs, by simpa using I.len⟩ ⟨c, hs, .inr hc⟩
    · exact (hs.2 b (Nat.ne_of_lt (Nat.lt_of_lt_of_le (Heap.lt_size e) (I.ok.cab x c hfn hc)))).trans (I.base.keep b o e n hb hx)
    · obtain ⟨sl, e1⟩ := I.base.slot b o e n hb hx
      exact ⟨sl, (hs.2 b (Nat.ne_of_lt (Nat.lt_of_lt_of_le (Heap.lt_size e) (I.ok.cab x c hfn hc)))).trans e1⟩
    · obtain ⟨o', e1⟩ := I.base.there b o e hx
      exact ⟨o', (hs.2 b (Nat.ne_of_lt (Nat.lt_of_lt_of_le (Heap.lt_size e) (I.ok.cab x c hfn hc)))).trans e1⟩
    · by_cases hj : j = i
      · subst hj
        rw [hi] at e1; cases e1
        rw [List.getElem?_set_self hiσ] at e2
        cases e2
        exact ⟨u, r, .inr ⟨.inl hk, c, hc, hc'⟩⟩
      · rw [List.getElem?_set_ne (Ne.symm hj)] at e2
        obtain ⟨u', r', q⟩ := hl j y v' e1 e2 e3
        refine ⟨u', r', ?_⟩
        rcases q with q | ⟨k, c', e, z'⟩
        · exact .inl q
        · refine .inr ⟨k, c', e, z'.sameBut hs ?_⟩
          rintro rfl
          exact hj (nodup_ix hN e1 (I.ok.inj _ _ _ e hc ▸ hi))
    · by_cases hcc : c' = c
      · subst hcc; exact ⟨_, hc'⟩
      · obtain ⟨w2, z2⟩ := I.cell y c' e
        exact ⟨w2, z2.sameBut hs hcc⟩
    · obtain ⟨e, n, ne, nf, d⟩ := I.pin p hp
      refine ⟨(hs.2 p.1 ?_).trans e, n, ne, nf, d⟩
      intro q
      rw [q, hoc] at e
      have q' : oc = p.2 := Option.some.inj e
      exact d w' (by rw [← q']; exact hocd)
theorem store_ok {M : Model} {A : Around} {E : Value → Shared → Prop} {i : Nat} {x : Str} {v : V} {u : Value} {Q : Unit → Shared → Prop} (I : Inv X pins σ H s) (hN : X.N.Nodup) (hi : X.N[i]? = some x) (hx : Loc X.env.scope x) (r : RelV v u)
    (h : ∀ s', Inv X pins (σ.set i (some v)) H s' → Q () s') (hf : X.fn x = true ∨ X.env.scope.names.lookup x = some .local := by first | exact .inl rfl | exact .inr rfl | assumption) : wpAny M A (storeName X.env x u) Q E s :=
  store_ok2 I hN hi hx r (fun s' I' _ => h s' I') hf
theorem Inv.call' {s' : Shared} {ch : List Addr} (I : Inv X pins σ H s) (ho : s'.os = s.os) (u : Un (frs X.stack) ch H H' s.heap s'.heap) (hok : HOk X.prog X.w H' s'.heap) (hg : AllBare s'.gens)
    (hch : ∀ b ∈ ch, (b ∈ X.ex ∨ X.s₀.heap.objs.size ≤ b) ∧ b ≠ X.env.locals ∧ (∀ x c, X.env.cells.lookup x = some c → c ≠ b) ∧ ∀ p ∈ X.pn ++ pins, p.1 ≠ b) : Inv X pins σ H' s' := by
  obtain ⟨h', g', d', t', o'⟩ := s'
  have e : o' = s.os := ho
  subst e
  exact I.call (g' := g') (t' := t') (d' := d') u hok hg hch
end
abbrev XK := Value → Option Addr → Hp → Prop
abbrev St := List (Option V)
abbrev VK := V → Hp → Prop
abbrev TE := St → Hp → VK → Prop
abbrev TT := St → Hp → (Bool → Hp → Prop) → Prop
abbrev TA := St → Hp → (List V → Hp → Prop) → Prop
structure Ends where
  nx : St → Hp → Prop
  rt : VK
  bk : St → Hp → Prop := fun _ _ => False
  ct : St → Hp → Prop := fun _ _ => False
abbrev TS := Ends → St → Hp → Prop
def EP (X : Cx) (pins : List (Addr × Obj)) (σ : St) (Q : VK) (u : Value) (s' : Shared) : Prop := ∃ v H', Inv X pins σ H' s' ∧ RelV v u ∧ Q v H'
def TP (X : Cx) (pins : List (Addr × Obj)) (σ : St) (Q : Bool → Hp → Prop) (b : Bool) (s' : Shared) : Prop := ∃ H', Inv X pins σ H' s' ∧ Q b H'
def AP (X : Cx) (pins : List (Addr × Obj)) (σ : St) (Q : List V → Hp → Prop) (us : List Value) (s' : Shared) : Prop := ∃ vs H', Inv X pins σ H' s' ∧ Vals vs us ∧ Q vs H'
def SP (X : Cx) (pins : List (Addr × Obj)) (D : Ends) (f : Flow) (s' : Shared) : Prop :=
  match f with
  | .next => ∃ σ' H', Inv X pins σ' H' s' ∧ D.nx σ' H'
  | .brk => ∃ σ' H', Inv X pins σ' H' s' ∧ D.bk σ' H'
  | .cont => ∃ σ' H', Inv X pins σ' H' s' ∧ D.ct σ' H'
  | .ret u => ∃ v σ' H', Inv X pins σ' H' s' ∧ RelV v u ∧ D.rt v H'
def PE (X : Cx) (e : Expr) (t : TE) : Prop :=
  ∀ (pins : List (Addr × Obj)) (s : Shared) (σ : St) (H : Hp) (Q : VK), Inv X pins σ H s → t σ H Q → wpAny (model X.prog X.w) X.A (eval e X.env) (EP X pins σ Q) X.xe s
def PT (X : Cx) (e : Expr) (t : TT) : Prop :=
  ∀ (pins : List (Addr × Obj)) (s : Shared) (σ : St) (H : Hp) (Q : Bool → Hp → Prop), Inv X pins σ H s → t σ H Q → wpAny (model X.prog X.w) X.A (isTrue e X.env (eval e X.env)) (TP X pins σ Q) X.xe s
def PW (X : Cx) (e : Expr) (t : TT) : Prop :=
  ∀ (whole : Sem Value) (pins : List (Addr × Obj)) (s : Shared) (σ : St) (H : Hp) (Q : Bool → Hp → Prop), Inv X pins σ H s → t σ H Q → wpAny (model X.prog X.w) X.A (isTrue e X.env whole) (TP X pins σ Q) X.xe s
theorem PW.pt {X : Cx} {e : Expr} {t : TT} (h : PW X e t) : PT X e t := h _
def PA (X : Cx) (es : List Expr) (t : TA) : Prop :=
  ∀ (pos : Pos) (pins : List (Addr × Obj)) (s : Shared) (σ : St) (H : Hp) (Q : List V → Hp → Prop), Inv X pins σ H s → t σ H Q → wpAny (model X.prog X.w) X.A (spliced (backTo pos (starEach es X.env))) (AP X pins σ Q) X.xe s
def PS (X : Cx) (st : Stmt) (t : TS) : Prop :=
  ∀ (pins : List (Addr × Obj)) (s : Shared) (σ : St) (H : Hp) (D : Ends), Inv X pins σ H s → t D σ H → wpAny (model X.prog X.w) X.A (exec st X.env) (SP X pins D) X.xe s
def PSs (X : Cx) (st : List Stmt) (t : TS) : Prop :=
  ∀ (pins : List (Addr × Obj)) (s : Shared) (σ : St) (H : Hp) (D : Ends), Inv X pins σ H s → t D σ H → wpAny (model X.prog X.w) X.A (execs st X.env) (SP X pins D) X.xe s
theorem thn {α : Type} {t : Sem α} {Q Q' : α → Shared → Prop} {M : Model} {A : Around} {E : Value → Shared → Prop} {s : Shared} (h : wpAny M A t Q E s) (hQ : ∀ a s, Q a s → Q' a s) : wpAny M A t Q' E s := wpAny_mono h hQ fun _ _ x => x
end L2
namespace L2
open PySem PySem.Spec PyProof.Rows
section
variable {X : Cx}
def tVar (i : Nat) : TE := fun σ H Q => ∃ v, σ[i]? = some (some v) ∧ Q v H
def tC (v : V) : TE := fun _ H Q => Q v H
theorem pe_var {i : Nat} {x : Str} {pos : Pos} (hN : X.N[i]? = some x) (hv : Vis X.env.scope x) (hd : (x == ("__debug__" : Str)) = false := by decide) (hcd : (x == ("__classdict__" : Str)) = false := by decide) : PE X (.Name x pos) (tVar i) := by
  intro pins s σ H Q I h
  obtain ⟨v, e, h⟩ := h
  obtain ⟨m, hn, hl⟩ := I.loc
  obtain ⟨u, r, l⟩ := hl i x v hN e hv
  have fin : EP X pins σ Q u s := ⟨v, H, I, r, h⟩
  rcases l with ⟨hk, hm⟩ | ⟨hk, c, hc, hcell⟩
  · exact wpAny_Name (wpAny_loadName_local I.ok.kind hk hn hm fin) hd
  · rcases hk with hk | hk
    · exact wpAny_Name (wpAny_loadName_cell I.ok.kind hk hc hcell fin) hd
    · exact wpAny_Name (wpAny_loadName_free I.ok.kind hk hc hcell fin hcd) hd
theorem pe_int {i j pos} : PE X (.Constant (.int i) j pos) (tC (.int i)) := fun _ _ _ H _ I h => wpAny_Constant_int ⟨.int i, H, I.tok _, ⟨_, rfl⟩, h⟩
theorem pe_bl {b j pos} : PE X (.Constant (.bool b) j pos) (tC (.bl b)) := fun _ _ _ H _ I h => Constant_bool ⟨.bl b, H, I, rfl, h⟩
theorem pe_non {j pos} : PE X (.Constant .none j pos) (tC .non) := fun _ _ _ H _ I h => Constant_none ⟨.non, H, I, rfl, h⟩
theorem pe_str {x j pos} : PE X (.Constant (.str x) j pos) (tC (.str x)) := fun _ _ _ H _ I h => Calls.Constant_str ⟨.str x, H, I.tok _, ⟨_, rfl⟩, h⟩
def Gl (X : Cx) (x : Str) : Prop := X.env.kindOf x = some .globalImplicit
theorem ld_glob {E : Value → Shared → Prop} {pins : List (Addr × Obj)} {s : Shared} {σ : St} {H : Hp} {x : Str} {u : Value} {pos : Pos} {Q : Value → Shared → Prop} (I : Inv X pins σ H s) (hg : Gl X x) (hm : X.mg x = some u) (h : Q u s)
    (hd : (x == ("__debug__" : Str)) = false := by decide) : wpAny (model X.prog X.w) X.A (eval (.Name x pos) X.env) Q E s :=
  Calls.Name_function_global I.ok.kind hg (Calls.loadGlobal_global (by rw [I.ok.glob]; exact I.mod.glob.keeps I.bk) hm h) hd
theorem ld_blt {E : Value → Shared → Prop} {pins : List (Addr × Obj)} {s : Shared} {σ : St} {H : Hp} {x : Str} {u : Value} {pos : Pos} {Q : Value → Shared → Prop} (I : Inv X pins σ H s) (hg : Gl X x) (hm : X.mg x = none) (hv : bootBuiltins x = some u) (h : Q u s)
    (hn : x ≠ "__name__" := by decide) (hd : (x == ("__debug__" : Str)) = false := by decide) : wpAny (model X.prog X.w) X.A (eval (.Name x pos) X.env) Q E s := by
  obtain ⟨mb, h1, h2⟩ := I.mod.blt
  exact Calls.Name_function_global I.ok.kind hg (Calls.loadGlobal_builtin (by rw [I.ok.glob]; exact I.mod.glob.keeps I.bk) hm (by rw [I.ok.blt]; exact h1.keeps I.bk) ((h2 x hn).trans hv) h) hd
theorem pe_glob {x : Str} {v : V} {u : Value} {pos : Pos} (hg : Gl X x) (hm : X.mg x = some u) (r : RelV v u) (hd : (x == ("__debug__" : Str)) = false := by decide) : PE X (.Name x pos) (tC v) :=
  fun _ _ _ H _ I h => ld_glob I hg hm ⟨v, H, I, r, h⟩ hd
theorem pe_bltn {x : Str} {v : V} {u : Value} {pos : Pos} (hg : Gl X x) (hm : X.mg x = none) (hv : bootBuiltins x = some u) (r : RelV v u) (hn : x ≠ "__name__" := by decide) (hd : (x == ("__debug__" : Str)) = false := by decide) : PE X (.Name x pos) (tC v) :=
  fun _ _ _ H _ I h => ld_blt I hg hm hv ⟨v, H, I, r, h⟩ hn hd
variable {a b : Expr} {ta tb : TE} {pos : Pos}
def tB (t : TE) : TT := fun σ H Q => t σ H fun x H1 => ∃ c, x = .bl c ∧ Q c H1
theorem pt_val {e : Expr} {t : TE} (h : PE X e t) (he : ∀ whole, isTrue e X.env whole = (do let v ← whole; standAt e.pos; holding [v] (truthy v)) := by intro _; rfl) : PT X e (tB t) := by
  intro pins s σ H Q I hw
  refine isTrue_plain (thn (h pins s σ H _ I hw) fun v s1 ⟨x, H1, I1, r1, q1⟩ => ?_) (he _)
  obtain ⟨d, rfl, q⟩ := q1
  cases r1
  exact wpAny_truthy_bool ⟨H1, I1, q⟩
variable {tA tB' : TT} {rest : List Expr}
def tAnd (t u : TT) : TT := fun σ H Q => t σ H fun c H1 => if c = true then u σ H1 Q else Q false H1
def tOr (t u : TT) : TT := fun σ H Q => t σ H fun c H1 => if c = true then Q true H1 else u σ H1 Q
def tNot (t : TT) : TT := fun σ H Q => t σ H fun c H1 => Q (!c) H1
theorem pw_and1 (ha : PT X a tA) : PW X (.BoolOp .And [a] pos) tA := by
  intro wh pins s σ H Q I h
  refine isTrue_and (thn (ha pins s σ H Q I h) fun c s1 e => ?_)
  cases c with
  | true => exact isTrue_and_nil e
  | false => exact e
theorem pw_or1 (ha : PT X a tA) : PW X (.BoolOp .Or [a] pos) tA := by
  intro wh pins s σ H Q I h
  refine isTrue_or (thn (ha pins s σ H Q I h) fun c s1 e => ?_)
  cases c with
  | false => exact isTrue_or_nil e
  | true => exact e
theorem pw_and (ha : PT X a tA) (hb : PW X (.BoolOp .And (b :: rest) pos) tB') : PW X (.BoolOp .And (a :: b :: rest) pos) (tAnd tA tB') := by
  intro wh pins s σ H Q I h
  refine isTrue_and (thn (ha pins s σ H _ I h) fun c s1 ⟨H1, I1, q1⟩ => ?_)
  cases c with
  | true => exact hb wh pins s1 σ H1 Q I1 q1
  | false => exact ⟨H1, I1, q1⟩
theorem pw_or (ha : PT X a tA) (hb : PW X (.BoolOp .Or (b :: rest) pos) tB') : PW X (.BoolOp .Or (a :: b :: rest) pos) (tOr tA tB') := by
  intro wh pins s σ H Q I h
  refine isTrue_or (thn (ha pins s σ H _ I h) fun c s1 ⟨H1, I1, q1⟩ => ?_)
  cases c with
  | true => exact ⟨H1, I1, q1⟩
  | false => exact hb wh pins s1 σ H1 Q I1 q1
theorem pt_not (ha : PT X a tA) : PT X (.UnaryOp .Not a pos) (tNot tA) := by
  intro pins s σ H Q I h
  exact isTrue_not (ha pins s σ H (fun c H1 => Q (!c) H1) I h)
def tAndV (ta tb : TE) : TE := fun σ H Q => ta σ H fun x H1 => ∃ c, x = .bl c ∧ if c = true then tb σ H1 Q else Q (.bl false) H1
def tNotV (ta : TE) : TE := fun σ H Q => ta σ H fun x H1 => ∃ c, x = .bl c ∧ Q (.bl (!c)) H1
theorem pe_one {op} {t : TE} (h : PE X a t) : PE X (.BoolOp op [a] pos) t := fun pins s σ H Q I hw => BoolOp_one (h pins s σ H Q I hw)
theorem pe_and (ha : PE X a ta) (hb : PE X (.BoolOp .And (b :: rest) pos) tb) : PE X (.BoolOp .And (a :: b :: rest) pos) (tAndV ta tb) := by
  intro pins s σ H Q I h
  refine BoolOp_and (thn (ha pins s σ H _ I h) fun v s1 ⟨x, H1, I1, r1, q1⟩ => ?_)
  obtain ⟨c, rfl, q1⟩ := q1
  cases r1
  refine wpAny_truthy_bool ?_
  cases c with
  | true => exact hb pins s1 σ H1 Q I1 q1
  | false => exact ⟨.bl false, H1, I1, rfl, q1⟩
theorem pe_not (ha : PE X a ta) : PE X (.UnaryOp .Not a pos) (tNotV ta) := by
  intro pins s σ H Q I h
  refine UnaryOp_ (thn (ha pins s σ H _ I h) fun v s1 ⟨x, H1, I1, r1, q1⟩ => ?_)
  obtain ⟨c, rfl, q1⟩ := q1
  cases r1
  exact not_of (wpAny_truthy_bool ⟨.bl (!c), H1, I1, rfl, q1⟩)
end
end L2
namespace L2
open PySem PySem.Spec PyProof.Rows
def SqL (K : PySem.W.Frag) (H : Hp) (a : Addr) (xs : List V) : Prop :=
  Rd H a (.lst xs) ∨
    ∃ (o : Obj) (its : Array Value) (n : Nat), K.lookup a = some o ∧ o.cls = .type "list" ∧ o.dict = none ∧ o.data = .seq its n ∧ its.size ≤ sizeLine ∧ Vals xs its.toList
def SqT (K : PySem.W.Frag) (H : Hp) (a : Addr) (xs : List V) : Prop :=
  Rd H a (.tup xs) ∨
    ∃ (o : Obj) (its : Array Value) (n : Nat), K.lookup a = some o ∧ o.cls = .type "tuple" ∧ o.data = .seq its n ∧ its.size ≤ sizeLine ∧ Vals xs its.toList
def absV : Value → Option V
  | .none => some .non
  | .bool b => some (.bl b)
  | .int i _ => some (.int i)
  | .str x _ => some (.str x)
  | .bytes b _ => some (.byt b)
  | .float b _ => some (.flt b)
  | .ref a => some (.ref a)
  | .type n => some (.ty n)
  | _ => none
theorem RelV.abs {x : V} {u : Value} (r : RelV x u) : absV u = some x := by
  cases x with
  | non => cases r; rfl
  | bl _ => cases r; rfl
  | int _ => obtain ⟨t, rfl⟩ := r; rfl
  | str _ => obtain ⟨t, rfl⟩ := r; rfl
  | byt _ => obtain ⟨t, rfl⟩ := r; rfl
  | flt _ => obtain ⟨t, rfl⟩ := r; rfl
  | ref _ => cases r; rfl
  | ty _ => cases r; rfl
theorem RelV.inj {x y : V} {u : Value} (r : RelV x u) (q : RelV y u) : x = y := Option.some.inj (r.abs.symm.trans q.abs)
theorem Vals.inj : ∀ {xs ys : List V} {us : List Value}, Vals xs us → Vals ys us → xs = ys
  | _, _, _, .nil, .nil => rfl
  | _, _, _, .cons r t, .cons r' t' => by rw [r.inj r', Vals.inj t t']
section
variable {X : Cx} {pins : List (Addr × Obj)} {σ : St} {H : Hp} {s : Shared} {a : Addr} {xs ys : List V}
theorem SqL.of {K : PySem.W.Frag} (h : H a = some (.lst xs)) : SqL K H a xs := .inl (.inl h)
theorem SqT.of {K : PySem.W.Frag} (h : H a = some (.tup xs)) : SqT K H a xs := .inl (.inl h)
theorem Inv.list (I : Inv X pins σ H s) (h : SqL X.K H a xs) : ∃ its : List Value, Vals xs its ∧ PlainL s.heap a its.toArray ∧ xs.length ≤ sizeLine := by
  rcases h with h | ⟨o, its, n, hk, hc, hd, hs, hz, r⟩
  · obtain ⟨z, its, n, r, e⟩ := h.ok I.hok
    exact ⟨its, r, ⟨_, n, e, rfl, rfl, rfl⟩, z⟩
  · refine ⟨its.toList, r, ⟨o, n, I.kIn a o hk, hc, hd, by simpa using hs⟩, ?_⟩
    have e := r.length
    simp only [Array.length_toList] at e
    omega
theorem Inv.tuple (I : Inv X pins σ H s) (h : SqT X.K H a xs) : ∃ its : List Value, Vals xs its ∧ IsTup s.heap a its.toArray ∧ xs.length ≤ sizeLine := by
  rcases h with h | ⟨o, its, n, hk, hc, hs, hz, r⟩
  · obtain ⟨z, its, r, p⟩ := h.ok I.hok
    exact ⟨its, r, p, z⟩
  · refine ⟨its.toList, r, ⟨o, I.kIn a o hk, hc, n, by simpa using hs⟩, ?_⟩
    have e := r.length
    simp only [Array.length_toList] at e
    omega
end
abbrev Cx.wish (X : Cx) (E : Value → Shared → Prop) : Cx := { X with xe := E }
abbrev Cx.nox (X : Cx) : Cx := X.wish fun _ _ => False
theorem Cx.Ok.wish {X : Cx} (ok : X.Ok) (E : Value → Shared → Prop) : (X.wish E).Ok :=
  ⟨ok.mod, ok.kind, ok.glob, ok.blt, ok.above, ok.inj, ok.has, ok.cab, ok.hd, ok.frames, ok.stk, ok.exf, ok.bs, ok.bsz, ok.noex, ok.exfs, ok.funs, ok.frf⟩
theorem Cx.Ok.unwish {X : Cx} {E : Value → Shared → Prop} (ok : (X.wish E).Ok) : X.Ok :=
  ⟨ok.mod, ok.kind, ok.glob, ok.blt, ok.above, ok.inj, ok.has, ok.cab, ok.hd, ok.frames, ok.stk, ok.exf, ok.bs, ok.bsz, ok.noex, ok.exfs, ok.funs, ok.frf⟩
section
variable {X : Cx} {pins : List (Addr × Obj)} {σ : St} {H : Hp} {s : Shared} {E : Value → Shared → Prop}
theorem Inv.wish (I : Inv X pins σ H s) (E : Value → Shared → Prop) : Inv (X.wish E) pins σ H s := ⟨I.ok.wish E, I.os, I.bare, I.base, I.loc, I.cell, I.free, I.freeC, I.pin, I.hok, I.len⟩
theorem Inv.unwish (I : Inv (X.wish E) pins σ H s) : Inv X pins σ H s := ⟨I.ok.unwish, I.os, I.bare, I.base, I.loc, I.cell, I.free, I.freeC, I.pin, I.hok, I.len⟩
theorem SP.unwish {D : Ends} {f : Flow} {s' : Shared} (h : SP (X.wish E) pins D f s') : SP X pins D f s' := by
  cases f with
  | next => obtain ⟨σ', H', I, q⟩ := h; exact ⟨σ', H', I.unwish, q⟩
  | brk => obtain ⟨σ', H', I, q⟩ := h; exact ⟨σ', H', I.unwish, q⟩
  | cont => obtain ⟨σ', H', I, q⟩ := h; exact ⟨σ', H', I.unwish, q⟩
  | ret u => obtain ⟨v, σ', H', I, r, q⟩ := h; exact ⟨v, σ', H', I.unwish, r, q⟩
theorem PE.nox {e : Expr} {t : TE} (h : PE X.nox e t) : PE X e t := fun pins s σ H Q I hw =>
  wpAny_mono (h pins s σ H Q (I.wish _) hw) (fun _ _ ⟨v, H', I', r, q⟩ => ⟨v, H', I'.unwish, r, q⟩) fun _ _ z => False.elim z
theorem PT.nox {e : Expr} {t : TT} (h : PT X.nox e t) : PT X e t := fun pins s σ H Q I hw =>
  wpAny_mono (h pins s σ H Q (I.wish _) hw) (fun _ _ ⟨H', I', q⟩ => ⟨H', I'.unwish, q⟩) fun _ _ z => False.elim z
theorem PSs.nox {st : List Stmt} {t : TS} (h : PSs X.nox st t) : PSs X st t := fun pins s σ H D I hw =>
  wpAny_mono (h pins s σ H D (I.wish _) hw) (fun _ _ q => q.unwish) fun _ _ z => False.elim z
end
section
variable {X : Cx} {st : Stmt} {rest : List Stmt} {t u : TS} {e : Expr} {te : TE} {pos : Pos}
def tNext : TS := fun D σ H => D.nx σ H
def tSeq (t u : TS) : TS := fun D σ H => t { D with nx := u D } σ H
theorem pss_nil : PSs X [] tNext := fun _ _ σ H _ I h => wpAny_execs_nil ⟨σ, H, I, h⟩
theorem pss_cons (h1 : PS X st t) (h2 : PSs X rest u) : PSs X (st :: rest) (tSeq t u) := by
  intro pins s σ H D I h
  refine wpAny_execs_cons (thn (h1 pins s σ H { D with nx := u D } I h) fun f s1 q => ?_)
  cases f with
  | next =>
    obtain ⟨σ', H', I', q⟩ := q
    exact h2 pins s1 σ' H' D I' q
  | ret v => exact q
  | brk => exact q
  | cont => exact q
theorem pss_one (h1 : PS X st t) : PSs X [st] t := by
  intro pins s σ H D I h
  refine wpAny_execs_cons (thn (h1 pins s σ H D I h) fun f s1 q => ?_)
  cases f with
  | next => exact wpAny_execs_nil q
  | ret v => exact q
  | brk => exact q
  | cont => exact q
theorem Inv.quiet {pins : List (Addr × Obj)} {σ : St} {H : Hp} {s : Shared} (I : Inv X pins σ H s) : interactive X.env = false := by simp [interactive, I.ok.kind]
def tDrop (te : TE) : TS := fun D σ H => te σ H fun _ H1 => D.nx σ H1
theorem ps_expr (he : PE X e te) (hs : swapsWith e none pos.line X.env = pure false := by rfl) : PS X (.Expr e pos) (tDrop te) := by
  intro pins s σ H D I h
  exact wpAny_Expr_any (thn (he pins s σ H _ I h) fun v s1 ⟨x, H1, I1, r1, q1⟩ => ⟨σ, H1, I1, q1⟩) I.quiet hs
def tRet (te : TE) : TS := fun D σ H => te σ H D.rt
theorem ps_ret (he : PE X e te) : PS X (.Return (some e) pos) (tRet te) := by
  intro pins s σ H D I h
  exact wpAny_Return_some (thn (he pins s σ H _ I h) fun v s1 ⟨x, H1, I1, r1, q1⟩ => ⟨x, σ, H1, I1, r1, q1⟩)
def tIfS (c : TT) (t u : TS) : TS := fun D σ H => c σ H fun b H1 => if b = true then t D σ H1 else u D σ H1
theorem ps_if {c : Expr} {a b : List Stmt} {tc : TT} (hc : PT X c tc) (ha : PSs X a t) (hb : PSs X b u) : PS X (.If c a b pos) (tIfS tc t u) := by
  intro pins s σ H D I h
  refine wpAny_If (thn (hc pins s σ H _ I h) fun d s1 ⟨H1, I1, q1⟩ => ?_)
  cases d with
  | true => exact ha pins s1 σ H1 D I1 q1
  | false => exact hb pins s1 σ H1 D I1 q1
end
abbrev TG := V → St → Hp → (St → Hp → Prop) → Prop
def PG (X : Cx) (target : Expr) (t : TG) : Prop :=
  ∀ (pins : List (Addr × Obj)) (s : Shared) (σ : St) (H : Hp) (v : V) (u : Value) (Q : St → Hp → Prop), Inv X pins σ H s → RelV v u → t v σ H Q →
    wpAny (model X.prog X.w) X.A (assign target X.env u) (fun _ s' => ∃ σ' H', Inv X pins σ' H' s' ∧ Q σ' H') X.xe s
section
variable {X : Cx} {pos : Pos}
def gName (i : Nat) : TG := fun v σ H Q => Q (σ.set i (some v)) H
theorem pg_name {i : Nat} {x : Str} (hN : X.N.Nodup) (hi : X.N[i]? = some x) (hx : Loc X.env.scope x) (hf : X.fn x = true ∨ X.env.scope.names.lookup x = some .local := by first | exact .inl rfl | exact .inr rfl | assumption) : PG X (.Name x pos) (gName i) := by
  intro pins s σ H v u Q I r h
  exact wpAny_assign_Name (store_ok I hN hi hx r (fun s' I' => ⟨_, H, I', h⟩) hf)
def tAsg (te : TE) (g : TG) : TS := fun D σ H => te σ H fun x H1 => g x σ H1 D.nx
theorem ps_set {i : Nat} {x : Str} {e : Expr} {te : TE} {pos' : Pos} (hN : X.N.Nodup) (hi : X.N[i]? = some x) (hx : Loc X.env.scope x) (he : PE X e te) (hs : swapsWith e (some (.Name x pos')) pos.line X.env = pure false := by rfl) (hf : X.fn x = true ∨ X.env.scope.names.lookup x = some .local := by first | exact .inl rfl | exact .inr rfl | assumption) :
    PS X (.Assign [.Name x pos'] e pos) (tAsg te (gName i)) := by
  intro pins s σ H D I h
  refine wpAny_Assign_Name (thn (he pins s σ H _ I h) fun v s1 ⟨y, H1, I1, r1, q1⟩ => ?_) hs
  exact store_ok I1 hN hi hx r1 (fun s2 I2 => ⟨_, H1, I2, q1⟩) hf
end
section
variable {X : Cx} {pos : Pos}
def tWhile (c : TT) (tb : TS) : TS := fun D σ H => ∃ W : Nat → St → Hp → Prop, (∃ m, W m σ H) ∧ ∀ m σ H, W m σ H →
  c σ H fun b H1 => if b = true then ∃ N : St → Hp → Prop, (∀ σ' H', N σ' H' → ∃ m', m' < m ∧ W m' σ' H') ∧ tb { D with nx := N, ct := N, bk := D.nx } σ H1 else D.nx σ H1
theorem ps_while {c : Expr} {body : List Stmt} {tc : TT} {tb : TS} (hp : PassesOwn (model X.prog X.w) X.A X.env X.xe) (hc : PT X c tc) (hb : PSs X body tb) : PS X (.While c body [] pos) (tWhile tc tb) := by
  intro pins s σ H D I h
  obtain ⟨W, ⟨m0, w0⟩, turn⟩ := h
  refine wpAny_While (codeAny_whileLoop (fun n s' => ∃ σ' H', Inv X pins σ' H' s' ∧ W n σ' H') ?_ m0 ⟨σ, H, I, w0⟩)
  rintro n s1 ⟨σ1, H1, I1, w1⟩
  refine wpAny_passesOwn hp (thn (hc pins s1 σ1 H1 _ I1 (turn n σ1 H1 w1)) fun b s2 ⟨H2, I2, q2⟩ => ?_)
  cases b with
  | true =>
    obtain ⟨N, hN, q2⟩ := q2
    rw [if_pos rfl]
    refine wpAny_passesOwn hp (thn (hb pins s2 σ1 H2 _ I2 q2) fun f s3 q3 => ?_)
    cases f with
    | next =>
      obtain ⟨σ3, H3, I3, n3⟩ := q3
      obtain ⟨m', hm, w3⟩ := hN σ3 H3 n3
      exact ⟨m', hm, σ3, H3, I3, w3⟩
    | cont =>
      obtain ⟨σ3, H3, I3, n3⟩ := q3
      obtain ⟨m', hm, w3⟩ := hN σ3 H3 n3
      exact ⟨m', hm, σ3, H3, I3, w3⟩
    | brk => exact q3
    | ret v => exact q3
  | false =>
    rw [if_neg Bool.false_ne_true]
    exact wpAny_execs_nil ⟨σ1, H2, I2, q2⟩
end
structure It where
  go : Nat → Hp → Prop
  yld : Nat → Hp → V → Hp → Prop
  stop : Nat → Hp → Prop
def FpOk (X : Cx) (pins : List (Addr × Obj)) (H : Hp) (b : Addr) : Prop :=
  H b = none ∧ b ≠ X.env.locals ∧ b ∉ X.fs ∧ (b ∈ X.ex ∨ X.s₀.heap.objs.size ≤ b) ∧ (∀ x c, X.env.cells.lookup x = some c → c ≠ b) ∧ ∀ p ∈ X.pn ++ pins, p.1 ≠ b
theorem Inv.fpOk {X : Cx} {pins : List (Addr × Obj)} {σ : St} {H H' : Hp} {s : Shared} {b : Addr} (I : Inv X pins σ H s) (hb : s.heap.objs.size ≤ b) (hn : H' b = none) : FpOk X pins H' b := by
  refine ⟨hn, Nat.ne_of_gt (Nat.lt_of_lt_of_le I.lt hb), I.nofs hb, .inr (Nat.le_trans I.sz hb), fun x c e z => ?_, fun p hp z => ?_⟩
  · obtain ⟨v, q⟩ := I.cell x c e
    exact absurd (Nat.lt_of_lt_of_le q.lt (by rw [z]; exact hb)) (Nat.lt_irrefl _)
  · exact absurd (Nat.lt_of_lt_of_le (Heap.lt_size (I.pin p hp).1) (by rw [z]; exact hb)) (Nat.lt_irrefl _)
structure Turn (P : Program) (w : World) (K : PySem.W.Frag) (tg : Expr) (J : It) (fp : List Addr) (it : Addr) (tn : Nat → Heap → Prop) : Prop where
  mem : it ∈ fp
  obj : ∀ i h, tn i h → ∀ b ∈ fp, ∃ o, h.get? b = some o ∧ ∀ v, o.data ≠ .cell v
  keep : ∀ i h h', tn i h → (∀ b ∈ fp, ∀ o, h.get? b = some o → h'.get? b = some o) → tn i h'
  item : ∀ (X : Cx), X.prog = P → X.w = w → X.K = K → X.calm = true → ∀ (i : Nat) (pins : List (Addr × Obj)) (s : Shared) (σ : St) (H : Hp) (E : Value → Shared → Prop), Inv X pins σ H s → (∀ b ∈ fp, FpOk X pins H b) → tn i s.heap → J.go i H →
    wpAny (model P w) X.A (pyNext (.ref it)) (fun r s1 => ∃ u, r = some u ∧
      wpAny (model P w) X.A (letOwnedTupleGo tg (.ref it) u) (fun _ s2 => ∃ x H', Inv X pins σ H' s2 ∧ RelV x u ∧ J.yld i H x H' ∧ tn (i + 1) s2.heap ∧ ∀ b ∈ fp, H' b = none) E s1) E s
  done : ∀ (X : Cx), X.prog = P → X.w = w → X.K = K → X.calm = true → ∀ (i : Nat) (pins : List (Addr × Obj)) (s : Shared) (σ : St) (H : Hp) (E : Value → Shared → Prop), Inv X pins σ H s → (∀ b ∈ fp, FpOk X pins H b) → tn i s.heap → J.stop i H →
    wpAny (model P w) X.A (pyNext (.ref it)) (fun r s1 => r = none ∧ Inv X pins σ H s1) E s
  self : ∀ (A : Around) (i : Nat) (s : Shared) (Q : Value → Shared → Prop) (E : Value → Shared → Prop), tn i s.heap → Q (.ref it) s → wpAny (model P w) A (pyIter (.ref it)) Q E s
abbrev TI := St → Hp → (It → Hp → Prop) → Prop
def PIE (X : Cx) (pins : List (Addr × Obj)) (σ : St) (tg : Expr) (R : It → Hp → Prop) (itv : Value) (s2 : Shared) : Prop :=
  ∃ (it : Addr) (fp : List Addr) (tn : Nat → Heap → Prop) (J : It) (H' : Hp), itv = .ref it ∧ Inv X pins σ H' s2 ∧ Turn X.prog X.w X.K tg J fp it tn ∧ tn 0 s2.heap ∧ (∀ b ∈ fp, FpOk X pins H' b) ∧ R J H'
def PI (X : Cx) (tg iter : Expr) (wi : TI) : Prop :=
  ∀ (pins : List (Addr × Obj)) (s : Shared) (σ : St) (H : Hp) (R : It → Hp → Prop), Inv X pins σ H s → wi σ H R →
    wpAny (model X.prog X.w) X.A (eval iter X.env) (fun v s1 => wpAny (model X.prog X.w) X.A (pyIter v) (PIE X pins σ tg R) X.xe s1) X.xe s
theorem go_of {M : Model} {A : Around} {E : Value → Shared → Prop} {s : Shared} {tg : Expr} {it : Addr} {u : Value} {o : Obj} {n : String} {vs : Array Value} {Q : Unit → Shared → Prop} (ho : s.heap.get? it = some o) (hc : o.cls = .type n) (hd : o.data = .fields vs)
    (hn : ["enumerate", "zip", "dict_itemiterator", "dict_reverseitemiterator", "odict_iterator", "itertools.zip_longest", "itertools.pairwise"].contains n = false) (hQ : Q () s) : wpAny M A (letOwnedTupleGo tg (.ref it) u) Q E s := by
  unfold letOwnedTupleGo
  cases tg <;> first
    | exact wpAny_pure hQ
    | (cases u <;> first
        | exact wpAny_pure hQ
        | (refine wpAny_bind (wpAny_load ho ?_)
           rw [hc, hd]
           show wpAny M A (if (["enumerate", "zip", "dict_itemiterator", "dict_reverseitemiterator", "odict_iterator", "itertools.zip_longest", "itertools.pairwise"].contains n && vs[0]? == some (rawInt _)) = true then _ else _) Q E s
           rw [if_neg (by intro h; rw [hn, Bool.false_and] at h; cases h)]
           exact wpAny_pure hQ))
def Itr (lo : Int) (n : Nat) : It := ⟨fun i _ => i < n, fun i H x H' => H' = H ∧ x = .int (lo + i), fun i _ => n ≤ i⟩
theorem turn_range {P : Program} {w : World} {K : PySem.W.Frag} {tg : Expr} (it : Addr) (lo : Int) (n : Nat) : Turn P w K tg (Itr lo n) [it] it (fun i h => IsRangeIter h it (lo + (i : Nat) * 1) ((n : Int) - (i : Nat)) 1) where
  mem := by simp
  obj := fun i h st b hb => by
    have e : b = it := by simpa using hb
    subst e
    exact ⟨_, st, fun v z => by
      have z' : Data.fields _ = Data.cell v := z
      cases z'⟩
  keep := fun i h h' st k => k it (by simp) _ st
  item := by
    intro X hP hw hK hc i pins s σ H E I hf st hg
    subst hP hw hK
    obtain ⟨f0, f1, f2, f3, f4, f5⟩ := hf it (by simp)
    have W := Walks.range (prog := X.prog) (w := X.w) (I.ok.hd hc) it lo 1 n
    refine W.item i s _ _ hg st fun v h' tk hv st' kk => ?_
    obtain ⟨t, rfl⟩ := hv
    have I1 : Inv X pins σ H { s with heap := h', toks := tk } := I.turned (fun b o hb e => kk b o (by simpa using hb) e) f0 f1 f3 f4 f5
    refine ⟨_, rfl, go_of (s := { s with heap := h', toks := tk }) (n := "range_iterator") st' rfl rfl (by decide) ⟨.int (lo + i), H, I1, ⟨t, ?_⟩, ⟨rfl, rfl⟩, st', fun b hb => (hf b hb).1⟩⟩
    rw [Int.mul_one]
  done := by
    intro X hP hw hK hc i pins s σ H E I hf st hg
    subst hP hw hK
    obtain ⟨f0, f1, f2, f3, f4, f5⟩ := hf it (by simp)
    exact wpAny_pyNext_range_end (I.ok.hd hc) st (by have : n ≤ i := hg; omega) fun h' eb => ⟨rfl, I.turned (t' := s.toks) (fun b o hb e => eb b o hb e) f0 f1 f3 f4 f5⟩
  self := fun _ _ _ _ _ st h => wpAny_pyIter_rangeiter st h
end L2
namespace L2
open PySem PySem.Spec PyProof.Rows
section
variable {X : Cx} {tg : Expr}
theorem range_it {pins : List (Addr × Obj)} {σ : St} {H : Hp} {s : Shared} {R : It → Hp → Prop} {E : Value → Shared → Prop} {lo hi : Int} {t u v : Tok} {tk : Nat} (I : Inv X pins σ H s) (h1 : -(2 ^ 62) ≤ lo) (h2 : lo < 2 ^ 62) (h3 : -(2 ^ 62) ≤ hi) (h4 : hi < 2 ^ 62)
    (q : R (Itr lo (hi - lo).toNat) H) : wpAny (model X.prog X.w) X.A (pyIter (.ref s.heap.objs.size)) (PIE X pins σ tg R) E { s with heap := s.heap.push { cls := .type "range", data := .fields #[.int lo t, .int hi u, .int 1 v] }, toks := tk } := by
  refine wpAny_pyIter_range (IsRange.new ..) (small_one h1 h2 h3 h4) ?_
  have I1 : Inv X pins σ H { s with heap := s.heap.push { cls := .type "range", data := .fields #[.int lo t, .int hi u, .int 1 v] }, toks := tk } := I.kept fun b o e => Heap.get?_push_of_some _ e
  refine ⟨(s.heap.push { cls := .type "range", data := .fields #[.int lo t, .int hi u, .int 1 v] }).objs.size, [(s.heap.push { cls := .type "range", data := .fields #[.int lo t, .int hi u, .int 1 v] }).objs.size], _, _, H, rfl,
    I1.kept (t' := tk) fun b o e => Heap.get?_push_of_some _ e, turn_range _ lo (hi - lo).toNat, ?_, fun b hb => ?_, q⟩
  · have e1 : lo + ((0 : Nat) : Int) * 1 = lo := by simp
    have e2 : (((hi - lo).toNat : Nat) : Int) - ((0 : Nat) : Int) = Builtin.Range.rangeSize lo hi 1 := by rw [rangeSize_one]; split <;> omega
    show IsRangeIter _ _ (lo + ((0 : Nat) : Int) * 1) ((((hi - lo).toNat : Nat) : Int) - ((0 : Nat) : Int)) 1
    rw [e1, e2]
    exact Heap.get?_push_size _ rfl
  · have e : b = (s.heap.push { cls := .type "range", data := .fields #[.int lo t, .int hi u, .int 1 v] }).objs.size := by simpa using hb
    subst e
    exact I1.fpOk (Nat.le_refl _) (I1.hok.fresh (Nat.le_refl _))
def iRng1 (ta : TA) : TI := fun σ H R => ta σ H fun vs H1 => ∃ j : Int, vs = [.int j] ∧ -(2 ^ 62) ≤ j ∧ j < 2 ^ 62 ∧ R (Itr 0 j.toNat) H1
theorem pi_range1 {a : Expr} {ta : TA} {p pos : Pos} (hg : Gl X "range") (hm : X.mg "range" = none) (ha : PA X [a] ta) (hs : starEach [a] X.env = [(false, eval a X.env)] := by rfl) : PI X tg (.Call (.Name "range" p) [a] [] pos) (iRng1 ta) := by
  intro pins s σ H R I h
  refine Call_ (ld_blt I hg hm boot_range (PyProof.Rows.callWith_type1 (thn (ha pos pins s σ H _ I h) fun us s1 ⟨vs, H1, I1, r1, q1⟩ => ?_) hs rfl))
  obtain ⟨j, e, q1, q2, q⟩ := q1
  subst e
  cases r1 with
  | cons r rr =>
    cases rr
    obtain ⟨t, rfl⟩ := r
    exact call_range_1 (range_it I1 (by omega) (by omega) q1 q2 (by simpa using q))
def tFor (wi : TI) (g : TG) (tb : TS) : TS := fun D σ H => wi σ H fun J H1 => ∃ W : Nat → Nat → St → Hp → Prop, (∃ m, W 0 m σ H1) ∧ ∀ i m σ H, W i m σ H →
  (J.stop i H ∧ D.nx σ H) ∨ (J.go i H ∧ ∃ N : St → Hp → Prop, (∀ σ' H', N σ' H' → ∃ m', m' < m ∧ W (i + 1) m' σ' H') ∧ ∀ x H', J.yld i H x H' → g x σ H' fun σ2 H2 => tb { D with nx := N, ct := N, bk := D.nx } σ2 H2)
def pinsAt (fp : List Addr) (h : Heap) : List (Addr × Obj) := fp.filterMap fun b => (h.get? b).map fun o => (b, o)
theorem mem_pinsAt {fp : List Addr} {h : Heap} {b : Addr} {o : Obj} (hb : b ∈ fp) (e : h.get? b = some o) : (b, o) ∈ pinsAt fp h := List.mem_filterMap.mpr ⟨b, hb, by rw [e]; rfl⟩
theorem of_pinsAt {fp : List Addr} {h : Heap} {p : Addr × Obj} (hp : p ∈ pinsAt fp h) : p.1 ∈ fp ∧ h.get? p.1 = some p.2 := by
  obtain ⟨b, hb, e⟩ := List.mem_filterMap.mp hp
  cases q : h.get? b with
  | none => rw [q] at e; cases e
  | some o =>
    rw [q] at e
    have e' : (b, o) = p := Option.some.inj e
    subst e'
    exact ⟨hb, q⟩
theorem Inv.pinned {pins : List (Addr × Obj)} {σ : St} {H : Hp} {s : Shared} {fp : List Addr} (I : Inv X pins σ H s) (hf : ∀ b ∈ fp, FpOk X pins H b) (ho : ∀ b ∈ fp, ∃ o, s.heap.get? b = some o ∧ ∀ v, o.data ≠ .cell v) : Inv X (pins ++ pinsAt fp s.heap) σ H s :=
  I.pins_of fun p hp => (List.mem_append.mp hp).elim (fun z => I.pin p (List.mem_append_right _ z)) fun z => by
    obtain ⟨hb, e⟩ := of_pinsAt z
    obtain ⟨f0, f1, f2, _⟩ := hf p.1 hb
    obtain ⟨o, e', d⟩ := ho p.1 hb
    rw [e] at e'; cases e'
    exact ⟨e, f0, f1, f2, d⟩
theorem Inv.unpinned {pins pl : List (Addr × Obj)} {σ : St} {H : Hp} {s : Shared} (I : Inv X (pins ++ pl) σ H s) : Inv X pins σ H s := I.pins_of fun p hp => I.pin p (List.mem_append_right _ (List.mem_append_left _ hp))
theorem ps_for {iter : Expr} {body : List Stmt} {wi : TI} {g : TG} {tb : TS} {pos : Pos} (hp : PassesOwn (model X.prog X.w) X.A X.env X.xe) (hc : X.calm = true) (hi : PI X tg iter wi) (hg : PG X tg g) (hb : PSs X body tb)
    (hs : ∀ x, foldedSetIterable iter X.env x = pure x := by intro _; rfl) : PS X (.For tg iter body [] pos) (tFor wi g tb) := by
  intro pins s σ H D I h
  refine wpAny_For (thn (hi pins s σ H _ I h) fun v s1 h1 => thn h1 fun itv s2 h2 => ?_) hs
  obtain ⟨it, fp, tn, J, H2, e, I2, T, st2, f2, W, ⟨m0, w0⟩, turn⟩ := h2
  subst e
  -- what stays true of the iterator's objects through the loop
  have stat : ∀ {H' : Hp}, (∀ b ∈ fp, H' b = none) → ∀ b ∈ fp, FpOk X pins H' b := fun hn b hb => ⟨hn b hb, (f2 b hb).2⟩
  refine codeAny_forLoop_any (fun n s' => ∃ i σ' H', Inv X pins σ' H' s' ∧ tn i s'.heap ∧ (∀ b ∈ fp, H' b = none) ∧ W i n σ' H') ?_ m0 ⟨0, σ, H2, I2, st2, fun b hb => (f2 b hb).1, w0⟩
  rintro n s3 ⟨i, σ3, H3, I3, st3, fr3, w3⟩
  rcases turn i n σ3 H3 w3 with ⟨stop, qn⟩ | ⟨go, N, hN, step⟩
  · refine wpAny_passesOwn hp (thn (T.done X rfl rfl rfl hc i pins s3 σ3 H3 X.xe I3 (stat fr3) st3 stop) fun r s4 ⟨hr, I4⟩ => ?_)
    subst hr
    exact wpAny_execs_nil ⟨σ3, H3, I4, qn⟩
  · refine wpAny_passesOwn hp (thn (T.item X rfl rfl rfl hc i pins s3 σ3 H3 X.xe I3 (stat fr3) st3 go) fun r s4 ⟨u, hr, h4⟩ => ?_)
    subst hr
    refine wpAny_passesOwn hp (thn h4 fun _ s5 ⟨x, H5, I5, r5, y5, st5, fr5⟩ => ?_)
    have I5' := I5.pinned (stat fr5) (T.obj _ _ st5)
    refine wpAny_passesOwn hp (thn (hg _ s5 σ3 H5 x u _ I5' r5 (step x H5 y5)) fun _ s6 ⟨σ6, H6, I6, q6⟩ => ?_)
    refine wpAny_passesOwn hp (thn (hb _ s6 σ6 H6 _ I6 q6) fun f s7 q7 => ?_)
    have again : ∀ {σ7 : St} {H7 : Hp}, Inv X (pins ++ pinsAt fp s5.heap) σ7 H7 s7 → N σ7 H7 → ∃ m, m < n ∧ ∃ i σ' H', Inv X pins σ' H' s7 ∧ tn i s7.heap ∧ (∀ b ∈ fp, H' b = none) ∧ W i m σ' H' := fun {σ7 H7} I7 n7 => by
      obtain ⟨m', hm, w7⟩ := hN σ7 H7 n7
      refine ⟨m', hm, i + 1, σ7, H7, I7.unpinned, T.keep _ _ _ st5 fun b hb o e => (I7.pin (b, o) (List.mem_append_right _ (List.mem_append_right _ (mem_pinsAt hb e)))).1, fun b hb => ?_, w7⟩
      obtain ⟨o, e, d⟩ := T.obj _ _ st5 b hb
      exact (I7.pin (b, o) (List.mem_append_right _ (List.mem_append_right _ (mem_pinsAt hb e)))).2.1
    cases f with
    | next => obtain ⟨σ7, H7, I7, n7⟩ := q7; exact again I7 n7
    | cont => obtain ⟨σ7, H7, I7, n7⟩ := q7; exact again I7 n7
    | brk => obtain ⟨σ7, H7, I7, q7⟩ := q7; exact ⟨σ7, H7, I7.unpinned, q7⟩
    | ret v => obtain ⟨x7, σ7, H7, I7, r7, q7⟩ := q7; exact ⟨x7, σ7, H7, I7.unpinned, r7, q7⟩
end
end L2
namespace L2
open PySem PySem.Spec PyProof.Rows
abbrev R2 := V → V → Hp → VK → Prop
def OpR (X : Cx) (f : Value → Value → Sem Value) (r : R2) : Prop :=
  ∀ (pins : List (Addr × Obj)) (s : Shared) (σ : St) (H : Hp) (x y : V) (v u : Value) (Q : VK), Inv X pins σ H s → RelV x v → RelV y u → r x y H Q →
    wpAny (model X.prog X.w) X.A (f v u) (EP X pins σ Q) X.xe s
def UnR (X : Cx) (f : Value → Sem Value) (r : V → Hp → VK → Prop) : Prop :=
  ∀ (pins : List (Addr × Obj)) (s : Shared) (σ : St) (H : Hp) (x : V) (v : Value) (Q : VK), Inv X pins σ H s → RelV x v → r x H Q →
    wpAny (model X.prog X.w) X.A (f v) (EP X pins σ Q) X.xe s
def CallR (X : Cx) (f : Value) (r : List V → Hp → VK → Prop) : Prop :=
  ∀ (pins : List (Addr × Obj)) (s : Shared) (σ : St) (H : Hp) (xs : List V) (us : List Value) (Q : VK), Inv X pins σ H s → Vals xs us → r xs H Q →
    wpAny (model X.prog X.w) X.A (call f us) (EP X pins σ Q) X.xe s
def tOp (r : R2) (ta tb : TE) : TE := fun σ H Q => ta σ H fun x H1 => tb σ H1 fun y H2 => r x y H2 Q
def tUn (r : V → Hp → VK → Prop) (ta : TE) : TE := fun σ H Q => ta σ H fun x H1 => r x H1 Q
def rI (C : Int → Int → Prop) (g : Int → Int → V) : R2 := fun x y H Q => ∃ i j, x = .int i ∧ y = .int j ∧ C i j ∧ Q (g i j) H
def rI0 (g : Int → Int → V) : R2 := fun x y H Q => ∃ i j, x = .int i ∧ y = .int j ∧ Q (g i j) H
def rU (g : Int → V) : V → Hp → VK → Prop := fun x H Q => ∃ i, x = .int i ∧ Q (g i) H
section
variable {X : Cx} {a b c : Expr} {ta tb tc : TE} {pos : Pos}
theorem binT (ha : PE X a ta) (hb : PE X b tb) {pins : List (Addr × Obj)} {s : Shared} {σ : St} {H : Hp} {R : V → V → Hp → Prop} (I : Inv X pins σ H s)
    (h : ta σ H fun x H1 => tb σ H1 fun y H2 => R x y H2) {Q : Value → Shared → Prop} {f : Value → Value → Sem Value}
    (hf : ∀ v u s2 x y H2, Inv X pins σ H2 s2 → RelV x v → RelV y u → R x y H2 → wpAny (model X.prog X.w) X.A (f v u) Q X.xe s2) :
    wpAny (model X.prog X.w) X.A (eval a X.env) (fun v s₁ => wpAny (model X.prog X.w) X.A (eval b X.env) (fun u s₂ => wpAny (model X.prog X.w) X.A (f v u) Q X.xe s₂) X.xe s₁) X.xe s := by
  refine thn (ha pins s σ H _ I h) fun v s1 ⟨x, H1, I1, r1, q1⟩ => ?_
  refine thn (hb pins s1 σ H1 _ I1 q1) fun u s2 ⟨y, H2, I2, r2, q2⟩ => ?_
  exact hf v u s2 x y H2 I2 r1 r2 q2
theorem pe_op {op : Operator} {r : R2} (ho : OpR X (binaryOp op) r) (ha : PE X a ta) (hb : PE X b tb) : PE X (.BinOp a op b pos) (tOp r ta tb) := by
  intro pins s σ H Q I h
  exact wpAny_BinOp (binT ha hb I h fun v u s2 x y H2 I2 rx ry q => ho pins s2 σ H2 x y v u Q I2 rx ry q)
theorem pe_un {op : UnaryOp} {r : V → Hp → VK → Prop} (ho : UnR X (unaryOp op) r) (ha : PE X a ta) : PE X (.UnaryOp op a pos) (tUn r ta) := by
  intro pins s σ H Q I h
  exact UnaryOp_ (thn (ha pins s σ H _ I h) fun v s1 ⟨x, H1, I1, r1, q1⟩ => ho pins s1 σ H1 x v Q I1 r1 q1)
theorem opI {f : Value → Value → Sem Value} {C : Int → Int → Prop} {g : Int → Int → Int}
    (rule : ∀ (i j : Int) (t u : Tok) (s : Shared) (Q : Value → Shared → Prop) (E : Value → Shared → Prop), C i j → Q (.int (g i j) s.toks) { s with toks := s.toks + 1 } → wpAny (model X.prog X.w) X.A (f (.int i t) (.int j u)) Q E s) :
    OpR X f (rI C fun i j => .int (g i j)) := by
  intro pins s σ H x y v u Q I rx ry h
  obtain ⟨i, j, rfl, rfl, hc, q⟩ := h
  obtain ⟨t, rfl⟩ := rx
  obtain ⟨t', rfl⟩ := ry
  exact rule i j t t' s _ _ hc ⟨.int (g i j), H, I.tok _, ⟨_, rfl⟩, q⟩
theorem opI0 {f : Value → Value → Sem Value} {g : Int → Int → Int}
    (rule : ∀ (i j : Int) (t u : Tok) (s : Shared) (Q : Value → Shared → Prop) (E : Value → Shared → Prop), Q (.int (g i j) s.toks) { s with toks := s.toks + 1 } → wpAny (model X.prog X.w) X.A (f (.int i t) (.int j u)) Q E s) :
    OpR X f (rI0 fun i j => .int (g i j)) := by
  intro pins s σ H x y v u Q I rx ry h
  obtain ⟨i, j, rfl, rfl, q⟩ := h
  obtain ⟨t, rfl⟩ := rx
  obtain ⟨t', rfl⟩ := ry
  exact rule i j t t' s _ _ ⟨.int (g i j), H, I.tok _, ⟨_, rfl⟩, q⟩
theorem opB0 {f : Value → Value → Sem Value} {g : Int → Int → Bool}
    (rule : ∀ (i j : Int) (t u : Tok) (s : Shared) (Q : Value → Shared → Prop) (E : Value → Shared → Prop), Q (.bool (g i j)) s → wpAny (model X.prog X.w) X.A (f (.int i t) (.int j u)) Q E s) :
    OpR X f (rI0 fun i j => .bl (g i j)) := by
  intro pins s σ H x y v u Q I rx ry h
  obtain ⟨i, j, rfl, rfl, q⟩ := h
  obtain ⟨t, rfl⟩ := rx
  obtain ⟨t', rfl⟩ := ry
  exact rule i j t t' s _ _ ⟨.bl (g i j), H, I, rfl, q⟩
def CMul (i j : Int) : Prop := (-(2 ^ 64) < i ∧ i < 2 ^ 64) ∨ (-(2 ^ 64) < j ∧ j < 2 ^ 64)
theorem CMul.ok {i j : Int} (h : CMul i j) : IntMulOk i j := by
  rcases h with ⟨h1, h2⟩ | ⟨h1, h2⟩
  · exact .of_left (intBits_le_64 h1 h2)
  · exact .of_right (intBits_le_64 h1 h2)
theorem op_add : OpR X (binaryOp .Add) (rI0 fun i j => .int (i + j)) := opI0 fun _ _ _ _ _ _ _ q => add_int q
theorem op_sub : OpR X (binaryOp .Sub) (rI0 fun i j => .int (i - j)) := opI0 fun _ _ _ _ _ _ _ q => sub_int q
theorem op_modN : OpR X (binaryOp .Mod) (rI (fun _ j => j ≠ 0) fun i j => .int (i.fmod j)) := opI fun _ _ _ _ _ _ _ hc q => mod_int' hc q
theorem unI {f : Value → Sem Value} {g : Int → Int}
    (rule : ∀ (i : Int) (t : Tok) (s : Shared) (Q : Value → Shared → Prop) (E : Value → Shared → Prop), Q (.int (g i) s.toks) { s with toks := s.toks + 1 } → wpAny (model X.prog X.w) X.A (f (.int i t)) Q E s) :
    UnR X f (rU fun i => .int (g i)) := by
  intro pins s σ H x v Q I rx h
  obtain ⟨i, rfl, q⟩ := h
  obtain ⟨t, rfl⟩ := rx
  exact rule i t s _ _ ⟨.int (g i), H, I.tok _, ⟨_, rfl⟩, q⟩
theorem un_neg : UnR X (unaryOp .USub) (rU fun i => .int (-i)) := unI fun _ _ _ _ _ q => neg_int q
end
def scal : V → V → Bool
  | .non, .non => true | .non, .int _ => true | .int _, .non => true | .non, .bl _ => true | .bl _, .non => true | .non, .str _ => true | .str _, .non => true
  | .int _, .int _ => true | .bl _, .bl _ => true | .str _, .str _ => true | .byt _, .byt _ => true
  | .int _, .str _ => true | .str _, .int _ => true | .bl _, .str _ => true | .str _, .bl _ => true
  | _, _ => false
section
variable {X : Cx} {a b c : Expr} {ta tb tc : TE} {pos : Pos}
theorem fin_bl {pins : List (Addr × Obj)} {σ : St} {H : Hp} {s : Shared} {Q : VK} {k k' : Bool} (I : Inv X pins σ H s) (q : Q (.bl k) H) (e : k = k') : EP X pins σ Q (.bool k') s := by
  subst e
  exact ⟨.bl k, H, I, rfl, q⟩
theorem op_lt : OpR X (compareOp .Lt) (rI0 fun i j => .bl (decide (i < j))) := opB0 fun _ _ _ _ _ _ _ q => lt_int q
theorem op_le : OpR X (compareOp .LtE) (rI0 fun i j => .bl (decide (i ≤ j))) := opB0 fun _ _ _ _ _ _ _ q => le_int q
theorem op_gt : OpR X (compareOp .Gt) (rI0 fun i j => .bl (decide (j < i))) := opB0 fun _ _ _ _ _ _ _ q => gt_int q
theorem op_in_str : OpR X (compareOp .In) (fun x y H Q => ∃ i j, x = .str i ∧ y = .str j ∧ Q (.bl (!(Builtin.Str.occurrences j i 0 j.length 1).isEmpty)) H) := by
  intro pins s σ H x y v u Q I rx ry h
  obtain ⟨i, j, rfl, rfl, q⟩ := h
  obtain ⟨t, rfl⟩ := rx
  obtain ⟨t', rfl⟩ := ry
  exact in_str (fin_bl I q rfl)
theorem OpR.or {f : Value → Value → Sem Value} {r r' : R2} (h : OpR X f r) (h' : OpR X f r') : OpR X f (fun x y H Q => r x y H Q ∨ r' x y H Q) := by
  intro pins s σ H x y v u Q I rx ry q
  rcases q with q | q
  · exact h pins s σ H x y v u Q I rx ry q
  · exact h' pins s σ H x y v u Q I rx ry q
theorem nomark (b : Expr) {op : CmpOp} (h : op ≠ .In := by decide) (h2 : op ≠ .NotIn := by decide) : behindInMarks op b = false := by
  have e1 : (op == CmpOp.In) = false := by cases op <;> first | rfl | exact absurd rfl h
  have e2 : (op == CmpOp.NotIn) = false := by cases op <;> first | rfl | exact absurd rfl h2
  cases b <;> simp [behindInMarks, e1, e2]
theorem pe_cmpR {op : CmpOp} {r : R2} (ho : OpR X (compareOp op) r) (ha : PE X a ta) (hb : PE X b tb) (hm : behindInMarks op b = false) : PE X (.Compare a [op] [b] pos) (tOp r ta tb) := by
  intro pins s σ H Q I h
  exact wpAny_Compare1 (binT ha hb I h fun v u s2 x y H2 I2 rx ry q => ho pins s2 σ H2 x y v u Q I2 rx ry q) hm
def tTest (t : TE) : TT := fun σ H Q => t σ H fun x H' => ∃ k, x = .bl k ∧ Q k H'
theorem pt_cmpR {op : CmpOp} {r : R2} (ho : OpR X (compareOp op) r) (ha : PE X a ta) (hb : PE X b tb) (hm : behindInMarks op b = false) : PT X (.Compare a [op] [b] pos) (tTest (tOp r ta tb)) := by
  intro pins s σ H Q I h
  refine wpAny_isTrue_Compare1 (thn (ha pins s σ H _ I h) fun v s1 ⟨x, H1, I1, r1, q1⟩ => thn (hb pins s1 σ H1 _ I1 q1) fun u s2 ⟨y, H2, I2, r2, q2⟩ =>
    thn (ho pins s2 σ H2 x y v u _ I2 r1 r2 q2) fun c s3 ⟨z, H3, I3, r3, k, e, q3⟩ => ?_) hm
  subst e
  cases r3
  exact wpAny_truthy_bool ⟨H3, I3, q3⟩
def tChain (r r' : R2) (ta tb tc : TE) : TE := fun σ H Q => ta σ H fun x H1 => tb σ H1 fun y H2 => r x y H2 fun z H3 => ∃ k, z = .bl k ∧
  (if k = true then tc σ H3 fun w' H4 => r' y w' H4 Q else Q (.bl false) H3)
theorem pe_chain {op op' : CmpOp} {r r' : R2} (ho : OpR X (compareOp op) r) (ho' : OpR X (compareOp op') r') (ha : PE X a ta) (hb : PE X b tb) (hc : PE X c tc)
    (hm : lastMarks [op, op'] [b, c] = false := by with_unfolding_all rfl) : PE X (.Compare a [op, op'] [b, c] pos) (tChain r r' ta tb tc) := by
  intro pins s σ H Q I h
  refine Compare_chain (thn (ha pins s σ H _ I h) fun v s1 ⟨x, H1, I1, r1, q1⟩ => chain_link (thn (hb pins s1 σ H1 _ I1 q1) fun u s2 ⟨y, H2, I2, r2, q2⟩ =>
    thn (ho pins s2 σ H2 x y v u _ I2 r1 r2 q2) fun d s3 ⟨z, H3, I3, r3, k, e, q3⟩ => ?_)) hm
  subst e
  cases r3
  refine wpAny_truthy_bool ?_
  cases k with
  | false => exact ite_ff ⟨.bl false, H3, I3, rfl, q3⟩
  | true => exact ite_tt (chain_last (thn (hc pins s3 σ H3 _ I3 q3) fun w' s4 ⟨z', H4, I4, r4, q4⟩ => ho' pins s4 σ H4 y z' u w' Q I4 r2 r4 q4))
theorem pt_chain {op op' : CmpOp} {r r' : R2} (ho : OpR X (compareOp op) r) (ho' : OpR X (compareOp op') r') (ha : PE X a ta) (hb : PE X b tb) (hc : PE X c tc)
    (hm : lastMarks [op, op'] [b, c] = false := by with_unfolding_all rfl) : PT X (.Compare a [op, op'] [b, c] pos) (tTest (tChain r r' ta tb tc)) := by
  intro pins s σ H Q I h
  refine isTrue_chain (thn (ha pins s σ H _ I h) fun v s1 ⟨x, H1, I1, r1, q1⟩ => test_link (thn (hb pins s1 σ H1 _ I1 q1) fun u s2 ⟨y, H2, I2, r2, q2⟩ =>
    thn (ho pins s2 σ H2 x y v u _ I2 r1 r2 q2) fun d s3 ⟨z, H3, I3, r3, k, e, q3⟩ => ?_)) hm
  subst e
  cases r3
  refine wpAny_truthy_bool ?_
  cases k with
  | false =>
    obtain ⟨k', e', q'⟩ := q3
    cases e'
    exact ite_ff ⟨H3, I3, q'⟩
  | true =>
    refine ite_tt (test_last (thn (hc pins s3 σ H3 _ I3 q3) fun w' s4 ⟨z', H4, I4, r4, q4⟩ => thn (ho' pins s4 σ H4 y z' u w' _ I4 r2 r4 q4) fun d' s5 ⟨z2, H5, I5, r5, k2, e2, q5⟩ => ?_))
    subst e2
    cases r5
    exact wpAny_truthy_bool ⟨H5, I5, q5⟩
theorem line63 : (sizeLine : Nat) < 2 ^ 63 := by rw [sizeLine_eq]; decide
theorem op_add_str : OpR X (binaryOp .Add) (fun x y H Q => ∃ i j, x = .str i ∧ y = .str j ∧ i.length + j.length ≤ sizeLine ∧ Q (.str (i ++ j)) H) := by
  intro pins s σ H x y v u Q I rx ry h
  obtain ⟨i, j, rfl, rfl, hz, q⟩ := h
  obtain ⟨t, rfl⟩ := rx
  obtain ⟨t', rfl⟩ := ry
  exact add_str (fun t' tk => ⟨.str (i ++ j), H, I.tok _, ⟨_, rfl⟩, q⟩) hz
theorem vals1 {x : V} {us : List Value} (r : Vals [x] us) : ∃ u, us = [u] ∧ RelV x u := by
  cases r with
  | cons r1 r2 => cases r2; exact ⟨_, rfl, r1⟩
theorem vals2 {x y : V} {us : List Value} (r : Vals [x, y] us) : ∃ u w', us = [u, w'] ∧ RelV x u ∧ RelV y w' := by
  cases r with
  | cons r1 r2 =>
    cases r2 with
    | cons r3 r4 => cases r4; exact ⟨_, _, rfl, r1, r3⟩
theorem call_min2 (hc : X.calm = true) : CallR X (.builtin "min") (fun xs H Q => ∃ i j, xs = [.int i, .int j] ∧ Q (.int (if j < i then j else i)) H) := by
  intro pins s σ H xs us Q I r h
  obtain ⟨i, j, rfl, q⟩ := h
  obtain ⟨u, w', rfl, ⟨t, rfl⟩, ⟨t', rfl⟩⟩ := vals2 r
  refine min_two_ints (I.ok.hd hc) fun h' tk k => ⟨_, H, I.kept k, ?_, q⟩
  by_cases hj : j < i
  · rw [if_pos hj, if_pos hj]; exact ⟨_, rfl⟩
  · rw [if_neg hj, if_neg hj]; exact ⟨_, rfl⟩
end
end L2
namespace L2
open PySem PySem.Spec PyProof.Rows
structure ObjM (h : Heap) (x dx C : Addr) (mA : Str → Option Value) : Prop where
  obj : h.get? x = some (PySem.W.instObj C dx)
  ns : h.Ns1 dx mA
  ne : dx ≠ x
theorem lookIn_ns {h : Heap} {dx : Addr} {mA : Str → Option Value} (n : h.Ns1 dx mA) : ∃ od, h.get? dx = some od ∧ ∀ name, PySem.W.lookIn name od = some (mA name) := by
  obtain ⟨o, es, ep, ho, hd, hk, _, hm⟩ := n
  refine ⟨o, ho, fun name => ?_⟩
  have e := hm name
  unfold nsFind findBy at e
  rw [← Array.find?_toList] at e
  unfold PySem.W.lookIn
  rw [hd]
  dsimp only
  split
  · rename_i y q
    rw [q] at e
    exact congrArg some e
  · rename_i q
    rw [q] at e
    have a : es.toList.any (·.refKey) = false := by
      rw [List.any_eq_false]
      intro y hy
      obtain ⟨z, t, hkey⟩ := hk y (Array.mem_toList_iff.mp hy)
      simp [DictEntry.refKey, hkey]
    have a' : ¬ es.toList.any (·.refKey) = true := by rw [a]; exact Bool.false_ne_true
    rw [if_neg a']
    exact congrArg some e
theorem ObjM.look {h : Heap} {x dx C : Addr} {mA : Str → Option Value} (I : ObjM h x dx C mA) : ∃ od, PySem.W.InstAt h x (PySem.W.instObj C dx) C (some od) ∧ ∀ name, PySem.W.lookIn name od = some (mA name) :=
  let ⟨od, ho, hl⟩ := lookIn_ns I.ns
  ⟨od, ⟨I.obj, rfl, rfl, ho⟩, hl⟩
section
variable {prog : Program} {w : World} {A : Around} {E : Value → Shared → Prop} {s : Shared} {K : PySem.W.Frag} {x dx C f : Addr} {mA : Str → Option Value} {name : Str} {v : Value}
end
section
variable {P : Program} {w : World} {H H' : Hp} {h h' : Heap} {a C dx : Addr} {fs fs' : List (Str × V)}
theorem ins_get (hok : HOk P w H h) (e : H a = some (.ins C dx fs)) : ∃ mA, ObjM h a dx C mA ∧ (∀ f, RelO (fs.lookup f) (mA f)) ∧ PySem.Within mA (fs.map (·.1)) ∧ fs.length ≤ 1000 ∧ H dx = some (.own a) := by
  obtain ⟨d, z, ne, ob, mA, n, r, q⟩ := (show ObjOk P w H h a (.ins C dx fs) from hok a _ e)
  exact ⟨mA, ⟨ob, n, ne⟩, r, q, z, d⟩
end
structure Cls (K : PySem.W.Frag) (C : Addr) : Prop where
  pg : PySem.W.plainGet K C Str.empty = true
  hd : PySem.W.hasDictIn K C = true
  po : PySem.W.plainOver K C = true
  sa : PySem.W.findIn K (.ref C) "__setattr__" = some (some (.builtin "object.__setattr__"))
theorem Cls.get {K : PySem.W.Frag} {C : Addr} (c : Cls K C) (f : Str) : PySem.W.plainGet K C f = true := c.pg
section
variable {X : Cx} {pins : List (Addr × Obj)} {σ : St} {H : Hp} {s : Shared} {a C dx : Addr} {fs : List (Str × V)} {f : Str} {v : V} {A : Around} {E : Value → Shared → Prop}
end
section
variable {X : Cx} {o e value : Expr} {f : Str} {pos pos' tpos : Pos} {ta tv : TE}
end
section
variable {X : Cx} {pins : List (Addr × Obj)} {σ : St} {H : Hp} {s : Shared} {A : Around} {E : Value → Shared → Prop} {Q : Value → Shared → Prop} {c : Value} {b : Bool}
end
end L2
namespace L2
open PySem PySem.Spec PyProof.Rows
structure Room (k : Nat) (A : Around) : Prop where
  hd : A.handled = none
  dp : A.depth + 3 * k + 5 < recursionLimit
  un : A.units + 16 * k + 200 < cLine
theorem Room.mono {j k : Nat} {A : Around} (r : Room k A) (h : j ≤ k) : Room j A := ⟨r.hd, by have := r.dp; omega, by have := r.un; omega⟩
theorem Room.deeper {k : Nat} {A : Around} (r : Room (k + 1) A) (env : Env) : Room k (A.deeper env) :=
  ⟨r.hd, by have := r.dp; show A.depth + 1 + 3 * k + 5 < _; omega, by have := r.un; show A.units + 3 + 16 * k + 200 < _; omega⟩
theorem Room.depth {k : Nat} {A : Around} (r : Room k A) : A.depth < recursionLimit := by have := r.dp; omega
theorem Room.units {k : Nat} {A : Around} (r : Room k A) : A.units + 64 < cLine := by have := r.un; omega
def tNil : TA := fun _ H Q => Q [] H
def tCons (ta : TE) (tr : TA) : TA := fun σ H Q => ta σ H fun x H1 => tr σ H1 fun xs H2 => Q (x :: xs) H2
section
variable {X : Cx} {e : Expr} {es : List Expr} {te : TE} {t : TA} {pos : Pos}
theorem pa_nil : PA X [] tNil := fun _ _ _ _ H Q I h => Calls.spliced_nil ⟨[], H, I, .nil, h⟩
theorem pa_cons (ha : PE X e te) (hr : PA X es t) (hs : starEach (e :: es) X.env = (false, eval e X.env) :: starEach es X.env := by rfl) : PA X (e :: es) (tCons te t) := by
  intro pos pins s σ H Q I h
  rw [hs]
  show wpAny _ _ (spliced ((false, eval e X.env) :: backTo pos (starEach es X.env))) _ _ s
  refine Calls.spliced_cons (thn (ha pins s σ H _ I h) fun u s1 ⟨x, H1, I1, r1, q1⟩ => ?_)
  exact thn (hr pos pins s1 σ H1 _ I1 q1) fun us s2 ⟨xs, H2, I2, r2, q2⟩ => ⟨x :: xs, H2, I2, .cons r1 r2, q2⟩
def tTup (t : TA) : TE := fun σ H Q => t σ H fun xs H1 => xs.length ≤ sizeLine ∧ ∀ p, H1 p = none → Q (.ref p) (upd H1 p (.tup xs))
def tLst (t : TA) : TE := fun σ H Q => t σ H fun xs H1 => xs.length ≤ sizeLine ∧ ∀ p, H1 p = none → Q (.ref p) (upd H1 p (.lst xs))
theorem pe_tup {x1} (h : PA X es t) : PE X (.Tuple es x1 pos) (tTup t) := by
  intro pins s σ H Q I hq
  refine wpAny_Tuple_spliced (thn (h pos pins s σ H _ I hq) fun us s1 ⟨xs, H1, I1, r, z, q⟩ => ⟨by rw [← r.length]; exact z, ?_⟩)
  have hf : H1 s1.heap.objs.size = none := I1.hok.fresh (Nat.le_refl _)
  refine ⟨.ref s1.heap.objs.size, upd H1 s1.heap.objs.size (.tup xs), I1.laid (t' := s1.toks) (fun b u e => Heap.get?_push_of_some _ e) (Nat.le_refl _) ?_, rfl, q _ hf⟩
  exact ⟨z, us, r, ⟨_, Heap.get?_push_size _ rfl, rfl, _, rfl⟩⟩
theorem pe_lst (h : PA X es t) : PE X (.List es pos) (tLst t) := by
  intro pins s σ H Q I hq
  refine wpAny_List_spliced (thn (h pos pins s σ H _ I hq) fun us s1 ⟨xs, H1, I1, r, z, q⟩ => ⟨by rw [← r.length]; exact z, ?_⟩)
  have hf : H1 s1.heap.objs.size = none := I1.hok.fresh (Nat.le_refl _)
  refine ⟨.ref s1.heap.objs.size, upd H1 s1.heap.objs.size (.lst xs), I1.laid (t' := s1.toks) (fun b u e => Heap.get?_push_of_some _ e) (Nat.le_refl _) ?_, rfl, q _ hf⟩
  exact ⟨z, us, 0, r, Heap.get?_push_size _ rfl⟩
end
abbrev Sp := List V → Hp → VK → XK → Prop
abbrev CXT := List Env → Hp → Shared → XK → Value → Shared → Prop
structure Env0 (P : Program) (w : World) (K : PySem.W.Frag) (mg : Str → Option Value) (base : Heap) (A : Around) (outer : List Env) (s : Shared) (H : Hp) : Prop where
  frames : A.frames = some outer
  mod : Mod K mg base
  bs : ∀ b o, base.get? b = some o → s.heap.get? b = some o ∧ H b = none
  bsz : base.objs.size ≤ s.heap.objs.size
  funs : s.heap.FunFrames base outer
  frf : ∀ b ∈ frs outer, H b = none
  hok : HOk P w H s.heap
  bare : AllBare s.gens
def CE (outer : List Env) (P : Program) (w : World) (H : Hp) (s : Shared) (Q : VK) (u : Value) (s' : Shared) : Prop :=
  ∃ v H', s'.os = s.os ∧ AllBare s'.gens ∧ Un (frs outer) [] H H' s.heap s'.heap ∧ HOk P w H' s'.heap ∧ RelV v u ∧ Q v H'
def CR (CX : CXT) (outer : List Env) (P : Program) (w : World) (H : Hp) (s : Shared) (Q : VK) (E : XK) (r : Result) (s' : Shared) : Prop :=
  match r with
  | .ok (.ret u) => CE outer P w H s Q u s'
  | .ok _ => False
  | .error e => CX outer H s E e s'
structure FnOk (P : Program) (w : World) (K : PySem.W.Frag) (mg : Str → Option Value) (base : Heap) (CX : CXT) (k : Nat) (f : Addr) (fd : FuncData) (ps : List Str) (sp : Sp) : Prop where
  len : ∀ vs H Q E, sp vs H Q E → vs.length = ps.length
  run : ∀ (A : Around) (outer : List Env) (s : Shared) (H : Hp) (args : Args) (us : List Value) (vs : List V) (Q : VK) (E : XK), Room k A → Env0 P w K mg base A outer s H → BindsTo s fd args (ps.zip us) → Vals vs us → sp vs H Q E →
    codeAny (model P w) A (.call (.ref f) args) (CR CX outer P w H s Q E) s
section
variable {X : Cx} {pins : List (Addr × Obj)} {σ : St} {H : Hp} {s s' : Shared}
theorem Inv.env0 (I : Inv X pins σ H s) : Env0 X.prog X.w X.K X.mg X.base X.A X.stack s H :=
  ⟨I.ok.frames, I.ok.mod, I.bs, Nat.le_trans I.ok.bsz I.sz, I.stack, I.stkFree, I.hok, I.bare⟩
theorem Inv.after {Q : VK} {u : Value} (I : Inv X pins σ H s) (h : CE X.stack X.prog X.w H s Q u s') : EP X pins σ Q u s' := by
  obtain ⟨v, H', os, bare, un, hok, r, q⟩ := h
  obtain ⟨hh, g, d, t, os'⟩ := s'
  obtain rfl : os' = s.os := os
  exact ⟨v, H', I.call (h' := hh) (g' := g) (d' := d) (t' := t) (ch := []) un hok bare (fun b z => absurd z (by simp)), r, q⟩
end
def tCall (sp : Sp) (dvs : List V) (E : XK) (t : TA) : TE := fun σ H Q => t σ H fun vs H1 => sp (vs ++ dvs) H1 Q E
def Binds (K : PySem.W.Frag) (fd : FuncData) (ps : List Str) (ds : List Value) : Prop :=
  ∀ (s : Shared) (us : List Value), K.In s.heap → (us ++ ds).length = ps.length → BindsTo s fd ⟨us, []⟩ (ps.zip (us ++ ds))
theorem Binds.all {K : PySem.W.Frag} {fd : FuncData} {ps : List Str} (h : ∀ us : List Value, us.length = ps.length → bindArgs fd ⟨us, []⟩ = pure (ps.zip us)) : Binds K fd ps [] := fun s us _ hl => by
  rw [List.append_nil] at hl ⊢
  exact .of_eq (h us hl)
def Passes (CX : CXT) (X : Cx) (E : XK) : Prop := ∀ (pins : List (Addr × Obj)) (σ : St) (H : Hp) (s : Shared) (e : Value) (s' : Shared), Inv X pins σ H s → CX X.stack H s E e s' → X.xe e s'
section
variable {X : Cx} {CX : CXT} {k : Nat} {f C : Addr} {fd : FuncData} {ps : List Str} {sp : Sp} {dvs : List V} {ds : List Value} {E : XK} {x m : Str} {p pos apos : Pos} {e o : Expr} {es : List Expr} {ta : TE} {t : TA}
theorem run_fn {pins : List (Addr × Obj)} {σ : St} {H : Hp} {s : Shared} {Q : VK} {us : List Value} {vs : List V} (F : FnOk X.prog X.w X.K X.mg X.base CX k f fd ps sp) (hr : Room k X.A) (hb : Binds X.K fd ps ds) (hd : Vals dvs ds) (hx : Passes CX X E)
    (I : Inv X pins σ H s) (r : Vals vs us) (h : sp (vs ++ dvs) H Q E) : wpAny (model X.prog X.w) X.A (call (.ref f) us) (EP X pins σ Q) X.xe s := by
  have r2 : Vals (vs ++ dvs) (us ++ ds) := r.append hd
  have hl : (us ++ ds).length = ps.length := by rw [← r2.length]; exact F.len _ _ _ _ h
  refine wpAny_call (codeAny_mono (F.run X.A X.stack s H ⟨us, []⟩ (us ++ ds) (vs ++ dvs) Q E hr I.env0 (hb s us I.kIn hl) r2 h) fun r s' hq => ?_)
  cases r with
  | error e => exact hx pins σ H s e s' I hq
  | ok fl =>
    cases fl with
    | ret u => exact I.after hq
    | next => exact False.elim hq
    | brk => exact False.elim hq
    | cont => exact False.elim hq
theorem pe_call (F : FnOk X.prog X.w X.K X.mg X.base CX k f fd ps sp) (hr : Room k X.A) (hg : Gl X x) (hm : X.mg x = some (.ref f)) (hk : PySem.W.keepIn X.K (.ref f) = true) (hb : Binds X.K fd ps ds) (hd : Vals dvs ds) (hx : Passes CX X E)
    (ha : PA X (e :: es) t) (hdb : (x == ("__debug__" : Str)) = false := by decide) (he : starEach (e :: es) X.env = (false, eval e X.env) :: starEach es X.env := by rfl) (hpl : (backTo pos (starEach es X.env)).any (·.1) = false := by rfl) :
    PE X (.Call (.Name x p) (e :: es) [] pos) (tCall sp dvs E t) := by
  intro pins s σ H Q I h
  refine wpAny_Call_Name_kw (ld_glob I hg hm ?_ hdb)
  refine PySem.W.callWith_K (h₀ := X.base) I.ok.mod.kin hk (thn (ha pos pins s σ H _ I h) fun us s1 ⟨vs, H1, I1, r, q⟩ => ⟨I1.kIn, ?_⟩) he hpl
  exact run_fn F hr hb hd hx I1 r q
end
section
variable {X : Cx} {CX : CXT} {k : Nat} {f C : Addr} {fd : FuncData} {ps ks : List Str} {sp : Sp} {E : XK} {x m : Str} {p pos apos kpos : Pos} {e o : Expr} {es : List Expr} {kws : List Keyword} {te ta : TE} {t tk : TA} {nm : Option Str}
variable {g : List Value → List Value → List Value} {gV : List V → List V → List V}
end
structure FnScope (N P : List Str) (sc : Scope) : Prop where
  kind : sc.kind = .function
  co : sc.isCoroutine = false
  gen : sc.isGenerator = false
  nd : N.Nodup
  pre : N.take P.length = P
  par : ∀ x ∈ P, sc.names.lookup x = some .local ∨ sc.names.lookup x = some .cell
  nofree : ∀ y ∈ sc.names, y.2 ≠ .free
theorem bindL_out {kindOf : Str → Option NameKind} {x : Str} : ∀ {binds : List (Str × Value)} {m : Str → Option Value}, (∀ v, (x, v) ∉ binds) → bindL kindOf binds m x = m x
  | [], _, _ => rfl
  | (n, v) :: r, m, h => by
    unfold bindL
    rw [bindL_out fun w hw => h w (List.mem_cons_of_mem _ hw)]
    split
    · have : x ≠ n := by rintro rfl; exact h v List.mem_cons_self
      simp [this]
    · rfl
theorem bindC_out {kindOf : Str → Option NameKind} {x : Str} : ∀ {binds : List (Str × Value)} {m : Str → Option Value}, (∀ v, (x, v) ∉ binds) → bindC kindOf binds m x = m x
  | [], _, _ => rfl
  | (n, v) :: r, m, h => by
    unfold bindC
    rw [bindC_out fun w hw => h w (List.mem_cons_of_mem _ hw)]
    split
    · rfl
    · have : x ≠ n := by rintro rfl; exact h v List.mem_cons_self
      simp [this]
theorem bindL_get {kindOf : Str → Option NameKind} {x : Str} {v : Value} : ∀ {P : List Str} {vs : List Value} {i : Nat} {m : Str → Option Value}, P.Nodup → P[i]? = some x → vs[i]? = some v → kindOf x = some .local →
    bindL kindOf (P.zip vs) m x = some v
  | [], _, _, _, _, h, _, _ => by simp at h
  | _ :: _, [], _, _, _, _, h, _ => by simp at h
  | p :: P, w :: vs, 0, m, nd, h1, h2, hk => by
    simp at h1 h2; subst h1; subst h2
    show bindL kindOf ((p, w) :: P.zip vs) m p = _
    unfold bindL
    rw [bindL_out fun v hv => (List.nodup_cons.mp nd).1 (List.of_mem_zip hv).1, if_pos hk]
    simp
  | p :: P, w :: vs, i + 1, m, nd, h1, h2, hk => by
    show bindL kindOf ((p, w) :: P.zip vs) m x = _
    unfold bindL
    exact bindL_get (i := i) (List.nodup_cons.mp nd).2 (by simpa using h1) (by simpa using h2) hk
theorem bindC_get {kindOf : Str → Option NameKind} {x : Str} {v : Value} : ∀ {P : List Str} {vs : List Value} {i : Nat} {m : Str → Option Value}, P.Nodup → P[i]? = some x → vs[i]? = some v → kindOf x ≠ some .local →
    bindC kindOf (P.zip vs) m x = some v
  | [], _, _, _, _, h, _, _ => by simp at h
  | _ :: _, [], _, _, _, _, h, _ => by simp at h
  | p :: P, w :: vs, 0, m, nd, h1, h2, hk => by
    simp at h1 h2; subst h1; subst h2
    show bindC kindOf ((p, w) :: P.zip vs) m p = _
    unfold bindC
    rw [bindC_out fun v hv => (List.nodup_cons.mp nd).1 (List.of_mem_zip hv).1, if_neg hk]
    simp
  | p :: P, w :: vs, i + 1, m, nd, h1, h2, hk => by
    show bindC kindOf ((p, w) :: P.zip vs) m x = _
    unfold bindC
    exact bindC_get (i := i) (List.nodup_cons.mp nd).2 (by simpa using h1) (by simpa using h2) hk
def start (N : List Str) (vs : List V) : St := vs.map some ++ List.replicate (N.length - vs.length) none
def cxOf (CX : CXT) (P : Program) (w : World) (K : PySem.W.Frag) (mg : Str → Option Value) (base : Heap) (N : List Str) (qual : Str) (scope : Scope) (f : Addr) (cd : Value) (A : Around) (outer : List Env) (s : Shared) (H : Hp) (E : XK) : Cx where
  prog := P
  w := w
  K := K
  mg := mg
  base := base
  A := A.deeper (envOfC qual scope s.heap.objs.size f cd)
  N := N
  s₀ := s
  H₀ := H
  env := envOfC qual scope s.heap.objs.size f cd
  outer := outer
  stack := envOfC qual scope s.heap.objs.size f cd :: outer
  ex := []
  calm := true
  fn := fun _ => true
  pn := []
  xe := fun e s' => wpAny (model P w) (A.deeper (envOfC qual scope s.heap.objs.size f cd)) (leaving (envOfC qual scope s.heap.objs.size f cd) e) (fun _ s'' => CX outer H s E e s'') (fun e' s'' => CX outer H s E e' s'') s'
theorem cell_has {sc : Scope} {n : Nat} {x : Str} (h : sc.names.lookup x = some .cell) : ∃ c, (cellsFrom n sc.names []).lookup x = some c := by
  have q := PySem.W.cellsFrom_some sc.names n [] (.inl h)
  exact Option.isSome_iff_exists.mp q
theorem inv_start {CX : CXT} {P : Program} {w : World} {K : PySem.W.Frag} {mg : Str → Option Value} {base : Heap} {N ps : List Str} {qual : Str} {scope : Scope} {f : Addr} {cd : Value} {A : Around} {outer : List Env} {s s1 : Shared} {H : Hp} {E : XK} {us : List Value} {vs : List V}
    (S : FnScope N ps scope) (hd : A.handled = none) (e0 : Env0 P w K mg base A outer s H) (hl : vs.length = ps.length) (r : Vals vs us)
    (x : InCallC s s.heap.objs.size (bindL (envOfC qual scope s.heap.objs.size f cd).kindOf (ps.zip us) fun _ => none) (cellsFrom (s.heap.objs.size + 1) scope.names []) (bindC (envOfC qual scope s.heap.objs.size f cd).kindOf (ps.zip us) fun _ => none) s1) :
    Inv (cxOf CX P w K mg base N qual scope f cd A outer s H E) [] (start N vs) H s1 := by
  have hpl : ps.length ≤ N.length := by have := congrArg List.length S.pre; rw [List.length_take] at this; omega
  obtain ⟨h1, tk, rfl, hk⟩ := x.done
  have noA : ∀ b : Addr, b ∉ (cxOf CX P w K mg base N qual scope f cd A outer s H E).ex := fun b z => absurd (show b ∈ ([] : List Addr) from z) (by simp)
  refine ⟨⟨e0.mod, S.kind, rfl, rfl, Nat.le_refl _, fun y z c h1 h2 => ?_, fun y hy => ?_, fun y c _ h => ?_, fun _ => hd, Around.frames_deeper e0.frames, .inr ⟨rfl, rfl⟩, fun b z => absurd z (noA b), e0.bs, e0.bsz, fun b _ _ => noA b, fun b z => absurd z (noA b), e0.funs, e0.frf⟩,
    rfl, e0.bare, Un.kept hk, ⟨_, x.toInCall.ns, fun i y v h1 h2 h3 => ?_⟩, fun y c h => ⟨_, x.cell y c h⟩, e0.hok.fresh (Nat.le_refl _), fun y c h => ?_, fun p hp => absurd (show p ∈ ([] : List (Addr × Obj)) from hp) (by simp), e0.hok.kept hk, ?_⟩
  · exact name_of_addr x.apart (PySem.mem_of_lookup h1) (PySem.mem_of_lookup h2)
  · have hy : scope.names.lookup y = some .cell ∨ scope.names.lookup y = some .free := hy
    rcases hy with hy | hy
    · exact cell_has hy
    · exact absurd rfl (S.nofree _ (PySem.mem_of_lookup hy))
  · exact Nat.le_of_lt (x.above y c (PySem.mem_of_lookup h))
  · have hi : i < vs.length := by
      unfold start at h2
      by_cases hi : i < vs.length
      · exact hi
      · rw [List.getElem?_append_right (by simpa using hi)] at h2
        rw [List.getElem?_replicate] at h2
        split at h2 <;> cases h2
    have ha : vs[i]? = some v := by
      unfold start at h2
      rw [List.getElem?_append_left (by simpa using hi), List.getElem?_map] at h2
      cases e : vs[i]? with
      | none => rw [e] at h2; cases h2
      | some a => rw [e] at h2; cases h2; rfl
    obtain ⟨u, hu, rv⟩ := r.get ha
    have hp : ps[i]? = some y := by
      rw [← S.pre, List.getElem?_take_of_lt (by omega)]; exact h1
    have ndP : ps.Nodup := by rw [← S.pre]; exact S.nd.sublist (List.take_sublist _ _)
    refine ⟨u, rv, ?_⟩
    rcases S.par y (List.mem_of_getElem? hp) with k | k
    · exact .inl ⟨k, bindL_get ndP hp hu k⟩
    · obtain ⟨c, e⟩ := cell_has (n := s.heap.objs.size + 1) k
      refine .inr ⟨.inl k, c, e, ?_⟩
      have q := x.cell y c e
      rw [bindC_get ndP hp hu (by show scope.names.lookup y ≠ _; rw [k]; decide)] at q
      exact q
  · exact e0.hok.fresh (Nat.le_of_lt (x.above y c (PySem.mem_of_lookup h)))
  · unfold start
    show _ = N.length
    rw [List.length_append, List.length_map, List.length_replicate]
    omega
theorem fn_of {CX : CXT} {P : Program} {w : World} {K : PySem.W.Frag} {mg : Str → Option Value} {base : Heap} {k : Nat} {f : Addr} {name qual : Str} {params : Arguments} {body : List Stmt} {scope : Scope} {dV kV doc pm cdv ct oc : Value} {an od : Option Addr}
    {osl : Array (Option Value)} {N ps : List Str} {sp : Sp} (lk : K.lookup f = some ⟨oc, od, .func (PySem.W.fnOf name qual params body scope dV kV doc pm an cdv ct), osl⟩) (hcd : PySem.W.codeIn K cdv qual = true) (S : FnScope N ps scope)
    (len : ∀ vs H Q E, sp vs H Q E → vs.length = ps.length)
    (hbody : ∀ (A : Around) (outer : List Env) (s : Shared) (H : Hp) (vs : List V) (Q : VK) (E : XK), Room k (A.deeper (envOfC qual scope s.heap.objs.size f cdv)) → sp vs H Q E →
      ∃ t, PSs (cxOf CX P w K mg base N qual scope f cdv A outer s H E) body t ∧ t { nx := fun _ H' => Q .non H', rt := Q } (start N vs) H) :
    FnOk P w K mg base CX (k + 1) f (PySem.W.fnOf name qual params body scope dV kV doc pm an cdv ct) ps sp := by
  refine ⟨len, fun A outer s H args us vs Q E hr e0 hb r hsp => ?_⟩
  have hl := len _ _ _ _ hsp
  have KX : K.In s.heap := e0.mod.kin.keeps fun b o e => (e0.bs b o e).1
  have lim : s.heap.NoLimit := e0.mod.nolimit.keeps fun b o e => (e0.bs b o e).1
  have hkind : ∀ y ∈ ps.zip us, scope.names.lookup y.1 = some .local ∨ (scope.names.lookup y.1 = some .cell ∧ ((cellsFrom (s.heap.objs.size + 1) scope.names []).lookup y.1).isSome = true) := fun ⟨n, v⟩ hy => by
    rcases S.par n (List.of_mem_zip hy).1 with q | q
    · exact .inl q
    · exact .inr ⟨q, PySem.W.cellsFrom_some _ _ _ (.inl q)⟩
  refine codeAny_call_function hr.depth (KX _ _ lk) rfl S.co S.gen rfl (PySem.W.codeRec_of KX hcd) (hb _ _ _ _ ?_)
  refine wpAny_newFunctionEnv_cells S.kind hkind fun env he s1 x => ?_
  subst he
  refine ⟨lim.keeps x.toInCall.keep, codeAny_func ?_⟩
  obtain ⟨t, ht, hq⟩ := hbody A outer s H vs Q E (hr.deeper _) hsp
  have I : Inv (cxOf CX P w K mg base N qual scope f cdv A outer s H E) [] (start N vs) H s1 := inv_start S hr.hd e0 hl r x
  refine wpAny_mono (ht [] s1 (start N vs) H _ I hq) (fun fl s' hs => ?_) fun e s' hs => hs
  have fin : ∀ {σ' : St} {H' : Hp} {v : V} {u : Value}, Inv (cxOf CX P w K mg base N qual scope f cdv A outer s H E) [] σ' H' s' → RelV v u → Q v H' → CE outer P w H s Q u s' :=
    fun {σ' H' v u} J rv q => ⟨v, H', J.os, J.bare, J.base, J.hok, rv, q⟩
  cases fl with
  | ret u =>
    obtain ⟨v, σ', H', J, rv, q⟩ := hs
    exact fin J rv q
  | next =>
    obtain ⟨σ', H', J, q⟩ := hs
    exact fin (v := V.non) (u := Value.none) J rfl q
  | brk =>
    obtain ⟨_, _, _, q⟩ := hs
    exact False.elim q
  | cont =>
    obtain ⟨_, _, _, q⟩ := hs
    exact False.elim q
end L2
namespace L2
open PySem PySem.Spec PyProof.Rows
section
variable {X : Cx} {x : Str} {p pos : Pos} {e : Expr} {es : List Expr} {t : TA} {id T : String} {r : List V → Hp → VK → Prop}
def tCB (r : List V → Hp → VK → Prop) (t : TA) : TE := fun σ H Q => t σ H fun vs H1 => r vs H1 Q
theorem pe_callB (hc : CallR X (.builtin id) r) (hg : Gl X x) (hm : X.mg x = none) (hv : bootBuiltins x = some (.builtin id)) (ha : PA X (e :: es) t) (hn : x ≠ "__name__" := by decide) (hdb : (x == ("__debug__" : Str)) = false := by decide)
    (he : starEach (e :: es) X.env = (false, eval e X.env) :: starEach es X.env := by rfl) (hpl : (backTo pos (starEach es X.env)).any (·.1) = false := by rfl) : PE X (.Call (.Name x p) (e :: es) [] pos) (tCB r t) := by
  intro pins s σ H Q I h
  refine wpAny_Call_Name_kw (ld_blt I hg hm hv ?_ hn hdb)
  exact PyProof.Rows.callWith_builtin1 (thn (ha pos pins s σ H _ I h) fun us s1 ⟨vs, H1, I1, r1, q1⟩ => hc pins s1 σ H1 vs us Q I1 r1 q1) he hpl
end
end L2
namespace HT
open PySem PyProof.Rows
section
open PySem.SeqAt
open PySem.AutoSeq1 (wpAny_loadPart')
open PySem.MeetsSeq PySem.MeetsSeq2 PySem.MeetsSeq3
end
section
variable {prog : Program} {w : World} {A : Around} {E : Value → Shared → Prop} {s : Shared}
def sIx (n d : Nat) : Option Int → Nat
  | none => d
  | some v => if v < 0 then (v + (n : Int)).toNat else min v.toNat n
theorem sIx_none (n d : Nat) : sIx n d none = d := rfl
theorem sIx_nat (n d k : Nat) : sIx n d (some (k : Int)) = min k n := by
  show (if (k : Int) < 0 then ((k : Int) + (n : Int)).toNat else min (k : Int).toNat n) = min k n
  rw [if_neg (by omega), Int.toNat_natCast]
end
end HT
namespace L2
open PySem PySem.Spec PyProof.Rows
abbrev TO := St → Hp → (Option Int → Hp → Prop) → Prop
def PO (X : Cx) (e : Option Expr) (t : TO) : Prop :=
  ∀ (pins : List (Addr × Obj)) (s : Shared) (σ : St) (H : Hp) (Q : Option Int → Hp → Prop), Inv X pins σ H s → t σ H Q →
    wpAny (model X.prog X.w) X.A (evalPart e X.env) (fun u s' => ∃ o H', Inv X pins σ H' s' ∧ IsPart u o ∧ Q o H') X.xe s
def tNoPart : TO := fun _ H Q => Q none H
def tPart (t : TE) : TO := fun σ H Q => t σ H fun x H1 => ∃ i, x = .int i ∧ Q (some i) H1
section
variable {X : Cx} {e : Expr} {te : TE} {lo hi : Option Expr} {tl th : TO} {pos p2 : Pos}
theorem po_none : PO X none tNoPart := by
  intro pins s σ H Q I h
  rw [evalPart_none]
  exact wpAny_pure ⟨none, H, I, .none, h⟩
theorem po_some (h : PE X e te) : PO X (some e) (tPart te) := by
  intro pins s σ H Q I hw
  rw [evalPart_some]
  refine thn (h pins s σ H _ I hw) fun u s1 ⟨x, H1, I1, r1, q1⟩ => ?_
  obtain ⟨i, rfl, q⟩ := q1
  obtain ⟨t, rfl⟩ := r1
  exact ⟨some i, H1, I1, .int i t, q⟩
def SlR (X : Cx) (r : V → Option Int → Option Int → Hp → VK → Prop) : Prop :=
  ∀ (pins : List (Addr × Obj)) (s : Shared) (σ : St) (H : Hp) (x : V) (v vl vu : Value) (lo hi : Option Int) (sl : Addr) (Q : VK), Inv X pins σ H s → RelV x v → s.heap.IsSliceOf sl vl vu .none → IsPart vl lo → IsPart vu hi → r x lo hi H Q →
    ∃ T id, typeLookup (.type T) "__getitem__" = pure (some (.builtin id)) ∧ s.TypeIs v T ∧ wpAny (model X.prog X.w) X.A (getItem v (.ref sl)) (EP X pins σ Q) X.xe s
def tSl (r : V → Option Int → Option Int → Hp → VK → Prop) (te : TE) (tl th : TO) : TE := fun σ H Q => te σ H fun x H1 => tl σ H1 fun l H2 => th σ H2 fun u H3 => r x l u H3 Q
theorem pe_slice {r : V → Option Int → Option Int → Hp → VK → Prop} (hr : SlR X r) (he : PE X e te) (hl : PO X lo tl) (hu : PO X hi th) : PE X (.Subscript e (.Slice lo hi none p2) pos) (tSl r te tl th) := by
  intro pins s σ H Q I h
  refine Subscript_ (thn (he pins s σ H _ I h) fun v s1 ⟨x, H1, I1, r1, q1⟩ => ?_)
  refine wpAny_Slice (thn (hl pins s1 σ H1 _ I1 q1) fun vl s2 ⟨l, H2, I2, pl, q2⟩ => thn (hu pins s2 σ H2 _ I2 q2) fun vu s3 ⟨u, H3, I3, pu, q3⟩ => ?_)
  rw [evalPart_none]
  refine wpAny_pure ?_
  have I4 : Inv X pins σ H3 { s3 with heap := s3.heap.push { cls := .type "slice", data := .fields #[vl, vu, .none] } } := I3.kept (t' := s3.toks) fun b ob q => Heap.get?_push_of_some _ q
  obtain ⟨T, id, hT, ht, hg⟩ := hr pins { s3 with heap := s3.heap.push { cls := .type "slice", data := .fields #[vl, vu, .none] } } σ H3 x v vl vu l u s3.heap.objs.size Q I4 r1 (Heap.IsSliceOf.new ..) pl pu q3
  show wpAny (model X.prog X.w) X.A (subscriptTail e (.Slice lo hi none p2) v (.ref s3.heap.objs.size)) (EP X pins σ Q) X.xe { s3 with heap := s3.heap.push { cls := .type "slice", data := .fields #[vl, vu, .none] } }
  exact tail_any (ops := [.ref s3.heap.objs.size, v]) ht hT hg (by with_unfolding_all rfl)
def cutV (xs : List V) (lo hi : Option Int) : List V := (xs.drop (HT.sIx xs.length 0 lo)).take (HT.sIx xs.length xs.length hi - HT.sIx xs.length 0 lo)
theorem cutV_length (xs : List V) (lo hi : Option Int) : (cutV xs lo hi).length ≤ xs.length := by
  unfold cutV
  rw [List.length_take, List.length_drop]
  omega
end
end L2
namespace L2
open PySem PySem.Spec PyProof.Rows
def ixN (n : Nat) (i : Int) : Option Nat := if 0 ≤ i then (if i < n then some i.toNat else none) else if -(n : Int) ≤ i then some (i + n).toNat else none
def atI {α : Type} (xs : List α) (i : Int) : Option α := (ixN xs.length i).bind fun j => xs[j]?
theorem ixN_seq {n : Nat} {i : Int} {j : Nat} (h : ixN n i = some j) : seqIndex? i n = some j ∧ j < n ∧ -(n : Int) ≤ i ∧ i < n := by
  unfold ixN at h
  by_cases h0 : 0 ≤ i
  · rw [if_pos h0] at h
    by_cases h1 : i < n
    · rw [if_pos h1] at h
      have e : i.toNat = j := Option.some.inj h
      exact ⟨by rw [seqIndex_of h0 h1, e], by omega, by omega, h1⟩
    · rw [if_neg h1] at h; cases h
  · rw [if_neg h0] at h
    by_cases h1 : -(n : Int) ≤ i
    · rw [if_pos h1] at h
      have e : (i + n).toNat = j := Option.some.inj h
      exact ⟨by rw [seqIndex_neg (by omega) h1, e], by omega, h1, by omega⟩
    · rw [if_neg h1] at h; cases h
theorem atI_get {α : Type} {xs : List α} {i : Int} {v : α} (h : atI xs i = some v) : ∃ j, seqIndex? i xs.length = some j ∧ xs[j]? = some v ∧ j < xs.length ∧ -(xs.length : Int) ≤ i ∧ i < xs.length := by
  unfold atI at h
  cases e : ixN xs.length i with
  | none => rw [e] at h; cases h
  | some j =>
    rw [e] at h
    obtain ⟨h1, h2, h3, h4⟩ := ixN_seq e
    exact ⟨j, h1, h, h2, h3, h4⟩
theorem atI_nat {α : Type} {xs : List α} {j : Nat} {v : α} (h : xs[j]? = some v) : atI xs (j : Int) = some v := by
  have hj : j < xs.length := (List.getElem?_eq_some_iff.mp h).1
  have e : ixN xs.length (j : Int) = some j := by
    unfold ixN
    rw [if_pos (by omega), if_pos (by omega)]; simp
  unfold atI; rw [e]; exact h
def PlainIx (b : Expr) : Prop := ∀ o i, subscripted b false o i = operate [o, i] (getItem o i)
def IxR (X : Cx) (r : R2) : Prop :=
  ∀ (value slice : Expr) (pins : List (Addr × Obj)) (s : Shared) (σ : St) (H : Hp) (x y : V) (v u : Value) (Q : VK), Inv X pins σ H s → RelV x v → RelV y u → r x y H Q →
    subscripted slice false v u = operate [v, u] (getItem v u) → wpAny (model X.prog X.w) X.A (subscriptTail value slice v u) (EP X pins σ Q) X.xe s
def MtR (X : Cx) (id : String) (r : V → List V → Hp → VK → Prop) : Prop :=
  ∀ (pins : List (Addr × Obj)) (s : Shared) (σ : St) (H : Hp) (x : V) (xs : List V) (v : Value) (us : List Value) (Q : VK), Inv X pins σ H s → RelV x v → Vals xs us → r x xs H Q →
    wpAny (model X.prog X.w) X.A (call (.builtin id) (v :: us)) (EP X pins σ Q) X.xe s
section
variable {X : Cx} {a b : Expr} {ta tb : TE} {pos : Pos}
theorem IxR.or {r r' : R2} (h : IxR X r) (h' : IxR X r') : IxR X (fun x y H Q => r x y H Q ∨ r' x y H Q) := by
  intro value slice pins s σ H x y v u Q I rx ry q hs
  rcases q with q | q
  · exact h value slice pins s σ H x y v u Q I rx ry q hs
  · exact h' value slice pins s σ H x y v u Q I rx ry q hs
theorem pe_ix {r : R2} (hr : IxR X r) (ha : PE X a ta) (hb : PE X b tb) (hs : PlainIx b) : PE X (.Subscript a b pos) (tOp r ta tb) := by
  intro pins s σ H Q I h
  exact Subscript_ (binT ha hb I h fun v u s2 x y H2 I2 rx ry q => hr a b pins s2 σ H2 x y v u Q I2 rx ry q (hs _ _))
def rIxL (K : PySem.W.Frag) : R2 := fun x y H Q => ∃ p xs i v, x = .ref p ∧ y = .int i ∧ SqL K H p xs ∧ atI xs i = some v ∧ Q v H
def rIxT (K : PySem.W.Frag) : R2 := fun x y H Q => ∃ p xs i v, x = .ref p ∧ y = .int i ∧ SqT K H p xs ∧ atI xs i = some v ∧ Q v H
def rIxS : R2 := fun x y H Q => ∃ z i c, x = .str z ∧ y = .int i ∧ z.length ≤ sizeLine ∧ atI z.cps.toList i = some c ∧ Q (.str ⟨#[c]⟩) H
theorem ix_list : IxR X (rIxL X.K) := by
  intro value slice pins s σ H x y v u Q I rx ry h hs
  obtain ⟨p, xs, i, z, rfl, rfl, hq, he, q⟩ := h
  cases rx
  obtain ⟨t, rfl⟩ := ry
  obtain ⟨its, r, pl, hz⟩ := I.list hq
  obtain ⟨j, h1, h2, h3, h4, h5⟩ := atI_get he
  obtain ⟨w, ew, rw'⟩ := r.get h2
  have hl := r.length
  have hn := line63
  have fin : EP X pins σ Q w s := ⟨z, H, I, rw', q⟩
  by_cases h0 : 0 ≤ i
  · have hj : i.toNat = j := by
      rw [seqIndex_of h0 h5] at h1
      exact Option.some.inj h1
    exact item_listR pl.isList h0 (by omega) (by rw [hj]; simpa using ew) fin hs
  · have hj : (i + (its.toArray.size : Int)).toNat = j := by
      rw [seqIndex_neg (by omega) h4] at h1
      rw [List.size_toArray, ← hl]
      exact Option.some.inj h1
    exact subscriptTail_builtinR (x := w) pl.isList.typeIs slot_list_getitem.lookup
      (wpAny_getItem_list_neg (Q := fun r s' => r = w ∧ EP X pins σ Q r s') pl.isList (by omega) (by rw [List.size_toArray] <;> omega) (by omega) (by rw [hj]; simpa using ew) ⟨rfl, fin⟩) hs
theorem ix_tup : IxR X (rIxT X.K) := by
  intro value slice pins s σ H x y v u Q I rx ry h hs
  obtain ⟨p, xs, i, z, rfl, rfl, hq, he, q⟩ := h
  cases rx
  obtain ⟨t, rfl⟩ := ry
  obtain ⟨its, r, pl, hz⟩ := I.tuple hq
  obtain ⟨j, h1, h2, h3, h4, h5⟩ := atI_get he
  obtain ⟨w, ew, rw'⟩ := r.get h2
  have hl := r.length
  have hn := line63
  have fin : EP X pins σ Q w s := ⟨z, H, I, rw', q⟩
  exact subscriptTail_builtinR (x := w) pl.typeIs slot_tuple_getitem.lookup
    (getItem_tuple (j := j) (Q := fun r s' => r = w ∧ EP X pins σ Q r s') pl (by omega) (by omega) (by rw [List.size_toArray, ← hl]; exact h1) (by simpa using ew) ⟨rfl, fin⟩) hs
theorem ix_str : IxR X rIxS := by
  intro value slice pins s σ H x y v u Q I rx ry h hs
  obtain ⟨z, i, c, rfl, rfl, hz, he, q⟩ := h
  obtain ⟨t, rfl⟩ := rx
  obtain ⟨t', rfl⟩ := ry
  obtain ⟨j, h1, h2, h3, h4, h5⟩ := atI_get he
  have hl : z.cps.toList.length = z.length := by simp [Str.length]
  rw [hl] at h1 h4 h5
  have hn := line63
  exact tail_any (typeIs_str s z t) slot_str_getitem.lookup (getItem_str (c := c) (by
    have e1 : decide (i < -(2 ^ 63 : Int)) = false := decide_eq_false (by omega)
    have e2 : decide (i ≥ 2 ^ 63) = false := decide_eq_false (by omega)
    rw [e1, e2, Bool.or_false]) (by rw [h1]; simpa using h2) ⟨.str ⟨#[c]⟩, H, I.tok _, ⟨_, rfl⟩, q⟩) hs
def rIx (K : PySem.W.Frag) : R2 := fun x y H Q => rIxL K x y H Q ∨ rIxT K x y H Q ∨ rIxS x y H Q
theorem ix_seq : IxR X (rIx X.K) := ix_list.or (ix_tup.or ix_str)
theorem slice_bounds (lo hi : Option Int) (n : Nat) : (sliceBounds lo hi none n).1 = ((HT.sIx n 0 lo : Nat) : Int) ∧ (sliceBounds lo hi none n).2.1 = ((HT.sIx n n hi : Nat) : Int) ∧ (sliceBounds lo hi none n).2.2 = 1 := by
  refine ⟨?_, ?_, rfl⟩
  · cases lo with
    | none => simp [sliceBounds, HT.sIx]
    | some i =>
      simp only [sliceBounds, HT.sIx, Option.getD_none, show (1 : Int) > 0 by decide, if_true]
      by_cases h : i < 0
      · simp only [h, if_true] <;> omega
      · simp only [h, if_false] <;> omega
  · cases hi with
    | none => simp [sliceBounds, HT.sIx]
    | some i =>
      simp only [sliceBounds, HT.sIx, Option.getD_none, show (1 : Int) > 0 by decide, if_true]
      by_cases h : i < 0
      · simp only [h, if_true] <;> omega
      · simp only [h, if_false] <;> omega
theorem slicePick_cut (its : List Value) (lo hi : Option Int) : slicePick its.toArray lo hi none = ((its.drop (HT.sIx its.length 0 lo)).take (HT.sIx its.length its.length hi - HT.sIx its.length 0 lo)).toArray := by
  obtain ⟨h1, h2, h3⟩ := slice_bounds lo hi its.toArray.size
  unfold slicePick
  rw [h1, h2, h3]
  simp only [sliceRange_one, pick_run, List.size_toArray] <;> rfl
def rSlL (K : PySem.W.Frag) : V → Option Int → Option Int → Hp → VK → Prop := fun x lo hi H Q => ∃ a xs, x = .ref a ∧ SqL K H a xs ∧ ∀ p, H p = none → Q (.ref p) (upd H p (.lst (cutV xs lo hi)))
theorem sl_list : SlR X (rSlL X.K) := by
  intro pins s σ H x v vl vu lo hi sl Q I rx hs pl pu h
  obtain ⟨a, xs, rfl, hx, q⟩ := h
  cases rx
  obtain ⟨its, r, ht, hz⟩ := I.list hx
  have hlen := r.length
  refine ⟨"list", _, slot_list_getitem.lookup, ht.isList.typeIs, ?_⟩
  refine wpAny_getItem_list_slice ht.isList hs pl pu .none (by simp) ?_ (by rw [List.size_toArray] <;> omega)
  rw [slicePick_cut, ← hlen]
  refine ⟨.ref s.heap.objs.size, _, I.laid (t' := s.toks) (o := .lst (cutV xs lo hi)) (fun b ob q => Heap.get?_push_of_some _ q) (Nat.le_refl _) ?_, rfl, q _ (I.hok.fresh (Nat.le_refl _))⟩
  exact ⟨Nat.le_trans (cutV_length xs lo hi) hz, _, 0, (r.drop (HT.sIx xs.length 0 lo)).take (HT.sIx xs.length xs.length hi - HT.sIx xs.length 0 lo), Heap.get?_push_size _ rfl⟩
theorem call_len_seq : CallR X (.builtin "len") (fun xs H Q => ∃ p ys, xs = [.ref p] ∧ (SqL X.K H p ys ∨ SqT X.K H p ys) ∧ Q (.int ys.length) H) := by
  intro pins s σ H xs us Q I r h
  obtain ⟨p, ys, rfl, hq, q⟩ := h
  obtain ⟨u, rfl, rx⟩ := vals1 r
  cases rx
  have hn := line63
  rcases hq with hq | hq
  · obtain ⟨its, r', pl, hz⟩ := I.list hq
    have hlen := r'.length
    exact Calls.call_len_list pl.isList (by simp only [List.size_toArray] <;> omega) ⟨.int ys.length, H, I.tok _, ⟨s.toks + 1, by rw [List.size_toArray, hlen]⟩, q⟩
  · obtain ⟨its, r', pl, hz⟩ := I.tuple hq
    have hlen := r'.length
    exact len_tuple pl (by simp only [List.size_toArray] <;> omega) ⟨.int ys.length, H, I.tok _, ⟨s.toks + 1, by rw [List.size_toArray, hlen]⟩, q⟩
theorem call_len_str : CallR X (.builtin "len") (fun xs H Q => ∃ z, xs = [.str z] ∧ z.length ≤ sizeLine ∧ Q (.int z.length) H) := by
  intro pins s σ H xs us Q I r h
  obtain ⟨z, rfl, hz, q⟩ := h
  obtain ⟨u, rfl, t, rfl⟩ := vals1 r
  have hn := line63
  exact len_str (by omega) ⟨.int z.length, H, I.tok _, ⟨_, rfl⟩, q⟩
theorem CallR.or {f : Value} {r r' : List V → Hp → VK → Prop} (h : CallR X f r) (h' : CallR X f r') : CallR X f (fun xs H Q => r xs H Q ∨ r' xs H Q) := by
  intro pins s σ H xs us Q I rs q
  rcases q with q | q
  · exact h pins s σ H xs us Q I rs q
  · exact h' pins s σ H xs us Q I rs q
def tyV (K : PySem.W.Frag) (T : String) (x : V) (H : Hp) : Prop := match x with
  | .str _ => T = "str"
  | .int _ => T = "int"
  | .ref p => (T = "list" ∧ ∃ xs, SqL K H p xs) ∨ (T = "tuple" ∧ ∃ o, K.lookup p = some o ∧ o.cls = .type "tuple" ∧ o.dict = none) ∨
      (T = "dict" ∧ ((∃ kvs, H p = some (.dK kvs)) ∨ ∃ kvs, H p = some (.dT kvs))) ∨ (T = "set" ∧ ∃ S n, H p = some (.set S n))
  | _ => False
theorem tyV_is {pins : List (Addr × Obj)} {σ : St} {H : Hp} {s : Shared} {T : String} {x : V} {v : Value} (I : Inv X pins σ H s) (r : RelV x v) (ty : tyV X.K T x H) :
    s.TypeIs v T ∧ ∀ a, v = .ref a → ∃ ob, s.heap.get? a = some ob ∧ ob.dict = none := by
  cases x with
  | str z =>
    obtain ⟨t, rfl⟩ := r
    cases (show T = "str" from ty)
    exact ⟨typeIs_str s z t, fun _ e => nomatch e⟩
  | int i =>
    obtain ⟨t, rfl⟩ := r
    cases (show T = "int" from ty)
    exact ⟨typeIs_int s i t, fun _ e => nomatch e⟩
  | ref p =>
    cases r
    rcases ty with ⟨rfl, xs, hq⟩ | ⟨rfl, o, hk, hc, hd⟩ | ⟨rfl, hk⟩ | ⟨rfl, S, n, hk⟩
    · obtain ⟨its, _, pl, _⟩ := I.list hq
      refine ⟨pl.isList.typeIs, fun a e => ?_⟩
      cases e
      obtain ⟨o, n, e, c, hd, _⟩ := pl
      exact ⟨o, e, hd⟩
    · refine ⟨⟨o, I.kIn p o hk, hc⟩, fun a e => ?_⟩
      cases e
      exact ⟨o, I.kIn _ o hk, hd⟩
    · have z : ∃ o, s.heap.get? p = some o ∧ o.ExactDict := by
        rcases hk with ⟨kvs, hk⟩ | ⟨kvs, hk⟩
        · obtain ⟨_, _, _, _, o, _, _, e, ex, _⟩ := I.hok p _ hk
          exact ⟨o, e, ex⟩
        · obtain ⟨_, _, _, _, o, _, _, e, ex, _⟩ := I.hok p _ hk
          exact ⟨o, e, ex⟩
      obtain ⟨o, e, ex⟩ := z
      refine ⟨⟨o, e, ex.1⟩, fun a e2 => ?_⟩
      cases e2
      exact ⟨o, e, ex.2.1⟩
    · obtain ⟨o, _, _, _, e, ex, _⟩ := I.hok p _ hk
      refine ⟨⟨o, e, ex.1⟩, fun a e2 => ?_⟩
      cases e2
      exact ⟨o, e, ex.2.1⟩
  | _ => exact False.elim ty
def tBM (K : PySem.W.Frag) (T : String) (r : V → List V → Hp → VK → Prop) (to : TE) (t : TA) : TE := fun σ H Q => to σ H fun x H1 => tyV K T x H1 ∧ t σ H1 fun xs H2 => r x xs H2 Q
variable {o e : Expr} {es : List Expr} {to : TE} {t : TA} {name : Str} {apos cpos : Pos} {T id : String} {r : V → List V → Hp → VK → Prop}
theorem pe_bm (pa : PlainAttrs T) (slot : Slot T name id) (hty : typeOf (.builtin id) = pure (.type "method_descriptor")) (hm : MtR X id r) (ho : PE X o to) (ha : PA X (e :: es) t)
    (hbase : attributeBase o name X.env (eval o X.env) = eval o X.env := by rfl)
    (hfew : ((backTo cpos (starEach (e :: es) X.env)).all (fun x => !x.1) && (backToKw cpos (keywordEach [] X.env)).all (fun x => x.1.isSome)
      && decide ((e :: es).length + ([] : List Keyword).length + (if ([] : List Keyword).isEmpty then 0 else 1) < 30)) = true := by rfl)
    (hline : (apos.endLine == cpos.line) = true := by rfl) (hs : starEach (e :: es) X.env = (false, eval e X.env) :: starEach es X.env := by rfl) (hplain : (backTo cpos (starEach es X.env)).any (·.1) = false := by rfl) :
    PE X (.Call (.Attribute o name apos) (e :: es) [] cpos) (tBM X.K T r to t) := by
  intro pins s σ H Q I h
  refine wpAny_Call_method_late hbase hfew hline rfl (thn (ho pins s σ H _ I h) fun v s1 ⟨x, H1, I1, r1, ty, q1⟩ => ?_)
  obtain ⟨h1, h2⟩ := tyV_is I1 r1 ty
  refine ⟨T, id, pa, slot, hty, h1, h2, ?_⟩
  have hA := ha cpos pins s1 σ H1 _ I1 q1
  rw [hs] at hA ⊢
  refine Calls.callWith_builtin (by show (false || (backTo cpos (starEach es X.env)).any (·.1)) = false; rw [hplain] <;> rfl) (Calls.evalArgs_plain ?_)
  exact thn hA fun us s2 ⟨vs, H2, I2, r2, q2⟩ => hm pins s2 σ H2 x vs v us Q I2 r1 r2 q2
end
end L2
namespace L2
open PySem PySem.Spec PyProof.Rows
def MtM (X : Cx) (id : String) (r : V → List V → Hp → VK → Prop) : Prop :=
  ∀ (pins : List (Addr × Obj)) (s : Shared) (σ : St) (H : Hp) (x : V) (xs : List V) (v : Value) (us : List Value) (Q : VK), Inv X pins σ H s → RelV x v → Vals xs us → r x xs H Q →
    wpAny (model X.prog X.w) X.A (call (.builtin id) (v :: us)) (EP X pins σ Q) X.xe s
theorem Vals.one : ∀ {x : V} {us : List Value}, Vals [x] us → ∃ u, us = [u] ∧ RelV x u
  | _, _, .cons r .nil => ⟨_, rfl, r⟩
section
variable {X : Cx} {pins : List (Addr × Obj)} {σ : St} {H : Hp} {s : Shared} {l b : Addr} {xs ys zs : List V}
theorem Inv.lset {its its' : List Value} {n : Nat} {f : Array Value → Array Value} {t' : Nat} (I : Inv X pins σ H s) (hH : H l = some (.lst xs))
    (e : s.heap.get? l = some { cls := .type "list", data := .seq its.toArray n }) (hf : f its.toArray = its'.toArray) (hv : Vals ys its') (hz : ys.length ≤ sizeLine) :
    Inv X pins σ (upd H l (.lst ys)) { s with heap := s.heap.update l (Obj.mapSeq f), toks := t' } := by
  have q := PySem.IsL.update e f
  rw [hf] at q
  refine I.write (x := l) (e := l) (by rw [hH]; exact trivial) (.inl rfl) (fun b' u hb hu => (Heap.get?_update_other s.heap (Obj.mapSeq f) (Ne.symm hb)).trans hu) ⟨_, q⟩ ?_
  exact ⟨hz, its', _, hv, q⟩
theorem Inv.lnew {its : List Value} {t' : Nat} (I : Inv X pins σ H s) (hv : Vals ys its) (hz : ys.length ≤ sizeLine) :
    Inv X pins σ (upd H s.heap.objs.size (.lst ys)) { s with heap := s.heap.push { cls := .type "list", data := .seq its.toArray }, toks := t' } :=
  I.laid (fun _ _ q => Heap.get?_push_of_some _ q) (Nat.le_refl _) ⟨hz, its, 0, hv, Heap.get?_push_size _ rfl⟩
theorem Inv.fresh (I : Inv X pins σ H s) : H s.heap.objs.size = none := I.hok.fresh (Nat.le_refl _)
theorem Inv.lstM (I : Inv X pins σ H s) (hH : H l = some (.lst xs)) : xs.length ≤ sizeLine ∧ ∃ (its : List Value) (n : Nat), Vals xs its ∧ xs.length = its.length ∧ s.heap.get? l = some { cls := .type "list", data := .seq its.toArray n } := by
  obtain ⟨z, its, n, r, e⟩ := I.hok l _ hH
  exact ⟨z, its, n, r, r.length, e⟩
theorem notLongL {n : Nat} (h : n ≤ sizeLine) : Builtin.List.listTooLong n = false := by
  unfold Builtin.List.listTooLong
  exact decide_eq_false (by omega)
end
section
variable {X : Cx}
def rAppend : V → List V → Hp → VK → Prop := fun x vs H Q => ∃ l xs y, x = .ref l ∧ vs = [y] ∧ H l = some (.lst xs) ∧ xs.length < sizeLine ∧ Q .non (upd H l (.lst (xs ++ [y])))
theorem mt_append : MtM X "list.append" rAppend := by
  intro pins s σ H x vs v us Q I rx rv h
  obtain ⟨l, xs, y, rfl, rfl, hH, hz, q⟩ := h
  cases rx
  obtain ⟨u, rfl, ru⟩ := rv.one
  obtain ⟨z, its, n, r, hl, e⟩ := I.lstM hH
  refine call_meets F.slot_list_append ⟨_, e, rfl⟩ F.entry_list_append (F.args_list_append_2 _ _) (PySem.list_append l its.toArray n u (by rw [List.size_toArray]; omega)) ⟨e, ?_⟩
  refine ⟨.non, _, I.lset (its' := its ++ [u]) hH e (by simp) (r.append (.cons ru .nil)) ?_, rfl, q⟩
  rw [List.length_append, List.length_singleton]
  omega
def rExtend : V → List V → Hp → VK → Prop := fun x vs H Q => ∃ l b xs zs, x = .ref l ∧ vs = [.ref b] ∧ H l = some (.lst xs) ∧ H b = some (.lst zs) ∧ xs.length + zs.length ≤ sizeLine ∧ Q .non (upd H l (.lst (xs ++ zs)))
theorem mt_extend : MtM X "list.extend" rExtend := by
  intro pins s σ H x vs v us Q I rx rv h
  obtain ⟨l, b, xs, zs, rfl, rfl, hH, hB, hz, q⟩ := h
  cases rx
  obtain ⟨u, rfl, ru⟩ := rv.one
  cases ru
  obtain ⟨z, its, n, r, hl, e⟩ := I.lstM hH
  obtain ⟨z2, its2, n2, r2, hl2, e2⟩ := I.lstM hB
  have hsz : its.toArray.size + its2.toArray.size ≤ sizeLine := by rw [List.size_toArray, List.size_toArray]; omega
  have hlong : ¬ (!its.toArray.isEmpty && Builtin.List.listTooLong (its.toArray.size + its2.toArray.size)) = true := by
    rw [notLongL hsz, Bool.and_false]
    exact Bool.false_ne_true
  refine call_meets F.slot_list_extend ⟨_, e, rfl⟩ F.entry_list_extend (F.args_list_extend_2 _ _)
    (AutoSeq1.list_extend_list_list_0 l its.toArray n b its2.toArray n2 hlong (by rw [List.size_toArray]; omega) (by omega)) ⟨e, e2, ?_⟩
  refine ⟨.non, _, I.lset (its' := its ++ its2) hH e (by simp) (r.append r2) ?_, rfl, q⟩
  rw [List.length_append]
  omega
end
section
variable {prog : Program} {w : World} {A : Around} {E : Value → Shared → Prop} {s : Shared}
end
section
variable {X : Cx}
end
end L2
namespace Att
open PySem PySem.W PySem.Calls PyProof.Rows
theorem ints_of_wellAll {P : Params} {h : Heap} : ∀ (ns : List Int) (vs : List Value), WellAll P h vs (ns.map WData.int) → IntsAre vs ns := by
  intro ns
  induction ns with
  | nil =>
    intro vs w
    rw [List.map_nil] at w
    cases w
    exact .nil
  | cons n ns ih =>
    intro vs w
    rw [List.map_cons] at w
    cases w with
    | cons a b =>
      cases a
      exact .cons _ _ (ih _ b)
theorem script_of {l : OpenLaw} {n : Nat} (hn : l.most = some n) {P : Params} {h : Heap} {args : List WData} {vals : List Value}
    (hpre : l.row.toRowW.claim.pre args = true) (hwl : WellAll P h vals args) :
    ∃ a vs ns, vals = [Value.ref a] ∧ args = [WData.list (ns.map WData.int)] ∧ h.get? a = some { cls := .type "list", data := .seq vs.toArray } ∧ IntsAre vs ns ∧ ns.length ≤ n := by
  have hsh : WShape.hasAll [] args [.list .int] = true := (pre_splitW hpre).1
  have hc : l.pre.holds [] { args := args } = true := (pre_splitW hpre).2
  obtain ⟨d, r, rfl, h1, h2⟩ := hasAllW_cons hsh
  obtain rfl := hasAllW_nil h2
  obtain ⟨xs, rfl, h3⟩ := hasW_list h1
  obtain ⟨ns, rfl⟩ := items_int h3
  have hlen : ns.length ≤ n := by
    unfold OpenLaw.pre at hc
    have h4 : (WTm.not (.lt (.lit (.int (n : Int))) (.len (.arg 0)))).holds [] { args := [.list (ns.map .int)] } = true := by
      have h4 := (holds_andW hc).1
      rw [hn] at h4
      exact h4
    have h5 := condW_of h4 (w_not (w_lt w_lit (w_len_list (w_arg rfl))))
    rw [List.length_map] at h5
    refine Nat.le_of_not_lt fun q => ?_
    have q' : (n : Int) < ((ns.length : Nat) : Int) := by omega
    first
      | (rw [decide_eq_true q'] at h5; exact absurd h5 (by decide))
      | (simp at h5; omega)
  cases hwl with
  | cons w1 w2 =>
    cases w2
    cases w1 with
    | list ho hall => exact ⟨_, _, ns, rfl, rfl, ho, ints_of_wellAll ns _ hall, hlen⟩
theorem post_true (l : OpenLaw) (args : List WData) : l.row.toRowW.claim.post args (.bool true) args = true :=
  postW_of (r := l.row.toRowW) (X := (true == true))
    (show WShape.has [] (.bool true) .bool = true by first | rfl | decide | simp [WShape.has, WShape.arms, WShape.armsAll])
    (show (WTm.eq .res (.lit (.bool true))).value [] { args := args, res := some (.bool true), after := args } = some (.bool (true == true)) from w_eq_bool (w_res rfl) w_lit) rfl
section
variable {prog : Program} {w : World} {A : Around} {E : Value → Shared → Prop} {s : Shared} {K : Frag}
end
end Att
namespace L2
open PySem PySem.Spec PyProof.Rows
theorem vals_ints : ∀ {vs : List Value} {ns : List Int}, IntsAre vs ns → Vals (ns.map V.int) vs
  | _, _, .nil => .nil
  | _, _, .cons n t h => .cons ⟨t, rfl⟩ (vals_ints h)
def Only (H : Hp) : Prop := ∀ b, H b = none ∨ ∃ o xs, H b = some (.frz o (.lst xs))
theorem law_call {P : Program} {w : World} {K : PySem.W.Frag} {mg mb : Str → Option Value} {CX : CXT} {k : Nat} {fa a : Addr} {fd : FuncData} {x : Str} {sp : Sp} {s₁ : Shared} {vs : List Value} {ns : List Int}
    (KX : K.In s₁.heap) (hns : s₁.heap.Ns mainGlobals mg) (hb : s₁.heap.Ns builtinsNs mb) (hbb : ∀ x : Str, x ≠ "__name__" → mb x = bootBuiltins x) (hlim : s₁.heap.NoLimit) (hg : s₁.gens = #[])
    (ha : s₁.heap.get? a = some { cls := .type "list", data := .seq vs.toArray }) (hi : IntsAre vs ns) (hl : ns.length ≤ sizeLine) (hr : Room k callerA)
    (F : ∀ base : Heap, K.In base → base.Ns mainGlobals mg → FnOk P w K mg base CX k fa fd [x] sp) (hbind : ∀ (s : Shared) (u : Value), BindsTo s fd ⟨[u], []⟩ [(x, u)])
    (hsp : ∀ H : Hp, Only H → SqL K H a (ns.map V.int) → sp [.ref a] H (fun v _ => v = .bl true) fun _ _ _ => False)
    (hCX : ∀ H e s', CX [] H s₁ (fun _ _ _ => False) e s' → False) :
    codeAny (model P w) callerA (.call (.ref fa) ⟨[.ref a], []⟩) (fun r s' => r = .ok (.ret (.bool true)) ∧ OldK s₁.heap s'.heap ∧ s'.os = s₁.os ∧ AllBare s'.gens) s₁ := by
  have rv := vals_ints hi
  have lenV := hi.length
  -- from an abstract heap in which nothing but the script may be tracked
  have core : ∀ H : Hp, Only H → SqL K H a (ns.map V.int) → HOk P w H s₁.heap → (∀ b, H b ≠ none → b = a) → (H a ≠ none → K.lookup a = none) →
      codeAny (model P w) callerA (.call (.ref fa) ⟨[.ref a], []⟩) (fun r s' => r = .ok (.ret (.bool true)) ∧ OldK s₁.heap s'.heap ∧ s'.os = s₁.os ∧ AllBare s'.gens) s₁ := by
    intro H hO hS hok hA hK
    have base_of : ∀ {b : Addr} {o : Obj}, s₁.heap.get? b = some o → H b = none → (hidT s₁.heap H).get? b = some o := fun e n => hidT_get e n
    have noA : ∀ {b : Addr} {o : Obj} {es : Array DictEntry} {ep : Nat}, s₁.heap.get? b = some o → o.data = .dict es ep → H b = none := fun {b o es ep} e d => by
      cases q : H b with
      | none => rfl
      | some u =>
        have e' : b = a := hA b (by rw [q]; simp)
        subst e'
        rw [ha] at e; cases e
        have d' : Data.seq vs.toArray _ = Data.dict es ep := d
        cases d'
    have nsK : ∀ {b : Addr} {m : Str → Option Value}, s₁.heap.Ns b m → (hidT s₁.heap H).Ns b m := fun {b m} ⟨o, es, ep, e, d, r⟩ => ⟨o, es, ep, base_of e (noA e d), d, r⟩
    have hKb : K.In (hidT s₁.heap H) := fun b o e => base_of (KX b o e) (by
      cases q : H b with
      | none => rfl
      | some u =>
        have e' : b = a := hA b (by rw [q]; simp)
        subst e'
        rw [hK (by rw [q]; simp)] at e; cases e)
    have hM : Mod K mg (hidT s₁.heap H) := ⟨hKb, nsK hns, ⟨mb, nsK hb, hbb⟩, let ⟨mc, h1, h2⟩ := hlim; ⟨mc, nsK h1, h2⟩⟩
    have e0 : Env0 P w K mg (hidT s₁.heap H) callerA [] s₁ H := ⟨rfl, hM, fun b o e => of_hidT e, Nat.le_of_eq (hidT_size _ _), trivial, fun b hb => absurd (show b ∈ ([] : List Addr) from hb) (by simp), hok, .of_eq hg⟩
    refine codeAny_mono ((F _ hKb (nsK hns)).run callerA [] s₁ H ⟨[.ref a], []⟩ [.ref a] [.ref a] _ _ hr e0 (hbind s₁ (.ref a)) (.cons rfl .nil) (hsp H hO hS)) fun r s' h => ?_
    cases r with
    | error e => exact (hCX H e s' h).elim
    | ok fl =>
      cases fl with
      | next => exact False.elim h
      | brk => exact False.elim h
      | cont => exact False.elim h
      | ret u =>
        obtain ⟨v, H', os, bare, un, hok', r', q⟩ := h
        have q' : v = .bl true := q
        subst q'
        obtain rfl : u = Value.bool true := r'
        refine ⟨rfl, OldK.of_keep fun b o e => ?_, os, bare⟩
        cases q : H b with
        | none => exact un.keep b o e q (by intro z; exact absurd (show b ∈ ([] : List Addr) from z) (by simp)) (by simp)
        | some u =>
          rcases hO b with z | ⟨ob, xs, z⟩
          · rw [q] at z; cases z
          · have z2 := un.frzs b ob _ z
            obtain ⟨e1, _⟩ := hok b _ z
            obtain ⟨e2, _⟩ := hok' b _ z2
            rw [e] at e1; cases e1
            exact e2
  cases hk : K.lookup a with
  | some o =>
    -- the script is one of the module's own objects
    have e := KX a o hk
    rw [ha] at e
    cases e
    refine core (fun _ => none) (fun _ => .inl rfl) (.inr ⟨_, vs.toArray, _, hk, rfl, rfl, rfl, by rw [List.size_toArray, lenV]; exact hl, by simpa using rv⟩) (fun b u z => by have z' : (none : Option HO) = some u := z; cases z') (fun b z => absurd rfl z) fun z => absurd rfl z
  | none =>
    refine core (fun b => if b = a then some (.frz { cls := .type "list", data := .seq vs.toArray } (.lst (ns.map V.int))) else none) (fun b => ?_) (.inl (.inr ⟨{ cls := .type "list", data := .seq vs.toArray }, if_pos rfl⟩)) (fun b u z => ?_) (fun b z => ?_) fun _ => hk
    · by_cases hb : b = a
      · exact .inr ⟨_, _, if_pos hb⟩
      · exact .inl (if_neg hb)
    · by_cases hb : b = a
      · have z' := (if_pos hb).symm.trans z
        cases z'
        subst hb
        exact ⟨ha, by rw [List.length_map]; exact hl, vs, _, rv, ha⟩
      · have z' := (if_neg hb).symm.trans z
        cases z'
    · by_cases hb : b = a
      · exact hb
      · exact absurd (if_neg hb) z
end L2
namespace L2
open PySem PySem.Spec PyProof.Rows
end L2
namespace L2
open PySem PySem.Spec PyProof.Rows
def defArgs (s : Stmt) : Arguments := match s with
  | .FunctionDef _ a _ _ _ _ _ _ _ _ => a
  | _ => { posonlyargs := [], args := [], vararg := none, kwonlyargs := [], kw_defaults := [], kwarg := none, defaults := [] }
def defBody (s : Stmt) : List Stmt := match s with
  | .FunctionDef _ _ b _ _ _ _ _ _ _ => b
  | _ => []
def defScope (s : Stmt) : Scope := match s with
  | .FunctionDef _ _ _ _ _ _ sc _ _ _ => sc
  | _ => { kind := .function, names := [], isGenerator := false, isCoroutine := false }
abbrev CX0 : CXT := fun _ _ _ _ _ _ => False
abbrev E0 : XK := fun _ _ _ => False
theorem pass0 {X : Cx} : Passes CX0 X E0 := fun _ _ _ _ _ _ _ h => h.elim
structure Fun (K : PySem.W.Frag) (x qual : Str) (st : Stmt) (f : Addr) (fd : FuncData) : Prop where
  ex : ∃ (oc : Value) (od : Option Addr) (kV doc pm : Value) (an : Option Addr) (cdv ct : Value) (osl : Array (Option Value)),
    fd = PySem.W.fnOf x qual (defArgs st) (defBody st) (defScope st) .none kV doc pm an cdv ct ∧ K.lookup f = some ⟨oc, od, .func fd, osl⟩ ∧ PySem.W.codeIn K cdv qual = true
  kp : PySem.W.keepIn K (.ref f) = true
section
variable {P : Program} {w : World} {K : PySem.W.Frag} {mg : Str → Option Value} {base : Heap}
theorem Fun.ok {x qual : Str} {st : Stmt} {f : Addr} {fd : FuncData} {N ps : List Str} {k : Nat} {sp : Sp} (F : Fun K x qual st f fd) (S : FnScope N ps (defScope st)) (len : ∀ vs H Q E, sp vs H Q E → vs.length = ps.length)
    (hbody : ∀ (cdv : Value) (A : Around) (outer : List Env) (s : Shared) (H : Hp) (vs : List V) (Q : VK) (E : XK), Room k (A.deeper (envOfC qual (defScope st) s.heap.objs.size f cdv)) → sp vs H Q E →
      ∃ t, PSs (cxOf CX0 P w K mg base N qual (defScope st) f cdv A outer s H E).nox (defBody st) t ∧ t { nx := fun _ H' => Q .non H', rt := Q } (start N vs) H) : FnOk P w K mg base CX0 (k + 1) f fd ps sp := by
  obtain ⟨oc, od, kV, doc, pm, an, cdv, ct, osl, rfl, lk, hcd⟩ := F.ex
  refine fn_of lk hcd S len fun A outer s H vs Q E hr hsp => ?_
  obtain ⟨t, h, q⟩ := hbody cdv A outer s H vs Q E hr hsp
  exact ⟨t, h.nox, q⟩
end
section
variable {X : Cx}
end
theorem iteF {A B : Prop} (h : B) : if false = true then A else B := by
  rw [if_neg Bool.false_ne_true]
  exact h
theorem iteT {A B : Prop} (h : A) : if true = true then A else B := by
  rw [if_pos rfl]
  exact h
def Same (H H' : Hp) : Prop := ∀ b o, H b = some o → H' b = some o
theorem Same.refl (H : Hp) : Same H H := fun _ _ h => h
theorem Same.trans {H H1 H2 : Hp} (a : Same H H1) (b : Same H1 H2) : Same H H2 := fun c o h => b c o (a c o h)
theorem Same.free {H H' : Hp} (e : Same H H') {l : Addr} (h : H' l = Option.none) : H l = Option.none := by
  cases q : H l with
  | none => rfl
  | some o =>
    rw [e l o q] at h
    cases h
theorem Same.seq {K : PySem.W.Frag} {H H' : Hp} {a : Addr} {xs : List V} (e : Same H H') (h : SqL K H a xs) : SqL K H' a xs := by
  rcases h with (h | ⟨o, h⟩) | h
  · exact .inl (.inl (e _ _ h))
  · exact .inl (.inr ⟨o, e _ _ h⟩)
  · exact .inr h
end L2
set_option Elab.async false
set_option linter.all false
set_option maxRecDepth 100000
namespace L2
open PySem PySem.Spec PyProof.Rows
section
variable {κ : Type} [DecidableEq κ]
def valV (kvs : List (κ × V)) (k : κ) : Option V := (kvs.find? fun kv => decide (kv.1 = k)).map (·.2)
def putK (kvs : List (κ × V)) (k : κ) (v : V) : List (κ × V) :=
  if (kvs.any fun kv => decide (kv.1 = k)) = true then kvs.map (fun kv => if kv.1 = k then (kv.1, v) else kv) else kvs ++ [(k, v)]
theorem KV.any {kvs : List (κ × V)} {vs : List (κ × Value)} (r : KV kvs vs) (k : κ) : (kvs.any fun kv => decide (kv.1 = k)) = vs.any fun kv => decide (kv.1 = k) := by
  unfold KV at r
  induction r with
  | nil => rfl
  | cons h t ih => rw [List.any_cons, List.any_cons, ih, h.1]
theorem KV.length {kvs : List (κ × V)} {vs : List (κ × Value)} (r : KV kvs vs) : kvs.length = vs.length := Paired.length r
end
section
variable {P : Program} {w : World} {H : Hp} {h : Heap} {a : Addr}
end
def DGet (H : Hp) (a : Addr) (y : V) (r : Option V) : Prop :=
  (∃ kvs k, Rd H a (.dK kvs) ∧ y = kV k ∧ r = valV kvs k) ∨ ∃ kvs k b, Rd H a (.dT kvs) ∧ y = .ref b ∧ H b = some (.tup (k.map kV)) ∧ r = valV kvs k
def DPut (H : Hp) (a : Addr) (y v : V) (H' : Hp) : Prop :=
  (∃ kvs k, H a = some (.dK kvs) ∧ y = kV k ∧ kvs.length < sizeLine ∧ H' = upd H a (.dK (putK kvs k v))) ∨
  ∃ kvs k b, H a = some (.dT kvs) ∧ y = .ref b ∧ H b = some (.tup (k.map kV)) ∧ kvs.length < sizeLine ∧ H' = upd H a (.dT (putK kvs k v))
theorem DGet.k {H : Hp} {a : Addr} {kvs : List (Key × V)} {k : Key} (e : H a = some (.dK kvs)) : DGet H a (kV k) (valV kvs k) := .inl ⟨kvs, k, .inl e, rfl, rfl⟩
theorem DGet.t {H : Hp} {a b : Addr} {kvs : List (List Key × V)} {k : List Key} (e : H a = some (.dT kvs)) (eb : H b = some (.tup (k.map kV))) : DGet H a (.ref b) (valV kvs k) := .inr ⟨kvs, k, b, .inl e, rfl, eb, rfl⟩
theorem DPut.k {H : Hp} {a : Addr} {kvs : List (Key × V)} {k : Key} {v : V} (e : H a = some (.dK kvs)) (hl : kvs.length < sizeLine) : DPut H a (kV k) v (upd H a (.dK (putK kvs k v))) := .inl ⟨kvs, k, e, rfl, hl, rfl⟩
theorem DPut.t {H : Hp} {a b : Addr} {kvs : List (List Key × V)} {k : List Key} {v : V} (e : H a = some (.dT kvs)) (eb : H b = some (.tup (k.map kV))) (hl : kvs.length < sizeLine) :
    DPut H a (.ref b) v (upd H a (.dT (putK kvs k v))) := .inr ⟨kvs, k, b, e, rfl, eb, hl, rfl⟩
section
variable {X : Cx} {pins : List (Addr × Obj)} {σ : St} {H : Hp} {s : Shared} {a : Addr} {y v : V} {u r : Value} {o : Option V} {A : Around} {E : Value → Shared → Prop}
end
section
variable {X : Cx} {pins : List (Addr × Obj)} {σ : St} {H : Hp} {s : Shared} {a : Addr} {kvs : List (Key × V)} {k : Key} {u : Value} {A : Around} {E : Value → Shared → Prop}
end
section
variable {X : Cx} {o i e value : Expr} {pos pos' tpos : Pos} {td ty tv : TE}
end
section
variable {X : Cx} {pos : Pos}
end
section
variable {X : Cx} {pins : List (Addr × Obj)} {σ : St} {H : Hp} {s : Shared} {a : Addr} {y d : V} {u r : Value} {o : Option V} {A : Around} {E : Value → Shared → Prop}
end
section
variable {X : Cx} {o e f : Expr} {apos cpos : Pos} {td ty tx : TE}
end
section
variable {X : Cx} {pins : List (Addr × Obj)} {σ : St} {H : Hp} {s : Shared} {a : Addr} {kvs : List (Key × V)} {A : Around} {E : Value → Shared → Prop}
end
section
variable {X : Cx} {pins : List (Addr × Obj)} {σ : St} {H : Hp} {s : Shared} {a : Addr} {y : V} {u : Value} {A : Around} {E : Value → Shared → Prop}
end
end L2
set_option Elab.async false
set_option linter.all false
set_option maxRecDepth 100000
namespace L2
open PySem PySem.Spec PyProof.Rows
section
variable {P : Program} {w : World} {l : List Env} {H H' : Hp} {s s' : Shared} {ea C t : Addr} {B h' : Heap}
end
section
variable {X : Cx} {pins : List (Addr × Obj)} {σ : St} {H1 : Hp} {s1 : Shared} {E : XK} {ea C : Addr} {vs : List Value} {h' : Heap} {Ex : Value → Shared → Prop} {M : Model}
end
section
variable {P : Program} {w : World} {K : PySem.W.Frag} {mg : Str → Option Value} {base : Heap} {N : List Str} {qual : Str} {scope : Scope} {f : Addr} {cd : Value} {A : Around} {outer : List Env} {s : Shared} {H : Hp} {E : XK}
end
end L2
set_option Elab.async false
set_option linter.all false
set_option maxRecDepth 100000
namespace L2
open PySem PySem.Spec PyProof.Rows
section
variable {X : Cx} {C : Addr} {E : XK} {x : Str} {e₀ : Expr} {rest : List Expr} {ta : TA} {np cpos pos : Pos}
end
end L2
set_option Elab.async false
set_option linter.all false
set_option maxRecDepth 100000
namespace L2
open PySem PySem.Spec PyProof.Rows
def exO (ea C : Addr) : HO := .ext fun h => ∃ o vs, h.get? ea = some o ∧ o.cls = .ref C ∧ o.data = .fields vs
section
variable {X : Cx} {pins : List (Addr × Obj)} {σ : St} {H H' : Hp} {s s' : Shared} {ea C t : Addr} {B : Heap}
end
section
variable {X : Cx} {pins : List (Addr × Obj)} {σ : St} {H H' : Hp} {s s' : Shared} {ea C DD t : Addr} {B : Heap} {x n : Str} {np hpos : Pos} {b₀ : Stmt} {suite : List Stmt} {rest : List ExceptHandler} {D : Ends} {Ex : Value → Shared → Prop} {i : Nat} {ts : TS}
end
end L2
set_option Elab.async false
set_option linter.all false
set_option maxRecDepth 100000
namespace L2
open PySem PySem.Spec PyProof.Rows
abbrev TXS := Ends → St → Hp → (St → XK) → Prop
section
variable {X : Cx} {k : Nat} {f : Addr} {fd : FuncData} {ps : List Str} {sp : Sp} {dvs : List V} {ds : List Value} {x : Str} {p pos : Pos} {e : Expr} {es : List Expr} {ta : TA}
theorem PA.nox {es : List Expr} {t : TA} (h : PA X.nox es t) {pos : Pos} {pins : List (Addr × Obj)} {s : Shared} {σ : St} {H : Hp} {Q : List V → Hp → Prop} {E : Value → Shared → Prop} (I : Inv X pins σ H s) (q : t σ H Q) :
    wpAny (model X.prog X.w) X.A (spliced (backTo pos (starEach es X.env))) (AP X pins σ Q) E s :=
  wpAny_mono (h pos pins s σ H Q (I.wish _) q) (fun _ _ ⟨v, H', I', r, q⟩ => ⟨v, H', I'.unwish, r, q⟩) fun _ _ z => False.elim z
variable {t u : TXS} {te : TX} {st : Stmt} {rest : List Stmt} {i : Nat} {px : Pos}
end
end L2
set_option Elab.async false
set_option linter.all false
set_option maxRecDepth 100000
namespace L2
open PySem PySem.Spec PyProof.Rows
def ExAt (x D : Addr) (h : Heap) : Prop := ∃ o vs, h.get? x = some o ∧ o.cls = .ref D ∧ o.data = .fields vs
section
open PySem.W PySem.Calls Builtin Builtin.ObjectAttr Builtin.Getset_descriptor
variable {K : PySem.W.Frag} {x D : Addr}
theorem ex_type {M : Model} {h : Heap} (I : ExAt x D h) : Looks M h (typeOf (.ref x)) (.ref D) := by
  obtain ⟨o, vs, h1, h2, _⟩ := I
  exact h2 ▸ (Looks.ld h1).andThen .now
theorem looks_find_data {M : Model} {h : Heap} (X : K.In h) {name : Str} {a g : Value} (ha : findIn K (.ref D) name = some (some a)) (hg : specialIn K a "__get__" = some (some g)) (ht : takesIn K a = some true) :
    Looks M h (find (.ref x) (.ref D) name) (.bind g a) := by
  have L1 := looks_findIn (M := M) X ha
  have L2 : Looks M h (getOf (some a)) (some g) := looks_specialIn X hg
  have L3 := looks_takesIn (M := M) X ht
  exact L1.andThen (L2.andThen ((show Looks M h (dataDescriptor? (some a) (some g)) (some (g, a)) from L3.andThen .now).andThen (Looks.tag .now)))
variable {prog : Program} {w : World} {A : Around} {E : Value → Shared → Prop} {s : Shared} {name : Str}
theorem ex_check {M : Model} {nameV : Value} {Q : Unit → Shared → Prop} (X : K.In s.heap) (I : ExAt x D s.heap) (hb : mroIn K D (.type "BaseException") = some true) (hq : Q () s) : wpAny M A (checkBuiltinCall "BaseException.__getattribute__" ⟨[.ref x, nameV], []⟩) Q E s := by
  obtain ⟨hh, g, dr, t, os⟩ := s
  have hk : builtinKind "BaseException.__getattribute__" = some .slot := by decide +kernel
  have hsplit : splitId "BaseException.__getattribute__" = some ("BaseException", "__getattribute__") := by decide +kernel
  have L0 := ex_type (M := M) I
  have L1 := looks_mroIn (M := M) X hb
  have ha := F.args_bexc_ga (.ref x) nameV
  simp only [checkBuiltinCall, hk, hsplit]
  refine wpAny_bind ?_
  unfold isInstance
  repeat (first | lk | wp_step)
  exact hq
theorem ex_get {R : Result → Shared → Prop} {tp : Value} (X : K.In s.heap) (I : ExAt x D s.heap) (hm : mroIn K D (.type "object") = some true)
    (h : R (.ok (.ret (.ref D))) s) : codeAny (model prog w) A (.call (.builtin "getset_descriptor.__get__") ⟨[.builtin "object.__class__", .ref x, tp], []⟩) R s := by
  obtain ⟨hh, g, dr, t, os⟩ := s
  have L0 := ex_type (M := model prog w) I
  have L1 := looks_mroIn (M := model prog w) X hm
  refine codeAny_call_builtin KF.slot_gs.plain KF.entry_gs (KF.slot_gs.check _ _ _ _ _ _ _ _ KF.type_class (KF.args_gs _ _ _) ?_)
  unfold Builtin.«getset_descriptor.__get__» descrGet
  rw [dga_obj]
  refine wpAny_bind (wpAny_pure ?_)
  unfold descrGetter descrCheckInstance descrNameAndClass isInstance
  simp only [KF.owner_class]
  repeat lk
  refine ⟨Code.quiet_builtin _ (by decide +kernel), codeAny_builtin KF.entry_class ?_⟩
  unfold Builtin.«object.__class__» shownTypeOf
  repeat lk
  exact h
theorem ex_entry {g a : Value} {tk : Tok} {Q : Fin → Shared → Prop} (X : K.In s.heap) (I : ExAt x D s.heap) (ha : findIn K (.ref D) "__class__" = some (some (.builtin "object.__class__")))
    (hn : specialIn K (.builtin "object.__class__") "__get__" = some (some (.builtin "getset_descriptor.__get__"))) (ht : takesIn K (.builtin "object.__class__") = some true) (hm : mroIn K D (.type "object") = some true)
    (hq : Q (.done (.ret (.ref D))) s) : wpAny (model prog w) A (Builtin.«object.__getattribute__» ⟨[.ref x, .str "__class__" tk], []⟩) Q E s := by
  have L3 := looks_find_data (x := x) (M := model prog w) X ha hn ht
  have L0 := ex_type (M := model prog w) I
  obtain ⟨hh, gg, d, t, os⟩ := s
  refine wpAny_bind (wpAny_pure ?_)
  refine wpAny_bind (wpAny_pure (wpAny_bind (L0.at (wpAny_bind (L3.at ?_)))))
  show wpAny _ _ (holding [_] (call (.builtin "getset_descriptor.__get__") [.builtin "object.__class__", .ref x, .ref D]) >>= ret) _ _ _
  exact wpAny_bind (wpAny_holding (wpAny_call (ex_get (s := ⟨hh, gg, d, t, os⟩) X I hm (wpAny_pure hq))))
theorem ex_attr {Q : Option Value → Shared → Prop} (X : K.In s.heap) (I : ExAt x D s.heap) (g1 : findIn K (.ref D) "__getattribute__" = some (some (.builtin "BaseException.__getattribute__"))) (hb : mroIn K D (.type "BaseException") = some true)
    (g2 : findIn K (.ref D) "__getattr__" = some none) (ha : findIn K (.ref D) "__class__" = some (some (.builtin "object.__class__")))
    (hn : specialIn K (.builtin "object.__class__") "__get__" = some (some (.builtin "getset_descriptor.__get__"))) (ht : takesIn K (.builtin "object.__class__") = some true) (hm : mroIn K D (.type "object") = some true)
    (h : Q (some (.ref D)) { s with toks := s.toks + 1 }) : wpAny (model prog w) A (getAttr? (.ref x) "__class__") Q E s := by
  obtain ⟨hh, g, d, t, os⟩ := s
  have L0 := ex_type (M := model prog w) I
  have L1 := looks_findIn (M := model prog w) X g1
  have L2 := looks_findIn (M := model prog w) X g2
  have f3 := PySem.F.attr_ValueError.ga.bind (.ref x)
  have hx2 : (Value.builtin "BaseException.__getattribute__" == Value.builtin "object.__getattribute__") = false := by decide +kernel
  have hx1 : (onTheHeap (Value.ref D) && Value.builtin "BaseException.__getattribute__" == Value.builtin "object.__getattribute__") = false := by rw [hx2]; rfl
  unfold getAttr? getAttrBy? getAttrBy
  refine wpAny_bind (wpAny_mkText (wpAny_bind (wpAny_attempt (wpAny_holding (wpAny_bind (L0.at (wpAny_bind (L1.at ?_))))))))
  show wpAny _ _ (if (onTheHeap (Value.ref D) && Value.builtin "BaseException.__getattribute__" == Value.builtin "object.__getattribute__") = true then _ else getAttrByItsOwn _ _ _ _ _ _) _ _ _
  rw [hx1, if_neg (by decide)]
  unfold getAttrByItsOwn
  refine wpAny_bind ?_
  show wpAny _ _ (typeLookup (.ref D) "__getattr__") _ _ _
  refine L2.at ?_
  refine wpAny_bind (wpAny_attempt ?_)
  refine wpAny_holding ?_
  show wpAny _ _ (boundAndCalled (.builtin "BaseException.__getattribute__") (.ref x) _) _ _ _
  unfold boundAndCalled
  refine wpAny_bind (wpAny_of_eq f3 ?_)
  refine wpAny_call (codeAny_call_builtin PySem.F.attr_ValueError.ga.plain F.entry_bexc_ga (ex_check (s := ⟨hh, g, d, t + 1, os⟩) X I hb (ex_entry (g := .none) (a := .none) (s := ⟨hh, g, d, t + 1, os⟩) X I ha hn ht hm ?_)))
  show wpAny _ _ (handedOut (.ref D)) _ _ _
  exact handed_on rfl (wpAny_pure h)
structure ExCls (K : PySem.W.Frag) (D : Addr) : Prop where
  cl : (clsIn K D).isSome = true
  g1 : findIn K (.ref D) "__getattribute__" = some (some (.builtin "BaseException.__getattribute__"))
  hb : mroIn K D (.type "BaseException") = some true
  g2 : findIn K (.ref D) "__getattr__" = some none
  ha : findIn K (.ref D) "__class__" = some (some (.builtin "object.__class__"))
  hn : specialIn K (.builtin "object.__class__") "__get__" = some (some (.builtin "getset_descriptor.__get__"))
  htk : takesIn K (.builtin "object.__class__") = some true
  hm : mroIn K D (.type "object") = some true
theorem kitx_exc (e : ExCls K D) : KitX K (.ref x) (.ref D) (ExAt x D) where
  ty := fun _ _ _ I => ex_type I
  it := fun _ _ X _ => by
    obtain ⟨cdD, hcD⟩ := Option.isSome_iff_exists.mp e.cl
    unfold clsIn at hcD
    split at hcD
    · rename_i c' d' cd' sl' ho
      intro A' Q' E' s' k q
      unfold isType loadHead
      exact wpAny_bind (wpAny_loadPart (k _ _ (X _ _ ho)) (wpAny_pure q))
    · cases hcD
  ne := fun h tp dd its n sl X htp => by
    obtain ⟨cdD, hcD⟩ := Option.isSome_iff_exists.mp e.cl
    refine Bool.eq_false_iff.mpr fun q => ?_
    have e : D = tp := Value.ref.inj (beq_iff_eq.mp q)
    subst e
    unfold clsIn at hcD
    split at hcD
    · rename_i c' d' cd' sl' ho
      have z := (X _ _ ho).symm.trans htp
      cases z
    · cases hcD
  ca := fun X I k => ex_attr X I e.g1 e.hb e.g2 e.ha e.hn e.htk e.hm k
end
end L2
set_option Elab.async false
set_option linter.all false
set_option maxRecDepth 100000
set_option maxHeartbeats 1000000
namespace L2
open PySem PySem.Spec PyProof.Rows
section
variable {prog : Program} {w : World} {A : Around} {R : Result → Shared → Prop} {s : Shared}
theorem compLoop_gen {elt target iter : Expr} {ifs : List Expr} {scope : Scope} {pos : Pos} {it acc : Value} {env : Env} (I : Nat → Shared → Prop) (NB : Value → Shared → Prop) (hNB : ∀ e s', NB e s' → notedBy (model prog w) A env (fun e s' => R (.error e) s') e s')
    (turn : ∀ n s, I n s → wpAny (model prog w) A (pyNext it) (fun r s₁ => match r with
      | none => R (.ok .next) s₁
      | some v => wpAny (model prog w) A (letOwnedTupleGo target it v) (fun _ s₁' => wpAny (model prog w) A (assign target env v) (fun _ s₂ =>
          wpAny (model prog w) A (forIn ifs true fun c r => if r = true then do let ok ← isTrue c env (eval c env); pure (ForInStep.yield ok) else pure (ForInStep.yield r)) (fun ok s₃ =>
            if ok = true then wpAny (model prog w) A (eval elt env) (fun x s₄ =>
              wpAny (model prog w) A (call (.builtin "list.append") [acc, x]) (fun _ s₅ => ∃ m, m < n ∧ I m s₅) NB s₄) NB s₃
            else ∃ m, m < n ∧ I m s₃) NB s₂) NB s₁') NB s₁) NB s)
    (n : Nat) (h : I n s) :
    codeAny (model prog w) A (.compLoop (.ListComp elt [⟨target, iter, ifs, 0⟩] scope pos) 0 it acc env) R s := by
  refine codeAny_loop rfl I (fun n s hI => ?_) n h
  show wpAny _ A ((compTurn (.ListComp elt [⟨target, iter, ifs, 0⟩] scope pos) 0 it acc env).onRaise (fun x => do noteFrame x env; theTreesLotGoes x)) _ _ s
  refine wpAny_noted ?_
  rw [compTurn_list]
  refine wpAny_bind (wpAny_standAt (wpAny_bind (wpAny_mono (turn n s hI) (fun r s₁ h₁ => ?_) hNB)))
  cases r with
  | none => exact wpAny_pure h₁
  | some v =>
    refine wpAny_bind (wpAny_mono h₁ (fun _ s₁' h₁' => ?_) hNB)
    refine wpAny_bind (wpAny_mono h₁' (fun _ s₂ h₂ => wpAny_bind (wpAny_mono h₂ (fun ok s₃ h₃ => ?_) hNB)) hNB)
    cases ok with
    | false => exact wpAny_pure ⟨rfl, h₃⟩
    | true =>
      exact wpAny_bind (wpAny_bind (wpAny_mono h₃ (fun x s₄ h₄ => wpAny_bind (wpAny_mono h₄ (fun _ s₅ h₅ => wpAny_pure (wpAny_pure ⟨rfl, h₅⟩)) hNB)) hNB))
end
def relabelS (scope outer : Scope) : Scope :=
  { scope with names := scope.names.map fun (n, k) => if (k == .free && outer.kind == .function && outer.names.lookup n == some .cell) then (n, .cell) else (n, k) }
theorem lookup_relabel (c : Str → NameKind → Bool) (x : Str) : ∀ names : List (Str × NameKind), (names.map fun (n, k) => if c n k = true then (n, NameKind.cell) else (n, k)).lookup x = (names.lookup x).map fun k => if c x k = true then NameKind.cell else k
  | [] => rfl
  | (n, k) :: r => by
    have ih := lookup_relabel c x r
    show List.lookup x ((if c n k = true then (n, NameKind.cell) else (n, k)) :: _) = _
    by_cases hx : x = n
    · subst hx
      by_cases hc : c x k = true
      · rw [if_pos hc, List.lookup_cons_self, List.lookup_cons_self]; simp [hc]
      · rw [if_neg hc, List.lookup_cons_self, List.lookup_cons_self]; simp [hc]
    · have hb : (x == n) = false := by simpa using hx
      by_cases hc : c n k = true
      · rw [if_pos hc, List.lookup_cons, List.lookup_cons, hb]; exact ih
      · rw [if_neg hc, List.lookup_cons, List.lookup_cons, hb]; exact ih
theorem relabelS_lookup (scope outer : Scope) (x : Str) : (relabelS scope outer).names.lookup x = (scope.names.lookup x).map fun k => if (k == .free && outer.kind == .function && outer.names.lookup x == some .cell) = true then NameKind.cell else k :=
  lookup_relabel (fun n k => k == .free && outer.kind == .function && outer.names.lookup n == some .cell) x scope.names
theorem relabelS_free {scope outer : Scope} {x : Str} (h : scope.names.lookup x = some .free) : (relabelS scope outer).names.lookup x = some .cell ∨ (relabelS scope outer).names.lookup x = some .free := by
  rw [relabelS_lookup, h]
  show some (if _ then _ else _) = _ ∨ some (if _ then _ else _) = _
  split
  · exact .inl rfl
  · exact .inr rfl
theorem relabelS_back {scope outer : Scope} {x : Str} (h : (relabelS scope outer).names.lookup x = some .cell ∨ (relabelS scope outer).names.lookup x = some .free) : scope.names.lookup x = some .cell ∨ scope.names.lookup x = some .free := by
  rw [relabelS_lookup] at h
  cases e : scope.names.lookup x with
  | none => rw [e] at h; rcases h with h | h <;> cases h
  | some k =>
    rw [e] at h
    cases k with
    | free => exact .inr rfl
    | cell => exact .inl rfl
    | _ => rcases h with h | h <;> cases h
def clFrom (env : Env) : List (Str × NameKind) → List (Str × Addr) → List (Str × Addr)
  | [], acc => acc
  | (n, k) :: r, acc => if (k == .free) = true then clFrom env r ((n, (env.cells.lookup n).getD 0) :: acc) else clFrom env r acc
theorem closure_eq {scope : Scope} {env : Env} (h : ∀ y ∈ scope.names, y.2 = .free → (env.cells.lookup y.1).isSome = true) : closureFor scope env = pure (clFrom env scope.names []) := by
  have go : ∀ (names : List (Str × NameKind)) (acc : List (Str × Addr)), (∀ y ∈ names, y.2 = .free → (env.cells.lookup y.1).isSome = true) →
      (forIn names acc fun x r => if (x.2 == NameKind.free) = true then (cellOf env x.1 >>= fun a => pure (ForInStep.yield ((x.1, a) :: r))) else pure (ForInStep.yield r) : Sem (List (Str × Addr))) = pure (clFrom env names acc) := by
    intro names
    induction names with
    | nil => intro acc _; rfl
    | cons y r ih =>
      intro acc hy
      obtain ⟨n, k⟩ := y
      rw [List.forIn_cons]
      unfold clFrom
      by_cases hk : (k == NameKind.free) = true
      · obtain ⟨c, hc⟩ := Option.isSome_iff_exists.mp (hy (n, k) List.mem_cons_self (beq_iff_eq.mp hk))
        have e : cellOf env n = pure c := by unfold cellOf; rw [show env.cells.lookup n = some c from hc]
        simp only [hk, if_true, e]
        rw [show (env.cells.lookup n).getD 0 = c from by rw [show env.cells.lookup n = some c from hc]; rfl]
        exact ih _ fun y hm => hy y (List.mem_cons_of_mem _ hm)
      · simp only [hk]
        exact ih _ fun y hm => hy y (List.mem_cons_of_mem _ hm)
  have e := go scope.names [] h
  unfold closureFor
  exact congrArg (fun m => m >>= fun s => (pure s : Sem (List (Str × Addr)))) e
theorem clFrom_mem {env : Env} {p : Str × Addr} : ∀ {names : List (Str × NameKind)} {acc : List (Str × Addr)}, p ∈ clFrom env names acc → p ∈ acc ∨ p.2 = (env.cells.lookup p.1).getD 0 ∧ ∃ y ∈ names, y.1 = p.1 ∧ y.2 = .free
  | [], _, h => .inl h
  | (n, k) :: r, acc, h => by
    unfold clFrom at h
    split at h
    · rename_i hk
      rcases clFrom_mem h with h | ⟨h, y, hy, e⟩
      · rcases List.mem_cons.mp h with h | h
        · subst h; exact .inr ⟨rfl, (n, k), List.mem_cons_self, rfl, beq_iff_eq.mp hk⟩
        · exact .inl h
      · exact .inr ⟨h, y, List.mem_cons_of_mem _ hy, e⟩
    · rcases clFrom_mem h with h | ⟨h, y, hy, e⟩
      · exact .inl h
      · exact .inr ⟨h, y, List.mem_cons_of_mem _ hy, e⟩
theorem clFrom_has {env : Env} {x : Str} : ∀ {names : List (Str × NameKind)} {acc : List (Str × Addr)}, (acc.lookup x).isSome = true ∨ (∃ y ∈ names, y.1 = x ∧ y.2 = .free) → ((clFrom env names acc).lookup x).isSome = true
  | [], _, h => h.elim id fun ⟨_, hy, _⟩ => nomatch hy
  | (n, k) :: r, acc, h => by
    unfold clFrom
    split
    · rename_i hk
      refine clFrom_has ?_
      rcases h with h | ⟨y, hy, e1, e2⟩
      · refine .inl ?_
        rw [List.lookup_cons]
        split
        · rfl
        · exact h
      · rcases List.mem_cons.mp hy with rfl | hy
        · refine .inl ?_
          have e1 : n = x := e1
          subst e1
          rw [List.lookup_cons_self]; rfl
        · exact .inr ⟨y, hy, e1, e2⟩
    · rename_i hk
      refine clFrom_has ?_
      rcases h with h | ⟨y, hy, e1, e2⟩
      · exact .inl h
      · rcases List.mem_cons.mp hy with rfl | hy
        · have e2 : k = .free := e2
          subst e2
          exact absurd rfl hk
        · exact .inr ⟨y, hy, e1, e2⟩
theorem mem_lookup {α : Type} {l : List (Str × α)} {x : Str} {c : α} (h : l.lookup x = some c) : (x, c) ∈ l := PySem.mem_of_lookup h
theorem cf_mem {p : Str × Addr} : ∀ {names : List (Str × NameKind)} {n : Nat} {acc : List (Str × Addr)}, p ∈ cellsFrom n names acc → p ∈ acc ∨ n ≤ p.2
  | [], _, _, h => .inl h
  | (y, k) :: r, n, acc, h => by
    unfold cellsFrom at h
    split at h
    · rcases cf_mem h with h | h
      · rcases List.mem_cons.mp h with h | h
        · subst h; exact .inr (Nat.le_refl _)
        · exact .inl h
      · exact .inr (Nat.le_of_succ_le h)
    · exact cf_mem h
theorem cf_inj : ∀ {names : List (Str × NameKind)} {n : Nat} {acc : List (Str × Addr)}, (∀ p ∈ acc, p.2 < n) → (∀ p ∈ acc, ∀ q ∈ acc, p.2 = q.2 → p.1 = q.1) → ∀ p ∈ cellsFrom n names acc, ∀ q ∈ cellsFrom n names acc, p.2 = q.2 → p.1 = q.1
  | [], _, _, _, h => h
  | (y, k) :: r, n, acc, hl, hi => by
    unfold cellsFrom
    split
    · refine cf_inj (fun p hp => ?_) fun p hp q hq e => ?_
      · rcases List.mem_cons.mp hp with rfl | hp
        · exact Nat.lt_succ_self _
        · exact Nat.lt_succ_of_lt (hl p hp)
      · rcases List.mem_cons.mp hp with rfl | hp <;> rcases List.mem_cons.mp hq with rfl | hq
        · rfl
        · exact absurd e (Nat.ne_of_gt (hl q hq))
        · exact absurd e (Nat.ne_of_lt (hl p hp))
        · exact hi p hp q hq e
    · exact cf_inj hl hi
theorem cf_cell : ∀ {names : List (Str × NameKind)} {h : Heap} {acc : List (Str × Addr)}, (∀ p ∈ acc, ∃ v, h.IsCell p.2 v) → ∀ p ∈ cellsFrom h.objs.size names acc, ∃ v, (pushCells h names).IsCell p.2 v
  | [], _, _, h => h
  | (y, k) :: r, h, acc, hc => by
    unfold cellsFrom pushCells
    split
    · have := cf_cell (names := r) (h := h.push { cls := .type "cell", data := .cell none }) (acc := (y, h.objs.size) :: acc) fun p hp => by
        rcases List.mem_cons.mp hp with rfl | hp
        · exact ⟨none, _, Heap.get?_push_size _ rfl, rfl⟩
        · obtain ⟨v, q⟩ := hc p hp
          exact ⟨v, q.keeps fun b o e => Heap.get?_push_of_some _ e⟩
      rwa [Heap.size_push] at this
    · exact cf_cell hc
theorem cf_skip {x : Str} : ∀ {names : List (Str × NameKind)} {n : Nat} {acc : List (Str × Addr)}, (∀ y ∈ names, y.1 = x → y.2 = .free) → (cellsFrom n names acc).lookup x = acc.lookup x
  | [], _, _, _ => rfl
  | (y, k) :: r, n, acc, h => by
    unfold cellsFrom
    split
    · rename_i hk
      rw [cf_skip fun z hz => h z (List.mem_cons_of_mem _ hz), List.lookup_cons]
      split
      · rename_i hb
        have hx : x = y := beq_iff_eq.mp hb
        have := h (y, k) List.mem_cons_self hx.symm
        have this : k = .free := this
        subst this
        exact absurd hk (by decide)
      · rfl
    · exact cf_skip fun z hz => h z (List.mem_cons_of_mem _ hz)
def cenvOf (scope : Scope) (cl : List (Str × Addr)) (L : Addr) (env : Env) : Env :=
  { scope := relabelS scope env.scope, locals := L, globals := env.globals, cells := cellsFrom (L + 1) scope.names cl, qual := env.qual, func := none, code := env.code, frame := env.frame, builtins := env.builtins }
theorem newEnvC {M : Model} {A : Around} {E : Value → Shared → Prop} {s : Shared} {scope : Scope} {cl : List (Str × Addr)} {env : Env} {Q : Env → Shared → Prop}
    (h : ∀ c, { c with scope := relabel scope env } = cenvOf scope cl s.heap.objs.size env → c.locals = s.heap.objs.size → Q c { s with heap := pushCells (s.heap.push { cls := .type "dict", data := .dict #[] }) scope.names }) :
    wpAny M A (newFunctionEnv scope env.globals cl [] env.qual none .none (some env)) Q E s := by
  simp only [newFunctionEnv, Option.isSome_some, if_true]
  refine wpAny_bind (wpAny_alloc ?_)
  refine wpAny_bind (wpAny_layCells _ (fun name kind cells => by cases hkc : kind == NameKind.cell <;> simp [hkc]) _ _ _ _ ?_)
  rw [show ({ s with heap := s.heap.push { cls := .type "dict", data := .dict #[] } } : Shared).heap.objs.size = s.heap.objs.size + 1 from Heap.size_push ..]
  refine wpAny_bind (wpAny_pure (wpAny_pure (h _ ?_ rfl)))
  rfl
def capt (js : List (Option Nat)) (σ : St) : St := js.map fun j => j.bind fun j => (σ[j]?).join
structure CompSc (N' : List Str) (js : List (Option Nat)) (scope outer : Scope) (N : List Str) : Prop where
  kind : scope.kind = .function
  uniq : ∀ y ∈ scope.names, scope.names.lookup y.1 = some y.2
  nd : N'.Nodup
  len : js.length = N'.length
  free : ∀ y ∈ scope.names, y.2 = .free → outer.names.lookup y.1 = some .cell ∨ outer.names.lookup y.1 = some .free
  cap : ((N'.zip js).all fun p => match p.2 with
    | none => true
    | some j => decide (N[j]? = some p.1) && decide (scope.names.lookup p.1 = some .free)) = true
theorem CompSc.capOf {N' : List Str} {js : List (Option Nat)} {scope outer : Scope} {N : List Str} (S : CompSc N' js scope outer N) {i j : Nat} {x : Str} (h1 : N'[i]? = some x) (h2 : js[i]? = some (some j)) :
    N[j]? = some x ∧ scope.names.lookup x = some .free ∧ ∀ y ∈ scope.names, y.1 = x → y.2 = .free := by
  have h := List.all_eq_true.mp S.cap (x, some j) (by
    refine List.mem_of_getElem? (i := i) ?_
    rw [List.getElem?_zip_eq_some]
    exact ⟨h1, h2⟩)
  simp only [Bool.and_eq_true, decide_eq_true_eq] at h
  exact ⟨h.1, h.2, fun y hy e => by
    have := S.uniq y hy
    rw [e, h.2] at this
    exact (Option.some.inj this).symm⟩
theorem CompSc.names {N' : List Str} {js : List (Option Nat)} {scope outer : Scope} {N : List Str} (S : CompSc N' js scope outer N) : ∀ y ∈ scope.names, y.2 = .local → scope.names.lookup y.1 = some .local := fun y hy e => by
  rw [S.uniq y hy, e]
def cxC (X : Cx) (N' : List Str) (scope : Scope) (fp : List Addr) (s : Shared) (H : Hp) : Cx :=
  { X with N := N', s₀ := s, H₀ := H, env := cenvOf scope (clFrom X.env scope.names []) s.heap.objs.size X.env, outer := X.stack, ex := fp,
           fn := fun x => match scope.names.lookup x with | some .cell => true | _ => false, pn := [], xe := fun _ _ => False }
theorem inv_comp {X : Cx} {N' : List Str} {js : List (Option Nat)} {scope : Scope} {pins : List (Addr × Obj)} {σ : St} {H : Hp} {s : Shared} {fp : List Addr} (S : CompSc N' js scope X.env.scope X.N) (I : Inv X pins σ H s) (hf : ∀ b ∈ fp, FpOk X pins H b)
    (hlt : ∀ b ∈ fp, b < s.heap.objs.size) :
    Inv (cxC X N' scope fp s H) [] (capt js σ) H { s with heap := pushCells (s.heap.push { cls := .type "dict", data := .dict #[] }) scope.names } := by
  have hk : ∀ b o, s.heap.get? b = some o → (pushCells (s.heap.push { cls := .type "dict", data := .dict #[] }) scope.names).get? b = some o := fun b o e => pushCells_keeps _ _ b o (Heap.get?_push_of_some _ e)
  have sz : (s.heap.push { cls := .type "dict", data := .dict #[] }).objs.size = s.heap.objs.size + 1 := Heap.size_push ..
  -- captured cells stand in the outer frame
  have out : ∀ x, (∃ y ∈ scope.names, y.1 = x ∧ y.2 = .free) → ∃ c, X.env.cells.lookup x = some c := fun x ⟨y, hy, e1, e2⟩ => by
    subst e1
    exact I.ok.has y.1 (S.free y hy e2)
  have clm : ∀ p ∈ clFrom X.env scope.names [], X.env.cells.lookup p.1 = some p.2 := fun p hp => by
    rcases clFrom_mem hp with h | ⟨h, hy⟩
    · cases h
    · obtain ⟨c, hc⟩ := out p.1 hy
      rw [hc] at h ⊢
      rw [h]; rfl
  have cllt : ∀ p ∈ clFrom X.env scope.names [], p.2 < s.heap.objs.size := fun p hp => by
    obtain ⟨v, q⟩ := I.cell p.1 p.2 (clm p hp)
    exact q.lt
  have cin : ∀ x c, (cellsFrom (s.heap.objs.size + 1) scope.names (clFrom X.env scope.names [])).lookup x = some c → X.env.cells.lookup x = some c ∨ s.heap.objs.size + 1 ≤ c := fun x c e => by
    rcases cf_mem (mem_lookup e) with h | h
    · exact .inl (clm _ h)
    · exact .inr h
  have capL : ∀ x, scope.names.lookup x = some .free → (∀ y ∈ scope.names, y.1 = x → y.2 = .free) → (cellsFrom (s.heap.objs.size + 1) scope.names (clFrom X.env scope.names [])).lookup x = X.env.cells.lookup x := fun x hx hy => by
    rw [cf_skip hy]
    have hs := clFrom_has (env := X.env) (x := x) (names := scope.names) (acc := []) (.inr ⟨_, mem_lookup hx, rfl, rfl⟩)
    obtain ⟨c, hc⟩ := Option.isSome_iff_exists.mp hs
    rw [hc, clm _ (mem_lookup hc)]
  refine ⟨⟨I.ok.mod, S.kind, I.ok.glob, I.ok.blt, Nat.le_refl _, fun x y c h1 h2 => ?_, fun x hx => ?_, fun x c hx h => ?_, I.ok.hd, I.ok.frames, .inl rfl, fun b hb => ?_, I.bs, Nat.le_trans I.ok.bsz I.sz, fun b o e hb => ?_, fun b hb hz => ?_, I.stack, I.stkFree⟩,
    rfl, I.bare, Un.kept hk, ?_, fun x c h => ?_, I.hok.fresh (Nat.le_refl _), fun x c h => ?_, fun p hp => absurd (show p ∈ ([] : List (Addr × Obj)) from hp) (by simp), I.hok.kept hk, ?_⟩
  · refine cf_inj (names := scope.names) (n := s.heap.objs.size + 1) (acc := clFrom X.env scope.names []) (fun p hp => Nat.lt_succ_of_lt (cllt p hp)) (fun p hp q hq e => ?_) (x, c) (mem_lookup h1) (y, c) (mem_lookup h2) rfl
    have a := clm p hp
    have b := clm q hq
    rw [← e] at b
    exact I.ok.inj _ _ _ a b
  · have hx' := relabelS_back (show (relabelS scope X.env.scope).names.lookup x = some .cell ∨ _ from hx)
    refine Option.isSome_iff_exists.mp (PySem.W.cellsFrom_some scope.names _ _ ?_)
    rcases hx' with h | h
    · exact .inl h
    · exact .inr (clFrom_has (.inr ⟨_, mem_lookup h, rfl, rfl⟩))
  · rcases cf_mem (mem_lookup h) with hm | hm
    · -- an own cell's name is captured too: its first entry is the own one
      have hx' : scope.names.lookup x = some .cell := by
        have hx2 : (match scope.names.lookup x with | some .cell => true | _ => false) = true := hx
        split at hx2
        · assumption
        · cases hx2
      rcases clFrom_mem hm with q | ⟨_, y, hy, e1, e2⟩
      · cases q
      · have := S.uniq y hy
        have e1 : y.1 = x := e1
        rw [e1, hx', e2] at this
        cases this
    · exact Nat.le_of_succ_le hm
  · refine ⟨Nat.ne_of_lt (hlt b hb), fun x c h e => ?_⟩
    rcases cin x c h with q | q
    · exact (hf b hb).2.2.2.2.1 x c q e
    · have := hlt b hb
      rw [← e] at this
      exact absurd (Nat.lt_of_lt_of_le this (Nat.le_of_succ_le q)) (Nat.lt_irrefl _)
  · rcases (hf b hb).2.2.2.1 with z | z
    · exact I.ok.noex b o e z
    · exact absurd (Nat.lt_of_lt_of_le (Heap.lt_size (I.ok.bs b o e).1) z) (Nat.lt_irrefl _)
  · rcases List.mem_cons.mp (I.stkSub b hz) with e | e
    · exact (hf b hb).2.1 e
    · exact (hf b hb).2.2.1 e
  · obtain ⟨m, hn, hl⟩ := I.loc
    refine ⟨fun _ => none, (Heap.Ns.new s.heap (.type "dict")).keeps (pushCells_keeps _ _), fun i x v h1 h2 h3 => ?_⟩
    have h2' : ((js[i]?).map fun j => j.bind fun j => (σ[j]?).join) = some (some v) := by
      unfold capt at h2
      rw [List.getElem?_map] at h2
      exact h2
    cases e : js[i]? with
    | none => rw [e] at h2'; cases h2'
    | some o =>
      rw [e] at h2'
      cases o with
      | none => cases h2'
      | some j =>
        have h4 : (σ[j]?).join = some v := Option.some.inj h2'
        have h5 : σ[j]? = some (some v) := by
          cases z : σ[j]? with
          | none => rw [z] at h4; cases h4
          | some o => rw [z] at h4; have h4 : o = some v := h4; rw [h4]
        obtain ⟨hN, hx, hy⟩ := S.capOf h1 e
        have hvis := S.free _ (mem_lookup hx) rfl
        obtain ⟨u, r, lk⟩ := hl j x v hN h5 (.inr hvis)
        refine ⟨u, r, .inr ⟨relabelS_free hx, ?_⟩⟩
        rcases lk with ⟨k, _⟩ | ⟨_, c, hc, z⟩
        · have k : X.env.scope.names.lookup x = some .local := k
          rcases hvis with q | q
          · rw [k] at q; cases q
          · rw [k] at q; cases q
        · exact ⟨c, (capL x hx hy).trans hc, z.keeps hk⟩
  · have := cf_cell (names := scope.names) (h := s.heap.push { cls := .type "dict", data := .dict #[] }) (acc := clFrom X.env scope.names []) (fun p hp => by
      obtain ⟨v, q⟩ := I.cell p.1 p.2 (clm p hp)
      exact ⟨v, q.keeps fun b o e => Heap.get?_push_of_some _ e⟩) (x, c) (by rw [sz]; exact mem_lookup h)
    exact this
  · rcases cin x c h with q | q
    · exact I.freeC x c q
    · exact I.hok.fresh (Nat.le_of_succ_le q)
  · show (js.map _).length = N'.length
    rw [List.length_map]; exact S.len
def eMax (X : Cx) (e : Expr) : TE := fun σ H Q => ∃ t, PE X e t ∧ t σ H Q
theorem pe_max {X : Cx} {e : Expr} : PE X e (eMax X e) := fun pins s σ H Q I ⟨t, ht, h⟩ => ht pins s σ H Q I h
def gMax (X : Cx) (e : Expr) : TG := fun v σ H Q => ∃ t, PG X e t ∧ t v σ H Q
theorem pg_max {X : Cx} {e : Expr} : PG X e (gMax X e) := fun pins s σ H v u Q I r ⟨t, ht, h⟩ => ht pins s σ H v u Q I r h
def PIf (X : Cx) (ifs : List Expr) (tc : TT) : Prop := (ifs = [] ∧ tc = fun _ H Q => Q true H) ∨ ∃ c, ifs = [c] ∧ PT X c tc
theorem pif_nil {X : Cx} : PIf X [] (fun _ H Q => Q true H) := .inl ⟨rfl, rfl⟩
theorem PIf.run {X : Cx} {ifs : List Expr} {tc : TT} (h : PIf X ifs tc) {pins : List (Addr × Obj)} {s : Shared} {σ : St} {H : Hp} {Q : Bool → Hp → Prop} (I : Inv X pins σ H s) (q : tc σ H Q) :
    wpAny (model X.prog X.w) X.A (forIn ifs true fun c r => if r = true then do let ok ← isTrue c X.env (eval c X.env); pure (ForInStep.yield ok) else pure (ForInStep.yield r)) (TP X pins σ Q) X.xe s := by
  rcases h with ⟨rfl, rfl⟩ | ⟨c, rfl, h⟩
  · exact wpAny_tests_nil ⟨H, I, q⟩
  · exact wpAny_tests_one (h pins s σ H Q I q)
def cMax (X : Cx) (ifs : List Expr) : TT := fun σ H Q => ∃ t, PIf X ifs t ∧ t σ H Q
def CompW (X' : Cx) (js : List (Option Nat)) (tg elt : Expr) (ifs : List Expr) (σ : St) (H1 : Hp) (J : It) (p : Addr) (Q : VK) : Prop :=
  ∃ W : Nat → Nat → St → Hp → Prop, (∃ m, W 0 m (capt js σ) (upd H1 p (.lst []))) ∧ ∀ i m τ H', W i m τ H' →
  (J.stop i H' ∧ Q (.ref p) H') ∨ (J.go i H' ∧ ∃ N : St → Hp → Prop, (∀ τ' H'', N τ' H'' → ∃ m', m' < m ∧ W (i + 1) m' τ' H'') ∧ ∀ x H'', J.yld i H' x H'' → gMax X' tg x τ H'' fun τ2 H2 => cMax X' ifs τ2 H2 fun b H3 =>
    if b = true then eMax X' elt τ2 H3 fun y H4 => ∃ ys, H4 p = some (.lst ys) ∧ ys.length < sizeLine ∧ N τ2 (upd H4 p (.lst (ys ++ [y]))) else N τ2 H3)
def tComp (X : Cx) (N' : List Str) (js : List (Option Nat)) (scope : Scope) (tg elt : Expr) (ifs : List Expr) (wi : TI) : TE := fun σ H Q => wi σ H fun J H1 => ∀ p, H1 p = none → ∀ fp s,
  CompW (cxC X N' scope fp s (upd H1 p (.lst []))) js tg elt ifs σ H1 J p Q
section
variable {X : Cx} {N' : List Str} {js : List (Option Nat)} {scope : Scope} {tg iter elt : Expr} {ifs : List Expr} {wi : TI} {pos : Pos}
theorem comp_block {pins : List (Addr × Obj)} {σ : St} {H : Hp} {s : Shared} {R : V → Hp → Prop} {E : Value → Shared → Prop} (hc : X.calm = true) (S : CompSc N' js scope X.env.scope X.N)
    {it : Addr} {fp : List Addr} {tn : Nat → Heap → Prop} {J : It} (I2 : Inv X pins σ H s) (T : Turn X.prog X.w X.K tg J fp it tn) (st : tn 0 s.heap) (hf : ∀ b ∈ fp, FpOk X pins H b)
    (hW : ∀ p, H p = none → ∀ fp s, CompW (cxC X N' scope fp s (upd H p (.lst []))) js tg elt ifs σ H J p R)
    {RR : Value → Addr → Result → Shared → Prop}
    (hRR : ∀ (D C : Addr) (s' : Shared) (H' : Hp), Inv X pins σ H' s' → (∃ m, s'.heap.Ns C m) → H' C = none → C ≠ X.env.locals → X.s₀.heap.objs.size ≤ C → (∀ x c, X.env.cells.lookup x = some c → c ≠ C) → (∀ p ∈ X.pn ++ pins, p.1 ≠ C) → R (.ref D) H' → RR (.ref D) C (.ok .next) s') :
    wpAny (model X.prog X.w) X.A (newList []) (fun acc s₃ => wpAny (model X.prog X.w) X.A (newFunctionEnv scope X.env.globals (clFrom X.env scope.names []) [] X.env.qual none .none (some X.env)) (fun cenv s₄ =>
      codeAny (model X.prog X.w) X.A (.compStart (.ListComp elt [⟨tg, iter, ifs, 0⟩] scope pos) 0 (.ref it) acc { cenv with scope := relabel scope X.env }) (RR acc cenv.locals) s₄) E s₃) E s := by
  refine wpAny_newObj_type ?_
  have hfresh : H s.heap.objs.size = none := I2.hok.fresh (Nat.le_refl _)
  have I3 : Inv X pins σ (upd H s.heap.objs.size (.lst [])) { s with heap := s.heap.push { cls := .type "list", data := .seq ([] : List Value).toArray } } := I2.lnew (t' := s.toks) .nil (Nat.zero_le _)
  generalize hs3 : ({ s with heap := s.heap.push { cls := .type "list", data := .seq ([] : List Value).toArray } } : Shared) = s3 at I3 ⊢
  have hsz3 : s3.heap.objs.size = s.heap.objs.size + 1 := by rw [← hs3]; exact Heap.size_push ..
  have hk3 : ∀ b o, s.heap.get? b = some o → s3.heap.get? b = some o := fun b o e => by rw [← hs3]; exact Heap.get?_push_of_some _ e
  have flt : ∀ b ∈ fp, b < s.heap.objs.size := fun b hb => by
    obtain ⟨o, e, _⟩ := T.obj _ _ st b hb
    exact Heap.lt_size e
  have hf3 : ∀ b ∈ fp, FpOk X pins (upd H s.heap.objs.size (.lst [])) b := fun b hb => ⟨by rw [upd_ne (Nat.ne_of_lt (flt b hb))]; exact (hf b hb).1, (hf b hb).2⟩
  have st3 : tn 0 s3.heap := T.keep _ _ _ st fun b _ o e => hk3 b o e
  refine newEnvC fun cenv ecenv el => ?_
  rw [ecenv, el]
  have I4 := inv_comp (fp := fp) S I3 hf3 fun b hb => by rw [hsz3]; exact Nat.lt_succ_of_lt (flt b hb)
  obtain ⟨W, ⟨m0, w0⟩, turn⟩ := hW _ hfresh fp s3
  generalize hX' : cxC X N' scope fp s3 (upd H s.heap.objs.size (.lst [])) = X' at I4 turn
  generalize hs4 : ({ s3 with heap := pushCells (s3.heap.push { cls := .type "dict", data := .dict #[] }) scope.names } : Shared) = s4 at I4 ⊢
  have eenv : cenvOf scope (clFrom X.env scope.names []) s3.heap.objs.size X.env = X'.env := by rw [← hX']; rfl
  have eprog : X'.prog = X.prog := by rw [← hX']; rfl
  have ew : X'.w = X.w := by rw [← hX']; rfl
  have eK : X'.K = X.K := by rw [← hX']; rfl
  have eA : X'.A = X.A := by rw [← hX']; rfl
  have ecalm : X'.calm = true := by rw [← hX']; exact hc
  have exe : ∀ e s', X'.xe e s' → False := fun e s' h => by rw [← hX'] at h; exact h
  have eex : X'.ex = fp := by rw [← hX']; rfl
  have efs : X'.fs = frs X.stack := by rw [← hX']; rfl
  have epn : X'.pn = [] := by rw [← hX']; rfl
  have es0 : X'.s₀ = s3 := by rw [← hX']; rfl
  have eH0 : X'.H₀ = upd H s.heap.objs.size (.lst []) := by rw [← hX']; rfl
  have eloc : X'.env.locals = s3.heap.objs.size := by rw [← eenv]; rfl
  rw [eenv]
  have st4 : tn 0 s4.heap := T.keep _ _ _ st3 fun b _ o e => by rw [← hs4]; exact pushCells_keeps _ _ b o (Heap.get?_push_of_some _ e)
  -- the iterator's objects, seen from the block
  have fpok : ∀ {H' : Hp}, (∀ b ∈ fp, H' b = none) → ∀ b ∈ fp, FpOk X' [] H' b := fun {H'} hn b hb => by
    obtain ⟨h1, h2⟩ := I4.ok.exf b (by rw [eex]; exact hb)
    exact ⟨hn b hb, h1, fun z => I4.ok.exfs b (by rw [eex]; exact hb) z, .inl (by rw [eex]; exact hb), h2, fun p hp => by rw [epn] at hp; cases hp⟩
  have loop : ∀ s5, s5 = s4 → codeAny (model X.prog X.w) X.A (.compLoop (.ListComp elt [⟨tg, iter, ifs, 0⟩] scope pos) 0 (.ref it) (.ref s.heap.objs.size) X'.env) (RR (.ref s.heap.objs.size) s3.heap.objs.size) s5 := by
    rintro s5 rfl
    refine compLoop_gen (fun n s' => ∃ i τ H', Inv X' [] τ H' s' ∧ tn i s'.heap ∧ (∀ b ∈ fp, H' b = none) ∧ W i n τ H') (fun _ _ => False) (fun _ _ h => h.elim) ?_ m0 ⟨0, _, _, I4, st4, fun b hb => (hf3 b hb).1, w0⟩
    rintro n s6 ⟨i, τ, H6, I6, st6, fr6, w6⟩
    have A1 : ∀ {α : Type} {t : Sem α} {Q : α → Shared → Prop} {s : Shared}, wpAny (model X'.prog X'.w) X'.A t Q X'.xe s → wpAny (model X.prog X.w) X.A t Q (fun _ _ => False) s := fun {α t Q s} h => by
      rw [eprog, ew, eA] at h
      exact wpAny_mono h (fun _ _ q => q) exe
    rcases turn i n τ H6 w6 with ⟨stop, qn⟩ | ⟨go, N, hN, step⟩
    · have h7 := T.done X' eprog ew eK ecalm i [] s6 τ H6 (fun _ _ => False) I6 (fpok fr6) st6 stop
      rw [eA] at h7
      refine thn h7 fun r s7 ⟨hr, I7⟩ => ?_
      subst hr
      -- back to the frame around
      have un := I7.base
      rw [es0, eH0, efs, eex] at un
      have Iout : Inv X pins σ H6 s7 := I3.call' (ch := fp) (by rw [I7.os, es0]) un (by have := I7.hok; rw [eprog, ew] at this; exact this) I7.bare fun b hb => by
        obtain ⟨f0, f1, f2, f3, f4, f5⟩ := hf3 b hb
        exact ⟨f3, f1, f4, f5⟩
      refine hRR _ _ s7 H6 Iout ?_ ?_ ?_ ?_ ?_ ?_ qn
      · obtain ⟨m, hn, _⟩ := I7.loc
        rw [eloc] at hn
        exact ⟨m, hn⟩
      · have := I7.free
        rw [eloc] at this
        exact this
      · exact Nat.ne_of_gt I3.lt
      · exact I3.sz
      · intro x c e z
        obtain ⟨v, q⟩ := I3.cell x c e
        exact absurd q.lt (by rw [z]; exact Nat.lt_irrefl _)
      · intro p hp z
        exact absurd (Heap.lt_size (I3.pin p hp).1) (by rw [z]; exact Nat.lt_irrefl _)
    · have h6 := T.item X' eprog ew eK ecalm i [] s6 τ H6 (fun _ _ => False) I6 (fpok fr6) st6 go
      rw [eA] at h6
      refine thn h6 fun r s7 ⟨u, hr, h7⟩ => ?_
      subst hr
      refine thn h7 fun _ s8 ⟨x, H8, I8, r8, y8, st8, fr8⟩ => ?_
      have I8' := I8.pinned (fpok fr8) (T.obj _ _ st8)
      refine thn (A1 (pg_max _ s8 τ H8 x u _ I8' r8 (step x H8 y8))) fun _ s9 ⟨τ9, H9, I9, q9⟩ => ?_
      obtain ⟨tcc, hif, q9⟩ := q9
      refine thn (A1 (hif.run I9 q9)) fun ok s10 ⟨H10, I10, q10⟩ => ?_
      have again : ∀ {τ' : St} {H' : Hp} {s' : Shared}, Inv X' ([] ++ pinsAt fp s8.heap) τ' H' s' → N τ' H' → ∃ m, m < n ∧ ∃ i τ H', Inv X' [] τ H' s' ∧ tn i s'.heap ∧ (∀ b ∈ fp, H' b = none) ∧ W i m τ H' := fun {τ' H' s'} I' n' => by
        obtain ⟨m', hm, w'⟩ := hN τ' H' n'
        refine ⟨m', hm, i + 1, τ', H', I'.unpinned, T.keep _ _ _ st8 fun b hb o e => (I'.pin (b, o) (List.mem_append_right _ (List.mem_append_right _ (mem_pinsAt hb e)))).1, fun b hb => ?_, w'⟩
        obtain ⟨o, e, d⟩ := T.obj _ _ st8 b hb
        exact (I'.pin (b, o) (List.mem_append_right _ (List.mem_append_right _ (mem_pinsAt hb e)))).2.1
      cases ok with
      | false =>
        rw [if_neg Bool.false_ne_true] at q10 ⊢
        exact again I10 q10
      | true =>
        rw [if_pos rfl] at q10 ⊢
        refine thn (A1 (pe_max _ s10 τ9 H10 _ I10 q10)) fun y s11 ⟨yv, H11, I11, r11, ys, hp11, hz, n11⟩ => ?_
        refine thn (A1 (mt_append _ s11 τ9 H11 (.ref s.heap.objs.size) [yv] (.ref s.heap.objs.size) [y] (fun _ H' => N τ9 H') I11 rfl (.cons r11 .nil) ⟨_, ys, yv, rfl, rfl, hp11, hz, n11⟩)) fun _ s12 ⟨v12, H12, I12, _, n12⟩ => ?_
        exact again I12 n12
  exact codeAny_compStart_list (loop _ rfl) (T.self _ 0 _ _ _ st4 (loop _ rfl))
theorem pe_comp (hc : X.calm = true) (S : CompSc N' js scope X.env.scope X.N) (hi : PI X tg iter wi)
    (hs : ∀ x, foldedSetIterable iter X.env x = pure x := by intro _; rfl) : PE X (.ListComp elt [⟨tg, iter, ifs, 0⟩] scope pos) (tComp X N' js scope tg elt ifs wi) := by
  intro pins s σ H Q I h
  rw [eval_ListComp]
  have hcl : closureFor scope X.env = pure (clFrom X.env scope.names []) := closure_eq fun y hy e => by
    obtain ⟨c, hc⟩ := I.ok.has y.1 (S.free y hy e)
    rw [hc]; rfl
  refine wpAny_comprehension_free (use := none) rfl hs hcl S.kind S.names (thn (hi pins s σ H _ I h) fun v s1 h1 => thn h1 fun itv s2 h2 => ?_)
  obtain ⟨it, fp, tn, J, H2, e, I2, T, st2, f2, hW⟩ := h2
  subst e
  refine comp_block (R := Q) (RR := fun acc C => compPost (model X.prog X.w) X.A X.xe none (EP X pins σ Q) acc C) hc S I2 T st2 f2 hW ?_
  intro D C s' H' I' ⟨m, hn⟩ hC h1 h2 h3 h4 q
  refine ⟨m, hn, fun h' hsb => ⟨.ref D, H', ?_, rfl, q⟩⟩
  exact I'.turned (t' := s'.toks) (fun b o hb e => (hsb.2 b hb).trans e) hC (Ne.symm (Ne.symm h1)) (.inr h2) h3 h4
end
end L2
set_option Elab.async false
set_option linter.all false
set_option maxRecDepth 100000
namespace DL
open PySem PySem.Spec PyProof.Rows L2
inductive D where
  | non | bl (b : Bool) | int (i : Int) | str (x : Str)
  | lst (xs : List D) | tup (xs : List D) | dic (kvs : List (Key × D)) | ins (c : Str) (fs : List (Str × D)) | err (c : Str)
instance : Inhabited D := ⟨.non⟩
abbrev CTab := Str → Option Addr
section
variable (K : PySem.W.Frag) (CT : CTab) (H : Hp)
mutual
def Rep : D → V → Prop
  | .non, v => v = .non
  | .bl b, v => v = .bl b
  | .int i, v => v = .int i
  | .str x, v => v = .str x
  | .lst ds, v => ∃ a vs, v = .ref a ∧ SqL K H a vs ∧ RepL ds vs
  | .tup ds, v => ∃ a vs, v = .ref a ∧ SqT K H a vs ∧ RepL ds vs
  | .dic kds, v => ∃ a kvs, v = .ref a ∧ Rd H a (.dK kvs) ∧ RepK kds kvs
  | .ins c fds, v => ∃ a C dx fs, v = .ref a ∧ CT c = some C ∧ H a = some (.ins C dx fs) ∧ RepF fds fs
  | .err c, v => ∃ a C, v = .ref a ∧ CT c = some C ∧ H a = some (exO a C)
def RepL : List D → List V → Prop
  | [], vs => vs = []
  | d :: ds, vs => ∃ v r, vs = v :: r ∧ Rep d v ∧ RepL ds r
def RepK : List (Key × D) → List (Key × V) → Prop
  | [], kvs => kvs = []
  | (k, d) :: ds, kvs => ∃ v r, kvs = (k, v) :: r ∧ Rep d v ∧ RepK ds r
def RepF : List (Str × D) → List (Str × V) → Prop
  | [], kvs => kvs = []
  | (k, d) :: ds, kvs => ∃ v r, kvs = (k, v) :: r ∧ Rep d v ∧ RepF ds r
end
end
section
variable {K : PySem.W.Frag} {CT : CTab} {H H' : Hp}
theorem Same.sqT {a : Addr} {xs : List V} (e : Same H H') (h : SqT K H a xs) : SqT K H' a xs := by
  rcases h with (h | ⟨o, h⟩) | h
  · exact .inl (.inl (e _ _ h))
  · exact .inl (.inr ⟨o, e _ _ h⟩)
  · exact .inr h
theorem Same.rd {a : Addr} {u : HO} (e : Same H H') (h : Rd H a u) : Rd H' a u := by
  rcases h with h | ⟨o, h⟩
  · exact .inl (e _ _ h)
  · exact .inr ⟨o, e _ _ h⟩
mutual
theorem Rep.mono (e : Same H H') : ∀ (d : D) (v : V), Rep K CT H d v → Rep K CT H' d v
  | .non, _, h => h
  | .bl _, _, h => h
  | .int _, _, h => h
  | .str _, _, h => h
  | .lst ds, _, ⟨a, vs, h1, h2, h3⟩ => ⟨a, vs, h1, e.seq h2, RepL.mono e ds vs h3⟩
  | .tup ds, _, ⟨a, vs, h1, h2, h3⟩ => ⟨a, vs, h1, Same.sqT e h2, RepL.mono e ds vs h3⟩
  | .dic ds, _, ⟨a, vs, h1, h2, h3⟩ => ⟨a, vs, h1, Same.rd e h2, RepK.mono e ds vs h3⟩
  | .ins c ds, _, ⟨a, C, dx, fs, h1, h2, h3, h4⟩ => ⟨a, C, dx, fs, h1, h2, e _ _ h3, RepF.mono e ds fs h4⟩
  | .err c, _, ⟨a, C, h1, h2, h3⟩ => ⟨a, C, h1, h2, e _ _ h3⟩
theorem RepL.mono (e : Same H H') : ∀ (ds : List D) (vs : List V), RepL K CT H ds vs → RepL K CT H' ds vs
  | [], _, h => h
  | d :: ds, _, ⟨v, r, h1, h2, h3⟩ => ⟨v, r, h1, Rep.mono e d v h2, RepL.mono e ds r h3⟩
theorem RepK.mono (e : Same H H') : ∀ (ds : List (Key × D)) (vs : List (Key × V)), RepK K CT H ds vs → RepK K CT H' ds vs
  | [], _, h => h
  | (k, d) :: ds, _, ⟨v, r, h1, h2, h3⟩ => ⟨v, r, h1, Rep.mono e d v h2, RepK.mono e ds r h3⟩
theorem RepF.mono (e : Same H H') : ∀ (ds : List (Str × D)) (vs : List (Str × V)), RepF K CT H ds vs → RepF K CT H' ds vs
  | [], _, h => h
  | (k, d) :: ds, _, ⟨v, r, h1, h2, h3⟩ => ⟨v, r, h1, Rep.mono e d v h2, RepF.mono e ds r h3⟩
end
theorem RepL.length : ∀ {ds : List D} {vs : List V}, RepL K CT H ds vs → ds.length = vs.length
  | [], _, h => by cases h; rfl
  | d :: ds, _, ⟨v, r, h1, h2, h3⟩ => by subst h1; simp [RepL.length h3]
theorem RepL.get : ∀ {ds : List D} {vs : List V} {i : Nat} {d : D}, RepL K CT H ds vs → ds[i]? = some d → ∃ v, vs[i]? = some v ∧ Rep K CT H d v
  | [], _, _, _, _, e => by simp at e
  | d :: ds, _, 0, _, ⟨v, r, h1, h2, h3⟩, e => by subst h1; simp at e; subst e; exact ⟨v, rfl, h2⟩
  | d :: ds, _, i + 1, x, ⟨v, r, h1, h2, h3⟩, e => by
    subst h1
    obtain ⟨u, a, b⟩ := RepL.get (i := i) (d := x) h3 (by simpa using e)
    exact ⟨u, by simpa using a, b⟩
theorem RepL.append : ∀ {ds es : List D} {vs us : List V}, RepL K CT H ds vs → RepL K CT H es us → RepL K CT H (ds ++ es) (vs ++ us)
  | [], _, _, _, h, k => by cases h; exact k
  | d :: ds, _, _, _, ⟨v, r, h1, h2, h3⟩, k => by subst h1; exact ⟨v, _, rfl, h2, RepL.append h3 k⟩
theorem RepL.take : ∀ (n : Nat) {ds : List D} {vs : List V}, RepL K CT H ds vs → RepL K CT H (ds.take n) (vs.take n)
  | 0, _, _, _ => by simp [RepL]
  | n + 1, [], _, h => by cases h; simp [RepL]
  | n + 1, d :: ds, _, ⟨v, r, h1, h2, h3⟩ => by subst h1; exact ⟨v, _, rfl, h2, RepL.take n h3⟩
theorem RepL.drop : ∀ (n : Nat) {ds : List D} {vs : List V}, RepL K CT H ds vs → RepL K CT H (ds.drop n) (vs.drop n)
  | 0, _, _, h => h
  | n + 1, [], _, h => by cases h; simp [RepL]
  | n + 1, d :: ds, _, ⟨v, r, h1, h2, h3⟩ => by subst h1; exact RepL.drop n h3
theorem RepL.set {d : D} {v : V} (q : Rep K CT H d v) : ∀ (i : Nat) {ds : List D} {vs : List V}, RepL K CT H ds vs → RepL K CT H (ds.set i d) (vs.set i v)
  | _, [], _, h => by cases h; simp [RepL]
  | 0, _ :: ds, _, ⟨w, r, h1, h2, h3⟩ => by subst h1; exact ⟨v, r, rfl, q, h3⟩
  | i + 1, e :: ds, _, ⟨w, r, h1, h2, h3⟩ => by subst h1; exact ⟨w, _, rfl, h2, RepL.set q i h3⟩
theorem RepL.one {d : D} {v : V} (h : Rep K CT H d v) : RepL K CT H [d] [v] := ⟨v, [], rfl, h, rfl⟩
theorem RepL.map_int : ∀ (ns : List Int), RepL K CT H (ns.map D.int) (ns.map V.int)
  | [] => rfl
  | n :: ns => ⟨_, _, rfl, rfl, RepL.map_int ns⟩
end
inductive Out (α : Type) where
  | ok (a : α) | exc (x : D) | stuck
namespace Out
def bind {α β : Type} : Out α → (α → Out β) → Out β
  | .ok a, f => f a
  | .exc x, _ => .exc x
  | .stuck, _ => .stuck
instance : Monad Out where
  pure := .ok
  bind := bind
def post {α : Type} (o : Out α) (k : α → Prop) (x : D → Prop) : Prop := match o with
  | .ok a => k a
  | .exc e => x e
  | .stuck => False
@[simp] theorem bind_ok {α β : Type} (a : α) (f : α → Out β) : (Out.ok a >>= f) = f a := rfl
@[simp] theorem bind_exc {α β : Type} (x : D) (f : α → Out β) : ((Out.exc x : Out α) >>= f) = .exc x := rfl
@[simp] theorem bind_stuck {α β : Type} (f : α → Out β) : ((Out.stuck : Out α) >>= f) = .stuck := rfl
@[simp] theorem bind_ok' {α β : Type} (a : α) (f : α → Out β) : (Out.ok a).bind f = f a := rfl
@[simp] theorem bind_exc' {α β : Type} (x : D) (f : α → Out β) : (Out.exc x : Out α).bind f = .exc x := rfl
@[simp] theorem bind_stuck' {α β : Type} (f : α → Out β) : (Out.stuck : Out α).bind f = .stuck := rfl
@[simp] theorem pure_eq {α : Type} (a : α) : (pure a : Out α) = .ok a := rfl
theorem post_bind {α β : Type} (o : Out α) (f : α → Out β) (k : β → Prop) (x : D → Prop) : (o >>= f).post k x ↔ o.post (fun a => (f a).post k x) x := by
  cases o <;> exact Iff.rfl
theorem post_mono {α : Type} {o : Out α} {k k' : α → Prop} {x : D → Prop} (h : o.post k x) (hk : ∀ a, k a → k' a) : o.post k' x := by
  cases o with
  | ok a => exact hk a h
  | exc e => exact h
  | stuck => exact h
end Out
end DL
set_option Elab.async false
set_option linter.all false
set_option maxRecDepth 100000
namespace DL
open PySem PySem.Spec PyProof.Rows L2
abbrev St := L2.St
inductive SM where
  | k | o | l | s
abbrev SD := List (Option (SM × D))
structure Dc where
  X : Cx
  CT : CTab
  G0 : Hp
  XD : D → Prop
  /-- what is lent -/
  B : Hp
  /-- what of the entry's objects may be written -/
  M : Addr → Prop
abbrev Dc.K (C : Dc) : PySem.W.Frag := C.X.K
def Own (K : PySem.W.Frag) (CT : CTab) (G H : Hp) (p : Addr) : D → Prop
  | .lst ds => ∃ vs, H p = some (.lst vs) ∧ RepL K CT G ds vs
  | .dic ds => ∃ kvs, H p = some (.dK kvs) ∧ RepK K CT G ds kvs
  | .ins c ds => ∃ A dx fs, CT c = some A ∧ H p = some (.ins A dx fs) ∧ RepF K CT G ds fs
  | _ => False
theorem Own.there {K : PySem.W.Frag} {CT : CTab} {G H : Hp} {p : Addr} : ∀ {d : D}, Own K CT G H p d → ∃ o, H p = some o
  | .lst _, ⟨_, h, _⟩ => ⟨_, h⟩
  | .dic _, ⟨_, h, _⟩ => ⟨_, h⟩
  | .ins _ _, ⟨_, _, _, _, h, _⟩ => ⟨_, h⟩
  | .non, h => h.elim
  | .bl _, h => h.elim
  | .int _, h => h.elim
  | .str _, h => h.elim
  | .tup _, h => h.elim
theorem Own.mono {K : PySem.W.Frag} {CT : CTab} {G G' H H' : Hp} {p : Addr} (g : Same G G') (h : ∀ o, H p = some o → H' p = some o) : ∀ {d : D}, Own K CT G H p d → Own K CT G' H' p d
  | .lst ds, ⟨vs, a, b⟩ => ⟨vs, h _ a, RepL.mono g ds vs b⟩
  | .dic ds, ⟨vs, a, b⟩ => ⟨vs, h _ a, RepK.mono g ds vs b⟩
  | .ins _ ds, ⟨A, dx, fs, e, a, b⟩ => ⟨A, dx, fs, e, h _ a, RepF.mono g ds fs b⟩
  | .non, h => h.elim
  | .bl _, h => h.elim
  | .int _, h => h.elim
  | .str _, h => h.elim
  | .tup _, h => h.elim
theorem Own.rep {K : PySem.W.Frag} {CT : CTab} {G H : Hp} {p : Addr} (g : Same G H) : ∀ {d : D}, Own K CT G H p d → Rep K CT H d (.ref p)
  | .lst ds, ⟨vs, a, b⟩ => ⟨p, vs, rfl, SqL.of a, RepL.mono g ds vs b⟩
  | .dic ds, ⟨vs, a, b⟩ => ⟨p, vs, rfl, Rd.of a, RepK.mono g ds vs b⟩
  | .ins _ ds, ⟨A, dx, fs, e, a, b⟩ => ⟨p, A, dx, fs, rfl, e, a, RepF.mono g ds fs b⟩
  | .non, h => h.elim
  | .bl _, h => h.elim
  | .int _, h => h.elim
  | .str _, h => h.elim
  | .tup _, h => h.elim
structure GH (C : Dc) (G H : Hp) : Prop where
  sub : Same G H
  g0 : Same C.G0 G
  new : ∀ b, C.G0 b = none → G b ≠ none → C.X.H₀ b = none
  fr : ∀ b o, C.X.H₀ b = some o → ¬ C.M b → H b = some o
  dom : ∀ b, H b = none → C.X.H₀ b = none
  bs : Same C.B H
  bh : ∀ b, C.X.H₀ b = none → C.B b = none
structure StR (C : Dc) (G H : Hp) (σ : St) (ς : SD) : Prop extends GH C G H where
  len : σ.length = ς.length
  fz : ∀ (i : Nat) d, ς[i]? = some (some (.k, d)) → ∃ v, σ[i]? = some (some v) ∧ Rep C.X.K C.CT G d v
  ow : ∀ (i : Nat) d, ς[i]? = some (some (.o, d)) → ∃ p, σ[i]? = some (some (.ref p)) ∧ G p = none ∧ C.X.H₀ p = none ∧ Own C.X.K C.CT G H p d
  ln : ∀ (i : Nat) d, ς[i]? = some (some (.l, d)) → ∃ v, σ[i]? = some (some v) ∧ Rep C.X.K C.CT C.B d v
  inj : ∀ (i j : Nat) d e p, i ≠ j → ς[i]? = some (some (.o, d)) → ς[j]? = some (some (.o, e)) → σ[i]? = some (some (.ref p)) → σ[j]? ≠ some (some (.ref p))
  sf : ∀ (i : Nat) d, ς[i]? = some (some (.s, d)) → ∃ p, σ[i]? = some (some (.ref p)) ∧ G p = none ∧ C.X.H₀ p ≠ none ∧ C.M p ∧ C.B p = none ∧ Own C.X.K C.CT G H p d
  su : ∀ (i j : Nat) d e, ς[i]? = some (some (.s, d)) → ς[j]? = some (some (.s, e)) → i = j
section
variable {C : Dc} {G G' H H' : Hp} {σ : St} {ς : SD}
theorem GH.gnone (S : GH C G H) {p : Addr} (h : H p = none) : G p = none := S.sub.free h
theorem GH.h0none (S : GH C G H) {p : Addr} (h : H p = none) : C.X.H₀ p = none := S.dom p h
theorem same_upd {H : Hp} {p : Addr} {o : HO} (h : H p = none) : Same H (upd H p o) := fun b u e => by
  rw [upd_ne (ne_of_none e h)]; exact e
theorem same_upd2 {G H : Hp} {p : Addr} {o : HO} (s : Same G H) : Same (upd G p o) (upd H p o) := fun b u e => by
  by_cases hb : b = p
  · subst hb; rw [upd_same] at e ⊢; exact e
  · rw [upd_ne hb] at e ⊢; exact s b u e
theorem GH.grow (S : GH C G H) (hH : Same H H') (hG : Same G G') (hs : Same G' H') (hn : ∀ b, G b = none → G' b ≠ none → H b = none) : GH C G' H' where
  sub := hs
  g0 := S.g0.trans hG
  new := fun b h0 h1 => by
    cases q : G b with
    | none => exact S.h0none (hn b q h1)
    | some o => exact S.new b h0 (by rw [q]; simp)
  fr := fun b o e m => hH b o (S.fr b o e m)
  dom := fun b e => S.dom b (hH.free e)
  bs := S.bs.trans hH
  bh := S.bh
theorem StR.own_ne (S : StR C G H σ ς) {i : Nat} {d : D} {p : Addr} (h : ς[i]? = some (some (.o, d))) (hp : σ[i]? = some (some (.ref p))) : ∃ o, H p = some o := by
  obtain ⟨q, e, _, _, o⟩ := S.ow i d h
  rw [hp] at e; cases e
  exact o.there
theorem StR.grow (S : StR C G H σ ς) (hH : Same H H') (hG : Same G G') (hs : Same G' H') (hn : ∀ b, G b = none → G' b ≠ none → H b = none) : StR C G' H' σ ς where
  toGH := S.toGH.grow hH hG hs hn
  len := S.len
  fz := fun i d e => let ⟨v, a, b⟩ := S.fz i d e; ⟨v, a, Rep.mono hG d v b⟩
  ow := fun i d e => by
    obtain ⟨p, a, b, c, o⟩ := S.ow i d e
    refine ⟨p, a, ?_, c, o.mono hG fun u q => hH _ _ q⟩
    cases q : G' p with
    | none => rfl
    | some u =>
      obtain ⟨w, hw⟩ := o.there
      have := hn p b (by rw [q]; simp)
      rw [hw] at this; cases this
  ln := S.ln
  inj := S.inj
  sf := fun i d e => by
    obtain ⟨p, a, b, c, m, z, o⟩ := S.sf i d e
    refine ⟨p, a, ?_, c, m, z, o.mono hG fun u q => hH _ _ q⟩
    cases q : G' p with
    | none => rfl
    | some u =>
      obtain ⟨w, hw⟩ := o.there
      have := hn p b (by rw [q]; simp)
      rw [hw] at this; cases this
  su := S.su
theorem StR.alloc (S : StR C G H σ ς) {p : Addr} {o : HO} (h : H p = none) : StR C (upd G p o) (upd H p o) σ ς :=
  S.grow (same_upd h) (same_upd (S.sub.free h)) (same_upd2 S.sub) fun b g n => by
    by_cases hb : b = p
    · subst hb; exact h
    · rw [upd_ne hb, g] at n; exact absurd rfl n
theorem StR.allocO (S : StR C G H σ ς) {p : Addr} {o : HO} (h : H p = none) : StR C G (upd H p o) σ ς :=
  S.grow (same_upd h) (Same.refl G) (S.sub.trans (same_upd h)) fun b g n => absurd g n
end
def KD (C : Dc) (G H : Hp) (σ : St) (ς : SD) (Q : VK) (d : D) : Prop := ∀ v H' G', StR C G' H' σ ς → Same H H' → Same G G' → Rep C.X.K C.CT G' d v → Q v H'
def KB (C : Dc) (G H : Hp) (σ : St) (ς : SD) (Q : VK) (d : D) : Prop := ∀ v H' G', StR C G' H' σ ς → Same H H' → Same G G' → Rep C.X.K C.CT H' d v → Q v H'
def KF (C : Dc) (G H : Hp) (σ : St) (ς : SD) (Q : VK) (d : D) : Prop := ∀ p H' G', StR C G' H' σ ς → Same H H' → Same G G' → H p = none → G' p = none → Own C.X.K C.CT G' H' p d → Q (.ref p) H'
def DE (C : Dc) (e : Expr) (E : SD → Out D) : Prop := ∃ t, PE C.X e t ∧ ∀ G H σ ς Q, StR C G H σ ς → (E ς).post (KD C G H σ ς Q) C.XD → t σ H Q
def DB (C : Dc) (e : Expr) (E : SD → Out D) : Prop := ∃ t, PE C.X e t ∧ ∀ G H σ ς Q, StR C G H σ ς → (E ς).post (KB C G H σ ς Q) C.XD → t σ H Q
def DF (C : Dc) (e : Expr) (E : SD → Out D) : Prop := ∃ t, PE C.X e t ∧ ∀ G H σ ς Q, StR C G H σ ς → (E ς).post (KF C G H σ ς Q) C.XD → t σ H Q
def KT (C : Dc) (G H : Hp) (σ : St) (ς : SD) (Q : Bool → Hp → Prop) (b : Bool) : Prop := ∀ H' G', StR C G' H' σ ς → Same H H' → Same G G' → Q b H'
def DT (C : Dc) (e : Expr) (T : SD → Out Bool) : Prop := ∃ t, PT C.X e t ∧ ∀ G H σ ς Q, StR C G H σ ς → (T ς).post (KT C G H σ ς Q) C.XD → t σ H Q
def DW (C : Dc) (e : Expr) (T : SD → Out Bool) : Prop := ∃ t, PW C.X e t ∧ ∀ G H σ ς Q, StR C G H σ ς → (T ς).post (KT C G H σ ς Q) C.XD → t σ H Q
def DA (C : Dc) (es : List Expr) (A : SD → Out (List D)) : Prop := ∃ t, PA C.X es t ∧ ∀ G H σ ς Q, StR C G H σ ς →
  (A ς).post (fun ds => ∀ vs H' G', StR C G' H' σ ς → Same H H' → Same G G' → RepL C.X.K C.CT G' ds vs → Q vs H') C.XD → t σ H Q
def DAB (C : Dc) (es : List Expr) (A : SD → Out (List D)) : Prop := ∃ t, PA C.X es t ∧ ∀ G H σ ς Q, StR C G H σ ς →
  (A ς).post (fun ds => ∀ vs H' G', StR C G' H' σ ς → Same H H' → Same G G' → RepL C.X.K C.CT H' ds vs → Q vs H') C.XD → t σ H Q
inductive Fl where
  | nx (ς : SD) | rt (fr : Bool) (d : D) | bk (ς : SD) | ct (ς : SD)
def RetR (K : PySem.W.Frag) (CT : CTab) (fr : Bool) (H0 G' H' : Hp) (d : D) (v : V) : Prop :=
  if fr = true then ∃ p, v = .ref p ∧ H0 p = none ∧ G' p = none ∧ Own K CT G' H' p d else Rep K CT G' d v
def FlK (C : Dc) (G : Hp) (W : Ends) : Fl → Prop
  | .nx ς' => ∀ σ' H' G', StR C G' H' σ' ς' → Same G G' → W.nx σ' H'
  | .bk ς' => ∀ σ' H' G', StR C G' H' σ' ς' → Same G G' → W.bk σ' H'
  | .ct ς' => ∀ σ' H' G', StR C G' H' σ' ς' → Same G G' → W.ct σ' H'
  | .rt fr d => ∀ v H' G', GH C G' H' → Same G G' → RetR C.X.K C.CT fr C.X.H₀ G' H' d v → W.rt v H'
def DS (C : Dc) (st : Stmt) (T : SD → Out Fl) : Prop := ∃ t, PS C.X st t ∧ ∀ G H σ ς W, StR C G H σ ς → (T ς).post (FlK C G W) C.XD → t W σ H
def DSs (C : Dc) (st : List Stmt) (T : SD → Out Fl) : Prop := ∃ t, PSs C.X st t ∧ ∀ G H σ ς W, StR C G H σ ς → (T ς).post (FlK C G W) C.XD → t W σ H
section
variable {C : Dc} {e : Expr} {E : SD → Out D}
theorem StR.freeze {G H : Hp} {σ : St} {ς : SD} (S : StR C G H σ ς) {p : Addr} {o : HO} (hp : H p = some o) (hg : G p = none) (h0 : C.X.H₀ p = none) (hn : ∀ (i : Nat) d, ς[i]? = some (some (.o, d)) → σ[i]? ≠ some (some (.ref p))) : StR C (upd G p o) H σ ς where
  sub := fun b u q => by
    by_cases hb : b = p
    · subst hb; rw [upd_same] at q; cases q; exact hp
    · rw [upd_ne hb] at q; exact S.sub b u q
  g0 := S.g0.trans (same_upd hg)
  new := fun b h1 h2 => by
    by_cases hb : b = p
    · subst hb; exact h0
    · rw [upd_ne hb] at h2; exact S.new b h1 h2
  fr := S.fr
  dom := S.dom
  bs := S.bs
  bh := S.bh
  len := S.len
  fz := fun i d q => let ⟨v, a, b⟩ := S.fz i d q; ⟨v, a, Rep.mono (same_upd hg) d v b⟩
  ow := fun i d q => by
    obtain ⟨r, a, b, c, w⟩ := S.ow i d q
    refine ⟨r, a, ?_, c, w.mono (same_upd hg) fun _ z => z⟩
    rw [upd_ne (by rintro rfl; exact hn i d q a)]; exact b
  ln := S.ln
  inj := S.inj
  sf := fun i d q => by
    obtain ⟨r, a, b, c, m, z, w⟩ := S.sf i d q
    refine ⟨r, a, ?_, c, m, z, w.mono (same_upd hg) fun _ z => z⟩
    rw [upd_ne (by rintro rfl; exact c h0)]; exact b
  su := S.su
theorem Own.known {K : PySem.W.Frag} {CT : CTab} {G H : Hp} {p : Addr} {o : HO} (hg : G p = none) (hp : H p = some o) : ∀ {d : D}, Own K CT G H p d → Rep K CT (upd G p o) d (.ref p)
  | .lst ds, ⟨vs, a, b⟩ => by rw [hp] at a; cases a; exact ⟨p, vs, rfl, SqL.of upd_same, RepL.mono (same_upd hg) ds vs b⟩
  | .dic ds, ⟨vs, a, b⟩ => by rw [hp] at a; cases a; exact ⟨p, vs, rfl, Rd.of upd_same, RepK.mono (same_upd hg) ds vs b⟩
  | .ins _ ds, ⟨A, dx, fs, e, a, b⟩ => by rw [hp] at a; cases a; exact ⟨p, A, dx, fs, rfl, e, upd_same, RepF.mono (same_upd hg) ds fs b⟩
  | .non, h => h.elim
  | .bl _, h => h.elim
  | .int _, h => h.elim
  | .str _, h => h.elim
  | .tup _, h => h.elim
theorem StR.new_ne {G H : Hp} {σ : St} {ς : SD} (S : StR C G H σ ς) {p : Addr} (h : H p = none) : ∀ (i : Nat) d, ς[i]? = some (some (.o, d)) → σ[i]? ≠ some (some (.ref p)) := fun i d q z => by
  obtain ⟨o, w⟩ := S.own_ne q z
  rw [h] at w; cases w
theorem KD.ofF {G H : Hp} {σ : St} {ς : SD} {Q : VK} {d : D} (S : StR C G H σ ς) (k : KD C G H σ ς Q d) : KF C G H σ ς Q d := fun p H' G' S' hH hG hp hg ow => by
  obtain ⟨o, ho⟩ := ow.there
  exact k _ _ _ (S'.freeze ho hg (S.h0none hp) (S.new_ne hp)) hH (hG.trans (same_upd hg)) (ow.known hg ho)
theorem DF.de (h : DF C e E) : DE C e E := by
  obtain ⟨t, h1, h2⟩ := h
  refine ⟨t, h1, fun G H σ ς Q S q => h2 G H σ ς Q S (Out.post_mono q fun d k => KD.ofF S k)⟩
theorem DE.db (h : DE C e E) : DB C e E := by
  obtain ⟨t, h1, h2⟩ := h
  refine ⟨t, h1, fun G H σ ς Q S q => h2 G H σ ς Q S (Out.post_mono q fun d k v H' G' S' a b r => k v H' G' S' a b (Rep.mono S'.sub d v r))⟩
def D.scal : D → Bool
  | .non => true
  | .bl _ => true
  | .int _ => true
  | .str _ => true
  | _ => false
theorem Rep.scal {K : PySem.W.Frag} {CT : CTab} {G H : Hp} : ∀ {d : D} {v : V}, d.scal = true → Rep K CT H d v → Rep K CT G d v
  | .non, _, _, h => h
  | .bl _, _, _, h => h
  | .int _, _, _, h => h
  | .str _, _, _, h => h
theorem KD.now {G H : Hp} {σ : St} {ς : SD} {Q : VK} {d : D} {v : V} (k : KD C G H σ ς Q d) (S : StR C G H σ ς) (r : Rep C.X.K C.CT G d v) : Q v H := k v H G S (Same.refl H) (Same.refl G) r
theorem KB.now {G H : Hp} {σ : St} {ς : SD} {Q : VK} {d : D} {v : V} (k : KB C G H σ ς Q d) (S : StR C G H σ ς) (r : Rep C.X.K C.CT H d v) : Q v H := k v H G S (Same.refl H) (Same.refl G) r
theorem KT.now {G H : Hp} {σ : St} {ς : SD} {Q : Bool → Hp → Prop} {b : Bool} (k : KT C G H σ ς Q b) (S : StR C G H σ ς) : Q b H := k H G S (Same.refl H) (Same.refl G)
theorem KD.later {G H G1 H1 : Hp} {σ : St} {ς : SD} {Q : VK} {d : D} (k : KD C G H σ ς Q d) (hH : Same H H1) (hG : Same G G1) : KD C G1 H1 σ ς Q d := fun v H' G' S a b r => k v H' G' S (hH.trans a) (hG.trans b) r
theorem KT.later {G H G1 H1 : Hp} {σ : St} {ς : SD} {Q : Bool → Hp → Prop} {d : Bool} (k : KT C G H σ ς Q d) (hH : Same H H1) (hG : Same G G1) : KT C G1 H1 σ ς Q d := fun H' G' S a b => k H' G' S (hH.trans a) (hG.trans b)
theorem KF.later {G H G1 H1 : Hp} {σ : St} {ς : SD} {Q : VK} {d : D} (k : KF C G H σ ς Q d) (hH : Same H H1) (hG : Same G G1) : KF C G1 H1 σ ς Q d := fun p H' G' S a b hp hg ow => k p H' G' S (hH.trans a) (hG.trans b) (hH.free hp) hg ow
theorem KF.lst {G H : Hp} {σ : St} {ς : SD} {Q : VK} {ds : List D} {vs : List V} (k : KF C G H σ ς Q (.lst ds)) (S : StR C G H σ ς) (r : RepL C.X.K C.CT G ds vs) : ∀ p, H p = none → Q (.ref p) (upd H p (.lst vs)) := fun p hp =>
  k p _ G (S.allocO hp) (same_upd hp) (Same.refl G) hp (S.gnone hp) ⟨vs, upd_same, r⟩
theorem KD.tup {G H : Hp} {σ : St} {ς : SD} {Q : VK} {ds : List D} {vs : List V} (k : KD C G H σ ς Q (.tup ds)) (S : StR C G H σ ς) (r : RepL C.X.K C.CT G ds vs) : ∀ p, H p = none → Q (.ref p) (upd H p (.tup vs)) := fun p hp =>
  k _ _ _ (S.alloc hp) (same_upd hp) (same_upd (S.gnone hp)) ⟨p, vs, rfl, SqT.of upd_same, RepL.mono (same_upd (S.gnone hp)) ds vs r⟩
end
end DL
set_option Elab.async false
set_option linter.all false
set_option maxRecDepth 100000
namespace DL
open PySem PySem.Spec PyProof.Rows L2
def eVar (i : Nat) : SD → Out D := fun ς => match ς[i]? with | some (some (.k, d)) => .ok d | _ => .stuck
def eVarB (i : Nat) : SD → Out D := fun ς => match ς[i]? with | some (some (_, d)) => .ok d | _ => .stuck
def eC (d : D) : SD → Out D := fun _ => .ok d
section
variable {C : Dc} {pos : Pos}
theorem post_var {i : Nat} {ς : SD} {k : D → Prop} {x : D → Prop} (h : (eVar i ς).post k x) : ∃ d, ς[i]? = some (some (.k, d)) ∧ k d := by
  unfold eVar at h
  split at h
  · rename_i d e; exact ⟨d, e, h⟩
  · exact h.elim
theorem post_varB {i : Nat} {ς : SD} {k : D → Prop} {x : D → Prop} (h : (eVarB i ς).post k x) : ∃ b d, ς[i]? = some (some (b, d)) ∧ k d := by
  unfold eVarB at h
  split at h
  · rename_i b d e; exact ⟨b, d, e, h⟩
  · exact h.elim
theorem de_var (i : Nat) {x : Str} (hN : C.X.N[i]? = some x := by rfl) (hv : Vis C.X.env.scope x := by first | exact Or.inl rfl | exact Or.inr (Or.inl rfl) | exact Or.inr (Or.inr rfl))
    (hd : (x == ("__debug__" : Str)) = false := by decide) (hcd : (x == ("__classdict__" : Str)) = false := by decide) : DE C (.Name x pos) (eVar i) := by
  refine ⟨_, pe_var (i := i) hN hv hd hcd, fun G H σ ς Q S q => ?_⟩
  obtain ⟨d, e, k⟩ := post_var q
  obtain ⟨v, a, b⟩ := S.fz i d e
  exact ⟨v, a, k.now S b⟩
theorem db_var (i : Nat) {x : Str} (hN : C.X.N[i]? = some x := by rfl) (hv : Vis C.X.env.scope x := by first | exact Or.inl rfl | exact Or.inr (Or.inl rfl) | exact Or.inr (Or.inr rfl))
    (hd : (x == ("__debug__" : Str)) = false := by decide) (hcd : (x == ("__classdict__" : Str)) = false := by decide) : DB C (.Name x pos) (eVarB i) := by
  refine ⟨_, pe_var (i := i) hN hv hd hcd, fun G H σ ς Q S q => ?_⟩
  obtain ⟨b, d, e, k⟩ := post_varB q
  cases b with
  | k =>
    obtain ⟨v, a, b⟩ := S.fz i d e
    exact ⟨v, a, k.now S (Rep.mono S.sub d v b)⟩
  | o =>
    obtain ⟨p, a, b, c, w⟩ := S.ow i d e
    exact ⟨_, a, k.now S (w.rep S.sub)⟩
  | l =>
    obtain ⟨v, a, b⟩ := S.ln i d e
    exact ⟨v, a, k.now S (Rep.mono S.bs d v b)⟩
  | s =>
    obtain ⟨p, a, b, c, m, z, w⟩ := S.sf i d e
    exact ⟨_, a, k.now S (w.rep S.sub)⟩
theorem de_int {i : Int} {j} : DE C (.Constant (.int i) j pos) (eC (.int i)) := ⟨_, pe_int, fun G H σ ς Q S q => KD.now q S rfl⟩
theorem de_bl {b : Bool} {j} : DE C (.Constant (.bool b) j pos) (eC (.bl b)) := ⟨_, pe_bl, fun G H σ ς Q S q => KD.now q S rfl⟩
theorem de_non {j} : DE C (.Constant .none j pos) (eC .non) := ⟨_, pe_non, fun G H σ ς Q S q => KD.now q S rfl⟩
theorem de_str {x : Str} {j} : DE C (.Constant (.str x) j pos) (eC (.str x)) := ⟨_, pe_str, fun G H σ ς Q S q => KD.now q S rfl⟩
def toV : D → V
  | .bl b => .bl b
  | .int i => .int i
  | .str x => .str x
  | _ => .non
theorem toV_rep {K : PySem.W.Frag} {CT : CTab} {H : Hp} : ∀ {d : D}, d.scal = true → Rep K CT H d (toV d)
  | .non, _ => rfl
  | .bl _, _ => rfl
  | .int _, _ => rfl
  | .str _, _ => rfl
theorem de_glob {x : Str} {d : D} {u : Value} (hg : Gl C.X x) (hm : C.X.mg x = some u) (hs : d.scal = true) (r : RelV (toV d) u) (hd : (x == ("__debug__" : Str)) = false := by decide) : DE C (.Name x pos) (eC d) :=
  ⟨_, pe_glob hg hm r hd, fun G H σ ς Q S q => KD.now q S (toV_rep hs)⟩
end
def e1 (f : D → Out D) (a : SD → Out D) : SD → Out D := fun ς => a ς >>= f
def e2 (f : D → D → Out D) (a b : SD → Out D) : SD → Out D := fun ς => a ς >>= fun x => b ς >>= fun y => f x y
def DRS (C : Dc) (r : R2) (f : D → D → Out D) : Prop := ∀ G H σ ς (Q : VK) x y vx vy, StR C G H σ ς → Rep C.X.K C.CT H x vx → Rep C.X.K C.CT H y vy →
  (f x y).post (fun d => d.scal = true ∧ Q (toV d) H) (fun _ => False) → r vx vy H Q
def scal2 (f : D → D → Out D) : Prop := ∀ x y, match f x y with | .ok d => d.scal = true | .exc _ => False | .stuck => True
section
variable {C : Dc} {a b c : Expr} {A B A' : SD → Out D} {pos : Pos}
theorem post_of_scal {o : Out D} {G H : Hp} {σ : St} {ς : SD} {Q : VK} (S : StR C G H σ ς) (hs : match o with | .ok d => d.scal = true | .exc _ => False | .stuck => True) (q : o.post (KD C G H σ ς Q) C.XD) :
    o.post (fun d => d.scal = true ∧ Q (toV d) H) (fun _ => False) := by
  cases o with
  | ok d => exact ⟨hs, KD.now q S (toV_rep hs)⟩
  | exc _ => exact hs
  | stuck => exact q
theorem dop {t : TE} {r : R2} {f : D → D → Out D} {ta tb : TE} (hr : DRS C r f) (hs : scal2 f)
    (h1 : ∀ G H σ ς Q, StR C G H σ ς → (A ς).post (KB C G H σ ς Q) C.XD → ta σ H Q) (h2 : ∀ G H σ ς Q, StR C G H σ ς → (B ς).post (KB C G H σ ς Q) C.XD → tb σ H Q) :
    ∀ G H σ ς Q, StR C G H σ ς → (e2 f A B ς).post (KD C G H σ ς Q) C.XD → tOp r ta tb σ H Q := by
  intro G H σ ς Q S q
  unfold e2 at q
  rw [Out.post_bind] at q
  refine h1 G H σ ς _ S (Out.post_mono q fun x k v1 H1 G1 S1 a1 b1 r1 => ?_)
  rw [Out.post_bind] at k
  refine h2 G1 H1 σ ς _ S1 (Out.post_mono k fun y k2 v2 H2 G2 S2 a2 b2 r2 => ?_)
  refine hr G2 H2 σ ς _ x y v1 v2 S2 (Rep.mono a2 x v1 r1) r2 (post_of_scal S2 (hs x y) ?_)
  exact Out.post_mono k2 fun d kd => KD.later kd (a1.trans a2) (b1.trans b2)
theorem de_op {op : Operator} {r : R2} {f : D → D → Out D} (ho : OpR C.X (binaryOp op) r) (hr : DRS C r f) (hs : scal2 f) (ha : DB C a A) (hb : DB C b B) : DE C (.BinOp a op b pos) (e2 f A B) := by
  obtain ⟨ta, p1, q1⟩ := ha
  obtain ⟨tb, p2, q2⟩ := hb
  exact ⟨_, pe_op ho p1 p2, dop (t := ta) hr hs q1 q2⟩
theorem de_cmp {op : CmpOp} {r : R2} {f : D → D → Out D} (ho : OpR C.X (compareOp op) r) (hr : DRS C r f) (hs : scal2 f) (ha : DB C a A) (hb : DB C b B) (hm : behindInMarks op b = false) : DE C (.Compare a [op] [b] pos) (e2 f A B) := by
  obtain ⟨ta, p1, q1⟩ := ha
  obtain ⟨tb, p2, q2⟩ := hb
  exact ⟨_, pe_cmpR ho p1 p2 hm, dop (t := ta) hr hs q1 q2⟩
def tVal (a : SD → Out D) : SD → Out Bool := fun ς => a ς >>= fun d => match d with | .bl b => .ok b | _ => .stuck
theorem post_tVal {o : Out D} {G H : Hp} {σ : St} {ς : SD} {Q : Bool → Hp → Prop} (q : (o >>= fun d => match d with | .bl b => Out.ok b | _ => .stuck).post (KT C G H σ ς Q) C.XD) :
    o.post (KD C G H σ ς fun x H' => ∃ k, x = .bl k ∧ Q k H') C.XD := by
  rw [Out.post_bind] at q
  refine Out.post_mono q fun d k v H' G' S' a b r => ?_
  cases d with
  | bl c => exact ⟨c, r, k H' G' S' a b⟩
  | _ => exact k.elim
theorem dt_cmp {op : CmpOp} {r : R2} {f : D → D → Out D} (ho : OpR C.X (compareOp op) r) (hr : DRS C r f) (hs : scal2 f) (ha : DB C a A) (hb : DB C b B) (hm : behindInMarks op b = false) : DT C (.Compare a [op] [b] pos) (tVal (e2 f A B)) := by
  obtain ⟨ta, p1, q1⟩ := ha
  obtain ⟨tb, p2, q2⟩ := hb
  exact ⟨_, pt_cmpR ho p1 p2 hm, fun G H σ ς Q S q => dop (t := ta) hr hs q1 q2 G H σ ς _ S (post_tVal q)⟩
theorem dt_val (h : DE C a A) (he : ∀ whole, isTrue a C.X.env whole = (do let v ← whole; standAt a.pos; holding [v] (truthy v)) := by intro _; rfl) : DT C a (tVal A) := by
  obtain ⟨ta, p1, q1⟩ := h
  exact ⟨_, pt_val p1 he, fun G H σ ς Q S q => q1 G H σ ς _ S (post_tVal q)⟩
def eChain (f g : D → D → Out D) (a b c : SD → Out D) : SD → Out D := fun ς => a ς >>= fun x => b ς >>= fun y => f x y >>= fun z => match z with
  | .bl true => c ς >>= fun w => g y w
  | .bl false => .ok (.bl false)
  | _ => .stuck
theorem dchain {r r' : R2} {f g : D → D → Out D} {ta tb tc : TE} (hr : DRS C r f) (hs : scal2 f) (hr' : DRS C r' g) (hs' : scal2 g)
    (h1 : ∀ G H σ ς Q, StR C G H σ ς → (A ς).post (KB C G H σ ς Q) C.XD → ta σ H Q) (h2 : ∀ G H σ ς Q, StR C G H σ ς → (B ς).post (KB C G H σ ς Q) C.XD → tb σ H Q)
    (h3 : ∀ G H σ ς Q, StR C G H σ ς → (A' ς).post (KB C G H σ ς Q) C.XD → tc σ H Q) :
    ∀ G H σ ς Q, StR C G H σ ς → (eChain f g A B A' ς).post (KD C G H σ ς Q) C.XD → tChain r r' ta tb tc σ H Q := by
  intro G H σ ς Q S q
  unfold eChain at q
  rw [Out.post_bind] at q
  refine h1 G H σ ς _ S (Out.post_mono q fun x k v1 H1 G1 S1 a1 b1 r1 => ?_)
  rw [Out.post_bind] at k
  refine h2 G1 H1 σ ς _ S1 (Out.post_mono k fun y k2 v2 H2 G2 S2 a2 b2 r2 => ?_)
  rw [Out.post_bind] at k2
  refine hr G2 H2 σ ς _ x y v1 v2 S2 (Rep.mono a2 x v1 r1) r2 ?_
  have hxy := hs x y
  cases e : f x y with
  | exc _ => rw [e] at hxy; exact hxy
  | stuck => rw [e] at k2; exact k2.elim
  | ok z =>
    rw [e] at k2
    refine ⟨by rw [e] at hxy; exact hxy, ?_⟩
    cases z with
    | bl cc =>
      refine ⟨cc, rfl, ?_⟩
      cases cc with
      | false => exact iteF (KD.now (KD.later (show KD C G H σ ς Q (.bl false) from k2) (a1.trans a2) (b1.trans b2)) S2 rfl)
      | true =>
        refine iteT (h3 G2 H2 σ ς _ S2 ?_)
        have k2' : (A' ς >>= fun w => g y w).post (KD C G H σ ς Q) C.XD := k2
        rw [Out.post_bind] at k2'
        refine Out.post_mono k2' fun w k3 v3 H3 G3 S3 a3 b3 r3 => ?_
        refine hr' G3 H3 σ ς _ y w v2 v3 S3 (Rep.mono a3 y v2 r2) r3 (post_of_scal S3 (hs' y w) ?_)
        exact Out.post_mono k3 fun d kd => KD.later kd ((a1.trans a2).trans a3) ((b1.trans b2).trans b3)
    | _ => exact k2.elim
theorem de_chain {op op' : CmpOp} {r r' : R2} {f g : D → D → Out D} (ho : OpR C.X (compareOp op) r) (hr : DRS C r f) (hs : scal2 f) (ho' : OpR C.X (compareOp op') r') (hr' : DRS C r' g) (hs' : scal2 g)
    (ha : DB C a A) (hb : DB C b B) (hc : DB C c A') (hm : lastMarks [op, op'] [b, c] = false := by with_unfolding_all rfl) : DE C (.Compare a [op, op'] [b, c] pos) (eChain f g A B A') := by
  obtain ⟨ta, p1, q1⟩ := ha
  obtain ⟨tb, p2, q2⟩ := hb
  obtain ⟨tc, p3, q3⟩ := hc
  exact ⟨_, pe_chain ho ho' p1 p2 p3 hm, dchain hr hs hr' hs' q1 q2 q3⟩
theorem dt_chain {op op' : CmpOp} {r r' : R2} {f g : D → D → Out D} (ho : OpR C.X (compareOp op) r) (hr : DRS C r f) (hs : scal2 f) (ho' : OpR C.X (compareOp op') r') (hr' : DRS C r' g) (hs' : scal2 g)
    (ha : DB C a A) (hb : DB C b B) (hc : DB C c A') (hm : lastMarks [op, op'] [b, c] = false := by with_unfolding_all rfl) : DT C (.Compare a [op, op'] [b, c] pos) (tVal (eChain f g A B A')) := by
  obtain ⟨ta, p1, q1⟩ := ha
  obtain ⟨tb, p2, q2⟩ := hb
  obtain ⟨tc, p3, q3⟩ := hc
  exact ⟨_, pt_chain ho ho' p1 p2 p3 hm, fun G H σ ς Q S q => dchain hr hs hr' hs' q1 q2 q3 G H σ ς _ S (post_tVal q)⟩
end
section
variable {C : Dc}
def dI (cnd : Int → Int → Bool) (g : Int → Int → D) : D → D → Out D
  | .int i, .int j => if cnd i j = true then .ok (g i j) else .stuck
  | _, _ => .stuck
def dI0 (g : Int → Int → D) : D → D → Out D
  | .int i, .int j => .ok (g i j)
  | _, _ => .stuck
theorem post_ite {α : Type} {c : Prop} [Decidable c] {a b : Out α} {k : α → Prop} {x : D → Prop} (h : (if c then a else b).post k x) : (c ∧ a.post k x) ∨ (¬ c ∧ b.post k x) := by
  by_cases e : c
  · rw [if_pos e] at h; exact .inl ⟨e, h⟩
  · rw [if_neg e] at h; exact .inr ⟨e, h⟩
theorem scal_ite {c : Prop} [Decidable c] {d : D} (h : d.scal = true) : match (if c then Out.ok d else Out.stuck : Out D) with | .ok d => d.scal = true | .exc _ => False | .stuck => True := by
  by_cases e : c
  · rw [if_pos e]; exact h
  · rw [if_neg e]; exact True.intro
theorem scal_dI {cnd : Int → Int → Bool} {g : Int → Int → D} (h : ∀ i j, (g i j).scal = true) : scal2 (dI cnd g) := by
  intro x y
  cases x with
  | int i =>
    cases y with
    | int j => exact scal_ite (h i j)
    | _ => exact True.intro
  | _ => exact True.intro
theorem scal_dI0 {g : Int → Int → D} (h : ∀ i j, (g i j).scal = true) : scal2 (dI0 g) := by
  intro x y
  cases x <;> cases y <;> simp [dI0, h]
theorem drs_dI {cnd : Int → Int → Bool} {P : Int → Int → Prop} {g : Int → Int → D} (hP : ∀ i j, cnd i j = true → P i j) : DRS C (rI P fun i j => toV (g i j)) (dI cnd g) := by
  intro G H σ ς Q x y vx vy S hx hy q
  cases x with
  | int i =>
    cases y with
    | int j =>
      cases hx; cases hy
      refine ⟨i, j, rfl, rfl, ?_⟩
      rcases post_ite (show (if cnd i j = true then Out.ok (g i j) else Out.stuck).post _ _ from q) with ⟨hc, q⟩ | ⟨hc, q⟩
      · exact ⟨hP i j hc, q.2⟩
      · exact q.elim
    | _ => exact q.elim
  | _ => exact q.elim
theorem drs_dI0 {g : Int → Int → D} : DRS C (rI0 fun i j => toV (g i j)) (dI0 g) := by
  intro G H σ ς Q x y vx vy S hx hy q
  cases x with
  | int i =>
    cases y with
    | int j =>
      cases hx; cases hy
      exact ⟨i, j, rfl, rfl, q.2⟩
    | _ => exact q.elim
  | _ => exact q.elim
variable {a b c : Expr} {A B : SD → Out D} {pos : Pos}
def dSub : D → D → Out D := dI0 fun i j => .int (i - j)
def big (i : Int) : Bool := decide (i.natAbs < 2 ^ 9000)
def dMul : D → D → Out D := dI (fun i j => decide (Builtin.Int.intBits i + Builtin.Int.intBits j ≤ 134217728)) fun i j => .int (i * j)
def dFdiv : D → D → Out D := dI (fun i j => decide (j ≠ 0) && big j) fun i j => .int (i.fdiv j)
def dMod : D → D → Out D := dI (fun i j => decide (j ≠ 0)) fun i j => .int (i.fmod j)
theorem big_bits {i : Int} (h : big i = true) : i.natAbs.log2 < 9000 := by
  have h' : i.natAbs < 2 ^ 9000 := of_decide_eq_true h
  by_cases z : i.natAbs = 0
  · rw [z]; decide
  · exact (Nat.log2_lt z).mpr h'
theorem op_mulB {X : Cx} : OpR X (binaryOp .Mult) (rI IntMulOk fun i j => .int (i * j)) := opI fun _ _ _ _ _ _ _ hc q => mul_int q hc
def CDivB (i j : Int) : Prop := j ≠ 0 ∧ j.natAbs.log2 < 9000
theorem op_fdivB {X : Cx} : OpR X (binaryOp .FloorDiv) (rI CDivB fun i j => .int (i.fdiv j)) := opI fun _ _ _ _ _ _ _ hc q => floordiv_int hc.1 q (.inl (PyProof.noPylong_of_log2 hc.2))
theorem de_sub (ha : DB C a A) (hb : DB C b B) : DE C (.BinOp a .Sub b pos) (e2 dSub A B) := de_op op_sub drs_dI0 (scal_dI0 fun _ _ => rfl) ha hb
theorem de_mul (ha : DB C a A) (hb : DB C b B) : DE C (.BinOp a .Mult b pos) (e2 dMul A B) := de_op op_mulB (drs_dI fun i j h => IntMulOk.of_le (Nat.le_refl _) (Nat.le_refl _) (of_decide_eq_true h)) (scal_dI fun _ _ => rfl) ha hb
theorem de_fdiv (ha : DB C a A) (hb : DB C b B) : DE C (.BinOp a .FloorDiv b pos) (e2 dFdiv A B) := de_op op_fdivB (drs_dI fun i j h => by
  rw [Bool.and_eq_true] at h
  exact ⟨of_decide_eq_true h.1, big_bits h.2⟩) (scal_dI fun _ _ => rfl) ha hb
theorem de_mod (ha : DB C a A) (hb : DB C b B) : DE C (.BinOp a .Mod b pos) (e2 dMod A B) := de_op op_modN (drs_dI fun i j h => of_decide_eq_true h) (scal_dI fun _ _ => rfl) ha hb
def dAdd : D → D → Out D
  | .int i, .int j => .ok (.int (i + j))
  | .str x, .str y => if x.length + y.length ≤ sizeLine then .ok (.str (x ++ y)) else .stuck
  | _, _ => .stuck
theorem de_add (ha : DB C a A) (hb : DB C b B) : DE C (.BinOp a .Add b pos) (e2 dAdd A B) := by
  refine de_op (op_add.or op_add_str) ?_ ?_ ha hb
  · intro G H σ ς Q x y vx vy S hx hy q
    cases x with
    | int i =>
      cases y with
      | int j =>
        cases hx; cases hy
        exact .inl ⟨i, j, rfl, rfl, q.2⟩
      | _ => exact q.elim
    | str i =>
      cases y with
      | str j =>
        cases hx; cases hy
        rcases post_ite (show (if i.length + j.length ≤ sizeLine then Out.ok (D.str (i ++ j)) else Out.stuck).post _ _ from q) with ⟨hc, q⟩ | ⟨hc, q⟩
        · exact .inr ⟨i, j, rfl, rfl, hc, q.2⟩
        · exact q.elim
      | _ => exact q.elim
    | _ => exact q.elim
  · intro x y
    cases x with
    | int i =>
      cases y with
      | int j => exact rfl
      | _ => exact True.intro
    | str i =>
      cases y with
      | str j => exact scal_ite rfl
      | _ => exact True.intro
    | _ => exact True.intro
def dLt : D → D → Out D := dI0 fun i j => .bl (decide (i < j))
def dLe : D → D → Out D := dI0 fun i j => .bl (decide (i ≤ j))
def dGt : D → D → Out D := dI0 fun i j => .bl (decide (j < i))
def dGe : D → D → Out D := dI0 fun i j => .bl (decide (j ≤ i))
end
section
variable {C : Dc} {a b c : Expr} {A B : SD → Out D} {pos : Pos}
def dNeg : D → Out D
  | .int i => .ok (.int (-i))
  | _ => .stuck
theorem de_neg (ha : DB C a A) : DE C (.UnaryOp .USub a pos) (e1 dNeg A) := by
  obtain ⟨ta, p1, q1⟩ := ha
  refine ⟨_, pe_un un_neg p1, fun G H σ ς Q S q => ?_⟩
  unfold e1 at q
  rw [Out.post_bind] at q
  refine q1 G H σ ς _ S (Out.post_mono q fun x k v1 H1 G1 S1 a1 b1 r1 => ?_)
  cases x with
  | int i => cases r1; exact ⟨i, rfl, KD.now (KD.later k a1 b1) S1 rfl⟩
  | _ => exact k.elim
variable {TA TB : SD → Out Bool} {rest : List Expr}
def tAnd' (a b : SD → Out Bool) : SD → Out Bool := fun ς => a ς >>= fun c => if c = true then b ς else .ok false
def tOr' (a b : SD → Out Bool) : SD → Out Bool := fun ς => a ς >>= fun c => if c = true then .ok true else b ς
def tNot' (a : SD → Out Bool) : SD → Out Bool := fun ς => a ς >>= fun c => .ok (!c)
theorem DW.dt {e : Expr} {T : SD → Out Bool} (h : DW C e T) : DT C e T := let ⟨t, p, q⟩ := h; ⟨t, p.pt, q⟩
theorem dw_and1 (ha : DT C a TA) : DW C (.BoolOp .And [a] pos) TA := let ⟨t, p, q⟩ := ha; ⟨t, pw_and1 p, q⟩
theorem dw_or1 (ha : DT C a TA) : DW C (.BoolOp .Or [a] pos) TA := let ⟨t, p, q⟩ := ha; ⟨t, pw_or1 p, q⟩
theorem dw_and (ha : DT C a TA) (hb : DW C (.BoolOp .And (b :: rest) pos) TB) : DW C (.BoolOp .And (a :: b :: rest) pos) (tAnd' TA TB) := by
  obtain ⟨t1, p1, q1⟩ := ha
  obtain ⟨t2, p2, q2⟩ := hb
  refine ⟨_, pw_and p1 p2, fun G H σ ς Q S q => ?_⟩
  unfold tAnd' at q
  rw [Out.post_bind] at q
  refine q1 G H σ ς _ S (Out.post_mono q fun x k H1 G1 S1 a1 b1 => ?_)
  cases x with
  | true => exact iteT (q2 G1 H1 σ ς _ S1 (Out.post_mono (show (TB ς).post _ _ from k) fun x k => KT.later k a1 b1))
  | false => exact iteF (KT.now (KT.later (show KT C G H σ ς Q false from k) a1 b1) S1)
theorem dw_or (ha : DT C a TA) (hb : DW C (.BoolOp .Or (b :: rest) pos) TB) : DW C (.BoolOp .Or (a :: b :: rest) pos) (tOr' TA TB) := by
  obtain ⟨t1, p1, q1⟩ := ha
  obtain ⟨t2, p2, q2⟩ := hb
  refine ⟨_, pw_or p1 p2, fun G H σ ς Q S q => ?_⟩
  unfold tOr' at q
  rw [Out.post_bind] at q
  refine q1 G H σ ς _ S (Out.post_mono q fun x k H1 G1 S1 a1 b1 => ?_)
  cases x with
  | true => exact iteT (KT.now (KT.later (show KT C G H σ ς Q true from k) a1 b1) S1)
  | false => exact iteF (q2 G1 H1 σ ς _ S1 (Out.post_mono (show (TB ς).post _ _ from k) fun x k => KT.later k a1 b1))
theorem dt_not (ha : DT C a TA) : DT C (.UnaryOp .Not a pos) (tNot' TA) := by
  obtain ⟨t1, p1, q1⟩ := ha
  refine ⟨_, pt_not p1, fun G H σ ς Q S q => ?_⟩
  unfold tNot' at q
  rw [Out.post_bind] at q
  exact q1 G H σ ς _ S (Out.post_mono q fun x k H1 G1 S1 a1 b1 => k H1 G1 S1 a1 b1)
def eAnd (a b : SD → Out D) : SD → Out D := fun ς => a ς >>= fun d => match d with | .bl true => b ς | .bl false => .ok (.bl false) | _ => .stuck
def eOr (a b : SD → Out D) : SD → Out D := fun ς => a ς >>= fun d => match d with | .bl true => .ok (.bl true) | .bl false => b ς | _ => .stuck
def eNot (a : SD → Out D) : SD → Out D := fun ς => a ς >>= fun d => match d with | .bl c => .ok (.bl (!c)) | _ => .stuck
theorem de_one {op} (h : DE C a A) : DE C (.BoolOp op [a] pos) A := let ⟨t, p, q⟩ := h; ⟨t, pe_one p, q⟩
theorem de_and (ha : DE C a A) (hb : DE C (.BoolOp .And (b :: rest) pos) B) : DE C (.BoolOp .And (a :: b :: rest) pos) (eAnd A B) := by
  obtain ⟨t1, p1, q1⟩ := ha
  obtain ⟨t2, p2, q2⟩ := hb
  refine ⟨_, pe_and p1 p2, fun G H σ ς Q S q => ?_⟩
  unfold eAnd at q
  rw [Out.post_bind] at q
  refine q1 G H σ ς _ S (Out.post_mono q fun x k v1 H1 G1 S1 a1 b1 r1 => ?_)
  cases x with
  | bl c =>
    refine ⟨c, r1, ?_⟩
    cases c with
    | true => exact iteT (q2 G1 H1 σ ς _ S1 (Out.post_mono (show (B ς).post _ _ from k) fun x k => KD.later k a1 b1))
    | false => exact iteF (KD.now (KD.later (show KD C G H σ ς Q (.bl false) from k) a1 b1) S1 rfl)
  | _ => exact k.elim
theorem de_not (ha : DE C a A) : DE C (.UnaryOp .Not a pos) (eNot A) := by
  obtain ⟨t1, p1, q1⟩ := ha
  refine ⟨_, pe_not p1, fun G H σ ς Q S q => ?_⟩
  unfold eNot at q
  rw [Out.post_bind] at q
  refine q1 G H σ ς _ S (Out.post_mono q fun x k v1 H1 G1 S1 a1 b1 r1 => ?_)
  cases x with
  | bl c => exact ⟨c, r1, KD.now (KD.later (show KD C G H σ ς Q (.bl (!c)) from k) a1 b1) S1 rfl⟩
  | _ => exact k.elim
def eIf (t : SD → Out Bool) (a b : SD → Out D) : SD → Out D := fun ς => t ς >>= fun c => if c = true then a ς else b ς
end
end DL
set_option Elab.async false
set_option linter.all false
set_option maxRecDepth 100000
namespace DL
open PySem PySem.Spec PyProof.Rows L2
def aNil : SD → Out (List D) := fun _ => .ok []
def aCons (a : SD → Out D) (r : SD → Out (List D)) : SD → Out (List D) := fun ς => a ς >>= fun x => r ς >>= fun xs => .ok (x :: xs)
section
variable {C : Dc} {e : Expr} {es : List Expr} {E : SD → Out D} {A : SD → Out (List D)} {pos : Pos}
theorem da_nil : DA C [] aNil := ⟨_, pa_nil, fun G H σ ς Q S q => q [] H G S (Same.refl H) (Same.refl G) rfl⟩
theorem dab_nil : DAB C [] aNil := ⟨_, pa_nil, fun G H σ ς Q S q => q [] H G S (Same.refl H) (Same.refl G) rfl⟩
theorem da_cons (ha : DE C e E) (hr : DA C es A) (hs : starEach (e :: es) C.X.env = (false, eval e C.X.env) :: starEach es C.X.env := by rfl) : DA C (e :: es) (aCons E A) := by
  obtain ⟨t1, p1, q1⟩ := ha
  obtain ⟨t2, p2, q2⟩ := hr
  refine ⟨_, pa_cons p1 p2 hs, fun G H σ ς Q S q => ?_⟩
  unfold aCons at q
  rw [Out.post_bind] at q
  refine q1 G H σ ς _ S (Out.post_mono q fun x k v1 H1 G1 S1 a1 b1 r1 => ?_)
  rw [Out.post_bind] at k
  refine q2 G1 H1 σ ς _ S1 (Out.post_mono k fun xs k2 vs H2 G2 S2 a2 b2 r2 => ?_)
  exact k2 (v1 :: vs) H2 G2 S2 (a1.trans a2) (b1.trans b2) ⟨v1, vs, rfl, Rep.mono b2 x v1 r1, r2⟩
theorem dab_cons (ha : DB C e E) (hr : DAB C es A) (hs : starEach (e :: es) C.X.env = (false, eval e C.X.env) :: starEach es C.X.env := by rfl) : DAB C (e :: es) (aCons E A) := by
  obtain ⟨t1, p1, q1⟩ := ha
  obtain ⟨t2, p2, q2⟩ := hr
  refine ⟨_, pa_cons p1 p2 hs, fun G H σ ς Q S q => ?_⟩
  unfold aCons at q
  rw [Out.post_bind] at q
  refine q1 G H σ ς _ S (Out.post_mono q fun x k v1 H1 G1 S1 a1 b1 r1 => ?_)
  rw [Out.post_bind] at k
  refine q2 G1 H1 σ ς _ S1 (Out.post_mono k fun xs k2 vs H2 G2 S2 a2 b2 r2 => ?_)
  exact k2 (v1 :: vs) H2 G2 S2 (a1.trans a2) (b1.trans b2) ⟨v1, vs, rfl, Rep.mono a2 x v1 r1, r2⟩
def fits (n : Nat) : Bool := decide (n ≤ sizeLine)
def eTup (a : SD → Out (List D)) : SD → Out D := fun ς => a ς >>= fun xs => if fits xs.length = true then .ok (.tup xs) else .stuck
def eLst (a : SD → Out (List D)) : SD → Out D := fun ς => a ς >>= fun xs => if fits xs.length = true then .ok (.lst xs) else .stuck
theorem de_tup {x1} (h : DA C es A) : DE C (.Tuple es x1 pos) (eTup A) := by
  obtain ⟨t, p, q⟩ := h
  refine ⟨_, pe_tup p, fun G H σ ς Q S k => ?_⟩
  unfold eTup at k
  rw [Out.post_bind] at k
  refine q G H σ ς _ S (Out.post_mono k fun xs k2 vs H1 G1 S1 a1 b1 r1 => ?_)
  rcases post_ite k2 with ⟨hc, k3⟩ | ⟨_, k3⟩
  · exact ⟨by rw [← r1.length]; exact of_decide_eq_true hc, KD.tup (KD.later k3 a1 b1) S1 r1⟩
  · exact k3.elim
theorem df_lst (h : DA C es A) : DF C (.List es pos) (eLst A) := by
  obtain ⟨t, p, q⟩ := h
  refine ⟨_, pe_lst p, fun G H σ ς Q S k => ?_⟩
  unfold eLst at k
  rw [Out.post_bind] at k
  refine q G H σ ς _ S (Out.post_mono k fun xs k2 vs H1 G1 S1 a1 b1 r1 => ?_)
  rcases post_ite k2 with ⟨hc, k3⟩ | ⟨_, k3⟩
  · exact ⟨by rw [← r1.length]; exact of_decide_eq_true hc, KF.lst (KF.later k3 a1 b1) S1 r1⟩
  · exact k3.elim
end
theorem atI_rep {K : PySem.W.Frag} {CT : CTab} {H : Hp} {ds : List D} {vs : List V} {i : Int} {d : D} (r : RepL K CT H ds vs) (h : atI ds i = some d) : ∃ v, atI vs i = some v ∧ Rep K CT H d v := by
  unfold atI at h ⊢
  rw [← r.length]
  cases e : ixN ds.length i with
  | none => rw [e] at h; cases h
  | some j =>
    rw [e] at h
    exact r.get h
def optO {α : Type} : Option α → Out α
  | some a => .ok a
  | none => .stuck
theorem post_opt {α : Type} {o : Option α} {k : α → Prop} {x : D → Prop} (h : (optO o).post k x) : ∃ a, o = some a ∧ k a := by
  cases o with
  | none => exact h.elim
  | some a => exact ⟨a, rfl, h⟩
def dIx : D → D → Out D
  | .lst xs, .int i => optO (atI xs i)
  | .tup xs, .int i => optO (atI xs i)
  | .str x, .int i => if fits x.length = true then optO ((atI x.cps.toList i).map fun c => D.str ⟨#[c]⟩) else .stuck
  | _, _ => .stuck
section
variable {C : Dc} {a b : Expr} {A B : SD → Out D} {pos : Pos}
theorem de_ix (ha : DE C a A) (hb : DB C b B) (hs : PlainIx b := by intro _ _; rfl) : DE C (.Subscript a b pos) (e2 dIx A B) := by
  obtain ⟨ta, p1, q1⟩ := ha
  obtain ⟨tb, p2, q2⟩ := hb
  refine ⟨_, pe_ix ix_seq p1 p2 hs, fun G H σ ς Q S q => ?_⟩
  unfold e2 at q
  rw [Out.post_bind] at q
  refine q1 G H σ ς _ S (Out.post_mono q fun x k v1 H1 G1 S1 a1 b1 r1 => ?_)
  rw [Out.post_bind] at k
  refine q2 G1 H1 σ ς _ S1 (Out.post_mono k fun y k2 v2 H2 G2 S2 a2 b2 r2 => ?_)
  have r1' := Rep.mono b2 x v1 r1
  cases y with
  | int i =>
    cases r2
    cases x with
    | lst xs =>
      obtain ⟨p, vs, rfl, h2, h3⟩ := r1'
      obtain ⟨d, e, kd⟩ := post_opt k2
      obtain ⟨v, e2, r⟩ := atI_rep h3 e
      exact .inl ⟨p, vs, i, v, rfl, rfl, S2.sub.seq h2, e2, KD.now (KD.later kd (a1.trans a2) (b1.trans b2)) S2 r⟩
    | tup xs =>
      obtain ⟨p, vs, rfl, h2, h3⟩ := r1'
      obtain ⟨d, e, kd⟩ := post_opt k2
      obtain ⟨v, e2, r⟩ := atI_rep h3 e
      exact .inr (.inl ⟨p, vs, i, v, rfl, rfl, Same.sqT S2.sub h2, e2, KD.now (KD.later kd (a1.trans a2) (b1.trans b2)) S2 r⟩)
    | str z =>
      cases r1'
      rcases post_ite (show (if fits z.length = true then optO ((atI z.cps.toList i).map fun c => D.str ⟨#[c]⟩) else .stuck).post _ C.XD from k2) with ⟨hc, q⟩ | ⟨_, q⟩
      · obtain ⟨d, e, kd⟩ := post_opt q
        cases e3 : atI z.cps.toList i with
        | none => rw [e3] at e; cases e
        | some c =>
          rw [e3] at e
          cases e
          exact .inr (.inr ⟨z, i, c, rfl, rfl, of_decide_eq_true hc, e3, KD.now (KD.later kd (a1.trans a2) (b1.trans b2)) S2 rfl⟩)
      · exact q.elim
    | _ => exact k2.elim
  | _ => cases x <;> exact k2.elim
end
def cutD {α : Type} (xs : List α) (lo hi : Option Int) : List α := (xs.drop (HT.sIx xs.length 0 lo)).take (HT.sIx xs.length xs.length hi - HT.sIx xs.length 0 lo)
theorem cut_rep {K : PySem.W.Frag} {CT : CTab} {H : Hp} {ds : List D} {vs : List V} (lo hi : Option Int) (r : RepL K CT H ds vs) : RepL K CT H (cutD ds lo hi) (cutV vs lo hi) := by
  unfold cutD cutV
  rw [r.length]
  exact (r.drop _).take _
def oNo : SD → Out (Option Int) := fun _ => .ok none
def oSome (e : SD → Out D) : SD → Out (Option Int) := fun ς => e ς >>= fun d => match d with | .int i => .ok (some i) | _ => .stuck
def DO (C : Dc) (e : Option Expr) (T : SD → Out (Option Int)) : Prop := ∃ t, PO C.X e t ∧ ∀ G H σ ς Q, StR C G H σ ς → (T ς).post (fun o => ∀ H' G', StR C G' H' σ ς → Same H H' → Same G G' → Q o H') C.XD → t σ H Q
section
variable {C : Dc} {a b : Expr} {A B : SD → Out D} {lo hi : Option Expr} {L U : SD → Out (Option Int)} {pos p2 : Pos}
theorem do_none : DO C none oNo := ⟨_, po_none, fun G H σ ς Q S q => q H G S (Same.refl H) (Same.refl G)⟩
theorem do_some (h : DB C a A) : DO C (some a) (oSome A) := by
  obtain ⟨t, p, q⟩ := h
  refine ⟨_, po_some p, fun G H σ ς Q S k => ?_⟩
  unfold oSome at k
  rw [Out.post_bind] at k
  refine q G H σ ς _ S (Out.post_mono k fun x k2 v1 H1 G1 S1 a1 b1 r1 => ?_)
  cases x with
  | int i => cases r1; exact ⟨i, rfl, k2 H1 G1 S1 a1 b1⟩
  | _ => exact k2.elim
def eSl (a : SD → Out D) (l u : SD → Out (Option Int)) : SD → Out D := fun ς => a ς >>= fun x => l ς >>= fun i => u ς >>= fun j => match x with
  | .lst xs => .ok (.lst (cutD xs i j))
  | _ => .stuck
theorem df_sl (ha : DE C a A) (hl : DO C lo L) (hu : DO C hi U) : DF C (.Subscript a (.Slice lo hi none p2) pos) (eSl A L U) := by
  obtain ⟨ta, p1, q1⟩ := ha
  obtain ⟨tl, p3, q3⟩ := hl
  obtain ⟨tu, p4, q4⟩ := hu
  refine ⟨_, pe_slice sl_list p1 p3 p4, fun G H σ ς Q S q => ?_⟩
  unfold eSl at q
  rw [Out.post_bind] at q
  refine q1 G H σ ς _ S (Out.post_mono q fun x k v1 H1 G1 S1 a1 b1 r1 => ?_)
  rw [Out.post_bind] at k
  refine q3 G1 H1 σ ς _ S1 (Out.post_mono k fun i k2 H2 G2 S2 a2 b2 => ?_)
  rw [Out.post_bind] at k2
  refine q4 G2 H2 σ ς _ S2 (Out.post_mono k2 fun j k3 H3 G3 S3 a3 b3 => ?_)
  cases x with
  | lst xs =>
    obtain ⟨p, vs, rfl, h2, h3⟩ := Rep.mono (b2.trans b3) _ v1 r1
    exact ⟨p, vs, rfl, S3.sub.seq h2, KF.lst (KF.later (show KF C G H σ ς Q (.lst (cutD xs i j)) from k3) ((a1.trans a2).trans a3) ((b1.trans b2).trans b3)) S3 (cut_rep i j h3)⟩
  | _ => exact k3.elim
end
section
variable {C : Dc} {x : Str} {p pos : Pos} {e : Expr} {es : List Expr} {A : SD → Out (List D)} {id T : String}
def eA (f : List D → Out D) (a : SD → Out (List D)) : SD → Out D := fun ς => a ς >>= f
def DCS (C : Dc) (r : List V → Hp → VK → Prop) (f : List D → Out D) : Prop := ∀ G H σ ς (Q : VK) xs vs, StR C G H σ ς → RepL C.X.K C.CT H xs vs →
  (f xs).post (fun d => d.scal = true ∧ Q (toV d) H) (fun _ => False) → r vs H Q
def scalA (f : List D → Out D) : Prop := ∀ xs, match f xs with | .ok d => d.scal = true | .exc _ => False | .stuck => True
theorem dcall {r : List V → Hp → VK → Prop} {f : List D → Out D} {t : TA} (hr : DCS C r f) (hs : scalA f)
    (h : ∀ G H σ ς Q, StR C G H σ ς → (A ς).post (fun ds => ∀ vs H' G', StR C G' H' σ ς → Same H H' → Same G G' → RepL C.X.K C.CT H' ds vs → Q vs H') C.XD → t σ H Q) :
    ∀ G H σ ς Q, StR C G H σ ς → (eA f A ς).post (KD C G H σ ς Q) C.XD → tCB r t σ H Q := by
  intro G H σ ς Q S q
  unfold eA at q
  rw [Out.post_bind] at q
  refine h G H σ ς _ S (Out.post_mono q fun ds k vs H1 G1 S1 a1 b1 r1 => ?_)
  exact hr G1 H1 σ ς Q ds vs S1 r1 (post_of_scal S1 (hs ds) (Out.post_mono k fun d kd => KD.later kd a1 b1))
theorem de_callB {r : List V → Hp → VK → Prop} {f : List D → Out D} (hc : CallR C.X (.builtin id) r) (hr : DCS C r f) (hs : scalA f) (hg : Gl C.X x) (hm : C.X.mg x = none) (hv : bootBuiltins x = some (.builtin id)) (ha : DAB C (e :: es) A) (hn : x ≠ "__name__" := by decide) (hdb : (x == ("__debug__" : Str)) = false := by decide)
    (he : starEach (e :: es) C.X.env = (false, eval e C.X.env) :: starEach es C.X.env := by rfl) (hpl : (backTo pos (starEach es C.X.env)).any (·.1) = false := by rfl) : DE C (.Call (.Name x p) (e :: es) [] pos) (eA f A) := by
  obtain ⟨t, p1, q1⟩ := ha
  exact ⟨_, pe_callB hc hg hm hv p1 hn hdb he hpl, dcall hr hs q1⟩
def fLen : List D → Out D
  | [.lst xs] => .ok (.int xs.length)
  | [.tup xs] => .ok (.int xs.length)
  | [.str x] => if fits x.length = true then .ok (.int x.length) else .stuck
  | _ => .stuck
theorem dcs_len : DCS C (fun xs H Q => (∃ p ys, xs = [.ref p] ∧ (SqL C.X.K H p ys ∨ SqT C.X.K H p ys) ∧ Q (.int ys.length) H) ∨ ∃ z, xs = [.str z] ∧ z.length ≤ sizeLine ∧ Q (.int z.length) H) fLen := by
  intro G H σ ς Q xs vs S r q
  cases xs with
  | nil => exact q.elim
  | cons x xr =>
    obtain ⟨v, vr, rfl, r1, r2⟩ := r
    cases xr with
    | cons y yr => cases x <;> exact q.elim
    | nil =>
      cases r2
      cases x with
      | lst ys =>
        obtain ⟨p, us, rfl, h2, h3⟩ := r1
        exact .inl ⟨p, us, rfl, .inl h2, by rw [← h3.length]; exact q.2⟩
      | tup ys =>
        obtain ⟨p, us, rfl, h2, h3⟩ := r1
        exact .inl ⟨p, us, rfl, .inr h2, by rw [← h3.length]; exact q.2⟩
      | str z =>
        cases r1
        rcases post_ite (show (if fits z.length = true then Out.ok (D.int z.length) else .stuck).post _ _ from q) with ⟨hc, q⟩ | ⟨_, q⟩
        · exact .inr ⟨z, rfl, of_decide_eq_true hc, q.2⟩
        · exact q.elim
      | _ => exact q.elim
theorem scal_len : scalA fLen := by
  intro xs
  cases xs with
  | nil => exact True.intro
  | cons x xr =>
    cases xr with
    | cons y yr => cases x <;> exact True.intro
    | nil =>
      cases x with
      | lst ys => exact rfl
      | tup ys => exact rfl
      | str z => exact scal_ite rfl
      | _ => exact True.intro
theorem de_len (hg : Gl C.X "len") (hm : C.X.mg "len" = none) (ha : DAB C (e :: es) A)
    (he : starEach (e :: es) C.X.env = (false, eval e C.X.env) :: starEach es C.X.env := by rfl) (hpl : (backTo pos (starEach es C.X.env)).any (·.1) = false := by rfl) : DE C (.Call (.Name "len" p) (e :: es) [] pos) (eA fLen A) :=
  de_callB (call_len_seq.or call_len_str) dcs_len scal_len hg hm PySem.boot_len ha (by decide) (by decide) he hpl
def f1 (g : D → Out D) : List D → Out D
  | [x] => g x
  | _ => .stuck
theorem scal_f1 {g : D → Out D} (h : ∀ x, match g x with | .ok d => d.scal = true | .exc _ => False | .stuck => True) : scalA (f1 g) := by
  intro xs
  match xs with
  | [] => exact True.intro
  | [x] => exact h x
  | _ :: _ :: _ => exact True.intro
def dAbs : D → Out D
  | .int i => .ok (.int (if i < 0 then -i else i))
  | _ => .stuck
theorem dcs_f1 {r : List V → Hp → VK → Prop} {g : D → Out D} (h : ∀ G H σ ς (Q : VK) x v, StR C G H σ ς → Rep C.X.K C.CT H x v → (g x).post (fun d => d.scal = true ∧ Q (toV d) H) (fun _ => False) → r [v] H Q) : DCS C r (f1 g) := by
  intro G H σ ς Q xs vs S r q
  match xs, r with
  | [], _ => exact q.elim
  | [x], ⟨v, vr, e1, r1, r2⟩ => cases r2; subst e1; exact h G H σ ς Q x v S r1 q
  | _ :: _ :: _, _ => exact q.elim
end
mutual
def D.py : D → PyData
  | .non => .none
  | .bl b => .bool b
  | .int i => .int i
  | .str x => .str x
  | .lst xs => .list (D.pys xs)
  | .tup xs => .tuple (D.pys xs)
  | .dic _ => .dict []
  | .ins _ _ => .dict []
  | .err _ => .dict []
def D.pys : List D → List PyData
  | [] => []
  | x :: xs => D.py x :: D.pys xs
end
section
variable {X : Cx} {pins : List (Addr × Obj)} {σ : L2.St} {H : Hp} {s : Shared} {CT : CTab}
mutual
theorem reads_of (I : Inv X pins σ H s) : ∀ (d : D) (v : V) (u : Value), Rep X.K CT H d v → RelV v u → d.py.canLay0 = true → ∃ as, Reads s.heap u d.py as
  | .non, _, _, h, r, _ => by cases h; cases r; exact ⟨_, .none⟩
  | .bl b, _, _, h, r, _ => by cases h; cases r; exact ⟨_, .bool b⟩
  | .int i, _, _, h, r, _ => by cases h; obtain ⟨t, rfl⟩ := r; exact ⟨_, .int i t⟩
  | .str x, _, _, h, r, _ => by cases h; obtain ⟨t, rfl⟩ := r; exact ⟨_, .str x t⟩
  | .lst ds, _, _, ⟨a, vs, h1, h2, h3⟩, r, c => by
    subst h1; cases r
    obtain ⟨its, q, ⟨o, n, ho, hc, _, hd⟩, _⟩ := I.list h2
    obtain ⟨as, ra⟩ := reads_all I ds vs its h3 q (by simpa [D.py, PyData.canLay0] using c)
    exact ⟨_, .list ho hc hd (by simpa using ra)⟩
  | .tup ds, _, _, ⟨a, vs, h1, h2, h3⟩, r, c => by
    subst h1; cases r
    obtain ⟨its, q, ⟨o, ho, hc, n, hd⟩, _⟩ := I.tuple h2
    obtain ⟨as, ra⟩ := reads_all I ds vs its h3 q (by simpa [D.py, PyData.canLay0] using c)
    exact ⟨_, .tuple ho hc hd (by simpa using ra)⟩
  | .dic _, _, _, _, _, c => by simp [D.py, PyData.canLay0] at c
  | .ins _ _, _, _, _, _, c => by simp [D.py, PyData.canLay0] at c
  | .err _, _, _, _, _, c => by simp [D.py, PyData.canLay0] at c
theorem reads_all (I : Inv X pins σ H s) : ∀ (ds : List D) (vs : List V) (us : List Value), RepL X.K CT H ds vs → Vals vs us → PyData.canLayAll0 (D.pys ds) = true → ∃ as, ReadsAll s.heap us (D.pys ds) as
  | [], _, _, h, r, _ => by cases h; cases r; exact ⟨_, .nil⟩
  | d :: ds, _, _, ⟨v, w, h1, h2, h3⟩, r, c => by
    subst h1
    cases r with
    | cons r1 r2 =>
      have c' : d.py.canLay0 = true ∧ PyData.canLayAll0 (D.pys ds) = true := by simpa [D.pys, PyData.canLayAll0] using c
      obtain ⟨as, q1⟩ := reads_of I d v _ h2 r1 c'.1
      obtain ⟨bs, q2⟩ := reads_all I ds w _ h3 r2 c'.2
      exact ⟨_, .cons q1 q2⟩
end
end
def shp (d : D) : Bool := SeqAt.shaped d.py
def dEq (x y : D) : Out D := if (shp x && shp y) = true then .ok (.bl (PyData.eqv x.py y.py)) else .stuck
def dNe (x y : D) : Out D := if (shp x && shp y) = true then .ok (.bl (!PyData.eqv x.py y.py)) else .stuck
section
variable {C : Dc} {a b : Expr} {A B : SD → Out D} {pos : Pos}
def rEqD (C : Dc) (n : Bool) : R2 := fun vx vy H Q => ∃ x y, Rep C.X.K C.CT H x vx ∧ Rep C.X.K C.CT H y vy ∧ shp x = true ∧ shp y = true ∧ Q (.bl (n != PyData.eqv x.py y.py)) H
theorem op_eqD (hu : C.X.A.units + 64 < cLine) : OpR C.X (compareOp .Eq) (rEqD C false) := by
  intro pins s σ H vx vy u w Q I rx ry h
  obtain ⟨x, y, h1, h2, h3, h4, q⟩ := h
  obtain ⟨as, ra⟩ := reads_of I x vx u h1 rx (SeqAt.canLay_of_shaped h3)
  obtain ⟨bs, rb⟩ := reads_of I y vy w h2 ry (SeqAt.canLay_of_shaped h4)
  exact eq_dataH ra rb h3 h4 hu ⟨.bl _, H, I, rfl, by simpa using q⟩
theorem drs_eq : DRS C (rEqD C false) dEq := by
  intro G H σ ς Q x y vx vy S hx hy q
  rcases post_ite q with ⟨hc, q⟩ | ⟨_, q⟩
  · rw [Bool.and_eq_true] at hc
    exact ⟨x, y, hx, hy, hc.1, hc.2, by simpa [toV] using q.2⟩
  · exact q.elim
theorem scal_eq : scal2 dEq := fun x y => scal_ite rfl
theorem dt_lt (ha : DB C a A) (hb : DB C b B) : DT C (.Compare a [.Lt] [b] pos) (tVal (e2 dLt A B)) := dt_cmp op_lt drs_dI0 (scal_dI0 fun _ _ => rfl) ha hb (nomark _)
theorem dt_gt (ha : DB C a A) (hb : DB C b B) : DT C (.Compare a [.Gt] [b] pos) (tVal (e2 dGt A B)) := dt_cmp op_gt drs_dI0 (scal_dI0 fun _ _ => rfl) ha hb (nomark _)
theorem de_eq (hu : C.X.A.units + 64 < cLine) (ha : DB C a A) (hb : DB C b B) : DE C (.Compare a [.Eq] [b] pos) (e2 dEq A B) := de_cmp (op_eqD hu) drs_eq scal_eq ha hb (nomark _)
theorem dt_eq (hu : C.X.A.units + 64 < cLine) (ha : DB C a A) (hb : DB C b B) : DT C (.Compare a [.Eq] [b] pos) (tVal (e2 dEq A B)) := dt_cmp (op_eqD hu) drs_eq scal_eq ha hb (nomark _)
end
end DL
set_option Elab.async false
set_option linter.all false
set_option maxRecDepth 100000
namespace DL
open PySem PySem.Spec PyProof.Rows L2
def isD : D → D → Bool
  | .non, .non => true
  | .bl a, .bl b => a == b
  | _, _ => false
def cstD : D → Bool
  | .non => true
  | .bl _ => true
  | _ => false
def dIs (x y : D) : Out D := if cstD y = true then .ok (.bl (isD x y)) else .stuck
def dIsNot (x y : D) : Out D := if cstD y = true then .ok (.bl (!isD x y)) else .stuck
section
variable {C : Dc} {a b : Expr} {A B : SD → Out D} {pos : Pos}
def rIs (C : Dc) (n : Bool) : R2 := fun vx vy H Q => ∃ x y, Rep C.X.K C.CT H x vx ∧ Rep C.X.K C.CT H y vy ∧ cstD y = true ∧ Q (.bl (n != isD x y)) H
theorem is_val {M : Model} {A : Around} {E : Value → Shared → Prop} {s : Shared} {Q : Value → Shared → Prop} {v : Value} {c : Bool} {x : V} (r : RelV x v) (h : Q (.bool (v == .bool c)) s) : wpAny M A (compareOp .Is v (.bool c)) Q E s := by
  cases x <;> first
    | (cases r; exact wpAny_pure h)
    | (obtain ⟨t, rfl⟩ := r; exact wpAny_pure h)
theorem isnot_val {M : Model} {A : Around} {E : Value → Shared → Prop} {s : Shared} {Q : Value → Shared → Prop} {v : Value} {c : Bool} {x : V} (r : RelV x v) (h : Q (.bool (!(v == .bool c))) s) : wpAny M A (compareOp .IsNot v (.bool c)) Q E s := by
  cases x <;> first
    | (cases r; exact wpAny_pure h)
    | (obtain ⟨t, rfl⟩ := r; exact wpAny_pure h)
theorem isD_non {K : PySem.W.Frag} {CT : CTab} {H : Hp} {x : D} {v : V} {u : Value} (h : Rep K CT H x v) (r : RelV v u) : (u == Value.none) = isD x .non := by
  cases x with
  | non => cases h; cases r; rfl
  | bl _ => cases h; cases r; rfl
  | int _ => cases h; obtain ⟨t, rfl⟩ := r; rfl
  | str _ => cases h; obtain ⟨t, rfl⟩ := r; rfl
  | lst _ => obtain ⟨a, vs, rfl, _⟩ := h; cases r; rfl
  | tup _ => obtain ⟨a, vs, rfl, _⟩ := h; cases r; rfl
  | dic _ => obtain ⟨a, vs, rfl, _⟩ := h; cases r; rfl
  | ins _ _ => obtain ⟨a, _, _, _, rfl, _⟩ := h; cases r; rfl
  | err _ => obtain ⟨a, _, rfl, _⟩ := h; cases r; rfl
theorem isD_bl {K : PySem.W.Frag} {CT : CTab} {H : Hp} {x : D} {v : V} {u : Value} {c : Bool} (h : Rep K CT H x v) (r : RelV v u) : (u == Value.bool c) = isD x (.bl c) := by
  cases x with
  | non => cases h; cases r; rfl
  | bl d => cases h; cases r; cases c <;> cases d <;> rfl
  | int _ => cases h; obtain ⟨t, rfl⟩ := r; rfl
  | str _ => cases h; obtain ⟨t, rfl⟩ := r; rfl
  | lst _ => obtain ⟨a, vs, rfl, _⟩ := h; cases r; rfl
  | tup _ => obtain ⟨a, vs, rfl, _⟩ := h; cases r; rfl
  | dic _ => obtain ⟨a, vs, rfl, _⟩ := h; cases r; rfl
  | ins _ _ => obtain ⟨a, _, _, _, rfl, _⟩ := h; cases r; rfl
  | err _ => obtain ⟨a, _, rfl, _⟩ := h; cases r; rfl
theorem op_is : OpR C.X (compareOp .Is) (rIs C false) := by
  intro pins s σ H vx vy u w Q I rx ry h
  obtain ⟨x, y, h1, h2, h3, q⟩ := h
  cases y with
  | non => cases h2; cases ry; exact is_none_gen ⟨.bl _, H, I, by rw [isD_non h1 rx]; rfl, by simpa using q⟩
  | bl c => cases h2; cases ry; exact is_val rx ⟨.bl _, H, I, by rw [isD_bl h1 rx]; rfl, by simpa using q⟩
  | _ => cases h3
theorem op_isNot : OpR C.X (compareOp .IsNot) (rIs C true) := by
  intro pins s σ H vx vy u w Q I rx ry h
  obtain ⟨x, y, h1, h2, h3, q⟩ := h
  cases y with
  | non => cases h2; cases ry; exact isnot_none_gen ⟨.bl _, H, I, by rw [isD_non h1 rx]; rfl, by simpa using q⟩
  | bl c => cases h2; cases ry; exact isnot_val rx ⟨.bl _, H, I, by rw [isD_bl h1 rx]; rfl, by simpa using q⟩
  | _ => cases h3
theorem drs_is : DRS C (rIs C false) dIs := by
  intro G H σ ς Q x y vx vy S hx hy q
  rcases post_ite q with ⟨hc, q⟩ | ⟨_, q⟩
  · exact ⟨x, y, hx, hy, hc, by simpa [toV] using q.2⟩
  · exact q.elim
theorem drs_isNot : DRS C (rIs C true) dIsNot := by
  intro G H σ ς Q x y vx vy S hx hy q
  rcases post_ite q with ⟨hc, q⟩ | ⟨_, q⟩
  · exact ⟨x, y, hx, hy, hc, by simpa [toV] using q.2⟩
  · exact q.elim
theorem de_is (ha : DB C a A) (hb : DB C b B) : DE C (.Compare a [.Is] [b] pos) (e2 dIs A B) := de_cmp op_is drs_is (fun _ _ => scal_ite rfl) ha hb (nomark _)
theorem de_isNot (ha : DB C a A) (hb : DB C b B) : DE C (.Compare a [.IsNot] [b] pos) (e2 dIsNot A B) := de_cmp op_isNot drs_isNot (fun _ _ => scal_ite rfl) ha hb (nomark _)
theorem dt_isNot (ha : DB C a A) (hb : DB C b B) : DT C (.Compare a [.IsNot] [b] pos) (tVal (e2 dIsNot A B)) := dt_cmp op_isNot drs_isNot (fun _ _ => scal_ite rfl) ha hb (nomark _)
end
def tyName : D → String
  | .non => "NoneType"
  | .bl _ => "bool"
  | .int _ => "int"
  | .str _ => "str"
  | .lst _ => "list"
  | .tup _ => "tuple"
  | .dic _ => "dict"
  | .ins _ _ => "object"
  | .err _ => "object"
structure ClsD (K : PySem.W.Frag) (A : Addr) : Prop where
  cl : Cls K A
  ha : PySem.W.findIn K (.ref A) "__class__" = some (some (.builtin "object.__class__"))
  hn : PySem.W.specialIn K (.builtin "object.__class__") "__get__" = some (some (.builtin "getset_descriptor.__get__"))
  htk : PySem.W.takesIn K (.builtin "object.__class__") = some true
  hm : PySem.W.mroIn K A (.type "object") = some true
def KitD (K : PySem.W.Frag) (CT : CTab) (d : D) (uc : Value) (b : Bool) : Prop := match d with
  | .ins c _ => ∀ A, CT c = some A → ClsD K A ∧ PySem.W.kitOne K (.ref A) uc = some b
  | .err c => ∀ A, CT c = some A → ExCls K A ∧ PySem.W.kitOne K (.ref A) uc = some b
  | d => PySem.W.kitOne K (.type (tyName d)) uc = some b
section
variable {C : Dc} {e cx : Expr} {E : SD → Out D} {p pos : Pos} {vc : V} {uc : Value}
theorem isi_rep {pins : List (Addr × Obj)} {σ : L2.St} {H : Hp} {s : Shared} {A : Around} {Ex : Value → Shared → Prop} {Q : Value → Shared → Prop} {d : D} {v : V} {u : Value} {b : Bool} (I : Inv C.X pins σ H s) (h : Rep C.X.K C.CT H d v) (r : RelV v u) (k : KitD C.X.K C.CT d uc b)
    (q : ∀ tk, Q (.bool b) { s with toks := tk }) : wpAny (model C.X.prog C.X.w) A (call (.builtin "isinstance") [u, uc]) Q Ex s := by
  cases d with
  | non => cases h; cases r; exact PySem.W.kia_one PySem.W.kitx_none I.kIn True.intro k (fun z => nomatch z) q
  | bl y => cases h; cases r; exact PySem.W.kia_one PySem.W.kitx_bool I.kIn True.intro k (fun z => nomatch z) q
  | int i => cases h; obtain ⟨t, rfl⟩ := r; exact PySem.W.kia_one PySem.W.kitx_int I.kIn True.intro k (fun z => nomatch z) q
  | str i => cases h; obtain ⟨t, rfl⟩ := r; exact PySem.W.kia_one PySem.W.kitx_str I.kIn True.intro k (fun z => nomatch z) q
  | lst ds =>
    obtain ⟨a, vs, rfl, h2, _⟩ := h; cases r
    obtain ⟨its, _, ⟨o, n, ho, hc, _⟩, _⟩ := I.list h2
    exact PySem.W.kia_one PySem.W.kitx_list I.kIn ⟨o, ho, hc⟩ k (fun z => nomatch z) q
  | tup ds =>
    obtain ⟨a, vs, rfl, h2, _⟩ := h; cases r
    obtain ⟨its, _, ⟨o, ho, hc, _⟩, _⟩ := I.tuple h2
    exact PySem.W.kia_one PySem.W.kitx_tuple I.kIn ⟨o, ho, hc⟩ k (fun z => nomatch z) q
  | dic ds =>
    obtain ⟨a, kvs, rfl, h2, _⟩ := h; cases r
    obtain ⟨_, _, vs, _, p⟩ := h2.ok I.hok
    obtain ⟨o, es, ep, h1, h2, _⟩ := p
    exact PySem.W.kia_one PySem.W.kitx_dict I.kIn ⟨o, h1, h2.1⟩ k (fun z => nomatch z) q
  | ins c fs =>
    obtain ⟨a, A', dx, fs', rfl, h1, h2, _⟩ := h; cases r
    obtain ⟨cd, kk⟩ := k A' h1
    obtain ⟨mA, O, _⟩ := ins_get I.hok h2
    obtain ⟨od, J, _⟩ := O.look
    exact PySem.W.kia_one (PySem.W.kitx_own (cd.cl.get _) cd.cl.hd cd.ha cd.hn cd.htk cd.hm) I.kIn J kk (fun z => nomatch z) q
  | err c =>
    obtain ⟨a, A', rfl, h1, h2⟩ := h; cases r
    obtain ⟨cd, kk⟩ := k A' h1
    obtain ⟨J, _⟩ := (show ObjOk C.X.prog C.X.w H s.heap a (exO a A') from I.hok a _ h2)
    exact PySem.W.kia_one (kitx_exc cd) I.kIn J kk (fun z => nomatch z) q
def clsV : V → Option Value
  | .ty n => some (.type n)
  | .ref a => some (.ref a)
  | _ => none
def eIsa (f : D → Out Bool) (a : SD → Out D) : SD → Out D := fun ς => a ς >>= fun d => f d >>= fun b => .ok (.bl b)
theorem de_isa {f : D → Out Bool} (hc : PE C.X cx (tC vc)) (rc : clsV vc = some uc) (hf : ∀ d, match f d with | .ok b => KitD C.X.K C.CT d uc b | .exc _ => False | .stuck => True) (hg : Gl C.X "isinstance") (hm : C.X.mg "isinstance" = none) (h : DB C e E)
    (he : starEach (e :: [cx]) C.X.env = (false, eval e C.X.env) :: starEach [cx] C.X.env := by rfl) (he2 : starEach (cx :: []) C.X.env = (false, eval cx C.X.env) :: starEach [] C.X.env := by rfl)
    (hpl : (backTo pos (starEach [cx] C.X.env)).any (·.1) = false := by rfl) : DE C (.Call (.Name "isinstance" p) [e, cx] [] pos) (eIsa f E) := by
  obtain ⟨t, p1, q1⟩ := h
  have hR : CallR C.X (.builtin "isinstance") (fun xs H Q => ∃ d x b, xs = [x, vc] ∧ Rep C.X.K C.CT H d x ∧ KitD C.X.K C.CT d uc b ∧ Q (.bl b) H) := by
    intro pins s σ H xs us Q I r h
    obtain ⟨d, x, b, rfl, h1, h2, q⟩ := h
    obtain ⟨u, w, rfl, r1, r2⟩ := vals2 r
    have : w = uc := by
      cases vc <;> first
        | (cases rc; cases r2; rfl)
        | cases rc
    subst this
    exact isi_rep I h1 r1 h2 fun tk => ⟨.bl b, H, I.tok _, rfl, q⟩
  refine ⟨_, pe_callB hR hg hm PyProof.Rows.Boot.«isinstance» (pa_cons p1 (pa_cons hc pa_nil he2) he) (by decide) (by decide) he hpl, fun G H σ ς Q S q => ?_⟩
  unfold eIsa at q
  rw [Out.post_bind] at q
  refine q1 G H σ ς _ S (Out.post_mono q fun d k v1 H1 G1 S1 a1 b1 r1 => ?_)
  rw [Out.post_bind] at k
  have hd := hf d
  cases e : f d with
  | exc _ => rw [e] at hd; exact hd.elim
  | stuck => rw [e] at k; exact k.elim
  | ok b =>
    rw [e] at k hd
    exact ⟨d, v1, b, rfl, r1, hd, KD.now (KD.later (show KD C G H σ ς Q (.bl b) from k) a1 b1) S1 rfl⟩
end
end DL
set_option Elab.async false
set_option linter.all false
set_option maxRecDepth 100000
namespace DL
open PySem PySem.Spec PyProof.Rows L2
section
variable {C : Dc} {G H : Hp} {σ : St} {ς : SD}
theorem get_set {α : Type} {xs : List α} {i j : Nat} {x y : α} (h : (xs.set i x)[j]? = some y) : (i = j ∧ y = x ∧ i < xs.length) ∨ (i ≠ j ∧ xs[j]? = some y) := by
  rw [List.getElem?_set] at h
  by_cases e : i = j
  · rw [if_pos e] at h
    by_cases l : i < xs.length
    · rw [if_pos l] at h; exact .inl ⟨e, (Option.some.inj h).symm, l⟩
    · rw [if_neg l] at h; cases h
  · rw [if_neg e] at h; exact .inr ⟨e, h⟩
theorem set_get {α : Type} {xs : List α} {i : Nat} {x : α} (h : i < xs.length) : (xs.set i x)[i]? = some x := by
  rw [List.getElem?_set, if_pos rfl, if_pos h]
theorem set_get_ne {α : Type} {xs : List α} {i j : Nat} {x : α} (h : i ≠ j) : (xs.set i x)[j]? = xs[j]? := by
  rw [List.getElem?_set, if_neg h]
theorem StR.set (S : StR C G H σ ς) {d : D} {v : V} (i : Nat) (r : Rep C.X.K C.CT G d v) : StR C G H (σ.set i (some v)) (ς.set i (some (.k, d))) where
  toGH := S.toGH
  len := by rw [List.length_set, List.length_set]; exact S.len
  fz := fun j e h => by
    rcases get_set h with ⟨rfl, h2, l⟩ | ⟨ne, h2⟩
    · cases h2
      exact ⟨v, set_get (by rw [S.len]; exact l), r⟩
    · rw [set_get_ne ne]; exact S.fz j e h2
  ow := fun j e h => by
    rcases get_set h with ⟨rfl, h2, l⟩ | ⟨ne, h2⟩
    · cases h2
    · rw [set_get_ne ne]; exact S.ow j e h2
  ln := fun j e h => by
    rcases get_set h with ⟨rfl, h2, l⟩ | ⟨ne, h2⟩
    · cases h2
    · rw [set_get_ne ne]; exact S.ln j e h2
  inj := fun j k d1 d2 p hjk h1 h2 h3 => by
    rcases get_set h1 with ⟨rfl, q1, l⟩ | ⟨n1, q1⟩
    · cases q1
    · rcases get_set h2 with ⟨rfl, q2, l⟩ | ⟨n2, q2⟩
      · cases q2
      · rw [set_get_ne n1] at h3
        rw [set_get_ne n2]; exact S.inj j k d1 d2 p hjk q1 q2 h3
  sf := fun j e h => by
    rcases get_set h with ⟨rfl, h2, l⟩ | ⟨ne, h2⟩
    · cases h2
    · rw [set_get_ne ne]; exact S.sf j e h2
  su := fun j k d1 d2 h1 h2 => by
    rcases get_set h1 with ⟨rfl, q1, l⟩ | ⟨n1, q1⟩
    · cases q1
    · rcases get_set h2 with ⟨rfl, q2, l⟩ | ⟨n2, q2⟩
      · cases q2
      · exact S.su j k d1 d2 q1 q2
theorem StR.setO (S : StR C G H σ ς) {d : D} {p : Addr} (i : Nat) (hg : G p = none) (h0 : C.X.H₀ p = none) (ow : Own C.X.K C.CT G H p d) (hn : ∀ (j : Nat) e, j ≠ i → ς[j]? = some (some (.o, e)) → σ[j]? ≠ some (some (.ref p))) :
    StR C G H (σ.set i (some (.ref p))) (ς.set i (some (.o, d))) where
  toGH := S.toGH
  len := by rw [List.length_set, List.length_set]; exact S.len
  fz := fun j e h => by
    rcases get_set h with ⟨rfl, h2, l⟩ | ⟨ne, h2⟩
    · cases h2
    · rw [set_get_ne ne]; exact S.fz j e h2
  ow := fun j e h => by
    rcases get_set h with ⟨rfl, h2, l⟩ | ⟨ne, h2⟩
    · cases h2
      exact ⟨p, set_get (by rw [S.len]; exact l), hg, h0, ow⟩
    · rw [set_get_ne ne]; exact S.ow j e h2
  ln := fun j e h => by
    rcases get_set h with ⟨rfl, h2, l⟩ | ⟨ne, h2⟩
    · cases h2
    · rw [set_get_ne ne]; exact S.ln j e h2
  inj := fun j k d1 d2 q hjk h1 h2 h3 => by
    rcases get_set h1 with ⟨rfl, q1, l1⟩ | ⟨n1, q1⟩
    · rcases get_set h2 with ⟨rfl, q2, l⟩ | ⟨n2, q2⟩
      · exact absurd rfl hjk
      · rw [set_get (by rw [S.len]; exact l1)] at h3
        cases h3
        rw [set_get_ne n2]; exact hn k d2 (Ne.symm n2) q2
    · rcases get_set h2 with ⟨rfl, q2, l⟩ | ⟨n2, q2⟩
      · rw [set_get_ne n1] at h3
        rw [set_get (by rw [S.len]; exact l)]
        intro z; cases z
        exact hn j d1 (Ne.symm n1) q1 h3
      · rw [set_get_ne n1] at h3
        rw [set_get_ne n2]; exact S.inj j k d1 d2 q hjk q1 q2 h3
  sf := fun j e h => by
    rcases get_set h with ⟨rfl, h2, l⟩ | ⟨ne, h2⟩
    · cases h2
    · rw [set_get_ne ne]; exact S.sf j e h2
  su := fun j k d1 d2 h1 h2 => by
    rcases get_set h1 with ⟨rfl, q1, l⟩ | ⟨n1, q1⟩
    · cases q1
    · rcases get_set h2 with ⟨rfl, q2, l⟩ | ⟨n2, q2⟩
      · cases q2
      · exact S.su j k d1 d2 q1 q2
end
def sNil : SD → Out Fl := fun ς => .ok (.nx ς)
def thenF (U : SD → Out Fl) : Fl → Out Fl
  | .nx ς => U ς
  | .rt b d => .ok (.rt b d)
  | .bk ς => .ok (.bk ς)
  | .ct ς => .ok (.ct ς)
def sSeq (T U : SD → Out Fl) : SD → Out Fl := fun ς => T ς >>= thenF U
section
variable {C : Dc} {e : Expr} {E : SD → Out D} {st : Stmt} {rest : List Stmt} {T U : SD → Out Fl} {pos : Pos}
theorem FlK.later {G G1 : Hp} {W : Ends} {f : Fl} (h : FlK C G W f) (s : Same G G1) : FlK C G1 W f := by
  cases f with
  | nx ς => exact fun σ' H' G' S q => h σ' H' G' S (s.trans q)
  | bk ς => exact fun σ' H' G' S q => h σ' H' G' S (s.trans q)
  | ct ς => exact fun σ' H' G' S q => h σ' H' G' S (s.trans q)
  | rt b d => exact fun σ' H' G' S q => h σ' H' G' S (s.trans q)
theorem dss_nil : DSs C [] sNil := ⟨_, pss_nil, fun G H σ ς W S q => q σ H G S (Same.refl G)⟩
theorem dss_cons (h1 : DS C st T) (h2 : DSs C rest U) : DSs C (st :: rest) (sSeq T U) := by
  obtain ⟨t1, p1, q1⟩ := h1
  obtain ⟨t2, p2, q2⟩ := h2
  refine ⟨_, pss_cons p1 p2, fun G H σ ς W S q => ?_⟩
  unfold sSeq at q
  rw [Out.post_bind] at q
  refine q1 G H σ ς _ S (Out.post_mono q fun f k => ?_)
  cases f with
  | nx ς' => exact fun σ' H' G' S' s' => q2 G' H' σ' ς' W S' (Out.post_mono (show (U ς').post _ _ from k) fun f k => FlK.later k s')
  | bk ς' => exact k
  | ct ς' => exact k
  | rt b d => exact k
theorem dss_one (h1 : DS C st T) : DSs C [st] T := let ⟨t, p, q⟩ := h1; ⟨t, pss_one p, q⟩
def sSet (i : Nat) (E : SD → Out D) : SD → Out Fl := fun ς => E ς >>= fun d => .ok (.nx (ς.set i (some (.k, d))))
def sSetO (i : Nat) (E : SD → Out D) : SD → Out Fl := fun ς => E ς >>= fun d => .ok (.nx (ς.set i (some (.o, d))))
theorem ds_set {i : Nat} {x : Str} {pos' : Pos} (hN : C.X.N.Nodup) (hi : C.X.N[i]? = some x) (hx : Loc C.X.env.scope x) (he : DE C e E) (hs : swapsWith e (some (.Name x pos')) pos.line C.X.env = pure false := by rfl)
    (hf : C.X.fn x = true ∨ C.X.env.scope.names.lookup x = some .local := by first | exact .inl rfl | exact .inr rfl | assumption) : DS C (.Assign [.Name x pos'] e pos) (sSet i E) := by
  obtain ⟨t, p, q⟩ := he
  refine ⟨_, ps_set hN hi hx p hs hf, fun G H σ ς W S k => ?_⟩
  unfold sSet at k
  rw [Out.post_bind] at k
  exact q G H σ ς _ S (Out.post_mono k fun d k v H1 G1 S1 a1 b1 r1 => k _ H1 G1 (S1.set i r1) b1)
theorem ds_setO {i : Nat} {x : Str} {pos' : Pos} (hN : C.X.N.Nodup) (hi : C.X.N[i]? = some x) (hx : Loc C.X.env.scope x) (he : DF C e E) (hs : swapsWith e (some (.Name x pos')) pos.line C.X.env = pure false := by rfl)
    (hf : C.X.fn x = true ∨ C.X.env.scope.names.lookup x = some .local := by first | exact .inl rfl | exact .inr rfl | assumption) : DS C (.Assign [.Name x pos'] e pos) (sSetO i E) := by
  obtain ⟨t, p, q⟩ := he
  refine ⟨_, ps_set hN hi hx p hs hf, fun G H σ ς W S k => ?_⟩
  unfold sSetO at k
  rw [Out.post_bind] at k
  exact q G H σ ς _ S (Out.post_mono k fun d k p H1 G1 S1 a1 b1 hp hg ow => k _ H1 G1 (S1.setO i hg (S.h0none hp) ow fun j e _ z => S.new_ne hp j e z) b1)
def sPar (i j : Nat) (A : SD → Out (List D)) : SD → Out Fl := fun ς => A ς >>= fun ds => match ds with
  | [x, y] => .ok (.nx ((ς.set i (some (.k, x))).set j (some (.k, y))))
  | _ => .stuck
def setAll : List Nat → List D → SD → Out SD
  | [], [], ς => .ok ς
  | i :: is, d :: ds, ς => setAll is ds (ς.set i (some (.k, d)))
  | _, _, _ => .stuck
def sUnp (is : List Nat) (E : SD → Out D) : SD → Out Fl := fun ς => E ς >>= fun d => match d with
  | .tup ds => setAll is ds ς >>= fun ς' => .ok (.nx ς')
  | _ => .stuck
def sRet (E : SD → Out D) : SD → Out Fl := fun ς => E ς >>= fun d => .ok (.rt false d)
def sRetF (E : SD → Out D) : SD → Out Fl := fun ς => E ς >>= fun d => .ok (.rt true d)
theorem ds_ret (he : DE C e E) : DS C (.Return (some e) pos) (sRet E) := by
  obtain ⟨t, p, q⟩ := he
  refine ⟨_, ps_ret p, fun G H σ ς W S k => ?_⟩
  unfold sRet at k
  rw [Out.post_bind] at k
  exact q G H σ ς _ S (Out.post_mono k fun d k v H1 G1 S1 a1 b1 r1 => k v H1 G1 S1.toGH b1 r1)
theorem ds_retF (he : DF C e E) : DS C (.Return (some e) pos) (sRetF E) := by
  obtain ⟨t, p, q⟩ := he
  refine ⟨_, ps_ret p, fun G H σ ς W S k => ?_⟩
  unfold sRetF at k
  rw [Out.post_bind] at k
  exact q G H σ ς _ S (Out.post_mono k fun d k p H1 G1 S1 a1 b1 hp hg ow => k _ H1 G1 S1.toGH b1 ⟨p, rfl, S.h0none hp, hg, ow⟩)
def sRetO (i : Nat) : SD → Out Fl := fun ς => match ς[i]? with | some (some (.o, d)) => .ok (.rt true d) | _ => .stuck
theorem ds_retO (i : Nat) {x : Str} {px : Pos} (hN : C.X.N[i]? = some x := by rfl) (hv : Vis C.X.env.scope x := by first | exact Or.inl rfl | exact Or.inr (Or.inl rfl) | exact Or.inr (Or.inr rfl))
    (hd : (x == ("__debug__" : Str)) = false := by decide) (hcd : (x == ("__classdict__" : Str)) = false := by decide) : DS C (.Return (some (.Name x px)) pos) (sRetO i) := by
  refine ⟨_, ps_ret (pe_var (i := i) hN hv hd hcd), fun G H σ ς W S k => ?_⟩
  unfold sRetO at k
  split at k
  · rename_i d z
    obtain ⟨p, a, b, c, w⟩ := S.ow i d z
    exact ⟨_, a, k _ H G S.toGH (Same.refl G) ⟨p, rfl, c, b, w⟩⟩
  · exact k.elim
def sIf (c : SD → Out Bool) (T U : SD → Out Fl) : SD → Out Fl := fun ς => c ς >>= fun b => if b = true then T ς else U ς
theorem ds_if {c : Expr} {a b : List Stmt} {TC : SD → Out Bool} (hc : DT C c TC) (ha : DSs C a T) (hb : DSs C b U) : DS C (.If c a b pos) (sIf TC T U) := by
  obtain ⟨t0, p0, q0⟩ := hc
  obtain ⟨t1, p1, q1⟩ := ha
  obtain ⟨t2, p2, q2⟩ := hb
  refine ⟨_, ps_if p0 p1 p2, fun G H σ ς W S k => ?_⟩
  unfold sIf at k
  rw [Out.post_bind] at k
  refine q0 G H σ ς _ S (Out.post_mono k fun b k H1 G1 S1 a1 b1 => ?_)
  cases b with
  | true => exact iteT (q1 G1 H1 σ ς W S1 (Out.post_mono (show (T ς).post _ _ from k) fun f k => FlK.later k b1))
  | false => exact iteF (q2 G1 H1 σ ς W S1 (Out.post_mono (show (U ς).post _ _ from k) fun f k => FlK.later k b1))
end
def loopD (body : D → SD → Out Fl) : List D → SD → Out Fl
  | [], ς => .ok (.nx ς)
  | x :: xs, ς => body x ς >>= fun f => match f with
    | .nx ς' => loopD body xs ς'
    | .ct ς' => loopD body xs ς'
    | .bk ς' => .ok (.nx ς')
    | .rt b d => .ok (.rt b d)
def DG (C : Dc) (tg : Expr) (g : D → SD → Out SD) : Prop := ∃ t, PG C.X tg t ∧ ∀ G H σ ς d v ς' (Q : St → Hp → Prop), StR C G H σ ς → Rep C.X.K C.CT G d v → g d ς = .ok ς' → (∀ σ', StR C G H σ' ς' → Q σ' H) → t v σ H Q
def gN (i : Nat) : D → SD → Out SD := fun d ς => .ok (ς.set i (some (.k, d)))
def gT (is : List Nat) : D → SD → Out SD := fun d ς => match d with | .tup ds => setAll is ds ς | _ => .stuck
def noExc {α β γ : Type} (g : α → β → Out γ) : Prop := ∀ a b x, g a b ≠ .exc x
theorem noExc_gN (i : Nat) : noExc (gN i) := fun _ _ _ h => by cases h
section
variable {C : Dc} {e tg iter : Expr} {E : SD → Out D} {body : List Stmt} {T U : SD → Out Fl} {pos : Pos} {g : D → SD → Out SD}
theorem dg_name {i : Nat} {x : Str} (hN : C.X.N.Nodup) (hi : C.X.N[i]? = some x) (hx : Loc C.X.env.scope x)
    (hf : C.X.fn x = true ∨ C.X.env.scope.names.lookup x = some .local := by first | exact .inl rfl | exact .inr rfl | assumption) : DG C (.Name x pos) (gN i) :=
  ⟨_, pg_name hN hi hx hf, fun G H σ ς d v ς' Q S r h k => by cases h; exact k _ (S.set i r)⟩
def sFor (g : D → SD → Out SD) (its : SD → Out (List D)) (T : SD → Out Fl) : SD → Out Fl := fun ς => its ς >>= fun xs => loopD (fun x ς => g x ς >>= fun ς' => T ς') xs ς
theorem turnD {W : Ends} {x : D} {v : V} {xs : List D} {G H : Hp} {σ : St} {ς : SD} {tb : TS} {tt : TG} {N : L2.St → Hp → Prop} (hne : noExc g)
    (hg : ∀ G H σ ς d v ς' (Q : St → Hp → Prop), StR C G H σ ς → Rep C.X.K C.CT G d v → g d ς = .ok ς' → (∀ σ', StR C G H σ' ς' → Q σ' H) → tt v σ H Q)
    (hb : ∀ G H σ ς W, StR C G H σ ς → (T ς).post (FlK C G W) C.XD → tb W σ H)
    (S : StR C G H σ ς) (r : Rep C.X.K C.CT G x v) (q : (loopD (fun x ς => g x ς >>= fun ς' => T ς') (x :: xs) ς).post (FlK C G W) C.XD)
    (hN : ∀ σ' H' G' ς', StR C G' H' σ' ς' → Same G G' → (loopD (fun x ς => g x ς >>= fun ς' => T ς') xs ς').post (FlK C G' W) C.XD → N σ' H') :
    tt v σ H fun σ2 H2 => tb { W with nx := N, ct := N, bk := W.nx } σ2 H2 := by
  have q' : ((g x ς >>= fun ς' => T ς') >>= fun f => match f with
    | .nx ς' => loopD (fun x ς => g x ς >>= fun ς' => T ς') xs ς'
    | .ct ς' => loopD (fun x ς => g x ς >>= fun ς' => T ς') xs ς'
    | .bk ς' => .ok (.nx ς')
    | .rt b d => .ok (.rt b d)).post (FlK C G W) C.XD := q
  rw [Out.post_bind, Out.post_bind] at q'
  cases z : g x ς with
  | exc y => exact absurd z (hne _ _ _)
  | stuck => rw [z] at q'; exact q'.elim
  | ok ς1 =>
    rw [z] at q'
    refine hg G H σ ς x v ς1 _ S r z fun σ1 S1 => hb G H σ1 ς1 _ S1 (Out.post_mono q' fun f k => ?_)
    cases f with
    | nx ς' => exact fun σ' H' G' S' s' => hN σ' H' G' ς' S' s' (Out.post_mono (show (loopD _ xs ς').post _ _ from k) fun f k => FlK.later k s')
    | ct ς' => exact fun σ' H' G' S' s' => hN σ' H' G' ς' S' s' (Out.post_mono (show (loopD _ xs ς').post _ _ from k) fun f k => FlK.later k s')
    | bk ς' => exact fun σ' H' G' S' s' => (show FlK C G W (.nx ς') from k) σ' H' G' S' s'
    | rt b d => exact k
theorem drop_cons {α : Type} {xs : List α} {i : Nat} {x : α} (h : xs[i]? = some x) : xs.drop i = x :: xs.drop (i + 1) := by
  obtain ⟨l, e⟩ := List.getElem?_eq_some_iff.mp h
  rw [List.drop_eq_getElem_cons l, e]
def rangeD (lo : Int) (n : Nat) : List D := (List.range n).map fun (i : Nat) => D.int (lo + i)
theorem rangeD_get {lo : Int} {n i : Nat} (h : i < n) : (rangeD lo n)[i]? = some (D.int (lo + i)) := by
  unfold rangeD
  rw [List.getElem?_map, List.getElem?_range h]; rfl
theorem rangeD_len {lo : Int} {n : Nat} : (rangeD lo n).length = n := by simp [rangeD]
def small62 (i : Int) : Bool := decide (-(2 ^ 62) ≤ i) && decide (i < 2 ^ 62)
def itR1 (A : SD → Out D) : SD → Out (List D) := fun ς => A ς >>= fun d => match d with
  | .int n => if small62 n = true then .ok (rangeD 0 n.toNat) else .stuck
  | _ => .stuck
theorem small62_of {i : Int} (h : small62 i = true) : -(2 ^ 62) ≤ i ∧ i < 2 ^ 62 := by
  unfold small62 at h
  rw [Bool.and_eq_true] at h
  exact ⟨of_decide_eq_true h.1, of_decide_eq_true h.2⟩
def whileN (c : SD → Out Bool) (b : SD → Out Fl) : Nat → SD → Out Fl
  | 0, _ => .stuck
  | n + 1, ς => c ς >>= fun t => if t = true then b ς >>= fun f => match f with
      | .nx ς' => whileN c b n ς'
      | .ct ς' => whileN c b n ς'
      | .bk ς' => .ok (.nx ς')
      | .rt b d => .ok (.rt b d)
    else .ok (.nx ς)
def sWhile (m : SD → Nat) (c : SD → Out Bool) (b : SD → Out Fl) : SD → Out Fl := fun ς => whileN c b (m ς) ς
theorem ds_while (m : SD → Nat) {c : Expr} {TC : SD → Out Bool} (hp : PassesOwn (model C.X.prog C.X.w) C.X.A C.X.env C.X.xe) (hc : DT C c TC) (hb : DSs C body T) : DS C (.While c body [] pos) (sWhile m TC T) := by
  obtain ⟨t0, p0, q0⟩ := hc
  obtain ⟨t1, p1, q1⟩ := hb
  refine ⟨_, ps_while hp p0 p1, fun G H σ ς W S k => ?_⟩
  refine ⟨fun n σ' H' => ∃ G' ς', StR C G' H' σ' ς' ∧ (whileN TC T n ς').post (FlK C G' W) C.XD, ⟨m ς, G, ς, S, k⟩, ?_⟩
  rintro n σ' H' ⟨G', ς', S', k'⟩
  cases n with
  | zero => exact k'.elim
  | succ n =>
    rw [whileN, Out.post_bind] at k'
    refine q0 G' H' σ' ς' _ S' (Out.post_mono k' fun b k H1 G1 S1 a1 b1 => ?_)
    cases b with
    | false => exact iteF ((show FlK C G' W (.nx ς') from k) σ' H1 G1 S1 b1)
    | true =>
      rw [if_pos rfl, Out.post_bind] at k
      refine iteT ⟨fun σ2 H2 => ∃ G2 ς2, StR C G2 H2 σ2 ς2 ∧ (whileN TC T n ς2).post (FlK C G2 W) C.XD, fun σ2 H2 h => ⟨n, Nat.lt_succ_self n, h⟩, ?_⟩
      refine q1 G1 H1 σ' ς' _ S1 (Out.post_mono k fun f k => ?_)
      cases f with
      | nx ς2 => exact fun σ2 H2 G2 S2 s2 => ⟨G2, ς2, S2, Out.post_mono (show (whileN TC T n ς2).post _ _ from k) fun f k => FlK.later k (b1.trans s2)⟩
      | ct ς2 => exact fun σ2 H2 G2 S2 s2 => ⟨G2, ς2, S2, Out.post_mono (show (whileN TC T n ς2).post _ _ from k) fun f k => FlK.later k (b1.trans s2)⟩
      | bk ς2 => exact fun σ2 H2 G2 S2 s2 => (show FlK C G' W (.nx ς2) from k) σ2 H2 G2 S2 (b1.trans s2)
      | rt b d => exact FlK.later (show FlK C G' W (.rt b d) from k) b1
noncomputable def fuelC (c : SD → Out Bool) (b : SD → Out Fl) (ς : SD) : Nat := by
  classical exact if h : ∃ n, whileN c b n ς ≠ .stuck then Classical.choose h else 0
noncomputable def sWhileC (c : SD → Out Bool) (b : SD → Out Fl) : SD → Out Fl := sWhile (fuelC c b) c b
theorem ds_whileC {c : Expr} {TC : SD → Out Bool} (hp : PassesOwn (model C.X.prog C.X.w) C.X.A C.X.env C.X.xe) (hc : DT C c TC) (hb : DSs C body T) : DS C (.While c body [] pos) (sWhileC TC T) := ds_while (fuelC TC T) hp hc hb
theorem whileN_succ {c : SD → Out Bool} {b : SD → Out Fl} : ∀ (n : Nat) (ς : SD), whileN c b n ς ≠ .stuck → whileN c b (n + 1) ς = whileN c b n ς
  | 0, ς, h => absurd rfl h
  | n + 1, ς, h => by
    rw [whileN, whileN]
    rw [whileN] at h
    cases hc : c ς with
    | stuck => rfl
    | exc _ => rfl
    | ok t =>
      rw [hc] at h
      cases t with
      | false => rfl
      | true =>
        have h' : (b ς >>= fun f => match f with
          | .nx ς' => whileN c b n ς'
          | .ct ς' => whileN c b n ς'
          | .bk ς' => .ok (.nx ς')
          | .rt b d => .ok (.rt b d)) ≠ .stuck := h
        show (b ς >>= fun f => match f with
          | .nx ς' => whileN c b (n + 1) ς'
          | .ct ς' => whileN c b (n + 1) ς'
          | .bk ς' => .ok (.nx ς')
          | .rt b d => .ok (.rt b d)) = (b ς >>= fun f => match f with
          | .nx ς' => whileN c b n ς'
          | .ct ς' => whileN c b n ς'
          | .bk ς' => .ok (.nx ς')
          | .rt b d => .ok (.rt b d))
        cases hb : b ς with
        | stuck => rfl
        | exc _ => rfl
        | ok f =>
          rw [hb] at h'
          cases f with
          | nx ς' => exact whileN_succ n ς' h'
          | ct ς' => exact whileN_succ n ς' h'
          | bk _ => rfl
          | rt _ _ => rfl
theorem whileN_le {c : SD → Out Bool} {b : SD → Out Fl} {ς : SD} {n : Nat} (h : whileN c b n ς ≠ .stuck) : ∀ k, whileN c b (n + k) ς = whileN c b n ς
  | 0 => rfl
  | k + 1 => by
    have ih := whileN_le h k
    rw [← Nat.add_assoc, whileN_succ (n + k) ς (by rw [ih]; exact h), ih]
theorem sWhileC_eq {c : SD → Out Bool} {b : SD → Out Fl} {ς : SD} (n : Nat) (h : whileN c b n ς ≠ .stuck) : sWhileC c b ς = whileN c b n ς := by
  have hx : ∃ n, whileN c b n ς ≠ .stuck := ⟨n, h⟩
  have e : fuelC c b ς = Classical.choose hx := by unfold fuelC; rw [dif_pos hx]
  unfold sWhileC sWhile
  rw [e]
  have h2 := Classical.choose_spec hx
  generalize Classical.choose hx = m at h2 ⊢
  rcases Nat.le_total n m with hl | hl
  · obtain ⟨k, rfl⟩ := Nat.exists_eq_add_of_le hl
    exact whileN_le h k
  · obtain ⟨k, rfl⟩ := Nat.exists_eq_add_of_le hl
    exact (whileN_le h2 k).symm
end
end DL
set_option Elab.async false
set_option linter.all false
set_option maxRecDepth 100000
namespace DL
open PySem PySem.Spec PyProof.Rows L2
def RetG (K : PySem.W.Frag) (CT : CTab) (fr : Bool) (H0 G' H' : Hp) (d : D) (v : V) : Prop :=
  if (fr && !d.scal) = true then ∃ p, v = .ref p ∧ H0 p = none ∧ G' p = none ∧ Own K CT G' H' p d else Rep K CT G' d v
def retF (fr : Bool) : Fl → Out D
  | .rt b d => if (!fr || b || d.scal) = true then .ok d else .stuck
  | .nx _ => .ok .non
  | _ => .stuck
def bodyF (fr : Bool) (n len : Nat) (T : SD → Out Fl) : List D → Out D := fun ds =>
  if ds.length = n then T (ds.map (fun d => some (.k, d)) ++ List.replicate (len - n) none) >>= retF fr else .stuck
def SpD (K : PySem.W.Frag) (CT : CTab) (fr : Bool) (m : List D → Out D) : Sp := fun vs H Q _ => ∃ ds G0, Same G0 H ∧ RepL K CT G0 ds vs ∧
  (m ds).post (fun d => ∀ v H' G', Same G0 G' → Same H H' → Same G' H' → (∀ b, G0 b = none → G' b ≠ none → H b = none) → RetG K CT fr H G' H' d v → Q v H') (fun _ => False)
structure FunV (K : PySem.W.Frag) (x qual : Str) (st : Stmt) (f : Addr) (fd : FuncData) (dV : Value) : Prop where
  ex : ∃ (oc : Value) (od : Option Addr) (kV doc pm : Value) (an : Option Addr) (cdv ct : Value) (osl : Array (Option Value)),
    fd = PySem.W.fnOf x qual (defArgs st) (defBody st) (defScope st) dV kV doc pm an cdv ct ∧ K.lookup f = some ⟨oc, od, .func fd, osl⟩ ∧ PySem.W.codeIn K cdv qual = true
  kp : PySem.W.keepIn K (.ref f) = true
theorem funV_mk {K : PySem.W.Frag} {x qual : Str} {st : Stmt} {f : Addr} {oc : Value} {od an : Option Addr} {osl : Array (Option Value)} {dV kV doc pm cdv ct : Value} (l : K.lookup f = some ⟨oc, od, .func (PySem.W.fnOf x qual (defArgs st) (defBody st) (defScope st) dV kV doc pm an cdv ct), osl⟩)
    (c : PySem.W.codeIn K cdv qual = true) (k : PySem.W.keepIn K (.ref f) = true) : FunV K x qual st f (PySem.W.fnOf x qual (defArgs st) (defBody st) (defScope st) dV kV doc pm an cdv ct) dV := ⟨⟨oc, od, kV, doc, pm, an, cdv, ct, osl, rfl, l, c⟩, k⟩
theorem FunV.binds {K : PySem.W.Frag} {x qual : Str} {st : Stmt} {f : Addr} {fd : FuncData} {ps : List Str} (F : FunV K x qual st f fd .none)
    (h : ∀ (kV doc pm : Value) (an : Option Addr) (cdv ct : Value) (us : List Value), us.length = ps.length → bindArgs (PySem.W.fnOf x qual (defArgs st) (defBody st) (defScope st) .none kV doc pm an cdv ct) ⟨us, []⟩ = pure (ps.zip us)) : Binds K fd ps [] := by
  obtain ⟨oc, od, kV, doc, pm, an, cdv, ct, osl, rfl, lk, hcd⟩ := F.ex
  exact .all (h kV doc pm an cdv ct)
abbrev dcOf (P : Program) (w : World) (K : PySem.W.Frag) (mg : Str → Option Value) (base : Heap) (CT : CTab) (N : List Str) (qual : Str) (sc : Scope) (f : Addr) (cdv : Value) (A : Around) (outer : List Env) (s : Shared) (H : Hp) (E : XK) (G : Hp) : Dc :=
  { X := (cxOf CX0 P w K mg base N qual sc f cdv A outer s H E).nox, CT := CT, G0 := G, XD := fun _ => False, B := H, M := fun _ => False }
theorem start_get {N : List Str} {vs : List V} {i : Nat} {v : V} (h : vs[i]? = some v) : (L2.start N vs)[i]? = some (some v) := by
  unfold L2.start
  have hi : i < vs.length := (List.getElem?_eq_some_iff.mp h).1
  rw [List.getElem?_append_left (by simpa using hi), List.getElem?_map, h]; rfl
theorem slots_get {ds : List D} {k : Nat} {i : Nat} {x : SM × D} (h : (ds.map (fun d => some (SM.k, d)) ++ List.replicate k (none : Option (SM × D)))[i]? = some (some x)) : ∃ d, ds[i]? = some d ∧ x = (.k, d) := by
  by_cases hi : i < ds.length
  · rw [List.getElem?_append_left (by simpa using hi), List.getElem?_map] at h
    cases e : ds[i]? with
    | none => rw [e] at h; cases h
    | some d => rw [e] at h; cases h; exact ⟨d, rfl, rfl⟩
  · rw [List.getElem?_append_right (by simpa using hi), List.getElem?_replicate] at h
    split at h <;> cases h
theorem GH.freezeR {C : Dc} {G' H' : Hp} (S : GH C G' H') {p : Addr} {o : HO} (hp : H' p = some o) (hg : G' p = none) (h0 : C.X.H₀ p = none) : GH C (upd G' p o) H' where
  sub := fun b u q => by
    by_cases hb : b = p
    · subst hb; rw [upd_same] at q; cases q; exact hp
    · rw [upd_ne hb] at q; exact S.sub b u q
  g0 := S.g0.trans (same_upd hg)
  new := fun b h1 h2 => by
    by_cases hb : b = p
    · subst hb; exact h0
    · rw [upd_ne hb] at h2; exact S.new b h1 h2
  fr := S.fr
  dom := S.dom
  bs := S.bs
  bh := S.bh
theorem fnV {P : Program} {w : World} {K : PySem.W.Frag} {mg : Str → Option Value} {base : Heap} {CT : CTab} {fr : Bool} {x qual : Str} {st : Stmt} {f : Addr} {fd : FuncData} {dV : Value} {N ps : List Str} {k : Nat} {T : SD → Out Fl}
    (F : FunV K x qual st f fd dV) (S : FnScope N ps (defScope st))
    (hb : ∀ (cdv : Value) (A : Around) (outer : List Env) (s : Shared) (H : Hp) (E : XK) (G : Hp), Room k (A.deeper (envOfC qual (defScope st) s.heap.objs.size f cdv)) → DSs (dcOf P w K mg base CT N qual (defScope st) f cdv A outer s H E G) (defBody st) T) :
    FnOk P w K mg base CX0 (k + 1) f fd ps (SpD K CT fr (bodyF fr ps.length N.length T)) := by
  obtain ⟨oc, od, kV, doc, pm, an, cdv, ct, osl, rfl, lk, hcd⟩ := F.ex
  have hpl : ps.length ≤ N.length := by have := congrArg List.length S.pre; rw [List.length_take] at this; omega
  have len : ∀ vs H Q E, SpD K CT fr (bodyF fr ps.length N.length T) vs H Q E → vs.length = ps.length := by
    intro vs H Q E ⟨ds, G0, sub, r, q⟩
    unfold bodyF at q
    by_cases hl : ds.length = ps.length
    · rw [← r.length]; exact hl
    · rw [if_neg hl] at q; exact q.elim
  refine fn_of lk hcd S len fun A outer s H vs Q E hr hsp => ?_
  have hlen := len vs H Q E hsp
  obtain ⟨ds, G0, sub, r, q⟩ := hsp
  obtain ⟨t, p1, q1⟩ := hb cdv A outer s H E G0 hr
  have hl : ds.length = ps.length := by rw [r.length]; exact hlen
  refine ⟨t, p1.nox, ?_⟩
  unfold bodyF at q
  rw [if_pos hl, Out.post_bind] at q
  have S0 : StR (dcOf P w K mg base CT N qual (defScope st) f cdv A outer s H E G0) G0 H (L2.start N vs) (ds.map (fun d => some (.k, d)) ++ List.replicate (N.length - ps.length) none) := {
    sub := sub
    g0 := Same.refl _
    new := fun b h1 h2 => absurd h1 h2
    fr := fun b o e _ => e
    dom := fun b e => e
    bs := Same.refl _
    bh := fun b e => e
    len := by unfold L2.start; simp; omega
    fz := fun i d e => by
      obtain ⟨d', e1, e2⟩ := slots_get e
      cases e2
      obtain ⟨v, e3, rv⟩ := r.get e1
      exact ⟨v, start_get e3, rv⟩
    ow := fun i d e => by
      obtain ⟨d', e1, e2⟩ := slots_get e
      cases e2
    ln := fun i d e => by
      obtain ⟨d', e1, e2⟩ := slots_get e
      cases e2
    inj := fun i j d e p _ h => by
      obtain ⟨d', e1, e2⟩ := slots_get h
      cases e2
    sf := fun i d e => by
      obtain ⟨d', e1, e2⟩ := slots_get e
      cases e2
    su := fun i j d e h => by
      obtain ⟨d', e1, e2⟩ := slots_get h
      cases e2 }
  refine q1 G0 H (L2.start N vs) _ _ S0 (Out.post_mono q fun fl kk => ?_)
  cases fl with
  | nx ς' => exact fun σ' H' G' S' s' => kk .non H' G' s' (fun b o e => S'.fr b o e id) S'.sub S'.new (by unfold RetG; rw [if_neg (by cases fr <;> decide)]; rfl)
  | bk ς' => exact fun σ' H' G' S' s' => kk.elim
  | ct ς' => exact fun σ' H' G' S' s' => kk.elim
  | rt b d =>
    intro v H' G' S' s' ret
    have kk' : (if (!fr || b || d.scal) = true then Out.ok d else Out.stuck).post (fun d => ∀ v H' G', Same G0 G' → Same H H' → Same G' H' → (∀ b, G0 b = none → G' b ≠ none → H b = none) → RetG K CT fr H G' H' d v → Q v H') (fun _ => False) := kk
    rcases post_ite kk' with ⟨hc, k2⟩ | ⟨_, k2⟩
    · have k3 : ∀ v H' G', Same G0 G' → Same H H' → Same G' H' → (∀ b, G0 b = none → G' b ≠ none → H b = none) → RetG K CT fr H G' H' d v → Q v H' := k2
      cases b with
      | false =>
        refine k3 v H' G' s' (fun b o e => S'.fr b o e id) S'.sub S'.new ?_
        unfold RetG
        have hn : ¬ (fr && !d.scal) = true := by revert hc; cases fr <;> cases d.scal <;> simp
        rw [if_neg hn]
        exact ret
      | true =>
        obtain ⟨p, rfl, h0, hg, ow⟩ := (show ∃ p, v = .ref p ∧ H p = none ∧ G' p = none ∧ Own K CT G' H' p d from ret)
        cases fr with
        | true =>
          refine k3 _ H' G' s' (fun b o e => S'.fr b o e id) S'.sub S'.new ?_
          have hs : d.scal = false := by cases d <;> first | rfl | exact ow.elim
          unfold RetG
          rw [if_pos (by rw [hs]; rfl)]
          exact ⟨p, rfl, h0, hg, ow⟩
        | false =>
          obtain ⟨o, ho⟩ := ow.there
          have S2 := GH.freezeR S' ho hg h0
          refine k3 _ H' _ (s'.trans (same_upd hg)) (fun b o e => S2.fr b o e id) S2.sub S2.new ?_
          unfold RetG
          rw [if_neg (by simp)]
          exact ow.known hg ho
    · exact k2.elim
def DefOk (P : Program) (w : World) (K : PySem.W.Frag) (mg : Str → Option Value) (base : Heap) (CT : CTab) (x : Str) (k : Nat) (fr : Bool) (dd : List D) (m : List D → Out D) : Prop :=
  ∃ f fd ps ds, FnOk P w K mg base CX0 k f fd ps (SpD K CT fr m) ∧ mg x = some (.ref f) ∧ PySem.W.keepIn K (.ref f) = true ∧ Binds K fd ps ds ∧ Vals (dd.map toV) ds
theorem rep_toVs {K : PySem.W.Frag} {CT : CTab} {H : Hp} : ∀ {dd : List D}, dd.all D.scal = true → RepL K CT H dd (dd.map toV)
  | [], _ => rfl
  | d :: ds, h => by
    rw [List.all_cons, Bool.and_eq_true] at h
    exact ⟨_, _, rfl, toV_rep h.1, rep_toVs h.2⟩
def nonScal (o : Out D) : Out D := o >>= fun d => if d.scal = true then .stuck else .ok d
section
variable {C : Dc} {x : Str} {k : Nat} {fr : Bool} {dd : List D} {m : List D → Out D} {e : Expr} {es : List Expr} {A : SD → Out (List D)} {p pos : Pos}
theorem de_f (h : DefOk C.X.prog C.X.w C.X.K C.X.mg C.X.base C.CT x k fr dd m) (hr : Room k C.X.A) (ha : DA C (e :: es) A) (hg : Gl C.X x) (hs : dd.all D.scal = true := by rfl) (hx : ∀ x, ¬ C.XD x := by exact fun _ h => h)
    (hdb : (x == ("__debug__" : Str)) = false := by decide) (he : starEach (e :: es) C.X.env = (false, eval e C.X.env) :: starEach es C.X.env := by rfl) (hpl : (backTo pos (starEach es C.X.env)).any (·.1) = false := by rfl) :
    DE C (.Call (.Name x p) (e :: es) [] pos) (eA (fun xs => m (xs ++ dd)) A) := by
  obtain ⟨f, fd, ps, ds, F, hm, hk, hb, hd⟩ := h
  obtain ⟨t, p1, q1⟩ := ha
  refine ⟨_, pe_call F hr hg hm hk hb hd pass0 p1 hdb he hpl, fun G H σ ς Q S q => ?_⟩
  unfold eA at q
  rw [Out.post_bind] at q
  refine q1 G H σ ς _ S (Out.post_mono q fun xs kk vs H1 G1 S1 a1 b1 r1 => ⟨xs ++ dd, G1, S1.sub, r1.append (rep_toVs hs), ?_⟩)
  cases z : m (xs ++ dd) with
  | stuck => rw [z] at kk; exact kk.elim
  | exc y => rw [z] at kk; exact absurd kk (hx y)
  | ok d =>
    rw [z] at kk
    intro v H' G' g1 h1 s1 n1 ret
    unfold RetG at ret
    by_cases hc : (fr && !d.scal) = true
    · rw [if_pos hc] at ret
      obtain ⟨pp, rfl, h0, hg', ow⟩ := ret
      obtain ⟨o, ho⟩ := ow.there
      have S2 := (S1.grow h1 g1 s1 n1).freeze ho hg' (S1.h0none h0) (fun i d' z1 z2 => by
        obtain ⟨o', ho'⟩ := S1.own_ne z1 z2
        rw [h0] at ho'; cases ho')
      exact (show KD C G H σ ς Q d from kk) _ _ _ S2 (a1.trans h1) ((b1.trans g1).trans (same_upd hg')) (ow.known hg' ho)
    · rw [if_neg hc] at ret
      exact (show KD C G H σ ς Q d from kk) v H' G' (S1.grow h1 g1 s1 n1) (a1.trans h1) (b1.trans g1) ret
theorem df_f (h : DefOk C.X.prog C.X.w C.X.K C.X.mg C.X.base C.CT x k true dd m) (hr : Room k C.X.A) (ha : DA C (e :: es) A) (hg : Gl C.X x) (hs : dd.all D.scal = true := by rfl) (hx : ∀ x, ¬ C.XD x := by exact fun _ h => h)
    (hdb : (x == ("__debug__" : Str)) = false := by decide) (he : starEach (e :: es) C.X.env = (false, eval e C.X.env) :: starEach es C.X.env := by rfl) (hpl : (backTo pos (starEach es C.X.env)).any (·.1) = false := by rfl) :
    DF C (.Call (.Name x p) (e :: es) [] pos) (fun ς => nonScal (eA (fun xs => m (xs ++ dd)) A ς)) := by
  obtain ⟨f, fd, ps, ds, F, hm, hk, hb, hd⟩ := h
  obtain ⟨t, p1, q1⟩ := ha
  refine ⟨_, pe_call F hr hg hm hk hb hd pass0 p1 hdb he hpl, fun G H σ ς Q S q => ?_⟩
  unfold nonScal eA at q
  rw [Out.post_bind, Out.post_bind] at q
  refine q1 G H σ ς _ S (Out.post_mono q fun xs kk vs H1 G1 S1 a1 b1 r1 => ⟨xs ++ dd, G1, S1.sub, r1.append (rep_toVs hs), ?_⟩)
  cases z : m (xs ++ dd) with
  | stuck => rw [z] at kk; exact kk.elim
  | exc y => rw [z] at kk; exact absurd kk (hx y)
  | ok d =>
    rw [z] at kk
    intro v H' G' g1 h1 s1 n1 ret
    rcases post_ite (show (if d.scal = true then Out.stuck else Out.ok d).post _ _ from kk) with ⟨_, kk⟩ | ⟨hc, kk⟩
    · exact kk.elim
    · unfold RetG at ret
      rw [if_pos (by cases hh : d.scal with | true => exact absurd hh hc | false => rfl)] at ret
      obtain ⟨pp, rfl, h0, hg', ow⟩ := ret
      exact (show KF C G H σ ς Q d from kk) pp H' G' (S1.grow h1 g1 s1 n1) (a1.trans h1) (b1.trans g1) (a1.free h0) hg' ow
end
abbrev bitsI (i : Int) : Nat := Builtin.Int.intBits i
theorem weight_mem : ∀ {xs : List PySem.W.WData} {x : PySem.W.WData}, x ∈ xs → x.weight ≤ PySem.W.WData.weightAll xs
  | y :: r, x, hx => by
    rcases List.mem_cons.mp hx with rfl | hx'
    · simp only [PySem.W.WData.weightAll]; omega
    · have := weight_mem hx'
      simp only [PySem.W.WData.weightAll]; omega
theorem bits_of_lay {ns : List Int} (h : PySem.W.WData.layableAll [PySem.W.WData.list (ns.map PySem.W.WData.int)] = true) : ∀ z ∈ ns, bitsI z ≤ 1048576 := fun z hz => by
  have h1 : (PySem.W.WData.list (ns.map PySem.W.WData.int)).layable = true := by simpa [PySem.W.WData.layableAll] using h
  have h2 : (PySem.W.WData.list (ns.map PySem.W.WData.int)).weight ≤ 2 ^ 20 := of_decide_eq_true (Bool.and_eq_true_iff.mp h1).2
  have h3 : (PySem.W.WData.int z).weight ≤ PySem.W.WData.weightAll (ns.map PySem.W.WData.int) := weight_mem (List.mem_map.mpr ⟨z, hz, rfl⟩)
  have h4 : (PySem.W.WData.int z).weight ≤ 1048576 := by
    have e : (2 : Nat) ^ 20 = 1048576 := by decide
    simp only [PySem.W.WData.weight] at h2
    omega
  simpa only [PySem.W.WData.weight, Builtin.Int.intBits] using h4
theorem walk_of {l : PySem.W.OpenLaw} {n k : Nat} {q : Program} {loose : List Str} {XP : (Str → Option Value) → Heap → Prop} {YP : World → Heap → Prop} {d : DefRec} {K : Params → PySem.W.Frag} {CX : World → CXT} {sp : World → Sp} {x : Str}
    (hn : l.most = some n) (hn2 : n ≤ sizeLine) (hdf : d.params.defaults = []) (hr : Room k callerA)
    (hY : ∀ (w : World) (h : Heap), YP w h → (K w.params).In h)
    (F : ∀ (w : World) (mg : Str → Option Value) (fa : Addr) (h : Heap), (K w.params).In h → h.Ns mainGlobals mg → mg d.name = some (.ref fa) →
      ∃ fd : FuncData, (∀ (s : Shared) (u : Value), BindsTo s fd ⟨[u], []⟩ [(x, u)]) ∧
        ∀ base : Heap, (K w.params).In base → base.Ns mainGlobals mg → FnOk l.prog w (K w.params) mg base (CX w) k fa fd [x] (sp w))
    (hsp : ∀ (w : World) (H : Hp) (a : Addr) (ns : List Int), ns.length ≤ n → (∀ z ∈ ns, bitsI z ≤ 1048576) → Only H → SqL (K w.params) H a (ns.map V.int) → sp w [.ref a] H (fun v _ => v = .bl true) fun _ _ _ => False)
    (hCX : ∀ (w : World) (H : Hp) (s : Shared) (e : Value) (s' : Shared), CX w [] H s (fun _ _ _ => False) e s' → False) :
    PySem.W.WalkO q loose XP YP l.row.toRowW d [] (fun f vs => PySem.call f vs) := by
  intro w s₀ s₁ mg mb G Y fa o pm cd doc dV kV ho hd hcd hD hmg hg args vals as hpre hlay hrd hwl hlo
  obtain rfl : dV = .none := PySem.W.Dflts.none hD hdf
  obtain rfl : kV = .none := PySem.W.Dflts.noKw hD
  obtain ⟨a, vs, ns, rfl, rfl, hobj, hints, hlen⟩ := Att.script_of hn hpre hwl
  have KX := hY w _ Y
  obtain ⟨fd, hb, hF⟩ := F w mg fa _ KX G.T.g hmg
  refine PySem.W.enter_call (codeAny_mono (law_call KX G.T.g G.T.b G.T.builtins G.T.nolimit hg hobj hints (Nat.le_trans hlen hn2) hr hF hb (fun H hO hS => hsp w H a ns hlen (bits_of_lay hlay) hO hS) fun H e s' => hCX w H s₁ e s') fun r s' hq => ?_)
  obtain ⟨rfl, h2, h3, h4⟩ := hq
  exact ⟨.inl ⟨.bool true, .bool true, [], rfl, fun _ => rfl, .bool true, Att.post_true l _, fun _ => ⟨List.Pairwise.nil, fun _ hm => (nomatch hm)⟩⟩, h2, h3, h4⟩
end DL
set_option Elab.async false
set_option linter.all false
set_option maxRecDepth 100000
namespace DL
open PySem PySem.Spec PyProof.Rows L2
def rCatS (K : PySem.W.Frag) : R2 := fun x y H Q => ∃ l b xs zs, x = .ref l ∧ y = .ref b ∧ SqL K H l xs ∧ SqL K H b zs ∧ xs.length + zs.length ≤ sizeLine ∧ ∀ p, H p = none → Q (.ref p) (upd H p (.lst (xs ++ zs)))
theorem op_catS {X : Cx} : OpR X (binaryOp .Add) (rCatS X.K) := by
  intro pins s σ H x y v u Q I rx ry h
  obtain ⟨l, b, xs, zs, rfl, rfl, hH, hB, hz, q⟩ := h
  cases rx
  cases ry
  obtain ⟨its, r, pl, hz1⟩ := I.list hH
  obtain ⟨its2, r2, pl2, hz2⟩ := I.list hB
  obtain ⟨⟨cls, dd, data, sl⟩, n, ho, hc, hdd, hd⟩ := pl
  obtain ⟨⟨cls2, dd2, data2, sl2⟩, n2, ho2, hc2, hdd2, hd2⟩ := pl2
  simp only at hc hd hc2 hd2
  subst hc hd hc2 hd2
  have e : its.toArray ++ its2.toArray = (its ++ its2).toArray := by simp
  have h1 := r.length
  have h2 := r2.length
  refine concat_meets ⟨_, ho, rfl⟩ ⟨_, ho2, rfl⟩ noFill_list_add seq_list_add PySem.F.slot_list_add PySem.F.entry_list_add (PySem.F.args_list_add_2 _ _) (list_addW l b its.toArray its2.toArray n n2 dd dd2 sl sl2 (by rw [List.size_toArray, List.size_toArray]; omega)) ⟨ho, ho2, ?_⟩
  rw [e]
  exact ⟨.ref _, _, I.lnew (t' := s.toks) (r.append r2) (by rw [List.length_append]; omega), rfl, q _ I.fresh⟩
def dCat : D → D → Out D
  | .lst xs, .lst ys => if fits (xs.length + ys.length) = true then .ok (.lst (xs ++ ys)) else .stuck
  | _, _ => .stuck
section
variable {C : Dc} {a b : Expr} {A B : SD → Out D} {pos : Pos}
theorem df_cat (ha : DE C a A) (hb : DE C b B) : DF C (.BinOp a .Add b pos) (e2 dCat A B) := by
  obtain ⟨ta, p1, q1⟩ := ha
  obtain ⟨tb, p2, q2⟩ := hb
  refine ⟨_, pe_op op_catS p1 p2, fun G H σ ς Q S q => ?_⟩
  unfold e2 at q
  rw [Out.post_bind] at q
  refine q1 G H σ ς _ S (Out.post_mono q fun x k v1 H1 G1 S1 a1 b1 r1 => ?_)
  rw [Out.post_bind] at k
  refine q2 G1 H1 σ ς _ S1 (Out.post_mono k fun y k2 v2 H2 G2 S2 a2 b2 r2 => ?_)
  have r1' := Rep.mono b2 x v1 r1
  cases x with
  | lst xs =>
    cases y with
    | lst ys =>
      obtain ⟨p, vs, rfl, h2, h3⟩ := r1'
      obtain ⟨p', vs', rfl, h2', h3'⟩ := r2
      rcases post_ite (show (if fits (xs.length + ys.length) = true then Out.ok (D.lst (xs ++ ys)) else .stuck).post _ _ from k2) with ⟨hc, k3⟩ | ⟨_, k3⟩
      · exact ⟨p, p', vs, vs', rfl, rfl, S2.sub.seq h2, S2.sub.seq h2', by rw [← h3.length, ← h3'.length]; exact of_decide_eq_true hc,
          KF.lst (KF.later (show KF C G H σ ς Q (.lst (xs ++ ys)) from k3) (a1.trans a2) (b1.trans b2)) S2 (h3.append h3')⟩
      · exact k3.elim
    | _ => exact k2.elim
  | _ => cases y <;> exact k2.elim
end
section
variable {C : Dc} {e : Expr} {es : List Expr} {A : SD → Out (List D)} {p pos : Pos}
def fMin2 : List D → Out D
  | [.int i, .int j] => .ok (.int (if j < i then j else i))
  | _ => .stuck
def fMax2 : List D → Out D
  | [.int i, .int j] => .ok (.int (if j > i then j else i))
  | _ => .stuck
theorem shape2 (xs : List D) : (∃ i j, xs = [D.int i, D.int j]) ∨ (fMin2 xs = .stuck ∧ fMax2 xs = .stuck) := by
  match xs with
  | [] => exact .inr ⟨rfl, rfl⟩
  | [x] => cases x <;> exact .inr ⟨rfl, rfl⟩
  | [x, y] =>
    cases x with
    | int i =>
      cases y with
      | int j => exact .inl ⟨i, j, rfl⟩
      | _ => exact .inr ⟨rfl, rfl⟩
    | _ => exact .inr ⟨rfl, rfl⟩
  | x :: y :: z :: r =>
    cases x with
    | int i => cases y <;> exact .inr ⟨rfl, rfl⟩
    | _ => exact .inr ⟨rfl, rfl⟩
theorem de_min2 (hc : C.X.calm = true) (hg : Gl C.X "min") (hm : C.X.mg "min" = none) (ha : DAB C (e :: es) A)
    (he : starEach (e :: es) C.X.env = (false, eval e C.X.env) :: starEach es C.X.env := by rfl) (hpl : (backTo pos (starEach es C.X.env)).any (·.1) = false := by rfl) : DE C (.Call (.Name "min" p) (e :: es) [] pos) (eA fMin2 A) := by
  refine de_callB (call_min2 hc) ?_ ?_ hg hm PyProof.Rows.Boot.«min» ha (by decide) (by decide) he hpl
  · intro G H σ ς Q xs vs S r q
    rcases shape2 xs with ⟨i, j, rfl⟩ | ⟨h, _⟩
    · obtain ⟨_, _, rfl, rfl, _, _, rfl, rfl, rfl⟩ := r
      exact ⟨i, j, rfl, q.2⟩
    · rw [h] at q; exact q.elim
  · intro xs
    rcases shape2 xs with ⟨i, j, rfl⟩ | ⟨h, _⟩
    · exact rfl
    · rw [h]; exact True.intro
end
def isaT (T : String) : D → Out Bool
  | .ins _ _ => .stuck
  | .err _ => .stuck
  | .bl _ => .ok (T == "bool" || T == "int")
  | d => .ok (tyName d == T)
structure Kit (K : PySem.W.Frag) (T : String) : Prop where
  h : ∀ d : D, (match d with | .ins _ _ => True | .err _ => True | .bl _ => PySem.W.kitOne K (.type "bool") (.type T) = some (T == "bool" || T == "int") | d => PySem.W.kitOne K (.type (tyName d)) (.type T) = some (tyName d == T))
section
variable {C : Dc} {e : Expr} {E : SD → Out D} {p pc pos : Pos}
theorem de_isaB (T : Str) {T' : String} (k : Kit C.X.K T') (hgT : Gl C.X T) (hmT : C.X.mg T = none) (hb : bootBuiltins T = some (.type T')) (hg : Gl C.X "isinstance") (hm : C.X.mg "isinstance" = none) (h : DB C e E)
    (hn : T ≠ "__name__" := by decide) (hdb : (T == ("__debug__" : Str)) = false := by decide)
    (he : starEach (e :: [.Name T pc]) C.X.env = (false, eval e C.X.env) :: starEach [.Name T pc] C.X.env := by rfl) (he2 : starEach (.Name T pc :: []) C.X.env = (false, eval (.Name T pc) C.X.env) :: starEach [] C.X.env := by rfl)
    (hpl : (backTo pos (starEach [.Name T pc] C.X.env)).any (·.1) = false := by rfl) : DE C (.Call (.Name "isinstance" p) [e, .Name T pc] [] pos) (eIsa (isaT T') E) := by
  refine de_isa (vc := .ty T') (uc := .type T') (pe_bltn hgT hmT hb rfl hn hdb) rfl (fun d => ?_) hg hm h he he2 hpl
  have := k.h d
  cases d <;> first | exact True.intro | exact this
end
theorem kit_of {K : PySem.W.Frag} {T : String} (h1 : PySem.W.kitOne K (.type "NoneType") (.type T) = some ("NoneType" == T)) (h2 : PySem.W.kitOne K (.type "bool") (.type T) = some (T == "bool" || T == "int"))
    (h3 : PySem.W.kitOne K (.type "int") (.type T) = some ("int" == T)) (h4 : PySem.W.kitOne K (.type "str") (.type T) = some ("str" == T)) (h5 : PySem.W.kitOne K (.type "list") (.type T) = some ("list" == T))
    (h6 : PySem.W.kitOne K (.type "tuple") (.type T) = some ("tuple" == T)) (h7 : PySem.W.kitOne K (.type "dict") (.type T) = some ("dict" == T)) : Kit K T := ⟨fun d => by
  cases d with
  | non => exact h1
  | bl _ => exact h2
  | int _ => exact h3
  | str _ => exact h4
  | lst _ => exact h5
  | tup _ => exact h6
  | dic _ => exact h7
  | ins _ _ => exact True.intro
  | err _ => exact True.intro⟩
theorem kit_int {K : PySem.W.Frag} : Kit K "int" := kit_of (by rfl) (by rfl) (by rfl) (by rfl) (by rfl) (by rfl) (by rfl)
theorem kit_bool {K : PySem.W.Frag} : Kit K "bool" := kit_of (by rfl) (by rfl) (by rfl) (by rfl) (by rfl) (by rfl) (by rfl)
theorem kit_str {K : PySem.W.Frag} : Kit K "str" := kit_of (by rfl) (by rfl) (by rfl) (by rfl) (by rfl) (by rfl) (by rfl)
theorem kit_tuple {K : PySem.W.Frag} : Kit K "tuple" := kit_of (by rfl) (by rfl) (by rfl) (by rfl) (by rfl) (by rfl) (by rfl)
section
variable {C : Dc} {G H : Hp} {σ : St} {ς : SD}
theorem set_self {α : Type} {xs : List α} {i : Nat} {x : α} (h : xs[i]? = some x) : xs.set i x = xs := by
  obtain ⟨hi, e⟩ := List.getElem?_eq_some_iff.mp h
  rw [← e]; exact List.set_getElem_self hi
theorem StR.write (S : StR C G H σ ς) {i : Nat} {p : Addr} {xs ys : List D} {vs ws : List V} (hi : ς[i]? = some (some (.o, .lst xs))) (hp : σ[i]? = some (some (.ref p))) (hH : H p = some (.lst vs)) (r : RepL C.X.K C.CT G ys ws) :
    StR C G (upd H p (.lst ws)) σ (ς.set i (some (.o, .lst ys))) := by
  obtain ⟨p', e1, hg, h0, ow⟩ := S.ow i _ hi
  rw [hp] at e1; cases e1
  have hil : i < ς.length := (List.getElem?_eq_some_iff.mp hi).1
  have ne : ∀ b o, G b = some o → b ≠ p := fun b o e z => by subst z; rw [hg] at e; cases e
  have S' : StR C G (upd H p (.lst ws)) (σ.set i (some (.ref p))) (ς.set i (some (.o, .lst ys))) := {
    sub := fun b o e => by rw [upd_ne (ne b o e)]; exact S.sub b o e
    g0 := S.g0
    new := S.new
    fr := fun b o e m => by
      rw [upd_ne (by rintro rfl; rw [h0] at e; cases e)]; exact S.fr b o e m
    dom := fun b e => by
      by_cases hb : b = p
      · subst hb; exact h0
      · rw [upd_ne hb] at e; exact S.dom b e
    bs := fun b o e => by
      rw [upd_ne (by rintro rfl; rw [S.bh _ h0] at e; cases e)]; exact S.bs b o e
    bh := S.bh
    len := by rw [List.length_set, List.length_set]; exact S.len
    fz := fun j d h => by
      rcases get_set h with ⟨rfl, h2, l⟩ | ⟨hne, h2⟩
      · cases h2
      · rw [set_get_ne hne]; exact S.fz j d h2
    ow := fun j d h => by
      rcases get_set h with ⟨rfl, h2, l⟩ | ⟨hne, h2⟩
      · cases h2
        exact ⟨p, set_get (by rw [S.len]; exact l), hg, h0, ⟨ws, upd_same, r⟩⟩
      · rw [set_get_ne hne]
        obtain ⟨q, a, b, c, w⟩ := S.ow j d h2
        have qp : q ≠ p := by
          rintro rfl
          exact S.inj i j _ _ q hne hi h2 hp a
        exact ⟨q, a, b, c, w.mono (Same.refl G) fun o z => by rw [upd_ne qp]; exact z⟩
    ln := fun j d h => by
      rcases get_set h with ⟨rfl, h2, l⟩ | ⟨hne, h2⟩
      · cases h2
      · rw [set_get_ne hne]; exact S.ln j d h2
    inj := fun j k d1 d2 q hjk h1 h2 h3 => by
      have get : ∀ (j : Nat) d, (ς.set i (some (.o, D.lst ys)))[j]? = some (some (.o, d)) → ∃ d', ς[j]? = some (some (.o, d')) := fun j d h => by
        rcases get_set h with ⟨rfl, h2, l⟩ | ⟨hne, h2⟩
        · exact ⟨_, hi⟩
        · exact ⟨_, h2⟩
      obtain ⟨d1', g1⟩ := get j d1 h1
      obtain ⟨d2', g2⟩ := get k d2 h2
      rw [set_self hp] at h3 ⊢
      exact S.inj j k d1' d2' q hjk g1 g2 h3
    sf := fun j d h => by
      rcases get_set h with ⟨rfl, h2, l⟩ | ⟨hne, h2⟩
      · cases h2
      · rw [set_get_ne hne]
        obtain ⟨q, a, b, c, m, z, w⟩ := S.sf j d h2
        have qp : q ≠ p := by
          rintro rfl
          exact c h0
        exact ⟨q, a, b, c, m, z, w.mono (Same.refl G) fun o z => by rw [upd_ne qp]; exact z⟩
    su := fun j k d1 d2 h1 h2 => by
      rcases get_set h1 with ⟨rfl, q1, l⟩ | ⟨n1, q1⟩
      · cases q1
      · rcases get_set h2 with ⟨rfl, q2, l⟩ | ⟨n2, q2⟩
        · cases q2
        · exact S.su j k d1 d2 q1 q2 }
  rw [set_self hp] at S'
  exact S'
variable {a e : Expr} {A E : SD → Out D} {pos p1 p2 p3 : Pos} {x : Str}
end
end DL
set_option Elab.async false
set_option linter.all false
set_option maxRecDepth 100000
namespace DL
open PySem PySem.Spec PyProof.Rows L2
structure DIt (K : PySem.W.Frag) (CT : CTab) (G1 : Hp) (J : It) (ds : List D) : Prop where
  go : ∀ G H (i : Nat) d, Same G1 G → Same G H → ds[i]? = some d → J.go i H ∧ ∀ x H', J.yld i H x H' → ∃ G', Same G G' ∧ Same H H' ∧ Same G' H' ∧ (∀ b, G b = none → G' b ≠ none → H b = none) ∧ Rep K CT G' d x
  stop : ∀ G H, Same G1 G → Same G H → J.stop ds.length H
structure DItB (K : PySem.W.Frag) (CT : CTab) (B1 G1 : Hp) (J : It) (ds : List D) : Prop where
  go : ∀ G H (i : Nat) d, Same G1 G → Same G H → Same B1 H → ds[i]? = some d → J.go i H ∧ ∀ x H', J.yld i H x H' → ∃ G', Same G G' ∧ Same H H' ∧ Same G' H' ∧ (∀ b, G b = none → G' b ≠ none → H b = none) ∧ Rep K CT G' d x
  stop : ∀ G H, Same G1 G → Same G H → Same B1 H → J.stop ds.length H
theorem DIt.b {K : PySem.W.Frag} {CT : CTab} {B1 G1 : Hp} {J : It} {ds : List D} (h : DIt K CT G1 J ds) : DItB K CT B1 G1 J ds := ⟨fun G H i d a b _ e => h.go G H i d a b e, fun G H a b _ => h.stop G H a b⟩
def DIB (C : Dc) (tg iter : Expr) (its : SD → Out (List D)) : Prop := ∃ wi, PI C.X tg iter wi ∧ ∀ G H σ ς (R : It → Hp → Prop), StR C G H σ ς →
  (its ς).post (fun ds => ∀ J H1 G1, StR C G1 H1 σ ς → Same H H1 → Same G G1 → DItB C.X.K C.CT H1 G1 J ds → R J H1) C.XD → wi σ H R
def DI (C : Dc) (tg iter : Expr) (its : SD → Out (List D)) : Prop := ∃ wi, PI C.X tg iter wi ∧ ∀ G H σ ς (R : It → Hp → Prop), StR C G H σ ς →
  (its ς).post (fun ds => ∀ J H1 G1, StR C G1 H1 σ ς → Same H H1 → Same G G1 → DIt C.X.K C.CT G1 J ds → R J H1) C.XD → wi σ H R
section
variable {C : Dc} {e tg iter : Expr} {E : SD → Out D} {body : List Stmt} {T U : SD → Out Fl} {pos : Pos} {g : D → SD → Out SD} {its : SD → Out (List D)}
theorem DI.b (h : DI C tg iter its) : DIB C tg iter its := by
  obtain ⟨wi, p, q⟩ := h
  exact ⟨wi, p, fun G H σ ς R S k => q G H σ ς R S (Out.post_mono k fun ds kd J H1 G1 S1 a b dit => kd J H1 G1 S1 a b dit.b)⟩
theorem dit_range {K : PySem.W.Frag} {CT : CTab} {G1 : Hp} {lo : Int} {n : Nat} : DIt K CT G1 (Itr lo n) (rangeD lo n) where
  go := fun G H i d s1 sH hd => by
    have hi : i < n := by
      have := (List.getElem?_eq_some_iff.mp hd).1
      rw [rangeD_len] at this; exact this
    rw [rangeD_get hi] at hd; cases hd
    exact ⟨hi, fun x H' ⟨e, y⟩ => by
      subst e y
      exact ⟨G, Same.refl _, Same.refl _, sH, fun b g n => absurd g n, rfl⟩⟩
  stop := fun G H s1 sH => by rw [rangeD_len]; exact Nat.le_refl _
theorem di_range1 {a : Expr} {A : SD → Out D} {p1 p2 : Pos} (hgl : Gl C.X "range") (hm : C.X.mg "range" = none) (ha : DB C a A)
    (hst : starEach [a] C.X.env = (false, eval a C.X.env) :: starEach [] C.X.env := by rfl) : DI C tg (.Call (.Name "range" p1) [a] [] p2) (itR1 A) := by
  obtain ⟨t, p, q⟩ := ha
  refine ⟨_, pi_range1 hgl hm (pa_cons p pa_nil hst) hst, fun G H σ ς R S k => ?_⟩
  unfold itR1 at k
  rw [Out.post_bind] at k
  refine q G H σ ς _ S (Out.post_mono k fun d k v H1 G1 S1 a1 b1 r => ?_)
  cases d with
  | int n =>
    cases r
    rcases post_ite k with ⟨hc, k⟩ | ⟨_, k⟩
    · obtain ⟨c1, c2⟩ := small62_of hc
      exact ⟨n, rfl, c1, c2, k _ H1 G1 S1 a1 b1 dit_range⟩
    · exact k.elim
  | _ => exact k.elim
theorem ds_forI (hp : PassesOwn (model C.X.prog C.X.w) C.X.A C.X.env C.X.xe) (hc : C.X.calm = true) (hi : DI C tg iter its) (hg : DG C tg g) (hne : noExc g) (hb : DSs C body T)
    (hs : ∀ x, foldedSetIterable iter C.X.env x = pure x := by intro _; rfl) : DS C (.For tg iter body [] pos) (sFor g its T) := by
  obtain ⟨t0, p0, q0⟩ := hi
  obtain ⟨t1, p1, q1⟩ := hg
  obtain ⟨t2, p2, q2⟩ := hb
  refine ⟨_, ps_for hp hc p0 p1 p2 hs, fun G H σ ς W S k => ?_⟩
  unfold sFor at k
  rw [Out.post_bind] at k
  refine q0 G H σ ς _ S (Out.post_mono k fun xs k J H1 G1 S1 a1 b1 dit => ?_)
  refine ⟨fun i m σ' H' => m = xs.length - i ∧ i ≤ xs.length ∧ ∃ G' ς', StR C G' H' σ' ς' ∧ Same G1 G' ∧ (loopD (fun x ς => g x ς >>= fun ς' => T ς') (xs.drop i) ς').post (FlK C G' W) C.XD,
    ⟨xs.length, by simp, Nat.zero_le _, G1, ς, S1, Same.refl _, Out.post_mono (by simpa using k) fun f k => FlK.later k b1⟩, ?_⟩
  rintro i m σ' H' ⟨rfl, hle, G', ς', S', s', q'⟩
  by_cases hlt : i < xs.length
  · have hd : xs[i]? = some xs[i] := by simp [hlt]
    obtain ⟨hgo, hy⟩ := dit.go G' H' i _ s' S'.sub hd
    refine .inr ⟨hgo, fun σ2 H2 => ∃ G2 ς2, StR C G2 H2 σ2 ς2 ∧ Same G1 G2 ∧ (loopD (fun x ς => g x ς >>= fun ς' => T ς') (xs.drop (i + 1)) ς2).post (FlK C G2 W) C.XD,
      fun σ2 H2 h2 => ⟨xs.length - (i + 1), by omega, rfl, hlt, h2⟩, fun x H'' y => ?_⟩
    obtain ⟨G'', g1, h1, s1, n1, r⟩ := hy x H'' y
    rw [drop_cons hd] at q'
    exact turnD hne q1 q2 (S'.grow h1 g1 s1 n1) r (Out.post_mono q' fun f k => FlK.later k g1) fun σ2 H2 G2 ς2 S2 s2 q2 => ⟨G2, ς2, S2, (s'.trans g1).trans s2, q2⟩
  · have e : i = xs.length := by omega
    subst e
    rw [List.drop_length] at q'
    exact .inl ⟨dit.stop G' H' s' S'.sub, q' σ' H' G' S' (Same.refl _)⟩
end
def compM (f : D → Out (Option D)) : List D → Out (List D)
  | [] => .ok []
  | x :: xs => f x >>= fun o => compM f xs >>= fun ys => .ok (o.toList ++ ys)
def captS (ς : SD) (j : Nat) : Option (SM × D) := match ς[j]? with
  | some (some (.k, d)) => some (.k, d)
  | some (some (_, d)) => some (.l, d)
  | _ => none
def captD (js : List (Option Nat)) (ς : SD) : SD := js.map fun j => j.bind (captS ς)
def turnC (js : List (Option Nat)) (g : D → SD → Out SD) (c : SD → Out Bool) (e : SD → Out D) (ς : SD) (x : D) : Out (Option D) :=
  g x (captD js ς) >>= fun τ => c τ >>= fun b => if b = true then e τ >>= fun y => .ok (some y) else .ok none
def eComp (js : List (Option Nat)) (its : SD → Out (List D)) (g : D → SD → Out SD) (c : SD → Out Bool) (e : SD → Out D) : SD → Out D := fun ς =>
  its ς >>= fun xs => compM (turnC js g c e ς) xs >>= fun ys => if fits ys.length = true then .ok (.lst ys) else .stuck
def DIf (C : Dc) (ifs : List Expr) (T : SD → Out Bool) : Prop := ∃ t, PIf C.X ifs t ∧ ∀ G H σ ς Q, StR C G H σ ς → (T ς).post (KT C G H σ ς Q) C.XD → t σ H Q
def cTrue : SD → Out Bool := fun _ => .ok true
theorem dif_nil {C : Dc} : DIf C [] cTrue := ⟨_, pif_nil, fun G H σ ς Q S q => KT.now q S⟩
def gKeep (g : D → SD → Out SD) (τ0 : SD) : Prop := ∀ x τ, g x τ0 = .ok τ → τ.length = τ0.length ∧ ∀ (i : Nat) md, τ0[i]? = some (some md) → τ[i]? = some (some md)
theorem gKeep_gN {i : Nat} {τ0 : SD} (h : τ0[i]? = some none) : gKeep (gN i) τ0 := by
  intro x τ e
  cases e
  refine ⟨List.length_set .., fun j md hj => ?_⟩
  rw [set_get_ne (by rintro rfl; rw [h] at hj; cases hj)]; exact hj
theorem captD_none {js : List (Option Nat)} {i : Nat} (h : js[i]? = some none) (ς : SD) : (captD js ς)[i]? = some none := by
  unfold captD
  rw [List.getElem?_map, h]; rfl
section
variable {C : Dc} {G H : Hp} {σ : St} {ς : SD}
theorem StR.weak {ς' : SD} (S : StR C G H σ ς') (hl : ς'.length = ς.length) (h : ∀ (i : Nat) md, ς[i]? = some (some md) → ς'[i]? = some (some md)) : StR C G H σ ς :=
  { S with len := by rw [S.len, hl], fz := fun i d e => S.fz i d (h i _ e), ow := fun i d e => S.ow i d (h i _ e), ln := fun i d e => S.ln i d (h i _ e), inj := fun i j d e p n h1 h2 => S.inj i j d e p n (h i _ h1) (h j _ h2), sf := fun i d e => S.sf i d (h i _ e), su := fun i j d e h1 h2 => S.su i j d e (h i _ h1) (h j _ h2) }
theorem StR.updM (S : StR C G H σ ς) {p : Addr} {o : HO} (hM : C.M p) (h0 : C.X.H₀ p ≠ none) (hno : ∀ (i : Nat) d, ς[i]? ≠ some (some (.s, d))) (hB : C.B p = none) (hg : G p = none) : StR C G (upd H p o) σ ς where
  sub := fun b u e => by rw [upd_ne (by rintro rfl; rw [hg] at e; cases e)]; exact S.sub b u e
  g0 := S.g0
  new := S.new
  fr := fun b u e m => by rw [upd_ne (by rintro rfl; exact m hM)]; exact S.fr b u e m
  dom := fun b e => by
    by_cases hb : b = p
    · subst hb; rw [upd_same] at e; cases e
    · rw [upd_ne hb] at e; exact S.dom b e
  bs := fun b u e => by rw [upd_ne (by rintro rfl; rw [hB] at e; cases e)]; exact S.bs b u e
  bh := S.bh
  len := S.len
  fz := S.fz
  ow := fun i d e => by
    obtain ⟨q, a, b, c, w⟩ := S.ow i d e
    exact ⟨q, a, b, c, w.mono (Same.refl G) fun u z => by rw [upd_ne (by rintro rfl; exact h0 c)]; exact z⟩
  ln := S.ln
  inj := S.inj
  sf := fun i d e => absurd e (hno i d)
  su := S.su
abbrev ccOf (C : Dc) (N' : List Str) (scope : Scope) (fp : List Addr) (s : Shared) (H1 G1 : Hp) (p : Addr) : Dc :=
  { X := cxC C.X N' scope fp s (upd H1 p (.lst [])), CT := C.CT, G0 := G1, XD := fun _ => False, B := H1, M := fun b => b = p }
theorem captD_get {js : List (Option Nat)} {i : Nat} {md : SM × D} (h : (captD js ς)[i]? = some (some md)) : ∃ j, js[i]? = some (some j) ∧ captS ς j = some md := by
  unfold captD at h
  rw [List.getElem?_map] at h
  cases e : js[i]? with
  | none => rw [e] at h; cases h
  | some o =>
    rw [e] at h
    cases o with
    | none => cases h
    | some j => exact ⟨j, rfl, Option.some.inj h⟩
theorem capt_get {js : List (Option Nat)} {i j : Nat} {v : V} (h : js[i]? = some (some j)) (hv : σ[j]? = some (some v)) : (capt js σ)[i]? = some (some v) := by
  unfold capt
  rw [List.getElem?_map, h]
  show some ((σ[j]?).join) = _
  rw [hv]; rfl
theorem captS_cases {j : Nat} {m : SM} {d : D} (h : captS ς j = some (m, d)) : (m = .k ∧ ς[j]? = some (some (.k, d))) ∨ (m = .l ∧ (ς[j]? = some (some (.o, d)) ∨ ς[j]? = some (some (.l, d)) ∨ ς[j]? = some (some (.s, d)))) := by
  unfold captS at h
  split at h
  · rename_i d' e; cases h; exact .inl ⟨rfl, e⟩
  · rename_i m' d' hne e
    cases h
    cases m' with
    | k => exact (hne rfl).elim
    | o => exact .inr ⟨rfl, .inl e⟩
    | l => exact .inr ⟨rfl, .inr (.inl e)⟩
    | s => exact .inr ⟨rfl, .inr (.inr e)⟩
  · cases h
theorem captD_no {js : List (Option Nat)} {i : Nat} {d : D} (h : (captD js ς)[i]? = some (some (.s, d))) : False := by
  obtain ⟨j, h1, h2⟩ := captD_get h
  rcases captS_cases h2 with ⟨h3, _⟩ | ⟨h3, _⟩ <;> cases h3
theorem StR.comp {N' : List Str} {scope : Scope} {fp : List Addr} {s : Shared} {js : List (Option Nat)} {p : Addr} (S : StR C G H σ ς) (hp : H p = none) : StR (ccOf C N' scope fp s H G p) G (upd H p (.lst [])) (capt js σ) (captD js ς) where
  sub := S.sub.trans (same_upd hp)
  g0 := Same.refl _
  new := fun b h1 h2 => absurd h1 h2
  fr := fun b o e _ => e
  dom := fun b e => e
  bs := same_upd hp
  bh := fun b e => by
    have e' : upd H p (.lst []) b = none := e
    by_cases hb : b = p
    · subst hb; exact hp
    · rw [upd_ne hb] at e'; exact e'
  len := by unfold capt captD; rw [List.length_map, List.length_map]
  fz := fun i d e => by
    obtain ⟨j, h1, h2⟩ := captD_get e
    rcases captS_cases h2 with ⟨_, h3⟩ | ⟨h3, _⟩
    · obtain ⟨v, a, b⟩ := S.fz j d h3
      exact ⟨v, capt_get h1 a, b⟩
    · cases h3
  ow := fun i d e => by
    obtain ⟨j, h1, h2⟩ := captD_get e
    rcases captS_cases h2 with ⟨h3, _⟩ | ⟨h3, _⟩ <;> cases h3
  ln := fun i d e => by
    obtain ⟨j, h1, h2⟩ := captD_get e
    rcases captS_cases h2 with ⟨h3, _⟩ | ⟨_, h3 | h3 | h3⟩
    · cases h3
    · obtain ⟨q, a, _, _, w⟩ := S.ow j d h3
      exact ⟨_, capt_get h1 a, w.rep S.sub⟩
    · obtain ⟨v, a, b⟩ := S.ln j d h3
      exact ⟨v, capt_get h1 a, Rep.mono S.bs d v b⟩
    · obtain ⟨q, a, _, _, _, _, w⟩ := S.sf j d h3
      exact ⟨_, capt_get h1 a, w.rep S.sub⟩
  inj := fun i j d e q _ h => by
    obtain ⟨j, h1, h2⟩ := captD_get h
    rcases captS_cases h2 with ⟨h3, _⟩ | ⟨h3, _⟩ <;> cases h3
  sf := fun i d e => (captD_no e).elim
  su := fun i j d e h => (captD_no h).elim
variable {N' : List Str} {js : List (Option Nat)} {scope : Scope} {tg iter elt : Expr} {ifs : List Expr} {its : SD → Out (List D)} {g : D → SD → Out SD} {c : SD → Out Bool} {e : SD → Out D} {pos : Pos}
theorem compW_of {J : It} {xs : List D} {p : Addr} {fp : List Addr} {s : Shared} {Q : VK} (S : StR C G H σ ς) (hp : H p = none) (dit : DItB C.X.K C.CT H G J xs) (hx : ∀ x, ¬ C.XD x) (hk : gKeep g (captD js ς)) (hne : noExc g)
    (hin : DG (ccOf C N' scope fp s H G p) tg g ∧ DIf (ccOf C N' scope fp s H G p) ifs c ∧ DE (ccOf C N' scope fp s H G p) elt e)
    (q : (compM (turnC js g c e ς) xs >>= fun ys => if fits ys.length = true then Out.ok (D.lst ys) else .stuck).post (fun d => ∀ H' G', StR C G' H' σ ς → Same H H' → Same G G' → G' p = none → Own C.X.K C.CT G' H' p d → Q (.ref p) H') C.XD) :
    CompW (cxC C.X N' scope fp s (upd H p (.lst []))) js tg elt ifs σ H J p Q := by
  obtain ⟨⟨tt, pg, hg⟩, ⟨tcc, pif, hcI⟩, ⟨te, pe, he⟩⟩ := hin
  generalize hτ : captD js ς = τ0 at hk
  have S0 : StR (ccOf C N' scope fp s H G p) G (upd H p (.lst [])) (capt js σ) τ0 := by rw [← hτ]; exact S.comp hp
  refine ⟨fun i m τ H' => m = xs.length - i ∧ i ≤ xs.length ∧ ∃ G' acc vs, StR (ccOf C N' scope fp s H G p) G' H' τ τ0 ∧ H' p = some (.lst vs) ∧ RepL C.X.K C.CT G' acc vs ∧ G' p = none ∧
    (compM (turnC js g c e ς) (xs.drop i)).post (fun ys => (if fits (acc ++ ys).length = true then Out.ok (D.lst (acc ++ ys)) else .stuck).post (fun d => ∀ H' G', StR C G' H' σ ς → Same H H' → Same G G' → G' p = none → Own C.X.K C.CT G' H' p d → Q (.ref p) H') C.XD) C.XD,
    ⟨xs.length, by simp, Nat.zero_le _, G, [], [], S0, upd_same, rfl, S.sub.free hp, by rw [Out.post_bind] at q; simpa using q⟩, ?_⟩
  rintro i m τ H' ⟨rfl, hle, G', acc, vs, S', hp', r', hg', q'⟩
  have hH0 : (ccOf C N' scope fp s H G p).X.H₀ p ≠ none := by
    show upd H p (.lst []) p ≠ none
    rw [upd_same]; simp
  by_cases hlt : i < xs.length
  · have hd : xs[i]? = some xs[i] := by simp [hlt]
    obtain ⟨hgo, hy⟩ := dit.go G' H' i _ S'.g0 S'.sub S'.bs hd
    refine .inr ⟨hgo, fun τ2 H2 => i + 1 ≤ xs.length ∧ ∃ G' acc vs, StR (ccOf C N' scope fp s H G p) G' H2 τ2 τ0 ∧ H2 p = some (.lst vs) ∧ RepL C.X.K C.CT G' acc vs ∧ G' p = none ∧
      (compM (turnC js g c e ς) (xs.drop (i + 1))).post (fun ys => (if fits (acc ++ ys).length = true then Out.ok (D.lst (acc ++ ys)) else .stuck).post (fun d => ∀ H' G', StR C G' H' σ ς → Same H H' → Same G G' → G' p = none → Own C.X.K C.CT G' H' p d → Q (.ref p) H') C.XD) C.XD,
      fun τ2 H2 h2 => ⟨xs.length - (i + 1), by omega, rfl, h2⟩, fun x H'' y => ?_⟩
    obtain ⟨G'', g1, h1, s1, n1, r⟩ := hy x H'' y
    have S'' := S'.grow h1 g1 s1 n1
    have hgp : G'' p = none := by
      cases z : G'' p with
      | none => rfl
      | some o =>
        have := n1 p hg' (by rw [z]; simp)
        rw [hp'] at this; cases this
    rw [drop_cons hd, compM, Out.post_bind] at q'
    have tu : turnC js g c e ς xs[i] = (g xs[i] τ0 >>= fun τ => c τ >>= fun b => if b = true then e τ >>= fun y => Out.ok (some y) else Out.ok none) := by unfold turnC; rw [hτ]
    rw [tu, Out.post_bind] at q'
    cases z : g xs[i] τ0 with
    | exc w => exact absurd z (hne _ _ _)
    | stuck => rw [z] at q'; exact q'.elim
    | ok τ1 =>
      rw [z] at q'
      obtain ⟨hl1, hk1⟩ := hk _ _ z
      refine ⟨tt, pg, hg G'' H'' τ τ0 xs[i] x τ1 _ S'' r z fun τ2 S2 => ?_⟩
      have q2 : (c τ1 >>= fun b => if b = true then e τ1 >>= fun y => Out.ok (some y) else Out.ok none).post _ _ := q'
      rw [Out.post_bind] at q2
      -- no refusal leaves the block
      have q3 : (c τ1).post (fun b => (if b = true then e τ1 >>= fun y => Out.ok (some y) else Out.ok none).post (fun o => (compM (turnC js g c e ς) (xs.drop (i + 1)) >>= fun ys => Out.ok (o.toList ++ ys)).post (fun ys => (if fits (acc ++ ys).length = true then Out.ok (D.lst (acc ++ ys)) else .stuck).post (fun d => ∀ H' G', StR C G' H' σ ς → Same H H' → Same G G' → G' p = none → Own C.X.K C.CT G' H' p d → Q (.ref p) H') C.XD) C.XD) C.XD) (fun _ => False) := by
        cases w : c τ1 with
        | ok b => rw [w] at q2; exact q2
        | exc w' => rw [w] at q2; exact absurd q2 (hx _)
        | stuck => rw [w] at q2; exact q2.elim
      refine ⟨tcc, pif, hcI G'' H'' τ2 τ1 _ S2 (Out.post_mono q3 fun b kb H3 G3 S3 a3 b3 => ?_)⟩
      have hp3 : H3 p = some (.lst vs) := a3 _ _ (h1 _ _ hp')
      have hg3 : G3 p = none := by
        cases z3 : G3 p with
        | none => rfl
        | some o =>
          have e3 : (ccOf C N' scope fp s H G p).G0 p = none := S.sub.free hp
          exact absurd (S3.new p e3 (by rw [z3]; simp)) hH0
      cases b with
      | false =>
        refine iteF ⟨hlt, G3, acc, vs, S3.weak (by rw [hl1]) hk1, hp3, RepL.mono (g1.trans b3) acc vs r', hg3, ?_⟩
        have kb' : (compM (turnC js g c e ς) (xs.drop (i + 1)) >>= fun ys => Out.ok ((none : Option D).toList ++ ys)).post (fun ys => (if fits (acc ++ ys).length = true then Out.ok (D.lst (acc ++ ys)) else .stuck).post (fun d => ∀ H' G', StR C G' H' σ ς → Same H H' → Same G G' → G' p = none → Own C.X.K C.CT G' H' p d → Q (.ref p) H') C.XD) C.XD := kb
        rw [Out.post_bind] at kb'
        exact Out.post_mono kb' fun ys k => k
      | true =>
        have kb : (e τ1 >>= fun y => Out.ok (some y)).post (fun o => (compM (turnC js g c e ς) (xs.drop (i + 1)) >>= fun ys => Out.ok (o.toList ++ ys)).post (fun ys => (if fits (acc ++ ys).length = true then Out.ok (D.lst (acc ++ ys)) else .stuck).post (fun d => ∀ H' G', StR C G' H' σ ς → Same H H' → Same G G' → G' p = none → Own C.X.K C.CT G' H' p d → Q (.ref p) H') C.XD) C.XD) C.XD := kb
        rw [Out.post_bind] at kb
        have kb2 : (e τ1).post (fun y => (compM (turnC js g c e ς) (xs.drop (i + 1)) >>= fun ys => Out.ok ((some y : Option D).toList ++ ys)).post (fun ys => (if fits (acc ++ ys).length = true then Out.ok (D.lst (acc ++ ys)) else .stuck).post (fun d => ∀ H' G', StR C G' H' σ ς → Same H H' → Same G G' → G' p = none → Own C.X.K C.CT G' H' p d → Q (.ref p) H') C.XD) C.XD) (fun _ => False) := by
          cases w : e τ1 with
          | ok b => rw [w] at kb; exact kb
          | exc w' => rw [w] at kb; exact absurd kb (hx _)
          | stuck => rw [w] at kb; exact kb.elim
        refine iteT ⟨te, pe, he G3 H3 τ2 τ1 _ S3 (Out.post_mono kb2 fun y ky v4 H4 G4 S4 a4 b4 r4 => ?_)⟩
        rw [Out.post_bind] at ky
        have hp4 : H4 p = some (.lst vs) := a4 _ _ hp3
        have hg4 : G4 p = none := by
          cases z3 : G4 p with
          | none => rfl
          | some o =>
            have e3 : (ccOf C N' scope fp s H G p).G0 p = none := S.sub.free hp
            exact absurd (S4.new p e3 (by rw [z3]; simp)) hH0
        have rr := RepL.mono ((g1.trans b3).trans b4) acc vs r'
        refine ⟨vs, hp4, ?_, hlt, G4, acc ++ [y], vs ++ [v4], ?_, upd_same, rr.append (RepL.one r4), hg4, ?_⟩
        · cases w : compM (turnC js g c e ς) (xs.drop (i + 1)) with
          | stuck => rw [w] at ky; exact ky.elim
          | exc w' => rw [w] at ky; exact absurd ky (hx _)
          | ok ys =>
            rw [w] at ky
            rcases post_ite (show (if fits (acc ++ ((some y : Option D).toList ++ ys)).length = true then Out.ok (D.lst (acc ++ ((some y : Option D).toList ++ ys))) else .stuck).post _ _ from ky) with ⟨hc, _⟩ | ⟨_, k⟩
            · have hc' := of_decide_eq_true hc
              rw [List.length_append, List.length_append] at hc'
              have : (some y : Option D).toList.length = 1 := rfl
              have hl := r'.length
              omega
            · exact k.elim
        · exact (S4.weak (by rw [hl1]) hk1).updM rfl hH0 (fun i d z => by rw [← hτ] at z; exact captD_no z) hp hg4
        · exact Out.post_mono ky fun ys k => by
            have e5 : acc ++ [y] ++ ys = acc ++ ((some y : Option D).toList ++ ys) := by simp
            rw [e5]; exact k
  · have ei : i = xs.length := by omega
    subst ei
    rw [List.drop_length] at q'
    refine .inl ⟨dit.stop G' H' S'.g0 S'.sub S'.bs, ?_⟩
    have q2 : (if fits (acc ++ []).length = true then Out.ok (D.lst (acc ++ [])) else .stuck).post _ C.XD := q'
    rcases post_ite q2 with ⟨_, k⟩ | ⟨_, k⟩
    · rw [List.append_nil] at k
      have hHH : Same H H' := fun b o eb => S'.fr b o (by
        show upd H p (.lst []) b = some o
        rw [upd_ne (ne_of_none eb hp)]; exact eb) (ne_of_none eb hp)
      have SG : StR C G' H' σ ς := S.grow hHH S'.g0 S'.sub fun b h1 h2 => by
        have := S'.new b h1 h2
        have this : upd H p (.lst []) b = none := this
        by_cases hb : b = p
        · subst hb; exact hp
        · rw [upd_ne hb] at this; exact this
      exact k H' G' SG hHH S'.g0 hg' ⟨vs, hp', r'⟩
    · exact k.elim
theorem compT (hi : ∃ wi, PI C.X tg iter wi ∧ ∀ G H σ ς (R : It → Hp → Prop), StR C G H σ ς → (its ς).post (fun ds => ∀ J H1 G1, StR C G1 H1 σ ς → Same H H1 → Same G G1 → DItB C.X.K C.CT H1 G1 J ds → R J H1) C.XD → wi σ H R)
    (hx : ∀ x, ¬ C.XD x) (hk : ∀ ς, gKeep g (captD js ς)) (hne : noExc g)
    (hin : ∀ fp s H G p, DG (ccOf C N' scope fp s H G p) tg g ∧ DIf (ccOf C N' scope fp s H G p) ifs c ∧ DE (ccOf C N' scope fp s H G p) elt e) :
    ∃ wi, PI C.X tg iter wi ∧ ∀ G H σ ς Q, StR C G H σ ς → (eComp js its g c e ς).post (KF C G H σ ς Q) C.XD → tComp C.X N' js scope tg elt ifs wi σ H Q := by
  obtain ⟨wi, pi, hq⟩ := hi
  refine ⟨wi, pi, fun G H σ ς Q S k => ?_⟩
  unfold eComp at k
  rw [Out.post_bind] at k
  refine hq G H σ ς _ S (Out.post_mono k fun xs k J H1 G1 S1 a1 b1 dit p hp fp s => ?_)
  refine compW_of S1 hp dit hx (hk ς) hne (hin fp s H1 G1 p) (Out.post_mono k fun d kd H' G' S' h1 g1 hg ow => ?_)
  exact kd p H' G' S' (a1.trans h1) (b1.trans g1) (a1.free hp) hg ow
theorem df_comp (hc : C.X.calm = true) (S : CompSc N' js scope C.X.env.scope C.X.N) (hi : DIB C tg iter its) (hk : ∀ ς, gKeep g (captD js ς)) (hne : noExc g)
    (hin : ∀ fp s H G p, DG (ccOf C N' scope fp s H G p) tg g ∧ DIf (ccOf C N' scope fp s H G p) ifs c ∧ DE (ccOf C N' scope fp s H G p) elt e)
    (hx : ∀ x, ¬ C.XD x := by exact fun _ h => h) (hs : ∀ x, foldedSetIterable iter C.X.env x = pure x := by intro _; rfl) : DF C (.ListComp elt [⟨tg, iter, ifs, 0⟩] scope pos) (eComp js its g c e) := by
  obtain ⟨wi, pi, h⟩ := compT hi hx hk hne hin
  exact ⟨_, pe_comp hc S pi hs, h⟩
variable {i : Nat} {x : Str} {px spos : Pos}
end
end DL
set_option Elab.async false
set_option linter.all false
set_option maxRecDepth 100000
namespace L2
open PySem PySem.Spec PyProof.Rows
def Its (x : Str) : It := ⟨fun i _ => i < x.cps.size, fun i H v H' => H' = H ∧ ∃ c, x.cps[i]? = some c ∧ v = .str ⟨#[c]⟩, fun i _ => x.cps.size ≤ i⟩
section
variable {X : Cx} {tg : Expr}
theorem turn_walk {P : Program} {w : World} {K : PySem.W.Frag} {tg : Expr} {x : Str} {ty : String} {t : Tok} (it : Addr) (hn : ["enumerate", "zip", "dict_itemiterator", "dict_reverseitemiterator", "odict_iterator", "itertools.zip_longest", "itertools.pairwise"].contains ty = false)
    (hs : ∀ (A : Around) (i : Nat) (s : Shared) (Q : Value → Shared → Prop) (E : Value → Shared → Prop), s.heap.IsStrIter it ty x t i → Q (.ref it) s → wpAny (model P w) A (pyIter (.ref it)) Q E s)
    (W : ∀ A' : Around, A'.handled = none → Walks P w A' it [it] [it] x.cps.size (SignAt x) (fun i h => h.IsStrIter it ty x t i)) : Turn P w K tg (Its x) [it] it (fun i h => h.IsStrIter it ty x t i ∧ i ≤ x.cps.size) where
  mem := by simp
  obj := fun i h st b hb => by
    have e : b = it := by simpa using hb
    subst e
    obtain ⟨⟨o, e, c, d⟩, _⟩ := st
    exact ⟨o, e, fun v z => by rw [d] at z; cases z⟩
  keep := fun i h h' st k => ⟨by obtain ⟨⟨o, e, c, d⟩, _⟩ := st; exact ⟨o, k it (by simp) o e, c, d⟩, st.2⟩
  item := by
    intro X hP hw hK hc i pins s σ H E I hf st hg
    subst hP hw hK
    obtain ⟨f0, f1, f2, f3, f4, f5⟩ := hf it (by simp)
    refine (W X.A (I.ok.hd hc)).item i s _ _ hg st.1 fun v h' tk hv st' kk => ?_
    obtain ⟨c, u, hcx, rfl⟩ := hv
    have I1 : Inv X pins σ H { s with heap := h', toks := tk } := I.turned (fun b o hb e => kk b o (by simpa using hb) e) f0 f1 f3 f4 f5
    obtain ⟨o, e, c', d⟩ := id st'
    exact ⟨_, rfl, go_of (s := { s with heap := h', toks := tk }) e c' d hn ⟨.str ⟨#[c]⟩, H, I1, ⟨u, rfl⟩, ⟨rfl, c, hcx, rfl⟩, ⟨st', hg⟩, fun b hb => (hf b hb).1⟩⟩
  done := by
    intro X hP hw hK hc i pins s σ H E I hf st hg
    subst hP hw hK
    obtain ⟨f0, f1, f2, f3, f4, f5⟩ := hf it (by simp)
    have hg' : x.cps.size ≤ i := hg
    have e : i = x.cps.size := Nat.le_antisymm st.2 hg'
    subst e
    exact (W X.A (I.ok.hd hc)).done s _ _ st.1 fun h' tk kk => ⟨rfl, I.turned (fun b o hb e => kk b o (by simpa using hb) e) f0 f1 f3 f4 f5⟩
  self := fun A i s Q E st h => hs A i s Q E st.1 h
def iStr (tl : TE) : TI := fun σ H R => tl σ H fun x H1 => ∃ z, x = .str z ∧ R (Its z) H1
theorem pi_str {l : Expr} {tl : TE} (hl : PE X l tl) : PI X tg l (iStr tl) := by
  intro pins s σ H R I h
  refine thn (hl pins s σ H _ I h) fun v s1 ⟨x, H1, I1, r1, q1⟩ => ?_
  obtain ⟨z, e, q⟩ := q1
  subst e
  obtain ⟨t, rfl⟩ := r1
  cases ha : z.cps.all (· < 128)
  · refine wpAny_pyIter_wide ha ⟨s1.heap.objs.size, [s1.heap.objs.size], _, _, H1, rfl, I1.kept (t' := s1.toks) fun b o e => Heap.get?_push_of_some _ e, turn_walk (x := z) (ty := "str_iterator") (t := t) _ (by decide) (fun _ _ _ _ _ st h => wpAny_pyIter_striter_wide st h) (fun A' hA => Walks.strWide hA _ z t), ⟨⟨_, Heap.get?_push_size _ rfl, rfl, rfl⟩, Nat.zero_le _⟩, fun b hb => ?_, q⟩
    have e : b = s1.heap.objs.size := by simpa using hb
    subst e
    exact I1.fpOk (Nat.le_refl _) (I1.hok.fresh (Nat.le_refl _))
  · refine wpAny_pyIter_ascii ha ⟨s1.heap.objs.size, [s1.heap.objs.size], _, _, H1, rfl, I1.kept (t' := s1.toks) fun b o e => Heap.get?_push_of_some _ e, turn_walk (x := z) (ty := "str_ascii_iterator") (t := t) _ (by decide) (fun _ _ _ _ _ st h => wpAny_pyIter_striter_ascii st h) (fun A' hA => Walks.strAscii hA _ z t), ⟨⟨_, Heap.get?_push_size _ rfl, rfl, rfl⟩, Nat.zero_le _⟩, fun b hb => ?_, q⟩
    have e : b = s1.heap.objs.size := by simpa using hb
    subst e
    exact I1.fpOk (Nat.le_refl _) (I1.hok.fresh (Nat.le_refl _))
theorem all_range (bs : List Bool) : (List.range bs.length).all (fun i => (bs[i]?).getD false) = bs.all id := by
  rw [Bool.eq_iff_iff, List.all_eq_true, List.all_eq_true]
  constructor
  · intro h b hb
    obtain ⟨i, hi, e⟩ := List.mem_iff_getElem.mp hb
    have := h i (List.mem_range.mpr hi)
    rw [List.getElem?_eq_getElem hi, Option.getD_some, e] at this
    exact this
  · intro h i hi
    have hi' := List.mem_range.mp hi
    rw [List.getElem?_eq_getElem hi', Option.getD_some]
    exact h _ (List.getElem_mem hi')
theorem call_allB (hc : X.calm = true) : CallR X (.builtin "all") (fun xs H Q => ∃ (p : Addr) (bs : List Bool), xs = [.ref p] ∧ SqL X.K H p (bs.map V.bl) ∧ Q (.bl (bs.all id)) H) := by
  intro pins s σ H xs us Q I r h
  obtain ⟨p, bs, rfl, hq, q⟩ := h
  obtain ⟨u, rfl, rx⟩ := vals1 r
  cases rx
  obtain ⟨its, rv, pl, hz⟩ := I.list hq
  have hlen := rv.length
  refine call_all_walk ?_
  refine wpAny_pyIter_list pl.isList ?_
  have hp : p < s.heap.objs.size := by obtain ⟨o, n, ho, _⟩ := pl; exact Heap.lt_size ho
  have hne : p ≠ s.heap.objs.size := Nat.ne_of_lt hp
  refine ⟨_, _, _, _, _, _, fun i => (bs[i]?).getD false, rfl, Walks.list (A := X.A.in1) (I.ok.hd hc) _ p hne its.toArray, ⟨⟨_, Heap.get?_push_size _ rfl, rfl, rfl⟩, pl.isList.at fun o e => Heap.get?_push_of_some _ e⟩, ?_, fun h' tk kk => ⟨.bl (bs.all id), H, ?_, ?_, q⟩⟩
  · intro i v s2 Q2 E2 hv hQ2
    have hv' : its[i]? = some v := by simpa using hv
    have hi : i < bs.length := by
      have := (List.getElem?_eq_some_iff.mp hv').1
      rw [List.length_map] at hlen
      omega
    obtain ⟨y, hy, ry⟩ := rv.get (i := i) (x := .bl bs[i]) (by rw [List.getElem?_map, List.getElem?_eq_getElem hi]; rfl)
    rw [hv'] at hy
    cases hy
    cases ry
    have hQ2 : Q2 ((bs[i]?).getD false) s2 := hQ2
    rw [List.getElem?_eq_getElem hi, Option.getD_some] at hQ2
    exact wpAny_pure hQ2
  · exact I.kept fun b o e => kk b o (by
      intro hb
      have e2 : b = s.heap.objs.size := by simpa using hb
      subst e2
      exact absurd (Heap.lt_size e) (Nat.lt_irrefl _)) (Heap.get?_push_of_some _ e)
  · rw [List.size_toArray, ← hlen, List.length_map, all_range]; exact rfl
end
end L2
namespace DL
open PySem PySem.Spec PyProof.Rows L2
def signs (z : Str) : List D := z.cps.toList.map fun c => D.str ⟨#[c]⟩
def itS (E : SD → Out D) : SD → Out (List D) := fun ς => E ς >>= fun d => match d with | .str z => .ok (signs z) | _ => .stuck
section
variable {C : Dc} {e tg iter a b : Expr} {E A B : SD → Out D} {pos p : Pos} {es : List Expr} {AA : SD → Out (List D)}
theorem dit_str {K : PySem.W.Frag} {CT : CTab} {G1 : Hp} {z : Str} : DIt K CT G1 (Its z) (signs z) where
  go := fun G H i d s1 sH hd => by
    unfold signs at hd
    rw [List.getElem?_map] at hd
    cases hc : z.cps.toList[i]? with
    | none => rw [hc] at hd; cases hd
    | some c =>
      rw [hc] at hd
      cases hd
      have hi : i < z.cps.size := by
        have := (List.getElem?_eq_some_iff.mp hc).1
        simpa using this
      refine ⟨hi, fun x H' ⟨e, c', h1, h2⟩ => ?_⟩
      subst e h2
      have h1' : z.cps.toList[i]? = some c' := by simpa using h1
      rw [hc] at h1'
      cases h1'
      exact ⟨G, Same.refl _, Same.refl _, sH, fun b g n => absurd g n, rfl⟩
  stop := fun G H s1 sH => by
    unfold signs
    show z.cps.size ≤ _
    rw [List.length_map]; simp
theorem di_str (h : DB C iter E) : DI C tg iter (itS E) := by
  obtain ⟨t, p, q⟩ := h
  refine ⟨_, pi_str p, fun G H σ ς R S k => ?_⟩
  unfold itS at k
  rw [Out.post_bind] at k
  refine q G H σ ς _ S (Out.post_mono k fun d k v H1 G1 S1 a1 b1 r1 => ?_)
  cases d with
  | str z => cases r1; exact ⟨z, rfl, k _ H1 G1 S1 a1 b1 dit_str⟩
  | _ => exact k.elim
def dIn : D → D → Out D
  | .str x, .str y => .ok (.bl (!(Builtin.Str.occurrences y x 0 y.length 1).isEmpty))
  | _, _ => .stuck
theorem drs_in : DRS C (fun x y H Q => ∃ i j, x = .str i ∧ y = .str j ∧ Q (.bl (!(Builtin.Str.occurrences j i 0 j.length 1).isEmpty)) H) dIn := by
  intro G H σ ς Q x y vx vy S hx hy q
  cases x with
  | str x =>
    cases y with
    | str y => cases hx; cases hy; exact ⟨x, y, rfl, rfl, q.2⟩
    | _ => exact q.elim
  | _ => cases y <;> exact q.elim
theorem scal_in : scal2 dIn := fun x y => by cases x <;> cases y <;> first | exact rfl | exact True.intro
theorem de_in (ha : DB C a A) (hb : DB C b B) (hm : behindInMarks .In b = false := by rfl) : DE C (.Compare a [.In] [b] pos) (e2 dIn A B) := de_cmp op_in_str drs_in scal_in ha hb hm
def blsOf : List D → Option (List Bool)
  | [] => some []
  | .bl b :: r => (blsOf r).map (b :: ·)
  | _ :: _ => none
theorem blsOf_rep {K : PySem.W.Frag} {CT : CTab} {H : Hp} : ∀ {ds : List D} {bs : List Bool} {vs : List V}, blsOf ds = some bs → RepL K CT H ds vs → vs = bs.map V.bl
  | [], bs, vs, h, r => by cases h; exact r
  | d :: ds, bs, vs, h, ⟨v, w, h1, h2, h3⟩ => by
    cases d with
    | bl b =>
      cases e : blsOf ds with
      | none => rw [blsOf, e] at h; cases h
      | some cs =>
        rw [blsOf, e] at h
        cases h
        cases h2
        rw [h1, blsOf_rep e h3]; rfl
    | _ => cases h
def fAll : D → Out D
  | .lst xs => match blsOf xs with | some bs => .ok (.bl (bs.all id)) | none => .stuck
  | _ => .stuck
theorem de_all (hc : C.X.calm = true) (hg : Gl C.X "all") (hm : C.X.mg "all" = none) (ha : DAB C (e :: es) AA)
    (he : starEach (e :: es) C.X.env = (false, eval e C.X.env) :: starEach es C.X.env := by rfl) (hpl : (backTo pos (starEach es C.X.env)).any (·.1) = false := by rfl) : DE C (.Call (.Name "all" p) (e :: es) [] pos) (eA (f1 fAll) AA) := by
  refine de_callB (call_allB hc) (dcs_f1 ?_) (scal_f1 ?_) hg hm PyProof.Rows.Boot.«all» ha (by decide) (by decide) he hpl
  · intro G H σ ς Q x v S r q
    cases x with
    | lst xs =>
      cases eb : blsOf xs with
      | none => rw [fAll, eb] at q; exact q.elim
      | some bs =>
        rw [fAll, eb] at q
        obtain ⟨a, vs, rfl, h2, h3⟩ := r
        rw [blsOf_rep eb h3] at h2
        exact ⟨a, bs, rfl, h2, q.2⟩
    | _ => exact q.elim
  · intro x
    cases x with
    | lst xs =>
      rw [fAll]
      cases blsOf xs with
      | none => exact True.intro
      | some bs => exact rfl
    | _ => exact True.intro
theorem pe_dnew0 {X : Cx} : PE X (.Dict [] [] pos) (fun _ H Q => ∀ p, H p = none → Q (.ref p) (upd H p (.dK []))) := fun pins s σ H Q I h => by
  have hb : sysModules < s.heap.objs.size := Nat.lt_trans (by decide) (show mainGlobals < s.heap.objs.size from (I.mod.glob.keeps I.bk).lt)
  exact wpAny_Dict_empty ⟨.ref s.heap.objs.size, _, I.laid (a := s.heap.objs.size) (o := .dK []) (t' := s.toks) (fun _ _ q => Heap.get?_push_of_some _ q) (Nat.le_refl _)
    ⟨Nat.zero_le _, beq_eq_false_iff_ne.mpr (Ne.symm (Nat.ne_of_lt hb)), [], .nil, Heap.DictOf.new s.heap⟩, rfl, h _ (I.hok.fresh (Nat.le_refl _))⟩
def eDic0 : SD → Out D := fun _ => .ok (.dic [])
theorem df_dic0 : DF C (.Dict [] [] pos) eDic0 := ⟨_, pe_dnew0, fun G H σ ς Q S q p hp => by
  have q : KF C G H σ ς Q (.dic []) := q
  exact q p _ G (S.allocO hp) (same_upd hp) (Same.refl _) hp (S.gnone hp) ⟨[], upd_same, rfl⟩⟩
end
end DL
set_option Elab.async false
set_option linter.all false
set_option maxRecDepth 100000
namespace DL
open PySem PySem.Spec PyProof.Rows L2
def ctOf (K : PySem.W.Frag) : CTab := fun c => match PySem.W.nsIn K mainGlobals c with | some (some (.ref a)) => some a | _ => none
abbrev Dc.nox (C : Dc) : Dc := { C with X := C.X.nox, XD := fun _ => False }
section
variable {C : Dc} {G H : Hp} {σ : St} {ς : SD} {e : Expr} {es : List Expr} {st : Stmt} {sts : List Stmt}
theorem GH.nox (S : GH C G H) : GH C.nox G H := ⟨S.sub, S.g0, S.new, S.fr, S.dom, S.bs, S.bh⟩
theorem GH.unnox (S : GH C.nox G H) : GH C G H := ⟨S.sub, S.g0, S.new, S.fr, S.dom, S.bs, S.bh⟩
theorem StR.nox (S : StR C G H σ ς) : StR C.nox G H σ ς := ⟨S.toGH.nox, S.len, S.fz, S.ow, S.ln, S.inj, S.sf, S.su⟩
theorem StR.unnox (S : StR C.nox G H σ ς) : StR C G H σ ς := ⟨S.toGH.unnox, S.len, S.fz, S.ow, S.ln, S.inj, S.sf, S.su⟩
theorem FlK.nox {W : Ends} {f : Fl} (h : FlK C G W f) : FlK C.nox G W f := by
  cases f with
  | nx ς => exact fun σ' H' G' S q => h σ' H' G' S.unnox q
  | bk ς => exact fun σ' H' G' S q => h σ' H' G' S.unnox q
  | ct ς => exact fun σ' H' G' S q => h σ' H' G' S.unnox q
  | rt b d => exact fun v H' G' S q r => h v H' G' S.unnox q r
variable {x : Str} {k : Nat} {fr : Bool} {dd : List D} {m : List D → Out D} {A : SD → Out (List D)} {p pos : Pos} {E : XK}
end
end DL
set_option Elab.async false
set_option linter.all false
set_option maxRecDepth 100000
namespace DL
open PySem PySem.Spec PyProof.Rows L2
section
variable {C : Dc} {x : Str} {k : Nat} {fr : Bool} {dd : List D} {m : List D → Out D} {e : Expr} {es : List Expr} {A : SD → Out (List D)} {p pos : Pos}
variable {T U : SD → Out FX} {TE : SD → Out EX} {st : Stmt} {sts rest : List Stmt} {i : Nat} {px : Pos}
section
variable {G H : Hp} {σ : St} {ς : SD} {ea : Addr}
end
end
end DL
set_option Elab.async false
set_option linter.all false
set_option maxRecDepth 100000
namespace L2
open PySem PySem.Spec PyProof.Rows
end L2
namespace DL
open PySem PySem.Spec PyProof.Rows L2
section
variable {C : Dc} {pos p : Pos} {e cx : Expr} {E : SD → Out D}
end
end DL
set_option Elab.async false
set_option linter.all false
set_option maxRecDepth 100000
namespace L2
open PySem PySem.Spec PyProof.Rows
section
variable {X : Cx}
end
end L2
namespace DL
open PySem PySem.Spec PyProof.Rows L2
section
variable {C : Dc} {a b : Expr} {A B : SD → Out D}
end
end DL
set_option Elab.async false
set_option linter.all false
set_option maxRecDepth 100000
namespace DL
open PySem PySem.Spec PyProof.Rows L2
section
variable {K : PySem.W.Frag} {CT : CTab} {H H' : Hp}
theorem RepF.len : ∀ {fds : List (Str × D)} {fs : List (Str × V)}, RepF K CT H fds fs → fds.length = fs.length
  | [], _, h => by cases h; rfl
  | (k, d) :: fds, _, ⟨v, r, h1, h2, h3⟩ => by subst h1; rw [List.length_cons, List.length_cons, RepF.len h3]
end
section
variable {C : Dc} {e : Expr} {E : SD → Out D} {f : Str} {cs : List Str} {pos : Pos}
end
end DL
set_option Elab.async false
set_option linter.all false
set_option maxRecDepth 100000
namespace L2
open PySem PySem.Spec PyProof.Rows
section
variable {X : Cx} {CX : CXT} {k : Nat} {m : Str} {dvs : List V} {E : XK} {o e : Expr} {es : List Expr} {ta : TE} {t : TA} {apos pos : Pos} {cs : Addr → Sp → Prop}
end
end L2
namespace DL
open PySem PySem.Spec PyProof.Rows L2
end DL
set_option Elab.async false
set_option linter.all false
set_option maxRecDepth 100000
namespace DL
open PySem PySem.Spec PyProof.Rows L2
section
variable {C : Dc} {E : XK} {c : Str} {A f : Addr} {fd : FuncData} {ps : List Str} {ds : List Value} {dd : List D} {k : Nat} {m : Str → List (Str × D) → List D → Out (List (Str × D))} {e : Expr} {es : List Expr} {AA : SD → Out (List D)} {p pos : Pos}
end
section
variable {C : Dc} {name : Str} {k : Nat} {cs : List Str} {fr : Bool} {mt : Str → List D → Out D} {o e : Expr} {es : List Expr} {O : SD → Out D} {AA : SD → Out (List D)} {apos pos : Pos}
end
end DL
set_option Elab.async false
set_option linter.all false
set_option maxRecDepth 100000
namespace DL
open PySem PySem.Spec PyProof.Rows L2
section
variable {C : Dc} {name : Str} {k : Nat} {cs : List Str} {mt : Str → List D → Out D} {o e : Expr} {es : List Expr} {O : SD → Out D} {AA : SD → Out (List D)} {apos pos : Pos}
variable {E : XK} {m : Str → List (Str × D) → List D → Out (List (Str × D))} {x : Str} {px spos : Pos}
end
end DL
set_option Elab.async false
set_option linter.all false
set_option maxRecDepth 100000
namespace DL
open PySem PySem.Spec PyProof.Rows L2
section
variable {C : Dc} {pos p : Pos} {e cx : Expr} {E : SD → Out D}
end
def eIxO (i : Nat) (b : SD → Out D) : SD → Out D := fun ς => match (ς[i]? : Option (Option (SM × D))) with
  | some (some (SM.o, D.lst xs)) => b ς >>= fun k => match k with | .int k => optO (atI xs k) | _ => .stuck
  | _ => .stuck
section
variable {C : Dc} {pos px : Pos} {b : Expr} {B : SD → Out D} {x f : Str} {cs : List Str}
theorem de_ixO (i : Nat) (hb : DB C b B) (hN : C.X.N[i]? = some x := by rfl) (hv : Vis C.X.env.scope x := by first | exact Or.inl rfl | exact Or.inr (Or.inl rfl) | exact Or.inr (Or.inr rfl))
    (hd : (x == ("__debug__" : Str)) = false := by decide) (hcd : (x == ("__classdict__" : Str)) = false := by decide) (hs : PlainIx b := by intro _ _; rfl) : DE C (.Subscript (.Name x px) b pos) (eIxO i B) := by
  obtain ⟨tb, p2, q2⟩ := hb
  refine ⟨_, pe_ix ix_seq (pe_var (i := i) hN hv hd hcd) p2 hs, fun G H σ ς Q S q => ?_⟩
  unfold eIxO at q
  split at q
  · rename_i xs z
    obtain ⟨p, e1', hg, h0, ow⟩ := S.ow i _ z
    rw [Out.post_bind] at q
    refine ⟨_, e1', q2 G H σ ς _ S (Out.post_mono q fun y k2 v2 H2 G2 S2 a2 b2 r2 => ?_)⟩
    cases y with
    | int k =>
      cases r2
      obtain ⟨d, e2', kd⟩ := post_opt k2
      obtain ⟨p', e3', hg', h0', vs, hv1, hv2⟩ := S2.ow i _ z
      rw [e1'] at e3'; cases e3'
      obtain ⟨v, e4', rv⟩ := atI_rep hv2 e2'
      exact .inl ⟨p, vs, k, v, rfl, rfl, SqL.of hv1, e4', KD.now (KD.later kd a2 b2) S2 rv⟩
    | _ => exact k2.elim
  · exact q.elim
end
end DL
set_option Elab.async false
set_option linter.all false
set_option maxRecDepth 100000
namespace L2
open PySem PySem.Spec PyProof.Rows
section
variable {X : Cx}
end
end L2
namespace DL
open PySem PySem.Spec PyProof.Rows L2
section
variable {C : Dc} {a : Expr} {A : SD → Out D}
end
end DL
set_option Elab.async false
set_option linter.all false
set_option maxRecDepth 100000
namespace L2
open PySem PySem.Spec PyProof.Rows
section
variable {X : Cx}
end
end L2
namespace DL
open PySem PySem.Spec PyProof.Rows L2
section
variable {C : Dc} {o e : Expr} {O E : SD → Out D} {apos cpos : Pos}
end
end DL
set_option Elab.async false
set_option linter.all false
set_option maxRecDepth 100000
namespace L2
open PySem PySem.Spec PyProof.Rows
section
variable {X : Cx} {k : Nat} {f ea : Addr} {fd : FuncData} {ps : List Str} {sp : Sp} {dvs : List V} {ds : List Value} {x : Str} {p pos : Pos} {e : Expr} {es : List Expr} {t : TA}
end
end L2
namespace DL
open PySem PySem.Spec PyProof.Rows L2
section
variable {C : Dc} {ea : Addr} {x : Str} {k : Nat} {m : List D → Out D} {e : Expr} {es : List Expr} {A : SD → Out (List D)} {p pos : Pos}
end
end DL
set_option Elab.async false
set_option linter.all false
set_option maxRecDepth 100000
namespace L2
open PySem PySem.Spec PyProof.Rows
section
variable {X : Cx} {tg : Expr}
end
end L2
namespace DL
open PySem PySem.Spec PyProof.Rows L2
section
variable {C : Dc} {a b c e : Expr} {es : List Expr} {A B E : SD → Out D} {AA : SD → Out (List D)} {tg : Expr} {p pos : Pos}
end
end DL
set_option Elab.async false
set_option linter.all false
set_option maxRecDepth 100000
namespace LS
open PySem PySem.Spec PyProof.Rows
section
variable {pg : Program} {wd : World}
variable {ar : Around} {Res : Result → Shared → Prop} {it : Addr} {ff wt : List Addr} {Gn : Array GenState → Array GenState → Prop} {n : Nat} {Pv : Nat → Value → Prop} {Sv : Nat → Shared → Prop}
end
section
variable {pg : Program} {wd : World} {ar : Around} {Ex : Value → Shared → Prop} {st : Shared}
end
end LS
set_option Elab.async false
set_option linter.all false
set_option maxRecDepth 100000
namespace DL
open PySem PySem.Spec PyProof.Rows L2
section
variable {K : PySem.W.Frag} {CT : CTab} {H : Hp}
theorem RepK.len : ∀ {ds : List (Key × D)} {vs : List (Key × V)}, RepK K CT H ds vs → ds.length = vs.length
  | [], _, h => by cases h; rfl
  | (k, d) :: ds, _, ⟨v, r, h1, h2, h3⟩ => by rw [h1, List.length_cons, List.length_cons, RepK.len h3]
theorem RepK.any (k : Key) : ∀ {ds : List (Key × D)} {vs : List (Key × V)}, RepK K CT H ds vs → (ds.any fun kv => decide (kv.1 = k)) = vs.any fun kv => decide (kv.1 = k)
  | [], _, h => by cases h; rfl
  | (k', d) :: ds, _, ⟨v, r, h1, h2, h3⟩ => by
    subst h1
    rw [List.any_cons, List.any_cons, RepK.any k h3]
end
section
variable {C : Dc} {a b c : Expr} {A B Z : SD → Out D} {pos apos : Pos}
variable {e : Expr} {E : SD → Out D} {p1 p2 : Pos} {x : Str}
end
end DL
set_option Elab.async false
set_option linter.all false
set_option maxRecDepth 100000
namespace DL
open PySem PySem.Spec PyProof.Rows L2
section
variable {X : Cx} {e : Expr} {te : TA} {p1 p2 p3 pos : Pos}
end
section
variable {C : Dc} {a : Expr} {A : SD → Out D} {p1 p2 p3 pos : Pos}
end
end DL
set_option Elab.async false
set_option linter.all false
set_option maxRecDepth 100000
namespace DL
open PySem PySem.Spec PyProof.Rows L2
section
variable {C : Dc} {e : Expr} {E : SD → Out D} {p pos tp1 : Pos} {cs : List Expr}
end
end DL
set_option Elab.async false
set_option linter.all false
set_option maxRecDepth 100000
namespace DL
open PySem PySem.Spec PyProof.Rows L2
section
variable {C : Dc} {a b : Expr} {A B : SD → Out D} {pos : Pos}
end
end DL
set_option Elab.async false
set_option linter.all false
set_option maxRecDepth 100000
namespace DL
open PySem PySem.Spec PyProof.Rows L2
section
variable {C : Dc} {a b : Expr} {A B : SD → Out D} {pos : Pos}
end
end DL
set_option Elab.async false
set_option linter.all false
set_option maxRecDepth 100000
namespace DL
open PySem PySem.Spec PyProof.Rows L2
def sExtend (i : Nat) (E : SD → Out D) : SD → Out Fl := fun ς => match ς[i]? with
  | some (some (.o, .lst xs)) => E ς >>= fun d => match d with
    | .lst zs => if decide (xs.length + zs.length ≤ sizeLine) = true then .ok (.nx (ς.set i (some (.o, .lst (xs ++ zs))))) else .stuck
    | _ => .stuck
  | _ => .stuck
section
variable {C : Dc} {e : Expr} {E : SD → Out D} {pos p1 p2 p3 : Pos} {x : Str}
theorem ds_extend (i : Nat) (he : DF C e E) (hN : C.X.N[i]? = some x := by rfl) (hv : Vis C.X.env.scope x := by first | exact Or.inl rfl | exact Or.inr (Or.inl rfl) | exact Or.inr (Or.inr rfl))
    (hd : (x == ("__debug__" : Str)) = false := by decide) (hcd : (x == ("__classdict__" : Str)) = false := by decide)
    (hbase : attributeBase (.Name x p1) "extend" C.X.env (eval (.Name x p1) C.X.env) = eval (.Name x p1) C.X.env := by rfl)
    (hfew : ((backTo p3 (starEach (e :: []) C.X.env)).all (fun x => !x.1) && (backToKw p3 (keywordEach [] C.X.env)).all (fun x => x.1.isSome)
      && decide ((e :: []).length + ([] : List Keyword).length + (if ([] : List Keyword).isEmpty then 0 else 1) < 30)) = true := by rfl)
    (hline : (p2.endLine == p3.line) = true := by rfl) (hs : starEach (e :: []) C.X.env = (false, eval e C.X.env) :: starEach [] C.X.env := by rfl)
    (hsw : swapsWith (.Call (.Attribute (.Name x p1) "extend" p2) [e] [] p3) none pos.line C.X.env = pure false := by rfl) :
    DS C (.Expr (.Call (.Attribute (.Name x p1) "extend" p2) [e] [] p3) pos) (sExtend i E) := by
  obtain ⟨t, p, q⟩ := he
  refine ⟨_, ps_expr (pe_bm PySem.F.plainAttrs_list PySem.F.slot_list_extend PySem.F.type_list_extend mt_extend (pe_var (i := i) hN hv hd hcd) (pa_cons p pa_nil hs) hbase hfew hline hs rfl) hsw, fun G H σ ς W S k => ?_⟩
  unfold sExtend at k
  split at k
  · rename_i xs z
    obtain ⟨pp, e1, hg, h0, ow⟩ := S.ow i _ z
    obtain ⟨vs, hv1, hv2⟩ := ow
    rw [Out.post_bind] at k
    refine ⟨_, e1, .inl ⟨rfl, vs, SqL.of hv1⟩, q G H σ ς _ S (Out.post_mono k fun d k2 b H1 G1 S1 a1 b1 hb hgb ob => ?_)⟩
    cases d with
    | lst zs =>
      obtain ⟨ws, hw1, hw2⟩ := ob
      have k2 : (if decide (xs.length + zs.length ≤ sizeLine) = true then Out.ok (Fl.nx (ς.set i (some (.o, .lst (xs ++ zs))))) else .stuck).post _ _ := k2
      rcases post_ite k2 with ⟨hc, k3⟩ | ⟨_, k3⟩
      · have hl := hv2.length
        have hl2 := hw2.length
        refine ⟨pp, b, vs, ws, rfl, rfl, a1 _ _ hv1, hw1, by rw [← hl, ← hl2]; exact of_decide_eq_true hc, ?_⟩
        exact k3 σ _ G1 (S1.write z e1 (a1 _ _ hv1) ((RepL.mono b1 xs vs hv2).append hw2)) b1
      · exact k3.elim
    | _ => exact k2.elim
  · exact k.elim
end
end DL
set_option Elab.async false
set_option linter.all false
set_option maxRecDepth 100000
namespace DL
open PySem PySem.Spec PyProof.Rows L2
theorem dMod_pos {i j : Int} (h : 0 < j) : dMod (.int i) (.int j) = .ok (.int (i % j)) := by
  show (if decide (j ≠ 0) = true then Out.ok (D.int (i.fmod j)) else Out.stuck) = _
  rw [if_pos (decide_eq_true (by omega)), Int.fmod_eq_emod_of_nonneg i (by omega)]
theorem dFdiv_ok {i j : Int} (h : j ≠ 0) (hb : big j = true) : dFdiv (.int i) (.int j) = .ok (.int (i.fdiv j)) := by
  show (if (decide (j ≠ 0) && big j) = true then Out.ok (D.int (i.fdiv j)) else Out.stuck) = _
  rw [if_pos (by rw [hb, decide_eq_true h]; rfl)]
theorem dFdiv_pos {i j : Int} (h : 0 < j) (hb : big j = true) : dFdiv (.int i) (.int j) = .ok (.int (i / j)) := by
  rw [dFdiv_ok (by omega) hb, Int.fdiv_eq_ediv_of_nonneg i (by omega)]
theorem bits_of {i : Int} {n : Nat} (h : i.natAbs < 2 ^ n) : bitsI i ≤ n := PySem.intBits_le_iff.mpr h
theorem dMul_ok {i j : Int} (h : bitsI i + bitsI j ≤ 134217728) : dMul (.int i) (.int j) = .ok (.int (i * j)) := by
  show (if decide (bitsI i + bitsI j ≤ 134217728) = true then Out.ok (D.int (i * j)) else Out.stuck) = _
  rw [if_pos (decide_eq_true h)]
theorem dMul_of {i j : Int} {m n : Nat} (hi : bitsI i ≤ m) (hj : bitsI j ≤ n) (h : m + n ≤ 134217728) : dMul (.int i) (.int j) = .ok (.int (i * j)) := dMul_ok (by omega)
theorem dAdd_int (i j : Int) : dAdd (.int i) (.int j) = .ok (.int (i + j)) := rfl
theorem dSub_int (i j : Int) : dSub (.int i) (.int j) = .ok (.int (i - j)) := rfl
theorem dNeg_int (i : Int) : dNeg (.int i) = .ok (.int (-i)) := rfl
theorem dAbs_int (i : Int) : dAbs (.int i) = .ok (.int (i.natAbs : Int)) := by
  show Out.ok (D.int (if i < 0 then -i else i)) = _
  congr 2; split <;> omega
theorem dLt_int (i j : Int) : dLt (.int i) (.int j) = .ok (.bl (decide (i < j))) := rfl
theorem dLe_int (i j : Int) : dLe (.int i) (.int j) = .ok (.bl (decide (i ≤ j))) := rfl
theorem dGt_int (i j : Int) : dGt (.int i) (.int j) = .ok (.bl (decide (j < i))) := rfl
theorem dGe_int (i j : Int) : dGe (.int i) (.int j) = .ok (.bl (decide (j ≤ i))) := rfl
mutual
def layD : D → Bool
  | .non => true
  | .bl _ => true
  | .int _ => true
  | .str x => PyData.strOk x
  | .lst xs => layDs xs
  | .tup xs => layDs xs
  | _ => false
def layDs : List D → Bool
  | [] => true
  | x :: xs => layD x && layDs xs
end
mutual
def dep : D → Nat
  | .lst xs => deps xs + 1
  | .tup xs => deps xs + 1
  | _ => 0
def deps : List D → Nat
  | [] => 0
  | x :: xs => max (dep x) (deps xs)
end
mutual
theorem lay_py : ∀ d : D, layD d = true → d.py.canLay0 = true
  | .non, _ => rfl
  | .bl _, _ => rfl
  | .int _, _ => rfl
  | .str x, h => h
  | .lst xs, h => lay_pys xs h
  | .tup xs, h => lay_pys xs h
theorem lay_pys : ∀ ds : List D, layDs ds = true → PyData.canLayAll0 (D.pys ds) = true
  | [], _ => rfl
  | x :: xs, h => by
    rw [layDs, Bool.and_eq_true] at h
    rw [D.pys, PyData.canLayAll0, Bool.and_eq_true]
    exact ⟨lay_py x h.1, lay_pys xs h.2⟩
end
mutual
theorem dep_py : ∀ d : D, layD d = true → d.py.depth = dep d
  | .non, _ => rfl
  | .bl _, _ => rfl
  | .int _, _ => rfl
  | .str x, h => rfl
  | .lst xs, h => by rw [D.py, PyData.depth, dep, dep_pys xs h]
  | .tup xs, h => by rw [D.py, PyData.depth, dep, dep_pys xs h]
theorem dep_pys : ∀ ds : List D, layDs ds = true → PyData.depthAll (D.pys ds) = deps ds
  | [], _ => rfl
  | x :: xs, h => by
    rw [layDs, Bool.and_eq_true] at h
    rw [D.pys, PyData.depthAll, deps, dep_py x h.1, dep_pys xs h.2]
end
theorem shp_of {d : D} (h : layD d = true) (hd : dep d ≤ 64) : shp d = true := by
  unfold shp SeqAt.shaped
  rw [lay_py d h, dep_py d h]
  simpa using hd
theorem shp_int (i : Int) : shp (.int i) = true := shp_of rfl (Nat.zero_le _)
theorem dEq_of {x y : D} (hx : shp x = true) (hy : shp y = true) : dEq x y = .ok (.bl (PyData.eqv x.py y.py)) := by
  unfold dEq; rw [hx, hy]; rfl
theorem dNe_of {x y : D} (hx : shp x = true) (hy : shp y = true) : dNe x y = .ok (.bl (!PyData.eqv x.py y.py)) := by
  unfold dNe; rw [hx, hy]; rfl
theorem beq_dec (i j : Int) : (i == j) = decide (i = j) := by
  by_cases h : i = j
  · subst h; simp
  · simp [h]
theorem dEq_int (i j : Int) : dEq (.int i) (.int j) = .ok (.bl (decide (i = j))) := by
  rw [dEq_of (shp_int i) (shp_int j), ← beq_dec]
  rfl
theorem dNe_int (i j : Int) : dNe (.int i) (.int j) = .ok (.bl (!decide (i = j))) := by
  rw [dNe_of (shp_int i) (shp_int j), ← beq_dec]
  rfl
theorem loopD_all {body : D → SD → Out Fl} {P : SD → Prop} {xs : List D} (h : ∀ x ∈ xs, ∀ ς, P ς → ∃ ς', body x ς = .ok (.nx ς') ∧ P ς') : ∀ ς, P ς → ∃ ς', loopD body xs ς = .ok (.nx ς') ∧ P ς' := by
  induction xs with
  | nil => intro ς p; exact ⟨ς, rfl, p⟩
  | cons x xs ih =>
    intro ς p
    obtain ⟨ς1, e1, p1⟩ := h x List.mem_cons_self ς p
    obtain ⟨ς2, e2, p2⟩ := ih (fun y hy => h y (List.mem_cons_of_mem _ hy)) ς1 p1
    refine ⟨ς2, ?_, p2⟩
    rw [loopD, e1]
    exact e2
theorem fits_small {n : Nat} (h : n ≤ 1000 := by decide) : fits n = true := decide_eq_true (Nat.le_trans h (by decide))
theorem ixT {xs : List D} {x : D} (k : Nat) (h : xs[k]? = some x) : dIx (.tup xs) (.int (k : Int)) = .ok x := by
  show optO (atI xs (k : Int)) = _
  rw [atI_nat h]; rfl
theorem ixL {xs : List D} {x : D} (k : Nat) (h : xs[k]? = some x) : dIx (.lst xs) (.int (k : Int)) = .ok x := by
  show optO (atI xs (k : Int)) = _
  rw [atI_nat h]; rfl
theorem ix_tup0 (x : D) (xs : List D) : dIx (.tup (x :: xs)) (.int 0) = .ok x := ixT 0 rfl
theorem ix_tup1 (x y : D) (xs : List D) : dIx (.tup (x :: y :: xs)) (.int 1) = .ok y := ixT 1 rfl
theorem ix_tup2 (x y z : D) (xs : List D) : dIx (.tup (x :: y :: z :: xs)) (.int 2) = .ok z := ixT 2 rfl
theorem cut_to {α : Type} (xs : List α) (k : Nat) : cutD xs none (some (k : Int)) = xs.take k := by
  unfold cutD
  rw [HT.sIx_none, HT.sIx_nat, List.drop_zero, Nat.sub_zero]
  by_cases h : k ≤ xs.length
  · rw [Nat.min_eq_left h]
  · rw [Nat.min_eq_right (by omega), List.take_of_length_le (Nat.le_refl _), List.take_of_length_le (by omega)]
theorem sFor_of {g : D → SD → Out SD} {its : SD → Out (List D)} {T : SD → Out Fl} {ς : SD} {xs : List D} {r : Out Fl} (h : its ς = .ok xs) (hL : loopD (fun x ς => g x ς >>= fun ς' => T ς') xs ς = r) : sFor g its T ς = r := by
  unfold sFor
  rw [h]; exact hL
theorem loop_range {body : D → SD → Out Fl} {P : SD → Prop} {n : Nat} (h : ∀ k : Nat, k < n → ∀ ς, P ς → ∃ ς', body (.int (k : Int)) ς = .ok (.nx ς') ∧ P ς') (ς : SD) (hp : P ς) : ∃ ς', loopD body (rangeD 0 n) ς = .ok (.nx ς') ∧ P ς' :=
  loopD_all (fun x hx ς p => by
    unfold rangeD at hx
    obtain ⟨i, hi, rfl⟩ := List.mem_map.mp hx
    have := h i (List.mem_range.mp hi) ς p
    rwa [Int.zero_add]) ς hp
theorem rng_ok {A : SD → Out D} {ς : SD} (m : Nat) (h : A ς = .ok (.int (m : Int))) (hm : m ≤ 1000000) : itR1 A ς = .ok (rangeD 0 m) := by
  have hs : small62 (m : Int) = true := by
    unfold small62
    rw [Bool.and_eq_true]
    exact ⟨decide_eq_true (by omega), decide_eq_true (by omega)⟩
  unfold itR1
  rw [h, Out.bind_ok]
  simp only [hs, if_true, Int.toNat_natCast]
end DL
set_option Elab.async false
set_option linter.all false
set_option maxRecDepth 100000
namespace DL
open PySem PySem.Spec PyProof.Rows L2
theorem loop_rangeK {body : D → SD → Out Fl} {P : Nat → SD → Prop} {n : Nat} (h : ∀ k : Nat, k < n → ∀ ς, P k ς → ∃ ς', body (.int (k : Int)) ς = .ok (.nx ς') ∧ P (k + 1) ς') : ∀ ς, P 0 ς → ∃ ς', loopD body (rangeD 0 n) ς = .ok (.nx ς') ∧ P n ς' := by
  have key : ∀ (j : Nat) (k : Nat), k + j = n → ∀ ς, P k ς → ∃ ς', loopD body ((List.range' k j).map fun (i : Nat) => D.int ((0 : Int) + i)) ς = .ok (.nx ς') ∧ P n ς' := by
    intro j
    induction j with
    | zero =>
      intro k hk ς p
      have : k = n := by omega
      subst this
      exact ⟨ς, rfl, p⟩
    | succ j ih =>
      intro k hk ς p
      obtain ⟨ς1, e1, p1⟩ := h k (by omega) ς p
      obtain ⟨ς2, e2, p2⟩ := ih (k + 1) (by omega) ς1 p1
      refine ⟨ς2, ?_, p2⟩
      rw [List.range'_succ, List.map_cons, loopD, Int.zero_add, e1]
      exact e2
  intro ς p
  have := key n 0 (by omega) ς p
  unfold rangeD
  rw [List.range_eq_range']
  exact this
theorem compM_of {f : D → Out (Option D)} {h : D → Option D} : ∀ {xs : List D}, (∀ x ∈ xs, f x = .ok (h x)) → compM f xs = .ok (xs.filterMap h)
  | [], _ => rfl
  | x :: xs, hf => by
    rw [compM, hf x List.mem_cons_self, Out.bind_ok, compM_of (xs := xs) (fun y hy => hf y (List.mem_cons_of_mem _ hy)), Out.bind_ok, List.filterMap_cons]
    cases h x <;> rfl
theorem blsOf_map {α : Type} (f : α → Bool) : ∀ xs : List α, blsOf (xs.map fun x => D.bl (f x)) = some (xs.map f)
  | [] => rfl
  | x :: xs => by rw [List.map_cons, blsOf, blsOf_map f xs]; rfl
theorem fAll_map {α : Type} (f : α → Bool) (xs : List α) : fAll (.lst (xs.map fun x => D.bl (f x))) = .ok (.bl (xs.all f)) := by
  rw [fAll, blsOf_map]
  show Out.ok (D.bl ((xs.map f).all id)) = _
  rw [List.all_map]; rfl
theorem fits_of {n : Nat} (h : n ≤ 1000) : fits n = true := fits_small h
theorem str_len (z : Str) : z.cps.toList.length = z.length := by simp [Str.length]
end DL
namespace My
end My
set_option Elab.async false
set_option linter.all false
namespace DL
open PySem PySem.Spec L2
section
variable {i j : Nat} {d x y : D} {m : SM} {ς ς' ς1 : SD} {E A B : SD → Out D} {AA : SD → Out (List D)} {f : D → Out D} {g : D → D → Out D} {h : List D → Out D} {r : Out D} {xs ys : List D} {T U : SD → Out Fl} {P Q : SD → Out Bool} {b c : Bool} {fl : Fl} {rf : Out Fl} {rb : Out Bool}
theorem r_var (e : ς[i]? = some (some (.k, d))) : eVar i ς = .ok d := by unfold eVar; rw [e]
theorem r_varB (e : ς[i]? = some (some (m, d))) : eVarB i ς = .ok d := by unfold eVarB; rw [e]
theorem r_C : eC d ς = .ok d := rfl
theorem r_e2 (a : A ς = .ok x) (a' : B ς = .ok y) (k : g x y = r) : e2 g A B ς = r := by unfold e2; rw [a, Out.bind_ok, a']; exact k
theorem r_eA (a : AA ς = .ok xs) (k : h xs = r) : eA h AA ς = r := by unfold eA; rw [a]; exact k
theorem r_call {dd : List D} (a : AA ς = .ok xs) (e : xs ++ dd = ys) (k : h ys = r) : eA (fun xs => h (xs ++ dd)) AA ς = r := by unfold eA; rw [a]; show h (xs ++ dd) = r; rw [e]; exact k
theorem r_nil : aNil ς = .ok [] := rfl
theorem r_cons (a : A ς = .ok x) (k : AA ς = .ok xs) : aCons A AA ς = .ok (x :: xs) := by unfold aCons; rw [a, Out.bind_ok, k]; rfl
theorem r_tup (a : AA ς = .ok xs) (k : xs.length ≤ 1000) : eTup AA ς = .ok (.tup xs) := by unfold eTup; rw [a, Out.bind_ok, if_pos (fits_of k)]
theorem r_lst (a : AA ς = .ok xs) (k : xs.length ≤ 1000) : eLst AA ς = .ok (.lst xs) := by unfold eLst; rw [a, Out.bind_ok, if_pos (fits_of k)]
theorem r_tVal (a : A ς = .ok (.bl b)) : tVal A ς = .ok b := by unfold tVal; rw [a]; rfl
theorem r_not' (a : P ς = .ok b) : tNot' P ς = .ok (!b) := by unfold tNot'; rw [a]; rfl
theorem r_or' (a : P ς = .ok b) (k : (if b = true then .ok true else Q ς) = rb) : tOr' P Q ς = rb := by unfold tOr'; rw [a]; exact k
theorem r_and' (a : P ς = .ok b) (k : (if b = true then Q ς else .ok false) = rb) : tAnd' P Q ς = rb := by unfold tAnd'; rw [a]; exact k
theorem r_eAnd (a : A ς = .ok (.bl b)) (k : (if b = true then B ς else .ok (.bl false)) = r) : eAnd A B ς = r := by unfold eAnd; rw [a]; cases b <;> exact k
theorem r_isa {F : D → Out Bool} (a : A ς = .ok x) (k : F x = .ok b) : eIsa F A ς = .ok (.bl b) := by unfold eIsa; rw [a, Out.bind_ok, k]; rfl
theorem r_set (a : E ς = .ok d) (k : ς.set i (some (.k, d)) = ς') : sSet i E ς = .ok (.nx ς') := by unfold sSet; rw [a, Out.bind_ok, k]
theorem r_setO (a : E ς = .ok d) (k : ς.set i (some (.o, d)) = ς') : sSetO i E ς = .ok (.nx ς') := by unfold sSetO; rw [a, Out.bind_ok, k]
theorem r_seq (a : T ς = .ok fl) (k : thenF U fl = rf) : sSeq T U ς = rf := by unfold sSeq; rw [a]; exact k
theorem r_okR {α : Type} {a : α} : (Out.ok a) = Out.ok a := rfl
theorem r_then (k : U ς = rf) : thenF U (.nx ς) = rf := k
theorem r_thenR {z : Bool} : thenF U (.rt z d) = .ok (.rt z d) := rfl
theorem r_if (a : P ς = .ok b) (k : (if b = true then T ς else U ς) = rf) : sIf P T U ς = rf := by unfold sIf; rw [a]; exact k
theorem r_iteT {α : Type} {u v w : α} (a : b = true) (k : u = w) : (if b = true then u else v) = w := by rw [if_pos a]; exact k
theorem r_iteF {α : Type} {u v w : α} (a : b = false) (k : v = w) : (if b = true then u else v) = w := by subst a; exact k
theorem r_ret (a : E ς = .ok d) : sRet E ς = .ok (.rt false d) := by unfold sRet; rw [a]; rfl
theorem r_retF (a : E ς = .ok d) : sRetF E ς = .ok (.rt true d) := by unfold sRetF; rw [a]; rfl
theorem r_retO (e : ς[i]? = some (some (.o, d))) : sRetO i ς = .ok (.rt true d) := by unfold sRetO; rw [e]
theorem r_sNil : sNil ς = .ok (.nx ς) := rfl
theorem r_nonScal {o : Out D} (a : o = .ok d) (k : d.scal = false) : nonScal o = .ok d := by unfold nonScal; rw [a, Out.bind_ok, k]; rfl
theorem r_sl {l u : SD → Out (Option Int)} {p q : Option Int} (a : A ς = .ok (.lst xs)) (k1 : l ς = .ok p) (k2 : u ς = .ok q) (e : cutD xs p q = ys) : eSl A l u ς = .ok (.lst ys) := by unfold eSl; rw [a, Out.bind_ok, k1, Out.bind_ok, k2, Out.bind_ok]; show Out.ok (D.lst _) = _; rw [e]
theorem r_ixO {k : Int} (e : ς[i]? = some (some (.o, .lst xs))) (a : A ς = .ok (.int k)) (q : atI xs k = some d) : eIxO i A ς = .ok d := by
  unfold eIxO; rw [e]
  show (A ς >>= _) = _
  rw [a, Out.bind_ok]
  show optO (atI xs k) = _
  rw [q]; rfl
theorem r_body {fr : Bool} (a : T ς = .ok fl) (k : retF fr fl = r) : (T ς >>= retF fr) = r := by rw [a]; exact k
theorem r_rt {z : Bool} : retF false (.rt z d) = .ok d := by unfold retF; simp
theorem r_rtT : retF true (.rt true d) = .ok d := by unfold retF; simp
theorem r_rtS {z : Bool} (k : d.scal = true) : retF true (.rt z d) = .ok d := by unfold retF; simp [k]
theorem r_gN {L : SD → Out Fl} (a : ς.set i (some (.k, d)) = ς1) (k : L ς1 = rf) : (gN i d ς >>= fun ς' => L ς') = rf := by unfold gN; rw [a]; exact k
end
theorem dEq_str {a b : Str} (ha : PyData.strOk a = true) (hb : PyData.strOk b = true) : dEq (.str a) (.str b) = .ok (.bl (a == b)) := by
  rw [dEq_of (shp_of (d := .str a) ha (Nat.zero_le _)) (shp_of (d := .str b) hb (Nat.zero_le _))]; rfl
theorem r_get {ς : SD} {i : Nat} {m : SM} {d : D} (h : ς[i]? = some (some (m, d))) : ς[i]? = some (some (m, d)) := h
theorem r_len {n : Nat} (h : n ≤ 1000) : n ≤ 1000 := h
theorem r_id {α : Type} {a b : α} (h : a = b) : a = b := h
theorem l_get0 {α : Type} {x : α} {xs : List α} : (x :: xs)[0]? = some x := rfl
theorem l_getS {α : Type} {x : α} {xs : List α} {n : Nat} {r : Option α} (h : xs[n]? = r) : (x :: xs)[n + 1]? = r := by rw [List.getElem?_cons_succ]; exact h
theorem l_set0 {α : Type} {x y : α} {xs : List α} : (x :: xs).set 0 y = y :: xs := rfl
theorem l_setS {α : Type} {x y : α} {xs ys : List α} {n : Nat} (h : xs.set n y = ys) : (x :: xs).set (n + 1) y = x :: ys := by rw [List.set_cons_succ, h]
theorem l_cat0 {α : Type} {ys : List α} : [] ++ ys = ys := rfl
theorem l_catS {α : Type} {x : α} {xs ys zs : List α} (h : xs ++ ys = zs) : x :: xs ++ ys = x :: zs := by rw [List.cons_append, h]
end DL
set_option Elab.async false
set_option linter.all false
set_option maxRecDepth 100000
set_option maxHeartbeats 4000000
namespace My
open PySem PySem.Spec L2 DL
def top (i : Nat) : Stmt := PySem.Challenge.pw_dockethall_k72_is_a_sum.main.body.getD i (.Pass ⟨0, 0, 0, 0⟩)
abbrev s_sums_in : Stmt := top 12
theorem sc_sums_in : FnScope ["one"] ["one"] (defScope s_sums_in) := ⟨rfl, rfl, rfl, by decide +kernel, rfl, by decide +kernel, by decide +kernel⟩
theorem l_sums_in_one : (defScope s_sums_in).names.lookup ("one" : Str) = some NameKind.local := by decide +kernel
noncomputable def T_sums_in : SD → Out Fl := (sSeq (sIf (tVal (e2 dEq (e2 dIx (eVar 0) (eC (.int 0))) (eC (.str "times")))) (sRetF (eLst (aCons (e2 dIx (eVar 0) (eC (.int 2))) aNil))) sNil) (sSeq (sIf (tVal (e2 dEq (e2 dIx (eVar 0) (eC (.int 0))) (eC (.str "plus")))) (sRetF (eLst (aCons (e2 dIx (eVar 0) (eC (.int 1))) (aCons (e2 dIx (eVar 0) (eC (.int 2))) aNil)))) sNil) (sSeq (sIf (tVal (e2 dEq (e2 dIx (eVar 0) (eC (.int 0))) (eC (.str "share")))) (sRetF (eLst (aCons (e2 dIx (eVar 0) (eC (.int 1))) aNil))) sNil) (sRetF (eLst aNil)))))
noncomputable def b_sums_in : List D → Out D := bodyF true 1 1 T_sums_in
theorem u_sums_in (d0 : D) : b_sums_in [d0] = (T_sums_in [some (.k, d0)] >>= retF true) := rfl
theorem d_sums_in {P : Program} {w : World} {K : PySem.W.Frag} {mg : Str → Option Value} {base : Heap} {CT : CTab} {f : Addr} {fd : FuncData} {dV : Value} (F : FunV K "sums_in" "sums_in" s_sums_in f fd dV)  : FnOk P w K mg base CX0 1 f fd ["one"] (SpD K CT true b_sums_in) :=
    @fnV P w K mg base CT true "sums_in" "sums_in" s_sums_in f fd dV ["one"] ["one"] 0 T_sums_in F sc_sums_in fun cdv A outer s H E G hr => 
      (dss_cons (ds_if (dt_eq hr.units (DE.db (de_ix (de_var 0 rfl (Or.inl l_sums_in_one)) (DE.db de_int))) (DE.db de_str)) (dss_one (ds_retF (df_lst (da_cons (de_ix (de_var 0 rfl (Or.inl l_sums_in_one)) (DE.db de_int)) da_nil)))) dss_nil) (dss_cons (ds_if (dt_eq hr.units (DE.db (de_ix (de_var 0 rfl (Or.inl l_sums_in_one)) (DE.db de_int))) (DE.db de_str)) (dss_one (ds_retF (df_lst (da_cons (de_ix (de_var 0 rfl (Or.inl l_sums_in_one)) (DE.db de_int)) (da_cons (de_ix (de_var 0 rfl (Or.inl l_sums_in_one)) (DE.db de_int)) da_nil))))) dss_nil) (dss_cons (ds_if (dt_eq hr.units (DE.db (de_ix (de_var 0 rfl (Or.inl l_sums_in_one)) (DE.db de_int))) (DE.db de_str)) (dss_one (ds_retF (df_lst (da_cons (de_ix (de_var 0 rfl (Or.inl l_sums_in_one)) (DE.db de_int)) da_nil)))) dss_nil) (dss_one (ds_retF (df_lst da_nil))))))
abbrev s_is_name : Stmt := top 6
theorem sc_is_name : FnScope ["thing"] ["thing"] (defScope s_is_name) := ⟨rfl, rfl, rfl, by decide +kernel, rfl, by decide +kernel, by decide +kernel⟩
theorem l_is_name_thing : (defScope s_is_name).names.lookup ("thing" : Str) = some NameKind.local := by decide +kernel
theorem g_is_name_str : (defScope s_is_name).names.lookup ("str" : Str) = some NameKind.globalImplicit := by decide +kernel
theorem g_is_name_isinstance : (defScope s_is_name).names.lookup ("isinstance" : Str) = some NameKind.globalImplicit := by decide +kernel
theorem g_is_name_len : (defScope s_is_name).names.lookup ("len" : Str) = some NameKind.globalImplicit := by decide +kernel
theorem g_is_name_MOST_SIGNS : (defScope s_is_name).names.lookup ("MOST_SIGNS" : Str) = some NameKind.globalImplicit := by decide +kernel
abbrev cs_is_name_0 : PySem.Scope := { kind := PySem.ScopeKind.function, names := [ (PySem.Str.ofString ".0", PySem.NameKind.local), (PySem.Str.ofString "sign", PySem.NameKind.local), (PySem.Str.ofString "LETTERS", PySem.NameKind.globalImplicit)], isGenerator := false, isCoroutine := false, more := [] : PySem.Scope }
theorem S_is_name_0 : CompSc ["sign"] [none] cs_is_name_0 (defScope s_is_name) ["thing"] := ⟨rfl, by decide +kernel, by decide +kernel, rfl, by decide +kernel, by decide +kernel⟩
theorem l_is_name_c0_sign : (relabelS cs_is_name_0 (defScope s_is_name)).names.lookup ("sign" : Str) = some NameKind.local := by decide +kernel
theorem g_is_name_c0_LETTERS : (relabelS cs_is_name_0 (defScope s_is_name)).names.lookup ("LETTERS" : Str) = some NameKind.globalImplicit := by decide +kernel
noncomputable def X_is_name_0 : SD → Out D := (e2 dIn (eVar 0) (eC (.str "abcdefghijklmnopqrstuvwxyz")))
theorem g_is_name_all : (defScope s_is_name).names.lookup ("all" : Str) = some NameKind.globalImplicit := by decide +kernel
noncomputable def T_is_name : SD → Out Fl := (sSeq (sIf (tOr' (tNot' (tVal (eIsa (isaT "str") (eVar 0)))) (tNot' (tVal (eChain dLe dLe (eC (.int 1)) (eA fLen (aCons (eVar 0) aNil)) (eC (.int 6)))))) (sRet (eC (.bl false))) sNil) (sRet (eA (f1 fAll) (aCons (eComp [none] (itS (eVar 0)) (gN 0) cTrue X_is_name_0) aNil))))
noncomputable def b_is_name : List D → Out D := bodyF false 1 1 T_is_name
theorem u_is_name (d0 : D) : b_is_name [d0] = (T_is_name [some (.k, d0)] >>= retF false) := rfl
theorem d_is_name {P : Program} {w : World} {K : PySem.W.Frag} {mg : Str → Option Value} {base : Heap} {CT : CTab} {f : Addr} {fd : FuncData} {dV : Value} {u_MOST_SIGNS : Value} {u_LETTERS : Value} (F : FunV K "is_name" "is_name" s_is_name f fd dV) (z_isinstance : mg "isinstance" = none) (z_str : mg "str" = none) (z_len : mg "len" = none) (z_all : mg "all" = none) (c_MOST_SIGNS : mg "MOST_SIGNS" = some u_MOST_SIGNS) (r_MOST_SIGNS : RelV (toV (.int 6)) u_MOST_SIGNS) (c_LETTERS : mg "LETTERS" = some u_LETTERS) (r_LETTERS : RelV (toV (.str "abcdefghijklmnopqrstuvwxyz")) u_LETTERS) : FnOk P w K mg base CX0 1 f fd ["thing"] (SpD K CT false b_is_name) :=
    @fnV P w K mg base CT false "is_name" "is_name" s_is_name f fd dV ["thing"] ["thing"] 0 T_is_name F sc_is_name fun cdv A outer s H E G hr => 
      (dss_cons (ds_if (DW.dt (dw_or (dt_not (dt_val (de_isaB "str" kit_str g_is_name_str z_str PyProof.Rows.Boot.«str» g_is_name_isinstance z_isinstance (DE.db (de_var 0 rfl (Or.inl l_is_name_thing)))))) (dw_or1 (dt_not (dt_chain op_le drs_dI0 (scal_dI0 fun _ _ => rfl) op_le drs_dI0 (scal_dI0 fun _ _ => rfl) (DE.db de_int) (DE.db (de_len g_is_name_len z_len (dab_cons (DE.db (de_var 0 rfl (Or.inl l_is_name_thing))) dab_nil))) (DE.db (de_glob (d := (.int 6)) g_is_name_MOST_SIGNS c_MOST_SIGNS rfl r_MOST_SIGNS))))))) (dss_one (ds_ret de_bl)) dss_nil) (dss_one (ds_ret (de_all rfl g_is_name_all z_all (dab_cons (DE.db (DF.de (df_comp rfl S_is_name_0 (DI.b (di_str (DE.db (de_var 0 rfl (Or.inl l_is_name_thing))))) (fun ς => gKeep_gN (captD_none rfl ς)) (noExc_gN _) (fun fp s H G p => ⟨(dg_name (i := 0) S_is_name_0.nd rfl (Or.inl l_is_name_c0_sign) (hf := Or.inr l_is_name_c0_sign)), dif_nil, (de_in (DE.db (de_var 0 rfl (Or.inl l_is_name_c0_sign))) (DE.db (de_glob (d := (.str "abcdefghijklmnopqrstuvwxyz")) g_is_name_c0_LETTERS c_LETTERS rfl r_LETTERS)))⟩)))) dab_nil)))))
abbrev s_is_whole : Stmt := top 1
theorem sc_is_whole : FnScope ["thing"] ["thing"] (defScope s_is_whole) := ⟨rfl, rfl, rfl, by decide +kernel, rfl, by decide +kernel, by decide +kernel⟩
theorem l_is_whole_thing : (defScope s_is_whole).names.lookup ("thing" : Str) = some NameKind.local := by decide +kernel
theorem g_is_whole_int : (defScope s_is_whole).names.lookup ("int" : Str) = some NameKind.globalImplicit := by decide +kernel
theorem g_is_whole_isinstance : (defScope s_is_whole).names.lookup ("isinstance" : Str) = some NameKind.globalImplicit := by decide +kernel
theorem g_is_whole_bool : (defScope s_is_whole).names.lookup ("bool" : Str) = some NameKind.globalImplicit := by decide +kernel
noncomputable def T_is_whole : SD → Out Fl := (sRet (eAnd (eIsa (isaT "int") (eVar 0)) (eNot (eIsa (isaT "bool") (eVar 0)))))
noncomputable def b_is_whole : List D → Out D := bodyF false 1 1 T_is_whole
theorem u_is_whole (d0 : D) : b_is_whole [d0] = (T_is_whole [some (.k, d0)] >>= retF false) := rfl
theorem d_is_whole {P : Program} {w : World} {K : PySem.W.Frag} {mg : Str → Option Value} {base : Heap} {CT : CTab} {f : Addr} {fd : FuncData} {dV : Value} (F : FunV K "is_whole" "is_whole" s_is_whole f fd dV) (z_isinstance : mg "isinstance" = none) (z_int : mg "int" = none) (z_bool : mg "bool" = none) : FnOk P w K mg base CX0 1 f fd ["thing"] (SpD K CT false b_is_whole) :=
    @fnV P w K mg base CT false "is_whole" "is_whole" s_is_whole f fd dV ["thing"] ["thing"] 0 T_is_whole F sc_is_whole fun cdv A outer s H E G hr => 
      (dss_one (ds_ret (de_and (de_isaB "int" kit_int g_is_whole_int z_int PyProof.Rows.Boot.«int» g_is_whole_isinstance z_isinstance (DE.db (de_var 0 rfl (Or.inl l_is_whole_thing)))) (de_one (de_not (de_isaB "bool" kit_bool g_is_whole_bool z_bool PyProof.Rows.Boot.«bool» g_is_whole_isinstance z_isinstance (DE.db (de_var 0 rfl (Or.inl l_is_whole_thing)))))))))
abbrev s_is_within : Stmt := top 2
theorem sc_is_within : FnScope ["thing", "least", "most"] ["thing", "least", "most"] (defScope s_is_within) := ⟨rfl, rfl, rfl, by decide +kernel, rfl, by decide +kernel, by decide +kernel⟩
theorem l_is_within_thing : (defScope s_is_within).names.lookup ("thing" : Str) = some NameKind.local := by decide +kernel
theorem g_is_within_is_whole : (defScope s_is_within).names.lookup ("is_whole" : Str) = some NameKind.globalImplicit := by decide +kernel
theorem l_is_within_least : (defScope s_is_within).names.lookup ("least" : Str) = some NameKind.local := by decide +kernel
theorem l_is_within_most : (defScope s_is_within).names.lookup ("most" : Str) = some NameKind.local := by decide +kernel
noncomputable def T_is_within : SD → Out Fl := (sRet (eAnd (eA (fun xs => b_is_whole (xs ++ [])) (aCons (eVar 0) aNil)) (eChain dLe dLe (eVar 1) (eVar 0) (eVar 2))))
noncomputable def b_is_within : List D → Out D := bodyF false 3 3 T_is_within
theorem u_is_within (d0 d1 d2 : D) : b_is_within [d0, d1, d2] = (T_is_within [some (.k, d0), some (.k, d1), some (.k, d2)] >>= retF false) := rfl
theorem d_is_within {P : Program} {w : World} {K : PySem.W.Frag} {mg : Str → Option Value} {base : Heap} {CT : CTab} {f : Addr} {fd : FuncData} {dV : Value} (F : FunV K "is_within" "is_within" s_is_within f fd dV) (h_is_whole : DefOk P w K mg base CT "is_whole" 1 false [] b_is_whole) : FnOk P w K mg base CX0 2 f fd ["thing", "least", "most"] (SpD K CT false b_is_within) :=
    @fnV P w K mg base CT false "is_within" "is_within" s_is_within f fd dV ["thing", "least", "most"] ["thing", "least", "most"] 1 T_is_within F sc_is_within fun cdv A outer s H E G hr => 
      (dss_one (ds_ret (de_and (de_f h_is_whole (hr.mono (by decide)) (da_cons (de_var 0 rfl (Or.inl l_is_within_thing)) da_nil) g_is_within_is_whole) (de_one (de_chain op_le drs_dI0 (scal_dI0 fun _ _ => rfl) op_le drs_dI0 (scal_dI0 fun _ _ => rfl) (DE.db (de_var 1 rfl (Or.inl l_is_within_least))) (DE.db (de_var 0 rfl (Or.inl l_is_within_thing))) (DE.db (de_var 2 rfl (Or.inl l_is_within_most))))))))
abbrev s_has_form : Stmt := top 11
theorem sc_has_form : FnScope ["thing"] ["thing"] (defScope s_has_form) := ⟨rfl, rfl, rfl, by decide +kernel, rfl, by decide +kernel, by decide +kernel⟩
theorem l_has_form_thing : (defScope s_has_form).names.lookup ("thing" : Str) = some NameKind.local := by decide +kernel
theorem g_has_form_tuple : (defScope s_has_form).names.lookup ("tuple" : Str) = some NameKind.globalImplicit := by decide +kernel
theorem g_has_form_isinstance : (defScope s_has_form).names.lookup ("isinstance" : Str) = some NameKind.globalImplicit := by decide +kernel
theorem g_has_form_len : (defScope s_has_form).names.lookup ("len" : Str) = some NameKind.globalImplicit := by decide +kernel
theorem g_has_form_str : (defScope s_has_form).names.lookup ("str" : Str) = some NameKind.globalImplicit := by decide +kernel
theorem g_has_form_is_name : (defScope s_has_form).names.lookup ("is_name" : Str) = some NameKind.globalImplicit := by decide +kernel
theorem g_has_form_MOST_TIMES : (defScope s_has_form).names.lookup ("MOST_TIMES" : Str) = some NameKind.globalImplicit := by decide +kernel
theorem g_has_form_is_within : (defScope s_has_form).names.lookup ("is_within" : Str) = some NameKind.globalImplicit := by decide +kernel
theorem g_has_form_MOST_BOTTOM : (defScope s_has_form).names.lookup ("MOST_BOTTOM" : Str) = some NameKind.globalImplicit := by decide +kernel
noncomputable def T_has_form : SD → Out Fl := (sSeq (sIf (tOr' (tNot' (tVal (eIsa (isaT "tuple") (eVar 0)))) (tOr' (tVal (e2 dLt (eA fLen (aCons (eVar 0) aNil)) (eC (.int 2)))) (tNot' (tVal (eIsa (isaT "str") (e2 dIx (eVar 0) (eC (.int 0)))))))) (sRet (eC (.bl false))) sNil) (sSeq (sIf (tVal (e2 dEq (e2 dIx (eVar 0) (eC (.int 0))) (eC (.str "name")))) (sRet (eAnd (e2 dEq (eA fLen (aCons (eVar 0) aNil)) (eC (.int 2))) (eA (fun xs => b_is_name (xs ++ [])) (aCons (e2 dIx (eVar 0) (eC (.int 1))) aNil)))) sNil) (sSeq (sIf (tVal (e2 dEq (e2 dIx (eVar 0) (eC (.int 0))) (eC (.str "times")))) (sRet (eAnd (e2 dEq (eA fLen (aCons (eVar 0) aNil)) (eC (.int 3))) (eA (fun xs => b_is_within (xs ++ [])) (aCons (e2 dIx (eVar 0) (eC (.int 1))) (aCons (eC (.int 0)) (aCons (eC (.int 9)) aNil)))))) sNil) (sSeq (sIf (tVal (e2 dEq (e2 dIx (eVar 0) (eC (.int 0))) (eC (.str "plus")))) (sRet (e2 dEq (eA fLen (aCons (eVar 0) aNil)) (eC (.int 3)))) sNil) (sSeq (sIf (tVal (e2 dEq (e2 dIx (eVar 0) (eC (.int 0))) (eC (.str "share")))) (sRet (eAnd (e2 dEq (eA fLen (aCons (eVar 0) aNil)) (eC (.int 4))) (eAnd (eA (fun xs => b_is_within (xs ++ [])) (aCons (e2 dIx (eVar 0) (eC (.int 3))) (aCons (eC (.int 1)) (aCons (eC (.int 12)) aNil)))) (eA (fun xs => b_is_within (xs ++ [])) (aCons (e2 dIx (eVar 0) (eC (.int 2))) (aCons (eC (.int 0)) (aCons (e2 dSub (e2 dIx (eVar 0) (eC (.int 3))) (eC (.int 1))) aNil))))))) sNil) (sRet (eC (.bl false))))))))
noncomputable def b_has_form : List D → Out D := bodyF false 1 1 T_has_form
theorem u_has_form (d0 : D) : b_has_form [d0] = (T_has_form [some (.k, d0)] >>= retF false) := rfl
theorem d_has_form {P : Program} {w : World} {K : PySem.W.Frag} {mg : Str → Option Value} {base : Heap} {CT : CTab} {f : Addr} {fd : FuncData} {dV : Value} {u_MOST_TIMES : Value} {u_MOST_BOTTOM : Value} (F : FunV K "has_form" "has_form" s_has_form f fd dV) (h_is_name : DefOk P w K mg base CT "is_name" 1 false [] b_is_name) (h_is_within : DefOk P w K mg base CT "is_within" 2 false [] b_is_within) (z_isinstance : mg "isinstance" = none) (z_tuple : mg "tuple" = none) (z_len : mg "len" = none) (z_str : mg "str" = none) (c_MOST_TIMES : mg "MOST_TIMES" = some u_MOST_TIMES) (r_MOST_TIMES : RelV (toV (.int 9)) u_MOST_TIMES) (c_MOST_BOTTOM : mg "MOST_BOTTOM" = some u_MOST_BOTTOM) (r_MOST_BOTTOM : RelV (toV (.int 12)) u_MOST_BOTTOM) : FnOk P w K mg base CX0 3 f fd ["thing"] (SpD K CT false b_has_form) :=
    @fnV P w K mg base CT false "has_form" "has_form" s_has_form f fd dV ["thing"] ["thing"] 2 T_has_form F sc_has_form fun cdv A outer s H E G hr => 
      (dss_cons (ds_if (DW.dt (dw_or (dt_not (dt_val (de_isaB "tuple" kit_tuple g_has_form_tuple z_tuple PyProof.Rows.Boot.«tuple» g_has_form_isinstance z_isinstance (DE.db (de_var 0 rfl (Or.inl l_has_form_thing)))))) (dw_or (dt_lt (DE.db (de_len g_has_form_len z_len (dab_cons (DE.db (de_var 0 rfl (Or.inl l_has_form_thing))) dab_nil))) (DE.db de_int)) (dw_or1 (dt_not (dt_val (de_isaB "str" kit_str g_has_form_str z_str PyProof.Rows.Boot.«str» g_has_form_isinstance z_isinstance (DE.db (de_ix (de_var 0 rfl (Or.inl l_has_form_thing)) (DE.db de_int)))))))))) (dss_one (ds_ret de_bl)) dss_nil) (dss_cons (ds_if (dt_eq hr.units (DE.db (de_ix (de_var 0 rfl (Or.inl l_has_form_thing)) (DE.db de_int))) (DE.db de_str)) (dss_one (ds_ret (de_and (de_eq hr.units (DE.db (de_len g_has_form_len z_len (dab_cons (DE.db (de_var 0 rfl (Or.inl l_has_form_thing))) dab_nil))) (DE.db de_int)) (de_one (de_f h_is_name (hr.mono (by decide)) (da_cons (de_ix (de_var 0 rfl (Or.inl l_has_form_thing)) (DE.db de_int)) da_nil) g_has_form_is_name))))) dss_nil) (dss_cons (ds_if (dt_eq hr.units (DE.db (de_ix (de_var 0 rfl (Or.inl l_has_form_thing)) (DE.db de_int))) (DE.db de_str)) (dss_one (ds_ret (de_and (de_eq hr.units (DE.db (de_len g_has_form_len z_len (dab_cons (DE.db (de_var 0 rfl (Or.inl l_has_form_thing))) dab_nil))) (DE.db de_int)) (de_one (de_f h_is_within (hr.mono (by decide)) (da_cons (de_ix (de_var 0 rfl (Or.inl l_has_form_thing)) (DE.db de_int)) (da_cons de_int (da_cons (de_glob (d := (.int 9)) g_has_form_MOST_TIMES c_MOST_TIMES rfl r_MOST_TIMES) da_nil))) g_has_form_is_within))))) dss_nil) (dss_cons (ds_if (dt_eq hr.units (DE.db (de_ix (de_var 0 rfl (Or.inl l_has_form_thing)) (DE.db de_int))) (DE.db de_str)) (dss_one (ds_ret (de_eq hr.units (DE.db (de_len g_has_form_len z_len (dab_cons (DE.db (de_var 0 rfl (Or.inl l_has_form_thing))) dab_nil))) (DE.db de_int)))) dss_nil) (dss_cons (ds_if (dt_eq hr.units (DE.db (de_ix (de_var 0 rfl (Or.inl l_has_form_thing)) (DE.db de_int))) (DE.db de_str)) (dss_one (ds_ret (de_and (de_eq hr.units (DE.db (de_len g_has_form_len z_len (dab_cons (DE.db (de_var 0 rfl (Or.inl l_has_form_thing))) dab_nil))) (DE.db de_int)) (de_and (de_f h_is_within (hr.mono (by decide)) (da_cons (de_ix (de_var 0 rfl (Or.inl l_has_form_thing)) (DE.db de_int)) (da_cons de_int (da_cons (de_glob (d := (.int 12)) g_has_form_MOST_BOTTOM c_MOST_BOTTOM rfl r_MOST_BOTTOM) da_nil))) g_has_form_is_within) (de_one (de_f h_is_within (hr.mono (by decide)) (da_cons (de_ix (de_var 0 rfl (Or.inl l_has_form_thing)) (DE.db de_int)) (da_cons de_int (da_cons (de_sub (DE.db (de_ix (de_var 0 rfl (Or.inl l_has_form_thing)) (DE.db de_int))) (DE.db de_int)) da_nil))) g_has_form_is_within)))))) dss_nil) (dss_one (ds_ret de_bl)))))))
abbrev s_parts_of : Stmt := top 13
theorem sc_parts_of : FnScope ["thing", "parts", "seen"] ["thing"] (defScope s_parts_of) := ⟨rfl, rfl, rfl, by decide +kernel, rfl, by decide +kernel, by decide +kernel⟩
theorem l_parts_of_thing : (defScope s_parts_of).names.lookup ("thing" : Str) = some NameKind.local := by decide +kernel
theorem l_parts_of_parts : (defScope s_parts_of).names.lookup ("parts" : Str) = some NameKind.local := by decide +kernel
theorem l_parts_of_seen : (defScope s_parts_of).names.lookup ("seen" : Str) = some NameKind.local := by decide +kernel
theorem g_parts_of_len : (defScope s_parts_of).names.lookup ("len" : Str) = some NameKind.globalImplicit := by decide +kernel
theorem g_parts_of_MOST_PARTS : (defScope s_parts_of).names.lookup ("MOST_PARTS" : Str) = some NameKind.globalImplicit := by decide +kernel
theorem g_parts_of_has_form : (defScope s_parts_of).names.lookup ("has_form" : Str) = some NameKind.globalImplicit := by decide +kernel
theorem g_parts_of_sums_in : (defScope s_parts_of).names.lookup ("sums_in" : Str) = some NameKind.globalImplicit := by decide +kernel
noncomputable def Q_parts_of_0 : SD → Out Bool := (tVal (e2 dLt (eVar 2) (eA fLen (aCons (eVarB 1) aNil))))
noncomputable def L_parts_of_0 : SD → Out Fl := (sSeq (sIf (tOr' (tVal (e2 dGt (eA fLen (aCons (eVarB 1) aNil)) (eC (.int 40)))) (tNot' (tVal (eA (fun xs => b_has_form (xs ++ [])) (aCons (eIxO 1 (eVar 2)) aNil))))) (sRet (eC .non)) sNil) (sSeq (sExtend 1 (fun ς => nonScal ((eA (fun xs => b_sums_in (xs ++ [])) (aCons (eIxO 1 (eVar 2)) aNil)) ς))) (sSet 2 (e2 dAdd (eVar 2) (eC (.int 1))))))
noncomputable def T_parts_of : SD → Out Fl := (sSeq (sSetO 1 (eLst (aCons (eVar 0) aNil))) (sSeq (sSet 2 (eC (.int 0))) (sSeq (sWhileC Q_parts_of_0 L_parts_of_0) (sRetO 1))))
noncomputable def b_parts_of : List D → Out D := bodyF true 1 3 T_parts_of
theorem u_parts_of (d0 : D) : b_parts_of [d0] = (T_parts_of [some (.k, d0), none, none] >>= retF true) := rfl
theorem d_parts_of {P : Program} {w : World} {K : PySem.W.Frag} {mg : Str → Option Value} {base : Heap} {CT : CTab} {f : Addr} {fd : FuncData} {dV : Value} {u_MOST_PARTS : Value} (F : FunV K "parts_of" "parts_of" s_parts_of f fd dV) (h_has_form : DefOk P w K mg base CT "has_form" 3 false [] b_has_form) (h_sums_in : DefOk P w K mg base CT "sums_in" 1 true [] b_sums_in) (z_len : mg "len" = none) (c_MOST_PARTS : mg "MOST_PARTS" = some u_MOST_PARTS) (r_MOST_PARTS : RelV (toV (.int 40)) u_MOST_PARTS) : FnOk P w K mg base CX0 4 f fd ["thing"] (SpD K CT true b_parts_of) :=
    @fnV P w K mg base CT true "parts_of" "parts_of" s_parts_of f fd dV ["thing", "parts", "seen"] ["thing"] 3 T_parts_of F sc_parts_of fun cdv A outer s H E G hr => 
      (dss_cons (ds_setO (i := 1) sc_parts_of.nd rfl (Or.inl l_parts_of_parts) (df_lst (da_cons (de_var 0 rfl (Or.inl l_parts_of_thing)) da_nil))) (dss_cons (ds_set (i := 2) sc_parts_of.nd rfl (Or.inl l_parts_of_seen) de_int) (dss_cons (ds_whileC PassesOwn.never (dt_lt (DE.db (de_var 2 rfl (Or.inl l_parts_of_seen))) (DE.db (de_len g_parts_of_len z_len (dab_cons (db_var 1 rfl (Or.inl l_parts_of_parts)) dab_nil)))) (dss_cons (ds_if (DW.dt (dw_or (dt_gt (DE.db (de_len g_parts_of_len z_len (dab_cons (db_var 1 rfl (Or.inl l_parts_of_parts)) dab_nil))) (DE.db (de_glob (d := (.int 40)) g_parts_of_MOST_PARTS c_MOST_PARTS rfl r_MOST_PARTS))) (dw_or1 (dt_not (dt_val (de_f h_has_form (hr.mono (by decide)) (da_cons (de_ixO 1 (DE.db (de_var 2 rfl (Or.inl l_parts_of_seen))) rfl (Or.inl l_parts_of_parts)) da_nil) g_parts_of_has_form)))))) (dss_one (ds_ret de_non)) dss_nil) (dss_cons (ds_extend 1 (df_f h_sums_in (hr.mono (by decide)) (da_cons (de_ixO 1 (DE.db (de_var 2 rfl (Or.inl l_parts_of_seen))) rfl (Or.inl l_parts_of_parts)) da_nil) g_parts_of_sums_in) rfl (Or.inl l_parts_of_parts)) (dss_one (ds_set (i := 2) sc_parts_of.nd rfl (Or.inl l_parts_of_seen) (de_add (DE.db (de_var 2 rfl (Or.inl l_parts_of_seen))) (DE.db de_int))))))) (dss_one (ds_retO 1 rfl (Or.inl l_parts_of_parts))))))
abbrev s_is_sum : Stmt := top 14
theorem sc_is_sum : FnScope ["thing"] ["thing"] (defScope s_is_sum) := ⟨rfl, rfl, rfl, by decide +kernel, rfl, by decide +kernel, by decide +kernel⟩
theorem l_is_sum_thing : (defScope s_is_sum).names.lookup ("thing" : Str) = some NameKind.local := by decide +kernel
theorem g_is_sum_parts_of : (defScope s_is_sum).names.lookup ("parts_of" : Str) = some NameKind.globalImplicit := by decide +kernel
noncomputable def T_is_sum : SD → Out Fl := (sRet (e2 dIsNot (eA (fun xs => b_parts_of (xs ++ [])) (aCons (eVar 0) aNil)) (eC .non)))
noncomputable def b_is_sum : List D → Out D := bodyF false 1 1 T_is_sum
theorem u_is_sum (d0 : D) : b_is_sum [d0] = (T_is_sum [some (.k, d0)] >>= retF false) := rfl
theorem d_is_sum {P : Program} {w : World} {K : PySem.W.Frag} {mg : Str → Option Value} {base : Heap} {CT : CTab} {f : Addr} {fd : FuncData} {dV : Value} (F : FunV K "is_sum" "is_sum" s_is_sum f fd dV) (h_parts_of : DefOk P w K mg base CT "parts_of" 4 true [] b_parts_of) : FnOk P w K mg base CX0 5 f fd ["thing"] (SpD K CT false b_is_sum) :=
    @fnV P w K mg base CT false "is_sum" "is_sum" s_is_sum f fd dV ["thing"] ["thing"] 4 T_is_sum F sc_is_sum fun cdv A outer s H E G hr => 
      (dss_one (ds_ret (de_isNot (DE.db (de_f h_parts_of (hr.mono (by decide)) (da_cons (de_var 0 rfl (Or.inl l_is_sum_thing)) da_nil) g_is_sum_parts_of)) (DE.db de_non))))
abbrev s_law_mixed : Stmt := top 16
theorem sc_law_mixed : FnScope ["_law_cell", "_law_k"] ["_law_cell", "_law_k"] (defScope s_law_mixed) := ⟨rfl, rfl, rfl, by decide +kernel, rfl, by decide +kernel, by decide +kernel⟩
theorem l_law_mixed__law_cell : (defScope s_law_mixed).names.lookup ("_law_cell" : Str) = some NameKind.local := by decide +kernel
theorem l_law_mixed__law_k : (defScope s_law_mixed).names.lookup ("_law_k" : Str) = some NameKind.local := by decide +kernel
noncomputable def T_law_mixed : SD → Out Fl := (sRet (e2 dMod (e2 dMul (e2 dAdd (e2 dMod (eVar 0) (eC (.int 2147483647))) (eC (.int 11))) (e2 dAdd (eC (.int 48271)) (e2 dMul (e2 dMul (eC (.int 2)) (eVar 1)) (eVar 1)))) (eC (.int 2147483629))))
noncomputable def b_law_mixed : List D → Out D := bodyF false 2 2 T_law_mixed
theorem d_law_mixed {P : Program} {w : World} {K : PySem.W.Frag} {mg : Str → Option Value} {base : Heap} {CT : CTab} {f : Addr} {fd : FuncData} {dV : Value} (F : FunV K "_law_mixed" "_law_mixed" s_law_mixed f fd dV)  : FnOk P w K mg base CX0 1 f fd ["_law_cell", "_law_k"] (SpD K CT false b_law_mixed) :=
    @fnV P w K mg base CT false "_law_mixed" "_law_mixed" s_law_mixed f fd dV ["_law_cell", "_law_k"] ["_law_cell", "_law_k"] 0 T_law_mixed F sc_law_mixed fun cdv A outer s H E G hr => 
      (dss_one (ds_ret (de_mod (DE.db (de_mul (DE.db (de_add (DE.db (de_mod (DE.db (de_var 0 rfl (Or.inl l_law_mixed__law_cell))) (DE.db de_int))) (DE.db de_int))) (DE.db (de_add (DE.db de_int) (DE.db (de_mul (DE.db (de_mul (DE.db de_int) (DE.db (de_var 1 rfl (Or.inl l_law_mixed__law_k))))) (DE.db (de_var 1 rfl (Or.inl l_law_mixed__law_k))))))))) (DE.db de_int))))
abbrev s_law_name : Stmt := top 17
theorem sc_law_name : FnScope ["_law_number", "_law_letters", "_law_name_here", "_law_k"] ["_law_number"] (defScope s_law_name) := ⟨rfl, rfl, rfl, by decide +kernel, rfl, by decide +kernel, by decide +kernel⟩
theorem l_law_name__law_letters : (defScope s_law_name).names.lookup ("_law_letters" : Str) = some NameKind.local := by decide +kernel
theorem l_law_name__law_name_here : (defScope s_law_name).names.lookup ("_law_name_here" : Str) = some NameKind.local := by decide +kernel
theorem l_law_name__law_number : (defScope s_law_name).names.lookup ("_law_number" : Str) = some NameKind.local := by decide +kernel
theorem g_law_name_range : (defScope s_law_name).names.lookup ("range" : Str) = some NameKind.globalImplicit := by decide +kernel
theorem l_law_name__law_k : (defScope s_law_name).names.lookup ("_law_k" : Str) = some NameKind.local := by decide +kernel
noncomputable def L_law_name_0 : SD → Out Fl := (sSet 2 (e2 dAdd (eVar 2) (e2 dIx (eVar 1) (e2 dMod (e2 dMod (e2 dMul (eVar 0) (e2 dAdd (e2 dMul (eC (.int 2)) (eVar 3)) (eC (.int 3)))) (eC (.int 1000003))) (eC (.int 26))))))
noncomputable def T_law_name : SD → Out Fl := (sSeq (sSet 1 (eC (.str "abcdefghijklmnopqrstuvwxyz"))) (sSeq (sSet 2 (eC (.str ""))) (sSeq (sFor (gN 3) (itR1 (e2 dAdd (eC (.int 1)) (e2 dMod (eVar 0) (eC (.int 6))))) L_law_name_0) (sRet (eVar 2)))))
noncomputable def b_law_name : List D → Out D := bodyF false 1 4 T_law_name
theorem u_law_name (d0 : D) : b_law_name [d0] = (T_law_name [some (.k, d0), none, none, none] >>= retF false) := rfl
theorem d_law_name {P : Program} {w : World} {K : PySem.W.Frag} {mg : Str → Option Value} {base : Heap} {CT : CTab} {f : Addr} {fd : FuncData} {dV : Value} (F : FunV K "_law_name" "_law_name" s_law_name f fd dV) (z_range : mg "range" = none) : FnOk P w K mg base CX0 1 f fd ["_law_number"] (SpD K CT false b_law_name) :=
    @fnV P w K mg base CT false "_law_name" "_law_name" s_law_name f fd dV ["_law_number", "_law_letters", "_law_name_here", "_law_k"] ["_law_number"] 0 T_law_name F sc_law_name fun cdv A outer s H E G hr => 
      (dss_cons (ds_set (i := 1) sc_law_name.nd rfl (Or.inl l_law_name__law_letters) de_str) (dss_cons (ds_set (i := 2) sc_law_name.nd rfl (Or.inl l_law_name__law_name_here) de_str) (dss_cons (ds_forI PassesOwn.never rfl (di_range1 g_law_name_range z_range (DE.db (de_add (DE.db de_int) (DE.db (de_mod (DE.db (de_var 0 rfl (Or.inl l_law_name__law_number))) (DE.db de_int)))))) (dg_name (i := 3) sc_law_name.nd rfl (Or.inl l_law_name__law_k)) (noExc_gN _) (dss_one (ds_set (i := 2) sc_law_name.nd rfl (Or.inl l_law_name__law_name_here) (de_add (DE.db (de_var 2 rfl (Or.inl l_law_name__law_name_here))) (DE.db (de_ix (de_var 1 rfl (Or.inl l_law_name__law_letters)) (DE.db (de_mod (DE.db (de_mod (DE.db (de_mul (DE.db (de_var 0 rfl (Or.inl l_law_name__law_number))) (DE.db (de_add (DE.db (de_mul (DE.db de_int) (DE.db (de_var 3 rfl (Or.inl l_law_name__law_k))))) (DE.db de_int))))) (DE.db de_int))) (DE.db de_int))))))))) (dss_one (ds_ret (de_var 2 rfl (Or.inl l_law_name__law_name_here)))))))
abbrev s_law_built : Stmt := top 18
theorem sc_law_built : FnScope ["_law_cells", "_law_most", "_law_one", "_law_parts", "_law_k", "_law_number", "_law_name_here", "_law_way", "_law_many", "_law_other"] ["_law_cells", "_law_most"] (defScope s_law_built) := ⟨rfl, rfl, rfl, by decide +kernel, rfl, by decide +kernel, by decide +kernel⟩
theorem l_law_built__law_cells : (defScope s_law_built).names.lookup ("_law_cells" : Str) = some NameKind.local := by decide +kernel
theorem g_law_built_len : (defScope s_law_built).names.lookup ("len" : Str) = some NameKind.globalImplicit := by decide +kernel
theorem g_law_built__law_mixed : (defScope s_law_built).names.lookup ("_law_mixed" : Str) = some NameKind.globalImplicit := by decide +kernel
theorem g_law_built__law_name : (defScope s_law_built).names.lookup ("_law_name" : Str) = some NameKind.globalImplicit := by decide +kernel
theorem l_law_built__law_one : (defScope s_law_built).names.lookup ("_law_one" : Str) = some NameKind.local := by decide +kernel
theorem l_law_built__law_parts : (defScope s_law_built).names.lookup ("_law_parts" : Str) = some NameKind.local := by decide +kernel
theorem g_law_built_range : (defScope s_law_built).names.lookup ("range" : Str) = some NameKind.globalImplicit := by decide +kernel
theorem l_law_built__law_k : (defScope s_law_built).names.lookup ("_law_k" : Str) = some NameKind.local := by decide +kernel
theorem l_law_built__law_number : (defScope s_law_built).names.lookup ("_law_number" : Str) = some NameKind.local := by decide +kernel
theorem l_law_built__law_name_here : (defScope s_law_built).names.lookup ("_law_name_here" : Str) = some NameKind.local := by decide +kernel
theorem l_law_built__law_way : (defScope s_law_built).names.lookup ("_law_way" : Str) = some NameKind.local := by decide +kernel
theorem l_law_built__law_most : (defScope s_law_built).names.lookup ("_law_most" : Str) = some NameKind.local := by decide +kernel
theorem l_law_built__law_many : (defScope s_law_built).names.lookup ("_law_many" : Str) = some NameKind.local := by decide +kernel
theorem l_law_built__law_other : (defScope s_law_built).names.lookup ("_law_other" : Str) = some NameKind.local := by decide +kernel
noncomputable def L_law_built_0 : SD → Out Fl := (sSeq (sSet 5 (eA (fun xs => b_law_mixed (xs ++ [])) (aCons (e2 dIx (eVar 0) (eVar 4)) (aCons (eVar 4) aNil)))) (sSeq (sSet 6 (eTup (aCons (eC (.str "name")) (aCons (eA (fun xs => b_law_name (xs ++ [])) (aCons (e2 dFdiv (eVar 5) (eC (.int 6))) aNil)) aNil)))) (sSeq (sSet 7 (e2 dMod (eVar 5) (eC (.int 6)))) (sSeq (sIf (tAnd' (tVal (e2 dEq (eVar 7) (eC (.int 0)))) (tVal (e2 dLt (eVar 3) (eVar 1)))) (sSeq (sSet 2 (eTup (aCons (eC (.str "times")) (aCons (e2 dMod (e2 dFdiv (eVar 5) (eC (.int 36))) (eC (.int 10))) (aCons (eVar 2) aNil))))) (sSet 3 (e2 dAdd (eVar 3) (eC (.int 1))))) sNil) (sSeq (sIf (tAnd' (tVal (e2 dEq (eVar 7) (eC (.int 1)))) (tVal (e2 dLt (eVar 3) (eVar 1)))) (sSeq (sSet 8 (e2 dAdd (eC (.int 1)) (e2 dMod (e2 dFdiv (eVar 5) (eC (.int 36))) (eC (.int 12))))) (sSeq (sSet 2 (eTup (aCons (eC (.str "share")) (aCons (eVar 2) (aCons (e2 dMod (e2 dFdiv (eVar 5) (eC (.int 432))) (eVar 8)) (aCons (eVar 8) aNil)))))) (sSet 3 (e2 dAdd (eVar 3) (eC (.int 1)))))) sNil) (sSeq (sIf (tAnd' (tVal (e2 dEq (eVar 7) (eC (.int 2)))) (tVal (e2 dLt (e2 dAdd (eVar 3) (eC (.int 1))) (eVar 1)))) (sSeq (sSet 2 (eTup (aCons (eC (.str "plus")) (aCons (eVar 2) (aCons (eVar 6) aNil))))) (sSet 3 (e2 dAdd (eVar 3) (eC (.int 2))))) sNil) (sSeq (sIf (tAnd' (tVal (e2 dEq (eVar 7) (eC (.int 3)))) (tVal (e2 dLt (e2 dAdd (eVar 3) (eC (.int 1))) (eVar 1)))) (sSeq (sSet 2 (eTup (aCons (eC (.str "plus")) (aCons (eVar 6) (aCons (eVar 2) aNil))))) (sSet 3 (e2 dAdd (eVar 3) (eC (.int 2))))) sNil) (sIf (tAnd' (tVal (e2 dGt (eVar 7) (eC (.int 3)))) (tVal (e2 dLt (e2 dAdd (eVar 3) (eC (.int 4))) (eVar 1)))) (sSeq (sSet 9 (eTup (aCons (eC (.str "plus")) (aCons (eVar 6) (aCons (eTup (aCons (eC (.str "times")) (aCons (e2 dMod (e2 dFdiv (eVar 5) (eC (.int 36))) (eC (.int 10))) (aCons (eVar 6) aNil)))) aNil))))) (sSeq (sSet 2 (e2 dIx (eLst (aCons (eTup (aCons (eC (.str "plus")) (aCons (eVar 2) (aCons (eVar 9) aNil)))) (aCons (eTup (aCons (eC (.str "plus")) (aCons (eVar 9) (aCons (eVar 2) aNil)))) aNil))) (e2 dSub (eVar 7) (eC (.int 4))))) (sSet 3 (e2 dAdd (eVar 3) (eC (.int 5)))))) sNil))))))))
noncomputable def T_law_built : SD → Out Fl := (sSeq (sSet 2 (eTup (aCons (eC (.str "name")) (aCons (eA (fun xs => b_law_name (xs ++ [])) (aCons (eA (fun xs => b_law_mixed (xs ++ [])) (aCons (eA fLen (aCons (eVar 0) aNil)) (aCons (eC (.int 1)) aNil))) aNil)) aNil)))) (sSeq (sSet 3 (eC (.int 1))) (sSeq (sFor (gN 4) (itR1 (eA fLen (aCons (eVar 0) aNil))) L_law_built_0) (sRet (eVar 2)))))
noncomputable def b_law_built : List D → Out D := bodyF false 2 10 T_law_built
theorem u_law_built (d0 d1 : D) : b_law_built [d0, d1] = (T_law_built [some (.k, d0), some (.k, d1), none, none, none, none, none, none, none, none] >>= retF false) := rfl
theorem d_law_built {P : Program} {w : World} {K : PySem.W.Frag} {mg : Str → Option Value} {base : Heap} {CT : CTab} {f : Addr} {fd : FuncData} {dV : Value} (F : FunV K "_law_built" "_law_built" s_law_built f fd dV) (h_law_name : DefOk P w K mg base CT "_law_name" 1 false [] b_law_name) (h_law_mixed : DefOk P w K mg base CT "_law_mixed" 1 false [] b_law_mixed) (z_len : mg "len" = none) (z_range : mg "range" = none) : FnOk P w K mg base CX0 2 f fd ["_law_cells", "_law_most"] (SpD K CT false b_law_built) :=
    @fnV P w K mg base CT false "_law_built" "_law_built" s_law_built f fd dV ["_law_cells", "_law_most", "_law_one", "_law_parts", "_law_k", "_law_number", "_law_name_here", "_law_way", "_law_many", "_law_other"] ["_law_cells", "_law_most"] 1 T_law_built F sc_law_built fun cdv A outer s H E G hr => 
      (dss_cons (ds_set (i := 2) sc_law_built.nd rfl (Or.inl l_law_built__law_one) (de_tup (da_cons de_str (da_cons (de_f h_law_name (hr.mono (by decide)) (da_cons (de_f h_law_mixed (hr.mono (by decide)) (da_cons (de_len g_law_built_len z_len (dab_cons (DE.db (de_var 0 rfl (Or.inl l_law_built__law_cells))) dab_nil)) (da_cons de_int da_nil)) g_law_built__law_mixed) da_nil) g_law_built__law_name) da_nil)))) (dss_cons (ds_set (i := 3) sc_law_built.nd rfl (Or.inl l_law_built__law_parts) de_int) (dss_cons (ds_forI PassesOwn.never rfl (di_range1 g_law_built_range z_range (DE.db (de_len g_law_built_len z_len (dab_cons (DE.db (de_var 0 rfl (Or.inl l_law_built__law_cells))) dab_nil)))) (dg_name (i := 4) sc_law_built.nd rfl (Or.inl l_law_built__law_k)) (noExc_gN _) (dss_cons (ds_set (i := 5) sc_law_built.nd rfl (Or.inl l_law_built__law_number) (de_f h_law_mixed (hr.mono (by decide)) (da_cons (de_ix (de_var 0 rfl (Or.inl l_law_built__law_cells)) (DE.db (de_var 4 rfl (Or.inl l_law_built__law_k)))) (da_cons (de_var 4 rfl (Or.inl l_law_built__law_k)) da_nil)) g_law_built__law_mixed)) (dss_cons (ds_set (i := 6) sc_law_built.nd rfl (Or.inl l_law_built__law_name_here) (de_tup (da_cons de_str (da_cons (de_f h_law_name (hr.mono (by decide)) (da_cons (de_fdiv (DE.db (de_var 5 rfl (Or.inl l_law_built__law_number))) (DE.db de_int)) da_nil) g_law_built__law_name) da_nil)))) (dss_cons (ds_set (i := 7) sc_law_built.nd rfl (Or.inl l_law_built__law_way) (de_mod (DE.db (de_var 5 rfl (Or.inl l_law_built__law_number))) (DE.db de_int))) (dss_cons (ds_if (DW.dt (dw_and (dt_eq hr.units (DE.db (de_var 7 rfl (Or.inl l_law_built__law_way))) (DE.db de_int)) (dw_and1 (dt_lt (DE.db (de_var 3 rfl (Or.inl l_law_built__law_parts))) (DE.db (de_var 1 rfl (Or.inl l_law_built__law_most))))))) (dss_cons (ds_set (i := 2) sc_law_built.nd rfl (Or.inl l_law_built__law_one) (de_tup (da_cons de_str (da_cons (de_mod (DE.db (de_fdiv (DE.db (de_var 5 rfl (Or.inl l_law_built__law_number))) (DE.db de_int))) (DE.db de_int)) (da_cons (de_var 2 rfl (Or.inl l_law_built__law_one)) da_nil))))) (dss_one (ds_set (i := 3) sc_law_built.nd rfl (Or.inl l_law_built__law_parts) (de_add (DE.db (de_var 3 rfl (Or.inl l_law_built__law_parts))) (DE.db de_int))))) dss_nil) (dss_cons (ds_if (DW.dt (dw_and (dt_eq hr.units (DE.db (de_var 7 rfl (Or.inl l_law_built__law_way))) (DE.db de_int)) (dw_and1 (dt_lt (DE.db (de_var 3 rfl (Or.inl l_law_built__law_parts))) (DE.db (de_var 1 rfl (Or.inl l_law_built__law_most))))))) (dss_cons (ds_set (i := 8) sc_law_built.nd rfl (Or.inl l_law_built__law_many) (de_add (DE.db de_int) (DE.db (de_mod (DE.db (de_fdiv (DE.db (de_var 5 rfl (Or.inl l_law_built__law_number))) (DE.db de_int))) (DE.db de_int))))) (dss_cons (ds_set (i := 2) sc_law_built.nd rfl (Or.inl l_law_built__law_one) (de_tup (da_cons de_str (da_cons (de_var 2 rfl (Or.inl l_law_built__law_one)) (da_cons (de_mod (DE.db (de_fdiv (DE.db (de_var 5 rfl (Or.inl l_law_built__law_number))) (DE.db de_int))) (DE.db (de_var 8 rfl (Or.inl l_law_built__law_many)))) (da_cons (de_var 8 rfl (Or.inl l_law_built__law_many)) da_nil)))))) (dss_one (ds_set (i := 3) sc_law_built.nd rfl (Or.inl l_law_built__law_parts) (de_add (DE.db (de_var 3 rfl (Or.inl l_law_built__law_parts))) (DE.db de_int)))))) dss_nil) (dss_cons (ds_if (DW.dt (dw_and (dt_eq hr.units (DE.db (de_var 7 rfl (Or.inl l_law_built__law_way))) (DE.db de_int)) (dw_and1 (dt_lt (DE.db (de_add (DE.db (de_var 3 rfl (Or.inl l_law_built__law_parts))) (DE.db de_int))) (DE.db (de_var 1 rfl (Or.inl l_law_built__law_most))))))) (dss_cons (ds_set (i := 2) sc_law_built.nd rfl (Or.inl l_law_built__law_one) (de_tup (da_cons de_str (da_cons (de_var 2 rfl (Or.inl l_law_built__law_one)) (da_cons (de_var 6 rfl (Or.inl l_law_built__law_name_here)) da_nil))))) (dss_one (ds_set (i := 3) sc_law_built.nd rfl (Or.inl l_law_built__law_parts) (de_add (DE.db (de_var 3 rfl (Or.inl l_law_built__law_parts))) (DE.db de_int))))) dss_nil) (dss_cons (ds_if (DW.dt (dw_and (dt_eq hr.units (DE.db (de_var 7 rfl (Or.inl l_law_built__law_way))) (DE.db de_int)) (dw_and1 (dt_lt (DE.db (de_add (DE.db (de_var 3 rfl (Or.inl l_law_built__law_parts))) (DE.db de_int))) (DE.db (de_var 1 rfl (Or.inl l_law_built__law_most))))))) (dss_cons (ds_set (i := 2) sc_law_built.nd rfl (Or.inl l_law_built__law_one) (de_tup (da_cons de_str (da_cons (de_var 6 rfl (Or.inl l_law_built__law_name_here)) (da_cons (de_var 2 rfl (Or.inl l_law_built__law_one)) da_nil))))) (dss_one (ds_set (i := 3) sc_law_built.nd rfl (Or.inl l_law_built__law_parts) (de_add (DE.db (de_var 3 rfl (Or.inl l_law_built__law_parts))) (DE.db de_int))))) dss_nil) (dss_one (ds_if (DW.dt (dw_and (dt_gt (DE.db (de_var 7 rfl (Or.inl l_law_built__law_way))) (DE.db de_int)) (dw_and1 (dt_lt (DE.db (de_add (DE.db (de_var 3 rfl (Or.inl l_law_built__law_parts))) (DE.db de_int))) (DE.db (de_var 1 rfl (Or.inl l_law_built__law_most))))))) (dss_cons (ds_set (i := 9) sc_law_built.nd rfl (Or.inl l_law_built__law_other) (de_tup (da_cons de_str (da_cons (de_var 6 rfl (Or.inl l_law_built__law_name_here)) (da_cons (de_tup (da_cons de_str (da_cons (de_mod (DE.db (de_fdiv (DE.db (de_var 5 rfl (Or.inl l_law_built__law_number))) (DE.db de_int))) (DE.db de_int)) (da_cons (de_var 6 rfl (Or.inl l_law_built__law_name_here)) da_nil)))) da_nil))))) (dss_cons (ds_set (i := 2) sc_law_built.nd rfl (Or.inl l_law_built__law_one) (de_ix (DF.de (df_lst (da_cons (de_tup (da_cons de_str (da_cons (de_var 2 rfl (Or.inl l_law_built__law_one)) (da_cons (de_var 9 rfl (Or.inl l_law_built__law_other)) da_nil)))) (da_cons (de_tup (da_cons de_str (da_cons (de_var 9 rfl (Or.inl l_law_built__law_other)) (da_cons (de_var 2 rfl (Or.inl l_law_built__law_one)) da_nil)))) da_nil)))) (DE.db (de_sub (DE.db (de_var 7 rfl (Or.inl l_law_built__law_way))) (DE.db de_int))))) (dss_one (ds_set (i := 3) sc_law_built.nd rfl (Or.inl l_law_built__law_parts) (de_add (DE.db (de_var 3 rfl (Or.inl l_law_built__law_parts))) (DE.db de_int)))))) dss_nil)))))))))) (dss_one (ds_ret (de_var 2 rfl (Or.inl l_law_built__law_one)))))))
abbrev s_law_forty : Stmt := top 21
theorem sc_law_forty : FnScope ["_law_more", "_law_one", "_law_k"] ["_law_more"] (defScope s_law_forty) := ⟨rfl, rfl, rfl, by decide +kernel, rfl, by decide +kernel, by decide +kernel⟩
theorem l_law_forty__law_one : (defScope s_law_forty).names.lookup ("_law_one" : Str) = some NameKind.local := by decide +kernel
theorem l_law_forty__law_more : (defScope s_law_forty).names.lookup ("_law_more" : Str) = some NameKind.local := by decide +kernel
theorem g_law_forty_range : (defScope s_law_forty).names.lookup ("range" : Str) = some NameKind.globalImplicit := by decide +kernel
theorem l_law_forty__law_k : (defScope s_law_forty).names.lookup ("_law_k" : Str) = some NameKind.local := by decide +kernel
noncomputable def L_law_forty_0 : SD → Out Fl := (sSet 1 (e2 dIx (eLst (aCons (eTup (aCons (eC (.str "times")) (aCons (eC (.int 2)) (aCons (eVar 1) aNil)))) (aCons (eTup (aCons (eC (.str "share")) (aCons (eVar 1) (aCons (eC (.int 0)) (aCons (eC (.int 3)) aNil))))) aNil))) (e2 dMod (eVar 2) (eC (.int 2)))))
noncomputable def T_law_forty : SD → Out Fl := (sSeq (sSet 1 (eTup (aCons (eC (.str "name")) (aCons (eC (.str "a")) aNil)))) (sSeq (sFor (gN 2) (itR1 (e2 dAdd (eC (.int 39)) (eVar 0))) L_law_forty_0) (sRet (eVar 1))))
noncomputable def b_law_forty : List D → Out D := bodyF false 1 3 T_law_forty
theorem u_law_forty (d0 : D) : b_law_forty [d0] = (T_law_forty [some (.k, d0), none, none] >>= retF false) := rfl
theorem d_law_forty {P : Program} {w : World} {K : PySem.W.Frag} {mg : Str → Option Value} {base : Heap} {CT : CTab} {f : Addr} {fd : FuncData} {dV : Value} (F : FunV K "_law_forty" "_law_forty" s_law_forty f fd dV) (z_range : mg "range" = none) : FnOk P w K mg base CX0 1 f fd ["_law_more"] (SpD K CT false b_law_forty) :=
    @fnV P w K mg base CT false "_law_forty" "_law_forty" s_law_forty f fd dV ["_law_more", "_law_one", "_law_k"] ["_law_more"] 0 T_law_forty F sc_law_forty fun cdv A outer s H E G hr => 
      (dss_cons (ds_set (i := 1) sc_law_forty.nd rfl (Or.inl l_law_forty__law_one) (de_tup (da_cons de_str (da_cons de_str da_nil)))) (dss_cons (ds_forI PassesOwn.never rfl (di_range1 g_law_forty_range z_range (DE.db (de_add (DE.db de_int) (DE.db (de_var 0 rfl (Or.inl l_law_forty__law_more)))))) (dg_name (i := 2) sc_law_forty.nd rfl (Or.inl l_law_forty__law_k)) (noExc_gN _) (dss_one (ds_set (i := 1) sc_law_forty.nd rfl (Or.inl l_law_forty__law_one) (de_ix (DF.de (df_lst (da_cons (de_tup (da_cons de_str (da_cons de_int (da_cons (de_var 1 rfl (Or.inl l_law_forty__law_one)) da_nil)))) (da_cons (de_tup (da_cons de_str (da_cons (de_var 1 rfl (Or.inl l_law_forty__law_one)) (da_cons de_int (da_cons de_int da_nil))))) da_nil)))) (DE.db (de_mod (DE.db (de_var 2 rfl (Or.inl l_law_forty__law_k))) (DE.db de_int))))))) (dss_one (ds_ret (de_var 1 rfl (Or.inl l_law_forty__law_one))))))
abbrev s_law_within : Stmt := top 20
theorem sc_law_within : FnScope ["_law_thing", "_law_number", "_law_good", "_law_some"] ["_law_thing", "_law_number"] (defScope s_law_within) := ⟨rfl, rfl, rfl, by decide +kernel, rfl, by decide +kernel, by decide +kernel⟩
theorem l_law_within__law_good : (defScope s_law_within).names.lookup ("_law_good" : Str) = some NameKind.local := by decide +kernel
theorem l_law_within__law_thing : (defScope s_law_within).names.lookup ("_law_thing" : Str) = some NameKind.local := by decide +kernel
theorem l_law_within__law_some : (defScope s_law_within).names.lookup ("_law_some" : Str) = some NameKind.local := by decide +kernel
theorem l_law_within__law_number : (defScope s_law_within).names.lookup ("_law_number" : Str) = some NameKind.local := by decide +kernel
noncomputable def T_law_within : SD → Out Fl := (sSeq (sSet 2 (eTup (aCons (eC (.str "name")) (aCons (eC (.str "b")) aNil)))) (sSeq (sSet 3 (eLst (aCons (eTup (aCons (eC (.str "times")) (aCons (eC (.int 3)) (aCons (eVar 0) aNil)))) (aCons (eTup (aCons (eC (.str "plus")) (aCons (eVar 0) (aCons (eVar 2) aNil)))) (aCons (eTup (aCons (eC (.str "plus")) (aCons (eVar 2) (aCons (eVar 0) aNil)))) (aCons (eTup (aCons (eC (.str "share")) (aCons (eVar 0) (aCons (eC (.int 1)) (aCons (eC (.int 2)) aNil))))) aNil)))))) (sRet (e2 dIx (eLst (aCons (eVar 0) (aCons (e2 dIx (eVar 3) (e2 dMod (eVar 1) (eC (.int 4)))) (aCons (eTup (aCons (eC (.str "times")) (aCons (eC (.int 2)) (aCons (e2 dIx (eVar 3) (e2 dMod (eVar 1) (eC (.int 4)))) aNil)))) aNil)))) (e2 dMod (e2 dFdiv (eVar 1) (eC (.int 4))) (eC (.int 3)))))))
noncomputable def b_law_within : List D → Out D := bodyF false 2 4 T_law_within
theorem u_law_within (d0 d1 : D) : b_law_within [d0, d1] = (T_law_within [some (.k, d0), some (.k, d1), none, none] >>= retF false) := rfl
theorem d_law_within {P : Program} {w : World} {K : PySem.W.Frag} {mg : Str → Option Value} {base : Heap} {CT : CTab} {f : Addr} {fd : FuncData} {dV : Value} (F : FunV K "_law_within" "_law_within" s_law_within f fd dV)  : FnOk P w K mg base CX0 1 f fd ["_law_thing", "_law_number"] (SpD K CT false b_law_within) :=
    @fnV P w K mg base CT false "_law_within" "_law_within" s_law_within f fd dV ["_law_thing", "_law_number", "_law_good", "_law_some"] ["_law_thing", "_law_number"] 0 T_law_within F sc_law_within fun cdv A outer s H E G hr => 
      (dss_cons (ds_set (i := 2) sc_law_within.nd rfl (Or.inl l_law_within__law_good) (de_tup (da_cons de_str (da_cons de_str da_nil)))) (dss_cons (ds_set (i := 3) sc_law_within.nd rfl (Or.inl l_law_within__law_some) (DF.de (df_lst (da_cons (de_tup (da_cons de_str (da_cons de_int (da_cons (de_var 0 rfl (Or.inl l_law_within__law_thing)) da_nil)))) (da_cons (de_tup (da_cons de_str (da_cons (de_var 0 rfl (Or.inl l_law_within__law_thing)) (da_cons (de_var 2 rfl (Or.inl l_law_within__law_good)) da_nil)))) (da_cons (de_tup (da_cons de_str (da_cons (de_var 2 rfl (Or.inl l_law_within__law_good)) (da_cons (de_var 0 rfl (Or.inl l_law_within__law_thing)) da_nil)))) (da_cons (de_tup (da_cons de_str (da_cons (de_var 0 rfl (Or.inl l_law_within__law_thing)) (da_cons de_int (da_cons de_int da_nil))))) da_nil))))))) (dss_one (ds_ret (de_ix (DF.de (df_lst (da_cons (de_var 0 rfl (Or.inl l_law_within__law_thing)) (da_cons (de_ix (de_var 3 rfl (Or.inl l_law_within__law_some)) (DE.db (de_mod (DE.db (de_var 1 rfl (Or.inl l_law_within__law_number))) (DE.db de_int)))) (da_cons (de_tup (da_cons de_str (da_cons de_int (da_cons (de_ix (de_var 3 rfl (Or.inl l_law_within__law_some)) (DE.db (de_mod (DE.db (de_var 1 rfl (Or.inl l_law_within__law_number))) (DE.db de_int)))) da_nil)))) da_nil))))) (DE.db (de_mod (DE.db (de_fdiv (DE.db (de_var 1 rfl (Or.inl l_law_within__law_number))) (DE.db de_int))) (DE.db de_int))))))))
abbrev s_law_none : Stmt := top 19
theorem sc_law_none : FnScope ["_law_number", "_law_good", "_law_some"] ["_law_number"] (defScope s_law_none) := ⟨rfl, rfl, rfl, by decide +kernel, rfl, by decide +kernel, by decide +kernel⟩
theorem l_law_none__law_good : (defScope s_law_none).names.lookup ("_law_good" : Str) = some NameKind.local := by decide +kernel
theorem l_law_none__law_some : (defScope s_law_none).names.lookup ("_law_some" : Str) = some NameKind.local := by decide +kernel
theorem l_law_none__law_number : (defScope s_law_none).names.lookup ("_law_number" : Str) = some NameKind.local := by decide +kernel
noncomputable def T_law_none : SD → Out Fl := (sSeq (sSet 1 (eTup (aCons (eC (.str "name")) (aCons (eC (.str "a")) aNil)))) (sSeq (sSet 2 (eLst (aCons (eC .non) (aCons (eC (.int 0)) (aCons (eC (.bl true)) (aCons (eC (.str "a")) (aCons (eC (.str "name")) (aCons (eTup aNil) (aCons (eLst aNil) (aCons eDic0 (aCons (eTup (aCons (eC (.str "name")) aNil)) (aCons (eTup (aCons (eC (.str "name")) (aCons (eC (.str "")) aNil))) (aCons (eTup (aCons (eC (.str "name")) (aCons (eC (.str "A")) aNil))) (aCons (eTup (aCons (eC (.str "name")) (aCons (eC (.str "abcdefg")) aNil))) aNil)))))))))))))) (sSeq (sSet 2 (e2 dCat (eVar 2) (eLst (aCons (eTup (aCons (eC (.str "name")) (aCons (eC (.str "a")) (aCons (eC (.str "b")) aNil)))) (aCons (eLst (aCons (eC (.str "name")) (aCons (eC (.str "a")) aNil))) (aCons (eTup (aCons (eC (.str "name")) (aCons (eC (.int 5)) aNil))) (aCons (eTup (aCons (eC (.str "times")) (aCons (eC (.int 10)) (aCons (eVar 1) aNil)))) (aCons (eTup (aCons (eC (.str "times")) (aCons (e1 dNeg (eC (.int 1))) (aCons (eVar 1) aNil)))) aNil)))))))) (sSeq (sSet 2 (e2 dCat (eVar 2) (eLst (aCons (eTup (aCons (eC (.str "times")) (aCons (eC (.bl true)) (aCons (eVar 1) aNil)))) (aCons (eTup (aCons (eC (.str "plus")) (aCons (eVar 1) aNil))) (aCons (eTup (aCons (eC (.str "share")) (aCons (eVar 1) (aCons (eC (.int 1)) (aCons (eC (.int 1)) aNil))))) (aCons (eTup (aCons (eC (.str "share")) (aCons (eVar 1) (aCons (e1 dNeg (eC (.int 1))) (aCons (eC (.int 3)) aNil))))) aNil))))))) (sSeq (sSet 2 (e2 dCat (eVar 2) (eLst (aCons (eTup (aCons (eC (.str "share")) (aCons (eVar 1) (aCons (eC (.int 0)) (aCons (eC (.int 0)) aNil))))) (aCons (eTup (aCons (eC (.str "share")) (aCons (eVar 1) (aCons (eC (.int 0)) (aCons (eC (.int 13)) aNil))))) (aCons (eTup (aCons (eC (.str "less")) (aCons (eVar 1) (aCons (eVar 1) aNil)))) (aCons (eTup (aCons (eC (.str "plus")) (aCons (eVar 1) (aCons (eVar 1) (aCons (eVar 1) aNil))))) aNil))))))) (sSeq (sSet 2 (e2 dCat (eVar 2) (eLst (aCons (eTup (aCons (eC (.str "times")) (aCons (eC (.int 2)) (aCons (eVar 1) (aCons (eVar 1) aNil))))) (aCons (eTup (aCons (eC (.str "share")) (aCons (eVar 1) (aCons (eC (.int 0)) (aCons (eC (.int 2)) (aCons (eC (.int 5)) aNil)))))) (aCons (eTup (aCons (eC (.int 5)) (aCons (eVar 1) aNil))) (aCons (eTup (aCons (eLst aNil) (aCons (eVar 1) aNil))) (aCons (eTup (aCons eDic0 (aCons (eVar 1) aNil))) aNil)))))))) (sRet (e2 dIx (e2 dCat (eVar 2) (eLst (aCons (eTup (aCons (eTup (aCons (eC (.str "name")) aNil)) (aCons (eVar 1) aNil))) (aCons (eTup (aCons (eC (.str "share")) (aCons (eVar 1) (aCons (eC (.bl true)) (aCons (eC (.int 3)) aNil))))) (aCons (eTup (aCons (eC (.str "share")) (aCons (eVar 1) (aCons (eC (.int 0)) (aCons (eC (.bl true)) aNil))))) aNil))))) (e2 dMod (eVar 0) (eC (.int 33)))))))))))
noncomputable def b_law_none : List D → Out D := bodyF false 1 3 T_law_none
theorem u_law_none (d0 : D) : b_law_none [d0] = (T_law_none [some (.k, d0), none, none] >>= retF false) := rfl
theorem d_law_none {P : Program} {w : World} {K : PySem.W.Frag} {mg : Str → Option Value} {base : Heap} {CT : CTab} {f : Addr} {fd : FuncData} {dV : Value} (F : FunV K "_law_none" "_law_none" s_law_none f fd dV)  : FnOk P w K mg base CX0 1 f fd ["_law_number"] (SpD K CT false b_law_none) :=
    @fnV P w K mg base CT false "_law_none" "_law_none" s_law_none f fd dV ["_law_number", "_law_good", "_law_some"] ["_law_number"] 0 T_law_none F sc_law_none fun cdv A outer s H E G hr => 
      (dss_cons (ds_set (i := 1) sc_law_none.nd rfl (Or.inl l_law_none__law_good) (de_tup (da_cons de_str (da_cons de_str da_nil)))) (dss_cons (ds_set (i := 2) sc_law_none.nd rfl (Or.inl l_law_none__law_some) (DF.de (df_lst (da_cons de_non (da_cons de_int (da_cons de_bl (da_cons de_str (da_cons de_str (da_cons (de_tup da_nil) (da_cons (DF.de (df_lst da_nil)) (da_cons (DF.de df_dic0) (da_cons (de_tup (da_cons de_str da_nil)) (da_cons (de_tup (da_cons de_str (da_cons de_str da_nil))) (da_cons (de_tup (da_cons de_str (da_cons de_str da_nil))) (da_cons (de_tup (da_cons de_str (da_cons de_str da_nil))) da_nil))))))))))))))) (dss_cons (ds_set (i := 2) sc_law_none.nd rfl (Or.inl l_law_none__law_some) (DF.de (df_cat (de_var 2 rfl (Or.inl l_law_none__law_some)) (DF.de (df_lst (da_cons (de_tup (da_cons de_str (da_cons de_str (da_cons de_str da_nil)))) (da_cons (DF.de (df_lst (da_cons de_str (da_cons de_str da_nil)))) (da_cons (de_tup (da_cons de_str (da_cons de_int da_nil))) (da_cons (de_tup (da_cons de_str (da_cons de_int (da_cons (de_var 1 rfl (Or.inl l_law_none__law_good)) da_nil)))) (da_cons (de_tup (da_cons de_str (da_cons (de_neg (DE.db de_int)) (da_cons (de_var 1 rfl (Or.inl l_law_none__law_good)) da_nil)))) da_nil)))))))))) (dss_cons (ds_set (i := 2) sc_law_none.nd rfl (Or.inl l_law_none__law_some) (DF.de (df_cat (de_var 2 rfl (Or.inl l_law_none__law_some)) (DF.de (df_lst (da_cons (de_tup (da_cons de_str (da_cons de_bl (da_cons (de_var 1 rfl (Or.inl l_law_none__law_good)) da_nil)))) (da_cons (de_tup (da_cons de_str (da_cons (de_var 1 rfl (Or.inl l_law_none__law_good)) da_nil))) (da_cons (de_tup (da_cons de_str (da_cons (de_var 1 rfl (Or.inl l_law_none__law_good)) (da_cons de_int (da_cons de_int da_nil))))) (da_cons (de_tup (da_cons de_str (da_cons (de_var 1 rfl (Or.inl l_law_none__law_good)) (da_cons (de_neg (DE.db de_int)) (da_cons de_int da_nil))))) da_nil))))))))) (dss_cons (ds_set (i := 2) sc_law_none.nd rfl (Or.inl l_law_none__law_some) (DF.de (df_cat (de_var 2 rfl (Or.inl l_law_none__law_some)) (DF.de (df_lst (da_cons (de_tup (da_cons de_str (da_cons (de_var 1 rfl (Or.inl l_law_none__law_good)) (da_cons de_int (da_cons de_int da_nil))))) (da_cons (de_tup (da_cons de_str (da_cons (de_var 1 rfl (Or.inl l_law_none__law_good)) (da_cons de_int (da_cons de_int da_nil))))) (da_cons (de_tup (da_cons de_str (da_cons (de_var 1 rfl (Or.inl l_law_none__law_good)) (da_cons (de_var 1 rfl (Or.inl l_law_none__law_good)) da_nil)))) (da_cons (de_tup (da_cons de_str (da_cons (de_var 1 rfl (Or.inl l_law_none__law_good)) (da_cons (de_var 1 rfl (Or.inl l_law_none__law_good)) (da_cons (de_var 1 rfl (Or.inl l_law_none__law_good)) da_nil))))) da_nil))))))))) (dss_cons (ds_set (i := 2) sc_law_none.nd rfl (Or.inl l_law_none__law_some) (DF.de (df_cat (de_var 2 rfl (Or.inl l_law_none__law_some)) (DF.de (df_lst (da_cons (de_tup (da_cons de_str (da_cons de_int (da_cons (de_var 1 rfl (Or.inl l_law_none__law_good)) (da_cons (de_var 1 rfl (Or.inl l_law_none__law_good)) da_nil))))) (da_cons (de_tup (da_cons de_str (da_cons (de_var 1 rfl (Or.inl l_law_none__law_good)) (da_cons de_int (da_cons de_int (da_cons de_int da_nil)))))) (da_cons (de_tup (da_cons de_int (da_cons (de_var 1 rfl (Or.inl l_law_none__law_good)) da_nil))) (da_cons (de_tup (da_cons (DF.de (df_lst da_nil)) (da_cons (de_var 1 rfl (Or.inl l_law_none__law_good)) da_nil))) (da_cons (de_tup (da_cons (DF.de df_dic0) (da_cons (de_var 1 rfl (Or.inl l_law_none__law_good)) da_nil))) da_nil)))))))))) (dss_one (ds_ret (de_ix (DF.de (df_cat (de_var 2 rfl (Or.inl l_law_none__law_some)) (DF.de (df_lst (da_cons (de_tup (da_cons (de_tup (da_cons de_str da_nil)) (da_cons (de_var 1 rfl (Or.inl l_law_none__law_good)) da_nil))) (da_cons (de_tup (da_cons de_str (da_cons (de_var 1 rfl (Or.inl l_law_none__law_good)) (da_cons de_bl (da_cons de_int da_nil))))) (da_cons (de_tup (da_cons de_str (da_cons (de_var 1 rfl (Or.inl l_law_none__law_good)) (da_cons de_int (da_cons de_bl da_nil))))) da_nil))))))) (DE.db (de_mod (DE.db (de_var 0 rfl (Or.inl l_law_none__law_number))) (DE.db de_int))))))))))))
abbrev s_law : Stmt := top 22
theorem sc_law : FnScope ["_law_script", "_law_k", "_law_number"] ["_law_script"] (defScope s_law) := ⟨rfl, rfl, rfl, by decide +kernel, rfl, by decide +kernel, by decide +kernel⟩
theorem l_law__law_script : (defScope s_law).names.lookup ("_law_script" : Str) = some NameKind.local := by decide +kernel
theorem g_law__law_built : (defScope s_law).names.lookup ("_law_built" : Str) = some NameKind.globalImplicit := by decide +kernel
theorem g_law_is_sum : (defScope s_law).names.lookup ("is_sum" : Str) = some NameKind.globalImplicit := by decide +kernel
theorem g_law_len : (defScope s_law).names.lookup ("len" : Str) = some NameKind.globalImplicit := by decide +kernel
theorem g_law_min : (defScope s_law).names.lookup ("min" : Str) = some NameKind.globalImplicit := by decide +kernel
theorem g_law_range : (defScope s_law).names.lookup ("range" : Str) = some NameKind.globalImplicit := by decide +kernel
theorem l_law__law_k : (defScope s_law).names.lookup ("_law_k" : Str) = some NameKind.local := by decide +kernel
theorem g_law__law_mixed : (defScope s_law).names.lookup ("_law_mixed" : Str) = some NameKind.globalImplicit := by decide +kernel
theorem l_law__law_number : (defScope s_law).names.lookup ("_law_number" : Str) = some NameKind.local := by decide +kernel
theorem g_law__law_none : (defScope s_law).names.lookup ("_law_none" : Str) = some NameKind.globalImplicit := by decide +kernel
theorem g_law__law_within : (defScope s_law).names.lookup ("_law_within" : Str) = some NameKind.globalImplicit := by decide +kernel
noncomputable def L_law_0 : SD → Out Fl := (sSeq (sSet 2 (eA (fun xs => b_law_mixed (xs ++ [])) (aCons (e2 dIx (eVar 0) (eVar 1)) (aCons (eVar 1) aNil)))) (sIf (tVal (e2 dIsNot (eA (fun xs => b_is_sum (xs ++ [])) (aCons (eA (fun xs => b_law_within (xs ++ [])) (aCons (eA (fun xs => b_law_none (xs ++ [])) (aCons (eVar 2) aNil)) (aCons (e2 dFdiv (eVar 2) (eC (.int 33))) aNil))) aNil)) (eC (.bl false)))) (sRet (eC (.bl false))) sNil))
theorem g_law__law_forty : (defScope s_law).names.lookup ("_law_forty" : Str) = some NameKind.globalImplicit := by decide +kernel
noncomputable def T_law : SD → Out Fl := (sSeq (sIf (tVal (e2 dIsNot (eA (fun xs => b_is_sum (xs ++ [])) (aCons (eA (fun xs => b_law_built (xs ++ [])) (aCons (eSl (eVar 0) oNo (oSome (eC (.int 84)))) (aCons (eC (.int 40)) aNil))) aNil)) (eC (.bl true)))) (sRet (eC (.bl false))) sNil) (sSeq (sFor (gN 1) (itR1 (eA fMin2 (aCons (eA fLen (aCons (eVar 0) aNil)) (aCons (eC (.int 84)) aNil)))) L_law_0) (sSeq (sIf (tOr' (tVal (e2 dIsNot (eA (fun xs => b_is_sum (xs ++ [])) (aCons (eA (fun xs => b_law_forty (xs ++ [])) (aCons (eC (.int 1)) aNil)) aNil)) (eC (.bl false)))) (tVal (e2 dIsNot (eA (fun xs => b_is_sum (xs ++ [])) (aCons (eA (fun xs => b_law_forty (xs ++ [])) (aCons (eC (.int 1200)) aNil)) aNil)) (eC (.bl false))))) (sRet (eC (.bl false))) sNil) (sRet (e2 dIs (eA (fun xs => b_is_sum (xs ++ [])) (aCons (eA (fun xs => b_law_forty (xs ++ [])) (aCons (eC (.int 0)) aNil)) aNil)) (eC (.bl true)))))))
noncomputable def b_law : List D → Out D := bodyF false 1 3 T_law
theorem u_law (d0 : D) : b_law [d0] = (T_law [some (.k, d0), none, none] >>= retF false) := rfl
theorem d_law {P : Program} {w : World} {K : PySem.W.Frag} {mg : Str → Option Value} {base : Heap} {CT : CTab} {f : Addr} {fd : FuncData} {dV : Value} (F : FunV K "law" "law" s_law f fd dV) (h_is_sum : DefOk P w K mg base CT "is_sum" 5 false [] b_is_sum) (h_law_built : DefOk P w K mg base CT "_law_built" 2 false [] b_law_built) (h_law_mixed : DefOk P w K mg base CT "_law_mixed" 1 false [] b_law_mixed) (h_law_within : DefOk P w K mg base CT "_law_within" 1 false [] b_law_within) (h_law_none : DefOk P w K mg base CT "_law_none" 1 false [] b_law_none) (h_law_forty : DefOk P w K mg base CT "_law_forty" 1 false [] b_law_forty) (z_range : mg "range" = none) (z_min : mg "min" = none) (z_len : mg "len" = none) : FnOk P w K mg base CX0 6 f fd ["_law_script"] (SpD K CT false b_law) :=
    @fnV P w K mg base CT false "law" "law" s_law f fd dV ["_law_script", "_law_k", "_law_number"] ["_law_script"] 5 T_law F sc_law fun cdv A outer s H E G hr => 
      (dss_cons (ds_if (dt_isNot (DE.db (de_f h_is_sum (hr.mono (by decide)) (da_cons (de_f h_law_built (hr.mono (by decide)) (da_cons (DF.de (df_sl (de_var 0 rfl (Or.inl l_law__law_script)) do_none (do_some (DE.db de_int)))) (da_cons de_int da_nil)) g_law__law_built) da_nil) g_law_is_sum)) (DE.db de_bl)) (dss_one (ds_ret de_bl)) dss_nil) (dss_cons (ds_forI PassesOwn.never rfl (di_range1 g_law_range z_range (DE.db (de_min2 rfl g_law_min z_min (dab_cons (DE.db (de_len g_law_len z_len (dab_cons (DE.db (de_var 0 rfl (Or.inl l_law__law_script))) dab_nil))) (dab_cons (DE.db de_int) dab_nil))))) (dg_name (i := 1) sc_law.nd rfl (Or.inl l_law__law_k)) (noExc_gN _) (dss_cons (ds_set (i := 2) sc_law.nd rfl (Or.inl l_law__law_number) (de_f h_law_mixed (hr.mono (by decide)) (da_cons (de_ix (de_var 0 rfl (Or.inl l_law__law_script)) (DE.db (de_var 1 rfl (Or.inl l_law__law_k)))) (da_cons (de_var 1 rfl (Or.inl l_law__law_k)) da_nil)) g_law__law_mixed)) (dss_one (ds_if (dt_isNot (DE.db (de_f h_is_sum (hr.mono (by decide)) (da_cons (de_f h_law_within (hr.mono (by decide)) (da_cons (de_f h_law_none (hr.mono (by decide)) (da_cons (de_var 2 rfl (Or.inl l_law__law_number)) da_nil) g_law__law_none) (da_cons (de_fdiv (DE.db (de_var 2 rfl (Or.inl l_law__law_number))) (DE.db de_int)) da_nil)) g_law__law_within) da_nil) g_law_is_sum)) (DE.db de_bl)) (dss_one (ds_ret de_bl)) dss_nil)))) (dss_cons (ds_if (DW.dt (dw_or (dt_isNot (DE.db (de_f h_is_sum (hr.mono (by decide)) (da_cons (de_f h_law_forty (hr.mono (by decide)) (da_cons de_int da_nil) g_law__law_forty) da_nil) g_law_is_sum)) (DE.db de_bl)) (dw_or1 (dt_isNot (DE.db (de_f h_is_sum (hr.mono (by decide)) (da_cons (de_f h_law_forty (hr.mono (by decide)) (da_cons de_int da_nil) g_law__law_forty) da_nil) g_law_is_sum)) (DE.db de_bl))))) (dss_one (ds_ret de_bl)) dss_nil) (dss_one (ds_ret (de_is (DE.db (de_f h_is_sum (hr.mono (by decide)) (da_cons (de_f h_law_forty (hr.mono (by decide)) (da_cons de_int da_nil) g_law__law_forty) da_nil) g_law_is_sum)) (DE.db de_bl)))))))
end My
set_option Elab.async false
set_option linter.all false
set_option maxRecDepth 100000
set_option maxHeartbeats 4000000
set_option exponentiation.threshold 20000
namespace My
open PySem PySem.Spec L2 DL
local macro_rules | `(tactic| walk_at "g") => `(tactic| ((repeat (first | exact l_get0 | apply l_getS)); done))
local macro_rules | `(tactic| walk_at "s") => `(tactic| repeat (first | exact l_set0 | apply l_setS))
local macro_rules | `(tactic| walk_at "all") => `(tactic| repeat (first | with_reducible exact r_setAllN | (apply r_setAllC; focus walk_at "s")))
local macro_rules | `(tactic| walk_at "cap") => `(tactic| repeat (first | exact c_nil | apply c_none | (apply c_k; focus walk_at "g") | (apply c_o; focus walk_at "g") | (apply c_l; focus walk_at "g") | (apply c_s; focus walk_at "g")))
local macro_rules | `(tactic| walk_at "b") => `(tactic| first | rfl | with_reducible assumption | (simp only [Bool.not_eq_true', Bool.not_eq_false', decide_eq_true_eq, decide_eq_false_iff_not, Bool.not_true, Bool.not_false]; first | with_reducible assumption | omega) | (simp; done))
local macro_rules | `(tactic| walk_at "p") => `(tactic| first | decide | with_reducible assumption | omega)
local macro_rules | `(tactic| walk_at "l") => `(tactic| first | decide | with_reducible assumption | (simp only [List.length_map, List.length_cons, List.length_nil, List.length_range, List.length_append]; omega) | omega | (simp; omega))
local macro_rules | `(tactic| walk_at "e") => `(tactic| first
  | ((with_reducible apply r_id); with_reducible assumption)
  | with_reducible exact r_okR | with_reducible exact r_look0
  | with_reducible apply r_var | with_reducible apply r_varB | with_reducible exact r_C | with_reducible exact r_nil | with_reducible exact r_oNo | with_reducible exact r_sNil | with_reducible exact r_thenR
  | with_reducible exact dAdd_int _ _ | with_reducible exact dSub_int _ _ | with_reducible exact dNeg_int _ | with_reducible exact dAbs_int _ | with_reducible exact dLt_int _ _ | with_reducible exact dLe_int _ _ | with_reducible exact dGt_int _ _ | with_reducible exact dGe_int _ _ | with_reducible exact dEq_int _ _ | with_reducible exact dNe_int _ _
  | with_reducible exact dMod_pos (by walk_at "p")
  | with_reducible exact r_rt | with_reducible exact r_rtT | with_reducible exact r_rtS rfl
  | with_reducible apply r_retO
  | with_reducible exact l_set0 | with_reducible apply l_setS
  | with_reducible exact l_cat0 | with_reducible apply l_catS
  | with_reducible exact r_setAllN | with_reducible apply r_setAllC
  | with_reducible exact c_nil | with_reducible apply c_none | ((with_reducible apply c_k); focus walk_at "g") | ((with_reducible apply c_o); focus walk_at "g") | ((with_reducible apply c_l); focus walk_at "g") | ((with_reducible apply c_s); focus walk_at "g")
  | ((with_reducible apply r_scal); exact rfl)
  | ((with_reducible apply r_get); focus walk_at "g")
  | ((with_reducible apply r_bits); with_reducible assumption)
  | ((with_reducible apply bd_mod); focus walk_at "p") | with_reducible apply bd_add | with_reducible apply bd_sub | with_reducible apply bd_mul | with_reducible apply bd_div | with_reducible apply bd_neg | with_reducible exact bd_lit rfl
  | ((with_reducible apply r_dec); focus exact rfl)
  | ((with_reducible apply r_len); focus walk_at "l")
  | with_reducible apply r_mul
  | ((with_reducible apply r_fdiv); focus walk_at "p")
  | ((with_reducible apply r_iteT); focus walk_at "b")
  | ((with_reducible apply r_iteF); focus walk_at "b")
  | with_reducible apply r_cons | with_reducible apply r_e2 | with_reducible apply r_e1 | with_reducible apply r_seq | with_reducible apply r_set | with_reducible apply r_setO | with_reducible apply r_if | with_reducible apply r_then | with_reducible apply r_tVal | with_reducible apply r_not' | with_reducible apply r_or' | with_reducible apply r_and' | with_reducible apply r_eAnd | with_reducible apply r_eOr | with_reducible apply r_eNot | with_reducible apply r_eIf | with_reducible apply r_isa | with_reducible apply r_chain | with_reducible apply r_bind | with_reducible apply r_ret | with_reducible apply r_retF | with_reducible apply r_drop | with_reducible apply r_tup | with_reducible apply r_lst | with_reducible apply r_scalar | with_reducible apply r_nonScal | with_reducible apply r_noX | with_reducible apply r_oSome | with_reducible apply r_body | with_reducible apply r_gN | with_reducible apply r_gT | with_reducible apply r_unp | with_reducible apply r_for | with_reducible apply r_itL | with_reducible apply r_itT | with_reducible apply r_itE | with_reducible apply r_itZ | with_reducible apply r_call | with_reducible apply r_eA | with_reducible apply r_sl | with_reducible apply r_slB | with_reducible apply r_ixO | with_reducible apply r_meth | with_reducible apply r_make | with_reducible apply r_app | with_reducible apply r_put | with_reducible apply r_turn | with_reducible apply r_turnT | with_reducible apply r_self | with_reducible apply r_methS | with_reducible apply r_lm)
structure Tx (x : Str) (n : Nat) : Prop where
  ok : PyData.strOk x = true
  len : x.length ≤ n
theorem strOk_app {x y : Str} (hx : PyData.strOk x = true) (hy : PyData.strOk y = true) : PyData.strOk (x ++ y) = true := by
  show (x.cps ++ y.cps).all _ = true
  rw [Array.all_append]
  exact Bool.and_eq_true_iff.mpr ⟨hx, hy⟩
theorem len_app (x y : Str) : (x ++ y).length = x.length + y.length := by
  show (x.cps ++ y.cps).size = _
  rw [Array.size_append]; rfl
theorem Tx.app {x y : Str} {m n : Nat} (h : Tx x m) (h' : Tx y n) : Tx (x ++ y) (m + n) := ⟨strOk_app h.ok h'.ok, by rw [len_app]; have := h.len; have := h'.len; omega⟩
theorem Tx.le {x : Str} {m n : Nat} (h : Tx x m) (hn : m ≤ n) : Tx x n := ⟨h.ok, Nat.le_trans h.len hn⟩
theorem add_tx {x y : Str} {m n : Nat} (h : Tx x m) (h' : Tx y n) (hs : m + n ≤ 100000) : dAdd (.str x) (.str y) = .ok (.str (x ++ y)) := by
  show (if x.length + y.length ≤ sizeLine then _ else _) = _
  rw [if_pos]
  have := h.len
  have := h'.len
  have h2 : (100000 : Nat) ≤ sizeLine := by decide
  omega
theorem streq {a b : Str} {z : Bool} (ha : PyData.strOk a = true := by decide +kernel) (hb : PyData.strOk b = true := by decide +kernel) (h : (a == b) = z := by decide +kernel) : dEq (.str a) (.str b) = .ok (.bl z) := by rw [dEq_str ha hb, h]
abbrev abc : Str := "abcdefghijklmnopqrstuvwxyz"
structure Nm (x : Str) : Prop where
  tx : Tx x 6
  ne : 1 ≤ x.length
  ls : ∀ c ∈ x.cps.toList, c ∈ abc.cps.toList
inductive Sm where
  | nm (x : Str)
  | tm (k : Int) (s : Sm)
  | pl (s t : Sm)
  | sh (s : Sm) (c d : Int)
def Sm.d : Sm → D
  | .nm x => .tup [.str "name", .str x]
  | .tm k s => .tup [.str "times", .int k, s.d]
  | .pl s t => .tup [.str "plus", s.d, t.d]
  | .sh s c d => .tup [.str "share", s.d, .int c, .int d]
def Sm.ok : Sm → Prop
  | .nm x => Nm x
  | .tm k s => (0 ≤ k ∧ k ≤ 9) ∧ s.ok
  | .pl s t => s.ok ∧ t.ok
  | .sh s c d => (0 ≤ c ∧ c < d) ∧ d ≤ 12 ∧ s.ok
def Sm.parts : Sm → Nat
  | .nm _ => 1
  | .tm _ s => s.parts + 1
  | .pl s t => s.parts + t.parts + 1
  | .sh s _ _ => s.parts + 1
theorem mixed_ok {c k : Int} (hk0 : 0 ≤ k) (hk : k ≤ 1000) : ∃ w : Int, b_law_mixed [.int c, .int k] = .ok (.int w) ∧ 0 ≤ w ∧ w < 2147483629 := by
  have c0 := Int.emod_nonneg c (b := 2147483647) (by decide)
  have c1 := Int.emod_lt_of_pos c (b := 2147483647) (by decide)
  have M : ∀ i j : Int, i.natAbs < 2 ^ 60 → j.natAbs < 2 ^ 60 → dMul (.int i) (.int j) = .ok (.int (i * j)) := fun i j h1 h2 => dMul_of (bits_of h1) (bits_of h2) (by decide)
  have kk : 2 * k * k ≤ 2000000 := by
    have := Int.mul_le_mul (show 2 * k ≤ 2000 by omega) hk hk0 (by decide)
    omega
  have kk0 : 0 ≤ 2 * k * k := Int.mul_nonneg (by omega) hk0
  have m1 := M 2 k (by decide) (by omega)
  have m2 := M (2 * k) k (by omega) (by omega)
  have m3 := M (c % 2147483647 + 11) (48271 + 2 * k * k) (by omega) (by omega)
  refine ⟨(c % 2147483647 + 11) * (48271 + 2 * k * k) % 2147483629, ?_, Int.emod_nonneg _ (by decide), Int.emod_lt_of_pos _ (by decide)⟩
  simp only [b_law_mixed, T_law_mixed, bodyF, retF, sSeq, thenF, sSet, sRet, sIf, sNil, eVar, eC, e1, e2, eA, f1, aNil, aCons, tVal, tAnd', tOr', tNot', eAnd, eOr, eNot, eIf, eTup, eLst, eIsa, isaT, tyName, oNo, oSome, sPar, sUnp, setAll, gN, gT, fLen, fits_small, Out.bind_ok, Out.bind_exc, Out.bind_stuck, Out.pure_eq, D.scal, dAdd_int, dSub_int, dNeg_int, dAbs_int, dLt_int, dLe_int, dGt_int, dGe_int, dEq_int, dNe_int, List.length_cons, List.length_nil, List.map_cons, List.map_nil, List.cons_append, List.nil_append, List.append_nil, List.getElem?_cons_zero, List.getElem?_cons_succ, List.set_cons_zero, List.set_cons_succ, List.replicate, Nat.reduceAdd, Nat.reduceSub, Nat.reduceLeDiff, Nat.zero_add, Nat.add_zero, reduceIte, Bool.not_true, Bool.not_false, Bool.true_and, Bool.and_true, Bool.false_and, Bool.and_false, Bool.or_true, Bool.true_or, Bool.or_false, Bool.false_or, Bool.false_eq_true, decide_true, decide_false, decide_eq_true_eq, Bool.not_eq_true', decide_eq_false_iff_not, Int.reduceEq, Int.reduceLT, Int.reduceLE, Int.reduceNeg, Nat.reduceEqDiff, ↓reduceIte, not_true_eq_false, not_false_eq_true, dMod_pos (show (0 : Int) < 2147483647 by decide), dMod_pos (show (0 : Int) < 2147483629 by decide), m1, m2, m3]
theorem ixS {z : Str} {i : Int} (hz : z.length ≤ 1000) (ho : PyData.strOk z = true) (h0 : 0 ≤ i) (h1 : i < z.length) : ∃ c, c ∈ z.cps.toList ∧ dIx (.str z) (.int i) = .ok (.str ⟨#[c]⟩) ∧ Tx ⟨#[c]⟩ 1 := by
  obtain ⟨n, rfl⟩ : ∃ n : Nat, i = n := ⟨i.toNat, by omega⟩
  have hn : n < z.cps.toList.length := by rw [str_len]; omega
  refine ⟨z.cps.toList[n], List.getElem_mem hn, ?_, ?_, Nat.le_refl _⟩
  · show (if fits z.length = true then optO ((atI z.cps.toList (n : Int)).map fun c => D.str ⟨#[c]⟩) else .stuck) = _
    rw [if_pos (fits_of hz), atI_nat (List.getElem?_eq_getElem hn)]
    rfl
  · have h : z.cps.toList.all (· < 0x110000) = true := by rw [Array.all_toList]; exact ho
    have := List.all_eq_true.mp h _ (List.getElem_mem hn)
    show (#[z.cps.toList[n]] : Array Nat).all (· < 0x110000) = true
    simpa using this
theorem letters_tx : Tx ("abcdefghijklmnopqrstuvwxyz" : Str) 26 := ⟨by decide +kernel, by decide +kernel⟩
theorem letters_len : ("abcdefghijklmnopqrstuvwxyz" : Str).length = 26 := by decide +kernel
theorem name_ok {n : Int} (h0 : 0 ≤ n) (h1 : n < 2147483629) : ∃ x, b_law_name [.int n] = .ok (.str x) ∧ Nm x := by
  have m0 := Int.emod_nonneg n (b := 6) (by decide)
  have m1 := Int.emod_lt_of_pos n (b := 6) (by decide)
  obtain ⟨ς', hL, t, a3, rfl, ht, hk, hc⟩ := loop_rangeK (body := fun x ς => gN 3 x ς >>= fun ς' => L_law_name_0 ς') (n := (1 + n % 6).toNat)
    (P := fun k ς => ∃ (t : Str) (a3 : Option (SM × D)), ς = [some (.k, .int n), some (.k, .str "abcdefghijklmnopqrstuvwxyz"), some (.k, .str t), a3] ∧ Tx t k ∧ t.length = k ∧ ∀ c ∈ t.cps.toList, c ∈ abc.cps.toList)
    (by
      rintro k hk ς ⟨t, a3, rfl, ht, hkl, hc⟩
      have k6 : k ≤ 6 := by omega
      have M : ∀ i j : Int, i.natAbs < 2 ^ 60 → j.natAbs < 2 ^ 60 → dMul (.int i) (.int j) = .ok (.int (i * j)) := fun i j h1 h2 => dMul_of (bits_of h1) (bits_of h2) (by decide)
      have e1' := M 2 k (by decide) (by omega)
      have e2' := M n (2 * k + 3) (by omega) (by omega)
      have q1 : dMod (.int (n * (2 * k + 3))) (.int 1000003) = .ok (.int (n * (2 * k + 3) % 1000003)) := dMod_pos (by decide)
      have q2 : dMod (.int (n * (2 * k + 3) % 1000003)) (.int 26) = .ok (.int (n * (2 * k + 3) % 1000003 % 26)) := dMod_pos (by decide)
      obtain ⟨c, hcm, ex, hx⟩ := ixS (z := "abcdefghijklmnopqrstuvwxyz") (i := n * (2 * k + 3) % 1000003 % 26) (by rw [letters_len]; decide) letters_tx.ok (Int.emod_nonneg _ (by omega)) (by rw [letters_len]; exact Int.emod_lt_of_pos _ (by decide))
      have ha := add_tx ht hx (by omega)
      refine ⟨[some (.k, .int n), some (.k, .str "abcdefghijklmnopqrstuvwxyz"), some (.k, .str (t ++ ⟨#[c]⟩)), some (.k, .int k)], ?_, t ++ ⟨#[c]⟩, _, rfl, ht.app hx, by rw [len_app, hkl]; rfl, fun c' hc' => ?_⟩
      · refine r_gN (by walk_at "s") ?_
        unfold L_law_name_0
        (repeat walk_at "e")
      · have hc' : c' ∈ (t.cps ++ #[c]).toList := hc'
        rw [Array.toList_append, List.mem_append] at hc'
        rcases hc' with h | h
        · exact hc c' h
        · rw [List.mem_singleton.mp h]; exact hcm)
    [some (.k, .int n), some (.k, .str "abcdefghijklmnopqrstuvwxyz"), some (.k, .str ""), none] ⟨"", none, rfl, ⟨by decide +kernel, by decide +kernel⟩, by decide +kernel, by decide +kernel⟩
  have hr : e2 dAdd (eC (.int 1)) (e2 dMod (eVar 0) (eC (.int 6))) [some (.k, .int n), some (.k, .str "abcdefghijklmnopqrstuvwxyz"), some (.k, .str ""), none] = .ok (.int (((1 + n % 6).toNat : Nat) : Int)) := by
    rw [show (((1 + n % 6).toNat : Nat) : Int) = 1 + n % 6 by omega]
    (repeat walk_at "e")
  have hfor := sFor_of (g := gN 3) (its := itR1 (e2 dAdd (eC (.int 1)) (e2 dMod (eVar 0) (eC (.int 6))))) (T := L_law_name_0) (rng_ok (1 + n % 6).toNat hr (by omega)) hL
  refine ⟨t, ?_, ht.le (by omega), by omega, hc⟩
  rw [u_law_name]
  unfold T_law_name
  (repeat walk_at "e")
theorem built_ok {cs : List Int} (hl : cs.length ≤ 84) : ∃ s : Sm, s.ok ∧ s.parts ≤ 40 ∧ b_law_built [.lst (cs.map .int), .int 40] = .ok s.d := by
  have hlen : fLen [.lst (cs.map D.int)] = .ok (.int (cs.length : Int)) := by simp [fLen]
  obtain ⟨w1, hw1, w10, w11⟩ := mixed_ok (c := (cs.length : Int)) (k := 1) (by decide) (by decide)
  obtain ⟨x0, hx0, tx0⟩ := name_ok w10 w11
  obtain ⟨ς', hL, s, p, a4, a5, a6, a7, a8, a9, rfl, so, hp, sp⟩ := loop_range (body := fun x ς => gN 4 x ς >>= fun ς' => L_law_built_0 ς') (n := cs.length)
    (P := fun ς => ∃ (s : Sm) (p : Int) (a4 a5 a6 a7 a8 a9 : Option (SM × D)), ς = [some (.k, .lst (cs.map .int)), some (.k, .int 40), some (.k, s.d), some (.k, .int p), a4, a5, a6, a7, a8, a9] ∧ s.ok ∧ p = (s.parts : Int) ∧ s.parts ≤ 40)
    (by
      rintro k hk ς ⟨s, p, a4, a5, a6, a7, a8, a9, rfl, so, hp, sp⟩
      have hix : dIx (.lst (cs.map D.int)) (.int (k : Int)) = .ok (.int cs[k]) := ixL k (by rw [List.getElem?_map, List.getElem?_eq_getElem hk]; rfl)
      obtain ⟨n, hn, n0, n1⟩ := mixed_ok (c := cs[k]) (k := (k : Int)) (by omega) (by omega)
      have d6 : dFdiv (.int n) (.int 6) = .ok (.int (n / 6)) := dFdiv_pos (by decide) (by decide)
      have d36 : dFdiv (.int n) (.int 36) = .ok (.int (n / 36)) := dFdiv_pos (by decide) (by decide)
      have d432 : dFdiv (.int n) (.int 432) = .ok (.int (n / 432)) := dFdiv_pos (by decide) (by decide)
      have p6 : dMod (.int n) (.int 6) = .ok (.int (n % 6)) := dMod_pos (by decide)
      have p10 : dMod (.int (n / 36)) (.int 10) = .ok (.int (n / 36 % 10)) := dMod_pos (by decide)
      have p12 : dMod (.int (n / 36)) (.int 12) = .ok (.int (n / 36 % 12)) := dMod_pos (by decide)
      obtain ⟨x, hx, tx⟩ := name_ok (n := n / 6) (by omega) (by omega)
      obtain ⟨w, hw⟩ : ∃ w, w = n % 6 := ⟨_, rfl⟩
      rw [← hw] at p6
      have pmany : dMod (.int (n / 432)) (.int (1 + n / 36 % 12)) = .ok (.int (n / 432 % (1 + n / 36 % 12))) := dMod_pos (by omega)
      have m0 := Int.emod_nonneg (n / 432) (b := 1 + n / 36 % 12) (by omega)
      have m1 := Int.emod_lt_of_pos (n / 432) (b := 1 + n / 36 % 12) (by omega)
      refine (show ∃ ς', (gN 4 (D.int k) _ >>= fun ς' => L_law_built_0 ς') = Out.ok (Fl.nx ς') ∧ _ from ?_)
      unfold L_law_built_0
      have hw6 : w = 0 ∨ w = 1 ∨ w = 2 ∨ w = 3 ∨ w = 4 ∨ w = 5 := by omega
      rcases hw6 with h | h | h | h | h | h
      · by_cases hp4 : p < 40
        · refine ⟨[some (.k, .lst (cs.map .int)), some (.k, .int 40), some (.k, .tup [.str "times", .int (n / 36 % 10), s.d]), some (.k, .int (p + 1)), some (.k, .int k), some (.k, .int n), some (.k, .tup [.str "name", .str x]), some (.k, .int w), a8, a9], ?_, Sm.tm (n / 36 % 10) s, p + 1, _, _, _, _, _, _, rfl, ⟨⟨by omega, by omega⟩, so⟩, ?_, ?_⟩
          · refine r_gN (by walk_at "s") ?_
            (repeat walk_at "e")
          · show p + 1 = ((s.parts + 1 : Nat) : Int); omega
          · show s.parts + 1 ≤ 40; omega
        · refine ⟨[some (.k, .lst (cs.map .int)), some (.k, .int 40), some (.k, s.d), some (.k, .int p), some (.k, .int k), some (.k, .int n), some (.k, .tup [.str "name", .str x]), some (.k, .int w), a8, a9], ?_, s, p, _, _, _, _, _, _, rfl, so, hp, sp⟩
          refine r_gN (by walk_at "s") ?_
          (repeat walk_at "e")
      · by_cases hp4 : p < 40
        · refine ⟨[some (.k, .lst (cs.map .int)), some (.k, .int 40), some (.k, .tup [.str "share", s.d, .int (n / 432 % (1 + n / 36 % 12)), .int (1 + n / 36 % 12)]), some (.k, .int (p + 1)), some (.k, .int k), some (.k, .int n), some (.k, .tup [.str "name", .str x]), some (.k, .int w), some (.k, .int (1 + n / 36 % 12)), a9], ?_, Sm.sh s (n / 432 % (1 + n / 36 % 12)) (1 + n / 36 % 12), p + 1, _, _, _, _, _, _, rfl, ⟨⟨m0, m1⟩, by omega, so⟩, ?_, ?_⟩
          · refine r_gN (by walk_at "s") ?_
            (repeat walk_at "e")
          · show p + 1 = ((s.parts + 1 : Nat) : Int); omega
          · show s.parts + 1 ≤ 40; omega
        · refine ⟨[some (.k, .lst (cs.map .int)), some (.k, .int 40), some (.k, s.d), some (.k, .int p), some (.k, .int k), some (.k, .int n), some (.k, .tup [.str "name", .str x]), some (.k, .int w), a8, a9], ?_, s, p, _, _, _, _, _, _, rfl, so, hp, sp⟩
          refine r_gN (by walk_at "s") ?_
          (repeat walk_at "e")
      · by_cases hp4 : p + 1 < 40
        · refine ⟨[some (.k, .lst (cs.map .int)), some (.k, .int 40), some (.k, .tup [.str "plus", s.d, .tup [.str "name", .str x]]), some (.k, .int (p + 2)), some (.k, .int k), some (.k, .int n), some (.k, .tup [.str "name", .str x]), some (.k, .int w), a8, a9], ?_, Sm.pl s (Sm.nm x), p + 2, _, _, _, _, _, _, rfl, ⟨so, tx⟩, ?_, ?_⟩
          · refine r_gN (by walk_at "s") ?_
            (repeat walk_at "e")
          · show p + 2 = ((s.parts + 1 + 1 : Nat) : Int); omega
          · show s.parts + 1 + 1 ≤ 40; omega
        · refine ⟨[some (.k, .lst (cs.map .int)), some (.k, .int 40), some (.k, s.d), some (.k, .int p), some (.k, .int k), some (.k, .int n), some (.k, .tup [.str "name", .str x]), some (.k, .int w), a8, a9], ?_, s, p, _, _, _, _, _, _, rfl, so, hp, sp⟩
          refine r_gN (by walk_at "s") ?_
          (repeat walk_at "e")
      · by_cases hp4 : p + 1 < 40
        · refine ⟨[some (.k, .lst (cs.map .int)), some (.k, .int 40), some (.k, .tup [.str "plus", .tup [.str "name", .str x], s.d]), some (.k, .int (p + 2)), some (.k, .int k), some (.k, .int n), some (.k, .tup [.str "name", .str x]), some (.k, .int w), a8, a9], ?_, Sm.pl (Sm.nm x) s, p + 2, _, _, _, _, _, _, rfl, ⟨tx, so⟩, ?_, ?_⟩
          · refine r_gN (by walk_at "s") ?_
            (repeat walk_at "e")
          · show p + 2 = ((1 + s.parts + 1 : Nat) : Int); omega
          · show 1 + s.parts + 1 ≤ 40; omega
        · refine ⟨[some (.k, .lst (cs.map .int)), some (.k, .int 40), some (.k, s.d), some (.k, .int p), some (.k, .int k), some (.k, .int n), some (.k, .tup [.str "name", .str x]), some (.k, .int w), a8, a9], ?_, s, p, _, _, _, _, _, _, rfl, so, hp, sp⟩
          refine r_gN (by walk_at "s") ?_
          (repeat walk_at "e")
      · by_cases hp4 : p + 4 < 40
        · have hc : dIx (.lst [.tup [.str "plus", s.d, .tup [.str "plus", .tup [.str "name", .str x], .tup [.str "times", .int (n / 36 % 10), .tup [.str "name", .str x]]]], .tup [.str "plus", .tup [.str "plus", .tup [.str "name", .str x], .tup [.str "times", .int (n / 36 % 10), .tup [.str "name", .str x]]], s.d]]) (.int (w - 4)) = .ok (.tup [.str "plus", s.d, .tup [.str "plus", .tup [.str "name", .str x], .tup [.str "times", .int (n / 36 % 10), .tup [.str "name", .str x]]]]) := by
            rw [show w - 4 = ((0 : Nat) : Int) by omega]; exact ixL 0 rfl
          refine ⟨[some (.k, .lst (cs.map .int)), some (.k, .int 40), some (.k, .tup [.str "plus", s.d, .tup [.str "plus", .tup [.str "name", .str x], .tup [.str "times", .int (n / 36 % 10), .tup [.str "name", .str x]]]]), some (.k, .int (p + 5)), some (.k, .int k), some (.k, .int n), some (.k, .tup [.str "name", .str x]), some (.k, .int w), a8, some (.k, .tup [.str "plus", .tup [.str "name", .str x], .tup [.str "times", .int (n / 36 % 10), .tup [.str "name", .str x]]])], ?_, Sm.pl s (Sm.pl (Sm.nm x) (Sm.tm (n / 36 % 10) (Sm.nm x))), p + 5, _, _, _, _, _, _, rfl, ⟨so, tx, ⟨by omega, by omega⟩, tx⟩, ?_, ?_⟩
          · refine r_gN (by walk_at "s") ?_
            (repeat walk_at "e")
          · show p + 5 = ((s.parts + (1 + (1 + 1) + 1) + 1 : Nat) : Int); omega
          · show s.parts + (1 + (1 + 1) + 1) + 1 ≤ 40; omega
        · refine ⟨[some (.k, .lst (cs.map .int)), some (.k, .int 40), some (.k, s.d), some (.k, .int p), some (.k, .int k), some (.k, .int n), some (.k, .tup [.str "name", .str x]), some (.k, .int w), a8, a9], ?_, s, p, _, _, _, _, _, _, rfl, so, hp, sp⟩
          refine r_gN (by walk_at "s") ?_
          (repeat walk_at "e")
      · by_cases hp4 : p + 4 < 40
        · have hc : dIx (.lst [.tup [.str "plus", s.d, .tup [.str "plus", .tup [.str "name", .str x], .tup [.str "times", .int (n / 36 % 10), .tup [.str "name", .str x]]]], .tup [.str "plus", .tup [.str "plus", .tup [.str "name", .str x], .tup [.str "times", .int (n / 36 % 10), .tup [.str "name", .str x]]], s.d]]) (.int (w - 4)) = .ok (.tup [.str "plus", .tup [.str "plus", .tup [.str "name", .str x], .tup [.str "times", .int (n / 36 % 10), .tup [.str "name", .str x]]], s.d]) := by
            rw [show w - 4 = ((1 : Nat) : Int) by omega]; exact ixL 1 rfl
          refine ⟨[some (.k, .lst (cs.map .int)), some (.k, .int 40), some (.k, .tup [.str "plus", .tup [.str "plus", .tup [.str "name", .str x], .tup [.str "times", .int (n / 36 % 10), .tup [.str "name", .str x]]], s.d]), some (.k, .int (p + 5)), some (.k, .int k), some (.k, .int n), some (.k, .tup [.str "name", .str x]), some (.k, .int w), a8, some (.k, .tup [.str "plus", .tup [.str "name", .str x], .tup [.str "times", .int (n / 36 % 10), .tup [.str "name", .str x]]])], ?_, Sm.pl (Sm.pl (Sm.nm x) (Sm.tm (n / 36 % 10) (Sm.nm x))) s, p + 5, _, _, _, _, _, _, rfl, ⟨⟨tx, ⟨by omega, by omega⟩, tx⟩, so⟩, ?_, ?_⟩
          · refine r_gN (by walk_at "s") ?_
            (repeat walk_at "e")
          · show p + 5 = ((1 + (1 + 1) + 1 + s.parts + 1 : Nat) : Int); omega
          · show 1 + (1 + 1) + 1 + s.parts + 1 ≤ 40; omega
        · refine ⟨[some (.k, .lst (cs.map .int)), some (.k, .int 40), some (.k, s.d), some (.k, .int p), some (.k, .int k), some (.k, .int n), some (.k, .tup [.str "name", .str x]), some (.k, .int w), a8, a9], ?_, s, p, _, _, _, _, _, _, rfl, so, hp, sp⟩
          refine r_gN (by walk_at "s") ?_
          (repeat walk_at "e"))
    [some (.k, .lst (cs.map .int)), some (.k, .int 40), some (.k, .tup [.str "name", .str x0]), some (.k, .int 1), none, none, none, none, none, none] ⟨Sm.nm x0, 1, none, none, none, none, none, none, rfl, tx0, rfl, by show 1 ≤ 40; decide⟩
  have hlen' : eA fLen (aCons (eVar 0) aNil) [some (.k, .lst (cs.map .int)), some (.k, .int 40), some (.k, .tup [.str "name", .str x0]), some (.k, .int 1), none, none, none, none, none, none] = .ok (.int (cs.length : Int)) := by (repeat walk_at "e")
  have hfor := sFor_of (g := gN 4) (its := itR1 (eA fLen (aCons (eVar 0) aNil))) (T := L_law_built_0) (rng_ok cs.length hlen' (by omega)) hL
  refine ⟨s, so, sp, ?_⟩
  rw [u_law_built]
  unfold T_law_built
  (repeat walk_at "e")
def inL (c : Nat) : Bool := !(Builtin.Str.occurrences ("abcdefghijklmnopqrstuvwxyz" : Str) ⟨#[c]⟩ 0 ("abcdefghijklmnopqrstuvwxyz" : Str).length 1).isEmpty
theorem compN (z : Str) (hz : z.length ≤ 1000) : eComp [none] (itS (eVar 0)) (gN 0) cTrue X_is_name_0 [some (.k, .str z)] = .ok (.lst (z.cps.toList.map fun c => D.bl (inL c))) := by
  unfold eComp
  have h := compM_of (f := turnC [none] (gN 0) cTrue X_is_name_0 [some (.k, .str z)]) (h := fun d => match d with | .str x => some (.bl (!(Builtin.Str.occurrences ("abcdefghijklmnopqrstuvwxyz" : Str) x 0 ("abcdefghijklmnopqrstuvwxyz" : Str).length 1).isEmpty)) | _ => none) (xs := signs z) (by
    intro x hx
    obtain ⟨c, _, rfl⟩ := List.mem_map.mp hx
    rfl)
  have e : (signs z).filterMap (fun d => match d with | .str x => some (D.bl (!(Builtin.Str.occurrences ("abcdefghijklmnopqrstuvwxyz" : Str) x 0 ("abcdefghijklmnopqrstuvwxyz" : Str).length 1).isEmpty)) | _ => none) = z.cps.toList.map fun c => D.bl (inL c) := by
    unfold signs
    rw [List.filterMap_map]
    exact List.filterMap_eq_map' (f := fun c => D.bl (inL c)) ▸ rfl
  show (compM _ (signs z) >>= _) = _
  rw [h, e, Out.bind_ok, if_pos (fits_of (by rw [List.length_map, str_len]; exact hz))]
def nmB (z : Str) : Bool := decide (1 ≤ z.length) && decide (z.length ≤ 6) && z.cps.toList.all inL
theorem isn_str (z : Str) (hz : z.length ≤ 1000) : b_is_name [.str z] = .ok (.bl (nmB z)) := by
  rw [u_is_name]
  unfold T_is_name
  have hf := fits_of hz
  unfold nmB
  by_cases h1 : 1 ≤ z.length
  · by_cases h2 : z.length ≤ 6
    · have h1' : (1 : Int) ≤ (z.length : Int) := by omega
      have h2' : (z.length : Int) ≤ 6 := by omega
      simp only [bodyF, retF, sSeq, thenF, sSet, sRet, sIf, sNil, eVar, eC, e1, e2, eA, f1, aNil, aCons, tVal, tAnd', tOr', tNot', eAnd, eOr, eNot, eIf, eTup, eLst, eIsa, isaT, tyName, oNo, oSome, sPar, sUnp, setAll, gN, gT, fLen, fits_small, Out.bind_ok, Out.bind_exc, Out.bind_stuck, Out.pure_eq, D.scal, dAdd_int, dSub_int, dNeg_int, dAbs_int, dLt_int, dLe_int, dGt_int, dGe_int, dEq_int, dNe_int, List.length_cons, List.length_nil, List.map_cons, List.map_nil, List.cons_append, List.nil_append, List.append_nil, List.getElem?_cons_zero, List.getElem?_cons_succ, List.set_cons_zero, List.set_cons_succ, List.replicate, Nat.reduceAdd, Nat.reduceSub, Nat.reduceLeDiff, Nat.zero_add, Nat.add_zero, reduceIte, Bool.not_true, Bool.not_false, Bool.true_and, Bool.and_true, Bool.false_and, Bool.and_false, Bool.or_true, Bool.true_or, Bool.or_false, Bool.false_or, Bool.false_eq_true, decide_true, decide_false, decide_eq_true_eq, Bool.not_eq_true', decide_eq_false_iff_not, Int.reduceEq, Int.reduceLT, Int.reduceLE, Int.reduceNeg, Nat.reduceEqDiff, ↓reduceIte, not_true_eq_false, not_false_eq_true, eChain, compN z hz, fAll_map, hf, h1, h2, h1', h2', beq_self_eq_true]
    · have h1' : (1 : Int) ≤ (z.length : Int) := by omega
      have h2' : ¬ (z.length : Int) ≤ 6 := by omega
      simp only [bodyF, retF, sSeq, thenF, sSet, sRet, sIf, sNil, eVar, eC, e1, e2, eA, f1, aNil, aCons, tVal, tAnd', tOr', tNot', eAnd, eOr, eNot, eIf, eTup, eLst, eIsa, isaT, tyName, oNo, oSome, sPar, sUnp, setAll, gN, gT, fLen, fits_small, Out.bind_ok, Out.bind_exc, Out.bind_stuck, Out.pure_eq, D.scal, dAdd_int, dSub_int, dNeg_int, dAbs_int, dLt_int, dLe_int, dGt_int, dGe_int, dEq_int, dNe_int, List.length_cons, List.length_nil, List.map_cons, List.map_nil, List.cons_append, List.nil_append, List.append_nil, List.getElem?_cons_zero, List.getElem?_cons_succ, List.set_cons_zero, List.set_cons_succ, List.replicate, Nat.reduceAdd, Nat.reduceSub, Nat.reduceLeDiff, Nat.zero_add, Nat.add_zero, reduceIte, Bool.not_true, Bool.not_false, Bool.true_and, Bool.and_true, Bool.false_and, Bool.and_false, Bool.or_true, Bool.true_or, Bool.or_false, Bool.false_or, Bool.false_eq_true, decide_true, decide_false, decide_eq_true_eq, Bool.not_eq_true', decide_eq_false_iff_not, Int.reduceEq, Int.reduceLT, Int.reduceLE, Int.reduceNeg, Nat.reduceEqDiff, ↓reduceIte, not_true_eq_false, not_false_eq_true, eChain, compN z hz, fAll_map, hf, h1, h2, h1', h2', beq_self_eq_true]
  · have h1' : ¬ (1 : Int) ≤ (z.length : Int) := by omega
    simp only [bodyF, retF, sSeq, thenF, sSet, sRet, sIf, sNil, eVar, eC, e1, e2, eA, f1, aNil, aCons, tVal, tAnd', tOr', tNot', eAnd, eOr, eNot, eIf, eTup, eLst, eIsa, isaT, tyName, oNo, oSome, sPar, sUnp, setAll, gN, gT, fLen, fits_small, Out.bind_ok, Out.bind_exc, Out.bind_stuck, Out.pure_eq, D.scal, dAdd_int, dSub_int, dNeg_int, dAbs_int, dLt_int, dLe_int, dGt_int, dGe_int, dEq_int, dNe_int, List.length_cons, List.length_nil, List.map_cons, List.map_nil, List.cons_append, List.nil_append, List.append_nil, List.getElem?_cons_zero, List.getElem?_cons_succ, List.set_cons_zero, List.set_cons_succ, List.replicate, Nat.reduceAdd, Nat.reduceSub, Nat.reduceLeDiff, Nat.zero_add, Nat.add_zero, reduceIte, Bool.not_true, Bool.not_false, Bool.true_and, Bool.and_true, Bool.false_and, Bool.and_false, Bool.or_true, Bool.true_or, Bool.or_false, Bool.false_or, Bool.false_eq_true, decide_true, decide_false, decide_eq_true_eq, Bool.not_eq_true', decide_eq_false_iff_not, Int.reduceEq, Int.reduceLT, Int.reduceLE, Int.reduceNeg, Nat.reduceEqDiff, ↓reduceIte, not_true_eq_false, not_false_eq_true, eChain, compN z hz, fAll_map, hf, h1, h1', beq_self_eq_true]
theorem abc_in : ∀ c ∈ abc.cps.toList, inL c = true := by decide +kernel
theorem isn_ok {x : Str} (h : Nm x) : b_is_name [.str x] = .ok (.bl true) := by
  have hl := h.tx.len
  have hn := h.ne
  rw [isn_str x (by omega)]
  congr 2
  unfold nmB
  rw [decide_eq_true hn, decide_eq_true hl, List.all_eq_true.mpr fun c hc => abc_in c (h.ls c hc)]
  rfl
def bads : List D := [.non, .int 0, .bl true, .str "a", .str "name", .tup [], .lst [], .dic [], .tup [.str "name"], .tup [.str "name", .str ""], .tup [.str "name", .str "A"], .tup [.str "name", .str "abcdefg"], .tup [.str "name", .str "a", .str "b"], .lst [.str "name", .str "a"], .tup [.str "name", .int 5], .tup [.str "times", .int 10, .tup [.str "name", .str "a"]], .tup [.str "times", .int (-1), .tup [.str "name", .str "a"]], .tup [.str "times", .bl true, .tup [.str "name", .str "a"]], .tup [.str "plus", .tup [.str "name", .str "a"]], .tup [.str "share", .tup [.str "name", .str "a"], .int 1, .int 1], .tup [.str "share", .tup [.str "name", .str "a"], .int (-1), .int 3], .tup [.str "share", .tup [.str "name", .str "a"], .int 0, .int 0], .tup [.str "share", .tup [.str "name", .str "a"], .int 0, .int 13], .tup [.str "less", .tup [.str "name", .str "a"], .tup [.str "name", .str "a"]], .tup [.str "plus", .tup [.str "name", .str "a"], .tup [.str "name", .str "a"], .tup [.str "name", .str "a"]], .tup [.str "times", .int 2, .tup [.str "name", .str "a"], .tup [.str "name", .str "a"]], .tup [.str "share", .tup [.str "name", .str "a"], .int 0, .int 2, .int 5], .tup [.int 5, .tup [.str "name", .str "a"]], .tup [.lst [], .tup [.str "name", .str "a"]], .tup [.dic [], .tup [.str "name", .str "a"]], .tup [.tup [.str "name"], .tup [.str "name", .str "a"]], .tup [.str "share", .tup [.str "name", .str "a"], .bl true, .int 3], .tup [.str "share", .tup [.str "name", .str "a"], .int 0, .bl true]]
theorem bd0 : b_has_form [.non] = .ok (.bl false) := by with_unfolding_all rfl
theorem bd1 : b_has_form [.int 0] = .ok (.bl false) := by with_unfolding_all rfl
theorem bd2 : b_has_form [.bl true] = .ok (.bl false) := by with_unfolding_all rfl
theorem bd3 : b_has_form [.str "a"] = .ok (.bl false) := by with_unfolding_all rfl
theorem bd4 : b_has_form [.str "name"] = .ok (.bl false) := by with_unfolding_all rfl
theorem bd5 : b_has_form [.tup []] = .ok (.bl false) := by with_unfolding_all rfl
theorem bd6 : b_has_form [.lst []] = .ok (.bl false) := by with_unfolding_all rfl
theorem bd7 : b_has_form [.dic []] = .ok (.bl false) := by with_unfolding_all rfl
theorem bd8 : b_has_form [.tup [.str "name"]] = .ok (.bl false) := by with_unfolding_all rfl
theorem bd9 : b_has_form [.tup [.str "name", .str ""]] = .ok (.bl false) := by with_unfolding_all rfl
theorem bd10 : b_has_form [.tup [.str "name", .str "A"]] = .ok (.bl false) := by with_unfolding_all rfl
theorem bd11 : b_has_form [.tup [.str "name", .str "abcdefg"]] = .ok (.bl false) := by with_unfolding_all rfl
theorem bd12 : b_has_form [.tup [.str "name", .str "a", .str "b"]] = .ok (.bl false) := by with_unfolding_all rfl
theorem bd13 : b_has_form [.lst [.str "name", .str "a"]] = .ok (.bl false) := by with_unfolding_all rfl
theorem bd14 : b_has_form [.tup [.str "name", .int 5]] = .ok (.bl false) := by with_unfolding_all rfl
theorem bd15 : b_has_form [.tup [.str "times", .int 10, .tup [.str "name", .str "a"]]] = .ok (.bl false) := by with_unfolding_all rfl
theorem bd16 : b_has_form [.tup [.str "times", .int (-1), .tup [.str "name", .str "a"]]] = .ok (.bl false) := by with_unfolding_all rfl
theorem bd17 : b_has_form [.tup [.str "times", .bl true, .tup [.str "name", .str "a"]]] = .ok (.bl false) := by with_unfolding_all rfl
theorem bd18 : b_has_form [.tup [.str "plus", .tup [.str "name", .str "a"]]] = .ok (.bl false) := by with_unfolding_all rfl
theorem bd19 : b_has_form [.tup [.str "share", .tup [.str "name", .str "a"], .int 1, .int 1]] = .ok (.bl false) := by with_unfolding_all rfl
theorem bd20 : b_has_form [.tup [.str "share", .tup [.str "name", .str "a"], .int (-1), .int 3]] = .ok (.bl false) := by with_unfolding_all rfl
theorem bd21 : b_has_form [.tup [.str "share", .tup [.str "name", .str "a"], .int 0, .int 0]] = .ok (.bl false) := by with_unfolding_all rfl
theorem bd22 : b_has_form [.tup [.str "share", .tup [.str "name", .str "a"], .int 0, .int 13]] = .ok (.bl false) := by with_unfolding_all rfl
theorem bd23 : b_has_form [.tup [.str "less", .tup [.str "name", .str "a"], .tup [.str "name", .str "a"]]] = .ok (.bl false) := by with_unfolding_all rfl
theorem bd24 : b_has_form [.tup [.str "plus", .tup [.str "name", .str "a"], .tup [.str "name", .str "a"], .tup [.str "name", .str "a"]]] = .ok (.bl false) := by with_unfolding_all rfl
theorem bd25 : b_has_form [.tup [.str "times", .int 2, .tup [.str "name", .str "a"], .tup [.str "name", .str "a"]]] = .ok (.bl false) := by with_unfolding_all rfl
theorem bd26 : b_has_form [.tup [.str "share", .tup [.str "name", .str "a"], .int 0, .int 2, .int 5]] = .ok (.bl false) := by with_unfolding_all rfl
theorem bd27 : b_has_form [.tup [.int 5, .tup [.str "name", .str "a"]]] = .ok (.bl false) := by with_unfolding_all rfl
theorem bd28 : b_has_form [.tup [.lst [], .tup [.str "name", .str "a"]]] = .ok (.bl false) := by with_unfolding_all rfl
theorem bd29 : b_has_form [.tup [.dic [], .tup [.str "name", .str "a"]]] = .ok (.bl false) := by with_unfolding_all rfl
theorem bd30 : b_has_form [.tup [.tup [.str "name"], .tup [.str "name", .str "a"]]] = .ok (.bl false) := by with_unfolding_all rfl
theorem bd31 : b_has_form [.tup [.str "share", .tup [.str "name", .str "a"], .bl true, .int 3]] = .ok (.bl false) := by with_unfolding_all rfl
theorem bd32 : b_has_form [.tup [.str "share", .tup [.str "name", .str "a"], .int 0, .bl true]] = .ok (.bl false) := by with_unfolding_all rfl
theorem bads_ok : ∀ d ∈ bads, b_has_form [d] = .ok (.bl false) := by
  intro d hd
  unfold bads at hd
  simp only [List.mem_cons, List.not_mem_nil, or_false] at hd
  rcases hd with rfl | rfl | rfl | rfl | rfl | rfl | rfl | rfl | rfl | rfl | rfl | rfl | rfl | rfl | rfl | rfl | rfl | rfl | rfl | rfl | rfl | rfl | rfl | rfl | rfl | rfl | rfl | rfl | rfl | rfl | rfl | rfl | rfl
  · exact bd0
  · exact bd1
  · exact bd2
  · exact bd3
  · exact bd4
  · exact bd5
  · exact bd6
  · exact bd7
  · exact bd8
  · exact bd9
  · exact bd10
  · exact bd11
  · exact bd12
  · exact bd13
  · exact bd14
  · exact bd15
  · exact bd16
  · exact bd17
  · exact bd18
  · exact bd19
  · exact bd20
  · exact bd21
  · exact bd22
  · exact bd23
  · exact bd24
  · exact bd25
  · exact bd26
  · exact bd27
  · exact bd28
  · exact bd29
  · exact bd30
  · exact bd31
  · exact bd32
theorem within_int {i a b : Int} : b_is_within [.int i, .int a, .int b] = .ok (.bl (decide (a ≤ i) && decide (i ≤ b))) := by
  have hw : b_is_whole [.int i] = .ok (.bl true) := by rw [u_is_whole]; rfl
  rw [u_is_within]
  unfold T_is_within
  by_cases h : a ≤ i
  · simp only [bodyF, retF, sSeq, thenF, sSet, sRet, sIf, sNil, eVar, eC, e1, e2, eA, f1, aNil, aCons, tVal, tAnd', tOr', tNot', eAnd, eOr, eNot, eIf, eTup, eLst, eIsa, isaT, tyName, oNo, oSome, sPar, sUnp, setAll, gN, gT, fLen, fits_small, Out.bind_ok, Out.bind_exc, Out.bind_stuck, Out.pure_eq, D.scal, dAdd_int, dSub_int, dNeg_int, dAbs_int, dLt_int, dLe_int, dGt_int, dGe_int, dEq_int, dNe_int, List.length_cons, List.length_nil, List.map_cons, List.map_nil, List.cons_append, List.nil_append, List.append_nil, List.getElem?_cons_zero, List.getElem?_cons_succ, List.set_cons_zero, List.set_cons_succ, List.replicate, Nat.reduceAdd, Nat.reduceSub, Nat.reduceLeDiff, Nat.zero_add, Nat.add_zero, reduceIte, Bool.not_true, Bool.not_false, Bool.true_and, Bool.and_true, Bool.false_and, Bool.and_false, Bool.or_true, Bool.true_or, Bool.or_false, Bool.false_or, Bool.false_eq_true, decide_true, decide_false, decide_eq_true_eq, Bool.not_eq_true', decide_eq_false_iff_not, Int.reduceEq, Int.reduceLT, Int.reduceLE, Int.reduceNeg, Nat.reduceEqDiff, ↓reduceIte, not_true_eq_false, not_false_eq_true, hw, eChain, h]
  · simp only [bodyF, retF, sSeq, thenF, sSet, sRet, sIf, sNil, eVar, eC, e1, e2, eA, f1, aNil, aCons, tVal, tAnd', tOr', tNot', eAnd, eOr, eNot, eIf, eTup, eLst, eIsa, isaT, tyName, oNo, oSome, sPar, sUnp, setAll, gN, gT, fLen, fits_small, Out.bind_ok, Out.bind_exc, Out.bind_stuck, Out.pure_eq, D.scal, dAdd_int, dSub_int, dNeg_int, dAbs_int, dLt_int, dLe_int, dGt_int, dGe_int, dEq_int, dNe_int, List.length_cons, List.length_nil, List.map_cons, List.map_nil, List.cons_append, List.nil_append, List.append_nil, List.getElem?_cons_zero, List.getElem?_cons_succ, List.set_cons_zero, List.set_cons_succ, List.replicate, Nat.reduceAdd, Nat.reduceSub, Nat.reduceLeDiff, Nat.zero_add, Nat.add_zero, reduceIte, Bool.not_true, Bool.not_false, Bool.true_and, Bool.and_true, Bool.false_and, Bool.and_false, Bool.or_true, Bool.true_or, Bool.or_false, Bool.false_or, Bool.false_eq_true, decide_true, decide_false, decide_eq_true_eq, Bool.not_eq_true', decide_eq_false_iff_not, Int.reduceEq, Int.reduceLT, Int.reduceLE, Int.reduceNeg, Nat.reduceEqDiff, ↓reduceIte, not_true_eq_false, not_false_eq_true, hw, eChain, h]
inductive Tr where
  | bad (d : D)
  | nm (x : Str)
  | tm (k : Int) (s : Tr)
  | pl (s t : Tr)
  | sh (s : Tr) (c d : Int)
def Tr.d : Tr → D
  | .bad d => d
  | .nm x => .tup [.str "name", .str x]
  | .tm k s => .tup [.str "times", .int k, s.d]
  | .pl s t => .tup [.str "plus", s.d, t.d]
  | .sh s c d => .tup [.str "share", s.d, .int c, .int d]
def Tr.ok : Tr → Prop
  | .bad d => b_has_form [d] = .ok (.bl false)
  | .nm x => Nm x
  | .tm k s => (0 ≤ k ∧ k ≤ 9) ∧ s.ok
  | .pl s t => s.ok ∧ t.ok
  | .sh s c d => (0 ≤ c ∧ c < d) ∧ d ≤ 12 ∧ s.ok
def Tr.parts : Tr → Nat
  | .bad _ => 1
  | .nm _ => 1
  | .tm _ s => s.parts + 1
  | .pl s t => s.parts + t.parts + 1
  | .sh s _ _ => s.parts + 1
def Tr.good : Tr → Bool
  | .bad _ => false
  | .nm _ => true
  | .tm _ s => s.good
  | .pl s t => s.good && t.good
  | .sh s _ _ => s.good
def Tr.top : Tr → Bool
  | .bad _ => false
  | _ => true
def Tr.kids : Tr → List Tr
  | .tm _ s => [s]
  | .pl s t => [s, t]
  | .sh s _ _ => [s]
  | _ => []
def sz : List Tr → Nat
  | [] => 0
  | t :: r => t.parts + sz r
theorem sz_app : ∀ a b : List Tr, sz (a ++ b) = sz a + sz b
  | [], b => by show sz b = 0 + sz b; omega
  | t :: r, b => by
    have := sz_app r b
    show t.parts + sz (r ++ b) = t.parts + sz r + sz b
    omega
theorem parts_pos : ∀ t : Tr, 1 ≤ t.parts
  | .bad _ => Nat.le_refl _
  | .nm _ => Nat.le_refl _
  | .tm _ s => Nat.le_add_left 1 s.parts
  | .pl s t => Nat.le_add_left 1 _
  | .sh s _ _ => Nat.le_add_left 1 s.parts
theorem len_sz : ∀ a : List Tr, a.length ≤ sz a
  | [] => Nat.le_refl _
  | t :: r => by
    have := len_sz r
    have := parts_pos t
    show r.length + 1 ≤ t.parts + sz r
    omega
theorem kids_sz (t : Tr) : sz t.kids + 1 = t.parts := by
  cases t with
  | bad d => rfl
  | nm x => rfl
  | tm k s => rfl
  | pl s t => show s.parts + (t.parts + 0) + 1 = s.parts + t.parts + 1; omega
  | sh s c d => rfl
theorem kids_ok {t : Tr} (h : t.ok) : ∀ u ∈ t.kids, u.ok := by
  intro u hu
  cases t with
  | bad d => cases hu
  | nm x => cases hu
  | tm k s => rw [List.mem_singleton.mp hu]; exact h.2
  | pl s t =>
    have hu : u ∈ [s, t] := hu
    simp only [List.mem_cons, List.not_mem_nil, or_false] at hu
    rcases hu with rfl | rfl
    · exact h.1
    · exact h.2
  | sh s c d => rw [List.mem_singleton.mp hu]; exact h.2.2
theorem kids_good {t : Tr} (h : t.good = true) : ∀ u ∈ t.kids, u.good = true := by
  intro u hu
  cases t with
  | bad d => cases hu
  | nm x => cases hu
  | tm k s => rw [List.mem_singleton.mp hu]; exact h
  | pl s t =>
    have h : (s.good && t.good) = true := h
    rw [Bool.and_eq_true] at h
    have hu : u ∈ [s, t] := hu
    simp only [List.mem_cons, List.not_mem_nil, or_false] at hu
    rcases hu with rfl | rfl
    · exact h.1
    · exact h.2
  | sh s c d => rw [List.mem_singleton.mp hu]; exact h
theorem kids_bad {t : Tr} (h : t.good = false) (ht : t.top = true) : ∃ u ∈ t.kids, u.good = false := by
  cases t with
  | bad d => cases ht
  | nm x => cases h
  | tm k s => exact ⟨s, List.mem_singleton.mpr rfl, h⟩
  | pl s t =>
    have h : (s.good && t.good) = false := h
    rw [Bool.and_eq_false_iff] at h
    rcases h with h | h
    · exact ⟨s, List.mem_cons_self, h⟩
    · exact ⟨t, List.mem_cons_of_mem _ (List.mem_singleton.mpr rfl), h⟩
  | sh s c d => exact ⟨s, List.mem_singleton.mpr rfl, h⟩
theorem form_ok {t : Tr} (h : t.ok) : b_has_form [t.d] = .ok (.bl t.top) := by
  cases t with
  | bad d => exact h
  | nm x =>
    show b_has_form [.tup [.str "name", .str x]] = .ok (.bl true)
    have e0 : dIx (.tup [.str "name", .str x]) (.int 0) = .ok (.str "name") := ix_tup0 _ _
    have e1' : dIx (.tup [.str "name", .str x]) (.int 1) = .ok (.str x) := ix_tup1 _ _ _
    have q1 : dEq (.str "name") (.str "name") = .ok (.bl true) := streq
    have hn := isn_ok h
    have hi : isaT "tuple" (.tup [.str "name", .str x]) = .ok true := by simp [isaT, tyName]
    have hj : isaT "str" (.str "name") = .ok true := by simp [isaT, tyName]
    have hl : fLen [.tup [.str "name", .str x]] = .ok (.int 2) := rfl
    rw [u_has_form]
    unfold T_has_form
    (repeat walk_at "e")
  | tm k s =>
    show b_has_form [.tup [.str "times", .int k, s.d]] = .ok (.bl true)
    have e0 : dIx (.tup [.str "times", .int k, s.d]) (.int 0) = .ok (.str "times") := ix_tup0 _ _
    have e1' : dIx (.tup [.str "times", .int k, s.d]) (.int 1) = .ok (.int k) := ix_tup1 _ _ _
    have q1 : dEq (.str "times") (.str "name") = .ok (.bl false) := streq
    have q2 : dEq (.str "times") (.str "times") = .ok (.bl true) := streq
    have hw := within_int (i := k) (a := 0) (b := 9)
    rw [decide_eq_true h.1.1, decide_eq_true h.1.2] at hw
    rw [u_has_form]
    unfold T_has_form
    have hw : b_is_within [.int k, .int 0, .int 9] = .ok (.bl true) := hw
    have hi : isaT "tuple" (.tup [.str "times", .int k, s.d]) = .ok true := by simp [isaT, tyName]
    have hj : isaT "str" (.str "times") = .ok true := by simp [isaT, tyName]
    have hl : fLen [.tup [.str "times", .int k, s.d]] = .ok (.int 3) := rfl
    (repeat walk_at "e")
  | pl s t =>
    show b_has_form [.tup [.str "plus", s.d, t.d]] = .ok (.bl true)
    have e0 : dIx (.tup [.str "plus", s.d, t.d]) (.int 0) = .ok (.str "plus") := ix_tup0 _ _
    have q1 : dEq (.str "plus") (.str "name") = .ok (.bl false) := streq
    have q2 : dEq (.str "plus") (.str "times") = .ok (.bl false) := streq
    have q3 : dEq (.str "plus") (.str "plus") = .ok (.bl true) := streq
    rw [u_has_form]
    unfold T_has_form
    have hi : isaT "tuple" (.tup [.str "plus", s.d, t.d]) = .ok true := by simp [isaT, tyName]
    have hj : isaT "str" (.str "plus") = .ok true := by simp [isaT, tyName]
    have hl : fLen [.tup [.str "plus", s.d, t.d]] = .ok (.int 3) := rfl
    have he : dEq (.int 3) (.int 3) = .ok (.bl true) := by rw [dEq_int]; rfl
    (repeat walk_at "e")
  | sh s c d =>
    show b_has_form [.tup [.str "share", s.d, .int c, .int d]] = .ok (.bl true)
    have e0 : dIx (.tup [.str "share", s.d, .int c, .int d]) (.int 0) = .ok (.str "share") := ix_tup0 _ _
    have e2' : dIx (.tup [.str "share", s.d, .int c, .int d]) (.int 2) = .ok (.int c) := ix_tup2 _ _ _ _
    have e3' : dIx (.tup [.str "share", s.d, .int c, .int d]) (.int 3) = .ok (.int d) := ixT 3 rfl
    have q1 : dEq (.str "share") (.str "name") = .ok (.bl false) := streq
    have q2 : dEq (.str "share") (.str "times") = .ok (.bl false) := streq
    have q3 : dEq (.str "share") (.str "plus") = .ok (.bl false) := streq
    have q4 : dEq (.str "share") (.str "share") = .ok (.bl true) := streq
    have hw := within_int (i := d) (a := 1) (b := 12)
    rw [decide_eq_true (show 1 ≤ d by have := h.1.1; have := h.1.2; omega), decide_eq_true h.2.1] at hw
    have hw' := within_int (i := c) (a := 0) (b := d - 1)
    rw [decide_eq_true h.1.1, decide_eq_true (show c ≤ d - 1 by have := h.1.2; omega)] at hw'
    rw [u_has_form]
    unfold T_has_form
    have hw : b_is_within [.int d, .int 1, .int 12] = .ok (.bl true) := hw
    have hw' : b_is_within [.int c, .int 0, .int (d - 1)] = .ok (.bl true) := hw'
    have hi : isaT "tuple" (.tup [.str "share", s.d, .int c, .int d]) = .ok true := by simp [isaT, tyName]
    have hj : isaT "str" (.str "share") = .ok true := by simp [isaT, tyName]
    have hl : fLen [.tup [.str "share", s.d, .int c, .int d]] = .ok (.int 4) := rfl
    (repeat walk_at "e")
theorem kids_told {t : Tr} (h : t.top = true) : b_sums_in [t.d] = .ok (.lst (t.kids.map Tr.d)) := by
  cases t with
  | bad d => cases h
  | nm x =>
    show b_sums_in [.tup [.str "name", .str x]] = .ok (.lst [])
    have e0 : dIx (.tup [.str "name", .str x]) (.int 0) = .ok (.str "name") := ix_tup0 _ _
    have q1 : dEq (.str "name") (.str "times") = .ok (.bl false) := streq
    have q2 : dEq (.str "name") (.str "plus") = .ok (.bl false) := streq
    have q3 : dEq (.str "name") (.str "share") = .ok (.bl false) := streq
    rw [u_sums_in]
    unfold T_sums_in
    (repeat walk_at "e")
  | tm k s =>
    show b_sums_in [.tup [.str "times", .int k, s.d]] = .ok (.lst [s.d])
    have e0 : dIx (.tup [.str "times", .int k, s.d]) (.int 0) = .ok (.str "times") := ix_tup0 _ _
    have e2' : dIx (.tup [.str "times", .int k, s.d]) (.int 2) = .ok s.d := ix_tup2 _ _ _ _
    have q1 : dEq (.str "times") (.str "times") = .ok (.bl true) := streq
    rw [u_sums_in]
    unfold T_sums_in
    (repeat walk_at "e")
  | pl s t =>
    show b_sums_in [.tup [.str "plus", s.d, t.d]] = .ok (.lst [s.d, t.d])
    have e0 : dIx (.tup [.str "plus", s.d, t.d]) (.int 0) = .ok (.str "plus") := ix_tup0 _ _
    have e1' : dIx (.tup [.str "plus", s.d, t.d]) (.int 1) = .ok s.d := ix_tup1 _ _ _
    have e2' : dIx (.tup [.str "plus", s.d, t.d]) (.int 2) = .ok t.d := ix_tup2 _ _ _ _
    have q1 : dEq (.str "plus") (.str "times") = .ok (.bl false) := streq
    have q2 : dEq (.str "plus") (.str "plus") = .ok (.bl true) := streq
    rw [u_sums_in]
    unfold T_sums_in
    (repeat walk_at "e")
  | sh s c d =>
    show b_sums_in [.tup [.str "share", s.d, .int c, .int d]] = .ok (.lst [s.d])
    have e0 : dIx (.tup [.str "share", s.d, .int c, .int d]) (.int 0) = .ok (.str "share") := ix_tup0 _ _
    have e1' : dIx (.tup [.str "share", s.d, .int c, .int d]) (.int 1) = .ok s.d := ix_tup1 _ _ _
    have q1 : dEq (.str "share") (.str "times") = .ok (.bl false) := streq
    have q2 : dEq (.str "share") (.str "plus") = .ok (.bl false) := streq
    have q3 : dEq (.str "share") (.str "share") = .ok (.bl true) := streq
    rw [u_sums_in]
    unfold T_sums_in
    (repeat walk_at "e")
abbrev stP (z : D) (a b : List Tr) : SD := [some (.k, z), some (.o, .lst ((a ++ b).map Tr.d)), some (.k, .int (a.length : Int))]
theorem q_parts (z : D) (a b : List Tr) : Q_parts_of_0 (stP z a b) = .ok (decide (0 < b.length)) := by
  have hl : fLen [.lst ((a ++ b).map Tr.d)] = .ok (.int ((a.length + b.length : Nat) : Int)) := by simp [fLen]
  unfold Q_parts_of_0
  have : decide ((a.length : Int) < ((a.length + b.length : Nat) : Int)) = decide (0 < b.length) := by
    by_cases h : 0 < b.length
    · rw [decide_eq_true h, decide_eq_true (by omega)]
    · rw [decide_eq_false h, decide_eq_false (by omega)]
  rw [← this]
  (repeat walk_at "e")
theorem q_nil (z : D) (a : List Tr) : Q_parts_of_0 (stP z a []) = .ok false := q_parts z a []
theorem q_cons (z : D) (a : List Tr) (t : Tr) (r : List Tr) : Q_parts_of_0 (stP z a (t :: r)) = .ok true := by
  rw [q_parts]; exact congrArg Out.ok (decide_eq_true (by simp))
theorem at_head (a : List Tr) (t : Tr) (r : List Tr) : atI ((a ++ t :: r).map Tr.d) (a.length : Int) = some t.d := by
  refine atI_nat ?_
  rw [List.getElem?_map, List.getElem?_append_right (Nat.le_refl _), Nat.sub_self]
  rfl
theorem l_none (z : D) (a : List Tr) (t : Tr) (r : List Tr) (ht : t.ok) (h : 40 < a.length + (r.length + 1) ∨ t.top = false) : L_parts_of_0 (stP z a (t :: r)) = .ok (.rt false .non) := by
  have hl : fLen [.lst ((a ++ t :: r).map Tr.d)] = .ok (.int ((a.length + (r.length + 1) : Nat) : Int)) := by simp [fLen]
  have hf := form_ok ht
  have ha := at_head a t r
  unfold L_parts_of_0
  by_cases h40 : (40 : Int) < ((a.length + (r.length + 1) : Nat) : Int)
  · (repeat walk_at "e")
  · have ht' : t.top = false := by
      rcases h with h | h
      · omega
      · exact h
    rw [ht'] at hf
    have hx : eIxO 1 (eVar 2) (stP z a (t :: r)) = .ok t.d := r_ixO rfl rfl ha
    (repeat (first | with_reducible exact hx | walk_at "e"))
theorem l_next (z : D) (a : List Tr) (t : Tr) (r : List Tr) (ht : t.ok) (h1 : a.length + (r.length + 1) ≤ 40) (h2 : t.top = true) : L_parts_of_0 (stP z a (t :: r)) = .ok (.nx (stP z (a ++ [t]) (r ++ t.kids))) := by
  have hl : fLen [.lst ((a ++ t :: r).map Tr.d)] = .ok (.int ((a.length + (r.length + 1) : Nat) : Int)) := by simp [fLen]
  have hf := form_ok ht
  rw [h2] at hf
  have ha := at_head a t r
  have hk := kids_told h2
  have h40 : ¬ (40 : Int) < ((a.length + (r.length + 1) : Nat) : Int) := by omega
  have hx : eIxO 1 (eVar 2) (stP z a (t :: r)) = .ok t.d := r_ixO rfl rfl ha
  have hs : t.kids.length ≤ 2 := by cases t <;> simp [Tr.kids]
  have hn : (fun ς => nonScal ((eA (fun xs => b_sums_in (xs ++ [])) (aCons (eIxO 1 (eVar 2)) aNil)) ς)) (stP z a (t :: r)) = .ok (.lst (t.kids.map Tr.d)) := by
    refine r_nonScal ?_ rfl
    (repeat (first | with_reducible exact hx | walk_at "e"))
  have hE : sExtend 1 (fun ς => nonScal ((eA (fun xs => b_sums_in (xs ++ [])) (aCons (eIxO 1 (eVar 2)) aNil)) ς)) (stP z a (t :: r)) = .ok (.nx [some (.k, z), some (.o, .lst (((a ++ [t]) ++ (r ++ t.kids)).map Tr.d)), some (.k, .int (a.length : Int))]) := by
    show ((fun ς => nonScal ((eA (fun xs => b_sums_in (xs ++ [])) (aCons (eIxO 1 (eVar 2)) aNil)) ς)) (stP z a (t :: r)) >>= _) = _
    rw [hn, Out.bind_ok]
    show (if decide (((a ++ t :: r).map Tr.d).length + (t.kids.map Tr.d).length ≤ sizeLine) = true then Out.ok (Fl.nx _) else .stuck) = _
    have hz : (1000 : Nat) ≤ sizeLine := by decide
    rw [if_pos (decide_eq_true (by rw [List.length_map, List.length_map, List.length_append, List.length_cons]; omega))]
    have e : (a ++ t :: r).map Tr.d ++ t.kids.map Tr.d = ((a ++ [t]) ++ (r ++ t.kids)).map Tr.d := by simp
    rw [e]
    rfl
  have hlen : ((a.length : Int) + 1) = ((a ++ [t]).length : Int) := by simp
  unfold L_parts_of_0
  have hS : sSet 2 (e2 dAdd (eVar 2) (eC (.int 1))) [some (.k, z), some (.o, .lst (((a ++ [t]) ++ (r ++ t.kids)).map Tr.d)), some (.k, .int (a.length : Int))] = .ok (.nx (stP z (a ++ [t]) (r ++ t.kids))) := by
    show Out.ok (Fl.nx [some (.k, z), some (.o, .lst (((a ++ [t]) ++ (r ++ t.kids)).map Tr.d)), some (.k, .int ((a.length : Int) + 1))]) = _
    rw [hlen]
  refine r_seq (fl := .nx (stP z a (t :: r))) ?_ (r_then (r_seq hE (r_then hS)))
  (repeat (first | with_reducible exact hx | walk_at "e"))
theorem whileS {c : SD → Out Bool} {b : SD → Out Fl} {n : Nat} {ς ς' : SD} {r : Out Fl} (hc : c ς = .ok true) (hb : b ς = .ok (.nx ς')) (h : whileN c b n ς' = r) : whileN c b (n + 1) ς = r := by
  rw [whileN, hc, Out.bind_ok, if_pos rfl, hb, Out.bind_ok]; exact h
theorem whileR {c : SD → Out Bool} {b : SD → Out Fl} {n : Nat} {ς : SD} {z : Bool} {d : D} (hc : c ς = .ok true) (hb : b ς = .ok (.rt z d)) : whileN c b (n + 1) ς = .ok (.rt z d) := by
  rw [whileN, hc, Out.bind_ok, if_pos rfl, hb, Out.bind_ok]
theorem whileE {c : SD → Out Bool} {b : SD → Out Fl} {n : Nat} {ς : SD} (hc : c ς = .ok false) : whileN c b (n + 1) ς = .ok (.nx ς) := by
  rw [whileN, hc, Out.bind_ok, if_neg Bool.false_ne_true]
theorem run_good (z : D) : ∀ (m : Nat) (a b : List Tr), sz b = m → (∀ t ∈ b, t.ok) → (∀ t ∈ b, t.good = true) → a.length + m ≤ 40 → ∃ c : List Tr, whileN Q_parts_of_0 L_parts_of_0 (m + 1) (stP z a b) = .ok (.nx (stP z c []))
  | m, a, [], hm, ho, hg, hl => ⟨a, whileE (q_nil z a)⟩
  | 0, a, t :: r, hm, ho, hg, hl => by
    have := parts_pos t
    have hm : t.parts + sz r = 0 := hm
    omega
  | m + 1, a, t :: r, hm, ho, hg, hl => by
    have hm : t.parts + sz r = m + 1 := hm
    have hk := kids_sz t
    have hr := len_sz r
    have ht := ho t List.mem_cons_self
    have htg := hg t List.mem_cons_self
    have htop : t.top = true := by cases t <;> first | rfl | cases htg
    obtain ⟨c, hc⟩ := run_good z m (a ++ [t]) (r ++ t.kids) (by rw [sz_app]; omega)
      (fun u hu => by
        rcases List.mem_append.mp hu with h | h
        · exact ho u (List.mem_cons_of_mem _ h)
        · exact kids_ok ht u h)
      (fun u hu => by
        rcases List.mem_append.mp hu with h | h
        · exact hg u (List.mem_cons_of_mem _ h)
        · exact kids_good htg u h)
      (by rw [List.length_append]; show a.length + 1 + m ≤ 40; omega)
    have := parts_pos t
    exact ⟨c, whileS (q_cons z a t r) (l_next z a t r ht (by omega) htop) hc⟩
theorem run_bad (z : D) : ∀ (j : Nat) (a b : List Tr), a.length + j = 41 → 1 ≤ j → (∀ t ∈ b, t.ok) → ((∃ t ∈ b, t.good = false) ∨ 40 < a.length + sz b) → whileN Q_parts_of_0 L_parts_of_0 j (stP z a b) = .ok (.rt false .non)
  | j, a, [], hj, h1, ho, hb => by
    rcases hb with ⟨t, ht, _⟩ | hb
    · cases ht
    · have hb : 40 < a.length + 0 := hb
      omega
  | 0, a, t :: r, hj, h1, ho, hb => absurd h1 (by decide)
  | j + 1, a, t :: r, hj, h1, ho, hb => by
    have ht := ho t List.mem_cons_self
    by_cases hlen : 40 < a.length + (r.length + 1)
    · exact whileR (q_cons z a t r) (l_none z a t r ht (.inl hlen))
    · by_cases htop : t.top = true
      · refine whileS (q_cons z a t r) (l_next z a t r ht (by omega) htop) (run_bad z j (a ++ [t]) (r ++ t.kids) (by rw [List.length_append]; show a.length + 1 + j = 41; omega) (by omega) ?_ ?_)
        · intro u hu
          rcases List.mem_append.mp hu with h | h
          · exact ho u (List.mem_cons_of_mem _ h)
          · exact kids_ok ht u h
        · rcases hb with ⟨u, hu, hg⟩ | hb
          · left
            rcases List.mem_cons.mp hu with rfl | hu
            · obtain ⟨v, hv, hvg⟩ := kids_bad hg htop
              exact ⟨v, List.mem_append_right _ hv, hvg⟩
            · exact ⟨u, List.mem_append_left _ hu, hg⟩
          · right
            have hb : 40 < a.length + (t.parts + sz r) := hb
            have hk := kids_sz t
            rw [sz_app, List.length_append]
            show 40 < a.length + 1 + (sz r + sz t.kids)
            omega
      · exact whileR (q_cons z a t r) (l_none z a t r ht (.inr (by cases h : t.top with | true => exact absurd h htop | false => rfl)))
theorem parts_step (t : Tr) {r : Out Fl} {n : Nat} (h : whileN Q_parts_of_0 L_parts_of_0 n (stP t.d [] [t]) = r) (hr : r ≠ .stuck) : sWhileC Q_parts_of_0 L_parts_of_0 [some (.k, t.d), some (.o, .lst [t.d]), some (.k, .int 0)] = r := by
  have h : whileN Q_parts_of_0 L_parts_of_0 n [some (.k, t.d), some (.o, .lst [t.d]), some (.k, .int 0)] = r := h
  rw [sWhileC_eq n (by rw [h]; exact hr), h]
theorem is_good {t : Tr} (ho : t.ok) (hg : t.good = true) (hp : t.parts ≤ 40) : b_is_sum [t.d] = .ok (.bl true) := by
  obtain ⟨c, hc⟩ := run_good t.d (sz [t]) [] [t] rfl (fun u hu => by rw [List.mem_singleton.mp hu]; exact ho) (fun u hu => by rw [List.mem_singleton.mp hu]; exact hg) (by show 0 + (t.parts + 0) ≤ 40; omega)
  have hw := parts_step t hc (by intro h; cases h)
  have hp : b_parts_of [t.d] = .ok (.lst ((c ++ []).map Tr.d)) := by
    rw [u_parts_of]
    unfold T_parts_of
    (repeat (first | with_reducible exact hw | walk_at "e"))
  have hi : dIsNot (.lst ((c ++ []).map Tr.d)) .non = .ok (.bl true) := rfl
  rw [u_is_sum]
  unfold T_is_sum
  (repeat walk_at "e")
theorem is_bad {t : Tr} (ho : t.ok) (hb : t.good = false ∨ 40 < t.parts) : b_is_sum [t.d] = .ok (.bl false) := by
  have hc := run_bad t.d 41 [] [t] rfl (by decide) (fun u hu => by rw [List.mem_singleton.mp hu]; exact ho) (by
    rcases hb with h | h
    · exact .inl ⟨t, List.mem_singleton.mpr rfl, h⟩
    · right; show 40 < 0 + (t.parts + 0); omega)
  have hw := parts_step t hc (by intro h; cases h)
  have hp : b_parts_of [t.d] = .ok .non := by
    rw [u_parts_of]
    unfold T_parts_of
    (repeat (first | with_reducible exact hw | walk_at "e"))
  have hi : dIsNot .non .non = .ok (.bl false) := rfl
  rw [u_is_sum]
  unfold T_is_sum
  (repeat walk_at "e")
def Sm.tr : Sm → Tr
  | .nm x => .nm x
  | .tm k s => .tm k s.tr
  | .pl s t => .pl s.tr t.tr
  | .sh s c d => .sh s.tr c d
theorem tr_d : ∀ s : Sm, s.tr.d = s.d
  | .nm _ => rfl
  | .tm k s => by show D.tup [_, _, s.tr.d] = D.tup [_, _, s.d]; rw [tr_d s]
  | .pl s t => by show D.tup [_, s.tr.d, t.tr.d] = D.tup [_, s.d, t.d]; rw [tr_d s, tr_d t]
  | .sh s c d => by show D.tup [_, s.tr.d, _, _] = D.tup [_, s.d, _, _]; rw [tr_d s]
theorem tr_ok : ∀ s : Sm, s.ok → s.tr.ok
  | .nm _, h => h
  | .tm k s, h => ⟨h.1, tr_ok s h.2⟩
  | .pl s t, h => ⟨tr_ok s h.1, tr_ok t h.2⟩
  | .sh s c d, h => ⟨h.1, h.2.1, tr_ok s h.2.2⟩
theorem tr_parts : ∀ s : Sm, s.tr.parts = s.parts
  | .nm _ => rfl
  | .tm k s => by show s.tr.parts + 1 = s.parts + 1; rw [tr_parts s]
  | .pl s t => by show s.tr.parts + t.tr.parts + 1 = s.parts + t.parts + 1; rw [tr_parts s, tr_parts t]
  | .sh s c d => by show s.tr.parts + 1 = s.parts + 1; rw [tr_parts s]
theorem tr_good : ∀ s : Sm, s.tr.good = true
  | .nm _ => rfl
  | .tm k s => tr_good s
  | .pl s t => by show (s.tr.good && t.tr.good) = true; rw [tr_good s, tr_good t]; rfl
  | .sh s c d => tr_good s
theorem ixD {xs : List D} {i : Int} (h0 : 0 ≤ i) (h1 : i < xs.length) : ∃ d, d ∈ xs ∧ dIx (.lst xs) (.int i) = .ok d := by
  obtain ⟨n, rfl⟩ : ∃ n : Nat, i = n := ⟨i.toNat, by omega⟩
  have hn : n < xs.length := by omega
  exact ⟨xs[n], List.getElem_mem hn, ixL n (List.getElem?_eq_getElem hn)⟩
theorem none_step (n : Int) : T_law_none [some (.k, .int n), none, none] = (dIx (.lst bads) (.int (n.fmod 33)) >>= fun d => .ok (.rt false d)) := by with_unfolding_all rfl
theorem none_ok (n : Int) : ∃ d, b_has_form [d] = .ok (.bl false) ∧ b_law_none [.int n] = .ok d := by
  have e : n.fmod 33 = n % 33 := Int.fmod_eq_emod_of_nonneg n (by decide)
  obtain ⟨d, hm, hd⟩ := ixD (xs := bads) (i := n.fmod 33) (by rw [e]; exact Int.emod_nonneg _ (by decide)) (by rw [e]; exact Int.emod_lt_of_pos _ (by decide))
  refine ⟨d, bads_ok d hm, ?_⟩
  rw [u_law_none, none_step, hd]
  rfl
theorem within_step (d : D) (n : Int) (x : D) (h : dIx (.lst [.tup [.str "times", .int 3, d], .tup [.str "plus", d, .tup [.str "name", .str "b"]], .tup [.str "plus", .tup [.str "name", .str "b"], d], .tup [.str "share", d, .int 1, .int 2]]) (.int (n % 4)) = .ok x) (y : D) (hy : dIx (.lst [d, x, .tup [.str "times", .int 2, x]]) (.int (n / 4 % 3)) = .ok y) : b_law_within [d, .int n] = .ok y := by
  have d4 : dFdiv (.int n) (.int 4) = .ok (.int (n / 4)) := dFdiv_pos (by decide) (by decide)
  have p4 : dMod (.int n) (.int 4) = .ok (.int (n % 4)) := dMod_pos (by decide)
  have p3 : dMod (.int (n / 4)) (.int 3) = .ok (.int (n / 4 % 3)) := dMod_pos (by decide)
  rw [u_law_within]
  unfold T_law_within
  (repeat walk_at "e")
theorem nm_b : Nm ("b" : Str) := ⟨⟨by decide +kernel, by decide +kernel⟩, by decide +kernel, by decide +kernel⟩
theorem nm_a : Nm ("a" : Str) := ⟨⟨by decide +kernel, by decide +kernel⟩, by decide +kernel, by decide +kernel⟩
theorem within_bad {d : D} (hd : b_has_form [d] = .ok (.bl false)) (n : Int) : ∃ t : Tr, t.ok ∧ t.good = false ∧ b_law_within [d, .int n] = .ok t.d := by
  have h4 : n % 4 = 0 ∨ n % 4 = 1 ∨ n % 4 = 2 ∨ n % 4 = 3 := by omega
  have h3 : n / 4 % 3 = 0 ∨ n / 4 % 3 = 1 ∨ n / 4 % 3 = 2 := by omega
  obtain ⟨u, uo, ug, hu⟩ : ∃ u : Tr, u.ok ∧ u.good = false ∧ dIx (.lst [.tup [.str "times", .int 3, d], .tup [.str "plus", d, .tup [.str "name", .str "b"]], .tup [.str "plus", .tup [.str "name", .str "b"], d], .tup [.str "share", d, .int 1, .int 2]]) (.int (n % 4)) = .ok u.d := by
    rcases h4 with h | h | h | h <;> rw [h]
    · exact ⟨.tm 3 (.bad d), ⟨⟨by decide, by decide⟩, hd⟩, rfl, ixL 0 rfl⟩
    · exact ⟨.pl (.bad d) (.nm "b"), ⟨hd, nm_b⟩, rfl, ixL 1 rfl⟩
    · exact ⟨.pl (.nm "b") (.bad d), ⟨nm_b, hd⟩, rfl, ixL 2 rfl⟩
    · exact ⟨.sh (.bad d) 1 2, ⟨⟨by decide, by decide⟩, by decide, hd⟩, rfl, ixL 3 rfl⟩
  rcases h3 with h | h | h
  · exact ⟨.bad d, hd, rfl, within_step d n u.d hu _ (by rw [h]; exact ixL 0 rfl)⟩
  · exact ⟨u, uo, ug, within_step d n u.d hu _ (by rw [h]; exact ixL 1 rfl)⟩
  · exact ⟨.tm 2 u, ⟨⟨by decide, by decide⟩, uo⟩, ug, within_step d n u.d hu _ (by rw [h]; exact ixL 2 rfl)⟩
theorem forty_ok (m : Nat) (hm : m ≤ 2000) : ∃ t : Tr, t.ok ∧ t.good = true ∧ t.parts = 40 + m ∧ b_law_forty [.int (m : Int)] = .ok t.d := by
  obtain ⟨ς', hL, t, a2, rfl, ho, hg, hp⟩ := loop_rangeK (body := fun x ς => gN 2 x ς >>= fun ς' => L_law_forty_0 ς') (n := 39 + m)
    (P := fun k ς => ∃ (t : Tr) (a2 : Option (SM × D)), ς = [some (.k, .int (m : Int)), some (.k, t.d), a2] ∧ t.ok ∧ t.good = true ∧ t.parts = k + 1)
    (by
      rintro k hk ς ⟨t, a2, rfl, ho, hg, hp⟩
      have p2 : dMod (.int (k : Int)) (.int 2) = .ok (.int ((k : Int) % 2)) := dMod_pos (by decide)
      have h2 : (k : Int) % 2 = 0 ∨ (k : Int) % 2 = 1 := by omega
      rcases h2 with h | h
      · have hi : dIx (.lst [.tup [.str "times", .int 2, t.d], .tup [.str "share", t.d, .int 0, .int 3]]) (.int ((k : Int) % 2)) = .ok (.tup [.str "times", .int 2, t.d]) := by rw [h]; exact ixL 0 rfl
        refine ⟨[some (.k, .int (m : Int)), some (.k, .tup [.str "times", .int 2, t.d]), some (.k, .int (k : Int))], ?_, .tm 2 t, _, rfl, ⟨⟨by decide, by decide⟩, ho⟩, hg, ?_⟩
        · refine r_gN (by walk_at "s") ?_
          unfold L_law_forty_0
          (repeat walk_at "e")
        · show t.parts + 1 = k + 1 + 1; omega
      · have hi : dIx (.lst [.tup [.str "times", .int 2, t.d], .tup [.str "share", t.d, .int 0, .int 3]]) (.int ((k : Int) % 2)) = .ok (.tup [.str "share", t.d, .int 0, .int 3]) := by rw [h]; exact ixL 1 rfl
        refine ⟨[some (.k, .int (m : Int)), some (.k, .tup [.str "share", t.d, .int 0, .int 3]), some (.k, .int (k : Int))], ?_, .sh t 0 3, _, rfl, ⟨⟨by decide, by decide⟩, by decide, ho⟩, hg, ?_⟩
        · refine r_gN (by walk_at "s") ?_
          unfold L_law_forty_0
          (repeat walk_at "e")
        · show t.parts + 1 = k + 1 + 1; omega)
    [some (.k, .int (m : Int)), some (.k, .tup [.str "name", .str "a"]), none] ⟨.nm "a", none, rfl, nm_a, rfl, rfl⟩
  have hr : e2 dAdd (eC (.int 39)) (eVar 0) [some (.k, .int (m : Int)), some (.k, .tup [.str "name", .str "a"]), none] = .ok (.int ((39 + m : Nat) : Int)) := by
    rw [show ((39 + m : Nat) : Int) = 39 + (m : Int) by omega]
    (repeat walk_at "e")
  have hfor := sFor_of (g := gN 2) (its := itR1 (e2 dAdd (eC (.int 39)) (eVar 0))) (T := L_law_forty_0) (rng_ok (39 + m) hr (by omega)) hL
  refine ⟨t, ho, hg, by omega, ?_⟩
  rw [u_law_forty]
  unfold T_law_forty
  (repeat walk_at "e")
theorem the_law (ns : List Int) (hl : ns.length ≤ 63) (hb : ∀ z ∈ ns, bitsI z ≤ 1048576) : b_law [.lst (ns.map .int)] = .ok (.bl true) := by
  obtain ⟨s, so, sp, hs⟩ := built_ok (cs := ns.take 84) (by rw [List.length_take]; omega)
  have h1 : b_is_sum [s.d] = .ok (.bl true) := by rw [← tr_d]; exact is_good (tr_ok s so) (tr_good s) (by rw [tr_parts]; omega)
  have hsl : eSl (eVar 0) oNo (oSome (eC (.int 84))) [some (.k, .lst (ns.map D.int)), none, none] = .ok (.lst ((ns.take 84).map D.int)) := by
    refine r_sl (xs := ns.map D.int) (p := none) (q := some ((84 : Nat) : Int)) rfl rfl rfl ?_
    rw [cut_to, List.map_take]
  have hlen : fLen [.lst (ns.map D.int)] = .ok (.int (ns.length : Int)) := by simp [fLen]
  have hmin : fMin2 [.int (ns.length : Int), .int 84] = .ok (.int ((min ns.length 84 : Nat) : Int)) := by
    show Out.ok (D.int (if (84 : Int) < (ns.length : Int) then 84 else (ns.length : Int))) = _
    congr 2; split <;> omega
  obtain ⟨ς', hL, a1, a2, rfl⟩ := loop_range (body := fun x ς => gN 1 x ς >>= fun ς' => L_law_0 ς') (n := min ns.length 84)
    (P := fun ς => ∃ a1 a2, ς = [some (.k, .lst (ns.map .int)), a1, a2])
    (by
      rintro k hk ς ⟨a1, a2, rfl⟩
      have hix : dIx (.lst (ns.map D.int)) (.int (k : Int)) = .ok (.int ns[k]) := ixL k (by rw [List.getElem?_map, List.getElem?_eq_getElem (by omega)]; rfl)
      obtain ⟨w, hw, w0, w1⟩ := mixed_ok (c := ns[k]) (k := (k : Int)) (by omega) (by omega)
      have d33 : dFdiv (.int w) (.int 33) = .ok (.int (w / 33)) := dFdiv_pos (by decide) (by decide)
      obtain ⟨d, hd, hn⟩ := none_ok w
      obtain ⟨t, to, tg, ht⟩ := within_bad hd (w / 33)
      have hf := is_bad to (.inl tg)
      have hi : dIsNot (.bl false) (.bl false) = .ok (.bl false) := rfl
      refine ⟨[some (.k, .lst (ns.map .int)), some (.k, .int k), some (.k, .int w)], ?_, _, _, rfl⟩
      refine r_gN (by walk_at "s") ?_
      unfold L_law_0
      (repeat walk_at "e"))
    [some (.k, .lst (ns.map .int)), none, none] ⟨_, _, rfl⟩
  have hmm : eA fMin2 (aCons (eA fLen (aCons (eVar 0) aNil)) (aCons (eC (.int 84)) aNil)) [some (.k, .lst (ns.map D.int)), none, none] = .ok (.int ((min ns.length 84 : Nat) : Int)) := by (repeat walk_at "e")
  have hfor := sFor_of (g := gN 1) (its := itR1 (eA fMin2 (aCons (eA fLen (aCons (eVar 0) aNil)) (aCons (eC (.int 84)) aNil)))) (T := L_law_0) (rng_ok (min ns.length 84) hmm (by omega)) hL
  obtain ⟨t1, o1, g1, p1, f1'⟩ := forty_ok 1 (by decide)
  obtain ⟨t2, o2, g2, p2, f2'⟩ := forty_ok 1200 (by decide)
  obtain ⟨t3, o3, g3, p3, f3'⟩ := forty_ok 0 (by decide)
  have f1 : b_law_forty [.int 1] = .ok t1.d := f1'
  have f2 : b_law_forty [.int 1200] = .ok t2.d := f2'
  have f3 : b_law_forty [.int 0] = .ok t3.d := f3'
  have b1 := is_bad o1 (.inr (by omega))
  have b2 := is_bad o2 (.inr (by omega))
  have b3 := is_good o3 g3 (by omega)
  have i1 : dIsNot (.bl true) (.bl true) = .ok (.bl false) := rfl
  have i2 : dIsNot (.bl false) (.bl false) = .ok (.bl false) := rfl
  have i3 : dIs (.bl true) (.bl true) = .ok (.bl true) := rfl
  rw [u_law]
  unfold T_law
  (repeat walk_at "e")
end My
set_option Elab.async false
set_option linter.all false
set_option maxRecDepth 100000
set_option maxHeartbeats 4000000
namespace My
open PySem PySem.Spec L2 DL
theorem all_mk {l : PySem.W.OpenLaw} {w : World} {K : PySem.W.Frag} {h : Heap} {mg : Str → Option Value} {fa : Addr} (X : K.In h) (G : h.Ns mainGlobals mg) (hfa : mg "law" = some (.ref fa))
    {f_sums_in : Addr} {od_sums_in an_sums_in : Option Addr} {sl_sums_in : Array (Option Value)} {oc_sums_in kV_sums_in dc_sums_in pm_sums_in cd_sums_in ct_sums_in : Value} {f_is_name : Addr} {od_is_name an_is_name : Option Addr} {sl_is_name : Array (Option Value)} {oc_is_name kV_is_name dc_is_name pm_is_name cd_is_name ct_is_name : Value} {f_is_whole : Addr} {od_is_whole an_is_whole : Option Addr} {sl_is_whole : Array (Option Value)} {oc_is_whole kV_is_whole dc_is_whole pm_is_whole cd_is_whole ct_is_whole : Value} {f_is_within : Addr} {od_is_within an_is_within : Option Addr} {sl_is_within : Array (Option Value)} {oc_is_within kV_is_within dc_is_within pm_is_within cd_is_within ct_is_within : Value} {f_has_form : Addr} {od_has_form an_has_form : Option Addr} {sl_has_form : Array (Option Value)} {oc_has_form kV_has_form dc_has_form pm_has_form cd_has_form ct_has_form : Value} {f_parts_of : Addr} {od_parts_of an_parts_of : Option Addr} {sl_parts_of : Array (Option Value)} {oc_parts_of kV_parts_of dc_parts_of pm_parts_of cd_parts_of ct_parts_of : Value} {f_is_sum : Addr} {od_is_sum an_is_sum : Option Addr} {sl_is_sum : Array (Option Value)} {oc_is_sum kV_is_sum dc_is_sum pm_is_sum cd_is_sum ct_is_sum : Value} {f_law_mixed : Addr} {od_law_mixed an_law_mixed : Option Addr} {sl_law_mixed : Array (Option Value)} {oc_law_mixed kV_law_mixed dc_law_mixed pm_law_mixed cd_law_mixed ct_law_mixed : Value} {f_law_name : Addr} {od_law_name an_law_name : Option Addr} {sl_law_name : Array (Option Value)} {oc_law_name kV_law_name dc_law_name pm_law_name cd_law_name ct_law_name : Value} {f_law_built : Addr} {od_law_built an_law_built : Option Addr} {sl_law_built : Array (Option Value)} {oc_law_built kV_law_built dc_law_built pm_law_built cd_law_built ct_law_built : Value} {f_law_forty : Addr} {od_law_forty an_law_forty : Option Addr} {sl_law_forty : Array (Option Value)} {oc_law_forty kV_law_forty dc_law_forty pm_law_forty cd_law_forty ct_law_forty : Value} {f_law_within : Addr} {od_law_within an_law_within : Option Addr} {sl_law_within : Array (Option Value)} {oc_law_within kV_law_within dc_law_within pm_law_within cd_law_within ct_law_within : Value} {f_law_none : Addr} {od_law_none an_law_none : Option Addr} {sl_law_none : Array (Option Value)} {oc_law_none kV_law_none dc_law_none pm_law_none cd_law_none ct_law_none : Value} {f_law : Addr} {od_law an_law : Option Addr} {sl_law : Array (Option Value)} {oc_law kV_law dc_law pm_law cd_law ct_law : Value} {tk_MOST_SIGNS : Tok} {tk_LETTERS : Tok} {tk_MOST_TIMES : Tok} {tk_MOST_BOTTOM : Tok} {tk_MOST_PARTS : Tok}
    (a_sums_in : PySem.W.nsIn K mainGlobals "sums_in" = some (some (.ref f_sums_in)))
    (l_sums_in : K.lookup f_sums_in = some ⟨oc_sums_in, od_sums_in, .func (PySem.W.fnOf "sums_in" "sums_in" (defArgs s_sums_in) (defBody s_sums_in) (defScope s_sums_in) .none kV_sums_in dc_sums_in pm_sums_in an_sums_in cd_sums_in ct_sums_in), sl_sums_in⟩)
    (c_sums_in : PySem.W.codeIn K cd_sums_in "sums_in" = true)
    (k_sums_in : PySem.W.keepIn K (.ref f_sums_in) = true)
    (a_is_name : PySem.W.nsIn K mainGlobals "is_name" = some (some (.ref f_is_name)))
    (l_is_name : K.lookup f_is_name = some ⟨oc_is_name, od_is_name, .func (PySem.W.fnOf "is_name" "is_name" (defArgs s_is_name) (defBody s_is_name) (defScope s_is_name) .none kV_is_name dc_is_name pm_is_name an_is_name cd_is_name ct_is_name), sl_is_name⟩)
    (c_is_name : PySem.W.codeIn K cd_is_name "is_name" = true)
    (k_is_name : PySem.W.keepIn K (.ref f_is_name) = true)
    (a_is_whole : PySem.W.nsIn K mainGlobals "is_whole" = some (some (.ref f_is_whole)))
    (l_is_whole : K.lookup f_is_whole = some ⟨oc_is_whole, od_is_whole, .func (PySem.W.fnOf "is_whole" "is_whole" (defArgs s_is_whole) (defBody s_is_whole) (defScope s_is_whole) .none kV_is_whole dc_is_whole pm_is_whole an_is_whole cd_is_whole ct_is_whole), sl_is_whole⟩)
    (c_is_whole : PySem.W.codeIn K cd_is_whole "is_whole" = true)
    (k_is_whole : PySem.W.keepIn K (.ref f_is_whole) = true)
    (a_is_within : PySem.W.nsIn K mainGlobals "is_within" = some (some (.ref f_is_within)))
    (l_is_within : K.lookup f_is_within = some ⟨oc_is_within, od_is_within, .func (PySem.W.fnOf "is_within" "is_within" (defArgs s_is_within) (defBody s_is_within) (defScope s_is_within) .none kV_is_within dc_is_within pm_is_within an_is_within cd_is_within ct_is_within), sl_is_within⟩)
    (c_is_within : PySem.W.codeIn K cd_is_within "is_within" = true)
    (k_is_within : PySem.W.keepIn K (.ref f_is_within) = true)
    (a_has_form : PySem.W.nsIn K mainGlobals "has_form" = some (some (.ref f_has_form)))
    (l_has_form : K.lookup f_has_form = some ⟨oc_has_form, od_has_form, .func (PySem.W.fnOf "has_form" "has_form" (defArgs s_has_form) (defBody s_has_form) (defScope s_has_form) .none kV_has_form dc_has_form pm_has_form an_has_form cd_has_form ct_has_form), sl_has_form⟩)
    (c_has_form : PySem.W.codeIn K cd_has_form "has_form" = true)
    (k_has_form : PySem.W.keepIn K (.ref f_has_form) = true)
    (a_parts_of : PySem.W.nsIn K mainGlobals "parts_of" = some (some (.ref f_parts_of)))
    (l_parts_of : K.lookup f_parts_of = some ⟨oc_parts_of, od_parts_of, .func (PySem.W.fnOf "parts_of" "parts_of" (defArgs s_parts_of) (defBody s_parts_of) (defScope s_parts_of) .none kV_parts_of dc_parts_of pm_parts_of an_parts_of cd_parts_of ct_parts_of), sl_parts_of⟩)
    (c_parts_of : PySem.W.codeIn K cd_parts_of "parts_of" = true)
    (k_parts_of : PySem.W.keepIn K (.ref f_parts_of) = true)
    (a_is_sum : PySem.W.nsIn K mainGlobals "is_sum" = some (some (.ref f_is_sum)))
    (l_is_sum : K.lookup f_is_sum = some ⟨oc_is_sum, od_is_sum, .func (PySem.W.fnOf "is_sum" "is_sum" (defArgs s_is_sum) (defBody s_is_sum) (defScope s_is_sum) .none kV_is_sum dc_is_sum pm_is_sum an_is_sum cd_is_sum ct_is_sum), sl_is_sum⟩)
    (c_is_sum : PySem.W.codeIn K cd_is_sum "is_sum" = true)
    (k_is_sum : PySem.W.keepIn K (.ref f_is_sum) = true)
    (a_law_mixed : PySem.W.nsIn K mainGlobals "_law_mixed" = some (some (.ref f_law_mixed)))
    (l_law_mixed : K.lookup f_law_mixed = some ⟨oc_law_mixed, od_law_mixed, .func (PySem.W.fnOf "_law_mixed" "_law_mixed" (defArgs s_law_mixed) (defBody s_law_mixed) (defScope s_law_mixed) .none kV_law_mixed dc_law_mixed pm_law_mixed an_law_mixed cd_law_mixed ct_law_mixed), sl_law_mixed⟩)
    (c_law_mixed : PySem.W.codeIn K cd_law_mixed "_law_mixed" = true)
    (k_law_mixed : PySem.W.keepIn K (.ref f_law_mixed) = true)
    (a_law_name : PySem.W.nsIn K mainGlobals "_law_name" = some (some (.ref f_law_name)))
    (l_law_name : K.lookup f_law_name = some ⟨oc_law_name, od_law_name, .func (PySem.W.fnOf "_law_name" "_law_name" (defArgs s_law_name) (defBody s_law_name) (defScope s_law_name) .none kV_law_name dc_law_name pm_law_name an_law_name cd_law_name ct_law_name), sl_law_name⟩)
    (c_law_name : PySem.W.codeIn K cd_law_name "_law_name" = true)
    (k_law_name : PySem.W.keepIn K (.ref f_law_name) = true)
    (a_law_built : PySem.W.nsIn K mainGlobals "_law_built" = some (some (.ref f_law_built)))
    (l_law_built : K.lookup f_law_built = some ⟨oc_law_built, od_law_built, .func (PySem.W.fnOf "_law_built" "_law_built" (defArgs s_law_built) (defBody s_law_built) (defScope s_law_built) .none kV_law_built dc_law_built pm_law_built an_law_built cd_law_built ct_law_built), sl_law_built⟩)
    (c_law_built : PySem.W.codeIn K cd_law_built "_law_built" = true)
    (k_law_built : PySem.W.keepIn K (.ref f_law_built) = true)
    (a_law_forty : PySem.W.nsIn K mainGlobals "_law_forty" = some (some (.ref f_law_forty)))
    (l_law_forty : K.lookup f_law_forty = some ⟨oc_law_forty, od_law_forty, .func (PySem.W.fnOf "_law_forty" "_law_forty" (defArgs s_law_forty) (defBody s_law_forty) (defScope s_law_forty) .none kV_law_forty dc_law_forty pm_law_forty an_law_forty cd_law_forty ct_law_forty), sl_law_forty⟩)
    (c_law_forty : PySem.W.codeIn K cd_law_forty "_law_forty" = true)
    (k_law_forty : PySem.W.keepIn K (.ref f_law_forty) = true)
    (a_law_within : PySem.W.nsIn K mainGlobals "_law_within" = some (some (.ref f_law_within)))
    (l_law_within : K.lookup f_law_within = some ⟨oc_law_within, od_law_within, .func (PySem.W.fnOf "_law_within" "_law_within" (defArgs s_law_within) (defBody s_law_within) (defScope s_law_within) .none kV_law_within dc_law_within pm_law_within an_law_within cd_law_within ct_law_within), sl_law_within⟩)
    (c_law_within : PySem.W.codeIn K cd_law_within "_law_within" = true)
    (k_law_within : PySem.W.keepIn K (.ref f_law_within) = true)
    (a_law_none : PySem.W.nsIn K mainGlobals "_law_none" = some (some (.ref f_law_none)))
    (l_law_none : K.lookup f_law_none = some ⟨oc_law_none, od_law_none, .func (PySem.W.fnOf "_law_none" "_law_none" (defArgs s_law_none) (defBody s_law_none) (defScope s_law_none) .none kV_law_none dc_law_none pm_law_none an_law_none cd_law_none ct_law_none), sl_law_none⟩)
    (c_law_none : PySem.W.codeIn K cd_law_none "_law_none" = true)
    (k_law_none : PySem.W.keepIn K (.ref f_law_none) = true)
    (a_law : PySem.W.nsIn K mainGlobals "law" = some (some (.ref f_law)))
    (l_law : K.lookup f_law = some ⟨oc_law, od_law, .func (PySem.W.fnOf "law" "law" (defArgs s_law) (defBody s_law) (defScope s_law) .none kV_law dc_law pm_law an_law cd_law ct_law), sl_law⟩)
    (c_law : PySem.W.codeIn K cd_law "law" = true)
    (k_law : PySem.W.keepIn K (.ref f_law) = true)
    (z_isinstance : PySem.W.nsIn K mainGlobals "isinstance" = some none)
    (z_str : PySem.W.nsIn K mainGlobals "str" = some none)
    (z_len : PySem.W.nsIn K mainGlobals "len" = some none)
    (z_all : PySem.W.nsIn K mainGlobals "all" = some none)
    (z_int : PySem.W.nsIn K mainGlobals "int" = some none)
    (z_bool : PySem.W.nsIn K mainGlobals "bool" = some none)
    (z_tuple : PySem.W.nsIn K mainGlobals "tuple" = some none)
    (z_range : PySem.W.nsIn K mainGlobals "range" = some none)
    (z_min : PySem.W.nsIn K mainGlobals "min" = some none)
    (c_MOST_SIGNS : PySem.W.nsIn K mainGlobals "MOST_SIGNS" = some (some (.int 6 tk_MOST_SIGNS)))
    (c_LETTERS : PySem.W.nsIn K mainGlobals "LETTERS" = some (some (.str "abcdefghijklmnopqrstuvwxyz" tk_LETTERS)))
    (c_MOST_TIMES : PySem.W.nsIn K mainGlobals "MOST_TIMES" = some (some (.int 9 tk_MOST_TIMES)))
    (c_MOST_BOTTOM : PySem.W.nsIn K mainGlobals "MOST_BOTTOM" = some (some (.int 12 tk_MOST_BOTTOM)))
    (c_MOST_PARTS : PySem.W.nsIn K mainGlobals "MOST_PARTS" = some (some (.int 40 tk_MOST_PARTS))) :
    ∃ fd : FuncData, (∀ (s : Shared) (v : Value), BindsTo s fd ⟨[v], []⟩ [("_law_script", v)]) ∧ ∀ base : Heap, K.In base → base.Ns mainGlobals mg → FnOk l.prog w K mg base CX0 6 fa fd ["_law_script"] (SpD K (ctOf K) false b_law) := by
  have ee := hfa.symm.trans (PySem.W.mg_of X G a_law)
  cases ee
  have F_sums_in := funV_mk (st := s_sums_in) l_sums_in c_sums_in k_sums_in
  have B_sums_in := F_sums_in.binds (ps := ["one"]) fun _ _ _ _ _ _ us hl => match us, hl with | [_], _ => rfl
  have F_is_name := funV_mk (st := s_is_name) l_is_name c_is_name k_is_name
  have B_is_name := F_is_name.binds (ps := ["thing"]) fun _ _ _ _ _ _ us hl => match us, hl with | [_], _ => rfl
  have F_is_whole := funV_mk (st := s_is_whole) l_is_whole c_is_whole k_is_whole
  have B_is_whole := F_is_whole.binds (ps := ["thing"]) fun _ _ _ _ _ _ us hl => match us, hl with | [_], _ => rfl
  have F_is_within := funV_mk (st := s_is_within) l_is_within c_is_within k_is_within
  have B_is_within := F_is_within.binds (ps := ["thing", "least", "most"]) fun _ _ _ _ _ _ us hl => match us, hl with | [_, _, _], _ => rfl
  have F_has_form := funV_mk (st := s_has_form) l_has_form c_has_form k_has_form
  have B_has_form := F_has_form.binds (ps := ["thing"]) fun _ _ _ _ _ _ us hl => match us, hl with | [_], _ => rfl
  have F_parts_of := funV_mk (st := s_parts_of) l_parts_of c_parts_of k_parts_of
  have B_parts_of := F_parts_of.binds (ps := ["thing"]) fun _ _ _ _ _ _ us hl => match us, hl with | [_], _ => rfl
  have F_is_sum := funV_mk (st := s_is_sum) l_is_sum c_is_sum k_is_sum
  have B_is_sum := F_is_sum.binds (ps := ["thing"]) fun _ _ _ _ _ _ us hl => match us, hl with | [_], _ => rfl
  have F_law_mixed := funV_mk (st := s_law_mixed) l_law_mixed c_law_mixed k_law_mixed
  have B_law_mixed := F_law_mixed.binds (ps := ["_law_cell", "_law_k"]) fun _ _ _ _ _ _ us hl => match us, hl with | [_, _], _ => rfl
  have F_law_name := funV_mk (st := s_law_name) l_law_name c_law_name k_law_name
  have B_law_name := F_law_name.binds (ps := ["_law_number"]) fun _ _ _ _ _ _ us hl => match us, hl with | [_], _ => rfl
  have F_law_built := funV_mk (st := s_law_built) l_law_built c_law_built k_law_built
  have B_law_built := F_law_built.binds (ps := ["_law_cells", "_law_most"]) fun _ _ _ _ _ _ us hl => match us, hl with | [_, _], _ => rfl
  have F_law_forty := funV_mk (st := s_law_forty) l_law_forty c_law_forty k_law_forty
  have B_law_forty := F_law_forty.binds (ps := ["_law_more"]) fun _ _ _ _ _ _ us hl => match us, hl with | [_], _ => rfl
  have F_law_within := funV_mk (st := s_law_within) l_law_within c_law_within k_law_within
  have B_law_within := F_law_within.binds (ps := ["_law_thing", "_law_number"]) fun _ _ _ _ _ _ us hl => match us, hl with | [_, _], _ => rfl
  have F_law_none := funV_mk (st := s_law_none) l_law_none c_law_none k_law_none
  have B_law_none := F_law_none.binds (ps := ["_law_number"]) fun _ _ _ _ _ _ us hl => match us, hl with | [_], _ => rfl
  have F_law := funV_mk (st := s_law) l_law c_law k_law
  have B_law := F_law.binds (ps := ["_law_script"]) fun _ _ _ _ _ _ us hl => match us, hl with | [_], _ => rfl
  have zz_isinstance : mg "isinstance" = none := PySem.W.mg_none_of X G z_isinstance
  have zz_str : mg "str" = none := PySem.W.mg_none_of X G z_str
  have zz_len : mg "len" = none := PySem.W.mg_none_of X G z_len
  have zz_all : mg "all" = none := PySem.W.mg_none_of X G z_all
  have zz_int : mg "int" = none := PySem.W.mg_none_of X G z_int
  have zz_bool : mg "bool" = none := PySem.W.mg_none_of X G z_bool
  have zz_tuple : mg "tuple" = none := PySem.W.mg_none_of X G z_tuple
  have zz_range : mg "range" = none := PySem.W.mg_none_of X G z_range
  have zz_min : mg "min" = none := PySem.W.mg_none_of X G z_min
  have cc_MOST_SIGNS := PySem.W.mg_of X G c_MOST_SIGNS
  have cc_LETTERS := PySem.W.mg_of X G c_LETTERS
  have cc_MOST_TIMES := PySem.W.mg_of X G c_MOST_TIMES
  have cc_MOST_BOTTOM := PySem.W.mg_of X G c_MOST_BOTTOM
  have cc_MOST_PARTS := PySem.W.mg_of X G c_MOST_PARTS
  refine ⟨PySem.W.fnOf "law" "law" (defArgs s_law) (defBody s_law) (defScope s_law) .none kV_law dc_law pm_law an_law cd_law ct_law, fun s v => .of_eq rfl, fun base _ _ => ?_⟩
  have K_sums_in : FnOk l.prog w K mg base CX0 1 _ _ ["one"] (SpD K (ctOf K) true b_sums_in) := d_sums_in F_sums_in 
  have H_sums_in : DefOk l.prog w K mg base (ctOf K) "sums_in" 1 true [] b_sums_in := ⟨_, _, _, _, K_sums_in, PySem.W.mg_of X G a_sums_in, k_sums_in, B_sums_in, .nil⟩
  have K_is_name : FnOk l.prog w K mg base CX0 1 _ _ ["thing"] (SpD K (ctOf K) false b_is_name) := d_is_name F_is_name zz_isinstance zz_str zz_len zz_all cc_MOST_SIGNS ⟨_, rfl⟩ cc_LETTERS ⟨_, rfl⟩
  have H_is_name : DefOk l.prog w K mg base (ctOf K) "is_name" 1 false [] b_is_name := ⟨_, _, _, _, K_is_name, PySem.W.mg_of X G a_is_name, k_is_name, B_is_name, .nil⟩
  have K_is_whole : FnOk l.prog w K mg base CX0 1 _ _ ["thing"] (SpD K (ctOf K) false b_is_whole) := d_is_whole F_is_whole zz_isinstance zz_int zz_bool
  have H_is_whole : DefOk l.prog w K mg base (ctOf K) "is_whole" 1 false [] b_is_whole := ⟨_, _, _, _, K_is_whole, PySem.W.mg_of X G a_is_whole, k_is_whole, B_is_whole, .nil⟩
  have K_is_within : FnOk l.prog w K mg base CX0 2 _ _ ["thing", "least", "most"] (SpD K (ctOf K) false b_is_within) := d_is_within F_is_within H_is_whole
  have H_is_within : DefOk l.prog w K mg base (ctOf K) "is_within" 2 false [] b_is_within := ⟨_, _, _, _, K_is_within, PySem.W.mg_of X G a_is_within, k_is_within, B_is_within, .nil⟩
  have K_has_form : FnOk l.prog w K mg base CX0 3 _ _ ["thing"] (SpD K (ctOf K) false b_has_form) := d_has_form F_has_form H_is_name H_is_within zz_isinstance zz_tuple zz_len zz_str cc_MOST_TIMES ⟨_, rfl⟩ cc_MOST_BOTTOM ⟨_, rfl⟩
  have H_has_form : DefOk l.prog w K mg base (ctOf K) "has_form" 3 false [] b_has_form := ⟨_, _, _, _, K_has_form, PySem.W.mg_of X G a_has_form, k_has_form, B_has_form, .nil⟩
  have K_parts_of : FnOk l.prog w K mg base CX0 4 _ _ ["thing"] (SpD K (ctOf K) true b_parts_of) := d_parts_of F_parts_of H_has_form H_sums_in zz_len cc_MOST_PARTS ⟨_, rfl⟩
  have H_parts_of : DefOk l.prog w K mg base (ctOf K) "parts_of" 4 true [] b_parts_of := ⟨_, _, _, _, K_parts_of, PySem.W.mg_of X G a_parts_of, k_parts_of, B_parts_of, .nil⟩
  have K_is_sum : FnOk l.prog w K mg base CX0 5 _ _ ["thing"] (SpD K (ctOf K) false b_is_sum) := d_is_sum F_is_sum H_parts_of
  have H_is_sum : DefOk l.prog w K mg base (ctOf K) "is_sum" 5 false [] b_is_sum := ⟨_, _, _, _, K_is_sum, PySem.W.mg_of X G a_is_sum, k_is_sum, B_is_sum, .nil⟩
  have K_law_mixed : FnOk l.prog w K mg base CX0 1 _ _ ["_law_cell", "_law_k"] (SpD K (ctOf K) false b_law_mixed) := d_law_mixed F_law_mixed 
  have H_law_mixed : DefOk l.prog w K mg base (ctOf K) "_law_mixed" 1 false [] b_law_mixed := ⟨_, _, _, _, K_law_mixed, PySem.W.mg_of X G a_law_mixed, k_law_mixed, B_law_mixed, .nil⟩
  have K_law_name : FnOk l.prog w K mg base CX0 1 _ _ ["_law_number"] (SpD K (ctOf K) false b_law_name) := d_law_name F_law_name zz_range
  have H_law_name : DefOk l.prog w K mg base (ctOf K) "_law_name" 1 false [] b_law_name := ⟨_, _, _, _, K_law_name, PySem.W.mg_of X G a_law_name, k_law_name, B_law_name, .nil⟩
  have K_law_built : FnOk l.prog w K mg base CX0 2 _ _ ["_law_cells", "_law_most"] (SpD K (ctOf K) false b_law_built) := d_law_built F_law_built H_law_name H_law_mixed zz_len zz_range
  have H_law_built : DefOk l.prog w K mg base (ctOf K) "_law_built" 2 false [] b_law_built := ⟨_, _, _, _, K_law_built, PySem.W.mg_of X G a_law_built, k_law_built, B_law_built, .nil⟩
  have K_law_forty : FnOk l.prog w K mg base CX0 1 _ _ ["_law_more"] (SpD K (ctOf K) false b_law_forty) := d_law_forty F_law_forty zz_range
  have H_law_forty : DefOk l.prog w K mg base (ctOf K) "_law_forty" 1 false [] b_law_forty := ⟨_, _, _, _, K_law_forty, PySem.W.mg_of X G a_law_forty, k_law_forty, B_law_forty, .nil⟩
  have K_law_within : FnOk l.prog w K mg base CX0 1 _ _ ["_law_thing", "_law_number"] (SpD K (ctOf K) false b_law_within) := d_law_within F_law_within 
  have H_law_within : DefOk l.prog w K mg base (ctOf K) "_law_within" 1 false [] b_law_within := ⟨_, _, _, _, K_law_within, PySem.W.mg_of X G a_law_within, k_law_within, B_law_within, .nil⟩
  have K_law_none : FnOk l.prog w K mg base CX0 1 _ _ ["_law_number"] (SpD K (ctOf K) false b_law_none) := d_law_none F_law_none 
  have H_law_none : DefOk l.prog w K mg base (ctOf K) "_law_none" 1 false [] b_law_none := ⟨_, _, _, _, K_law_none, PySem.W.mg_of X G a_law_none, k_law_none, B_law_none, .nil⟩
  have K_law : FnOk l.prog w K mg base CX0 6 _ _ ["_law_script"] (SpD K (ctOf K) false b_law) := d_law F_law H_is_sum H_law_built H_law_mixed H_law_within H_law_none H_law_forty zz_range zz_min zz_len
  exact K_law
theorem walk {l : PySem.W.OpenLaw} {q : Program} {loose : List Str} {XP : (Str → Option Value) → Heap → Prop} {YP : World → Heap → Prop} {d : DefRec} {K : Params → PySem.W.Frag} (hn : l.most = some 63) (hdf : d.params.defaults = [])
    (hY : ∀ (w : World) (h : Heap), YP w h → (K w.params).In h) (hlaw : ∀ ns : List Int, ns.length ≤ 63 → (∀ z ∈ ns, bitsI z ≤ 1048576) → b_law [.lst (ns.map .int)] = .ok (.bl true))
    (F : ∀ (w : World) (mg : Str → Option Value) (fa : Addr) (h : Heap), (K w.params).In h → h.Ns mainGlobals mg → mg d.name = some (.ref fa) →
      ∃ fd : FuncData, (∀ (s : Shared) (u : Value), BindsTo s fd ⟨[u], []⟩ [("_law_script", u)]) ∧ ∀ base : Heap, (K w.params).In base → base.Ns mainGlobals mg → FnOk l.prog w (K w.params) mg base CX0 6 fa fd ["_law_script"] (SpD (K w.params) (ctOf (K w.params)) false b_law)) :
    PySem.W.WalkO q loose XP YP l.row.toRowW d [] (fun f vs => PySem.call f vs) :=
  DL.walk_of (n := 63) (k := 6) (x := "_law_script") (CX := fun _ => CX0) (sp := fun w => SpD (K w.params) (ctOf (K w.params)) false b_law) hn (by decide) hdf ⟨rfl, by decide, by decide⟩ hY F
    (fun w H a ns hl hbits _ hS => ⟨[.lst (ns.map .int)], H, Same.refl H, ⟨.ref a, [], rfl, ⟨a, _, rfl, hS, RepL.map_int ns⟩, rfl⟩, by rw [hlaw ns hl hbits]; exact fun v H' G' _ _ _ _ r => r⟩) fun _ _ _ _ _ z => z
end My
open PySem PySem.W PyProof.Rows
set_option maxRecDepth 100000 in
set_option maxHeartbeats 0 in
theorem PySem.Challenge.cw_dockethall_k72_is_a_sum_holds : PySem.Challenge.rw_dockethall_k72_is_a_sum.Holds := by
  w_on; o_law; k_head; (case hw => w_witness2)
  k_fill
  refine My.walk (l := PySem.Challenge.rw_dockethall_k72_is_a_sum) rfl rfl (fun w h Y => PySem.W.kIn_of Y) My.the_law ?F
  case F =>
    intro w mg fa h KX G hmg
    refine' My.all_mk KX G hmg ?a_sums_in ?l_sums_in ?c_sums_in ?k_sums_in ?a_is_name ?l_is_name ?c_is_name ?k_is_name ?a_is_whole ?l_is_whole ?c_is_whole ?k_is_whole ?a_is_within ?l_is_within ?c_is_within ?k_is_within ?a_has_form ?l_has_form ?c_has_form ?k_has_form ?a_parts_of ?l_parts_of ?c_parts_of ?k_parts_of ?a_is_sum ?l_is_sum ?c_is_sum ?k_is_sum ?a_law_mixed ?l_law_mixed ?c_law_mixed ?k_law_mixed ?a_law_name ?l_law_name ?c_law_name ?k_law_name ?a_law_built ?l_law_built ?c_law_built ?k_law_built ?a_law_forty ?l_law_forty ?c_law_forty ?k_law_forty ?a_law_within ?l_law_within ?c_law_within ?k_law_within ?a_law_none ?l_law_none ?c_law_none ?k_law_none ?a_law ?l_law ?c_law ?k_law ?z_isinstance ?z_str ?z_len ?z_all ?z_int ?z_bool ?z_tuple ?z_range ?z_min ?c_MOST_SIGNS ?c_LETTERS ?c_MOST_TIMES ?c_MOST_BOTTOM ?c_MOST_PARTS
    (case a_sums_in => k_is)
    (case l_sums_in => k_is)
    (case c_sums_in => k_is)
    (case k_sums_in => k_is)
    (case a_is_name => k_is)
    (case l_is_name => k_is)
    (case c_is_name => k_is)
    (case k_is_name => k_is)
    (case a_is_whole => k_is)
    (case l_is_whole => k_is)
    (case c_is_whole => k_is)
    (case k_is_whole => k_is)
    (case a_is_within => k_is)
    (case l_is_within => k_is)
    (case c_is_within => k_is)
    (case k_is_within => k_is)
    (case a_has_form => k_is)
    (case l_has_form => k_is)
    (case c_has_form => k_is)
    (case k_has_form => k_is)
    (case a_parts_of => k_is)
    (case l_parts_of => k_is)
    (case c_parts_of => k_is)
    (case k_parts_of => k_is)
    (case a_is_sum => k_is)
    (case l_is_sum => k_is)
    (case c_is_sum => k_is)
    (case k_is_sum => k_is)
    (case a_law_mixed => k_is)
    (case l_law_mixed => k_is)
    (case c_law_mixed => k_is)
    (case k_law_mixed => k_is)
    (case a_law_name => k_is)
    (case l_law_name => k_is)
    (case c_law_name => k_is)
    (case k_law_name => k_is)
    (case a_law_built => k_is)
    (case l_law_built => k_is)
    (case c_law_built => k_is)
    (case k_law_built => k_is)
    (case a_law_forty => k_is)
    (case l_law_forty => k_is)
    (case c_law_forty => k_is)
    (case k_law_forty => k_is)
    (case a_law_within => k_is)
    (case l_law_within => k_is)
    (case c_law_within => k_is)
    (case k_law_within => k_is)
    (case a_law_none => k_is)
    (case l_law_none => k_is)
    (case c_law_none => k_is)
    (case k_law_none => k_is)
    (case a_law => k_is)
    (case l_law => k_is)
    (case c_law => k_is)
    (case k_law => k_is)
    (case z_isinstance => k_is)
    (case z_str => k_is)
    (case z_len => k_is)
    (case z_all => k_is)
    (case z_int => k_is)
    (case z_bool => k_is)
    (case z_tuple => k_is)
    (case z_range => k_is)
    (case z_min => k_is)
    (case c_MOST_SIGNS => k_is)
    (case c_LETTERS => k_is)
    (case c_MOST_TIMES => k_is)
    (case c_MOST_BOTTOM => k_is)
    (case c_MOST_PARTS => k_is)

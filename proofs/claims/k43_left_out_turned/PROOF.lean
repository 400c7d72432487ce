import PyProof.Rows.All
import Wide.All
import OpenK.AllK
import Wide.FinOn
import Lean
import PyProof.EqAt
import PyProof.EqKinds
import PyProof.TupleCall
import PySem.Challenge.RW_dockethall_k43_left_out_turned
set_option Elab.async false
set_option linter.all false
set_option maxRecDepth 100000
namespace L2
open PySem PySem.Spec PyProof.Rows
abbrev Key := Sum Int Str
def keyIs : Key → Value → Bool
  | .inl k, v => Value.isInt k v
  | .inr x, v => Value.isStrOf x v
def keyH (w : World) : Key → Int
  | .inl k => hashInt k
  | .inr x => hashStr w x
theorem keyIs_shape : ∀ {k : Key} {v : Value}, keyIs k v = true → (∃ i t, k = Sum.inl i ∧ v = Value.int i t) ∨ (∃ x t, k = Sum.inr x ∧ v = Value.str x t)
  | .inl i, v, h => by
    obtain ⟨t, e⟩ := Value.isInt_shape (k := i) (v := v) h
    exact .inl ⟨i, t, rfl, e⟩
  | .inr x, v, h => by
    obtain ⟨t, e⟩ := Value.isStrOf_shape (x := x) (v := v) h
    exact .inr ⟨x, t, rfl, e⟩
theorem key_ll (a b : Int) : decide ((Sum.inl a : Key) = Sum.inl b) = (a == b) := by
  by_cases e : a = b
  · subst e; simp
  · have h : ¬ (Sum.inl a : Key) = Sum.inl b := fun q => e (Sum.inl.inj q)
    rw [decide_eq_false h]
    exact (beq_eq_false_iff_ne.mpr e).symm
theorem key_rr (a b : Str) : decide ((Sum.inr a : Key) = Sum.inr b) = decide (a = b) := by
  by_cases e : a = b
  · subst e; simp
  · have h : ¬ (Sum.inr a : Key) = Sum.inr b := fun q => e (Sum.inr.inj q)
    rw [decide_eq_false h, decide_eq_false e]
theorem key_lr (a : Int) (b : Str) : decide ((Sum.inl a : Key) = Sum.inr b) = false := decide_eq_false (fun q => nomatch q)
theorem key_rl (a : Str) (b : Int) : decide ((Sum.inr a : Key) = Sum.inl b) = false := decide_eq_false (fun q => nomatch q)
def mixKind (prog : Program) (w : World) : PySem.KeyKind prog w Key where
  is := keyIs
  hash := keyH w
  inj := fun v a b ha hb => by
    rcases keyIs_shape ha with ⟨i, t, rfl, rfl⟩ | ⟨x, t, rfl, rfl⟩
    · rcases keyIs_shape hb with ⟨j, u, rfl, e⟩ | ⟨y, u, rfl, e⟩
      · injection e with e1 _; rw [e1]
      · exact nomatch e
    · rcases keyIs_shape hb with ⟨j, u, rfl, e⟩ | ⟨y, u, rfl, e⟩
      · exact nomatch e
      · injection e with e1 _; rw [e1]
  byValue := fun k v h => by
    rcases keyIs_shape h with ⟨i, t, rfl, rfl⟩ | ⟨x, t, rfl, rfl⟩ <;> rfl
  pyHash := fun hv h => by
    rcases keyIs_shape hv with ⟨i, t, rfl, rfl⟩ | ⟨x, t, rfl, rfl⟩
    · exact wpAny_pyHash_int h
    · exact wpAny_pyHash_str h
  eqBool := fun hu hv h => by
    rcases keyIs_shape hu with ⟨i, t, rfl, rfl⟩ | ⟨x, t, rfl, rfl⟩
    · rcases keyIs_shape hv with ⟨j, u, rfl, rfl⟩ | ⟨y, u, rfl, rfl⟩
      · rw [key_ll] at h; exact wpAny_eqBool_int h
      · rw [key_lr] at h; exact SeqAt.EqAt.int_str i t y u _ _ _ _ h
    · rcases keyIs_shape hv with ⟨j, u, rfl, rfl⟩ | ⟨y, u, rfl, rfl⟩
      · rw [key_rl] at h; exact SeqAt.EqAt.str_int x t j u _ _ _ _ h
      · rw [key_rr] at h; exact wpAny_eqBool_str h
  «strs» := fun k x t v h => by
    rcases keyIs_shape h with ⟨i, u, rfl, e⟩ | ⟨y, u, rfl, e⟩
    · exact nomatch e
    · injection e with e1 _
      subst e1
      cases v <;> rfl
end L2
namespace L2
open PySem PySem.Spec PyProof.Rows
inductive V where
  | non | bl (b : Bool) | int (i : Int) | str (x : Str) | byt (b : Array UInt8) | flt (b : UInt64) | ref (a : Addr) | ty (n : String)
  deriving DecidableEq
def RelV : V → Value → Prop
  | .non, u => u = Value.none
  | .bl b, u => u = Value.bool b
  | .int i, u => ∃ t, u = Value.int i t
  | .str x, u => ∃ t, u = Value.str x t
  | .byt b, u => ∃ t, u = Value.bytes b t
  | .flt b, u => ∃ t, u = Value.float b t
  | .ref a, u => u = Value.ref a
  | .ty n, u => u = Value.type n
abbrev Vals : List V → List Value → Prop := Paired RelV
theorem Vals.length {xs : List V} {us : List Value} (r : Vals xs us) : xs.length = us.length := Paired.length r
theorem Vals.get : ∀ {xs : List V} {us : List Value} {i : Nat} {x : V}, Vals xs us → xs[i]? = some x → ∃ u, us[i]? = some u ∧ RelV x u
  | _, _, _, _, .nil, e => by simp at e
  | _, _, 0, _, .cons r _, e => by simp at e; subst e; exact ⟨_, rfl, r⟩
  | _, _, i + 1, x, .cons _ t, e => by
    obtain ⟨u, h1, h2⟩ := Vals.get (i := i) (x := x) t (by simpa using e)
    exact ⟨u, by simpa using h1, h2⟩
theorem Vals.set {x : V} {u : Value} (r : RelV x u) : ∀ {xs : List V} {us : List Value} (i : Nat), Vals xs us → Vals (xs.set i x) (us.set i u)
  | _, _, _, .nil => .nil
  | _, _, 0, .cons _ t => .cons r t
  | _, _, i + 1, .cons q t => .cons q (Vals.set r i t)
theorem Vals.append : ∀ {xs ys : List V} {us ws : List Value}, Vals xs us → Vals ys ws → Vals (xs ++ ys) (us ++ ws)
  | _, _, _, _, .nil, s => s
  | _, _, _, _, .cons r t, s => .cons r (Vals.append t s)
theorem Vals.take : ∀ {xs : List V} {us : List Value} (n : Nat), Vals xs us → Vals (xs.take n) (us.take n)
  | _, _, 0, _ => .nil
  | _, _, _ + 1, .nil => .nil
  | _, _, n + 1, .cons r t => .cons r (Vals.take n t)
theorem Vals.drop : ∀ {xs : List V} {us : List Value} (n : Nat), Vals xs us → Vals (xs.drop n) (us.drop n)
  | _, _, 0, r => r
  | _, _, _ + 1, .nil => .nil
  | _, _, n + 1, .cons _ t => Vals.drop n t
def RelO : Option V → Option Value → Prop
  | some v, some u => RelV v u
  | none, none => True
  | _, _ => False
def KV {κ : Type} : List (κ × V) → List (κ × Value) → Prop := Paired fun (p : κ × V) (q : κ × Value) => p.1 = q.1 ∧ RelV p.2 q.2
def kV : Key → V
  | .inl i => .int i
  | .inr x => .str x
inductive HO where
  /-- a list -/
  | lst (xs : List V)
  /-- a tuple (never changes) -/
  | tup (xs : List V)
  /-- a dict whose keys are ints and texts; one whose keys are tuples of ints and texts (the empty one is both) -/
  | dK (kvs : List (Key × V)) | dT (kvs : List (List Key × V))
  /-- a set of ints: its members, its size -/
  | set (S : Int → Bool) (n : Nat)
  /-- an instance of the class at C, its dict at dx, its attributes -/
  | ins (C dx : Addr) (fs : List (Str × V))
  /-- the dict of the instance at x -/
  | own (x : Addr)
  /-- the dict of an exception -/
  | xd (fs : List (Str × V))
  /-- a bound method, f of x -/
  | met (f x : Addr)
  /-- a range object lo, lo + 1, .. below hi -/
  | rng (lo hi : Int)
  /-- a thing that is known to the object (the script; a dict while a loop walks it): read, never written while it is so -/
  | frz (o : Obj) (u : HO)
  /-- a code object's table -/
  | tbl (ps : Array Value)
  /-- any other thing, by what is true of its one object (a def of one's own: SetO a S n := HO.ext fun h => ..) -/
  | ext (φ : Heap → Prop)
abbrev Hp := Addr → Option HO
def upd (H : Hp) (a : Addr) (o : HO) : Hp := fun b => if b = a then some o else H b
theorem upd_same {H : Hp} {a : Addr} {o : HO} : upd H a o a = some o := by unfold upd; rw [if_pos rfl]
theorem upd_ne {H : Hp} {a b : Addr} {o : HO} (h : b ≠ a) : upd H a o b = H b := by unfold upd; rw [if_neg h]
theorem ne_of_none {H : Hp} {a b : Addr} {o : HO} (h : H a = some o) (h' : H b = none) : a ≠ b := by
  intro e; subst e; rw [h] at h'; cases h'
section
variable (P : Program) (w : World)
def ObjOk (H : Hp) (h : Heap) (a : Addr) : HO → Prop
  | .lst xs => xs.length ≤ sizeLine ∧ ∃ (its : List Value) (n : Nat), Vals xs its ∧ h.get? a = some { cls := .type "list", data := .seq its.toArray n }
  | .tup xs => xs.length ≤ sizeLine ∧ ∃ its : List Value, Vals xs its ∧ IsTup h a its.toArray
  | .dK kvs => kvs.length ≤ sizeLine ∧ (a == sysModules) = false ∧ ∃ vs, KV kvs vs ∧ h.DictOf (mixKind P w) a vs
  | .dT kvs => kvs.length ≤ sizeLine ∧ (a == sysModules) = false ∧ ∃ xs : List (List Key × Addr × Value),
      Paired (fun (p : List Key × V) (q : List Key × Addr × Value) => p.1 = q.1 ∧ H q.2.1 = some (.tup (p.1.map kV)) ∧ RelV p.2 q.2.2) kvs xs ∧
      ∃ o es ep, h.get? a = some o ∧ o.ExactDict ∧ o.data = .dict es ep ∧ es.toList = xs.map (entryOfKey (tupleKind (mixKind P w))) ∧ (xs.map (·.1)).Nodup
  | .set S n => h.SetOf (intKind P w) a S n
  | .ins C dx fs => H dx = some (.own a) ∧ fs.length ≤ 1000 ∧ dx ≠ a ∧ h.get? a = some (PySem.W.instObj C dx) ∧
      ∃ mA, h.Ns1 dx mA ∧ (∀ f, RelO (fs.lookup f) (mA f)) ∧ PySem.Within mA (fs.map (·.1))
  | .own _ => ∃ o, h.get? a = some o
  | .xd fs => ∃ mA, h.Ns1 a mA ∧ ∀ f, RelO (fs.lookup f) (mA f)
  | .rng lo hi => ∃ t u v, h.get? a = some { cls := .type "range", data := .fields #[.int lo t, .int hi u, .int 1 v] }
  | .frz o u => h.get? a = some o ∧ ObjOk H h a u
  | .tbl ps => h.get? a = some { cls := .none, data := .fields ps }
  | .met f x => h.get? a = some (PySem.W.methodObj (.ref f) (.ref x))
  | .ext φ => φ h ∧ (∃ o, h.get? a = some o) ∧ ∀ h1 h2 : Heap, φ h1 → (∀ o, h1.get? a = some o → h2.get? a = some o) → φ h2
def HOk (H : Hp) (h : Heap) : Prop := ∀ a o, H a = some o → ObjOk P w H h a o
end
section
variable {P : Program} {w : World} {H H' : Hp} {h h' : Heap} {a : Addr} {o : HO}
theorem ObjOk.lt (x : ObjOk P w H h a o) : a < h.objs.size := by
  cases o with
  | lst xs => obtain ⟨_, _, _, _, e⟩ := x; exact Heap.lt_size e
  | tup xs => obtain ⟨_, _, _, p⟩ := x; exact p.lt
  | dK kvs => obtain ⟨_, _, _, _, o, _, _, e, _⟩ := x; exact Heap.lt_size e
  | dT kvs => obtain ⟨_, _, _, _, o, _, _, e, _⟩ := x; exact Heap.lt_size e
  | set S n => obtain ⟨o, _, _, _, e, _⟩ := x; exact Heap.lt_size e
  | ins C dx fs => obtain ⟨_, _, _, e, _⟩ := x; exact Heap.lt_size e
  | own y => obtain ⟨_, e⟩ := x; exact Heap.lt_size e
  | xd fs => obtain ⟨_, ⟨_, _, _, e, _⟩, _⟩ := x; exact Heap.lt_size e
  | rng lo hi => obtain ⟨_, _, _, e⟩ := x; exact Heap.lt_size e
  | frz ob u => obtain ⟨e, _⟩ := x; exact Heap.lt_size e
  | tbl ps => exact Heap.lt_size (show h.get? a = some _ from x)
  | met f y => exact Heap.lt_size (show h.get? a = some _ from x)
  | ext φ => obtain ⟨_, ⟨_, e⟩, _⟩ := x; exact Heap.lt_size e
theorem Paired.mapP {α β : Type} {F G : α → β → Prop} : ∀ {l₁ : List α} {l₂ : List β}, Paired F l₁ l₂ → (∀ a b, F a b → G a b) → Paired G l₁ l₂
  | _, _, .nil, _ => .nil
  | _, _, .cons r t, f => .cons (f _ _ r) (Paired.mapP t f)
theorem ObjOk.stay (x : ObjOk P w H h a o) (k : ∀ b u, (b = a ∨ H b = some (.own a)) → h.get? b = some u → h'.get? b = some u)
    (ho : ∀ b, H b = some (.own a) → H' b = some (.own a)) (ht : ∀ b xs, H b = some (.tup xs) → H' b = some (.tup xs)) : ObjOk P w H' h' a o := by
  induction o with
  | lst xs => obtain ⟨z, its, n, r, e⟩ := x; exact ⟨z, its, n, r, k _ _ (.inl rfl) e⟩
  | tup xs => obtain ⟨z, its, r, ob, e, c⟩ := x; exact ⟨z, its, r, ob, k _ _ (.inl rfl) e, c⟩
  | dK kvs => obtain ⟨z, y, vs, r, ob, es, ep, e, c⟩ := x; exact ⟨z, y, vs, r, ob, es, ep, k _ _ (.inl rfl) e, c⟩
  | dT kvs =>
    obtain ⟨z, y, xs, r, ob, es, ep, e, c⟩ := x
    exact ⟨z, y, xs, Paired.mapP r fun p q z => ⟨z.1, ht _ _ z.2.1, z.2.2⟩, ob, es, ep, k _ _ (.inl rfl) e, c⟩
  | set S n => obtain ⟨ob, es, ep, t, e, c⟩ := x; exact ⟨ob, es, ep, t, k _ _ (.inl rfl) e, c⟩
  | ins C dx fs =>
    obtain ⟨d, z, ne, e, mA, ⟨od, es, ep, e2, c⟩, r⟩ := x
    exact ⟨ho _ d, z, ne, k _ _ (.inl rfl) e, mA, ⟨od, es, ep, k _ _ (.inr d) e2, c⟩, r⟩
  | own y => obtain ⟨ob, e⟩ := x; exact ⟨ob, k _ _ (.inl rfl) e⟩
  | xd fs => obtain ⟨mA, ⟨od, es, ep, e, c⟩, r⟩ := x; exact ⟨mA, ⟨od, es, ep, k _ _ (.inl rfl) e, c⟩, r⟩
  | rng lo hi => obtain ⟨t, u, v, e⟩ := x; exact ⟨t, u, v, k _ _ (.inl rfl) e⟩
  | frz ob u ih => obtain ⟨e, q⟩ := x; exact ⟨k _ _ (.inl rfl) e, ih q⟩
  | tbl ps =>
    have e : h.get? a = some { cls := .none, data := .fields ps } := x
    show h'.get? a = some { cls := .none, data := .fields ps }
    exact k a _ (.inl rfl) e
  | met f y =>
    have e : h.get? a = some (PySem.W.methodObj (.ref f) (.ref y)) := x
    show h'.get? a = some (PySem.W.methodObj (.ref f) (.ref y))
    exact k a _ (.inl rfl) e
  | ext φ => obtain ⟨p, ⟨o, e⟩, st⟩ := x; exact ⟨st _ _ p fun o q => k _ _ (.inl rfl) q, ⟨o, k _ _ (.inl rfl) e⟩, st⟩
theorem HOk.lt (x : HOk P w H h) (e : H a = some o) : a < h.objs.size := (x a o e).lt
theorem HOk.fresh (x : HOk P w H h) (e : h.objs.size ≤ a) : H a = none := by
  cases q : H a with
  | none => rfl
  | some u => exact absurd (Nat.lt_of_lt_of_le (x.lt q) e) (Nat.lt_irrefl _)
theorem HOk.kept (x : HOk P w H h) (k : ∀ b u, h.get? b = some u → h'.get? b = some u) : HOk P w H h' := fun a o e =>
  (x a o e).stay (fun b u _ q => k b u q) (fun _ q => q) fun _ _ q => q
theorem HOk.laid (x : HOk P w H h) (k : ∀ b u, h.get? b = some u → h'.get? b = some u) (hp : h.objs.size ≤ a) (new : ObjOk P w (upd H a o) h' a o) : HOk P w (upd H a o) h' := fun b u e => by
  have hn := x.fresh hp
  by_cases hb : b = a
  · subst hb; rw [upd_same] at e; cases e; exact new
  · rw [upd_ne hb] at e
    exact (x b u e).stay (fun c v _ q => k c v q) (fun c q => by rw [upd_ne (ne_of_none q hn)]; exact q) fun c xs q => by rw [upd_ne (ne_of_none q hn)]; exact q
end
def Rd (H : Hp) (a : Addr) (u : HO) : Prop := H a = some u ∨ ∃ o, H a = some (.frz o u)
theorem Rd.of {H : Hp} {a : Addr} {u : HO} (h : H a = some u) : Rd H a u := .inl h
theorem Rd.ok {P : Program} {w : World} {H : Hp} {h : Heap} {a : Addr} {u : HO} (r : Rd H a u) (x : HOk P w H h) : ObjOk P w H h a u := by
  rcases r with r | ⟨o, r⟩
  · exact x a u r
  · obtain ⟨_, q⟩ := x a _ r
    exact q
def Mut : Option HO → Prop
  | some (.lst _) => True
  | some (.dK _) => True
  | some (.dT _) => True
  | some (.set _ _) => True
  | some (.ins _ _ _) => True
  | some (.ext _) => True
  | _ => False
section
variable {P : Program} {w : World} {H : Hp} {h h' : Heap} {x e : Addr} {o' : HO}
theorem HOk.write (ok : HOk P w H h) (mu : Mut (H x)) (he : e = x ∨ H e = some (.own x)) (k : ∀ b u, b ≠ e → h.get? b = some u → h'.get? b = some u) (heo : ∃ u, h'.get? e = some u)
    (new : ObjOk P w (upd H x o') h' x o') : HOk P w (upd H x o') h' := fun b u q => by
  have nown : ∀ c y, H c = some (.own y) → c ≠ x := fun c y r z => by subst z; rw [r] at mu; exact mu
  have ntup : ∀ c xs, H c = some (.tup xs) → c ≠ x := fun c xs r z => by subst z; rw [r] at mu; exact mu
  by_cases hb : b = x
  · subst hb; rw [upd_same] at q; cases q; exact new
  · rw [upd_ne hb] at q
    by_cases hbe : b = e
    · have q' : H b = some (.own x) := by
        rcases he with z | z
        · exact absurd (hbe.trans z) hb
        · rw [hbe]; exact z
      rw [q] at q'; cases q'
      obtain ⟨v, hv⟩ := heo
      exact ⟨v, by rw [hbe]; exact hv⟩
    · refine (ok b u q).stay (fun c v hc r => k c v ?_ r) (fun c r => by rw [upd_ne (nown c b r)]; exact r) fun c xs r => by rw [upd_ne (ntup c xs r)]; exact r
      rcases hc with rfl | hc
      · exact hbe
      · rintro rfl
        rcases he with z | z
        · exact nown c b hc z
        · rw [hc] at z; cases z; exact hb rfl
end
structure Un (fs ex : List Addr) (H H' : Hp) (h h' : Heap) : Prop where
  keep : ∀ b o, h.get? b = some o → H b = none → b ∉ fs → b ∉ ex → h'.get? b = some o
  slot : ∀ b o, h.get? b = some o → H b = none → b ∈ fs → b ∉ ex → ∃ sl, h'.get? b = some { o with slots := sl }
  free : ∀ b o, h.get? b = some o → H b = none → b ∉ ex → H' b = none
  there : ∀ b o, h.get? b = some o → b ∉ ex → ∃ o', h'.get? b = some o'
  tups : ∀ b xs, H b = some (.tup xs) → H' b = some (.tup xs)
  frzs : ∀ b o u, H b = some (.frz o u) → H' b = some (.frz o u)
  tbls : ∀ b ps, H b = some (.tbl ps) → ∃ more, H' b = some (.tbl (ps ++ more))
section
variable {fs fs' ex ex' : List Addr} {H H1 H2 : Hp} {h h1 h2 h' : Heap} {a x e : Addr} {o : HO}
theorem Un.any (u : Un fs ex H H1 h h1) {b : Addr} {ob : Obj} (q : h.get? b = some ob) (n : H b = none) (hx : b ∉ ex) : ∃ sl, h1.get? b = some { ob with slots := sl } := by
  by_cases hb : b ∈ fs
  · exact u.slot b ob q n hb hx
  · exact ⟨ob.slots, u.keep b ob q n hb hx⟩
theorem Un.trans (a : Un fs ex H H1 h h1) (b : Un fs ex H1 H2 h1 h2) : Un fs ex H H2 h h2 where
  keep := fun c ob q n hc hx => b.keep c ob (a.keep c ob q n hc hx) (a.free c ob q n hx) hc hx
  slot := fun c ob q n hc hx => by
    obtain ⟨sl, e1⟩ := a.slot c ob q n hc hx
    obtain ⟨sl', e2⟩ := b.slot c _ e1 (a.free c ob q n hx) hc hx
    exact ⟨sl', e2⟩
  free := fun c ob q n hx => by
    obtain ⟨o', e1⟩ := a.there c ob q hx
    exact b.free c o' e1 (a.free c ob q n hx) hx
  there := fun c ob q hx => by
    obtain ⟨o', e1⟩ := a.there c ob q hx
    exact b.there c o' e1 hx
  tups := fun c xs q => b.tups c xs (a.tups c xs q)
  frzs := fun c ob xs q => b.frzs c ob xs (a.frzs c ob xs q)
  tbls := fun c ps q => by
    obtain ⟨m1, e1⟩ := a.tbls c ps q
    obtain ⟨m2, e2⟩ := b.tbls c _ e1
    exact ⟨m1 ++ m2, by rw [e2, Array.append_assoc]⟩
theorem Un.kept (k : ∀ b u, h.get? b = some u → h'.get? b = some u) : Un fs ex H H h h' :=
  ⟨fun b ob q _ _ _ => k b ob q, fun b ob q _ _ _ => ⟨ob.slots, k b ob q⟩, fun _ _ _ n _ => n, fun b ob q _ => ⟨ob, k b ob q⟩, fun _ _ q => q, fun _ _ _ q => q, fun _ ps q => ⟨#[], by rw [q]; simp⟩⟩
theorem Un.refl : Un fs ex H H h h := Un.kept fun _ _ q => q
theorem Un.laid (k : ∀ b u, h.get? b = some u → h'.get? b = some u) (hp : h.objs.size ≤ a) (hn : H a = none) : Un fs ex H (upd H a o) h h' where
  keep := fun b u q _ _ _ => k b u q
  slot := fun b u q _ _ _ => ⟨u.slots, k b u q⟩
  free := fun b u q n _ => by rw [upd_ne (Nat.ne_of_lt (Nat.lt_of_lt_of_le (Heap.lt_size q) hp))]; exact n
  there := fun b u q _ => ⟨u, k b u q⟩
  tups := fun b xs q => by rw [upd_ne (ne_of_none q hn)]; exact q
  frzs := fun b u xs q => by rw [upd_ne (ne_of_none q hn)]; exact q
  tbls := fun b ps q => ⟨#[], by rw [upd_ne (ne_of_none q hn), q]; simp⟩
theorem Un.write (mu : Mut (H x)) (he : e = x ∨ H e = some (.own x)) (k : ∀ b u, b ≠ e → h.get? b = some u → h'.get? b = some u) (heo : ∃ u, h'.get? e = some u) : Un fs ex H (upd H x o) h h' := by
  have hx : ∀ b, H b = none → b ≠ x := fun b n z => by subst z; rw [n] at mu; exact mu
  have hb : ∀ b, H b = none → b ≠ e := fun b n z => by
    subst z
    rcases he with r | r
    · exact hx b n r
    · rw [n] at r; cases r
  have hm : ∀ b u, H b = some u → ¬ Mut (some u) → b ≠ x := fun b u q nm z => by subst z; rw [q] at mu; exact nm mu
  refine ⟨fun b u q n _ _ => k b u (hb b n) q, fun b u q n _ _ => ⟨u.slots, k b u (hb b n) q⟩, fun b u q n _ => by rw [upd_ne (hx b n)]; exact n, fun b u q _ => ?_,
    fun b xs q => by rw [upd_ne (hm b _ q fun z => z)]; exact q, fun b u xs q => by rw [upd_ne (hm b _ q fun z => z)]; exact q, fun b ps q => ⟨#[], by rw [upd_ne (hm b _ q fun z => z), q]; simp⟩⟩
  by_cases hbe : b = e
  · subst hbe; exact heo
  · exact ⟨u, k b u hbe q⟩
theorem Un.mono (u : Un fs ex H H1 h h1) (hs : ∀ b ∈ fs, b ∈ fs') (hx : ∀ b ∈ ex, b ∈ ex') : Un fs' ex' H H1 h h1 :=
  ⟨fun b ob q n hb he => u.keep b ob q n (fun z => hb (hs b z)) fun z => he (hx b z), fun _ _ q n _ he => u.any q n fun z => he (hx _ z), fun b ob q n he => u.free b ob q n fun z => he (hx b z), fun b ob q he => u.there b ob q fun z => he (hx b z), u.tups, u.frzs, u.tbls⟩
end
def trk (h : Heap) (H : Hp) : List Addr := (List.range h.objs.size).filter fun a => (H a).isSome
def hidT (h : Heap) (H : Hp) : Heap := PySem.W.hideAll h (trk h H)
theorem hidT_size (h : Heap) (H : Hp) : (hidT h H).objs.size = h.objs.size := PySem.W.hideAll_size _ _
theorem hidT_get {h : Heap} {H : Hp} {b : Addr} {o : Obj} (e : h.get? b = some o) (n : H b = none) : (hidT h H).get? b = some o :=
  PySem.W.hideAll_get _ e fun hm => by
    have q : (H b).isSome = true := (List.mem_filter.mp hm).2
    rw [n] at q; simp at q
theorem of_hidT {h : Heap} {H : Hp} {b : Addr} {o : Obj} (e : (hidT h H).get? b = some o) : h.get? b = some o ∧ H b = none := by
  have e' : h.get? b = some o := PySem.W.of_hideAll (trk h H) e
  refine ⟨e', ?_⟩
  cases q : H b with
  | none => rfl
  | some x =>
    have hm : b ∈ trk h H := List.mem_filter.mpr ⟨List.mem_range.mpr (Heap.lt_size e'), by simp [q]⟩
    have z : (hidT h H).get? b = none := PySem.W.hideAll_none (trk h H) hm
    rw [z] at e; cases e
def allNews (g h : Heap) (L : Addr) : List (Addr × Obj) := (List.range h.objs.size).filterMap fun a => if a = L ∨ (g.get? a).isSome = true then none else (h.get? a).map fun o => (a, o)
def rest (g h : Heap) (L d : Addr) : List (Addr × Obj) := (allNews g h L).filter fun p => decide (p.1 ≠ d)
end L2
namespace L2
open PySem PySem.Spec PyProof.Rows
structure Mod (K : PySem.W.Frag) (mg : Str → Option Value) (base : Heap) : Prop where
  kin : K.In base
  glob : base.Ns mainGlobals mg
  blt : ∃ mb, base.Ns builtinsNs mb ∧ ∀ x : Str, x ≠ "__name__" → mb x = bootBuiltins x
  nolimit : base.NoLimit
structure Cx where
  prog : Program
  w : World
  K : PySem.W.Frag
  mg : Str → Option Value
  base : Heap
  A : Around
  N : List Str
  s₀ : Shared
  H₀ : Hp
  env : Env
  outer : List Env
  stack : List Env
  ex : List Addr
  fn : Str → Bool
  calm : Bool
  pn : List (Addr × Obj)
  xe : Value → Shared → Prop
def frs (l : List Env) : List Addr := l.filterMap (·.frame)
abbrev Cx.fs (X : Cx) : List Addr := frs X.outer
def Vis (sc : Scope) (x : Str) : Prop := sc.names.lookup x = some .local ∨ sc.names.lookup x = some .cell ∨ sc.names.lookup x = some .free
def Loc (sc : Scope) (x : Str) : Prop := sc.names.lookup x = some .local ∨ sc.names.lookup x = some .cell
def Look (env : Env) (h : Heap) (m : Str → Option Value) (x : Str) (u : Value) : Prop :=
  (env.kindOf x = some .local ∧ m x = some u) ∨ ((env.kindOf x = some .cell ∨ env.kindOf x = some .free) ∧ ∃ c, env.cells.lookup x = some c ∧ h.IsCell c (some u))
structure Cx.Ok (X : Cx) : Prop where
  mod : Mod X.K X.mg X.base
  kind : X.env.scope.kind = .function
  glob : X.env.globals = mainGlobals
  blt : X.env.builtins = builtinsNs
  above : X.s₀.heap.objs.size ≤ X.env.locals
  inj : ∀ x y c, X.env.cells.lookup x = some c → X.env.cells.lookup y = some c → x = y
  has : ∀ x, (X.env.kindOf x = some .cell ∨ X.env.kindOf x = some .free) → ∃ c, X.env.cells.lookup x = some c
  cab : ∀ x c, X.fn x = true → X.env.cells.lookup x = some c → X.s₀.heap.objs.size ≤ c
  hd : X.calm = true → X.A.handled = none
  frames : X.A.frames = some X.stack
  stk : X.stack = X.outer ∨ (X.stack = X.env :: X.outer ∧ X.env.frame = some X.env.locals)
  exf : ∀ b ∈ X.ex, b ≠ X.env.locals ∧ ∀ x c, X.env.cells.lookup x = some c → c ≠ b
  bs : ∀ b o, X.base.get? b = some o → X.s₀.heap.get? b = some o ∧ X.H₀ b = none
  bsz : X.base.objs.size ≤ X.s₀.heap.objs.size
  noex : ∀ b o, X.base.get? b = some o → b ∉ X.ex
  exfs : ∀ b ∈ X.ex, b ∉ X.fs
  funs : X.s₀.heap.FunFrames X.base X.outer
  frf : ∀ b ∈ X.fs, X.H₀ b = none
structure Inv (X : Cx) (pins : List (Addr × Obj)) (σ : List (Option V)) (H : Hp) (s : Shared) : Prop where
  ok : X.Ok
  os : s.os = X.s₀.os
  bare : AllBare s.gens
  base : Un X.fs X.ex X.H₀ H X.s₀.heap s.heap
  loc : ∃ m, s.heap.Ns X.env.locals m ∧ ∀ (i : Nat) (x : Str) (v : V), X.N[i]? = some x → σ[i]? = some (some v) → Vis X.env.scope x → ∃ u, RelV v u ∧ Look X.env s.heap m x u
  cell : ∀ x c, X.env.cells.lookup x = some c → ∃ v, s.heap.IsCell c v
  free : H X.env.locals = none
  freeC : ∀ x c, X.env.cells.lookup x = some c → H c = none
  pin : ∀ p ∈ X.pn ++ pins, s.heap.get? p.1 = some p.2 ∧ H p.1 = none ∧ p.1 ≠ X.env.locals ∧ p.1 ∉ X.fs ∧ ∀ v, p.2.data ≠ .cell v
  hok : HOk X.prog X.w H s.heap
  len : σ.length = X.N.length
section
variable {X : Cx} {pins : List (Addr × Obj)} {σ : List (Option V)} {H H' : Hp} {s : Shared} {h' : Heap}
theorem Cx.Ok.nofr (ok : X.Ok) {b : Addr} {o : Obj} (e : X.base.get? b = some o) : b ∉ X.fs := fun hb => by
  have := (ok.funs.mem hb).1
  rw [e] at this; cases this
theorem Inv.bs (I : Inv X pins σ H s) : ∀ b o, X.base.get? b = some o → s.heap.get? b = some o ∧ H b = none := fun b o e =>
  ⟨I.base.keep b o (I.ok.bs b o e).1 (I.ok.bs b o e).2 (I.ok.nofr e) (I.ok.noex b o e), I.base.free b o (I.ok.bs b o e).1 (I.ok.bs b o e).2 (I.ok.noex b o e)⟩
theorem Inv.bk (I : Inv X pins σ H s) : ∀ b o, X.base.get? b = some o → s.heap.get? b = some o := fun b o e => (I.bs b o e).1
theorem Inv.mod (I : Inv X pins σ H s) : Mod X.K X.mg X.base := I.ok.mod
theorem Inv.kIn (I : Inv X pins σ H s) : X.K.In s.heap := I.ok.mod.kin.keeps I.bk
theorem Inv.nolimit (I : Inv X pins σ H s) : s.heap.NoLimit := I.ok.mod.nolimit.keeps I.bk
theorem Inv.fr (I : Inv X pins σ H s) : ∃ m, Fr X.base X.env.locals s.heap m :=
  let ⟨m, hn, _⟩ := I.loc
  ⟨m, hn, I.bk, Nat.le_trans I.ok.bsz I.ok.above⟩
theorem Inv.lt (I : Inv X pins σ H s) : X.env.locals < s.heap.objs.size := let ⟨_, hn, _⟩ := I.loc; hn.lt
theorem Inv.sz (I : Inv X pins σ H s) : X.s₀.heap.objs.size ≤ s.heap.objs.size := Nat.le_trans I.ok.above (Nat.le_of_lt I.lt)
theorem Inv.nofs (I : Inv X pins σ H s) {a : Addr} (h : s.heap.objs.size ≤ a) : a ∉ X.fs := fun hb => by
  obtain ⟨_, o, ho, _⟩ := I.ok.funs.mem hb
  exact absurd (Nat.lt_of_lt_of_le (Heap.lt_size ho) (Nat.le_trans I.sz h)) (Nat.lt_irrefl _)
theorem Inv.cne (I : Inv X pins σ H s) : ∀ x c, X.env.cells.lookup x = some c → c ≠ X.env.locals := fun x c e z => by
  obtain ⟨v, o, ho, hd⟩ := I.cell x c e
  obtain ⟨m, ⟨o', es, ep, ho', hd', _⟩, _⟩ := I.loc
  rw [z, ho'] at ho; cases ho; rw [hd'] at hd; cases hd
theorem Inv.funs (I : Inv X pins σ H s) : s.heap.FunFrames X.base X.outer := by
  have all : ∀ (l : List Env), (∀ b ∈ frs l, b ∈ X.fs) → X.s₀.heap.FunFrames X.base l → s.heap.FunFrames X.base l := by
    intro l
    induction l with
    | nil => intro _ _; trivial
    | cons env r ih =>
      intro hs hl
      obtain ⟨hk, ⟨L, o, hf, hn, ho, hd⟩, hr⟩ := hl
      have hL : L ∈ X.fs := hs L (by unfold frs; rw [List.filterMap_cons, hf]; exact List.mem_cons_self)
      obtain ⟨sl, e⟩ := I.base.slot L o ho (I.ok.frf L hL) hL fun z => I.ok.exfs L z hL
      exact ⟨hk, ⟨L, _, hf, hn, e, hd⟩, ih (fun b hb => hs b (by unfold frs; rw [List.filterMap_cons, hf]; exact List.mem_cons_of_mem _ hb)) hr⟩
  exact all X.outer (fun _ hb => hb) I.ok.funs
theorem Inv.stack (I : Inv X pins σ H s) : s.heap.FunFrames X.base X.stack := by
  rcases I.ok.stk with e | ⟨e, hf⟩
  · rw [e]; exact I.funs
  · rw [e]
    obtain ⟨m, hn, _⟩ := I.loc
    refine .cons (by rw [I.ok.kind]; decide) hf hn ?_ I.funs
    exact Heap.get?_none_of_le (Nat.le_trans I.ok.bsz I.ok.above)
theorem Inv.stkSub (I : Inv X pins σ H s) : ∀ b ∈ frs X.stack, b ∈ X.env.locals :: X.fs := fun b hb => by
  rcases I.ok.stk with e | ⟨e, hf⟩
  · rw [e] at hb; exact List.mem_cons_of_mem _ hb
  · rw [e] at hb
    unfold frs at hb
    rw [List.filterMap_cons, hf] at hb
    exact hb
theorem Inv.stkFree (I : Inv X pins σ H s) : ∀ b ∈ frs X.stack, H b = none := fun b hb => by
  rcases List.mem_cons.mp (I.stkSub b hb) with e | hb
  · rw [e]; exact I.free
  · obtain ⟨_, o, ho, _⟩ := I.ok.funs.mem hb
    exact I.base.free b o ho (I.ok.frf b hb) fun z => I.ok.exfs b z hb
theorem Inv.step {g' : Array GenState} {t' : Nat} {d' : Drawn} {ch : List Addr} (I : Inv X pins σ H s)
    (hch : ∀ b ∈ ch, (b ∈ X.ex ∨ X.s₀.heap.objs.size ≤ b) ∧ b ≠ X.env.locals ∧ (∀ x c, X.env.cells.lookup x = some c → c ≠ b) ∧ ∀ p ∈ X.pn ++ pins, p.1 ≠ b)
    (keep : ∀ b o, b ≠ X.env.locals → b ∉ X.fs → b ∉ ch → s.heap.get? b = some o → H b = none → h'.get? b = some o)
    (slot : ∀ b o, b ≠ X.env.locals → b ∈ X.fs → b ∉ ch → s.heap.get? b = some o → H b = none → ∃ sl, h'.get? b = some { o with slots := sl }) (free : ∀ b o, b ∉ ch → s.heap.get? b = some o → H b = none → H' b = none)
    (there : ∀ b o, b ∉ ch → s.heap.get? b = some o → ∃ o', h'.get? b = some o')
    (tups : ∀ b xs, H b = some (.tup xs) → H' b = some (.tup xs)) (frzs : ∀ b o u, H b = some (.frz o u) → H' b = some (.frz o u)) (tbls : ∀ b ps, H b = some (.tbl ps) → ∃ more, H' b = some (.tbl (ps ++ more)))
    (ns : ∀ m, s.heap.Ns X.env.locals m → h'.Ns X.env.locals m) (hok : HOk X.prog X.w H' h') (hg : AllBare g') :
    Inv X pins σ H' { s with heap := h', gens := g', drawn := d', toks := t' } := by
  have neL : ∀ b o, X.s₀.heap.get? b = some o → b ≠ X.env.locals := fun b o e => Nat.ne_of_lt (Nat.lt_of_lt_of_le (Heap.lt_size e) I.ok.above)
  have neC : ∀ b o, X.s₀.heap.get? b = some o → b ∉ X.ex → b ∉ ch := fun b o e hx hb => by
    rcases (hch b hb).1 with z | z
    · exact hx z
    · exact absurd (Nat.lt_of_lt_of_le (Heap.lt_size e) z) (Nat.lt_irrefl _)
  have cellK : ∀ x c, X.env.cells.lookup x = some c → ∀ v, s.heap.IsCell c v → h'.IsCell c v := fun x c e v ⟨o, ho, hd⟩ => by
    have nch : c ∉ ch := fun z => (hch c z).2.2.1 x c e rfl
    by_cases hc : c ∈ X.fs
    · obtain ⟨sl, q⟩ := slot c o (I.cne x c e) hc nch ho (I.freeC x c e)
      exact ⟨_, q, hd⟩
    · exact ⟨o, keep c o (I.cne x c e) hc nch ho (I.freeC x c e), hd⟩
  refine ⟨I.ok, I.os, hg, ⟨fun b o e n hb hx => ?_, fun b o e n hb hx => ?_, fun b o e n hx => ?_, fun b o e hx => ?_, fun b xs e => tups b xs (I.base.tups b xs e), fun b o xs e => frzs b o xs (I.base.frzs b o xs e), fun b ps e => ?_⟩, ?_, fun x c e => ?_, ?_, fun x c e => ?_, fun p hp => ?_, hok, I.len⟩
  · exact keep b o (neL b o e) hb (neC b o e hx) (I.base.keep b o e n hb hx) (I.base.free b o e n hx)
  · obtain ⟨sl, e1⟩ := I.base.slot b o e n hb hx
    obtain ⟨sl', e2⟩ := slot b _ (neL b o e) hb (neC b o e hx) e1 (I.base.free b o e n hx)
    exact ⟨sl', e2⟩
  · obtain ⟨o', e1⟩ := I.base.there b o e hx
    exact free b o' (neC b o e hx) e1 (I.base.free b o e n hx)
  · obtain ⟨o', e1⟩ := I.base.there b o e hx
    exact there b o' (neC b o e hx) e1
  · obtain ⟨m1, e1⟩ := I.base.tbls b ps e
    obtain ⟨m2, e2⟩ := tbls b _ e1
    exact ⟨m1 ++ m2, by rw [e2, Array.append_assoc]⟩
  · obtain ⟨m, hn, hl⟩ := I.loc
    refine ⟨m, ns m hn, fun i x v e1 e2 e3 => ?_⟩
    obtain ⟨u, r, l⟩ := hl i x v e1 e2 e3
    refine ⟨u, r, ?_⟩
    rcases l with l | ⟨k, c, e, z⟩
    · exact .inl l
    · exact .inr ⟨k, c, e, cellK x c e _ z⟩
  · obtain ⟨v, z⟩ := I.cell x c e
    exact ⟨v, cellK x c e v z⟩
  · obtain ⟨m, ⟨o, _, _, ho, _⟩, _⟩ := I.loc
    exact free _ o (fun z => (hch _ z).2.1 rfl) ho I.free
  · obtain ⟨v, o, ho, hd⟩ := I.cell x c e
    exact free c o (fun z => (hch c z).2.2.1 x c e rfl) ho (I.freeC x c e)
  · obtain ⟨e, n, ne, nf, d⟩ := I.pin p hp
    have nch : p.1 ∉ ch := fun z => (hch p.1 z).2.2.2 p hp rfl
    exact ⟨keep p.1 p.2 ne nf nch e n, free p.1 p.2 nch e n, ne, nf, d⟩
theorem Inv.un {t' : Nat} (I : Inv X pins σ H s) (u : Un X.fs [] H H' s.heap h') (hok : HOk X.prog X.w H' h') : Inv X pins σ H' { s with heap := h', toks := t' } := by
  obtain ⟨m, ⟨o, es, ep, ho, r⟩, _⟩ := id I.loc
  obtain ⟨sl, hL⟩ := u.any ho I.free (by simp)
  exact I.step (g' := s.gens) (d' := s.drawn) (ch := []) (fun _ z => nomatch z) (fun b o _ hb _ e n => u.keep b o e n hb (by simp)) (fun b o _ hb _ e n => u.slot b o e n hb (by simp)) (fun b o _ e n => u.free b o e n (by simp)) (fun b o _ e => u.there b o e (by simp)) u.tups u.frzs u.tbls (fun m' hm => by
    obtain ⟨o', es', ep', ho', r'⟩ := hm
    rw [ho] at ho'; cases ho'
    exact ⟨_, es', ep', hL, r'⟩) hok I.bare
theorem Inv.call {g' : Array GenState} {t' : Nat} {d' : Drawn} {ch : List Addr} (I : Inv X pins σ H s) (u : Un (frs X.stack) ch H H' s.heap h') (hok : HOk X.prog X.w H' h') (hg : AllBare g')
    (hch : ∀ b ∈ ch, (b ∈ X.ex ∨ X.s₀.heap.objs.size ≤ b) ∧ b ≠ X.env.locals ∧ (∀ x c, X.env.cells.lookup x = some c → c ≠ b) ∧ ∀ p ∈ X.pn ++ pins, p.1 ≠ b) :
    Inv X pins σ H' { s with heap := h', gens := g', drawn := d', toks := t' } := by
  obtain ⟨m, ⟨o, es, ep, ho, r⟩, _⟩ := id I.loc
  obtain ⟨sl, hL⟩ := u.any ho I.free fun z => (hch _ z).2.1 rfl
  exact I.step (ch := ch) hch (fun b o hL hb hc e n => u.keep b o e n (fun z => (List.mem_cons.mp (I.stkSub b z)).elim hL hb) hc) (fun b o _ _ hc e n => u.any e n hc) (fun b o hc e n => u.free b o e n hc) (fun b o hc e => u.there b o e hc) u.tups u.frzs u.tbls (fun m' hm => by
    obtain ⟨o', es', ep', ho', r'⟩ := hm
    rw [ho] at ho'; cases ho'
    exact ⟨_, es', ep', hL, r'⟩) hok hg
theorem Inv.turned {t' : Nat} {it : Addr} (I : Inv X pins σ H s) (k : ∀ b o, b ≠ it → s.heap.get? b = some o → h'.get? b = some o) (hn : H it = none) (hL : it ≠ X.env.locals)
    (h1 : it ∈ X.ex ∨ X.s₀.heap.objs.size ≤ it) (h2 : ∀ x c, X.env.cells.lookup x = some c → c ≠ it) (h3 : ∀ p ∈ X.pn ++ pins, p.1 ≠ it) : Inv X pins σ H { s with heap := h', toks := t' } := by
  have nit : ∀ b u, H b = some u → b ≠ it := fun b u e z => by rw [z, hn] at e; cases e
  refine I.step (g' := s.gens) (d' := s.drawn) (ch := [it]) (fun b hb => ?_) (fun b o _ _ hc e _ => k b o (fun z => hc (by simp [z])) e) (fun b o _ _ hc e _ => ⟨o.slots, k b o (fun z => hc (by simp [z])) e⟩) (fun _ _ _ _ n => n)
    (fun b o hc e => ⟨o, k b o (fun z => hc (by simp [z])) e⟩) (fun _ _ e => e) (fun _ _ _ e => e) (fun b ps e => ⟨#[], by rw [e]; simp⟩) (fun m hm => ?_) (fun b u e => ?_) I.bare
  · have e : b = it := by simpa using hb
    subst e
    exact ⟨h1, hL, h2, h3⟩
  · obtain ⟨o, es, ep, ho, r⟩ := hm
    exact ⟨o, es, ep, k _ o (Ne.symm hL) ho, r⟩
  · refine (I.hok b u e).stay (fun c v hc q => k c v ?_ q) (fun _ q => q) fun _ _ q => q
    rcases hc with z | z
    · rw [z]; exact nit b u e
    · exact nit c _ z
theorem Inv.tok (I : Inv X pins σ H s) (t : Nat) : Inv X pins σ H { s with toks := t } := I.un (h' := s.heap) (t' := t) Un.refl I.hok
theorem Inv.kept {t' : Nat} (I : Inv X pins σ H s) (k : ∀ b u, s.heap.get? b = some u → h'.get? b = some u) : Inv X pins σ H { s with heap := h', toks := t' } := I.un (Un.kept k) (I.hok.kept k)
theorem Inv.laid {a : Addr} {o : HO} {t' : Nat} (I : Inv X pins σ H s) (k : ∀ b u, s.heap.get? b = some u → h'.get? b = some u) (hp : s.heap.objs.size ≤ a) (new : ObjOk X.prog X.w (upd H a o) h' a o) :
    Inv X pins σ (upd H a o) { s with heap := h', toks := t' } := I.un (Un.laid k hp (I.hok.fresh hp)) (I.hok.laid k hp new)
theorem Inv.write {x e : Addr} {o : HO} {t' : Nat} (I : Inv X pins σ H s) (mu : Mut (H x)) (he : e = x ∨ H e = some (.own x)) (k : ∀ b u, b ≠ e → s.heap.get? b = some u → h'.get? b = some u) (heo : ∃ u, h'.get? e = some u)
    (new : ObjOk X.prog X.w (upd H x o) h' x o) : Inv X pins σ (upd H x o) { s with heap := h', toks := t' } := I.un (Un.write mu he k heo) (I.hok.write mu he k heo new)
theorem Inv.weak {σ' : List (Option V)} (I : Inv X pins σ H s) (hl : σ'.length = σ.length) (w : ∀ (i : Nat) v, σ'[i]? = some (some v) → σ[i]? = some (some v)) : Inv X pins σ' H s :=
  ⟨I.ok, I.os, I.bare, I.base, let ⟨m, hn, hl'⟩ := I.loc; ⟨m, hn, fun i x v e1 e2 e3 => hl' i x v e1 (w i v e2) e3⟩, I.cell, I.free, I.freeC, I.pin, I.hok, hl.trans I.len⟩
theorem Inv.pins_of {pins' : List (Addr × Obj)} (I : Inv X pins σ H s) (h : ∀ p ∈ pins', s.heap.get? p.1 = some p.2 ∧ H p.1 = none ∧ p.1 ≠ X.env.locals ∧ p.1 ∉ X.fs ∧ ∀ v, p.2.data ≠ .cell v) : Inv X pins' σ H s :=
  ⟨I.ok, I.os, I.bare, I.base, I.loc, I.cell, I.free, I.freeC, fun p hp => (List.mem_append.mp hp).elim (fun z => I.pin p (List.mem_append_left _ z)) (h p), I.hok, I.len⟩
theorem nodup_ix {N : List Str} (hN : N.Nodup) {i j : Nat} {x : Str} (a : N[i]? = some x) (b : N[j]? = some x) : i = j := by
  obtain ⟨h1, e1⟩ := List.getElem?_eq_some_iff.mp a
  obtain ⟨h2, e2⟩ := List.getElem?_eq_some_iff.mp b
  exact (List.getElem_inj hN).mp (e1.trans e2.symm)
theorem store_ok2 {M : Model} {A : Around} {E : Value → Shared → Prop} {i : Nat} {x : Str} {v : V} {u : Value} {Q : Unit → Shared → Prop} (I : Inv X pins σ H s) (hN : X.N.Nodup) (hi : X.N[i]? = some x) (hx : Loc X.env.scope x) (r : RelV v u)
    (h : ∀ s', Inv X pins (σ.set i (some v)) H s' → (∃ a, Heap.SameBut a s.heap s'.heap ∧ (a = X.env.locals ∨ X.env.cells.lookup x = some a)) → Q () s') (hf : X.fn x = true ∨ X.env.scope.names.lookup x = some .local := by first | exact .inl rfl | exact .inr rfl | assumption) : wpAny M A (storeName X.env x u) Q E s := by
  obtain ⟨m, hn, hl⟩ := id I.loc
  have hcls : (X.env.scope.kind == .class || (X.env.scope.kind == .module && X.env.locals != X.env.globals)) = false := by rw [I.ok.kind]; rfl
  have hiσ : i < σ.length := by rw [I.len]; exact (List.getElem?_eq_some_iff.mp hi).1
  have cne := I.cne
  have tracked : ∀ {a : Addr} {h' : Heap}, (∃ o, s.heap.get? a = some o ∧ H a = none) → Heap.SameBut a s.heap h' → HOk X.prog X.w H h' := fun {a h'} ha hs b ob e => by
    obtain ⟨_, _, hfree⟩ := ha
    refine (I.hok b ob e).stay (fun c w' hc q => (hs.2 c ?_).trans q) (fun _ q => q) fun _ _ q => q
    rintro rfl
    rcases hc with rfl | hc
    · rw [hfree] at e; cases e
    · rw [hfree] at hc; cases hc
  rcases hx with hk | hk
  · refine wpAny_storeName_local hk hn (fun h' hn' hs => ?_) hcls
    obtain ⟨oL, _, _, hoL, _⟩ := id hn
    refine h _ ⟨I.ok, I.os, I.bare, ⟨fun b o e n hb hx => ?_, fun b o e n hb hx => ?_, I.base.free, fun b o e hx => ?_, I.base.tups, I.base.frzs, I.base.tbls⟩, ⟨_, hn', fun j y v' e1 e2 e3 => ?_⟩, fun y c e => ?_, I.free, I.freeC, fun p hp => ?_, tracked ⟨oL, hoL, I.free⟩ hs, by simpa using I.len⟩ ⟨_, hs, .inl rfl⟩
    · exact (hs.2 b (Nat.ne_of_lt (Nat.lt_of_lt_of_le (Heap.lt_size e) I.ok.above))).trans (I.base.keep b o e n hb hx)
    · obtain ⟨sl, e1⟩ := I.base.slot b o e n hb hx
      exact ⟨sl, (hs.2 b (Nat.ne_of_lt (Nat.lt_of_lt_of_le (Heap.lt_size e) I.ok.above))).trans e1⟩
    · obtain ⟨o', e1⟩ := I.base.there b o e hx
      exact ⟨o', (hs.2 b (Nat.ne_of_lt (Nat.lt_of_lt_of_le (Heap.lt_size e) I.ok.above))).trans e1⟩
    · by_cases hj : j = i
      · subst hj
        rw [hi] at e1; cases e1
        rw [List.getElem?_set_self hiσ] at e2
        cases e2
        exact ⟨u, r, .inl ⟨hk, by simp⟩⟩
      · rw [List.getElem?_set_ne (Ne.symm hj)] at e2
        obtain ⟨u', r', q⟩ := hl j y v' e1 e2 e3
        refine ⟨u', r', ?_⟩
        rcases q with ⟨k, e⟩ | ⟨k, c, e, z⟩
        · refine .inl ⟨k, ?_⟩
          have : y ≠ x := fun e => hj (nodup_ix hN e1 (e ▸ hi))
          simp [this, e]
        · exact .inr ⟨k, c, e, z.sameBut hs (cne y c e)⟩
    · obtain ⟨w', z⟩ := I.cell y c e
      exact ⟨w', z.sameBut hs (cne y c e)⟩
    · obtain ⟨e, n, ne, nf, d⟩ := I.pin p hp
      exact ⟨(hs.2 p.1 ne).trans e, n, ne, nf, d⟩
  · have hfn : X.fn x = true := by
      rcases hf with z | z
      · exact z
      · rw [z] at hk; cases hk
    obtain ⟨c, hc⟩ := I.ok.has x (.inl hk)
    obtain ⟨w', z⟩ := I.cell x c hc
    refine wpAny_storeName_cell I.ok.kind hk hc z (fun h' hc' hs => ?_)
    obtain ⟨oc, hoc, hocd⟩ := id z
    refine h { s with heap := h' } ⟨I.ok, I.os, I.bare, ⟨fun b o e n hb hx => ?_, fun b o e n hb hx => ?_, I.base.free, fun b o e hx => ?_, I.base.tups, I.base.frzs, I.base.tbls⟩, ⟨m, hn.sameBut hs (Ne.symm (cne x c hc)), fun j y v' e1 e2 e3 => ?_⟩, fun y c' e => ?_, I.free, I.freeC, fun p hp => ?_, tracked ⟨oc, hoc, I.freeC x c hc⟩ hs, by simpa using I.len⟩ ⟨c, hs, .inr hc⟩
    · exact (hs.2 b (Nat.ne_of_lt (Nat.lt_of_lt_of_le (Heap.lt_size e) (I.ok.cab x c hfn hc)))).trans (I.base.keep b o e n hb hx)
    · obtain ⟨sl, e1⟩ := I.base.slot b o e n hb hx
      exact ⟨sl, (hs.2 b (Nat.ne_of_lt (Nat.lt_of_lt_of_le (Heap.lt_size e) (I.ok.cab x c hfn hc)))).trans e1⟩
    · obtain ⟨o', e1⟩ := I.base.there b o e hx
      exact ⟨o', (hs.2 b (Nat.ne_of_lt (Nat.lt_of_lt_of_le (Heap.lt_size e) (I.ok.cab x c hfn hc)))).trans e1⟩
    · by_cases hj : j = i
      · subst hj
        rw [hi] at e1; cases e1
        rw [List.getElem?_set_self hiσ] at e2
        cases e2
        exact ⟨u, r, .inr ⟨.inl hk, c, hc, hc'⟩⟩
      · rw [List.getElem?_set_ne (Ne.symm hj)] at e2
        obtain ⟨u', r', q⟩ := hl j y v' e1 e2 e3
        refine ⟨u', r', ?_⟩
        rcases q with q | ⟨k, c', e, z'⟩
        · exact .inl q
        · refine .inr ⟨k, c', e, z'.sameBut hs ?_⟩
          rintro rfl
          exact hj (nodup_ix hN e1 (I.ok.inj _ _ _ e hc ▸ hi))
    · by_cases hcc : c' = c
      · subst hcc; exact ⟨_, hc'⟩
      · obtain ⟨w2, z2⟩ := I.cell y c' e
        exact ⟨w2, z2.sameBut hs hcc⟩
    · obtain ⟨e, n, ne, nf, d⟩ := I.pin p hp
      refine ⟨(hs.2 p.1 ?_).trans e, n, ne, nf, d⟩
      intro q
      rw [q, hoc] at e
      have q' : oc = p.2 := Option.some.inj e
      exact d w' (by rw [← q']; exact hocd)
theorem store_ok {M : Model} {A : Around} {E : Value → Shared → Prop} {i : Nat} {x : Str} {v : V} {u : Value} {Q : Unit → Shared → Prop} (I : Inv X pins σ H s) (hN : X.N.Nodup) (hi : X.N[i]? = some x) (hx : Loc X.env.scope x) (r : RelV v u)
    (h : ∀ s', Inv X pins (σ.set i (some v)) H s' → Q () s') (hf : X.fn x = true ∨ X.env.scope.names.lookup x = some .local := by first | exact .inl rfl | exact .inr rfl | assumption) : wpAny M A (storeName X.env x u) Q E s :=
  store_ok2 I hN hi hx r (fun s' I' _ => h s' I') hf
theorem Inv.call' {s' : Shared} {ch : List Addr} (I : Inv X pins σ H s) (ho : s'.os = s.os) (u : Un (frs X.stack) ch H H' s.heap s'.heap) (hok : HOk X.prog X.w H' s'.heap) (hg : AllBare s'.gens)
    (hch : ∀ b ∈ ch, (b ∈ X.ex ∨ X.s₀.heap.objs.size ≤ b) ∧ b ≠ X.env.locals ∧ (∀ x c, X.env.cells.lookup x = some c → c ≠ b) ∧ ∀ p ∈ X.pn ++ pins, p.1 ≠ b) : Inv X pins σ H' s' := by
  obtain ⟨h', g', d', t', o'⟩ := s'
  have e : o' = s.os := ho
  subst e
  exact I.call (g' := g') (t' := t') (d' := d') u hok hg hch
end
abbrev XK := Value → Option Addr → Hp → Prop
abbrev St := List (Option V)
abbrev VK := V → Hp → Prop
abbrev TE := St → Hp → VK → Prop
abbrev TT := St → Hp → (Bool → Hp → Prop) → Prop
abbrev TA := St → Hp → (List V → Hp → Prop) → Prop
structure Ends where
  nx : St → Hp → Prop
  rt : VK
  bk : St → Hp → Prop := fun _ _ => False
  ct : St → Hp → Prop := fun _ _ => False
abbrev TS := Ends → St → Hp → Prop
def EP (X : Cx) (pins : List (Addr × Obj)) (σ : St) (Q : VK) (u : Value) (s' : Shared) : Prop := ∃ v H', Inv X pins σ H' s' ∧ RelV v u ∧ Q v H'
def TP (X : Cx) (pins : List (Addr × Obj)) (σ : St) (Q : Bool → Hp → Prop) (b : Bool) (s' : Shared) : Prop := ∃ H', Inv X pins σ H' s' ∧ Q b H'
def AP (X : Cx) (pins : List (Addr × Obj)) (σ : St) (Q : List V → Hp → Prop) (us : List Value) (s' : Shared) : Prop := ∃ vs H', Inv X pins σ H' s' ∧ Vals vs us ∧ Q vs H'
def SP (X : Cx) (pins : List (Addr × Obj)) (D : Ends) (f : Flow) (s' : Shared) : Prop :=
  match f with
  | .next => ∃ σ' H', Inv X pins σ' H' s' ∧ D.nx σ' H'
  | .brk => ∃ σ' H', Inv X pins σ' H' s' ∧ D.bk σ' H'
  | .cont => ∃ σ' H', Inv X pins σ' H' s' ∧ D.ct σ' H'
  | .ret u => ∃ v σ' H', Inv X pins σ' H' s' ∧ RelV v u ∧ D.rt v H'
def PE (X : Cx) (e : Expr) (t : TE) : Prop :=
  ∀ (pins : List (Addr × Obj)) (s : Shared) (σ : St) (H : Hp) (Q : VK), Inv X pins σ H s → t σ H Q → wpAny (model X.prog X.w) X.A (eval e X.env) (EP X pins σ Q) X.xe s
def PT (X : Cx) (e : Expr) (t : TT) : Prop :=
  ∀ (pins : List (Addr × Obj)) (s : Shared) (σ : St) (H : Hp) (Q : Bool → Hp → Prop), Inv X pins σ H s → t σ H Q → wpAny (model X.prog X.w) X.A (isTrue e X.env (eval e X.env)) (TP X pins σ Q) X.xe s
def PW (X : Cx) (e : Expr) (t : TT) : Prop :=
  ∀ (whole : Sem Value) (pins : List (Addr × Obj)) (s : Shared) (σ : St) (H : Hp) (Q : Bool → Hp → Prop), Inv X pins σ H s → t σ H Q → wpAny (model X.prog X.w) X.A (isTrue e X.env whole) (TP X pins σ Q) X.xe s
theorem PW.pt {X : Cx} {e : Expr} {t : TT} (h : PW X e t) : PT X e t := h _
def PA (X : Cx) (es : List Expr) (t : TA) : Prop :=
  ∀ (pos : Pos) (pins : List (Addr × Obj)) (s : Shared) (σ : St) (H : Hp) (Q : List V → Hp → Prop), Inv X pins σ H s → t σ H Q → wpAny (model X.prog X.w) X.A (spliced (backTo pos (starEach es X.env))) (AP X pins σ Q) X.xe s
def PS (X : Cx) (st : Stmt) (t : TS) : Prop :=
  ∀ (pins : List (Addr × Obj)) (s : Shared) (σ : St) (H : Hp) (D : Ends), Inv X pins σ H s → t D σ H → wpAny (model X.prog X.w) X.A (exec st X.env) (SP X pins D) X.xe s
def PSs (X : Cx) (st : List Stmt) (t : TS) : Prop :=
  ∀ (pins : List (Addr × Obj)) (s : Shared) (σ : St) (H : Hp) (D : Ends), Inv X pins σ H s → t D σ H → wpAny (model X.prog X.w) X.A (execs st X.env) (SP X pins D) X.xe s
theorem thn {α : Type} {t : Sem α} {Q Q' : α → Shared → Prop} {M : Model} {A : Around} {E : Value → Shared → Prop} {s : Shared} (h : wpAny M A t Q E s) (hQ : ∀ a s, Q a s → Q' a s) : wpAny M A t Q' E s := wpAny_mono h hQ fun _ _ x => x
end L2
namespace L2
open PySem PySem.Spec PyProof.Rows
section
variable {X : Cx}
def tVar (i : Nat) : TE := fun σ H Q => ∃ v, σ[i]? = some (some v) ∧ Q v H
def tC (v : V) : TE := fun _ H Q => Q v H
theorem pe_var {i : Nat} {x : Str} {pos : Pos} (hN : X.N[i]? = some x) (hv : Vis X.env.scope x) (hd : (x == ("__debug__" : Str)) = false := by decide) (hcd : (x == ("__classdict__" : Str)) = false := by decide) : PE X (.Name x pos) (tVar i) := by
  intro pins s σ H Q I h
  obtain ⟨v, e, h⟩ := h
  obtain ⟨m, hn, hl⟩ := I.loc
  obtain ⟨u, r, l⟩ := hl i x v hN e hv
  have fin : EP X pins σ Q u s := ⟨v, H, I, r, h⟩
  rcases l with ⟨hk, hm⟩ | ⟨hk, c, hc, hcell⟩
  · exact wpAny_Name (wpAny_loadName_local I.ok.kind hk hn hm fin) hd
  · rcases hk with hk | hk
    · exact wpAny_Name (wpAny_loadName_cell I.ok.kind hk hc hcell fin) hd
    · exact wpAny_Name (wpAny_loadName_free I.ok.kind hk hc hcell fin hcd) hd
theorem pe_int {i j pos} : PE X (.Constant (.int i) j pos) (tC (.int i)) := fun _ _ _ H _ I h => wpAny_Constant_int ⟨.int i, H, I.tok _, ⟨_, rfl⟩, h⟩
theorem pe_bl {b j pos} : PE X (.Constant (.bool b) j pos) (tC (.bl b)) := fun _ _ _ H _ I h => Constant_bool ⟨.bl b, H, I, rfl, h⟩
theorem pe_str {x j pos} : PE X (.Constant (.str x) j pos) (tC (.str x)) := fun _ _ _ H _ I h => Calls.Constant_str ⟨.str x, H, I.tok _, ⟨_, rfl⟩, h⟩
def Gl (X : Cx) (x : Str) : Prop := X.env.kindOf x = some .globalImplicit
theorem ld_glob {E : Value → Shared → Prop} {pins : List (Addr × Obj)} {s : Shared} {σ : St} {H : Hp} {x : Str} {u : Value} {pos : Pos} {Q : Value → Shared → Prop} (I : Inv X pins σ H s) (hg : Gl X x) (hm : X.mg x = some u) (h : Q u s)
    (hd : (x == ("__debug__" : Str)) = false := by decide) : wpAny (model X.prog X.w) X.A (eval (.Name x pos) X.env) Q E s :=
  Calls.Name_function_global I.ok.kind hg (Calls.loadGlobal_global (by rw [I.ok.glob]; exact I.mod.glob.keeps I.bk) hm h) hd
theorem ld_blt {E : Value → Shared → Prop} {pins : List (Addr × Obj)} {s : Shared} {σ : St} {H : Hp} {x : Str} {u : Value} {pos : Pos} {Q : Value → Shared → Prop} (I : Inv X pins σ H s) (hg : Gl X x) (hm : X.mg x = none) (hv : bootBuiltins x = some u) (h : Q u s)
    (hn : x ≠ "__name__" := by decide) (hd : (x == ("__debug__" : Str)) = false := by decide) : wpAny (model X.prog X.w) X.A (eval (.Name x pos) X.env) Q E s := by
  obtain ⟨mb, h1, h2⟩ := I.mod.blt
  exact Calls.Name_function_global I.ok.kind hg (Calls.loadGlobal_builtin (by rw [I.ok.glob]; exact I.mod.glob.keeps I.bk) hm (by rw [I.ok.blt]; exact h1.keeps I.bk) ((h2 x hn).trans hv) h) hd
theorem pe_bltn {x : Str} {v : V} {u : Value} {pos : Pos} (hg : Gl X x) (hm : X.mg x = none) (hv : bootBuiltins x = some u) (r : RelV v u) (hn : x ≠ "__name__" := by decide) (hd : (x == ("__debug__" : Str)) = false := by decide) : PE X (.Name x pos) (tC v) :=
  fun _ _ _ H _ I h => ld_blt I hg hm hv ⟨v, H, I, r, h⟩ hn hd
variable {a b : Expr} {ta tb : TE} {pos : Pos}
def tB (t : TE) : TT := fun σ H Q => t σ H fun x H1 => ∃ c, x = .bl c ∧ Q c H1
theorem pt_val {e : Expr} {t : TE} (h : PE X e t) (he : ∀ whole, isTrue e X.env whole = (do let v ← whole; standAt e.pos; holding [v] (truthy v)) := by intro _; rfl) : PT X e (tB t) := by
  intro pins s σ H Q I hw
  refine isTrue_plain (thn (h pins s σ H _ I hw) fun v s1 ⟨x, H1, I1, r1, q1⟩ => ?_) (he _)
  obtain ⟨d, rfl, q⟩ := q1
  cases r1
  exact wpAny_truthy_bool ⟨H1, I1, q⟩
variable {tA tB' : TT} {rest : List Expr}
def tAnd (t u : TT) : TT := fun σ H Q => t σ H fun c H1 => if c = true then u σ H1 Q else Q false H1
def tOr (t u : TT) : TT := fun σ H Q => t σ H fun c H1 => if c = true then Q true H1 else u σ H1 Q
def tNot (t : TT) : TT := fun σ H Q => t σ H fun c H1 => Q (!c) H1
theorem pw_and1 (ha : PT X a tA) : PW X (.BoolOp .And [a] pos) tA := by
  intro wh pins s σ H Q I h
  refine isTrue_and (thn (ha pins s σ H Q I h) fun c s1 e => ?_)
  cases c with
  | true => exact isTrue_and_nil e
  | false => exact e
theorem pw_or1 (ha : PT X a tA) : PW X (.BoolOp .Or [a] pos) tA := by
  intro wh pins s σ H Q I h
  refine isTrue_or (thn (ha pins s σ H Q I h) fun c s1 e => ?_)
  cases c with
  | false => exact isTrue_or_nil e
  | true => exact e
theorem pw_and (ha : PT X a tA) (hb : PW X (.BoolOp .And (b :: rest) pos) tB') : PW X (.BoolOp .And (a :: b :: rest) pos) (tAnd tA tB') := by
  intro wh pins s σ H Q I h
  refine isTrue_and (thn (ha pins s σ H _ I h) fun c s1 ⟨H1, I1, q1⟩ => ?_)
  cases c with
  | true => exact hb wh pins s1 σ H1 Q I1 q1
  | false => exact ⟨H1, I1, q1⟩
theorem pw_or (ha : PT X a tA) (hb : PW X (.BoolOp .Or (b :: rest) pos) tB') : PW X (.BoolOp .Or (a :: b :: rest) pos) (tOr tA tB') := by
  intro wh pins s σ H Q I h
  refine isTrue_or (thn (ha pins s σ H _ I h) fun c s1 ⟨H1, I1, q1⟩ => ?_)
  cases c with
  | true => exact ⟨H1, I1, q1⟩
  | false => exact hb wh pins s1 σ H1 Q I1 q1
theorem pt_not (ha : PT X a tA) : PT X (.UnaryOp .Not a pos) (tNot tA) := by
  intro pins s σ H Q I h
  exact isTrue_not (ha pins s σ H (fun c H1 => Q (!c) H1) I h)
def tAndV (ta tb : TE) : TE := fun σ H Q => ta σ H fun x H1 => ∃ c, x = .bl c ∧ if c = true then tb σ H1 Q else Q (.bl false) H1
def tNotV (ta : TE) : TE := fun σ H Q => ta σ H fun x H1 => ∃ c, x = .bl c ∧ Q (.bl (!c)) H1
theorem pe_one {op} {t : TE} (h : PE X a t) : PE X (.BoolOp op [a] pos) t := fun pins s σ H Q I hw => BoolOp_one (h pins s σ H Q I hw)
theorem pe_and (ha : PE X a ta) (hb : PE X (.BoolOp .And (b :: rest) pos) tb) : PE X (.BoolOp .And (a :: b :: rest) pos) (tAndV ta tb) := by
  intro pins s σ H Q I h
  refine BoolOp_and (thn (ha pins s σ H _ I h) fun v s1 ⟨x, H1, I1, r1, q1⟩ => ?_)
  obtain ⟨c, rfl, q1⟩ := q1
  cases r1
  refine wpAny_truthy_bool ?_
  cases c with
  | true => exact hb pins s1 σ H1 Q I1 q1
  | false => exact ⟨.bl false, H1, I1, rfl, q1⟩
theorem pe_not (ha : PE X a ta) : PE X (.UnaryOp .Not a pos) (tNotV ta) := by
  intro pins s σ H Q I h
  refine UnaryOp_ (thn (ha pins s σ H _ I h) fun v s1 ⟨x, H1, I1, r1, q1⟩ => ?_)
  obtain ⟨c, rfl, q1⟩ := q1
  cases r1
  exact not_of (wpAny_truthy_bool ⟨.bl (!c), H1, I1, rfl, q1⟩)
end
end L2
namespace L2
open PySem PySem.Spec PyProof.Rows
def SqL (K : PySem.W.Frag) (H : Hp) (a : Addr) (xs : List V) : Prop :=
  Rd H a (.lst xs) ∨
    ∃ (o : Obj) (its : Array Value) (n : Nat), K.lookup a = some o ∧ o.cls = .type "list" ∧ o.dict = none ∧ o.data = .seq its n ∧ its.size ≤ sizeLine ∧ Vals xs its.toList
def SqT (K : PySem.W.Frag) (H : Hp) (a : Addr) (xs : List V) : Prop :=
  Rd H a (.tup xs) ∨
    ∃ (o : Obj) (its : Array Value) (n : Nat), K.lookup a = some o ∧ o.cls = .type "tuple" ∧ o.data = .seq its n ∧ its.size ≤ sizeLine ∧ Vals xs its.toList
def absV : Value → Option V
  | .none => some .non
  | .bool b => some (.bl b)
  | .int i _ => some (.int i)
  | .str x _ => some (.str x)
  | .bytes b _ => some (.byt b)
  | .float b _ => some (.flt b)
  | .ref a => some (.ref a)
  | .type n => some (.ty n)
  | _ => none
theorem RelV.abs {x : V} {u : Value} (r : RelV x u) : absV u = some x := by
  cases x with
  | non => cases r; rfl
  | bl _ => cases r; rfl
  | int _ => obtain ⟨t, rfl⟩ := r; rfl
  | str _ => obtain ⟨t, rfl⟩ := r; rfl
  | byt _ => obtain ⟨t, rfl⟩ := r; rfl
  | flt _ => obtain ⟨t, rfl⟩ := r; rfl
  | ref _ => cases r; rfl
  | ty _ => cases r; rfl
theorem RelV.inj {x y : V} {u : Value} (r : RelV x u) (q : RelV y u) : x = y := Option.some.inj (r.abs.symm.trans q.abs)
theorem Vals.inj : ∀ {xs ys : List V} {us : List Value}, Vals xs us → Vals ys us → xs = ys
  | _, _, _, .nil, .nil => rfl
  | _, _, _, .cons r t, .cons r' t' => by rw [r.inj r', Vals.inj t t']
section
variable {X : Cx} {pins : List (Addr × Obj)} {σ : St} {H : Hp} {s : Shared} {a : Addr} {xs ys : List V}
theorem SqL.of {K : PySem.W.Frag} (h : H a = some (.lst xs)) : SqL K H a xs := .inl (.inl h)
theorem SqT.of {K : PySem.W.Frag} (h : H a = some (.tup xs)) : SqT K H a xs := .inl (.inl h)
theorem Inv.list (I : Inv X pins σ H s) (h : SqL X.K H a xs) : ∃ its : List Value, Vals xs its ∧ PlainL s.heap a its.toArray ∧ xs.length ≤ sizeLine := by
  rcases h with h | ⟨o, its, n, hk, hc, hd, hs, hz, r⟩
  · obtain ⟨z, its, n, r, e⟩ := h.ok I.hok
    exact ⟨its, r, ⟨_, n, e, rfl, rfl, rfl⟩, z⟩
  · refine ⟨its.toList, r, ⟨o, n, I.kIn a o hk, hc, hd, by simpa using hs⟩, ?_⟩
    have e := r.length
    simp only [Array.length_toList] at e
    omega
theorem Inv.tuple (I : Inv X pins σ H s) (h : SqT X.K H a xs) : ∃ its : List Value, Vals xs its ∧ IsTup s.heap a its.toArray ∧ xs.length ≤ sizeLine := by
  rcases h with h | ⟨o, its, n, hk, hc, hs, hz, r⟩
  · obtain ⟨z, its, r, p⟩ := h.ok I.hok
    exact ⟨its, r, p, z⟩
  · refine ⟨its.toList, r, ⟨o, I.kIn a o hk, hc, n, by simpa using hs⟩, ?_⟩
    have e := r.length
    simp only [Array.length_toList] at e
    omega
theorem Inv.list_inj (I : Inv X pins σ H s) (h : SqL X.K H a xs) (h' : SqL X.K H a ys) : xs = ys := by
  obtain ⟨its, r, ⟨o, n, e, _, _, d⟩, _⟩ := I.list h
  obtain ⟨its', r', ⟨o', n', e', _, _, d'⟩, _⟩ := I.list h'
  rw [e] at e'; cases e'
  rw [d] at d'
  injection d' with d1 _
  have : its = its' := by simpa using congrArg Array.toList d1
  subst this
  exact r.inj r'
end
abbrev Cx.wish (X : Cx) (E : Value → Shared → Prop) : Cx := { X with xe := E }
abbrev Cx.nox (X : Cx) : Cx := X.wish fun _ _ => False
theorem Cx.Ok.wish {X : Cx} (ok : X.Ok) (E : Value → Shared → Prop) : (X.wish E).Ok :=
  ⟨ok.mod, ok.kind, ok.glob, ok.blt, ok.above, ok.inj, ok.has, ok.cab, ok.hd, ok.frames, ok.stk, ok.exf, ok.bs, ok.bsz, ok.noex, ok.exfs, ok.funs, ok.frf⟩
theorem Cx.Ok.unwish {X : Cx} {E : Value → Shared → Prop} (ok : (X.wish E).Ok) : X.Ok :=
  ⟨ok.mod, ok.kind, ok.glob, ok.blt, ok.above, ok.inj, ok.has, ok.cab, ok.hd, ok.frames, ok.stk, ok.exf, ok.bs, ok.bsz, ok.noex, ok.exfs, ok.funs, ok.frf⟩
section
variable {X : Cx} {pins : List (Addr × Obj)} {σ : St} {H : Hp} {s : Shared} {E : Value → Shared → Prop}
theorem Inv.wish (I : Inv X pins σ H s) (E : Value → Shared → Prop) : Inv (X.wish E) pins σ H s := ⟨I.ok.wish E, I.os, I.bare, I.base, I.loc, I.cell, I.free, I.freeC, I.pin, I.hok, I.len⟩
theorem Inv.unwish (I : Inv (X.wish E) pins σ H s) : Inv X pins σ H s := ⟨I.ok.unwish, I.os, I.bare, I.base, I.loc, I.cell, I.free, I.freeC, I.pin, I.hok, I.len⟩
theorem SP.unwish {D : Ends} {f : Flow} {s' : Shared} (h : SP (X.wish E) pins D f s') : SP X pins D f s' := by
  cases f with
  | next => obtain ⟨σ', H', I, q⟩ := h; exact ⟨σ', H', I.unwish, q⟩
  | brk => obtain ⟨σ', H', I, q⟩ := h; exact ⟨σ', H', I.unwish, q⟩
  | cont => obtain ⟨σ', H', I, q⟩ := h; exact ⟨σ', H', I.unwish, q⟩
  | ret u => obtain ⟨v, σ', H', I, r, q⟩ := h; exact ⟨v, σ', H', I.unwish, r, q⟩
theorem PE.nox {e : Expr} {t : TE} (h : PE X.nox e t) : PE X e t := fun pins s σ H Q I hw =>
  wpAny_mono (h pins s σ H Q (I.wish _) hw) (fun _ _ ⟨v, H', I', r, q⟩ => ⟨v, H', I'.unwish, r, q⟩) fun _ _ z => False.elim z
theorem PT.nox {e : Expr} {t : TT} (h : PT X.nox e t) : PT X e t := fun pins s σ H Q I hw =>
  wpAny_mono (h pins s σ H Q (I.wish _) hw) (fun _ _ ⟨H', I', q⟩ => ⟨H', I'.unwish, q⟩) fun _ _ z => False.elim z
theorem PSs.nox {st : List Stmt} {t : TS} (h : PSs X.nox st t) : PSs X st t := fun pins s σ H D I hw =>
  wpAny_mono (h pins s σ H D (I.wish _) hw) (fun _ _ q => q.unwish) fun _ _ z => False.elim z
end
section
variable {X : Cx} {st : Stmt} {rest : List Stmt} {t u : TS} {e : Expr} {te : TE} {pos : Pos}
def tNext : TS := fun D σ H => D.nx σ H
def tSeq (t u : TS) : TS := fun D σ H => t { D with nx := u D } σ H
theorem pss_nil : PSs X [] tNext := fun _ _ σ H _ I h => wpAny_execs_nil ⟨σ, H, I, h⟩
theorem pss_cons (h1 : PS X st t) (h2 : PSs X rest u) : PSs X (st :: rest) (tSeq t u) := by
  intro pins s σ H D I h
  refine wpAny_execs_cons (thn (h1 pins s σ H { D with nx := u D } I h) fun f s1 q => ?_)
  cases f with
  | next =>
    obtain ⟨σ', H', I', q⟩ := q
    exact h2 pins s1 σ' H' D I' q
  | ret v => exact q
  | brk => exact q
  | cont => exact q
theorem pss_one (h1 : PS X st t) : PSs X [st] t := by
  intro pins s σ H D I h
  refine wpAny_execs_cons (thn (h1 pins s σ H D I h) fun f s1 q => ?_)
  cases f with
  | next => exact wpAny_execs_nil q
  | ret v => exact q
  | brk => exact q
  | cont => exact q
theorem Inv.quiet {pins : List (Addr × Obj)} {σ : St} {H : Hp} {s : Shared} (I : Inv X pins σ H s) : interactive X.env = false := by simp [interactive, I.ok.kind]
def tDrop (te : TE) : TS := fun D σ H => te σ H fun _ H1 => D.nx σ H1
theorem ps_expr (he : PE X e te) (hs : swapsWith e none pos.line X.env = pure false := by rfl) : PS X (.Expr e pos) (tDrop te) := by
  intro pins s σ H D I h
  exact wpAny_Expr_any (thn (he pins s σ H _ I h) fun v s1 ⟨x, H1, I1, r1, q1⟩ => ⟨σ, H1, I1, q1⟩) I.quiet hs
def tRet (te : TE) : TS := fun D σ H => te σ H D.rt
theorem ps_ret (he : PE X e te) : PS X (.Return (some e) pos) (tRet te) := by
  intro pins s σ H D I h
  exact wpAny_Return_some (thn (he pins s σ H _ I h) fun v s1 ⟨x, H1, I1, r1, q1⟩ => ⟨x, σ, H1, I1, r1, q1⟩)
def tIfS (c : TT) (t u : TS) : TS := fun D σ H => c σ H fun b H1 => if b = true then t D σ H1 else u D σ H1
theorem ps_if {c : Expr} {a b : List Stmt} {tc : TT} (hc : PT X c tc) (ha : PSs X a t) (hb : PSs X b u) : PS X (.If c a b pos) (tIfS tc t u) := by
  intro pins s σ H D I h
  refine wpAny_If (thn (hc pins s σ H _ I h) fun d s1 ⟨H1, I1, q1⟩ => ?_)
  cases d with
  | true => exact ha pins s1 σ H1 D I1 q1
  | false => exact hb pins s1 σ H1 D I1 q1
def tNever : TS := fun _ _ _ => False
theorem ps_never : PS X st tNever := fun _ _ _ _ _ _ h => h.elim
end
abbrev TG := V → St → Hp → (St → Hp → Prop) → Prop
abbrev TGs := List V → St → Hp → (St → Hp → Prop) → Prop
def PG (X : Cx) (target : Expr) (t : TG) : Prop :=
  ∀ (pins : List (Addr × Obj)) (s : Shared) (σ : St) (H : Hp) (v : V) (u : Value) (Q : St → Hp → Prop), Inv X pins σ H s → RelV v u → t v σ H Q →
    wpAny (model X.prog X.w) X.A (assign target X.env u) (fun _ s' => ∃ σ' H', Inv X pins σ' H' s' ∧ Q σ' H') X.xe s
def PGs (X : Cx) (ts : List Expr) (t : TGs) : Prop :=
  ∀ (pins : List (Addr × Obj)) (s : Shared) (σ : St) (H : Hp) (vs : List V) (us : List Value) (Q : St → Hp → Prop), Inv X pins σ H s → Vals vs us → t vs σ H Q →
    wpAny (model X.prog X.w) X.A (assignInOrder ((assignEach ts X.env).map (·.2)) us) (fun _ s' => ∃ σ' H', Inv X pins σ' H' s' ∧ Q σ' H') X.xe s
abbrev TSet := V → V → V → Hp → (Hp → Prop) → Prop
def PSet (X : Cx) (t : TSet) : Prop :=
  ∀ (pins : List (Addr × Obj)) (s : Shared) (σ : St) (H : Hp) (o i v : V) (ov iv u : Value) (Q : Hp → Prop), Inv X pins σ H s → RelV o ov → RelV i iv → RelV v u → t o i v H Q →
    wpAny (model X.prog X.w) X.A (setItem ov iv u) (fun _ s' => ∃ H', Inv X pins σ H' s' ∧ Q H') X.xe s
section
variable {X : Cx} {pos : Pos}
def gName (i : Nat) : TG := fun v σ H Q => Q (σ.set i (some v)) H
theorem pg_name {i : Nat} {x : Str} (hN : X.N.Nodup) (hi : X.N[i]? = some x) (hx : Loc X.env.scope x) (hf : X.fn x = true ∨ X.env.scope.names.lookup x = some .local := by first | exact .inl rfl | exact .inr rfl | assumption) : PG X (.Name x pos) (gName i) := by
  intro pins s σ H v u Q I r h
  exact wpAny_assign_Name (store_ok I hN hi hx r (fun s' I' => ⟨_, H, I', h⟩) hf)
def gNil : TGs := fun vs σ H Q => vs = [] ∧ Q σ H
def gCons (t : TG) (u : TGs) : TGs := fun vs σ H Q => ∃ v r, vs = v :: r ∧ t v σ H fun σ' H' => u r σ' H' Q
theorem pgs_nil : PGs X [] gNil := by
  intro pins s σ H vs us Q I r h
  obtain ⟨e, h⟩ := h
  subst e
  cases r
  exact assignInOrder_nil ⟨σ, H, I, h⟩
theorem pgs_cons {e : Expr} {es : List Expr} {t : TG} {u : TGs} (h1 : PG X e t) (h2 : PGs X es u)
    (hs : (assignEach (e :: es) X.env).map (·.2) = assign e X.env :: (assignEach es X.env).map (·.2) := by rfl) : PGs X (e :: es) (gCons t u) := by
  intro pins s σ H vs us Q I r h
  obtain ⟨v, vr, e1, h⟩ := h
  subst e1
  cases r with
  | cons r rr =>
    rw [hs]
    refine assignInOrder_cons (thn (h1 pins s σ H _ _ _ I r h) fun _ s1 ⟨σ1, H1, I1, q1⟩ => ?_)
    exact h2 pins s1 σ1 H1 _ _ Q I1 rr q1
def gTup (K : PySem.W.Frag) (n : Nat) (t : TGs) : TG := fun v σ H Q => ∃ a xs, v = .ref a ∧ SqT K H a xs ∧ xs.length = n ∧ t xs σ H Q
theorem pg_tup {es : List Expr} {k : Nat} {t : TGs} {n : Nat} (hc : X.calm = true) (h : PGs X es t)
    (hn : (assignEach es X.env).length = n := by rfl) (hst : (assignEach es X.env).findIdx? (·.1) = none := by rfl) : PG X (.Tuple es k pos) (gTup X.K n t) := by
  intro pins s σ H v u Q I r hw
  obtain ⟨a, xs, e1, hq, hl, hw⟩ := hw
  subst e1
  cases r
  obtain ⟨its, rv, ht, hz⟩ := I.tuple hq
  refine assign_Tuple_tuple (I.ok.hd hc) ht (by simp [hn, ← hl, rv.length]) hst fun h' hx => ?_
  have I1 : Inv X pins σ H { s with heap := h' } := I.kept (t' := s.toks) fun b o e => hx b o (Nat.ne_of_lt (Heap.lt_size e)) e
  exact h pins _ σ H xs _ Q I1 (by simpa using rv) hw
def gSub (to ti : TE) (t : TSet) : TG := fun v σ H Q => to σ H fun o H1 => ti σ H1 fun i H2 => t o i v H2 fun H3 => Q σ H3
theorem pg_sub {o i : Expr} {to ti : TE} {t : TSet} (ho : PE X o to) (hi : PE X i ti) (hs : PSet X t)
    (ha : ∀ v, assign (.Subscript o i pos) X.env v = (do
      let ov ← holding [v] (eval o X.env)
      let iv ← holding [v, ov] (eval i X.env)
      standAt pos
      holding [v, ov, iv] (setItem ov iv v)
      release [v, ov, iv] []) := by intro _; rfl) : PG X (.Subscript o i pos) (gSub to ti t) := by
  intro pins s σ H v u Q I r h
  rw [ha]
  refine wpAny_bind (wpAny_holding (thn (ho pins s σ H _ I h) fun ov s1 ⟨x, H1, I1, r1, q1⟩ => ?_))
  refine wpAny_bind (wpAny_holding (thn (hi pins s1 σ H1 _ I1 q1) fun iv s2 ⟨y, H2, I2, r2, q2⟩ => ?_))
  refine wpAny_bind (wpAny_standAt (wpAny_bind (wpAny_holding (thn (hs pins s2 σ H2 x y v ov iv u _ I2 r1 r2 r q2) fun _ s3 ⟨H3, I3, q3⟩ => ?_))))
  exact wpAny_release ⟨σ, H3, I3, q3⟩
def tAsg (te : TE) (g : TG) : TS := fun D σ H => te σ H fun x H1 => g x σ H1 D.nx
theorem ps_asg {tg e : Expr} {te : TE} {g : TG} (he : PE X e te) (hg : PG X tg g) (hs : swapsWithSole [tg] e pos.line X.env = pure false := by rfl) (hw : swappedStores [tg] e X.env = pure none := by rfl)
    (h1 : (assignEach [tg] X.env).map (·.2) = [assign tg X.env] := by rfl) : PS X (.Assign [tg] e pos) (tAsg te g) := by
  intro pins s σ H D I h
  refine wpAny_Assign_stores (thn (he pins s σ H _ I h) fun v s1 ⟨x, H1, I1, r1, q1⟩ => ?_) hs hw
  rw [h1]
  exact thn (hg pins s1 σ H1 x v _ I1 r1 q1) fun _ s2 q => q
theorem ps_set {i : Nat} {x : Str} {e : Expr} {te : TE} {pos' : Pos} (hN : X.N.Nodup) (hi : X.N[i]? = some x) (hx : Loc X.env.scope x) (he : PE X e te) (hs : swapsWith e (some (.Name x pos')) pos.line X.env = pure false := by rfl) (hf : X.fn x = true ∨ X.env.scope.names.lookup x = some .local := by first | exact .inl rfl | exact .inr rfl | assumption) :
    PS X (.Assign [.Name x pos'] e pos) (tAsg te (gName i)) := by
  intro pins s σ H D I h
  refine wpAny_Assign_Name (thn (he pins s σ H _ I h) fun v s1 ⟨y, H1, I1, r1, q1⟩ => ?_) hs
  exact store_ok I1 hN hi hx r1 (fun s2 I2 => ⟨_, H1, I2, q1⟩) hf
def tPar (i j : Nat) (ta : TA) : TS := fun D σ H => ta σ H fun vs H1 => ∃ v w, vs = [v, w] ∧ D.nx ((σ.set i (some v)).set j (some w)) H1
theorem ps_par {i j : Nat} {x y : Str} {a b : Expr} {ta : TA} {px py pt : Pos} {kt k2 pt2} (hc : X.calm = true) (hN : X.N.Nodup) (hi : X.N[i]? = some x) (hj : X.N[j]? = some y) (hij : i ≠ j)
    (hx : X.env.scope.names.lookup x = some .local) (hy : X.env.scope.names.lookup y = some .local) (ha : PA X [a, b] ta)
    (hw : swappedStores [.Tuple [.Name x px, .Name y py] kt pt] (.Tuple [a, b] k2 pt2) X.env = pure (some [x, y]))
    (hs : swapsWithSole [.Tuple [.Name x px, .Name y py] kt pt] (.Tuple [a, b] k2 pt2) pos.line X.env = pure false := by rfl) :
    PS X (.Assign [.Tuple [.Name x px, .Name y py] kt pt] (.Tuple [a, b] k2 pt2) pos) (tPar i j ta) := by
  intro pins s σ H D I h
  rw [exec_Assign_arm]
  refine wpAny_bind (wpAny_standAt ?_)
  rw [hs]
  refine wpAny_bind (wpAny_pure ?_)
  rw [if_neg (by decide)]
  refine wpAny_bind (Tuple_ (thn (ha _ pins s σ H _ I h) fun us s1 ⟨vs, H1, I1, r1, q1⟩ => ?_))
  obtain ⟨v, w, e1, q1⟩ := q1
  subst e1
  obtain ⟨u1, u2, rfl, rv, rw'⟩ : ∃ u1 u2, us = [u1, u2] ∧ RelV v u1 ∧ RelV w u2 := by
    cases r1 with
    | cons p q =>
      cases q with
      | cons p' q' =>
        cases q'
        exact ⟨_, _, rfl, p, p'⟩
  refine wpAny_newObj_type ?_ (by show 2 ≤ sizeLine; decide)
  have I2 : Inv X pins σ H1 { s1 with heap := s1.heap.push { cls := .type "tuple", data := .seq [u1, u2].toArray } } := I1.kept (t' := s1.toks) fun b o e => Heap.get?_push_of_some _ e
  rw [hw]
  refine wpAny_bind (wpAny_pure ?_)
  show wpAny (model X.prog X.w) X.A (do rule "assign.swapped-stores"; let items ← unpackItems (.ref s1.heap.objs.size) 2 none; assignInOrder [fun v => bindName X.env y v, fun v => bindName X.env x v] items.reverse; pure Flow.next) _ _ _
  refine wpAny_bind (wpAny_rule (wpAny_bind (unpackItems_tuple (items := #[u1, u2]) (I.ok.hd hc) (IsTup.new s1.heap _) fun h' hx' => ?_)))
  have I3 := I2.kept (h' := h') (t' := s1.toks) fun b o e => hx' b o (Nat.ne_of_lt (Heap.lt_size e)) e
  show wpAny _ _ (assignInOrder [fun v => bindName X.env y v, fun v => bindName X.env x v] [u2, u1] >>= fun _ => pure Flow.next) _ _ _
  refine wpAny_bind (assignInOrder_cons (wpAny_bindName (store_ok I3 hN hj (.inl hy) rw' (fun s2 I4 => ?_) (.inr hy))))
  refine assignInOrder_cons (wpAny_bindName (store_ok I4 hN hi (.inl hx) rv (fun s3 I5 => assignInOrder_nil (wpAny_pure ?_)) (.inr hx)))
  rw [List.set_comm _ _ (Ne.symm hij)] at I5
  exact ⟨_, H1, I5, q1⟩
end
section
variable {X : Cx} {pos : Pos}
def tWhile (c : TT) (tb : TS) : TS := fun D σ H => ∃ W : Nat → St → Hp → Prop, (∃ m, W m σ H) ∧ ∀ m σ H, W m σ H →
  c σ H fun b H1 => if b = true then ∃ N : St → Hp → Prop, (∀ σ' H', N σ' H' → ∃ m', m' < m ∧ W m' σ' H') ∧ tb { D with nx := N, ct := N, bk := D.nx } σ H1 else D.nx σ H1
theorem ps_while {c : Expr} {body : List Stmt} {tc : TT} {tb : TS} (hp : PassesOwn (model X.prog X.w) X.A X.env X.xe) (hc : PT X c tc) (hb : PSs X body tb) : PS X (.While c body [] pos) (tWhile tc tb) := by
  intro pins s σ H D I h
  obtain ⟨W, ⟨m0, w0⟩, turn⟩ := h
  refine wpAny_While (codeAny_whileLoop (fun n s' => ∃ σ' H', Inv X pins σ' H' s' ∧ W n σ' H') ?_ m0 ⟨σ, H, I, w0⟩)
  rintro n s1 ⟨σ1, H1, I1, w1⟩
  refine wpAny_passesOwn hp (thn (hc pins s1 σ1 H1 _ I1 (turn n σ1 H1 w1)) fun b s2 ⟨H2, I2, q2⟩ => ?_)
  cases b with
  | true =>
    obtain ⟨N, hN, q2⟩ := q2
    rw [if_pos rfl]
    refine wpAny_passesOwn hp (thn (hb pins s2 σ1 H2 _ I2 q2) fun f s3 q3 => ?_)
    cases f with
    | next =>
      obtain ⟨σ3, H3, I3, n3⟩ := q3
      obtain ⟨m', hm, w3⟩ := hN σ3 H3 n3
      exact ⟨m', hm, σ3, H3, I3, w3⟩
    | cont =>
      obtain ⟨σ3, H3, I3, n3⟩ := q3
      obtain ⟨m', hm, w3⟩ := hN σ3 H3 n3
      exact ⟨m', hm, σ3, H3, I3, w3⟩
    | brk => exact q3
    | ret v => exact q3
  | false =>
    rw [if_neg Bool.false_ne_true]
    exact wpAny_execs_nil ⟨σ1, H2, I2, q2⟩
end
structure It where
  go : Nat → Hp → Prop
  yld : Nat → Hp → V → Hp → Prop
  stop : Nat → Hp → Prop
def FpOk (X : Cx) (pins : List (Addr × Obj)) (H : Hp) (b : Addr) : Prop :=
  H b = none ∧ b ≠ X.env.locals ∧ b ∉ X.fs ∧ (b ∈ X.ex ∨ X.s₀.heap.objs.size ≤ b) ∧ (∀ x c, X.env.cells.lookup x = some c → c ≠ b) ∧ ∀ p ∈ X.pn ++ pins, p.1 ≠ b
theorem Inv.fpOk {X : Cx} {pins : List (Addr × Obj)} {σ : St} {H H' : Hp} {s : Shared} {b : Addr} (I : Inv X pins σ H s) (hb : s.heap.objs.size ≤ b) (hn : H' b = none) : FpOk X pins H' b := by
  refine ⟨hn, Nat.ne_of_gt (Nat.lt_of_lt_of_le I.lt hb), I.nofs hb, .inr (Nat.le_trans I.sz hb), fun x c e z => ?_, fun p hp z => ?_⟩
  · obtain ⟨v, q⟩ := I.cell x c e
    exact absurd (Nat.lt_of_lt_of_le q.lt (by rw [z]; exact hb)) (Nat.lt_irrefl _)
  · exact absurd (Nat.lt_of_lt_of_le (Heap.lt_size (I.pin p hp).1) (by rw [z]; exact hb)) (Nat.lt_irrefl _)
structure Turn (P : Program) (w : World) (K : PySem.W.Frag) (tg : Expr) (J : It) (fp : List Addr) (it : Addr) (tn : Nat → Heap → Prop) : Prop where
  mem : it ∈ fp
  obj : ∀ i h, tn i h → ∀ b ∈ fp, ∃ o, h.get? b = some o ∧ ∀ v, o.data ≠ .cell v
  keep : ∀ i h h', tn i h → (∀ b ∈ fp, ∀ o, h.get? b = some o → h'.get? b = some o) → tn i h'
  item : ∀ (X : Cx), X.prog = P → X.w = w → X.K = K → X.calm = true → ∀ (i : Nat) (pins : List (Addr × Obj)) (s : Shared) (σ : St) (H : Hp) (E : Value → Shared → Prop), Inv X pins σ H s → (∀ b ∈ fp, FpOk X pins H b) → tn i s.heap → J.go i H →
    wpAny (model P w) X.A (pyNext (.ref it)) (fun r s1 => ∃ u, r = some u ∧
      wpAny (model P w) X.A (letOwnedTupleGo tg (.ref it) u) (fun _ s2 => ∃ x H', Inv X pins σ H' s2 ∧ RelV x u ∧ J.yld i H x H' ∧ tn (i + 1) s2.heap ∧ ∀ b ∈ fp, H' b = none) E s1) E s
  done : ∀ (X : Cx), X.prog = P → X.w = w → X.K = K → X.calm = true → ∀ (i : Nat) (pins : List (Addr × Obj)) (s : Shared) (σ : St) (H : Hp) (E : Value → Shared → Prop), Inv X pins σ H s → (∀ b ∈ fp, FpOk X pins H b) → tn i s.heap → J.stop i H →
    wpAny (model P w) X.A (pyNext (.ref it)) (fun r s1 => r = none ∧ Inv X pins σ H s1) E s
  self : ∀ (A : Around) (i : Nat) (s : Shared) (Q : Value → Shared → Prop) (E : Value → Shared → Prop), tn i s.heap → Q (.ref it) s → wpAny (model P w) A (pyIter (.ref it)) Q E s
abbrev TI := St → Hp → (It → Hp → Prop) → Prop
def PIE (X : Cx) (pins : List (Addr × Obj)) (σ : St) (tg : Expr) (R : It → Hp → Prop) (itv : Value) (s2 : Shared) : Prop :=
  ∃ (it : Addr) (fp : List Addr) (tn : Nat → Heap → Prop) (J : It) (H' : Hp), itv = .ref it ∧ Inv X pins σ H' s2 ∧ Turn X.prog X.w X.K tg J fp it tn ∧ tn 0 s2.heap ∧ (∀ b ∈ fp, FpOk X pins H' b) ∧ R J H'
def PI (X : Cx) (tg iter : Expr) (wi : TI) : Prop :=
  ∀ (pins : List (Addr × Obj)) (s : Shared) (σ : St) (H : Hp) (R : It → Hp → Prop), Inv X pins σ H s → wi σ H R →
    wpAny (model X.prog X.w) X.A (eval iter X.env) (fun v s1 => wpAny (model X.prog X.w) X.A (pyIter v) (PIE X pins σ tg R) X.xe s1) X.xe s
theorem go_of {M : Model} {A : Around} {E : Value → Shared → Prop} {s : Shared} {tg : Expr} {it : Addr} {u : Value} {o : Obj} {n : String} {vs : Array Value} {Q : Unit → Shared → Prop} (ho : s.heap.get? it = some o) (hc : o.cls = .type n) (hd : o.data = .fields vs)
    (hn : ["enumerate", "zip", "dict_itemiterator", "dict_reverseitemiterator", "odict_iterator", "itertools.zip_longest", "itertools.pairwise"].contains n = false) (hQ : Q () s) : wpAny M A (letOwnedTupleGo tg (.ref it) u) Q E s := by
  unfold letOwnedTupleGo
  cases tg <;> first
    | exact wpAny_pure hQ
    | (cases u <;> first
        | exact wpAny_pure hQ
        | (refine wpAny_bind (wpAny_load ho ?_)
           rw [hc, hd]
           show wpAny M A (if (["enumerate", "zip", "dict_itemiterator", "dict_reverseitemiterator", "odict_iterator", "itertools.zip_longest", "itertools.pairwise"].contains n && vs[0]? == some (rawInt _)) = true then _ else _) Q E s
           rw [if_neg (by intro h; rw [hn, Bool.false_and] at h; cases h)]
           exact wpAny_pure hQ))
def Itl (K : PySem.W.Frag) (a : Addr) : It :=
  ⟨fun i H => ∃ xs x, SqL K H a xs ∧ xs[i]? = some x, fun i H x H' => H' = H ∧ ∀ xs, SqL K H a xs → xs[i]? = some x, fun i H => ∃ xs, SqL K H a xs ∧ xs.length ≤ i⟩
def Itr (lo : Int) (n : Nat) : It := ⟨fun i _ => i < n, fun i H x H' => H' = H ∧ x = .int (lo + i), fun i _ => n ≤ i⟩
theorem turn_list {P : Program} {w : World} {K : PySem.W.Frag} {tg : Expr} (a it : Addr) : Turn P w K tg (Itl K a) [it] it (fun i h => h.IsListIter it a i) where
  mem := by simp
  obj := fun i h st b hb => by
    have e : b = it := by simpa using hb
    subst e
    obtain ⟨o, e, c, d⟩ := st
    exact ⟨o, e, fun v z => by rw [d] at z; cases z⟩
  keep := fun i h h' st k => st.at fun o e => k it (by simp) o e
  item := by
    intro X hP hw hK hc i pins s σ H E I hf st hg
    subst hP hw hK
    obtain ⟨xs, x, hq, hx⟩ := hg
    obtain ⟨its, rv, p, hz⟩ := I.list hq
    obtain ⟨u, hu, ru⟩ := rv.get hx
    obtain ⟨f0, f1, f2, f3, f4, f5⟩ := hf it (by simp)
    refine wpAny_pyNext_list_item st p.isList (x := u) (by simpa using hu) fun h' st' sb => ?_
    have I1 : Inv X pins σ H { s with heap := h' } := I.turned (t' := s.toks) (fun b o hb e => (sb.2 b hb).trans e) f0 f1 f3 f4 f5
    obtain ⟨o, e, c, d⟩ := id st'
    exact ⟨u, rfl, go_of (s := { s with heap := h' }) e c d (by decide) ⟨x, H, I1, ru, ⟨rfl, fun ys hy => by rw [I.list_inj hy hq]; exact hx⟩, st', fun b hb => (hf b hb).1⟩⟩
  done := by
    intro X hP hw hK hc i pins s σ H E I hf st hg
    subst hP hw hK
    obtain ⟨xs, hq, hx⟩ := hg
    obtain ⟨its, rv, p, hz⟩ := I.list hq
    obtain ⟨f0, f1, f2, f3, f4, f5⟩ := hf it (by simp)
    have hl := rv.length
    exact wpAny_pyNext_list_end (I.ok.hd hc) st p.isList (by simp; omega) fun h' eb => ⟨rfl, I.turned (t' := s.toks) (fun b o hb e => eb b o hb e) f0 f1 f3 f4 f5⟩
  self := fun _ _ _ _ _ st h => wpAny_pyIter_listiter st h
theorem turn_range {P : Program} {w : World} {K : PySem.W.Frag} {tg : Expr} (it : Addr) (lo : Int) (n : Nat) : Turn P w K tg (Itr lo n) [it] it (fun i h => IsRangeIter h it (lo + (i : Nat) * 1) ((n : Int) - (i : Nat)) 1) where
  mem := by simp
  obj := fun i h st b hb => by
    have e : b = it := by simpa using hb
    subst e
    exact ⟨_, st, fun v z => by
      have z' : Data.fields _ = Data.cell v := z
      cases z'⟩
  keep := fun i h h' st k => k it (by simp) _ st
  item := by
    intro X hP hw hK hc i pins s σ H E I hf st hg
    subst hP hw hK
    obtain ⟨f0, f1, f2, f3, f4, f5⟩ := hf it (by simp)
    have W := Walks.range (prog := X.prog) (w := X.w) (I.ok.hd hc) it lo 1 n
    refine W.item i s _ _ hg st fun v h' tk hv st' kk => ?_
    obtain ⟨t, rfl⟩ := hv
    have I1 : Inv X pins σ H { s with heap := h', toks := tk } := I.turned (fun b o hb e => kk b o (by simpa using hb) e) f0 f1 f3 f4 f5
    refine ⟨_, rfl, go_of (s := { s with heap := h', toks := tk }) (n := "range_iterator") st' rfl rfl (by decide) ⟨.int (lo + i), H, I1, ⟨t, ?_⟩, ⟨rfl, rfl⟩, st', fun b hb => (hf b hb).1⟩⟩
    rw [Int.mul_one]
  done := by
    intro X hP hw hK hc i pins s σ H E I hf st hg
    subst hP hw hK
    obtain ⟨f0, f1, f2, f3, f4, f5⟩ := hf it (by simp)
    exact wpAny_pyNext_range_end (I.ok.hd hc) st (by have : n ≤ i := hg; omega) fun h' eb => ⟨rfl, I.turned (t' := s.toks) (fun b o hb e => eb b o hb e) f0 f1 f3 f4 f5⟩
  self := fun _ _ _ _ _ st h => wpAny_pyIter_rangeiter st h
end L2
namespace L2
open PySem PySem.Spec PyProof.Rows
section
variable {X : Cx} {tg : Expr}
def iList (K : PySem.W.Frag) (tl : TE) : TI := fun σ H R => tl σ H fun x H1 => ∃ a, x = .ref a ∧ (∃ xs, SqL K H1 a xs) ∧ R (Itl K a) H1
theorem pi_list {l : Expr} {tl : TE} (hl : PE X l tl) : PI X tg l (iList X.K tl) := by
  intro pins s σ H R I h
  refine thn (hl pins s σ H _ I h) fun v s1 ⟨x, H1, I1, r1, q1⟩ => ?_
  obtain ⟨a, e, ⟨xs, hq⟩, q⟩ := q1
  subst e
  cases r1
  obtain ⟨its, rv, p, hz⟩ := I1.list hq
  refine wpAny_pyIter_list p.isList ?_
  refine ⟨s1.heap.objs.size, [s1.heap.objs.size], _, _, H1, rfl, I1.kept (t' := s1.toks) fun b o e => Heap.get?_push_of_some _ e, turn_list a _, ⟨_, Heap.get?_push_size _ rfl, rfl, rfl⟩, fun b hb => ?_, q⟩
  have e : b = s1.heap.objs.size := by simpa using hb
  subst e
  exact I1.fpOk (Nat.le_refl _) (I1.hok.fresh (Nat.le_refl _))
theorem range_it {pins : List (Addr × Obj)} {σ : St} {H : Hp} {s : Shared} {R : It → Hp → Prop} {E : Value → Shared → Prop} {lo hi : Int} {t u v : Tok} {tk : Nat} (I : Inv X pins σ H s) (h1 : -(2 ^ 62) ≤ lo) (h2 : lo < 2 ^ 62) (h3 : -(2 ^ 62) ≤ hi) (h4 : hi < 2 ^ 62)
    (q : R (Itr lo (hi - lo).toNat) H) : wpAny (model X.prog X.w) X.A (pyIter (.ref s.heap.objs.size)) (PIE X pins σ tg R) E { s with heap := s.heap.push { cls := .type "range", data := .fields #[.int lo t, .int hi u, .int 1 v] }, toks := tk } := by
  refine wpAny_pyIter_range (IsRange.new ..) (small_one h1 h2 h3 h4) ?_
  have I1 : Inv X pins σ H { s with heap := s.heap.push { cls := .type "range", data := .fields #[.int lo t, .int hi u, .int 1 v] }, toks := tk } := I.kept fun b o e => Heap.get?_push_of_some _ e
  refine ⟨(s.heap.push { cls := .type "range", data := .fields #[.int lo t, .int hi u, .int 1 v] }).objs.size, [(s.heap.push { cls := .type "range", data := .fields #[.int lo t, .int hi u, .int 1 v] }).objs.size], _, _, H, rfl,
    I1.kept (t' := tk) fun b o e => Heap.get?_push_of_some _ e, turn_range _ lo (hi - lo).toNat, ?_, fun b hb => ?_, q⟩
  · have e1 : lo + ((0 : Nat) : Int) * 1 = lo := by simp
    have e2 : (((hi - lo).toNat : Nat) : Int) - ((0 : Nat) : Int) = Builtin.Range.rangeSize lo hi 1 := by rw [rangeSize_one]; split <;> omega
    show IsRangeIter _ _ (lo + ((0 : Nat) : Int) * 1) ((((hi - lo).toNat : Nat) : Int) - ((0 : Nat) : Int)) 1
    rw [e1, e2]
    exact Heap.get?_push_size _ rfl
  · have e : b = (s.heap.push { cls := .type "range", data := .fields #[.int lo t, .int hi u, .int 1 v] }).objs.size := by simpa using hb
    subst e
    exact I1.fpOk (Nat.le_refl _) (I1.hok.fresh (Nat.le_refl _))
def iRng1 (ta : TA) : TI := fun σ H R => ta σ H fun vs H1 => ∃ j : Int, vs = [.int j] ∧ -(2 ^ 62) ≤ j ∧ j < 2 ^ 62 ∧ R (Itr 0 j.toNat) H1
def iRng2 (ta : TA) : TI := fun σ H R => ta σ H fun vs H1 => ∃ i j : Int, vs = [.int i, .int j] ∧ (-(2 ^ 62) ≤ i ∧ i < 2 ^ 62 ∧ -(2 ^ 62) ≤ j ∧ j < 2 ^ 62) ∧ R (Itr i (j - i).toNat) H1
theorem pi_range1 {a : Expr} {ta : TA} {p pos : Pos} (hg : Gl X "range") (hm : X.mg "range" = none) (ha : PA X [a] ta) (hs : starEach [a] X.env = [(false, eval a X.env)] := by rfl) : PI X tg (.Call (.Name "range" p) [a] [] pos) (iRng1 ta) := by
  intro pins s σ H R I h
  refine Call_ (ld_blt I hg hm boot_range (PyProof.Rows.callWith_type1 (thn (ha pos pins s σ H _ I h) fun us s1 ⟨vs, H1, I1, r1, q1⟩ => ?_) hs rfl))
  obtain ⟨j, e, q1, q2, q⟩ := q1
  subst e
  cases r1 with
  | cons r rr =>
    cases rr
    obtain ⟨t, rfl⟩ := r
    exact call_range_1 (range_it I1 (by omega) (by omega) q1 q2 (by simpa using q))
theorem pi_range2 {a b : Expr} {ta : TA} {p pos : Pos} (hg : Gl X "range") (hm : X.mg "range" = none) (ha : PA X [a, b] ta) (hs : starEach [a, b] X.env = [(false, eval a X.env), (false, eval b X.env)] := by rfl) (hs2 : starEach [b] X.env = [(false, eval b X.env)] := by rfl) :
    PI X tg (.Call (.Name "range" p) [a, b] [] pos) (iRng2 ta) := by
  intro pins s σ H R I h
  refine Call_ (ld_blt I hg hm boot_range (PyProof.Rows.callWith_type1 (thn (ha pos pins s σ H _ I h) fun us s1 ⟨vs, H1, I1, r1, q1⟩ => ?_) (by rw [hs, hs2]) (by rw [hs2]; rfl)))
  obtain ⟨i, j, e, ⟨q1, q2, q3, q4⟩, q⟩ := q1
  subst e
  cases r1 with
  | cons r rr =>
    cases rr with
    | cons r' rr =>
      cases rr
      obtain ⟨t, rfl⟩ := r
      obtain ⟨t', rfl⟩ := r'
      exact call_range_2 (range_it I1 q1 q2 q3 q4 q)
def tFor (wi : TI) (g : TG) (tb : TS) : TS := fun D σ H => wi σ H fun J H1 => ∃ W : Nat → Nat → St → Hp → Prop, (∃ m, W 0 m σ H1) ∧ ∀ i m σ H, W i m σ H →
  (J.stop i H ∧ D.nx σ H) ∨ (J.go i H ∧ ∃ N : St → Hp → Prop, (∀ σ' H', N σ' H' → ∃ m', m' < m ∧ W (i + 1) m' σ' H') ∧ ∀ x H', J.yld i H x H' → g x σ H' fun σ2 H2 => tb { D with nx := N, ct := N, bk := D.nx } σ2 H2)
def pinsAt (fp : List Addr) (h : Heap) : List (Addr × Obj) := fp.filterMap fun b => (h.get? b).map fun o => (b, o)
theorem mem_pinsAt {fp : List Addr} {h : Heap} {b : Addr} {o : Obj} (hb : b ∈ fp) (e : h.get? b = some o) : (b, o) ∈ pinsAt fp h := List.mem_filterMap.mpr ⟨b, hb, by rw [e]; rfl⟩
theorem of_pinsAt {fp : List Addr} {h : Heap} {p : Addr × Obj} (hp : p ∈ pinsAt fp h) : p.1 ∈ fp ∧ h.get? p.1 = some p.2 := by
  obtain ⟨b, hb, e⟩ := List.mem_filterMap.mp hp
  cases q : h.get? b with
  | none => rw [q] at e; cases e
  | some o =>
    rw [q] at e
    have e' : (b, o) = p := Option.some.inj e
    subst e'
    exact ⟨hb, q⟩
theorem Inv.pinned {pins : List (Addr × Obj)} {σ : St} {H : Hp} {s : Shared} {fp : List Addr} (I : Inv X pins σ H s) (hf : ∀ b ∈ fp, FpOk X pins H b) (ho : ∀ b ∈ fp, ∃ o, s.heap.get? b = some o ∧ ∀ v, o.data ≠ .cell v) : Inv X (pins ++ pinsAt fp s.heap) σ H s :=
  I.pins_of fun p hp => (List.mem_append.mp hp).elim (fun z => I.pin p (List.mem_append_right _ z)) fun z => by
    obtain ⟨hb, e⟩ := of_pinsAt z
    obtain ⟨f0, f1, f2, _⟩ := hf p.1 hb
    obtain ⟨o, e', d⟩ := ho p.1 hb
    rw [e] at e'; cases e'
    exact ⟨e, f0, f1, f2, d⟩
theorem Inv.unpinned {pins pl : List (Addr × Obj)} {σ : St} {H : Hp} {s : Shared} (I : Inv X (pins ++ pl) σ H s) : Inv X pins σ H s := I.pins_of fun p hp => I.pin p (List.mem_append_right _ (List.mem_append_left _ hp))
theorem ps_for {iter : Expr} {body : List Stmt} {wi : TI} {g : TG} {tb : TS} {pos : Pos} (hp : PassesOwn (model X.prog X.w) X.A X.env X.xe) (hc : X.calm = true) (hi : PI X tg iter wi) (hg : PG X tg g) (hb : PSs X body tb)
    (hs : ∀ x, foldedSetIterable iter X.env x = pure x := by intro _; rfl) : PS X (.For tg iter body [] pos) (tFor wi g tb) := by
  intro pins s σ H D I h
  refine wpAny_For (thn (hi pins s σ H _ I h) fun v s1 h1 => thn h1 fun itv s2 h2 => ?_) hs
  obtain ⟨it, fp, tn, J, H2, e, I2, T, st2, f2, W, ⟨m0, w0⟩, turn⟩ := h2
  subst e
  -- what stays true of the iterator's objects through the loop
  have stat : ∀ {H' : Hp}, (∀ b ∈ fp, H' b = none) → ∀ b ∈ fp, FpOk X pins H' b := fun hn b hb => ⟨hn b hb, (f2 b hb).2⟩
  refine codeAny_forLoop_any (fun n s' => ∃ i σ' H', Inv X pins σ' H' s' ∧ tn i s'.heap ∧ (∀ b ∈ fp, H' b = none) ∧ W i n σ' H') ?_ m0 ⟨0, σ, H2, I2, st2, fun b hb => (f2 b hb).1, w0⟩
  rintro n s3 ⟨i, σ3, H3, I3, st3, fr3, w3⟩
  rcases turn i n σ3 H3 w3 with ⟨stop, qn⟩ | ⟨go, N, hN, step⟩
  · refine wpAny_passesOwn hp (thn (T.done X rfl rfl rfl hc i pins s3 σ3 H3 X.xe I3 (stat fr3) st3 stop) fun r s4 ⟨hr, I4⟩ => ?_)
    subst hr
    exact wpAny_execs_nil ⟨σ3, H3, I4, qn⟩
  · refine wpAny_passesOwn hp (thn (T.item X rfl rfl rfl hc i pins s3 σ3 H3 X.xe I3 (stat fr3) st3 go) fun r s4 ⟨u, hr, h4⟩ => ?_)
    subst hr
    refine wpAny_passesOwn hp (thn h4 fun _ s5 ⟨x, H5, I5, r5, y5, st5, fr5⟩ => ?_)
    have I5' := I5.pinned (stat fr5) (T.obj _ _ st5)
    refine wpAny_passesOwn hp (thn (hg _ s5 σ3 H5 x u _ I5' r5 (step x H5 y5)) fun _ s6 ⟨σ6, H6, I6, q6⟩ => ?_)
    refine wpAny_passesOwn hp (thn (hb _ s6 σ6 H6 _ I6 q6) fun f s7 q7 => ?_)
    have again : ∀ {σ7 : St} {H7 : Hp}, Inv X (pins ++ pinsAt fp s5.heap) σ7 H7 s7 → N σ7 H7 → ∃ m, m < n ∧ ∃ i σ' H', Inv X pins σ' H' s7 ∧ tn i s7.heap ∧ (∀ b ∈ fp, H' b = none) ∧ W i m σ' H' := fun {σ7 H7} I7 n7 => by
      obtain ⟨m', hm, w7⟩ := hN σ7 H7 n7
      refine ⟨m', hm, i + 1, σ7, H7, I7.unpinned, T.keep _ _ _ st5 fun b hb o e => (I7.pin (b, o) (List.mem_append_right _ (List.mem_append_right _ (mem_pinsAt hb e)))).1, fun b hb => ?_, w7⟩
      obtain ⟨o, e, d⟩ := T.obj _ _ st5 b hb
      exact (I7.pin (b, o) (List.mem_append_right _ (List.mem_append_right _ (mem_pinsAt hb e)))).2.1
    cases f with
    | next => obtain ⟨σ7, H7, I7, n7⟩ := q7; exact again I7 n7
    | cont => obtain ⟨σ7, H7, I7, n7⟩ := q7; exact again I7 n7
    | brk => obtain ⟨σ7, H7, I7, q7⟩ := q7; exact ⟨σ7, H7, I7.unpinned, q7⟩
    | ret v => obtain ⟨x7, σ7, H7, I7, r7, q7⟩ := q7; exact ⟨x7, σ7, H7, I7.unpinned, r7, q7⟩
end
end L2
namespace L2
open PySem PySem.Spec PyProof.Rows
abbrev R2 := V → V → Hp → VK → Prop
def OpR (X : Cx) (f : Value → Value → Sem Value) (r : R2) : Prop :=
  ∀ (pins : List (Addr × Obj)) (s : Shared) (σ : St) (H : Hp) (x y : V) (v u : Value) (Q : VK), Inv X pins σ H s → RelV x v → RelV y u → r x y H Q →
    wpAny (model X.prog X.w) X.A (f v u) (EP X pins σ Q) X.xe s
def UnR (X : Cx) (f : Value → Sem Value) (r : V → Hp → VK → Prop) : Prop :=
  ∀ (pins : List (Addr × Obj)) (s : Shared) (σ : St) (H : Hp) (x : V) (v : Value) (Q : VK), Inv X pins σ H s → RelV x v → r x H Q →
    wpAny (model X.prog X.w) X.A (f v) (EP X pins σ Q) X.xe s
def CallR (X : Cx) (f : Value) (r : List V → Hp → VK → Prop) : Prop :=
  ∀ (pins : List (Addr × Obj)) (s : Shared) (σ : St) (H : Hp) (xs : List V) (us : List Value) (Q : VK), Inv X pins σ H s → Vals xs us → r xs H Q →
    wpAny (model X.prog X.w) X.A (call f us) (EP X pins σ Q) X.xe s
def tOp (r : R2) (ta tb : TE) : TE := fun σ H Q => ta σ H fun x H1 => tb σ H1 fun y H2 => r x y H2 Q
def tUn (r : V → Hp → VK → Prop) (ta : TE) : TE := fun σ H Q => ta σ H fun x H1 => r x H1 Q
def rI (C : Int → Int → Prop) (g : Int → Int → V) : R2 := fun x y H Q => ∃ i j, x = .int i ∧ y = .int j ∧ C i j ∧ Q (g i j) H
def rI0 (g : Int → Int → V) : R2 := fun x y H Q => ∃ i j, x = .int i ∧ y = .int j ∧ Q (g i j) H
def rU (g : Int → V) : V → Hp → VK → Prop := fun x H Q => ∃ i, x = .int i ∧ Q (g i) H
section
variable {X : Cx} {a b c : Expr} {ta tb tc : TE} {pos : Pos}
theorem binT (ha : PE X a ta) (hb : PE X b tb) {pins : List (Addr × Obj)} {s : Shared} {σ : St} {H : Hp} {R : V → V → Hp → Prop} (I : Inv X pins σ H s)
    (h : ta σ H fun x H1 => tb σ H1 fun y H2 => R x y H2) {Q : Value → Shared → Prop} {f : Value → Value → Sem Value}
    (hf : ∀ v u s2 x y H2, Inv X pins σ H2 s2 → RelV x v → RelV y u → R x y H2 → wpAny (model X.prog X.w) X.A (f v u) Q X.xe s2) :
    wpAny (model X.prog X.w) X.A (eval a X.env) (fun v s₁ => wpAny (model X.prog X.w) X.A (eval b X.env) (fun u s₂ => wpAny (model X.prog X.w) X.A (f v u) Q X.xe s₂) X.xe s₁) X.xe s := by
  refine thn (ha pins s σ H _ I h) fun v s1 ⟨x, H1, I1, r1, q1⟩ => ?_
  refine thn (hb pins s1 σ H1 _ I1 q1) fun u s2 ⟨y, H2, I2, r2, q2⟩ => ?_
  exact hf v u s2 x y H2 I2 r1 r2 q2
theorem pe_op {op : Operator} {r : R2} (ho : OpR X (binaryOp op) r) (ha : PE X a ta) (hb : PE X b tb) : PE X (.BinOp a op b pos) (tOp r ta tb) := by
  intro pins s σ H Q I h
  exact wpAny_BinOp (binT ha hb I h fun v u s2 x y H2 I2 rx ry q => ho pins s2 σ H2 x y v u Q I2 rx ry q)
theorem pe_un {op : UnaryOp} {r : V → Hp → VK → Prop} (ho : UnR X (unaryOp op) r) (ha : PE X a ta) : PE X (.UnaryOp op a pos) (tUn r ta) := by
  intro pins s σ H Q I h
  exact UnaryOp_ (thn (ha pins s σ H _ I h) fun v s1 ⟨x, H1, I1, r1, q1⟩ => ho pins s1 σ H1 x v Q I1 r1 q1)
theorem opI {f : Value → Value → Sem Value} {C : Int → Int → Prop} {g : Int → Int → Int}
    (rule : ∀ (i j : Int) (t u : Tok) (s : Shared) (Q : Value → Shared → Prop) (E : Value → Shared → Prop), C i j → Q (.int (g i j) s.toks) { s with toks := s.toks + 1 } → wpAny (model X.prog X.w) X.A (f (.int i t) (.int j u)) Q E s) :
    OpR X f (rI C fun i j => .int (g i j)) := by
  intro pins s σ H x y v u Q I rx ry h
  obtain ⟨i, j, rfl, rfl, hc, q⟩ := h
  obtain ⟨t, rfl⟩ := rx
  obtain ⟨t', rfl⟩ := ry
  exact rule i j t t' s _ _ hc ⟨.int (g i j), H, I.tok _, ⟨_, rfl⟩, q⟩
theorem opI0 {f : Value → Value → Sem Value} {g : Int → Int → Int}
    (rule : ∀ (i j : Int) (t u : Tok) (s : Shared) (Q : Value → Shared → Prop) (E : Value → Shared → Prop), Q (.int (g i j) s.toks) { s with toks := s.toks + 1 } → wpAny (model X.prog X.w) X.A (f (.int i t) (.int j u)) Q E s) :
    OpR X f (rI0 fun i j => .int (g i j)) := by
  intro pins s σ H x y v u Q I rx ry h
  obtain ⟨i, j, rfl, rfl, q⟩ := h
  obtain ⟨t, rfl⟩ := rx
  obtain ⟨t', rfl⟩ := ry
  exact rule i j t t' s _ _ ⟨.int (g i j), H, I.tok _, ⟨_, rfl⟩, q⟩
theorem opB0 {f : Value → Value → Sem Value} {g : Int → Int → Bool}
    (rule : ∀ (i j : Int) (t u : Tok) (s : Shared) (Q : Value → Shared → Prop) (E : Value → Shared → Prop), Q (.bool (g i j)) s → wpAny (model X.prog X.w) X.A (f (.int i t) (.int j u)) Q E s) :
    OpR X f (rI0 fun i j => .bl (g i j)) := by
  intro pins s σ H x y v u Q I rx ry h
  obtain ⟨i, j, rfl, rfl, q⟩ := h
  obtain ⟨t, rfl⟩ := rx
  obtain ⟨t', rfl⟩ := ry
  exact rule i j t t' s _ _ ⟨.bl (g i j), H, I, rfl, q⟩
def CMul (i j : Int) : Prop := (-(2 ^ 64) < i ∧ i < 2 ^ 64) ∨ (-(2 ^ 64) < j ∧ j < 2 ^ 64)
theorem CMul.ok {i j : Int} (h : CMul i j) : IntMulOk i j := by
  rcases h with ⟨h1, h2⟩ | ⟨h1, h2⟩
  · exact .of_left (intBits_le_64 h1 h2)
  · exact .of_right (intBits_le_64 h1 h2)
theorem op_add : OpR X (binaryOp .Add) (rI0 fun i j => .int (i + j)) := opI0 fun _ _ _ _ _ _ _ q => add_int q
theorem op_sub : OpR X (binaryOp .Sub) (rI0 fun i j => .int (i - j)) := opI0 fun _ _ _ _ _ _ _ q => sub_int q
theorem op_modN : OpR X (binaryOp .Mod) (rI (fun _ j => j ≠ 0) fun i j => .int (i.fmod j)) := opI fun _ _ _ _ _ _ _ hc q => mod_int' hc q
theorem unI {f : Value → Sem Value} {g : Int → Int}
    (rule : ∀ (i : Int) (t : Tok) (s : Shared) (Q : Value → Shared → Prop) (E : Value → Shared → Prop), Q (.int (g i) s.toks) { s with toks := s.toks + 1 } → wpAny (model X.prog X.w) X.A (f (.int i t)) Q E s) :
    UnR X f (rU fun i => .int (g i)) := by
  intro pins s σ H x v Q I rx h
  obtain ⟨i, rfl, q⟩ := h
  obtain ⟨t, rfl⟩ := rx
  exact rule i t s _ _ ⟨.int (g i), H, I.tok _, ⟨_, rfl⟩, q⟩
theorem un_neg : UnR X (unaryOp .USub) (rU fun i => .int (-i)) := unI fun _ _ _ _ _ q => neg_int q
end
def scal : V → V → Bool
  | .non, .non => true | .non, .int _ => true | .int _, .non => true | .non, .bl _ => true | .bl _, .non => true | .non, .str _ => true | .str _, .non => true
  | .int _, .int _ => true | .bl _, .bl _ => true | .str _, .str _ => true | .byt _, .byt _ => true
  | .int _, .str _ => true | .str _, .int _ => true | .bl _, .str _ => true | .str _, .bl _ => true
  | _, _ => false
section
variable {X : Cx} {a b c : Expr} {ta tb tc : TE} {pos : Pos}
theorem op_lt : OpR X (compareOp .Lt) (rI0 fun i j => .bl (decide (i < j))) := opB0 fun _ _ _ _ _ _ _ q => lt_int q
theorem op_le : OpR X (compareOp .LtE) (rI0 fun i j => .bl (decide (i ≤ j))) := opB0 fun _ _ _ _ _ _ _ q => le_int q
theorem OpR.or {f : Value → Value → Sem Value} {r r' : R2} (h : OpR X f r) (h' : OpR X f r') : OpR X f (fun x y H Q => r x y H Q ∨ r' x y H Q) := by
  intro pins s σ H x y v u Q I rx ry q
  rcases q with q | q
  · exact h pins s σ H x y v u Q I rx ry q
  · exact h' pins s σ H x y v u Q I rx ry q
theorem nomark (b : Expr) {op : CmpOp} (h : op ≠ .In := by decide) (h2 : op ≠ .NotIn := by decide) : behindInMarks op b = false := by
  have e1 : (op == CmpOp.In) = false := by cases op <;> first | rfl | exact absurd rfl h
  have e2 : (op == CmpOp.NotIn) = false := by cases op <;> first | rfl | exact absurd rfl h2
  cases b <;> simp [behindInMarks, e1, e2]
def tTest (t : TE) : TT := fun σ H Q => t σ H fun x H' => ∃ k, x = .bl k ∧ Q k H'
theorem pt_cmpR {op : CmpOp} {r : R2} (ho : OpR X (compareOp op) r) (ha : PE X a ta) (hb : PE X b tb) (hm : behindInMarks op b = false) : PT X (.Compare a [op] [b] pos) (tTest (tOp r ta tb)) := by
  intro pins s σ H Q I h
  refine wpAny_isTrue_Compare1 (thn (ha pins s σ H _ I h) fun v s1 ⟨x, H1, I1, r1, q1⟩ => thn (hb pins s1 σ H1 _ I1 q1) fun u s2 ⟨y, H2, I2, r2, q2⟩ =>
    thn (ho pins s2 σ H2 x y v u _ I2 r1 r2 q2) fun c s3 ⟨z, H3, I3, r3, k, e, q3⟩ => ?_) hm
  subst e
  cases r3
  exact wpAny_truthy_bool ⟨H3, I3, q3⟩
theorem line63 : (sizeLine : Nat) < 2 ^ 63 := by rw [sizeLine_eq]; decide
theorem op_add_str : OpR X (binaryOp .Add) (fun x y H Q => ∃ i j, x = .str i ∧ y = .str j ∧ i.length + j.length ≤ sizeLine ∧ Q (.str (i ++ j)) H) := by
  intro pins s σ H x y v u Q I rx ry h
  obtain ⟨i, j, rfl, rfl, hz, q⟩ := h
  obtain ⟨t, rfl⟩ := rx
  obtain ⟨t', rfl⟩ := ry
  exact add_str (fun t' tk => ⟨.str (i ++ j), H, I.tok _, ⟨_, rfl⟩, q⟩) hz
theorem vals1 {x : V} {us : List Value} (r : Vals [x] us) : ∃ u, us = [u] ∧ RelV x u := by
  cases r with
  | cons r1 r2 => cases r2; exact ⟨_, rfl, r1⟩
theorem vals2 {x y : V} {us : List Value} (r : Vals [x, y] us) : ∃ u w', us = [u, w'] ∧ RelV x u ∧ RelV y w' := by
  cases r with
  | cons r1 r2 =>
    cases r2 with
    | cons r3 r4 => cases r4; exact ⟨_, _, rfl, r1, r3⟩
theorem call_abs : CallR X (.builtin "abs") (fun xs H Q => ∃ i, xs = [.int i] ∧ Q (.int (if i < 0 then -i else i)) H) := by
  intro pins s σ H xs us Q I r h
  obtain ⟨i, rfl, q⟩ := h
  obtain ⟨u, rfl, t, rfl⟩ := vals1 r
  exact call_abs_int fun u tk => ⟨.int (if i < 0 then -i else i), H, I.tok _, ⟨_, rfl⟩, q⟩
end
end L2
namespace L2
open PySem PySem.Spec PyProof.Rows
structure ObjM (h : Heap) (x dx C : Addr) (mA : Str → Option Value) : Prop where
  obj : h.get? x = some (PySem.W.instObj C dx)
  ns : h.Ns1 dx mA
  ne : dx ≠ x
theorem lookIn_ns {h : Heap} {dx : Addr} {mA : Str → Option Value} (n : h.Ns1 dx mA) : ∃ od, h.get? dx = some od ∧ ∀ name, PySem.W.lookIn name od = some (mA name) := by
  obtain ⟨o, es, ep, ho, hd, hk, _, hm⟩ := n
  refine ⟨o, ho, fun name => ?_⟩
  have e := hm name
  unfold nsFind findBy at e
  rw [← Array.find?_toList] at e
  unfold PySem.W.lookIn
  rw [hd]
  dsimp only
  split
  · rename_i y q
    rw [q] at e
    exact congrArg some e
  · rename_i q
    rw [q] at e
    have a : es.toList.any (·.refKey) = false := by
      rw [List.any_eq_false]
      intro y hy
      obtain ⟨z, t, hkey⟩ := hk y (Array.mem_toList_iff.mp hy)
      simp [DictEntry.refKey, hkey]
    have a' : ¬ es.toList.any (·.refKey) = true := by rw [a]; exact Bool.false_ne_true
    rw [if_neg a']
    exact congrArg some e
theorem ObjM.look {h : Heap} {x dx C : Addr} {mA : Str → Option Value} (I : ObjM h x dx C mA) : ∃ od, PySem.W.InstAt h x (PySem.W.instObj C dx) C (some od) ∧ ∀ name, PySem.W.lookIn name od = some (mA name) :=
  let ⟨od, ho, hl⟩ := lookIn_ns I.ns
  ⟨od, ⟨I.obj, rfl, rfl, ho⟩, hl⟩
section
variable {prog : Program} {w : World} {A : Around} {E : Value → Shared → Prop} {s : Shared} {K : PySem.W.Frag} {x dx C f : Addr} {mA : Str → Option Value} {name : Str} {v : Value}
end
section
variable {P : Program} {w : World} {H H' : Hp} {h h' : Heap} {a C dx : Addr} {fs fs' : List (Str × V)}
theorem ins_get (hok : HOk P w H h) (e : H a = some (.ins C dx fs)) : ∃ mA, ObjM h a dx C mA ∧ (∀ f, RelO (fs.lookup f) (mA f)) ∧ PySem.Within mA (fs.map (·.1)) ∧ fs.length ≤ 1000 ∧ H dx = some (.own a) := by
  obtain ⟨d, z, ne, ob, mA, n, r, q⟩ := (show ObjOk P w H h a (.ins C dx fs) from hok a _ e)
  exact ⟨mA, ⟨ob, n, ne⟩, r, q, z, d⟩
end
structure Cls (K : PySem.W.Frag) (C : Addr) : Prop where
  pg : PySem.W.plainGet K C Str.empty = true
  hd : PySem.W.hasDictIn K C = true
  po : PySem.W.plainOver K C = true
  sa : PySem.W.findIn K (.ref C) "__setattr__" = some (some (.builtin "object.__setattr__"))
theorem Cls.get {K : PySem.W.Frag} {C : Addr} (c : Cls K C) (f : Str) : PySem.W.plainGet K C f = true := c.pg
structure Con (K : PySem.W.Frag) (C : Addr) (f : Str) (v : V) (u : Value) : Prop where
  at_ : PySem.W.findIn K (.ref C) f = some (some u)
  rel : RelV v u
  get : PySem.W.specialIn K u "__get__" = some none
  cp : PySem.W.copiedNames.contains f = false
structure Meth (K : PySem.W.Frag) (C : Addr) (m : Str) (f : Addr) : Prop where
  at_ : PySem.W.findIn K (.ref C) m = some (some (.ref f))
  fn : PySem.W.isFn K (.ref f) = true
  kp : PySem.W.keepIn K (.ref f) = true
section
variable {X : Cx} {pins : List (Addr × Obj)} {σ : St} {H : Hp} {s : Shared} {a C dx : Addr} {fs : List (Str × V)} {f : Str} {v : V} {A : Around} {E : Value → Shared → Prop}
theorem Inv.made (I : Inv X pins σ H s) : Inv X pins σ (upd (upd H s.heap.objs.size (.own (s.heap.objs.size + 1))) (s.heap.objs.size + 1) (.ins C s.heap.objs.size []))
    { s with heap := (s.heap.push PySem.W.emptyDict).push (PySem.W.instObj C s.heap.objs.size) } := by
  have e1 : (s.heap.push PySem.W.emptyDict).get? s.heap.objs.size = some PySem.W.emptyDict := Heap.get?_push_size s.heap rfl
  have e2 : ((s.heap.push PySem.W.emptyDict).push (PySem.W.instObj C s.heap.objs.size)).get? (s.heap.objs.size + 1) = some (PySem.W.instObj C s.heap.objs.size) := by
    have := Heap.get?_push_size (s.heap.push PySem.W.emptyDict) (o := PySem.W.instObj C s.heap.objs.size) rfl
    rwa [Heap.size_push] at this
  have e3 : (s.heap.push PySem.W.emptyDict).Ns s.heap.objs.size (fun _ => none) := ⟨PySem.W.emptyDict, #[], _, e1, rfl, (fun e he => absurd he (by simp)), fun _ => rfl⟩
  have I1 := I.laid (a := s.heap.objs.size) (o := .own (s.heap.objs.size + 1)) (h' := s.heap.push PySem.W.emptyDict) (t' := s.toks) (fun b u q => Heap.get?_push_of_some _ q) (Nat.le_refl _) ⟨_, e1⟩
  refine I1.laid (a := s.heap.objs.size + 1) (o := .ins C s.heap.objs.size []) (t' := s.toks) (fun b u q => Heap.get?_push_of_some _ q) (Nat.le_of_eq (Heap.size_push _ _)) ?_
  have ne : s.heap.objs.size ≠ s.heap.objs.size + 1 := Nat.ne_of_lt (Nat.lt_succ_self _)
  refine ⟨by rw [upd_ne ne, upd_same], Nat.zero_le _, ne, e2, fun _ => none, (Heap.Ns1.of_empty e3).at fun o q => Heap.get?_push_of_some _ q, fun _ => True.intro, fun y hy => absurd rfl hy⟩
end
section
variable {X : Cx} {o e value : Expr} {f : Str} {pos pos' tpos : Pos} {ta tv : TE}
end
section
variable {X : Cx} {pins : List (Addr × Obj)} {σ : St} {H : Hp} {s : Shared} {A : Around} {E : Value → Shared → Prop} {Q : Value → Shared → Prop} {c : Value} {b : Bool}
inductive TyOf (K : PySem.W.Frag) (H : Hp) : V → Value → Prop where
  | non : TyOf K H .non (.type "NoneType")
  | bl (x : Bool) : TyOf K H (.bl x) (.type "bool")
  | int (i : Int) : TyOf K H (.int i) (.type "int")
  | str (x : Str) : TyOf K H (.str x) (.type "str")
  | flt (x : UInt64) : TyOf K H (.flt x) (.type "float")
  | lst {a : Addr} {xs : List V} (e : H a = some (.lst xs)) : TyOf K H (.ref a) (.type "list")
  | frz {a : Addr} {o : Obj} {xs : List V} (e : H a = some (.frz o (.lst xs))) : TyOf K H (.ref a) (.type "list")
  | tup {a : Addr} {xs : List V} (e : H a = some (.tup xs)) : TyOf K H (.ref a) (.type "tuple")
  | dK {a : Addr} {kvs : List (Key × V)} (e : H a = some (.dK kvs)) : TyOf K H (.ref a) (.type "dict")
  | dT {a : Addr} {kvs : List (List Key × V)} (e : H a = some (.dT kvs)) : TyOf K H (.ref a) (.type "dict")
  | ins {a C dx : Addr} {fs : List (Str × V)} (e : H a = some (.ins C dx fs)) (cl : Cls K C) (ha : PySem.W.findIn K (.ref C) "__class__" = some (some (.builtin "object.__class__")))
      (hn : PySem.W.specialIn K (.builtin "object.__class__") "__get__" = some (some (.builtin "getset_descriptor.__get__"))) (htk : PySem.W.takesIn K (.builtin "object.__class__") = some true)
      (hm : PySem.W.mroIn K C (.type "object") = some true) : TyOf K H (.ref a) (.ref C)
end
end L2
namespace L2
open PySem PySem.Spec PyProof.Rows
structure Room (k : Nat) (A : Around) : Prop where
  hd : A.handled = none
  dp : A.depth + 3 * k + 5 < recursionLimit
  un : A.units + 16 * k + 200 < cLine
theorem Room.mono {j k : Nat} {A : Around} (r : Room k A) (h : j ≤ k) : Room j A := ⟨r.hd, by have := r.dp; omega, by have := r.un; omega⟩
theorem Room.deeper {k : Nat} {A : Around} (r : Room (k + 1) A) (env : Env) : Room k (A.deeper env) :=
  ⟨r.hd, by have := r.dp; show A.depth + 1 + 3 * k + 5 < _; omega, by have := r.un; show A.units + 3 + 16 * k + 200 < _; omega⟩
theorem Room.depth {k : Nat} {A : Around} (r : Room k A) : A.depth < recursionLimit := by have := r.dp; omega
theorem Room.units {k : Nat} {A : Around} (r : Room k A) : A.units + 64 < cLine := by have := r.un; omega
def tNil : TA := fun _ H Q => Q [] H
def tCons (ta : TE) (tr : TA) : TA := fun σ H Q => ta σ H fun x H1 => tr σ H1 fun xs H2 => Q (x :: xs) H2
section
variable {X : Cx} {e : Expr} {es : List Expr} {te : TE} {t : TA} {pos : Pos}
theorem pa_nil : PA X [] tNil := fun _ _ _ _ H Q I h => Calls.spliced_nil ⟨[], H, I, .nil, h⟩
theorem pa_cons (ha : PE X e te) (hr : PA X es t) (hs : starEach (e :: es) X.env = (false, eval e X.env) :: starEach es X.env := by rfl) : PA X (e :: es) (tCons te t) := by
  intro pos pins s σ H Q I h
  rw [hs]
  show wpAny _ _ (spliced ((false, eval e X.env) :: backTo pos (starEach es X.env))) _ _ s
  refine Calls.spliced_cons (thn (ha pins s σ H _ I h) fun u s1 ⟨x, H1, I1, r1, q1⟩ => ?_)
  exact thn (hr pos pins s1 σ H1 _ I1 q1) fun us s2 ⟨xs, H2, I2, r2, q2⟩ => ⟨x :: xs, H2, I2, .cons r1 r2, q2⟩
def tTup (t : TA) : TE := fun σ H Q => t σ H fun xs H1 => xs.length ≤ sizeLine ∧ ∀ p, H1 p = none → Q (.ref p) (upd H1 p (.tup xs))
def tLst (t : TA) : TE := fun σ H Q => t σ H fun xs H1 => xs.length ≤ sizeLine ∧ ∀ p, H1 p = none → Q (.ref p) (upd H1 p (.lst xs))
theorem pe_tup {x1} (h : PA X es t) : PE X (.Tuple es x1 pos) (tTup t) := by
  intro pins s σ H Q I hq
  refine wpAny_Tuple_spliced (thn (h pos pins s σ H _ I hq) fun us s1 ⟨xs, H1, I1, r, z, q⟩ => ⟨by rw [← r.length]; exact z, ?_⟩)
  have hf : H1 s1.heap.objs.size = none := I1.hok.fresh (Nat.le_refl _)
  refine ⟨.ref s1.heap.objs.size, upd H1 s1.heap.objs.size (.tup xs), I1.laid (t' := s1.toks) (fun b u e => Heap.get?_push_of_some _ e) (Nat.le_refl _) ?_, rfl, q _ hf⟩
  exact ⟨z, us, r, ⟨_, Heap.get?_push_size _ rfl, rfl, _, rfl⟩⟩
theorem pe_lst (h : PA X es t) : PE X (.List es pos) (tLst t) := by
  intro pins s σ H Q I hq
  refine wpAny_List_spliced (thn (h pos pins s σ H _ I hq) fun us s1 ⟨xs, H1, I1, r, z, q⟩ => ⟨by rw [← r.length]; exact z, ?_⟩)
  have hf : H1 s1.heap.objs.size = none := I1.hok.fresh (Nat.le_refl _)
  refine ⟨.ref s1.heap.objs.size, upd H1 s1.heap.objs.size (.lst xs), I1.laid (t' := s1.toks) (fun b u e => Heap.get?_push_of_some _ e) (Nat.le_refl _) ?_, rfl, q _ hf⟩
  exact ⟨z, us, 0, r, Heap.get?_push_size _ rfl⟩
end
abbrev Sp := List V → Hp → VK → XK → Prop
abbrev CXT := List Env → Hp → Shared → XK → Value → Shared → Prop
structure Env0 (P : Program) (w : World) (K : PySem.W.Frag) (mg : Str → Option Value) (base : Heap) (A : Around) (outer : List Env) (s : Shared) (H : Hp) : Prop where
  frames : A.frames = some outer
  mod : Mod K mg base
  bs : ∀ b o, base.get? b = some o → s.heap.get? b = some o ∧ H b = none
  bsz : base.objs.size ≤ s.heap.objs.size
  funs : s.heap.FunFrames base outer
  frf : ∀ b ∈ frs outer, H b = none
  hok : HOk P w H s.heap
  bare : AllBare s.gens
def CE (outer : List Env) (P : Program) (w : World) (H : Hp) (s : Shared) (Q : VK) (u : Value) (s' : Shared) : Prop :=
  ∃ v H', s'.os = s.os ∧ AllBare s'.gens ∧ Un (frs outer) [] H H' s.heap s'.heap ∧ HOk P w H' s'.heap ∧ RelV v u ∧ Q v H'
def CR (CX : CXT) (outer : List Env) (P : Program) (w : World) (H : Hp) (s : Shared) (Q : VK) (E : XK) (r : Result) (s' : Shared) : Prop :=
  match r with
  | .ok (.ret u) => CE outer P w H s Q u s'
  | .ok _ => False
  | .error e => CX outer H s E e s'
structure FnOk (P : Program) (w : World) (K : PySem.W.Frag) (mg : Str → Option Value) (base : Heap) (CX : CXT) (k : Nat) (f : Addr) (fd : FuncData) (ps : List Str) (sp : Sp) : Prop where
  len : ∀ vs H Q E, sp vs H Q E → vs.length = ps.length
  run : ∀ (A : Around) (outer : List Env) (s : Shared) (H : Hp) (args : Args) (us : List Value) (vs : List V) (Q : VK) (E : XK), Room k A → Env0 P w K mg base A outer s H → BindsTo s fd args (ps.zip us) → Vals vs us → sp vs H Q E →
    codeAny (model P w) A (.call (.ref f) args) (CR CX outer P w H s Q E) s
theorem FnOk.mono {P : Program} {w : World} {K : PySem.W.Frag} {mg : Str → Option Value} {base : Heap} {CX : CXT} {j k : Nat} {f : Addr} {fd : FuncData} {ps : List Str} {sp : Sp} (F : FnOk P w K mg base CX j f fd ps sp) (h : j ≤ k) :
    FnOk P w K mg base CX k f fd ps sp := ⟨F.len, fun A outer s H args us vs Q E hr => F.run A outer s H args us vs Q E (hr.mono h)⟩
theorem FnOk.imp {P : Program} {w : World} {K : PySem.W.Frag} {mg : Str → Option Value} {base : Heap} {CX : CXT} {k : Nat} {f : Addr} {fd : FuncData} {ps : List Str} {sp sp' : Sp} (F : FnOk P w K mg base CX k f fd ps sp)
    (h : ∀ vs H Q E, sp' vs H Q E → sp vs H Q E) : FnOk P w K mg base CX k f fd ps sp' :=
  ⟨fun vs H Q E q => F.len vs H Q E (h _ _ _ _ q), fun A outer s H args us vs Q E hr he hb hv hs => F.run A outer s H args us vs Q E hr he hb hv (h _ _ _ _ hs)⟩
section
variable {X : Cx} {pins : List (Addr × Obj)} {σ : St} {H : Hp} {s s' : Shared}
theorem Inv.env0 (I : Inv X pins σ H s) : Env0 X.prog X.w X.K X.mg X.base X.A X.stack s H :=
  ⟨I.ok.frames, I.ok.mod, I.bs, Nat.le_trans I.ok.bsz I.sz, I.stack, I.stkFree, I.hok, I.bare⟩
theorem Inv.after {Q : VK} {u : Value} (I : Inv X pins σ H s) (h : CE X.stack X.prog X.w H s Q u s') : EP X pins σ Q u s' := by
  obtain ⟨v, H', os, bare, un, hok, r, q⟩ := h
  obtain ⟨hh, g, d, t, os'⟩ := s'
  obtain rfl : os' = s.os := os
  exact ⟨v, H', I.call (h' := hh) (g' := g) (d' := d) (t' := t) (ch := []) un hok bare (fun b z => absurd z (by simp)), r, q⟩
end
def tCall (sp : Sp) (dvs : List V) (E : XK) (t : TA) : TE := fun σ H Q => t σ H fun vs H1 => sp (vs ++ dvs) H1 Q E
def Binds (K : PySem.W.Frag) (fd : FuncData) (ps : List Str) (ds : List Value) : Prop :=
  ∀ (s : Shared) (us : List Value), K.In s.heap → (us ++ ds).length = ps.length → BindsTo s fd ⟨us, []⟩ (ps.zip (us ++ ds))
theorem Binds.all {K : PySem.W.Frag} {fd : FuncData} {ps : List Str} (h : ∀ us : List Value, us.length = ps.length → bindArgs fd ⟨us, []⟩ = pure (ps.zip us)) : Binds K fd ps [] := fun s us _ hl => by
  rw [List.append_nil] at hl ⊢
  exact .of_eq (h us hl)
def Passes (CX : CXT) (X : Cx) (E : XK) : Prop := ∀ (pins : List (Addr × Obj)) (σ : St) (H : Hp) (s : Shared) (e : Value) (s' : Shared), Inv X pins σ H s → CX X.stack H s E e s' → X.xe e s'
section
variable {X : Cx} {CX : CXT} {k : Nat} {f C : Addr} {fd : FuncData} {ps : List Str} {sp : Sp} {dvs : List V} {ds : List Value} {E : XK} {x m : Str} {p pos apos : Pos} {e o : Expr} {es : List Expr} {ta : TE} {t : TA}
theorem run_fn {pins : List (Addr × Obj)} {σ : St} {H : Hp} {s : Shared} {Q : VK} {us : List Value} {vs : List V} (F : FnOk X.prog X.w X.K X.mg X.base CX k f fd ps sp) (hr : Room k X.A) (hb : Binds X.K fd ps ds) (hd : Vals dvs ds) (hx : Passes CX X E)
    (I : Inv X pins σ H s) (r : Vals vs us) (h : sp (vs ++ dvs) H Q E) : wpAny (model X.prog X.w) X.A (call (.ref f) us) (EP X pins σ Q) X.xe s := by
  have r2 : Vals (vs ++ dvs) (us ++ ds) := r.append hd
  have hl : (us ++ ds).length = ps.length := by rw [← r2.length]; exact F.len _ _ _ _ h
  refine wpAny_call (codeAny_mono (F.run X.A X.stack s H ⟨us, []⟩ (us ++ ds) (vs ++ dvs) Q E hr I.env0 (hb s us I.kIn hl) r2 h) fun r s' hq => ?_)
  cases r with
  | error e => exact hx pins σ H s e s' I hq
  | ok fl =>
    cases fl with
    | ret u => exact I.after hq
    | next => exact False.elim hq
    | brk => exact False.elim hq
    | cont => exact False.elim hq
theorem pe_call (F : FnOk X.prog X.w X.K X.mg X.base CX k f fd ps sp) (hr : Room k X.A) (hg : Gl X x) (hm : X.mg x = some (.ref f)) (hk : PySem.W.keepIn X.K (.ref f) = true) (hb : Binds X.K fd ps ds) (hd : Vals dvs ds) (hx : Passes CX X E)
    (ha : PA X (e :: es) t) (hdb : (x == ("__debug__" : Str)) = false := by decide) (he : starEach (e :: es) X.env = (false, eval e X.env) :: starEach es X.env := by rfl) (hpl : (backTo pos (starEach es X.env)).any (·.1) = false := by rfl) :
    PE X (.Call (.Name x p) (e :: es) [] pos) (tCall sp dvs E t) := by
  intro pins s σ H Q I h
  refine wpAny_Call_Name_kw (ld_glob I hg hm ?_ hdb)
  refine PySem.W.callWith_K (h₀ := X.base) I.ok.mod.kin hk (thn (ha pos pins s σ H _ I h) fun us s1 ⟨vs, H1, I1, r, q⟩ => ⟨I1.kIn, ?_⟩) he hpl
  exact run_fn F hr hb hd hx I1 r q
structure Mk (K : PySem.W.Frag) (C f : Addr) : Prop where
  makes : PySem.W.makesIn K C = true
  init : PySem.W.findIn K (.ref C) "__init__" = some (some (.ref f))
  fn : PySem.W.isFn K (.ref f) = true
  kp : PySem.W.keepIn K (.ref C) = true
end
section
variable {X : Cx} {CX : CXT} {k : Nat} {f C : Addr} {fd : FuncData} {ps ks : List Str} {sp : Sp} {E : XK} {x m : Str} {p pos apos kpos : Pos} {e o : Expr} {es : List Expr} {kws : List Keyword} {te ta : TE} {t tk : TA} {nm : Option Str}
structure KBinds (K : PySem.W.Frag) (fd : FuncData) (ps ks : List Str) (g : List Value → List Value → List Value) (gV : List V → List V → List V) : Prop where
  to : ∀ (s : Shared) (us ws : List Value), K.In s.heap → (g us ws).length = ps.length → BindsTo s fd ⟨us, ks.zip ws⟩ (ps.zip (g us ws))
  rel : ∀ {vs : List V} {us : List Value} {zs : List V} {ws : List Value}, Vals vs us → Vals zs ws → Vals (gV vs zs) (g us ws)
variable {g : List Value → List Value → List Value} {gV : List V → List V → List V}
end
structure FnScope (N P : List Str) (sc : Scope) : Prop where
  kind : sc.kind = .function
  co : sc.isCoroutine = false
  gen : sc.isGenerator = false
  nd : N.Nodup
  pre : N.take P.length = P
  par : ∀ x ∈ P, sc.names.lookup x = some .local ∨ sc.names.lookup x = some .cell
  nofree : ∀ y ∈ sc.names, y.2 ≠ .free
theorem bindL_out {kindOf : Str → Option NameKind} {x : Str} : ∀ {binds : List (Str × Value)} {m : Str → Option Value}, (∀ v, (x, v) ∉ binds) → bindL kindOf binds m x = m x
  | [], _, _ => rfl
  | (n, v) :: r, m, h => by
    unfold bindL
    rw [bindL_out fun w hw => h w (List.mem_cons_of_mem _ hw)]
    split
    · have : x ≠ n := by rintro rfl; exact h v List.mem_cons_self
      simp [this]
    · rfl
theorem bindC_out {kindOf : Str → Option NameKind} {x : Str} : ∀ {binds : List (Str × Value)} {m : Str → Option Value}, (∀ v, (x, v) ∉ binds) → bindC kindOf binds m x = m x
  | [], _, _ => rfl
  | (n, v) :: r, m, h => by
    unfold bindC
    rw [bindC_out fun w hw => h w (List.mem_cons_of_mem _ hw)]
    split
    · rfl
    · have : x ≠ n := by rintro rfl; exact h v List.mem_cons_self
      simp [this]
theorem bindL_get {kindOf : Str → Option NameKind} {x : Str} {v : Value} : ∀ {P : List Str} {vs : List Value} {i : Nat} {m : Str → Option Value}, P.Nodup → P[i]? = some x → vs[i]? = some v → kindOf x = some .local →
    bindL kindOf (P.zip vs) m x = some v
  | [], _, _, _, _, h, _, _ => by simp at h
  | _ :: _, [], _, _, _, _, h, _ => by simp at h
  | p :: P, w :: vs, 0, m, nd, h1, h2, hk => by
    simp at h1 h2; subst h1; subst h2
    show bindL kindOf ((p, w) :: P.zip vs) m p = _
    unfold bindL
    rw [bindL_out fun v hv => (List.nodup_cons.mp nd).1 (List.of_mem_zip hv).1, if_pos hk]
    simp
  | p :: P, w :: vs, i + 1, m, nd, h1, h2, hk => by
    show bindL kindOf ((p, w) :: P.zip vs) m x = _
    unfold bindL
    exact bindL_get (i := i) (List.nodup_cons.mp nd).2 (by simpa using h1) (by simpa using h2) hk
theorem bindC_get {kindOf : Str → Option NameKind} {x : Str} {v : Value} : ∀ {P : List Str} {vs : List Value} {i : Nat} {m : Str → Option Value}, P.Nodup → P[i]? = some x → vs[i]? = some v → kindOf x ≠ some .local →
    bindC kindOf (P.zip vs) m x = some v
  | [], _, _, _, _, h, _, _ => by simp at h
  | _ :: _, [], _, _, _, _, h, _ => by simp at h
  | p :: P, w :: vs, 0, m, nd, h1, h2, hk => by
    simp at h1 h2; subst h1; subst h2
    show bindC kindOf ((p, w) :: P.zip vs) m p = _
    unfold bindC
    rw [bindC_out fun v hv => (List.nodup_cons.mp nd).1 (List.of_mem_zip hv).1, if_neg hk]
    simp
  | p :: P, w :: vs, i + 1, m, nd, h1, h2, hk => by
    show bindC kindOf ((p, w) :: P.zip vs) m x = _
    unfold bindC
    exact bindC_get (i := i) (List.nodup_cons.mp nd).2 (by simpa using h1) (by simpa using h2) hk
def start (N : List Str) (vs : List V) : St := vs.map some ++ List.replicate (N.length - vs.length) none
def cxOf (CX : CXT) (P : Program) (w : World) (K : PySem.W.Frag) (mg : Str → Option Value) (base : Heap) (N : List Str) (qual : Str) (scope : Scope) (f : Addr) (cd : Value) (A : Around) (outer : List Env) (s : Shared) (H : Hp) (E : XK) : Cx where
  prog := P
  w := w
  K := K
  mg := mg
  base := base
  A := A.deeper (envOfC qual scope s.heap.objs.size f cd)
  N := N
  s₀ := s
  H₀ := H
  env := envOfC qual scope s.heap.objs.size f cd
  outer := outer
  stack := envOfC qual scope s.heap.objs.size f cd :: outer
  ex := []
  calm := true
  fn := fun _ => true
  pn := []
  xe := fun e s' => wpAny (model P w) (A.deeper (envOfC qual scope s.heap.objs.size f cd)) (leaving (envOfC qual scope s.heap.objs.size f cd) e) (fun _ s'' => CX outer H s E e s'') (fun e' s'' => CX outer H s E e' s'') s'
theorem cell_has {sc : Scope} {n : Nat} {x : Str} (h : sc.names.lookup x = some .cell) : ∃ c, (cellsFrom n sc.names []).lookup x = some c := by
  have q := PySem.W.cellsFrom_some sc.names n [] (.inl h)
  exact Option.isSome_iff_exists.mp q
theorem inv_start {CX : CXT} {P : Program} {w : World} {K : PySem.W.Frag} {mg : Str → Option Value} {base : Heap} {N ps : List Str} {qual : Str} {scope : Scope} {f : Addr} {cd : Value} {A : Around} {outer : List Env} {s s1 : Shared} {H : Hp} {E : XK} {us : List Value} {vs : List V}
    (S : FnScope N ps scope) (hd : A.handled = none) (e0 : Env0 P w K mg base A outer s H) (hl : vs.length = ps.length) (r : Vals vs us)
    (x : InCallC s s.heap.objs.size (bindL (envOfC qual scope s.heap.objs.size f cd).kindOf (ps.zip us) fun _ => none) (cellsFrom (s.heap.objs.size + 1) scope.names []) (bindC (envOfC qual scope s.heap.objs.size f cd).kindOf (ps.zip us) fun _ => none) s1) :
    Inv (cxOf CX P w K mg base N qual scope f cd A outer s H E) [] (start N vs) H s1 := by
  have hpl : ps.length ≤ N.length := by have := congrArg List.length S.pre; rw [List.length_take] at this; omega
  obtain ⟨h1, tk, rfl, hk⟩ := x.done
  have noA : ∀ b : Addr, b ∉ (cxOf CX P w K mg base N qual scope f cd A outer s H E).ex := fun b z => absurd (show b ∈ ([] : List Addr) from z) (by simp)
  refine ⟨⟨e0.mod, S.kind, rfl, rfl, Nat.le_refl _, fun y z c h1 h2 => ?_, fun y hy => ?_, fun y c _ h => ?_, fun _ => hd, Around.frames_deeper e0.frames, .inr ⟨rfl, rfl⟩, fun b z => absurd z (noA b), e0.bs, e0.bsz, fun b _ _ => noA b, fun b z => absurd z (noA b), e0.funs, e0.frf⟩,
    rfl, e0.bare, Un.kept hk, ⟨_, x.toInCall.ns, fun i y v h1 h2 h3 => ?_⟩, fun y c h => ⟨_, x.cell y c h⟩, e0.hok.fresh (Nat.le_refl _), fun y c h => ?_, fun p hp => absurd (show p ∈ ([] : List (Addr × Obj)) from hp) (by simp), e0.hok.kept hk, ?_⟩
  · exact name_of_addr x.apart (PySem.mem_of_lookup h1) (PySem.mem_of_lookup h2)
  · have hy : scope.names.lookup y = some .cell ∨ scope.names.lookup y = some .free := hy
    rcases hy with hy | hy
    · exact cell_has hy
    · exact absurd rfl (S.nofree _ (PySem.mem_of_lookup hy))
  · exact Nat.le_of_lt (x.above y c (PySem.mem_of_lookup h))
  · have hi : i < vs.length := by
      unfold start at h2
      by_cases hi : i < vs.length
      · exact hi
      · rw [List.getElem?_append_right (by simpa using hi)] at h2
        rw [List.getElem?_replicate] at h2
        split at h2 <;> cases h2
    have ha : vs[i]? = some v := by
      unfold start at h2
      rw [List.getElem?_append_left (by simpa using hi), List.getElem?_map] at h2
      cases e : vs[i]? with
      | none => rw [e] at h2; cases h2
      | some a => rw [e] at h2; cases h2; rfl
    obtain ⟨u, hu, rv⟩ := r.get ha
    have hp : ps[i]? = some y := by
      rw [← S.pre, List.getElem?_take_of_lt (by omega)]; exact h1
    have ndP : ps.Nodup := by rw [← S.pre]; exact S.nd.sublist (List.take_sublist _ _)
    refine ⟨u, rv, ?_⟩
    rcases S.par y (List.mem_of_getElem? hp) with k | k
    · exact .inl ⟨k, bindL_get ndP hp hu k⟩
    · obtain ⟨c, e⟩ := cell_has (n := s.heap.objs.size + 1) k
      refine .inr ⟨.inl k, c, e, ?_⟩
      have q := x.cell y c e
      rw [bindC_get ndP hp hu (by show scope.names.lookup y ≠ _; rw [k]; decide)] at q
      exact q
  · exact e0.hok.fresh (Nat.le_of_lt (x.above y c (PySem.mem_of_lookup h)))
  · unfold start
    show _ = N.length
    rw [List.length_append, List.length_map, List.length_replicate]
    omega
theorem fn_of {CX : CXT} {P : Program} {w : World} {K : PySem.W.Frag} {mg : Str → Option Value} {base : Heap} {k : Nat} {f : Addr} {name qual : Str} {params : Arguments} {body : List Stmt} {scope : Scope} {dV kV doc pm cdv ct oc : Value} {an od : Option Addr}
    {osl : Array (Option Value)} {N ps : List Str} {sp : Sp} (lk : K.lookup f = some ⟨oc, od, .func (PySem.W.fnOf name qual params body scope dV kV doc pm an cdv ct), osl⟩) (hcd : PySem.W.codeIn K cdv qual = true) (S : FnScope N ps scope)
    (len : ∀ vs H Q E, sp vs H Q E → vs.length = ps.length)
    (hbody : ∀ (A : Around) (outer : List Env) (s : Shared) (H : Hp) (vs : List V) (Q : VK) (E : XK), Room k (A.deeper (envOfC qual scope s.heap.objs.size f cdv)) → sp vs H Q E →
      ∃ t, PSs (cxOf CX P w K mg base N qual scope f cdv A outer s H E) body t ∧ t { nx := fun _ H' => Q .non H', rt := Q } (start N vs) H) :
    FnOk P w K mg base CX (k + 1) f (PySem.W.fnOf name qual params body scope dV kV doc pm an cdv ct) ps sp := by
  refine ⟨len, fun A outer s H args us vs Q E hr e0 hb r hsp => ?_⟩
  have hl := len _ _ _ _ hsp
  have KX : K.In s.heap := e0.mod.kin.keeps fun b o e => (e0.bs b o e).1
  have lim : s.heap.NoLimit := e0.mod.nolimit.keeps fun b o e => (e0.bs b o e).1
  have hkind : ∀ y ∈ ps.zip us, scope.names.lookup y.1 = some .local ∨ (scope.names.lookup y.1 = some .cell ∧ ((cellsFrom (s.heap.objs.size + 1) scope.names []).lookup y.1).isSome = true) := fun ⟨n, v⟩ hy => by
    rcases S.par n (List.of_mem_zip hy).1 with q | q
    · exact .inl q
    · exact .inr ⟨q, PySem.W.cellsFrom_some _ _ _ (.inl q)⟩
  refine codeAny_call_function hr.depth (KX _ _ lk) rfl S.co S.gen rfl (PySem.W.codeRec_of KX hcd) (hb _ _ _ _ ?_)
  refine wpAny_newFunctionEnv_cells S.kind hkind fun env he s1 x => ?_
  subst he
  refine ⟨lim.keeps x.toInCall.keep, codeAny_func ?_⟩
  obtain ⟨t, ht, hq⟩ := hbody A outer s H vs Q E (hr.deeper _) hsp
  have I : Inv (cxOf CX P w K mg base N qual scope f cdv A outer s H E) [] (start N vs) H s1 := inv_start S hr.hd e0 hl r x
  refine wpAny_mono (ht [] s1 (start N vs) H _ I hq) (fun fl s' hs => ?_) fun e s' hs => hs
  have fin : ∀ {σ' : St} {H' : Hp} {v : V} {u : Value}, Inv (cxOf CX P w K mg base N qual scope f cdv A outer s H E) [] σ' H' s' → RelV v u → Q v H' → CE outer P w H s Q u s' :=
    fun {σ' H' v u} J rv q => ⟨v, H', J.os, J.bare, J.base, J.hok, rv, q⟩
  cases fl with
  | ret u =>
    obtain ⟨v, σ', H', J, rv, q⟩ := hs
    exact fin J rv q
  | next =>
    obtain ⟨σ', H', J, q⟩ := hs
    exact fin (v := V.non) (u := Value.none) J rfl q
  | brk =>
    obtain ⟨_, _, _, q⟩ := hs
    exact False.elim q
  | cont =>
    obtain ⟨_, _, _, q⟩ := hs
    exact False.elim q
end L2
namespace L2
open PySem PySem.Spec PyProof.Rows
section
variable {X : Cx} {x : Str} {p pos : Pos} {e : Expr} {es : List Expr} {t : TA} {id T : String} {r : List V → Hp → VK → Prop}
def tCB (r : List V → Hp → VK → Prop) (t : TA) : TE := fun σ H Q => t σ H fun vs H1 => r vs H1 Q
theorem pe_callB (hc : CallR X (.builtin id) r) (hg : Gl X x) (hm : X.mg x = none) (hv : bootBuiltins x = some (.builtin id)) (ha : PA X (e :: es) t) (hn : x ≠ "__name__" := by decide) (hdb : (x == ("__debug__" : Str)) = false := by decide)
    (he : starEach (e :: es) X.env = (false, eval e X.env) :: starEach es X.env := by rfl) (hpl : (backTo pos (starEach es X.env)).any (·.1) = false := by rfl) : PE X (.Call (.Name x p) (e :: es) [] pos) (tCB r t) := by
  intro pins s σ H Q I h
  refine wpAny_Call_Name_kw (ld_blt I hg hm hv ?_ hn hdb)
  exact PyProof.Rows.callWith_builtin1 (thn (ha pos pins s σ H _ I h) fun us s1 ⟨vs, H1, I1, r1, q1⟩ => hc pins s1 σ H1 vs us Q I1 r1 q1) he hpl
end
end L2
namespace HT
open PySem PyProof.Rows
section
open PySem.SeqAt
open PySem.AutoSeq1 (wpAny_loadPart')
open PySem.MeetsSeq PySem.MeetsSeq2 PySem.MeetsSeq3
end
section
variable {prog : Program} {w : World} {A : Around} {E : Value → Shared → Prop} {s : Shared}
def sIx (n d : Nat) : Option Int → Nat
  | none => d
  | some v => if v < 0 then (v + (n : Int)).toNat else min v.toNat n
theorem sIx_none (n d : Nat) : sIx n d none = d := rfl
theorem sIx_nat (n d k : Nat) : sIx n d (some (k : Int)) = min k n := by
  show (if (k : Int) < 0 then ((k : Int) + (n : Int)).toNat else min (k : Int).toNat n) = min k n
  rw [if_neg (by omega), Int.toNat_natCast]
end
end HT
namespace L2
open PySem PySem.Spec PyProof.Rows
abbrev TO := St → Hp → (Option Int → Hp → Prop) → Prop
def PO (X : Cx) (e : Option Expr) (t : TO) : Prop :=
  ∀ (pins : List (Addr × Obj)) (s : Shared) (σ : St) (H : Hp) (Q : Option Int → Hp → Prop), Inv X pins σ H s → t σ H Q →
    wpAny (model X.prog X.w) X.A (evalPart e X.env) (fun u s' => ∃ o H', Inv X pins σ H' s' ∧ IsPart u o ∧ Q o H') X.xe s
def tNoPart : TO := fun _ H Q => Q none H
def tPart (t : TE) : TO := fun σ H Q => t σ H fun x H1 => ∃ i, x = .int i ∧ Q (some i) H1
section
variable {X : Cx} {e : Expr} {te : TE} {lo hi : Option Expr} {tl th : TO} {pos p2 : Pos}
theorem po_none : PO X none tNoPart := by
  intro pins s σ H Q I h
  rw [evalPart_none]
  exact wpAny_pure ⟨none, H, I, .none, h⟩
theorem po_some (h : PE X e te) : PO X (some e) (tPart te) := by
  intro pins s σ H Q I hw
  rw [evalPart_some]
  refine thn (h pins s σ H _ I hw) fun u s1 ⟨x, H1, I1, r1, q1⟩ => ?_
  obtain ⟨i, rfl, q⟩ := q1
  obtain ⟨t, rfl⟩ := r1
  exact ⟨some i, H1, I1, .int i t, q⟩
def SlR (X : Cx) (r : V → Option Int → Option Int → Hp → VK → Prop) : Prop :=
  ∀ (pins : List (Addr × Obj)) (s : Shared) (σ : St) (H : Hp) (x : V) (v vl vu : Value) (lo hi : Option Int) (sl : Addr) (Q : VK), Inv X pins σ H s → RelV x v → s.heap.IsSliceOf sl vl vu .none → IsPart vl lo → IsPart vu hi → r x lo hi H Q →
    ∃ T id, typeLookup (.type T) "__getitem__" = pure (some (.builtin id)) ∧ s.TypeIs v T ∧ wpAny (model X.prog X.w) X.A (getItem v (.ref sl)) (EP X pins σ Q) X.xe s
theorem SlR.or {r r' : V → Option Int → Option Int → Hp → VK → Prop} (h : SlR X r) (h' : SlR X r') : SlR X (fun x lo hi H Q => r x lo hi H Q ∨ r' x lo hi H Q) := by
  intro pins s σ H x v vl vu lo hi sl Q I rx hs pl pu q
  rcases q with q | q
  · exact h pins s σ H x v vl vu lo hi sl Q I rx hs pl pu q
  · exact h' pins s σ H x v vl vu lo hi sl Q I rx hs pl pu q
def tSl (r : V → Option Int → Option Int → Hp → VK → Prop) (te : TE) (tl th : TO) : TE := fun σ H Q => te σ H fun x H1 => tl σ H1 fun l H2 => th σ H2 fun u H3 => r x l u H3 Q
theorem pe_slice {r : V → Option Int → Option Int → Hp → VK → Prop} (hr : SlR X r) (he : PE X e te) (hl : PO X lo tl) (hu : PO X hi th) : PE X (.Subscript e (.Slice lo hi none p2) pos) (tSl r te tl th) := by
  intro pins s σ H Q I h
  refine Subscript_ (thn (he pins s σ H _ I h) fun v s1 ⟨x, H1, I1, r1, q1⟩ => ?_)
  refine wpAny_Slice (thn (hl pins s1 σ H1 _ I1 q1) fun vl s2 ⟨l, H2, I2, pl, q2⟩ => thn (hu pins s2 σ H2 _ I2 q2) fun vu s3 ⟨u, H3, I3, pu, q3⟩ => ?_)
  rw [evalPart_none]
  refine wpAny_pure ?_
  have I4 : Inv X pins σ H3 { s3 with heap := s3.heap.push { cls := .type "slice", data := .fields #[vl, vu, .none] } } := I3.kept (t' := s3.toks) fun b ob q => Heap.get?_push_of_some _ q
  obtain ⟨T, id, hT, ht, hg⟩ := hr pins { s3 with heap := s3.heap.push { cls := .type "slice", data := .fields #[vl, vu, .none] } } σ H3 x v vl vu l u s3.heap.objs.size Q I4 r1 (Heap.IsSliceOf.new ..) pl pu q3
  show wpAny (model X.prog X.w) X.A (subscriptTail e (.Slice lo hi none p2) v (.ref s3.heap.objs.size)) (EP X pins σ Q) X.xe { s3 with heap := s3.heap.push { cls := .type "slice", data := .fields #[vl, vu, .none] } }
  exact tail_any (ops := [.ref s3.heap.objs.size, v]) ht hT hg (by with_unfolding_all rfl)
def cutV (xs : List V) (lo hi : Option Int) : List V := (xs.drop (HT.sIx xs.length 0 lo)).take (HT.sIx xs.length xs.length hi - HT.sIx xs.length 0 lo)
theorem cutV_length (xs : List V) (lo hi : Option Int) : (cutV xs lo hi).length ≤ xs.length := by
  unfold cutV
  rw [List.length_take, List.length_drop]
  omega
end
end L2
namespace L2
open PySem PySem.Spec PyProof.Rows
def ixN (n : Nat) (i : Int) : Option Nat := if 0 ≤ i then (if i < n then some i.toNat else none) else if -(n : Int) ≤ i then some (i + n).toNat else none
def atI {α : Type} (xs : List α) (i : Int) : Option α := (ixN xs.length i).bind fun j => xs[j]?
theorem ixN_seq {n : Nat} {i : Int} {j : Nat} (h : ixN n i = some j) : seqIndex? i n = some j ∧ j < n ∧ -(n : Int) ≤ i ∧ i < n := by
  unfold ixN at h
  by_cases h0 : 0 ≤ i
  · rw [if_pos h0] at h
    by_cases h1 : i < n
    · rw [if_pos h1] at h
      have e : i.toNat = j := Option.some.inj h
      exact ⟨by rw [seqIndex_of h0 h1, e], by omega, by omega, h1⟩
    · rw [if_neg h1] at h; cases h
  · rw [if_neg h0] at h
    by_cases h1 : -(n : Int) ≤ i
    · rw [if_pos h1] at h
      have e : (i + n).toNat = j := Option.some.inj h
      exact ⟨by rw [seqIndex_neg (by omega) h1, e], by omega, h1, by omega⟩
    · rw [if_neg h1] at h; cases h
theorem atI_get {α : Type} {xs : List α} {i : Int} {v : α} (h : atI xs i = some v) : ∃ j, seqIndex? i xs.length = some j ∧ xs[j]? = some v ∧ j < xs.length ∧ -(xs.length : Int) ≤ i ∧ i < xs.length := by
  unfold atI at h
  cases e : ixN xs.length i with
  | none => rw [e] at h; cases h
  | some j =>
    rw [e] at h
    obtain ⟨h1, h2, h3, h4⟩ := ixN_seq e
    exact ⟨j, h1, h, h2, h3, h4⟩
theorem atI_nat {α : Type} {xs : List α} {j : Nat} {v : α} (h : xs[j]? = some v) : atI xs (j : Int) = some v := by
  have hj : j < xs.length := (List.getElem?_eq_some_iff.mp h).1
  have e : ixN xs.length (j : Int) = some j := by
    unfold ixN
    rw [if_pos (by omega), if_pos (by omega)]; simp
  unfold atI; rw [e]; exact h
def PlainIx (b : Expr) : Prop := ∀ o i, subscripted b false o i = operate [o, i] (getItem o i)
def IxR (X : Cx) (r : R2) : Prop :=
  ∀ (value slice : Expr) (pins : List (Addr × Obj)) (s : Shared) (σ : St) (H : Hp) (x y : V) (v u : Value) (Q : VK), Inv X pins σ H s → RelV x v → RelV y u → r x y H Q →
    subscripted slice false v u = operate [v, u] (getItem v u) → wpAny (model X.prog X.w) X.A (subscriptTail value slice v u) (EP X pins σ Q) X.xe s
def MtR (X : Cx) (id : String) (r : V → List V → Hp → VK → Prop) : Prop :=
  ∀ (pins : List (Addr × Obj)) (s : Shared) (σ : St) (H : Hp) (x : V) (xs : List V) (v : Value) (us : List Value) (Q : VK), Inv X pins σ H s → RelV x v → Vals xs us → r x xs H Q →
    wpAny (model X.prog X.w) X.A (call (.builtin id) (v :: us)) (EP X pins σ Q) X.xe s
section
variable {X : Cx} {a b : Expr} {ta tb : TE} {pos : Pos}
theorem IxR.or {r r' : R2} (h : IxR X r) (h' : IxR X r') : IxR X (fun x y H Q => r x y H Q ∨ r' x y H Q) := by
  intro value slice pins s σ H x y v u Q I rx ry q hs
  rcases q with q | q
  · exact h value slice pins s σ H x y v u Q I rx ry q hs
  · exact h' value slice pins s σ H x y v u Q I rx ry q hs
theorem MtR.or {id : String} {r r' : V → List V → Hp → VK → Prop} (h : MtR X id r) (h' : MtR X id r') : MtR X id (fun x xs H Q => r x xs H Q ∨ r' x xs H Q) := by
  intro pins s σ H x xs v us Q I rx rs q
  rcases q with q | q
  · exact h pins s σ H x xs v us Q I rx rs q
  · exact h' pins s σ H x xs v us Q I rx rs q
theorem pe_ix {r : R2} (hr : IxR X r) (ha : PE X a ta) (hb : PE X b tb) (hs : PlainIx b) : PE X (.Subscript a b pos) (tOp r ta tb) := by
  intro pins s σ H Q I h
  exact Subscript_ (binT ha hb I h fun v u s2 x y H2 I2 rx ry q => hr a b pins s2 σ H2 x y v u Q I2 rx ry q (hs _ _))
def rIxL (K : PySem.W.Frag) : R2 := fun x y H Q => ∃ p xs i v, x = .ref p ∧ y = .int i ∧ SqL K H p xs ∧ atI xs i = some v ∧ Q v H
def rIxT (K : PySem.W.Frag) : R2 := fun x y H Q => ∃ p xs i v, x = .ref p ∧ y = .int i ∧ SqT K H p xs ∧ atI xs i = some v ∧ Q v H
def rIxS : R2 := fun x y H Q => ∃ z i c, x = .str z ∧ y = .int i ∧ z.length ≤ sizeLine ∧ atI z.cps.toList i = some c ∧ Q (.str ⟨#[c]⟩) H
theorem ix_list : IxR X (rIxL X.K) := by
  intro value slice pins s σ H x y v u Q I rx ry h hs
  obtain ⟨p, xs, i, z, rfl, rfl, hq, he, q⟩ := h
  cases rx
  obtain ⟨t, rfl⟩ := ry
  obtain ⟨its, r, pl, hz⟩ := I.list hq
  obtain ⟨j, h1, h2, h3, h4, h5⟩ := atI_get he
  obtain ⟨w, ew, rw'⟩ := r.get h2
  have hl := r.length
  have hn := line63
  have fin : EP X pins σ Q w s := ⟨z, H, I, rw', q⟩
  by_cases h0 : 0 ≤ i
  · have hj : i.toNat = j := by
      rw [seqIndex_of h0 h5] at h1
      exact Option.some.inj h1
    exact item_listR pl.isList h0 (by omega) (by rw [hj]; simpa using ew) fin hs
  · have hj : (i + (its.toArray.size : Int)).toNat = j := by
      rw [seqIndex_neg (by omega) h4] at h1
      rw [List.size_toArray, ← hl]
      exact Option.some.inj h1
    exact subscriptTail_builtinR (x := w) pl.isList.typeIs slot_list_getitem.lookup
      (wpAny_getItem_list_neg (Q := fun r s' => r = w ∧ EP X pins σ Q r s') pl.isList (by omega) (by rw [List.size_toArray] <;> omega) (by omega) (by rw [hj]; simpa using ew) ⟨rfl, fin⟩) hs
theorem ix_tup : IxR X (rIxT X.K) := by
  intro value slice pins s σ H x y v u Q I rx ry h hs
  obtain ⟨p, xs, i, z, rfl, rfl, hq, he, q⟩ := h
  cases rx
  obtain ⟨t, rfl⟩ := ry
  obtain ⟨its, r, pl, hz⟩ := I.tuple hq
  obtain ⟨j, h1, h2, h3, h4, h5⟩ := atI_get he
  obtain ⟨w, ew, rw'⟩ := r.get h2
  have hl := r.length
  have hn := line63
  have fin : EP X pins σ Q w s := ⟨z, H, I, rw', q⟩
  exact subscriptTail_builtinR (x := w) pl.typeIs slot_tuple_getitem.lookup
    (getItem_tuple (j := j) (Q := fun r s' => r = w ∧ EP X pins σ Q r s') pl (by omega) (by omega) (by rw [List.size_toArray, ← hl]; exact h1) (by simpa using ew) ⟨rfl, fin⟩) hs
theorem ix_str : IxR X rIxS := by
  intro value slice pins s σ H x y v u Q I rx ry h hs
  obtain ⟨z, i, c, rfl, rfl, hz, he, q⟩ := h
  obtain ⟨t, rfl⟩ := rx
  obtain ⟨t', rfl⟩ := ry
  obtain ⟨j, h1, h2, h3, h4, h5⟩ := atI_get he
  have hl : z.cps.toList.length = z.length := by simp [Str.length]
  rw [hl] at h1 h4 h5
  have hn := line63
  exact tail_any (typeIs_str s z t) slot_str_getitem.lookup (getItem_str (c := c) (by
    have e1 : decide (i < -(2 ^ 63 : Int)) = false := decide_eq_false (by omega)
    have e2 : decide (i ≥ 2 ^ 63) = false := decide_eq_false (by omega)
    rw [e1, e2, Bool.or_false]) (by rw [h1]; simpa using h2) ⟨.str ⟨#[c]⟩, H, I.tok _, ⟨_, rfl⟩, q⟩) hs
def rIx (K : PySem.W.Frag) : R2 := fun x y H Q => rIxL K x y H Q ∨ rIxT K x y H Q ∨ rIxS x y H Q
theorem ix_seq : IxR X (rIx X.K) := ix_list.or (ix_tup.or ix_str)
theorem mapSeq_set (its : List Value) (n j : Nat) (u : Value) : Obj.mapSeq (·.setIfInBounds j u) { cls := .type "list", data := .seq its.toArray n } = { cls := .type "list", data := .seq (its.set j u).toArray n } := by
  simp [Obj.mapSeq]
theorem Inv.lst {pins : List (Addr × Obj)} {σ : St} {H : Hp} {s : Shared} {p : Addr} {xs : List V} (I : Inv X pins σ H s) (h : H p = some (.lst xs)) :
    ∃ (its : List Value) (n : Nat), Vals xs its ∧ s.heap.get? p = some { cls := .type "list", data := .seq its.toArray n } ∧ xs.length ≤ sizeLine := by
  obtain ⟨z, its, n, r, e⟩ := I.hok p _ h
  exact ⟨its, n, r, e, z⟩
theorem Inv.lstUpd {pins : List (Addr × Obj)} {σ : St} {H : Hp} {s : Shared} {p : Addr} {xs ys : List V} {its its' : List Value} {n n' : Nat} {f : Obj → Obj} (I : Inv X pins σ H s) (h : H p = some (.lst xs))
    (ho : s.heap.get? p = some { cls := .type "list", data := .seq its.toArray n }) (hf : f { cls := .type "list", data := .seq its.toArray n } = { cls := .type "list", data := .seq its'.toArray n' }) (r : Vals ys its') (hz : ys.length ≤ sizeLine) (t : Nat) :
    Inv X pins σ (upd H p (.lst ys)) { s with heap := s.heap.update p f, toks := t } := by
  have e : (s.heap.update p f).get? p = some { cls := .type "list", data := .seq its'.toArray n' } := by
    rw [Heap.get?_update_self f ho (by rw [hf] <;> rfl), hf]
  refine I.write (x := p) (e := p) (by rw [h]; trivial) (.inl rfl) (fun b u hb q => (Heap.get?_update_other _ _ (Ne.symm hb)).trans q) ⟨_, e⟩ ?_
  exact ⟨hz, its', n', r, e⟩
def rSetL : V → V → V → Hp → (Hp → Prop) → Prop := fun o i v H Q => ∃ p xs k j, o = .ref p ∧ i = .int k ∧ H p = some (.lst xs) ∧ ixN xs.length k = some j ∧ Q (upd H p (.lst (xs.set j v)))
theorem set_list : PSet X rSetL := by
  intro pins s σ H o i v ov iv u Q I ro ri rv h
  obtain ⟨p, xs, k, j, rfl, rfl, hp, hj, q⟩ := h
  cases ro
  obtain ⟨t, rfl⟩ := ri
  obtain ⟨its, n, r, ho, hz⟩ := I.lst hp
  obtain ⟨h1, h2, h3, h4⟩ := ixN_seq hj
  have hl := r.length
  have hn := line63
  have I' : Inv X pins σ (upd H p (.lst (xs.set j v))) { s with heap := s.heap.update p (Obj.mapSeq (·.setIfInBounds j u)) } :=
    I.lstUpd hp ho (mapSeq_set its n j u) (r.set rv j) (by rw [List.length_set]; exact hz) s.toks
  by_cases h0 : 0 ≤ k
  · have hk : k.toNat = j := by
      rw [seqIndex_of h0 h4] at h1
      exact Option.some.inj h1
    exact PySem.W.ki_setAt ho h0 (by omega) (by rw [List.size_toArray, ← hl]; exact h4) (by rw [hk]; exact ⟨_, I', q⟩)
  · have hk : (k + (its.toArray.size : Int)).toNat = j := by
      rw [seqIndex_neg (by omega) h3] at h1
      rw [List.size_toArray, ← hl]
      exact Option.some.inj h1
    exact PySem.W.ki_setBack ho (by omega) (by rw [List.size_toArray, ← hl]; exact h3) (by omega) (by rw [hk]; exact ⟨_, I', q⟩)
theorem slice_bounds (lo hi : Option Int) (n : Nat) : (sliceBounds lo hi none n).1 = ((HT.sIx n 0 lo : Nat) : Int) ∧ (sliceBounds lo hi none n).2.1 = ((HT.sIx n n hi : Nat) : Int) ∧ (sliceBounds lo hi none n).2.2 = 1 := by
  refine ⟨?_, ?_, rfl⟩
  · cases lo with
    | none => simp [sliceBounds, HT.sIx]
    | some i =>
      simp only [sliceBounds, HT.sIx, Option.getD_none, show (1 : Int) > 0 by decide, if_true]
      by_cases h : i < 0
      · simp only [h, if_true] <;> omega
      · simp only [h, if_false] <;> omega
  · cases hi with
    | none => simp [sliceBounds, HT.sIx]
    | some i =>
      simp only [sliceBounds, HT.sIx, Option.getD_none, show (1 : Int) > 0 by decide, if_true]
      by_cases h : i < 0
      · simp only [h, if_true] <;> omega
      · simp only [h, if_false] <;> omega
theorem slicePick_cut (its : List Value) (lo hi : Option Int) : slicePick its.toArray lo hi none = ((its.drop (HT.sIx its.length 0 lo)).take (HT.sIx its.length its.length hi - HT.sIx its.length 0 lo)).toArray := by
  obtain ⟨h1, h2, h3⟩ := slice_bounds lo hi its.toArray.size
  unfold slicePick
  rw [h1, h2, h3]
  simp only [sliceRange_one, pick_run, List.size_toArray] <;> rfl
def rSlL (K : PySem.W.Frag) : V → Option Int → Option Int → Hp → VK → Prop := fun x lo hi H Q => ∃ a xs, x = .ref a ∧ SqL K H a xs ∧ ∀ p, H p = none → Q (.ref p) (upd H p (.lst (cutV xs lo hi)))
theorem sl_list : SlR X (rSlL X.K) := by
  intro pins s σ H x v vl vu lo hi sl Q I rx hs pl pu h
  obtain ⟨a, xs, rfl, hx, q⟩ := h
  cases rx
  obtain ⟨its, r, ht, hz⟩ := I.list hx
  have hlen := r.length
  refine ⟨"list", _, slot_list_getitem.lookup, ht.isList.typeIs, ?_⟩
  refine wpAny_getItem_list_slice ht.isList hs pl pu .none (by simp) ?_ (by rw [List.size_toArray] <;> omega)
  rw [slicePick_cut, ← hlen]
  refine ⟨.ref s.heap.objs.size, _, I.laid (t' := s.toks) (o := .lst (cutV xs lo hi)) (fun b ob q => Heap.get?_push_of_some _ q) (Nat.le_refl _) ?_, rfl, q _ (I.hok.fresh (Nat.le_refl _))⟩
  exact ⟨Nat.le_trans (cutV_length xs lo hi) hz, _, 0, (r.drop (HT.sIx xs.length 0 lo)).take (HT.sIx xs.length xs.length hi - HT.sIx xs.length 0 lo), Heap.get?_push_size _ rfl⟩
theorem call_len_seq : CallR X (.builtin "len") (fun xs H Q => ∃ p ys, xs = [.ref p] ∧ (SqL X.K H p ys ∨ SqT X.K H p ys) ∧ Q (.int ys.length) H) := by
  intro pins s σ H xs us Q I r h
  obtain ⟨p, ys, rfl, hq, q⟩ := h
  obtain ⟨u, rfl, rx⟩ := vals1 r
  cases rx
  have hn := line63
  rcases hq with hq | hq
  · obtain ⟨its, r', pl, hz⟩ := I.list hq
    have hlen := r'.length
    exact Calls.call_len_list pl.isList (by simp only [List.size_toArray] <;> omega) ⟨.int ys.length, H, I.tok _, ⟨s.toks + 1, by rw [List.size_toArray, hlen]⟩, q⟩
  · obtain ⟨its, r', pl, hz⟩ := I.tuple hq
    have hlen := r'.length
    exact len_tuple pl (by simp only [List.size_toArray] <;> omega) ⟨.int ys.length, H, I.tok _, ⟨s.toks + 1, by rw [List.size_toArray, hlen]⟩, q⟩
theorem call_len_str : CallR X (.builtin "len") (fun xs H Q => ∃ z, xs = [.str z] ∧ z.length ≤ sizeLine ∧ Q (.int z.length) H) := by
  intro pins s σ H xs us Q I r h
  obtain ⟨z, rfl, hz, q⟩ := h
  obtain ⟨u, rfl, t, rfl⟩ := vals1 r
  have hn := line63
  exact len_str (by omega) ⟨.int z.length, H, I.tok _, ⟨_, rfl⟩, q⟩
theorem CallR.or {f : Value} {r r' : List V → Hp → VK → Prop} (h : CallR X f r) (h' : CallR X f r') : CallR X f (fun xs H Q => r xs H Q ∨ r' xs H Q) := by
  intro pins s σ H xs us Q I rs q
  rcases q with q | q
  · exact h pins s σ H xs us Q I rs q
  · exact h' pins s σ H xs us Q I rs q
def tyV (K : PySem.W.Frag) (T : String) (x : V) (H : Hp) : Prop := match x with
  | .str _ => T = "str"
  | .int _ => T = "int"
  | .ref p => (T = "list" ∧ ∃ xs, SqL K H p xs) ∨ (T = "tuple" ∧ ∃ o, K.lookup p = some o ∧ o.cls = .type "tuple" ∧ o.dict = none) ∨
      (T = "dict" ∧ ((∃ kvs, H p = some (.dK kvs)) ∨ ∃ kvs, H p = some (.dT kvs))) ∨ (T = "set" ∧ ∃ S n, H p = some (.set S n))
  | _ => False
theorem tyV_is {pins : List (Addr × Obj)} {σ : St} {H : Hp} {s : Shared} {T : String} {x : V} {v : Value} (I : Inv X pins σ H s) (r : RelV x v) (ty : tyV X.K T x H) :
    s.TypeIs v T ∧ ∀ a, v = .ref a → ∃ ob, s.heap.get? a = some ob ∧ ob.dict = none := by
  cases x with
  | str z =>
    obtain ⟨t, rfl⟩ := r
    cases (show T = "str" from ty)
    exact ⟨typeIs_str s z t, fun _ e => nomatch e⟩
  | int i =>
    obtain ⟨t, rfl⟩ := r
    cases (show T = "int" from ty)
    exact ⟨typeIs_int s i t, fun _ e => nomatch e⟩
  | ref p =>
    cases r
    rcases ty with ⟨rfl, xs, hq⟩ | ⟨rfl, o, hk, hc, hd⟩ | ⟨rfl, hk⟩ | ⟨rfl, S, n, hk⟩
    · obtain ⟨its, _, pl, _⟩ := I.list hq
      refine ⟨pl.isList.typeIs, fun a e => ?_⟩
      cases e
      obtain ⟨o, n, e, c, hd, _⟩ := pl
      exact ⟨o, e, hd⟩
    · refine ⟨⟨o, I.kIn p o hk, hc⟩, fun a e => ?_⟩
      cases e
      exact ⟨o, I.kIn _ o hk, hd⟩
    · have z : ∃ o, s.heap.get? p = some o ∧ o.ExactDict := by
        rcases hk with ⟨kvs, hk⟩ | ⟨kvs, hk⟩
        · obtain ⟨_, _, _, _, o, _, _, e, ex, _⟩ := I.hok p _ hk
          exact ⟨o, e, ex⟩
        · obtain ⟨_, _, _, _, o, _, _, e, ex, _⟩ := I.hok p _ hk
          exact ⟨o, e, ex⟩
      obtain ⟨o, e, ex⟩ := z
      refine ⟨⟨o, e, ex.1⟩, fun a e2 => ?_⟩
      cases e2
      exact ⟨o, e, ex.2.1⟩
    · obtain ⟨o, _, _, _, e, ex, _⟩ := I.hok p _ hk
      refine ⟨⟨o, e, ex.1⟩, fun a e2 => ?_⟩
      cases e2
      exact ⟨o, e, ex.2.1⟩
  | _ => exact False.elim ty
def tBM (K : PySem.W.Frag) (T : String) (r : V → List V → Hp → VK → Prop) (to : TE) (t : TA) : TE := fun σ H Q => to σ H fun x H1 => tyV K T x H1 ∧ t σ H1 fun xs H2 => r x xs H2 Q
variable {o e : Expr} {es : List Expr} {to : TE} {t : TA} {name : Str} {apos cpos : Pos} {T id : String} {r : V → List V → Hp → VK → Prop}
theorem pe_bm (pa : PlainAttrs T) (slot : Slot T name id) (hty : typeOf (.builtin id) = pure (.type "method_descriptor")) (hm : MtR X id r) (ho : PE X o to) (ha : PA X (e :: es) t)
    (hbase : attributeBase o name X.env (eval o X.env) = eval o X.env := by rfl)
    (hfew : ((backTo cpos (starEach (e :: es) X.env)).all (fun x => !x.1) && (backToKw cpos (keywordEach [] X.env)).all (fun x => x.1.isSome)
      && decide ((e :: es).length + ([] : List Keyword).length + (if ([] : List Keyword).isEmpty then 0 else 1) < 30)) = true := by rfl)
    (hline : (apos.endLine == cpos.line) = true := by rfl) (hs : starEach (e :: es) X.env = (false, eval e X.env) :: starEach es X.env := by rfl) (hplain : (backTo cpos (starEach es X.env)).any (·.1) = false := by rfl) :
    PE X (.Call (.Attribute o name apos) (e :: es) [] cpos) (tBM X.K T r to t) := by
  intro pins s σ H Q I h
  refine wpAny_Call_method_late hbase hfew hline rfl (thn (ho pins s σ H _ I h) fun v s1 ⟨x, H1, I1, r1, ty, q1⟩ => ?_)
  obtain ⟨h1, h2⟩ := tyV_is I1 r1 ty
  refine ⟨T, id, pa, slot, hty, h1, h2, ?_⟩
  have hA := ha cpos pins s1 σ H1 _ I1 q1
  rw [hs] at hA ⊢
  refine Calls.callWith_builtin (by show (false || (backTo cpos (starEach es X.env)).any (·.1)) = false; rw [hplain] <;> rfl) (Calls.evalArgs_plain ?_)
  exact thn hA fun us s2 ⟨vs, H2, I2, r2, q2⟩ => hm pins s2 σ H2 x vs v us Q I2 r1 r2 q2
end
end L2
namespace L2
open PySem PySem.Spec PyProof.Rows
def MtM (X : Cx) (id : String) (r : V → List V → Hp → VK → Prop) : Prop :=
  ∀ (pins : List (Addr × Obj)) (s : Shared) (σ : St) (H : Hp) (x : V) (xs : List V) (v : Value) (us : List Value) (Q : VK), Inv X pins σ H s → RelV x v → Vals xs us → r x xs H Q →
    wpAny (model X.prog X.w) X.A (call (.builtin id) (v :: us)) (EP X pins σ Q) X.xe s
theorem Vals.one : ∀ {x : V} {us : List Value}, Vals [x] us → ∃ u, us = [u] ∧ RelV x u
  | _, _, .cons r .nil => ⟨_, rfl, r⟩
theorem Vals.zero : ∀ {us : List Value}, Vals [] us → us = []
  | _, .nil => rfl
theorem Vals.reverse {xs : List V} {us : List Value} (h : Vals xs us) : Vals xs.reverse us.reverse := by
  induction h with
  | nil => exact .nil
  | cons r t ih => rw [List.reverse_cons, List.reverse_cons]; exact Vals.append ih (.cons r .nil)
theorem Vals.rep {xs : List V} {us : List Value} (h : Vals xs us) : ∀ k : Nat, Vals (List.replicate k xs).flatten (List.replicate k us).flatten
  | 0 => .nil
  | k + 1 => by
    rw [List.replicate_succ, List.replicate_succ, List.flatten_cons, List.flatten_cons]
    exact Vals.append h (Vals.rep h k)
theorem foldl_rep (its : List Value) : ∀ (k : Nat) (acc : List Value),
    List.foldl (fun x1 x2 => x1 ++ x2) acc.toArray (List.replicate k its.toArray) = (acc ++ (List.replicate k its).flatten).toArray
  | 0, acc => by simp
  | k + 1, acc => by
    have e : acc.toArray ++ its.toArray = (acc ++ its).toArray := by simp
    have e2 : (acc ++ its) ++ (List.replicate k its).flatten = acc ++ (List.replicate (k + 1) its).flatten := by
      rw [List.replicate_succ, List.flatten_cons, List.append_assoc]
    rw [← e2, ← foldl_rep its k (acc ++ its), ← e, List.replicate_succ, List.foldl_cons]
section
variable {X : Cx} {pins : List (Addr × Obj)} {σ : St} {H : Hp} {s : Shared} {l b : Addr} {xs ys zs : List V}
theorem Inv.lset {its its' : List Value} {n : Nat} {f : Array Value → Array Value} {t' : Nat} (I : Inv X pins σ H s) (hH : H l = some (.lst xs))
    (e : s.heap.get? l = some { cls := .type "list", data := .seq its.toArray n }) (hf : f its.toArray = its'.toArray) (hv : Vals ys its') (hz : ys.length ≤ sizeLine) :
    Inv X pins σ (upd H l (.lst ys)) { s with heap := s.heap.update l (Obj.mapSeq f), toks := t' } := by
  have q := PySem.IsL.update e f
  rw [hf] at q
  refine I.write (x := l) (e := l) (by rw [hH]; exact trivial) (.inl rfl) (fun b' u hb hu => (Heap.get?_update_other s.heap (Obj.mapSeq f) (Ne.symm hb)).trans hu) ⟨_, q⟩ ?_
  exact ⟨hz, its', _, hv, q⟩
theorem Inv.lnew {its : List Value} {t' : Nat} (I : Inv X pins σ H s) (hv : Vals ys its) (hz : ys.length ≤ sizeLine) :
    Inv X pins σ (upd H s.heap.objs.size (.lst ys)) { s with heap := s.heap.push { cls := .type "list", data := .seq its.toArray }, toks := t' } :=
  I.laid (fun _ _ q => Heap.get?_push_of_some _ q) (Nat.le_refl _) ⟨hz, its, 0, hv, Heap.get?_push_size _ rfl⟩
theorem Inv.fresh (I : Inv X pins σ H s) : H s.heap.objs.size = none := I.hok.fresh (Nat.le_refl _)
theorem Inv.lstM (I : Inv X pins σ H s) (hH : H l = some (.lst xs)) : xs.length ≤ sizeLine ∧ ∃ (its : List Value) (n : Nat), Vals xs its ∧ xs.length = its.length ∧ s.heap.get? l = some { cls := .type "list", data := .seq its.toArray n } := by
  obtain ⟨z, its, n, r, e⟩ := I.hok l _ hH
  exact ⟨z, its, n, r, r.length, e⟩
theorem notLongL {n : Nat} (h : n ≤ sizeLine) : Builtin.List.listTooLong n = false := by
  unfold Builtin.List.listTooLong
  exact decide_eq_false (by omega)
end
section
variable {X : Cx}
def rAppend : V → List V → Hp → VK → Prop := fun x vs H Q => ∃ l xs y, x = .ref l ∧ vs = [y] ∧ H l = some (.lst xs) ∧ xs.length < sizeLine ∧ Q .non (upd H l (.lst (xs ++ [y])))
theorem mt_append : MtM X "list.append" rAppend := by
  intro pins s σ H x vs v us Q I rx rv h
  obtain ⟨l, xs, y, rfl, rfl, hH, hz, q⟩ := h
  cases rx
  obtain ⟨u, rfl, ru⟩ := rv.one
  obtain ⟨z, its, n, r, hl, e⟩ := I.lstM hH
  refine call_meets F.slot_list_append ⟨_, e, rfl⟩ F.entry_list_append (F.args_list_append_2 _ _) (PySem.list_append l its.toArray n u (by rw [List.size_toArray]; omega)) ⟨e, ?_⟩
  refine ⟨.non, _, I.lset (its' := its ++ [u]) hH e (by simp) (r.append (.cons ru .nil)) ?_, rfl, q⟩
  rw [List.length_append, List.length_singleton]
  omega
def rRep : R2 := fun x y H Q => ∃ l k xs, x = .ref l ∧ y = .int k ∧ H l = some (.lst xs) ∧ -(2 ^ 63) ≤ k ∧ k < 2 ^ 63 ∧ xs.length * k.toNat ≤ sizeLine ∧
  ∀ p, H p = none → Q (.ref p) (upd H p (.lst (List.replicate k.toNat xs).flatten))
theorem len_rep {α : Type} (xs : List α) (k : Nat) : (List.replicate k xs).flatten.length = k * xs.length := by
  induction k with
  | zero => simp
  | succ k ih => rw [List.replicate_succ, List.flatten_cons, List.length_append, ih, Nat.succ_mul, Nat.add_comm]
theorem op_rep : OpR X (binaryOp .Mult) rRep := by
  intro pins s σ H x y v u Q I rx ry h
  obtain ⟨l, k, xs, rfl, rfl, hH, h1, h2, hz, q⟩ := h
  cases rx
  obtain ⟨t, rfl⟩ := ry
  obtain ⟨z, its, n, r, hl, e⟩ := I.lstM hH
  have hlen : its.toArray.size * k.toNat ≤ sizeLine := by rw [List.size_toArray, ← hl]; exact hz
  have hcap : ¬ its.toArray.size * k.toNat > (2 ^ 63 - 1) / 8 := by
    have : (sizeLine : Nat) ≤ (2 ^ 63 - 1) / 8 := by decide
    omega
  have hfit : ¬ (!Builtin.List.listFitsIndex k) = true := by
    rw [fitsIndex_both h1 h2]
    exact Bool.false_ne_true
  have hlong : ¬ Builtin.List.listTooLong (its.toArray.size * k.toNat) = true := by
    rw [notLongL hlen]
    exact Bool.false_ne_true
  have hnew : List.foldl (fun x1 x2 => x1 ++ x2) #[] (List.replicate (if its.toArray.isEmpty = true then 0 else k.toNat) its.toArray) = (List.replicate k.toNat its).flatten.toArray := by
    have f0 : ∀ m : Nat, List.foldl (fun x1 x2 => x1 ++ x2) #[] (List.replicate m its.toArray) = (List.replicate m its).flatten.toArray := fun m => by
      have := foldl_rep its m []
      rw [List.nil_append] at this
      exact this
    rw [f0]
    cases its with
    | nil => simp
    | cons a r' => rw [if_neg (by simp)]
  refine wpAny_binaryOp_repeat_ref (T := "list") (U := "int") (by decide) ⟨_, e, rfl⟩ (fun s' => typeIs_int s' k t) noFill_list_mul F.fills_int_mul F.slot_int_rmul repeat_list F.slot_int_index.lookup
    (call_meets F.slot_int_rmul (typeIs_int s k t) F.entry_int_rmul (F.args_int_rmul_2 _ _) (int___rmul___int_list k t l its.toArray n)
      ⟨e, rfl, ⟨_, e, rfl⟩, call_meets F.slot_list_mul ⟨_, e, rfl⟩ F.entry_list_mul (F.args_list_mul_2 _ _) (AutoListH.list___mul___list_int_3 l its.toArray n k t hfit hcap hlong) ⟨e, ?_⟩⟩)
  rw [hnew]
  exact ⟨.ref _, _, I.lnew (t' := s.toks) (r.rep k.toNat) (by rw [len_rep, Nat.mul_comm]; exact hz), rfl, q _ I.fresh⟩
end
section
variable {prog : Program} {w : World} {A : Around} {E : Value → Shared → Prop} {s : Shared}
end
section
variable {X : Cx}
end
end L2
namespace Att
open PySem PySem.W PySem.Calls PyProof.Rows
theorem ints_of_wellAll {P : Params} {h : Heap} : ∀ (ns : List Int) (vs : List Value), WellAll P h vs (ns.map WData.int) → IntsAre vs ns := by
  intro ns
  induction ns with
  | nil =>
    intro vs w
    rw [List.map_nil] at w
    cases w
    exact .nil
  | cons n ns ih =>
    intro vs w
    rw [List.map_cons] at w
    cases w with
    | cons a b =>
      cases a
      exact .cons _ _ (ih _ b)
theorem script_of {l : OpenLaw} {n : Nat} (hn : l.most = some n) {P : Params} {h : Heap} {args : List WData} {vals : List Value}
    (hpre : l.row.toRowW.claim.pre args = true) (hwl : WellAll P h vals args) :
    ∃ a vs ns, vals = [Value.ref a] ∧ args = [WData.list (ns.map WData.int)] ∧ h.get? a = some { cls := .type "list", data := .seq vs.toArray } ∧ IntsAre vs ns ∧ ns.length ≤ n := by
  have hsh : WShape.hasAll [] args [.list .int] = true := (pre_splitW hpre).1
  have hc : l.pre.holds [] { args := args } = true := (pre_splitW hpre).2
  obtain ⟨d, r, rfl, h1, h2⟩ := hasAllW_cons hsh
  obtain rfl := hasAllW_nil h2
  obtain ⟨xs, rfl, h3⟩ := hasW_list h1
  obtain ⟨ns, rfl⟩ := items_int h3
  have hlen : ns.length ≤ n := by
    unfold OpenLaw.pre at hc
    have h4 : (WTm.not (.lt (.lit (.int (n : Int))) (.len (.arg 0)))).holds [] { args := [.list (ns.map .int)] } = true := by
      have h4 := (holds_andW hc).1
      rw [hn] at h4
      exact h4
    have h5 := condW_of h4 (w_not (w_lt w_lit (w_len_list (w_arg rfl))))
    rw [List.length_map] at h5
    refine Nat.le_of_not_lt fun q => ?_
    have q' : (n : Int) < ((ns.length : Nat) : Int) := by omega
    first
      | (rw [decide_eq_true q'] at h5; exact absurd h5 (by decide))
      | (simp at h5; omega)
  cases hwl with
  | cons w1 w2 =>
    cases w2
    cases w1 with
    | list ho hall => exact ⟨_, _, ns, rfl, rfl, ho, ints_of_wellAll ns _ hall, hlen⟩
theorem post_true (l : OpenLaw) (args : List WData) : l.row.toRowW.claim.post args (.bool true) args = true :=
  postW_of (r := l.row.toRowW) (X := (true == true))
    (show WShape.has [] (.bool true) .bool = true by first | rfl | decide | simp [WShape.has, WShape.arms, WShape.armsAll])
    (show (WTm.eq .res (.lit (.bool true))).value [] { args := args, res := some (.bool true), after := args } = some (.bool (true == true)) from w_eq_bool (w_res rfl) w_lit) rfl
theorem attach_call {l : OpenLaw} {n : Nat} {q : Program} {loose : List Str} {XP : (Str → Option Value) → Heap → Prop} {YP : World → Heap → Prop} {d : DefRec}
    (hn : l.most = some n) (hdf : d.params.defaults = [])
    (call : ∀ (w : World) (s₀ s₁ : Shared) (mg mb : Str → Option Value) (fa : Addr) (o : Obj) (pm cd doc : Value) (a : Addr) (vs : List Value) (ns : List Int),
      Ground q loose [] XP w s₀ mg mb s₁.heap → YP w s₁.heap →
      s₁.heap.get? fa = some o → o.data = .func (docDef d.name d.params d.body d.scope pm cd doc) → s₁.heap.CodeRec cd d.name → mg d.name = some (.ref fa) →
      s₁.heap.get? a = some { cls := .type "list", data := .seq vs.toArray } → IntsAre vs ns → ns.length ≤ n → s₁.gens = #[] →
      codeAny (model l.prog w) callerA (.call (.ref fa) ⟨[.ref a], []⟩) (fun r s' => r = .ok (.ret (.bool true)) ∧ OldK s₁.heap s'.heap ∧ s'.os = s₁.os ∧ AllBare s'.gens) s₁) :
    WalkO q loose XP YP l.row.toRowW d [] (fun f vs => PySem.call f vs) := by
  intro w s₀ s₁ mg mb G Y fa o pm cd doc dV kV ho hd hcd hD hmg hg args vals as hpre hlay hrd hwl hlo
  obtain rfl : dV = .none := Dflts.none hD hdf
  obtain rfl : kV = .none := Dflts.noKw hD
  obtain ⟨a, vs, ns, rfl, rfl, hobj, hints, hlen⟩ := script_of hn hpre hwl
  refine enter_call (codeAny_mono (call w s₀ s₁ mg mb fa o pm cd doc a vs ns G Y ho (fd_plain hd) hcd hmg hobj hints hlen hg) fun r s' hq => ?_)
  obtain ⟨rfl, h2, h3, h4⟩ := hq
  exact ⟨.inl ⟨.bool true, .bool true, [], rfl, fun _ => rfl, .bool true, post_true l _, fun _ => ⟨List.Pairwise.nil, fun _ hm => (nomatch hm)⟩⟩, h2, h3, h4⟩
section
variable {prog : Program} {w : World} {A : Around} {E : Value → Shared → Prop} {s : Shared} {K : Frag}
end
end Att
namespace L2
open PySem PySem.Spec PyProof.Rows
theorem vals_ints : ∀ {vs : List Value} {ns : List Int}, IntsAre vs ns → Vals (ns.map V.int) vs
  | _, _, .nil => .nil
  | _, _, .cons n t h => .cons ⟨t, rfl⟩ (vals_ints h)
def Only (H : Hp) : Prop := ∀ b, H b = none ∨ ∃ o xs, H b = some (.frz o (.lst xs))
theorem law_call {P : Program} {w : World} {K : PySem.W.Frag} {mg mb : Str → Option Value} {CX : CXT} {k : Nat} {fa a : Addr} {fd : FuncData} {x : Str} {sp : Sp} {s₁ : Shared} {vs : List Value} {ns : List Int}
    (KX : K.In s₁.heap) (hns : s₁.heap.Ns mainGlobals mg) (hb : s₁.heap.Ns builtinsNs mb) (hbb : ∀ x : Str, x ≠ "__name__" → mb x = bootBuiltins x) (hlim : s₁.heap.NoLimit) (hg : s₁.gens = #[])
    (ha : s₁.heap.get? a = some { cls := .type "list", data := .seq vs.toArray }) (hi : IntsAre vs ns) (hl : ns.length ≤ sizeLine) (hr : Room k callerA)
    (F : ∀ base : Heap, K.In base → base.Ns mainGlobals mg → FnOk P w K mg base CX k fa fd [x] sp) (hbind : ∀ (s : Shared) (u : Value), BindsTo s fd ⟨[u], []⟩ [(x, u)])
    (hsp : ∀ H : Hp, Only H → SqL K H a (ns.map V.int) → sp [.ref a] H (fun v _ => v = .bl true) fun _ _ _ => False)
    (hCX : ∀ H e s', CX [] H s₁ (fun _ _ _ => False) e s' → False) :
    codeAny (model P w) callerA (.call (.ref fa) ⟨[.ref a], []⟩) (fun r s' => r = .ok (.ret (.bool true)) ∧ OldK s₁.heap s'.heap ∧ s'.os = s₁.os ∧ AllBare s'.gens) s₁ := by
  have rv := vals_ints hi
  have lenV := hi.length
  -- from an abstract heap in which nothing but the script may be tracked
  have core : ∀ H : Hp, Only H → SqL K H a (ns.map V.int) → HOk P w H s₁.heap → (∀ b, H b ≠ none → b = a) → (H a ≠ none → K.lookup a = none) →
      codeAny (model P w) callerA (.call (.ref fa) ⟨[.ref a], []⟩) (fun r s' => r = .ok (.ret (.bool true)) ∧ OldK s₁.heap s'.heap ∧ s'.os = s₁.os ∧ AllBare s'.gens) s₁ := by
    intro H hO hS hok hA hK
    have base_of : ∀ {b : Addr} {o : Obj}, s₁.heap.get? b = some o → H b = none → (hidT s₁.heap H).get? b = some o := fun e n => hidT_get e n
    have noA : ∀ {b : Addr} {o : Obj} {es : Array DictEntry} {ep : Nat}, s₁.heap.get? b = some o → o.data = .dict es ep → H b = none := fun {b o es ep} e d => by
      cases q : H b with
      | none => rfl
      | some u =>
        have e' : b = a := hA b (by rw [q]; simp)
        subst e'
        rw [ha] at e; cases e
        have d' : Data.seq vs.toArray _ = Data.dict es ep := d
        cases d'
    have nsK : ∀ {b : Addr} {m : Str → Option Value}, s₁.heap.Ns b m → (hidT s₁.heap H).Ns b m := fun {b m} ⟨o, es, ep, e, d, r⟩ => ⟨o, es, ep, base_of e (noA e d), d, r⟩
    have hKb : K.In (hidT s₁.heap H) := fun b o e => base_of (KX b o e) (by
      cases q : H b with
      | none => rfl
      | some u =>
        have e' : b = a := hA b (by rw [q]; simp)
        subst e'
        rw [hK (by rw [q]; simp)] at e; cases e)
    have hM : Mod K mg (hidT s₁.heap H) := ⟨hKb, nsK hns, ⟨mb, nsK hb, hbb⟩, let ⟨mc, h1, h2⟩ := hlim; ⟨mc, nsK h1, h2⟩⟩
    have e0 : Env0 P w K mg (hidT s₁.heap H) callerA [] s₁ H := ⟨rfl, hM, fun b o e => of_hidT e, Nat.le_of_eq (hidT_size _ _), trivial, fun b hb => absurd (show b ∈ ([] : List Addr) from hb) (by simp), hok, .of_eq hg⟩
    refine codeAny_mono ((F _ hKb (nsK hns)).run callerA [] s₁ H ⟨[.ref a], []⟩ [.ref a] [.ref a] _ _ hr e0 (hbind s₁ (.ref a)) (.cons rfl .nil) (hsp H hO hS)) fun r s' h => ?_
    cases r with
    | error e => exact (hCX H e s' h).elim
    | ok fl =>
      cases fl with
      | next => exact False.elim h
      | brk => exact False.elim h
      | cont => exact False.elim h
      | ret u =>
        obtain ⟨v, H', os, bare, un, hok', r', q⟩ := h
        have q' : v = .bl true := q
        subst q'
        obtain rfl : u = Value.bool true := r'
        refine ⟨rfl, OldK.of_keep fun b o e => ?_, os, bare⟩
        cases q : H b with
        | none => exact un.keep b o e q (by intro z; exact absurd (show b ∈ ([] : List Addr) from z) (by simp)) (by simp)
        | some u =>
          rcases hO b with z | ⟨ob, xs, z⟩
          · rw [q] at z; cases z
          · have z2 := un.frzs b ob _ z
            obtain ⟨e1, _⟩ := hok b _ z
            obtain ⟨e2, _⟩ := hok' b _ z2
            rw [e] at e1; cases e1
            exact e2
  cases hk : K.lookup a with
  | some o =>
    -- the script is one of the module's own objects
    have e := KX a o hk
    rw [ha] at e
    cases e
    refine core (fun _ => none) (fun _ => .inl rfl) (.inr ⟨_, vs.toArray, _, hk, rfl, rfl, rfl, by rw [List.size_toArray, lenV]; exact hl, by simpa using rv⟩) (fun b u z => by have z' : (none : Option HO) = some u := z; cases z') (fun b z => absurd rfl z) fun z => absurd rfl z
  | none =>
    refine core (fun b => if b = a then some (.frz { cls := .type "list", data := .seq vs.toArray } (.lst (ns.map V.int))) else none) (fun b => ?_) (.inl (.inr ⟨{ cls := .type "list", data := .seq vs.toArray }, if_pos rfl⟩)) (fun b u z => ?_) (fun b z => ?_) fun _ => hk
    · by_cases hb : b = a
      · exact .inr ⟨_, _, if_pos hb⟩
      · exact .inl (if_neg hb)
    · by_cases hb : b = a
      · have z' := (if_pos hb).symm.trans z
        cases z'
        subst hb
        exact ⟨ha, by rw [List.length_map]; exact hl, vs, _, rv, ha⟩
      · have z' := (if_neg hb).symm.trans z
        cases z'
    · by_cases hb : b = a
      · exact hb
      · exact absurd (if_neg hb) z
end L2
namespace L2
open PySem PySem.Spec PyProof.Rows
theorem walk_of {l : PySem.W.OpenLaw} {n k : Nat} {q : Program} {loose : List Str} {XP : (Str → Option Value) → Heap → Prop} {YP : World → Heap → Prop} {d : DefRec} {K : Params → PySem.W.Frag} {CX : World → CXT} {sp : World → Sp} {x : Str}
    (hn : l.most = some n) (hn2 : n ≤ sizeLine) (hdf : d.params.defaults = []) (hr : Room k callerA)
    (hY : ∀ (w : World) (h : Heap), YP w h → (K w.params).In h)
    (F : ∀ (w : World) (mg : Str → Option Value) (fa : Addr) (h : Heap), (K w.params).In h → h.Ns mainGlobals mg → mg d.name = some (.ref fa) →
      ∃ fd : FuncData, (∀ (s : Shared) (u : Value), BindsTo s fd ⟨[u], []⟩ [(x, u)]) ∧
        ∀ base : Heap, (K w.params).In base → base.Ns mainGlobals mg → FnOk l.prog w (K w.params) mg base (CX w) k fa fd [x] (sp w))
    (hsp : ∀ (w : World) (H : Hp) (a : Addr) (ns : List Int), ns.length ≤ n → Only H → SqL (K w.params) H a (ns.map V.int) → sp w [.ref a] H (fun v _ => v = .bl true) fun _ _ _ => False)
    (hCX : ∀ (w : World) (H : Hp) (s : Shared) (e : Value) (s' : Shared), CX w [] H s (fun _ _ _ => False) e s' → False) :
    PySem.W.WalkO q loose XP YP l.row.toRowW d [] (fun f vs => PySem.call f vs) := by
  refine Att.attach_call hn hdf fun w s₀ s₁ mg mb fa o pm cd doc a vs ns G Y ho hd hcd hmg hobj hints hlen hg => ?_
  have KX := hY w _ Y
  obtain ⟨fd, hb, hF⟩ := F w mg fa _ KX G.T.g hmg
  exact law_call KX G.T.g G.T.b G.T.builtins G.T.nolimit hg hobj hints (Nat.le_trans hlen hn2) hr hF hb (fun H hO hS => hsp w H a ns hlen hO hS) fun H e s' => hCX w H s₁ e s'
end L2
namespace L2
open PySem PySem.Spec PyProof.Rows
def defArgs (s : Stmt) : Arguments := match s with
  | .FunctionDef _ a _ _ _ _ _ _ _ _ => a
  | _ => { posonlyargs := [], args := [], vararg := none, kwonlyargs := [], kw_defaults := [], kwarg := none, defaults := [] }
def defBody (s : Stmt) : List Stmt := match s with
  | .FunctionDef _ _ b _ _ _ _ _ _ _ => b
  | _ => []
def defScope (s : Stmt) : Scope := match s with
  | .FunctionDef _ _ _ _ _ _ sc _ _ _ => sc
  | _ => { kind := .function, names := [], isGenerator := false, isCoroutine := false }
abbrev CX0 : CXT := fun _ _ _ _ _ _ => False
abbrev E0 : XK := fun _ _ _ => False
theorem pass0 {X : Cx} : Passes CX0 X E0 := fun _ _ _ _ _ _ _ h => h.elim
structure Fun (K : PySem.W.Frag) (x qual : Str) (st : Stmt) (f : Addr) (fd : FuncData) : Prop where
  ex : ∃ (oc : Value) (od : Option Addr) (kV doc pm : Value) (an : Option Addr) (cdv ct : Value) (osl : Array (Option Value)),
    fd = PySem.W.fnOf x qual (defArgs st) (defBody st) (defScope st) .none kV doc pm an cdv ct ∧ K.lookup f = some ⟨oc, od, .func fd, osl⟩ ∧ PySem.W.codeIn K cdv qual = true
  kp : PySem.W.keepIn K (.ref f) = true
section
variable {P : Program} {w : World} {K : PySem.W.Frag} {mg : Str → Option Value} {base : Heap}
theorem Fun.ok {x qual : Str} {st : Stmt} {f : Addr} {fd : FuncData} {N ps : List Str} {k : Nat} {sp : Sp} (F : Fun K x qual st f fd) (S : FnScope N ps (defScope st)) (len : ∀ vs H Q E, sp vs H Q E → vs.length = ps.length)
    (hbody : ∀ (cdv : Value) (A : Around) (outer : List Env) (s : Shared) (H : Hp) (vs : List V) (Q : VK) (E : XK), Room k (A.deeper (envOfC qual (defScope st) s.heap.objs.size f cdv)) → sp vs H Q E →
      ∃ t, PSs (cxOf CX0 P w K mg base N qual (defScope st) f cdv A outer s H E).nox (defBody st) t ∧ t { nx := fun _ H' => Q .non H', rt := Q } (start N vs) H) : FnOk P w K mg base CX0 (k + 1) f fd ps sp := by
  obtain ⟨oc, od, kV, doc, pm, an, cdv, ct, osl, rfl, lk, hcd⟩ := F.ex
  refine fn_of lk hcd S len fun A outer s H vs Q E hr hsp => ?_
  obtain ⟨t, h, q⟩ := hbody cdv A outer s H vs Q E hr hsp
  exact ⟨t, h.nox, q⟩
theorem Fun.binds {x qual : Str} {st : Stmt} {f : Addr} {fd : FuncData} {ps : List Str} (F : Fun K x qual st f fd)
    (h : ∀ (kV doc pm : Value) (an : Option Addr) (cdv ct : Value) (us : List Value), us.length = ps.length → bindArgs (PySem.W.fnOf x qual (defArgs st) (defBody st) (defScope st) .none kV doc pm an cdv ct) ⟨us, []⟩ = pure (ps.zip us)) : Binds K fd ps [] := by
  obtain ⟨oc, od, kV, doc, pm, an, cdv, ct, osl, rfl, lk, hcd⟩ := F.ex
  exact .all (h kV doc pm an cdv ct)
end
section
variable {X : Cx}
end
theorem iteF {A B : Prop} (h : B) : if false = true then A else B := by
  rw [if_neg Bool.false_ne_true]
  exact h
theorem iteT {A B : Prop} (h : A) : if true = true then A else B := by
  rw [if_pos rfl]
  exact h
def Same (H H' : Hp) : Prop := ∀ b o, H b = some o → H' b = some o
theorem Same.refl (H : Hp) : Same H H := fun _ _ h => h
theorem Same.trans {H H1 H2 : Hp} (a : Same H H1) (b : Same H1 H2) : Same H H2 := fun c o h => b c o (a c o h)
theorem Same.free {H H' : Hp} (e : Same H H') {l : Addr} (h : H' l = Option.none) : H l = Option.none := by
  cases q : H l with
  | none => rfl
  | some o =>
    rw [e l o q] at h
    cases h
theorem Same.seq {K : PySem.W.Frag} {H H' : Hp} {a : Addr} {xs : List V} (e : Same H H') (h : SqL K H a xs) : SqL K H' a xs := by
  rcases h with (h | ⟨o, h⟩) | h
  · exact .inl (.inl (e _ _ h))
  · exact .inl (.inr ⟨o, e _ _ h⟩)
  · exact .inr h
end L2
set_option Elab.async false
set_option linter.all false
set_option maxRecDepth 100000
namespace L2
open PySem PySem.Spec PyProof.Rows
theorem ObjOk.obj {P : Program} {w : World} {H : Hp} {h : Heap} {a : Addr} {o : HO} (x : ObjOk P w H h a o) : ∃ u, h.get? a = some u := by
  cases o with
  | lst xs => obtain ⟨_, _, _, _, e⟩ := x; exact ⟨_, e⟩
  | tup xs => obtain ⟨_, _, _, ob, e, _⟩ := x; exact ⟨_, e⟩
  | dK kvs => obtain ⟨_, _, _, _, o, _, _, e, _⟩ := x; exact ⟨_, e⟩
  | dT kvs => obtain ⟨_, _, _, _, o, _, _, e, _⟩ := x; exact ⟨_, e⟩
  | set S n => obtain ⟨o, _, _, _, e, _⟩ := x; exact ⟨_, e⟩
  | ins C dx fs => obtain ⟨_, _, _, e, _⟩ := x; exact ⟨_, e⟩
  | own y => obtain ⟨_, e⟩ := x; exact ⟨_, e⟩
  | xd fs => obtain ⟨_, ⟨_, _, _, e, _⟩, _⟩ := x; exact ⟨_, e⟩
  | rng lo hi => obtain ⟨_, _, _, e⟩ := x; exact ⟨_, e⟩
  | frz ob u => obtain ⟨e, _⟩ := x; exact ⟨_, e⟩
  | tbl ps => exact ⟨_, (show h.get? a = some _ from x)⟩
  | met f y => exact ⟨_, (show h.get? a = some _ from x)⟩
  | ext φ => obtain ⟨_, ⟨_, e⟩, _⟩ := x; exact ⟨_, e⟩
structure FlyS (P : Program) (w : World) (l : List Env) (H : Hp) (s : Shared) (ea C t : Addr) (H' : Hp) (B : Heap) (s' : Shared) : Prop where
  os : s'.os = s.os
  bare : AllBare s'.gens
  un : Un (frs l) [] H H' s.heap s'.heap
  kb : ∀ b o, s.heap.get? b = some o → H b = none → b ∉ frs l → B.get? b = some o
  th : ∀ b o, s.heap.get? b = some o → b ∉ frs l → ∃ o', B.get? b = some o'
  hok : HOk P w H' B
  fly : Heap.FlyingW B l ea (.ref C) (.ref t) s'.heap
def CXR (P : Program) (w : World) : CXT := fun l H s E e s' => ∃ ea C t H' B, e = .ref ea ∧ FlyS P w l H s ea C t H' B s' ∧ E (.ref C) none H'
section
variable {P : Program} {w : World} {l : List Env} {H H' : Hp} {s s' : Shared} {ea C t : Addr} {B h' : Heap}
end
section
variable {X : Cx} {pins : List (Addr × Obj)} {σ : St} {H1 : Hp} {s1 : Shared} {E : XK} {ea C : Addr} {vs : List Value} {h' : Heap} {Ex : Value → Shared → Prop} {M : Model}
end
section
variable {P : Program} {w : World} {K : PySem.W.Frag} {mg : Str → Option Value} {base : Heap} {N : List Str} {qual : Str} {scope : Scope} {f : Addr} {cd : Value} {A : Around} {outer : List Env} {s : Shared} {H : Hp} {E : XK}
end
end L2
set_option Elab.async false
set_option linter.all false
set_option maxRecDepth 100000
namespace L2
open PySem PySem.Spec PyProof.Rows
abbrev bmVE : List Value := [.type "ValueError", .type "Exception", .type "BaseException", .type "object"]
def XIn (K : PySem.W.Frag) (C : Addr) : Prop := PySem.W.excIn K C bmVE "ValueError.__new__" = true
section
variable {X : Cx} {C : Addr} {E : XK} {x : Str} {e₀ : Expr} {rest : List Expr} {ta : TA} {np cpos pos : Pos}
end
end L2
set_option Elab.async false
set_option linter.all false
set_option maxRecDepth 100000
namespace L2
open PySem PySem.Spec PyProof.Rows
def exO (ea C : Addr) : HO := .ext fun h => ∃ o vs, h.get? ea = some o ∧ o.cls = .ref C ∧ o.data = .fields vs
abbrev Cx.marked (X : Cx) (ea : Addr) : Cx := { X with A := X.A.mark (some (.ref ea)), calm := false, xe := fun _ _ => False }
section
variable {X : Cx} {pins : List (Addr × Obj)} {σ : St} {H H' : Hp} {s s' : Shared} {ea C t : Addr} {B : Heap}
theorem Inv.mark (I : Inv X pins σ H s) (ea : Addr) : Inv (X.marked ea) pins σ H s :=
  ⟨⟨I.ok.mod, I.ok.kind, I.ok.glob, I.ok.blt, I.ok.above, I.ok.inj, I.ok.has, I.ok.cab, fun h => (nomatch h), I.ok.frames, I.ok.stk, I.ok.exf, I.ok.bs, I.ok.bsz, I.ok.noex, I.ok.exfs, I.ok.funs, I.ok.frf⟩, I.os, I.bare, I.base, I.loc, I.cell, I.free, I.freeC, I.pin, I.hok, I.len⟩
end
def Ends.un (D : Ends) (i : Nat) : Ends := { nx := fun σ H => D.nx (σ.set i none) H, rt := D.rt, bk := fun σ H => D.bk (σ.set i none) H, ct := fun σ H => D.ct (σ.set i none) H }
section
variable {X : Cx} {pins : List (Addr × Obj)} {σ : St} {H H' : Hp} {s s' : Shared} {ea C DD t : Addr} {B : Heap} {x n : Str} {np hpos : Pos} {b₀ : Stmt} {suite : List Stmt} {rest : List ExceptHandler} {D : Ends} {Ex : Value → Shared → Prop} {i : Nat} {ts : TS}
end
end L2
set_option Elab.async false
set_option linter.all false
set_option maxRecDepth 100000
namespace L2
open PySem PySem.Spec PyProof.Rows
abbrev TX := St → Hp → VK → XK → Prop
abbrev TXS := Ends → St → Hp → (St → XK) → Prop
def XP (X : Cx) (pins : List (Addr × Obj)) (σ : St) (R : XK) (ex : Value) (s' : Shared) : Prop := ∃ H1 s1, Inv X pins σ H1 s1 ∧ CXR X.prog X.w X.stack H1 s1 R ex s'
def PXS (X : Cx) (st : Stmt) (t : TXS) : Prop := ∀ (pins : List (Addr × Obj)) (s : Shared) (σ : St) (H : Hp) (D : Ends) (R : St → XK), Inv X pins σ H s → t D σ H R → wpAny (model X.prog X.w) X.A (exec st X.env) (SP X pins D) (fun ex s' => ∃ σ1, XP X pins σ1 (R σ1) ex s') s
def PXSs (X : Cx) (st : List Stmt) (t : TXS) : Prop := ∀ (pins : List (Addr × Obj)) (s : Shared) (σ : St) (H : Hp) (D : Ends) (R : St → XK), Inv X pins σ H s → t D σ H R → wpAny (model X.prog X.w) X.A (execs st X.env) (SP X pins D) (fun ex s' => ∃ σ1, XP X pins σ1 (R σ1) ex s') s
section
variable {X : Cx} {k : Nat} {f : Addr} {fd : FuncData} {ps : List Str} {sp : Sp} {dvs : List V} {ds : List Value} {x : Str} {p pos : Pos} {e : Expr} {es : List Expr} {ta : TA}
theorem PA.nox {es : List Expr} {t : TA} (h : PA X.nox es t) {pos : Pos} {pins : List (Addr × Obj)} {s : Shared} {σ : St} {H : Hp} {Q : List V → Hp → Prop} {E : Value → Shared → Prop} (I : Inv X pins σ H s) (q : t σ H Q) :
    wpAny (model X.prog X.w) X.A (spliced (backTo pos (starEach es X.env))) (AP X pins σ Q) E s :=
  wpAny_mono (h pos pins s σ H Q (I.wish _) q) (fun _ _ ⟨v, H', I', r, q⟩ => ⟨v, H', I'.unwish, r, q⟩) fun _ _ z => False.elim z
variable {t u : TXS} {te : TX} {st : Stmt} {rest : List Stmt} {i : Nat} {px : Pos}
def tXLift (t : TS) : TXS := fun D σ H _ => t D σ H
theorem PSs.lx {sts : List Stmt} {t : TS} (h : PSs X.nox sts t) : PXSs X sts (tXLift t) := fun pins s σ H D R I hw =>
  wpAny_mono (h pins s σ H D (I.wish _) hw) (fun _ _ q => q.unwish) fun _ _ z => False.elim z
theorem PS.lx {t : TS} (h : PS X.nox st t) : PXS X st (tXLift t) := fun pins s σ H D R I hw =>
  wpAny_mono (h pins s σ H D (I.wish _) hw) (fun _ _ q => q.unwish) fun _ _ z => False.elim z
end
end L2
set_option Elab.async false
set_option linter.all false
set_option maxRecDepth 100000
namespace L2
open PySem PySem.Spec PyProof.Rows
def ExAt (x D : Addr) (h : Heap) : Prop := ∃ o vs, h.get? x = some o ∧ o.cls = .ref D ∧ o.data = .fields vs
section
open PySem.W PySem.Calls Builtin Builtin.ObjectAttr Builtin.Getset_descriptor
variable {K : PySem.W.Frag} {x D : Addr}
theorem ex_type {M : Model} {h : Heap} (I : ExAt x D h) : Looks M h (typeOf (.ref x)) (.ref D) := by
  obtain ⟨o, vs, h1, h2, _⟩ := I
  exact h2 ▸ (Looks.ld h1).andThen .now
theorem looks_find_data {M : Model} {h : Heap} (X : K.In h) {name : Str} {a g : Value} (ha : findIn K (.ref D) name = some (some a)) (hg : specialIn K a "__get__" = some (some g)) (ht : takesIn K a = some true) :
    Looks M h (find (.ref x) (.ref D) name) (.bind g a) := by
  have L1 := looks_findIn (M := M) X ha
  have L2 : Looks M h (getOf (some a)) (some g) := looks_specialIn X hg
  have L3 := looks_takesIn (M := M) X ht
  exact L1.andThen (L2.andThen ((show Looks M h (dataDescriptor? (some a) (some g)) (some (g, a)) from L3.andThen .now).andThen (Looks.tag .now)))
variable {prog : Program} {w : World} {A : Around} {E : Value → Shared → Prop} {s : Shared} {name : Str}
theorem ex_check {M : Model} {nameV : Value} {Q : Unit → Shared → Prop} (X : K.In s.heap) (I : ExAt x D s.heap) (hb : mroIn K D (.type "BaseException") = some true) (hq : Q () s) : wpAny M A (checkBuiltinCall "BaseException.__getattribute__" ⟨[.ref x, nameV], []⟩) Q E s := by
  obtain ⟨hh, g, dr, t, os⟩ := s
  have hk : builtinKind "BaseException.__getattribute__" = some .slot := by decide +kernel
  have hsplit : splitId "BaseException.__getattribute__" = some ("BaseException", "__getattribute__") := by decide +kernel
  have L0 := ex_type (M := M) I
  have L1 := looks_mroIn (M := M) X hb
  have ha := F.args_bexc_ga (.ref x) nameV
  simp only [checkBuiltinCall, hk, hsplit]
  refine wpAny_bind ?_
  unfold isInstance
  repeat (first | lk | wp_step)
  exact hq
theorem ex_get {R : Result → Shared → Prop} {tp : Value} (X : K.In s.heap) (I : ExAt x D s.heap) (hm : mroIn K D (.type "object") = some true)
    (h : R (.ok (.ret (.ref D))) s) : codeAny (model prog w) A (.call (.builtin "getset_descriptor.__get__") ⟨[.builtin "object.__class__", .ref x, tp], []⟩) R s := by
  obtain ⟨hh, g, dr, t, os⟩ := s
  have L0 := ex_type (M := model prog w) I
  have L1 := looks_mroIn (M := model prog w) X hm
  refine codeAny_call_builtin KF.slot_gs.plain KF.entry_gs (KF.slot_gs.check _ _ _ _ _ _ _ _ KF.type_class (KF.args_gs _ _ _) ?_)
  unfold Builtin.«getset_descriptor.__get__» descrGet
  rw [dga_obj]
  refine wpAny_bind (wpAny_pure ?_)
  unfold descrGetter descrCheckInstance descrNameAndClass isInstance
  simp only [KF.owner_class]
  repeat lk
  refine ⟨Code.quiet_builtin _ (by decide +kernel), codeAny_builtin KF.entry_class ?_⟩
  unfold Builtin.«object.__class__» shownTypeOf
  repeat lk
  exact h
theorem ex_entry {g a : Value} {tk : Tok} {Q : Fin → Shared → Prop} (X : K.In s.heap) (I : ExAt x D s.heap) (ha : findIn K (.ref D) "__class__" = some (some (.builtin "object.__class__")))
    (hn : specialIn K (.builtin "object.__class__") "__get__" = some (some (.builtin "getset_descriptor.__get__"))) (ht : takesIn K (.builtin "object.__class__") = some true) (hm : mroIn K D (.type "object") = some true)
    (hq : Q (.done (.ret (.ref D))) s) : wpAny (model prog w) A (Builtin.«object.__getattribute__» ⟨[.ref x, .str "__class__" tk], []⟩) Q E s := by
  have L3 := looks_find_data (x := x) (M := model prog w) X ha hn ht
  have L0 := ex_type (M := model prog w) I
  obtain ⟨hh, gg, d, t, os⟩ := s
  refine wpAny_bind (wpAny_pure ?_)
  refine wpAny_bind (wpAny_pure (wpAny_bind (L0.at (wpAny_bind (L3.at ?_)))))
  show wpAny _ _ (holding [_] (call (.builtin "getset_descriptor.__get__") [.builtin "object.__class__", .ref x, .ref D]) >>= ret) _ _ _
  exact wpAny_bind (wpAny_holding (wpAny_call (ex_get (s := ⟨hh, gg, d, t, os⟩) X I hm (wpAny_pure hq))))
theorem ex_attr {Q : Option Value → Shared → Prop} (X : K.In s.heap) (I : ExAt x D s.heap) (g1 : findIn K (.ref D) "__getattribute__" = some (some (.builtin "BaseException.__getattribute__"))) (hb : mroIn K D (.type "BaseException") = some true)
    (g2 : findIn K (.ref D) "__getattr__" = some none) (ha : findIn K (.ref D) "__class__" = some (some (.builtin "object.__class__")))
    (hn : specialIn K (.builtin "object.__class__") "__get__" = some (some (.builtin "getset_descriptor.__get__"))) (ht : takesIn K (.builtin "object.__class__") = some true) (hm : mroIn K D (.type "object") = some true)
    (h : Q (some (.ref D)) { s with toks := s.toks + 1 }) : wpAny (model prog w) A (getAttr? (.ref x) "__class__") Q E s := by
  obtain ⟨hh, g, d, t, os⟩ := s
  have L0 := ex_type (M := model prog w) I
  have L1 := looks_findIn (M := model prog w) X g1
  have L2 := looks_findIn (M := model prog w) X g2
  have f3 := PySem.F.attr_ValueError.ga.bind (.ref x)
  have hx2 : (Value.builtin "BaseException.__getattribute__" == Value.builtin "object.__getattribute__") = false := by decide +kernel
  have hx1 : (onTheHeap (Value.ref D) && Value.builtin "BaseException.__getattribute__" == Value.builtin "object.__getattribute__") = false := by rw [hx2]; rfl
  unfold getAttr? getAttrBy? getAttrBy
  refine wpAny_bind (wpAny_mkText (wpAny_bind (wpAny_attempt (wpAny_holding (wpAny_bind (L0.at (wpAny_bind (L1.at ?_))))))))
  show wpAny _ _ (if (onTheHeap (Value.ref D) && Value.builtin "BaseException.__getattribute__" == Value.builtin "object.__getattribute__") = true then _ else getAttrByItsOwn _ _ _ _ _ _) _ _ _
  rw [hx1, if_neg (by decide)]
  unfold getAttrByItsOwn
  refine wpAny_bind ?_
  show wpAny _ _ (typeLookup (.ref D) "__getattr__") _ _ _
  refine L2.at ?_
  refine wpAny_bind (wpAny_attempt ?_)
  refine wpAny_holding ?_
  show wpAny _ _ (boundAndCalled (.builtin "BaseException.__getattribute__") (.ref x) _) _ _ _
  unfold boundAndCalled
  refine wpAny_bind (wpAny_of_eq f3 ?_)
  refine wpAny_call (codeAny_call_builtin PySem.F.attr_ValueError.ga.plain F.entry_bexc_ga (ex_check (s := ⟨hh, g, d, t + 1, os⟩) X I hb (ex_entry (g := .none) (a := .none) (s := ⟨hh, g, d, t + 1, os⟩) X I ha hn ht hm ?_)))
  show wpAny _ _ (handedOut (.ref D)) _ _ _
  exact handed_on rfl (wpAny_pure h)
structure ExCls (K : PySem.W.Frag) (D : Addr) : Prop where
  cl : (clsIn K D).isSome = true
  g1 : findIn K (.ref D) "__getattribute__" = some (some (.builtin "BaseException.__getattribute__"))
  hb : mroIn K D (.type "BaseException") = some true
  g2 : findIn K (.ref D) "__getattr__" = some none
  ha : findIn K (.ref D) "__class__" = some (some (.builtin "object.__class__"))
  hn : specialIn K (.builtin "object.__class__") "__get__" = some (some (.builtin "getset_descriptor.__get__"))
  htk : takesIn K (.builtin "object.__class__") = some true
  hm : mroIn K D (.type "object") = some true
theorem kitx_exc (e : ExCls K D) : KitX K (.ref x) (.ref D) (ExAt x D) where
  ty := fun _ _ _ I => ex_type I
  it := fun _ _ X _ => by
    obtain ⟨cdD, hcD⟩ := Option.isSome_iff_exists.mp e.cl
    unfold clsIn at hcD
    split at hcD
    · rename_i c' d' cd' sl' ho
      intro A' Q' E' s' k q
      unfold isType loadHead
      exact wpAny_bind (wpAny_loadPart (k _ _ (X _ _ ho)) (wpAny_pure q))
    · cases hcD
  ne := fun h tp dd its n sl X htp => by
    obtain ⟨cdD, hcD⟩ := Option.isSome_iff_exists.mp e.cl
    refine Bool.eq_false_iff.mpr fun q => ?_
    have e : D = tp := Value.ref.inj (beq_iff_eq.mp q)
    subst e
    unfold clsIn at hcD
    split at hcD
    · rename_i c' d' cd' sl' ho
      have z := (X _ _ ho).symm.trans htp
      cases z
    · cases hcD
  ca := fun X I k => ex_attr X I e.g1 e.hb e.g2 e.ha e.hn e.htk e.hm k
theorem XIn.cl (h : XIn K D) : (clsIn K D).isSome = true := by
  unfold XIn excIn at h
  split at h
  · rename_i dd cd sl ho
    unfold clsIn
    rw [ho]; rfl
  · cases h
end
end L2
set_option Elab.async false
set_option linter.all false
set_option maxRecDepth 100000
set_option maxHeartbeats 1000000
namespace L2
open PySem PySem.Spec PyProof.Rows
section
variable {prog : Program} {w : World} {A : Around} {R : Result → Shared → Prop} {s : Shared}
theorem compLoop_gen {elt target iter : Expr} {ifs : List Expr} {scope : Scope} {pos : Pos} {it acc : Value} {env : Env} (I : Nat → Shared → Prop) (NB : Value → Shared → Prop) (hNB : ∀ e s', NB e s' → notedBy (model prog w) A env (fun e s' => R (.error e) s') e s')
    (turn : ∀ n s, I n s → wpAny (model prog w) A (pyNext it) (fun r s₁ => match r with
      | none => R (.ok .next) s₁
      | some v => wpAny (model prog w) A (letOwnedTupleGo target it v) (fun _ s₁' => wpAny (model prog w) A (assign target env v) (fun _ s₂ =>
          wpAny (model prog w) A (forIn ifs true fun c r => if r = true then do let ok ← isTrue c env (eval c env); pure (ForInStep.yield ok) else pure (ForInStep.yield r)) (fun ok s₃ =>
            if ok = true then wpAny (model prog w) A (eval elt env) (fun x s₄ =>
              wpAny (model prog w) A (call (.builtin "list.append") [acc, x]) (fun _ s₅ => ∃ m, m < n ∧ I m s₅) NB s₄) NB s₃
            else ∃ m, m < n ∧ I m s₃) NB s₂) NB s₁') NB s₁) NB s)
    (n : Nat) (h : I n s) :
    codeAny (model prog w) A (.compLoop (.ListComp elt [⟨target, iter, ifs, 0⟩] scope pos) 0 it acc env) R s := by
  refine codeAny_loop rfl I (fun n s hI => ?_) n h
  show wpAny _ A ((compTurn (.ListComp elt [⟨target, iter, ifs, 0⟩] scope pos) 0 it acc env).onRaise (fun x => do noteFrame x env; theTreesLotGoes x)) _ _ s
  refine wpAny_noted ?_
  rw [compTurn_list]
  refine wpAny_bind (wpAny_standAt (wpAny_bind (wpAny_mono (turn n s hI) (fun r s₁ h₁ => ?_) hNB)))
  cases r with
  | none => exact wpAny_pure h₁
  | some v =>
    refine wpAny_bind (wpAny_mono h₁ (fun _ s₁' h₁' => ?_) hNB)
    refine wpAny_bind (wpAny_mono h₁' (fun _ s₂ h₂ => wpAny_bind (wpAny_mono h₂ (fun ok s₃ h₃ => ?_) hNB)) hNB)
    cases ok with
    | false => exact wpAny_pure ⟨rfl, h₃⟩
    | true =>
      exact wpAny_bind (wpAny_bind (wpAny_mono h₃ (fun x s₄ h₄ => wpAny_bind (wpAny_mono h₄ (fun _ s₅ h₅ => wpAny_pure (wpAny_pure ⟨rfl, h₅⟩)) hNB)) hNB))
end
def relabelS (scope outer : Scope) : Scope :=
  { scope with names := scope.names.map fun (n, k) => if (k == .free && outer.kind == .function && outer.names.lookup n == some .cell) then (n, .cell) else (n, k) }
theorem lookup_relabel (c : Str → NameKind → Bool) (x : Str) : ∀ names : List (Str × NameKind), (names.map fun (n, k) => if c n k = true then (n, NameKind.cell) else (n, k)).lookup x = (names.lookup x).map fun k => if c x k = true then NameKind.cell else k
  | [] => rfl
  | (n, k) :: r => by
    have ih := lookup_relabel c x r
    show List.lookup x ((if c n k = true then (n, NameKind.cell) else (n, k)) :: _) = _
    by_cases hx : x = n
    · subst hx
      by_cases hc : c x k = true
      · rw [if_pos hc, List.lookup_cons_self, List.lookup_cons_self]; simp [hc]
      · rw [if_neg hc, List.lookup_cons_self, List.lookup_cons_self]; simp [hc]
    · have hb : (x == n) = false := by simpa using hx
      by_cases hc : c n k = true
      · rw [if_pos hc, List.lookup_cons, List.lookup_cons, hb]; exact ih
      · rw [if_neg hc, List.lookup_cons, List.lookup_cons, hb]; exact ih
theorem relabelS_lookup (scope outer : Scope) (x : Str) : (relabelS scope outer).names.lookup x = (scope.names.lookup x).map fun k => if (k == .free && outer.kind == .function && outer.names.lookup x == some .cell) = true then NameKind.cell else k :=
  lookup_relabel (fun n k => k == .free && outer.kind == .function && outer.names.lookup n == some .cell) x scope.names
theorem relabelS_free {scope outer : Scope} {x : Str} (h : scope.names.lookup x = some .free) : (relabelS scope outer).names.lookup x = some .cell ∨ (relabelS scope outer).names.lookup x = some .free := by
  rw [relabelS_lookup, h]
  show some (if _ then _ else _) = _ ∨ some (if _ then _ else _) = _
  split
  · exact .inl rfl
  · exact .inr rfl
theorem relabelS_back {scope outer : Scope} {x : Str} (h : (relabelS scope outer).names.lookup x = some .cell ∨ (relabelS scope outer).names.lookup x = some .free) : scope.names.lookup x = some .cell ∨ scope.names.lookup x = some .free := by
  rw [relabelS_lookup] at h
  cases e : scope.names.lookup x with
  | none => rw [e] at h; rcases h with h | h <;> cases h
  | some k =>
    rw [e] at h
    cases k with
    | free => exact .inr rfl
    | cell => exact .inl rfl
    | _ => rcases h with h | h <;> cases h
def clFrom (env : Env) : List (Str × NameKind) → List (Str × Addr) → List (Str × Addr)
  | [], acc => acc
  | (n, k) :: r, acc => if (k == .free) = true then clFrom env r ((n, (env.cells.lookup n).getD 0) :: acc) else clFrom env r acc
theorem closure_eq {scope : Scope} {env : Env} (h : ∀ y ∈ scope.names, y.2 = .free → (env.cells.lookup y.1).isSome = true) : closureFor scope env = pure (clFrom env scope.names []) := by
  have go : ∀ (names : List (Str × NameKind)) (acc : List (Str × Addr)), (∀ y ∈ names, y.2 = .free → (env.cells.lookup y.1).isSome = true) →
      (forIn names acc fun x r => if (x.2 == NameKind.free) = true then (cellOf env x.1 >>= fun a => pure (ForInStep.yield ((x.1, a) :: r))) else pure (ForInStep.yield r) : Sem (List (Str × Addr))) = pure (clFrom env names acc) := by
    intro names
    induction names with
    | nil => intro acc _; rfl
    | cons y r ih =>
      intro acc hy
      obtain ⟨n, k⟩ := y
      rw [List.forIn_cons]
      unfold clFrom
      by_cases hk : (k == NameKind.free) = true
      · obtain ⟨c, hc⟩ := Option.isSome_iff_exists.mp (hy (n, k) List.mem_cons_self (beq_iff_eq.mp hk))
        have e : cellOf env n = pure c := by unfold cellOf; rw [show env.cells.lookup n = some c from hc]
        simp only [hk, if_true, e]
        rw [show (env.cells.lookup n).getD 0 = c from by rw [show env.cells.lookup n = some c from hc]; rfl]
        exact ih _ fun y hm => hy y (List.mem_cons_of_mem _ hm)
      · simp only [hk]
        exact ih _ fun y hm => hy y (List.mem_cons_of_mem _ hm)
  have e := go scope.names [] h
  unfold closureFor
  exact congrArg (fun m => m >>= fun s => (pure s : Sem (List (Str × Addr)))) e
theorem clFrom_mem {env : Env} {p : Str × Addr} : ∀ {names : List (Str × NameKind)} {acc : List (Str × Addr)}, p ∈ clFrom env names acc → p ∈ acc ∨ p.2 = (env.cells.lookup p.1).getD 0 ∧ ∃ y ∈ names, y.1 = p.1 ∧ y.2 = .free
  | [], _, h => .inl h
  | (n, k) :: r, acc, h => by
    unfold clFrom at h
    split at h
    · rename_i hk
      rcases clFrom_mem h with h | ⟨h, y, hy, e⟩
      · rcases List.mem_cons.mp h with h | h
        · subst h; exact .inr ⟨rfl, (n, k), List.mem_cons_self, rfl, beq_iff_eq.mp hk⟩
        · exact .inl h
      · exact .inr ⟨h, y, List.mem_cons_of_mem _ hy, e⟩
    · rcases clFrom_mem h with h | ⟨h, y, hy, e⟩
      · exact .inl h
      · exact .inr ⟨h, y, List.mem_cons_of_mem _ hy, e⟩
theorem clFrom_has {env : Env} {x : Str} : ∀ {names : List (Str × NameKind)} {acc : List (Str × Addr)}, (acc.lookup x).isSome = true ∨ (∃ y ∈ names, y.1 = x ∧ y.2 = .free) → ((clFrom env names acc).lookup x).isSome = true
  | [], _, h => h.elim id fun ⟨_, hy, _⟩ => nomatch hy
  | (n, k) :: r, acc, h => by
    unfold clFrom
    split
    · rename_i hk
      refine clFrom_has ?_
      rcases h with h | ⟨y, hy, e1, e2⟩
      · refine .inl ?_
        rw [List.lookup_cons]
        split
        · rfl
        · exact h
      · rcases List.mem_cons.mp hy with rfl | hy
        · refine .inl ?_
          have e1 : n = x := e1
          subst e1
          rw [List.lookup_cons_self]; rfl
        · exact .inr ⟨y, hy, e1, e2⟩
    · rename_i hk
      refine clFrom_has ?_
      rcases h with h | ⟨y, hy, e1, e2⟩
      · exact .inl h
      · rcases List.mem_cons.mp hy with rfl | hy
        · have e2 : k = .free := e2
          subst e2
          exact absurd rfl hk
        · exact .inr ⟨y, hy, e1, e2⟩
theorem mem_lookup {α : Type} {l : List (Str × α)} {x : Str} {c : α} (h : l.lookup x = some c) : (x, c) ∈ l := PySem.mem_of_lookup h
theorem cf_mem {p : Str × Addr} : ∀ {names : List (Str × NameKind)} {n : Nat} {acc : List (Str × Addr)}, p ∈ cellsFrom n names acc → p ∈ acc ∨ n ≤ p.2
  | [], _, _, h => .inl h
  | (y, k) :: r, n, acc, h => by
    unfold cellsFrom at h
    split at h
    · rcases cf_mem h with h | h
      · rcases List.mem_cons.mp h with h | h
        · subst h; exact .inr (Nat.le_refl _)
        · exact .inl h
      · exact .inr (Nat.le_of_succ_le h)
    · exact cf_mem h
theorem cf_inj : ∀ {names : List (Str × NameKind)} {n : Nat} {acc : List (Str × Addr)}, (∀ p ∈ acc, p.2 < n) → (∀ p ∈ acc, ∀ q ∈ acc, p.2 = q.2 → p.1 = q.1) → ∀ p ∈ cellsFrom n names acc, ∀ q ∈ cellsFrom n names acc, p.2 = q.2 → p.1 = q.1
  | [], _, _, _, h => h
  | (y, k) :: r, n, acc, hl, hi => by
    unfold cellsFrom
    split
    · refine cf_inj (fun p hp => ?_) fun p hp q hq e => ?_
      · rcases List.mem_cons.mp hp with rfl | hp
        · exact Nat.lt_succ_self _
        · exact Nat.lt_succ_of_lt (hl p hp)
      · rcases List.mem_cons.mp hp with rfl | hp <;> rcases List.mem_cons.mp hq with rfl | hq
        · rfl
        · exact absurd e (Nat.ne_of_gt (hl q hq))
        · exact absurd e (Nat.ne_of_lt (hl p hp))
        · exact hi p hp q hq e
    · exact cf_inj hl hi
theorem cf_cell : ∀ {names : List (Str × NameKind)} {h : Heap} {acc : List (Str × Addr)}, (∀ p ∈ acc, ∃ v, h.IsCell p.2 v) → ∀ p ∈ cellsFrom h.objs.size names acc, ∃ v, (pushCells h names).IsCell p.2 v
  | [], _, _, h => h
  | (y, k) :: r, h, acc, hc => by
    unfold cellsFrom pushCells
    split
    · have := cf_cell (names := r) (h := h.push { cls := .type "cell", data := .cell none }) (acc := (y, h.objs.size) :: acc) fun p hp => by
        rcases List.mem_cons.mp hp with rfl | hp
        · exact ⟨none, _, Heap.get?_push_size _ rfl, rfl⟩
        · obtain ⟨v, q⟩ := hc p hp
          exact ⟨v, q.keeps fun b o e => Heap.get?_push_of_some _ e⟩
      rwa [Heap.size_push] at this
    · exact cf_cell hc
theorem cf_skip {x : Str} : ∀ {names : List (Str × NameKind)} {n : Nat} {acc : List (Str × Addr)}, (∀ y ∈ names, y.1 = x → y.2 = .free) → (cellsFrom n names acc).lookup x = acc.lookup x
  | [], _, _, _ => rfl
  | (y, k) :: r, n, acc, h => by
    unfold cellsFrom
    split
    · rename_i hk
      rw [cf_skip fun z hz => h z (List.mem_cons_of_mem _ hz), List.lookup_cons]
      split
      · rename_i hb
        have hx : x = y := beq_iff_eq.mp hb
        have := h (y, k) List.mem_cons_self hx.symm
        have this : k = .free := this
        subst this
        exact absurd hk (by decide)
      · rfl
    · exact cf_skip fun z hz => h z (List.mem_cons_of_mem _ hz)
def cenvOf (scope : Scope) (cl : List (Str × Addr)) (L : Addr) (env : Env) : Env :=
  { scope := relabelS scope env.scope, locals := L, globals := env.globals, cells := cellsFrom (L + 1) scope.names cl, qual := env.qual, func := none, code := env.code, frame := env.frame, builtins := env.builtins }
theorem newEnvC {M : Model} {A : Around} {E : Value → Shared → Prop} {s : Shared} {scope : Scope} {cl : List (Str × Addr)} {env : Env} {Q : Env → Shared → Prop}
    (h : ∀ c, { c with scope := relabel scope env } = cenvOf scope cl s.heap.objs.size env → c.locals = s.heap.objs.size → Q c { s with heap := pushCells (s.heap.push { cls := .type "dict", data := .dict #[] }) scope.names }) :
    wpAny M A (newFunctionEnv scope env.globals cl [] env.qual none .none (some env)) Q E s := by
  simp only [newFunctionEnv, Option.isSome_some, if_true]
  refine wpAny_bind (wpAny_alloc ?_)
  refine wpAny_bind (wpAny_layCells _ (fun name kind cells => by cases hkc : kind == NameKind.cell <;> simp [hkc]) _ _ _ _ ?_)
  rw [show ({ s with heap := s.heap.push { cls := .type "dict", data := .dict #[] } } : Shared).heap.objs.size = s.heap.objs.size + 1 from Heap.size_push ..]
  refine wpAny_bind (wpAny_pure (wpAny_pure (h _ ?_ rfl)))
  rfl
def capt (js : List (Option Nat)) (σ : St) : St := js.map fun j => j.bind fun j => (σ[j]?).join
structure CompSc (N' : List Str) (js : List (Option Nat)) (scope outer : Scope) (N : List Str) : Prop where
  kind : scope.kind = .function
  uniq : ∀ y ∈ scope.names, scope.names.lookup y.1 = some y.2
  nd : N'.Nodup
  len : js.length = N'.length
  free : ∀ y ∈ scope.names, y.2 = .free → outer.names.lookup y.1 = some .cell ∨ outer.names.lookup y.1 = some .free
  cap : ((N'.zip js).all fun p => match p.2 with
    | none => true
    | some j => decide (N[j]? = some p.1) && decide (scope.names.lookup p.1 = some .free)) = true
theorem CompSc.capOf {N' : List Str} {js : List (Option Nat)} {scope outer : Scope} {N : List Str} (S : CompSc N' js scope outer N) {i j : Nat} {x : Str} (h1 : N'[i]? = some x) (h2 : js[i]? = some (some j)) :
    N[j]? = some x ∧ scope.names.lookup x = some .free ∧ ∀ y ∈ scope.names, y.1 = x → y.2 = .free := by
  have h := List.all_eq_true.mp S.cap (x, some j) (by
    refine List.mem_of_getElem? (i := i) ?_
    rw [List.getElem?_zip_eq_some]
    exact ⟨h1, h2⟩)
  simp only [Bool.and_eq_true, decide_eq_true_eq] at h
  exact ⟨h.1, h.2, fun y hy e => by
    have := S.uniq y hy
    rw [e, h.2] at this
    exact (Option.some.inj this).symm⟩
theorem CompSc.names {N' : List Str} {js : List (Option Nat)} {scope outer : Scope} {N : List Str} (S : CompSc N' js scope outer N) : ∀ y ∈ scope.names, y.2 = .local → scope.names.lookup y.1 = some .local := fun y hy e => by
  rw [S.uniq y hy, e]
def cxC (X : Cx) (N' : List Str) (scope : Scope) (fp : List Addr) (s : Shared) (H : Hp) : Cx :=
  { X with N := N', s₀ := s, H₀ := H, env := cenvOf scope (clFrom X.env scope.names []) s.heap.objs.size X.env, outer := X.stack, ex := fp,
           fn := fun x => match scope.names.lookup x with | some .cell => true | _ => false, pn := [], xe := fun _ _ => False }
theorem inv_comp {X : Cx} {N' : List Str} {js : List (Option Nat)} {scope : Scope} {pins : List (Addr × Obj)} {σ : St} {H : Hp} {s : Shared} {fp : List Addr} (S : CompSc N' js scope X.env.scope X.N) (I : Inv X pins σ H s) (hf : ∀ b ∈ fp, FpOk X pins H b)
    (hlt : ∀ b ∈ fp, b < s.heap.objs.size) :
    Inv (cxC X N' scope fp s H) [] (capt js σ) H { s with heap := pushCells (s.heap.push { cls := .type "dict", data := .dict #[] }) scope.names } := by
  have hk : ∀ b o, s.heap.get? b = some o → (pushCells (s.heap.push { cls := .type "dict", data := .dict #[] }) scope.names).get? b = some o := fun b o e => pushCells_keeps _ _ b o (Heap.get?_push_of_some _ e)
  have sz : (s.heap.push { cls := .type "dict", data := .dict #[] }).objs.size = s.heap.objs.size + 1 := Heap.size_push ..
  -- captured cells stand in the outer frame
  have out : ∀ x, (∃ y ∈ scope.names, y.1 = x ∧ y.2 = .free) → ∃ c, X.env.cells.lookup x = some c := fun x ⟨y, hy, e1, e2⟩ => by
    subst e1
    exact I.ok.has y.1 (S.free y hy e2)
  have clm : ∀ p ∈ clFrom X.env scope.names [], X.env.cells.lookup p.1 = some p.2 := fun p hp => by
    rcases clFrom_mem hp with h | ⟨h, hy⟩
    · cases h
    · obtain ⟨c, hc⟩ := out p.1 hy
      rw [hc] at h ⊢
      rw [h]; rfl
  have cllt : ∀ p ∈ clFrom X.env scope.names [], p.2 < s.heap.objs.size := fun p hp => by
    obtain ⟨v, q⟩ := I.cell p.1 p.2 (clm p hp)
    exact q.lt
  have cin : ∀ x c, (cellsFrom (s.heap.objs.size + 1) scope.names (clFrom X.env scope.names [])).lookup x = some c → X.env.cells.lookup x = some c ∨ s.heap.objs.size + 1 ≤ c := fun x c e => by
    rcases cf_mem (mem_lookup e) with h | h
    · exact .inl (clm _ h)
    · exact .inr h
  have capL : ∀ x, scope.names.lookup x = some .free → (∀ y ∈ scope.names, y.1 = x → y.2 = .free) → (cellsFrom (s.heap.objs.size + 1) scope.names (clFrom X.env scope.names [])).lookup x = X.env.cells.lookup x := fun x hx hy => by
    rw [cf_skip hy]
    have hs := clFrom_has (env := X.env) (x := x) (names := scope.names) (acc := []) (.inr ⟨_, mem_lookup hx, rfl, rfl⟩)
    obtain ⟨c, hc⟩ := Option.isSome_iff_exists.mp hs
    rw [hc, clm _ (mem_lookup hc)]
  refine ⟨⟨I.ok.mod, S.kind, I.ok.glob, I.ok.blt, Nat.le_refl _, fun x y c h1 h2 => ?_, fun x hx => ?_, fun x c hx h => ?_, I.ok.hd, I.ok.frames, .inl rfl, fun b hb => ?_, I.bs, Nat.le_trans I.ok.bsz I.sz, fun b o e hb => ?_, fun b hb hz => ?_, I.stack, I.stkFree⟩,
    rfl, I.bare, Un.kept hk, ?_, fun x c h => ?_, I.hok.fresh (Nat.le_refl _), fun x c h => ?_, fun p hp => absurd (show p ∈ ([] : List (Addr × Obj)) from hp) (by simp), I.hok.kept hk, ?_⟩
  · refine cf_inj (names := scope.names) (n := s.heap.objs.size + 1) (acc := clFrom X.env scope.names []) (fun p hp => Nat.lt_succ_of_lt (cllt p hp)) (fun p hp q hq e => ?_) (x, c) (mem_lookup h1) (y, c) (mem_lookup h2) rfl
    have a := clm p hp
    have b := clm q hq
    rw [← e] at b
    exact I.ok.inj _ _ _ a b
  · have hx' := relabelS_back (show (relabelS scope X.env.scope).names.lookup x = some .cell ∨ _ from hx)
    refine Option.isSome_iff_exists.mp (PySem.W.cellsFrom_some scope.names _ _ ?_)
    rcases hx' with h | h
    · exact .inl h
    · exact .inr (clFrom_has (.inr ⟨_, mem_lookup h, rfl, rfl⟩))
  · rcases cf_mem (mem_lookup h) with hm | hm
    · -- an own cell's name is captured too: its first entry is the own one
      have hx' : scope.names.lookup x = some .cell := by
        have hx2 : (match scope.names.lookup x with | some .cell => true | _ => false) = true := hx
        split at hx2
        · assumption
        · cases hx2
      rcases clFrom_mem hm with q | ⟨_, y, hy, e1, e2⟩
      · cases q
      · have := S.uniq y hy
        have e1 : y.1 = x := e1
        rw [e1, hx', e2] at this
        cases this
    · exact Nat.le_of_succ_le hm
  · refine ⟨Nat.ne_of_lt (hlt b hb), fun x c h e => ?_⟩
    rcases cin x c h with q | q
    · exact (hf b hb).2.2.2.2.1 x c q e
    · have := hlt b hb
      rw [← e] at this
      exact absurd (Nat.lt_of_lt_of_le this (Nat.le_of_succ_le q)) (Nat.lt_irrefl _)
  · rcases (hf b hb).2.2.2.1 with z | z
    · exact I.ok.noex b o e z
    · exact absurd (Nat.lt_of_lt_of_le (Heap.lt_size (I.ok.bs b o e).1) z) (Nat.lt_irrefl _)
  · rcases List.mem_cons.mp (I.stkSub b hz) with e | e
    · exact (hf b hb).2.1 e
    · exact (hf b hb).2.2.1 e
  · obtain ⟨m, hn, hl⟩ := I.loc
    refine ⟨fun _ => none, (Heap.Ns.new s.heap (.type "dict")).keeps (pushCells_keeps _ _), fun i x v h1 h2 h3 => ?_⟩
    have h2' : ((js[i]?).map fun j => j.bind fun j => (σ[j]?).join) = some (some v) := by
      unfold capt at h2
      rw [List.getElem?_map] at h2
      exact h2
    cases e : js[i]? with
    | none => rw [e] at h2'; cases h2'
    | some o =>
      rw [e] at h2'
      cases o with
      | none => cases h2'
      | some j =>
        have h4 : (σ[j]?).join = some v := Option.some.inj h2'
        have h5 : σ[j]? = some (some v) := by
          cases z : σ[j]? with
          | none => rw [z] at h4; cases h4
          | some o => rw [z] at h4; have h4 : o = some v := h4; rw [h4]
        obtain ⟨hN, hx, hy⟩ := S.capOf h1 e
        have hvis := S.free _ (mem_lookup hx) rfl
        obtain ⟨u, r, lk⟩ := hl j x v hN h5 (.inr hvis)
        refine ⟨u, r, .inr ⟨relabelS_free hx, ?_⟩⟩
        rcases lk with ⟨k, _⟩ | ⟨_, c, hc, z⟩
        · have k : X.env.scope.names.lookup x = some .local := k
          rcases hvis with q | q
          · rw [k] at q; cases q
          · rw [k] at q; cases q
        · exact ⟨c, (capL x hx hy).trans hc, z.keeps hk⟩
  · have := cf_cell (names := scope.names) (h := s.heap.push { cls := .type "dict", data := .dict #[] }) (acc := clFrom X.env scope.names []) (fun p hp => by
      obtain ⟨v, q⟩ := I.cell p.1 p.2 (clm p hp)
      exact ⟨v, q.keeps fun b o e => Heap.get?_push_of_some _ e⟩) (x, c) (by rw [sz]; exact mem_lookup h)
    exact this
  · rcases cin x c h with q | q
    · exact I.freeC x c q
    · exact I.hok.fresh (Nat.le_of_succ_le q)
  · show (js.map _).length = N'.length
    rw [List.length_map]; exact S.len
def eMax (X : Cx) (e : Expr) : TE := fun σ H Q => ∃ t, PE X e t ∧ t σ H Q
theorem pe_max {X : Cx} {e : Expr} : PE X e (eMax X e) := fun pins s σ H Q I ⟨t, ht, h⟩ => ht pins s σ H Q I h
def gMax (X : Cx) (e : Expr) : TG := fun v σ H Q => ∃ t, PG X e t ∧ t v σ H Q
theorem pg_max {X : Cx} {e : Expr} : PG X e (gMax X e) := fun pins s σ H v u Q I r ⟨t, ht, h⟩ => ht pins s σ H v u Q I r h
def PIf (X : Cx) (ifs : List Expr) (tc : TT) : Prop := (ifs = [] ∧ tc = fun _ H Q => Q true H) ∨ ∃ c, ifs = [c] ∧ PT X c tc
theorem pif_nil {X : Cx} : PIf X [] (fun _ H Q => Q true H) := .inl ⟨rfl, rfl⟩
theorem PIf.run {X : Cx} {ifs : List Expr} {tc : TT} (h : PIf X ifs tc) {pins : List (Addr × Obj)} {s : Shared} {σ : St} {H : Hp} {Q : Bool → Hp → Prop} (I : Inv X pins σ H s) (q : tc σ H Q) :
    wpAny (model X.prog X.w) X.A (forIn ifs true fun c r => if r = true then do let ok ← isTrue c X.env (eval c X.env); pure (ForInStep.yield ok) else pure (ForInStep.yield r)) (TP X pins σ Q) X.xe s := by
  rcases h with ⟨rfl, rfl⟩ | ⟨c, rfl, h⟩
  · exact wpAny_tests_nil ⟨H, I, q⟩
  · exact wpAny_tests_one (h pins s σ H Q I q)
def cMax (X : Cx) (ifs : List Expr) : TT := fun σ H Q => ∃ t, PIf X ifs t ∧ t σ H Q
def CompW (X' : Cx) (js : List (Option Nat)) (tg elt : Expr) (ifs : List Expr) (σ : St) (H1 : Hp) (J : It) (p : Addr) (Q : VK) : Prop :=
  ∃ W : Nat → Nat → St → Hp → Prop, (∃ m, W 0 m (capt js σ) (upd H1 p (.lst []))) ∧ ∀ i m τ H', W i m τ H' →
  (J.stop i H' ∧ Q (.ref p) H') ∨ (J.go i H' ∧ ∃ N : St → Hp → Prop, (∀ τ' H'', N τ' H'' → ∃ m', m' < m ∧ W (i + 1) m' τ' H'') ∧ ∀ x H'', J.yld i H' x H'' → gMax X' tg x τ H'' fun τ2 H2 => cMax X' ifs τ2 H2 fun b H3 =>
    if b = true then eMax X' elt τ2 H3 fun y H4 => ∃ ys, H4 p = some (.lst ys) ∧ ys.length < sizeLine ∧ N τ2 (upd H4 p (.lst (ys ++ [y]))) else N τ2 H3)
def tComp (X : Cx) (N' : List Str) (js : List (Option Nat)) (scope : Scope) (tg elt : Expr) (ifs : List Expr) (wi : TI) : TE := fun σ H Q => wi σ H fun J H1 => ∀ p, H1 p = none → ∀ fp s,
  CompW (cxC X N' scope fp s (upd H1 p (.lst []))) js tg elt ifs σ H1 J p Q
section
variable {X : Cx} {N' : List Str} {js : List (Option Nat)} {scope : Scope} {tg iter elt : Expr} {ifs : List Expr} {wi : TI} {pos : Pos}
theorem comp_block {pins : List (Addr × Obj)} {σ : St} {H : Hp} {s : Shared} {R : V → Hp → Prop} {E : Value → Shared → Prop} (hc : X.calm = true) (S : CompSc N' js scope X.env.scope X.N)
    {it : Addr} {fp : List Addr} {tn : Nat → Heap → Prop} {J : It} (I2 : Inv X pins σ H s) (T : Turn X.prog X.w X.K tg J fp it tn) (st : tn 0 s.heap) (hf : ∀ b ∈ fp, FpOk X pins H b)
    (hW : ∀ p, H p = none → ∀ fp s, CompW (cxC X N' scope fp s (upd H p (.lst []))) js tg elt ifs σ H J p R)
    {RR : Value → Addr → Result → Shared → Prop}
    (hRR : ∀ (D C : Addr) (s' : Shared) (H' : Hp), Inv X pins σ H' s' → (∃ m, s'.heap.Ns C m) → H' C = none → C ≠ X.env.locals → X.s₀.heap.objs.size ≤ C → (∀ x c, X.env.cells.lookup x = some c → c ≠ C) → (∀ p ∈ X.pn ++ pins, p.1 ≠ C) → R (.ref D) H' → RR (.ref D) C (.ok .next) s') :
    wpAny (model X.prog X.w) X.A (newList []) (fun acc s₃ => wpAny (model X.prog X.w) X.A (newFunctionEnv scope X.env.globals (clFrom X.env scope.names []) [] X.env.qual none .none (some X.env)) (fun cenv s₄ =>
      codeAny (model X.prog X.w) X.A (.compStart (.ListComp elt [⟨tg, iter, ifs, 0⟩] scope pos) 0 (.ref it) acc { cenv with scope := relabel scope X.env }) (RR acc cenv.locals) s₄) E s₃) E s := by
  refine wpAny_newObj_type ?_
  have hfresh : H s.heap.objs.size = none := I2.hok.fresh (Nat.le_refl _)
  have I3 : Inv X pins σ (upd H s.heap.objs.size (.lst [])) { s with heap := s.heap.push { cls := .type "list", data := .seq ([] : List Value).toArray } } := I2.lnew (t' := s.toks) .nil (Nat.zero_le _)
  generalize hs3 : ({ s with heap := s.heap.push { cls := .type "list", data := .seq ([] : List Value).toArray } } : Shared) = s3 at I3 ⊢
  have hsz3 : s3.heap.objs.size = s.heap.objs.size + 1 := by rw [← hs3]; exact Heap.size_push ..
  have hk3 : ∀ b o, s.heap.get? b = some o → s3.heap.get? b = some o := fun b o e => by rw [← hs3]; exact Heap.get?_push_of_some _ e
  have flt : ∀ b ∈ fp, b < s.heap.objs.size := fun b hb => by
    obtain ⟨o, e, _⟩ := T.obj _ _ st b hb
    exact Heap.lt_size e
  have hf3 : ∀ b ∈ fp, FpOk X pins (upd H s.heap.objs.size (.lst [])) b := fun b hb => ⟨by rw [upd_ne (Nat.ne_of_lt (flt b hb))]; exact (hf b hb).1, (hf b hb).2⟩
  have st3 : tn 0 s3.heap := T.keep _ _ _ st fun b _ o e => hk3 b o e
  refine newEnvC fun cenv ecenv el => ?_
  rw [ecenv, el]
  have I4 := inv_comp (fp := fp) S I3 hf3 fun b hb => by rw [hsz3]; exact Nat.lt_succ_of_lt (flt b hb)
  obtain ⟨W, ⟨m0, w0⟩, turn⟩ := hW _ hfresh fp s3
  generalize hX' : cxC X N' scope fp s3 (upd H s.heap.objs.size (.lst [])) = X' at I4 turn
  generalize hs4 : ({ s3 with heap := pushCells (s3.heap.push { cls := .type "dict", data := .dict #[] }) scope.names } : Shared) = s4 at I4 ⊢
  have eenv : cenvOf scope (clFrom X.env scope.names []) s3.heap.objs.size X.env = X'.env := by rw [← hX']; rfl
  have eprog : X'.prog = X.prog := by rw [← hX']; rfl
  have ew : X'.w = X.w := by rw [← hX']; rfl
  have eK : X'.K = X.K := by rw [← hX']; rfl
  have eA : X'.A = X.A := by rw [← hX']; rfl
  have ecalm : X'.calm = true := by rw [← hX']; exact hc
  have exe : ∀ e s', X'.xe e s' → False := fun e s' h => by rw [← hX'] at h; exact h
  have eex : X'.ex = fp := by rw [← hX']; rfl
  have efs : X'.fs = frs X.stack := by rw [← hX']; rfl
  have epn : X'.pn = [] := by rw [← hX']; rfl
  have es0 : X'.s₀ = s3 := by rw [← hX']; rfl
  have eH0 : X'.H₀ = upd H s.heap.objs.size (.lst []) := by rw [← hX']; rfl
  have eloc : X'.env.locals = s3.heap.objs.size := by rw [← eenv]; rfl
  rw [eenv]
  have st4 : tn 0 s4.heap := T.keep _ _ _ st3 fun b _ o e => by rw [← hs4]; exact pushCells_keeps _ _ b o (Heap.get?_push_of_some _ e)
  -- the iterator's objects, seen from the block
  have fpok : ∀ {H' : Hp}, (∀ b ∈ fp, H' b = none) → ∀ b ∈ fp, FpOk X' [] H' b := fun {H'} hn b hb => by
    obtain ⟨h1, h2⟩ := I4.ok.exf b (by rw [eex]; exact hb)
    exact ⟨hn b hb, h1, fun z => I4.ok.exfs b (by rw [eex]; exact hb) z, .inl (by rw [eex]; exact hb), h2, fun p hp => by rw [epn] at hp; cases hp⟩
  have loop : ∀ s5, s5 = s4 → codeAny (model X.prog X.w) X.A (.compLoop (.ListComp elt [⟨tg, iter, ifs, 0⟩] scope pos) 0 (.ref it) (.ref s.heap.objs.size) X'.env) (RR (.ref s.heap.objs.size) s3.heap.objs.size) s5 := by
    rintro s5 rfl
    refine compLoop_gen (fun n s' => ∃ i τ H', Inv X' [] τ H' s' ∧ tn i s'.heap ∧ (∀ b ∈ fp, H' b = none) ∧ W i n τ H') (fun _ _ => False) (fun _ _ h => h.elim) ?_ m0 ⟨0, _, _, I4, st4, fun b hb => (hf3 b hb).1, w0⟩
    rintro n s6 ⟨i, τ, H6, I6, st6, fr6, w6⟩
    have A1 : ∀ {α : Type} {t : Sem α} {Q : α → Shared → Prop} {s : Shared}, wpAny (model X'.prog X'.w) X'.A t Q X'.xe s → wpAny (model X.prog X.w) X.A t Q (fun _ _ => False) s := fun {α t Q s} h => by
      rw [eprog, ew, eA] at h
      exact wpAny_mono h (fun _ _ q => q) exe
    rcases turn i n τ H6 w6 with ⟨stop, qn⟩ | ⟨go, N, hN, step⟩
    · have h7 := T.done X' eprog ew eK ecalm i [] s6 τ H6 (fun _ _ => False) I6 (fpok fr6) st6 stop
      rw [eA] at h7
      refine thn h7 fun r s7 ⟨hr, I7⟩ => ?_
      subst hr
      -- back to the frame around
      have un := I7.base
      rw [es0, eH0, efs, eex] at un
      have Iout : Inv X pins σ H6 s7 := I3.call' (ch := fp) (by rw [I7.os, es0]) un (by have := I7.hok; rw [eprog, ew] at this; exact this) I7.bare fun b hb => by
        obtain ⟨f0, f1, f2, f3, f4, f5⟩ := hf3 b hb
        exact ⟨f3, f1, f4, f5⟩
      refine hRR _ _ s7 H6 Iout ?_ ?_ ?_ ?_ ?_ ?_ qn
      · obtain ⟨m, hn, _⟩ := I7.loc
        rw [eloc] at hn
        exact ⟨m, hn⟩
      · have := I7.free
        rw [eloc] at this
        exact this
      · exact Nat.ne_of_gt I3.lt
      · exact I3.sz
      · intro x c e z
        obtain ⟨v, q⟩ := I3.cell x c e
        exact absurd q.lt (by rw [z]; exact Nat.lt_irrefl _)
      · intro p hp z
        exact absurd (Heap.lt_size (I3.pin p hp).1) (by rw [z]; exact Nat.lt_irrefl _)
    · have h6 := T.item X' eprog ew eK ecalm i [] s6 τ H6 (fun _ _ => False) I6 (fpok fr6) st6 go
      rw [eA] at h6
      refine thn h6 fun r s7 ⟨u, hr, h7⟩ => ?_
      subst hr
      refine thn h7 fun _ s8 ⟨x, H8, I8, r8, y8, st8, fr8⟩ => ?_
      have I8' := I8.pinned (fpok fr8) (T.obj _ _ st8)
      refine thn (A1 (pg_max _ s8 τ H8 x u _ I8' r8 (step x H8 y8))) fun _ s9 ⟨τ9, H9, I9, q9⟩ => ?_
      obtain ⟨tcc, hif, q9⟩ := q9
      refine thn (A1 (hif.run I9 q9)) fun ok s10 ⟨H10, I10, q10⟩ => ?_
      have again : ∀ {τ' : St} {H' : Hp} {s' : Shared}, Inv X' ([] ++ pinsAt fp s8.heap) τ' H' s' → N τ' H' → ∃ m, m < n ∧ ∃ i τ H', Inv X' [] τ H' s' ∧ tn i s'.heap ∧ (∀ b ∈ fp, H' b = none) ∧ W i m τ H' := fun {τ' H' s'} I' n' => by
        obtain ⟨m', hm, w'⟩ := hN τ' H' n'
        refine ⟨m', hm, i + 1, τ', H', I'.unpinned, T.keep _ _ _ st8 fun b hb o e => (I'.pin (b, o) (List.mem_append_right _ (List.mem_append_right _ (mem_pinsAt hb e)))).1, fun b hb => ?_, w'⟩
        obtain ⟨o, e, d⟩ := T.obj _ _ st8 b hb
        exact (I'.pin (b, o) (List.mem_append_right _ (List.mem_append_right _ (mem_pinsAt hb e)))).2.1
      cases ok with
      | false =>
        rw [if_neg Bool.false_ne_true] at q10 ⊢
        exact again I10 q10
      | true =>
        rw [if_pos rfl] at q10 ⊢
        refine thn (A1 (pe_max _ s10 τ9 H10 _ I10 q10)) fun y s11 ⟨yv, H11, I11, r11, ys, hp11, hz, n11⟩ => ?_
        refine thn (A1 (mt_append _ s11 τ9 H11 (.ref s.heap.objs.size) [yv] (.ref s.heap.objs.size) [y] (fun _ H' => N τ9 H') I11 rfl (.cons r11 .nil) ⟨_, ys, yv, rfl, rfl, hp11, hz, n11⟩)) fun _ s12 ⟨v12, H12, I12, _, n12⟩ => ?_
        exact again I12 n12
  exact codeAny_compStart_list (loop _ rfl) (T.self _ 0 _ _ _ st4 (loop _ rfl))
theorem pe_comp (hc : X.calm = true) (S : CompSc N' js scope X.env.scope X.N) (hi : PI X tg iter wi)
    (hs : ∀ x, foldedSetIterable iter X.env x = pure x := by intro _; rfl) : PE X (.ListComp elt [⟨tg, iter, ifs, 0⟩] scope pos) (tComp X N' js scope tg elt ifs wi) := by
  intro pins s σ H Q I h
  rw [eval_ListComp]
  have hcl : closureFor scope X.env = pure (clFrom X.env scope.names []) := closure_eq fun y hy e => by
    obtain ⟨c, hc⟩ := I.ok.has y.1 (S.free y hy e)
    rw [hc]; rfl
  refine wpAny_comprehension_free (use := none) rfl hs hcl S.kind S.names (thn (hi pins s σ H _ I h) fun v s1 h1 => thn h1 fun itv s2 h2 => ?_)
  obtain ⟨it, fp, tn, J, H2, e, I2, T, st2, f2, hW⟩ := h2
  subst e
  refine comp_block (R := Q) (RR := fun acc C => compPost (model X.prog X.w) X.A X.xe none (EP X pins σ Q) acc C) hc S I2 T st2 f2 hW ?_
  intro D C s' H' I' ⟨m, hn⟩ hC h1 h2 h3 h4 q
  refine ⟨m, hn, fun h' hsb => ⟨.ref D, H', ?_, rfl, q⟩⟩
  exact I'.turned (t' := s'.toks) (fun b o hb e => (hsb.2 b hb).trans e) hC (Ne.symm (Ne.symm h1)) (.inr h2) h3 h4
theorem ps_comp {i : Nat} {x : Str} {px spos : Pos} (hc : X.calm = true) (S : CompSc N' js scope X.env.scope X.N) (hi : PI X tg iter wi)
    (hN : X.N.Nodup) (hx : X.N[i]? = some x) (hl : Loc X.env.scope x)
    (hsw : swapsWith (.ListComp elt [⟨tg, iter, ifs, 0⟩] scope pos) (some (.Name x px)) spos.line X.env = pure true)
    (hf : X.fn x = true ∨ X.env.scope.names.lookup x = some .local := by first | exact .inl rfl | exact .inr rfl | assumption)
    (hs : ∀ x, foldedSetIterable iter X.env x = pure x := by intro _; rfl) : PS X (.Assign [.Name x px] (.ListComp elt [⟨tg, iter, ifs, 0⟩] scope pos) spos) (tAsg (tComp X N' js scope tg elt ifs wi) (gName i)) := by
  intro pins s σ H D I h
  rw [exec_Assign_Name_used _ _ _ _ hsw]
  refine wpAny_bind (wpAny_standAt (wpAny_bind ?_))
  show wpAny _ X.A (do let _ ← comprehension (.ListComp elt [⟨tg, iter, ifs, 0⟩] scope pos) scope X.env _ (newList []) false (eval iter X.env) (some (assign (.Name x px) X.env))) _ _ s
  have hcl : closureFor scope X.env = pure (clFrom X.env scope.names []) := closure_eq fun y hy e => by
    obtain ⟨c, hc⟩ := I.ok.has y.1 (S.free y hy e)
    rw [hc]; rfl
  refine wpAny_bind (wpAny_mono (wpAny_comprehension_free (use := some (assign (.Name x px) X.env)) (Q := fun _ s' => SP X pins D .next s') rfl hs hcl S.kind S.names
    (thn (hi pins s σ H _ I h) fun v s1 h1 => thn h1 fun itv s2 h2 => ?_)) (fun _ s' hq => wpAny_pure (wpAny_pure hq)) fun _ _ e => e)
  obtain ⟨it, fp, tn, J, H2, e, I2, T, st2, f2, hW⟩ := h2
  subst e
  refine comp_block (R := fun v H' => D.nx (σ.set i (some v)) H') (RR := fun acc C => compPost (model X.prog X.w) X.A X.xe (some (assign (.Name x px) X.env)) (fun _ s' => SP X pins D .next s') acc C) hc S I2 T st2 f2 hW ?_
  intro DD C s' H' I' ⟨m, hn⟩ hC h1 h2 h3 h4 q
  show wpAny _ X.A (assign (.Name x px) X.env (.ref DD)) _ _ s'
  refine wpAny_assign_Name (store_ok2 (v := .ref DD) I' hN hx hl rfl (fun s'' I'' ⟨a, hsb, ha⟩ => ?_) hf)
  have hCa : C ≠ a := by
    rcases ha with rfl | ha
    · exact h1
    · exact Ne.symm (h3 x a ha)
  refine ⟨m, hn.sameBut hsb hCa, fun h' hsb' => ⟨_, H', ?_, q⟩⟩
  exact I''.turned (t' := s''.toks) (fun b o hb e => (hsb'.2 b hb).trans e) hC h1 (.inr h2) h3 h4
end
end L2
set_option Elab.async false
set_option linter.all false
set_option maxRecDepth 100000
namespace DL
open PySem PySem.Spec PyProof.Rows L2
inductive D where
  | non | bl (b : Bool) | int (i : Int) | str (x : Str)
  | lst (xs : List D) | tup (xs : List D) | dic (kvs : List (Key × D)) | ins (c : Str) (fs : List (Str × D)) | err (c : Str)
instance : Inhabited D := ⟨.non⟩
abbrev CTab := Str → Option Addr
section
variable (K : PySem.W.Frag) (CT : CTab) (H : Hp)
mutual
def Rep : D → V → Prop
  | .non, v => v = .non
  | .bl b, v => v = .bl b
  | .int i, v => v = .int i
  | .str x, v => v = .str x
  | .lst ds, v => ∃ a vs, v = .ref a ∧ SqL K H a vs ∧ RepL ds vs
  | .tup ds, v => ∃ a vs, v = .ref a ∧ SqT K H a vs ∧ RepL ds vs
  | .dic kds, v => ∃ a kvs, v = .ref a ∧ Rd H a (.dK kvs) ∧ RepK kds kvs
  | .ins c fds, v => ∃ a C dx fs, v = .ref a ∧ CT c = some C ∧ H a = some (.ins C dx fs) ∧ RepF fds fs
  | .err c, v => ∃ a C, v = .ref a ∧ CT c = some C ∧ H a = some (exO a C)
def RepL : List D → List V → Prop
  | [], vs => vs = []
  | d :: ds, vs => ∃ v r, vs = v :: r ∧ Rep d v ∧ RepL ds r
def RepK : List (Key × D) → List (Key × V) → Prop
  | [], kvs => kvs = []
  | (k, d) :: ds, kvs => ∃ v r, kvs = (k, v) :: r ∧ Rep d v ∧ RepK ds r
def RepF : List (Str × D) → List (Str × V) → Prop
  | [], kvs => kvs = []
  | (k, d) :: ds, kvs => ∃ v r, kvs = (k, v) :: r ∧ Rep d v ∧ RepF ds r
end
end
section
variable {K : PySem.W.Frag} {CT : CTab} {H H' : Hp}
theorem Same.sqT {a : Addr} {xs : List V} (e : Same H H') (h : SqT K H a xs) : SqT K H' a xs := by
  rcases h with (h | ⟨o, h⟩) | h
  · exact .inl (.inl (e _ _ h))
  · exact .inl (.inr ⟨o, e _ _ h⟩)
  · exact .inr h
theorem Same.rd {a : Addr} {u : HO} (e : Same H H') (h : Rd H a u) : Rd H' a u := by
  rcases h with h | ⟨o, h⟩
  · exact .inl (e _ _ h)
  · exact .inr ⟨o, e _ _ h⟩
mutual
theorem Rep.mono (e : Same H H') : ∀ (d : D) (v : V), Rep K CT H d v → Rep K CT H' d v
  | .non, _, h => h
  | .bl _, _, h => h
  | .int _, _, h => h
  | .str _, _, h => h
  | .lst ds, _, ⟨a, vs, h1, h2, h3⟩ => ⟨a, vs, h1, e.seq h2, RepL.mono e ds vs h3⟩
  | .tup ds, _, ⟨a, vs, h1, h2, h3⟩ => ⟨a, vs, h1, Same.sqT e h2, RepL.mono e ds vs h3⟩
  | .dic ds, _, ⟨a, vs, h1, h2, h3⟩ => ⟨a, vs, h1, Same.rd e h2, RepK.mono e ds vs h3⟩
  | .ins c ds, _, ⟨a, C, dx, fs, h1, h2, h3, h4⟩ => ⟨a, C, dx, fs, h1, h2, e _ _ h3, RepF.mono e ds fs h4⟩
  | .err c, _, ⟨a, C, h1, h2, h3⟩ => ⟨a, C, h1, h2, e _ _ h3⟩
theorem RepL.mono (e : Same H H') : ∀ (ds : List D) (vs : List V), RepL K CT H ds vs → RepL K CT H' ds vs
  | [], _, h => h
  | d :: ds, _, ⟨v, r, h1, h2, h3⟩ => ⟨v, r, h1, Rep.mono e d v h2, RepL.mono e ds r h3⟩
theorem RepK.mono (e : Same H H') : ∀ (ds : List (Key × D)) (vs : List (Key × V)), RepK K CT H ds vs → RepK K CT H' ds vs
  | [], _, h => h
  | (k, d) :: ds, _, ⟨v, r, h1, h2, h3⟩ => ⟨v, r, h1, Rep.mono e d v h2, RepK.mono e ds r h3⟩
theorem RepF.mono (e : Same H H') : ∀ (ds : List (Str × D)) (vs : List (Str × V)), RepF K CT H ds vs → RepF K CT H' ds vs
  | [], _, h => h
  | (k, d) :: ds, _, ⟨v, r, h1, h2, h3⟩ => ⟨v, r, h1, Rep.mono e d v h2, RepF.mono e ds r h3⟩
end
theorem RepL.length : ∀ {ds : List D} {vs : List V}, RepL K CT H ds vs → ds.length = vs.length
  | [], _, h => by cases h; rfl
  | d :: ds, _, ⟨v, r, h1, h2, h3⟩ => by subst h1; simp [RepL.length h3]
theorem RepL.get : ∀ {ds : List D} {vs : List V} {i : Nat} {d : D}, RepL K CT H ds vs → ds[i]? = some d → ∃ v, vs[i]? = some v ∧ Rep K CT H d v
  | [], _, _, _, _, e => by simp at e
  | d :: ds, _, 0, _, ⟨v, r, h1, h2, h3⟩, e => by subst h1; simp at e; subst e; exact ⟨v, rfl, h2⟩
  | d :: ds, _, i + 1, x, ⟨v, r, h1, h2, h3⟩, e => by
    subst h1
    obtain ⟨u, a, b⟩ := RepL.get (i := i) (d := x) h3 (by simpa using e)
    exact ⟨u, by simpa using a, b⟩
theorem RepL.append : ∀ {ds es : List D} {vs us : List V}, RepL K CT H ds vs → RepL K CT H es us → RepL K CT H (ds ++ es) (vs ++ us)
  | [], _, _, _, h, k => by cases h; exact k
  | d :: ds, _, _, _, ⟨v, r, h1, h2, h3⟩, k => by subst h1; exact ⟨v, _, rfl, h2, RepL.append h3 k⟩
theorem RepL.take : ∀ (n : Nat) {ds : List D} {vs : List V}, RepL K CT H ds vs → RepL K CT H (ds.take n) (vs.take n)
  | 0, _, _, _ => by simp [RepL]
  | n + 1, [], _, h => by cases h; simp [RepL]
  | n + 1, d :: ds, _, ⟨v, r, h1, h2, h3⟩ => by subst h1; exact ⟨v, _, rfl, h2, RepL.take n h3⟩
theorem RepL.drop : ∀ (n : Nat) {ds : List D} {vs : List V}, RepL K CT H ds vs → RepL K CT H (ds.drop n) (vs.drop n)
  | 0, _, _, h => h
  | n + 1, [], _, h => by cases h; simp [RepL]
  | n + 1, d :: ds, _, ⟨v, r, h1, h2, h3⟩ => by subst h1; exact RepL.drop n h3
theorem RepL.set {d : D} {v : V} (q : Rep K CT H d v) : ∀ (i : Nat) {ds : List D} {vs : List V}, RepL K CT H ds vs → RepL K CT H (ds.set i d) (vs.set i v)
  | _, [], _, h => by cases h; simp [RepL]
  | 0, _ :: ds, _, ⟨w, r, h1, h2, h3⟩ => by subst h1; exact ⟨v, r, rfl, q, h3⟩
  | i + 1, e :: ds, _, ⟨w, r, h1, h2, h3⟩ => by subst h1; exact ⟨w, _, rfl, h2, RepL.set q i h3⟩
theorem RepL.reverse : ∀ {ds : List D} {vs : List V}, RepL K CT H ds vs → RepL K CT H ds.reverse vs.reverse
  | [], _, h => by cases h; simp [RepL]
  | d :: ds, _, ⟨v, r, h1, h2, h3⟩ => by
    subst h1
    rw [List.reverse_cons, List.reverse_cons]
    exact RepL.append (RepL.reverse h3) ⟨v, [], rfl, h2, rfl⟩
theorem RepL.rep {ds : List D} {vs : List V} (h : RepL K CT H ds vs) : ∀ k : Nat, RepL K CT H (List.replicate k ds).flatten (List.replicate k vs).flatten
  | 0 => rfl
  | k + 1 => by
    rw [List.replicate_succ, List.replicate_succ, List.flatten_cons, List.flatten_cons]
    exact h.append (h.rep k)
theorem RepL.one {d : D} {v : V} (h : Rep K CT H d v) : RepL K CT H [d] [v] := ⟨v, [], rfl, h, rfl⟩
theorem RepL.map_int : ∀ (ns : List Int), RepL K CT H (ns.map D.int) (ns.map V.int)
  | [] => rfl
  | n :: ns => ⟨_, _, rfl, rfl, RepL.map_int ns⟩
end
inductive Out (α : Type) where
  | ok (a : α) | exc (x : D) | stuck
namespace Out
def bind {α β : Type} : Out α → (α → Out β) → Out β
  | .ok a, f => f a
  | .exc x, _ => .exc x
  | .stuck, _ => .stuck
instance : Monad Out where
  pure := .ok
  bind := bind
def post {α : Type} (o : Out α) (k : α → Prop) (x : D → Prop) : Prop := match o with
  | .ok a => k a
  | .exc e => x e
  | .stuck => False
@[simp] theorem bind_ok {α β : Type} (a : α) (f : α → Out β) : (Out.ok a >>= f) = f a := rfl
@[simp] theorem bind_exc {α β : Type} (x : D) (f : α → Out β) : ((Out.exc x : Out α) >>= f) = .exc x := rfl
@[simp] theorem bind_stuck {α β : Type} (f : α → Out β) : ((Out.stuck : Out α) >>= f) = .stuck := rfl
@[simp] theorem bind_ok' {α β : Type} (a : α) (f : α → Out β) : (Out.ok a).bind f = f a := rfl
@[simp] theorem bind_exc' {α β : Type} (x : D) (f : α → Out β) : (Out.exc x : Out α).bind f = .exc x := rfl
@[simp] theorem bind_stuck' {α β : Type} (f : α → Out β) : (Out.stuck : Out α).bind f = .stuck := rfl
@[simp] theorem pure_eq {α : Type} (a : α) : (pure a : Out α) = .ok a := rfl
theorem post_bind {α β : Type} (o : Out α) (f : α → Out β) (k : β → Prop) (x : D → Prop) : (o >>= f).post k x ↔ o.post (fun a => (f a).post k x) x := by
  cases o <;> exact Iff.rfl
theorem post_mono {α : Type} {o : Out α} {k k' : α → Prop} {x : D → Prop} (h : o.post k x) (hk : ∀ a, k a → k' a) : o.post k' x := by
  cases o with
  | ok a => exact hk a h
  | exc e => exact h
  | stuck => exact h
end Out
end DL
set_option Elab.async false
set_option linter.all false
set_option maxRecDepth 100000
namespace DL
open PySem PySem.Spec PyProof.Rows L2
abbrev St := L2.St
inductive SM where
  | k | o | l | s
abbrev SD := List (Option (SM × D))
structure Dc where
  X : Cx
  CT : CTab
  G0 : Hp
  XD : D → Prop
  /-- what is lent -/
  B : Hp
  /-- what of the entry's objects may be written -/
  M : Addr → Prop
abbrev Dc.K (C : Dc) : PySem.W.Frag := C.X.K
abbrev Dc.R (C : Dc) (G : Hp) (d : D) (v : V) : Prop := Rep C.X.K C.CT G d v
def Own (K : PySem.W.Frag) (CT : CTab) (G H : Hp) (p : Addr) : D → Prop
  | .lst ds => ∃ vs, H p = some (.lst vs) ∧ RepL K CT G ds vs
  | .dic ds => ∃ kvs, H p = some (.dK kvs) ∧ RepK K CT G ds kvs
  | .ins c ds => ∃ A dx fs, CT c = some A ∧ H p = some (.ins A dx fs) ∧ RepF K CT G ds fs
  | _ => False
theorem Own.there {K : PySem.W.Frag} {CT : CTab} {G H : Hp} {p : Addr} : ∀ {d : D}, Own K CT G H p d → ∃ o, H p = some o
  | .lst _, ⟨_, h, _⟩ => ⟨_, h⟩
  | .dic _, ⟨_, h, _⟩ => ⟨_, h⟩
  | .ins _ _, ⟨_, _, _, _, h, _⟩ => ⟨_, h⟩
  | .non, h => h.elim
  | .bl _, h => h.elim
  | .int _, h => h.elim
  | .str _, h => h.elim
  | .tup _, h => h.elim
theorem Own.mono {K : PySem.W.Frag} {CT : CTab} {G G' H H' : Hp} {p : Addr} (g : Same G G') (h : ∀ o, H p = some o → H' p = some o) : ∀ {d : D}, Own K CT G H p d → Own K CT G' H' p d
  | .lst ds, ⟨vs, a, b⟩ => ⟨vs, h _ a, RepL.mono g ds vs b⟩
  | .dic ds, ⟨vs, a, b⟩ => ⟨vs, h _ a, RepK.mono g ds vs b⟩
  | .ins _ ds, ⟨A, dx, fs, e, a, b⟩ => ⟨A, dx, fs, e, h _ a, RepF.mono g ds fs b⟩
  | .non, h => h.elim
  | .bl _, h => h.elim
  | .int _, h => h.elim
  | .str _, h => h.elim
  | .tup _, h => h.elim
theorem Own.rep {K : PySem.W.Frag} {CT : CTab} {G H : Hp} {p : Addr} (g : Same G H) : ∀ {d : D}, Own K CT G H p d → Rep K CT H d (.ref p)
  | .lst ds, ⟨vs, a, b⟩ => ⟨p, vs, rfl, SqL.of a, RepL.mono g ds vs b⟩
  | .dic ds, ⟨vs, a, b⟩ => ⟨p, vs, rfl, Rd.of a, RepK.mono g ds vs b⟩
  | .ins _ ds, ⟨A, dx, fs, e, a, b⟩ => ⟨p, A, dx, fs, rfl, e, a, RepF.mono g ds fs b⟩
  | .non, h => h.elim
  | .bl _, h => h.elim
  | .int _, h => h.elim
  | .str _, h => h.elim
  | .tup _, h => h.elim
structure GH (C : Dc) (G H : Hp) : Prop where
  sub : Same G H
  g0 : Same C.G0 G
  new : ∀ b, C.G0 b = none → G b ≠ none → C.X.H₀ b = none
  fr : ∀ b o, C.X.H₀ b = some o → ¬ C.M b → H b = some o
  dom : ∀ b, H b = none → C.X.H₀ b = none
  bs : Same C.B H
  bh : ∀ b, C.X.H₀ b = none → C.B b = none
structure StR (C : Dc) (G H : Hp) (σ : St) (ς : SD) : Prop extends GH C G H where
  len : σ.length = ς.length
  fz : ∀ (i : Nat) d, ς[i]? = some (some (.k, d)) → ∃ v, σ[i]? = some (some v) ∧ Rep C.X.K C.CT G d v
  ow : ∀ (i : Nat) d, ς[i]? = some (some (.o, d)) → ∃ p, σ[i]? = some (some (.ref p)) ∧ G p = none ∧ C.X.H₀ p = none ∧ Own C.X.K C.CT G H p d
  ln : ∀ (i : Nat) d, ς[i]? = some (some (.l, d)) → ∃ v, σ[i]? = some (some v) ∧ Rep C.X.K C.CT C.B d v
  inj : ∀ (i j : Nat) d e p, i ≠ j → ς[i]? = some (some (.o, d)) → ς[j]? = some (some (.o, e)) → σ[i]? = some (some (.ref p)) → σ[j]? ≠ some (some (.ref p))
  sf : ∀ (i : Nat) d, ς[i]? = some (some (.s, d)) → ∃ p, σ[i]? = some (some (.ref p)) ∧ G p = none ∧ C.X.H₀ p ≠ none ∧ C.M p ∧ C.B p = none ∧ Own C.X.K C.CT G H p d
  su : ∀ (i j : Nat) d e, ς[i]? = some (some (.s, d)) → ς[j]? = some (some (.s, e)) → i = j
section
variable {C : Dc} {G G' H H' : Hp} {σ : St} {ς : SD}
theorem GH.gnone (S : GH C G H) {p : Addr} (h : H p = none) : G p = none := S.sub.free h
theorem GH.h0none (S : GH C G H) {p : Addr} (h : H p = none) : C.X.H₀ p = none := S.dom p h
theorem same_upd {H : Hp} {p : Addr} {o : HO} (h : H p = none) : Same H (upd H p o) := fun b u e => by
  rw [upd_ne (ne_of_none e h)]; exact e
theorem same_upd2 {G H : Hp} {p : Addr} {o : HO} (s : Same G H) : Same (upd G p o) (upd H p o) := fun b u e => by
  by_cases hb : b = p
  · subst hb; rw [upd_same] at e ⊢; exact e
  · rw [upd_ne hb] at e ⊢; exact s b u e
theorem GH.grow (S : GH C G H) (hH : Same H H') (hG : Same G G') (hs : Same G' H') (hn : ∀ b, G b = none → G' b ≠ none → H b = none) : GH C G' H' where
  sub := hs
  g0 := S.g0.trans hG
  new := fun b h0 h1 => by
    cases q : G b with
    | none => exact S.h0none (hn b q h1)
    | some o => exact S.new b h0 (by rw [q]; simp)
  fr := fun b o e m => hH b o (S.fr b o e m)
  dom := fun b e => S.dom b (hH.free e)
  bs := S.bs.trans hH
  bh := S.bh
theorem StR.own_ne (S : StR C G H σ ς) {i : Nat} {d : D} {p : Addr} (h : ς[i]? = some (some (.o, d))) (hp : σ[i]? = some (some (.ref p))) : ∃ o, H p = some o := by
  obtain ⟨q, e, _, _, o⟩ := S.ow i d h
  rw [hp] at e; cases e
  exact o.there
theorem StR.grow (S : StR C G H σ ς) (hH : Same H H') (hG : Same G G') (hs : Same G' H') (hn : ∀ b, G b = none → G' b ≠ none → H b = none) : StR C G' H' σ ς where
  toGH := S.toGH.grow hH hG hs hn
  len := S.len
  fz := fun i d e => let ⟨v, a, b⟩ := S.fz i d e; ⟨v, a, Rep.mono hG d v b⟩
  ow := fun i d e => by
    obtain ⟨p, a, b, c, o⟩ := S.ow i d e
    refine ⟨p, a, ?_, c, o.mono hG fun u q => hH _ _ q⟩
    cases q : G' p with
    | none => rfl
    | some u =>
      obtain ⟨w, hw⟩ := o.there
      have := hn p b (by rw [q]; simp)
      rw [hw] at this; cases this
  ln := S.ln
  inj := S.inj
  sf := fun i d e => by
    obtain ⟨p, a, b, c, m, z, o⟩ := S.sf i d e
    refine ⟨p, a, ?_, c, m, z, o.mono hG fun u q => hH _ _ q⟩
    cases q : G' p with
    | none => rfl
    | some u =>
      obtain ⟨w, hw⟩ := o.there
      have := hn p b (by rw [q]; simp)
      rw [hw] at this; cases this
  su := S.su
theorem StR.alloc (S : StR C G H σ ς) {p : Addr} {o : HO} (h : H p = none) : StR C (upd G p o) (upd H p o) σ ς :=
  S.grow (same_upd h) (same_upd (S.sub.free h)) (same_upd2 S.sub) fun b g n => by
    by_cases hb : b = p
    · subst hb; exact h
    · rw [upd_ne hb, g] at n; exact absurd rfl n
theorem StR.allocO (S : StR C G H σ ς) {p : Addr} {o : HO} (h : H p = none) : StR C G (upd H p o) σ ς :=
  S.grow (same_upd h) (Same.refl G) (S.sub.trans (same_upd h)) fun b g n => absurd g n
end
def KD (C : Dc) (G H : Hp) (σ : St) (ς : SD) (Q : VK) (d : D) : Prop := ∀ v H' G', StR C G' H' σ ς → Same H H' → Same G G' → Rep C.X.K C.CT G' d v → Q v H'
def KB (C : Dc) (G H : Hp) (σ : St) (ς : SD) (Q : VK) (d : D) : Prop := ∀ v H' G', StR C G' H' σ ς → Same H H' → Same G G' → Rep C.X.K C.CT H' d v → Q v H'
def KF (C : Dc) (G H : Hp) (σ : St) (ς : SD) (Q : VK) (d : D) : Prop := ∀ p H' G', StR C G' H' σ ς → Same H H' → Same G G' → H p = none → G' p = none → Own C.X.K C.CT G' H' p d → Q (.ref p) H'
def DE (C : Dc) (e : Expr) (E : SD → Out D) : Prop := ∃ t, PE C.X e t ∧ ∀ G H σ ς Q, StR C G H σ ς → (E ς).post (KD C G H σ ς Q) C.XD → t σ H Q
def DB (C : Dc) (e : Expr) (E : SD → Out D) : Prop := ∃ t, PE C.X e t ∧ ∀ G H σ ς Q, StR C G H σ ς → (E ς).post (KB C G H σ ς Q) C.XD → t σ H Q
def DF (C : Dc) (e : Expr) (E : SD → Out D) : Prop := ∃ t, PE C.X e t ∧ ∀ G H σ ς Q, StR C G H σ ς → (E ς).post (KF C G H σ ς Q) C.XD → t σ H Q
def KT (C : Dc) (G H : Hp) (σ : St) (ς : SD) (Q : Bool → Hp → Prop) (b : Bool) : Prop := ∀ H' G', StR C G' H' σ ς → Same H H' → Same G G' → Q b H'
def DT (C : Dc) (e : Expr) (T : SD → Out Bool) : Prop := ∃ t, PT C.X e t ∧ ∀ G H σ ς Q, StR C G H σ ς → (T ς).post (KT C G H σ ς Q) C.XD → t σ H Q
def DW (C : Dc) (e : Expr) (T : SD → Out Bool) : Prop := ∃ t, PW C.X e t ∧ ∀ G H σ ς Q, StR C G H σ ς → (T ς).post (KT C G H σ ς Q) C.XD → t σ H Q
def DA (C : Dc) (es : List Expr) (A : SD → Out (List D)) : Prop := ∃ t, PA C.X es t ∧ ∀ G H σ ς Q, StR C G H σ ς →
  (A ς).post (fun ds => ∀ vs H' G', StR C G' H' σ ς → Same H H' → Same G G' → RepL C.X.K C.CT G' ds vs → Q vs H') C.XD → t σ H Q
def DAB (C : Dc) (es : List Expr) (A : SD → Out (List D)) : Prop := ∃ t, PA C.X es t ∧ ∀ G H σ ς Q, StR C G H σ ς →
  (A ς).post (fun ds => ∀ vs H' G', StR C G' H' σ ς → Same H H' → Same G G' → RepL C.X.K C.CT H' ds vs → Q vs H') C.XD → t σ H Q
inductive Fl where
  | nx (ς : SD) | rt (fr : Bool) (d : D) | bk (ς : SD) | ct (ς : SD)
def RetR (K : PySem.W.Frag) (CT : CTab) (fr : Bool) (H0 G' H' : Hp) (d : D) (v : V) : Prop :=
  if fr = true then ∃ p, v = .ref p ∧ H0 p = none ∧ G' p = none ∧ Own K CT G' H' p d else Rep K CT G' d v
def FlK (C : Dc) (G : Hp) (W : Ends) : Fl → Prop
  | .nx ς' => ∀ σ' H' G', StR C G' H' σ' ς' → Same G G' → W.nx σ' H'
  | .bk ς' => ∀ σ' H' G', StR C G' H' σ' ς' → Same G G' → W.bk σ' H'
  | .ct ς' => ∀ σ' H' G', StR C G' H' σ' ς' → Same G G' → W.ct σ' H'
  | .rt fr d => ∀ v H' G', GH C G' H' → Same G G' → RetR C.X.K C.CT fr C.X.H₀ G' H' d v → W.rt v H'
def DS (C : Dc) (st : Stmt) (T : SD → Out Fl) : Prop := ∃ t, PS C.X st t ∧ ∀ G H σ ς W, StR C G H σ ς → (T ς).post (FlK C G W) C.XD → t W σ H
def DSs (C : Dc) (st : List Stmt) (T : SD → Out Fl) : Prop := ∃ t, PSs C.X st t ∧ ∀ G H σ ς W, StR C G H σ ς → (T ς).post (FlK C G W) C.XD → t W σ H
section
variable {C : Dc} {e : Expr} {E : SD → Out D}
theorem StR.freeze {G H : Hp} {σ : St} {ς : SD} (S : StR C G H σ ς) {p : Addr} {o : HO} (hp : H p = some o) (hg : G p = none) (h0 : C.X.H₀ p = none) (hn : ∀ (i : Nat) d, ς[i]? = some (some (.o, d)) → σ[i]? ≠ some (some (.ref p))) : StR C (upd G p o) H σ ς where
  sub := fun b u q => by
    by_cases hb : b = p
    · subst hb; rw [upd_same] at q; cases q; exact hp
    · rw [upd_ne hb] at q; exact S.sub b u q
  g0 := S.g0.trans (same_upd hg)
  new := fun b h1 h2 => by
    by_cases hb : b = p
    · subst hb; exact h0
    · rw [upd_ne hb] at h2; exact S.new b h1 h2
  fr := S.fr
  dom := S.dom
  bs := S.bs
  bh := S.bh
  len := S.len
  fz := fun i d q => let ⟨v, a, b⟩ := S.fz i d q; ⟨v, a, Rep.mono (same_upd hg) d v b⟩
  ow := fun i d q => by
    obtain ⟨r, a, b, c, w⟩ := S.ow i d q
    refine ⟨r, a, ?_, c, w.mono (same_upd hg) fun _ z => z⟩
    rw [upd_ne (by rintro rfl; exact hn i d q a)]; exact b
  ln := S.ln
  inj := S.inj
  sf := fun i d q => by
    obtain ⟨r, a, b, c, m, z, w⟩ := S.sf i d q
    refine ⟨r, a, ?_, c, m, z, w.mono (same_upd hg) fun _ z => z⟩
    rw [upd_ne (by rintro rfl; exact c h0)]; exact b
  su := S.su
theorem Own.known {K : PySem.W.Frag} {CT : CTab} {G H : Hp} {p : Addr} {o : HO} (hg : G p = none) (hp : H p = some o) : ∀ {d : D}, Own K CT G H p d → Rep K CT (upd G p o) d (.ref p)
  | .lst ds, ⟨vs, a, b⟩ => by rw [hp] at a; cases a; exact ⟨p, vs, rfl, SqL.of upd_same, RepL.mono (same_upd hg) ds vs b⟩
  | .dic ds, ⟨vs, a, b⟩ => by rw [hp] at a; cases a; exact ⟨p, vs, rfl, Rd.of upd_same, RepK.mono (same_upd hg) ds vs b⟩
  | .ins _ ds, ⟨A, dx, fs, e, a, b⟩ => by rw [hp] at a; cases a; exact ⟨p, A, dx, fs, rfl, e, upd_same, RepF.mono (same_upd hg) ds fs b⟩
  | .non, h => h.elim
  | .bl _, h => h.elim
  | .int _, h => h.elim
  | .str _, h => h.elim
  | .tup _, h => h.elim
theorem StR.new_ne {G H : Hp} {σ : St} {ς : SD} (S : StR C G H σ ς) {p : Addr} (h : H p = none) : ∀ (i : Nat) d, ς[i]? = some (some (.o, d)) → σ[i]? ≠ some (some (.ref p)) := fun i d q z => by
  obtain ⟨o, w⟩ := S.own_ne q z
  rw [h] at w; cases w
theorem KD.ofF {G H : Hp} {σ : St} {ς : SD} {Q : VK} {d : D} (S : StR C G H σ ς) (k : KD C G H σ ς Q d) : KF C G H σ ς Q d := fun p H' G' S' hH hG hp hg ow => by
  obtain ⟨o, ho⟩ := ow.there
  exact k _ _ _ (S'.freeze ho hg (S.h0none hp) (S.new_ne hp)) hH (hG.trans (same_upd hg)) (ow.known hg ho)
theorem DF.de (h : DF C e E) : DE C e E := by
  obtain ⟨t, h1, h2⟩ := h
  refine ⟨t, h1, fun G H σ ς Q S q => h2 G H σ ς Q S (Out.post_mono q fun d k => KD.ofF S k)⟩
theorem DE.db (h : DE C e E) : DB C e E := by
  obtain ⟨t, h1, h2⟩ := h
  refine ⟨t, h1, fun G H σ ς Q S q => h2 G H σ ς Q S (Out.post_mono q fun d k v H' G' S' a b r => k v H' G' S' a b (Rep.mono S'.sub d v r))⟩
theorem DF.db (h : DF C e E) : DB C e E := h.de.db
def D.scal : D → Bool
  | .non => true
  | .bl _ => true
  | .int _ => true
  | .str _ => true
  | _ => false
theorem Rep.scal {K : PySem.W.Frag} {CT : CTab} {G H : Hp} : ∀ {d : D} {v : V}, d.scal = true → Rep K CT H d v → Rep K CT G d v
  | .non, _, _, h => h
  | .bl _, _, _, h => h
  | .int _, _, _, h => h
  | .str _, _, _, h => h
def scalar (o : Out D) : Out D := o >>= fun d => if d.scal = true then .ok d else .stuck
theorem DB.de (h : DB C e E) : DE C e (fun ς => scalar (E ς)) := by
  obtain ⟨t, h1, h2⟩ := h
  refine ⟨t, h1, fun G H σ ς Q S q => h2 G H σ ς Q S ?_⟩
  unfold scalar at q
  rw [Out.post_bind] at q
  refine Out.post_mono q fun d k v H' G' S' a b r => ?_
  by_cases hs : d.scal = true
  · rw [if_pos hs] at k
    exact k v H' G' S' a b (r.scal hs)
  · rw [if_neg hs] at k
    exact k.elim
theorem KD.now {G H : Hp} {σ : St} {ς : SD} {Q : VK} {d : D} {v : V} (k : KD C G H σ ς Q d) (S : StR C G H σ ς) (r : Rep C.X.K C.CT G d v) : Q v H := k v H G S (Same.refl H) (Same.refl G) r
theorem KB.now {G H : Hp} {σ : St} {ς : SD} {Q : VK} {d : D} {v : V} (k : KB C G H σ ς Q d) (S : StR C G H σ ς) (r : Rep C.X.K C.CT H d v) : Q v H := k v H G S (Same.refl H) (Same.refl G) r
theorem KT.now {G H : Hp} {σ : St} {ς : SD} {Q : Bool → Hp → Prop} {b : Bool} (k : KT C G H σ ς Q b) (S : StR C G H σ ς) : Q b H := k H G S (Same.refl H) (Same.refl G)
theorem KD.later {G H G1 H1 : Hp} {σ : St} {ς : SD} {Q : VK} {d : D} (k : KD C G H σ ς Q d) (hH : Same H H1) (hG : Same G G1) : KD C G1 H1 σ ς Q d := fun v H' G' S a b r => k v H' G' S (hH.trans a) (hG.trans b) r
theorem KB.later {G H G1 H1 : Hp} {σ : St} {ς : SD} {Q : VK} {d : D} (k : KB C G H σ ς Q d) (hH : Same H H1) (hG : Same G G1) : KB C G1 H1 σ ς Q d := fun v H' G' S a b r => k v H' G' S (hH.trans a) (hG.trans b) r
theorem KT.later {G H G1 H1 : Hp} {σ : St} {ς : SD} {Q : Bool → Hp → Prop} {d : Bool} (k : KT C G H σ ς Q d) (hH : Same H H1) (hG : Same G G1) : KT C G1 H1 σ ς Q d := fun H' G' S a b => k H' G' S (hH.trans a) (hG.trans b)
theorem KF.later {G H G1 H1 : Hp} {σ : St} {ς : SD} {Q : VK} {d : D} (k : KF C G H σ ς Q d) (hH : Same H H1) (hG : Same G G1) : KF C G1 H1 σ ς Q d := fun p H' G' S a b hp hg ow => k p H' G' S (hH.trans a) (hG.trans b) (hH.free hp) hg ow
theorem KF.lst {G H : Hp} {σ : St} {ς : SD} {Q : VK} {ds : List D} {vs : List V} (k : KF C G H σ ς Q (.lst ds)) (S : StR C G H σ ς) (r : RepL C.X.K C.CT G ds vs) : ∀ p, H p = none → Q (.ref p) (upd H p (.lst vs)) := fun p hp =>
  k p _ G (S.allocO hp) (same_upd hp) (Same.refl G) hp (S.gnone hp) ⟨vs, upd_same, r⟩
theorem KD.lst {G H : Hp} {σ : St} {ς : SD} {Q : VK} {ds : List D} {vs : List V} (k : KD C G H σ ς Q (.lst ds)) (S : StR C G H σ ς) (r : RepL C.X.K C.CT G ds vs) : ∀ p, H p = none → Q (.ref p) (upd H p (.lst vs)) := fun p hp =>
  k _ _ _ (S.alloc hp) (same_upd hp) (same_upd (S.gnone hp)) ⟨p, vs, rfl, SqL.of upd_same, RepL.mono (same_upd (S.gnone hp)) ds vs r⟩
theorem KD.tup {G H : Hp} {σ : St} {ς : SD} {Q : VK} {ds : List D} {vs : List V} (k : KD C G H σ ς Q (.tup ds)) (S : StR C G H σ ς) (r : RepL C.X.K C.CT G ds vs) : ∀ p, H p = none → Q (.ref p) (upd H p (.tup vs)) := fun p hp =>
  k _ _ _ (S.alloc hp) (same_upd hp) (same_upd (S.gnone hp)) ⟨p, vs, rfl, SqT.of upd_same, RepL.mono (same_upd (S.gnone hp)) ds vs r⟩
end
end DL
set_option Elab.async false
set_option linter.all false
set_option maxRecDepth 100000
namespace DL
open PySem PySem.Spec PyProof.Rows L2
def eVar (i : Nat) : SD → Out D := fun ς => match ς[i]? with | some (some (.k, d)) => .ok d | _ => .stuck
def eVarB (i : Nat) : SD → Out D := fun ς => match ς[i]? with | some (some (_, d)) => .ok d | _ => .stuck
def eC (d : D) : SD → Out D := fun _ => .ok d
section
variable {C : Dc} {pos : Pos}
theorem post_var {i : Nat} {ς : SD} {k : D → Prop} {x : D → Prop} (h : (eVar i ς).post k x) : ∃ d, ς[i]? = some (some (.k, d)) ∧ k d := by
  unfold eVar at h
  split at h
  · rename_i d e; exact ⟨d, e, h⟩
  · exact h.elim
theorem post_varB {i : Nat} {ς : SD} {k : D → Prop} {x : D → Prop} (h : (eVarB i ς).post k x) : ∃ b d, ς[i]? = some (some (b, d)) ∧ k d := by
  unfold eVarB at h
  split at h
  · rename_i b d e; exact ⟨b, d, e, h⟩
  · exact h.elim
theorem de_var (i : Nat) {x : Str} (hN : C.X.N[i]? = some x := by rfl) (hv : Vis C.X.env.scope x := by first | exact Or.inl rfl | exact Or.inr (Or.inl rfl) | exact Or.inr (Or.inr rfl))
    (hd : (x == ("__debug__" : Str)) = false := by decide) (hcd : (x == ("__classdict__" : Str)) = false := by decide) : DE C (.Name x pos) (eVar i) := by
  refine ⟨_, pe_var (i := i) hN hv hd hcd, fun G H σ ς Q S q => ?_⟩
  obtain ⟨d, e, k⟩ := post_var q
  obtain ⟨v, a, b⟩ := S.fz i d e
  exact ⟨v, a, k.now S b⟩
theorem db_var (i : Nat) {x : Str} (hN : C.X.N[i]? = some x := by rfl) (hv : Vis C.X.env.scope x := by first | exact Or.inl rfl | exact Or.inr (Or.inl rfl) | exact Or.inr (Or.inr rfl))
    (hd : (x == ("__debug__" : Str)) = false := by decide) (hcd : (x == ("__classdict__" : Str)) = false := by decide) : DB C (.Name x pos) (eVarB i) := by
  refine ⟨_, pe_var (i := i) hN hv hd hcd, fun G H σ ς Q S q => ?_⟩
  obtain ⟨b, d, e, k⟩ := post_varB q
  cases b with
  | k =>
    obtain ⟨v, a, b⟩ := S.fz i d e
    exact ⟨v, a, k.now S (Rep.mono S.sub d v b)⟩
  | o =>
    obtain ⟨p, a, b, c, w⟩ := S.ow i d e
    exact ⟨_, a, k.now S (w.rep S.sub)⟩
  | l =>
    obtain ⟨v, a, b⟩ := S.ln i d e
    exact ⟨v, a, k.now S (Rep.mono S.bs d v b)⟩
  | s =>
    obtain ⟨p, a, b, c, m, z, w⟩ := S.sf i d e
    exact ⟨_, a, k.now S (w.rep S.sub)⟩
theorem de_int {i : Int} {j} : DE C (.Constant (.int i) j pos) (eC (.int i)) := ⟨_, pe_int, fun G H σ ς Q S q => KD.now q S rfl⟩
theorem de_bl {b : Bool} {j} : DE C (.Constant (.bool b) j pos) (eC (.bl b)) := ⟨_, pe_bl, fun G H σ ς Q S q => KD.now q S rfl⟩
theorem de_str {x : Str} {j} : DE C (.Constant (.str x) j pos) (eC (.str x)) := ⟨_, pe_str, fun G H σ ς Q S q => KD.now q S rfl⟩
def toV : D → V
  | .bl b => .bl b
  | .int i => .int i
  | .str x => .str x
  | _ => .non
theorem toV_rep {K : PySem.W.Frag} {CT : CTab} {H : Hp} : ∀ {d : D}, d.scal = true → Rep K CT H d (toV d)
  | .non, _ => rfl
  | .bl _, _ => rfl
  | .int _, _ => rfl
  | .str _, _ => rfl
end
def e1 (f : D → Out D) (a : SD → Out D) : SD → Out D := fun ς => a ς >>= f
def e2 (f : D → D → Out D) (a b : SD → Out D) : SD → Out D := fun ς => a ς >>= fun x => b ς >>= fun y => f x y
def DRS (C : Dc) (r : R2) (f : D → D → Out D) : Prop := ∀ G H σ ς (Q : VK) x y vx vy, StR C G H σ ς → Rep C.X.K C.CT H x vx → Rep C.X.K C.CT H y vy →
  (f x y).post (fun d => d.scal = true ∧ Q (toV d) H) (fun _ => False) → r vx vy H Q
def scal2 (f : D → D → Out D) : Prop := ∀ x y, match f x y with | .ok d => d.scal = true | .exc _ => False | .stuck => True
section
variable {C : Dc} {a b c : Expr} {A B A' : SD → Out D} {pos : Pos}
theorem post_of_scal {o : Out D} {G H : Hp} {σ : St} {ς : SD} {Q : VK} (S : StR C G H σ ς) (hs : match o with | .ok d => d.scal = true | .exc _ => False | .stuck => True) (q : o.post (KD C G H σ ς Q) C.XD) :
    o.post (fun d => d.scal = true ∧ Q (toV d) H) (fun _ => False) := by
  cases o with
  | ok d => exact ⟨hs, KD.now q S (toV_rep hs)⟩
  | exc _ => exact hs
  | stuck => exact q
theorem dop {t : TE} {r : R2} {f : D → D → Out D} {ta tb : TE} (hr : DRS C r f) (hs : scal2 f)
    (h1 : ∀ G H σ ς Q, StR C G H σ ς → (A ς).post (KB C G H σ ς Q) C.XD → ta σ H Q) (h2 : ∀ G H σ ς Q, StR C G H σ ς → (B ς).post (KB C G H σ ς Q) C.XD → tb σ H Q) :
    ∀ G H σ ς Q, StR C G H σ ς → (e2 f A B ς).post (KD C G H σ ς Q) C.XD → tOp r ta tb σ H Q := by
  intro G H σ ς Q S q
  unfold e2 at q
  rw [Out.post_bind] at q
  refine h1 G H σ ς _ S (Out.post_mono q fun x k v1 H1 G1 S1 a1 b1 r1 => ?_)
  rw [Out.post_bind] at k
  refine h2 G1 H1 σ ς _ S1 (Out.post_mono k fun y k2 v2 H2 G2 S2 a2 b2 r2 => ?_)
  refine hr G2 H2 σ ς _ x y v1 v2 S2 (Rep.mono a2 x v1 r1) r2 (post_of_scal S2 (hs x y) ?_)
  exact Out.post_mono k2 fun d kd => KD.later kd (a1.trans a2) (b1.trans b2)
theorem de_op {op : Operator} {r : R2} {f : D → D → Out D} (ho : OpR C.X (binaryOp op) r) (hr : DRS C r f) (hs : scal2 f) (ha : DB C a A) (hb : DB C b B) : DE C (.BinOp a op b pos) (e2 f A B) := by
  obtain ⟨ta, p1, q1⟩ := ha
  obtain ⟨tb, p2, q2⟩ := hb
  exact ⟨_, pe_op ho p1 p2, dop (t := ta) hr hs q1 q2⟩
def tVal (a : SD → Out D) : SD → Out Bool := fun ς => a ς >>= fun d => match d with | .bl b => .ok b | _ => .stuck
theorem post_tVal {o : Out D} {G H : Hp} {σ : St} {ς : SD} {Q : Bool → Hp → Prop} (q : (o >>= fun d => match d with | .bl b => Out.ok b | _ => .stuck).post (KT C G H σ ς Q) C.XD) :
    o.post (KD C G H σ ς fun x H' => ∃ k, x = .bl k ∧ Q k H') C.XD := by
  rw [Out.post_bind] at q
  refine Out.post_mono q fun d k v H' G' S' a b r => ?_
  cases d with
  | bl c => exact ⟨c, r, k H' G' S' a b⟩
  | _ => exact k.elim
theorem dt_cmp {op : CmpOp} {r : R2} {f : D → D → Out D} (ho : OpR C.X (compareOp op) r) (hr : DRS C r f) (hs : scal2 f) (ha : DB C a A) (hb : DB C b B) (hm : behindInMarks op b = false) : DT C (.Compare a [op] [b] pos) (tVal (e2 f A B)) := by
  obtain ⟨ta, p1, q1⟩ := ha
  obtain ⟨tb, p2, q2⟩ := hb
  exact ⟨_, pt_cmpR ho p1 p2 hm, fun G H σ ς Q S q => dop (t := ta) hr hs q1 q2 G H σ ς _ S (post_tVal q)⟩
theorem dt_val (h : DE C a A) (he : ∀ whole, isTrue a C.X.env whole = (do let v ← whole; standAt a.pos; holding [v] (truthy v)) := by intro _; rfl) : DT C a (tVal A) := by
  obtain ⟨ta, p1, q1⟩ := h
  exact ⟨_, pt_val p1 he, fun G H σ ς Q S q => q1 G H σ ς _ S (post_tVal q)⟩
def eChain (f g : D → D → Out D) (a b c : SD → Out D) : SD → Out D := fun ς => a ς >>= fun x => b ς >>= fun y => f x y >>= fun z => match z with
  | .bl true => c ς >>= fun w => g y w
  | .bl false => .ok (.bl false)
  | _ => .stuck
end
section
variable {C : Dc}
def dI (cnd : Int → Int → Bool) (g : Int → Int → D) : D → D → Out D
  | .int i, .int j => if cnd i j = true then .ok (g i j) else .stuck
  | _, _ => .stuck
def dI0 (g : Int → Int → D) : D → D → Out D
  | .int i, .int j => .ok (g i j)
  | _, _ => .stuck
theorem post_ite {α : Type} {c : Prop} [Decidable c] {a b : Out α} {k : α → Prop} {x : D → Prop} (h : (if c then a else b).post k x) : (c ∧ a.post k x) ∨ (¬ c ∧ b.post k x) := by
  by_cases e : c
  · rw [if_pos e] at h; exact .inl ⟨e, h⟩
  · rw [if_neg e] at h; exact .inr ⟨e, h⟩
theorem scal_ite {c : Prop} [Decidable c] {d : D} (h : d.scal = true) : match (if c then Out.ok d else Out.stuck : Out D) with | .ok d => d.scal = true | .exc _ => False | .stuck => True := by
  by_cases e : c
  · rw [if_pos e]; exact h
  · rw [if_neg e]; exact True.intro
theorem scal_dI {cnd : Int → Int → Bool} {g : Int → Int → D} (h : ∀ i j, (g i j).scal = true) : scal2 (dI cnd g) := by
  intro x y
  cases x with
  | int i =>
    cases y with
    | int j => exact scal_ite (h i j)
    | _ => exact True.intro
  | _ => exact True.intro
theorem scal_dI0 {g : Int → Int → D} (h : ∀ i j, (g i j).scal = true) : scal2 (dI0 g) := by
  intro x y
  cases x <;> cases y <;> simp [dI0, h]
theorem drs_dI {cnd : Int → Int → Bool} {P : Int → Int → Prop} {g : Int → Int → D} (hP : ∀ i j, cnd i j = true → P i j) : DRS C (rI P fun i j => toV (g i j)) (dI cnd g) := by
  intro G H σ ς Q x y vx vy S hx hy q
  cases x with
  | int i =>
    cases y with
    | int j =>
      cases hx; cases hy
      refine ⟨i, j, rfl, rfl, ?_⟩
      rcases post_ite (show (if cnd i j = true then Out.ok (g i j) else Out.stuck).post _ _ from q) with ⟨hc, q⟩ | ⟨hc, q⟩
      · exact ⟨hP i j hc, q.2⟩
      · exact q.elim
    | _ => exact q.elim
  | _ => exact q.elim
theorem drs_dI0 {g : Int → Int → D} : DRS C (rI0 fun i j => toV (g i j)) (dI0 g) := by
  intro G H σ ς Q x y vx vy S hx hy q
  cases x with
  | int i =>
    cases y with
    | int j =>
      cases hx; cases hy
      exact ⟨i, j, rfl, rfl, q.2⟩
    | _ => exact q.elim
  | _ => exact q.elim
variable {a b c : Expr} {A B : SD → Out D} {pos : Pos}
def dSub : D → D → Out D := dI0 fun i j => .int (i - j)
def big (i : Int) : Bool := decide (i.natAbs < 2 ^ 9000)
def dMul : D → D → Out D := dI (fun i j => decide (Builtin.Int.intBits i + Builtin.Int.intBits j ≤ 134217728)) fun i j => .int (i * j)
def dFdiv : D → D → Out D := dI (fun i j => decide (j ≠ 0) && big j) fun i j => .int (i.fdiv j)
def dMod : D → D → Out D := dI (fun i j => decide (j ≠ 0)) fun i j => .int (i.fmod j)
theorem big_bits {i : Int} (h : big i = true) : i.natAbs.log2 < 9000 := by
  have h' : i.natAbs < 2 ^ 9000 := of_decide_eq_true h
  by_cases z : i.natAbs = 0
  · rw [z]; decide
  · exact (Nat.log2_lt z).mpr h'
theorem op_mulB {X : Cx} : OpR X (binaryOp .Mult) (rI IntMulOk fun i j => .int (i * j)) := opI fun _ _ _ _ _ _ _ hc q => mul_int q hc
def CDivB (i j : Int) : Prop := j ≠ 0 ∧ j.natAbs.log2 < 9000
theorem op_fdivB {X : Cx} : OpR X (binaryOp .FloorDiv) (rI CDivB fun i j => .int (i.fdiv j)) := opI fun _ _ _ _ _ _ _ hc q => floordiv_int hc.1 q (.inl (PyProof.noPylong_of_log2 hc.2))
theorem de_sub (ha : DB C a A) (hb : DB C b B) : DE C (.BinOp a .Sub b pos) (e2 dSub A B) := de_op op_sub drs_dI0 (scal_dI0 fun _ _ => rfl) ha hb
theorem de_mul (ha : DB C a A) (hb : DB C b B) : DE C (.BinOp a .Mult b pos) (e2 dMul A B) := de_op op_mulB (drs_dI fun i j h => IntMulOk.of_le (Nat.le_refl _) (Nat.le_refl _) (of_decide_eq_true h)) (scal_dI fun _ _ => rfl) ha hb
theorem de_fdiv (ha : DB C a A) (hb : DB C b B) : DE C (.BinOp a .FloorDiv b pos) (e2 dFdiv A B) := de_op op_fdivB (drs_dI fun i j h => by
  rw [Bool.and_eq_true] at h
  exact ⟨of_decide_eq_true h.1, big_bits h.2⟩) (scal_dI fun _ _ => rfl) ha hb
theorem de_mod (ha : DB C a A) (hb : DB C b B) : DE C (.BinOp a .Mod b pos) (e2 dMod A B) := de_op op_modN (drs_dI fun i j h => of_decide_eq_true h) (scal_dI fun _ _ => rfl) ha hb
def dAdd : D → D → Out D
  | .int i, .int j => .ok (.int (i + j))
  | .str x, .str y => if x.length + y.length ≤ sizeLine then .ok (.str (x ++ y)) else .stuck
  | _, _ => .stuck
theorem de_add (ha : DB C a A) (hb : DB C b B) : DE C (.BinOp a .Add b pos) (e2 dAdd A B) := by
  refine de_op (op_add.or op_add_str) ?_ ?_ ha hb
  · intro G H σ ς Q x y vx vy S hx hy q
    cases x with
    | int i =>
      cases y with
      | int j =>
        cases hx; cases hy
        exact .inl ⟨i, j, rfl, rfl, q.2⟩
      | _ => exact q.elim
    | str i =>
      cases y with
      | str j =>
        cases hx; cases hy
        rcases post_ite (show (if i.length + j.length ≤ sizeLine then Out.ok (D.str (i ++ j)) else Out.stuck).post _ _ from q) with ⟨hc, q⟩ | ⟨hc, q⟩
        · exact .inr ⟨i, j, rfl, rfl, hc, q.2⟩
        · exact q.elim
      | _ => exact q.elim
    | _ => exact q.elim
  · intro x y
    cases x with
    | int i =>
      cases y with
      | int j => exact rfl
      | _ => exact True.intro
    | str i =>
      cases y with
      | str j => exact scal_ite rfl
      | _ => exact True.intro
    | _ => exact True.intro
def dLt : D → D → Out D := dI0 fun i j => .bl (decide (i < j))
def dLe : D → D → Out D := dI0 fun i j => .bl (decide (i ≤ j))
def dGt : D → D → Out D := dI0 fun i j => .bl (decide (j < i))
def dGe : D → D → Out D := dI0 fun i j => .bl (decide (j ≤ i))
end
section
variable {C : Dc} {a b c : Expr} {A B : SD → Out D} {pos : Pos}
def dNeg : D → Out D
  | .int i => .ok (.int (-i))
  | _ => .stuck
theorem de_neg (ha : DB C a A) : DE C (.UnaryOp .USub a pos) (e1 dNeg A) := by
  obtain ⟨ta, p1, q1⟩ := ha
  refine ⟨_, pe_un un_neg p1, fun G H σ ς Q S q => ?_⟩
  unfold e1 at q
  rw [Out.post_bind] at q
  refine q1 G H σ ς _ S (Out.post_mono q fun x k v1 H1 G1 S1 a1 b1 r1 => ?_)
  cases x with
  | int i => cases r1; exact ⟨i, rfl, KD.now (KD.later k a1 b1) S1 rfl⟩
  | _ => exact k.elim
variable {TA TB : SD → Out Bool} {rest : List Expr}
def tAnd' (a b : SD → Out Bool) : SD → Out Bool := fun ς => a ς >>= fun c => if c = true then b ς else .ok false
def tOr' (a b : SD → Out Bool) : SD → Out Bool := fun ς => a ς >>= fun c => if c = true then .ok true else b ς
def tNot' (a : SD → Out Bool) : SD → Out Bool := fun ς => a ς >>= fun c => .ok (!c)
theorem DW.dt {e : Expr} {T : SD → Out Bool} (h : DW C e T) : DT C e T := let ⟨t, p, q⟩ := h; ⟨t, p.pt, q⟩
theorem dw_and1 (ha : DT C a TA) : DW C (.BoolOp .And [a] pos) TA := let ⟨t, p, q⟩ := ha; ⟨t, pw_and1 p, q⟩
theorem dw_or1 (ha : DT C a TA) : DW C (.BoolOp .Or [a] pos) TA := let ⟨t, p, q⟩ := ha; ⟨t, pw_or1 p, q⟩
theorem dw_and (ha : DT C a TA) (hb : DW C (.BoolOp .And (b :: rest) pos) TB) : DW C (.BoolOp .And (a :: b :: rest) pos) (tAnd' TA TB) := by
  obtain ⟨t1, p1, q1⟩ := ha
  obtain ⟨t2, p2, q2⟩ := hb
  refine ⟨_, pw_and p1 p2, fun G H σ ς Q S q => ?_⟩
  unfold tAnd' at q
  rw [Out.post_bind] at q
  refine q1 G H σ ς _ S (Out.post_mono q fun x k H1 G1 S1 a1 b1 => ?_)
  cases x with
  | true => exact iteT (q2 G1 H1 σ ς _ S1 (Out.post_mono (show (TB ς).post _ _ from k) fun x k => KT.later k a1 b1))
  | false => exact iteF (KT.now (KT.later (show KT C G H σ ς Q false from k) a1 b1) S1)
theorem dw_or (ha : DT C a TA) (hb : DW C (.BoolOp .Or (b :: rest) pos) TB) : DW C (.BoolOp .Or (a :: b :: rest) pos) (tOr' TA TB) := by
  obtain ⟨t1, p1, q1⟩ := ha
  obtain ⟨t2, p2, q2⟩ := hb
  refine ⟨_, pw_or p1 p2, fun G H σ ς Q S q => ?_⟩
  unfold tOr' at q
  rw [Out.post_bind] at q
  refine q1 G H σ ς _ S (Out.post_mono q fun x k H1 G1 S1 a1 b1 => ?_)
  cases x with
  | true => exact iteT (KT.now (KT.later (show KT C G H σ ς Q true from k) a1 b1) S1)
  | false => exact iteF (q2 G1 H1 σ ς _ S1 (Out.post_mono (show (TB ς).post _ _ from k) fun x k => KT.later k a1 b1))
theorem dt_not (ha : DT C a TA) : DT C (.UnaryOp .Not a pos) (tNot' TA) := by
  obtain ⟨t1, p1, q1⟩ := ha
  refine ⟨_, pt_not p1, fun G H σ ς Q S q => ?_⟩
  unfold tNot' at q
  rw [Out.post_bind] at q
  exact q1 G H σ ς _ S (Out.post_mono q fun x k H1 G1 S1 a1 b1 => k H1 G1 S1 a1 b1)
def eAnd (a b : SD → Out D) : SD → Out D := fun ς => a ς >>= fun d => match d with | .bl true => b ς | .bl false => .ok (.bl false) | _ => .stuck
def eOr (a b : SD → Out D) : SD → Out D := fun ς => a ς >>= fun d => match d with | .bl true => .ok (.bl true) | .bl false => b ς | _ => .stuck
def eNot (a : SD → Out D) : SD → Out D := fun ς => a ς >>= fun d => match d with | .bl c => .ok (.bl (!c)) | _ => .stuck
theorem de_one {op} (h : DE C a A) : DE C (.BoolOp op [a] pos) A := let ⟨t, p, q⟩ := h; ⟨t, pe_one p, q⟩
theorem de_and (ha : DE C a A) (hb : DE C (.BoolOp .And (b :: rest) pos) B) : DE C (.BoolOp .And (a :: b :: rest) pos) (eAnd A B) := by
  obtain ⟨t1, p1, q1⟩ := ha
  obtain ⟨t2, p2, q2⟩ := hb
  refine ⟨_, pe_and p1 p2, fun G H σ ς Q S q => ?_⟩
  unfold eAnd at q
  rw [Out.post_bind] at q
  refine q1 G H σ ς _ S (Out.post_mono q fun x k v1 H1 G1 S1 a1 b1 r1 => ?_)
  cases x with
  | bl c =>
    refine ⟨c, r1, ?_⟩
    cases c with
    | true => exact iteT (q2 G1 H1 σ ς _ S1 (Out.post_mono (show (B ς).post _ _ from k) fun x k => KD.later k a1 b1))
    | false => exact iteF (KD.now (KD.later (show KD C G H σ ς Q (.bl false) from k) a1 b1) S1 rfl)
  | _ => exact k.elim
theorem de_not (ha : DE C a A) : DE C (.UnaryOp .Not a pos) (eNot A) := by
  obtain ⟨t1, p1, q1⟩ := ha
  refine ⟨_, pe_not p1, fun G H σ ς Q S q => ?_⟩
  unfold eNot at q
  rw [Out.post_bind] at q
  refine q1 G H σ ς _ S (Out.post_mono q fun x k v1 H1 G1 S1 a1 b1 r1 => ?_)
  cases x with
  | bl c => exact ⟨c, r1, KD.now (KD.later (show KD C G H σ ς Q (.bl (!c)) from k) a1 b1) S1 rfl⟩
  | _ => exact k.elim
def eIf (t : SD → Out Bool) (a b : SD → Out D) : SD → Out D := fun ς => t ς >>= fun c => if c = true then a ς else b ς
end
end DL
set_option Elab.async false
set_option linter.all false
set_option maxRecDepth 100000
namespace DL
open PySem PySem.Spec PyProof.Rows L2
def aNil : SD → Out (List D) := fun _ => .ok []
def aCons (a : SD → Out D) (r : SD → Out (List D)) : SD → Out (List D) := fun ς => a ς >>= fun x => r ς >>= fun xs => .ok (x :: xs)
section
variable {C : Dc} {e : Expr} {es : List Expr} {E : SD → Out D} {A : SD → Out (List D)} {pos : Pos}
theorem da_nil : DA C [] aNil := ⟨_, pa_nil, fun G H σ ς Q S q => q [] H G S (Same.refl H) (Same.refl G) rfl⟩
theorem dab_nil : DAB C [] aNil := ⟨_, pa_nil, fun G H σ ς Q S q => q [] H G S (Same.refl H) (Same.refl G) rfl⟩
theorem da_cons (ha : DE C e E) (hr : DA C es A) (hs : starEach (e :: es) C.X.env = (false, eval e C.X.env) :: starEach es C.X.env := by rfl) : DA C (e :: es) (aCons E A) := by
  obtain ⟨t1, p1, q1⟩ := ha
  obtain ⟨t2, p2, q2⟩ := hr
  refine ⟨_, pa_cons p1 p2 hs, fun G H σ ς Q S q => ?_⟩
  unfold aCons at q
  rw [Out.post_bind] at q
  refine q1 G H σ ς _ S (Out.post_mono q fun x k v1 H1 G1 S1 a1 b1 r1 => ?_)
  rw [Out.post_bind] at k
  refine q2 G1 H1 σ ς _ S1 (Out.post_mono k fun xs k2 vs H2 G2 S2 a2 b2 r2 => ?_)
  exact k2 (v1 :: vs) H2 G2 S2 (a1.trans a2) (b1.trans b2) ⟨v1, vs, rfl, Rep.mono b2 x v1 r1, r2⟩
theorem dab_cons (ha : DB C e E) (hr : DAB C es A) (hs : starEach (e :: es) C.X.env = (false, eval e C.X.env) :: starEach es C.X.env := by rfl) : DAB C (e :: es) (aCons E A) := by
  obtain ⟨t1, p1, q1⟩ := ha
  obtain ⟨t2, p2, q2⟩ := hr
  refine ⟨_, pa_cons p1 p2 hs, fun G H σ ς Q S q => ?_⟩
  unfold aCons at q
  rw [Out.post_bind] at q
  refine q1 G H σ ς _ S (Out.post_mono q fun x k v1 H1 G1 S1 a1 b1 r1 => ?_)
  rw [Out.post_bind] at k
  refine q2 G1 H1 σ ς _ S1 (Out.post_mono k fun xs k2 vs H2 G2 S2 a2 b2 r2 => ?_)
  exact k2 (v1 :: vs) H2 G2 S2 (a1.trans a2) (b1.trans b2) ⟨v1, vs, rfl, Rep.mono a2 x v1 r1, r2⟩
def fits (n : Nat) : Bool := decide (n ≤ sizeLine)
def eTup (a : SD → Out (List D)) : SD → Out D := fun ς => a ς >>= fun xs => if fits xs.length = true then .ok (.tup xs) else .stuck
def eLst (a : SD → Out (List D)) : SD → Out D := fun ς => a ς >>= fun xs => if fits xs.length = true then .ok (.lst xs) else .stuck
theorem de_tup {x1} (h : DA C es A) : DE C (.Tuple es x1 pos) (eTup A) := by
  obtain ⟨t, p, q⟩ := h
  refine ⟨_, pe_tup p, fun G H σ ς Q S k => ?_⟩
  unfold eTup at k
  rw [Out.post_bind] at k
  refine q G H σ ς _ S (Out.post_mono k fun xs k2 vs H1 G1 S1 a1 b1 r1 => ?_)
  rcases post_ite k2 with ⟨hc, k3⟩ | ⟨_, k3⟩
  · exact ⟨by rw [← r1.length]; exact of_decide_eq_true hc, KD.tup (KD.later k3 a1 b1) S1 r1⟩
  · exact k3.elim
theorem df_lst (h : DA C es A) : DF C (.List es pos) (eLst A) := by
  obtain ⟨t, p, q⟩ := h
  refine ⟨_, pe_lst p, fun G H σ ς Q S k => ?_⟩
  unfold eLst at k
  rw [Out.post_bind] at k
  refine q G H σ ς _ S (Out.post_mono k fun xs k2 vs H1 G1 S1 a1 b1 r1 => ?_)
  rcases post_ite k2 with ⟨hc, k3⟩ | ⟨_, k3⟩
  · exact ⟨by rw [← r1.length]; exact of_decide_eq_true hc, KF.lst (KF.later k3 a1 b1) S1 r1⟩
  · exact k3.elim
end
theorem atI_rep {K : PySem.W.Frag} {CT : CTab} {H : Hp} {ds : List D} {vs : List V} {i : Int} {d : D} (r : RepL K CT H ds vs) (h : atI ds i = some d) : ∃ v, atI vs i = some v ∧ Rep K CT H d v := by
  unfold atI at h ⊢
  rw [← r.length]
  cases e : ixN ds.length i with
  | none => rw [e] at h; cases h
  | some j =>
    rw [e] at h
    exact r.get h
def optO {α : Type} : Option α → Out α
  | some a => .ok a
  | none => .stuck
theorem post_opt {α : Type} {o : Option α} {k : α → Prop} {x : D → Prop} (h : (optO o).post k x) : ∃ a, o = some a ∧ k a := by
  cases o with
  | none => exact h.elim
  | some a => exact ⟨a, rfl, h⟩
def dIx : D → D → Out D
  | .lst xs, .int i => optO (atI xs i)
  | .tup xs, .int i => optO (atI xs i)
  | .str x, .int i => if fits x.length = true then optO ((atI x.cps.toList i).map fun c => D.str ⟨#[c]⟩) else .stuck
  | _, _ => .stuck
section
variable {C : Dc} {a b : Expr} {A B : SD → Out D} {pos : Pos}
theorem ix_any {R : Hp → Hp} {G H : Hp} {σ : St} {ς : SD} {Q : VK} {x y : D} {vx vy : V} {k : D → Prop} (hx : Rep C.X.K C.CT H x vx) (hy : Rep C.X.K C.CT H y vy)
    (q : (dIx x y).post k C.XD) (hk : ∀ d v, k d → Rep C.X.K C.CT H d v → Q v H) : rIx C.X.K vx vy H Q := by
  cases y with
  | int i =>
    cases hy
    cases x with
    | lst xs =>
      obtain ⟨p, vs, rfl, h2, h3⟩ := hx
      obtain ⟨d, e, kd⟩ := post_opt q
      obtain ⟨v, e2, r⟩ := atI_rep h3 e
      exact .inl ⟨p, vs, i, v, rfl, rfl, h2, e2, hk d v kd r⟩
    | tup xs =>
      obtain ⟨p, vs, rfl, h2, h3⟩ := hx
      obtain ⟨d, e, kd⟩ := post_opt q
      obtain ⟨v, e2, r⟩ := atI_rep h3 e
      exact .inr (.inl ⟨p, vs, i, v, rfl, rfl, h2, e2, hk d v kd r⟩)
    | str z =>
      cases hx
      rcases post_ite (show (if fits z.length = true then optO ((atI z.cps.toList i).map fun c => D.str ⟨#[c]⟩) else .stuck).post k C.XD from q) with ⟨hc, q⟩ | ⟨_, q⟩
      · obtain ⟨d, e, kd⟩ := post_opt q
        cases e3 : atI z.cps.toList i with
        | none => rw [e3] at e; cases e
        | some c =>
          rw [e3] at e
          cases e
          exact .inr (.inr ⟨z, i, c, rfl, rfl, of_decide_eq_true hc, e3, hk _ _ kd rfl⟩)
      · exact q.elim
    | _ => exact q.elim
  | _ => cases x <;> exact q.elim
theorem db_ix (ha : DB C a A) (hb : DB C b B) (hs : PlainIx b := by intro _ _; rfl) : DB C (.Subscript a b pos) (e2 dIx A B) := by
  obtain ⟨ta, p1, q1⟩ := ha
  obtain ⟨tb, p2, q2⟩ := hb
  refine ⟨_, pe_ix ix_seq p1 p2 hs, fun G H σ ς Q S q => ?_⟩
  unfold e2 at q
  rw [Out.post_bind] at q
  refine q1 G H σ ς _ S (Out.post_mono q fun x k v1 H1 G1 S1 a1 b1 r1 => ?_)
  rw [Out.post_bind] at k
  refine q2 G1 H1 σ ς _ S1 (Out.post_mono k fun y k2 v2 H2 G2 S2 a2 b2 r2 => ?_)
  exact ix_any (R := id) (G := G2) (σ := σ) (ς := ς) (Rep.mono a2 x v1 r1) r2 k2 fun d v kd r => KB.now (KB.later kd (a1.trans a2) (b1.trans b2)) S2 r
theorem de_ix (ha : DE C a A) (hb : DB C b B) (hs : PlainIx b := by intro _ _; rfl) : DE C (.Subscript a b pos) (e2 dIx A B) := by
  obtain ⟨ta, p1, q1⟩ := ha
  obtain ⟨tb, p2, q2⟩ := hb
  refine ⟨_, pe_ix ix_seq p1 p2 hs, fun G H σ ς Q S q => ?_⟩
  unfold e2 at q
  rw [Out.post_bind] at q
  refine q1 G H σ ς _ S (Out.post_mono q fun x k v1 H1 G1 S1 a1 b1 r1 => ?_)
  rw [Out.post_bind] at k
  refine q2 G1 H1 σ ς _ S1 (Out.post_mono k fun y k2 v2 H2 G2 S2 a2 b2 r2 => ?_)
  have r1' := Rep.mono b2 x v1 r1
  cases y with
  | int i =>
    cases r2
    cases x with
    | lst xs =>
      obtain ⟨p, vs, rfl, h2, h3⟩ := r1'
      obtain ⟨d, e, kd⟩ := post_opt k2
      obtain ⟨v, e2, r⟩ := atI_rep h3 e
      exact .inl ⟨p, vs, i, v, rfl, rfl, S2.sub.seq h2, e2, KD.now (KD.later kd (a1.trans a2) (b1.trans b2)) S2 r⟩
    | tup xs =>
      obtain ⟨p, vs, rfl, h2, h3⟩ := r1'
      obtain ⟨d, e, kd⟩ := post_opt k2
      obtain ⟨v, e2, r⟩ := atI_rep h3 e
      exact .inr (.inl ⟨p, vs, i, v, rfl, rfl, Same.sqT S2.sub h2, e2, KD.now (KD.later kd (a1.trans a2) (b1.trans b2)) S2 r⟩)
    | str z =>
      cases r1'
      rcases post_ite (show (if fits z.length = true then optO ((atI z.cps.toList i).map fun c => D.str ⟨#[c]⟩) else .stuck).post _ C.XD from k2) with ⟨hc, q⟩ | ⟨_, q⟩
      · obtain ⟨d, e, kd⟩ := post_opt q
        cases e3 : atI z.cps.toList i with
        | none => rw [e3] at e; cases e
        | some c =>
          rw [e3] at e
          cases e
          exact .inr (.inr ⟨z, i, c, rfl, rfl, of_decide_eq_true hc, e3, KD.now (KD.later kd (a1.trans a2) (b1.trans b2)) S2 rfl⟩)
      · exact q.elim
    | _ => exact k2.elim
  | _ => cases x <;> exact k2.elim
end
def cutD {α : Type} (xs : List α) (lo hi : Option Int) : List α := (xs.drop (HT.sIx xs.length 0 lo)).take (HT.sIx xs.length xs.length hi - HT.sIx xs.length 0 lo)
theorem cut_rep {K : PySem.W.Frag} {CT : CTab} {H : Hp} {ds : List D} {vs : List V} (lo hi : Option Int) (r : RepL K CT H ds vs) : RepL K CT H (cutD ds lo hi) (cutV vs lo hi) := by
  unfold cutD cutV
  rw [r.length]
  exact (r.drop _).take _
def oNo : SD → Out (Option Int) := fun _ => .ok none
def oSome (e : SD → Out D) : SD → Out (Option Int) := fun ς => e ς >>= fun d => match d with | .int i => .ok (some i) | _ => .stuck
def DO (C : Dc) (e : Option Expr) (T : SD → Out (Option Int)) : Prop := ∃ t, PO C.X e t ∧ ∀ G H σ ς Q, StR C G H σ ς → (T ς).post (fun o => ∀ H' G', StR C G' H' σ ς → Same H H' → Same G G' → Q o H') C.XD → t σ H Q
section
variable {C : Dc} {a b : Expr} {A B : SD → Out D} {lo hi : Option Expr} {L U : SD → Out (Option Int)} {pos p2 : Pos}
theorem do_none : DO C none oNo := ⟨_, po_none, fun G H σ ς Q S q => q H G S (Same.refl H) (Same.refl G)⟩
theorem do_some (h : DB C a A) : DO C (some a) (oSome A) := by
  obtain ⟨t, p, q⟩ := h
  refine ⟨_, po_some p, fun G H σ ς Q S k => ?_⟩
  unfold oSome at k
  rw [Out.post_bind] at k
  refine q G H σ ς _ S (Out.post_mono k fun x k2 v1 H1 G1 S1 a1 b1 r1 => ?_)
  cases x with
  | int i => cases r1; exact ⟨i, rfl, k2 H1 G1 S1 a1 b1⟩
  | _ => exact k2.elim
def eSl (a : SD → Out D) (l u : SD → Out (Option Int)) : SD → Out D := fun ς => a ς >>= fun x => l ς >>= fun i => u ς >>= fun j => match x with
  | .lst xs => .ok (.lst (cutD xs i j))
  | _ => .stuck
theorem df_sl (ha : DE C a A) (hl : DO C lo L) (hu : DO C hi U) : DF C (.Subscript a (.Slice lo hi none p2) pos) (eSl A L U) := by
  obtain ⟨ta, p1, q1⟩ := ha
  obtain ⟨tl, p3, q3⟩ := hl
  obtain ⟨tu, p4, q4⟩ := hu
  refine ⟨_, pe_slice sl_list p1 p3 p4, fun G H σ ς Q S q => ?_⟩
  unfold eSl at q
  rw [Out.post_bind] at q
  refine q1 G H σ ς _ S (Out.post_mono q fun x k v1 H1 G1 S1 a1 b1 r1 => ?_)
  rw [Out.post_bind] at k
  refine q3 G1 H1 σ ς _ S1 (Out.post_mono k fun i k2 H2 G2 S2 a2 b2 => ?_)
  rw [Out.post_bind] at k2
  refine q4 G2 H2 σ ς _ S2 (Out.post_mono k2 fun j k3 H3 G3 S3 a3 b3 => ?_)
  cases x with
  | lst xs =>
    obtain ⟨p, vs, rfl, h2, h3⟩ := Rep.mono (b2.trans b3) _ v1 r1
    exact ⟨p, vs, rfl, S3.sub.seq h2, KF.lst (KF.later (show KF C G H σ ς Q (.lst (cutD xs i j)) from k3) ((a1.trans a2).trans a3) ((b1.trans b2).trans b3)) S3 (cut_rep i j h3)⟩
  | _ => exact k3.elim
def trk (H : Hp) (v : V) : Prop := ∃ p xs, v = .ref p ∧ H p = some (.lst xs)
end
section
variable {C : Dc} {x : Str} {p pos : Pos} {e : Expr} {es : List Expr} {A : SD → Out (List D)} {id T : String}
def eA (f : List D → Out D) (a : SD → Out (List D)) : SD → Out D := fun ς => a ς >>= f
def DCS (C : Dc) (r : List V → Hp → VK → Prop) (f : List D → Out D) : Prop := ∀ G H σ ς (Q : VK) xs vs, StR C G H σ ς → RepL C.X.K C.CT H xs vs →
  (f xs).post (fun d => d.scal = true ∧ Q (toV d) H) (fun _ => False) → r vs H Q
def scalA (f : List D → Out D) : Prop := ∀ xs, match f xs with | .ok d => d.scal = true | .exc _ => False | .stuck => True
theorem dcall {r : List V → Hp → VK → Prop} {f : List D → Out D} {t : TA} (hr : DCS C r f) (hs : scalA f)
    (h : ∀ G H σ ς Q, StR C G H σ ς → (A ς).post (fun ds => ∀ vs H' G', StR C G' H' σ ς → Same H H' → Same G G' → RepL C.X.K C.CT H' ds vs → Q vs H') C.XD → t σ H Q) :
    ∀ G H σ ς Q, StR C G H σ ς → (eA f A ς).post (KD C G H σ ς Q) C.XD → tCB r t σ H Q := by
  intro G H σ ς Q S q
  unfold eA at q
  rw [Out.post_bind] at q
  refine h G H σ ς _ S (Out.post_mono q fun ds k vs H1 G1 S1 a1 b1 r1 => ?_)
  exact hr G1 H1 σ ς Q ds vs S1 r1 (post_of_scal S1 (hs ds) (Out.post_mono k fun d kd => KD.later kd a1 b1))
theorem de_callB {r : List V → Hp → VK → Prop} {f : List D → Out D} (hc : CallR C.X (.builtin id) r) (hr : DCS C r f) (hs : scalA f) (hg : Gl C.X x) (hm : C.X.mg x = none) (hv : bootBuiltins x = some (.builtin id)) (ha : DAB C (e :: es) A) (hn : x ≠ "__name__" := by decide) (hdb : (x == ("__debug__" : Str)) = false := by decide)
    (he : starEach (e :: es) C.X.env = (false, eval e C.X.env) :: starEach es C.X.env := by rfl) (hpl : (backTo pos (starEach es C.X.env)).any (·.1) = false := by rfl) : DE C (.Call (.Name x p) (e :: es) [] pos) (eA f A) := by
  obtain ⟨t, p1, q1⟩ := ha
  exact ⟨_, pe_callB hc hg hm hv p1 hn hdb he hpl, dcall hr hs q1⟩
def fLen : List D → Out D
  | [.lst xs] => .ok (.int xs.length)
  | [.tup xs] => .ok (.int xs.length)
  | [.str x] => if fits x.length = true then .ok (.int x.length) else .stuck
  | _ => .stuck
theorem dcs_len : DCS C (fun xs H Q => (∃ p ys, xs = [.ref p] ∧ (SqL C.X.K H p ys ∨ SqT C.X.K H p ys) ∧ Q (.int ys.length) H) ∨ ∃ z, xs = [.str z] ∧ z.length ≤ sizeLine ∧ Q (.int z.length) H) fLen := by
  intro G H σ ς Q xs vs S r q
  cases xs with
  | nil => exact q.elim
  | cons x xr =>
    obtain ⟨v, vr, rfl, r1, r2⟩ := r
    cases xr with
    | cons y yr => cases x <;> exact q.elim
    | nil =>
      cases r2
      cases x with
      | lst ys =>
        obtain ⟨p, us, rfl, h2, h3⟩ := r1
        exact .inl ⟨p, us, rfl, .inl h2, by rw [← h3.length]; exact q.2⟩
      | tup ys =>
        obtain ⟨p, us, rfl, h2, h3⟩ := r1
        exact .inl ⟨p, us, rfl, .inr h2, by rw [← h3.length]; exact q.2⟩
      | str z =>
        cases r1
        rcases post_ite (show (if fits z.length = true then Out.ok (D.int z.length) else .stuck).post _ _ from q) with ⟨hc, q⟩ | ⟨_, q⟩
        · exact .inr ⟨z, rfl, of_decide_eq_true hc, q.2⟩
        · exact q.elim
      | _ => exact q.elim
theorem scal_len : scalA fLen := by
  intro xs
  cases xs with
  | nil => exact True.intro
  | cons x xr =>
    cases xr with
    | cons y yr => cases x <;> exact True.intro
    | nil =>
      cases x with
      | lst ys => exact rfl
      | tup ys => exact rfl
      | str z => exact scal_ite rfl
      | _ => exact True.intro
theorem de_len (hg : Gl C.X "len") (hm : C.X.mg "len" = none) (ha : DAB C (e :: es) A)
    (he : starEach (e :: es) C.X.env = (false, eval e C.X.env) :: starEach es C.X.env := by rfl) (hpl : (backTo pos (starEach es C.X.env)).any (·.1) = false := by rfl) : DE C (.Call (.Name "len" p) (e :: es) [] pos) (eA fLen A) :=
  de_callB (call_len_seq.or call_len_str) dcs_len scal_len hg hm PySem.boot_len ha (by decide) (by decide) he hpl
def f1 (g : D → Out D) : List D → Out D
  | [x] => g x
  | _ => .stuck
theorem scal_f1 {g : D → Out D} (h : ∀ x, match g x with | .ok d => d.scal = true | .exc _ => False | .stuck => True) : scalA (f1 g) := by
  intro xs
  match xs with
  | [] => exact True.intro
  | [x] => exact h x
  | _ :: _ :: _ => exact True.intro
def dAbs : D → Out D
  | .int i => .ok (.int (if i < 0 then -i else i))
  | _ => .stuck
theorem dcs_f1 {r : List V → Hp → VK → Prop} {g : D → Out D} (h : ∀ G H σ ς (Q : VK) x v, StR C G H σ ς → Rep C.X.K C.CT H x v → (g x).post (fun d => d.scal = true ∧ Q (toV d) H) (fun _ => False) → r [v] H Q) : DCS C r (f1 g) := by
  intro G H σ ς Q xs vs S r q
  match xs, r with
  | [], _ => exact q.elim
  | [x], ⟨v, vr, e1, r1, r2⟩ => cases r2; subst e1; exact h G H σ ς Q x v S r1 q
  | _ :: _ :: _, _ => exact q.elim
theorem de_abs (hg : Gl C.X "abs") (hm : C.X.mg "abs" = none) (hv : bootBuiltins "abs" = some (.builtin "abs")) (ha : DAB C (e :: es) A)
    (he : starEach (e :: es) C.X.env = (false, eval e C.X.env) :: starEach es C.X.env := by rfl) (hpl : (backTo pos (starEach es C.X.env)).any (·.1) = false := by rfl) : DE C (.Call (.Name "abs" p) (e :: es) [] pos) (eA (f1 dAbs) A) := by
  refine de_callB call_abs (dcs_f1 ?_) (scal_f1 ?_) hg hm hv ha (by decide) (by decide) he hpl
  · intro G H σ ς Q x v S r q
    cases x with
    | int i => cases r; exact ⟨i, rfl, q.2⟩
    | _ => exact q.elim
  · intro x
    cases x <;> first | exact rfl | exact True.intro
end
mutual
def D.py : D → PyData
  | .non => .none
  | .bl b => .bool b
  | .int i => .int i
  | .str x => .str x
  | .lst xs => .list (D.pys xs)
  | .tup xs => .tuple (D.pys xs)
  | .dic _ => .dict []
  | .ins _ _ => .dict []
  | .err _ => .dict []
def D.pys : List D → List PyData
  | [] => []
  | x :: xs => D.py x :: D.pys xs
end
section
variable {X : Cx} {pins : List (Addr × Obj)} {σ : L2.St} {H : Hp} {s : Shared} {CT : CTab}
mutual
theorem reads_of (I : Inv X pins σ H s) : ∀ (d : D) (v : V) (u : Value), Rep X.K CT H d v → RelV v u → d.py.canLay0 = true → ∃ as, Reads s.heap u d.py as
  | .non, _, _, h, r, _ => by cases h; cases r; exact ⟨_, .none⟩
  | .bl b, _, _, h, r, _ => by cases h; cases r; exact ⟨_, .bool b⟩
  | .int i, _, _, h, r, _ => by cases h; obtain ⟨t, rfl⟩ := r; exact ⟨_, .int i t⟩
  | .str x, _, _, h, r, _ => by cases h; obtain ⟨t, rfl⟩ := r; exact ⟨_, .str x t⟩
  | .lst ds, _, _, ⟨a, vs, h1, h2, h3⟩, r, c => by
    subst h1; cases r
    obtain ⟨its, q, ⟨o, n, ho, hc, _, hd⟩, _⟩ := I.list h2
    obtain ⟨as, ra⟩ := reads_all I ds vs its h3 q (by simpa [D.py, PyData.canLay0] using c)
    exact ⟨_, .list ho hc hd (by simpa using ra)⟩
  | .tup ds, _, _, ⟨a, vs, h1, h2, h3⟩, r, c => by
    subst h1; cases r
    obtain ⟨its, q, ⟨o, ho, hc, n, hd⟩, _⟩ := I.tuple h2
    obtain ⟨as, ra⟩ := reads_all I ds vs its h3 q (by simpa [D.py, PyData.canLay0] using c)
    exact ⟨_, .tuple ho hc hd (by simpa using ra)⟩
  | .dic _, _, _, _, _, c => by simp [D.py, PyData.canLay0] at c
  | .ins _ _, _, _, _, _, c => by simp [D.py, PyData.canLay0] at c
  | .err _, _, _, _, _, c => by simp [D.py, PyData.canLay0] at c
theorem reads_all (I : Inv X pins σ H s) : ∀ (ds : List D) (vs : List V) (us : List Value), RepL X.K CT H ds vs → Vals vs us → PyData.canLayAll0 (D.pys ds) = true → ∃ as, ReadsAll s.heap us (D.pys ds) as
  | [], _, _, h, r, _ => by cases h; cases r; exact ⟨_, .nil⟩
  | d :: ds, _, _, ⟨v, w, h1, h2, h3⟩, r, c => by
    subst h1
    cases r with
    | cons r1 r2 =>
      have c' : d.py.canLay0 = true ∧ PyData.canLayAll0 (D.pys ds) = true := by simpa [D.pys, PyData.canLayAll0] using c
      obtain ⟨as, q1⟩ := reads_of I d v _ h2 r1 c'.1
      obtain ⟨bs, q2⟩ := reads_all I ds w _ h3 r2 c'.2
      exact ⟨_, .cons q1 q2⟩
end
end
def shp (d : D) : Bool := SeqAt.shaped d.py
def dEq (x y : D) : Out D := if (shp x && shp y) = true then .ok (.bl (PyData.eqv x.py y.py)) else .stuck
def dNe (x y : D) : Out D := if (shp x && shp y) = true then .ok (.bl (!PyData.eqv x.py y.py)) else .stuck
section
variable {C : Dc} {a b : Expr} {A B : SD → Out D} {pos : Pos}
def rEqD (C : Dc) (n : Bool) : R2 := fun vx vy H Q => ∃ x y, Rep C.X.K C.CT H x vx ∧ Rep C.X.K C.CT H y vy ∧ shp x = true ∧ shp y = true ∧ Q (.bl (n != PyData.eqv x.py y.py)) H
theorem op_eqD (hu : C.X.A.units + 64 < cLine) : OpR C.X (compareOp .Eq) (rEqD C false) := by
  intro pins s σ H vx vy u w Q I rx ry h
  obtain ⟨x, y, h1, h2, h3, h4, q⟩ := h
  obtain ⟨as, ra⟩ := reads_of I x vx u h1 rx (SeqAt.canLay_of_shaped h3)
  obtain ⟨bs, rb⟩ := reads_of I y vy w h2 ry (SeqAt.canLay_of_shaped h4)
  exact eq_dataH ra rb h3 h4 hu ⟨.bl _, H, I, rfl, by simpa using q⟩
theorem op_neD (hu : C.X.A.units + 64 < cLine) : OpR C.X (compareOp .NotEq) (rEqD C true) := by
  intro pins s σ H vx vy u w Q I rx ry h
  obtain ⟨x, y, h1, h2, h3, h4, q⟩ := h
  obtain ⟨as, ra⟩ := reads_of I x vx u h1 rx (SeqAt.canLay_of_shaped h3)
  obtain ⟨bs, rb⟩ := reads_of I y vy w h2 ry (SeqAt.canLay_of_shaped h4)
  exact ne_dataH ra rb h3 h4 hu ⟨.bl _, H, I, rfl, by simpa using q⟩
theorem drs_eq : DRS C (rEqD C false) dEq := by
  intro G H σ ς Q x y vx vy S hx hy q
  rcases post_ite q with ⟨hc, q⟩ | ⟨_, q⟩
  · rw [Bool.and_eq_true] at hc
    exact ⟨x, y, hx, hy, hc.1, hc.2, by simpa [toV] using q.2⟩
  · exact q.elim
theorem drs_ne : DRS C (rEqD C true) dNe := by
  intro G H σ ς Q x y vx vy S hx hy q
  rcases post_ite q with ⟨hc, q⟩ | ⟨_, q⟩
  · rw [Bool.and_eq_true] at hc
    exact ⟨x, y, hx, hy, hc.1, hc.2, by simpa [toV] using q.2⟩
  · exact q.elim
theorem scal_eq : scal2 dEq := fun x y => scal_ite rfl
theorem scal_ne : scal2 dNe := fun x y => scal_ite rfl
theorem dt_lt (ha : DB C a A) (hb : DB C b B) : DT C (.Compare a [.Lt] [b] pos) (tVal (e2 dLt A B)) := dt_cmp op_lt drs_dI0 (scal_dI0 fun _ _ => rfl) ha hb (nomark _)
theorem dt_le (ha : DB C a A) (hb : DB C b B) : DT C (.Compare a [.LtE] [b] pos) (tVal (e2 dLe A B)) := dt_cmp op_le drs_dI0 (scal_dI0 fun _ _ => rfl) ha hb (nomark _)
theorem dt_eq (hu : C.X.A.units + 64 < cLine) (ha : DB C a A) (hb : DB C b B) : DT C (.Compare a [.Eq] [b] pos) (tVal (e2 dEq A B)) := dt_cmp (op_eqD hu) drs_eq scal_eq ha hb (nomark _)
theorem dt_ne (hu : C.X.A.units + 64 < cLine) (ha : DB C a A) (hb : DB C b B) : DT C (.Compare a [.NotEq] [b] pos) (tVal (e2 dNe A B)) := dt_cmp (op_neD hu) drs_ne scal_ne ha hb (nomark _)
end
end DL
set_option Elab.async false
set_option linter.all false
set_option maxRecDepth 100000
namespace DL
open PySem PySem.Spec PyProof.Rows L2
section
variable {C : Dc} {a b : Expr} {A B : SD → Out D} {pos : Pos}
end
def tyName : D → String
  | .non => "NoneType"
  | .bl _ => "bool"
  | .int _ => "int"
  | .str _ => "str"
  | .lst _ => "list"
  | .tup _ => "tuple"
  | .dic _ => "dict"
  | .ins _ _ => "object"
  | .err _ => "object"
structure ClsD (K : PySem.W.Frag) (A : Addr) : Prop where
  cl : Cls K A
  ha : PySem.W.findIn K (.ref A) "__class__" = some (some (.builtin "object.__class__"))
  hn : PySem.W.specialIn K (.builtin "object.__class__") "__get__" = some (some (.builtin "getset_descriptor.__get__"))
  htk : PySem.W.takesIn K (.builtin "object.__class__") = some true
  hm : PySem.W.mroIn K A (.type "object") = some true
def KitD (K : PySem.W.Frag) (CT : CTab) (d : D) (uc : Value) (b : Bool) : Prop := match d with
  | .ins c _ => ∀ A, CT c = some A → ClsD K A ∧ PySem.W.kitOne K (.ref A) uc = some b
  | .err c => ∀ A, CT c = some A → ExCls K A ∧ PySem.W.kitOne K (.ref A) uc = some b
  | d => PySem.W.kitOne K (.type (tyName d)) uc = some b
section
variable {C : Dc} {e cx : Expr} {E : SD → Out D} {p pos : Pos} {vc : V} {uc : Value}
theorem isi_rep {pins : List (Addr × Obj)} {σ : L2.St} {H : Hp} {s : Shared} {A : Around} {Ex : Value → Shared → Prop} {Q : Value → Shared → Prop} {d : D} {v : V} {u : Value} {b : Bool} (I : Inv C.X pins σ H s) (h : Rep C.X.K C.CT H d v) (r : RelV v u) (k : KitD C.X.K C.CT d uc b)
    (q : ∀ tk, Q (.bool b) { s with toks := tk }) : wpAny (model C.X.prog C.X.w) A (call (.builtin "isinstance") [u, uc]) Q Ex s := by
  cases d with
  | non => cases h; cases r; exact PySem.W.kia_one PySem.W.kitx_none I.kIn True.intro k (fun z => nomatch z) q
  | bl y => cases h; cases r; exact PySem.W.kia_one PySem.W.kitx_bool I.kIn True.intro k (fun z => nomatch z) q
  | int i => cases h; obtain ⟨t, rfl⟩ := r; exact PySem.W.kia_one PySem.W.kitx_int I.kIn True.intro k (fun z => nomatch z) q
  | str i => cases h; obtain ⟨t, rfl⟩ := r; exact PySem.W.kia_one PySem.W.kitx_str I.kIn True.intro k (fun z => nomatch z) q
  | lst ds =>
    obtain ⟨a, vs, rfl, h2, _⟩ := h; cases r
    obtain ⟨its, _, ⟨o, n, ho, hc, _⟩, _⟩ := I.list h2
    exact PySem.W.kia_one PySem.W.kitx_list I.kIn ⟨o, ho, hc⟩ k (fun z => nomatch z) q
  | tup ds =>
    obtain ⟨a, vs, rfl, h2, _⟩ := h; cases r
    obtain ⟨its, _, ⟨o, ho, hc, _⟩, _⟩ := I.tuple h2
    exact PySem.W.kia_one PySem.W.kitx_tuple I.kIn ⟨o, ho, hc⟩ k (fun z => nomatch z) q
  | dic ds =>
    obtain ⟨a, kvs, rfl, h2, _⟩ := h; cases r
    obtain ⟨_, _, vs, _, p⟩ := h2.ok I.hok
    obtain ⟨o, es, ep, h1, h2, _⟩ := p
    exact PySem.W.kia_one PySem.W.kitx_dict I.kIn ⟨o, h1, h2.1⟩ k (fun z => nomatch z) q
  | ins c fs =>
    obtain ⟨a, A', dx, fs', rfl, h1, h2, _⟩ := h; cases r
    obtain ⟨cd, kk⟩ := k A' h1
    obtain ⟨mA, O, _⟩ := ins_get I.hok h2
    obtain ⟨od, J, _⟩ := O.look
    exact PySem.W.kia_one (PySem.W.kitx_own (cd.cl.get _) cd.cl.hd cd.ha cd.hn cd.htk cd.hm) I.kIn J kk (fun z => nomatch z) q
  | err c =>
    obtain ⟨a, A', rfl, h1, h2⟩ := h; cases r
    obtain ⟨cd, kk⟩ := k A' h1
    obtain ⟨J, _⟩ := (show ObjOk C.X.prog C.X.w H s.heap a (exO a A') from I.hok a _ h2)
    exact PySem.W.kia_one (kitx_exc cd) I.kIn J kk (fun z => nomatch z) q
def clsV : V → Option Value
  | .ty n => some (.type n)
  | .ref a => some (.ref a)
  | _ => none
def eIsa (f : D → Out Bool) (a : SD → Out D) : SD → Out D := fun ς => a ς >>= fun d => f d >>= fun b => .ok (.bl b)
theorem de_isa {f : D → Out Bool} (hc : PE C.X cx (tC vc)) (rc : clsV vc = some uc) (hf : ∀ d, match f d with | .ok b => KitD C.X.K C.CT d uc b | .exc _ => False | .stuck => True) (hg : Gl C.X "isinstance") (hm : C.X.mg "isinstance" = none) (h : DB C e E)
    (he : starEach (e :: [cx]) C.X.env = (false, eval e C.X.env) :: starEach [cx] C.X.env := by rfl) (he2 : starEach (cx :: []) C.X.env = (false, eval cx C.X.env) :: starEach [] C.X.env := by rfl)
    (hpl : (backTo pos (starEach [cx] C.X.env)).any (·.1) = false := by rfl) : DE C (.Call (.Name "isinstance" p) [e, cx] [] pos) (eIsa f E) := by
  obtain ⟨t, p1, q1⟩ := h
  have hR : CallR C.X (.builtin "isinstance") (fun xs H Q => ∃ d x b, xs = [x, vc] ∧ Rep C.X.K C.CT H d x ∧ KitD C.X.K C.CT d uc b ∧ Q (.bl b) H) := by
    intro pins s σ H xs us Q I r h
    obtain ⟨d, x, b, rfl, h1, h2, q⟩ := h
    obtain ⟨u, w, rfl, r1, r2⟩ := vals2 r
    have : w = uc := by
      cases vc <;> first
        | (cases rc; cases r2; rfl)
        | cases rc
    subst this
    exact isi_rep I h1 r1 h2 fun tk => ⟨.bl b, H, I.tok _, rfl, q⟩
  refine ⟨_, pe_callB hR hg hm PyProof.Rows.Boot.«isinstance» (pa_cons p1 (pa_cons hc pa_nil he2) he) (by decide) (by decide) he hpl, fun G H σ ς Q S q => ?_⟩
  unfold eIsa at q
  rw [Out.post_bind] at q
  refine q1 G H σ ς _ S (Out.post_mono q fun d k v1 H1 G1 S1 a1 b1 r1 => ?_)
  rw [Out.post_bind] at k
  have hd := hf d
  cases e : f d with
  | exc _ => rw [e] at hd; exact hd.elim
  | stuck => rw [e] at k; exact k.elim
  | ok b =>
    rw [e] at k hd
    exact ⟨d, v1, b, rfl, r1, hd, KD.now (KD.later (show KD C G H σ ς Q (.bl b) from k) a1 b1) S1 rfl⟩
end
end DL
set_option Elab.async false
set_option linter.all false
set_option maxRecDepth 100000
namespace DL
open PySem PySem.Spec PyProof.Rows L2
section
variable {C : Dc} {G H : Hp} {σ : St} {ς : SD}
theorem get_set {α : Type} {xs : List α} {i j : Nat} {x y : α} (h : (xs.set i x)[j]? = some y) : (i = j ∧ y = x ∧ i < xs.length) ∨ (i ≠ j ∧ xs[j]? = some y) := by
  rw [List.getElem?_set] at h
  by_cases e : i = j
  · rw [if_pos e] at h
    by_cases l : i < xs.length
    · rw [if_pos l] at h; exact .inl ⟨e, (Option.some.inj h).symm, l⟩
    · rw [if_neg l] at h; cases h
  · rw [if_neg e] at h; exact .inr ⟨e, h⟩
theorem set_get {α : Type} {xs : List α} {i : Nat} {x : α} (h : i < xs.length) : (xs.set i x)[i]? = some x := by
  rw [List.getElem?_set, if_pos rfl, if_pos h]
theorem set_get_ne {α : Type} {xs : List α} {i j : Nat} {x : α} (h : i ≠ j) : (xs.set i x)[j]? = xs[j]? := by
  rw [List.getElem?_set, if_neg h]
theorem StR.set (S : StR C G H σ ς) {d : D} {v : V} (i : Nat) (r : Rep C.X.K C.CT G d v) : StR C G H (σ.set i (some v)) (ς.set i (some (.k, d))) where
  toGH := S.toGH
  len := by rw [List.length_set, List.length_set]; exact S.len
  fz := fun j e h => by
    rcases get_set h with ⟨rfl, h2, l⟩ | ⟨ne, h2⟩
    · cases h2
      exact ⟨v, set_get (by rw [S.len]; exact l), r⟩
    · rw [set_get_ne ne]; exact S.fz j e h2
  ow := fun j e h => by
    rcases get_set h with ⟨rfl, h2, l⟩ | ⟨ne, h2⟩
    · cases h2
    · rw [set_get_ne ne]; exact S.ow j e h2
  ln := fun j e h => by
    rcases get_set h with ⟨rfl, h2, l⟩ | ⟨ne, h2⟩
    · cases h2
    · rw [set_get_ne ne]; exact S.ln j e h2
  inj := fun j k d1 d2 p hjk h1 h2 h3 => by
    rcases get_set h1 with ⟨rfl, q1, l⟩ | ⟨n1, q1⟩
    · cases q1
    · rcases get_set h2 with ⟨rfl, q2, l⟩ | ⟨n2, q2⟩
      · cases q2
      · rw [set_get_ne n1] at h3
        rw [set_get_ne n2]; exact S.inj j k d1 d2 p hjk q1 q2 h3
  sf := fun j e h => by
    rcases get_set h with ⟨rfl, h2, l⟩ | ⟨ne, h2⟩
    · cases h2
    · rw [set_get_ne ne]; exact S.sf j e h2
  su := fun j k d1 d2 h1 h2 => by
    rcases get_set h1 with ⟨rfl, q1, l⟩ | ⟨n1, q1⟩
    · cases q1
    · rcases get_set h2 with ⟨rfl, q2, l⟩ | ⟨n2, q2⟩
      · cases q2
      · exact S.su j k d1 d2 q1 q2
theorem StR.setO (S : StR C G H σ ς) {d : D} {p : Addr} (i : Nat) (hg : G p = none) (h0 : C.X.H₀ p = none) (ow : Own C.X.K C.CT G H p d) (hn : ∀ (j : Nat) e, j ≠ i → ς[j]? = some (some (.o, e)) → σ[j]? ≠ some (some (.ref p))) :
    StR C G H (σ.set i (some (.ref p))) (ς.set i (some (.o, d))) where
  toGH := S.toGH
  len := by rw [List.length_set, List.length_set]; exact S.len
  fz := fun j e h => by
    rcases get_set h with ⟨rfl, h2, l⟩ | ⟨ne, h2⟩
    · cases h2
    · rw [set_get_ne ne]; exact S.fz j e h2
  ow := fun j e h => by
    rcases get_set h with ⟨rfl, h2, l⟩ | ⟨ne, h2⟩
    · cases h2
      exact ⟨p, set_get (by rw [S.len]; exact l), hg, h0, ow⟩
    · rw [set_get_ne ne]; exact S.ow j e h2
  ln := fun j e h => by
    rcases get_set h with ⟨rfl, h2, l⟩ | ⟨ne, h2⟩
    · cases h2
    · rw [set_get_ne ne]; exact S.ln j e h2
  inj := fun j k d1 d2 q hjk h1 h2 h3 => by
    rcases get_set h1 with ⟨rfl, q1, l1⟩ | ⟨n1, q1⟩
    · rcases get_set h2 with ⟨rfl, q2, l⟩ | ⟨n2, q2⟩
      · exact absurd rfl hjk
      · rw [set_get (by rw [S.len]; exact l1)] at h3
        cases h3
        rw [set_get_ne n2]; exact hn k d2 (Ne.symm n2) q2
    · rcases get_set h2 with ⟨rfl, q2, l⟩ | ⟨n2, q2⟩
      · rw [set_get_ne n1] at h3
        rw [set_get (by rw [S.len]; exact l)]
        intro z; cases z
        exact hn j d1 (Ne.symm n1) q1 h3
      · rw [set_get_ne n1] at h3
        rw [set_get_ne n2]; exact S.inj j k d1 d2 q hjk q1 q2 h3
  sf := fun j e h => by
    rcases get_set h with ⟨rfl, h2, l⟩ | ⟨ne, h2⟩
    · cases h2
    · rw [set_get_ne ne]; exact S.sf j e h2
  su := fun j k d1 d2 h1 h2 => by
    rcases get_set h1 with ⟨rfl, q1, l⟩ | ⟨n1, q1⟩
    · cases q1
    · rcases get_set h2 with ⟨rfl, q2, l⟩ | ⟨n2, q2⟩
      · cases q2
      · exact S.su j k d1 d2 q1 q2
end
def sNil : SD → Out Fl := fun ς => .ok (.nx ς)
def thenF (U : SD → Out Fl) : Fl → Out Fl
  | .nx ς => U ς
  | .rt b d => .ok (.rt b d)
  | .bk ς => .ok (.bk ς)
  | .ct ς => .ok (.ct ς)
def sSeq (T U : SD → Out Fl) : SD → Out Fl := fun ς => T ς >>= thenF U
section
variable {C : Dc} {e : Expr} {E : SD → Out D} {st : Stmt} {rest : List Stmt} {T U : SD → Out Fl} {pos : Pos}
theorem FlK.later {G G1 : Hp} {W : Ends} {f : Fl} (h : FlK C G W f) (s : Same G G1) : FlK C G1 W f := by
  cases f with
  | nx ς => exact fun σ' H' G' S q => h σ' H' G' S (s.trans q)
  | bk ς => exact fun σ' H' G' S q => h σ' H' G' S (s.trans q)
  | ct ς => exact fun σ' H' G' S q => h σ' H' G' S (s.trans q)
  | rt b d => exact fun σ' H' G' S q => h σ' H' G' S (s.trans q)
theorem dss_nil : DSs C [] sNil := ⟨_, pss_nil, fun G H σ ς W S q => q σ H G S (Same.refl G)⟩
theorem dss_cons (h1 : DS C st T) (h2 : DSs C rest U) : DSs C (st :: rest) (sSeq T U) := by
  obtain ⟨t1, p1, q1⟩ := h1
  obtain ⟨t2, p2, q2⟩ := h2
  refine ⟨_, pss_cons p1 p2, fun G H σ ς W S q => ?_⟩
  unfold sSeq at q
  rw [Out.post_bind] at q
  refine q1 G H σ ς _ S (Out.post_mono q fun f k => ?_)
  cases f with
  | nx ς' => exact fun σ' H' G' S' s' => q2 G' H' σ' ς' W S' (Out.post_mono (show (U ς').post _ _ from k) fun f k => FlK.later k s')
  | bk ς' => exact k
  | ct ς' => exact k
  | rt b d => exact k
theorem dss_one (h1 : DS C st T) : DSs C [st] T := let ⟨t, p, q⟩ := h1; ⟨t, pss_one p, q⟩
def sSet (i : Nat) (E : SD → Out D) : SD → Out Fl := fun ς => E ς >>= fun d => .ok (.nx (ς.set i (some (.k, d))))
def sSetO (i : Nat) (E : SD → Out D) : SD → Out Fl := fun ς => E ς >>= fun d => .ok (.nx (ς.set i (some (.o, d))))
theorem ds_set {i : Nat} {x : Str} {pos' : Pos} (hN : C.X.N.Nodup) (hi : C.X.N[i]? = some x) (hx : Loc C.X.env.scope x) (he : DE C e E) (hs : swapsWith e (some (.Name x pos')) pos.line C.X.env = pure false := by rfl)
    (hf : C.X.fn x = true ∨ C.X.env.scope.names.lookup x = some .local := by first | exact .inl rfl | exact .inr rfl | assumption) : DS C (.Assign [.Name x pos'] e pos) (sSet i E) := by
  obtain ⟨t, p, q⟩ := he
  refine ⟨_, ps_set hN hi hx p hs hf, fun G H σ ς W S k => ?_⟩
  unfold sSet at k
  rw [Out.post_bind] at k
  exact q G H σ ς _ S (Out.post_mono k fun d k v H1 G1 S1 a1 b1 r1 => k _ H1 G1 (S1.set i r1) b1)
theorem ds_setO {i : Nat} {x : Str} {pos' : Pos} (hN : C.X.N.Nodup) (hi : C.X.N[i]? = some x) (hx : Loc C.X.env.scope x) (he : DF C e E) (hs : swapsWith e (some (.Name x pos')) pos.line C.X.env = pure false := by rfl)
    (hf : C.X.fn x = true ∨ C.X.env.scope.names.lookup x = some .local := by first | exact .inl rfl | exact .inr rfl | assumption) : DS C (.Assign [.Name x pos'] e pos) (sSetO i E) := by
  obtain ⟨t, p, q⟩ := he
  refine ⟨_, ps_set hN hi hx p hs hf, fun G H σ ς W S k => ?_⟩
  unfold sSetO at k
  rw [Out.post_bind] at k
  exact q G H σ ς _ S (Out.post_mono k fun d k p H1 G1 S1 a1 b1 hp hg ow => k _ H1 G1 (S1.setO i hg (S.h0none hp) ow fun j e _ z => S.new_ne hp j e z) b1)
def sPar (i j : Nat) (A : SD → Out (List D)) : SD → Out Fl := fun ς => A ς >>= fun ds => match ds with
  | [x, y] => .ok (.nx ((ς.set i (some (.k, x))).set j (some (.k, y))))
  | _ => .stuck
theorem ds_par {i j : Nat} {x y : Str} {a b : Expr} {A : SD → Out (List D)} {px py pt : Pos} {kt k2 pt2} (hc : C.X.calm = true) (hN : C.X.N.Nodup) (hi : C.X.N[i]? = some x) (hj : C.X.N[j]? = some y) (hij : i ≠ j)
    (hx : C.X.env.scope.names.lookup x = some .local) (hy : C.X.env.scope.names.lookup y = some .local) (ha : DA C [a, b] A)
    (hw : swappedStores [.Tuple [.Name x px, .Name y py] kt pt] (.Tuple [a, b] k2 pt2) C.X.env = pure (some [x, y]))
    (hs : swapsWithSole [.Tuple [.Name x px, .Name y py] kt pt] (.Tuple [a, b] k2 pt2) pos.line C.X.env = pure false := by rfl) :
    DS C (.Assign [.Tuple [.Name x px, .Name y py] kt pt] (.Tuple [a, b] k2 pt2) pos) (sPar i j A) := by
  obtain ⟨t, p, q⟩ := ha
  refine ⟨_, ps_par hc hN hi hj hij hx hy p hw hs, fun G H σ ς W S k => ?_⟩
  unfold sPar at k
  rw [Out.post_bind] at k
  refine q G H σ ς _ S (Out.post_mono k fun ds k vs H1 G1 S1 a1 b1 r1 => ?_)
  match ds, r1 with
  | [d1, d2], ⟨v1, _, e1, rr1, v2, _, e2, rr2, e3⟩ =>
    subst e3 e2 e1
    exact ⟨v1, v2, rfl, k _ H1 G1 ((S1.set i rr1).set j rr2) b1⟩
  | [], _ => exact k.elim
  | [_], _ => exact k.elim
  | _ :: _ :: _ :: _, _ => exact k.elim
def setAll : List Nat → List D → SD → Out SD
  | [], [], ς => .ok ς
  | i :: is, d :: ds, ς => setAll is ds (ς.set i (some (.k, d)))
  | _, _, _ => .stuck
def DGs (C : Dc) (es : List Expr) (is : List Nat) : Prop := ∃ t, PGs C.X es t ∧ ∀ G H σ ς ds vs ς' (Q : St → Hp → Prop), StR C G H σ ς → RepL C.X.K C.CT G ds vs → setAll is ds ς = .ok ς' →
  (∀ σ', StR C G H σ' ς' → Q σ' H) → t vs σ H Q
theorem dgs_nil : DGs C [] [] := by
  refine ⟨_, pgs_nil, fun G H σ ς ds vs ς' Q S r h q => ?_⟩
  cases ds with
  | nil =>
    cases h
    exact ⟨r, q σ S⟩
  | cons d ds => cases h
theorem dgs_cons {i : Nat} {is : List Nat} {x : Str} {es : List Expr} (hN : C.X.N.Nodup) (hi : C.X.N[i]? = some x) (hx : Loc C.X.env.scope x) (h2 : DGs C es is)
    (hf : C.X.fn x = true ∨ C.X.env.scope.names.lookup x = some .local := by first | exact .inl rfl | exact .inr rfl | assumption)
    (hs : (assignEach (.Name x pos :: es) C.X.env).map (·.2) = assign (.Name x pos) C.X.env :: (assignEach es C.X.env).map (·.2) := by rfl) : DGs C (.Name x pos :: es) (i :: is) := by
  obtain ⟨t, p, q⟩ := h2
  refine ⟨_, pgs_cons (pg_name hN hi hx hf) p hs, fun G H σ ς ds vs ς' Q S r h k => ?_⟩
  cases ds with
  | nil => cases h
  | cons d ds =>
    obtain ⟨v, w, rfl, r1, r2⟩ := r
    exact ⟨v, w, rfl, q G H _ _ ds w ς' Q (S.set i r1) r2 h k⟩
def sUnp (is : List Nat) (E : SD → Out D) : SD → Out Fl := fun ς => E ς >>= fun d => match d with
  | .tup ds => setAll is ds ς >>= fun ς' => .ok (.nx ς')
  | _ => .stuck
theorem setAll_len : ∀ {is : List Nat} {ds : List D} {ς ς' : SD}, setAll is ds ς = .ok ς' → ds.length = is.length
  | [], [], _, _, _ => rfl
  | i :: is, d :: ds, ς, ς', h => by
    have := setAll_len (is := is) (ds := ds) h
    simp [this]
  | [], _ :: _, _, _, h => by cases h
  | _ :: _, [], _, _, h => by cases h
def sRet (E : SD → Out D) : SD → Out Fl := fun ς => E ς >>= fun d => .ok (.rt false d)
def sRetF (E : SD → Out D) : SD → Out Fl := fun ς => E ς >>= fun d => .ok (.rt true d)
theorem ds_ret (he : DE C e E) : DS C (.Return (some e) pos) (sRet E) := by
  obtain ⟨t, p, q⟩ := he
  refine ⟨_, ps_ret p, fun G H σ ς W S k => ?_⟩
  unfold sRet at k
  rw [Out.post_bind] at k
  exact q G H σ ς _ S (Out.post_mono k fun d k v H1 G1 S1 a1 b1 r1 => k v H1 G1 S1.toGH b1 r1)
theorem ds_retF (he : DF C e E) : DS C (.Return (some e) pos) (sRetF E) := by
  obtain ⟨t, p, q⟩ := he
  refine ⟨_, ps_ret p, fun G H σ ς W S k => ?_⟩
  unfold sRetF at k
  rw [Out.post_bind] at k
  exact q G H σ ς _ S (Out.post_mono k fun d k p H1 G1 S1 a1 b1 hp hg ow => k _ H1 G1 S1.toGH b1 ⟨p, rfl, S.h0none hp, hg, ow⟩)
def sRetO (i : Nat) : SD → Out Fl := fun ς => match ς[i]? with | some (some (.o, d)) => .ok (.rt true d) | _ => .stuck
theorem ds_retO (i : Nat) {x : Str} {px : Pos} (hN : C.X.N[i]? = some x := by rfl) (hv : Vis C.X.env.scope x := by first | exact Or.inl rfl | exact Or.inr (Or.inl rfl) | exact Or.inr (Or.inr rfl))
    (hd : (x == ("__debug__" : Str)) = false := by decide) (hcd : (x == ("__classdict__" : Str)) = false := by decide) : DS C (.Return (some (.Name x px)) pos) (sRetO i) := by
  refine ⟨_, ps_ret (pe_var (i := i) hN hv hd hcd), fun G H σ ς W S k => ?_⟩
  unfold sRetO at k
  split at k
  · rename_i d z
    obtain ⟨p, a, b, c, w⟩ := S.ow i d z
    exact ⟨_, a, k _ H G S.toGH (Same.refl G) ⟨p, rfl, c, b, w⟩⟩
  · exact k.elim
def sDrop (E : SD → Out D) : SD → Out Fl := fun ς => E ς >>= fun _ => .ok (.nx ς)
def sIf (c : SD → Out Bool) (T U : SD → Out Fl) : SD → Out Fl := fun ς => c ς >>= fun b => if b = true then T ς else U ς
theorem ds_if {c : Expr} {a b : List Stmt} {TC : SD → Out Bool} (hc : DT C c TC) (ha : DSs C a T) (hb : DSs C b U) : DS C (.If c a b pos) (sIf TC T U) := by
  obtain ⟨t0, p0, q0⟩ := hc
  obtain ⟨t1, p1, q1⟩ := ha
  obtain ⟨t2, p2, q2⟩ := hb
  refine ⟨_, ps_if p0 p1 p2, fun G H σ ς W S k => ?_⟩
  unfold sIf at k
  rw [Out.post_bind] at k
  refine q0 G H σ ς _ S (Out.post_mono k fun b k H1 G1 S1 a1 b1 => ?_)
  cases b with
  | true => exact iteT (q1 G1 H1 σ ς W S1 (Out.post_mono (show (T ς).post _ _ from k) fun f k => FlK.later k b1))
  | false => exact iteF (q2 G1 H1 σ ς W S1 (Out.post_mono (show (U ς).post _ _ from k) fun f k => FlK.later k b1))
def sNever : SD → Out Fl := fun _ => .stuck
theorem ds_never : DS C st sNever := ⟨_, ps_never, fun G H σ ς W S k => k.elim⟩
end
def loopD (body : D → SD → Out Fl) : List D → SD → Out Fl
  | [], ς => .ok (.nx ς)
  | x :: xs, ς => body x ς >>= fun f => match f with
    | .nx ς' => loopD body xs ς'
    | .ct ς' => loopD body xs ς'
    | .bk ς' => .ok (.nx ς')
    | .rt b d => .ok (.rt b d)
def DG (C : Dc) (tg : Expr) (g : D → SD → Out SD) : Prop := ∃ t, PG C.X tg t ∧ ∀ G H σ ς d v ς' (Q : St → Hp → Prop), StR C G H σ ς → Rep C.X.K C.CT G d v → g d ς = .ok ς' → (∀ σ', StR C G H σ' ς' → Q σ' H) → t v σ H Q
def gN (i : Nat) : D → SD → Out SD := fun d ς => .ok (ς.set i (some (.k, d)))
def gT (is : List Nat) : D → SD → Out SD := fun d ς => match d with | .tup ds => setAll is ds ς | _ => .stuck
def noExc {α β γ : Type} (g : α → β → Out γ) : Prop := ∀ a b x, g a b ≠ .exc x
theorem noExc_gN (i : Nat) : noExc (gN i) := fun _ _ _ h => by cases h
theorem noExc_setAll (is : List Nat) : ∀ (ds : List D) (ς : SD) x, setAll is ds ς ≠ .exc x := by
  induction is with
  | nil => intro ds ς x h; cases ds <;> cases h
  | cons i is ih => intro ds ς x h; cases ds with
    | nil => cases h
    | cons d ds => exact ih ds _ x h
theorem noExc_gT (is : List Nat) : noExc (gT is) := fun d ς x h => by
  cases d with
  | tup ds => exact noExc_setAll is ds ς x h
  | _ => cases h
section
variable {C : Dc} {e tg iter : Expr} {E : SD → Out D} {body : List Stmt} {T U : SD → Out Fl} {pos : Pos} {g : D → SD → Out SD}
theorem dg_name {i : Nat} {x : Str} (hN : C.X.N.Nodup) (hi : C.X.N[i]? = some x) (hx : Loc C.X.env.scope x)
    (hf : C.X.fn x = true ∨ C.X.env.scope.names.lookup x = some .local := by first | exact .inl rfl | exact .inr rfl | assumption) : DG C (.Name x pos) (gN i) :=
  ⟨_, pg_name hN hi hx hf, fun G H σ ς d v ς' Q S r h k => by cases h; exact k _ (S.set i r)⟩
theorem dg_tup {es : List Expr} {is : List Nat} {k : Nat} (hc : C.X.calm = true) (hg : DGs C es is) (hn : (assignEach es C.X.env).length = is.length := by rfl) (hst : (assignEach es C.X.env).findIdx? (·.1) = none := by rfl) :
    DG C (.Tuple es k pos) (gT is) := by
  obtain ⟨t2, p2, q2⟩ := hg
  refine ⟨_, pg_tup hc p2 hn hst, fun G H σ ς d v ς' Q S r h k => ?_⟩
  cases d with
  | tup ds =>
    obtain ⟨a, vs, rfl, h2, h3⟩ := r
    exact ⟨a, vs, rfl, Same.sqT S.sub h2, by rw [← h3.length]; exact setAll_len h, q2 G H σ ς ds vs ς' Q S h3 h k⟩
  | _ => cases h
def sFor (g : D → SD → Out SD) (its : SD → Out (List D)) (T : SD → Out Fl) : SD → Out Fl := fun ς => its ς >>= fun xs => loopD (fun x ς => g x ς >>= fun ς' => T ς') xs ς
def itL (E : SD → Out D) : SD → Out (List D) := fun ς => E ς >>= fun d => match d with | .lst xs => .ok xs | _ => .stuck
def itT (E : SD → Out D) : SD → Out (List D) := fun ς => E ς >>= fun d => match d with | .tup xs => .ok xs | _ => .stuck
theorem turnD {W : Ends} {x : D} {v : V} {xs : List D} {G H : Hp} {σ : St} {ς : SD} {tb : TS} {tt : TG} {N : L2.St → Hp → Prop} (hne : noExc g)
    (hg : ∀ G H σ ς d v ς' (Q : St → Hp → Prop), StR C G H σ ς → Rep C.X.K C.CT G d v → g d ς = .ok ς' → (∀ σ', StR C G H σ' ς' → Q σ' H) → tt v σ H Q)
    (hb : ∀ G H σ ς W, StR C G H σ ς → (T ς).post (FlK C G W) C.XD → tb W σ H)
    (S : StR C G H σ ς) (r : Rep C.X.K C.CT G x v) (q : (loopD (fun x ς => g x ς >>= fun ς' => T ς') (x :: xs) ς).post (FlK C G W) C.XD)
    (hN : ∀ σ' H' G' ς', StR C G' H' σ' ς' → Same G G' → (loopD (fun x ς => g x ς >>= fun ς' => T ς') xs ς').post (FlK C G' W) C.XD → N σ' H') :
    tt v σ H fun σ2 H2 => tb { W with nx := N, ct := N, bk := W.nx } σ2 H2 := by
  have q' : ((g x ς >>= fun ς' => T ς') >>= fun f => match f with
    | .nx ς' => loopD (fun x ς => g x ς >>= fun ς' => T ς') xs ς'
    | .ct ς' => loopD (fun x ς => g x ς >>= fun ς' => T ς') xs ς'
    | .bk ς' => .ok (.nx ς')
    | .rt b d => .ok (.rt b d)).post (FlK C G W) C.XD := q
  rw [Out.post_bind, Out.post_bind] at q'
  cases z : g x ς with
  | exc y => exact absurd z (hne _ _ _)
  | stuck => rw [z] at q'; exact q'.elim
  | ok ς1 =>
    rw [z] at q'
    refine hg G H σ ς x v ς1 _ S r z fun σ1 S1 => hb G H σ1 ς1 _ S1 (Out.post_mono q' fun f k => ?_)
    cases f with
    | nx ς' => exact fun σ' H' G' S' s' => hN σ' H' G' ς' S' s' (Out.post_mono (show (loopD _ xs ς').post _ _ from k) fun f k => FlK.later k s')
    | ct ς' => exact fun σ' H' G' S' s' => hN σ' H' G' ς' S' s' (Out.post_mono (show (loopD _ xs ς').post _ _ from k) fun f k => FlK.later k s')
    | bk ς' => exact fun σ' H' G' S' s' => (show FlK C G W (.nx ς') from k) σ' H' G' S' s'
    | rt b d => exact k
theorem drop_cons {α : Type} {xs : List α} {i : Nat} {x : α} (h : xs[i]? = some x) : xs.drop i = x :: xs.drop (i + 1) := by
  obtain ⟨l, e⟩ := List.getElem?_eq_some_iff.mp h
  rw [List.drop_eq_getElem_cons l, e]
def rangeD (lo : Int) (n : Nat) : List D := (List.range n).map fun (i : Nat) => D.int (lo + i)
theorem rangeD_get {lo : Int} {n i : Nat} (h : i < n) : (rangeD lo n)[i]? = some (D.int (lo + i)) := by
  unfold rangeD
  rw [List.getElem?_map, List.getElem?_range h]; rfl
theorem rangeD_len {lo : Int} {n : Nat} : (rangeD lo n).length = n := by simp [rangeD]
def small62 (i : Int) : Bool := decide (-(2 ^ 62) ≤ i) && decide (i < 2 ^ 62)
def itR1 (A : SD → Out D) : SD → Out (List D) := fun ς => A ς >>= fun d => match d with
  | .int n => if small62 n = true then .ok (rangeD 0 n.toNat) else .stuck
  | _ => .stuck
def itR2 (A B : SD → Out D) : SD → Out (List D) := fun ς => A ς >>= fun d => B ς >>= fun d' => match d, d' with
  | .int a, .int b => if (small62 a && small62 b) = true then .ok (rangeD a (b - a).toNat) else .stuck
  | _, _ => .stuck
theorem small62_of {i : Int} (h : small62 i = true) : -(2 ^ 62) ≤ i ∧ i < 2 ^ 62 := by
  unfold small62 at h
  rw [Bool.and_eq_true] at h
  exact ⟨of_decide_eq_true h.1, of_decide_eq_true h.2⟩
def whileN (c : SD → Out Bool) (b : SD → Out Fl) : Nat → SD → Out Fl
  | 0, _ => .stuck
  | n + 1, ς => c ς >>= fun t => if t = true then b ς >>= fun f => match f with
      | .nx ς' => whileN c b n ς'
      | .ct ς' => whileN c b n ς'
      | .bk ς' => .ok (.nx ς')
      | .rt b d => .ok (.rt b d)
    else .ok (.nx ς)
def sWhile (m : SD → Nat) (c : SD → Out Bool) (b : SD → Out Fl) : SD → Out Fl := fun ς => whileN c b (m ς) ς
theorem ds_while (m : SD → Nat) {c : Expr} {TC : SD → Out Bool} (hp : PassesOwn (model C.X.prog C.X.w) C.X.A C.X.env C.X.xe) (hc : DT C c TC) (hb : DSs C body T) : DS C (.While c body [] pos) (sWhile m TC T) := by
  obtain ⟨t0, p0, q0⟩ := hc
  obtain ⟨t1, p1, q1⟩ := hb
  refine ⟨_, ps_while hp p0 p1, fun G H σ ς W S k => ?_⟩
  refine ⟨fun n σ' H' => ∃ G' ς', StR C G' H' σ' ς' ∧ (whileN TC T n ς').post (FlK C G' W) C.XD, ⟨m ς, G, ς, S, k⟩, ?_⟩
  rintro n σ' H' ⟨G', ς', S', k'⟩
  cases n with
  | zero => exact k'.elim
  | succ n =>
    rw [whileN, Out.post_bind] at k'
    refine q0 G' H' σ' ς' _ S' (Out.post_mono k' fun b k H1 G1 S1 a1 b1 => ?_)
    cases b with
    | false => exact iteF ((show FlK C G' W (.nx ς') from k) σ' H1 G1 S1 b1)
    | true =>
      rw [if_pos rfl, Out.post_bind] at k
      refine iteT ⟨fun σ2 H2 => ∃ G2 ς2, StR C G2 H2 σ2 ς2 ∧ (whileN TC T n ς2).post (FlK C G2 W) C.XD, fun σ2 H2 h => ⟨n, Nat.lt_succ_self n, h⟩, ?_⟩
      refine q1 G1 H1 σ' ς' _ S1 (Out.post_mono k fun f k => ?_)
      cases f with
      | nx ς2 => exact fun σ2 H2 G2 S2 s2 => ⟨G2, ς2, S2, Out.post_mono (show (whileN TC T n ς2).post _ _ from k) fun f k => FlK.later k (b1.trans s2)⟩
      | ct ς2 => exact fun σ2 H2 G2 S2 s2 => ⟨G2, ς2, S2, Out.post_mono (show (whileN TC T n ς2).post _ _ from k) fun f k => FlK.later k (b1.trans s2)⟩
      | bk ς2 => exact fun σ2 H2 G2 S2 s2 => (show FlK C G' W (.nx ς2) from k) σ2 H2 G2 S2 (b1.trans s2)
      | rt b d => exact FlK.later (show FlK C G' W (.rt b d) from k) b1
noncomputable def fuelC (c : SD → Out Bool) (b : SD → Out Fl) (ς : SD) : Nat := by
  classical exact if h : ∃ n, whileN c b n ς ≠ .stuck then Classical.choose h else 0
noncomputable def sWhileC (c : SD → Out Bool) (b : SD → Out Fl) : SD → Out Fl := sWhile (fuelC c b) c b
theorem ds_whileC {c : Expr} {TC : SD → Out Bool} (hp : PassesOwn (model C.X.prog C.X.w) C.X.A C.X.env C.X.xe) (hc : DT C c TC) (hb : DSs C body T) : DS C (.While c body [] pos) (sWhileC TC T) := ds_while (fuelC TC T) hp hc hb
theorem whileN_succ {c : SD → Out Bool} {b : SD → Out Fl} : ∀ (n : Nat) (ς : SD), whileN c b n ς ≠ .stuck → whileN c b (n + 1) ς = whileN c b n ς
  | 0, ς, h => absurd rfl h
  | n + 1, ς, h => by
    rw [whileN, whileN]
    rw [whileN] at h
    cases hc : c ς with
    | stuck => rfl
    | exc _ => rfl
    | ok t =>
      rw [hc] at h
      cases t with
      | false => rfl
      | true =>
        have h' : (b ς >>= fun f => match f with
          | .nx ς' => whileN c b n ς'
          | .ct ς' => whileN c b n ς'
          | .bk ς' => .ok (.nx ς')
          | .rt b d => .ok (.rt b d)) ≠ .stuck := h
        show (b ς >>= fun f => match f with
          | .nx ς' => whileN c b (n + 1) ς'
          | .ct ς' => whileN c b (n + 1) ς'
          | .bk ς' => .ok (.nx ς')
          | .rt b d => .ok (.rt b d)) = (b ς >>= fun f => match f with
          | .nx ς' => whileN c b n ς'
          | .ct ς' => whileN c b n ς'
          | .bk ς' => .ok (.nx ς')
          | .rt b d => .ok (.rt b d))
        cases hb : b ς with
        | stuck => rfl
        | exc _ => rfl
        | ok f =>
          rw [hb] at h'
          cases f with
          | nx ς' => exact whileN_succ n ς' h'
          | ct ς' => exact whileN_succ n ς' h'
          | bk _ => rfl
          | rt _ _ => rfl
theorem whileN_le {c : SD → Out Bool} {b : SD → Out Fl} {ς : SD} {n : Nat} (h : whileN c b n ς ≠ .stuck) : ∀ k, whileN c b (n + k) ς = whileN c b n ς
  | 0 => rfl
  | k + 1 => by
    have ih := whileN_le h k
    rw [← Nat.add_assoc, whileN_succ (n + k) ς (by rw [ih]; exact h), ih]
theorem sWhileC_eq {c : SD → Out Bool} {b : SD → Out Fl} {ς : SD} (n : Nat) (h : whileN c b n ς ≠ .stuck) : sWhileC c b ς = whileN c b n ς := by
  have hx : ∃ n, whileN c b n ς ≠ .stuck := ⟨n, h⟩
  have e : fuelC c b ς = Classical.choose hx := by unfold fuelC; rw [dif_pos hx]
  unfold sWhileC sWhile
  rw [e]
  have h2 := Classical.choose_spec hx
  generalize Classical.choose hx = m at h2 ⊢
  rcases Nat.le_total n m with hl | hl
  · obtain ⟨k, rfl⟩ := Nat.exists_eq_add_of_le hl
    exact whileN_le h k
  · obtain ⟨k, rfl⟩ := Nat.exists_eq_add_of_le hl
    exact (whileN_le h2 k).symm
theorem sWhileC_stuck {c : SD → Out Bool} {b : SD → Out Fl} {ς : SD} (h : ∀ n, whileN c b n ς = .stuck) : sWhileC c b ς = .stuck := h _
theorem sWhileC_unroll (c : SD → Out Bool) (b : SD → Out Fl) (ς : SD) : sWhileC c b ς = (c ς >>= fun t => if t = true then b ς >>= fun f => match f with
      | .nx ς' => sWhileC c b ς'
      | .ct ς' => sWhileC c b ς'
      | .bk ς' => .ok (.nx ς')
      | .rt b d => .ok (.rt b d)
    else .ok (.nx ς)) := by
  have key : ∀ n, whileN c b (n + 1) ς ≠ .stuck → sWhileC c b ς = whileN c b (n + 1) ς := fun n h => sWhileC_eq _ h
  cases hc : c ς with
  | stuck => exact sWhileC_stuck fun n => by cases n with | zero => rfl | succ n => rw [whileN, hc]; rfl
  | exc x => exact (sWhileC_eq 1 (by rw [whileN, hc]; exact fun z => nomatch z)).trans (by rw [whileN, hc]; rfl)
  | ok t =>
    cases t with
    | false => exact (sWhileC_eq 1 (by rw [whileN, hc]; exact fun z => nomatch z)).trans (by rw [whileN, hc]; rfl)
    | true =>
      cases hb : b ς with
      | stuck => exact (sWhileC_stuck fun n => by cases n with | zero => rfl | succ n => rw [whileN, hc]; show (b ς >>= _) = _; rw [hb]; rfl).trans (by show _ = Out.stuck; rfl)
      | exc x => exact (sWhileC_eq 1 (by rw [whileN, hc]; show (b ς >>= _) ≠ _; rw [hb]; exact fun z => nomatch z)).trans (by rw [whileN, hc]; show (b ς >>= _) = _; rw [hb]; rfl)
      | ok f =>
        have go : ∀ ς', (f = .nx ς' ∨ f = .ct ς') → (∀ n, whileN c b (n + 1) ς = whileN c b n ς') → sWhileC c b ς = sWhileC c b ς' := fun ς' _ e => by
          by_cases hx : ∃ n, whileN c b n ς' ≠ .stuck
          · obtain ⟨n, hn⟩ := hx
            rw [sWhileC_eq n hn, sWhileC_eq (n + 1) (by rw [e]; exact hn), e]
          · have hs : ∀ n, whileN c b n ς' = .stuck := fun n => Classical.byContradiction fun z => hx ⟨n, z⟩
            rw [sWhileC_stuck hs]
            exact sWhileC_stuck fun n => by cases n with | zero => rfl | succ n => rw [e]; exact hs n
        cases f with
        | nx ς' => exact go ς' (.inl rfl) fun n => by rw [whileN, hc]; show (b ς >>= _) = _; rw [hb]; rfl
        | ct ς' => exact go ς' (.inr rfl) fun n => by rw [whileN, hc]; show (b ς >>= _) = _; rw [hb]; rfl
        | bk ς' => exact (sWhileC_eq 1 (by rw [whileN, hc]; show (b ς >>= _) ≠ _; rw [hb]; exact fun z => nomatch z)).trans (by rw [whileN, hc]; show (b ς >>= _) = _; rw [hb]; rfl)
        | rt r d => exact (sWhileC_eq 1 (by rw [whileN, hc]; show (b ς >>= _) ≠ _; rw [hb]; exact fun z => nomatch z)).trans (by rw [whileN, hc]; show (b ς >>= _) = _; rw [hb]; rfl)
end
end DL
set_option Elab.async false
set_option linter.all false
set_option maxRecDepth 100000
namespace DL
open PySem PySem.Spec PyProof.Rows L2
def RetG (K : PySem.W.Frag) (CT : CTab) (fr : Bool) (H0 G' H' : Hp) (d : D) (v : V) : Prop :=
  if (fr && !d.scal) = true then ∃ p, v = .ref p ∧ H0 p = none ∧ G' p = none ∧ Own K CT G' H' p d else Rep K CT G' d v
def retF (fr : Bool) : Fl → Out D
  | .rt b d => if (!fr || b || d.scal) = true then .ok d else .stuck
  | .nx _ => .ok .non
  | _ => .stuck
def bodyF (fr : Bool) (n len : Nat) (T : SD → Out Fl) : List D → Out D := fun ds =>
  if ds.length = n then T (ds.map (fun d => some (.k, d)) ++ List.replicate (len - n) none) >>= retF fr else .stuck
def SpD (K : PySem.W.Frag) (CT : CTab) (fr : Bool) (m : List D → Out D) : Sp := fun vs H Q _ => ∃ ds G0, Same G0 H ∧ RepL K CT G0 ds vs ∧
  (m ds).post (fun d => ∀ v H' G', Same G0 G' → Same H H' → Same G' H' → (∀ b, G0 b = none → G' b ≠ none → H b = none) → RetG K CT fr H G' H' d v → Q v H') (fun _ => False)
structure FunV (K : PySem.W.Frag) (x qual : Str) (st : Stmt) (f : Addr) (fd : FuncData) (dV : Value) : Prop where
  ex : ∃ (oc : Value) (od : Option Addr) (kV doc pm : Value) (an : Option Addr) (cdv ct : Value) (osl : Array (Option Value)),
    fd = PySem.W.fnOf x qual (defArgs st) (defBody st) (defScope st) dV kV doc pm an cdv ct ∧ K.lookup f = some ⟨oc, od, .func fd, osl⟩ ∧ PySem.W.codeIn K cdv qual = true
  kp : PySem.W.keepIn K (.ref f) = true
theorem funV_mk {K : PySem.W.Frag} {x qual : Str} {st : Stmt} {f : Addr} {oc : Value} {od an : Option Addr} {osl : Array (Option Value)} {dV kV doc pm cdv ct : Value} (l : K.lookup f = some ⟨oc, od, .func (PySem.W.fnOf x qual (defArgs st) (defBody st) (defScope st) dV kV doc pm an cdv ct), osl⟩)
    (c : PySem.W.codeIn K cdv qual = true) (k : PySem.W.keepIn K (.ref f) = true) : FunV K x qual st f (PySem.W.fnOf x qual (defArgs st) (defBody st) (defScope st) dV kV doc pm an cdv ct) dV := ⟨⟨oc, od, kV, doc, pm, an, cdv, ct, osl, rfl, l, c⟩, k⟩
theorem FunV.binds {K : PySem.W.Frag} {x qual : Str} {st : Stmt} {f : Addr} {fd : FuncData} {ps : List Str} (F : FunV K x qual st f fd .none)
    (h : ∀ (kV doc pm : Value) (an : Option Addr) (cdv ct : Value) (us : List Value), us.length = ps.length → bindArgs (PySem.W.fnOf x qual (defArgs st) (defBody st) (defScope st) .none kV doc pm an cdv ct) ⟨us, []⟩ = pure (ps.zip us)) : Binds K fd ps [] := by
  obtain ⟨oc, od, kV, doc, pm, an, cdv, ct, osl, rfl, lk, hcd⟩ := F.ex
  exact .all (h kV doc pm an cdv ct)
abbrev dcOf (P : Program) (w : World) (K : PySem.W.Frag) (mg : Str → Option Value) (base : Heap) (CT : CTab) (N : List Str) (qual : Str) (sc : Scope) (f : Addr) (cdv : Value) (A : Around) (outer : List Env) (s : Shared) (H : Hp) (E : XK) (G : Hp) : Dc :=
  { X := (cxOf CX0 P w K mg base N qual sc f cdv A outer s H E).nox, CT := CT, G0 := G, XD := fun _ => False, B := H, M := fun _ => False }
theorem start_get {N : List Str} {vs : List V} {i : Nat} {v : V} (h : vs[i]? = some v) : (L2.start N vs)[i]? = some (some v) := by
  unfold L2.start
  have hi : i < vs.length := (List.getElem?_eq_some_iff.mp h).1
  rw [List.getElem?_append_left (by simpa using hi), List.getElem?_map, h]; rfl
theorem slots_get {ds : List D} {k : Nat} {i : Nat} {x : SM × D} (h : (ds.map (fun d => some (SM.k, d)) ++ List.replicate k (none : Option (SM × D)))[i]? = some (some x)) : ∃ d, ds[i]? = some d ∧ x = (.k, d) := by
  by_cases hi : i < ds.length
  · rw [List.getElem?_append_left (by simpa using hi), List.getElem?_map] at h
    cases e : ds[i]? with
    | none => rw [e] at h; cases h
    | some d => rw [e] at h; cases h; exact ⟨d, rfl, rfl⟩
  · rw [List.getElem?_append_right (by simpa using hi), List.getElem?_replicate] at h
    split at h <;> cases h
theorem GH.freezeR {C : Dc} {G' H' : Hp} (S : GH C G' H') {p : Addr} {o : HO} (hp : H' p = some o) (hg : G' p = none) (h0 : C.X.H₀ p = none) : GH C (upd G' p o) H' where
  sub := fun b u q => by
    by_cases hb : b = p
    · subst hb; rw [upd_same] at q; cases q; exact hp
    · rw [upd_ne hb] at q; exact S.sub b u q
  g0 := S.g0.trans (same_upd hg)
  new := fun b h1 h2 => by
    by_cases hb : b = p
    · subst hb; exact h0
    · rw [upd_ne hb] at h2; exact S.new b h1 h2
  fr := S.fr
  dom := S.dom
  bs := S.bs
  bh := S.bh
theorem fnV {P : Program} {w : World} {K : PySem.W.Frag} {mg : Str → Option Value} {base : Heap} {CT : CTab} {fr : Bool} {x qual : Str} {st : Stmt} {f : Addr} {fd : FuncData} {dV : Value} {N ps : List Str} {k : Nat} {T : SD → Out Fl}
    (F : FunV K x qual st f fd dV) (S : FnScope N ps (defScope st))
    (hb : ∀ (cdv : Value) (A : Around) (outer : List Env) (s : Shared) (H : Hp) (E : XK) (G : Hp), Room k (A.deeper (envOfC qual (defScope st) s.heap.objs.size f cdv)) → DSs (dcOf P w K mg base CT N qual (defScope st) f cdv A outer s H E G) (defBody st) T) :
    FnOk P w K mg base CX0 (k + 1) f fd ps (SpD K CT fr (bodyF fr ps.length N.length T)) := by
  obtain ⟨oc, od, kV, doc, pm, an, cdv, ct, osl, rfl, lk, hcd⟩ := F.ex
  have hpl : ps.length ≤ N.length := by have := congrArg List.length S.pre; rw [List.length_take] at this; omega
  have len : ∀ vs H Q E, SpD K CT fr (bodyF fr ps.length N.length T) vs H Q E → vs.length = ps.length := by
    intro vs H Q E ⟨ds, G0, sub, r, q⟩
    unfold bodyF at q
    by_cases hl : ds.length = ps.length
    · rw [← r.length]; exact hl
    · rw [if_neg hl] at q; exact q.elim
  refine fn_of lk hcd S len fun A outer s H vs Q E hr hsp => ?_
  have hlen := len vs H Q E hsp
  obtain ⟨ds, G0, sub, r, q⟩ := hsp
  obtain ⟨t, p1, q1⟩ := hb cdv A outer s H E G0 hr
  have hl : ds.length = ps.length := by rw [r.length]; exact hlen
  refine ⟨t, p1.nox, ?_⟩
  unfold bodyF at q
  rw [if_pos hl, Out.post_bind] at q
  have S0 : StR (dcOf P w K mg base CT N qual (defScope st) f cdv A outer s H E G0) G0 H (L2.start N vs) (ds.map (fun d => some (.k, d)) ++ List.replicate (N.length - ps.length) none) := {
    sub := sub
    g0 := Same.refl _
    new := fun b h1 h2 => absurd h1 h2
    fr := fun b o e _ => e
    dom := fun b e => e
    bs := Same.refl _
    bh := fun b e => e
    len := by unfold L2.start; simp; omega
    fz := fun i d e => by
      obtain ⟨d', e1, e2⟩ := slots_get e
      cases e2
      obtain ⟨v, e3, rv⟩ := r.get e1
      exact ⟨v, start_get e3, rv⟩
    ow := fun i d e => by
      obtain ⟨d', e1, e2⟩ := slots_get e
      cases e2
    ln := fun i d e => by
      obtain ⟨d', e1, e2⟩ := slots_get e
      cases e2
    inj := fun i j d e p _ h => by
      obtain ⟨d', e1, e2⟩ := slots_get h
      cases e2
    sf := fun i d e => by
      obtain ⟨d', e1, e2⟩ := slots_get e
      cases e2
    su := fun i j d e h => by
      obtain ⟨d', e1, e2⟩ := slots_get h
      cases e2 }
  refine q1 G0 H (L2.start N vs) _ _ S0 (Out.post_mono q fun fl kk => ?_)
  cases fl with
  | nx ς' => exact fun σ' H' G' S' s' => kk .non H' G' s' (fun b o e => S'.fr b o e id) S'.sub S'.new (by unfold RetG; rw [if_neg (by cases fr <;> decide)]; rfl)
  | bk ς' => exact fun σ' H' G' S' s' => kk.elim
  | ct ς' => exact fun σ' H' G' S' s' => kk.elim
  | rt b d =>
    intro v H' G' S' s' ret
    have kk' : (if (!fr || b || d.scal) = true then Out.ok d else Out.stuck).post (fun d => ∀ v H' G', Same G0 G' → Same H H' → Same G' H' → (∀ b, G0 b = none → G' b ≠ none → H b = none) → RetG K CT fr H G' H' d v → Q v H') (fun _ => False) := kk
    rcases post_ite kk' with ⟨hc, k2⟩ | ⟨_, k2⟩
    · have k3 : ∀ v H' G', Same G0 G' → Same H H' → Same G' H' → (∀ b, G0 b = none → G' b ≠ none → H b = none) → RetG K CT fr H G' H' d v → Q v H' := k2
      cases b with
      | false =>
        refine k3 v H' G' s' (fun b o e => S'.fr b o e id) S'.sub S'.new ?_
        unfold RetG
        have hn : ¬ (fr && !d.scal) = true := by revert hc; cases fr <;> cases d.scal <;> simp
        rw [if_neg hn]
        exact ret
      | true =>
        obtain ⟨p, rfl, h0, hg, ow⟩ := (show ∃ p, v = .ref p ∧ H p = none ∧ G' p = none ∧ Own K CT G' H' p d from ret)
        cases fr with
        | true =>
          refine k3 _ H' G' s' (fun b o e => S'.fr b o e id) S'.sub S'.new ?_
          have hs : d.scal = false := by cases d <;> first | rfl | exact ow.elim
          unfold RetG
          rw [if_pos (by rw [hs]; rfl)]
          exact ⟨p, rfl, h0, hg, ow⟩
        | false =>
          obtain ⟨o, ho⟩ := ow.there
          have S2 := GH.freezeR S' ho hg h0
          refine k3 _ H' _ (s'.trans (same_upd hg)) (fun b o e => S2.fr b o e id) S2.sub S2.new ?_
          unfold RetG
          rw [if_neg (by simp)]
          exact ow.known hg ho
    · exact k2.elim
theorem FnOk.as {P : Program} {w : World} {K : PySem.W.Frag} {mg : Str → Option Value} {base : Heap} {CT : CTab} {fr : Bool} {k : Nat} {f : Addr} {fd : FuncData} {ps : List Str} {m m' : List D → Out D}
    (F : FnOk P w K mg base CX0 k f fd ps (SpD K CT fr m)) (h : ∀ ds, m' ds = .stuck ∨ m' ds = m ds) : FnOk P w K mg base CX0 k f fd ps (SpD K CT fr m') := by
  refine F.imp fun vs H Q E ⟨ds, G0, sub, r, q⟩ => ⟨ds, G0, sub, r, ?_⟩
  rcases h ds with e | e
  · rw [e] at q; exact q.elim
  · rw [← e]; exact q
def DefOk (P : Program) (w : World) (K : PySem.W.Frag) (mg : Str → Option Value) (base : Heap) (CT : CTab) (x : Str) (k : Nat) (fr : Bool) (dd : List D) (m : List D → Out D) : Prop :=
  ∃ f fd ps ds, FnOk P w K mg base CX0 k f fd ps (SpD K CT fr m) ∧ mg x = some (.ref f) ∧ PySem.W.keepIn K (.ref f) = true ∧ Binds K fd ps ds ∧ Vals (dd.map toV) ds
theorem rep_toVs {K : PySem.W.Frag} {CT : CTab} {H : Hp} : ∀ {dd : List D}, dd.all D.scal = true → RepL K CT H dd (dd.map toV)
  | [], _ => rfl
  | d :: ds, h => by
    rw [List.all_cons, Bool.and_eq_true] at h
    exact ⟨_, _, rfl, toV_rep h.1, rep_toVs h.2⟩
def nonScal (o : Out D) : Out D := o >>= fun d => if d.scal = true then .stuck else .ok d
section
variable {C : Dc} {x : Str} {k : Nat} {fr : Bool} {dd : List D} {m : List D → Out D} {e : Expr} {es : List Expr} {A : SD → Out (List D)} {p pos : Pos}
theorem de_f (h : DefOk C.X.prog C.X.w C.X.K C.X.mg C.X.base C.CT x k fr dd m) (hr : Room k C.X.A) (ha : DA C (e :: es) A) (hg : Gl C.X x) (hs : dd.all D.scal = true := by rfl) (hx : ∀ x, ¬ C.XD x := by exact fun _ h => h)
    (hdb : (x == ("__debug__" : Str)) = false := by decide) (he : starEach (e :: es) C.X.env = (false, eval e C.X.env) :: starEach es C.X.env := by rfl) (hpl : (backTo pos (starEach es C.X.env)).any (·.1) = false := by rfl) :
    DE C (.Call (.Name x p) (e :: es) [] pos) (eA (fun xs => m (xs ++ dd)) A) := by
  obtain ⟨f, fd, ps, ds, F, hm, hk, hb, hd⟩ := h
  obtain ⟨t, p1, q1⟩ := ha
  refine ⟨_, pe_call F hr hg hm hk hb hd pass0 p1 hdb he hpl, fun G H σ ς Q S q => ?_⟩
  unfold eA at q
  rw [Out.post_bind] at q
  refine q1 G H σ ς _ S (Out.post_mono q fun xs kk vs H1 G1 S1 a1 b1 r1 => ⟨xs ++ dd, G1, S1.sub, r1.append (rep_toVs hs), ?_⟩)
  cases z : m (xs ++ dd) with
  | stuck => rw [z] at kk; exact kk.elim
  | exc y => rw [z] at kk; exact absurd kk (hx y)
  | ok d =>
    rw [z] at kk
    intro v H' G' g1 h1 s1 n1 ret
    unfold RetG at ret
    by_cases hc : (fr && !d.scal) = true
    · rw [if_pos hc] at ret
      obtain ⟨pp, rfl, h0, hg', ow⟩ := ret
      obtain ⟨o, ho⟩ := ow.there
      have S2 := (S1.grow h1 g1 s1 n1).freeze ho hg' (S1.h0none h0) (fun i d' z1 z2 => by
        obtain ⟨o', ho'⟩ := S1.own_ne z1 z2
        rw [h0] at ho'; cases ho')
      exact (show KD C G H σ ς Q d from kk) _ _ _ S2 (a1.trans h1) ((b1.trans g1).trans (same_upd hg')) (ow.known hg' ho)
    · rw [if_neg hc] at ret
      exact (show KD C G H σ ς Q d from kk) v H' G' (S1.grow h1 g1 s1 n1) (a1.trans h1) (b1.trans g1) ret
end
abbrev bitsI (i : Int) : Nat := Builtin.Int.intBits i
theorem weight_mem : ∀ {xs : List PySem.W.WData} {x : PySem.W.WData}, x ∈ xs → x.weight ≤ PySem.W.WData.weightAll xs
  | y :: r, x, hx => by
    rcases List.mem_cons.mp hx with rfl | hx'
    · simp only [PySem.W.WData.weightAll]; omega
    · have := weight_mem hx'
      simp only [PySem.W.WData.weightAll]; omega
theorem bits_of_lay {ns : List Int} (h : PySem.W.WData.layableAll [PySem.W.WData.list (ns.map PySem.W.WData.int)] = true) : ∀ z ∈ ns, bitsI z ≤ 1048576 := fun z hz => by
  have h1 : (PySem.W.WData.list (ns.map PySem.W.WData.int)).layable = true := by simpa [PySem.W.WData.layableAll] using h
  have h2 : (PySem.W.WData.list (ns.map PySem.W.WData.int)).weight ≤ 2 ^ 20 := of_decide_eq_true (Bool.and_eq_true_iff.mp h1).2
  have h3 : (PySem.W.WData.int z).weight ≤ PySem.W.WData.weightAll (ns.map PySem.W.WData.int) := weight_mem (List.mem_map.mpr ⟨z, hz, rfl⟩)
  have h4 : (PySem.W.WData.int z).weight ≤ 1048576 := by
    have e : (2 : Nat) ^ 20 = 1048576 := by decide
    simp only [PySem.W.WData.weight] at h2
    omega
  simpa only [PySem.W.WData.weight, Builtin.Int.intBits] using h4
theorem walk_of {l : PySem.W.OpenLaw} {n k : Nat} {q : Program} {loose : List Str} {XP : (Str → Option Value) → Heap → Prop} {YP : World → Heap → Prop} {d : DefRec} {K : Params → PySem.W.Frag} {CX : World → CXT} {sp : World → Sp} {x : Str}
    (hn : l.most = some n) (hn2 : n ≤ sizeLine) (hdf : d.params.defaults = []) (hr : Room k callerA)
    (hY : ∀ (w : World) (h : Heap), YP w h → (K w.params).In h)
    (F : ∀ (w : World) (mg : Str → Option Value) (fa : Addr) (h : Heap), (K w.params).In h → h.Ns mainGlobals mg → mg d.name = some (.ref fa) →
      ∃ fd : FuncData, (∀ (s : Shared) (u : Value), BindsTo s fd ⟨[u], []⟩ [(x, u)]) ∧
        ∀ base : Heap, (K w.params).In base → base.Ns mainGlobals mg → FnOk l.prog w (K w.params) mg base (CX w) k fa fd [x] (sp w))
    (hsp : ∀ (w : World) (H : Hp) (a : Addr) (ns : List Int), ns.length ≤ n → (∀ z ∈ ns, bitsI z ≤ 1048576) → Only H → SqL (K w.params) H a (ns.map V.int) → sp w [.ref a] H (fun v _ => v = .bl true) fun _ _ _ => False)
    (hCX : ∀ (w : World) (H : Hp) (s : Shared) (e : Value) (s' : Shared), CX w [] H s (fun _ _ _ => False) e s' → False) :
    PySem.W.WalkO q loose XP YP l.row.toRowW d [] (fun f vs => PySem.call f vs) := by
  intro w s₀ s₁ mg mb G Y fa o pm cd doc dV kV ho hd hcd hD hmg hg args vals as hpre hlay hrd hwl hlo
  obtain rfl : dV = .none := PySem.W.Dflts.none hD hdf
  obtain rfl : kV = .none := PySem.W.Dflts.noKw hD
  obtain ⟨a, vs, ns, rfl, rfl, hobj, hints, hlen⟩ := Att.script_of hn hpre hwl
  have KX := hY w _ Y
  obtain ⟨fd, hb, hF⟩ := F w mg fa _ KX G.T.g hmg
  refine PySem.W.enter_call (codeAny_mono (law_call KX G.T.g G.T.b G.T.builtins G.T.nolimit hg hobj hints (Nat.le_trans hlen hn2) hr hF hb (fun H hO hS => hsp w H a ns hlen (bits_of_lay hlay) hO hS) fun H e s' => hCX w H s₁ e s') fun r s' hq => ?_)
  obtain ⟨rfl, h2, h3, h4⟩ := hq
  exact ⟨.inl ⟨.bool true, .bool true, [], rfl, fun _ => rfl, .bool true, Att.post_true l _, fun _ => ⟨List.Pairwise.nil, fun _ hm => (nomatch hm)⟩⟩, h2, h3, h4⟩
end DL
set_option Elab.async false
set_option linter.all false
set_option maxRecDepth 100000
namespace DL
open PySem PySem.Spec PyProof.Rows L2
def rCatS (K : PySem.W.Frag) : R2 := fun x y H Q => ∃ l b xs zs, x = .ref l ∧ y = .ref b ∧ SqL K H l xs ∧ SqL K H b zs ∧ xs.length + zs.length ≤ sizeLine ∧ ∀ p, H p = none → Q (.ref p) (upd H p (.lst (xs ++ zs)))
theorem op_catS {X : Cx} : OpR X (binaryOp .Add) (rCatS X.K) := by
  intro pins s σ H x y v u Q I rx ry h
  obtain ⟨l, b, xs, zs, rfl, rfl, hH, hB, hz, q⟩ := h
  cases rx
  cases ry
  obtain ⟨its, r, pl, hz1⟩ := I.list hH
  obtain ⟨its2, r2, pl2, hz2⟩ := I.list hB
  obtain ⟨⟨cls, dd, data, sl⟩, n, ho, hc, hdd, hd⟩ := pl
  obtain ⟨⟨cls2, dd2, data2, sl2⟩, n2, ho2, hc2, hdd2, hd2⟩ := pl2
  simp only at hc hd hc2 hd2
  subst hc hd hc2 hd2
  have e : its.toArray ++ its2.toArray = (its ++ its2).toArray := by simp
  have h1 := r.length
  have h2 := r2.length
  refine concat_meets ⟨_, ho, rfl⟩ ⟨_, ho2, rfl⟩ noFill_list_add seq_list_add PySem.F.slot_list_add PySem.F.entry_list_add (PySem.F.args_list_add_2 _ _) (list_addW l b its.toArray its2.toArray n n2 dd dd2 sl sl2 (by rw [List.size_toArray, List.size_toArray]; omega)) ⟨ho, ho2, ?_⟩
  rw [e]
  exact ⟨.ref _, _, I.lnew (t' := s.toks) (r.append r2) (by rw [List.length_append]; omega), rfl, q _ I.fresh⟩
def dCat : D → D → Out D
  | .lst xs, .lst ys => if fits (xs.length + ys.length) = true then .ok (.lst (xs ++ ys)) else .stuck
  | _, _ => .stuck
def dRep : D → D → Out D
  | .lst xs, .int k => if (decide (-(2 ^ 63) ≤ k) && decide (k < 2 ^ 63) && fits (xs.length * k.toNat)) = true then .ok (.lst (List.replicate k.toNat xs).flatten) else .stuck
  | _, _ => .stuck
section
variable {C : Dc} {a b : Expr} {A B : SD → Out D} {pos : Pos}
theorem df_cat (ha : DE C a A) (hb : DE C b B) : DF C (.BinOp a .Add b pos) (e2 dCat A B) := by
  obtain ⟨ta, p1, q1⟩ := ha
  obtain ⟨tb, p2, q2⟩ := hb
  refine ⟨_, pe_op op_catS p1 p2, fun G H σ ς Q S q => ?_⟩
  unfold e2 at q
  rw [Out.post_bind] at q
  refine q1 G H σ ς _ S (Out.post_mono q fun x k v1 H1 G1 S1 a1 b1 r1 => ?_)
  rw [Out.post_bind] at k
  refine q2 G1 H1 σ ς _ S1 (Out.post_mono k fun y k2 v2 H2 G2 S2 a2 b2 r2 => ?_)
  have r1' := Rep.mono b2 x v1 r1
  cases x with
  | lst xs =>
    cases y with
    | lst ys =>
      obtain ⟨p, vs, rfl, h2, h3⟩ := r1'
      obtain ⟨p', vs', rfl, h2', h3'⟩ := r2
      rcases post_ite (show (if fits (xs.length + ys.length) = true then Out.ok (D.lst (xs ++ ys)) else .stuck).post _ _ from k2) with ⟨hc, k3⟩ | ⟨_, k3⟩
      · exact ⟨p, p', vs, vs', rfl, rfl, S2.sub.seq h2, S2.sub.seq h2', by rw [← h3.length, ← h3'.length]; exact of_decide_eq_true hc,
          KF.lst (KF.later (show KF C G H σ ς Q (.lst (xs ++ ys)) from k3) (a1.trans a2) (b1.trans b2)) S2 (h3.append h3')⟩
      · exact k3.elim
    | _ => exact k2.elim
  | _ => cases y <;> exact k2.elim
theorem df_rep (ha : DF C a A) (hb : DB C b B) : DF C (.BinOp a .Mult b pos) (e2 dRep A B) := by
  obtain ⟨ta, p1, q1⟩ := ha
  obtain ⟨tb, p2, q2⟩ := hb
  refine ⟨_, pe_op op_rep p1 p2, fun G H σ ς Q S q => ?_⟩
  unfold e2 at q
  rw [Out.post_bind] at q
  refine q1 G H σ ς _ S (Out.post_mono q fun x k p H1 G1 S1 a1 b1 hp hg ow => ?_)
  rw [Out.post_bind] at k
  refine q2 G1 H1 σ ς _ S1 (Out.post_mono k fun y k2 v2 H2 G2 S2 a2 b2 r2 => ?_)
  cases x with
  | lst xs =>
    cases y with
    | int i =>
      cases r2
      obtain ⟨vs, h2, h3⟩ := ow
      rcases post_ite (show (if (decide (-(2 ^ 63) ≤ i) && decide (i < 2 ^ 63) && fits (xs.length * i.toNat)) = true then Out.ok (D.lst (List.replicate i.toNat xs).flatten) else .stuck).post _ _ from k2) with ⟨hc, k3⟩ | ⟨_, k3⟩
      · rw [Bool.and_eq_true, Bool.and_eq_true] at hc
        have h3' : RepL C.X.K C.CT G2 xs vs := RepL.mono b2 xs vs h3
        exact ⟨p, i, vs, rfl, rfl, a2 _ _ h2, of_decide_eq_true hc.1.1, of_decide_eq_true hc.1.2, by rw [← h3'.length]; exact of_decide_eq_true hc.2,
          KF.lst (KF.later (show KF C G H σ ς Q (.lst (List.replicate i.toNat xs).flatten) from k3) (a1.trans a2) (b1.trans b2)) S2 (h3'.rep i.toNat)⟩
      · exact k3.elim
    | _ => exact k2.elim
  | _ => cases y <;> exact k2.elim
theorem RepL.flat {K : PySem.W.Frag} {CT : CTab} {G H : Hp} : ∀ {ds : List D} {vs : List V}, ds.all D.scal = true → RepL K CT H ds vs → RepL K CT G ds vs
  | [], _, _, h => h
  | d :: ds, _, hs, ⟨v, r, h1, h2, h3⟩ => by
    rw [List.all_cons, Bool.and_eq_true] at hs
    exact ⟨v, r, h1, h2.scal hs.1, RepL.flat hs.2 h3⟩
end
section
variable {C : Dc} {e : Expr} {es : List Expr} {A : SD → Out (List D)} {p pos : Pos}
end
def isaT (T : String) : D → Out Bool
  | .ins _ _ => .stuck
  | .err _ => .stuck
  | .bl _ => .ok (T == "bool" || T == "int")
  | d => .ok (tyName d == T)
structure Kit (K : PySem.W.Frag) (T : String) : Prop where
  h : ∀ d : D, (match d with | .ins _ _ => True | .err _ => True | .bl _ => PySem.W.kitOne K (.type "bool") (.type T) = some (T == "bool" || T == "int") | d => PySem.W.kitOne K (.type (tyName d)) (.type T) = some (tyName d == T))
section
variable {C : Dc} {e : Expr} {E : SD → Out D} {p pc pos : Pos}
theorem de_isaB (T : Str) {T' : String} (k : Kit C.X.K T') (hgT : Gl C.X T) (hmT : C.X.mg T = none) (hb : bootBuiltins T = some (.type T')) (hg : Gl C.X "isinstance") (hm : C.X.mg "isinstance" = none) (h : DB C e E)
    (hn : T ≠ "__name__" := by decide) (hdb : (T == ("__debug__" : Str)) = false := by decide)
    (he : starEach (e :: [.Name T pc]) C.X.env = (false, eval e C.X.env) :: starEach [.Name T pc] C.X.env := by rfl) (he2 : starEach (.Name T pc :: []) C.X.env = (false, eval (.Name T pc) C.X.env) :: starEach [] C.X.env := by rfl)
    (hpl : (backTo pos (starEach [.Name T pc] C.X.env)).any (·.1) = false := by rfl) : DE C (.Call (.Name "isinstance" p) [e, .Name T pc] [] pos) (eIsa (isaT T') E) := by
  refine de_isa (vc := .ty T') (uc := .type T') (pe_bltn hgT hmT hb rfl hn hdb) rfl (fun d => ?_) hg hm h he he2 hpl
  have := k.h d
  cases d <;> first | exact True.intro | exact this
end
theorem kit_of {K : PySem.W.Frag} {T : String} (h1 : PySem.W.kitOne K (.type "NoneType") (.type T) = some ("NoneType" == T)) (h2 : PySem.W.kitOne K (.type "bool") (.type T) = some (T == "bool" || T == "int"))
    (h3 : PySem.W.kitOne K (.type "int") (.type T) = some ("int" == T)) (h4 : PySem.W.kitOne K (.type "str") (.type T) = some ("str" == T)) (h5 : PySem.W.kitOne K (.type "list") (.type T) = some ("list" == T))
    (h6 : PySem.W.kitOne K (.type "tuple") (.type T) = some ("tuple" == T)) (h7 : PySem.W.kitOne K (.type "dict") (.type T) = some ("dict" == T)) : Kit K T := ⟨fun d => by
  cases d with
  | non => exact h1
  | bl _ => exact h2
  | int _ => exact h3
  | str _ => exact h4
  | lst _ => exact h5
  | tup _ => exact h6
  | dic _ => exact h7
  | ins _ _ => exact True.intro
  | err _ => exact True.intro⟩
theorem kit_int {K : PySem.W.Frag} : Kit K "int" := kit_of (by rfl) (by rfl) (by rfl) (by rfl) (by rfl) (by rfl) (by rfl)
theorem kit_bool {K : PySem.W.Frag} : Kit K "bool" := kit_of (by rfl) (by rfl) (by rfl) (by rfl) (by rfl) (by rfl) (by rfl)
def sAppend (i : Nat) (E : SD → Out D) : SD → Out Fl := fun ς => match ς[i]? with
  | some (some (.o, .lst xs)) => E ς >>= fun d => if decide (xs.length < sizeLine) = true then .ok (.nx (ς.set i (some (.o, .lst (xs ++ [d]))))) else .stuck
  | _ => .stuck
def sPutO (i : Nat) (I E : SD → Out D) : SD → Out Fl := fun ς => E ς >>= fun d => match ς[i]? with
  | some (some (.o, .lst xs)) => I ς >>= fun k => match k with
    | .int k => optO (ixN xs.length k) >>= fun j => .ok (.nx (ς.set i (some (.o, .lst (xs.set j d)))))
    | _ => .stuck
  | _ => .stuck
section
variable {C : Dc} {G H : Hp} {σ : St} {ς : SD}
theorem set_self {α : Type} {xs : List α} {i : Nat} {x : α} (h : xs[i]? = some x) : xs.set i x = xs := by
  obtain ⟨hi, e⟩ := List.getElem?_eq_some_iff.mp h
  rw [← e]; exact List.set_getElem_self hi
theorem StR.write (S : StR C G H σ ς) {i : Nat} {p : Addr} {xs ys : List D} {vs ws : List V} (hi : ς[i]? = some (some (.o, .lst xs))) (hp : σ[i]? = some (some (.ref p))) (hH : H p = some (.lst vs)) (r : RepL C.X.K C.CT G ys ws) :
    StR C G (upd H p (.lst ws)) σ (ς.set i (some (.o, .lst ys))) := by
  obtain ⟨p', e1, hg, h0, ow⟩ := S.ow i _ hi
  rw [hp] at e1; cases e1
  have hil : i < ς.length := (List.getElem?_eq_some_iff.mp hi).1
  have ne : ∀ b o, G b = some o → b ≠ p := fun b o e z => by subst z; rw [hg] at e; cases e
  have S' : StR C G (upd H p (.lst ws)) (σ.set i (some (.ref p))) (ς.set i (some (.o, .lst ys))) := {
    sub := fun b o e => by rw [upd_ne (ne b o e)]; exact S.sub b o e
    g0 := S.g0
    new := S.new
    fr := fun b o e m => by
      rw [upd_ne (by rintro rfl; rw [h0] at e; cases e)]; exact S.fr b o e m
    dom := fun b e => by
      by_cases hb : b = p
      · subst hb; exact h0
      · rw [upd_ne hb] at e; exact S.dom b e
    bs := fun b o e => by
      rw [upd_ne (by rintro rfl; rw [S.bh _ h0] at e; cases e)]; exact S.bs b o e
    bh := S.bh
    len := by rw [List.length_set, List.length_set]; exact S.len
    fz := fun j d h => by
      rcases get_set h with ⟨rfl, h2, l⟩ | ⟨hne, h2⟩
      · cases h2
      · rw [set_get_ne hne]; exact S.fz j d h2
    ow := fun j d h => by
      rcases get_set h with ⟨rfl, h2, l⟩ | ⟨hne, h2⟩
      · cases h2
        exact ⟨p, set_get (by rw [S.len]; exact l), hg, h0, ⟨ws, upd_same, r⟩⟩
      · rw [set_get_ne hne]
        obtain ⟨q, a, b, c, w⟩ := S.ow j d h2
        have qp : q ≠ p := by
          rintro rfl
          exact S.inj i j _ _ q hne hi h2 hp a
        exact ⟨q, a, b, c, w.mono (Same.refl G) fun o z => by rw [upd_ne qp]; exact z⟩
    ln := fun j d h => by
      rcases get_set h with ⟨rfl, h2, l⟩ | ⟨hne, h2⟩
      · cases h2
      · rw [set_get_ne hne]; exact S.ln j d h2
    inj := fun j k d1 d2 q hjk h1 h2 h3 => by
      have get : ∀ (j : Nat) d, (ς.set i (some (.o, D.lst ys)))[j]? = some (some (.o, d)) → ∃ d', ς[j]? = some (some (.o, d')) := fun j d h => by
        rcases get_set h with ⟨rfl, h2, l⟩ | ⟨hne, h2⟩
        · exact ⟨_, hi⟩
        · exact ⟨_, h2⟩
      obtain ⟨d1', g1⟩ := get j d1 h1
      obtain ⟨d2', g2⟩ := get k d2 h2
      rw [set_self hp] at h3 ⊢
      exact S.inj j k d1' d2' q hjk g1 g2 h3
    sf := fun j d h => by
      rcases get_set h with ⟨rfl, h2, l⟩ | ⟨hne, h2⟩
      · cases h2
      · rw [set_get_ne hne]
        obtain ⟨q, a, b, c, m, z, w⟩ := S.sf j d h2
        have qp : q ≠ p := by
          rintro rfl
          exact c h0
        exact ⟨q, a, b, c, m, z, w.mono (Same.refl G) fun o z => by rw [upd_ne qp]; exact z⟩
    su := fun j k d1 d2 h1 h2 => by
      rcases get_set h1 with ⟨rfl, q1, l⟩ | ⟨n1, q1⟩
      · cases q1
      · rcases get_set h2 with ⟨rfl, q2, l⟩ | ⟨n2, q2⟩
        · cases q2
        · exact S.su j k d1 d2 q1 q2 }
  rw [set_self hp] at S'
  exact S'
variable {a e : Expr} {A E : SD → Out D} {pos p1 p2 p3 : Pos} {x : Str}
theorem ds_append (i : Nat) (he : DE C e E) (hN : C.X.N[i]? = some x := by rfl) (hv : Vis C.X.env.scope x := by first | exact Or.inl rfl | exact Or.inr (Or.inl rfl) | exact Or.inr (Or.inr rfl))
    (hd : (x == ("__debug__" : Str)) = false := by decide) (hcd : (x == ("__classdict__" : Str)) = false := by decide)
    (hbase : attributeBase (.Name x p1) "append" C.X.env (eval (.Name x p1) C.X.env) = eval (.Name x p1) C.X.env := by rfl)
    (hfew : ((backTo p3 (starEach (e :: []) C.X.env)).all (fun x => !x.1) && (backToKw p3 (keywordEach [] C.X.env)).all (fun x => x.1.isSome)
      && decide ((e :: []).length + ([] : List Keyword).length + (if ([] : List Keyword).isEmpty then 0 else 1) < 30)) = true := by rfl)
    (hline : (p2.endLine == p3.line) = true := by rfl) (hs : starEach (e :: []) C.X.env = (false, eval e C.X.env) :: starEach [] C.X.env := by rfl)
    (hsw : swapsWith (.Call (.Attribute (.Name x p1) "append" p2) [e] [] p3) none pos.line C.X.env = pure false := by rfl) :
    DS C (.Expr (.Call (.Attribute (.Name x p1) "append" p2) [e] [] p3) pos) (sAppend i E) := by
  obtain ⟨t, p, q⟩ := he
  refine ⟨_, ps_expr (pe_bm PySem.F.plainAttrs_list PySem.F.slot_list_append PySem.F.type_list_append mt_append (pe_var (i := i) hN hv hd hcd) (pa_cons p pa_nil hs) hbase hfew hline hs rfl) hsw, fun G H σ ς W S k => ?_⟩
  unfold sAppend at k
  split at k
  · rename_i xs z
    obtain ⟨pp, e1, hg, h0, ow⟩ := S.ow i _ z
    obtain ⟨vs, hv1, hv2⟩ := ow
    rw [Out.post_bind] at k
    refine ⟨_, e1, .inl ⟨rfl, vs, SqL.of hv1⟩, q G H σ ς _ S (Out.post_mono k fun d k2 v H1 G1 S1 a1 b1 r1 => ?_)⟩
    rcases post_ite k2 with ⟨hc, k3⟩ | ⟨_, k3⟩
    · have hl := hv2.length
      refine ⟨pp, vs, v, rfl, rfl, a1 _ _ hv1, by rw [← hl]; exact of_decide_eq_true hc, ?_⟩
      exact k3 σ _ G1 (S1.write z e1 (a1 _ _ hv1) ((RepL.mono b1 xs vs hv2).append (RepL.one r1))) b1
    · exact k3.elim
  · exact k.elim
theorem ds_putO (i : Nat) (hi : DB C a A) (he : DE C e E) (hN : C.X.N[i]? = some x := by rfl) (hv : Vis C.X.env.scope x := by first | exact Or.inl rfl | exact Or.inr (Or.inl rfl) | exact Or.inr (Or.inr rfl))
    (hd : (x == ("__debug__" : Str)) = false := by decide) (hcd : (x == ("__classdict__" : Str)) = false := by decide)
    (hst : ∀ v, assign (.Subscript (.Name x p1) a p2) C.X.env v = (do
      let ov ← holding [v] (eval (.Name x p1) C.X.env)
      let iv ← holding [v, ov] (eval a C.X.env)
      standAt p2
      holding [v, ov, iv] (setItem ov iv v)
      release [v, ov, iv] []) := by intro _; rfl)
    (hs : swapsWithSole [.Subscript (.Name x p1) a p2] e pos.line C.X.env = pure false := by rfl) (hw : swappedStores [.Subscript (.Name x p1) a p2] e C.X.env = pure none := by rfl)
    (h1 : (assignEach [.Subscript (.Name x p1) a p2] C.X.env).map (·.2) = [assign (.Subscript (.Name x p1) a p2) C.X.env] := by rfl) : DS C (.Assign [.Subscript (.Name x p1) a p2] e pos) (sPutO i A E) := by
  obtain ⟨t, p, q⟩ := he
  obtain ⟨t2, p2, q2⟩ := hi
  refine ⟨_, ps_asg p (pg_sub (pe_var (i := i) hN hv hd hcd) p2 set_list hst) hs hw h1, fun G H σ ς W S k => ?_⟩
  unfold sPutO at k
  rw [Out.post_bind] at k
  refine q G H σ ς _ S (Out.post_mono k fun d k v H1 G1 S1 a1 b1 r1 => ?_)
  split at k
  · rename_i xs z
    obtain ⟨pp, e1, hg, h0, ow⟩ := S1.ow i _ z
    obtain ⟨vs, hv1, hv2⟩ := ow
    rw [Out.post_bind] at k
    refine ⟨_, e1, q2 G1 H1 σ ς _ S1 (Out.post_mono k fun y k2 w H2 G2 S2 a2 b2 r2 => ?_)⟩
    cases y with
    | int j =>
      cases r2
      have k2' : (optO (ixN xs.length j) >>= fun j => Out.ok (Fl.nx (ς.set i (some (.o, D.lst (xs.set j d)))))).post (FlK C G W) C.XD := k2
      rw [Out.post_bind] at k2'
      obtain ⟨jj, ej, k3⟩ := post_opt k2'
      refine ⟨pp, vs, j, jj, rfl, rfl, a2 _ _ hv1, by rw [← hv2.length]; exact ej, ?_⟩
      exact k3 σ _ G2 (S2.write z e1 (a2 _ _ hv1) ((RepL.mono b2 xs vs hv2).set (Rep.mono b2 d v r1) jj)) (b1.trans b2)
    | _ => exact k2.elim
  · exact k.elim
end
end DL
set_option Elab.async false
set_option linter.all false
set_option maxRecDepth 100000
namespace DL
open PySem PySem.Spec PyProof.Rows L2
structure DIt (K : PySem.W.Frag) (CT : CTab) (G1 : Hp) (J : It) (ds : List D) : Prop where
  go : ∀ G H (i : Nat) d, Same G1 G → Same G H → ds[i]? = some d → J.go i H ∧ ∀ x H', J.yld i H x H' → ∃ G', Same G G' ∧ Same H H' ∧ Same G' H' ∧ (∀ b, G b = none → G' b ≠ none → H b = none) ∧ Rep K CT G' d x
  stop : ∀ G H, Same G1 G → Same G H → J.stop ds.length H
structure DItB (K : PySem.W.Frag) (CT : CTab) (B1 G1 : Hp) (J : It) (ds : List D) : Prop where
  go : ∀ G H (i : Nat) d, Same G1 G → Same G H → Same B1 H → ds[i]? = some d → J.go i H ∧ ∀ x H', J.yld i H x H' → ∃ G', Same G G' ∧ Same H H' ∧ Same G' H' ∧ (∀ b, G b = none → G' b ≠ none → H b = none) ∧ Rep K CT G' d x
  stop : ∀ G H, Same G1 G → Same G H → Same B1 H → J.stop ds.length H
theorem DIt.b {K : PySem.W.Frag} {CT : CTab} {B1 G1 : Hp} {J : It} {ds : List D} (h : DIt K CT G1 J ds) : DItB K CT B1 G1 J ds := ⟨fun G H i d a b _ e => h.go G H i d a b e, fun G H a b _ => h.stop G H a b⟩
def DIB (C : Dc) (tg iter : Expr) (its : SD → Out (List D)) : Prop := ∃ wi, PI C.X tg iter wi ∧ ∀ G H σ ς (R : It → Hp → Prop), StR C G H σ ς →
  (its ς).post (fun ds => ∀ J H1 G1, StR C G1 H1 σ ς → Same H H1 → Same G G1 → DItB C.X.K C.CT H1 G1 J ds → R J H1) C.XD → wi σ H R
def DI (C : Dc) (tg iter : Expr) (its : SD → Out (List D)) : Prop := ∃ wi, PI C.X tg iter wi ∧ ∀ G H σ ς (R : It → Hp → Prop), StR C G H σ ς →
  (its ς).post (fun ds => ∀ J H1 G1, StR C G1 H1 σ ς → Same H H1 → Same G G1 → DIt C.X.K C.CT G1 J ds → R J H1) C.XD → wi σ H R
section
variable {C : Dc} {e tg iter : Expr} {E : SD → Out D} {body : List Stmt} {T U : SD → Out Fl} {pos : Pos} {g : D → SD → Out SD} {its : SD → Out (List D)}
theorem DI.b (h : DI C tg iter its) : DIB C tg iter its := by
  obtain ⟨wi, p, q⟩ := h
  exact ⟨wi, p, fun G H σ ς R S k => q G H σ ς R S (Out.post_mono k fun ds kd J H1 G1 S1 a b dit => kd J H1 G1 S1 a b dit.b)⟩
theorem dit_list {K : PySem.W.Frag} {CT : CTab} {G1 : Hp} {a : Addr} {ds : List D} {vs : List V} (h : SqL K G1 a vs) (r : RepL K CT G1 ds vs) : DIt K CT G1 (Itl K a) ds where
  go := fun G H i d s1 sH hd => by
    obtain ⟨v, hv, rv⟩ := r.get hd
    have hq : SqL K H a vs := sH.seq (s1.seq h)
    refine ⟨⟨vs, v, hq, hv⟩, fun x H' ⟨e, y⟩ => ?_⟩
    have ex : vs[i]? = some x := y vs hq
    rw [hv] at ex; cases ex
    subst e
    exact ⟨G, Same.refl _, Same.refl _, sH, fun b g n => absurd g n, Rep.mono s1 d v rv⟩
  stop := fun G H s1 sH => ⟨vs, sH.seq (s1.seq h), by rw [r.length]; exact Nat.le_refl _⟩
theorem dit_range {K : PySem.W.Frag} {CT : CTab} {G1 : Hp} {lo : Int} {n : Nat} : DIt K CT G1 (Itr lo n) (rangeD lo n) where
  go := fun G H i d s1 sH hd => by
    have hi : i < n := by
      have := (List.getElem?_eq_some_iff.mp hd).1
      rw [rangeD_len] at this; exact this
    rw [rangeD_get hi] at hd; cases hd
    exact ⟨hi, fun x H' ⟨e, y⟩ => by
      subst e y
      exact ⟨G, Same.refl _, Same.refl _, sH, fun b g n => absurd g n, rfl⟩⟩
  stop := fun G H s1 sH => by rw [rangeD_len]; exact Nat.le_refl _
theorem di_list (h : DE C iter E) : DI C tg iter (itL E) := by
  obtain ⟨t, p, q⟩ := h
  refine ⟨_, pi_list p, fun G H σ ς R S k => ?_⟩
  unfold itL at k
  rw [Out.post_bind] at k
  refine q G H σ ς _ S (Out.post_mono k fun d k v H1 G1 S1 a1 b1 r1 => ?_)
  cases d with
  | lst xs =>
    obtain ⟨a, vs, rfl, h2, h3⟩ := r1
    exact ⟨a, rfl, ⟨vs, S1.sub.seq h2⟩, k _ H1 G1 S1 a1 b1 (dit_list h2 h3)⟩
  | _ => exact k.elim
theorem di_range1 {a : Expr} {A : SD → Out D} {p1 p2 : Pos} (hgl : Gl C.X "range") (hm : C.X.mg "range" = none) (ha : DB C a A)
    (hst : starEach [a] C.X.env = (false, eval a C.X.env) :: starEach [] C.X.env := by rfl) : DI C tg (.Call (.Name "range" p1) [a] [] p2) (itR1 A) := by
  obtain ⟨t, p, q⟩ := ha
  refine ⟨_, pi_range1 hgl hm (pa_cons p pa_nil hst) hst, fun G H σ ς R S k => ?_⟩
  unfold itR1 at k
  rw [Out.post_bind] at k
  refine q G H σ ς _ S (Out.post_mono k fun d k v H1 G1 S1 a1 b1 r => ?_)
  cases d with
  | int n =>
    cases r
    rcases post_ite k with ⟨hc, k⟩ | ⟨_, k⟩
    · obtain ⟨c1, c2⟩ := small62_of hc
      exact ⟨n, rfl, c1, c2, k _ H1 G1 S1 a1 b1 dit_range⟩
    · exact k.elim
  | _ => exact k.elim
theorem di_range2 {a b : Expr} {A B : SD → Out D} {p1 p2 : Pos} (hgl : Gl C.X "range") (hm : C.X.mg "range" = none) (ha : DB C a A) (hb0 : DB C b B)
    (hst : starEach [a, b] C.X.env = (false, eval a C.X.env) :: starEach [b] C.X.env := by rfl) (hst2 : starEach [b] C.X.env = (false, eval b C.X.env) :: starEach [] C.X.env := by rfl) : DI C tg (.Call (.Name "range" p1) [a, b] [] p2) (itR2 A B) := by
  obtain ⟨t0, p0, q0⟩ := ha
  obtain ⟨t3, p3, q3⟩ := hb0
  refine ⟨_, pi_range2 hgl hm (pa_cons p0 (pa_cons p3 pa_nil hst2) hst) (by rw [hst, hst2]; rfl) (by rw [hst2]; rfl), fun G H σ ς R S k => ?_⟩
  unfold itR2 at k
  rw [Out.post_bind] at k
  refine q0 G H σ ς _ S (Out.post_mono k fun d k v H1 G1 S1 a1 b1 r => ?_)
  rw [Out.post_bind] at k
  refine q3 G1 H1 σ ς _ S1 (Out.post_mono k fun d2 k v2 H2 G2 S2 a2 b2 r' => ?_)
  cases d with
  | int n =>
    cases d2 with
    | int m =>
      cases r; cases r'
      rcases post_ite k with ⟨hc, k⟩ | ⟨_, k⟩
      · rw [Bool.and_eq_true] at hc
        obtain ⟨c1, c2⟩ := small62_of hc.1
        obtain ⟨c3, c4⟩ := small62_of hc.2
        exact ⟨n, m, rfl, ⟨c1, c2, c3, c4⟩, k _ H2 G2 S2 (a1.trans a2) (b1.trans b2) dit_range⟩
      · exact k.elim
    | _ => exact k.elim
  | _ => exact k.elim
theorem ds_forI (hp : PassesOwn (model C.X.prog C.X.w) C.X.A C.X.env C.X.xe) (hc : C.X.calm = true) (hi : DI C tg iter its) (hg : DG C tg g) (hne : noExc g) (hb : DSs C body T)
    (hs : ∀ x, foldedSetIterable iter C.X.env x = pure x := by intro _; rfl) : DS C (.For tg iter body [] pos) (sFor g its T) := by
  obtain ⟨t0, p0, q0⟩ := hi
  obtain ⟨t1, p1, q1⟩ := hg
  obtain ⟨t2, p2, q2⟩ := hb
  refine ⟨_, ps_for hp hc p0 p1 p2 hs, fun G H σ ς W S k => ?_⟩
  unfold sFor at k
  rw [Out.post_bind] at k
  refine q0 G H σ ς _ S (Out.post_mono k fun xs k J H1 G1 S1 a1 b1 dit => ?_)
  refine ⟨fun i m σ' H' => m = xs.length - i ∧ i ≤ xs.length ∧ ∃ G' ς', StR C G' H' σ' ς' ∧ Same G1 G' ∧ (loopD (fun x ς => g x ς >>= fun ς' => T ς') (xs.drop i) ς').post (FlK C G' W) C.XD,
    ⟨xs.length, by simp, Nat.zero_le _, G1, ς, S1, Same.refl _, Out.post_mono (by simpa using k) fun f k => FlK.later k b1⟩, ?_⟩
  rintro i m σ' H' ⟨rfl, hle, G', ς', S', s', q'⟩
  by_cases hlt : i < xs.length
  · have hd : xs[i]? = some xs[i] := by simp [hlt]
    obtain ⟨hgo, hy⟩ := dit.go G' H' i _ s' S'.sub hd
    refine .inr ⟨hgo, fun σ2 H2 => ∃ G2 ς2, StR C G2 H2 σ2 ς2 ∧ Same G1 G2 ∧ (loopD (fun x ς => g x ς >>= fun ς' => T ς') (xs.drop (i + 1)) ς2).post (FlK C G2 W) C.XD,
      fun σ2 H2 h2 => ⟨xs.length - (i + 1), by omega, rfl, hlt, h2⟩, fun x H'' y => ?_⟩
    obtain ⟨G'', g1, h1, s1, n1, r⟩ := hy x H'' y
    rw [drop_cons hd] at q'
    exact turnD hne q1 q2 (S'.grow h1 g1 s1 n1) r (Out.post_mono q' fun f k => FlK.later k g1) fun σ2 H2 G2 ς2 S2 s2 q2 => ⟨G2, ς2, S2, (s'.trans g1).trans s2, q2⟩
  · have e : i = xs.length := by omega
    subst e
    rw [List.drop_length] at q'
    exact .inl ⟨dit.stop G' H' s' S'.sub, q' σ' H' G' S' (Same.refl _)⟩
end
def compM (f : D → Out (Option D)) : List D → Out (List D)
  | [] => .ok []
  | x :: xs => f x >>= fun o => compM f xs >>= fun ys => .ok (o.toList ++ ys)
def captS (ς : SD) (j : Nat) : Option (SM × D) := match ς[j]? with
  | some (some (.k, d)) => some (.k, d)
  | some (some (_, d)) => some (.l, d)
  | _ => none
def captD (js : List (Option Nat)) (ς : SD) : SD := js.map fun j => j.bind (captS ς)
def turnC (js : List (Option Nat)) (g : D → SD → Out SD) (c : SD → Out Bool) (e : SD → Out D) (ς : SD) (x : D) : Out (Option D) :=
  g x (captD js ς) >>= fun τ => c τ >>= fun b => if b = true then e τ >>= fun y => .ok (some y) else .ok none
def eComp (js : List (Option Nat)) (its : SD → Out (List D)) (g : D → SD → Out SD) (c : SD → Out Bool) (e : SD → Out D) : SD → Out D := fun ς =>
  its ς >>= fun xs => compM (turnC js g c e ς) xs >>= fun ys => if fits ys.length = true then .ok (.lst ys) else .stuck
def DIf (C : Dc) (ifs : List Expr) (T : SD → Out Bool) : Prop := ∃ t, PIf C.X ifs t ∧ ∀ G H σ ς Q, StR C G H σ ς → (T ς).post (KT C G H σ ς Q) C.XD → t σ H Q
def cTrue : SD → Out Bool := fun _ => .ok true
theorem dif_nil {C : Dc} : DIf C [] cTrue := ⟨_, pif_nil, fun G H σ ς Q S q => KT.now q S⟩
def gKeep (g : D → SD → Out SD) (τ0 : SD) : Prop := ∀ x τ, g x τ0 = .ok τ → τ.length = τ0.length ∧ ∀ (i : Nat) md, τ0[i]? = some (some md) → τ[i]? = some (some md)
theorem gKeep_gN {i : Nat} {τ0 : SD} (h : τ0[i]? = some none) : gKeep (gN i) τ0 := by
  intro x τ e
  cases e
  refine ⟨List.length_set .., fun j md hj => ?_⟩
  rw [set_get_ne (by rintro rfl; rw [h] at hj; cases hj)]; exact hj
theorem keep_setAll : ∀ (is : List Nat) (ds : List D) (τ0 τ : SD), (∀ i ∈ is, ∀ md, τ0[i]? = some (some md) → False) → setAll is ds τ0 = .ok τ → τ.length = τ0.length ∧ ∀ (i : Nat) md, τ0[i]? = some (some md) → τ[i]? = some (some md)
  | [], [], τ0, τ, _, e => by cases e; exact ⟨rfl, fun _ _ h => h⟩
  | i :: is, d :: ds, τ0, τ, h, e => by
    have e' : setAll is ds (τ0.set i (some (.k, d))) = .ok τ := e
    -- the later targets may meet the stored one again: only what was there ahead is kept
    have go : ∀ (is : List Nat) (ds : List D) (τ1 τ : SD), τ1.length = τ0.length → (∀ i ∈ is, ∀ md, τ0[i]? = some (some md) → False) → (∀ (i : Nat) md, τ0[i]? = some (some md) → τ1[i]? = some (some md)) → setAll is ds τ1 = .ok τ →
        τ.length = τ0.length ∧ ∀ (i : Nat) md, τ0[i]? = some (some md) → τ[i]? = some (some md) := by
      intro is
      induction is with
      | nil => intro ds τ1 τ hl _ hk e; cases ds with
        | nil => cases e; exact ⟨hl, hk⟩
        | cons _ _ => cases e
      | cons i is ih => intro ds τ1 τ hl hn hk e; cases ds with
        | nil => cases e
        | cons d ds =>
          refine ih ds _ τ (by rw [List.length_set]; exact hl) (fun j hj => hn j (List.mem_cons_of_mem _ hj)) (fun j md hj => ?_) e
          rw [set_get_ne (by rintro rfl; exact hn _ List.mem_cons_self md hj)]; exact hk j md hj
    refine go is ds _ τ (List.length_set ..) (fun j hj => h j (List.mem_cons_of_mem _ hj)) (fun j md hj => ?_) e'
    rw [set_get_ne (by rintro rfl; exact h _ List.mem_cons_self md hj)]; exact hj
  | [], _ :: _, _, _, _, e => by cases e
  | _ :: _, [], _, _, _, e => by cases e
theorem gKeep_gT {is : List Nat} {τ0 : SD} (h : ∀ i ∈ is, τ0[i]? = some none) : gKeep (gT is) τ0 := by
  intro x τ e
  cases x with
  | tup ds => exact keep_setAll is ds τ0 τ (fun i hi md z => by rw [h i hi] at z; cases z) e
  | _ => cases e
theorem captD_none {js : List (Option Nat)} {i : Nat} (h : js[i]? = some none) (ς : SD) : (captD js ς)[i]? = some none := by
  unfold captD
  rw [List.getElem?_map, h]; rfl
section
variable {C : Dc} {G H : Hp} {σ : St} {ς : SD}
theorem StR.weak {ς' : SD} (S : StR C G H σ ς') (hl : ς'.length = ς.length) (h : ∀ (i : Nat) md, ς[i]? = some (some md) → ς'[i]? = some (some md)) : StR C G H σ ς :=
  { S with len := by rw [S.len, hl], fz := fun i d e => S.fz i d (h i _ e), ow := fun i d e => S.ow i d (h i _ e), ln := fun i d e => S.ln i d (h i _ e), inj := fun i j d e p n h1 h2 => S.inj i j d e p n (h i _ h1) (h j _ h2), sf := fun i d e => S.sf i d (h i _ e), su := fun i j d e h1 h2 => S.su i j d e (h i _ h1) (h j _ h2) }
theorem StR.updM (S : StR C G H σ ς) {p : Addr} {o : HO} (hM : C.M p) (h0 : C.X.H₀ p ≠ none) (hno : ∀ (i : Nat) d, ς[i]? ≠ some (some (.s, d))) (hB : C.B p = none) (hg : G p = none) : StR C G (upd H p o) σ ς where
  sub := fun b u e => by rw [upd_ne (by rintro rfl; rw [hg] at e; cases e)]; exact S.sub b u e
  g0 := S.g0
  new := S.new
  fr := fun b u e m => by rw [upd_ne (by rintro rfl; exact m hM)]; exact S.fr b u e m
  dom := fun b e => by
    by_cases hb : b = p
    · subst hb; rw [upd_same] at e; cases e
    · rw [upd_ne hb] at e; exact S.dom b e
  bs := fun b u e => by rw [upd_ne (by rintro rfl; rw [hB] at e; cases e)]; exact S.bs b u e
  bh := S.bh
  len := S.len
  fz := S.fz
  ow := fun i d e => by
    obtain ⟨q, a, b, c, w⟩ := S.ow i d e
    exact ⟨q, a, b, c, w.mono (Same.refl G) fun u z => by rw [upd_ne (by rintro rfl; exact h0 c)]; exact z⟩
  ln := S.ln
  inj := S.inj
  sf := fun i d e => absurd e (hno i d)
  su := S.su
abbrev ccOf (C : Dc) (N' : List Str) (scope : Scope) (fp : List Addr) (s : Shared) (H1 G1 : Hp) (p : Addr) : Dc :=
  { X := cxC C.X N' scope fp s (upd H1 p (.lst [])), CT := C.CT, G0 := G1, XD := fun _ => False, B := H1, M := fun b => b = p }
theorem captD_get {js : List (Option Nat)} {i : Nat} {md : SM × D} (h : (captD js ς)[i]? = some (some md)) : ∃ j, js[i]? = some (some j) ∧ captS ς j = some md := by
  unfold captD at h
  rw [List.getElem?_map] at h
  cases e : js[i]? with
  | none => rw [e] at h; cases h
  | some o =>
    rw [e] at h
    cases o with
    | none => cases h
    | some j => exact ⟨j, rfl, Option.some.inj h⟩
theorem capt_get {js : List (Option Nat)} {i j : Nat} {v : V} (h : js[i]? = some (some j)) (hv : σ[j]? = some (some v)) : (capt js σ)[i]? = some (some v) := by
  unfold capt
  rw [List.getElem?_map, h]
  show some ((σ[j]?).join) = _
  rw [hv]; rfl
theorem captS_cases {j : Nat} {m : SM} {d : D} (h : captS ς j = some (m, d)) : (m = .k ∧ ς[j]? = some (some (.k, d))) ∨ (m = .l ∧ (ς[j]? = some (some (.o, d)) ∨ ς[j]? = some (some (.l, d)) ∨ ς[j]? = some (some (.s, d)))) := by
  unfold captS at h
  split at h
  · rename_i d' e; cases h; exact .inl ⟨rfl, e⟩
  · rename_i m' d' hne e
    cases h
    cases m' with
    | k => exact (hne rfl).elim
    | o => exact .inr ⟨rfl, .inl e⟩
    | l => exact .inr ⟨rfl, .inr (.inl e)⟩
    | s => exact .inr ⟨rfl, .inr (.inr e)⟩
  · cases h
theorem captD_no {js : List (Option Nat)} {i : Nat} {d : D} (h : (captD js ς)[i]? = some (some (.s, d))) : False := by
  obtain ⟨j, h1, h2⟩ := captD_get h
  rcases captS_cases h2 with ⟨h3, _⟩ | ⟨h3, _⟩ <;> cases h3
theorem StR.comp {N' : List Str} {scope : Scope} {fp : List Addr} {s : Shared} {js : List (Option Nat)} {p : Addr} (S : StR C G H σ ς) (hp : H p = none) : StR (ccOf C N' scope fp s H G p) G (upd H p (.lst [])) (capt js σ) (captD js ς) where
  sub := S.sub.trans (same_upd hp)
  g0 := Same.refl _
  new := fun b h1 h2 => absurd h1 h2
  fr := fun b o e _ => e
  dom := fun b e => e
  bs := same_upd hp
  bh := fun b e => by
    have e' : upd H p (.lst []) b = none := e
    by_cases hb : b = p
    · subst hb; exact hp
    · rw [upd_ne hb] at e'; exact e'
  len := by unfold capt captD; rw [List.length_map, List.length_map]
  fz := fun i d e => by
    obtain ⟨j, h1, h2⟩ := captD_get e
    rcases captS_cases h2 with ⟨_, h3⟩ | ⟨h3, _⟩
    · obtain ⟨v, a, b⟩ := S.fz j d h3
      exact ⟨v, capt_get h1 a, b⟩
    · cases h3
  ow := fun i d e => by
    obtain ⟨j, h1, h2⟩ := captD_get e
    rcases captS_cases h2 with ⟨h3, _⟩ | ⟨h3, _⟩ <;> cases h3
  ln := fun i d e => by
    obtain ⟨j, h1, h2⟩ := captD_get e
    rcases captS_cases h2 with ⟨h3, _⟩ | ⟨_, h3 | h3 | h3⟩
    · cases h3
    · obtain ⟨q, a, _, _, w⟩ := S.ow j d h3
      exact ⟨_, capt_get h1 a, w.rep S.sub⟩
    · obtain ⟨v, a, b⟩ := S.ln j d h3
      exact ⟨v, capt_get h1 a, Rep.mono S.bs d v b⟩
    · obtain ⟨q, a, _, _, _, _, w⟩ := S.sf j d h3
      exact ⟨_, capt_get h1 a, w.rep S.sub⟩
  inj := fun i j d e q _ h => by
    obtain ⟨j, h1, h2⟩ := captD_get h
    rcases captS_cases h2 with ⟨h3, _⟩ | ⟨h3, _⟩ <;> cases h3
  sf := fun i d e => (captD_no e).elim
  su := fun i j d e h => (captD_no h).elim
variable {N' : List Str} {js : List (Option Nat)} {scope : Scope} {tg iter elt : Expr} {ifs : List Expr} {its : SD → Out (List D)} {g : D → SD → Out SD} {c : SD → Out Bool} {e : SD → Out D} {pos : Pos}
theorem compW_of {J : It} {xs : List D} {p : Addr} {fp : List Addr} {s : Shared} {Q : VK} (S : StR C G H σ ς) (hp : H p = none) (dit : DItB C.X.K C.CT H G J xs) (hx : ∀ x, ¬ C.XD x) (hk : gKeep g (captD js ς)) (hne : noExc g)
    (hin : DG (ccOf C N' scope fp s H G p) tg g ∧ DIf (ccOf C N' scope fp s H G p) ifs c ∧ DE (ccOf C N' scope fp s H G p) elt e)
    (q : (compM (turnC js g c e ς) xs >>= fun ys => if fits ys.length = true then Out.ok (D.lst ys) else .stuck).post (fun d => ∀ H' G', StR C G' H' σ ς → Same H H' → Same G G' → G' p = none → Own C.X.K C.CT G' H' p d → Q (.ref p) H') C.XD) :
    CompW (cxC C.X N' scope fp s (upd H p (.lst []))) js tg elt ifs σ H J p Q := by
  obtain ⟨⟨tt, pg, hg⟩, ⟨tcc, pif, hcI⟩, ⟨te, pe, he⟩⟩ := hin
  generalize hτ : captD js ς = τ0 at hk
  have S0 : StR (ccOf C N' scope fp s H G p) G (upd H p (.lst [])) (capt js σ) τ0 := by rw [← hτ]; exact S.comp hp
  refine ⟨fun i m τ H' => m = xs.length - i ∧ i ≤ xs.length ∧ ∃ G' acc vs, StR (ccOf C N' scope fp s H G p) G' H' τ τ0 ∧ H' p = some (.lst vs) ∧ RepL C.X.K C.CT G' acc vs ∧ G' p = none ∧
    (compM (turnC js g c e ς) (xs.drop i)).post (fun ys => (if fits (acc ++ ys).length = true then Out.ok (D.lst (acc ++ ys)) else .stuck).post (fun d => ∀ H' G', StR C G' H' σ ς → Same H H' → Same G G' → G' p = none → Own C.X.K C.CT G' H' p d → Q (.ref p) H') C.XD) C.XD,
    ⟨xs.length, by simp, Nat.zero_le _, G, [], [], S0, upd_same, rfl, S.sub.free hp, by rw [Out.post_bind] at q; simpa using q⟩, ?_⟩
  rintro i m τ H' ⟨rfl, hle, G', acc, vs, S', hp', r', hg', q'⟩
  have hH0 : (ccOf C N' scope fp s H G p).X.H₀ p ≠ none := by
    show upd H p (.lst []) p ≠ none
    rw [upd_same]; simp
  by_cases hlt : i < xs.length
  · have hd : xs[i]? = some xs[i] := by simp [hlt]
    obtain ⟨hgo, hy⟩ := dit.go G' H' i _ S'.g0 S'.sub S'.bs hd
    refine .inr ⟨hgo, fun τ2 H2 => i + 1 ≤ xs.length ∧ ∃ G' acc vs, StR (ccOf C N' scope fp s H G p) G' H2 τ2 τ0 ∧ H2 p = some (.lst vs) ∧ RepL C.X.K C.CT G' acc vs ∧ G' p = none ∧
      (compM (turnC js g c e ς) (xs.drop (i + 1))).post (fun ys => (if fits (acc ++ ys).length = true then Out.ok (D.lst (acc ++ ys)) else .stuck).post (fun d => ∀ H' G', StR C G' H' σ ς → Same H H' → Same G G' → G' p = none → Own C.X.K C.CT G' H' p d → Q (.ref p) H') C.XD) C.XD,
      fun τ2 H2 h2 => ⟨xs.length - (i + 1), by omega, rfl, h2⟩, fun x H'' y => ?_⟩
    obtain ⟨G'', g1, h1, s1, n1, r⟩ := hy x H'' y
    have S'' := S'.grow h1 g1 s1 n1
    have hgp : G'' p = none := by
      cases z : G'' p with
      | none => rfl
      | some o =>
        have := n1 p hg' (by rw [z]; simp)
        rw [hp'] at this; cases this
    rw [drop_cons hd, compM, Out.post_bind] at q'
    have tu : turnC js g c e ς xs[i] = (g xs[i] τ0 >>= fun τ => c τ >>= fun b => if b = true then e τ >>= fun y => Out.ok (some y) else Out.ok none) := by unfold turnC; rw [hτ]
    rw [tu, Out.post_bind] at q'
    cases z : g xs[i] τ0 with
    | exc w => exact absurd z (hne _ _ _)
    | stuck => rw [z] at q'; exact q'.elim
    | ok τ1 =>
      rw [z] at q'
      obtain ⟨hl1, hk1⟩ := hk _ _ z
      refine ⟨tt, pg, hg G'' H'' τ τ0 xs[i] x τ1 _ S'' r z fun τ2 S2 => ?_⟩
      have q2 : (c τ1 >>= fun b => if b = true then e τ1 >>= fun y => Out.ok (some y) else Out.ok none).post _ _ := q'
      rw [Out.post_bind] at q2
      -- no refusal leaves the block
      have q3 : (c τ1).post (fun b => (if b = true then e τ1 >>= fun y => Out.ok (some y) else Out.ok none).post (fun o => (compM (turnC js g c e ς) (xs.drop (i + 1)) >>= fun ys => Out.ok (o.toList ++ ys)).post (fun ys => (if fits (acc ++ ys).length = true then Out.ok (D.lst (acc ++ ys)) else .stuck).post (fun d => ∀ H' G', StR C G' H' σ ς → Same H H' → Same G G' → G' p = none → Own C.X.K C.CT G' H' p d → Q (.ref p) H') C.XD) C.XD) C.XD) (fun _ => False) := by
        cases w : c τ1 with
        | ok b => rw [w] at q2; exact q2
        | exc w' => rw [w] at q2; exact absurd q2 (hx _)
        | stuck => rw [w] at q2; exact q2.elim
      refine ⟨tcc, pif, hcI G'' H'' τ2 τ1 _ S2 (Out.post_mono q3 fun b kb H3 G3 S3 a3 b3 => ?_)⟩
      have hp3 : H3 p = some (.lst vs) := a3 _ _ (h1 _ _ hp')
      have hg3 : G3 p = none := by
        cases z3 : G3 p with
        | none => rfl
        | some o =>
          have e3 : (ccOf C N' scope fp s H G p).G0 p = none := S.sub.free hp
          exact absurd (S3.new p e3 (by rw [z3]; simp)) hH0
      cases b with
      | false =>
        refine iteF ⟨hlt, G3, acc, vs, S3.weak (by rw [hl1]) hk1, hp3, RepL.mono (g1.trans b3) acc vs r', hg3, ?_⟩
        have kb' : (compM (turnC js g c e ς) (xs.drop (i + 1)) >>= fun ys => Out.ok ((none : Option D).toList ++ ys)).post (fun ys => (if fits (acc ++ ys).length = true then Out.ok (D.lst (acc ++ ys)) else .stuck).post (fun d => ∀ H' G', StR C G' H' σ ς → Same H H' → Same G G' → G' p = none → Own C.X.K C.CT G' H' p d → Q (.ref p) H') C.XD) C.XD := kb
        rw [Out.post_bind] at kb'
        exact Out.post_mono kb' fun ys k => k
      | true =>
        have kb : (e τ1 >>= fun y => Out.ok (some y)).post (fun o => (compM (turnC js g c e ς) (xs.drop (i + 1)) >>= fun ys => Out.ok (o.toList ++ ys)).post (fun ys => (if fits (acc ++ ys).length = true then Out.ok (D.lst (acc ++ ys)) else .stuck).post (fun d => ∀ H' G', StR C G' H' σ ς → Same H H' → Same G G' → G' p = none → Own C.X.K C.CT G' H' p d → Q (.ref p) H') C.XD) C.XD) C.XD := kb
        rw [Out.post_bind] at kb
        have kb2 : (e τ1).post (fun y => (compM (turnC js g c e ς) (xs.drop (i + 1)) >>= fun ys => Out.ok ((some y : Option D).toList ++ ys)).post (fun ys => (if fits (acc ++ ys).length = true then Out.ok (D.lst (acc ++ ys)) else .stuck).post (fun d => ∀ H' G', StR C G' H' σ ς → Same H H' → Same G G' → G' p = none → Own C.X.K C.CT G' H' p d → Q (.ref p) H') C.XD) C.XD) (fun _ => False) := by
          cases w : e τ1 with
          | ok b => rw [w] at kb; exact kb
          | exc w' => rw [w] at kb; exact absurd kb (hx _)
          | stuck => rw [w] at kb; exact kb.elim
        refine iteT ⟨te, pe, he G3 H3 τ2 τ1 _ S3 (Out.post_mono kb2 fun y ky v4 H4 G4 S4 a4 b4 r4 => ?_)⟩
        rw [Out.post_bind] at ky
        have hp4 : H4 p = some (.lst vs) := a4 _ _ hp3
        have hg4 : G4 p = none := by
          cases z3 : G4 p with
          | none => rfl
          | some o =>
            have e3 : (ccOf C N' scope fp s H G p).G0 p = none := S.sub.free hp
            exact absurd (S4.new p e3 (by rw [z3]; simp)) hH0
        have rr := RepL.mono ((g1.trans b3).trans b4) acc vs r'
        refine ⟨vs, hp4, ?_, hlt, G4, acc ++ [y], vs ++ [v4], ?_, upd_same, rr.append (RepL.one r4), hg4, ?_⟩
        · cases w : compM (turnC js g c e ς) (xs.drop (i + 1)) with
          | stuck => rw [w] at ky; exact ky.elim
          | exc w' => rw [w] at ky; exact absurd ky (hx _)
          | ok ys =>
            rw [w] at ky
            rcases post_ite (show (if fits (acc ++ ((some y : Option D).toList ++ ys)).length = true then Out.ok (D.lst (acc ++ ((some y : Option D).toList ++ ys))) else .stuck).post _ _ from ky) with ⟨hc, _⟩ | ⟨_, k⟩
            · have hc' := of_decide_eq_true hc
              rw [List.length_append, List.length_append] at hc'
              have : (some y : Option D).toList.length = 1 := rfl
              have hl := r'.length
              omega
            · exact k.elim
        · exact (S4.weak (by rw [hl1]) hk1).updM rfl hH0 (fun i d z => by rw [← hτ] at z; exact captD_no z) hp hg4
        · exact Out.post_mono ky fun ys k => by
            have e5 : acc ++ [y] ++ ys = acc ++ ((some y : Option D).toList ++ ys) := by simp
            rw [e5]; exact k
  · have ei : i = xs.length := by omega
    subst ei
    rw [List.drop_length] at q'
    refine .inl ⟨dit.stop G' H' S'.g0 S'.sub S'.bs, ?_⟩
    have q2 : (if fits (acc ++ []).length = true then Out.ok (D.lst (acc ++ [])) else .stuck).post _ C.XD := q'
    rcases post_ite q2 with ⟨_, k⟩ | ⟨_, k⟩
    · rw [List.append_nil] at k
      have hHH : Same H H' := fun b o eb => S'.fr b o (by
        show upd H p (.lst []) b = some o
        rw [upd_ne (ne_of_none eb hp)]; exact eb) (ne_of_none eb hp)
      have SG : StR C G' H' σ ς := S.grow hHH S'.g0 S'.sub fun b h1 h2 => by
        have := S'.new b h1 h2
        have this : upd H p (.lst []) b = none := this
        by_cases hb : b = p
        · subst hb; exact hp
        · rw [upd_ne hb] at this; exact this
      exact k H' G' SG hHH S'.g0 hg' ⟨vs, hp', r'⟩
    · exact k.elim
theorem compT (hi : ∃ wi, PI C.X tg iter wi ∧ ∀ G H σ ς (R : It → Hp → Prop), StR C G H σ ς → (its ς).post (fun ds => ∀ J H1 G1, StR C G1 H1 σ ς → Same H H1 → Same G G1 → DItB C.X.K C.CT H1 G1 J ds → R J H1) C.XD → wi σ H R)
    (hx : ∀ x, ¬ C.XD x) (hk : ∀ ς, gKeep g (captD js ς)) (hne : noExc g)
    (hin : ∀ fp s H G p, DG (ccOf C N' scope fp s H G p) tg g ∧ DIf (ccOf C N' scope fp s H G p) ifs c ∧ DE (ccOf C N' scope fp s H G p) elt e) :
    ∃ wi, PI C.X tg iter wi ∧ ∀ G H σ ς Q, StR C G H σ ς → (eComp js its g c e ς).post (KF C G H σ ς Q) C.XD → tComp C.X N' js scope tg elt ifs wi σ H Q := by
  obtain ⟨wi, pi, hq⟩ := hi
  refine ⟨wi, pi, fun G H σ ς Q S k => ?_⟩
  unfold eComp at k
  rw [Out.post_bind] at k
  refine hq G H σ ς _ S (Out.post_mono k fun xs k J H1 G1 S1 a1 b1 dit p hp fp s => ?_)
  refine compW_of S1 hp dit hx (hk ς) hne (hin fp s H1 G1 p) (Out.post_mono k fun d kd H' G' S' h1 g1 hg ow => ?_)
  exact kd p H' G' S' (a1.trans h1) (b1.trans g1) (a1.free hp) hg ow
theorem df_comp (hc : C.X.calm = true) (S : CompSc N' js scope C.X.env.scope C.X.N) (hi : DIB C tg iter its) (hk : ∀ ς, gKeep g (captD js ς)) (hne : noExc g)
    (hin : ∀ fp s H G p, DG (ccOf C N' scope fp s H G p) tg g ∧ DIf (ccOf C N' scope fp s H G p) ifs c ∧ DE (ccOf C N' scope fp s H G p) elt e)
    (hx : ∀ x, ¬ C.XD x := by exact fun _ h => h) (hs : ∀ x, foldedSetIterable iter C.X.env x = pure x := by intro _; rfl) : DF C (.ListComp elt [⟨tg, iter, ifs, 0⟩] scope pos) (eComp js its g c e) := by
  obtain ⟨wi, pi, h⟩ := compT hi hx hk hne hin
  exact ⟨_, pe_comp hc S pi hs, h⟩
variable {i : Nat} {x : Str} {px spos : Pos}
theorem ds_setC (hc : C.X.calm = true) (S : CompSc N' js scope C.X.env.scope C.X.N) (hi : DIB C tg iter its) (hk : ∀ ς, gKeep g (captD js ς)) (hne : noExc g)
    (hin : ∀ fp s H G p, DG (ccOf C N' scope fp s H G p) tg g ∧ DIf (ccOf C N' scope fp s H G p) ifs c ∧ DE (ccOf C N' scope fp s H G p) elt e)
    (hN : C.X.N.Nodup) (hxN : C.X.N[i]? = some x) (hl : Loc C.X.env.scope x)
    (hsw : swapsWith (.ListComp elt [⟨tg, iter, ifs, 0⟩] scope pos) (some (.Name x px)) spos.line C.X.env = pure true := by rfl)
    (hf : C.X.fn x = true ∨ C.X.env.scope.names.lookup x = some .local := by first | exact .inl rfl | exact .inr rfl | assumption)
    (hx : ∀ x, ¬ C.XD x := by exact fun _ h => h) (hs : ∀ x, foldedSetIterable iter C.X.env x = pure x := by intro _; rfl) : DS C (.Assign [.Name x px] (.ListComp elt [⟨tg, iter, ifs, 0⟩] scope pos) spos) (sSet i (eComp js its g c e)) := by
  obtain ⟨wi, pi, h⟩ := compT hi hx hk hne hin
  refine ⟨_, ps_comp hc S pi hN hxN hl hsw hf hs, fun G H σ ς W S k => ?_⟩
  unfold sSet at k
  rw [Out.post_bind] at k
  exact h G H σ ς _ S (Out.post_mono k fun d k => KD.ofF (Q := fun v H1 => W.nx (σ.set i (some v)) H1) S fun v H1 G1 S1 a1 b1 r1 => k _ H1 G1 (S1.set i r1) b1)
theorem ds_setOC (hc : C.X.calm = true) (S : CompSc N' js scope C.X.env.scope C.X.N) (hi : DIB C tg iter its) (hk : ∀ ς, gKeep g (captD js ς)) (hne : noExc g)
    (hin : ∀ fp s H G p, DG (ccOf C N' scope fp s H G p) tg g ∧ DIf (ccOf C N' scope fp s H G p) ifs c ∧ DE (ccOf C N' scope fp s H G p) elt e)
    (hN : C.X.N.Nodup) (hxN : C.X.N[i]? = some x) (hl : Loc C.X.env.scope x)
    (hsw : swapsWith (.ListComp elt [⟨tg, iter, ifs, 0⟩] scope pos) (some (.Name x px)) spos.line C.X.env = pure true := by rfl)
    (hf : C.X.fn x = true ∨ C.X.env.scope.names.lookup x = some .local := by first | exact .inl rfl | exact .inr rfl | assumption)
    (hx : ∀ x, ¬ C.XD x := by exact fun _ h => h) (hs : ∀ x, foldedSetIterable iter C.X.env x = pure x := by intro _; rfl) : DS C (.Assign [.Name x px] (.ListComp elt [⟨tg, iter, ifs, 0⟩] scope pos) spos) (sSetO i (eComp js its g c e)) := by
  obtain ⟨wi, pi, h⟩ := compT hi hx hk hne hin
  refine ⟨_, ps_comp hc S pi hN hxN hl hsw hf hs, fun G H σ ς W S k => ?_⟩
  unfold sSetO at k
  rw [Out.post_bind] at k
  exact h G H σ ς _ S (Out.post_mono k fun d k p H1 G1 S1 a1 b1 hp hg ow => k _ H1 G1 (S1.setO i hg (S.h0none hp) ow fun j e _ z => S.new_ne hp j e z) b1)
end
end DL
set_option Elab.async false
set_option linter.all false
set_option maxRecDepth 100000
namespace L2
open PySem PySem.Spec PyProof.Rows
section
variable {X : Cx} {tg : Expr}
end
end L2
namespace DL
open PySem PySem.Spec PyProof.Rows L2
section
variable {C : Dc} {e tg iter a b : Expr} {E A B : SD → Out D} {pos p : Pos} {es : List Expr} {AA : SD → Out (List D)}
end
end DL
set_option Elab.async false
set_option linter.all false
set_option maxRecDepth 100000
namespace DL
open PySem PySem.Spec PyProof.Rows L2
def ctOf (K : PySem.W.Frag) : CTab := fun c => match PySem.W.nsIn K mainGlobals c with | some (some (.ref a)) => some a | _ => none
structure Rz (C : Dc) (E : XK) : Prop where
  pass : Passes (CXR C.X.prog C.X.w) C.X E
  xd : ∀ d, C.XD d → ∃ c Cc, d = .err c ∧ C.CT c = some Cc ∧ ∀ H', (∀ b o, C.X.H₀ b = some o → ¬ C.M b → H' b = some o) → E (.ref Cc) none H'
  made : ∀ (Cc : Addr) pins σ H1 s1 ea h' vs, Inv C.X pins σ H1 s1 → Heap.MadeExcOf s1.heap h' ea (.ref Cc) vs → E (.ref Cc) none H1 → C.X.xe (.ref ea) { s1 with heap := h' }
  calm : C.X.calm = true
abbrev Dc.nox (C : Dc) : Dc := { C with X := C.X.nox, XD := fun _ => False }
def noX {α : Type} : Out α → Out α
  | .exc _ => .stuck
  | o => o
theorem post_noX {α : Type} {o : Out α} {k : α → Prop} {x : D → Prop} (h : (noX o).post k x) : o.post k (fun _ => False) := by cases o <;> exact h
section
variable {C : Dc} {G H : Hp} {σ : St} {ς : SD} {e : Expr} {es : List Expr} {st : Stmt} {sts : List Stmt}
theorem GH.nox (S : GH C G H) : GH C.nox G H := ⟨S.sub, S.g0, S.new, S.fr, S.dom, S.bs, S.bh⟩
theorem GH.unnox (S : GH C.nox G H) : GH C G H := ⟨S.sub, S.g0, S.new, S.fr, S.dom, S.bs, S.bh⟩
theorem StR.nox (S : StR C G H σ ς) : StR C.nox G H σ ς := ⟨S.toGH.nox, S.len, S.fz, S.ow, S.ln, S.inj, S.sf, S.su⟩
theorem StR.unnox (S : StR C.nox G H σ ς) : StR C G H σ ς := ⟨S.toGH.unnox, S.len, S.fz, S.ow, S.ln, S.inj, S.sf, S.su⟩
theorem FlK.nox {W : Ends} {f : Fl} (h : FlK C G W f) : FlK C.nox G W f := by
  cases f with
  | nx ς => exact fun σ' H' G' S q => h σ' H' G' S.unnox q
  | bk ς => exact fun σ' H' G' S q => h σ' H' G' S.unnox q
  | ct ς => exact fun σ' H' G' S q => h σ' H' G' S.unnox q
  | rt b d => exact fun v H' G' S q r => h v H' G' S.unnox q r
variable {x : Str} {k : Nat} {fr : Bool} {dd : List D} {m : List D → Out D} {A : SD → Out (List D)} {p pos : Pos} {E : XK}
end
end DL
set_option Elab.async false
set_option linter.all false
set_option maxRecDepth 100000
namespace DL
open PySem PySem.Spec PyProof.Rows L2
inductive FX where
  | fl (f : Fl) | ex (c : Str) (ς : SD)
def FXK (C : Dc) (G : Hp) (W : Ends) (R : St → XK) : FX → Prop
  | .fl f => FlK C G W f
  | .ex c ς1 => ∃ Cc, C.CT c = some Cc ∧ ∀ σ1 H1 G1, StR C G1 H1 σ1 ς1 → Same G G1 → R σ1 (.ref Cc) none H1
def DXSs (C : Dc) (sts : List Stmt) (T : SD → Out FX) : Prop := ∃ t, PXSs C.X sts t ∧ ∀ G H σ ς W R, StR C G H σ ς → (T ς).post (FXK C G W R) (fun _ => False) → t W σ H R
def DXS (C : Dc) (st : Stmt) (T : SD → Out FX) : Prop := ∃ t, PXS C.X st t ∧ ∀ G H σ ς W R, StR C G H σ ς → (T ς).post (FXK C G W R) (fun _ => False) → t W σ H R
inductive EX where
  | v (d : D) | ex (c : Str)
section
variable {C : Dc} {x : Str} {k : Nat} {fr : Bool} {dd : List D} {m : List D → Out D} {e : Expr} {es : List Expr} {A : SD → Out (List D)} {p pos : Pos}
variable {T U : SD → Out FX} {TE : SD → Out EX} {st : Stmt} {sts rest : List Stmt} {i : Nat} {px : Pos}
def xLift (T : SD → Out Fl) : SD → Out FX := fun ς => noX (T ς) >>= fun f => .ok (.fl f)
theorem DSs.dx {T : SD → Out Fl} (h : DSs C.nox sts T) : DXSs C sts (xLift T) := by
  obtain ⟨t, p1, q1⟩ := h
  refine ⟨_, PSs.lx p1, fun G H σ ς W R S q => ?_⟩
  unfold xLift at q
  rw [Out.post_bind] at q
  exact q1 G H σ ς W S.nox (Out.post_mono (post_noX q) fun f kf => FlK.nox (show FlK C G W f from kf))
theorem DS.dx {T : SD → Out Fl} (h : DS C.nox st T) : DXS C st (xLift T) := by
  obtain ⟨t, p1, q1⟩ := h
  refine ⟨_, PS.lx p1, fun G H σ ς W R S q => ?_⟩
  unfold xLift at q
  rw [Out.post_bind] at q
  exact q1 G H σ ς W S.nox (Out.post_mono (post_noX q) fun f kf => FlK.nox (show FlK C G W f from kf))
theorem FXK.later {G G1 : Hp} {W : Ends} {R : St → XK} {f : FX} (h : FXK C G W R f) (s : Same G G1) : FXK C G1 W R f := by
  cases f with
  | fl f => exact FlK.later (show FlK C G W f from h) s
  | ex c ς => obtain ⟨Cc, e1, e2⟩ := h; exact ⟨Cc, e1, fun σ1 H1 G1 S b => e2 σ1 H1 G1 S (s.trans b)⟩
abbrev Dc.marked (C : Dc) (ea : Addr) : Dc := { C with X := C.X.marked ea, XD := fun _ => False }
section
variable {G H : Hp} {σ : St} {ς : SD} {ea : Addr}
theorem GH.mark (S : GH C G H) : GH (C.marked ea) G H := ⟨S.sub, S.g0, S.new, S.fr, S.dom, S.bs, S.bh⟩
theorem StR.mark (S : StR C G H σ ς) : StR (C.marked ea) G H σ ς := ⟨S.toGH.mark, S.len, S.fz, S.ow, S.ln, S.inj, S.sf, S.su⟩
end
end
end DL
set_option Elab.async false
set_option linter.all false
set_option maxRecDepth 100000
namespace L2
open PySem PySem.Spec PyProof.Rows
end L2
namespace DL
open PySem PySem.Spec PyProof.Rows L2
section
variable {C : Dc} {pos p : Pos} {e cx : Expr} {E : SD → Out D}
end
end DL
set_option Elab.async false
set_option linter.all false
set_option maxRecDepth 100000
namespace L2
open PySem PySem.Spec PyProof.Rows
def Itz (K : PySem.W.Frag) (a b : Addr) : It :=
  ⟨fun i H => ∃ xs ys x y, SqL K H a xs ∧ SqL K H b ys ∧ xs[i]? = some x ∧ ys[i]? = some y,
   fun i H v H' => ∃ p x y, H p = none ∧ v = .ref p ∧ H' = upd H p (.tup [x, y]) ∧ (∀ xs, SqL K H a xs → xs[i]? = some x) ∧ ∀ ys, SqL K H b ys → ys[i]? = some y,
   fun i H => ∃ xs ys, SqL K H a xs ∧ SqL K H b ys ∧ (xs.length ≤ i ∨ ys.length ≤ i)⟩
theorem turn_zip {P : Program} {w : World} {K : PySem.W.Frag} {elts : List Expr} {k1 : Nat} {pos : Pos} {z TI TO i1 i2 l1 l2 : Addr} (D : ZipApart z TI TO i1 i2 l1 l2) :
    Turn P w K (.Tuple elts k1 pos) (Itz K l1 l2) [z, TI, TO, i1, i2] z (fun i h => IsZip h z TI TO .none ∧ IsPair h TI (.ref i1) (.ref i2) ∧ (∃ a b, IsPair h TO a b) ∧ h.IsListIter i1 l1 i ∧ h.IsListIter i2 l2 i) where
  mem := by simp
  obj := fun i h st b hb => by
    obtain ⟨s1, s2, ⟨_, _, s3⟩, ⟨o4, e4, c4, d4⟩, ⟨o5, e5, c5, d5⟩⟩ := st
    simp only [List.mem_cons, List.not_mem_nil, or_false] at hb
    rcases hb with rfl | rfl | rfl | rfl | rfl
    · exact ⟨_, s1, fun v q => by cases q⟩
    · exact ⟨_, s2, fun v q => by cases q⟩
    · exact ⟨_, s3, fun v q => by cases q⟩
    · exact ⟨_, e4, fun v q => by rw [d4] at q; cases q⟩
    · exact ⟨_, e5, fun v q => by rw [d5] at q; cases q⟩
  keep := fun i h h' st k => by
    obtain ⟨s1, s2, ⟨a, b, s3⟩, s4, s5⟩ := st
    exact ⟨k z (by simp) _ s1, k TI (by simp) _ s2, ⟨a, b, k TO (by simp) _ s3⟩, s4.at fun o e => k i1 (by simp) o e, s5.at fun o e => k i2 (by simp) o e⟩
  item := by
    intro X hP hw hK hc i pins s σ H E I hf st hg
    subst hP hw hK
    obtain ⟨xs, ys, x, y, q1, q2, hx, hy⟩ := hg
    obtain ⟨its1, rv1, p1, hz1⟩ := I.list q1
    obtain ⟨its2, rv2, p2, hz2⟩ := I.list q2
    obtain ⟨u1, hu1, ru1⟩ := rv1.get hx
    obtain ⟨u2, hu2, ru2⟩ := rv2.get hy
    obtain ⟨s1, s2, ⟨a, b, s3⟩, s4, s5⟩ := st
    refine wpAny_pyNext_zip_item D s1 s2 s3 s4 s5 p1.isList p2.isList (x := u1) (y := u2) (by simpa using hu1) (by simpa using hu2) fun h' a1 a2 a3 a4 a5 a6 hk => ?_
    have hT : H s.heap.objs.size = none := I.hok.fresh (Nat.le_refl _)
    have fp : ∀ c ∈ [z, TO, i1, i2], FpOk X pins H c := fun c hc => hf c (by
      simp only [List.mem_cons, List.not_mem_nil, or_false] at hc ⊢
      rcases hc with rfl | rfl | rfl | rfl <;> simp)
    have out : ∀ c, c ∉ [z, TO, i1, i2] → ∀ o, s.heap.get? c = some o → h'.get? c = some o := fun c hc o e => hk c o (fun q => hc (by simp [q])) (fun q => hc (by simp [q])) (fun q => hc (by simp [q])) (fun q => hc (by simp [q])) e
    have trk : ∀ c o, H c = some o → c ∉ [z, TO, i1, i2] := fun c o e hc => by rw [(fp c hc).1] at e; cases e
    have hok : HOk X.prog X.w (upd H s.heap.objs.size (.tup [x, y])) h' := fun c o e => by
      by_cases hcT : c = s.heap.objs.size
      · subst hcT
        rw [upd_same] at e
        cases e
        exact ⟨by show 2 ≤ sizeLine; decide, [u1, u2], .cons ru1 (.cons ru2 .nil), ⟨_, a5, rfl, _, rfl⟩⟩
      · rw [upd_ne hcT] at e
        refine (I.hok c o e).stay (fun b u hb q => out b ?_ u q) (fun b q => ?_) fun b ts q => ?_
        · rcases hb with rfl | hb
          · exact trk b _ e
          · exact trk b _ hb
        · rw [upd_ne (ne_of_none q hT)]; exact q
        · rw [upd_ne (ne_of_none q hT)]; exact q
    have I1 : Inv X pins σ (upd H s.heap.objs.size (.tup [x, y])) { s with heap := h', gens := s.gens, drawn := s.drawn, toks := s.toks } := I.step (ch := [z, TO, i1, i2])
      (fun c hc => ⟨(fp c hc).2.2.2.1, (fp c hc).2.1, (fp c hc).2.2.2.2.1, (fp c hc).2.2.2.2.2⟩) (fun c o _ _ hc e _ => out c hc o e) (fun c o _ _ hc e _ => ⟨o.slots, out c hc o e⟩)
      (fun c o hc e n => by rw [upd_ne (Nat.ne_of_lt (Heap.lt_size e))]; exact n) (fun c o hc e => ⟨o, out c hc o e⟩)
      (fun c ts e => by rw [upd_ne (ne_of_none e hT)]; exact e) (fun c o u e => by rw [upd_ne (ne_of_none e hT)]; exact e) (fun c ts e => ⟨#[], by rw [upd_ne (ne_of_none e hT), e]; simp⟩)
      (fun m hm => by
        obtain ⟨o, es, ep, ho, r⟩ := hm
        exact ⟨o, es, ep, out _ (fun hc => (fp _ hc).2.1 rfl) o ho, r⟩) hok I.bare
    have lt : ∀ {c o}, s.heap.get? c = some o → s.heap.objs.size ≠ c := fun e => Nat.ne_of_gt (Heap.lt_size e)
    refine ⟨_, rfl, wpAny_letOwnedTupleGo_zip a1 fun h2 hz2 hs2 => ?_⟩
    obtain ⟨z0, z1, z2, z3, z4, z5⟩ := hf z (by simp)
    have I2 : Inv X pins σ (upd H s.heap.objs.size (.tup [x, y])) { s with heap := h2 } := Inv.turned (s := { s with heap := h', gens := s.gens, drawn := s.drawn, toks := s.toks }) (t' := s.toks) (it := z) I1 (fun b o hb e => (hs2.2 b hb).trans e) (by rw [upd_ne (lt s1).symm]; exact z0) z1 z3 z4 z5
    refine ⟨.ref s.heap.objs.size, _, I2, rfl, ⟨_, x, y, hT, rfl, rfl, fun xs' q' => by rw [I.list_inj q' q1]; exact hx, fun ys' q' => by rw [I.list_inj q' q2]; exact hy⟩,
      ⟨hz2, hs2.extBut _ _ D.TIz (out TI (by simp [D.TIz, D.TITO, D.TIi1, D.TIi2]) _ s2), ⟨_, _, hs2.extBut _ _ D.TOz a2⟩, a3.extBut hs2.extBut D.i1z, a4.extBut hs2.extBut D.i2z⟩, fun c hc => ?_⟩
    have : H c = none := (hf c hc).1
    obtain ⟨oc, hoc⟩ : ∃ o, s.heap.get? c = some o := by
      simp only [List.mem_cons, List.not_mem_nil, or_false] at hc
      rcases hc with rfl | rfl | rfl | rfl | rfl
      · exact ⟨_, s1⟩
      · exact ⟨_, s2⟩
      · exact ⟨_, s3⟩
      · obtain ⟨o, e, _⟩ := s4; exact ⟨o, e⟩
      · obtain ⟨o, e, _⟩ := s5; exact ⟨o, e⟩
    rw [upd_ne (lt hoc).symm]; exact this
  done := by
    intro X hP hw hK hc i pins s σ H E I hf st hg
    subst hP hw hK
    obtain ⟨xs, ys, q1, q2, hend⟩ := hg
    obtain ⟨its1, rv1, p1, hz1⟩ := I.list q1
    obtain ⟨its2, rv2, p2, hz2⟩ := I.list q2
    have l1 := rv1.length
    have l2 := rv2.length
    obtain ⟨s1, s2, ⟨a, b, s3⟩, s4, s5⟩ := st
    have fp : ∀ c ∈ [z, TO, i1, i2], FpOk X pins H c := fun c hc => hf c (by
      simp only [List.mem_cons, List.not_mem_nil, or_false] at hc ⊢
      rcases hc with rfl | rfl | rfl | rfl <;> simp)
    refine wpAny_pyNext_zip_end (I.ok.hd hc) D s1 s2 s3 s4 s5 p1.isList p2.isList (by simp; omega) fun h' hk => ⟨rfl, ?_⟩
    have out : ∀ c, c ∉ [z, TO, i1, i2] → ∀ o, s.heap.get? c = some o → h'.get? c = some o := fun c hc o e => hk c o (fun q => hc (by simp [q])) (fun q => hc (by simp [q])) (fun q => hc (by simp [q])) (fun q => hc (by simp [q])) e
    have trk : ∀ c o, H c = some o → c ∉ [z, TO, i1, i2] := fun c o e hc => by rw [(fp c hc).1] at e; cases e
    exact I.step (g' := s.gens) (d' := s.drawn) (t' := s.toks) (ch := [z, TO, i1, i2]) (fun c hc => ⟨(fp c hc).2.2.2.1, (fp c hc).2.1, (fp c hc).2.2.2.2.1, (fp c hc).2.2.2.2.2⟩) (fun c o _ _ hc e _ => out c hc o e) (fun c o _ _ hc e _ => ⟨o.slots, out c hc o e⟩)
      (fun c o hc e n => n) (fun c o hc e => ⟨o, out c hc o e⟩) (fun c ts e => e) (fun c o u e => e) (fun c ts e => ⟨#[], by rw [e]; simp⟩)
      (fun m hm => by
        obtain ⟨o, es, ep, ho, r⟩ := hm
        exact ⟨o, es, ep, out _ (fun hc => (fp _ hc).2.1 rfl) o ho, r⟩)
      (fun c o e => (I.hok c o e).stay (fun b u hb q => out b (by
        rcases hb with rfl | hb
        · exact trk b _ e
        · exact trk b _ hb) u q) (fun b q => q) fun b ts q => q) I.bare
  self := fun _ _ _ _ _ st h => wpAny_pyIter_zip st.1 h
section
variable {X : Cx}
theorem zip_apart (n l1 l2 : Nat) (h1 : l1 < n) (h2 : l2 < n) : ZipApart (n + 4) (n + 2) (n + 3) n (n + 1) l1 l2 := ⟨(show ¬ ((n + 2 : Nat) = n + 4) by omega), (show ¬ ((n + 3 : Nat) = n + 4) by omega), (show ¬ ((n : Nat) = n + 4) by omega), (show ¬ ((n + 1 : Nat) = n + 4) by omega), (show ¬ ((n + 2 : Nat) = n + 3) by omega), (show ¬ ((n + 2 : Nat) = n) by omega), (show ¬ ((n + 2 : Nat) = n + 1) by omega), (show ¬ ((n + 3 : Nat) = n) by omega), (show ¬ ((n + 3 : Nat) = n + 1) by omega), (show ¬ ((n : Nat) = n + 1) by omega), (show ¬ ((l1 : Nat) = n + 4) by omega), (show ¬ ((l1 : Nat) = n + 3) by omega), (show ¬ ((l1 : Nat) = n) by omega), (show ¬ ((l1 : Nat) = n + 1) by omega), (show ¬ ((l2 : Nat) = n + 4) by omega), (show ¬ ((l2 : Nat) = n + 3) by omega), (show ¬ ((l2 : Nat) = n) by omega), (show ¬ ((l2 : Nat) = n + 1) by omega)⟩
def iZip (K : PySem.W.Frag) (ta : TA) : TI := fun σ H R => ta σ H fun vs H1 => ∃ a b, vs = [.ref a, .ref b] ∧ (∃ xs, SqL K H1 a xs) ∧ (∃ ys, SqL K H1 b ys) ∧ R (Itz K a b) H1
theorem pi_zip {elts : List Expr} {k1 : Nat} {tpos : Pos} {a b : Expr} {ta : TA} {p pos : Pos} (hg : Gl X "zip") (hm : X.mg "zip" = none) (ha : PA X [a, b] ta) (hs : starEach [a, b] X.env = [(false, eval a X.env), (false, eval b X.env)] := by rfl) (hs2 : starEach [b] X.env = [(false, eval b X.env)] := by rfl) :
    PI X (.Tuple elts k1 tpos) (.Call (.Name "zip" p) [a, b] [] pos) (iZip X.K ta) := by
  intro pins s σ H R I h
  refine Call_ (ld_blt I hg hm PyProof.Rows.Boot.«zip» (PyProof.Rows.callWith_type1 (thn (ha pos pins s σ H _ I h) fun us s1 ⟨vs, H1, I1, r1, q1⟩ => ?_) (by rw [hs, hs2]) (by rw [hs2]; rfl)))
  obtain ⟨l1, l2, e, ⟨xs, hx⟩, ⟨ys, hy⟩, q⟩ := q1
  subst e
  cases r1 with
  | cons r rr =>
    cases rr with
    | cons r' rr =>
      cases rr
      cases r
      cases r'
      obtain ⟨its1, rv1, p1, hz1⟩ := I1.list hx
      obtain ⟨its2, rv2, p2, hz2⟩ := I1.list hy
      have n1 : l1 < s1.heap.objs.size := by obtain ⟨o, n, ho, _⟩ := p1; exact Heap.lt_size ho
      have n2 : l2 < s1.heap.objs.size := by obtain ⟨o, n, ho, _⟩ := p2; exact Heap.lt_size ho
      refine call_zip_2 p1.isList p2.isList fun h' c1 c2 c3 c4 c5 c6 hk => ?_
      refine wpAny_pyIter_zip c1 ?_
      refine ⟨_, _, _, Itz X.K l1 l2, H1, rfl, I1.kept (t' := s1.toks) fun b o e => hk b o e, turn_zip (i1 := s1.heap.objs.size) (i2 := s1.heap.objs.size + 1) (TI := s1.heap.objs.size + 2) (TO := s1.heap.objs.size + 3) (z := s1.heap.objs.size + 4) (l1 := l1) (l2 := l2)
        (zip_apart s1.heap.objs.size l1 l2 n1 n2), ⟨c1, c2, ⟨_, _, c3⟩, c4, c5⟩, fun b hb => ?_, q⟩
      have hb' : s1.heap.objs.size ≤ b := by
        simp only [List.mem_cons, List.not_mem_nil, or_false] at hb
        rcases hb with rfl | rfl | rfl | rfl | rfl <;> omega
      exact I1.fpOk hb' (I1.hok.fresh hb')
end
end L2
namespace DL
open PySem PySem.Spec PyProof.Rows L2
def itZ (A B : SD → Out D) : SD → Out (List D) := fun ς => A ς >>= fun x => B ς >>= fun y => match x, y with
  | .lst xs, .lst ys => .ok (List.zipWith (fun a b => .tup [a, b]) xs ys)
  | _, _ => .stuck
section
variable {C : Dc} {a b : Expr} {A B : SD → Out D}
theorem dit_zip {K : PySem.W.Frag} {CT : CTab} {G1 : Hp} {p q : Addr} {xs ys : List D} {us vs : List V} (h1 : SqL K G1 p us) (r1 : RepL K CT G1 xs us) (h2 : SqL K G1 q vs) (r2 : RepL K CT G1 ys vs) : DIt K CT G1 (Itz K p q) (List.zipWith (fun a b => D.tup [a, b]) xs ys) where
  go := fun G H i d s1 sH hd => by
    rw [List.getElem?_zipWith] at hd
    cases e1 : xs[i]? with
    | none => rw [e1] at hd; cases hd
    | some x =>
      cases e2 : ys[i]? with
      | none => rw [e1, e2] at hd; cases hd
      | some y =>
        rw [e1, e2] at hd
        cases hd
        obtain ⟨u, hu, ru⟩ := r1.get e1
        obtain ⟨v, hv, rv⟩ := r2.get e2
        have q1 : SqL K H p us := sH.seq (s1.seq h1)
        have q2 : SqL K H q vs := sH.seq (s1.seq h2)
        refine ⟨⟨us, vs, u, v, q1, q2, hu, hv⟩, fun w H' ⟨t, x', y', n, e, e', k1, k2⟩ => ?_⟩
        have z1 := k1 us q1
        have z2 := k2 vs q2
        rw [hu] at z1; cases z1
        rw [hv] at z2; cases z2
        subst e e'
        have gn : G t = none := sH.free n
        refine ⟨upd G t (.tup [u, v]), same_upd gn, same_upd n, same_upd2 sH, fun b g g' => ?_, t, [u, v], rfl, SqT.of upd_same, ⟨u, _, rfl, Rep.mono (s1.trans (same_upd gn)) x u ru, v, _, rfl, Rep.mono (s1.trans (same_upd gn)) y v rv, rfl⟩⟩
        by_cases hb : b = t
        · subst hb; exact n
        · rw [upd_ne hb] at g'; exact absurd g g'
  stop := fun G H s1 sH => by
    refine ⟨us, vs, sH.seq (s1.seq h1), sH.seq (s1.seq h2), ?_⟩
    have l1 := r1.length
    have l2 := r2.length
    rw [List.length_zipWith]
    omega
theorem di_zip {elts : List Expr} {k1 : Nat} {tpos p pos : Pos} (hgl : Gl C.X "zip") (hm : C.X.mg "zip" = none) (ha : DE C a A) (hb : DE C b B)
    (hst : starEach [a, b] C.X.env = (false, eval a C.X.env) :: starEach [b] C.X.env := by rfl) (hst2 : starEach [b] C.X.env = (false, eval b C.X.env) :: starEach [] C.X.env := by rfl) : DI C (.Tuple elts k1 tpos) (.Call (.Name "zip" p) [a, b] [] pos) (itZ A B) := by
  obtain ⟨t0, p0, q0⟩ := ha
  obtain ⟨t3, p3, q3⟩ := hb
  refine ⟨_, pi_zip hgl hm (pa_cons p0 (pa_cons p3 pa_nil hst2) hst) (by rw [hst, hst2]; rfl) (by rw [hst2]; rfl), fun G H σ ς R S k => ?_⟩
  unfold itZ at k
  rw [Out.post_bind] at k
  refine q0 G H σ ς _ S (Out.post_mono k fun d k v H1 G1 S1 a1 b1 r => ?_)
  rw [Out.post_bind] at k
  refine q3 G1 H1 σ ς _ S1 (Out.post_mono k fun d2 k v2 H2 G2 S2 a2 b2 r' => ?_)
  cases d with
  | lst xs =>
    cases d2 with
    | lst ys =>
      obtain ⟨p1, us, rfl, h1, r1⟩ := Rep.mono b2 _ v r
      obtain ⟨p2, vs, rfl, h2, r2⟩ := r'
      exact ⟨p1, p2, rfl, ⟨us, S2.sub.seq h1⟩, ⟨vs, S2.sub.seq h2⟩, k _ H2 G2 S2 (a1.trans a2) (b1.trans b2) (dit_zip h1 r1 h2 r2)⟩
    | _ => exact k.elim
  | _ => exact k.elim
def itZB (A B : SD → Out D) : SD → Out (List D) := fun ς => A ς >>= fun x => B ς >>= fun y => match x, y with
  | .lst xs, .lst ys => if (xs.all D.scal && ys.all D.scal) = true then .ok (List.zipWith (fun a b => .tup [a, b]) xs ys) else .stuck
  | _, _ => .stuck
theorem ditB_zip {K : PySem.W.Frag} {CT : CTab} {B1 G1 : Hp} {p q : Addr} {xs ys : List D} {us vs : List V} (fx : xs.all D.scal = true) (fy : ys.all D.scal = true) (h1 : SqL K B1 p us) (r1 : RepL K CT B1 xs us) (h2 : SqL K B1 q vs) (r2 : RepL K CT B1 ys vs) :
    DItB K CT B1 G1 (Itz K p q) (List.zipWith (fun a b => D.tup [a, b]) xs ys) where
  go := fun G H i d s1 sH sB hd => by
    rw [List.getElem?_zipWith] at hd
    cases e1 : xs[i]? with
    | none => rw [e1] at hd; cases hd
    | some x =>
      cases e2 : ys[i]? with
      | none => rw [e1, e2] at hd; cases hd
      | some y =>
        rw [e1, e2] at hd
        cases hd
        obtain ⟨u, hu, ru⟩ := r1.get e1
        obtain ⟨v, hv, rv⟩ := r2.get e2
        have sx : x.scal = true := List.all_eq_true.mp fx x (List.mem_of_getElem? e1)
        have sy : y.scal = true := List.all_eq_true.mp fy y (List.mem_of_getElem? e2)
        have q1 : SqL K H p us := sB.seq h1
        have q2 : SqL K H q vs := sB.seq h2
        refine ⟨⟨us, vs, u, v, q1, q2, hu, hv⟩, fun w H' ⟨t, x', y', n, e, e', k1, k2⟩ => ?_⟩
        have z1 := k1 us q1
        have z2 := k2 vs q2
        rw [hu] at z1; cases z1
        rw [hv] at z2; cases z2
        subst e e'
        have gn : G t = none := sH.free n
        refine ⟨upd G t (.tup [u, v]), same_upd gn, same_upd n, same_upd2 sH, fun b g g' => ?_, t, [u, v], rfl, SqT.of upd_same, ⟨u, _, rfl, ru.scal sx, v, _, rfl, rv.scal sy, rfl⟩⟩
        by_cases hb : b = t
        · subst hb; exact n
        · rw [upd_ne hb] at g'; exact absurd g g'
  stop := fun G H s1 sH sB => by
    refine ⟨us, vs, sB.seq h1, sB.seq h2, ?_⟩
    have l1 := r1.length
    have l2 := r2.length
    rw [List.length_zipWith]
    omega
theorem dib_zip {elts : List Expr} {k1 : Nat} {tpos p pos : Pos} (hgl : Gl C.X "zip") (hm : C.X.mg "zip" = none) (ha : DB C a A) (hb : DB C b B)
    (hst : starEach [a, b] C.X.env = (false, eval a C.X.env) :: starEach [b] C.X.env := by rfl) (hst2 : starEach [b] C.X.env = (false, eval b C.X.env) :: starEach [] C.X.env := by rfl) : DIB C (.Tuple elts k1 tpos) (.Call (.Name "zip" p) [a, b] [] pos) (itZB A B) := by
  obtain ⟨t0, p0, q0⟩ := ha
  obtain ⟨t3, p3, q3⟩ := hb
  refine ⟨_, pi_zip hgl hm (pa_cons p0 (pa_cons p3 pa_nil hst2) hst) (by rw [hst, hst2]; rfl) (by rw [hst2]; rfl), fun G H σ ς R S k => ?_⟩
  unfold itZB at k
  rw [Out.post_bind] at k
  refine q0 G H σ ς _ S (Out.post_mono k fun d k v H1 G1 S1 a1 b1 r => ?_)
  rw [Out.post_bind] at k
  refine q3 G1 H1 σ ς _ S1 (Out.post_mono k fun d2 k v2 H2 G2 S2 a2 b2 r' => ?_)
  cases d with
  | lst xs =>
    cases d2 with
    | lst ys =>
      rcases post_ite k with ⟨hc, k⟩ | ⟨_, k⟩
      · rw [Bool.and_eq_true] at hc
        obtain ⟨p1, us, rfl, h1, r1⟩ := Rep.mono a2 _ v r
        obtain ⟨p2, vs, rfl, h2, r2⟩ := r'
        exact ⟨p1, p2, rfl, ⟨us, h1⟩, ⟨vs, h2⟩, k _ H2 G2 S2 (a1.trans a2) (b1.trans b2) (ditB_zip hc.1 hc.2 h1 r1 h2 r2)⟩
      · exact k.elim
    | _ => exact k.elim
  | _ => exact k.elim
end
end DL
set_option Elab.async false
set_option linter.all false
set_option maxRecDepth 100000
namespace DL
open PySem PySem.Spec PyProof.Rows L2
section
variable {K : PySem.W.Frag} {CT : CTab} {H H' : Hp}
theorem RepF.look : ∀ {fds : List (Str × D)} {fs : List (Str × V)} {f : Str}, RepF K CT H fds fs → (∀ d, fds.lookup f = some d → ∃ v, fs.lookup f = some v ∧ Rep K CT H d v) ∧ (fds.lookup f = none → fs.lookup f = none)
  | [], _, f, h => by cases h; exact ⟨fun d z => (by cases z), fun _ => rfl⟩
  | (k, d) :: fds, _, f, ⟨v, r, h1, h2, h3⟩ => by
    subst h1
    have ih := RepF.look (f := f) h3
    rw [List.lookup_cons, List.lookup_cons]
    cases f == k with
    | true => exact ⟨fun d' z => by cases z; exact ⟨v, rfl, h2⟩, fun z => by cases z⟩
    | false => exact ih
theorem RepF.len : ∀ {fds : List (Str × D)} {fs : List (Str × V)}, RepF K CT H fds fs → fds.length = fs.length
  | [], _, h => by cases h; rfl
  | (k, d) :: fds, _, ⟨v, r, h1, h2, h3⟩ => by subst h1; rw [List.length_cons, List.length_cons, RepF.len h3]
end
section
variable {C : Dc} {e : Expr} {E : SD → Out D} {f : Str} {cs : List Str} {pos : Pos}
end
end DL
set_option Elab.async false
set_option linter.all false
set_option maxRecDepth 100000
namespace L2
open PySem PySem.Spec PyProof.Rows
section
variable {X : Cx} {CX : CXT} {k : Nat} {m : Str} {dvs : List V} {E : XK} {o e : Expr} {es : List Expr} {ta : TE} {t : TA} {apos pos : Pos} {cs : Addr → Sp → Prop}
end
end L2
namespace DL
open PySem PySem.Spec PyProof.Rows L2
def selfAt (c : Str) (ς : SD) : Out (List (Str × D)) := match (ς[0]? : Option (Option (SM × D))) with
  | some (some (SM.s, D.ins c' fds)) => if c' = c then .ok fds else .stuck
  | _ => .stuck
def selfOf (c : Str) : Fl → Out (List (Str × D))
  | .nx ς => selfAt c ς
  | _ => .stuck
end DL
set_option Elab.async false
set_option linter.all false
set_option maxRecDepth 100000
namespace DL
open PySem PySem.Spec PyProof.Rows L2
section
variable {C : Dc} {E : XK} {c : Str} {A f : Addr} {fd : FuncData} {ps : List Str} {ds : List Value} {dd : List D} {k : Nat} {m : Str → List (Str × D) → List D → Out (List (Str × D))} {e : Expr} {es : List Expr} {AA : SD → Out (List D)} {p pos : Pos}
def eMake (c : Str) (m : Str → List (Str × D) → List D → Out (List (Str × D))) (a : SD → Out (List D)) : SD → Out D := fun ς => a ς >>= fun xs => m c [] xs >>= fun fds => .ok (.ins c fds)
end
section
variable {C : Dc} {name : Str} {k : Nat} {cs : List Str} {fr : Bool} {mt : Str → List D → Out D} {o e : Expr} {es : List Expr} {O : SD → Out D} {AA : SD → Out (List D)} {apos pos : Pos}
def eMeth (cs : List Str) (name : Str) (mt : Str → List D → Out D) (O : SD → Out D) (A : SD → Out (List D)) : SD → Out D := fun ς => O ς >>= fun d => match d with
  | .ins c fds => if (cs.contains c && (fds.lookup name).isNone) = true then A ς >>= fun xs => mt c (.ins c fds :: xs) else .stuck
  | _ => .stuck
end
end DL
set_option Elab.async false
set_option linter.all false
set_option maxRecDepth 100000
namespace DL
open PySem PySem.Spec PyProof.Rows L2
section
variable {C : Dc} {name : Str} {k : Nat} {cs : List Str} {mt : Str → List D → Out D} {o e : Expr} {es : List Expr} {O : SD → Out D} {AA : SD → Out (List D)} {apos pos : Pos}
variable {E : XK} {m : Str → List (Str × D) → List D → Out (List (Str × D))} {x : Str} {px spos : Pos}
def sMethS (cs : List Str) (name : Str) (m : Str → List (Str × D) → List D → Out (List (Str × D))) (i : Nat) (A : SD → Out (List D)) : SD → Out Fl := fun ς => match (ς[i]? : Option (Option (SM × D))) with
  | some (some (SM.s, D.ins c fds)) => if (cs.contains c && (fds.lookup name).isNone) = true then A ς >>= fun xs => m c fds xs >>= fun fds' => .ok (.nx (ς.set i (some (.s, .ins c fds')))) else .stuck
  | _ => .stuck
end
end DL
set_option Elab.async false
set_option linter.all false
set_option maxRecDepth 100000
namespace DL
open PySem PySem.Spec PyProof.Rows L2
section
variable {C : Dc} {pos p : Pos} {e cx : Expr} {E : SD → Out D}
end
def eIxO (i : Nat) (b : SD → Out D) : SD → Out D := fun ς => match (ς[i]? : Option (Option (SM × D))) with
  | some (some (SM.o, D.lst xs)) => b ς >>= fun k => match k with | .int k => optO (atI xs k) | _ => .stuck
  | _ => .stuck
section
variable {C : Dc} {pos px : Pos} {b : Expr} {B : SD → Out D} {x f : Str} {cs : List Str}
end
end DL
set_option Elab.async false
set_option linter.all false
set_option maxRecDepth 100000
namespace L2
open PySem PySem.Spec PyProof.Rows
def Ite (K : PySem.W.Frag) (a : Addr) : It :=
  ⟨fun i H => ∃ xs x, SqL K H a xs ∧ xs[i]? = some x,
   fun i H v H' => ∃ p x, H p = none ∧ v = .ref p ∧ H' = upd H p (.tup [.int i, x]) ∧ (∀ xs, SqL K H a xs → xs[i]? = some x),
   fun i H => ∃ xs, SqL K H a xs ∧ xs.length ≤ i⟩
theorem turn_enum {P : Program} {w : World} {K : PySem.W.Frag} {elts : List Expr} {k1 : Nat} {pos : Pos} {e it l : Addr} (D1 : e ≠ it) :
    Turn P w K (.Tuple elts k1 pos) (Ite K l) [e, it] e (fun i h => (∃ old, IsEnum h e it (i : Int) old) ∧ h.IsListIter it l i) where
  mem := by simp
  obj := fun i h st b hb => by
    obtain ⟨⟨old, s1⟩, ⟨o4, e4, c4, d4⟩⟩ := st
    simp only [List.mem_cons, List.not_mem_nil, or_false] at hb
    rcases hb with rfl | rfl
    · exact ⟨_, s1, fun v q => by cases q⟩
    · exact ⟨_, e4, fun v q => by rw [d4] at q; cases q⟩
  keep := fun i h h' st k => by
    obtain ⟨⟨old, s1⟩, s4⟩ := st
    exact ⟨⟨old, k e (by simp) _ s1⟩, s4.at fun o q => k it (by simp) o q⟩
  item := by
    intro X hP hw hK hc i pins s σ H E I hf st hg
    subst hP hw hK
    obtain ⟨xs, x, q1, hx⟩ := hg
    obtain ⟨its1, rv1, p1, hz1⟩ := I.list q1
    obtain ⟨u1, hu1, ru1⟩ := rv1.get hx
    obtain ⟨⟨old, s1⟩, s4⟩ := st
    refine wpAny_pyNext_enum_item s1 s4 p1.isList (x := u1) (by simpa using hu1) D1 fun h' a1 a3 a5 a6 hk => ?_
    have hT : H s.heap.objs.size = none := I.hok.fresh (Nat.le_refl _)
    have fp : ∀ c ∈ [e, it], FpOk X pins H c := hf
    have out : ∀ c, c ∉ [e, it] → ∀ o, s.heap.get? c = some o → h'.get? c = some o := fun c hc o q => hk c o (fun q => hc (by simp [q])) (fun q => hc (by simp [q])) q
    have trk : ∀ c o, H c = some o → c ∉ [e, it] := fun c o q hc => by rw [(fp c hc).1] at q; cases q
    have hok : HOk X.prog X.w (upd H s.heap.objs.size (.tup [.int i, x])) h' := fun c o q => by
      by_cases hcT : c = s.heap.objs.size
      · subst hcT
        rw [upd_same] at q
        cases q
        exact ⟨by show 2 ≤ sizeLine; decide, [.int i s.toks, u1], .cons ⟨_, rfl⟩ (.cons ru1 .nil), ⟨_, a5, rfl, _, rfl⟩⟩
      · rw [upd_ne hcT] at q
        refine (I.hok c o q).stay (fun b u hb q' => out b ?_ u q') (fun b q' => ?_) fun b ts q' => ?_
        · rcases hb with rfl | hb
          · exact trk b _ q
          · exact trk b _ hb
        · rw [upd_ne (ne_of_none q' hT)]; exact q'
        · rw [upd_ne (ne_of_none q' hT)]; exact q'
    have I1 : Inv X pins σ (upd H s.heap.objs.size (.tup [.int i, x])) { s with heap := h', gens := s.gens, drawn := s.drawn, toks := s.toks + 1 } := I.step (ch := [e, it])
      (fun c hc => ⟨(fp c hc).2.2.2.1, (fp c hc).2.1, (fp c hc).2.2.2.2.1, (fp c hc).2.2.2.2.2⟩) (fun c o _ _ hc q _ => out c hc o q) (fun c o _ _ hc q _ => ⟨o.slots, out c hc o q⟩)
      (fun c o hc q n => by rw [upd_ne (Nat.ne_of_lt (Heap.lt_size q))]; exact n) (fun c o hc q => ⟨o, out c hc o q⟩)
      (fun c ts q => by rw [upd_ne (ne_of_none q hT)]; exact q) (fun c o u q => by rw [upd_ne (ne_of_none q hT)]; exact q) (fun c ts q => ⟨#[], by rw [upd_ne (ne_of_none q hT), q]; simp⟩)
      (fun m hm => by
        obtain ⟨o, es, ep, ho, r⟩ := hm
        exact ⟨o, es, ep, out _ (fun hc => (fp _ hc).2.1 rfl) o ho, r⟩) hok I.bare
    have lt : ∀ {c o}, s.heap.get? c = some o → s.heap.objs.size ≠ c := fun q => Nat.ne_of_gt (Heap.lt_size q)
    refine ⟨_, rfl, wpAny_letOwnedTupleGo_enum a1 fun h2 hz2 hs2 => ?_⟩
    obtain ⟨z0, z1, z2, z3, z4, z5⟩ := hf e (by simp)
    have I2 : Inv X pins σ (upd H s.heap.objs.size (.tup [.int i, x])) { s with heap := h2, toks := s.toks + 1 } := Inv.turned (s := { s with heap := h', gens := s.gens, drawn := s.drawn, toks := s.toks + 1 }) (t' := s.toks + 1) (it := e) I1 (fun b o hb q => (hs2.2 b hb).trans q) (by rw [upd_ne (lt s1).symm]; exact z0) z1 z3 z4 z5
    refine ⟨.ref s.heap.objs.size, _, I2, rfl, ⟨_, x, hT, rfl, rfl, fun xs' q' => by rw [I.list_inj q' q1]; exact hx⟩,
      ⟨⟨_, by have : ((i + 1 : Nat) : Int) = (i : Int) + 1 := by push_cast; rfl
              rw [this]; exact hz2⟩, a3.extBut hs2.extBut D1.symm⟩, fun c hc => ?_⟩
    have : H c = none := (hf c hc).1
    obtain ⟨oc, hoc⟩ : ∃ o, s.heap.get? c = some o := by
      simp only [List.mem_cons, List.not_mem_nil, or_false] at hc
      rcases hc with rfl | rfl
      · exact ⟨_, s1⟩
      · obtain ⟨o, q, _⟩ := s4; exact ⟨o, q⟩
    rw [upd_ne (lt hoc).symm]; exact this
  done := by
    intro X hP hw hK hc i pins s σ H E I hf st hg
    subst hP hw hK
    obtain ⟨xs, q1, hend⟩ := hg
    obtain ⟨its1, rv1, p1, hz1⟩ := I.list q1
    have l1 := rv1.length
    obtain ⟨⟨old, s1⟩, s4⟩ := st
    obtain ⟨z0, z1, z2, z3, z4, z5⟩ := hf it (by simp)
    refine wpAny_pyNext_enum_end (I.ok.hd hc) s1 s4 p1.isList (by simp; omega) fun h' hk => ⟨rfl, ?_⟩
    have fp : ∀ c ∈ [it], FpOk X pins H c := fun c hc => hf c (by simp only [List.mem_cons, List.not_mem_nil, or_false] at hc ⊢; exact Or.inr hc)
    have out : ∀ c, c ∉ [it] → ∀ o, s.heap.get? c = some o → h'.get? c = some o := fun c hc o q => hk c o (fun q => hc (by simp [q])) q
    have trk : ∀ c o, H c = some o → c ∉ [it] := fun c o q hc => by rw [(fp c hc).1] at q; cases q
    exact I.step (g' := s.gens) (d' := s.drawn) (t' := s.toks) (ch := [it]) (fun c hc => ⟨(fp c hc).2.2.2.1, (fp c hc).2.1, (fp c hc).2.2.2.2.1, (fp c hc).2.2.2.2.2⟩) (fun c o _ _ hc q _ => out c hc o q) (fun c o _ _ hc q _ => ⟨o.slots, out c hc o q⟩)
      (fun c o hc q n => n) (fun c o hc q => ⟨o, out c hc o q⟩) (fun c ts q => q) (fun c o u q => q) (fun c ts q => ⟨#[], by rw [q]; simp⟩)
      (fun m hm => by
        obtain ⟨o, es, ep, ho, r⟩ := hm
        exact ⟨o, es, ep, out _ (fun hc => (fp _ hc).2.1 rfl) o ho, r⟩)
      (fun c o q => (I.hok c o q).stay (fun b u hb q' => out b (by
        rcases hb with rfl | hb
        · exact trk b _ q
        · exact trk b _ hb) u q') (fun b q' => q') fun b ts q' => q') I.bare
  self := fun _ _ _ _ _ st h => wpAny_pyIter_enum st.1.choose_spec h
section
variable {X : Cx}
def iEnum (K : PySem.W.Frag) (ta : TA) : TI := fun σ H R => ta σ H fun vs H1 => ∃ a, vs = [.ref a] ∧ (∃ xs, SqL K H1 a xs) ∧ R (Ite K a) H1
theorem pi_enum {elts : List Expr} {k1 : Nat} {tpos : Pos} {a : Expr} {ta : TA} {p pos : Pos} (hg : Gl X "enumerate") (hm : X.mg "enumerate" = none) (ha : PA X [a] ta) (hs : starEach [a] X.env = [(false, eval a X.env)] := by rfl) :
    PI X (.Tuple elts k1 tpos) (.Call (.Name "enumerate" p) [a] [] pos) (iEnum X.K ta) := by
  intro pins s σ H R I h
  refine Call_ (ld_blt I hg hm PyProof.Rows.Boot.«enumerate» (PyProof.Rows.callWith_type1 (thn (ha pos pins s σ H _ I h) fun us s1 ⟨vs, H1, I1, r1, q1⟩ => ?_) (by rw [hs]; rfl) (by rfl)))
  obtain ⟨l1, e, ⟨xs, hx⟩, q⟩ := q1
  subst e
  cases r1 with
  | cons r rr =>
    cases rr
    cases r
    obtain ⟨its1, rv1, p1, hz1⟩ := I1.list hx
    refine call_enumerate_list p1.isList fun h' c1 c4 c6 hk => ?_
    refine wpAny_pyIter_enum c1 ?_
    refine ⟨_, _, _, Ite X.K l1, H1, rfl, I1.kept (t' := s1.toks) fun b o e => hk b o e, turn_enum (e := s1.heap.objs.size + 1) (it := s1.heap.objs.size) (l := l1) (show ¬ ((s1.heap.objs.size + 1 : Nat) = s1.heap.objs.size) by omega),
      ⟨⟨_, c1⟩, c4⟩, fun b hb => ?_, q⟩
    have hb' : s1.heap.objs.size ≤ b := by
      simp only [List.mem_cons, List.not_mem_nil, or_false] at hb
      rcases hb with rfl | rfl <;> omega
    exact I1.fpOk hb' (I1.hok.fresh hb')
end
end L2
namespace DL
open PySem PySem.Spec PyProof.Rows L2
def enumD (i : Nat) : List D → List D
  | [] => []
  | x :: xs => .tup [.int i, x] :: enumD (i + 1) xs
theorem enumD_len : ∀ (xs : List D) (i : Nat), (enumD i xs).length = xs.length
  | [], _ => rfl
  | x :: xs, i => by simp [enumD, enumD_len xs]
theorem enumD_get : ∀ (xs : List D) (n i : Nat), (enumD n xs)[i]? = xs[i]?.map fun x => .tup [.int (n + i : Nat), x]
  | [], _, _ => rfl
  | x :: xs, n, 0 => rfl
  | x :: xs, n, i + 1 => by
    show (enumD (n + 1) xs)[i]? = _
    rw [enumD_get xs (n + 1) i, show n + 1 + i = n + (i + 1) by omega]
    rfl
def itE (A : SD → Out D) : SD → Out (List D) := fun ς => A ς >>= fun x => match x with
  | .lst xs => .ok (enumD 0 xs)
  | _ => .stuck
section
variable {C : Dc} {a : Expr} {A : SD → Out D}
theorem dit_enum {K : PySem.W.Frag} {CT : CTab} {G1 : Hp} {p : Addr} {xs : List D} {us : List V} (h1 : SqL K G1 p us) (r1 : RepL K CT G1 xs us) : DIt K CT G1 (Ite K p) (enumD 0 xs) where
  go := fun G H i d s1 sH hd => by
    rw [enumD_get, Nat.zero_add] at hd
    cases e1' : xs[i]? with
    | none => rw [e1'] at hd; cases hd
    | some x =>
      rw [e1'] at hd
      cases hd
      obtain ⟨u, hu, ru⟩ := r1.get e1'
      have q1 : SqL K H p us := sH.seq (s1.seq h1)
      refine ⟨⟨us, u, q1, hu⟩, fun w H' ⟨t, x', n, e, e', k1⟩ => ?_⟩
      have z1 := k1 us q1
      rw [hu] at z1; cases z1
      subst e e'
      have gn : G t = none := sH.free n
      refine ⟨upd G t (.tup [.int i, u]), same_upd gn, same_upd n, same_upd2 sH, fun b g g' => ?_, t, [.int i, u], rfl, SqT.of upd_same, ⟨.int i, _, rfl, rfl, u, _, rfl, Rep.mono (s1.trans (same_upd gn)) x u ru, rfl⟩⟩
      by_cases hb : b = t
      · subst hb; exact n
      · rw [upd_ne hb] at g'; exact absurd g g'
  stop := fun G H s1 sH => by
    refine ⟨us, sH.seq (s1.seq h1), ?_⟩
    have l1 := r1.length
    rw [enumD_len]
    omega
theorem di_enum {elts : List Expr} {k1 : Nat} {tpos p pos : Pos} (hgl : Gl C.X "enumerate") (hm : C.X.mg "enumerate" = none) (ha : DE C a A)
    (hst : starEach [a] C.X.env = (false, eval a C.X.env) :: starEach [] C.X.env := by rfl) : DI C (.Tuple elts k1 tpos) (.Call (.Name "enumerate" p) [a] [] pos) (itE A) := by
  obtain ⟨t0, p0, q0⟩ := ha
  refine ⟨_, pi_enum hgl hm (pa_cons p0 pa_nil hst) (by rw [hst]; rfl), fun G H σ ς R S k => ?_⟩
  unfold itE at k
  rw [Out.post_bind] at k
  refine q0 G H σ ς _ S (Out.post_mono k fun d k v H1 G1 S1 a1 b1 r => ?_)
  cases d with
  | lst xs =>
    obtain ⟨p1, us, rfl, h1, r1⟩ := r
    exact ⟨p1, rfl, ⟨us, S1.sub.seq h1⟩, k _ H1 G1 S1 a1 b1 (dit_enum h1 r1)⟩
  | _ => exact k.elim
def eSlB (a : SD → Out D) (l u : SD → Out (Option Int)) : SD → Out D := fun ς => a ς >>= fun x => l ς >>= fun i => u ς >>= fun j => match x with
  | .lst xs => if xs.all D.scal = true then .ok (.lst (cutD xs i j)) else .stuck
  | _ => .stuck
end
end DL
set_option Elab.async false
set_option linter.all false
set_option maxRecDepth 100000
namespace L2
open PySem PySem.Spec PyProof.Rows
section
variable {X : Cx}
end
end L2
namespace DL
open PySem PySem.Spec PyProof.Rows L2
def eLm (f : List D → D → Out D) (O E : SD → Out D) : SD → Out D := fun ς => O ς >>= fun x => match x with | .lst xs => E ς >>= fun y => f xs y | _ => .stuck
section
variable {C : Dc} {o e : Expr} {O E : SD → Out D} {apos cpos : Pos}
end
end DL
set_option Elab.async false
set_option linter.all false
set_option maxRecDepth 100000
namespace L2
open PySem PySem.Spec PyProof.Rows
structure FnM (P : Program) (w : World) (K : PySem.W.Frag) (mg : Str → Option Value) (base : Heap) (k : Nat) (f : Addr) (fd : FuncData) (ps : List Str) (sp : Sp) : Prop where
  many : ∀ vs H Q E, sp vs H Q E → vs.length = ps.length
  go : ∀ (ea : Addr) (A : Around) (outer : List Env) (s : Shared) (H : Hp) (args : Args) (us : List Value) (vs : List V) (Q : VK), Room k A → Env0 P w K mg base A outer s H →
    BindsTo s fd args (ps.zip us) → Vals vs us → sp vs H Q E0 → codeAny (model P w) (A.mark (some (.ref ea))) (.call (.ref f) args) (CR CX0 outer P w H s Q E0) s
section
variable {X : Cx} {k : Nat} {f ea : Addr} {fd : FuncData} {ps : List Str} {sp : Sp} {dvs : List V} {ds : List Value} {x : Str} {p pos : Pos} {e : Expr} {es : List Expr} {t : TA}
end
end L2
namespace DL
open PySem PySem.Spec PyProof.Rows L2
section
variable {C : Dc} {ea : Addr} {x : Str} {k : Nat} {m : List D → Out D} {e : Expr} {es : List Expr} {A : SD → Out (List D)} {p pos : Pos}
end
end DL
set_option Elab.async false
set_option linter.all false
set_option maxRecDepth 100000
namespace L2
open PySem PySem.Spec PyProof.Rows
def Itd (hi : Int) (n : Nat) : It := ⟨fun i _ => i < n, fun i H x H' => H' = H ∧ x = .int (hi - i), fun i _ => n ≤ i⟩
theorem turn_down {P : Program} {w : World} {K : PySem.W.Frag} {tg : Expr} (it : Addr) (hi : Int) (n : Nat) : Turn P w K tg (Itd hi n) [it] it (fun i h => IsRangeIter h it (hi + (i : Nat) * (-1)) ((n : Int) - (i : Nat)) (-1)) where
  mem := by simp
  obj := fun i h st b hb => by
    obtain rfl : b = it := by simpa using hb
    exact ⟨_, st, fun v z => by
      have z' : Data.fields _ = Data.cell v := z
      cases z'⟩
  keep := fun i h h' st k => k it (by simp) _ st
  item := by
    intro X hP hw hK hc i pins s σ H E I hf st hg
    subst hP hw hK
    obtain ⟨f0, f1, f2, f3, f4, f5⟩ := hf it (by simp)
    refine (Walks.range (prog := X.prog) (w := X.w) (I.ok.hd hc) it hi (-1) n).item i s _ _ hg st fun v h' tk hv st' kk => ?_
    obtain ⟨t, rfl⟩ := hv
    have J : Inv X pins σ H { s with heap := h', toks := tk } := I.turned (fun b o hb e => kk b o (by simpa using hb) e) f0 f1 f3 f4 f5
    refine ⟨_, rfl, go_of (s := { s with heap := h', toks := tk }) (n := "range_iterator") st' rfl rfl (by decide) ⟨.int (hi - i), H, J, ⟨t, ?_⟩, ⟨rfl, rfl⟩, st', fun b hb => (hf b hb).1⟩⟩
    congr 1
    omega
  done := by
    intro X hP hw hK hc i pins s σ H E I hf st hg
    subst hP hw hK
    obtain ⟨f0, f1, f2, f3, f4, f5⟩ := hf it (by simp)
    exact wpAny_pyNext_range_end (I.ok.hd hc) st (by have : n ≤ i := hg; omega) fun h' eb => ⟨rfl, I.turned (t' := s.toks) (fun b o hb e => eb b o hb e) f0 f1 f3 f4 f5⟩
  self := fun _ _ _ _ _ st h => wpAny_pyIter_rangeiter st h
theorem size_down (a b : Int) : Builtin.Range.rangeSize a b (-1) = ((a - b).toNat : Int) := by
  unfold Builtin.Range.rangeSize
  rw [if_neg (by decide)]
  simp only [Int.neg_neg, Int.ediv_one]
  split <;> omega
theorem small_down {a b : Int} (h1 : -1000000 ≤ a) (h2 : a ≤ 1000000) (h3 : -1000000 ≤ b) (h4 : b ≤ 1000000) : Builtin.Range.small a b (-1) = true := by
  unfold Builtin.Range.small
  rw [size_down]
  have f : ∀ i : Int, -3000000 ≤ i → i ≤ 3000000 → Builtin.Range.rangeFitsLong i = true := fun i p q => by
    unfold Builtin.Range.rangeFitsLong
    rw [Bool.and_eq_true, decide_eq_true_eq, decide_eq_true_eq]
    omega
  rw [f a (by omega) (by omega), f b (by omega) (by omega), f (-1) (by omega) (by omega), f _ (by omega) (by omega), if_neg (by decide), f _ (by omega) (by omega)]
  simp
section
variable {X : Cx} {tg : Expr}
def iRngD (ta : TA) : TI := fun σ H R => ta σ H fun vs H1 => ∃ i j : Int, vs = [.int i, .int j, .int (-1)] ∧ (-1000000 ≤ i ∧ i ≤ 1000000 ∧ -1000000 ≤ j ∧ j ≤ 1000000) ∧ R (Itd i (i - j).toNat) H1
theorem pi_rangeD {a b c : Expr} {ta : TA} {p pos : Pos} (hg : Gl X "range") (hm : X.mg "range" = none) (ha : PA X [a, b, c] ta) (hs : starEach [a, b, c] X.env = [(false, eval a X.env), (false, eval b X.env), (false, eval c X.env)] := by rfl) (hs2 : starEach [b, c] X.env = [(false, eval b X.env), (false, eval c X.env)] := by rfl) :
    PI X tg (.Call (.Name "range" p) [a, b, c] [] pos) (iRngD ta) := by
  intro pins s σ H R I h
  refine Call_ (ld_blt I hg hm boot_range (PyProof.Rows.callWith_type1 (thn (ha pos pins s σ H _ I h) fun us s1 ⟨vs, H1, I1, r1, q1⟩ => ?_) (by rw [hs, hs2]) (by rw [hs2]; rfl)))
  obtain ⟨i, j, e, ⟨q1, q2, q3, q4⟩, q⟩ := q1
  subst e
  cases r1 with
  | cons r rr =>
    cases rr with
    | cons r' rr =>
      cases rr with
      | cons r'' rr =>
        cases rr
        obtain ⟨t, rfl⟩ := r
        obtain ⟨t', rfl⟩ := r'
        obtain ⟨t'', rfl⟩ := r''
        refine call_range_3 (by decide) ?_ (Or.inl (PyProof.noPylong_small (by decide)))
        refine wpAny_pyIter_range (IsRange.new ..) (small_down q1 q2 q3 q4) ?_
        have J : Inv X pins σ H1 { s1 with heap := s1.heap.push { cls := .type "range", data := .fields #[.int i t, .int j t', .int (-1) t''] }, toks := s1.toks } := I1.kept fun b o e => Heap.get?_push_of_some _ e
        refine ⟨_, [(s1.heap.push { cls := .type "range", data := .fields #[.int i t, .int j t', .int (-1) t''] }).objs.size], _, _, H1, rfl, J.kept (t' := s1.toks) fun b o e => Heap.get?_push_of_some _ e, turn_down _ i (i - j).toNat, ?_, fun b hb => ?_, q⟩
        · show IsRangeIter _ _ (i + ((0 : Nat) : Int) * (-1)) ((((i - j).toNat : Nat) : Int) - ((0 : Nat) : Int)) (-1)
          have e1 : i + ((0 : Nat) : Int) * (-1) = i := by omega
          have e2 : (((i - j).toNat : Nat) : Int) - ((0 : Nat) : Int) = Builtin.Range.rangeSize i j (-1) := by rw [size_down]; omega
          rw [e1, e2]
          exact Heap.get?_push_size _ rfl
        · obtain rfl : b = (s1.heap.push { cls := .type "range", data := .fields #[.int i t, .int j t', .int (-1) t''] }).objs.size := by simpa using hb
          exact J.fpOk (Nat.le_refl _) (J.hok.fresh (Nat.le_refl _))
theorem intsOf : ∀ {ns : List Int} {its : List Value}, Vals (ns.map V.int) its → ∃ xs : List (Int × Tok), its = xs.map (fun p => Value.int p.1 p.2) ∧ xs.map (·.1) = ns
  | [], _, .nil => ⟨[], rfl, rfl⟩
  | n :: ns, _, .cons r rr => by
    obtain ⟨t, rfl⟩ := r
    obtain ⟨xs, rfl, e⟩ := intsOf rr
    exact ⟨(n, t) :: xs, rfl, by rw [List.map_cons, e]⟩
theorem call_sumI (hc : X.calm = true) : CallR X (.builtin "sum") (fun xs H Q => ∃ (p : Addr) (ns : List Int), xs = [.ref p] ∧ SqL X.K H p (ns.map V.int) ∧ Q (.int ns.sum) H) := by
  intro pins s σ H xs us Q I r h
  obtain ⟨p, ns, rfl, hq, q⟩ := h
  obtain ⟨u, rfl, rx⟩ := vals1 r
  cases rx
  obtain ⟨its, rv, pl, hz⟩ := I.list hq
  obtain ⟨ys, rfl, e⟩ := intsOf rv
  have hl : s.heap.IsList p (intItems ys.toArray) := by
    have : (ys.map fun p => Value.int p.1 p.2).toArray = intItems ys.toArray := by simp [intItems]
    rw [← this]; exact pl.isList
  refine sum_intListG (I.ok.hd hc) hl fun h' tk t' kk => ⟨.int ns.sum, H, I.kept kk, ⟨t', ?_⟩, q⟩
  congr 1
  rw [preSum_eq, List.take_of_length_le (by simp), ← e]
end
end L2
namespace DL
open PySem PySem.Spec PyProof.Rows L2
def downD (hi : Int) (n : Nat) : List D := (List.range n).map fun (i : Nat) => D.int (hi - i)
theorem downD_get {hi : Int} {n i : Nat} (h : i < n) : (downD hi n)[i]? = some (D.int (hi - i)) := by
  unfold downD
  rw [List.getElem?_map, List.getElem?_range h]; rfl
theorem downD_len {hi : Int} {n : Nat} : (downD hi n).length = n := by simp [downD]
def smallM (i : Int) : Bool := decide (-1000000 ≤ i) && decide (i ≤ 1000000)
def itRD (A B E : SD → Out D) : SD → Out (List D) := fun ς => A ς >>= fun d => B ς >>= fun d' => E ς >>= fun d'' => match d, d', d'' with
  | .int a, .int b, .int c => if (smallM a && smallM b && decide (c = -1)) = true then .ok (downD a (a - b).toNat) else .stuck
  | _, _, _ => .stuck
def intsD : List D → Option (List Int)
  | [] => some []
  | .int i :: r => (intsD r).map (i :: ·)
  | _ :: _ => none
theorem intsD_rep {K : PySem.W.Frag} {CT : CTab} {H : Hp} : ∀ {ds : List D} {ns : List Int} {vs : List V}, intsD ds = some ns → RepL K CT H ds vs → vs = ns.map V.int
  | [], ns, vs, h, r => by cases h; exact r
  | d :: ds, ns, vs, h, ⟨v, w, h1, h2, h3⟩ => by
    cases d with
    | int i =>
      cases e : intsD ds with
      | none => rw [intsD, e] at h; cases h
      | some ms =>
        rw [intsD, e] at h
        cases h
        subst h1
        cases h2
        rw [intsD_rep e h3]; rfl
    | _ => cases h
theorem intsD_map : ∀ ns : List Int, intsD (ns.map .int) = some ns
  | [] => rfl
  | n :: ns => by show (intsD (ns.map .int)).map (n :: ·) = _; rw [intsD_map ns]; rfl
def fSum : D → Out D
  | .lst xs => match intsD xs with | some ns => .ok (.int ns.sum) | none => .stuck
  | _ => .stuck
section
variable {C : Dc} {a b c e : Expr} {es : List Expr} {A B E : SD → Out D} {AA : SD → Out (List D)} {tg : Expr} {p pos : Pos}
theorem dit_down {K : PySem.W.Frag} {CT : CTab} {G1 : Hp} {hi : Int} {n : Nat} : DIt K CT G1 (Itd hi n) (downD hi n) where
  go := fun G H i d s1 sH hd => by
    have h : i < n := by
      have := (List.getElem?_eq_some_iff.mp hd).1
      rw [downD_len] at this; exact this
    rw [downD_get h] at hd; cases hd
    exact ⟨h, fun x H' ⟨e, y⟩ => by
      subst e y
      exact ⟨G, Same.refl _, Same.refl _, sH, fun b g n => absurd g n, rfl⟩⟩
  stop := fun G H s1 sH => by rw [downD_len]; exact Nat.le_refl _
theorem di_rangeD {p1 p2 : Pos} (hgl : Gl C.X "range") (hm : C.X.mg "range" = none) (ha : DB C a A) (hb : DB C b B) (hc : DB C c E)
    (hst : starEach [a, b, c] C.X.env = (false, eval a C.X.env) :: starEach [b, c] C.X.env := by rfl) (hst2 : starEach [b, c] C.X.env = (false, eval b C.X.env) :: starEach [c] C.X.env := by rfl) (hst3 : starEach [c] C.X.env = (false, eval c C.X.env) :: starEach [] C.X.env := by rfl) :
    DI C tg (.Call (.Name "range" p1) [a, b, c] [] p2) (itRD A B E) := by
  obtain ⟨t0, p0, q0⟩ := ha
  obtain ⟨t3, p3, q3⟩ := hb
  obtain ⟨t4, p4, q4⟩ := hc
  refine ⟨_, pi_rangeD hgl hm (pa_cons p0 (pa_cons p3 (pa_cons p4 pa_nil hst3) hst2) hst) (by rw [hst, hst2, hst3]; rfl) (by rw [hst2, hst3]; rfl), fun G H σ ς R S k => ?_⟩
  unfold itRD at k
  rw [Out.post_bind] at k
  refine q0 G H σ ς _ S (Out.post_mono k fun d k v H1 G1 S1 a1 b1 r => ?_)
  rw [Out.post_bind] at k
  refine q3 G1 H1 σ ς _ S1 (Out.post_mono k fun d2 k v2 H2 G2 S2 a2 b2 r' => ?_)
  rw [Out.post_bind] at k
  refine q4 G2 H2 σ ς _ S2 (Out.post_mono k fun d3 k v3 H3 G3 S3 a3 b3 r'' => ?_)
  cases d with
  | int n =>
    cases d2 with
    | int m =>
      cases d3 with
      | int o =>
        cases r; cases r'; cases r''
        rcases post_ite k with ⟨hc, k2⟩ | ⟨_, k2⟩
        · unfold smallM at hc
          simp only [Bool.and_eq_true, decide_eq_true_eq] at hc
          obtain ⟨⟨⟨h1, h2⟩, h3, h4⟩, rfl⟩ := hc
          exact ⟨n, m, rfl, ⟨h1, h2, h3, h4⟩, k2 _ H3 G3 S3 ((a1.trans a2).trans a3) ((b1.trans b2).trans b3) dit_down⟩
        · exact k2.elim
      | _ => exact k.elim
    | _ => cases d3 <;> exact k.elim
  | _ => cases d2 <;> cases d3 <;> exact k.elim
theorem de_sum (hc : C.X.calm = true) (hg : Gl C.X "sum") (hm : C.X.mg "sum" = none) (ha : DAB C (e :: es) AA)
    (he : starEach (e :: es) C.X.env = (false, eval e C.X.env) :: starEach es C.X.env := by rfl) (hpl : (backTo pos (starEach es C.X.env)).any (·.1) = false := by rfl) : DE C (.Call (.Name "sum" p) (e :: es) [] pos) (eA (f1 fSum) AA) := by
  refine de_callB (call_sumI hc) (dcs_f1 ?_) (scal_f1 ?_) hg hm PyProof.Rows.Boot.«sum» ha (by decide) (by decide) he hpl
  · intro G H σ ς Q x v S r q
    cases x with
    | lst xs =>
      cases eb : intsD xs with
      | none => rw [fSum, eb] at q; exact q.elim
      | some ns =>
        rw [fSum, eb] at q
        obtain ⟨a, vs, rfl, h2, h3⟩ := r
        rw [intsD_rep eb h3] at h2
        exact ⟨a, ns, rfl, h2, q.2⟩
    | _ => exact q.elim
  · intro x
    cases x with
    | lst xs =>
      rw [fSum]
      cases intsD xs with
      | none => exact True.intro
      | some bs => exact rfl
    | _ => exact True.intro
def dCatB : D → D → Out D
  | .lst xs, .lst ys => if (fits (xs.length + ys.length) && xs.all D.scal) = true then .ok (.lst (xs ++ ys)) else .stuck
  | _, _ => .stuck
theorem df_catB (ha : DB C a A) (hb : DE C b B) : DF C (.BinOp a .Add b pos) (e2 dCatB A B) := by
  obtain ⟨ta, p1, q1⟩ := ha
  obtain ⟨tb, p2, q2⟩ := hb
  refine ⟨_, pe_op op_catS p1 p2, fun G H σ ς Q S q => ?_⟩
  unfold e2 at q
  rw [Out.post_bind] at q
  refine q1 G H σ ς _ S (Out.post_mono q fun x k v1 H1 G1 S1 a1 b1 r1 => ?_)
  rw [Out.post_bind] at k
  refine q2 G1 H1 σ ς _ S1 (Out.post_mono k fun y k2 v2 H2 G2 S2 a2 b2 r2 => ?_)
  cases x with
  | lst xs =>
    cases y with
    | lst ys =>
      rcases post_ite (show (if (fits (xs.length + ys.length) && xs.all D.scal) = true then Out.ok (D.lst (xs ++ ys)) else .stuck).post _ _ from k2) with ⟨hc, k3⟩ | ⟨_, k3⟩
      · rw [Bool.and_eq_true] at hc
        obtain ⟨p, vs, rfl, h2, h3⟩ := r1
        obtain ⟨p', vs', rfl, h2', h3'⟩ := r2
        exact ⟨p, p', vs, vs', rfl, rfl, a2.seq h2, S2.sub.seq h2', by rw [← h3.length, ← h3'.length]; exact of_decide_eq_true hc.1,
          KF.lst (KF.later (show KF C G H σ ς Q (.lst (xs ++ ys)) from k3) (a1.trans a2) (b1.trans b2)) S2 ((h3.flat hc.2).append h3')⟩
      · exact k3.elim
    | _ => exact k2.elim
  | _ => cases y <;> exact k2.elim
def frz (j : Nat) (ς : SD) : SD := match (ς[j]? : Option (Option (SM × D))) with
  | some (some (SM.o, d)) => ς.set j (some (.k, d))
  | _ => ς
theorem StR.frz {G H : Hp} {σ : L2.St} {ς : SD} (S : StR C G H σ ς) {j : Nat} {d : D} (z : ς[j]? = some (some (.o, d))) : ∃ G', Same G G' ∧ StR C G' H σ (ς.set j (some (.k, d))) := by
  obtain ⟨p, e, hg, h0, ow⟩ := S.ow j d z
  obtain ⟨o, ho⟩ := ow.there
  have hj : j < ς.length := (List.getElem?_eq_some_iff.mp z).1
  have get : ∀ (i : Nat) x, (ς.set j (some (.k, d)))[i]? = some (some x) → (i = j ∧ x = (.k, d)) ∨ (i ≠ j ∧ ς[i]? = some (some x)) := fun i x h => by
    rw [List.getElem?_set] at h
    by_cases q : j = i
    · rw [if_pos q, if_pos (by omega)] at h
      cases h
      exact .inl ⟨q.symm, rfl⟩
    · rw [if_neg q] at h
      exact .inr ⟨fun w => q w.symm, h⟩
  refine ⟨upd G p o, same_upd hg, ?_⟩
  have hn : ∀ (i : Nat) d', i ≠ j → ς[i]? = some (some (.o, d')) → σ[i]? ≠ some (some (.ref p)) := fun i d' hi q w => S.inj i j d' d p hi q z w e
  exact {
    toGH := GH.freezeR S.toGH ho hg h0
    len := by rw [List.length_set]; exact S.len
    fz := fun i d' q => by
      rcases get i _ q with ⟨rfl, w⟩ | ⟨_, w⟩
      · cases w
        exact ⟨_, e, ow.known hg ho⟩
      · obtain ⟨v, a, b⟩ := S.fz i d' w
        exact ⟨v, a, Rep.mono (same_upd hg) d' v b⟩
    ow := fun i d' q => by
      rcases get i _ q with ⟨rfl, w⟩ | ⟨hi, w⟩
      · cases w
      · obtain ⟨r, a, b, c, w'⟩ := S.ow i d' w
        refine ⟨r, a, ?_, c, w'.mono (same_upd hg) fun _ z => z⟩
        rw [upd_ne (by rintro rfl; exact hn i d' hi w a)]; exact b
    ln := fun i d' q => by
      rcases get i _ q with ⟨rfl, w⟩ | ⟨_, w⟩
      · cases w
      · exact S.ln i d' w
    inj := fun i k d1 d2 q hne h1 h2 => by
      rcases get i _ h1 with ⟨rfl, w⟩ | ⟨_, w⟩
      · cases w
      · rcases get k _ h2 with ⟨rfl, w2⟩ | ⟨_, w2⟩
        · cases w2
        · exact S.inj i k d1 d2 q hne w w2
    sf := fun i d' q => by
      rcases get i _ q with ⟨rfl, w⟩ | ⟨_, w⟩
      · cases w
      · obtain ⟨r, a, b, c, m, z', w'⟩ := S.sf i d' w
        refine ⟨r, a, ?_, c, m, z', w'.mono (same_upd hg) fun _ z => z⟩
        rw [upd_ne (by rintro rfl; exact c h0)]; exact b
    su := fun i k d1 d2 h1 h2 => by
      rcases get i _ h1 with ⟨rfl, w⟩ | ⟨_, w⟩
      · cases w
      · rcases get k _ h2 with ⟨rfl, w2⟩ | ⟨_, w2⟩
        · cases w2
        · exact S.su i k d1 d2 w w2 }
theorem ds_frz (j : Nat) {st : Stmt} {T : SD → Out Fl} (h : DS C st T) : DS C st (fun ς => T (frz j ς)) := by
  obtain ⟨t, p1, q⟩ := h
  refine ⟨t, p1, fun G H σ ς W S k => ?_⟩
  have k : (T (frz j ς)).post (FlK C G W) C.XD := k
  by_cases z : ∃ d, ς[j]? = some (some (SM.o, d))
  · obtain ⟨d, z⟩ := z
    have e : frz j ς = ς.set j (some (.k, d)) := by unfold frz; rw [z]
    rw [e] at k
    obtain ⟨G', sG, S'⟩ := S.frz z
    exact q G' H σ _ W S' (Out.post_mono k fun f kf => FlK.later kf sG)
  · have e : frz j ς = ς := by
      unfold frz
      split
      · rename_i d w; exact absurd ⟨d, w⟩ z
      · rfl
    rw [e] at k
    exact q G H σ ς W S k
def itLB (A : SD → Out D) : SD → Out (List D) := fun ς => A ς >>= fun x => match x with
  | .lst xs => if xs.all D.scal = true then .ok xs else .stuck
  | _ => .stuck
theorem ditB_list {K : PySem.W.Frag} {CT : CTab} {B1 G1 : Hp} {p : Addr} {xs : List D} {us : List V} (fx : xs.all D.scal = true) (h1 : SqL K B1 p us) (r1 : RepL K CT B1 xs us) : DItB K CT B1 G1 (Itl K p) xs where
  go := fun G H i d s1 sH sB hd => by
    obtain ⟨v, hv, rv⟩ := r1.get hd
    have sx : d.scal = true := List.all_eq_true.mp fx d (List.mem_of_getElem? hd)
    have hq : SqL K H p us := sB.seq h1
    refine ⟨⟨us, v, hq, hv⟩, fun x H' ⟨e, y⟩ => ?_⟩
    have ex : us[i]? = some x := y us hq
    rw [hv] at ex; cases ex
    subst e
    exact ⟨G, Same.refl _, Same.refl _, sH, fun b g n => absurd g n, rv.scal sx⟩
  stop := fun G H s1 sH sB => ⟨us, sB.seq h1, by rw [r1.length]; exact Nat.le_refl _⟩
theorem dib_list (ha : DB C a A) : DIB C tg a (itLB A) := by
  obtain ⟨t0, p0, q0⟩ := ha
  refine ⟨_, pi_list p0, fun G H σ ς R S k => ?_⟩
  unfold itLB at k
  rw [Out.post_bind] at k
  refine q0 G H σ ς _ S (Out.post_mono k fun d k v H1 G1 S1 a1 b1 r => ?_)
  cases d with
  | lst xs =>
    rcases post_ite k with ⟨hc, k⟩ | ⟨_, k⟩
    · obtain ⟨p1, us, rfl, h1, r1⟩ := r
      exact ⟨p1, rfl, ⟨us, h1⟩, k _ H1 G1 S1 a1 b1 (ditB_list hc h1 r1)⟩
    · exact k.elim
  | _ => exact k.elim
end
end DL
set_option Elab.async false
set_option linter.all false
set_option maxRecDepth 100000
namespace DL
open PySem PySem.Spec PyProof.Rows L2
theorem dMod_pos {i j : Int} (h : 0 < j) : dMod (.int i) (.int j) = .ok (.int (i % j)) := by
  show (if decide (j ≠ 0) = true then Out.ok (D.int (i.fmod j)) else Out.stuck) = _
  rw [if_pos (decide_eq_true (by omega)), Int.fmod_eq_emod_of_nonneg i (by omega)]
theorem big_of {j : Int} {n : Nat} (h : j.natAbs < 2 ^ n) (hn : n ≤ 9000) : big j = true := decide_eq_true (Nat.lt_of_lt_of_le h (Nat.pow_le_pow_right (by decide) hn))
theorem dFdiv_ok {i j : Int} (h : j ≠ 0) (hb : big j = true) : dFdiv (.int i) (.int j) = .ok (.int (i.fdiv j)) := by
  show (if (decide (j ≠ 0) && big j) = true then Out.ok (D.int (i.fdiv j)) else Out.stuck) = _
  rw [if_pos (by rw [hb, decide_eq_true h]; rfl)]
theorem dFdiv_pos {i j : Int} (h : 0 < j) (hb : big j = true) : dFdiv (.int i) (.int j) = .ok (.int (i / j)) := by
  rw [dFdiv_ok (by omega) hb, Int.fdiv_eq_ediv_of_nonneg i (by omega)]
theorem bits_of {i : Int} {n : Nat} (h : i.natAbs < 2 ^ n) : bitsI i ≤ n := PySem.intBits_le_iff.mpr h
theorem of_bits {i : Int} {n : Nat} (h : bitsI i ≤ n) : i.natAbs < 2 ^ n := PySem.intBits_le_iff.mp h
theorem dMul_ok {i j : Int} (h : bitsI i + bitsI j ≤ 134217728) : dMul (.int i) (.int j) = .ok (.int (i * j)) := by
  show (if decide (bitsI i + bitsI j ≤ 134217728) = true then Out.ok (D.int (i * j)) else Out.stuck) = _
  rw [if_pos (decide_eq_true h)]
theorem dMul_of {i j : Int} {m n : Nat} (hi : bitsI i ≤ m) (hj : bitsI j ≤ n) (h : m + n ≤ 134217728) : dMul (.int i) (.int j) = .ok (.int (i * j)) := dMul_ok (by omega)
theorem dAdd_int (i j : Int) : dAdd (.int i) (.int j) = .ok (.int (i + j)) := rfl
theorem dSub_int (i j : Int) : dSub (.int i) (.int j) = .ok (.int (i - j)) := rfl
theorem dNeg_int (i : Int) : dNeg (.int i) = .ok (.int (-i)) := rfl
theorem dAbs_int (i : Int) : dAbs (.int i) = .ok (.int (i.natAbs : Int)) := by
  show Out.ok (D.int (if i < 0 then -i else i)) = _
  congr 2; split <;> omega
theorem dLt_int (i j : Int) : dLt (.int i) (.int j) = .ok (.bl (decide (i < j))) := rfl
theorem dLe_int (i j : Int) : dLe (.int i) (.int j) = .ok (.bl (decide (i ≤ j))) := rfl
theorem dGt_int (i j : Int) : dGt (.int i) (.int j) = .ok (.bl (decide (j < i))) := rfl
theorem dGe_int (i j : Int) : dGe (.int i) (.int j) = .ok (.bl (decide (j ≤ i))) := rfl
mutual
def layD : D → Bool
  | .non => true
  | .bl _ => true
  | .int _ => true
  | .str x => PyData.strOk x
  | .lst xs => layDs xs
  | .tup xs => layDs xs
  | _ => false
def layDs : List D → Bool
  | [] => true
  | x :: xs => layD x && layDs xs
end
mutual
def dep : D → Nat
  | .lst xs => deps xs + 1
  | .tup xs => deps xs + 1
  | _ => 0
def deps : List D → Nat
  | [] => 0
  | x :: xs => max (dep x) (deps xs)
end
mutual
theorem lay_py : ∀ d : D, layD d = true → d.py.canLay0 = true
  | .non, _ => rfl
  | .bl _, _ => rfl
  | .int _, _ => rfl
  | .str x, h => h
  | .lst xs, h => lay_pys xs h
  | .tup xs, h => lay_pys xs h
theorem lay_pys : ∀ ds : List D, layDs ds = true → PyData.canLayAll0 (D.pys ds) = true
  | [], _ => rfl
  | x :: xs, h => by
    rw [layDs, Bool.and_eq_true] at h
    rw [D.pys, PyData.canLayAll0, Bool.and_eq_true]
    exact ⟨lay_py x h.1, lay_pys xs h.2⟩
end
mutual
theorem dep_py : ∀ d : D, layD d = true → d.py.depth = dep d
  | .non, _ => rfl
  | .bl _, _ => rfl
  | .int _, _ => rfl
  | .str x, h => rfl
  | .lst xs, h => by rw [D.py, PyData.depth, dep, dep_pys xs h]
  | .tup xs, h => by rw [D.py, PyData.depth, dep, dep_pys xs h]
theorem dep_pys : ∀ ds : List D, layDs ds = true → PyData.depthAll (D.pys ds) = deps ds
  | [], _ => rfl
  | x :: xs, h => by
    rw [layDs, Bool.and_eq_true] at h
    rw [D.pys, PyData.depthAll, deps, dep_py x h.1, dep_pys xs h.2]
end
theorem shp_of {d : D} (h : layD d = true) (hd : dep d ≤ 64) : shp d = true := by
  unfold shp SeqAt.shaped
  rw [lay_py d h, dep_py d h]
  simpa using hd
theorem shp_int (i : Int) : shp (.int i) = true := shp_of rfl (Nat.zero_le _)
theorem dEq_of {x y : D} (hx : shp x = true) (hy : shp y = true) : dEq x y = .ok (.bl (PyData.eqv x.py y.py)) := by
  unfold dEq; rw [hx, hy]; rfl
theorem dNe_of {x y : D} (hx : shp x = true) (hy : shp y = true) : dNe x y = .ok (.bl (!PyData.eqv x.py y.py)) := by
  unfold dNe; rw [hx, hy]; rfl
theorem beq_dec (i j : Int) : (i == j) = decide (i = j) := by
  by_cases h : i = j
  · subst h; simp
  · simp [h]
theorem dEq_int (i j : Int) : dEq (.int i) (.int j) = .ok (.bl (decide (i = j))) := by
  rw [dEq_of (shp_int i) (shp_int j), ← beq_dec]
  rfl
theorem dNe_int (i j : Int) : dNe (.int i) (.int j) = .ok (.bl (!decide (i = j))) := by
  rw [dNe_of (shp_int i) (shp_int j), ← beq_dec]
  rfl
theorem fits_small {n : Nat} (h : n ≤ 1000 := by decide) : fits n = true := decide_eq_true (Nat.le_trans h (by decide))
theorem ixT {xs : List D} {x : D} (k : Nat) (h : xs[k]? = some x) : dIx (.tup xs) (.int (k : Int)) = .ok x := by
  show optO (atI xs (k : Int)) = _
  rw [atI_nat h]; rfl
theorem ixL {xs : List D} {x : D} (k : Nat) (h : xs[k]? = some x) : dIx (.lst xs) (.int (k : Int)) = .ok x := by
  show optO (atI xs (k : Int)) = _
  rw [atI_nat h]; rfl
theorem ix_tup0 (x : D) (xs : List D) : dIx (.tup (x :: xs)) (.int 0) = .ok x := ixT 0 rfl
theorem ix_tup1 (x y : D) (xs : List D) : dIx (.tup (x :: y :: xs)) (.int 1) = .ok y := ixT 1 rfl
theorem cut_to {α : Type} (xs : List α) (k : Nat) : cutD xs none (some (k : Int)) = xs.take k := by
  unfold cutD
  rw [HT.sIx_none, HT.sIx_nat, List.drop_zero, Nat.sub_zero]
  by_cases h : k ≤ xs.length
  · rw [Nat.min_eq_left h]
  · rw [Nat.min_eq_right (by omega), List.take_of_length_le (Nat.le_refl _), List.take_of_length_le (by omega)]
theorem cut_from {α : Type} (xs : List α) (k : Nat) : cutD xs (some (k : Int)) none = xs.drop k := by
  unfold cutD
  rw [HT.sIx_none, HT.sIx_nat]
  by_cases h : k ≤ xs.length
  · rw [Nat.min_eq_left h, List.take_of_length_le (by rw [List.length_drop]; exact Nat.le_refl _)]
  · rw [Nat.min_eq_right (by omega), List.drop_length, List.drop_eq_nil_of_le (by omega)]; simp
theorem dCat_ok {xs ys : List D} (h : xs.length + ys.length ≤ 1000) : dCat (.lst xs) (.lst ys) = .ok (.lst (xs ++ ys)) := by
  show (if fits _ = true then _ else _) = _
  rw [if_pos (fits_small h)]
theorem sFor_of {g : D → SD → Out SD} {its : SD → Out (List D)} {T : SD → Out Fl} {ς : SD} {xs : List D} {r : Out Fl} (h : its ς = .ok xs) (hL : loopD (fun x ς => g x ς >>= fun ς' => T ς') xs ς = r) : sFor g its T ς = r := by
  unfold sFor
  rw [h]; exact hL
theorem rng_ok {A : SD → Out D} {ς : SD} (m : Nat) (h : A ς = .ok (.int (m : Int))) (hm : m ≤ 1000000) : itR1 A ς = .ok (rangeD 0 m) := by
  have hs : small62 (m : Int) = true := by
    unfold small62
    rw [Bool.and_eq_true]
    exact ⟨decide_eq_true (by omega), decide_eq_true (by omega)⟩
  unfold itR1
  rw [h, Out.bind_ok]
  simp only [hs, if_true, Int.toNat_natCast]
end DL
set_option Elab.async false
set_option linter.all false
set_option maxRecDepth 100000
namespace DL
open PySem PySem.Spec PyProof.Rows L2
theorem loop_rangeK {body : D → SD → Out Fl} {P : Nat → SD → Prop} {n : Nat} (h : ∀ k : Nat, k < n → ∀ ς, P k ς → ∃ ς', body (.int (k : Int)) ς = .ok (.nx ς') ∧ P (k + 1) ς') : ∀ ς, P 0 ς → ∃ ς', loopD body (rangeD 0 n) ς = .ok (.nx ς') ∧ P n ς' := by
  have key : ∀ (j : Nat) (k : Nat), k + j = n → ∀ ς, P k ς → ∃ ς', loopD body ((List.range' k j).map fun (i : Nat) => D.int ((0 : Int) + i)) ς = .ok (.nx ς') ∧ P n ς' := by
    intro j
    induction j with
    | zero =>
      intro k hk ς p
      have : k = n := by omega
      subst this
      exact ⟨ς, rfl, p⟩
    | succ j ih =>
      intro k hk ς p
      obtain ⟨ς1, e1, p1⟩ := h k (by omega) ς p
      obtain ⟨ς2, e2, p2⟩ := ih (k + 1) (by omega) ς1 p1
      refine ⟨ς2, ?_, p2⟩
      rw [List.range'_succ, List.map_cons, loopD, Int.zero_add, e1]
      exact e2
  intro ς p
  have := key n 0 (by omega) ς p
  unfold rangeD
  rw [List.range_eq_range']
  exact this
theorem fits_of {n : Nat} (h : n ≤ 1000) : fits n = true := fits_small h
end DL
namespace My
def shD (a b : Int) : Int := if b < 0 then -(a.gcd b : Int) else (a.gcd b : Int)
def low (p q : Int) : Prop := 1 ≤ q ∧ p.gcd q = 1
theorem gcd_pos_of {a b : Int} (h : b ≠ 0) : 0 < a.gcd b := Int.gcd_pos_of_ne_zero_right a h
theorem shD_ne {a b : Int} (h : b ≠ 0) : shD a b ≠ 0 := by
  have := gcd_pos_of (a := a) h
  unfold shD; split <;> omega
theorem shD_abs (a b : Int) : (shD a b).natAbs = a.gcd b := by
  unfold shD; split <;> omega
theorem shD_dvd_left (a b : Int) : shD a b ∣ a := by
  rw [← Int.natAbs_dvd, shD_abs]; exact Int.gcd_dvd_left a b
theorem shD_dvd_right (a b : Int) : shD a b ∣ b := by
  rw [← Int.natAbs_dvd, shD_abs]; exact Int.gcd_dvd_right a b
theorem sh_parts {a b : Int} (h : b ≠ 0) : ∃ x y, a = shD a b * x ∧ b = shD a b * y ∧ a.fdiv (shD a b) = x ∧ b.fdiv (shD a b) = y := by
  obtain ⟨x, hx⟩ := shD_dvd_left a b
  obtain ⟨y, hy⟩ := shD_dvd_right a b
  have hs := shD_ne (a := a) h
  refine ⟨x, y, hx, hy, ?_, ?_⟩
  · have e : a.fdiv (shD a b) = (shD a b * x).fdiv (shD a b) := congrArg (fun z => Int.fdiv z (shD a b)) hx
    rw [e, Int.mul_fdiv_cancel_left x hs]
  · have e : b.fdiv (shD a b) = (shD a b * y).fdiv (shD a b) := congrArg (fun z => Int.fdiv z (shD a b)) hy
    rw [e, Int.mul_fdiv_cancel_left y hs]
theorem sh_low {a b : Int} (h : b ≠ 0) : low (a.fdiv (shD a b)) (b.fdiv (shD a b)) := by
  obtain ⟨x, y, hx, hy, e1, e2⟩ := sh_parts (a := a) h
  rw [e1, e2]
  constructor
  · have hs := shD_ne (a := a) h
    by_cases hb : b < 0
    · have hd : shD a b < 0 := by
        have := gcd_pos_of (a := a) h
        unfold shD; rw [if_pos hb]; omega
      rcases Int.lt_or_le 0 y with h0 | h0
      · omega
      · have : 0 ≤ shD a b * y := Int.mul_nonneg_of_nonpos_of_nonpos (by omega) h0
        omega
    · have hd : 0 < shD a b := by
        have := gcd_pos_of (a := a) h
        unfold shD; rw [if_neg hb]; omega
      rcases Int.lt_or_le 0 y with h0 | h0
      · omega
      · have : shD a b * y ≤ 0 := Int.mul_nonpos_of_nonneg_of_nonpos (by omega) h0
        omega
  · have g0 := gcd_pos_of (a := a) h
    have e : a.gcd b = (shD a b).natAbs * x.gcd y := by
      have e0 : (shD a b * x).gcd (shD a b * y) = (shD a b).natAbs * x.gcd y := Int.gcd_mul_left ..
      rw [← hx, ← hy] at e0
      exact e0
    rw [shD_abs] at e
    have : a.gcd b * 1 = a.gcd b * x.gcd y := by omega
    exact (Nat.eq_of_mul_eq_mul_left g0 this).symm
theorem sh_worth {a b : Int} (h : b ≠ 0) : (a.fdiv (shD a b)) * b = a * (b.fdiv (shD a b)) := by
  obtain ⟨x, y, hx, hy, e1, e2⟩ := sh_parts (a := a) h
  rw [e1, e2]
  generalize shD a b = s at *
  subst hx hy
  rw [Int.mul_assoc, Int.mul_left_comm]
theorem sh_one (a : Int) : a.fdiv (shD a 1) = a ∧ (1 : Int).fdiv (shD a 1) = 1 := by
  have : shD a 1 = 1 := by unfold shD; rw [if_neg (by decide)]; simp
  rw [this]; simp
theorem dvd_of_cop {k m n : Int} (h : k ∣ m * n) (g : k.gcd m = 1) : k ∣ n := by
  rw [← Int.natAbs_dvd_natAbs] at h ⊢
  rw [Int.natAbs_mul] at h
  exact Nat.Coprime.dvd_of_dvd_mul_left (show Nat.Coprime k.natAbs m.natAbs from g) h
theorem low_unique {p q r s : Int} (h1 : low p q) (h2 : low r s) (e : p * s = r * q) : p = r ∧ q = s := by
  obtain ⟨q1, g1⟩ := h1
  obtain ⟨s1, g2⟩ := h2
  have d1 : q ∣ s := dvd_of_cop (m := p) ⟨r, by rw [e, Int.mul_comm]⟩ (by rw [Int.gcd_comm]; exact g1)
  have d2 : s ∣ q := dvd_of_cop (m := r) ⟨p, by rw [← e, Int.mul_comm]⟩ (by rw [Int.gcd_comm]; exact g2)
  have eq : q = s := Int.dvd_antisymm (by omega) (by omega) d1 d2
  subst eq
  exact ⟨Int.eq_of_mul_eq_mul_right (by omega) e, rfl⟩
theorem gcd_step (a b : Int) : b.gcd (a % b) = a.gcd b := by
  have h : a % b = a - b * (a / b) := Int.emod_def a b
  rw [h, Int.gcd_sub_mul_left_right, Int.gcd_comm]
end My
set_option Elab.async false
set_option linter.all false
namespace DL
open PySem PySem.Spec L2
section
variable {i j : Nat} {d x y : D} {m : SM} {ς ς' ς1 : SD} {E A B : SD → Out D} {AA : SD → Out (List D)} {f : D → Out D} {g : D → D → Out D} {h : List D → Out D} {r : Out D} {xs ys : List D} {T U : SD → Out Fl} {P Q : SD → Out Bool} {b c : Bool} {fl : Fl} {rf : Out Fl} {rb : Out Bool}
theorem r_var (e : ς[i]? = some (some (.k, d))) : eVar i ς = .ok d := by unfold eVar; rw [e]
theorem r_varB (e : ς[i]? = some (some (m, d))) : eVarB i ς = .ok d := by unfold eVarB; rw [e]
theorem r_C : eC d ς = .ok d := rfl
theorem r_e1 (a : A ς = .ok x) (k : f x = r) : e1 f A ς = r := by unfold e1; rw [a]; exact k
theorem r_e2 (a : A ς = .ok x) (a' : B ς = .ok y) (k : g x y = r) : e2 g A B ς = r := by unfold e2; rw [a, Out.bind_ok, a']; exact k
theorem r_eA (a : AA ς = .ok xs) (k : h xs = r) : eA h AA ς = r := by unfold eA; rw [a]; exact k
theorem r_call {dd : List D} (a : AA ς = .ok xs) (e : xs ++ dd = ys) (k : h ys = r) : eA (fun xs => h (xs ++ dd)) AA ς = r := by unfold eA; rw [a]; show h (xs ++ dd) = r; rw [e]; exact k
theorem r_nil : aNil ς = .ok [] := rfl
theorem r_cons (a : A ς = .ok x) (k : AA ς = .ok xs) : aCons A AA ς = .ok (x :: xs) := by unfold aCons; rw [a, Out.bind_ok, k]; rfl
theorem r_tup (a : AA ς = .ok xs) (k : xs.length ≤ 1000) : eTup AA ς = .ok (.tup xs) := by unfold eTup; rw [a, Out.bind_ok, if_pos (fits_of k)]
theorem r_lst (a : AA ς = .ok xs) (k : xs.length ≤ 1000) : eLst AA ς = .ok (.lst xs) := by unfold eLst; rw [a, Out.bind_ok, if_pos (fits_of k)]
theorem r_tVal (a : A ς = .ok (.bl b)) : tVal A ς = .ok b := by unfold tVal; rw [a]; rfl
theorem r_not' (a : P ς = .ok b) : tNot' P ς = .ok (!b) := by unfold tNot'; rw [a]; rfl
theorem r_or' (a : P ς = .ok b) (k : (if b = true then .ok true else Q ς) = rb) : tOr' P Q ς = rb := by unfold tOr'; rw [a]; exact k
theorem r_and' (a : P ς = .ok b) (k : (if b = true then Q ς else .ok false) = rb) : tAnd' P Q ς = rb := by unfold tAnd'; rw [a]; exact k
theorem r_eAnd (a : A ς = .ok (.bl b)) (k : (if b = true then B ς else .ok (.bl false)) = r) : eAnd A B ς = r := by unfold eAnd; rw [a]; cases b <;> exact k
theorem r_eOr (a : A ς = .ok (.bl b)) (k : (if b = true then .ok (.bl true) else B ς) = r) : eOr A B ς = r := by unfold eOr; rw [a]; cases b <;> exact k
theorem r_eNot (a : A ς = .ok (.bl b)) : eNot A ς = .ok (.bl (!b)) := by unfold eNot; rw [a]; rfl
theorem r_eIf (a : P ς = .ok b) (k : (if b = true then A ς else B ς) = r) : eIf P A B ς = r := by unfold eIf; rw [a]; exact k
theorem r_isa {F : D → Out Bool} (a : A ς = .ok x) (k : F x = .ok b) : eIsa F A ς = .ok (.bl b) := by unfold eIsa; rw [a, Out.bind_ok, k]; rfl
theorem r_chain {g' : D → D → Out D} {E' : SD → Out D} (a : A ς = .ok x) (a' : B ς = .ok y) (k : g x y = .ok (.bl b)) (k' : (if b = true then E' ς >>= fun w => g' y w else .ok (.bl false)) = r) : eChain g g' A B E' ς = r := by unfold eChain; rw [a, Out.bind_ok, a', Out.bind_ok, k]; cases b <;> exact k'
theorem r_bind {z : D} (a : E ς = .ok z) (k : f z = r) : (E ς >>= fun w => f w) = r := by rw [a]; exact k
theorem r_set (a : E ς = .ok d) (k : ς.set i (some (.k, d)) = ς') : sSet i E ς = .ok (.nx ς') := by unfold sSet; rw [a, Out.bind_ok, k]
theorem r_setO (a : E ς = .ok d) (k : ς.set i (some (.o, d)) = ς') : sSetO i E ς = .ok (.nx ς') := by unfold sSetO; rw [a, Out.bind_ok, k]
theorem r_seq (a : T ς = .ok fl) (k : thenF U fl = rf) : sSeq T U ς = rf := by unfold sSeq; rw [a]; exact k
theorem r_okR {α : Type} {a : α} : (Out.ok a) = Out.ok a := rfl
theorem r_lm {f : List D → D → Out D} (a : A ς = .ok (.lst xs)) (a' : B ς = .ok y) (k : f xs y = r) : eLm f A B ς = r := by unfold eLm; rw [a, Out.bind_ok]; show (B ς >>= _) = _; rw [a']; exact k
theorem r_then (k : U ς = rf) : thenF U (.nx ς) = rf := k
theorem r_thenR {z : Bool} : thenF U (.rt z d) = .ok (.rt z d) := rfl
theorem r_if (a : P ς = .ok b) (k : (if b = true then T ς else U ς) = rf) : sIf P T U ς = rf := by unfold sIf; rw [a]; exact k
theorem r_iteT {α : Type} {u v w : α} (a : b = true) (k : u = w) : (if b = true then u else v) = w := by rw [if_pos a]; exact k
theorem r_iteF {α : Type} {u v w : α} (a : b = false) (k : v = w) : (if b = true then u else v) = w := by subst a; exact k
theorem r_ret (a : E ς = .ok d) : sRet E ς = .ok (.rt false d) := by unfold sRet; rw [a]; rfl
theorem r_retF (a : E ς = .ok d) : sRetF E ς = .ok (.rt true d) := by unfold sRetF; rw [a]; rfl
theorem r_retO (e : ς[i]? = some (some (.o, d))) : sRetO i ς = .ok (.rt true d) := by unfold sRetO; rw [e]
theorem r_drop (a : E ς = .ok d) : sDrop E ς = .ok (.nx ς) := by unfold sDrop; rw [a]; rfl
theorem r_sNil : sNil ς = .ok (.nx ς) := rfl
theorem size_le {n : Nat} (k : n ≤ 1000) : decide (n < sizeLine) = true := decide_eq_true (Nat.lt_of_le_of_lt k (by decide))
theorem r_app (e : ς[i]? = some (some (.o, .lst xs))) (a : E ς = .ok d) (k : xs.length ≤ 1000) (l : ς.set i (some (.o, .lst (xs ++ [d]))) = ς') : sAppend i E ς = .ok (.nx ς') := by
  unfold sAppend; rw [e]; show (E ς >>= fun d => if decide (xs.length < sizeLine) = true then _ else _) = _; rw [a, Out.bind_ok, if_pos (size_le k), l]
theorem r_put {I : SD → Out D} {k : Int} (a : E ς = .ok d) (e : ς[i]? = some (some (.o, .lst xs))) (a' : I ς = .ok (.int k)) (q : ixN xs.length k = some j) (l : ς.set i (some (.o, .lst (xs.set j d))) = ς') : sPutO i I E ς = .ok (.nx ς') := by
  unfold sPutO; rw [a, Out.bind_ok, e]
  show (I ς >>= _) = _
  rw [a', Out.bind_ok]
  show (optO (ixN xs.length k) >>= _) = _
  rw [q]
  show Out.ok (Fl.nx (ς.set i (some (.o, .lst (xs.set j d))))) = _
  rw [l]
theorem r_scalar {o : Out D} (a : o = .ok d) (k : d.scal = true) : scalar o = .ok d := by unfold scalar; rw [a, Out.bind_ok, if_pos k]
theorem r_nonScal {o : Out D} (a : o = .ok d) (k : d.scal = false) : nonScal o = .ok d := by unfold nonScal; rw [a, Out.bind_ok, k]; rfl
theorem r_noX {α : Type} {o : Out α} {a : α} (k : o = .ok a) : noX o = .ok a := by rw [k]; rfl
theorem r_sl {l u : SD → Out (Option Int)} {p q : Option Int} (a : A ς = .ok (.lst xs)) (k1 : l ς = .ok p) (k2 : u ς = .ok q) (e : cutD xs p q = ys) : eSl A l u ς = .ok (.lst ys) := by unfold eSl; rw [a, Out.bind_ok, k1, Out.bind_ok, k2, Out.bind_ok]; show Out.ok (D.lst _) = _; rw [e]
theorem r_slB {l u : SD → Out (Option Int)} {p q : Option Int} (a : A ς = .ok (.lst xs)) (k1 : l ς = .ok p) (k2 : u ς = .ok q) (s : xs.all D.scal = true) (e : cutD xs p q = ys) : eSlB A l u ς = .ok (.lst ys) := by
  unfold eSlB; rw [a, Out.bind_ok, k1, Out.bind_ok, k2, Out.bind_ok]
  show (if xs.all D.scal = true then Out.ok (D.lst _) else _) = _
  rw [if_pos s, e]
theorem r_oNo : oNo ς = .ok none := rfl
theorem r_oSome {k : Int} (a : E ς = .ok (.int k)) : oSome E ς = .ok (some k) := by unfold oSome; rw [a]; rfl
theorem r_ixO {k : Int} (e : ς[i]? = some (some (.o, .lst xs))) (a : A ς = .ok (.int k)) (q : atI xs k = some d) : eIxO i A ς = .ok d := by
  unfold eIxO; rw [e]
  show (A ς >>= _) = _
  rw [a, Out.bind_ok]
  show optO (atI xs k) = _
  rw [q]; rfl
theorem r_setAllN : setAll [] [] ς = .ok ς := rfl
theorem r_setAllC {is : List Nat} {rs : Out SD} (a : ς.set i (some (.k, d)) = ς1) (k : setAll is ys ς1 = rs) : setAll (i :: is) (d :: ys) ς = rs := by show setAll is ys (ς.set i (some (.k, d))) = rs; rw [a]; exact k
theorem r_unp {is : List Nat} (a : E ς = .ok (.tup ys)) (k : setAll is ys ς = .ok ς') : sUnp is E ς = .ok (.nx ς') := by unfold sUnp; rw [a, Out.bind_ok]; show (setAll is ys ς >>= _) = _; rw [k]; rfl
theorem r_body {fr : Bool} (a : T ς = .ok fl) (k : retF fr fl = r) : (T ς >>= retF fr) = r := by rw [a]; exact k
theorem r_rt {z : Bool} : retF false (.rt z d) = .ok d := by unfold retF; simp
theorem r_rtT : retF true (.rt true d) = .ok d := by unfold retF; simp
theorem r_rtS {z : Bool} (k : d.scal = true) : retF true (.rt z d) = .ok d := by unfold retF; simp [k]
theorem r_gN {L : SD → Out Fl} (a : ς.set i (some (.k, d)) = ς1) (k : L ς1 = rf) : (gN i d ς >>= fun ς' => L ς') = rf := by unfold gN; rw [a]; exact k
theorem r_gT {L : SD → Out Fl} {is : List Nat} (a : setAll is ys ς = .ok ς1) (k : L ς1 = rf) : (gT is (.tup ys) ς >>= fun ς' => L ς') = rf := by unfold gT; show (setAll is ys ς >>= fun ς' => L ς') = rf; rw [a]; exact k
theorem r_meth {cs : List Str} {n cl : Str} {fds : List (Str × D)} {mt : Str → List D → Out D} (a : A ς = .ok (.ins cl fds)) (k1 : cs.contains cl = true) (k2 : fds.lookup n = none) (k3 : AA ς = .ok xs) (k : mt cl (.ins cl fds :: xs) = r) : eMeth cs n mt A AA ς = r := by
  unfold eMeth; rw [a, Out.bind_ok]
  show (if (cs.contains cl && (fds.lookup n).isNone) = true then _ else _) = _
  rw [k1, k2]
  show (AA ς >>= _) = _
  rw [k3]; exact k
theorem r_make {cl : Str} {fds : List (Str × D)} {mk : Str → List (Str × D) → List D → Out (List (Str × D))} (a : AA ς = .ok xs) (k : mk cl [] xs = .ok fds) : eMake cl mk AA ς = .ok (.ins cl fds) := by unfold eMake; rw [a, Out.bind_ok, k]; rfl
theorem r_methS {cs : List Str} {n cl : Str} {fds fds' : List (Str × D)} {mk : Str → List (Str × D) → List D → Out (List (Str × D))} (e : ς[i]? = some (some (.s, .ins cl fds))) (k1 : cs.contains cl = true) (k2 : fds.lookup n = none) (a : AA ς = .ok xs) (k : mk cl fds xs = .ok fds') (l : ς.set i (some (.s, .ins cl fds')) = ς') : sMethS cs n mk i AA ς = .ok (.nx ς') := by
  unfold sMethS; rw [e]
  show (if (cs.contains cl && (fds.lookup n).isNone) = true then _ else _) = _
  rw [k1, k2]
  show (AA ς >>= _) = _
  rw [a, Out.bind_ok, k, Out.bind_ok, l]
theorem r_for {gg : D → SD → Out SD} {its : SD → Out (List D)} {L : SD → Out Fl} (a : its ς = .ok xs) (k : loopD (fun x ς => gg x ς >>= fun ς' => L ς') xs ς = rf) : sFor gg its L ς = rf := sFor_of a k
theorem r_itL (a : E ς = .ok (.lst xs)) : itL E ς = .ok xs := by unfold itL; rw [a]; rfl
theorem r_itT (a : E ς = .ok (.tup xs)) : itT E ς = .ok xs := by unfold itT; rw [a]; rfl
theorem r_itE (a : E ς = .ok (.lst xs)) : itE E ς = .ok (enumD 0 xs) := by unfold itE; rw [a]; rfl
theorem r_itZ (a : A ς = .ok (.lst xs)) (a' : B ς = .ok (.lst ys)) : itZ A B ς = .ok (List.zipWith (fun a b => .tup [a, b]) xs ys) := by unfold itZ; rw [a, Out.bind_ok, a']; rfl
end
theorem r_self {T : SD → Out Fl} {ς τ : SD} {c : Str} {fds : List (Str × D)} (a : T ς = .ok (.nx (some (.s, .ins c fds) :: τ))) : (T ς >>= selfOf c) = .ok fds := by
  rw [a]; simp [selfOf, selfAt]
theorem c_nil {ς : SD} : captD [] ς = [] := rfl
theorem c_none {ς τ : SD} {js : List (Option Nat)} (k : captD js ς = τ) : captD (none :: js) ς = none :: τ := by rw [← k]; rfl
theorem c_k {ς τ : SD} {js : List (Option Nat)} {j : Nat} {d : D} (e : ς[j]? = some (some (.k, d))) (k : captD js ς = τ) : captD (some j :: js) ς = some (.k, d) :: τ := by
  rw [← k]; show captS ς j :: _ = _; unfold captS; rw [e]; rfl
theorem c_o {ς τ : SD} {js : List (Option Nat)} {j : Nat} {d : D} (e : ς[j]? = some (some (.o, d))) (k : captD js ς = τ) : captD (some j :: js) ς = some (.l, d) :: τ := by
  rw [← k]; show captS ς j :: _ = _; unfold captS; rw [e]; rfl
theorem c_l {ς τ : SD} {js : List (Option Nat)} {j : Nat} {d : D} (e : ς[j]? = some (some (.l, d))) (k : captD js ς = τ) : captD (some j :: js) ς = some (.l, d) :: τ := by
  rw [← k]; show captS ς j :: _ = _; unfold captS; rw [e]; rfl
theorem c_s {ς τ : SD} {js : List (Option Nat)} {j : Nat} {d : D} (e : ς[j]? = some (some (.s, d))) (k : captD js ς = τ) : captD (some j :: js) ς = some (.l, d) :: τ := by
  rw [← k]; show captS ς j :: _ = _; unfold captS; rw [e]; rfl
theorem r_turn {js : List (Option Nat)} {i : Nat} {e : SD → Out D} {ς τ0 τ : SD} {x d : D} (c : captD js ς = τ0) (a : τ0.set i (some (.k, x)) = τ) (k : e τ = .ok d) : turnC js (gN i) cTrue e ς x = .ok (some d) := by
  unfold turnC gN cTrue
  rw [c, a, Out.bind_ok, Out.bind_ok, if_pos rfl, k]; rfl
theorem r_turnT {js : List (Option Nat)} {is : List Nat} {e : SD → Out D} {ς τ0 τ : SD} {xs : List D} {d : D} (c : captD js ς = τ0) (a : setAll is xs τ0 = .ok τ) (k : e τ = .ok d) : turnC js (gT is) cTrue e ς (.tup xs) = .ok (some d) := by
  unfold turnC gT cTrue
  show ((setAll is xs (captD js ς)) >>= _) = _
  rw [c, a, Out.bind_ok, Out.bind_ok, if_pos rfl, k]; rfl
theorem comp_of {α : Type} {js : List (Option Nat)} {its : SD → Out (List D)} {g : D → SD → Out SD} {e : SD → Out D} {ς : SD} {l : List α} (f : α → D) (h : α → D) (hi : its ς = .ok (l.map f)) (ht : ∀ x ∈ l, turnC js g cTrue e ς (f x) = .ok (some (h x))) (hl : l.length ≤ 1000) :
    eComp js its g cTrue e ς = .ok (.lst (l.map h)) := by
  have go : ∀ l : List α, (∀ x ∈ l, turnC js g cTrue e ς (f x) = .ok (some (h x))) → compM (turnC js g cTrue e ς) (l.map f) = .ok (l.map h) := by
    intro l
    induction l with
    | nil => intro _; rfl
    | cons x xs ih =>
      intro H
      have h1 := H x (List.mem_cons_self ..)
      have h2 := ih fun y hy => H y (List.mem_cons_of_mem _ hy)
      show compM (turnC js g cTrue e ς) (f x :: xs.map f) = _
      unfold compM
      rw [h1, Out.bind_ok, h2]; rfl
  unfold eComp
  rw [hi, Out.bind_ok, go l ht, Out.bind_ok, if_pos (fits_of (by rw [List.length_map]; exact hl))]
theorem comp_rng {js : List (Option Nat)} {its : SD → Out (List D)} {g : D → SD → Out SD} {e : SD → Out D} {ς : SD} {n : Nat} (h : Nat → D) (hi : its ς = .ok (rangeD 0 n)) (ht : ∀ k : Nat, k < n → turnC js g cTrue e ς (.int (k : Int)) = .ok (some (h k))) (hl : n ≤ 1000) :
    eComp js its g cTrue e ς = .ok (.lst ((List.range n).map h)) := by
  refine comp_of (fun i : Nat => D.int (0 + (i : Int))) h hi (fun k hk => ?_) (by rw [List.length_range]; exact hl)
  show turnC js g cTrue e ς (.int (0 + (k : Int))) = _
  rw [Int.zero_add]
  exact ht k (List.mem_range.mp hk)
theorem comp_zipI {js : List (Option Nat)} {its : SD → Out (List D)} {e : SD → Out D} {ς : SD} {a b : List Int} (f : Int → Int → Int) (hi : its ς = .ok (List.zipWith (fun x y => .tup [x, y]) (a.map .int) (b.map .int)))
    (ht : ∀ x ∈ a, ∀ y ∈ b, turnC js (gT [0, 1]) cTrue e ς (.tup [.int x, .int y]) = .ok (some (.int (f x y)))) (hl : a.length ≤ 1000) : eComp js its (gT [0, 1]) cTrue e ς = .ok (.lst ((List.zipWith f a b).map .int)) := by
  have hz : List.zipWith (fun x y => D.tup [x, y]) (a.map .int) (b.map .int) = (List.zip a b).map fun p => D.tup [.int p.1, .int p.2] := by
    rw [List.zipWith_map, List.map_zip_eq_zipWith]
    rfl
  rw [comp_of (l := List.zip a b) (fun p => D.tup [.int p.1, .int p.2]) (fun p => D.int (f p.1 p.2)) (by rw [hi, hz]) (fun p hp => ht p.1 (List.of_mem_zip hp).1 p.2 (List.of_mem_zip hp).2) (by rw [List.length_zip]; omega)]
  congr 2
  rw [List.map_zipWith, List.map_zip_eq_zipWith]
  rfl
theorem dEq_str {a b : Str} (ha : PyData.strOk a = true) (hb : PyData.strOk b = true) : dEq (.str a) (.str b) = .ok (.bl (a == b)) := by
  rw [dEq_of (shp_of (d := .str a) ha (Nat.zero_le _)) (shp_of (d := .str b) hb (Nat.zero_le _))]; rfl
theorem dNe_str {a b : Str} (ha : PyData.strOk a = true) (hb : PyData.strOk b = true) : dNe (.str a) (.str b) = .ok (.bl (!(a == b))) := by
  rw [dNe_of (shp_of (d := .str a) ha (Nat.zero_le _)) (shp_of (d := .str b) hb (Nat.zero_le _))]; rfl
theorem r_get {ς : SD} {i : Nat} {m : SM} {d : D} (h : ς[i]? = some (some (m, d))) : ς[i]? = some (some (m, d)) := h
theorem r_len {n : Nat} (h : n ≤ 1000) : n ≤ 1000 := h
theorem r_bits {i : Int} {n : Nat} (h : bitsI i ≤ n) : bitsI i ≤ n := h
theorem r_dec {m n : Nat} (h : decide (m ≤ n) = true) : decide (m ≤ n) = true := h
theorem r_id {α : Type} {a b : α} (h : a = b) : a = b := h
theorem r_scal {d : D} {b : Bool} (h : d.scal = b) : d.scal = b := h
theorem r_look0 {n : Str} : List.lookup n ([] : List (Str × D)) = none := rfl
theorem l_get0 {α : Type} {x : α} {xs : List α} : (x :: xs)[0]? = some x := rfl
theorem l_getS {α : Type} {x : α} {xs : List α} {n : Nat} {r : Option α} (h : xs[n]? = r) : (x :: xs)[n + 1]? = r := by rw [List.getElem?_cons_succ]; exact h
theorem l_set0 {α : Type} {x y : α} {xs : List α} : (x :: xs).set 0 y = y :: xs := rfl
theorem l_setS {α : Type} {x y : α} {xs ys : List α} {n : Nat} (h : xs.set n y = ys) : (x :: xs).set (n + 1) y = x :: ys := by rw [List.set_cons_succ, h]
theorem l_cat0 {α : Type} {ys : List α} : [] ++ ys = ys := rfl
theorem l_catS {α : Type} {x : α} {xs ys zs : List α} (h : xs ++ ys = zs) : x :: xs ++ ys = x :: zs := by rw [List.cons_append, h]
theorem bd_lit {i : Int} (h : decide (i.natAbs < 2 ^ 300) = true) : bitsI i ≤ 300 := bits_of (of_decide_eq_true h)
theorem bd_add {i j : Int} {m n : Nat} (a : bitsI i ≤ m) (b : bitsI j ≤ n) : bitsI (i + j) ≤ m + n + 1 := by
  have a := of_bits a
  have b := of_bits b
  refine bits_of ?_
  have c1 : 2 ^ m ≤ 2 ^ (m + n) := Nat.pow_le_pow_right (by decide) (by omega)
  have c2 : 2 ^ n ≤ 2 ^ (m + n) := Nat.pow_le_pow_right (by decide) (by omega)
  rw [Nat.pow_succ]
  omega
theorem bd_sub {i j : Int} {m n : Nat} (a : bitsI i ≤ m) (b : bitsI j ≤ n) : bitsI (i - j) ≤ m + n + 1 := by
  have a := of_bits a
  have b := of_bits b
  refine bits_of ?_
  have c1 : 2 ^ m ≤ 2 ^ (m + n) := Nat.pow_le_pow_right (by decide) (by omega)
  have c2 : 2 ^ n ≤ 2 ^ (m + n) := Nat.pow_le_pow_right (by decide) (by omega)
  rw [Nat.pow_succ]
  omega
theorem bd_neg {i : Int} {m : Nat} (a : bitsI i ≤ m) : bitsI (-i) ≤ m := by
  have a := of_bits a
  exact bits_of (by omega)
theorem bd_mul {i j : Int} {m n : Nat} (a : bitsI i ≤ m) (b : bitsI j ≤ n) : bitsI (i * j) ≤ m + n := by
  have a := of_bits a
  have b := of_bits b
  refine bits_of ?_
  rw [Int.natAbs_mul, Nat.pow_add]
  exact Nat.mul_lt_mul'' a b
theorem bd_mod {i j : Int} {n : Nat} (h : 0 < j) (b : bitsI j ≤ n) : bitsI (i % j) ≤ n := by
  have b := of_bits b
  have h1 := Int.emod_nonneg i (show j ≠ 0 by omega)
  have h2 := Int.emod_lt_of_pos i h
  exact bits_of (by omega)
theorem bd_div {i j : Int} {n : Nat} (a : bitsI i ≤ n) : bitsI (i / j) ≤ n := by
  have a := of_bits a
  exact bits_of (Nat.lt_of_le_of_lt (Int.natAbs_ediv_le_natAbs i j) a)
theorem bd_nat {n m : Nat} (h : n < 2 ^ m) : bitsI (n : Int) ≤ m := bits_of (by simpa using h)
theorem bd_in {i : Int} {n : Nat} (h0 : 0 ≤ i) (h : i < 2 ^ n) : bitsI i ≤ n := bits_of (by
  have : ((2 ^ n : Nat) : Int) = 2 ^ n := by simp
  omega)
theorem r_mul {i j : Int} {m n : Nat} (hi : bitsI i ≤ m) (hj : bitsI j ≤ n) (h : decide (m + n ≤ 134217728) = true) : dMul (.int i) (.int j) = .ok (.int (i * j)) := dMul_of hi hj (of_decide_eq_true h)
theorem r_fdiv {i j : Int} {n : Nat} (h : 0 < j) (hj : bitsI j ≤ n) (hn : decide (n ≤ 9000) = true) : dFdiv (.int i) (.int j) = .ok (.int (i / j)) := dFdiv_pos h (big_of (of_bits hj) (of_decide_eq_true hn))
end DL
set_option linter.all false
namespace Bar
def sm : Nat → (Nat → Rat) → Rat
  | 0, _ => 0
  | n + 1, f => sm n f + f n
theorem sm_congr : ∀ {n : Nat} {f g : Nat → Rat}, (∀ i, i < n → f i = g i) → sm n f = sm n g
  | 0, _, _, _ => rfl
  | n + 1, f, g, h => by
    show sm n f + f n = sm n g + g n
    rw [sm_congr fun i hi => h i (by omega), h n (by omega)]
theorem sm_add : ∀ (n : Nat) (f g : Nat → Rat), sm n (fun i => f i + g i) = sm n f + sm n g
  | 0, _, _ => by simp [sm, Rat.zero_add]
  | n + 1, f, g => by
    show sm n (fun i => f i + g i) + (f n + g n) = (sm n f + f n) + (sm n g + g n)
    rw [sm_add n f g]; grind
theorem sm_mul : ∀ (n : Nat) (c : Rat) (f : Nat → Rat), sm n (fun i => c * f i) = c * sm n f
  | 0, c, _ => by simp [sm, Rat.mul_zero]
  | n + 1, c, f => by
    show sm n (fun i => c * f i) + c * f n = c * (sm n f + f n)
    rw [sm_mul n c f]; grind
theorem sm_zero : ∀ {n : Nat} {f : Nat → Rat}, (∀ i, i < n → f i = 0) → sm n f = 0
  | 0, _, _ => rfl
  | n + 1, f, h => by
    show sm n f + f n = 0
    rw [sm_zero fun i hi => h i (by omega), h n (by omega)]; grind
theorem sm_split (m : Nat) : ∀ (k : Nat) (f : Nat → Rat), sm (m + k) f = sm m f + sm k (fun e => f (m + e))
  | 0, f => by show sm m f = sm m f + 0; grind
  | k + 1, f => by
    show sm (m + k) f + f (m + k) = sm m f + (sm k (fun e => f (m + e)) + f (m + k))
    rw [sm_split m k f]; grind
theorem tri : ∀ (N : Nat) (f : Nat → Nat → Rat), sm N (fun j => sm (N - 1 - j) (fun e => f j (j + 1 + e))) = sm N (fun b => sm b (fun a => f a b))
  | 0, _ => rfl
  | N + 1, f => by
    show sm N (fun j => sm (N + 1 - 1 - j) (fun e => f j (j + 1 + e))) + sm (N + 1 - 1 - N) _ = sm N (fun b => sm b (fun a => f a b)) + sm N (fun a => f a N)
    rw [← tri N f, ← sm_add]
    have h0 : N + 1 - 1 - N = 0 := by omega
    rw [h0]
    show _ + 0 = _
    rw [Rat.add_zero]
    apply sm_congr
    intro j hj
    have h1 : N + 1 - 1 - j = (N - 1 - j) + 1 := by omega
    rw [h1]
    show sm (N - 1 - j) _ + f j (j + 1 + (N - 1 - j)) = _
    rw [show j + 1 + (N - 1 - j) = N by omega]
def sg (k : Nat) : Rat := if k % 2 = 0 then 1 else -1
theorem sg_succ (k : Nat) : sg (k + 1) = - sg k := by
  unfold sg
  by_cases h : k % 2 = 0
  · rw [if_neg (by omega), if_pos h]
  · rw [if_pos (by omega), if_neg h]; grind
theorem sg_sq (k : Nat) : sg k * sg k = 1 := by unfold sg; split <;> grind
theorem sg_add : ∀ (a b : Nat), sg (a + b) = sg a * sg b
  | a, 0 => by show sg a = sg a * sg 0; unfold sg; simp
  | a, b + 1 => by rw [← Nat.add_assoc, sg_succ, sg_succ, sg_add a b]; grind
theorem sg_dbl (a : Nat) : sg (a + a) = 1 := by rw [sg_add]; exact sg_sq a
def skip (j c : Nat) : Nat := if c < j then c else c + 1
abbrev Mx := Nat → Nat → Rat
def det : Nat → Mx → Rat
  | 0, _ => 1
  | n + 1, A => sm (n + 1) fun j => sg (n + j) * A n j * det n (fun i c => A i (skip j c))
theorem skip_lt {j c n : Nat} (hj : j ≤ n) (hc : c < n) : skip j c < n + 1 := by unfold skip; split <;> omega
theorem det_congr : ∀ {n : Nat} {A B : Mx}, (∀ i c, i < n → c < n → A i c = B i c) → det n A = det n B
  | 0, _, _, _ => rfl
  | n + 1, A, B, h => by
    apply sm_congr
    intro j hj
    rw [h n j (by omega) hj, det_congr (A := fun i c => A i (skip j c)) (B := fun i c => B i (skip j c)) fun i c hi hc => h i _ (by omega) (skip_lt (by omega) hc)]
def last (n : Nat) (A : Mx) (u : Nat → Rat) : Mx := fun i c => if i = n then u c else A i c
theorem det_last (n : Nat) (A : Mx) (u : Nat → Rat) : det (n + 1) (last n A u) = sm (n + 1) fun j => sg (n + j) * u j * det n (fun i c => A i (skip j c)) := by
  apply sm_congr
  intro j hj
  have h1 : last n A u n j = u j := if_pos rfl
  rw [h1, det_congr (A := fun i c => last n A u i (skip j c)) (B := fun i c => A i (skip j c)) fun i c hi hc => if_neg (by omega)]
theorem det_lin (n : Nat) (A : Mx) (u v : Nat → Rat) (s : Rat) : det (n + 1) (last n A (fun c => u c + s * v c)) = det (n + 1) (last n A u) + s * det (n + 1) (last n A v) := by
  rw [det_last, det_last, det_last, ← sm_mul, ← sm_add]
  apply sm_congr
  intro j _
  grind
theorem skip_skip {a b e : Nat} (h : a < b) : skip a (skip (b - 1) e) = skip b (skip a e) := by
  unfold skip
  by_cases h1 : e < a
  · rw [if_pos (show e < b - 1 by omega), if_pos h1, if_pos (by omega)]
  · by_cases h2 : e < b - 1
    · rw [if_pos h2, if_neg h1, if_pos (by omega)]
    · rw [if_neg h2, if_neg h1, if_neg (by omega), if_neg (by omega)]
theorem dbl (n : Nat) (A : Mx) : det (n + 2) A = sm (n + 2) fun b => sm b fun a => sg (a + b) * (A (n + 1) a * A n b - A (n + 1) b * A n a) * det n (fun i e => A i (skip b (skip a e))) := by
  have h1 : det (n + 2) A = sm (n + 2) fun j => sm j (fun a => - sg (a + j) * (A (n + 1) j * A n a) * det n (fun i e => A i (skip j (skip a e))))
      + sm (n + 1 - j) (fun e => sg (j + (j + 1 + e)) * (A (n + 1) j * A n (j + 1 + e)) * det n (fun i c => A i (skip (j + 1 + e) (skip j c)))) := by
    apply sm_congr
    intro j hj
    show sg (n + 1 + j) * A (n + 1) j * sm (n + 1) (fun c => sg (n + c) * A n (skip j c) * det n (fun i e => A i (skip j (skip c e)))) = _
    rw [← sm_mul, show n + 1 = j + (n + 1 - j) by omega, sm_split j (n + 1 - j)]
    have hs : ∀ x y : Nat, sg (n + 1 + j) * sg (n + x) = - sg (x + j) := fun x _ => by
      rw [show n + 1 + j = (n + j) + 1 by omega, sg_succ, sg_add n j, sg_add n x, sg_add x j]
      have := sg_sq n
      grind
    congr 1
    · apply sm_congr
      intro a ha
      rw [show skip j a = a by unfold skip; rw [if_pos ha]]
      have := hs a 0
      rw [show j + (n + 1 - j) = n + 1 by omega]
      grind
    · rw [show j + (n + 1 - j) - j = n + 1 - j by omega]
      apply sm_congr
      intro e he
      rw [show skip j (j + e) = j + 1 + e by unfold skip; rw [if_neg (by omega)]; omega]
      have h2 := hs (j + e) 0
      have h3 : sg (j + (j + 1 + e)) = - sg (j + e + j) := by rw [show j + (j + 1 + e) = (j + e + j) + 1 by omega, sg_succ]
      have h4 : (fun i c => A i (skip j (skip (j + e) c))) = fun i c => A i (skip (j + 1 + e) (skip j c)) := by
        funext i c
        rw [← skip_skip (a := j) (b := j + 1 + e) (by omega), show j + 1 + e - 1 = j + e by omega]
      rw [h4, show j + (n + 1 - j) = n + 1 by omega]
      grind
  rw [h1, sm_add]
  have h5 := tri (n + 2) fun a b => sg (a + b) * (A (n + 1) a * A n b) * det n (fun i c => A i (skip b (skip a c)))
  rw [show n + 2 - 1 = n + 1 by omega] at h5
  rw [h5, ← sm_add]
  apply sm_congr
  intro b _
  rw [← sm_add]
  apply sm_congr
  intro a _
  grind
theorem det_eq_last : ∀ (n : Nat) (A : Mx) (l : Nat), l < n → (∀ c, c < n + 1 → A n c = A l c) → det (n + 1) A = 0
  | 0, _, _, h, _ => absurd h (by omega)
  | m + 1, A, l, hl, h => by
    by_cases e : l = m
    · subst e
      rw [dbl]
      apply sm_zero
      intro b hb
      apply sm_zero
      intro a ha
      rw [h a (by omega), h b (by omega)]
      grind
    · have hsw : det (m + 2) A = - det (m + 2) (fun i c => if i = m + 1 then A m c else if i = m then A (m + 1) c else A i c) := by
        rw [dbl, dbl]
        have : ∀ x : Rat, -x = (-1) * x := fun x => by grind
        rw [this, ← sm_mul]
        apply sm_congr
        intro b hb
        rw [← sm_mul]
        apply sm_congr
        intro a ha
        simp only [if_true]
        rw [if_neg (show ¬ m = m + 1 by omega), if_neg (show ¬ m = m + 1 by omega)]
        rw [det_congr (A := fun i e => if i = m + 1 then A m (skip b (skip a e)) else if i = m then A (m + 1) (skip b (skip a e)) else A i (skip b (skip a e))) (B := fun i e => A i (skip b (skip a e))) fun i c hi _ => by
          show (if i = m + 1 then _ else if i = m then _ else _) = _
          rw [if_neg (by omega), if_neg (by omega)]]
        grind
      rw [hsw]
      have hz : det (m + 2) (fun i c => if i = m + 1 then A m c else if i = m then A (m + 1) c else A i c) = 0 := by
        apply sm_zero
        intro j hj
        rw [det_eq_last m _ l (by omega) fun c hc => ?_]
        · grind
        · show (if m = m + 1 then _ else if m = m then A (m + 1) (skip j c) else _) = (if l = m + 1 then _ else if l = m then _ else A l (skip j c))
          rw [if_neg (by omega), if_pos rfl, if_neg (by omega), if_neg e]
          exact h _ (skip_lt (by omega) hc)
      rw [hz]; grind
theorem det_sub (n : Nat) (A : Mx) (u t : Nat → Rat) : ∀ m : Nat, m ≤ n → det (n + 1) (last n A (fun c => u c - sm m (fun l => t l * A l c))) = det (n + 1) (last n A u)
  | 0, _ => by
    apply det_congr
    intro i c _ _
    show (if i = n then u c - 0 else A i c) = (if i = n then u c else A i c)
    split
    · grind
    · rfl
  | m + 1, h => by
    have e : det (n + 1) (last n A (fun c => u c - sm (m + 1) (fun l => t l * A l c))) = det (n + 1) (last n A (fun c => (u c - sm m (fun l => t l * A l c)) + (- t m) * A m c)) := by
      apply det_congr
      intro i c _ _
      show (if i = n then u c - (sm m (fun l => t l * A l c) + t m * A m c) else A i c) = (if i = n then (u c - sm m (fun l => t l * A l c)) + (- t m) * A m c else A i c)
      split
      · grind
      · rfl
    rw [e, det_lin n A (fun c => u c - sm m (fun l => t l * A l c)) (fun c => A m c), det_sub n A u t m (by omega), det_eq_last n (last n A (fun c => A m c)) m (by omega) fun c _ => ?_]
    · grind
    · show (if n = n then A m c else A n c) = (if m = n then A m c else A m c)
      rw [if_pos rfl]; split <;> rfl
def S : Nat → Mx → Mx
  | 0, A => A
  | k + 1, A => fun i j => S k A i j - S k A i k / S k A k k * S k A k j
def p : Nat → Mx → Rat
  | 0, _ => 1
  | k + 1, A => p k A * S k A k k
theorem S_comb (A : Mx) : ∀ (k i : Nat), k ≤ i → ∃ t : Nat → Rat, ∀ j, S k A i j = A i j - sm k (fun l => t l * A l j)
  | 0, i, _ => ⟨fun _ => 0, fun j => by show A i j = A i j - 0; grind⟩
  | k + 1, i, h => by
    obtain ⟨t, ht⟩ := S_comb A k i (by omega)
    obtain ⟨u, hu⟩ := S_comb A k k (Nat.le_refl _)
    refine ⟨fun l => if l = k then S k A i k / S k A k k else t l - S k A i k / S k A k k * u l, fun j => ?_⟩
    show S k A i j - S k A i k / S k A k k * S k A k j = A i j - (sm k (fun l => (if l = k then S k A i k / S k A k k else t l - S k A i k / S k A k k * u l) * A l j) + (if k = k then S k A i k / S k A k k else t k - S k A i k / S k A k k * u k) * A k j)
    rw [if_pos rfl, sm_congr (n := k) (g := fun l => t l * A l j + (- (S k A i k / S k A k k)) * (u l * A l j)) fun l hl => by rw [if_neg (by omega)]; grind]
    rw [sm_add, sm_mul, ht j, hu j]
    generalize S k A i k / S k A k k = m
    grind
theorem S_zero (A : Mx) : ∀ (k : Nat), (∀ l, l < k → S l A l l ≠ 0) → ∀ i c, k ≤ i → c < k → S k A i c = 0
  | 0, _, _, _, _, hc => absurd hc (by omega)
  | k + 1, h, i, c, hi, hc => by
    show S k A i c - S k A i k / S k A k k * S k A k c = 0
    have ih := S_zero A k fun l hl => h l (by omega)
    by_cases e : c = k
    · subst e
      have := h c (by omega)
      grind
    · rw [ih i c (by omega) (by omega), ih k c (Nat.le_refl _) (by omega)]
      grind
def bord (A : Mx) (k i j : Nat) : Mx := fun r c => A (if r = k then i else r) (if c = k then j else c)
theorem bord_of (A : Mx) (k : Nat) (h : ∀ l, l < k → S l A l l ≠ 0) (hp : det k A = p k A) (i j : Nat) (hi : k ≤ i) : det (k + 1) (bord A k i j) = p k A * S k A i j := by
  obtain ⟨t, ht⟩ := S_comb A k i hi
  have e1 : det (k + 1) (bord A k i j) = det (k + 1) (last k (fun r c => A r (if c = k then j else c)) (fun c => A i (if c = k then j else c))) := by
    apply det_congr
    intro r c _ _
    show A (if r = k then i else r) (if c = k then j else c) = (if r = k then A i (if c = k then j else c) else A r (if c = k then j else c))
    by_cases e : r = k
    · rw [if_pos e, if_pos e]
    · rw [if_neg e, if_neg e]
  have e2 := det_sub k (fun r c => A r (if c = k then j else c)) (fun c => A i (if c = k then j else c)) t k (Nat.le_refl _)
  rw [e1, ← e2, det_last]
  show sm k _ + sg (k + k) * (A i (if k = k then j else k) - sm k (fun l => t l * A l (if k = k then j else k))) * det k (fun r c => A r (if skip k c = k then j else skip k c)) = _
  rw [sm_zero fun c hc => ?_, if_pos rfl, sg_dbl, ← ht j]
  · rw [det_congr (B := A) fun r c hr hc => ?_, hp]
    · grind
    · show A r (if skip k c = k then j else skip k c) = A r c
      have : skip k c = c := by unfold skip; rw [if_pos hc]
      rw [this, if_neg (by omega)]
  · have hz := S_zero A k h i c hi hc
    rw [ht c] at hz
    rw [if_neg (show ¬ c = k by omega), hz]
    grind
theorem det_p (A : Mx) : ∀ k : Nat, (∀ l, l < k → S l A l l ≠ 0) → det k A = p k A
  | 0, _ => rfl
  | k + 1, h => by
    have hk : ∀ l, l < k → S l A l l ≠ 0 := fun l hl => h l (by omega)
    have := bord_of A k hk (det_p A k hk) k k (Nat.le_refl _)
    show det (k + 1) A = p k A * S k A k k
    rw [← this]
    apply det_congr
    intro r c _ _
    show A r c = A (if r = k then k else r) (if c = k then k else c)
    by_cases e1 : r = k
    · by_cases e2 : c = k
      · rw [if_pos e1, if_pos e2, e1, e2]
      · rw [if_pos e1, if_neg e2, e1]
    · by_cases e2 : c = k
      · rw [if_neg e1, if_pos e2, e2]
      · rw [if_neg e1, if_neg e2]
def isZ (x : Rat) : Prop := ∃ z : Int, x = (z : Rat)
theorem z_add {x y : Rat} : isZ x → isZ y → isZ (x + y) := fun ⟨a, ha⟩ ⟨b, hb⟩ => ⟨a + b, by rw [ha, hb, Rat.intCast_add]⟩
theorem z_mul {x y : Rat} : isZ x → isZ y → isZ (x * y) := fun ⟨a, ha⟩ ⟨b, hb⟩ => ⟨a * b, by rw [ha, hb, Rat.intCast_mul]⟩
theorem z_one : isZ 1 := ⟨1, rfl⟩
theorem z_neg {x : Rat} : isZ x → isZ (-x) := fun ⟨a, ha⟩ => ⟨-a, by rw [ha, Rat.intCast_neg]⟩
theorem z_sg (k : Nat) : isZ (sg k) := by unfold sg; split; exact z_one; exact z_neg z_one
theorem z_sm : ∀ {n : Nat} {f : Nat → Rat}, (∀ i, i < n → isZ (f i)) → isZ (sm n f)
  | 0, _, _ => ⟨0, rfl⟩
  | n + 1, f, h => z_add (z_sm fun i hi => h i (by omega)) (h n (by omega))
theorem z_det : ∀ {n : Nat} {A : Mx}, (∀ i c, isZ (A i c)) → isZ (det n A)
  | 0, _, _ => z_one
  | n + 1, A, h => z_sm fun j _ => z_mul (z_mul (z_sg _) (h n j)) (z_det fun i c => h i _)
theorem whole (A : Mx) (hz : ∀ i c, isZ (A i c)) (k : Nat) (h : ∀ l, l < k → S l A l l ≠ 0) (i j : Nat) (hi : k ≤ i) : isZ (p k A * S k A i j) := by
  rw [← bord_of A k h (det_p A k h) i j hi]
  exact z_det fun r c => hz _ _
theorem step_eq (A : Mx) (k i j : Nat) (h : S k A k k ≠ 0) : p k A * (p (k + 1) A * S (k + 1) A i j) = (p k A * S k A k k) * (p k A * S k A i j) - (p k A * S k A i k) * (p k A * S k A k j) := by
  show p k A * (p k A * S k A k k * (S k A i j - S k A i k / S k A k k * S k A k j)) = _
  have e : S k A k k * (S k A i k / S k A k k) = S k A i k := by grind
  generalize S k A i k / S k A k k = m at *
  grind
theorem S_same {A B : Mx} : ∀ (k i j : Nat), (∀ r, r < k → ∀ c, c < k → A r c = B r c) → (∀ r, r < k → A r j = B r j) → (∀ c, c < k → A i c = B i c) → A i j = B i j → S k A i j = S k B i j
  | 0, _, _, _, _, _, h => h
  | k + 1, i, j, h1, h2, h3, h4 => by
    show S k A i j - S k A i k / S k A k k * S k A k j = S k B i j - S k B i k / S k B k k * S k B k j
    have q1 : ∀ r, r < k → ∀ c, c < k → A r c = B r c := fun r hr c hc => h1 r (by omega) c (by omega)
    rw [S_same k i j q1 (fun r hr => h2 r (by omega)) (fun c hc => h3 c (by omega)) h4,
      S_same k i k q1 (fun r hr => h1 r (by omega) k (by omega)) (fun c hc => h3 c (by omega)) (h3 k (by omega)),
      S_same k k k q1 (fun r hr => h1 r (by omega) k (by omega)) (fun c hc => h1 k (by omega) c (by omega)) (h1 k (by omega) k (by omega)),
      S_same k k j q1 (fun r hr => h2 r (by omega)) (fun c hc => h1 k (by omega) c (by omega)) (h2 k (by omega))]
theorem p_same {A B : Mx} : ∀ (k : Nat), (∀ r, r < k → ∀ c, c < k → A r c = B r c) → p k A = p k B
  | 0, _ => rfl
  | k + 1, h => by
    show p k A * S k A k k = p k B * S k B k k
    have q1 : ∀ r, r < k → ∀ c, c < k → A r c = B r c := fun r hr c hc => h r (by omega) c (by omega)
    rw [p_same k q1, S_same k k k q1 (fun r hr => h r (by omega) k (by omega)) (fun c hc => h k (by omega) c (by omega)) (h k (by omega) k (by omega))]
def Yl (A : Mx) (k : Nat) : Nat → Nat → Rat
  | 0, c => if c = k then 1 else 0
  | m + 1, c => if c + (m + 1) = k then - sm (m + 1) (fun e => Yl A k m (c + 1 + e) * S c A (c + 1 + e) c) / S c A c c else Yl A k m c
def Y (A : Mx) (k c : Nat) : Rat := Yl A k k c
theorem Yl_stay (A : Mx) (k : Nat) : ∀ (m d c : Nat), k ≤ c + m → c ≤ k → Yl A k (m + d) c = Yl A k m c
  | m, 0, c, _, _ => rfl
  | m, d + 1, c, h, hc => by
    show (if c + (m + d + 1) = k then _ else Yl A k (m + d) c) = _
    rw [if_neg (by omega), Yl_stay A k m d c h hc]
theorem Y_top (A : Mx) (k : Nat) : Y A k k = 1 := by
  unfold Y
  have := Yl_stay A k 0 k k (by omega) (Nat.le_refl _)
  rw [Nat.zero_add] at this
  rw [this]
  exact if_pos rfl
theorem Y_step (A : Mx) (k e : Nat) (he : e < k) : Y A k e = - sm (k - e) (fun d => Y A k (e + 1 + d) * S e A (e + 1 + d) e) / S e A e e := by
  unfold Y
  have h1 := Yl_stay A k (k - e) e e (by omega) (by omega)
  rw [show k - e + e = k by omega] at h1
  rw [h1, show k - e = (k - e - 1) + 1 by omega]
  show (if e + ((k - e - 1) + 1) = k then _ else _) = _
  rw [if_pos (by omega)]
  congr 2
  apply sm_congr
  intro d hd
  have h2 := Yl_stay A k (k - e - 1) (e + 1) (e + 1 + d) (by omega) (by omega)
  rw [show k - e - 1 + (e + 1) = k by omega] at h2
  rw [h2]
theorem Y_level (A : Mx) (k : Nat) (h : ∀ l, l < k → S l A l l ≠ 0) (j : Nat) : ∀ m : Nat, m ≤ k → sm (m + 1) (fun d => Y A k (k - m + d) * S (k - m) A (k - m + d) j) = S k A k j
  | 0, _ => by
    show 0 + Y A k (k - 0 + 0) * S (k - 0) A (k - 0 + 0) j = S k A k j
    rw [Nat.sub_zero, Nat.add_zero, Y_top]; grind
  | m + 1, hm => by
    rw [← Y_level A k h j m (by omega)]
    generalize he : k - (m + 1) = e
    have e1' : k - m = e + 1 := by omega
    rw [e1', show m + 1 + 1 = 1 + (m + 1) by omega, sm_split 1 (m + 1)]
    show 0 + Y A k (e + 0) * S e A (e + 0) j + sm (m + 1) (fun d => Y A k (e + (1 + d)) * S e A (e + (1 + d)) j) = _
    rw [Nat.add_zero]
    have hr : ∀ d, e + (1 + d) = e + 1 + d := fun d => by omega
    have hS : ∀ d, S (e + 1) A (e + 1 + d) j = S e A (e + 1 + d) j - S e A (e + 1 + d) e / S e A e e * S e A e j := fun d => rfl
    have hy := Y_step A k e (by omega)
    rw [show k - e = m + 1 by omega] at hy
    have hne := h e (by omega)
    have hsum : sm (m + 1) (fun d => Y A k (e + 1 + d) * S (e + 1) A (e + 1 + d) j) = sm (m + 1) (fun d => Y A k (e + 1 + d) * S e A (e + 1 + d) j) + (- (1 / S e A e e) * S e A e j) * sm (m + 1) (fun d => Y A k (e + 1 + d) * S e A (e + 1 + d) e) := by
      rw [← sm_mul, ← sm_add]
      apply sm_congr
      intro d _
      rw [hS d]
      grind
    rw [hsum, hy]
    simp only [hr]
    generalize sm (m + 1) (fun d => Y A k (e + 1 + d) * S e A (e + 1 + d) e) = u
    generalize sm (m + 1) (fun d => Y A k (e + 1 + d) * S e A (e + 1 + d) j) = w
    grind
theorem Y_sum (A : Mx) (k : Nat) (h : ∀ l, l < k → S l A l l ≠ 0) (j : Nat) : sm (k + 1) (fun c => Y A k c * A c j) = S k A k j := by
  have := Y_level A k h j k (Nat.le_refl _)
  rw [Nat.sub_self] at this
  rw [← this]
  apply sm_congr
  intro c _
  rw [Nat.zero_add]; rfl
theorem Y_same {A B : Mx} (k : Nat) (h : ∀ r, r ≤ k → ∀ c, c < k → A r c = B r c) : ∀ m c, c + m = k → Y A k c = Y B k c := by
  intro m
  induction m using Nat.strongRecOn with
  | _ m ih =>
    intro c hc
    by_cases e : m = 0
    · have : c = k := by omega
      subst this
      rw [Y_top, Y_top]
    · rw [Y_step A k c (by omega), Y_step B k c (by omega)]
      have q : ∀ r, r ≤ k → c ≤ r → S c A r c = S c B r c := fun r hr _ => S_same c r c (fun x hx y hy => h x (by omega) y (by omega)) (fun x hx => h x (by omega) c (by omega)) (fun y hy => h r hr y (by omega)) (h r hr c (by omega))
      rw [q c (by omega) (Nat.le_refl _)]
      congr 2
      apply sm_congr
      intro d hd
      rw [ih (k - (c + 1 + d)) (by omega) (c + 1 + d) (by omega), q (c + 1 + d) (by omega) (by omega)]
theorem sm_unit {n e : Nat} (he : e < n) (f : Nat → Rat) : sm n (fun c => f c * (if c = e then 1 else 0)) = f e := by
  rw [show n = e + (n - e) by omega, sm_split e (n - e), sm_zero (n := e) fun c hc => by rw [if_neg (by omega)]; grind, show n - e = 1 + (n - e - 1) by omega, sm_split 1]
  show 0 + (0 + f (e + 0) * (if e + 0 = e then 1 else 0) + sm (n - e - 1) (fun x => f (e + (1 + x)) * (if e + (1 + x) = e then 1 else 0))) = f e
  rw [sm_zero fun c hc => by rw [if_neg (by omega)]; grind, if_pos (by omega), Nat.add_zero]
  grind
theorem Y_whole (A : Mx) (hz : ∀ i c, isZ (A i c)) (k : Nat) (h : ∀ l, l < k → S l A l l ≠ 0) (e : Nat) (he : e ≤ k) : isZ (p k A * Y A k e) := by
  -- a further column, 1 in row e
  let B : Mx := fun r c => if c = k + 1 then (if r = e then 1 else 0) else A r c
  have hB : ∀ r c, c ≤ k → A r c = B r c := fun r c hc => (if_neg (show ¬ c = k + 1 by omega)).symm
  have hSB : ∀ l, l ≤ k → S l A l l = S l B l l := fun l hl => S_same l l l (fun r _ c hc => hB r c (by omega)) (fun r _ => hB r l hl) (fun c hc => hB l c (by omega)) (hB l l hl)
  have hzB : ∀ i c, isZ (B i c) := fun i c => by
    show isZ (if c = k + 1 then (if i = e then 1 else 0) else A i c)
    split
    · split
      · exact z_one
      · exact ⟨0, rfl⟩
    · exact hz i c
  have hw := whole B hzB k (fun l hl => by rw [← hSB l (by omega)]; exact h l hl) k (k + 1) (Nat.le_refl _)
  rw [← Y_sum B k (fun l hl => by rw [← hSB l (by omega)]; exact h l hl) (k + 1)] at hw
  have e1' : sm (k + 1) (fun c => Y B k c * B c (k + 1)) = Y B k e := by
    rw [sm_congr (g := fun c => Y B k c * (if c = e then 1 else 0)) fun c _ => by show Y B k c * (if k + 1 = k + 1 then (if c = e then (1 : Rat) else 0) else A c (k + 1)) = _; rw [if_pos rfl]]
    exact sm_unit (by omega) _
  rw [e1', ← p_same (A := A) (B := B) k (fun r _ c hc => hB r c (by omega)), ← Y_same (A := A) (B := B) k (fun r _ c hc => hB r c (by omega)) (k - e) e (by omega)] at hw
  exact hw
structure Sgn (A : Mx) (n : Nat) : Prop where
  off : ∀ i j, i < n → j < n → i ≠ j → A i j ≤ 0
  one : ∀ i, i < n → 0 < A i n
theorem mul_np {a b : Rat} (ha : a ≤ 0) (hb : b ≤ 0) : 0 ≤ a * b := by
  have h := Rat.mul_nonneg (a := -a) (b := -b) (by grind) (by grind)
  have e : -a * -b = a * b := by grind
  rw [e] at h; exact h
theorem div_np {a b : Rat} (ha : a ≤ 0) (hb : 0 < b) : a / b ≤ 0 := by
  have hi : 0 ≤ b⁻¹ := Rat.le_of_lt (Rat.inv_pos.mpr hb)
  have h := Rat.mul_nonneg (a := -a) (b := b⁻¹) (by grind) hi
  rw [Rat.div_def]
  grind
theorem S_sign {A : Mx} {n : Nat} (g : Sgn A n) : ∀ k : Nat, (∀ l, l < k → 0 < S l A l l) → k ≤ n → (∀ i j, k ≤ i → i < n → k ≤ j → j < n → i ≠ j → S k A i j ≤ 0) ∧ ∀ i, k ≤ i → i < n → 0 < S k A i n
  | 0, _, _ => ⟨fun i j _ hi _ hj e => g.off i j hi hj e, fun i _ hi => g.one i hi⟩
  | k + 1, h, hk => by
    obtain ⟨h1, h2⟩ := S_sign g k (fun l hl => h l (by omega)) (by omega)
    have hp := h k (by omega)
    refine ⟨fun i j hi hin hj hjn e => ?_, fun i hi hin => ?_⟩
    · show S k A i j - S k A i k / S k A k k * S k A k j ≤ 0
      have q := mul_np (div_np (h1 i k (by omega) hin (Nat.le_refl _) (by omega) (by omega)) hp) (h1 k j (Nat.le_refl _) (by omega) (by omega) hjn (by omega))
      have r := h1 i j (by omega) hin (by omega) hjn e
      grind
    · show 0 < S k A i n - S k A i k / S k A k k * S k A k n
      have q := div_np (h1 i k (by omega) hin (Nat.le_refl _) (by omega) (by omega)) hp
      have r := h2 k (Nat.le_refl _) (by omega)
      have t := h2 i (by omega) hin
      have w := Rat.mul_nonneg (a := - (S k A i k / S k A k k)) (b := S k A k n) (by grind) (Rat.le_of_lt r)
      grind
theorem sm_np : ∀ {n : Nat} {f : Nat → Rat}, (∀ i, i < n → f i ≤ 0) → sm n f ≤ 0
  | 0, _, _ => by show (0 : Rat) ≤ 0; grind
  | n + 1, f, h => by
    have a := sm_np (n := n) (f := f) fun i hi => h i (by omega)
    have b := h n (by omega)
    show sm n f + f n ≤ 0
    grind
theorem Y_pos {A : Mx} {n k : Nat} (g : Sgn A n) (hk : k < n) (h : ∀ l, l < k → 0 < S l A l l) : ∀ m c, c + m = k → 0 ≤ Y A k c := by
  intro m
  induction m using Nat.strongRecOn with
  | _ m ih =>
    intro c hc
    by_cases e : m = 0
    · have : c = k := by omega
      subst this
      rw [Y_top]; grind
    · rw [Y_step A k c (by omega)]
      have q : sm (k - c) (fun d => Y A k (c + 1 + d) * S c A (c + 1 + d) c) ≤ 0 := sm_np fun d hd => by
        have a := ih (k - (c + 1 + d)) (by omega) (c + 1 + d) (by omega)
        have b := (S_sign g c (fun l hl => h l (by omega)) (by omega)).1 (c + 1 + d) c (by omega) (by omega) (Nat.le_refl _) (by omega) (by omega)
        have w := Rat.mul_nonneg (a := Y A k (c + 1 + d)) (b := - S c A (c + 1 + d) c) a (by grind)
        grind
      have w := div_np q (h c (by omega))
      rw [Rat.div_def] at *
      grind
theorem flow_ok {A : Mx} {n k : Nat} (g : Sgn A n) (hk : k < n) (h : ∀ l, l < k → 0 < S l A l l) (hn : S k A k k ≤ 0) (j : Nat) (hj : j < n) : sm (k + 1) (fun c => Y A k c * A c j) ≤ 0 := by
  have hne : ∀ l, l < k → S l A l l ≠ 0 := fun l hl => by have := h l hl; grind
  rw [Y_sum A k hne j]
  by_cases h1 : j < k
  · rw [S_zero A k hne k j (Nat.le_refl _) h1]; grind
  · by_cases h2 : j = k
    · rw [h2]; exact hn
    · exact (S_sign g k h (by omega)).1 k j (Nat.le_refl _) hk (by omega) hj (by omega)
def Xl (A : Mx) (n : Nat) : Nat → Nat → Rat
  | 0, _ => 0
  | m + 1, c => if c + (m + 1) = n then (S c A c n - sm m (fun e => S c A c (c + 1 + e) * Xl A n m (c + 1 + e))) / S c A c c else Xl A n m c
def X (A : Mx) (n c : Nat) : Rat := Xl A n n c
theorem Xl_stay (A : Mx) (n : Nat) : ∀ (m d c : Nat), n ≤ c + m → Xl A n (m + d) c = Xl A n m c
  | m, 0, c, _ => rfl
  | m, d + 1, c, h => by
    show (if c + (m + d + 1) = n then _ else Xl A n (m + d) c) = _
    rw [if_neg (by omega), Xl_stay A n m d c h]
theorem X_step (A : Mx) (n c : Nat) (hc : c < n) : X A n c = (S c A c n - sm (n - c - 1) (fun e => S c A c (c + 1 + e) * X A n (c + 1 + e))) / S c A c c := by
  unfold X
  have h1 := Xl_stay A n (n - c) c c (by omega)
  rw [show n - c + c = n by omega] at h1
  rw [h1, show n - c = (n - c - 1) + 1 by omega]
  show (if c + ((n - c - 1) + 1) = n then _ else _) = _
  rw [if_pos (by omega), show n - c - 1 + 1 - 1 = n - c - 1 by omega]
  congr 2
  apply sm_congr
  intro e he
  have h2 := Xl_stay A n (n - c - 1) (c + 1) (c + 1 + e) (by omega)
  rw [show n - c - 1 + (c + 1) = n by omega] at h2
  rw [h2]
def rs (A : Mx) (n : Nat) (r : Nat → Rat) : Rat := sm n (fun d => r d * X A n d) - r n
theorem rs_own (A : Mx) (n : Nat) (h : ∀ l, l < n → S l A l l ≠ 0) (i : Nat) (hi : i < n) : rs A n (S i A i) = 0 := by
  unfold rs
  rw [show n = i + (1 + (n - i - 1)) by omega, sm_split i, sm_zero (n := i) fun c hc => by rw [S_zero A i (fun l hl => h l (by omega)) i c (Nat.le_refl _) hc]; grind, sm_split 1]
  rw [show i + (1 + (n - i - 1)) = n by omega]
  show 0 + (0 + S i A i (i + 0) * X A n (i + 0) + sm (n - i - 1) (fun e => S i A i (i + (1 + e)) * X A n (i + (1 + e)))) - S i A i n = 0
  rw [Nat.add_zero, X_step A n i hi]
  have hr : ∀ e, i + (1 + e) = i + 1 + e := fun e => by omega
  simp only [hr]
  have := h i hi
  generalize sm (n - i - 1) (fun e => S i A i (i + 1 + e) * X A n (i + 1 + e)) = u
  grind
theorem rs_lin (A : Mx) (n : Nat) (r q : Nat → Rat) (m : Rat) : rs A n (fun d => r d - m * q d) = rs A n r - m * rs A n q := by
  unfold rs
  have : sm n (fun d => (r d - m * q d) * X A n d) = sm n (fun d => r d * X A n d) + (-m) * sm n (fun d => q d * X A n d) := by
    rw [← sm_mul, ← sm_add]
    apply sm_congr
    intro d _
    grind
  rw [this]; grind
theorem rs_up (A : Mx) (n : Nat) (h : ∀ l, l < n → S l A l l ≠ 0) (i : Nat) (hi : i < n) : ∀ m, m ≤ i → rs A n (S (i - m) A i) = 0
  | 0, _ => rs_own A n h i hi
  | m + 1, hm => by
    have ih := rs_up A n h i hi m (by omega)
    generalize he : i - (m + 1) = e
    rw [show i - m = e + 1 by omega] at ih
    have h1 : rs A n (S (e + 1) A i) = rs A n (S e A i) - S e A i e / S e A e e * rs A n (S e A e) := rs_lin A n (S e A i) (S e A e) (S e A i e / S e A e e)
    rw [rs_own A n h e (by omega)] at h1
    rw [h1] at ih
    grind
theorem X_row (A : Mx) (n : Nat) (h : ∀ l, l < n → S l A l l ≠ 0) (i : Nat) (hi : i < n) : sm n (fun d => A i d * X A n d) = A i n := by
  have := rs_up A n h i hi i (Nat.le_refl _)
  rw [Nat.sub_self] at this
  have e : rs A n (A i) = 0 := this
  unfold rs at e
  grind
theorem X_pos {A : Mx} {n : Nat} (g : Sgn A n) (h : ∀ l, l < n → 0 < S l A l l) : ∀ m c, c + (m + 1) = n → 0 < X A n c := by
  intro m
  induction m using Nat.strongRecOn with
  | _ m ih =>
    intro c hc
    rw [X_step A n c (by omega)]
    obtain ⟨s1, s2⟩ := S_sign g c (fun l hl => h l (by omega)) (by omega)
    have q : sm (n - c - 1) (fun e => S c A c (c + 1 + e) * X A n (c + 1 + e)) ≤ 0 := sm_np fun e he => by
      have a := ih (n - (c + 1 + e) - 1) (by omega) (c + 1 + e) (by omega)
      have b := s1 c (c + 1 + e) (Nat.le_refl _) (by omega) (by omega) (by omega) (by omega)
      have w := Rat.mul_nonneg (a := - S c A c (c + 1 + e)) (b := X A n (c + 1 + e)) (by grind) (Rat.le_of_lt a)
      grind
    have t := s2 c (Nat.le_refl _) (by omega)
    have hi := Rat.inv_pos.mpr (h c (by omega))
    rw [Rat.div_def]
    exact Rat.mul_pos (by grind) hi
theorem sm_swap : ∀ (m n : Nat) (f : Nat → Nat → Rat), sm m (fun a => sm n (fun b => f a b)) = sm n (fun b => sm m (fun a => f a b))
  | 0, n, f => by show 0 = sm n (fun _ => 0); exact (sm_zero fun _ _ => rfl).symm
  | m + 1, n, f => by
    show sm m (fun a => sm n (fun b => f a b)) + sm n (fun b => f m b) = sm n (fun b => sm m (fun a => f a b) + f m b)
    rw [sm_swap m n f, sm_add]
theorem X_whole (A : Mx) (hz : ∀ i c, isZ (A i c)) (n : Nat) (h : ∀ l, l < n → S l A l l ≠ 0) (k : Nat) (hk : k < n) : isZ (p n A * X A n k) := by
  -- a further row, 1 at place k
  let B : Mx := fun r c => if r = n then (if c = k then 1 else 0) else A r c
  have hB : ∀ r c, r < n → A r c = B r c := fun r c hr => (if_neg (show ¬ r = n by omega)).symm
  have hSB : ∀ l, l < n → S l A l l = S l B l l := fun l hl => S_same l l l (fun r hr c _ => hB r c (by omega)) (fun r hr => hB r l (by omega)) (fun c _ => hB l c hl) (hB l l hl)
  have hzB : ∀ i c, isZ (B i c) := fun i c => by
    show isZ (if i = n then (if c = k then 1 else 0) else A i c)
    split
    · split
      · exact z_one
      · exact ⟨0, rfl⟩
    · exact hz i c
  have hne : ∀ l, l < n → S l B l l ≠ 0 := fun l hl => by rw [← hSB l hl]; exact h l hl
  have hw := whole B hzB n hne n n (Nat.le_refl _)
  obtain ⟨t, ht⟩ := S_comb B n n (Nat.le_refl _)
  have hzr := S_zero B n hne n
  -- by its sum over the rows
  have e1' : S n B n n = - X A n k := by
    rw [ht n]
    have b0 : B n n = 0 := by show (if n = n then (if n = k then (1 : Rat) else 0) else A n n) = 0; rw [if_pos rfl, if_neg (by omega)]
    have e2' : sm n (fun l => t l * B l n) = X A n k := by
      rw [sm_congr (g := fun l => sm n (fun d => t l * (A l d * X A n d))) fun l hl => by rw [← hB l n hl, ← X_row A n h l hl, sm_mul], sm_swap]
      rw [sm_congr (g := fun d => X A n d * (if d = k then 1 else 0)) fun d hd => ?_]
      · exact sm_unit hk _
      · have q := hzr d (Nat.le_refl _) hd
        rw [ht d] at q
        have bd : B n d = if d = k then 1 else 0 := if_pos rfl
        rw [bd] at q
        have : sm n (fun l => t l * (A l d * X A n d)) = X A n d * sm n (fun l => t l * B l d) := by
          rw [← sm_mul]
          apply sm_congr
          intro l hl
          rw [hB l d hl]; grind
        rw [this]
        grind
    rw [b0, e2']; grind
  rw [e1', ← p_same (A := A) (B := B) n (fun r hr c _ => hB r c hr)] at hw
  have := z_neg hw
  have e3' : -(p n A * -X A n k) = p n A * X A n k := by grind
  rw [e3'] at this
  exact this
end Bar
set_option linter.all false
namespace Bar
theorem num_cast {x : Rat} (h : isZ x) : ((x.num : Int) : Rat) = x := by
  obtain ⟨z, rfl⟩ := h
  rw [Rat.num_intCast]
def E (A : Mx) (m i j : Nat) : Int := (p m A * S m A i j).num
def P (A : Mx) (k : Nat) : Int := (p k A).num
section
variable {A : Mx} (hz : ∀ i c, isZ (A i c))
include hz
theorem E_cast {m : Nat} (h : ∀ l, l < m → S l A l l ≠ 0) (i j : Nat) (hi : m ≤ i) : (E A m i j : Rat) = p m A * S m A i j := num_cast (whole A hz m h i j hi)
theorem p_whole {k : Nat} (h : ∀ l, l < k → S l A l l ≠ 0) : isZ (p k A) := by
  rw [← det_p A k h]; exact z_det hz
theorem P_cast {k : Nat} (h : ∀ l, l < k → S l A l l ≠ 0) : (P A k : Rat) = p k A := num_cast (p_whole hz h)
theorem E_step {k : Nat} (h : ∀ l, l < k + 1 → S l A l l ≠ 0) (i j : Nat) (hi : k < i) : E A k k k * E A k i j - E A k i k * E A k k j = P A k * E A (k + 1) i j := by
  have hk : ∀ l, l < k → S l A l l ≠ 0 := fun l hl => h l (by omega)
  apply Rat.intCast_inj.mp
  rw [Rat.intCast_sub, Rat.intCast_mul, Rat.intCast_mul, Rat.intCast_mul, E_cast hz hk k k (Nat.le_refl _), E_cast hz hk i j (by omega), E_cast hz hk i k (by omega), E_cast hz hk k j (Nat.le_refl _), E_cast hz h i j (by omega), P_cast hz hk]
  exact (step_eq A k i j (h k (by omega))).symm
end
def si : Nat → (Nat → Int) → Int
  | 0, _ => 0
  | n + 1, f => si n f + f n
theorem si_cast : ∀ (n : Nat) (f : Nat → Int), ((si n f : Int) : Rat) = sm n (fun i => (f i : Rat))
  | 0, _ => rfl
  | n + 1, f => by show ((si n f + f n : Int) : Rat) = sm n _ + _; rw [Rat.intCast_add, si_cast n f]
theorem si_list : ∀ (n : Nat) (f : Nat → Int), ((List.range n).map f).sum = si n f
  | 0, _ => rfl
  | n + 1, f => by rw [List.range_succ, List.map_append, List.sum_append, si_list n f]; simp [si]
def Tp (A : Mx) (n k : Nat) : Int := (p n A * X A n k).num
def Cn (A : Mx) (k c : Nat) : Int := (p k A * Y A k c).num
section
variable {A : Mx} (hz : ∀ i c, isZ (A i c))
include hz
theorem Tp_cast {n : Nat} (h : ∀ l, l < n → S l A l l ≠ 0) (k : Nat) (hk : k < n) : (Tp A n k : Rat) = p n A * X A n k := num_cast (X_whole A hz n h k hk)
theorem Cn_cast {k : Nat} (h : ∀ l, l < k → S l A l l ≠ 0) (c : Nat) (hc : c ≤ k) : (Cn A k c : Rat) = p k A * Y A k c := num_cast (Y_whole A hz k h c hc)
theorem Tp_step {n : Nat} (h : ∀ l, l < n → S l A l l ≠ 0) (k : Nat) (hk : k < n) : E A k k k * Tp A n k = P A n * E A k k n - si (n - k - 1) (fun e => E A k k (k + 1 + e) * Tp A n (k + 1 + e)) := by
  have h' : ∀ l, l < k → S l A l l ≠ 0 := fun l hl => h l (by omega)
  apply Rat.intCast_inj.mp
  rw [Rat.intCast_sub, Rat.intCast_mul, Rat.intCast_mul, si_cast, E_cast hz h' k k (Nat.le_refl _), E_cast hz h' k n (Nat.le_refl _), P_cast hz h, Tp_cast hz h k hk]
  rw [sm_congr (g := fun e => (p k A * p n A) * (S k A k (k + 1 + e) * X A n (k + 1 + e))) fun e he => by rw [Rat.intCast_mul, E_cast hz h' k _ (Nat.le_refl _), Tp_cast hz h _ (by omega)]; grind, sm_mul, X_step A n k hk]
  have := h k hk
  generalize sm (n - k - 1) (fun e => S k A k (k + 1 + e) * X A n (k + 1 + e)) = u
  grind
theorem Cn_top {k : Nat} (h : ∀ l, l < k → S l A l l ≠ 0) : Cn A k k = P A k := by
  unfold Cn P
  rw [Y_top, Rat.mul_one]
theorem Cn_step {k : Nat} (h : ∀ l, l < k → S l A l l ≠ 0) (e : Nat) (he : e < k) : E A e e e * Cn A k e = - si (k - e) (fun d => Cn A k (e + 1 + d) * E A e (e + 1 + d) e) := by
  have h' : ∀ l, l < e → S l A l l ≠ 0 := fun l hl => h l (by omega)
  apply Rat.intCast_inj.mp
  rw [Rat.intCast_neg, Rat.intCast_mul, si_cast, E_cast hz h' e e (Nat.le_refl _), Cn_cast hz h e (by omega)]
  rw [sm_congr (g := fun d => (p k A * p e A) * (Y A k (e + 1 + d) * S e A (e + 1 + d) e)) fun d hd => by rw [Rat.intCast_mul, E_cast hz h' _ e (by omega), Cn_cast hz h _ (by omega)]; grind, sm_mul, Y_step A k e he]
  have := h e he
  generalize sm (k - e) (fun d => Y A k (e + 1 + d) * S e A (e + 1 + d) e) = u
  grind
end
def bnd : Nat → Rat → Rat
  | 0, _ => 1
  | n + 1, M => ((n + 1 : Nat) : Rat) * (M * bnd n M)
def lim (M x : Rat) : Prop := -M ≤ x ∧ x ≤ M
theorem lim_mul {M N x y : Rat} (hM : 0 ≤ M) (hN : 0 ≤ N) (hx : lim M x) (hy : lim N y) : lim (M * N) (x * y) := by
  obtain ⟨a, b⟩ := hx
  obtain ⟨c, d⟩ := hy
  have h1 := Rat.mul_nonneg (a := M - x) (b := N - y) (by grind) (by grind)
  have h2 := Rat.mul_nonneg (a := M + x) (b := N + y) (by grind) (by grind)
  have h3 := Rat.mul_nonneg (a := M - x) (b := N + y) (by grind) (by grind)
  have h4 := Rat.mul_nonneg (a := M + x) (b := N - y) (by grind) (by grind)
  constructor <;> grind
theorem lim_sg {M x : Rat} (k : Nat) (h : lim M x) : lim M (sg k * x) := by
  obtain ⟨a, b⟩ := h
  unfold sg
  split <;> constructor <;> grind
theorem lim_sm : ∀ {n : Nat} {f : Nat → Rat} {M : Rat}, (∀ i, i < n → lim M (f i)) → lim ((n : Nat) * M) (sm n f)
  | 0, f, M, _ => by
    have e : ((0 : Nat) : Rat) * M = 0 := by
      rw [show ((0 : Nat) : Rat) = 0 from rfl, Rat.zero_mul]
    rw [e]
    show lim 0 0
    constructor <;> grind
  | n + 1, f, M, h => by
    obtain ⟨a, b⟩ := lim_sm (n := n) (f := f) (M := M) fun i hi => h i (by omega)
    obtain ⟨c, d⟩ := h n (by omega)
    have e : ((n + 1 : Nat) : Rat) * M = (n : Nat) * M + M := by
      rw [Rat.natCast_add]
      have : ((1 : Nat) : Rat) = 1 := rfl
      rw [this]; grind
    rw [e]
    show lim _ (sm n f + f n)
    constructor <;> grind
theorem bnd_pos : ∀ (n : Nat) {M : Rat}, 0 ≤ M → 0 ≤ bnd n M
  | 0, _, _ => by show (0 : Rat) ≤ 1; grind
  | n + 1, M, h => by
    have hn : (0 : Rat) ≤ ((n + 1 : Nat) : Rat) := by exact_mod_cast Nat.zero_le (n + 1)
    exact Rat.mul_nonneg hn (Rat.mul_nonneg h (bnd_pos n h))
theorem det_lim : ∀ {n : Nat} {A : Mx} {M : Rat}, 0 ≤ M → (∀ i c, lim M (A i c)) → lim (bnd n M) (det n A)
  | 0, _, _, _, _ => by show lim 1 1; constructor <;> grind
  | n + 1, A, M, hM, h => by
    refine lim_sm fun j _ => ?_
    have := lim_mul hM (bnd_pos n hM) (h n j) (det_lim hM fun i c => h i (skip j c))
    have := lim_sg (n + j) this
    have e : sg (n + j) * (A n j * det n (fun i c => A i (skip j c))) = sg (n + j) * A n j * det n (fun i c => A i (skip j c)) := by grind
    rw [e] at this
    exact this
theorem bord_lim {A : Mx} {M : Rat} (h : ∀ i c, lim M (A i c)) (k i j : Nat) : ∀ r c, lim M (bord A k i j r c) := fun r c => h _ _
theorem E_lim {A : Mx} (hz : ∀ i c, isZ (A i c)) {M : Rat} (hM : 0 ≤ M) (hA : ∀ i c, lim M (A i c)) {m : Nat} (h : ∀ l, l < m → S l A l l ≠ 0) (i j : Nat) (hi : m ≤ i) : lim (bnd (m + 1) M) (E A m i j : Rat) := by
  rw [E_cast hz h i j hi, ← bord_of A m h (det_p A m h) i j hi]
  exact det_lim hM (bord_lim hA m i j)
theorem P_lim {A : Mx} (hz : ∀ i c, isZ (A i c)) {M : Rat} (hM : 0 ≤ M) (hA : ∀ i c, lim M (A i c)) {k : Nat} (h : ∀ l, l < k → S l A l l ≠ 0) : lim (bnd k M) (P A k : Rat) := by
  rw [P_cast hz h, ← det_p A k h]
  exact det_lim hM hA
theorem lim01 {M : Rat} (h1 : 1 ≤ M) (q : Prop) [Decidable q] : lim M (if q then 1 else 0) := by
  split <;> constructor <;> grind
theorem Cn_lim {A : Mx} (hz : ∀ i c, isZ (A i c)) {M : Rat} (hM : 1 ≤ M) (hA : ∀ i c, lim M (A i c)) {k : Nat} (h : ∀ l, l < k → S l A l l ≠ 0) (e : Nat) (he : e ≤ k) : lim (bnd (k + 1) M) (Cn A k e : Rat) := by
  let B : Mx := fun r c => if c = k + 1 then (if r = e then 1 else 0) else A r c
  have hB : ∀ r c, c ≤ k → A r c = B r c := fun r c hc => (if_neg (show ¬ c = k + 1 by omega)).symm
  have hSB : ∀ l, l ≤ k → S l A l l = S l B l l := fun l hl => S_same l l l (fun r _ c hc => hB r c (by omega)) (fun r _ => hB r l hl) (fun c hc => hB l c (by omega)) (hB l l hl)
  have hlB : ∀ i c, lim M (B i c) := fun i c => by
    show lim M (if c = k + 1 then (if i = e then 1 else 0) else A i c)
    split
    · exact lim01 hM _
    · exact hA i c
  have hne : ∀ l, l < k → S l B l l ≠ 0 := fun l hl => by rw [← hSB l (by omega)]; exact h l hl
  have hd := bord_of B k hne (det_p B k hne) k (k + 1) (Nat.le_refl _)
  rw [← Y_sum B k hne (k + 1)] at hd
  have e1' : sm (k + 1) (fun c => Y B k c * B c (k + 1)) = Y B k e := by
    rw [sm_congr (g := fun c => Y B k c * (if c = e then 1 else 0)) fun c _ => by show Y B k c * (if k + 1 = k + 1 then (if c = e then (1 : Rat) else 0) else A c (k + 1)) = _; rw [if_pos rfl]]
    exact sm_unit (by omega) _
  rw [e1', ← p_same (A := A) (B := B) k (fun r _ c hc => hB r c (by omega)), ← Y_same (A := A) (B := B) k (fun r _ c hc => hB r c (by omega)) (k - e) e (by omega)] at hd
  rw [Cn_cast hz h e he, ← hd]
  exact det_lim (by grind) (bord_lim hlB k k (k + 1))
theorem Tp_lim {A : Mx} (hz : ∀ i c, isZ (A i c)) {M : Rat} (hM : 1 ≤ M) (hA : ∀ i c, lim M (A i c)) {n : Nat} (h : ∀ l, l < n → S l A l l ≠ 0) (k : Nat) (hk : k < n) : lim (bnd (n + 1) M) (Tp A n k : Rat) := by
  let B : Mx := fun r c => if r = n then (if c = k then 1 else 0) else A r c
  have hB : ∀ r c, r < n → A r c = B r c := fun r c hr => (if_neg (show ¬ r = n by omega)).symm
  have hSB : ∀ l, l < n → S l A l l = S l B l l := fun l hl => S_same l l l (fun r hr c _ => hB r c (by omega)) (fun r hr => hB r l (by omega)) (fun c _ => hB l c hl) (hB l l hl)
  have hlB : ∀ i c, lim M (B i c) := fun i c => by
    show lim M (if i = n then (if c = k then 1 else 0) else A i c)
    split
    · exact lim01 hM _
    · exact hA i c
  have hne : ∀ l, l < n → S l B l l ≠ 0 := fun l hl => by rw [← hSB l hl]; exact h l hl
  have hd := bord_of B n hne (det_p B n hne) n n (Nat.le_refl _)
  obtain ⟨t, ht⟩ := S_comb B n n (Nat.le_refl _)
  have hzr := S_zero B n hne n
  have e1' : S n B n n = - X A n k := by
    rw [ht n]
    have b0 : B n n = 0 := by show (if n = n then (if n = k then (1 : Rat) else 0) else A n n) = 0; rw [if_pos rfl, if_neg (by omega)]
    have e2' : sm n (fun l => t l * B l n) = X A n k := by
      rw [sm_congr (g := fun l => sm n (fun d => t l * (A l d * X A n d))) fun l hl => by rw [← hB l n hl, ← X_row A n h l hl, sm_mul], sm_swap]
      rw [sm_congr (g := fun d => X A n d * (if d = k then 1 else 0)) fun d hd => ?_]
      · exact sm_unit hk _
      · have q := hzr d (Nat.le_refl _) hd
        rw [ht d] at q
        have bd : B n d = if d = k then 1 else 0 := if_pos rfl
        rw [bd] at q
        have : sm n (fun l => t l * (A l d * X A n d)) = X A n d * sm n (fun l => t l * B l d) := by
          rw [← sm_mul]
          apply sm_congr
          intro l hl
          rw [hB l d hl]; grind
        rw [this]
        grind
    rw [b0, e2']; grind
  rw [e1', ← p_same (A := A) (B := B) n (fun r hr c _ => hB r c hr)] at hd
  rw [Tp_cast hz h k hk]
  have e3' : p n A * X A n k = - det (n + 1) (bord B n n n) := by rw [hd]; grind
  rw [e3']
  obtain ⟨a, b⟩ := det_lim (n := n + 1) (show (0 : Rat) ≤ M by grind) (bord_lim hlB n n n)
  constructor <;> grind
theorem lim_abs {N : Nat} {z : Int} (h : lim (N : Rat) (z : Rat)) : z.natAbs ≤ N := by
  obtain ⟨a, b⟩ := h
  have a' : (-(N : Int) : Int) ≤ z := by
    have : (((-(N : Int) : Int)) : Rat) ≤ (z : Rat) := by rw [Rat.intCast_neg]; exact a
    exact Rat.intCast_le_intCast.mp this
  have b' : z ≤ (N : Int) := by
    have : (z : Rat) ≤ ((N : Int) : Rat) := b
    exact Rat.intCast_le_intCast.mp this
  omega
def bN : Nat → Nat → Nat
  | 0, _ => 1
  | n + 1, M => (n + 1) * (M * bN n M)
theorem bN_cast : ∀ n M : Nat, bnd n (M : Rat) = (bN n M : Rat)
  | 0, _ => rfl
  | n + 1, M => by
    show ((n + 1 : Nat) : Rat) * ((M : Rat) * bnd n (M : Rat)) = (((n + 1) * (M * bN n M) : Nat) : Rat)
    rw [bN_cast n M, Rat.natCast_mul, Rat.natCast_mul]
theorem bN_mono {M : Nat} (hM : 1 ≤ M) : ∀ {m n : Nat}, m ≤ n → bN m M ≤ bN n M := by
  intro m n h
  induction h with
  | refl => exact Nat.le_refl _
  | step h ih =>
    rename_i n
    show bN m M ≤ (n + 1) * (M * bN n M)
    have h1 : bN n M ≤ M * bN n M := Nat.le_mul_of_pos_left _ hM
    have h2 : M * bN n M ≤ (n + 1) * (M * bN n M) := Nat.le_mul_of_pos_left _ (by omega)
    omega
end Bar
set_option Elab.async false
set_option linter.all false
set_option maxRecDepth 100000
set_option maxHeartbeats 4000000
namespace My
open PySem PySem.Spec L2 DL
def top (i : Nat) : Stmt := PySem.Challenge.pw_dockethall_k43_left_out_turned.main.body.getD i (.Pass ⟨0, 0, 0, 0⟩)
abbrev s_law_mixed : Stmt := top 17
theorem sc_law_mixed : FnScope ["_law_cell", "_law_k"] ["_law_cell", "_law_k"] (defScope s_law_mixed) := ⟨rfl, rfl, rfl, by decide +kernel, rfl, by decide +kernel, by decide +kernel⟩
theorem l_law_mixed__law_cell : (defScope s_law_mixed).names.lookup ("_law_cell" : Str) = some NameKind.local := by decide +kernel
theorem l_law_mixed__law_k : (defScope s_law_mixed).names.lookup ("_law_k" : Str) = some NameKind.local := by decide +kernel
noncomputable def T_law_mixed : SD → Out Fl := (sRet (e2 dMod (e2 dMul (e2 dAdd (e2 dMod (eVar 0) (eC (.int 2147483647))) (eC (.int 11))) (e2 dAdd (eC (.int 48271)) (e2 dMul (e2 dMul (eC (.int 2)) (eVar 1)) (eVar 1)))) (eC (.int 2147483629))))
noncomputable def b_law_mixed : List D → Out D := bodyF false 2 2 T_law_mixed
theorem u_law_mixed (d0 d1 : D) : b_law_mixed [d0, d1] = (T_law_mixed [some (.k, d0), some (.k, d1)] >>= retF false) := rfl
theorem d_law_mixed {P : Program} {w : World} {K : PySem.W.Frag} {mg : Str → Option Value} {base : Heap} {CT : CTab} {f : Addr} {fd : FuncData} {dV : Value} (F : FunV K "_law_mixed" "_law_mixed" s_law_mixed f fd dV)  : FnOk P w K mg base CX0 1 f fd ["_law_cell", "_law_k"] (SpD K CT false b_law_mixed) :=
    @fnV P w K mg base CT false "_law_mixed" "_law_mixed" s_law_mixed f fd dV ["_law_cell", "_law_k"] ["_law_cell", "_law_k"] 0 T_law_mixed F sc_law_mixed fun cdv A outer s H E G hr => 
      (dss_one (ds_ret (de_mod (DE.db (de_mul (DE.db (de_add (DE.db (de_mod (DE.db (de_var 0 rfl (Or.inl l_law_mixed__law_cell))) (DE.db de_int))) (DE.db de_int))) (DE.db (de_add (DE.db de_int) (DE.db (de_mul (DE.db (de_mul (DE.db de_int) (DE.db (de_var 1 rfl (Or.inl l_law_mixed__law_k))))) (DE.db (de_var 1 rfl (Or.inl l_law_mixed__law_k))))))))) (DE.db de_int))))
abbrev s_law_divisor : Stmt := top 18
theorem sc_law_divisor : FnScope ["_law_one", "_law_other"] ["_law_one", "_law_other"] (defScope s_law_divisor) := ⟨rfl, rfl, rfl, by decide +kernel, rfl, by decide +kernel, by decide +kernel⟩
theorem l_law_divisor__law_other : (defScope s_law_divisor).names.lookup ("_law_other" : Str) = some NameKind.local := by decide +kernel
theorem l_law_divisor__law_one : (defScope s_law_divisor).names.lookup ("_law_one" : Str) = some NameKind.local := by decide +kernel
noncomputable def Q_law_divisor_0 : SD → Out Bool := (tVal (e2 dNe (eVar 1) (eC (.int 0))))
noncomputable def L_law_divisor_0 : SD → Out Fl := (sPar 0 1 (aCons (eVar 1) (aCons (e2 dMod (eVar 0) (eVar 1)) aNil)))
noncomputable def T_law_divisor : SD → Out Fl := (sSeq (sWhileC Q_law_divisor_0 L_law_divisor_0) (sRet (eVar 0)))
noncomputable def b_law_divisor : List D → Out D := bodyF false 2 2 T_law_divisor
theorem d_law_divisor {P : Program} {w : World} {K : PySem.W.Frag} {mg : Str → Option Value} {base : Heap} {CT : CTab} {f : Addr} {fd : FuncData} {dV : Value} (F : FunV K "_law_divisor" "_law_divisor" s_law_divisor f fd dV)  : FnOk P w K mg base CX0 1 f fd ["_law_one", "_law_other"] (SpD K CT false b_law_divisor) :=
    @fnV P w K mg base CT false "_law_divisor" "_law_divisor" s_law_divisor f fd dV ["_law_one", "_law_other"] ["_law_one", "_law_other"] 0 T_law_divisor F sc_law_divisor fun cdv A outer s H E G hr => 
      (dss_cons (ds_whileC PassesOwn.never (dt_ne hr.units (DE.db (de_var 1 rfl (Or.inl l_law_divisor__law_other))) (DE.db de_int)) (dss_one (ds_par (i := 0) (j := 1) rfl sc_law_divisor.nd rfl rfl (by decide) l_law_divisor__law_one l_law_divisor__law_other (da_cons (de_var 1 rfl (Or.inl l_law_divisor__law_other)) (da_cons (de_mod (DE.db (de_var 0 rfl (Or.inl l_law_divisor__law_one))) (DE.db (de_var 1 rfl (Or.inl l_law_divisor__law_other)))) da_nil)) (by rfl)))) (dss_one (ds_ret (de_var 0 rfl (Or.inl l_law_divisor__law_one)))))
abbrev s_law_share : Stmt := top 19
theorem sc_law_share : FnScope ["_law_number", "_law_top", "_law_bottom", "_law_by"] ["_law_number"] (defScope s_law_share) := ⟨rfl, rfl, rfl, by decide +kernel, rfl, by decide +kernel, by decide +kernel⟩
theorem l_law_share__law_number : (defScope s_law_share).names.lookup ("_law_number" : Str) = some NameKind.local := by decide +kernel
theorem l_law_share__law_top : (defScope s_law_share).names.lookup ("_law_top" : Str) = some NameKind.local := by decide +kernel
theorem l_law_share__law_bottom : (defScope s_law_share).names.lookup ("_law_bottom" : Str) = some NameKind.local := by decide +kernel
theorem g_law_share__law_divisor : (defScope s_law_share).names.lookup ("_law_divisor" : Str) = some NameKind.globalImplicit := by decide +kernel
theorem l_law_share__law_by : (defScope s_law_share).names.lookup ("_law_by" : Str) = some NameKind.local := by decide +kernel
noncomputable def T_law_share : SD → Out Fl := (sSeq (sIf (tVal (e2 dLt (e2 dMod (eVar 0) (eC (.int 5))) (eC (.int 2)))) (sRet (eTup (aCons (eC (.int 0)) (aCons (eC (.int 1)) aNil)))) sNil) (sSeq (sSet 1 (e2 dAdd (eC (.int 1)) (e2 dMod (e2 dFdiv (eVar 0) (eC (.int 5))) (eC (.int 9))))) (sSeq (sSet 2 (e2 dAdd (eC (.int 1)) (e2 dMod (e2 dFdiv (eVar 0) (eC (.int 45))) (e2 dIx (eLst (aCons (eC (.int 4)) (aCons (eC (.int 12)) (aCons (eC (.int 30)) (aCons (eC (.int 1000003)) aNil))))) (e2 dMod (e2 dFdiv (eVar 0) (eC (.int 540))) (eC (.int 4))))))) (sSeq (sSet 3 (eA (fun xs => b_law_divisor (xs ++ [])) (aCons (eVar 1) (aCons (eVar 2) aNil)))) (sRet (eTup (aCons (e2 dFdiv (eVar 1) (eVar 3)) (aCons (e2 dFdiv (eVar 2) (eVar 3)) aNil))))))))
noncomputable def b_law_share : List D → Out D := bodyF false 1 4 T_law_share
theorem u_law_share (d0 : D) : b_law_share [d0] = (T_law_share [some (.k, d0), none, none, none] >>= retF false) := rfl
theorem d_law_share {P : Program} {w : World} {K : PySem.W.Frag} {mg : Str → Option Value} {base : Heap} {CT : CTab} {f : Addr} {fd : FuncData} {dV : Value} (F : FunV K "_law_share" "_law_share" s_law_share f fd dV) (h_law_divisor : DefOk P w K mg base CT "_law_divisor" 1 false [] b_law_divisor) : FnOk P w K mg base CX0 2 f fd ["_law_number"] (SpD K CT false b_law_share) :=
    @fnV P w K mg base CT false "_law_share" "_law_share" s_law_share f fd dV ["_law_number", "_law_top", "_law_bottom", "_law_by"] ["_law_number"] 1 T_law_share F sc_law_share fun cdv A outer s H E G hr => 
      (dss_cons (ds_if (dt_lt (DE.db (de_mod (DE.db (de_var 0 rfl (Or.inl l_law_share__law_number))) (DE.db de_int))) (DE.db de_int)) (dss_one (ds_ret (de_tup (da_cons de_int (da_cons de_int da_nil))))) dss_nil) (dss_cons (ds_set (i := 1) sc_law_share.nd rfl (Or.inl l_law_share__law_top) (de_add (DE.db de_int) (DE.db (de_mod (DE.db (de_fdiv (DE.db (de_var 0 rfl (Or.inl l_law_share__law_number))) (DE.db de_int))) (DE.db de_int))))) (dss_cons (ds_set (i := 2) sc_law_share.nd rfl (Or.inl l_law_share__law_bottom) (de_add (DE.db de_int) (DE.db (de_mod (DE.db (de_fdiv (DE.db (de_var 0 rfl (Or.inl l_law_share__law_number))) (DE.db de_int))) (DE.db (de_ix (DF.de (df_lst (da_cons de_int (da_cons de_int (da_cons de_int (da_cons de_int da_nil)))))) (DE.db (de_mod (DE.db (de_fdiv (DE.db (de_var 0 rfl (Or.inl l_law_share__law_number))) (DE.db de_int))) (DE.db de_int))))))))) (dss_cons (ds_set (i := 3) sc_law_share.nd rfl (Or.inl l_law_share__law_by) (de_f h_law_divisor (hr.mono (by decide)) (da_cons (de_var 1 rfl (Or.inl l_law_share__law_top)) (da_cons (de_var 2 rfl (Or.inl l_law_share__law_bottom)) da_nil)) g_law_share__law_divisor)) (dss_one (ds_ret (de_tup (da_cons (de_fdiv (DE.db (de_var 1 rfl (Or.inl l_law_share__law_top))) (DE.db (de_var 3 rfl (Or.inl l_law_share__law_by)))) (da_cons (de_fdiv (DE.db (de_var 2 rfl (Or.inl l_law_share__law_bottom))) (DE.db (de_var 3 rfl (Or.inl l_law_share__law_by)))) da_nil)))))))))
abbrev s_law_tables : Stmt := top 20
theorem sc_law_tables : FnScope ["_law_cells", "_law_tables_here", "_law_at", "_law_many", "_law_table", "_law_k", "_law_row", "_law_j", "_law_place"] ["_law_cells"] (defScope s_law_tables) := ⟨rfl, rfl, rfl, by decide +kernel, rfl, by decide +kernel, by decide +kernel⟩
theorem l_law_tables__law_tables_here : (defScope s_law_tables).names.lookup ("_law_tables_here" : Str) = some NameKind.local := by decide +kernel
theorem l_law_tables__law_at : (defScope s_law_tables).names.lookup ("_law_at" : Str) = some NameKind.local := by decide +kernel
theorem l_law_tables__law_cells : (defScope s_law_tables).names.lookup ("_law_cells" : Str) = some NameKind.local := by decide +kernel
theorem g_law_tables_len : (defScope s_law_tables).names.lookup ("len" : Str) = some NameKind.globalImplicit := by decide +kernel
theorem g_law_tables__law_mixed : (defScope s_law_tables).names.lookup ("_law_mixed" : Str) = some NameKind.globalImplicit := by decide +kernel
theorem l_law_tables__law_many : (defScope s_law_tables).names.lookup ("_law_many" : Str) = some NameKind.local := by decide +kernel
theorem l_law_tables__law_table : (defScope s_law_tables).names.lookup ("_law_table" : Str) = some NameKind.local := by decide +kernel
theorem g_law_tables_range : (defScope s_law_tables).names.lookup ("range" : Str) = some NameKind.globalImplicit := by decide +kernel
theorem l_law_tables__law_k : (defScope s_law_tables).names.lookup ("_law_k" : Str) = some NameKind.local := by decide +kernel
theorem l_law_tables__law_row : (defScope s_law_tables).names.lookup ("_law_row" : Str) = some NameKind.local := by decide +kernel
theorem l_law_tables__law_j : (defScope s_law_tables).names.lookup ("_law_j" : Str) = some NameKind.local := by decide +kernel
theorem l_law_tables__law_place : (defScope s_law_tables).names.lookup ("_law_place" : Str) = some NameKind.local := by decide +kernel
theorem g_law_tables__law_share : (defScope s_law_tables).names.lookup ("_law_share" : Str) = some NameKind.globalImplicit := by decide +kernel
noncomputable def L_law_tables_0 : SD → Out Fl := (sSeq (sSet 8 (e2 dAdd (e2 dAdd (e2 dAdd (eVar 2) (eC (.int 1))) (e2 dMul (eVar 5) (eVar 3))) (eVar 7))) (sAppend 6 (eA (fun xs => b_law_share (xs ++ [])) (aCons (eA (fun xs => b_law_mixed (xs ++ [])) (aCons (e2 dIx (e2 dCat (eVar 0) (e2 dRep (eLst (aCons (eVar 2) aNil)) (eC (.int 17)))) (eVar 8)) (aCons (eVar 8) aNil))) aNil))))
noncomputable def L_law_tables_1 : SD → Out Fl := (sSeq (sSetO 6 (eLst aNil)) (sSeq (sFor (gN 7) (itR1 (eVar 3)) L_law_tables_0) (fun ς => sAppend 4 (eVar 6) (frz 6 ς))))
noncomputable def Q_law_tables_0 : SD → Out Bool := (tVal (e2 dLt (eVar 2) (eA fLen (aCons (eVar 0) aNil))))
noncomputable def L_law_tables_2 : SD → Out Fl := (sSeq (sSet 3 (e2 dAdd (eC (.int 1)) (e2 dMod (eA (fun xs => b_law_mixed (xs ++ [])) (aCons (e2 dIx (eVar 0) (eVar 2)) (aCons (eVar 2) aNil))) (eC (.int 4))))) (sSeq (sSetO 4 (eLst aNil)) (sSeq (sFor (gN 5) (itR1 (eVar 3)) L_law_tables_1) (sSeq (fun ς => sAppend 1 (eVar 4) (frz 4 ς)) (sSet 2 (e2 dAdd (e2 dAdd (eVar 2) (eC (.int 1))) (e2 dMul (eVar 3) (eVar 3))))))))
noncomputable def T_law_tables : SD → Out Fl := (sSeq (sSetO 1 (eLst aNil)) (sSeq (sSet 2 (eC (.int 0))) (sSeq (sWhileC Q_law_tables_0 L_law_tables_2) (sRetO 1))))
noncomputable def b_law_tables : List D → Out D := bodyF true 1 9 T_law_tables
theorem u_law_tables (d0 : D) : b_law_tables [d0] = (T_law_tables [some (.k, d0), none, none, none, none, none, none, none, none] >>= retF true) := rfl
theorem d_law_tables {P : Program} {w : World} {K : PySem.W.Frag} {mg : Str → Option Value} {base : Heap} {CT : CTab} {f : Addr} {fd : FuncData} {dV : Value} (F : FunV K "_law_tables" "_law_tables" s_law_tables f fd dV) (h_law_mixed : DefOk P w K mg base CT "_law_mixed" 1 false [] b_law_mixed) (h_law_share : DefOk P w K mg base CT "_law_share" 2 false [] b_law_share) (z_len : mg "len" = none) (z_range : mg "range" = none) : FnOk P w K mg base CX0 3 f fd ["_law_cells"] (SpD K CT true b_law_tables) :=
    @fnV P w K mg base CT true "_law_tables" "_law_tables" s_law_tables f fd dV ["_law_cells", "_law_tables_here", "_law_at", "_law_many", "_law_table", "_law_k", "_law_row", "_law_j", "_law_place"] ["_law_cells"] 2 T_law_tables F sc_law_tables fun cdv A outer s H E G hr => 
      (dss_cons (ds_setO (i := 1) sc_law_tables.nd rfl (Or.inl l_law_tables__law_tables_here) (df_lst da_nil)) (dss_cons (ds_set (i := 2) sc_law_tables.nd rfl (Or.inl l_law_tables__law_at) de_int) (dss_cons (ds_whileC PassesOwn.never (dt_lt (DE.db (de_var 2 rfl (Or.inl l_law_tables__law_at))) (DE.db (de_len g_law_tables_len z_len (dab_cons (DE.db (de_var 0 rfl (Or.inl l_law_tables__law_cells))) dab_nil)))) (dss_cons (ds_set (i := 3) sc_law_tables.nd rfl (Or.inl l_law_tables__law_many) (de_add (DE.db de_int) (DE.db (de_mod (DE.db (de_f h_law_mixed (hr.mono (by decide)) (da_cons (de_ix (de_var 0 rfl (Or.inl l_law_tables__law_cells)) (DE.db (de_var 2 rfl (Or.inl l_law_tables__law_at)))) (da_cons (de_var 2 rfl (Or.inl l_law_tables__law_at)) da_nil)) g_law_tables__law_mixed)) (DE.db de_int))))) (dss_cons (ds_setO (i := 4) sc_law_tables.nd rfl (Or.inl l_law_tables__law_table) (df_lst da_nil)) (dss_cons (ds_forI PassesOwn.never rfl (di_range1 g_law_tables_range z_range (DE.db (de_var 3 rfl (Or.inl l_law_tables__law_many)))) (dg_name (i := 5) sc_law_tables.nd rfl (Or.inl l_law_tables__law_k)) (noExc_gN _) (dss_cons (ds_setO (i := 6) sc_law_tables.nd rfl (Or.inl l_law_tables__law_row) (df_lst da_nil)) (dss_cons (ds_forI PassesOwn.never rfl (di_range1 g_law_tables_range z_range (DE.db (de_var 3 rfl (Or.inl l_law_tables__law_many)))) (dg_name (i := 7) sc_law_tables.nd rfl (Or.inl l_law_tables__law_j)) (noExc_gN _) (dss_cons (ds_set (i := 8) sc_law_tables.nd rfl (Or.inl l_law_tables__law_place) (de_add (DE.db (de_add (DE.db (de_add (DE.db (de_var 2 rfl (Or.inl l_law_tables__law_at))) (DE.db de_int))) (DE.db (de_mul (DE.db (de_var 5 rfl (Or.inl l_law_tables__law_k))) (DE.db (de_var 3 rfl (Or.inl l_law_tables__law_many))))))) (DE.db (de_var 7 rfl (Or.inl l_law_tables__law_j))))) (dss_one (ds_append 6 (de_f h_law_share (hr.mono (by decide)) (da_cons (de_f h_law_mixed (hr.mono (by decide)) (da_cons (de_ix (DF.de (df_cat (de_var 0 rfl (Or.inl l_law_tables__law_cells)) (DF.de (df_rep (df_lst (da_cons (de_var 2 rfl (Or.inl l_law_tables__law_at)) da_nil)) (DE.db de_int))))) (DE.db (de_var 8 rfl (Or.inl l_law_tables__law_place)))) (da_cons (de_var 8 rfl (Or.inl l_law_tables__law_place)) da_nil)) g_law_tables__law_mixed) da_nil) g_law_tables__law_share) rfl (Or.inl l_law_tables__law_row))))) (dss_one (ds_frz 6 (ds_append 4 (de_var 6 rfl (Or.inl l_law_tables__law_row)) rfl (Or.inl l_law_tables__law_table))))))) (dss_cons (ds_frz 4 (ds_append 1 (de_var 4 rfl (Or.inl l_law_tables__law_table)) rfl (Or.inl l_law_tables__law_tables_here))) (dss_one (ds_set (i := 2) sc_law_tables.nd rfl (Or.inl l_law_tables__law_at) (de_add (DE.db (de_add (DE.db (de_var 2 rfl (Or.inl l_law_tables__law_at))) (DE.db de_int))) (DE.db (de_mul (DE.db (de_var 3 rfl (Or.inl l_law_tables__law_many))) (DE.db (de_var 3 rfl (Or.inl l_law_tables__law_many))))))))))))) (dss_one (ds_retO 1 rfl (Or.inl l_law_tables__law_tables_here))))))
abbrev s_greatest_divisor : Stmt := top 5
theorem sc_greatest_divisor : FnScope ["one", "other", "rest"] ["one", "other"] (defScope s_greatest_divisor) := ⟨rfl, rfl, rfl, by decide +kernel, rfl, by decide +kernel, by decide +kernel⟩
theorem l_greatest_divisor_other : (defScope s_greatest_divisor).names.lookup ("other" : Str) = some NameKind.local := by decide +kernel
theorem l_greatest_divisor_one : (defScope s_greatest_divisor).names.lookup ("one" : Str) = some NameKind.local := by decide +kernel
theorem l_greatest_divisor_rest : (defScope s_greatest_divisor).names.lookup ("rest" : Str) = some NameKind.local := by decide +kernel
noncomputable def Q_greatest_divisor_0 : SD → Out Bool := (tVal (e2 dNe (eVar 1) (eC (.int 0))))
noncomputable def L_greatest_divisor_0 : SD → Out Fl := (sSeq (sSet 2 (e2 dMod (eVar 0) (eVar 1))) (sSeq (sSet 0 (eVar 1)) (sSet 1 (eVar 2))))
noncomputable def T_greatest_divisor : SD → Out Fl := (sSeq (sWhileC Q_greatest_divisor_0 L_greatest_divisor_0) (sRet (eVar 0)))
noncomputable def b_greatest_divisor : List D → Out D := bodyF false 2 3 T_greatest_divisor
theorem d_greatest_divisor {P : Program} {w : World} {K : PySem.W.Frag} {mg : Str → Option Value} {base : Heap} {CT : CTab} {f : Addr} {fd : FuncData} {dV : Value} (F : FunV K "greatest_divisor" "greatest_divisor" s_greatest_divisor f fd dV)  : FnOk P w K mg base CX0 1 f fd ["one", "other"] (SpD K CT false b_greatest_divisor) :=
    @fnV P w K mg base CT false "greatest_divisor" "greatest_divisor" s_greatest_divisor f fd dV ["one", "other", "rest"] ["one", "other"] 0 T_greatest_divisor F sc_greatest_divisor fun cdv A outer s H E G hr => 
      (dss_cons (ds_whileC PassesOwn.never (dt_ne hr.units (DE.db (de_var 1 rfl (Or.inl l_greatest_divisor_other))) (DE.db de_int)) (dss_cons (ds_set (i := 2) sc_greatest_divisor.nd rfl (Or.inl l_greatest_divisor_rest) (de_mod (DE.db (de_var 0 rfl (Or.inl l_greatest_divisor_one))) (DE.db (de_var 1 rfl (Or.inl l_greatest_divisor_other))))) (dss_cons (ds_set (i := 0) sc_greatest_divisor.nd rfl (Or.inl l_greatest_divisor_one) (de_var 1 rfl (Or.inl l_greatest_divisor_other))) (dss_one (ds_set (i := 1) sc_greatest_divisor.nd rfl (Or.inl l_greatest_divisor_other) (de_var 2 rfl (Or.inl l_greatest_divisor_rest))))))) (dss_one (ds_ret (de_var 0 rfl (Or.inl l_greatest_divisor_one)))))
abbrev s_common_bottom : Stmt := top 8
theorem sc_common_bottom : FnScope ["fractions", "least", "each"] ["fractions"] (defScope s_common_bottom) := ⟨rfl, rfl, rfl, by decide +kernel, rfl, by decide +kernel, by decide +kernel⟩
theorem l_common_bottom_least : (defScope s_common_bottom).names.lookup ("least" : Str) = some NameKind.local := by decide +kernel
theorem l_common_bottom_fractions : (defScope s_common_bottom).names.lookup ("fractions" : Str) = some NameKind.local := by decide +kernel
theorem l_common_bottom_each : (defScope s_common_bottom).names.lookup ("each" : Str) = some NameKind.local := by decide +kernel
theorem g_common_bottom_greatest_divisor : (defScope s_common_bottom).names.lookup ("greatest_divisor" : Str) = some NameKind.globalImplicit := by decide +kernel
noncomputable def L_common_bottom_0 : SD → Out Fl := (sSet 1 (e2 dMul (eVar 1) (e2 dFdiv (e2 dIx (eVar 2) (eC (.int 1))) (eA (fun xs => b_greatest_divisor (xs ++ [])) (aCons (eVar 1) (aCons (e2 dIx (eVar 2) (eC (.int 1))) aNil))))))
noncomputable def T_common_bottom : SD → Out Fl := (sSeq (sSet 1 (eC (.int 1))) (sSeq (sFor (gN 2) (itL (eVar 0)) L_common_bottom_0) (sRet (eVar 1))))
noncomputable def b_common_bottom : List D → Out D := bodyF false 1 3 T_common_bottom
theorem u_common_bottom (d0 : D) : b_common_bottom [d0] = (T_common_bottom [some (.k, d0), none, none] >>= retF false) := rfl
theorem d_common_bottom {P : Program} {w : World} {K : PySem.W.Frag} {mg : Str → Option Value} {base : Heap} {CT : CTab} {f : Addr} {fd : FuncData} {dV : Value} (F : FunV K "common_bottom" "common_bottom" s_common_bottom f fd dV) (h_greatest_divisor : DefOk P w K mg base CT "greatest_divisor" 1 false [] b_greatest_divisor) : FnOk P w K mg base CX0 2 f fd ["fractions"] (SpD K CT false b_common_bottom) :=
    @fnV P w K mg base CT false "common_bottom" "common_bottom" s_common_bottom f fd dV ["fractions", "least", "each"] ["fractions"] 1 T_common_bottom F sc_common_bottom fun cdv A outer s H E G hr => 
      (dss_cons (ds_set (i := 1) sc_common_bottom.nd rfl (Or.inl l_common_bottom_least) de_int) (dss_cons (ds_forI PassesOwn.never rfl (di_list (de_var 0 rfl (Or.inl l_common_bottom_fractions))) (dg_name (i := 2) sc_common_bottom.nd rfl (Or.inl l_common_bottom_each)) (noExc_gN _) (dss_one (ds_set (i := 1) sc_common_bottom.nd rfl (Or.inl l_common_bottom_least) (de_mul (DE.db (de_var 1 rfl (Or.inl l_common_bottom_least))) (DE.db (de_fdiv (DE.db (de_ix (de_var 2 rfl (Or.inl l_common_bottom_each)) (DE.db de_int))) (DE.db (de_f h_greatest_divisor (hr.mono (by decide)) (da_cons (de_var 1 rfl (Or.inl l_common_bottom_least)) (da_cons (de_ix (de_var 2 rfl (Or.inl l_common_bottom_each)) (DE.db de_int)) da_nil)) g_common_bottom_greatest_divisor)))))))) (dss_one (ds_ret (de_var 1 rfl (Or.inl l_common_bottom_least))))))
abbrev s_whole_row : Stmt := top 10
theorem sc_whole_row : FnScope ["shares", "gain", "k", "scale", "row"] ["shares", "gain", "k", "scale"] (defScope s_whole_row) := ⟨rfl, rfl, rfl, by decide +kernel, rfl, by decide +kernel, by decide +kernel⟩
theorem l_whole_row_shares : (defScope s_whole_row).names.lookup ("shares" : Str) = some NameKind.local := by decide +kernel
abbrev cs_whole_row_0 : PySem.Scope := { kind := PySem.ScopeKind.function, names := [ (PySem.Str.ofString ".0", PySem.NameKind.local), (PySem.Str.ofString "each", PySem.NameKind.local), (PySem.Str.ofString "scale", PySem.NameKind.free)], isGenerator := false, isCoroutine := false, more := [] : PySem.Scope }
theorem S_whole_row_0 : CompSc ["each", "scale"] [none, some 3] cs_whole_row_0 (defScope s_whole_row) ["shares", "gain", "k", "scale", "row"] := ⟨rfl, by decide +kernel, by decide +kernel, rfl, by decide +kernel, by decide +kernel⟩
theorem l_whole_row_c0_each : (relabelS cs_whole_row_0 (defScope s_whole_row)).names.lookup ("each" : Str) = some NameKind.local := by decide +kernel
theorem l_whole_row_c0_scale : (relabelS cs_whole_row_0 (defScope s_whole_row)).names.lookup ("scale" : Str) = some NameKind.cell := by decide +kernel
noncomputable def X_whole_row_0 : SD → Out D := (e2 dMul (e1 dNeg (e2 dIx (eVar 0) (eC (.int 0)))) (e2 dFdiv (eVar 1) (e2 dIx (eVar 0) (eC (.int 1)))))
theorem l_whole_row_row : (defScope s_whole_row).names.lookup ("row" : Str) = some NameKind.local := by decide +kernel
theorem l_whole_row_k : (defScope s_whole_row).names.lookup ("k" : Str) = some NameKind.local := by decide +kernel
theorem l_whole_row_scale : (defScope s_whole_row).names.lookup ("scale" : Str) = some NameKind.cell := by decide +kernel
theorem l_whole_row_gain : (defScope s_whole_row).names.lookup ("gain" : Str) = some NameKind.local := by decide +kernel
noncomputable def T_whole_row : SD → Out Fl := (sSeq (sSetO 4 (eComp [none, some 3] (itL (eVar 0)) (gN 0) cTrue X_whole_row_0)) (sSeq (sPutO 4 (eVar 2) (e2 dAdd (e2 dIx (eVarB 4) (eVar 2)) (eVar 3))) (sRetF (e2 dCatB (eVarB 4) (eLst (aCons (e2 dMul (e2 dIx (eVar 1) (eC (.int 0))) (e2 dFdiv (eVar 3) (e2 dIx (eVar 1) (eC (.int 1))))) aNil))))))
noncomputable def b_whole_row : List D → Out D := bodyF true 4 5 T_whole_row
theorem u_whole_row (d0 d1 d2 d3 : D) : b_whole_row [d0, d1, d2, d3] = (T_whole_row [some (.k, d0), some (.k, d1), some (.k, d2), some (.k, d3), none] >>= retF true) := rfl
theorem d_whole_row {P : Program} {w : World} {K : PySem.W.Frag} {mg : Str → Option Value} {base : Heap} {CT : CTab} {f : Addr} {fd : FuncData} {dV : Value} (F : FunV K "whole_row" "whole_row" s_whole_row f fd dV)  : FnOk P w K mg base CX0 1 f fd ["shares", "gain", "k", "scale"] (SpD K CT true b_whole_row) :=
    @fnV P w K mg base CT true "whole_row" "whole_row" s_whole_row f fd dV ["shares", "gain", "k", "scale", "row"] ["shares", "gain", "k", "scale"] 0 T_whole_row F sc_whole_row fun cdv A outer s H E G hr => 
      (dss_cons (ds_setOC (i := 4) rfl S_whole_row_0 (DI.b (di_list (de_var 0 rfl (Or.inl l_whole_row_shares)))) (fun ς => gKeep_gN (captD_none rfl ς)) (noExc_gN _) (fun fp s H G p => ⟨(dg_name (i := 0) S_whole_row_0.nd rfl (Or.inl l_whole_row_c0_each) (hf := Or.inr l_whole_row_c0_each)), dif_nil, (de_mul (DE.db (de_neg (DE.db (de_ix (de_var 0 rfl (Or.inl l_whole_row_c0_each)) (DE.db de_int))))) (DE.db (de_fdiv (DE.db (de_var 1 rfl (Or.inr (Or.inl l_whole_row_c0_scale)))) (DE.db (de_ix (de_var 0 rfl (Or.inl l_whole_row_c0_each)) (DE.db de_int))))))⟩) sc_whole_row.nd rfl (Or.inl l_whole_row_row)) (dss_cons (ds_putO 4 (DE.db (de_var 2 rfl (Or.inl l_whole_row_k))) (de_add (db_ix (db_var 4 rfl (Or.inl l_whole_row_row)) (DE.db (de_var 2 rfl (Or.inl l_whole_row_k)))) (DE.db (de_var 3 rfl (Or.inr (Or.inl l_whole_row_scale))))) rfl (Or.inl l_whole_row_row)) (dss_one (ds_retF (df_catB (db_var 4 rfl (Or.inl l_whole_row_row)) (DF.de (df_lst (da_cons (de_mul (DE.db (de_ix (de_var 1 rfl (Or.inl l_whole_row_gain)) (DE.db de_int))) (DE.db (de_fdiv (DE.db (de_var 3 rfl (Or.inr (Or.inl l_whole_row_scale)))) (DE.db (de_ix (de_var 1 rfl (Or.inl l_whole_row_gain)) (DE.db de_int)))))) da_nil))))))))
abbrev s_is_whole : Stmt := top 4
theorem sc_is_whole : FnScope ["thing"] ["thing"] (defScope s_is_whole) := ⟨rfl, rfl, rfl, by decide +kernel, rfl, by decide +kernel, by decide +kernel⟩
theorem l_is_whole_thing : (defScope s_is_whole).names.lookup ("thing" : Str) = some NameKind.local := by decide +kernel
theorem g_is_whole_int : (defScope s_is_whole).names.lookup ("int" : Str) = some NameKind.globalImplicit := by decide +kernel
theorem g_is_whole_isinstance : (defScope s_is_whole).names.lookup ("isinstance" : Str) = some NameKind.globalImplicit := by decide +kernel
theorem g_is_whole_bool : (defScope s_is_whole).names.lookup ("bool" : Str) = some NameKind.globalImplicit := by decide +kernel
noncomputable def T_is_whole : SD → Out Fl := (sRet (eAnd (eIsa (isaT "int") (eVar 0)) (eNot (eIsa (isaT "bool") (eVar 0)))))
noncomputable def b_is_whole : List D → Out D := bodyF false 1 1 T_is_whole
theorem d_is_whole {P : Program} {w : World} {K : PySem.W.Frag} {mg : Str → Option Value} {base : Heap} {CT : CTab} {f : Addr} {fd : FuncData} {dV : Value} (F : FunV K "is_whole" "is_whole" s_is_whole f fd dV) (z_isinstance : mg "isinstance" = none) (z_int : mg "int" = none) (z_bool : mg "bool" = none) : FnOk P w K mg base CX0 1 f fd ["thing"] (SpD K CT false b_is_whole) :=
    @fnV P w K mg base CT false "is_whole" "is_whole" s_is_whole f fd dV ["thing"] ["thing"] 0 T_is_whole F sc_is_whole fun cdv A outer s H E G hr => 
      (dss_one (ds_ret (de_and (de_isaB "int" kit_int g_is_whole_int z_int PyProof.Rows.Boot.«int» g_is_whole_isinstance z_isinstance (DE.db (de_var 0 rfl (Or.inl l_is_whole_thing)))) (de_one (de_not (de_isaB "bool" kit_bool g_is_whole_bool z_bool PyProof.Rows.Boot.«bool» g_is_whole_isinstance z_isinstance (DE.db (de_var 0 rfl (Or.inl l_is_whole_thing)))))))))
abbrev s_share : Stmt := top 6
theorem sc_share : FnScope ["top", "bottom", "divisor"] ["top", "bottom"] (defScope s_share) := ⟨rfl, rfl, rfl, by decide +kernel, rfl, by decide +kernel, by decide +kernel⟩
theorem l_share_top : (defScope s_share).names.lookup ("top" : Str) = some NameKind.local := by decide +kernel
theorem g_share_is_whole : (defScope s_share).names.lookup ("is_whole" : Str) = some NameKind.globalImplicit := by decide +kernel
theorem l_share_bottom : (defScope s_share).names.lookup ("bottom" : Str) = some NameKind.local := by decide +kernel
theorem g_share_abs : (defScope s_share).names.lookup ("abs" : Str) = some NameKind.globalImplicit := by decide +kernel
theorem g_share_greatest_divisor : (defScope s_share).names.lookup ("greatest_divisor" : Str) = some NameKind.globalImplicit := by decide +kernel
theorem l_share_divisor : (defScope s_share).names.lookup ("divisor" : Str) = some NameKind.local := by decide +kernel
noncomputable def T_share : SD → Out Fl := (sSeq (sIf (tOr' (tNot' (tVal (eA (fun xs => b_is_whole (xs ++ [])) (aCons (eVar 0) aNil)))) (tOr' (tNot' (tVal (eA (fun xs => b_is_whole (xs ++ [])) (aCons (eVar 1) aNil)))) (tVal (e2 dEq (eVar 1) (eC (.int 0)))))) sNever sNil) (sSeq (sSet 2 (eA (fun xs => b_greatest_divisor (xs ++ [])) (aCons (eA (f1 dAbs) (aCons (eVar 0) aNil)) (aCons (eA (f1 dAbs) (aCons (eVar 1) aNil)) aNil)))) (sSeq (sIf (tVal (e2 dLt (eVar 1) (eC (.int 0)))) (sSet 2 (e1 dNeg (eVar 2))) sNil) (sRet (eTup (aCons (e2 dFdiv (eVar 0) (eVar 2)) (aCons (e2 dFdiv (eVar 1) (eVar 2)) aNil)))))))
noncomputable def b_share : List D → Out D := bodyF false 2 3 T_share
theorem d_share {P : Program} {w : World} {K : PySem.W.Frag} {mg : Str → Option Value} {base : Heap} {CT : CTab} {f : Addr} {fd : FuncData} {dV : Value} (F : FunV K "share" "share" s_share f fd dV) (h_is_whole : DefOk P w K mg base CT "is_whole" 1 false [] b_is_whole) (h_greatest_divisor : DefOk P w K mg base CT "greatest_divisor" 1 false [] b_greatest_divisor) (z_abs : mg "abs" = none) : FnOk P w K mg base CX0 2 f fd ["top", "bottom"] (SpD K CT false b_share) :=
    @fnV P w K mg base CT false "share" "share" s_share f fd dV ["top", "bottom", "divisor"] ["top", "bottom"] 1 T_share F sc_share fun cdv A outer s H E G hr => 
      (dss_cons (ds_if (DW.dt (dw_or (dt_not (dt_val (de_f h_is_whole (hr.mono (by decide)) (da_cons (de_var 0 rfl (Or.inl l_share_top)) da_nil) g_share_is_whole))) (dw_or (dt_not (dt_val (de_f h_is_whole (hr.mono (by decide)) (da_cons (de_var 1 rfl (Or.inl l_share_bottom)) da_nil) g_share_is_whole))) (dw_or1 (dt_eq hr.units (DE.db (de_var 1 rfl (Or.inl l_share_bottom))) (DE.db de_int)))))) (dss_one ds_never) dss_nil) (dss_cons (ds_set (i := 2) sc_share.nd rfl (Or.inl l_share_divisor) (de_f h_greatest_divisor (hr.mono (by decide)) (da_cons (de_abs g_share_abs z_abs PyProof.Rows.Boot.«abs» (dab_cons (DE.db (de_var 0 rfl (Or.inl l_share_top))) dab_nil)) (da_cons (de_abs g_share_abs z_abs PyProof.Rows.Boot.«abs» (dab_cons (DE.db (de_var 1 rfl (Or.inl l_share_bottom))) dab_nil)) da_nil)) g_share_greatest_divisor)) (dss_cons (ds_if (dt_lt (DE.db (de_var 1 rfl (Or.inl l_share_bottom))) (DE.db de_int)) (dss_one (ds_set (i := 2) sc_share.nd rfl (Or.inl l_share_divisor) (de_neg (DE.db (de_var 2 rfl (Or.inl l_share_divisor)))))) dss_nil) (dss_one (ds_ret (de_tup (da_cons (de_fdiv (DE.db (de_var 0 rfl (Or.inl l_share_top))) (DE.db (de_var 2 rfl (Or.inl l_share_divisor)))) (da_cons (de_fdiv (DE.db (de_var 1 rfl (Or.inl l_share_bottom))) (DE.db (de_var 2 rfl (Or.inl l_share_divisor)))) da_nil))))))))
abbrev s_worths_in : Stmt := top 12
theorem sc_worths_in : FnScope ["rows", "last", "many", "tops", "k", "later"] ["rows", "last"] (defScope s_worths_in) := ⟨rfl, rfl, rfl, by decide +kernel, rfl, by decide +kernel, by decide +kernel⟩
theorem l_worths_in_rows : (defScope s_worths_in).names.lookup ("rows" : Str) = some NameKind.cell := by decide +kernel
theorem g_worths_in_len : (defScope s_worths_in).names.lookup ("len" : Str) = some NameKind.globalImplicit := by decide +kernel
theorem l_worths_in_many : (defScope s_worths_in).names.lookup ("many" : Str) = some NameKind.local := by decide +kernel
abbrev cs_worths_in_0 : PySem.Scope := { kind := PySem.ScopeKind.function, names := [(PySem.Str.ofString ".0", PySem.NameKind.local), (PySem.Str.ofString "row", PySem.NameKind.local)], isGenerator := false, isCoroutine := false, more := [] : PySem.Scope }
theorem S_worths_in_0 : CompSc ["row"] [none] cs_worths_in_0 (defScope s_worths_in) ["rows", "last", "many", "tops", "k", "later"] := ⟨rfl, by decide +kernel, by decide +kernel, rfl, by decide +kernel, by decide +kernel⟩
theorem l_worths_in_c0_row : (relabelS cs_worths_in_0 (defScope s_worths_in)).names.lookup ("row" : Str) = some NameKind.local := by decide +kernel
noncomputable def X_worths_in_0 : SD → Out D := (eC (.int 0))
theorem l_worths_in_tops : (defScope s_worths_in).names.lookup ("tops" : Str) = some NameKind.cell := by decide +kernel
theorem g_worths_in_range : (defScope s_worths_in).names.lookup ("range" : Str) = some NameKind.globalImplicit := by decide +kernel
theorem l_worths_in_k : (defScope s_worths_in).names.lookup ("k" : Str) = some NameKind.cell := by decide +kernel
abbrev cs_worths_in_1 : PySem.Scope := { kind := PySem.ScopeKind.function, names := [ (PySem.Str.ofString ".0", PySem.NameKind.local), (PySem.Str.ofString "d", PySem.NameKind.local), (PySem.Str.ofString "k", PySem.NameKind.free), (PySem.Str.ofString "rows", PySem.NameKind.free), (PySem.Str.ofString "tops", PySem.NameKind.free)], isGenerator := false, isCoroutine := false, more := [] : PySem.Scope }
theorem S_worths_in_1 : CompSc ["d", "rows", "k", "tops"] [none, some 0, some 4, some 3] cs_worths_in_1 (defScope s_worths_in) ["rows", "last", "many", "tops", "k", "later"] := ⟨rfl, by decide +kernel, by decide +kernel, rfl, by decide +kernel, by decide +kernel⟩
theorem l_worths_in_c1_d : (relabelS cs_worths_in_1 (defScope s_worths_in)).names.lookup ("d" : Str) = some NameKind.local := by decide +kernel
theorem l_worths_in_c1_rows : (relabelS cs_worths_in_1 (defScope s_worths_in)).names.lookup ("rows" : Str) = some NameKind.cell := by decide +kernel
theorem l_worths_in_c1_k : (relabelS cs_worths_in_1 (defScope s_worths_in)).names.lookup ("k" : Str) = some NameKind.cell := by decide +kernel
theorem l_worths_in_c1_tops : (relabelS cs_worths_in_1 (defScope s_worths_in)).names.lookup ("tops" : Str) = some NameKind.cell := by decide +kernel
noncomputable def X_worths_in_1 : SD → Out D := (e2 dMul (e2 dIx (e2 dIx (eVar 1) (eVar 2)) (eVar 0)) (e2 dIx (eVarB 3) (eVar 0)))
theorem g_worths_in_sum : (defScope s_worths_in).names.lookup ("sum" : Str) = some NameKind.globalImplicit := by decide +kernel
theorem l_worths_in_later : (defScope s_worths_in).names.lookup ("later" : Str) = some NameKind.local := by decide +kernel
theorem l_worths_in_last : (defScope s_worths_in).names.lookup ("last" : Str) = some NameKind.cell := by decide +kernel
noncomputable def L_worths_in_0 : SD → Out Fl := (sSeq (sSet 5 (eA (f1 fSum) (aCons (eComp [none, some 0, some 4, some 3] (itR2 (e2 dAdd (eVar 4) (eC (.int 1))) (eVar 2)) (gN 0) cTrue X_worths_in_1) aNil))) (sPutO 3 (eVar 4) (e2 dFdiv (e2 dSub (e2 dMul (eVar 1) (e2 dIx (e2 dIx (eVar 0) (eVar 4)) (eVar 2))) (eVar 5)) (e2 dIx (e2 dIx (eVar 0) (eVar 4)) (eVar 4)))))
abbrev cs_worths_in_2 : PySem.Scope := { kind := PySem.ScopeKind.function, names := [ (PySem.Str.ofString ".0", PySem.NameKind.local), (PySem.Str.ofString "top", PySem.NameKind.local), (PySem.Str.ofString "share", PySem.NameKind.globalImplicit), (PySem.Str.ofString "last", PySem.NameKind.free)], isGenerator := false, isCoroutine := false, more := [] : PySem.Scope }
theorem S_worths_in_2 : CompSc ["top", "last"] [none, some 1] cs_worths_in_2 (defScope s_worths_in) ["rows", "last", "many", "tops", "k", "later"] := ⟨rfl, by decide +kernel, by decide +kernel, rfl, by decide +kernel, by decide +kernel⟩
theorem l_worths_in_c2_top : (relabelS cs_worths_in_2 (defScope s_worths_in)).names.lookup ("top" : Str) = some NameKind.local := by decide +kernel
theorem l_worths_in_c2_last : (relabelS cs_worths_in_2 (defScope s_worths_in)).names.lookup ("last" : Str) = some NameKind.cell := by decide +kernel
theorem g_worths_in_c2_share : (relabelS cs_worths_in_2 (defScope s_worths_in)).names.lookup ("share" : Str) = some NameKind.globalImplicit := by decide +kernel
noncomputable def X_worths_in_2 : SD → Out D := (eA (fun xs => b_share (xs ++ [])) (aCons (eVar 0) (aCons (eVar 1) aNil)))
noncomputable def T_worths_in : SD → Out Fl := (sSeq (sSet 2 (eA fLen (aCons (eVar 0) aNil))) (sSeq (sSetO 3 (eComp [none] (itL (eVar 0)) (gN 0) cTrue X_worths_in_0)) (sSeq (sFor (gN 4) (itRD (e2 dSub (eVar 2) (eC (.int 1))) (e1 dNeg (eC (.int 1))) (e1 dNeg (eC (.int 1)))) L_worths_in_0) (sRetF (eComp [none, some 1] (itLB (eVarB 3)) (gN 0) cTrue X_worths_in_2)))))
noncomputable def b_worths_in : List D → Out D := bodyF true 2 6 T_worths_in
theorem u_worths_in (d0 d1 : D) : b_worths_in [d0, d1] = (T_worths_in [some (.k, d0), some (.k, d1), none, none, none, none] >>= retF true) := rfl
theorem d_worths_in {P : Program} {w : World} {K : PySem.W.Frag} {mg : Str → Option Value} {base : Heap} {CT : CTab} {f : Addr} {fd : FuncData} {dV : Value} (F : FunV K "worths_in" "worths_in" s_worths_in f fd dV) (h_share : DefOk P w K mg base CT "share" 2 false [] b_share) (z_len : mg "len" = none) (z_range : mg "range" = none) (z_sum : mg "sum" = none) : FnOk P w K mg base CX0 3 f fd ["rows", "last"] (SpD K CT true b_worths_in) :=
    @fnV P w K mg base CT true "worths_in" "worths_in" s_worths_in f fd dV ["rows", "last", "many", "tops", "k", "later"] ["rows", "last"] 2 T_worths_in F sc_worths_in fun cdv A outer s H E G hr => 
      (dss_cons (ds_set (i := 2) sc_worths_in.nd rfl (Or.inl l_worths_in_many) (de_len g_worths_in_len z_len (dab_cons (DE.db (de_var 0 rfl (Or.inr (Or.inl l_worths_in_rows)))) dab_nil))) (dss_cons (ds_setO (i := 3) sc_worths_in.nd rfl (Or.inr l_worths_in_tops) (df_comp rfl S_worths_in_0 (DI.b (di_list (de_var 0 rfl (Or.inr (Or.inl l_worths_in_rows))))) (fun ς => gKeep_gN (captD_none rfl ς)) (noExc_gN _) (fun fp s H G p => ⟨(dg_name (i := 0) S_worths_in_0.nd rfl (Or.inl l_worths_in_c0_row) (hf := Or.inr l_worths_in_c0_row)), dif_nil, de_int⟩))) (dss_cons (ds_forI PassesOwn.never rfl (di_rangeD g_worths_in_range z_range (DE.db (de_sub (DE.db (de_var 2 rfl (Or.inl l_worths_in_many))) (DE.db de_int))) (DE.db (de_neg (DE.db de_int))) (DE.db (de_neg (DE.db de_int)))) (dg_name (i := 4) sc_worths_in.nd rfl (Or.inr l_worths_in_k)) (noExc_gN _) (dss_cons (ds_set (i := 5) sc_worths_in.nd rfl (Or.inl l_worths_in_later) (de_sum rfl g_worths_in_sum z_sum (dab_cons (DE.db (DF.de (df_comp rfl S_worths_in_1 (DI.b (di_range2 g_worths_in_range z_range (DE.db (de_add (DE.db (de_var 4 rfl (Or.inr (Or.inl l_worths_in_k)))) (DE.db de_int))) (DE.db (de_var 2 rfl (Or.inl l_worths_in_many))))) (fun ς => gKeep_gN (captD_none rfl ς)) (noExc_gN _) (fun fp s H G p => ⟨(dg_name (i := 0) S_worths_in_1.nd rfl (Or.inl l_worths_in_c1_d) (hf := Or.inr l_worths_in_c1_d)), dif_nil, (de_mul (DE.db (de_ix (de_ix (de_var 1 rfl (Or.inr (Or.inl l_worths_in_c1_rows))) (DE.db (de_var 2 rfl (Or.inr (Or.inl l_worths_in_c1_k))))) (DE.db (de_var 0 rfl (Or.inl l_worths_in_c1_d))))) (db_ix (db_var 3 rfl (Or.inr (Or.inl l_worths_in_c1_tops))) (DE.db (de_var 0 rfl (Or.inl l_worths_in_c1_d)))))⟩)))) dab_nil))) (dss_one (ds_putO 3 (DE.db (de_var 4 rfl (Or.inr (Or.inl l_worths_in_k)))) (de_fdiv (DE.db (de_sub (DE.db (de_mul (DE.db (de_var 1 rfl (Or.inr (Or.inl l_worths_in_last)))) (DE.db (de_ix (de_ix (de_var 0 rfl (Or.inr (Or.inl l_worths_in_rows))) (DE.db (de_var 4 rfl (Or.inr (Or.inl l_worths_in_k))))) (DE.db (de_var 2 rfl (Or.inl l_worths_in_many))))))) (DE.db (de_var 5 rfl (Or.inl l_worths_in_later))))) (DE.db (de_ix (de_ix (de_var 0 rfl (Or.inr (Or.inl l_worths_in_rows))) (DE.db (de_var 4 rfl (Or.inr (Or.inl l_worths_in_k))))) (DE.db (de_var 4 rfl (Or.inr (Or.inl l_worths_in_k))))))) rfl (Or.inr (Or.inl l_worths_in_tops)))))) (dss_one (ds_retF (df_comp rfl S_worths_in_2 (dib_list (db_var 3 rfl (Or.inr (Or.inl l_worths_in_tops)))) (fun ς => gKeep_gN (captD_none rfl ς)) (noExc_gN _) (fun fp s H G p => ⟨(dg_name (i := 0) S_worths_in_2.nd rfl (Or.inl l_worths_in_c2_top) (hf := Or.inr l_worths_in_c2_top)), dif_nil, (de_f h_share (hr.mono (by decide)) (da_cons (de_var 0 rfl (Or.inl l_worths_in_c2_top)) (da_cons (de_var 1 rfl (Or.inr (Or.inl l_worths_in_c2_last))) da_nil)) g_worths_in_c2_share)⟩)))))))
abbrev s_least_whole : Stmt := top 9
theorem sc_least_whole : FnScope ["fractions", "bottom", "tops", "divisor", "top"] ["fractions"] (defScope s_least_whole) := ⟨rfl, rfl, rfl, by decide +kernel, rfl, by decide +kernel, by decide +kernel⟩
theorem l_least_whole_fractions : (defScope s_least_whole).names.lookup ("fractions" : Str) = some NameKind.local := by decide +kernel
theorem g_least_whole_common_bottom : (defScope s_least_whole).names.lookup ("common_bottom" : Str) = some NameKind.globalImplicit := by decide +kernel
theorem l_least_whole_bottom : (defScope s_least_whole).names.lookup ("bottom" : Str) = some NameKind.cell := by decide +kernel
abbrev cs_least_whole_0 : PySem.Scope := { kind := PySem.ScopeKind.function, names := [ (PySem.Str.ofString ".0", PySem.NameKind.local), (PySem.Str.ofString "each", PySem.NameKind.local), (PySem.Str.ofString "bottom", PySem.NameKind.free)], isGenerator := false, isCoroutine := false, more := [] : PySem.Scope }
theorem S_least_whole_0 : CompSc ["each", "bottom"] [none, some 1] cs_least_whole_0 (defScope s_least_whole) ["fractions", "bottom", "tops", "divisor", "top"] := ⟨rfl, by decide +kernel, by decide +kernel, rfl, by decide +kernel, by decide +kernel⟩
theorem l_least_whole_c0_each : (relabelS cs_least_whole_0 (defScope s_least_whole)).names.lookup ("each" : Str) = some NameKind.local := by decide +kernel
theorem l_least_whole_c0_bottom : (relabelS cs_least_whole_0 (defScope s_least_whole)).names.lookup ("bottom" : Str) = some NameKind.cell := by decide +kernel
noncomputable def X_least_whole_0 : SD → Out D := (e2 dMul (e2 dIx (eVar 0) (eC (.int 0))) (e2 dFdiv (eVar 1) (e2 dIx (eVar 0) (eC (.int 1)))))
theorem l_least_whole_tops : (defScope s_least_whole).names.lookup ("tops" : Str) = some NameKind.local := by decide +kernel
theorem l_least_whole_divisor : (defScope s_least_whole).names.lookup ("divisor" : Str) = some NameKind.cell := by decide +kernel
theorem l_least_whole_top : (defScope s_least_whole).names.lookup ("top" : Str) = some NameKind.local := by decide +kernel
theorem g_least_whole_greatest_divisor : (defScope s_least_whole).names.lookup ("greatest_divisor" : Str) = some NameKind.globalImplicit := by decide +kernel
noncomputable def L_least_whole_0 : SD → Out Fl := (sSet 3 (eA (fun xs => b_greatest_divisor (xs ++ [])) (aCons (eVar 3) (aCons (eVar 4) aNil))))
abbrev cs_least_whole_1 : PySem.Scope := { kind := PySem.ScopeKind.function, names := [ (PySem.Str.ofString ".0", PySem.NameKind.local), (PySem.Str.ofString "top", PySem.NameKind.local), (PySem.Str.ofString "divisor", PySem.NameKind.free)], isGenerator := false, isCoroutine := false, more := [] : PySem.Scope }
theorem S_least_whole_1 : CompSc ["top", "divisor"] [none, some 3] cs_least_whole_1 (defScope s_least_whole) ["fractions", "bottom", "tops", "divisor", "top"] := ⟨rfl, by decide +kernel, by decide +kernel, rfl, by decide +kernel, by decide +kernel⟩
theorem l_least_whole_c1_top : (relabelS cs_least_whole_1 (defScope s_least_whole)).names.lookup ("top" : Str) = some NameKind.local := by decide +kernel
theorem l_least_whole_c1_divisor : (relabelS cs_least_whole_1 (defScope s_least_whole)).names.lookup ("divisor" : Str) = some NameKind.cell := by decide +kernel
noncomputable def X_least_whole_1 : SD → Out D := (e2 dFdiv (eVar 0) (eVar 1))
noncomputable def T_least_whole : SD → Out Fl := (sSeq (sSet 1 (eA (fun xs => b_common_bottom (xs ++ [])) (aCons (eVar 0) aNil))) (sSeq (sSet 2 (eComp [none, some 1] (itL (eVar 0)) (gN 0) cTrue X_least_whole_0)) (sSeq (sSet 3 (eC (.int 0))) (sSeq (sFor (gN 4) (itL (eVar 2)) L_least_whole_0) (sRetF (eComp [none, some 3] (itL (eVar 2)) (gN 0) cTrue X_least_whole_1))))))
noncomputable def b_least_whole : List D → Out D := bodyF true 1 5 T_least_whole
theorem u_least_whole (d0 : D) : b_least_whole [d0] = (T_least_whole [some (.k, d0), none, none, none, none] >>= retF true) := rfl
theorem d_least_whole {P : Program} {w : World} {K : PySem.W.Frag} {mg : Str → Option Value} {base : Heap} {CT : CTab} {f : Addr} {fd : FuncData} {dV : Value} (F : FunV K "least_whole" "least_whole" s_least_whole f fd dV) (h_common_bottom : DefOk P w K mg base CT "common_bottom" 2 false [] b_common_bottom) (h_greatest_divisor : DefOk P w K mg base CT "greatest_divisor" 1 false [] b_greatest_divisor) : FnOk P w K mg base CX0 3 f fd ["fractions"] (SpD K CT true b_least_whole) :=
    @fnV P w K mg base CT true "least_whole" "least_whole" s_least_whole f fd dV ["fractions", "bottom", "tops", "divisor", "top"] ["fractions"] 2 T_least_whole F sc_least_whole fun cdv A outer s H E G hr => 
      (dss_cons (ds_set (i := 1) sc_least_whole.nd rfl (Or.inr l_least_whole_bottom) (de_f h_common_bottom (hr.mono (by decide)) (da_cons (de_var 0 rfl (Or.inl l_least_whole_fractions)) da_nil) g_least_whole_common_bottom)) (dss_cons (ds_setC (i := 2) rfl S_least_whole_0 (DI.b (di_list (de_var 0 rfl (Or.inl l_least_whole_fractions)))) (fun ς => gKeep_gN (captD_none rfl ς)) (noExc_gN _) (fun fp s H G p => ⟨(dg_name (i := 0) S_least_whole_0.nd rfl (Or.inl l_least_whole_c0_each) (hf := Or.inr l_least_whole_c0_each)), dif_nil, (de_mul (DE.db (de_ix (de_var 0 rfl (Or.inl l_least_whole_c0_each)) (DE.db de_int))) (DE.db (de_fdiv (DE.db (de_var 1 rfl (Or.inr (Or.inl l_least_whole_c0_bottom)))) (DE.db (de_ix (de_var 0 rfl (Or.inl l_least_whole_c0_each)) (DE.db de_int))))))⟩) sc_least_whole.nd rfl (Or.inl l_least_whole_tops)) (dss_cons (ds_set (i := 3) sc_least_whole.nd rfl (Or.inr l_least_whole_divisor) de_int) (dss_cons (ds_forI PassesOwn.never rfl (di_list (de_var 2 rfl (Or.inl l_least_whole_tops))) (dg_name (i := 4) sc_least_whole.nd rfl (Or.inl l_least_whole_top)) (noExc_gN _) (dss_one (ds_set (i := 3) sc_least_whole.nd rfl (Or.inr l_least_whole_divisor) (de_f h_greatest_divisor (hr.mono (by decide)) (da_cons (de_var 3 rfl (Or.inr (Or.inl l_least_whole_divisor))) (da_cons (de_var 4 rfl (Or.inl l_least_whole_top)) da_nil)) g_least_whole_greatest_divisor)))) (dss_one (ds_retF (df_comp rfl S_least_whole_1 (DI.b (di_list (de_var 2 rfl (Or.inl l_least_whole_tops)))) (fun ς => gKeep_gN (captD_none rfl ς)) (noExc_gN _) (fun fp s H G p => ⟨(dg_name (i := 0) S_least_whole_1.nd rfl (Or.inl l_least_whole_c1_top) (hf := Or.inr l_least_whole_c1_top)), dif_nil, (de_fdiv (DE.db (de_var 0 rfl (Or.inl l_least_whole_c1_top))) (DE.db (de_var 1 rfl (Or.inr (Or.inl l_least_whole_c1_divisor)))))⟩))))))))
abbrev s_flow_in : Stmt := top 13
theorem sc_flow_in : FnScope ["rows", "scales", "k", "last", "counts", "e", "later", "flow"] ["rows", "scales", "k", "last"] (defScope s_flow_in) := ⟨rfl, rfl, rfl, by decide +kernel, rfl, by decide +kernel, by decide +kernel⟩
theorem l_flow_in_rows : (defScope s_flow_in).names.lookup ("rows" : Str) = some NameKind.cell := by decide +kernel
abbrev cs_flow_in_0 : PySem.Scope := { kind := PySem.ScopeKind.function, names := [(PySem.Str.ofString ".0", PySem.NameKind.local), (PySem.Str.ofString "row", PySem.NameKind.local)], isGenerator := false, isCoroutine := false, more := [] : PySem.Scope }
theorem S_flow_in_0 : CompSc ["row"] [none] cs_flow_in_0 (defScope s_flow_in) ["rows", "scales", "k", "last", "counts", "e", "later", "flow"] := ⟨rfl, by decide +kernel, by decide +kernel, rfl, by decide +kernel, by decide +kernel⟩
theorem l_flow_in_c0_row : (relabelS cs_flow_in_0 (defScope s_flow_in)).names.lookup ("row" : Str) = some NameKind.local := by decide +kernel
noncomputable def X_flow_in_0 : SD → Out D := (eC (.int 0))
theorem l_flow_in_counts : (defScope s_flow_in).names.lookup ("counts" : Str) = some NameKind.cell := by decide +kernel
theorem l_flow_in_k : (defScope s_flow_in).names.lookup ("k" : Str) = some NameKind.local := by decide +kernel
theorem l_flow_in_last : (defScope s_flow_in).names.lookup ("last" : Str) = some NameKind.local := by decide +kernel
theorem g_flow_in_range : (defScope s_flow_in).names.lookup ("range" : Str) = some NameKind.globalImplicit := by decide +kernel
theorem l_flow_in_e : (defScope s_flow_in).names.lookup ("e" : Str) = some NameKind.cell := by decide +kernel
abbrev cs_flow_in_1 : PySem.Scope := { kind := PySem.ScopeKind.function, names := [ (PySem.Str.ofString ".0", PySem.NameKind.local), (PySem.Str.ofString "c", PySem.NameKind.local), (PySem.Str.ofString "counts", PySem.NameKind.free), (PySem.Str.ofString "e", PySem.NameKind.free), (PySem.Str.ofString "rows", PySem.NameKind.free)], isGenerator := false, isCoroutine := false, more := [] : PySem.Scope }
theorem S_flow_in_1 : CompSc ["c", "counts", "rows", "e"] [none, some 4, some 0, some 5] cs_flow_in_1 (defScope s_flow_in) ["rows", "scales", "k", "last", "counts", "e", "later", "flow"] := ⟨rfl, by decide +kernel, by decide +kernel, rfl, by decide +kernel, by decide +kernel⟩
theorem l_flow_in_c1_c : (relabelS cs_flow_in_1 (defScope s_flow_in)).names.lookup ("c" : Str) = some NameKind.local := by decide +kernel
theorem l_flow_in_c1_counts : (relabelS cs_flow_in_1 (defScope s_flow_in)).names.lookup ("counts" : Str) = some NameKind.cell := by decide +kernel
theorem l_flow_in_c1_rows : (relabelS cs_flow_in_1 (defScope s_flow_in)).names.lookup ("rows" : Str) = some NameKind.cell := by decide +kernel
theorem l_flow_in_c1_e : (relabelS cs_flow_in_1 (defScope s_flow_in)).names.lookup ("e" : Str) = some NameKind.cell := by decide +kernel
noncomputable def X_flow_in_1 : SD → Out D := (e2 dMul (e2 dIx (eVarB 1) (eVar 0)) (e2 dIx (e2 dIx (eVar 2) (eVar 0)) (eVar 3)))
theorem g_flow_in_sum : (defScope s_flow_in).names.lookup ("sum" : Str) = some NameKind.globalImplicit := by decide +kernel
theorem l_flow_in_later : (defScope s_flow_in).names.lookup ("later" : Str) = some NameKind.local := by decide +kernel
noncomputable def L_flow_in_0 : SD → Out Fl := (sSeq (sSet 6 (eA (f1 fSum) (aCons (eComp [none, some 4, some 0, some 5] (itR2 (e2 dAdd (eVar 5) (eC (.int 1))) (e2 dAdd (eVar 2) (eC (.int 1)))) (gN 0) cTrue X_flow_in_1) aNil))) (sPutO 4 (eVar 5) (e2 dFdiv (e1 dNeg (eVar 6)) (e2 dIx (e2 dIx (eVar 0) (eVar 5)) (eVar 5)))))
theorem l_flow_in_scales : (defScope s_flow_in).names.lookup ("scales" : Str) = some NameKind.local := by decide +kernel
theorem g_flow_in_zip : (defScope s_flow_in).names.lookup ("zip" : Str) = some NameKind.globalImplicit := by decide +kernel
abbrev cs_flow_in_2 : PySem.Scope := { kind := PySem.ScopeKind.function, names := [ (PySem.Str.ofString ".0", PySem.NameKind.local), (PySem.Str.ofString "count", PySem.NameKind.local), (PySem.Str.ofString "scale", PySem.NameKind.local), (PySem.Str.ofString "share", PySem.NameKind.globalImplicit)], isGenerator := false, isCoroutine := false, more := [] : PySem.Scope }
theorem S_flow_in_2 : CompSc ["count", "scale"] [none, none] cs_flow_in_2 (defScope s_flow_in) ["rows", "scales", "k", "last", "counts", "e", "later", "flow"] := ⟨rfl, by decide +kernel, by decide +kernel, rfl, by decide +kernel, by decide +kernel⟩
theorem l_flow_in_c2_scale : (relabelS cs_flow_in_2 (defScope s_flow_in)).names.lookup ("scale" : Str) = some NameKind.local := by decide +kernel
theorem l_flow_in_c2_count : (relabelS cs_flow_in_2 (defScope s_flow_in)).names.lookup ("count" : Str) = some NameKind.local := by decide +kernel
theorem g_flow_in_c2_share : (relabelS cs_flow_in_2 (defScope s_flow_in)).names.lookup ("share" : Str) = some NameKind.globalImplicit := by decide +kernel
noncomputable def X_flow_in_2 : SD → Out D := (eA (fun xs => b_share (xs ++ [(.int 1)])) (aCons (e2 dMul (eVar 0) (eVar 1)) aNil))
theorem l_flow_in_flow : (defScope s_flow_in).names.lookup ("flow" : Str) = some NameKind.local := by decide +kernel
theorem g_flow_in_least_whole : (defScope s_flow_in).names.lookup ("least_whole" : Str) = some NameKind.globalImplicit := by decide +kernel
abbrev cs_flow_in_3 : PySem.Scope := { kind := PySem.ScopeKind.function, names := [ (PySem.Str.ofString ".0", PySem.NameKind.local), (PySem.Str.ofString "each", PySem.NameKind.local), (PySem.Str.ofString "share", PySem.NameKind.globalImplicit)], isGenerator := false, isCoroutine := false, more := [] : PySem.Scope }
theorem S_flow_in_3 : CompSc ["each"] [none] cs_flow_in_3 (defScope s_flow_in) ["rows", "scales", "k", "last", "counts", "e", "later", "flow"] := ⟨rfl, by decide +kernel, by decide +kernel, rfl, by decide +kernel, by decide +kernel⟩
theorem l_flow_in_c3_each : (relabelS cs_flow_in_3 (defScope s_flow_in)).names.lookup ("each" : Str) = some NameKind.local := by decide +kernel
theorem g_flow_in_c3_share : (relabelS cs_flow_in_3 (defScope s_flow_in)).names.lookup ("share" : Str) = some NameKind.globalImplicit := by decide +kernel
noncomputable def X_flow_in_3 : SD → Out D := (eA (fun xs => b_share (xs ++ [(.int 1)])) (aCons (eVar 0) aNil))
noncomputable def T_flow_in : SD → Out Fl := (sSeq (sSetO 4 (eComp [none] (itL (eVar 0)) (gN 0) cTrue X_flow_in_0)) (sSeq (sPutO 4 (eVar 2) (eVar 3)) (sSeq (sFor (gN 5) (itRD (e2 dSub (eVar 2) (eC (.int 1))) (e1 dNeg (eC (.int 1))) (e1 dNeg (eC (.int 1)))) L_flow_in_0) (sSeq (sSet 7 (eComp [none, none] (itZB (eVarB 4) (eVar 1)) (gT [0, 1]) cTrue X_flow_in_2)) (sRetF (eComp [none] (itL (eA (fun xs => b_least_whole (xs ++ [])) (aCons (eVar 7) aNil))) (gN 0) cTrue X_flow_in_3))))))
noncomputable def b_flow_in : List D → Out D := bodyF true 4 8 T_flow_in
theorem u_flow_in (d0 d1 d2 d3 : D) : b_flow_in [d0, d1, d2, d3] = (T_flow_in [some (.k, d0), some (.k, d1), some (.k, d2), some (.k, d3), none, none, none, none] >>= retF true) := rfl
theorem d_flow_in {P : Program} {w : World} {K : PySem.W.Frag} {mg : Str → Option Value} {base : Heap} {CT : CTab} {f : Addr} {fd : FuncData} {dV : Value} (F : FunV K "flow_in" "flow_in" s_flow_in f fd dV) (h_share_1 : DefOk P w K mg base CT "share" 2 false [(.int 1)] b_share) (h_least_whole : DefOk P w K mg base CT "least_whole" 3 true [] b_least_whole) (z_range : mg "range" = none) (z_sum : mg "sum" = none) (z_zip : mg "zip" = none) : FnOk P w K mg base CX0 4 f fd ["rows", "scales", "k", "last"] (SpD K CT true b_flow_in) :=
    @fnV P w K mg base CT true "flow_in" "flow_in" s_flow_in f fd dV ["rows", "scales", "k", "last", "counts", "e", "later", "flow"] ["rows", "scales", "k", "last"] 3 T_flow_in F sc_flow_in fun cdv A outer s H E G hr => 
      (dss_cons (ds_setO (i := 4) sc_flow_in.nd rfl (Or.inr l_flow_in_counts) (df_comp rfl S_flow_in_0 (DI.b (di_list (de_var 0 rfl (Or.inr (Or.inl l_flow_in_rows))))) (fun ς => gKeep_gN (captD_none rfl ς)) (noExc_gN _) (fun fp s H G p => ⟨(dg_name (i := 0) S_flow_in_0.nd rfl (Or.inl l_flow_in_c0_row) (hf := Or.inr l_flow_in_c0_row)), dif_nil, de_int⟩))) (dss_cons (ds_putO 4 (DE.db (de_var 2 rfl (Or.inl l_flow_in_k))) (de_var 3 rfl (Or.inl l_flow_in_last)) rfl (Or.inr (Or.inl l_flow_in_counts))) (dss_cons (ds_forI PassesOwn.never rfl (di_rangeD g_flow_in_range z_range (DE.db (de_sub (DE.db (de_var 2 rfl (Or.inl l_flow_in_k))) (DE.db de_int))) (DE.db (de_neg (DE.db de_int))) (DE.db (de_neg (DE.db de_int)))) (dg_name (i := 5) sc_flow_in.nd rfl (Or.inr l_flow_in_e)) (noExc_gN _) (dss_cons (ds_set (i := 6) sc_flow_in.nd rfl (Or.inl l_flow_in_later) (de_sum rfl g_flow_in_sum z_sum (dab_cons (DE.db (DF.de (df_comp rfl S_flow_in_1 (DI.b (di_range2 g_flow_in_range z_range (DE.db (de_add (DE.db (de_var 5 rfl (Or.inr (Or.inl l_flow_in_e)))) (DE.db de_int))) (DE.db (de_add (DE.db (de_var 2 rfl (Or.inl l_flow_in_k))) (DE.db de_int))))) (fun ς => gKeep_gN (captD_none rfl ς)) (noExc_gN _) (fun fp s H G p => ⟨(dg_name (i := 0) S_flow_in_1.nd rfl (Or.inl l_flow_in_c1_c) (hf := Or.inr l_flow_in_c1_c)), dif_nil, (de_mul (db_ix (db_var 1 rfl (Or.inr (Or.inl l_flow_in_c1_counts))) (DE.db (de_var 0 rfl (Or.inl l_flow_in_c1_c)))) (DE.db (de_ix (de_ix (de_var 2 rfl (Or.inr (Or.inl l_flow_in_c1_rows))) (DE.db (de_var 0 rfl (Or.inl l_flow_in_c1_c)))) (DE.db (de_var 3 rfl (Or.inr (Or.inl l_flow_in_c1_e)))))))⟩)))) dab_nil))) (dss_one (ds_putO 4 (DE.db (de_var 5 rfl (Or.inr (Or.inl l_flow_in_e)))) (de_fdiv (DE.db (de_neg (DE.db (de_var 6 rfl (Or.inl l_flow_in_later))))) (DE.db (de_ix (de_ix (de_var 0 rfl (Or.inr (Or.inl l_flow_in_rows))) (DE.db (de_var 5 rfl (Or.inr (Or.inl l_flow_in_e))))) (DE.db (de_var 5 rfl (Or.inr (Or.inl l_flow_in_e))))))) rfl (Or.inr (Or.inl l_flow_in_counts)))))) (dss_cons (ds_setC (i := 7) rfl S_flow_in_2 (dib_zip g_flow_in_zip z_zip (db_var 4 rfl (Or.inr (Or.inl l_flow_in_counts))) (DE.db (de_var 1 rfl (Or.inl l_flow_in_scales)))) (fun ς => gKeep_gT (fun i hi => captD_none (by revert hi; revert i; decide) ς)) (noExc_gT _) (fun fp s H G p => ⟨(dg_tup rfl (dgs_cons (i := 0) S_flow_in_2.nd rfl (Or.inl l_flow_in_c2_count) (dgs_cons (i := 1) S_flow_in_2.nd rfl (Or.inl l_flow_in_c2_scale) dgs_nil (hf := Or.inr l_flow_in_c2_scale)) (hf := Or.inr l_flow_in_c2_count))), dif_nil, (de_f h_share_1 (hr.mono (by decide)) (da_cons (de_mul (DE.db (de_var 0 rfl (Or.inl l_flow_in_c2_count))) (DE.db (de_var 1 rfl (Or.inl l_flow_in_c2_scale)))) da_nil) g_flow_in_c2_share)⟩) sc_flow_in.nd rfl (Or.inl l_flow_in_flow)) (dss_one (ds_retF (df_comp rfl S_flow_in_3 (DI.b (di_list (de_f h_least_whole (hr.mono (by decide)) (da_cons (de_var 7 rfl (Or.inl l_flow_in_flow)) da_nil) g_flow_in_least_whole))) (fun ς => gKeep_gN (captD_none rfl ς)) (noExc_gN _) (fun fp s H G p => ⟨(dg_name (i := 0) S_flow_in_3.nd rfl (Or.inl l_flow_in_c3_each) (hf := Or.inr l_flow_in_c3_each)), dif_nil, (de_f h_share_1 (hr.mono (by decide)) (da_cons (de_var 0 rfl (Or.inl l_flow_in_c3_each)) da_nil) g_flow_in_c3_share)⟩))))))))
abbrev s_without : Stmt := top 11
theorem sc_without : FnScope ["row", "leaver", "k", "last", "own", "to_leaver", "later"] ["row", "leaver", "k", "last"] (defScope s_without) := ⟨rfl, rfl, rfl, by decide +kernel, rfl, by decide +kernel, by decide +kernel⟩
theorem l_without_leaver : (defScope s_without).names.lookup ("leaver" : Str) = some NameKind.local := by decide +kernel
theorem l_without_k : (defScope s_without).names.lookup ("k" : Str) = some NameKind.local := by decide +kernel
theorem l_without_own : (defScope s_without).names.lookup ("own" : Str) = some NameKind.cell := by decide +kernel
theorem l_without_row : (defScope s_without).names.lookup ("row" : Str) = some NameKind.local := by decide +kernel
theorem l_without_to_leaver : (defScope s_without).names.lookup ("to_leaver" : Str) = some NameKind.cell := by decide +kernel
theorem g_without_zip : (defScope s_without).names.lookup ("zip" : Str) = some NameKind.globalImplicit := by decide +kernel
abbrev cs_without_0 : PySem.Scope := { kind := PySem.ScopeKind.function, names := [ (PySem.Str.ofString ".0", PySem.NameKind.local), (PySem.Str.ofString "each", PySem.NameKind.local), (PySem.Str.ofString "other", PySem.NameKind.local), (PySem.Str.ofString "last", PySem.NameKind.free), (PySem.Str.ofString "own", PySem.NameKind.free), (PySem.Str.ofString "to_leaver", PySem.NameKind.free)], isGenerator := false, isCoroutine := false, more := [] : PySem.Scope }
theorem S_without_0 : CompSc ["each", "other", "own", "to_leaver", "last"] [none, none, some 4, some 5, some 3] cs_without_0 (defScope s_without) ["row", "leaver", "k", "last", "own", "to_leaver", "later"] := ⟨rfl, by decide +kernel, by decide +kernel, rfl, by decide +kernel, by decide +kernel⟩
theorem l_without_c0_other : (relabelS cs_without_0 (defScope s_without)).names.lookup ("other" : Str) = some NameKind.local := by decide +kernel
theorem l_without_c0_each : (relabelS cs_without_0 (defScope s_without)).names.lookup ("each" : Str) = some NameKind.local := by decide +kernel
theorem l_without_c0_own : (relabelS cs_without_0 (defScope s_without)).names.lookup ("own" : Str) = some NameKind.cell := by decide +kernel
theorem l_without_c0_to_leaver : (relabelS cs_without_0 (defScope s_without)).names.lookup ("to_leaver" : Str) = some NameKind.cell := by decide +kernel
theorem l_without_c0_last : (relabelS cs_without_0 (defScope s_without)).names.lookup ("last" : Str) = some NameKind.cell := by decide +kernel
noncomputable def X_without_0 : SD → Out D := (e2 dFdiv (e2 dSub (e2 dMul (eVar 2) (eVar 0)) (e2 dMul (eVar 3) (eVar 1))) (eVar 4))
theorem l_without_later : (defScope s_without).names.lookup ("later" : Str) = some NameKind.local := by decide +kernel
noncomputable def T_without : SD → Out Fl := (sSeq (sSet 4 (e2 dIx (eVar 1) (eVar 2))) (sSeq (sSet 5 (e2 dIx (eVar 0) (eVar 2))) (sSeq (sSet 6 (eComp [none, none, some 4, some 5, some 3] (itZ (eSl (eVar 0) (oSome (e2 dAdd (eVar 2) (eC (.int 1)))) oNo) (eSl (eVar 1) (oSome (e2 dAdd (eVar 2) (eC (.int 1)))) oNo)) (gT [0, 1]) cTrue X_without_0)) (sRet (e2 dCat (eSl (eVar 0) oNo (oSome (e2 dAdd (eVar 2) (eC (.int 1))))) (eVar 6))))))
noncomputable def b_without : List D → Out D := bodyF false 4 7 T_without
theorem u_without (d0 d1 d2 d3 : D) : b_without [d0, d1, d2, d3] = (T_without [some (.k, d0), some (.k, d1), some (.k, d2), some (.k, d3), none, none, none] >>= retF false) := rfl
theorem d_without {P : Program} {w : World} {K : PySem.W.Frag} {mg : Str → Option Value} {base : Heap} {CT : CTab} {f : Addr} {fd : FuncData} {dV : Value} (F : FunV K "without" "without" s_without f fd dV) (z_zip : mg "zip" = none) : FnOk P w K mg base CX0 1 f fd ["row", "leaver", "k", "last"] (SpD K CT false b_without) :=
    @fnV P w K mg base CT false "without" "without" s_without f fd dV ["row", "leaver", "k", "last", "own", "to_leaver", "later"] ["row", "leaver", "k", "last"] 0 T_without F sc_without fun cdv A outer s H E G hr => 
      (dss_cons (ds_set (i := 4) sc_without.nd rfl (Or.inr l_without_own) (de_ix (de_var 1 rfl (Or.inl l_without_leaver)) (DE.db (de_var 2 rfl (Or.inl l_without_k))))) (dss_cons (ds_set (i := 5) sc_without.nd rfl (Or.inr l_without_to_leaver) (de_ix (de_var 0 rfl (Or.inl l_without_row)) (DE.db (de_var 2 rfl (Or.inl l_without_k))))) (dss_cons (ds_setC (i := 6) rfl S_without_0 (DI.b (di_zip g_without_zip z_zip (DF.de (df_sl (de_var 0 rfl (Or.inl l_without_row)) (do_some (DE.db (de_add (DE.db (de_var 2 rfl (Or.inl l_without_k))) (DE.db de_int)))) do_none)) (DF.de (df_sl (de_var 1 rfl (Or.inl l_without_leaver)) (do_some (DE.db (de_add (DE.db (de_var 2 rfl (Or.inl l_without_k))) (DE.db de_int)))) do_none)))) (fun ς => gKeep_gT (fun i hi => captD_none (by revert hi; revert i; decide) ς)) (noExc_gT _) (fun fp s H G p => ⟨(dg_tup rfl (dgs_cons (i := 0) S_without_0.nd rfl (Or.inl l_without_c0_each) (dgs_cons (i := 1) S_without_0.nd rfl (Or.inl l_without_c0_other) dgs_nil (hf := Or.inr l_without_c0_other)) (hf := Or.inr l_without_c0_each))), dif_nil, (de_fdiv (DE.db (de_sub (DE.db (de_mul (DE.db (de_var 2 rfl (Or.inr (Or.inl l_without_c0_own)))) (DE.db (de_var 0 rfl (Or.inl l_without_c0_each))))) (DE.db (de_mul (DE.db (de_var 3 rfl (Or.inr (Or.inl l_without_c0_to_leaver)))) (DE.db (de_var 1 rfl (Or.inl l_without_c0_other))))))) (DE.db (de_var 4 rfl (Or.inr (Or.inl l_without_c0_last)))))⟩) sc_without.nd rfl (Or.inl l_without_later)) (dss_one (ds_ret (DF.de (df_cat (DF.de (df_sl (de_var 0 rfl (Or.inl l_without_row)) do_none (do_some (DE.db (de_add (DE.db (de_var 2 rfl (Or.inl l_without_k))) (DE.db de_int)))))) (de_var 6 rfl (Or.inl l_without_later)))))))))
abbrev s_balanced : Stmt := top 14
theorem sc_balanced : FnScope ["table", "gains", "scales", "rows", "last", "k", "ahead"] ["table", "gains"] (defScope s_balanced) := ⟨rfl, rfl, rfl, by decide +kernel, rfl, by decide +kernel, by decide +kernel⟩
theorem l_balanced_table : (defScope s_balanced).names.lookup ("table" : Str) = some NameKind.cell := by decide +kernel
theorem l_balanced_gains : (defScope s_balanced).names.lookup ("gains" : Str) = some NameKind.cell := by decide +kernel
theorem g_balanced_zip : (defScope s_balanced).names.lookup ("zip" : Str) = some NameKind.globalImplicit := by decide +kernel
abbrev cs_balanced_0 : PySem.Scope := { kind := PySem.ScopeKind.function, names := [ (PySem.Str.ofString ".0", PySem.NameKind.local), (PySem.Str.ofString "shares", PySem.NameKind.local), (PySem.Str.ofString "gain", PySem.NameKind.local), (PySem.Str.ofString "common_bottom", PySem.NameKind.globalImplicit)], isGenerator := false, isCoroutine := false, more := [] : PySem.Scope }
theorem S_balanced_0 : CompSc ["shares", "gain"] [none, none] cs_balanced_0 (defScope s_balanced) ["table", "gains", "scales", "rows", "last", "k", "ahead"] := ⟨rfl, by decide +kernel, by decide +kernel, rfl, by decide +kernel, by decide +kernel⟩
theorem l_balanced_c0_gain : (relabelS cs_balanced_0 (defScope s_balanced)).names.lookup ("gain" : Str) = some NameKind.local := by decide +kernel
theorem l_balanced_c0_shares : (relabelS cs_balanced_0 (defScope s_balanced)).names.lookup ("shares" : Str) = some NameKind.local := by decide +kernel
theorem g_balanced_c0_common_bottom : (relabelS cs_balanced_0 (defScope s_balanced)).names.lookup ("common_bottom" : Str) = some NameKind.globalImplicit := by decide +kernel
noncomputable def X_balanced_0 : SD → Out D := (eA (fun xs => b_common_bottom (xs ++ [])) (aCons (e2 dCat (eVar 0) (eLst (aCons (eVar 1) aNil))) aNil))
theorem l_balanced_scales : (defScope s_balanced).names.lookup ("scales" : Str) = some NameKind.local := by decide +kernel
theorem g_balanced_enumerate : (defScope s_balanced).names.lookup ("enumerate" : Str) = some NameKind.globalImplicit := by decide +kernel
abbrev cs_balanced_1 : PySem.Scope := { kind := PySem.ScopeKind.function, names := [ (PySem.Str.ofString ".0", PySem.NameKind.local), (PySem.Str.ofString "k", PySem.NameKind.local), (PySem.Str.ofString "scale", PySem.NameKind.local), (PySem.Str.ofString "whole_row", PySem.NameKind.globalImplicit), (PySem.Str.ofString "gains", PySem.NameKind.free), (PySem.Str.ofString "table", PySem.NameKind.free)], isGenerator := false, isCoroutine := false, more := [] : PySem.Scope }
theorem S_balanced_1 : CompSc ["k", "scale", "table", "gains"] [none, none, some 0, some 1] cs_balanced_1 (defScope s_balanced) ["table", "gains", "scales", "rows", "last", "k", "ahead"] := ⟨rfl, by decide +kernel, by decide +kernel, rfl, by decide +kernel, by decide +kernel⟩
theorem l_balanced_c1_scale : (relabelS cs_balanced_1 (defScope s_balanced)).names.lookup ("scale" : Str) = some NameKind.local := by decide +kernel
theorem l_balanced_c1_k : (relabelS cs_balanced_1 (defScope s_balanced)).names.lookup ("k" : Str) = some NameKind.local := by decide +kernel
theorem l_balanced_c1_table : (relabelS cs_balanced_1 (defScope s_balanced)).names.lookup ("table" : Str) = some NameKind.cell := by decide +kernel
theorem l_balanced_c1_gains : (relabelS cs_balanced_1 (defScope s_balanced)).names.lookup ("gains" : Str) = some NameKind.cell := by decide +kernel
theorem g_balanced_c1_whole_row : (relabelS cs_balanced_1 (defScope s_balanced)).names.lookup ("whole_row" : Str) = some NameKind.globalImplicit := by decide +kernel
noncomputable def X_balanced_1 : SD → Out D := (eA (fun xs => b_whole_row (xs ++ [])) (aCons (e2 dIx (eVar 2) (eVar 0)) (aCons (e2 dIx (eVar 3) (eVar 0)) (aCons (eVar 0) (aCons (eVar 1) aNil)))))
theorem l_balanced_rows : (defScope s_balanced).names.lookup ("rows" : Str) = some NameKind.cell := by decide +kernel
theorem l_balanced_last : (defScope s_balanced).names.lookup ("last" : Str) = some NameKind.cell := by decide +kernel
theorem g_balanced_len : (defScope s_balanced).names.lookup ("len" : Str) = some NameKind.globalImplicit := by decide +kernel
theorem g_balanced_range : (defScope s_balanced).names.lookup ("range" : Str) = some NameKind.globalImplicit := by decide +kernel
theorem l_balanced_k : (defScope s_balanced).names.lookup ("k" : Str) = some NameKind.cell := by decide +kernel
theorem g_balanced_flow_in : (defScope s_balanced).names.lookup ("flow_in" : Str) = some NameKind.globalImplicit := by decide +kernel
theorem l_balanced_ahead : (defScope s_balanced).names.lookup ("ahead" : Str) = some NameKind.local := by decide +kernel
abbrev cs_balanced_2 : PySem.Scope := { kind := PySem.ScopeKind.function, names := [ (PySem.Str.ofString ".0", PySem.NameKind.local), (PySem.Str.ofString "row", PySem.NameKind.local), (PySem.Str.ofString "without", PySem.NameKind.globalImplicit), (PySem.Str.ofString "k", PySem.NameKind.free), (PySem.Str.ofString "last", PySem.NameKind.free), (PySem.Str.ofString "rows", PySem.NameKind.free)], isGenerator := false, isCoroutine := false, more := [] : PySem.Scope }
theorem S_balanced_2 : CompSc ["row", "rows", "k", "last"] [none, some 3, some 5, some 4] cs_balanced_2 (defScope s_balanced) ["table", "gains", "scales", "rows", "last", "k", "ahead"] := ⟨rfl, by decide +kernel, by decide +kernel, rfl, by decide +kernel, by decide +kernel⟩
theorem l_balanced_c2_row : (relabelS cs_balanced_2 (defScope s_balanced)).names.lookup ("row" : Str) = some NameKind.local := by decide +kernel
theorem l_balanced_c2_rows : (relabelS cs_balanced_2 (defScope s_balanced)).names.lookup ("rows" : Str) = some NameKind.cell := by decide +kernel
theorem l_balanced_c2_k : (relabelS cs_balanced_2 (defScope s_balanced)).names.lookup ("k" : Str) = some NameKind.cell := by decide +kernel
theorem l_balanced_c2_last : (relabelS cs_balanced_2 (defScope s_balanced)).names.lookup ("last" : Str) = some NameKind.cell := by decide +kernel
theorem g_balanced_c2_without : (relabelS cs_balanced_2 (defScope s_balanced)).names.lookup ("without" : Str) = some NameKind.globalImplicit := by decide +kernel
noncomputable def X_balanced_2 : SD → Out D := (eA (fun xs => b_without (xs ++ [])) (aCons (eVar 0) (aCons (e2 dIx (eVar 1) (eVar 2)) (aCons (eVar 2) (aCons (eVar 3) aNil)))))
noncomputable def L_balanced_0 : SD → Out Fl := (sSeq (sIf (tVal (e2 dLe (e2 dIx (e2 dIx (eVar 3) (eVar 5)) (eVar 5)) (eC (.int 0)))) (sRet (eTup (aCons (eC (.str "unrest")) (aCons (eA (fun xs => b_flow_in (xs ++ [])) (aCons (eVar 3) (aCons (eVar 2) (aCons (eVar 5) (aCons (eVar 4) aNil))))) aNil)))) sNil) (sSeq (sSet 6 (eSl (eVar 3) oNo (oSome (e2 dAdd (eVar 5) (eC (.int 1)))))) (sSeq (sSet 3 (e2 dCat (eVar 6) (eComp [none, some 3, some 5, some 4] (itL (eSl (eVar 3) (oSome (e2 dAdd (eVar 5) (eC (.int 1)))) oNo)) (gN 0) cTrue X_balanced_2))) (sSet 4 (e2 dIx (e2 dIx (eVar 3) (eVar 5)) (eVar 5))))))
theorem g_balanced_worths_in : (defScope s_balanced).names.lookup ("worths_in" : Str) = some NameKind.globalImplicit := by decide +kernel
noncomputable def T_balanced : SD → Out Fl := (sSeq (sSet 2 (eComp [none, none] (itZ (eVar 0) (eVar 1)) (gT [0, 1]) cTrue X_balanced_0)) (sSeq (sSet 3 (eComp [none, none, some 0, some 1] (itE (eVar 2)) (gT [0, 1]) cTrue X_balanced_1)) (sSeq (sSet 4 (eC (.int 1))) (sSeq (sFor (gN 5) (itR1 (eA fLen (aCons (eVar 0) aNil))) L_balanced_0) (sRet (eTup (aCons (eC (.str "rest")) (aCons (eA (fun xs => b_worths_in (xs ++ [])) (aCons (eVar 3) (aCons (eVar 4) aNil))) aNil))))))))
noncomputable def b_balanced : List D → Out D := bodyF false 2 7 T_balanced
theorem u_balanced (d0 d1 : D) : b_balanced [d0, d1] = (T_balanced [some (.k, d0), some (.k, d1), none, none, none, none, none] >>= retF false) := rfl
theorem d_balanced {P : Program} {w : World} {K : PySem.W.Frag} {mg : Str → Option Value} {base : Heap} {CT : CTab} {f : Addr} {fd : FuncData} {dV : Value} (F : FunV K "balanced" "balanced" s_balanced f fd dV) (h_common_bottom : DefOk P w K mg base CT "common_bottom" 2 false [] b_common_bottom) (h_whole_row : DefOk P w K mg base CT "whole_row" 1 true [] b_whole_row) (h_flow_in : DefOk P w K mg base CT "flow_in" 4 true [] b_flow_in) (h_without : DefOk P w K mg base CT "without" 1 false [] b_without) (h_worths_in : DefOk P w K mg base CT "worths_in" 3 true [] b_worths_in) (z_zip : mg "zip" = none) (z_enumerate : mg "enumerate" = none) (z_range : mg "range" = none) (z_len : mg "len" = none) : FnOk P w K mg base CX0 5 f fd ["table", "gains"] (SpD K CT false b_balanced) :=
    @fnV P w K mg base CT false "balanced" "balanced" s_balanced f fd dV ["table", "gains", "scales", "rows", "last", "k", "ahead"] ["table", "gains"] 4 T_balanced F sc_balanced fun cdv A outer s H E G hr => 
      (dss_cons (ds_setC (i := 2) rfl S_balanced_0 (DI.b (di_zip g_balanced_zip z_zip (de_var 0 rfl (Or.inr (Or.inl l_balanced_table))) (de_var 1 rfl (Or.inr (Or.inl l_balanced_gains))))) (fun ς => gKeep_gT (fun i hi => captD_none (by revert hi; revert i; decide) ς)) (noExc_gT _) (fun fp s H G p => ⟨(dg_tup rfl (dgs_cons (i := 0) S_balanced_0.nd rfl (Or.inl l_balanced_c0_shares) (dgs_cons (i := 1) S_balanced_0.nd rfl (Or.inl l_balanced_c0_gain) dgs_nil (hf := Or.inr l_balanced_c0_gain)) (hf := Or.inr l_balanced_c0_shares))), dif_nil, (de_f h_common_bottom (hr.mono (by decide)) (da_cons (DF.de (df_cat (de_var 0 rfl (Or.inl l_balanced_c0_shares)) (DF.de (df_lst (da_cons (de_var 1 rfl (Or.inl l_balanced_c0_gain)) da_nil))))) da_nil) g_balanced_c0_common_bottom)⟩) sc_balanced.nd rfl (Or.inl l_balanced_scales)) (dss_cons (ds_set (i := 3) sc_balanced.nd rfl (Or.inr l_balanced_rows) (DF.de (df_comp rfl S_balanced_1 (DI.b (di_enum g_balanced_enumerate z_enumerate (de_var 2 rfl (Or.inl l_balanced_scales)))) (fun ς => gKeep_gT (fun i hi => captD_none (by revert hi; revert i; decide) ς)) (noExc_gT _) (fun fp s H G p => ⟨(dg_tup rfl (dgs_cons (i := 0) S_balanced_1.nd rfl (Or.inl l_balanced_c1_k) (dgs_cons (i := 1) S_balanced_1.nd rfl (Or.inl l_balanced_c1_scale) dgs_nil (hf := Or.inr l_balanced_c1_scale)) (hf := Or.inr l_balanced_c1_k))), dif_nil, (de_f h_whole_row (hr.mono (by decide)) (da_cons (de_ix (de_var 2 rfl (Or.inr (Or.inl l_balanced_c1_table))) (DE.db (de_var 0 rfl (Or.inl l_balanced_c1_k)))) (da_cons (de_ix (de_var 3 rfl (Or.inr (Or.inl l_balanced_c1_gains))) (DE.db (de_var 0 rfl (Or.inl l_balanced_c1_k)))) (da_cons (de_var 0 rfl (Or.inl l_balanced_c1_k)) (da_cons (de_var 1 rfl (Or.inl l_balanced_c1_scale)) da_nil)))) g_balanced_c1_whole_row)⟩)))) (dss_cons (ds_set (i := 4) sc_balanced.nd rfl (Or.inr l_balanced_last) de_int) (dss_cons (ds_forI PassesOwn.never rfl (di_range1 g_balanced_range z_range (DE.db (de_len g_balanced_len z_len (dab_cons (DE.db (de_var 0 rfl (Or.inr (Or.inl l_balanced_table)))) dab_nil)))) (dg_name (i := 5) sc_balanced.nd rfl (Or.inr l_balanced_k)) (noExc_gN _) (dss_cons (ds_if (dt_le (DE.db (de_ix (de_ix (de_var 3 rfl (Or.inr (Or.inl l_balanced_rows))) (DE.db (de_var 5 rfl (Or.inr (Or.inl l_balanced_k))))) (DE.db (de_var 5 rfl (Or.inr (Or.inl l_balanced_k)))))) (DE.db de_int)) (dss_one (ds_ret (de_tup (da_cons de_str (da_cons (de_f h_flow_in (hr.mono (by decide)) (da_cons (de_var 3 rfl (Or.inr (Or.inl l_balanced_rows))) (da_cons (de_var 2 rfl (Or.inl l_balanced_scales)) (da_cons (de_var 5 rfl (Or.inr (Or.inl l_balanced_k))) (da_cons (de_var 4 rfl (Or.inr (Or.inl l_balanced_last))) da_nil)))) g_balanced_flow_in) da_nil))))) dss_nil) (dss_cons (ds_set (i := 6) sc_balanced.nd rfl (Or.inl l_balanced_ahead) (DF.de (df_sl (de_var 3 rfl (Or.inr (Or.inl l_balanced_rows))) do_none (do_some (DE.db (de_add (DE.db (de_var 5 rfl (Or.inr (Or.inl l_balanced_k)))) (DE.db de_int))))))) (dss_cons (ds_set (i := 3) sc_balanced.nd rfl (Or.inr l_balanced_rows) (DF.de (df_cat (de_var 6 rfl (Or.inl l_balanced_ahead)) (DF.de (df_comp rfl S_balanced_2 (DI.b (di_list (DF.de (df_sl (de_var 3 rfl (Or.inr (Or.inl l_balanced_rows))) (do_some (DE.db (de_add (DE.db (de_var 5 rfl (Or.inr (Or.inl l_balanced_k)))) (DE.db de_int)))) do_none)))) (fun ς => gKeep_gN (captD_none rfl ς)) (noExc_gN _) (fun fp s H G p => ⟨(dg_name (i := 0) S_balanced_2.nd rfl (Or.inl l_balanced_c2_row) (hf := Or.inr l_balanced_c2_row)), dif_nil, (de_f h_without (hr.mono (by decide)) (da_cons (de_var 0 rfl (Or.inl l_balanced_c2_row)) (da_cons (de_ix (de_var 1 rfl (Or.inr (Or.inl l_balanced_c2_rows))) (DE.db (de_var 2 rfl (Or.inr (Or.inl l_balanced_c2_k))))) (da_cons (de_var 2 rfl (Or.inr (Or.inl l_balanced_c2_k))) (da_cons (de_var 3 rfl (Or.inr (Or.inl l_balanced_c2_last))) da_nil)))) g_balanced_c2_without)⟩)))))) (dss_one (ds_set (i := 4) sc_balanced.nd rfl (Or.inr l_balanced_last) (de_ix (de_ix (de_var 3 rfl (Or.inr (Or.inl l_balanced_rows))) (DE.db (de_var 5 rfl (Or.inr (Or.inl l_balanced_k))))) (DE.db (de_var 5 rfl (Or.inr (Or.inl l_balanced_k))))))))))) (dss_one (ds_ret (de_tup (da_cons de_str (da_cons (de_f h_worths_in (hr.mono (by decide)) (da_cons (de_var 3 rfl (Or.inr (Or.inl l_balanced_rows))) (da_cons (de_var 4 rfl (Or.inr (Or.inl l_balanced_last))) da_nil)) g_balanced_worths_in) da_nil)))))))))
abbrev s_left_out : Stmt := top 15
theorem sc_left_out : FnScope ["table"] ["table"] (defScope s_left_out) := ⟨rfl, rfl, rfl, by decide +kernel, rfl, by decide +kernel, by decide +kernel⟩
theorem l_left_out_table : (defScope s_left_out).names.lookup ("table" : Str) = some NameKind.local := by decide +kernel
abbrev cs_left_out_0 : PySem.Scope := { kind := PySem.ScopeKind.function, names := [ (PySem.Str.ofString ".0", PySem.NameKind.local), (PySem.Str.ofString "shares", PySem.NameKind.local), (PySem.Str.ofString "share", PySem.NameKind.globalImplicit)], isGenerator := false, isCoroutine := false, more := [] : PySem.Scope }
theorem S_left_out_0 : CompSc ["shares"] [none] cs_left_out_0 (defScope s_left_out) ["table"] := ⟨rfl, by decide +kernel, by decide +kernel, rfl, by decide +kernel, by decide +kernel⟩
theorem l_left_out_c0_shares : (relabelS cs_left_out_0 (defScope s_left_out)).names.lookup ("shares" : Str) = some NameKind.local := by decide +kernel
theorem g_left_out_c0_share : (relabelS cs_left_out_0 (defScope s_left_out)).names.lookup ("share" : Str) = some NameKind.globalImplicit := by decide +kernel
noncomputable def X_left_out_0 : SD → Out D := (eA (fun xs => b_share (xs ++ [(.int 1)])) (aCons (eC (.int 1)) aNil))
theorem g_left_out_balanced : (defScope s_left_out).names.lookup ("balanced" : Str) = some NameKind.globalImplicit := by decide +kernel
noncomputable def T_left_out : SD → Out Fl := (sRet (eA (fun xs => b_balanced (xs ++ [])) (aCons (eVar 0) (aCons (eComp [none] (itL (eVar 0)) (gN 0) cTrue X_left_out_0) aNil))))
noncomputable def b_left_out : List D → Out D := bodyF false 1 1 T_left_out
theorem u_left_out (d0 : D) : b_left_out [d0] = (T_left_out [some (.k, d0)] >>= retF false) := rfl
theorem d_left_out {P : Program} {w : World} {K : PySem.W.Frag} {mg : Str → Option Value} {base : Heap} {CT : CTab} {f : Addr} {fd : FuncData} {dV : Value} (F : FunV K "left_out" "left_out" s_left_out f fd dV) (h_balanced : DefOk P w K mg base CT "balanced" 5 false [] b_balanced) (h_share_1 : DefOk P w K mg base CT "share" 2 false [(.int 1)] b_share) : FnOk P w K mg base CX0 6 f fd ["table"] (SpD K CT false b_left_out) :=
    @fnV P w K mg base CT false "left_out" "left_out" s_left_out f fd dV ["table"] ["table"] 5 T_left_out F sc_left_out fun cdv A outer s H E G hr => 
      (dss_one (ds_ret (de_f h_balanced (hr.mono (by decide)) (da_cons (de_var 0 rfl (Or.inl l_left_out_table)) (da_cons (DF.de (df_comp rfl S_left_out_0 (DI.b (di_list (de_var 0 rfl (Or.inl l_left_out_table)))) (fun ς => gKeep_gN (captD_none rfl ς)) (noExc_gN _) (fun fp s H G p => ⟨(dg_name (i := 0) S_left_out_0.nd rfl (Or.inl l_left_out_c0_shares) (hf := Or.inr l_left_out_c0_shares)), dif_nil, (de_f h_share_1 (hr.mono (by decide)) (da_cons de_int da_nil) g_left_out_c0_share)⟩))) da_nil)) g_left_out_balanced)))
abbrev s_law_turned : Stmt := top 21
theorem sc_law_turned : FnScope ["_law_table", "_law_places"] ["_law_table", "_law_places"] (defScope s_law_turned) := ⟨rfl, rfl, rfl, by decide +kernel, rfl, by decide +kernel, by decide +kernel⟩
theorem l_law_turned__law_places : (defScope s_law_turned).names.lookup ("_law_places" : Str) = some NameKind.cell := by decide +kernel
abbrev cs_law_turned_0 : PySem.Scope := { kind := PySem.ScopeKind.function, names := [ (PySem.Str.ofString ".0", PySem.NameKind.local), (PySem.Str.ofString "_law_k", PySem.NameKind.cell), (PySem.Str.ofString "_law_places", PySem.NameKind.free), (PySem.Str.ofString "_law_table", PySem.NameKind.free)], isGenerator := false, isCoroutine := false, more := [] : PySem.Scope }
theorem S_law_turned_0 : CompSc ["_law_k", "_law_places", "_law_table"] [none, some 1, some 0] cs_law_turned_0 (defScope s_law_turned) ["_law_table", "_law_places"] := ⟨rfl, by decide +kernel, by decide +kernel, rfl, by decide +kernel, by decide +kernel⟩
theorem l_law_turned_c0__law_k : (relabelS cs_law_turned_0 (defScope s_law_turned)).names.lookup ("_law_k" : Str) = some NameKind.cell := by decide +kernel
theorem l_law_turned_c0__law_places : (relabelS cs_law_turned_0 (defScope s_law_turned)).names.lookup ("_law_places" : Str) = some NameKind.cell := by decide +kernel
abbrev cs_law_turned_1 : PySem.Scope := { kind := PySem.ScopeKind.function, names := [ (PySem.Str.ofString ".0", PySem.NameKind.local), (PySem.Str.ofString "_law_j", PySem.NameKind.local), (PySem.Str.ofString "_law_k", PySem.NameKind.free), (PySem.Str.ofString "_law_table", PySem.NameKind.free)], isGenerator := false, isCoroutine := false, more := [] : PySem.Scope }
theorem S_law_turned_1 : CompSc ["_law_j", "_law_table", "_law_k"] [none, some 2, some 0] cs_law_turned_1 (relabelS cs_law_turned_0 (defScope s_law_turned)) ["_law_k", "_law_places", "_law_table"] := ⟨rfl, by decide +kernel, by decide +kernel, rfl, by decide +kernel, by decide +kernel⟩
theorem l_law_turned_c1__law_j : (relabelS cs_law_turned_1 (relabelS cs_law_turned_0 (defScope s_law_turned))).names.lookup ("_law_j" : Str) = some NameKind.local := by decide +kernel
theorem l_law_turned_c1__law_table : (relabelS cs_law_turned_1 (relabelS cs_law_turned_0 (defScope s_law_turned))).names.lookup ("_law_table" : Str) = some NameKind.cell := by decide +kernel
theorem l_law_turned_c1__law_k : (relabelS cs_law_turned_1 (relabelS cs_law_turned_0 (defScope s_law_turned))).names.lookup ("_law_k" : Str) = some NameKind.cell := by decide +kernel
noncomputable def X_law_turned_0 : SD → Out D := (e2 dIx (e2 dIx (eVar 1) (eVar 2)) (eVar 0))
noncomputable def X_law_turned_1 : SD → Out D := (eComp [none, some 2, some 0] (itL (eVar 1)) (gN 0) cTrue X_law_turned_0)
noncomputable def T_law_turned : SD → Out Fl := (sRetF (eComp [none, some 1, some 0] (itL (eVar 1)) (gN 0) cTrue X_law_turned_1))
noncomputable def b_law_turned : List D → Out D := bodyF true 2 2 T_law_turned
theorem u_law_turned (d0 d1 : D) : b_law_turned [d0, d1] = (T_law_turned [some (.k, d0), some (.k, d1)] >>= retF true) := rfl
theorem d_law_turned {P : Program} {w : World} {K : PySem.W.Frag} {mg : Str → Option Value} {base : Heap} {CT : CTab} {f : Addr} {fd : FuncData} {dV : Value} (F : FunV K "_law_turned" "_law_turned" s_law_turned f fd dV)  : FnOk P w K mg base CX0 1 f fd ["_law_table", "_law_places"] (SpD K CT true b_law_turned) :=
    @fnV P w K mg base CT true "_law_turned" "_law_turned" s_law_turned f fd dV ["_law_table", "_law_places"] ["_law_table", "_law_places"] 0 T_law_turned F sc_law_turned fun cdv A outer s H E G hr => 
      (dss_one (ds_retF (df_comp rfl S_law_turned_0 (DI.b (di_list (de_var 1 rfl (Or.inr (Or.inl l_law_turned__law_places))))) (fun ς => gKeep_gN (captD_none rfl ς)) (noExc_gN _) (fun fp s H G p => ⟨(dg_name (i := 0) S_law_turned_0.nd rfl (Or.inr l_law_turned_c0__law_k) (hf := Or.inl rfl)), dif_nil, (DF.de (df_comp rfl S_law_turned_1 (DI.b (di_list (de_var 1 rfl (Or.inr (Or.inl l_law_turned_c0__law_places))))) (fun ς => gKeep_gN (captD_none rfl ς)) (noExc_gN _) (fun fp s H G p => ⟨(dg_name (i := 0) S_law_turned_1.nd rfl (Or.inl l_law_turned_c1__law_j) (hf := Or.inr l_law_turned_c1__law_j)), dif_nil, (de_ix (de_ix (de_var 1 rfl (Or.inr (Or.inl l_law_turned_c1__law_table))) (DE.db (de_var 2 rfl (Or.inr (Or.inl l_law_turned_c1__law_k))))) (DE.db (de_var 0 rfl (Or.inl l_law_turned_c1__law_j))))⟩)))⟩))))
abbrev s_law : Stmt := top 22
theorem sc_law : FnScope ["_law_script", "_law_table", "_law_many", "_law_found", "_law_places", "_law_other"] ["_law_script"] (defScope s_law) := ⟨rfl, rfl, rfl, by decide +kernel, rfl, by decide +kernel, by decide +kernel⟩
theorem l_law__law_script : (defScope s_law).names.lookup ("_law_script" : Str) = some NameKind.local := by decide +kernel
theorem g_law__law_tables : (defScope s_law).names.lookup ("_law_tables" : Str) = some NameKind.globalImplicit := by decide +kernel
theorem l_law__law_table : (defScope s_law).names.lookup ("_law_table" : Str) = some NameKind.local := by decide +kernel
theorem g_law_len : (defScope s_law).names.lookup ("len" : Str) = some NameKind.globalImplicit := by decide +kernel
theorem l_law__law_many : (defScope s_law).names.lookup ("_law_many" : Str) = some NameKind.cell := by decide +kernel
theorem g_law_left_out : (defScope s_law).names.lookup ("left_out" : Str) = some NameKind.globalImplicit := by decide +kernel
theorem l_law__law_found : (defScope s_law).names.lookup ("_law_found" : Str) = some NameKind.cell := by decide +kernel
theorem g_law_range : (defScope s_law).names.lookup ("range" : Str) = some NameKind.globalImplicit := by decide +kernel
abbrev cs_law_0 : PySem.Scope := { kind := PySem.ScopeKind.function, names := [ (PySem.Str.ofString ".0", PySem.NameKind.local), (PySem.Str.ofString "_law_k", PySem.NameKind.local), (PySem.Str.ofString "_law_many", PySem.NameKind.free)], isGenerator := false, isCoroutine := false, more := [] : PySem.Scope }
theorem S_law_0 : CompSc ["_law_k", "_law_many"] [none, some 2] cs_law_0 (defScope s_law) ["_law_script", "_law_table", "_law_many", "_law_found", "_law_places", "_law_other"] := ⟨rfl, by decide +kernel, by decide +kernel, rfl, by decide +kernel, by decide +kernel⟩
theorem l_law_c0__law_k : (relabelS cs_law_0 (defScope s_law)).names.lookup ("_law_k" : Str) = some NameKind.local := by decide +kernel
theorem l_law_c0__law_many : (relabelS cs_law_0 (defScope s_law)).names.lookup ("_law_many" : Str) = some NameKind.cell := by decide +kernel
noncomputable def X_law_0 : SD → Out D := (e2 dMod (e2 dAdd (eVar 0) (eC (.int 1))) (eVar 1))
abbrev cs_law_1 : PySem.Scope := { kind := PySem.ScopeKind.function, names := [ (PySem.Str.ofString ".0", PySem.NameKind.local), (PySem.Str.ofString "_law_k", PySem.NameKind.local), (PySem.Str.ofString "_law_many", PySem.NameKind.free)], isGenerator := false, isCoroutine := false, more := [] : PySem.Scope }
theorem S_law_1 : CompSc ["_law_k", "_law_many"] [none, some 2] cs_law_1 (defScope s_law) ["_law_script", "_law_table", "_law_many", "_law_found", "_law_places", "_law_other"] := ⟨rfl, by decide +kernel, by decide +kernel, rfl, by decide +kernel, by decide +kernel⟩
theorem l_law_c1__law_k : (relabelS cs_law_1 (defScope s_law)).names.lookup ("_law_k" : Str) = some NameKind.local := by decide +kernel
theorem l_law_c1__law_many : (relabelS cs_law_1 (defScope s_law)).names.lookup ("_law_many" : Str) = some NameKind.cell := by decide +kernel
noncomputable def X_law_1 : SD → Out D := (e2 dSub (e2 dSub (eVar 1) (eC (.int 1))) (eVar 0))
theorem l_law__law_places : (defScope s_law).names.lookup ("_law_places" : Str) = some NameKind.local := by decide +kernel
theorem g_law__law_turned : (defScope s_law).names.lookup ("_law_turned" : Str) = some NameKind.globalImplicit := by decide +kernel
theorem l_law__law_other : (defScope s_law).names.lookup ("_law_other" : Str) = some NameKind.local := by decide +kernel
abbrev cs_law_2 : PySem.Scope := { kind := PySem.ScopeKind.function, names := [ (PySem.Str.ofString ".0", PySem.NameKind.local), (PySem.Str.ofString "_law_k", PySem.NameKind.local), (PySem.Str.ofString "_law_found", PySem.NameKind.free)], isGenerator := false, isCoroutine := false, more := [] : PySem.Scope }
theorem S_law_2 : CompSc ["_law_k", "_law_found"] [none, some 3] cs_law_2 (defScope s_law) ["_law_script", "_law_table", "_law_many", "_law_found", "_law_places", "_law_other"] := ⟨rfl, by decide +kernel, by decide +kernel, rfl, by decide +kernel, by decide +kernel⟩
theorem l_law_c2__law_k : (relabelS cs_law_2 (defScope s_law)).names.lookup ("_law_k" : Str) = some NameKind.local := by decide +kernel
theorem l_law_c2__law_found : (relabelS cs_law_2 (defScope s_law)).names.lookup ("_law_found" : Str) = some NameKind.cell := by decide +kernel
noncomputable def X_law_2 : SD → Out D := (e2 dIx (e2 dIx (eVar 1) (eC (.int 1))) (eVar 0))
noncomputable def L_law_0 : SD → Out Fl := (sSeq (sSet 5 (eA (fun xs => b_left_out (xs ++ [])) (aCons (eA (fun xs => b_law_turned (xs ++ [])) (aCons (eVar 1) (aCons (eVar 4) aNil))) aNil))) (sSeq (sIf (tVal (e2 dNe (e2 dIx (eVar 5) (eC (.int 0))) (e2 dIx (eVar 3) (eC (.int 0))))) (sRet (eC (.bl false))) sNil) (sIf (tAnd' (tVal (e2 dEq (e2 dIx (eVar 3) (eC (.int 0))) (eC (.str "rest")))) (tVal (e2 dNe (e2 dIx (eVar 5) (eC (.int 1))) (eComp [none, some 3] (itL (eVar 4)) (gN 0) cTrue X_law_2)))) (sRet (eC (.bl false))) sNil)))
noncomputable def L_law_1 : SD → Out Fl := (sSeq (sSet 2 (eA fLen (aCons (eVar 1) aNil))) (sSeq (sSet 3 (eA (fun xs => b_left_out (xs ++ [])) (aCons (eVar 1) aNil))) (sFor (gN 4) (itL (eLst (aCons (eComp [none, some 2] (itR1 (eVar 2)) (gN 0) cTrue X_law_0) (aCons (eComp [none, some 2] (itR1 (eVar 2)) (gN 0) cTrue X_law_1) aNil)))) L_law_0)))
noncomputable def T_law : SD → Out Fl := (sSeq (sFor (gN 1) (itL (eA (fun xs => b_law_tables (xs ++ [])) (aCons (eSl (eVar 0) oNo (oSome (eC (.int 84)))) aNil))) L_law_1) (sRet (eC (.bl true))))
noncomputable def b_law : List D → Out D := bodyF false 1 6 T_law
theorem u_law (d0 : D) : b_law [d0] = (T_law [some (.k, d0), none, none, none, none, none] >>= retF false) := rfl
theorem d_law {P : Program} {w : World} {K : PySem.W.Frag} {mg : Str → Option Value} {base : Heap} {CT : CTab} {f : Addr} {fd : FuncData} {dV : Value} (F : FunV K "law" "law" s_law f fd dV) (h_law_tables : DefOk P w K mg base CT "_law_tables" 3 true [] b_law_tables) (h_left_out : DefOk P w K mg base CT "left_out" 6 false [] b_left_out) (h_law_turned : DefOk P w K mg base CT "_law_turned" 1 true [] b_law_turned) (z_len : mg "len" = none) (z_range : mg "range" = none) : FnOk P w K mg base CX0 7 f fd ["_law_script"] (SpD K CT false b_law) :=
    @fnV P w K mg base CT false "law" "law" s_law f fd dV ["_law_script", "_law_table", "_law_many", "_law_found", "_law_places", "_law_other"] ["_law_script"] 6 T_law F sc_law fun cdv A outer s H E G hr => 
      (dss_cons (ds_forI PassesOwn.never rfl (di_list (de_f h_law_tables (hr.mono (by decide)) (da_cons (DF.de (df_sl (de_var 0 rfl (Or.inl l_law__law_script)) do_none (do_some (DE.db de_int)))) da_nil) g_law__law_tables)) (dg_name (i := 1) sc_law.nd rfl (Or.inl l_law__law_table)) (noExc_gN _) (dss_cons (ds_set (i := 2) sc_law.nd rfl (Or.inr l_law__law_many) (de_len g_law_len z_len (dab_cons (DE.db (de_var 1 rfl (Or.inl l_law__law_table))) dab_nil))) (dss_cons (ds_set (i := 3) sc_law.nd rfl (Or.inr l_law__law_found) (de_f h_left_out (hr.mono (by decide)) (da_cons (de_var 1 rfl (Or.inl l_law__law_table)) da_nil) g_law_left_out)) (dss_one (ds_forI PassesOwn.never rfl (di_list (DF.de (df_lst (da_cons (DF.de (df_comp rfl S_law_0 (DI.b (di_range1 g_law_range z_range (DE.db (de_var 2 rfl (Or.inr (Or.inl l_law__law_many)))))) (fun ς => gKeep_gN (captD_none rfl ς)) (noExc_gN _) (fun fp s H G p => ⟨(dg_name (i := 0) S_law_0.nd rfl (Or.inl l_law_c0__law_k) (hf := Or.inr l_law_c0__law_k)), dif_nil, (de_mod (DE.db (de_add (DE.db (de_var 0 rfl (Or.inl l_law_c0__law_k))) (DE.db de_int))) (DE.db (de_var 1 rfl (Or.inr (Or.inl l_law_c0__law_many)))))⟩))) (da_cons (DF.de (df_comp rfl S_law_1 (DI.b (di_range1 g_law_range z_range (DE.db (de_var 2 rfl (Or.inr (Or.inl l_law__law_many)))))) (fun ς => gKeep_gN (captD_none rfl ς)) (noExc_gN _) (fun fp s H G p => ⟨(dg_name (i := 0) S_law_1.nd rfl (Or.inl l_law_c1__law_k) (hf := Or.inr l_law_c1__law_k)), dif_nil, (de_sub (DE.db (de_sub (DE.db (de_var 1 rfl (Or.inr (Or.inl l_law_c1__law_many)))) (DE.db de_int))) (DE.db (de_var 0 rfl (Or.inl l_law_c1__law_k))))⟩))) da_nil))))) (dg_name (i := 4) sc_law.nd rfl (Or.inl l_law__law_places)) (noExc_gN _) (dss_cons (ds_set (i := 5) sc_law.nd rfl (Or.inl l_law__law_other) (de_f h_left_out (hr.mono (by decide)) (da_cons (de_f h_law_turned (hr.mono (by decide)) (da_cons (de_var 1 rfl (Or.inl l_law__law_table)) (da_cons (de_var 4 rfl (Or.inl l_law__law_places)) da_nil)) g_law__law_turned) da_nil) g_law_left_out)) (dss_cons (ds_if (dt_ne hr.units (DE.db (de_ix (de_var 5 rfl (Or.inl l_law__law_other)) (DE.db de_int))) (DE.db (de_ix (de_var 3 rfl (Or.inr (Or.inl l_law__law_found))) (DE.db de_int)))) (dss_one (ds_ret de_bl)) dss_nil) (dss_one (ds_if (DW.dt (dw_and (dt_eq hr.units (DE.db (de_ix (de_var 3 rfl (Or.inr (Or.inl l_law__law_found))) (DE.db de_int))) (DE.db de_str)) (dw_and1 (dt_ne hr.units (DE.db (de_ix (de_var 5 rfl (Or.inl l_law__law_other)) (DE.db de_int))) (DE.db (DF.de (df_comp rfl S_law_2 (DI.b (di_list (de_var 4 rfl (Or.inl l_law__law_places)))) (fun ς => gKeep_gN (captD_none rfl ς)) (noExc_gN _) (fun fp s H G p => ⟨(dg_name (i := 0) S_law_2.nd rfl (Or.inl l_law_c2__law_k) (hf := Or.inr l_law_c2__law_k)), dif_nil, (de_ix (de_ix (de_var 1 rfl (Or.inr (Or.inl l_law_c2__law_found))) (DE.db de_int)) (DE.db (de_var 0 rfl (Or.inl l_law_c2__law_k))))⟩)))))))) (dss_one (ds_ret de_bl)) dss_nil))))))))) (dss_one (ds_ret de_bl)))
end My
set_option Elab.async false
set_option linter.all false
set_option maxRecDepth 100000
set_option maxHeartbeats 4000000
set_option exponentiation.threshold 20000
namespace My
open PySem PySem.Spec L2 DL
local macro_rules | `(tactic| walk_at "g") => `(tactic| ((repeat (first | exact l_get0 | apply l_getS)); done))
local macro_rules | `(tactic| walk_at "s") => `(tactic| repeat (first | exact l_set0 | apply l_setS))
local macro_rules | `(tactic| walk_at "all") => `(tactic| repeat (first | with_reducible exact r_setAllN | (apply r_setAllC; focus walk_at "s")))
local macro_rules | `(tactic| walk_at "cap") => `(tactic| repeat (first | exact c_nil | apply c_none | (apply c_k; focus walk_at "g") | (apply c_o; focus walk_at "g") | (apply c_l; focus walk_at "g") | (apply c_s; focus walk_at "g")))
local macro_rules | `(tactic| walk_at "b") => `(tactic| first | rfl | with_reducible assumption | (simp only [Bool.not_eq_true', Bool.not_eq_false', decide_eq_true_eq, decide_eq_false_iff_not, Bool.not_true, Bool.not_false]; first | with_reducible assumption | omega) | (simp; done))
local macro_rules | `(tactic| walk_at "p") => `(tactic| first | decide | with_reducible assumption | omega)
local macro_rules | `(tactic| walk_at "l") => `(tactic| first | decide | with_reducible assumption | (simp only [List.length_map, List.length_cons, List.length_nil, List.length_range, List.length_append]; omega) | omega | (simp; omega))
local macro_rules | `(tactic| walk_at "e") => `(tactic| first
  | ((with_reducible apply r_id); with_reducible assumption)
  | with_reducible exact r_okR | with_reducible exact r_look0
  | with_reducible apply r_var | with_reducible apply r_varB | with_reducible exact r_C | with_reducible exact r_nil | with_reducible exact r_oNo | with_reducible exact r_sNil | with_reducible exact r_thenR
  | with_reducible exact dAdd_int _ _ | with_reducible exact dSub_int _ _ | with_reducible exact dNeg_int _ | with_reducible exact dAbs_int _ | with_reducible exact dLt_int _ _ | with_reducible exact dLe_int _ _ | with_reducible exact dGt_int _ _ | with_reducible exact dGe_int _ _ | with_reducible exact dEq_int _ _ | with_reducible exact dNe_int _ _
  | with_reducible exact dMod_pos (by walk_at "p")
  | with_reducible exact r_rt | with_reducible exact r_rtT | with_reducible exact r_rtS rfl
  | with_reducible apply r_retO
  | with_reducible exact l_set0 | with_reducible apply l_setS
  | with_reducible exact l_cat0 | with_reducible apply l_catS
  | with_reducible exact r_setAllN | with_reducible apply r_setAllC
  | with_reducible exact c_nil | with_reducible apply c_none | ((with_reducible apply c_k); focus walk_at "g") | ((with_reducible apply c_o); focus walk_at "g") | ((with_reducible apply c_l); focus walk_at "g") | ((with_reducible apply c_s); focus walk_at "g")
  | ((with_reducible apply r_scal); exact rfl)
  | ((with_reducible apply r_get); focus walk_at "g")
  | ((with_reducible apply r_bits); with_reducible assumption)
  | ((with_reducible apply bd_mod); focus walk_at "p") | with_reducible apply bd_add | with_reducible apply bd_sub | with_reducible apply bd_mul | with_reducible apply bd_div | with_reducible apply bd_neg | with_reducible exact bd_lit rfl
  | ((with_reducible apply r_dec); focus exact rfl)
  | ((with_reducible apply r_len); focus walk_at "l")
  | with_reducible apply r_mul
  | ((with_reducible apply r_fdiv); focus walk_at "p")
  | ((with_reducible apply r_iteT); focus walk_at "b")
  | ((with_reducible apply r_iteF); focus walk_at "b")
  | with_reducible apply r_cons | with_reducible apply r_e2 | with_reducible apply r_e1 | with_reducible apply r_seq | with_reducible apply r_set | with_reducible apply r_setO | with_reducible apply r_if | with_reducible apply r_then | with_reducible apply r_tVal | with_reducible apply r_not' | with_reducible apply r_or' | with_reducible apply r_and' | with_reducible apply r_eAnd | with_reducible apply r_eOr | with_reducible apply r_eNot | with_reducible apply r_eIf | with_reducible apply r_isa | with_reducible apply r_chain | with_reducible apply r_bind | with_reducible apply r_ret | with_reducible apply r_retF | with_reducible apply r_drop | with_reducible apply r_tup | with_reducible apply r_lst | with_reducible apply r_scalar | with_reducible apply r_nonScal | with_reducible apply r_noX | with_reducible apply r_oSome | with_reducible apply r_body | with_reducible apply r_gN | with_reducible apply r_gT | with_reducible apply r_unp | with_reducible apply r_for | with_reducible apply r_itL | with_reducible apply r_itT | with_reducible apply r_itE | with_reducible apply r_itZ | with_reducible apply r_call | with_reducible apply r_eA | with_reducible apply r_sl | with_reducible apply r_slB | with_reducible apply r_ixO | with_reducible apply r_meth | with_reducible apply r_make | with_reducible apply r_app | with_reducible apply r_put | with_reducible apply r_turn | with_reducible apply r_turnT | with_reducible apply r_self | with_reducible apply r_methS | with_reducible apply r_lm)
theorem is_whole_int (i : Int) : b_is_whole [.int i] = .ok (.bl true) := by
  simp [b_is_whole, T_is_whole, bodyF, retF, sSeq, thenF, sSet, sRet, sIf, sNil, eVar, eC, e1, e2, eA, f1, aNil, aCons, tVal, tAnd', tOr', tNot', eAnd, eOr, eNot, eIf, eTup, eLst, eIsa, isaT, tyName, oNo, oSome, sPar, sUnp, setAll, gN, gT, fLen, fits_small, Out.bind_ok, Out.bind_exc, Out.bind_stuck, Out.pure_eq, D.scal, dAdd_int, dSub_int, dNeg_int, dAbs_int, dLt_int, dLe_int, dGt_int, dGe_int, dEq_int, dNe_int, List.length_cons, List.length_nil, List.map_cons, List.map_nil, List.cons_append, List.nil_append, List.append_nil, List.getElem?_cons_zero, List.getElem?_cons_succ, List.set_cons_zero, List.set_cons_succ, List.replicate, Nat.reduceAdd, Nat.reduceSub, Nat.reduceLeDiff, Nat.zero_add, Nat.add_zero, reduceIte, Bool.not_true, Bool.not_false, Bool.true_and, Bool.and_true, Bool.false_and, Bool.and_false, Bool.or_true, Bool.true_or, Bool.or_false, Bool.false_or, Bool.false_eq_true, decide_true, decide_false, decide_eq_true_eq, Bool.not_eq_true', decide_eq_false_iff_not, Int.reduceEq, Int.reduceLT, Int.reduceLE, Int.reduceNeg, Nat.reduceEqDiff, ↓reduceIte, not_true_eq_false, not_false_eq_true]
theorem gd_loop : ∀ (n : Nat) (a b : Int) (r : Option (SM × D)), 0 ≤ a → 0 ≤ b → b.toNat ≤ n → ∃ r', sWhileC Q_greatest_divisor_0 L_greatest_divisor_0 [some (.k, .int a), some (.k, .int b), r]
    = .ok (.nx [some (.k, .int (a.gcd b : Nat)), some (.k, .int 0), r']) := by
  intro n
  induction n with
  | zero =>
    intro a b r ha hb hn
    have e : b = 0 := by omega
    subst e
    refine ⟨r, ?_⟩
    rw [sWhileC_unroll]
    simp [Q_greatest_divisor_0, L_greatest_divisor_0, bodyF, retF, sSeq, thenF, sSet, sRet, sIf, sNil, eVar, eC, e1, e2, eA, f1, aNil, aCons, tVal, tAnd', tOr', tNot', eAnd, eOr, eNot, eIf, eTup, eLst, eIsa, isaT, tyName, oNo, oSome, sPar, sUnp, setAll, gN, gT, fLen, fits_small, Out.bind_ok, Out.bind_exc, Out.bind_stuck, Out.pure_eq, D.scal, dAdd_int, dSub_int, dNeg_int, dAbs_int, dLt_int, dLe_int, dGt_int, dGe_int, dEq_int, dNe_int, List.length_cons, List.length_nil, List.map_cons, List.map_nil, List.cons_append, List.nil_append, List.append_nil, List.getElem?_cons_zero, List.getElem?_cons_succ, List.set_cons_zero, List.set_cons_succ, List.replicate, Nat.reduceAdd, Nat.reduceSub, Nat.reduceLeDiff, Nat.zero_add, Nat.add_zero, reduceIte, Bool.not_true, Bool.not_false, Bool.true_and, Bool.and_true, Bool.false_and, Bool.and_false, Bool.or_true, Bool.true_or, Bool.or_false, Bool.false_or, Bool.false_eq_true, decide_true, decide_false, decide_eq_true_eq, Bool.not_eq_true', decide_eq_false_iff_not, Int.reduceEq, Int.reduceLT, Int.reduceLE, Int.reduceNeg, Nat.reduceEqDiff, ↓reduceIte, not_true_eq_false, not_false_eq_true]
    omega
  | succ n ih =>
    intro a b r ha hb hn
    by_cases e : b = 0
    · subst e
      refine ⟨r, ?_⟩
      rw [sWhileC_unroll]
      simp [Q_greatest_divisor_0, L_greatest_divisor_0, bodyF, retF, sSeq, thenF, sSet, sRet, sIf, sNil, eVar, eC, e1, e2, eA, f1, aNil, aCons, tVal, tAnd', tOr', tNot', eAnd, eOr, eNot, eIf, eTup, eLst, eIsa, isaT, tyName, oNo, oSome, sPar, sUnp, setAll, gN, gT, fLen, fits_small, Out.bind_ok, Out.bind_exc, Out.bind_stuck, Out.pure_eq, D.scal, dAdd_int, dSub_int, dNeg_int, dAbs_int, dLt_int, dLe_int, dGt_int, dGe_int, dEq_int, dNe_int, List.length_cons, List.length_nil, List.map_cons, List.map_nil, List.cons_append, List.nil_append, List.append_nil, List.getElem?_cons_zero, List.getElem?_cons_succ, List.set_cons_zero, List.set_cons_succ, List.replicate, Nat.reduceAdd, Nat.reduceSub, Nat.reduceLeDiff, Nat.zero_add, Nat.add_zero, reduceIte, Bool.not_true, Bool.not_false, Bool.true_and, Bool.and_true, Bool.false_and, Bool.and_false, Bool.or_true, Bool.true_or, Bool.or_false, Bool.false_or, Bool.false_eq_true, decide_true, decide_false, decide_eq_true_eq, Bool.not_eq_true', decide_eq_false_iff_not, Int.reduceEq, Int.reduceLT, Int.reduceLE, Int.reduceNeg, Nat.reduceEqDiff, ↓reduceIte, not_true_eq_false, not_false_eq_true]
      omega
    · have hb' : 0 < b := by omega
      have h1 := Int.emod_nonneg a e
      have h2 := Int.emod_lt_of_pos a hb'
      obtain ⟨r', h⟩ := ih b (a % b) (some (.k, .int (a % b))) hb h1 (by omega)
      refine ⟨r', ?_⟩
      rw [sWhileC_unroll]
      rw [gcd_step] at h
      simp [Q_greatest_divisor_0, L_greatest_divisor_0, bodyF, retF, sSeq, thenF, sSet, sRet, sIf, sNil, eVar, eC, e1, e2, eA, f1, aNil, aCons, tVal, tAnd', tOr', tNot', eAnd, eOr, eNot, eIf, eTup, eLst, eIsa, isaT, tyName, oNo, oSome, sPar, sUnp, setAll, gN, gT, fLen, fits_small, Out.bind_ok, Out.bind_exc, Out.bind_stuck, Out.pure_eq, D.scal, dAdd_int, dSub_int, dNeg_int, dAbs_int, dLt_int, dLe_int, dGt_int, dGe_int, dEq_int, dNe_int, List.length_cons, List.length_nil, List.map_cons, List.map_nil, List.cons_append, List.nil_append, List.append_nil, List.getElem?_cons_zero, List.getElem?_cons_succ, List.set_cons_zero, List.set_cons_succ, List.replicate, Nat.reduceAdd, Nat.reduceSub, Nat.reduceLeDiff, Nat.zero_add, Nat.add_zero, reduceIte, Bool.not_true, Bool.not_false, Bool.true_and, Bool.and_true, Bool.false_and, Bool.and_false, Bool.or_true, Bool.true_or, Bool.or_false, Bool.false_or, Bool.false_eq_true, decide_true, decide_false, decide_eq_true_eq, Bool.not_eq_true', decide_eq_false_iff_not, Int.reduceEq, Int.reduceLT, Int.reduceLE, Int.reduceNeg, Nat.reduceEqDiff, ↓reduceIte, not_true_eq_false, not_false_eq_true, e, dMod_pos hb']
      exact h
theorem gd_ok {a b : Int} (ha : 0 ≤ a) (hb : 0 ≤ b) : b_greatest_divisor [.int a, .int b] = .ok (.int (a.gcd b : Nat)) := by
  obtain ⟨r', h⟩ := gd_loop b.toNat a b none ha hb (Nat.le_refl _)
  simp [b_greatest_divisor, T_greatest_divisor, bodyF, retF, sSeq, thenF, sSet, sRet, sIf, sNil, eVar, eC, e1, e2, eA, f1, aNil, aCons, tVal, tAnd', tOr', tNot', eAnd, eOr, eNot, eIf, eTup, eLst, eIsa, isaT, tyName, oNo, oSome, sPar, sUnp, setAll, gN, gT, fLen, fits_small, Out.bind_ok, Out.bind_exc, Out.bind_stuck, Out.pure_eq, D.scal, dAdd_int, dSub_int, dNeg_int, dAbs_int, dLt_int, dLe_int, dGt_int, dGe_int, dEq_int, dNe_int, List.length_cons, List.length_nil, List.map_cons, List.map_nil, List.cons_append, List.nil_append, List.append_nil, List.getElem?_cons_zero, List.getElem?_cons_succ, List.set_cons_zero, List.set_cons_succ, List.replicate, Nat.reduceAdd, Nat.reduceSub, Nat.reduceLeDiff, Nat.zero_add, Nat.add_zero, reduceIte, Bool.not_true, Bool.not_false, Bool.true_and, Bool.and_true, Bool.false_and, Bool.and_false, Bool.or_true, Bool.true_or, Bool.or_false, Bool.false_or, Bool.false_eq_true, decide_true, decide_false, decide_eq_true_eq, Bool.not_eq_true', decide_eq_false_iff_not, Int.reduceEq, Int.reduceLT, Int.reduceLE, Int.reduceNeg, Nat.reduceEqDiff, ↓reduceIte, not_true_eq_false, not_false_eq_true, h]
theorem shD_big {a b : Int} (hb : b ≠ 0) (h : b.natAbs < 2 ^ 8000) : big (shD a b) = true := by
  refine big_of (n := 8000) ?_ (by decide)
  rw [shD_abs]
  have h1 : a.gcd b ∣ b.natAbs := Int.gcd_dvd_natAbs_right a b
  have h2 := Nat.le_of_dvd (by omega) h1
  exact Nat.lt_of_le_of_lt h2 h
theorem share_ok {a b : Int} (hb : b ≠ 0) (h : b.natAbs < 2 ^ 8000) : b_share [.int a, .int b] = .ok (.tup [.int (a.fdiv (shD a b)), .int (b.fdiv (shD a b))]) := by
  have g : b_greatest_divisor [.int (a.natAbs : Int), .int (b.natAbs : Int)] = .ok (.int (a.gcd b : Nat)) := by
    rw [gd_ok (by omega) (by omega)]
    congr 3
  have hd := shD_ne (a := a) hb
  have hB := shD_big (a := a) hb h
  by_cases h0 : b < 0
  · have e : shD a b = -(a.gcd b : Int) := by unfold shD; rw [if_pos h0]
    rw [e] at hd hB ⊢
    simp [b_share, T_share, bodyF, retF, sSeq, thenF, sSet, sRet, sIf, sNil, eVar, eC, e1, e2, eA, f1, aNil, aCons, tVal, tAnd', tOr', tNot', eAnd, eOr, eNot, eIf, eTup, eLst, eIsa, isaT, tyName, oNo, oSome, sPar, sUnp, setAll, gN, gT, fLen, fits_small, Out.bind_ok, Out.bind_exc, Out.bind_stuck, Out.pure_eq, D.scal, dAdd_int, dSub_int, dNeg_int, dAbs_int, dLt_int, dLe_int, dGt_int, dGe_int, dEq_int, dNe_int, List.length_cons, List.length_nil, List.map_cons, List.map_nil, List.cons_append, List.nil_append, List.append_nil, List.getElem?_cons_zero, List.getElem?_cons_succ, List.set_cons_zero, List.set_cons_succ, List.replicate, Nat.reduceAdd, Nat.reduceSub, Nat.reduceLeDiff, Nat.zero_add, Nat.add_zero, reduceIte, Bool.not_true, Bool.not_false, Bool.true_and, Bool.and_true, Bool.false_and, Bool.and_false, Bool.or_true, Bool.true_or, Bool.or_false, Bool.false_or, Bool.false_eq_true, decide_true, decide_false, decide_eq_true_eq, Bool.not_eq_true', decide_eq_false_iff_not, Int.reduceEq, Int.reduceLT, Int.reduceLE, Int.reduceNeg, Nat.reduceEqDiff, ↓reduceIte, not_true_eq_false, not_false_eq_true, is_whole_int, hb, g, h0, dFdiv_ok hd hB]
  · have e : shD a b = (a.gcd b : Int) := by unfold shD; rw [if_neg h0]
    rw [e] at hd hB ⊢
    simp [b_share, T_share, bodyF, retF, sSeq, thenF, sSet, sRet, sIf, sNil, eVar, eC, e1, e2, eA, f1, aNil, aCons, tVal, tAnd', tOr', tNot', eAnd, eOr, eNot, eIf, eTup, eLst, eIsa, isaT, tyName, oNo, oSome, sPar, sUnp, setAll, gN, gT, fLen, fits_small, Out.bind_ok, Out.bind_exc, Out.bind_stuck, Out.pure_eq, D.scal, dAdd_int, dSub_int, dNeg_int, dAbs_int, dLt_int, dLe_int, dGt_int, dGe_int, dEq_int, dNe_int, List.length_cons, List.length_nil, List.map_cons, List.map_nil, List.cons_append, List.nil_append, List.append_nil, List.getElem?_cons_zero, List.getElem?_cons_succ, List.set_cons_zero, List.set_cons_succ, List.replicate, Nat.reduceAdd, Nat.reduceSub, Nat.reduceLeDiff, Nat.zero_add, Nat.add_zero, reduceIte, Bool.not_true, Bool.not_false, Bool.true_and, Bool.and_true, Bool.false_and, Bool.and_false, Bool.or_true, Bool.true_or, Bool.or_false, Bool.false_or, Bool.false_eq_true, decide_true, decide_false, decide_eq_true_eq, Bool.not_eq_true', decide_eq_false_iff_not, Int.reduceEq, Int.reduceLT, Int.reduceLE, Int.reduceNeg, Nat.reduceEqDiff, ↓reduceIte, not_true_eq_false, not_false_eq_true, is_whole_int, hb, g, h0, dFdiv_ok hd hB]
abbrev rl (n : Nat) (f : Nat → D) : D := .lst ((List.range n).map f)
theorem atR {n i : Nat} {f : Nat → D} (h : i < n) : ((List.range n).map f)[i]? = some (f i) := by
  rw [List.getElem?_map, List.getElem?_range h]; rfl
theorem ixR {n i : Nat} {f : Nat → D} (h : i < n) : dIx (rl n f) (.int (i : Int)) = .ok (f i) := ixL i (atR h)
theorem lenR (n : Nat) (f : Nat → D) : fLen [rl n f] = .ok (.int (n : Int)) := by simp [fLen]
theorem rl_congr {n : Nat} {f g : Nat → D} (h : ∀ i, i < n → f i = g i) : rl n f = rl n g := by
  show D.lst _ = D.lst _
  rw [List.map_congr_left fun i hi => h i (List.mem_range.mp hi)]
theorem loop_map {body : D → SD → Out Fl} {P : Nat → SD → Prop} {f : Nat → D} {n : Nat} (h : ∀ k : Nat, k < n → ∀ ς, P k ς → ∃ ς', body (f k) ς = .ok (.nx ς') ∧ P (k + 1) ς') (ς : SD) (p0 : P 0 ς) : ∃ ς', loopD body ((List.range n).map f) ς = .ok (.nx ς') ∧ P n ς' := by
  have go : ∀ m k : Nat, k + m = n → ∀ ς, P k ς → ∃ ς', loopD body ((List.range' k m).map f) ς = .ok (.nx ς') ∧ P n ς' := by
    intro m
    induction m with
    | zero => intro k hk ς p; exact ⟨ς, rfl, by rw [← hk]; exact p⟩
    | succ m ih =>
      intro k hk ς p
      obtain ⟨ς1, e1', p1⟩ := h k (by omega) ς p
      obtain ⟨ς2, e2', p2⟩ := ih (k + 1) (by omega) ς1 p1
      refine ⟨ς2, ?_, p2⟩
      rw [List.range'_succ, List.map_cons, loopD, e1']
      exact e2'
  rw [List.range_eq_range']
  exact go n 0 (by omega) ς p0
def fr (x : Int × Int) : D := .tup [.int x.1, .int x.2]
theorem fr0 (x : Int × Int) : dIx (fr x) (.int 0) = .ok (.int x.1) := ix_tup0 _ _
theorem fr1 (x : Int × Int) : dIx (fr x) (.int 1) = .ok (.int x.2) := ix_tup1 _ _ _
theorem bitsN {i : Int} {N : Nat} (h : i.natAbs ≤ N) (hN : N < 2 ^ 4000) : bitsI i ≤ 4000 := bits_of (Nat.lt_of_le_of_lt h hN)
theorem cb_gen {n : Nat} {f : Nat → Int × Int} {Q : Nat → Nat} {N : Nat} (hQ : 1 ≤ Q 0) (hf : ∀ i, i < n → 1 ≤ (f i).2 ∧ (f i).2.natAbs ≤ N ∧ Q i ≤ N ∧ Q i * (f i).2.natAbs ≤ Q (i + 1)) (hs : N < 2 ^ 4000) : ∃ L : Int, b_common_bottom [rl n (fun i => fr (f i))] = .ok (.int L) ∧ 1 ≤ L ∧ (∀ i, i < n → (f i).2 ∣ L) ∧ L.natAbs ≤ Q n := by
  obtain ⟨ς', hL, L, a2, rfl, l1, ld, lb⟩ := loop_map (body := fun x ς => gN 2 x ς >>= fun ς' => L_common_bottom_0 ς') (f := fun i => fr (f i)) (n := n)
    (P := fun k ς => ∃ (L : Int) (a2 : Option (SM × D)), ς = [some (.k, rl n (fun i => fr (f i))), some (.k, .int L), a2] ∧ 1 ≤ L ∧ (∀ i, i < k → (f i).2 ∣ L) ∧ L.natAbs ≤ Q k)
    (by
      rintro k hk ς ⟨L, a2, rfl, l1, ld, lb⟩
      obtain ⟨b1, b2, b3, b4⟩ := hf k hk
      have g := gd_ok (a := L) (b := (f k).2) (by omega) (by omega)
      have gp : 0 < L.gcd (f k).2 := Int.gcd_pos_of_ne_zero_right L (by omega)
      have gd1 : ((L.gcd (f k).2 : Nat) : Int) ∣ L := Int.gcd_dvd_left ..
      have gd2 : ((L.gcd (f k).2 : Nat) : Int) ∣ (f k).2 := Int.gcd_dvd_right ..
      have bL : bitsI L ≤ 4000 := bitsN lb (by omega)
      have bf : bitsI (f k).2 ≤ 4000 := bitsN (N := N) (by omega) (by omega)
      have bg : bitsI ((L.gcd (f k).2 : Nat) : Int) ≤ 4000 := bitsN (N := N) (by
        have := Nat.le_of_dvd (by omega) (Int.gcd_dvd_natAbs_right L (f k).2)
        show (L.gcd (f k).2) ≤ N
        omega) (by omega)
      have gp' : (0 : Int) < ((L.gcd (f k).2 : Nat) : Int) := by omega
      have x1 := fr1 (f k)
      obtain ⟨u, hu⟩ := gd1
      obtain ⟨v, hv⟩ := gd2
      have hdiv : (f k).2 / ((L.gcd (f k).2 : Nat) : Int) = v := Int.ediv_eq_of_eq_mul_right (by omega) hv
      have huv : L * v = (f k).2 * u := by
        have key : ∀ x y G : Int, x = G * u → y = G * v → x * v = y * u := fun x y G h1 h2 => by rw [h1, h2]; grind
        exact key _ _ _ hu hv
      refine ⟨[some (.k, rl n (fun i => fr (f i))), some (.k, .int (L * ((f k).2 / ((L.gcd (f k).2 : Nat) : Int)))), some (.k, fr (f k))], ?_, _, _, rfl, ?_, ?_, ?_⟩
      · refine r_gN (by walk_at "s") ?_
        unfold L_common_bottom_0
        (repeat walk_at "e")
      · rw [hdiv]
        have : 1 ≤ v := by
          rcases Int.lt_trichotomy v 0 with h | h | h
          · have := Int.mul_neg_of_pos_of_neg gp' h; omega
          · rw [h, Int.mul_zero] at hv; omega
          · omega
        have h3 : 1 * 1 ≤ L * v := Int.mul_le_mul l1 this (by decide) (by omega)
        rw [Int.one_mul] at h3
        exact h3
      · intro i hi
        rw [hdiv]
        by_cases e : i = k
        · subst e
          exact ⟨u, huv⟩
        · exact Int.dvd_trans (ld i (by omega)) (Int.dvd_mul_right L v)
      · rw [Int.natAbs_mul]
        have := Int.natAbs_ediv_le_natAbs (f k).2 ((L.gcd (f k).2 : Nat) : Int)
        exact Nat.le_trans (Nat.mul_le_mul lb this) b4)
    [some (.k, rl n (fun i => fr (f i))), some (.k, .int 1), none] ⟨1, none, rfl, by decide, fun i hi => absurd hi (by omega), by show (1 : Int).natAbs ≤ Q 0; omega⟩
  have hfor := sFor_of (g := gN 2) (its := itL (eVar 0)) (T := L_common_bottom_0) (ς := [some (.k, rl n (fun i => fr (f i))), some (.k, .int 1), none]) rfl hL
  refine ⟨L, ?_, l1, ld, lb⟩
  rw [u_common_bottom]
  unfold T_common_bottom
  (repeat walk_at "e")
theorem cb_ok {n : Nat} {f : Nat → Int × Int} {B : Nat} (hB : 1 ≤ B) (hf : ∀ i, i < n → 1 ≤ (f i).2 ∧ (f i).2 ≤ B) (hs : B ^ (n + 1) < 2 ^ 4000) : ∃ L : Int, b_common_bottom [rl n (fun i => fr (f i))] = .ok (.int L) ∧ 1 ≤ L ∧ (∀ i, i < n → (f i).2 ∣ L) ∧ L.natAbs ≤ B ^ n := by
  have hB1 : B ≤ B ^ (n + 1) := by
    have := Nat.pow_le_pow_right hB (show 1 ≤ n + 1 by omega)
    rw [Nat.pow_one] at this; exact this
  refine cb_gen (Q := fun k => B ^ k) (by show 1 ≤ B ^ 0; rw [Nat.pow_zero]; omega) (fun i hi => ?_) hs
  obtain ⟨h1, h2⟩ := hf i hi
  refine ⟨h1, by omega, Nat.pow_le_pow_right hB (by omega), ?_⟩
  show B ^ i * _ ≤ B ^ (i + 1)
  rw [Nat.pow_succ]
  exact Nat.mul_le_mul (Nat.le_refl _) (by omega)
def ex (n : Nat) (f : Nat → Int × Int) (j : Nat) : Int × Int := if j < n then f j else (1, 1)
theorem ex_cat (f : Nat → Int × Int) (n : Nat) : ((List.range n).map fun j => fr (f j)) ++ [fr (1, 1)] = (List.range (n + 1)).map fun j => fr (ex n f j) := by
  rw [List.range_succ, List.map_append]
  congr 1
  · apply List.map_congr_left
    intro j hj
    unfold ex
    rw [if_pos (List.mem_range.mp hj)]
  · show [fr (1, 1)] = [fr (ex n f n)]
    unfold ex
    rw [if_neg (by omega)]
theorem cb_ex {n : Nat} {f : Nat → Int × Int} {B : Nat} (hB : 1 ≤ B) (hf : ∀ i, i < n → 1 ≤ (f i).2 ∧ (f i).2 ≤ B) (hs : B ^ (n + 1) < 2 ^ 4000) : ∃ L : Int, b_common_bottom [rl (n + 1) (fun i => fr (ex n f i))] = .ok (.int L) ∧ 1 ≤ L ∧ (∀ i, i < n → (f i).2 ∣ L) ∧ L.natAbs ≤ B ^ n := by
  have hB1 : B ≤ B ^ (n + 1) := by
    have := Nat.pow_le_pow_right hB (show 1 ≤ n + 1 by omega)
    rw [Nat.pow_one] at this; exact this
  obtain ⟨L, h1, h2, h3, h4⟩ := cb_gen (n := n + 1) (f := ex n f) (Q := fun k => B ^ (min k n)) (N := B ^ (n + 1)) (by show 1 ≤ B ^ (min 0 n); rw [Nat.zero_min, Nat.pow_zero]; omega) (fun i hi => by
    show _ ∧ _ ∧ B ^ (min i n) ≤ _ ∧ B ^ (min i n) * _ ≤ B ^ (min (i + 1) n)
    unfold ex
    by_cases h : i < n
    · rw [if_pos h]
      obtain ⟨h1, h2⟩ := hf i h
      refine ⟨h1, by omega, Nat.pow_le_pow_right hB (by omega), ?_⟩
      rw [show min i n = i by omega, show min (i + 1) n = i + 1 by omega, Nat.pow_succ]
      exact Nat.mul_le_mul (Nat.le_refl _) (by omega)
    · rw [if_neg h]
      refine ⟨Int.le_refl 1, ?_, Nat.pow_le_pow_right hB (by omega), ?_⟩
      · show 1 ≤ _; omega
      · rw [show min i n = n by omega, show min (i + 1) n = n by omega]
        show B ^ n * 1 ≤ _
        omega) hs
  refine ⟨L, h1, h2, fun i hi => ?_, ?_⟩
  · have := h3 i (by omega)
    unfold ex at this
    rw [if_pos hi] at this
    exact this
  · have h4 : L.natAbs ≤ B ^ (min (n + 1) n) := h4
    rw [show min (n + 1) n = n by omega] at h4
    exact h4
def wv (f : Nat → Int × Int) (k : Nat) (L : Int) (n j : Nat) : Int := if j < n then -(f j).1 * (L / (f j).2) + (if j = k then L else 0) else L
theorem setR {n k : Nat} (hk : k < n) (f : Nat → D) (v : D) : ((List.range n).map f).set k v = (List.range n).map fun i => if i = k then v else f i := by
  apply List.ext_getElem?
  intro i
  rw [List.getElem?_set]
  by_cases hi : i < n
  · have r1 : ((List.range n).map fun i => if i = k then v else f i)[i]? = some (if i = k then v else f i) := atR hi
    rw [r1]
    by_cases e : k = i
    · subst e
      rw [if_pos rfl, if_pos (by simpa using hi), if_pos rfl]
    · rw [if_neg e, atR hi, if_neg (Ne.symm e)]
  · have h1 : ((List.range n).map f)[i]? = none := by simp; omega
    have h2 : ((List.range n).map fun i => if i = k then v else f i)[i]? = none := by simp; omega
    rw [h1, h2, if_neg (by omega)]
theorem ixNR {n k : Nat} (hk : k < n) (f : Nat → D) : ixN ((List.range n).map f).length (k : Int) = some k := by
  rw [List.length_map, List.length_range]
  unfold ixN
  rw [if_pos (by omega), if_pos (by omega)]; simp
theorem allR {n : Nat} {f : Nat → D} (h : ∀ i, i < n → (f i).scal = true) : ((List.range n).map f).all D.scal = true := List.all_eq_true.mpr fun d hd => by
  obtain ⟨i, hi, rfl⟩ := List.mem_map.mp hd
  exact h i (List.mem_range.mp hi)
theorem wr_ok {n : Nat} {f : Nat → Int × Int} {B : Nat} (hn : n ≤ 100) (hf : ∀ i, i < n → 1 ≤ (f i).2 ∧ (f i).2 ≤ B ∧ 0 ≤ (f i).1 ∧ (f i).1 ≤ B) {L : Int} (l1 : 1 ≤ L) (lb : L.natAbs < 2 ^ 4000) (hB : B < 2 ^ 4000) {k : Nat} (hk : k < n) :
    b_whole_row [rl n (fun i => fr (f i)), fr (1, 1), .int (k : Int), .int L] = .ok (rl (n + 1) (fun j => .int (wv f k L n j))) := by
  have bL : bitsI L ≤ 4000 := bits_of lb
  have hc : eComp [none, some 3] (itL (eVar 0)) (gN 0) cTrue X_whole_row_0 [some (.k, rl n (fun i => fr (f i))), some (.k, fr (1, 1)), some (.k, .int (k : Int)), some (.k, .int L), none] = .ok (rl n (fun j => .int (-(f j).1 * (L / (f j).2)))) := by
    refine comp_of (fun i => fr (f i)) (fun j => .int (-(f j).1 * (L / (f j).2))) rfl (fun j hj => ?_) (by rw [List.length_range]; omega)
    obtain ⟨b1, b2, t0, t1⟩ := hf j (List.mem_range.mp hj)
    have x0 := fr0 (f j)
    have x1 := fr1 (f j)
    have bt : bitsI (f j).1 ≤ 4000 := bitsN (N := B) (by omega) hB
    have bb : bitsI (f j).2 ≤ 4000 := bitsN (N := B) (by omega) hB
    refine r_turn (by walk_at "cap") (by walk_at "s") ?_
    unfold X_whole_row_0
    (repeat walk_at "e")
  have hix : dIx (rl n (fun j => .int (-(f j).1 * (L / (f j).2)))) (.int (k : Int)) = .ok (.int (-(f k).1 * (L / (f k).2))) := ixR hk
  have hixn := ixNR hk (fun j => D.int (-(f j).1 * (L / (f j).2)))
  have hsc : ((List.range n).map fun j => if j = k then D.int (-(f k).1 * (L / (f k).2) + L) else D.int (-(f j).1 * (L / (f j).2))).all D.scal = true := allR fun i _ => by split <;> rfl
  have hone : (1 : Int) * (L / 1) = L := by simp
  have hcat : dCatB (.lst ((List.range n).map fun j => if j = k then D.int (-(f k).1 * (L / (f k).2) + L) else D.int (-(f j).1 * (L / (f j).2)))) (.lst [.int (1 * (L / 1))]) = .ok (rl (n + 1) (fun j => .int (wv f k L n j))) := by
    rw [hone]
    show (if (fits _ && _) = true then Out.ok _ else _) = _
    rw [hsc, Bool.and_true, if_pos (fits_of (by simp; omega))]
    congr 2
    rw [List.range_succ, List.map_append]
    congr 1
    · apply List.map_congr_left
      intro j hj
      have hj' := List.mem_range.mp hj
      unfold wv
      rw [if_pos hj']
      by_cases e : j = k
      · rw [if_pos e, if_pos e, e]
      · rw [if_neg e, if_neg e, Int.add_zero]
    · show [D.int L] = [D.int (wv f k L n n)]
      unfold wv
      rw [if_neg (by omega)]
  have hput : sPutO 4 (eVar 2) (e2 dAdd (e2 dIx (eVarB 4) (eVar 2)) (eVar 3)) [some (.k, rl n (fun i => fr (f i))), some (.k, fr (1, 1)), some (.k, .int (k : Int)), some (.k, .int L), some (.o, rl n (fun j => .int (-(f j).1 * (L / (f j).2))))]
      = .ok (.nx [some (.k, rl n (fun i => fr (f i))), some (.k, fr (1, 1)), some (.k, .int (k : Int)), some (.k, .int L), some (.o, .lst ((List.range n).map fun j => if j = k then D.int (-(f k).1 * (L / (f k).2) + L) else D.int (-(f j).1 * (L / (f j).2))))]) := by
    rw [← setR hk]
    (repeat walk_at "e")
  have g0 : dIx (fr (1, 1)) (.int 0) = .ok (.int 1) := fr0 _
  have g1 : dIx (fr (1, 1)) (.int 1) = .ok (.int 1) := fr1 _
  rw [u_whole_row]
  unfold T_whole_row
  (repeat walk_at "e")
theorem take_drop_R {α : Type} {N m : Nat} (hm : m ≤ N) (f g : Nat → α) : ((List.range N).map f).take m ++ ((List.range N).map g).drop m = (List.range N).map fun j => if j < m then f j else g j := by
  apply List.ext_getElem?
  intro i
  by_cases hi : i < m
  · rw [List.getElem?_append_left (by simp; omega), List.getElem?_take_of_lt hi, List.getElem?_map, List.getElem?_map, List.getElem?_range (by omega)]
    show some (f i) = some (if i < m then f i else g i)
    rw [if_pos hi]
  · rw [List.getElem?_append_right (by simp; omega), List.getElem?_drop, List.length_take, List.length_map, List.length_range, Nat.min_eq_left hm, show m + (i - m) = i by omega, List.getElem?_map, List.getElem?_map]
    by_cases hN : i < N
    · rw [List.getElem?_range hN]
      show some (g i) = some (if i < m then f i else g i)
      rw [if_neg hi]
    · have : (List.range N)[i]? = none := by simp; omega
      rw [this]; rfl
theorem without_ok {N k : Nat} (hN : N ≤ 200) (hk : k < N) {r q v : Nat → Int} {last : Int} (hl : 0 < last) (bl : bitsI last ≤ 4000) (br : ∀ j, j < N → bitsI (r j) ≤ 4000) (bq : ∀ j, j < N → bitsI (q j) ≤ 4000)
    (hv : ∀ j, k < j → j < N → q k * r j - r k * q j = last * v j) :
    b_without [rl N (fun j => .int (r j)), rl N (fun j => .int (q j)), .int (k : Int), .int last] = .ok (rl N (fun j => .int (if j < k + 1 then r j else v j))) := by
  have x0 : dIx (rl N (fun j => .int (q j))) (.int (k : Int)) = .ok (.int (q k)) := ixR hk
  have x1 : dIx (rl N (fun j => .int (r j))) (.int (k : Int)) = .ok (.int (r k)) := ixR hk
  have bqk := bq k hk
  have brk := br k hk
  have mp : ∀ f : Nat → Int, (List.range N).map (fun j => D.int (f j)) = ((List.range N).map f).map D.int := fun f => by rw [List.map_map]; rfl
  have c1 : ∀ f : Nat → Int, cutD ((List.range N).map fun j => D.int (f j)) (some ((k : Int) + 1)) none = (((List.range N).map f).drop (k + 1)).map D.int := fun f => by
    have h := cut_from ((List.range N).map fun j => D.int (f j)) (k + 1)
    rw [mp f, ← List.map_drop] at h
    rw [mp f]
    exact h
  have c2 : cutD ((List.range N).map fun j => D.int (r j)) none (some ((k : Int) + 1)) = (((List.range N).map r).take (k + 1)).map D.int := by
    have h := cut_to ((List.range N).map fun j => D.int (r j)) (k + 1)
    rw [mp r, ← List.map_take] at h
    rw [mp r]
    exact h
  have hc : ∀ a6, eComp [none, none, some 4, some 5, some 3] (itZ (eSl (eVar 0) (oSome (e2 dAdd (eVar 2) (eC (.int 1)))) oNo) (eSl (eVar 1) (oSome (e2 dAdd (eVar 2) (eC (.int 1)))) oNo)) (gT [0, 1]) cTrue X_without_0
      [some (.k, rl N (fun j => .int (r j))), some (.k, rl N (fun j => .int (q j))), some (.k, .int (k : Int)), some (.k, .int last), some (.k, .int (q k)), some (.k, .int (r k)), a6]
      = .ok (.lst ((List.zipWith (fun x y => (q k * x - r k * y) / last) (((List.range N).map r).drop (k + 1)) (((List.range N).map q).drop (k + 1))).map .int)) := fun a6 => by
    refine comp_zipI (fun x y => (q k * x - r k * y) / last) ?_ (fun x hx y hy => ?_) (by simp; omega)
    · have h1 := c1 r
      have h2 := c1 q
      (repeat walk_at "e")
    · obtain ⟨i, hi, rfl⟩ := List.mem_map.mp (List.mem_of_mem_drop hx)
      obtain ⟨j, hj, rfl⟩ := List.mem_map.mp (List.mem_of_mem_drop hy)
      have b1 := br i (List.mem_range.mp hi)
      have b2 := bq j (List.mem_range.mp hj)
      refine r_turnT (by walk_at "cap") (by walk_at "all") ?_
      unfold X_without_0
      (repeat walk_at "e")
  have hcat : dCat (.lst ((((List.range N).map r).take (k + 1)).map D.int)) (.lst ((List.zipWith (fun x y => (q k * x - r k * y) / last) (((List.range N).map r).drop (k + 1)) (((List.range N).map q).drop (k + 1))).map .int)) = .ok (rl N (fun j => .int (if j < k + 1 then r j else v j))) := by
    have e : ((((List.range N).map r).take (k + 1)).map D.int) ++ ((List.zipWith (fun x y => (q k * x - r k * y) / last) (((List.range N).map r).drop (k + 1)) (((List.range N).map q).drop (k + 1))).map D.int) = (List.range N).map fun j => D.int (if j < k + 1 then r j else v j) := by
      rw [← List.drop_zipWith, List.zipWith_map, List.zipWith_self, ← List.map_append, take_drop_R (by omega), List.map_map]
      apply List.map_congr_left
      intro j hj
      show D.int (if j < k + 1 then r j else (q k * r j - r k * q j) / last) = D.int (if j < k + 1 then r j else v j)
      by_cases h : j < k + 1
      · rw [if_pos h, if_pos h]
      · rw [if_neg h, if_neg h, hv j (by omega) (List.mem_range.mp hj), Int.mul_ediv_cancel_left _ (by omega)]
    rw [dCat_ok (by simp; omega), e]
  rw [u_without]
  unfold T_without
  (repeat (first | with_reducible exact hc _ | walk_at "e"))
theorem sumR (n : Nat) (g : Nat → Int) : f1 fSum [.lst ((List.range n).map fun i => D.int (g i))] = .ok (.int (Bar.si n g)) := by
  show (match intsD ((List.range n).map fun i => D.int (g i)) with | some ns => Out.ok (D.int ns.sum) | none => .stuck) = _
  have e : (List.range n).map (fun i => D.int (g i)) = ((List.range n).map g).map D.int := by rw [List.map_map]; rfl
  rw [e, intsD_map]
  show Out.ok (D.int ((List.range n).map g).sum) = _
  rw [Bar.si_list]
theorem ixS {n : Nat} {f : Nat → D} {z : Int} (i : Nat) (hz : z = (i : Int)) (h : i < n) : dIx (rl n f) (.int z) = .ok (f i) := by rw [hz]; exact ixR h
theorem comp_from {js : List (Option Nat)} {its : SD → Out (List D)} {g : D → SD → Out SD} {e : SD → Out D} {ς : SD} {n : Nat} (lo : Int) (h : Nat → D) (hi : its ς = .ok (rangeD lo n)) (ht : ∀ k : Nat, k < n → turnC js g cTrue e ς (.int (lo + (k : Int))) = .ok (some (h k))) (hl : n ≤ 1000) :
    eComp js its g cTrue e ς = .ok (.lst ((List.range n).map h)) :=
  comp_of (fun i : Nat => D.int (lo + (i : Int))) h hi (fun k hk => ht k (List.mem_range.mp hk)) (by rw [List.length_range]; exact hl)
theorem rng2 {A B : SD → Out D} {ς : SD} {a b : Int} (ha : A ς = .ok (.int a)) (hb : B ς = .ok (.int b)) (h1 : -1000 ≤ a) (h2 : a ≤ 1000) (h3 : -1000 ≤ b) (h4 : b ≤ 1000) : itR2 A B ς = .ok (rangeD a (b - a).toNat) := by
  unfold itR2
  rw [ha, Out.bind_ok, hb, Out.bind_ok]
  show (if (small62 a && small62 b) = true then _ else _) = _
  rw [if_pos]
  unfold small62
  simp only [Bool.and_eq_true, decide_eq_true_eq]
  omega
theorem rngD {A B E : SD → Out D} {ς : SD} {a b : Int} (ha : A ς = .ok (.int a)) (hb : B ς = .ok (.int b)) (hc : E ς = .ok (.int (-1))) (h1 : -1000 ≤ a) (h2 : a ≤ 1000) (h3 : -1000 ≤ b) (h4 : b ≤ 1000) : itRD A B E ς = .ok (downD a (a - b).toNat) := by
  unfold itRD
  rw [ha, Out.bind_ok, hb, Out.bind_ok, hc, Out.bind_ok]
  show (if (smallM a && smallM b && decide ((-1 : Int) = -1)) = true then _ else _) = _
  have sm : ∀ i : Int, -1000 ≤ i → i ≤ 1000 → smallM i = true := fun i p q => by
    unfold smallM
    rw [Bool.and_eq_true, decide_eq_true_eq, decide_eq_true_eq]
    omega
  rw [sm a h1 h2, sm b h3 h4]
  rfl
def pr (a b : Int) : Int × Int := (a.fdiv (shD a b), b.fdiv (shD a b))
theorem prices_ok {n : Nat} (hn : n ≤ 100) (n1 : 1 ≤ n) {e : Nat → Nat → Int} {T : Nat → Int} {last : Int} (hl : 0 < last) (bl : bitsI last ≤ 4000) (be : ∀ i j, i < n → j ≤ n → bitsI (e i j) ≤ 4000) (bT : ∀ i, i < n → bitsI (T i) ≤ 4000) (hp : ∀ k, k < n → 0 < e k k)
    (hT : ∀ k, k < n → e k k * T k = last * e k n - Bar.si (n - k - 1) (fun i => e k (k + 1 + i) * T (k + 1 + i))) :
    b_worths_in [rl n (fun i => rl (n + 1) (fun j => .int (e i j))), .int last] = .ok (rl n (fun i => fr (pr (T i) last))) := by
  have hlen := lenR n (fun i => rl (n + 1) (fun j => .int (e i j)))
  have h0 : eComp [none] (itL (eVar 0)) (gN 0) cTrue X_worths_in_0 [some (.k, rl n (fun i => rl (n + 1) (fun j => .int (e i j)))), some (.k, .int last), some (.k, .int (n : Int)), none, none, none] = .ok (rl n (fun _ => .int 0)) :=
    comp_of (fun i => rl (n + 1) (fun j => .int (e i j))) (fun _ => .int 0) rfl (fun j _ => rfl) (by rw [List.length_range]; omega)
  obtain ⟨ς', hL, a4, a5, rfl⟩ := loop_map (body := fun x ς => gN 4 x ς >>= fun ς' => L_worths_in_0 ς') (f := fun i => D.int ((n : Int) - 1 - (i : Int))) (n := n)
    (P := fun m ς => ∃ (a4 a5 : Option (SM × D)), ς = [some (.k, rl n (fun i => rl (n + 1) (fun j => .int (e i j)))), some (.k, .int last), some (.k, .int (n : Int)), some (.o, rl n (fun i => .int (if n ≤ i + m then T i else 0))), a4, a5])
    (by
      rintro m hm ς ⟨a4, a5, rfl⟩
      obtain ⟨k, hk⟩ : ∃ k : Nat, k + m + 1 = n := ⟨n - 1 - m, by omega⟩
      have ek : (n : Int) - 1 - (m : Int) = (k : Int) := by omega
      show ∃ ς', (gN 4 (D.int ((n : Int) - 1 - (m : Int))) _ >>= fun ς' => L_worths_in_0 ς') = _ ∧ _
      rw [ek]
      have kn : k < n := by omega
      have row : dIx (rl n (fun i => rl (n + 1) (fun j => .int (e i j)))) (.int (k : Int)) = .ok (rl (n + 1) (fun j => .int (e k j))) := ixR kn
      have xn : dIx (rl (n + 1) (fun j => .int (e k j))) (.int (n : Int)) = .ok (.int (e k n)) := ixR (by omega)
      have xk : dIx (rl (n + 1) (fun j => .int (e k j))) (.int (k : Int)) = .ok (.int (e k k)) := ixR (by omega)
      have hc : ∀ a5, eComp [none, some 0, some 4, some 3] (itR2 (e2 dAdd (eVar 4) (eC (.int 1))) (eVar 2)) (gN 0) cTrue X_worths_in_1 [some (.k, rl n (fun i => rl (n + 1) (fun j => .int (e i j)))), some (.k, .int last), some (.k, .int (n : Int)), some (.o, rl n (fun i => .int (if n ≤ i + m then T i else 0))), some (.k, .int (k : Int)), a5]
          = .ok (.lst ((List.range (n - k - 1)).map fun i => .int (e k (k + 1 + i) * T (k + 1 + i)))) := fun a5 => by
        refine comp_from ((k : Int) + 1) (fun i => .int (e k (k + 1 + i) * T (k + 1 + i))) ?_ (fun i hi => ?_) (by omega)
        · have := rng2 (A := e2 dAdd (eVar 4) (eC (.int 1))) (B := eVar 2) (ς := [some (.k, rl n (fun i => rl (n + 1) (fun j => .int (e i j)))), some (.k, .int last), some (.k, .int (n : Int)), some (.o, rl n (fun i => .int (if n ≤ i + m then T i else 0))), some (.k, .int (k : Int)), a5]) (a := (k : Int) + 1) (b := (n : Int)) (by (repeat walk_at "e")) (by (repeat walk_at "e")) (by omega) (by omega) (by omega) (by omega)
          rw [show ((n : Int) - ((k : Int) + 1)).toNat = n - k - 1 by omega] at this
          exact this
        · have y1 : dIx (rl (n + 1) (fun j => .int (e k j))) (.int ((k : Int) + 1 + (i : Int))) = .ok (.int (e k (k + 1 + i))) := ixS (k + 1 + i) (by omega) (by omega)
          have y2 : dIx (rl n (fun i => .int (if n ≤ i + m then T i else 0))) (.int ((k : Int) + 1 + (i : Int))) = .ok (.int (T (k + 1 + i))) := by
            rw [ixS (k + 1 + i) (by omega) (by omega), if_pos (by omega)]
          have b1 := be k (k + 1 + i) kn (by omega)
          have b2 := bT (k + 1 + i) (by omega)
          refine r_turn (by walk_at "cap") (by walk_at "s") ?_
          unfold X_worths_in_1
          (repeat walk_at "e")
      have hsum := sumR (n - k - 1) (fun i => e k (k + 1 + i) * T (k + 1 + i))
      have bn := be k n kn (Nat.le_refl _)
      have bk := be k k kn (by omega)
      have pk := hp k kn
      have hq : (last * e k n - Bar.si (n - k - 1) (fun i => e k (k + 1 + i) * T (k + 1 + i))) / e k k = T k := by
        rw [← hT k kn]; exact Int.mul_ediv_cancel_left _ (by omega)
      have hixn := ixNR kn (fun i => D.int (if n ≤ i + m then T i else 0))
      refine ⟨[some (.k, rl n (fun i => rl (n + 1) (fun j => .int (e i j)))), some (.k, .int last), some (.k, .int (n : Int)), some (.o, rl n (fun i => .int (if n ≤ i + (m + 1) then T i else 0))), some (.k, .int (k : Int)), some (.k, .int (Bar.si (n - k - 1) (fun i => e k (k + 1 + i) * T (k + 1 + i))))], ?_, _, _, rfl⟩
      have hset : ((List.range n).map fun i => D.int (if n ≤ i + m then T i else 0)).set k (.int ((last * e k n - Bar.si (n - k - 1) (fun i => e k (k + 1 + i) * T (k + 1 + i))) / e k k)) = (List.range n).map fun i => D.int (if n ≤ i + (m + 1) then T i else 0) := by
        rw [setR kn, hq]
        apply List.map_congr_left
        intro i hi
        by_cases h : i = k
        · subst h; rw [if_pos rfl, if_pos (by omega)]
        · rw [if_neg h]
          by_cases h2 : n ≤ i + m
          · rw [if_pos h2, if_pos (by omega)]
          · rw [if_neg h2, if_neg (by omega)]
      show _ = Out.ok (Fl.nx [_, _, _, some (.o, .lst ((List.range n).map fun i => D.int (if n ≤ i + (m + 1) then T i else 0))), _, _])
      rw [← hset]
      refine r_gN (by walk_at "s") ?_
      unfold L_worths_in_0
      (repeat (first | with_reducible exact hc _ | walk_at "e")))
    [some (.k, rl n (fun i => rl (n + 1) (fun j => .int (e i j)))), some (.k, .int last), some (.k, .int (n : Int)), some (.o, rl n (fun i => .int (if n ≤ i + 0 then T i else 0))), none, none] ⟨_, _, rfl⟩
  have z0 : rl n (fun i => .int (if n ≤ i + 0 then T i else 0)) = rl n (fun _ => .int 0) := rl_congr fun i hi => by rw [if_neg (by omega)]
  have z9 : rl n (fun i => .int (if n ≤ i + n then T i else 0)) = rl n (fun i => .int (T i)) := rl_congr fun i hi => by rw [if_pos (by omega)]
  rw [z0, z9] at hL
  have hits := rngD (A := e2 dSub (eVar 2) (eC (.int 1))) (B := e1 dNeg (eC (.int 1))) (E := e1 dNeg (eC (.int 1))) (ς := [some (.k, rl n (fun i => rl (n + 1) (fun j => .int (e i j)))), some (.k, .int last), some (.k, .int (n : Int)), some (.o, rl n (fun _ => .int 0)), none, none]) (a := (n : Int) - 1) (b := -1) (by (repeat walk_at "e")) (by (repeat walk_at "e")) (by (repeat walk_at "e")) (by omega) (by omega) (by omega) (by omega)
  rw [show ((n : Int) - 1 - -1).toNat = n by omega] at hits
  have hfor := sFor_of (g := gN 4) (T := L_worths_in_0) hits hL
  have hfin : ∀ ς : SD, ς[3]? = some (some (.o, rl n (fun i => .int (T i)))) → ς[1]? = some (some (.k, .int last)) → eComp [none, some 1] (itLB (eVarB 3)) (gN 0) cTrue X_worths_in_2 ς = .ok (rl n (fun i => fr (pr (T i) last))) := fun ς h3 h1 => by
    refine comp_of (fun i => D.int (T i)) (fun i => fr (pr (T i) last)) ?_ (fun i hi => ?_) (by rw [List.length_range]; omega)
    · unfold itLB
      rw [r_varB h3, Out.bind_ok]
      show (if _ then _ else _) = _
      rw [if_pos (allR fun i _ => rfl)]
    · have hs := share_ok (a := T i) (b := last) (by omega) (Nat.lt_of_lt_of_le (of_bits bl) (Nat.pow_le_pow_right (by decide) (by decide)))
      refine r_turn (τ0 := [none, some (.k, .int last)]) (c_none (c_k h1 c_nil)) (by walk_at "s") ?_
      unfold X_worths_in_2
      show _ = Out.ok (D.tup [.int ((T i).fdiv (shD (T i) last)), .int (last.fdiv (shD (T i) last))])
      (repeat walk_at "e")
  rw [u_worths_in]
  unfold T_worths_in
  (repeat (first | with_reducible exact hfin _ (by walk_at "g") (by walk_at "g") | walk_at "e"))
theorem lw_ok {n : Nat} (hn : n ≤ 100) {v : Nat → Int} (v0 : ∀ i, i < n → 0 ≤ v i) (bv : ∀ i, i < n → bitsI (v i) ≤ 8000) (hpos : ∃ i, i < n ∧ 0 < v i) :
    ∃ G : Int, 0 < G ∧ (∀ i, i < n → G ∣ v i) ∧ b_least_whole [rl n (fun i => fr (v i, 1))] = .ok (rl n (fun i => .int (v i / G))) := by
  obtain ⟨L, hL, l1, _, lb⟩ := cb_ok (n := n) (f := fun i => (v i, 1)) (B := 1) (by decide) (fun i _ => ⟨Int.le_refl 1, Int.le_refl 1⟩) (by rw [Nat.one_pow]; decide)
  rw [Nat.one_pow] at lb
  have hL1 : L = 1 := by omega
  subst hL1
  have hc : ∀ ς : SD, ς[0]? = some (some (.k, rl n (fun i => fr (v i, 1)))) → ς[1]? = some (some (.k, .int 1)) → eComp [none, some 1] (itL (eVar 0)) (gN 0) cTrue X_least_whole_0 ς = .ok (rl n (fun i => .int (v i))) := fun ς h0 h1 => by
    refine comp_of (fun i => fr (v i, 1)) (fun i => .int (v i)) (r_itL (r_var h0)) (fun i hi => ?_) (by rw [List.length_range]; omega)
    have x0 : dIx (fr (v i, 1)) (.int 0) = .ok (.int (v i)) := fr0 _
    have x1 : dIx (fr (v i, 1)) (.int 1) = .ok (.int 1) := fr1 _
    have bi := bv i (List.mem_range.mp hi)
    have e : v i = v i * (1 / 1) := by simp
    refine r_turn (τ0 := [none, some (.k, .int 1)]) (c_none (c_k h1 c_nil)) (by walk_at "s") ?_
    unfold X_least_whole_0
    show _ = Out.ok (D.int (v i))
    conv => rhs; rw [e]
    (repeat walk_at "e")
  obtain ⟨ς', hLo, G, a4, rfl, g0, gd, gp⟩ := loop_map (body := fun x ς => gN 4 x ς >>= fun ς' => L_least_whole_0 ς') (f := fun i => D.int (v i)) (n := n)
    (P := fun m ς => ∃ (G : Int) (a4 : Option (SM × D)), ς = [some (.k, rl n (fun i => fr (v i, 1))), some (.k, .int 1), some (.k, rl n (fun i => .int (v i))), some (.k, .int G), a4] ∧ 0 ≤ G ∧ (∀ i, i < m → G ∣ v i) ∧ ((∃ i, i < m ∧ 0 < v i) → 0 < G))
    (by
      rintro m hm ς ⟨G, a4, rfl, g0, gd, gp⟩
      have hg := gd_ok (a := G) (b := v m) g0 (v0 m hm)
      refine ⟨[some (.k, rl n (fun i => fr (v i, 1))), some (.k, .int 1), some (.k, rl n (fun i => .int (v i))), some (.k, .int ((G.gcd (v m) : Nat) : Int)), some (.k, .int (v m))], ?_, _, _, rfl, by omega, ?_, ?_⟩
      · refine r_gN (by walk_at "s") ?_
        unfold L_least_whole_0
        (repeat walk_at "e")
      · intro i hi
        by_cases e : i = m
        · subst e; exact Int.gcd_dvd_right ..
        · exact Int.dvd_trans (Int.gcd_dvd_left ..) (gd i (by omega))
      · rintro ⟨i, hi, hv⟩
        by_cases e : i = m
        · subst e
          have := Int.gcd_pos_of_ne_zero_right G (show v i ≠ 0 by omega)
          omega
        · have := gp ⟨i, by omega, hv⟩
          have := Int.gcd_pos_of_ne_zero_left (v m) (show G ≠ 0 by omega)
          omega)
    [some (.k, rl n (fun i => fr (v i, 1))), some (.k, .int 1), some (.k, rl n (fun i => .int (v i))), some (.k, .int 0), none] ⟨0, none, rfl, by decide, fun i hi => absurd hi (by omega), fun ⟨i, hi, _⟩ => absurd hi (by omega)⟩
  have hfor := sFor_of (g := gN 4) (its := itL (eVar 2)) (T := L_least_whole_0) (ς := [some (.k, rl n (fun i => fr (v i, 1))), some (.k, .int 1), some (.k, rl n (fun i => .int (v i))), some (.k, .int 0), none]) rfl hLo
  have Gp := gp hpos
  have bG : bitsI G ≤ 8000 := by
    obtain ⟨i, hi, hv⟩ := hpos
    have h1 := Int.le_of_dvd hv (gd i hi)
    exact bits_of (Nat.lt_of_le_of_lt (show G.natAbs ≤ (v i).natAbs by omega) (of_bits (bv i hi)))
  have hfin : ∀ ς : SD, ς[2]? = some (some (.k, rl n (fun i => .int (v i)))) → ς[3]? = some (some (.k, .int G)) → eComp [none, some 3] (itL (eVar 2)) (gN 0) cTrue X_least_whole_1 ς = .ok (rl n (fun i => .int (v i / G))) := fun ς h2 h3 => by
    refine comp_of (fun i => D.int (v i)) (fun i => .int (v i / G)) (r_itL (r_var h2)) (fun i hi => ?_) (by rw [List.length_range]; omega)
    refine r_turn (τ0 := [none, some (.k, .int G)]) (c_none (c_k h3 c_nil)) (by walk_at "s") ?_
    unfold X_least_whole_1
    (repeat walk_at "e")
  refine ⟨G, Gp, gd, ?_⟩
  rw [u_least_whole]
  unfold T_least_whole
  (repeat (first | with_reducible exact hc _ (by walk_at "g") (by walk_at "g") | with_reducible exact hfin _ (by walk_at "g") (by walk_at "g") | walk_at "e"))
theorem share1 {a : Int} : b_share [.int a, .int 1] = .ok (fr (a, 1)) := by
  have h := share_ok (a := a) (b := 1) (by decide) (by decide)
  rw [(sh_one a).1, (sh_one a).2] at h
  exact h
theorem flow_ok {n : Nat} (hn : n ≤ 100) {k : Nat} (hk : k < n) {e : Nat → Nat → Int} {c s : Nat → Int} {last : Int} (bl : bitsI last ≤ 4000) (be : ∀ i j, i < n → j ≤ n → bitsI (e i j) ≤ 4000) (bc : ∀ i, i ≤ k → bitsI (c i) ≤ 4000) (bs : ∀ i, i < n → bitsI (s i) ≤ 4000)
    (hp : ∀ i, i < k → 0 < e i i) (ck : c k = last) (hc : ∀ i, i < k → e i i * c i = - Bar.si (k - i) (fun d => c (i + 1 + d) * e (i + 1 + d) i))
    (c0 : ∀ i, i ≤ k → 0 ≤ c i) (cp : 0 < c k) (s1 : ∀ i, i < n → 1 ≤ s i) :
    ∃ G : Int, 0 < G ∧ (∀ i, i ≤ k → G ∣ c i * s i) ∧ b_flow_in [rl n (fun i => rl (n + 1) (fun j => .int (e i j))), rl n (fun i => .int (s i)), .int (k : Int), .int last] = .ok (rl n (fun i => fr ((if i ≤ k then c i * s i else 0) / G, 1))) := by
  have h0 : ∀ ς : SD, ς[0]? = some (some (.k, rl n (fun i => rl (n + 1) (fun j => .int (e i j))))) → eComp [none] (itL (eVar 0)) (gN 0) cTrue X_flow_in_0 ς = .ok (rl n (fun _ => .int 0)) := fun ς h =>
    comp_of (fun i => rl (n + 1) (fun j => .int (e i j))) (fun _ => .int 0) (r_itL (r_var h)) (fun j _ => rfl) (by rw [List.length_range]; omega)
  have hix0 := ixNR hk (fun _ => D.int 0)
  have hset0 : ((List.range n).map fun _ => D.int 0).set k (.int last) = (List.range n).map fun i => D.int (if k ≤ i + 0 ∧ i ≤ k then c i else 0) := by
    rw [setR hk]
    apply List.map_congr_left
    intro i _
    by_cases h : i = k
    · subst h; rw [if_pos rfl, if_pos (by omega), ck]
    · rw [if_neg h, if_neg (by omega)]
  obtain ⟨ς', hL, a5, a6, a7, rfl⟩ := loop_map (body := fun x ς => gN 5 x ς >>= fun ς' => L_flow_in_0 ς') (f := fun i => D.int ((k : Int) - 1 - (i : Int))) (n := k)
    (P := fun m ς => ∃ (a5 a6 a7 : Option (SM × D)), ς = [some (.k, rl n (fun i => rl (n + 1) (fun j => .int (e i j)))), some (.k, rl n (fun i => .int (s i))), some (.k, .int (k : Int)), some (.k, .int last), some (.o, rl n (fun i => .int (if k ≤ i + m ∧ i ≤ k then c i else 0))), a5, a6, a7])
    (by
      rintro m hm ς ⟨a5, a6, a7, rfl⟩
      obtain ⟨i, hi⟩ : ∃ i : Nat, i + m + 1 = k := ⟨k - 1 - m, by omega⟩
      have ei : (k : Int) - 1 - (m : Int) = (i : Int) := by omega
      show ∃ ς', (gN 5 (D.int ((k : Int) - 1 - (m : Int))) _ >>= fun ς' => L_flow_in_0 ς') = _ ∧ _
      rw [ei]
      have inn : i < n := by omega
      have row : dIx (rl n (fun i => rl (n + 1) (fun j => .int (e i j)))) (.int (i : Int)) = .ok (rl (n + 1) (fun j => .int (e i j))) := ixR inn
      have xi : dIx (rl (n + 1) (fun j => .int (e i j))) (.int (i : Int)) = .ok (.int (e i i)) := ixR (by omega)
      have hcp : ∀ a6 a7, eComp [none, some 4, some 0, some 5] (itR2 (e2 dAdd (eVar 5) (eC (.int 1))) (e2 dAdd (eVar 2) (eC (.int 1)))) (gN 0) cTrue X_flow_in_1 [some (.k, rl n (fun i => rl (n + 1) (fun j => .int (e i j)))), some (.k, rl n (fun i => .int (s i))), some (.k, .int (k : Int)), some (.k, .int last), some (.o, rl n (fun i => .int (if k ≤ i + m ∧ i ≤ k then c i else 0))), some (.k, .int (i : Int)), a6, a7]
          = .ok (.lst ((List.range (k - i)).map fun d => .int (c (i + 1 + d) * e (i + 1 + d) i))) := fun a6 a7 => by
        refine comp_from ((i : Int) + 1) (fun d => .int (c (i + 1 + d) * e (i + 1 + d) i)) ?_ (fun d hd => ?_) (by omega)
        · have := rng2 (A := e2 dAdd (eVar 5) (eC (.int 1))) (B := e2 dAdd (eVar 2) (eC (.int 1))) (ς := [some (.k, rl n (fun i => rl (n + 1) (fun j => .int (e i j)))), some (.k, rl n (fun i => .int (s i))), some (.k, .int (k : Int)), some (.k, .int last), some (.o, rl n (fun i => .int (if k ≤ i + m ∧ i ≤ k then c i else 0))), some (.k, .int (i : Int)), a6, a7]) (a := (i : Int) + 1) (b := (k : Int) + 1) (by (repeat walk_at "e")) (by (repeat walk_at "e")) (by omega) (by omega) (by omega) (by omega)
          rw [show ((k : Int) + 1 - ((i : Int) + 1)).toNat = k - i by omega] at this
          exact this
        · have y1 : dIx (rl n (fun i => .int (if k ≤ i + m ∧ i ≤ k then c i else 0))) (.int ((i : Int) + 1 + (d : Int))) = .ok (.int (c (i + 1 + d))) := by
            rw [ixS (i + 1 + d) (by omega) (by omega), if_pos (by omega)]
          have y2 : dIx (rl n (fun i => rl (n + 1) (fun j => .int (e i j)))) (.int ((i : Int) + 1 + (d : Int))) = .ok (rl (n + 1) (fun j => .int (e (i + 1 + d) j))) := ixS (i + 1 + d) (by omega) (by omega)
          have y3 : dIx (rl (n + 1) (fun j => .int (e (i + 1 + d) j))) (.int (i : Int)) = .ok (.int (e (i + 1 + d) i)) := ixR (by omega)
          have b1 := be (i + 1 + d) i (by omega) (by omega)
          have b2 := bc (i + 1 + d) (by omega)
          refine r_turn (by walk_at "cap") (by walk_at "s") ?_
          unfold X_flow_in_1
          (repeat walk_at "e")
      have hsum := sumR (k - i) (fun d => c (i + 1 + d) * e (i + 1 + d) i)
      have bi := be i i inn (by omega)
      have pi := hp i (by omega)
      have hq : -(Bar.si (k - i) (fun d => c (i + 1 + d) * e (i + 1 + d) i)) / e i i = c i := by
        rw [← hc i (by omega)]; exact Int.mul_ediv_cancel_left _ (by omega)
      have hixn := ixNR inn (fun i => D.int (if k ≤ i + m ∧ i ≤ k then c i else 0))
      refine ⟨[some (.k, rl n (fun i => rl (n + 1) (fun j => .int (e i j)))), some (.k, rl n (fun i => .int (s i))), some (.k, .int (k : Int)), some (.k, .int last), some (.o, rl n (fun i => .int (if k ≤ i + (m + 1) ∧ i ≤ k then c i else 0))), some (.k, .int (i : Int)), some (.k, .int (Bar.si (k - i) (fun d => c (i + 1 + d) * e (i + 1 + d) i))), a7], ?_, _, _, _, rfl⟩
      have hset : ((List.range n).map fun i => D.int (if k ≤ i + m ∧ i ≤ k then c i else 0)).set i (.int (-(Bar.si (k - i) (fun d => c (i + 1 + d) * e (i + 1 + d) i)) / e i i)) = (List.range n).map fun i => D.int (if k ≤ i + (m + 1) ∧ i ≤ k then c i else 0) := by
        rw [setR inn, hq]
        apply List.map_congr_left
        intro x hx
        by_cases h : x = i
        · subst h; rw [if_pos rfl, if_pos (by omega)]
        · rw [if_neg h]
          by_cases h2 : k ≤ x + m ∧ x ≤ k
          · rw [if_pos h2, if_pos (by omega)]
          · rw [if_neg h2, if_neg (by omega)]
      show _ = Out.ok (Fl.nx [_, _, _, _, some (.o, .lst ((List.range n).map fun i => D.int (if k ≤ i + (m + 1) ∧ i ≤ k then c i else 0))), _, _, _])
      rw [← hset]
      refine r_gN (by walk_at "s") ?_
      unfold L_flow_in_0
      (repeat (first | with_reducible exact hcp _ _ | walk_at "e")))
    [some (.k, rl n (fun i => rl (n + 1) (fun j => .int (e i j)))), some (.k, rl n (fun i => .int (s i))), some (.k, .int (k : Int)), some (.k, .int last), some (.o, rl n (fun i => .int (if k ≤ i + 0 ∧ i ≤ k then c i else 0))), none, none, none] ⟨_, _, _, rfl⟩
  have z9 : rl n (fun i => .int (if k ≤ i + k ∧ i ≤ k then c i else 0)) = rl n (fun i => .int (if i ≤ k then c i else 0)) := rl_congr fun i hi => by
    by_cases h : i ≤ k
    · rw [if_pos h, if_pos (by omega)]
    · rw [if_neg h, if_neg (by omega)]
  rw [z9] at hL
  have hits := rngD (A := e2 dSub (eVar 2) (eC (.int 1))) (B := e1 dNeg (eC (.int 1))) (E := e1 dNeg (eC (.int 1))) (ς := [some (.k, rl n (fun i => rl (n + 1) (fun j => .int (e i j)))), some (.k, rl n (fun i => .int (s i))), some (.k, .int (k : Int)), some (.k, .int last), some (.o, rl n (fun i => .int (if k ≤ i + 0 ∧ i ≤ k then c i else 0))), none, none, none]) (a := (k : Int) - 1) (b := -1) (by (repeat walk_at "e")) (by (repeat walk_at "e")) (by (repeat walk_at "e")) (by omega) (by omega) (by omega) (by omega)
  rw [show ((k : Int) - 1 - -1).toNat = k by omega] at hits
  have hfor := sFor_of (g := gN 5) (T := L_flow_in_0) hits hL
  obtain ⟨G, Gp, Gd, hG⟩ := lw_ok hn (v := fun i => (if i ≤ k then c i else 0) * s i) (fun i hi => by
      show 0 ≤ (if i ≤ k then c i else 0) * s i
      have := s1 i hi
      by_cases h : i ≤ k
      · rw [if_pos h]; exact Int.mul_nonneg (c0 i h) (by omega)
      · rw [if_neg h, Int.zero_mul]; omega) (fun i hi => by
      show bitsI ((if i ≤ k then c i else 0) * s i) ≤ 8000
      by_cases h : i ≤ k
      · rw [if_pos h]; exact Nat.le_trans (bd_mul (bc i h) (bs i hi)) (by decide)
      · rw [if_neg h, Int.zero_mul]; exact Nat.le_trans (bd_lit rfl) (by decide)) ⟨k, hk, by
      show 0 < (if k ≤ k then c k else 0) * s k
      rw [if_pos (Nat.le_refl _)]
      exact Int.mul_pos cp (by have := s1 k hk; omega)⟩
  have hz : ∀ ς : SD, ς[4]? = some (some (.o, rl n (fun i => .int (if i ≤ k then c i else 0)))) → ς[1]? = some (some (.k, rl n (fun i => .int (s i)))) → eComp [none, none] (itZB (eVarB 4) (eVar 1)) (gT [0, 1]) cTrue X_flow_in_2 ς = .ok (rl n (fun i => fr ((if i ≤ k then c i else 0) * s i, 1))) := fun ς h4 h1 => by
    refine comp_of (fun i => D.tup [.int (if i ≤ k then c i else 0), .int (s i)]) (fun i => fr ((if i ≤ k then c i else 0) * s i, 1)) ?_ (fun i hi => ?_) (by rw [List.length_range]; omega)
    · unfold itZB
      rw [r_varB h4, Out.bind_ok, r_var h1, Out.bind_ok]
      show (if _ then _ else _) = _
      rw [if_pos (by rw [allR fun i _ => rfl, allR fun i _ => rfl]; rfl), List.zipWith_map, List.zipWith_self]
    · have hs := share1 (a := (if i ≤ k then c i else 0) * s i)
      have b1 : bitsI (if i ≤ k then c i else 0) ≤ 4000 := by
        by_cases h : i ≤ k
        · rw [if_pos h]; exact bc i h
        · rw [if_neg h]; exact Nat.le_trans (bd_lit rfl) (by decide)
      have b2 := bs i (List.mem_range.mp hi)
      refine r_turnT (τ0 := [none, none]) (c_none (c_none c_nil)) (by walk_at "all") ?_
      unfold X_flow_in_2
      (repeat walk_at "e")
  have hfin : ∀ ς : SD, eA (fun xs => b_least_whole (xs ++ [])) (aCons (eVar 7) aNil) ς = .ok (rl n (fun i => .int ((if i ≤ k then c i else 0) * s i / G))) → eComp [none] (itL (eA (fun xs => b_least_whole (xs ++ [])) (aCons (eVar 7) aNil))) (gN 0) cTrue X_flow_in_3 ς = .ok (rl n (fun i => fr ((if i ≤ k then c i else 0) * s i / G, 1))) := fun ς h => by
    refine comp_of (fun i => D.int ((if i ≤ k then c i else 0) * s i / G)) (fun i => fr ((if i ≤ k then c i else 0) * s i / G, 1)) (r_itL h) (fun i hi => ?_) (by rw [List.length_range]; omega)
    have hs := share1 (a := (if i ≤ k then c i else 0) * s i / G)
    refine r_turn (τ0 := [none]) (c_none c_nil) (by walk_at "s") ?_
    unfold X_flow_in_3
    (repeat walk_at "e")
  refine ⟨G, Gp, fun i hi => ?_, ?_⟩
  · have := Gd i (by omega)
    have this : G ∣ (if i ≤ k then c i else 0) * s i := this
    rw [if_pos hi] at this
    exact this
  · have eq9 : rl n (fun i => fr ((if i ≤ k then c i * s i else 0) / G, 1)) = rl n (fun i => fr ((if i ≤ k then c i else 0) * s i / G, 1)) := rl_congr fun i _ => by
      by_cases h : i ≤ k
      · rw [if_pos h, if_pos h]
      · rw [if_neg h, if_neg h, Int.zero_mul]
    rw [eq9, u_flow_in]
    unfold T_flow_in
    have hp0 : sPutO 4 (eVar 2) (eVar 3) [some (.k, rl n (fun i => rl (n + 1) (fun j => .int (e i j)))), some (.k, rl n (fun i => .int (s i))), some (.k, .int (k : Int)), some (.k, .int last), some (.o, rl n (fun _ => .int 0)), none, none, none] = .ok (.nx [some (.k, rl n (fun i => rl (n + 1) (fun j => .int (e i j)))), some (.k, rl n (fun i => .int (s i))), some (.k, .int (k : Int)), some (.k, .int last), some (.o, rl n (fun i => .int (if k ≤ i + 0 ∧ i ≤ k then c i else 0))), none, none, none]) := by
      show _ = Out.ok (Fl.nx [_, _, _, _, some (.o, .lst ((List.range n).map fun i => D.int (if k ≤ i + 0 ∧ i ≤ k then c i else 0))), _, _, _])
      rw [← hset0]
      (repeat walk_at "e")
    (repeat (first | with_reducible exact h0 _ (by walk_at "g") | with_reducible exact hz _ (by walk_at "g") (by walk_at "g") | with_reducible exact hfin _ (by repeat walk_at "e") | walk_at "e"))
theorem loop_or {body : D → SD → Out Fl} {P : Nat → SD → Prop} {R : Fl → Prop} {f : Nat → D} {n : Nat} (h : ∀ k : Nat, k < n → ∀ ς, P k ς → (∃ ς', body (f k) ς = .ok (.nx ς') ∧ P (k + 1) ς') ∨ (∃ b d, body (f k) ς = .ok (.rt b d) ∧ R (.rt b d))) (ς : SD) (p0 : P 0 ς) :
    (∃ ς', loopD body ((List.range n).map f) ς = .ok (.nx ς') ∧ P n ς') ∨ (∃ b d, loopD body ((List.range n).map f) ς = .ok (.rt b d) ∧ R (.rt b d)) := by
  have go : ∀ m k : Nat, k + m = n → ∀ ς, P k ς → (∃ ς', loopD body ((List.range' k m).map f) ς = .ok (.nx ς') ∧ P n ς') ∨ (∃ b d, loopD body ((List.range' k m).map f) ς = .ok (.rt b d) ∧ R (.rt b d)) := by
    intro m
    induction m with
    | zero => intro k hk ς p; exact .inl ⟨ς, rfl, by rw [← hk]; exact p⟩
    | succ m ih =>
      intro k hk ς p
      rw [List.range'_succ, List.map_cons]
      rcases h k (by omega) ς p with ⟨ς1, e1', p1⟩ | ⟨b, d, e1', r⟩
      · rcases ih (k + 1) (by omega) ς1 p1 with ⟨ς2, e2', p2⟩ | ⟨b, d, e2', r⟩
        · exact .inl ⟨ς2, by rw [loopD, e1']; exact e2', p2⟩
        · exact .inr ⟨b, d, by rw [loopD, e1']; exact e2', r⟩
      · exact .inr ⟨b, d, by rw [loopD, e1']; rfl, r⟩
  rw [List.range_eq_range']
  exact go n 0 (by omega) ς p0
structure Tab (n B : Nat) (tb : Nat → Nat → Int × Int) : Prop where
  n1 : 1 ≤ n
  n2 : n ≤ 100
  b1 : 1 ≤ B
  fr : ∀ i j, i < n → j < n → 1 ≤ (tb i j).2 ∧ (tb i j).2 ≤ B ∧ 0 ≤ (tb i j).1 ∧ (tb i j).1 ≤ B
  big : Bar.bN (n + 2) (2 * B ^ (n + 1)) < 2 ^ 4000
def AM (n : Nat) (tb : Nat → Nat → Int × Int) (s : Nat → Int) : Bar.Mx := fun i j => if i < n then ((wv (tb i) i (s i) n j : Int) : Rat) else 0
structure Sc (n B : Nat) (tb : Nat → Nat → Int × Int) (s : Nat → Int) : Prop where
  one : ∀ i, i < n → 1 ≤ s i
  dv : ∀ i j, i < n → j < n → (tb i j).2 ∣ s i
  le : ∀ i, i < n → (s i).natAbs ≤ B ^ n
section
variable {n B : Nat} {tb : Nat → Nat → Int × Int} {s : Nat → Int} (ht : Tab n B tb) (hs : Sc n B tb s)
include ht hs
theorem AM_z : ∀ i c, Bar.isZ (AM n tb s i c) := fun i c => by
  unfold AM
  split
  · exact ⟨_, rfl⟩
  · exact ⟨0, rfl⟩
theorem wv_le {i : Nat} (hi : i < n) (j : Nat) : (wv (tb i) i (s i) n j).natAbs ≤ 2 * B ^ (n + 1) := by
  have hB := ht.b1
  have l := hs.le i hi
  have l1 := hs.one i hi
  have e : B ^ (n + 1) = B ^ n * B := Nat.pow_succ ..
  have e0 : B ^ n ≤ B ^ n * B := Nat.le_mul_of_pos_right _ hB
  unfold wv
  by_cases hj : j < n
  · rw [if_pos hj]
    obtain ⟨b1, b2, t0, t1⟩ := ht.fr i j hi hj
    have q : (-(tb i j).1 * (s i / (tb i j).2)).natAbs ≤ B ^ n * B := by
      rw [Int.natAbs_mul, Int.natAbs_neg, Nat.mul_comm]
      exact Nat.mul_le_mul (Nat.le_trans (Int.natAbs_ediv_le_natAbs _ _) l) (by omega)
    by_cases e2 : j = i
    · rw [if_pos e2]; omega
    · rw [if_neg e2]; omega
  · rw [if_neg hj]; omega
theorem AM_lim : ∀ i c, Bar.lim ((2 * B ^ (n + 1) : Nat) : Rat) (AM n tb s i c) := fun i c => by
  unfold AM
  split
  · rename_i h
    have := wv_le ht hs h c
    constructor
    · have h1 : ((-((2 * B ^ (n + 1) : Nat) : Int) : Int) : Rat) ≤ ((wv (tb i) i (s i) n c : Int) : Rat) := Rat.intCast_le_intCast.mpr (by omega)
      rw [Rat.intCast_neg] at h1
      exact h1
    · exact Rat.intCast_le_intCast (a := wv (tb i) i (s i) n c) (b := ((2 * B ^ (n + 1) : Nat) : Int)) |>.mpr (by omega)
  · have h0 : (0 : Rat) ≤ ((2 * B ^ (n + 1) : Nat) : Rat) := by exact_mod_cast Nat.zero_le _
    constructor <;> grind
theorem AM_sgn : Bar.Sgn (AM n tb s) n where
  off := fun i j hi hj e => by
    unfold AM wv
    rw [if_pos hi, if_pos hj, if_neg (Ne.symm e), Int.add_zero]
    obtain ⟨b1, b2, t0, t1⟩ := ht.fr i j hi hj
    have l1 := hs.one i hi
    have q : -(tb i j).1 * (s i / (tb i j).2) ≤ 0 := by
      rw [Int.neg_mul]
      have := Int.mul_nonneg t0 (Int.ediv_nonneg (show 0 ≤ s i by omega) (show 0 ≤ (tb i j).2 by omega))
      omega
    exact Rat.intCast_le_intCast (a := -(tb i j).1 * (s i / (tb i j).2)) (b := 0) |>.mpr q
  one := fun i hi => by
    unfold AM wv
    rw [if_pos hi, if_neg (by omega)]
    have l1 := hs.one i hi
    exact Rat.intCast_lt_intCast (a := 0) (b := s i) |>.mpr (by omega)
end
theorem p_pos {A : Bar.Mx} : ∀ {k : Nat}, (∀ l, l < k → 0 < Bar.S l A l l) → 0 < Bar.p k A
  | 0, _ => by show (0 : Rat) < 1; grind
  | k + 1, h => Rat.mul_pos (p_pos fun l hl => h l (by omega)) (h k (by omega))
def ee (A : Bar.Mx) (k i j : Nat) : Int := Bar.E A (min k (min i j)) i j
theorem enumR (n : Nat) (f : Nat → D) : enumD 0 ((List.range n).map f) = (List.range n).map fun i : Nat => D.tup [.int (i : Int), f i] := by
  apply List.ext_getElem?
  intro i
  rw [enumD_get, Nat.zero_add]
  by_cases hi : i < n
  · have r1 : ((List.range n).map fun i : Nat => D.tup [.int (i : Int), f i])[i]? = some (D.tup [.int (i : Int), f i]) := atR hi
    rw [atR hi, r1]; rfl
  · have h1 : ((List.range n).map f)[i]? = none := by simp; omega
    have h2 : ((List.range n).map fun i : Nat => D.tup [.int (i : Int), f i])[i]? = none := by simp; omega
    rw [h1, h2]; rfl
section
variable {n B : Nat} {tb : Nat → Nat → Int × Int} {s : Nat → Int} (ht : Tab n B tb) (hs : Sc n B tb s)
include ht hs
theorem E0 {i : Nat} (hi : i < n) (j : Nat) : ee (AM n tb s) 0 i j = wv (tb i) i (s i) n j := by
  unfold ee
  rw [Nat.zero_min]
  show (1 * AM n tb s i j).num = _
  rw [Rat.one_mul]
  unfold AM
  rw [if_pos hi, Rat.num_intCast]
theorem M1' : 1 ≤ 2 * B ^ (n + 1) := by
  have := Nat.pow_le_pow_left ht.b1 (n + 1)
  rw [Nat.one_pow] at this
  omega
theorem ne_of_pos {k : Nat} (h : ∀ l, l < k → 0 < Bar.S l (AM n tb s) l l) : ∀ l, l < k → Bar.S l (AM n tb s) l l ≠ 0 := fun l hl => by have := h l hl; grind
theorem lim_bits {m : Nat} (hm : m ≤ n + 2) {z : Int} (h : Bar.lim (Bar.bnd m ((2 * B ^ (n + 1) : Nat) : Rat)) (z : Rat)) : bitsI z ≤ 4000 := by
  rw [Bar.bN_cast] at h
  exact bitsN (Nat.le_trans (Bar.lim_abs h) (Bar.bN_mono (M1' ht hs) hm)) ht.big
theorem be {k : Nat} (hk : k ≤ n) (h : ∀ l, l < k → 0 < Bar.S l (AM n tb s) l l) (i j : Nat) (hi : i < n) : bitsI (ee (AM n tb s) k i j) ≤ 4000 := by
  have hM : (0 : Rat) ≤ ((2 * B ^ (n + 1) : Nat) : Rat) := by exact_mod_cast Nat.zero_le _
  exact lim_bits ht hs (m := min k (min i j) + 1) (by omega) (Bar.E_lim (AM_z ht hs) hM (AM_lim ht hs) (fun l hl => ne_of_pos ht hs h l (by omega)) i j (by omega))
theorem bP {k : Nat} (hk : k ≤ n) (h : ∀ l, l < k → 0 < Bar.S l (AM n tb s) l l) : bitsI (Bar.P (AM n tb s) k) ≤ 4000 := by
  have hM : (0 : Rat) ≤ ((2 * B ^ (n + 1) : Nat) : Rat) := by exact_mod_cast Nat.zero_le _
  exact lim_bits ht hs (m := k) (by omega) (Bar.P_lim (AM_z ht hs) hM (AM_lim ht hs) (ne_of_pos ht hs h))
theorem P_pos {k : Nat} (h : ∀ l, l < k → 0 < Bar.S l (AM n tb s) l l) : 0 < Bar.P (AM n tb s) k := by
  have h1 := p_pos h
  rw [← Bar.P_cast (AM_z ht hs) (ne_of_pos ht hs h)] at h1
  exact Rat.intCast_lt_intCast (a := 0) |>.mp h1
theorem E_sign {k : Nat} (h : ∀ l, l < k → 0 < Bar.S l (AM n tb s) l l) : (0 < Bar.E (AM n tb s) k k k ↔ 0 < Bar.S k (AM n tb s) k k) := by
  have h1 := p_pos h
  have h2 := Bar.E_cast (AM_z ht hs) (ne_of_pos ht hs h) k k (Nat.le_refl _)
  constructor
  · intro q
    have q' : (0 : Rat) < (Bar.E (AM n tb s) k k k : Rat) := Rat.intCast_lt_intCast (a := 0) |>.mpr q
    rw [h2] at q'
    by_cases w : 0 < Bar.S k (AM n tb s) k k
    · exact w
    · have := Rat.mul_nonneg (a := Bar.p k (AM n tb s)) (b := - Bar.S k (AM n tb s) k k) (Rat.le_of_lt h1) (by grind)
      grind
  · intro q
    have q' := Rat.mul_pos h1 q
    rw [← h2] at q'
    exact Rat.intCast_lt_intCast (a := 0) |>.mp q'
end
theorem bal_ok {n B : Nat} {tb : Nat → Nat → Int × Int} (ht : Tab n B tb) : ∃ s : Nat → Int, Sc n B tb s ∧
    (((∀ l, l < n → 0 < Bar.S l (AM n tb s) l l) ∧ b_balanced [rl n (fun i => rl n (fun j => fr (tb i j))), rl n (fun _ => fr (1, 1))] = .ok (.tup [.str "rest", rl n (fun i => fr (pr (Bar.Tp (AM n tb s) n i) (Bar.P (AM n tb s) n)))]))
    ∨ ∃ k, k < n ∧ (∀ l, l < k → 0 < Bar.S l (AM n tb s) l l) ∧ Bar.S k (AM n tb s) k k ≤ 0 ∧ ∃ G : Int, 0 < G ∧ (∀ i, i ≤ k → G ∣ Bar.Cn (AM n tb s) k i * s i) ∧
      b_balanced [rl n (fun i => rl n (fun j => fr (tb i j))), rl n (fun _ => fr (1, 1))] = .ok (.tup [.str "unrest", rl n (fun i => fr ((if i ≤ k then Bar.Cn (AM n tb s) k i * s i else 0) / G, 1))])) := by
  have n1 := ht.n1
  have n2 := ht.n2
  have hB4 : B ^ (n + 1) < 2 ^ 4000 := by
    have h1 := ht.big
    have h0 := Nat.pow_le_pow_left ht.b1 (n + 1)
    rw [Nat.one_pow] at h0
    have h2 := Bar.bN_mono (M := 2 * B ^ (n + 1)) (by omega) (show 1 ≤ n + 2 by omega)
    have h3 : Bar.bN 1 (2 * B ^ (n + 1)) = 2 * B ^ (n + 1) := by show (0 + 1) * (2 * B ^ (n + 1) * 1) = _; omega
    omega
  have hBn : B ^ n ≤ B ^ (n + 1) := Nat.pow_le_pow_right ht.b1 (by omega)
  have hB1 : B ≤ B ^ (n + 1) := by
    have := Nat.pow_le_pow_right ht.b1 (show 1 ≤ n + 1 by omega)
    rw [Nat.pow_one] at this; exact this
  obtain ⟨s, hs⟩ : ∃ s : Nat → Int, ∀ i, i < n → b_common_bottom [rl (n + 1) (fun j => fr (ex n (tb i) j))] = .ok (.int (s i)) ∧ 1 ≤ s i ∧ (∀ j, j < n → (tb i j).2 ∣ s i) ∧ (s i).natAbs ≤ B ^ n := by
    have H : ∀ i, ∃ L : Int, i < n → b_common_bottom [rl (n + 1) (fun j => fr (ex n (tb i) j))] = .ok (.int L) ∧ 1 ≤ L ∧ (∀ j, j < n → (tb i j).2 ∣ L) ∧ L.natAbs ≤ B ^ n := fun i => by
      by_cases hi : i < n
      · obtain ⟨L, h1, h2, h3, h4⟩ := cb_ex (n := n) (f := tb i) ht.b1 (fun j hj => ⟨(ht.fr i j hi hj).1, (ht.fr i j hi hj).2.1⟩) hB4
        exact ⟨L, fun _ => ⟨h1, h2, h3, h4⟩⟩
      · exact ⟨1, fun h => absurd h hi⟩
    exact ⟨fun i => (H i).choose, fun i hi => (H i).choose_spec hi⟩
  have sc : Sc n B tb s := ⟨fun i hi => (hs i hi).2.1, fun i j hi hj => (hs i hi).2.2.1 j hj, fun i hi => (hs i hi).2.2.2⟩
  refine ⟨s, sc, ?_⟩
  have hz := AM_z ht sc
  generalize hA : AM n tb s = A at *
  have c0 : eComp [none, none] (itZ (eVar 0) (eVar 1)) (gT [0, 1]) cTrue X_balanced_0 [some (.k, rl n (fun i => rl n (fun j => fr (tb i j)))), some (.k, rl n (fun _ => fr (1, 1))), none, none, none, none, none] = .ok (rl n (fun i => .int (s i))) := by
    refine comp_of (fun i => D.tup [rl n (fun j => fr (tb i j)), fr (1, 1)]) (fun i => .int (s i)) ?_ (fun i hi => ?_) (by rw [List.length_range]; omega)
    · unfold itZ
      rw [r_var rfl, Out.bind_ok, r_var rfl, Out.bind_ok]
      show Out.ok (List.zipWith _ _ _) = _
      rw [List.zipWith_map, List.zipWith_self]
    · have h := (hs i (List.mem_range.mp hi)).1
      have hx : dCat (rl n (fun j => fr (tb i j))) (.lst [fr (1, 1)]) = .ok (rl (n + 1) (fun j => fr (ex n (tb i) j))) := by
        rw [dCat_ok (by simp; omega)]
        exact congrArg (fun l => Out.ok (D.lst l)) (ex_cat (tb i) n)
      refine r_turnT (by walk_at "cap") (by walk_at "all") ?_
      unfold X_balanced_0
      (repeat walk_at "e")
  have c1 : eComp [none, none, some 0, some 1] (itE (eVar 2)) (gT [0, 1]) cTrue X_balanced_1 [some (.k, rl n (fun i => rl n (fun j => fr (tb i j)))), some (.k, rl n (fun _ => fr (1, 1))), some (.k, rl n (fun i => .int (s i))), none, none, none, none] = .ok (rl n (fun i => rl (n + 1) (fun j => .int (ee A 0 i j)))) := by
    refine comp_of (fun i : Nat => D.tup [.int (i : Int), .int (s i)]) (fun i => rl (n + 1) (fun j => .int (ee A 0 i j))) ?_ (fun i hi => ?_) (by rw [List.length_range]; omega)
    · rw [← enumR]; rfl
    · have hi' := List.mem_range.mp hi
      have x1 : dIx (rl n (fun i => rl n (fun j => fr (tb i j)))) (.int (i : Int)) = .ok (rl n (fun j => fr (tb i j))) := ixR hi'
      have x2 : dIx (rl n (fun _ => fr (1, 1))) (.int (i : Int)) = .ok (fr (1, 1)) := ixR hi'
      have h := wr_ok n2 (f := tb i) (B := B) (fun j hj => ht.fr i j hi' hj) (hs i hi').2.1 (Nat.lt_of_le_of_lt (hs i hi').2.2.2 (by omega)) (by omega) hi'
      have e : rl (n + 1) (fun j => .int (ee A 0 i j)) = rl (n + 1) (fun j => .int (wv (tb i) i (s i) n j)) := rl_congr fun j _ => by rw [← hA, E0 ht sc hi']
      show turnC _ _ _ _ _ _ = .ok (some (rl (n + 1) (fun j => .int (ee A 0 i j))))
      rw [e]
      refine r_turnT (by walk_at "cap") (by walk_at "all") ?_
      unfold X_balanced_1
      (repeat walk_at "e")
  have eeq : ∀ {k i j m : Nat}, min k (min i j) = m → ee A k i j = Bar.E A m i j := fun h => by unfold ee; rw [h]
  have sgn := AM_sgn ht sc
  have sgn : Bar.Sgn A n := by rw [← hA]; exact sgn
  have beA : ∀ {k : Nat}, k ≤ n → (∀ l, l < k → 0 < Bar.S l A l l) → ∀ i j, i < n → bitsI (ee A k i j) ≤ 4000 := fun hk h i j hi => by rw [← hA] at h ⊢; exact be ht sc hk h i j hi
  have bPA : ∀ {k : Nat}, k ≤ n → (∀ l, l < k → 0 < Bar.S l A l l) → bitsI (Bar.P A k) ≤ 4000 := fun hk h => by rw [← hA] at h ⊢; exact bP ht sc hk h
  have PpA : ∀ {k : Nat}, (∀ l, l < k → 0 < Bar.S l A l l) → 0 < Bar.P A k := fun h => by rw [← hA] at h ⊢; exact P_pos ht sc h
  have EsA : ∀ {k : Nat}, (∀ l, l < k → 0 < Bar.S l A l l) → (0 < Bar.E A k k k ↔ 0 < Bar.S k A k k) := fun h => by rw [← hA] at h ⊢; exact E_sign ht sc h
  have limA : ∀ i c, Bar.lim ((2 * B ^ (n + 1) : Nat) : Rat) (A i c) := by rw [← hA]; exact AM_lim ht sc
  have neA : ∀ {k : Nat}, (∀ l, l < k → 0 < Bar.S l A l l) → ∀ l, l < k → Bar.S l A l l ≠ 0 := fun h l hl => by have := h l hl; grind
  have M1r : (1 : Rat) ≤ ((2 * B ^ (n + 1) : Nat) : Rat) := by exact_mod_cast M1' ht sc
  have key := loop_or (body := fun x ς => gN 5 x ς >>= fun ς' => L_balanced_0 ς') (f := fun i : Nat => D.int (0 + (i : Int))) (n := n)
    (P := fun k ς => (∃ (a4 a5 : Option (SM × D)), ς = [some (.k, rl n (fun i => rl n (fun j => fr (tb i j)))), some (.k, rl n (fun _ => fr (1, 1))), some (.k, rl n (fun i => .int (s i))), some (.k, rl n (fun i => rl (n + 1) (fun j => .int (ee A k i j)))), some (.k, .int (Bar.P A k)), a4, a5]) ∧ ∀ l, l < k → 0 < Bar.S l A l l)
    (R := fun f => ∃ k, k < n ∧ (∀ l, l < k → 0 < Bar.S l A l l) ∧ Bar.S k A k k ≤ 0 ∧ ∃ G : Int, 0 < G ∧ (∀ i, i ≤ k → G ∣ Bar.Cn A k i * s i) ∧ f = .rt false (.tup [.str "unrest", rl n (fun i => fr ((if i ≤ k then Bar.Cn A k i * s i else 0) / G, 1))]))
    (by
      rintro k hk ς ⟨⟨a4, a5, rfl⟩, hpos⟩
      rw [Int.zero_add]
      have row : dIx (rl n (fun i => rl (n + 1) (fun j => .int (ee A k i j)))) (.int (k : Int)) = .ok (rl (n + 1) (fun j => .int (ee A k k j))) := ixR hk
      have xkk : dIx (rl (n + 1) (fun j => .int (ee A k k j))) (.int (k : Int)) = .ok (.int (ee A k k k)) := ixR (by omega)
      have ekk : ee A k k k = Bar.E A k k k := eeq (by omega)
      by_cases hle : ee A k k k ≤ 0
      · right
        have gle : decide (ee A k k k ≤ 0) = true := decide_eq_true hle
        have hS : Bar.S k A k k ≤ 0 := by
          have := EsA hpos
          rw [ekk] at hle
          have h2 : ¬ 0 < Bar.S k A k k := fun w => by have := this.mpr w; omega
          grind
        have hCc : ∀ c, c ≤ k → (Bar.Cn A k c : Rat) = Bar.p k A * Bar.Y A k c := fun c hc => Bar.Cn_cast hz (neA hpos) c hc
        obtain ⟨G, Gp, Gd, hF⟩ := flow_ok n2 hk (e := ee A k) (c := Bar.Cn A k) (s := s) (last := Bar.P A k) (bPA (by omega) hpos) (fun i j hi _ => beA (by omega) hpos i j hi)
          (fun i hi => by
            have := Bar.Cn_lim hz M1r limA (neA hpos) i hi
            rw [Bar.bN_cast] at this
            exact bitsN (Nat.le_trans (Bar.lim_abs this) (Bar.bN_mono (M1' ht sc) (show k + 1 ≤ n + 2 by omega))) ht.big)
          (fun i hi => bitsN (hs i hi).2.2.2 (by omega))
          (fun i hi => by rw [eeq (m := i) (by omega)]; exact (EsA fun l hl => hpos l (by omega)).mpr (hpos i hi))
          (Bar.Cn_top hz (neA hpos))
          (fun i hi => by
            have e7 : (fun d => Bar.Cn A k (i + 1 + d) * ee A k (i + 1 + d) i) = fun d => Bar.Cn A k (i + 1 + d) * Bar.E A i (i + 1 + d) i := funext fun d => by rw [eeq (k := k) (i := i + 1 + d) (j := i) (m := i) (by omega)]
            rw [eeq (k := k) (i := i) (j := i) (m := i) (by omega), e7]
            exact Bar.Cn_step hz (neA hpos) i hi)
          (fun i hi => by
            have h1 := Rat.mul_nonneg (Rat.le_of_lt (p_pos hpos)) (Bar.Y_pos sgn hk hpos (k - i) i (by omega))
            rw [← hCc i hi] at h1
            exact Rat.intCast_le_intCast (a := 0) |>.mp h1)
          (by rw [Bar.Cn_top hz (neA hpos)]; exact PpA hpos)
          (fun i hi => (hs i hi).2.1)
        refine ⟨false, .tup [.str "unrest", rl n (fun i => fr ((if i ≤ k then Bar.Cn A k i * s i else 0) / G, 1))], ?_, k, hk, hpos, hS, G, Gp, Gd, rfl⟩
        refine r_gN (by walk_at "s") ?_
        unfold L_balanced_0
        (repeat walk_at "e")
      · left
        have gle : decide (ee A k k k ≤ 0) = false := decide_eq_false hle
        have hSk : 0 < Bar.S k A k k := (EsA hpos).mp (by rw [ekk] at hle; omega)
        have hpos' : ∀ l, l < k + 1 → 0 < Bar.S l A l l := fun l hl => by
          by_cases e : l = k
          · rw [e]; exact hSk
          · exact hpos l (by omega)
        have bl := bPA (by omega) hpos
        have pl := PpA hpos
        have mp : ∀ m, m ≤ n → ((List.range n).map fun i => rl (n + 1) (fun j => .int (ee A k i j))).drop m = (List.range' m (n - m)).map fun i => rl (n + 1) (fun j => .int (ee A k i j)) := fun m _ => by
          rw [← List.map_drop, List.range_eq_range', List.drop_range']
          simp
        have cd : cutD ((List.range n).map fun i => rl (n + 1) (fun j => .int (ee A k i j))) (some ((k : Int) + 1)) none = (List.range' (k + 1) (n - (k + 1))).map fun i => rl (n + 1) (fun j => .int (ee A k i j)) := by
          rw [← mp (k + 1) (by omega)]
          exact cut_from _ (k + 1)
        have ct : cutD ((List.range n).map fun i => rl (n + 1) (fun j => .int (ee A k i j))) none (some ((k : Int) + 1)) = ((List.range n).map fun i => rl (n + 1) (fun j => .int (ee A k i j))).take (k + 1) := cut_to _ (k + 1)
        have hc : ∀ a5, eComp [none, some 3, some 5, some 4] (itL (eSl (eVar 3) (oSome (e2 dAdd (eVar 5) (eC (.int 1)))) oNo)) (gN 0) cTrue X_balanced_2 [some (.k, rl n (fun i => rl n (fun j => fr (tb i j)))), some (.k, rl n (fun _ => fr (1, 1))), some (.k, rl n (fun i => .int (s i))), some (.k, rl n (fun i => rl (n + 1) (fun j => .int (ee A k i j)))), some (.k, .int (Bar.P A k)), some (.k, .int (k : Int)), a5]
            = .ok (.lst ((List.range' (k + 1) (n - (k + 1))).map fun i => rl (n + 1) (fun j => .int (ee A (k + 1) i j)))) := fun a5 => by
          refine comp_of (fun i => rl (n + 1) (fun j => .int (ee A k i j))) (fun i => rl (n + 1) (fun j => .int (ee A (k + 1) i j))) (by (repeat walk_at "e")) (fun i hi => ?_) (by simp; omega)
          obtain ⟨i1, i2⟩ : k + 1 ≤ i ∧ i < n := by
            have := List.mem_range'_1.mp hi
            omega
          have w := without_ok (N := n + 1) (by omega) (show k < n + 1 by omega) (r := ee A k i) (q := ee A k k) (v := fun j => Bar.E A (k + 1) i j) pl bl (fun j _ => beA (by omega) hpos i j i2) (fun j _ => beA (by omega) hpos k j hk)
            (fun j h1 h2 => by
              rw [ekk, eeq (k := k) (i := i) (j := j) (m := k) (by omega), eeq (k := k) (i := i) (j := k) (m := k) (by omega), eeq (k := k) (i := k) (j := j) (m := k) (by omega)]
              exact Bar.E_step hz (neA hpos') i j (by omega))
          have e9 : rl (n + 1) (fun j => .int (if j < k + 1 then ee A k i j else Bar.E A (k + 1) i j)) = rl (n + 1) (fun j => .int (ee A (k + 1) i j)) := rl_congr fun j _ => by
            by_cases h : j < k + 1
            · rw [if_pos h, eeq (k := k) (i := i) (j := j) (m := j) (by omega), eeq (k := k + 1) (i := i) (j := j) (m := j) (by omega)]
            · rw [if_neg h, eeq (k := k + 1) (i := i) (j := j) (m := k + 1) (by omega)]
          rw [e9] at w
          refine r_turn (by walk_at "cap") (by walk_at "s") ?_
          unfold X_balanced_2
          (repeat walk_at "e")
        have hcat : dCat (.lst (((List.range n).map fun i => rl (n + 1) (fun j => .int (ee A k i j))).take (k + 1))) (.lst ((List.range' (k + 1) (n - (k + 1))).map fun i => rl (n + 1) (fun j => .int (ee A (k + 1) i j)))) = .ok (rl n (fun i => rl (n + 1) (fun j => .int (ee A (k + 1) i j)))) := by
          have e8 : (List.range' (k + 1) (n - (k + 1))).map (fun i => rl (n + 1) (fun j => .int (ee A (k + 1) i j))) = ((List.range n).map fun i => rl (n + 1) (fun j => .int (ee A (k + 1) i j))).drop (k + 1) := by
            rw [← List.map_drop, List.range_eq_range', List.drop_range']
            simp
          rw [dCat_ok (by simp; omega), e8, take_drop_R (by omega)]
          refine congrArg (fun l => Out.ok (D.lst l)) ?_
          apply List.map_congr_left
          intro i hi
          by_cases h : i < k + 1
          · rw [if_pos h]
            exact rl_congr fun j _ => by rw [eeq (k := k) (i := i) (j := j) (m := min i j) (by omega), eeq (k := k + 1) (i := i) (j := j) (m := min i j) (by omega)]
          · rw [if_neg h]
        have row' : dIx (rl n (fun i => rl (n + 1) (fun j => .int (ee A (k + 1) i j)))) (.int (k : Int)) = .ok (rl (n + 1) (fun j => .int (ee A (k + 1) k j))) := ixR hk
        have xkk' : dIx (rl (n + 1) (fun j => .int (ee A (k + 1) k j))) (.int (k : Int)) = .ok (.int (Bar.P A (k + 1))) := by
          rw [ixR (show k < n + 1 by omega), eeq (k := k + 1) (i := k) (j := k) (m := k) (by omega)]; rfl
        refine ⟨[some (.k, rl n (fun i => rl n (fun j => fr (tb i j)))), some (.k, rl n (fun _ => fr (1, 1))), some (.k, rl n (fun i => .int (s i))), some (.k, rl n (fun i => rl (n + 1) (fun j => .int (ee A (k + 1) i j)))), some (.k, .int (Bar.P A (k + 1))), some (.k, .int (k : Int)), some (.k, .lst (((List.range n).map fun i => rl (n + 1) (fun j => .int (ee A k i j))).take (k + 1)))], ?_, ⟨_, _, rfl⟩, hpos'⟩
        refine r_gN (by walk_at "s") ?_
        unfold L_balanced_0
        (repeat (first | with_reducible exact hc _ | walk_at "e")))
    [some (.k, rl n (fun i => rl n (fun j => fr (tb i j)))), some (.k, rl n (fun _ => fr (1, 1))), some (.k, rl n (fun i => .int (s i))), some (.k, rl n (fun i => rl (n + 1) (fun j => .int (ee A 0 i j)))), some (.k, .int 1), none, none] ⟨⟨_, _, rfl⟩, fun l hl => absurd hl (by omega)⟩
  have hits : itR1 (eA fLen (aCons (eVar 0) aNil)) [some (.k, rl n (fun i => rl n (fun j => fr (tb i j)))), some (.k, rl n (fun _ => fr (1, 1))), some (.k, rl n (fun i => .int (s i))), some (.k, rl n (fun i => rl (n + 1) (fun j => .int (ee A 0 i j)))), some (.k, .int 1), none, none] = .ok (rangeD 0 n) := rng_ok n (by
    have hlen := lenR n (fun i => rl n (fun j => fr (tb i j)))
    (repeat walk_at "e")) (by omega)
  rcases key with ⟨ς', hL, ⟨a4, a5, rfl⟩, hpos⟩ | ⟨b, d, hL, k, hk, hpos, hS, G, Gp, Gd, hd⟩
  · left
    refine ⟨hpos, ?_⟩
    have hfor := sFor_of (g := gN 5) (T := L_balanced_0) hits hL
    have hp := prices_ok n2 n1 (e := ee A n) (T := Bar.Tp A n) (last := Bar.P A n) (PpA hpos) (bPA (Nat.le_refl _) hpos) (fun i j hi _ => beA (Nat.le_refl _) hpos i j hi)
      (fun i hi => by
        have := Bar.Tp_lim hz M1r limA (neA hpos) i hi
        rw [Bar.bN_cast] at this
        exact bitsN (Nat.le_trans (Bar.lim_abs this) (Bar.bN_mono (M1' ht sc) (show n + 1 ≤ n + 2 by omega))) ht.big)
      (fun k hk => by rw [eeq (m := k) (by omega)]; exact (EsA fun l hl => hpos l (by omega)).mpr (hpos k hk))
      (fun k hk => by
        have e7 : (fun i => ee A n k (k + 1 + i) * Bar.Tp A n (k + 1 + i)) = fun i => Bar.E A k k (k + 1 + i) * Bar.Tp A n (k + 1 + i) := funext fun i => by rw [eeq (k := n) (i := k) (j := k + 1 + i) (m := k) (by omega)]
        rw [eeq (k := n) (i := k) (j := k) (m := k) (by omega), eeq (k := n) (i := k) (j := n) (m := k) (by omega), e7]
        exact Bar.Tp_step hz (neA hpos) k hk)
    rw [u_balanced]
    unfold T_balanced
    (repeat walk_at "e")
  · right
    refine ⟨k, hk, hpos, hS, G, Gp, Gd, ?_⟩
    rw [hd] at hL
    have hfor := sFor_of (g := gN 5) (T := L_balanced_0) hits hL
    rw [u_balanced]
    unfold T_balanced
    (repeat walk_at "e")
theorem left_eq {n : Nat} (hn : n ≤ 100) {f : Nat → D} {d : D} (hb : b_balanced [rl n f, rl n (fun _ => fr (1, 1))] = .ok d) : b_left_out [rl n f] = .ok d := by
  have hc : eComp [none] (itL (eVar 0)) (gN 0) cTrue X_left_out_0 [some (.k, rl n f)] = .ok (rl n (fun _ => fr (1, 1))) := by
    refine comp_of f (fun _ => fr (1, 1)) rfl (fun i _ => ?_) (by rw [List.length_range]; omega)
    have hs := share1 (a := 1)
    refine r_turn (by walk_at "cap") (by walk_at "s") ?_
    unfold X_left_out_0
    (repeat walk_at "e")
  rw [u_left_out]
  unfold T_left_out
  (repeat walk_at "e")
theorem left_ok {n B : Nat} {tb : Nat → Nat → Int × Int} (ht : Tab n B tb) : ∃ s : Nat → Int, Sc n B tb s ∧
    (((∀ l, l < n → 0 < Bar.S l (AM n tb s) l l) ∧ b_left_out [rl n (fun i => rl n (fun j => fr (tb i j)))] = .ok (.tup [.str "rest", rl n (fun i => fr (pr (Bar.Tp (AM n tb s) n i) (Bar.P (AM n tb s) n)))]))
    ∨ ∃ k, k < n ∧ (∀ l, l < k → 0 < Bar.S l (AM n tb s) l l) ∧ Bar.S k (AM n tb s) k k ≤ 0 ∧ ∃ G : Int, 0 < G ∧ (∀ i, i ≤ k → G ∣ Bar.Cn (AM n tb s) k i * s i) ∧
      b_left_out [rl n (fun i => rl n (fun j => fr (tb i j)))] = .ok (.tup [.str "unrest", rl n (fun i => fr ((if i ≤ k then Bar.Cn (AM n tb s) k i * s i else 0) / G, 1))])) := by
  obtain ⟨s, hs, ⟨hp, hl⟩ | ⟨k, hk, hp, h0, G, hG, hd, hl⟩⟩ := bal_ok ht
  · exact ⟨s, hs, .inl ⟨hp, left_eq ht.n2 hl⟩⟩
  · exact ⟨s, hs, .inr ⟨k, hk, hp, h0, G, hG, hd, left_eq ht.n2 hl⟩⟩
def qt (x : Int × Int) : Rat := (x.1 : Rat) / (x.2 : Rat)
theorem cast_ne {z : Int} (h : 1 ≤ z) : (z : Rat) ≠ 0 := fun w => by
  have := Rat.intCast_inj (a := z) (b := 0) |>.mp w
  omega
theorem div_le_abs {a : Int} (b : Int) {m : Nat} (h : bitsI a ≤ m) : bitsI (a.fdiv b) ≤ m := bits_of (Nat.lt_of_le_of_lt (Int.natAbs_fdiv_le_natAbs a b) (of_bits h))
theorem sm_nn : ∀ {n : Nat} {f : Nat → Rat}, (∀ i, i < n → 0 ≤ f i) → 0 ≤ Bar.sm n f
  | 0, _, _ => Rat.le_refl
  | n + 1, f, h => by
    show 0 ≤ Bar.sm n f + f n
    have h1 := sm_nn (n := n) (f := f) fun i hi => h i (by omega)
    have h2 := h n (by omega)
    grind
theorem sm_pos : ∀ {n k : Nat} {f : Nat → Rat}, (∀ i, i < n → 0 ≤ f i) → k < n → 0 < f k → 0 < Bar.sm n f
  | 0, _, _, _, h, _ => absurd h (by omega)
  | n + 1, k, f, h, hk, hp => by
    show 0 < Bar.sm n f + f n
    by_cases e : k = n
    · have h1 := sm_nn (n := n) (f := f) fun i hi => h i (by omega)
      rw [e] at hp
      grind
    · have h1 := sm_pos (n := n) (k := k) (f := f) (fun i hi => h i (by omega)) (by omega) hp
      have h2 := h n (by omega)
      grind
theorem r_cancel {a x y : Rat} (ha : a ≠ 0) (h : a * x = a * y) : x = y := by
  have h1 : x = (a * x) / a := by grind
  have h2 : y = (a * y) / a := by grind
  rw [h1, h, ← h2]
theorem dv_cast {a b : Int} (hb : 1 ≤ b) (h : b ∣ a) : ((a / b : Int) : Rat) = (a : Rat) / (b : Rat) := by
  obtain ⟨c, rfl⟩ := h
  rw [Int.mul_ediv_cancel_left _ (by omega : b ≠ 0), Rat.intCast_mul]
  have := cast_ne hb
  grind
theorem qt_pr {a b : Int} (hb : b ≠ 0) : qt (pr a b) = (a : Rat) / (b : Rat) := by
  have h1 := sh_worth (a := a) hb
  have h2 := (sh_low (a := a) hb).1
  have h3 := congrArg (fun z : Int => (z : Rat)) h1
  simp only [Rat.intCast_mul] at h3
  have h4 := cast_ne h2
  have h5 : (b : Rat) ≠ 0 := fun w => hb (Rat.intCast_inj (a := b) (b := 0) |>.mp w)
  unfold qt pr
  generalize ((a.fdiv (shD a b) : Int) : Rat) = x at *
  generalize ((b.fdiv (shD a b) : Int) : Rat) = y at *
  have : x = (x * (b : Rat)) / (b : Rat) := by grind
  rw [this, h3]
  grind
section
variable {n B : Nat} {tb : Nat → Nat → Int × Int} {s : Nat → Int} (ht : Tab n B tb) (hs : Sc n B tb s)
include ht hs
theorem AM_in {i j : Nat} (hi : i < n) (hj : j < n) : AM n tb s i j = (s i : Rat) * ((if j = i then 1 else 0) - qt (tb i j)) := by
  unfold AM wv
  rw [if_pos hi, if_pos hj]
  have h1 := (ht.fr i j hi hj).1
  have h2 := dv_cast h1 (hs.dv i j hi hj)
  rw [Rat.intCast_add, Rat.intCast_mul, Rat.intCast_neg, h2]
  unfold qt
  have h3 := cast_ne h1
  split
  · grind
  · have : ((0 : Int) : Rat) = 0 := rfl
    rw [this]; grind
theorem AM_n {i : Nat} (hi : i < n) : AM n tb s i n = (s i : Rat) := by
  unfold AM wv
  rw [if_pos hi, if_neg (by omega)]
theorem bT (h : ∀ l, l < n → 0 < Bar.S l (AM n tb s) l l) {k : Nat} (hk : k < n) : bitsI (Bar.Tp (AM n tb s) n k) ≤ 4000 := by
  have hM : (1 : Rat) ≤ ((2 * B ^ (n + 1) : Nat) : Rat) := by exact_mod_cast M1' ht hs
  exact lim_bits ht hs (m := n + 1) (by omega) (Bar.Tp_lim (AM_z ht hs) hM (AM_lim ht hs) (ne_of_pos ht hs h) k hk)
theorem pr_X (h : ∀ l, l < n → 0 < Bar.S l (AM n tb s) l l) {i : Nat} (hi : i < n) : qt (pr (Bar.Tp (AM n tb s) n i) (Bar.P (AM n tb s) n)) = Bar.X (AM n tb s) n i := by
  have p0 := P_pos ht hs h
  rw [qt_pr (by omega), Bar.P_cast (AM_z ht hs) (ne_of_pos ht hs h), Bar.Tp_cast (AM_z ht hs) (ne_of_pos ht hs h) i hi]
  have := p_pos h
  grind
theorem X_is (h : ∀ l, l < n → 0 < Bar.S l (AM n tb s) l l) {i : Nat} (hi : i < n) : Bar.X (AM n tb s) n i = 1 + Bar.sm n (fun j => qt (tb i j) * Bar.X (AM n tb s) n j) := by
  have h1 := Bar.X_row (AM n tb s) n (ne_of_pos ht hs h) i hi
  rw [AM_n ht hs hi] at h1
  have h2 : Bar.sm n (fun d => AM n tb s i d * Bar.X (AM n tb s) n d) = (s i : Rat) * (Bar.X (AM n tb s) n i - Bar.sm n (fun j => qt (tb i j) * Bar.X (AM n tb s) n j)) := by
    have e : Bar.sm n (fun d => AM n tb s i d * Bar.X (AM n tb s) n d) = Bar.sm n (fun d => (s i : Rat) * (Bar.X (AM n tb s) n d * (if d = i then 1 else 0) + (-1) * (qt (tb i d) * Bar.X (AM n tb s) n d))) := Bar.sm_congr fun d hd => by
      show AM n tb s i d * _ = _
      rw [AM_in ht hs hi hd]; grind
    rw [e, Bar.sm_mul, Bar.sm_add, Bar.sm_unit hi, Bar.sm_mul]
    grind
  rw [h2] at h1
  have h3 := cast_ne (hs.one i hi)
  have h4 : (Bar.X (AM n tb s) n i - Bar.sm n (fun j => qt (tb i j) * Bar.X (AM n tb s) n j)) = 1 := r_cancel h3 (by rw [h1]; grind)
  grind
theorem flow_is {k : Nat} (hk : k < n) (h : ∀ l, l < k → 0 < Bar.S l (AM n tb s) l l) (h0 : Bar.S k (AM n tb s) k k ≤ 0) :
    ∃ y : Nat → Rat, (∀ i, i < n → 0 ≤ y i) ∧ 0 < Bar.sm n y ∧ ∀ j, j < n → y j ≤ Bar.sm n (fun i => qt (tb i j) * y i) := by
  generalize hF : (fun i : Nat => if i ≤ k then Bar.Y (AM n tb s) k i * (s i : Rat) else 0) = F
  have hF' : ∀ i, F i = if i ≤ k then Bar.Y (AM n tb s) k i * (s i : Rat) else 0 := fun i => by rw [← hF]
  have F0 : ∀ i, i < n → 0 ≤ F i := fun i hi => by
    rw [hF']
    split
    · rename_i w
      have s1 : (0 : Rat) < (s i : Rat) := Rat.intCast_pos.mpr (by have := hs.one i hi; omega)
      exact Rat.mul_nonneg (Bar.Y_pos (AM_sgn ht hs) hk h (k - i) i (by omega)) (Rat.le_of_lt s1)
    · exact Rat.le_refl
  have Fk : 0 < F k := by
    rw [hF', if_pos (Nat.le_refl _), Bar.Y_top, Rat.one_mul]
    exact Rat.intCast_pos.mpr (by have := hs.one k hk; omega)
  refine ⟨F, F0, sm_pos F0 hk Fk, fun j hj => ?_⟩
  have fl := Bar.flow_ok (AM_sgn ht hs) hk h h0 j hj
  have d1 : Bar.sm n (fun i => F i * (if i = j then 1 else 0) + (-1) * (qt (tb i j) * F i)) = F j - Bar.sm n (fun i => qt (tb i j) * F i) := by
    rw [Bar.sm_add, Bar.sm_unit hj, Bar.sm_mul]; grind
  have d2 : Bar.sm n (fun i => F i * (if i = j then 1 else 0) + (-1) * (qt (tb i j) * F i)) = Bar.sm (k + 1) (fun i => Bar.Y (AM n tb s) k i * AM n tb s i j) := by
    have en : n = (k + 1) + (n - (k + 1)) := by omega
    rw [congrArg (fun m => Bar.sm m (fun i => F i * (if i = j then 1 else 0) + (-1) * (qt (tb i j) * F i))) en, Bar.sm_split]
    have z : Bar.sm (n - (k + 1)) (fun e => F (k + 1 + e) * (if k + 1 + e = j then 1 else 0) + (-1) * (qt (tb (k + 1 + e) j) * F (k + 1 + e))) = 0 := Bar.sm_zero fun e he => by
      rw [hF' _, if_neg (by omega)]; grind
    rw [z]
    have w : Bar.sm (k + 1) (fun i => F i * (if i = j then 1 else 0) + (-1) * (qt (tb i j) * F i)) = Bar.sm (k + 1) (fun i => Bar.Y (AM n tb s) k i * AM n tb s i j) := Bar.sm_congr fun i hi => by
      show F i * (if i = j then 1 else 0) + (-1) * (qt (tb i j) * F i) = Bar.Y (AM n tb s) k i * AM n tb s i j
      rw [AM_in ht hs (show i < n by omega) hj, hF' i, if_pos (by omega)]
      by_cases q : i = j
      · rw [if_pos q, if_pos q.symm]; grind
      · rw [if_neg q, if_neg (Ne.symm q)]; grind
    rw [w]; grind
  grind
end
def restT (n : Nat) (t : Nat → Nat → Rat) (x : Nat → Rat) : Prop := (∀ i, i < n → 0 < x i) ∧ ∀ i, i < n → x i = 1 + Bar.sm n (fun j => t i j * x j)
def flowT (n : Nat) (t : Nat → Nat → Rat) (y : Nat → Rat) : Prop := (∀ i, i < n → 0 ≤ y i) ∧ 0 < Bar.sm n y ∧ ∀ j, j < n → y j ≤ Bar.sm n (fun i => t i j * y i)
theorem not_both {n : Nat} {t : Nat → Nat → Rat} {x y : Nat → Rat} (hx : restT n t x) (hy : flowT n t y) : False := by
  have a : Bar.sm n (fun i => y i * x i) = Bar.sm n y + Bar.sm n (fun j => Bar.sm n (fun i => t i j * y i) * x j) := by
    have e : Bar.sm n (fun i => y i * x i) = Bar.sm n (fun i => y i + Bar.sm n (fun j => y i * (t i j * x j))) := Bar.sm_congr fun i hi => by
      show y i * x i = y i + Bar.sm n (fun j => y i * (t i j * x j))
      rw [Bar.sm_mul, hx.2 i hi]
      have := hx.2 i hi
      grind
    rw [e, Bar.sm_add, Bar.sm_swap]
    congr 1
    exact Bar.sm_congr fun j hj => by
      show Bar.sm n (fun i => y i * (t i j * x j)) = _
      have e2' : Bar.sm n (fun i => y i * (t i j * x j)) = Bar.sm n (fun i => x j * (t i j * y i)) := Bar.sm_congr fun i _ => by grind
      rw [e2', Bar.sm_mul, Rat.mul_comm]
  have b : Bar.sm n (fun i => y i * x i + (-1) * (Bar.sm n (fun c => t c i * y c) * x i)) ≤ 0 := Bar.sm_np fun i hi => by
    have h1 := hy.2.2 i hi
    have h2 := hx.1 i hi
    have h3 := Rat.mul_nonneg (a := Bar.sm n (fun c => t c i * y c) - y i) (b := x i) (by grind) (Rat.le_of_lt h2)
    grind
  rw [Bar.sm_add, Bar.sm_mul] at b
  have := hy.2.1
  grind
theorem top_of : ∀ {n : Nat} (g : Nat → Rat), 1 ≤ n → ∃ i, i < n ∧ ∀ j, j < n → g j ≤ g i
  | 1, g, _ => ⟨0, by decide, fun j hj => by rw [show j = 0 by omega]; exact Rat.le_refl⟩
  | n + 2, g, _ => by
    obtain ⟨i, hi, h⟩ := top_of (n := n + 1) g (by omega)
    by_cases c : g i ≤ g (n + 1)
    · refine ⟨n + 1, by omega, fun j hj => ?_⟩
      by_cases e : j = n + 1
      · rw [e]; exact Rat.le_refl
      · have := h j (by omega); grind
    · refine ⟨i, by omega, fun j hj => ?_⟩
      by_cases e : j = n + 1
      · rw [e]; grind
      · exact h j (by omega)
theorem le_zero {n : Nat} {t : Nat → Nat → Rat} {x w : Nat → Rat} (h0 : ∀ i j, i < n → j < n → 0 ≤ t i j) (hx : restT n t x) (hw : ∀ i, i < n → w i = Bar.sm n (fun j => t i j * w j)) : ∀ i, i < n → w i ≤ 0 := fun i hi => by
  obtain ⟨a, ha, top⟩ := top_of (n := n) (fun i => w i / x i) (by omega)
  have xa := hx.1 a ha
  generalize hm : w a / x a = m at *
  have le : ∀ j, j < n → w j ≤ m * x j := fun j hj => by
    have h1 := top j hj
    have h2 := hx.1 j hj
    have h1 : w j / x j ≤ m := h1
    have h3 := Rat.mul_nonneg (a := m - w j / x j) (b := x j) (by grind) (Rat.le_of_lt h2)
    have h4 : w j / x j * x j = w j := by grind
    grind
  have wa : w a = m * x a := by rw [← hm]; grind
  have np : Bar.sm n (fun j => t a j * w j + (-m) * (t a j * x j)) ≤ 0 := Bar.sm_np fun j hj => by
    have := Rat.mul_nonneg (a := t a j) (b := m * x j - w j) (h0 a j ha hj) (by have := le j hj; grind)
    grind
  rw [Bar.sm_add, Bar.sm_mul, ← hw a ha] at np
  have xa2 := hx.2 a ha
  have m0 : m ≤ 0 := by
    have : Bar.sm n (fun j => t a j * x j) = x a - 1 := by grind
    rw [this, wa] at np
    grind
  have h1 := le i hi
  have h2 := hx.1 i hi
  have h3 := Rat.mul_nonneg (a := - m) (b := x i) (by grind) (Rat.le_of_lt h2)
  grind
theorem only_one {n : Nat} {t : Nat → Nat → Rat} {x z : Nat → Rat} (h0 : ∀ i j, i < n → j < n → 0 ≤ t i j) (hx : restT n t x) (hz : restT n t z) : ∀ i, i < n → z i = x i := fun i hi => by
  have d : ∀ c : Rat, ∀ i, i < n → c * (z i + (-1) * x i) = Bar.sm n (fun j => t i j * (c * (z j + (-1) * x j))) := fun c i hi => by
    have e : Bar.sm n (fun j => t i j * (c * (z j + (-1) * x j))) = Bar.sm n (fun j => c * (t i j * z j + (-1) * (t i j * x j))) := Bar.sm_congr fun j _ => by grind
    rw [e, Bar.sm_mul, Bar.sm_add, Bar.sm_mul]
    have h1 := hx.2 i hi
    have h2 := hz.2 i hi
    grind
  have a := le_zero h0 hx (d 1) i hi
  have b := le_zero h0 hx (d (-1)) i hi
  grind
def Turn (n : Nat) (π : Nat → Nat) : Prop := (∀ i, i < n → π i < n) ∧ ∀ f : Nat → Rat, Bar.sm n (fun i => f (π i)) = Bar.sm n f
theorem rest_turn {n : Nat} {t : Nat → Nat → Rat} {x : Nat → Rat} {π : Nat → Nat} (hπ : Turn n π) (h : restT n t x) : restT n (fun i j => t (π i) (π j)) (fun i => x (π i)) :=
  ⟨fun i hi => h.1 _ (hπ.1 i hi), fun i hi => by
    show x (π i) = 1 + Bar.sm n (fun j => t (π i) (π j) * x (π j))
    rw [hπ.2 (fun j => t (π i) j * x j)]
    exact h.2 _ (hπ.1 i hi)⟩
theorem flow_turn {n : Nat} {t : Nat → Nat → Rat} {y : Nat → Rat} {π : Nat → Nat} (hπ : Turn n π) (h : flowT n t y) : flowT n (fun i j => t (π i) (π j)) (fun i => y (π i)) :=
  ⟨fun i hi => h.1 _ (hπ.1 i hi), by rw [hπ.2 y]; exact h.2.1, fun j hj => by
    show y (π j) ≤ Bar.sm n (fun i => t (π i) (π j) * y (π i))
    rw [hπ.2 (fun i => t i (π j) * y i)]
    exact h.2.2 _ (hπ.1 j hj)⟩
theorem turn1 {n : Nat} (n1 : 1 ≤ n) (n4 : n ≤ 4) : Turn n (fun k => (k + 1) % n) := by
  refine ⟨fun i hi => Nat.mod_lt _ (by omega), fun f => ?_⟩
  rcases (by omega : n = 1 ∨ n = 2 ∨ n = 3 ∨ n = 4) with rfl | rfl | rfl | rfl
  · show 0 + f 0 = 0 + f 0; rfl
  · show 0 + f 1 + f 0 = 0 + f 0 + f 1; grind
  · show 0 + f 1 + f 2 + f 0 = 0 + f 0 + f 1 + f 2; grind
  · show 0 + f 1 + f 2 + f 3 + f 0 = 0 + f 0 + f 1 + f 2 + f 3; grind
theorem turn2 {n : Nat} (n1 : 1 ≤ n) (n4 : n ≤ 4) : Turn n (fun k => n - 1 - k) := by
  refine ⟨fun i hi => by show n - 1 - i < n; omega, fun f => ?_⟩
  rcases (by omega : n = 1 ∨ n = 2 ∨ n = 3 ∨ n = 4) with rfl | rfl | rfl | rfl
  · show 0 + f 0 = 0 + f 0; rfl
  · show 0 + f 1 + f 0 = 0 + f 0 + f 1; grind
  · show 0 + f 2 + f 1 + f 0 = 0 + f 0 + f 1 + f 2; grind
  · show 0 + f 3 + f 2 + f 1 + f 0 = 0 + f 0 + f 1 + f 2 + f 3; grind
theorem qt_low {p q : Int × Int} (hp : low p.1 p.2) (hq : low q.1 q.2) (h : qt p = qt q) : p = q := by
  have a := cast_ne hp.1
  have b := cast_ne hq.1
  unfold qt at h
  have e : (p.1 : Rat) * (q.2 : Rat) = (q.1 : Rat) * (p.2 : Rat) := by
    generalize (p.1 : Rat) = P at *
    generalize (p.2 : Rat) = P' at *
    generalize (q.1 : Rat) = Q at *
    generalize (q.2 : Rat) = Q' at *
    have : P = P / P' * P' := by grind
    rw [this, h]; grind
  rw [← Rat.intCast_mul, ← Rat.intCast_mul] at e
  have u := low_unique hp hq (Rat.intCast_inj.mp e)
  exact Prod.ext u.1 u.2
theorem told {n B : Nat} {tb : Nat → Nat → Int × Int} (ht : Tab n B tb) :
    (∃ p : Nat → Int × Int, (∀ i, i < n → low (p i).1 (p i).2) ∧ restT n (fun i j => qt (tb i j)) (fun i => qt (p i)) ∧ (∀ i, i < n → bitsI (p i).1 ≤ 4000 ∧ bitsI (p i).2 ≤ 4000) ∧ b_left_out [rl n (fun i => rl n (fun j => fr (tb i j)))] = .ok (.tup [.str "rest", rl n (fun i => fr (p i))]))
    ∨ ∃ y fl, flowT n (fun i j => qt (tb i j)) y ∧ b_left_out [rl n (fun i => rl n (fun j => fr (tb i j)))] = .ok (.tup [.str "unrest", fl]) := by
  obtain ⟨s, hs, ⟨hp, hl⟩ | ⟨k, hk, hp, h0, G, hG, hd, hl⟩⟩ := left_ok ht
  · left
    have p0 := P_pos ht hs hp
    refine ⟨fun i => pr (Bar.Tp (AM n tb s) n i) (Bar.P (AM n tb s) n), fun i hi => sh_low (by omega), ⟨fun i hi => ?_, fun i hi => ?_⟩, fun i hi => ⟨div_le_abs _ (bT ht hs hp hi), div_le_abs _ (bP ht hs (Nat.le_refl _) hp)⟩, hl⟩
    · show 0 < qt (pr (Bar.Tp (AM n tb s) n i) (Bar.P (AM n tb s) n))
      rw [pr_X ht hs hp hi]
      exact Bar.X_pos (AM_sgn ht hs) hp (n - i - 1) i (by omega)
    · show qt (pr (Bar.Tp (AM n tb s) n i) (Bar.P (AM n tb s) n)) = 1 + Bar.sm n (fun j => qt (tb i j) * qt (pr (Bar.Tp (AM n tb s) n j) (Bar.P (AM n tb s) n)))
      rw [pr_X ht hs hp hi, X_is ht hs hp hi]
      congr 1
      exact Bar.sm_congr fun j hj => by rw [pr_X ht hs hp hj]
  · right
    obtain ⟨y, hy⟩ := flow_is ht hs hk hp h0
    exact ⟨y, _, hy, hl⟩
theorem ld_loop : ∀ (n : Nat) (a b : Int), 0 ≤ a → 0 ≤ b → b.toNat ≤ n → sWhileC Q_law_divisor_0 L_law_divisor_0 [some (.k, .int a), some (.k, .int b)]
    = .ok (.nx [some (.k, .int (a.gcd b : Nat)), some (.k, .int 0)]) := by
  intro n
  induction n with
  | zero =>
    intro a b ha hb hn
    have e : b = 0 := by omega
    subst e
    rw [sWhileC_unroll]
    simp [Q_law_divisor_0, L_law_divisor_0, bodyF, retF, sSeq, thenF, sSet, sRet, sIf, sNil, eVar, eC, e1, e2, eA, f1, aNil, aCons, tVal, tAnd', tOr', tNot', eAnd, eOr, eNot, eIf, eTup, eLst, eIsa, isaT, tyName, oNo, oSome, sPar, sUnp, setAll, gN, gT, fLen, fits_small, Out.bind_ok, Out.bind_exc, Out.bind_stuck, Out.pure_eq, D.scal, dAdd_int, dSub_int, dNeg_int, dAbs_int, dLt_int, dLe_int, dGt_int, dGe_int, dEq_int, dNe_int, List.length_cons, List.length_nil, List.map_cons, List.map_nil, List.cons_append, List.nil_append, List.append_nil, List.getElem?_cons_zero, List.getElem?_cons_succ, List.set_cons_zero, List.set_cons_succ, List.replicate, Nat.reduceAdd, Nat.reduceSub, Nat.reduceLeDiff, Nat.zero_add, Nat.add_zero, reduceIte, Bool.not_true, Bool.not_false, Bool.true_and, Bool.and_true, Bool.false_and, Bool.and_false, Bool.or_true, Bool.true_or, Bool.or_false, Bool.false_or, Bool.false_eq_true, decide_true, decide_false, decide_eq_true_eq, Bool.not_eq_true', decide_eq_false_iff_not, Int.reduceEq, Int.reduceLT, Int.reduceLE, Int.reduceNeg, Nat.reduceEqDiff, ↓reduceIte, not_true_eq_false, not_false_eq_true]
    omega
  | succ n ih =>
    intro a b ha hb hn
    by_cases e : b = 0
    · subst e
      rw [sWhileC_unroll]
      simp [Q_law_divisor_0, L_law_divisor_0, bodyF, retF, sSeq, thenF, sSet, sRet, sIf, sNil, eVar, eC, e1, e2, eA, f1, aNil, aCons, tVal, tAnd', tOr', tNot', eAnd, eOr, eNot, eIf, eTup, eLst, eIsa, isaT, tyName, oNo, oSome, sPar, sUnp, setAll, gN, gT, fLen, fits_small, Out.bind_ok, Out.bind_exc, Out.bind_stuck, Out.pure_eq, D.scal, dAdd_int, dSub_int, dNeg_int, dAbs_int, dLt_int, dLe_int, dGt_int, dGe_int, dEq_int, dNe_int, List.length_cons, List.length_nil, List.map_cons, List.map_nil, List.cons_append, List.nil_append, List.append_nil, List.getElem?_cons_zero, List.getElem?_cons_succ, List.set_cons_zero, List.set_cons_succ, List.replicate, Nat.reduceAdd, Nat.reduceSub, Nat.reduceLeDiff, Nat.zero_add, Nat.add_zero, reduceIte, Bool.not_true, Bool.not_false, Bool.true_and, Bool.and_true, Bool.false_and, Bool.and_false, Bool.or_true, Bool.true_or, Bool.or_false, Bool.false_or, Bool.false_eq_true, decide_true, decide_false, decide_eq_true_eq, Bool.not_eq_true', decide_eq_false_iff_not, Int.reduceEq, Int.reduceLT, Int.reduceLE, Int.reduceNeg, Nat.reduceEqDiff, ↓reduceIte, not_true_eq_false, not_false_eq_true]
      omega
    · have hb' : 0 < b := by omega
      have h1 := Int.emod_nonneg a e
      have h2 := Int.emod_lt_of_pos a hb'
      have h := ih b (a % b) hb h1 (by omega)
      rw [gcd_step] at h
      rw [sWhileC_unroll]
      simp [Q_law_divisor_0, L_law_divisor_0, bodyF, retF, sSeq, thenF, sSet, sRet, sIf, sNil, eVar, eC, e1, e2, eA, f1, aNil, aCons, tVal, tAnd', tOr', tNot', eAnd, eOr, eNot, eIf, eTup, eLst, eIsa, isaT, tyName, oNo, oSome, sPar, sUnp, setAll, gN, gT, fLen, fits_small, Out.bind_ok, Out.bind_exc, Out.bind_stuck, Out.pure_eq, D.scal, dAdd_int, dSub_int, dNeg_int, dAbs_int, dLt_int, dLe_int, dGt_int, dGe_int, dEq_int, dNe_int, List.length_cons, List.length_nil, List.map_cons, List.map_nil, List.cons_append, List.nil_append, List.append_nil, List.getElem?_cons_zero, List.getElem?_cons_succ, List.set_cons_zero, List.set_cons_succ, List.replicate, Nat.reduceAdd, Nat.reduceSub, Nat.reduceLeDiff, Nat.zero_add, Nat.add_zero, reduceIte, Bool.not_true, Bool.not_false, Bool.true_and, Bool.and_true, Bool.false_and, Bool.and_false, Bool.or_true, Bool.true_or, Bool.or_false, Bool.false_or, Bool.false_eq_true, decide_true, decide_false, decide_eq_true_eq, Bool.not_eq_true', decide_eq_false_iff_not, Int.reduceEq, Int.reduceLT, Int.reduceLE, Int.reduceNeg, Nat.reduceEqDiff, ↓reduceIte, not_true_eq_false, not_false_eq_true, e, dMod_pos hb']
      exact h
theorem ld_ok {a b : Int} (ha : 0 ≤ a) (hb : 0 ≤ b) : b_law_divisor [.int a, .int b] = .ok (.int (a.gcd b : Nat)) := by
  have h := ld_loop b.toNat a b ha hb (Nat.le_refl _)
  simp [b_law_divisor, T_law_divisor, bodyF, retF, sSeq, thenF, sSet, sRet, sIf, sNil, eVar, eC, e1, e2, eA, f1, aNil, aCons, tVal, tAnd', tOr', tNot', eAnd, eOr, eNot, eIf, eTup, eLst, eIsa, isaT, tyName, oNo, oSome, sPar, sUnp, setAll, gN, gT, fLen, fits_small, Out.bind_ok, Out.bind_exc, Out.bind_stuck, Out.pure_eq, D.scal, dAdd_int, dSub_int, dNeg_int, dAbs_int, dLt_int, dLe_int, dGt_int, dGe_int, dEq_int, dNe_int, List.length_cons, List.length_nil, List.map_cons, List.map_nil, List.cons_append, List.nil_append, List.append_nil, List.getElem?_cons_zero, List.getElem?_cons_succ, List.set_cons_zero, List.set_cons_succ, List.replicate, Nat.reduceAdd, Nat.reduceSub, Nat.reduceLeDiff, Nat.zero_add, Nat.add_zero, reduceIte, Bool.not_true, Bool.not_false, Bool.true_and, Bool.and_true, Bool.false_and, Bool.and_false, Bool.or_true, Bool.true_or, Bool.or_false, Bool.false_or, Bool.false_eq_true, decide_true, decide_false, decide_eq_true_eq, Bool.not_eq_true', decide_eq_false_iff_not, Int.reduceEq, Int.reduceLT, Int.reduceLE, Int.reduceNeg, Nat.reduceEqDiff, ↓reduceIte, not_true_eq_false, not_false_eq_true, h]
theorem while_go {c : SD → Out Bool} {b : SD → Out Fl} {ς ς' : SD} (hc : c ς = .ok true) (hb : b ς = .ok (.nx ς')) : sWhileC c b ς = sWhileC c b ς' := by
  rw [sWhileC_unroll, hc]; show (b ς >>= _) = _; rw [hb]; rfl
theorem while_end {c : SD → Out Bool} {b : SD → Out Fl} {ς : SD} (hc : c ς = .ok false) : sWhileC c b ς = .ok (.nx ς) := by
  rw [sWhileC_unroll, hc]; rfl
def okF (B : Int) (p : Int × Int) : Prop := 1 ≤ p.2 ∧ p.2 ≤ B ∧ 0 ≤ p.1 ∧ p.1 ≤ B
theorem cut_ok {t u B : Int} (ht : 0 ≤ t) (tB : t ≤ B) (hu : 1 ≤ u) (uB : u ≤ B) : okF B (t / ((t.gcd u : Nat) : Int), u / ((t.gcd u : Nat) : Int)) ∧ 1 ≤ ((t.gcd u : Nat) : Int) ∧ ((t.gcd u : Nat) : Int) ≤ u := by
  have g0 : 0 < t.gcd u := gcd_pos_of (by omega)
  have g1 : ((t.gcd u : Nat) : Int) ∣ u := Int.gcd_dvd_right t u
  have g2 : ((t.gcd u : Nat) : Int) ≤ u := Int.le_of_dvd (by omega) g1
  refine ⟨⟨?_, Int.le_trans (Int.ediv_le_self _ (by omega)) uB, Int.ediv_nonneg ht (by omega), Int.le_trans (Int.ediv_le_self _ ht) tB⟩, by omega, g2⟩
  exact Int.le_ediv_of_mul_le (by omega) (by omega)
theorem mixed_ok (c : Int) {k : Int} (hk : bitsI k ≤ 300) : ∃ x : Int, 0 ≤ x ∧ x < 2147483629 ∧ b_law_mixed [.int c, .int k] = .ok (.int x) := by
  refine ⟨_, Int.emod_nonneg ((c % 2147483647 + 11) * (48271 + 2 * k * k)) (by decide : (2147483629 : Int) ≠ 0), Int.emod_lt_of_pos _ (by decide), ?_⟩
  rw [u_law_mixed]
  unfold T_law_mixed
  (repeat walk_at "e")
theorem pick4 (x : Int) : ∃ b : Int, 1 ≤ b ∧ b ≤ 1000003 ∧ dIx (.lst [.int 4, .int 12, .int 30, .int 1000003]) (.int (x / 540 % 4)) = .ok (.int b) := by
  rcases (by omega : x / 540 % 4 = 0 ∨ x / 540 % 4 = 1 ∨ x / 540 % 4 = 2 ∨ x / 540 % 4 = 3) with e | e | e | e <;> rw [e]
  · exact ⟨4, by omega, by omega, rfl⟩
  · exact ⟨12, by omega, by omega, rfl⟩
  · exact ⟨30, by omega, by omega, rfl⟩
  · exact ⟨1000003, by omega, by omega, rfl⟩
theorem share_ok' {x : Int} (x0 : 0 ≤ x) (x1 : x < 2147483629) : ∃ p : Int × Int, okF 1000003 p ∧ b_law_share [.int x] = .ok (fr p) := by
  by_cases h : x % 5 < 2
  · have d0 : decide (x % 5 < 2) = true := decide_eq_true h
    refine ⟨(0, 1), by unfold okF; decide, ?_⟩
    unfold fr
    rw [u_law_share]
    unfold T_law_share
    (repeat walk_at "e")
  · have d0 : decide (x % 5 < 2) = false := decide_eq_false h
    obtain ⟨b, b1, b2, hb⟩ := pick4 x
    have bp : 0 < b := by omega
    have q1 := Int.emod_nonneg (x / 45) (show b ≠ 0 by omega)
    have q2 := Int.emod_lt_of_pos (x / 45) bp
    have q3 : 0 ≤ x / 5 % 9 ∧ x / 5 % 9 < 9 := by omega
    obtain ⟨ok, g1, g2⟩ := cut_ok (t := 1 + x / 5 % 9) (u := 1 + x / 45 % b) (B := 1000003) (by omega) (by omega) (by omega) (by omega)
    have hd := ld_ok (a := 1 + x / 5 % 9) (b := 1 + x / 45 % b) (by omega) (by omega)
    generalize ((((1 + x / 5 % 9).gcd (1 + x / 45 % b) : Nat)) : Int) = g at *
    have gp : 0 < g := by omega
    have bx : bitsI x ≤ 300 := bd_in (by omega) (Int.lt_trans x1 (by decide))
    have bb : bitsI b ≤ 300 := bd_in (by omega) (Int.lt_of_le_of_lt b2 (by decide))
    have bg : bitsI g ≤ 300 := bd_in (by omega) (Int.lt_of_le_of_lt (show g ≤ 1000003 by omega) (by decide))
    have bq : bitsI (x / 45 % b) ≤ 300 := bd_in (by omega) (Int.lt_of_le_of_lt (show x / 45 % b ≤ 1000003 by omega) (by decide))
    refine ⟨_, ok, ?_⟩
    unfold fr
    rw [u_law_share]
    unfold T_law_share
    (repeat walk_at "e")
theorem tab_of {n : Nat} {tb : Nat → Nat → Int × Int} (h1 : 1 ≤ n) (h2 : n ≤ 4) (h : ∀ i j, i < n → j < n → okF 1000003 (tb i j)) : Tab n 1000003 tb where
  n1 := h1
  n2 := by omega
  b1 := by decide
  fr := h
  big := by
    rcases (by omega : n = 1 ∨ n = 2 ∨ n = 3 ∨ n = 4) with rfl | rfl | rfl | rfl <;> decide +kernel
theorem rep17 (a : Int) : dRep (.lst [.int a]) (.int 17) = .ok (.lst (List.replicate 17 (.int a))) := by
  have h1 : decide (-(2 ^ 63 : Int) ≤ (17 : Int)) = true := by decide
  have h2 : decide ((17 : Int) < 2 ^ 63) = true := by decide
  have h3 : fits ([D.int a].length * (17 : Int).toNat) = true := fits_of (by simp)
  rw [dRep, h1, h2, h3]
  have e : (List.replicate (17 : Int).toNat [D.int a]).flatten = List.replicate 17 (D.int a) := rfl
  rw [if_pos (show (true && true && true) = true from rfl), e]
theorem cell_ok (ns : List Int) (hl : ns.length ≤ 63) (a : Int) {p : Nat} (hp : p < ns.length + 17) : ∃ c : Int, dIx (.lst (ns.map D.int ++ List.replicate 17 (D.int a))) (.int (p : Int)) = .ok (.int c) := by
  by_cases h : p < ns.length
  · refine ⟨ns[p], ixL p ?_⟩
    rw [List.getElem?_append_left (by rw [List.length_map]; exact h), List.getElem?_map, List.getElem?_eq_getElem h]; rfl
  · refine ⟨a, ixL p ?_⟩
    rw [List.getElem?_append_right (by rw [List.length_map]; omega), List.length_map, List.getElem?_replicate, if_pos (by omega)]
theorem app_rl (n : Nat) (f : Nat → D) : (List.range n).map f ++ [f n] = (List.range (n + 1)).map f := by
  rw [List.range_succ, List.map_append]; rfl
def GoodTab (d : D) : Prop := ∃ (n : Nat) (tb : Nat → Nat → Int × Int), Tab n 1000003 tb ∧ n ≤ 4 ∧ d = rl n (fun i => rl n (fun j => fr (tb i j)))
section
variable {ns : List Int} (hl : ns.length ≤ 63) {at' : Nat} (ha : at' < ns.length) {n : Nat} (n4 : n ≤ 4) {tl : List D}
include hl ha n4
theorem row_loop {k : Nat} (hk : k < n) {T : D} {a7 a8 : Option (SM × D)} : ∃ (r : Nat → Int × Int) (b7 b8 : Option (SM × D)), (∀ j, okF 1000003 (r j)) ∧
    loopD (fun x ς => gN 7 x ς >>= fun ς' => L_law_tables_0 ς') (rangeD 0 n) [some (.k, .lst (ns.map .int)), some (.o, .lst tl), some (.k, .int (at' : Int)), some (.k, .int (n : Int)), some (.o, T), some (.k, .int (k : Int)), some (.o, .lst []), a7, a8]
    = .ok (.nx [some (.k, .lst (ns.map .int)), some (.o, .lst tl), some (.k, .int (at' : Int)), some (.k, .int (n : Int)), some (.o, T), some (.k, .int (k : Int)), some (.o, rl n (fun j => fr (r j))), b7, b8]) := by
  obtain ⟨ς', hL, r, b7, b8, rfl, hr⟩ := loop_rangeK (body := fun x ς => gN 7 x ς >>= fun ς' => L_law_tables_0 ς') (n := n)
    (P := fun m ς => ∃ (r : Nat → Int × Int) (b7 b8 : Option (SM × D)), ς = [some (.k, .lst (ns.map .int)), some (.o, .lst tl), some (.k, .int (at' : Int)), some (.k, .int (n : Int)), some (.o, T), some (.k, .int (k : Int)), some (.o, rl m (fun j => fr (r j))), b7, b8] ∧ ∀ j, okF 1000003 (r j))
    (by
      rintro m hm ς ⟨r, b7, b8, rfl, hr⟩
      have hkn : k * n ≤ 3 * 4 := Nat.mul_le_mul (by omega) n4
      have hkn1 : k * n + n ≤ n * n := by
        have := Nat.mul_le_mul (show k + 1 ≤ n by omega) (Nat.le_refl n)
        rw [Nat.add_mul, Nat.one_mul] at this
        exact this
      have hnn : n * n ≤ 4 * 4 := Nat.mul_le_mul n4 n4
      have ep : (at' : Int) + 1 + (k : Int) * (n : Int) + (m : Int) = ((at' + 1 + k * n + m : Nat) : Int) := by
        rw [Int.natCast_add, Int.natCast_add, Int.natCast_add, Int.natCast_mul]; rfl
      obtain ⟨c, hc⟩ := cell_ok ns hl (at' : Int) (p := at' + 1 + k * n + m) (by omega)
      rw [← ep] at hc
      have bn : bitsI (n : Int) ≤ 300 := bd_nat (Nat.lt_of_le_of_lt n4 (by decide))
      have bk : bitsI (k : Int) ≤ 300 := bd_nat (Nat.lt_of_lt_of_le hk (Nat.le_trans n4 (by decide)))
      have bp : bitsI ((at' : Int) + 1 + (k : Int) * (n : Int) + (m : Int)) ≤ 300 := by
        rw [ep]; exact bd_nat (Nat.lt_of_lt_of_le (show at' + 1 + k * n + m < 100 by omega) (by decide))
      obtain ⟨x, x0, x1, hx⟩ := mixed_ok c bp
      obtain ⟨p, hp, hs⟩ := share_ok' x0 x1
      have hrep := rep17 (at' : Int)
      have hcat : dCat (.lst (ns.map .int)) (.lst (List.replicate 17 (.int (at' : Int)))) = .ok (.lst (ns.map .int ++ List.replicate 17 (.int (at' : Int)))) := dCat_ok (by simp; omega)
      have ea : (List.range m).map (fun j => fr (r j)) ++ [fr p] = (List.range (m + 1)).map (fun j => fr ((fun j => if j < m then r j else p) j)) := by
        rw [← app_rl]
        congr 1
        · exact List.map_congr_left fun j hj => by show fr (r j) = fr (if j < m then r j else p); rw [if_pos (List.mem_range.mp hj)]
        · show [fr p] = [fr (if m < m then r m else p)]; rw [if_neg (by omega)]
      have hle : ((List.range m).map (fun j => fr (r j))).length ≤ 1000 := by rw [List.length_map, List.length_range]; omega
      refine ⟨[some (.k, .lst (ns.map .int)), some (.o, .lst tl), some (.k, .int (at' : Int)), some (.k, .int (n : Int)), some (.o, T), some (.k, .int (k : Int)), some (.o, rl (m + 1) (fun j => fr ((fun j => if j < m then r j else p) j))), some (.k, .int (m : Int)), some (.k, .int ((at' : Int) + 1 + (k : Int) * (n : Int) + (m : Int)))], ?_, fun j => if j < m then r j else p, _, _, rfl, fun j => by show okF _ (if j < m then r j else p); split; exact hr j; exact hp⟩
      show _ = Out.ok (Fl.nx [_, _, _, _, _, _, some (.o, .lst ((List.range (m + 1)).map (fun j => fr ((fun j => if j < m then r j else p) j)))), _, _])
      rw [← ea]
      refine r_gN (by walk_at "s") ?_
      unfold L_law_tables_0
      (repeat walk_at "e"))
    [some (.k, .lst (ns.map .int)), some (.o, .lst tl), some (.k, .int (at' : Int)), some (.k, .int (n : Int)), some (.o, T), some (.k, .int (k : Int)), some (.o, .lst []), a7, a8] ⟨fun _ => (0, 1), _, _, rfl, fun _ => by show okF 1000003 (0, 1); unfold okF; decide⟩
  exact ⟨r, b7, b8, hr, hL⟩
end
theorem frz_at {ς ς' : SD} {i : Nat} {d : D} (e : ς[i]? = some (some (.o, d))) (h : ς.set i (some (.k, d)) = ς') : frz i ς = ς' := by
  unfold frz
  rw [e]
  exact h
theorem app_frz {i j : Nat} {E : SD → Out D} {ς ς1 : SD} {r : Out Fl} (hz : frz j ς = ς1) (h : sAppend i E ς1 = r) : (fun ς => sAppend i E (frz j ς)) ς = r := by
  show sAppend i E (frz j ς) = r
  rw [hz]; exact h
section
variable {ns : List Int} (hl : ns.length ≤ 63) {at' : Nat} (ha : at' < ns.length) {n : Nat} (n4 : n ≤ 4) {tl : List D}
include hl ha n4
theorem tab_loop {a5 a6 a7 a8 : Option (SM × D)} : ∃ (tb : Nat → Nat → Int × Int) (b5 b6 b7 b8 : Option (SM × D)), (∀ i j, okF 1000003 (tb i j)) ∧
    loopD (fun x ς => gN 5 x ς >>= fun ς' => L_law_tables_1 ς') (rangeD 0 n) [some (.k, .lst (ns.map .int)), some (.o, .lst tl), some (.k, .int (at' : Int)), some (.k, .int (n : Int)), some (.o, .lst []), a5, a6, a7, a8]
    = .ok (.nx [some (.k, .lst (ns.map .int)), some (.o, .lst tl), some (.k, .int (at' : Int)), some (.k, .int (n : Int)), some (.o, rl n (fun i => rl n (fun j => fr (tb i j)))), b5, b6, b7, b8]) := by
  obtain ⟨ς', hL, tb, b5, b6, b7, b8, rfl, ht⟩ := loop_rangeK (body := fun x ς => gN 5 x ς >>= fun ς' => L_law_tables_1 ς') (n := n)
    (P := fun m ς => ∃ (tb : Nat → Nat → Int × Int) (b5 b6 b7 b8 : Option (SM × D)), ς = [some (.k, .lst (ns.map .int)), some (.o, .lst tl), some (.k, .int (at' : Int)), some (.k, .int (n : Int)), some (.o, rl m (fun i => rl n (fun j => fr (tb i j)))), b5, b6, b7, b8] ∧ ∀ i j, okF 1000003 (tb i j))
    (by
      rintro m hm ς ⟨tb, b5, b6, b7, b8, rfl, ht⟩
      obtain ⟨r, c7, c8, hr, hL⟩ := row_loop (tl := tl) hl ha n4 hm (T := rl m (fun i => rl n (fun j => fr (tb i j)))) (a7 := b7) (a8 := b8)
      have hR : itR1 (eVar 3) [some (.k, .lst (ns.map .int)), some (.o, .lst tl), some (.k, .int (at' : Int)), some (.k, .int (n : Int)), some (.o, rl m (fun i => rl n (fun j => fr (tb i j)))), some (.k, .int (m : Int)), some (.o, .lst []), b7, b8] = .ok (rangeD 0 n) := rng_ok n (by (repeat walk_at "e")) (by omega)
      have hfor := sFor_of (g := gN 7) (T := L_law_tables_0) hR hL
      refine ⟨[some (.k, .lst (ns.map .int)), some (.o, .lst tl), some (.k, .int (at' : Int)), some (.k, .int (n : Int)), some (.o, rl (m + 1) (fun i => rl n (fun j => fr ((fun i j => if i < m then tb i j else r j) i j)))), some (.k, .int (m : Int)), some (.k, rl n (fun j => fr (r j))), c7, c8], ?_, fun i j => if i < m then tb i j else r j, _, _, _, _, rfl, ?_⟩
      · refine r_gN (by walk_at "s") ?_
        unfold L_law_tables_1
        have s1 : sSetO 6 (eLst aNil) [some (.k, .lst (ns.map .int)), some (.o, .lst tl), some (.k, .int (at' : Int)), some (.k, .int (n : Int)), some (.o, rl m (fun i => rl n (fun j => fr (tb i j)))), some (.k, .int (m : Int)), b6, b7, b8] = .ok (.nx [some (.k, .lst (ns.map .int)), some (.o, .lst tl), some (.k, .int (at' : Int)), some (.k, .int (n : Int)), some (.o, rl m (fun i => rl n (fun j => fr (tb i j)))), some (.k, .int (m : Int)), some (.o, .lst []), b7, b8]) := by
          (repeat walk_at "e")
        have hz : frz 6 [some (.k, .lst (ns.map .int)), some (.o, .lst tl), some (.k, .int (at' : Int)), some (.k, .int (n : Int)), some (.o, rl m (fun i => rl n (fun j => fr (tb i j)))), some (.k, .int (m : Int)), some (.o, rl n (fun j => fr (r j))), c7, c8] = [some (.k, .lst (ns.map .int)), some (.o, .lst tl), some (.k, .int (at' : Int)), some (.k, .int (n : Int)), some (.o, rl m (fun i => rl n (fun j => fr (tb i j)))), some (.k, .int (m : Int)), some (.k, rl n (fun j => fr (r j))), c7, c8] := frz_at (i := 6) rfl rfl
        refine r_seq s1 (r_then (r_seq hfor (r_then (app_frz hz ?_))))
        have ea : (List.range m).map (fun i => rl n (fun j => fr (tb i j))) ++ [rl n (fun t => fr (r t))] = (List.range (m + 1)).map (fun i => rl n (fun j => fr (if i < m then tb i j else r j))) := by
          have A1 : (List.range m).map (fun i => rl n (fun j => fr (tb i j))) = (List.range m).map (fun i => rl n (fun j => fr (if i < m then tb i j else r j))) := List.map_congr_left fun i hi => by
            have := List.mem_range.mp hi
            have e : (fun j => fr (tb i j)) = (fun j => fr (if i < m then tb i j else r j)) := funext fun j => by rw [if_pos this]
            rw [e]
          have e : (fun j => fr (r j)) = (fun j => fr (if m < m then tb m j else r j)) := funext fun j => by rw [if_neg (Nat.lt_irrefl _)]
          rw [List.range_succ, List.map_append, A1, e, List.map_cons, List.map_nil]
        refine r_app (xs := (List.range m).map (fun i => rl n (fun j => fr (tb i j)))) rfl (by (repeat walk_at "e")) (by rw [List.length_map, List.length_range]; omega) ?_
        rw [ea]; rfl
      · intro i j
        show okF 1000003 (if i < m then tb i j else r j)
        split
        · exact ht i j
        · exact hr j)
    [some (.k, .lst (ns.map .int)), some (.o, .lst tl), some (.k, .int (at' : Int)), some (.k, .int (n : Int)), some (.o, .lst []), a5, a6, a7, a8] ⟨fun _ _ => (0, 1), _, _, _, _, rfl, fun _ _ => by show okF 1000003 (0, 1); unfold okF; decide⟩
  exact ⟨tb, b5, b6, b7, b8, ht, hL⟩
end
theorem tabs_while {ns : List Int} (hl : ns.length ≤ 63) : ∀ (f at' : Nat) (tl : List D) (a3 a4 a5 a6 a7 a8 : Option (SM × D)), ns.length ≤ at' + f → tl.length ≤ at' → tl.length ≤ 100 → (∀ d ∈ tl, GoodTab d) → ∃ (tl' : List D) (at'' : Nat) (b3 b4 b5 b6 b7 b8 : Option (SM × D)), (∀ d ∈ tl', GoodTab d) ∧ tl'.length ≤ 100 ∧
    sWhileC Q_law_tables_0 L_law_tables_2 [some (.k, .lst (ns.map .int)), some (.o, .lst tl), some (.k, .int (at' : Int)), a3, a4, a5, a6, a7, a8] = .ok (.nx [some (.k, .lst (ns.map .int)), some (.o, .lst tl'), some (.k, .int (at'' : Int)), b3, b4, b5, b6, b7, b8]) := by
  have hlen : fLen [.lst (ns.map D.int)] = .ok (.int (ns.length : Int)) := by simp [fLen]
  intro f
  induction f with
  | zero =>
    intro at' tl a3 a4 a5 a6 a7 a8 h1 h2 h3 h4
    refine ⟨tl, at', a3, a4, a5, a6, a7, a8, h4, h3, while_end ?_⟩
    have d : decide ((at' : Int) < (ns.length : Int)) = false := decide_eq_false (by omega)
    have hlt : dLt (.int (at' : Int)) (.int (ns.length : Int)) = .ok (.bl false) := by rw [dLt_int, d]
    unfold Q_law_tables_0
    (repeat walk_at "e")
  | succ f ih =>
    intro at' tl a3 a4 a5 a6 a7 a8 h1 h2 h3 h4
    by_cases ha : at' < ns.length
    · have d : decide ((at' : Int) < (ns.length : Int)) = true := decide_eq_true (by omega)
      have hlt : dLt (.int (at' : Int)) (.int (ns.length : Int)) = .ok (.bl true) := by rw [dLt_int, d]
      have hix : dIx (.lst (ns.map .int)) (.int (at' : Int)) = .ok (.int ns[at']) := ixL at' (by rw [List.getElem?_map, List.getElem?_eq_getElem ha]; rfl)
      have ba : bitsI (at' : Int) ≤ 300 := bd_nat (Nat.lt_of_lt_of_le ha (Nat.le_trans hl (by decide)))
      obtain ⟨x, x0, x1, hx⟩ := mixed_ok ns[at'] ba
      obtain ⟨n, hn⟩ : ∃ n : Nat, 1 + x % 4 = (n : Int) := ⟨(1 + x % 4).toNat, by omega⟩
      have n1 : 1 ≤ n := by omega
      have n4 : n ≤ 4 := by omega
      have bn : bitsI (n : Int) ≤ 300 := bd_nat (Nat.lt_of_le_of_lt n4 (by decide))
      obtain ⟨tb, b5, b6, b7, b8, ht, hL⟩ := tab_loop (tl := tl) hl ha n4 (a5 := a5) (a6 := a6) (a7 := a7) (a8 := a8)
      have hR : itR1 (eVar 3) [some (.k, .lst (ns.map .int)), some (.o, .lst tl), some (.k, .int (at' : Int)), some (.k, .int (n : Int)), some (.o, .lst []), a5, a6, a7, a8] = .ok (rangeD 0 n) := rng_ok n (by (repeat walk_at "e")) (by omega)
      have hfor := sFor_of (g := gN 5) (T := L_law_tables_1) hR hL
      obtain ⟨tl', at'', c3, c4, c5, c6, c7, c8, g1, g2, g3⟩ := ih (at' + 1 + n * n) (tl ++ [rl n (fun i => rl n (fun j => fr (tb i j)))]) (some (.k, .int (n : Int))) (some (.k, rl n (fun i => rl n (fun j => fr (tb i j))))) b5 b6 b7 b8
        (by omega) (by rw [List.length_append]; show tl.length + 1 ≤ _; omega) (by rw [List.length_append]; show tl.length + 1 ≤ _; omega)
        (fun d hd => by
          rcases List.mem_append.mp hd with w | w
          · exact h4 d w
          · rw [List.mem_singleton.mp w]; exact ⟨n, tb, tab_of n1 n4 fun i j _ _ => ht i j, n4, rfl⟩)
      refine ⟨tl', at'', c3, c4, c5, c6, c7, c8, g1, g2, ?_⟩
      rw [← g3]
      refine while_go (by unfold Q_law_tables_0; (repeat walk_at "e")) ?_
      have s3 : sSet 3 (e2 dAdd (eC (.int 1)) (e2 dMod (eA (fun xs => b_law_mixed (xs ++ [])) (aCons (e2 dIx (eVar 0) (eVar 2)) (aCons (eVar 2) aNil))) (eC (.int 4)))) [some (.k, .lst (ns.map .int)), some (.o, .lst tl), some (.k, .int (at' : Int)), a3, a4, a5, a6, a7, a8] = .ok (.nx [some (.k, .lst (ns.map .int)), some (.o, .lst tl), some (.k, .int (at' : Int)), some (.k, .int (n : Int)), a4, a5, a6, a7, a8]) := by
        rw [← hn]
        (repeat walk_at "e")
      have s4 : sSetO 4 (eLst aNil) [some (.k, .lst (ns.map .int)), some (.o, .lst tl), some (.k, .int (at' : Int)), some (.k, .int (n : Int)), a4, a5, a6, a7, a8] = .ok (.nx [some (.k, .lst (ns.map .int)), some (.o, .lst tl), some (.k, .int (at' : Int)), some (.k, .int (n : Int)), some (.o, .lst []), a5, a6, a7, a8]) := by
        (repeat walk_at "e")
      have hle : tl.length ≤ 1000 := by omega
      unfold L_law_tables_2
      have hz : frz 4 [some (.k, .lst (ns.map .int)), some (.o, .lst tl), some (.k, .int (at' : Int)), some (.k, .int (n : Int)), some (.o, rl n (fun i => rl n (fun j => fr (tb i j)))), b5, b6, b7, b8] = [some (.k, .lst (ns.map .int)), some (.o, .lst tl), some (.k, .int (at' : Int)), some (.k, .int (n : Int)), some (.k, rl n (fun i => rl n (fun j => fr (tb i j)))), b5, b6, b7, b8] := frz_at (i := 4) rfl rfl
      have s5 : (fun ς => sAppend 1 (eVar 4) (frz 4 ς)) [some (.k, .lst (ns.map .int)), some (.o, .lst tl), some (.k, .int (at' : Int)), some (.k, .int (n : Int)), some (.o, rl n (fun i => rl n (fun j => fr (tb i j)))), b5, b6, b7, b8] = .ok (.nx [some (.k, .lst (ns.map .int)), some (.o, .lst (tl ++ [rl n (fun i => rl n (fun j => fr (tb i j)))])), some (.k, .int (at' : Int)), some (.k, .int (n : Int)), some (.k, rl n (fun i => rl n (fun j => fr (tb i j)))), b5, b6, b7, b8]) := app_frz hz (r_app (xs := tl) rfl (by (repeat walk_at "e")) hle rfl)
      refine r_seq s3 (r_then (r_seq s4 (r_then (r_seq hfor (r_then (r_seq s5 (r_then ?_)))))))
      · have ep : (at' : Int) + 1 + (n : Int) * (n : Int) = ((at' + 1 + n * n : Nat) : Int) := by
          rw [Int.natCast_add, Int.natCast_add, Int.natCast_mul]; rfl
        rw [← ep]
        (repeat walk_at "e")
    · refine ⟨tl, at', a3, a4, a5, a6, a7, a8, h4, h3, while_end ?_⟩
      have d : decide ((at' : Int) < (ns.length : Int)) = false := decide_eq_false (by omega)
      have hlt : dLt (.int (at' : Int)) (.int (ns.length : Int)) = .ok (.bl false) := by rw [dLt_int, d]
      unfold Q_law_tables_0
      (repeat walk_at "e")
theorem tables_ok {ns : List Int} (hl : ns.length ≤ 63) : ∃ tl : List D, (∀ d ∈ tl, GoodTab d) ∧ tl.length ≤ 100 ∧ b_law_tables [.lst (ns.map .int)] = .ok (.lst tl) := by
  obtain ⟨tl, at'', b3, b4, b5, b6, b7, b8, g1, g2, g3⟩ := tabs_while hl ns.length 0 [] none none none none none none (by omega) (by simp) (by simp) (fun d hd => absurd hd List.not_mem_nil)
  have g3 : sWhileC Q_law_tables_0 L_law_tables_2 [some (.k, .lst (ns.map .int)), some (.o, .lst []), some (.k, .int 0), none, none, none, none, none, none] = _ := g3
  refine ⟨tl, g1, g2, ?_⟩
  rw [u_law_tables]
  unfold T_law_tables
  (repeat walk_at "e")
theorem lay_all : ∀ l : List D, (∀ d ∈ l, layD d = true) → layDs l = true
  | [], _ => rfl
  | x :: xs, h => by
    show (layD x && layDs xs) = true
    rw [h x (List.mem_cons_self ..), lay_all xs fun d hd => h d (List.mem_cons_of_mem _ hd)]; rfl
theorem dep_all {m : Nat} : ∀ l : List D, (∀ d ∈ l, dep d ≤ m) → deps l ≤ m
  | [], _ => Nat.zero_le _
  | x :: xs, h => by
    show max (dep x) (deps xs) ≤ m
    have h1 := h x (List.mem_cons_self ..)
    have h2 := dep_all xs fun d hd => h d (List.mem_cons_of_mem _ hd)
    omega
theorem ne_same {d : D} (hl : layD d = true) (hd : dep d ≤ 64) : dNe d d = .ok (.bl false) := by
  have hs := shp_of hl hd
  rw [dNe_of hs hs, PySem.SeqAt.eqv_refl _ (lay_py _ hl)]; rfl
theorem lay_rl {n : Nat} {f : Nat → D} (h : ∀ i, i < n → layD (f i) = true) : layD (rl n f) = true := lay_all _ fun d hd => by
  obtain ⟨i, hi, rfl⟩ := List.mem_map.mp hd
  exact h i (List.mem_range.mp hi)
theorem dep_rl {n m : Nat} {f : Nat → D} (h : ∀ i, i < n → dep (f i) ≤ m) : dep (rl n f) ≤ m + 1 := Nat.succ_le_succ (dep_all _ fun d hd => by
  obtain ⟨i, hi, rfl⟩ := List.mem_map.mp hd
  exact h i (List.mem_range.mp hi))
theorem streq {a b : Str} {z : Bool} (ha : PyData.strOk a = true := by decide +kernel) (hb : PyData.strOk b = true := by decide +kernel) (h : (a == b) = z := by decide +kernel) : dEq (.str a) (.str b) = .ok (.bl z) := by rw [dEq_str ha hb, h]
theorem strne {a b : Str} {z : Bool} (ha : PyData.strOk a = true := by decide +kernel) (hb : PyData.strOk b = true := by decide +kernel) (h : (!(a == b)) = z := by decide +kernel) : dNe (.str a) (.str b) = .ok (.bl z) := by rw [dNe_str ha hb, h]
theorem turned_ok {n : Nat} (hn : n ≤ 4) {tb : Nat → Nat → Int × Int} {π : Nat → Nat} (hπ : ∀ i, i < n → π i < n) :
    b_law_turned [rl n (fun i => rl n (fun j => fr (tb i j))), rl n (fun i => .int (π i : Int))] = .ok (rl n (fun i => rl n (fun j => fr (tb (π i) (π j))))) := by
  have hc : eComp [none, some 1, some 0] (itL (eVar 1)) (gN 0) cTrue X_law_turned_1 [some (.k, rl n (fun i => rl n (fun j => fr (tb i j)))), some (.k, rl n (fun i => .int (π i : Int)))] = .ok (rl n (fun i => rl n (fun j => fr (tb (π i) (π j))))) := by
    refine comp_of (fun i : Nat => D.int (π i : Int)) (fun i => rl n (fun j => fr (tb (π i) (π j)))) rfl (fun i hi => ?_) (by rw [List.length_range]; omega)
    have pi := hπ i (List.mem_range.mp hi)
    refine r_turn (by walk_at "cap") (by walk_at "s") ?_
    unfold X_law_turned_1
    refine comp_of (fun i : Nat => D.int (π i : Int)) (fun j => fr (tb (π i) (π j))) rfl (fun j hj => ?_) (by rw [List.length_range]; omega)
    have pj := hπ j (List.mem_range.mp hj)
    have x1 : dIx (rl n (fun i => rl n (fun j => fr (tb i j)))) (.int (π i : Int)) = .ok (rl n (fun j => fr (tb (π i) j))) := ixR pi
    have x2 : dIx (rl n (fun j => fr (tb (π i) j))) (.int (π j : Int)) = .ok (fr (tb (π i) (π j))) := ixR pj
    refine r_turn (by walk_at "cap") (by walk_at "s") ?_
    unfold X_law_turned_0
    (repeat walk_at "e")
  rw [u_law_turned]
  unfold T_law_turned
  (repeat walk_at "e")
theorem one_turn {n : Nat} {tb : Nat → Nat → Int × Int} (ht : Tab n 1000003 tb) (n4 : n ≤ 4) {π : Nat → Nat} (hπ : Turn n π) {fd : D} (hfd : b_left_out [rl n (fun i => rl n (fun j => fr (tb i j)))] = .ok fd) {sc : D} {a5 : Option (SM × D)} {many : D} :
    ∃ b5, L_law_0 [some (.k, sc), some (.k, rl n (fun i => rl n (fun j => fr (tb i j)))), some (.k, many), some (.k, fd), some (.k, rl n (fun i => .int (π i : Int))), a5]
      = .ok (.nx [some (.k, sc), some (.k, rl n (fun i => rl n (fun j => fr (tb i j)))), some (.k, many), some (.k, fd), some (.k, rl n (fun i => .int (π i : Int))), b5]) := by
  have ht' : Tab n 1000003 (fun i j => tb (π i) (π j)) := tab_of ht.n1 n4 fun i j hi hj => ht.fr _ _ (hπ.1 i hi) (hπ.1 j hj)
  have htu := turned_ok n4 (tb := tb) hπ.1
  have q0 : ∀ i j, i < n → j < n → 0 ≤ (fun i j => qt (tb (π i) (π j))) i j := fun i j hi hj => by
    obtain ⟨w1, w2, w3, w4⟩ := ht.fr _ _ (hπ.1 i hi) (hπ.1 j hj)
    show 0 ≤ ((tb (π i) (π j)).1 : Rat) / ((tb (π i) (π j)).2 : Rat)
    have h1 : (0 : Rat) ≤ ((tb (π i) (π j)).1 : Rat) := Rat.intCast_nonneg.mpr w3
    have h2 : (0 : Rat) < ((tb (π i) (π j)).2 : Rat) := Rat.intCast_pos.mpr (by omega)
    rw [Rat.div_def]
    exact Rat.mul_nonneg h1 (Rat.le_of_lt (Rat.inv_pos.mpr h2))
  rcases told ht with ⟨p, lp, rp, bp, hp⟩ | ⟨y, fl, fy, hy⟩
  · rcases told ht' with ⟨p', lp', rp', bp', hp'⟩ | ⟨y', fl', fy', hy'⟩
    · have same : ∀ i, i < n → p' i = p (π i) := fun i hi => qt_low (lp' i hi) (lp _ (hπ.1 i hi)) (only_one q0 (rest_turn hπ rp) rp' i hi)
      have e' : rl n (fun i => fr (p' i)) = rl n (fun i => fr (p (π i))) := rl_congr fun i hi => by rw [same i hi]
      rw [e'] at hp'
      have : fd = .tup [.str "rest", rl n (fun i => fr (p i))] := by rw [hfd] at hp; exact Out.ok.inj hp
      subst this
      have hc : ∀ a5, eComp [none, some 3] (itL (eVar 4)) (gN 0) cTrue X_law_2 [some (.k, sc), some (.k, rl n (fun i => rl n (fun j => fr (tb i j)))), some (.k, many), some (.k, .tup [.str "rest", rl n (fun i => fr (p i))]), some (.k, rl n (fun i => .int (π i : Int))), a5] = .ok (rl n (fun i => fr (p (π i)))) := fun a5 => by
        refine comp_of (fun i : Nat => D.int (π i : Int)) (fun i => fr (p (π i))) rfl (fun i hi => ?_) (by rw [List.length_range]; omega)
        have x1 : dIx (.tup [.str "rest", rl n (fun i => fr (p i))]) (.int 1) = .ok (rl n (fun i => fr (p i))) := ix_tup1 _ _ _
        have x2 : dIx (rl n (fun i => fr (p i))) (.int (π i : Int)) = .ok (fr (p (π i))) := ixR (hπ.1 i (List.mem_range.mp hi))
        refine r_turn (by walk_at "cap") (by walk_at "s") ?_
        unfold X_law_2
        (repeat walk_at "e")
      have s1 := strne (a := "rest") (b := "rest") (z := false)
      have s2 := streq (a := "rest") (b := "rest") (z := true)
      have x0 : dIx (.tup [.str "rest", rl n (fun i => fr (p i))]) (.int 0) = .ok (.str "rest") := ix_tup0 _ _
      have x3 : dIx (.tup [.str "rest", rl n (fun i => fr (p (π i)))]) (.int 0) = .ok (.str "rest") := ix_tup0 _ _
      have x4 : dIx (.tup [.str "rest", rl n (fun i => fr (p (π i)))]) (.int 1) = .ok (rl n (fun i => fr (p (π i)))) := ix_tup1 _ _ _
      have hne : dNe (rl n (fun i => fr (p (π i)))) (rl n (fun i => fr (p (π i)))) = .ok (.bl false) := ne_same (lay_rl fun i _ => rfl) (Nat.le_trans (dep_rl (m := dep (fr (0, 0))) fun i _ => Nat.le_refl _) (by decide))
      refine ⟨some (.k, .tup [.str "rest", rl n (fun i => fr (p (π i)))]), ?_⟩
      unfold L_law_0
      (repeat (first | with_reducible exact hc _ | walk_at "e"))
    · exact absurd (rest_turn hπ rp) (fun w => not_both w fy')
  · rcases told ht' with ⟨p', lp', rp', bp', hp'⟩ | ⟨y', fl', fy', hy'⟩
    · exact absurd (flow_turn hπ fy) (fun w => not_both rp' w)
    · have : fd = .tup [.str "unrest", fl] := by rw [hfd] at hy; exact Out.ok.inj hy
      subst this
      have s1 := strne (a := "unrest") (b := "unrest") (z := false)
      have s2 := streq (a := "unrest") (b := "rest") (z := false)
      have x0 : dIx (.tup [.str "unrest", fl]) (.int 0) = .ok (.str "unrest") := ix_tup0 _ _
      have x3 : dIx (.tup [.str "unrest", fl']) (.int 0) = .ok (.str "unrest") := ix_tup0 _ _
      refine ⟨some (.k, .tup [.str "unrest", fl']), ?_⟩
      unfold L_law_0
      (repeat walk_at "e")
theorem loop_all {body : D → SD → Out Fl} {P : SD → Prop} : ∀ (l : List D), (∀ d ∈ l, ∀ ς, P ς → ∃ ς', body d ς = .ok (.nx ς') ∧ P ς') → ∀ ς, P ς → ∃ ς', loopD body l ς = .ok (.nx ς') ∧ P ς'
  | [], _, ς, p => ⟨ς, rfl, p⟩
  | d :: l, h, ς, p => by
    obtain ⟨ς1, h1, p1⟩ := h d (List.mem_cons_self ..) ς p
    obtain ⟨ς2, h2, p2⟩ := loop_all l (fun d hd => h d (List.mem_cons_of_mem _ hd)) ς1 p1
    exact ⟨ς2, by rw [loopD, h1]; exact h2, p2⟩
theorem one_table {d : D} (hd : GoodTab d) {sc : D} {a2 a3 a4 a5 : Option (SM × D)} : ∃ b2 b3 b4 b5, L_law_1 [some (.k, sc), some (.k, d), a2, a3, a4, a5] = .ok (.nx [some (.k, sc), some (.k, d), b2, b3, b4, b5]) := by
  obtain ⟨n, tb, ht, n4, rfl⟩ := hd
  have n1 := ht.n1
  obtain ⟨fd, hfd⟩ : ∃ fd, b_left_out [rl n (fun i => rl n (fun j => fr (tb i j)))] = .ok fd := by
    rcases told ht with ⟨p, _, _, _, hp⟩ | ⟨y, fl, _, hy⟩
    · exact ⟨_, hp⟩
    · exact ⟨_, hy⟩
  have np : (0 : Int) < (n : Int) := by omega
  have hlen := lenR n (fun i => rl n (fun j => fr (tb i j)))
  have c0 : eComp [none, some 2] (itR1 (eVar 2)) (gN 0) cTrue X_law_0 [some (.k, sc), some (.k, rl n (fun i => rl n (fun j => fr (tb i j)))), some (.k, .int (n : Int)), some (.k, fd), a4, a5] = .ok (rl n (fun i => .int (((fun k => (k + 1) % n) i : Nat) : Int))) := by
    refine comp_rng (fun i => .int (((fun k => (k + 1) % n) i : Nat) : Int)) (rng_ok n (by (repeat walk_at "e")) (by omega)) (fun i hi => ?_) (by omega)
    refine r_turn (by walk_at "cap") (by walk_at "s") ?_
    have e : (((i + 1) % n : Nat) : Int) = ((i : Int) + 1) % (n : Int) := by rw [Int.natCast_emod, Int.natCast_add]; rfl
    show _ = Out.ok (D.int (((i + 1) % n : Nat) : Int))
    rw [e]
    unfold X_law_0
    (repeat walk_at "e")
  have c1 : eComp [none, some 2] (itR1 (eVar 2)) (gN 0) cTrue X_law_1 [some (.k, sc), some (.k, rl n (fun i => rl n (fun j => fr (tb i j)))), some (.k, .int (n : Int)), some (.k, fd), a4, a5] = .ok (rl n (fun i => .int (((fun k => n - 1 - k) i : Nat) : Int))) := by
    refine comp_rng (fun i => .int (((fun k => n - 1 - k) i : Nat) : Int)) (rng_ok n (by (repeat walk_at "e")) (by omega)) (fun i hi => ?_) (by omega)
    refine r_turn (by walk_at "cap") (by walk_at "s") ?_
    have e : ((n - 1 - i : Nat) : Int) = (n : Int) - 1 - (i : Int) := by omega
    show _ = Out.ok (D.int ((n - 1 - i : Nat) : Int))
    rw [e]
    unfold X_law_1
    (repeat walk_at "e")
  obtain ⟨b5, h1⟩ := one_turn ht n4 (turn1 n1 n4) hfd (sc := sc) (a5 := a5) (many := .int (n : Int))
  obtain ⟨c5, h2⟩ := one_turn ht n4 (turn2 n1 n4) hfd (sc := sc) (a5 := b5) (many := .int (n : Int))
  generalize rl n (fun i => .int (((fun k => (k + 1) % n) i : Nat) : Int)) = l1 at *
  generalize rl n (fun i => .int (((fun k => n - 1 - k) i : Nat) : Int)) = l2 at *
  generalize rl n (fun i => rl n (fun j => fr (tb i j))) = T at *
  refine ⟨some (.k, .int (n : Int)), some (.k, fd), some (.k, l2), c5, ?_⟩
  have hL : loopD (fun x ς => gN 4 x ς >>= fun ς' => L_law_0 ς') [l1, l2] [some (.k, sc), some (.k, T), some (.k, .int (n : Int)), some (.k, fd), a4, a5] = .ok (.nx [some (.k, sc), some (.k, T), some (.k, .int (n : Int)), some (.k, fd), some (.k, l2), c5]) := by
    have g1 : (gN 4 l1 [some (.k, sc), some (.k, T), some (.k, .int (n : Int)), some (.k, fd), a4, a5] >>= fun ς' => L_law_0 ς') = .ok (.nx [some (.k, sc), some (.k, T), some (.k, .int (n : Int)), some (.k, fd), some (.k, l1), b5]) := r_gN (by walk_at "s") h1
    have g2 : (gN 4 l2 [some (.k, sc), some (.k, T), some (.k, .int (n : Int)), some (.k, fd), some (.k, l1), b5] >>= fun ς' => L_law_0 ς') = .ok (.nx [some (.k, sc), some (.k, T), some (.k, .int (n : Int)), some (.k, fd), some (.k, l2), c5]) := r_gN (by walk_at "s") h2
    rw [loopD, g1]
    show loopD (fun x ς => gN 4 x ς >>= fun ς' => L_law_0 ς') [l2] [some (.k, sc), some (.k, T), some (.k, .int (n : Int)), some (.k, fd), some (.k, l1), b5] = _
    rw [loopD, g2]
    rfl
  have hfor := sFor_of (g := gN 4) (T := L_law_0) (its := itL (eLst (aCons (eComp [none, some 2] (itR1 (eVar 2)) (gN 0) cTrue X_law_0) (aCons (eComp [none, some 2] (itR1 (eVar 2)) (gN 0) cTrue X_law_1) aNil)))) (xs := [l1, l2]) (by (repeat walk_at "e")) hL
  unfold L_law_1
  (repeat walk_at "e")
theorem the_law (ns : List Int) (hl : ns.length ≤ 63) (hb : ∀ z ∈ ns, bitsI z ≤ 1048576) : b_law [.lst (ns.map .int)] = .ok (.bl true) := by
  have hcut : cutD (ns.map D.int) none (some 84) = ns.map D.int := by
    have := cut_to (ns.map D.int) 84
    rw [List.take_of_length_le (by rw [List.length_map]; omega)] at this
    exact this
  obtain ⟨tl, ht, tlen, htl⟩ := tables_ok hl
  obtain ⟨ς', hL, a1, a2, a3, a4, a5, rfl⟩ := loop_all (body := fun x ς => gN 1 x ς >>= fun ς' => L_law_1 ς') (P := fun ς => ∃ (a1 a2 a3 a4 a5 : Option (SM × D)), ς = [some (.k, .lst (ns.map .int)), a1, a2, a3, a4, a5]) tl
    (by
      rintro d hd ς ⟨a1, a2, a3, a4, a5, rfl⟩
      obtain ⟨b2, b3, b4, b5, h⟩ := one_table (ht d hd) (sc := .lst (ns.map .int)) (a2 := a2) (a3 := a3) (a4 := a4) (a5 := a5)
      exact ⟨_, r_gN (by walk_at "s") h, _, _, _, _, _, rfl⟩)
    [some (.k, .lst (ns.map .int)), none, none, none, none, none] ⟨_, _, _, _, _, rfl⟩
  have hfor := sFor_of (g := gN 1) (T := L_law_1) (its := itL (eA (fun xs => b_law_tables (xs ++ [])) (aCons (eSl (eVar 0) oNo (oSome (eC (.int 84)))) aNil))) (xs := tl) (by (repeat walk_at "e")) hL
  rw [u_law]
  unfold T_law
  (repeat walk_at "e")
end My
set_option Elab.async false
set_option linter.all false
set_option maxRecDepth 100000
set_option maxHeartbeats 4000000
namespace My
open PySem PySem.Spec L2 DL
theorem all_mk {l : PySem.W.OpenLaw} {w : World} {K : PySem.W.Frag} {h : Heap} {mg : Str → Option Value} {fa : Addr} (X : K.In h) (G : h.Ns mainGlobals mg) (hfa : mg "law" = some (.ref fa))
    {f_law_mixed : Addr} {od_law_mixed an_law_mixed : Option Addr} {sl_law_mixed : Array (Option Value)} {oc_law_mixed kV_law_mixed dc_law_mixed pm_law_mixed cd_law_mixed ct_law_mixed : Value} {f_law_divisor : Addr} {od_law_divisor an_law_divisor : Option Addr} {sl_law_divisor : Array (Option Value)} {oc_law_divisor kV_law_divisor dc_law_divisor pm_law_divisor cd_law_divisor ct_law_divisor : Value} {f_law_share : Addr} {od_law_share an_law_share : Option Addr} {sl_law_share : Array (Option Value)} {oc_law_share kV_law_share dc_law_share pm_law_share cd_law_share ct_law_share : Value} {f_law_tables : Addr} {od_law_tables an_law_tables : Option Addr} {sl_law_tables : Array (Option Value)} {oc_law_tables kV_law_tables dc_law_tables pm_law_tables cd_law_tables ct_law_tables : Value} {f_greatest_divisor : Addr} {od_greatest_divisor an_greatest_divisor : Option Addr} {sl_greatest_divisor : Array (Option Value)} {oc_greatest_divisor kV_greatest_divisor dc_greatest_divisor pm_greatest_divisor cd_greatest_divisor ct_greatest_divisor : Value} {f_common_bottom : Addr} {od_common_bottom an_common_bottom : Option Addr} {sl_common_bottom : Array (Option Value)} {oc_common_bottom kV_common_bottom dc_common_bottom pm_common_bottom cd_common_bottom ct_common_bottom : Value} {f_whole_row : Addr} {od_whole_row an_whole_row : Option Addr} {sl_whole_row : Array (Option Value)} {oc_whole_row kV_whole_row dc_whole_row pm_whole_row cd_whole_row ct_whole_row : Value} {f_is_whole : Addr} {od_is_whole an_is_whole : Option Addr} {sl_is_whole : Array (Option Value)} {oc_is_whole kV_is_whole dc_is_whole pm_is_whole cd_is_whole ct_is_whole : Value} {f_share : Addr} {od_share an_share : Option Addr} {sl_share : Array (Option Value)} {oc_share kV_share dc_share pm_share cd_share ct_share : Value} {t_share : Addr} {tk_share : Tok} {toc_share : Value} {tod_share : Option Addr} {tn_share : Nat} {tsl_share : Array (Option Value)} {f_worths_in : Addr} {od_worths_in an_worths_in : Option Addr} {sl_worths_in : Array (Option Value)} {oc_worths_in kV_worths_in dc_worths_in pm_worths_in cd_worths_in ct_worths_in : Value} {f_least_whole : Addr} {od_least_whole an_least_whole : Option Addr} {sl_least_whole : Array (Option Value)} {oc_least_whole kV_least_whole dc_least_whole pm_least_whole cd_least_whole ct_least_whole : Value} {f_flow_in : Addr} {od_flow_in an_flow_in : Option Addr} {sl_flow_in : Array (Option Value)} {oc_flow_in kV_flow_in dc_flow_in pm_flow_in cd_flow_in ct_flow_in : Value} {f_without : Addr} {od_without an_without : Option Addr} {sl_without : Array (Option Value)} {oc_without kV_without dc_without pm_without cd_without ct_without : Value} {f_balanced : Addr} {od_balanced an_balanced : Option Addr} {sl_balanced : Array (Option Value)} {oc_balanced kV_balanced dc_balanced pm_balanced cd_balanced ct_balanced : Value} {f_left_out : Addr} {od_left_out an_left_out : Option Addr} {sl_left_out : Array (Option Value)} {oc_left_out kV_left_out dc_left_out pm_left_out cd_left_out ct_left_out : Value} {f_law_turned : Addr} {od_law_turned an_law_turned : Option Addr} {sl_law_turned : Array (Option Value)} {oc_law_turned kV_law_turned dc_law_turned pm_law_turned cd_law_turned ct_law_turned : Value} {f_law : Addr} {od_law an_law : Option Addr} {sl_law : Array (Option Value)} {oc_law kV_law dc_law pm_law cd_law ct_law : Value}
    (a_law_mixed : PySem.W.nsIn K mainGlobals "_law_mixed" = some (some (.ref f_law_mixed)))
    (l_law_mixed : K.lookup f_law_mixed = some ⟨oc_law_mixed, od_law_mixed, .func (PySem.W.fnOf "_law_mixed" "_law_mixed" (defArgs s_law_mixed) (defBody s_law_mixed) (defScope s_law_mixed) .none kV_law_mixed dc_law_mixed pm_law_mixed an_law_mixed cd_law_mixed ct_law_mixed), sl_law_mixed⟩)
    (c_law_mixed : PySem.W.codeIn K cd_law_mixed "_law_mixed" = true)
    (k_law_mixed : PySem.W.keepIn K (.ref f_law_mixed) = true)
    (a_law_divisor : PySem.W.nsIn K mainGlobals "_law_divisor" = some (some (.ref f_law_divisor)))
    (l_law_divisor : K.lookup f_law_divisor = some ⟨oc_law_divisor, od_law_divisor, .func (PySem.W.fnOf "_law_divisor" "_law_divisor" (defArgs s_law_divisor) (defBody s_law_divisor) (defScope s_law_divisor) .none kV_law_divisor dc_law_divisor pm_law_divisor an_law_divisor cd_law_divisor ct_law_divisor), sl_law_divisor⟩)
    (c_law_divisor : PySem.W.codeIn K cd_law_divisor "_law_divisor" = true)
    (k_law_divisor : PySem.W.keepIn K (.ref f_law_divisor) = true)
    (a_law_share : PySem.W.nsIn K mainGlobals "_law_share" = some (some (.ref f_law_share)))
    (l_law_share : K.lookup f_law_share = some ⟨oc_law_share, od_law_share, .func (PySem.W.fnOf "_law_share" "_law_share" (defArgs s_law_share) (defBody s_law_share) (defScope s_law_share) .none kV_law_share dc_law_share pm_law_share an_law_share cd_law_share ct_law_share), sl_law_share⟩)
    (c_law_share : PySem.W.codeIn K cd_law_share "_law_share" = true)
    (k_law_share : PySem.W.keepIn K (.ref f_law_share) = true)
    (a_law_tables : PySem.W.nsIn K mainGlobals "_law_tables" = some (some (.ref f_law_tables)))
    (l_law_tables : K.lookup f_law_tables = some ⟨oc_law_tables, od_law_tables, .func (PySem.W.fnOf "_law_tables" "_law_tables" (defArgs s_law_tables) (defBody s_law_tables) (defScope s_law_tables) .none kV_law_tables dc_law_tables pm_law_tables an_law_tables cd_law_tables ct_law_tables), sl_law_tables⟩)
    (c_law_tables : PySem.W.codeIn K cd_law_tables "_law_tables" = true)
    (k_law_tables : PySem.W.keepIn K (.ref f_law_tables) = true)
    (a_greatest_divisor : PySem.W.nsIn K mainGlobals "greatest_divisor" = some (some (.ref f_greatest_divisor)))
    (l_greatest_divisor : K.lookup f_greatest_divisor = some ⟨oc_greatest_divisor, od_greatest_divisor, .func (PySem.W.fnOf "greatest_divisor" "greatest_divisor" (defArgs s_greatest_divisor) (defBody s_greatest_divisor) (defScope s_greatest_divisor) .none kV_greatest_divisor dc_greatest_divisor pm_greatest_divisor an_greatest_divisor cd_greatest_divisor ct_greatest_divisor), sl_greatest_divisor⟩)
    (c_greatest_divisor : PySem.W.codeIn K cd_greatest_divisor "greatest_divisor" = true)
    (k_greatest_divisor : PySem.W.keepIn K (.ref f_greatest_divisor) = true)
    (a_common_bottom : PySem.W.nsIn K mainGlobals "common_bottom" = some (some (.ref f_common_bottom)))
    (l_common_bottom : K.lookup f_common_bottom = some ⟨oc_common_bottom, od_common_bottom, .func (PySem.W.fnOf "common_bottom" "common_bottom" (defArgs s_common_bottom) (defBody s_common_bottom) (defScope s_common_bottom) .none kV_common_bottom dc_common_bottom pm_common_bottom an_common_bottom cd_common_bottom ct_common_bottom), sl_common_bottom⟩)
    (c_common_bottom : PySem.W.codeIn K cd_common_bottom "common_bottom" = true)
    (k_common_bottom : PySem.W.keepIn K (.ref f_common_bottom) = true)
    (a_whole_row : PySem.W.nsIn K mainGlobals "whole_row" = some (some (.ref f_whole_row)))
    (l_whole_row : K.lookup f_whole_row = some ⟨oc_whole_row, od_whole_row, .func (PySem.W.fnOf "whole_row" "whole_row" (defArgs s_whole_row) (defBody s_whole_row) (defScope s_whole_row) .none kV_whole_row dc_whole_row pm_whole_row an_whole_row cd_whole_row ct_whole_row), sl_whole_row⟩)
    (c_whole_row : PySem.W.codeIn K cd_whole_row "whole_row" = true)
    (k_whole_row : PySem.W.keepIn K (.ref f_whole_row) = true)
    (a_is_whole : PySem.W.nsIn K mainGlobals "is_whole" = some (some (.ref f_is_whole)))
    (l_is_whole : K.lookup f_is_whole = some ⟨oc_is_whole, od_is_whole, .func (PySem.W.fnOf "is_whole" "is_whole" (defArgs s_is_whole) (defBody s_is_whole) (defScope s_is_whole) .none kV_is_whole dc_is_whole pm_is_whole an_is_whole cd_is_whole ct_is_whole), sl_is_whole⟩)
    (c_is_whole : PySem.W.codeIn K cd_is_whole "is_whole" = true)
    (k_is_whole : PySem.W.keepIn K (.ref f_is_whole) = true)
    (a_share : PySem.W.nsIn K mainGlobals "share" = some (some (.ref f_share)))
    (l_share : K.lookup f_share = some ⟨oc_share, od_share, .func (PySem.W.fnOf "share" "share" (defArgs s_share) (defBody s_share) (defScope s_share) (.ref t_share) kV_share dc_share pm_share an_share cd_share ct_share), sl_share⟩)
    (c_share : PySem.W.codeIn K cd_share "share" = true)
    (k_share : PySem.W.keepIn K (.ref f_share) = true)
    (t_shareh : K.lookup t_share = some ⟨toc_share, tod_share, .seq #[.int 1 tk_share] tn_share, tsl_share⟩)
    (a_worths_in : PySem.W.nsIn K mainGlobals "worths_in" = some (some (.ref f_worths_in)))
    (l_worths_in : K.lookup f_worths_in = some ⟨oc_worths_in, od_worths_in, .func (PySem.W.fnOf "worths_in" "worths_in" (defArgs s_worths_in) (defBody s_worths_in) (defScope s_worths_in) .none kV_worths_in dc_worths_in pm_worths_in an_worths_in cd_worths_in ct_worths_in), sl_worths_in⟩)
    (c_worths_in : PySem.W.codeIn K cd_worths_in "worths_in" = true)
    (k_worths_in : PySem.W.keepIn K (.ref f_worths_in) = true)
    (a_least_whole : PySem.W.nsIn K mainGlobals "least_whole" = some (some (.ref f_least_whole)))
    (l_least_whole : K.lookup f_least_whole = some ⟨oc_least_whole, od_least_whole, .func (PySem.W.fnOf "least_whole" "least_whole" (defArgs s_least_whole) (defBody s_least_whole) (defScope s_least_whole) .none kV_least_whole dc_least_whole pm_least_whole an_least_whole cd_least_whole ct_least_whole), sl_least_whole⟩)
    (c_least_whole : PySem.W.codeIn K cd_least_whole "least_whole" = true)
    (k_least_whole : PySem.W.keepIn K (.ref f_least_whole) = true)
    (a_flow_in : PySem.W.nsIn K mainGlobals "flow_in" = some (some (.ref f_flow_in)))
    (l_flow_in : K.lookup f_flow_in = some ⟨oc_flow_in, od_flow_in, .func (PySem.W.fnOf "flow_in" "flow_in" (defArgs s_flow_in) (defBody s_flow_in) (defScope s_flow_in) .none kV_flow_in dc_flow_in pm_flow_in an_flow_in cd_flow_in ct_flow_in), sl_flow_in⟩)
    (c_flow_in : PySem.W.codeIn K cd_flow_in "flow_in" = true)
    (k_flow_in : PySem.W.keepIn K (.ref f_flow_in) = true)
    (a_without : PySem.W.nsIn K mainGlobals "without" = some (some (.ref f_without)))
    (l_without : K.lookup f_without = some ⟨oc_without, od_without, .func (PySem.W.fnOf "without" "without" (defArgs s_without) (defBody s_without) (defScope s_without) .none kV_without dc_without pm_without an_without cd_without ct_without), sl_without⟩)
    (c_without : PySem.W.codeIn K cd_without "without" = true)
    (k_without : PySem.W.keepIn K (.ref f_without) = true)
    (a_balanced : PySem.W.nsIn K mainGlobals "balanced" = some (some (.ref f_balanced)))
    (l_balanced : K.lookup f_balanced = some ⟨oc_balanced, od_balanced, .func (PySem.W.fnOf "balanced" "balanced" (defArgs s_balanced) (defBody s_balanced) (defScope s_balanced) .none kV_balanced dc_balanced pm_balanced an_balanced cd_balanced ct_balanced), sl_balanced⟩)
    (c_balanced : PySem.W.codeIn K cd_balanced "balanced" = true)
    (k_balanced : PySem.W.keepIn K (.ref f_balanced) = true)
    (a_left_out : PySem.W.nsIn K mainGlobals "left_out" = some (some (.ref f_left_out)))
    (l_left_out : K.lookup f_left_out = some ⟨oc_left_out, od_left_out, .func (PySem.W.fnOf "left_out" "left_out" (defArgs s_left_out) (defBody s_left_out) (defScope s_left_out) .none kV_left_out dc_left_out pm_left_out an_left_out cd_left_out ct_left_out), sl_left_out⟩)
    (c_left_out : PySem.W.codeIn K cd_left_out "left_out" = true)
    (k_left_out : PySem.W.keepIn K (.ref f_left_out) = true)
    (a_law_turned : PySem.W.nsIn K mainGlobals "_law_turned" = some (some (.ref f_law_turned)))
    (l_law_turned : K.lookup f_law_turned = some ⟨oc_law_turned, od_law_turned, .func (PySem.W.fnOf "_law_turned" "_law_turned" (defArgs s_law_turned) (defBody s_law_turned) (defScope s_law_turned) .none kV_law_turned dc_law_turned pm_law_turned an_law_turned cd_law_turned ct_law_turned), sl_law_turned⟩)
    (c_law_turned : PySem.W.codeIn K cd_law_turned "_law_turned" = true)
    (k_law_turned : PySem.W.keepIn K (.ref f_law_turned) = true)
    (a_law : PySem.W.nsIn K mainGlobals "law" = some (some (.ref f_law)))
    (l_law : K.lookup f_law = some ⟨oc_law, od_law, .func (PySem.W.fnOf "law" "law" (defArgs s_law) (defBody s_law) (defScope s_law) .none kV_law dc_law pm_law an_law cd_law ct_law), sl_law⟩)
    (c_law : PySem.W.codeIn K cd_law "law" = true)
    (k_law : PySem.W.keepIn K (.ref f_law) = true)
    (z_len : PySem.W.nsIn K mainGlobals "len" = some none)
    (z_range : PySem.W.nsIn K mainGlobals "range" = some none)
    (z_isinstance : PySem.W.nsIn K mainGlobals "isinstance" = some none)
    (z_int : PySem.W.nsIn K mainGlobals "int" = some none)
    (z_bool : PySem.W.nsIn K mainGlobals "bool" = some none)
    (z_abs : PySem.W.nsIn K mainGlobals "abs" = some none)
    (z_sum : PySem.W.nsIn K mainGlobals "sum" = some none)
    (z_zip : PySem.W.nsIn K mainGlobals "zip" = some none)
    (z_enumerate : PySem.W.nsIn K mainGlobals "enumerate" = some none) :
    ∃ fd : FuncData, (∀ (s : Shared) (v : Value), BindsTo s fd ⟨[v], []⟩ [("_law_script", v)]) ∧ ∀ base : Heap, K.In base → base.Ns mainGlobals mg → FnOk l.prog w K mg base CX0 7 fa fd ["_law_script"] (SpD K (ctOf K) false b_law) := by
  have ee := hfa.symm.trans (PySem.W.mg_of X G a_law)
  cases ee
  have F_law_mixed := funV_mk (st := s_law_mixed) l_law_mixed c_law_mixed k_law_mixed
  have B_law_mixed := F_law_mixed.binds (ps := ["_law_cell", "_law_k"]) fun _ _ _ _ _ _ us hl => match us, hl with | [_, _], _ => rfl
  have F_law_divisor := funV_mk (st := s_law_divisor) l_law_divisor c_law_divisor k_law_divisor
  have B_law_divisor := F_law_divisor.binds (ps := ["_law_one", "_law_other"]) fun _ _ _ _ _ _ us hl => match us, hl with | [_, _], _ => rfl
  have F_law_share := funV_mk (st := s_law_share) l_law_share c_law_share k_law_share
  have B_law_share := F_law_share.binds (ps := ["_law_number"]) fun _ _ _ _ _ _ us hl => match us, hl with | [_], _ => rfl
  have F_law_tables := funV_mk (st := s_law_tables) l_law_tables c_law_tables k_law_tables
  have B_law_tables := F_law_tables.binds (ps := ["_law_cells"]) fun _ _ _ _ _ _ us hl => match us, hl with | [_], _ => rfl
  have F_greatest_divisor := funV_mk (st := s_greatest_divisor) l_greatest_divisor c_greatest_divisor k_greatest_divisor
  have B_greatest_divisor := F_greatest_divisor.binds (ps := ["one", "other"]) fun _ _ _ _ _ _ us hl => match us, hl with | [_, _], _ => rfl
  have F_common_bottom := funV_mk (st := s_common_bottom) l_common_bottom c_common_bottom k_common_bottom
  have B_common_bottom := F_common_bottom.binds (ps := ["fractions"]) fun _ _ _ _ _ _ us hl => match us, hl with | [_], _ => rfl
  have F_whole_row := funV_mk (st := s_whole_row) l_whole_row c_whole_row k_whole_row
  have B_whole_row := F_whole_row.binds (ps := ["shares", "gain", "k", "scale"]) fun _ _ _ _ _ _ us hl => match us, hl with | [_, _, _, _], _ => rfl
  have F_is_whole := funV_mk (st := s_is_whole) l_is_whole c_is_whole k_is_whole
  have B_is_whole := F_is_whole.binds (ps := ["thing"]) fun _ _ _ _ _ _ us hl => match us, hl with | [_], _ => rfl
  have F_share := funV_mk (st := s_share) l_share c_share k_share
  have F_worths_in := funV_mk (st := s_worths_in) l_worths_in c_worths_in k_worths_in
  have B_worths_in := F_worths_in.binds (ps := ["rows", "last"]) fun _ _ _ _ _ _ us hl => match us, hl with | [_, _], _ => rfl
  have F_least_whole := funV_mk (st := s_least_whole) l_least_whole c_least_whole k_least_whole
  have B_least_whole := F_least_whole.binds (ps := ["fractions"]) fun _ _ _ _ _ _ us hl => match us, hl with | [_], _ => rfl
  have F_flow_in := funV_mk (st := s_flow_in) l_flow_in c_flow_in k_flow_in
  have B_flow_in := F_flow_in.binds (ps := ["rows", "scales", "k", "last"]) fun _ _ _ _ _ _ us hl => match us, hl with | [_, _, _, _], _ => rfl
  have F_without := funV_mk (st := s_without) l_without c_without k_without
  have B_without := F_without.binds (ps := ["row", "leaver", "k", "last"]) fun _ _ _ _ _ _ us hl => match us, hl with | [_, _, _, _], _ => rfl
  have F_balanced := funV_mk (st := s_balanced) l_balanced c_balanced k_balanced
  have B_balanced := F_balanced.binds (ps := ["table", "gains"]) fun _ _ _ _ _ _ us hl => match us, hl with | [_, _], _ => rfl
  have F_left_out := funV_mk (st := s_left_out) l_left_out c_left_out k_left_out
  have B_left_out := F_left_out.binds (ps := ["table"]) fun _ _ _ _ _ _ us hl => match us, hl with | [_], _ => rfl
  have F_law_turned := funV_mk (st := s_law_turned) l_law_turned c_law_turned k_law_turned
  have B_law_turned := F_law_turned.binds (ps := ["_law_table", "_law_places"]) fun _ _ _ _ _ _ us hl => match us, hl with | [_, _], _ => rfl
  have F_law := funV_mk (st := s_law) l_law c_law k_law
  have B_law := F_law.binds (ps := ["_law_script"]) fun _ _ _ _ _ _ us hl => match us, hl with | [_], _ => rfl
  have zz_len : mg "len" = none := PySem.W.mg_none_of X G z_len
  have zz_range : mg "range" = none := PySem.W.mg_none_of X G z_range
  have zz_isinstance : mg "isinstance" = none := PySem.W.mg_none_of X G z_isinstance
  have zz_int : mg "int" = none := PySem.W.mg_none_of X G z_int
  have zz_bool : mg "bool" = none := PySem.W.mg_none_of X G z_bool
  have zz_abs : mg "abs" = none := PySem.W.mg_none_of X G z_abs
  have zz_sum : mg "sum" = none := PySem.W.mg_none_of X G z_sum
  have zz_zip : mg "zip" = none := PySem.W.mg_none_of X G z_zip
  have zz_enumerate : mg "enumerate" = none := PySem.W.mg_none_of X G z_enumerate
  refine ⟨PySem.W.fnOf "law" "law" (defArgs s_law) (defBody s_law) (defScope s_law) .none kV_law dc_law pm_law an_law cd_law ct_law, fun s v => .of_eq rfl, fun base _ _ => ?_⟩
  have K_law_mixed : FnOk l.prog w K mg base CX0 1 _ _ ["_law_cell", "_law_k"] (SpD K (ctOf K) false b_law_mixed) := d_law_mixed F_law_mixed 
  have H_law_mixed : DefOk l.prog w K mg base (ctOf K) "_law_mixed" 1 false [] b_law_mixed := ⟨_, _, _, _, K_law_mixed, PySem.W.mg_of X G a_law_mixed, k_law_mixed, B_law_mixed, .nil⟩
  have K_law_divisor : FnOk l.prog w K mg base CX0 1 _ _ ["_law_one", "_law_other"] (SpD K (ctOf K) false b_law_divisor) := d_law_divisor F_law_divisor 
  have H_law_divisor : DefOk l.prog w K mg base (ctOf K) "_law_divisor" 1 false [] b_law_divisor := ⟨_, _, _, _, K_law_divisor, PySem.W.mg_of X G a_law_divisor, k_law_divisor, B_law_divisor, .nil⟩
  have K_law_share : FnOk l.prog w K mg base CX0 2 _ _ ["_law_number"] (SpD K (ctOf K) false b_law_share) := d_law_share F_law_share H_law_divisor
  have H_law_share : DefOk l.prog w K mg base (ctOf K) "_law_share" 2 false [] b_law_share := ⟨_, _, _, _, K_law_share, PySem.W.mg_of X G a_law_share, k_law_share, B_law_share, .nil⟩
  have K_law_tables : FnOk l.prog w K mg base CX0 3 _ _ ["_law_cells"] (SpD K (ctOf K) true b_law_tables) := d_law_tables F_law_tables H_law_mixed H_law_share zz_len zz_range
  have H_law_tables : DefOk l.prog w K mg base (ctOf K) "_law_tables" 3 true [] b_law_tables := ⟨_, _, _, _, K_law_tables, PySem.W.mg_of X G a_law_tables, k_law_tables, B_law_tables, .nil⟩
  have K_greatest_divisor : FnOk l.prog w K mg base CX0 1 _ _ ["one", "other"] (SpD K (ctOf K) false b_greatest_divisor) := d_greatest_divisor F_greatest_divisor 
  have H_greatest_divisor : DefOk l.prog w K mg base (ctOf K) "greatest_divisor" 1 false [] b_greatest_divisor := ⟨_, _, _, _, K_greatest_divisor, PySem.W.mg_of X G a_greatest_divisor, k_greatest_divisor, B_greatest_divisor, .nil⟩
  have K_common_bottom : FnOk l.prog w K mg base CX0 2 _ _ ["fractions"] (SpD K (ctOf K) false b_common_bottom) := d_common_bottom F_common_bottom H_greatest_divisor
  have H_common_bottom : DefOk l.prog w K mg base (ctOf K) "common_bottom" 2 false [] b_common_bottom := ⟨_, _, _, _, K_common_bottom, PySem.W.mg_of X G a_common_bottom, k_common_bottom, B_common_bottom, .nil⟩
  have K_whole_row : FnOk l.prog w K mg base CX0 1 _ _ ["shares", "gain", "k", "scale"] (SpD K (ctOf K) true b_whole_row) := d_whole_row F_whole_row 
  have H_whole_row : DefOk l.prog w K mg base (ctOf K) "whole_row" 1 true [] b_whole_row := ⟨_, _, _, _, K_whole_row, PySem.W.mg_of X G a_whole_row, k_whole_row, B_whole_row, .nil⟩
  have K_is_whole : FnOk l.prog w K mg base CX0 1 _ _ ["thing"] (SpD K (ctOf K) false b_is_whole) := d_is_whole F_is_whole zz_isinstance zz_int zz_bool
  have H_is_whole : DefOk l.prog w K mg base (ctOf K) "is_whole" 1 false [] b_is_whole := ⟨_, _, _, _, K_is_whole, PySem.W.mg_of X G a_is_whole, k_is_whole, B_is_whole, .nil⟩
  have K_share : FnOk l.prog w K mg base CX0 2 _ _ ["top", "bottom"] (SpD K (ctOf K) false b_share) := d_share F_share H_is_whole H_greatest_divisor zz_abs
  have B_share_0 : Binds K (PySem.W.fnOf "share" "share" (defArgs s_share) (defBody s_share) (defScope s_share) (.ref t_share) kV_share dc_share pm_share an_share cd_share ct_share) ["top", "bottom"] [] := fun s us kin hl => by
    match us, hl with
    | [], hh => exact absurd hh (by simp)
    | [_], hh => exact absurd hh (by simp)
    | [_, _], _ => exact PySem.W.binds_K kin rfl t_shareh rfl rfl rfl
    | _ :: _ :: _ :: _, hh => exact absurd hh (by simp <;> omega)
  have H_share : DefOk l.prog w K mg base (ctOf K) "share" 2 false [] b_share := ⟨_, _, _, _, K_share, PySem.W.mg_of X G a_share, k_share, B_share_0, .nil⟩
  have B_share_1 : Binds K (PySem.W.fnOf "share" "share" (defArgs s_share) (defBody s_share) (defScope s_share) (.ref t_share) kV_share dc_share pm_share an_share cd_share ct_share) ["top", "bottom"] [.int 1 tk_share] := fun s us kin hl => by
    match us, hl with
    | [], hh => exact absurd hh (by simp)
    | [_], _ => exact PySem.W.binds_K kin rfl t_shareh rfl rfl rfl
    | _ :: _ :: _, hh => exact absurd hh (by simp <;> omega)
  have H_share_1 : DefOk l.prog w K mg base (ctOf K) "share" 2 false [(.int 1)] b_share := ⟨_, _, _, _, K_share, PySem.W.mg_of X G a_share, k_share, B_share_1, (.cons ⟨_, rfl⟩ .nil)⟩
  have K_worths_in : FnOk l.prog w K mg base CX0 3 _ _ ["rows", "last"] (SpD K (ctOf K) true b_worths_in) := d_worths_in F_worths_in H_share zz_len zz_range zz_sum
  have H_worths_in : DefOk l.prog w K mg base (ctOf K) "worths_in" 3 true [] b_worths_in := ⟨_, _, _, _, K_worths_in, PySem.W.mg_of X G a_worths_in, k_worths_in, B_worths_in, .nil⟩
  have K_least_whole : FnOk l.prog w K mg base CX0 3 _ _ ["fractions"] (SpD K (ctOf K) true b_least_whole) := d_least_whole F_least_whole H_common_bottom H_greatest_divisor
  have H_least_whole : DefOk l.prog w K mg base (ctOf K) "least_whole" 3 true [] b_least_whole := ⟨_, _, _, _, K_least_whole, PySem.W.mg_of X G a_least_whole, k_least_whole, B_least_whole, .nil⟩
  have K_flow_in : FnOk l.prog w K mg base CX0 4 _ _ ["rows", "scales", "k", "last"] (SpD K (ctOf K) true b_flow_in) := d_flow_in F_flow_in H_share_1 H_least_whole zz_range zz_sum zz_zip
  have H_flow_in : DefOk l.prog w K mg base (ctOf K) "flow_in" 4 true [] b_flow_in := ⟨_, _, _, _, K_flow_in, PySem.W.mg_of X G a_flow_in, k_flow_in, B_flow_in, .nil⟩
  have K_without : FnOk l.prog w K mg base CX0 1 _ _ ["row", "leaver", "k", "last"] (SpD K (ctOf K) false b_without) := d_without F_without zz_zip
  have H_without : DefOk l.prog w K mg base (ctOf K) "without" 1 false [] b_without := ⟨_, _, _, _, K_without, PySem.W.mg_of X G a_without, k_without, B_without, .nil⟩
  have K_balanced : FnOk l.prog w K mg base CX0 5 _ _ ["table", "gains"] (SpD K (ctOf K) false b_balanced) := d_balanced F_balanced H_common_bottom H_whole_row H_flow_in H_without H_worths_in zz_zip zz_enumerate zz_range zz_len
  have H_balanced : DefOk l.prog w K mg base (ctOf K) "balanced" 5 false [] b_balanced := ⟨_, _, _, _, K_balanced, PySem.W.mg_of X G a_balanced, k_balanced, B_balanced, .nil⟩
  have K_left_out : FnOk l.prog w K mg base CX0 6 _ _ ["table"] (SpD K (ctOf K) false b_left_out) := d_left_out F_left_out H_balanced H_share_1
  have H_left_out : DefOk l.prog w K mg base (ctOf K) "left_out" 6 false [] b_left_out := ⟨_, _, _, _, K_left_out, PySem.W.mg_of X G a_left_out, k_left_out, B_left_out, .nil⟩
  have K_law_turned : FnOk l.prog w K mg base CX0 1 _ _ ["_law_table", "_law_places"] (SpD K (ctOf K) true b_law_turned) := d_law_turned F_law_turned 
  have H_law_turned : DefOk l.prog w K mg base (ctOf K) "_law_turned" 1 true [] b_law_turned := ⟨_, _, _, _, K_law_turned, PySem.W.mg_of X G a_law_turned, k_law_turned, B_law_turned, .nil⟩
  have K_law : FnOk l.prog w K mg base CX0 7 _ _ ["_law_script"] (SpD K (ctOf K) false b_law) := d_law F_law H_law_tables H_left_out H_law_turned zz_len zz_range
  exact K_law
theorem walk {l : PySem.W.OpenLaw} {q : Program} {loose : List Str} {XP : (Str → Option Value) → Heap → Prop} {YP : World → Heap → Prop} {d : DefRec} {K : Params → PySem.W.Frag} (hn : l.most = some 63) (hdf : d.params.defaults = [])
    (hY : ∀ (w : World) (h : Heap), YP w h → (K w.params).In h) (hlaw : ∀ ns : List Int, ns.length ≤ 63 → (∀ z ∈ ns, bitsI z ≤ 1048576) → b_law [.lst (ns.map .int)] = .ok (.bl true))
    (F : ∀ (w : World) (mg : Str → Option Value) (fa : Addr) (h : Heap), (K w.params).In h → h.Ns mainGlobals mg → mg d.name = some (.ref fa) →
      ∃ fd : FuncData, (∀ (s : Shared) (u : Value), BindsTo s fd ⟨[u], []⟩ [("_law_script", u)]) ∧ ∀ base : Heap, (K w.params).In base → base.Ns mainGlobals mg → FnOk l.prog w (K w.params) mg base CX0 7 fa fd ["_law_script"] (SpD (K w.params) (ctOf (K w.params)) false b_law)) :
    PySem.W.WalkO q loose XP YP l.row.toRowW d [] (fun f vs => PySem.call f vs) :=
  DL.walk_of (n := 63) (k := 7) (x := "_law_script") (CX := fun _ => CX0) (sp := fun w => SpD (K w.params) (ctOf (K w.params)) false b_law) hn (by decide) hdf ⟨rfl, by decide, by decide⟩ hY F
    (fun w H a ns hl hbits _ hS => ⟨[.lst (ns.map .int)], H, Same.refl H, ⟨.ref a, [], rfl, ⟨a, _, rfl, hS, RepL.map_int ns⟩, rfl⟩, by rw [hlaw ns hl hbits]; exact fun v H' G' _ _ _ _ r => r⟩) fun _ _ _ _ _ z => z
end My
open PySem PySem.W PyProof.Rows
set_option maxRecDepth 100000 in
set_option maxHeartbeats 0 in
theorem PySem.Challenge.cw_dockethall_k43_left_out_turned_holds : PySem.Challenge.rw_dockethall_k43_left_out_turned.Holds := by
  w_on; o_law; k_head; (case hw => w_witness2)
  k_fill
  refine My.walk (l := PySem.Challenge.rw_dockethall_k43_left_out_turned) rfl rfl (fun w h Y => PySem.W.kIn_of Y) My.the_law ?F
  case F =>
    intro w mg fa h KX G hmg
    refine' My.all_mk KX G hmg ?a_law_mixed ?l_law_mixed ?c_law_mixed ?k_law_mixed ?a_law_divisor ?l_law_divisor ?c_law_divisor ?k_law_divisor ?a_law_share ?l_law_share ?c_law_share ?k_law_share ?a_law_tables ?l_law_tables ?c_law_tables ?k_law_tables ?a_greatest_divisor ?l_greatest_divisor ?c_greatest_divisor ?k_greatest_divisor ?a_common_bottom ?l_common_bottom ?c_common_bottom ?k_common_bottom ?a_whole_row ?l_whole_row ?c_whole_row ?k_whole_row ?a_is_whole ?l_is_whole ?c_is_whole ?k_is_whole ?a_share ?l_share ?c_share ?k_share ?t_shareh ?a_worths_in ?l_worths_in ?c_worths_in ?k_worths_in ?a_least_whole ?l_least_whole ?c_least_whole ?k_least_whole ?a_flow_in ?l_flow_in ?c_flow_in ?k_flow_in ?a_without ?l_without ?c_without ?k_without ?a_balanced ?l_balanced ?c_balanced ?k_balanced ?a_left_out ?l_left_out ?c_left_out ?k_left_out ?a_law_turned ?l_law_turned ?c_law_turned ?k_law_turned ?a_law ?l_law ?c_law ?k_law ?z_len ?z_range ?z_isinstance ?z_int ?z_bool ?z_abs ?z_sum ?z_zip ?z_enumerate
    (case a_law_mixed => k_is)
    (case l_law_mixed => k_is)
    (case c_law_mixed => k_is)
    (case k_law_mixed => k_is)
    (case a_law_divisor => k_is)
    (case l_law_divisor => k_is)
    (case c_law_divisor => k_is)
    (case k_law_divisor => k_is)
    (case a_law_share => k_is)
    (case l_law_share => k_is)
    (case c_law_share => k_is)
    (case k_law_share => k_is)
    (case a_law_tables => k_is)
    (case l_law_tables => k_is)
    (case c_law_tables => k_is)
    (case k_law_tables => k_is)
    (case a_greatest_divisor => k_is)
    (case l_greatest_divisor => k_is)
    (case c_greatest_divisor => k_is)
    (case k_greatest_divisor => k_is)
    (case a_common_bottom => k_is)
    (case l_common_bottom => k_is)
    (case c_common_bottom => k_is)
    (case k_common_bottom => k_is)
    (case a_whole_row => k_is)
    (case l_whole_row => k_is)
    (case c_whole_row => k_is)
    (case k_whole_row => k_is)
    (case a_is_whole => k_is)
    (case l_is_whole => k_is)
    (case c_is_whole => k_is)
    (case k_is_whole => k_is)
    (case a_share => k_is)
    (case l_share => k_is)
    (case c_share => k_is)
    (case k_share => k_is)
    (case t_shareh => k_is)
    (case a_worths_in => k_is)
    (case l_worths_in => k_is)
    (case c_worths_in => k_is)
    (case k_worths_in => k_is)
    (case a_least_whole => k_is)
    (case l_least_whole => k_is)
    (case c_least_whole => k_is)
    (case k_least_whole => k_is)
    (case a_flow_in => k_is)
    (case l_flow_in => k_is)
    (case c_flow_in => k_is)
    (case k_flow_in => k_is)
    (case a_without => k_is)
    (case l_without => k_is)
    (case c_without => k_is)
    (case k_without => k_is)
    (case a_balanced => k_is)
    (case l_balanced => k_is)
    (case c_balanced => k_is)
    (case k_balanced => k_is)
    (case a_left_out => k_is)
    (case l_left_out => k_is)
    (case c_left_out => k_is)
    (case k_left_out => k_is)
    (case a_law_turned => k_is)
    (case l_law_turned => k_is)
    (case c_law_turned => k_is)
    (case k_law_turned => k_is)
    (case a_law => k_is)
    (case l_law => k_is)
    (case c_law => k_is)
    (case k_law => k_is)
    (case z_len => k_is)
    (case z_range => k_is)
    (case z_isinstance => k_is)
    (case z_int => k_is)
    (case z_bool => k_is)
    (case z_abs => k_is)
    (case z_sum => k_is)
    (case z_zip => k_is)
    (case z_enumerate => k_is)

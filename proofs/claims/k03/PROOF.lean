import PyProof.Rows.All
import Wide.All
import OpenK.AllK
import Wide.FinOn
import Lean
import PyProof.EqAt
import PyProof.EqKinds
import PyProof.TupleCall
import PySem.Challenge.RW_runrows_k03_told_and_written
set_option Elab.async false
set_option linter.all false
set_option maxRecDepth 100000
namespace L2
open PySem PySem.Spec PyProof.Rows
abbrev Key := Sum Int Str
def keyIs : Key → Value → Bool
  | .inl k, v => Value.isInt k v
  | .inr x, v => Value.isStrOf x v
def keyH (w : World) : Key → Int
  | .inl k => hashInt k
  | .inr x => hashStr w x
theorem keyIs_shape : ∀ {k : Key} {v : Value}, keyIs k v = true → (∃ i t, k = Sum.inl i ∧ v = Value.int i t) ∨ (∃ x t, k = Sum.inr x ∧ v = Value.str x t)
  | .inl i, v, h => by
    obtain ⟨t, e⟩ := Value.isInt_shape (k := i) (v := v) h
    exact .inl ⟨i, t, rfl, e⟩
  | .inr x, v, h => by
    obtain ⟨t, e⟩ := Value.isStrOf_shape (x := x) (v := v) h
    exact .inr ⟨x, t, rfl, e⟩
theorem key_ll (a b : Int) : decide ((Sum.inl a : Key) = Sum.inl b) = (a == b) := by
  by_cases e : a = b
  · subst e; simp
  · have h : ¬ (Sum.inl a : Key) = Sum.inl b := fun q => e (Sum.inl.inj q)
    rw [decide_eq_false h]
    exact (beq_eq_false_iff_ne.mpr e).symm
theorem key_rr (a b : Str) : decide ((Sum.inr a : Key) = Sum.inr b) = decide (a = b) := by
  by_cases e : a = b
  · subst e; simp
  · have h : ¬ (Sum.inr a : Key) = Sum.inr b := fun q => e (Sum.inr.inj q)
    rw [decide_eq_false h, decide_eq_false e]
theorem key_lr (a : Int) (b : Str) : decide ((Sum.inl a : Key) = Sum.inr b) = false := decide_eq_false (fun q => nomatch q)
theorem key_rl (a : Str) (b : Int) : decide ((Sum.inr a : Key) = Sum.inl b) = false := decide_eq_false (fun q => nomatch q)
def mixKind (prog : Program) (w : World) : PySem.KeyKind prog w Key where
  is := keyIs
  hash := keyH w
  inj := fun v a b ha hb => by
    rcases keyIs_shape ha with ⟨i, t, rfl, rfl⟩ | ⟨x, t, rfl, rfl⟩
    · rcases keyIs_shape hb with ⟨j, u, rfl, e⟩ | ⟨y, u, rfl, e⟩
      · injection e with e1 _; rw [e1]
      · exact nomatch e
    · rcases keyIs_shape hb with ⟨j, u, rfl, e⟩ | ⟨y, u, rfl, e⟩
      · exact nomatch e
      · injection e with e1 _; rw [e1]
  byValue := fun k v h => by
    rcases keyIs_shape h with ⟨i, t, rfl, rfl⟩ | ⟨x, t, rfl, rfl⟩ <;> rfl
  pyHash := fun hv h => by
    rcases keyIs_shape hv with ⟨i, t, rfl, rfl⟩ | ⟨x, t, rfl, rfl⟩
    · exact wpAny_pyHash_int h
    · exact wpAny_pyHash_str h
  eqBool := fun hu hv h => by
    rcases keyIs_shape hu with ⟨i, t, rfl, rfl⟩ | ⟨x, t, rfl, rfl⟩
    · rcases keyIs_shape hv with ⟨j, u, rfl, rfl⟩ | ⟨y, u, rfl, rfl⟩
      · rw [key_ll] at h; exact wpAny_eqBool_int h
      · rw [key_lr] at h; exact SeqAt.EqAt.int_str i t y u _ _ _ _ h
    · rcases keyIs_shape hv with ⟨j, u, rfl, rfl⟩ | ⟨y, u, rfl, rfl⟩
      · rw [key_rl] at h; exact SeqAt.EqAt.str_int x t j u _ _ _ _ h
      · rw [key_rr] at h; exact wpAny_eqBool_str h
  «strs» := fun k x t v h => by
    rcases keyIs_shape h with ⟨i, u, rfl, e⟩ | ⟨y, u, rfl, e⟩
    · exact nomatch e
    · injection e with e1 _
      subst e1
      cases v <;> rfl
end L2
namespace L2
open PySem PySem.Spec PyProof.Rows
inductive V where
  | non | bl (b : Bool) | int (i : Int) | str (x : Str) | byt (b : Array UInt8) | flt (b : UInt64) | ref (a : Addr) | ty (n : String)
  deriving DecidableEq
def RelV : V → Value → Prop
  | .non, u => u = Value.none
  | .bl b, u => u = Value.bool b
  | .int i, u => ∃ t, u = Value.int i t
  | .str x, u => ∃ t, u = Value.str x t
  | .byt b, u => ∃ t, u = Value.bytes b t
  | .flt b, u => ∃ t, u = Value.float b t
  | .ref a, u => u = Value.ref a
  | .ty n, u => u = Value.type n
abbrev Vals : List V → List Value → Prop := Paired RelV
theorem Vals.length {xs : List V} {us : List Value} (r : Vals xs us) : xs.length = us.length := Paired.length r
theorem Vals.get : ∀ {xs : List V} {us : List Value} {i : Nat} {x : V}, Vals xs us → xs[i]? = some x → ∃ u, us[i]? = some u ∧ RelV x u
  | _, _, _, _, .nil, e => by simp at e
  | _, _, 0, _, .cons r _, e => by simp at e; subst e; exact ⟨_, rfl, r⟩
  | _, _, i + 1, x, .cons _ t, e => by
    obtain ⟨u, h1, h2⟩ := Vals.get (i := i) (x := x) t (by simpa using e)
    exact ⟨u, by simpa using h1, h2⟩
theorem Vals.append : ∀ {xs ys : List V} {us ws : List Value}, Vals xs us → Vals ys ws → Vals (xs ++ ys) (us ++ ws)
  | _, _, _, _, .nil, s => s
  | _, _, _, _, .cons r t, s => .cons r (Vals.append t s)
theorem Vals.take : ∀ {xs : List V} {us : List Value} (n : Nat), Vals xs us → Vals (xs.take n) (us.take n)
  | _, _, 0, _ => .nil
  | _, _, _ + 1, .nil => .nil
  | _, _, n + 1, .cons r t => .cons r (Vals.take n t)
theorem Vals.drop : ∀ {xs : List V} {us : List Value} (n : Nat), Vals xs us → Vals (xs.drop n) (us.drop n)
  | _, _, 0, r => r
  | _, _, _ + 1, .nil => .nil
  | _, _, n + 1, .cons _ t => Vals.drop n t
def RelO : Option V → Option Value → Prop
  | some v, some u => RelV v u
  | none, none => True
  | _, _ => False
def KV {κ : Type} : List (κ × V) → List (κ × Value) → Prop := Paired fun (p : κ × V) (q : κ × Value) => p.1 = q.1 ∧ RelV p.2 q.2
def kV : Key → V
  | .inl i => .int i
  | .inr x => .str x
inductive HO where
  /-- a list -/
  | lst (xs : List V)
  /-- a tuple (never changes) -/
  | tup (xs : List V)
  /-- a dict whose keys are ints and texts; one whose keys are tuples of ints and texts (the empty one is both) -/
  | dK (kvs : List (Key × V)) | dT (kvs : List (List Key × V))
  /-- a set of ints: its members, its size -/
  | set (S : Int → Bool) (n : Nat)
  /-- an instance of the class at C, its dict at dx, its attributes -/
  | ins (C dx : Addr) (fs : List (Str × V))
  /-- the dict of the instance at x -/
  | own (x : Addr)
  /-- the dict of an exception -/
  | xd (fs : List (Str × V))
  /-- a bound method, f of x -/
  | met (f x : Addr)
  /-- a range object lo, lo + 1, .. below hi -/
  | rng (lo hi : Int)
  /-- a thing that is known to the object (the script; a dict while a loop walks it): read, never written while it is so -/
  | frz (o : Obj) (u : HO)
  /-- a code object's table -/
  | tbl (ps : Array Value)
  /-- any other thing, by what is true of its one object (a def of one's own: SetO a S n := HO.ext fun h => ..) -/
  | ext (φ : Heap → Prop)
abbrev Hp := Addr → Option HO
def upd (H : Hp) (a : Addr) (o : HO) : Hp := fun b => if b = a then some o else H b
theorem upd_same {H : Hp} {a : Addr} {o : HO} : upd H a o a = some o := by unfold upd; rw [if_pos rfl]
theorem upd_ne {H : Hp} {a b : Addr} {o : HO} (h : b ≠ a) : upd H a o b = H b := by unfold upd; rw [if_neg h]
theorem upd_upd {H : Hp} {a : Addr} {o u : HO} : upd (upd H a o) a u = upd H a u := by
  funext b; unfold upd; split <;> rfl
theorem ne_of_none {H : Hp} {a b : Addr} {o : HO} (h : H a = some o) (h' : H b = none) : a ≠ b := by
  intro e; subst e; rw [h] at h'; cases h'
section
variable (P : Program) (w : World)
def ObjOk (H : Hp) (h : Heap) (a : Addr) : HO → Prop
  | .lst xs => xs.length ≤ sizeLine ∧ ∃ (its : List Value) (n : Nat), Vals xs its ∧ h.get? a = some { cls := .type "list", data := .seq its.toArray n }
  | .tup xs => xs.length ≤ sizeLine ∧ ∃ its : List Value, Vals xs its ∧ IsTup h a its.toArray
  | .dK kvs => kvs.length ≤ sizeLine ∧ (a == sysModules) = false ∧ ∃ vs, KV kvs vs ∧ h.DictOf (mixKind P w) a vs
  | .dT kvs => kvs.length ≤ sizeLine ∧ (a == sysModules) = false ∧ ∃ xs : List (List Key × Addr × Value),
      Paired (fun (p : List Key × V) (q : List Key × Addr × Value) => p.1 = q.1 ∧ H q.2.1 = some (.tup (p.1.map kV)) ∧ RelV p.2 q.2.2) kvs xs ∧
      ∃ o es ep, h.get? a = some o ∧ o.ExactDict ∧ o.data = .dict es ep ∧ es.toList = xs.map (entryOfKey (tupleKind (mixKind P w))) ∧ (xs.map (·.1)).Nodup
  | .set S n => h.SetOf (intKind P w) a S n
  | .ins C dx fs => H dx = some (.own a) ∧ fs.length ≤ 1000 ∧ dx ≠ a ∧ h.get? a = some (PySem.W.instObj C dx) ∧
      ∃ mA, h.Ns1 dx mA ∧ (∀ f, RelO (fs.lookup f) (mA f)) ∧ PySem.Within mA (fs.map (·.1))
  | .own _ => ∃ o, h.get? a = some o
  | .xd fs => ∃ mA, h.Ns1 a mA ∧ ∀ f, RelO (fs.lookup f) (mA f)
  | .rng lo hi => ∃ t u v, h.get? a = some { cls := .type "range", data := .fields #[.int lo t, .int hi u, .int 1 v] }
  | .frz o u => h.get? a = some o ∧ ObjOk H h a u
  | .tbl ps => h.get? a = some { cls := .none, data := .fields ps }
  | .met f x => h.get? a = some (PySem.W.methodObj (.ref f) (.ref x))
  | .ext φ => φ h ∧ (∃ o, h.get? a = some o) ∧ ∀ h1 h2 : Heap, φ h1 → (∀ o, h1.get? a = some o → h2.get? a = some o) → φ h2
def HOk (H : Hp) (h : Heap) : Prop := ∀ a o, H a = some o → ObjOk P w H h a o
end
section
variable {P : Program} {w : World} {H H' : Hp} {h h' : Heap} {a : Addr} {o : HO}
theorem ObjOk.lt (x : ObjOk P w H h a o) : a < h.objs.size := by
  cases o with
  | lst xs => obtain ⟨_, _, _, _, e⟩ := x; exact Heap.lt_size e
  | tup xs => obtain ⟨_, _, _, p⟩ := x; exact p.lt
  | dK kvs => obtain ⟨_, _, _, _, o, _, _, e, _⟩ := x; exact Heap.lt_size e
  | dT kvs => obtain ⟨_, _, _, _, o, _, _, e, _⟩ := x; exact Heap.lt_size e
  | set S n => obtain ⟨o, _, _, _, e, _⟩ := x; exact Heap.lt_size e
  | ins C dx fs => obtain ⟨_, _, _, e, _⟩ := x; exact Heap.lt_size e
  | own y => obtain ⟨_, e⟩ := x; exact Heap.lt_size e
  | xd fs => obtain ⟨_, ⟨_, _, _, e, _⟩, _⟩ := x; exact Heap.lt_size e
  | rng lo hi => obtain ⟨_, _, _, e⟩ := x; exact Heap.lt_size e
  | frz ob u => obtain ⟨e, _⟩ := x; exact Heap.lt_size e
  | tbl ps => exact Heap.lt_size (show h.get? a = some _ from x)
  | met f y => exact Heap.lt_size (show h.get? a = some _ from x)
  | ext φ => obtain ⟨_, ⟨_, e⟩, _⟩ := x; exact Heap.lt_size e
theorem Paired.mapP {α β : Type} {F G : α → β → Prop} : ∀ {l₁ : List α} {l₂ : List β}, Paired F l₁ l₂ → (∀ a b, F a b → G a b) → Paired G l₁ l₂
  | _, _, .nil, _ => .nil
  | _, _, .cons r t, f => .cons (f _ _ r) (Paired.mapP t f)
theorem Paired.imp' {α β : Type} {F G : α → β → Prop} (f : ∀ a b, F a b → G a b) {l₁ : List α} {l₂ : List β} (r : Paired F l₁ l₂) : Paired G l₁ l₂ := Paired.mapP r f
theorem ObjOk.stay (x : ObjOk P w H h a o) (k : ∀ b u, (b = a ∨ H b = some (.own a)) → h.get? b = some u → h'.get? b = some u)
    (ho : ∀ b, H b = some (.own a) → H' b = some (.own a)) (ht : ∀ b xs, H b = some (.tup xs) → H' b = some (.tup xs)) : ObjOk P w H' h' a o := by
  induction o with
  | lst xs => obtain ⟨z, its, n, r, e⟩ := x; exact ⟨z, its, n, r, k _ _ (.inl rfl) e⟩
  | tup xs => obtain ⟨z, its, r, ob, e, c⟩ := x; exact ⟨z, its, r, ob, k _ _ (.inl rfl) e, c⟩
  | dK kvs => obtain ⟨z, y, vs, r, ob, es, ep, e, c⟩ := x; exact ⟨z, y, vs, r, ob, es, ep, k _ _ (.inl rfl) e, c⟩
  | dT kvs =>
    obtain ⟨z, y, xs, r, ob, es, ep, e, c⟩ := x
    exact ⟨z, y, xs, Paired.mapP r fun p q z => ⟨z.1, ht _ _ z.2.1, z.2.2⟩, ob, es, ep, k _ _ (.inl rfl) e, c⟩
  | set S n => obtain ⟨ob, es, ep, t, e, c⟩ := x; exact ⟨ob, es, ep, t, k _ _ (.inl rfl) e, c⟩
  | ins C dx fs =>
    obtain ⟨d, z, ne, e, mA, ⟨od, es, ep, e2, c⟩, r⟩ := x
    exact ⟨ho _ d, z, ne, k _ _ (.inl rfl) e, mA, ⟨od, es, ep, k _ _ (.inr d) e2, c⟩, r⟩
  | own y => obtain ⟨ob, e⟩ := x; exact ⟨ob, k _ _ (.inl rfl) e⟩
  | xd fs => obtain ⟨mA, ⟨od, es, ep, e, c⟩, r⟩ := x; exact ⟨mA, ⟨od, es, ep, k _ _ (.inl rfl) e, c⟩, r⟩
  | rng lo hi => obtain ⟨t, u, v, e⟩ := x; exact ⟨t, u, v, k _ _ (.inl rfl) e⟩
  | frz ob u ih => obtain ⟨e, q⟩ := x; exact ⟨k _ _ (.inl rfl) e, ih q⟩
  | tbl ps =>
    have e : h.get? a = some { cls := .none, data := .fields ps } := x
    show h'.get? a = some { cls := .none, data := .fields ps }
    exact k a _ (.inl rfl) e
  | met f y =>
    have e : h.get? a = some (PySem.W.methodObj (.ref f) (.ref y)) := x
    show h'.get? a = some (PySem.W.methodObj (.ref f) (.ref y))
    exact k a _ (.inl rfl) e
  | ext φ => obtain ⟨p, ⟨o, e⟩, st⟩ := x; exact ⟨st _ _ p fun o q => k _ _ (.inl rfl) q, ⟨o, k _ _ (.inl rfl) e⟩, st⟩
theorem HOk.lt (x : HOk P w H h) (e : H a = some o) : a < h.objs.size := (x a o e).lt
theorem HOk.fresh (x : HOk P w H h) (e : h.objs.size ≤ a) : H a = none := by
  cases q : H a with
  | none => rfl
  | some u => exact absurd (Nat.lt_of_lt_of_le (x.lt q) e) (Nat.lt_irrefl _)
theorem HOk.kept (x : HOk P w H h) (k : ∀ b u, h.get? b = some u → h'.get? b = some u) : HOk P w H h' := fun a o e =>
  (x a o e).stay (fun b u _ q => k b u q) (fun _ q => q) fun _ _ q => q
theorem HOk.laid (x : HOk P w H h) (k : ∀ b u, h.get? b = some u → h'.get? b = some u) (hp : h.objs.size ≤ a) (new : ObjOk P w (upd H a o) h' a o) : HOk P w (upd H a o) h' := fun b u e => by
  have hn := x.fresh hp
  by_cases hb : b = a
  · subst hb; rw [upd_same] at e; cases e; exact new
  · rw [upd_ne hb] at e
    exact (x b u e).stay (fun c v _ q => k c v q) (fun c q => by rw [upd_ne (ne_of_none q hn)]; exact q) fun c xs q => by rw [upd_ne (ne_of_none q hn)]; exact q
end
def Rd (H : Hp) (a : Addr) (u : HO) : Prop := H a = some u ∨ ∃ o, H a = some (.frz o u)
theorem Rd.of {H : Hp} {a : Addr} {u : HO} (h : H a = some u) : Rd H a u := .inl h
theorem Rd.ok {P : Program} {w : World} {H : Hp} {h : Heap} {a : Addr} {u : HO} (r : Rd H a u) (x : HOk P w H h) : ObjOk P w H h a u := by
  rcases r with r | ⟨o, r⟩
  · exact x a u r
  · obtain ⟨_, q⟩ := x a _ r
    exact q
def Mut : Option HO → Prop
  | some (.lst _) => True
  | some (.dK _) => True
  | some (.dT _) => True
  | some (.set _ _) => True
  | some (.ins _ _ _) => True
  | some (.ext _) => True
  | _ => False
section
variable {P : Program} {w : World} {H : Hp} {h h' : Heap} {x e : Addr} {o' : HO}
theorem HOk.write (ok : HOk P w H h) (mu : Mut (H x)) (he : e = x ∨ H e = some (.own x)) (k : ∀ b u, b ≠ e → h.get? b = some u → h'.get? b = some u) (heo : ∃ u, h'.get? e = some u)
    (new : ObjOk P w (upd H x o') h' x o') : HOk P w (upd H x o') h' := fun b u q => by
  have nown : ∀ c y, H c = some (.own y) → c ≠ x := fun c y r z => by subst z; rw [r] at mu; exact mu
  have ntup : ∀ c xs, H c = some (.tup xs) → c ≠ x := fun c xs r z => by subst z; rw [r] at mu; exact mu
  by_cases hb : b = x
  · subst hb; rw [upd_same] at q; cases q; exact new
  · rw [upd_ne hb] at q
    by_cases hbe : b = e
    · have q' : H b = some (.own x) := by
        rcases he with z | z
        · exact absurd (hbe.trans z) hb
        · rw [hbe]; exact z
      rw [q] at q'; cases q'
      obtain ⟨v, hv⟩ := heo
      exact ⟨v, by rw [hbe]; exact hv⟩
    · refine (ok b u q).stay (fun c v hc r => k c v ?_ r) (fun c r => by rw [upd_ne (nown c b r)]; exact r) fun c xs r => by rw [upd_ne (ntup c xs r)]; exact r
      rcases hc with rfl | hc
      · exact hbe
      · rintro rfl
        rcases he with z | z
        · exact nown c b hc z
        · rw [hc] at z; cases z; exact hb rfl
end
structure Un (fs ex : List Addr) (H H' : Hp) (h h' : Heap) : Prop where
  keep : ∀ b o, h.get? b = some o → H b = none → b ∉ fs → b ∉ ex → h'.get? b = some o
  slot : ∀ b o, h.get? b = some o → H b = none → b ∈ fs → b ∉ ex → ∃ sl, h'.get? b = some { o with slots := sl }
  free : ∀ b o, h.get? b = some o → H b = none → b ∉ ex → H' b = none
  there : ∀ b o, h.get? b = some o → b ∉ ex → ∃ o', h'.get? b = some o'
  tups : ∀ b xs, H b = some (.tup xs) → H' b = some (.tup xs)
  frzs : ∀ b o u, H b = some (.frz o u) → H' b = some (.frz o u)
  tbls : ∀ b ps, H b = some (.tbl ps) → ∃ more, H' b = some (.tbl (ps ++ more))
section
variable {fs fs' ex ex' : List Addr} {H H1 H2 : Hp} {h h1 h2 h' : Heap} {a x e : Addr} {o : HO}
theorem Un.any (u : Un fs ex H H1 h h1) {b : Addr} {ob : Obj} (q : h.get? b = some ob) (n : H b = none) (hx : b ∉ ex) : ∃ sl, h1.get? b = some { ob with slots := sl } := by
  by_cases hb : b ∈ fs
  · exact u.slot b ob q n hb hx
  · exact ⟨ob.slots, u.keep b ob q n hb hx⟩
theorem Un.kept (k : ∀ b u, h.get? b = some u → h'.get? b = some u) : Un fs ex H H h h' :=
  ⟨fun b ob q _ _ _ => k b ob q, fun b ob q _ _ _ => ⟨ob.slots, k b ob q⟩, fun _ _ _ n _ => n, fun b ob q _ => ⟨ob, k b ob q⟩, fun _ _ q => q, fun _ _ _ q => q, fun _ ps q => ⟨#[], by rw [q]; simp⟩⟩
theorem Un.refl : Un fs ex H H h h := Un.kept fun _ _ q => q
theorem Un.laid (k : ∀ b u, h.get? b = some u → h'.get? b = some u) (hp : h.objs.size ≤ a) (hn : H a = none) : Un fs ex H (upd H a o) h h' where
  keep := fun b u q _ _ _ => k b u q
  slot := fun b u q _ _ _ => ⟨u.slots, k b u q⟩
  free := fun b u q n _ => by rw [upd_ne (Nat.ne_of_lt (Nat.lt_of_lt_of_le (Heap.lt_size q) hp))]; exact n
  there := fun b u q _ => ⟨u, k b u q⟩
  tups := fun b xs q => by rw [upd_ne (ne_of_none q hn)]; exact q
  frzs := fun b u xs q => by rw [upd_ne (ne_of_none q hn)]; exact q
  tbls := fun b ps q => ⟨#[], by rw [upd_ne (ne_of_none q hn), q]; simp⟩
theorem Un.write (mu : Mut (H x)) (he : e = x ∨ H e = some (.own x)) (k : ∀ b u, b ≠ e → h.get? b = some u → h'.get? b = some u) (heo : ∃ u, h'.get? e = some u) : Un fs ex H (upd H x o) h h' := by
  have hx : ∀ b, H b = none → b ≠ x := fun b n z => by subst z; rw [n] at mu; exact mu
  have hb : ∀ b, H b = none → b ≠ e := fun b n z => by
    subst z
    rcases he with r | r
    · exact hx b n r
    · rw [n] at r; cases r
  have hm : ∀ b u, H b = some u → ¬ Mut (some u) → b ≠ x := fun b u q nm z => by subst z; rw [q] at mu; exact nm mu
  refine ⟨fun b u q n _ _ => k b u (hb b n) q, fun b u q n _ _ => ⟨u.slots, k b u (hb b n) q⟩, fun b u q n _ => by rw [upd_ne (hx b n)]; exact n, fun b u q _ => ?_,
    fun b xs q => by rw [upd_ne (hm b _ q fun z => z)]; exact q, fun b u xs q => by rw [upd_ne (hm b _ q fun z => z)]; exact q, fun b ps q => ⟨#[], by rw [upd_ne (hm b _ q fun z => z), q]; simp⟩⟩
  by_cases hbe : b = e
  · subst hbe; exact heo
  · exact ⟨u, k b u hbe q⟩
end
def trk (h : Heap) (H : Hp) : List Addr := (List.range h.objs.size).filter fun a => (H a).isSome
def hidT (h : Heap) (H : Hp) : Heap := PySem.W.hideAll h (trk h H)
theorem hidT_size (h : Heap) (H : Hp) : (hidT h H).objs.size = h.objs.size := PySem.W.hideAll_size _ _
theorem hidT_get {h : Heap} {H : Hp} {b : Addr} {o : Obj} (e : h.get? b = some o) (n : H b = none) : (hidT h H).get? b = some o :=
  PySem.W.hideAll_get _ e fun hm => by
    have q : (H b).isSome = true := (List.mem_filter.mp hm).2
    rw [n] at q; simp at q
theorem of_hidT {h : Heap} {H : Hp} {b : Addr} {o : Obj} (e : (hidT h H).get? b = some o) : h.get? b = some o ∧ H b = none := by
  have e' : h.get? b = some o := PySem.W.of_hideAll (trk h H) e
  refine ⟨e', ?_⟩
  cases q : H b with
  | none => rfl
  | some x =>
    have hm : b ∈ trk h H := List.mem_filter.mpr ⟨List.mem_range.mpr (Heap.lt_size e'), by simp [q]⟩
    have z : (hidT h H).get? b = none := PySem.W.hideAll_none (trk h H) hm
    rw [z] at e; cases e
end L2
namespace L2
open PySem PySem.Spec PyProof.Rows
structure Mod (K : PySem.W.Frag) (mg : Str → Option Value) (base : Heap) : Prop where
  kin : K.In base
  glob : base.Ns mainGlobals mg
  blt : ∃ mb, base.Ns builtinsNs mb ∧ ∀ x : Str, x ≠ "__name__" → mb x = bootBuiltins x
  nolimit : base.NoLimit
structure Cx where
  prog : Program
  w : World
  K : PySem.W.Frag
  mg : Str → Option Value
  base : Heap
  A : Around
  N : List Str
  s₀ : Shared
  H₀ : Hp
  env : Env
  outer : List Env
  stack : List Env
  ex : List Addr
  fn : Str → Bool
  calm : Bool
  pn : List (Addr × Obj)
  xe : Value → Shared → Prop
def frs (l : List Env) : List Addr := l.filterMap (·.frame)
abbrev Cx.fs (X : Cx) : List Addr := frs X.outer
def Vis (sc : Scope) (x : Str) : Prop := sc.names.lookup x = some .local ∨ sc.names.lookup x = some .cell ∨ sc.names.lookup x = some .free
def Loc (sc : Scope) (x : Str) : Prop := sc.names.lookup x = some .local ∨ sc.names.lookup x = some .cell
def Look (env : Env) (h : Heap) (m : Str → Option Value) (x : Str) (u : Value) : Prop :=
  (env.kindOf x = some .local ∧ m x = some u) ∨ ((env.kindOf x = some .cell ∨ env.kindOf x = some .free) ∧ ∃ c, env.cells.lookup x = some c ∧ h.IsCell c (some u))
structure Cx.Ok (X : Cx) : Prop where
  mod : Mod X.K X.mg X.base
  kind : X.env.scope.kind = .function
  glob : X.env.globals = mainGlobals
  blt : X.env.builtins = builtinsNs
  above : X.s₀.heap.objs.size ≤ X.env.locals
  inj : ∀ x y c, X.env.cells.lookup x = some c → X.env.cells.lookup y = some c → x = y
  has : ∀ x, (X.env.kindOf x = some .cell ∨ X.env.kindOf x = some .free) → ∃ c, X.env.cells.lookup x = some c
  cab : ∀ x c, X.fn x = true → X.env.cells.lookup x = some c → X.s₀.heap.objs.size ≤ c
  hd : X.calm = true → X.A.handled = none
  frames : X.A.frames = some X.stack
  stk : X.stack = X.outer ∨ (X.stack = X.env :: X.outer ∧ X.env.frame = some X.env.locals)
  exf : ∀ b ∈ X.ex, b ≠ X.env.locals ∧ ∀ x c, X.env.cells.lookup x = some c → c ≠ b
  bs : ∀ b o, X.base.get? b = some o → X.s₀.heap.get? b = some o ∧ X.H₀ b = none
  bsz : X.base.objs.size ≤ X.s₀.heap.objs.size
  noex : ∀ b o, X.base.get? b = some o → b ∉ X.ex
  exfs : ∀ b ∈ X.ex, b ∉ X.fs
  funs : X.s₀.heap.FunFrames X.base X.outer
  frf : ∀ b ∈ X.fs, X.H₀ b = none
structure Inv (X : Cx) (pins : List (Addr × Obj)) (σ : List (Option V)) (H : Hp) (s : Shared) : Prop where
  ok : X.Ok
  os : s.os = X.s₀.os
  bare : AllBare s.gens
  base : Un X.fs X.ex X.H₀ H X.s₀.heap s.heap
  loc : ∃ m, s.heap.Ns X.env.locals m ∧ ∀ (i : Nat) (x : Str) (v : V), X.N[i]? = some x → σ[i]? = some (some v) → Vis X.env.scope x → ∃ u, RelV v u ∧ Look X.env s.heap m x u
  cell : ∀ x c, X.env.cells.lookup x = some c → ∃ v, s.heap.IsCell c v
  free : H X.env.locals = none
  freeC : ∀ x c, X.env.cells.lookup x = some c → H c = none
  pin : ∀ p ∈ X.pn ++ pins, s.heap.get? p.1 = some p.2 ∧ H p.1 = none ∧ p.1 ≠ X.env.locals ∧ p.1 ∉ X.fs ∧ ∀ v, p.2.data ≠ .cell v
  hok : HOk X.prog X.w H s.heap
  len : σ.length = X.N.length
section
variable {X : Cx} {pins : List (Addr × Obj)} {σ : List (Option V)} {H H' : Hp} {s : Shared} {h' : Heap}
theorem Cx.Ok.nofr (ok : X.Ok) {b : Addr} {o : Obj} (e : X.base.get? b = some o) : b ∉ X.fs := fun hb => by
  have := (ok.funs.mem hb).1
  rw [e] at this; cases this
theorem Inv.bs (I : Inv X pins σ H s) : ∀ b o, X.base.get? b = some o → s.heap.get? b = some o ∧ H b = none := fun b o e =>
  ⟨I.base.keep b o (I.ok.bs b o e).1 (I.ok.bs b o e).2 (I.ok.nofr e) (I.ok.noex b o e), I.base.free b o (I.ok.bs b o e).1 (I.ok.bs b o e).2 (I.ok.noex b o e)⟩
theorem Inv.bk (I : Inv X pins σ H s) : ∀ b o, X.base.get? b = some o → s.heap.get? b = some o := fun b o e => (I.bs b o e).1
theorem Inv.mod (I : Inv X pins σ H s) : Mod X.K X.mg X.base := I.ok.mod
theorem Inv.kIn (I : Inv X pins σ H s) : X.K.In s.heap := I.ok.mod.kin.keeps I.bk
theorem Inv.lt (I : Inv X pins σ H s) : X.env.locals < s.heap.objs.size := let ⟨_, hn, _⟩ := I.loc; hn.lt
theorem Inv.sz (I : Inv X pins σ H s) : X.s₀.heap.objs.size ≤ s.heap.objs.size := Nat.le_trans I.ok.above (Nat.le_of_lt I.lt)
theorem Inv.nofs (I : Inv X pins σ H s) {a : Addr} (h : s.heap.objs.size ≤ a) : a ∉ X.fs := fun hb => by
  obtain ⟨_, o, ho, _⟩ := I.ok.funs.mem hb
  exact absurd (Nat.lt_of_lt_of_le (Heap.lt_size ho) (Nat.le_trans I.sz h)) (Nat.lt_irrefl _)
theorem Inv.cne (I : Inv X pins σ H s) : ∀ x c, X.env.cells.lookup x = some c → c ≠ X.env.locals := fun x c e z => by
  obtain ⟨v, o, ho, hd⟩ := I.cell x c e
  obtain ⟨m, ⟨o', es, ep, ho', hd', _⟩, _⟩ := I.loc
  rw [z, ho'] at ho; cases ho; rw [hd'] at hd; cases hd
theorem Inv.funs (I : Inv X pins σ H s) : s.heap.FunFrames X.base X.outer := by
  have all : ∀ (l : List Env), (∀ b ∈ frs l, b ∈ X.fs) → X.s₀.heap.FunFrames X.base l → s.heap.FunFrames X.base l := by
    intro l
    induction l with
    | nil => intro _ _; trivial
    | cons env r ih =>
      intro hs hl
      obtain ⟨hk, ⟨L, o, hf, hn, ho, hd⟩, hr⟩ := hl
      have hL : L ∈ X.fs := hs L (by unfold frs; rw [List.filterMap_cons, hf]; exact List.mem_cons_self)
      obtain ⟨sl, e⟩ := I.base.slot L o ho (I.ok.frf L hL) hL fun z => I.ok.exfs L z hL
      exact ⟨hk, ⟨L, _, hf, hn, e, hd⟩, ih (fun b hb => hs b (by unfold frs; rw [List.filterMap_cons, hf]; exact List.mem_cons_of_mem _ hb)) hr⟩
  exact all X.outer (fun _ hb => hb) I.ok.funs
theorem Inv.stack (I : Inv X pins σ H s) : s.heap.FunFrames X.base X.stack := by
  rcases I.ok.stk with e | ⟨e, hf⟩
  · rw [e]; exact I.funs
  · rw [e]
    obtain ⟨m, hn, _⟩ := I.loc
    refine .cons (by rw [I.ok.kind]; decide) hf hn ?_ I.funs
    exact Heap.get?_none_of_le (Nat.le_trans I.ok.bsz I.ok.above)
theorem Inv.stkSub (I : Inv X pins σ H s) : ∀ b ∈ frs X.stack, b ∈ X.env.locals :: X.fs := fun b hb => by
  rcases I.ok.stk with e | ⟨e, hf⟩
  · rw [e] at hb; exact List.mem_cons_of_mem _ hb
  · rw [e] at hb
    unfold frs at hb
    rw [List.filterMap_cons, hf] at hb
    exact hb
theorem Inv.stkFree (I : Inv X pins σ H s) : ∀ b ∈ frs X.stack, H b = none := fun b hb => by
  rcases List.mem_cons.mp (I.stkSub b hb) with e | hb
  · rw [e]; exact I.free
  · obtain ⟨_, o, ho, _⟩ := I.ok.funs.mem hb
    exact I.base.free b o ho (I.ok.frf b hb) fun z => I.ok.exfs b z hb
theorem Inv.step {g' : Array GenState} {t' : Nat} {d' : Drawn} {ch : List Addr} (I : Inv X pins σ H s)
    (hch : ∀ b ∈ ch, (b ∈ X.ex ∨ X.s₀.heap.objs.size ≤ b) ∧ b ≠ X.env.locals ∧ (∀ x c, X.env.cells.lookup x = some c → c ≠ b) ∧ ∀ p ∈ X.pn ++ pins, p.1 ≠ b)
    (keep : ∀ b o, b ≠ X.env.locals → b ∉ X.fs → b ∉ ch → s.heap.get? b = some o → H b = none → h'.get? b = some o)
    (slot : ∀ b o, b ≠ X.env.locals → b ∈ X.fs → b ∉ ch → s.heap.get? b = some o → H b = none → ∃ sl, h'.get? b = some { o with slots := sl }) (free : ∀ b o, b ∉ ch → s.heap.get? b = some o → H b = none → H' b = none)
    (there : ∀ b o, b ∉ ch → s.heap.get? b = some o → ∃ o', h'.get? b = some o')
    (tups : ∀ b xs, H b = some (.tup xs) → H' b = some (.tup xs)) (frzs : ∀ b o u, H b = some (.frz o u) → H' b = some (.frz o u)) (tbls : ∀ b ps, H b = some (.tbl ps) → ∃ more, H' b = some (.tbl (ps ++ more)))
    (ns : ∀ m, s.heap.Ns X.env.locals m → h'.Ns X.env.locals m) (hok : HOk X.prog X.w H' h') (hg : AllBare g') :
    Inv X pins σ H' { s with heap := h', gens := g', drawn := d', toks := t' } := by
  have neL : ∀ b o, X.s₀.heap.get? b = some o → b ≠ X.env.locals := fun b o e => Nat.ne_of_lt (Nat.lt_of_lt_of_le (Heap.lt_size e) I.ok.above)
  have neC : ∀ b o, X.s₀.heap.get? b = some o → b ∉ X.ex → b ∉ ch := fun b o e hx hb => by
    rcases (hch b hb).1 with z | z
    · exact hx z
    · exact absurd (Nat.lt_of_lt_of_le (Heap.lt_size e) z) (Nat.lt_irrefl _)
  have cellK : ∀ x c, X.env.cells.lookup x = some c → ∀ v, s.heap.IsCell c v → h'.IsCell c v := fun x c e v ⟨o, ho, hd⟩ => by
    have nch : c ∉ ch := fun z => (hch c z).2.2.1 x c e rfl
    by_cases hc : c ∈ X.fs
    · obtain ⟨sl, q⟩ := slot c o (I.cne x c e) hc nch ho (I.freeC x c e)
      exact ⟨_, q, hd⟩
    · exact ⟨o, keep c o (I.cne x c e) hc nch ho (I.freeC x c e), hd⟩
  refine ⟨I.ok, I.os, hg, ⟨fun b o e n hb hx => ?_, fun b o e n hb hx => ?_, fun b o e n hx => ?_, fun b o e hx => ?_, fun b xs e => tups b xs (I.base.tups b xs e), fun b o xs e => frzs b o xs (I.base.frzs b o xs e), fun b ps e => ?_⟩, ?_, fun x c e => ?_, ?_, fun x c e => ?_, fun p hp => ?_, hok, I.len⟩
  · exact keep b o (neL b o e) hb (neC b o e hx) (I.base.keep b o e n hb hx) (I.base.free b o e n hx)
  · obtain ⟨sl, e1⟩ := I.base.slot b o e n hb hx
    obtain ⟨sl', e2⟩ := slot b _ (neL b o e) hb (neC b o e hx) e1 (I.base.free b o e n hx)
    exact ⟨sl', e2⟩
  · obtain ⟨o', e1⟩ := I.base.there b o e hx
    exact free b o' (neC b o e hx) e1 (I.base.free b o e n hx)
  · obtain ⟨o', e1⟩ := I.base.there b o e hx
    exact there b o' (neC b o e hx) e1
  · obtain ⟨m1, e1⟩ := I.base.tbls b ps e
    obtain ⟨m2, e2⟩ := tbls b _ e1
    exact ⟨m1 ++ m2, by rw [e2, Array.append_assoc]⟩
  · obtain ⟨m, hn, hl⟩ := I.loc
    refine ⟨m, ns m hn, fun i x v e1 e2 e3 => ?_⟩
    obtain ⟨u, r, l⟩ := hl i x v e1 e2 e3
    refine ⟨u, r, ?_⟩
    rcases l with l | ⟨k, c, e, z⟩
    · exact .inl l
    · exact .inr ⟨k, c, e, cellK x c e _ z⟩
  · obtain ⟨v, z⟩ := I.cell x c e
    exact ⟨v, cellK x c e v z⟩
  · obtain ⟨m, ⟨o, _, _, ho, _⟩, _⟩ := I.loc
    exact free _ o (fun z => (hch _ z).2.1 rfl) ho I.free
  · obtain ⟨v, o, ho, hd⟩ := I.cell x c e
    exact free c o (fun z => (hch c z).2.2.1 x c e rfl) ho (I.freeC x c e)
  · obtain ⟨e, n, ne, nf, d⟩ := I.pin p hp
    have nch : p.1 ∉ ch := fun z => (hch p.1 z).2.2.2 p hp rfl
    exact ⟨keep p.1 p.2 ne nf nch e n, free p.1 p.2 nch e n, ne, nf, d⟩
theorem Inv.un {t' : Nat} (I : Inv X pins σ H s) (u : Un X.fs [] H H' s.heap h') (hok : HOk X.prog X.w H' h') : Inv X pins σ H' { s with heap := h', toks := t' } := by
  obtain ⟨m, ⟨o, es, ep, ho, r⟩, _⟩ := id I.loc
  obtain ⟨sl, hL⟩ := u.any ho I.free (by simp)
  exact I.step (g' := s.gens) (d' := s.drawn) (ch := []) (fun _ z => nomatch z) (fun b o _ hb _ e n => u.keep b o e n hb (by simp)) (fun b o _ hb _ e n => u.slot b o e n hb (by simp)) (fun b o _ e n => u.free b o e n (by simp)) (fun b o _ e => u.there b o e (by simp)) u.tups u.frzs u.tbls (fun m' hm => by
    obtain ⟨o', es', ep', ho', r'⟩ := hm
    rw [ho] at ho'; cases ho'
    exact ⟨_, es', ep', hL, r'⟩) hok I.bare
theorem Inv.call {g' : Array GenState} {t' : Nat} {d' : Drawn} {ch : List Addr} (I : Inv X pins σ H s) (u : Un (frs X.stack) ch H H' s.heap h') (hok : HOk X.prog X.w H' h') (hg : AllBare g')
    (hch : ∀ b ∈ ch, (b ∈ X.ex ∨ X.s₀.heap.objs.size ≤ b) ∧ b ≠ X.env.locals ∧ (∀ x c, X.env.cells.lookup x = some c → c ≠ b) ∧ ∀ p ∈ X.pn ++ pins, p.1 ≠ b) :
    Inv X pins σ H' { s with heap := h', gens := g', drawn := d', toks := t' } := by
  obtain ⟨m, ⟨o, es, ep, ho, r⟩, _⟩ := id I.loc
  obtain ⟨sl, hL⟩ := u.any ho I.free fun z => (hch _ z).2.1 rfl
  exact I.step (ch := ch) hch (fun b o hL hb hc e n => u.keep b o e n (fun z => (List.mem_cons.mp (I.stkSub b z)).elim hL hb) hc) (fun b o _ _ hc e n => u.any e n hc) (fun b o hc e n => u.free b o e n hc) (fun b o hc e => u.there b o e hc) u.tups u.frzs u.tbls (fun m' hm => by
    obtain ⟨o', es', ep', ho', r'⟩ := hm
    rw [ho] at ho'; cases ho'
    exact ⟨_, es', ep', hL, r'⟩) hok hg
theorem Inv.turned {t' : Nat} {it : Addr} (I : Inv X pins σ H s) (k : ∀ b o, b ≠ it → s.heap.get? b = some o → h'.get? b = some o) (hn : H it = none) (hL : it ≠ X.env.locals)
    (h1 : it ∈ X.ex ∨ X.s₀.heap.objs.size ≤ it) (h2 : ∀ x c, X.env.cells.lookup x = some c → c ≠ it) (h3 : ∀ p ∈ X.pn ++ pins, p.1 ≠ it) : Inv X pins σ H { s with heap := h', toks := t' } := by
  have nit : ∀ b u, H b = some u → b ≠ it := fun b u e z => by rw [z, hn] at e; cases e
  refine I.step (g' := s.gens) (d' := s.drawn) (ch := [it]) (fun b hb => ?_) (fun b o _ _ hc e _ => k b o (fun z => hc (by simp [z])) e) (fun b o _ _ hc e _ => ⟨o.slots, k b o (fun z => hc (by simp [z])) e⟩) (fun _ _ _ _ n => n)
    (fun b o hc e => ⟨o, k b o (fun z => hc (by simp [z])) e⟩) (fun _ _ e => e) (fun _ _ _ e => e) (fun b ps e => ⟨#[], by rw [e]; simp⟩) (fun m hm => ?_) (fun b u e => ?_) I.bare
  · have e : b = it := by simpa using hb
    subst e
    exact ⟨h1, hL, h2, h3⟩
  · obtain ⟨o, es, ep, ho, r⟩ := hm
    exact ⟨o, es, ep, k _ o (Ne.symm hL) ho, r⟩
  · refine (I.hok b u e).stay (fun c v hc q => k c v ?_ q) (fun _ q => q) fun _ _ q => q
    rcases hc with z | z
    · rw [z]; exact nit b u e
    · exact nit c _ z
theorem Inv.tok (I : Inv X pins σ H s) (t : Nat) : Inv X pins σ H { s with toks := t } := I.un (h' := s.heap) (t' := t) Un.refl I.hok
theorem Inv.kept {t' : Nat} (I : Inv X pins σ H s) (k : ∀ b u, s.heap.get? b = some u → h'.get? b = some u) : Inv X pins σ H { s with heap := h', toks := t' } := I.un (Un.kept k) (I.hok.kept k)
theorem Inv.laid {a : Addr} {o : HO} {t' : Nat} (I : Inv X pins σ H s) (k : ∀ b u, s.heap.get? b = some u → h'.get? b = some u) (hp : s.heap.objs.size ≤ a) (new : ObjOk X.prog X.w (upd H a o) h' a o) :
    Inv X pins σ (upd H a o) { s with heap := h', toks := t' } := I.un (Un.laid k hp (I.hok.fresh hp)) (I.hok.laid k hp new)
theorem Inv.write {x e : Addr} {o : HO} {t' : Nat} (I : Inv X pins σ H s) (mu : Mut (H x)) (he : e = x ∨ H e = some (.own x)) (k : ∀ b u, b ≠ e → s.heap.get? b = some u → h'.get? b = some u) (heo : ∃ u, h'.get? e = some u)
    (new : ObjOk X.prog X.w (upd H x o) h' x o) : Inv X pins σ (upd H x o) { s with heap := h', toks := t' } := I.un (Un.write mu he k heo) (I.hok.write mu he k heo new)
theorem Inv.weak {σ' : List (Option V)} (I : Inv X pins σ H s) (hl : σ'.length = σ.length) (w : ∀ (i : Nat) v, σ'[i]? = some (some v) → σ[i]? = some (some v)) : Inv X pins σ' H s :=
  ⟨I.ok, I.os, I.bare, I.base, let ⟨m, hn, hl'⟩ := I.loc; ⟨m, hn, fun i x v e1 e2 e3 => hl' i x v e1 (w i v e2) e3⟩, I.cell, I.free, I.freeC, I.pin, I.hok, hl.trans I.len⟩
theorem Inv.pins_of {pins' : List (Addr × Obj)} (I : Inv X pins σ H s) (h : ∀ p ∈ pins', s.heap.get? p.1 = some p.2 ∧ H p.1 = none ∧ p.1 ≠ X.env.locals ∧ p.1 ∉ X.fs ∧ ∀ v, p.2.data ≠ .cell v) : Inv X pins' σ H s :=
  ⟨I.ok, I.os, I.bare, I.base, I.loc, I.cell, I.free, I.freeC, fun p hp => (List.mem_append.mp hp).elim (fun z => I.pin p (List.mem_append_left _ z)) (h p), I.hok, I.len⟩
theorem nodup_ix {N : List Str} (hN : N.Nodup) {i j : Nat} {x : Str} (a : N[i]? = some x) (b : N[j]? = some x) : i = j := by
  obtain ⟨h1, e1⟩ := List.getElem?_eq_some_iff.mp a
  obtain ⟨h2, e2⟩ := List.getElem?_eq_some_iff.mp b
  exact (List.getElem_inj hN).mp (e1.trans e2.symm)
theorem store_ok2 {M : Model} {A : Around} {E : Value → Shared → Prop} {i : Nat} {x : Str} {v : V} {u : Value} {Q : Unit → Shared → Prop} (I : Inv X pins σ H s) (hN : X.N.Nodup) (hi : X.N[i]? = some x) (hx : Loc X.env.scope x) (r : RelV v u)
    (h : ∀ s', Inv X pins (σ.set i (some v)) H s' → (∃ a, Heap.SameBut a s.heap s'.heap ∧ (a = X.env.locals ∨ X.env.cells.lookup x = some a)) → Q () s') (hf : X.fn x = true ∨ X.env.scope.names.lookup x = some .local := by first | exact .inl rfl | exact .inr rfl | assumption) : wpAny M A (storeName X.env x u) Q E s := by
  obtain ⟨m, hn, hl⟩ := id I.loc
  have hcls : (X.env.scope.kind == .class || (X.env.scope.kind == .module && X.env.locals != X.env.globals)) = false := by rw [I.ok.kind]; rfl
  have hiσ : i < σ.length := by rw [I.len]; exact (List.getElem?_eq_some_iff.mp hi).1
  have cne := I.cne
  have tracked : ∀ {a : Addr} {h' : Heap}, (∃ o, s.heap.get? a = some o ∧ H a = none) → Heap.SameBut a s.heap h' → HOk X.prog X.w H h' := fun {a h'} ha hs b ob e => by
    obtain ⟨_, _, hfree⟩ := ha
    refine (I.hok b ob e).stay (fun c w' hc q => (hs.2 c ?_).trans q) (fun _ q => q) fun _ _ q => q
    rintro rfl
    rcases hc with rfl | hc
    · rw [hfree] at e; cases e
    · rw [hfree] at hc; cases hc
  rcases hx with hk | hk
  · refine wpAny_storeName_local hk hn (fun h' hn' hs => ?_) hcls
    obtain ⟨oL, _, _, hoL, _⟩ := id hn
    refine h _ ⟨I.ok, I.os, I.bare, ⟨fun b o e n hb hx => ?_, fun b o e n hb hx => ?_, I.base.free, fun b o e hx => ?_, I.base.tups, I.base.frzs, I.base.tbls⟩, ⟨_, hn', fun j y v' e1 e2 e3 => ?_⟩, fun y c e => ?_, I.free, I.freeC, fun p hp => ?_, tracked ⟨oL, hoL, I.free⟩ hs, by simpa using I.len⟩ ⟨_, hs, .inl rfl⟩
    · exact (hs.2 b (Nat.ne_of_lt (Nat.lt_of_lt_of_le (Heap.lt_size e) I.ok.above))).trans (I.base.keep b o e n hb hx)
    · obtain ⟨sl, e1⟩ := I.base.slot b o e n hb hx
      exact ⟨sl, (hs.2 b (Nat.ne_of_lt (Nat.lt_of_lt_of_le (Heap.lt_size e) I.ok.above))).trans e1⟩
    · obtain ⟨o', e1⟩ := I.base.there b o e hx
      exact ⟨o', (hs.2 b (Nat.ne_of_lt (Nat.lt_of_lt_of_le (Heap.lt_size e) I.ok.above))).trans e1⟩
    · by_cases hj : j = i
      · subst hj
        rw [hi] at e1; cases e1
        rw [List.getElem?_set_self hiσ] at e2
        cases e2
        exact ⟨u, r, .inl ⟨hk, by simp⟩⟩
      · rw [List.getElem?_set_ne (Ne.symm hj)] at e2
        obtain ⟨u', r', q⟩ := hl j y v' e1 e2 e3
        refine ⟨u', r', ?_⟩
        rcases q with ⟨k, e⟩ | ⟨k, c, e, z⟩
        · refine .inl ⟨k, ?_⟩
          have : y ≠ x := fun e => hj (nodup_ix hN e1 (e ▸ hi))
          simp [this, e]
        · exact .inr ⟨k, c, e, z.sameBut hs (cne y c e)⟩
    · obtain ⟨w', z⟩ := I.cell y c e
      exact ⟨w', z.sameBut hs (cne y c e)⟩
    · obtain ⟨e, n, ne, nf, d⟩ := I.pin p hp
      exact ⟨(hs.2 p.1 ne).trans e, n, ne, nf, d⟩
  · have hfn : X.fn x = true := by
      rcases hf with z | z
      · exact z
      · rw [z] at hk; cases hk
    obtain ⟨c, hc⟩ := I.ok.has x (.inl hk)
    obtain ⟨w', z⟩ := I.cell x c hc
    refine wpAny_storeName_cell I.ok.kind hk hc z (fun h' hc' hs => ?_)
    obtain ⟨oc, hoc, hocd⟩ := id z
    refine h { s with heap := h' } ⟨I.ok, I.os, I.bare, ⟨fun b o e n hb hx => ?_, fun b o e n hb hx => ?_, I.base.free, fun b o e hx => ?_, I.base.tups, I.base.frzs, I.base.tbls⟩, ⟨m, hn.sameBut hs (Ne.symm (cne x c hc)), fun j y v' e1 e2 e3 => ?_⟩, fun y c' e => ?_, I.free, I.freeC, fun p hp => ?_, tracked ⟨oc, hoc, I.freeC x c hc⟩ hs, by simpa using I.len⟩ ⟨c, hs, .inr hc⟩
    · exact (hs.2 b (Nat.ne_of_lt (Nat.lt_of_lt_of_le (Heap.lt_size e) (I.ok.cab x c hfn hc)))).trans (I.base.keep b o e n hb hx)
    · obtain ⟨sl, e1⟩ := I.base.slot b o e n hb hx
      exact ⟨sl, (hs.2 b (Nat.ne_of_lt (Nat.lt_of_lt_of_le (Heap.lt_size e) (I.ok.cab x c hfn hc)))).trans e1⟩
    · obtain ⟨o', e1⟩ := I.base.there b o e hx
      exact ⟨o', (hs.2 b (Nat.ne_of_lt (Nat.lt_of_lt_of_le (Heap.lt_size e) (I.ok.cab x c hfn hc)))).trans e1⟩
    · by_cases hj : j = i
      · subst hj
        rw [hi] at e1; cases e1
        rw [List.getElem?_set_self hiσ] at e2
        cases e2
        exact ⟨u, r, .inr ⟨.inl hk, c, hc, hc'⟩⟩
      · rw [List.getElem?_set_ne (Ne.symm hj)] at e2
        obtain ⟨u', r', q⟩ := hl j y v' e1 e2 e3
        refine ⟨u', r', ?_⟩
        rcases q with q | ⟨k, c', e, z'⟩
        · exact .inl q
        · refine .inr ⟨k, c', e, z'.sameBut hs ?_⟩
          rintro rfl
          exact hj (nodup_ix hN e1 (I.ok.inj _ _ _ e hc ▸ hi))
    · by_cases hcc : c' = c
      · subst hcc; exact ⟨_, hc'⟩
      · obtain ⟨w2, z2⟩ := I.cell y c' e
        exact ⟨w2, z2.sameBut hs hcc⟩
    · obtain ⟨e, n, ne, nf, d⟩ := I.pin p hp
      refine ⟨(hs.2 p.1 ?_).trans e, n, ne, nf, d⟩
      intro q
      rw [q, hoc] at e
      have q' : oc = p.2 := Option.some.inj e
      exact d w' (by rw [← q']; exact hocd)
theorem store_ok {M : Model} {A : Around} {E : Value → Shared → Prop} {i : Nat} {x : Str} {v : V} {u : Value} {Q : Unit → Shared → Prop} (I : Inv X pins σ H s) (hN : X.N.Nodup) (hi : X.N[i]? = some x) (hx : Loc X.env.scope x) (r : RelV v u)
    (h : ∀ s', Inv X pins (σ.set i (some v)) H s' → Q () s') (hf : X.fn x = true ∨ X.env.scope.names.lookup x = some .local := by first | exact .inl rfl | exact .inr rfl | assumption) : wpAny M A (storeName X.env x u) Q E s :=
  store_ok2 I hN hi hx r (fun s' I' _ => h s' I') hf
theorem Inv.call' {s' : Shared} {ch : List Addr} (I : Inv X pins σ H s) (ho : s'.os = s.os) (u : Un (frs X.stack) ch H H' s.heap s'.heap) (hok : HOk X.prog X.w H' s'.heap) (hg : AllBare s'.gens)
    (hch : ∀ b ∈ ch, (b ∈ X.ex ∨ X.s₀.heap.objs.size ≤ b) ∧ b ≠ X.env.locals ∧ (∀ x c, X.env.cells.lookup x = some c → c ≠ b) ∧ ∀ p ∈ X.pn ++ pins, p.1 ≠ b) : Inv X pins σ H' s' := by
  obtain ⟨h', g', d', t', o'⟩ := s'
  have e : o' = s.os := ho
  subst e
  exact I.call (g' := g') (t' := t') (d' := d') u hok hg hch
end
abbrev XK := Value → Option Addr → Hp → Prop
abbrev St := List (Option V)
abbrev VK := V → Hp → Prop
abbrev TE := St → Hp → VK → Prop
abbrev TT := St → Hp → (Bool → Hp → Prop) → Prop
abbrev TA := St → Hp → (List V → Hp → Prop) → Prop
structure Ends where
  nx : St → Hp → Prop
  rt : VK
  bk : St → Hp → Prop := fun _ _ => False
  ct : St → Hp → Prop := fun _ _ => False
abbrev TS := Ends → St → Hp → Prop
def EP (X : Cx) (pins : List (Addr × Obj)) (σ : St) (Q : VK) (u : Value) (s' : Shared) : Prop := ∃ v H', Inv X pins σ H' s' ∧ RelV v u ∧ Q v H'
def TP (X : Cx) (pins : List (Addr × Obj)) (σ : St) (Q : Bool → Hp → Prop) (b : Bool) (s' : Shared) : Prop := ∃ H', Inv X pins σ H' s' ∧ Q b H'
def AP (X : Cx) (pins : List (Addr × Obj)) (σ : St) (Q : List V → Hp → Prop) (us : List Value) (s' : Shared) : Prop := ∃ vs H', Inv X pins σ H' s' ∧ Vals vs us ∧ Q vs H'
def SP (X : Cx) (pins : List (Addr × Obj)) (D : Ends) (f : Flow) (s' : Shared) : Prop :=
  match f with
  | .next => ∃ σ' H', Inv X pins σ' H' s' ∧ D.nx σ' H'
  | .brk => ∃ σ' H', Inv X pins σ' H' s' ∧ D.bk σ' H'
  | .cont => ∃ σ' H', Inv X pins σ' H' s' ∧ D.ct σ' H'
  | .ret u => ∃ v σ' H', Inv X pins σ' H' s' ∧ RelV v u ∧ D.rt v H'
def PE (X : Cx) (e : Expr) (t : TE) : Prop :=
  ∀ (pins : List (Addr × Obj)) (s : Shared) (σ : St) (H : Hp) (Q : VK), Inv X pins σ H s → t σ H Q → wpAny (model X.prog X.w) X.A (eval e X.env) (EP X pins σ Q) X.xe s
def PT (X : Cx) (e : Expr) (t : TT) : Prop :=
  ∀ (pins : List (Addr × Obj)) (s : Shared) (σ : St) (H : Hp) (Q : Bool → Hp → Prop), Inv X pins σ H s → t σ H Q → wpAny (model X.prog X.w) X.A (isTrue e X.env (eval e X.env)) (TP X pins σ Q) X.xe s
def PW (X : Cx) (e : Expr) (t : TT) : Prop :=
  ∀ (whole : Sem Value) (pins : List (Addr × Obj)) (s : Shared) (σ : St) (H : Hp) (Q : Bool → Hp → Prop), Inv X pins σ H s → t σ H Q → wpAny (model X.prog X.w) X.A (isTrue e X.env whole) (TP X pins σ Q) X.xe s
theorem PW.pt {X : Cx} {e : Expr} {t : TT} (h : PW X e t) : PT X e t := h _
def PA (X : Cx) (es : List Expr) (t : TA) : Prop :=
  ∀ (pos : Pos) (pins : List (Addr × Obj)) (s : Shared) (σ : St) (H : Hp) (Q : List V → Hp → Prop), Inv X pins σ H s → t σ H Q → wpAny (model X.prog X.w) X.A (spliced (backTo pos (starEach es X.env))) (AP X pins σ Q) X.xe s
def PS (X : Cx) (st : Stmt) (t : TS) : Prop :=
  ∀ (pins : List (Addr × Obj)) (s : Shared) (σ : St) (H : Hp) (D : Ends), Inv X pins σ H s → t D σ H → wpAny (model X.prog X.w) X.A (exec st X.env) (SP X pins D) X.xe s
def PSs (X : Cx) (st : List Stmt) (t : TS) : Prop :=
  ∀ (pins : List (Addr × Obj)) (s : Shared) (σ : St) (H : Hp) (D : Ends), Inv X pins σ H s → t D σ H → wpAny (model X.prog X.w) X.A (execs st X.env) (SP X pins D) X.xe s
theorem thn {α : Type} {t : Sem α} {Q Q' : α → Shared → Prop} {M : Model} {A : Around} {E : Value → Shared → Prop} {s : Shared} (h : wpAny M A t Q E s) (hQ : ∀ a s, Q a s → Q' a s) : wpAny M A t Q' E s := wpAny_mono h hQ fun _ _ x => x
end L2
namespace L2
open PySem PySem.Spec PyProof.Rows
section
variable {X : Cx}
def tVar (i : Nat) : TE := fun σ H Q => ∃ v, σ[i]? = some (some v) ∧ Q v H
def tC (v : V) : TE := fun _ H Q => Q v H
theorem pe_var {i : Nat} {x : Str} {pos : Pos} (hN : X.N[i]? = some x) (hv : Vis X.env.scope x) (hd : (x == ("__debug__" : Str)) = false := by decide) (hcd : (x == ("__classdict__" : Str)) = false := by decide) : PE X (.Name x pos) (tVar i) := by
  intro pins s σ H Q I h
  obtain ⟨v, e, h⟩ := h
  obtain ⟨m, hn, hl⟩ := I.loc
  obtain ⟨u, r, l⟩ := hl i x v hN e hv
  have fin : EP X pins σ Q u s := ⟨v, H, I, r, h⟩
  rcases l with ⟨hk, hm⟩ | ⟨hk, c, hc, hcell⟩
  · exact wpAny_Name (wpAny_loadName_local I.ok.kind hk hn hm fin) hd
  · rcases hk with hk | hk
    · exact wpAny_Name (wpAny_loadName_cell I.ok.kind hk hc hcell fin) hd
    · exact wpAny_Name (wpAny_loadName_free I.ok.kind hk hc hcell fin hcd) hd
theorem pe_int {i j pos} : PE X (.Constant (.int i) j pos) (tC (.int i)) := fun _ _ _ H _ I h => wpAny_Constant_int ⟨.int i, H, I.tok _, ⟨_, rfl⟩, h⟩
theorem pe_bl {b j pos} : PE X (.Constant (.bool b) j pos) (tC (.bl b)) := fun _ _ _ H _ I h => Constant_bool ⟨.bl b, H, I, rfl, h⟩
theorem pe_non {j pos} : PE X (.Constant .none j pos) (tC .non) := fun _ _ _ H _ I h => Constant_none ⟨.non, H, I, rfl, h⟩
theorem pe_str {x j pos} : PE X (.Constant (.str x) j pos) (tC (.str x)) := fun _ _ _ H _ I h => Calls.Constant_str ⟨.str x, H, I.tok _, ⟨_, rfl⟩, h⟩
def Gl (X : Cx) (x : Str) : Prop := X.env.kindOf x = some .globalImplicit
theorem ld_glob {E : Value → Shared → Prop} {pins : List (Addr × Obj)} {s : Shared} {σ : St} {H : Hp} {x : Str} {u : Value} {pos : Pos} {Q : Value → Shared → Prop} (I : Inv X pins σ H s) (hg : Gl X x) (hm : X.mg x = some u) (h : Q u s)
    (hd : (x == ("__debug__" : Str)) = false := by decide) : wpAny (model X.prog X.w) X.A (eval (.Name x pos) X.env) Q E s :=
  Calls.Name_function_global I.ok.kind hg (Calls.loadGlobal_global (by rw [I.ok.glob]; exact I.mod.glob.keeps I.bk) hm h) hd
theorem ld_blt {E : Value → Shared → Prop} {pins : List (Addr × Obj)} {s : Shared} {σ : St} {H : Hp} {x : Str} {u : Value} {pos : Pos} {Q : Value → Shared → Prop} (I : Inv X pins σ H s) (hg : Gl X x) (hm : X.mg x = none) (hv : bootBuiltins x = some u) (h : Q u s)
    (hn : x ≠ "__name__" := by decide) (hd : (x == ("__debug__" : Str)) = false := by decide) : wpAny (model X.prog X.w) X.A (eval (.Name x pos) X.env) Q E s := by
  obtain ⟨mb, h1, h2⟩ := I.mod.blt
  exact Calls.Name_function_global I.ok.kind hg (Calls.loadGlobal_builtin (by rw [I.ok.glob]; exact I.mod.glob.keeps I.bk) hm (by rw [I.ok.blt]; exact h1.keeps I.bk) ((h2 x hn).trans hv) h) hd
theorem pe_glob {x : Str} {v : V} {u : Value} {pos : Pos} (hg : Gl X x) (hm : X.mg x = some u) (r : RelV v u) (hd : (x == ("__debug__" : Str)) = false := by decide) : PE X (.Name x pos) (tC v) :=
  fun _ _ _ H _ I h => ld_glob I hg hm ⟨v, H, I, r, h⟩ hd
theorem pe_bltn {x : Str} {v : V} {u : Value} {pos : Pos} (hg : Gl X x) (hm : X.mg x = none) (hv : bootBuiltins x = some u) (r : RelV v u) (hn : x ≠ "__name__" := by decide) (hd : (x == ("__debug__" : Str)) = false := by decide) : PE X (.Name x pos) (tC v) :=
  fun _ _ _ H _ I h => ld_blt I hg hm hv ⟨v, H, I, r, h⟩ hn hd
variable {a b : Expr} {ta tb : TE} {pos : Pos}
variable {tA tB' : TT} {rest : List Expr}
def tAnd (t u : TT) : TT := fun σ H Q => t σ H fun c H1 => if c = true then u σ H1 Q else Q false H1
def tOr (t u : TT) : TT := fun σ H Q => t σ H fun c H1 => if c = true then Q true H1 else u σ H1 Q
def tNot (t : TT) : TT := fun σ H Q => t σ H fun c H1 => Q (!c) H1
theorem pw_and1 (ha : PT X a tA) : PW X (.BoolOp .And [a] pos) tA := by
  intro wh pins s σ H Q I h
  refine isTrue_and (thn (ha pins s σ H Q I h) fun c s1 e => ?_)
  cases c with
  | true => exact isTrue_and_nil e
  | false => exact e
theorem pw_or1 (ha : PT X a tA) : PW X (.BoolOp .Or [a] pos) tA := by
  intro wh pins s σ H Q I h
  refine isTrue_or (thn (ha pins s σ H Q I h) fun c s1 e => ?_)
  cases c with
  | false => exact isTrue_or_nil e
  | true => exact e
theorem pw_and (ha : PT X a tA) (hb : PW X (.BoolOp .And (b :: rest) pos) tB') : PW X (.BoolOp .And (a :: b :: rest) pos) (tAnd tA tB') := by
  intro wh pins s σ H Q I h
  refine isTrue_and (thn (ha pins s σ H _ I h) fun c s1 ⟨H1, I1, q1⟩ => ?_)
  cases c with
  | true => exact hb wh pins s1 σ H1 Q I1 q1
  | false => exact ⟨H1, I1, q1⟩
theorem pw_or (ha : PT X a tA) (hb : PW X (.BoolOp .Or (b :: rest) pos) tB') : PW X (.BoolOp .Or (a :: b :: rest) pos) (tOr tA tB') := by
  intro wh pins s σ H Q I h
  refine isTrue_or (thn (ha pins s σ H _ I h) fun c s1 ⟨H1, I1, q1⟩ => ?_)
  cases c with
  | true => exact ⟨H1, I1, q1⟩
  | false => exact hb wh pins s1 σ H1 Q I1 q1
theorem pt_not (ha : PT X a tA) : PT X (.UnaryOp .Not a pos) (tNot tA) := by
  intro pins s σ H Q I h
  exact isTrue_not (ha pins s σ H (fun c H1 => Q (!c) H1) I h)
def tAndV (ta tb : TE) : TE := fun σ H Q => ta σ H fun x H1 => ∃ c, x = .bl c ∧ if c = true then tb σ H1 Q else Q (.bl false) H1
def tOrV (ta tb : TE) : TE := fun σ H Q => ta σ H fun x H1 => ∃ c, x = .bl c ∧ if c = true then Q (.bl true) H1 else tb σ H1 Q
def tNotV (ta : TE) : TE := fun σ H Q => ta σ H fun x H1 => ∃ c, x = .bl c ∧ Q (.bl (!c)) H1
theorem pe_one {op} {t : TE} (h : PE X a t) : PE X (.BoolOp op [a] pos) t := fun pins s σ H Q I hw => BoolOp_one (h pins s σ H Q I hw)
theorem pe_and (ha : PE X a ta) (hb : PE X (.BoolOp .And (b :: rest) pos) tb) : PE X (.BoolOp .And (a :: b :: rest) pos) (tAndV ta tb) := by
  intro pins s σ H Q I h
  refine BoolOp_and (thn (ha pins s σ H _ I h) fun v s1 ⟨x, H1, I1, r1, q1⟩ => ?_)
  obtain ⟨c, rfl, q1⟩ := q1
  cases r1
  refine wpAny_truthy_bool ?_
  cases c with
  | true => exact hb pins s1 σ H1 Q I1 q1
  | false => exact ⟨.bl false, H1, I1, rfl, q1⟩
theorem pe_or (ha : PE X a ta) (hb : PE X (.BoolOp .Or (b :: rest) pos) tb) : PE X (.BoolOp .Or (a :: b :: rest) pos) (tOrV ta tb) := by
  intro pins s σ H Q I h
  refine BoolOp_or (thn (ha pins s σ H _ I h) fun v s1 ⟨x, H1, I1, r1, q1⟩ => ?_)
  obtain ⟨c, rfl, q1⟩ := q1
  cases r1
  refine wpAny_truthy_bool ?_
  cases c with
  | false => exact hb pins s1 σ H1 Q I1 q1
  | true => exact ⟨.bl true, H1, I1, rfl, q1⟩
theorem pe_not (ha : PE X a ta) : PE X (.UnaryOp .Not a pos) (tNotV ta) := by
  intro pins s σ H Q I h
  refine UnaryOp_ (thn (ha pins s σ H _ I h) fun v s1 ⟨x, H1, I1, r1, q1⟩ => ?_)
  obtain ⟨c, rfl, q1⟩ := q1
  cases r1
  exact not_of (wpAny_truthy_bool ⟨.bl (!c), H1, I1, rfl, q1⟩)
def tIf (t : TT) (ta tb : TE) : TE := fun σ H Q => t σ H fun c H1 => if c = true then ta σ H1 Q else tb σ H1 Q
theorem pe_ifExp {c : Expr} (hc : PT X c tA) (ha : PE X a ta) (hb : PE X b tb) : PE X (.IfExp c a b pos) (tIf tA ta tb) := by
  intro pins s σ H Q I h
  refine wpAny_IfExp (thn (hc pins s σ H _ I h) fun d s1 ⟨H1, I1, q1⟩ => ?_)
  cases d with
  | true => exact ha pins s1 σ H1 Q I1 q1
  | false => exact hb pins s1 σ H1 Q I1 q1
end
end L2
namespace L2
open PySem PySem.Spec PyProof.Rows
def SqL (K : PySem.W.Frag) (H : Hp) (a : Addr) (xs : List V) : Prop :=
  Rd H a (.lst xs) ∨
    ∃ (o : Obj) (its : Array Value) (n : Nat), K.lookup a = some o ∧ o.cls = .type "list" ∧ o.dict = none ∧ o.data = .seq its n ∧ its.size ≤ sizeLine ∧ Vals xs its.toList
def SqT (K : PySem.W.Frag) (H : Hp) (a : Addr) (xs : List V) : Prop :=
  Rd H a (.tup xs) ∨
    ∃ (o : Obj) (its : Array Value) (n : Nat), K.lookup a = some o ∧ o.cls = .type "tuple" ∧ o.data = .seq its n ∧ its.size ≤ sizeLine ∧ Vals xs its.toList
def absV : Value → Option V
  | .none => some .non
  | .bool b => some (.bl b)
  | .int i _ => some (.int i)
  | .str x _ => some (.str x)
  | .bytes b _ => some (.byt b)
  | .float b _ => some (.flt b)
  | .ref a => some (.ref a)
  | .type n => some (.ty n)
  | _ => none
theorem RelV.abs {x : V} {u : Value} (r : RelV x u) : absV u = some x := by
  cases x with
  | non => cases r; rfl
  | bl _ => cases r; rfl
  | int _ => obtain ⟨t, rfl⟩ := r; rfl
  | str _ => obtain ⟨t, rfl⟩ := r; rfl
  | byt _ => obtain ⟨t, rfl⟩ := r; rfl
  | flt _ => obtain ⟨t, rfl⟩ := r; rfl
  | ref _ => cases r; rfl
  | ty _ => cases r; rfl
theorem RelV.inj {x y : V} {u : Value} (r : RelV x u) (q : RelV y u) : x = y := Option.some.inj (r.abs.symm.trans q.abs)
theorem Vals.inj : ∀ {xs ys : List V} {us : List Value}, Vals xs us → Vals ys us → xs = ys
  | _, _, _, .nil, .nil => rfl
  | _, _, _, .cons r t, .cons r' t' => by rw [r.inj r', Vals.inj t t']
section
variable {X : Cx} {pins : List (Addr × Obj)} {σ : St} {H : Hp} {s : Shared} {a : Addr} {xs ys : List V}
theorem SqL.of {K : PySem.W.Frag} (h : H a = some (.lst xs)) : SqL K H a xs := .inl (.inl h)
theorem SqT.of {K : PySem.W.Frag} (h : H a = some (.tup xs)) : SqT K H a xs := .inl (.inl h)
theorem Inv.list (I : Inv X pins σ H s) (h : SqL X.K H a xs) : ∃ its : List Value, Vals xs its ∧ PlainL s.heap a its.toArray ∧ xs.length ≤ sizeLine := by
  rcases h with h | ⟨o, its, n, hk, hc, hd, hs, hz, r⟩
  · obtain ⟨z, its, n, r, e⟩ := h.ok I.hok
    exact ⟨its, r, ⟨_, n, e, rfl, rfl, rfl⟩, z⟩
  · refine ⟨its.toList, r, ⟨o, n, I.kIn a o hk, hc, hd, by simpa using hs⟩, ?_⟩
    have e := r.length
    simp only [Array.length_toList] at e
    omega
theorem Inv.tuple (I : Inv X pins σ H s) (h : SqT X.K H a xs) : ∃ its : List Value, Vals xs its ∧ IsTup s.heap a its.toArray ∧ xs.length ≤ sizeLine := by
  rcases h with h | ⟨o, its, n, hk, hc, hs, hz, r⟩
  · obtain ⟨z, its, r, p⟩ := h.ok I.hok
    exact ⟨its, r, p, z⟩
  · refine ⟨its.toList, r, ⟨o, I.kIn a o hk, hc, n, by simpa using hs⟩, ?_⟩
    have e := r.length
    simp only [Array.length_toList] at e
    omega
theorem Inv.list_inj (I : Inv X pins σ H s) (h : SqL X.K H a xs) (h' : SqL X.K H a ys) : xs = ys := by
  obtain ⟨its, r, ⟨o, n, e, _, _, d⟩, _⟩ := I.list h
  obtain ⟨its', r', ⟨o', n', e', _, _, d'⟩, _⟩ := I.list h'
  rw [e] at e'; cases e'
  rw [d] at d'
  injection d' with d1 _
  have : its = its' := by simpa using congrArg Array.toList d1
  subst this
  exact r.inj r'
theorem Inv.tuple_inj (I : Inv X pins σ H s) (h : SqT X.K H a xs) (h' : SqT X.K H a ys) : xs = ys := by
  obtain ⟨its, r, ⟨o, e, _, n, d⟩, _⟩ := I.tuple h
  obtain ⟨its', r', ⟨o', e', _, n', d'⟩, _⟩ := I.tuple h'
  rw [e] at e'; cases e'
  rw [d] at d'
  injection d' with d1 _
  have : its = its' := by simpa using congrArg Array.toList d1
  subst this
  exact r.inj r'
end
abbrev Cx.wish (X : Cx) (E : Value → Shared → Prop) : Cx := { X with xe := E }
abbrev Cx.nox (X : Cx) : Cx := X.wish fun _ _ => False
theorem Cx.Ok.wish {X : Cx} (ok : X.Ok) (E : Value → Shared → Prop) : (X.wish E).Ok :=
  ⟨ok.mod, ok.kind, ok.glob, ok.blt, ok.above, ok.inj, ok.has, ok.cab, ok.hd, ok.frames, ok.stk, ok.exf, ok.bs, ok.bsz, ok.noex, ok.exfs, ok.funs, ok.frf⟩
theorem Cx.Ok.unwish {X : Cx} {E : Value → Shared → Prop} (ok : (X.wish E).Ok) : X.Ok :=
  ⟨ok.mod, ok.kind, ok.glob, ok.blt, ok.above, ok.inj, ok.has, ok.cab, ok.hd, ok.frames, ok.stk, ok.exf, ok.bs, ok.bsz, ok.noex, ok.exfs, ok.funs, ok.frf⟩
section
variable {X : Cx} {pins : List (Addr × Obj)} {σ : St} {H : Hp} {s : Shared} {E : Value → Shared → Prop}
theorem Inv.wish (I : Inv X pins σ H s) (E : Value → Shared → Prop) : Inv (X.wish E) pins σ H s := ⟨I.ok.wish E, I.os, I.bare, I.base, I.loc, I.cell, I.free, I.freeC, I.pin, I.hok, I.len⟩
theorem Inv.unwish (I : Inv (X.wish E) pins σ H s) : Inv X pins σ H s := ⟨I.ok.unwish, I.os, I.bare, I.base, I.loc, I.cell, I.free, I.freeC, I.pin, I.hok, I.len⟩
theorem SP.unwish {D : Ends} {f : Flow} {s' : Shared} (h : SP (X.wish E) pins D f s') : SP X pins D f s' := by
  cases f with
  | next => obtain ⟨σ', H', I, q⟩ := h; exact ⟨σ', H', I.unwish, q⟩
  | brk => obtain ⟨σ', H', I, q⟩ := h; exact ⟨σ', H', I.unwish, q⟩
  | cont => obtain ⟨σ', H', I, q⟩ := h; exact ⟨σ', H', I.unwish, q⟩
  | ret u => obtain ⟨v, σ', H', I, r, q⟩ := h; exact ⟨v, σ', H', I.unwish, r, q⟩
theorem PSs.nox {st : List Stmt} {t : TS} (h : PSs X.nox st t) : PSs X st t := fun pins s σ H D I hw =>
  wpAny_mono (h pins s σ H D (I.wish _) hw) (fun _ _ q => q.unwish) fun _ _ z => False.elim z
end
section
variable {X : Cx} {st : Stmt} {rest : List Stmt} {t u : TS} {e : Expr} {te : TE} {pos : Pos}
def tNext : TS := fun D σ H => D.nx σ H
def tSeq (t u : TS) : TS := fun D σ H => t { D with nx := u D } σ H
theorem pss_nil : PSs X [] tNext := fun _ _ σ H _ I h => wpAny_execs_nil ⟨σ, H, I, h⟩
theorem pss_cons (h1 : PS X st t) (h2 : PSs X rest u) : PSs X (st :: rest) (tSeq t u) := by
  intro pins s σ H D I h
  refine wpAny_execs_cons (thn (h1 pins s σ H { D with nx := u D } I h) fun f s1 q => ?_)
  cases f with
  | next =>
    obtain ⟨σ', H', I', q⟩ := q
    exact h2 pins s1 σ' H' D I' q
  | ret v => exact q
  | brk => exact q
  | cont => exact q
theorem pss_one (h1 : PS X st t) : PSs X [st] t := by
  intro pins s σ H D I h
  refine wpAny_execs_cons (thn (h1 pins s σ H D I h) fun f s1 q => ?_)
  cases f with
  | next => exact wpAny_execs_nil q
  | ret v => exact q
  | brk => exact q
  | cont => exact q
theorem Inv.quiet {pins : List (Addr × Obj)} {σ : St} {H : Hp} {s : Shared} (I : Inv X pins σ H s) : interactive X.env = false := by simp [interactive, I.ok.kind]
def tDrop (te : TE) : TS := fun D σ H => te σ H fun _ H1 => D.nx σ H1
theorem ps_expr (he : PE X e te) (hs : swapsWith e none pos.line X.env = pure false := by rfl) : PS X (.Expr e pos) (tDrop te) := by
  intro pins s σ H D I h
  exact wpAny_Expr_any (thn (he pins s σ H _ I h) fun v s1 ⟨x, H1, I1, r1, q1⟩ => ⟨σ, H1, I1, q1⟩) I.quiet hs
def tRet (te : TE) : TS := fun D σ H => te σ H D.rt
theorem ps_ret (he : PE X e te) : PS X (.Return (some e) pos) (tRet te) := by
  intro pins s σ H D I h
  exact wpAny_Return_some (thn (he pins s σ H _ I h) fun v s1 ⟨x, H1, I1, r1, q1⟩ => ⟨x, σ, H1, I1, r1, q1⟩)
def tIfS (c : TT) (t u : TS) : TS := fun D σ H => c σ H fun b H1 => if b = true then t D σ H1 else u D σ H1
theorem ps_if {c : Expr} {a b : List Stmt} {tc : TT} (hc : PT X c tc) (ha : PSs X a t) (hb : PSs X b u) : PS X (.If c a b pos) (tIfS tc t u) := by
  intro pins s σ H D I h
  refine wpAny_If (thn (hc pins s σ H _ I h) fun d s1 ⟨H1, I1, q1⟩ => ?_)
  cases d with
  | true => exact ha pins s1 σ H1 D I1 q1
  | false => exact hb pins s1 σ H1 D I1 q1
def tNever : TS := fun _ _ _ => False
theorem ps_never : PS X st tNever := fun _ _ _ _ _ _ h => h.elim
end
abbrev TG := V → St → Hp → (St → Hp → Prop) → Prop
abbrev TGs := List V → St → Hp → (St → Hp → Prop) → Prop
def PG (X : Cx) (target : Expr) (t : TG) : Prop :=
  ∀ (pins : List (Addr × Obj)) (s : Shared) (σ : St) (H : Hp) (v : V) (u : Value) (Q : St → Hp → Prop), Inv X pins σ H s → RelV v u → t v σ H Q →
    wpAny (model X.prog X.w) X.A (assign target X.env u) (fun _ s' => ∃ σ' H', Inv X pins σ' H' s' ∧ Q σ' H') X.xe s
def PGs (X : Cx) (ts : List Expr) (t : TGs) : Prop :=
  ∀ (pins : List (Addr × Obj)) (s : Shared) (σ : St) (H : Hp) (vs : List V) (us : List Value) (Q : St → Hp → Prop), Inv X pins σ H s → Vals vs us → t vs σ H Q →
    wpAny (model X.prog X.w) X.A (assignInOrder ((assignEach ts X.env).map (·.2)) us) (fun _ s' => ∃ σ' H', Inv X pins σ' H' s' ∧ Q σ' H') X.xe s
section
variable {X : Cx} {pos : Pos}
def gName (i : Nat) : TG := fun v σ H Q => Q (σ.set i (some v)) H
theorem pg_name {i : Nat} {x : Str} (hN : X.N.Nodup) (hi : X.N[i]? = some x) (hx : Loc X.env.scope x) (hf : X.fn x = true ∨ X.env.scope.names.lookup x = some .local := by first | exact .inl rfl | exact .inr rfl | assumption) : PG X (.Name x pos) (gName i) := by
  intro pins s σ H v u Q I r h
  exact wpAny_assign_Name (store_ok I hN hi hx r (fun s' I' => ⟨_, H, I', h⟩) hf)
def gNil : TGs := fun vs σ H Q => vs = [] ∧ Q σ H
def gCons (t : TG) (u : TGs) : TGs := fun vs σ H Q => ∃ v r, vs = v :: r ∧ t v σ H fun σ' H' => u r σ' H' Q
theorem pgs_nil : PGs X [] gNil := by
  intro pins s σ H vs us Q I r h
  obtain ⟨e, h⟩ := h
  subst e
  cases r
  exact assignInOrder_nil ⟨σ, H, I, h⟩
theorem pgs_cons {e : Expr} {es : List Expr} {t : TG} {u : TGs} (h1 : PG X e t) (h2 : PGs X es u)
    (hs : (assignEach (e :: es) X.env).map (·.2) = assign e X.env :: (assignEach es X.env).map (·.2) := by rfl) : PGs X (e :: es) (gCons t u) := by
  intro pins s σ H vs us Q I r h
  obtain ⟨v, vr, e1, h⟩ := h
  subst e1
  cases r with
  | cons r rr =>
    rw [hs]
    refine assignInOrder_cons (thn (h1 pins s σ H _ _ _ I r h) fun _ s1 ⟨σ1, H1, I1, q1⟩ => ?_)
    exact h2 pins s1 σ1 H1 _ _ Q I1 rr q1
def gTup (K : PySem.W.Frag) (n : Nat) (t : TGs) : TG := fun v σ H Q => ∃ a xs, v = .ref a ∧ SqT K H a xs ∧ xs.length = n ∧ t xs σ H Q
theorem pg_tup {es : List Expr} {k : Nat} {t : TGs} {n : Nat} (hc : X.calm = true) (h : PGs X es t)
    (hn : (assignEach es X.env).length = n := by rfl) (hst : (assignEach es X.env).findIdx? (·.1) = none := by rfl) : PG X (.Tuple es k pos) (gTup X.K n t) := by
  intro pins s σ H v u Q I r hw
  obtain ⟨a, xs, e1, hq, hl, hw⟩ := hw
  subst e1
  cases r
  obtain ⟨its, rv, ht, hz⟩ := I.tuple hq
  refine assign_Tuple_tuple (I.ok.hd hc) ht (by simp [hn, ← hl, rv.length]) hst fun h' hx => ?_
  have I1 : Inv X pins σ H { s with heap := h' } := I.kept (t' := s.toks) fun b o e => hx b o (Nat.ne_of_lt (Heap.lt_size e)) e
  exact h pins _ σ H xs _ Q I1 (by simpa using rv) hw
def tAsg (te : TE) (g : TG) : TS := fun D σ H => te σ H fun x H1 => g x σ H1 D.nx
theorem ps_set {i : Nat} {x : Str} {e : Expr} {te : TE} {pos' : Pos} (hN : X.N.Nodup) (hi : X.N[i]? = some x) (hx : Loc X.env.scope x) (he : PE X e te) (hs : swapsWith e (some (.Name x pos')) pos.line X.env = pure false := by rfl) (hf : X.fn x = true ∨ X.env.scope.names.lookup x = some .local := by first | exact .inl rfl | exact .inr rfl | assumption) :
    PS X (.Assign [.Name x pos'] e pos) (tAsg te (gName i)) := by
  intro pins s σ H D I h
  refine wpAny_Assign_Name (thn (he pins s σ H _ I h) fun v s1 ⟨y, H1, I1, r1, q1⟩ => ?_) hs
  exact store_ok I1 hN hi hx r1 (fun s2 I2 => ⟨_, H1, I2, q1⟩) hf
end
section
variable {X : Cx} {pos : Pos}
end
structure It where
  go : Nat → Hp → Prop
  yld : Nat → Hp → V → Hp → Prop
  stop : Nat → Hp → Prop
def FpOk (X : Cx) (pins : List (Addr × Obj)) (H : Hp) (b : Addr) : Prop :=
  H b = none ∧ b ≠ X.env.locals ∧ b ∉ X.fs ∧ (b ∈ X.ex ∨ X.s₀.heap.objs.size ≤ b) ∧ (∀ x c, X.env.cells.lookup x = some c → c ≠ b) ∧ ∀ p ∈ X.pn ++ pins, p.1 ≠ b
theorem Inv.fpOk {X : Cx} {pins : List (Addr × Obj)} {σ : St} {H H' : Hp} {s : Shared} {b : Addr} (I : Inv X pins σ H s) (hb : s.heap.objs.size ≤ b) (hn : H' b = none) : FpOk X pins H' b := by
  refine ⟨hn, Nat.ne_of_gt (Nat.lt_of_lt_of_le I.lt hb), I.nofs hb, .inr (Nat.le_trans I.sz hb), fun x c e z => ?_, fun p hp z => ?_⟩
  · obtain ⟨v, q⟩ := I.cell x c e
    exact absurd (Nat.lt_of_lt_of_le q.lt (by rw [z]; exact hb)) (Nat.lt_irrefl _)
  · exact absurd (Nat.lt_of_lt_of_le (Heap.lt_size (I.pin p hp).1) (by rw [z]; exact hb)) (Nat.lt_irrefl _)
structure Turn (P : Program) (w : World) (K : PySem.W.Frag) (tg : Expr) (J : It) (fp : List Addr) (it : Addr) (tn : Nat → Heap → Prop) : Prop where
  mem : it ∈ fp
  obj : ∀ i h, tn i h → ∀ b ∈ fp, ∃ o, h.get? b = some o ∧ ∀ v, o.data ≠ .cell v
  keep : ∀ i h h', tn i h → (∀ b ∈ fp, ∀ o, h.get? b = some o → h'.get? b = some o) → tn i h'
  item : ∀ (X : Cx), X.prog = P → X.w = w → X.K = K → X.calm = true → ∀ (i : Nat) (pins : List (Addr × Obj)) (s : Shared) (σ : St) (H : Hp) (E : Value → Shared → Prop), Inv X pins σ H s → (∀ b ∈ fp, FpOk X pins H b) → tn i s.heap → J.go i H →
    wpAny (model P w) X.A (pyNext (.ref it)) (fun r s1 => ∃ u, r = some u ∧
      wpAny (model P w) X.A (letOwnedTupleGo tg (.ref it) u) (fun _ s2 => ∃ x H', Inv X pins σ H' s2 ∧ RelV x u ∧ J.yld i H x H' ∧ tn (i + 1) s2.heap ∧ ∀ b ∈ fp, H' b = none) E s1) E s
  done : ∀ (X : Cx), X.prog = P → X.w = w → X.K = K → X.calm = true → ∀ (i : Nat) (pins : List (Addr × Obj)) (s : Shared) (σ : St) (H : Hp) (E : Value → Shared → Prop), Inv X pins σ H s → (∀ b ∈ fp, FpOk X pins H b) → tn i s.heap → J.stop i H →
    wpAny (model P w) X.A (pyNext (.ref it)) (fun r s1 => r = none ∧ Inv X pins σ H s1) E s
  self : ∀ (A : Around) (i : Nat) (s : Shared) (Q : Value → Shared → Prop) (E : Value → Shared → Prop), tn i s.heap → Q (.ref it) s → wpAny (model P w) A (pyIter (.ref it)) Q E s
abbrev TI := St → Hp → (It → Hp → Prop) → Prop
def PIE (X : Cx) (pins : List (Addr × Obj)) (σ : St) (tg : Expr) (R : It → Hp → Prop) (itv : Value) (s2 : Shared) : Prop :=
  ∃ (it : Addr) (fp : List Addr) (tn : Nat → Heap → Prop) (J : It) (H' : Hp), itv = .ref it ∧ Inv X pins σ H' s2 ∧ Turn X.prog X.w X.K tg J fp it tn ∧ tn 0 s2.heap ∧ (∀ b ∈ fp, FpOk X pins H' b) ∧ R J H'
def PI (X : Cx) (tg iter : Expr) (wi : TI) : Prop :=
  ∀ (pins : List (Addr × Obj)) (s : Shared) (σ : St) (H : Hp) (R : It → Hp → Prop), Inv X pins σ H s → wi σ H R →
    wpAny (model X.prog X.w) X.A (eval iter X.env) (fun v s1 => wpAny (model X.prog X.w) X.A (pyIter v) (PIE X pins σ tg R) X.xe s1) X.xe s
theorem go_of {M : Model} {A : Around} {E : Value → Shared → Prop} {s : Shared} {tg : Expr} {it : Addr} {u : Value} {o : Obj} {n : String} {vs : Array Value} {Q : Unit → Shared → Prop} (ho : s.heap.get? it = some o) (hc : o.cls = .type n) (hd : o.data = .fields vs)
    (hn : ["enumerate", "zip", "dict_itemiterator", "dict_reverseitemiterator", "odict_iterator", "itertools.zip_longest", "itertools.pairwise"].contains n = false) (hQ : Q () s) : wpAny M A (letOwnedTupleGo tg (.ref it) u) Q E s := by
  unfold letOwnedTupleGo
  cases tg <;> first
    | exact wpAny_pure hQ
    | (cases u <;> first
        | exact wpAny_pure hQ
        | (refine wpAny_bind (wpAny_load ho ?_)
           rw [hc, hd]
           show wpAny M A (if (["enumerate", "zip", "dict_itemiterator", "dict_reverseitemiterator", "odict_iterator", "itertools.zip_longest", "itertools.pairwise"].contains n && vs[0]? == some (rawInt _)) = true then _ else _) Q E s
           rw [if_neg (by intro h; rw [hn, Bool.false_and] at h; cases h)]
           exact wpAny_pure hQ))
def Itl (K : PySem.W.Frag) (a : Addr) : It :=
  ⟨fun i H => ∃ xs x, SqL K H a xs ∧ xs[i]? = some x, fun i H x H' => H' = H ∧ ∀ xs, SqL K H a xs → xs[i]? = some x, fun i H => ∃ xs, SqL K H a xs ∧ xs.length ≤ i⟩
def Itt (K : PySem.W.Frag) (a : Addr) : It :=
  ⟨fun i H => ∃ xs x, SqT K H a xs ∧ xs[i]? = some x, fun i H x H' => H' = H ∧ ∀ xs, SqT K H a xs → xs[i]? = some x, fun i H => ∃ xs, SqT K H a xs ∧ xs.length ≤ i⟩
def Itr (lo : Int) (n : Nat) : It := ⟨fun i _ => i < n, fun i H x H' => H' = H ∧ x = .int (lo + i), fun i _ => n ≤ i⟩
theorem turn_list {P : Program} {w : World} {K : PySem.W.Frag} {tg : Expr} (a it : Addr) : Turn P w K tg (Itl K a) [it] it (fun i h => h.IsListIter it a i) where
  mem := by simp
  obj := fun i h st b hb => by
    have e : b = it := by simpa using hb
    subst e
    obtain ⟨o, e, c, d⟩ := st
    exact ⟨o, e, fun v z => by rw [d] at z; cases z⟩
  keep := fun i h h' st k => st.at fun o e => k it (by simp) o e
  item := by
    intro X hP hw hK hc i pins s σ H E I hf st hg
    subst hP hw hK
    obtain ⟨xs, x, hq, hx⟩ := hg
    obtain ⟨its, rv, p, hz⟩ := I.list hq
    obtain ⟨u, hu, ru⟩ := rv.get hx
    obtain ⟨f0, f1, f2, f3, f4, f5⟩ := hf it (by simp)
    refine wpAny_pyNext_list_item st p.isList (x := u) (by simpa using hu) fun h' st' sb => ?_
    have I1 : Inv X pins σ H { s with heap := h' } := I.turned (t' := s.toks) (fun b o hb e => (sb.2 b hb).trans e) f0 f1 f3 f4 f5
    obtain ⟨o, e, c, d⟩ := id st'
    exact ⟨u, rfl, go_of (s := { s with heap := h' }) e c d (by decide) ⟨x, H, I1, ru, ⟨rfl, fun ys hy => by rw [I.list_inj hy hq]; exact hx⟩, st', fun b hb => (hf b hb).1⟩⟩
  done := by
    intro X hP hw hK hc i pins s σ H E I hf st hg
    subst hP hw hK
    obtain ⟨xs, hq, hx⟩ := hg
    obtain ⟨its, rv, p, hz⟩ := I.list hq
    obtain ⟨f0, f1, f2, f3, f4, f5⟩ := hf it (by simp)
    have hl := rv.length
    exact wpAny_pyNext_list_end (I.ok.hd hc) st p.isList (by simp; omega) fun h' eb => ⟨rfl, I.turned (t' := s.toks) (fun b o hb e => eb b o hb e) f0 f1 f3 f4 f5⟩
  self := fun _ _ _ _ _ st h => wpAny_pyIter_listiter st h
theorem turn_tuple {P : Program} {w : World} {K : PySem.W.Frag} {tg : Expr} (a it : Addr) : Turn P w K tg (Itt K a) [it] it (fun i h => h.IsTupleIter it a i) where
  mem := by simp
  obj := fun i h st b hb => by
    have e : b = it := by simpa using hb
    subst e
    obtain ⟨o, e, c, d⟩ := st
    exact ⟨o, e, fun v z => by rw [d] at z; cases z⟩
  keep := fun i h h' st k => st.at fun o e => k it (by simp) o e
  item := by
    intro X hP hw hK hc i pins s σ H E I hf st hg
    subst hP hw hK
    obtain ⟨xs, x, hq, hx⟩ := hg
    obtain ⟨its, rv, p, hz⟩ := I.tuple hq
    obtain ⟨u, hu, ru⟩ := rv.get hx
    obtain ⟨f0, f1, f2, f3, f4, f5⟩ := hf it (by simp)
    refine wpAny_pyNext_tuple_item st (show s.heap.IsTuple a its.toArray from p) (x := u) (by simpa using hu) fun h' st' sb => ?_
    have I1 : Inv X pins σ H { s with heap := h' } := I.turned (t' := s.toks) (fun b o hb e => (sb.2 b hb).trans e) f0 f1 f3 f4 f5
    obtain ⟨o, e, c, d⟩ := id st'
    exact ⟨u, rfl, go_of (s := { s with heap := h' }) e c d (by decide) ⟨x, H, I1, ru, ⟨rfl, fun ys hy => by rw [I.tuple_inj hy hq]; exact hx⟩, st', fun b hb => (hf b hb).1⟩⟩
  done := by
    intro X hP hw hK hc i pins s σ H E I hf st hg
    subst hP hw hK
    obtain ⟨xs, hq, hx⟩ := hg
    obtain ⟨its, rv, p, hz⟩ := I.tuple hq
    obtain ⟨f0, f1, f2, f3, f4, f5⟩ := hf it (by simp)
    have hl := rv.length
    exact wpAny_pyNext_tuple_end (I.ok.hd hc) st (show s.heap.IsTuple a its.toArray from p) (by simp; omega) fun h' eb => ⟨rfl, I.turned (t' := s.toks) (fun b o hb e => eb b o hb e) f0 f1 f3 f4 f5⟩
  self := fun _ _ _ _ _ st h => wpAny_pyIter_tupleiter st h
theorem turn_range {P : Program} {w : World} {K : PySem.W.Frag} {tg : Expr} (it : Addr) (lo : Int) (n : Nat) : Turn P w K tg (Itr lo n) [it] it (fun i h => IsRangeIter h it (lo + (i : Nat) * 1) ((n : Int) - (i : Nat)) 1) where
  mem := by simp
  obj := fun i h st b hb => by
    have e : b = it := by simpa using hb
    subst e
    exact ⟨_, st, fun v z => by
      have z' : Data.fields _ = Data.cell v := z
      cases z'⟩
  keep := fun i h h' st k => k it (by simp) _ st
  item := by
    intro X hP hw hK hc i pins s σ H E I hf st hg
    subst hP hw hK
    obtain ⟨f0, f1, f2, f3, f4, f5⟩ := hf it (by simp)
    have W := Walks.range (prog := X.prog) (w := X.w) (I.ok.hd hc) it lo 1 n
    refine W.item i s _ _ hg st fun v h' tk hv st' kk => ?_
    obtain ⟨t, rfl⟩ := hv
    have I1 : Inv X pins σ H { s with heap := h', toks := tk } := I.turned (fun b o hb e => kk b o (by simpa using hb) e) f0 f1 f3 f4 f5
    refine ⟨_, rfl, go_of (s := { s with heap := h', toks := tk }) (n := "range_iterator") st' rfl rfl (by decide) ⟨.int (lo + i), H, I1, ⟨t, ?_⟩, ⟨rfl, rfl⟩, st', fun b hb => (hf b hb).1⟩⟩
    rw [Int.mul_one]
  done := by
    intro X hP hw hK hc i pins s σ H E I hf st hg
    subst hP hw hK
    obtain ⟨f0, f1, f2, f3, f4, f5⟩ := hf it (by simp)
    exact wpAny_pyNext_range_end (I.ok.hd hc) st (by have : n ≤ i := hg; omega) fun h' eb => ⟨rfl, I.turned (t' := s.toks) (fun b o hb e => eb b o hb e) f0 f1 f3 f4 f5⟩
  self := fun _ _ _ _ _ st h => wpAny_pyIter_rangeiter st h
end L2
namespace L2
open PySem PySem.Spec PyProof.Rows
section
variable {X : Cx} {tg : Expr}
theorem range_it {pins : List (Addr × Obj)} {σ : St} {H : Hp} {s : Shared} {R : It → Hp → Prop} {E : Value → Shared → Prop} {lo hi : Int} {t u v : Tok} {tk : Nat} (I : Inv X pins σ H s) (h1 : -(2 ^ 62) ≤ lo) (h2 : lo < 2 ^ 62) (h3 : -(2 ^ 62) ≤ hi) (h4 : hi < 2 ^ 62)
    (q : R (Itr lo (hi - lo).toNat) H) : wpAny (model X.prog X.w) X.A (pyIter (.ref s.heap.objs.size)) (PIE X pins σ tg R) E { s with heap := s.heap.push { cls := .type "range", data := .fields #[.int lo t, .int hi u, .int 1 v] }, toks := tk } := by
  refine wpAny_pyIter_range (IsRange.new ..) (small_one h1 h2 h3 h4) ?_
  have I1 : Inv X pins σ H { s with heap := s.heap.push { cls := .type "range", data := .fields #[.int lo t, .int hi u, .int 1 v] }, toks := tk } := I.kept fun b o e => Heap.get?_push_of_some _ e
  refine ⟨(s.heap.push { cls := .type "range", data := .fields #[.int lo t, .int hi u, .int 1 v] }).objs.size, [(s.heap.push { cls := .type "range", data := .fields #[.int lo t, .int hi u, .int 1 v] }).objs.size], _, _, H, rfl,
    I1.kept (t' := tk) fun b o e => Heap.get?_push_of_some _ e, turn_range _ lo (hi - lo).toNat, ?_, fun b hb => ?_, q⟩
  · have e1 : lo + ((0 : Nat) : Int) * 1 = lo := by simp
    have e2 : (((hi - lo).toNat : Nat) : Int) - ((0 : Nat) : Int) = Builtin.Range.rangeSize lo hi 1 := by rw [rangeSize_one]; split <;> omega
    show IsRangeIter _ _ (lo + ((0 : Nat) : Int) * 1) ((((hi - lo).toNat : Nat) : Int) - ((0 : Nat) : Int)) 1
    rw [e1, e2]
    exact Heap.get?_push_size _ rfl
  · have e : b = (s.heap.push { cls := .type "range", data := .fields #[.int lo t, .int hi u, .int 1 v] }).objs.size := by simpa using hb
    subst e
    exact I1.fpOk (Nat.le_refl _) (I1.hok.fresh (Nat.le_refl _))
def iRng1 (ta : TA) : TI := fun σ H R => ta σ H fun vs H1 => ∃ j : Int, vs = [.int j] ∧ -(2 ^ 62) ≤ j ∧ j < 2 ^ 62 ∧ R (Itr 0 j.toNat) H1
theorem pi_range1 {a : Expr} {ta : TA} {p pos : Pos} (hg : Gl X "range") (hm : X.mg "range" = none) (ha : PA X [a] ta) (hs : starEach [a] X.env = [(false, eval a X.env)] := by rfl) : PI X tg (.Call (.Name "range" p) [a] [] pos) (iRng1 ta) := by
  intro pins s σ H R I h
  refine Call_ (ld_blt I hg hm boot_range (PyProof.Rows.callWith_type1 (thn (ha pos pins s σ H _ I h) fun us s1 ⟨vs, H1, I1, r1, q1⟩ => ?_) hs rfl))
  obtain ⟨j, e, q1, q2, q⟩ := q1
  subst e
  cases r1 with
  | cons r rr =>
    cases rr
    obtain ⟨t, rfl⟩ := r
    exact call_range_1 (range_it I1 (by omega) (by omega) q1 q2 (by simpa using q))
def tFor (wi : TI) (g : TG) (tb : TS) : TS := fun D σ H => wi σ H fun J H1 => ∃ W : Nat → Nat → St → Hp → Prop, (∃ m, W 0 m σ H1) ∧ ∀ i m σ H, W i m σ H →
  (J.stop i H ∧ D.nx σ H) ∨ (J.go i H ∧ ∃ N : St → Hp → Prop, (∀ σ' H', N σ' H' → ∃ m', m' < m ∧ W (i + 1) m' σ' H') ∧ ∀ x H', J.yld i H x H' → g x σ H' fun σ2 H2 => tb { D with nx := N, ct := N, bk := D.nx } σ2 H2)
def pinsAt (fp : List Addr) (h : Heap) : List (Addr × Obj) := fp.filterMap fun b => (h.get? b).map fun o => (b, o)
theorem mem_pinsAt {fp : List Addr} {h : Heap} {b : Addr} {o : Obj} (hb : b ∈ fp) (e : h.get? b = some o) : (b, o) ∈ pinsAt fp h := List.mem_filterMap.mpr ⟨b, hb, by rw [e]; rfl⟩
theorem of_pinsAt {fp : List Addr} {h : Heap} {p : Addr × Obj} (hp : p ∈ pinsAt fp h) : p.1 ∈ fp ∧ h.get? p.1 = some p.2 := by
  obtain ⟨b, hb, e⟩ := List.mem_filterMap.mp hp
  cases q : h.get? b with
  | none => rw [q] at e; cases e
  | some o =>
    rw [q] at e
    have e' : (b, o) = p := Option.some.inj e
    subst e'
    exact ⟨hb, q⟩
theorem Inv.pinned {pins : List (Addr × Obj)} {σ : St} {H : Hp} {s : Shared} {fp : List Addr} (I : Inv X pins σ H s) (hf : ∀ b ∈ fp, FpOk X pins H b) (ho : ∀ b ∈ fp, ∃ o, s.heap.get? b = some o ∧ ∀ v, o.data ≠ .cell v) : Inv X (pins ++ pinsAt fp s.heap) σ H s :=
  I.pins_of fun p hp => (List.mem_append.mp hp).elim (fun z => I.pin p (List.mem_append_right _ z)) fun z => by
    obtain ⟨hb, e⟩ := of_pinsAt z
    obtain ⟨f0, f1, f2, _⟩ := hf p.1 hb
    obtain ⟨o, e', d⟩ := ho p.1 hb
    rw [e] at e'; cases e'
    exact ⟨e, f0, f1, f2, d⟩
theorem Inv.unpinned {pins pl : List (Addr × Obj)} {σ : St} {H : Hp} {s : Shared} (I : Inv X (pins ++ pl) σ H s) : Inv X pins σ H s := I.pins_of fun p hp => I.pin p (List.mem_append_right _ (List.mem_append_left _ hp))
theorem ps_for {iter : Expr} {body : List Stmt} {wi : TI} {g : TG} {tb : TS} {pos : Pos} (hp : PassesOwn (model X.prog X.w) X.A X.env X.xe) (hc : X.calm = true) (hi : PI X tg iter wi) (hg : PG X tg g) (hb : PSs X body tb)
    (hs : ∀ x, foldedSetIterable iter X.env x = pure x := by intro _; rfl) : PS X (.For tg iter body [] pos) (tFor wi g tb) := by
  intro pins s σ H D I h
  refine wpAny_For (thn (hi pins s σ H _ I h) fun v s1 h1 => thn h1 fun itv s2 h2 => ?_) hs
  obtain ⟨it, fp, tn, J, H2, e, I2, T, st2, f2, W, ⟨m0, w0⟩, turn⟩ := h2
  subst e
  -- what stays true of the iterator's objects through the loop
  have stat : ∀ {H' : Hp}, (∀ b ∈ fp, H' b = none) → ∀ b ∈ fp, FpOk X pins H' b := fun hn b hb => ⟨hn b hb, (f2 b hb).2⟩
  refine codeAny_forLoop_any (fun n s' => ∃ i σ' H', Inv X pins σ' H' s' ∧ tn i s'.heap ∧ (∀ b ∈ fp, H' b = none) ∧ W i n σ' H') ?_ m0 ⟨0, σ, H2, I2, st2, fun b hb => (f2 b hb).1, w0⟩
  rintro n s3 ⟨i, σ3, H3, I3, st3, fr3, w3⟩
  rcases turn i n σ3 H3 w3 with ⟨stop, qn⟩ | ⟨go, N, hN, step⟩
  · refine wpAny_passesOwn hp (thn (T.done X rfl rfl rfl hc i pins s3 σ3 H3 X.xe I3 (stat fr3) st3 stop) fun r s4 ⟨hr, I4⟩ => ?_)
    subst hr
    exact wpAny_execs_nil ⟨σ3, H3, I4, qn⟩
  · refine wpAny_passesOwn hp (thn (T.item X rfl rfl rfl hc i pins s3 σ3 H3 X.xe I3 (stat fr3) st3 go) fun r s4 ⟨u, hr, h4⟩ => ?_)
    subst hr
    refine wpAny_passesOwn hp (thn h4 fun _ s5 ⟨x, H5, I5, r5, y5, st5, fr5⟩ => ?_)
    have I5' := I5.pinned (stat fr5) (T.obj _ _ st5)
    refine wpAny_passesOwn hp (thn (hg _ s5 σ3 H5 x u _ I5' r5 (step x H5 y5)) fun _ s6 ⟨σ6, H6, I6, q6⟩ => ?_)
    refine wpAny_passesOwn hp (thn (hb _ s6 σ6 H6 _ I6 q6) fun f s7 q7 => ?_)
    have again : ∀ {σ7 : St} {H7 : Hp}, Inv X (pins ++ pinsAt fp s5.heap) σ7 H7 s7 → N σ7 H7 → ∃ m, m < n ∧ ∃ i σ' H', Inv X pins σ' H' s7 ∧ tn i s7.heap ∧ (∀ b ∈ fp, H' b = none) ∧ W i m σ' H' := fun {σ7 H7} I7 n7 => by
      obtain ⟨m', hm, w7⟩ := hN σ7 H7 n7
      refine ⟨m', hm, i + 1, σ7, H7, I7.unpinned, T.keep _ _ _ st5 fun b hb o e => (I7.pin (b, o) (List.mem_append_right _ (List.mem_append_right _ (mem_pinsAt hb e)))).1, fun b hb => ?_, w7⟩
      obtain ⟨o, e, d⟩ := T.obj _ _ st5 b hb
      exact (I7.pin (b, o) (List.mem_append_right _ (List.mem_append_right _ (mem_pinsAt hb e)))).2.1
    cases f with
    | next => obtain ⟨σ7, H7, I7, n7⟩ := q7; exact again I7 n7
    | cont => obtain ⟨σ7, H7, I7, n7⟩ := q7; exact again I7 n7
    | brk => obtain ⟨σ7, H7, I7, q7⟩ := q7; exact ⟨σ7, H7, I7.unpinned, q7⟩
    | ret v => obtain ⟨x7, σ7, H7, I7, r7, q7⟩ := q7; exact ⟨x7, σ7, H7, I7.unpinned, r7, q7⟩
end
end L2
namespace L2
open PySem PySem.Spec PyProof.Rows
abbrev R2 := V → V → Hp → VK → Prop
def OpR (X : Cx) (f : Value → Value → Sem Value) (r : R2) : Prop :=
  ∀ (pins : List (Addr × Obj)) (s : Shared) (σ : St) (H : Hp) (x y : V) (v u : Value) (Q : VK), Inv X pins σ H s → RelV x v → RelV y u → r x y H Q →
    wpAny (model X.prog X.w) X.A (f v u) (EP X pins σ Q) X.xe s
def UnR (X : Cx) (f : Value → Sem Value) (r : V → Hp → VK → Prop) : Prop :=
  ∀ (pins : List (Addr × Obj)) (s : Shared) (σ : St) (H : Hp) (x : V) (v : Value) (Q : VK), Inv X pins σ H s → RelV x v → r x H Q →
    wpAny (model X.prog X.w) X.A (f v) (EP X pins σ Q) X.xe s
def CallR (X : Cx) (f : Value) (r : List V → Hp → VK → Prop) : Prop :=
  ∀ (pins : List (Addr × Obj)) (s : Shared) (σ : St) (H : Hp) (xs : List V) (us : List Value) (Q : VK), Inv X pins σ H s → Vals xs us → r xs H Q →
    wpAny (model X.prog X.w) X.A (call f us) (EP X pins σ Q) X.xe s
def TruR (X : Cx) (r : V → Hp → (Bool → Hp → Prop) → Prop) : Prop :=
  ∀ (pins : List (Addr × Obj)) (s : Shared) (σ : St) (H : Hp) (x : V) (v : Value) (Q : Bool → Hp → Prop), Inv X pins σ H s → RelV x v → r x H Q →
    wpAny (model X.prog X.w) X.A (truthy v) (TP X pins σ Q) X.xe s
def tOp (r : R2) (ta tb : TE) : TE := fun σ H Q => ta σ H fun x H1 => tb σ H1 fun y H2 => r x y H2 Q
def tUn (r : V → Hp → VK → Prop) (ta : TE) : TE := fun σ H Q => ta σ H fun x H1 => r x H1 Q
def rI (C : Int → Int → Prop) (g : Int → Int → V) : R2 := fun x y H Q => ∃ i j, x = .int i ∧ y = .int j ∧ C i j ∧ Q (g i j) H
def rI0 (g : Int → Int → V) : R2 := fun x y H Q => ∃ i j, x = .int i ∧ y = .int j ∧ Q (g i j) H
def rU (g : Int → V) : V → Hp → VK → Prop := fun x H Q => ∃ i, x = .int i ∧ Q (g i) H
section
variable {X : Cx} {a b c : Expr} {ta tb tc : TE} {pos : Pos}
theorem binT (ha : PE X a ta) (hb : PE X b tb) {pins : List (Addr × Obj)} {s : Shared} {σ : St} {H : Hp} {R : V → V → Hp → Prop} (I : Inv X pins σ H s)
    (h : ta σ H fun x H1 => tb σ H1 fun y H2 => R x y H2) {Q : Value → Shared → Prop} {f : Value → Value → Sem Value}
    (hf : ∀ v u s2 x y H2, Inv X pins σ H2 s2 → RelV x v → RelV y u → R x y H2 → wpAny (model X.prog X.w) X.A (f v u) Q X.xe s2) :
    wpAny (model X.prog X.w) X.A (eval a X.env) (fun v s₁ => wpAny (model X.prog X.w) X.A (eval b X.env) (fun u s₂ => wpAny (model X.prog X.w) X.A (f v u) Q X.xe s₂) X.xe s₁) X.xe s := by
  refine thn (ha pins s σ H _ I h) fun v s1 ⟨x, H1, I1, r1, q1⟩ => ?_
  refine thn (hb pins s1 σ H1 _ I1 q1) fun u s2 ⟨y, H2, I2, r2, q2⟩ => ?_
  exact hf v u s2 x y H2 I2 r1 r2 q2
theorem pe_op {op : Operator} {r : R2} (ho : OpR X (binaryOp op) r) (ha : PE X a ta) (hb : PE X b tb) : PE X (.BinOp a op b pos) (tOp r ta tb) := by
  intro pins s σ H Q I h
  exact wpAny_BinOp (binT ha hb I h fun v u s2 x y H2 I2 rx ry q => ho pins s2 σ H2 x y v u Q I2 rx ry q)
theorem pe_un {op : UnaryOp} {r : V → Hp → VK → Prop} (ho : UnR X (unaryOp op) r) (ha : PE X a ta) : PE X (.UnaryOp op a pos) (tUn r ta) := by
  intro pins s σ H Q I h
  exact UnaryOp_ (thn (ha pins s σ H _ I h) fun v s1 ⟨x, H1, I1, r1, q1⟩ => ho pins s1 σ H1 x v Q I1 r1 q1)
theorem opI {f : Value → Value → Sem Value} {C : Int → Int → Prop} {g : Int → Int → Int}
    (rule : ∀ (i j : Int) (t u : Tok) (s : Shared) (Q : Value → Shared → Prop) (E : Value → Shared → Prop), C i j → Q (.int (g i j) s.toks) { s with toks := s.toks + 1 } → wpAny (model X.prog X.w) X.A (f (.int i t) (.int j u)) Q E s) :
    OpR X f (rI C fun i j => .int (g i j)) := by
  intro pins s σ H x y v u Q I rx ry h
  obtain ⟨i, j, rfl, rfl, hc, q⟩ := h
  obtain ⟨t, rfl⟩ := rx
  obtain ⟨t', rfl⟩ := ry
  exact rule i j t t' s _ _ hc ⟨.int (g i j), H, I.tok _, ⟨_, rfl⟩, q⟩
theorem opI0 {f : Value → Value → Sem Value} {g : Int → Int → Int}
    (rule : ∀ (i j : Int) (t u : Tok) (s : Shared) (Q : Value → Shared → Prop) (E : Value → Shared → Prop), Q (.int (g i j) s.toks) { s with toks := s.toks + 1 } → wpAny (model X.prog X.w) X.A (f (.int i t) (.int j u)) Q E s) :
    OpR X f (rI0 fun i j => .int (g i j)) := by
  intro pins s σ H x y v u Q I rx ry h
  obtain ⟨i, j, rfl, rfl, q⟩ := h
  obtain ⟨t, rfl⟩ := rx
  obtain ⟨t', rfl⟩ := ry
  exact rule i j t t' s _ _ ⟨.int (g i j), H, I.tok _, ⟨_, rfl⟩, q⟩
theorem opB0 {f : Value → Value → Sem Value} {g : Int → Int → Bool}
    (rule : ∀ (i j : Int) (t u : Tok) (s : Shared) (Q : Value → Shared → Prop) (E : Value → Shared → Prop), Q (.bool (g i j)) s → wpAny (model X.prog X.w) X.A (f (.int i t) (.int j u)) Q E s) :
    OpR X f (rI0 fun i j => .bl (g i j)) := by
  intro pins s σ H x y v u Q I rx ry h
  obtain ⟨i, j, rfl, rfl, q⟩ := h
  obtain ⟨t, rfl⟩ := rx
  obtain ⟨t', rfl⟩ := ry
  exact rule i j t t' s _ _ ⟨.bl (g i j), H, I, rfl, q⟩
def CDiv (i j : Int) : Prop := 0 < j ∧ j < 1073741824
def CMul (i j : Int) : Prop := (-(2 ^ 64) < i ∧ i < 2 ^ 64) ∨ (-(2 ^ 64) < j ∧ j < 2 ^ 64)
theorem CMul.ok {i j : Int} (h : CMul i j) : IntMulOk i j := by
  rcases h with ⟨h1, h2⟩ | ⟨h1, h2⟩
  · exact .of_left (intBits_le_64 h1 h2)
  · exact .of_right (intBits_le_64 h1 h2)
theorem op_add : OpR X (binaryOp .Add) (rI0 fun i j => .int (i + j)) := opI0 fun _ _ _ _ _ _ _ q => add_int q
theorem op_sub : OpR X (binaryOp .Sub) (rI0 fun i j => .int (i - j)) := opI0 fun _ _ _ _ _ _ _ q => sub_int q
theorem op_fdiv : OpR X (binaryOp .FloorDiv) (rI CDiv fun i j => .int (i / j)) := opI fun i j _ _ _ _ _ hc q => by
  have h1 : (0 : Int) < j := hc.1
  have h2 : j < 1073741824 := hc.2
  exact floordiv_int (by omega) (by rw [Int.fdiv_eq_ediv_of_nonneg i (by omega)]; exact q) (.inl (PyProof.noPylong_small (by omega)))
theorem op_mod : OpR X (binaryOp .Mod) (rI (fun _ j => 0 < j) fun i j => .int (i % j)) := opI fun i j _ _ _ _ _ hc q => by
  have h1 : (0 : Int) < j := hc
  exact mod_int' (by omega) (by rw [Int.fmod_eq_emod_of_nonneg i (by omega)]; exact q)
theorem unI {f : Value → Sem Value} {g : Int → Int}
    (rule : ∀ (i : Int) (t : Tok) (s : Shared) (Q : Value → Shared → Prop) (E : Value → Shared → Prop), Q (.int (g i) s.toks) { s with toks := s.toks + 1 } → wpAny (model X.prog X.w) X.A (f (.int i t)) Q E s) :
    UnR X f (rU fun i => .int (g i)) := by
  intro pins s σ H x v Q I rx h
  obtain ⟨i, rfl, q⟩ := h
  obtain ⟨t, rfl⟩ := rx
  exact rule i t s _ _ ⟨.int (g i), H, I.tok _, ⟨_, rfl⟩, q⟩
theorem un_neg : UnR X (unaryOp .USub) (rU fun i => .int (-i)) := unI fun _ _ _ _ _ q => neg_int q
end
def scal : V → V → Bool
  | .non, .non => true | .non, .int _ => true | .int _, .non => true | .non, .bl _ => true | .bl _, .non => true | .non, .str _ => true | .str _, .non => true
  | .int _, .int _ => true | .bl _, .bl _ => true | .str _, .str _ => true | .byt _, .byt _ => true
  | .int _, .str _ => true | .str _, .int _ => true | .bl _, .str _ => true | .str _, .bl _ => true
  | _, _ => false
def rEq : R2 := fun x y H Q => scal x y = true ∧ Q (.bl (decide (x = y))) H
def rNe : R2 := fun x y H Q => scal x y = true ∧ Q (.bl (!decide (x = y))) H
theorem dec_int {i j : Int} : decide (V.int i = V.int j) = (i == j) := by
  rw [Bool.eq_iff_iff]
  simp
theorem dec_bl {i j : Bool} : decide (V.bl i = V.bl j) = (i == j) := by
  rw [Bool.eq_iff_iff]
  simp
theorem dec_str {i j : Str} : decide (V.str i = V.str j) = (i == j) := by
  rw [Bool.eq_iff_iff]
  simp
theorem dec_byt {i j : Array UInt8} : decide (V.byt i = V.byt j) = (i.toList == j.toList) := by
  rw [Bool.eq_iff_iff]
  cases i
  cases j
  simp
section
variable {X : Cx} {a b c : Expr} {ta tb tc : TE} {pos : Pos}
theorem fin_bl {pins : List (Addr × Obj)} {σ : St} {H : Hp} {s : Shared} {Q : VK} {k k' : Bool} (I : Inv X pins σ H s) (q : Q (.bl k) H) (e : k = k') : EP X pins σ Q (.bool k') s := by
  subst e
  exact ⟨.bl k, H, I, rfl, q⟩
theorem op_eq : OpR X (compareOp .Eq) rEq := by
  intro pins s σ H x y v u Q I rx ry h
  obtain ⟨hs, q⟩ := h
  cases x with
  | non =>
    cases rx
    cases y with
    | non => cases ry; exact PySem.EqNone.eq_none_none (fin_bl I q (by simp))
    | bl j => cases ry; exact PySem.EqNone.eq_none_bool (fin_bl I q (by simp))
    | int j => obtain ⟨t', rfl⟩ := ry; exact PySem.EqNone.eq_none_int (fin_bl I q (by simp))
    | str j => obtain ⟨t', rfl⟩ := ry; exact PySem.EqNone.eq_none_str (fin_bl I q (by simp))
    | _ => exact absurd (show false = true from hs) Bool.false_ne_true
  | bl i =>
    cases rx
    cases y with
    | non => cases ry; exact PySem.EqNone.eq_bool_none (fin_bl I q (by simp))
    | bl j => cases ry; exact eq_bool (fin_bl I q dec_bl)
    | str j => obtain ⟨t', rfl⟩ := ry; exact PySem.EqMixed.eq_bool_str (fin_bl I q (by simp))
    | _ => exact absurd (show false = true from hs) Bool.false_ne_true
  | int i =>
    obtain ⟨t, rfl⟩ := rx
    cases y with
    | non => cases ry; exact PySem.EqNone.eq_int_none (fin_bl I q (by simp))
    | int j => obtain ⟨t', rfl⟩ := ry; exact eq_int (fin_bl I q dec_int)
    | str j => obtain ⟨t', rfl⟩ := ry; exact PySem.EqMixed.eq_int_str (fin_bl I q (by simp))
    | _ => exact absurd (show false = true from hs) Bool.false_ne_true
  | str i =>
    obtain ⟨t, rfl⟩ := rx
    cases y with
    | non => cases ry; exact PySem.EqNone.eq_str_none (fin_bl I q (by simp))
    | bl j => cases ry; exact PySem.EqMixed.eq_str_bool (fin_bl I q (by simp))
    | int j => obtain ⟨t', rfl⟩ := ry; exact PySem.EqMixed.eq_str_int (fin_bl I q (by simp))
    | str j => obtain ⟨t', rfl⟩ := ry; exact eq_str (fin_bl I q dec_str)
    | _ => exact absurd (show false = true from hs) Bool.false_ne_true
  | byt i =>
    obtain ⟨t, rfl⟩ := rx
    cases y with
    | byt j => obtain ⟨t', rfl⟩ := ry; exact PySem.W.eq_bytes (fin_bl I q dec_byt)
    | _ => exact absurd (show false = true from hs) Bool.false_ne_true
  | _ => cases y <;> exact absurd (show false = true from hs) Bool.false_ne_true
theorem op_ne : OpR X (compareOp .NotEq) rNe := by
  intro pins s σ H x y v u Q I rx ry h
  obtain ⟨hs, q⟩ := h
  cases x with
  | non =>
    cases rx
    cases y with
    | non => cases ry; exact PySem.EqNone.ne_none_none (fin_bl I q (by simp))
    | bl j => cases ry; exact PySem.EqNone.ne_none_bool (fin_bl I q (by simp))
    | int j => obtain ⟨t', rfl⟩ := ry; exact PySem.EqNone.ne_none_int (fin_bl I q (by simp))
    | str j => obtain ⟨t', rfl⟩ := ry; exact PySem.EqNone.ne_none_str (fin_bl I q (by simp))
    | _ => exact absurd (show false = true from hs) Bool.false_ne_true
  | bl i =>
    cases rx
    cases y with
    | non => cases ry; exact PySem.EqNone.ne_bool_none (fin_bl I q (by simp))
    | bl j => cases ry; exact ne_bool (fin_bl I q (congrArg not dec_bl))
    | str j => obtain ⟨t', rfl⟩ := ry; exact PySem.EqMixed.ne_bool_str (fin_bl I q (by simp))
    | _ => exact absurd (show false = true from hs) Bool.false_ne_true
  | int i =>
    obtain ⟨t, rfl⟩ := rx
    cases y with
    | non => cases ry; exact PySem.EqNone.ne_int_none (fin_bl I q (by simp))
    | int j => obtain ⟨t', rfl⟩ := ry; exact ne_int (fin_bl I q (congrArg not dec_int))
    | str j => obtain ⟨t', rfl⟩ := ry; exact PySem.EqMixed.ne_int_str (fin_bl I q (by simp))
    | _ => exact absurd (show false = true from hs) Bool.false_ne_true
  | str i =>
    obtain ⟨t, rfl⟩ := rx
    cases y with
    | non => cases ry; exact PySem.EqNone.ne_str_none (fin_bl I q (by simp))
    | bl j => cases ry; exact PySem.EqMixed.ne_str_bool (fin_bl I q (by simp))
    | int j => obtain ⟨t', rfl⟩ := ry; exact PySem.EqMixed.ne_str_int (fin_bl I q (by simp))
    | str j => obtain ⟨t', rfl⟩ := ry; exact ne_str (fin_bl I q (congrArg not dec_str))
    | _ => exact absurd (show false = true from hs) Bool.false_ne_true
  | byt i =>
    obtain ⟨t, rfl⟩ := rx
    cases y with
    | byt j => obtain ⟨t', rfl⟩ := ry; exact PySem.W.ne_bytes (fin_bl I q (congrArg not dec_byt))
    | _ => exact absurd (show false = true from hs) Bool.false_ne_true
  | _ => cases y <;> exact absurd (show false = true from hs) Bool.false_ne_true
theorem op_lt : OpR X (compareOp .Lt) (rI0 fun i j => .bl (decide (i < j))) := opB0 fun _ _ _ _ _ _ _ q => lt_int q
theorem op_le : OpR X (compareOp .LtE) (rI0 fun i j => .bl (decide (i ≤ j))) := opB0 fun _ _ _ _ _ _ _ q => le_int q
theorem op_gt : OpR X (compareOp .Gt) (rI0 fun i j => .bl (decide (j < i))) := opB0 fun _ _ _ _ _ _ _ q => gt_int q
theorem op_in_str : OpR X (compareOp .In) (fun x y H Q => ∃ i j, x = .str i ∧ y = .str j ∧ Q (.bl (!(Builtin.Str.occurrences j i 0 j.length 1).isEmpty)) H) := by
  intro pins s σ H x y v u Q I rx ry h
  obtain ⟨i, j, rfl, rfl, q⟩ := h
  obtain ⟨t, rfl⟩ := rx
  obtain ⟨t', rfl⟩ := ry
  exact in_str (fin_bl I q rfl)
theorem op_isN : OpR X (compareOp .Is) (fun x y H Q => y = .non ∧ Q (.bl (decide (x = .non))) H) := by
  intro pins s σ H x y v u Q I rx ry h
  obtain ⟨rfl, q⟩ := h
  cases ry
  refine is_none_gen (fin_bl I q ?_)
  cases x <;> first
    | (cases rx; rfl)
    | (obtain ⟨t, rfl⟩ := rx; rfl)
theorem op_notN : OpR X (compareOp .IsNot) (fun x y H Q => y = .non ∧ Q (.bl (!decide (x = .non))) H) := by
  intro pins s σ H x y v u Q I rx ry h
  obtain ⟨rfl, q⟩ := h
  cases ry
  refine isnot_none_gen (fin_bl I q ?_)
  cases x <;> first
    | (cases rx; rfl)
    | (obtain ⟨t, rfl⟩ := rx; rfl)
theorem op_notin_str : OpR X (compareOp .NotIn) (fun x y H Q => ∃ i j, x = .str i ∧ y = .str j ∧ Q (.bl (!(!(Builtin.Str.occurrences j i 0 j.length 1).isEmpty))) H) := by
  intro pins s σ H x y v u Q I rx ry h
  obtain ⟨i, j, rfl, rfl, q⟩ := h
  obtain ⟨t, rfl⟩ := rx
  obtain ⟨t', rfl⟩ := ry
  exact notIn_str (fin_bl I q rfl)
theorem OpR.or {f : Value → Value → Sem Value} {r r' : R2} (h : OpR X f r) (h' : OpR X f r') : OpR X f (fun x y H Q => r x y H Q ∨ r' x y H Q) := by
  intro pins s σ H x y v u Q I rx ry q
  rcases q with q | q
  · exact h pins s σ H x y v u Q I rx ry q
  · exact h' pins s σ H x y v u Q I rx ry q
theorem nomark (b : Expr) {op : CmpOp} (h : op ≠ .In := by decide) (h2 : op ≠ .NotIn := by decide) : behindInMarks op b = false := by
  have e1 : (op == CmpOp.In) = false := by cases op <;> first | rfl | exact absurd rfl h
  have e2 : (op == CmpOp.NotIn) = false := by cases op <;> first | rfl | exact absurd rfl h2
  cases b <;> simp [behindInMarks, e1, e2]
theorem pe_cmpR {op : CmpOp} {r : R2} (ho : OpR X (compareOp op) r) (ha : PE X a ta) (hb : PE X b tb) (hm : behindInMarks op b = false) : PE X (.Compare a [op] [b] pos) (tOp r ta tb) := by
  intro pins s σ H Q I h
  exact wpAny_Compare1 (binT ha hb I h fun v u s2 x y H2 I2 rx ry q => ho pins s2 σ H2 x y v u Q I2 rx ry q) hm
def tTest (t : TE) : TT := fun σ H Q => t σ H fun x H' => ∃ k, x = .bl k ∧ Q k H'
theorem pt_cmpR {op : CmpOp} {r : R2} (ho : OpR X (compareOp op) r) (ha : PE X a ta) (hb : PE X b tb) (hm : behindInMarks op b = false) : PT X (.Compare a [op] [b] pos) (tTest (tOp r ta tb)) := by
  intro pins s σ H Q I h
  refine wpAny_isTrue_Compare1 (thn (ha pins s σ H _ I h) fun v s1 ⟨x, H1, I1, r1, q1⟩ => thn (hb pins s1 σ H1 _ I1 q1) fun u s2 ⟨y, H2, I2, r2, q2⟩ =>
    thn (ho pins s2 σ H2 x y v u _ I2 r1 r2 q2) fun c s3 ⟨z, H3, I3, r3, k, e, q3⟩ => ?_) hm
  subst e
  cases r3
  exact wpAny_truthy_bool ⟨H3, I3, q3⟩
def tChain (r r' : R2) (ta tb tc : TE) : TE := fun σ H Q => ta σ H fun x H1 => tb σ H1 fun y H2 => r x y H2 fun z H3 => ∃ k, z = .bl k ∧
  (if k = true then tc σ H3 fun w' H4 => r' y w' H4 Q else Q (.bl false) H3)
theorem pe_chain {op op' : CmpOp} {r r' : R2} (ho : OpR X (compareOp op) r) (ho' : OpR X (compareOp op') r') (ha : PE X a ta) (hb : PE X b tb) (hc : PE X c tc)
    (hm : lastMarks [op, op'] [b, c] = false := by with_unfolding_all rfl) : PE X (.Compare a [op, op'] [b, c] pos) (tChain r r' ta tb tc) := by
  intro pins s σ H Q I h
  refine Compare_chain (thn (ha pins s σ H _ I h) fun v s1 ⟨x, H1, I1, r1, q1⟩ => chain_link (thn (hb pins s1 σ H1 _ I1 q1) fun u s2 ⟨y, H2, I2, r2, q2⟩ =>
    thn (ho pins s2 σ H2 x y v u _ I2 r1 r2 q2) fun d s3 ⟨z, H3, I3, r3, k, e, q3⟩ => ?_)) hm
  subst e
  cases r3
  refine wpAny_truthy_bool ?_
  cases k with
  | false => exact ite_ff ⟨.bl false, H3, I3, rfl, q3⟩
  | true => exact ite_tt (chain_last (thn (hc pins s3 σ H3 _ I3 q3) fun w' s4 ⟨z', H4, I4, r4, q4⟩ => ho' pins s4 σ H4 y z' u w' Q I4 r2 r4 q4))
def TruV (K : PySem.W.Frag) (x : V) (H : Hp) (k : Bool) : Prop :=
  match x with
  | .non => k = false
  | .bl b => k = b
  | .int i => k = (i != 0)
  | .str y => y.length ≤ sizeLine ∧ k = ((y.length : Int) != 0)
  | .byt y => y.size ≤ sizeLine ∧ k = ((y.size : Int) != 0)
  | .ref p => (∃ xs, SqL K H p xs ∧ k = !xs.isEmpty) ∨ (∃ xs, SqT K H p xs ∧ k = !xs.isEmpty) ∨ ∃ kvs, H p = some (.dK kvs) ∧ k = !kvs.isEmpty
  | _ => False
theorem isEmpty_kv {κ : Type} {kvs : List (κ × V)} {vs : List (κ × Value)} (r : KV kvs vs) : (!vs.isEmpty) = !kvs.isEmpty := by
  cases r <;> rfl
theorem isEmpty_of {xs : List V} {its : List Value} (r : Vals xs its) : (!its.toArray.isEmpty) = !xs.isEmpty := by
  cases r <;> simp
theorem line63 : (sizeLine : Nat) < 2 ^ 63 := by rw [sizeLine_eq]; decide
theorem tru_ok : TruR X (fun x H Q => ∃ k, TruV X.K x H k ∧ Q k H) := by
  intro pins s σ H x v Q I rx h
  obtain ⟨k, e, q⟩ := h
  have hl := line63
  have hs : sizeLine = 16777216 := sizeLine_eq
  cases x with
  | non =>
    cases rx
    have e' : k = false := e
    subst e'
    exact truthy_none ⟨H, I, q⟩
  | bl b =>
    cases rx
    have e' : k = b := e
    subst e'
    exact wpAny_truthy_bool ⟨H, I, q⟩
  | int i =>
    obtain ⟨t, rfl⟩ := rx
    have e' : k = (i != 0) := e
    subst e'
    exact PySem.P.truthy_int ⟨H, I, q⟩
  | str y =>
    obtain ⟨t, rfl⟩ := rx
    obtain ⟨hy, e'⟩ : y.length ≤ sizeLine ∧ k = ((y.length : Int) != 0) := e
    subst e'
    exact PySem.P.truthy_str (by omega) ⟨H, I.tok _, q⟩
  | byt y =>
    obtain ⟨t, rfl⟩ := rx
    obtain ⟨hy, e'⟩ : y.size ≤ sizeLine ∧ k = ((y.size : Int) != 0) := e
    subst e'
    exact PySem.W.truthy_bytes (by omega) ⟨H, I.tok _, q⟩
  | ref p =>
    cases rx
    have e' : (∃ xs, SqL X.K H p xs ∧ k = !xs.isEmpty) ∨ (∃ xs, SqT X.K H p xs ∧ k = !xs.isEmpty) ∨ ∃ kvs, H p = some (.dK kvs) ∧ k = !kvs.isEmpty := e
    rcases e' with ⟨xs, hx, e'⟩ | ⟨xs, hx, e'⟩ | ⟨kvs, hx, e'⟩
    · subst e'
      obtain ⟨its, r, pl, hz⟩ := I.list hx
      have hlen := r.length
      exact wpAny_truthy_list pl.isList (by simp only [List.size_toArray]; omega) ⟨H, I.tok _, by rw [isEmpty_of r]; exact q⟩
    · subst e'
      obtain ⟨its, r, pl, hz⟩ := I.tuple hx
      have hlen := r.length
      exact truthy_tuple pl (by simp only [List.size_toArray]; omega) ⟨H, I.tok _, by rw [isEmpty_of r]; exact q⟩
    · subst e'
      obtain ⟨hz, hS, vs, r, m⟩ : kvs.length ≤ sizeLine ∧ (p == sysModules) = false ∧ ∃ vs, KV kvs vs ∧ s.heap.DictOf (mixKind X.prog X.w) p vs := I.hok p _ hx
      have hlen : kvs.length = vs.length := Paired.length r
      exact wpAny_truthy_dict hS m (by omega) ⟨H, I.tok _, by rw [isEmpty_kv r]; exact q⟩
  | _ => exact (show False from e).elim
theorem pt_truth (ha : PE X a ta) (he : ∀ whole, isTrue a X.env whole = (do let v ← whole; standAt a.pos; holding [v] (truthy v))) :
    PT X a (fun σ H Q => ta σ H fun x H' => ∃ k, TruV X.K x H' k ∧ Q k H') := by
  intro pins s σ H Q I h
  exact isTrue_plain (thn (ha pins s σ H _ I h) fun v s1 ⟨x, H1, I1, r1, q1⟩ => tru_ok pins s1 σ H1 x v Q I1 r1 q1) (he _)
theorem op_add_str : OpR X (binaryOp .Add) (fun x y H Q => ∃ i j, x = .str i ∧ y = .str j ∧ i.length + j.length ≤ sizeLine ∧ Q (.str (i ++ j)) H) := by
  intro pins s σ H x y v u Q I rx ry h
  obtain ⟨i, j, rfl, rfl, hz, q⟩ := h
  obtain ⟨t, rfl⟩ := rx
  obtain ⟨t', rfl⟩ := ry
  exact add_str (fun t' tk => ⟨.str (i ++ j), H, I.tok _, ⟨_, rfl⟩, q⟩) hz
theorem vals1 {x : V} {us : List Value} (r : Vals [x] us) : ∃ u, us = [u] ∧ RelV x u := by
  cases r with
  | cons r1 r2 => cases r2; exact ⟨_, rfl, r1⟩
theorem vals2 {x y : V} {us : List Value} (r : Vals [x, y] us) : ∃ u w', us = [u, w'] ∧ RelV x u ∧ RelV y w' := by
  cases r with
  | cons r1 r2 =>
    cases r2 with
    | cons r3 r4 => cases r4; exact ⟨_, _, rfl, r1, r3⟩
theorem call_int1 : CallR X (.type "int") (fun xs H Q => (∃ i, xs = [.int i] ∧ Q (.int i) H) ∨ ∃ k, xs = [.bl k] ∧ Q (.int (if k then 1 else 0)) H) := by
  intro pins s σ H xs us Q I r h
  rcases h with ⟨i, rfl, q⟩ | ⟨k, rfl, q⟩
  · obtain ⟨u, rfl, t, rfl⟩ := vals1 r
    exact call_int_int ⟨.int i, H, I, ⟨_, rfl⟩, q⟩
  · obtain ⟨u, rfl, r1⟩ := vals1 r
    cases r1
    exact call_int_bool ⟨.int (if k then 1 else 0), H, I.tok _, ⟨_, rfl⟩, q⟩
theorem call_str_int : CallR X (.type "str") (fun xs H Q => ∃ i, xs = [.int i] ∧ i.natAbs.log2 < 1920 ∧ Q (.str (toString i)) H) := by
  intro pins s σ H xs us Q I r h
  obtain ⟨i, rfl, hz, q⟩ := h
  obtain ⟨u, rfl, t, rfl⟩ := vals1 r
  exact PySem.P.str_of_int hz ⟨.str _, H, I.tok _, ⟨_, rfl⟩, q⟩
def LenV (K : PySem.W.Frag) (x : V) (H : Hp) (n : Nat) : Prop :=
  match x with
  | .str y => y.length ≤ sizeLine ∧ n = y.length
  | .byt y => y.size ≤ sizeLine ∧ n = y.size
  | .ref p => (∃ xs, SqL K H p xs ∧ n = xs.length) ∨ ∃ xs, SqT K H p xs ∧ n = xs.length
  | _ => False
theorem call_len : CallR X (.builtin "len") (fun xs H Q => ∃ x n, xs = [x] ∧ LenV X.K x H n ∧ Q (.int n) H) := by
  intro pins s σ H xs us Q I r h
  obtain ⟨x, n, rfl, e, q⟩ := h
  obtain ⟨u, rfl, rx⟩ := vals1 r
  have hl := line63
  have hs : sizeLine = 16777216 := sizeLine_eq
  cases x with
  | str y =>
    obtain ⟨t, rfl⟩ := rx
    obtain ⟨hy, e'⟩ : y.length ≤ sizeLine ∧ n = y.length := e
    subst e'
    exact len_str (by omega) ⟨.int _, H, I.tok _, ⟨_, rfl⟩, q⟩
  | byt y =>
    obtain ⟨t, rfl⟩ := rx
    obtain ⟨hy, e'⟩ : y.size ≤ sizeLine ∧ n = y.size := e
    subst e'
    exact PySem.W.len_bytes (by omega) ⟨.int _, H, I.tok _, ⟨_, rfl⟩, q⟩
  | ref p =>
    cases rx
    have e' : (∃ xs, SqL X.K H p xs ∧ n = xs.length) ∨ ∃ xs, SqT X.K H p xs ∧ n = xs.length := e
    rcases e' with ⟨xs, hx, e'⟩ | ⟨xs, hx, e'⟩
    · subst e'
      obtain ⟨its, r', pl, hz⟩ := I.list hx
      have hlen := r'.length
      exact Calls.call_len_list pl.isList (by simp only [List.size_toArray]; omega) ⟨.int xs.length, H, I.tok _, ⟨_, by simp only [List.size_toArray]; rw [hlen]⟩, q⟩
    · subst e'
      obtain ⟨its, r', pl, hz⟩ := I.tuple hx
      have hlen := r'.length
      exact len_tuple pl (by simp only [List.size_toArray]; omega) ⟨.int xs.length, H, I.tok _, ⟨_, by simp only [List.size_toArray]; rw [hlen]⟩, q⟩
  | _ => exact (show False from e).elim
end
end L2
namespace L2
open PySem PySem.Spec PyProof.Rows
structure ObjM (h : Heap) (x dx C : Addr) (mA : Str → Option Value) : Prop where
  obj : h.get? x = some (PySem.W.instObj C dx)
  ns : h.Ns1 dx mA
  ne : dx ≠ x
theorem lookIn_ns {h : Heap} {dx : Addr} {mA : Str → Option Value} (n : h.Ns1 dx mA) : ∃ od, h.get? dx = some od ∧ ∀ name, PySem.W.lookIn name od = some (mA name) := by
  obtain ⟨o, es, ep, ho, hd, hk, _, hm⟩ := n
  refine ⟨o, ho, fun name => ?_⟩
  have e := hm name
  unfold nsFind findBy at e
  rw [← Array.find?_toList] at e
  unfold PySem.W.lookIn
  rw [hd]
  dsimp only
  split
  · rename_i y q
    rw [q] at e
    exact congrArg some e
  · rename_i q
    rw [q] at e
    have a : es.toList.any (·.refKey) = false := by
      rw [List.any_eq_false]
      intro y hy
      obtain ⟨z, t, hkey⟩ := hk y (Array.mem_toList_iff.mp hy)
      simp [DictEntry.refKey, hkey]
    have a' : ¬ es.toList.any (·.refKey) = true := by rw [a]; exact Bool.false_ne_true
    rw [if_neg a']
    exact congrArg some e
theorem ObjM.look {h : Heap} {x dx C : Addr} {mA : Str → Option Value} (I : ObjM h x dx C mA) : ∃ od, PySem.W.InstAt h x (PySem.W.instObj C dx) C (some od) ∧ ∀ name, PySem.W.lookIn name od = some (mA name) :=
  let ⟨od, ho, hl⟩ := lookIn_ns I.ns
  ⟨od, ⟨I.obj, rfl, rfl, ho⟩, hl⟩
section
variable {prog : Program} {w : World} {A : Around} {E : Value → Shared → Prop} {s : Shared} {K : PySem.W.Frag} {x dx C f : Addr} {mA : Str → Option Value} {name : Str} {v : Value}
theorem get_map {expr : Bool} {Q : Value → Shared → Prop} (X : K.In s.heap) (I : ObjM s.heap x dx C mA) (hg : PySem.W.plainGet K C name = true) (hh : PySem.W.hasDictIn K C = true)
    (ha : PySem.W.findIn K (.ref C) name = some none) (hv : mA name = some v) (hv' : PySem.W.handedIn v = true) (h : Q v { s with toks := s.toks + 1 }) :
    wpAny (model prog w) A (getAttr (.ref x) name expr) Q E s := by
  obtain ⟨od, J, hl⟩ := I.look
  exact PySem.W.get_value X J (PySem.W.plainGet_of hg).1 (PySem.W.findObj_own hh ha rfl (by rw [hl, hv])) hv' h
theorem get_meth {pl : Sem Bool} {Q : Value × List Value → Shared → Prop} (X : K.In s.heap) (I : ObjM s.heap x dx C mA) (hg : PySem.W.plainGet K C name = true)
    (hf : PySem.W.findIn K (.ref C) name = some (some (.ref f))) (ht : PySem.W.isFn K (.ref f) = true) (hv : mA name = none) (h : Q (.ref f, [.ref x]) s) :
    wpAny (model prog w) A (getMethod (.ref x) name pl) Q E s := by
  obtain ⟨od, J, hl⟩ := I.look
  exact PySem.W.method_fn X J (PySem.W.plainGet_of hg).1 (PySem.W.plainGet_of hg).2 hf (beq_iff_eq.mp ht) (by show (PySem.W.lookIn name od).map (·.isSome) = some false; rw [hl, hv]; rfl) h
theorem set_map {ns : List Str} {Q : Unit → Shared → Prop} (X : K.In s.heap) (I : ObjM s.heap x dx C mA)
    (hs : PySem.W.findIn K (.ref C) "__setattr__" = some (some (.builtin "object.__setattr__"))) (hp : PySem.W.plainOver K C = true) (ht : PySem.W.takerIn K C name = some none) (hh : PySem.W.hasDictIn K C = true)
    (hw : PySem.Within mA ns) (hsz : ns.length ≤ sizeLine)
    (h : ∀ h', ObjM h' x dx C (fun y => if y = name then some v else mA y) → Heap.SameBut dx s.heap h' → Q () { s with heap := h', toks := s.toks + 2 }) :
    wpAny (model prog w) A (setAttr (.ref x) name v) Q E s := by
  obtain ⟨od, J, hl⟩ := I.look
  refine PySem.W.set_plain X J hs (PySem.W.osa_open (s := { s with toks := s.toks + 1 }) (r := none) X J hp ht fun b => ?_)
  obtain ⟨cd, hc, hd'⟩ := PySem.W.any_some hh
  have hx : s.heap.get? x = some ⟨.ref C, some dx, .plain, #[]⟩ := I.obj
  refine wpAny_bind (wpAny_pure (wpAny_bind (wpAny_bind (wpAny_loadPart hx (wpAny_bind (PySem.W.Looks.here (s := { s with toks := s.toks + 1 }) (PySem.W.looks_clsIn X hc) ?_))))))
  rw [hd']
  refine wpAny_pure (a := some dx) (wpAny_bind (wpAny_pure (wpAny_bind ?_)))
  refine wpAny_nsSet1 (s := { s with toks := s.toks + 1 }) I.ns fun h' hn2 hs2 => ?_
  obtain ⟨oD, esD, epD, hoD, hdD, hcD⟩ := hn2.count (PySem.Within.cons name v hw)
  refine wpAny_bind (wpAny_lookBehind hoD (by rw [hdD]; exact pastItsLine_dict (Nat.le_trans hcD (by rw [List.length_cons]; omega))) ?_)
  exact wpAny_pure (h _ ⟨(hs2.2 _ (Ne.symm I.ne)).trans I.obj, hn2, I.ne⟩ hs2)
theorem make_map {R : Result → Shared → Prop} {vs : List Value} {kw : List (Str × Value)} (X : K.In s.heap) (hm : PySem.W.makesIn K C = true)
    (hi : PySem.W.findIn K (.ref C) "__init__" = some (some (.ref f))) (hf : PySem.W.typeIn K (.ref f) = some (.type "function"))
    (h : codeAny (model prog w) (A.under (.builtin "type.__call__" ⟨.ref C :: vs, kw⟩)) (.call (.ref f) ⟨.ref (s.heap.objs.size + 1) :: vs, kw⟩) (PySem.W.InitBack (s.heap.objs.size + 1) R)
      { s with heap := (s.heap.push PySem.W.emptyDict).push (PySem.W.instObj C s.heap.objs.size) }) :
    codeAny (model prog w) A (.call (.ref C) ⟨vs, kw⟩) R s := by
  obtain ⟨hh, g, d, t, os⟩ := s
  exact PySem.W.make_core (PySem.W.makes_of X hm) (PySem.W.looks_findIn X hi) (fun self => PySem.W.bind_fn X self hf) (.inl rfl) h
end
def putF (f : Str) (v : V) : List (Str × V) → List (Str × V)
  | [] => [(f, v)]
  | (g, x) :: r => if g = f then (g, v) :: r else (g, x) :: putF f v r
theorem lookup_putF (f g : Str) (v : V) : ∀ fs : List (Str × V), (putF f v fs).lookup g = if g = f then some v else fs.lookup g
  | [] => by
    show List.lookup g [(f, v)] = _
    by_cases h : g = f
    · have hb : (g == f) = true := beq_iff_eq.mpr h
      simp only [List.lookup, hb, if_pos h]
    · have hb : (g == f) = false := beq_eq_false_iff_ne.mpr h
      simp only [List.lookup, hb, if_neg h]
  | (k, x) :: r => by
    have ih := lookup_putF f g v r
    rw [show putF f v ((k, x) :: r) = (if k = f then (k, v) :: r else (k, x) :: putF f v r) from rfl]
    by_cases hk : k = f
    · rw [if_pos hk]
      by_cases h : g = k
      · have hb : (g == k) = true := beq_iff_eq.mpr h
        simp only [List.lookup, hb, if_pos (h.trans hk)]
      · have hb : (g == k) = false := beq_eq_false_iff_ne.mpr h
        simp only [List.lookup, hb, if_neg (fun e : g = f => h (e.trans hk.symm))]
    · rw [if_neg hk]
      by_cases h : g = k
      · have hb : (g == k) = true := beq_iff_eq.mpr h
        simp only [List.lookup, hb, if_neg (fun e : g = f => hk (h.symm.trans e))]
      · have hb : (g == k) = false := beq_eq_false_iff_ne.mpr h
        simp only [List.lookup, hb]
        exact ih
theorem keys_putF (f : Str) (v : V) : ∀ fs : List (Str × V), f ∈ (putF f v fs).map (·.1) ∧ ∀ g, g ∈ fs.map (·.1) → g ∈ (putF f v fs).map (·.1)
  | [] => ⟨by simp [putF], fun g h => by simp at h⟩
  | (k, x) :: r => by
    obtain ⟨i1, i2⟩ := keys_putF f v r
    rw [show putF f v ((k, x) :: r) = (if k = f then (k, v) :: r else (k, x) :: putF f v r) from rfl]
    by_cases hk : k = f
    · rw [if_pos hk]
      subst hk
      exact ⟨by simp, fun g h => by simpa using h⟩
    · rw [if_neg hk]
      refine ⟨?_, fun g h => ?_⟩
      · rw [List.map_cons]
        exact List.mem_cons_of_mem _ i1
      · rw [List.map_cons] at h ⊢
        rcases List.mem_cons.mp h with e | e
        · exact List.mem_cons.mpr (.inl e)
        · exact List.mem_cons_of_mem _ (i2 g e)
theorem length_putF (f : Str) (v : V) : ∀ fs : List (Str × V), (putF f v fs).length ≤ fs.length + 1
  | [] => by simp [putF]
  | (k, x) :: r => by
    have ih := length_putF f v r
    rw [show putF f v ((k, x) :: r) = (if k = f then (k, v) :: r else (k, x) :: putF f v r) from rfl]
    by_cases hk : k = f
    · rw [if_pos hk, List.length_cons, List.length_cons]; omega
    · rw [if_neg hk, List.length_cons, List.length_cons]; omega
theorem RelO.some_of {v : V} {o : Option Value} (r : RelO (some v) o) : ∃ u, o = some u ∧ RelV v u := by
  cases o with
  | none => exact (show False from r).elim
  | some u => exact ⟨u, rfl, r⟩
theorem RelO.none_of {o : Option Value} (r : RelO none o) : o = none := by
  cases o with
  | none => rfl
  | some u => exact (show False from r).elim
theorem handed_of {v : V} {u : Value} (r : RelV v u) : PySem.W.handedIn u = true := by
  cases v with
  | non => cases (show u = Value.none from r); rfl
  | bl b => cases (show u = Value.bool b from r); rfl
  | int i => obtain ⟨t, e⟩ := (show ∃ t, u = Value.int i t from r); cases e; rfl
  | str x => obtain ⟨t, e⟩ := (show ∃ t, u = Value.str x t from r); cases e; rfl
  | byt b => obtain ⟨t, e⟩ := (show ∃ t, u = Value.bytes b t from r); cases e; rfl
  | flt b => obtain ⟨t, e⟩ := (show ∃ t, u = Value.float b t from r); cases e; rfl
  | ref a => cases (show u = Value.ref a from r); rfl
  | ty n => cases (show u = Value.type n from r); rfl
section
variable {P : Program} {w : World} {H H' : Hp} {h h' : Heap} {a C dx : Addr} {fs fs' : List (Str × V)}
theorem ins_get (hok : HOk P w H h) (e : H a = some (.ins C dx fs)) : ∃ mA, ObjM h a dx C mA ∧ (∀ f, RelO (fs.lookup f) (mA f)) ∧ PySem.Within mA (fs.map (·.1)) ∧ fs.length ≤ 1000 ∧ H dx = some (.own a) := by
  obtain ⟨d, z, ne, ob, mA, n, r, q⟩ := (show ObjOk P w H h a (.ins C dx fs) from hok a _ e)
  exact ⟨mA, ⟨ob, n, ne⟩, r, q, z, d⟩
end
structure Cls (K : PySem.W.Frag) (C : Addr) : Prop where
  pg : PySem.W.plainGet K C Str.empty = true
  hd : PySem.W.hasDictIn K C = true
  po : PySem.W.plainOver K C = true
  sa : PySem.W.findIn K (.ref C) "__setattr__" = some (some (.builtin "object.__setattr__"))
theorem Cls.get {K : PySem.W.Frag} {C : Addr} (c : Cls K C) (f : Str) : PySem.W.plainGet K C f = true := c.pg
def NoAttr (K : PySem.W.Frag) (C : Addr) (f : Str) : Prop := PySem.W.findIn K (.ref C) f = some none
theorem NoAttr.taker {K : PySem.W.Frag} {C : Addr} {f : Str} (n : NoAttr K C f) : PySem.W.takerIn K C f = some none := by
  unfold PySem.W.takerIn
  rw [show PySem.W.findIn K (.ref C) f = some none from n]
  rfl
structure Meth (K : PySem.W.Frag) (C : Addr) (m : Str) (f : Addr) : Prop where
  at_ : PySem.W.findIn K (.ref C) m = some (some (.ref f))
  fn : PySem.W.isFn K (.ref f) = true
  kp : PySem.W.keepIn K (.ref f) = true
section
variable {X : Cx} {pins : List (Addr × Obj)} {σ : St} {H : Hp} {s : Shared} {a C dx : Addr} {fs : List (Str × V)} {f : Str} {v : V} {A : Around} {E : Value → Shared → Prop}
theorem setattr_ok {y : V} {u : Value} {Q : Unit → Shared → Prop} (I : Inv X pins σ H s) (e : H a = some (.ins C dx fs)) (c : Cls X.K C) (n : NoAttr X.K C f) (hl : fs.length < 1000) (ry : RelV y u)
    (h : ∀ s', Inv X pins σ (upd H a (.ins C dx (putF f y fs))) s' → Q () s') : wpAny (model X.prog X.w) A (setAttr (.ref a) f u) Q E s := by
  obtain ⟨mA, O, r, wi, _, ho⟩ := ins_get I.hok e
  have hz : (fs.map (·.1)).length ≤ sizeLine := by rw [List.length_map, sizeLine_eq]; omega
  refine set_map I.kIn O c.sa c.po n.taker c.hd wi hz fun h' O' sb => h _ ?_
  have hd : ∃ o, h'.get? dx = some o := let ⟨o, _, _, e', _⟩ := O'.ns; ⟨o, e'⟩
  refine I.write (x := a) (e := dx) (by rw [e]; exact True.intro) (.inr ho) (fun b q hb z => (sb.2 b hb).trans z) hd ?_
  refine ⟨by rw [upd_ne O.ne]; exact ho, ?_, O.ne, O'.obj, _, O'.ns, fun g => ?_, fun g hg => ?_⟩
  · have := length_putF f y fs; omega
  · show RelO ((putF f y fs).lookup g) (if g = f then some u else mA g)
    rw [lookup_putF]
    by_cases q : g = f
    · rw [if_pos q, if_pos q]; exact ry
    · rw [if_neg q, if_neg q]; exact r g
  · by_cases q : g = f
    · rw [q]; exact (keys_putF f y fs).1
    · refine (keys_putF f y fs).2 g (wi g fun z => hg ?_)
      show (if g = f then some u else mA g) = none
      rw [if_neg q]; exact z
theorem Inv.made (I : Inv X pins σ H s) : Inv X pins σ (upd (upd H s.heap.objs.size (.own (s.heap.objs.size + 1))) (s.heap.objs.size + 1) (.ins C s.heap.objs.size []))
    { s with heap := (s.heap.push PySem.W.emptyDict).push (PySem.W.instObj C s.heap.objs.size) } := by
  have e1 : (s.heap.push PySem.W.emptyDict).get? s.heap.objs.size = some PySem.W.emptyDict := Heap.get?_push_size s.heap rfl
  have e2 : ((s.heap.push PySem.W.emptyDict).push (PySem.W.instObj C s.heap.objs.size)).get? (s.heap.objs.size + 1) = some (PySem.W.instObj C s.heap.objs.size) := by
    have := Heap.get?_push_size (s.heap.push PySem.W.emptyDict) (o := PySem.W.instObj C s.heap.objs.size) rfl
    rwa [Heap.size_push] at this
  have e3 : (s.heap.push PySem.W.emptyDict).Ns s.heap.objs.size (fun _ => none) := ⟨PySem.W.emptyDict, #[], _, e1, rfl, (fun e he => absurd he (by simp)), fun _ => rfl⟩
  have I1 := I.laid (a := s.heap.objs.size) (o := .own (s.heap.objs.size + 1)) (h' := s.heap.push PySem.W.emptyDict) (t' := s.toks) (fun b u q => Heap.get?_push_of_some _ q) (Nat.le_refl _) ⟨_, e1⟩
  refine I1.laid (a := s.heap.objs.size + 1) (o := .ins C s.heap.objs.size []) (t' := s.toks) (fun b u q => Heap.get?_push_of_some _ q) (Nat.le_of_eq (Heap.size_push _ _)) ?_
  have ne : s.heap.objs.size ≠ s.heap.objs.size + 1 := Nat.ne_of_lt (Nat.lt_succ_self _)
  refine ⟨by rw [upd_ne ne, upd_same], Nat.zero_le _, ne, e2, fun _ => none, (Heap.Ns1.of_empty e3).at fun o q => Heap.get?_push_of_some _ q, fun _ => True.intro, fun y hy => absurd rfl hy⟩
theorem attr_of {prog : Program} {w : World} {env : Env} {e : Expr} {f : Str} {pos : Pos} {s : Shared} {Q : Value → Shared → Prop} (hb : attributeBase e f env (eval e env) = eval e env)
    (h : wpAny (model prog w) A (eval e env) (fun o s₁ => wpAny (model prog w) A (getAttr o f true) Q E s₁) E s) : wpAny (model prog w) A (eval (.Attribute e f pos) env) Q E s :=
  Attribute_any_ h (by rw [arm_eval_Attribute, hb])
end
def sFld (K : PySem.W.Frag) (ta tv : TE) (f : Str) : TS := fun D σ H => tv σ H fun y H1 => ta σ H1 fun x H2 => ∃ a C dx fs, x = .ref a ∧ H2 a = some (.ins C dx fs) ∧ Cls K C ∧ NoAttr K C f ∧ fs.length < 1000 ∧
  D.nx σ (upd H2 a (.ins C dx (putF f y fs)))
section
variable {X : Cx} {o e value : Expr} {f : Str} {pos pos' tpos : Pos} {ta tv : TE}
theorem ps_fld (ha : PE X o ta) (hv : PE X value tv) (hs : swapsWith value (some (.Attribute o f pos')) pos.line X.env = pure false) : PS X (.Assign [.Attribute o f pos'] value pos) (sFld X.K ta tv f) := by
  intro pins s σ H D I h
  refine plainObj_wpAny_Assign_Attribute (thn (hv pins s σ H _ I h) fun u s1 ⟨y, H1, I1, ry, q⟩ => thn (ha pins s1 σ H1 _ I1 q) fun ov s2 ⟨x, H2, I2, rx, a, C, dx, fs, ex, ea, c, n, l, q2⟩ => ?_) hs
  subst ex
  obtain rfl : ov = Value.ref a := rx
  exact setattr_ok I2 ea c n l ry fun s3 I3 => ⟨σ, _, I3, q2⟩
end
section
variable {X : Cx} {pins : List (Addr × Obj)} {σ : St} {H : Hp} {s : Shared} {A : Around} {E : Value → Shared → Prop} {Q : Value → Shared → Prop} {c : Value} {b : Bool}
end
end L2
namespace L2
open PySem PySem.Spec PyProof.Rows
structure Room (k : Nat) (A : Around) : Prop where
  hd : A.handled = none
  dp : A.depth + 3 * k + 5 < recursionLimit
  un : A.units + 16 * k + 200 < cLine
theorem Room.mono {j k : Nat} {A : Around} (r : Room k A) (h : j ≤ k) : Room j A := ⟨r.hd, by have := r.dp; omega, by have := r.un; omega⟩
theorem Room.deeper {k : Nat} {A : Around} (r : Room (k + 1) A) (env : Env) : Room k (A.deeper env) :=
  ⟨r.hd, by have := r.dp; show A.depth + 1 + 3 * k + 5 < _; omega, by have := r.un; show A.units + 3 + 16 * k + 200 < _; omega⟩
theorem make_depth {A : Around} {C : Addr} {us : List Value} {kw : List (Str × Value)} : (A.under (.builtin "type.__call__" ⟨.ref C :: us, kw⟩)).depth = A.depth + 1 := by
  first | rfl | simp [Around.under, Code.weight, Code.isCreation, Code.isGuard, Code.isCaller, Code.frames, Code.isFrame, guardIds]
theorem make_units {A : Around} {C : Addr} {us : List Value} {kw : List (Str × Value)} : (A.under (.builtin "type.__call__" ⟨.ref C :: us, kw⟩)).units = A.units + 1 := by
  first | rfl | simp [Around.under, Code.cUnits, Code.frames, Code.isFrame]
theorem Room.make {k : Nat} {A : Around} (r : Room (k + 1) A) (C : Addr) (us : List Value) (kw : List (Str × Value)) : Room k (A.under (.builtin "type.__call__" ⟨.ref C :: us, kw⟩)) :=
  ⟨r.hd, by have := r.dp; rw [make_depth]; omega, by have := r.un; rw [make_units]; omega⟩
theorem Room.depth {k : Nat} {A : Around} (r : Room k A) : A.depth < recursionLimit := by have := r.dp; omega
theorem Room.units {k : Nat} {A : Around} (r : Room k A) : A.units + 64 < cLine := by have := r.un; omega
def tNil : TA := fun _ H Q => Q [] H
def tCons (ta : TE) (tr : TA) : TA := fun σ H Q => ta σ H fun x H1 => tr σ H1 fun xs H2 => Q (x :: xs) H2
section
variable {X : Cx} {e : Expr} {es : List Expr} {te : TE} {t : TA} {pos : Pos}
theorem pa_nil : PA X [] tNil := fun _ _ _ _ H Q I h => Calls.spliced_nil ⟨[], H, I, .nil, h⟩
theorem pa_cons (ha : PE X e te) (hr : PA X es t) (hs : starEach (e :: es) X.env = (false, eval e X.env) :: starEach es X.env := by rfl) : PA X (e :: es) (tCons te t) := by
  intro pos pins s σ H Q I h
  rw [hs]
  show wpAny _ _ (spliced ((false, eval e X.env) :: backTo pos (starEach es X.env))) _ _ s
  refine Calls.spliced_cons (thn (ha pins s σ H _ I h) fun u s1 ⟨x, H1, I1, r1, q1⟩ => ?_)
  exact thn (hr pos pins s1 σ H1 _ I1 q1) fun us s2 ⟨xs, H2, I2, r2, q2⟩ => ⟨x :: xs, H2, I2, .cons r1 r2, q2⟩
def tTup (t : TA) : TE := fun σ H Q => t σ H fun xs H1 => xs.length ≤ sizeLine ∧ ∀ p, H1 p = none → Q (.ref p) (upd H1 p (.tup xs))
def tLst (t : TA) : TE := fun σ H Q => t σ H fun xs H1 => xs.length ≤ sizeLine ∧ ∀ p, H1 p = none → Q (.ref p) (upd H1 p (.lst xs))
theorem pe_tup {x1} (h : PA X es t) : PE X (.Tuple es x1 pos) (tTup t) := by
  intro pins s σ H Q I hq
  refine wpAny_Tuple_spliced (thn (h pos pins s σ H _ I hq) fun us s1 ⟨xs, H1, I1, r, z, q⟩ => ⟨by rw [← r.length]; exact z, ?_⟩)
  have hf : H1 s1.heap.objs.size = none := I1.hok.fresh (Nat.le_refl _)
  refine ⟨.ref s1.heap.objs.size, upd H1 s1.heap.objs.size (.tup xs), I1.laid (t' := s1.toks) (fun b u e => Heap.get?_push_of_some _ e) (Nat.le_refl _) ?_, rfl, q _ hf⟩
  exact ⟨z, us, r, ⟨_, Heap.get?_push_size _ rfl, rfl, _, rfl⟩⟩
theorem pe_lst (h : PA X es t) : PE X (.List es pos) (tLst t) := by
  intro pins s σ H Q I hq
  refine wpAny_List_spliced (thn (h pos pins s σ H _ I hq) fun us s1 ⟨xs, H1, I1, r, z, q⟩ => ⟨by rw [← r.length]; exact z, ?_⟩)
  have hf : H1 s1.heap.objs.size = none := I1.hok.fresh (Nat.le_refl _)
  refine ⟨.ref s1.heap.objs.size, upd H1 s1.heap.objs.size (.lst xs), I1.laid (t' := s1.toks) (fun b u e => Heap.get?_push_of_some _ e) (Nat.le_refl _) ?_, rfl, q _ hf⟩
  exact ⟨z, us, 0, r, Heap.get?_push_size _ rfl⟩
end
abbrev Sp := List V → Hp → VK → XK → Prop
abbrev CXT := List Env → Hp → Shared → XK → Value → Shared → Prop
structure Env0 (P : Program) (w : World) (K : PySem.W.Frag) (mg : Str → Option Value) (base : Heap) (A : Around) (outer : List Env) (s : Shared) (H : Hp) : Prop where
  frames : A.frames = some outer
  mod : Mod K mg base
  bs : ∀ b o, base.get? b = some o → s.heap.get? b = some o ∧ H b = none
  bsz : base.objs.size ≤ s.heap.objs.size
  funs : s.heap.FunFrames base outer
  frf : ∀ b ∈ frs outer, H b = none
  hok : HOk P w H s.heap
  bare : AllBare s.gens
def CE (outer : List Env) (P : Program) (w : World) (H : Hp) (s : Shared) (Q : VK) (u : Value) (s' : Shared) : Prop :=
  ∃ v H', s'.os = s.os ∧ AllBare s'.gens ∧ Un (frs outer) [] H H' s.heap s'.heap ∧ HOk P w H' s'.heap ∧ RelV v u ∧ Q v H'
def CR (CX : CXT) (outer : List Env) (P : Program) (w : World) (H : Hp) (s : Shared) (Q : VK) (E : XK) (r : Result) (s' : Shared) : Prop :=
  match r with
  | .ok (.ret u) => CE outer P w H s Q u s'
  | .ok _ => False
  | .error e => CX outer H s E e s'
structure FnOk (P : Program) (w : World) (K : PySem.W.Frag) (mg : Str → Option Value) (base : Heap) (CX : CXT) (k : Nat) (f : Addr) (fd : FuncData) (ps : List Str) (sp : Sp) : Prop where
  len : ∀ vs H Q E, sp vs H Q E → vs.length = ps.length
  run : ∀ (A : Around) (outer : List Env) (s : Shared) (H : Hp) (args : Args) (us : List Value) (vs : List V) (Q : VK) (E : XK), Room k A → Env0 P w K mg base A outer s H → BindsTo s fd args (ps.zip us) → Vals vs us → sp vs H Q E →
    codeAny (model P w) A (.call (.ref f) args) (CR CX outer P w H s Q E) s
theorem FnOk.mono {P : Program} {w : World} {K : PySem.W.Frag} {mg : Str → Option Value} {base : Heap} {CX : CXT} {j k : Nat} {f : Addr} {fd : FuncData} {ps : List Str} {sp : Sp} (F : FnOk P w K mg base CX j f fd ps sp) (h : j ≤ k) :
    FnOk P w K mg base CX k f fd ps sp := ⟨F.len, fun A outer s H args us vs Q E hr => F.run A outer s H args us vs Q E (hr.mono h)⟩
theorem FnOk.imp {P : Program} {w : World} {K : PySem.W.Frag} {mg : Str → Option Value} {base : Heap} {CX : CXT} {k : Nat} {f : Addr} {fd : FuncData} {ps : List Str} {sp sp' : Sp} (F : FnOk P w K mg base CX k f fd ps sp)
    (h : ∀ vs H Q E, sp' vs H Q E → sp vs H Q E) : FnOk P w K mg base CX k f fd ps sp' :=
  ⟨fun vs H Q E q => F.len vs H Q E (h _ _ _ _ q), fun A outer s H args us vs Q E hr he hb hv hs => F.run A outer s H args us vs Q E hr he hb hv (h _ _ _ _ hs)⟩
theorem Env0.make {P : Program} {w : World} {K : PySem.W.Frag} {mg : Str → Option Value} {base : Heap} {A : Around} {outer : List Env} {s : Shared} {H : Hp} (e : Env0 P w K mg base A outer s H) (C : Addr) (us : List Value) (kw : List (Str × Value)) :
    Env0 P w K mg base (A.under (.builtin "type.__call__" ⟨.ref C :: us, kw⟩)) outer s H := ⟨by first | exact e.frames | (simpa [Around.under, Code.envs, Code.isFrame, pushEnvs] using e.frames), e.mod, e.bs, e.bsz, e.funs, e.frf, e.hok, e.bare⟩
section
variable {X : Cx} {pins : List (Addr × Obj)} {σ : St} {H : Hp} {s s' : Shared}
theorem Inv.env0 (I : Inv X pins σ H s) : Env0 X.prog X.w X.K X.mg X.base X.A X.stack s H :=
  ⟨I.ok.frames, I.ok.mod, I.bs, Nat.le_trans I.ok.bsz I.sz, I.stack, I.stkFree, I.hok, I.bare⟩
theorem Inv.after {Q : VK} {u : Value} (I : Inv X pins σ H s) (h : CE X.stack X.prog X.w H s Q u s') : EP X pins σ Q u s' := by
  obtain ⟨v, H', os, bare, un, hok, r, q⟩ := h
  obtain ⟨hh, g, d, t, os'⟩ := s'
  obtain rfl : os' = s.os := os
  exact ⟨v, H', I.call (h' := hh) (g' := g) (d' := d) (t' := t) (ch := []) un hok bare (fun b z => absurd z (by simp)), r, q⟩
end
def tCall (sp : Sp) (dvs : List V) (E : XK) (t : TA) : TE := fun σ H Q => t σ H fun vs H1 => sp (vs ++ dvs) H1 Q E
def tMake (C : Addr) (sp : Sp) (dvs : List V) (E : XK) (t : TA) : TE := fun σ H Q => t σ H fun vs H1 => ∀ x dx, H1 x = none → H1 dx = none → dx ≠ x →
  sp (.ref x :: (vs ++ dvs)) (upd (upd H1 dx (.own x)) x (.ins C dx [])) (fun v H2 => v = .non ∧ Q (.ref x) H2) E
def Binds (K : PySem.W.Frag) (fd : FuncData) (ps : List Str) (ds : List Value) : Prop :=
  ∀ (s : Shared) (us : List Value), K.In s.heap → (us ++ ds).length = ps.length → BindsTo s fd ⟨us, []⟩ (ps.zip (us ++ ds))
theorem Binds.all {K : PySem.W.Frag} {fd : FuncData} {ps : List Str} (h : ∀ us : List Value, us.length = ps.length → bindArgs fd ⟨us, []⟩ = pure (ps.zip us)) : Binds K fd ps [] := fun s us _ hl => by
  rw [List.append_nil] at hl ⊢
  exact .of_eq (h us hl)
def Passes (CX : CXT) (X : Cx) (E : XK) : Prop := ∀ (pins : List (Addr × Obj)) (σ : St) (H : Hp) (s : Shared) (e : Value) (s' : Shared), Inv X pins σ H s → CX X.stack H s E e s' → X.xe e s'
section
variable {X : Cx} {CX : CXT} {k : Nat} {f C : Addr} {fd : FuncData} {ps : List Str} {sp : Sp} {dvs : List V} {ds : List Value} {E : XK} {x m : Str} {p pos apos : Pos} {e o : Expr} {es : List Expr} {ta : TE} {t : TA}
theorem run_fn {pins : List (Addr × Obj)} {σ : St} {H : Hp} {s : Shared} {Q : VK} {us : List Value} {vs : List V} (F : FnOk X.prog X.w X.K X.mg X.base CX k f fd ps sp) (hr : Room k X.A) (hb : Binds X.K fd ps ds) (hd : Vals dvs ds) (hx : Passes CX X E)
    (I : Inv X pins σ H s) (r : Vals vs us) (h : sp (vs ++ dvs) H Q E) : wpAny (model X.prog X.w) X.A (call (.ref f) us) (EP X pins σ Q) X.xe s := by
  have r2 : Vals (vs ++ dvs) (us ++ ds) := r.append hd
  have hl : (us ++ ds).length = ps.length := by rw [← r2.length]; exact F.len _ _ _ _ h
  refine wpAny_call (codeAny_mono (F.run X.A X.stack s H ⟨us, []⟩ (us ++ ds) (vs ++ dvs) Q E hr I.env0 (hb s us I.kIn hl) r2 h) fun r s' hq => ?_)
  cases r with
  | error e => exact hx pins σ H s e s' I hq
  | ok fl =>
    cases fl with
    | ret u => exact I.after hq
    | next => exact False.elim hq
    | brk => exact False.elim hq
    | cont => exact False.elim hq
theorem pe_call (F : FnOk X.prog X.w X.K X.mg X.base CX k f fd ps sp) (hr : Room k X.A) (hg : Gl X x) (hm : X.mg x = some (.ref f)) (hk : PySem.W.keepIn X.K (.ref f) = true) (hb : Binds X.K fd ps ds) (hd : Vals dvs ds) (hx : Passes CX X E)
    (ha : PA X (e :: es) t) (hdb : (x == ("__debug__" : Str)) = false := by decide) (he : starEach (e :: es) X.env = (false, eval e X.env) :: starEach es X.env := by rfl) (hpl : (backTo pos (starEach es X.env)).any (·.1) = false := by rfl) :
    PE X (.Call (.Name x p) (e :: es) [] pos) (tCall sp dvs E t) := by
  intro pins s σ H Q I h
  refine wpAny_Call_Name_kw (ld_glob I hg hm ?_ hdb)
  refine PySem.W.callWith_K (h₀ := X.base) I.ok.mod.kin hk (thn (ha pos pins s σ H _ I h) fun us s1 ⟨vs, H1, I1, r, q⟩ => ⟨I1.kIn, ?_⟩) he hpl
  exact run_fn F hr hb hd hx I1 r q
structure Mk (K : PySem.W.Frag) (C f : Addr) : Prop where
  makes : PySem.W.makesIn K C = true
  init : PySem.W.findIn K (.ref C) "__init__" = some (some (.ref f))
  fn : PySem.W.isFn K (.ref f) = true
  kp : PySem.W.keepIn K (.ref C) = true
theorem run_make {pins : List (Addr × Obj)} {σ : St} {H : Hp} {s : Shared} {Q : VK} {us : List Value} {vs : List V} (M : Mk X.K C f) (F : FnOk X.prog X.w X.K X.mg X.base CX k f fd ps sp) (hr : Room (k + 1) X.A) (hb : Binds X.K fd ps ds) (hd : Vals dvs ds)
    (hx : Passes CX X E) (I : Inv X pins σ H s) (r : Vals vs us)
    (h : ∀ x dx, H x = none → H dx = none → dx ≠ x → sp (.ref x :: (vs ++ dvs)) (upd (upd H dx (.own x)) x (.ins C dx [])) (fun v H2 => v = .non ∧ Q (.ref x) H2) E) :
    wpAny (model X.prog X.w) X.A (call (.ref C) us) (EP X pins σ Q) X.xe s := by
  have hq := h (s.heap.objs.size + 1) s.heap.objs.size (I.hok.fresh (Nat.le_succ _)) (I.hok.fresh (Nat.le_refl _)) (Nat.ne_of_lt (Nat.lt_succ_self _))
  have I2 := Inv.made (C := C) I
  have r2 : Vals (V.ref (s.heap.objs.size + 1) :: (vs ++ dvs)) (Value.ref (s.heap.objs.size + 1) :: (us ++ ds)) := .cons rfl (r.append hd)
  have hl : (Value.ref (s.heap.objs.size + 1) :: us ++ ds).length = ps.length := by
    have e := r2.length
    rw [F.len _ _ _ _ hq] at e
    exact e.symm
  refine wpAny_call (make_map (f := f) I.kIn M.makes M.init (beq_iff_eq.mp M.fn) (codeAny_mono (F.run _ X.stack _ _ ⟨Value.ref (s.heap.objs.size + 1) :: us, []⟩ (Value.ref (s.heap.objs.size + 1) :: (us ++ ds)) _ _ E (hr.make C us [])
    (I2.env0.make C us []) (hb _ (Value.ref (s.heap.objs.size + 1) :: us) I2.kIn hl) r2 hq) fun r s' hq' => ?_))
  cases r with
  | error e => exact hx pins σ _ _ e s' I2 hq'
  | ok fl =>
    cases fl with
    | ret u =>
      obtain ⟨v, H', I3, rv, ev, q3⟩ := I2.after hq'
      subst ev
      exact ⟨rv, ⟨V.ref (s.heap.objs.size + 1), H', I3, rfl, q3⟩⟩
    | next => exact False.elim hq'
    | brk => exact False.elim hq'
    | cont => exact False.elim hq'
theorem pe_make (M : Mk X.K C f) (F : FnOk X.prog X.w X.K X.mg X.base CX k f fd ps sp) (hr : Room (k + 1) X.A) (hg : Gl X x) (hm : X.mg x = some (.ref C)) (hb : Binds X.K fd ps ds) (hd : Vals dvs ds) (hx : Passes CX X E)
    (ha : PA X (e :: es) t) (hdb : (x == ("__debug__" : Str)) = false := by decide) (he : starEach (e :: es) X.env = (false, eval e X.env) :: starEach es X.env := by rfl) (hpl : (backTo pos (starEach es X.env)).any (·.1) = false := by rfl) :
    PE X (.Call (.Name x p) (e :: es) [] pos) (tMake C sp dvs E t) := by
  intro pins s σ H Q I h
  refine wpAny_Call_Name_kw (ld_glob I hg hm ?_ hdb)
  refine PySem.W.callWith_K (h₀ := X.base) I.ok.mod.kin M.kp (thn (ha pos pins s σ H _ I h) fun us s1 ⟨vs, H1, I1, r, q⟩ => ⟨I1.kIn, ?_⟩) he hpl
  exact run_make M F hr hb hd hx I1 r q
end
def PK (X : Cx) (kws : List Keyword) (t : TA) : Prop :=
  ∀ (pos : Pos) (pins : List (Addr × Obj)) (s : Shared) (σ : St) (H : Hp) (Q : List V → Hp → Prop), Inv X pins σ H s → t σ H Q → wpAny (model X.prog X.w) X.A (evalAll ((backToKw pos (keywordEach kws X.env)).map (·.2))) (AP X pins σ Q) X.xe s
section
variable {X : Cx} {CX : CXT} {k : Nat} {f C : Addr} {fd : FuncData} {ps ks : List Str} {sp : Sp} {E : XK} {x m : Str} {p pos apos kpos : Pos} {e o : Expr} {es : List Expr} {kws : List Keyword} {te ta : TE} {t tk : TA} {nm : Option Str}
theorem pk_nil : PK X [] tNil := fun _ _ _ _ H Q I h => wpAny_evalAll_nil ⟨[], H, I, .nil, h⟩
theorem pk_cons (ha : PE X e te) (hr : PK X kws t) : PK X (⟨nm, e, kpos⟩ :: kws) (tCons te t) := by
  intro pos pins s σ H Q I h
  show wpAny _ _ (evalAll ((do let v ← eval e X.env; standAt pos; pure v) :: (backToKw pos (keywordEach kws X.env)).map (·.2))) _ _ s
  refine wpAny_evalAll_cons (wpAny_bind (thn (ha pins s σ H _ I h) fun u s1 ⟨x, H1, I1, r1, q1⟩ => wpAny_bind (wpAny_standAt (wpAny_pure ?_))))
  exact thn (hr pos pins s1 σ H1 _ I1 q1) fun us s2 ⟨xs, H2, I2, r2, q2⟩ => ⟨x :: xs, H2, I2, .cons r1 r2, q2⟩
variable {g : List Value → List Value → List Value} {gV : List V → List V → List V}
end
structure FnScope (N P : List Str) (sc : Scope) : Prop where
  kind : sc.kind = .function
  co : sc.isCoroutine = false
  gen : sc.isGenerator = false
  nd : N.Nodup
  pre : N.take P.length = P
  par : ∀ x ∈ P, sc.names.lookup x = some .local ∨ sc.names.lookup x = some .cell
  nofree : ∀ y ∈ sc.names, y.2 ≠ .free
theorem bindL_out {kindOf : Str → Option NameKind} {x : Str} : ∀ {binds : List (Str × Value)} {m : Str → Option Value}, (∀ v, (x, v) ∉ binds) → bindL kindOf binds m x = m x
  | [], _, _ => rfl
  | (n, v) :: r, m, h => by
    unfold bindL
    rw [bindL_out fun w hw => h w (List.mem_cons_of_mem _ hw)]
    split
    · have : x ≠ n := by rintro rfl; exact h v List.mem_cons_self
      simp [this]
    · rfl
theorem bindC_out {kindOf : Str → Option NameKind} {x : Str} : ∀ {binds : List (Str × Value)} {m : Str → Option Value}, (∀ v, (x, v) ∉ binds) → bindC kindOf binds m x = m x
  | [], _, _ => rfl
  | (n, v) :: r, m, h => by
    unfold bindC
    rw [bindC_out fun w hw => h w (List.mem_cons_of_mem _ hw)]
    split
    · rfl
    · have : x ≠ n := by rintro rfl; exact h v List.mem_cons_self
      simp [this]
theorem bindL_get {kindOf : Str → Option NameKind} {x : Str} {v : Value} : ∀ {P : List Str} {vs : List Value} {i : Nat} {m : Str → Option Value}, P.Nodup → P[i]? = some x → vs[i]? = some v → kindOf x = some .local →
    bindL kindOf (P.zip vs) m x = some v
  | [], _, _, _, _, h, _, _ => by simp at h
  | _ :: _, [], _, _, _, _, h, _ => by simp at h
  | p :: P, w :: vs, 0, m, nd, h1, h2, hk => by
    simp at h1 h2; subst h1; subst h2
    show bindL kindOf ((p, w) :: P.zip vs) m p = _
    unfold bindL
    rw [bindL_out fun v hv => (List.nodup_cons.mp nd).1 (List.of_mem_zip hv).1, if_pos hk]
    simp
  | p :: P, w :: vs, i + 1, m, nd, h1, h2, hk => by
    show bindL kindOf ((p, w) :: P.zip vs) m x = _
    unfold bindL
    exact bindL_get (i := i) (List.nodup_cons.mp nd).2 (by simpa using h1) (by simpa using h2) hk
theorem bindC_get {kindOf : Str → Option NameKind} {x : Str} {v : Value} : ∀ {P : List Str} {vs : List Value} {i : Nat} {m : Str → Option Value}, P.Nodup → P[i]? = some x → vs[i]? = some v → kindOf x ≠ some .local →
    bindC kindOf (P.zip vs) m x = some v
  | [], _, _, _, _, h, _, _ => by simp at h
  | _ :: _, [], _, _, _, _, h, _ => by simp at h
  | p :: P, w :: vs, 0, m, nd, h1, h2, hk => by
    simp at h1 h2; subst h1; subst h2
    show bindC kindOf ((p, w) :: P.zip vs) m p = _
    unfold bindC
    rw [bindC_out fun v hv => (List.nodup_cons.mp nd).1 (List.of_mem_zip hv).1, if_neg hk]
    simp
  | p :: P, w :: vs, i + 1, m, nd, h1, h2, hk => by
    show bindC kindOf ((p, w) :: P.zip vs) m x = _
    unfold bindC
    exact bindC_get (i := i) (List.nodup_cons.mp nd).2 (by simpa using h1) (by simpa using h2) hk
def start (N : List Str) (vs : List V) : St := vs.map some ++ List.replicate (N.length - vs.length) none
def cxOf (CX : CXT) (P : Program) (w : World) (K : PySem.W.Frag) (mg : Str → Option Value) (base : Heap) (N : List Str) (qual : Str) (scope : Scope) (f : Addr) (cd : Value) (A : Around) (outer : List Env) (s : Shared) (H : Hp) (E : XK) : Cx where
  prog := P
  w := w
  K := K
  mg := mg
  base := base
  A := A.deeper (envOfC qual scope s.heap.objs.size f cd)
  N := N
  s₀ := s
  H₀ := H
  env := envOfC qual scope s.heap.objs.size f cd
  outer := outer
  stack := envOfC qual scope s.heap.objs.size f cd :: outer
  ex := []
  calm := true
  fn := fun _ => true
  pn := []
  xe := fun e s' => wpAny (model P w) (A.deeper (envOfC qual scope s.heap.objs.size f cd)) (leaving (envOfC qual scope s.heap.objs.size f cd) e) (fun _ s'' => CX outer H s E e s'') (fun e' s'' => CX outer H s E e' s'') s'
theorem cell_has {sc : Scope} {n : Nat} {x : Str} (h : sc.names.lookup x = some .cell) : ∃ c, (cellsFrom n sc.names []).lookup x = some c := by
  have q := PySem.W.cellsFrom_some sc.names n [] (.inl h)
  exact Option.isSome_iff_exists.mp q
theorem inv_start {CX : CXT} {P : Program} {w : World} {K : PySem.W.Frag} {mg : Str → Option Value} {base : Heap} {N ps : List Str} {qual : Str} {scope : Scope} {f : Addr} {cd : Value} {A : Around} {outer : List Env} {s s1 : Shared} {H : Hp} {E : XK} {us : List Value} {vs : List V}
    (S : FnScope N ps scope) (hd : A.handled = none) (e0 : Env0 P w K mg base A outer s H) (hl : vs.length = ps.length) (r : Vals vs us)
    (x : InCallC s s.heap.objs.size (bindL (envOfC qual scope s.heap.objs.size f cd).kindOf (ps.zip us) fun _ => none) (cellsFrom (s.heap.objs.size + 1) scope.names []) (bindC (envOfC qual scope s.heap.objs.size f cd).kindOf (ps.zip us) fun _ => none) s1) :
    Inv (cxOf CX P w K mg base N qual scope f cd A outer s H E) [] (start N vs) H s1 := by
  have hpl : ps.length ≤ N.length := by have := congrArg List.length S.pre; rw [List.length_take] at this; omega
  obtain ⟨h1, tk, rfl, hk⟩ := x.done
  have noA : ∀ b : Addr, b ∉ (cxOf CX P w K mg base N qual scope f cd A outer s H E).ex := fun b z => absurd (show b ∈ ([] : List Addr) from z) (by simp)
  refine ⟨⟨e0.mod, S.kind, rfl, rfl, Nat.le_refl _, fun y z c h1 h2 => ?_, fun y hy => ?_, fun y c _ h => ?_, fun _ => hd, Around.frames_deeper e0.frames, .inr ⟨rfl, rfl⟩, fun b z => absurd z (noA b), e0.bs, e0.bsz, fun b _ _ => noA b, fun b z => absurd z (noA b), e0.funs, e0.frf⟩,
    rfl, e0.bare, Un.kept hk, ⟨_, x.toInCall.ns, fun i y v h1 h2 h3 => ?_⟩, fun y c h => ⟨_, x.cell y c h⟩, e0.hok.fresh (Nat.le_refl _), fun y c h => ?_, fun p hp => absurd (show p ∈ ([] : List (Addr × Obj)) from hp) (by simp), e0.hok.kept hk, ?_⟩
  · exact name_of_addr x.apart (PySem.mem_of_lookup h1) (PySem.mem_of_lookup h2)
  · have hy : scope.names.lookup y = some .cell ∨ scope.names.lookup y = some .free := hy
    rcases hy with hy | hy
    · exact cell_has hy
    · exact absurd rfl (S.nofree _ (PySem.mem_of_lookup hy))
  · exact Nat.le_of_lt (x.above y c (PySem.mem_of_lookup h))
  · have hi : i < vs.length := by
      unfold start at h2
      by_cases hi : i < vs.length
      · exact hi
      · rw [List.getElem?_append_right (by simpa using hi)] at h2
        rw [List.getElem?_replicate] at h2
        split at h2 <;> cases h2
    have ha : vs[i]? = some v := by
      unfold start at h2
      rw [List.getElem?_append_left (by simpa using hi), List.getElem?_map] at h2
      cases e : vs[i]? with
      | none => rw [e] at h2; cases h2
      | some a => rw [e] at h2; cases h2; rfl
    obtain ⟨u, hu, rv⟩ := r.get ha
    have hp : ps[i]? = some y := by
      rw [← S.pre, List.getElem?_take_of_lt (by omega)]; exact h1
    have ndP : ps.Nodup := by rw [← S.pre]; exact S.nd.sublist (List.take_sublist _ _)
    refine ⟨u, rv, ?_⟩
    rcases S.par y (List.mem_of_getElem? hp) with k | k
    · exact .inl ⟨k, bindL_get ndP hp hu k⟩
    · obtain ⟨c, e⟩ := cell_has (n := s.heap.objs.size + 1) k
      refine .inr ⟨.inl k, c, e, ?_⟩
      have q := x.cell y c e
      rw [bindC_get ndP hp hu (by show scope.names.lookup y ≠ _; rw [k]; decide)] at q
      exact q
  · exact e0.hok.fresh (Nat.le_of_lt (x.above y c (PySem.mem_of_lookup h)))
  · unfold start
    show _ = N.length
    rw [List.length_append, List.length_map, List.length_replicate]
    omega
theorem fn_of {CX : CXT} {P : Program} {w : World} {K : PySem.W.Frag} {mg : Str → Option Value} {base : Heap} {k : Nat} {f : Addr} {name qual : Str} {params : Arguments} {body : List Stmt} {scope : Scope} {dV kV doc pm cdv ct oc : Value} {an od : Option Addr}
    {osl : Array (Option Value)} {N ps : List Str} {sp : Sp} (lk : K.lookup f = some ⟨oc, od, .func (PySem.W.fnOf name qual params body scope dV kV doc pm an cdv ct), osl⟩) (hcd : PySem.W.codeIn K cdv qual = true) (S : FnScope N ps scope)
    (len : ∀ vs H Q E, sp vs H Q E → vs.length = ps.length)
    (hbody : ∀ (A : Around) (outer : List Env) (s : Shared) (H : Hp) (vs : List V) (Q : VK) (E : XK), Room k (A.deeper (envOfC qual scope s.heap.objs.size f cdv)) → sp vs H Q E →
      ∃ t, PSs (cxOf CX P w K mg base N qual scope f cdv A outer s H E) body t ∧ t { nx := fun _ H' => Q .non H', rt := Q } (start N vs) H) :
    FnOk P w K mg base CX (k + 1) f (PySem.W.fnOf name qual params body scope dV kV doc pm an cdv ct) ps sp := by
  refine ⟨len, fun A outer s H args us vs Q E hr e0 hb r hsp => ?_⟩
  have hl := len _ _ _ _ hsp
  have KX : K.In s.heap := e0.mod.kin.keeps fun b o e => (e0.bs b o e).1
  have lim : s.heap.NoLimit := e0.mod.nolimit.keeps fun b o e => (e0.bs b o e).1
  have hkind : ∀ y ∈ ps.zip us, scope.names.lookup y.1 = some .local ∨ (scope.names.lookup y.1 = some .cell ∧ ((cellsFrom (s.heap.objs.size + 1) scope.names []).lookup y.1).isSome = true) := fun ⟨n, v⟩ hy => by
    rcases S.par n (List.of_mem_zip hy).1 with q | q
    · exact .inl q
    · exact .inr ⟨q, PySem.W.cellsFrom_some _ _ _ (.inl q)⟩
  refine codeAny_call_function hr.depth (KX _ _ lk) rfl S.co S.gen rfl (PySem.W.codeRec_of KX hcd) (hb _ _ _ _ ?_)
  refine wpAny_newFunctionEnv_cells S.kind hkind fun env he s1 x => ?_
  subst he
  refine ⟨lim.keeps x.toInCall.keep, codeAny_func ?_⟩
  obtain ⟨t, ht, hq⟩ := hbody A outer s H vs Q E (hr.deeper _) hsp
  have I : Inv (cxOf CX P w K mg base N qual scope f cdv A outer s H E) [] (start N vs) H s1 := inv_start S hr.hd e0 hl r x
  refine wpAny_mono (ht [] s1 (start N vs) H _ I hq) (fun fl s' hs => ?_) fun e s' hs => hs
  have fin : ∀ {σ' : St} {H' : Hp} {v : V} {u : Value}, Inv (cxOf CX P w K mg base N qual scope f cdv A outer s H E) [] σ' H' s' → RelV v u → Q v H' → CE outer P w H s Q u s' :=
    fun {σ' H' v u} J rv q => ⟨v, H', J.os, J.bare, J.base, J.hok, rv, q⟩
  cases fl with
  | ret u =>
    obtain ⟨v, σ', H', J, rv, q⟩ := hs
    exact fin J rv q
  | next =>
    obtain ⟨σ', H', J, q⟩ := hs
    exact fin (v := V.non) (u := Value.none) J rfl q
  | brk =>
    obtain ⟨_, _, _, q⟩ := hs
    exact False.elim q
  | cont =>
    obtain ⟨_, _, _, q⟩ := hs
    exact False.elim q
end L2
namespace L2
open PySem PySem.Spec PyProof.Rows
section
variable {X : Cx} {x : Str} {p pos : Pos} {e : Expr} {es : List Expr} {t : TA} {id T : String} {r : List V → Hp → VK → Prop}
def tCB (r : List V → Hp → VK → Prop) (t : TA) : TE := fun σ H Q => t σ H fun vs H1 => r vs H1 Q
theorem pe_callB (hc : CallR X (.builtin id) r) (hg : Gl X x) (hm : X.mg x = none) (hv : bootBuiltins x = some (.builtin id)) (ha : PA X (e :: es) t) (hn : x ≠ "__name__" := by decide) (hdb : (x == ("__debug__" : Str)) = false := by decide)
    (he : starEach (e :: es) X.env = (false, eval e X.env) :: starEach es X.env := by rfl) (hpl : (backTo pos (starEach es X.env)).any (·.1) = false := by rfl) : PE X (.Call (.Name x p) (e :: es) [] pos) (tCB r t) := by
  intro pins s σ H Q I h
  refine wpAny_Call_Name_kw (ld_blt I hg hm hv ?_ hn hdb)
  exact PyProof.Rows.callWith_builtin1 (thn (ha pos pins s σ H _ I h) fun us s1 ⟨vs, H1, I1, r1, q1⟩ => hc pins s1 σ H1 vs us Q I1 r1 q1) he hpl
theorem pe_callTy (hc : CallR X (.type T) r) (hg : Gl X x) (hm : X.mg x = none) (hv : bootBuiltins x = some (.type T)) (ha : PA X (e :: es) t) (hn : x ≠ "__name__" := by decide) (hdb : (x == ("__debug__" : Str)) = false := by decide)
    (he : starEach (e :: es) X.env = (false, eval e X.env) :: starEach es X.env := by rfl) (hpl : (backTo pos (starEach es X.env)).any (·.1) = false := by rfl) : PE X (.Call (.Name x p) (e :: es) [] pos) (tCB r t) := by
  intro pins s σ H Q I h
  refine wpAny_Call_Name_kw (ld_blt I hg hm hv ?_ hn hdb)
  exact PyProof.Rows.callWith_type1 (thn (ha pos pins s σ H _ I h) fun us s1 ⟨vs, H1, I1, r1, q1⟩ => hc pins s1 σ H1 vs us Q I1 r1 q1) he hpl
end
end L2
namespace HT
open PySem PyProof.Rows
section
open PySem.SeqAt
open PySem.AutoSeq1 (wpAny_loadPart')
open PySem.MeetsSeq PySem.MeetsSeq2 PySem.MeetsSeq3
end
section
variable {prog : Program} {w : World} {A : Around} {E : Value → Shared → Prop} {s : Shared}
theorem cat_tup {t b : Addr} {vs ws : List Value} {Q : Value → Shared → Prop} (ht : IsTup s.heap t vs.toArray) (hb : IsTup s.heap b ws.toArray) (hv : vs ≠ [])
    (h1 : ws = [] → Q (.ref t) s) (h2 : ws ≠ [] → Q (.ref s.heap.objs.size) { s with heap := s.heap.push { cls := .type "tuple", data := .seq (vs ++ ws).toArray } })
    (hsz : vs.length + ws.length ≤ sizeLine) : wpAny (model prog w) A (binaryOp .Add (.ref t) (.ref b)) Q E s := by
  obtain ⟨⟨cls, dd, data, sl⟩, ho, hc, n, hd⟩ := id ht
  obtain ⟨⟨cls2, dd2, data2, sl2⟩, ho2, hc2, n2, hd2⟩ := id hb
  simp only at hc hd hc2 hd2
  subst hc hd hc2 hd2
  have e : vs.toArray ++ ws.toArray = (vs ++ ws).toArray := by simp
  by_cases hw : ws = []
  · exact concat_meets ⟨_, ho, rfl⟩ ⟨_, ho2, rfl⟩ noFill_tuple_add seq_tuple_add PySem.F.slot_tuple_add PySem.F.entry_tuple_add (PySem.F.args_tuple_add_2 _ _)
      (tuple_addW1 t b vs.toArray ws.toArray n n2 dd dd2 sl sl2 (by simpa using hv) (by simp [hw])) ⟨ho, ho2, h1 hw⟩
  · refine concat_meets ⟨_, ho, rfl⟩ ⟨_, ho2, rfl⟩ noFill_tuple_add seq_tuple_add PySem.F.slot_tuple_add PySem.F.entry_tuple_add (PySem.F.args_tuple_add_2 _ _)
      (tuple_addW2 t b vs.toArray ws.toArray n n2 dd dd2 sl sl2 (by simpa using hv) (by simpa using hw) (by rw [List.size_toArray, List.size_toArray]; exact hsz)) ⟨ho, ho2, ?_⟩
    rw [e]
    exact h2 hw
def sIx (n d : Nat) : Option Int → Nat
  | none => d
  | some v => if v < 0 then (v + (n : Int)).toNat else min v.toNat n
theorem sIx_nat (n d k : Nat) : sIx n d (some (k : Int)) = min k n := by
  show (if (k : Int) < 0 then ((k : Int) + (n : Int)).toNat else min (k : Int).toNat n) = min k n
  rw [if_neg (by omega), Int.toNat_natCast]
theorem sIx_le (n d : Nat) (hd : d ≤ n) (o : Option Int) : sIx n d o ≤ n := by
  cases o with
  | none => exact hd
  | some v =>
    show (if v < 0 then (v + (n : Int)).toNat else min v.toNat n) ≤ n
    by_cases hv : v < 0
    · rw [if_pos hv]; omega
    · rw [if_neg hv]; exact Nat.min_le_right _ _
theorem clip_eq (v : Int) (n d : Nat) : (if v < 0 then max (v + (n : Int)) 0 else min v (n : Int)) = ((sIx n d (some v) : Nat) : Int) := by
  show (if v < 0 then max (v + (n : Int)) 0 else min v (n : Int)) = (((if v < 0 then (v + (n : Int)).toNat else min v.toNat n) : Nat) : Int)
  by_cases hv : v < 0
  · simp only [if_pos hv]; omega
  · simp only [if_neg hv]; omega
theorem adjust_gen (lo hi : Option Int) (n : Nat) : Builtin.Slice.sliceAdjust lo hi 1 (n : Int) = (((sIx n 0 lo : Nat) : Int), ((sIx n n hi : Nat) : Int)) := by
  have h1 : ¬ ((1 : Int) < 0) := by omega
  unfold Builtin.Slice.sliceAdjust
  simp only [h1, if_false]
  refine Prod.ext ?_ ?_
  · cases lo with
    | none => rfl
    | some v => exact clip_eq v n 0
  · cases hi with
    | none => rfl
    | some v => exact clip_eq v n n
theorem places_gen (i j : Nat) : Builtin.Slice.slicePlaces (i : Int) (j : Int) 1 = j - i := by
  unfold Builtin.Slice.slicePlaces
  have h1 : (1 : Int) > 0 := by omega
  simp only [h1, if_true, Int.ediv_one]
  split <;> omega
theorem slicePart_ {v : Value} {o : Option Int} {Q : Option Int → Shared → Prop} (p : IsPart v o) (h : Q o s) : wpAny (model prog w) A (Builtin.Slice.slicePartIndex v) Q E s := by
  cases p with
  | none => exact slicePart_none h
  | int i t => exact slicePart_int h
theorem sliceApplied_gen {sl : Addr} {vl vu : Value} {lo hi : Option Int} {n : Nat} {Q : Int × Int × Nat → Shared → Prop} (hs : s.heap.IsSliceOf sl vl vu .none) (pl : IsPart vl lo) (pu : IsPart vu hi)
    (h : Q (((sIx n 0 lo : Nat) : Int), 1, sIx n n hi - sIx n 0 lo) s) : wpAny (model prog w) A (Builtin.Slice.sliceApplied (.ref sl) (pure (n : Int))) Q E s := by
  obtain ⟨os, hos, hcs, hds⟩ := id hs
  unfold Builtin.Slice.sliceApplied Builtin.Slice.sliceFields
  refine wpAny_bind (wpAny_bind (wpAny_field hos hds (x := vl) rfl (wpAny_bind (wpAny_field hos hds (x := vu) rfl (wpAny_bind (wpAny_field hos hds (x := .none) rfl (wpAny_pure ?_)))))))
  refine wpAny_bind (slicePart_none ?_)
  show wpAny _ _ (if ((1 : Int) == 0) = true then _ else _) _ _ s
  rw [if_neg (by decide)]
  refine wpAny_bind (slicePart_ pl (wpAny_bind (slicePart_ pu (wpAny_bind (wpAny_pure ?_)))))
  show wpAny _ _ (match Builtin.Slice.sliceAdjust lo hi 1 (n : Int) with | (lo, hi) => pure (lo, (1 : Int), Builtin.Slice.slicePlaces lo hi 1)) _ _ s
  rw [adjust_gen lo hi n]
  show wpAny _ _ (pure (((sIx n 0 lo : Nat) : Int), (1 : Int), Builtin.Slice.slicePlaces ((sIx n 0 lo : Nat) : Int) ((sIx n n hi : Nat) : Int) 1)) _ _ s
  rw [places_gen]
  exact wpAny_pure h
theorem pick_gen (xs : Array Value) (i k : Nat) : ((List.range k).filterMap fun (m : Nat) => xs[((i : Int) + (m : Int) * 1).toNat]?).toArray = ((xs.toList.drop i).take k).toArray := by
  have e : (fun (m : Nat) => xs[((i : Int) + (m : Int) * 1).toNat]?) = fun m => xs[i + m]? := by
    funext m
    have : ((i : Int) + (m : Int) * 1).toNat = i + m := by omega
    rw [this]
  rw [e]
  have := pick_run xs i k
  rw [List.filterMap_map] at this
  have e2 : ((fun x => xs[x]?) ∘ fun x => i + x) = fun m => xs[i + m]? := rfl
  rw [e2] at this
  rw [this]
theorem getItem_tuple_cut {t sl : Addr} {items : Array Value} {vl vu : Value} {lo hi : Option Int} {Q : Value → Shared → Prop} (ht : IsTup s.heap t items) (hs : s.heap.IsSliceOf sl vl vu .none) (pl : IsPart vl lo) (pu : IsPart vu hi)
    (hw : ¬ (sIx items.size 0 lo = 0 ∧ sIx items.size items.size hi = items.size))
    (h : Q (.ref s.heap.objs.size) { s with heap := s.heap.push { cls := .type "tuple", data := .seq ((items.toList.drop (sIx items.size 0 lo)).take (sIx items.size items.size hi - sIx items.size 0 lo)).toArray } })
    (hsz : items.size ≤ sizeLine) : wpAny (model prog w) A (getItem (.ref t) (.ref sl)) Q E s := by
  have htake : sizeOk (.seq ((items.toList.drop (sIx items.size 0 lo)).take (sIx items.size items.size hi - sIx items.size 0 lo)).toArray) := by
    show ((items.toList.drop (sIx items.size 0 lo)).take (sIx items.size items.size hi - sIx items.size 0 lo)).toArray.size ≤ sizeLine
    rw [List.size_toArray, List.length_take, List.length_drop, Array.length_toList]
    omega
  have hj : sIx items.size items.size hi ≤ items.size := sIx_le _ _ (Nat.le_refl _) hi
  obtain ⟨os, hos, hcs, hds⟩ := id hs
  have hTs : s.TypeIs (.ref sl) "slice" := ⟨os, hos, hcs⟩
  unfold getItem
  try with_reducible refine wpAny_holding ?_
  first | refine wpAny_bind (wpAny_pure ?_) | skip
  refine wpAny_bind (wpAny_sequenceKey ht.typeIs (by decide) ?_)
  refine wpAny_bind (wpAny_callSpecial?_slot (name := Str.ofString "__getitem__") ht.typeIs PyProof.Rows.slot_tuple_getitem
    (wpAny_call_entry PyProof.Rows.slot_tuple_getitem ht.typeIs entry_tuple_getitem ?_ (args_tuple_getitem _ _)))
  show wpAny _ _ (Builtin.Tuple.tupleItemsOf (.ref t) >>= _) _ _ s
  refine wpAny_bind (tupleItemsOf_ ht ?_)
  refine wpAny_bind (wpAny_typeOf hTs ?_)
  rw [if_pos (by decide)]
  refine wpAny_bind (sliceApplied_gen hs pl pu ?_)
  have hno : ¬ ((((sIx items.size 0 lo : Nat) : Int) == 0 && (1 : Int) == 1 && (sIx items.size items.size hi - sIx items.size 0 lo) == items.size) = true) := by
    intro q
    rw [Bool.and_eq_true, Bool.and_eq_true] at q
    have q1 : ((sIx items.size 0 lo : Nat) : Int) = 0 := eq_of_beq q.1.1
    have q2 : sIx items.size items.size hi - sIx items.size 0 lo = items.size := eq_of_beq q.2
    exact hw ⟨by omega, by omega⟩
  show wpAny _ _ (if (((sIx items.size 0 lo : Nat) : Int) == 0 && (1 : Int) == 1 && (sIx items.size items.size hi - sIx items.size 0 lo) == items.size) = true then _ else _) _ _ s
  rw [if_neg hno, pick_gen]
  first
    | exact wpAny_bind (m := Builtin.Tuple.tupleExact _) (wpAny_newObj_type (wpAny_pure ⟨_, rfl, wpAny_pure h⟩) htake)
    | exact wpAny_bind (m := Builtin.Tuple.tupleExact _) (wpAny_newObj_type (wpAny_bind (wpAny_pure (wpAny_pure ⟨_, rfl, wpAny_pure h⟩))) htake)
    | exact wpAny_bind (wpAny_bind (m := Builtin.Tuple.tupleExact _) (wpAny_newObj_type (wpAny_pure (wpAny_pure ⟨_, rfl, wpAny_pure h⟩)) htake))
    | exact wpAny_bind (wpAny_bind (m := Builtin.Tuple.tupleExact _) (wpAny_newObj_type (wpAny_pure ⟨_, rfl, wpAny_pure h⟩) htake))
end
end HT
namespace L2
open PySem PySem.Spec PyProof.Rows
abbrev TO := St → Hp → (Option Int → Hp → Prop) → Prop
def PO (X : Cx) (e : Option Expr) (t : TO) : Prop :=
  ∀ (pins : List (Addr × Obj)) (s : Shared) (σ : St) (H : Hp) (Q : Option Int → Hp → Prop), Inv X pins σ H s → t σ H Q →
    wpAny (model X.prog X.w) X.A (evalPart e X.env) (fun u s' => ∃ o H', Inv X pins σ H' s' ∧ IsPart u o ∧ Q o H') X.xe s
def tNoPart : TO := fun _ H Q => Q none H
def tPart (t : TE) : TO := fun σ H Q => t σ H fun x H1 => ∃ i, x = .int i ∧ Q (some i) H1
section
variable {X : Cx} {e : Expr} {te : TE} {lo hi : Option Expr} {tl th : TO} {pos p2 : Pos}
theorem po_none : PO X none tNoPart := by
  intro pins s σ H Q I h
  rw [evalPart_none]
  exact wpAny_pure ⟨none, H, I, .none, h⟩
theorem po_some (h : PE X e te) : PO X (some e) (tPart te) := by
  intro pins s σ H Q I hw
  rw [evalPart_some]
  refine thn (h pins s σ H _ I hw) fun u s1 ⟨x, H1, I1, r1, q1⟩ => ?_
  obtain ⟨i, rfl, q⟩ := q1
  obtain ⟨t, rfl⟩ := r1
  exact ⟨some i, H1, I1, .int i t, q⟩
def SlR (X : Cx) (r : V → Option Int → Option Int → Hp → VK → Prop) : Prop :=
  ∀ (pins : List (Addr × Obj)) (s : Shared) (σ : St) (H : Hp) (x : V) (v vl vu : Value) (lo hi : Option Int) (sl : Addr) (Q : VK), Inv X pins σ H s → RelV x v → s.heap.IsSliceOf sl vl vu .none → IsPart vl lo → IsPart vu hi → r x lo hi H Q →
    ∃ T id, typeLookup (.type T) "__getitem__" = pure (some (.builtin id)) ∧ s.TypeIs v T ∧ wpAny (model X.prog X.w) X.A (getItem v (.ref sl)) (EP X pins σ Q) X.xe s
theorem SlR.or {r r' : V → Option Int → Option Int → Hp → VK → Prop} (h : SlR X r) (h' : SlR X r') : SlR X (fun x lo hi H Q => r x lo hi H Q ∨ r' x lo hi H Q) := by
  intro pins s σ H x v vl vu lo hi sl Q I rx hs pl pu q
  rcases q with q | q
  · exact h pins s σ H x v vl vu lo hi sl Q I rx hs pl pu q
  · exact h' pins s σ H x v vl vu lo hi sl Q I rx hs pl pu q
def tSl (r : V → Option Int → Option Int → Hp → VK → Prop) (te : TE) (tl th : TO) : TE := fun σ H Q => te σ H fun x H1 => tl σ H1 fun l H2 => th σ H2 fun u H3 => r x l u H3 Q
theorem pe_slice {r : V → Option Int → Option Int → Hp → VK → Prop} (hr : SlR X r) (he : PE X e te) (hl : PO X lo tl) (hu : PO X hi th) : PE X (.Subscript e (.Slice lo hi none p2) pos) (tSl r te tl th) := by
  intro pins s σ H Q I h
  refine Subscript_ (thn (he pins s σ H _ I h) fun v s1 ⟨x, H1, I1, r1, q1⟩ => ?_)
  refine wpAny_Slice (thn (hl pins s1 σ H1 _ I1 q1) fun vl s2 ⟨l, H2, I2, pl, q2⟩ => thn (hu pins s2 σ H2 _ I2 q2) fun vu s3 ⟨u, H3, I3, pu, q3⟩ => ?_)
  rw [evalPart_none]
  refine wpAny_pure ?_
  have I4 : Inv X pins σ H3 { s3 with heap := s3.heap.push { cls := .type "slice", data := .fields #[vl, vu, .none] } } := I3.kept (t' := s3.toks) fun b ob q => Heap.get?_push_of_some _ q
  obtain ⟨T, id, hT, ht, hg⟩ := hr pins { s3 with heap := s3.heap.push { cls := .type "slice", data := .fields #[vl, vu, .none] } } σ H3 x v vl vu l u s3.heap.objs.size Q I4 r1 (Heap.IsSliceOf.new ..) pl pu q3
  show wpAny (model X.prog X.w) X.A (subscriptTail e (.Slice lo hi none p2) v (.ref s3.heap.objs.size)) (EP X pins σ Q) X.xe { s3 with heap := s3.heap.push { cls := .type "slice", data := .fields #[vl, vu, .none] } }
  exact tail_any (ops := [.ref s3.heap.objs.size, v]) ht hT hg (by with_unfolding_all rfl)
def cutV (xs : List V) (lo hi : Option Int) : List V := (xs.drop (HT.sIx xs.length 0 lo)).take (HT.sIx xs.length xs.length hi - HT.sIx xs.length 0 lo)
theorem cutV_length (xs : List V) (lo hi : Option Int) : (cutV xs lo hi).length ≤ xs.length := by
  unfold cutV
  rw [List.length_take, List.length_drop]
  omega
def rSlT (K : PySem.W.Frag) : V → Option Int → Option Int → Hp → VK → Prop := fun x lo hi H Q => ∃ a xs, x = .ref a ∧ SqT K H a xs ∧
  ¬ (HT.sIx xs.length 0 lo = 0 ∧ HT.sIx xs.length xs.length hi = xs.length) ∧ ∀ p, H p = none → Q (.ref p) (upd H p (.tup (cutV xs lo hi)))
theorem sl_tup : SlR X (rSlT X.K) := by
  intro pins s σ H x v vl vu lo hi sl Q I rx hs pl pu h
  obtain ⟨a, xs, rfl, hx, hw, q⟩ := h
  cases rx
  obtain ⟨its, r, ht, hz⟩ := I.tuple hx
  have hlen : its.toArray.size = xs.length := by rw [List.size_toArray]; exact r.length.symm
  refine ⟨"tuple", _, PyProof.Rows.slot_tuple_getitem.lookup, ht.typeIs, ?_⟩
  refine HT.getItem_tuple_cut ht hs pl pu (by rw [hlen]; exact hw) ?_ (by rw [hlen]; exact hz)
  rw [hlen]
  refine ⟨.ref s.heap.objs.size, _, I.laid (t' := s.toks) (o := .tup (cutV xs lo hi)) (fun b ob q => Heap.get?_push_of_some _ q) (Nat.le_refl _) ?_, rfl, q _ (I.hok.fresh (Nat.le_refl _))⟩
  exact ⟨Nat.le_trans (cutV_length xs lo hi) hz, _, (r.drop (HT.sIx xs.length 0 lo)).take (HT.sIx xs.length xs.length hi - HT.sIx xs.length 0 lo), IsTup.new _ _⟩
def rCatT (K : PySem.W.Frag) : R2 := fun x y H Q => ∃ a b xs ys, x = .ref a ∧ y = .ref b ∧ SqT K H a xs ∧ SqT K H b ys ∧ xs ≠ [] ∧ xs.length + ys.length ≤ sizeLine ∧
  (ys = [] → Q (.ref a) H) ∧ (ys ≠ [] → ∀ p, H p = none → Q (.ref p) (upd H p (.tup (xs ++ ys))))
theorem Vals.nil_iff {xs : List V} {us : List Value} (r : Vals xs us) : us = [] ↔ xs = [] := by
  cases r with
  | nil => simp
  | cons _ _ => simp
theorem op_catT : OpR X (binaryOp .Add) (rCatT X.K) := by
  intro pins s σ H x y v u Q I rx ry h
  obtain ⟨a, b, xs, ys, rfl, rfl, ha, hb, hx, hz, q1, q2⟩ := h
  cases rx
  cases ry
  obtain ⟨its, r1, p1, _⟩ := I.tuple ha
  obtain ⟨its2, r2, p2, _⟩ := I.tuple hb
  refine HT.cat_tup p1 p2 (fun z => hx (r1.nil_iff.mp z)) (fun z => ⟨.ref a, H, I, rfl, q1 (r2.nil_iff.mp z)⟩) (fun z => ?_) (by rw [← r1.length, ← r2.length]; exact hz)
  refine ⟨.ref s.heap.objs.size, _, I.laid (t' := s.toks) (o := .tup (xs ++ ys)) (fun b ob q => Heap.get?_push_of_some _ q) (Nat.le_refl _) ?_, rfl, q2 (fun w => z (r2.nil_iff.mpr w)) _ (I.hok.fresh (Nat.le_refl _))⟩
  exact ⟨by rw [List.length_append]; exact hz, _, r1.append r2, IsTup.new _ _⟩
end
end L2
namespace L2
open PySem PySem.Spec PyProof.Rows
def ixN (n : Nat) (i : Int) : Option Nat := if 0 ≤ i then (if i < n then some i.toNat else none) else if -(n : Int) ≤ i then some (i + n).toNat else none
def atI {α : Type} (xs : List α) (i : Int) : Option α := (ixN xs.length i).bind fun j => xs[j]?
theorem ixN_seq {n : Nat} {i : Int} {j : Nat} (h : ixN n i = some j) : seqIndex? i n = some j ∧ j < n ∧ -(n : Int) ≤ i ∧ i < n := by
  unfold ixN at h
  by_cases h0 : 0 ≤ i
  · rw [if_pos h0] at h
    by_cases h1 : i < n
    · rw [if_pos h1] at h
      have e : i.toNat = j := Option.some.inj h
      exact ⟨by rw [seqIndex_of h0 h1, e], by omega, by omega, h1⟩
    · rw [if_neg h1] at h; cases h
  · rw [if_neg h0] at h
    by_cases h1 : -(n : Int) ≤ i
    · rw [if_pos h1] at h
      have e : (i + n).toNat = j := Option.some.inj h
      exact ⟨by rw [seqIndex_neg (by omega) h1, e], by omega, h1, by omega⟩
    · rw [if_neg h1] at h; cases h
theorem atI_get {α : Type} {xs : List α} {i : Int} {v : α} (h : atI xs i = some v) : ∃ j, seqIndex? i xs.length = some j ∧ xs[j]? = some v ∧ j < xs.length ∧ -(xs.length : Int) ≤ i ∧ i < xs.length := by
  unfold atI at h
  cases e : ixN xs.length i with
  | none => rw [e] at h; cases h
  | some j =>
    rw [e] at h
    obtain ⟨h1, h2, h3, h4⟩ := ixN_seq e
    exact ⟨j, h1, h, h2, h3, h4⟩
def PlainIx (b : Expr) : Prop := ∀ o i, subscripted b false o i = operate [o, i] (getItem o i)
def IxR (X : Cx) (r : R2) : Prop :=
  ∀ (value slice : Expr) (pins : List (Addr × Obj)) (s : Shared) (σ : St) (H : Hp) (x y : V) (v u : Value) (Q : VK), Inv X pins σ H s → RelV x v → RelV y u → r x y H Q →
    subscripted slice false v u = operate [v, u] (getItem v u) → wpAny (model X.prog X.w) X.A (subscriptTail value slice v u) (EP X pins σ Q) X.xe s
def MtR (X : Cx) (id : String) (r : V → List V → Hp → VK → Prop) : Prop :=
  ∀ (pins : List (Addr × Obj)) (s : Shared) (σ : St) (H : Hp) (x : V) (xs : List V) (v : Value) (us : List Value) (Q : VK), Inv X pins σ H s → RelV x v → Vals xs us → r x xs H Q →
    wpAny (model X.prog X.w) X.A (call (.builtin id) (v :: us)) (EP X pins σ Q) X.xe s
section
variable {X : Cx} {a b : Expr} {ta tb : TE} {pos : Pos}
theorem IxR.or {r r' : R2} (h : IxR X r) (h' : IxR X r') : IxR X (fun x y H Q => r x y H Q ∨ r' x y H Q) := by
  intro value slice pins s σ H x y v u Q I rx ry q hs
  rcases q with q | q
  · exact h value slice pins s σ H x y v u Q I rx ry q hs
  · exact h' value slice pins s σ H x y v u Q I rx ry q hs
theorem pe_ix {r : R2} (hr : IxR X r) (ha : PE X a ta) (hb : PE X b tb) (hs : PlainIx b) : PE X (.Subscript a b pos) (tOp r ta tb) := by
  intro pins s σ H Q I h
  exact Subscript_ (binT ha hb I h fun v u s2 x y H2 I2 rx ry q => hr a b pins s2 σ H2 x y v u Q I2 rx ry q (hs _ _))
def rIxL (K : PySem.W.Frag) : R2 := fun x y H Q => ∃ p xs i v, x = .ref p ∧ y = .int i ∧ SqL K H p xs ∧ atI xs i = some v ∧ Q v H
def rIxT (K : PySem.W.Frag) : R2 := fun x y H Q => ∃ p xs i v, x = .ref p ∧ y = .int i ∧ SqT K H p xs ∧ atI xs i = some v ∧ Q v H
def rIxS : R2 := fun x y H Q => ∃ z i c, x = .str z ∧ y = .int i ∧ z.length ≤ sizeLine ∧ atI z.cps.toList i = some c ∧ Q (.str ⟨#[c]⟩) H
theorem ix_list : IxR X (rIxL X.K) := by
  intro value slice pins s σ H x y v u Q I rx ry h hs
  obtain ⟨p, xs, i, z, rfl, rfl, hq, he, q⟩ := h
  cases rx
  obtain ⟨t, rfl⟩ := ry
  obtain ⟨its, r, pl, hz⟩ := I.list hq
  obtain ⟨j, h1, h2, h3, h4, h5⟩ := atI_get he
  obtain ⟨w, ew, rw'⟩ := r.get h2
  have hl := r.length
  have hn := line63
  have fin : EP X pins σ Q w s := ⟨z, H, I, rw', q⟩
  by_cases h0 : 0 ≤ i
  · have hj : i.toNat = j := by
      rw [seqIndex_of h0 h5] at h1
      exact Option.some.inj h1
    exact item_listR pl.isList h0 (by omega) (by rw [hj]; simpa using ew) fin hs
  · have hj : (i + (its.toArray.size : Int)).toNat = j := by
      rw [seqIndex_neg (by omega) h4] at h1
      rw [List.size_toArray, ← hl]
      exact Option.some.inj h1
    exact subscriptTail_builtinR (x := w) pl.isList.typeIs slot_list_getitem.lookup
      (wpAny_getItem_list_neg (Q := fun r s' => r = w ∧ EP X pins σ Q r s') pl.isList (by omega) (by rw [List.size_toArray] <;> omega) (by omega) (by rw [hj]; simpa using ew) ⟨rfl, fin⟩) hs
theorem ix_tup : IxR X (rIxT X.K) := by
  intro value slice pins s σ H x y v u Q I rx ry h hs
  obtain ⟨p, xs, i, z, rfl, rfl, hq, he, q⟩ := h
  cases rx
  obtain ⟨t, rfl⟩ := ry
  obtain ⟨its, r, pl, hz⟩ := I.tuple hq
  obtain ⟨j, h1, h2, h3, h4, h5⟩ := atI_get he
  obtain ⟨w, ew, rw'⟩ := r.get h2
  have hl := r.length
  have hn := line63
  have fin : EP X pins σ Q w s := ⟨z, H, I, rw', q⟩
  exact subscriptTail_builtinR (x := w) pl.typeIs slot_tuple_getitem.lookup
    (getItem_tuple (j := j) (Q := fun r s' => r = w ∧ EP X pins σ Q r s') pl (by omega) (by omega) (by rw [List.size_toArray, ← hl]; exact h1) (by simpa using ew) ⟨rfl, fin⟩) hs
theorem ix_str : IxR X rIxS := by
  intro value slice pins s σ H x y v u Q I rx ry h hs
  obtain ⟨z, i, c, rfl, rfl, hz, he, q⟩ := h
  obtain ⟨t, rfl⟩ := rx
  obtain ⟨t', rfl⟩ := ry
  obtain ⟨j, h1, h2, h3, h4, h5⟩ := atI_get he
  have hl : z.cps.toList.length = z.length := by simp [Str.length]
  rw [hl] at h1 h4 h5
  have hn := line63
  exact tail_any (typeIs_str s z t) slot_str_getitem.lookup (getItem_str (c := c) (by
    have e1 : decide (i < -(2 ^ 63 : Int)) = false := decide_eq_false (by omega)
    have e2 : decide (i ≥ 2 ^ 63) = false := decide_eq_false (by omega)
    rw [e1, e2, Bool.or_false]) (by rw [h1]; simpa using h2) ⟨.str ⟨#[c]⟩, H, I.tok _, ⟨_, rfl⟩, q⟩) hs
def rIx (K : PySem.W.Frag) : R2 := fun x y H Q => rIxL K x y H Q ∨ rIxT K x y H Q ∨ rIxS x y H Q
theorem ix_seq : IxR X (rIx X.K) := ix_list.or (ix_tup.or ix_str)
theorem slice_bounds (lo hi : Option Int) (n : Nat) : (sliceBounds lo hi none n).1 = ((HT.sIx n 0 lo : Nat) : Int) ∧ (sliceBounds lo hi none n).2.1 = ((HT.sIx n n hi : Nat) : Int) ∧ (sliceBounds lo hi none n).2.2 = 1 := by
  refine ⟨?_, ?_, rfl⟩
  · cases lo with
    | none => simp [sliceBounds, HT.sIx]
    | some i =>
      simp only [sliceBounds, HT.sIx, Option.getD_none, show (1 : Int) > 0 by decide, if_true]
      by_cases h : i < 0
      · simp only [h, if_true] <;> omega
      · simp only [h, if_false] <;> omega
  · cases hi with
    | none => simp [sliceBounds, HT.sIx]
    | some i =>
      simp only [sliceBounds, HT.sIx, Option.getD_none, show (1 : Int) > 0 by decide, if_true]
      by_cases h : i < 0
      · simp only [h, if_true] <;> omega
      · simp only [h, if_false] <;> omega
theorem slicePick_cut (its : List Value) (lo hi : Option Int) : slicePick its.toArray lo hi none = ((its.drop (HT.sIx its.length 0 lo)).take (HT.sIx its.length its.length hi - HT.sIx its.length 0 lo)).toArray := by
  obtain ⟨h1, h2, h3⟩ := slice_bounds lo hi its.toArray.size
  unfold slicePick
  rw [h1, h2, h3]
  simp only [sliceRange_one, pick_run, List.size_toArray] <;> rfl
def rSlL (K : PySem.W.Frag) : V → Option Int → Option Int → Hp → VK → Prop := fun x lo hi H Q => ∃ a xs, x = .ref a ∧ SqL K H a xs ∧ ∀ p, H p = none → Q (.ref p) (upd H p (.lst (cutV xs lo hi)))
theorem sl_list : SlR X (rSlL X.K) := by
  intro pins s σ H x v vl vu lo hi sl Q I rx hs pl pu h
  obtain ⟨a, xs, rfl, hx, q⟩ := h
  cases rx
  obtain ⟨its, r, ht, hz⟩ := I.list hx
  have hlen := r.length
  refine ⟨"list", _, slot_list_getitem.lookup, ht.isList.typeIs, ?_⟩
  refine wpAny_getItem_list_slice ht.isList hs pl pu .none (by simp) ?_ (by rw [List.size_toArray] <;> omega)
  rw [slicePick_cut, ← hlen]
  refine ⟨.ref s.heap.objs.size, _, I.laid (t' := s.toks) (o := .lst (cutV xs lo hi)) (fun b ob q => Heap.get?_push_of_some _ q) (Nat.le_refl _) ?_, rfl, q _ (I.hok.fresh (Nat.le_refl _))⟩
  exact ⟨Nat.le_trans (cutV_length xs lo hi) hz, _, 0, (r.drop (HT.sIx xs.length 0 lo)).take (HT.sIx xs.length xs.length hi - HT.sIx xs.length 0 lo), Heap.get?_push_size _ rfl⟩
def flatV : V → Bool
  | .non => true
  | .bl _ => true
  | .int _ => true
  | .str _ => true
  | _ => false
def eqV : V → V → Bool
  | .non, .non => true
  | .bl a, .bl b => a == b
  | .bl a, .int b => (if a then 1 else 0) == b
  | .int a, .bl b => a == (if b then 1 else 0)
  | .int a, .int b => a == b
  | .str a, .str b => a == b
  | _, _ => false
theorem eqAt_V {A : Around} {s : Shared} {y x : V} {u v : Value} (ry : RelV y u) (rx : RelV x v) (fy : flatV y = true) (fx : flatV x = true) : SeqAt.EqAt A s u v (eqV y x) := by
  cases y with
  | non =>
    cases ry
    cases x with
    | non => cases rx; exact SeqAt.EqAt.same _
    | bl b => cases rx; exact SeqAt.EqAt.none_bool b
    | int b => obtain ⟨t, rfl⟩ := rx; exact SeqAt.EqAt.none_int b t
    | str b => obtain ⟨t, rfl⟩ := rx; exact SeqAt.EqAt.none_str b t
    | _ => exact absurd (show false = true from fx) Bool.false_ne_true
  | bl a =>
    cases ry
    cases x with
    | non => cases rx; exact SeqAt.EqAt.bool_none a
    | bl b => cases rx; exact SeqAt.EqAt.bool_bool a b
    | int b => obtain ⟨t, rfl⟩ := rx; exact SeqAt.EqAt.bool_int a b t
    | str b => obtain ⟨t, rfl⟩ := rx; exact SeqAt.EqAt.bool_str a b t
    | _ => exact absurd (show false = true from fx) Bool.false_ne_true
  | int a =>
    obtain ⟨t', rfl⟩ := ry
    cases x with
    | non => cases rx; exact SeqAt.EqAt.int_none a t'
    | bl b => cases rx; exact SeqAt.EqAt.int_bool a t' b
    | int b => obtain ⟨t, rfl⟩ := rx; exact SeqAt.EqAt.int_int a t' b t
    | str b => obtain ⟨t, rfl⟩ := rx; exact SeqAt.EqAt.int_str a t' b t
    | _ => exact absurd (show false = true from fx) Bool.false_ne_true
  | str a =>
    obtain ⟨t', rfl⟩ := ry
    cases x with
    | non => cases rx; exact SeqAt.EqAt.str_none a t'
    | bl b => cases rx; exact SeqAt.EqAt.str_bool a t' b
    | int b => obtain ⟨t, rfl⟩ := rx; exact SeqAt.EqAt.str_int a t' b t
    | str b => obtain ⟨t, rfl⟩ := rx; exact SeqAt.EqAt.str_str a t' b t
    | _ => exact absurd (show false = true from fx) Bool.false_ne_true
  | _ => exact absurd (show false = true from fy) Bool.false_ne_true
def eqU (x : V) (u : Value) : Bool := match u with
  | .none => eqV .non x
  | .bool b => eqV (.bl b) x
  | .int i _ => eqV (.int i) x
  | .str z _ => eqV (.str z) x
  | _ => false
theorem eqU_of {x y : V} {u : Value} (r : RelV y u) (f : flatV y = true) : eqU x u = eqV y x := by
  cases y with
  | non => cases r; rfl
  | bl b => cases r; rfl
  | int i => obtain ⟨t, rfl⟩ := r; rfl
  | str z => obtain ⟨t, rfl⟩ := r; rfl
  | _ => exact absurd (show false = true from f) Bool.false_ne_true
theorem any_eqU {x : V} : ∀ {xs : List V} {us : List Value}, Vals xs us → xs.all flatV = true → us.any (eqU x) = xs.any fun y => eqV y x
  | _, _, .nil, _ => rfl
  | y :: xs, u :: us, .cons r t, f => by
    rw [List.all_cons, Bool.and_eq_true] at f
    rw [List.any_cons, List.any_cons, eqU_of r f.1, any_eqU t f.2]
theorem mem_eqAt {A : Around} {s : Shared} {x : V} {v : Value} (rx : RelV x v) (fx : flatV x = true) : ∀ {xs : List V} {us : List Value}, Vals xs us → xs.all flatV = true → ∀ u ∈ us, SeqAt.EqAt A s u v (eqU x u)
  | _, _, .nil, _ => fun u hu => by cases hu
  | y :: xs, u :: us, .cons r t, f => fun u' hu => by
    rw [List.all_cons, Bool.and_eq_true] at f
    rcases List.mem_cons.mp hu with rfl | hu
    · rw [eqU_of r f.1]; exact eqAt_V r rx f.1 fx
    · exact mem_eqAt rx fx t f.2 u' hu
def inV (x : V) (xs : List V) : Bool := xs.any fun y => eqV y x
def rIn (K : PySem.W.Frag) (neg : Bool) : R2 := fun x y H Q => ∃ p xs, y = .ref p ∧ (SqL K H p xs ∨ SqT K H p xs) ∧ flatV x = true ∧ xs.all flatV = true ∧ Q (.bl (if neg then !inV x xs else inV x xs)) H
theorem op_in_seq : OpR X (compareOp .In) (rIn X.K false) := by
  intro pins s σ H x y v u Q I rx ry h
  obtain ⟨p, xs, rfl, hq, fx, fs, q⟩ := h
  cases ry
  rcases hq with hq | hq
  · obtain ⟨its, r, pl, hz⟩ := I.list hq
    refine SeqAt.in_listAt (eqU x) pl.isList (fun w hw => mem_eqAt rx fx r fs w (by simpa using hw)) ⟨.bl _, H, I, rfl, ?_⟩
    rw [show its.toArray.any (eqU x) = its.any (eqU x) by simp, any_eqU r fs]
    exact q
  · obtain ⟨its, r, pl, hz⟩ := I.tuple hq
    refine SeqAt.in_tupleAt (eqU x) pl (fun w hw => mem_eqAt rx fx r fs w (by simpa using hw)) ⟨.bl _, H, I, rfl, ?_⟩
    rw [show its.toArray.any (eqU x) = its.any (eqU x) by simp, any_eqU r fs]
    exact q
theorem op_notIn_seq : OpR X (compareOp .NotIn) (rIn X.K true) := by
  intro pins s σ H x y v u Q I rx ry h
  obtain ⟨p, xs, rfl, hq, fx, fs, q⟩ := h
  cases ry
  rcases hq with hq | hq
  · obtain ⟨its, r, pl, hz⟩ := I.list hq
    refine SeqAt.notIn_listAt (eqU x) pl.isList (fun w hw => mem_eqAt rx fx r fs w (by simpa using hw)) ⟨.bl _, H, I, rfl, ?_⟩
    rw [show its.toArray.any (eqU x) = its.any (eqU x) by simp, any_eqU r fs]
    exact q
  · obtain ⟨its, r, pl, hz⟩ := I.tuple hq
    refine SeqAt.notIn_tupleAt (eqU x) pl (fun w hw => mem_eqAt rx fx r fs w (by simpa using hw)) ⟨.bl _, H, I, rfl, ?_⟩
    rw [show its.toArray.any (eqU x) = its.any (eqU x) by simp, any_eqU r fs]
    exact q
def tyV (K : PySem.W.Frag) (T : String) (x : V) (H : Hp) : Prop := match x with
  | .str _ => T = "str"
  | .int _ => T = "int"
  | .ref p => (T = "list" ∧ ∃ xs, SqL K H p xs) ∨ (T = "tuple" ∧ ∃ o, K.lookup p = some o ∧ o.cls = .type "tuple" ∧ o.dict = none) ∨
      (T = "dict" ∧ ((∃ kvs, H p = some (.dK kvs)) ∨ ∃ kvs, H p = some (.dT kvs))) ∨ (T = "set" ∧ ∃ S n, H p = some (.set S n))
  | _ => False
theorem tyV_is {pins : List (Addr × Obj)} {σ : St} {H : Hp} {s : Shared} {T : String} {x : V} {v : Value} (I : Inv X pins σ H s) (r : RelV x v) (ty : tyV X.K T x H) :
    s.TypeIs v T ∧ ∀ a, v = .ref a → ∃ ob, s.heap.get? a = some ob ∧ ob.dict = none := by
  cases x with
  | str z =>
    obtain ⟨t, rfl⟩ := r
    cases (show T = "str" from ty)
    exact ⟨typeIs_str s z t, fun _ e => nomatch e⟩
  | int i =>
    obtain ⟨t, rfl⟩ := r
    cases (show T = "int" from ty)
    exact ⟨typeIs_int s i t, fun _ e => nomatch e⟩
  | ref p =>
    cases r
    rcases ty with ⟨rfl, xs, hq⟩ | ⟨rfl, o, hk, hc, hd⟩ | ⟨rfl, hk⟩ | ⟨rfl, S, n, hk⟩
    · obtain ⟨its, _, pl, _⟩ := I.list hq
      refine ⟨pl.isList.typeIs, fun a e => ?_⟩
      cases e
      obtain ⟨o, n, e, c, hd, _⟩ := pl
      exact ⟨o, e, hd⟩
    · refine ⟨⟨o, I.kIn p o hk, hc⟩, fun a e => ?_⟩
      cases e
      exact ⟨o, I.kIn _ o hk, hd⟩
    · have z : ∃ o, s.heap.get? p = some o ∧ o.ExactDict := by
        rcases hk with ⟨kvs, hk⟩ | ⟨kvs, hk⟩
        · obtain ⟨_, _, _, _, o, _, _, e, ex, _⟩ := I.hok p _ hk
          exact ⟨o, e, ex⟩
        · obtain ⟨_, _, _, _, o, _, _, e, ex, _⟩ := I.hok p _ hk
          exact ⟨o, e, ex⟩
      obtain ⟨o, e, ex⟩ := z
      refine ⟨⟨o, e, ex.1⟩, fun a e2 => ?_⟩
      cases e2
      exact ⟨o, e, ex.2.1⟩
    · obtain ⟨o, _, _, _, e, ex, _⟩ := I.hok p _ hk
      refine ⟨⟨o, e, ex.1⟩, fun a e2 => ?_⟩
      cases e2
      exact ⟨o, e, ex.2.1⟩
  | _ => exact False.elim ty
def tBM0 (K : PySem.W.Frag) (T : String) (r : V → List V → Hp → VK → Prop) (to : TE) : TE := fun σ H Q => to σ H fun x H1 => tyV K T x H1 ∧ r x [] H1 Q
def tBM (K : PySem.W.Frag) (T : String) (r : V → List V → Hp → VK → Prop) (to : TE) (t : TA) : TE := fun σ H Q => to σ H fun x H1 => tyV K T x H1 ∧ t σ H1 fun xs H2 => r x xs H2 Q
variable {o e : Expr} {es : List Expr} {to : TE} {t : TA} {name : Str} {apos cpos : Pos} {T id : String} {r : V → List V → Hp → VK → Prop}
theorem pe_bm0 (pa : PlainAttrs T) (slot : Slot T name id) (hty : typeOf (.builtin id) = pure (.type "method_descriptor")) (hm : MtR X id r) (ho : PE X o to)
    (hbase : attributeBase o name X.env (eval o X.env) = eval o X.env := by rfl) (hline : (apos.endLine == cpos.line) = true := by rfl) : PE X (.Call (.Attribute o name apos) [] [] cpos) (tBM0 X.K T r to) := by
  intro pins s σ H Q I h
  refine wpAny_Call_method0_late hbase hline (thn (ho pins s σ H _ I h) fun v s1 ⟨x, H1, I1, r1, ty, q1⟩ => ?_)
  obtain ⟨h1, h2⟩ := tyV_is I1 r1 ty
  exact ⟨T, id, pa, slot, hty, h1, h2, Calls.callWith_builtin rfl (PySem.evalArgs_none (hm pins s1 σ H1 x [] v [] Q I1 r1 .nil q1))⟩
theorem pe_bm (pa : PlainAttrs T) (slot : Slot T name id) (hty : typeOf (.builtin id) = pure (.type "method_descriptor")) (hm : MtR X id r) (ho : PE X o to) (ha : PA X (e :: es) t)
    (hbase : attributeBase o name X.env (eval o X.env) = eval o X.env := by rfl)
    (hfew : ((backTo cpos (starEach (e :: es) X.env)).all (fun x => !x.1) && (backToKw cpos (keywordEach [] X.env)).all (fun x => x.1.isSome)
      && decide ((e :: es).length + ([] : List Keyword).length + (if ([] : List Keyword).isEmpty then 0 else 1) < 30)) = true := by rfl)
    (hline : (apos.endLine == cpos.line) = true := by rfl) (hs : starEach (e :: es) X.env = (false, eval e X.env) :: starEach es X.env := by rfl) (hplain : (backTo cpos (starEach es X.env)).any (·.1) = false := by rfl) :
    PE X (.Call (.Attribute o name apos) (e :: es) [] cpos) (tBM X.K T r to t) := by
  intro pins s σ H Q I h
  refine wpAny_Call_method_late hbase hfew hline rfl (thn (ho pins s σ H _ I h) fun v s1 ⟨x, H1, I1, r1, ty, q1⟩ => ?_)
  obtain ⟨h1, h2⟩ := tyV_is I1 r1 ty
  refine ⟨T, id, pa, slot, hty, h1, h2, ?_⟩
  have hA := ha cpos pins s1 σ H1 _ I1 q1
  rw [hs] at hA ⊢
  refine Calls.callWith_builtin (by show (false || (backTo cpos (starEach es X.env)).any (·.1)) = false; rw [hplain] <;> rfl) (Calls.evalArgs_plain ?_)
  exact thn hA fun us s2 ⟨vs, H2, I2, r2, q2⟩ => hm pins s2 σ H2 x vs v us Q I2 r1 r2 q2
end
end L2
namespace L2
open PySem PySem.Spec PyProof.Rows
def MtM (X : Cx) (id : String) (r : V → List V → Hp → VK → Prop) : Prop :=
  ∀ (pins : List (Addr × Obj)) (s : Shared) (σ : St) (H : Hp) (x : V) (xs : List V) (v : Value) (us : List Value) (Q : VK), Inv X pins σ H s → RelV x v → Vals xs us → r x xs H Q →
    wpAny (model X.prog X.w) X.A (call (.builtin id) (v :: us)) (EP X pins σ Q) X.xe s
theorem Vals.one : ∀ {x : V} {us : List Value}, Vals [x] us → ∃ u, us = [u] ∧ RelV x u
  | _, _, .cons r .nil => ⟨_, rfl, r⟩
theorem Vals.zero : ∀ {us : List Value}, Vals [] us → us = []
  | _, .nil => rfl
section
variable {X : Cx} {pins : List (Addr × Obj)} {σ : St} {H : Hp} {s : Shared} {l b : Addr} {xs ys zs : List V}
theorem Inv.lset {its its' : List Value} {n : Nat} {f : Array Value → Array Value} {t' : Nat} (I : Inv X pins σ H s) (hH : H l = some (.lst xs))
    (e : s.heap.get? l = some { cls := .type "list", data := .seq its.toArray n }) (hf : f its.toArray = its'.toArray) (hv : Vals ys its') (hz : ys.length ≤ sizeLine) :
    Inv X pins σ (upd H l (.lst ys)) { s with heap := s.heap.update l (Obj.mapSeq f), toks := t' } := by
  have q := PySem.IsL.update e f
  rw [hf] at q
  refine I.write (x := l) (e := l) (by rw [hH]; exact trivial) (.inl rfl) (fun b' u hb hu => (Heap.get?_update_other s.heap (Obj.mapSeq f) (Ne.symm hb)).trans hu) ⟨_, q⟩ ?_
  exact ⟨hz, its', _, hv, q⟩
theorem Inv.lnew {its : List Value} {t' : Nat} (I : Inv X pins σ H s) (hv : Vals ys its) (hz : ys.length ≤ sizeLine) :
    Inv X pins σ (upd H s.heap.objs.size (.lst ys)) { s with heap := s.heap.push { cls := .type "list", data := .seq its.toArray }, toks := t' } :=
  I.laid (fun _ _ q => Heap.get?_push_of_some _ q) (Nat.le_refl _) ⟨hz, its, 0, hv, Heap.get?_push_size _ rfl⟩
theorem Inv.fresh (I : Inv X pins σ H s) : H s.heap.objs.size = none := I.hok.fresh (Nat.le_refl _)
theorem Inv.lstM (I : Inv X pins σ H s) (hH : H l = some (.lst xs)) : xs.length ≤ sizeLine ∧ ∃ (its : List Value) (n : Nat), Vals xs its ∧ xs.length = its.length ∧ s.heap.get? l = some { cls := .type "list", data := .seq its.toArray n } := by
  obtain ⟨z, its, n, r, e⟩ := I.hok l _ hH
  exact ⟨z, its, n, r, r.length, e⟩
end
section
variable {X : Cx}
def rAppend : V → List V → Hp → VK → Prop := fun x vs H Q => ∃ l xs y, x = .ref l ∧ vs = [y] ∧ H l = some (.lst xs) ∧ xs.length < sizeLine ∧ Q .non (upd H l (.lst (xs ++ [y])))
theorem mt_append : MtM X "list.append" rAppend := by
  intro pins s σ H x vs v us Q I rx rv h
  obtain ⟨l, xs, y, rfl, rfl, hH, hz, q⟩ := h
  cases rx
  obtain ⟨u, rfl, ru⟩ := rv.one
  obtain ⟨z, its, n, r, hl, e⟩ := I.lstM hH
  refine call_meets F.slot_list_append ⟨_, e, rfl⟩ F.entry_list_append (F.args_list_append_2 _ _) (PySem.list_append l its.toArray n u (by rw [List.size_toArray]; omega)) ⟨e, ?_⟩
  refine ⟨.non, _, I.lset (its' := its ++ [u]) hH e (by simp) (r.append (.cons ru .nil)) ?_, rfl, q⟩
  rw [List.length_append, List.length_singleton]
  omega
def rClear : V → List V → Hp → VK → Prop := fun x vs H Q => ∃ l xs, x = .ref l ∧ vs = [] ∧ H l = some (.lst xs) ∧ Q .non (upd H l (.lst []))
theorem mt_clear : MtM X "list.clear" rClear := by
  intro pins s σ H x vs v us Q I rx rv h
  obtain ⟨l, xs, rfl, rfl, hH, q⟩ := h
  cases rx
  have hus := rv.zero
  subst hus
  obtain ⟨z, its, n, r, hl, e⟩ := I.lstM hH
  refine call_meets F.slot_list_clear ⟨_, e, rfl⟩ F.entry_list_clear (F.args_list_clear_1 _) (AutoSeq1.list_clear_list_0 l its.toArray n (by rw [List.size_toArray]; omega)) ⟨e, ?_⟩
  exact ⟨.non, _, I.lset (its' := []) (ys := []) hH e rfl .nil (Nat.zero_le _), rfl, q⟩
end
section
variable {prog : Program} {w : World} {A : Around} {E : Value → Shared → Prop} {s : Shared}
end
section
variable {X : Cx}
end
end L2
namespace Att
open PySem PySem.W PySem.Calls PyProof.Rows
theorem ints_of_wellAll {P : Params} {h : Heap} : ∀ (ns : List Int) (vs : List Value), WellAll P h vs (ns.map WData.int) → IntsAre vs ns := by
  intro ns
  induction ns with
  | nil =>
    intro vs w
    rw [List.map_nil] at w
    cases w
    exact .nil
  | cons n ns ih =>
    intro vs w
    rw [List.map_cons] at w
    cases w with
    | cons a b =>
      cases a
      exact .cons _ _ (ih _ b)
theorem script_of {l : OpenLaw} {n : Nat} (hn : l.most = some n) {P : Params} {h : Heap} {args : List WData} {vals : List Value}
    (hpre : l.row.toRowW.claim.pre args = true) (hwl : WellAll P h vals args) :
    ∃ a vs ns, vals = [Value.ref a] ∧ args = [WData.list (ns.map WData.int)] ∧ h.get? a = some { cls := .type "list", data := .seq vs.toArray } ∧ IntsAre vs ns ∧ ns.length ≤ n := by
  have hsh : WShape.hasAll [] args [.list .int] = true := (pre_splitW hpre).1
  have hc : l.pre.holds [] { args := args } = true := (pre_splitW hpre).2
  obtain ⟨d, r, rfl, h1, h2⟩ := hasAllW_cons hsh
  obtain rfl := hasAllW_nil h2
  obtain ⟨xs, rfl, h3⟩ := hasW_list h1
  obtain ⟨ns, rfl⟩ := items_int h3
  have hlen : ns.length ≤ n := by
    unfold OpenLaw.pre at hc
    have h4 : (WTm.not (.lt (.lit (.int (n : Int))) (.len (.arg 0)))).holds [] { args := [.list (ns.map .int)] } = true := by
      have h4 := (holds_andW hc).1
      rw [hn] at h4
      exact h4
    have h5 := condW_of h4 (w_not (w_lt w_lit (w_len_list (w_arg rfl))))
    rw [List.length_map] at h5
    refine Nat.le_of_not_lt fun q => ?_
    have q' : (n : Int) < ((ns.length : Nat) : Int) := by omega
    first
      | (rw [decide_eq_true q'] at h5; exact absurd h5 (by decide))
      | (simp at h5; omega)
  cases hwl with
  | cons w1 w2 =>
    cases w2
    cases w1 with
    | list ho hall => exact ⟨_, _, ns, rfl, rfl, ho, ints_of_wellAll ns _ hall, hlen⟩
theorem post_true (l : OpenLaw) (args : List WData) : l.row.toRowW.claim.post args (.bool true) args = true :=
  postW_of (r := l.row.toRowW) (X := (true == true))
    (show WShape.has [] (.bool true) .bool = true by first | rfl | decide | simp [WShape.has, WShape.arms, WShape.armsAll])
    (show (WTm.eq .res (.lit (.bool true))).value [] { args := args, res := some (.bool true), after := args } = some (.bool (true == true)) from w_eq_bool (w_res rfl) w_lit) rfl
theorem attach_call {l : OpenLaw} {n : Nat} {q : Program} {loose : List Str} {XP : (Str → Option Value) → Heap → Prop} {YP : World → Heap → Prop} {d : DefRec}
    (hn : l.most = some n) (hdf : d.params.defaults = [])
    (call : ∀ (w : World) (s₀ s₁ : Shared) (mg mb : Str → Option Value) (fa : Addr) (o : Obj) (pm cd doc : Value) (a : Addr) (vs : List Value) (ns : List Int),
      Ground q loose [] XP w s₀ mg mb s₁.heap → YP w s₁.heap →
      s₁.heap.get? fa = some o → o.data = .func (docDef d.name d.params d.body d.scope pm cd doc) → s₁.heap.CodeRec cd d.name → mg d.name = some (.ref fa) →
      s₁.heap.get? a = some { cls := .type "list", data := .seq vs.toArray } → IntsAre vs ns → ns.length ≤ n → s₁.gens = #[] →
      codeAny (model l.prog w) callerA (.call (.ref fa) ⟨[.ref a], []⟩) (fun r s' => r = .ok (.ret (.bool true)) ∧ OldK s₁.heap s'.heap ∧ s'.os = s₁.os ∧ AllBare s'.gens) s₁) :
    WalkO q loose XP YP l.row.toRowW d [] (fun f vs => PySem.call f vs) := by
  intro w s₀ s₁ mg mb G Y fa o pm cd doc dV kV ho hd hcd hD hmg hg args vals as hpre hlay hrd hwl hlo
  obtain rfl : dV = .none := Dflts.none hD hdf
  obtain rfl : kV = .none := Dflts.noKw hD
  obtain ⟨a, vs, ns, rfl, rfl, hobj, hints, hlen⟩ := script_of hn hpre hwl
  refine enter_call (codeAny_mono (call w s₀ s₁ mg mb fa o pm cd doc a vs ns G Y ho (fd_plain hd) hcd hmg hobj hints hlen hg) fun r s' hq => ?_)
  obtain ⟨rfl, h2, h3, h4⟩ := hq
  exact ⟨.inl ⟨.bool true, .bool true, [], rfl, fun _ => rfl, .bool true, post_true l _, fun _ => ⟨List.Pairwise.nil, fun _ hm => (nomatch hm)⟩⟩, h2, h3, h4⟩
section
variable {prog : Program} {w : World} {A : Around} {E : Value → Shared → Prop} {s : Shared} {K : Frag}
end
end Att
namespace L2
open PySem PySem.Spec PyProof.Rows
theorem vals_ints : ∀ {vs : List Value} {ns : List Int}, IntsAre vs ns → Vals (ns.map V.int) vs
  | _, _, .nil => .nil
  | _, _, .cons n t h => .cons ⟨t, rfl⟩ (vals_ints h)
def Only (H : Hp) : Prop := ∀ b, H b = none ∨ ∃ o xs, H b = some (.frz o (.lst xs))
theorem law_call {P : Program} {w : World} {K : PySem.W.Frag} {mg mb : Str → Option Value} {CX : CXT} {k : Nat} {fa a : Addr} {fd : FuncData} {x : Str} {sp : Sp} {s₁ : Shared} {vs : List Value} {ns : List Int}
    (KX : K.In s₁.heap) (hns : s₁.heap.Ns mainGlobals mg) (hb : s₁.heap.Ns builtinsNs mb) (hbb : ∀ x : Str, x ≠ "__name__" → mb x = bootBuiltins x) (hlim : s₁.heap.NoLimit) (hg : s₁.gens = #[])
    (ha : s₁.heap.get? a = some { cls := .type "list", data := .seq vs.toArray }) (hi : IntsAre vs ns) (hl : ns.length ≤ sizeLine) (hr : Room k callerA)
    (F : ∀ base : Heap, K.In base → base.Ns mainGlobals mg → FnOk P w K mg base CX k fa fd [x] sp) (hbind : ∀ (s : Shared) (u : Value), BindsTo s fd ⟨[u], []⟩ [(x, u)])
    (hsp : ∀ H : Hp, Only H → SqL K H a (ns.map V.int) → sp [.ref a] H (fun v _ => v = .bl true) fun _ _ _ => False)
    (hCX : ∀ H e s', CX [] H s₁ (fun _ _ _ => False) e s' → False) :
    codeAny (model P w) callerA (.call (.ref fa) ⟨[.ref a], []⟩) (fun r s' => r = .ok (.ret (.bool true)) ∧ OldK s₁.heap s'.heap ∧ s'.os = s₁.os ∧ AllBare s'.gens) s₁ := by
  have rv := vals_ints hi
  have lenV := hi.length
  -- from an abstract heap in which nothing but the script may be tracked
  have core : ∀ H : Hp, Only H → SqL K H a (ns.map V.int) → HOk P w H s₁.heap → (∀ b, H b ≠ none → b = a) → (H a ≠ none → K.lookup a = none) →
      codeAny (model P w) callerA (.call (.ref fa) ⟨[.ref a], []⟩) (fun r s' => r = .ok (.ret (.bool true)) ∧ OldK s₁.heap s'.heap ∧ s'.os = s₁.os ∧ AllBare s'.gens) s₁ := by
    intro H hO hS hok hA hK
    have base_of : ∀ {b : Addr} {o : Obj}, s₁.heap.get? b = some o → H b = none → (hidT s₁.heap H).get? b = some o := fun e n => hidT_get e n
    have noA : ∀ {b : Addr} {o : Obj} {es : Array DictEntry} {ep : Nat}, s₁.heap.get? b = some o → o.data = .dict es ep → H b = none := fun {b o es ep} e d => by
      cases q : H b with
      | none => rfl
      | some u =>
        have e' : b = a := hA b (by rw [q]; simp)
        subst e'
        rw [ha] at e; cases e
        have d' : Data.seq vs.toArray _ = Data.dict es ep := d
        cases d'
    have nsK : ∀ {b : Addr} {m : Str → Option Value}, s₁.heap.Ns b m → (hidT s₁.heap H).Ns b m := fun {b m} ⟨o, es, ep, e, d, r⟩ => ⟨o, es, ep, base_of e (noA e d), d, r⟩
    have hKb : K.In (hidT s₁.heap H) := fun b o e => base_of (KX b o e) (by
      cases q : H b with
      | none => rfl
      | some u =>
        have e' : b = a := hA b (by rw [q]; simp)
        subst e'
        rw [hK (by rw [q]; simp)] at e; cases e)
    have hM : Mod K mg (hidT s₁.heap H) := ⟨hKb, nsK hns, ⟨mb, nsK hb, hbb⟩, let ⟨mc, h1, h2⟩ := hlim; ⟨mc, nsK h1, h2⟩⟩
    have e0 : Env0 P w K mg (hidT s₁.heap H) callerA [] s₁ H := ⟨rfl, hM, fun b o e => of_hidT e, Nat.le_of_eq (hidT_size _ _), trivial, fun b hb => absurd (show b ∈ ([] : List Addr) from hb) (by simp), hok, .of_eq hg⟩
    refine codeAny_mono ((F _ hKb (nsK hns)).run callerA [] s₁ H ⟨[.ref a], []⟩ [.ref a] [.ref a] _ _ hr e0 (hbind s₁ (.ref a)) (.cons rfl .nil) (hsp H hO hS)) fun r s' h => ?_
    cases r with
    | error e => exact (hCX H e s' h).elim
    | ok fl =>
      cases fl with
      | next => exact False.elim h
      | brk => exact False.elim h
      | cont => exact False.elim h
      | ret u =>
        obtain ⟨v, H', os, bare, un, hok', r', q⟩ := h
        have q' : v = .bl true := q
        subst q'
        obtain rfl : u = Value.bool true := r'
        refine ⟨rfl, OldK.of_keep fun b o e => ?_, os, bare⟩
        cases q : H b with
        | none => exact un.keep b o e q (by intro z; exact absurd (show b ∈ ([] : List Addr) from z) (by simp)) (by simp)
        | some u =>
          rcases hO b with z | ⟨ob, xs, z⟩
          · rw [q] at z; cases z
          · have z2 := un.frzs b ob _ z
            obtain ⟨e1, _⟩ := hok b _ z
            obtain ⟨e2, _⟩ := hok' b _ z2
            rw [e] at e1; cases e1
            exact e2
  cases hk : K.lookup a with
  | some o =>
    -- the script is one of the module's own objects
    have e := KX a o hk
    rw [ha] at e
    cases e
    refine core (fun _ => none) (fun _ => .inl rfl) (.inr ⟨_, vs.toArray, _, hk, rfl, rfl, rfl, by rw [List.size_toArray, lenV]; exact hl, by simpa using rv⟩) (fun b u z => by have z' : (none : Option HO) = some u := z; cases z') (fun b z => absurd rfl z) fun z => absurd rfl z
  | none =>
    refine core (fun b => if b = a then some (.frz { cls := .type "list", data := .seq vs.toArray } (.lst (ns.map V.int))) else none) (fun b => ?_) (.inl (.inr ⟨{ cls := .type "list", data := .seq vs.toArray }, if_pos rfl⟩)) (fun b u z => ?_) (fun b z => ?_) fun _ => hk
    · by_cases hb : b = a
      · exact .inr ⟨_, _, if_pos hb⟩
      · exact .inl (if_neg hb)
    · by_cases hb : b = a
      · have z' := (if_pos hb).symm.trans z
        cases z'
        subst hb
        exact ⟨ha, by rw [List.length_map]; exact hl, vs, _, rv, ha⟩
      · have z' := (if_neg hb).symm.trans z
        cases z'
    · by_cases hb : b = a
      · exact hb
      · exact absurd (if_neg hb) z
end L2
namespace L2
open PySem PySem.Spec PyProof.Rows
theorem walk_of {l : PySem.W.OpenLaw} {n k : Nat} {q : Program} {loose : List Str} {XP : (Str → Option Value) → Heap → Prop} {YP : World → Heap → Prop} {d : DefRec} {K : Params → PySem.W.Frag} {CX : World → CXT} {sp : World → Sp} {x : Str}
    (hn : l.most = some n) (hn2 : n ≤ sizeLine) (hdf : d.params.defaults = []) (hr : Room k callerA)
    (hY : ∀ (w : World) (h : Heap), YP w h → (K w.params).In h)
    (F : ∀ (w : World) (mg : Str → Option Value) (fa : Addr) (h : Heap), (K w.params).In h → h.Ns mainGlobals mg → mg d.name = some (.ref fa) →
      ∃ fd : FuncData, (∀ (s : Shared) (u : Value), BindsTo s fd ⟨[u], []⟩ [(x, u)]) ∧
        ∀ base : Heap, (K w.params).In base → base.Ns mainGlobals mg → FnOk l.prog w (K w.params) mg base (CX w) k fa fd [x] (sp w))
    (hsp : ∀ (w : World) (H : Hp) (a : Addr) (ns : List Int), ns.length ≤ n → Only H → SqL (K w.params) H a (ns.map V.int) → sp w [.ref a] H (fun v _ => v = .bl true) fun _ _ _ => False)
    (hCX : ∀ (w : World) (H : Hp) (s : Shared) (e : Value) (s' : Shared), CX w [] H s (fun _ _ _ => False) e s' → False) :
    PySem.W.WalkO q loose XP YP l.row.toRowW d [] (fun f vs => PySem.call f vs) := by
  refine Att.attach_call hn hdf fun w s₀ s₁ mg mb fa o pm cd doc a vs ns G Y ho hd hcd hmg hobj hints hlen hg => ?_
  have KX := hY w _ Y
  obtain ⟨fd, hb, hF⟩ := F w mg fa _ KX G.T.g hmg
  exact law_call KX G.T.g G.T.b G.T.builtins G.T.nolimit hg hobj hints (Nat.le_trans hlen hn2) hr hF hb (fun H hO hS => hsp w H a ns hlen hO hS) fun H e s' => hCX w H s₁ e s'
end L2
namespace L2
open PySem PySem.Spec PyProof.Rows
def defArgs (s : Stmt) : Arguments := match s with
  | .FunctionDef _ a _ _ _ _ _ _ _ _ => a
  | _ => { posonlyargs := [], args := [], vararg := none, kwonlyargs := [], kw_defaults := [], kwarg := none, defaults := [] }
def defBody (s : Stmt) : List Stmt := match s with
  | .FunctionDef _ _ b _ _ _ _ _ _ _ => b
  | _ => []
def defScope (s : Stmt) : Scope := match s with
  | .FunctionDef _ _ _ _ _ _ sc _ _ _ => sc
  | _ => { kind := .function, names := [], isGenerator := false, isCoroutine := false }
abbrev CX0 : CXT := fun _ _ _ _ _ _ => False
abbrev E0 : XK := fun _ _ _ => False
theorem pass0 {X : Cx} : Passes CX0 X E0 := fun _ _ _ _ _ _ _ h => h.elim
structure Fun (K : PySem.W.Frag) (x qual : Str) (st : Stmt) (f : Addr) (fd : FuncData) : Prop where
  ex : ∃ (oc : Value) (od : Option Addr) (kV doc pm : Value) (an : Option Addr) (cdv ct : Value) (osl : Array (Option Value)),
    fd = PySem.W.fnOf x qual (defArgs st) (defBody st) (defScope st) .none kV doc pm an cdv ct ∧ K.lookup f = some ⟨oc, od, .func fd, osl⟩ ∧ PySem.W.codeIn K cdv qual = true
  kp : PySem.W.keepIn K (.ref f) = true
section
variable {P : Program} {w : World} {K : PySem.W.Frag} {mg : Str → Option Value} {base : Heap}
theorem Fun.ok {x qual : Str} {st : Stmt} {f : Addr} {fd : FuncData} {N ps : List Str} {k : Nat} {sp : Sp} (F : Fun K x qual st f fd) (S : FnScope N ps (defScope st)) (len : ∀ vs H Q E, sp vs H Q E → vs.length = ps.length)
    (hbody : ∀ (cdv : Value) (A : Around) (outer : List Env) (s : Shared) (H : Hp) (vs : List V) (Q : VK) (E : XK), Room k (A.deeper (envOfC qual (defScope st) s.heap.objs.size f cdv)) → sp vs H Q E →
      ∃ t, PSs (cxOf CX0 P w K mg base N qual (defScope st) f cdv A outer s H E).nox (defBody st) t ∧ t { nx := fun _ H' => Q .non H', rt := Q } (start N vs) H) : FnOk P w K mg base CX0 (k + 1) f fd ps sp := by
  obtain ⟨oc, od, kV, doc, pm, an, cdv, ct, osl, rfl, lk, hcd⟩ := F.ex
  refine fn_of lk hcd S len fun A outer s H vs Q E hr hsp => ?_
  obtain ⟨t, h, q⟩ := hbody cdv A outer s H vs Q E hr hsp
  exact ⟨t, h.nox, q⟩
theorem Fun.binds {x qual : Str} {st : Stmt} {f : Addr} {fd : FuncData} {ps : List Str} (F : Fun K x qual st f fd)
    (h : ∀ (kV doc pm : Value) (an : Option Addr) (cdv ct : Value) (us : List Value), us.length = ps.length → bindArgs (PySem.W.fnOf x qual (defArgs st) (defBody st) (defScope st) .none kV doc pm an cdv ct) ⟨us, []⟩ = pure (ps.zip us)) : Binds K fd ps [] := by
  obtain ⟨oc, od, kV, doc, pm, an, cdv, ct, osl, rfl, lk, hcd⟩ := F.ex
  exact .all (h kV doc pm an cdv ct)
theorem fun_mk {x qual : Str} {st : Stmt} {f : Addr} {oc : Value} {od an : Option Addr} {osl : Array (Option Value)} {kV doc pm cdv ct : Value} (l : K.lookup f = some ⟨oc, od, .func (PySem.W.fnOf x qual (defArgs st) (defBody st) (defScope st) .none kV doc pm an cdv ct), osl⟩)
    (c : PySem.W.codeIn K cdv qual = true) (k : PySem.W.keepIn K (.ref f) = true) : Fun K x qual st f (PySem.W.fnOf x qual (defArgs st) (defBody st) (defScope st) .none kV doc pm an cdv ct) := ⟨⟨oc, od, kV, doc, pm, an, cdv, ct, osl, rfl, l, c⟩, k⟩
end
theorem small1000 {n : Nat} (h : n ≤ 1000) : n < sizeLine := Nat.lt_of_le_of_lt h (by decide)
section
variable {X : Cx}
theorem pv (i : Nat) {x : Str} {pos : Pos} (hN : X.N[i]? = some x := by rfl) (hv : Vis X.env.scope x := by first | exact Or.inl rfl | exact Or.inr (Or.inl rfl) | exact Or.inr (Or.inr rfl)) (hd : (x == ("__debug__" : Str)) = false := by decide)
    (hcd : (x == ("__classdict__" : Str)) = false := by decide) : PE X (.Name x pos) (tVar i) := pe_var hN hv hd hcd
end
theorem iteF {A B : Prop} (h : B) : if false = true then A else B := by
  rw [if_neg Bool.false_ne_true]
  exact h
theorem iteT {A B : Prop} (h : A) : if true = true then A else B := by
  rw [if_pos rfl]
  exact h
def Same (H H' : Hp) : Prop := ∀ b o, H b = some o → H' b = some o
theorem Same.refl (H : Hp) : Same H H := fun _ _ h => h
theorem Same.trans {H H1 H2 : Hp} (a : Same H H1) (b : Same H1 H2) : Same H H2 := fun c o h => b c o (a c o h)
theorem Same.free {H H' : Hp} (e : Same H H') {l : Addr} (h : H' l = Option.none) : H l = Option.none := by
  cases q : H l with
  | none => rfl
  | some o =>
    rw [e l o q] at h
    cases h
theorem Same.seq {K : PySem.W.Frag} {H H' : Hp} {a : Addr} {xs : List V} (e : Same H H') (h : SqL K H a xs) : SqL K H' a xs := by
  rcases h with (h | ⟨o, h⟩) | h
  · exact .inl (.inl (e _ _ h))
  · exact .inl (.inr ⟨o, e _ _ h⟩)
  · exact .inr h
end L2

set_option maxHeartbeats 4000000
namespace L2
open PySem PySem.Spec PyProof.Rows
section
variable {κ : Type} [DecidableEq κ]
end
section
variable {P : Program} {w : World} {H : Hp} {h : Heap} {a : Addr}
end
section
variable {X : Cx} {pins : List (Addr × Obj)} {σ : St} {H : Hp} {s : Shared} {a : Addr} {y v : V} {u r : Value} {o : Option V} {A : Around} {E : Value → Shared → Prop}
end
section
variable {X : Cx} {pins : List (Addr × Obj)} {σ : St} {H : Hp} {s : Shared} {a : Addr} {kvs : List (Key × V)} {k : Key} {u : Value} {A : Around} {E : Value → Shared → Prop}
end
section
variable {X : Cx} {o i e value : Expr} {pos pos' tpos : Pos} {td ty tv : TE}
end
section
variable {X : Cx} {pos : Pos}
end
section
variable {X : Cx} {pins : List (Addr × Obj)} {σ : St} {H : Hp} {s : Shared} {a : Addr} {y d : V} {u r : Value} {o : Option V} {A : Around} {E : Value → Shared → Prop}
end
section
variable {X : Cx} {o e f : Expr} {apos cpos : Pos} {td ty tx : TE}
end
section
variable {X : Cx} {pins : List (Addr × Obj)} {σ : St} {H : Hp} {s : Shared} {a : Addr} {kvs : List (Key × V)} {A : Around} {E : Value → Shared → Prop}
end
section
variable {X : Cx} {pins : List (Addr × Obj)} {σ : St} {H : Hp} {s : Shared} {a : Addr} {y : V} {u : Value} {A : Around} {E : Value → Shared → Prop}
end
end L2
namespace L2
open PySem PySem.Spec PyProof.Rows
section
variable {X : Cx}
end
section
variable {κ : Type} [DecidableEq κ]
end
end L2

set_option maxHeartbeats 4000000
namespace L2
open PySem PySem.Spec PyProof.Rows
def cxComp (X : Cx) (scope : Scope) (cl : List (Str × Addr)) (C : Addr) (N : List Str) (fp : List Addr) (s₂ : Shared) (H₂ : Hp) : Cx where
  prog := X.prog
  w := X.w
  K := X.K
  mg := X.mg
  base := X.base
  A := X.A
  N := N
  s₀ := s₂
  H₀ := H₂
  env := compEnvC scope cl C X.env
  outer := X.stack
  stack := X.stack
  ex := fp
  fn := fun _ => false
  calm := X.calm
  pn := []
  xe := fun _ _ => False
theorem relabel_free {scope : Scope} {env : Env} {y : Str} (nc : ∀ z ∈ scope.names, z.2 ≠ .cell) (h : (relabel scope env).names.lookup y = some .cell ∨ (relabel scope env).names.lookup y = some .free) : scope.names.lookup y = some .free := by
  have key : ∀ (l : List (Str × NameKind)), (∀ z ∈ l, z.2 ≠ .cell) → ((l.map fun (n, k) => if (k == NameKind.free && env.scope.kind == .function && env.kindOf n == some .cell) then (n, NameKind.cell) else (n, k)).lookup y = some .cell ∨
      (l.map fun (n, k) => if (k == NameKind.free && env.scope.kind == .function && env.kindOf n == some .cell) then (n, NameKind.cell) else (n, k)).lookup y = some .free) → l.lookup y = some .free := by
    intro l
    induction l with
    | nil => intro _ h; rcases h with h | h <;> simp at h
    | cons p r ih =>
      obtain ⟨n, k⟩ := p
      intro hn h
      have hr := ih (fun z hz => hn z (List.mem_cons_of_mem _ hz))
      have hk : k ≠ .cell := hn (n, k) List.mem_cons_self
      by_cases hc : (k == NameKind.free && env.scope.kind == .function && env.kindOf n == some .cell) = true
      · have kf : k = .free := by
          rw [Bool.and_eq_true, Bool.and_eq_true] at hc
          exact eq_of_beq hc.1.1
        subst kf
        simp only [List.map_cons, if_pos hc] at h
        cases hx : y == n with
        | true => simp only [List.lookup_cons, hx]
        | false =>
          simp only [List.lookup_cons, hx] at h ⊢
          exact hr h
      · simp only [List.map_cons, if_neg hc] at h
        cases hx : y == n with
        | true =>
          simp only [List.lookup_cons, hx] at h ⊢
          rcases h with h | h
          · cases h; exact absurd rfl hk
          · exact h
        | false =>
          simp only [List.lookup_cons, hx] at h ⊢
          exact hr h
  exact key scope.names nc h
theorem free_relabel {scope : Scope} {env : Env} {y : Str} (h : scope.names.lookup y = some .free) : (relabel scope env).names.lookup y = some .cell ∨ (relabel scope env).names.lookup y = some .free := by
  have key : ∀ (l : List (Str × NameKind)), l.lookup y = some .free → ((l.map fun (n, k) => if (k == NameKind.free && env.scope.kind == .function && env.kindOf n == some .cell) then (n, NameKind.cell) else (n, k)).lookup y = some .cell ∨
      (l.map fun (n, k) => if (k == NameKind.free && env.scope.kind == .function && env.kindOf n == some .cell) then (n, NameKind.cell) else (n, k)).lookup y = some .free) := by
    intro l
    induction l with
    | nil => intro h; simp at h
    | cons p r ih =>
      obtain ⟨n, k⟩ := p
      intro h
      by_cases hc : (k == NameKind.free && env.scope.kind == .function && env.kindOf n == some .cell) = true
      · simp only [List.map_cons, if_pos hc]
        cases hx : y == n with
        | true => simp only [List.lookup_cons, hx]; exact .inl trivial
        | false =>
          simp only [List.lookup_cons, hx] at h ⊢
          exact ih h
      · simp only [List.map_cons, if_neg hc]
        cases hx : y == n with
        | true => simp only [List.lookup_cons, hx] at h ⊢; exact .inr h
        | false =>
          simp only [List.lookup_cons, hx] at h ⊢
          exact ih h
  exact key scope.names h
structure CompScope (X : Cx) (scope : Scope) (cl : List (Str × Addr)) (T : List Str) (caps : List Nat) (cn : List Str) : Prop where
  kind : scope.kind = .function
  clos : closureFor scope X.env = pure cl
  ncell : ∀ y ∈ scope.names, y.2 ≠ .cell
  names : ∀ y ∈ scope.names, y.2 = .local → scope.names.lookup y.1 = some .local
  sub : ∀ y c, cl.lookup y = some c → X.env.cells.lookup y = some c
  has : ∀ y, scope.names.lookup y = some .free → ∃ c, cl.lookup y = some c
  cap : Paired (fun (j : Nat) (y : Str) => X.N[j]? = some y ∧ (X.env.kindOf y = some .cell ∨ X.env.kindOf y = some .free) ∧ scope.names.lookup y = some .free) caps cn
def st0 (n : Nat) (caps : List Nat) (σ : St) : St := List.replicate n none ++ caps.map fun j => (σ[j]?).getD none
def Le (σ σ' : St) : Prop := σ.length = σ'.length ∧ ∀ (i : Nat) v, σ[i]? = some (some v) → σ'[i]? = some (some v)
theorem Le.one {r : St} {x : Option V} : Le (none :: r) (x :: r) := ⟨rfl, fun i v h => by
  cases i with
  | zero => simp at h
  | succ i => simpa using h⟩
def PTs (X : Cx) (ifs : List Expr) (t : TT) : Prop :=
  ∀ (pins : List (Addr × Obj)) (s : Shared) (σ : St) (H : Hp) (Q : Bool → Hp → Prop), Inv X pins σ H s → t σ H Q →
    wpAny (model X.prog X.w) X.A (forIn ifs true fun c r => if r = true then do let ok ← isTrue c X.env (eval c X.env); pure (ForInStep.yield ok) else pure (ForInStep.yield r)) (TP X pins σ Q) X.xe s
def tYes : TT := fun _ H Q => Q true H
theorem pts_nil {X : Cx} : PTs X [] tYes := fun pins s σ H Q I h => wpAny_tests_nil ⟨H, I, h⟩
theorem pts_one {X : Cx} {c : Expr} {t : TT} (h : PT X c t) : PTs X [c] t := fun pins s σ H Q I q => wpAny_tests_one (h pins s σ H Q I q)
theorem compLoop_all {prog : Program} {w : World} {A : Around} {R : Result → Shared → Prop} {s : Shared} {elt target iter : Expr} {ifs : List Expr} {scope : Scope} {pos : Pos} {it acc : Value} {env : Env} (I : Nat → Shared → Prop)
    (turn : ∀ n s, I n s → wpAny (model prog w) A (pyNext it) (fun r s₁ => match r with
      | none => R (.ok .next) s₁
      | some v => wpAny (model prog w) A (letOwnedTupleGo target it v) (fun _ s₀ => wpAny (model prog w) A (assign target env v) (fun _ s₂ =>
          wpAny (model prog w) A (forIn ifs true fun c r => if r = true then do let ok ← isTrue c env (eval c env); pure (ForInStep.yield ok) else pure (ForInStep.yield r)) (fun ok s₃ =>
            if ok = true then wpAny (model prog w) A (eval elt env) (fun x s₄ =>
              wpAny (model prog w) A (call (.builtin "list.append") [acc, x]) (fun _ s₅ => ∃ m, m < n ∧ I m s₅) (fun _ _ => False) s₄) (fun _ _ => False) s₃
            else ∃ m, m < n ∧ I m s₃) (fun _ _ => False) s₂) (fun _ _ => False) s₀) (fun _ _ => False) s₁) (fun _ _ => False) s)
    (n : Nat) (h : I n s) :
    codeAny (model prog w) A (.compLoop (.ListComp elt [⟨target, iter, ifs, 0⟩] scope pos) 0 it acc env) R s := by
  refine codeAny_loop rfl I (fun n s hI => ?_) n h
  show wpAny _ A ((compTurn (.ListComp elt [⟨target, iter, ifs, 0⟩] scope pos) 0 it acc env).onRaise (fun x => do noteFrame x env; theTreesLotGoes x)) _ _ s
  refine wpAny_noted ?_
  rw [compTurn_list]
  refine wpAny_bind (wpAny_standAt (wpAny_bind (wpAny_mono (turn n s hI) (fun r s₁ h₁ => ?_) fun _ _ h' => h'.elim)))
  cases r with
  | none => exact wpAny_pure h₁
  | some v =>
    refine wpAny_bind (wpAny_mono h₁ (fun _ s₀ h₀ => ?_) fun _ _ h' => h'.elim)
    refine wpAny_bind (wpAny_mono h₀ (fun _ s₂ h₂ => wpAny_bind (wpAny_mono h₂ (fun ok s₃ h₃ => ?_) fun _ _ h' => h'.elim)) fun _ _ h' => h'.elim)
    cases ok with
    | false => exact wpAny_pure ⟨rfl, h₃⟩
    | true =>
      exact wpAny_bind (wpAny_bind (wpAny_mono h₃ (fun x s₄ h₄ => wpAny_bind (wpAny_mono h₄ (fun _ s₅ h₅ => wpAny_pure (wpAny_pure ⟨rfl, h₅⟩)) fun _ _ h' => h'.elim)) fun _ _ h' => h'.elim))
section
variable {X : Cx} {scope : Scope} {cl : List (Str × Addr)} {T cn : List Str} {caps : List Nat} {pins : List (Addr × Obj)} {σ : St} {H2 : Hp} {s2 : Shared} {C : Addr} {h₁ : Heap} {tk : Nat} {fp : List Addr} {ix : Addr}
theorem comp_start (S : CompScope X scope cl T caps cn) (I2 : Inv X pins σ H2 s2) (f2 : ∀ b ∈ fp, FpOk X pins H2 b) (fo : ∀ b ∈ fp, b < s2.heap.objs.size)
    (hC : C = s2.heap.objs.size + 1) (old : ∀ b o, s2.heap.get? b = some o → h₁.get? b = some o) (hacc : ∃ n, h₁.get? s2.heap.objs.size = some { cls := .type "list", data := .seq #[] n }) (hns : h₁.Ns C fun _ => none) :
    Inv (cxComp X scope cl C (T ++ cn) fp s2 H2) [] (st0 T.length caps σ) (upd H2 s2.heap.objs.size (.lst [])) { s2 with heap := h₁, toks := tk } := by
  have hfr : H2 s2.heap.objs.size = none := I2.fresh
  have lt_of : ∀ y c, cl.lookup y = some c → c < s2.heap.objs.size := fun y c e => by
    obtain ⟨v, o, ho, _⟩ := I2.cell y c (S.sub y c e)
    exact Heap.lt_size ho
  refine ⟨⟨I2.ok.mod, S.kind, I2.ok.glob, I2.ok.blt, by show s2.heap.objs.size ≤ C; rw [hC]; exact Nat.le_succ _, fun y z c h1 h2 => I2.ok.inj y z c (S.sub y c h1) (S.sub z c h2), fun y hy => S.has y (relabel_free S.ncell hy), fun y c hf _ => (Bool.false_ne_true hf).elim,
    I2.ok.hd, I2.ok.frames, .inl rfl, fun b hb => ⟨?_, fun y c e => ?_⟩, I2.bs, Nat.le_trans I2.ok.bsz I2.sz, fun b o e hb => ?_, fun b hb hs => ?_, I2.stack, I2.stkFree⟩, rfl, I2.bare, Un.laid old (Nat.le_refl _) hfr, ⟨_, hns, fun i y v e1 e2 e3 => ?_⟩, fun y c e => ?_, ?_, fun y c e => ?_, fun p hp => ?_, I2.hok.laid old (Nat.le_refl _) ?_, ?_⟩
  · show b ≠ C
    rw [hC]
    exact Nat.ne_of_lt (Nat.lt_succ_of_lt (fo b hb))
  · exact (f2 b hb).2.2.2.2.1 y c (S.sub y c e)
  · have h0 := I2.ok.bs b o e
    rcases (f2 b hb).2.2.2.1 with z | z
    · exact I2.ok.noex b o e z
    · exact absurd (Nat.lt_of_lt_of_le (Heap.lt_size h0.1) z) (Nat.lt_irrefl _)
  · rcases List.mem_cons.mp (I2.stkSub b hs) with z | z
    · exact (f2 b hb).2.1 z
    · exact (f2 b hb).2.2.1 z
  · -- the slots
    have hT : T.length ≤ i := by
      by_cases hi : i < T.length
      · unfold st0 at e2
        rw [List.getElem?_append_left (by simpa using hi), List.getElem?_replicate] at e2
        split at e2 <;> cases e2
      · omega
    obtain ⟨k, rfl⟩ : ∃ k, i = T.length + k := ⟨i - T.length, by omega⟩
    have e1' : cn[k]? = some y := by
      have q : (T ++ cn)[T.length + k]? = some y := e1
      rw [List.getElem?_append_right (by omega)] at q
      simpa using q
    have e2' : (caps.map fun j => (σ[j]?).getD none)[k]? = some (some v) := by
      unfold st0 at e2
      rw [List.getElem?_append_right (by simp)] at e2
      simpa using e2
    have pr : ∀ {cs : List Nat} {ns : List Str} {k : Nat}, Paired (fun (j : Nat) (y : Str) => X.N[j]? = some y ∧ (X.env.kindOf y = some .cell ∨ X.env.kindOf y = some .free) ∧ scope.names.lookup y = some .free) cs ns →
        ns[k]? = some y → (cs.map fun j => (σ[j]?).getD none)[k]? = some (some v) → ∃ (j : Nat), X.N[j]? = some y ∧ (X.env.kindOf y = some .cell ∨ X.env.kindOf y = some .free) ∧ scope.names.lookup y = some .free ∧ σ[j]? = some (some v) := by
      intro cs ns k p
      induction p generalizing k with
      | nil => intro q; simp at q
      | cons a t ih =>
        rename_i j0 y0 l1 l2
        cases k with
        | zero =>
          intro q1 q2
          simp at q1 q2
          subst q1
          refine ⟨j0, a.1, a.2.1, a.2.2, ?_⟩
          cases e : σ[j0]? with
          | none => rw [e] at q2; simp at q2
          | some z => rw [e] at q2; simp at q2; rw [q2]
        | succ k => intro q1 q2; exact ih (by simpa using q1) (by simpa using q2)
    obtain ⟨j, n1, kd, fr, sv⟩ := pr S.cap e1' e2'
    obtain ⟨m, hn, hl⟩ := I2.loc
    obtain ⟨u, r, lk⟩ := hl j y v n1 sv (by rcases kd with z | z; exact .inr (.inl z); exact .inr (.inr z))
    refine ⟨u, r, .inr ⟨free_relabel fr, ?_⟩⟩
    obtain ⟨c, hc⟩ := S.has y fr
    rcases lk with ⟨z, _⟩ | ⟨_, c', hc', hcell⟩
    · rcases kd with q | q <;> (rw [z] at q; cases q)
    · have : c = c' := by
        have := S.sub y c hc
        rw [hc'] at this
        exact (Option.some.inj this).symm
      subst this
      obtain ⟨o, ho, hd⟩ := hcell
      exact ⟨c, hc, o, old c o ho, hd⟩
  · obtain ⟨v, o, ho, hd⟩ := I2.cell y c (S.sub y c e)
    exact ⟨v, o, old c o ho, hd⟩
  · show upd H2 s2.heap.objs.size (.lst []) C = none
    rw [upd_ne (by rw [hC]; exact Nat.succ_ne_self _)]
    exact I2.hok.fresh (by rw [hC]; exact Nat.le_succ _)
  · rw [upd_ne (Nat.ne_of_lt (lt_of y c e))]
    exact I2.freeC y c (S.sub y c e)
  · exact absurd (show p ∈ ([] : List (Addr × Obj)) from hp) (by simp)
  · obtain ⟨n, e⟩ := hacc
    exact ⟨Nat.zero_le _, [], n, .nil, e⟩
  · have hp : ∀ {cs : List Nat} {ns : List Str} {F : Nat → Str → Prop}, Paired F cs ns → cs.length = ns.length := fun p => Paired.length p
    show (st0 T.length caps σ).length = (T ++ cn).length
    unfold st0
    rw [List.length_append, List.length_replicate, List.length_map, List.length_append, hp S.cap]
theorem comp_end (I2 : Inv X pins σ H2 s2) (f2 : ∀ b ∈ fp, FpOk X pins H2 b) (hC : s2.heap.objs.size ≤ C) {N : List Str} {σ' : St} {H' : Hp} {s' : Shared} (J : Inv (cxComp X scope cl C N fp s2 H2) [] σ' H' s') :
    ∃ oC m, s'.heap.get? C = some oC ∧ s'.heap.Ns C m ∧ Inv X (pins ++ [(C, oC)]) σ H' s' ∧ FpOk X pins H' C := by
  obtain ⟨m, hn, _⟩ := J.loc
  obtain ⟨oC, es, ep, ho, hd, hrest⟩ := id hn
  have I3 : Inv X pins σ H' s' := I2.call' (ch := fp) J.os J.base J.hok J.bare fun b hb => ⟨(f2 b hb).2.2.2.1, (f2 b hb).2.1, (f2 b hb).2.2.2.2.1, (f2 b hb).2.2.2.2.2⟩
  have fC : FpOk X pins H' C := I2.fpOk hC J.free
  refine ⟨oC, m, ho, hn, I3.pins_of fun p hp => ?_, fC⟩
  rcases List.mem_append.mp hp with z | z
  · exact I3.pin p (List.mem_append_right _ z)
  · have e : p = (C, oC) := by simpa using z
    subst e
    exact ⟨ho, fC.1, fC.2.1, fC.2.2.1, fun v q => by rw [hd] at q; cases q⟩
end
def CompW (J : It) (D : Addr) (H1 : Hp) (σ0 : St) (g : TG) (tt : TT) (te : TE) (Q : VK) : Prop := ∃ W : Nat → Nat → List V → Hp → Prop, (∃ m, W 0 m [] (upd H1 D (.lst []))) ∧
  ∀ i m ys H, W i m ys H → H D = some (.lst ys) ∧ ((J.stop i H ∧ Q (.ref D) H) ∨ (J.go i H ∧ ∀ x H', J.yld i H x H' → g x σ0 H' fun σ2 H2 => Le σ0 σ2 ∧ tt σ2 H2 fun b H3 =>
    if b = true then te σ2 H3 fun y H4 => H4 D = some (.lst ys) ∧ ys.length < sizeLine ∧ ∃ m', m' < m ∧ W (i + 1) m' (ys ++ [y]) (upd H4 D (.lst (ys ++ [y]))) else ∃ m', m' < m ∧ W (i + 1) m' ys H3))
def rComp (n : Nat) (caps : List Nat) (wi : TI) (g : TG) (tt : TT) (te : TE) : TE := fun σ H Q => wi σ H fun J H1 => ∀ D, H1 D = none → CompW J D H1 (st0 n caps σ) g tt te Q
section
variable {X : Cx} {scope : Scope} {cl : List (Str × Addr)} {T cn : List Str} {caps : List Nat} {elt tg iter : Expr} {ifs : List Expr} {wi : TI} {g : TG} {tt : TT} {te : TE} {pos : Pos}
theorem comp_block (S : CompScope X scope cl T caps cn) (hc : X.calm = true) (hg : ∀ C fp s₂ H₂, PG (cxComp X scope cl C (T ++ cn) fp s₂ H₂) tg g) (ht : ∀ C fp s₂ H₂, PTs (cxComp X scope cl C (T ++ cn) fp s₂ H₂) ifs tt)
    (he : ∀ C fp s₂ H₂, PE (cxComp X scope cl C (T ++ cn) fp s₂ H₂) elt te) {pins : List (Addr × Obj)} {σ : St} {H2 : Hp} {s2 : Shared} {it : Addr} {fp : List Addr} {tn : Nat → Heap → Prop} {J : It} {E : Value → Shared → Prop} {Q : VK}
    {RR : Value → Addr → Result → Shared → Prop} (I2 : Inv X pins σ H2 s2) (Tn : Turn X.prog X.w X.K tg J fp it tn) (st2 : tn 0 s2.heap) (f2 : ∀ b ∈ fp, FpOk X pins H2 b)
    (q : ∀ D, H2 D = none → CompW J D H2 (st0 T.length caps σ) g tt te Q)
    (fin : ∀ D C oC m H' s', Inv X (pins ++ [(C, oC)]) σ H' s' → s'.heap.get? C = some oC → s'.heap.Ns C m → FpOk X pins H' C → Q (.ref D) H' → RR (.ref D) C (.ok .next) s') :
    wpAny (model X.prog X.w) X.A (newList []) (fun acc s₃ => wpAny (model X.prog X.w) X.A (newFunctionEnv scope X.env.globals cl [] X.env.qual none .none (some X.env)) (fun cenv s₄ =>
      codeAny (model X.prog X.w) X.A (.compStart (.ListComp elt [⟨tg, iter, ifs, 0⟩] scope pos) 0 (.ref it) acc { cenv with scope := relabel scope X.env }) (RR acc cenv.locals) s₄) E s₃) E s2 := by
  refine wpAny_newObj_type (wpAny_newFunctionEnv S.ncell (by intro y hy; simp at hy) (fun h₁ hns₁ hsb₁ => ?_) S.kind)
  dsimp only at hns₁ hsb₁ ⊢
  generalize hH2 : s2.heap.push { cls := .type "list", dict := none, data := .seq ([] : List Value).toArray } = G2 at hns₁ hsb₁ ⊢
  have hC : G2.objs.size = s2.heap.objs.size + 1 := by rw [← hH2, Heap.size_push]
  have hDC : s2.heap.objs.size ≠ G2.objs.size := by omega
  have old : ∀ b o, s2.heap.get? b = some o → h₁.get? b = some o := fun b o e => hsb₁.extBut b o (by rw [hC]; exact Nat.ne_of_lt (Nat.lt_succ_of_lt (Heap.lt_size e))) (Heap.get?_push_of_some _ (hH2 ▸ Heap.get?_push_of_some _ e))
  have hacc : ∃ n, h₁.get? s2.heap.objs.size = some { cls := .type "list", data := .seq #[] n } := ⟨_, hsb₁.extBut _ _ hDC (Heap.get?_push_of_some _ (hH2 ▸ Heap.get?_push_size _ rfl))⟩
  have fo : ∀ b ∈ fp, b < s2.heap.objs.size := fun b hb => by
    obtain ⟨o, e, _⟩ := Tn.obj 0 _ st2 b hb
    exact Heap.lt_size e
  obtain ⟨W, ⟨m0, w0⟩, turn⟩ := q s2.heap.objs.size I2.fresh
  have st1 : tn 0 h₁ := Tn.keep 0 _ _ st2 fun b hb o e => old b o e
  have fr0 : ∀ b ∈ fp, upd H2 s2.heap.objs.size (.lst []) b = none := fun b hb => by rw [upd_ne (Nat.ne_of_lt (fo b hb))]; exact (f2 b hb).1
  have loop : ∀ s₃ : Shared, s₃ = { s2 with heap := h₁, toks := s2.toks + ([] : List (Str × Value)).length } →
      codeAny (model X.prog X.w) X.A (.compLoop (.ListComp elt [⟨tg, iter, ifs, 0⟩] scope pos) 0 (.ref it) (.ref s2.heap.objs.size) (compEnvC scope cl G2.objs.size X.env)) (RR (.ref s2.heap.objs.size) G2.objs.size) s₃ := by
    intro s₃ hs3
    have I0 : Inv (cxComp X scope cl G2.objs.size (T ++ cn) fp s2 H2) [] (st0 T.length caps σ) (upd H2 s2.heap.objs.size (.lst [])) s₃ := by
      rw [hs3]
      exact comp_start S I2 f2 fo hC old hacc (by simpa using hns₁)
    have st3 : tn 0 s₃.heap := by rw [hs3]; exact st1
    have stat : ∀ {H' : Hp}, (∀ b ∈ fp, H' b = none) → ∀ b ∈ fp, FpOk (cxComp X scope cl G2.objs.size (T ++ cn) fp s2 H2) [] H' b := fun {H'} hn b hb => by
      refine ⟨hn b hb, ?_, fun hs => ?_, .inl hb, fun y c e => (f2 b hb).2.2.2.2.1 y c (S.sub y c e), fun p hp => absurd (show p ∈ ([] : List (Addr × Obj)) from hp) (by simp)⟩
      · show b ≠ G2.objs.size
        rw [hC]
        exact Nat.ne_of_lt (Nat.lt_succ_of_lt (fo b hb))
      · rcases List.mem_cons.mp (I2.stkSub b hs) with z | z
        · exact (f2 b hb).2.1 z
        · exact (f2 b hb).2.2.1 z
    refine compLoop_all (fun n s' => ∃ i ys H', Inv (cxComp X scope cl G2.objs.size (T ++ cn) fp s2 H2) [] (st0 T.length caps σ) H' s' ∧ tn i s'.heap ∧ (∀ b ∈ fp, H' b = none) ∧ W i n ys H') ?_ m0 ⟨0, [], _, I0, st3, fr0, w0⟩
    rintro n s4 ⟨i, ys, H4, I4, st4, fr4, w4⟩
    obtain ⟨hD, tr⟩ := turn i n ys H4 w4
    rcases tr with ⟨stop, qn⟩ | ⟨go, step⟩
    · refine thn (Tn.done (cxComp X scope cl G2.objs.size (T ++ cn) fp s2 H2) rfl rfl rfl hc i [] s4 (st0 T.length caps σ) H4 (fun _ _ => False) I4 (stat fr4) st4 stop) fun r s5 ⟨hr, I5⟩ => ?_
      subst hr
      obtain ⟨oC, m, a1, a2, a3, a4⟩ := comp_end I2 f2 (by omega) I5
      exact fin _ _ oC m H4 s5 a3 a1 a2 a4 qn
    · refine thn (Tn.item (cxComp X scope cl G2.objs.size (T ++ cn) fp s2 H2) rfl rfl rfl hc i [] s4 (st0 T.length caps σ) H4 (fun _ _ => False) I4 (stat fr4) st4 go) fun r s5 ⟨u, hr, h5⟩ => ?_
      subst hr
      refine thn h5 fun _ s6 ⟨x, H6, I6, r6, y6, st6, fr6⟩ => ?_
      have I6' := I6.pinned (stat fr6) (Tn.obj _ _ st6)
      refine thn (hg _ fp s2 H2 _ s6 _ H6 x u _ I6' r6 (step x H6 y6)) fun _ s7 ⟨σ7, H7, I7, le7, q7⟩ => ?_
      have again : ∀ {σ8 : St} {H8 : Hp} {s8 : Shared} {zs : List V} {m' : Nat}, Le (st0 T.length caps σ) σ8 → Inv (cxComp X scope cl G2.objs.size (T ++ cn) fp s2 H2) ([] ++ pinsAt fp s6.heap) σ8 H8 s8 → m' < n → W (i + 1) m' zs H8 →
          ∃ m, m < n ∧ ∃ i ys H', Inv (cxComp X scope cl G2.objs.size (T ++ cn) fp s2 H2) [] (st0 T.length caps σ) H' s8 ∧ tn i s8.heap ∧ (∀ b ∈ fp, H' b = none) ∧ W i m ys H' := fun {σ8 H8 s8 zs m'} le I8 hm w8 => by
        refine ⟨m', hm, i + 1, zs, H8, I8.unpinned.weak le.1 le.2, Tn.keep _ _ _ st6 fun b hb o e => (I8.pin (b, o) (List.mem_append_right _ (List.mem_append_right _ (mem_pinsAt hb e)))).1, fun b hb => ?_, w8⟩
        obtain ⟨o, e, d⟩ := Tn.obj _ _ st6 b hb
        exact (I8.pin (b, o) (List.mem_append_right _ (List.mem_append_right _ (mem_pinsAt hb e)))).2.1
      refine thn (ht _ fp s2 H2 _ s7 σ7 H7 _ I7 q7) fun ok s8 ⟨H8, I8, q8⟩ => ?_
      cases ok with
      | false =>
        rw [if_neg Bool.false_ne_true] at q8 ⊢
        obtain ⟨m', hm, w8⟩ := q8
        exact again le7 I8 hm w8
      | true =>
        rw [if_pos rfl] at q8 ⊢
        refine thn (he _ fp s2 H2 _ s8 σ7 H8 _ I8 q8) fun v9 s9 ⟨y, H9, I9, r9, hD9, hz9, m', hm, w9⟩ => ?_
        refine thn (mt_append _ s9 σ7 H9 (.ref s2.heap.objs.size) [y] (.ref s2.heap.objs.size) [v9] (fun _ H => H = upd H9 s2.heap.objs.size (.lst (ys ++ [y]))) I9 rfl (.cons r9 .nil) ⟨_, ys, y, rfl, rfl, hD9, hz9, rfl⟩) fun _ s10 ⟨_, H10, I10, _, e10⟩ => ?_
        subst e10
        exact again le7 I10 hm w9
  exact codeAny_compStart_list (loop _ rfl) (Tn.self X.A 0 _ _ _ st1 (loop _ rfl))
theorem pe_comp (S : CompScope X scope cl T caps cn) (hc : X.calm = true) (hi : PI X tg iter wi) (hg : ∀ C fp s₂ H₂, PG (cxComp X scope cl C (T ++ cn) fp s₂ H₂) tg g) (ht : ∀ C fp s₂ H₂, PTs (cxComp X scope cl C (T ++ cn) fp s₂ H₂) ifs tt)
    (he : ∀ C fp s₂ H₂, PE (cxComp X scope cl C (T ++ cn) fp s₂ H₂) elt te) (hs : ∀ x, foldedSetIterable iter X.env x = pure x := by intro _; rfl) :
    PE X (.ListComp elt [⟨tg, iter, ifs, 0⟩] scope pos) (rComp T.length caps wi g tt te) := by
  intro pins s σ H Q I h
  rw [eval_ListComp]
  refine wpAny_comprehension_free (use := none) rfl hs S.clos S.kind S.names (thn (hi pins s σ H _ I h) fun v s1 h1 => thn h1 fun itv s2 h2 => ?_)
  obtain ⟨it, fp, tn, J, H2, e, I2, Tn, st2, f2, q⟩ := h2
  subst e
  refine comp_block (RR := fun acc C => compPost (model X.prog X.w) X.A X.xe none (EP X pins σ Q) acc C) S hc hg ht he I2 Tn st2 f2 q fun D C oC m H' s' I' ho hn fC qD => ?_
  refine ⟨m, hn, fun h' hs' => ⟨.ref D, H', ?_, rfl, qD⟩⟩
  obtain ⟨hp, g, d, t, os⟩ := s'
  exact I'.unpinned.turned (fun b o hb e => (hs'.2 b hb).trans e) fC.1 fC.2.1 fC.2.2.2.1 fC.2.2.2.2.1 fC.2.2.2.2.2
def sComp (i : Nat) (t : TE) : TS := fun D σ H => t σ H fun x H1 => D.nx (σ.set i (some x)) H1
theorem ps_comp {i : Nat} {y : Str} {py spos : Pos} (hN : X.N.Nodup) (hi' : X.N[i]? = some y) (hy : Loc X.env.scope y) (S : CompScope X scope cl T caps cn) (hc : X.calm = true) (hi : PI X tg iter wi)
    (hg : ∀ C fp s₂ H₂, PG (cxComp X scope cl C (T ++ cn) fp s₂ H₂) tg g) (ht : ∀ C fp s₂ H₂, PTs (cxComp X scope cl C (T ++ cn) fp s₂ H₂) ifs tt)
    (he : ∀ C fp s₂ H₂, PE (cxComp X scope cl C (T ++ cn) fp s₂ H₂) elt te) (hsw : swapsWith (.ListComp elt [⟨tg, iter, ifs, 0⟩] scope pos) (some (.Name y py)) spos.line X.env = pure true := by rfl)
    (hf : X.fn y = true ∨ X.env.scope.names.lookup y = some .local := by first | exact .inl rfl | exact .inr rfl | assumption)
    (hs : ∀ x, foldedSetIterable iter X.env x = pure x := by intro _; rfl) :
    PS X (.Assign [.Name y py] (.ListComp elt [⟨tg, iter, ifs, 0⟩] scope pos) spos) (sComp i (rComp T.length caps wi g tt te)) := by
  intro pins s σ H D I h
  rw [exec_Assign_Name_used _ _ _ _ hsw]
  refine wpAny_bind (wpAny_standAt (wpAny_bind ?_))
  show wpAny _ X.A (do let _ ← comprehension (.ListComp elt [⟨tg, iter, ifs, 0⟩] scope pos) scope X.env _ (newList []) false (eval iter X.env) (some (assign (.Name y py) X.env))) _ _ s
  refine wpAny_bind (wpAny_mono (wpAny_comprehension_free (use := some (assign (.Name y py) X.env)) (Q := fun _ s' => SP X pins D .next s') rfl hs S.clos S.kind S.names
    (thn (hi pins s σ H _ I h) fun v s1 h1 => thn h1 fun itv s2 h2 => ?_)) (fun _ s' hq => wpAny_pure (wpAny_pure hq)) fun _ _ e => e)
  obtain ⟨it, fp, tn, J, H2, e, I2, Tn, st2, f2, q⟩ := h2
  subst e
  refine comp_block (Q := fun x H1 => D.nx (σ.set i (some x)) H1) (RR := fun acc C => compPost (model X.prog X.w) X.A X.xe (some (assign (.Name y py) X.env)) (fun _ s' => SP X pins D .next s') acc C) S hc hg ht he I2 Tn st2 f2 q fun Dd C oC m H' s' I' ho hn fC qD => ?_
  show wpAny _ X.A (assign (.Name y py) X.env (.ref Dd)) _ _ s'
  refine thn (pg_name (i := i) hN hi' hy hf (pins ++ [(C, oC)]) s' σ H' (.ref Dd) (.ref Dd) (fun σ' H1 => σ' = σ.set i (some (.ref Dd)) ∧ H1 = H') I' rfl ⟨rfl, rfl⟩) fun _ s'' ⟨σ'', H'', I'', e1, e2⟩ => ?_
  subst e1 e2
  have hoC : s''.heap.get? C = some oC := (I''.pin (C, oC) (List.mem_append_right _ (List.mem_append_right _ (List.mem_singleton.mpr rfl)))).1
  obtain ⟨oC', es, ep, ho', r⟩ := hn
  rw [ho] at ho'
  cases ho'
  refine ⟨m, ⟨oC, es, ep, hoC, r⟩, fun h' hs' => ⟨σ.set i (some (.ref Dd)), H'', ?_, qD⟩⟩
  obtain ⟨hp, g, d, t, os⟩ := s''
  exact I''.unpinned.turned (fun b o hb e => (hs'.2 b hb).trans e) fC.1 fC.2.1 fC.2.2.2.1 fC.2.2.2.2.1 fC.2.2.2.2.2
end
end L2

set_option maxHeartbeats 4000000
namespace L2
open PySem PySem.Spec PyProof.Rows
section
variable {X : Cx}
theorem op_is_bl : OpR X (compareOp .Is) (fun x y H Q => ∃ a b, x = .bl a ∧ y = .bl b ∧ Q (.bl (a == b)) H) := by
  intro pins s σ H x y v u Q I rx ry h
  obtain ⟨a, b, rfl, rfl, q⟩ := h
  cases rx
  cases ry
  exact is_bool (fin_bl I q rfl)
theorem op_isnot_bl : OpR X (compareOp .IsNot) (fun x y H Q => ∃ a b, x = .bl a ∧ y = .bl b ∧ Q (.bl (a != b)) H) := by
  intro pins s σ H x y v u Q I rx ry h
  obtain ⟨a, b, rfl, rfl, q⟩ := h
  cases rx
  cases ry
  exact isnot_bool (fin_bl I q rfl)
theorem op_mulB : OpR X (binaryOp .Mult) (rI IntMulOk fun i j => .int (i * j)) := opI fun _ _ _ _ _ _ _ hc q => mul_int q hc
end
mutual
inductive DatV (K : PySem.W.Frag) (H : Hp) : V → PyData → Prop
  | non : DatV K H .non .none
  | bl (b : Bool) : DatV K H (.bl b) (.bool b)
  | int (i : Int) : DatV K H (.int i) (.int i)
  | str (x : Str) : DatV K H (.str x) (.str x)
  | lst {a : Addr} {xs : List V} {ds : List PyData} : SqL K H a xs → DatVs K H xs ds → DatV K H (.ref a) (.list ds)
  | tup {a : Addr} {xs : List V} {ds : List PyData} : SqT K H a xs → DatVs K H xs ds → DatV K H (.ref a) (.tuple ds)
inductive DatVs (K : PySem.W.Frag) (H : Hp) : List V → List PyData → Prop
  | nil : DatVs K H [] []
  | cons {x : V} {d : PyData} {xs : List V} {ds : List PyData} : DatV K H x d → DatVs K H xs ds → DatVs K H (x :: xs) (d :: ds)
end
theorem IsTup.of_get {h : Heap} {a : Addr} {its : Array Value} (p : IsTup h a its) : ∃ o n, h.get? a = some o ∧ o.cls = .type "tuple" ∧ o.data = .seq its n := by
  obtain ⟨o, h1, h2, n, h3⟩ := p
  exact ⟨o, n, h1, h2, h3⟩
mutual
theorem DatV.reads {X : Cx} {pins : List (Addr × Obj)} {σ : St} {H : Hp} {s : Shared} (I : Inv X pins σ H s) : ∀ {v : V} {d : PyData} {u : Value}, DatV X.K H v d → RelV v u → ∃ as, Reads s.heap u d as
  | _, _, u, .non, r => by cases (show u = Value.none from r); exact ⟨_, .none⟩
  | _, _, u, .bl b, r => by cases (show u = Value.bool b from r); exact ⟨_, .bool b⟩
  | _, _, u, .int i, r => by obtain ⟨t, q⟩ := (show ∃ t, u = Value.int i t from r); cases q; exact ⟨_, .int i t⟩
  | _, _, u, .str x, r => by obtain ⟨t, q⟩ := (show ∃ t, u = Value.str x t from r); cases q; exact ⟨_, .str x t⟩
  | _, _, u, @DatV.lst _ _ a xs ds h1 h2, r => by
    cases (show u = Value.ref a from r)
    obtain ⟨its, rv, pl, _⟩ := I.list h1
    obtain ⟨as, q⟩ := DatVs.reads I h2 rv
    obtain ⟨o, n, e1, e2, _, e3⟩ := pl
    exact ⟨_, reads_list_at e1 e2 e3 (by simpa using q)⟩
  | _, _, u, @DatV.tup _ _ a xs ds h1 h2, r => by
    cases (show u = Value.ref a from r)
    obtain ⟨its, rv, pl, _⟩ := I.tuple h1
    obtain ⟨as, q⟩ := DatVs.reads I h2 rv
    obtain ⟨o, n, e1, e2, e3⟩ := IsTup.of_get pl
    exact ⟨_, reads_tuple_at e1 e2 e3 (by simpa using q)⟩
theorem DatVs.reads {X : Cx} {pins : List (Addr × Obj)} {σ : St} {H : Hp} {s : Shared} (I : Inv X pins σ H s) : ∀ {vs : List V} {ds : List PyData} {us : List Value}, DatVs X.K H vs ds → Vals vs us → ∃ as, ReadsAll s.heap us ds as
  | _, _, us, .nil, r => by cases r; exact ⟨_, .nil⟩
  | _, _, us, .cons h1 h2, r => by
    cases r with
    | cons r1 r2 =>
      obtain ⟨as, q⟩ := DatV.reads I h1 r1
      obtain ⟨bs, p⟩ := DatVs.reads I h2 r2
      exact ⟨_, .cons q p⟩
end
def rEqD (K : PySem.W.Frag) (neg : Bool) : R2 := fun x y H Q => ∃ d e, DatV K H x d ∧ DatV K H y e ∧ SeqAt.shaped d = true ∧ SeqAt.shaped e = true ∧ Q (.bl (if neg then !PyData.eqv d e else PyData.eqv d e)) H
section
variable {X : Cx}
theorem op_eqD (hu : X.A.units + 64 < cLine) : OpR X (compareOp .Eq) (rEqD X.K false) := by
  intro pins s σ H x y v u Q I rx ry h
  obtain ⟨d, e, hx, hy, sx, sy, q⟩ := h
  obtain ⟨as, p1⟩ := hx.reads I rx
  obtain ⟨bs, p2⟩ := hy.reads I ry
  exact eq_dataH p1 p2 sx sy hu ⟨.bl _, H, I, rfl, q⟩
theorem op_neD (hu : X.A.units + 64 < cLine) : OpR X (compareOp .NotEq) (rEqD X.K true) := by
  intro pins s σ H x y v u Q I rx ry h
  obtain ⟨d, e, hx, hy, sx, sy, q⟩ := h
  obtain ⟨as, p1⟩ := hx.reads I rx
  obtain ⟨bs, p2⟩ := hy.reads I ry
  exact ne_dataH p1 p2 sx sy hu ⟨.bl _, H, I, rfl, q⟩
theorem bools_get {bs : List Bool} : ∀ {us : List Value}, Vals (bs.map V.bl) us → ∀ (i : Nat) (v : Value), us[i]? = some v → ∃ b, bs[i]? = some b ∧ v = .bool b := by
  intro us r i v e
  have hl := r.length
  rw [List.length_map] at hl
  have hi : i < us.length := (List.getElem?_eq_some_iff.mp e).1
  have hb : bs[i]? = some bs[i] := List.getElem?_eq_getElem (by omega)
  obtain ⟨u, h1, h2⟩ := r.get (i := i) (x := V.bl bs[i]) (by rw [List.getElem?_map, hb]; rfl)
  rw [e] at h1
  cases h1
  exact ⟨_, hb, h2⟩
theorem range_allB (bs : List Bool) : ((List.range bs.length).all fun i => (bs[i]?).getD true) = bs.all id := PyProof.Rows.LSm.range_all bs
theorem call_all : CallR X (.builtin "all") (fun xs H Q => ∃ (p : Addr) (bs : List Bool), xs = [.ref p] ∧ X.A.handled = none ∧ SqL X.K H p (bs.map V.bl) ∧ Q (.bl (bs.all id)) H) := by
  intro pins s σ H xs us Q I r h
  obtain ⟨p, bs, rfl, hh, hS, q⟩ := h
  obtain ⟨u, rfl, ru⟩ := vals1 r
  cases (show u = Value.ref p from ru)
  obtain ⟨its, rv, pl, _⟩ := I.list hS
  have hl := pl.isList
  have hlt : p < s.heap.objs.size := pl.lt
  have hb := bools_get rv
  have hlen : its.length = bs.length := by have := rv.length; rw [List.length_map] at this; exact this.symm
  refine call_all_walk (wpAny_pyIter_list hl ?_)
  refine ⟨s.heap.objs.size, [s.heap.objs.size, p], [s.heap.objs.size], its.toArray.size, _, _, fun i => (bs[i]?).getD true, rfl, Walks.list (A := X.A.in1) hh _ p (Nat.ne_of_lt hlt) its.toArray,
    ⟨⟨_, Heap.get?_push_size _ rfl, rfl, rfl⟩, hl.push _⟩, fun i v s' Q' E' hP hQ => ?_, fun h' tk hk => ?_⟩
  · obtain ⟨b, e, rfl⟩ := hb i v (by simpa using hP)
    simp only [e, Option.getD_some] at hQ
    exact wpAny_truthy_bool hQ
  · have e : ((List.range its.toArray.size).all fun i => (bs[i]?).getD true) = bs.all id := by
      rw [List.size_toArray, hlen]; exact range_allB bs
    rw [e]
    exact ⟨.bl (bs.all id), H, I.kept (PyProof.Rows.LSm.kept_iter hk), rfl, q⟩
end
end L2
namespace L2
open PySem PySem.Spec PyProof.Rows
section
variable {X : Cx} {a b c : Expr} {ta tb : TE} {pos : Pos} {k : Int} {op op' : CmpOp} {p p' : Int → Int → Bool}
end
theorem same_upd {H : Hp} {p : Addr} {o : HO} (h : H p = none) : Same H (upd H p o) := fun b u e => by
  rw [upd_ne (ne_of_none e h)]
  exact e
theorem PE.imp {X : Cx} {e : Expr} {t t' : TE} (h : PE X e t) (f : ∀ σ H Q, t' σ H Q → t σ H Q) : PE X e t' := fun pins s σ H Q I q => h pins s σ H Q I (f σ H Q q)
end L2

set_option maxHeartbeats 4000000
namespace L2
open PySem PySem.Spec PyProof.Rows
def Its (x : Str) : It := ⟨fun i _ => i < x.cps.size, fun i H v H' => H' = H ∧ ∃ c, x.cps[i]? = some c ∧ v = .str ⟨#[c]⟩, fun i _ => x.cps.size ≤ i⟩
theorem turn_strA {P : Program} {w : World} {K : PySem.W.Frag} {tg : Expr} (x : Str) (t : Tok) (it : Addr) : Turn P w K tg (Its x) [it] it (fun i h => h.IsStrIter it "str_ascii_iterator" x t i) where
  mem := by simp
  obj := fun i h st b hb => by
    have e : b = it := by simpa using hb
    subst e
    obtain ⟨o, e, c, d⟩ := st
    exact ⟨o, e, fun v z => by rw [d] at z; cases z⟩
  keep := fun i h h' st k => by
    obtain ⟨o, e, r⟩ := st
    exact ⟨o, k it (by simp) o e, r⟩
  item := by
    intro X hP hw hK hc i pins s σ H E I hf st hg
    subst hP hw hK
    obtain ⟨f0, f1, f2, f3, f4, f5⟩ := hf it (by simp)
    have hi : i < x.cps.size := hg
    refine wpAny_pyNext_ascii_item st (c := x.cps[i]) (by simp [hi]) fun h' st' sb => ?_
    have I1 : Inv X pins σ H { s with heap := h', toks := s.toks + 1 } := I.turned (fun b o hb e => (sb.2 b hb).trans e) f0 f1 f3 f4 f5
    obtain ⟨o, e, c, d⟩ := id st'
    exact ⟨_, rfl, go_of (s := { s with heap := h', toks := s.toks + 1 }) e c d (by decide) ⟨.str ⟨#[x.cps[i]]⟩, H, I1, ⟨_, rfl⟩, ⟨rfl, _, by simp [hi], rfl⟩, st', fun b hb => (hf b hb).1⟩⟩
  done := by
    intro X hP hw hK hc i pins s σ H E I hf st hg
    subst hP hw hK
    obtain ⟨f0, f1, f2, f3, f4, f5⟩ := hf it (by simp)
    have hi : x.cps.size ≤ i := hg
    exact wpAny_pyNext_ascii_end (I.ok.hd hc) st (by simp [hi]) fun h' eb => ⟨rfl, I.turned (t' := s.toks) (fun b o hb e => eb b o hb e) f0 f1 f3 f4 f5⟩
  self := fun _ _ _ _ _ st h => wpAny_pyIter_striter_ascii st h
theorem turn_strW {P : Program} {w : World} {K : PySem.W.Frag} {tg : Expr} (x : Str) (t : Tok) (it : Addr) : Turn P w K tg (Its x) [it] it (fun i h => h.IsStrIter it "str_iterator" x t i) where
  mem := by simp
  obj := fun i h st b hb => by
    have e : b = it := by simpa using hb
    subst e
    obtain ⟨o, e, c, d⟩ := st
    exact ⟨o, e, fun v z => by rw [d] at z; cases z⟩
  keep := fun i h h' st k => by
    obtain ⟨o, e, r⟩ := st
    exact ⟨o, k it (by simp) o e, r⟩
  item := by
    intro X hP hw hK hc i pins s σ H E I hf st hg
    subst hP hw hK
    obtain ⟨f0, f1, f2, f3, f4, f5⟩ := hf it (by simp)
    have hi : i < x.cps.size := hg
    refine wpAny_pyNext_wide_item st (c := x.cps[i]) (by simp [hi]) fun h' st' sb => ?_
    have I1 : Inv X pins σ H { s with heap := h', toks := s.toks + 1 } := I.turned (fun b o hb e => (sb.2 b hb).trans e) f0 f1 f3 f4 f5
    obtain ⟨o, e, c, d⟩ := id st'
    exact ⟨_, rfl, go_of (s := { s with heap := h', toks := s.toks + 1 }) e c d (by decide) ⟨.str ⟨#[x.cps[i]]⟩, H, I1, ⟨_, rfl⟩, ⟨rfl, _, by simp [hi], rfl⟩, st', fun b hb => (hf b hb).1⟩⟩
  done := by
    intro X hP hw hK hc i pins s σ H E I hf st hg
    subst hP hw hK
    obtain ⟨f0, f1, f2, f3, f4, f5⟩ := hf it (by simp)
    have hi : x.cps.size ≤ i := hg
    exact wpAny_pyNext_wide_end (I.ok.hd hc) st (by simp [hi]) fun h' eb => ⟨rfl, I.turned (t' := s.toks) (fun b o hb e => eb b o hb e) f0 f1 f3 f4 f5⟩
  self := fun _ _ _ _ _ st h => wpAny_pyIter_striter_wide st h
section
variable {X : Cx} {tg : Expr}
end
theorem vals_strs : ∀ l : List (Str × Tok), Vals ((l.map (·.1)).map V.str) (strValues l)
  | [] => .nil
  | (x, t) :: r => .cons ⟨t, rfl⟩ (vals_strs r)
theorem vals_from (tk : Nat) (ws : List Str) : Vals (ws.map V.str) (strsFrom tk ws) := by
  have h := vals_strs (numbered tk ws)
  rw [numbered_texts, ← strsFrom_eq] at h
  exact h
section
variable {X : Cx}
open Builtin Builtin.Str in
theorem mt_split : MtM X "str.split" (fun x vs H Q => ∃ z y, x = .str z ∧ vs = [.str y] ∧ (y.length == 0) = false ∧ z.length + 2 ≤ sizeLine ∧ ∀ p, H p = none → Q (.ref p) (upd H p (.lst ((Txt.split z y).map V.str)))) := by
  intro pins s σ H x vs v us Q I rx rv h
  obtain ⟨z, y, rfl, rfl, hy, hz, q⟩ := h
  obtain ⟨t, rfl⟩ := rx
  obtain ⟨w', rfl, u, rfl⟩ := rv.one
  have hle : (Txt.split z y).length ≤ sizeLine := Nat.le_trans (split_le z y) hz
  have hz0 : z.length ≤ sizeLine := by omega
  have q := q s.heap.objs.size I.fresh
  cases h1 : (decide (z.length < y.length) || decide (strKind z < strKind y)) with
  | true =>
    have e : Txt.split z y = [z] := if_pos h1
    rw [e] at q
    refine call_meets F.slot_str_split (typeIs_str _ _ _) F.entry_str_split (F.args_str_split_2 _ _) (meets_str_split_cannot_occur z y t u h1) ?_
    exact ⟨.ref s.heap.objs.size, _, I.laid (t' := s.toks) (o := .lst [.str z]) (fun b ob q => Heap.get?_push_of_some _ q) (Nat.le_refl _) ⟨by show 1 ≤ sizeLine; decide, _, 0, .cons ⟨t, rfl⟩ .nil, Heap.get?_push_size _ rfl⟩, rfl, q⟩
  | false =>
    cases hf : (occurrences z y 0 z.length (z.length + 1)).isEmpty with
    | true =>
      have e : Txt.split z y = [z] := (if_neg (ne_true_of_eq_false h1)).trans (if_pos hf)
      rw [e] at q
      refine call_meets F.slot_str_split (typeIs_str _ _ _) F.entry_str_split (F.args_str_split_2 _ _) (meets_str_split_not_found z y t u h1 hy hf) ?_
      exact ⟨.ref s.heap.objs.size, _, I.laid (t' := s.toks) (o := .lst [.str z]) (fun b ob q => Heap.get?_push_of_some _ q) (Nat.le_refl _) ⟨by show 1 ≤ sizeLine; decide, _, 0, .cons ⟨t, rfl⟩ .nil, Heap.get?_push_size _ rfl⟩, rfl, q⟩
    | false =>
      have e : Txt.split z y = partsBetween z (occurrences z y 0 z.length (z.length + 1)) y.length := (if_neg (ne_true_of_eq_false h1)).trans (if_neg (ne_true_of_eq_false hf))
      rw [e] at q hle
      refine call_meets F.slot_str_split (typeIs_str _ _ _) F.entry_str_split (F.args_str_split_2 _ _) (meets_str_split_sep z y t u h1 hy hf hz0 hle) ?_
      exact ⟨.ref s.heap.objs.size, _, I.laid (o := .lst ((partsBetween z (occurrences z y 0 z.length (z.length + 1)) y.length).map V.str)) (fun b ob q => Heap.get?_push_of_some _ q) (Nat.le_refl _)
        ⟨by rw [List.length_map]; exact hle, _, 0, vals_from _ _, Heap.get?_push_size _ rfl⟩, rfl, q⟩
theorem isPart_opt {v : Value} {o : Option Int} (p : IsPart v o) : ∃ l : Option (Int × Tok), v = partValue l ∧ o = l.map (·.1) := by
  cases p with
  | none => exact ⟨none, rfl, rfl⟩
  | int i t => exact ⟨some (i, t), rfl, rfl⟩
theorem sl_str : SlR X (fun x lo hi H Q => ∃ z, x = .str z ∧ z.length ≤ sizeLine ∧ Q (.str (Txt.slice z lo hi)) H) := by
  intro pins s σ H x v vl vu lo hi sl Q I rx hs pl pu h
  obtain ⟨z, rfl, hz, q⟩ := h
  obtain ⟨t, rfl⟩ := rx
  obtain ⟨l, rfl, rfl⟩ := isPart_opt pl
  obtain ⟨u, rfl, rfl⟩ := isPart_opt pu
  refine ⟨"str", _, F.slot_str_getitem.lookup, typeIs_str _ _ _, wpAny_getItem_str_slice (l := l) (u := u) (st := none) hs rfl ?_⟩
  exact post_val_or_str ⟨Nat.le_trans (Txt.slice_le z _ _) hz, fun t' k => ⟨.str (Txt.slice z _ _), H, I.tok _, ⟨t', rfl⟩, q⟩⟩
end
theorem mem_of_lookup {β : Type} {y : Str} {v : β} : ∀ {l : List (Str × β)}, l.lookup y = some v → (y, v) ∈ l
  | [], h => by simp at h
  | (x, u) :: r, h => by
    rw [List.lookup_cons] at h
    cases e : y == x with
    | true =>
      rw [e] at h
      have h1 := Option.some.inj h
      have h2 := eq_of_beq e
      subst h1 h2
      exact List.mem_cons_self
    | false =>
      rw [e] at h
      exact List.mem_cons_of_mem _ (mem_of_lookup h)
theorem comp0 {X : Cx} {scope : Scope} {T : List Str} (hk : scope.kind = .function) (hc : closureFor scope X.env = pure []) (h1 : ∀ y ∈ scope.names, y.2 ≠ .cell) (h2 : ∀ y ∈ scope.names, y.2 ≠ .free)
    (h3 : ∀ y ∈ scope.names, y.2 = .local → scope.names.lookup y.1 = some .local) : CompScope X scope [] T [] [] :=
  ⟨hk, hc, h1, h3, fun y c h => by simp at h, fun y h => absurd rfl (h2 _ (mem_of_lookup h)), .nil⟩
theorem compN {X : Cx} {scope : Scope} {T cn : List Str} {caps : List Nat} {cl : List (Str × Addr)} (hk : scope.kind = .function) (hc : closureFor scope X.env = pure cl) (h1 : ∀ y ∈ scope.names, y.2 ≠ .cell)
    (h2 : ∀ y ∈ scope.names, y.2 = .free → (cl.lookup y.1).isSome = true) (h3 : ∀ y ∈ scope.names, y.2 = .local → scope.names.lookup y.1 = some .local) (hs : ∀ p ∈ cl, X.env.cells.lookup p.1 = some p.2)
    (hp : Paired (fun (j : Nat) (y : Str) => X.N[j]? = some y ∧ (X.env.kindOf y = some .cell ∨ X.env.kindOf y = some .free) ∧ scope.names.lookup y = some .free) caps cn) : CompScope X scope cl T caps cn :=
  ⟨hk, hc, h1, h3, fun y c h => hs (y, c) (mem_of_lookup h), fun y h => Option.isSome_iff_exists.mp (h2 _ (mem_of_lookup h) rfl), hp⟩
end L2

set_option maxHeartbeats 4000000
namespace L2
open PySem PySem.Spec PyProof.Rows
def del (H : Hp) (a : Addr) : Hp := fun b => if b = a then none else H b
theorem del_same {H : Hp} {a : Addr} : del H a a = none := if_pos rfl
theorem del_ne {H : Hp} {a b : Addr} (h : b ≠ a) : del H a b = H b := if_neg h
section
variable {X : Cx} {pins : List (Addr × Obj)} {σ : St} {H : Hp} {s : Shared} {a : Addr} {ys : List V}
theorem ObjOk.hide {P : Program} {w : World} {h : Heap} {b : Addr} : ∀ {o : HO}, ObjOk P w H h b o → H a = some (.lst ys) → ObjOk P w (del H a) h b o
  | .lst _, x, _ => x
  | .tup _, x, _ => x
  | .dK _, x, _ => x
  | .dT kvs, x, e => by
    obtain ⟨h1, h2, xs, hp, r⟩ := x
    refine ⟨h1, h2, xs, Paired.imp' (fun p q ⟨z1, z2, z3⟩ => ⟨z1, ?_, z3⟩) hp, r⟩
    rw [del_ne (fun z => by rw [z, e] at z2; cases z2)]
    exact z2
  | .set _ _, x, _ => x
  | .ins C dx fs, x, e => by
    obtain ⟨h1, r⟩ := x
    refine ⟨?_, r⟩
    rw [del_ne (fun z => by rw [z, e] at h1; cases h1)]
    exact h1
  | .own _, x, _ => x
  | .xd _, x, _ => x
  | .met _ _, x, _ => x
  | .rng _ _, x, _ => x
  | .frz o u, x, e => ⟨x.1, ObjOk.hide x.2 e⟩
  | .tbl _, x, _ => x
  | .ext _, x, _ => x
theorem ObjOk.more {P : Program} {w : World} {h : Heap} {b : Addr} {u : HO} (n : H a = none) : ∀ {o : HO}, ObjOk P w H h b o → ObjOk P w (upd H a u) h b o
  | .lst _, x => x
  | .tup _, x => x
  | .dK _, x => x
  | .dT kvs, x => by
    obtain ⟨h1, h2, xs, hp, r⟩ := x
    refine ⟨h1, h2, xs, Paired.imp' (fun p q ⟨z1, z2, z3⟩ => ⟨z1, ?_, z3⟩) hp, r⟩
    rw [upd_ne (ne_of_none z2 n)]
    exact z2
  | .set _ _, x => x
  | .ins C dx fs, x => by
    obtain ⟨h1, r⟩ := x
    refine ⟨?_, r⟩
    rw [upd_ne (ne_of_none h1 n)]
    exact h1
  | .own _, x => x
  | .xd _, x => x
  | .met _ _, x => x
  | .rng _ _, x => x
  | .frz o u, x => ⟨x.1, ObjOk.more n x.2⟩
  | .tbl _, x => x
  | .ext _, x => x
theorem Inv.hide (I : Inv X pins σ H s) (e : H a = some (.lst ys)) (hfs : a ∉ X.fs) : ∃ ob, (∃ (its : List Value) (n : Nat), Vals ys its ∧ ob = { cls := .type "list", data := .seq its.toArray n }) ∧ s.heap.get? a = some ob ∧ Inv X (pins ++ [(a, ob)]) σ (del H a) s := by
  obtain ⟨hz, its, n, hv, ho⟩ := (show ObjOk X.prog X.w H s.heap a (.lst ys) from I.hok a _ e)
  refine ⟨_, ⟨its, n, hv, rfl⟩, ho, ⟨I.ok, I.os, I.bare, ⟨I.base.keep, I.base.slot, fun b o q n hx => ?_, I.base.there, fun b xs q => ?_, fun b o u q => ?_, fun b ps q => ?_⟩, I.loc, I.cell, ?_, fun x c q => ?_, fun p hp => ?_, fun b o q => ?_, I.len⟩⟩
  · have z := I.base.free b o q n hx
    unfold del
    split
    · rfl
    · exact z
  · have z := I.base.tups b xs q
    rw [del_ne (fun w => by rw [w, e] at z; cases z)]
    exact z
  · have z := I.base.frzs b o u q
    rw [del_ne (fun w => by rw [w, e] at z; cases z)]
    exact z
  · obtain ⟨more, z⟩ := I.base.tbls b ps q
    exact ⟨more, by rw [del_ne (fun w => by rw [w, e] at z; cases z)]; exact z⟩
  · unfold del
    split
    · rfl
    · exact I.free
  · unfold del
    split
    · rfl
    · exact I.freeC x c q
  · rw [← List.append_assoc] at hp
    rcases List.mem_append.mp hp with z | z
    · obtain ⟨p1, p2, p3, p4, p5⟩ := I.pin p z
      refine ⟨p1, ?_, p3, p4, p5⟩
      unfold del
      split
      · rfl
      · exact p2
    · rw [List.mem_singleton.mp z]
      refine ⟨ho, del_same, fun w => ?_, hfs, fun v q => by cases q⟩
      have f := I.free
      rw [← w, e] at f
      cases f
  · by_cases hb : b = a
    · rw [hb, del_same] at q
      cases q
    · rw [del_ne hb] at q
      exact (I.hok b o q).hide e
theorem Inv.unhide {ob : Obj} {its : List Value} {n : Nat} (I : Inv X (pins ++ [(a, ob)]) σ H s) (hv : Vals ys its) (ho : ob = { cls := .type "list", data := .seq its.toArray n }) (hz : ys.length ≤ sizeLine)
    (hne : ∀ b o, X.s₀.heap.get? b = some o → X.H₀ b = none → b ∉ X.ex → b ≠ a) (hp0 : ∀ p ∈ X.pn ++ pins, p.1 ≠ a) (hc : ∀ x c, X.env.cells.lookup x = some c → c ≠ a) : H a = none ∧ Inv X pins σ (upd H a (.lst ys)) s := by
  obtain ⟨g1, g2, g3, g4, g5⟩ := I.pin (a, ob) (List.mem_append_right _ (List.mem_append_right _ (List.mem_singleton.mpr rfl)))
  have g2' : H a = none := g2
  refine ⟨g2', ⟨I.ok, I.os, I.bare, ⟨I.base.keep, I.base.slot, fun b o q n hx => ?_, I.base.there, fun b xs q => ?_, fun b o u q => ?_, fun b ps q => ?_⟩, I.loc, I.cell, ?_, fun x c q => ?_, fun p hp => ?_, fun b o q => ?_, I.len⟩⟩
  · rw [upd_ne (hne b o q n hx)]
    exact I.base.free b o q n hx
  · have z := I.base.tups b xs q
    rw [upd_ne (ne_of_none z g2')]
    exact z
  · have z := I.base.frzs b o u q
    rw [upd_ne (ne_of_none z g2')]
    exact z
  · obtain ⟨more, z⟩ := I.base.tbls b ps q
    exact ⟨more, by rw [upd_ne (ne_of_none z g2')]; exact z⟩
  · rw [upd_ne (Ne.symm g3)]
    exact I.free
  · rw [upd_ne (hc x c q)]
    exact I.freeC x c q
  · obtain ⟨p1, p2, p3, p4, p5⟩ := I.pin p (by rw [← List.append_assoc]; exact List.mem_append_left _ hp)
    refine ⟨p1, ?_, p3, p4, p5⟩
    rw [upd_ne (hp0 p hp)]
    exact p2
  · by_cases hb : b = a
    · rw [hb, upd_same] at q
      cases q
      subst ho
      exact ⟨hz, its, n, hv, hb ▸ g1⟩
    · rw [upd_ne hb] at q
      exact (I.hok b o q).more g2'
theorem Inv.hidden (I : Inv X pins σ H s) (e : H a = some (.lst ys)) : a ∉ X.fs ∧ (∀ b o, X.s₀.heap.get? b = some o → X.H₀ b = none → b ∉ X.ex → b ≠ a) ∧ (∀ p ∈ X.pn ++ pins, p.1 ≠ a) ∧ ∀ x c, X.env.cells.lookup x = some c → c ≠ a := by
  refine ⟨fun hb => ?_, fun b o q n hx z => ?_, fun p hp z => ?_, fun x c q z => ?_⟩
  · have h1 := I.ok.frf a hb
    obtain ⟨_, o, ho, _⟩ := I.ok.funs.mem hb
    have hx : a ∉ X.ex := fun hx => I.ok.exfs a hx hb
    have := I.base.free a o ho h1 hx
    rw [e] at this
    cases this
  · have := I.base.free b o q n hx
    rw [z, e] at this
    cases this
  · have := (I.pin p hp).2.1
    rw [z, e] at this
    cases this
  · have := I.freeC x c q
    rw [z, e] at this
    cases this
end
section
variable {X : Cx} {e : Expr} {te : TE} {tt : TT}
def tFrame (te : TE) : TE := fun σ H Q => ∃ D ys, H D = some (.lst ys) ∧ te σ (del H D) fun y H4 => H4 D = none → Q y (upd H4 D (.lst ys))
theorem pe_frame (he : PE X e te) : PE X e (tFrame te) := by
  intro pins s σ H Q I h
  obtain ⟨D, ys, hD, q⟩ := h
  obtain ⟨k1, k2, k3, k4⟩ := I.hidden hD
  have hz : ys.length ≤ sizeLine := (show ObjOk X.prog X.w H s.heap D (.lst ys) from I.hok D _ hD).1
  obtain ⟨ob, ⟨its, n, hv, hob⟩, _, I'⟩ := I.hide hD k1
  refine thn (he (pins ++ [(D, ob)]) s σ (del H D) _ I' q) fun v s1 ⟨y, H4, I4, r, k⟩ => ?_
  obtain ⟨h0, I5⟩ := I4.unhide hv hob hz k2 k3 k4
  exact ⟨y, _, I5, r, k h0⟩
def uFrame (tt : TT) : TT := fun σ H Q => ∃ D ys, H D = some (.lst ys) ∧ tt σ (del H D) fun b H4 => H4 D = none → Q b (upd H4 D (.lst ys))
theorem pts_frame {ifs : List Expr} (he : PTs X ifs tt) : PTs X ifs (uFrame tt) := by
  intro pins s σ H Q I h
  obtain ⟨D, ys, hD, q⟩ := h
  obtain ⟨k1, k2, k3, k4⟩ := I.hidden hD
  have hz : ys.length ≤ sizeLine := (show ObjOk X.prog X.w H s.heap D (.lst ys) from I.hok D _ hD).1
  obtain ⟨ob, ⟨its, n, hv, hob⟩, _, I'⟩ := I.hide hD k1
  refine thn (he (pins ++ [(D, ob)]) s σ (del H D) _ I' q) fun v s1 ⟨H4, I4, k⟩ => ?_
  obtain ⟨h0, I5⟩ := I4.unhide hv hob hz k2 k3 k4
  exact ⟨_, I5, k h0⟩
end
theorem del_upd {H : Hp} {a : Addr} {o : HO} (h : H a = none) : del (upd H a o) a = H := by
  funext b
  unfold del upd
  by_cases hb : b = a
  · rw [if_pos hb, hb, h]
  · rw [if_neg hb, if_neg hb]
end L2

set_option maxHeartbeats 4000000
namespace L2
open PySem PySem.Spec PyProof.Rows
def hid (H : Hp) (a dx : Addr) : Hp := fun b => if b = a ∨ b = dx then none else H b
def shown (H : Hp) (a dx C : Addr) (fs : List (Str × V)) : Hp := upd (upd H dx (.own a)) a (.ins C dx fs)
theorem hid_l {H : Hp} {a dx : Addr} : hid H a dx a = none := if_pos (.inl rfl)
theorem hid_r {H : Hp} {a dx : Addr} : hid H a dx dx = none := if_pos (.inr rfl)
theorem hid_ne {H : Hp} {a dx b : Addr} (h : b ≠ a) (h' : b ≠ dx) : hid H a dx b = H b := if_neg (fun z => z.elim h h')
theorem hid_none {H : Hp} {a dx b : Addr} (h : H b = none) : hid H a dx b = none := by unfold hid; split <;> first | rfl | exact h
section
variable {X : Cx} {pins : List (Addr × Obj)} {σ : St} {H : Hp} {s : Shared} {a dx C : Addr} {fs : List (Str × V)}
theorem Inv.hideO (I : Inv X pins σ H s) (e : H a = some (.ins C dx fs)) (hfs : a ∉ X.fs) (hfd : dx ∉ X.fs) :
    ∃ od, (∃ mA es ep, od.data = .dict es ep ∧ (∀ h : Heap, h.get? dx = some od → h.Ns1 dx mA) ∧ (∀ f, RelO (fs.lookup f) (mA f)) ∧ PySem.Within mA (fs.map (·.1))) ∧ dx ≠ a ∧ fs.length ≤ 1000 ∧ Inv X (pins ++ [(a, PySem.W.instObj C dx), (dx, od)]) σ (hid H a dx) s := by
  obtain ⟨d, z, ne, ea, mA, ⟨od, es, ep, e2, c⟩, r⟩ := (show ObjOk X.prog X.w H s.heap a (.ins C dx fs) from I.hok a _ e)
  have nc : ∀ v, od.data ≠ .cell v := fun v q => by rw [c.1] at q; cases q
  refine ⟨od, ⟨mA, es, ep, c.1, fun h q => ⟨od, es, ep, q, c⟩, r⟩, ne, z, ⟨I.ok, I.os, I.bare, ⟨I.base.keep, I.base.slot, fun b o q n hx => hid_none (I.base.free b o q n hx), I.base.there, fun b xs q => ?_, fun b o u q => ?_, fun b ps q => ?_⟩, I.loc, I.cell, hid_none I.free, fun x c q => hid_none (I.freeC x c q), fun p hp => ?_, fun b o q => ?_, I.len⟩⟩
  · have z := I.base.tups b xs q
    rw [hid_ne (fun w => by rw [w, e] at z; cases z) (fun w => by rw [w, d] at z; cases z)]
    exact z
  · have z := I.base.frzs b o u q
    rw [hid_ne (fun w => by rw [w, e] at z; cases z) (fun w => by rw [w, d] at z; cases z)]
    exact z
  · obtain ⟨more, z⟩ := I.base.tbls b ps q
    exact ⟨more, by rw [hid_ne (fun w => by rw [w, e] at z; cases z) (fun w => by rw [w, d] at z; cases z)]; exact z⟩
  · rw [← List.append_assoc] at hp
    rcases List.mem_append.mp hp with z | z
    · obtain ⟨p1, p2, p3, p4, p5⟩ := I.pin p z
      exact ⟨p1, hid_none p2, p3, p4, p5⟩
    · rcases List.mem_cons.mp z with z | z
      · rw [z]
        refine ⟨ea, hid_l, fun w => ?_, hfs, fun v q => by cases q⟩
        have f := I.free
        rw [← w, e] at f
        cases f
      · rw [List.mem_singleton.mp z]
        refine ⟨e2, hid_r, fun w => ?_, hfd, nc⟩
        have f := I.free
        rw [← w, d] at f
        cases f
  · by_cases hb : b = a
    · rw [hb, hid_l] at q
      cases q
    · by_cases hb2 : b = dx
      · rw [hb2, hid_r] at q
        cases q
      · rw [hid_ne hb hb2] at q
        refine (I.hok b o q).stay (fun _ _ _ z => z) (fun c hc => ?_) (fun c xs hc => ?_)
        · rw [hid_ne (fun w => by rw [w, e] at hc; cases hc) (fun w => by rw [w, d] at hc; cases hc; exact hb rfl)]
          exact hc
        · rw [hid_ne (fun w => by rw [w, e] at hc; cases hc) (fun w => by rw [w, d] at hc; cases hc)]
          exact hc
theorem Inv.unhideO {od : Obj} {mA : Str → Option Value} (I : Inv X (pins ++ [(a, PySem.W.instObj C dx), (dx, od)]) σ H s) (hm : ∀ h : Heap, h.get? dx = some od → h.Ns1 dx mA) (hr : ∀ f, RelO (fs.lookup f) (mA f)) (hw : PySem.Within mA (fs.map (·.1)))
    (ne : dx ≠ a) (hz : fs.length ≤ 1000) (hne : ∀ b o, X.s₀.heap.get? b = some o → X.H₀ b = none → b ∉ X.ex → b ≠ a ∧ b ≠ dx) (hp0 : ∀ p ∈ X.pn ++ pins, p.1 ≠ a ∧ p.1 ≠ dx) (hc : ∀ x c, X.env.cells.lookup x = some c → c ≠ a ∧ c ≠ dx) :
    H a = none ∧ H dx = none ∧ Inv X pins σ (shown H a dx C fs) s := by
  obtain ⟨g1, g2, g3, g4, g5⟩ := I.pin (a, PySem.W.instObj C dx) (List.mem_append_right _ (List.mem_append_right _ (List.mem_cons_self)))
  obtain ⟨k1, k2, k3, k4, k5⟩ := I.pin (dx, od) (List.mem_append_right _ (List.mem_append_right _ (List.mem_cons_of_mem _ (List.mem_singleton.mpr rfl))))
  have g2' : H a = none := g2
  have k2' : H dx = none := k2
  have sn : ∀ {b : Addr}, b ≠ a → b ≠ dx → shown H a dx C fs b = H b := fun h1 h2 => by unfold shown; rw [upd_ne h1, upd_ne h2]
  have sa : shown H a dx C fs a = some (.ins C dx fs) := upd_same
  have sd : shown H a dx C fs dx = some (.own a) := by unfold shown; rw [upd_ne ne, upd_same]
  refine ⟨g2', k2', ⟨I.ok, I.os, I.bare, ⟨I.base.keep, I.base.slot, fun b o q n hx => ?_, I.base.there, fun b xs q => ?_, fun b o u q => ?_, fun b ps q => ?_⟩, I.loc, I.cell, ?_, fun x c q => ?_, fun p hp => ?_, fun b o q => ?_, I.len⟩⟩
  · obtain ⟨n1, n2⟩ := hne b o q n hx
    rw [sn n1 n2]
    exact I.base.free b o q n hx
  · have z := I.base.tups b xs q
    rw [sn (ne_of_none z g2') (ne_of_none z k2')]
    exact z
  · have z := I.base.frzs b o u q
    rw [sn (ne_of_none z g2') (ne_of_none z k2')]
    exact z
  · obtain ⟨more, z⟩ := I.base.tbls b ps q
    exact ⟨more, by rw [sn (ne_of_none z g2') (ne_of_none z k2')]; exact z⟩
  · rw [sn (Ne.symm g3) (Ne.symm k3)]
    exact I.free
  · obtain ⟨n1, n2⟩ := hc x c q
    rw [sn n1 n2]
    exact I.freeC x c q
  · obtain ⟨p1, p2, p3, p4, p5⟩ := I.pin p (by rw [← List.append_assoc]; exact List.mem_append_left _ hp)
    obtain ⟨n1, n2⟩ := hp0 p hp
    refine ⟨p1, ?_, p3, p4, p5⟩
    rw [sn n1 n2]
    exact p2
  · by_cases hb : b = a
    · rw [hb, sa] at q
      cases q
      rw [hb]
      exact ⟨sd, hz, ne, g1, mA, hm _ k1, hr, hw⟩
    · by_cases hb2 : b = dx
      · rw [hb2, sd] at q
        cases q
        rw [hb2]
        exact ⟨_, k1⟩
      · rw [sn hb hb2] at q
        refine (I.hok b o q).stay (fun _ _ _ z => z) (fun c hc => ?_) (fun c xs hc => ?_)
        · rw [sn (ne_of_none hc g2') (ne_of_none hc k2')]
          exact hc
        · rw [sn (ne_of_none hc g2') (ne_of_none hc k2')]
          exact hc
theorem Inv.notfs {o : HO} (I : Inv X pins σ H s) (e : H a = some o) : a ∉ X.fs ∧ (∀ b o, X.s₀.heap.get? b = some o → X.H₀ b = none → b ∉ X.ex → b ≠ a) ∧ (∀ p ∈ X.pn ++ pins, p.1 ≠ a) ∧ ∀ x c, X.env.cells.lookup x = some c → c ≠ a := by
  refine ⟨fun hb => ?_, fun b o q n hx z => ?_, fun p hp z => ?_, fun x c q z => ?_⟩
  · have h1 := I.ok.frf a hb
    obtain ⟨_, o, ho, _⟩ := I.ok.funs.mem hb
    have hx : a ∉ X.ex := fun hx => I.ok.exfs a hx hb
    have := I.base.free a o ho h1 hx
    rw [e] at this
    cases this
  · have := I.base.free b o q n hx
    rw [z, e] at this
    cases this
  · have := (I.pin p hp).2.1
    rw [z, e] at this
    cases this
  · have := I.freeC x c q
    rw [z, e] at this
    cases this
theorem frameO {G : Prop} (I : Inv X pins σ H s) (e : H a = some (.ins C dx fs))
    (h : ∀ pl : List (Addr × Obj), Inv X (pins ++ pl) σ (hid H a dx) s → (∀ (σ' : St) (H' : Hp) (s' : Shared), Inv X (pins ++ pl) σ' H' s' → H' a = none ∧ H' dx = none ∧ dx ≠ a ∧ Inv X pins σ' (shown H' a dx C fs) s') → G) : G := by
  obtain ⟨k1, k2, k3, k4⟩ := I.notfs e
  obtain ⟨d, _⟩ := (show ObjOk X.prog X.w H s.heap a (.ins C dx fs) from I.hok a _ e)
  obtain ⟨m1, m2, m3, m4⟩ := I.notfs d
  obtain ⟨od, ⟨mA, es, ep, _, hm, hr, hw⟩, ne, hz, I'⟩ := I.hideO e k1 m1
  refine h _ I' fun σ' H' s' J => ?_
  obtain ⟨z1, z2, J'⟩ := J.unhideO hm hr hw ne hz (fun b o q n hx => ⟨k2 b o q n hx, m2 b o q n hx⟩) (fun p hp => ⟨k3 p hp, m3 p hp⟩) (fun x c q => ⟨k4 x c q, m4 x c q⟩)
  exact ⟨z1, z2, ne, J'⟩
end
section
variable {X : Cx} {e : Expr} {te : TE} {st : Stmt} {ts : TS}
def tFrameO (te : TE) : TE := fun σ H Q => ∃ a dx C fs, H a = some (.ins C dx fs) ∧ te σ (hid H a dx) fun y H4 => H4 a = none → H4 dx = none → dx ≠ a → Q y (shown H4 a dx C fs)
theorem pe_frameO (he : PE X e te) : PE X e (tFrameO te) := by
  intro pins s σ H Q I ⟨a, dx, C, fs, ha, q⟩
  refine frameO I ha fun pl I' back => ?_
  refine thn (he (pins ++ pl) s σ _ _ I' q) fun v s1 ⟨y, H4, I4, r, k⟩ => ?_
  obtain ⟨z1, z2, ne, J⟩ := back _ _ _ I4
  exact ⟨y, _, J, r, k z1 z2 ne⟩
def sFrameO (ts : TS) : TS := fun D σ H => ∃ a dx C fs, H a = some (.ins C dx fs) ∧
  ts ⟨fun σ' H4 => H4 a = none → H4 dx = none → dx ≠ a → D.nx σ' (shown H4 a dx C fs), fun v H4 => H4 a = none → H4 dx = none → dx ≠ a → D.rt v (shown H4 a dx C fs),
    fun σ' H4 => H4 a = none → H4 dx = none → dx ≠ a → D.bk σ' (shown H4 a dx C fs), fun σ' H4 => H4 a = none → H4 dx = none → dx ≠ a → D.ct σ' (shown H4 a dx C fs)⟩ σ (hid H a dx)
theorem ps_frameO (he : PS X st ts) : PS X st (sFrameO ts) := by
  intro pins s σ H D I ⟨a, dx, C, fs, ha, q⟩
  refine frameO I ha fun pl I' back => ?_
  refine thn (he (pins ++ pl) s σ _ _ I' q) fun f s1 hq => ?_
  cases f with
  | next =>
    obtain ⟨σ', H', J, k⟩ := hq
    obtain ⟨z1, z2, ne, J'⟩ := back _ _ _ J
    exact ⟨σ', _, J', k z1 z2 ne⟩
  | brk =>
    obtain ⟨σ', H', J, k⟩ := hq
    obtain ⟨z1, z2, ne, J'⟩ := back _ _ _ J
    exact ⟨σ', _, J', k z1 z2 ne⟩
  | cont =>
    obtain ⟨σ', H', J, k⟩ := hq
    obtain ⟨z1, z2, ne, J'⟩ := back _ _ _ J
    exact ⟨σ', _, J', k z1 z2 ne⟩
  | ret u =>
    obtain ⟨v, σ', H', J, r, k⟩ := hq
    obtain ⟨z1, z2, ne, J'⟩ := back _ _ _ J
    exact ⟨v, σ', _, J', r, k z1 z2 ne⟩
theorem hid_shown {H : Hp} {a dx C : Addr} {fs : List (Str × V)} (h1 : H a = none) (h2 : H dx = none) : hid (shown H a dx C fs) a dx = H := by
  funext b
  unfold hid shown upd
  by_cases hb : b = a
  · rw [if_pos (.inl hb), hb, h1]
  · by_cases hb2 : b = dx
    · rw [if_pos (.inr hb2), hb2, h2]
    · rw [if_neg (fun z => z.elim hb hb2), if_neg hb, if_neg hb2]
theorem upd_shown {H : Hp} {a dx C : Addr} {fs fs' : List (Str × V)} : upd (shown H a dx C fs) a (.ins C dx fs') = shown H a dx C fs' := upd_upd
theorem shown_a {H : Hp} {a dx C : Addr} {fs : List (Str × V)} : shown H a dx C fs a = some (.ins C dx fs) := upd_same
end
end L2

set_option maxHeartbeats 4000000
namespace L2
open PySem PySem.Spec PyProof.Rows
def hidL (H : Hp) (L : List Addr) : Hp := fun b => if b ∈ L then none else H b
def showL (H' H : Hp) (L : List Addr) : Hp := fun b => if b ∈ L then H b else H' b
theorem hidL_in {H : Hp} {L : List Addr} {b : Addr} (h : b ∈ L) : hidL H L b = none := if_pos h
theorem hidL_out {H : Hp} {L : List Addr} {b : Addr} (h : b ∉ L) : hidL H L b = H b := if_neg h
theorem hidL_none {H : Hp} {L : List Addr} {b : Addr} (h : H b = none) : hidL H L b = none := by unfold hidL; split <;> first | rfl | exact h
theorem hidL_some {H : Hp} {L : List Addr} {b : Addr} {o : HO} (h : hidL H L b = some o) : b ∉ L ∧ H b = some o := by
  unfold hidL at h
  split at h
  · cases h
  · rename_i z; exact ⟨z, h⟩
theorem hidL_same {H : Hp} {L : List Addr} : Same (hidL H L) H := fun b o h => (hidL_some h).2
theorem hidL_nil {H : Hp} : hidL H [] = H := by funext b; exact if_neg (fun h => nomatch h)
theorem showL_in {H H' : Hp} {L : List Addr} {b : Addr} (h : b ∈ L) : showL H' H L b = H b := if_pos h
theorem showL_out {H H' : Hp} {L : List Addr} {b : Addr} (h : b ∉ L) : showL H' H L b = H' b := if_neg h
theorem hidL_showL {H H' : Hp} {L : List Addr} (h : ∀ b ∈ L, H' b = none) : hidL (showL H' H L) L = H' := by
  funext b
  by_cases hb : b ∈ L
  · rw [hidL_in hb, h b hb]
  · rw [hidL_out hb, showL_out hb]
inductive HidOk (H : Hp) (L : List Addr) (a : Addr) : Prop
  | lst (xs : List V) (h : H a = some (.lst xs))
  | dK (kvs : List (Key × V)) (h : H a = some (.dK kvs))
  | ins (C dx : Addr) (fs : List (Str × V)) (h : H a = some (.ins C dx fs)) (hd : dx ∈ L)
  | own (C b : Addr) (fs : List (Str × V)) (h : H a = some (.own b)) (hb : b ∈ L) (hi : H b = some (.ins C a fs))
section
variable {X : Cx} {pins : List (Addr × Obj)} {σ : St} {H : Hp} {s : Shared} {L : List Addr}
theorem HidOk.there {a : Addr} (h : HidOk H L a) : ∃ o, H a = some o := by cases h <;> exact ⟨_, by assumption⟩
theorem HidOk.notup {a : Addr} (h : HidOk H L a) : (∀ xs, H a ≠ some (.tup xs)) ∧ (∀ o u, H a ≠ some (.frz o u)) ∧ (∀ ps, H a ≠ some (.tbl ps)) ∧ ∀ b, H a = some (.own b) → b ∈ L := by
  cases h with
  | lst xs h => rw [h]; exact ⟨fun _ q => (nomatch q), fun _ _ q => (nomatch q), fun _ q => (nomatch q), fun _ q => (nomatch q)⟩
  | dK xs h => rw [h]; exact ⟨fun _ q => (nomatch q), fun _ _ q => (nomatch q), fun _ q => (nomatch q), fun _ q => (nomatch q)⟩
  | ins C dx fs h hd => rw [h]; exact ⟨fun _ q => (nomatch q), fun _ _ q => (nomatch q), fun _ q => (nomatch q), fun _ q => (nomatch q)⟩
  | own C b fs h hb hi => rw [h]; exact ⟨fun _ q => (nomatch q), fun _ _ q => (nomatch q), fun _ q => (nomatch q), fun c q => by cases q; exact hb⟩
theorem HidOk.obj {a : Addr} (h : HidOk H L a) (I : Inv X pins σ H s) : ∃ o, s.heap.get? a = some o ∧ ∀ v, o.data ≠ .cell v := by
  cases h with
  | lst xs h =>
    obtain ⟨_, its, n, _, ho⟩ := (show ObjOk X.prog X.w H s.heap a (.lst xs) from I.hok a _ h)
    exact ⟨_, ho, fun v q => by cases q⟩
  | dK kvs h =>
    obtain ⟨_, _, vs, _, ob, es, ep, e, c⟩ := (show ObjOk X.prog X.w H s.heap a (.dK kvs) from I.hok a _ h)
    exact ⟨_, e, fun v q => by rw [c.2.1] at q; cases q⟩
  | ins C dx fs h hd =>
    obtain ⟨_, _, _, e, _⟩ := (show ObjOk X.prog X.w H s.heap a (.ins C dx fs) from I.hok a _ h)
    exact ⟨_, e, fun v q => by cases q⟩
  | own C b fs h hb hi =>
    obtain ⟨_, _, _, _, mA, ⟨od, es, ep, e2, c⟩, r⟩ := (show ObjOk X.prog X.w H s.heap b (.ins C a fs) from I.hok b _ hi)
    exact ⟨_, e2, fun v q => by rw [c.1] at q; cases q⟩
theorem frameM {G : Prop} (I : Inv X pins σ H s) (hL : ∀ a ∈ L, HidOk H L a)
    (h : ∀ pl : List (Addr × Obj), Inv X (pins ++ pl) σ (hidL H L) s → (∀ b ∈ L, ∃ o, (b, o) ∈ pl) → (∀ (σ' : St) (H' : Hp) (s' : Shared), Inv X (pins ++ pl) σ' H' s' → (∀ b ∈ L, H' b = none) ∧ Inv X pins σ' (showL H' H L) s') → G) : G := by
  have memL : ∀ {b : Addr} {o : Obj}, (b, o) ∈ pinsAt L s.heap ↔ b ∈ L ∧ s.heap.get? b = some o := fun {b o} => ⟨fun q => of_pinsAt q, fun q => mem_pinsAt q.1 q.2⟩
  refine h (pinsAt L s.heap) ?_ (fun b hb => let ⟨o, e, _⟩ := (hL b hb).obj I; ⟨o, memL.mpr ⟨hb, e⟩⟩) fun σ' H' s' J => ?_
  · refine ⟨I.ok, I.os, I.bare, ⟨I.base.keep, I.base.slot, fun b o q n hx => hidL_none (I.base.free b o q n hx), I.base.there, fun b xs q => ?_, fun b o u q => ?_, fun b ps q => ?_⟩, I.loc, I.cell, hidL_none I.free, fun x c q => hidL_none (I.freeC x c q), fun p hp => ?_, fun b o q => ?_, I.len⟩
    · have z := I.base.tups b xs q
      rw [hidL_out (fun w => (hL b w).notup.1 _ z)]; exact z
    · have z := I.base.frzs b o u q
      rw [hidL_out (fun w => (hL b w).notup.2.1 _ _ z)]; exact z
    · obtain ⟨more, z⟩ := I.base.tbls b ps q
      exact ⟨more, by rw [hidL_out (fun w => (hL b w).notup.2.2.1 _ z)]; exact z⟩
    · rw [← List.append_assoc] at hp
      rcases List.mem_append.mp hp with z | z
      · obtain ⟨p1, p2, p3, p4, p5⟩ := I.pin p z
        exact ⟨p1, hidL_none p2, p3, p4, p5⟩
      · obtain ⟨z1, z2⟩ := of_pinsAt z
        obtain ⟨o, e⟩ := (hL p.1 z1).there
        refine ⟨z2, hidL_in z1, fun w => ?_, (I.notfs e).1, fun v q => ?_⟩
        · have f := I.free
          rw [← w, e] at f
          cases f
        · obtain ⟨ob, e2, nc⟩ := (hL p.1 z1).obj I
          rw [z2] at e2
          cases e2
          exact nc v q
    · obtain ⟨hb, q⟩ := hidL_some q
      refine (I.hok b o q).stay (fun _ _ _ z => z) (fun c hc => ?_) (fun c xs hc => ?_)
      · rw [hidL_out (fun w => hb ((hL c w).notup.2.2.2 _ hc))]; exact hc
      · rw [hidL_out (fun w => (hL c w).notup.1 _ hc)]; exact hc
  · have pin : ∀ b ∈ L, H' b = none ∧ ∀ o, s.heap.get? b = some o → s'.heap.get? b = some o := fun b hb => by
      obtain ⟨o, e, _⟩ := (hL b hb).obj I
      obtain ⟨g1, g2, _⟩ := J.pin (b, o) (List.mem_append_right _ (List.mem_append_right _ (memL.mpr ⟨hb, e⟩)))
      exact ⟨g2, fun o' e' => by rw [e] at e'; cases e'; exact g1⟩
    refine ⟨fun b hb => (pin b hb).1, ⟨J.ok, J.os, J.bare, ⟨J.base.keep, J.base.slot, fun b o q n hx => ?_, J.base.there, fun b xs q => ?_, fun b o u q => ?_, fun b ps q => ?_⟩, J.loc, J.cell, ?_, fun x c q => ?_, fun p hp => ?_, fun b o q => ?_, J.len⟩⟩
    · rw [showL_out (fun w => let ⟨o', e⟩ := (hL b w).there; (I.notfs e).2.1 b o q n hx rfl)]
      exact J.base.free b o q n hx
    · have z := J.base.tups b xs q
      rw [showL_out (fun w => by rw [(pin b w).1] at z; cases z)]; exact z
    · have z := J.base.frzs b o u q
      rw [showL_out (fun w => by rw [(pin b w).1] at z; cases z)]; exact z
    · obtain ⟨more, z⟩ := J.base.tbls b ps q
      exact ⟨more, by rw [showL_out (fun w => by rw [(pin b w).1] at z; cases z)]; exact z⟩
    · rw [showL_out (fun w => let ⟨o', e⟩ := (hL _ w).there; by rw [I.free] at e; cases e)]
      exact J.free
    · rw [showL_out (fun w => let ⟨o', e⟩ := (hL _ w).there; by rw [I.freeC x c q] at e; cases e)]
      exact J.freeC x c q
    · obtain ⟨p1, p2, p3, p4, p5⟩ := J.pin p (by rw [← List.append_assoc]; exact List.mem_append_left _ hp)
      refine ⟨p1, ?_, p3, p4, p5⟩
      rw [showL_out (fun w => let ⟨o', e⟩ := (hL _ w).there; (I.notfs e).2.2.1 p hp rfl)]
      exact p2
    · by_cases hb : b ∈ L
      · rw [showL_in hb] at q
        have k := (pin b hb).2
        have w := hL b hb
        cases w with
        | lst xs h =>
          rw [h] at q; cases q
          obtain ⟨hz, its, n, hv, ho⟩ := (show ObjOk X.prog X.w H s.heap b (.lst xs) from I.hok b _ h)
          exact ⟨hz, its, n, hv, k _ ho⟩
        | dK kvs h =>
          rw [h] at q; cases q
          obtain ⟨z1, z2, vs, hv, ob, es, ep, e, c⟩ := (show ObjOk X.prog X.w H s.heap b (.dK kvs) from I.hok b _ h)
          exact ⟨z1, z2, vs, hv, ob, es, ep, k _ e, c⟩
        | ins C dx fs h hd =>
          rw [h] at q; cases q
          obtain ⟨d, z, ne, ea, mA, ⟨od, es, ep, e2, c⟩, r⟩ := (show ObjOk X.prog X.w H s.heap b (.ins C dx fs) from I.hok b _ h)
          exact ⟨by rw [showL_in hd]; exact d, z, ne, k _ ea, mA, ⟨od, es, ep, (pin dx hd).2 _ e2, c⟩, r⟩
        | own C a fs h ha hi =>
          rw [h] at q; cases q
          obtain ⟨o, e⟩ := (show ObjOk X.prog X.w H s.heap b (.own a) from I.hok b _ h)
          exact ⟨o, k _ e⟩
      · rw [showL_out hb] at q
        refine (J.hok b o q).stay (fun _ _ _ z => z) (fun c hc => ?_) (fun c xs hc => ?_)
        · rw [showL_out (fun w => by rw [(pin c w).1] at hc; cases hc)]; exact hc
        · rw [showL_out (fun w => by rw [(pin c w).1] at hc; cases hc)]; exact hc
end
section
variable {X : Cx} {e : Expr} {te : TE} {tt : TT} {st : Stmt} {ts : TS} {tg iter : Expr} {wi : TI}
def frE (te : TE) : TE := fun σ H Q => ∃ L, (∀ a ∈ L, HidOk H L a) ∧ te σ (hidL H L) fun y H4 => (∀ b ∈ L, H4 b = none) → Q y (showL H4 H L)
theorem pe_frM (he : PE X e te) : PE X e (frE te) := by
  intro pins s σ H Q I ⟨L, hL, q⟩
  refine frameM I hL fun pl I' _ back => ?_
  refine thn (he (pins ++ pl) s σ _ _ I' q) fun v s1 ⟨y, H4, I4, r, k⟩ => ?_
  obtain ⟨z, J⟩ := back _ _ _ I4
  exact ⟨y, _, J, r, k z⟩
def frEnds (D : Ends) (H : Hp) (L : List Addr) : Ends := ⟨fun σ' H4 => (∀ b ∈ L, H4 b = none) → D.nx σ' (showL H4 H L), fun v H4 => (∀ b ∈ L, H4 b = none) → D.rt v (showL H4 H L),
  fun σ' H4 => (∀ b ∈ L, H4 b = none) → D.bk σ' (showL H4 H L), fun σ' H4 => (∀ b ∈ L, H4 b = none) → D.ct σ' (showL H4 H L)⟩
def frS (ts : TS) : TS := fun D σ H => ∃ L, (∀ a ∈ L, HidOk H L a) ∧ ts (frEnds D H L) σ (hidL H L)
theorem sp_back {pins pl : List (Addr × Obj)} {D : Ends} {H : Hp} {L : List Addr} {f : Flow} {s1 : Shared} (back : ∀ (σ' : St) (H' : Hp) (s' : Shared), Inv X (pins ++ pl) σ' H' s' → (∀ b ∈ L, H' b = none) ∧ Inv X pins σ' (showL H' H L) s')
    (hq : SP X (pins ++ pl) (frEnds D H L) f s1) : SP X pins D f s1 := by
  cases f with
  | next => obtain ⟨σ', H', J, k⟩ := hq; obtain ⟨z, J'⟩ := back _ _ _ J; exact ⟨σ', _, J', k z⟩
  | brk => obtain ⟨σ', H', J, k⟩ := hq; obtain ⟨z, J'⟩ := back _ _ _ J; exact ⟨σ', _, J', k z⟩
  | cont => obtain ⟨σ', H', J, k⟩ := hq; obtain ⟨z, J'⟩ := back _ _ _ J; exact ⟨σ', _, J', k z⟩
  | ret u => obtain ⟨v, σ', H', J, r, k⟩ := hq; obtain ⟨z, J'⟩ := back _ _ _ J; exact ⟨v, σ', _, J', r, k z⟩
theorem ps_frM (he : PS X st ts) : PS X st (frS ts) := by
  intro pins s σ H D I ⟨L, hL, q⟩
  refine frameM I hL fun pl I' _ back => ?_
  exact thn (he (pins ++ pl) s σ _ _ I' q) fun f s1 hq => sp_back back hq
def frI (wi : TI) : TI := fun σ H R => ∃ L, (∀ a ∈ L, HidOk H L a) ∧ wi σ (hidL H L) fun J H4 => (∀ b ∈ L, H4 b = none) → R J (showL H4 H L)
theorem pi_frM (he : PI X tg iter wi) : PI X tg iter (frI wi) := by
  intro pins s σ H R I ⟨L, hL, q⟩
  refine frameM I hL fun pl I' hpl back => ?_
  refine thn (he (pins ++ pl) s σ _ _ I' q) fun v s1 h1 => thn h1 fun itv s2 ⟨it, fp, tn, J, H', e1, I2, T, t0, hf, k⟩ => ?_
  obtain ⟨z, J2⟩ := back _ _ _ I2
  have hn : ∀ b ∈ fp, b ∉ L := fun b hb hl => let ⟨o, ho⟩ := hpl b hl; (hf b hb).2.2.2.2.2 (b, o) (List.mem_append_right _ (List.mem_append_right _ ho)) rfl
  refine ⟨it, fp, tn, J, _, e1, J2, T, t0, fun b hb => ?_, k z⟩
  obtain ⟨f1, f2, f3, f4, f5, f6⟩ := hf b hb
  exact ⟨by rw [showL_out (hn b hb)]; exact f1, f2, f3, f4, f5, fun p hp => f6 p (by rw [← List.append_assoc]; exact List.mem_append_left _ hp)⟩
end
end L2

set_option maxHeartbeats 4000000
namespace DC
open PySem PySem.Spec PyProof.Rows L2
inductive D where
  | non | bl (b : Bool) | int (i : Int) | str (x : Str)
  | lst (xs : List D) | tup (xs : List D)
  | obj (C : Addr) (fs : List (Str × D))
  | dK (kvs : List (Key × D)) | dT (kvs : List (List Key × D))
  | adr (a : Addr)
  | exc (a C : Addr) (fs : List (Str × D))
def ExcO (a C : Addr) (dx : Option Addr) : HO := .ext fun h => ∃ oe vs, h.get? a = some oe ∧ oe.cls = .ref C ∧ oe.dict = dx ∧ oe.data = .fields vs ∧ vs[2]? = some .none
def XdO (d : Addr) (fs : List (Str × V)) : HO := .ext fun h => ∃ mA, h.Ns1 d mA ∧ (∀ f, RelO (fs.lookup f) (mA f)) ∧ PySem.Within mA (fs.map (·.1))
def XDict (H : Hp) (dx : Option Addr) (fs : List (Str × V)) : Prop := match dx with
  | none => fs = []
  | some d => Rd H d (XdO d fs)
theorem rd_same {H H' : Hp} {a : Addr} {u : HO} (s : Same H H') (r : Rd H a u) : Rd H' a u := by
  rcases r with r | ⟨o, r⟩
  · exact .inl (s _ _ r)
  · exact .inr ⟨o, s _ _ r⟩
theorem XDict.same {H H' : Hp} {dx : Option Addr} {fs : List (Str × V)} (s : Same H H') (h : XDict H dx fs) : XDict H' dx fs := by
  cases dx with
  | none => exact h
  | some d => exact rd_same s h
mutual
inductive Dv (K : PySem.W.Frag) (H : Hp) : V → D → Prop
  | non : Dv K H .non .non
  | bl (b : Bool) : Dv K H (.bl b) (.bl b)
  | int (i : Int) : Dv K H (.int i) (.int i)
  | str (x : Str) : Dv K H (.str x) (.str x)
  | lst {a : Addr} {xs : List V} {ds : List D} : SqL K H a xs → Dvs K H xs ds → Dv K H (.ref a) (.lst ds)
  | tup {a : Addr} {xs : List V} {ds : List D} : SqT K H a xs → Dvs K H xs ds → Dv K H (.ref a) (.tup ds)
  | obj {a C dx : Addr} {fs : List (Str × V)} {gs : List (Str × D)} : Rd H a (.ins C dx fs) → Dvf K H fs gs → Dv K H (.ref a) (.obj C gs)
  | dK {a : Addr} {kvs : List (Key × V)} {gs : List (Key × D)} : Rd H a (.dK kvs) → Dvk K H kvs gs → Dv K H (.ref a) (.dK gs)
  | dT {a : Addr} {kvs : List (List Key × V)} {gs : List (List Key × D)} : Rd H a (.dT kvs) → Dvt K H kvs gs → Dv K H (.ref a) (.dT gs)
  | adr (a : Addr) : Dv K H (.ref a) (.adr a)
  | exc {a C : Addr} {dx : Option Addr} {fs : List (Str × V)} {gs : List (Str × D)} : Rd H a (ExcO a C dx) → XDict H dx fs → Dvf K H fs gs → Dv K H (.ref a) (.exc a C gs)
inductive Dvs (K : PySem.W.Frag) (H : Hp) : List V → List D → Prop
  | nil : Dvs K H [] []
  | cons {x : V} {d : D} {xs : List V} {ds : List D} : Dv K H x d → Dvs K H xs ds → Dvs K H (x :: xs) (d :: ds)
inductive Dvf (K : PySem.W.Frag) (H : Hp) : List (Str × V) → List (Str × D) → Prop
  | nil : Dvf K H [] []
  | cons {k : Str} {x : V} {d : D} {xs : List (Str × V)} {ds : List (Str × D)} : Dv K H x d → Dvf K H xs ds → Dvf K H ((k, x) :: xs) ((k, d) :: ds)
inductive Dvk (K : PySem.W.Frag) (H : Hp) : List (Key × V) → List (Key × D) → Prop
  | nil : Dvk K H [] []
  | cons {k : Key} {x : V} {d : D} {xs : List (Key × V)} {ds : List (Key × D)} : Dv K H x d → Dvk K H xs ds → Dvk K H ((k, x) :: xs) ((k, d) :: ds)
inductive Dvt (K : PySem.W.Frag) (H : Hp) : List (List Key × V) → List (List Key × D) → Prop
  | nil : Dvt K H [] []
  | cons {k : List Key} {x : V} {d : D} {xs : List (List Key × V)} {ds : List (List Key × D)} : Dv K H x d → Dvt K H xs ds → Dvt K H ((k, x) :: xs) ((k, d) :: ds)
end
theorem sameT {K : PySem.W.Frag} {H H' : Hp} {a : Addr} {xs : List V} (e : Same H H') (h : SqT K H a xs) : SqT K H' a xs := by
  rcases h with (h | ⟨o, h⟩) | h
  · exact .inl (.inl (e _ _ h))
  · exact .inl (.inr ⟨o, e _ _ h⟩)
  · exact .inr h
section
variable {K : PySem.W.Frag} {H H' : Hp}
mutual
theorem Dv.same (s : Same H H') : ∀ {v : V} {d : D}, Dv K H v d → Dv K H' v d
  | _, _, .non => .non
  | _, _, .bl b => .bl b
  | _, _, .int i => .int i
  | _, _, .str x => .str x
  | _, _, .lst h1 h2 => .lst (s.seq h1) (Dvs.same s h2)
  | _, _, .tup h1 h2 => .tup (sameT s h1) (Dvs.same s h2)
  | _, _, .obj h1 h2 => .obj (rd_same s h1) (Dvf.same s h2)
  | _, _, .dK h1 h2 => .dK (rd_same s h1) (Dvk.same s h2)
  | _, _, .dT h1 h2 => .dT (rd_same s h1) (Dvt.same s h2)
  | _, _, .adr a => .adr a
  | _, _, .exc h1 h2 h3 => .exc (rd_same s h1) (h2.same s) (Dvf.same s h3)
theorem Dvs.same (s : Same H H') : ∀ {vs : List V} {ds : List D}, Dvs K H vs ds → Dvs K H' vs ds
  | _, _, .nil => .nil
  | _, _, .cons h1 h2 => .cons (Dv.same s h1) (Dvs.same s h2)
theorem Dvf.same (s : Same H H') : ∀ {vs : List (Str × V)} {ds : List (Str × D)}, Dvf K H vs ds → Dvf K H' vs ds
  | _, _, .nil => .nil
  | _, _, .cons h1 h2 => .cons (Dv.same s h1) (Dvf.same s h2)
theorem Dvk.same (s : Same H H') : ∀ {vs : List (Key × V)} {ds : List (Key × D)}, Dvk K H vs ds → Dvk K H' vs ds
  | _, _, .nil => .nil
  | _, _, .cons h1 h2 => .cons (Dv.same s h1) (Dvk.same s h2)
theorem Dvt.same (s : Same H H') : ∀ {vs : List (List Key × V)} {ds : List (List Key × D)}, Dvt K H vs ds → Dvt K H' vs ds
  | _, _, .nil => .nil
  | _, _, .cons h1 h2 => .cons (Dv.same s h1) (Dvt.same s h2)
end
theorem Dvs.length : ∀ {vs : List V} {ds : List D}, Dvs K H vs ds → vs.length = ds.length
  | _, _, .nil => rfl
  | _, _, .cons _ h => congrArg (· + 1) (Dvs.length h)
theorem Dvs.get : ∀ {vs : List V} {ds : List D} {i : Nat} {d : D}, Dvs K H vs ds → ds[i]? = some d → ∃ v, vs[i]? = some v ∧ Dv K H v d
  | _, _, _, _, .nil, e => by simp at e
  | _, _, 0, _, .cons h _, e => by simp at e; subst e; exact ⟨_, rfl, h⟩
  | _, _, i + 1, d, .cons _ h, e => by
    obtain ⟨v, h1, h2⟩ := Dvs.get (i := i) (d := d) h (by simpa using e)
    exact ⟨v, by simpa using h1, h2⟩
theorem Dvs.getV : ∀ {vs : List V} {ds : List D} {i : Nat} {v : V}, Dvs K H vs ds → vs[i]? = some v → ∃ d, ds[i]? = some d ∧ Dv K H v d
  | _, _, _, _, .nil, e => by simp at e
  | _, _, 0, _, .cons h _, e => by simp at e; subst e; exact ⟨_, rfl, h⟩
  | _, _, i + 1, v, .cons _ h, e => by
    obtain ⟨d, h1, h2⟩ := Dvs.getV (i := i) (v := v) h (by simpa using e)
    exact ⟨d, by simpa using h1, h2⟩
theorem Dvs.append : ∀ {vs ws : List V} {ds es : List D}, Dvs K H vs ds → Dvs K H ws es → Dvs K H (vs ++ ws) (ds ++ es)
  | _, _, _, _, .nil, h => h
  | _, _, _, _, .cons a r, h => .cons a (Dvs.append r h)
theorem Dvs.take : ∀ {vs : List V} {ds : List D} (n : Nat), Dvs K H vs ds → Dvs K H (vs.take n) (ds.take n)
  | _, _, 0, _ => .nil
  | _, _, _ + 1, .nil => .nil
  | _, _, n + 1, .cons r t => .cons r (Dvs.take n t)
theorem Dvs.drop : ∀ {vs : List V} {ds : List D} (n : Nat), Dvs K H vs ds → Dvs K H (vs.drop n) (ds.drop n)
  | _, _, 0, r => r
  | _, _, _ + 1, .nil => .nil
  | _, _, n + 1, .cons _ t => Dvs.drop n t
theorem Dvf.look : ∀ {fs : List (Str × V)} {gs : List (Str × D)} {f : Str} {d : D}, Dvf K H fs gs → gs.lookup f = some d → ∃ v, fs.lookup f = some v ∧ Dv K H v d
  | _, _, _, _, .nil, e => by simp at e
  | _, _, f, d, .cons (k := k) h r, e => by
    rw [List.lookup_cons] at e ⊢
    cases q : f == k with
    | true =>
      rw [q] at e
      cases e
      exact ⟨_, rfl, h⟩
    | false =>
      rw [q] at e
      exact Dvf.look r e
theorem Dvf.none : ∀ {fs : List (Str × V)} {gs : List (Str × D)} {f : Str}, Dvf K H fs gs → gs.lookup f = Option.none → fs.lookup f = Option.none
  | _, _, _, .nil, _ => rfl
  | _, _, f, .cons (k := k) h r, e => by
    rw [List.lookup_cons] at e ⊢
    cases q : f == k with
    | true => rw [q] at e; cases e
    | false =>
      rw [q] at e
      exact Dvf.none r e
end
section
variable {X : Cx} {pins : List (Addr × Obj)} {σ : L2.St} {H : Hp} {s : Shared} {a C dx : Addr} {fs : List (Str × V)} {f : Str} {v : V} {A : Around} {E : Value → Shared → Prop}
theorem ins_getR {P : Program} {w : World} {h : Heap} (hok : HOk P w H h) (e : Rd H a (.ins C dx fs)) : ∃ mA, ObjM h a dx C mA ∧ (∀ f, RelO (fs.lookup f) (mA f)) ∧ PySem.Within mA (fs.map (·.1)) ∧ fs.length ≤ 1000 ∧ H dx = some (.own a) := by
  obtain ⟨d, z, ne, ob, mA, n, r, q⟩ := (show ObjOk P w H h a (.ins C dx fs) from e.ok hok)
  exact ⟨mA, ⟨ob, n, ne⟩, r, q, z, d⟩
theorem getattr_okR {b : Bool} {Q : Value → Shared → Prop} (I : Inv X pins σ H s) (e : Rd H a (.ins C dx fs)) (c : Cls X.K C) (n : NoAttr X.K C f) (l : fs.lookup f = some v)
    (h : ∀ u s', Inv X pins σ H s' → RelV v u → Q u s') : wpAny (model X.prog X.w) A (getAttr (.ref a) f b) Q E s := by
  obtain ⟨mA, O, r, _, _, _⟩ := ins_getR I.hok e
  obtain ⟨u, hu, ru⟩ := RelO.some_of (v := v) (o := mA f) (by rw [← l]; exact r f)
  exact get_map I.kIn O (c.get f) c.hd n hu (handed_of ru) (h u _ (I.tok _) ru)
theorem getmeth_okR {m : Str} {g : Addr} {pl : Sem Bool} {Q : Value × List Value → Shared → Prop} (I : Inv X pins σ H s) (e : Rd H a (.ins C dx fs)) (c : Cls X.K C) (k : Meth X.K C m g) (l : fs.lookup m = none)
    (h : Q (.ref g, [.ref a]) s) : wpAny (model X.prog X.w) A (getMethod (.ref a) m pl) Q E s := by
  obtain ⟨mA, O, r, _, _, _⟩ := ins_getR I.hok e
  have hn : mA m = none := RelO.none_of (by rw [← l]; exact r m)
  exact get_meth I.kIn O (c.get m) k.at_ k.fn hn h
def tFldR (K : PySem.W.Frag) (ta : TE) (f : Str) : TE := fun σ H Q => ta σ H fun x H1 => ∃ a C dx fs v, x = .ref a ∧ Rd H1 a (.ins C dx fs) ∧ Cls K C ∧ NoAttr K C f ∧ fs.lookup f = some v ∧ Q v H1
theorem pe_fldR {e : Expr} {ta : TE} {pos : Pos} (he : PE X e ta) (hb : attributeBase e f X.env (eval e X.env) = eval e X.env) : PE X (.Attribute e f pos) (tFldR X.K ta f) := by
  intro pins s σ H Q I h
  refine attr_of hb (thn (he pins s σ H _ I h) fun u s1 ⟨x, H1, I1, rx, a, C, dx, fs, v, ex, ea, c, n, l, q⟩ => ?_)
  subst ex
  obtain rfl : u = Value.ref a := rx
  exact getattr_okR I1 ea c n l fun u' s2 I2 ru => ⟨v, H1, I2, ru, q⟩
end
abbrev SD := List (Option D)
abbrev ED := SD → (D → Prop) → Prop
abbrev TD := SD → (Bool → Prop) → Prop
abbrev AD := SD → (List D → Prop) → Prop
structure RelS (K : PySem.W.Frag) (H : Hp) (σ : L2.St) (δ : SD) : Prop where
  len : σ.length = δ.length
  get : ∀ (i : Nat) (d : D), δ[i]? = some (some d) → ∃ v, σ[i]? = some (some v) ∧ Dv K H v d
theorem RelS.same {K : PySem.W.Frag} {H H' : Hp} {σ : L2.St} {δ : SD} (r : RelS K H σ δ) (s : Same H H') : RelS K H' σ δ :=
  ⟨r.len, fun i d h => let ⟨v, h1, h2⟩ := r.get i d h; ⟨v, h1, h2.same s⟩⟩
theorem RelS.set {K : PySem.W.Frag} {H : Hp} {σ : L2.St} {δ : SD} (r : RelS K H σ δ) {v : V} {d : D} (i : Nat) (h : Dv K H v d) : RelS K H (σ.set i (some v)) (δ.set i (some d)) := by
  refine ⟨by rw [List.length_set, List.length_set]; exact r.len, fun j e hj => ?_⟩
  rw [List.getElem?_set] at hj ⊢
  split at hj
  · rename_i q
    subst q
    have hl := r.len
    split at hj
    · rename_i q2
      cases hj
      exact ⟨v, by rw [if_pos rfl, if_pos (by omega)], h⟩
    · cases hj
  · rename_i q
    rw [if_neg q]
    exact r.get j e hj
def kD (K : PySem.W.Frag) (H : Hp) (Q : VK) : D → Prop := fun d => ∀ v H', Same H H' → Dv K H' v d → Q v H'
def kB (H : Hp) (Q : Bool → Hp → Prop) : Bool → Prop := fun b => ∀ H', Same H H' → Q b H'
def kA (K : PySem.W.Frag) (H : Hp) (Q : List V → Hp → Prop) : List D → Prop := fun ds => ∀ vs H', Same H H' → Dvs K H' vs ds → Q vs H'
theorem kD.on {K : PySem.W.Frag} {H H1 : Hp} {Q : VK} {d : D} (s : Same H H1) (h : kD K H Q d) : kD K H1 Q d := fun v H' s' dv => h v H' (s.trans s') dv
theorem kB.on {H H1 : Hp} {Q : Bool → Hp → Prop} {b : Bool} (s : Same H H1) (h : kB H Q b) : kB H1 Q b := fun H' s' => h H' (s.trans s')
def oE (K : PySem.W.Frag) (t : ED) : TE := fun σ H Q => ∃ δ, RelS K H σ δ ∧ t δ (kD K H Q)
def oT (K : PySem.W.Frag) (t : TD) : TT := fun σ H Q => ∃ δ, RelS K H σ δ ∧ t δ (kB H Q)
def oA (K : PySem.W.Frag) (t : AD) : TA := fun σ H Q => ∃ δ, RelS K H σ δ ∧ t δ (kA K H Q)
abbrev MonoE (t : ED) : Prop := ∀ δ (P P' : D → Prop), (∀ d, P d → P' d) → t δ P → t δ P'
structure PD (X : Cx) (e : Expr) (t : ED) : Prop where
  pe : PE X e (oE X.K t)
  mono : MonoE t
structure PTd (X : Cx) (e : Expr) (t : TD) : Prop where
  pt : PT X e (oT X.K t)
  mono : ∀ δ (P P' : Bool → Prop), (∀ d, P d → P' d) → t δ P → t δ P'
structure PWd (X : Cx) (e : Expr) (t : TD) : Prop where
  pw : PW X e (oT X.K t)
  mono : ∀ δ (P P' : Bool → Prop), (∀ d, P d → P' d) → t δ P → t δ P'
structure PAd (X : Cx) (es : List Expr) (t : AD) : Prop where
  pa : PA X es (oA X.K t)
  mono : ∀ δ (P P' : List D → Prop), (∀ d, P d → P' d) → t δ P → t δ P'
theorem PT.imp {X : Cx} {e : Expr} {t t' : TT} (h : PT X e t) (f : ∀ σ H Q, t' σ H Q → t σ H Q) : PT X e t' := fun pins s σ H Q I q => h pins s σ H Q I (f σ H Q q)
theorem PW.imp {X : Cx} {e : Expr} {t t' : TT} (h : PW X e t) (f : ∀ σ H Q, t' σ H Q → t σ H Q) : PW X e t' := fun wh pins s σ H Q I q => h wh pins s σ H Q I (f σ H Q q)
theorem PA.imp {X : Cx} {es : List Expr} {t t' : TA} (h : PA X es t) (f : ∀ σ H Q, t' σ H Q → t σ H Q) : PA X es t' := fun p pins s σ H Q I q => h p pins s σ H Q I (f σ H Q q)
section
variable {X : Cx} {e a b c : Expr} {es rest : List Expr} {pos : Pos} {ta tb tc : ED}
def vVar (i : Nat) : ED := fun δ Q => ∃ d, δ[i]? = some (some d) ∧ Q d
def vC (d : D) : ED := fun _ Q => Q d
theorem d_pe {i : Nat} (h : PE X e (tVar i)) : PD X e (vVar i) :=
  ⟨h.imp fun σ H Q ⟨δ, r, d, hd, k⟩ => let ⟨v, hv, dv⟩ := r.get i d hd; ⟨v, hv, k v H (Same.refl _) dv⟩, fun δ P P' f ⟨d, hd, k⟩ => ⟨d, hd, f d k⟩⟩
theorem dv (i : Nat) {x : Str} {pos : Pos} (hN : X.N[i]? = some x := by rfl) (hv : Vis X.env.scope x := by first | exact Or.inl rfl | exact Or.inr (Or.inl rfl) | exact Or.inr (Or.inr rfl)) (hd : (x == ("__debug__" : Str)) = false := by decide)
    (hcd : (x == ("__classdict__" : Str)) = false := by decide) : PD X (.Name x pos) (vVar i) := d_pe (pv i hN hv hd hcd)
theorem d_c {v : V} {d : D} (h : PE X e (tC v)) (hv : ∀ H, Dv X.K H v d) : PD X e (vC d) :=
  ⟨h.imp fun σ H Q ⟨δ, r, k⟩ => k v H (Same.refl _) (hv H), fun δ P P' f k => f d k⟩
theorem d_int {i j pos} : PD X (.Constant (.int i) j pos) (vC (.int i)) := d_c pe_int fun _ => .int i
theorem d_bl {i j pos} : PD X (.Constant (.bool i) j pos) (vC (.bl i)) := d_c pe_bl fun _ => .bl i
theorem d_str {i j pos} : PD X (.Constant (.str i) j pos) (vC (.str i)) := d_c pe_str fun _ => .str i
theorem d_non {j pos} : PD X (.Constant .none j pos) (vC .non) := d_c pe_non fun _ => .non
theorem d_glob {x : Str} {v : V} {u : Value} {d : D} {pos : Pos} (hg : Gl X x) (hm : X.mg x = some u) (r : RelV v u) (hv : ∀ H, Dv X.K H v d) (hd : (x == ("__debug__" : Str)) = false := by decide) : PD X (.Name x pos) (vC d) := d_c (pe_glob hg hm r hd) hv
abbrev F2 := D → D → (D → Prop) → Prop
abbrev MonoF (f : F2) : Prop := ∀ d e (P P' : D → Prop), (∀ r, P r → P' r) → f d e P → f d e P'
def vOp (f : F2) (ta tb : ED) : ED := fun δ Q => ta δ fun d => tb δ fun e => f d e Q
def Does (K : PySem.W.Frag) (r : R2) (f : F2) : Prop := ∀ H x y d e Q, Dv K H x d → Dv K H y e → f d e (kD K H Q) → r x y H Q
theorem d_bin {t : TE} {r : R2} {f : F2} (hp : PE X e (tOp r (oE X.K ta) (oE X.K tb))) (ma : MonoE ta) (mb : MonoE tb) (hd : Does X.K r f) (hf : MonoF f) : PD X e (vOp f ta tb) := by
  refine ⟨hp.imp fun σ H Q ⟨δ, r, h⟩ => ⟨δ, r, ma _ _ _ (fun d hd' v H1 s1 dv => ⟨δ, r.same s1, mb _ _ _ (fun e he w H2 s2 ew => hd H2 v w d e Q (dv.same s2) ew (hf d e _ _ (fun z hz => hz.on (s1.trans s2)) he)) hd'⟩) h⟩, ?_⟩
  exact fun δ P P' g h => ma _ _ _ (fun d h' => mb _ _ _ (fun e h'' => hf d e _ _ g h'') h') h
theorem d_op {op : Operator} {r : R2} {f : F2} (ho : OpR X (binaryOp op) r) (hd : Does X.K r f) (hf : MonoF f) (ha : PD X a ta) (hb : PD X b tb) : PD X (.BinOp a op b pos) (vOp f ta tb) :=
  d_bin (t := oE X.K ta) (pe_op ho ha.pe hb.pe) ha.mono hb.mono hd hf
theorem d_cmp {op : CmpOp} {r : R2} {f : F2} (ho : OpR X (compareOp op) r) (hd : Does X.K r f) (hf : MonoF f) (ha : PD X a ta) (hb : PD X b tb) (hm : behindInMarks op b = false) : PD X (.Compare a [op] [b] pos) (vOp f ta tb) :=
  d_bin (t := oE X.K ta) (pe_cmpR ho ha.pe hb.pe hm) ha.mono hb.mono hd hf
end
end DC

set_option maxHeartbeats 4000000
namespace DC
open PySem PySem.Spec PyProof.Rows L2
section
variable {X : Cx}
theorem op_catL : OpR X (binaryOp .Add) (fun x y H Q => ∃ a b xs ys, x = .ref a ∧ y = .ref b ∧ SqL X.K H a xs ∧ SqL X.K H b ys ∧ xs.length + ys.length ≤ sizeLine ∧ ∀ p, H p = none → Q (.ref p) (upd H p (.lst (xs ++ ys)))) := by
  intro pins s σ H x y v u Q I rx ry h
  obtain ⟨a, b, xs, ys, rfl, rfl, ha, hb, hz, q⟩ := h
  cases (show v = Value.ref a from rx)
  cases (show u = Value.ref b from ry)
  obtain ⟨its, r1, p1, _⟩ := I.list ha
  obtain ⟨its2, r2, p2, _⟩ := I.list hb
  have hl1 := r1.length
  have hl2 := r2.length
  obtain ⟨⟨cls, dd, data, sl⟩, ho, hc, n, hd⟩ := id p1.isList
  obtain ⟨⟨cls2, dd2, data2, sl2⟩, ho2, hc2, n2, hd2⟩ := id p2.isList
  simp only at hc hd hc2 hd2
  subst hc hd hc2 hd2
  have e : its.toArray ++ its2.toArray = (its ++ its2).toArray := by simp
  refine concat_meets ⟨_, ho, rfl⟩ ⟨_, ho2, rfl⟩ noFill_list_add seq_list_add PySem.F.slot_list_add PySem.F.entry_list_add (PySem.F.args_list_add_2 _ _)
    (list_addW a b its.toArray its2.toArray n n2 dd dd2 sl sl2 (by rw [List.size_toArray, List.size_toArray]; omega)) ⟨ho, ho2, ?_⟩
  rw [e]
  exact ⟨.ref _, _, I.lnew (t' := s.toks) (r1.append r2) (by rw [List.length_append]; omega), rfl, q _ I.fresh⟩
theorem op_catN : OpR X (binaryOp .Add) (fun x y H Q => ∃ a b ys, x = .ref a ∧ y = .ref b ∧ SqT X.K H a [] ∧ SqT X.K H b ys ∧ Q (.ref b) H) := by
  intro pins s σ H x y v u Q I rx ry h
  obtain ⟨a, b, ys, rfl, rfl, ha, hb, q⟩ := h
  cases (show v = Value.ref a from rx)
  cases (show u = Value.ref b from ry)
  obtain ⟨its, r1, p1, _⟩ := I.tuple ha
  obtain ⟨its2, r2, p2, _⟩ := I.tuple hb
  have e1 : its = [] := r1.zero
  subst e1
  obtain ⟨⟨cls, dd, data, sl⟩, ho, hc, n, hd⟩ := id p1
  obtain ⟨⟨cls2, dd2, data2, sl2⟩, ho2, hc2, n2, hd2⟩ := id p2
  simp only at hc hd hc2 hd2
  subst hc hd hc2 hd2
  exact concat_meets ⟨_, ho, rfl⟩ ⟨_, ho2, rfl⟩ noFill_tuple_add seq_tuple_add PySem.F.slot_tuple_add PySem.F.entry_tuple_add (PySem.F.args_tuple_add_2 _ _)
    (tuple_addW0 a b #[] its2.toArray n n2 dd dd2 sl sl2 rfl) ⟨ho, ho2, ⟨.ref b, H, I, rfl, q⟩⟩
end
section
variable {K : PySem.W.Frag}
def fAdd : F2 := fun d e Q => match d, e with
  | .int i, .int j => Q (.int (i + j))
  | .str x, .str y => x.length + y.length ≤ sizeLine ∧ Q (.str (x ++ y))
  | .lst xs, .lst ys => xs.length + ys.length ≤ sizeLine ∧ Q (.lst (xs ++ ys))
  | .tup xs, .tup ys => xs.length + ys.length ≤ sizeLine ∧ Q (.tup (xs ++ ys))
  | _, _ => False
theorem m_add : MonoF fAdd := by
  intro d e P P' g h
  unfold fAdd at h ⊢
  split at h
  · exact g _ h
  · exact ⟨h.1, g _ h.2⟩
  · exact ⟨h.1, g _ h.2⟩
  · exact ⟨h.1, g _ h.2⟩
  · exact h.elim
def rAddU (K : PySem.W.Frag) : R2 := fun x y H Q => (∃ i j, x = .int i ∧ y = .int j ∧ Q (.int (i + j)) H) ∨ (∃ i j, x = .str i ∧ y = .str j ∧ i.length + j.length ≤ sizeLine ∧ Q (.str (i ++ j)) H) ∨
  (∃ a b xs ys, x = .ref a ∧ y = .ref b ∧ SqL K H a xs ∧ SqL K H b ys ∧ xs.length + ys.length ≤ sizeLine ∧ ∀ p, H p = none → Q (.ref p) (upd H p (.lst (xs ++ ys)))) ∨
  rCatT K x y H Q ∨ (∃ a b ys, x = .ref a ∧ y = .ref b ∧ SqT K H a [] ∧ SqT K H b ys ∧ Q (.ref b) H)
theorem op_addU {X : Cx} : OpR X (binaryOp .Add) (rAddU X.K) := op_add.or (op_add_str.or (op_catL.or (op_catT.or op_catN)))
theorem does_add : Does K (rAddU K) fAdd := by
  intro H x y d e Q hx hy h
  cases hx with
  | int i => cases hy with
    | int j => exact .inl ⟨i, j, rfl, rfl, h _ H (Same.refl _) (.int _)⟩
    | _ => exact h.elim
  | str i => cases hy with
    | str j => exact .inr (.inl ⟨i, j, rfl, rfl, h.1, h.2 _ H (Same.refl _) (.str _)⟩)
    | _ => exact h.elim
  | lst h1 h2 => cases hy with
    | lst g1 g2 =>
      refine .inr (.inr (.inl ⟨_, _, _, _, rfl, rfl, h1, g1, ?_, fun p hp => ?_⟩))
      · rw [h2.length, g2.length]; exact h.1
      · exact h.2 _ _ (same_upd hp) (.lst (SqL.of upd_same) ((h2.append g2).same (same_upd hp)))
    | _ => exact h.elim
  | tup h1 h2 => cases hy with
    | tup g1 g2 =>
      have z := h.1
      rw [← h2.length, ← g2.length] at z
      cases h2 with
      | nil => exact .inr (.inr (.inr (.inr ⟨_, _, _, rfl, rfl, h1, g1, h.2 _ H (Same.refl _) (.tup g1 g2)⟩)))
      | cons a r =>
        refine .inr (.inr (.inr (.inl ⟨_, _, _, _, rfl, rfl, h1, g1, (fun q => nomatch q), z, fun e => ?_, fun e p hp => ?_⟩)))
        · subst e
          cases g2
          have q := h.2
          rw [List.append_nil] at q
          exact q _ H (Same.refl _) (.tup h1 (.cons a r))
        · exact h.2 _ _ (same_upd hp) (.tup (SqT.of upd_same) (((Dvs.cons a r).append g2).same (same_upd hp)))
    | _ => exact h.elim
  | _ => exact h.elim
def fI (C : Int → Int → Prop) (g : Int → Int → D) : F2 := fun d e Q => match d, e with
  | .int i, .int j => C i j ∧ Q (g i j)
  | _, _ => False
theorem m_I {C : Int → Int → Prop} {g : Int → Int → D} : MonoF (fI C g) := by
  intro d e P P' f h
  unfold fI at h ⊢
  split at h
  · exact ⟨h.1, f _ h.2⟩
  · exact h.elim
theorem does_I {C : Int → Int → Prop} {g : Int → Int → V} {g' : Int → Int → D} (hg : ∀ H i j, Dv K H (g i j) (g' i j)) : Does K (rI C g) (fI C g') := by
  intro H x y d e Q hx hy h
  cases hx with
  | int i => cases hy with
    | int j => exact ⟨i, j, rfl, rfl, h.1, h.2 _ H (Same.refl _) (hg H i j)⟩
    | _ => exact h.elim
  | _ => exact h.elim
def fI0 (g : Int → Int → D) : F2 := fun d e Q => match d, e with
  | .int i, .int j => Q (g i j)
  | _, _ => False
theorem m_I0 {g : Int → Int → D} : MonoF (fI0 g) := by
  intro d e P P' f h
  unfold fI0 at h ⊢
  split at h
  · exact f _ h
  · exact h.elim
theorem does_I0 {g : Int → Int → V} {g' : Int → Int → D} (hg : ∀ H i j, Dv K H (g i j) (g' i j)) : Does K (rI0 g) (fI0 g') := by
  intro H x y d e Q hx hy h
  cases hx with
  | int i => cases hy with
    | int j => exact ⟨i, j, rfl, rfl, h _ H (Same.refl _) (hg H i j)⟩
    | _ => exact h.elim
  | _ => exact h.elim
end
section
variable {X : Cx} {a b c : Expr} {es rest : List Expr} {pos : Pos} {ta tb tc : ED}
def vAdd : ED → ED → ED := vOp fAdd
def vSub : ED → ED → ED := vOp (fI0 fun i j => .int (i - j))
def vMul : ED → ED → ED := vOp (fI IntMulOk fun i j => .int (i * j))
def vMod : ED → ED → ED := vOp (fI (fun _ j => 0 < j) fun i j => .int (i % j))
def vDiv : ED → ED → ED := vOp (fI CDiv fun i j => .int (i / j))
theorem d_add (ha : PD X a ta) (hb : PD X b tb) : PD X (.BinOp a .Add b pos) (vAdd ta tb) := d_op op_addU does_add m_add ha hb
theorem d_sub (ha : PD X a ta) (hb : PD X b tb) : PD X (.BinOp a .Sub b pos) (vSub ta tb) := d_op op_sub (does_I0 fun _ _ _ => .int _) m_I0 ha hb
theorem d_mul (ha : PD X a ta) (hb : PD X b tb) : PD X (.BinOp a .Mult b pos) (vMul ta tb) := d_op op_mulB (does_I fun _ _ _ => .int _) m_I ha hb
theorem d_mod (ha : PD X a ta) (hb : PD X b tb) : PD X (.BinOp a .Mod b pos) (vMod ta tb) := d_op op_mod (does_I fun _ _ _ => .int _) m_I ha hb
theorem d_div (ha : PD X a ta) (hb : PD X b tb) : PD X (.BinOp a .FloorDiv b pos) (vDiv ta tb) := d_op op_fdiv (does_I fun _ _ _ => .int _) m_I ha hb
def vNeg (ta : ED) : ED := fun δ Q => ta δ fun d => ∃ i, d = .int i ∧ Q (.int (-i))
theorem d_neg (ha : PD X a ta) : PD X (.UnaryOp .USub a pos) (vNeg ta) :=
  ⟨(pe_un un_neg ha.pe).imp fun σ H Q ⟨δ, r, h⟩ => ⟨δ, r, ha.mono _ _ _ (fun d ⟨i, e, k⟩ v H1 s1 dv => by subst e; cases dv; exact ⟨i, rfl, k _ H1 s1 (.int _)⟩) h⟩,
   fun δ P P' g h => ha.mono _ _ _ (fun d ⟨i, e, k⟩ => ⟨i, e, g _ k⟩) h⟩
def vLt : ED → ED → ED := vOp (fI0 fun i j => .bl (decide (i < j)))
def vLe : ED → ED → ED := vOp (fI0 fun i j => .bl (decide (i ≤ j)))
def vGt : ED → ED → ED := vOp (fI0 fun i j => .bl (decide (j < i)))
theorem d_le (ha : PD X a ta) (hb : PD X b tb) : PD X (.Compare a [.LtE] [b] pos) (vLe ta tb) := d_cmp op_le (does_I0 fun _ _ _ => .bl _) m_I0 ha hb (nomark _)
theorem d_gt (ha : PD X a ta) (hb : PD X b tb) : PD X (.Compare a [.Gt] [b] pos) (vGt ta tb) := d_cmp op_gt (does_I0 fun _ _ _ => .bl _) m_I0 ha hb (nomark _)
end
end DC

set_option maxHeartbeats 4000000
namespace DC
open PySem PySem.Spec PyProof.Rows L2
mutual
def toP : D → PyData
  | .non => .none
  | .bl b => .bool b
  | .int i => .int i
  | .str x => .str x
  | .lst xs => .list (toPs xs)
  | .tup xs => .tuple (toPs xs)
  | .obj _ _ => .none
  | .dK _ => .none
  | .dT _ => .none
  | .adr _ => .none
  | .exc _ _ _ => .none
def toPs : List D → List PyData
  | [] => []
  | d :: ds => toP d :: toPs ds
end
mutual
def plain : D → Bool
  | .lst xs => plains xs
  | .tup xs => plains xs
  | .obj _ _ => false
  | .dK _ => false
  | .dT _ => false
  | .adr _ => false
  | .exc _ _ _ => false
  | _ => true
def plains : List D → Bool
  | [] => true
  | d :: ds => plain d && plains ds
end
section
variable {K : PySem.W.Frag} {H : Hp}
mutual
theorem Dv.dat : ∀ {v : V} {d : D}, plain d = true → Dv K H v d → DatV K H v (toP d)
  | _, _, _, .non => by rw [toP]; exact .non
  | _, _, _, .bl b => by rw [toP]; exact .bl b
  | _, _, _, .int i => by rw [toP]; exact .int i
  | _, _, _, .str x => by rw [toP]; exact .str x
  | _, _, p, .lst h1 h2 => by rw [toP]; rw [plain] at p; exact .lst h1 (Dvs.dat p h2)
  | _, _, p, .tup h1 h2 => by rw [toP]; rw [plain] at p; exact .tup h1 (Dvs.dat p h2)
  | _, _, p, .obj _ _ => by rw [plain] at p; cases p
  | _, _, p, .dK _ _ => by rw [plain] at p; cases p
  | _, _, p, .dT _ _ => by rw [plain] at p; cases p
  | _, _, p, .adr _ => by rw [plain] at p; cases p
  | _, _, p, .exc _ _ _ => by rw [plain] at p; cases p
theorem Dvs.dat : ∀ {vs : List V} {ds : List D}, plains ds = true → Dvs K H vs ds → DatVs K H vs (toPs ds)
  | _, _, _, .nil => by rw [toPs]; exact .nil
  | _, _, p, .cons h1 h2 => by
    rw [toPs]
    rw [plains, Bool.and_eq_true] at p
    exact .cons (Dv.dat p.1 h1) (Dvs.dat p.2 h2)
end
end
def eqScal : D → D → Option Bool
  | .non, .non => some true
  | .bl a, .bl b => some (decide (a = b))
  | .int i, .int j => some (decide (i = j))
  | .str x, .str y => some (decide (x = y))
  | .non, .bl _ => some false
  | .non, .int _ => some false
  | .non, .str _ => some false
  | .bl _, .non => some false
  | .bl _, .str _ => some false
  | .int _, .non => some false
  | .int _, .str _ => some false
  | .str _, .non => some false
  | .str _, .bl _ => some false
  | .str _, .int _ => some false
  | _, _ => none
def fEq (neg : Bool) : F2 := fun d e Q => match eqScal d e with
  | some b => Q (.bl (if neg then !b else b))
  | none => plain d = true ∧ plain e = true ∧ SeqAt.shaped (toP d) = true ∧ SeqAt.shaped (toP e) = true ∧ Q (.bl (if neg then !PyData.eqv (toP d) (toP e) else PyData.eqv (toP d) (toP e)))
theorem m_eq {neg : Bool} : MonoF (fEq neg) := by
  intro d e P P' f h
  unfold fEq at h ⊢
  split at h
  · exact f _ h
  · exact ⟨h.1, h.2.1, h.2.2.1, h.2.2.2.1, f _ h.2.2.2.2⟩
theorem does_eq {K : PySem.W.Frag} : Does K (fun x y H Q => rEq x y H Q ∨ rEqD K false x y H Q) (fEq false) := by
  intro H x y d e Q hx hy h
  unfold fEq at h
  split at h
  · rename_i b hb
    left
    have q := h _ H (Same.refl _) (.bl _)
    cases hx <;> cases hy <;> simp only [eqScal, Option.some.injEq, reduceCtorEq] at hb <;> subst hb <;> refine ⟨rfl, ?_⟩ <;> simpa using q
  · obtain ⟨p1, p2, s1, s2, q⟩ := h
    exact .inr ⟨_, _, hx.dat p1, hy.dat p2, s1, s2, q _ H (Same.refl _) (.bl _)⟩
theorem does_ne {K : PySem.W.Frag} : Does K (fun x y H Q => rNe x y H Q ∨ rEqD K true x y H Q) (fEq true) := by
  intro H x y d e Q hx hy h
  unfold fEq at h
  split at h
  · rename_i b hb
    left
    have q := h _ H (Same.refl _) (.bl _)
    cases hx <;> cases hy <;> simp only [eqScal, Option.some.injEq, reduceCtorEq] at hb <;> subst hb <;> refine ⟨rfl, ?_⟩ <;> simpa using q
  · obtain ⟨p1, p2, s1, s2, q⟩ := h
    exact .inr ⟨_, _, hx.dat p1, hy.dat p2, s1, s2, q _ H (Same.refl _) (.bl _)⟩
def fIs (neg : Bool) : F2 := fun d e Q => match e with
  | .non => Q (.bl (match d with | .non => !neg | _ => neg))
  | .bl b => ∃ a, d = .bl a ∧ Q (.bl (if neg then a != b else a == b))
  | _ => False
theorem m_is {neg : Bool} : MonoF (fIs neg) := by
  intro d e P P' f h
  unfold fIs at h ⊢
  split at h
  · exact f _ h
  · obtain ⟨a, ha, q⟩ := h; exact ⟨a, ha, f _ q⟩
  · exact h.elim
theorem does_is {K : PySem.W.Frag} : Does K (fun x y H Q => (y = .non ∧ Q (.bl (decide (x = .non))) H) ∨ ∃ a b, x = .bl a ∧ y = .bl b ∧ Q (.bl (a == b)) H) (fIs false) := by
  intro H x y d e Q hx hy h
  cases hy with
  | non =>
    refine .inl ⟨rfl, ?_⟩
    have q := h _ H (Same.refl _) (.bl _)
    cases hx <;> exact q
  | bl b =>
    obtain ⟨a, rfl, q⟩ := h
    cases hx
    exact .inr ⟨a, b, rfl, rfl, q _ H (Same.refl _) (.bl _)⟩
  | _ => exact h.elim
theorem does_isnot {K : PySem.W.Frag} : Does K (fun x y H Q => (y = .non ∧ Q (.bl (!decide (x = .non))) H) ∨ ∃ a b, x = .bl a ∧ y = .bl b ∧ Q (.bl (a != b)) H) (fIs true) := by
  intro H x y d e Q hx hy h
  cases hy with
  | non =>
    refine .inl ⟨rfl, ?_⟩
    have q := h _ H (Same.refl _) (.bl _)
    cases hx <;> exact q
  | bl b =>
    obtain ⟨a, rfl, q⟩ := h
    cases hx
    exact .inr ⟨a, b, rfl, rfl, q _ H (Same.refl _) (.bl _)⟩
  | _ => exact h.elim
def flatD : D → Bool
  | .non => true
  | .bl _ => true
  | .int _ => true
  | .str _ => true
  | _ => false
def eqFlat : D → D → Bool
  | .non, .non => true
  | .bl a, .bl b => a == b
  | .bl a, .int j => (if a then 1 else 0) == j
  | .int i, .bl b => i == (if b then 1 else 0)
  | .int i, .int j => i == j
  | .str x, .str y => x == y
  | _, _ => false
def inD (x : D) (xs : List D) : Bool := xs.any fun y => eqFlat y x
def subStr (x y : Str) : Bool := !(Builtin.Str.occurrences y x 0 y.length 1).isEmpty
def fIn (neg : Bool) : F2 := fun d e Q => match e with
  | .lst xs => flatD d = true ∧ xs.all flatD = true ∧ Q (.bl (if neg then !inD d xs else inD d xs))
  | .tup xs => flatD d = true ∧ xs.all flatD = true ∧ Q (.bl (if neg then !inD d xs else inD d xs))
  | .str y => ∃ x, d = .str x ∧ Q (.bl (if neg then !subStr x y else subStr x y))
  | _ => False
theorem m_in {neg : Bool} : MonoF (fIn neg) := by
  intro d e P P' f h
  unfold fIn at h ⊢
  split at h
  · exact ⟨h.1, h.2.1, f _ h.2.2⟩
  · exact ⟨h.1, h.2.1, f _ h.2.2⟩
  · obtain ⟨a, ha, q⟩ := h; exact ⟨a, ha, f _ q⟩
  · exact h.elim
section
variable {K : PySem.W.Frag} {H : Hp}
theorem Dv.flat {v : V} {d : D} (h : Dv K H v d) (f : flatD d = true) : flatV v = true := by
  cases h <;> first | rfl | cases f
theorem Dv.eqFlat {v w : V} {d e : D} (h : Dv K H v d) (g : Dv K H w e) (f : flatD d = true) (f' : flatD e = true) : eqV v w = DC.eqFlat d e := by
  cases h <;> cases g <;> first | rfl | cases f | cases f'
theorem Dvs.flat : ∀ {vs : List V} {ds : List D}, Dvs K H vs ds → ds.all flatD = true → vs.all flatV = true
  | _, _, .nil, _ => rfl
  | _, _, .cons h r, f => by
    rw [List.all_cons, Bool.and_eq_true] at f ⊢
    exact ⟨h.flat f.1, Dvs.flat r f.2⟩
theorem Dvs.inV {w : V} {e : D} (g : Dv K H w e) (f' : flatD e = true) : ∀ {vs : List V} {ds : List D}, Dvs K H vs ds → ds.all flatD = true → L2.inV w vs = inD e ds
  | _, _, .nil, _ => rfl
  | _, _, .cons h r, f => by
    rw [List.all_cons, Bool.and_eq_true] at f
    have q := Dvs.inV g f' r f.2
    unfold L2.inV inD at q ⊢
    rw [List.any_cons, List.any_cons, q, h.eqFlat g f.1 f']
end
theorem does_in {K : PySem.W.Frag} : Does K (fun x y H Q => rIn K false x y H Q ∨ ∃ i j, x = .str i ∧ y = .str j ∧ Q (.bl (!(Builtin.Str.occurrences j i 0 j.length 1).isEmpty)) H) (fIn false) := by
  intro H x y d e Q hx hy h
  cases hy with
  | lst g1 g2 => exact .inl ⟨_, _, rfl, .inl g1, hx.flat h.1, g2.flat h.2.1, by rw [Dvs.inV hx h.1 g2 h.2.1]; exact h.2.2 _ H (Same.refl _) (.bl _)⟩
  | tup g1 g2 => exact .inl ⟨_, _, rfl, .inr g1, hx.flat h.1, g2.flat h.2.1, by rw [Dvs.inV hx h.1 g2 h.2.1]; exact h.2.2 _ H (Same.refl _) (.bl _)⟩
  | str j =>
    obtain ⟨i, rfl, q⟩ := h
    cases hx
    exact .inr ⟨i, j, rfl, rfl, q _ H (Same.refl _) (.bl _)⟩
  | _ => exact h.elim
theorem does_notIn {K : PySem.W.Frag} : Does K (fun x y H Q => rIn K true x y H Q ∨ ∃ i j, x = .str i ∧ y = .str j ∧ Q (.bl (!(!(Builtin.Str.occurrences j i 0 j.length 1).isEmpty))) H) (fIn true) := by
  intro H x y d e Q hx hy h
  cases hy with
  | lst g1 g2 => exact .inl ⟨_, _, rfl, .inl g1, hx.flat h.1, g2.flat h.2.1, by rw [Dvs.inV hx h.1 g2 h.2.1]; exact h.2.2 _ H (Same.refl _) (.bl _)⟩
  | tup g1 g2 => exact .inl ⟨_, _, rfl, .inr g1, hx.flat h.1, g2.flat h.2.1, by rw [Dvs.inV hx h.1 g2 h.2.1]; exact h.2.2 _ H (Same.refl _) (.bl _)⟩
  | str j =>
    obtain ⟨i, rfl, q⟩ := h
    cases hx
    exact .inr ⟨i, j, rfl, rfl, q _ H (Same.refl _) (.bl _)⟩
  | _ => exact h.elim
section
variable {X : Cx} {a b c : Expr} {es rest : List Expr} {pos : Pos} {ta tb tc : ED}
def vEq : ED → ED → ED := vOp (fEq false)
def vNe : ED → ED → ED := vOp (fEq true)
def vIs : ED → ED → ED := vOp (fIs false)
def vIsNot : ED → ED → ED := vOp (fIs true)
def vIn : ED → ED → ED := vOp (fIn false)
def vNotIn : ED → ED → ED := vOp (fIn true)
theorem d_eq (hu : X.A.units + 64 < cLine) (ha : PD X a ta) (hb : PD X b tb) : PD X (.Compare a [.Eq] [b] pos) (vEq ta tb) := d_cmp (op_eq.or (op_eqD hu)) does_eq m_eq ha hb (nomark _)
theorem d_in (ha : PD X a ta) (hb : PD X b tb) (hm : behindInMarks .In b = false) : PD X (.Compare a [.In] [b] pos) (vIn ta tb) := d_cmp (op_in_seq.or op_in_str) does_in m_in ha hb hm
theorem d_notin (ha : PD X a ta) (hb : PD X b tb) (hm : behindInMarks .NotIn b = false) : PD X (.Compare a [.NotIn] [b] pos) (vNotIn ta tb) := d_cmp (op_notIn_seq.or op_notin_str) does_notIn m_in ha hb hm
end
end DC

set_option maxHeartbeats 4000000
namespace DC
open PySem PySem.Spec PyProof.Rows L2
abbrev MonoT (t : TD) : Prop := ∀ δ (P P' : Bool → Prop), (∀ d, P d → P' d) → t δ P → t δ P'
abbrev MonoA (t : AD) : Prop := ∀ δ (P P' : List D → Prop), (∀ d, P d → P' d) → t δ P → t δ P'
def vTest (t : ED) : TD := fun δ Q => t δ fun d => ∃ b, d = .bl b ∧ Q b
theorem m_test {t : ED} (m : MonoE t) : MonoT (vTest t) := fun δ P P' g h => m _ _ _ (fun d ⟨b, e, q⟩ => ⟨b, e, g b q⟩) h
theorem test_of {K : PySem.W.Frag} {t : ED} (m : MonoE t) {δ : SD} {H : Hp} {Q : Bool → Hp → Prop} (h : vTest t δ (kB H Q)) : t δ (kD K H fun x H' => ∃ k, x = .bl k ∧ Q k H') :=
  m _ _ _ (fun d ⟨b, e, q⟩ v H' s dv => by subst e; cases dv; exact ⟨b, rfl, q H' s⟩) h
section
variable {X : Cx} {a b c e : Expr} {es rest : List Expr} {pos : Pos} {ta tb tc : ED} {ua ub : TD}
theorem PTd.of {t : TE} {v : ED} (h : PT X e (tTest t)) (p : ∀ σ H Q, oE X.K v σ H Q → t σ H Q) (m : MonoE v) : PTd X e (vTest v) :=
  ⟨PT.imp h fun σ H Q ⟨δ, r, q⟩ => p σ H _ ⟨δ, r, test_of m q⟩, m_test m⟩
theorem bin_of {r : R2} {f : F2} (ma : MonoE ta) (mb : MonoE tb) (hd : Does X.K r f) (hf : MonoF f) : (∀ σ H Q, oE X.K (vOp f ta tb) σ H Q → tOp r (oE X.K ta) (oE X.K tb) σ H Q) ∧ MonoE (vOp f ta tb) := by
  refine ⟨fun σ H Q ⟨δ, r, h⟩ => ⟨δ, r, ma _ _ _ (fun d hd' v H1 s1 dv => ⟨δ, r.same s1, mb _ _ _ (fun e he w H2 s2 ew => hd H2 v w d e Q (dv.same s2) ew (hf d e _ _ (fun z hz => hz.on (s1.trans s2)) he)) hd'⟩) h⟩, ?_⟩
  exact fun δ P P' g h => ma _ _ _ (fun d h' => mb _ _ _ (fun e h'' => hf d e _ _ g h'') h') h
theorem t_cmp {op : CmpOp} {r : R2} {f : F2} (ho : OpR X (compareOp op) r) (hd : Does X.K r f) (hf : MonoF f) (ha : PD X a ta) (hb : PD X b tb) (hm : behindInMarks op b = false) : PTd X (.Compare a [op] [b] pos) (vTest (vOp f ta tb)) :=
  let q := bin_of ha.mono hb.mono hd hf
  PTd.of (pt_cmpR ho ha.pe hb.pe hm) q.1 q.2
theorem t_lt (ha : PD X a ta) (hb : PD X b tb) : PTd X (.Compare a [.Lt] [b] pos) (vTest (vLt ta tb)) := t_cmp op_lt (does_I0 fun _ _ _ => .bl _) m_I0 ha hb (nomark _)
theorem t_gt (ha : PD X a ta) (hb : PD X b tb) : PTd X (.Compare a [.Gt] [b] pos) (vTest (vGt ta tb)) := t_cmp op_gt (does_I0 fun _ _ _ => .bl _) m_I0 ha hb (nomark _)
theorem t_eq (hu : X.A.units + 64 < cLine) (ha : PD X a ta) (hb : PD X b tb) : PTd X (.Compare a [.Eq] [b] pos) (vTest (vEq ta tb)) := t_cmp (op_eq.or (op_eqD hu)) does_eq m_eq ha hb (nomark _)
theorem t_ne (hu : X.A.units + 64 < cLine) (ha : PD X a ta) (hb : PD X b tb) : PTd X (.Compare a [.NotEq] [b] pos) (vTest (vNe ta tb)) := t_cmp (op_ne.or (op_neD hu)) does_ne m_eq ha hb (nomark _)
theorem t_is (ha : PD X a ta) (hb : PD X b tb) : PTd X (.Compare a [.Is] [b] pos) (vTest (vIs ta tb)) := t_cmp (op_isN.or op_is_bl) does_is m_is ha hb (nomark _)
theorem t_isnot (ha : PD X a ta) (hb : PD X b tb) : PTd X (.Compare a [.IsNot] [b] pos) (vTest (vIsNot ta tb)) := t_cmp (op_notN.or op_isnot_bl) does_isnot m_is ha hb (nomark _)
theorem t_in (ha : PD X a ta) (hb : PD X b tb) (hm : behindInMarks .In b = false) : PTd X (.Compare a [.In] [b] pos) (vTest (vIn ta tb)) := t_cmp (op_in_seq.or op_in_str) does_in m_in ha hb hm
theorem t_notin (ha : PD X a ta) (hb : PD X b tb) (hm : behindInMarks .NotIn b = false) : PTd X (.Compare a [.NotIn] [b] pos) (vTest (vNotIn ta tb)) := t_cmp (op_notIn_seq.or op_notin_str) does_notIn m_in ha hb hm
def truD : D → Option Bool
  | .non => some false
  | .bl b => some b
  | .int i => some (i != 0)
  | .str y => if y.length ≤ sizeLine then some ((y.length : Int) != 0) else none
  | .lst xs => some (!xs.isEmpty)
  | .tup xs => some (!xs.isEmpty)
  | _ => none
def vTru (t : ED) : TD := fun δ Q => t δ fun d => ∃ b, truD d = some b ∧ Q b
theorem Dvs.isEmpty {K : PySem.W.Frag} {H : Hp} {vs : List V} {ds : List D} (h : Dvs K H vs ds) : vs.isEmpty = ds.isEmpty := by cases h <;> rfl
theorem Dv.tru {K : PySem.W.Frag} {H : Hp} {v : V} {d : D} {b : Bool} (h : Dv K H v d) (e : truD d = some b) : TruV K v H b := by
  cases h with
  | non => cases e; rfl
  | bl x => cases e; rfl
  | int i => cases e; rfl
  | str x =>
    have e' : (if x.length ≤ sizeLine then some ((x.length : Int) != 0) else none) = some b := e
    by_cases hz : x.length ≤ sizeLine
    · rw [if_pos hz] at e'
      exact ⟨hz, (Option.some.inj e').symm⟩
    · rw [if_neg hz] at e'
      cases e'
  | lst h1 h2 => cases e; exact .inl ⟨_, h1, by rw [h2.isEmpty]⟩
  | tup h1 h2 => cases e; exact .inr (.inl ⟨_, h1, by rw [h2.isEmpty]⟩)
  | dK _ _ => cases e
  | exc _ _ _ => cases e
  | obj _ _ => cases e
  | dT _ _ => cases e
  | adr _ => cases e
theorem t_tru (ha : PD X a ta) (he : ∀ whole, isTrue a X.env whole = (do let v ← whole; standAt a.pos; holding [v] (truthy v)) := by intro _; rfl) : PTd X a (vTru ta) :=
  ⟨PT.imp (pt_truth ha.pe he) fun σ H Q ⟨δ, r, h⟩ => ⟨δ, r, ha.mono _ _ _ (fun d ⟨b, e, q⟩ v H1 s1 dv => ⟨b, dv.tru e, q H1 s1⟩) h⟩, fun δ P P' g h => ha.mono _ _ _ (fun d ⟨b, e, q⟩ => ⟨b, e, g b q⟩) h⟩
def uNot (t : TD) : TD := fun δ Q => t δ fun b => Q (!b)
def uAnd (t u : TD) : TD := fun δ Q => t δ fun b => if b = true then u δ Q else Q false
def uOr (t u : TD) : TD := fun δ Q => t δ fun b => if b = true then Q true else u δ Q
theorem t_not (ha : PTd X a ua) : PTd X (.UnaryOp .Not a pos) (uNot ua) :=
  ⟨PT.imp (pt_not ha.pt) fun σ H Q ⟨δ, r, h⟩ => ⟨δ, r, ha.mono _ _ _ (fun b q H' s => q H' s) h⟩, fun δ P P' g h => ha.mono _ _ _ (fun b q => g _ q) h⟩
theorem m_and (ma : MonoT ua) (mb : MonoT ub) : MonoT (uAnd ua ub) := fun δ P P' g h => ma _ _ _ (fun b q => by
  cases b with
  | true => rw [if_pos rfl] at q ⊢; exact mb _ _ _ g q
  | false => rw [if_neg Bool.false_ne_true] at q ⊢; exact g _ q) h
theorem m_or (ma : MonoT ua) (mb : MonoT ub) : MonoT (uOr ua ub) := fun δ P P' g h => ma _ _ _ (fun b q => by
  cases b with
  | true => rw [if_pos rfl] at q ⊢; exact g _ q
  | false => rw [if_neg Bool.false_ne_true] at q ⊢; exact mb _ _ _ g q) h
theorem PWd.td (h : PWd X e ua) : PTd X e ua := ⟨h.pw.pt, h.mono⟩
theorem w_and1 (ha : PTd X a ua) : PWd X (.BoolOp .And [a] pos) ua := ⟨pw_and1 ha.pt, ha.mono⟩
theorem w_or1 (ha : PTd X a ua) : PWd X (.BoolOp .Or [a] pos) ua := ⟨pw_or1 ha.pt, ha.mono⟩
theorem w_and (ha : PTd X a ua) (hb : PWd X (.BoolOp .And (b :: rest) pos) ub) : PWd X (.BoolOp .And (a :: b :: rest) pos) (uAnd ua ub) := by
  refine ⟨PW.imp (pw_and ha.pt hb.pw) fun σ H Q ⟨δ, r, h⟩ => ⟨δ, r, ha.mono _ _ _ (fun b q H' s => ?_) h⟩, m_and ha.mono hb.mono⟩
  cases b with
  | true => rw [if_pos rfl] at q ⊢; exact ⟨δ, r.same s, hb.mono _ _ _ (fun b k => k.on s) q⟩
  | false => rw [if_neg Bool.false_ne_true] at q ⊢; exact q H' s
theorem w_or (ha : PTd X a ua) (hb : PWd X (.BoolOp .Or (b :: rest) pos) ub) : PWd X (.BoolOp .Or (a :: b :: rest) pos) (uOr ua ub) := by
  refine ⟨PW.imp (pw_or ha.pt hb.pw) fun σ H Q ⟨δ, r, h⟩ => ⟨δ, r, ha.mono _ _ _ (fun b q H' s => ?_) h⟩, m_or ha.mono hb.mono⟩
  cases b with
  | true => rw [if_pos rfl] at q ⊢; exact q H' s
  | false => rw [if_neg Bool.false_ne_true] at q ⊢; exact ⟨δ, r.same s, hb.mono _ _ _ (fun b k => k.on s) q⟩
def vAnd (ta tb : ED) : ED := fun δ Q => ta δ fun d => ∃ b, d = .bl b ∧ if b = true then tb δ Q else Q (.bl false)
def vOr (ta tb : ED) : ED := fun δ Q => ta δ fun d => ∃ b, d = .bl b ∧ if b = true then Q (.bl true) else tb δ Q
def vNot (ta : ED) : ED := fun δ Q => ta δ fun d => ∃ b, d = .bl b ∧ Q (.bl (!b))
theorem d_one {op} (h : PD X a ta) : PD X (.BoolOp op [a] pos) ta := ⟨pe_one h.pe, h.mono⟩
theorem d_and (ha : PD X a ta) (hb : PD X (.BoolOp .And (b :: rest) pos) tb) : PD X (.BoolOp .And (a :: b :: rest) pos) (vAnd ta tb) := by
  refine ⟨(pe_and ha.pe hb.pe).imp fun σ H Q ⟨δ, r, h⟩ => ⟨δ, r, ha.mono _ _ _ (fun d ⟨b, e, q⟩ v H1 s1 dv => ?_) h⟩, fun δ P P' g h => ha.mono _ _ _ (fun d ⟨b, e, q⟩ => ⟨b, e, ?_⟩) h⟩
  · subst e
    cases dv
    refine ⟨b, rfl, ?_⟩
    cases b with
    | true => rw [if_pos rfl] at q ⊢; exact ⟨δ, r.same s1, hb.mono _ _ _ (fun b k => k.on s1) q⟩
    | false => rw [if_neg Bool.false_ne_true] at q ⊢; exact q _ H1 s1 (.bl _)
  · cases b with
    | true => rw [if_pos rfl] at q ⊢; exact hb.mono _ _ _ g q
    | false => rw [if_neg Bool.false_ne_true] at q ⊢; exact g _ q
theorem d_or (ha : PD X a ta) (hb : PD X (.BoolOp .Or (b :: rest) pos) tb) : PD X (.BoolOp .Or (a :: b :: rest) pos) (vOr ta tb) := by
  refine ⟨(pe_or ha.pe hb.pe).imp fun σ H Q ⟨δ, r, h⟩ => ⟨δ, r, ha.mono _ _ _ (fun d ⟨b, e, q⟩ v H1 s1 dv => ?_) h⟩, fun δ P P' g h => ha.mono _ _ _ (fun d ⟨b, e, q⟩ => ⟨b, e, ?_⟩) h⟩
  · subst e
    cases dv
    refine ⟨b, rfl, ?_⟩
    cases b with
    | true => rw [if_pos rfl] at q ⊢; exact q _ H1 s1 (.bl _)
    | false => rw [if_neg Bool.false_ne_true] at q ⊢; exact ⟨δ, r.same s1, hb.mono _ _ _ (fun b k => k.on s1) q⟩
  · cases b with
    | true => rw [if_pos rfl] at q ⊢; exact g _ q
    | false => rw [if_neg Bool.false_ne_true] at q ⊢; exact hb.mono _ _ _ g q
theorem d_not (ha : PD X a ta) : PD X (.UnaryOp .Not a pos) (vNot ta) :=
  ⟨(pe_not ha.pe).imp fun σ H Q ⟨δ, r, h⟩ => ⟨δ, r, ha.mono _ _ _ (fun d ⟨b, e, q⟩ v H1 s1 dv => by subst e; cases dv; exact ⟨b, rfl, q _ H1 s1 (.bl _)⟩) h⟩,
   fun δ P P' g h => ha.mono _ _ _ (fun d ⟨b, e, q⟩ => ⟨b, e, g _ q⟩) h⟩
def vIf (u : TD) (ta tb : ED) : ED := fun δ Q => u δ fun b => if b = true then ta δ Q else tb δ Q
theorem d_if (hc : PTd X c ua) (ha : PD X a ta) (hb : PD X b tb) : PD X (.IfExp c a b pos) (vIf ua ta tb) := by
  refine ⟨(pe_ifExp hc.pt ha.pe hb.pe).imp fun σ H Q ⟨δ, r, h⟩ => ⟨δ, r, hc.mono _ _ _ (fun k q H1 s1 => ?_) h⟩, fun δ P P' g h => hc.mono _ _ _ (fun k q => ?_) h⟩
  · cases k with
    | true => rw [if_pos rfl] at q ⊢; exact ⟨δ, r.same s1, ha.mono _ _ _ (fun b k => k.on s1) q⟩
    | false => rw [if_neg Bool.false_ne_true] at q ⊢; exact ⟨δ, r.same s1, hb.mono _ _ _ (fun b k => k.on s1) q⟩
  · cases k with
    | true => rw [if_pos rfl] at q ⊢; exact ha.mono _ _ _ g q
    | false => rw [if_neg Bool.false_ne_true] at q ⊢; exact hb.mono _ _ _ g q
def vChain (f f' : F2) (ta tb tc : ED) : ED := fun δ Q => ta δ fun x => tb δ fun y => f x y fun z => ∃ k, z = .bl k ∧ if k = true then tc δ fun w => f' y w Q else Q (.bl false)
theorem chain_of {r r' : R2} {f f' : F2} (ma : MonoE ta) (mb : MonoE tb) (mc : MonoE tc) (hd : Does X.K r f) (hf : MonoF f) (hd' : Does X.K r' f') (hf' : MonoF f') :
    (∀ σ H Q, oE X.K (vChain f f' ta tb tc) σ H Q → tChain r r' (oE X.K ta) (oE X.K tb) (oE X.K tc) σ H Q) ∧ MonoE (vChain f f' ta tb tc) := by
  refine ⟨fun σ H Q ⟨δ, r, h⟩ => ⟨δ, r, ma _ _ _ (fun d h1 v H1 s1 dv => ⟨δ, r.same s1, mb _ _ _ (fun e h2 w H2 s2 ew => hd H2 v w d e _ (dv.same s2) ew (hf d e _ _ (fun z hz u H3 s3 du => ?_) h2)) h1⟩) h⟩, ?_⟩
  · obtain ⟨k, rfl, q⟩ := hz
    cases du
    refine ⟨k, rfl, ?_⟩
    have s := s1.trans (s2.trans s3)
    cases k with
    | true =>
      rw [if_pos rfl] at q ⊢
      exact ⟨δ, r.same s, mc _ _ _ (fun d h3 u H4 s4 du => hd' H4 w u e d Q (ew.same (s3.trans s4)) du (hf' _ _ _ _ (fun z hz => hz.on (s.trans s4)) h3)) q⟩
    | false =>
      rw [if_neg Bool.false_ne_true] at q ⊢
      exact q _ H3 s (.bl _)
  · intro δ P P' g h
    refine ma _ _ _ (fun d h1 => mb _ _ _ (fun e h2 => hf _ _ _ _ (fun z ⟨k, ez, q⟩ => ⟨k, ez, ?_⟩) h2) h1) h
    cases k with
    | true => rw [if_pos rfl] at q ⊢; exact mc _ _ _ (fun d h3 => hf' _ _ _ _ g h3) q
    | false => rw [if_neg Bool.false_ne_true] at q ⊢; exact g _ q
def fLe : F2 := fI0 fun i j => .bl (decide (i ≤ j))
theorem d_lele (ha : PD X a ta) (hb : PD X b tb) (hc : PD X c tc) (hm : lastMarks [.LtE, .LtE] [b, c] = false := by with_unfolding_all rfl) : PD X (.Compare a [.LtE, .LtE] [b, c] pos) (vChain fLe fLe ta tb tc) :=
  let q := chain_of (X := X) ha.mono hb.mono hc.mono (r := rI0 fun i j => .bl (decide (i ≤ j))) (r' := rI0 fun i j => .bl (decide (i ≤ j))) (f := fLe) (f' := fLe) (does_I0 fun _ _ _ => .bl _) m_I0 (does_I0 fun _ _ _ => .bl _) m_I0
  ⟨(pe_chain op_le op_le ha.pe hb.pe hc.pe hm).imp q.1, q.2⟩
end
end DC

set_option maxHeartbeats 4000000
namespace DC
open PySem PySem.Spec PyProof.Rows L2
section
variable {X : Cx} {a b c e : Expr} {es rest : List Expr} {pos : Pos} {ta tb tc : ED} {ua ub : TD} {t : AD}
def aNil : AD := fun _ Q => Q []
def aCons (ta : ED) (t : AD) : AD := fun δ Q => ta δ fun d => t δ fun ds => Q (d :: ds)
theorem a_nil : PAd X [] aNil := ⟨PA.imp pa_nil fun σ H Q ⟨δ, r, h⟩ => h [] H (Same.refl _) .nil, fun δ P P' g h => g _ h⟩
theorem a_cons (ha : PD X e ta) (hr : PAd X es t) (hs : starEach (e :: es) X.env = (false, eval e X.env) :: starEach es X.env := by rfl) : PAd X (e :: es) (aCons ta t) :=
  ⟨PA.imp (pa_cons ha.pe hr.pa hs) fun σ H Q ⟨δ, r, h⟩ => ⟨δ, r, ha.mono _ _ _ (fun d h1 v H1 s1 dv => ⟨δ, r.same s1, hr.mono _ _ _ (fun ds h2 vs H2 s2 dvs => h2 (v :: vs) H2 (s1.trans s2) (.cons (dv.same s2) dvs)) h1⟩) h⟩,
   fun δ P P' g h => ha.mono _ _ _ (fun d h1 => hr.mono _ _ _ (fun ds h2 => g _ h2) h1) h⟩
def vTup (t : AD) : ED := fun δ Q => t δ fun ds => ds.length ≤ sizeLine ∧ Q (.tup ds)
def vLst (t : AD) : ED := fun δ Q => t δ fun ds => ds.length ≤ sizeLine ∧ Q (.lst ds)
theorem d_tup {x1} (h : PAd X es t) : PD X (.Tuple es x1 pos) (vTup t) :=
  ⟨(pe_tup h.pa).imp fun σ H Q ⟨δ, r, q⟩ => ⟨δ, r, h.mono _ _ _ (fun ds ⟨hl, k⟩ vs H1 s1 dvs => ⟨by rw [dvs.length]; exact hl, fun p hp => k _ _ (s1.trans (same_upd hp)) (.tup (SqT.of upd_same) (dvs.same (same_upd hp)))⟩) q⟩,
   fun δ P P' g q => h.mono _ _ _ (fun ds ⟨hl, k⟩ => ⟨hl, g _ k⟩) q⟩
theorem d_lst (h : PAd X es t) : PD X (.List es pos) (vLst t) :=
  ⟨(pe_lst h.pa).imp fun σ H Q ⟨δ, r, q⟩ => ⟨δ, r, h.mono _ _ _ (fun ds ⟨hl, k⟩ vs H1 s1 dvs => ⟨by rw [dvs.length]; exact hl, fun p hp => k _ _ (s1.trans (same_upd hp)) (.lst (SqL.of upd_same) (dvs.same (same_upd hp)))⟩) q⟩,
   fun δ P P' g q => h.mono _ _ _ (fun ds ⟨hl, k⟩ => ⟨hl, g _ k⟩) q⟩
def constD : Expr → Option D
  | .Constant (.str x) _ _ => some (.str x)
  | .Constant (.int i) _ _ => some (.int i)
  | .Constant (.bool b) _ _ => some (.bl b)
  | .Constant .none _ _ => some .non
  | .UnaryOp .USub (.Constant (.int i) _ _) _ => some (.int (-i))
  | _ => none
def constDs : List Expr → List D
  | [] => []
  | e :: es => (constD e).getD .non :: constDs es
def aVals (ds : List D) : AD := fun _ Q => Q ds
theorem a_ck : ∀ {es : List Expr} (_ : es.all (fun e => (constD e).isSome) = true), PAd X es (aVals (constDs es))
  | [], _ => ⟨a_nil.pa, fun δ P P' g h => g _ h⟩
  | e :: es, h => by
    rw [List.all_cons, Bool.and_eq_true] at h
    have ih := a_ck h.2
    obtain ⟨v, hv⟩ := Option.isSome_iff_exists.mp h.1
    have e1 : constDs (e :: es) = v :: constDs es := by
      show (constD e).getD .non :: constDs es = _
      rw [hv]
      rfl
    rw [e1]
    refine ⟨?_, fun δ P P' g h => g _ h⟩
    have one : PAd X (e :: es) (aCons (vC v) (aVals (constDs es))) := by
      unfold constD at hv
      split at hv
      · cases hv; exact a_cons d_str ih rfl
      · cases hv; exact a_cons d_int ih rfl
      · cases hv; exact a_cons d_bl ih rfl
      · cases hv; exact a_cons d_non ih rfl
      · cases hv
        refine a_cons ⟨(d_neg d_int).pe.imp ?_, fun δ P P' g h => g _ h⟩ ih rfl
        exact fun σ H Q ⟨δ, r, q⟩ => ⟨δ, r, _, rfl, q⟩
      · cases hv
    exact one.pa
def fIx : F2 := fun d e Q => match d, e with
  | .lst xs, .int i => ∃ r, atI xs i = some r ∧ Q r
  | .tup xs, .int i => ∃ r, atI xs i = some r ∧ Q r
  | .str z, .int i => z.length ≤ sizeLine ∧ ∃ c, atI z.cps.toList i = some c ∧ Q (.str ⟨#[c]⟩)
  | _, _ => False
theorem m_ix : MonoF fIx := by
  intro d e P P' f h
  unfold fIx at h ⊢
  split at h
  · obtain ⟨r, hr, q⟩ := h; exact ⟨r, hr, f _ q⟩
  · obtain ⟨r, hr, q⟩ := h; exact ⟨r, hr, f _ q⟩
  · obtain ⟨hz, r, hr, q⟩ := h; exact ⟨hz, r, hr, f _ q⟩
  · exact h.elim
theorem Dvs.atI {K : PySem.W.Frag} {H : Hp} {vs : List V} {ds : List D} {i : Int} {d : D} (h : Dvs K H vs ds) (e : L2.atI ds i = some d) : ∃ v, L2.atI vs i = some v ∧ Dv K H v d := by
  unfold L2.atI at e ⊢
  rw [h.length]
  cases q : ixN ds.length i with
  | none => rw [q] at e; cases e
  | some j =>
    rw [q] at e
    exact h.get e
theorem does_ix {K : PySem.W.Frag} : Does K (rIx K) fIx := by
  intro H x y d e Q hx hy h
  cases hy with
  | int i => cases hx with
    | lst h1 h2 =>
      obtain ⟨r, hr, q⟩ := h
      obtain ⟨v, hv, dv⟩ := h2.atI hr
      exact .inl ⟨_, _, i, v, rfl, rfl, h1, hv, q _ H (Same.refl _) dv⟩
    | tup h1 h2 =>
      obtain ⟨r, hr, q⟩ := h
      obtain ⟨v, hv, dv⟩ := h2.atI hr
      exact .inr (.inl ⟨_, _, i, v, rfl, rfl, h1, hv, q _ H (Same.refl _) dv⟩)
    | str z =>
      obtain ⟨hz, c, hc, q⟩ := h
      exact .inr (.inr ⟨z, i, c, rfl, rfl, hz, hc, q _ H (Same.refl _) (.str _)⟩)
    | _ => exact h.elim
  | _ => cases hx <;> exact h.elim
def vIx : ED → ED → ED := vOp fIx
theorem d_ix (ha : PD X a ta) (hb : PD X b tb) (hs : PlainIx b) : PD X (.Subscript a b pos) (vIx ta tb) := d_bin (t := oE X.K ta) (pe_ix ix_seq ha.pe hb.pe hs) ha.mono hb.mono does_ix m_ix
def cutD (xs : List D) (lo hi : Option Int) : List D := (xs.drop (HT.sIx xs.length 0 lo)).take (HT.sIx xs.length xs.length hi - HT.sIx xs.length 0 lo)
theorem Dvs.cut {K : PySem.W.Frag} {H : Hp} {vs : List V} {ds : List D} (h : Dvs K H vs ds) (lo hi : Option Int) : Dvs K H (cutV vs lo hi) (cutD ds lo hi) := by
  unfold cutV cutD
  rw [h.length]
  exact (h.drop _).take _
def fSl (d : D) (lo hi : Option Int) (Q : D → Prop) : Prop := match d with
  | .lst xs => Q (.lst (cutD xs lo hi))
  | .tup xs => ¬ (HT.sIx xs.length 0 lo = 0 ∧ HT.sIx xs.length xs.length hi = xs.length) ∧ Q (.tup (cutD xs lo hi))
  | .str z => z.length ≤ sizeLine ∧ Q (.str (Txt.slice z lo hi))
  | _ => False
theorem m_sl {d : D} {lo hi : Option Int} {P P' : D → Prop} (f : ∀ r, P r → P' r) (h : fSl d lo hi P) : fSl d lo hi P' := by
  unfold fSl at h ⊢
  split at h
  · exact f _ h
  · exact ⟨h.1, f _ h.2⟩
  · exact ⟨h.1, f _ h.2⟩
  · exact h.elim
theorem sl_U : SlR X (fun x lo hi H Q => rSlL X.K x lo hi H Q ∨ rSlT X.K x lo hi H Q ∨ ∃ z, x = .str z ∧ z.length ≤ sizeLine ∧ Q (.str (Txt.slice z lo hi)) H) := sl_list.or (sl_tup.or sl_str)
abbrev OD := SD → (Option Int → Prop) → Prop
structure POd (X : Cx) (e : Option Expr) (t : OD) : Prop where
  po : PO X e (fun σ H Q => ∃ δ, RelS X.K H σ δ ∧ t δ fun o => ∀ H', Same H H' → Q o H')
  mono : ∀ δ (P P' : Option Int → Prop), (∀ d, P d → P' d) → t δ P → t δ P'
def oNone : OD := fun _ Q => Q none
def oSome (t : ED) : OD := fun δ Q => t δ fun d => ∃ i, d = .int i ∧ Q (some i)
theorem PO.imp {e : Option Expr} {t t' : TO} (h : PO X e t) (f : ∀ σ H Q, t' σ H Q → t σ H Q) : PO X e t' := fun pins s σ H Q I q => h pins s σ H Q I (f σ H Q q)
theorem o_none : POd X none oNone := ⟨PO.imp po_none fun σ H Q ⟨δ, r, h⟩ => h H (Same.refl _), fun δ P P' g h => g _ h⟩
theorem o_some (h : PD X e ta) : POd X (some e) (oSome ta) :=
  ⟨PO.imp (po_some h.pe) fun σ H Q ⟨δ, r, q⟩ => ⟨δ, r, h.mono _ _ _ (fun d ⟨i, ed, k⟩ v H1 s1 dv => by subst ed; cases dv; exact ⟨i, rfl, k H1 s1⟩) q⟩, fun δ P P' g q => h.mono _ _ _ (fun d ⟨i, ed, k⟩ => ⟨i, ed, g _ k⟩) q⟩
def vSl (ta : ED) (tl th : OD) : ED := fun δ Q => ta δ fun d => tl δ fun lo => th δ fun hi => fSl d lo hi Q
theorem d_slice {lo hi : Option Expr} {tl th : OD} {p2 : Pos} (he : PD X e ta) (hl : POd X lo tl) (hh : POd X hi th) : PD X (.Subscript e (.Slice lo hi none p2) pos) (vSl ta tl th) := by
  refine ⟨(pe_slice sl_U he.pe hl.po hh.po).imp fun σ H Q ⟨δ, r, h⟩ => ⟨δ, r, he.mono _ _ _ (fun d h1 v H1 s1 dv => ⟨δ, r.same s1, hl.mono _ _ _ (fun lo h2 H2 s2 => ⟨δ, r.same (s1.trans s2), hh.mono _ _ _ (fun hi h3 H3 s3 => ?_) h2⟩) h1⟩) h⟩,
    fun δ P P' g h => he.mono _ _ _ (fun d h1 => hl.mono _ _ _ (fun lo h2 => hh.mono _ _ _ (fun hi h3 => m_sl g h3) h2) h1) h⟩
  have s := s1.trans (s2.trans s3)
  have dv3 := dv.same (s2.trans s3)
  clear h1 h2 dv
  cases dv3 with
  | lst h1 h2 => exact .inl ⟨_, _, rfl, h1, fun p hp => h3 _ _ (s.trans (same_upd hp)) (.lst (SqL.of upd_same) ((h2.cut lo hi).same (same_upd hp)))⟩
  | tup h1 h2 => exact .inr (.inl ⟨_, _, rfl, h1, by rw [h2.length]; exact h3.1, fun p hp => h3.2 _ _ (s.trans (same_upd hp)) (.tup (SqT.of upd_same) ((h2.cut lo hi).same (same_upd hp)))⟩)
  | str z => exact .inr (.inr ⟨z, rfl, h3.1, h3.2 _ H3 s (.str _)⟩)
  | _ => exact h3.elim
def vFld (K : PySem.W.Frag) (ta : ED) (f : Str) : ED := fun δ Q => ta δ fun d => ∃ C gs r, d = .obj C gs ∧ Cls K C ∧ NoAttr K C f ∧ gs.lookup f = some r ∧ Q r
theorem d_fld {f : Str} (he : PD X e ta) (hb : attributeBase e f X.env (eval e X.env) = eval e X.env) : PD X (.Attribute e f pos) (vFld X.K ta f) :=
  ⟨(pe_fldR he.pe hb).imp fun σ H Q ⟨δ, r, h⟩ => ⟨δ, r, he.mono _ _ _ (fun d ⟨C, gs, r, ed, hc, hn, hl, k⟩ v H1 s1 dv => by
      subst ed
      cases dv with
      | obj h1 h2 =>
        obtain ⟨w, hw, dw⟩ := h2.look hl
        exact ⟨_, _, _, _, w, rfl, h1, hc, hn, hw, k _ H1 s1 dw⟩) h⟩,
   fun δ P P' g h => he.mono _ _ _ (fun d ⟨C, gs, r, ed, hc, hn, hl, k⟩ => ⟨C, gs, r, ed, hc, hn, hl, g _ k⟩) h⟩
abbrev SpD := List D → (D → Prop) → Prop
abbrev MonoS (sd : SpD) : Prop := ∀ ds (P P' : D → Prop), (∀ d, P d → P' d) → sd ds P → sd ds P'
def spOf (K : PySem.W.Frag) (sd : SpD) : Sp := fun vs H Q _ => ∃ ds, Dvs K H vs ds ∧ sd ds (kD K H Q)
def vCall (sd : SpD) (t : AD) : ED := fun δ Q => t δ fun ds => sd ds Q
theorem d_call {k : Nat} {f : Addr} {fd : FuncData} {ps : List Str} {x : Str} {p : Pos} {sd : SpD} (F : FnOk X.prog X.w X.K X.mg X.base CX0 k f fd ps (spOf X.K sd)) (ms : MonoS sd) (hr : Room k X.A) (hg : Gl X x) (hm : X.mg x = some (.ref f))
    (hk : PySem.W.keepIn X.K (.ref f) = true) (hb : Binds X.K fd ps []) (ha : PAd X (e :: es) t) (hdb : (x == ("__debug__" : Str)) = false := by decide)
    (hp : PE X (.Call (.Name x p) (e :: es) [] pos) (tCall (spOf X.K sd) [] E0 (oA X.K t)) := by exact pe_call F hr hg hm hk hb .nil pass0 ha.pa) : PD X (.Call (.Name x p) (e :: es) [] pos) (vCall sd t) :=
  ⟨hp.imp fun σ H Q ⟨δ, r, h⟩ => ⟨δ, r, ha.mono _ _ _ (fun ds h1 vs H1 s1 dvs => ⟨ds, by rw [List.append_nil]; exact dvs, ms _ _ _ (fun d k => k.on s1) h1⟩) h⟩, fun δ P P' g h => ha.mono _ _ _ (fun ds h1 => ms _ _ _ g h1) h⟩
def vB (sd : SpD) (t : AD) : ED := fun δ Q => t δ fun ds => sd ds Q
def DoesB (K : PySem.W.Frag) (r : List V → Hp → VK → Prop) (sd : SpD) : Prop := ∀ H vs ds Q, Dvs K H vs ds → sd ds (kD K H Q) → r vs H Q
theorem d_cb {r : List V → Hp → VK → Prop} {sd : SpD} (hp : PE X e (tCB r (oA X.K t))) (ha : MonoA t) (hd : DoesB X.K r sd) (ms : MonoS sd) : PD X e (vB sd t) :=
  ⟨hp.imp fun σ H Q ⟨δ, r, h⟩ => ⟨δ, r, ha _ _ _ (fun ds h1 vs H1 s1 dvs => hd H1 vs ds Q dvs (ms _ _ _ (fun d k => k.on s1) h1)) h⟩, fun δ P P' g h => ha _ _ _ (fun ds h1 => ms _ _ _ g h1) h⟩
end
end DC

set_option maxHeartbeats 4000000
namespace DC
open PySem PySem.Spec PyProof.Rows L2
structure EndsD where
  nx : SD → Prop
  rt : D → Prop
  bk : SD → Prop := fun _ => False
  ct : SD → Prop := fun _ => False
abbrev TSD := EndsD → SD → Prop
structure EndsD.Le (E E' : EndsD) : Prop where
  nx : ∀ δ, E.nx δ → E'.nx δ
  rt : ∀ d, E.rt d → E'.rt d
  bk : ∀ δ, E.bk δ → E'.bk δ
  ct : ∀ δ, E.ct δ → E'.ct δ
abbrev MonoQ (t : TSD) : Prop := ∀ E E' δ, EndsD.Le E E' → t E δ → t E' δ
def kS (K : PySem.W.Frag) (H : Hp) (Q : L2.St → Hp → Prop) : SD → Prop := fun δ => ∀ σ H', Same H H' → RelS K H' σ δ → Q σ H'
def endsOf (K : PySem.W.Frag) (H : Hp) (D : Ends) : EndsD := ⟨kS K H D.nx, kD K H D.rt, kS K H D.bk, kS K H D.ct⟩
theorem kS.on {K : PySem.W.Frag} {H H1 : Hp} {Q : L2.St → Hp → Prop} {δ : SD} (s : Same H H1) (h : kS K H Q δ) : kS K H1 Q δ := fun σ H' s' r => h σ H' (s.trans s') r
theorem ends_on {K : PySem.W.Frag} {H H1 : Hp} {D : Ends} (s : Same H H1) : EndsD.Le (endsOf K H D) (endsOf K H1 D) := ⟨fun _ h => h.on s, fun _ h => h.on s, fun _ h => h.on s, fun _ h => h.on s⟩
def oS (K : PySem.W.Frag) (t : TSD) : TS := fun D σ H => ∃ δ, RelS K H σ δ ∧ t (endsOf K H D) δ
structure PSd (X : Cx) (st : Stmt) (t : TSD) : Prop where
  ps : PS X st (oS X.K t)
  mono : MonoQ t
structure PSsd (X : Cx) (st : List Stmt) (t : TSD) : Prop where
  ps : PSs X st (oS X.K t)
  mono : MonoQ t
section
variable {X : Cx} {st : Stmt} {rest body els : List Stmt} {t u : TSD} {e c : Expr} {te : ED} {uc : TD} {pos : Pos}
theorem PS.imp {t t' : TS} (h : PS X st t) (f : ∀ D σ H, t' D σ H → t D σ H) : PS X st t' := fun pins s σ H D I q => h pins s σ H D I (f D σ H q)
theorem PSs.imp {t t' : TS} (h : PSs X rest t) (f : ∀ D σ H, t' D σ H → t D σ H) : PSs X rest t' := fun pins s σ H D I q => h pins s σ H D I (f D σ H q)
def qNext : TSD := fun E δ => E.nx δ
def qSeq (t u : TSD) : TSD := fun E δ => t { E with nx := u E } δ
theorem ss_nil : PSsd X [] qNext := ⟨PSs.imp pss_nil fun D σ H ⟨δ, r, h⟩ => h σ H (Same.refl _) r, fun E E' δ l h => l.nx _ h⟩
theorem ss_cons (h1 : PSd X st t) (h2 : PSsd X rest u) : PSsd X (st :: rest) (qSeq t u) :=
  ⟨PSs.imp (pss_cons h1.ps h2.ps) fun D σ H ⟨δ, r, h⟩ => ⟨δ, r, h1.mono { endsOf X.K H D with nx := u (endsOf X.K H D) } _ _ ⟨fun δ' q σ' H' s' r' => ⟨δ', r', h2.mono _ _ _ (ends_on s') q⟩, fun _ q => q, fun _ q => q, fun _ q => q⟩ h⟩,
   fun E E' δ l h => h1.mono { E with nx := u E } _ _ ⟨fun δ' q => h2.mono _ _ _ l q, l.rt, l.bk, l.ct⟩ h⟩
theorem ss_one (h1 : PSd X st t) : PSsd X [st] t := ⟨pss_one h1.ps, h1.mono⟩
def qRet (te : ED) : TSD := fun E δ => te δ E.rt
theorem s_ret (he : PD X e te) : PSd X (.Return (some e) pos) (qRet te) := ⟨PS.imp (ps_ret he.pe) fun D σ H ⟨δ, r, h⟩ => ⟨δ, r, h⟩, fun E E' δ l h => he.mono _ _ _ l.rt h⟩
def qDrop (te : ED) : TSD := fun E δ => te δ fun _ => E.nx δ
theorem s_expr (he : PD X e te) (hs : swapsWith e none pos.line X.env = pure false := by rfl) : PSd X (.Expr e pos) (qDrop te) :=
  ⟨PS.imp (ps_expr he.pe hs) fun D σ H ⟨δ, r, h⟩ => ⟨δ, r, he.mono _ _ _ (fun d q v H1 s1 dv => q σ H1 s1 (r.same s1)) h⟩, fun E E' δ l h => he.mono _ _ _ (fun d q => l.nx _ q) h⟩
def qSet (i : Nat) (te : ED) : TSD := fun E δ => te δ fun d => E.nx (δ.set i (some d))
theorem s_set {i : Nat} {x : Str} {pos' : Pos} (hN : X.N.Nodup) (hi : X.N[i]? = some x) (hx : Loc X.env.scope x) (he : PD X e te) (hs : swapsWith e (some (.Name x pos')) pos.line X.env = pure false := by rfl)
    (hf : X.fn x = true ∨ X.env.scope.names.lookup x = some .local := by first | exact .inl rfl | exact .inr rfl | assumption) : PSd X (.Assign [.Name x pos'] e pos) (qSet i te) :=
  ⟨PS.imp (ps_set hN hi hx he.pe hs hf) fun D σ H ⟨δ, r, h⟩ => ⟨δ, r, he.mono _ _ _ (fun d q v H1 s1 dv => q _ H1 s1 ((r.same s1).set i dv)) h⟩, fun E E' δ l h => he.mono _ _ _ (fun d q => l.nx _ q) h⟩
def qIf (uc : TD) (t u : TSD) : TSD := fun E δ => uc δ fun b => if b = true then t E δ else u E δ
theorem s_if (hc : PTd X c uc) (ha : PSsd X body t) (hb : PSsd X els u) : PSd X (.If c body els pos) (qIf uc t u) := by
  refine ⟨PS.imp (ps_if hc.pt ha.ps hb.ps) fun D σ H ⟨δ, r, h⟩ => ⟨δ, r, hc.mono _ _ _ (fun k q H1 s1 => ?_) h⟩, fun E E' δ l h => hc.mono _ _ _ (fun k q => ?_) h⟩
  · cases k with
    | true => rw [if_pos rfl] at q ⊢; exact ⟨δ, r.same s1, ha.mono _ _ _ (ends_on s1) q⟩
    | false => rw [if_neg Bool.false_ne_true] at q ⊢; exact ⟨δ, r.same s1, hb.mono _ _ _ (ends_on s1) q⟩
  · cases k with
    | true => rw [if_pos rfl] at q ⊢; exact ha.mono _ _ _ l q
    | false => rw [if_neg Bool.false_ne_true] at q ⊢; exact hb.mono _ _ _ l q
def qNever : TSD := fun _ _ => False
theorem s_never : PSd X st qNever := ⟨PS.imp ps_never fun D σ H ⟨δ, r, h⟩ => h, fun E E' δ l h => h⟩
end
def startD (N : List Str) (ds : List D) : SD := ds.map some ++ List.replicate (N.length - ds.length) none
theorem start_rel {K : PySem.W.Frag} {H : Hp} {N : List Str} {vs : List V} {ds : List D} (h : Dvs K H vs ds) : RelS K H (L2.start N vs) (startD N ds) := by
  unfold L2.start startD
  have hl := h.length
  refine ⟨by rw [List.length_append, List.length_append, List.length_map, List.length_map, List.length_replicate, List.length_replicate, hl], fun i d e => ?_⟩
  by_cases hi : i < ds.length
  · rw [List.getElem?_append_left (by rw [List.length_map]; exact hi), List.getElem?_map] at e
    cases q : ds[i]? with
    | none => rw [q] at e; cases e
    | some d' =>
      rw [q] at e
      cases e
      obtain ⟨v, hv, dv⟩ := h.get q
      exact ⟨v, by rw [List.getElem?_append_left (by rw [List.length_map]; omega), List.getElem?_map, hv]; rfl, dv⟩
  · rw [List.getElem?_append_right (by rw [List.length_map]; omega), List.getElem?_replicate] at e
    split at e <;> cases e
section
variable {P : Program} {w : World} {K : PySem.W.Frag} {mg : Str → Option Value} {base : Heap}
abbrev Bx (P : Program) (w : World) (K : PySem.W.Frag) (mg : Str → Option Value) (base : Heap) (N : List Str) (qual : Str) (st : Stmt) (f : Addr) (cdv : Value) (A : Around) (outer : List Env) (s : Shared) (H : Hp) (E : XK) : Cx := (cxOf CX0 P w K mg base N qual (defScope st) f cdv A outer s H E).nox
theorem okD {x qual : Str} {st : Stmt} {f : Addr} {fd : FuncData} {N ps : List Str} {k : Nat} {sd : SpD} {t : TSD} (F : Fun K x qual st f fd) (S : FnScope N ps (defScope st)) (len : ∀ ds Q, sd ds Q → ds.length = ps.length)
    (hb : ∀ (cdv : Value) (A : Around) (outer : List Env) (s : Shared) (H : Hp) (E : XK), Room k (A.deeper (envOfC qual (defScope st) s.heap.objs.size f cdv)) → PSsd (Bx P w K mg base N qual st f cdv A outer s H E) (defBody st) t)
    (hr : ∀ ds Q, sd ds Q → t { nx := fun _ => Q .non, rt := Q } (startD N ds)) : FnOk P w K mg base CX0 (k + 1) f fd ps (spOf K sd) := by
  refine F.ok S (fun vs H Q E ⟨ds, dvs, h⟩ => by rw [dvs.length]; exact len ds _ h) (fun cdv A outer s H vs Q E hroom ⟨ds, dvs, h⟩ => ?_)
  have B := hb cdv A outer s H E hroom
  refine ⟨_, B.ps, startD N ds, start_rel dvs, ?_⟩
  refine B.mono { nx := fun _ => kD K H Q .non, rt := kD K H Q } _ _ ⟨fun δ q σ H' s' r => q _ H' s' .non, fun d q => q, fun _ q => q.elim, fun _ q => q.elim⟩ (hr ds _ h)
end
end DC

set_option maxHeartbeats 4000000
namespace DC
open PySem PySem.Spec PyProof.Rows L2
structure ItD (K : PySem.W.Frag) (J : It) (H1 : Hp) (ds : List D) : Prop where
  go : ∀ i H', Same H1 H' → i < ds.length → J.go i H'
  stop : ∀ H', Same H1 H' → J.stop ds.length H'
  yld : ∀ i H' x H'', Same H1 H' → i < ds.length → J.yld i H' x H'' → Same H' H'' ∧ ∃ d, ds[i]? = some d ∧ ∃ Hx, Same H1 Hx ∧ Dv K Hx x d ∧ (∀ a o, Hx a = some o → H1 a = some o ∨ H' a = none) ∧ Same Hx H''
structure PId (X : Cx) (tg iter : Expr) (ti : AD) : Prop where
  pi : PI X tg iter (fun σ H R => ∃ δ, RelS X.K H σ δ ∧ ti δ fun ds => ∀ J H1, Same H H1 → ItD X.K J H1 ds → R J H1)
  mono : MonoA ti
def itemsD : D → Option (List D)
  | .lst xs => some xs
  | .tup xs => some xs
  | .str y => some (y.cps.toList.map fun c => .str ⟨#[c]⟩)
  | _ => none
def aItems (te : ED) : AD := fun δ Q => te δ fun d => ∃ ds, itemsD d = some ds ∧ Q ds
section
variable {X : Cx} {tg : Expr} {l : Expr} {te : ED}
theorem PI.imp {wi wi' : TI} (h : PI X tg l wi) (f : ∀ σ H R, wi' σ H R → wi σ H R) : PI X tg l wi' := fun pins s σ H R I q => h pins s σ H R I (f σ H R q)
theorem pi_any {tl : TE} (hl : PE X l tl) : PI X tg l (fun σ H R => tl σ H fun x H1 => (∃ a, x = .ref a ∧ (∃ xs, SqL X.K H1 a xs) ∧ R (Itl X.K a) H1) ∨ (∃ a, x = .ref a ∧ (∃ xs, SqT X.K H1 a xs) ∧ R (Itt X.K a) H1) ∨ ∃ y, x = .str y ∧ R (Its y) H1) := by
  intro pins s σ H R I h
  refine thn (hl pins s σ H _ I h) fun v s1 ⟨x, H1, I1, r1, q1⟩ => ?_
  have hf : ∀ b ∈ [s1.heap.objs.size], FpOk X pins H1 b := fun b hb => by
    have e : b = s1.heap.objs.size := by simpa using hb
    subst e
    exact I1.fpOk (Nat.le_refl _) (I1.hok.fresh (Nat.le_refl _))
  rcases q1 with ⟨a, e, ⟨xs, hq⟩, q⟩ | ⟨a, e, ⟨xs, hq⟩, q⟩ | ⟨y, e, q⟩
  · subst e
    cases (show v = Value.ref a from r1)
    obtain ⟨its, rv, p, hz⟩ := I1.list hq
    exact wpAny_pyIter_list p.isList ⟨s1.heap.objs.size, [s1.heap.objs.size], _, _, H1, rfl, I1.kept (t' := s1.toks) fun b o e => Heap.get?_push_of_some _ e, turn_list a _, ⟨_, Heap.get?_push_size _ rfl, rfl, rfl⟩, hf, q⟩
  · subst e
    cases (show v = Value.ref a from r1)
    obtain ⟨its, rv, p, hz⟩ := I1.tuple hq
    exact wpAny_pyIter_tuple (show s1.heap.IsTuple a its.toArray from p) ⟨s1.heap.objs.size, [s1.heap.objs.size], _, _, H1, rfl, I1.kept (t' := s1.toks) fun b o e => Heap.get?_push_of_some _ e, turn_tuple a _, ⟨_, Heap.get?_push_size _ rfl, rfl, rfl⟩, hf, q⟩
  · subst e
    obtain ⟨t, rfl⟩ := r1
    cases ha : y.cps.all (· < 128)
    · exact wpAny_pyIter_wide ha ⟨s1.heap.objs.size, [s1.heap.objs.size], _, _, H1, rfl, I1.kept (t' := s1.toks) fun b o e => Heap.get?_push_of_some _ e, turn_strW y t _, ⟨_, Heap.get?_push_size _ rfl, rfl, rfl⟩, hf, q⟩
    · exact wpAny_pyIter_ascii ha ⟨s1.heap.objs.size, [s1.heap.objs.size], _, _, H1, rfl, I1.kept (t' := s1.toks) fun b o e => Heap.get?_push_of_some _ e, turn_strA y t _, ⟨_, Heap.get?_push_size _ rfl, rfl, rfl⟩, hf, q⟩
theorem i_any (he : PD X l te) : PId X tg l (aItems te) := by
  refine ⟨PI.imp (pi_any he.pe) fun σ H R ⟨δ, r, h⟩ => ⟨δ, r, he.mono _ _ _ (fun d ⟨ds, e, q⟩ v H1 s1 dv => ?_) h⟩, fun δ P P' g h => he.mono _ _ _ (fun d ⟨ds, e, q⟩ => ⟨ds, e, g _ q⟩) h⟩
  cases dv with
  | lst h1 h2 =>
    cases e
    refine .inl ⟨_, rfl, ⟨_, h1⟩, q _ H1 s1 ⟨fun i H' s' hi => ?_, fun H' s' => ⟨_, s'.seq h1, by rw [h2.length]; exact Nat.le_refl _⟩, fun i H' x H'' s' hi y => ?_⟩⟩
    · obtain ⟨v, hv, _⟩ := h2.get (List.getElem?_eq_getElem hi)
      exact ⟨_, v, s'.seq h1, hv⟩
    · obtain ⟨rfl, y2⟩ := y
      obtain ⟨d, hd, dv⟩ := h2.getV (y2 _ (s'.seq h1))
      exact ⟨Same.refl _, d, hd, H1, Same.refl _, dv, fun _ _ z => .inl z, s'⟩
  | tup h1 h2 =>
    cases e
    refine .inr (.inl ⟨_, rfl, ⟨_, h1⟩, q _ H1 s1 ⟨fun i H' s' hi => ?_, fun H' s' => ⟨_, sameT s' h1, by rw [h2.length]; exact Nat.le_refl _⟩, fun i H' x H'' s' hi y => ?_⟩⟩)
    · obtain ⟨v, hv, _⟩ := h2.get (List.getElem?_eq_getElem hi)
      exact ⟨_, v, sameT s' h1, hv⟩
    · obtain ⟨rfl, y2⟩ := y
      obtain ⟨d, hd, dv⟩ := h2.getV (y2 _ (sameT s' h1))
      exact ⟨Same.refl _, d, hd, H1, Same.refl _, dv, fun _ _ z => .inl z, s'⟩
  | str y =>
    cases e
    refine .inr (.inr ⟨_, rfl, q _ H1 s1 ⟨fun i H' s' hi => ?_, fun H' s' => ?_, fun i H' x H'' s' hi y => ?_⟩⟩)
    · have hi' : i < y.cps.size := by simpa using hi
      exact hi'
    · show y.cps.size ≤ _
      simp
    · obtain ⟨rfl, c, hc, rfl⟩ := y
      refine ⟨Same.refl _, .str ⟨#[c]⟩, ?_, H1, Same.refl _, .str _, fun _ _ z => .inl z, s'⟩
      rw [List.getElem?_map, Array.getElem?_toList, hc]
      rfl
  | _ => cases e
def aRange1 (t : AD) : AD := fun δ Q => t δ fun ds => ∃ n : Int, ds = [.int n] ∧ -(2 ^ 62) ≤ n ∧ n < 2 ^ 62 ∧ Q ((List.range n.toNat).map fun i : Nat => .int (0 + (i : Int)))
theorem it_range {K : PySem.W.Frag} {H : Hp} (lo : Int) (n : Nat) : ItD K (Itr lo n) H ((List.range n).map fun i : Nat => .int (lo + (i : Int))) := by
  refine ⟨fun i H' s' hi => ?_, fun H' s' => ?_, fun i H' x H'' s' hi y => ?_⟩
  · have hi' : i < n := by simpa using hi
    exact hi'
  · show n ≤ _
    simp
  · obtain ⟨rfl, rfl⟩ := y
    have hi' : i < n := by simpa using hi
    exact ⟨Same.refl _, .int (lo + i), by rw [List.getElem?_map, List.getElem?_range hi']; rfl, H, Same.refl _, .int _, fun _ _ z => .inl z, s'⟩
theorem i_range1 {a : Expr} {ta : AD} {p pos : Pos} (hg : Gl X "range") (hm : X.mg "range" = none) (ha : PAd X [a] ta) (hs : starEach [a] X.env = [(false, eval a X.env)] := by rfl) : PId X tg (.Call (.Name "range" p) [a] [] pos) (aRange1 ta) := by
  refine ⟨PI.imp (pi_range1 hg hm ha.pa hs) fun σ H R ⟨δ, r, h⟩ => ⟨δ, r, ha.mono _ _ _ (fun ds ⟨n, e, h1, h2, q⟩ vs H1 s1 dvs => ?_) h⟩, fun δ P P' g h => ha.mono _ _ _ (fun ds ⟨n, e, h1, h2, q⟩ => ⟨n, e, h1, h2, g _ q⟩) h⟩
  subst e
  cases dvs with
  | cons a b =>
    cases a
    cases b
    exact ⟨n, rfl, h1, h2, q _ H1 s1 (it_range 0 n.toNat)⟩
end
abbrev TGD := D → SD → (SD → Prop) → Prop
structure PGd (X : Cx) (tg : Expr) (g : TGD) : Prop where
  pg : PG X tg (fun v σ H Q => ∃ d δ, Dv X.K H v d ∧ RelS X.K H σ δ ∧ g d δ (kS X.K H Q))
  mono : ∀ d δ (P P' : SD → Prop), (∀ δ, P δ → P' δ) → g d δ P → g d δ P'
def hName (i : Nat) : TGD := fun d δ Q => Q (δ.set i (some d))
section
variable {X : Cx} {tg iter : Expr} {body : List Stmt} {ti : AD} {g : TGD} {tb : TSD} {pos : Pos}
theorem PG.imp {t t' : TG} (h : PG X tg t) (f : ∀ v σ H Q, t' v σ H Q → t v σ H Q) : PG X tg t' := fun pins s σ H v u Q I r q => h pins s σ H v u Q I r (f v σ H Q q)
theorem g_name {i : Nat} {x : Str} (hN : X.N.Nodup) (hi : X.N[i]? = some x) (hx : Loc X.env.scope x) (hf : X.fn x = true ∨ X.env.scope.names.lookup x = some .local := by first | exact .inl rfl | exact .inr rfl | assumption) : PGd X (.Name x pos) (hName i) :=
  ⟨PG.imp (pg_name hN hi hx hf) fun v σ H Q ⟨d, δ, dv, r, q⟩ => q _ H (Same.refl _) (r.set i dv), fun d δ P P' f q => f _ q⟩
def qFor (ti : AD) (g : TGD) (tb : TSD) : TSD := fun E δ => ti δ fun ds => ∃ inv : Nat → SD → Prop, inv 0 δ ∧
  (∀ i d δ', ds[i]? = some d → inv i δ' → g d δ' fun δ2 => tb { E with nx := inv (i + 1), ct := inv (i + 1), bk := E.nx } δ2) ∧ ∀ δ', inv ds.length δ' → E.nx δ'
theorem s_for (hp : PassesOwn (model X.prog X.w) X.A X.env X.xe) (hc : X.calm = true) (hi : PId X tg iter ti) (hg : PGd X tg g) (hb : PSsd X body tb) (hs : ∀ x, foldedSetIterable iter X.env x = pure x := by intro _; rfl) :
    PSd X (.For tg iter body [] pos) (qFor ti g tb) := by
  refine ⟨PS.imp (ps_for hp hc hi.pi hg.pg hb.ps hs) fun D σ H ⟨δ, r, h⟩ => ⟨δ, r, hi.mono _ _ _ (fun ds ⟨inv, i0, step, fin⟩ J H1 s1 it => ?_) h⟩, fun E E' δ l h => hi.mono _ _ _ (fun ds ⟨inv, i0, step, fin⟩ => ⟨inv, i0, fun i d δ' hd hin => hg.mono _ _ _ _ (fun δ2 q => hb.mono { E with nx := inv (i + 1), ct := inv (i + 1), bk := E.nx } _ _ ⟨fun _ q => q, l.rt, l.nx, fun _ q => q⟩ q) (step i d δ' hd hin), fun δ' q => l.nx _ (fin δ' q)⟩) h⟩
  refine ⟨fun i m σ' H' => m = ds.length - i ∧ i ≤ ds.length ∧ Same H1 H' ∧ ∃ δ', RelS X.K H' σ' δ' ∧ inv i δ', ⟨ds.length, rfl, Nat.zero_le _, Same.refl _, δ, r.same s1, i0⟩, ?_⟩
  rintro i m σ' H' ⟨rfl, hle, s', δ', r', hin⟩
  by_cases hlt : i < ds.length
  · refine .inr ⟨it.go i H' s' hlt, fun σ2 H2 => Same H1 H2 ∧ ∃ δ2, RelS X.K H2 σ2 δ2 ∧ inv (i + 1) δ2, fun σ2 H2 ⟨s2, δ2, r2, h2⟩ => ⟨ds.length - (i + 1), by omega, rfl, hlt, s2, δ2, r2, h2⟩, fun x H'' y => ?_⟩
    obtain ⟨s2, d, hd, Hx, _, dvx, _, sx⟩ := it.yld i H' x H'' s' hlt y
    have dv := dvx.same sx
    have sA := s'.trans s2
    refine ⟨d, δ', dv, r'.same s2, hg.mono _ _ _ _ (fun δ2 q σ3 H3 s3 r3 => ⟨δ2, r3, hb.mono { endsOf X.K H D with nx := inv (i + 1), ct := inv (i + 1), bk := (endsOf X.K H D).nx } _ _ ?_ q⟩) (step i d δ' hd hin)⟩
    have sB := s1.trans (sA.trans s3)
    exact ⟨fun δ3 q3 σ4 H4 s4 r4 => ⟨sA.trans (s3.trans s4), δ3, r4, q3⟩, fun _ q3 => q3.on sB, fun _ q3 => q3.on sB, fun δ3 q3 σ4 H4 s4 r4 => ⟨sA.trans (s3.trans s4), δ3, r4, q3⟩⟩
  · have e : i = ds.length := by omega
    subst e
    exact .inl ⟨it.stop H' s', fin δ' hin σ' H' (s1.trans s') r'⟩
end
end DC

set_option maxHeartbeats 4000000
namespace DC
open PySem PySem.Spec PyProof.Rows L2
structure PTsd (X : Cx) (ifs : List Expr) (t : TD) : Prop where
  pts : PTs X ifs (oT X.K t)
  mono : MonoT t
def uYes : TD := fun _ Q => Q true
section
variable {X : Cx} {c : Expr} {ut : TD}
theorem PTs.imp {ifs : List Expr} {t t' : TT} (h : PTs X ifs t) (f : ∀ σ H Q, t' σ H Q → t σ H Q) : PTs X ifs t' := fun pins s σ H Q I q => h pins s σ H Q I (f σ H Q q)
theorem ts_nil : PTsd X [] uYes := ⟨PTs.imp pts_nil fun σ H Q ⟨δ, r, h⟩ => h H (Same.refl _), fun δ P P' g h => g _ h⟩
theorem ts_one (h : PTd X c ut) : PTsd X [c] ut := ⟨pts_one h.pt, h.mono⟩
end
def capD (caps : List Nat) (δ : SD) : SD := caps.map fun j => (δ[j]?).getD none
def vComp (caps : List Nat) (ti : AD) (tt : TD) (te : ED) : ED := fun δ Q => ti δ fun ds => ∃ outs : List (Option D), outs.length = ds.length ∧
  (∀ (i : Nat) (d : D) (o : Option D), ds[i]? = some d → outs[i]? = some o → tt (some d :: capD caps δ) fun b => b = o.isSome ∧ (b = true → te (some d :: capD caps δ) fun y => o = some y)) ∧ ds.length < sizeLine ∧ Q (.lst (outs.filterMap id))
theorem outs_eq (p : D → Bool) (gg : D → D) : ∀ ds : List D, (ds.map fun d => if p d = true then some (gg d) else none).filterMap id = (ds.filter p).map gg
  | [] => rfl
  | d :: ds => by
    rw [List.map_cons, List.filter_cons]
    cases hp : p d with
    | true =>
      rw [if_pos rfl, if_pos rfl, List.map_cons, ← outs_eq p gg ds]
      rfl
    | false =>
      rw [if_neg Bool.false_ne_true, if_neg Bool.false_ne_true, ← outs_eq p gg ds]
      rfl
theorem cap_rel {K : PySem.W.Frag} {H : Hp} {σ : L2.St} {δ : SD} (r : RelS K H σ δ) {x : V} {d : D} (dv : Dv K H x d) (caps : List Nat) : RelS K H (some x :: caps.map fun j => (σ[j]?).getD none) (some d :: capD caps δ) := by
  refine ⟨by unfold capD; simp, fun i e h => ?_⟩
  cases i with
  | zero => simp at h; subst h; exact ⟨x, rfl, dv⟩
  | succ i =>
    unfold capD at h
    simp only [List.getElem?_cons_succ, List.getElem?_map] at h ⊢
    cases q : caps[i]? with
    | none => rw [q] at h; cases h
    | some j =>
      rw [q] at h
      have h' : (δ[j]?).getD none = some e := by simpa using h
      have h2 : δ[j]? = some (some e) := by
        cases z : δ[j]? with
        | none => rw [z] at h'; cases h'
        | some o => rw [z] at h'; exact congrArg some h'
      obtain ⟨v, hv, dv⟩ := r.get j e h2
      exact ⟨v, by simp [hv], dv⟩
theorem comp_imp {K : PySem.W.Frag} {caps : List Nat} {ti : AD} {tt : TD} {te : ED} (mi : MonoA ti) (mt : MonoT tt) (me : MonoE te) {σ : L2.St} {H : Hp} {Q : VK} (h : oE K (vComp caps ti tt te) σ H Q) :
    rComp 1 caps (fun σ H R => ∃ δ, RelS K H σ δ ∧ ti δ fun ds => ∀ J H1, Same H H1 → ItD K J H1 ds → R J H1) (gName 0) (uFrame (oT K tt)) (tFrame (oE K te)) σ H Q := by
  obtain ⟨δ, r, h⟩ := h
  refine ⟨δ, r, mi _ _ _ (fun ds ⟨outs, hol, each, hlen, q⟩ J H1 s1 it D hD => ?_) h⟩
  refine ⟨fun i m ys H' => m = ds.length - i ∧ i ≤ ds.length ∧ ∃ H0, H0 D = none ∧ Same H1 H0 ∧ Dvs K H0 ys ((outs.take i).filterMap id) ∧ H' = upd H0 D (.lst ys), ⟨ds.length, rfl, Nat.zero_le _, H1, hD, Same.refl _, .nil, rfl⟩, ?_⟩
  rintro i m ys H' ⟨rfl, hle, H0, h0, s0, dys, rfl⟩
  refine ⟨upd_same, ?_⟩
  have sU : Same H1 (upd H0 D (.lst ys)) := s0.trans (same_upd h0)
  by_cases hlt : i < ds.length
  · refine .inr ⟨it.go i _ sU hlt, fun x H'' y => ?_⟩
    obtain ⟨s2, d, hd, Hx, sx1, dvx, only, sx⟩ := it.yld i _ x H'' sU hlt y
    have hD2 : H'' D = some (.lst ys) := s2 _ _ upd_same
    have ne1 : ∀ a o, H1 a = some o → a ≠ D := fun a o z => ne_of_none z hD
    have nex : ∀ a o, Hx a = some o → a ≠ D := fun a o z w => by
      rcases only a o z with z1 | z1
      · exact ne1 a o z1 w
      · rw [w, upd_same] at z1; cases z1
    have sd1 : Same H0 (del H'' D) := fun a o z => by
      rw [del_ne (ne_of_none z h0)]
      exact s2 a o (same_upd h0 a o z)
    have sdx : Same Hx (del H'' D) := fun a o z => by
      rw [del_ne (nex a o z)]
      exact sx a o z
    obtain ⟨o, ho⟩ : ∃ o, outs[i]? = some o := ⟨_, List.getElem?_eq_getElem (show i < outs.length by omega)⟩
    have rel : RelS K (del H'' D) (some x :: caps.map fun j => (σ[j]?).getD none) (some d :: capD caps δ) := cap_rel (r.same (s1.trans (s0.trans sd1))) (dvx.same sdx) caps
    refine ⟨Le.one, D, ys, hD2, _, rel, mt _ _ _ (fun b ⟨eb, hb⟩ H3 s3 h3 => ?_) (each i d o hd ho)⟩
    have ht : outs.take (i + 1) = outs.take i ++ [o] := by rw [List.take_succ, ho]; rfl
    have s03 : Same H0 H3 := sd1.trans s3
    cases b with
    | false =>
      refine iteF ?_
      refine ⟨ds.length - (i + 1), by omega, rfl, hlt, H3, h3, s0.trans s03, ?_, rfl⟩
      have on : o = none := by cases o with | none => rfl | some z => cases eb
      rw [ht, on, List.filterMap_append]
      simpa using dys.same s03
    | true =>
      refine iteT ?_
      refine ⟨D, ys, upd_same, ?_⟩
      rw [del_upd h3]
      refine ⟨_, rel.same s3, me _ _ _ (fun y ey v H4 s4 dv h4 => ⟨upd_same, ?_, ds.length - (i + 1), by omega, rfl, hlt, H4, h4, s0.trans (s03.trans s4), ?_, upd_upd⟩) (hb rfl)⟩
      · rw [dys.length]
        exact Nat.lt_of_le_of_lt (Nat.le_trans (List.length_filterMap_le _ _) (List.length_take_le' _ _)) (by rw [hol]; exact hlen)
      · rw [ht, ey, List.filterMap_append]
        exact (dys.same (s03.trans s4)).append (.cons dv .nil)
  · have e : i = ds.length := by omega
    subst e
    refine .inl ⟨it.stop _ sU, ?_⟩
    rw [← hol, List.take_length] at dys
    exact q _ _ (s1.trans sU) (.lst (SqL.of upd_same) (dys.same (same_upd h0)))
section
variable {X : Cx} {scope : Scope} {cl : List (Str × Addr)} {x : Str} {cn : List Str} {caps : List Nat} {elt tg iter : Expr} {ifs : List Expr} {ti : AD} {tt : TD} {te : ED} {pos : Pos}
theorem m_comp (mi : MonoA ti) : MonoE (vComp caps ti tt te) := fun δ P P' g h => mi _ _ _ (fun ds ⟨outs, hol, each, hlen, q⟩ => ⟨outs, hol, each, hlen, g _ q⟩) h
theorem d_comp (S : CompScope X scope cl [x] caps cn) (hc : X.calm = true) (hi : PId X tg iter ti) (hg : ∀ C fp s₂ H₂, PG (cxComp X scope cl C ([x] ++ cn) fp s₂ H₂) tg (gName 0)) (ht : ∀ C fp s₂ H₂, PTsd (cxComp X scope cl C ([x] ++ cn) fp s₂ H₂) ifs tt)
    (he : ∀ C fp s₂ H₂, PD (cxComp X scope cl C ([x] ++ cn) fp s₂ H₂) elt te) (mt : MonoT tt) (me : MonoE te) (hs : ∀ x, foldedSetIterable iter X.env x = pure x := by intro _; rfl) : PD X (.ListComp elt [⟨tg, iter, ifs, 0⟩] scope pos) (vComp caps ti tt te) :=
  ⟨(pe_comp S hc hi.pi hg (fun C fp s₂ H₂ => pts_frame (ht C fp s₂ H₂).pts) (fun C fp s₂ H₂ => pe_frame (he C fp s₂ H₂).pe) hs).imp fun σ H Q h => comp_imp hi.mono mt me h, m_comp hi.mono⟩
theorem s_comp {i : Nat} {y : Str} {py spos : Pos} (hN : X.N.Nodup) (hi' : X.N[i]? = some y) (hy : Loc X.env.scope y) (S : CompScope X scope cl [x] caps cn) (hc : X.calm = true) (hi : PId X tg iter ti)
    (hg : ∀ C fp s₂ H₂, PG (cxComp X scope cl C ([x] ++ cn) fp s₂ H₂) tg (gName 0)) (ht : ∀ C fp s₂ H₂, PTsd (cxComp X scope cl C ([x] ++ cn) fp s₂ H₂) ifs tt) (he : ∀ C fp s₂ H₂, PD (cxComp X scope cl C ([x] ++ cn) fp s₂ H₂) elt te) (mt : MonoT tt) (me : MonoE te)
    (hsw : swapsWith (.ListComp elt [⟨tg, iter, ifs, 0⟩] scope pos) (some (.Name y py)) spos.line X.env = pure true := by rfl) (hf : X.fn y = true ∨ X.env.scope.names.lookup y = some .local := by first | exact .inl rfl | exact .inr rfl | assumption)
    (hs : ∀ x, foldedSetIterable iter X.env x = pure x := by intro _; rfl) : PSd X (.Assign [.Name y py] (.ListComp elt [⟨tg, iter, ifs, 0⟩] scope pos) spos) (qSet i (vComp caps ti tt te)) :=
  ⟨PS.imp (ps_comp hN hi' hy S hc hi.pi hg (fun C fp s₂ H₂ => pts_frame (ht C fp s₂ H₂).pts) (fun C fp s₂ H₂ => pe_frame (he C fp s₂ H₂).pe) hsw hf hs) fun D σ H ⟨δ, r, h⟩ =>
     comp_imp hi.mono mt me ⟨δ, r, m_comp hi.mono _ _ _ (fun d q v H1 s1 dv => q _ H1 s1 ((r.same s1).set i dv)) h⟩,
   fun E E' δ l h => m_comp hi.mono _ _ _ (fun d q => l.nx _ q) h⟩
end
end DC

set_option maxHeartbeats 4000000
namespace DC
open PySem PySem.Spec PyProof.Rows L2
def kindD : D → Option String
  | .non => some "NoneType"
  | .bl _ => some "bool"
  | .int _ => some "int"
  | .str _ => some "str"
  | .lst _ => some "list"
  | .tup _ => some "tuple"
  | .dK _ => some "dict"
  | .dT _ => some "dict"
  | .obj _ _ => none
  | .adr _ => none
  | .exc _ _ _ => none
structure OwnTy (K : PySem.W.Frag) (C : Addr) : Prop where
  cl : Cls K C
  ha : PySem.W.findIn K (.ref C) "__class__" = some (some (.builtin "object.__class__"))
  hn : PySem.W.specialIn K (.builtin "object.__class__") "__get__" = some (some (.builtin "getset_descriptor.__get__"))
  htk : PySem.W.takesIn K (.builtin "object.__class__") = some true
  hm : PySem.W.mroIn K C (.type "object") = some true
inductive TyD (K : PySem.W.Frag) : D → Value → Prop
  | k {d : D} {T : String} (h : kindD d = some T) : TyD K d (.type T)
  | o {C : Addr} {gs : List (Str × D)} (h : OwnTy K C) : TyD K (.obj C gs) (.ref C)
section
variable {X : Cx} {pins : List (Addr × Obj)} {σ : L2.St} {H : Hp} {s : Shared}
theorem isi_run {x : V} {u t : Value} {d : D} (I : Inv X pins σ H s) (rx : RelV x u) (dv : Dv X.K H x d) (ty : TyD X.K d t) : ∃ Hh, PySem.W.KitX X.K u t Hh ∧ Hh s.heap ∧ u ≠ .builtin "__main__.__loader__#opaque" := by
  cases ty with
  | k h =>
    cases dv with
    | non => cases h; cases (show u = Value.none from rx); exact ⟨_, PySem.W.kitx_none, True.intro, fun z => nomatch z⟩
    | bl y => cases h; cases (show u = Value.bool y from rx); exact ⟨_, PySem.W.kitx_bool, True.intro, fun z => nomatch z⟩
    | int i => cases h; obtain ⟨t, q⟩ := (show ∃ t, u = Value.int i t from rx); cases q; exact ⟨_, PySem.W.kitx_int, True.intro, fun z => nomatch z⟩
    | str y => cases h; obtain ⟨t, q⟩ := (show ∃ t, u = Value.str y t from rx); cases q; exact ⟨_, PySem.W.kitx_str, True.intro, fun z => nomatch z⟩
    | @lst a xs ds h1 h2 =>
      cases h
      cases (show u = Value.ref a from rx)
      obtain ⟨its, _, pl, _⟩ := I.list h1
      obtain ⟨o, n, e1, e2, _⟩ := pl
      exact ⟨_, PySem.W.kitx_list, ⟨o, e1, e2⟩, fun z => nomatch z⟩
    | @tup a xs ds h1 h2 =>
      cases h
      cases (show u = Value.ref a from rx)
      obtain ⟨its, _, pl, _⟩ := I.tuple h1
      obtain ⟨o, n, e1, e2, _⟩ := IsTup.of_get pl
      exact ⟨_, PySem.W.kitx_tuple, ⟨o, e1, e2⟩, fun z => nomatch z⟩
    | @dK a kvs gs h1 h2 =>
      cases h
      cases (show u = Value.ref a from rx)
      obtain ⟨_, _, vs, _, p⟩ := (show ObjOk X.prog X.w H s.heap a (.dK kvs) from h1.ok I.hok)
      obtain ⟨o, es, ep, g1, g2, _⟩ := p
      exact ⟨_, PySem.W.kitx_dict, ⟨o, g1, g2.1⟩, fun z => nomatch z⟩
    | @dT a kvs gs h1 h2 =>
      cases h
      cases (show u = Value.ref a from rx)
      obtain ⟨_, _, xs, _, o, es, ep, g1, g2, _⟩ := (show ObjOk X.prog X.w H s.heap a (.dT kvs) from h1.ok I.hok)
      exact ⟨_, PySem.W.kitx_dict, ⟨o, g1, g2.1⟩, fun z => nomatch z⟩
    | obj h1 h2 => cases h
    | adr _ => cases h
    | exc _ _ _ => cases h
  | o h =>
    cases dv with
    | @obj a C dx fs gs h1 h2 =>
      cases (show u = Value.ref a from rx)
      obtain ⟨mA, O, _⟩ := ins_getR I.hok h1
      obtain ⟨od, J, _⟩ := O.look
      exact ⟨_, PySem.W.kitx_own (h.cl.get _) h.cl.hd h.ha h.hn h.htk h.hm, J, fun z => nomatch z⟩
end
section
variable {X : Cx} {e : Expr} {te : ED} {pos p p2 : Pos}
theorem call_isiD {c : Value} {vc : V} (rc : ∀ u, RelV vc u → u = c) : CallR X (.builtin "isinstance") (fun xs H Q => ∃ x d t b, xs = [x, vc] ∧ Dv X.K H x d ∧ TyD X.K d t ∧ PySem.W.kitOne X.K t c = some b ∧ Q (.bl b) H) := by
  intro pins s σ H xs us Q I r h
  obtain ⟨x, d, t, b, rfl, dv, ty, e, q⟩ := h
  obtain ⟨u, w', rfl, r1, r2⟩ := vals2 r
  obtain rfl := rc w' r2
  obtain ⟨Hh, Z, hh, hx⟩ := isi_run I r1 dv ty
  exact PySem.W.kia_one Z I.kIn hh e hx fun tk => ⟨.bl b, H, I.tok _, rfl, q⟩
def vIsi (K : PySem.W.Frag) (c : Value) (te : ED) : ED := fun δ Q => te δ fun d => ∃ t b, TyD K d t ∧ PySem.W.kitOne K t c = some b ∧ Q (.bl b)
theorem d_isi_of {c : Value} {vc : V} (he : PD X e te) {ec : Expr} (hp : PE X (.Call (.Name "isinstance" p) [e, ec] [] pos) (tCB (fun xs H Q => ∃ x d t b, xs = [x, vc] ∧ Dv X.K H x d ∧ TyD X.K d t ∧ PySem.W.kitOne X.K t c = some b ∧ Q (.bl b) H) (tCons (oE X.K te) (tCons (tC vc) tNil)))) :
    PD X (.Call (.Name "isinstance" p) [e, ec] [] pos) (vIsi X.K c te) :=
  ⟨hp.imp fun σ H Q ⟨δ, r, h⟩ => ⟨δ, r, he.mono _ _ _ (fun d ⟨t, b, ty, ek, k⟩ v H1 s1 dv => ⟨v, d, t, b, rfl, dv, ty, ek, k _ H1 s1 (.bl _)⟩) h⟩, fun δ P P' g h => he.mono _ _ _ (fun d ⟨t, b, ty, ek, k⟩ => ⟨t, b, ty, ek, g _ k⟩) h⟩
theorem d_isiT {T : String} {x : Str} (he : PD X e te) (hg : Gl X "isinstance") (hm : X.mg "isinstance" = none) (hg2 : Gl X x) (hm2 : X.mg x = none) (hv2 : bootBuiltins x = some (.type T)) (hn : x ≠ "__name__" := by decide) (hd : (x == ("__debug__" : Str)) = false := by decide)
    (hs : starEach [e, .Name x p2] X.env = (false, eval e X.env) :: starEach [.Name x p2] X.env := by rfl) : PD X (.Call (.Name "isinstance" p) [e, .Name x p2] [] pos) (vIsi X.K (.type T) te) :=
  d_isi_of (vc := .ty T) he (pe_callB (call_isiD fun u z => z) hg hm boot_isinstance (pa_cons he.pe (pa_cons (pe_bltn (v := .ty T) hg2 hm2 hv2 rfl hn hd) pa_nil) hs) (he := hs))
theorem d_isiC {C : Addr} {x : Str} (he : PD X e te) (hg : Gl X "isinstance") (hm : X.mg "isinstance" = none) (hg2 : Gl X x) (hm2 : X.mg x = some (.ref C)) (hd : (x == ("__debug__" : Str)) = false := by decide)
    (hs : starEach [e, .Name x p2] X.env = (false, eval e X.env) :: starEach [.Name x p2] X.env := by rfl) : PD X (.Call (.Name "isinstance" p) [e, .Name x p2] [] pos) (vIsi X.K (.ref C) te) :=
  d_isi_of (vc := .ref C) he (pe_callB (call_isiD fun u z => z) hg hm boot_isinstance (pa_cons he.pe (pa_cons (pe_glob (v := .ref C) hg2 hm2 rfl hd) pa_nil) hs) (he := hs))
end
def isiT (T : String) (d : D) : Option Bool := (kindD d).map fun k => k == T || (k == "bool" && T == "int")
theorem kit_tbl {K : PySem.W.Frag} {d : D} {k T : String} (hk : kindD d = some k) (hT : T ∈ ["bool", "int", "str", "list", "tuple", "dict"]) : PySem.W.kitOne K (.type k) (.type T) = some (k == T || (k == "bool" && T == "int")) := by
  have hk' : k ∈ ["NoneType", "bool", "int", "str", "list", "tuple", "dict"] := by cases d <;> cases hk <;> simp
  simp only [List.mem_cons, List.not_mem_nil, or_false] at hk' hT
  rcases hk' with rfl | rfl | rfl | rfl | rfl | rfl | rfl <;> rcases hT with rfl | rfl | rfl | rfl | rfl | rfl <;> kernel_rfl
def vIsiT (T : String) (te : ED) : ED := fun δ Q => te δ fun d => ∃ b, isiT T d = some b ∧ Q (.bl b)
theorem PD.isiT {X : Cx} {e : Expr} {te : ED} {T : String} (h : PD X e (vIsi X.K (.type T) te)) (m : MonoE te) (hT : T ∈ ["bool", "int", "str", "list", "tuple", "dict"]) : PD X e (vIsiT T te) :=
  ⟨h.pe.imp fun σ H Q ⟨δ, r, q⟩ => ⟨δ, r, m _ _ _ (fun d ⟨b, eb, k⟩ => by
      unfold DC.isiT at eb
      cases hk : kindD d with
      | none => rw [hk] at eb; cases eb
      | some kk =>
        rw [hk] at eb
        have e1 : (kk == T || (kk == "bool" && T == "int")) = b := by simpa using eb
        exact ⟨_, b, .k hk, by rw [kit_tbl hk hT, e1], k⟩) q⟩, fun δ P P' g q => m _ _ _ (fun d ⟨b, eb, k⟩ => ⟨b, eb, g _ k⟩) q⟩
def lenD : D → Option Int
  | .str x => if x.length ≤ sizeLine then some x.length else none
  | .lst xs => some xs.length
  | .tup xs => some xs.length
  | _ => none
def sdLen : SpD := fun ds Q => ∃ d n, ds = [d] ∧ lenD d = some n ∧ Q (.int n)
theorem m_len : MonoS sdLen := fun ds P P' g ⟨d, n, e, h, q⟩ => ⟨d, n, e, h, g _ q⟩
theorem does_len {K : PySem.W.Frag} : DoesB K (fun xs H Q => ∃ x n, xs = [x] ∧ LenV K x H n ∧ Q (.int n) H) sdLen := by
  intro H vs ds Q dvs ⟨d, n, e, h, q⟩
  subst e
  cases dvs with
  | cons dv r =>
    cases r
    cases dv with
    | str x =>
      have h' : (if x.length ≤ sizeLine then some (x.length : Int) else none) = some n := h
      by_cases hz : x.length ≤ sizeLine
      · rw [if_pos hz] at h'
        cases h'
        exact ⟨_, x.length, rfl, ⟨hz, rfl⟩, q _ H (Same.refl _) (.int _)⟩
      · rw [if_neg hz] at h'
        cases h'
    | lst h1 h2 => cases h; exact ⟨_, _, rfl, .inl ⟨_, h1, rfl⟩, by rw [h2.length]; exact q _ H (Same.refl _) (.int _)⟩
    | tup h1 h2 => cases h; exact ⟨_, _, rfl, .inr ⟨_, h1, rfl⟩, by rw [h2.length]; exact q _ H (Same.refl _) (.int _)⟩
    | _ => cases h
section
variable {X : Cx} {e : Expr} {es : List Expr} {t : AD} {pos p : Pos}
theorem d_len (hg : Gl X "len") (hm : X.mg "len" = none) (ha : PAd X (e :: es) t) (h1 : starEach (e :: es) X.env = (false, eval e X.env) :: starEach es X.env := by rfl) (h2 : (backTo pos (starEach es X.env)).any (·.1) = false := by rfl) :
    PD X (.Call (.Name "len" p) (e :: es) [] pos) (vB sdLen t) := d_cb (pe_callB call_len hg hm PySem.boot_len ha.pa (he := h1) (hpl := h2)) ha.mono does_len m_len
def sdStr : SpD := fun ds Q => ∃ i : Int, ds = [.int i] ∧ i.natAbs.log2 < 1920 ∧ Q (.str (toString i))
theorem m_str : MonoS sdStr := fun ds P P' g ⟨i, e, h, q⟩ => ⟨i, e, h, g _ q⟩
theorem does_str {K : PySem.W.Frag} : DoesB K (fun xs H Q => ∃ i, xs = [.int i] ∧ i.natAbs.log2 < 1920 ∧ Q (.str (toString i)) H) sdStr := by
  intro H vs ds Q dvs ⟨i, e, h, q⟩
  subst e
  cases dvs with
  | cons dv r => cases r; cases dv; exact ⟨i, rfl, h, q _ H (Same.refl _) (.str _)⟩
theorem boot_str : bootBuiltins "str" = some (.type "str") := by decide +kernel
theorem boot_intT : bootBuiltins "int" = some (.type "int") := by decide +kernel
theorem boot_boolT : bootBuiltins "bool" = some (.type "bool") := by decide +kernel
theorem boot_tuple : bootBuiltins "tuple" = some (.type "tuple") := by decide +kernel
theorem boot_list : bootBuiltins "list" = some (.type "list") := by decide +kernel
theorem boot_allB : bootBuiltins "all" = some (.builtin "all") := by decide +kernel
theorem d_str_of (hg : Gl X "str") (hm : X.mg "str" = none) (ha : PAd X (e :: es) t) (h1 : starEach (e :: es) X.env = (false, eval e X.env) :: starEach es X.env := by rfl) (h2 : (backTo pos (starEach es X.env)).any (·.1) = false := by rfl) : PD X (.Call (.Name "str" p) (e :: es) [] pos) (vB sdStr t) := d_cb (pe_callTy call_str_int hg hm boot_str ha.pa (he := h1) (hpl := h2)) ha.mono does_str m_str
def sdInt : SpD := fun ds Q => (∃ i, ds = [.int i] ∧ Q (.int i)) ∨ ∃ k : Bool, ds = [.bl k] ∧ Q (.int (if k then 1 else 0))
theorem m_int : MonoS sdInt := fun ds P P' g h => h.elim (fun ⟨i, e, q⟩ => .inl ⟨i, e, g _ q⟩) fun ⟨k, e, q⟩ => .inr ⟨k, e, g _ q⟩
theorem does_int {K : PySem.W.Frag} : DoesB K (fun xs H Q => (∃ i, xs = [.int i] ∧ Q (.int i) H) ∨ ∃ k, xs = [.bl k] ∧ Q (.int (if k then 1 else 0)) H) sdInt := by
  intro H vs ds Q dvs h
  rcases h with ⟨i, e, q⟩ | ⟨k, e, q⟩
  · subst e
    cases dvs with
    | cons dv r => cases r; cases dv; exact .inl ⟨i, rfl, q _ H (Same.refl _) (.int _)⟩
  · subst e
    cases dvs with
    | cons dv r => cases r; cases dv; exact .inr ⟨k, rfl, q _ H (Same.refl _) (.int _)⟩
theorem d_int_of (hg : Gl X "int") (hm : X.mg "int" = none) (ha : PAd X (e :: es) t) (h1 : starEach (e :: es) X.env = (false, eval e X.env) :: starEach es X.env := by rfl) (h2 : (backTo pos (starEach es X.env)).any (·.1) = false := by rfl) : PD X (.Call (.Name "int" p) (e :: es) [] pos) (vB sdInt t) := d_cb (pe_callTy call_int1 hg hm boot_intT ha.pa (he := h1) (hpl := h2)) ha.mono does_int m_int
def sdAll : SpD := fun ds Q => ∃ (bs : List Bool), ds = [.lst (bs.map D.bl)] ∧ Q (.bl (bs.all id))
theorem m_all : MonoS sdAll := fun ds P P' g ⟨bs, e, q⟩ => ⟨bs, e, g _ q⟩
theorem vals_bl {K : PySem.W.Frag} {H : Hp} : ∀ {vs : List V} {bs : List Bool}, Dvs K H vs (bs.map D.bl) → vs = bs.map V.bl
  | [], [], _ => rfl
  | _, _ :: _, .cons (.bl _) r => by rw [vals_bl r]; rfl
theorem does_all {K : PySem.W.Frag} {A : Around} (hh : A.handled = none) : DoesB K (fun xs H Q => ∃ (p : Addr) (bs : List Bool), xs = [.ref p] ∧ A.handled = none ∧ SqL K H p (bs.map V.bl) ∧ Q (.bl (bs.all id)) H) sdAll := by
  intro H vs ds Q dvs ⟨bs, e, q⟩
  subst e
  cases dvs with
  | cons dv r =>
    cases r
    cases dv with
    | lst h1 h2 =>
      rw [vals_bl h2] at h1
      exact ⟨_, bs, rfl, hh, h1, q _ H (Same.refl _) (.bl _)⟩
theorem d_all (hh : X.A.handled = none) (hg : Gl X "all") (hm : X.mg "all" = none) (ha : PAd X (e :: es) t) (h1 : starEach (e :: es) X.env = (false, eval e X.env) :: starEach es X.env := by rfl) (h2 : (backTo pos (starEach es X.env)).any (·.1) = false := by rfl) : PD X (.Call (.Name "all" p) (e :: es) [] pos) (vB sdAll t) := d_cb (pe_callB call_all hg hm boot_allB ha.pa (he := h1) (hpl := h2)) ha.mono (does_all hh) m_all
end
end DC

set_option maxHeartbeats 4000000
namespace DC
open PySem PySem.Spec PyProof.Rows L2
structure MOk (X : Cx) (C : Addr) (m : Str) (sd : SpD) (dd : List D) (k : Nat) (f : Addr) (fd : FuncData) (ps : List Str) (dvs : List V) (ds : List Value) : Prop where
  cls : Cls X.K C
  meth : Meth X.K C m f
  fn : FnOk X.prog X.w X.K X.mg X.base CX0 k f fd ps (spOf X.K sd)
  mono : MonoS sd
  room : Room k X.A
  binds : Binds X.K fd ps ds
  vals : Vals dvs ds
  dflt : ∀ H, Dvs X.K H dvs dd
structure MH (X : Cx) (C : Addr) (m : Str) (sd : SpD) (dd : List D) : Prop where
  ex : ∃ k f fd ps dvs ds, MOk X C m sd dd k f fd ps dvs ds
def vMeth (ok : Addr → Prop) (m : Str) (sd : Addr → SpD) (dd : List D) (ta : ED) (t : AD) : ED := fun δ Q => ta δ fun d => ∃ C gs, d = .obj C gs ∧ gs.lookup m = none ∧ ok C ∧ t δ fun ds => sd C (d :: (ds ++ dd)) Q
section
variable {X : Cx} {ok : Addr → Prop} {o e : Expr} {es : List Expr} {m : Str} {sd : Addr → SpD} {dd : List D} {ta : ED} {t : AD} {pos apos : Pos}
def tMethD (X : Cx) (m : Str) (sd : Addr → SpD) (dd : List D) (ta : TE) (t : TA) : TE := fun σ H Q => ta σ H fun x H1 => ∃ a C dx fs, x = .ref a ∧ Rd H1 a (.ins C dx fs) ∧ fs.lookup m = none ∧ MH X C m (sd C) dd ∧
  ∀ dvs, (∀ H, Dvs X.K H dvs dd) → t σ H1 fun vs H2 => spOf X.K (sd C) (x :: (vs ++ dvs)) H2 Q E0
theorem pe_methD0 {ta : TE} {pl : Sem Bool} (he : PE X o ta)
    (ht : eval (.Call (.Attribute o m apos) [] [] pos) X.env = (do
      let ov ← eval o X.env
      standAt apos.atName
      let (f, first) ← holding [ov] (getMethod ov m pl)
      callWith pos f first (backTo pos (starEach [] X.env)) (backToKw pos (keywordEach [] X.env))) := by rfl) :
    PE X (.Call (.Attribute o m apos) [] [] pos) (tMethD X m sd dd ta tNil) := by
  intro pins s σ H Q I h
  refine PySem.W.methodCall_KW (pl := pl) (thn (he pins s σ H _ I h) fun u s1 ⟨x, H1, I1, rx, a, C, dx, fs, ex, ea, l, ⟨k, f, fd, ps, dvs, ds, M⟩, q⟩ => ?_) ht
  subst ex
  obtain rfl : u = Value.ref a := rx
  refine getmeth_okR I1 ea M.cls M.meth l ?_
  exact PySem.W.callWith_K0 (first := [.ref a]) I1.kIn M.meth.kp (run_fn (us := [.ref a]) (vs := [.ref a]) M.fn M.room M.binds M.vals pass0 I1 (.cons rfl .nil) (q dvs M.dflt))
theorem m_meth (hM : ∀ C, ok C → MH X C m (sd C) dd) (ma : MonoE ta) (mt : MonoA t) : MonoE (vMeth ok m sd dd ta t) := fun δ P P' g h => ma _ _ _ (fun d ⟨C, gs, e, l, M, q⟩ => ⟨C, gs, e, l, M, mt _ _ _ (fun ds k => by
  obtain ⟨_, _, _, _, _, _, M'⟩ := hM C M
  exact M'.mono _ _ _ g k) q⟩) h
theorem meth_of (hM : ∀ C, ok C → MH X C m (sd C) dd) (ma : MonoE ta) (mt : MonoA t) {σ : L2.St} {H : Hp} {Q : VK} (h : oE X.K (vMeth ok m sd dd ta t) σ H Q) : tMethD X m sd dd (oE X.K ta) (oA X.K t) σ H Q := by
  obtain ⟨δ, r, h⟩ := h
  refine ⟨δ, r, ma _ _ _ (fun d ⟨C, gs, ed, l, M, q⟩ v H1 s1 dv => ?_) h⟩
  subst ed
  cases dv with
  | @obj a C dx fs gs h1 h2 =>
    refine ⟨_, C, dx, fs, rfl, h1, h2.none l, hM C M, fun dvs hd => ⟨δ, r.same s1, mt _ _ _ (fun ds k vs H2 s2 dvs' => ?_) q⟩⟩
    obtain ⟨_, _, _, _, _, _, M'⟩ := hM C M
    exact ⟨_, .cons (Dv.same s2 (.obj h1 h2)) (dvs'.append (hd H2)), M'.mono _ _ _ (fun d k => k.on (s1.trans s2)) k⟩
theorem d_meth0 {pl : Sem Bool} (hM : ∀ C, ok C → MH X C m (sd C) dd) (he : PD X o ta)
    (ht : eval (.Call (.Attribute o m apos) [] [] pos) X.env = (do
      let ov ← eval o X.env
      standAt apos.atName
      let (f, first) ← holding [ov] (getMethod ov m pl)
      callWith pos f first (backTo pos (starEach [] X.env)) (backToKw pos (keywordEach [] X.env))) := by rfl) :
    PD X (.Call (.Attribute o m apos) [] [] pos) (vMeth ok m sd dd ta aNil) :=
  ⟨(pe_methD0 he.pe ht).imp fun σ H Q h => by
      have q := meth_of (t := aNil) hM he.mono (fun δ P P' g h => g _ h) h
      obtain ⟨δ, r, h'⟩ := q
      refine ⟨δ, r, he.mono _ _ _ (fun d k v H1 s1 dv => ?_) h'⟩
      obtain ⟨a, C, dx, fs, e1, e2, l, M, z⟩ := k v H1 s1 dv
      refine ⟨a, C, dx, fs, e1, e2, l, M, fun dvs hd => ?_⟩
      obtain ⟨δ', r', z'⟩ := z dvs hd
      exact z' [] H1 (Same.refl _) .nil, m_meth hM he.mono fun δ P P' g h => g _ h⟩
end
end DC

set_option maxHeartbeats 4000000
namespace DC
open PySem PySem.Spec PyProof.Rows L2
abbrev FD := List (Str × D)
structure EndsI where
  nx : SD → FD → Prop
  rt : FD → Prop
  fin : FD → Prop
abbrev TID := EndsI → SD → FD → Prop
structure EndsI.Le (E E' : EndsI) : Prop where
  nx : ∀ δ gs, E.nx δ gs → E'.nx δ gs
  rt : ∀ gs, E.rt gs → E'.rt gs
  fin : ∀ gs, E.fin gs → E'.fin gs
abbrev MonoI (t : TID) : Prop := ∀ E E' δ gs, EndsI.Le E E' → t E δ gs → t E' δ gs
def putD (f : Str) (d : D) : FD → FD
  | [] => [(f, d)]
  | (g, e) :: r => if g = f then (g, d) :: r else (g, e) :: putD f d r
structure AtI (K : PySem.W.Frag) (C a dx : Addr) (H : Hp) (gs : FD) : Prop where
  ex : ∃ fs, H a = some (.ins C dx fs) ∧ Dvf K (hid H a dx) fs gs
  ne : dx ≠ a
def endI (K : PySem.W.Frag) (C a dx : Addr) (H : Hp) (D : Ends) : EndsI :=
  ⟨fun δ gs => ∀ σ H', Same (hid H a dx) (hid H' a dx) → RelS K (hid H' a dx) σ δ → AtI K C a dx H' gs → D.nx σ H', fun gs => ∀ H', Same (hid H a dx) (hid H' a dx) → AtI K C a dx H' gs → D.rt .non H', fun gs => ∀ σ H', Same (hid H a dx) (hid H' a dx) → AtI K C a dx H' gs → D.nx σ H'⟩
def oI (K : PySem.W.Frag) (C : Addr) (t : Addr → TID) : TS := fun D σ H => ∃ a dx δ gs, RelS K (hid H a dx) σ δ ∧ AtI K C a dx H gs ∧ t a (endI K C a dx H D) δ gs
structure PIs (X : Cx) (C : Addr) (st : List Stmt) (t : Addr → TID) : Prop where
  ps : PSs X st (oI X.K C t)
  mono : ∀ a, MonoI (t a)
structure PIn (X : Cx) (C : Addr) (st : Stmt) (t : Addr → TID) : Prop where
  ps : PS X st (oI X.K C t)
  mono : ∀ a, MonoI (t a)
section
variable {X : Cx} {C : Addr} {st : Stmt} {rest : List Stmt} {t u : Addr → TID} {e : Expr} {te : ED} {pos pos' p : Pos} {f : Str}
theorem endI_on {K : PySem.W.Frag} {a dx : Addr} {H H1 : Hp} {D : Ends} (s : Same (hid H a dx) (hid H1 a dx)) : EndsI.Le (endI K C a dx H D) (endI K C a dx H1 D) :=
  ⟨fun _ _ h σ H' s' r g => h σ H' (s.trans s') r g, fun _ h H' s' g => h H' (s.trans s') g, fun _ h σ H' s' g => h σ H' (s.trans s') g⟩
def iSeq (t u : Addr → TID) : Addr → TID := fun a E δ gs => t a { nx := u a E, rt := E.rt, fin := fun _ => False } δ gs
theorem i_cons (h1 : PIn X C st t) (h2 : PIs X C rest u) : PIs X C (st :: rest) (iSeq t u) :=
  ⟨PSs.imp (pss_cons h1.ps h2.ps) fun D σ H ⟨a, dx, δ, gs, r, g, h⟩ => ⟨a, dx, δ, gs, r, g, h1.mono a { nx := u a (endI X.K C a dx H D), rt := (endI X.K C a dx H D).rt, fin := fun _ => False } _ _ _
     ⟨fun δ' gs' q σ' H' s' r' g' => ⟨a, dx, δ', gs', r', g', h2.mono a _ _ _ _ (endI_on s') q⟩, fun gs' q => q, fun gs' q => q.elim⟩ h⟩,
   fun a E E' δ gs l h => h1.mono a { nx := u a E, rt := E.rt, fin := fun _ => False } _ _ _ ⟨fun δ' gs' q => h2.mono a _ _ _ _ l q, l.rt, fun _ q => q.elim⟩ h⟩
def iRest (C : Addr) (t : TSD) : Addr → TID := fun a E δ gs => t { nx := fun _ => E.fin gs, rt := fun d => d = .non ∧ E.rt gs } (δ.set 0 (some (.obj C gs)))
def iEnd : Addr → TID := fun a E δ gs => E.fin gs
theorem i_nil : PIs X C [] iEnd := ⟨PSs.imp pss_nil fun D σ H ⟨a, dx, δ, gs, r, g, h⟩ => h σ H (Same.refl _) g, fun a E E' δ gs l h => l.fin _ h⟩
def iFree (t : TSD) : Addr → TID := fun a E δ gs => t { nx := fun δ' => E.nx δ' gs, rt := fun d => d = .non ∧ E.rt gs } δ
theorem i_free {t : TSD} (h : PSd X st t) : PIn X C st (iFree t) := by
  refine ⟨PS.imp (ps_frameO h.ps) fun D σ H ⟨a, dx, δ, gs, r, ⟨⟨fs, ha, hf⟩, ne⟩, q⟩ => ⟨a, dx, C, fs, ha, δ, r, ?_⟩, fun a E E' δ gs l q => h.mono { nx := fun δ' => E.nx δ' gs, rt := fun d => d = .non ∧ E.rt gs } _ _ ⟨fun δ' k => l.nx _ _ k, fun d k => ⟨k.1, l.rt _ k.2⟩, fun _ k => k, fun _ k => k⟩ q⟩
  refine h.mono { nx := fun δ' => (endI X.K C a dx H D).nx δ' gs, rt := fun d => d = .non ∧ (endI X.K C a dx H D).rt gs } _ _ ⟨fun δ' k σ' H' s' r' z1 z2 _ => ?_, fun d k v H' s' dv z1 z2 _ => ?_, fun _ k => k.elim, fun _ k => k.elim⟩ q
  · have hs : hid (shown H' a dx C fs) a dx = H' := hid_shown z1 z2
    exact k σ' _ (by rw [hs]; exact s') (by rw [hs]; exact r') ⟨⟨fs, shown_a, by rw [hs]; exact Dvf.same s' hf⟩, ne⟩
  · have hs : hid (shown H' a dx C fs) a dx = H' := hid_shown z1 z2
    obtain ⟨e, k⟩ := k
    subst e
    cases dv
    exact k _ (by rw [hs]; exact s') ⟨⟨fs, shown_a, by rw [hs]; exact Dvf.same s' hf⟩, ne⟩
theorem Dvf.put {K : PySem.W.Frag} {H : Hp} {v : V} {d : D} (dv : Dv K H v d) : ∀ {fs : List (Str × V)} {gs : FD}, Dvf K H fs gs → Dvf K H (putF f v fs) (putD f d gs)
  | _, _, .nil => .cons dv .nil
  | _, _, .cons (k := k) h r => by
    unfold putF putD
    by_cases q : k = f
    · rw [if_pos q, if_pos q]; exact .cons dv r
    · rw [if_neg q, if_neg q]; exact .cons h (Dvf.put dv r)
theorem Dvf.length {K : PySem.W.Frag} {H : Hp} : ∀ {fs : List (Str × V)} {gs : FD}, Dvf K H fs gs → fs.length = gs.length
  | _, _, .nil => rfl
  | _, _, .cons _ r => congrArg (· + 1) (Dvf.length r)
def iSet (K : PySem.W.Frag) (C : Addr) (f : Str) (te : ED) : Addr → TID := fun a E δ gs => te δ fun d => δ[0]? = some (some (.adr a)) ∧ Cls K C ∧ NoAttr K C f ∧ gs.length < 1000 ∧ E.nx δ (putD f d gs)
theorem i_set {x : Str} (hN : X.N[0]? = some x) (hv : Vis X.env.scope x) (he : PD X e te) (hs : swapsWith e (some (.Attribute (.Name x p) f pos')) pos.line X.env = pure false := by rfl) (hd : (x == ("__debug__" : Str)) = false := by decide)
    (hcd : (x == ("__classdict__" : Str)) = false := by decide) : PIn X C (.Assign [.Attribute (.Name x p) f pos'] e pos) (iSet X.K C f te) := by
  refine ⟨PS.imp (ps_fld (pe_var hN hv hd hcd) (pe_frameO he.pe) hs) fun D σ H ⟨a, dx, δ, gs, r, ⟨⟨fs, ha, hf⟩, ne⟩, q⟩ => ⟨a, dx, C, fs, ha, δ, r, ?_⟩, fun a E E' δ gs l q => he.mono _ _ _ (fun d ⟨k0, k1, k2, k3, k⟩ => ⟨k0, k1, k2, k3, l.nx _ _ k⟩) q⟩
  refine he.mono _ _ _ (fun d ⟨k0, k1, k2, k3, k⟩ v H' s' dv z1 z2 _ => ?_) q
  obtain ⟨w, hw, dw⟩ := r.get 0 _ k0
  cases dw
  refine ⟨_, hw, a, C, dx, fs, rfl, shown_a, k1, k2, by rw [hf.length]; exact k3, ?_⟩
  rw [upd_shown]
  have hs : hid (shown H' a dx C (putF f v fs)) a dx = H' := hid_shown z1 z2
  exact k σ _ (by rw [hs]; exact s') (by rw [hs]; exact r.same s') ⟨⟨_, shown_a, by rw [hs]; exact (Dvf.same s' hf).put dv⟩, ne⟩
theorem hid_same {H : Hp} {a dx : Addr} : Same (hid H a dx) H := fun b o h => by
  unfold hid at h
  split at h
  · cases h
  · exact h
theorem AtI.dv {K : PySem.W.Frag} {a dx : Addr} {H : Hp} {gs : FD} (g : AtI K C a dx H gs) : Dv K H (.ref a) (.obj C gs) := by
  obtain ⟨⟨fs, h, hf⟩, _⟩ := g
  exact .obj (.of h) (Dvf.same hid_same hf)
theorem AtI.on {K : PySem.W.Frag} {a dx : Addr} {H H' : Hp} {gs : FD} (g : AtI K C a dx H gs) (s : Same H H') : AtI K C a dx H' gs := by
  obtain ⟨⟨fs, h, hf⟩, ne⟩ := g
  refine ⟨⟨fs, s _ _ h, Dvf.same (fun b o q => ?_) hf⟩, ne⟩
  unfold hid at q ⊢
  split at q
  · cases q
  · rename_i z; rw [if_neg z]; exact s _ _ q
theorem same_hid {H H' : Hp} {a dx : Addr} (s : Same H H') : Same (hid H a dx) (hid H' a dx) := fun b o q => by
  unfold hid at q ⊢
  split at q
  · cases q
  · rename_i z; rw [if_neg z]; exact s _ _ q
theorem i_rest {t : TSD} (h : PSsd X rest t) : PIs X C rest (fun a E δ gs => δ[0]? = some (some (.adr a)) ∧ iRest C t a E δ gs) := by
  refine ⟨PSs.imp h.ps fun D σ H ⟨a, dx, δ, gs, r, g, k0, q⟩ => ⟨δ.set 0 (some (.obj C gs)), ?_, ?_⟩, fun a E E' δ gs l ⟨k0, q⟩ => ⟨k0, h.mono { nx := fun _ => E.fin gs, rt := fun d => d = .non ∧ E.rt gs } _ _ ⟨fun δ' k => l.fin _ k, fun d k => ⟨k.1, l.rt _ k.2⟩, fun _ k => k, fun _ k => k⟩ q⟩⟩
  · obtain ⟨w, hw, dw⟩ := r.get 0 _ k0
    cases dw
    have z := (r.same hid_same).set 0 g.dv
    rw [show σ.set 0 (some (.ref a)) = σ from by
      refine List.ext_getElem? fun i => ?_
      rw [List.getElem?_set]
      split
      · rename_i q2
        subst q2
        split
        · exact hw.symm
        · rename_i q3
          rw [List.getElem?_eq_none (by omega)] at hw
          cases hw
      · rfl] at z
    exact z
  · refine h.mono { nx := fun _ => (endI X.K C a dx H D).fin gs, rt := fun d => d = .non ∧ (endI X.K C a dx H D).rt gs } _ _ ⟨fun δ' k σ' H' s' r' => k σ' H' (same_hid s') (g.on s'), fun d k v H' s' dv => ?_, fun _ k => k.elim, fun _ k => k.elim⟩ q
    obtain ⟨e, k⟩ := k
    subst e
    cases dv
    exact k H' (same_hid s') (g.on s')
end
abbrev SpI := List D → (FD → Prop) → Prop
abbrev MonoSI (sd : SpI) : Prop := ∀ ds (P P' : FD → Prop), (∀ d, P d → P' d) → sd ds P → sd ds P'
def spI (K : PySem.W.Frag) (C : Addr) (sd : SpI) : Sp := fun vs H Q _ => ∃ a dx vs' ds, vs = .ref a :: vs' ∧ AtI K C a dx H [] ∧ Dvs K (hid H a dx) vs' ds ∧ sd ds fun gs => ∀ H', Same (hid H a dx) (hid H' a dx) → AtI K C a dx H' gs → Q .non H'
section
variable {P : Program} {w : World} {K : PySem.W.Frag} {mg : Str → Option Value} {base : Heap}
structure FunV (K : PySem.W.Frag) (x qual : Str) (st : Stmt) (f : Addr) (fd : FuncData) : Prop where
  ex : ∃ (oc : Value) (od : Option Addr) (dV kV doc pm : Value) (an : Option Addr) (cdv ct : Value) (osl : Array (Option Value)),
    fd = PySem.W.fnOf x qual (defArgs st) (defBody st) (defScope st) dV kV doc pm an cdv ct ∧ K.lookup f = some ⟨oc, od, .func fd, osl⟩ ∧ PySem.W.codeIn K cdv qual = true
  kp : PySem.W.keepIn K (.ref f) = true
theorem FunV.ok {P : Program} {w : World} {K : PySem.W.Frag} {mg : Str → Option Value} {base : Heap} {x qual : Str} {st : Stmt} {f : Addr} {fd : FuncData} {N ps : List Str} {k : Nat} {sp : Sp} (F : FunV K x qual st f fd) (S : FnScope N ps (defScope st)) (len : ∀ vs H Q E, sp vs H Q E → vs.length = ps.length)
    (hbody : ∀ (cdv : Value) (A : Around) (outer : List Env) (s : Shared) (H : Hp) (vs : List V) (Q : VK) (E : XK), Room k (A.deeper (envOfC qual (defScope st) s.heap.objs.size f cdv)) → sp vs H Q E →
      ∃ t, PSs (cxOf CX0 P w K mg base N qual (defScope st) f cdv A outer s H E).nox (defBody st) t ∧ t { nx := fun _ H' => Q .non H', rt := Q } (L2.start N vs) H) : FnOk P w K mg base CX0 (k + 1) f fd ps sp := by
  obtain ⟨oc, od, dV, kV, doc, pm, an, cdv, ct, osl, rfl, lk, hcd⟩ := F.ex
  refine fn_of lk hcd S len fun A outer s H vs Q E hr hsp => ?_
  obtain ⟨t, h, q⟩ := hbody cdv A outer s H vs Q E hr hsp
  exact ⟨t, h.nox, q⟩
theorem okI {x qual : Str} {st : Stmt} {f C : Addr} {fd : FuncData} {N ps : List Str} {k : Nat} {sd : SpI} {t : Addr → TID} (F : FunV K x qual st f fd) (S : FnScope N ps (defScope st)) (len : ∀ ds Q, sd ds Q → ds.length + 1 = ps.length)
    (hb : ∀ (cdv : Value) (A : Around) (outer : List Env) (s : Shared) (H : Hp) (E : XK), Room k (A.deeper (envOfC qual (defScope st) s.heap.objs.size f cdv)) → PIs (Bx P w K mg base N qual st f cdv A outer s H E) C (defBody st) t)
    (hr : ∀ a ds Q, sd ds Q → t a { nx := fun _ => Q, rt := Q, fin := Q } (startD N (.adr a :: ds)) []) : FnOk P w K mg base CX0 (k + 1) f fd ps (spI K C sd) := by
  refine F.ok S (fun vs H Q E ⟨a, dx, vs', ds, e, g, dvs, h⟩ => by rw [e, List.length_cons, dvs.length]; exact len ds _ h) (fun cdv A outer s H vs Q E hroom ⟨a, dx, vs', ds, e, g, dvs, h⟩ => ?_)
  have B := hb cdv A outer s H E hroom
  subst e
  refine ⟨_, B.ps, a, dx, startD N (.adr a :: ds), [], start_rel (.cons (.adr a) dvs), g, ?_⟩
  let Q' : FD → Prop := fun gs => ∀ H', Same (hid H a dx) (hid H' a dx) → AtI K C a dx H' gs → Q .non H'
  exact B.mono a { nx := fun _ => Q', rt := Q', fin := Q' } _ _ _ ⟨fun δ gs q σ H' s' r' g' => q H' s' g', fun gs q H' s' g' => q H' s' g', fun gs q σ H' s' g' => q H' s' g'⟩ (hr a ds _ h)
end
section
variable {X : Cx} {C f : Addr} {fd : FuncData} {ps : List Str} {sd : SpI} {dd : List D} {dvs : List V} {dls : List Value} {k : Nat} {x : Str} {e : Expr} {es : List Expr} {t : AD} {p pos : Pos}
def vMake (C : Addr) (sd : SpI) (dd : List D) (t : AD) : ED := fun δ Q => t δ fun ds => sd (ds ++ dd) fun gs => Q (.obj C gs)
theorem d_make (M : Mk X.K C f) (F : FnOk X.prog X.w X.K X.mg X.base CX0 k f fd ps (spI X.K C sd)) (ms : MonoSI sd) (hr : Room (k + 1) X.A) (hg : Gl X x) (hm : X.mg x = some (.ref C)) (hb : Binds X.K fd ps dls) (hv : Vals dvs dls) (hd : ∀ H, Dvs X.K H dvs dd)
    (ha : PAd X (e :: es) t) (hdb : (x == ("__debug__" : Str)) = false := by decide) (he : starEach (e :: es) X.env = (false, eval e X.env) :: starEach es X.env := by rfl) (hpl : (backTo pos (starEach es X.env)).any (·.1) = false := by rfl) :
    PD X (.Call (.Name x p) (e :: es) [] pos) (vMake C sd dd t) := by
  refine ⟨(pe_make M F hr hg hm hb hv pass0 ha.pa hdb he hpl).imp fun σ H Q ⟨δ, r, h⟩ => ⟨δ, r, ha.mono _ _ _ (fun ds q vs H1 s1 dvs' y dx hy hdx ne => ?_) h⟩, fun δ P P' g h => ha.mono _ _ _ (fun ds q => ms _ _ _ (fun gs z => g _ z) q) h⟩
  have hs : hid (shown H1 y dx C []) y dx = H1 := hid_shown hy hdx
  refine ⟨y, dx, _, _, rfl, ⟨⟨[], shown_a, .nil⟩, ne⟩, ?_, ms _ _ _ (fun gs z H' s' g' => ⟨rfl, z _ H' ?_ g'.dv⟩) q⟩
  · show Dvs X.K (hid (shown H1 y dx C []) y dx) _ _
    rw [hs]
    exact dvs'.append (hd H1)
  · have s2 : Same (hid (shown H1 y dx C []) y dx) (hid H' y dx) := s'
    rw [hs] at s2
    exact s1.trans (s2.trans hid_same)
end
end DC

set_option maxHeartbeats 4000000
namespace L2
open PySem PySem.Spec PyProof.Rows
section
variable {X : Cx}
theorem ints_are {ns : List Int} : ∀ {us : List Value}, Vals (ns.map V.int) us → IntsAre us ns := by
  induction ns with
  | nil => intro us r; cases r; exact .nil
  | cons n ns ih =>
    intro us r
    cases r with
    | cons a r =>
      obtain ⟨t, e⟩ := a
      subst e
      exact .cons _ _ (ih r)
theorem call_sum : CallR X (.builtin "sum") (fun xs H Q => ∃ (p : Addr) (ns : List Int), xs = [.ref p] ∧ X.A.handled = none ∧ SqL X.K H p (ns.map V.int) ∧ Q (.int ns.sum) H) := by
  intro pins s σ H xs us Q I r h
  obtain ⟨p, ns, rfl, hh, hS, q⟩ := h
  obtain ⟨u, rfl, ru⟩ := vals1 r
  cases (show u = Value.ref p from ru)
  obtain ⟨its, rv, pl, _⟩ := I.list hS
  have hl := pl.isList
  have hi := ints_are rv
  obtain ⟨xs, hx⟩ := hi.allInts.items
  have hl' : s.heap.IsList p (intItems xs) := hx ▸ hl
  refine sum_intListG hh hl' fun h' tk t' hk => ?_
  have e1 : ns = xs.toList.map (·.1) := by
    rw [← nums_intItems, ← hx]
    exact (show numsOf its.toArray.toList = ns from hi.numsOf).symm
  have e2 : preSum (numAt xs) xs.size = ns.sum := by
    rw [preSum_eq, List.take_of_length_le (by simp), e1]
  rw [e2]
  exact ⟨.int ns.sum, H, I.kept hk, ⟨_, rfl⟩, q⟩
end
section
variable {prog : Program} {w : World} {A : Around} {R : Result → Shared → Prop} {I : Addr} {fp wr : List Addr} {n : Nat} {P : Nat → Value → Prop} {St : Nat → Heap → Prop} {E : Value → Shared → Prop} {s : Shared} {Q : Value → Shared → Prop}
abbrev bestAt (S : Addr) (items : Array Value) (h : Heap) : Prop := ∃ c, h.get? S = some { cls := .type "list", dict := none, data := .seq items c, slots := #[] }
theorem maxLoopK {kw : List (Str × Value)} (W : Walks prog w A.in1 I fp wr n P St) (bt : Nat → Nat → Bool) (hcmp : CmpOf prog w A.in1 .Gt P bt) (S : Addr) (hSf : S ∉ fp) :
    ∀ (k j : Nat) (s : Shared) (vb : Value), j + 1 + k = n → St (j + 1) s.heap → P (argBest bt j) vb → bestAt S #[vb, vb] s.heap →
    (∀ v h' tk, P (argBest bt (n - 1)) v → (∀ b o, b ∉ wr → b ≠ S → s.heap.get? b = some o → h'.get? b = some o) → R (.ok (.ret v)) { s with heap := h', toks := tk }) →
    codeAny (model prog w) A (.builtin "max.loop" ⟨[.ref I, .none, .ref S], kw⟩) R s := by
  have hSw : S ∉ wr := fun h => hSf (W.sub _ h)
  have hname : (toString "max" ++ toString ".loop" : String) = "max.loop" := by decide
  intro k
  induction k with
  | zero =>
    intro j s vb hj hst hP ⟨c, hS⟩ hR
    refine codeAny_builtin F.entry_max_loop ?_
    rw [Around.under_plainId F.plain_max_loop _]
    show wpAny _ A.in1 (seqItems? (.ref S) >>= _) _ _ s
    refine wpAny_bind (wpAny_seqItems hS rfl ?_)
    show wpAny _ A.in1 (tryCatch (pyNext (.ref I)) _ >>= _) _ _ s
    refine wpAny_bind (wpAny_tryCatch (W.done s _ _ ((show j + 1 = n by omega) ▸ hst) fun h' tk hk => ?_))
    show wpAny _ A.in1 (updateSeq S (fun _ => #[]) >>= _) _ _ _
    refine wpAny_bind (wpAny_updateSeq (hk S _ hSw hS) rfl (wpAny_bind (wpAny_letGo (wpAny_pure ?_))))
    exact hR vb _ tk (by rw [show n - 1 = j by omega]; exact hP) fun b o h1 h2 e => (Heap.get?_update_other _ _ (Ne.symm h2)).trans (hk b o h1 e)
  | succ k ih =>
    intro j s vb hj hst hP ⟨c, hS⟩ hR
    refine codeAny_builtin F.entry_max_loop ?_
    rw [Around.under_plainId F.plain_max_loop _]
    show wpAny _ A.in1 (seqItems? (.ref S) >>= _) _ _ s
    refine wpAny_bind (wpAny_seqItems hS rfl ?_)
    show wpAny _ A.in1 (tryCatch (pyNext (.ref I)) _ >>= _) _ _ s
    refine wpAny_bind (wpAny_tryCatch (W.item (j + 1) s _ _ (by omega) hst fun v h' tk hv hst' hk => ?_))
    have hS' := hk S _ hSw hS
    show wpAny _ A.in1 (tryCatch (holding [v, v] (richCompare .Gt v vb >>= _)) _ >>= _) _ _ _
    refine wpAny_bind (wpAny_tryCatch (wpAny_holding (wpAny_bind (hcmp (j + 1) (argBest bt j) v vb _ _ _ hv hP ?_))))
    refine wpAny_bind (wpAny_holding (wpAny_truthy_bool (wpAny_bind (wpAny_letGo (wpAny_pure ?_)))))
    cases hb : bt (j + 1) (argBest bt j) with
    | true =>
      simp only [if_true]
      refine wpAny_bind (wpAny_updateSeq hS' rfl (wpAny_bind (wpAny_letGo ?_)))
      rw [hname]
      refine wpAny_pure ⟨plainId_quiet F.plain_max_loop _, ih (j + 1) _ v (by omega) (W.frame _ _ _ hst' fun b hbf o e => ?_) (by simp only [argBest, hb, if_true]; exact hv) ⟨_, Heap.get?_update_self _ hS' rfl⟩ fun v' h2 tk2 hp2 hk2 => ?_⟩
      · exact (Heap.get?_update_other _ _ (fun h : S = b => hSf (by rw [h]; exact hbf))).trans e
      · exact hR v' h2 tk2 hp2 fun b o h1 h3 e => hk2 b o h1 h3 ((Heap.get?_update_other _ _ (Ne.symm h3)).trans (hk b o h1 e))
    | false =>
      simp only [Bool.false_eq_true, if_false]
      refine wpAny_bind (wpAny_letGo ?_)
      rw [hname]
      refine wpAny_pure ⟨plainId_quiet F.plain_max_loop _, ih (j + 1) _ vb (by omega) hst' (by simp only [argBest, hb, Bool.false_eq_true, if_false]; exact hP) ⟨c, hS'⟩ fun v' h2 tk2 hp2 hk2 => ?_⟩
      exact hR v' h2 tk2 hp2 fun b o h1 h3 e => hk2 b o h1 h3 (hk b o h1 e)
theorem maxLoop0 {d : Value} (W : Walks prog w A.in1 I fp wr n P St) (bt : Nat → Nat → Bool) (hcmp : CmpOf prog w A.in1 .Gt P bt) (S : Addr) (hSf : S ∉ fp) {s : Shared} (hst : St 0 s.heap) (hS : bestAt S #[] s.heap)
    (hR : ∀ v h' tk, (if n = 0 then v = d else P (argBest bt (n - 1)) v) → (∀ b o, b ∉ wr → b ≠ S → s.heap.get? b = some o → h'.get? b = some o) → R (.ok (.ret v)) { s with heap := h', toks := tk }) :
    codeAny (model prog w) A (.builtin "max.loop" ⟨[.ref I, .none, .ref S], [("default", d)]⟩) R s := by
  have hSw : S ∉ wr := fun h => hSf (W.sub _ h)
  have hname : (toString "max" ++ toString ".loop" : String) = "max.loop" := by decide
  obtain ⟨c, hS⟩ := hS
  refine codeAny_builtin F.entry_max_loop ?_
  rw [Around.under_plainId F.plain_max_loop _]
  show wpAny _ A.in1 (seqItems? (.ref S) >>= _) _ _ s
  refine wpAny_bind (wpAny_seqItems hS rfl ?_)
  show wpAny _ A.in1 (tryCatch (pyNext (.ref I)) _ >>= _) _ _ s
  by_cases hn : n = 0
  · refine wpAny_bind (wpAny_tryCatch (W.done s _ _ (hn ▸ hst) fun h' tk hk => ?_))
    refine wpAny_bind (wpAny_rule (wpAny_pure ?_))
    exact hR d h' tk (by rw [if_pos hn]) fun b o h1 _ e => hk b o h1 e
  · refine wpAny_bind (wpAny_tryCatch (W.item 0 s _ _ (by omega) hst fun v h' tk hv hst' hk => ?_))
    have hS' := hk S _ hSw hS
    show wpAny _ A.in1 (updateSeq S (fun _ => #[v, v]) >>= _) _ _ _
    refine wpAny_bind (wpAny_updateSeq hS' rfl ?_)
    rw [hname]
    refine wpAny_pure ⟨plainId_quiet F.plain_max_loop _, maxLoopK W bt hcmp S hSf (n - 1) 0 _ v (by omega) (W.frame _ _ _ hst' fun b hbf o e => ?_) hv ⟨_, Heap.get?_update_self _ hS' rfl⟩ fun v' h2 tk2 hp2 hk2 => ?_⟩
    · exact (Heap.get?_update_other _ _ (fun h : S = b => hSf (by rw [h]; exact hbf))).trans e
    · exact hR v' h2 tk2 (by rw [if_neg hn]; exact hp2) fun b o h1 h3 e => hk2 b o h1 h3 ((Heap.get?_update_other _ _ (Ne.symm h3)).trans (hk b o h1 e))
end
end L2

set_option maxHeartbeats 4000000
namespace L2
open PySem PySem.Spec PyProof.Rows
def maxI (d : Int) : List Int → Int
  | [] => d
  | x :: xs => xs.foldl max x
theorem foldl_max_ge : ∀ (xs : List Int) (a : Int), a ≤ xs.foldl max a ∧ ∀ x ∈ xs, x ≤ xs.foldl max a
  | [], a => ⟨Int.le_refl _, fun x h => nomatch h⟩
  | y :: ys, a => by
    obtain ⟨h1, h2⟩ := foldl_max_ge ys (max a y)
    refine ⟨Int.le_trans (Int.le_max_left _ _) h1, fun x h => ?_⟩
    rcases List.mem_cons.mp h with rfl | h
    · exact Int.le_trans (Int.le_max_right _ _) h1
    · exact h2 x h
theorem foldl_max_mem : ∀ (xs : List Int) (a : Int), xs.foldl max a = a ∨ xs.foldl max a ∈ xs
  | [], a => .inl rfl
  | y :: ys, a => by
    rcases foldl_max_mem ys (max a y) with h | h
    · rw [List.foldl_cons, h]
      rcases Int.le_total a y with q | q
      · rw [Int.max_eq_right q]; exact .inr (List.mem_cons_self)
      · rw [Int.max_eq_left q]; exact .inl rfl
    · exact .inr (List.mem_cons_of_mem _ h)
theorem maxI_is {d m : Int} {ns : List Int} (h : m ∈ ns) (g : ∀ x ∈ ns, x ≤ m) : maxI d ns = m := by
  cases ns with
  | nil => cases h
  | cons x xs =>
    obtain ⟨h1, h2⟩ := foldl_max_ge xs x
    have a1 : m ≤ maxI d (x :: xs) := by
      rcases List.mem_cons.mp h with rfl | h
      · exact h1
      · exact h2 m h
    have a2 : maxI d (x :: xs) ≤ m := by
      rcases foldl_max_mem xs x with q | q
      · show xs.foldl max x ≤ m
        rw [q]; exact g x List.mem_cons_self
      · exact g _ (List.mem_cons_of_mem _ q)
    exact Int.le_antisymm a2 a1
theorem argBest_max (val : Nat → Int) : ∀ k, argBest (fun i j => decide (val i > val j)) k ≤ k ∧ ∀ i, i ≤ k → val i ≤ val (argBest (fun i j => decide (val i > val j)) k)
  | 0 => ⟨Nat.le_refl _, fun i h => by cases Nat.le_zero.mp h; exact Int.le_refl _⟩
  | k + 1 => by
    obtain ⟨h1, h2⟩ := argBest_max val k
    rw [argBest]
    by_cases q : val (k + 1) > val (argBest (fun i j => decide (val i > val j)) k)
    · rw [if_pos (decide_eq_true q)]
      refine ⟨Nat.le_refl _, fun i h => ?_⟩
      rcases Nat.lt_or_ge i (k + 1) with z | z
      · exact Int.le_trans (h2 i (by omega)) (Int.le_of_lt q)
      · rw [show i = k + 1 by omega]; exact Int.le_refl _
    · rw [if_neg (by simpa using q)]
      refine ⟨Nat.le_succ_of_le h1, fun i h => ?_⟩
      rcases Nat.lt_or_ge i (k + 1) with z | z
      · exact h2 i (by omega)
      · rw [show i = k + 1 by omega]; exact Int.not_lt.mp q
section
variable {X : Cx}
theorem args_maxD (a d : Value) : argsOk "max" ⟨[a], [("default", d)]⟩ := by unfold argsOk; kernel_rfl
theorem max_of {pins : List (Addr × Obj)} {s : Shared} {σ : St} {H : Hp} {Q : VK} {p : Addr} {ns : List Int} {d : Int} {t : Tok} (I : Inv X pins σ H s) (hh : X.A.handled = none) (hS : SqL X.K H p (ns.map V.int)) (q : Q (.int (maxI d ns)) H) :
    wpAny (model X.prog X.w) X.A (call (.builtin "max") [.ref p] [("default", .int d t)]) (EP X pins σ Q) X.xe s := by
  obtain ⟨its, rv, pl, _⟩ := I.list hS
  have hl := pl.isList
  have hi := ints_are rv
  have hlt : p < s.heap.objs.size := pl.lt
  have hlen : its.length = ns.length := by have := rv.length; rw [List.length_map] at this; exact this.symm
  have hname : (toString "max" ++ toString ".loop" : String) = "max.loop" := by decide
  have hval : ∀ (i : Nat) (v : Value), its.toArray[i]? = some v → ∃ t, v = .int (ns.getD i 0) t := fun i v e => by
    have e' : its[i]? = some v := by simpa using e
    have hb : i < ns.length := by have := (List.getElem?_eq_some_iff.mp e').1; omega
    obtain ⟨u, h1, h2⟩ := rv.get (i := i) (x := V.int ns[i]) (by rw [List.getElem?_map, List.getElem?_eq_getElem hb]; rfl)
    rw [e'] at h1
    cases h1
    obtain ⟨t, ht⟩ := (show ∃ t, v = Value.int ns[i] t from h2)
    exact ⟨t, by rw [ht, List.getD_eq_getElem?_getD, List.getElem?_eq_getElem hb]; rfl⟩
  refine wpAny_call (codeAny_call_builtin F.plain_max F.entry_max ?_)
  simp only [checkBuiltinCall, F.kind_max]
  have ha : argsOk "max" ⟨[.ref p], [("default", .int d t)]⟩ := args_maxD _ _
  have body : wpAny (model X.prog X.w) X.A.in1 (Builtin.«max» ⟨[.ref p], [("default", .int d t)]⟩) (fun fin s' => match fin with
      | .done f => (match (Except.ok f : Result) with | .ok (.ret v) => EP X pins σ Q v s' | .ok _ => False | .error e => X.xe e s')
      | .again c' => c'.quiet = true ∧ codeAny (model X.prog X.w) X.A c' (fun r s' => match r with | .ok (.ret v) => EP X pins σ Q v s' | .ok _ => False | .error e => X.xe e s') s') X.xe s := by
    show wpAny _ X.A.in1 (Builtin.Builtins.bindParams "max" ["key", "default"] 0 ⟨[], [("default", .int d t)]⟩ >>= _) _ _ s
    refine wpAny_bind (wpAny_of_eq (show Builtin.Builtins.bindParams "max" ["key", "default"] 0 ⟨[], [("default", .int d t)]⟩ = pure [none, some (.int d t)] from rfl) ?_)
    refine wpAny_bind (wpAny_pure ?_)
    refine wpAny_bind (wpAny_pyIter_list hl ?_)
    refine wpAny_bind (wpAny_newObj_type ?_)
    rw [hname]
    have W := Walks.list (prog := X.prog) (w := X.w) (A := X.A.in1) hh s.heap.objs.size p (Nat.ne_of_lt hlt) its.toArray
    refine wpAny_pure ⟨plainId_quiet F.plain_max_loop _, maxLoop0 W _ (CmpOf.ints_gt (fun i => ns.getD i 0) hval) ((s.heap.push _).objs.size) (fun hm => ?_) (W.frame _ _ _ ⟨⟨_, Heap.get?_push_size _ rfl, rfl, rfl⟩, hl.push _⟩ fun b _ o e => Heap.get?_push_of_some _ e) ⟨_, Heap.get?_push_size _ rfl⟩ fun v h' tk hv hk => ?_⟩
    · have hsz : (s.heap.push { cls := .type "list_iterator", data := .fields #[.ref p, .int 0 0] }).objs.size = s.heap.objs.size + 1 := Heap.size_push ..
      rcases List.mem_cons.mp hm with z | z
      · exact absurd (hsz.symm.trans z) (Nat.succ_ne_self _)
      · exact absurd (hsz.symm.trans (List.mem_singleton.mp z)) (Nat.ne_of_gt (Nat.lt_succ_of_lt hlt))
    · have hkept : ∀ b o, s.heap.get? b = some o → h'.get? b = some o := fun b o e => hk b o (fun hm => by
        exact absurd (List.mem_singleton.mp hm) (Nat.ne_of_lt (Heap.lt_size e))) (fun hm => by
        rw [Heap.size_push] at hm
        exact absurd hm (Nat.ne_of_lt (Nat.lt_succ_of_lt (Heap.lt_size e)))) (Heap.get?_push_of_some _ (Heap.get?_push_of_some _ e))
      have ev : ∃ t, v = .int (maxI d ns) t := by
        by_cases hn : its.toArray.size = 0
        · rw [if_pos hn] at hv
          have hz : ns = [] := List.length_eq_zero_iff.mp (by rw [← hlen]; simpa using hn)
          rw [hz]
          exact ⟨_, hv⟩
        · rw [if_neg hn] at hv
          obtain ⟨b1, b2⟩ := argBest_max (fun i => ns.getD i 0) (its.toArray.size - 1)
          have hsz : its.toArray.size = ns.length := by rw [List.size_toArray, hlen]
          obtain ⟨t', e⟩ := hval _ v hv
          refine ⟨t', ?_⟩
          rw [e, maxI_is (m := ns.getD (argBest (fun i j => decide (ns.getD i 0 > ns.getD j 0)) (its.toArray.size - 1)) 0) ?_ fun x hx => ?_]
          · rw [List.getD_eq_getElem?_getD, List.getElem?_eq_getElem (by omega)]
            exact List.getElem_mem _
          · obtain ⟨i, hi', rfl⟩ := List.getElem_of_mem hx
            have z := b2 i (by omega)
            simp only [List.getD_eq_getElem?_getD, List.getElem?_eq_getElem hi', Option.getD_some] at z
            simpa only [List.getD_eq_getElem?_getD] using z
      obtain ⟨t', rfl⟩ := ev
      exact ⟨.int (maxI d ns), H, I.kept hkept, ⟨_, rfl⟩, q⟩
  cases hsig : Manifest.signature? "max" with
  | none => exact wpAny_pure body
  | some sig =>
    simp only [argsOk, hsig] at ha
    have h2 : Bind.checkArgs "max" sig ⟨[.ref p], [("default", .int d t)]⟩ = pure () := ha
    show wpAny _ X.A.in1 (Bind.checkArgs "max" sig ⟨[.ref p], [("default", .int d t)]⟩) _ _ s
    rw [h2]; exact wpAny_pure body
end
end L2

set_option maxHeartbeats 4000000
namespace L2
open PySem PySem.Spec PyProof.Rows
section
variable {X : Cx} {e c : Expr} {te tc : TE} {p pos kp : Pos}
def rMaxD (X : Cx) (x y : V) (H : Hp) (Q : VK) : Prop := ∃ (l : Addr) (ns : List Int) (d : Int), x = .ref l ∧ y = .int d ∧ X.A.handled = none ∧ SqL X.K H l (ns.map V.int) ∧ Q (.int (maxI d ns)) H
def one (F : V → Hp → Prop) (vs : List V) (H : Hp) : Prop := match vs with
  | [x] => F x H
  | _ => False
theorem pe_maxD (hg : Gl X "max") (hm : X.mg "max" = none) (he : PE X e te) (hc : PE X c tc) (h1 : starEach [e] X.env = (false, eval e X.env) :: starEach [] X.env := by rfl) (hv : bootBuiltins "max" = some (.builtin "max") := by decide +kernel) :
    PE X (.Call (.Name "max" p) [e] [⟨some "default", c, kp⟩] pos) (tOp (rMaxD X) te tc) := by
  intro pins s σ H Q I h
  refine wpAny_Call_Name_kw (ld_blt I hg hm hv ?_)
  refine callWith_kw (env := X.env) ?_ (by rw [h1]; rfl) (by rw [h1]; rfl) rfl rfl
  refine thn ((pa_cons he pa_nil h1) pos pins s σ H (one fun x H1 => tc σ H1 fun y H2 => rMaxD X x y H2 Q) I h) fun us s1 ⟨vs, H1, I1, r1, q⟩ => ?_
  match vs, r1, q with
  | [x], r1, q =>
    obtain ⟨u, rfl, ru⟩ := vals1 r1
    refine thn ((pk_cons (nm := some "default") (kpos := kp) hc pk_nil) pos pins s1 σ H1 (one fun y H2 => rMaxD X x y H2 Q) I1 q) fun ws s2 ⟨zs, H2, I2, r2, k⟩ => ?_
    match zs, r2, k with
    | [y], r2, k =>
      obtain ⟨l, ns, d, e1, e2, hh, hS, kk⟩ := k
      subst e1 e2
      obtain ⟨w, rfl, rw'⟩ := vals1 r2
      obtain ⟨t, rfl⟩ := (show ∃ t, w = Value.int d t from rw')
      cases (show u = Value.ref l from ru)
      exact max_of I2 hh hS kk
abbrev TJ := St → Hp → Str → (Str → Hp → Prop) → Prop
def PJ (X : Cx) (es : List Expr) (t : TJ) : Prop := ∀ (pins : List (Addr × Obj)) (s : Shared) (σ : St) (H : Hp) (out : Str) (Q : Str → Hp → Prop), Inv X pins σ H s → t σ H out Q →
  wpAny (model X.prog X.w) X.A (joinParts out (evalEach es X.env)) (EP X pins σ fun v H' => ∃ z, v = .str z ∧ Q z H') X.xe s
def jNil : TJ := fun _ H out Q => out.length ≤ sizeLine ∧ Q out H
def jCons (te : TE) (t : TJ) : TJ := fun σ H out Q => te σ H fun v H1 => ∃ y, v = .str y ∧ (out ++ y).length ≤ sizeLine ∧ t σ H1 (out ++ y) Q
theorem pj_nil : PJ X [] jNil := fun pins s σ H out Q I h => joinParts_nil ⟨.str out, H, I.tok _, ⟨_, rfl⟩, out, rfl, h.2⟩ h.1
theorem pj_cons {es : List Expr} {t : TJ} (he : PE X e te) (hr : PJ X es t) : PJ X (e :: es) (jCons te t) := by
  intro pins s σ H out Q I h
  show wpAny _ _ (joinParts out (eval e X.env :: evalEach es X.env)) _ _ s
  refine joinParts_cons (thn (he pins s σ H _ I h) fun u s1 ⟨v, H1, I1, r, y, ev, hz, q⟩ => ?_)
  subst ev
  obtain ⟨t', rfl⟩ := (show ∃ t', u = Value.str y t' from r)
  exact ⟨hz, hr pins s1 σ H1 _ Q I1 q⟩
def tJoined (t : TJ) : TE := fun σ H Q => t σ H Str.empty fun z H1 => Q (.str z) H1
theorem pe_joined {e2 : Expr} {es : List Expr} {t : TJ} (h : PJ X (e :: e2 :: es) t) : PE X (.JoinedStr (e :: e2 :: es) pos) (tJoined t) := fun pins s σ H Q I q =>
  JoinedStr_many (thn (h pins s σ H _ _ I q) fun u s1 ⟨v, H1, I1, r, z, ev, k⟩ => ⟨v, H1, I1, r, ev ▸ k⟩)
def tFv (te : TE) : TE := fun σ H Q => te σ H fun v H1 => (∃ y, v = .str y ∧ y.length ≤ sizeLine ∧ Q v H1) ∨ ∃ i : Int, v = .int i ∧ i.natAbs.log2 < 1920 ∧ Q (.str (toString i)) H1
theorem pe_fv (h : PE X e te) : PE X (.FormattedValue e (-1) none pos) (tFv te) := by
  intro pins s σ H Q I q
  refine FormattedValue_plain (thn (h pins s σ H _ I q) fun u s1 ⟨v, H1, I1, r, k⟩ => ?_)
  rcases k with ⟨y, rfl, hz, k⟩ | ⟨i, rfl, hz, k⟩
  · obtain ⟨t', rfl⟩ := (show ∃ t', u = Value.str y t' from r)
    exact formatField_str (fun t' tk => ⟨.str y, H1, I1.tok _, ⟨_, rfl⟩, k⟩) hz
  · obtain ⟨t', rfl⟩ := (show ∃ t', u = Value.int i t' from r)
    exact formatField_int_small hz ⟨.str (toString i), H1, I1.tok _, ⟨_, rfl⟩, k⟩
end
end L2
namespace DC
open PySem PySem.Spec PyProof.Rows L2
section
variable {X : Cx} {e c : Expr} {te tc : ED} {p pos kp : Pos} {es : List Expr} {t : AD}
theorem boot_sum : bootBuiltins "sum" = some (.builtin "sum") := by decide +kernel
def sdSum : SpD := fun ds Q => ∃ (ns : List Int), ds = [.lst (ns.map D.int)] ∧ Q (.int ns.sum)
theorem m_sum : MonoS sdSum := fun ds P P' g ⟨bs, e, q⟩ => ⟨bs, e, g _ q⟩
theorem vals_int {K : PySem.W.Frag} {H : Hp} : ∀ {vs : List V} {bs : List Int}, Dvs K H vs (bs.map D.int) → vs = bs.map V.int
  | [], [], _ => rfl
  | _, _ :: _, .cons (.int _) r => by rw [vals_int r]; rfl
theorem does_sum {K : PySem.W.Frag} {A : Around} (hh : A.handled = none) : DoesB K (fun xs H Q => ∃ (p : Addr) (ns : List Int), xs = [.ref p] ∧ A.handled = none ∧ SqL K H p (ns.map V.int) ∧ Q (.int ns.sum) H) sdSum := by
  intro H vs ds Q dvs ⟨bs, e, q⟩
  subst e
  cases dvs with
  | cons dv r =>
    cases r
    cases dv with
    | lst h1 h2 =>
      rw [vals_int h2] at h1
      exact ⟨_, bs, rfl, hh, h1, q _ H (Same.refl _) (.int _)⟩
theorem d_sum (hh : X.A.handled = none) (hg : Gl X "sum") (hm : X.mg "sum" = none) (ha : PAd X (e :: es) t) (h1 : starEach (e :: es) X.env = (false, eval e X.env) :: starEach es X.env := by rfl) (h2 : (backTo pos (starEach es X.env)).any (·.1) = false := by rfl) : PD X (.Call (.Name "sum" p) (e :: es) [] pos) (vB sdSum t) := d_cb (pe_callB call_sum hg hm boot_sum ha.pa (he := h1) (hpl := h2)) ha.mono (does_sum hh) m_sum
def fMaxD : F2 := fun d e Q => ∃ (ns : List Int) (i : Int), d = .lst (ns.map D.int) ∧ e = .int i ∧ Q (.int (maxI i ns))
theorem m_maxD : MonoF fMaxD := fun d e P P' g ⟨ns, i, e1, e2, q⟩ => ⟨ns, i, e1, e2, g _ q⟩
def vMaxD : ED → ED → ED := vOp fMaxD
theorem d_maxD (hh : X.A.handled = none) (hg : Gl X "max") (hm : X.mg "max" = none) (he : PD X e te) (hc : PD X c tc) (h1 : starEach [e] X.env = (false, eval e X.env) :: starEach [] X.env := by rfl) : PD X (.Call (.Name "max" p) [e] [⟨some "default", c, kp⟩] pos) (vMaxD te tc) := by
  refine d_bin (t := oE X.K te) (pe_maxD hg hm he.pe hc.pe h1) he.mono hc.mono ?_ m_maxD
  intro H x y d e Q hx hy ⟨ns, i, e1, e2, q⟩
  subst e1 e2
  cases hy
  cases hx with
  | lst g1 g2 =>
    rw [vals_int g2] at g1
    exact ⟨_, ns, i, rfl, rfl, hh, g1, q _ H (Same.refl _) (.int _)⟩
abbrev JD := SD → Str → (Str → Prop) → Prop
structure PJd (X : Cx) (es : List Expr) (t : JD) : Prop where
  pj : PJ X es (fun σ H out Q => ∃ δ, RelS X.K H σ δ ∧ t δ out fun z => ∀ H', Same H H' → Q z H')
  mono : ∀ δ out (P P' : Str → Prop), (∀ d, P d → P' d) → t δ out P → t δ out P'
def kNil : JD := fun _ out Q => out.length ≤ sizeLine ∧ Q out
def kCons (te : ED) (t : JD) : JD := fun δ out Q => te δ fun d => ∃ y, d = .str y ∧ (out ++ y).length ≤ sizeLine ∧ t δ (out ++ y) Q
theorem j_nil : PJd X [] kNil := ⟨fun pins s σ H out Q I ⟨δ, r, h⟩ => pj_nil pins s σ H out Q I ⟨h.1, h.2 H (Same.refl _)⟩, fun δ out P P' g h => ⟨h.1, g _ h.2⟩⟩
theorem j_cons {t : JD} (he : PD X e te) (hr : PJd X es t) : PJd X (e :: es) (kCons te t) := by
  refine ⟨fun pins s σ H out Q I ⟨δ, r, h⟩ => pj_cons he.pe hr.pj pins s σ H out Q I ⟨δ, r, he.mono _ _ _ (fun d ⟨y, ed, hz, k⟩ v H1 s1 dv => ?_) h⟩, fun δ out P P' g h => he.mono _ _ _ (fun d ⟨y, ed, hz, k⟩ => ⟨y, ed, hz, hr.mono _ _ _ _ g k⟩) h⟩
  subst ed
  cases dv
  exact ⟨y, rfl, hz, δ, r.same s1, hr.mono _ _ _ _ (fun z q H' s' => q H' (s1.trans s')) k⟩
def vJoined (t : JD) : ED := fun δ Q => t δ Str.empty fun z => Q (.str z)
theorem d_joined {e2 : Expr} {t : JD} (h : PJd X (e :: e2 :: es) t) : PD X (.JoinedStr (e :: e2 :: es) pos) (vJoined t) :=
  ⟨(pe_joined h.pj).imp fun σ H Q ⟨δ, r, q⟩ => ⟨δ, r, h.mono _ _ _ _ (fun z k H' s' => k _ H' s' (.str z)) q⟩, fun δ P P' g q => h.mono _ _ _ _ (fun z k => g _ k) q⟩
def vFv (te : ED) : ED := fun δ Q => te δ fun d => (∃ y, d = .str y ∧ y.length ≤ sizeLine ∧ Q (.str y)) ∨ ∃ i : Int, d = .int i ∧ i.natAbs.log2 < 1920 ∧ Q (.str (toString i))
theorem d_fv (h : PD X e te) : PD X (.FormattedValue e (-1) none pos) (vFv te) := by
  refine ⟨(pe_fv h.pe).imp fun σ H Q ⟨δ, r, q⟩ => ⟨δ, r, h.mono _ _ _ (fun d k v H1 s1 dv => ?_) q⟩, fun δ P P' g q => h.mono _ _ _ (fun d k => ?_) q⟩
  · rcases k with ⟨y, rfl, hz, k⟩ | ⟨i, rfl, hz, k⟩
    · cases dv
      exact .inl ⟨y, rfl, hz, k _ H1 s1 (.str _)⟩
    · cases dv
      exact .inr ⟨i, rfl, hz, k _ H1 s1 (.str _)⟩
  · rcases k with ⟨y, rfl, hz, k⟩ | ⟨i, rfl, hz, k⟩
    · exact .inl ⟨y, rfl, hz, g _ k⟩
    · exact .inr ⟨i, rfl, hz, g _ k⟩
end
end DC

set_option maxHeartbeats 4000000
namespace DC
open PySem PySem.Spec PyProof.Rows L2
inductive MD where
  | lst (ds : List D) | ins (C : Addr) (gs : FD) | dK (kvs : List (Key × D))
abbrev Mu := List (Addr × MD)
def AtM (K : PySem.W.Frag) (H : Hp) (L : List Addr) (a : Addr) : MD → Prop
  | .lst ds => ∃ vs, H a = some (.lst vs) ∧ Dvs K (hidL H L) vs ds
  | .ins C gs => ∃ dx fs, H a = some (.ins C dx fs) ∧ H dx = some (.own a) ∧ dx ∈ L ∧ Dvf K (hidL H L) fs gs
  | .dK kvs => ∃ ws, H a = some (.dK ws) ∧ Dvk K (hidL H L) ws kvs
structure StM (K : PySem.W.Frag) (H : Hp) (μ : Mu) (L : List Addr) : Prop where
  at_ : ∀ p ∈ μ, p.1 ∈ L ∧ AtM K H L p.1 p.2
  nod : (μ.map (·.1)).Nodup
  hid : ∀ b ∈ L, HidOk H L b
  cov : ∀ b ∈ L, (∃ m, (b, m) ∈ μ) ∨ ∃ a, H b = some (.own a)
section
variable {K : PySem.W.Frag} {H H1 H4 : Hp} {μ : Mu} {L : List Addr}
theorem hidL_on (s : Same H H1) : Same (hidL H L) (hidL H1 L) := fun b o h => by
  obtain ⟨h1, h2⟩ := hidL_some h
  rw [hidL_out h1]
  exact s _ _ h2
theorem AtM.on {a : Addr} (s : Same H H1) : ∀ {m : MD}, AtM K H L a m → AtM K H1 L a m
  | .lst _, ⟨vs, h, d⟩ => ⟨vs, s _ _ h, Dvs.same (hidL_on s) d⟩
  | .ins _ _, ⟨dx, fs, h, h2, h3, d⟩ => ⟨dx, fs, s _ _ h, s _ _ h2, h3, Dvf.same (hidL_on s) d⟩
  | .dK _, ⟨ws, h, d⟩ => ⟨ws, s _ _ h, Dvk.same (hidL_on s) d⟩
theorem hok_on {a : Addr} (s : Same H H1) (h : HidOk H L a) : HidOk H1 L a := by
  cases h with
  | lst xs h => exact .lst xs (s _ _ h)
  | dK xs h => exact .dK xs (s _ _ h)
  | ins C dx fs h hd => exact .ins C dx fs (s _ _ h) hd
  | own C b fs h hb hi => exact .own C b fs (s _ _ h) hb (s _ _ hi)
theorem StM.on (g : StM K H μ L) (s : Same H H1) : StM K H1 μ L :=
  ⟨fun p hp => ⟨(g.at_ p hp).1, (g.at_ p hp).2.on s⟩, g.nod, fun b hb => hok_on s (g.hid b hb), fun b hb => (g.cov b hb).imp id fun ⟨a, q⟩ => ⟨a, s _ _ q⟩⟩
theorem StM.show (g : StM K H μ L) (z : ∀ b ∈ L, H4 b = none) (s : Same (hidL H L) H4) : StM K (showL H4 H L) μ L := by
  have e : hidL (showL H4 H L) L = H4 := hidL_showL z
  refine ⟨fun p hp => ⟨(g.at_ p hp).1, ?_⟩, g.nod, fun b hb => ?_, fun b hb => (g.cov b hb).imp id fun ⟨a, q⟩ => ⟨a, by rw [showL_in hb]; exact q⟩⟩
  · obtain ⟨hp1, ha⟩ := g.at_ p hp
    obtain ⟨a, m⟩ := p
    cases m with
    | lst ds => obtain ⟨vs, h, d⟩ := ha; exact ⟨vs, by rw [showL_in hp1]; exact h, by rw [e]; exact Dvs.same s d⟩
    | ins C gs => obtain ⟨dx, fs, h, h2, h3, d⟩ := ha; exact ⟨dx, fs, by rw [showL_in hp1]; exact h, by rw [showL_in h3]; exact h2, h3, by rw [e]; exact Dvf.same s d⟩
    | dK kvs => obtain ⟨ws, h, d⟩ := ha; exact ⟨ws, by rw [showL_in hp1]; exact h, by rw [e]; exact Dvk.same s d⟩
  · have w := g.hid b hb
    cases w with
    | lst xs h => exact .lst xs (by rw [showL_in hb]; exact h)
    | dK xs h => exact .dK xs (by rw [showL_in hb]; exact h)
    | ins C dx fs h hd => exact .ins C dx fs (by rw [showL_in hb]; exact h) hd
    | own C c fs h hc hi => exact .own C c fs (by rw [showL_in hb]; exact h) hc (by rw [showL_in hc]; exact hi)
theorem StM.nil : StM K H [] [] := ⟨fun p hp => (nomatch hp), List.nodup_nil, fun b hb => (nomatch hb), fun b hb => (nomatch hb)⟩
def MD.d : MD → D
  | .lst ds => .lst ds
  | .ins C gs => .obj C gs
  | .dK kvs => .dK kvs
def viewD (μ : Mu) : D → D
  | .adr a => ((μ.lookup a).map MD.d).getD (.adr a)
  | d => d
def viewS (μ : Mu) (δ : SD) : SD := δ.map (Option.map (viewD μ))
theorem mem_of_lookup {a : Addr} {m : MD} : ∀ {μ : Mu}, μ.lookup a = some m → (a, m) ∈ μ
  | [], h => by cases h
  | (b, n) :: r, h => by
    rw [List.lookup_cons] at h
    cases q : a == b with
    | true => rw [q] at h; cases h; rw [beq_iff_eq.mp q]; exact List.mem_cons_self
    | false => rw [q] at h; exact List.mem_cons_of_mem _ (mem_of_lookup h)
theorem StM.view (g : StM K H μ L) {v : V} {d : D} (h : Dv K (hidL H L) v d) : Dv K H v (viewD μ d) := by
  cases h with
  | adr a =>
    show Dv K H (.ref a) (((μ.lookup a).map MD.d).getD (.adr a))
    cases q : μ.lookup a with
    | none => exact .adr a
    | some m =>
      show Dv K H (.ref a) m.d
      obtain ⟨_, ha⟩ := g.at_ _ (mem_of_lookup q)
      cases m with
      | lst ds => obtain ⟨vs, h, d⟩ := ha; exact .lst (SqL.of h) (Dvs.same hidL_same d)
      | ins C gs => obtain ⟨dx, fs, h, h2, h3, d⟩ := ha; exact .obj (.of h) (Dvf.same hidL_same d)
      | dK kvs => obtain ⟨ws, h, d⟩ := ha; exact .dK (.of h) (Dvk.same hidL_same d)
  | non => exact .non
  | bl b => exact .bl b
  | int i => exact .int i
  | str x => exact .str x
  | lst h1 h2 => exact Dv.same hidL_same (.lst h1 h2)
  | tup h1 h2 => exact Dv.same hidL_same (.tup h1 h2)
  | obj h1 h2 => exact Dv.same hidL_same (.obj h1 h2)
  | dK h1 h2 => exact Dv.same hidL_same (.dK h1 h2)
  | dT h1 h2 => exact Dv.same hidL_same (.dT h1 h2)
  | exc h1 h2 h3 => exact Dv.same hidL_same (.exc h1 h2 h3)
theorem StM.viewS (g : StM K H μ L) {σ : L2.St} {δ : SD} (r : RelS K (hidL H L) σ δ) : RelS K H σ (viewS μ δ) := by
  refine ⟨by unfold DC.viewS; rw [List.length_map]; exact r.len, fun i d h => ?_⟩
  unfold DC.viewS at h
  rw [List.getElem?_map] at h
  cases q : δ[i]? with
  | none => rw [q] at h; cases h
  | some o =>
    rw [q] at h
    cases o with
    | none => cases h
    | some d' =>
      cases h
      obtain ⟨v, hv, dv⟩ := r.get i d' q
      exact ⟨v, hv, g.view dv⟩
end
structure EndsM where
  nx : SD → Mu → Prop
  rt : D → Mu → Prop
  bk : SD → Mu → Prop := fun _ _ => False
  ct : SD → Mu → Prop := fun _ _ => False
abbrev TMD := EndsM → SD → Mu → Prop
structure EndsM.Le (E E' : EndsM) : Prop where
  nx : ∀ δ μ, E.nx δ μ → E'.nx δ μ
  rt : ∀ d μ, E.rt d μ → E'.rt d μ
  bk : ∀ δ μ, E.bk δ μ → E'.bk δ μ
  ct : ∀ δ μ, E.ct δ μ → E'.ct δ μ
abbrev MonoM (t : TMD) : Prop := ∀ E E' δ μ, EndsM.Le E E' → t E δ μ → t E' δ μ
def kM (K : PySem.W.Frag) (H : Hp) (L : List Addr) (Q : L2.St → Hp → Prop) : SD → Mu → Prop := fun δ μ => ∀ σ H' L', Same (hidL H L) (hidL H' L') → RelS K (hidL H' L') σ δ → StM K H' μ L' → Q σ H'
def kR (K : PySem.W.Frag) (H : Hp) (L : List Addr) (Q : VK) : D → Mu → Prop := fun d μ => ∀ v H' L', Same (hidL H L) (hidL H' L') → StM K H' μ L' → Dv K (hidL H' L') v d → Q v H'
def endM (K : PySem.W.Frag) (H : Hp) (L : List Addr) (D : Ends) : EndsM := ⟨kM K H L D.nx, kR K H L D.rt, kM K H L D.bk, kM K H L D.ct⟩
theorem endM_on {K : PySem.W.Frag} {H H1 : Hp} {L L1 : List Addr} {D : Ends} (s : Same (hidL H L) (hidL H1 L1)) : EndsM.Le (endM K H L D) (endM K H1 L1 D) :=
  ⟨fun _ _ h σ H' L' s' r g => h σ H' L' (s.trans s') r g, fun _ _ h v H' L' s' g d => h v H' L' (s.trans s') g d, fun _ _ h σ H' L' s' r g => h σ H' L' (s.trans s') r g, fun _ _ h σ H' L' s' r g => h σ H' L' (s.trans s') r g⟩
def oM (K : PySem.W.Frag) (t : TMD) : TS := fun D σ H => ∃ δ μ L, RelS K (hidL H L) σ δ ∧ StM K H μ L ∧ t (endM K H L D) δ μ
structure PMd (X : Cx) (st : Stmt) (t : TMD) : Prop where
  ps : PS X st (oM X.K t)
  mono : MonoM t
structure PMs (X : Cx) (st : List Stmt) (t : TMD) : Prop where
  ps : PSs X st (oM X.K t)
  mono : MonoM t
section
variable {X : Cx} {st : Stmt} {rest body els : List Stmt} {t u : TMD} {e c : Expr} {te : ED} {uc : TD} {pos : Pos}
def mNext : TMD := fun E δ μ => E.nx δ μ
def mSeq (t u : TMD) : TMD := fun E δ μ => t { E with nx := u E } δ μ
theorem ms_nil : PMs X [] mNext := ⟨PSs.imp pss_nil fun D σ H ⟨δ, μ, L, r, g, h⟩ => h σ H L (Same.refl _) r g, fun E E' δ μ l h => l.nx _ _ h⟩
theorem ms_cons (h1 : PMd X st t) (h2 : PMs X rest u) : PMs X (st :: rest) (mSeq t u) :=
  ⟨PSs.imp (pss_cons h1.ps h2.ps) fun D σ H ⟨δ, μ, L, r, g, h⟩ => ⟨δ, μ, L, r, g, h1.mono { endM X.K H L D with nx := u (endM X.K H L D) } _ _ _ ⟨fun δ' μ' q σ' H' L' s' r' g' => ⟨δ', μ', L', r', g', h2.mono _ _ _ _ (endM_on s') q⟩, fun _ _ q => q, fun _ _ q => q, fun _ _ q => q⟩ h⟩,
   fun E E' δ μ l h => h1.mono { E with nx := u E } _ _ _ ⟨fun δ' μ' q => h2.mono _ _ _ _ l q, l.rt, l.bk, l.ct⟩ h⟩
theorem ms_one (h1 : PMd X st t) : PMs X [st] t := ⟨pss_one h1.ps, h1.mono⟩
def mLift (t : TSD) : TMD := fun E δ μ => t { nx := fun δ' => E.nx δ' μ, rt := fun d => E.rt d μ, bk := fun δ' => E.bk δ' μ, ct := fun δ' => E.ct δ' μ } δ
theorem lift_of {t : TSD} (m : MonoQ t) {D : Ends} {σ : L2.St} {H : Hp} (h : oM X.K (mLift t) D σ H) : frS (oS X.K t) D σ H := by
  obtain ⟨δ, μ, L, r, g, h⟩ := h
  refine ⟨L, g.hid, δ, r, ?_⟩
  refine m { nx := fun δ' => (endM X.K H L D).nx δ' μ, rt := fun d => (endM X.K H L D).rt d μ, bk := fun δ' => (endM X.K H L D).bk δ' μ, ct := fun δ' => (endM X.K H L D).ct δ' μ } _ _ ⟨fun δ' q σ' H' s' r' z => ?_, fun d q v H' s' dv z => ?_, fun δ' q σ' H' s' r' z => ?_, fun δ' q σ' H' s' r' z => ?_⟩ h
  · have e : hidL (showL H' H L) L = H' := hidL_showL z
    exact q σ' _ L (by rw [e]; exact s') (by rw [e]; exact r') (g.show z s')
  · have e : hidL (showL H' H L) L = H' := hidL_showL z
    exact q v _ L (by rw [e]; exact s') (g.show z s') (by rw [e]; exact dv)
  · have e : hidL (showL H' H L) L = H' := hidL_showL z
    exact q σ' _ L (by rw [e]; exact s') (by rw [e]; exact r') (g.show z s')
  · have e : hidL (showL H' H L) L = H' := hidL_showL z
    exact q σ' _ L (by rw [e]; exact s') (by rw [e]; exact r') (g.show z s')
theorem m_lift {t : TSD} (m : MonoQ t) : MonoM (mLift t) := fun E E' δ μ l h => m { nx := fun δ' => E.nx δ' μ, rt := fun d => E.rt d μ, bk := fun δ' => E.bk δ' μ, ct := fun δ' => E.ct δ' μ } _ _ ⟨fun _ q => l.nx _ _ q, fun _ q => l.rt _ _ q, fun _ q => l.bk _ _ q, fun _ q => l.ct _ _ q⟩ h
theorem ms_lift {t : TSD} (h : PSd X st t) : PMd X st (mLift t) := ⟨PS.imp (ps_frM h.ps) fun D σ H q => lift_of h.mono q, m_lift h.mono⟩
def mIf (uc : TD) (t u : TMD) : TMD := fun E δ μ => uc (viewS μ δ) fun b => if b = true then t E δ μ else u E δ μ
theorem ms_if (hc : PTd X c uc) (ha : PMs X body t) (hb : PMs X els u) : PMd X (.If c body els pos) (mIf uc t u) := by
  refine ⟨PS.imp (ps_if hc.pt ha.ps hb.ps) fun D σ H ⟨δ, μ, L, r, g, h⟩ => ⟨_, g.viewS r, hc.mono _ _ _ (fun k q H1 s1 => ?_) h⟩, fun E E' δ μ l h => hc.mono _ _ _ (fun k q => ?_) h⟩
  · have s2 : Same (hidL H L) (hidL H1 L) := hidL_on s1
    cases k with
    | true =>
      show if true = true then _ else _
      rw [if_pos rfl] at q ⊢; exact ⟨δ, μ, L, r.same s2, g.on s1, ha.mono _ _ _ _ (endM_on s2) q⟩
    | false =>
      show if false = true then _ else _
      rw [if_neg Bool.false_ne_true] at q ⊢; exact ⟨δ, μ, L, r.same s2, g.on s1, hb.mono _ _ _ _ (endM_on s2) q⟩
  · cases k with
    | true => rw [if_pos rfl] at q ⊢; exact ha.mono _ _ _ _ l q
    | false => rw [if_neg Bool.false_ne_true] at q ⊢; exact hb.mono _ _ _ _ l q
def mRet (te : ED) : TMD := fun E δ μ => te (viewS μ δ) fun d => E.rt d []
theorem ms_ret (he : PD X e te) : PMd X (.Return (some e) pos) (mRet te) :=
  ⟨PS.imp (ps_ret he.pe) fun D σ H ⟨δ, μ, L, r, g, h⟩ => ⟨_, g.viewS r, he.mono _ _ _ (fun d q v H1 s1 dv => q v H1 [] (by rw [hidL_nil]; exact hidL_same.trans s1) StM.nil (by rw [hidL_nil]; exact dv)) h⟩,
   fun E E' δ μ l h => he.mono _ _ _ (fun d q => l.rt _ _ q) h⟩
end
end DC

set_option maxHeartbeats 4000000
namespace DC
open PySem PySem.Spec PyProof.Rows L2
def putM (a : Addr) (m : MD) (μ : Mu) : Mu := μ.map fun p => if p.1 = a then (a, m) else p
theorem putM_keys (a : Addr) (m : MD) (μ : Mu) : (putM a m μ).map (·.1) = μ.map (·.1) := by
  unfold putM
  rw [List.map_map]
  refine List.map_congr_left fun p _ => ?_
  show (if p.1 = a then (a, m) else p).1 = p.1
  split
  · rename_i h; exact h.symm
  · rfl
section
variable {K : PySem.W.Frag} {H : Hp} {μ : Mu} {L : List Addr} {a : Addr} {vs ys : List V} {ds : List D}
theorem hidL_upd {o : HO} (h : a ∈ L) : hidL (upd H a o) L = hidL H L := by
  funext b
  by_cases hb : b ∈ L
  · rw [hidL_in hb, hidL_in hb]
  · rw [hidL_out hb, hidL_out hb, upd_ne (fun z => hb (by rw [z]; exact h))]
theorem StM.putL (g : StM K H μ L) (ha : a ∈ L) (hv : H a = some (.lst vs)) (d : Dvs K (hidL H L) ys ds) : StM K (upd H a (.lst ys)) (putM a (.lst ds) μ) L := by
  have e : hidL (upd H a (.lst ys)) L = hidL H L := hidL_upd ha
  refine ⟨fun p hp => ?_, by rw [putM_keys]; exact g.nod, fun b hb => ?_, fun b hb => ?_⟩
  · obtain ⟨q, hq, rfl⟩ := List.mem_map.mp hp
    by_cases hqa : q.1 = a
    · rw [if_pos hqa]
      exact ⟨ha, ys, upd_same, by rw [e]; exact d⟩
    · rw [if_neg hqa]
      obtain ⟨h1, h2⟩ := g.at_ q hq
      refine ⟨h1, ?_⟩
      obtain ⟨b, m⟩ := q
      cases m with
      | lst ds => obtain ⟨ws, h, d⟩ := h2; exact ⟨ws, by rw [upd_ne hqa]; exact h, by rw [e]; exact d⟩
      | ins C gs => obtain ⟨dx, fs, h, h2, h3, d⟩ := h2; exact ⟨dx, fs, by rw [upd_ne hqa]; exact h, by rw [upd_ne (fun z => by rw [z, hv] at h2; cases h2)]; exact h2, h3, by rw [e]; exact d⟩
      | dK kvs => obtain ⟨ws, h, d⟩ := h2; exact ⟨ws, by rw [upd_ne hqa]; exact h, by rw [e]; exact d⟩
  · by_cases hba : b = a
    · rw [hba]; exact .lst ys upd_same
    · have w := g.hid b hb
      cases w with
      | lst xs h => exact .lst xs (by rw [upd_ne hba]; exact h)
      | dK xs h => exact .dK xs (by rw [upd_ne hba]; exact h)
      | ins C dx fs h hd => exact .ins C dx fs (by rw [upd_ne hba]; exact h) hd
      | own C c fs h hc hi => exact .own C c fs (by rw [upd_ne hba]; exact h) hc (by rw [upd_ne (fun z => by rw [z, hv] at hi; cases hi)]; exact hi)
  · rcases g.cov b hb with ⟨m, h⟩ | ⟨c, h⟩
    · by_cases hba : b = a
      · exact .inl ⟨.lst ds, List.mem_map.mpr ⟨_, h, by rw [if_pos hba, hba]⟩⟩
      · exact .inl ⟨m, List.mem_map.mpr ⟨_, h, if_neg hba⟩⟩
    · exact .inr ⟨c, by rw [upd_ne (fun z => by rw [z, hv] at h; cases h)]; exact h⟩
theorem StM.newL (g : StM K H μ L) (hn : H a = none) (d : Dvs K (hidL H L) ys ds) : StM K (upd H a (.lst ys)) ((a, .lst ds) :: μ) (a :: L) ∧ hidL (upd H a (.lst ys)) (a :: L) = hidL H L := by
  have haL : a ∉ L := fun h => by obtain ⟨o, q⟩ := (g.hid a h).there; rw [hn] at q; cases q
  have e : hidL (upd H a (.lst ys)) (a :: L) = hidL H L := by
    funext b
    by_cases hb : b = a
    · rw [hb, hidL_in List.mem_cons_self, hidL_none hn]
    · by_cases hb2 : b ∈ L
      · rw [hidL_in (List.mem_cons_of_mem _ hb2), hidL_in hb2]
      · rw [hidL_out (fun z => (List.mem_cons.mp z).elim hb hb2), hidL_out hb2, upd_ne hb]
  have ne : ∀ {b : Addr} {o : HO}, H b = some o → b ≠ a := fun h => ne_of_none h hn
  refine ⟨⟨fun p hp => ?_, ?_, fun b hb => ?_, fun b hb => ?_⟩, e⟩
  · rcases List.mem_cons.mp hp with rfl | hp
    · exact ⟨List.mem_cons_self, ys, upd_same, by rw [e]; exact d⟩
    · obtain ⟨h1, h2⟩ := g.at_ p hp
      refine ⟨List.mem_cons_of_mem _ h1, ?_⟩
      obtain ⟨b, m⟩ := p
      cases m with
      | lst ds => obtain ⟨ws, h, d⟩ := h2; exact ⟨ws, by rw [upd_ne (ne h)]; exact h, by rw [e]; exact d⟩
      | ins C gs => obtain ⟨dx, fs, h, h2, h3, d⟩ := h2; exact ⟨dx, fs, by rw [upd_ne (ne h)]; exact h, by rw [upd_ne (ne h2)]; exact h2, List.mem_cons_of_mem _ h3, by rw [e]; exact d⟩
      | dK kvs => obtain ⟨ws, h, d⟩ := h2; exact ⟨ws, by rw [upd_ne (ne h)]; exact h, by rw [e]; exact d⟩
  · rw [List.map_cons, List.nodup_cons]
    refine ⟨fun h => ?_, g.nod⟩
    obtain ⟨p, hp, hpa⟩ := List.mem_map.mp h
    have : p.1 = a := hpa
    exact haL (this ▸ (g.at_ p hp).1)
  · rcases List.mem_cons.mp hb with rfl | hb
    · exact .lst ys upd_same
    · have w := g.hid b hb
      cases w with
      | lst xs h => exact .lst xs (by rw [upd_ne (ne h)]; exact h)
      | dK xs h => exact .dK xs (by rw [upd_ne (ne h)]; exact h)
      | ins C dx fs h hd => exact .ins C dx fs (by rw [upd_ne (ne h)]; exact h) (List.mem_cons_of_mem _ hd)
      | own C c fs h hc hi => exact .own C c fs (by rw [upd_ne (ne h)]; exact h) (List.mem_cons_of_mem _ hc) (by rw [upd_ne (ne hi)]; exact hi)
  · rcases List.mem_cons.mp hb with rfl | hb
    · exact .inl ⟨_, List.mem_cons_self⟩
    · rcases g.cov b hb with ⟨m, h⟩ | ⟨c, h⟩
      · exact .inl ⟨m, List.mem_cons_of_mem _ h⟩
      · exact .inr ⟨c, by rw [upd_ne (ne h)]; exact h⟩
end
section
variable {X : Cx} {e : Expr} {te : ED} {es : List Expr} {t : AD} {i : Nat} {x : Str} {p pos pos' apos cpos : Pos}
def mNewL (i : Nat) (t : AD) : TMD := fun E δ μ => t δ fun ds => ds.length ≤ sizeLine ∧ ∀ a, (∀ m, (a, m) ∉ μ) → E.nx (δ.set i (some (.adr a))) ((a, .lst ds) :: μ)
theorem ms_newL (hN : X.N.Nodup) (hi : X.N[i]? = some x) (hx : Loc X.env.scope x) (h : PAd X es t) (hs : swapsWith (.List es p) (some (.Name x pos')) pos.line X.env = pure false := by rfl)
    (hf : X.fn x = true ∨ X.env.scope.names.lookup x = some .local := by first | exact .inl rfl | exact .inr rfl | assumption) : PMd X (.Assign [.Name x pos'] (.List es p) pos) (mNewL i t) := by
  refine ⟨PS.imp (ps_set hN hi hx (pe_frM (pe_lst h.pa)) hs hf) fun D σ H ⟨δ, μ, L, r, g, q⟩ => ⟨L, g.hid, δ, r, h.mono _ _ _ (fun ds ⟨hz, k⟩ vs H1 s1 dvs => ⟨by rw [dvs.length]; exact hz, fun a ha z => ?_⟩) q⟩,
    fun E E' δ μ l q => h.mono _ _ _ (fun ds ⟨hz, k⟩ => ⟨hz, fun a ha => l.nx _ _ (k a ha)⟩) q⟩
  have haL : a ∉ L := fun hl => by have := z a hl; rw [upd_same] at this; cases this
  have nb : ∀ {b : Addr}, b ∈ L → b ≠ a := fun hb w => haL (by rw [← w]; exact hb)
  have z1 : ∀ b ∈ L, H1 b = none := fun b hb => by have := z b hb; rwa [upd_ne (nb hb)] at this
  have eS : showL (upd H1 a (.lst vs)) H L = upd (showL H1 H L) a (.lst vs) := by
    funext b
    by_cases hb : b ∈ L
    · rw [showL_in hb, upd_ne (nb hb), showL_in hb]
    · rw [showL_out hb]
      by_cases hba : b = a
      · rw [hba, upd_same, upd_same]
      · rw [upd_ne hba, upd_ne hba, showL_out hb]
  have e1 : hidL (showL H1 H L) L = H1 := hidL_showL z1
  have g1 : StM X.K (showL H1 H L) μ L := g.show z1 s1
  have hn : showL H1 H L a = none := by rw [showL_out haL]; exact ha
  obtain ⟨g2, e2⟩ := g1.newL hn (ys := vs) (ds := ds) (by rw [e1]; exact dvs)
  rw [eS]
  refine k a (fun m hm => haL (g.at_ _ hm).1) _ _ (a :: L) (by rw [e2, e1]; exact s1) ?_ g2
  rw [e2, e1]
  exact (r.same s1).set i (.adr a)
def mAppend (i : Nat) (te : ED) : TMD := fun E δ μ => ∃ a ds, δ[i]? = some (some (.adr a)) ∧ μ.lookup a = some (.lst ds) ∧ ds.length < sizeLine ∧ te δ fun d => E.nx δ (putM a (.lst (ds ++ [d])) μ)
theorem ms_append (hi : X.N[i]? = some x) (hv : Vis X.env.scope x) (he : PD X e te) (hd : (x == ("__debug__" : Str)) = false := by decide) (hcd : (x == ("__classdict__" : Str)) = false := by decide)
    (hst : starEach [e] X.env = (false, eval e X.env) :: starEach [] X.env := by rfl) (hline : (apos.endLine == cpos.line) = true := by rfl)
    (hfew : ((backTo cpos (starEach [e] X.env)).all (fun x => !x.1) && (backToKw cpos (keywordEach [] X.env)).all (fun x => x.1.isSome) && decide ([e].length + ([] : List Keyword).length + (if ([] : List Keyword).isEmpty then 0 else 1) < 30)) = true := by rfl)
    (hs : swapsWith (.Call (.Attribute (.Name x p) "append" apos) [e] [] cpos) none pos.line X.env = pure false := by rfl)
    (hb : attributeBase (.Name x p) "append" X.env (eval (.Name x p) X.env) = eval (.Name x p) X.env := by rfl) :
    PMd X (.Expr (.Call (.Attribute (.Name x p) "append" apos) [e] [] cpos) pos) (mAppend i te) := by
  refine ⟨PS.imp (ps_expr (pe_bm PySem.F.plainAttrs_list PySem.F.slot_list_append PySem.F.type_list_append mt_append (pe_var hi hv hd hcd) (pa_cons (pe_frM he.pe) pa_nil hst) hb hfew hline hst) hs) fun D σ H ⟨δ, μ, L, r, g, q⟩ => ?_,
    fun E E' δ μ l ⟨a, ds, k1, k2, k3, q⟩ => ⟨a, ds, k1, k2, k3, he.mono _ _ _ (fun d k => l.nx _ _ k) q⟩⟩
  obtain ⟨a, ds, k1, k2, k3, q⟩ := q
  obtain ⟨v, hv1, dv⟩ := r.get i _ k1
  cases dv
  have hm := mem_of_lookup k2
  obtain ⟨haL, vs, hH, dvs⟩ := g.at_ _ hm
  refine ⟨_, hv1, .inl ⟨rfl, _, SqL.of hH⟩, L, g.hid, δ, r, he.mono _ _ _ (fun d k w H1 s1 dw z => ?_) q⟩
  have e1 : hidL (showL H1 H L) L = H1 := hidL_showL z
  have g1 : StM X.K (showL H1 H L) μ L := g.show z s1
  have hH1 : showL H1 H L a = some (.lst vs) := by rw [showL_in haL]; exact hH
  refine ⟨a, vs, w, rfl, rfl, hH1, by rw [dvs.length]; exact k3, ?_⟩
  have g2 := g1.putL haL hH1 (ys := vs ++ [w]) (ds := ds ++ [d]) (by rw [e1]; exact (Dvs.same s1 dvs).append (.cons dw .nil))
  have e2 : hidL (upd (showL H1 H L) a (.lst (vs ++ [w]))) L = H1 := by rw [hidL_upd haL, e1]
  exact k σ _ L (by rw [e2]; exact s1) (by rw [e2]; exact r.same s1) g2
def mClear (i : Nat) : TMD := fun E δ μ => ∃ a ds, δ[i]? = some (some (.adr a)) ∧ μ.lookup a = some (.lst ds) ∧ E.nx δ (putM a (.lst []) μ)
theorem ms_clear (hi : X.N[i]? = some x) (hv : Vis X.env.scope x) (hd : (x == ("__debug__" : Str)) = false := by decide) (hcd : (x == ("__classdict__" : Str)) = false := by decide) (hline : (apos.endLine == cpos.line) = true := by rfl)
    (hs : swapsWith (.Call (.Attribute (.Name x p) "clear" apos) [] [] cpos) none pos.line X.env = pure false := by rfl)
    (hb : attributeBase (.Name x p) "clear" X.env (eval (.Name x p) X.env) = eval (.Name x p) X.env := by rfl) :
    PMd X (.Expr (.Call (.Attribute (.Name x p) "clear" apos) [] [] cpos) pos) (mClear i) := by
  refine ⟨PS.imp (ps_expr (pe_bm0 PySem.F.plainAttrs_list PySem.F.slot_list_clear PySem.F.type_list_clear mt_clear (pe_var hi hv hd hcd) hb hline) hs) fun D σ H ⟨δ, μ, L, r, g, q⟩ => ?_,
    fun E E' δ μ l ⟨a, ds, k1, k2, q⟩ => ⟨a, ds, k1, k2, l.nx _ _ q⟩⟩
  obtain ⟨a, ds, k1, k2, q⟩ := q
  obtain ⟨v, hv1, dv⟩ := r.get i _ k1
  cases dv
  obtain ⟨haL, vs, hH, dvs⟩ := g.at_ _ (mem_of_lookup k2)
  refine ⟨_, hv1, .inl ⟨rfl, _, SqL.of hH⟩, a, vs, rfl, rfl, hH, ?_⟩
  have e2 : hidL (upd H a (.lst [])) L = hidL H L := hidL_upd haL
  exact q σ _ L (by rw [e2]; exact Same.refl _) (by rw [e2]; exact r) (g.putL haL hH .nil)
end
end DC

set_option maxHeartbeats 4000000
namespace L2
open PySem PySem.Spec PyProof.Rows
section
variable {X : Cx} {tg : Expr} {g : TG}
def frG (g : TG) : TG := fun v σ H Q => ∃ L, (∀ a ∈ L, HidOk H L a) ∧ g v σ (hidL H L) fun σ' H4 => (∀ b ∈ L, H4 b = none) → Q σ' (showL H4 H L)
theorem pg_frM (h : PG X tg g) : PG X tg (frG g) := by
  intro pins s σ H v u Q I r ⟨L, hL, q⟩
  refine frameM I hL fun pl I' _ back => ?_
  refine thn (h (pins ++ pl) s σ _ v u _ I' r q) fun _ s1 ⟨σ', H4, I4, k⟩ => ?_
  obtain ⟨z, J⟩ := back _ _ _ I4
  exact ⟨σ', _, J, k z⟩
end
end L2
namespace DC
open PySem PySem.Spec PyProof.Rows L2
section
variable {X : Cx} {tg iter : Expr} {body : List Stmt} {ti : AD} {g : TGD} {tb : TMD} {pos : Pos}
def mFor (ti : AD) (g : TGD) (tb : TMD) : TMD := fun E δ μ => ti δ fun ds => ∃ inv : Nat → SD → Mu → Prop, inv 0 δ μ ∧
  (∀ i d δ' μ', ds[i]? = some d → inv i δ' μ' → g d δ' fun δ2 => tb { E with nx := inv (i + 1), ct := inv (i + 1), bk := E.nx } δ2 μ') ∧ ∀ δ' μ', inv ds.length δ' μ' → E.nx δ' μ'
theorem ms_for (hp : PassesOwn (model X.prog X.w) X.A X.env X.xe) (hc : X.calm = true) (hi : PId X tg iter ti) (hg : PGd X tg g) (hb : PMs X body tb) (hs : ∀ x, foldedSetIterable iter X.env x = pure x := by intro _; rfl) :
    PMd X (.For tg iter body [] pos) (mFor ti g tb) := by
  refine ⟨PS.imp (ps_for hp hc (pi_frM hi.pi) (pg_frM hg.pg) hb.ps hs) fun D σ H ⟨δ, μ, L, r, st, h⟩ => ⟨L, st.hid, δ, r, hi.mono _ _ _ (fun ds ⟨inv, i0, step, fin⟩ J H1 s1 it z => ?_) h⟩, fun E E' δ μ l h => hi.mono _ _ _ (fun ds ⟨inv, i0, step, fin⟩ => ⟨inv, i0, fun i d δ' μ' hd hin => hg.mono _ _ _ _ (fun δ2 q => hb.mono { E with nx := inv (i + 1), ct := inv (i + 1), bk := E.nx } _ _ _ ⟨fun _ _ q => q, l.rt, l.nx, fun _ _ q => q⟩ q) (step i d δ' μ' hd hin), fun δ' μ' q => l.nx _ _ (fin δ' μ' q)⟩) h⟩
  have e1 : hidL (showL H1 H L) L = H1 := hidL_showL z
  refine ⟨fun i m σ' H' => m = ds.length - i ∧ i ≤ ds.length ∧ ∃ δ' μ' L', Same H1 (hidL H' L') ∧ RelS X.K (hidL H' L') σ' δ' ∧ StM X.K H' μ' L' ∧ inv i δ' μ', ⟨ds.length, rfl, Nat.zero_le _, δ, μ, L, by rw [e1]; exact Same.refl _, by rw [e1]; exact r.same s1, st.show z s1, i0⟩, ?_⟩
  rintro i m σ' H' ⟨rfl, hle, δ', μ', L', s', r', st', hin⟩
  have sf : Same H1 H' := s'.trans hidL_same
  by_cases hlt : i < ds.length
  · refine .inr ⟨it.go i H' sf hlt, fun σ2 H2 => ∃ δ2 μ2 L2, Same H1 (hidL H2 L2) ∧ RelS X.K (hidL H2 L2) σ2 δ2 ∧ StM X.K H2 μ2 L2 ∧ inv (i + 1) δ2 μ2, fun σ2 H2 ⟨δ2, μ2, L2, q⟩ => ⟨ds.length - (i + 1), by omega, rfl, hlt, δ2, μ2, L2, q⟩, fun x H'' y => ?_⟩
    obtain ⟨s2, d, hd, Hx, _, dvx, hx, sx⟩ := it.yld i H' x H'' sf hlt y
    have sA : Same (hidL H' L') (hidL H'' L') := hidL_on s2
    have sX : Same Hx (hidL H'' L') := fun b o hb => by
      have nb : b ∉ L' := by
        intro hbL
        rcases hx b o hb with q | q
        · have := s' _ _ q
          rw [hidL_in hbL] at this
          cases this
        · obtain ⟨o', q'⟩ := (st'.hid b hbL).there
          rw [q] at q'
          cases q'
      rw [hidL_out nb]
      exact sx _ _ hb
    have st2 : StM X.K H'' μ' L' := st'.on s2
    refine ⟨L', st2.hid, d, δ', dvx.same sX, r'.same sA, hg.mono _ _ _ _ (fun δ2 q σ3 H3 s3 r3 z3 => ?_) (step i d δ' μ' hd hin)⟩
    have e3 : hidL (showL H3 H'' L') L' = H3 := hidL_showL z3
    have st3 : StM X.K (showL H3 H'' L') μ' L' := st2.show z3 s3
    have sB : Same H1 H3 := s'.trans (sA.trans s3)
    refine ⟨δ2, μ', L', by rw [e3]; exact r3, st3, hb.mono { endM X.K H L D with nx := inv (i + 1), ct := inv (i + 1), bk := (endM X.K H L D).nx } _ _ _ ?_ q⟩
    have sC : Same (hidL H L) (hidL (showL H3 H'' L') L') := by rw [e3]; exact s1.trans sB
    have l := endM_on (K := X.K) (D := D) sC
    refine ⟨fun δ4 μ4 q4 σ4 H4 L4 s4 r4 st4 => ⟨δ4, μ4, L4, ?_, r4, st4, q4⟩, fun _ _ q4 => l.rt _ _ q4, fun _ _ q4 => l.nx _ _ q4, fun δ4 μ4 q4 σ4 H4 L4 s4 r4 st4 => ⟨δ4, μ4, L4, ?_, r4, st4, q4⟩⟩
    · rw [e3] at s4; exact sB.trans s4
    · rw [e3] at s4; exact sB.trans s4
  · have e : i = ds.length := by omega
    subst e
    exact .inl ⟨it.stop H' sf, fin δ' μ' hin σ' H' L' (s1.trans s') r' st'⟩
end
section
variable {P : Program} {w : World} {K : PySem.W.Frag} {mg : Str → Option Value} {base : Heap}
theorem okM {x qual : Str} {st : Stmt} {f : Addr} {fd : FuncData} {N ps : List Str} {k : Nat} {sd : SpD} {t : TMD} (F : Fun K x qual st f fd) (S : FnScope N ps (defScope st)) (len : ∀ ds Q, sd ds Q → ds.length = ps.length)
    (hb : ∀ (cdv : Value) (A : Around) (outer : List Env) (s : Shared) (H : Hp) (E : XK), Room k (A.deeper (envOfC qual (defScope st) s.heap.objs.size f cdv)) → PMs (Bx P w K mg base N qual st f cdv A outer s H E) (defBody st) t)
    (hr : ∀ ds Q, sd ds Q → t { nx := fun _ _ => Q .non, rt := fun d μ => Q (viewD μ d) } (startD N ds) []) : FnOk P w K mg base CX0 (k + 1) f fd ps (spOf K sd) := by
  refine F.ok S (fun vs H Q E ⟨ds, dvs, h⟩ => by rw [dvs.length]; exact len ds _ h) (fun cdv A outer s H vs Q E hroom ⟨ds, dvs, h⟩ => ?_)
  have B := hb cdv A outer s H E hroom
  refine ⟨_, B.ps, startD N ds, [], [], by rw [hidL_nil]; exact start_rel dvs, StM.nil, ?_⟩
  refine B.mono { nx := fun _ _ => kD K H Q .non, rt := fun d μ => kD K H Q (viewD μ d) } _ _ _ ⟨fun δ μ q σ H' L' s' r g => ?_, fun d μ q v H' L' s' g dv => ?_, fun _ _ q => q.elim, fun _ _ q => q.elim⟩ (hr ds _ h)
  · rw [hidL_nil] at s'
    exact q _ H' (s'.trans hidL_same) .non
  · rw [hidL_nil] at s'
    exact q _ H' (s'.trans hidL_same) (g.view dv)
end
end DC

set_option maxHeartbeats 4000000
namespace DC
open PySem PySem.Spec PyProof.Rows L2
structure Cal (P : Program) (w : World) (K : PySem.W.Frag) (mg : Str → Option Value) (base : Heap) (k : Nat) (x : Str) (ps : List Str) (sd : SpD) : Prop where
  ex : ∃ f fd, FnOk P w K mg base CX0 k f fd ps (spOf K sd) ∧ mg x = some (.ref f) ∧ PySem.W.keepIn K (.ref f) = true ∧ Binds K fd ps []
  ms : MonoS sd
section
variable {P : Program} {w : World} {K : PySem.W.Frag} {mg : Str → Option Value} {base : Heap}
theorem Cal.up {j k : Nat} {x : Str} {ps : List Str} {sd : SpD} (c : Cal P w K mg base j x ps sd) (h : j ≤ k) : Cal P w K mg base k x ps sd :=
  ⟨let ⟨f, fd, F, r⟩ := c.ex; ⟨f, fd, F.mono h, r⟩, c.ms⟩
structure Df (K : PySem.W.Frag) (mg : Str → Option Value) (x : Str) (st : Stmt) (ps : List Str) : Prop where
  ex : ∃ f fd, Fun K x x st f fd ∧ mg x = some (.ref f) ∧ Binds K fd ps []
theorem Df.cal {k : Nat} {x : Str} {st : Stmt} {ps N : List Str} {sd : SpD} {t : TSD} (d : Df K mg x st ps) (S : FnScope N ps (defScope st)) (ms : MonoS sd) (len : ∀ ds Q, sd ds Q → ds.length = ps.length)
    (hb : ∀ (f : Addr) (cdv : Value) (A : Around) (outer : List Env) (s : Shared) (H : Hp) (E : XK), Room k (A.deeper (envOfC x (defScope st) s.heap.objs.size f cdv)) → PSsd (Bx P w K mg base N x st f cdv A outer s H E) (defBody st) t)
    (hr : ∀ ds Q, sd ds Q → t { nx := fun _ => Q .non, rt := Q } (startD N ds)) : Cal P w K mg base (k + 1) x ps sd := by
  obtain ⟨f, fd, F, m, b⟩ := d.ex
  exact ⟨⟨f, fd, okD F S len (hb f) hr, m, F.kp, b⟩, ms⟩
theorem Df.calM {k : Nat} {x : Str} {st : Stmt} {ps N : List Str} {sd : SpD} {t : TMD} (d : Df K mg x st ps) (S : FnScope N ps (defScope st)) (ms : MonoS sd) (len : ∀ ds Q, sd ds Q → ds.length = ps.length)
    (hb : ∀ (f : Addr) (cdv : Value) (A : Around) (outer : List Env) (s : Shared) (H : Hp) (E : XK), Room k (A.deeper (envOfC x (defScope st) s.heap.objs.size f cdv)) → PMs (Bx P w K mg base N x st f cdv A outer s H E) (defBody st) t)
    (hr : ∀ ds Q, sd ds Q → t { nx := fun _ _ => Q .non, rt := fun d μ => Q (viewD μ d) } (startD N ds) []) : Cal P w K mg base (k + 1) x ps sd := by
  obtain ⟨f, fd, F, m, b⟩ := d.ex
  exact ⟨⟨f, fd, okM F S len (hb f) hr, m, F.kp, b⟩, ms⟩
end
section
variable {X : Cx} {e : Expr} {es : List Expr} {t : AD} {j k : Nat} {x : Str} {ps : List Str} {sd : SpD} {p pos : Pos}
theorem d_cal (c : Cal X.prog X.w X.K X.mg X.base j x ps sd) (hr : Room k X.A) (hj : j ≤ k) (hg : Gl X x) (ha : PAd X (e :: es) t) (hdb : (x == ("__debug__" : Str)) = false := by decide)
    (h1 : starEach (e :: es) X.env = (false, eval e X.env) :: starEach es X.env := by rfl) (h2 : (backTo pos (starEach es X.env)).any (·.1) = false := by rfl) : PD X (.Call (.Name x p) (e :: es) [] pos) (vCall sd t) := by
  obtain ⟨f, fd, F, m, kp, b⟩ := c.ex
  exact d_call F c.ms (hr.mono hj) hg m kp b ha hdb (pe_call F (hr.mono hj) hg m kp b .nil pass0 ha.pa hdb h1 h2)
end
end DC

set_option maxHeartbeats 4000000
namespace DC
open PySem PySem.Spec PyProof.Rows L2
section
variable {X : Cx} {scope : Scope} {cl : List (Str × Addr)} {x : Str} {caps : List Nat} {cn : List Str} {tg iter elt : Expr} {ifs : List Expr} {ti : AD} {tt : TD} {te : ED} {pos : Pos}
theorem d_lc (S : CompScope X scope cl [x] caps cn) (hc : X.calm = true) (hi : PId X tg iter ti) (hg : ∀ C fp s₂ H₂, PG (cxComp X scope cl C ([x] ++ cn) fp s₂ H₂) tg (gName 0)) (ht : ∀ C fp s₂ H₂, PTsd (cxComp X scope cl C ([x] ++ cn) fp s₂ H₂) ifs tt)
    (he : ∀ C fp s₂ H₂, PD (cxComp X scope cl C ([x] ++ cn) fp s₂ H₂) elt te) (hs : ∀ x, foldedSetIterable iter X.env x = pure x := by intro _; rfl) : PD X (.ListComp elt [⟨tg, iter, ifs, 0⟩] scope pos) (vComp caps ti tt te) :=
  d_comp S hc hi hg ht he (ht 0 [] X.s₀ X.H₀).mono (he 0 [] X.s₀ X.H₀).mono hs
theorem s_lc {i : Nat} {y : Str} {py spos : Pos} (hN : X.N.Nodup) (hi' : X.N[i]? = some y) (hy : Loc X.env.scope y) (S : CompScope X scope cl [x] caps cn) (hc : X.calm = true) (hi : PId X tg iter ti)
    (hg : ∀ C fp s₂ H₂, PG (cxComp X scope cl C ([x] ++ cn) fp s₂ H₂) tg (gName 0)) (ht : ∀ C fp s₂ H₂, PTsd (cxComp X scope cl C ([x] ++ cn) fp s₂ H₂) ifs tt) (he : ∀ C fp s₂ H₂, PD (cxComp X scope cl C ([x] ++ cn) fp s₂ H₂) elt te)
    (hsw : swapsWith (.ListComp elt [⟨tg, iter, ifs, 0⟩] scope pos) (some (.Name y py)) spos.line X.env = pure true := by rfl) (hf : X.fn y = true ∨ X.env.scope.names.lookup y = some .local := by first | exact .inl rfl | exact .inr rfl | assumption)
    (hs : ∀ x, foldedSetIterable iter X.env x = pure x := by intro _; rfl) : PSd X (.Assign [.Name y py] (.ListComp elt [⟨tg, iter, ifs, 0⟩] scope pos) spos) (qSet i (vComp caps ti tt te)) :=
  s_comp hN hi' hy S hc hi hg ht he (ht 0 [] X.s₀ X.H₀).mono (he 0 [] X.s₀ X.H₀).mono hsw hf hs
theorem isSome_of {cl : List (Str × Addr)} {y : Str} : y ∈ cl.map (·.1) → (cl.lookup y).isSome = true := by
  induction cl with
  | nil => intro h; cases h
  | cons p r ih =>
    intro h
    rw [List.lookup_cons]
    cases q : y == p.1 with
    | true => rfl
    | false =>
      rw [List.map_cons, List.mem_cons] at h
      rcases h with h | h
      · rw [h] at q; simp at q
      · exact ih h
theorem free_of {cl : List (Str × Addr)} (ks : List Str) (hk : cl.map (·.1) = ks) (h : ∀ y ∈ scope.names, y.2 = .free → y.1 ∈ ks) : ∀ y ∈ scope.names, y.2 = .free → (cl.lookup y.1).isSome = true := fun y hy e => isSome_of (by rw [hk]; exact h y hy e)
theorem cells_nil {f : Str × Addr → Prop} : ∀ p ∈ ([] : List (Str × Addr)), f p := fun p h => nomatch h
theorem cells_cons {f : Str × Addr → Prop} {a : Str × Addr} {r : List (Str × Addr)} (h : f a) (hr : ∀ p ∈ r, f p) : ∀ p ∈ a :: r, f p := List.forall_mem_cons.mpr ⟨h, hr⟩
end
section
variable {X : Cx} {e : Expr} {te : ED} {p p2 pos : Pos}
theorem isi_bool (hg : Gl X "isinstance") (hm : X.mg "isinstance" = none) (hg2 : Gl X "bool") (hm2 : X.mg "bool" = none) (he : PD X e te) (hs : starEach [e, .Name "bool" p2] X.env = (false, eval e X.env) :: starEach [.Name "bool" p2] X.env := by rfl) : PD X (.Call (.Name "isinstance" p) [e, .Name "bool" p2] [] pos) (vIsiT "bool" te) := (d_isiT he hg hm hg2 hm2 boot_boolT (by decide) (by decide) hs).isiT he.mono (by decide)
theorem isi_int (hg : Gl X "isinstance") (hm : X.mg "isinstance" = none) (hg2 : Gl X "int") (hm2 : X.mg "int" = none) (he : PD X e te) (hs : starEach [e, .Name "int" p2] X.env = (false, eval e X.env) :: starEach [.Name "int" p2] X.env := by rfl) : PD X (.Call (.Name "isinstance" p) [e, .Name "int" p2] [] pos) (vIsiT "int" te) := (d_isiT he hg hm hg2 hm2 boot_intT (by decide) (by decide) hs).isiT he.mono (by decide)
theorem isi_str (hg : Gl X "isinstance") (hm : X.mg "isinstance" = none) (hg2 : Gl X "str") (hm2 : X.mg "str" = none) (he : PD X e te) (hs : starEach [e, .Name "str" p2] X.env = (false, eval e X.env) :: starEach [.Name "str" p2] X.env := by rfl) : PD X (.Call (.Name "isinstance" p) [e, .Name "str" p2] [] pos) (vIsiT "str" te) := (d_isiT he hg hm hg2 hm2 boot_str (by decide) (by decide) hs).isiT he.mono (by decide)
theorem isi_tuple (hg : Gl X "isinstance") (hm : X.mg "isinstance" = none) (hg2 : Gl X "tuple") (hm2 : X.mg "tuple" = none) (he : PD X e te) (hs : starEach [e, .Name "tuple" p2] X.env = (false, eval e X.env) :: starEach [.Name "tuple" p2] X.env := by rfl) : PD X (.Call (.Name "isinstance" p) [e, .Name "tuple" p2] [] pos) (vIsiT "tuple" te) := (d_isiT he hg hm hg2 hm2 boot_tuple (by decide) (by decide) hs).isiT he.mono (by decide)
theorem isi_list (hg : Gl X "isinstance") (hm : X.mg "isinstance" = none) (hg2 : Gl X "list") (hm2 : X.mg "list" = none) (he : PD X e te) (hs : starEach [e, .Name "list" p2] X.env = (false, eval e X.env) :: starEach [.Name "list" p2] X.env := by rfl) : PD X (.Call (.Name "isinstance" p) [e, .Name "list" p2] [] pos) (vIsiT "list" te) := (d_isiT he hg hm hg2 hm2 boot_list (by decide) (by decide) hs).isiT he.mono (by decide)
end
end DC

set_option maxHeartbeats 4000000
namespace DC
open PySem PySem.Spec PyProof.Rows L2
structure Mcal (P : Program) (w : World) (K : PySem.W.Frag) (mg : Str → Option Value) (base : Heap) (j : Nat) (C : Addr) (m : Str) (sd : SpD) (dd : List D) : Prop where
  ex : ∃ f fd ps dvs ds, Cls K C ∧ Meth K C m f ∧ FnOk P w K mg base CX0 j f fd ps (spOf K sd) ∧ Binds K fd ps ds ∧ Vals dvs ds ∧ ∀ H, Dvs K H dvs dd
  ms : MonoS sd
theorem Mcal.mh {X : Cx} {j k : Nat} {C : Addr} {m : Str} {sd : SpD} {dd : List D} (c : Mcal X.prog X.w X.K X.mg X.base j C m sd dd) (hr : Room k X.A) (hj : j ≤ k) : MH X C m sd dd :=
  let ⟨f, fd, ps, dvs, ds, h1, h2, h3, h4, h5, h6⟩ := c.ex
  ⟨j, f, fd, ps, dvs, ds, h1, h2, h3, c.ms, hr.mono hj, h4, h5, h6⟩
theorem Mcal.up {P : Program} {w : World} {K : PySem.W.Frag} {mg : Str → Option Value} {base : Heap} {i j : Nat} {C : Addr} {m : Str} {sd : SpD} {dd : List D} (c : Mcal P w K mg base i C m sd dd) (h : i ≤ j) : Mcal P w K mg base j C m sd dd :=
  ⟨let ⟨f, fd, ps, dvs, ds, h1, h2, h3, r⟩ := c.ex; ⟨f, fd, ps, dvs, ds, h1, h2, h3.mono h, r⟩, c.ms⟩
structure Dm (K : PySem.W.Frag) (C : Addr) (m qual : Str) (st : Stmt) (ps : List Str) : Prop where
  ex : ∃ f fd, Fun K m qual st f fd ∧ Meth K C m f ∧ Cls K C ∧ Binds K fd ps []
section
variable {P : Program} {w : World} {K : PySem.W.Frag} {mg : Str → Option Value} {base : Heap}
theorem Dm.cal {k : Nat} {C : Addr} {m qual : Str} {st : Stmt} {ps N : List Str} {sd : SpD} {t : TSD} (d : Dm K C m qual st ps) (S : FnScope N ps (defScope st)) (ms : MonoS sd) (len : ∀ ds Q, sd ds Q → ds.length = ps.length)
    (hb : ∀ (f : Addr) (cdv : Value) (A : Around) (outer : List Env) (s : Shared) (H : Hp) (E : XK), Room k (A.deeper (envOfC qual (defScope st) s.heap.objs.size f cdv)) → PSsd (Bx P w K mg base N qual st f cdv A outer s H E) (defBody st) t)
    (hr : ∀ ds Q, sd ds Q → t { nx := fun _ => Q .non, rt := Q } (startD N ds)) : Mcal P w K mg base (k + 1) C m sd [] := by
  obtain ⟨f, fd, F, M, c, b⟩ := d.ex
  exact ⟨⟨f, fd, ps, [], [], c, M, okD F S len (hb f) hr, b, .nil, fun _ => .nil⟩, ms⟩
structure Mkr (P : Program) (w : World) (K : PySem.W.Frag) (mg : Str → Option Value) (base : Heap) (j : Nat) (x : Str) (C : Addr) (sd : SpI) (dd : List D) : Prop where
  ex : ∃ f fd ps dvs ds, Mk K C f ∧ FnOk P w K mg base CX0 j f fd ps (spI K C sd) ∧ mg x = some (.ref C) ∧ Binds K fd ps ds ∧ Vals dvs ds ∧ ∀ H, Dvs K H dvs dd
  ms : MonoSI sd
structure Di (K : PySem.W.Frag) (mg : Str → Option Value) (x : Str) (C : Addr) (qual : Str) (st : Stmt) (ps : List Str) (dd : List D) : Prop where
  ex : ∃ f fd dvs ds, FunV K "__init__" qual st f fd ∧ Mk K C f ∧ mg x = some (.ref C) ∧ Binds K fd ps ds ∧ Vals dvs ds ∧ ∀ H, Dvs K H dvs dd
theorem Di.mkr {k : Nat} {x : Str} {C : Addr} {qual : Str} {st : Stmt} {ps N : List Str} {dd : List D} {sd : SpI} {t : Addr → TID} (d : Di K mg x C qual st ps dd) (S : FnScope N ps (defScope st)) (ms : MonoSI sd) (len : ∀ ds Q, sd ds Q → ds.length + 1 = ps.length)
    (hb : ∀ (f : Addr) (cdv : Value) (A : Around) (outer : List Env) (s : Shared) (H : Hp) (E : XK), Room k (A.deeper (envOfC qual (defScope st) s.heap.objs.size f cdv)) → PIs (Bx P w K mg base N qual st f cdv A outer s H E) C (defBody st) t)
    (hr : ∀ a ds Q, sd ds Q → t a { nx := fun _ => Q, rt := Q, fin := Q } (startD N (.adr a :: ds)) []) : Mkr P w K mg base (k + 1) x C sd dd := by
  obtain ⟨f, fd, dvs, ds, F, M, m, b, v, h⟩ := d.ex
  exact ⟨⟨f, fd, ps, dvs, ds, M, okI F S len (hb f) hr, m, b, v, h⟩, ms⟩
end
section
variable {X : Cx} {ok : Addr → Prop} {o e : Expr} {es : List Expr} {m x : Str} {sd : Addr → SpD} {dd : List D} {ta : ED} {t : AD} {pos apos p : Pos} {j k : Nat} {C : Addr} {si : SpI}
theorem d_m0 {pl : Sem Bool} (hM : ∀ C, ok C → Mcal X.prog X.w X.K X.mg X.base j C m (sd C) dd) (hr : Room k X.A) (hj : j ≤ k) (he : PD X o ta)
    (ht : eval (.Call (.Attribute o m apos) [] [] pos) X.env = (do
      let ov ← eval o X.env
      standAt apos.atName
      let (f, first) ← holding [ov] (getMethod ov m pl)
      callWith pos f first (backTo pos (starEach [] X.env)) (backToKw pos (keywordEach [] X.env))) := by rfl) :
    PD X (.Call (.Attribute o m apos) [] [] pos) (vMeth ok m sd dd ta aNil) := d_meth0 (fun C h => (hM C h).mh hr hj) he ht
theorem d_mk (c : Mkr X.prog X.w X.K X.mg X.base j x C si dd) (hr : Room k X.A) (hj : j + 1 ≤ k) (hg : Gl X x) (ha : PAd X (e :: es) t) (hdb : (x == ("__debug__" : Str)) = false := by decide)
    (h1 : starEach (e :: es) X.env = (false, eval e X.env) :: starEach es X.env := by rfl) (h2 : (backTo pos (starEach es X.env)).any (·.1) = false := by rfl) : PD X (.Call (.Name x p) (e :: es) [] pos) (vMake C si dd t) := by
  obtain ⟨f, fd, ps, dvs, ds, M, F, m, b, v, h⟩ := c.ex
  exact d_make M F c.ms (hr.mono hj) hg m b v h ha hdb h1 h2
end
section
variable {X : Cx} {e : Expr} {te : ED} {p p2 pos pos' : Pos} {f x : Str} {C : Addr}
theorem d_fldK (K : PySem.W.Frag) (hK : X.K = K) (he : PD X e te) (hb : attributeBase e f X.env (eval e X.env) = eval e X.env) : PD X (.Attribute e f pos) (vFld K te f) := by subst hK; exact d_fld he hb
theorem d_isiK (K : PySem.W.Frag) (hK : X.K = K) (he : PD X e te) (hg : Gl X "isinstance") (hm : X.mg "isinstance" = none) (hg2 : Gl X x) (hm2 : X.mg x = some (.ref C)) (hd : (x == ("__debug__" : Str)) = false := by decide)
    (hs : starEach [e, .Name x p2] X.env = (false, eval e X.env) :: starEach [.Name x p2] X.env := by rfl) : PD X (.Call (.Name "isinstance" p) [e, .Name x p2] [] pos) (vIsi K (.ref C) te) := by subst hK; exact d_isiC he hg hm hg2 hm2 hd hs
theorem i_setK (K : PySem.W.Frag) (hK : X.K = K) (hN : X.N[0]? = some x) (hv : Vis X.env.scope x) (he : PD X e te) (hs : swapsWith e (some (.Attribute (.Name x p) f pos')) pos.line X.env = pure false := by rfl) (hd : (x == ("__debug__" : Str)) = false := by decide)
    (hcd : (x == ("__classdict__" : Str)) = false := by decide) : PIn X C (.Assign [.Attribute (.Name x p) f pos'] e pos) (iSet K C f te) := by subst hK; exact i_set hN hv he hs hd hcd
end
end DC

set_option maxHeartbeats 4000000
namespace DC
open PySem PySem.Spec PyProof.Rows L2
section
variable {X : Cx} {o e : Expr} {es : List Expr} {to te : ED} {t : AD} {p p1 p2 tp pos apos cpos : Pos}
def vIsi2 (T U : String) (te : ED) : ED := fun δ Q => te δ fun d => ∃ a b, isiT T d = some a ∧ isiT U d = some b ∧ Q (.bl (a || b))
theorem call_isi2 {T U : String} : CallR X (.builtin "isinstance") (fun xs H Q => ∃ x q d t b, xs = [x, .ref q] ∧ H q = some (.tup [.ty T, .ty U]) ∧ Dv X.K H x d ∧ TyD X.K d t ∧ PySem.W.kitAny X.K t [.type T, .type U] = some b ∧ Q (.bl b) H) := by
  intro pins s σ H xs us Q I r h
  obtain ⟨x, q, d, t, b, rfl, hq, dv, ty, e, k⟩ := h
  obtain ⟨u, w', rfl, r1, r2⟩ := vals2 r
  cases (show w' = Value.ref q from r2)
  obtain ⟨Hh, Z, hh, hx⟩ := isi_run I r1 dv ty
  obtain ⟨its, rv, ht, _⟩ := I.tuple (SqT.of hq)
  obtain ⟨ob, ho, hc, n, hd⟩ := id ht
  obtain ⟨y1, y2, rfl, z1, z2⟩ := vals2 rv
  cases (show y1 = Value.type T from z1)
  cases (show y2 = Value.type U from z2)
  obtain ⟨cls, dd, data, sl⟩ := ob
  simp only at hc hd
  subst hc hd
  exact PySem.W.kia_tup Z I.kIn hh ho e hx fun tk => ⟨.bl b, H, I.tok _, rfl, k⟩
theorem kit_two {K : PySem.W.Frag} {d : D} {T U : String} {a b : Bool} (hT : T ∈ ["bool", "int", "str", "list", "tuple", "dict"]) (hU : U ∈ ["bool", "int", "str", "list", "tuple", "dict"]) (h1 : isiT T d = some a) (h2 : isiT U d = some b) :
    ∃ t, TyD K d t ∧ PySem.W.kitAny K t [.type T, .type U] = some (a || b) := by
  unfold DC.isiT at h1 h2
  cases hk : kindD d with
  | none => rw [hk] at h1; cases h1
  | some kk =>
    rw [hk] at h1 h2
    have e1 : (kk == T || (kk == "bool" && T == "int")) = a := by simpa using h1
    have e2 : (kk == U || (kk == "bool" && U == "int")) = b := by simpa using h2
    refine ⟨_, .k hk, ?_⟩
    unfold PySem.W.kitAny
    rw [kit_tbl hk hT, e1]
    cases a with
    | true => rfl
    | false =>
      unfold PySem.W.kitAny
      rw [kit_tbl hk hU, e2]
      cases b <;> rfl
theorem d_isi2 {T U : String} {x y : Str} {c : Nat} (he : PD X e te) (hg : Gl X "isinstance") (hm : X.mg "isinstance" = none) (g1 : Gl X x) (m1 : X.mg x = none) (b1 : bootBuiltins x = some (.type T)) (g2 : Gl X y) (m2 : X.mg y = none) (b2 : bootBuiltins y = some (.type U))
    (hT : T ∈ ["bool", "int", "str", "list", "tuple", "dict"]) (hU : U ∈ ["bool", "int", "str", "list", "tuple", "dict"]) (n1 : x ≠ "__name__" := by decide) (n2 : y ≠ "__name__" := by decide) (d1 : (x == ("__debug__" : Str)) = false := by decide) (d2 : (y == ("__debug__" : Str)) = false := by decide)
    (hs : starEach [e, .Tuple [.Name x p1, .Name y p2] c tp] X.env = (false, eval e X.env) :: starEach [.Tuple [.Name x p1, .Name y p2] c tp] X.env := by rfl) :
    PD X (.Call (.Name "isinstance" p) [e, .Tuple [.Name x p1, .Name y p2] c tp] [] pos) (vIsi2 T U te) := by
  refine ⟨(pe_callB (call_isi2 (T := T) (U := U)) hg hm boot_isinstance (pa_cons he.pe (pa_cons (pe_tup (pa_cons (pe_bltn (v := .ty T) g1 m1 b1 rfl n1 d1) (pa_cons (pe_bltn (v := .ty U) g2 m2 b2 rfl n2 d2) pa_nil))) pa_nil) hs) (he := hs)).imp
    fun σ H Q ⟨δ, r, h⟩ => ⟨δ, r, he.mono _ _ _ (fun d ⟨a, b, ea, eb, k⟩ v H1 s1 dv => ⟨(show 2 ≤ sizeLine by decide), fun q hq => ?_⟩) h⟩, fun δ P P' g h => he.mono _ _ _ (fun d ⟨a, b, ea, eb, k⟩ => ⟨a, b, ea, eb, g _ k⟩) h⟩
  obtain ⟨t, ty, ek⟩ := kit_two (K := X.K) hT hU ea eb
  exact ⟨v, q, d, t, _, rfl, upd_same, dv.same (same_upd hq), ty, ek, k _ _ (s1.trans (same_upd hq)) (.bl _)⟩
def sdSplit (z : D) : SpD := fun ds Q => ∃ x y, z = .str x ∧ ds = [.str y] ∧ (y.length == 0) = false ∧ x.length + 2 ≤ sizeLine ∧ Q (.lst ((Txt.split x y).map D.str))
theorem dvs_strs {K : PySem.W.Frag} {H : Hp} : ∀ (ws : List Str), Dvs K H (ws.map V.str) (ws.map D.str)
  | [] => .nil
  | w :: ws => .cons (.str w) (dvs_strs ws)
def isStr : D → Prop := fun d => ∃ x, d = .str x
def vBmS (sd : D → SpD) (to : ED) (t : AD) : ED := fun δ Q => to δ fun z => isStr z ∧ t δ fun ds => sd z ds Q
theorem d_split (ho : PD X o to) (ha : PAd X (e :: es) t) (hbase : attributeBase o "split" X.env (eval o X.env) = eval o X.env := by rfl)
    (hfew : ((backTo cpos (starEach (e :: es) X.env)).all (fun x => !x.1) && (backToKw cpos (keywordEach [] X.env)).all (fun x => x.1.isSome) && decide ((e :: es).length + ([] : List Keyword).length + (if ([] : List Keyword).isEmpty then 0 else 1) < 30)) = true := by rfl)
    (hline : (apos.endLine == cpos.line) = true := by rfl) (hs : starEach (e :: es) X.env = (false, eval e X.env) :: starEach es X.env := by rfl) (hplain : (backTo cpos (starEach es X.env)).any (·.1) = false := by rfl) :
    PD X (.Call (.Attribute o "split" apos) (e :: es) [] cpos) (vBmS sdSplit to t) := by
  refine ⟨(pe_bm PySem.F.plainAttrs_str PySem.F.slot_str_split PySem.F.type_str_split mt_split ho.pe ha.pa hbase hfew hline hs hplain).imp fun σ H Q ⟨δ, r, h⟩ => ⟨δ, r, ho.mono _ _ _ (fun z ⟨⟨x, ez⟩, q⟩ v H1 s1 dv => ?_) h⟩,
    fun δ P P' g h => ho.mono _ _ _ (fun z ⟨i, q⟩ => ⟨i, ha.mono _ _ _ (fun ds ⟨x, y, e1, e2, c1, c2, k⟩ => ⟨x, y, e1, e2, c1, c2, g _ k⟩) q⟩) h⟩
  subst ez
  cases dv
  refine ⟨rfl, δ, r.same s1, ha.mono _ _ _ (fun ds ⟨x', y, e1, e2, c1, c2, k⟩ vs H2 s2 dvs => ?_) q⟩
  cases e1
  subst e2
  cases dvs with
  | cons a b =>
    cases a
    cases b
    exact ⟨_, y, rfl, rfl, c1, c2, fun p hp => k _ _ ((s1.trans s2).trans (same_upd hp)) (.lst (SqL.of upd_same) (dvs_strs _))⟩
end
end DC

set_option maxHeartbeats 4000000
namespace L2
open PySem PySem.Spec PyProof.Rows
section
variable {X : Cx}
theorem call_maxL : CallR X (.builtin "max") (fun xs H Q => ∃ (p : Addr) (ns : List Int), xs = [.ref p] ∧ X.A.handled = none ∧ SqL X.K H p (ns.map V.int) ∧ ns ≠ [] ∧ Q (.int (maxI 0 ns)) H) := by
  intro pins s σ H xs us Q I r h
  obtain ⟨p, ns, rfl, hh, hS, hne, q⟩ := h
  obtain ⟨u, rfl, ru⟩ := vals1 r
  cases (show u = Value.ref p from ru)
  obtain ⟨its, rv, pl, _⟩ := I.list hS
  have hl := pl.isList
  have hi := ints_are rv
  obtain ⟨xs, hx⟩ := hi.allInts.items
  have hl' : s.heap.IsList p (intItems xs) := hx ▸ hl
  have e1 : ns = xs.toList.map (·.1) := by
    rw [← nums_intItems, ← hx]
    exact (show numsOf its.toArray.toList = ns from hi.numsOf).symm
  have hn : ns.length = xs.size := by rw [e1]; simp
  have hpos : 0 < xs.size := by rw [← hn]; exact List.length_pos_iff.mpr hne
  refine max_intList hh hl' hpos fun v h' tk hv hk => ?_
  obtain ⟨b1, b2⟩ := argBest_max (numAt xs) (xs.size - 1)
  obtain ⟨t, ev⟩ := intItems_at hv
  have hnum : ∀ i, i < ns.length → ns[i]? = some (numAt xs i) := fun i hi' => by
    have hi2 : i < xs.size := by omega
    rw [e1, List.getElem?_map]
    simp [numAt, hi2]
  have em : maxI 0 ns = numAt xs (argBest (fun i j => decide (numAt xs i > numAt xs j)) (xs.size - 1)) := by
    refine maxI_is ?_ fun y hy => ?_
    · exact List.mem_of_getElem? (hnum _ (by omega))
    · obtain ⟨i, hi', rfl⟩ := List.getElem_of_mem hy
      have := hnum i hi'
      rw [List.getElem?_eq_getElem hi'] at this
      rw [Option.some.inj this]
      exact b2 i (by omega)
  rw [em] at q
  subst ev
  exact ⟨.int (numAt xs (argBest (fun i j => decide (numAt xs i > numAt xs j)) (xs.size - 1))), H, I.kept hk, ⟨_, rfl⟩, q⟩
end
end L2
namespace DC
open PySem PySem.Spec PyProof.Rows L2
section
variable {X : Cx} {e : Expr} {es : List Expr} {t : AD} {p pos : Pos}
theorem boot_max : bootBuiltins "max" = some (.builtin "max") := by decide +kernel
def sdMax : SpD := fun ds Q => ∃ (ns : List Int), ds = [.lst (ns.map D.int)] ∧ ns ≠ [] ∧ Q (.int (maxI 0 ns))
theorem m_max : MonoS sdMax := fun ds P P' g ⟨bs, e, h, q⟩ => ⟨bs, e, h, g _ q⟩
theorem does_max {K : PySem.W.Frag} {A : Around} (hh : A.handled = none) : DoesB K (fun xs H Q => ∃ (p : Addr) (ns : List Int), xs = [.ref p] ∧ A.handled = none ∧ SqL K H p (ns.map V.int) ∧ ns ≠ [] ∧ Q (.int (maxI 0 ns)) H) sdMax := by
  intro H vs ds Q dvs ⟨bs, e, hn, q⟩
  subst e
  cases dvs with
  | cons dv r =>
    cases r
    cases dv with
    | lst h1 h2 =>
      rw [vals_int h2] at h1
      exact ⟨_, bs, rfl, hh, h1, hn, q _ H (Same.refl _) (.int _)⟩
theorem d_max (hh : X.A.handled = none) (hg : Gl X "max") (hm : X.mg "max" = none) (ha : PAd X (e :: es) t) (h1 : starEach (e :: es) X.env = (false, eval e X.env) :: starEach es X.env := by rfl) (h2 : (backTo pos (starEach es X.env)).any (·.1) = false := by rfl) : PD X (.Call (.Name "max" p) (e :: es) [] pos) (vB sdMax t) := d_cb (pe_callB call_maxL hg hm boot_max ha.pa (he := h1) (hpl := h2)) ha.mono (does_max hh) m_max
end
end DC

set_option maxHeartbeats 4000000
namespace L2
open PySem PySem.Spec PyProof.Rows
section
variable {prog : Program} {w : World} {A : Around} {E : Value → Shared → Prop} {s : Shared}
theorem nextTup_item {it t : Addr} {i : Nat} {items : Array Value} {x : Value} {Q : Value → Shared → Prop} (hit : s.heap.IsTupleIter it t i) (ht : s.heap.IsTuple t items) (hx : items[i]? = some x)
    (hQ : ∀ h', h'.IsTupleIter it t (i + 1) → Heap.SameBut it s.heap h' → Q x { s with heap := h' }) : wpAny (model prog w) A (Builtin.SmallTypes.nextOf (.ref it)) Q E s := by
  obtain ⟨o, ho, hc, hd⟩ := id hit
  obtain ⟨ol, hol, _, nl, hdl⟩ := ht
  unfold Builtin.SmallTypes.nextOf
  refine wpAny_bind (wpAny_callSpecial?_slot (name := Str.ofString "__next__") hit.typeIs F.slot_tuple_iterator_next (wpAny_call_entry F.slot_tuple_iterator_next hit.typeIs F.entry_tuple_iterator_next ?_ (F.args_tuple_iterator_next_1 _)))
  show wpAny _ _ (field (.ref it) 0 >>= _) _ _ s
  refine wpAny_bind (wpAny_field ho hd (x := .ref t) rfl ?_)
  show wpAny _ _ (if (Value.ref t == Value.none) = true then _ else _) _ _ s
  rw [if_neg (show ¬ ((Value.ref t == Value.none) = true) from Bool.false_ne_true)]
  show wpAny _ _ (field (.ref it) 1 >>= _) _ _ s
  refine wpAny_bind (wpAny_field ho hd (x := .int i 0) rfl ?_)
  show wpAny _ _ (seqItems? (.ref t) >>= _) _ _ s
  refine wpAny_bind (wpAny_seqItems hol hdl ?_)
  simp only [Int.toNat_natCast, hx]
  refine wpAny_bind (wpAny_setField ho hd (by simp) (wpAny_pure ⟨x, rfl, wpAny_pure (hQ _ ?_ (Heap.SameBut.update ..))⟩))
  exact ⟨_, Heap.get?_update_self _ ho (Obj.isFreed_of_fields (Obj.data_mapFields hd _)), (Obj.cls_mapFields ..).trans hc, by rw [Obj.data_mapFields hd]; simp [rawInt]⟩
theorem nextTup_end {it t : Addr} {i : Nat} {items : Array Value} {Q : Value → Shared → Prop} (hh : A.handled = none) (hit : s.heap.IsTupleIter it t i) (ht : s.heap.IsTuple t items) (hx : items[i]? = none)
    (hE : ∀ h' e, Heap.ExtBut it s.heap h' → (∃ o, h'.get? e = some o ∧ o.cls = .type "StopIteration") → E (.ref e) { s with heap := h' }) : wpAny (model prog w) A (Builtin.SmallTypes.nextOf (.ref it)) Q E s := by
  obtain ⟨o, ho, hc, hd⟩ := id hit
  obtain ⟨ol, hol, _, nl, hdl⟩ := ht
  unfold Builtin.SmallTypes.nextOf
  refine wpAny_bind (wpAny_callSpecial?_slot (name := Str.ofString "__next__") hit.typeIs F.slot_tuple_iterator_next (wpAny_call_entry F.slot_tuple_iterator_next hit.typeIs F.entry_tuple_iterator_next ?_ (F.args_tuple_iterator_next_1 _)))
  show wpAny _ _ (field (.ref it) 0 >>= _) _ _ s
  refine wpAny_bind (wpAny_field ho hd (x := .ref t) rfl ?_)
  show wpAny _ _ (if (Value.ref t == Value.none) = true then _ else _) _ _ s
  rw [if_neg (show ¬ ((Value.ref t == Value.none) = true) from Bool.false_ne_true)]
  show wpAny _ _ (field (.ref it) 1 >>= _) _ _ s
  refine wpAny_bind (wpAny_field ho hd (x := .int i 0) rfl ?_)
  show wpAny _ _ (seqItems? (.ref t) >>= _) _ _ s
  refine wpAny_bind (wpAny_seqItems hol hdl ?_)
  simp only [Int.toNat_natCast, hx]
  refine wpAny_bind (wpAny_rule (wpAny_bind (wpAny_setField ho hd (by simp) ?_)))
  show wpAny _ _ (newExc (.type "StopIteration") [] >>= _) _ _ _
  refine wpAny_bind ?_
  simp only [newExc, newTuple]
  refine wpAny_bind (wpAny_newObj_type ?_ (by size_fits))
  refine wpAny_bind (m := firstArgMember _ _) (wpAny_of_eq (a := Value.none) (by first | rfl | (simp only [firstArgMember]; rfl)) ?_)
  refine wpAny_newObj_type ?_ (by size_fits)
  simp only [raiseNew]
  refine wpAny_bind (wpAny_handled ?_)
  first | rw [show A.in1.handled = none from hh] | rw [hh]
  refine wpAny_bind (wpAny_pure (wpAny_throw ?_))
  exact hE _ _ (((Heap.SameBut.update ..).extBut.push _).push _) ⟨_, Heap.get?_push_size _ rfl, rfl⟩
end
structure Sq (prog : Program) (w : World) (A : Around) (i l : Addr) (xs : Array Value) (S : Nat → Heap → Prop) : Prop where
  item : ∀ (k : Nat) (s : Shared) (x : Value) (Q : Value → Shared → Prop) (E : Value → Shared → Prop), S k s.heap → xs[k]? = some x → (∀ h', S (k + 1) h' → Heap.SameBut i s.heap h' → Q x { s with heap := h' }) → wpAny (model prog w) A (Builtin.SmallTypes.nextOf (.ref i)) Q E s
  stop : ∀ (k : Nat) (s : Shared) (Q : Value → Shared → Prop) (E : Value → Shared → Prop), S k s.heap → xs[k]? = none → (∀ h' e, Heap.ExtBut i s.heap h' → (∃ o, h'.get? e = some o ∧ o.cls = .type "StopIteration") → E (.ref e) { s with heap := h' }) → wpAny (model prog w) A (Builtin.SmallTypes.nextOf (.ref i)) Q E s
  keep : ∀ (k : Nat) (h h' : Heap), S k h → (∀ o, h.get? i = some o → h'.get? i = some o) → (∀ o, h.get? l = some o → h'.get? l = some o) → S k h'
  there : ∀ (k : Nat) (h : Heap), S k h → ∃ o, h.get? i = some o ∧ ∀ v, o.data ≠ .cell v
section
variable {prog : Program} {w : World} {A : Around}
theorem sq_list (hh : A.handled = none) (i l : Addr) (hne : l ≠ i) (xs : Array Value) : Sq prog w A i l xs (fun k h => h.IsListIter i l k ∧ h.IsList l xs) where
  item := fun k s x Q E ⟨h1, h2⟩ hx hQ => wpAny_nextOf_list_item h1 h2 hx fun h' h1' sb => hQ h' ⟨h1', h2.extBut sb.extBut hne⟩ sb
  stop := fun k s Q E ⟨h1, h2⟩ hx hE => wpAny_nextOf_list_end hh h1 h2 hx hE
  keep := fun k h h' ⟨h1, h2⟩ a b => ⟨h1.at a, h2.at b⟩
  there := fun k h ⟨⟨o, e, c, d⟩, _⟩ => ⟨o, e, fun v z => by rw [d] at z; cases z⟩
theorem sq_tup (hh : A.handled = none) (i l : Addr) (hne : l ≠ i) (xs : Array Value) : Sq prog w A i l xs (fun k h => h.IsTupleIter i l k ∧ h.IsTuple l xs) where
  item := fun k s x Q E ⟨h1, h2⟩ hx hQ => nextTup_item h1 h2 hx fun h' h1' sb => hQ h' ⟨h1', by obtain ⟨o, e, r⟩ := h2; exact ⟨o, sb.extBut _ _ hne e, r⟩⟩ sb
  stop := fun k s Q E ⟨h1, h2⟩ hx hE => nextTup_end hh h1 h2 hx hE
  keep := fun k h h' ⟨h1, h2⟩ a b => ⟨h1.at a, by obtain ⟨o, e, r⟩ := h2; exact ⟨o, b _ e, r⟩⟩
  there := fun k h ⟨⟨o, e, c, d⟩, _⟩ => ⟨o, e, fun v z => by rw [d] at z; cases z⟩
end
section
variable {prog : Program} {w : World} {A : Around} {E : Value → Shared → Prop} {s : Shared} {z TI TO i1 i2 l1 l2 : Addr} {k1 k2 : Nat} {xs ys : Array Value} {x y a b : Value} {S1 S2 : Nat → Heap → Prop}
theorem zipNext_item {Q : Value → Shared → Prop} (D : ZipApart z TI TO i1 i2 l1 l2) (q1 : Sq prog w A i1 l1 xs S1) (q2 : Sq prog w A i2 l2 ys S2)
    (hz : IsZip s.heap z TI TO .none) (hTI : IsPair s.heap TI (.ref i1) (.ref i2)) (hTO : IsPair s.heap TO a b) (h1 : S1 k1 s.heap) (h2 : S2 k2 s.heap) (hx : xs[k1]? = some x) (hy : ys[k2]? = some y)
    (hQ : ∀ h', IsZip h' z TI TO (rawInt s.heap.objs.size) → IsPair h' TO x y → S1 (k1 + 1) h' → S2 (k2 + 1) h' → IsPair h' s.heap.objs.size x y → h'.objs.size = s.heap.objs.size + 1 →
      (∀ c o, c ≠ z → c ≠ TO → c ≠ i1 → c ≠ i2 → s.heap.get? c = some o → h'.get? c = some o) → Q (.ref s.heap.objs.size) { s with heap := h' }) :
    wpAny (model prog w) A (Builtin.«zip.__next__» ⟨[.ref z], []⟩) (fun fin s' => ∃ v, fin = .done (.ret v) ∧ Q v s') E s := by
  show wpAny _ _ (field (.ref z) 2 >>= _) _ _ _
  refine wpAny_bind (wpAny_field hz rfl (x := .bool false) rfl ?_)
  show wpAny _ _ (field (.ref z) 3 >>= _) _ _ _
  refine wpAny_bind (wpAny_field hz rfl (x := .ref TI) rfl ?_)
  refine wpAny_bind (wpAny_seqItems hTI rfl ?_)
  show wpAny _ _ (Builtin.SmallTypes.ownedTupleIsFree (.ref z) >>= _) _ _ _
  refine wpAny_bind ?_
  unfold Builtin.SmallTypes.ownedTupleIsFree
  refine wpAny_bind (wpAny_field hz rfl (x := .none) rfl (wpAny_pure ?_))
  simp only [if_true]
  refine wpAny_bind (wpAny_rule (wpAny_bind (wpAny_field hz rfl (x := .ref TO) rfl (wpAny_bind (wpAny_setField_rec hz (by simp) fun g1 hz1 e1 => ?_)))))
  replace hz1 : IsZip g1 z TI TO .ellipsis := hz1
  refine wpAny_bind ?_
  simp only [List.zipIdx_cons, List.zipIdx_nil, List.forIn_cons, List.forIn_nil]
  refine wpAny_bind (wpAny_bind (wpAny_onRaise ?_))
  show wpAny _ _ (Builtin.SmallTypes.nextOf (.ref i1) >>= _) _ _ _
  have s11 : S1 k1 g1 := q1.keep _ _ _ h1 (fun o q => e1.extBut _ _ D.i1z q) (fun o q => e1.extBut _ _ D.l1z q)
  refine wpAny_bind (q1.item k1 _ x _ _ s11 hx fun g2 s12 e2 => wpAny_pure ?_)
  have p2 : IsPair g2 TO a b := e2.extBut _ _ D.TOi1 (e1.extBut _ _ D.TOz hTO)
  refine wpAny_bind (wpAny_seqItems p2 rfl (wpAny_bind (wpAny_updateSeq_pair p2 fun g3 p3 e3 => ?_)))
  replace p3 : IsPair g3 TO x b := p3
  refine wpAny_bind (wpAny_letGo (wpAny_pure ?_))
  refine wpAny_bind (wpAny_bind (wpAny_onRaise ?_))
  show wpAny _ _ (Builtin.SmallTypes.nextOf (.ref i2) >>= _) _ _ _
  have s23 : S2 k2 g3 := q2.keep _ _ _ h2 (fun o q => e3.extBut _ _ D.TOi2.symm (e2.extBut _ _ D.i12.symm (e1.extBut _ _ D.i2z q))) (fun o q => e3.extBut _ _ D.l2TO (e2.extBut _ _ D.l2i1 (e1.extBut _ _ D.l2z q)))
  refine wpAny_bind (q2.item k2 _ y _ _ s23 hy fun g4 s24 e4 => wpAny_pure ?_)
  have p4 : IsPair g4 TO x b := e4.extBut _ _ D.TOi2 p3
  refine wpAny_bind (wpAny_seqItems p4 rfl (wpAny_bind (wpAny_updateSeq_pair p4 fun g5 p5 e5 => ?_)))
  replace p5 : IsPair g5 TO x y := p5
  refine wpAny_bind (wpAny_letGo (wpAny_pure (wpAny_pure ?_)))
  refine wpAny_bind (wpAny_seqItems p5 rfl (wpAny_bind (wpAny_newTuple ?_)))
  have hsz : g5.objs.size = s.heap.objs.size := by rw [e5.1, e4.1, e3.1, e2.1, e1.1]
  have z5 : IsZip g5 z TI TO .ellipsis := e5.extBut _ _ D.TOz.symm (e4.extBut _ _ D.i2z.symm (e3.extBut _ _ D.TOz.symm (e2.extBut _ _ D.i1z.symm hz1)))
  have zlt : z < g5.objs.size := Heap.lt_size z5
  show wpAny _ _ (Builtin.SmallTypes.ownedTupleHandOut (.ref z) (.ref g5.objs.size) >>= _) _ _ _
  refine wpAny_bind ?_
  unfold Builtin.SmallTypes.ownedTupleHandOut
  have z6 : IsZip (g5.push { cls := .type "tuple", data := .seq #[x, y] }) z TI TO .ellipsis := Heap.get?_push_of_some _ z5
  refine wpAny_bind (wpAny_setField_rec z6 (by simp) fun g7 z7 e7 => ?_)
  replace z7 : IsZip g7 z TI TO (rawInt g5.objs.size) := z7
  refine wpAny_setField_rec z7 (by simp) fun g8 z8 e8 => ?_
  replace z8 : IsZip g8 z TI TO (rawInt g5.objs.size) := z8
  have up : ∀ c o, c ≠ z → g5.get? c = some o → g8.get? c = some o := fun c o c1 q => e8.extBut _ _ c1 (e7.extBut _ _ c1 (Heap.get?_push_of_some _ q))
  have t8 : IsPair g8 g5.objs.size x y := e8.extBut _ _ (Nat.ne_of_gt zlt) (e7.extBut _ _ (Nat.ne_of_gt zlt) (Heap.get?_push_size _ rfl))
  have n8 : g8.objs.size = g5.objs.size + 1 := by rw [e8.1, e7.1, Heap.size_push]
  have f1 : S1 (k1 + 1) g8 := q1.keep _ _ _ s12 (fun o q => up _ _ D.i1z (e5.extBut _ _ D.TOi1.symm (e4.extBut _ _ D.i12 (e3.extBut _ _ D.TOi1.symm q)))) (fun o q => up _ _ D.l1z (e5.extBut _ _ D.l1TO (e4.extBut _ _ D.l1i2 (e3.extBut _ _ D.l1TO q))))
  have f2 : S2 (k2 + 1) g8 := q2.keep _ _ _ s24 (fun o q => up _ _ D.i2z (e5.extBut _ _ D.TOi2.symm q)) (fun o q => up _ _ D.l2z (e5.extBut _ _ D.l2TO q))
  rw [hsz] at z8 t8 n8
  refine wpAny_pure ⟨_, rfl, ?_⟩
  show Q (.ref g5.objs.size) _
  rw [hsz]
  exact hQ g8 z8 (up _ _ D.TOz p5) f1 f2 t8 n8 fun c o c1 c2 c3 c4 q => up c o c1 (e5.extBut _ _ c2 (e4.extBut _ _ c4 (e3.extBut _ _ c2 (e2.extBut _ _ c3 (e1.extBut _ _ c1 q)))))
theorem zipNext_end {Q : Fin → Shared → Prop} (D : ZipApart z TI TO i1 i2 l1 l2) (q1 : Sq prog w A i1 l1 xs S1) (q2 : Sq prog w A i2 l2 ys S2)
    (hz : IsZip s.heap z TI TO .none) (hTI : IsPair s.heap TI (.ref i1) (.ref i2)) (hTO : IsPair s.heap TO a b) (h1 : S1 k1 s.heap) (h2 : S2 k2 s.heap) (hend : xs[k1]? = none ∨ ys[k2]? = none)
    (hE : ∀ h' e, (∀ c o, c ≠ z → c ≠ TO → c ≠ i1 → c ≠ i2 → s.heap.get? c = some o → h'.get? c = some o) → (∃ o, h'.get? e = some o ∧ o.cls = .type "StopIteration") → E (.ref e) { s with heap := h' }) :
    wpAny (model prog w) A (Builtin.«zip.__next__» ⟨[.ref z], []⟩) Q E s := by
  show wpAny _ _ (field (.ref z) 2 >>= _) _ _ _
  refine wpAny_bind (wpAny_field hz rfl (x := .bool false) rfl ?_)
  show wpAny _ _ (field (.ref z) 3 >>= _) _ _ _
  refine wpAny_bind (wpAny_field hz rfl (x := .ref TI) rfl ?_)
  refine wpAny_bind (wpAny_seqItems hTI rfl ?_)
  show wpAny _ _ (Builtin.SmallTypes.ownedTupleIsFree (.ref z) >>= _) _ _ _
  refine wpAny_bind ?_
  unfold Builtin.SmallTypes.ownedTupleIsFree
  refine wpAny_bind (wpAny_field hz rfl (x := .none) rfl (wpAny_pure ?_))
  simp only [if_true]
  refine wpAny_bind (wpAny_rule (wpAny_bind (wpAny_field hz rfl (x := .ref TO) rfl (wpAny_bind (wpAny_setField_rec hz (by simp) fun g1 hz1 e1 => ?_)))))
  replace hz1 : IsZip g1 z TI TO .ellipsis := hz1
  refine wpAny_bind ?_
  simp only [List.zipIdx_cons, List.zipIdx_nil, List.forIn_cons, List.forIn_nil]
  refine wpAny_bind (wpAny_bind (wpAny_onRaise ?_))
  show wpAny _ _ (Builtin.SmallTypes.nextOf (.ref i1) >>= _) _ _ _
  have s11 : S1 k1 g1 := q1.keep _ _ _ h1 (fun o q => e1.extBut _ _ D.i1z q) (fun o q => e1.extBut _ _ D.l1z q)
  cases hx : xs[k1]? with
  | none =>
    refine wpAny_bind (q1.stop k1 _ _ _ s11 hx fun g2 e e2 he => ?_)
    obtain ⟨oe, hoe, hce⟩ := he
    have z2 : IsZip g2 z TI TO .ellipsis := e2 _ _ D.i1z.symm hz1
    have hez : e ≠ z := fun q => by subst q; rw [z2] at hoe; cases hoe; simp at hce
    exact wpAny_setField_rec z2 (by simp) fun g3 _ e3 => hE g3 e (fun c o c1 _ c3 _ q => e3.extBut _ _ c1 (e2 _ _ c3 (e1.extBut _ _ c1 q))) ⟨oe, e3.extBut _ _ hez hoe, hce⟩
  | some x =>
    have hy : ys[k2]? = none := by rcases hend with h | h; rw [hx] at h; cases h; exact h
    refine wpAny_bind (q1.item k1 _ x _ _ s11 hx fun g2 s12 e2 => wpAny_pure ?_)
    have p2 : IsPair g2 TO a b := e2.extBut _ _ D.TOi1 (e1.extBut _ _ D.TOz hTO)
    refine wpAny_bind (wpAny_seqItems p2 rfl (wpAny_bind (wpAny_updateSeq_pair p2 fun g3 p3 e3 => ?_)))
    refine wpAny_bind (wpAny_letGo (wpAny_pure ?_))
    refine wpAny_bind (wpAny_bind (wpAny_onRaise ?_))
    show wpAny _ _ (Builtin.SmallTypes.nextOf (.ref i2) >>= _) _ _ _
    have s23 : S2 k2 g3 := q2.keep _ _ _ h2 (fun o q => e3.extBut _ _ D.TOi2.symm (e2.extBut _ _ D.i12.symm (e1.extBut _ _ D.i2z q))) (fun o q => e3.extBut _ _ D.l2TO (e2.extBut _ _ D.l2i1 (e1.extBut _ _ D.l2z q)))
    refine wpAny_bind (q2.stop k2 _ _ _ s23 hy fun g4 e e4 he => ?_)
    obtain ⟨oe, hoe, hce⟩ := he
    have z4 : IsZip g4 z TI TO .ellipsis := e4 _ _ D.i2z.symm (e3.extBut _ _ D.TOz.symm (e2.extBut _ _ D.i1z.symm hz1))
    have hez : e ≠ z := fun q => by subst q; rw [z4] at hoe; cases hoe; simp at hce
    exact wpAny_setField_rec z4 (by simp) fun g5 _ e5 => hE g5 e (fun c o c1 c2 c3 c4 q => e5.extBut _ _ c1 (e4 _ _ c4 (e3.extBut _ _ c2 (e2.extBut _ _ c3 (e1.extBut _ _ c1 q))))) ⟨oe, e5.extBut _ _ hez hoe, hce⟩
end
end L2

set_option maxHeartbeats 4000000
namespace L2
open PySem PySem.Spec PyProof.Rows
section
variable {prog : Program} {w : World} {A : Around} {E : Value → Shared → Prop} {s : Shared} {z TI TO i1 i2 l1 l2 : Addr} {k1 k2 : Nat} {xs ys : Array Value} {x y a b : Value} {S1 S2 : Nat → Heap → Prop}
theorem pyNextZip_item {Q : Option Value → Shared → Prop} (D : ZipApart z TI TO i1 i2 l1 l2) (q1 : ∀ A : Around, A.handled = none → Sq prog w A i1 l1 xs S1) (q2 : ∀ A : Around, A.handled = none → Sq prog w A i2 l2 ys S2) (hh : A.handled = none)
    (hz : IsZip s.heap z TI TO .none) (hTI : IsPair s.heap TI (.ref i1) (.ref i2)) (hTO : IsPair s.heap TO a b) (h1 : S1 k1 s.heap) (h2 : S2 k2 s.heap) (hx : xs[k1]? = some x) (hy : ys[k2]? = some y)
    (hQ : ∀ h', IsZip h' z TI TO (rawInt s.heap.objs.size) → IsPair h' TO x y → S1 (k1 + 1) h' → S2 (k2 + 1) h' → IsPair h' s.heap.objs.size x y → h'.objs.size = s.heap.objs.size + 1 →
      (∀ c o, c ≠ z → c ≠ TO → c ≠ i1 → c ≠ i2 → s.heap.get? c = some o → h'.get? c = some o) → Q (some (.ref s.heap.objs.size)) { s with heap := h' }) :
    wpAny (model prog w) A (pyNext (.ref z)) Q E s := by
  have hT : s.TypeIs (.ref z) "zip" := ⟨_, hz, rfl⟩
  unfold pyNext
  exact wpAny_bind (wpAny_attempt (wpAny_callSpecial?_slot (name := Str.ofString "__next__") hT F.slot_zip_next
    (wpAny_call_entry F.slot_zip_next hT F.entry_zip_next
      (zipNext_item D (q1 _ hh) (q2 _ hh) hz hTI hTO h1 h2 hx hy fun h' a1 a2 a3 a4 a5 a6 a7 => wpAny_pure (hQ h' a1 a2 a3 a4 a5 a6 a7)) (F.args_zip_next_1 _))))
theorem pyNextZip_end {Q : Option Value → Shared → Prop} (D : ZipApart z TI TO i1 i2 l1 l2) (q1 : ∀ A : Around, A.handled = none → Sq prog w A i1 l1 xs S1) (q2 : ∀ A : Around, A.handled = none → Sq prog w A i2 l2 ys S2) (hh : A.handled = none)
    (hz : IsZip s.heap z TI TO .none) (hTI : IsPair s.heap TI (.ref i1) (.ref i2)) (hTO : IsPair s.heap TO a b) (h1 : S1 k1 s.heap) (h2 : S2 k2 s.heap) (hend : xs[k1]? = none ∨ ys[k2]? = none)
    (hQ : ∀ h', (∀ c o, c ≠ z → c ≠ TO → c ≠ i1 → c ≠ i2 → s.heap.get? c = some o → h'.get? c = some o) → Q none { s with heap := h' }) : wpAny (model prog w) A (pyNext (.ref z)) Q E s := by
  have hT : s.TypeIs (.ref z) "zip" := ⟨_, hz, rfl⟩
  unfold pyNext
  refine wpAny_bind (wpAny_attempt (wpAny_callSpecial?_slot (name := Str.ofString "__next__") hT F.slot_zip_next
    (wpAny_call_entry F.slot_zip_next hT F.entry_zip_next (zipNext_end D (q1 _ hh) (q2 _ hh) hz hTI hTO h1 h2 hend fun h' e hk he => ?_) (F.args_zip_next_1 _))))
  obtain ⟨o, ho, hc⟩ := he
  refine wpAny_bind (wpAny_isInstance (T := "StopIteration") (b := true) ⟨o, ho, hc⟩ isSubtype_stop ?_)
  exact wpAny_pure (hQ _ hk)
end
def ItLays (v : Value) (o : Obj) (P : Heap → Prop) : Prop := ∀ (prog : Program) (w : World) (A : Around) (s : Shared) (Q : Value → Shared → Prop) (E : Value → Shared → Prop), P s.heap → Q (.ref s.heap.objs.size) { s with heap := s.heap.push o } → wpAny (model prog w) A (pyIter v) Q E s
abbrev zp1 (h : Heap) (o1 : Obj) : Heap := h.push o1
abbrev zp2 (h : Heap) (o1 o2 : Obj) : Heap := (zp1 h o1).push o2
abbrev zp3 (h : Heap) (o1 o2 : Obj) : Heap := (zp2 h o1 o2).push { cls := .type "tuple", data := .seq #[.ref h.objs.size, .ref (zp1 h o1).objs.size] }
abbrev zp4 (h : Heap) (o1 o2 : Obj) : Heap := (zp3 h o1 o2).push { cls := .type "tuple", data := .seq #[.none, .none] }
abbrev zp5 (h : Heap) (o1 o2 : Obj) : Heap := (zp4 h o1 o2).push { cls := .type "zip", data := .fields #[.none, .bool false, .bool false, .ref (zp2 h o1 o2).objs.size, .ref (zp3 h o1 o2).objs.size] }
theorem meets_zip (v1 v2 : Value) (o1 o2 : Obj) {P1 P2 : Heap → Prop} (p1 : ItLays v1 o1 P1) (p2 : ItLays v2 o2 P2) :
    Meets (Builtin.«zip.__new__» ⟨[.type "zip", v1, v2], []⟩) (fun _ R s => P1 s.heap ∧ P2 (s.heap.push o1) ∧ R (.ok (.ret (.ref (zp4 s.heap o1 o2).objs.size))) { s with heap := zp5 s.heap o1 o2 }) :=
  .of_wp fun prog w A R s h => by
    obtain ⟨hp, g, d, tk, os⟩ := s; obtain ⟨hl1, hl2, h⟩ := h
    have hsub := sub_zip
    have q1 := fun {A : Around} {Q : Value → Shared → Prop} {E : Value → Shared → Prop} => p1 prog w A ⟨hp, g, d, tk, os⟩ Q E hl1
    have q2 := fun {A : Around} {Q : Value → Shared → Prop} {E : Value → Shared → Prop} => p2 prog w A ⟨hp.push o1, g, d, tk, os⟩ Q E hl2
    wp_walk using q1, q2
    exact ⟨_, rfl, h⟩
end L2

set_option maxHeartbeats 4000000
namespace L2
open PySem PySem.Spec PyProof.Rows
def Sqb (K : PySem.W.Frag) (isL : Bool) (H : Hp) (a : Addr) (xs : List V) : Prop := if isL = true then SqL K H a xs else SqT K H a xs
def itObj (isL : Bool) (l : Addr) : Obj := { cls := .type (if isL then "list_iterator" else "tuple_iterator"), data := .fields #[.ref l, .int 0 0] }
def ItAt (isL : Bool) (i l : Addr) (k : Nat) (h : Heap) : Prop := if isL = true then h.IsListIter i l k else h.IsTupleIter i l k
def SeqIs (isL : Bool) (l : Addr) (xs : Array Value) (h : Heap) : Prop := if isL = true then h.IsList l xs else h.IsTuple l xs
section
variable {X : Cx} {pins : List (Addr × Obj)} {σ : St} {H : Hp} {s : Shared} {a : Addr} {xs ys : List V}
theorem Inv.sqb {isL : Bool} (I : Inv X pins σ H s) (h : Sqb X.K isL H a xs) : ∃ its : List Value, Vals xs its ∧ SeqIs isL a its.toArray s.heap := by
  cases isL with
  | true => obtain ⟨its, r, p, _⟩ := I.list h; exact ⟨its, r, p.isList⟩
  | false => obtain ⟨its, r, p, _⟩ := I.tuple h; exact ⟨its, r, p⟩
theorem Inv.sqb_inj {isL : Bool} (I : Inv X pins σ H s) (h : Sqb X.K isL H a xs) (h' : Sqb X.K isL H a ys) : xs = ys := by
  cases isL with
  | true => exact I.list_inj h h'
  | false => exact I.tuple_inj h h'
theorem sq_any {prog : Program} {w : World} {A : Around} {isL : Bool} (hh : A.handled = none) (i l : Addr) (hne : l ≠ i) (xs : Array Value) : Sq prog w A i l xs (fun k h => ItAt isL i l k h ∧ SeqIs isL l xs h) := by
  cases isL with
  | true => exact sq_list hh i l hne xs
  | false => exact sq_tup hh i l hne xs
theorem ItAt.keep {isL : Bool} {i l : Addr} {k : Nat} {h h' : Heap} (q : ItAt isL i l k h) (e : ∀ o, h.get? i = some o → h'.get? i = some o) : ItAt isL i l k h' := by
  cases isL with
  | true => exact Heap.IsListIter.at q e
  | false => exact Heap.IsTupleIter.at q e
theorem ItAt.obj {isL : Bool} {i l : Addr} {k : Nat} {h : Heap} (q : ItAt isL i l k h) : ∃ o, h.get? i = some o ∧ ∀ v, o.data ≠ .cell v := by
  cases isL with
  | true => obtain ⟨o, e, c, d⟩ := (show h.IsListIter i l k from q); exact ⟨o, e, fun v z => by rw [d] at z; cases z⟩
  | false => obtain ⟨o, e, c, d⟩ := (show h.IsTupleIter i l k from q); exact ⟨o, e, fun v z => by rw [d] at z; cases z⟩
theorem Inv.turnedT {h' : Heap} {t' : Nat} {ch : List Addr} {T : Addr} {u1 u2 : Value} {x y : V} (I : Inv X pins σ H s) (hk : ∀ b o, b ∉ ch → s.heap.get? b = some o → h'.get? b = some o) (hf : ∀ b ∈ ch, FpOk X pins H b)
    (hT : s.heap.objs.size ≤ T) (hp : IsPair h' T u1 u2) (r1 : RelV x u1) (r2 : RelV y u2) : Inv X pins σ (upd H T (.tup [x, y])) { s with heap := h', toks := t' } := by
  have hn : H T = none := I.hok.fresh hT
  have nT : ∀ {b : Addr} {o : Obj}, s.heap.get? b = some o → b ≠ T := fun e => Nat.ne_of_lt (Nat.lt_of_lt_of_le (Heap.lt_size e) hT)
  have nch : ∀ {b : Addr} {o : HO}, H b = some o → b ∉ ch := fun e hb => by rw [(hf _ hb).1] at e; cases e
  refine I.call' (ch := ch) rfl ⟨fun b o e n hb hc => hk b o hc e, fun b o e n hb hc => ⟨o.slots, hk b o hc e⟩, fun b o e n hc => by rw [upd_ne (nT e)]; exact n, fun b o e hc => ⟨o, hk b o hc e⟩,
    fun b zs e => by rw [upd_ne (ne_of_none e hn)]; exact e, fun b o u e => by rw [upd_ne (ne_of_none e hn)]; exact e, fun b ps e => ⟨#[], by rw [upd_ne (ne_of_none e hn), e]; simp⟩⟩ (fun b o e => ?_) I.bare fun b hb => ?_
  · by_cases hb : b = T
    · rw [hb, upd_same] at e
      cases e
      rw [hb]
      exact ⟨(show 2 ≤ sizeLine by decide), [u1, u2], .cons r1 (.cons r2 .nil), _, hp, rfl, _, rfl⟩
    · rw [upd_ne hb] at e
      refine (I.hok b o e).stay (fun c u hc q => hk c u ?_ q) (fun c hc => by rw [upd_ne (ne_of_none hc hn)]; exact hc) (fun c zs hc => by rw [upd_ne (ne_of_none hc hn)]; exact hc)
      rcases hc with rfl | hc
      · exact nch e
      · exact nch hc
  · obtain ⟨_, f2, f3, f4, f5, f6⟩ := hf b hb
    exact ⟨f4, f2, f5, f6⟩
theorem Inv.turnedS {h' : Heap} {t' : Nat} {ch : List Addr} (I : Inv X pins σ H s) (hk : ∀ b o, b ∉ ch → s.heap.get? b = some o → h'.get? b = some o) (hf : ∀ b ∈ ch, FpOk X pins H b) : Inv X pins σ H { s with heap := h', toks := t' } := by
  have nch : ∀ {b : Addr} {o : HO}, H b = some o → b ∉ ch := fun e hb => by rw [(hf _ hb).1] at e; cases e
  refine I.call' (ch := ch) rfl ⟨fun b o e n hb hc => hk b o hc e, fun b o e n hb hc => ⟨o.slots, hk b o hc e⟩, fun b o e n hc => n, fun b o e hc => ⟨o, hk b o hc e⟩, fun b zs e => e, fun b o u e => e, fun b ps e => ⟨#[], by rw [e]; simp⟩⟩ (fun b o e => ?_) I.bare fun b hb => ?_
  · refine (I.hok b o e).stay (fun c u hc q => hk c u ?_ q) (fun c hc => hc) (fun c zs hc => hc)
    rcases hc with rfl | hc
    · exact nch e
    · exact nch hc
  · obtain ⟨_, f2, f3, f4, f5, f6⟩ := hf b hb
    exact ⟨f4, f2, f5, f6⟩
end
def Itz (K : PySem.W.Frag) (b1 b2 : Bool) (l1 l2 : Addr) : It where
  go := fun i H => ∃ xs ys x y, Sqb K b1 H l1 xs ∧ Sqb K b2 H l2 ys ∧ xs[i]? = some x ∧ ys[i]? = some y
  yld := fun i H v H' => ∃ p x y, H p = none ∧ v = .ref p ∧ H' = upd H p (.tup [x, y]) ∧ (∀ xs, Sqb K b1 H l1 xs → xs[i]? = some x) ∧ ∀ ys, Sqb K b2 H l2 ys → ys[i]? = some y
  stop := fun i H => ∃ xs ys, Sqb K b1 H l1 xs ∧ Sqb K b2 H l2 ys ∧ (xs[i]? = none ∨ ys[i]? = none)
theorem turn_zip {P : Program} {w : World} {K : PySem.W.Frag} {elts : List Expr} {c : Nat} {tp : Pos} {b1 b2 : Bool} {z TI TO i1 i2 l1 l2 : Addr} (D : ZipApart z TI TO i1 i2 l1 l2) :
    Turn P w K (.Tuple elts c tp) (Itz K b1 b2 l1 l2) [z, TI, TO, i1, i2] z (fun i h => IsZip h z TI TO .none ∧ IsPair h TI (.ref i1) (.ref i2) ∧ (∃ a b, IsPair h TO a b) ∧ ItAt b1 i1 l1 i h ∧ ItAt b2 i2 l2 i h) where
  mem := by simp
  obj := fun i h ⟨hz, hTI, ⟨a, b, hTO⟩, h1, h2⟩ q hq => by
    simp only [List.mem_cons, List.not_mem_nil, or_false] at hq
    rcases hq with rfl | rfl | rfl | rfl | rfl
    · exact ⟨_, hz, fun v e => by cases e⟩
    · exact ⟨_, hTI, fun v e => by cases e⟩
    · exact ⟨_, hTO, fun v e => by cases e⟩
    · exact h1.obj
    · exact h2.obj
  keep := fun i h h' ⟨hz, hTI, ⟨a, b, hTO⟩, h1, h2⟩ k => ⟨k _ (by simp) _ hz, k _ (by simp) _ hTI, ⟨a, b, k _ (by simp) _ hTO⟩, h1.keep (k _ (by simp)), h2.keep (k _ (by simp))⟩
  item := by
    intro X hP hw hK hc i pins s σ H E I hf st hg
    subst hP hw hK
    obtain ⟨hz, hTI, ⟨a, b, hTO⟩, h1, h2⟩ := st
    obtain ⟨xs, ys, x, y, hq1, hq2, hx, hy⟩ := hg
    obtain ⟨its1, rv1, p1⟩ := I.sqb hq1
    obtain ⟨its2, rv2, p2⟩ := I.sqb hq2
    obtain ⟨u1, hu1, ru1⟩ := rv1.get hx
    obtain ⟨u2, hu2, ru2⟩ := rv2.get hy
    refine pyNextZip_item D (fun A hh => sq_any (isL := b1) hh i1 l1 D.l1i1 its1.toArray) (fun A hh => sq_any (isL := b2) hh i2 l2 D.l2i2 its2.toArray) (I.ok.hd hc) hz hTI hTO ⟨h1, p1⟩ ⟨h2, p2⟩ (x := u1) (y := u2) (by simpa using hu1) (by simpa using hu2) fun h' a1 a2 a3 a4 a5 a6 a7 => ?_
    refine ⟨_, rfl, wpAny_letOwnedTupleGo_zip a1 fun h'' z2 sb => ?_⟩
    have zlt : z < s.heap.objs.size := Heap.lt_size hz
    have up : ∀ c o, c ≠ z → h'.get? c = some o → h''.get? c = some o := fun c o c1 q => sb.extBut _ _ c1 q
    have I' := I.turnedT (h' := h'') (t' := s.toks) (ch := [z, TI, TO, i1, i2]) (T := s.heap.objs.size) (u1 := u1) (u2 := u2) (x := x) (y := y)
      (fun b o hb e => by
        simp only [List.mem_cons, List.not_mem_nil, or_false, not_or] at hb
        exact up b o hb.1 (a7 b o hb.1 hb.2.2.1 hb.2.2.2.1 hb.2.2.2.2 e)) hf (Nat.le_refl _) (up _ _ (Nat.ne_of_gt zlt) a5) ru1 ru2
    refine ⟨.ref s.heap.objs.size, _, I', rfl, ⟨_, x, y, I.fresh, rfl, rfl, fun zs hz' => by rw [I.sqb_inj hz' hq1]; exact hx, fun zs hz' => by rw [I.sqb_inj hz' hq2]; exact hy⟩,
      ⟨z2, up _ _ D.TIz (a7 _ _ D.TIz D.TITO D.TIi1 D.TIi2 hTI), ⟨_, _, up _ _ D.TOz a2⟩, a3.1.keep fun o e => up _ _ D.i1z e, a4.1.keep fun o e => up _ _ D.i2z e⟩, fun b hb => ?_⟩
    have hfb := (hf b hb).1
    rw [upd_ne]
    · exact hfb
    · intro e
      have lt : b < s.heap.objs.size := by
        simp only [List.mem_cons, List.not_mem_nil, or_false] at hb
        rcases hb with rfl | rfl | rfl | rfl | rfl
        · exact zlt
        · exact Heap.lt_size hTI
        · exact Heap.lt_size hTO
        · obtain ⟨o, e, _⟩ := h1.obj; exact Heap.lt_size e
        · obtain ⟨o, e, _⟩ := h2.obj; exact Heap.lt_size e
      rw [e] at lt
      exact Nat.lt_irrefl _ lt
  done := by
    intro X hP hw hK hc i pins s σ H E I hf st hg
    subst hP hw hK
    obtain ⟨hz, hTI, ⟨a, b, hTO⟩, h1, h2⟩ := st
    obtain ⟨xs, ys, hq1, hq2, hend⟩ := hg
    obtain ⟨its1, rv1, p1⟩ := I.sqb hq1
    obtain ⟨its2, rv2, p2⟩ := I.sqb hq2
    have e1 := rv1.length
    have e2 := rv2.length
    refine pyNextZip_end D (fun A hh => sq_any (isL := b1) hh i1 l1 D.l1i1 its1.toArray) (fun A hh => sq_any (isL := b2) hh i2 l2 D.l2i2 its2.toArray) (I.ok.hd hc) hz hTI hTO ⟨h1, p1⟩ ⟨h2, p2⟩ ?_ fun h' hk => ⟨rfl, I.turnedS (t' := s.toks) (ch := [z, TI, TO, i1, i2]) (fun b o hb e => ?_) hf⟩
    · rcases hend with q | q
      · left; simp only [List.getElem?_toArray]; rw [List.getElem?_eq_none_iff] at q ⊢; omega
      · right; simp only [List.getElem?_toArray]; rw [List.getElem?_eq_none_iff] at q ⊢; omega
    · simp only [List.mem_cons, List.not_mem_nil, or_false, not_or] at hb
      exact hk b o hb.1 hb.2.2.1 hb.2.2.2.1 hb.2.2.2.2 e
  self := fun _ _ _ _ _ st h => wpAny_pyIter_zip st.1 h
end L2

set_option maxHeartbeats 4000000
namespace L2
open PySem PySem.Spec PyProof.Rows
theorem boot_zip : bootBuiltins "zip" = some (.type "zip") := by decide +kernel
theorem itLays {isL : Bool} {l : Addr} {xs : Array Value} : ItLays (.ref l) (itObj isL l) (SeqIs isL l xs) := by
  intro prog w A s Q E h q
  cases isL with
  | true => exact wpAny_pyIter_list (show s.heap.IsList l xs from h) q
  | false => exact wpAny_pyIter_tuple (show s.heap.IsTuple l xs from h) q
theorem SeqIs.push {isL : Bool} {l : Addr} {xs : Array Value} {h : Heap} (q : SeqIs isL l xs h) (o : Obj) : SeqIs isL l xs (h.push o) := by
  cases isL with
  | true => exact Heap.IsList.push q o
  | false => obtain ⟨ob, e, r⟩ := (show h.IsTuple l xs from q); exact ⟨ob, Heap.get?_push_of_some _ e, r⟩
theorem SeqIs.lt {isL : Bool} {l : Addr} {xs : Array Value} {h : Heap} (q : SeqIs isL l xs h) : l < h.objs.size := by
  cases isL with
  | true => obtain ⟨ob, e, r⟩ := (show h.IsList l xs from q); exact Heap.lt_size e
  | false => obtain ⟨ob, e, r⟩ := (show h.IsTuple l xs from q); exact Heap.lt_size e
theorem itAt0 {isL : Bool} {i l : Addr} {h : Heap} (e : h.get? i = some (itObj isL l)) : ItAt isL i l 0 h := by
  cases isL with
  | true => exact ⟨_, e, rfl, rfl⟩
  | false => exact ⟨_, e, rfl, rfl⟩
theorem call_zipG {prog : Program} {w : World} {A : Around} {E : Value → Shared → Prop} {s : Shared} {Q : Value → Shared → Prop} {b1 b2 : Bool} {l1 l2 : Addr} {xs ys : Array Value} (h1 : SeqIs b1 l1 xs s.heap) (h2 : SeqIs b2 l2 ys s.heap)
    (h : ∀ h', IsZip h' (s.heap.objs.size + 4) (s.heap.objs.size + 2) (s.heap.objs.size + 3) .none → IsPair h' (s.heap.objs.size + 2) (.ref s.heap.objs.size) (.ref (s.heap.objs.size + 1)) →
      IsPair h' (s.heap.objs.size + 3) .none .none → ItAt b1 s.heap.objs.size l1 0 h' → ItAt b2 (s.heap.objs.size + 1) l2 0 h' → h'.objs.size = s.heap.objs.size + 5 →
      (∀ c o, s.heap.get? c = some o → h'.get? c = some o) → Q (.ref (s.heap.objs.size + 4)) { s with heap := h' }) : wpAny (model prog w) A (call (.type "zip") [.ref l1, .ref l2]) Q E s := by
  refine callType_new F.called_zip (by decide) (F.typeCall_zip_2 _ _) (F.newCall_zip_2 _ _) (fun obj => F.args_object_init_3 obj _ _) F.entry_zip_new (meets_zip (.ref l1) (.ref l2) (itObj b1 l1) (itObj b2 l2) (itLays (xs := xs)) (itLays (xs := ys))) ⟨h1, h2.push _, ?_⟩
  have z1 : (zp1 s.heap (itObj b1 l1)).objs.size = s.heap.objs.size + 1 := Heap.size_push ..
  have z2 : (zp2 s.heap (itObj b1 l1) (itObj b2 l2)).objs.size = s.heap.objs.size + 2 := by rw [Heap.size_push, z1]
  have z3 : (zp3 s.heap (itObj b1 l1) (itObj b2 l2)).objs.size = s.heap.objs.size + 3 := by rw [Heap.size_push, z2]
  have z4 : (zp4 s.heap (itObj b1 l1) (itObj b2 l2)).objs.size = s.heap.objs.size + 4 := by rw [Heap.size_push, z3]
  have z5 : (zp5 s.heap (itObj b1 l1) (itObj b2 l2)).objs.size = s.heap.objs.size + 5 := by rw [Heap.size_push, z4]
  have f1 : (itObj b1 l1).isFreed = false := by cases b1 <;> rfl
  have f2 : (itObj b2 l2).isFreed = false := by cases b2 <;> rfl
  have g5 : (zp5 s.heap (itObj b1 l1) (itObj b2 l2)).get? (zp4 s.heap (itObj b1 l1) (itObj b2 l2)).objs.size = some _ := Heap.get?_push_size _ rfl
  have g4 : (zp5 s.heap (itObj b1 l1) (itObj b2 l2)).get? (zp3 s.heap (itObj b1 l1) (itObj b2 l2)).objs.size = some _ := Heap.get?_push_of_some _ (Heap.get?_push_size _ rfl)
  have g3 : (zp5 s.heap (itObj b1 l1) (itObj b2 l2)).get? (zp2 s.heap (itObj b1 l1) (itObj b2 l2)).objs.size = some _ := Heap.get?_push_of_some _ (Heap.get?_push_of_some _ (Heap.get?_push_size _ rfl))
  have g2 : (zp5 s.heap (itObj b1 l1) (itObj b2 l2)).get? (zp1 s.heap (itObj b1 l1)).objs.size = some (itObj b2 l2) := Heap.get?_push_of_some _ (Heap.get?_push_of_some _ (Heap.get?_push_of_some _ (Heap.get?_push_size _ f2)))
  have g1 : (zp5 s.heap (itObj b1 l1) (itObj b2 l2)).get? s.heap.objs.size = some (itObj b1 l1) := Heap.get?_push_of_some _ (Heap.get?_push_of_some _ (Heap.get?_push_of_some _ (Heap.get?_push_of_some _ (Heap.get?_push_size _ f1))))
  show _ ∧ _
  rw [z2, z3, z4] at g5
  rw [z1, z2] at g3
  rw [z3] at g4
  rw [z1] at g2
  rw [z4]
  exact ⟨⟨_, g5, rfl⟩, h _ g5 g3 g4 (itAt0 g1) (itAt0 g2) z5 fun c o q => Heap.get?_push_of_some _ (Heap.get?_push_of_some _ (Heap.get?_push_of_some _ (Heap.get?_push_of_some _ (Heap.get?_push_of_some _ q))))⟩
theorem zip_apart {n l1 l2 : Nat} (h1 : l1 < n) (h2 : l2 < n) : ZipApart (n + 4) (n + 2) (n + 3) n (n + 1) l1 l2 := by
  constructor <;> (show ¬ (_ : Nat) = _) <;> omega
section
variable {X : Cx} {e1 e2 : Expr} {ta : TA} {p pos tp : Pos} {elts : List Expr} {c : Nat}
def iZip (K : PySem.W.Frag) (ta : TA) : TI := fun σ H R => ta σ H fun vs H1 => ∃ b1 b2 l1 l2 xs ys, vs = [.ref l1, .ref l2] ∧ Sqb K b1 H1 l1 xs ∧ Sqb K b2 H1 l2 ys ∧ R (Itz K b1 b2 l1 l2) H1
theorem pi_zip (hg : Gl X "zip") (hm : X.mg "zip" = none) (ha : PA X [e1, e2] ta) (hs : starEach [e1, e2] X.env = [(false, eval e1 X.env), (false, eval e2 X.env)] := by rfl) (hs2 : starEach [e2] X.env = [(false, eval e2 X.env)] := by rfl) :
    PI X (.Tuple elts c tp) (.Call (.Name "zip" p) [e1, e2] [] pos) (iZip X.K ta) := by
  intro pins s σ H R I h
  refine Call_ (ld_blt I hg hm boot_zip (PyProof.Rows.callWith_type1 (thn (ha pos pins s σ H _ I h) fun us s1 ⟨vs, H1, I1, r1, q1⟩ => ?_) (by rw [hs, hs2]) (by rw [hs2]; rfl)))
  obtain ⟨b1, b2, l1, l2, xs, ys, e, hq1, hq2, q⟩ := q1
  subst e
  obtain ⟨u, w', rfl, z1, z2⟩ := vals2 r1
  cases (show u = Value.ref l1 from z1)
  cases (show w' = Value.ref l2 from z2)
  obtain ⟨its1, rv1, p1⟩ := I1.sqb hq1
  obtain ⟨its2, rv2, p2⟩ := I1.sqb hq2
  refine call_zipG p1 p2 fun h' a1 a2 a3 a4 a5 a6 a7 => wpAny_pyIter_zip a1 ?_
  have I2 : Inv X pins σ H1 { s1 with heap := h' } := I1.kept (t' := s1.toks) a7
  refine ⟨_, [s1.heap.objs.size + 4, s1.heap.objs.size + 2, s1.heap.objs.size + 3, s1.heap.objs.size, s1.heap.objs.size + 1], _, _, H1, rfl, I2, turn_zip (zip_apart p1.lt p2.lt), ⟨a1, a2, ⟨_, _, a3⟩, a4, a5⟩, fun b hb => ?_, q⟩
  have hb' : s1.heap.objs.size ≤ b := by
    simp only [List.mem_cons, List.not_mem_nil, or_false] at hb
    rcases hb with rfl | rfl | rfl | rfl | rfl
    · exact Nat.le_add_right _ _
    · exact Nat.le_add_right _ _
    · exact Nat.le_add_right _ _
    · exact Nat.le_refl _
    · exact Nat.le_add_right _ _
  exact I1.fpOk hb' (I1.hok.fresh hb')
end
end L2
namespace DC
open PySem PySem.Spec PyProof.Rows L2
section
variable {X : Cx} {e1 e2 : Expr} {ta : AD} {p pos tp : Pos} {elts : List Expr} {c : Nat}
def seqD : D → Option (Bool × List D)
  | .lst xs => some (true, xs)
  | .tup xs => some (false, xs)
  | _ => none
def aZip (ta : AD) : AD := fun δ Q => ta δ fun ds => ∃ d e b1 b2 xs ys, ds = [d, e] ∧ seqD d = some (b1, xs) ∧ seqD e = some (b2, ys) ∧ Q (List.zipWith (fun x y => .tup [x, y]) xs ys)
theorem Dv.sqb {K : PySem.W.Frag} {H : Hp} {v : V} {d : D} {b : Bool} {ds : List D} (h : Dv K H v d) (e : seqD d = some (b, ds)) : ∃ l xs, v = .ref l ∧ Sqb K b H l xs ∧ Dvs K H xs ds := by
  cases h with
  | lst h1 h2 => cases e; exact ⟨_, _, rfl, h1, h2⟩
  | tup h1 h2 => cases e; exact ⟨_, _, rfl, h1, h2⟩
  | _ => cases e
theorem sqb_same {K : PySem.W.Frag} {H H' : Hp} {b : Bool} {l : Addr} {xs : List V} (s : Same H H') (h : Sqb K b H l xs) : Sqb K b H' l xs := by
  cases b with
  | true => exact s.seq h
  | false => exact sameT s h
theorem it_zip {K : PySem.W.Frag} {H : Hp} {b1 b2 : Bool} {l1 l2 : Addr} {xs ys : List V} {ds es : List D} (h1 : Sqb K b1 H l1 xs) (h2 : Sqb K b2 H l2 ys) (d1 : Dvs K H xs ds) (d2 : Dvs K H ys es) :
    ItD K (Itz K b1 b2 l1 l2) H (List.zipWith (fun x y => .tup [x, y]) ds es) := by
  have hl : (List.zipWith (fun x y => D.tup [x, y]) ds es).length = min ds.length es.length := List.length_zipWith
  refine ⟨fun i H' s' hi => ?_, fun H' s' => ⟨xs, ys, sqb_same s' h1, sqb_same s' h2, ?_⟩, fun i H' x H'' s' hi y => ?_⟩
  · rw [hl] at hi
    obtain ⟨v1, g1, _⟩ := d1.get (List.getElem?_eq_getElem (show i < ds.length by omega))
    obtain ⟨v2, g2, _⟩ := d2.get (List.getElem?_eq_getElem (show i < es.length by omega))
    exact ⟨xs, ys, v1, v2, sqb_same s' h1, sqb_same s' h2, g1, g2⟩
  · rw [hl, List.getElem?_eq_none_iff, List.getElem?_eq_none_iff, d1.length, d2.length]
    omega
  · obtain ⟨q, u, v, hn, rfl, rfl, y1, y2⟩ := y
    obtain ⟨a1, g1, v1⟩ := d1.getV (y1 _ (sqb_same s' h1))
    obtain ⟨a2, g2, v2⟩ := d2.getV (y2 _ (sqb_same s' h2))
    have hnH : H q = none := s'.free hn
    refine ⟨same_upd hn, .tup [a1, a2], by rw [List.getElem?_zipWith, g1, g2], upd H q (.tup [u, v]), same_upd hnH, .tup (SqT.of upd_same) (.cons (v1.same (same_upd hnH)) (.cons (v2.same (same_upd hnH)) .nil)), fun a o z => ?_, fun a o z => ?_⟩
    · by_cases ha : a = q
      · rw [ha]; exact .inr hn
      · rw [upd_ne ha] at z; exact .inl z
    · by_cases ha : a = q
      · rw [ha] at z ⊢; rw [upd_same] at z ⊢; exact z
      · rw [upd_ne ha] at z ⊢; exact s' _ _ z
theorem i_zip (hg : Gl X "zip") (hm : X.mg "zip" = none) (ha : PAd X [e1, e2] ta) (hs : starEach [e1, e2] X.env = [(false, eval e1 X.env), (false, eval e2 X.env)] := by rfl) (hs2 : starEach [e2] X.env = [(false, eval e2 X.env)] := by rfl) :
    PId X (.Tuple elts c tp) (.Call (.Name "zip" p) [e1, e2] [] pos) (aZip ta) := by
  refine ⟨PI.imp (pi_zip hg hm ha.pa hs hs2) fun σ H R ⟨δ, r, h⟩ => ⟨δ, r, ha.mono _ _ _ (fun ds ⟨d, e, b1, b2, xs, ys, ed, s1, s2, q⟩ vs H1 sm dvs => ?_) h⟩, fun δ P P' g h => ha.mono _ _ _ (fun ds ⟨d, e, b1, b2, xs, ys, ed, s1, s2, q⟩ => ⟨d, e, b1, b2, xs, ys, ed, s1, s2, g _ q⟩) h⟩
  subst ed
  cases dvs with
  | cons a r =>
    cases r with
    | cons b r =>
      cases r
      obtain ⟨l1, us, rfl, g1, v1⟩ := a.sqb s1
      obtain ⟨l2, ws, rfl, g2, v2⟩ := b.sqb s2
      exact ⟨b1, b2, l1, l2, us, ws, rfl, g1, g2, q _ H1 sm (it_zip g1 g2 v1 v2)⟩
end
end DC

set_option maxHeartbeats 4000000
namespace DC
open PySem PySem.Spec PyProof.Rows L2
def vComp2 (caps : List Nat) (ti : AD) (tt : TD) (te : ED) : ED := fun δ Q => ti δ fun ds => ∃ outs : List (Option D), outs.length = ds.length ∧
  (∀ (i : Nat) (d : D) (o : Option D), ds[i]? = some d → outs[i]? = some o → ∃ x y, d = .tup [x, y] ∧ tt (some x :: some y :: capD caps δ) fun b => b = o.isSome ∧ (b = true → te (some x :: some y :: capD caps δ) fun r => o = some r)) ∧ ds.length < sizeLine ∧ Q (.lst (outs.filterMap id))
theorem le_two {r : L2.St} {x y : Option V} : Le (none :: none :: r) (x :: y :: r) := ⟨rfl, fun i v h => by
  cases i with
  | zero => cases h
  | succ i =>
    cases i with
    | zero => cases h
    | succ i => exact h⟩
theorem rel_cons {K : PySem.W.Frag} {H : Hp} {σ : L2.St} {δ : SD} (r : RelS K H σ δ) {x : V} {d : D} (dv : Dv K H x d) : RelS K H (some x :: σ) (some d :: δ) := by
  refine ⟨by rw [List.length_cons, List.length_cons, r.len], fun i e h => ?_⟩
  cases i with
  | zero => simp at h; subst h; exact ⟨x, rfl, dv⟩
  | succ i => simpa using r.get i e (by simpa using h)
theorem cap_rel0 {K : PySem.W.Frag} {H : Hp} {σ : L2.St} {δ : SD} (r : RelS K H σ δ) (caps : List Nat) : RelS K H (caps.map fun j => (σ[j]?).getD none) (capD caps δ) := by
  have q := cap_rel r (Dv.non) caps
  refine ⟨by simpa using q.len, fun i d h => ?_⟩
  simpa using q.get (i + 1) d (by simpa using h)
theorem comp_imp2 {K : PySem.W.Frag} {caps : List Nat} {ti : AD} {tt : TD} {te : ED} (mi : MonoA ti) (mt : MonoT tt) (me : MonoE te) {σ : L2.St} {H : Hp} {Q : VK} (h : oE K (vComp2 caps ti tt te) σ H Q) :
    rComp 2 caps (fun σ H R => ∃ δ, RelS K H σ δ ∧ ti δ fun ds => ∀ J H1, Same H H1 → ItD K J H1 ds → R J H1) (gTup K 2 (gCons (gName 0) (gCons (gName 1) gNil))) (uFrame (oT K tt)) (tFrame (oE K te)) σ H Q := by
  obtain ⟨δ, r, h⟩ := h
  refine ⟨δ, r, mi _ _ _ (fun ds ⟨outs, hol, each, hlen, q⟩ J H1 s1 it D hD => ?_) h⟩
  refine ⟨fun i m ys H' => m = ds.length - i ∧ i ≤ ds.length ∧ ∃ H0, H0 D = none ∧ Same H1 H0 ∧ Dvs K H0 ys ((outs.take i).filterMap id) ∧ H' = upd H0 D (.lst ys), ⟨ds.length, rfl, Nat.zero_le _, H1, hD, Same.refl _, .nil, rfl⟩, ?_⟩
  rintro i m ys H' ⟨rfl, hle, H0, h0, s0, dys, rfl⟩
  refine ⟨upd_same, ?_⟩
  have sU : Same H1 (upd H0 D (.lst ys)) := s0.trans (same_upd h0)
  by_cases hlt : i < ds.length
  · refine .inr ⟨it.go i _ sU hlt, fun x H'' y => ?_⟩
    obtain ⟨s2, d, hd, Hx, sx1, dvx, only, sx⟩ := it.yld i _ x H'' sU hlt y
    have hD2 : H'' D = some (.lst ys) := s2 _ _ upd_same
    have ne1 : ∀ a o, H1 a = some o → a ≠ D := fun a o z => ne_of_none z hD
    have nex : ∀ a o, Hx a = some o → a ≠ D := fun a o z w => by
      rcases only a o z with z1 | z1
      · exact ne1 a o z1 w
      · rw [w, upd_same] at z1; cases z1
    have sd1 : Same H0 (del H'' D) := fun a o z => by
      rw [del_ne (ne_of_none z h0)]
      exact s2 a o (same_upd h0 a o z)
    have sdx : Same Hx (del H'' D) := fun a o z => by
      rw [del_ne (nex a o z)]
      exact sx a o z
    obtain ⟨o, ho⟩ : ∃ o, outs[i]? = some o := ⟨_, List.getElem?_eq_getElem (show i < outs.length by omega)⟩
    obtain ⟨d1, d2, ed, eachd⟩ := each i d o hd ho
    have dvx' := ed ▸ dvx
    cases dvx' with
    | tup g1 g2 =>
      cases g2 with
      | @cons v1 _ _ _ w1 g2 =>
        cases g2 with
        | @cons v2 _ _ _ w2 g2 =>
          cases g2
          have rel : RelS K (del H'' D) (some v1 :: some v2 :: caps.map fun j => (σ[j]?).getD none) (some d1 :: some d2 :: capD caps δ) := rel_cons (rel_cons (cap_rel0 (r.same (s1.trans (s0.trans sd1))) caps) (w2.same sdx)) (w1.same sdx)
          refine ⟨_, [v1, v2], rfl, sameT sx g1, rfl, v1, [v2], rfl, v2, [], rfl, rfl, le_two, D, ys, hD2, _, rel, mt _ _ _ (fun b ⟨eb, hb⟩ H3 s3 h3 => ?_) eachd⟩
          have ht : outs.take (i + 1) = outs.take i ++ [o] := by rw [List.take_succ, ho]; rfl
          have s03 : Same H0 H3 := sd1.trans s3
          cases b with
          | false =>
            refine iteF ?_
            refine ⟨ds.length - (i + 1), by omega, rfl, hlt, H3, h3, s0.trans s03, ?_, rfl⟩
            have on : o = none := by cases o with | none => rfl | some z => cases eb
            rw [ht, on, List.filterMap_append]
            simpa using dys.same s03
          | true =>
            refine iteT ?_
            refine ⟨D, ys, upd_same, ?_⟩
            rw [del_upd h3]
            refine ⟨_, rel.same s3, me _ _ _ (fun y ey v H4 s4 dv h4 => ⟨upd_same, ?_, ds.length - (i + 1), by omega, rfl, hlt, H4, h4, s0.trans (s03.trans s4), ?_, upd_upd⟩) (hb rfl)⟩
            · rw [dys.length]
              exact Nat.lt_of_le_of_lt (Nat.le_trans (List.length_filterMap_le _ _) (List.length_take_le' _ _)) (by rw [hol]; exact hlen)
            · rw [ht, ey, List.filterMap_append]
              exact (dys.same (s03.trans s4)).append (.cons dv .nil)
  · have e : i = ds.length := by omega
    subst e
    refine .inl ⟨it.stop _ sU, ?_⟩
    rw [← hol, List.take_length] at dys
    exact q _ _ (s1.trans sU) (.lst (SqL.of upd_same) (dys.same (same_upd h0)))
section
variable {X : Cx} {scope : Scope} {cl : List (Str × Addr)} {x y : Str} {cn : List Str} {caps : List Nat} {elt tg iter : Expr} {ifs : List Expr} {ti : AD} {tt : TD} {te : ED} {pos px py tp : Pos} {c : Nat}
theorem m_comp2 (mi : MonoA ti) : MonoE (vComp2 caps ti tt te) := fun δ P P' g h => mi _ _ _ (fun ds ⟨outs, hol, each, hlen, q⟩ => ⟨outs, hol, each, hlen, g _ q⟩) h
theorem d_lc2 (S : CompScope X scope cl [x, y] caps cn) (hc : X.calm = true) (hi : PId X (.Tuple [.Name x px, .Name y py] c tp) iter ti)
    (hg : ∀ C fp s₂ H₂, PG (cxComp X scope cl C ([x, y] ++ cn) fp s₂ H₂) (.Tuple [.Name x px, .Name y py] c tp) (gTup X.K 2 (gCons (gName 0) (gCons (gName 1) gNil))))
    (ht : ∀ C fp s₂ H₂, PTsd (cxComp X scope cl C ([x, y] ++ cn) fp s₂ H₂) ifs tt) (he : ∀ C fp s₂ H₂, PD (cxComp X scope cl C ([x, y] ++ cn) fp s₂ H₂) elt te) (hs : ∀ x, foldedSetIterable iter X.env x = pure x := by intro _; rfl) :
    PD X (.ListComp elt [⟨.Tuple [.Name x px, .Name y py] c tp, iter, ifs, 0⟩] scope pos) (vComp2 caps ti tt te) :=
  ⟨(pe_comp S hc hi.pi hg (fun C fp s₂ H₂ => pts_frame (ht C fp s₂ H₂).pts) (fun C fp s₂ H₂ => pe_frame (he C fp s₂ H₂).pe) hs).imp fun σ H Q h => comp_imp2 hi.mono (ht 0 [] X.s₀ X.H₀).mono (he 0 [] X.s₀ X.H₀).mono h, m_comp2 hi.mono⟩
end
end DC

set_option maxHeartbeats 4000000
namespace DC
open PySem PySem.Spec PyProof.Rows L2
section
variable {K : PySem.W.Frag} {H H' : Hp} {μ μ' : Mu} {L L' : List Addr}
theorem StM.join (g : StM K H μ L) (g' : StM K H' μ' L') (z : ∀ b ∈ L, H' b = none) (s : Same (hidL H L) (hidL H' L')) : StM K (showL H' H L) (μ' ++ μ) (L' ++ L) ∧ hidL (showL H' H L) (L' ++ L) = hidL H' L' := by
  have nL : ∀ {b : Addr} {o : HO}, H' b = some o → b ∉ L := fun e hb => by rw [z _ hb] at e; cases e
  have e : hidL (showL H' H L) (L' ++ L) = hidL H' L' := by
    funext b
    by_cases h1 : b ∈ L'
    · rw [hidL_in (List.mem_append_left _ h1), hidL_in h1]
    · by_cases h2 : b ∈ L
      · rw [hidL_in (List.mem_append_right _ h2), hidL_out h1, z b h2]
      · rw [hidL_out (fun q => (List.mem_append.mp q).elim h1 h2), hidL_out h1, showL_out h2]
  refine ⟨⟨fun p hp => ?_, ?_, fun b hb => ?_, fun b hb => ?_⟩, e⟩
  · rcases List.mem_append.mp hp with hp | hp
    · obtain ⟨h1, h2⟩ := g'.at_ p hp
      refine ⟨List.mem_append_left _ h1, ?_⟩
      obtain ⟨b, m⟩ := p
      cases m with
      | lst ds => obtain ⟨ws, h, d⟩ := h2; exact ⟨ws, by rw [showL_out (nL h)]; exact h, by rw [e]; exact d⟩
      | ins C gs => obtain ⟨dx, fs, h, h2, h3, d⟩ := h2; exact ⟨dx, fs, by rw [showL_out (nL h)]; exact h, by rw [showL_out (nL h2)]; exact h2, List.mem_append_left _ h3, by rw [e]; exact d⟩
      | dK kvs => obtain ⟨ws, h, d⟩ := h2; exact ⟨ws, by rw [showL_out (nL h)]; exact h, by rw [e]; exact d⟩
    · obtain ⟨h1, h2⟩ := g.at_ p hp
      refine ⟨List.mem_append_right _ h1, ?_⟩
      obtain ⟨b, m⟩ := p
      cases m with
      | lst ds => obtain ⟨ws, h, d⟩ := h2; exact ⟨ws, by rw [showL_in h1]; exact h, by rw [e]; exact Dvs.same s d⟩
      | ins C gs => obtain ⟨dx, fs, h, h2, h3, d⟩ := h2; exact ⟨dx, fs, by rw [showL_in h1]; exact h, by rw [showL_in h3]; exact h2, List.mem_append_right _ h3, by rw [e]; exact Dvf.same s d⟩
      | dK kvs => obtain ⟨ws, h, d⟩ := h2; exact ⟨ws, by rw [showL_in h1]; exact h, by rw [e]; exact Dvk.same s d⟩
  · rw [List.map_append, List.nodup_append]
    refine ⟨g'.nod, g.nod, fun a ha b hb hab => ?_⟩
    obtain ⟨p, hp, rfl⟩ := List.mem_map.mp ha
    obtain ⟨q, hq, rfl⟩ := List.mem_map.mp hb
    obtain ⟨o, ho⟩ := (g'.hid _ (g'.at_ p hp).1).there
    rw [show p.1 = q.1 from hab, z _ (g.at_ q hq).1] at ho
    cases ho
  · rcases List.mem_append.mp hb with hb | hb
    · have w := g'.hid b hb
      cases w with
      | lst xs h => exact .lst xs (by rw [showL_out (nL h)]; exact h)
      | dK xs h => exact .dK xs (by rw [showL_out (nL h)]; exact h)
      | ins C dx fs h hd => exact .ins C dx fs (by rw [showL_out (nL h)]; exact h) (List.mem_append_left _ hd)
      | own C c fs h hc hi => exact .own C c fs (by rw [showL_out (nL h)]; exact h) (List.mem_append_left _ hc) (by rw [showL_out (nL hi)]; exact hi)
    · have w := g.hid b hb
      cases w with
      | lst xs h => exact .lst xs (by rw [showL_in hb]; exact h)
      | dK xs h => exact .dK xs (by rw [showL_in hb]; exact h)
      | ins C dx fs h hd => exact .ins C dx fs (by rw [showL_in hb]; exact h) (List.mem_append_right _ hd)
      | own C c fs h hc hi => exact .own C c fs (by rw [showL_in hb]; exact h) (List.mem_append_right _ hc) (by rw [showL_in hc]; exact hi)
  · rcases List.mem_append.mp hb with hb | hb
    · rcases g'.cov b hb with ⟨m, h⟩ | ⟨c, h⟩
      · exact .inl ⟨m, List.mem_append_left _ h⟩
      · exact .inr ⟨c, by rw [showL_out (nL h)]; exact h⟩
    · rcases g.cov b hb with ⟨m, h⟩ | ⟨c, h⟩
      · exact .inl ⟨m, List.mem_append_right _ h⟩
      · exact .inr ⟨c, by rw [showL_in hb]; exact h⟩
end
abbrev EF := SD → (D → Mu → Prop) → Prop
def kF (K : PySem.W.Frag) (H : Hp) (Q : VK) : D → Mu → Prop := fun d μ => ∀ v H' L', Same H (hidL H' L') → StM K H' μ L' → Dv K (hidL H' L') v d → Q v H'
theorem kF.on {K : PySem.W.Frag} {H H1 : Hp} {Q : VK} {d : D} {μ : Mu} (s : Same H H1) (h : kF K H Q d μ) : kF K H1 Q d μ := fun v H' L' s' g dv => h v H' L' (s.trans s') g dv
structure PF (X : Cx) (e : Expr) (t : EF) : Prop where
  pe : PE X e (fun σ H Q => ∃ δ, RelS X.K H σ δ ∧ t δ (kF X.K H Q))
  mono : ∀ δ (P P' : D → Mu → Prop), (∀ d μ, P d μ → P' d μ) → t δ P → t δ P'
abbrev SpF := List D → (D → Mu → Prop) → Prop
abbrev MonoSF (sd : SpF) : Prop := ∀ ds (P P' : D → Mu → Prop), (∀ d μ, P d μ → P' d μ) → sd ds P → sd ds P'
def spF (K : PySem.W.Frag) (sd : SpF) : Sp := fun vs H Q _ => ∃ ds, Dvs K H vs ds ∧ sd ds (kF K H Q)
section
variable {P : Program} {w : World} {K : PySem.W.Frag} {mg : Str → Option Value} {base : Heap}
theorem okF {x qual : Str} {st : Stmt} {f : Addr} {fd : FuncData} {N ps : List Str} {k : Nat} {sd : SpF} {t : TMD} (F : Fun K x qual st f fd) (S : FnScope N ps (defScope st)) (len : ∀ ds Q, sd ds Q → ds.length = ps.length)
    (hb : ∀ (cdv : Value) (A : Around) (outer : List Env) (s : Shared) (H : Hp) (E : XK), Room k (A.deeper (envOfC qual (defScope st) s.heap.objs.size f cdv)) → PMs (Bx P w K mg base N qual st f cdv A outer s H E) (defBody st) t)
    (hr : ∀ ds Q, sd ds Q → t { nx := fun _ μ => Q .non μ, rt := Q } (startD N ds) []) : FnOk P w K mg base CX0 (k + 1) f fd ps (spF K sd) := by
  refine F.ok S (fun vs H Q E ⟨ds, dvs, h⟩ => by rw [dvs.length]; exact len ds _ h) (fun cdv A outer s H vs Q E hroom ⟨ds, dvs, h⟩ => ?_)
  have B := hb cdv A outer s H E hroom
  refine ⟨_, B.ps, startD N ds, [], [], by rw [hidL_nil]; exact start_rel dvs, StM.nil, ?_⟩
  refine B.mono { nx := fun _ μ => kF K H Q .non μ, rt := kF K H Q } _ _ _ ⟨fun δ μ q σ H' L' s' r g => ?_, fun d μ q v H' L' s' g dv => ?_, fun _ _ q => q.elim, fun _ _ q => q.elim⟩ (hr ds _ h)
  · rw [hidL_nil] at s'
    exact q _ H' L' s' g .non
  · rw [hidL_nil] at s'
    exact q v H' L' s' g dv
theorem spF_of {sd : SpF} {se : SpD} (ms : MonoSF sd) (h : ∀ ds Q, se ds Q → sd ds fun d μ => Q (viewD μ d)) : ∀ vs H Q E, spOf K se vs H Q E → spF K sd vs H Q E := fun vs H Q E ⟨ds, dvs, q⟩ =>
  ⟨ds, dvs, ms _ _ _ (fun d μ k v H' L' s g dv => k v H' (s.trans hidL_same) (g.view dv)) (h ds _ q)⟩
end
structure CalF (P : Program) (w : World) (K : PySem.W.Frag) (mg : Str → Option Value) (base : Heap) (k : Nat) (x : Str) (ps : List Str) (sd : SpF) : Prop where
  ex : ∃ f fd, FnOk P w K mg base CX0 k f fd ps (spF K sd) ∧ mg x = some (.ref f) ∧ PySem.W.keepIn K (.ref f) = true ∧ Binds K fd ps []
  ms : MonoSF sd
structure McalF (P : Program) (w : World) (K : PySem.W.Frag) (mg : Str → Option Value) (base : Heap) (j : Nat) (C : Addr) (m : Str) (sd : SpF) : Prop where
  ex : ∃ f fd ps, Cls K C ∧ Meth K C m f ∧ FnOk P w K mg base CX0 j f fd ps (spF K sd) ∧ Binds K fd ps []
  ms : MonoSF sd
section
variable {X : Cx} {o e : Expr} {es : List Expr} {ta : ED} {t : AD} {tf : EF} {j k : Nat} {x m : Str} {ps : List Str} {sd : SpF} {sm : Addr → SpF} {ok : Addr → Prop} {p pos pos' apos : Pos} {i : Nat}
def fCall (sd : SpF) (t : AD) : EF := fun δ Q => t δ fun ds => sd ds Q
theorem f_cal (c : CalF X.prog X.w X.K X.mg X.base j x ps sd) (hr : Room k X.A) (hj : j ≤ k) (hg : Gl X x) (ha : PAd X (e :: es) t) (hdb : (x == ("__debug__" : Str)) = false := by decide)
    (h1 : starEach (e :: es) X.env = (false, eval e X.env) :: starEach es X.env := by rfl) (h2 : (backTo pos (starEach es X.env)).any (·.1) = false := by rfl) : PF X (.Call (.Name x p) (e :: es) [] pos) (fCall sd t) := by
  obtain ⟨f, fd, F, m, kp, b⟩ := c.ex
  refine ⟨(pe_call F (hr.mono hj) hg m kp b .nil pass0 ha.pa hdb h1 h2).imp fun σ H Q ⟨δ, r, h⟩ => ⟨δ, r, ha.mono _ _ _ (fun ds q vs H1 s1 dvs => ⟨ds, by rw [List.append_nil]; exact dvs, c.ms _ _ _ (fun d μ k => k.on s1) q⟩) h⟩, fun δ P P' g h => ha.mono _ _ _ (fun ds q => c.ms _ _ _ g q) h⟩
def fMeth (ok : Addr → Prop) (m : Str) (sm : Addr → SpF) (ta : ED) : EF := fun δ Q => ta δ fun d => ∃ C gs, d = .obj C gs ∧ gs.lookup m = none ∧ ok C ∧ sm C [d] Q
theorem f_m0 {pl : Sem Bool} (hM : ∀ C, ok C → McalF X.prog X.w X.K X.mg X.base j C m (sm C)) (hr : Room k X.A) (hj : j ≤ k) (he : PD X o ta)
    (ht : eval (.Call (.Attribute o m apos) [] [] pos) X.env = (do
      let ov ← eval o X.env
      standAt apos.atName
      let (f, first) ← holding [ov] (getMethod ov m pl)
      callWith pos f first (backTo pos (starEach [] X.env)) (backToKw pos (keywordEach [] X.env))) := by rfl) :
    PF X (.Call (.Attribute o m apos) [] [] pos) (fMeth ok m sm ta) := by
  refine ⟨fun pins s σ H Q I ⟨δ, r, h⟩ => ?_, fun δ P P' g h => he.mono _ _ _ (fun d ⟨C, gs, e, l, M, q⟩ => ⟨C, gs, e, l, M, (hM C M).ms _ _ _ g q⟩) h⟩
  refine PySem.W.methodCall_KW (pl := pl) (thn (he.pe pins s σ H _ I ⟨δ, r, he.mono _ _ _ (fun d k v H1 s1 dv => (show ∃ C gs dx fs a, v = .ref a ∧ Rd H1 a (.ins C dx fs) ∧ Dvf X.K H1 fs gs ∧ gs.lookup m = none ∧ ok C ∧ sm C [.obj C gs] (kF X.K H1 Q) from ?_)) h⟩) fun u s1 ⟨v, H1, I1, rx, C, gs, dx, fs, a, ev, ha, hf, l, M, q⟩ => ?_) ht
  · obtain ⟨C, gs, ed, l, M, q⟩ := k
    subst ed
    cases dv with
    | obj h1 h2 => exact ⟨_, _, _, _, _, rfl, h1, h2, l, M, (hM _ M).ms _ _ _ (fun d μ z => z.on s1) q⟩
  · subst ev
    obtain rfl : u = Value.ref a := rx
    obtain ⟨f, fd, ps, c, mt, F, b⟩ := (hM C M).ex
    refine getmeth_okR I1 ha c mt (hf.none l) ?_
    exact PySem.W.callWith_K0 (first := [.ref a]) I1.kIn mt.kp (run_fn (us := [.ref a]) (vs := [.ref a]) F (hr.mono hj) b .nil pass0 I1 (.cons rfl .nil) ⟨[.obj C gs], .cons (.obj ha hf) .nil, q⟩)
def mRetP (tf : EF) : TMD := fun E δ μ => tf δ fun d μ' => E.rt d (μ' ++ μ)
theorem ms_retP (he : PF X e tf) : PMd X (.Return (some e) pos) (mRetP tf) := by
  refine ⟨PS.imp (ps_ret (pe_frM he.pe)) fun D σ H ⟨δ, μ, L, r, g, h⟩ => ⟨L, g.hid, δ, r, he.mono _ _ _ (fun d μ' k v H' L' s' g' dv z => ?_) h⟩, fun E E' δ μ l h => he.mono _ _ _ (fun d μ' q => l.rt _ _ q) h⟩
  obtain ⟨g2, e2⟩ := g.join g' z s'
  exact k v _ (L' ++ L) (by rw [e2]; exact s') g2 (by rw [e2]; exact dv)
end
end DC

set_option maxHeartbeats 4000000
namespace DC
open PySem PySem.Spec PyProof.Rows L2
inductive Ents : List (Str × V) → List DictEntry → Prop
  | nil : Ents [] []
  | cons {x : Str} {t : Tok} {v : V} {e : DictEntry} {kvs : List (Str × V)} {es : List DictEntry} : e.key = .str x t → RelV v e.val → Ents kvs es → Ents ((x, v) :: kvs) (e :: es)
structure KTab (w : World) (K : PySem.W.Frag) (a : Addr) (kvs : List (Str × V)) : Prop where
  ex : ∃ (es : Array DictEntry) (n : Nat), K.lookup a = some ⟨.type "dict", none, .dict es n, #[]⟩ ∧ PySem.W.KeysLit w.params es.toList ∧ Ents kvs es.toList
  sys : (a == sysModules) = false
theorem Ents.has {x : Str} : ∀ {kvs : List (Str × V)} {es : List DictEntry}, Ents kvs es → ((es.find? fun d => Value.isStrOf x d.key).map (·.val)).isSome = kvs.any fun p => p.1 == x
  | _, _, .nil => rfl
  | _, _, .cons (x := y) (e := e) hk hv r => by
    have ih := Ents.has (x := x) r
    rw [List.find?_cons, hk, List.any_cons]
    show (Option.map (·.val) (match (y == x) with | true => some e | false => _)).isSome = (y == x || _)
    cases h : (y == x) with
    | true => rfl
    | false => exact ih
theorem Ents.get {x : Str} {v : V} : ∀ {kvs : List (Str × V)} {es : List DictEntry}, Ents kvs es → kvs.lookup x = some v → ∃ u, (es.find? fun d => Value.isStrOf x d.key).map (·.val) = some u ∧ RelV v u
  | _, _, .nil, h => by cases h
  | _, _, .cons (x := y) (e := e) hk hv r, h => by
    rw [List.lookup_cons] at h
    rw [List.find?_cons, hk]
    show ∃ u, Option.map (·.val) (match (y == x) with | true => some e | false => _) = some u ∧ RelV v u
    rw [show (y == x) = (x == y) from Bool.beq_comm]
    cases q : (x == y) with
    | true => rw [q] at h; cases h; exact ⟨_, rfl, hv⟩
    | false => rw [q] at h; exact Ents.get r h
section
variable {X : Cx} {a : Addr} {kvs : List (Str × V)}
theorem op_inK (T : KTab X.w X.K a kvs) : OpR X (compareOp .In) (fun x y H Q => ∃ z, x = .str z ∧ y = .ref a ∧ Q (.bl (kvs.any fun p => p.1 == z)) H) := by
  intro pins s σ H x y v u Q I rx ry h
  obtain ⟨z, rfl, rfl, q⟩ := h
  obtain ⟨t, rfl⟩ := (show ∃ t, v = Value.str z t from rx)
  cases (show u = Value.ref a from ry)
  obtain ⟨es, n, hl, hk, he⟩ := T.ex
  refine wpAny_in_of (strKind_is X.prog X.w z t) T.sys (PySem.W.mapOf_K (prog := X.prog) I.kIn hl hk) ?_
  have e : (findBy Value.isStrOf es z).isSome = kvs.any fun p => p.1 == z := by
    unfold findBy
    obtain ⟨l⟩ := es
    rw [List.find?_toArray]
    exact he.has
  rw [e]
  exact ⟨.bl _, H, I.tok _, rfl, q⟩
theorem op_notInK (T : KTab X.w X.K a kvs) : OpR X (compareOp .NotIn) (fun x y H Q => ∃ z, x = .str z ∧ y = .ref a ∧ Q (.bl (!kvs.any fun p => p.1 == z)) H) := by
  intro pins s σ H x y v u Q I rx ry h
  obtain ⟨z, rfl, rfl, q⟩ := h
  obtain ⟨t, rfl⟩ := (show ∃ t, v = Value.str z t from rx)
  cases (show u = Value.ref a from ry)
  obtain ⟨es, n, hl, hk, he⟩ := T.ex
  refine wpAny_notIn_of (strKind_is X.prog X.w z t) T.sys (PySem.W.mapOf_K (prog := X.prog) I.kIn hl hk) ?_
  have e : (findBy Value.isStrOf es z).isSome = kvs.any fun p => p.1 == z := by
    unfold findBy
    obtain ⟨l⟩ := es
    rw [List.find?_toArray]
    exact he.has
  rw [e]
  exact ⟨.bl _, H, I.tok _, rfl, q⟩
theorem ix_getK (T : KTab X.w X.K a kvs) : IxR X (fun x y H Q => ∃ z r, x = .ref a ∧ y = .str z ∧ kvs.lookup z = some r ∧ Q r H) := by
  intro value slice pins s σ H x y v u Q I rx ry h hs
  obtain ⟨z, r, rfl, rfl, hr, q⟩ := h
  obtain ⟨t, rfl⟩ := (show ∃ t, u = Value.str z t from ry)
  cases (show v = Value.ref a from rx)
  obtain ⟨es, n, hl, hk, he⟩ := T.ex
  have hm := PySem.W.mapOf_K (prog := X.prog) (w := X.w) I.kIn hl hk
  obtain ⟨b, hb, rb⟩ := he.get hr
  have e : findBy Value.isStrOf es z = some b := by
    unfold findBy
    obtain ⟨l⟩ := es
    rw [List.find?_toArray]
    exact hb
  exact tail_any hm.typeIs slot_dict_getitem.lookup (wpAny_getItem_of (strKind_is X.prog X.w z t) hm e ⟨r, H, I.tok _, rb, q⟩) hs
end
inductive Tb (K : PySem.W.Frag) : List (Str × V) → List (Str × D) → Prop
  | nil : Tb K [] []
  | cons {x : Str} {v : V} {d : D} {kvs : List (Str × V)} {tab : List (Str × D)} : (∀ H, Dv K H v d) → Tb K kvs tab → Tb K ((x, v) :: kvs) ((x, d) :: tab)
structure KTd (w : World) (K : PySem.W.Frag) (mg : Str → Option Value) (x : Str) (a : Addr) (tab : List (Str × D)) : Prop where
  at_ : mg x = some (.ref a)
  ex : ∃ kvs, KTab w K a kvs ∧ Tb K kvs tab
theorem Tb.any {K : PySem.W.Frag} {z : Str} : ∀ {kvs : List (Str × V)} {tab : List (Str × D)}, Tb K kvs tab → (kvs.any fun p => p.1 == z) = tab.any fun p => p.1 == z
  | _, _, .nil => rfl
  | _, _, .cons h r => by rw [List.any_cons, List.any_cons, Tb.any r]
theorem Tb.look {K : PySem.W.Frag} {z : Str} {d : D} : ∀ {kvs : List (Str × V)} {tab : List (Str × D)}, Tb K kvs tab → tab.lookup z = some d → ∃ v, kvs.lookup z = some v ∧ ∀ H, Dv K H v d
  | _, _, .nil, h => by cases h
  | _, _, .cons (x := x) h r, e => by
    rw [List.lookup_cons] at e ⊢
    cases q : z == x with
    | true => rw [q] at e; cases e; exact ⟨_, rfl, h⟩
    | false => rw [q] at e; exact Tb.look r e
theorem PD.weak {X : Cx} {e : Expr} {t t' : ED} (h : PD X e t) (m : MonoE t') (f : ∀ δ Q, t' δ Q → t δ Q) : PD X e t' := ⟨h.pe.imp fun σ H Q ⟨δ, r, q⟩ => ⟨δ, r, f _ _ q⟩, m⟩
theorem PTd.weak {X : Cx} {e : Expr} {t t' : TD} (h : PTd X e t) (m : MonoT t') (f : ∀ δ Q, t' δ Q → t δ Q) : PTd X e t' := ⟨PT.imp h.pt fun σ H Q ⟨δ, r, q⟩ => ⟨δ, r, f _ _ q⟩, m⟩
def vInK (neg : Bool) (tab : List (Str × D)) (te : ED) : ED := fun δ Q => te δ fun d => ∃ z, d = .str z ∧ Q (.bl (if neg then !tab.any fun p => p.1 == z else tab.any fun p => p.1 == z))
theorem m_inK {neg : Bool} {tab : List (Str × D)} {te : ED} (m : MonoE te) : MonoE (vInK neg tab te) := fun δ P P' g h => m _ _ _ (fun d ⟨z, e, q⟩ => ⟨z, e, g _ q⟩) h
def fInK (neg : Bool) (a : Addr) (tab : List (Str × D)) : F2 := fun d e Q => ∃ z, d = .str z ∧ e = .adr a ∧ Q (.bl (if neg then !tab.any fun p => p.1 == z else tab.any fun p => p.1 == z))
theorem m_fInK {neg : Bool} {a : Addr} {tab : List (Str × D)} : MonoF (fInK neg a tab) := fun d e P P' g ⟨z, e1, e2, q⟩ => ⟨z, e1, e2, g _ q⟩
def vGetK (tab : List (Str × D)) (te : ED) : ED := fun δ Q => te δ fun d => ∃ z r, d = .str z ∧ tab.lookup z = some r ∧ Q r
def fGetK (a : Addr) (tab : List (Str × D)) : F2 := fun e d Q => ∃ z r, e = .adr a ∧ d = .str z ∧ tab.lookup z = some r ∧ Q r
theorem m_fGetK {a : Addr} {tab : List (Str × D)} : MonoF (fGetK a tab) := fun d e P P' g ⟨z, r, e1, e2, l, q⟩ => ⟨z, r, e1, e2, l, g _ q⟩
section
variable {X : Cx} {a : Addr} {tab : List (Str × D)} {kvs : List (Str × V)} {x : Str} {p pos : Pos} {e : Expr} {te : ED}
theorem does_inK (t : Tb X.K kvs tab) : Does X.K (fun x y H Q => ∃ z, x = .str z ∧ y = .ref a ∧ Q (.bl (kvs.any fun p => p.1 == z)) H) (fInK false a tab) := by
  rintro H v u d e Q hv hu ⟨z, rfl, rfl, q⟩
  cases hv
  cases hu
  exact ⟨z, rfl, rfl, by rw [t.any]; exact q _ H (Same.refl _) (.bl _)⟩
theorem does_notInK (t : Tb X.K kvs tab) : Does X.K (fun x y H Q => ∃ z, x = .str z ∧ y = .ref a ∧ Q (.bl (!kvs.any fun p => p.1 == z)) H) (fInK true a tab) := by
  rintro H v u d e Q hv hu ⟨z, rfl, rfl, q⟩
  cases hv
  cases hu
  exact ⟨z, rfl, rfl, by rw [t.any]; exact q _ H (Same.refl _) (.bl _)⟩
theorem does_getK (t : Tb X.K kvs tab) : Does X.K (fun x y H Q => ∃ z r, x = .ref a ∧ y = .str z ∧ kvs.lookup z = some r ∧ Q r H) (fGetK a tab) := by
  rintro H v u d e Q hv hu ⟨z, r, rfl, rfl, l, q⟩
  cases hv
  cases hu
  obtain ⟨b, hb, db⟩ := t.look l
  exact ⟨z, b, rfl, rfl, hb, q _ H (Same.refl _) (db H)⟩
theorem d_inK (T : KTd X.w X.K X.mg x a tab) (hg : Gl X x) (he : PD X e te) (hm : behindInMarks .In (.Name x p) = false := by rfl) (hd : (x == ("__debug__" : Str)) = false := by decide) : PD X (.Compare e [.In] [.Name x p] pos) (vInK false tab te) := by
  obtain ⟨kvs, k, t⟩ := T.ex
  exact (d_cmp (op_inK k) (does_inK t) m_fInK he (d_glob (v := .ref a) hg T.at_ rfl (fun _ => .adr a) hd) hm).weak (m_inK he.mono) fun δ Q h => he.mono _ _ _ (fun d ⟨z, e1, q⟩ => ⟨z, e1, rfl, q⟩) h
theorem t_notinK (T : KTd X.w X.K X.mg x a tab) (hg : Gl X x) (he : PD X e te) (hm : behindInMarks .NotIn (.Name x p) = false := by rfl) (hd : (x == ("__debug__" : Str)) = false := by decide) : PTd X (.Compare e [.NotIn] [.Name x p] pos) (vTest (vInK true tab te)) := by
  obtain ⟨kvs, k, t⟩ := T.ex
  exact (t_cmp (op_notInK k) (does_notInK t) m_fInK he (d_glob (v := .ref a) hg T.at_ rfl (fun _ => .adr a) hd) hm).weak (m_test (m_inK he.mono)) fun δ Q h => he.mono _ _ _ (fun d ⟨z, e1, q⟩ => ⟨z, e1, rfl, q⟩) h
theorem d_getK (T : KTd X.w X.K X.mg x a tab) (hg : Gl X x) (he : PD X e te) (hs : PlainIx e) (hd : (x == ("__debug__" : Str)) = false := by decide) : PD X (.Subscript (.Name x p) e pos) (vGetK tab te) := by
  obtain ⟨kvs, k, t⟩ := T.ex
  have q := d_glob (X := X) (pos := p) (v := .ref a) hg T.at_ rfl (fun _ => .adr a) hd
  exact (d_bin (t := oE X.K (vC (.adr a))) (pe_ix (ix_getK k) q.pe he.pe hs) q.mono he.mono (does_getK t) m_fGetK).weak (fun δ P P' g h => he.mono _ _ _ (fun d ⟨z, r, e, l, q⟩ => ⟨z, r, e, l, g _ q⟩) h) fun δ Q h => he.mono _ _ _ (fun d ⟨z, r, e1, l, q⟩ => ⟨z, r, rfl, e1, l, q⟩) h
end
def fLst (t : AD) : EF := fun δ Q => t δ fun ds => ds.length ≤ sizeLine ∧ ∀ a, Q (.adr a) [(a, .lst ds)]
theorem f_lst {X : Cx} {es : List Expr} {t : AD} {pos : Pos} (h : PAd X es t) : PF X (.List es pos) (fLst t) := by
  refine ⟨(pe_lst h.pa).imp fun σ H Q ⟨δ, r, q⟩ => ⟨δ, r, h.mono _ _ _ (fun ds ⟨hl, k⟩ vs H1 s1 dvs => ⟨by rw [dvs.length]; exact hl, fun p hp => ?_⟩) q⟩, fun δ P P' g q => h.mono _ _ _ (fun ds ⟨hl, k⟩ => ⟨hl, fun a => g _ _ (k a)⟩) q⟩
  obtain ⟨g2, e2⟩ := (StM.nil (K := X.K) (H := H1)).newL hp (ds := ds) (by rw [hidL_nil]; exact dvs)
  exact k p (.ref p) _ [p] (by rw [e2, hidL_nil]; exact s1) g2 (.adr p)
def mO (g : D → D) (ds : List D) : List (Option D) := ds.map fun d => some (g d)
def fO (p : D → Bool) (g : D → D) (ds : List D) : List (Option D) := ds.map fun d => if p d = true then some (g d) else none
theorem mO_len {g : D → D} {ds : List D} : (mO g ds).length = ds.length := by simp [mO]
theorem fO_len {p : D → Bool} {g : D → D} {ds : List D} : (fO p g ds).length = ds.length := by simp [fO]
theorem mO_at {g : D → D} {ds : List D} {i : Nat} {d : D} {o : Option D} (h1 : ds[i]? = some d) (h2 : (mO g ds)[i]? = some o) : d ∈ ds ∧ o = some (g d) := by
  unfold mO at h2
  rw [List.getElem?_map, h1] at h2
  exact ⟨List.mem_of_getElem? h1, by simpa using h2.symm⟩
theorem fO_at {p : D → Bool} {g : D → D} {ds : List D} {i : Nat} {d : D} {o : Option D} (h1 : ds[i]? = some d) (h2 : (fO p g ds)[i]? = some o) : d ∈ ds ∧ o = if p d = true then some (g d) else none := by
  unfold fO at h2
  rw [List.getElem?_map, h1] at h2
  exact ⟨List.mem_of_getElem? h1, by simpa using h2.symm⟩
theorem mO_out {g : D → D} : ∀ {ds : List D}, (mO g ds).filterMap id = ds.map g
  | [] => rfl
  | d :: ds => by
    have ih := mO_out (g := g) (ds := ds)
    unfold mO at ih ⊢
    rw [List.map_cons, List.map_cons, ← ih]
    rfl
theorem fO_out {p : D → Bool} {g : D → D} {ds : List D} : (fO p g ds).filterMap id = (ds.filter p).map g := outs_eq p g ds
theorem fO_one {p : D → Bool} {g : D → D} {d : D} {o : Option D} {R : (D → Prop) → Prop} (h : o = if p d = true then some (g d) else none) (r : R fun y => some (g d) = some y) : p d = o.isSome ∧ (p d = true → R fun y => o = some y) := by
  cases hp : p d with
  | true => rw [hp, if_pos rfl] at h; subst h; exact ⟨rfl, fun _ => r⟩
  | false => rw [hp, if_neg Bool.false_ne_true] at h; subst h; exact ⟨rfl, fun z => by cases z⟩
end DC
namespace DC
open PySem PySem.Spec PyProof.Rows L2
section
variable {X : Cx} {e : Expr} {tf : EF} {x : Str} {pos pos' : Pos} {i : Nat}
def mSetN (i : Nat) (tf : EF) : TMD := fun E δ μ => tf δ fun d μ' => ((μ' ++ μ).map (·.1)).Nodup → E.nx (δ.set i (some d)) (μ' ++ μ)
theorem ms_setN (hN : X.N.Nodup) (hi : X.N[i]? = some x) (hx : Loc X.env.scope x) (he : PF X e tf) (hs : swapsWith e (some (.Name x pos')) pos.line X.env = pure false := by rfl)
    (hf : X.fn x = true ∨ X.env.scope.names.lookup x = some .local := by first | exact .inl rfl | exact .inr rfl | assumption) : PMd X (.Assign [.Name x pos'] e pos) (mSetN i tf) := by
  refine ⟨PS.imp (ps_set hN hi hx (pe_frM he.pe) hs hf) fun D σ H ⟨δ, μ, L, r, g, h⟩ => ⟨L, g.hid, δ, r, he.mono _ _ _ (fun d μ' k v H' L' s' g' dv z => ?_) h⟩, fun E E' δ μ l h => he.mono _ _ _ (fun d μ' q n => l.nx _ _ (q n)) h⟩
  obtain ⟨g2, e2⟩ := g.join g' z s'
  refine k g2.nod _ _ (L' ++ L) (by rw [e2]; exact s') ?_ g2
  rw [e2]
  exact (r.same s').set i dv
end
end DC

set_option maxHeartbeats 4000000
namespace L2
open PySem PySem.Spec PyProof.Rows
section
variable {X : Cx} {es : List Expr} {t : TA}
end
end L2
namespace DC
open PySem PySem.Spec PyProof.Rows L2
section
variable {P : Program} {w : World} {K : PySem.W.Frag} {mg : Str → Option Value} {base : Heap}
end
section
variable {P : Program} {w : World} {K : PySem.W.Frag} {mg : Str → Option Value} {base : Heap}
end
section
variable {X : Cx} {o e : Expr} {es : List Expr} {ta : ED} {t : AD} {j k : Nat} {x y m : Str} {ps : List Str} {sd : SpM} {sm : Addr → SpM} {ok : Addr → Prop} {p pos pos' pos2 apos : Pos} {i : Nat}
end
end DC

set_option maxHeartbeats 4000000
namespace K03
open PySem PySem.Spec PyProof.Rows L2 DC
def top (i : Nat) : Stmt := PySem.Challenge.pw_runrows_k03_told_and_written.main.body.getD i (.Pass ⟨0, 0, 0, 0⟩)
def cbody : Stmt → List Stmt
  | .ClassDef _ _ _ b _ _ _ _ _ _ _ => b
  | _ => []
theorem scM {N P : List Str} {sc : Scope} (a : sc.kind = .function := by rfl) (b : sc.isCoroutine = false := by rfl) (c : sc.isGenerator = false := by rfl) (d : N.Nodup := by decide +kernel) (e : N.take P.length = P := by rfl)
    (f : ∀ x ∈ P, sc.names.lookup x = some .local ∨ sc.names.lookup x = some .cell := by decide +kernel) (g : ∀ y ∈ sc.names, y.2 ≠ .free := by decide +kernel) : FnScope N P sc := ⟨a, b, c, d, e, f, g⟩
abbrev s_has_letters : Stmt := top 12
theorem sc_has_letters : FnScope ["text"] ["text"] (defScope s_has_letters) := scM
abbrev s_has_word_form : Stmt := top 13
theorem sc_has_word_form : FnScope ["text"] ["text"] (defScope s_has_word_form) := scM
abbrev s_is_word : Stmt := top 14
theorem sc_is_word : FnScope ["thing"] ["thing"] (defScope s_is_word) := scM
abbrev s_is_name : Stmt := top 15
theorem sc_is_name : FnScope ["thing", "words"] ["thing"] (defScope s_is_name) := scM
abbrev s_is_number : Stmt := top 16
theorem sc_is_number : FnScope ["thing"] ["thing"] (defScope s_is_number) := scM
abbrev s_is_value : Stmt := top 17
theorem sc_is_value : FnScope ["thing"] ["thing"] (defScope s_is_value) := scM
abbrev s_value_text : Stmt := top 18
theorem sc_value_text : FnScope ["value"] ["value"] (defScope s_value_text) := scM
abbrev s_need_name : Stmt := top 23
theorem sc_need_name : FnScope ["name"] ["name"] (defScope s_need_name) := scM
abbrev s_once : Stmt := top 24
theorem sc_once : FnScope ["lists", "found", "names", "name"] ["lists"] (defScope s_once) := scM
abbrev s_need_first : Stmt := top 32
theorem sc_need_first : FnScope ["first"] ["first"] (defScope s_need_first) := scM
abbrev s_first_text : Stmt := top 33
theorem sc_first_text : FnScope ["first"] ["first"] (defScope s_first_text) := scM
abbrev s_has_shape : Stmt := top 40
theorem sc_has_shape : FnScope ["told"] ["told"] (defScope s_has_shape) := scM
abbrev s_plain_by : Stmt := top 41
theorem sc_plain_by : FnScope ["told", "inner", "word"] ["told", "inner"] (defScope s_plain_by) := scM
abbrev s_timed_by : Stmt := top 42
theorem sc_timed_by : FnScope ["told", "inner", "word"] ["told", "inner"] (defScope s_timed_by) := scM
abbrev s_many_within : Stmt := top 43
theorem sc_many_within : FnScope ["told"] ["told"] (defScope s_many_within) := scM
abbrev s_part_of : Stmt := top 44
theorem sc_part_of : FnScope ["told", "inner"] ["told"] (defScope s_part_of) := scM
abbrev s_part_at : Stmt := top 45
theorem sc_part_at : FnScope ["part", "place", "at"] ["part", "place"] (defScope s_part_at) := scM
abbrev s__law_cell_at : Stmt := top 47
theorem sc__law_cell_at : FnScope ["_law_script", "_law_k"] ["_law_script", "_law_k"] (defScope s__law_cell_at) := scM
abbrev s__law_mixed : Stmt := top 48
theorem sc__law_mixed : FnScope ["_law_cell", "_law_k", "_law_mix"] ["_law_cell", "_law_k"] (defScope s__law_mixed) := scM
abbrev s__law_names : Stmt := top 49
theorem sc__law_names : FnScope ["_law_cell", "_law_many", "_law_letters", "_law_base", "_law_k", "_law_at", "_law_ahead"] ["_law_cell", "_law_many"] (defScope s__law_names) := scM
abbrev s__law_number : Stmt := top 50
theorem sc__law_number : FnScope ["_law_mix"] ["_law_mix"] (defScope s__law_number) := scM
abbrev s__law_value : Stmt := top 51
theorem sc__law_value : FnScope ["_law_mix", "_law_kind"] ["_law_mix", "_law_kind"] (defScope s__law_value) := scM
abbrev s__law_whole : Stmt := top 52
theorem sc__law_whole : FnScope ["_law_found"] ["_law_found"] (defScope s__law_whole) := scM
abbrev s__law_same : Stmt := top 53
theorem sc__law_same : FnScope ["_law_found", "_law_due"] ["_law_found", "_law_due"] (defScope s__law_same) := scM
abbrev s__law_tree : Stmt := top 54
theorem sc__law_tree : FnScope ["_law_cell", "_law_names_here", "_law_deep", "_law_way", "_law_one", "_law_name", "_law_first", "_law_other"] ["_law_cell", "_law_names_here", "_law_deep"] (defScope s__law_tree) := scM
abbrev s__law_inner : Stmt := top 55
theorem sc__law_inner : FnScope ["_law_told"] ["_law_told"] (defScope s__law_inner) := scM
abbrev s__law_value_text : Stmt := top 56
theorem sc__law_value_text : FnScope ["_law_value_here"] ["_law_value_here"] (defScope s__law_value_text) := scM
abbrev s__law_text : Stmt := top 57
theorem sc__law_text : FnScope ["_law_told", "_law_word", "_law_end", "_law_one"] ["_law_told"] (defScope s__law_text) := scM
abbrev s__law_size : Stmt := top 58
theorem sc__law_size : FnScope ["_law_told"] ["_law_told"] (defScope s__law_size) := scM
abbrev s__law_depth : Stmt := top 59
theorem sc__law_depth : FnScope ["_law_told"] ["_law_told"] (defScope s__law_depth) := scM
abbrev s__law_names_in : Stmt := top 60
theorem sc__law_names_in : FnScope ["_law_told", "_law_all_of_them", "_law_found", "_law_one"] ["_law_told", "_law_all_of_them"] (defScope s__law_names_in) := scM
abbrev s__law_by_fields : Stmt := top 61
theorem sc__law_by_fields : FnScope ["_law_part"] ["_law_part"] (defScope s__law_by_fields) := scM
abbrev s__law_chain : Stmt := top 62
theorem sc__law_chain : FnScope ["_law_cell", "_law_names_here", "_law_size_here", "_law_told", "_law_k", "_law_way", "_law_name"] ["_law_cell", "_law_names_here", "_law_size_here"] (defScope s__law_chain) := scM
abbrev s__law_some : Stmt := top 63
theorem sc__law_some : FnScope ["_law_script", "_law_cell", "_law_names_here"] ["_law_script"] (defScope s__law_some) := scM
abbrev s__law_right : Stmt := top 64
theorem sc__law_right : FnScope ["_law_part", "_law_told", "_law_turn", "_law_names_here", "_law_needs"] ["_law_part", "_law_told"] (defScope s__law_right) := scM
abbrev s_law : Stmt := top 65
theorem sc_law : FnScope ["_law_script", "_law_told", "_law_part", "_law_place", "_law_here", "_law_k", "_law_some_here", "_law_at"] ["_law_script"] (defScope s_law) := scM
abbrev s_Part_inner : Stmt := (cbody (top 25)).getD 0 (.Pass ⟨0, 0, 0, 0⟩)
theorem sc_Part_inner : FnScope ["self"] ["self"] (defScope s_Part_inner) := scM
abbrev s_Part_own_names : Stmt := (cbody (top 25)).getD 1 (.Pass ⟨0, 0, 0, 0⟩)
theorem sc_Part_own_names : FnScope ["self"] ["self"] (defScope s_Part_own_names) := scM
abbrev s_Part_size : Stmt := (cbody (top 25)).getD 2 (.Pass ⟨0, 0, 0, 0⟩)
theorem sc_Part_size : FnScope ["self"] ["self"] (defScope s_Part_size) := scM
abbrev s_Part_depth : Stmt := (cbody (top 25)).getD 3 (.Pass ⟨0, 0, 0, 0⟩)
theorem sc_Part_depth : FnScope ["self"] ["self"] (defScope s_Part_depth) := scM
abbrev s_Part_need_bounds : Stmt := (cbody (top 25)).getD 4 (.Pass ⟨0, 0, 0, 0⟩)
theorem sc_Part_need_bounds : FnScope ["self"] ["self"] (defScope s_Part_need_bounds) := scM
abbrev s_Part_names : Stmt := (cbody (top 25)).getD 5 (.Pass ⟨0, 0, 0, 0⟩)
theorem sc_Part_names : FnScope ["self"] ["self"] (defScope s_Part_names) := scM
abbrev s_Part_needs : Stmt := (cbody (top 25)).getD 6 (.Pass ⟨0, 0, 0, 0⟩)
theorem sc_Part_needs : FnScope ["self"] ["self"] (defScope s_Part_needs) := scM
abbrev s_Given___init__ : Stmt := (cbody (top 26)).getD 0 (.Pass ⟨0, 0, 0, 0⟩)
theorem sc_Given___init__ : FnScope ["self", "value"] ["self", "value"] (defScope s_Given___init__) := scM
abbrev s_Given_told : Stmt := (cbody (top 26)).getD 2 (.Pass ⟨0, 0, 0, 0⟩)
theorem sc_Given_told : FnScope ["self"] ["self"] (defScope s_Given_told) := scM
abbrev s_Given_text : Stmt := (cbody (top 26)).getD 3 (.Pass ⟨0, 0, 0, 0⟩)
theorem sc_Given_text : FnScope ["self"] ["self"] (defScope s_Given_text) := scM
abbrev s_Named___init__ : Stmt := (cbody (top 27)).getD 0 (.Pass ⟨0, 0, 0, 0⟩)
theorem sc_Named___init__ : FnScope ["self", "name"] ["self", "name"] (defScope s_Named___init__) := scM
abbrev s_Named_own_names : Stmt := (cbody (top 27)).getD 1 (.Pass ⟨0, 0, 0, 0⟩)
theorem sc_Named_own_names : FnScope ["self"] ["self"] (defScope s_Named_own_names) := scM
abbrev s_Named_told : Stmt := (cbody (top 27)).getD 4 (.Pass ⟨0, 0, 0, 0⟩)
theorem sc_Named_told : FnScope ["self"] ["self"] (defScope s_Named_told) := scM
abbrev s_Named_text : Stmt := (cbody (top 27)).getD 5 (.Pass ⟨0, 0, 0, 0⟩)
theorem sc_Named_text : FnScope ["self"] ["self"] (defScope s_Named_text) := scM
abbrev s_Turned___init__ : Stmt := (cbody (top 28)).getD 0 (.Pass ⟨0, 0, 0, 0⟩)
theorem sc_Turned___init__ : FnScope ["self", "part"] ["self", "part"] (defScope s_Turned___init__) := scM
abbrev s_Turned_inner : Stmt := (cbody (top 28)).getD 1 (.Pass ⟨0, 0, 0, 0⟩)
theorem sc_Turned_inner : FnScope ["self"] ["self"] (defScope s_Turned_inner) := scM
abbrev s_Turned_told : Stmt := (cbody (top 28)).getD 3 (.Pass ⟨0, 0, 0, 0⟩)
theorem sc_Turned_told : FnScope ["self"] ["self"] (defScope s_Turned_told) := scM
abbrev s_Turned_text : Stmt := (cbody (top 28)).getD 4 (.Pass ⟨0, 0, 0, 0⟩)
theorem sc_Turned_text : FnScope ["self", "part"] ["self"] (defScope s_Turned_text) := scM
abbrev s_Pair___init__ : Stmt := (cbody (top 29)).getD 0 (.Pass ⟨0, 0, 0, 0⟩)
theorem sc_Pair___init__ : FnScope ["self", "sign", "one", "other"] ["self", "sign", "one", "other"] (defScope s_Pair___init__) := scM
abbrev s_Pair_inner : Stmt := (cbody (top 29)).getD 1 (.Pass ⟨0, 0, 0, 0⟩)
theorem sc_Pair_inner : FnScope ["self"] ["self"] (defScope s_Pair_inner) := scM
abbrev s_Pair_told : Stmt := (cbody (top 29)).getD 3 (.Pass ⟨0, 0, 0, 0⟩)
theorem sc_Pair_told : FnScope ["self"] ["self"] (defScope s_Pair_told) := scM
abbrev s_Pair_text : Stmt := (cbody (top 29)).getD 4 (.Pass ⟨0, 0, 0, 0⟩)
theorem sc_Pair_text : FnScope ["self", "one", "sign", "other"] ["self"] (defScope s_Pair_text) := scM
abbrev s_Choice___init__ : Stmt := (cbody (top 30)).getD 0 (.Pass ⟨0, 0, 0, 0⟩)
theorem sc_Choice___init__ : FnScope ["self", "truth", "one", "other"] ["self", "truth", "one", "other"] (defScope s_Choice___init__) := scM
abbrev s_Choice_inner : Stmt := (cbody (top 30)).getD 1 (.Pass ⟨0, 0, 0, 0⟩)
theorem sc_Choice_inner : FnScope ["self"] ["self"] (defScope s_Choice_inner) := scM
abbrev s_Choice_told : Stmt := (cbody (top 30)).getD 3 (.Pass ⟨0, 0, 0, 0⟩)
theorem sc_Choice_told : FnScope ["self"] ["self"] (defScope s_Choice_told) := scM
abbrev s_Choice_text : Stmt := (cbody (top 30)).getD 4 (.Pass ⟨0, 0, 0, 0⟩)
theorem sc_Choice_text : FnScope ["self", "truth", "one", "other"] ["self"] (defScope s_Choice_text) := scM
abbrev s_Before___init__ : Stmt := (cbody (top 34)).getD 0 (.Pass ⟨0, 0, 0, 0⟩)
theorem sc_Before___init__ : FnScope ["self", "part", "first"] ["self", "part", "first"] (defScope s_Before___init__) := scM
abbrev s_Before_inner : Stmt := (cbody (top 34)).getD 1 (.Pass ⟨0, 0, 0, 0⟩)
theorem sc_Before_inner : FnScope ["self"] ["self"] (defScope s_Before_inner) := scM
abbrev s_Before_needs : Stmt := (cbody (top 34)).getD 2 (.Pass ⟨0, 0, 0, 0⟩)
theorem sc_Before_needs : FnScope ["self"] ["self"] (defScope s_Before_needs) := scM
abbrev s_Before_told : Stmt := (cbody (top 34)).getD 4 (.Pass ⟨0, 0, 0, 0⟩)
theorem sc_Before_told : FnScope ["self"] ["self"] (defScope s_Before_told) := scM
abbrev s_Before_text : Stmt := (cbody (top 34)).getD 5 (.Pass ⟨0, 0, 0, 0⟩)
theorem sc_Before_text : FnScope ["self", "part", "first"] ["self"] (defScope s_Before_text) := scM
abbrev s_Led___init__ : Stmt := (cbody (top 35)).getD 0 (.Pass ⟨0, 0, 0, 0⟩)
theorem sc_Led___init__ : FnScope ["self", "head", "rest"] ["self", "head", "rest"] (defScope s_Led___init__) := scM
abbrev s_Led_inner : Stmt := (cbody (top 35)).getD 1 (.Pass ⟨0, 0, 0, 0⟩)
theorem sc_Led_inner : FnScope ["self"] ["self"] (defScope s_Led_inner) := scM
abbrev s_Led_told : Stmt := (cbody (top 35)).getD 3 (.Pass ⟨0, 0, 0, 0⟩)
theorem sc_Led_told : FnScope ["self"] ["self"] (defScope s_Led_told) := scM
abbrev s_Led_text : Stmt := (cbody (top 35)).getD 4 (.Pass ⟨0, 0, 0, 0⟩)
theorem sc_Led_text : FnScope ["self", "head", "rest"] ["self"] (defScope s_Led_text) := scM
abbrev s_When___init__ : Stmt := (cbody (top 36)).getD 0 (.Pass ⟨0, 0, 0, 0⟩)
theorem sc_When___init__ : FnScope ["self", "part", "name"] ["self", "part", "name"] (defScope s_When___init__) := scM
abbrev s_When_inner : Stmt := (cbody (top 36)).getD 1 (.Pass ⟨0, 0, 0, 0⟩)
theorem sc_When_inner : FnScope ["self"] ["self"] (defScope s_When_inner) := scM
abbrev s_When_own_names : Stmt := (cbody (top 36)).getD 2 (.Pass ⟨0, 0, 0, 0⟩)
theorem sc_When_own_names : FnScope ["self"] ["self"] (defScope s_When_own_names) := scM
abbrev s_When_told : Stmt := (cbody (top 36)).getD 5 (.Pass ⟨0, 0, 0, 0⟩)
theorem sc_When_told : FnScope ["self"] ["self"] (defScope s_When_told) := scM
abbrev s_When_text : Stmt := (cbody (top 36)).getD 6 (.Pass ⟨0, 0, 0, 0⟩)
theorem sc_When_text : FnScope ["self", "part", "name"] ["self"] (defScope s_When_text) := scM
abbrev s_Held___init__ : Stmt := (cbody (top 37)).getD 0 (.Pass ⟨0, 0, 0, 0⟩)
theorem sc_Held___init__ : FnScope ["self", "part", "name", "first"] ["self", "part", "name", "first"] (defScope s_Held___init__) := scM
abbrev s_Held_inner : Stmt := (cbody (top 37)).getD 1 (.Pass ⟨0, 0, 0, 0⟩)
theorem sc_Held_inner : FnScope ["self"] ["self"] (defScope s_Held_inner) := scM
abbrev s_Held_own_names : Stmt := (cbody (top 37)).getD 2 (.Pass ⟨0, 0, 0, 0⟩)
theorem sc_Held_own_names : FnScope ["self"] ["self"] (defScope s_Held_own_names) := scM
abbrev s_Held_told : Stmt := (cbody (top 37)).getD 5 (.Pass ⟨0, 0, 0, 0⟩)
theorem sc_Held_told : FnScope ["self"] ["self"] (defScope s_Held_told) := scM
abbrev s_Held_text : Stmt := (cbody (top 37)).getD 6 (.Pass ⟨0, 0, 0, 0⟩)
theorem sc_Held_text : FnScope ["self", "part", "name", "first"] ["self"] (defScope s_Held_text) := scM
end K03

set_option maxHeartbeats 4000000
namespace K03
open PySem PySem.Spec PyProof.Rows L2 DC
inductive Pt where
  | given (v : D) | named (n : Str) | turned (p : Pt) | pair (g : Str) (a b : Pt) | choice (t a b : Pt)
  | before (p : Pt) (f : D) | led (h r : Pt) | whn (p : Pt) (n : Str) | held (p : Pt) (n : Str) (f : D)
structure Adr where
  given : Addr
  named : Addr
  turned : Addr
  pair : Addr
  choice : Addr
  before : Addr
  led : Addr
  whn : Addr
  held : Addr
def Pt.cls (A : Adr) : Pt → Addr
  | .given _ => A.given | .named _ => A.named | .turned _ => A.turned | .pair _ _ _ => A.pair | .choice _ _ _ => A.choice
  | .before _ _ => A.before | .led _ _ => A.led | .whn _ _ => A.whn | .held _ _ _ => A.held
def Pt.d (A : Adr) : Pt → D
  | .given v => .obj A.given [("value", v)]
  | .named n => .obj A.named [("name", .str n)]
  | .turned p => .obj A.turned [("part", p.d A)]
  | .pair g a b => .obj A.pair [("sign", .str g), ("one", a.d A), ("other", b.d A)]
  | .choice t a b => .obj A.choice [("truth", t.d A), ("one", a.d A), ("other", b.d A)]
  | .before p f => .obj A.before [("part", p.d A), ("first", f)]
  | .led h r => .obj A.led [("head", h.d A), ("rest", r.d A)]
  | .whn p n => .obj A.whn [("part", p.d A), ("name", .str n)]
  | .held p n f => .obj A.held [("part", p.d A), ("name", .str n), ("first", f)]
def Pt.depth : Pt → Nat
  | .given _ => 1 | .named _ => 1 | .turned p => p.depth + 1 | .pair _ a b => max a.depth b.depth + 1 | .choice t a b => max t.depth (max a.depth b.depth) + 1
  | .before p _ => p.depth + 1 | .led h r => max h.depth r.depth + 1 | .whn p _ => p.depth + 1 | .held p _ _ => p.depth + 1
def Pt.inner : Pt → List Pt
  | .given _ => [] | .named _ => [] | .turned p => [p] | .pair _ a b => [a, b] | .choice t a b => [t, a, b]
  | .before p _ => [p] | .led h r => [h, r] | .whn p _ => [p] | .held p _ _ => [p]
def Pt.told : Pt → D
  | .given v => .tup [.str "given", v]
  | .named n => .tup [.str "named", .str n]
  | .turned p => .tup [.str "not", p.told]
  | .pair g a b => .tup [.str g, a.told, b.told]
  | .choice t a b => .tup [.str "if", t.told, a.told, b.told]
  | .before p f => .tup [.str "before", p.told, f]
  | .led h r => .tup [.str "then", h.told, r.told]
  | .whn p n => .tup [.str "when", p.told, .str n]
  | .held p n f => .tup [.str "held", p.told, .str n, f]
structure AOk (K : PySem.W.Frag) (A : Adr) : Prop where
  nd : [A.given, A.named, A.turned, A.pair, A.choice, A.before, A.led, A.whn, A.held].Nodup
  cl : ∀ C ∈ [A.given, A.named, A.turned, A.pair, A.choice, A.before, A.led, A.whn, A.held], Cls K C
  nof : ∀ C ∈ [A.given, A.named, A.turned, A.pair, A.choice, A.before, A.led, A.whn, A.held], ∀ f ∈ (["value", "name", "part", "sign", "one", "other", "truth", "first", "head", "rest"] : List Str), NoAttr K C f
theorem Pt.cls_in (A : Adr) (p : Pt) : p.cls A ∈ [A.given, A.named, A.turned, A.pair, A.choice, A.before, A.led, A.whn, A.held] := by cases p <;> simp [Pt.cls]
def Pt.ix : Pt → Nat
  | .given _ => 0 | .named _ => 1 | .turned _ => 2 | .pair _ _ _ => 3 | .choice _ _ _ => 4 | .before _ _ => 5 | .led _ _ => 6 | .whn _ _ => 7 | .held _ _ _ => 8
theorem Pt.at_ (A : Adr) (p : Pt) : [A.given, A.named, A.turned, A.pair, A.choice, A.before, A.led, A.whn, A.held][p.ix]? = some (p.cls A) := by cases p <;> rfl
theorem nodup_at {α : Type} : ∀ {l : List α} {i j : Nat} {x : α}, l.Nodup → l[i]? = some x → l[j]? = some x → i = j := fun {l i j x} nd a b => by
  have hi : i < l.length := (List.getElem?_eq_some_iff.mp a).1
  exact (List.getElem?_inj hi nd).mp (a.trans b.symm)
theorem cls_ix {K : PySem.W.Frag} {A : Adr} (hA : AOk K A) {p q : Pt} (h : p.cls A = q.cls A) : p.ix = q.ix := nodup_at hA.nd (p.at_ A) (by rw [h]; exact q.at_ A)
theorem is_given {K : PySem.W.Frag} {A : Adr} (hA : AOk K A) {p : Pt} (h : p.cls A = A.given) : ∃ v, p = .given v := by
  have i := cls_ix hA (q := .given .non) h
  cases p with
  | given v => exact ⟨v, rfl⟩
  | _ => exact absurd i (by simp only [Pt.ix]; decide)
theorem is_named {K : PySem.W.Frag} {A : Adr} (hA : AOk K A) {p : Pt} (h : p.cls A = A.named) : ∃ n, p = .named n := by
  have i := cls_ix hA (q := .named "") h
  cases p with
  | named n => exact ⟨n, rfl⟩
  | _ => exact absurd i (by simp only [Pt.ix]; decide)
theorem is_turned {K : PySem.W.Frag} {A : Adr} (hA : AOk K A) {p : Pt} (h : p.cls A = A.turned) : ∃ x, p = .turned x := by
  have i := cls_ix hA (q := .turned (.given .non)) h
  cases p with
  | turned x => exact ⟨x, rfl⟩
  | _ => exact absurd i (by simp only [Pt.ix]; decide)
theorem is_pair {K : PySem.W.Frag} {A : Adr} (hA : AOk K A) {p : Pt} (h : p.cls A = A.pair) : ∃ g x y, p = .pair g x y := by
  have i := cls_ix hA (q := .pair "" (.given .non) (.given .non)) h
  cases p with
  | pair g x y => exact ⟨g, x, y, rfl⟩
  | _ => exact absurd i (by simp only [Pt.ix]; decide)
theorem is_choice {K : PySem.W.Frag} {A : Adr} (hA : AOk K A) {p : Pt} (h : p.cls A = A.choice) : ∃ t x y, p = .choice t x y := by
  have i := cls_ix hA (q := .choice (.given .non) (.given .non) (.given .non)) h
  cases p with
  | choice t x y => exact ⟨t, x, y, rfl⟩
  | _ => exact absurd i (by simp only [Pt.ix]; decide)
theorem is_before {K : PySem.W.Frag} {A : Adr} (hA : AOk K A) {p : Pt} (h : p.cls A = A.before) : ∃ x f, p = .before x f := by
  have i := cls_ix hA (q := .before (.given .non) .non) h
  cases p with
  | before x f => exact ⟨x, f, rfl⟩
  | _ => exact absurd i (by simp only [Pt.ix]; decide)
theorem is_led {K : PySem.W.Frag} {A : Adr} (hA : AOk K A) {p : Pt} (h : p.cls A = A.led) : ∃ x y, p = .led x y := by
  have i := cls_ix hA (q := .led (.given .non) (.given .non)) h
  cases p with
  | led x y => exact ⟨x, y, rfl⟩
  | _ => exact absurd i (by simp only [Pt.ix]; decide)
theorem is_whn {K : PySem.W.Frag} {A : Adr} (hA : AOk K A) {p : Pt} (h : p.cls A = A.whn) : ∃ x n, p = .whn x n := by
  have i := cls_ix hA (q := .whn (.given .non) "") h
  cases p with
  | whn x n => exact ⟨x, n, rfl⟩
  | _ => exact absurd i (by simp only [Pt.ix]; decide)
theorem is_held {K : PySem.W.Frag} {A : Adr} (hA : AOk K A) {p : Pt} (h : p.cls A = A.held) : ∃ x n f, p = .held x n f := by
  have i := cls_ix hA (q := .held (.given .non) "" .non) h
  cases p with
  | held x n f => exact ⟨x, n, f, rfl⟩
  | _ => exact absurd i (by simp only [Pt.ix]; decide)
def sdP (A : Adr) (n : Nat) (g : Pt → D) (C : Addr) : SpD := fun ds Q => ∃ p : Pt, ds = [p.d A] ∧ p.cls A = C ∧ p.depth ≤ n ∧ Q (g p)
theorem m_P {A : Adr} {n : Nat} {g : Pt → D} {C : Addr} : MonoS (sdP A n g C) := fun ds P P' f ⟨p, e, c, h, q⟩ => ⟨p, e, c, h, f _ q⟩
theorem l_P {A : Adr} {n : Nat} {g : Pt → D} {C : Addr} (ds : List D) (Q : D → Prop) (h : sdP A n g C ds Q) : ds.length = 1 := by obtain ⟨p, e, _⟩ := h; rw [e]; rfl
def isP (A : Adr) (C : Addr) : Prop := ∃ p : Pt, p.cls A = C
def noM (m : Str) : Prop := ∀ f ∈ (["value", "name", "part", "sign", "one", "other", "truth", "first", "head", "rest"] : List Str), (m == f) = false
theorem no_meth (A : Adr) {m : Str} (h : noM m) (p : Pt) : ∃ gs, p.d A = .obj (p.cls A) gs ∧ gs.lookup m = none := by
  have l : ∀ {f : Str} {d : D} {r : List (Str × D)}, f ∈ (["value", "name", "part", "sign", "one", "other", "truth", "first", "head", "rest"] : List Str) → r.lookup m = none → ((f, d) :: r).lookup m = none := fun hf hr => by
    rw [List.lookup_cons, h _ hf]
    exact hr
  cases p <;> refine ⟨_, rfl, ?_⟩ <;> repeat (first | rfl | refine l (by decide) ?_)
theorem vFld_of {K : PySem.W.Frag} {δ : SD} {i : Nat} {C : Addr} {gs : List (Str × D)} {f : Str} {r : D} {Q : D → Prop} (h : δ[i]? = some (some (.obj C gs))) (c : Cls K C) (n : NoAttr K C f) (l : gs.lookup f = some r) (q : Q r) : vFld K (vVar i) f δ Q := ⟨_, h, C, gs, r, rfl, c, n, l, q⟩
theorem m_fld {K : PySem.W.Frag} {i : Nat} {f : Str} : MonoE (vFld K (vVar i) f) := fun δ P P' g ⟨d, h, C, gs, r, ed, hc, hn, hl, k⟩ => ⟨d, h, C, gs, r, ed, hc, hn, hl, g _ k⟩
theorem vMeth_of {A : Adr} {n : Nat} {g : Pt → D} {m : Str} {ta : ED} {δ : SD} {p : Pt} {Q : D → Prop} (mt : MonoE ta) (hm : noM m) (h : ta δ fun d => d = p.d A) (hd : p.depth ≤ n) (q : Q (g p)) :
    vMeth (isP A) m (sdP A n g) [] ta aNil δ Q := mt _ _ _ (fun d e => by
  obtain ⟨gs, e1, e2⟩ := no_meth A hm p
  exact ⟨p.cls A, gs, e.trans e1, e2, ⟨p, rfl⟩, p, by rw [List.append_nil, e], rfl, hd, q⟩) h
theorem noM_told : noM "told" := by unfold noM; decide +kernel
theorem noM_text : noM "text" := by unfold noM; decide +kernel
theorem noM_inner : noM "inner" := by unfold noM; decide +kernel
section
seal wpAny
variable {P : Program} {w : World} {K : PySem.W.Frag} {mg : Str → Option Value} {base : Heap} {A : Adr} {n j : Nat}
abbrev MP (P : Program) (w : World) (K : PySem.W.Frag) (mg : Str → Option Value) (base : Heap) (A : Adr) (j : Nat) (m : Str) (n : Nat) (g : Pt → D) : Prop := ∀ C, isP A C → Mcal P w K mg base j C m (sdP A n g C) []
theorem told_given (hA : AOk K A) (d : Dm K A.given "told" "Given.told" s_Given_told ["self"]) : Mcal P w K mg base (j + 1) A.given "told" (sdP A (n + 1) Pt.told A.given) [] := by
  refine d.cal sc_Given_told m_P l_P (fun f cdv A outer s H E hr => have hu := hr.units; have hh := hr.hd; have sc := sc_Given_told
    (ss_one (s_ret (d_tup (a_cons d_str (a_cons (d_fldK K rfl (dv 0) (by rfl)) a_nil)))))) ?_
  rintro ds Q ⟨p, rfl, hc, hd, q⟩
  have c := hA.cl _ (Pt.cls_in A p)
  have no := hA.nof _ (Pt.cls_in A p)
  obtain ⟨v, rfl⟩ := is_given hA hc
  exact vFld_of rfl c (no _ (by decide)) (by kernel_rfl) ⟨(show 2 ≤ sizeLine by decide), q⟩
theorem told_turned (hA : AOk K A) (d : Dm K A.turned "told" "Turned.told" s_Turned_told ["self"]) (m_told : MP P w K mg base A j "told" n Pt.told) : Mcal P w K mg base (j + 1) A.turned "told" (sdP A (n + 1) Pt.told A.turned) [] := by
  refine d.cal sc_Turned_told m_P l_P (fun f cdv A outer s H E hr => have hu := hr.units; have hh := hr.hd; have sc := sc_Turned_told
    (ss_one (s_ret (d_tup (a_cons d_str (a_cons (d_m0 m_told hr (by omega) (d_fldK K rfl (dv 0) (by rfl))) a_nil)))))) ?_
  rintro ds Q ⟨p, rfl, hc, hd, q⟩
  have c := hA.cl _ (Pt.cls_in A p)
  have no := hA.nof _ (Pt.cls_in A p)
  obtain ⟨a, rfl⟩ := is_turned hA hc
  exact vMeth_of m_fld noM_told (vFld_of rfl c (no _ (by decide)) (by kernel_rfl) rfl) (by simp only [Pt.depth] at hd; omega) ⟨(show 2 ≤ sizeLine by decide), q⟩
theorem told_pair (hA : AOk K A) (d : Dm K A.pair "told" "Pair.told" s_Pair_told ["self"]) (m_told : MP P w K mg base A j "told" n Pt.told) : Mcal P w K mg base (j + 1) A.pair "told" (sdP A (n + 1) Pt.told A.pair) [] := by
  refine d.cal sc_Pair_told m_P l_P (fun f cdv A outer s H E hr => have hu := hr.units; have hh := hr.hd; have sc := sc_Pair_told
    (ss_one (s_ret (d_tup (a_cons (d_fldK K rfl (dv 0) (by rfl)) (a_cons (d_m0 m_told hr (by omega) (d_fldK K rfl (dv 0) (by rfl))) (a_cons (d_m0 m_told hr (by omega) (d_fldK K rfl (dv 0) (by rfl))) a_nil))))))) ?_
  rintro ds Q ⟨p, rfl, hc, hd, q⟩
  have c := hA.cl _ (Pt.cls_in A p)
  have no := hA.nof _ (Pt.cls_in A p)
  obtain ⟨g, a, b, rfl⟩ := is_pair hA hc
  simp only [Pt.depth] at hd
  exact vFld_of rfl c (no _ (by decide)) (by kernel_rfl) (vMeth_of m_fld noM_told (vFld_of rfl c (no _ (by decide)) (by kernel_rfl) rfl) (by omega)
    (vMeth_of m_fld noM_told (vFld_of rfl c (no _ (by decide)) (by kernel_rfl) rfl) (by omega) ⟨(show 3 ≤ sizeLine by decide), q⟩))
theorem told_named (hA : AOk K A) (d : Dm K A.named "told" "Named.told" s_Named_told ["self"]) : Mcal P w K mg base (j + 1) A.named "told" (sdP A (n + 1) Pt.told A.named) [] := by
  refine d.cal sc_Named_told m_P l_P (fun f cdv A outer s H E hr => have hu := hr.units; have hh := hr.hd; have sc := sc_Named_told
    (ss_one (s_ret (d_tup (a_cons d_str (a_cons (d_fldK K rfl (dv 0) (by rfl)) a_nil)))))) ?_
  rintro ds Q ⟨p, rfl, hc, hd, q⟩
  have c := hA.cl _ (Pt.cls_in A p)
  have no := hA.nof _ (Pt.cls_in A p)
  obtain ⟨s, rfl⟩ := is_named hA hc
  simp only [Pt.depth] at hd
  exact (vFld_of rfl c (no _ (by decide)) (by kernel_rfl) ⟨(show 2 ≤ sizeLine by decide), q⟩)
theorem told_choice (hA : AOk K A) (d : Dm K A.choice "told" "Choice.told" s_Choice_told ["self"]) (m_told : MP P w K mg base A j "told" n Pt.told) : Mcal P w K mg base (j + 1) A.choice "told" (sdP A (n + 1) Pt.told A.choice) [] := by
  refine d.cal sc_Choice_told m_P l_P (fun f cdv A outer s H E hr => have hu := hr.units; have hh := hr.hd; have sc := sc_Choice_told
    (ss_one (s_ret (d_tup (a_cons d_str (a_cons (d_m0 m_told hr (by omega) (d_fldK K rfl (dv 0) (by rfl))) (a_cons (d_m0 m_told hr (by omega) (d_fldK K rfl (dv 0) (by rfl))) (a_cons (d_m0 m_told hr (by omega) (d_fldK K rfl (dv 0) (by rfl))) a_nil)))))))) ?_
  rintro ds Q ⟨p, rfl, hc, hd, q⟩
  have c := hA.cl _ (Pt.cls_in A p)
  have no := hA.nof _ (Pt.cls_in A p)
  obtain ⟨x, y, z, rfl⟩ := is_choice hA hc
  simp only [Pt.depth] at hd
  exact (vMeth_of m_fld noM_told (vFld_of rfl c (no _ (by decide)) (by kernel_rfl) rfl) (by omega) (vMeth_of m_fld noM_told (vFld_of rfl c (no _ (by decide)) (by kernel_rfl) rfl) (by omega) (vMeth_of m_fld noM_told (vFld_of rfl c (no _ (by decide)) (by kernel_rfl) rfl) (by omega) ⟨(show 4 ≤ sizeLine by decide), q⟩)))
theorem told_before (hA : AOk K A) (d : Dm K A.before "told" "Before.told" s_Before_told ["self"]) (m_told : MP P w K mg base A j "told" n Pt.told) : Mcal P w K mg base (j + 1) A.before "told" (sdP A (n + 1) Pt.told A.before) [] := by
  refine d.cal sc_Before_told m_P l_P (fun f cdv A outer s H E hr => have hu := hr.units; have hh := hr.hd; have sc := sc_Before_told
    (ss_one (s_ret (d_tup (a_cons d_str (a_cons (d_m0 m_told hr (by omega) (d_fldK K rfl (dv 0) (by rfl))) (a_cons (d_fldK K rfl (dv 0) (by rfl)) a_nil))))))) ?_
  rintro ds Q ⟨p, rfl, hc, hd, q⟩
  have c := hA.cl _ (Pt.cls_in A p)
  have no := hA.nof _ (Pt.cls_in A p)
  obtain ⟨a, f, rfl⟩ := is_before hA hc
  simp only [Pt.depth] at hd
  exact (vMeth_of m_fld noM_told (vFld_of rfl c (no _ (by decide)) (by kernel_rfl) rfl) (by omega) (vFld_of rfl c (no _ (by decide)) (by kernel_rfl) ⟨(show 3 ≤ sizeLine by decide), q⟩))
theorem told_led (hA : AOk K A) (d : Dm K A.led "told" "Led.told" s_Led_told ["self"]) (m_told : MP P w K mg base A j "told" n Pt.told) : Mcal P w K mg base (j + 1) A.led "told" (sdP A (n + 1) Pt.told A.led) [] := by
  refine d.cal sc_Led_told m_P l_P (fun f cdv A outer s H E hr => have hu := hr.units; have hh := hr.hd; have sc := sc_Led_told
    (ss_one (s_ret (d_tup (a_cons d_str (a_cons (d_m0 m_told hr (by omega) (d_fldK K rfl (dv 0) (by rfl))) (a_cons (d_m0 m_told hr (by omega) (d_fldK K rfl (dv 0) (by rfl))) a_nil))))))) ?_
  rintro ds Q ⟨p, rfl, hc, hd, q⟩
  have c := hA.cl _ (Pt.cls_in A p)
  have no := hA.nof _ (Pt.cls_in A p)
  obtain ⟨x, y, rfl⟩ := is_led hA hc
  simp only [Pt.depth] at hd
  exact (vMeth_of m_fld noM_told (vFld_of rfl c (no _ (by decide)) (by kernel_rfl) rfl) (by omega) (vMeth_of m_fld noM_told (vFld_of rfl c (no _ (by decide)) (by kernel_rfl) rfl) (by omega) ⟨(show 3 ≤ sizeLine by decide), q⟩))
theorem told_whn (hA : AOk K A) (d : Dm K A.whn "told" "When.told" s_When_told ["self"]) (m_told : MP P w K mg base A j "told" n Pt.told) : Mcal P w K mg base (j + 1) A.whn "told" (sdP A (n + 1) Pt.told A.whn) [] := by
  refine d.cal sc_When_told m_P l_P (fun f cdv A outer s H E hr => have hu := hr.units; have hh := hr.hd; have sc := sc_When_told
    (ss_one (s_ret (d_tup (a_cons d_str (a_cons (d_m0 m_told hr (by omega) (d_fldK K rfl (dv 0) (by rfl))) (a_cons (d_fldK K rfl (dv 0) (by rfl)) a_nil))))))) ?_
  rintro ds Q ⟨p, rfl, hc, hd, q⟩
  have c := hA.cl _ (Pt.cls_in A p)
  have no := hA.nof _ (Pt.cls_in A p)
  obtain ⟨a, s, rfl⟩ := is_whn hA hc
  simp only [Pt.depth] at hd
  exact (vMeth_of m_fld noM_told (vFld_of rfl c (no _ (by decide)) (by kernel_rfl) rfl) (by omega) (vFld_of rfl c (no _ (by decide)) (by kernel_rfl) ⟨(show 3 ≤ sizeLine by decide), q⟩))
theorem told_held (hA : AOk K A) (d : Dm K A.held "told" "Held.told" s_Held_told ["self"]) (m_told : MP P w K mg base A j "told" n Pt.told) : Mcal P w K mg base (j + 1) A.held "told" (sdP A (n + 1) Pt.told A.held) [] := by
  refine d.cal sc_Held_told m_P l_P (fun f cdv A outer s H E hr => have hu := hr.units; have hh := hr.hd; have sc := sc_Held_told
    (ss_one (s_ret (d_tup (a_cons d_str (a_cons (d_m0 m_told hr (by omega) (d_fldK K rfl (dv 0) (by rfl))) (a_cons (d_fldK K rfl (dv 0) (by rfl)) (a_cons (d_fldK K rfl (dv 0) (by rfl)) a_nil)))))))) ?_
  rintro ds Q ⟨p, rfl, hc, hd, q⟩
  have c := hA.cl _ (Pt.cls_in A p)
  have no := hA.nof _ (Pt.cls_in A p)
  obtain ⟨a, s, f, rfl⟩ := is_held hA hc
  simp only [Pt.depth] at hd
  exact (vMeth_of m_fld noM_told (vFld_of rfl c (no _ (by decide)) (by kernel_rfl) rfl) (by omega) (vFld_of rfl c (no _ (by decide)) (by kernel_rfl) (vFld_of rfl c (no _ (by decide)) (by kernel_rfl) ⟨(show 4 ≤ sizeLine by decide), q⟩)))
structure DTold (K : PySem.W.Frag) (A : Adr) : Prop where
  given : Dm K A.given "told" "Given.told" s_Given_told ["self"]
  named : Dm K A.named "told" "Named.told" s_Named_told ["self"]
  turned : Dm K A.turned "told" "Turned.told" s_Turned_told ["self"]
  pair : Dm K A.pair "told" "Pair.told" s_Pair_told ["self"]
  choice : Dm K A.choice "told" "Choice.told" s_Choice_told ["self"]
  before : Dm K A.before "told" "Before.told" s_Before_told ["self"]
  led : Dm K A.led "told" "Led.told" s_Led_told ["self"]
  whn : Dm K A.whn "told" "When.told" s_When_told ["self"]
  held : Dm K A.held "told" "Held.told" s_Held_told ["self"]
theorem Pt.depth_pos (p : Pt) : 0 < p.depth := by cases p <;> simp only [Pt.depth] <;> omega
theorem Dm.never {C : Addr} {m qual : Str} {st : Stmt} {ps : List Str} {sd : SpD} (d : Dm K C m qual st ps) (ms : MonoS sd) (h : ∀ ds Q, ¬ sd ds Q) : Mcal P w K mg base j C m sd [] := by
  obtain ⟨f, fd, F, M, c, b⟩ := d.ex
  exact ⟨⟨f, fd, ps, [], [], c, M, ⟨fun vs H Q E ⟨ds, _, q⟩ => (h _ _ q).elim, fun A outer s H args us vs Q E _ _ _ _ ⟨ds, _, q⟩ => (h _ _ q).elim⟩, b, .nil, fun _ => .nil⟩, ms⟩
theorem zero_P {g : Pt → D} {C : Addr} (ds : List D) (Q : D → Prop) : ¬ sdP A 0 g C ds Q := fun ⟨p, _, _, h, _⟩ => absurd p.depth_pos (by omega)
theorem told_all (hA : AOk K A) (d : DTold K A) : ∀ n, MP P w K mg base A n "told" n Pt.told
  | 0 => fun C ⟨p, e⟩ => by
    subst e
    cases p
    · exact Dm.never d.given m_P zero_P
    · exact Dm.never d.named m_P zero_P
    · exact Dm.never d.turned m_P zero_P
    · exact Dm.never d.pair m_P zero_P
    · exact Dm.never d.choice m_P zero_P
    · exact Dm.never d.before m_P zero_P
    · exact Dm.never d.led m_P zero_P
    · exact Dm.never d.whn m_P zero_P
    · exact Dm.never d.held m_P zero_P
  | n + 1 => fun C ⟨p, e⟩ => by
    have ih := told_all hA d n
    subst e
    cases p
    · exact told_given hA d.given
    · exact told_named hA d.named
    · exact told_turned hA d.turned ih
    · exact told_pair hA d.pair ih
    · exact told_choice hA d.choice ih
    · exact told_before hA d.before ih
    · exact told_led hA d.led ih
    · exact told_whn hA d.whn ih
    · exact told_held hA d.held ih
end
end K03

set_option maxHeartbeats 4000000
namespace K03
open PySem PySem.Spec PyProof.Rows L2 DC
mutual
def Pt.size : Pt → Nat
  | .given _ => 1 | .named _ => 1 | .turned p => p.size + 1 | .pair _ a b => a.size + b.size + 1 | .choice t a b => t.size + a.size + b.size + 1
  | .before p _ => p.size + 1 | .led h r => h.size + r.size + 1 | .whn p _ => p.size + 1 | .held p _ _ => p.size + 1
end
theorem Pt.size_inner (p : Pt) : (p.size : Int) = 1 + (p.inner.map fun q => (q.size : Int)).sum := by
  cases p <;> simp only [Pt.size, Pt.inner, List.map_cons, List.map_nil, List.sum_cons, List.sum_nil] <;> omega
theorem Pt.depth_inner (p : Pt) : (p.depth : Int) = 1 + maxI 0 (p.inner.map fun q => (q.depth : Int)) := by
  cases p <;> simp only [Pt.depth, Pt.inner, List.map_cons, List.map_nil, maxI, List.foldl_cons, List.foldl_nil] <;> omega
theorem Pt.in_depth {p q : Pt} (h : q ∈ p.inner) {n : Nat} (hd : p.depth ≤ n + 1) : q.depth ≤ n := by
  cases p <;> simp only [Pt.inner, Pt.depth, List.mem_cons, List.not_mem_nil, or_false] at h hd
  case turned => subst h; omega
  case pair => rcases h with rfl | rfl <;> omega
  case choice => rcases h with rfl | rfl | rfl <;> omega
  case before => subst h; omega
  case led => rcases h with rfl | rfl <;> omega
  case whn => subst h; omega
  case held => subst h; omega
theorem Pt.inner_len (p : Pt) : p.inner.length ≤ 3 := by cases p <;> simp [Pt.inner]
def gInner (A : Adr) (p : Pt) : D := .tup (p.inner.map (Pt.d A))
theorem noM_size : noM "size" := by unfold noM; decide +kernel
theorem noM_depth : noM "depth" := by unfold noM; decide +kernel
theorem m_var {i : Nat} : MonoE (vVar i) := fun δ P P' f ⟨d, hd, k⟩ => ⟨d, hd, f d k⟩
theorem inner_at {A : Adr} {g : Pt → D} {ps : List Pt} {i : Nat} {d : D} {o : Option D} (h1 : (ps.map (Pt.d A))[i]? = some d) (h2 : (ps.map fun q => some (g q))[i]? = some o) : ∃ q ∈ ps, q.d A = d ∧ some (g q) = o := by
  rw [List.getElem?_map] at h1 h2
  cases e : ps[i]? with
  | none => rw [e] at h1; cases h1
  | some q =>
    rw [e] at h1 h2
    exact ⟨q, List.mem_of_getElem? e, by simpa using h1, by simpa using h2⟩
theorem filterMap_some {α β : Type} (f : α → β) : ∀ l : List α, l.filterMap (id ∘ fun q => some (f q)) = l.map f
  | [] => rfl
  | a :: l => by rw [List.map_cons, ← filterMap_some f l]; rfl
section
seal wpAny
variable {P : Program} {w : World} {K : PySem.W.Frag} {mg : Str → Option Value} {base : Heap} {A : Adr} {n j : Nat}
theorem size_of (d : ∀ C, isP A C → Dm K C "size" "Part.size" s_Part_size ["self"]) (n_sum : mg "sum" = none) (m_inner : MP P w K mg base A j "inner" (n + 1) (gInner A)) (m_size : MP P w K mg base A j "size" n fun p => .int p.size) : MP P w K mg base A (j + 1) "size" (n + 1) fun p => .int p.size := by
  intro C hC
  refine (d C hC).cal sc_Part_size m_P l_P (fun f cdv A outer s H E hr => have hu := hr.units; have hh := hr.hd; have sc := sc_Part_size
    (ss_one (s_ret (d_add d_int (d_sum hh (by rfl) n_sum (a_cons (d_lc (x := "part") (caps := []) (cn := []) (cl := []) (comp0 (by rfl) (by rfl) (by decide +kernel) (by decide +kernel) (by decide +kernel)) rfl (i_any (d_m0 m_inner hr (by omega) (dv 0))) (fun C fp s₂ H₂ => pg_name (i := 0) (show (["part"] : List Str).Nodup by decide +kernel) rfl (Or.inl rfl) (.inr rfl)) (fun C fp s₂ H₂ => ts_nil) (fun C fp s₂ H₂ => (d_m0 m_size hr (by omega) (dv 0)))) a_nil)))))) ?_
  rintro ds Q ⟨p, rfl, hc, hd, q⟩
  refine vMeth_of m_var noM_inner ⟨_, rfl, rfl⟩ hd ?_
  refine ⟨p.inner.map (Pt.d A), rfl, p.inner.map fun q => some (.int q.size), by simp, fun i d o hd' ho => ?_, ?_, ?_⟩
  · obtain ⟨r, hr, e1, e2⟩ := inner_at hd' ho
    subst e1 e2
    exact ⟨rfl, fun _ => vMeth_of m_var noM_size ⟨_, rfl, rfl⟩ (p.in_depth hr hd) rfl⟩
  · rw [List.length_map]; exact Nat.lt_of_le_of_lt p.inner_len (by decide)
  · refine ⟨p.inner.map fun q => (q.size : Int), ?_, ?_⟩
    · rw [List.filterMap_map, List.map_map]
      congr 2
      exact filterMap_some _ _
    · have q' : Q (.int (p.size : Int)) := q
      rw [Pt.size_inner] at q'
      exact q'
theorem depth_of (d : ∀ C, isP A C → Dm K C "depth" "Part.depth" s_Part_depth ["self"]) (n_max : mg "max" = none) (m_inner : MP P w K mg base A j "inner" (n + 1) (gInner A)) (m_depth : MP P w K mg base A j "depth" n fun p => .int p.depth) : MP P w K mg base A (j + 1) "depth" (n + 1) fun p => .int p.depth := by
  intro C hC
  refine (d C hC).cal sc_Part_depth m_P l_P (fun f cdv A outer s H E hr => have hu := hr.units; have hh := hr.hd; have sc := sc_Part_depth
    (ss_one (s_ret (d_add d_int (d_maxD hh (by rfl) n_max (d_lc (x := "part") (caps := []) (cn := []) (cl := []) (comp0 (by rfl) (by rfl) (by decide +kernel) (by decide +kernel) (by decide +kernel)) rfl (i_any (d_m0 m_inner hr (by omega) (dv 0))) (fun C fp s₂ H₂ => pg_name (i := 0) (show (["part"] : List Str).Nodup by decide +kernel) rfl (Or.inl rfl) (.inr rfl)) (fun C fp s₂ H₂ => ts_nil) (fun C fp s₂ H₂ => (d_m0 m_depth hr (by omega) (dv 0)))) d_int))))) ?_
  rintro ds Q ⟨p, rfl, hc, hd, q⟩
  refine vMeth_of m_var noM_inner ⟨_, rfl, rfl⟩ hd ?_
  refine ⟨p.inner.map (Pt.d A), rfl, p.inner.map fun q => some (.int q.depth), by simp, fun i d o hd' ho => ?_, ?_, ?_⟩
  · obtain ⟨r, hr, e1, e2⟩ := inner_at hd' ho
    subst e1 e2
    exact ⟨rfl, fun _ => vMeth_of m_var noM_depth ⟨_, rfl, rfl⟩ (p.in_depth hr hd) rfl⟩
  · rw [List.length_map]; exact Nat.lt_of_le_of_lt p.inner_len (by decide)
  · refine ⟨p.inner.map fun q => (q.depth : Int), 0, ?_, rfl, ?_⟩
    · rw [List.filterMap_map, List.map_map]
      congr 1
      exact filterMap_some _ _
    · have q' : Q (.int (p.depth : Int)) := q
      rw [Pt.depth_inner] at q'
      exact q'
end
end K03

set_option maxHeartbeats 4000000
namespace K03
open PySem PySem.Spec PyProof.Rows L2 DC
section
seal wpAny
variable {P : Program} {w : World} {K : PySem.W.Frag} {mg : Str → Option Value} {base : Heap} {A : Adr} {n j : Nat}
structure DInner (K : PySem.W.Frag) (A : Adr) : Prop where
  given : Dm K A.given "inner" "Part.inner" s_Part_inner ["self"]
  named : Dm K A.named "inner" "Part.inner" s_Part_inner ["self"]
  turned : Dm K A.turned "inner" "Turned.inner" s_Turned_inner ["self"]
  pair : Dm K A.pair "inner" "Pair.inner" s_Pair_inner ["self"]
  choice : Dm K A.choice "inner" "Choice.inner" s_Choice_inner ["self"]
  before : Dm K A.before "inner" "Before.inner" s_Before_inner ["self"]
  led : Dm K A.led "inner" "Led.inner" s_Led_inner ["self"]
  whn : Dm K A.whn "inner" "When.inner" s_When_inner ["self"]
  held : Dm K A.held "inner" "Held.inner" s_Held_inner ["self"]
theorem inner_given (hA : AOk K A) (d : Dm K A.given "inner" "Part.inner" s_Part_inner ["self"]) : Mcal P w K mg base (j + 1) A.given "inner" (sdP A n (gInner A) A.given) [] := by
  refine d.cal sc_Part_inner m_P l_P (fun f cdv A outer s H E hr => have hu := hr.units; have hh := hr.hd; have sc := sc_Part_inner
    (ss_one (s_ret (d_tup a_nil)))) ?_
  rintro ds Q ⟨p, rfl, hc, hd, q⟩
  have c := hA.cl _ (Pt.cls_in A p)
  have no := hA.nof _ (Pt.cls_in A p)
  obtain ⟨v, rfl⟩ := is_given hA hc
  exact ⟨(show 0 ≤ sizeLine by decide), q⟩
theorem inner_named (hA : AOk K A) (d : Dm K A.named "inner" "Part.inner" s_Part_inner ["self"]) : Mcal P w K mg base (j + 1) A.named "inner" (sdP A n (gInner A) A.named) [] := by
  refine d.cal sc_Part_inner m_P l_P (fun f cdv A outer s H E hr => have hu := hr.units; have hh := hr.hd; have sc := sc_Part_inner
    (ss_one (s_ret (d_tup a_nil)))) ?_
  rintro ds Q ⟨p, rfl, hc, hd, q⟩
  have c := hA.cl _ (Pt.cls_in A p)
  have no := hA.nof _ (Pt.cls_in A p)
  obtain ⟨s, rfl⟩ := is_named hA hc
  exact ⟨(show 0 ≤ sizeLine by decide), q⟩
theorem inner_turned (hA : AOk K A) (d : Dm K A.turned "inner" "Turned.inner" s_Turned_inner ["self"]) : Mcal P w K mg base (j + 1) A.turned "inner" (sdP A n (gInner A) A.turned) [] := by
  refine d.cal sc_Turned_inner m_P l_P (fun f cdv A outer s H E hr => have hu := hr.units; have hh := hr.hd; have sc := sc_Turned_inner
    (ss_one (s_ret (d_tup (a_cons (d_fldK K rfl (dv 0) (by rfl)) a_nil))))) ?_
  rintro ds Q ⟨p, rfl, hc, hd, q⟩
  have c := hA.cl _ (Pt.cls_in A p)
  have no := hA.nof _ (Pt.cls_in A p)
  obtain ⟨x, rfl⟩ := is_turned hA hc
  exact (vFld_of rfl c (no _ (by decide)) (by kernel_rfl) ⟨(show 1 ≤ sizeLine by decide), q⟩)
theorem inner_pair (hA : AOk K A) (d : Dm K A.pair "inner" "Pair.inner" s_Pair_inner ["self"]) : Mcal P w K mg base (j + 1) A.pair "inner" (sdP A n (gInner A) A.pair) [] := by
  refine d.cal sc_Pair_inner m_P l_P (fun f cdv A outer s H E hr => have hu := hr.units; have hh := hr.hd; have sc := sc_Pair_inner
    (ss_one (s_ret (d_tup (a_cons (d_fldK K rfl (dv 0) (by rfl)) (a_cons (d_fldK K rfl (dv 0) (by rfl)) a_nil)))))) ?_
  rintro ds Q ⟨p, rfl, hc, hd, q⟩
  have c := hA.cl _ (Pt.cls_in A p)
  have no := hA.nof _ (Pt.cls_in A p)
  obtain ⟨g, x, y, rfl⟩ := is_pair hA hc
  exact (vFld_of rfl c (no _ (by decide)) (by kernel_rfl) (vFld_of rfl c (no _ (by decide)) (by kernel_rfl) ⟨(show 2 ≤ sizeLine by decide), q⟩))
theorem inner_choice (hA : AOk K A) (d : Dm K A.choice "inner" "Choice.inner" s_Choice_inner ["self"]) : Mcal P w K mg base (j + 1) A.choice "inner" (sdP A n (gInner A) A.choice) [] := by
  refine d.cal sc_Choice_inner m_P l_P (fun f cdv A outer s H E hr => have hu := hr.units; have hh := hr.hd; have sc := sc_Choice_inner
    (ss_one (s_ret (d_tup (a_cons (d_fldK K rfl (dv 0) (by rfl)) (a_cons (d_fldK K rfl (dv 0) (by rfl)) (a_cons (d_fldK K rfl (dv 0) (by rfl)) a_nil))))))) ?_
  rintro ds Q ⟨p, rfl, hc, hd, q⟩
  have c := hA.cl _ (Pt.cls_in A p)
  have no := hA.nof _ (Pt.cls_in A p)
  obtain ⟨x, y, z, rfl⟩ := is_choice hA hc
  exact (vFld_of rfl c (no _ (by decide)) (by kernel_rfl) (vFld_of rfl c (no _ (by decide)) (by kernel_rfl) (vFld_of rfl c (no _ (by decide)) (by kernel_rfl) ⟨(show 3 ≤ sizeLine by decide), q⟩)))
theorem inner_before (hA : AOk K A) (d : Dm K A.before "inner" "Before.inner" s_Before_inner ["self"]) : Mcal P w K mg base (j + 1) A.before "inner" (sdP A n (gInner A) A.before) [] := by
  refine d.cal sc_Before_inner m_P l_P (fun f cdv A outer s H E hr => have hu := hr.units; have hh := hr.hd; have sc := sc_Before_inner
    (ss_one (s_ret (d_tup (a_cons (d_fldK K rfl (dv 0) (by rfl)) a_nil))))) ?_
  rintro ds Q ⟨p, rfl, hc, hd, q⟩
  have c := hA.cl _ (Pt.cls_in A p)
  have no := hA.nof _ (Pt.cls_in A p)
  obtain ⟨x, f, rfl⟩ := is_before hA hc
  exact (vFld_of rfl c (no _ (by decide)) (by kernel_rfl) ⟨(show 1 ≤ sizeLine by decide), q⟩)
theorem inner_led (hA : AOk K A) (d : Dm K A.led "inner" "Led.inner" s_Led_inner ["self"]) : Mcal P w K mg base (j + 1) A.led "inner" (sdP A n (gInner A) A.led) [] := by
  refine d.cal sc_Led_inner m_P l_P (fun f cdv A outer s H E hr => have hu := hr.units; have hh := hr.hd; have sc := sc_Led_inner
    (ss_one (s_ret (d_tup (a_cons (d_fldK K rfl (dv 0) (by rfl)) (a_cons (d_fldK K rfl (dv 0) (by rfl)) a_nil)))))) ?_
  rintro ds Q ⟨p, rfl, hc, hd, q⟩
  have c := hA.cl _ (Pt.cls_in A p)
  have no := hA.nof _ (Pt.cls_in A p)
  obtain ⟨x, y, rfl⟩ := is_led hA hc
  exact (vFld_of rfl c (no _ (by decide)) (by kernel_rfl) (vFld_of rfl c (no _ (by decide)) (by kernel_rfl) ⟨(show 2 ≤ sizeLine by decide), q⟩))
theorem inner_whn (hA : AOk K A) (d : Dm K A.whn "inner" "When.inner" s_When_inner ["self"]) : Mcal P w K mg base (j + 1) A.whn "inner" (sdP A n (gInner A) A.whn) [] := by
  refine d.cal sc_When_inner m_P l_P (fun f cdv A outer s H E hr => have hu := hr.units; have hh := hr.hd; have sc := sc_When_inner
    (ss_one (s_ret (d_tup (a_cons (d_fldK K rfl (dv 0) (by rfl)) a_nil))))) ?_
  rintro ds Q ⟨p, rfl, hc, hd, q⟩
  have c := hA.cl _ (Pt.cls_in A p)
  have no := hA.nof _ (Pt.cls_in A p)
  obtain ⟨x, s, rfl⟩ := is_whn hA hc
  exact (vFld_of rfl c (no _ (by decide)) (by kernel_rfl) ⟨(show 1 ≤ sizeLine by decide), q⟩)
theorem inner_held (hA : AOk K A) (d : Dm K A.held "inner" "Held.inner" s_Held_inner ["self"]) : Mcal P w K mg base (j + 1) A.held "inner" (sdP A n (gInner A) A.held) [] := by
  refine d.cal sc_Held_inner m_P l_P (fun f cdv A outer s H E hr => have hu := hr.units; have hh := hr.hd; have sc := sc_Held_inner
    (ss_one (s_ret (d_tup (a_cons (d_fldK K rfl (dv 0) (by rfl)) a_nil))))) ?_
  rintro ds Q ⟨p, rfl, hc, hd, q⟩
  have c := hA.cl _ (Pt.cls_in A p)
  have no := hA.nof _ (Pt.cls_in A p)
  obtain ⟨x, s, f, rfl⟩ := is_held hA hc
  exact (vFld_of rfl c (no _ (by decide)) (by kernel_rfl) ⟨(show 1 ≤ sizeLine by decide), q⟩)
theorem inner_all (hA : AOk K A) (d : DInner K A) (n : Nat) : MP P w K mg base A (j + 1) "inner" n (gInner A) := fun C ⟨p, e⟩ => by
  subst e
  cases p
  · exact inner_given hA d.given
  · exact inner_named hA d.named
  · exact inner_turned hA d.turned
  · exact inner_pair hA d.pair
  · exact inner_choice hA d.choice
  · exact inner_before hA d.before
  · exact inner_led hA d.led
  · exact inner_whn hA d.whn
  · exact inner_held hA d.held
theorem by_depth {m qual : Str} {st : Stmt} {ps : List Str} {g : Pt → D} (d : ∀ C, isP A C → Dm K C m qual st ps) (h : ∀ n j, MP P w K mg base A (j + 1) m n g → MP P w K mg base A (j + 2) m (n + 1) g) : ∀ n, MP P w K mg base A (n + 1) m n g
  | 0 => fun C hC => (Dm.never (j := 1) (d C hC) m_P zero_P)
  | n + 1 => h n n (by_depth d h n)
theorem size_all (hA : AOk K A) (dI : DInner K A) (d : ∀ C, isP A C → Dm K C "size" "Part.size" s_Part_size ["self"]) (n_sum : mg "sum" = none) (n : Nat) : MP P w K mg base A (n + 1) "size" n fun p => .int p.size :=
  by_depth d (fun n j h => size_of d n_sum (inner_all (j := j) hA dI _) h) n
theorem depth_all (hA : AOk K A) (dI : DInner K A) (d : ∀ C, isP A C → Dm K C "depth" "Part.depth" s_Part_depth ["self"]) (n_max : mg "max" = none) (n : Nat) : MP P w K mg base A (n + 1) "depth" n fun p => .int p.depth :=
  by_depth d (fun n j h => depth_of d n_max (inner_all (j := j) hA dI _) h) n
end
end K03

set_option maxHeartbeats 4000000
namespace K03
open PySem PySem.Spec PyProof.Rows L2 DC
def valText : D → Str
  | .bl true => "yes"
  | .bl false => "no"
  | .int i => toString i
  | _ => ""
def isVal (d : D) : Prop := (∃ b, d = .bl b) ∨ ∃ i : Int, d = .int i ∧ -128 ≤ i ∧ i ≤ 127
def firstText : D → Str
  | .non => ""
  | d => (" " : Str) ++ valText d
def isFirst (d : D) : Prop := d = .non ∨ isVal d
theorem small_int {i : Int} (h1 : -128 ≤ i) (h2 : i ≤ 127) : i.natAbs.log2 < 1920 := Nat.lt_of_le_of_lt (Nat.log2_le_self _) (by omega)
def sdVT : SpD := fun ds Q => ∃ d, ds = [d] ∧ isVal d ∧ Q (.str (valText d))
def sdFT : SpD := fun ds Q => ∃ d, ds = [d] ∧ isFirst d ∧ (valText d).length ≤ 100 ∧ Q (.str (firstText d))
section
seal wpAny
variable {P : Program} {w : World} {K : PySem.W.Frag} {mg : Str → Option Value} {base : Heap} {A : Adr} {n j : Nat}
theorem c_value_text (d : Df K mg "value_text" s_value_text ["value"]) (n_isinstance : mg "isinstance" = none) (n_bool : mg "bool" = none) (n_str : mg "str" = none) : Cal P w K mg base (j + 1) "value_text" ["value"] sdVT := by
  refine d.cal sc_value_text (fun ds P P' g ⟨d, e, h, q⟩ => ⟨d, e, h, g _ q⟩) (fun ds Q ⟨d, e, _⟩ => by rw [e]; rfl) (fun f cdv A outer s H E hr => have hu := hr.units; have hh := hr.hd; have sc := sc_value_text
    (ss_cons (s_if (t_tru (isi_bool (by rfl) n_isinstance (by rfl) n_bool (dv 0))) (ss_one (s_ret (d_if (t_tru (dv 0)) d_str d_str))) ss_nil)
  (ss_one (s_ret (d_str_of (by rfl) n_str (a_cons (dv 0) a_nil)))))) ?_
  rintro ds Q ⟨d, rfl, hv, q⟩
  rcases hv with ⟨b, rfl⟩ | ⟨i, rfl, h1, h2⟩
  · refine ⟨_, rfl, true, rfl, _, rfl, iteT ⟨_, rfl, b, rfl, ?_⟩⟩
    cases b
    · exact iteF q
    · exact iteT q
  · exact ⟨_, rfl, false, rfl, _, rfl, iteF ⟨_, rfl, i, rfl, small_int h1 h2, q⟩⟩
theorem c_first_text (d : Df K mg "first_text" s_first_text ["first"]) (c_value_text : Cal P w K mg base j "value_text" ["value"] sdVT) : Cal P w K mg base (j + 1) "first_text" ["first"] sdFT := by
  refine d.cal sc_first_text (fun ds P P' g ⟨d, e, h, z, q⟩ => ⟨d, e, h, z, g _ q⟩) (fun ds Q ⟨d, e, _⟩ => by rw [e]; rfl) (fun f cdv A outer s H E hr => have hu := hr.units; have hh := hr.hd; have sc := sc_first_text
    (ss_one (s_ret (d_if (t_is (dv 0) d_non) d_str (d_add d_str (d_cal c_value_text hr (by omega) (by rfl) (a_cons (dv 0) a_nil))))))) ?_
  rintro ds Q ⟨d, rfl, hv, hz, q⟩
  rcases hv with rfl | hv
  · exact ⟨_, rfl, true, rfl, iteT q⟩
  · have hb : (" " : Str).length + (valText d).length ≤ sizeLine := Nat.le_trans (Nat.add_le_add_left hz _) (by decide)
    rcases hv with ⟨b, rfl⟩ | ⟨i, rfl, h1, h2⟩
    · exact ⟨_, rfl, false, rfl, iteF ⟨_, rfl, _, rfl, .inl ⟨b, rfl⟩, hb, q⟩⟩
    · exact ⟨_, rfl, false, rfl, iteF ⟨_, rfl, _, rfl, .inr ⟨i, rfl, h1, h2⟩, hb, q⟩⟩
def Pt.text : Pt → Str
  | .given v => valText v
  | .named n => n
  | .turned p => Str.empty ++ "(not " ++ p.text ++ ")"
  | .pair g a b => Str.empty ++ "(" ++ a.text ++ " " ++ g ++ " " ++ b.text ++ ")"
  | .choice t a b => Str.empty ++ "(if " ++ t.text ++ " " ++ a.text ++ " " ++ b.text ++ ")"
  | .before p f => Str.empty ++ "(before " ++ p.text ++ firstText f ++ ")"
  | .led h r => Str.empty ++ "(" ++ h.text ++ " then " ++ r.text ++ ")"
  | .whn p n => Str.empty ++ "(" ++ p.text ++ " when " ++ n ++ ")"
  | .held p n f => Str.empty ++ "(" ++ p.text ++ " held " ++ n ++ firstText f ++ ")"
def Pt.fine : Pt → Prop
  | .given v => isVal v
  | .named _ => True
  | .turned p => p.fine
  | .pair _ a b => a.fine ∧ b.fine
  | .choice t a b => t.fine ∧ a.fine ∧ b.fine
  | .before p f => p.fine ∧ isFirst f ∧ (valText f).length ≤ 100
  | .led h r => h.fine ∧ r.fine
  | .whn p _ => p.fine
  | .held p _ f => p.fine ∧ isFirst f ∧ (valText f).length ≤ 100
def okT (p : Pt) : Prop := p.fine ∧ p.text.length ≤ 100000
def sdQ (A : Adr) (n : Nat) (ok : Pt → Prop) (g : Pt → D) (C : Addr) : SpD := fun ds Q => ∃ p : Pt, ds = [p.d A] ∧ p.cls A = C ∧ p.depth ≤ n ∧ ok p ∧ Q (g p)
theorem m_Q {A : Adr} {n : Nat} {ok : Pt → Prop} {g : Pt → D} {C : Addr} : MonoS (sdQ A n ok g C) := fun ds P P' f ⟨p, e, c, h, o, q⟩ => ⟨p, e, c, h, o, f _ q⟩
theorem l_Q {A : Adr} {n : Nat} {ok : Pt → Prop} {g : Pt → D} {C : Addr} (ds : List D) (Q : D → Prop) (h : sdQ A n ok g C ds Q) : ds.length = 1 := by obtain ⟨p, e, _⟩ := h; rw [e]; rfl
theorem vMethQ_of {A : Adr} {n : Nat} {ok : Pt → Prop} {g : Pt → D} {m : Str} {ta : ED} {δ : SD} {p : Pt} {Q : D → Prop} (mt : MonoE ta) (hm : noM m) (h : ta δ fun d => d = p.d A) (hd : p.depth ≤ n) (ho : ok p) (q : Q (g p)) :
    vMeth (isP A) m (sdQ A n ok g) [] ta aNil δ Q := mt _ _ _ (fun d e => by
  obtain ⟨gs, e1, e2⟩ := no_meth A hm p
  exact ⟨p.cls A, gs, e.trans e1, e2, ⟨p, rfl⟩, p, by rw [List.append_nil, e], rfl, hd, ho, q⟩) h
abbrev MQ (P : Program) (w : World) (K : PySem.W.Frag) (mg : Str → Option Value) (base : Heap) (A : Adr) (j : Nat) (m : Str) (n : Nat) (ok : Pt → Prop) (g : Pt → D) : Prop := ∀ C, isP A C → Mcal P w K mg base j C m (sdQ A n ok g C) []
abbrev gText (p : Pt) : D := .str p.text
theorem kc {te : ED} {t : JD} {δ : SD} {out y : Str} {Q : Str → Prop} (m : MonoE te) (h : te δ fun d => d = .str y) (hz : (out ++ y).length ≤ sizeLine) (q : t δ (out ++ y) Q) : kCons te t δ out Q := m _ _ _ (fun d e => ⟨y, e, hz, q⟩) h
theorem m_vC {d : D} : MonoE (vC d) := fun δ P P' f k => f d k
theorem m_fv {i : Nat} : MonoE (vFv (vVar i)) := fun δ P P' f h => m_var _ _ _ (fun d k => k.elim (fun ⟨y, e, z, q⟩ => .inl ⟨y, e, z, f _ q⟩) fun ⟨y, e, z, q⟩ => .inr ⟨y, e, z, f _ q⟩) h
theorem fv_of {δ : SD} {i : Nat} {y : Str} (h : δ[i]? = some (some (.str y))) (hz : y.length ≤ sizeLine) : vFv (vVar i) δ fun d => d = .str y := ⟨_, h, .inl ⟨y, rfl, hz, rfl⟩⟩
theorem line_ge : 200000 ≤ sizeLine := by decide
theorem text_turned (hA : AOk K A) (d : Dm K A.turned "text" "Turned.text" s_Turned_text ["self"]) (m_text : MQ P w K mg base A j "text" n okT gText) : Mcal P w K mg base (j + 1) A.turned "text" (sdQ A (n + 1) okT gText A.turned) [] := by
  refine d.cal sc_Turned_text m_Q l_Q (fun f cdv A outer s H E hr => have hu := hr.units; have hh := hr.hd; have sc := sc_Turned_text
    (ss_cons (s_set (i := 1) sc.nd rfl (Or.inl rfl) (d_m0 m_text hr (by omega) (d_fldK K rfl (dv 0) (by rfl))))
  (ss_one (s_ret (d_joined (j_cons d_str (j_cons (d_fv (dv 1)) (j_cons d_str j_nil)))))))) ?_
  rintro ds Q ⟨p, rfl, hc, hd, ho, q⟩
  have c := hA.cl _ (Pt.cls_in A p)
  have no := hA.nof _ (Pt.cls_in A p)
  obtain ⟨a, rfl⟩ := is_turned hA hc
  obtain ⟨hf, hl⟩ := ho
  have hl' := hl
  simp only [Pt.text, strLen_append] at hl'
  simp only [Pt.depth] at hd
  have hs := line_ge
  refine vMethQ_of (p := a) m_fld noM_text (vFld_of rfl c (no _ (by decide)) (by kernel_rfl) rfl) (by omega) ⟨hf, by omega⟩ ?_
  refine kc m_vC rfl (by simp only [strLen_append]; omega) (kc m_fv (fv_of rfl (by omega)) (by simp only [strLen_append]; omega) (kc m_vC rfl (by simp only [strLen_append]; omega) ⟨by simp only [strLen_append]; omega, q⟩))
theorem text_pair (hA : AOk K A) (d : Dm K A.pair "text" "Pair.text" s_Pair_text ["self"]) (m_text : MQ P w K mg base A j "text" n okT gText) : Mcal P w K mg base (j + 1) A.pair "text" (sdQ A (n + 1) okT gText A.pair) [] := by
  refine d.cal sc_Pair_text m_Q l_Q (fun f cdv A outer s H E hr => have hu := hr.units; have hh := hr.hd; have sc := sc_Pair_text
    (ss_cons (s_set (i := 1) sc.nd rfl (Or.inl rfl) (d_m0 m_text hr (by omega) (d_fldK K rfl (dv 0) (by rfl))))
  (ss_cons (s_set (i := 2) sc.nd rfl (Or.inl rfl) (d_fldK K rfl (dv 0) (by rfl)))
  (ss_cons (s_set (i := 3) sc.nd rfl (Or.inl rfl) (d_m0 m_text hr (by omega) (d_fldK K rfl (dv 0) (by rfl))))
  (ss_one (s_ret (d_joined (j_cons d_str (j_cons (d_fv (dv 1)) (j_cons d_str (j_cons (d_fv (dv 2)) (j_cons d_str (j_cons (d_fv (dv 3)) (j_cons d_str j_nil)))))))))))))) ?_
  rintro ds Q ⟨p, rfl, hc, hd, ho, q⟩
  have c := hA.cl _ (Pt.cls_in A p)
  have no := hA.nof _ (Pt.cls_in A p)
  obtain ⟨g, a, b, rfl⟩ := is_pair hA hc
  obtain ⟨⟨ha, hb⟩, hl⟩ := ho
  have hl' := hl
  simp only [Pt.text, strLen_append] at hl'
  simp only [Pt.depth] at hd
  have hs := line_ge
  exact (vMethQ_of (p := a) m_fld noM_text (vFld_of rfl c (no _ (by decide)) (by kernel_rfl) rfl) (by omega) ⟨ha, by omega⟩ (vFld_of rfl c (no _ (by decide)) (by kernel_rfl) (vMethQ_of (p := b) m_fld noM_text (vFld_of rfl c (no _ (by decide)) (by kernel_rfl) rfl) (by omega) ⟨hb, by omega⟩ (kc m_vC rfl (by simp only [strLen_append]; omega) (kc m_fv (fv_of rfl (by omega)) (by simp only [strLen_append]; omega) (kc m_vC rfl (by simp only [strLen_append]; omega) (kc m_fv (fv_of rfl (by omega)) (by simp only [strLen_append]; omega) (kc m_vC rfl (by simp only [strLen_append]; omega) (kc m_fv (fv_of rfl (by omega)) (by simp only [strLen_append]; omega) (kc m_vC rfl (by simp only [strLen_append]; omega) ⟨by simp only [strLen_append]; omega, q⟩))))))))))
theorem text_choice (hA : AOk K A) (d : Dm K A.choice "text" "Choice.text" s_Choice_text ["self"]) (m_text : MQ P w K mg base A j "text" n okT gText) : Mcal P w K mg base (j + 1) A.choice "text" (sdQ A (n + 1) okT gText A.choice) [] := by
  refine d.cal sc_Choice_text m_Q l_Q (fun f cdv A outer s H E hr => have hu := hr.units; have hh := hr.hd; have sc := sc_Choice_text
    (ss_cons (s_set (i := 1) sc.nd rfl (Or.inl rfl) (d_m0 m_text hr (by omega) (d_fldK K rfl (dv 0) (by rfl))))
  (ss_cons (s_set (i := 2) sc.nd rfl (Or.inl rfl) (d_m0 m_text hr (by omega) (d_fldK K rfl (dv 0) (by rfl))))
  (ss_cons (s_set (i := 3) sc.nd rfl (Or.inl rfl) (d_m0 m_text hr (by omega) (d_fldK K rfl (dv 0) (by rfl))))
  (ss_one (s_ret (d_joined (j_cons d_str (j_cons (d_fv (dv 1)) (j_cons d_str (j_cons (d_fv (dv 2)) (j_cons d_str (j_cons (d_fv (dv 3)) (j_cons d_str j_nil)))))))))))))) ?_
  rintro ds Q ⟨p, rfl, hc, hd, ho, q⟩
  have c := hA.cl _ (Pt.cls_in A p)
  have no := hA.nof _ (Pt.cls_in A p)
  obtain ⟨t, a, b, rfl⟩ := is_choice hA hc
  obtain ⟨⟨ht, ha, hb⟩, hl⟩ := ho
  have hl' := hl
  simp only [Pt.text, strLen_append] at hl'
  simp only [Pt.depth] at hd
  have hs := line_ge
  exact (vMethQ_of (p := t) m_fld noM_text (vFld_of rfl c (no _ (by decide)) (by kernel_rfl) rfl) (by omega) ⟨ht, by omega⟩ (vMethQ_of (p := a) m_fld noM_text (vFld_of rfl c (no _ (by decide)) (by kernel_rfl) rfl) (by omega) ⟨ha, by omega⟩ (vMethQ_of (p := b) m_fld noM_text (vFld_of rfl c (no _ (by decide)) (by kernel_rfl) rfl) (by omega) ⟨hb, by omega⟩ (kc m_vC rfl (by simp only [strLen_append]; omega) (kc m_fv (fv_of rfl (by omega)) (by simp only [strLen_append]; omega) (kc m_vC rfl (by simp only [strLen_append]; omega) (kc m_fv (fv_of rfl (by omega)) (by simp only [strLen_append]; omega) (kc m_vC rfl (by simp only [strLen_append]; omega) (kc m_fv (fv_of rfl (by omega)) (by simp only [strLen_append]; omega) (kc m_vC rfl (by simp only [strLen_append]; omega) ⟨by simp only [strLen_append]; omega, q⟩))))))))))
theorem text_before (hA : AOk K A) (d : Dm K A.before "text" "Before.text" s_Before_text ["self"]) (c_first_text : Cal P w K mg base j "first_text" ["first"] sdFT) (m_text : MQ P w K mg base A j "text" n okT gText) : Mcal P w K mg base (j + 1) A.before "text" (sdQ A (n + 1) okT gText A.before) [] := by
  refine d.cal sc_Before_text m_Q l_Q (fun f cdv A outer s H E hr => have hu := hr.units; have hh := hr.hd; have sc := sc_Before_text
    (ss_cons (s_set (i := 1) sc.nd rfl (Or.inl rfl) (d_m0 m_text hr (by omega) (d_fldK K rfl (dv 0) (by rfl))))
  (ss_cons (s_set (i := 2) sc.nd rfl (Or.inl rfl) (d_cal c_first_text hr (by omega) (by rfl) (a_cons (d_fldK K rfl (dv 0) (by rfl)) a_nil)))
  (ss_one (s_ret (d_joined (j_cons d_str (j_cons (d_fv (dv 1)) (j_cons (d_fv (dv 2)) (j_cons d_str j_nil)))))))))) ?_
  rintro ds Q ⟨p, rfl, hc, hd, ho, q⟩
  have c := hA.cl _ (Pt.cls_in A p)
  have no := hA.nof _ (Pt.cls_in A p)
  obtain ⟨a, f, rfl⟩ := is_before hA hc
  obtain ⟨⟨ha, h1, h2⟩, hl⟩ := ho
  have hl' := hl
  simp only [Pt.text, strLen_append] at hl'
  simp only [Pt.depth] at hd
  have hs := line_ge
  exact (vMethQ_of (p := a) m_fld noM_text (vFld_of rfl c (no _ (by decide)) (by kernel_rfl) rfl) (by omega) ⟨ha, by omega⟩ (vFld_of rfl c (no _ (by decide)) (by kernel_rfl) ⟨_, rfl, h1, h2, (kc m_vC rfl (by simp only [strLen_append]; omega) (kc m_fv (fv_of rfl (by omega)) (by simp only [strLen_append]; omega) (kc m_fv (fv_of rfl (by omega)) (by simp only [strLen_append]; omega) (kc m_vC rfl (by simp only [strLen_append]; omega) ⟨by simp only [strLen_append]; omega, q⟩))))⟩))
theorem text_led (hA : AOk K A) (d : Dm K A.led "text" "Led.text" s_Led_text ["self"]) (m_text : MQ P w K mg base A j "text" n okT gText) : Mcal P w K mg base (j + 1) A.led "text" (sdQ A (n + 1) okT gText A.led) [] := by
  refine d.cal sc_Led_text m_Q l_Q (fun f cdv A outer s H E hr => have hu := hr.units; have hh := hr.hd; have sc := sc_Led_text
    (ss_cons (s_set (i := 1) sc.nd rfl (Or.inl rfl) (d_m0 m_text hr (by omega) (d_fldK K rfl (dv 0) (by rfl))))
  (ss_cons (s_set (i := 2) sc.nd rfl (Or.inl rfl) (d_m0 m_text hr (by omega) (d_fldK K rfl (dv 0) (by rfl))))
  (ss_one (s_ret (d_joined (j_cons d_str (j_cons (d_fv (dv 1)) (j_cons d_str (j_cons (d_fv (dv 2)) (j_cons d_str j_nil))))))))))) ?_
  rintro ds Q ⟨p, rfl, hc, hd, ho, q⟩
  have c := hA.cl _ (Pt.cls_in A p)
  have no := hA.nof _ (Pt.cls_in A p)
  obtain ⟨a, b, rfl⟩ := is_led hA hc
  obtain ⟨⟨ha, hb⟩, hl⟩ := ho
  have hl' := hl
  simp only [Pt.text, strLen_append] at hl'
  simp only [Pt.depth] at hd
  have hs := line_ge
  exact (vMethQ_of (p := a) m_fld noM_text (vFld_of rfl c (no _ (by decide)) (by kernel_rfl) rfl) (by omega) ⟨ha, by omega⟩ (vMethQ_of (p := b) m_fld noM_text (vFld_of rfl c (no _ (by decide)) (by kernel_rfl) rfl) (by omega) ⟨hb, by omega⟩ (kc m_vC rfl (by simp only [strLen_append]; omega) (kc m_fv (fv_of rfl (by omega)) (by simp only [strLen_append]; omega) (kc m_vC rfl (by simp only [strLen_append]; omega) (kc m_fv (fv_of rfl (by omega)) (by simp only [strLen_append]; omega) (kc m_vC rfl (by simp only [strLen_append]; omega) ⟨by simp only [strLen_append]; omega, q⟩)))))))
theorem text_whn (hA : AOk K A) (d : Dm K A.whn "text" "When.text" s_When_text ["self"]) (m_text : MQ P w K mg base A j "text" n okT gText) : Mcal P w K mg base (j + 1) A.whn "text" (sdQ A (n + 1) okT gText A.whn) [] := by
  refine d.cal sc_When_text m_Q l_Q (fun f cdv A outer s H E hr => have hu := hr.units; have hh := hr.hd; have sc := sc_When_text
    (ss_cons (s_set (i := 1) sc.nd rfl (Or.inl rfl) (d_m0 m_text hr (by omega) (d_fldK K rfl (dv 0) (by rfl))))
  (ss_cons (s_set (i := 2) sc.nd rfl (Or.inl rfl) (d_fldK K rfl (dv 0) (by rfl)))
  (ss_one (s_ret (d_joined (j_cons d_str (j_cons (d_fv (dv 1)) (j_cons d_str (j_cons (d_fv (dv 2)) (j_cons d_str j_nil))))))))))) ?_
  rintro ds Q ⟨p, rfl, hc, hd, ho, q⟩
  have c := hA.cl _ (Pt.cls_in A p)
  have no := hA.nof _ (Pt.cls_in A p)
  obtain ⟨a, s, rfl⟩ := is_whn hA hc
  obtain ⟨ha, hl⟩ := ho
  have hl' := hl
  simp only [Pt.text, strLen_append] at hl'
  simp only [Pt.depth] at hd
  have hs := line_ge
  exact (vMethQ_of (p := a) m_fld noM_text (vFld_of rfl c (no _ (by decide)) (by kernel_rfl) rfl) (by omega) ⟨ha, by omega⟩ (vFld_of rfl c (no _ (by decide)) (by kernel_rfl) (kc m_vC rfl (by simp only [strLen_append]; omega) (kc m_fv (fv_of rfl (by omega)) (by simp only [strLen_append]; omega) (kc m_vC rfl (by simp only [strLen_append]; omega) (kc m_fv (fv_of rfl (by omega)) (by simp only [strLen_append]; omega) (kc m_vC rfl (by simp only [strLen_append]; omega) ⟨by simp only [strLen_append]; omega, q⟩)))))))
theorem text_held (hA : AOk K A) (d : Dm K A.held "text" "Held.text" s_Held_text ["self"]) (c_first_text : Cal P w K mg base j "first_text" ["first"] sdFT) (m_text : MQ P w K mg base A j "text" n okT gText) : Mcal P w K mg base (j + 1) A.held "text" (sdQ A (n + 1) okT gText A.held) [] := by
  refine d.cal sc_Held_text m_Q l_Q (fun f cdv A outer s H E hr => have hu := hr.units; have hh := hr.hd; have sc := sc_Held_text
    (ss_cons (s_set (i := 1) sc.nd rfl (Or.inl rfl) (d_m0 m_text hr (by omega) (d_fldK K rfl (dv 0) (by rfl))))
  (ss_cons (s_set (i := 2) sc.nd rfl (Or.inl rfl) (d_fldK K rfl (dv 0) (by rfl)))
  (ss_cons (s_set (i := 3) sc.nd rfl (Or.inl rfl) (d_cal c_first_text hr (by omega) (by rfl) (a_cons (d_fldK K rfl (dv 0) (by rfl)) a_nil)))
  (ss_one (s_ret (d_joined (j_cons d_str (j_cons (d_fv (dv 1)) (j_cons d_str (j_cons (d_fv (dv 2)) (j_cons (d_fv (dv 3)) (j_cons d_str j_nil))))))))))))) ?_
  rintro ds Q ⟨p, rfl, hc, hd, ho, q⟩
  have c := hA.cl _ (Pt.cls_in A p)
  have no := hA.nof _ (Pt.cls_in A p)
  obtain ⟨a, s, f, rfl⟩ := is_held hA hc
  obtain ⟨⟨ha, h1, h2⟩, hl⟩ := ho
  have hl' := hl
  simp only [Pt.text, strLen_append] at hl'
  simp only [Pt.depth] at hd
  have hs := line_ge
  exact (vMethQ_of (p := a) m_fld noM_text (vFld_of rfl c (no _ (by decide)) (by kernel_rfl) rfl) (by omega) ⟨ha, by omega⟩ (vFld_of rfl c (no _ (by decide)) (by kernel_rfl) (vFld_of rfl c (no _ (by decide)) (by kernel_rfl) ⟨_, rfl, h1, h2, (kc m_vC rfl (by simp only [strLen_append]; omega) (kc m_fv (fv_of rfl (by omega)) (by simp only [strLen_append]; omega) (kc m_vC rfl (by simp only [strLen_append]; omega) (kc m_fv (fv_of rfl (by omega)) (by simp only [strLen_append]; omega) (kc m_fv (fv_of rfl (by omega)) (by simp only [strLen_append]; omega) (kc m_vC rfl (by simp only [strLen_append]; omega) ⟨by simp only [strLen_append]; omega, q⟩))))))⟩)))
theorem text_given (hA : AOk K A) (d : Dm K A.given "text" "Given.text" s_Given_text ["self"]) (c_value_text : Cal P w K mg base j "value_text" ["value"] sdVT) : Mcal P w K mg base (j + 1) A.given "text" (sdQ A (n + 1) okT gText A.given) [] := by
  refine d.cal sc_Given_text m_Q l_Q (fun f cdv A outer s H E hr => have hu := hr.units; have hh := hr.hd; have sc := sc_Given_text
    (ss_one (s_ret (d_cal c_value_text hr (by omega) (by rfl) (a_cons (d_fldK K rfl (dv 0) (by rfl)) a_nil))))) ?_
  rintro ds Q ⟨p, rfl, hc, hd, ho, q⟩
  have c := hA.cl _ (Pt.cls_in A p)
  have no := hA.nof _ (Pt.cls_in A p)
  obtain ⟨v, rfl⟩ := is_given hA hc
  exact vFld_of rfl c (no _ (by decide)) (by kernel_rfl) ⟨_, rfl, ho.1, q⟩
theorem text_named (hA : AOk K A) (d : Dm K A.named "text" "Named.text" s_Named_text ["self"]) : Mcal P w K mg base (j + 1) A.named "text" (sdQ A (n + 1) okT gText A.named) [] := by
  refine d.cal sc_Named_text m_Q l_Q (fun f cdv A outer s H E hr => have hu := hr.units; have hh := hr.hd; have sc := sc_Named_text
    (ss_one (s_ret (d_fldK K rfl (dv 0) (by rfl))))) ?_
  rintro ds Q ⟨p, rfl, hc, hd, ho, q⟩
  have c := hA.cl _ (Pt.cls_in A p)
  have no := hA.nof _ (Pt.cls_in A p)
  obtain ⟨s, rfl⟩ := is_named hA hc
  exact vFld_of rfl c (no _ (by decide)) (by kernel_rfl) q
structure DText (K : PySem.W.Frag) (A : Adr) : Prop where
  given : Dm K A.given "text" "Given.text" s_Given_text ["self"]
  named : Dm K A.named "text" "Named.text" s_Named_text ["self"]
  turned : Dm K A.turned "text" "Turned.text" s_Turned_text ["self"]
  pair : Dm K A.pair "text" "Pair.text" s_Pair_text ["self"]
  choice : Dm K A.choice "text" "Choice.text" s_Choice_text ["self"]
  before : Dm K A.before "text" "Before.text" s_Before_text ["self"]
  led : Dm K A.led "text" "Led.text" s_Led_text ["self"]
  whn : Dm K A.whn "text" "When.text" s_When_text ["self"]
  held : Dm K A.held "text" "Held.text" s_Held_text ["self"]
theorem zero_Q {ok : Pt → Prop} {g : Pt → D} {C : Addr} (ds : List D) (Q : D → Prop) : ¬ sdQ A 0 ok g C ds Q := fun ⟨p, _, _, h, _⟩ => absurd p.depth_pos (by omega)
theorem text_all (hA : AOk K A) (d : DText K A) (cv : Cal P w K mg base 1 "value_text" ["value"] sdVT) (cf : Cal P w K mg base 2 "first_text" ["first"] sdFT) : ∀ n, MQ P w K mg base A (n + 2) "text" n okT gText
  | 0 => fun C ⟨p, e⟩ => by
    subst e
    cases p
    · exact Dm.never d.given m_Q zero_Q
    · exact Dm.never d.named m_Q zero_Q
    · exact Dm.never d.turned m_Q zero_Q
    · exact Dm.never d.pair m_Q zero_Q
    · exact Dm.never d.choice m_Q zero_Q
    · exact Dm.never d.before m_Q zero_Q
    · exact Dm.never d.led m_Q zero_Q
    · exact Dm.never d.whn m_Q zero_Q
    · exact Dm.never d.held m_Q zero_Q
  | n + 1 => fun C ⟨p, e⟩ => by
    have ih := text_all hA d cv cf n
    have cv' := cv.up (show 1 ≤ n + 2 by omega)
    have cf' := cf.up (show 2 ≤ n + 2 by omega)
    subst e
    cases p
    · exact text_given hA d.given cv'
    · exact text_named hA d.named
    · exact text_turned hA d.turned ih
    · exact text_pair hA d.pair ih
    · exact text_choice hA d.choice ih
    · exact text_before hA d.before cf' ih
    · exact text_led hA d.led ih
    · exact text_whn hA d.whn ih
    · exact text_held hA d.held cf' ih
end
end K03

set_option maxHeartbeats 4000000
namespace DC
open PySem PySem.Spec PyProof.Rows L2
section
variable {P : Program} {w : World} {K : PySem.W.Frag} {mg : Str → Option Value} {base : Heap}
theorem Df.calF {k : Nat} {x : Str} {st : Stmt} {ps N : List Str} {sd : SpF} {t : TMD} (d : Df K mg x st ps) (S : FnScope N ps (defScope st)) (ms : MonoSF sd) (len : ∀ ds Q, sd ds Q → ds.length = ps.length)
    (hb : ∀ (f : Addr) (cdv : Value) (A : Around) (outer : List Env) (s : Shared) (H : Hp) (E : XK), Room k (A.deeper (envOfC x (defScope st) s.heap.objs.size f cdv)) → PMs (Bx P w K mg base N x st f cdv A outer s H E) (defBody st) t)
    (hr : ∀ ds Q, sd ds Q → t { nx := fun _ μ => Q .non μ, rt := Q } (startD N ds) []) : CalF P w K mg base (k + 1) x ps sd := by
  obtain ⟨f, fd, F, m, b⟩ := d.ex
  exact ⟨⟨f, fd, okF F S len (hb f) hr, m, F.kp, b⟩, ms⟩
theorem Dm.calF {k : Nat} {C : Addr} {m qual : Str} {st : Stmt} {ps N : List Str} {sd : SpF} {t : TMD} (d : Dm K C m qual st ps) (S : FnScope N ps (defScope st)) (ms : MonoSF sd) (len : ∀ ds Q, sd ds Q → ds.length = ps.length)
    (hb : ∀ (f : Addr) (cdv : Value) (A : Around) (outer : List Env) (s : Shared) (H : Hp) (E : XK), Room k (A.deeper (envOfC qual (defScope st) s.heap.objs.size f cdv)) → PMs (Bx P w K mg base N qual st f cdv A outer s H E) (defBody st) t)
    (hr : ∀ ds Q, sd ds Q → t { nx := fun _ μ => Q .non μ, rt := Q } (startD N ds) []) : McalF P w K mg base (k + 1) C m sd := by
  obtain ⟨f, fd, F, M, c, b⟩ := d.ex
  exact ⟨⟨f, fd, ps, c, M, okF F S len (hb f) hr, b⟩, ms⟩
end
end DC
namespace K03
open PySem PySem.Spec PyProof.Rows L2 DC
def addOnce (acc : List Str) (n : Str) : List Str := if acc.contains n then acc else acc ++ [n]
def onceL (ls : List (List Str)) : List Str := ls.foldl (fun acc l => l.foldl addOnce acc) []
def strsD (l : List Str) : D := .lst (l.map D.str)
def sdOnce : SpF := fun ds Q => ∃ ls : List (List Str), ds = [.lst (ls.map strsD)] ∧ (ls.map List.length).sum < 1000 ∧ ∀ a, Q (.adr a) [(a, .lst ((onceL ls).map D.str))]
theorem in_strs (n : Str) (l : List Str) : inD (.str n) (l.map D.str) = l.contains n := by
  unfold inD
  rw [List.any_map, List.contains_eq_any_beq]
  congr 1
  funext x
  show (x == n) = (n == x)
  exact Bool.beq_comm
theorem flat_strs (l : List Str) : (l.map D.str).all flatD = true := by
  rw [List.all_eq_true]
  intro d hd
  obtain ⟨x, _, rfl⟩ := List.mem_map.mp hd
  rfl
theorem add_len (acc : List Str) (n : Str) : (addOnce acc n).length ≤ acc.length + 1 := by
  unfold addOnce
  split
  · omega
  · rw [List.length_append]; exact Nat.le_refl _
theorem fold_len : ∀ (l acc : List Str), (l.foldl addOnce acc).length ≤ acc.length + l.length
  | [], acc => Nat.le_refl _
  | n :: l, acc => by
    have h1 := fold_len l (addOnce acc n)
    have h2 := add_len acc n
    rw [List.foldl_cons, List.length_cons]
    omega
theorem onces_len : ∀ (ls : List (List Str)) (acc : List Str), (ls.foldl (fun acc l => l.foldl addOnce acc) acc).length ≤ acc.length + (ls.map List.length).sum
  | [], acc => Nat.le_refl _
  | l :: ls, acc => by
    have h1 := onces_len ls (l.foldl addOnce acc)
    have h2 := fold_len l acc
    rw [List.foldl_cons, List.map_cons, List.sum_cons]
    omega
theorem sum_take_le (ls : List Nat) : ∀ i, (ls.take i).sum ≤ ls.sum := by
  induction ls with
  | nil => intro i; simp
  | cons a ls ih =>
    intro i
    cases i with
    | zero => simp
    | succ i => rw [List.take_succ_cons, List.sum_cons, List.sum_cons]; have := ih i; omega
section
seal wpAny
variable {P : Program} {w : World} {K : PySem.W.Frag} {mg : Str → Option Value} {base : Heap} {A : Adr} {n j : Nat}
theorem c_once (d : Df K mg "once" s_once ["lists"]) : CalF P w K mg base (j + 1) "once" ["lists"] sdOnce := by
  refine d.calF sc_once (fun ds P P' g ⟨ls, e, h, q⟩ => ⟨ls, e, h, fun a => g _ _ (q a)⟩) (fun ds Q ⟨ls, e, _⟩ => by rw [e]; rfl) (fun f cdv A outer s H E hr => have hu := hr.units; have hh := hr.hd; have sc := sc_once
    (ms_cons (ms_newL (i := 1) sc.nd rfl (Or.inl rfl) a_nil)
  (ms_cons (ms_for PassesOwn.never rfl (i_any (dv 0)) (g_name (i := 2) sc.nd rfl (Or.inl rfl)) (ms_one (ms_for PassesOwn.never rfl (i_any (dv 2)) (g_name (i := 3) sc.nd rfl (Or.inl rfl)) (ms_one (ms_if (t_notin (dv 3) (dv 1) (by rfl)) (ms_one (ms_append (i := 1) rfl (Or.inl rfl) (dv 3))) ms_nil)))))
  (ms_one (ms_lift (s_ret (dv 1))))))) ?_
  rintro ds Q ⟨ls, rfl, hz, q⟩
  refine ⟨(by decide), fun a _ => ?_⟩
  refine ⟨_, rfl, ls.map strsD, rfl, fun i δ μ => (∃ x y, δ = [some (.lst (ls.map strsD)), some (.adr a), x, y]) ∧ μ = [(a, .lst ((onceL (ls.take i)).map D.str))], ⟨⟨none, none, rfl⟩, rfl⟩, ?_, ?_⟩
  · rintro i d δ μ hd ⟨⟨x, y, rfl⟩, rfl⟩
    rw [List.getElem?_map] at hd
    cases hl : ls[i]? with
    | none => rw [hl] at hd; cases hd
    | some l =>
      rw [hl] at hd
      obtain rfl : strsD l = d := by simpa using hd
      have e1 : onceL (ls.take (i + 1)) = l.foldl addOnce (onceL (ls.take i)) := by
        unfold onceL
        rw [List.take_succ, hl, List.foldl_append]
        rfl
      have hsum : (onceL (ls.take i)).length + l.length < 1000 := by
        have h1 := onces_len (ls.take i) []
        have h2 := sum_take_le (ls.map List.length) (i + 1)
        rw [← List.map_take, List.take_succ, hl] at h2
        simp only [Option.toList_some, List.map_append, List.map_cons, List.map_nil, List.sum_append, List.sum_cons, List.sum_nil] at h2
        simp only [List.length_nil] at h1
        unfold onceL
        omega
      refine ⟨_, rfl, l.map D.str, rfl, fun k δ μ => (∃ y, δ = [some (.lst (ls.map strsD)), some (.adr a), some (strsD l), y]) ∧ μ = [(a, .lst (((l.take k).foldl addOnce (onceL (ls.take i))).map D.str))], ⟨⟨y, rfl⟩, rfl⟩, ?_, ?_⟩
      · rintro k d δ μ hd ⟨⟨y, rfl⟩, rfl⟩
        rw [List.getElem?_map] at hd
        cases hn : l[k]? with
        | none => rw [hn] at hd; cases hd
        | some n =>
          rw [hn] at hd
          obtain rfl : D.str n = d := by simpa using hd
          have hk : k < l.length := (List.getElem?_eq_some_iff.mp hn).1
          have e2 : (l.take (k + 1)).foldl addOnce (onceL (ls.take i)) = addOnce ((l.take k).foldl addOnce (onceL (ls.take i))) n := by
            rw [List.take_succ, hn, List.foldl_append]
            rfl
          have hlen : ((l.take k).foldl addOnce (onceL (ls.take i))).length < 1000 := by
            have h1 := fold_len (l.take k) (onceL (ls.take i))
            rw [List.length_take] at h1
            omega
          generalize hacc : (l.take k).foldl addOnce (onceL (ls.take i)) = acc at e2 hlen
          have hview : viewD [(a, MD.lst (acc.map D.str))] (.adr a) = .lst (acc.map D.str) := by simp [viewD, MD.d, List.lookup]
          refine ⟨_, rfl, _, congrArg (fun z => some (some z)) hview, rfl, flat_strs acc, !acc.contains n, by rw [← in_strs]; rfl, ?_⟩
          cases hc : acc.contains n with
          | true =>
            refine iteF ?_
            refine ⟨⟨_, rfl⟩, ?_⟩
            rw [e2]
            unfold addOnce
            rw [hc]
            rfl
          | false =>
            refine iteT ?_
            refine ⟨a, acc.map D.str, rfl, by simp [List.lookup], ?_, _, rfl, ⟨_, rfl⟩, ?_⟩
            · rw [List.length_map]; exact Nat.lt_trans hlen (by decide)
            · rw [e2]
              unfold addOnce
              rw [hc]
              simp [putM]
      · rintro δ μ ⟨⟨y, rfl⟩, rfl⟩
        refine ⟨⟨_, _, rfl⟩, ?_⟩
        rw [List.length_map, List.take_length, e1]
  · rintro δ μ ⟨⟨x, y, rfl⟩, rfl⟩
    refine ⟨_, rfl, ?_⟩
    rw [List.length_map, List.take_length]
    exact q a
end
end K03

set_option maxHeartbeats 4000000
namespace K03
open PySem PySem.Spec PyProof.Rows L2 DC
def Pt.own : Pt → List Str
  | .named n => [n] | .whn _ n => [n] | .held _ n _ => [n] | _ => []
def Pt.names : Pt → List Str
  | .given _ => onceL [[]]
  | .named n => onceL [[n]]
  | .turned p => onceL [p.names, []]
  | .pair _ a b => onceL [a.names, b.names, []]
  | .choice t a b => onceL [t.names, a.names, b.names, []]
  | .before p _ => onceL [p.names, []]
  | .led h r => onceL [h.names, r.names, []]
  | .whn p n => onceL [p.names, [n]]
  | .held p n _ => onceL [p.names, [n]]
theorem Pt.names_inner (p : Pt) : p.names = onceL (p.inner.map Pt.names ++ [p.own]) := by cases p <;> rfl
theorem once_len (ls : List (List Str)) : (onceL ls).length ≤ (ls.map List.length).sum := by
  have := onces_len ls []
  simpa [onceL] using this
theorem Pt.names_len : ∀ p : Pt, p.names.length ≤ p.size
  | .given _ => by have := once_len [[]]; simp only [Pt.names, Pt.size, List.map_cons, List.map_nil, List.sum_cons, List.sum_nil, List.length_nil] at *; omega
  | .named n => by have := once_len [[n]]; simp only [Pt.names, Pt.size, List.map_cons, List.map_nil, List.sum_cons, List.sum_nil, List.length_cons, List.length_nil] at *; omega
  | .turned p => by have := once_len [p.names, []]; have h1 := p.names_len; simp only [Pt.names, Pt.size, List.map_cons, List.map_nil, List.sum_cons, List.sum_nil, List.length_nil] at *; omega
  | .pair _ a b => by have := once_len [a.names, b.names, []]; have h1 := a.names_len; have h2 := b.names_len; simp only [Pt.names, Pt.size, List.map_cons, List.map_nil, List.sum_cons, List.sum_nil, List.length_nil] at *; omega
  | .choice t a b => by have := once_len [t.names, a.names, b.names, []]; have h0 := t.names_len; have h1 := a.names_len; have h2 := b.names_len; simp only [Pt.names, Pt.size, List.map_cons, List.map_nil, List.sum_cons, List.sum_nil, List.length_nil] at *; omega
  | .before p _ => by have := once_len [p.names, []]; have h1 := p.names_len; simp only [Pt.names, Pt.size, List.map_cons, List.map_nil, List.sum_cons, List.sum_nil, List.length_nil] at *; omega
  | .led h r => by have := once_len [h.names, r.names, []]; have h1 := h.names_len; have h2 := r.names_len; simp only [Pt.names, Pt.size, List.map_cons, List.map_nil, List.sum_cons, List.sum_nil, List.length_nil] at *; omega
  | .whn p n => by have := once_len [p.names, [n]]; have h1 := p.names_len; simp only [Pt.names, Pt.size, List.map_cons, List.map_nil, List.sum_cons, List.sum_nil, List.length_cons, List.length_nil] at *; omega
  | .held p n _ => by have := once_len [p.names, [n]]; have h1 := p.names_len; simp only [Pt.names, Pt.size, List.map_cons, List.map_nil, List.sum_cons, List.sum_nil, List.length_cons, List.length_nil] at *; omega
theorem Pt.sum_names (p : Pt) : ((p.inner.map Pt.names ++ [p.own]).map List.length).sum ≤ p.size := by
  cases p <;> simp only [Pt.inner, Pt.own, Pt.size, List.map_cons, List.map_nil, List.cons_append, List.nil_append, List.sum_cons, List.sum_nil, List.length_cons, List.length_nil]
  case turned a => have := a.names_len; omega
  case pair a b => have := a.names_len; have := b.names_len; omega
  case choice t a b => have := t.names_len; have := a.names_len; have := b.names_len; omega
  case before a _ => have := a.names_len; omega
  case led a b => have := a.names_len; have := b.names_len; omega
  case whn a _ => have := a.names_len; omega
  case held a _ _ => have := a.names_len; omega
  all_goals omega
theorem Pt.in_size {p q : Pt} (h : q ∈ p.inner) : q.size ≤ p.size := by
  cases p <;> simp only [Pt.inner, Pt.size, List.mem_cons, List.not_mem_nil, or_false] at h ⊢
  case turned => subst h; omega
  case pair => rcases h with rfl | rfl <;> omega
  case choice => rcases h with rfl | rfl | rfl <;> omega
  case before => subst h; omega
  case led => rcases h with rfl | rfl <;> omega
  case whn => subst h; omega
  case held => subst h; omega
def okN (p : Pt) : Prop := p.size ≤ 900
theorem noM_names : noM "names" := by unfold noM; decide +kernel
theorem noM_own : noM "own_names" := by unfold noM; decide +kernel
def sdNF (A : Adr) (n : Nat) (ok : Pt → Prop) (g : Pt → List Str) (C : Addr) : SpF := fun ds Q => ∃ p : Pt, ds = [p.d A] ∧ p.cls A = C ∧ p.depth ≤ n ∧ ok p ∧ ∀ a, Q (.adr a) [(a, .lst ((g p).map D.str))]
theorem m_NF {A : Adr} {n : Nat} {ok : Pt → Prop} {g : Pt → List Str} {C : Addr} : MonoSF (sdNF A n ok g C) := fun ds P P' f ⟨p, e, c, h, o, q⟩ => ⟨p, e, c, h, o, fun a => f _ _ (q a)⟩
abbrev MF (P : Program) (w : World) (K : PySem.W.Frag) (mg : Str → Option Value) (base : Heap) (A : Adr) (j : Nat) (m : Str) (n : Nat) (ok : Pt → Prop) (g : Pt → List Str) : Prop := ∀ C, isP A C → McalF P w K mg base j C m (sdNF A n ok g C)
section
seal wpAny
variable {P : Program} {w : World} {K : PySem.W.Frag} {mg : Str → Option Value} {base : Heap} {A : Adr} {n j : Nat}
theorem MF.q {m : Str} {ok : Pt → Prop} {g : Pt → List Str} (h : MF P w K mg base A j m n ok g) : MQ P w K mg base A j m n ok fun p => strsD (g p) := fun C hC => by
  obtain ⟨f, fd, ps, c, M, F, b⟩ := (h C hC).ex
  refine ⟨⟨f, fd, ps, [], [], c, M, F.imp (spF_of m_NF fun ds Q ⟨p, e, e2, hd, ho, q⟩ => ⟨p, e, e2, hd, ho, fun a => ?_⟩), b, .nil, fun _ => .nil⟩, m_Q⟩
  have hview : viewD [(a, MD.lst ((g p).map D.str))] (.adr a) = strsD (g p) := by simp [viewD, MD.d, List.lookup, strsD]
  show Q (viewD [(a, MD.lst ((g p).map D.str))] (.adr a))
  rw [hview]
  exact q
theorem names_of (d : ∀ C, isP A C → Dm K C "names" "Part.names" s_Part_names ["self"]) (cf_once : CalF P w K mg base j "once" ["lists"] sdOnce) (m_inner : MP P w K mg base A j "inner" (n + 1) (gInner A)) (m_own_names : MP P w K mg base A j "own_names" (n + 1) fun p => strsD p.own)
    (m_names : MQ P w K mg base A j "names" n okN fun p => strsD p.names) : MF P w K mg base A (j + 1) "names" (n + 1) okN Pt.names := by
  intro C hC
  refine (d C hC).calF sc_Part_names m_NF (fun ds Q ⟨p, e, _⟩ => by rw [e]; rfl) (fun f cdv A outer s H E hr => have hu := hr.units; have hh := hr.hd; have sc := sc_Part_names
    (ms_one (ms_retP (f_cal cf_once hr (by omega) (by rfl) (a_cons (d_add (d_lc (x := "part") (caps := []) (cn := []) (cl := []) (comp0 (by rfl) (by rfl) (by decide +kernel) (by decide +kernel) (by decide +kernel)) rfl (i_any (d_m0 m_inner hr (by omega) (dv 0))) (fun C fp s₂ H₂ => pg_name (i := 0) (show (["part"] : List Str).Nodup by decide +kernel) rfl (Or.inl rfl) (.inr rfl)) (fun C fp s₂ H₂ => ts_nil) (fun C fp s₂ H₂ => (d_m0 m_names hr (by omega) (dv 0)))) (d_lst (a_cons (d_m0 m_own_names hr (by omega) (dv 0)) a_nil))) a_nil))))) ?_
  rintro ds Q ⟨p, rfl, hc, hd, ho, q⟩
  refine vMeth_of m_var noM_inner ⟨_, rfl, rfl⟩ hd ?_
  refine ⟨p.inner.map (Pt.d A), rfl, p.inner.map fun q => some (strsD q.names), by simp, fun i d o hd' ho' => ?_, ?_, ?_⟩
  · obtain ⟨r, hr, e1, e2⟩ := inner_at hd' ho'
    subst e1 e2
    exact ⟨rfl, fun _ => vMethQ_of m_var noM_names ⟨_, rfl, rfl⟩ (p.in_depth hr hd) (Nat.le_trans (Pt.in_size hr) ho) rfl⟩
  · rw [List.length_map]; exact Nat.lt_of_le_of_lt p.inner_len (by decide)
  · refine vMeth_of (p := p) m_var noM_own ⟨_, rfl, rfl⟩ hd ⟨(show 1 ≤ sizeLine by decide), ?_⟩
    have e : (p.inner.map fun q => some (strsD q.names)).filterMap id ++ [strsD p.own] = (p.inner.map Pt.names ++ [p.own]).map strsD := by
      rw [List.filterMap_map, filterMap_some, List.map_append, List.map_map]
      rfl
    refine ⟨?_, p.inner.map Pt.names ++ [p.own], ?_, ?_, fun a => ?_⟩
    · show ((p.inner.map fun q => some (strsD q.names)).filterMap id).length + 1 ≤ sizeLine
      rw [List.filterMap_map, filterMap_some, List.length_map]
      exact Nat.le_trans (Nat.add_le_add_right p.inner_len 1) (by decide)
    · exact congrArg (fun z => [D.lst z]) e
    · exact Nat.lt_of_le_of_lt p.sum_names (Nat.lt_of_le_of_lt ho (by decide))
    · rw [← Pt.names_inner]; exact q a
end
end K03

set_option maxHeartbeats 4000000
namespace K03
open PySem PySem.Spec PyProof.Rows L2 DC
def Pt.needs : Pt → List Str
  | .given _ => onceL [[]]
  | .named n => onceL [[n]]
  | .turned p => onceL [p.needs, []]
  | .pair _ a b => onceL [a.needs, b.needs, []]
  | .choice t a b => onceL [t.needs, a.needs, b.needs, []]
  | .before _ _ => []
  | .led h r => onceL [h.needs, r.needs, []]
  | .whn p n => onceL [p.needs, [n]]
  | .held p n _ => onceL [p.needs, [n]]
section
seal wpAny
variable {P : Program} {w : World} {K : PySem.W.Frag} {mg : Str → Option Value} {base : Heap} {A : Adr} {n j : Nat}
structure DOwn (K : PySem.W.Frag) (A : Adr) : Prop where
  given : Dm K A.given "own_names" "Part.own_names" s_Part_own_names ["self"]
  named : Dm K A.named "own_names" "Named.own_names" s_Named_own_names ["self"]
  turned : Dm K A.turned "own_names" "Part.own_names" s_Part_own_names ["self"]
  pair : Dm K A.pair "own_names" "Part.own_names" s_Part_own_names ["self"]
  choice : Dm K A.choice "own_names" "Part.own_names" s_Part_own_names ["self"]
  before : Dm K A.before "own_names" "Part.own_names" s_Part_own_names ["self"]
  led : Dm K A.led "own_names" "Part.own_names" s_Part_own_names ["self"]
  whn : Dm K A.whn "own_names" "When.own_names" s_When_own_names ["self"]
  held : Dm K A.held "own_names" "Held.own_names" s_Held_own_names ["self"]
theorem own_given (hA : AOk K A) (d : Dm K A.given "own_names" "Part.own_names" s_Part_own_names ["self"]) : Mcal P w K mg base (j + 1) A.given "own_names" (sdP A n (fun p => strsD p.own) A.given) [] := by
  refine d.cal sc_Part_own_names m_P l_P (fun f cdv A outer s H E hr => have hu := hr.units; have hh := hr.hd; have sc := sc_Part_own_names
    (ss_one (s_ret (d_lst a_nil)))) ?_
  rintro ds Q ⟨p, rfl, hc, hd, q⟩
  have c := hA.cl _ (Pt.cls_in A p)
  have no := hA.nof _ (Pt.cls_in A p)
  obtain ⟨v, rfl⟩ := is_given hA hc
  exact ⟨(show 0 ≤ sizeLine by decide), q⟩
theorem own_named (hA : AOk K A) (d : Dm K A.named "own_names" "Named.own_names" s_Named_own_names ["self"]) : Mcal P w K mg base (j + 1) A.named "own_names" (sdP A n (fun p => strsD p.own) A.named) [] := by
  refine d.cal sc_Named_own_names m_P l_P (fun f cdv A outer s H E hr => have hu := hr.units; have hh := hr.hd; have sc := sc_Named_own_names
    (ss_one (s_ret (d_lst (a_cons (d_fldK K rfl (dv 0) (by rfl)) a_nil))))) ?_
  rintro ds Q ⟨p, rfl, hc, hd, q⟩
  have c := hA.cl _ (Pt.cls_in A p)
  have no := hA.nof _ (Pt.cls_in A p)
  obtain ⟨s, rfl⟩ := is_named hA hc
  exact vFld_of rfl c (no _ (by decide)) (by kernel_rfl) ⟨(show 1 ≤ sizeLine by decide), q⟩
theorem own_turned (hA : AOk K A) (d : Dm K A.turned "own_names" "Part.own_names" s_Part_own_names ["self"]) : Mcal P w K mg base (j + 1) A.turned "own_names" (sdP A n (fun p => strsD p.own) A.turned) [] := by
  refine d.cal sc_Part_own_names m_P l_P (fun f cdv A outer s H E hr => have hu := hr.units; have hh := hr.hd; have sc := sc_Part_own_names
    (ss_one (s_ret (d_lst a_nil)))) ?_
  rintro ds Q ⟨p, rfl, hc, hd, q⟩
  have c := hA.cl _ (Pt.cls_in A p)
  have no := hA.nof _ (Pt.cls_in A p)
  obtain ⟨x, rfl⟩ := is_turned hA hc
  exact ⟨(show 0 ≤ sizeLine by decide), q⟩
theorem own_pair (hA : AOk K A) (d : Dm K A.pair "own_names" "Part.own_names" s_Part_own_names ["self"]) : Mcal P w K mg base (j + 1) A.pair "own_names" (sdP A n (fun p => strsD p.own) A.pair) [] := by
  refine d.cal sc_Part_own_names m_P l_P (fun f cdv A outer s H E hr => have hu := hr.units; have hh := hr.hd; have sc := sc_Part_own_names
    (ss_one (s_ret (d_lst a_nil)))) ?_
  rintro ds Q ⟨p, rfl, hc, hd, q⟩
  have c := hA.cl _ (Pt.cls_in A p)
  have no := hA.nof _ (Pt.cls_in A p)
  obtain ⟨g, x, y, rfl⟩ := is_pair hA hc
  exact ⟨(show 0 ≤ sizeLine by decide), q⟩
theorem own_choice (hA : AOk K A) (d : Dm K A.choice "own_names" "Part.own_names" s_Part_own_names ["self"]) : Mcal P w K mg base (j + 1) A.choice "own_names" (sdP A n (fun p => strsD p.own) A.choice) [] := by
  refine d.cal sc_Part_own_names m_P l_P (fun f cdv A outer s H E hr => have hu := hr.units; have hh := hr.hd; have sc := sc_Part_own_names
    (ss_one (s_ret (d_lst a_nil)))) ?_
  rintro ds Q ⟨p, rfl, hc, hd, q⟩
  have c := hA.cl _ (Pt.cls_in A p)
  have no := hA.nof _ (Pt.cls_in A p)
  obtain ⟨x, y, z, rfl⟩ := is_choice hA hc
  exact ⟨(show 0 ≤ sizeLine by decide), q⟩
theorem own_before (hA : AOk K A) (d : Dm K A.before "own_names" "Part.own_names" s_Part_own_names ["self"]) : Mcal P w K mg base (j + 1) A.before "own_names" (sdP A n (fun p => strsD p.own) A.before) [] := by
  refine d.cal sc_Part_own_names m_P l_P (fun f cdv A outer s H E hr => have hu := hr.units; have hh := hr.hd; have sc := sc_Part_own_names
    (ss_one (s_ret (d_lst a_nil)))) ?_
  rintro ds Q ⟨p, rfl, hc, hd, q⟩
  have c := hA.cl _ (Pt.cls_in A p)
  have no := hA.nof _ (Pt.cls_in A p)
  obtain ⟨x, f, rfl⟩ := is_before hA hc
  exact ⟨(show 0 ≤ sizeLine by decide), q⟩
theorem own_led (hA : AOk K A) (d : Dm K A.led "own_names" "Part.own_names" s_Part_own_names ["self"]) : Mcal P w K mg base (j + 1) A.led "own_names" (sdP A n (fun p => strsD p.own) A.led) [] := by
  refine d.cal sc_Part_own_names m_P l_P (fun f cdv A outer s H E hr => have hu := hr.units; have hh := hr.hd; have sc := sc_Part_own_names
    (ss_one (s_ret (d_lst a_nil)))) ?_
  rintro ds Q ⟨p, rfl, hc, hd, q⟩
  have c := hA.cl _ (Pt.cls_in A p)
  have no := hA.nof _ (Pt.cls_in A p)
  obtain ⟨x, y, rfl⟩ := is_led hA hc
  exact ⟨(show 0 ≤ sizeLine by decide), q⟩
theorem own_whn (hA : AOk K A) (d : Dm K A.whn "own_names" "When.own_names" s_When_own_names ["self"]) : Mcal P w K mg base (j + 1) A.whn "own_names" (sdP A n (fun p => strsD p.own) A.whn) [] := by
  refine d.cal sc_When_own_names m_P l_P (fun f cdv A outer s H E hr => have hu := hr.units; have hh := hr.hd; have sc := sc_When_own_names
    (ss_one (s_ret (d_lst (a_cons (d_fldK K rfl (dv 0) (by rfl)) a_nil))))) ?_
  rintro ds Q ⟨p, rfl, hc, hd, q⟩
  have c := hA.cl _ (Pt.cls_in A p)
  have no := hA.nof _ (Pt.cls_in A p)
  obtain ⟨x, s, rfl⟩ := is_whn hA hc
  exact vFld_of rfl c (no _ (by decide)) (by kernel_rfl) ⟨(show 1 ≤ sizeLine by decide), q⟩
theorem own_held (hA : AOk K A) (d : Dm K A.held "own_names" "Held.own_names" s_Held_own_names ["self"]) : Mcal P w K mg base (j + 1) A.held "own_names" (sdP A n (fun p => strsD p.own) A.held) [] := by
  refine d.cal sc_Held_own_names m_P l_P (fun f cdv A outer s H E hr => have hu := hr.units; have hh := hr.hd; have sc := sc_Held_own_names
    (ss_one (s_ret (d_lst (a_cons (d_fldK K rfl (dv 0) (by rfl)) a_nil))))) ?_
  rintro ds Q ⟨p, rfl, hc, hd, q⟩
  have c := hA.cl _ (Pt.cls_in A p)
  have no := hA.nof _ (Pt.cls_in A p)
  obtain ⟨x, s, f, rfl⟩ := is_held hA hc
  exact vFld_of rfl c (no _ (by decide)) (by kernel_rfl) ⟨(show 1 ≤ sizeLine by decide), q⟩
theorem own_all (hA : AOk K A) (d : DOwn K A) (n : Nat) : MP P w K mg base A (j + 1) "own_names" n fun p => strsD p.own := fun C ⟨p, e⟩ => by
  subst e
  cases p
  · exact own_given hA d.given
  · exact own_named hA d.named
  · exact own_turned hA d.turned
  · exact own_pair hA d.pair
  · exact own_choice hA d.choice
  · exact own_before hA d.before
  · exact own_led hA d.led
  · exact own_whn hA d.whn
  · exact own_held hA d.held
theorem Dm.neverF {C : Addr} {m qual : Str} {st : Stmt} {ps : List Str} {sd : SpF} (d : Dm K C m qual st ps) (ms : MonoSF sd) (h : ∀ ds Q, ¬ sd ds Q) : McalF P w K mg base j C m sd := by
  obtain ⟨f, fd, F, M, c, b⟩ := d.ex
  exact ⟨⟨f, fd, ps, c, M, ⟨fun vs H Q E ⟨ds, _, q⟩ => (h _ _ q).elim, fun A outer s H args us vs Q E _ _ _ _ ⟨ds, _, q⟩ => (h _ _ q).elim⟩, b⟩, ms⟩
theorem zero_NF {ok : Pt → Prop} {g : Pt → List Str} {C : Addr} (ds : List D) (Q : D → Mu → Prop) : ¬ sdNF A 0 ok g C ds Q := fun ⟨p, _, _, h, _⟩ => absurd p.depth_pos (by omega)
theorem names_all (hA : AOk K A) (dI : DInner K A) (dO : DOwn K A) (c1 : CalF P w K mg base 1 "once" ["lists"] sdOnce) (d : ∀ C, isP A C → Dm K C "names" "Part.names" s_Part_names ["self"]) : ∀ n, MF P w K mg base A (n + 1) "names" n okN Pt.names
  | 0 => fun C hC => Dm.neverF (d C hC) m_NF zero_NF
  | n + 1 => names_of d (let ⟨f, fd, F, r⟩ := c1.ex; ⟨⟨f, fd, F.mono (show 1 ≤ n + 1 by omega), r⟩, c1.ms⟩) (inner_all hA dI _) (own_all hA dO _) (MF.q (names_all hA dI dO c1 d n))
end
end K03

set_option maxHeartbeats 4000000
namespace K03
open PySem PySem.Spec PyProof.Rows L2 DC
def Pt.isBefore : Pt → Bool
  | .before _ _ => true
  | _ => false
theorem Pt.needs_inner (p : Pt) (h : p.isBefore = false) : p.needs = onceL (p.inner.map Pt.needs ++ [p.own]) := by cases p <;> first | rfl | cases h
theorem Pt.needs_len : ∀ p : Pt, p.needs.length ≤ p.size
  | .given _ => by have := once_len [[]]; simp only [Pt.needs, Pt.size, List.map_cons, List.map_nil, List.sum_cons, List.sum_nil, List.length_nil] at *; omega
  | .named n => by have := once_len [[n]]; simp only [Pt.needs, Pt.size, List.map_cons, List.map_nil, List.sum_cons, List.sum_nil, List.length_cons, List.length_nil] at *; omega
  | .turned p => by have := once_len [p.needs, []]; have h1 := p.needs_len; simp only [Pt.needs, Pt.size, List.map_cons, List.map_nil, List.sum_cons, List.sum_nil, List.length_nil] at *; omega
  | .pair _ a b => by have := once_len [a.needs, b.needs, []]; have h1 := a.needs_len; have h2 := b.needs_len; simp only [Pt.needs, Pt.size, List.map_cons, List.map_nil, List.sum_cons, List.sum_nil, List.length_nil] at *; omega
  | .choice t a b => by have := once_len [t.needs, a.needs, b.needs, []]; have h0 := t.needs_len; have h1 := a.needs_len; have h2 := b.needs_len; simp only [Pt.needs, Pt.size, List.map_cons, List.map_nil, List.sum_cons, List.sum_nil, List.length_nil] at *; omega
  | .before p _ => by simp only [Pt.needs, Pt.size, List.length_nil]; omega
  | .led h r => by have := once_len [h.needs, r.needs, []]; have h1 := h.needs_len; have h2 := r.needs_len; simp only [Pt.needs, Pt.size, List.map_cons, List.map_nil, List.sum_cons, List.sum_nil, List.length_nil] at *; omega
  | .whn p n => by have := once_len [p.needs, [n]]; have h1 := p.needs_len; simp only [Pt.needs, Pt.size, List.map_cons, List.map_nil, List.sum_cons, List.sum_nil, List.length_cons, List.length_nil] at *; omega
  | .held p n _ => by have := once_len [p.needs, [n]]; have h1 := p.needs_len; simp only [Pt.needs, Pt.size, List.map_cons, List.map_nil, List.sum_cons, List.sum_nil, List.length_cons, List.length_nil] at *; omega
theorem Pt.sum_needs (p : Pt) : ((p.inner.map Pt.needs ++ [p.own]).map List.length).sum ≤ p.size := by
  cases p <;> simp only [Pt.inner, Pt.own, Pt.size, List.map_cons, List.map_nil, List.cons_append, List.nil_append, List.sum_cons, List.sum_nil, List.length_cons, List.length_nil]
  case turned a => have := a.needs_len; omega
  case pair a b => have := a.needs_len; have := b.needs_len; omega
  case choice t a b => have := t.needs_len; have := a.needs_len; have := b.needs_len; omega
  case before a _ => have := a.needs_len; omega
  case led a b => have := a.needs_len; have := b.needs_len; omega
  case whn a _ => have := a.needs_len; omega
  case held a _ _ => have := a.needs_len; omega
  all_goals omega
theorem noM_needs : noM "needs" := by unfold noM; decide +kernel
section
seal wpAny
variable {P : Program} {w : World} {K : PySem.W.Frag} {mg : Str → Option Value} {base : Heap} {A : Adr} {n j : Nat}
theorem needs_of {C : Addr} (hB : ∀ p : Pt, p.cls A = C → p.isBefore = false) (d : Dm K C "needs" "Part.needs" s_Part_needs ["self"]) (cf_once : CalF P w K mg base j "once" ["lists"] sdOnce) (m_inner : MP P w K mg base A j "inner" (n + 1) (gInner A)) (m_own_names : MP P w K mg base A j "own_names" (n + 1) fun p => strsD p.own)
    (m_needs : MQ P w K mg base A j "needs" n okN fun p => strsD p.needs) : McalF P w K mg base (j + 1) C "needs" (sdNF A (n + 1) okN Pt.needs C) := by
  refine d.calF sc_Part_needs m_NF (fun ds Q ⟨p, e, _⟩ => by rw [e]; rfl) (fun f cdv A outer s H E hr => have hu := hr.units; have hh := hr.hd; have sc := sc_Part_needs
    (ms_one (ms_retP (f_cal cf_once hr (by omega) (by rfl) (a_cons (d_add (d_lc (x := "part") (caps := []) (cn := []) (cl := []) (comp0 (by rfl) (by rfl) (by decide +kernel) (by decide +kernel) (by decide +kernel)) rfl (i_any (d_m0 m_inner hr (by omega) (dv 0))) (fun C fp s₂ H₂ => pg_name (i := 0) (show (["part"] : List Str).Nodup by decide +kernel) rfl (Or.inl rfl) (.inr rfl)) (fun C fp s₂ H₂ => ts_nil) (fun C fp s₂ H₂ => (d_m0 m_needs hr (by omega) (dv 0)))) (d_lst (a_cons (d_m0 m_own_names hr (by omega) (dv 0)) a_nil))) a_nil))))) ?_
  rintro ds Q ⟨p, rfl, hc, hd, ho, q⟩
  refine vMeth_of m_var noM_inner ⟨_, rfl, rfl⟩ hd ?_
  refine ⟨p.inner.map (Pt.d A), rfl, p.inner.map fun q => some (strsD q.needs), by simp, fun i d o hd' ho' => ?_, ?_, ?_⟩
  · obtain ⟨r, hr, e1, e2⟩ := inner_at hd' ho'
    subst e1 e2
    exact ⟨rfl, fun _ => vMethQ_of m_var noM_needs ⟨_, rfl, rfl⟩ (p.in_depth hr hd) (Nat.le_trans (Pt.in_size hr) ho) rfl⟩
  · rw [List.length_map]; exact Nat.lt_of_le_of_lt p.inner_len (by decide)
  · refine vMeth_of (p := p) m_var noM_own ⟨_, rfl, rfl⟩ hd ⟨(show 1 ≤ sizeLine by decide), ?_⟩
    have e : (p.inner.map fun q => some (strsD q.needs)).filterMap id ++ [strsD p.own] = (p.inner.map Pt.needs ++ [p.own]).map strsD := by
      rw [List.filterMap_map, filterMap_some, List.map_append, List.map_map]
      rfl
    refine ⟨?_, p.inner.map Pt.needs ++ [p.own], ?_, ?_, fun a => ?_⟩
    · show ((p.inner.map fun q => some (strsD q.needs)).filterMap id).length + 1 ≤ sizeLine
      rw [List.filterMap_map, filterMap_some, List.length_map]
      exact Nat.le_trans (Nat.add_le_add_right p.inner_len 1) (by decide)
    · exact congrArg (fun z => [D.lst z]) e
    · exact Nat.lt_of_le_of_lt p.sum_needs (Nat.lt_of_le_of_lt ho (by decide))
    · rw [← Pt.needs_inner p (hB p hc)]; exact q a
end
end K03

set_option maxHeartbeats 4000000
namespace K03
open PySem PySem.Spec PyProof.Rows L2 DC
structure GI (mg : Str → Option Value) (x : Str) (i : Int) : Prop where
  ex : ∃ t, mg x = some (.int i t)
def sdNum : SpD := fun ds Q => ∃ i : Int, ds = [.int i] ∧ Q (.bl (decide (-128 ≤ i) && decide (i ≤ 127)))
def sdVal : SpD := fun ds Q => (∃ i : Int, ds = [.int i] ∧ Q (.bl (decide (-128 ≤ i) && decide (i ≤ 127)))) ∨ ∃ b, ds = [.bl b] ∧ Q (.bl true)
theorem noM_bounds : noM "need_bounds" := by unfold noM; decide +kernel
def okB (p : Pt) : Prop := p.depth ≤ 10 ∧ p.size ≤ 40
section
seal wpAny
variable {P : Program} {w : World} {K : PySem.W.Frag} {mg : Str → Option Value} {base : Heap} {A : Adr} {n j : Nat}
theorem c_is_number (d : Df K mg "is_number" s_is_number ["thing"]) (n_isinstance : mg "isinstance" = none) (n_bool : mg "bool" = none) (n_int : mg "int" = none) (g1 : GI mg "LOWEST" (-128)) (g2 : GI mg "HIGHEST" 127) : Cal P w K mg base (j + 1) "is_number" ["thing"] sdNum := by
  obtain ⟨t1, q_LOWEST⟩ := g1.ex
  obtain ⟨t2, q_HIGHEST⟩ := g2.ex
  have r_LOWEST : RelV (.int (-128)) (.int (-128) t1) := ⟨_, rfl⟩
  have r_HIGHEST : RelV (.int 127) (.int 127 t2) := ⟨_, rfl⟩
  have v_LOWEST : ∀ H, Dv K H (.int (-128)) (.int (-128)) := fun _ => .int _
  have v_HIGHEST : ∀ H, Dv K H (.int 127) (.int 127) := fun _ => .int _
  refine d.cal sc_is_number (fun ds P P' g ⟨i, e, q⟩ => ⟨i, e, g _ q⟩) (fun ds Q ⟨d, e, _⟩ => by rw [e]; rfl) (fun f cdv A outer s H E hr => have hu := hr.units; have hh := hr.hd; have sc := sc_is_number
    (ss_cons (s_if (PWd.td (w_or (t_tru (isi_bool (by rfl) n_isinstance (by rfl) n_bool (dv 0))) (w_or1 (t_not (t_tru (isi_int (by rfl) n_isinstance (by rfl) n_int (dv 0))))))) (ss_one (s_ret d_bl)) ss_nil)
  (ss_one (s_ret (d_lele (d_glob (by rfl) q_LOWEST r_LOWEST v_LOWEST) (dv 0) (d_glob (by rfl) q_HIGHEST r_HIGHEST v_HIGHEST)))))) ?_
  rintro ds Q ⟨i, rfl, q⟩
  refine ⟨_, rfl, false, rfl, _, rfl, iteF ⟨_, rfl, true, rfl, _, rfl, iteF ⟨_, rfl, _, rfl, ?_⟩⟩⟩
  by_cases h : (-128 : Int) ≤ i
  · rw [decide_eq_true h] at q ⊢
    exact iteT q
  · rw [decide_eq_false h] at q ⊢
    exact iteF q
theorem c_is_value (d : Df K mg "is_value" s_is_value ["thing"]) (n_isinstance : mg "isinstance" = none) (n_bool : mg "bool" = none) (c_is_number : Cal P w K mg base j "is_number" ["thing"] sdNum) : Cal P w K mg base (j + 1) "is_value" ["thing"] sdVal := by
  refine d.cal sc_is_value (fun ds P P' g h => h.elim (fun ⟨i, e, q⟩ => .inl ⟨i, e, g _ q⟩) fun ⟨i, e, q⟩ => .inr ⟨i, e, g _ q⟩) (fun ds Q h => h.elim (fun ⟨d, e, _⟩ => by rw [e]; rfl) fun ⟨d, e, _⟩ => by rw [e]; rfl) (fun f cdv A outer s H E hr => have hu := hr.units; have hh := hr.hd; have sc := sc_is_value
    (ss_one (s_ret (d_or (isi_bool (by rfl) n_isinstance (by rfl) n_bool (dv 0)) (d_one (d_cal c_is_number hr (by omega) (by rfl) (a_cons (dv 0) a_nil))))))) ?_
  rintro ds Q (⟨i, rfl, q⟩ | ⟨b, rfl, q⟩)
  · exact ⟨_, rfl, false, rfl, _, rfl, iteF ⟨_, rfl, i, rfl, q⟩⟩
  · exact ⟨_, rfl, true, rfl, _, rfl, iteT q⟩
theorem bounds_of (d : ∀ C, isP A C → Dm K C "need_bounds" "Part.need_bounds" s_Part_need_bounds ["self"]) (m_depth : MP P w K mg base A j "depth" n fun p => .int p.depth) (m_size : MP P w K mg base A j "size" n fun p => .int p.size) (g1 : GI mg "DEEPEST" 10) (g2 : GI mg "LARGEST" 40) :
    MQ P w K mg base A (j + 1) "need_bounds" n okB fun _ => .non := by
  obtain ⟨t1, q_DEEPEST⟩ := g1.ex
  obtain ⟨t2, q_LARGEST⟩ := g2.ex
  have r_DEEPEST : RelV (.int 10) (.int 10 t1) := ⟨_, rfl⟩
  have r_LARGEST : RelV (.int 40) (.int 40 t2) := ⟨_, rfl⟩
  have v_DEEPEST : ∀ H, Dv K H (.int 10) (.int 10) := fun _ => .int _
  have v_LARGEST : ∀ H, Dv K H (.int 40) (.int 40) := fun _ => .int _
  intro C hC
  refine (d C hC).cal sc_Part_need_bounds m_Q l_Q (fun f cdv A outer s H E hr => have hu := hr.units; have hh := hr.hd; have sc := sc_Part_need_bounds
    (ss_one (s_if (PWd.td (w_or (t_gt (d_m0 m_depth hr (by omega) (dv 0)) (d_glob (by rfl) q_DEEPEST r_DEEPEST v_DEEPEST)) (w_or1 (t_gt (d_m0 m_size hr (by omega) (dv 0)) (d_glob (by rfl) q_LARGEST r_LARGEST v_LARGEST))))) (ss_one s_never) ss_nil))) ?_
  rintro ds Q ⟨p, rfl, hc, hd, ho, q⟩
  obtain ⟨h1, h2⟩ := ho
  have e1 : decide ((10 : Int) < p.depth) = false := decide_eq_false (by omega)
  have e2 : decide ((40 : Int) < p.size) = false := decide_eq_false (by omega)
  refine vMeth_of (p := p) m_var noM_depth ⟨_, rfl, rfl⟩ hd ⟨_, rfl, ?_⟩
  show if decide ((10 : Int) < p.depth) = true then _ else _
  rw [e1]
  refine iteF (vMeth_of (p := p) m_var noM_size ⟨_, rfl, rfl⟩ hd ⟨_, rfl, ?_⟩)
  show if decide ((40 : Int) < p.size) = true then _ else _
  rw [e2]
  exact iteF q
theorem init_given (hc : Cls K A.given) (hn : NoAttr K A.given "value") (d : Di K mg "Given" A.given "Given.__init__" s_Given___init__ ["self", "value"] []) (c_is_value : Cal P w K mg base j "is_value" ["thing"] sdVal) :
    Mkr P w K mg base (j + 1) "Given" A.given (fun ds Q => ∃ v, ds = [v] ∧ isVal v ∧ Q [("value", v)]) [] := by
  refine d.mkr sc_Given___init__ (fun ds P P' g ⟨v, e, h, q⟩ => ⟨v, e, h, g _ q⟩) (fun ds Q ⟨v, e, _⟩ => by rw [e]; rfl) (fun f cdv A outer s H E hr => have hu := hr.units; have hh := hr.hd; have sc := sc_Given___init__
    (i_cons (i_free (s_if (t_not (t_tru (d_cal c_is_value hr (by omega) (by rfl) (a_cons (dv 1) a_nil)))) (ss_one s_never) ss_nil))
  (i_cons (i_setK K rfl rfl (Or.inl rfl) (dv 1))
  i_nil))) ?_
  rintro a ds Q ⟨v, rfl, hv, q⟩
  rcases hv with ⟨b, rfl⟩ | ⟨i, rfl, h1, h2⟩
  · exact ⟨_, rfl, .inr ⟨b, rfl, _, rfl, ⟨_, rfl, rfl, hc, hn, (by decide), q⟩⟩⟩
  · refine ⟨_, rfl, .inl ⟨i, rfl, true, by simp [truD, h1, h2], ⟨_, rfl, rfl, hc, hn, (by decide), q⟩⟩⟩
end
end K03

set_option maxHeartbeats 4000000
namespace K03
open PySem PySem.Spec PyProof.Rows L2 DC
def sdFirst : SpD := fun ds Q => ∃ f, ds = [f] ∧ isFirst f ∧ Q .non
theorem putD_len (f : Str) (d : D) : ∀ gs : FD, (putD f d gs).length ≤ gs.length + 1
  | [] => Nat.le_refl _
  | (g, e) :: r => by
    unfold putD
    split
    · exact Nat.le_succ _
    · exact Nat.succ_le_succ (putD_len f d r)
theorem pl0 : ([] : FD).length < 1000 := by decide
theorem pl1 {f : Str} {d : D} : (putD f d []).length < 1000 := Nat.lt_of_le_of_lt (putD_len f d []) (by decide)
theorem pl2 {f g : Str} {d e : D} : (putD f d (putD g e [])).length < 1000 := Nat.lt_of_le_of_lt (Nat.le_trans (putD_len f d _) (Nat.succ_le_succ (putD_len g e []))) (by decide)
section
seal wpAny
variable {P : Program} {w : World} {K : PySem.W.Frag} {mg : Str → Option Value} {base : Heap} {A : Adr} {n j : Nat}
theorem init_turned (hA : AOk K A) (d : Di K mg "Turned" A.turned "Turned.__init__" s_Turned___init__ ["self", "part"] []) (m_need_bounds : MQ P w K mg base A j "need_bounds" n okB fun _ => .non) :
    Mkr P w K mg base (j + 1) "Turned" A.turned (fun ds Q => ∃ p : Pt, ds = [p.d A] ∧ (Pt.turned p).depth ≤ n ∧ okB (.turned p) ∧ Q [("part", p.d A)]) [] := by
  have hc := hA.cl A.turned (by simp)
  have hn := hA.nof A.turned (by simp)
  refine d.mkr sc_Turned___init__ (fun ds P P' g ⟨v, e, h, o, q⟩ => ⟨v, e, h, o, g _ q⟩) (fun ds Q ⟨v, e, _⟩ => by rw [e]; rfl) (fun f cdv A outer s H E hr => have hu := hr.units; have hh := hr.hd; have sc := sc_Turned___init__
    (i_cons (i_setK K rfl rfl (Or.inl rfl) (dv 1))
  (i_rest (ss_one (s_expr (d_m0 m_need_bounds hr (by omega) (dv 0))))))) ?_
  rintro a ds Q ⟨p, rfl, hd, ho, q⟩
  exact ⟨_, rfl, rfl, hc, hn _ (by decide), (by first | exact pl0 | exact pl1 | exact pl2), rfl, vMethQ_of (p := .turned p) m_var noM_bounds ⟨_, rfl, rfl⟩ hd ho q⟩
theorem init_choice (hA : AOk K A) (d : Di K mg "Choice" A.choice "Choice.__init__" s_Choice___init__ ["self", "truth", "one", "other"] []) (m_need_bounds : MQ P w K mg base A j "need_bounds" n okB fun _ => .non) :
    Mkr P w K mg base (j + 1) "Choice" A.choice (fun ds Q => ∃ t x y : Pt, ds = [t.d A, x.d A, y.d A] ∧ (Pt.choice t x y).depth ≤ n ∧ okB (.choice t x y) ∧ Q [("truth", t.d A), ("one", x.d A), ("other", y.d A)]) [] := by
  have hc := hA.cl A.choice (by simp)
  have hn := hA.nof A.choice (by simp)
  refine d.mkr sc_Choice___init__ (fun ds P P' g ⟨t, v, u, e, h, o, q⟩ => ⟨t, v, u, e, h, o, g _ q⟩) (fun ds Q ⟨t, v, u, e, _⟩ => by rw [e]; rfl) (fun f cdv A outer s H E hr => have hu := hr.units; have hh := hr.hd; have sc := sc_Choice___init__
    (i_cons (i_setK K rfl rfl (Or.inl rfl) (dv 1))
  (i_cons (i_setK K rfl rfl (Or.inl rfl) (dv 2))
  (i_cons (i_setK K rfl rfl (Or.inl rfl) (dv 3))
  (i_rest (ss_one (s_expr (d_m0 m_need_bounds hr (by omega) (dv 0))))))))) ?_
  rintro a ds Q ⟨t, x, y, rfl, hd, ho, q⟩
  exact ⟨_, rfl, rfl, hc, hn _ (by decide), (by first | exact pl0 | exact pl1 | exact pl2), _, rfl, rfl, hc, hn _ (by decide), (by first | exact pl0 | exact pl1 | exact pl2), _, rfl, rfl, hc, hn _ (by decide), (by first | exact pl0 | exact pl1 | exact pl2), rfl, vMethQ_of (p := .choice t x y) m_var noM_bounds ⟨_, rfl, rfl⟩ hd ho q⟩
theorem init_led (hA : AOk K A) (d : Di K mg "Led" A.led "Led.__init__" s_Led___init__ ["self", "head", "rest"] []) (m_need_bounds : MQ P w K mg base A j "need_bounds" n okB fun _ => .non) :
    Mkr P w K mg base (j + 1) "Led" A.led (fun ds Q => ∃ x y : Pt, ds = [x.d A, y.d A] ∧ (Pt.led x y).depth ≤ n ∧ okB (.led x y) ∧ Q [("head", x.d A), ("rest", y.d A)]) [] := by
  have hc := hA.cl A.led (by simp)
  have hn := hA.nof A.led (by simp)
  refine d.mkr sc_Led___init__ (fun ds P P' g ⟨v, u, e, h, o, q⟩ => ⟨v, u, e, h, o, g _ q⟩) (fun ds Q ⟨v, u, e, _⟩ => by rw [e]; rfl) (fun f cdv A outer s H E hr => have hu := hr.units; have hh := hr.hd; have sc := sc_Led___init__
    (i_cons (i_setK K rfl rfl (Or.inl rfl) (dv 1))
  (i_cons (i_setK K rfl rfl (Or.inl rfl) (dv 2))
  (i_rest (ss_one (s_expr (d_m0 m_need_bounds hr (by omega) (dv 0)))))))) ?_
  rintro a ds Q ⟨x, y, rfl, hd, ho, q⟩
  exact ⟨_, rfl, rfl, hc, hn _ (by decide), (by first | exact pl0 | exact pl1 | exact pl2), _, rfl, rfl, hc, hn _ (by decide), (by first | exact pl0 | exact pl1 | exact pl2), rfl, vMethQ_of (p := .led x y) m_var noM_bounds ⟨_, rfl, rfl⟩ hd ho q⟩
theorem c_need_first (d : Df K mg "need_first" s_need_first ["first"]) (c_is_value : Cal P w K mg base j "is_value" ["thing"] sdVal) : Cal P w K mg base (j + 1) "need_first" ["first"] sdFirst := by
  refine d.cal sc_need_first (fun ds P P' g ⟨f, e, h, q⟩ => ⟨f, e, h, g _ q⟩) (fun ds Q ⟨f, e, _⟩ => by rw [e]; rfl) (fun f cdv A outer s H E hr => have hu := hr.units; have hh := hr.hd; have sc := sc_need_first
    (ss_one (s_if (PWd.td (w_and (t_isnot (dv 0) d_non) (w_and1 (t_not (t_tru (d_cal c_is_value hr (by omega) (by rfl) (a_cons (dv 0) a_nil))))))) (ss_one s_never) ss_nil))) ?_
  rintro ds Q ⟨f, rfl, hf, q⟩
  rcases hf with rfl | ⟨b, rfl⟩ | ⟨i, rfl, h1, h2⟩
  · exact ⟨_, rfl, _, rfl, q⟩
  · exact ⟨_, rfl, _, rfl, _, rfl, .inr ⟨b, rfl, _, rfl, q⟩⟩
  · exact ⟨_, rfl, _, rfl, _, rfl, .inl ⟨i, rfl, true, by simp [truD, h1, h2], q⟩⟩
theorem init_before (hA : AOk K A) (d : Di K mg "Before" A.before "Before.__init__" s_Before___init__ ["self", "part", "first"] []) (c_need_first : Cal P w K mg base j "need_first" ["first"] sdFirst) (m_need_bounds : MQ P w K mg base A j "need_bounds" n okB fun _ => .non) :
    Mkr P w K mg base (j + 1) "Before" A.before (fun ds Q => ∃ (p : Pt) (f : D), ds = [p.d A, f] ∧ isFirst f ∧ (Pt.before p f).depth ≤ n ∧ okB (.before p f) ∧ Q [("part", p.d A), ("first", f)]) [] := by
  have hc := hA.cl A.before (by simp)
  have hn := hA.nof A.before (by simp)
  refine d.mkr sc_Before___init__ (fun ds P P' g ⟨v, u, e, k, h, o, q⟩ => ⟨v, u, e, k, h, o, g _ q⟩) (fun ds Q ⟨v, u, e, _⟩ => by rw [e]; rfl) (fun f cdv A outer s H E hr => have hu := hr.units; have hh := hr.hd; have sc := sc_Before___init__
    (i_cons (i_free (s_expr (d_cal c_need_first hr (by omega) (by rfl) (a_cons (dv 2) a_nil))))
  (i_cons (i_setK K rfl rfl (Or.inl rfl) (dv 1))
  (i_cons (i_setK K rfl rfl (Or.inl rfl) (dv 2))
  (i_rest (ss_one (s_expr (d_m0 m_need_bounds hr (by omega) (dv 0))))))))) ?_
  rintro a ds Q ⟨p, f, rfl, hf, hd, ho, q⟩
  exact ⟨_, rfl, _, rfl, hf, _, rfl, rfl, hc, hn _ (by decide), (by first | exact pl0 | exact pl1 | exact pl2), _, rfl, rfl, hc, hn _ (by decide), (by first | exact pl0 | exact pl1 | exact pl2), rfl, vMethQ_of (p := .before p f) m_var noM_bounds ⟨_, rfl, rfl⟩ hd ho q⟩
end
end K03

set_option maxHeartbeats 4000000
namespace K03
open PySem PySem.Spec PyProof.Rows L2 DC
section
seal wpAny
variable {P : Program} {w : World} {K : PySem.W.Frag} {mg : Str → Option Value} {base : Heap} {A : Adr} {n j : Nat}
theorem needs_before (hA : AOk K A) (d : Dm K A.before "needs" "Before.needs" s_Before_needs ["self"]) : McalF P w K mg base (j + 1) A.before "needs" (sdNF A n okN Pt.needs A.before) := by
  refine d.calF sc_Before_needs m_NF (fun ds Q ⟨p, e, _⟩ => by rw [e]; rfl) (fun f cdv A outer s H E hr => have hu := hr.units; have hh := hr.hd; have sc := sc_Before_needs
    (ms_one (ms_retP (f_lst a_nil)))) ?_
  rintro ds Q ⟨p, rfl, hc, hd, ho, q⟩
  obtain ⟨x, f, rfl⟩ := is_before hA hc
  exact ⟨(show 0 ≤ sizeLine by decide), fun a => q a⟩
structure DNeeds (K : PySem.W.Frag) (A : Adr) : Prop where
  part : ∀ C, isP A C → C ≠ A.before → Dm K C "needs" "Part.needs" s_Part_needs ["self"]
  before : Dm K A.before "needs" "Before.needs" s_Before_needs ["self"]
theorem needs_all (hA : AOk K A) (dI : DInner K A) (dO : DOwn K A) (c1 : CalF P w K mg base 1 "once" ["lists"] sdOnce) (d : DNeeds K A) : ∀ n, MF P w K mg base A (n + 1) "needs" n okN Pt.needs
  | 0 => fun C hC => by
    by_cases h : C = A.before
    · subst h; exact Dm.neverF d.before m_NF zero_NF
    · exact Dm.neverF (d.part C hC h) m_NF zero_NF
  | n + 1 => fun C hC => by
    by_cases h : C = A.before
    · subst h; exact needs_before hA d.before
    · refine needs_of (fun p hp => ?_) (d.part C hC h) (let ⟨f, fd, F, r⟩ := c1.ex; ⟨⟨f, fd, F.mono (show 1 ≤ n + 1 by omega), r⟩, c1.ms⟩) (inner_all hA dI _) (own_all hA dO _) (MF.q (needs_all hA dI dO c1 d n))
      cases p <;> first | rfl | exact absurd hp.symm h
end
end K03

set_option maxHeartbeats 4000000
namespace K03
open PySem PySem.Spec PyProof.Rows L2 DC
def letters : Str := "abcdefghijklmnopqrstuvwxyz"
def signs (x : Str) : List Str := x.cps.toList.map fun c => ⟨#[c]⟩
def inL (c : Str) : Bool := subStr c letters
def letB (x : Str) : Bool := decide ((0 : Int) < (x.length : Int)) && (signs x).all inL
def formB (x : Str) : Bool := decide ((x.length : Int) ≤ 8) && letB x
def keptL : List Str := ["module", "in", "out", "row", "use", "end", "number", "truth", "on", "yes", "no", "not", "and", "or", "if", "before", "then", "when", "held"]
def wordB (x : Str) : Bool := formB x && !keptL.contains x
def dot : Str := "."
def nameB (x : Str) : Bool := if decide (((Txt.split x dot).length : Int) = 1) = true then wordB x else decide (((Txt.split x dot).length : Int) ≤ 4) && (Txt.split x dot).all formB
structure GD (K : PySem.W.Frag) (mg : Str → Option Value) (x : Str) (d : D) : Prop where
  ex : ∃ v u, mg x = some u ∧ RelV v u ∧ ∀ H, Dv K H v d
def sdS (g : Str → D) : SpD := fun ds Q => ∃ x : Str, ds = [.str x] ∧ x.length ≤ 100000 ∧ Q (g x)
theorem m_S {g : Str → D} : MonoS (sdS g) := fun ds P P' f ⟨x, e, h, q⟩ => ⟨x, e, h, f _ q⟩
theorem l_S {g : Str → D} (ds : List D) (Q : D → Prop) (h : sdS g ds Q) : ds.length = 1 := by obtain ⟨x, e, _⟩ := h; rw [e]; rfl
theorem str_len {x : Str} (h : x.length ≤ 100000) : x.length ≤ sizeLine := Nat.le_trans h (by decide)
theorem castB {Q : D → Prop} {a b : Bool} (e : a = b) (q : Q (.bl a)) : Q (.bl b) := e ▸ q
theorem le_sum : ∀ {l : List Nat} {a : Nat}, a ∈ l → a ≤ l.sum
  | b :: l, a, h => by
    rw [List.sum_cons]
    rcases List.mem_cons.mp h with rfl | h
    · exact Nat.le_add_right _ _
    · exact Nat.le_trans (le_sum h) (Nat.le_add_left _ _)
def gLet : D → D
  | .str z => .bl (inL z)
  | _ => .non
def gForm : D → D
  | .str z => .bl (formB z)
  | _ => .non
section
seal wpAny
variable {P : Program} {w : World} {K : PySem.W.Frag} {mg : Str → Option Value} {base : Heap} {A : Adr} {n j : Nat}
theorem c_has_letters (d : Df K mg "has_letters" s_has_letters ["text"]) (n_len : mg "len" = none) (n_all : mg "all" = none) (gl : GD K mg "LETTERS" (.str letters)) : Cal P w K mg base (j + 1) "has_letters" ["text"] (sdS fun x => .bl (letB x)) := by
  obtain ⟨y_LETTERS, u_LETTERS, q_LETTERS, r_LETTERS, v_LETTERS⟩ := gl.ex
  refine d.cal sc_has_letters m_S l_S (fun f cdv A outer s H E hr => have hu := hr.units; have hh := hr.hd; have sc := sc_has_letters
    (ss_one (s_ret (d_and (d_gt (d_len (by rfl) n_len (a_cons (dv 0) a_nil)) d_int) (d_one (d_all hh (by rfl) n_all (a_cons (d_lc (x := "sign") (caps := []) (cn := []) (cl := []) (comp0 (by rfl) (by rfl) (by decide +kernel) (by decide +kernel) (by decide +kernel)) rfl (i_any (dv 0)) (fun C fp s₂ H₂ => pg_name (i := 0) (show (["sign"] : List Str).Nodup by decide +kernel) rfl (Or.inl rfl) (.inr rfl)) (fun C fp s₂ H₂ => ts_nil) (fun C fp s₂ H₂ => (d_in (dv 0) (d_glob (by rfl) q_LETTERS r_LETTERS v_LETTERS) (by rfl)))) a_nil))))))) ?_
  rintro ds Q ⟨x, rfl, hx, q⟩
  refine ⟨_, rfl, _, _, rfl, if_pos (str_len hx), _, rfl, ?_⟩
  cases h : decide ((0 : Int) < (x.length : Int)) with
  | false =>
    have e : letB x = false := by unfold letB; rw [h]; rfl
    exact iteF (castB e q)
  | true =>
    have e : letB x = ((signs x).map inL).all id := by unfold letB; rw [h, List.all_map]; rfl
    refine iteT ⟨_, rfl, _, rfl, mO gLet (x.cps.toList.map fun c => .str ⟨#[c]⟩), mO_len, fun i d o h1 h2 => ?_, ?_, ?_⟩
    · obtain ⟨hd, rfl⟩ := mO_at h1 h2
      obtain ⟨c, _, rfl⟩ := List.mem_map.mp hd
      exact ⟨rfl, fun _ => ⟨_, rfl, _, rfl, rfl⟩⟩
    · rw [List.length_map, Array.length_toList]
      exact Nat.lt_of_le_of_lt hx (by decide)
    · rw [mO_out]
      refine ⟨(signs x).map inL, ?_, castB e q⟩
      unfold signs
      rw [List.map_map, List.map_map, List.map_map]
      rfl
theorem c_has_word_form (d : Df K mg "has_word_form" s_has_word_form ["text"]) (n_len : mg "len" = none) (g : GI mg "LONGEST_WORD" 8) (c_has_letters : Cal P w K mg base j "has_letters" ["text"] (sdS fun x => .bl (letB x))) :
    Cal P w K mg base (j + 1) "has_word_form" ["text"] (sdS fun x => .bl (formB x)) := by
  obtain ⟨t1, q_LONGEST_WORD⟩ := g.ex
  have r_LONGEST_WORD : RelV (.int 8) (.int 8 t1) := ⟨_, rfl⟩
  have v_LONGEST_WORD : ∀ H, Dv K H (.int 8) (.int 8) := fun _ => .int _
  refine d.cal sc_has_word_form m_S l_S (fun f cdv A outer s H E hr => have hu := hr.units; have hh := hr.hd; have sc := sc_has_word_form
    (ss_one (s_ret (d_and (d_le (d_len (by rfl) n_len (a_cons (dv 0) a_nil)) (d_glob (by rfl) q_LONGEST_WORD r_LONGEST_WORD v_LONGEST_WORD)) (d_one (d_cal c_has_letters hr (by omega) (by rfl) (a_cons (dv 0) a_nil))))))) ?_
  rintro ds Q ⟨x, rfl, hx, q⟩
  refine ⟨_, rfl, _, _, rfl, if_pos (str_len hx), _, rfl, ?_⟩
  cases h : decide ((x.length : Int) ≤ 8) with
  | false =>
    have e : formB x = false := by unfold formB; rw [h]; rfl
    exact iteF (castB e q)
  | true =>
    have e : formB x = letB x := by unfold formB; rw [h]; rfl
    exact iteT ⟨_, rfl, x, rfl, hx, castB e q⟩
theorem c_is_word (d : Df K mg "is_word" s_is_word ["thing"]) (gk : GD K mg "KEPT_WORDS" (.tup (keptL.map D.str))) (c_has_word_form : Cal P w K mg base j "has_word_form" ["text"] (sdS fun x => .bl (formB x))) :
    Cal P w K mg base (j + 1) "is_word" ["thing"] (sdS fun x => .bl (wordB x)) := by
  obtain ⟨y_KEPT_WORDS, u_KEPT_WORDS, q_KEPT_WORDS, r_KEPT_WORDS, v_KEPT_WORDS⟩ := gk.ex
  refine d.cal sc_is_word m_S l_S (fun f cdv A outer s H E hr => have hu := hr.units; have hh := hr.hd; have sc := sc_is_word
    (ss_one (s_ret (d_and (d_cal c_has_word_form hr (by omega) (by rfl) (a_cons (dv 0) a_nil)) (d_one (d_notin (dv 0) (d_glob (by rfl) q_KEPT_WORDS r_KEPT_WORDS v_KEPT_WORDS) (by rfl))))))) ?_
  rintro ds Q ⟨x, rfl, hx, q⟩
  refine ⟨_, rfl, x, rfl, hx, _, rfl, ?_⟩
  cases h : formB x with
  | false =>
    have e : wordB x = false := by unfold wordB; rw [h]; rfl
    exact iteF (castB e q)
  | true =>
    have e : wordB x = !inD (.str x) (keptL.map D.str) := by unfold wordB; rw [h, in_strs]; rfl
    exact iteT ⟨_, rfl, rfl, flat_strs _, castB e q⟩
theorem c_is_name (d : Df K mg "is_name" s_is_name ["thing"]) (n_len : mg "len" = none) (n_all : mg "all" = none) (g : GI mg "MOST_WORDS" 4) (c_is_word : Cal P w K mg base j "is_word" ["thing"] (sdS fun x => .bl (wordB x)))
    (c_has_word_form : Cal P w K mg base j "has_word_form" ["text"] (sdS fun x => .bl (formB x))) : Cal P w K mg base (j + 1) "is_name" ["thing"] (sdS fun x => .bl (nameB x)) := by
  obtain ⟨t1, q_MOST_WORDS⟩ := g.ex
  have r_MOST_WORDS : RelV (.int 4) (.int 4 t1) := ⟨_, rfl⟩
  have v_MOST_WORDS : ∀ H, Dv K H (.int 4) (.int 4) := fun _ => .int _
  refine d.cal sc_is_name m_S l_S (fun f cdv A outer s H E hr => have hu := hr.units; have hh := hr.hd; have sc := sc_is_name
    (ss_cons (s_set (i := 1) sc.nd rfl (Or.inl rfl) (d_split (dv 0) (a_cons d_str a_nil)))
  (ss_cons (s_if (t_eq hu (d_len (by rfl) n_len (a_cons (dv 1) a_nil)) d_int) (ss_one (s_ret (d_cal c_is_word hr (by omega) (by rfl) (a_cons (dv 0) a_nil)))) ss_nil)
  (ss_one (s_ret (d_and (d_le (d_len (by rfl) n_len (a_cons (dv 1) a_nil)) (d_glob (by rfl) q_MOST_WORDS r_MOST_WORDS v_MOST_WORDS)) (d_one (d_all hh (by rfl) n_all (a_cons (d_lc (x := "word") (caps := []) (cn := []) (cl := []) (comp0 (by rfl) (by rfl) (by decide +kernel) (by decide +kernel) (by decide +kernel)) rfl (i_any (dv 1)) (fun C fp s₂ H₂ => pg_name (i := 0) (show (["word"] : List Str).Nodup by decide +kernel) rfl (Or.inl rfl) (.inr rfl)) (fun C fp s₂ H₂ => ts_nil) (fun C fp s₂ H₂ => (d_cal c_has_word_form hr (by omega) (by rfl) (a_cons (dv 0) a_nil)))) a_nil))))))))) ?_
  rintro ds Q ⟨x, rfl, hx, q⟩
  have hs := split_le x dot
  refine ⟨_, rfl, ⟨x, rfl⟩, x, dot, rfl, rfl, rfl, Nat.le_trans (Nat.add_le_add_right hx 2) (by decide), ?_⟩
  refine ⟨_, rfl, _, _, rfl, rfl, _, rfl, ?_⟩
  show if decide ((((Txt.split x dot).map D.str).length : Int) = 1) = true then _ else _
  rw [List.length_map]
  cases h : decide (((Txt.split x dot).length : Int) = 1) with
  | true =>
    have e : nameB x = wordB x := by unfold nameB; rw [h]; rfl
    exact iteT ⟨_, rfl, x, rfl, hx, castB e q⟩
  | false =>
    refine iteF ⟨_, rfl, _, _, rfl, rfl, _, rfl, ?_⟩
    show if decide ((((Txt.split x dot).map D.str).length : Int) ≤ 4) = true then _ else _
    rw [List.length_map]
    cases h2 : decide (((Txt.split x dot).length : Int) ≤ 4) with
    | false =>
      have e : nameB x = false := by unfold nameB; rw [h, h2]; rfl
      exact iteF (castB e q)
    | true =>
      have e : nameB x = ((Txt.split x dot).map formB).all id := by unfold nameB; rw [h, h2, List.all_map]; rfl
      refine iteT ⟨_, rfl, _, rfl, mO gForm ((Txt.split x dot).map D.str), mO_len, fun i d o h1 h2 => ?_, ?_, ?_⟩
      · obtain ⟨hd, rfl⟩ := mO_at h1 h2
        obtain ⟨c, hc, rfl⟩ := List.mem_map.mp hd
        refine ⟨rfl, fun _ => ⟨_, rfl, c, rfl, ?_, rfl⟩⟩
        have hw := split_weight x dot (by decide)
        have hc2 : c.length ∈ (Txt.split x dot).map (·.length) := List.mem_map.mpr ⟨c, hc, rfl⟩
        have := le_sum hc2
        have hp := split_pos x dot
        omega
      · rw [List.length_map]
        exact Nat.lt_of_le_of_lt hs (Nat.lt_of_le_of_lt (Nat.add_le_add_right hx 2) (by decide))
      · rw [mO_out]
        refine ⟨(Txt.split x dot).map formB, ?_, castB e q⟩
        rw [List.map_map, List.map_map]
        rfl
def sdNm : SpD := fun ds Q => ∃ x : Str, ds = [.str x] ∧ x.length ≤ 100000 ∧ nameB x = true ∧ Q .non
theorem c_need_name (d : Df K mg "need_name" s_need_name ["name"]) (c_is_name : Cal P w K mg base j "is_name" ["thing"] (sdS fun x => .bl (nameB x))) : Cal P w K mg base (j + 1) "need_name" ["name"] sdNm := by
  refine d.cal sc_need_name (fun ds P P' f ⟨x, e, h, z, q⟩ => ⟨x, e, h, z, f _ q⟩) (fun ds Q ⟨x, e, _⟩ => by rw [e]; rfl) (fun f cdv A outer s H E hr => have hu := hr.units; have hh := hr.hd; have sc := sc_need_name
    (ss_one (s_if (t_not (t_tru (d_cal c_is_name hr (by omega) (by rfl) (a_cons (dv 0) a_nil)))) (ss_one s_never) ss_nil))) ?_
  rintro ds Q ⟨x, rfl, hx, hn, q⟩
  exact ⟨_, rfl, x, rfl, hx, true, congrArg some hn, iteF q⟩
end
end K03

set_option maxHeartbeats 4000000
namespace K03
open PySem PySem.Spec PyProof.Rows L2 DC
def nn : D := .tup [.str "number", .str "number"]
def nt : D := .tup [.str "number", .str "truth"]
def tt : D := .tup [.str "truth", .str "truth"]
def signsT : List (Str × D) := [("+", nn), ("-", nn), ("*", nn), ("=", .tup [.non, .str "truth"]), ("<", nt), ("<=", nt), ("and", tt), ("or", tt)]
def signL : List Str := ["+", "-", "*", "=", "<", "<=", "and", "or"]
theorem sign_in {g : Str} (h : g ∈ signL) : (if true = true then !signsT.any fun p => p.1 == g else signsT.any fun p => p.1 == g) = false := by
  simp only [signL, List.mem_cons, List.not_mem_nil, or_false] at h
  rcases h with rfl | rfl | rfl | rfl | rfl | rfl | rfl | rfl <;> decide +kernel
def okNm (x : Str) : Prop := nameB x = true ∧ x.length ≤ 100 ∧ PyData.strOk x = true
section
seal wpAny
variable {P : Program} {w : World} {K : PySem.W.Frag} {mg : Str → Option Value} {base : Heap} {A : Adr} {n j : Nat}
theorem init_named (hA : AOk K A) (d : Di K mg "Named" A.named "Named.__init__" s_Named___init__ ["self", "name"] []) (c_need_name : Cal P w K mg base j "need_name" ["name"] sdNm) :
    Mkr P w K mg base (j + 1) "Named" A.named (fun ds Q => ∃ x : Str, ds = [.str x] ∧ okNm x ∧ Q [("name", .str x)]) [] := by
  have hc := hA.cl A.named (by simp)
  have hn := hA.nof A.named (by simp)
  refine d.mkr sc_Named___init__ (fun ds P P' g ⟨v, e, h, q⟩ => ⟨v, e, h, g _ q⟩) (fun ds Q ⟨v, e, _⟩ => by rw [e]; rfl) (fun f cdv A outer s H E hr => have hu := hr.units; have hh := hr.hd; have sc := sc_Named___init__
    (i_cons (i_free (s_expr (d_cal c_need_name hr (by omega) (by rfl) (a_cons (dv 1) a_nil))))
  (i_cons (i_setK K rfl rfl (Or.inl rfl) (dv 1))
  i_nil))) ?_
  rintro a ds Q ⟨x, rfl, ⟨h1, h2, h3⟩, q⟩
  exact ⟨_, rfl, x, rfl, Nat.le_trans h2 (by decide), h1, _, rfl, rfl, hc, hn _ (by decide), (by first | exact pl0 | exact pl1 | exact pl2), q⟩
theorem init_when (hA : AOk K A) (d : Di K mg "When" A.whn "When.__init__" s_When___init__ ["self", "part", "name"] []) (c_need_name : Cal P w K mg base j "need_name" ["name"] sdNm) (m_need_bounds : MQ P w K mg base A j "need_bounds" n okB fun _ => .non) :
    Mkr P w K mg base (j + 1) "When" A.whn (fun ds Q => ∃ (p : Pt) (x : Str), ds = [p.d A, .str x] ∧ okNm x ∧ (Pt.whn p x).depth ≤ n ∧ okB (.whn p x) ∧ Q [("part", p.d A), ("name", .str x)]) [] := by
  have hc := hA.cl A.whn (by simp)
  have hn := hA.nof A.whn (by simp)
  refine d.mkr sc_When___init__ (fun ds P P' g ⟨v, u, e, k, h, o, q⟩ => ⟨v, u, e, k, h, o, g _ q⟩) (fun ds Q ⟨v, u, e, _⟩ => by rw [e]; rfl) (fun f cdv A outer s H E hr => have hu := hr.units; have hh := hr.hd; have sc := sc_When___init__
    (i_cons (i_free (s_expr (d_cal c_need_name hr (by omega) (by rfl) (a_cons (dv 2) a_nil))))
  (i_cons (i_setK K rfl rfl (Or.inl rfl) (dv 1))
  (i_cons (i_setK K rfl rfl (Or.inl rfl) (dv 2))
  (i_rest (ss_one (s_expr (d_m0 m_need_bounds hr (by omega) (dv 0))))))))) ?_
  rintro a ds Q ⟨p, x, rfl, ⟨h1, h2, h3⟩, hd, ho, q⟩
  exact ⟨_, rfl, x, rfl, Nat.le_trans h2 (by decide), h1, _, rfl, rfl, hc, hn _ (by decide), (by first | exact pl0 | exact pl1 | exact pl2), _, rfl, rfl, hc, hn _ (by decide), (by first | exact pl0 | exact pl1 | exact pl2), rfl, vMethQ_of (p := .whn p x) m_var noM_bounds ⟨_, rfl, rfl⟩ hd ho q⟩
theorem init_held (hA : AOk K A) (d : Di K mg "Held" A.held "Held.__init__" s_Held___init__ ["self", "part", "name", "first"] []) (c_need_name : Cal P w K mg base j "need_name" ["name"] sdNm) (c_need_first : Cal P w K mg base j "need_first" ["first"] sdFirst)
    (m_need_bounds : MQ P w K mg base A j "need_bounds" n okB fun _ => .non) :
    Mkr P w K mg base (j + 1) "Held" A.held (fun ds Q => ∃ (p : Pt) (x : Str) (f : D), ds = [p.d A, .str x, f] ∧ okNm x ∧ isFirst f ∧ (Pt.held p x f).depth ≤ n ∧ okB (.held p x f) ∧ Q [("part", p.d A), ("name", .str x), ("first", f)]) [] := by
  have hc := hA.cl A.held (by simp)
  have hn := hA.nof A.held (by simp)
  refine d.mkr sc_Held___init__ (fun ds P P' g ⟨v, u, f, e, k, l, h, o, q⟩ => ⟨v, u, f, e, k, l, h, o, g _ q⟩) (fun ds Q ⟨v, u, f, e, _⟩ => by rw [e]; rfl) (fun f cdv A outer s H E hr => have hu := hr.units; have hh := hr.hd; have sc := sc_Held___init__
    (i_cons (i_free (s_expr (d_cal c_need_name hr (by omega) (by rfl) (a_cons (dv 2) a_nil))))
  (i_cons (i_free (s_expr (d_cal c_need_first hr (by omega) (by rfl) (a_cons (dv 3) a_nil))))
  (i_cons (i_setK K rfl rfl (Or.inl rfl) (dv 1))
  (i_cons (i_setK K rfl rfl (Or.inl rfl) (dv 2))
  (i_cons (i_setK K rfl rfl (Or.inl rfl) (dv 3))
  (i_rest (ss_one (s_expr (d_m0 m_need_bounds hr (by omega) (dv 0))))))))))) ?_
  rintro a ds Q ⟨p, x, f, rfl, ⟨h1, h2, h3⟩, hf, hd, ho, q⟩
  exact ⟨_, rfl, x, rfl, Nat.le_trans h2 (by decide), h1, _, rfl, _, rfl, hf, _, rfl, rfl, hc, hn _ (by decide), (by first | exact pl0 | exact pl1 | exact pl2), _, rfl, rfl, hc, hn _ (by decide), (by first | exact pl0 | exact pl1 | exact pl2), _, rfl, rfl, hc, hn _ (by decide), (by first | exact pl0 | exact pl1 | exact pl2), rfl, vMethQ_of (p := .held p x f) m_var noM_bounds ⟨_, rfl, rfl⟩ hd ho q⟩
theorem init_pair {sa : Addr} (hA : AOk K A) (d : Di K mg "Pair" A.pair "Pair.__init__" s_Pair___init__ ["self", "sign", "one", "other"] []) (kd_SIGNS : KTd w K mg "SIGNS" sa signsT) (m_need_bounds : MQ P w K mg base A j "need_bounds" n okB fun _ => .non) :
    Mkr P w K mg base (j + 1) "Pair" A.pair (fun ds Q => ∃ (g : Str) (x y : Pt), ds = [.str g, x.d A, y.d A] ∧ g ∈ signL ∧ (Pt.pair g x y).depth ≤ n ∧ okB (.pair g x y) ∧ Q [("sign", .str g), ("one", x.d A), ("other", y.d A)]) [] := by
  have hc := hA.cl A.pair (by simp)
  have hn := hA.nof A.pair (by simp)
  refine d.mkr sc_Pair___init__ (fun ds P P' g ⟨v, u, f, e, k, h, o, q⟩ => ⟨v, u, f, e, k, h, o, g _ q⟩) (fun ds Q ⟨v, u, f, e, _⟩ => by rw [e]; rfl) (fun f cdv A outer s H E hr => have hu := hr.units; have hh := hr.hd; have sc := sc_Pair___init__
    (i_cons (i_free (s_if (t_notinK kd_SIGNS (by rfl) (dv 1)) (ss_one s_never) ss_nil))
  (i_cons (i_setK K rfl rfl (Or.inl rfl) (dv 1))
  (i_cons (i_setK K rfl rfl (Or.inl rfl) (dv 2))
  (i_cons (i_setK K rfl rfl (Or.inl rfl) (dv 3))
  (i_rest (ss_one (s_expr (d_m0 m_need_bounds hr (by omega) (dv 0)))))))))) ?_
  rintro a ds Q ⟨g, x, y, rfl, hg, hd, ho, q⟩
  exact ⟨_, rfl, g, rfl, false, congrArg D.bl (sign_in hg), iteF ⟨_, rfl, rfl, hc, hn _ (by decide), (by first | exact pl0 | exact pl1 | exact pl2), _, rfl, rfl, hc, hn _ (by decide), (by first | exact pl0 | exact pl1 | exact pl2), _, rfl, rfl, hc, hn _ (by decide), (by first | exact pl0 | exact pl1 | exact pl2), rfl, vMethQ_of (p := .pair g x y) m_var noM_bounds ⟨_, rfl, rfl⟩ hd ho q⟩⟩
end
end K03

set_option maxHeartbeats 4000000
namespace K03
open PySem PySem.Spec PyProof.Rows L2 DC
def sh (a b : Int) : D := .tup [.int a, .int b]
def shapesT : List (Str × D) := [("given", sh 2 0), ("named", sh 2 0), ("not", sh 2 1), ("if", sh 4 3), ("before", sh 3 1), ("then", sh 3 2), ("when", sh 3 1), ("held", sh 4 1)]
def Pt.ok : Pt → Prop
  | .given v => isVal v
  | .named s => okNm s
  | .turned p => p.ok
  | .pair g a b => g ∈ signL ∧ a.ok ∧ b.ok
  | .choice t a b => t.ok ∧ a.ok ∧ b.ok
  | .before p f => p.ok ∧ isFirst f
  | .led h r => h.ok ∧ r.ok
  | .whn p s => p.ok ∧ okNm s
  | .held p s f => p.ok ∧ okNm s ∧ isFirst f
def Pt.isPair : Pt → Bool
  | .pair _ _ _ => true
  | _ => false
def Pt.isPlain : Pt → Bool
  | .given _ => true | .named _ => true | .turned _ => true | .choice _ _ _ => true | _ => false
theorem Pt.ok_in {p q : Pt} (h : q ∈ p.inner) (o : p.ok) : q.ok := by
  cases p <;> simp only [Pt.inner, Pt.ok, List.mem_cons, List.not_mem_nil, or_false] at h o
  case turned => subst h; exact o
  case pair => rcases h with rfl | rfl <;> simp only [o]
  case choice => rcases h with rfl | rfl | rfl <;> simp only [o]
  case before => subst h; exact o.1
  case led => rcases h with rfl | rfl <;> simp only [o]
  case whn => subst h; exact o.1
  case held => subst h; exact o.1
def sdTd (ok : Pt → Prop) (g : Pt → D) : SpD := fun ds Q => ∃ p : Pt, ds = [p.told] ∧ ok p ∧ Q (g p)
theorem m_Td {ok : Pt → Prop} {g : Pt → D} : MonoS (sdTd ok g) := fun ds P P' f ⟨p, e, h, q⟩ => ⟨p, e, h, f _ q⟩
theorem l_Td {ok : Pt → Prop} {g : Pt → D} (ds : List D) (Q : D → Prop) (h : sdTd ok g ds Q) : ds.length = 1 := by obtain ⟨x, e, _⟩ := h; rw [e]; rfl
def sdBy (A : Adr) (n : Nat) (b : Bool) : SpD := fun ds Q => ∃ p : Pt, ds = [p.told, .lst (p.inner.map (Pt.d A))] ∧ p.isPair = false ∧ p.isPlain = b ∧ p.ok ∧ okB p ∧ p.depth ≤ n ∧ Q (p.d A)
def sdOf (A : Adr) (n : Nat) : SpD := fun ds Q => ∃ p : Pt, ds = [p.told] ∧ p.depth ≤ n ∧ p.ok ∧ okB p ∧ Q (p.d A)
theorem m_Of {A : Adr} {n : Nat} : MonoS (sdOf A n) := fun ds P P' f ⟨p, e, h, o, b, q⟩ => ⟨p, e, h, o, b, f _ q⟩
theorem m_By {A : Adr} {n : Nat} {b : Bool} : MonoS (sdBy A n b) := fun ds P P' f ⟨p, e, h, o, b, i, d, q⟩ => ⟨p, e, h, o, b, i, d, f _ q⟩
theorem no_shape {g : Str} (h : g ∈ signL) : (if false = true then !shapesT.any fun p => p.1 == g else shapesT.any fun p => p.1 == g) = false := by
  simp only [signL, List.mem_cons, List.not_mem_nil, or_false] at h
  rcases h with rfl | rfl | rfl | rfl | rfl | rfl | rfl | rfl <;> decide +kernel
section
seal wpAny
variable {P : Program} {w : World} {K : PySem.W.Frag} {mg : Str → Option Value} {base : Heap} {A : Adr} {n j : Nat}
theorem c_has_shape {sa : Addr} (d : Df K mg "has_shape" s_has_shape ["told"]) (n_len : mg "len" = none) (kd_SHAPES : KTd w K mg "SHAPES" sa shapesT) : Cal P w K mg base (j + 1) "has_shape" ["told"] (sdTd Pt.ok fun p => .bl (!p.isPair)) := by
  refine d.cal sc_has_shape m_Td l_Td (fun f cdv A outer s H E hr => have hu := hr.units; have hh := hr.hd; have sc := sc_has_shape
    (ss_one (s_ret (d_and (d_inK kd_SHAPES (by rfl) (d_ix (dv 0) d_int (fun _ _ => rfl))) (d_one (d_eq hu (d_len (by rfl) n_len (a_cons (dv 0) a_nil)) (d_ix (d_getK kd_SHAPES (by rfl) (d_ix (dv 0) d_int (fun _ _ => rfl)) (fun _ _ => rfl)) d_int (fun _ _ => rfl)))))))) ?_
  rintro ds Q ⟨p, rfl, ho, q⟩
  cases p with
  | given v => exact ⟨_, rfl, _, rfl, "given", rfl, true, congrArg D.bl (by decide +kernel), iteT ⟨_, rfl, _, _, rfl, rfl, _, rfl, _, rfl, "given", sh 2 0, rfl, (by kernel_rfl), _, rfl, q⟩⟩
  | named s => exact ⟨_, rfl, _, rfl, "named", rfl, true, congrArg D.bl (by decide +kernel), iteT ⟨_, rfl, _, _, rfl, rfl, _, rfl, _, rfl, "named", sh 2 0, rfl, (by kernel_rfl), _, rfl, q⟩⟩
  | turned x => exact ⟨_, rfl, _, rfl, "not", rfl, true, congrArg D.bl (by decide +kernel), iteT ⟨_, rfl, _, _, rfl, rfl, _, rfl, _, rfl, "not", sh 2 1, rfl, (by kernel_rfl), _, rfl, q⟩⟩
  | pair g x y => exact ⟨_, rfl, _, rfl, g, rfl, false, congrArg D.bl (no_shape ho.1), iteF q⟩
  | choice x y z => exact ⟨_, rfl, _, rfl, "if", rfl, true, congrArg D.bl (by decide +kernel), iteT ⟨_, rfl, _, _, rfl, rfl, _, rfl, _, rfl, "if", sh 4 3, rfl, (by kernel_rfl), _, rfl, q⟩⟩
  | before x f => exact ⟨_, rfl, _, rfl, "before", rfl, true, congrArg D.bl (by decide +kernel), iteT ⟨_, rfl, _, _, rfl, rfl, _, rfl, _, rfl, "before", sh 3 1, rfl, (by kernel_rfl), _, rfl, q⟩⟩
  | led x y => exact ⟨_, rfl, _, rfl, "then", rfl, true, congrArg D.bl (by decide +kernel), iteT ⟨_, rfl, _, _, rfl, rfl, _, rfl, _, rfl, "then", sh 3 2, rfl, (by kernel_rfl), _, rfl, q⟩⟩
  | whn x s => exact ⟨_, rfl, _, rfl, "when", rfl, true, congrArg D.bl (by decide +kernel), iteT ⟨_, rfl, _, _, rfl, rfl, _, rfl, _, rfl, "when", sh 3 1, rfl, (by kernel_rfl), _, rfl, q⟩⟩
  | held x s f => exact ⟨_, rfl, _, rfl, "held", rfl, true, congrArg D.bl (by decide +kernel), iteT ⟨_, rfl, _, _, rfl, rfl, _, rfl, _, rfl, "held", sh 4 1, rfl, (by kernel_rfl), _, rfl, q⟩⟩
theorem c_plain_by (d : Df K mg "plain_by" s_plain_by ["told", "inner"])
    {i : Nat} (hi : i + 1 ≤ j)
    (k_Given_1 : Mkr P w K mg base i "Given" A.given (fun ds Q => ∃ v, ds = [v] ∧ isVal v ∧ Q [("value", v)]) [])
    (k_Named_1 : Mkr P w K mg base i "Named" A.named (fun ds Q => ∃ x : Str, ds = [.str x] ∧ okNm x ∧ Q [("name", .str x)]) [])
    (k_Turned_1 : Mkr P w K mg base i "Turned" A.turned (fun ds Q => ∃ p : Pt, ds = [p.d A] ∧ (Pt.turned p).depth ≤ n ∧ okB (.turned p) ∧ Q [("part", p.d A)]) [])
    (k_Choice_3 : Mkr P w K mg base i "Choice" A.choice (fun ds Q => ∃ t x y : Pt, ds = [t.d A, x.d A, y.d A] ∧ (Pt.choice t x y).depth ≤ n ∧ okB (.choice t x y) ∧ Q [("truth", t.d A), ("one", x.d A), ("other", y.d A)]) [])
    : Cal P w K mg base (j + 1) "plain_by" ["told", "inner"] (sdBy A n true) := by
  refine d.cal sc_plain_by m_By (fun ds Q ⟨x, e, _⟩ => by rw [e]; rfl) (fun f cdv A outer s H E hr => have hu := hr.units; have hh := hr.hd; have sc := sc_plain_by
    (ss_cons (s_set (i := 2) sc.nd rfl (Or.inl rfl) (d_ix (dv 0) d_int (fun _ _ => rfl)))
  (ss_cons (s_if (t_eq hu (dv 2) d_str) (ss_one (s_ret (d_mk k_Given_1 hr (by omega) (by rfl) (a_cons (d_ix (dv 0) d_int (fun _ _ => rfl)) a_nil)))) ss_nil)
  (ss_cons (s_if (t_eq hu (dv 2) d_str) (ss_one (s_ret (d_mk k_Named_1 hr (by omega) (by rfl) (a_cons (d_ix (dv 0) d_int (fun _ _ => rfl)) a_nil)))) ss_nil)
  (ss_cons (s_if (t_eq hu (dv 2) d_str) (ss_one (s_ret (d_mk k_Turned_1 hr (by omega) (by rfl) (a_cons (d_ix (dv 1) d_int (fun _ _ => rfl)) a_nil)))) ss_nil)
  (ss_one (s_ret (d_mk k_Choice_3 hr (by omega) (by rfl) (a_cons (d_ix (dv 1) d_int (fun _ _ => rfl)) (a_cons (d_ix (dv 1) d_int (fun _ _ => rfl)) (a_cons (d_ix (dv 1) d_int (fun _ _ => rfl)) a_nil))))))))))) ?_
  rintro ds Q ⟨p, rfl, hp, hl, ho, hb, hd, q⟩
  cases p with
  | given v => exact ⟨_, rfl, _, rfl, ⟨_, rfl, true, congrArg D.bl (by decide +kernel), iteT ⟨_, rfl, _, rfl, v, rfl, ho, q⟩⟩⟩
  | named s => exact ⟨_, rfl, _, rfl, ⟨_, rfl, false, congrArg D.bl (by decide +kernel), iteF ⟨_, rfl, true, congrArg D.bl (by decide +kernel), iteT ⟨_, rfl, _, rfl, s, rfl, ho, q⟩⟩⟩⟩
  | turned x => exact ⟨_, rfl, _, rfl, ⟨_, rfl, false, congrArg D.bl (by decide +kernel), iteF ⟨_, rfl, false, congrArg D.bl (by decide +kernel), iteF ⟨_, rfl, true, congrArg D.bl (by decide +kernel), iteT ⟨_, rfl, _, rfl, x, rfl, hd, hb, q⟩⟩⟩⟩⟩
  | pair g x y => cases hp
  | choice x y z => exact ⟨_, rfl, _, rfl, ⟨_, rfl, false, congrArg D.bl (by decide +kernel), iteF ⟨_, rfl, false, congrArg D.bl (by decide +kernel), iteF ⟨_, rfl, false, congrArg D.bl (by decide +kernel), iteF ⟨_, rfl, _, rfl, _, rfl, _, rfl, _, rfl, _, rfl, x, y, z, rfl, hd, hb, q⟩⟩⟩⟩⟩
  | before x f => cases hl
  | led x y => cases hl
  | whn x s => cases hl
  | held x s f => cases hl
theorem c_timed_by (d : Df K mg "timed_by" s_timed_by ["told", "inner"])
    {i : Nat} (hi : i + 1 ≤ j)
    (k_Before_2 : Mkr P w K mg base i "Before" A.before (fun ds Q => ∃ (p : Pt) (f : D), ds = [p.d A, f] ∧ isFirst f ∧ (Pt.before p f).depth ≤ n ∧ okB (.before p f) ∧ Q [("part", p.d A), ("first", f)]) [])
    (k_Led_2 : Mkr P w K mg base i "Led" A.led (fun ds Q => ∃ x y : Pt, ds = [x.d A, y.d A] ∧ (Pt.led x y).depth ≤ n ∧ okB (.led x y) ∧ Q [("head", x.d A), ("rest", y.d A)]) [])
    (k_When_2 : Mkr P w K mg base i "When" A.whn (fun ds Q => ∃ (p : Pt) (x : Str), ds = [p.d A, .str x] ∧ okNm x ∧ (Pt.whn p x).depth ≤ n ∧ okB (.whn p x) ∧ Q [("part", p.d A), ("name", .str x)]) [])
    (k_Held_3 : Mkr P w K mg base i "Held" A.held (fun ds Q => ∃ (p : Pt) (x : Str) (f : D), ds = [p.d A, .str x, f] ∧ okNm x ∧ isFirst f ∧ (Pt.held p x f).depth ≤ n ∧ okB (.held p x f) ∧ Q [("part", p.d A), ("name", .str x), ("first", f)]) [])
    : Cal P w K mg base (j + 1) "timed_by" ["told", "inner"] (sdBy A n false) := by
  refine d.cal sc_timed_by m_By (fun ds Q ⟨x, e, _⟩ => by rw [e]; rfl) (fun f cdv A outer s H E hr => have hu := hr.units; have hh := hr.hd; have sc := sc_timed_by
    (ss_cons (s_set (i := 2) sc.nd rfl (Or.inl rfl) (d_ix (dv 0) d_int (fun _ _ => rfl)))
  (ss_cons (s_if (t_eq hu (dv 2) d_str) (ss_one (s_ret (d_mk k_Before_2 hr (by omega) (by rfl) (a_cons (d_ix (dv 1) d_int (fun _ _ => rfl)) (a_cons (d_ix (dv 0) d_int (fun _ _ => rfl)) a_nil))))) ss_nil)
  (ss_cons (s_if (t_eq hu (dv 2) d_str) (ss_one (s_ret (d_mk k_Led_2 hr (by omega) (by rfl) (a_cons (d_ix (dv 1) d_int (fun _ _ => rfl)) (a_cons (d_ix (dv 1) d_int (fun _ _ => rfl)) a_nil))))) ss_nil)
  (ss_cons (s_if (t_eq hu (dv 2) d_str) (ss_one (s_ret (d_mk k_When_2 hr (by omega) (by rfl) (a_cons (d_ix (dv 1) d_int (fun _ _ => rfl)) (a_cons (d_ix (dv 0) d_int (fun _ _ => rfl)) a_nil))))) ss_nil)
  (ss_one (s_ret (d_mk k_Held_3 hr (by omega) (by rfl) (a_cons (d_ix (dv 1) d_int (fun _ _ => rfl)) (a_cons (d_ix (dv 0) d_int (fun _ _ => rfl)) (a_cons (d_ix (dv 0) d_int (fun _ _ => rfl)) a_nil))))))))))) ?_
  rintro ds Q ⟨p, rfl, hp, hl, ho, hb, hd, q⟩
  cases p with
  | given v => cases hl
  | named s => cases hl
  | turned x => cases hl
  | pair g x y => cases hp
  | choice x y z => cases hl
  | before x f => exact ⟨_, rfl, _, rfl, ⟨_, rfl, true, congrArg D.bl (by decide +kernel), iteT ⟨_, rfl, _, rfl, _, rfl, _, rfl, x, f, rfl, ho.2, hd, hb, q⟩⟩⟩
  | led x y => exact ⟨_, rfl, _, rfl, ⟨_, rfl, false, congrArg D.bl (by decide +kernel), iteF ⟨_, rfl, true, congrArg D.bl (by decide +kernel), iteT ⟨_, rfl, _, rfl, _, rfl, _, rfl, x, y, rfl, hd, hb, q⟩⟩⟩⟩
  | whn x s => exact ⟨_, rfl, _, rfl, ⟨_, rfl, false, congrArg D.bl (by decide +kernel), iteF ⟨_, rfl, false, congrArg D.bl (by decide +kernel), iteF ⟨_, rfl, true, congrArg D.bl (by decide +kernel), iteT ⟨_, rfl, _, rfl, _, rfl, _, rfl, x, s, rfl, ho.2, hd, hb, q⟩⟩⟩⟩⟩
  | held x s f => exact ⟨_, rfl, _, rfl, ⟨_, rfl, false, congrArg D.bl (by decide +kernel), iteF ⟨_, rfl, false, congrArg D.bl (by decide +kernel), iteF ⟨_, rfl, false, congrArg D.bl (by decide +kernel), iteF ⟨_, rfl, _, rfl, _, rfl, _, rfl, _, rfl, _, rfl, x, s, f, rfl, ho.2.1, ho.2.2, hd, hb, q⟩⟩⟩⟩⟩
theorem six1 (x : D) (xs : List D) : HT.sIx (x :: xs).length 0 (some 1) = 1 := by
  rw [show (1 : Int) = ((1 : Nat) : Int) from rfl, HT.sIx_nat, List.length_cons]
  omega
theorem nwhole {x : D} {xs : List D} {R : Prop} : ¬ (HT.sIx (x :: xs).length 0 (some 1) = 0 ∧ R) := fun z => by
  rw [six1] at z
  exact absurd z.1 (by decide)
theorem of_len (p : Pt) : (p.inner.map fun q => some (q.d A)).length = (p.inner.map Pt.told).length := by simp
theorem of_each {caps : List Nat} {δ : SD} (p : Pt) (hd : p.depth ≤ n + 1) (ho : p.ok) (hb : okB p) (i : Nat) (d : D) (o : Option D) (h1 : (p.inner.map Pt.told)[i]? = some d) (h2 : (p.inner.map fun q => some (q.d A))[i]? = some o) :
    uYes (some d :: capD caps δ) fun b => b = o.isSome ∧ (b = true → vCall (sdOf A n) (aCons (vVar 0) aNil) (some d :: capD caps δ) fun y => o = some y) := by
  rw [List.getElem?_map] at h1 h2
  cases e : p.inner[i]? with
  | none => rw [e] at h1; cases h1
  | some r =>
    rw [e] at h1 h2
    cases h1
    cases h2
    have hr := List.mem_of_getElem? e
    have hs := Pt.in_size hr
    have hp := p.in_depth hr (n := p.depth - 1) (by omega)
    exact ⟨rfl, fun _ => ⟨_, rfl, r, rfl, p.in_depth hr hd, Pt.ok_in hr ho, ⟨by have := hb.1; omega, Nat.le_trans hs hb.2⟩, rfl⟩⟩
theorem of_lt (p : Pt) : (p.inner.map Pt.told).length < sizeLine := by rw [List.length_map]; exact Nat.lt_of_le_of_lt p.inner_len (by decide)
theorem of_out (p : Pt) : (p.inner.map fun q => some (q.d A)).filterMap id = p.inner.map (Pt.d A) := by rw [List.filterMap_map, filterMap_some]
theorem c_many_within {sa : Addr} (d : Df K mg "many_within" s_many_within ["told"]) (kd_SHAPES : KTd w K mg "SHAPES" sa shapesT) (c_has_shape : Cal P w K mg base j "has_shape" ["told"] (sdTd Pt.ok fun p => .bl (!p.isPair))) : Cal P w K mg base (j + 1) "many_within" ["told"] (sdTd Pt.ok fun p => .int p.inner.length) := by
  refine d.cal sc_many_within m_Td l_Td (fun f cdv A outer s H E hr => have hu := hr.units; have hh := hr.hd; have sc := sc_many_within
    (ss_one (s_ret (d_if (t_tru (d_cal c_has_shape hr (by omega) (by rfl) (a_cons (dv 0) a_nil))) (d_ix (d_getK kd_SHAPES (by rfl) (d_ix (dv 0) d_int (fun _ _ => rfl)) (fun _ _ => rfl)) d_int (fun _ _ => rfl)) d_int)))) ?_
  rintro ds Q ⟨p, rfl, ho, q⟩
  cases p with
  | given v => exact ⟨_, rfl, .given v, rfl, ho, _, rfl, iteT ⟨_, rfl, _, rfl, "given", sh 2 0, rfl, (by kernel_rfl), _, rfl, q⟩⟩
  | named s => exact ⟨_, rfl, .named s, rfl, ho, _, rfl, iteT ⟨_, rfl, _, rfl, "named", sh 2 0, rfl, (by kernel_rfl), _, rfl, q⟩⟩
  | turned x => exact ⟨_, rfl, .turned x, rfl, ho, _, rfl, iteT ⟨_, rfl, _, rfl, "not", sh 2 1, rfl, (by kernel_rfl), _, rfl, q⟩⟩
  | pair g x y => exact ⟨_, rfl, .pair g x y, rfl, ho, _, rfl, iteF q⟩
  | choice x y z => exact ⟨_, rfl, .choice x y z, rfl, ho, _, rfl, iteT ⟨_, rfl, _, rfl, "if", sh 4 3, rfl, (by kernel_rfl), _, rfl, q⟩⟩
  | before x f => exact ⟨_, rfl, .before x f, rfl, ho, _, rfl, iteT ⟨_, rfl, _, rfl, "before", sh 3 1, rfl, (by kernel_rfl), _, rfl, q⟩⟩
  | led x y => exact ⟨_, rfl, .led x y, rfl, ho, _, rfl, iteT ⟨_, rfl, _, rfl, "then", sh 3 2, rfl, (by kernel_rfl), _, rfl, q⟩⟩
  | whn x s => exact ⟨_, rfl, .whn x s, rfl, ho, _, rfl, iteT ⟨_, rfl, _, rfl, "when", sh 3 1, rfl, (by kernel_rfl), _, rfl, q⟩⟩
  | held x s f => exact ⟨_, rfl, .held x s f, rfl, ho, _, rfl, iteT ⟨_, rfl, _, rfl, "held", sh 4 1, rfl, (by kernel_rfl), _, rfl, q⟩⟩
theorem part_step {i m N : Nat} (hi : i + 1 ≤ j) (hN : n ≤ N) (d : Df K mg "part_of" s_part_of ["told"]) (c_many_within : Cal P w K mg base j "many_within" ["told"] (sdTd Pt.ok fun p => .int p.inner.length)) (c_has_shape : Cal P w K mg base j "has_shape" ["told"] (sdTd Pt.ok fun p => .bl (!p.isPair)))
    (c_part_of : Cal P w K mg base j "part_of" ["told"] (sdOf A m)) (hm : n ≤ m + 1)
    (c_plain_by : Cal P w K mg base j "plain_by" ["told", "inner"] (sdBy A N true)) (c_timed_by : Cal P w K mg base j "timed_by" ["told", "inner"] (sdBy A N false))
    (k_Pair_3 : Mkr P w K mg base i "Pair" A.pair (fun ds Q => ∃ (g : Str) (x y : Pt), ds = [.str g, x.d A, y.d A] ∧ g ∈ signL ∧ (Pt.pair g x y).depth ≤ N ∧ okB (.pair g x y) ∧ Q [("sign", .str g), ("one", x.d A), ("other", y.d A)]) [])
    : Cal P w K mg base (j + 1) "part_of" ["told"] (sdOf A n) := by
  refine d.cal sc_part_of m_Of (fun ds Q ⟨x, e, _⟩ => by rw [e]; rfl) (fun f cdv A outer s H E hr => have hu := hr.units; have hh := hr.hd; have sc := sc_part_of
    (ss_cons (s_lc (i := 1) sc.nd rfl (Or.inl rfl) (x := "one") (caps := []) (cn := []) (cl := []) (comp0 (by rfl) (by rfl) (by decide +kernel) (by decide +kernel) (by decide +kernel)) rfl (i_any (d_slice (dv 0) (o_some d_int) (o_some (d_add d_int (d_cal c_many_within hr (by omega) (by rfl) (a_cons (dv 0) a_nil)))))) (fun C fp s₂ H₂ => pg_name (i := 0) (show (["one"] : List Str).Nodup by decide +kernel) rfl (Or.inl rfl) (.inr rfl)) (fun C fp s₂ H₂ => ts_nil) (fun C fp s₂ H₂ => (d_cal c_part_of hr (by omega) (by rfl) (a_cons (dv 0) a_nil))))
  (ss_cons (s_if (t_not (t_tru (d_cal c_has_shape hr (by omega) (by rfl) (a_cons (dv 0) a_nil)))) (ss_one (s_ret (d_mk k_Pair_3 hr (by omega) (by rfl) (a_cons (d_ix (dv 0) d_int (fun _ _ => rfl)) (a_cons (d_ix (dv 1) d_int (fun _ _ => rfl)) (a_cons (d_ix (dv 1) d_int (fun _ _ => rfl)) a_nil)))))) ss_nil)
  (ss_cons (s_if (t_in (d_ix (dv 0) d_int (fun _ _ => rfl)) (d_tup (a_ck (by rfl))) (by rfl)) (ss_one (s_ret (d_cal c_plain_by hr (by omega) (by rfl) (a_cons (dv 0) (a_cons (dv 1) a_nil))))) ss_nil)
  (ss_one (s_ret (d_cal c_timed_by hr (by omega) (by rfl) (a_cons (dv 0) (a_cons (dv 1) a_nil))))))))) ?_
  rintro ds Q ⟨p, rfl, hd, ho, hb, q⟩
  have hdm : p.depth ≤ m + 1 := Nat.le_trans hd hm
  have hdN : p.depth ≤ N := Nat.le_trans hd hN
  cases p with
  | given v =>
    refine ⟨_, rfl, _, rfl, _, rfl, .given v, rfl, ho, _, rfl, nwhole, (Pt.given v).inner.map Pt.told, rfl, _, of_len (.given v), of_each (.given v) hdm ho hb, of_lt (.given v), ?_⟩
    rw [of_out]
    exact ⟨_, rfl, .given v, rfl, ho, _, rfl, iteF ⟨_, rfl, _, rfl, (by decide), rfl, (by decide), true, congrArg D.bl (by decide +kernel), iteT ⟨_, rfl, _, rfl, .given v, rfl, rfl, rfl, ho, hb, hdN, q⟩⟩⟩
  | named s =>
    refine ⟨_, rfl, _, rfl, _, rfl, .named s, rfl, ho, _, rfl, nwhole, (Pt.named s).inner.map Pt.told, rfl, _, of_len (.named s), of_each (.named s) hdm ho hb, of_lt (.named s), ?_⟩
    rw [of_out]
    exact ⟨_, rfl, .named s, rfl, ho, _, rfl, iteF ⟨_, rfl, _, rfl, (by decide), rfl, (by decide), true, congrArg D.bl (by decide +kernel), iteT ⟨_, rfl, _, rfl, .named s, rfl, rfl, rfl, ho, hb, hdN, q⟩⟩⟩
  | turned x =>
    refine ⟨_, rfl, _, rfl, _, rfl, .turned x, rfl, ho, _, rfl, nwhole, (Pt.turned x).inner.map Pt.told, rfl, _, of_len (.turned x), of_each (.turned x) hdm ho hb, of_lt (.turned x), ?_⟩
    rw [of_out]
    exact ⟨_, rfl, .turned x, rfl, ho, _, rfl, iteF ⟨_, rfl, _, rfl, (by decide), rfl, (by decide), true, congrArg D.bl (by decide +kernel), iteT ⟨_, rfl, _, rfl, .turned x, rfl, rfl, rfl, ho, hb, hdN, q⟩⟩⟩
  | pair g x y =>
    refine ⟨_, rfl, _, rfl, _, rfl, .pair g x y, rfl, ho, _, rfl, nwhole, (Pt.pair g x y).inner.map Pt.told, rfl, _, of_len (.pair g x y), of_each (.pair g x y) hdm ho hb, of_lt (.pair g x y), ?_⟩
    rw [of_out]
    exact ⟨_, rfl, .pair g x y, rfl, ho, _, rfl, iteT ⟨_, rfl, _, rfl, _, rfl, _, rfl, _, rfl, _, rfl, g, x, y, rfl, ho.1, hdN, hb, q⟩⟩
  | choice x y z =>
    refine ⟨_, rfl, _, rfl, _, rfl, .choice x y z, rfl, ho, _, rfl, nwhole, (Pt.choice x y z).inner.map Pt.told, rfl, _, of_len (.choice x y z), of_each (.choice x y z) hdm ho hb, of_lt (.choice x y z), ?_⟩
    rw [of_out]
    exact ⟨_, rfl, .choice x y z, rfl, ho, _, rfl, iteF ⟨_, rfl, _, rfl, (by decide), rfl, (by decide), true, congrArg D.bl (by decide +kernel), iteT ⟨_, rfl, _, rfl, .choice x y z, rfl, rfl, rfl, ho, hb, hdN, q⟩⟩⟩
  | before x f =>
    refine ⟨_, rfl, _, rfl, _, rfl, .before x f, rfl, ho, _, rfl, nwhole, (Pt.before x f).inner.map Pt.told, rfl, _, of_len (.before x f), of_each (.before x f) hdm ho hb, of_lt (.before x f), ?_⟩
    rw [of_out]
    exact ⟨_, rfl, .before x f, rfl, ho, _, rfl, iteF ⟨_, rfl, _, rfl, (by decide), rfl, (by decide), false, congrArg D.bl (by decide +kernel), iteF ⟨_, rfl, _, rfl, .before x f, rfl, rfl, rfl, ho, hb, hdN, q⟩⟩⟩
  | led x y =>
    refine ⟨_, rfl, _, rfl, _, rfl, .led x y, rfl, ho, _, rfl, nwhole, (Pt.led x y).inner.map Pt.told, rfl, _, of_len (.led x y), of_each (.led x y) hdm ho hb, of_lt (.led x y), ?_⟩
    rw [of_out]
    exact ⟨_, rfl, .led x y, rfl, ho, _, rfl, iteF ⟨_, rfl, _, rfl, (by decide), rfl, (by decide), false, congrArg D.bl (by decide +kernel), iteF ⟨_, rfl, _, rfl, .led x y, rfl, rfl, rfl, ho, hb, hdN, q⟩⟩⟩
  | whn x s =>
    refine ⟨_, rfl, _, rfl, _, rfl, .whn x s, rfl, ho, _, rfl, nwhole, (Pt.whn x s).inner.map Pt.told, rfl, _, of_len (.whn x s), of_each (.whn x s) hdm ho hb, of_lt (.whn x s), ?_⟩
    rw [of_out]
    exact ⟨_, rfl, .whn x s, rfl, ho, _, rfl, iteF ⟨_, rfl, _, rfl, (by decide), rfl, (by decide), false, congrArg D.bl (by decide +kernel), iteF ⟨_, rfl, _, rfl, .whn x s, rfl, rfl, rfl, ho, hb, hdN, q⟩⟩⟩
  | held x s f =>
    refine ⟨_, rfl, _, rfl, _, rfl, .held x s f, rfl, ho, _, rfl, nwhole, (Pt.held x s f).inner.map Pt.told, rfl, _, of_len (.held x s f), of_each (.held x s f) hdm ho hb, of_lt (.held x s f), ?_⟩
    rw [of_out]
    exact ⟨_, rfl, .held x s f, rfl, ho, _, rfl, iteF ⟨_, rfl, _, rfl, (by decide), rfl, (by decide), false, congrArg D.bl (by decide +kernel), iteF ⟨_, rfl, _, rfl, .held x s f, rfl, rfl, rfl, ho, hb, hdN, q⟩⟩⟩
end
end K03

set_option maxHeartbeats 4000000
namespace K03
open PySem PySem.Spec PyProof.Rows L2
theorem str_ext {x y : Str} (h : x.cps.toList = y.cps.toList) : x = y := by
  obtain ⟨⟨a⟩⟩ := x
  obtain ⟨⟨b⟩⟩ := y
  have : a = b := h
  rw [this]
theorem app_cps (x y : Str) : (x ++ y).cps.toList = x.cps.toList ++ y.cps.toList := by
  show (x.cps ++ y.cps).toList = _
  exact Array.toList_append
theorem len_cps (x : Str) : x.length = x.cps.toList.length := by
  show x.cps.size = _
  exact Array.length_toList.symm
theorem app_len (x y : Str) : (x ++ y).length = x.length + y.length := by rw [len_cps, app_cps, List.length_append, ← len_cps, ← len_cps]
theorem cut_eq {c : Nat} : ∀ {a b r s : List Nat}, c ∉ a → c ∉ b → a ++ c :: r = b ++ c :: s → a = b ∧ r = s
  | [], [], r, s, _, _, h => ⟨rfl, by simpa using h⟩
  | [], y :: b, r, s, _, hb, h => by
    have : c = y := by simpa using (List.cons.inj h).1
    exact (hb (by rw [this]; exact List.mem_cons_self)).elim
  | x :: a, [], r, s, ha, _, h => by
    have : x = c := by simpa using (List.cons.inj h).1
    exact (ha (by rw [this]; exact List.mem_cons_self)).elim
  | x :: a, y :: b, r, s, ha, hb, h => by
    obtain ⟨e1, e2⟩ := List.cons.inj h
    obtain ⟨e3, e4⟩ := cut_eq (fun m => ha (List.mem_cons_of_mem _ m)) (fun m => hb (List.mem_cons_of_mem _ m)) e2
    exact ⟨by rw [e1, e3], e4⟩
def jl (c : Nat) : List (List Nat) → List Nat
  | [] => []
  | [a] => a
  | a :: b :: r => a ++ c :: jl c (b :: r)
theorem join_jl (c : Nat) : ∀ ws : List Str, (Str.join ⟨#[c]⟩ ws).cps.toList = jl c (ws.map fun w => w.cps.toList)
  | [] => rfl
  | [x] => rfl
  | x :: y :: r => by
    have ih := join_jl c (y :: r)
    show (x ++ ⟨#[c]⟩ ++ Str.join ⟨#[c]⟩ (y :: r)).cps.toList = _
    rw [app_cps, app_cps, ih]
    simp [jl]
theorem jl_inj (c : Nat) : ∀ ws vs : List (List Nat), ws ≠ [] → vs ≠ [] → (∀ w ∈ ws, c ∉ w) → (∀ v ∈ vs, c ∉ v) → jl c ws = jl c vs → ws = vs
  | [], _, h, _, _, _, _ => absurd rfl h
  | _ :: _, [], _, h, _, _, _ => absurd rfl h
  | [a], [b], _, _, _, _, h => by rw [show a = b from h]
  | [a], b :: b2 :: s, _, _, fa, _, h => by
    have e : a = b ++ c :: jl c (b2 :: s) := h
    exact (fa a List.mem_cons_self (by rw [e]; simp)).elim
  | a :: a2 :: r, [b], _, _, _, fb, h => by
    have e : a ++ c :: jl c (a2 :: r) = b := h
    exact (fb b List.mem_cons_self (by rw [← e]; simp)).elim
  | a :: a2 :: r, b :: b2 :: s, _, _, fa, fb, h => by
    obtain ⟨e1, e2⟩ := cut_eq (fa a List.mem_cons_self) (fb b List.mem_cons_self) (show a ++ c :: jl c (a2 :: r) = b ++ c :: jl c (b2 :: s) from h)
    rw [e1, jl_inj c (a2 :: r) (b2 :: s) (by simp) (by simp) (fun w m => fa w (List.mem_cons_of_mem _ m)) (fun w m => fb w (List.mem_cons_of_mem _ m)) e2]
theorem split_of (c : Nat) (ws : List Str) (hne : ws ≠ []) (free : ∀ w ∈ ws, c ∉ w.cps.toList) : Txt.split (Str.join ⟨#[c]⟩ ws) ⟨#[c]⟩ = ws := by
  have j := StrLaws.join_split (Str.join ⟨#[c]⟩ ws) ⟨#[c]⟩
  have f := StrLaws.split_free (Str.join ⟨#[c]⟩ ws) c
  have p := split_pos (Str.join ⟨#[c]⟩ ws) ⟨#[c]⟩
  generalize Txt.split (Str.join ⟨#[c]⟩ ws) ⟨#[c]⟩ = vs at j f p ⊢
  have e : jl c (vs.map fun w => w.cps.toList) = jl c (ws.map fun w => w.cps.toList) := by rw [← join_jl, ← join_jl, j]
  have hv : vs ≠ [] := fun z => by rw [z] at p; simp at p
  have q := jl_inj c _ _ (by simpa using hv) (by simpa using hne) (fun w m => ?_) (fun w m => ?_) e
  · exact (List.map_inj_right fun x y h => str_ext h).mp q
  · obtain ⟨x, hx, rfl⟩ := List.mem_map.mp m; exact f x hx
  · obtain ⟨x, hx, rfl⟩ := List.mem_map.mp m; exact free x hx
theorem slice_sub {x : Str} {l u : Option Int} {c : Nat} (h : c ∈ (Txt.slice x l u).cps.toList) : c ∈ x.cps.toList := by
  unfold Txt.slice at h
  split at h
  · exact h
  · obtain ⟨i, _, hi⟩ := List.mem_filterMap.mp (show c ∈ List.filterMap (x.cps[·]?) _ from by simpa using h)
    rw [← Array.getElem?_toList] at hi
    exact List.mem_of_getElem? hi
theorem slice_len {x : Str} {l u : Option Int} : (Txt.slice x l u).length ≤ (Builtin.Str.strSliceIndices l u 1 x.length).length := by
  unfold Txt.slice
  split
  · rename_i h
    have h2 : (Builtin.Str.strSliceIndices l u 1 x.length).length = x.length := by simpa using h
    exact Nat.le_of_eq h2.symm
  · show (List.filterMap _ _).toArray.size ≤ _
    rw [List.size_toArray]
    exact List.length_filterMap_le _ _
theorem idx_sum : ∀ n : Fin 7, ∀ a : Fin 7, (Builtin.Str.strSliceIndices none (some (a.val : Int)) 1 n.val).length + (Builtin.Str.strSliceIndices (some (a.val : Int)) none 1 n.val).length ≤ n.val := by decide +kernel
theorem slice_sum {x : Str} {a : Int} (hx : x.length ≤ 6) (h0 : 0 ≤ a) (h1 : a < 7) : (Txt.slice x none (some a)).length + (Txt.slice x (some a) none).length ≤ x.length := by
  have q := idx_sum ⟨x.length, by omega⟩ ⟨a.toNat, by omega⟩
  rw [show ((⟨a.toNat, by omega⟩ : Fin 7).val : Int) = a from Int.toNat_of_nonneg h0] at q
  have h2 := slice_len (x := x) (l := none) (u := some a)
  have h3 := slice_len (x := x) (l := some a) (u := none)
  have q' : (Builtin.Str.strSliceIndices none (some a) 1 x.length).length + (Builtin.Str.strSliceIndices (some a) none 1 x.length).length ≤ x.length := q
  omega
theorem atI_in {α : Type} {xs : List α} {i : Int} (h0 : 0 ≤ i) (h1 : i < xs.length) : ∃ r, r ∈ xs ∧ L2.atI xs i = some r := by
  unfold L2.atI L2.ixN
  rw [if_pos h0, if_pos h1]
  have h : i.toNat < xs.length := by omega
  exact ⟨xs[i.toNat], List.getElem_mem h, by simp [List.getElem?_eq_getElem h]⟩
theorem atI_nat {α : Type} {xs : List α} {i : Nat} {x : α} (h : xs[i]? = some x) : L2.atI xs (i : Int) = some x := by
  unfold L2.atI L2.ixN
  have hl : i < xs.length := (List.getElem?_eq_some_iff.mp h).1
  rw [if_pos (by omega), if_pos (by omega), Int.toNat_natCast]
  exact h
end K03

set_option maxHeartbeats 4000000
namespace K03
open PySem PySem.Spec PyProof.Rows L2 DC
def low (x : Str) : Prop := ∀ c ∈ x.cps.toList, 97 ≤ c ∧ c ≤ 122
def oddL : List Nat := [99, 103, 106, 107, 112, 113, 118, 120, 122]
theorem low_inL {c : Nat} (h1 : 97 ≤ c) (h2 : c ≤ 122) : inL ⟨#[c]⟩ = true := by
  have all : ∀ k : Fin 26, inL ⟨#[97 + k.val]⟩ = true := by decide +kernel
  have q := all ⟨c - 97, by omega⟩
  have e : 97 + (c - 97) = c := by omega
  rw [show (97 + (⟨c - 97, by omega⟩ : Fin 26).val) = c from e] at q
  exact q
theorem low_let {x : Str} (h : low x) (h0 : 0 < x.length) : letB x = true := by
  unfold letB
  rw [decide_eq_true (by omega), Bool.true_and, List.all_eq_true]
  intro s hs
  unfold signs at hs
  obtain ⟨c, hc, rfl⟩ := List.mem_map.mp hs
  exact low_inL (h c hc).1 (h c hc).2
theorem low_form {x : Str} (h : low x) (h0 : 0 < x.length) (h8 : x.length ≤ 8) : formB x = true := by
  unfold formB
  rw [low_let h h0, decide_eq_true (by omega)]
  rfl
theorem low_dot {x : Str} (h : low x) : 46 ∉ x.cps.toList := fun m => by have := h 46 m; omega
theorem low_app {x y : Str} (h : low x) (g : low y) : low (x ++ y) := fun c hc => by
  rw [app_cps] at hc
  exact (List.mem_append.mp hc).elim (h c) (g c)
theorem low_one {c : Nat} (h : 97 ≤ c ∧ c ≤ 122) : low ⟨#[c]⟩ := fun d hd => by
  have : d = c := by simpa using hd
  rw [this]; exact h
theorem low_slice {x : Str} {l u : Option Int} (h : low x) : low (Txt.slice x l u) := fun c hc => h c (slice_sub hc)
theorem odd_low {c : Nat} (h : c ∈ oddL) : 97 ≤ c ∧ c ≤ 122 := by
  have all : ∀ c ∈ oddL, 97 ≤ c ∧ c ≤ 122 := by decide
  exact all c h
theorem kept_no {x : Str} {c : Nat} (hc : c ∈ x.cps.toList) (hz : c ∈ oddL) : keptL.contains x = false := by
  have all : ∀ y ∈ keptL, ∀ c ∈ oddL, c ∉ y.cps.toList := by decide +kernel
  rw [Bool.eq_false_iff]
  intro h
  exact all x (List.contains_iff_mem.mp h) c hz hc
theorem dot_eq : dot = ⟨#[46]⟩ := by decide +kernel
theorem name_word {x : Str} (hf : 46 ∉ x.cps.toList) (hw : wordB x = true) : nameB x = true := by
  have e : Txt.split x dot = [x] := by
    rw [dot_eq]
    exact split_of 46 [x] (by simp) (by simpa using hf)
  unfold nameB
  rw [e]
  exact hw
theorem name_words {ws : List Str} (h1 : 2 ≤ ws.length) (h2 : ws.length ≤ 4) (hf : ∀ w ∈ ws, formB w = true ∧ 46 ∉ w.cps.toList) : nameB (Str.join ⟨#[46]⟩ ws) = true := by
  have e : Txt.split (Str.join ⟨#[46]⟩ ws) dot = ws := by
    rw [dot_eq]
    exact split_of 46 ws (fun z => by rw [z] at h1; simp at h1) fun w m => (hf w m).2
  unfold nameB
  rw [e, decide_eq_false (by omega), if_neg Bool.false_ne_true, decide_eq_true (by omega), Bool.true_and, List.all_eq_true]
  exact fun w m => (hf w m).1
theorem strOk_of {x : Str} (h : ∀ c ∈ x.cps.toList, c < 0x110000) : PyData.strOk x = true := by
  unfold PyData.strOk
  rw [← Array.all_toList, List.all_eq_true]
  exact fun c hc => decide_eq_true (h c hc)
theorem low_ok {x : Str} (h : low x) : ∀ c ∈ x.cps.toList, c < 0x110000 := fun c hc => by have := h c hc; omega
def nm (ahead b : Str) (a : Int) (c : Nat) : Str := ahead ++ Txt.slice b none (some a) ++ ⟨#[c]⟩ ++ Txt.slice b (some a) none
theorem name_ok {ahead b : Str} {a : Int} {c : Nat} (ha : ahead ∈ (["", "", "row.", "a.in."] : List Str)) (hb : b.length ≤ 6) (lb : low b) (h0 : 0 ≤ a) (h1 : a < 7) (hc : c ∈ oddL) :
    okNm (nm ahead b a c) := by
  have hs := slice_sum hb h0 h1
  let wd : Str := Txt.slice b none (some a) ++ ⟨#[c]⟩ ++ Txt.slice b (some a) none
  have lw : low wd := low_app (low_app (low_slice lb) (low_one (odd_low hc))) (low_slice lb)
  have cw : c ∈ wd.cps.toList := by
    show c ∈ (Txt.slice b none (some a) ++ ⟨#[c]⟩ ++ Txt.slice b (some a) none).cps.toList
    rw [app_cps, app_cps]
    simp
  have nw : wd.length = (Txt.slice b none (some a)).length + 1 + (Txt.slice b (some a) none).length := by
    show (Txt.slice b none (some a) ++ ⟨#[c]⟩ ++ Txt.slice b (some a) none).length = _
    rw [app_len, app_len]
    rfl
  have fw : formB wd = true := low_form lw (by omega) (by omega)
  have hnm : nm ahead b a c = ahead ++ wd := str_ext (by
    show (ahead ++ Txt.slice b none (some a) ++ ⟨#[c]⟩ ++ Txt.slice b (some a) none).cps.toList = (ahead ++ (Txt.slice b none (some a) ++ ⟨#[c]⟩ ++ Txt.slice b (some a) none)).cps.toList
    simp only [app_cps, List.append_assoc])
  rw [hnm]
  clear_value wd
  have hl : (ahead ++ wd).length ≤ 100 := by
    have : ahead.length ≤ 5 := by
      have all : ∀ y ∈ (["", "", "row.", "a.in."] : List Str), y.length ≤ 5 := by decide +kernel
      exact all _ ha
    rw [app_len]
    omega
  refine ⟨?_, hl, ?_⟩
  · have ha' := ha
    simp only [List.mem_cons, List.not_mem_nil, or_false] at ha'
    have e0 : ("" : Str) ++ wd = wd := str_ext (by rw [app_cps]; rfl)
    have one : nameB wd = true := name_word (low_dot lw) (by unfold wordB; rw [fw, kept_no cw hc]; rfl)
    rcases ha' with rfl | rfl | rfl | rfl
    · rw [e0]; exact one
    · rw [e0]; exact one
    · have e : ("row." : Str) ++ wd = Str.join ⟨#[46]⟩ ["row", wd] := str_ext (by
        show _ = (("row" : Str) ++ ⟨#[46]⟩ ++ wd).cps.toList
        rw [app_cps, app_cps, app_cps]
        rfl)
      rw [e]
      refine name_words (by simp) (by simp) fun w m => ?_
      simp only [List.mem_cons, List.not_mem_nil, or_false] at m
      rcases m with rfl | rfl
      · exact ⟨by decide +kernel, by decide +kernel⟩
      · exact ⟨fw, low_dot lw⟩
    · have e : ("a.in." : Str) ++ wd = Str.join ⟨#[46]⟩ ["a", "in", wd] := str_ext (by
        show _ = (("a" : Str) ++ ⟨#[46]⟩ ++ (("in" : Str) ++ ⟨#[46]⟩ ++ wd)).cps.toList
        rw [app_cps, app_cps, app_cps, app_cps, app_cps]
        rfl)
      rw [e]
      refine name_words (by simp) (by simp) fun w m => ?_
      simp only [List.mem_cons, List.not_mem_nil, or_false] at m
      rcases m with rfl | rfl | rfl
      · exact ⟨by decide +kernel, by decide +kernel⟩
      · exact ⟨by decide +kernel, by decide +kernel⟩
      · exact ⟨fw, low_dot lw⟩
  · refine strOk_of fun d hd => ?_
    rw [app_cps] at hd
    rcases List.mem_append.mp hd with h | h
    · have all : ∀ y ∈ (["", "", "row.", "a.in."] : List Str), ∀ d ∈ y.cps.toList, d < 0x110000 := by decide +kernel
      exact all _ ha d h
    · exact low_ok lw d h
end K03

set_option maxHeartbeats 4000000
namespace K03
open PySem PySem.Spec PyProof.Rows L2 DC
def Pt.at : Pt → List Nat → Option Pt
  | p, [] => some p
  | p, i :: l => match p.inner[i]? with
    | some q => q.at l
    | none => none
theorem Pt.at_app : ∀ (l : List Nat) (p : Pt) (m : List Nat), p.at (l ++ m) = (p.at l).bind fun r => r.at m
  | [], p, m => rfl
  | i :: l, p, m => by
    show (match p.inner[i]? with | some q => q.at (l ++ m) | none => none) = (match p.inner[i]? with | some q => q.at l | none => none).bind fun r => r.at m
    cases p.inner[i]? with
    | none => rfl
    | some q => exact Pt.at_app l q m
theorem Pt.at_one (p : Pt) (i : Nat) : p.at [i] = p.inner[i]? := by
  show (match p.inner[i]? with | some q => q.at [] | none => none) = _
  cases p.inner[i]? <;> rfl
theorem Pt.at_depth : ∀ (l : List Nat) (p r : Pt), p.at l = some r → r.depth ≤ p.depth
  | [], p, r, h => by cases h; exact Nat.le_refl _
  | i :: l, p, r, h => by
    have h' : (match p.inner[i]? with | some q => q.at l | none => none) = some r := h
    cases e : p.inner[i]? with
    | none => rw [e] at h'; cases h'
    | some q =>
      rw [e] at h'
      have h1 := Pt.at_depth l q r h'
      have h2 := p.in_depth (List.mem_of_getElem? e) (n := p.depth - 1) (by omega)
      omega
theorem Pt.at_ok : ∀ (l : List Nat) (p r : Pt), p.at l = some r → p.ok → okB p → r.ok ∧ okB r
  | [], p, r, h, o, b => by cases h; exact ⟨o, b⟩
  | i :: l, p, r, h, o, b => by
    have h' : (match p.inner[i]? with | some q => q.at l | none => none) = some r := h
    cases e : p.inner[i]? with
    | none => rw [e] at h'; cases h'
    | some q =>
      rw [e] at h'
      have m := List.mem_of_getElem? e
      have h2 := p.in_depth m (n := p.depth - 1) (by omega)
      have h3 := Pt.in_size m
      exact Pt.at_ok l q r h' (Pt.ok_in m o) ⟨by have := b.1; omega, Nat.le_trans h3 b.2⟩
def placeD (l : List Nat) : D := .tup (l.map fun i : Nat => .int (i : Int))
def sdAt (A : Adr) (n : Nat) : SpD := fun ds Q => ∃ (p r : Pt) (l : List Nat), ds = [p.d A, placeD l] ∧ p.at l = some r ∧ p.depth ≤ n ∧ Q (r.d A)
section
seal wpAny
variable {P : Program} {w : World} {K : PySem.W.Frag} {mg : Str → Option Value} {base : Heap} {A : Adr} {n j : Nat}
theorem c_part_at (d : Df K mg "part_at" s_part_at ["part", "place"]) (m_inner : MP P w K mg base A j "inner" n (gInner A)) : Cal P w K mg base (j + 1) "part_at" ["part", "place"] (sdAt A n) := by
  refine d.cal sc_part_at (fun ds P P' f ⟨p, r, l, e, h, o, q⟩ => ⟨p, r, l, e, h, o, f _ q⟩) (fun ds Q ⟨x, r, l, e, _⟩ => by rw [e]; rfl) (fun f cdv A outer s H E hr => have hu := hr.units; have hh := hr.hd; have sc := sc_part_at
    (ss_cons (s_for PassesOwn.never rfl (i_any (dv 1)) (g_name (i := 2) sc.nd rfl (Or.inl rfl)) (ss_one (s_set (i := 0) sc.nd rfl (Or.inl rfl) (d_ix (d_m0 m_inner hr (by omega) (dv 0)) (dv 2) (fun _ _ => rfl)))))
  (ss_one (s_ret (dv 0))))) ?_
  rintro ds Q ⟨p, r, l, rfl, hr, hd, q⟩
  refine ⟨_, rfl, l.map fun i : Nat => .int (i : Int), rfl, fun i δ => ∃ (x : Option D) (r' : Pt), δ = [some (r'.d A), some (placeD l), x] ∧ p.at (l.take i) = some r', ⟨none, p, rfl, rfl⟩, ?_, ?_⟩
  · rintro i d δ hd' ⟨x, r', rfl, hr'⟩
    rw [List.getElem?_map] at hd'
    cases e : l[i]? with
    | none => rw [e] at hd'; cases hd'
    | some k =>
      rw [e] at hd'
      obtain rfl : D.int (k : Int) = d := by simpa using hd'
      have hk : l = l.take i ++ k :: l.drop (i + 1) := by
        have hi : i < l.length := (List.getElem?_eq_some_iff.mp e).1
        have : l[i] = k := (List.getElem?_eq_some_iff.mp e).2
        rw [← this, ← List.drop_eq_getElem_cons hi, List.take_append_drop]
      have hin : ∃ r2, r'.inner[k]? = some r2 := by
        rw [hk, Pt.at_app, hr'] at hr
        have hr2 : (match r'.inner[k]? with | some q => q.at (l.drop (i + 1)) | none => none) = some r := hr
        cases e2 : r'.inner[k]? with
        | none => rw [e2] at hr2; cases hr2
        | some r2 => exact ⟨r2, rfl⟩
      obtain ⟨r2, h2⟩ := hin
      refine vMeth_of (p := r') m_var noM_inner ⟨_, rfl, rfl⟩ (Nat.le_trans (Pt.at_depth _ _ _ hr') hd) ⟨_, rfl, r2.d A, atI_nat (by rw [List.getElem?_map, h2]; rfl), ?_⟩
      refine ⟨_, r2, rfl, ?_⟩
      rw [List.take_succ, e, Pt.at_app, hr']
      exact (Pt.at_one r' k).trans h2
  · rintro δ ⟨x, r', rfl, hr'⟩
    rw [List.length_map, List.take_length, hr] at hr'
    cases hr'
    exact ⟨_, rfl, q⟩
end
end K03

set_option maxHeartbeats 4000000
namespace K03
open PySem PySem.Spec PyProof.Rows L2 DC
def mix1 (c k : Int) : Int := (c + 7919 * k + 11) * 48271 % 2147483647
def mixed (c k : Int) : Int := (mix1 c k * mix1 c k + 40692 * mix1 c k) % 2147483399
theorem mix1_lt (c k : Int) : 0 ≤ mix1 c k ∧ mix1 c k < 2147483647 := ⟨Int.emod_nonneg _ (by decide), Int.emod_lt_of_pos _ (by decide)⟩
def sdMix : SpD := fun ds Q => ∃ c k : Int, ds = [.int c, .int k] ∧ Q (.int (mixed c k))
theorem m_Mix : MonoS sdMix := fun ds P P' f ⟨c, k, e, q⟩ => ⟨c, k, e, f _ q⟩
def sdCell : SpD := fun ds Q => ∃ (ns : List Int) (k : Nat), ds = [.lst (ns.map D.int), .int (k : Int)] ∧ k ≤ 10 ∧ ∀ c : Int, Q (.int c)
def sdNumb : SpD := fun ds Q => ∃ m : Int, ds = [.int m] ∧ ∀ i : Int, -128 ≤ i → i ≤ 127 → Q (.int i)
def sdValu : SpD := fun ds Q => ∃ (m : Int) (k : Str), ds = [.int m, .str k] ∧ ∀ v : D, isVal v → Q v
def sdNames : SpD := fun ds Q => ∃ (c : Int) (m : Nat), ds = [.int c, .int (m : Int)] ∧ 1 ≤ m ∧ m ≤ 9 ∧ ∀ l : List Str, l.length = m → (∀ x ∈ l, okNm x) → Q (.lst (l.map D.str))
theorem cd {i j : Int} (h : 0 < j) (h2 : j < 1073741824) : CDiv i j := ⟨h, h2⟩
theorem mod_lo (a : Int) {b : Int} (h : 0 < b) : 0 ≤ a % b := Int.emod_nonneg _ (by omega)
theorem mod_hi (a : Int) {b : Int} (h : 0 < b) : a % b < b := Int.emod_lt_of_pos _ h
def nmD (ahead b : Str) (a : Int) : D → D
  | .int i => .str (nm ahead b a (((L2.atI oddL i)).getD 0))
  | _ => .non
section
seal wpAny
variable {P : Program} {w : World} {K : PySem.W.Frag} {mg : Str → Option Value} {base : Heap} {A : Adr} {n j : Nat}
theorem c_mixed (d : Df K mg "_law_mixed" s__law_mixed ["_law_cell", "_law_k"]) : Cal P w K mg base (j + 1) "_law_mixed" ["_law_cell", "_law_k"] sdMix := by
  refine d.cal sc__law_mixed m_Mix (fun ds Q ⟨c, k, e, _⟩ => by rw [e]; rfl) (fun f cdv A outer s H E hr => have hu := hr.units; have hh := hr.hd; have sc := sc__law_mixed
    (ss_cons (s_set (i := 2) sc.nd rfl (Or.inl rfl) (d_mod (d_mul (d_add (d_add (dv 0) (d_mul d_int (dv 1))) d_int) d_int) d_int))
  (ss_one (s_ret (d_mod (d_add (d_mul (dv 2) (dv 2)) (d_mul d_int (dv 2))) d_int))))) ?_
  rintro ds Q ⟨c, k, rfl, q⟩
  have hb := mix1_lt c k
  refine ⟨_, rfl, _, rfl, CMul.ok (.inl ⟨by decide, by decide⟩), CMul.ok (.inr ⟨by decide, by decide⟩), (show (0 : Int) < 2147483647 by decide), ?_⟩
  exact ⟨_, rfl, _, rfl, CMul.ok (i := mix1 c k) (j := mix1 c k) (.inl ⟨by omega, by omega⟩), _, rfl, CMul.ok (.inl ⟨by decide, by decide⟩), (show (0 : Int) < 2147483399 by decide), q⟩
seal mixed
theorem c_cell (d : Df K mg "_law_cell_at" s__law_cell_at ["_law_script", "_law_k"]) (n_len : mg "len" = none) : Cal P w K mg base (j + 1) "_law_cell_at" ["_law_script", "_law_k"] sdCell := by
  refine d.cal sc__law_cell_at (fun ds P P' f ⟨c, k, e, h, q⟩ => ⟨c, k, e, h, fun c => f _ (q c)⟩) (fun ds Q ⟨c, k, e, _⟩ => by rw [e]; rfl) (fun f cdv A outer s H E hr => have hu := hr.units; have hh := hr.hd; have sc := sc__law_cell_at
    (ss_cons (s_if (t_lt (dv 1) (d_len (by rfl) n_len (a_cons (dv 0) a_nil))) (ss_one (s_ret (d_ix (dv 0) (dv 1) (fun _ _ => rfl)))) ss_nil)
  (ss_one (s_ret (d_mul (d_mul (d_add (dv 1) d_int) (d_add (dv 1) d_int)) d_int))))) ?_
  rintro ds Q ⟨ns, k, rfl, hk, q⟩
  refine ⟨_, rfl, _, rfl, _, _, rfl, rfl, _, rfl, ?_⟩
  show if decide ((k : Int) < ((ns.map D.int).length : Int)) = true then _ else _
  rw [List.length_map]
  cases h : decide ((k : Int) < (ns.length : Int)) with
  | true =>
    have hk' : k < ns.length := by have := of_decide_eq_true h; omega
    exact iteT ⟨_, rfl, _, rfl, .int ns[k], atI_nat (by rw [List.getElem?_map, List.getElem?_eq_getElem hk']; rfl), q _⟩
  | false =>
    exact iteF ⟨_, rfl, _, rfl, CMul.ok (i := (k : Int) + 3) (.inl ⟨by omega, by omega⟩), CMul.ok (.inr ⟨by decide, by decide⟩), q _⟩
theorem c_number (d : Df K mg "_law_number" s__law_number ["_law_mix"]) : Cal P w K mg base (j + 1) "_law_number" ["_law_mix"] sdNumb := by
  refine d.cal sc__law_number (fun ds P P' f ⟨c, e, q⟩ => ⟨c, e, fun i h1 h2 => f _ (q i h1 h2)⟩) (fun ds Q ⟨c, e, _⟩ => by rw [e]; rfl) (fun f cdv A outer s H E hr => have hu := hr.units; have hh := hr.hd; have sc := sc__law_number
    (ss_one (s_ret (d_ix (d_lst (a_cons (d_sub (d_mod (d_div (dv 0) d_int) d_int) d_int) (a_cons (d_sub (d_mod (d_div (dv 0) d_int) d_int) d_int) (a_cons (d_ix (d_lst (a_ck (by rfl))) (d_mod (d_div (dv 0) d_int) d_int) (fun _ _ => rfl)) (a_cons (d_mod (d_div (dv 0) d_int) d_int) a_nil))))) (d_mod (dv 0) d_int) (fun _ _ => rfl))))) ?_
  rintro ds Q ⟨m, rfl, q⟩
  obtain ⟨r, hr, er⟩ := atI_in (xs := [D.int (-128), .int 127, .int 0, .int 1]) (mod_lo (m / 8) (show (0 : Int) < 4 by decide)) (mod_hi (m / 8) (show (0 : Int) < 4 by decide))
  obtain ⟨s, hs, es⟩ := atI_in (xs := [D.int (m / 8 % 256 - 128), .int (m / 8 % 5 - 2), r, .int (m / 8 % 9)]) (mod_lo m (show (0 : Int) < 4 by decide)) (mod_hi m (show (0 : Int) < 4 by decide))
  refine ⟨_, rfl, cd (by decide) (by decide), (show (0 : Int) < 256 by decide), _, rfl, cd (by decide) (by decide), (show (0 : Int) < 5 by decide), (show 4 ≤ sizeLine by decide), _, rfl, cd (by decide) (by decide), (show (0 : Int) < 4 by decide), r, er, _, rfl, cd (by decide) (by decide), (show (0 : Int) < 9 by decide), (show 4 ≤ sizeLine by decide), _, rfl, (show (0 : Int) < 4 by decide), s, es, ?_⟩
  have ha := mod_lo (m / 8) (show (0 : Int) < 256 by decide)
  have hb := mod_hi (m / 8) (show (0 : Int) < 256 by decide)
  have hc := mod_lo (m / 8) (show (0 : Int) < 5 by decide)
  have hd := mod_hi (m / 8) (show (0 : Int) < 5 by decide)
  have he := mod_lo (m / 8) (show (0 : Int) < 9 by decide)
  have hf := mod_hi (m / 8) (show (0 : Int) < 9 by decide)
  simp only [List.mem_cons, List.not_mem_nil, or_false] at hr hs
  rcases hs with rfl | rfl | rfl | rfl
  · exact q _ (by omega) (by omega)
  · exact q _ (by omega) (by omega)
  · rcases hr with rfl | rfl | rfl | rfl <;> exact q _ (by decide) (by decide)
  · exact q _ (by omega) (by omega)
theorem c_value (d : Df K mg "_law_value" s__law_value ["_law_mix", "_law_kind"]) (c__law_number : Cal P w K mg base j "_law_number" ["_law_mix"] sdNumb) : Cal P w K mg base (j + 1) "_law_value" ["_law_mix", "_law_kind"] sdValu := by
  refine d.cal sc__law_value (fun ds P P' f ⟨c, k, e, q⟩ => ⟨c, k, e, fun i h1 => f _ (q i h1)⟩) (fun ds Q ⟨c, k, e, _⟩ => by rw [e]; rfl) (fun f cdv A outer s H E hr => have hu := hr.units; have hh := hr.hd; have sc := sc__law_value
    (ss_cons (s_if (t_eq hu (dv 1) d_str) (ss_one (s_ret (d_eq hu (d_mod (d_div (dv 0) d_int) d_int) d_int))) ss_nil)
  (ss_one (s_ret (d_cal c__law_number hr (by omega) (by rfl) (a_cons (d_div (dv 0) d_int) a_nil)))))) ?_
  rintro ds Q ⟨m, k, rfl, q⟩
  refine ⟨_, rfl, _, rfl, ?_⟩
  cases h : decide (k = "truth") with
  | true => exact iteT ⟨_, rfl, cd (by decide) (by decide), (show (0 : Int) < 2 by decide), q _ (.inl ⟨_, rfl⟩)⟩
  | false => exact iteF ⟨_, rfl, cd (by decide) (by decide), _, rfl, fun i h1 h2 => q _ (.inr ⟨i, rfl, h1, h2⟩)⟩
theorem c_names (d : Df K mg "_law_names" s__law_names ["_law_cell", "_law_many"]) (n_range : mg "range" = none) (c__law_mixed : Cal P w K mg base j "_law_mixed" ["_law_cell", "_law_k"] sdMix) : Cal P w K mg base (j + 1) "_law_names" ["_law_cell", "_law_many"] sdNames := by
  refine d.cal sc__law_names (fun ds P P' f ⟨c, k, e, h1, h2, q⟩ => ⟨c, k, e, h1, h2, fun l h3 h4 => f _ (q l h3 h4)⟩) (fun ds Q ⟨c, k, e, _⟩ => by rw [e]; rfl) (fun f cdv A outer s H E hr => have hu := hr.units; have hh := hr.hd; have sc := sc__law_names
    (ss_cons (s_set (i := 2) sc.nd rfl (Or.inl rfl) d_str)
  (ss_cons (s_set (i := 3) sc.nd rfl (Or.inr rfl) d_str)
  (ss_cons (s_for PassesOwn.never rfl (i_range1 (by rfl) n_range (a_cons (d_mod (dv 0) d_int) a_nil)) (g_name (i := 4) sc.nd rfl (Or.inl rfl)) (ss_one (s_set (i := 3) sc.nd rfl (Or.inr rfl) (d_add (dv 3) (d_ix (dv 2) (d_mod (d_div (d_cal c__law_mixed hr (by omega) (by rfl) (a_cons (dv 0) (a_cons (d_add d_int (dv 4)) a_nil))) d_int) d_int) (fun _ _ => rfl))))))
  (ss_cons (s_set (i := 5) sc.nd rfl (Or.inr rfl) (d_mod (d_div (d_cal c__law_mixed hr (by omega) (by rfl) (a_cons (dv 0) (a_cons d_int a_nil))) d_int) d_int))
  (ss_cons (s_set (i := 6) sc.nd rfl (Or.inr rfl) (d_ix (d_lst (a_ck (by rfl))) (d_mod (d_div (d_cal c__law_mixed hr (by omega) (by rfl) (a_cons (dv 0) (a_cons d_int a_nil))) d_int) d_int) (fun _ _ => rfl)))
  (ss_one (s_ret (d_lc (x := "_law_k") (caps := [3, 6, 5]) (cn := ["_law_base", "_law_ahead", "_law_at"]) (cl := [("_law_base", s.heap.objs.size + 1), ("_law_at", s.heap.objs.size + 2), ("_law_ahead", s.heap.objs.size + 3)]) (compN (by rfl) (by rfl) (by decide +kernel) (free_of ["_law_base", "_law_at", "_law_ahead"] rfl (by decide +kernel)) (by decide +kernel) (cells_cons (by rfl) (cells_cons (by rfl) (cells_cons (by rfl) cells_nil))) (.cons ⟨rfl, .inl rfl, rfl⟩ (.cons ⟨rfl, .inl rfl, rfl⟩ (.cons ⟨rfl, .inl rfl, rfl⟩ .nil)))) rfl (i_range1 (by rfl) n_range (a_cons (dv 1) a_nil)) (fun C fp s₂ H₂ => pg_name (i := 0) (show (["_law_k", "_law_base", "_law_ahead", "_law_at"] : List Str).Nodup by decide +kernel) rfl (Or.inl rfl) (.inr rfl)) (fun C fp s₂ H₂ => ts_nil) (fun C fp s₂ H₂ => (d_add (d_add (d_add (dv 2) (d_slice (dv 1) o_none (o_some (dv 3)))) (d_ix d_str (dv 0) (fun _ _ => rfl))) (d_slice (dv 1) (o_some (dv 3)) o_none)))))))))))) ?_
  rintro ds Q ⟨c, m, rfl, hm1, hm9, q⟩
  have h7 := mod_lo c (show (0 : Int) < 7 by decide)
  have h8 := mod_hi c (show (0 : Int) < 7 by decide)
  refine ⟨_, rfl, (show (0 : Int) < 7 by decide), _, rfl, (by show -(2 ^ 62 : Int) ≤ c % 7; omega), (by show c % 7 < (2 ^ 62 : Int); omega), fun i δ => ∃ (b : Str) (k : Option D), δ = [some (.int c), some (.int (m : Int)), some (.str letters), some (.str b), k, none, none] ∧ b.length ≤ i ∧ low b ∧ i ≤ 6, ?_, ?_, ?_⟩
  · exact ⟨"", none, rfl, (by decide +kernel), (fun c hc => by cases hc), (by decide)⟩
  · rintro i dd δ hd ⟨b, k, rfl, hb, lb, hi⟩
    have hlt : i < (c % 7).toNat := by
      have := (List.getElem?_eq_some_iff.mp hd).1
      simpa using this
    have hdd : D.int (0 + (i : Int)) = dd := by
      rw [List.getElem?_map, List.getElem?_range hlt] at hd
      simpa using hd
    subst hdd
    have e26 : letters.cps.toList.length = 26 := by decide +kernel
    have h26 := mod_hi (mixed c (20 + (0 + (i : Int))) / 31) (show (0 : Int) < 26 by decide)
    obtain ⟨x, hx, ex⟩ := atI_in (xs := letters.cps.toList) (mod_lo (mixed c (20 + (0 + (i : Int))) / 31) (show (0 : Int) < 26 by decide)) (by rw [e26]; exact h26)
    have lx : 97 ≤ x ∧ x ≤ 122 := by
      have all : ∀ x ∈ letters.cps.toList, 97 ≤ x ∧ x ≤ 122 := by decide +kernel
      exact all x hx
    refine ⟨_, rfl, _, rfl, _, rfl, _, rfl, _, _, rfl, cd (by decide) (by decide), (show (0 : Int) < 26 by decide), (by decide +kernel), x, ex, ?_, ?_⟩
    · show b.length + 1 ≤ sizeLine
      exact Nat.le_trans (show b.length + 1 ≤ 7 by omega) (by decide)
    · refine ⟨b ++ ⟨#[x]⟩, _, rfl, ?_, low_app lb (low_one lx), by omega⟩
      rw [app_len]
      exact Nat.add_le_add_right hb 1
  · rintro δ ⟨b, k, rfl, hb, lb, hi⟩
    have hb6 : b.length ≤ 6 := Nat.le_trans hb hi
    refine ⟨_, rfl, _, _, rfl, cd (by decide) (by decide), (show (0 : Int) < 7 by decide), ?_⟩
    have a0 := mod_lo (mixed c 30 / 7) (show (0 : Int) < 7 by decide)
    have a1 := mod_hi (mixed c 30 / 7) (show (0 : Int) < 7 by decide)
    obtain ⟨y, hy, ey⟩ := atI_in (xs := [D.str "", .str "", .str "row.", .str "a.in."]) (mod_lo (mixed c 31 / 7) (show (0 : Int) < 4 by decide)) (mod_hi (mixed c 31 / 7) (show (0 : Int) < 4 by decide))
    have hz : ∃ z, y = .str z ∧ z ∈ (["", "", "row.", "a.in."] : List Str) := by
      simp only [List.mem_cons, List.not_mem_nil, or_false] at hy
      rcases hy with rfl | rfl | rfl | rfl
      · exact ⟨_, rfl, by simp⟩
      · exact ⟨_, rfl, by simp⟩
      · exact ⟨_, rfl, by simp⟩
      · exact ⟨_, rfl, by simp⟩
    obtain ⟨z, rfl, hz⟩ := hz
    refine ⟨(show 4 ≤ sizeLine by decide), _, rfl, _, _, rfl, cd (by decide) (by decide), (show (0 : Int) < 4 by decide), _, ey, ?_⟩
    have hok : ∀ i : Nat, i < m → ∃ x, L2.atI oddL (0 + (i : Int)) = some x ∧ x ∈ oddL := fun i hi => by
      obtain ⟨x, h1, h2⟩ := atI_in (xs := oddL) (i := 0 + (i : Int)) (by omega) (by show 0 + (i : Int) < 9; omega)
      exact ⟨x, h2, h1⟩
    refine ⟨_, rfl, _, rfl, (by show -(2 ^ 62 : Int) ≤ (m : Int); omega), (by show (m : Int) < (2 ^ 62 : Int); omega), mO (nmD z b (mixed c 30 / 7 % 7)) ((List.range (m : Int).toNat).map fun i : Nat => .int (0 + (i : Int))), mO_len, fun i0 d o g1 g2 => ?_, ?_, ?_⟩
    · obtain ⟨hd, rfl⟩ := mO_at g1 g2
      obtain ⟨i, hi, rfl⟩ := List.mem_map.mp hd
      have hi' : i < m := by simpa using hi
      obtain ⟨x, e1, h1⟩ := hok i hi'
      have hs : ∀ l u : Option Int, (Txt.slice b l u).length ≤ 6 := fun l u => Nat.le_trans (Txt.slice_le b l u) hb6
      have hz5 : z.length ≤ 5 := by
        have all : ∀ y ∈ (["", "", "row.", "a.in."] : List Str), y.length ≤ 5 := by decide +kernel
        exact all _ hz
      have hsb : b.length ≤ sizeLine := Nat.le_trans hb6 (by decide)
      have l1 : z.length + (Txt.slice b none (some (mixed c 30 / 7 % 7))).length ≤ sizeLine := Nat.le_trans (Nat.add_le_add hz5 (hs _ _)) (by decide)
      have l2 : (z ++ Txt.slice b none (some (mixed c 30 / 7 % 7))).length + 1 ≤ sizeLine := by
        rw [app_len]
        exact Nat.le_trans (Nat.add_le_add_right (Nat.add_le_add hz5 (hs _ _)) 1) (by decide)
      have l3 : (z ++ Txt.slice b none (some (mixed c 30 / 7 % 7)) ++ (⟨#[x]⟩ : Str)).length + (Txt.slice b (some (mixed c 30 / 7 % 7)) none).length ≤ sizeLine := by
        rw [app_len, app_len]
        exact Nat.le_trans (Nat.add_le_add (Nat.add_le_add_right (Nat.add_le_add hz5 (hs _ _)) 1) (hs _ _)) (by decide)
      refine ⟨rfl, fun _ => ⟨_, rfl, _, rfl, _, rfl, _, rfl, hsb, l1, _, rfl, (by decide +kernel), x, e1, l2, _, rfl, _, rfl, _, rfl, hsb, l3, ?_⟩⟩
      show some (D.str (nm z b (mixed c 30 / 7 % 7) ((L2.atI oddL (0 + (i : Int))).getD 0))) = some (D.str (nm z b (mixed c 30 / 7 % 7) x))
      rw [e1]
      rfl
    · rw [List.length_map, List.length_range]
      exact Nat.lt_of_le_of_lt (show (m : Int).toNat ≤ 9 by omega) (by decide)
    · rw [mO_out]
      have e : (((List.range (m : Int).toNat).map fun i : Nat => D.int (0 + (i : Int))).map (nmD z b (mixed c 30 / 7 % 7))) = ((List.range m).map fun i : Nat => nm z b (mixed c 30 / 7 % 7) ((L2.atI oddL (0 + (i : Int))).getD 0)).map D.str := by
        rw [Int.toNat_natCast, List.map_map, List.map_map]
        rfl
      rw [e]
      refine q _ (by simp) fun x hx => ?_
      obtain ⟨i, hi, rfl⟩ := List.mem_map.mp hx
      obtain ⟨y, e1, h1⟩ := hok i (by simpa using hi)
      rw [e1]
      exact name_ok hz hb6 lb a0 a1 h1
end
end K03

set_option maxHeartbeats 4000000
namespace K03
open PySem PySem.Spec PyProof.Rows L2 DC
def szS : Nat → Nat
  | 0 => 1
  | d + 1 => 3 * szS d + 1
theorem szS_pos : ∀ k, 1 ≤ szS k
  | 0 => Nat.le_refl _
  | k + 1 => by unfold szS; omega
def sdTree (n : Nat) : SpD := fun ds Q => ∃ (c : Int) (l : List Str) (k : Nat), ds = [.int c, .lst (l.map D.str), .int (k : Int)] ∧ k < n ∧ l ≠ [] ∧ (∀ x ∈ l, okNm x) ∧ ∀ p : Pt, p.ok → p.depth ≤ k + 1 → p.size ≤ szS k → Q p.told
theorem m_Tree {n : Nat} : MonoS (sdTree n) := fun ds P P' f ⟨c, l, k, e, h1, h2, h3, q⟩ => ⟨c, l, k, e, h1, h2, h3, fun p o d s => f _ (q p o d s)⟩
def sdChain : SpD := fun ds Q => ∃ (c : Int) (l : List Str) (m : Nat), ds = [.int c, .lst (l.map D.str), .int (m : Int)] ∧ m ≤ 9 ∧ l ≠ [] ∧ (∀ x ∈ l, okNm x) ∧ ∀ p : Pt, p.ok → p.depth ≤ m + 1 → p.size ≤ m + 1 → Q p.told
def sdSome : SpD := fun ds Q => ∃ ns : List Int, ds = [.lst (ns.map D.int)] ∧ ∀ p : Pt, p.ok → okB p → Q p.told
theorem or_pick {b1 b2 : Bool} {L R : Prop} {U : (Bool → Prop) → Prop} (hU : ∀ Q : Bool → Prop, Q b2 → U Q) (hl : L) (hr : b1 = false → R) : if b1 = true then (if true = true then L else R) else U (fun b => if b = true then L else R) := by
  cases b1 with
  | true => exact iteT (iteT hl)
  | false =>
    refine iteF (hU _ ?_)
    cases b2 with
    | true => exact iteT hl
    | false => exact iteF (hr rfl)
theorem pick {l : List Str} (hl : l ≠ []) (ho : ∀ x ∈ l, okNm x) (i : Int) : (0 : Int) < ((l.map D.str).length : Int) ∧ ∃ x, okNm x ∧ L2.atI (l.map D.str) (i % ((l.map D.str).length : Int)) = some (.str x) := by
  have hp : (0 : Int) < ((l.map D.str).length : Int) := by
    rw [List.length_map]
    have := List.length_pos_iff.mpr hl
    omega
  obtain ⟨r, hr, er⟩ := atI_in (xs := l.map D.str) (mod_lo i hp) (mod_hi i hp)
  obtain ⟨x, hx, rfl⟩ := List.mem_map.mp hr
  exact ⟨hp, x, ho x hx, er⟩
section
seal wpAny
seal mixed
variable {P : Program} {w : World} {K : PySem.W.Frag} {mg : Str → Option Value} {base : Heap} {A : Adr} {n j : Nat}
theorem Df.never {x : Str} {st : Stmt} {ps : List Str} {sd : SpD} (d : Df K mg x st ps) (h : ∀ ds Q, ¬ sd ds Q) : Cal P w K mg base j x ps sd := by
  obtain ⟨f, fd, F, m, b⟩ := d.ex
  exact ⟨⟨f, fd, ⟨fun vs H Q E ⟨ds, _, q⟩ => (h _ _ q).elim, fun A outer s H args us vs Q E _ _ _ _ ⟨ds, _, q⟩ => (h _ _ q).elim⟩, m, F.kp, b⟩, fun ds P P' g q => (h _ _ q).elim⟩
theorem tree_step (d : Df K mg "_law_tree" s__law_tree ["_law_cell", "_law_names_here", "_law_deep"]) (n_len : mg "len" = none) (c__law_mixed : Cal P w K mg base j "_law_mixed" ["_law_cell", "_law_k"] sdMix)
    (c__law_number : Cal P w K mg base j "_law_number" ["_law_mix"] sdNumb) (c__law_value : Cal P w K mg base j "_law_value" ["_law_mix", "_law_kind"] sdValu) (c__law_tree : Cal P w K mg base j "_law_tree" ["_law_cell", "_law_names_here", "_law_deep"] (sdTree n)) :
    Cal P w K mg base (j + 1) "_law_tree" ["_law_cell", "_law_names_here", "_law_deep"] (sdTree (n + 1)) := by
  refine d.cal sc__law_tree m_Tree (fun ds Q ⟨c, l, k, e, _⟩ => by rw [e]; rfl) (fun f cdv A outer s H E hr => have hu := hr.units; have hh := hr.hd; have sc := sc__law_tree
    (ss_cons (s_set (i := 3) sc.nd rfl (Or.inl rfl) (d_mod (d_div (d_cal c__law_mixed hr (by omega) (by rfl) (a_cons (dv 0) (a_cons d_int a_nil))) d_int) d_int))
  (ss_cons (s_if (PWd.td (w_or (t_eq hu (dv 2) d_int) (w_or1 (t_lt (dv 3) d_int)))) (ss_cons (s_if (t_gt (d_mod (d_div (d_cal c__law_mixed hr (by omega) (by rfl) (a_cons (dv 0) (a_cons d_int a_nil))) d_int) d_int) d_int) (ss_one (s_ret (d_tup (a_cons d_str (a_cons (d_ix (dv 1) (d_mod (d_div (d_cal c__law_mixed hr (by omega) (by rfl) (a_cons (dv 0) (a_cons d_int a_nil))) d_int) (d_len (by rfl) n_len (a_cons (dv 1) a_nil))) (fun _ _ => rfl)) a_nil))))) ss_nil)
  (ss_one (s_ret (d_tup (a_cons d_str (a_cons (d_cal c__law_value hr (by omega) (by rfl) (a_cons (d_div (d_cal c__law_mixed hr (by omega) (by rfl) (a_cons (dv 0) (a_cons d_int a_nil))) d_int) (a_cons (d_ix (d_lst (a_ck (by rfl))) (d_mod (d_div (d_cal c__law_mixed hr (by omega) (by rfl) (a_cons (dv 0) (a_cons d_int a_nil))) d_int) d_int) (fun _ _ => rfl)) a_nil))) a_nil)))))) ss_nil)
  (ss_cons (s_set (i := 4) sc.nd rfl (Or.inl rfl) (d_cal c__law_tree hr (by omega) (by rfl) (a_cons (d_cal c__law_mixed hr (by omega) (by rfl) (a_cons (dv 0) (a_cons d_int a_nil))) (a_cons (dv 1) (a_cons (d_sub (dv 2) d_int) a_nil)))))
  (ss_cons (s_set (i := 5) sc.nd rfl (Or.inl rfl) (d_ix (dv 1) (d_mod (d_div (d_cal c__law_mixed hr (by omega) (by rfl) (a_cons (dv 0) (a_cons d_int a_nil))) d_int) (d_len (by rfl) n_len (a_cons (dv 1) a_nil))) (fun _ _ => rfl)))
  (ss_cons (s_set (i := 6) sc.nd rfl (Or.inl rfl) (d_ix (d_lst (a_cons d_non (a_cons d_non (a_cons (d_cal c__law_number hr (by omega) (by rfl) (a_cons (d_cal c__law_mixed hr (by omega) (by rfl) (a_cons (dv 0) (a_cons d_int a_nil))) a_nil)) (a_cons (d_eq hu (d_mod (d_cal c__law_mixed hr (by omega) (by rfl) (a_cons (dv 0) (a_cons d_int a_nil))) d_int) d_int) a_nil))))) (d_mod (d_div (d_cal c__law_mixed hr (by omega) (by rfl) (a_cons (dv 0) (a_cons d_int a_nil))) d_int) d_int) (fun _ _ => rfl)))
  (ss_cons (s_if (t_lt (dv 3) d_int) (ss_one (s_ret (d_ix (d_lst (a_cons (d_tup (a_cons d_str (a_cons (dv 4) a_nil))) (a_cons (d_tup (a_cons d_str (a_cons (dv 4) (a_cons (dv 6) a_nil)))) (a_cons (d_tup (a_cons d_str (a_cons (dv 4) (a_cons (dv 5) a_nil)))) (a_cons (d_tup (a_cons d_str (a_cons (dv 4) (a_cons (dv 5) (a_cons (dv 6) a_nil))))) a_nil))))) (d_mod (dv 3) d_int) (fun _ _ => rfl)))) ss_nil)
  (ss_cons (s_set (i := 7) sc.nd rfl (Or.inl rfl) (d_cal c__law_tree hr (by omega) (by rfl) (a_cons (d_cal c__law_mixed hr (by omega) (by rfl) (a_cons (dv 0) (a_cons d_int a_nil))) (a_cons (dv 1) (a_cons (d_sub (dv 2) d_int) a_nil)))))
  (ss_cons (s_if (t_eq hu (dv 3) d_int) (ss_one (s_ret (d_tup (a_cons d_str (a_cons (dv 4) (a_cons (dv 7) (a_cons (d_cal c__law_tree hr (by omega) (by rfl) (a_cons (d_cal c__law_mixed hr (by omega) (by rfl) (a_cons (dv 0) (a_cons d_int a_nil))) (a_cons (dv 1) (a_cons (d_sub (dv 2) d_int) a_nil)))) a_nil))))))) ss_nil)
  (ss_cons (s_if (t_eq hu (dv 3) d_int) (ss_one (s_ret (d_tup (a_cons d_str (a_cons (dv 4) (a_cons (dv 7) a_nil)))))) ss_nil)
  (ss_one (s_ret (d_tup (a_cons (d_ix (d_lst (a_ck (by rfl))) (d_mod (d_div (d_cal c__law_mixed hr (by omega) (by rfl) (a_cons (dv 0) (a_cons d_int a_nil))) d_int) d_int) (fun _ _ => rfl)) (a_cons (dv 4) (a_cons (dv 7) a_nil)))))))))))))))) ?_
  rintro ds Q ⟨c, l, k, rfl, hk, hl, ho, q⟩
  refine ⟨_, rfl, _, _, rfl, cd (by decide) (by decide), (show (0 : Int) < 15 by decide), ?_⟩
  have w0 := mod_lo (mixed c 1 / 7) (show (0 : Int) < 15 by decide)
  have w1 := mod_hi (mixed c 1 / 7) (show (0 : Int) < 15 by decide)
  obtain ⟨hp, x, hx, ex⟩ := pick hl ho (mixed c 3 / 7)
  refine ⟨_, rfl, _, rfl, or_pick (b2 := decide ((mixed c 1 / 7 % 15) < 2)) (fun Q q => ⟨_, rfl, _, rfl, q⟩) ?_ (fun hz => ?_)⟩
  · refine ⟨_, rfl, _, _, rfl, cd (by decide) (by decide), (show (0 : Int) < 3 by decide), _, rfl, ?_⟩
    have hpos := szS_pos k
    cases h : decide ((0 : Int) < mixed c 2 / 7 % 3) with
    | true => exact iteT ⟨_, rfl, _, rfl, _, _, rfl, cd (by decide) (by decide), _, rfl, _, _, rfl, rfl, hp, .str x, ex, (show 2 ≤ sizeLine by decide), q (.named x) hx (by show 1 ≤ k + 1; omega) hpos⟩
    | false =>
      obtain ⟨r, hr, er⟩ := atI_in (xs := [D.str "truth", .str "number"]) (mod_lo (mixed c 5 / 7) (show (0 : Int) < 2 by decide)) (mod_hi (mixed c 5 / 7) (show (0 : Int) < 2 by decide))
      have hr' : ∃ z, r = .str z := by
        simp only [List.mem_cons, List.not_mem_nil, or_false] at hr
        rcases hr with rfl | rfl <;> exact ⟨_, rfl⟩
      obtain ⟨z, rfl⟩ := hr'
      exact iteF ⟨_, rfl, _, _, rfl, cd (by decide) (by decide), (show 2 ≤ sizeLine by decide), _, rfl, _, _, rfl, cd (by decide) (by decide), (show (0 : Int) < 2 by decide), _, er, _, z, rfl, fun v hv => ⟨(show 2 ≤ sizeLine by decide), q (.given v) hv (by show 1 ≤ k + 1; omega) hpos⟩⟩
  · have hk0 : k ≠ 0 := fun z => by subst z; cases hz
    obtain ⟨m, rfl⟩ : ∃ m, k = m + 1 := ⟨k - 1, by omega⟩
    have hm : ((m + 1 : Nat) : Int) - 1 = (m : Int) := by omega
    have hn : m < n := by omega
    have es : szS (m + 1) = 3 * szS m + 1 := rfl
    have hsp := szS_pos m
    refine ⟨_, rfl, _, _, rfl, _, rfl, _, rfl, mixed c 11, l, m, congrArg (fun z => [D.int (mixed c 11), D.lst (l.map D.str), D.int z]) hm, hn, hl, ho, fun p1 o1 d1 s1 => ?_⟩
    refine ⟨_, rfl, _, rfl, _, _, rfl, cd (by decide) (by decide), _, rfl, _, _, rfl, rfl, hp, .str x, ex, ?_⟩
    refine ⟨_, rfl, _, _, rfl, _, rfl, fun i i1 i2 => ?_⟩
    obtain ⟨f, hf, ef⟩ := atI_in (xs := [D.non, .non, .int i, .bl (decide (mixed c 4 % 2 = 0))]) (mod_lo (mixed c 6 / 7) (show (0 : Int) < 4 by decide)) (mod_hi (mixed c 6 / 7) (show (0 : Int) < 4 by decide))
    have hf' : isFirst f := by
      simp only [List.mem_cons, List.not_mem_nil, or_false] at hf
      rcases hf with rfl | rfl | rfl | rfl
      · exact .inl rfl
      · exact .inl rfl
      · exact .inr (.inr ⟨i, rfl, i1, i2⟩)
      · exact .inr (.inl ⟨_, rfl⟩)
    refine ⟨_, rfl, _, _, rfl, (show (0 : Int) < 2 by decide), (show 4 ≤ sizeLine by decide), _, rfl, _, _, rfl, cd (by decide) (by decide), (show (0 : Int) < 4 by decide), f, ef, ?_⟩
    refine ⟨_, rfl, _, rfl, ?_⟩
    cases h8 : decide ((mixed c 1 / 7 % 15) < 8) with
    | true =>
      obtain ⟨r, hr, er⟩ := atI_in (xs := [(Pt.turned p1).told, (Pt.before p1 f).told, (Pt.whn p1 x).told, (Pt.held p1 x f).told]) (mod_lo (mixed c 1 / 7 % 15) (show (0 : Int) < 4 by decide)) (mod_hi (mixed c 1 / 7 % 15) (show (0 : Int) < 4 by decide))
      refine iteT ⟨_, rfl, (show 2 ≤ sizeLine by decide), _, rfl, _, rfl, (show 3 ≤ sizeLine by decide), _, rfl, _, rfl, (show 3 ≤ sizeLine by decide), _, rfl, _, rfl, _, rfl, (show 4 ≤ sizeLine by decide), (show 4 ≤ sizeLine by decide), _, rfl, (show (0 : Int) < 4 by decide), r, er, ?_⟩
      simp only [List.mem_cons, List.not_mem_nil, or_false] at hr
      rcases hr with rfl | rfl | rfl | rfl
      · exact q (.turned p1) o1 (by simp only [Pt.depth]; omega) (by simp only [Pt.size]; omega)
      · exact q (.before p1 f) ⟨o1, hf'⟩ (by simp only [Pt.depth]; omega) (by simp only [Pt.size]; omega)
      · exact q (.whn p1 x) ⟨o1, hx⟩ (by simp only [Pt.depth]; omega) (by simp only [Pt.size]; omega)
      · exact q (.held p1 x f) ⟨o1, hx, hf'⟩ (by simp only [Pt.depth]; omega) (by simp only [Pt.size]; omega)
    | false =>
      refine iteF ⟨_, rfl, _, _, rfl, _, rfl, _, rfl, mixed c 12, l, m, congrArg (fun z => [D.int (mixed c 12), D.lst (l.map D.str), D.int z]) hm, hn, hl, ho, fun p2 o2 d2 s2 => ?_⟩
      refine ⟨_, rfl, _, rfl, ?_⟩
      cases h9 : decide ((mixed c 1 / 7 % 15) = 8) with
      | true =>
        exact iteT ⟨_, rfl, _, rfl, _, rfl, _, _, rfl, _, rfl, _, rfl, mixed c 13, l, m, congrArg (fun z => [D.int (mixed c 13), D.lst (l.map D.str), D.int z]) hm, hn, hl, ho, fun p3 o3 d3 s3 => ⟨(show 4 ≤ sizeLine by decide), q (.choice p1 p2 p3) ⟨o1, o2, o3⟩ (by simp only [Pt.depth]; omega) (by simp only [Pt.size]; omega)⟩⟩
      | false =>
        refine iteF ⟨_, rfl, _, rfl, ?_⟩
        cases h10 : decide ((mixed c 1 / 7 % 15) = 9) with
        | true => exact iteT ⟨_, rfl, _, rfl, (show 3 ≤ sizeLine by decide), q (.led p1 p2) ⟨o1, o2⟩ (by simp only [Pt.depth]; omega) (by simp only [Pt.size]; omega)⟩
        | false =>
          obtain ⟨r, hr, er⟩ := atI_in (xs := [D.str "+", .str "-", .str "*", .str "=", .str "<", .str "<=", .str "and", .str "or"]) (mod_lo (mixed c 7 / 7) (show (0 : Int) < 8 by decide)) (mod_hi (mixed c 7 / 7) (show (0 : Int) < 8 by decide))
          have hr' : ∃ g, r = .str g ∧ g ∈ signL := by
            have : r ∈ signL.map D.str := hr
            obtain ⟨g, hg, rfl⟩ := List.mem_map.mp this
            exact ⟨g, rfl, hg⟩
          obtain ⟨g, rfl, hg⟩ := hr'
          exact iteF ⟨(show 8 ≤ sizeLine by decide), _, rfl, _, _, rfl, cd (by decide) (by decide), (show (0 : Int) < 8 by decide), _, er, _, rfl, _, rfl, (show 3 ≤ sizeLine by decide), q (.pair g p1 p2) ⟨hg, o1, o2⟩ (by simp only [Pt.depth]; omega) (by simp only [Pt.size]; omega)⟩
theorem tree_all (d : Df K mg "_law_tree" s__law_tree ["_law_cell", "_law_names_here", "_law_deep"]) (n_len : mg "len" = none) (c1 : Cal P w K mg base 1 "_law_mixed" ["_law_cell", "_law_k"] sdMix)
    (c2 : Cal P w K mg base 1 "_law_number" ["_law_mix"] sdNumb) (c3 : Cal P w K mg base 2 "_law_value" ["_law_mix", "_law_kind"] sdValu) : ∀ n, Cal P w K mg base (n + 2) "_law_tree" ["_law_cell", "_law_names_here", "_law_deep"] (sdTree n)
  | 0 => Df.never d fun ds Q ⟨_, _, _, _, h, _⟩ => absurd h (by omega)
  | n + 1 => tree_step d n_len (c1.up (by omega)) (c2.up (by omega)) (c3.up (by omega)) (tree_all d n_len c1 c2 c3 n)
theorem c_chain (d : Df K mg "_law_chain" s__law_chain ["_law_cell", "_law_names_here", "_law_size_here"]) (n_len : mg "len" = none) (n_range : mg "range" = none) (c__law_mixed : Cal P w K mg base j "_law_mixed" ["_law_cell", "_law_k"] sdMix)
    (c__law_tree : Cal P w K mg base j "_law_tree" ["_law_cell", "_law_names_here", "_law_deep"] (sdTree 1)) : Cal P w K mg base (j + 1) "_law_chain" ["_law_cell", "_law_names_here", "_law_size_here"] sdChain := by
  refine d.cal sc__law_chain (fun ds P P' f ⟨c, l, k, e, h1, h2, h3, q⟩ => ⟨c, l, k, e, h1, h2, h3, fun p o d s => f _ (q p o d s)⟩) (fun ds Q ⟨c, l, k, e, _⟩ => by rw [e]; rfl) (fun f cdv A outer s H E hr => have hu := hr.units; have hh := hr.hd; have sc := sc__law_chain
    (ss_cons (s_set (i := 3) sc.nd rfl (Or.inl rfl) (d_cal c__law_tree hr (by omega) (by rfl) (a_cons (d_cal c__law_mixed hr (by omega) (by rfl) (a_cons (dv 0) (a_cons d_int a_nil))) (a_cons (dv 1) (a_cons d_int a_nil)))))
  (ss_cons (s_for PassesOwn.never rfl (i_range1 (by rfl) n_range (a_cons (dv 2) a_nil)) (g_name (i := 4) sc.nd rfl (Or.inl rfl)) (ss_cons (s_set (i := 5) sc.nd rfl (Or.inl rfl) (d_mod (d_div (d_cal c__law_mixed hr (by omega) (by rfl) (a_cons (dv 0) (a_cons (d_add d_int (dv 4)) a_nil))) d_int) d_int))
  (ss_cons (s_set (i := 6) sc.nd rfl (Or.inl rfl) (d_ix (dv 1) (d_mod (d_div (d_cal c__law_mixed hr (by omega) (by rfl) (a_cons (dv 0) (a_cons (d_add d_int (dv 4)) a_nil))) d_int) (d_len (by rfl) n_len (a_cons (dv 1) a_nil))) (fun _ _ => rfl)))
  (ss_one (s_set (i := 3) sc.nd rfl (Or.inl rfl) (d_ix (d_lst (a_cons (d_tup (a_cons d_str (a_cons (dv 3) a_nil))) (a_cons (d_tup (a_cons d_str (a_cons (dv 3) (a_cons d_non a_nil)))) (a_cons (d_tup (a_cons d_str (a_cons (dv 3) (a_cons (dv 6) a_nil)))) (a_cons (d_tup (a_cons d_str (a_cons (dv 3) (a_cons (dv 6) (a_cons d_bl a_nil))))) a_nil))))) (dv 5) (fun _ _ => rfl)))))))
  (ss_one (s_ret (dv 3)))))) ?_
  rintro ds Q ⟨c, l, m, rfl, hm, hl, ho, q⟩
  refine ⟨_, rfl, _, _, rfl, _, rfl, _, l, 0, rfl, (by decide), hl, ho, fun p0 o0 d0 s0 => ?_⟩
  refine ⟨_, rfl, _, rfl, (by show -(2 ^ 62 : Int) ≤ (m : Int); omega), (by show (m : Int) < (2 ^ 62 : Int); omega), fun i δ => ∃ (p : Pt) (x y z : Option D), δ = [some (.int c), some (.lst (l.map D.str)), some (.int (m : Int)), some p.told, x, y, z] ∧ p.ok ∧ p.depth ≤ i + 1 ∧ p.size ≤ i + 1, ⟨p0, _, _, _, rfl, o0, d0, s0⟩, ?_, ?_⟩
  · rintro i dd δ hd ⟨p, y1, y2, y3, rfl, o, dp, sp⟩
    have hdd : ∃ z : Int, dd = D.int z := by
      rw [List.getElem?_map] at hd
      cases e : (List.range (m : Int).toNat)[i]? with
      | none => rw [e] at hd; cases hd
      | some v => rw [e] at hd; exact ⟨0 + (v : Int), by simpa using hd.symm⟩
    obtain ⟨z, rfl⟩ := hdd
    obtain ⟨hp, x, hx, ex⟩ := pick hl ho (mixed c (60 + z) / 7)
    obtain ⟨r, hr, er⟩ := atI_in (xs := [(Pt.turned p).told, (Pt.before p .non).told, (Pt.whn p x).told, (Pt.held p x (.bl true)).told]) (mod_lo (mixed c (50 + z) / 7) (show (0 : Int) < 4 by decide)) (mod_hi (mixed c (50 + z) / 7) (show (0 : Int) < 4 by decide))
    refine ⟨_, rfl, _, rfl, _, _, rfl, cd (by decide) (by decide), (show (0 : Int) < 4 by decide), _, rfl, _, rfl, _, rfl, _, _, rfl, cd (by decide) (by decide), _, rfl, _, _, rfl, rfl, hp, .str x, ex, ?_⟩
    refine ⟨_, rfl, (show 2 ≤ sizeLine by decide), _, rfl, (show 3 ≤ sizeLine by decide), _, rfl, _, rfl, (show 3 ≤ sizeLine by decide), _, rfl, _, rfl, (show 4 ≤ sizeLine by decide), (show 4 ≤ sizeLine by decide), _, rfl, r, er, ?_⟩
    simp only [List.mem_cons, List.not_mem_nil, or_false] at hr
    rcases hr with rfl | rfl | rfl | rfl
    · exact ⟨.turned p, _, _, _, rfl, o, by simp only [Pt.depth]; omega, by simp only [Pt.size]; omega⟩
    · exact ⟨.before p .non, _, _, _, rfl, ⟨o, .inl rfl⟩, by simp only [Pt.depth]; omega, by simp only [Pt.size]; omega⟩
    · exact ⟨.whn p x, _, _, _, rfl, ⟨o, hx⟩, by simp only [Pt.depth]; omega, by simp only [Pt.size]; omega⟩
    · exact ⟨.held p x (.bl true), _, _, _, rfl, ⟨o, hx, .inr (.inl ⟨_, rfl⟩)⟩, by simp only [Pt.depth]; omega, by simp only [Pt.size]; omega⟩
  · rintro δ ⟨p, y1, y2, y3, rfl, o, dp, sp⟩
    rw [List.length_map, List.length_range, Int.toNat_natCast] at dp sp
    exact ⟨_, rfl, q p o dp sp⟩
theorem c_some (d : Df K mg "_law_some" s__law_some ["_law_script"]) (c__law_mixed : Cal P w K mg base j "_law_mixed" ["_law_cell", "_law_k"] sdMix) (c__law_cell_at : Cal P w K mg base j "_law_cell_at" ["_law_script", "_law_k"] sdCell)
    (c__law_names : Cal P w K mg base j "_law_names" ["_law_cell", "_law_many"] sdNames) (c__law_chain : Cal P w K mg base j "_law_chain" ["_law_cell", "_law_names_here", "_law_size_here"] sdChain)
    (c__law_tree : Cal P w K mg base j "_law_tree" ["_law_cell", "_law_names_here", "_law_deep"] (sdTree 4)) : Cal P w K mg base (j + 1) "_law_some" ["_law_script"] sdSome := by
  refine d.cal sc__law_some (fun ds P P' f ⟨ns, e, q⟩ => ⟨ns, e, fun p o b => f _ (q p o b)⟩) (fun ds Q ⟨ns, e, _⟩ => by rw [e]; rfl) (fun f cdv A outer s H E hr => have hu := hr.units; have hh := hr.hd; have sc := sc__law_some
    (ss_cons (s_set (i := 1) sc.nd rfl (Or.inl rfl) (d_cal c__law_cell_at hr (by omega) (by rfl) (a_cons (dv 0) (a_cons d_int a_nil))))
  (ss_cons (s_set (i := 2) sc.nd rfl (Or.inl rfl) (d_cal c__law_names hr (by omega) (by rfl) (a_cons (d_cal c__law_cell_at hr (by omega) (by rfl) (a_cons (dv 0) (a_cons d_int a_nil))) (a_cons (d_add d_int (d_mod (d_div (d_cal c__law_mixed hr (by omega) (by rfl) (a_cons (dv 1) (a_cons d_int a_nil))) d_int) d_int)) a_nil))))
  (ss_cons (s_if (t_eq hu (d_mod (d_div (d_cal c__law_mixed hr (by omega) (by rfl) (a_cons (dv 1) (a_cons d_int a_nil))) d_int) d_int) d_int) (ss_one (s_ret (d_cal c__law_chain hr (by omega) (by rfl) (a_cons (dv 1) (a_cons (dv 2) (a_cons (d_mod (d_div (d_cal c__law_mixed hr (by omega) (by rfl) (a_cons (dv 1) (a_cons d_int a_nil))) d_int) d_int) a_nil)))))) ss_nil)
  (ss_one (s_ret (d_cal c__law_tree hr (by omega) (by rfl) (a_cons (dv 1) (a_cons (dv 2) (a_cons (d_ix (d_lst (a_ck (by rfl))) (d_mod (d_div (d_cal c__law_mixed hr (by omega) (by rfl) (a_cons (dv 1) (a_cons d_int a_nil))) d_int) d_int) (fun _ _ => rfl)) a_nil)))))))))) ?_
  rintro ds Q ⟨ns, rfl, q⟩
  refine ⟨_, rfl, ns, 1, rfl, (by decide), fun c => ?_⟩
  have m0 := mod_lo (mixed c 3 / 7) (show (0 : Int) < 9 by decide)
  have m1 := mod_hi (mixed c 3 / 7) (show (0 : Int) < 9 by decide)
  refine ⟨_, rfl, ns, 0, rfl, (by decide), fun c0 => ⟨_, rfl, _, _, rfl, cd (by decide) (by decide), (show (0 : Int) < 9 by decide), c0, (1 + mixed c 3 / 7 % 9).toNat, congrArg (fun z => [D.int c0, D.int z]) (show 1 + mixed c 3 / 7 % 9 = (((1 + mixed c 3 / 7 % 9).toNat : Nat) : Int) by omega), by omega, by omega, fun l hl ho => ?_⟩⟩
  have hne : l ≠ [] := fun z => by rw [z] at hl; simp only [List.length_nil] at hl; omega
  refine ⟨_, rfl, _, _, rfl, cd (by decide) (by decide), (show (0 : Int) < 8 by decide), _, rfl, ?_⟩
  cases h : decide (mixed c 4 / 7 % 8 = 0) with
  | true =>
    have n0 := mod_lo (mixed c 5 / 7) (show (0 : Int) < 10 by decide)
    have n1 := mod_hi (mixed c 5 / 7) (show (0 : Int) < 10 by decide)
    exact iteT ⟨_, rfl, _, rfl, _, rfl, _, _, rfl, cd (by decide) (by decide), (show (0 : Int) < 10 by decide), c, l, (mixed c 5 / 7 % 10).toNat, congrArg (fun z => [D.int c, D.lst (l.map D.str), D.int z]) (show mixed c 5 / 7 % 10 = (((mixed c 5 / 7 % 10).toNat : Nat) : Int) by omega), by omega, hne, ho, fun p o dp sp => q p o ⟨by omega, by omega⟩⟩
  | false =>
    obtain ⟨r, hr, er⟩ := atI_in (xs := [D.int 0, .int 1, .int 2, .int 3, .int 3]) (mod_lo (mixed c 6 / 7) (show (0 : Int) < 5 by decide)) (mod_hi (mixed c 6 / 7) (show (0 : Int) < 5 by decide))
    have hr' : ∃ k : Nat, r = .int (k : Int) ∧ k < 4 ∧ szS k ≤ 40 := by
      simp only [List.mem_cons, List.not_mem_nil, or_false] at hr
      rcases hr with rfl | rfl | rfl | rfl | rfl
      · exact ⟨0, rfl, by decide, by decide⟩
      · exact ⟨1, rfl, by decide, by decide⟩
      · exact ⟨2, rfl, by decide, by decide⟩
      · exact ⟨3, rfl, by decide, by decide⟩
      · exact ⟨3, rfl, by decide, by decide⟩
    obtain ⟨k, rfl, hk, hs⟩ := hr'
    exact iteF ⟨_, rfl, _, rfl, (show 5 ≤ sizeLine by decide), _, rfl, _, _, rfl, cd (by decide) (by decide), (show (0 : Int) < 5 by decide), _, er, c, l, k, rfl, hk, hne, ho, fun p o dp sp => q p o ⟨by omega, by omega⟩⟩
end
end K03

set_option maxHeartbeats 4000000
namespace K03
open PySem PySem.Spec PyProof.Rows L2 DC
def Pt.word : Pt → Str
  | .given _ => "given" | .named _ => "named" | .turned _ => "not" | .pair g _ _ => g | .choice _ _ _ => "if"
  | .before _ _ => "before" | .led _ _ => "then" | .whn _ _ => "when" | .held _ _ _ => "held"
def Pt.rest : Pt → List D
  | .given v => [v] | .named s => [.str s] | .turned p => [p.told] | .pair _ a b => [a.told, b.told] | .choice t a b => [t.told, a.told, b.told]
  | .before p f => [p.told, f] | .led h r => [h.told, r.told] | .whn p s => [p.told, .str s] | .held p s f => [p.told, .str s, f]
theorem Pt.told_eq (p : Pt) : p.told = .tup (.str p.word :: p.rest) := by cases p <;> rfl
def tupB : D → Bool
  | .tup _ => true
  | _ => false
theorem tup_told (p : Pt) : tupB p.told = true := by rw [p.told_eq]; rfl
theorem isi_tup {d : D} (h : (kindD d).isSome = true) : isiT "tuple" d = some (tupB d) := by
  cases d <;> first | rfl | cases h
theorem cut1 (x : D) (xs : List D) : HT.sIx (x :: xs).length 0 (some 1) = 1 ∧ DC.cutD (x :: xs) (some 1) none = xs := by
  have e : HT.sIx (x :: xs).length 0 (some 1) = 1 := six1 x xs
  refine ⟨e, ?_⟩
  unfold DC.cutD
  rw [e]
  show List.take ((x :: xs).length - 1) xs = xs
  rw [List.length_cons, Nat.add_sub_cancel, List.take_length]
theorem val_kind {v : D} (h : isVal v) : (kindD v).isSome = true ∧ tupB v = false := by rcases h with ⟨b, rfl⟩ | ⟨i, rfl, _⟩ <;> exact ⟨rfl, rfl⟩
theorem first_kind {v : D} (h : isFirst v) : (kindD v).isSome = true ∧ tupB v = false := by
  rcases h with rfl | h
  · exact ⟨rfl, rfl⟩
  · exact val_kind h
theorem told_kind (p : Pt) : (kindD p.told).isSome = true := by rw [p.told_eq]; rfl
theorem rest_kind {p : Pt} (ho : p.ok) : ∀ d ∈ p.rest, (kindD d).isSome = true := by
  intro d hd
  cases p <;> simp only [Pt.rest, Pt.ok, List.mem_cons, List.not_mem_nil, or_false] at hd ho
  case given => subst hd; exact (val_kind ho).1
  case named => subst hd; rfl
  case turned => subst hd; exact told_kind _
  case pair => rcases hd with rfl | rfl <;> exact told_kind _
  case choice => rcases hd with rfl | rfl | rfl <;> exact told_kind _
  case before => rcases hd with rfl | rfl; exact told_kind _; exact (first_kind ho.2).1
  case led => rcases hd with rfl | rfl <;> exact told_kind _
  case whn => rcases hd with rfl | rfl; exact told_kind _; rfl
  case held => rcases hd with rfl | rfl | rfl; exact told_kind _; rfl; exact (first_kind ho.2.2).1
theorem rest_inner {p : Pt} (ho : p.ok) : (p.rest.filter tupB).map id = p.inner.map Pt.told := by
  have s : ∀ s : Str, tupB (.str s) = false := fun _ => rfl
  cases p <;> simp only [Pt.rest, Pt.inner, Pt.ok] at ho ⊢
  case given => simp [(val_kind ho).2]
  case named => simp [s]
  case turned => simp [tup_told]
  case pair => simp [tup_told]
  case choice => simp [tup_told]
  case before => simp [tup_told, (first_kind ho.2).2]
  case led => simp [tup_told]
  case whn => simp [tup_told, s]
  case held => simp [tup_told, s, (first_kind ho.2.2).2]
theorem rest_len (p : Pt) : p.rest.length ≤ 3 := by cases p <;> simp [Pt.rest]
def sdTn (n : Nat) (ok : Pt → Prop) (g : Pt → D) : SpD := fun ds Q => ∃ p : Pt, ds = [p.told] ∧ p.depth ≤ n ∧ ok p ∧ Q (g p)
theorem m_Tn {n : Nat} {ok : Pt → Prop} {g : Pt → D} : MonoS (sdTn n ok g) := fun ds P P' f ⟨p, e, d, h, q⟩ => ⟨p, e, d, h, f _ q⟩
theorem l_Tn {n : Nat} {ok : Pt → Prop} {g : Pt → D} (ds : List D) (Q : D → Prop) (h : sdTn n ok g ds Q) : ds.length = 1 := by obtain ⟨x, e, _⟩ := h; rw [e]; rfl
theorem zero_Tn {ok : Pt → Prop} {g : Pt → D} (ds : List D) (Q : D → Prop) : ¬ sdTn 0 ok g ds Q := fun ⟨p, _, h, _⟩ => absurd p.depth_pos (by omega)
theorem told_at {g : Pt → D} {ps : List Pt} {i : Nat} {d : D} {o : Option D} (h1 : (ps.map Pt.told)[i]? = some d) (h2 : (ps.map fun q => some (g q))[i]? = some o) : ∃ q ∈ ps, q.told = d ∧ some (g q) = o := by
  rw [List.getElem?_map] at h1 h2
  cases e : ps[i]? with
  | none => rw [e] at h1; cases h1
  | some q =>
    rw [e] at h1 h2
    exact ⟨q, List.mem_of_getElem? e, by simpa using h1, by simpa using h2⟩
def gIn (p : Pt) : D := .lst (p.inner.map Pt.told)
section
seal wpAny
variable {P : Program} {w : World} {K : PySem.W.Frag} {mg : Str → Option Value} {base : Heap} {A : Adr} {n j : Nat}
theorem c_inner (d : Df K mg "_law_inner" s__law_inner ["_law_told"]) (n_isinstance : mg "isinstance" = none) (n_tuple : mg "tuple" = none) : Cal P w K mg base (j + 1) "_law_inner" ["_law_told"] (sdTd Pt.ok gIn) := by
  refine d.cal sc__law_inner m_Td l_Td (fun f cdv A outer s H E hr => have hu := hr.units; have hh := hr.hd; have sc := sc__law_inner
    (ss_one (s_ret (d_lc (x := "_law_one") (caps := []) (cn := []) (cl := []) (comp0 (by rfl) (by rfl) (by decide +kernel) (by decide +kernel) (by decide +kernel)) rfl (i_any (d_slice (dv 0) (o_some d_int) o_none)) (fun C fp s₂ H₂ => pg_name (i := 0) (show (["_law_one"] : List Str).Nodup by decide +kernel) rfl (Or.inl rfl) (.inr rfl)) (fun C fp s₂ H₂ => (ts_one (t_tru (isi_tuple (by rfl) n_isinstance (by rfl) n_tuple (dv 0))))) (fun C fp s₂ H₂ => (dv 0)))))) ?_
  rintro ds Q ⟨p, rfl, ho, q⟩
  have hc := cut1 (.str p.word) p.rest
  rw [p.told_eq]
  refine ⟨_, rfl, _, rfl, fun z => by rw [hc.1] at z; exact absurd z.1 (by decide), p.rest, congrArg some hc.2, fO tupB id p.rest, fO_len, fun i d o h1 h2 => ?_, ?_, ?_⟩
  · obtain ⟨hd, e⟩ := fO_at h1 h2
    exact ⟨_, rfl, _, isi_tup (rest_kind ho d hd), _, rfl, fO_one (R := fun k => vVar 0 _ k) e ⟨_, rfl, rfl⟩⟩
  · exact Nat.lt_of_le_of_lt (rest_len p) (by decide)
  · rw [fO_out, rest_inner ho]; exact q
theorem c_size (d : Df K mg "_law_size" s__law_size ["_law_told"]) (n_sum : mg "sum" = none) (c__law_inner : Cal P w K mg base j "_law_inner" ["_law_told"] (sdTd Pt.ok gIn)) (c__law_size : Cal P w K mg base j "_law_size" ["_law_told"] (sdTn n Pt.ok fun p => .int p.size)) :
    Cal P w K mg base (j + 1) "_law_size" ["_law_told"] (sdTn (n + 1) Pt.ok fun p => .int p.size) := by
  refine d.cal sc__law_size m_Tn l_Tn (fun f cdv A outer s H E hr => have hu := hr.units; have hh := hr.hd; have sc := sc__law_size
    (ss_one (s_ret (d_add d_int (d_sum hh (by rfl) n_sum (a_cons (d_lc (x := "_law_one") (caps := []) (cn := []) (cl := []) (comp0 (by rfl) (by rfl) (by decide +kernel) (by decide +kernel) (by decide +kernel)) rfl (i_any (d_cal c__law_inner hr (by omega) (by rfl) (a_cons (dv 0) a_nil))) (fun C fp s₂ H₂ => pg_name (i := 0) (show (["_law_one"] : List Str).Nodup by decide +kernel) rfl (Or.inl rfl) (.inr rfl)) (fun C fp s₂ H₂ => ts_nil) (fun C fp s₂ H₂ => (d_cal c__law_size hr (by omega) (by rfl) (a_cons (dv 0) a_nil)))) a_nil)))))) ?_
  rintro ds Q ⟨p, rfl, hd, ho, q⟩
  refine ⟨_, rfl, p, rfl, ho, p.inner.map Pt.told, rfl, p.inner.map fun q => some (.int q.size), by simp, fun i d o h1 h2 => ?_, ?_, p.inner.map fun q => (q.size : Int), ?_, ?_⟩
  · obtain ⟨r, hr, e1, e2⟩ := told_at (g := fun q => .int q.size) h1 h2
    subst e1 e2
    exact ⟨rfl, fun _ => ⟨_, rfl, r, rfl, p.in_depth hr hd, Pt.ok_in hr ho, rfl⟩⟩
  · rw [List.length_map]; exact Nat.lt_of_le_of_lt p.inner_len (by decide)
  · rw [List.filterMap_map, filterMap_some, List.map_map]; rfl
  · have q' : Q (.int p.size) := q
    rw [p.size_inner] at q'
    exact q'
theorem c_depth (d : Df K mg "_law_depth" s__law_depth ["_law_told"]) (n_max : mg "max" = none) (c__law_inner : Cal P w K mg base j "_law_inner" ["_law_told"] (sdTd Pt.ok gIn)) (c__law_depth : Cal P w K mg base j "_law_depth" ["_law_told"] (sdTn n Pt.ok fun p => .int p.depth)) :
    Cal P w K mg base (j + 1) "_law_depth" ["_law_told"] (sdTn (n + 1) Pt.ok fun p => .int p.depth) := by
  refine d.cal sc__law_depth m_Tn l_Tn (fun f cdv A outer s H E hr => have hu := hr.units; have hh := hr.hd; have sc := sc__law_depth
    (ss_one (s_ret (d_add d_int (d_max hh (by rfl) n_max (a_cons (d_add (d_lst (a_ck (by rfl))) (d_lc (x := "_law_one") (caps := []) (cn := []) (cl := []) (comp0 (by rfl) (by rfl) (by decide +kernel) (by decide +kernel) (by decide +kernel)) rfl (i_any (d_cal c__law_inner hr (by omega) (by rfl) (a_cons (dv 0) a_nil))) (fun C fp s₂ H₂ => pg_name (i := 0) (show (["_law_one"] : List Str).Nodup by decide +kernel) rfl (Or.inl rfl) (.inr rfl)) (fun C fp s₂ H₂ => ts_nil) (fun C fp s₂ H₂ => (d_cal c__law_depth hr (by omega) (by rfl) (a_cons (dv 0) a_nil))))) a_nil)))))) ?_
  rintro ds Q ⟨p, rfl, hd, ho, q⟩
  have e : (p.depth : Int) = 1 + maxI 0 (0 :: p.inner.map fun q => (q.depth : Int)) := by
    cases p <;> simp only [Pt.depth, Pt.inner, List.map_cons, List.map_nil, maxI, List.foldl_cons, List.foldl_nil] <;> omega
  refine ⟨(show 1 ≤ sizeLine by decide), _, rfl, p, rfl, ho, p.inner.map Pt.told, rfl, p.inner.map fun q => some (.int q.depth), by simp, fun i d o h1 h2 => ?_, ?_, ?_, 0 :: p.inner.map fun q => (q.depth : Int), ?_, (by simp), ?_⟩
  · obtain ⟨r, hr, e1, e2⟩ := told_at (g := fun q => .int q.depth) h1 h2
    subst e1 e2
    exact ⟨rfl, fun _ => ⟨_, rfl, r, rfl, p.in_depth hr hd, Pt.ok_in hr ho, rfl⟩⟩
  · rw [List.length_map]; exact Nat.lt_of_le_of_lt p.inner_len (by decide)
  · rw [List.filterMap_map, filterMap_some, List.length_map]
    show 1 + p.inner.length ≤ sizeLine
    exact Nat.le_trans (Nat.add_le_add_left p.inner_len 1) (by decide)
  · rw [List.filterMap_map, filterMap_some, List.map_cons, List.map_map]; rfl
  · have q' : Q (.int p.depth) := q
    rw [e] at q'
    exact q'
theorem size_law (d : Df K mg "_law_size" s__law_size ["_law_told"]) (n_sum : mg "sum" = none) (ci : Cal P w K mg base 1 "_law_inner" ["_law_told"] (sdTd Pt.ok gIn)) : ∀ n, Cal P w K mg base (n + 1) "_law_size" ["_law_told"] (sdTn n Pt.ok fun p => .int p.size)
  | 0 => Df.never d zero_Tn
  | n + 1 => c_size d n_sum (ci.up (by omega)) (size_law d n_sum ci n)
theorem depth_law (d : Df K mg "_law_depth" s__law_depth ["_law_told"]) (n_max : mg "max" = none) (ci : Cal P w K mg base 1 "_law_inner" ["_law_told"] (sdTd Pt.ok gIn)) : ∀ n, Cal P w K mg base (n + 1) "_law_depth" ["_law_told"] (sdTn n Pt.ok fun p => .int p.depth)
  | 0 => Df.never d zero_Tn
  | n + 1 => c_depth d n_max (ci.up (by omega)) (depth_law d n_max ci n)
theorem c_vtext (d : Df K mg "_law_value_text" s__law_value_text ["_law_value_here"]) (n_isinstance : mg "isinstance" = none) (n_bool : mg "bool" = none) (n_int : mg "int" = none) (n_str : mg "str" = none) : Cal P w K mg base (j + 1) "_law_value_text" ["_law_value_here"] sdVT := by
  refine d.cal sc__law_value_text (fun ds P P' g ⟨d, e, h, q⟩ => ⟨d, e, h, g _ q⟩) (fun ds Q ⟨d, e, _⟩ => by rw [e]; rfl) (fun f cdv A outer s H E hr => have hu := hr.units; have hh := hr.hd; have sc := sc__law_value_text
    (ss_cons (s_if (t_tru (isi_bool (by rfl) n_isinstance (by rfl) n_bool (dv 0))) (ss_one (s_ret (d_ix (d_lst (a_ck (by rfl))) (d_int_of (by rfl) n_int (a_cons (dv 0) a_nil)) (fun _ _ => rfl)))) ss_nil)
  (ss_one (s_ret (d_str_of (by rfl) n_str (a_cons (dv 0) a_nil)))))) ?_
  rintro ds Q ⟨d, rfl, hv, q⟩
  rcases hv with ⟨b, rfl⟩ | ⟨i, rfl, h1, h2⟩
  · refine ⟨_, rfl, true, rfl, _, rfl, iteT ⟨(show 2 ≤ sizeLine by decide), _, rfl, .inr ⟨b, rfl, ?_⟩⟩⟩
    cases b
    · exact ⟨_, rfl, q⟩
    · exact ⟨_, rfl, q⟩
  · exact ⟨_, rfl, false, rfl, _, rfl, iteF ⟨_, rfl, i, rfl, small_int h1 h2, q⟩⟩
end
end K03

set_option maxHeartbeats 4000000
namespace K03
open PySem PySem.Spec PyProof.Rows L2 DC
def Sh (n : Nat) (x : Str) : Prop := x.length ≤ n
theorem sA {a b : Nat} {x y : Str} (h : Sh a x) (g : Sh b y) : Sh (a + b) (x ++ y) := by unfold Sh at *; rw [app_len]; omega
theorem fitS {a b : Nat} {x y : Str} (h : Sh a x) (g : Sh b y) (z : a + b ≤ 1000000) : x.length + y.length ≤ sizeLine := Nat.le_trans (Nat.add_le_add h g) (Nat.le_trans z (by decide))
theorem castQ {Q : D → Prop} {x y : Str} (h : x.cps.toList = y.cps.toList) (q : Q (.str y)) : Q (.str x) := str_ext h ▸ q
theorem lit {x : Str} (h : x.length ≤ 10 := by decide +kernel) : Sh 10 x := h
theorem val_short {v : D} (h : isVal v) : (valText v).length ≤ 10 := by
  rcases h with ⟨b, rfl⟩ | ⟨i, rfl, h1, h2⟩
  · cases b <;> decide +kernel
  · have all : ∀ k : Fin 256, (toString ((k.val : Int) - 128) : Str).length ≤ 10 := by decide +kernel
    have q := all ⟨(i + 128).toNat, by omega⟩
    have e : (((i + 128).toNat : Nat) : Int) - 128 = i := by omega
    show (toString i : Str).length ≤ 10
    rw [show (((⟨(i + 128).toNat, by omega⟩ : Fin 256).val : Int) - 128) = i from e] at q
    exact q
theorem first_short {v : D} (h : isFirst v) : (valText v).length ≤ 10 := by
  rcases h with rfl | h
  · decide +kernel
  · exact val_short h
theorem firstT_short {v : D} (h : isFirst v) : (firstText v).length ≤ 20 := by
  rcases h with rfl | h
  · decide +kernel
  · have e : firstText v = (" " : Str) ++ valText v := by rcases h with ⟨b, rfl⟩ | ⟨i, rfl, _⟩ <;> rfl
    rw [e, app_len]
    have := val_short h
    have h1 : (" " : Str).length = 1 := by decide +kernel
    omega
theorem sign_short {g : Str} (h : g ∈ signL) : g.length ≤ 3 := by
  have all : ∀ g ∈ signL, g.length ≤ 3 := by decide +kernel
  exact all g h
theorem lens : Str.empty.length = 0 ∧ ("(not " : Str).length = 5 ∧ (")" : Str).length = 1 ∧ ("(" : Str).length = 1 ∧ (" " : Str).length = 1 ∧ ("(if " : Str).length = 4 ∧ ("(before " : Str).length = 8 ∧ (" then " : Str).length = 6 ∧ (" when " : Str).length = 6 ∧ (" held " : Str).length = 6 := by decide +kernel
theorem Pt.text_le : ∀ p : Pt, p.ok → p.text.length ≤ 200 * p.size
  | .given v, h => by have := val_short h; simp only [Pt.text, Pt.size]; omega
  | .named s, h => by have := h.2.1; simp only [Pt.text, Pt.size]; omega
  | .turned p, h => by have := p.text_le h; obtain ⟨e0, e1, e2, e3, e4, e5, e6, e7, e8, e9⟩ := lens; simp only [Pt.text, Pt.size, app_len]; omega
  | .pair g x y, h => by have := x.text_le h.2.1; have := y.text_le h.2.2; have := sign_short h.1; obtain ⟨e0, e1, e2, e3, e4, e5, e6, e7, e8, e9⟩ := lens; simp only [Pt.text, Pt.size, app_len]; omega
  | .choice x y z, h => by have := x.text_le h.1; have := y.text_le h.2.1; have := z.text_le h.2.2; obtain ⟨e0, e1, e2, e3, e4, e5, e6, e7, e8, e9⟩ := lens; simp only [Pt.text, Pt.size, app_len]; omega
  | .before p f, h => by have := p.text_le h.1; have := firstT_short h.2; obtain ⟨e0, e1, e2, e3, e4, e5, e6, e7, e8, e9⟩ := lens; simp only [Pt.text, Pt.size, app_len]; omega
  | .led x y, h => by have := x.text_le h.1; have := y.text_le h.2; obtain ⟨e0, e1, e2, e3, e4, e5, e6, e7, e8, e9⟩ := lens; simp only [Pt.text, Pt.size, app_len]; omega
  | .whn p s, h => by have := p.text_le h.1; have := h.2.2.1; obtain ⟨e0, e1, e2, e3, e4, e5, e6, e7, e8, e9⟩ := lens; simp only [Pt.text, Pt.size, app_len]; omega
  | .held p s f, h => by have := p.text_le h.1; have := h.2.1.2.1; have := firstT_short h.2.2; obtain ⟨e0, e1, e2, e3, e4, e5, e6, e7, e8, e9⟩ := lens; simp only [Pt.text, Pt.size, app_len]; omega
theorem Pt.fine_of : ∀ p : Pt, p.ok → p.fine
  | .given v, h => h
  | .named s, h => trivial
  | .turned p, h => p.fine_of h
  | .pair g x y, h => ⟨x.fine_of h.2.1, y.fine_of h.2.2⟩
  | .choice x y z, h => ⟨x.fine_of h.1, y.fine_of h.2.1, z.fine_of h.2.2⟩
  | .before p f, h => ⟨p.fine_of h.1, h.2, Nat.le_trans (first_short h.2) (by decide)⟩
  | .led x y, h => ⟨x.fine_of h.1, y.fine_of h.2⟩
  | .whn p s, h => p.fine_of h.1
  | .held p s f, h => ⟨p.fine_of h.1, h.2.2, Nat.le_trans (first_short h.2.2) (by decide)⟩
def okL (p : Pt) : Prop := p.ok ∧ p.size ≤ 40
theorem okL.t {p : Pt} (h : okL p) : okT p := ⟨p.fine_of h.1, by have := p.text_le h.1; have := h.2; omega⟩
theorem okL.in {p q : Pt} (h : okL p) (m : q ∈ p.inner) : okL q := ⟨Pt.ok_in m h.1, Nat.le_trans (Pt.in_size m) h.2⟩
theorem okL.sh {p : Pt} (h : okL p) : Sh 8000 p.text := by have := p.text_le h.1; have := h.2; unfold Sh; omega
section
seal wpAny
variable {P : Program} {w : World} {K : PySem.W.Frag} {mg : Str → Option Value} {base : Heap} {A : Adr} {n j : Nat}
theorem c_text (d : Df K mg "_law_text" s__law_text ["_law_told"]) (c__law_value_text : Cal P w K mg base j "_law_value_text" ["_law_value_here"] sdVT) (c__law_text : Cal P w K mg base j "_law_text" ["_law_told"] (sdTn n okL fun p => .str p.text)) :
    Cal P w K mg base (j + 1) "_law_text" ["_law_told"] (sdTn (n + 1) okL fun p => .str p.text) := by
  refine d.cal sc__law_text m_Tn l_Tn (fun f cdv A outer s H E hr => have hu := hr.units; have hh := hr.hd; have sc := sc__law_text
    (ss_cons (s_set (i := 1) sc.nd rfl (Or.inl rfl) (d_ix (dv 0) d_int (fun _ _ => rfl)))
  (ss_cons (s_if (t_eq hu (dv 1) d_str) (ss_one (s_ret (d_cal c__law_value_text hr (by omega) (by rfl) (a_cons (d_ix (dv 0) d_int (fun _ _ => rfl)) a_nil)))) ss_nil)
  (ss_cons (s_if (t_eq hu (dv 1) d_str) (ss_one (s_ret (d_ix (dv 0) d_int (fun _ _ => rfl)))) ss_nil)
  (ss_cons (s_set (i := 2) sc.nd rfl (Or.inl rfl) d_str)
  (ss_cons (s_if (PWd.td (w_and (t_in (dv 1) (d_tup (a_ck (by rfl))) (by rfl)) (w_and1 (t_isnot (d_ix (dv 0) (d_neg d_int) (fun _ _ => rfl)) d_non)))) (ss_one (s_set (i := 2) sc.nd rfl (Or.inl rfl) (d_add (d_add d_str (d_cal c__law_value_text hr (by omega) (by rfl) (a_cons (d_ix (dv 0) (d_neg d_int) (fun _ _ => rfl)) a_nil))) d_str))) ss_nil)
  (ss_cons (s_set (i := 3) sc.nd rfl (Or.inl rfl) (d_cal c__law_text hr (by omega) (by rfl) (a_cons (d_ix (dv 0) d_int (fun _ _ => rfl)) a_nil)))
  (ss_cons (s_if (PWd.td (w_or (t_eq hu (dv 1) d_str) (w_or1 (t_eq hu (dv 1) d_str)))) (ss_one (s_ret (d_add (d_add (d_add (d_add d_str (dv 1)) d_str) (dv 3)) (dv 2)))) ss_nil)
  (ss_cons (s_if (PWd.td (w_or (t_eq hu (dv 1) d_str) (w_or1 (t_eq hu (dv 1) d_str)))) (ss_one (s_ret (d_add (d_add (d_add (d_add (d_add (d_add d_str (dv 3)) d_str) (dv 1)) d_str) (d_ix (dv 0) d_int (fun _ _ => rfl))) (dv 2)))) ss_nil)
  (ss_cons (s_if (t_eq hu (dv 1) d_str) (ss_one (s_ret (d_add (d_add (d_add (d_add (d_add (d_add d_str (dv 3)) d_str) (d_cal c__law_text hr (by omega) (by rfl) (a_cons (d_ix (dv 0) d_int (fun _ _ => rfl)) a_nil))) d_str) (d_cal c__law_text hr (by omega) (by rfl) (a_cons (d_ix (dv 0) d_int (fun _ _ => rfl)) a_nil))) d_str))) ss_nil)
  (ss_one (s_ret (d_add (d_add (d_add (d_add (d_add (d_add d_str (dv 3)) d_str) (dv 1)) d_str) (d_cal c__law_text hr (by omega) (by rfl) (a_cons (d_ix (dv 0) d_int (fun _ _ => rfl)) a_nil))) d_str))))))))))))) ?_
  rintro ds Q ⟨p, rfl, hd, ho, q⟩
  cases p with
  | given v => exact ⟨_, rfl, _, rfl, ⟨_, rfl, true, congrArg D.bl (by decide +kernel), iteT ⟨_, rfl, _, rfl, v, rfl, ho.1, q⟩⟩⟩
  | named s => exact ⟨_, rfl, _, rfl, ⟨_, rfl, false, congrArg D.bl (by decide +kernel), iteF ⟨_, rfl, true, congrArg D.bl (by decide +kernel), iteT ⟨_, rfl, _, rfl, q⟩⟩⟩⟩
  | turned x =>
    have ho_in : ∀ r, r ∈ (Pt.turned x).inner → okL r := fun r m => ho.in m
    have p_in : ∀ r, r ∈ (Pt.turned x).inner → r.depth ≤ n := fun r m => (Pt.turned x).in_depth m hd
    simp only [Pt.inner, List.mem_cons, List.not_mem_nil, or_false, forall_eq_or_imp, forall_eq] at ho_in p_in
    have o_x : okL x := ho_in
    have d_x : x.depth ≤ n := p_in
    exact ⟨_, rfl, _, rfl, ⟨_, rfl, false, congrArg D.bl (by decide +kernel), iteF ⟨_, rfl, false, congrArg D.bl (by decide +kernel), iteF ⟨_, rfl, (show 2 ≤ sizeLine by decide), rfl, (show _ = true from by decide +kernel), false, congrArg D.bl (by decide +kernel), iteF (iteF ⟨_, rfl, _, rfl, x, rfl, d_x, o_x, ⟨_, rfl, true, congrArg D.bl (by decide +kernel), iteT (iteT ⟨_, rfl, fitS lit lit (by decide), fitS (sA lit lit) lit (by decide), _, rfl, fitS (sA (sA lit lit) lit) o_x.sh (by decide), _, rfl, fitS (sA (sA (sA lit lit) lit) o_x.sh) lit (by decide), castQ (by simp only [Pt.text, firstText, app_cps, List.append_assoc]; kernel_rfl) q⟩)⟩⟩)⟩⟩⟩⟩
  | pair g x y =>
    have ho_in : ∀ r, r ∈ (Pt.pair g x y).inner → okL r := fun r m => ho.in m
    have p_in : ∀ r, r ∈ (Pt.pair g x y).inner → r.depth ≤ n := fun r m => (Pt.pair g x y).in_depth m hd
    simp only [Pt.inner, List.mem_cons, List.not_mem_nil, or_false, forall_eq_or_imp, forall_eq] at ho_in p_in
    have o_x : okL x := ho_in.1
    have d_x : x.depth ≤ n := p_in.1
    have o_y : okL y := ho_in.2
    have d_y : y.depth ≤ n := p_in.2
    have hg := ho.1.1
    simp only [signL, List.mem_cons, List.not_mem_nil, or_false] at hg
    rcases hg with rfl | rfl | rfl | rfl | rfl | rfl | rfl | rfl <;>
      exact ⟨_, rfl, _, rfl, ⟨_, rfl, false, congrArg D.bl (by decide +kernel), iteF ⟨_, rfl, false, congrArg D.bl (by decide +kernel), iteF ⟨_, rfl, (show 2 ≤ sizeLine by decide), rfl, (show _ = true from by decide +kernel), false, congrArg D.bl (by decide +kernel), iteF (iteF ⟨_, rfl, _, rfl, x, rfl, d_x, o_x, ⟨_, rfl, false, congrArg D.bl (by decide +kernel), iteF ⟨_, rfl, false, congrArg D.bl (by decide +kernel), iteF ⟨_, rfl, false, congrArg D.bl (by decide +kernel), iteF ⟨_, rfl, false, congrArg D.bl (by decide +kernel), iteF ⟨_, rfl, false, congrArg D.bl (by decide +kernel), iteF ⟨_, rfl, fitS lit o_x.sh (by decide), fitS (sA lit o_x.sh) lit (by decide), _, rfl, fitS (sA (sA lit o_x.sh) lit) lit (by decide), fitS (sA (sA (sA lit o_x.sh) lit) lit) lit (by decide), _, rfl, _, rfl, y, rfl, d_y, o_y, fitS (sA (sA (sA (sA lit o_x.sh) lit) lit) lit) o_y.sh (by decide), fitS (sA (sA (sA (sA (sA lit o_x.sh) lit) lit) lit) o_y.sh) lit (by decide), castQ (by simp only [Pt.text, firstText, app_cps, List.append_assoc]; kernel_rfl) q⟩⟩⟩⟩⟩⟩⟩)⟩⟩⟩⟩
  | choice x y z =>
    have ho_in : ∀ r, r ∈ (Pt.choice x y z).inner → okL r := fun r m => ho.in m
    have p_in : ∀ r, r ∈ (Pt.choice x y z).inner → r.depth ≤ n := fun r m => (Pt.choice x y z).in_depth m hd
    simp only [Pt.inner, List.mem_cons, List.not_mem_nil, or_false, forall_eq_or_imp, forall_eq] at ho_in p_in
    have o_x : okL x := ho_in.1
    have d_x : x.depth ≤ n := p_in.1
    have o_y : okL y := ho_in.2.1
    have d_y : y.depth ≤ n := p_in.2.1
    have o_z : okL z := ho_in.2.2
    have d_z : z.depth ≤ n := p_in.2.2
    exact ⟨_, rfl, _, rfl, ⟨_, rfl, false, congrArg D.bl (by decide +kernel), iteF ⟨_, rfl, false, congrArg D.bl (by decide +kernel), iteF ⟨_, rfl, (show 2 ≤ sizeLine by decide), rfl, (show _ = true from by decide +kernel), false, congrArg D.bl (by decide +kernel), iteF (iteF ⟨_, rfl, _, rfl, x, rfl, d_x, o_x, ⟨_, rfl, false, congrArg D.bl (by decide +kernel), iteF ⟨_, rfl, false, congrArg D.bl (by decide +kernel), iteF ⟨_, rfl, false, congrArg D.bl (by decide +kernel), iteF ⟨_, rfl, false, congrArg D.bl (by decide +kernel), iteF ⟨_, rfl, true, congrArg D.bl (by decide +kernel), iteT ⟨_, rfl, fitS lit o_x.sh (by decide), fitS (sA lit o_x.sh) lit (by decide), _, rfl, _, rfl, y, rfl, d_y, o_y, fitS (sA (sA lit o_x.sh) lit) o_y.sh (by decide), fitS (sA (sA (sA lit o_x.sh) lit) o_y.sh) lit (by decide), _, rfl, _, rfl, z, rfl, d_z, o_z, fitS (sA (sA (sA (sA lit o_x.sh) lit) o_y.sh) lit) o_z.sh (by decide), fitS (sA (sA (sA (sA (sA lit o_x.sh) lit) o_y.sh) lit) o_z.sh) lit (by decide), castQ (by simp only [Pt.text, firstText, app_cps, List.append_assoc]; kernel_rfl) q⟩⟩⟩⟩⟩⟩⟩)⟩⟩⟩⟩
  | before x f =>
    have ho_in : ∀ r, r ∈ (Pt.before x f).inner → okL r := fun r m => ho.in m
    have p_in : ∀ r, r ∈ (Pt.before x f).inner → r.depth ≤ n := fun r m => (Pt.before x f).in_depth m hd
    simp only [Pt.inner, List.mem_cons, List.not_mem_nil, or_false, forall_eq_or_imp, forall_eq] at ho_in p_in
    have o_x : okL x := ho_in
    have d_x : x.depth ≤ n := p_in
    have hf : isFirst f := ho.1.2
    rcases hf with rfl | ⟨b, rfl⟩ | ⟨i, rfl, h1, h2⟩
    · exact ⟨_, rfl, _, rfl, ⟨_, rfl, false, congrArg D.bl (by decide +kernel), iteF ⟨_, rfl, false, congrArg D.bl (by decide +kernel), iteF ⟨_, rfl, (show 2 ≤ sizeLine by decide), rfl, (show _ = true from by decide +kernel), true, congrArg D.bl (by decide +kernel), iteT ⟨_, rfl, 1, rfl, _, rfl, false, rfl, iteF ⟨_, rfl, _, rfl, x, rfl, d_x, o_x, ⟨_, rfl, false, congrArg D.bl (by decide +kernel), iteF ⟨_, rfl, true, congrArg D.bl (by decide +kernel), iteT ⟨_, rfl, fitS lit lit (by decide), fitS (sA lit lit) lit (by decide), _, rfl, fitS (sA (sA lit lit) lit) o_x.sh (by decide), _, rfl, fitS (sA (sA (sA lit lit) lit) o_x.sh) lit (by decide), castQ (by simp only [Pt.text, firstText, app_cps, List.append_assoc]; kernel_rfl) q⟩⟩⟩⟩⟩⟩⟩⟩⟩
    · have hv : Sh 10 (valText (.bl b)) := val_short (.inl ⟨b, rfl⟩)
      exact ⟨_, rfl, _, rfl, ⟨_, rfl, false, congrArg D.bl (by decide +kernel), iteF ⟨_, rfl, false, congrArg D.bl (by decide +kernel), iteF ⟨_, rfl, (show 2 ≤ sizeLine by decide), rfl, (show _ = true from by decide +kernel), true, congrArg D.bl (by decide +kernel), iteT ⟨_, rfl, 1, rfl, _, rfl, true, rfl, iteT ⟨_, rfl, 1, rfl, _, rfl, _, rfl, (.inl ⟨b, rfl⟩), fitS lit hv (by decide), fitS (sA lit hv) lit (by decide), ⟨_, rfl, _, rfl, x, rfl, d_x, o_x, ⟨_, rfl, false, congrArg D.bl (by decide +kernel), iteF ⟨_, rfl, true, congrArg D.bl (by decide +kernel), iteT ⟨_, rfl, fitS lit lit (by decide), fitS (sA lit lit) lit (by decide), _, rfl, fitS (sA (sA lit lit) lit) o_x.sh (by decide), _, rfl, fitS (sA (sA (sA lit lit) lit) o_x.sh) (sA (sA lit hv) lit) (by decide), castQ (by simp only [Pt.text, firstText, app_cps, List.append_assoc]; kernel_rfl) q⟩⟩⟩⟩⟩⟩⟩⟩⟩⟩
    · have hv : Sh 10 (valText (.int i)) := val_short (.inr ⟨i, rfl, h1, h2⟩)
      exact ⟨_, rfl, _, rfl, ⟨_, rfl, false, congrArg D.bl (by decide +kernel), iteF ⟨_, rfl, false, congrArg D.bl (by decide +kernel), iteF ⟨_, rfl, (show 2 ≤ sizeLine by decide), rfl, (show _ = true from by decide +kernel), true, congrArg D.bl (by decide +kernel), iteT ⟨_, rfl, 1, rfl, _, rfl, true, rfl, iteT ⟨_, rfl, 1, rfl, _, rfl, _, rfl, (.inr ⟨i, rfl, h1, h2⟩), fitS lit hv (by decide), fitS (sA lit hv) lit (by decide), ⟨_, rfl, _, rfl, x, rfl, d_x, o_x, ⟨_, rfl, false, congrArg D.bl (by decide +kernel), iteF ⟨_, rfl, true, congrArg D.bl (by decide +kernel), iteT ⟨_, rfl, fitS lit lit (by decide), fitS (sA lit lit) lit (by decide), _, rfl, fitS (sA (sA lit lit) lit) o_x.sh (by decide), _, rfl, fitS (sA (sA (sA lit lit) lit) o_x.sh) (sA (sA lit hv) lit) (by decide), castQ (by simp only [Pt.text, firstText, app_cps, List.append_assoc]; kernel_rfl) q⟩⟩⟩⟩⟩⟩⟩⟩⟩⟩
  | held x s f =>
    have ho_in : ∀ r, r ∈ (Pt.held x s f).inner → okL r := fun r m => ho.in m
    have p_in : ∀ r, r ∈ (Pt.held x s f).inner → r.depth ≤ n := fun r m => (Pt.held x s f).in_depth m hd
    simp only [Pt.inner, List.mem_cons, List.not_mem_nil, or_false, forall_eq_or_imp, forall_eq] at ho_in p_in
    have o_x : okL x := ho_in
    have d_x : x.depth ≤ n := p_in
    have hf : isFirst f := ho.1.2.2
    have hs : Sh 100 s := ho.1.2.1.2.1
    rcases hf with rfl | ⟨b, rfl⟩ | ⟨i, rfl, h1, h2⟩
    · exact ⟨_, rfl, _, rfl, ⟨_, rfl, false, congrArg D.bl (by decide +kernel), iteF ⟨_, rfl, false, congrArg D.bl (by decide +kernel), iteF ⟨_, rfl, (show 2 ≤ sizeLine by decide), rfl, (show _ = true from by decide +kernel), true, congrArg D.bl (by decide +kernel), iteT ⟨_, rfl, 1, rfl, _, rfl, false, rfl, iteF ⟨_, rfl, _, rfl, x, rfl, d_x, o_x, ⟨_, rfl, false, congrArg D.bl (by decide +kernel), iteF ⟨_, rfl, false, congrArg D.bl (by decide +kernel), iteF ⟨_, rfl, false, congrArg D.bl (by decide +kernel), iteF ⟨_, rfl, true, congrArg D.bl (by decide +kernel), iteT ⟨_, rfl, fitS lit o_x.sh (by decide), fitS (sA lit o_x.sh) lit (by decide), _, rfl, fitS (sA (sA lit o_x.sh) lit) lit (by decide), fitS (sA (sA (sA lit o_x.sh) lit) lit) lit (by decide), _, rfl, _, rfl, fitS (sA (sA (sA (sA lit o_x.sh) lit) lit) lit) hs (by decide), _, rfl, fitS (sA (sA (sA (sA (sA lit o_x.sh) lit) lit) lit) hs) lit (by decide), castQ (by simp only [Pt.text, firstText, app_cps, List.append_assoc]; kernel_rfl) q⟩⟩⟩⟩⟩⟩⟩⟩⟩⟩⟩
    · have hv : Sh 10 (valText (.bl b)) := val_short (.inl ⟨b, rfl⟩)
      exact ⟨_, rfl, _, rfl, ⟨_, rfl, false, congrArg D.bl (by decide +kernel), iteF ⟨_, rfl, false, congrArg D.bl (by decide +kernel), iteF ⟨_, rfl, (show 2 ≤ sizeLine by decide), rfl, (show _ = true from by decide +kernel), true, congrArg D.bl (by decide +kernel), iteT ⟨_, rfl, 1, rfl, _, rfl, true, rfl, iteT ⟨_, rfl, 1, rfl, _, rfl, _, rfl, (.inl ⟨b, rfl⟩), fitS lit hv (by decide), fitS (sA lit hv) lit (by decide), ⟨_, rfl, _, rfl, x, rfl, d_x, o_x, ⟨_, rfl, false, congrArg D.bl (by decide +kernel), iteF ⟨_, rfl, false, congrArg D.bl (by decide +kernel), iteF ⟨_, rfl, false, congrArg D.bl (by decide +kernel), iteF ⟨_, rfl, true, congrArg D.bl (by decide +kernel), iteT ⟨_, rfl, fitS lit o_x.sh (by decide), fitS (sA lit o_x.sh) lit (by decide), _, rfl, fitS (sA (sA lit o_x.sh) lit) lit (by decide), fitS (sA (sA (sA lit o_x.sh) lit) lit) lit (by decide), _, rfl, _, rfl, fitS (sA (sA (sA (sA lit o_x.sh) lit) lit) lit) hs (by decide), _, rfl, fitS (sA (sA (sA (sA (sA lit o_x.sh) lit) lit) lit) hs) (sA (sA lit hv) lit) (by decide), castQ (by simp only [Pt.text, firstText, app_cps, List.append_assoc]; kernel_rfl) q⟩⟩⟩⟩⟩⟩⟩⟩⟩⟩⟩⟩
    · have hv : Sh 10 (valText (.int i)) := val_short (.inr ⟨i, rfl, h1, h2⟩)
      exact ⟨_, rfl, _, rfl, ⟨_, rfl, false, congrArg D.bl (by decide +kernel), iteF ⟨_, rfl, false, congrArg D.bl (by decide +kernel), iteF ⟨_, rfl, (show 2 ≤ sizeLine by decide), rfl, (show _ = true from by decide +kernel), true, congrArg D.bl (by decide +kernel), iteT ⟨_, rfl, 1, rfl, _, rfl, true, rfl, iteT ⟨_, rfl, 1, rfl, _, rfl, _, rfl, (.inr ⟨i, rfl, h1, h2⟩), fitS lit hv (by decide), fitS (sA lit hv) lit (by decide), ⟨_, rfl, _, rfl, x, rfl, d_x, o_x, ⟨_, rfl, false, congrArg D.bl (by decide +kernel), iteF ⟨_, rfl, false, congrArg D.bl (by decide +kernel), iteF ⟨_, rfl, false, congrArg D.bl (by decide +kernel), iteF ⟨_, rfl, true, congrArg D.bl (by decide +kernel), iteT ⟨_, rfl, fitS lit o_x.sh (by decide), fitS (sA lit o_x.sh) lit (by decide), _, rfl, fitS (sA (sA lit o_x.sh) lit) lit (by decide), fitS (sA (sA (sA lit o_x.sh) lit) lit) lit (by decide), _, rfl, _, rfl, fitS (sA (sA (sA (sA lit o_x.sh) lit) lit) lit) hs (by decide), _, rfl, fitS (sA (sA (sA (sA (sA lit o_x.sh) lit) lit) lit) hs) (sA (sA lit hv) lit) (by decide), castQ (by simp only [Pt.text, firstText, app_cps, List.append_assoc]; kernel_rfl) q⟩⟩⟩⟩⟩⟩⟩⟩⟩⟩⟩⟩
  | led x y =>
    have ho_in : ∀ r, r ∈ (Pt.led x y).inner → okL r := fun r m => ho.in m
    have p_in : ∀ r, r ∈ (Pt.led x y).inner → r.depth ≤ n := fun r m => (Pt.led x y).in_depth m hd
    simp only [Pt.inner, List.mem_cons, List.not_mem_nil, or_false, forall_eq_or_imp, forall_eq] at ho_in p_in
    have o_x : okL x := ho_in.1
    have d_x : x.depth ≤ n := p_in.1
    have o_y : okL y := ho_in.2
    have d_y : y.depth ≤ n := p_in.2
    exact ⟨_, rfl, _, rfl, ⟨_, rfl, false, congrArg D.bl (by decide +kernel), iteF ⟨_, rfl, false, congrArg D.bl (by decide +kernel), iteF ⟨_, rfl, (show 2 ≤ sizeLine by decide), rfl, (show _ = true from by decide +kernel), false, congrArg D.bl (by decide +kernel), iteF (iteF ⟨_, rfl, _, rfl, x, rfl, d_x, o_x, ⟨_, rfl, false, congrArg D.bl (by decide +kernel), iteF ⟨_, rfl, false, congrArg D.bl (by decide +kernel), iteF ⟨_, rfl, false, congrArg D.bl (by decide +kernel), iteF ⟨_, rfl, false, congrArg D.bl (by decide +kernel), iteF ⟨_, rfl, false, congrArg D.bl (by decide +kernel), iteF ⟨_, rfl, fitS lit o_x.sh (by decide), fitS (sA lit o_x.sh) lit (by decide), _, rfl, fitS (sA (sA lit o_x.sh) lit) lit (by decide), fitS (sA (sA (sA lit o_x.sh) lit) lit) lit (by decide), _, rfl, _, rfl, y, rfl, d_y, o_y, fitS (sA (sA (sA (sA lit o_x.sh) lit) lit) lit) o_y.sh (by decide), fitS (sA (sA (sA (sA (sA lit o_x.sh) lit) lit) lit) o_y.sh) lit (by decide), castQ (by simp only [Pt.text, firstText, app_cps, List.append_assoc]; kernel_rfl) q⟩⟩⟩⟩⟩⟩⟩)⟩⟩⟩⟩
  | whn x s =>
    have ho_in : ∀ r, r ∈ (Pt.whn x s).inner → okL r := fun r m => ho.in m
    have p_in : ∀ r, r ∈ (Pt.whn x s).inner → r.depth ≤ n := fun r m => (Pt.whn x s).in_depth m hd
    simp only [Pt.inner, List.mem_cons, List.not_mem_nil, or_false, forall_eq_or_imp, forall_eq] at ho_in p_in
    have o_x : okL x := ho_in
    have d_x : x.depth ≤ n := p_in
    have hs : Sh 100 s := ho.1.2.2.1
    exact ⟨_, rfl, _, rfl, ⟨_, rfl, false, congrArg D.bl (by decide +kernel), iteF ⟨_, rfl, false, congrArg D.bl (by decide +kernel), iteF ⟨_, rfl, (show 2 ≤ sizeLine by decide), rfl, (show _ = true from by decide +kernel), false, congrArg D.bl (by decide +kernel), iteF (iteF ⟨_, rfl, _, rfl, x, rfl, d_x, o_x, ⟨_, rfl, false, congrArg D.bl (by decide +kernel), iteF ⟨_, rfl, false, congrArg D.bl (by decide +kernel), iteF ⟨_, rfl, true, congrArg D.bl (by decide +kernel), iteT (iteT ⟨_, rfl, fitS lit o_x.sh (by decide), fitS (sA lit o_x.sh) lit (by decide), _, rfl, fitS (sA (sA lit o_x.sh) lit) lit (by decide), fitS (sA (sA (sA lit o_x.sh) lit) lit) lit (by decide), _, rfl, _, rfl, fitS (sA (sA (sA (sA lit o_x.sh) lit) lit) lit) hs (by decide), _, rfl, fitS (sA (sA (sA (sA (sA lit o_x.sh) lit) lit) lit) hs) lit (by decide), castQ (by simp only [Pt.text, firstText, app_cps, List.append_assoc]; kernel_rfl) q⟩)⟩⟩⟩⟩)⟩⟩⟩⟩
theorem text_law (d : Df K mg "_law_text" s__law_text ["_law_told"]) (cv : Cal P w K mg base 1 "_law_value_text" ["_law_value_here"] sdVT) : ∀ n, Cal P w K mg base (n + 1) "_law_text" ["_law_told"] (sdTn n okL fun p => .str p.text)
  | 0 => Df.never d zero_Tn
  | n + 1 => c_text d (cv.up (by omega)) (text_law d cv n)
end
end K03

set_option maxHeartbeats 4000000
namespace K03
open PySem PySem.Spec PyProof.Rows L2 DC
theorem add_nodup {acc : List Str} (h : acc.Nodup) (n : Str) : (addOnce acc n).Nodup := by
  unfold addOnce
  split
  · exact h
  · rename_i hc
    rw [List.nodup_append]
    refine ⟨h, by simp, fun a ha b hb => ?_⟩
    have : b = n := by simpa using hb
    subst this
    intro e
    subst e
    exact hc (List.contains_iff_mem.mpr ha)
theorem fold_nodup : ∀ (l acc : List Str), acc.Nodup → (l.foldl addOnce acc).Nodup
  | [], _, h => h
  | n :: l, acc, h => fold_nodup l _ (add_nodup h n)
theorem onces_nodup : ∀ (ls : List (List Str)) (acc : List Str), acc.Nodup → (ls.foldl (fun acc l => l.foldl addOnce acc) acc).Nodup
  | [], _, h => h
  | l :: ls, acc, h => onces_nodup ls _ (fold_nodup l acc h)
theorem once_nodup (ls : List (List Str)) : (onceL ls).Nodup := onces_nodup ls [] List.nodup_nil
theorem fold_filter : ∀ (l acc : List Str), l.Nodup → l.foldl addOnce acc = acc ++ l.filter fun n => !acc.contains n
  | [], acc, _ => by simp
  | x :: l, acc, h => by
    obtain ⟨hx, hl⟩ := List.nodup_cons.mp h
    rw [List.foldl_cons, fold_filter l _ hl, List.filter_cons]
    unfold addOnce
    cases hc : acc.contains x with
    | true => simp
    | false =>
      simp only [Bool.false_eq_true, if_false, Bool.not_false, if_true, List.append_assoc, List.cons_append, List.nil_append]
      congr 2
      apply List.filter_congr
      intro n hn
      have hne : ¬ n = x := fun e => hx (e ▸ hn)
      rw [List.contains_eq_any_beq, List.contains_eq_any_beq, List.any_append]
      simp [hne]
def gN (b : Bool) (p : Pt) : List Str := if b = true then p.names else p.needs
theorem gN_nodup (b : Bool) (p : Pt) : (gN b p).Nodup := by
  unfold gN
  cases b with
  | true => rw [if_pos rfl, p.names_inner]; exact once_nodup _
  | false =>
    rw [if_neg Bool.false_ne_true]
    cases h : p.isBefore with
    | true => cases p <;> first | exact List.nodup_nil | cases h
    | false => rw [p.needs_inner h]; exact once_nodup _
theorem gN_eq {b : Bool} {p : Pt} (h : (p.isBefore && !b) = false) : gN b p = p.own.foldl addOnce (onceL (p.inner.map (gN b))) := by
  have e : ∀ ls : List (List Str), onceL (ls ++ [p.own]) = p.own.foldl addOnce (onceL ls) := fun ls => by
    unfold onceL
    rw [List.foldl_append]
    rfl
  cases b with
  | true =>
    show p.names = _
    rw [p.names_inner, e]
    rfl
  | false =>
    show p.needs = _
    rw [p.needs_inner (by simpa using h), e]
    rfl
theorem gN_len {b : Bool} {p : Pt} (h : okL p) : (gN b p).length ≤ 40 := by
  unfold gN
  have h1 := p.names_len
  have h2 := p.needs_len
  have h3 := h.2
  split <;> omega
theorem sum_40 : ∀ ls : List (List Str), (∀ l ∈ ls, l.length ≤ 40) → (ls.map List.length).sum ≤ 40 * ls.length
  | [], _ => Nat.le_refl _
  | l :: ls, h => by
    have h1 := h l List.mem_cons_self
    have h2 := sum_40 ls fun x m => h x (List.mem_cons_of_mem _ m)
    rw [List.map_cons, List.sum_cons, List.length_cons]
    omega
theorem acc_len {b : Bool} {p : Pt} (h : okL p) (i : Nat) : (onceL ((p.inner.take i).map (gN b))).length ≤ 120 := by
  have h1 := once_len ((p.inner.take i).map (gN b))
  have h2 := sum_40 ((p.inner.take i).map (gN b)) fun l m => by
    obtain ⟨r, hr, rfl⟩ := List.mem_map.mp m
    exact gN_len (h.in (List.mem_of_mem_take hr))
  have h3 : (p.inner.take i).length ≤ 3 := Nat.le_trans (List.length_take_le' _ _) p.inner_len
  rw [List.length_map] at h2
  omega
def Pt.isNamed : Pt → Bool
  | .named _ => true
  | _ => false
def Pt.hasOwn : Pt → Bool
  | .whn _ _ => true | .held _ _ _ => true
  | _ => false
theorem w_named {p : Pt} (ho : p.ok) : decide (p.word = "named") = p.isNamed := by
  cases p with
  | pair g x y =>
    have hg := ho.1
    simp only [signL, List.mem_cons, List.not_mem_nil, or_false] at hg
    rcases hg with rfl | rfl | rfl | rfl | rfl | rfl | rfl | rfl <;> kernel_rfl
  | _ => kernel_rfl
theorem w_before {p : Pt} (ho : p.ok) : decide (p.word = "before") = p.isBefore := by
  cases p with
  | pair g x y =>
    have hg := ho.1
    simp only [signL, List.mem_cons, List.not_mem_nil, or_false] at hg
    rcases hg with rfl | rfl | rfl | rfl | rfl | rfl | rfl | rfl <;> kernel_rfl
  | _ => kernel_rfl
theorem w_own {p : Pt} (ho : p.ok) : inD (.str p.word) [.str "when", .str "held"] = p.hasOwn := by
  cases p with
  | pair g x y =>
    have hg := ho.1
    simp only [signL, List.mem_cons, List.not_mem_nil, or_false] at hg
    rcases hg with rfl | rfl | rfl | rfl | rfl | rfl | rfl | rfl <;> kernel_rfl
  | _ => kernel_rfl
theorem and_pick {b1 b2 : Bool} {L R : Prop} {U : (Bool → Prop) → Prop} (hU : ∀ Q : Bool → Prop, Q b2 → U Q) (hl : (b1 && b2) = true → L) (hr : (b1 && b2) = false → R) : if b1 = true then U (fun b => if b = true then L else R) else (if false = true then L else R) := by
  cases b1 with
  | false => exact iteF (iteF (hr rfl))
  | true =>
    refine iteT (hU _ ?_)
    cases b2 with
    | true => exact iteT (hl rfl)
    | false => exact iteF (hr rfl)
theorem filt (l acc : List Str) : ((l.map D.str).filter fun d => !inD d (acc.map D.str)).map id = (l.filter fun n => !acc.contains n).map D.str := by
  rw [List.map_id, List.filter_map]
  congr 1
  apply List.filter_congr
  intro n _
  show (!inD (.str n) (acc.map D.str)) = _
  rw [in_strs]
theorem at0 (x : D) (xs : List D) : L2.atI (x :: xs) 0 = some x := atI_nat (i := 0) rfl
def sdNin (n : Nat) : SpD := fun ds Q => ∃ (p : Pt) (b : Bool), ds = [p.told, .bl b] ∧ p.depth ≤ n ∧ okL p ∧ Q (strsD (gN b p))
theorem m_Nin {n : Nat} : MonoS (sdNin n) := fun ds P P' f ⟨p, b, e, d, h, q⟩ => ⟨p, b, e, d, h, f _ q⟩
theorem le_size {n : Nat} (h : n ≤ 1000) : n ≤ sizeLine := Nat.le_trans h (by decide)
section
seal wpAny
variable {P : Program} {w : World} {K : PySem.W.Frag} {mg : Str → Option Value} {base : Heap} {A : Adr} {n j : Nat}
theorem c_names_in (d : Df K mg "_law_names_in" s__law_names_in ["_law_told", "_law_all_of_them"]) (c__law_inner : Cal P w K mg base j "_law_inner" ["_law_told"] (sdTd Pt.ok gIn)) (c__law_names_in : Cal P w K mg base j "_law_names_in" ["_law_told", "_law_all_of_them"] (sdNin n)) :
    Cal P w K mg base (j + 1) "_law_names_in" ["_law_told", "_law_all_of_them"] (sdNin (n + 1)) := by
  refine d.cal sc__law_names_in m_Nin (fun ds Q ⟨p, b, e, _⟩ => by rw [e]; rfl) (fun f cdv A outer s H E hr => have hu := hr.units; have hh := hr.hd; have sc := sc__law_names_in
    (ss_cons (s_if (t_eq hu (d_ix (dv 0) d_int (fun _ _ => rfl)) d_str) (ss_one (s_ret (d_lst (a_cons (d_ix (dv 0) d_int (fun _ _ => rfl)) a_nil)))) ss_nil)
  (ss_cons (s_set (i := 2) sc.nd rfl (Or.inr rfl) (d_lst a_nil))
  (ss_cons (s_if (PWd.td (w_and (t_eq hu (d_ix (dv 0) d_int (fun _ _ => rfl)) d_str) (w_and1 (t_not (t_tru (dv 1)))))) (ss_one (s_ret (dv 2))) ss_nil)
  (ss_cons (s_for PassesOwn.never rfl (i_any (d_cal c__law_inner hr (by omega) (by rfl) (a_cons (dv 0) a_nil))) (g_name (i := 3) sc.nd rfl (Or.inl rfl)) (ss_one (s_set (i := 2) sc.nd rfl (Or.inr rfl) (d_add (dv 2) (d_lc (x := "_law_name") (caps := [2]) (cn := ["_law_found"]) (cl := [("_law_found", s.heap.objs.size + 1)]) (compN (by rfl) (by rfl) (by decide +kernel) (free_of ["_law_found"] rfl (by decide +kernel)) (by decide +kernel) (cells_cons (by rfl) cells_nil) (.cons ⟨rfl, .inl rfl, rfl⟩ .nil)) rfl (i_any (d_cal c__law_names_in hr (by omega) (by rfl) (a_cons (dv 3) (a_cons (dv 1) a_nil)))) (fun C fp s₂ H₂ => pg_name (i := 0) (show (["_law_name", "_law_found"] : List Str).Nodup by decide +kernel) rfl (Or.inl rfl) (.inr rfl)) (fun C fp s₂ H₂ => (ts_one (t_notin (dv 0) (dv 1) (by rfl)))) (fun C fp s₂ H₂ => (dv 0)))))))
  (ss_cons (s_if (PWd.td (w_and (t_in (d_ix (dv 0) d_int (fun _ _ => rfl)) (d_tup (a_ck (by rfl))) (by rfl)) (w_and1 (t_notin (d_ix (dv 0) d_int (fun _ _ => rfl)) (dv 2) (by rfl))))) (ss_one (s_set (i := 2) sc.nd rfl (Or.inr rfl) (d_add (dv 2) (d_lst (a_cons (d_ix (dv 0) d_int (fun _ _ => rfl)) a_nil))))) ss_nil)
  (ss_one (s_ret (dv 2))))))))) ?_
  rintro ds Q ⟨p, b, rfl, hd, ho, q⟩
  have hT := p.told_eq
  rw [hT]
  refine ⟨_, rfl, _, at0 _ _, _, rfl, ?_⟩
  show if decide (p.word = "named") = true then _ else _
  rw [w_named ho.1]
  cases hn : p.isNamed with
  | true =>
    cases p with
    | named s =>
      refine iteT ⟨_, rfl, _, rfl, (show 1 ≤ sizeLine by decide), ?_⟩
      cases b <;> exact q
    | _ => cases hn
  | false =>
    refine iteF ⟨(show 0 ≤ sizeLine by decide), ?_⟩
    refine ⟨_, rfl, _, at0 _ _, _, rfl, ?_⟩
    show if decide (p.word = "before") = true then _ else _
    rw [w_before ho.1]
    refine and_pick (b2 := !b) (fun Q q => ⟨_, rfl, b, rfl, q⟩) (fun hb => ?_) (fun hb => ?_)
    · obtain ⟨h1, h2⟩ := Bool.and_eq_true_iff.mp hb
      cases b with
      | true => cases h2
      | false =>
        cases p with
        | before x f => exact ⟨_, rfl, q⟩
        | _ => cases h1
    · refine ⟨_, rfl, p, by rw [hT], ho.1, p.inner.map Pt.told, rfl, fun i δ => ∃ x, δ = [some (.tup (.str p.word :: p.rest)), some (.bl b), some (strsD (onceL ((p.inner.take i).map (gN b)))), x], ⟨none, rfl⟩, ?_, ?_⟩
      · rintro i dd δ hd' ⟨x, rfl⟩
        rw [List.getElem?_map] at hd'
        cases e : p.inner[i]? with
        | none => rw [e] at hd'; cases hd'
        | some r =>
          rw [e] at hd'
          obtain rfl : r.told = dd := by simpa using hd'
          have hr := List.mem_of_getElem? e
          have hl := acc_len (b := b) ho i
          have e1 : onceL ((p.inner.take (i + 1)).map (gN b)) = (gN b r).foldl addOnce (onceL ((p.inner.take i).map (gN b))) := by
            unfold onceL
            rw [List.take_succ, e, List.map_append, List.foldl_append]
            rfl
          have hg := gN_len (b := b) (ho.in hr)
          generalize hacc : onceL ((p.inner.take i).map (gN b)) = acc at e1 hl
          refine ⟨_, rfl, _, rfl, _, rfl, r, b, rfl, p.in_depth hr hd, ho.in hr, (gN b r).map D.str, rfl, fO (fun d => !inD d (acc.map D.str)) id ((gN b r).map D.str), fO_len, fun i d o h1 h2 => ?_, ?_, ?_⟩
          · obtain ⟨hd, e⟩ := fO_at h1 h2
            obtain ⟨z, _, rfl⟩ := List.mem_map.mp hd
            have k := fO_one (p := fun d => !inD d (acc.map D.str)) (g := id) (d := .str z) (R := fun k => vVar 0 [some (D.str z), some (strsD acc)] k) e ⟨_, rfl, rfl⟩
            exact ⟨_, rfl, _, rfl, rfl, flat_strs acc, _, rfl, k⟩
          · rw [List.length_map]; exact Nat.lt_of_le_of_lt hg (by decide)
          · rw [fO_out, filt]
            refine ⟨?_, some r.told, ?_⟩
            · rw [List.length_map, List.length_map]
              have := List.length_filter_le (fun n => !acc.contains n) (gN b r)
              exact le_size (by omega)
            · rw [e1, fold_filter _ _ (gN_nodup b r), ← List.map_append]
              rfl
      · rintro δ ⟨x, rfl⟩
        rw [List.length_map, List.take_length]
        have hl := acc_len (b := b) ho p.inner.length
        rw [List.take_length] at hl
        have e2 := gN_eq hb
        generalize onceL (p.inner.map (gN b)) = acc at hl e2
        refine ⟨_, rfl, _, at0 _ _, (show 2 ≤ sizeLine by decide), rfl, (show _ = true from by decide +kernel), _, rfl, ?_⟩
        show if inD (.str p.word) [.str "when", .str "held"] = true then _ else _
        rw [w_own ho.1]
        cases hw : p.hasOwn with
        | false =>
          have e3 : p.own = [] ∨ ∃ s, p = .named s := by cases p <;> first | exact .inl rfl | exact .inr ⟨_, rfl⟩ | cases hw
          rcases e3 with e3 | ⟨s, rfl⟩
          · rw [e3] at e2
            refine iteF (iteF ⟨_, rfl, ?_⟩)
            rw [e2] at q
            exact q
          · cases hn
        | true =>
          have e3 : ∃ s z, p.own = [s] ∧ p.rest = p.inner.map Pt.told ++ .str s :: z ∧ p.inner.length = 1 := by
            cases p <;> first | exact ⟨_, _, rfl, rfl, rfl⟩ | cases hw
          obtain ⟨s, z, e4, e5, e6⟩ := e3
          have at2 : L2.atI (D.str p.word :: p.rest) 2 = some (.str s) := by
            obtain ⟨y, hy⟩ : ∃ y, p.inner.map Pt.told = [y] := by
              match hh : p.inner, e6 with
              | [y], _ => exact ⟨y.told, rfl⟩
            rw [e5, hy]
            exact atI_nat (i := 2) rfl
          rw [e4] at e2
          have e7 : gN b p = addOnce acc s := e2
          refine iteT ⟨_, rfl, _, at2, _, rfl, rfl, flat_strs acc, _, rfl, ?_⟩
          show if (!inD (.str s) (acc.map D.str)) = true then _ else _
          rw [in_strs]
          unfold addOnce at e7
          cases hc : acc.contains s with
          | true =>
            rw [hc, if_pos rfl] at e7
            rw [e7] at q
            exact iteF ⟨_, rfl, q⟩
          | false =>
            rw [hc, if_neg Bool.false_ne_true] at e7
            rw [e7] at q
            refine iteT ⟨_, rfl, _, rfl, _, at2, (show 1 ≤ sizeLine by decide), ?_, _, rfl, ?_⟩
            · rw [List.length_map]
              exact le_size (by show acc.length + 1 ≤ 1000; omega)
            · have e8 : acc.map D.str ++ [D.str s] = (acc ++ [s]).map D.str := by simp
              show Q (.lst (acc.map D.str ++ [D.str s]))
              rw [e8]
              exact q
theorem names_law (d : Df K mg "_law_names_in" s__law_names_in ["_law_told", "_law_all_of_them"]) (ci : Cal P w K mg base 1 "_law_inner" ["_law_told"] (sdTd Pt.ok gIn)) : ∀ n, Cal P w K mg base (n + 1) "_law_names_in" ["_law_told", "_law_all_of_them"] (sdNin n)
  | 0 => Df.never d fun ds Q ⟨p, _, _, h, _⟩ => absurd p.depth_pos (by omega)
  | n + 1 => c_names_in d (ci.up (by omega)) (names_law d ci n)
end
end K03

set_option maxHeartbeats 4000000
namespace K03
open PySem PySem.Spec PyProof.Rows L2 DC
def Adr.at (A : Adr) : Fin 9 → Addr
  | 0 => A.given | 1 => A.named | 2 => A.turned | 3 => A.pair | 4 => A.choice | 5 => A.before | 6 => A.led | 7 => A.whn | 8 => A.held
structure Kit (K : PySem.W.Frag) (A : Adr) (pa : Addr) : Prop where
  own : ∀ i : Fin 9, OwnTy K (A.at i)
  kit : ∀ i k : Fin 9, PySem.W.kitOne K (.ref (A.at i)) (.ref (A.at k)) = some (decide (i = k))
  part : ∀ i : Fin 9, PySem.W.kitOne K (.ref (A.at i)) (.ref pa) = some true
structure IsC (mg : Str → Option Value) (A : Adr) (pa : Addr) : Prop where
  given : mg "Given" = some (.ref A.given)
  named : mg "Named" = some (.ref A.named)
  turned : mg "Turned" = some (.ref A.turned)
  pair : mg "Pair" = some (.ref A.pair)
  choice : mg "Choice" = some (.ref A.choice)
  before : mg "Before" = some (.ref A.before)
  led : mg "Led" = some (.ref A.led)
  whn : mg "When" = some (.ref A.whn)
  held : mg "Held" = some (.ref A.held)
  part : mg "Part" = some (.ref pa)
theorem pt_obj (A : Adr) (p : Pt) : ∃ gs, p.d A = .obj (p.cls A) gs := by cases p <;> exact ⟨_, rfl⟩
theorem pt_at (A : Adr) (p : Pt) : ∃ i : Fin 9, p.cls A = A.at i := by
  cases p
  · exact ⟨0, rfl⟩
  · exact ⟨1, rfl⟩
  · exact ⟨2, rfl⟩
  · exact ⟨3, rfl⟩
  · exact ⟨4, rfl⟩
  · exact ⟨5, rfl⟩
  · exact ⟨6, rfl⟩
  · exact ⟨7, rfl⟩
  · exact ⟨8, rfl⟩
def sdPd (A : Adr) (n : Nat) (g : Pt → D) : SpD := fun ds Q => ∃ p : Pt, ds = [p.d A] ∧ p.depth ≤ n ∧ Q (g p)
theorem m_Pd {A : Adr} {n : Nat} {g : Pt → D} : MonoS (sdPd A n g) := fun ds P P' f ⟨p, e, d, q⟩ => ⟨p, e, d, f _ q⟩
section
seal wpAny
variable {P : Program} {w : World} {K : PySem.W.Frag} {mg : Str → Option Value} {base : Heap} {A : Adr} {n j : Nat} {pa : Addr}
theorem c_by_fields (hA : AOk K A) (kA : Kit K A pa) (ic : IsC mg A pa) (d : Df K mg "_law_by_fields" s__law_by_fields ["_law_part"]) (n_isinstance : mg "isinstance" = none) (c__law_by_fields : Cal P w K mg base j "_law_by_fields" ["_law_part"] (sdPd A n Pt.told)) :
    Cal P w K mg base (j + 1) "_law_by_fields" ["_law_part"] (sdPd A (n + 1) Pt.told) := by
  have i_Given := ic.given
  have i_Named := ic.named
  have i_Turned := ic.turned
  have i_Pair := ic.pair
  have i_Choice := ic.choice
  have i_Before := ic.before
  have i_Led := ic.led
  have i_When := ic.whn
  have i_Held := ic.held
  refine d.cal sc__law_by_fields m_Pd (fun ds Q ⟨p, e, _⟩ => by rw [e]; rfl) (fun f cdv A outer s H E hr => have hu := hr.units; have hh := hr.hd; have sc := sc__law_by_fields
    (ss_cons (s_if (t_tru (d_isiK K rfl (dv 0) (by rfl) n_isinstance (by rfl) i_Given)) (ss_one (s_ret (d_tup (a_cons d_str (a_cons (d_fldK K rfl (dv 0) (by rfl)) a_nil))))) ss_nil)
  (ss_cons (s_if (t_tru (d_isiK K rfl (dv 0) (by rfl) n_isinstance (by rfl) i_Named)) (ss_one (s_ret (d_tup (a_cons d_str (a_cons (d_fldK K rfl (dv 0) (by rfl)) a_nil))))) ss_nil)
  (ss_cons (s_if (t_tru (d_isiK K rfl (dv 0) (by rfl) n_isinstance (by rfl) i_Turned)) (ss_one (s_ret (d_tup (a_cons d_str (a_cons (d_cal c__law_by_fields hr (by omega) (by rfl) (a_cons (d_fldK K rfl (dv 0) (by rfl)) a_nil)) a_nil))))) ss_nil)
  (ss_cons (s_if (t_tru (d_isiK K rfl (dv 0) (by rfl) n_isinstance (by rfl) i_Pair)) (ss_one (s_ret (d_tup (a_cons (d_fldK K rfl (dv 0) (by rfl)) (a_cons (d_cal c__law_by_fields hr (by omega) (by rfl) (a_cons (d_fldK K rfl (dv 0) (by rfl)) a_nil)) (a_cons (d_cal c__law_by_fields hr (by omega) (by rfl) (a_cons (d_fldK K rfl (dv 0) (by rfl)) a_nil)) a_nil)))))) ss_nil)
  (ss_cons (s_if (t_tru (d_isiK K rfl (dv 0) (by rfl) n_isinstance (by rfl) i_Choice)) (ss_one (s_ret (d_tup (a_cons d_str (a_cons (d_cal c__law_by_fields hr (by omega) (by rfl) (a_cons (d_fldK K rfl (dv 0) (by rfl)) a_nil)) (a_cons (d_cal c__law_by_fields hr (by omega) (by rfl) (a_cons (d_fldK K rfl (dv 0) (by rfl)) a_nil)) (a_cons (d_cal c__law_by_fields hr (by omega) (by rfl) (a_cons (d_fldK K rfl (dv 0) (by rfl)) a_nil)) a_nil))))))) ss_nil)
  (ss_cons (s_if (t_tru (d_isiK K rfl (dv 0) (by rfl) n_isinstance (by rfl) i_Before)) (ss_one (s_ret (d_tup (a_cons d_str (a_cons (d_cal c__law_by_fields hr (by omega) (by rfl) (a_cons (d_fldK K rfl (dv 0) (by rfl)) a_nil)) (a_cons (d_fldK K rfl (dv 0) (by rfl)) a_nil)))))) ss_nil)
  (ss_cons (s_if (t_tru (d_isiK K rfl (dv 0) (by rfl) n_isinstance (by rfl) i_Led)) (ss_one (s_ret (d_tup (a_cons d_str (a_cons (d_cal c__law_by_fields hr (by omega) (by rfl) (a_cons (d_fldK K rfl (dv 0) (by rfl)) a_nil)) (a_cons (d_cal c__law_by_fields hr (by omega) (by rfl) (a_cons (d_fldK K rfl (dv 0) (by rfl)) a_nil)) a_nil)))))) ss_nil)
  (ss_cons (s_if (t_tru (d_isiK K rfl (dv 0) (by rfl) n_isinstance (by rfl) i_When)) (ss_one (s_ret (d_tup (a_cons d_str (a_cons (d_cal c__law_by_fields hr (by omega) (by rfl) (a_cons (d_fldK K rfl (dv 0) (by rfl)) a_nil)) (a_cons (d_fldK K rfl (dv 0) (by rfl)) a_nil)))))) ss_nil)
  (ss_cons (s_if (t_tru (d_isiK K rfl (dv 0) (by rfl) n_isinstance (by rfl) i_Held)) (ss_one (s_ret (d_tup (a_cons d_str (a_cons (d_cal c__law_by_fields hr (by omega) (by rfl) (a_cons (d_fldK K rfl (dv 0) (by rfl)) a_nil)) (a_cons (d_fldK K rfl (dv 0) (by rfl)) (a_cons (d_fldK K rfl (dv 0) (by rfl)) a_nil))))))) ss_nil)
  (ss_one (s_ret d_non)))))))))))) ?_
  rintro ds Q ⟨p, rfl, hd, q⟩
  have c := hA.cl _ (Pt.cls_in A p)
  have no := hA.nof _ (Pt.cls_in A p)
  cases p with
  | given v => exact ⟨_, rfl, _, true, .o (kA.own 0), kA.kit 0 0, true, rfl, iteT (vFld_of rfl c (no _ (by decide)) (by kernel_rfl) (⟨(show 2 ≤ sizeLine by decide), q⟩))⟩
  | named s => exact ⟨_, rfl, _, false, .o (kA.own 1), kA.kit 1 0, false, rfl, iteF ⟨_, rfl, _, true, .o (kA.own 1), kA.kit 1 1, true, rfl, iteT (vFld_of rfl c (no _ (by decide)) (by kernel_rfl) (⟨(show 2 ≤ sizeLine by decide), q⟩))⟩⟩
  | turned x => exact ⟨_, rfl, _, false, .o (kA.own 2), kA.kit 2 0, false, rfl, iteF ⟨_, rfl, _, false, .o (kA.own 2), kA.kit 2 1, false, rfl, iteF ⟨_, rfl, _, true, .o (kA.own 2), kA.kit 2 2, true, rfl, iteT (vFld_of rfl c (no _ (by decide)) (by kernel_rfl) ⟨x, rfl, (by simp only [Pt.depth] at hd; omega), (show 2 ≤ sizeLine by decide), q⟩)⟩⟩⟩
  | pair g x y => exact ⟨_, rfl, _, false, .o (kA.own 3), kA.kit 3 0, false, rfl, iteF ⟨_, rfl, _, false, .o (kA.own 3), kA.kit 3 1, false, rfl, iteF ⟨_, rfl, _, false, .o (kA.own 3), kA.kit 3 2, false, rfl, iteF ⟨_, rfl, _, true, .o (kA.own 3), kA.kit 3 3, true, rfl, iteT (vFld_of rfl c (no _ (by decide)) (by kernel_rfl) (vFld_of rfl c (no _ (by decide)) (by kernel_rfl) ⟨x, rfl, (by simp only [Pt.depth] at hd; omega), vFld_of rfl c (no _ (by decide)) (by kernel_rfl) ⟨y, rfl, (by simp only [Pt.depth] at hd; omega), (show 3 ≤ sizeLine by decide), q⟩⟩))⟩⟩⟩⟩
  | choice x y z => exact ⟨_, rfl, _, false, .o (kA.own 4), kA.kit 4 0, false, rfl, iteF ⟨_, rfl, _, false, .o (kA.own 4), kA.kit 4 1, false, rfl, iteF ⟨_, rfl, _, false, .o (kA.own 4), kA.kit 4 2, false, rfl, iteF ⟨_, rfl, _, false, .o (kA.own 4), kA.kit 4 3, false, rfl, iteF ⟨_, rfl, _, true, .o (kA.own 4), kA.kit 4 4, true, rfl, iteT (vFld_of rfl c (no _ (by decide)) (by kernel_rfl) ⟨x, rfl, (by simp only [Pt.depth] at hd; omega), vFld_of rfl c (no _ (by decide)) (by kernel_rfl) ⟨y, rfl, (by simp only [Pt.depth] at hd; omega), vFld_of rfl c (no _ (by decide)) (by kernel_rfl) ⟨z, rfl, (by simp only [Pt.depth] at hd; omega), (show 4 ≤ sizeLine by decide), q⟩⟩⟩)⟩⟩⟩⟩⟩
  | before x f => exact ⟨_, rfl, _, false, .o (kA.own 5), kA.kit 5 0, false, rfl, iteF ⟨_, rfl, _, false, .o (kA.own 5), kA.kit 5 1, false, rfl, iteF ⟨_, rfl, _, false, .o (kA.own 5), kA.kit 5 2, false, rfl, iteF ⟨_, rfl, _, false, .o (kA.own 5), kA.kit 5 3, false, rfl, iteF ⟨_, rfl, _, false, .o (kA.own 5), kA.kit 5 4, false, rfl, iteF ⟨_, rfl, _, true, .o (kA.own 5), kA.kit 5 5, true, rfl, iteT (vFld_of rfl c (no _ (by decide)) (by kernel_rfl) ⟨x, rfl, (by simp only [Pt.depth] at hd; omega), vFld_of rfl c (no _ (by decide)) (by kernel_rfl) (⟨(show 3 ≤ sizeLine by decide), q⟩)⟩)⟩⟩⟩⟩⟩⟩
  | led x y => exact ⟨_, rfl, _, false, .o (kA.own 6), kA.kit 6 0, false, rfl, iteF ⟨_, rfl, _, false, .o (kA.own 6), kA.kit 6 1, false, rfl, iteF ⟨_, rfl, _, false, .o (kA.own 6), kA.kit 6 2, false, rfl, iteF ⟨_, rfl, _, false, .o (kA.own 6), kA.kit 6 3, false, rfl, iteF ⟨_, rfl, _, false, .o (kA.own 6), kA.kit 6 4, false, rfl, iteF ⟨_, rfl, _, false, .o (kA.own 6), kA.kit 6 5, false, rfl, iteF ⟨_, rfl, _, true, .o (kA.own 6), kA.kit 6 6, true, rfl, iteT (vFld_of rfl c (no _ (by decide)) (by kernel_rfl) ⟨x, rfl, (by simp only [Pt.depth] at hd; omega), vFld_of rfl c (no _ (by decide)) (by kernel_rfl) ⟨y, rfl, (by simp only [Pt.depth] at hd; omega), (show 3 ≤ sizeLine by decide), q⟩⟩)⟩⟩⟩⟩⟩⟩⟩
  | whn x s => exact ⟨_, rfl, _, false, .o (kA.own 7), kA.kit 7 0, false, rfl, iteF ⟨_, rfl, _, false, .o (kA.own 7), kA.kit 7 1, false, rfl, iteF ⟨_, rfl, _, false, .o (kA.own 7), kA.kit 7 2, false, rfl, iteF ⟨_, rfl, _, false, .o (kA.own 7), kA.kit 7 3, false, rfl, iteF ⟨_, rfl, _, false, .o (kA.own 7), kA.kit 7 4, false, rfl, iteF ⟨_, rfl, _, false, .o (kA.own 7), kA.kit 7 5, false, rfl, iteF ⟨_, rfl, _, false, .o (kA.own 7), kA.kit 7 6, false, rfl, iteF ⟨_, rfl, _, true, .o (kA.own 7), kA.kit 7 7, true, rfl, iteT (vFld_of rfl c (no _ (by decide)) (by kernel_rfl) ⟨x, rfl, (by simp only [Pt.depth] at hd; omega), vFld_of rfl c (no _ (by decide)) (by kernel_rfl) (⟨(show 3 ≤ sizeLine by decide), q⟩)⟩)⟩⟩⟩⟩⟩⟩⟩⟩
  | held x s f => exact ⟨_, rfl, _, false, .o (kA.own 8), kA.kit 8 0, false, rfl, iteF ⟨_, rfl, _, false, .o (kA.own 8), kA.kit 8 1, false, rfl, iteF ⟨_, rfl, _, false, .o (kA.own 8), kA.kit 8 2, false, rfl, iteF ⟨_, rfl, _, false, .o (kA.own 8), kA.kit 8 3, false, rfl, iteF ⟨_, rfl, _, false, .o (kA.own 8), kA.kit 8 4, false, rfl, iteF ⟨_, rfl, _, false, .o (kA.own 8), kA.kit 8 5, false, rfl, iteF ⟨_, rfl, _, false, .o (kA.own 8), kA.kit 8 6, false, rfl, iteF ⟨_, rfl, _, false, .o (kA.own 8), kA.kit 8 7, false, rfl, iteF ⟨_, rfl, _, true, .o (kA.own 8), kA.kit 8 8, true, rfl, iteT (vFld_of rfl c (no _ (by decide)) (by kernel_rfl) ⟨x, rfl, (by simp only [Pt.depth] at hd; omega), vFld_of rfl c (no _ (by decide)) (by kernel_rfl) (vFld_of rfl c (no _ (by decide)) (by kernel_rfl) (⟨(show 4 ≤ sizeLine by decide), q⟩))⟩)⟩⟩⟩⟩⟩⟩⟩⟩⟩
theorem by_fields_all (hA : AOk K A) (kA : Kit K A pa) (ic : IsC mg A pa) (d : Df K mg "_law_by_fields" s__law_by_fields ["_law_part"]) (n_isinstance : mg "isinstance" = none) : ∀ n, Cal P w K mg base n "_law_by_fields" ["_law_part"] (sdPd A n Pt.told)
  | 0 => Df.never d fun ds Q ⟨p, _, h, _⟩ => absurd p.depth_pos (by omega)
  | n + 1 => c_by_fields hA kA ic d n_isinstance (by_fields_all hA kA ic d n_isinstance n)
end
def smD : Nat → D → Prop
  | _, .non => True
  | _, .bl _ => True
  | _, .int _ => True
  | _, .str _ => True
  | n + 1, .lst xs => xs.length < 1000 ∧ ∀ x ∈ xs, smD n x
  | n + 1, .tup xs => xs.length < 1000 ∧ ∀ x ∈ xs, smD n x
  | _, _ => False
theorem sm_val {v : D} {n : Nat} (h : isFirst v) : smD n v := by
  rcases h with rfl | ⟨b, rfl⟩ | ⟨i, rfl, _⟩ <;> cases n <;> trivial
theorem sm_str {s : Str} {n : Nat} : smD n (.str s) := by cases n <;> trivial
theorem sm_told : ∀ (p : Pt) (n : Nat), p.ok → p.depth ≤ n → smD n p.told := by
  intro p
  induction p with
  | given v => intro n ho hd; cases n with
    | zero => simp only [Pt.depth] at hd; omega
    | succ n => exact ⟨(by decide : 2 < 1000), fun x hx => by simp only [List.mem_cons, List.not_mem_nil, or_false] at hx; rcases hx with rfl | rfl; exact sm_str; exact sm_val (.inr ho)⟩
  | named s => intro n ho hd; cases n with
    | zero => simp only [Pt.depth] at hd; omega
    | succ n => exact ⟨(by decide : 2 < 1000), fun x hx => by simp only [List.mem_cons, List.not_mem_nil, or_false] at hx; rcases hx with rfl | rfl; exact sm_str; exact sm_str⟩
  | turned a iha => intro n ho hd; cases n with
    | zero => simp only [Pt.depth] at hd; omega
    | succ n => exact ⟨(by decide : 2 < 1000), fun x hx => by simp only [List.mem_cons, List.not_mem_nil, or_false] at hx; simp only [Pt.depth] at hd; rcases hx with rfl | rfl; exact sm_str; exact iha n ho (by omega)⟩
  | pair g a b iha ihb => intro n ho hd; cases n with
    | zero => simp only [Pt.depth] at hd; omega
    | succ n => exact ⟨(by decide : 3 < 1000), fun x hx => by simp only [List.mem_cons, List.not_mem_nil, or_false] at hx; simp only [Pt.depth] at hd; rcases hx with rfl | rfl | rfl; exact sm_str; exact iha n ho.2.1 (by omega); exact ihb n ho.2.2 (by omega)⟩
  | choice t a b iht iha ihb => intro n ho hd; cases n with
    | zero => simp only [Pt.depth] at hd; omega
    | succ n => exact ⟨(by decide : 4 < 1000), fun x hx => by simp only [List.mem_cons, List.not_mem_nil, or_false] at hx; simp only [Pt.depth] at hd; rcases hx with rfl | rfl | rfl | rfl; exact sm_str; exact iht n ho.1 (by omega); exact iha n ho.2.1 (by omega); exact ihb n ho.2.2 (by omega)⟩
  | before a f iha => intro n ho hd; cases n with
    | zero => simp only [Pt.depth] at hd; omega
    | succ n => exact ⟨(by decide : 3 < 1000), fun x hx => by simp only [List.mem_cons, List.not_mem_nil, or_false] at hx; simp only [Pt.depth] at hd; rcases hx with rfl | rfl | rfl; exact sm_str; exact iha n ho.1 (by omega); exact sm_val ho.2⟩
  | led a b iha ihb => intro n ho hd; cases n with
    | zero => simp only [Pt.depth] at hd; omega
    | succ n => exact ⟨(by decide : 3 < 1000), fun x hx => by simp only [List.mem_cons, List.not_mem_nil, or_false] at hx; simp only [Pt.depth] at hd; rcases hx with rfl | rfl | rfl; exact sm_str; exact iha n ho.1 (by omega); exact ihb n ho.2 (by omega)⟩
  | whn a s iha => intro n ho hd; cases n with
    | zero => simp only [Pt.depth] at hd; omega
    | succ n => exact ⟨(by decide : 3 < 1000), fun x hx => by simp only [List.mem_cons, List.not_mem_nil, or_false] at hx; simp only [Pt.depth] at hd; rcases hx with rfl | rfl | rfl; exact sm_str; exact iha n ho.1 (by omega); exact sm_str⟩
  | held a s f iha => intro n ho hd; cases n with
    | zero => simp only [Pt.depth] at hd; omega
    | succ n => exact ⟨(by decide : 4 < 1000), fun x hx => by simp only [List.mem_cons, List.not_mem_nil, or_false] at hx; simp only [Pt.depth] at hd; rcases hx with rfl | rfl | rfl | rfl; exact sm_str; exact iha n ho.1 (by omega); exact sm_str; exact sm_val ho.2.2⟩
def sdSame (n : Nat) : SpD := fun ds Q => ∃ d k, ds = [d, d] ∧ k < n ∧ smD k d ∧ Q (.bl true)
theorem m_Same {n : Nat} : MonoS (sdSame n) := fun ds P P' f ⟨d, k, e, l, h, q⟩ => ⟨d, k, e, l, h, f _ q⟩
theorem zip_self (xs : List D) (i : Nat) (d : D) (h : (List.zipWith (fun x y => D.tup [x, y]) xs xs)[i]? = some d) : ∃ x ∈ xs, d = .tup [x, x] := by
  rw [List.getElem?_zipWith] at h
  cases e : xs[i]? with
  | none => rw [e] at h; cases h
  | some x =>
    rw [e] at h
    exact ⟨x, List.mem_of_getElem? e, by simpa using h.symm⟩
section
seal wpAny
variable {P : Program} {w : World} {K : PySem.W.Frag} {mg : Str → Option Value} {base : Heap} {A : Adr} {n j : Nat}
theorem same_seq {xs : List D} {Q : D → Prop} {caps : List Nat} {δ : SD} {k : Nat} (hk : k < n) (hl : xs.length < 1000) (h : ∀ x ∈ xs, smD k x) (q : Q (.bl true)) :
    ∃ outs : List (Option D), outs.length = (List.zipWith (fun x y => D.tup [x, y]) xs xs).length ∧
      (∀ (i : Nat) (d : D) (o : Option D), (List.zipWith (fun x y => D.tup [x, y]) xs xs)[i]? = some d → outs[i]? = some o → ∃ x y, d = .tup [x, y] ∧ uYes (some x :: some y :: capD caps δ) fun b => b = o.isSome ∧ (b = true → vCall (sdSame n) (aCons (vVar 0) (aCons (vVar 1) aNil)) (some x :: some y :: capD caps δ) fun r => o = some r)) ∧
      (List.zipWith (fun x y => D.tup [x, y]) xs xs).length < sizeLine ∧ aNil δ (fun ds => sdAll (D.lst (outs.filterMap id) :: ds) Q) := by
  have hz : (List.zipWith (fun x y => D.tup [x, y]) xs xs).length = xs.length := by rw [List.length_zipWith, Nat.min_self]
  refine ⟨List.replicate xs.length (some (.bl true)), by rw [hz, List.length_replicate], fun i d o h1 h2 => ?_, by rw [hz]; exact Nat.lt_of_lt_of_le hl (by decide), List.replicate xs.length true, ?_, ?_⟩
  · obtain ⟨x, hx, rfl⟩ := zip_self xs i d h1
    have ho : o = some (.bl true) := by
      have := List.mem_of_getElem? h2
      exact (List.mem_replicate.mp this).2
    subst ho
    exact ⟨x, x, rfl, rfl, fun _ => ⟨_, rfl, _, rfl, x, k, rfl, hk, h x hx, rfl⟩⟩
  · rw [List.map_replicate]
    congr 2
    generalize xs.length = k
    induction k with
    | zero => rfl
    | succ k ih => rw [List.replicate_succ, List.replicate_succ, List.filterMap_cons]; exact congrArg _ ih
  · have e : (List.replicate xs.length true).all id = true := by
      rw [List.all_eq_true]
      intro b hb
      exact (List.mem_replicate.mp hb).2
    rw [e]
    exact q
theorem c_same (d : Df K mg "_law_same" s__law_same ["_law_found", "_law_due"]) (n_isinstance : mg "isinstance" = none) (n_tuple : mg "tuple" = none) (n_list : mg "list" = none) (n_len : mg "len" = none) (n_all : mg "all" = none) (n_zip : mg "zip" = none) (n_bool : mg "bool" = none)
    (c__law_same : Cal P w K mg base j "_law_same" ["_law_found", "_law_due"] (sdSame n)) : Cal P w K mg base (j + 1) "_law_same" ["_law_found", "_law_due"] (sdSame (n + 1)) := by
  refine d.cal sc__law_same m_Same (fun ds Q ⟨p, _, e, _⟩ => by rw [e]; rfl) (fun f cdv A outer s H E hr => have hu := hr.units; have hh := hr.hd; have sc := sc__law_same
    (ss_cons (s_if (t_tru (d_isi2 (dv 1) (by rfl) n_isinstance (by rfl) n_tuple DC.boot_tuple (by rfl) n_list DC.boot_list (by decide) (by decide))) (ss_cons (s_if (PWd.td (w_or (t_ne hu (isi_tuple (by rfl) n_isinstance (by rfl) n_tuple (dv 1)) (isi_tuple (by rfl) n_isinstance (by rfl) n_tuple (dv 0))) (w_or1 (t_ne hu (isi_list (by rfl) n_isinstance (by rfl) n_list (dv 1)) (isi_list (by rfl) n_isinstance (by rfl) n_list (dv 0)))))) (ss_one (s_ret d_bl)) ss_nil)
  (ss_one (s_ret (d_and (d_eq hu (d_len (by rfl) n_len (a_cons (dv 0) a_nil)) (d_len (by rfl) n_len (a_cons (dv 1) a_nil))) (d_one (d_all hh (by rfl) n_all (a_cons (d_lc2 (x := "_law_one") (y := "_law_other") (caps := []) (cn := []) (cl := []) (comp0 (by rfl) (by rfl) (by decide +kernel) (by decide +kernel) (by decide +kernel)) rfl (i_zip (by rfl) n_zip (a_cons (dv 0) (a_cons (dv 1) a_nil))) (fun C fp s₂ H₂ => pg_tup rfl (pgs_cons (pg_name (i := 0) (show (["_law_one", "_law_other"] : List Str).Nodup by decide +kernel) rfl (Or.inl rfl) (.inr rfl)) (pgs_cons (pg_name (i := 1) (show (["_law_one", "_law_other"] : List Str).Nodup by decide +kernel) rfl (Or.inl rfl) (.inr rfl)) pgs_nil))) (fun C fp s₂ H₂ => ts_nil) (fun C fp s₂ H₂ => (d_cal c__law_same hr (by omega) (by rfl) (a_cons (dv 0) (a_cons (dv 1) a_nil))))) a_nil))))))) ss_nil)
  (ss_one (s_ret (d_and (d_eq hu (isi_bool (by rfl) n_isinstance (by rfl) n_bool (dv 0)) (isi_bool (by rfl) n_isinstance (by rfl) n_bool (dv 1))) (d_one (d_eq hu (dv 0) (dv 1)))))))) ?_
  rintro ds Q ⟨d, k, rfl, hk, hs, q⟩
  cases d with
  | lst xs =>
    obtain ⟨k, rfl⟩ : ∃ m, k = m + 1 := by
      cases k with
      | zero => exact hs.elim
      | succ k => exact ⟨k, rfl⟩
    refine ⟨_, rfl, _, _, rfl, rfl, _, rfl, iteT ⟨_, rfl, _, rfl, _, rfl, _, rfl, false, rfl, iteF ⟨_, rfl, _, rfl, _, rfl, _, rfl, false, rfl, iteF ?_⟩⟩⟩
    exact ⟨_, rfl, _, _, rfl, rfl, _, rfl, _, _, rfl, rfl, true, congrArg D.bl (by simp), iteT ⟨_, rfl, _, rfl, _, _, _, _, xs, xs, rfl, rfl, rfl, same_seq (by omega) hs.1 hs.2 q⟩⟩
  | tup xs =>
    obtain ⟨k, rfl⟩ : ∃ m, k = m + 1 := by
      cases k with
      | zero => exact hs.elim
      | succ k => exact ⟨k, rfl⟩
    refine ⟨_, rfl, _, _, rfl, rfl, _, rfl, iteT ⟨_, rfl, _, rfl, _, rfl, _, rfl, false, rfl, iteF ⟨_, rfl, _, rfl, _, rfl, _, rfl, false, rfl, iteF ?_⟩⟩⟩
    exact ⟨_, rfl, _, _, rfl, rfl, _, rfl, _, _, rfl, rfl, true, congrArg D.bl (by simp), iteT ⟨_, rfl, _, rfl, _, _, _, _, xs, xs, rfl, rfl, rfl, same_seq (by omega) hs.1 hs.2 q⟩⟩
  | non => exact ⟨_, rfl, _, _, rfl, rfl, _, rfl, iteF ⟨_, rfl, _, rfl, _, rfl, _, rfl, true, rfl, iteT ⟨_, rfl, _, rfl, q⟩⟩⟩
  | bl b => exact ⟨_, rfl, _, _, rfl, rfl, _, rfl, iteF ⟨_, rfl, _, rfl, _, rfl, _, rfl, true, rfl, iteT ⟨_, rfl, _, rfl, by simpa [eqScal, fEq] using q⟩⟩⟩
  | int b => exact ⟨_, rfl, _, _, rfl, rfl, _, rfl, iteF ⟨_, rfl, _, rfl, _, rfl, _, rfl, true, rfl, iteT ⟨_, rfl, _, rfl, by simpa [eqScal, fEq] using q⟩⟩⟩
  | str b => exact ⟨_, rfl, _, _, rfl, rfl, _, rfl, iteF ⟨_, rfl, _, rfl, _, rfl, _, rfl, true, rfl, iteT ⟨_, rfl, _, rfl, by simpa [eqScal, fEq] using q⟩⟩⟩
  | _ => cases k <;> exact hs.elim
theorem same_all (d : Df K mg "_law_same" s__law_same ["_law_found", "_law_due"]) (n_isinstance : mg "isinstance" = none) (n_tuple : mg "tuple" = none) (n_list : mg "list" = none) (n_len : mg "len" = none) (n_all : mg "all" = none) (n_zip : mg "zip" = none) (n_bool : mg "bool" = none) :
    ∀ n, Cal P w K mg base n "_law_same" ["_law_found", "_law_due"] (sdSame n)
  | 0 => Df.never d fun ds Q ⟨_, _, _, h, _⟩ => absurd h (by omega)
  | n + 1 => c_same d n_isinstance n_tuple n_list n_len n_all n_zip n_bool (same_all d n_isinstance n_tuple n_list n_len n_all n_zip n_bool n)
theorem c_whole (d : Df K mg "_law_whole" s__law_whole ["_law_found"]) (n_isinstance : mg "isinstance" = none) (n_int : mg "int" = none) (n_bool : mg "bool" = none) : Cal P w K mg base (j + 1) "_law_whole" ["_law_found"] (fun ds Q => ∃ i : Int, ds = [.int i] ∧ Q (.bl true)) := by
  refine d.cal sc__law_whole (fun ds P P' f ⟨d, e, q⟩ => ⟨d, e, f _ q⟩) (fun ds Q ⟨p, e, _⟩ => by rw [e]; rfl) (fun f cdv A outer s H E hr => have hu := hr.units; have hh := hr.hd; have sc := sc__law_whole
    (ss_one (s_ret (d_and (isi_int (by rfl) n_isinstance (by rfl) n_int (dv 0)) (d_one (d_not (isi_bool (by rfl) n_isinstance (by rfl) n_bool (dv 0)))))))) ?_
  rintro ds Q ⟨i, rfl, q⟩
  exact ⟨_, rfl, true, rfl, true, rfl, iteT ⟨_, rfl, false, rfl, false, rfl, q⟩⟩
end
end K03

set_option maxHeartbeats 4000000
namespace K03
open PySem PySem.Spec PyProof.Rows L2 DC
theorem view_pt (A : Adr) (μ : Mu) (p : Pt) : viewD μ (p.d A) = p.d A := by cases p <;> rfl
theorem view_told (μ : Mu) (p : Pt) : viewD μ p.told = p.told := by rw [p.told_eq]; rfl
theorem fMeth_of {A : Adr} {n : Nat} {ok : Pt → Prop} {g : Pt → List Str} {m : Str} {i : Nat} {δ : SD} {p : Pt} {Q : D → Mu → Prop} (hm : noM m) (h : δ[i]? = some (some (p.d A))) (hd : p.depth ≤ n) (ho : ok p) (q : ∀ a, Q (.adr a) [(a, .lst ((g p).map D.str))]) :
    fMeth (isP A) m (sdNF A n ok g) (vVar i) δ Q := by
  obtain ⟨gs, e1, e2⟩ := no_meth A hm p
  exact ⟨_, h, p.cls A, gs, e1, e2, ⟨p, rfl⟩, p, rfl, rfl, hd, ho, q⟩
theorem look_two {a b : Addr} {x y : MD} {μ : Mu} (h : (((b, y) :: (a, x) :: μ).map (·.1)).Nodup) : ((b, y) :: (a, x) :: μ).lookup a = some x ∧ ((b, y) :: (a, x) :: μ).lookup b = some y ∧ a ≠ b := by
  have hne : a ≠ b := fun e => by subst e; simp at h
  refine ⟨?_, ?_, hne⟩
  · rw [List.lookup_cons, show (a == b) = false from beq_false_of_ne hne, List.lookup_cons, beq_self_eq_true]
  · rw [List.lookup_cons, beq_self_eq_true]
theorem view_adr {a : Addr} {ds : List D} {μ : Mu} (h : μ.lookup a = some (.lst ds)) : viewD μ (.adr a) = .lst ds := by simp [viewD, MD.d, h]
theorem sm_strs (l : List Str) {n : Nat} (h : l.length < 1000) : smD (n + 1) (strsD l) := ⟨by rw [List.length_map]; exact h, fun x hx => by
  obtain ⟨s, _, rfl⟩ := List.mem_map.mp hx
  exact sm_str⟩
theorem put_two {a b : Addr} {x y x' : MD} {μ : Mu} (h : a ≠ b) : (putM a x' ((b, y) :: (a, x) :: μ)).lookup b = some y := by
  unfold putM
  rw [List.map_cons, if_neg (show ¬ (b = a) from fun e => h e.symm), List.lookup_cons, beq_self_eq_true]
def okW (p : Pt) : Prop := p.ok ∧ okB p
theorem okW.l {p : Pt} (h : okW p) : okL p := ⟨h.1, h.2.2⟩
def sdRight (A : Adr) : SpD := fun ds Q => ∃ p : Pt, ds = [p.d A, p.told] ∧ okW p ∧ Q (.bl true)
theorem m_Right {A : Adr} : MonoS (sdRight A) := fun ds P P' f ⟨p, e, h, q⟩ => ⟨p, e, h, f _ q⟩
theorem ne_self {x : Str} : (if true = true then !decide (x = x) else decide (x = x)) = false := by simp
theorem ne_int {x : Int} : (if true = true then !decide (x = x) else decide (x = x)) = false := by simp
section
seal wpAny
variable {P : Program} {w : World} {K : PySem.W.Frag} {mg : Str → Option Value} {base : Heap} {A : Adr} {n j : Nat} {pa : Addr}
theorem c_right (kA : Kit K A pa) (ic : IsC mg A pa) (d : Df K mg "_law_right" s__law_right ["_law_part", "_law_told"]) (n_isinstance : mg "isinstance" = none) (n_str : mg "str" = none) (n_tuple : mg "tuple" = none) (n_range : mg "range" = none)
    (c__law_same : Cal P w K mg base j "_law_same" ["_law_found", "_law_due"] (sdSame 13)) (c__law_text : Cal P w K mg base j "_law_text" ["_law_told"] (sdTn 10 okL fun p => .str p.text)) (c__law_whole : Cal P w K mg base j "_law_whole" ["_law_found"] (fun ds Q => ∃ i : Int, ds = [.int i] ∧ Q (.bl true)))
    (c__law_size : Cal P w K mg base j "_law_size" ["_law_told"] (sdTn 10 Pt.ok fun p => .int p.size)) (c__law_depth : Cal P w K mg base j "_law_depth" ["_law_told"] (sdTn 10 Pt.ok fun p => .int p.depth)) (c__law_inner : Cal P w K mg base j "_law_inner" ["_law_told"] (sdTd Pt.ok gIn))
    (c__law_names_in : Cal P w K mg base j "_law_names_in" ["_law_told", "_law_all_of_them"] (sdNin 10))
    (m_told : MP P w K mg base A j "told" 10 Pt.told) (m_text : MQ P w K mg base A j "text" 10 okT gText) (m_size : MP P w K mg base A j "size" 10 fun p => .int p.size) (m_depth : MP P w K mg base A j "depth" 10 fun p => .int p.depth) (m_inner : MP P w K mg base A j "inner" 10 (gInner A))
    (mf_names : MF P w K mg base A j "names" 10 okN Pt.names) (mf_needs : MF P w K mg base A j "needs" 10 okN Pt.needs) :
    Cal P w K mg base (j + 1) "_law_right" ["_law_part", "_law_told"] (sdRight A) := by
  have i_Part := ic.part
  refine d.calM sc__law_right m_Right (fun ds Q ⟨p, e, _⟩ => by rw [e]; rfl) (fun f cdv A outer s H E hr => have hu := hr.units; have hh := hr.hd; have sc := sc__law_right
    (ms_cons (ms_if (PWd.td (w_or (t_not (t_tru (d_isiK K rfl (dv 0) (by rfl) n_isinstance (by rfl) i_Part))) (w_or (t_not (t_tru (d_cal c__law_same hr (by omega) (by rfl) (a_cons (d_m0 m_told hr (by omega) (dv 0)) (a_cons (dv 1) a_nil))))) (w_or1 (t_ne hu (d_m0 m_text hr (by omega) (dv 0)) (d_cal c__law_text hr (by omega) (by rfl) (a_cons (dv 1) a_nil))))))) (ms_one (ms_ret d_bl)) ms_nil)
  (ms_cons (ms_if (PWd.td (w_or (t_not (t_tru (d_cal c__law_whole hr (by omega) (by rfl) (a_cons (d_m0 m_size hr (by omega) (dv 0)) a_nil)))) (w_or (t_not (t_tru (d_cal c__law_whole hr (by omega) (by rfl) (a_cons (d_m0 m_depth hr (by omega) (dv 0)) a_nil)))) (w_or1 (t_not (t_tru (isi_str (by rfl) n_isinstance (by rfl) n_str (d_m0 m_text hr (by omega) (dv 0))))))))) (ms_one (ms_ret d_bl)) ms_nil)
  (ms_cons (ms_if (PWd.td (w_or (t_ne hu (d_m0 m_size hr (by omega) (dv 0)) (d_cal c__law_size hr (by omega) (by rfl) (a_cons (dv 1) a_nil))) (w_or (t_ne hu (d_m0 m_depth hr (by omega) (dv 0)) (d_cal c__law_depth hr (by omega) (by rfl) (a_cons (dv 1) a_nil))) (w_or1 (t_not (t_tru (isi_tuple (by rfl) n_isinstance (by rfl) n_tuple (d_m0 m_inner hr (by omega) (dv 0))))))))) (ms_one (ms_ret d_bl)) ms_nil)
  (ms_cons (ms_if (t_not (t_tru (d_cal c__law_same hr (by omega) (by rfl) (a_cons (d_lc (x := "_law_one") (caps := []) (cn := []) (cl := []) (comp0 (by rfl) (by rfl) (by decide +kernel) (by decide +kernel) (by decide +kernel)) rfl (i_any (d_m0 m_inner hr (by omega) (dv 0))) (fun C fp s₂ H₂ => pg_name (i := 0) (show (["_law_one"] : List Str).Nodup by decide +kernel) rfl (Or.inl rfl) (.inr rfl)) (fun C fp s₂ H₂ => ts_nil) (fun C fp s₂ H₂ => (d_m0 m_told hr (by omega) (dv 0)))) (a_cons (d_cal c__law_inner hr (by omega) (by rfl) (a_cons (dv 1) a_nil)) a_nil))))) (ms_one (ms_ret d_bl)) ms_nil)
  (ms_cons (ms_for PassesOwn.never rfl (i_range1 (by rfl) n_range (a_cons d_int a_nil)) (g_name (i := 2) sc.nd rfl (Or.inl rfl)) (ms_cons (ms_setN (i := 3) sc.nd rfl (Or.inl rfl) (f_m0 mf_names hr (by omega) (dv 0)))
  (ms_cons (ms_setN (i := 4) sc.nd rfl (Or.inl rfl) (f_m0 mf_needs hr (by omega) (dv 0)))
  (ms_cons (ms_if (PWd.td (w_or (t_not (t_tru (d_cal c__law_same hr (by omega) (by rfl) (a_cons (dv 3) (a_cons (d_cal c__law_names_in hr (by omega) (by rfl) (a_cons (dv 1) (a_cons d_bl a_nil))) a_nil))))) (w_or1 (t_not (t_tru (d_cal c__law_same hr (by omega) (by rfl) (a_cons (dv 4) (a_cons (d_cal c__law_names_in hr (by omega) (by rfl) (a_cons (dv 1) (a_cons d_bl a_nil))) a_nil)))))))) (ms_one (ms_ret d_bl)) ms_nil)
  (ms_cons (ms_append (i := 3) rfl (Or.inl rfl) d_str)
  (ms_one (ms_clear (i := 4) rfl (Or.inl rfl))))))))
  (ms_one (ms_ret d_bl)))))))) ?_
  rintro ds Q ⟨p, rfl, ho, q⟩
  have hd : p.depth ≤ 10 := ho.2.1
  have hL := ho.l
  have ht : ∀ μ : Mu, [viewD μ p.told] = [p.told] := fun μ => by rw [view_told]
  have hv : ∀ μ : Mu, viewD μ (p.d A) = p.d A := fun μ => view_pt A μ p
  have ty : ∀ μ : Mu, ∃ i : Fin 9, TyD K (viewD μ (p.d A)) (.ref (A.at i)) := fun μ => by
    obtain ⟨gs, e⟩ := pt_obj A p
    obtain ⟨i, hi⟩ := pt_at A p
    refine ⟨i, ?_⟩
    rw [hv, e, hi]
    exact .o (kA.own i)
  obtain ⟨i0, ty0⟩ := ty []
  have sm : smD 12 p.told := sm_told p 12 ho.1 (by omega)
  refine ⟨_, rfl, _, true, ty0, kA.part i0, true, rfl, iteF ?_⟩
  refine vMeth_of (p := p) m_var noM_told ⟨_, rfl, hv _⟩ hd ⟨_, rfl, p.told, 12, by rw [view_told], (by decide), sm, true, rfl, iteF ?_⟩
  refine vMethQ_of (p := p) m_var noM_text ⟨_, rfl, hv _⟩ hd hL.t ⟨_, rfl, p, ht _, hd, hL, false, congrArg D.bl ne_self, iteF ?_⟩
  refine vMeth_of (p := p) m_var noM_size ⟨_, rfl, hv _⟩ hd ⟨_, rfl, true, rfl, iteF ?_⟩
  refine vMeth_of (p := p) m_var noM_depth ⟨_, rfl, hv _⟩ hd ⟨_, rfl, true, rfl, iteF ?_⟩
  refine vMethQ_of (p := p) m_var noM_text ⟨_, rfl, hv _⟩ hd hL.t ⟨true, rfl, true, rfl, iteF ?_⟩
  refine vMeth_of (p := p) m_var noM_size ⟨_, rfl, hv _⟩ hd ⟨_, rfl, p, ht _, hd, ho.1, false, congrArg D.bl ne_int, iteF ?_⟩
  refine vMeth_of (p := p) m_var noM_depth ⟨_, rfl, hv _⟩ hd ⟨_, rfl, p, ht _, hd, ho.1, false, congrArg D.bl ne_int, iteF ?_⟩
  refine vMeth_of (p := p) m_var noM_inner ⟨_, rfl, hv _⟩ hd ⟨true, rfl, true, rfl, iteF ?_⟩
  refine vMeth_of (p := p) m_var noM_inner ⟨_, rfl, hv _⟩ hd ⟨p.inner.map (Pt.d A), rfl, p.inner.map fun q => some q.told, by simp, fun i d o h1 h2 => ?_, ?_, ?_⟩
  · obtain ⟨r, hr, e1, e2⟩ := inner_at (g := Pt.told) h1 h2
    subst e1 e2
    exact ⟨rfl, fun _ => vMeth_of (p := r) m_var noM_told ⟨_, rfl, rfl⟩ (Nat.le_succ_of_le (p.in_depth hr (n := 9) hd)) rfl⟩
  · rw [List.length_map]; exact Nat.lt_of_le_of_lt p.inner_len (by decide)
  · rw [List.filterMap_map, filterMap_some]
    refine ⟨_, rfl, p, ht _, ho.1, _, 12, rfl, (by decide), ⟨?_, ?_⟩, true, rfl, iteF ?_⟩
    · rw [List.length_map]; exact Nat.lt_of_le_of_lt p.inner_len (by decide)
    · intro x hx
      obtain ⟨r, hr, rfl⟩ := List.mem_map.mp hx
      exact sm_told r 11 (Pt.ok_in hr ho.1) (by have := p.in_depth hr (n := 9) hd; omega)
    · refine ⟨_, rfl, (by decide), (by decide), fun i δ μ => ∃ x y z, δ = [some (p.d A), some p.told, x, y, z], ⟨none, none, none, rfl⟩, ?_, ?_⟩
      · rintro i dd δ μ _ ⟨x, y, z, rfl⟩
        refine fMeth_of (p := p) noM_names rfl hd (show p.size ≤ 900 by have := ho.2.2; omega) fun a na => ?_
        refine fMeth_of (p := p) noM_needs rfl hd (show p.size ≤ 900 by have := ho.2.2; omega) fun b nb => ?_
        obtain ⟨l1, l2, hab⟩ := look_two nb
        have n1 : p.names.length ≤ 40 := by have := p.names_len; have := ho.2.2; omega
        have n2 : p.needs.length ≤ 40 := by have := p.needs_len; have := ho.2.2; omega
        refine ⟨_, rfl, _, rfl, p, true, by rw [view_told], hd, hL, strsD p.names, 1, congrArg (fun z => [z, strsD (gN true p)]) (view_adr l1), (by decide), sm_strs _ (by omega), true, rfl, iteF ?_⟩
        refine ⟨_, rfl, _, rfl, p, false, by rw [view_told], hd, hL, strsD p.needs, 1, congrArg (fun z => [z, strsD (gN false p)]) (view_adr l2), (by decide), sm_strs _ (by omega), true, rfl, iteF ?_⟩
        refine ⟨a, _, rfl, l1, by rw [List.length_map]; exact Nat.lt_of_le_of_lt n1 (by decide), ?_⟩
        refine ⟨b, _, rfl, put_two hab, ?_⟩
        exact ⟨_, _, _, rfl⟩
      · rintro δ μ ⟨x, y, z, rfl⟩
        exact q
end
end K03

set_option maxHeartbeats 4000000
namespace K03
open PySem PySem.Spec PyProof.Rows L2 DC
def plOk (n : Nat) (d : D) : Prop := DC.plain d = true ∧ (toP d).canLay0 = true ∧ (toP d).depth ≤ n
theorem pl_val {v : D} {n : Nat} (h : isFirst v) : plOk n v := by
  rcases h with rfl | ⟨b, rfl⟩ | ⟨i, rfl, _⟩ <;> exact ⟨rfl, rfl, Nat.zero_le _⟩
theorem pl_str {s : Str} {n : Nat} (h : PyData.strOk s = true) : plOk n (.str s) := ⟨rfl, h, Nat.zero_le _⟩
theorem pl_tup {n : Nat} : ∀ {xs : List D}, (∀ x ∈ xs, plOk n x) → plains xs = true ∧ PyData.canLayAll0 (toPs xs) = true ∧ PyData.depthAll (toPs xs) ≤ n
  | [], _ => ⟨rfl, rfl, Nat.zero_le _⟩
  | x :: xs, h => by
    obtain ⟨a1, a2, a3⟩ := h x List.mem_cons_self
    obtain ⟨b1, b2, b3⟩ := pl_tup fun y m => h y (List.mem_cons_of_mem _ m)
    refine ⟨?_, ?_, ?_⟩
    · rw [plains, a1, b1]; rfl
    · rw [toPs, PyData.canLayAll0, a2, b2]; rfl
    · rw [toPs, PyData.depthAll]; omega
theorem pl_tupD {n : Nat} {xs : List D} (h : ∀ x ∈ xs, plOk n x) : plOk (n + 1) (.tup xs) := by
  obtain ⟨b1, b2, b3⟩ := pl_tup h
  refine ⟨?_, ?_, ?_⟩
  · rw [DC.plain]; exact b1
  · rw [toP, PyData.canLay0]; exact b2
  · rw [toP, PyData.depth]; omega
theorem pl_lstD {n : Nat} {xs : List D} (h : ∀ x ∈ xs, plOk n x) : plOk (n + 1) (.lst xs) := by
  obtain ⟨b1, b2, b3⟩ := pl_tup h
  refine ⟨?_, ?_, ?_⟩
  · rw [DC.plain]; exact b1
  · rw [toP, PyData.canLay0]; exact b2
  · rw [toP, PyData.depth]; omega
theorem plOk.mono {m n : Nat} {d : D} (h : plOk m d) (hm : m ≤ n) : plOk n d := ⟨h.1, h.2.1, Nat.le_trans h.2.2 hm⟩
theorem word_ok {p : Pt} (ho : p.ok) : PyData.strOk p.word = true := by
  cases p <;> try (simp only [Pt.word]; decide +kernel)
  case pair g x y =>
    have all : ∀ g ∈ signL, PyData.strOk g = true := by decide +kernel
    exact all g ho.1
theorem pl_told : ∀ (p : Pt), p.ok → plOk p.depth p.told := by
  intro p
  induction p with
  | given v => intro ho; exact pl_tupD (n := 0) fun x hx => by simp only [List.mem_cons, List.not_mem_nil, or_false] at hx; rcases hx with rfl | rfl; exact pl_str (by decide +kernel); exact pl_val (.inr ho)
  | named s => intro ho; exact pl_tupD (n := 0) fun x hx => by simp only [List.mem_cons, List.not_mem_nil, or_false] at hx; rcases hx with rfl | rfl; exact pl_str (by decide +kernel); exact pl_str ho.2.2
  | turned a iha => intro ho; exact pl_tupD fun x hx => by simp only [List.mem_cons, List.not_mem_nil, or_false] at hx; rcases hx with rfl | rfl; exact pl_str (by decide +kernel); exact iha ho
  | pair g a b iha ihb => intro ho; exact pl_tupD fun x hx => by simp only [List.mem_cons, List.not_mem_nil, or_false] at hx; rcases hx with rfl | rfl | rfl; exact pl_str (word_ok (p := .pair g a b) ho); exact (iha ho.2.1).mono (by omega); exact (ihb ho.2.2).mono (by omega)
  | choice t a b iht iha ihb => intro ho; exact pl_tupD fun x hx => by simp only [List.mem_cons, List.not_mem_nil, or_false] at hx; rcases hx with rfl | rfl | rfl | rfl; exact pl_str (by decide +kernel); exact (iht ho.1).mono (by omega); exact (iha ho.2.1).mono (by omega); exact (ihb ho.2.2).mono (by omega)
  | before a f iha => intro ho; exact pl_tupD fun x hx => by simp only [List.mem_cons, List.not_mem_nil, or_false] at hx; rcases hx with rfl | rfl | rfl; exact pl_str (by decide +kernel); exact iha ho.1; exact pl_val ho.2
  | led a b iha ihb => intro ho; exact pl_tupD fun x hx => by simp only [List.mem_cons, List.not_mem_nil, or_false] at hx; rcases hx with rfl | rfl | rfl; exact pl_str (by decide +kernel); exact (iha ho.1).mono (by omega); exact (ihb ho.2).mono (by omega)
  | whn a s iha => intro ho; exact pl_tupD fun x hx => by simp only [List.mem_cons, List.not_mem_nil, or_false] at hx; rcases hx with rfl | rfl | rfl; exact pl_str (by decide +kernel); exact iha ho.1; exact pl_str ho.2.2.2
  | held a s f iha => intro ho; exact pl_tupD fun x hx => by simp only [List.mem_cons, List.not_mem_nil, or_false] at hx; rcases hx with rfl | rfl | rfl | rfl; exact pl_str (by decide +kernel); exact iha ho.1; exact pl_str ho.2.1.2.2; exact pl_val ho.2.2
theorem plOk.shaped {n : Nat} {d : D} (h : plOk n d) (hn : n ≤ 64) : SeqAt.shaped (toP d) = true := by
  unfold SeqAt.shaped
  rw [h.2.1, decide_eq_true (Nat.le_trans h.2.2 hn)]
  rfl
theorem eq_told {p : Pt} {Q : D → Prop} (ho : p.ok) (hd : p.depth ≤ 64) (q : Q (.bl true)) : fEq false p.told p.told Q := by
  have h := pl_told p ho
  have e : eqScal p.told p.told = none := by rw [p.told_eq]; rfl
  have ev : PyData.eqv (toP p.told) (toP p.told) = true := SeqAt.eqv_refl _ h.2.1
  unfold fEq
  rw [e]
  refine ⟨h.1, h.1, h.shaped hd, h.shaped hd, ?_⟩
  rw [ev]
  exact q
theorem ne_nil {ps : List Pt} {Q : D → Prop} (ho : ∀ p ∈ ps, p.ok ∧ p.depth ≤ 60) (q : Q (.bl (!ps.isEmpty))) : fEq true (.lst (ps.map Pt.told)) (.lst []) Q := by
  have h : plOk 61 (.lst (ps.map Pt.told)) := pl_lstD fun x hx => by
    obtain ⟨p, hp, rfl⟩ := List.mem_map.mp hx
    exact (pl_told p (ho p hp).1).mono (ho p hp).2
  refine ⟨h.1, rfl, h.shaped (by decide), (by decide), ?_⟩
  cases ps with
  | nil => exact q
  | cons p r => exact q
def sdLaw : SpD := fun ds Q => ∃ ns : List Int, ds = [.lst (ns.map D.int)] ∧ Q (.bl true)
section
seal wpAny
seal mixed
variable {P : Program} {w : World} {K : PySem.W.Frag} {mg : Str → Option Value} {base : Heap} {A : Adr} {n j : Nat}
theorem okFun {x : Str} {st : Stmt} {f : Addr} {fd : FuncData} {N ps : List Str} {k : Nat} {sd : SpD} {t : TSD} (F : Fun K x x st f fd) (S : FnScope N ps (defScope st)) (len : ∀ ds Q, sd ds Q → ds.length = ps.length)
    (hb : ∀ (f : Addr) (cdv : Value) (A : Around) (outer : List Env) (s : Shared) (H : Hp) (E : XK), Room k (A.deeper (envOfC x (defScope st) s.heap.objs.size f cdv)) → PSsd (Bx P w K mg base N x st f cdv A outer s H E) (defBody st) t)
    (hr : ∀ ds Q, sd ds Q → t { nx := fun _ => Q .non, rt := Q } (startD N ds)) : FnOk P w K mg base CX0 (k + 1) f fd ps (spOf K sd) := okD F S len (hb f) hr
theorem ok_law {f : Addr} {fd : FuncData} (F : Fun K "law" "law" s_law f fd) (n_range : mg "range" = none) (n_len : mg "len" = none) (c__law_some : Cal P w K mg base j "_law_some" ["_law_script"] sdSome) (c_part_of : Cal P w K mg base j "part_of" ["told"] (sdOf A 10))
    (c__law_right : Cal P w K mg base j "_law_right" ["_law_part", "_law_told"] (sdRight A)) (c__law_cell_at : Cal P w K mg base j "_law_cell_at" ["_law_script", "_law_k"] sdCell) (c__law_inner : Cal P w K mg base j "_law_inner" ["_law_told"] (sdTd Pt.ok gIn))
    (c__law_mixed : Cal P w K mg base j "_law_mixed" ["_law_cell", "_law_k"] sdMix) (c__law_same : Cal P w K mg base j "_law_same" ["_law_found", "_law_due"] (sdSame 13)) (c__law_by_fields : Cal P w K mg base j "_law_by_fields" ["_law_part"] (sdPd A 10 Pt.told))
    (c_part_at : Cal P w K mg base j "part_at" ["part", "place"] (sdAt A 10)) (m_told : MP P w K mg base A j "told" 10 Pt.told) : FnOk P w K mg base CX0 (j + 1) f fd ["_law_script"] (spOf K sdLaw) := by
  refine okFun F sc_law (fun ds Q ⟨p, e, _⟩ => by rw [e]; rfl) (fun f cdv A outer s H E hr => have hu := hr.units; have hh := hr.hd; have sc := sc_law
    (ss_cons (s_set (i := 1) sc.nd rfl (Or.inl rfl) (d_cal c__law_some hr (by omega) (by rfl) (a_cons (dv 0) a_nil)))
  (ss_cons (s_set (i := 2) sc.nd rfl (Or.inl rfl) (d_cal c_part_of hr (by omega) (by rfl) (a_cons (dv 1) a_nil)))
  (ss_cons (s_if (t_not (t_tru (d_cal c__law_right hr (by omega) (by rfl) (a_cons (dv 2) (a_cons (dv 1) a_nil))))) (ss_one (s_ret d_bl)) ss_nil)
  (ss_cons (s_set (i := 3) sc.nd rfl (Or.inl rfl) (d_tup a_nil))
  (ss_cons (s_set (i := 4) sc.nd rfl (Or.inl rfl) (dv 1))
  (ss_cons (s_for PassesOwn.never rfl (i_range1 (by rfl) n_range (a_cons (d_mod (d_cal c__law_cell_at hr (by omega) (by rfl) (a_cons (dv 0) (a_cons d_int a_nil))) d_int) a_nil)) (g_name (i := 5) sc.nd rfl (Or.inl rfl)) (ss_cons (s_set (i := 6) sc.nd rfl (Or.inl rfl) (d_cal c__law_inner hr (by omega) (by rfl) (a_cons (dv 4) a_nil)))
  (ss_one (s_if (t_ne hu (dv 6) (d_lst a_nil)) (ss_cons (s_set (i := 7) sc.nd rfl (Or.inl rfl) (d_mod (d_div (d_cal c__law_mixed hr (by omega) (by rfl) (a_cons (d_cal c__law_cell_at hr (by omega) (by rfl) (a_cons (dv 0) (a_cons d_int a_nil))) (a_cons (dv 5) a_nil))) d_int) (d_len (by rfl) n_len (a_cons (dv 6) a_nil))))
  (ss_cons (s_set (i := 3) sc.nd rfl (Or.inl rfl) (d_add (dv 3) (d_tup (a_cons (dv 7) a_nil))))
  (ss_one (s_set (i := 4) sc.nd rfl (Or.inl rfl) (d_ix (dv 6) (dv 7) (fun _ _ => rfl)))))) ss_nil))))
  (ss_cons (s_if (t_not (t_tru (d_cal c__law_same hr (by omega) (by rfl) (a_cons (d_cal c__law_by_fields hr (by omega) (by rfl) (a_cons (dv 2) a_nil)) (a_cons (dv 1) a_nil))))) (ss_one (s_ret d_bl)) ss_nil)
  (ss_one (s_ret (d_and (d_cal c__law_right hr (by omega) (by rfl) (a_cons (d_cal c_part_at hr (by omega) (by rfl) (a_cons (dv 2) (a_cons (dv 3) a_nil))) (a_cons (dv 4) a_nil))) (d_one (d_eq hu (d_m0 m_told hr (by omega) (d_cal c_part_at hr (by omega) (by rfl) (a_cons (dv 2) (a_cons (d_tup a_nil) a_nil)))) (dv 1)))))))))))))) ?_
  rintro ds Q ⟨ns, rfl, q⟩
  refine ⟨_, rfl, ns, rfl, fun p ho hb => ?_⟩
  have hd : p.depth ≤ 10 := hb.1
  refine ⟨_, rfl, p, rfl, hd, ho, hb, ?_⟩
  refine ⟨_, rfl, _, rfl, p, rfl, ⟨ho, hb⟩, true, rfl, iteF ?_⟩
  refine ⟨(show 0 ≤ sizeLine by decide), _, rfl, ?_⟩
  refine ⟨_, rfl, ns, 2, rfl, (by decide), fun c => ?_⟩
  have c0 := mod_lo c (show (0 : Int) < 4 by decide)
  have c1 := mod_hi c (show (0 : Int) < 4 by decide)
  refine ⟨(show (0 : Int) < 4 by decide), _, rfl, (by show -(2 ^ 62 : Int) ≤ c % 4; omega), (by show c % 4 < (2 ^ 62 : Int); omega),
    fun i δ => ∃ (l : List Nat) (r : Pt) (x y z : Option D), δ = [some (.lst (ns.map D.int)), some p.told, some (p.d A), some (placeD l), some r.told, x, y, z] ∧ p.at l = some r ∧ l.length ≤ i ∧ i ≤ 3, ⟨[], p, none, none, none, rfl, rfl, Nat.le_refl _, by decide⟩, ?_, ?_⟩
  · rintro i dd δ hd' ⟨l, r, x, y, z, rfl, hr, hl, hi⟩
    have hlt : i < (c % 4).toNat := by
      have := (List.getElem?_eq_some_iff.mp hd').1
      simpa using this
    have hdd : D.int (0 + (i : Int)) = dd := by
      rw [List.getElem?_map, List.getElem?_range hlt] at hd'
      simpa using hd'
    subst hdd
    obtain ⟨or, br⟩ := Pt.at_ok l p r hr ho hb
    refine ⟨_, rfl, r, rfl, or, ?_⟩
    have hin : ∀ s ∈ r.inner, s.ok ∧ s.depth ≤ 60 := fun s hs => ⟨Pt.ok_in hs or, by have := r.in_depth hs (n := 9) br.1; omega⟩
    refine ⟨_, rfl, (show 0 ≤ sizeLine by decide), ne_nil hin ⟨_, rfl, ?_⟩⟩
    cases e : r.inner.isEmpty with
    | true => exact iteF ⟨l, r, _, _, _, rfl, hr, by omega, by omega⟩
    | false =>
      have hpos : (0 : Int) < ((r.inner.map Pt.told).length : Int) := by
        rw [List.length_map]
        have : r.inner ≠ [] := fun z => by rw [z] at e; cases e
        have := List.length_pos_iff.mpr this
        omega
      refine iteT ⟨_, rfl, ns, 3, rfl, (by decide), fun c3 => ?_⟩
      refine ⟨_, rfl, _, _, rfl, cd (by decide) (by decide), _, rfl, _, _, rfl, rfl, hpos, ?_⟩
      have a0 := mod_lo (mixed c3 (0 + (i : Int)) / 7) hpos
      have a1 := mod_hi (mixed c3 (0 + (i : Int)) / 7) hpos
      obtain ⟨k, ek⟩ : ∃ k : Nat, mixed c3 (0 + (i : Int)) / 7 % ((r.inner.map Pt.told).length : Int) = (k : Int) := ⟨_, (Int.toNat_of_nonneg a0).symm⟩
      rw [ek] at a0 a1
      have hk : k < r.inner.length := by rw [List.length_map] at a1; omega
      have hat : L2.atI (r.inner.map Pt.told) (mixed c3 (0 + (i : Int)) / 7 % ((r.inner.map Pt.told).length : Int)) = some r.inner[k].told := by
        rw [ek]
        exact atI_nat (by rw [List.getElem?_map, List.getElem?_eq_getElem hk]; rfl)
      refine ⟨_, rfl, _, rfl, (show 1 ≤ sizeLine by decide), ?_, ?_⟩
      · rw [List.length_map]
        exact le_size (by show l.length + 1 ≤ 1000; omega)
      · refine ⟨_, rfl, _, rfl, r.inner[k].told, hat, ?_⟩
        refine ⟨l ++ [k], r.inner[k], some (.int (0 + (i : Int))), some (gIn r), some (.int (mixed c3 (0 + (i : Int)) / 7 % ((r.inner.map Pt.told).length : Int))), ?_, ?_, ?_, by omega⟩
        · have e2 : placeD (l ++ [k]) = .tup ((l.map fun i : Nat => D.int (i : Int)) ++ [D.int (mixed c3 (0 + (i : Int)) / 7 % ((r.inner.map Pt.told).length : Int))]) := by
            rw [ek]
            unfold placeD
            rw [List.map_append]
            rfl
          rw [e2]
          rfl
        · rw [Pt.at_app, hr]
          exact (Pt.at_one r k).trans (List.getElem?_eq_getElem hk)
        · rw [List.length_append]
          exact Nat.add_le_add_right hl 1
  · rintro δ ⟨l, r, x, y, z, rfl, hr, hl, hi⟩
    obtain ⟨or, br⟩ := Pt.at_ok l p r hr ho hb
    refine ⟨_, rfl, p, rfl, hd, _, rfl, p.told, 12, rfl, (by decide), sm_told p 12 ho (by omega), true, rfl, iteF ?_⟩
    refine ⟨_, rfl, _, rfl, p, r, l, rfl, hr, hd, _, rfl, r, rfl, ⟨or, br⟩, true, rfl, iteT ?_⟩
    obtain ⟨gs, e1, e2⟩ := no_meth A noM_told p
    exact ⟨_, rfl, (show 0 ≤ sizeLine by decide), p, p, [], rfl, rfl, hd, p.cls A, gs, e1, e2, ⟨p, rfl⟩, p, rfl, rfl, hd, _, rfl, eq_told ho (by omega) q⟩
end
end K03

set_option maxHeartbeats 4000000
namespace K03
open PySem PySem.Spec PyProof.Rows L2 DC
/-! ### where things lie -/
def BindP (x qual : Str) (st : Stmt) (ps : List Str) : Prop := ∀ (kV doc pm : Value) (an : Option Addr) (cdv ct : Value) (us : List Value), us.length = ps.length → bindArgs (PySem.W.fnOf x qual (defArgs st) (defBody st) (defScope st) .none kV doc pm an cdv ct) ⟨us, []⟩ = pure (ps.zip us)
section
variable {w : World} {K : PySem.W.Frag} {h : Heap} {mg : Str → Option Value} {x m qual : Str} {st : Stmt} {ps : List Str} {f C : Addr} {od an : Option Addr} {sl : Array (Option Value)} {oc kV dc pm cd ct dV : Value}
theorem df_mk (X : K.In h) (G : h.Ns mainGlobals mg) (a : PySem.W.nsIn K mainGlobals x = some (some (.ref f)) := by k_is) (l : K.lookup f = some ⟨oc, od, .func (PySem.W.fnOf x x (defArgs st) (defBody st) (defScope st) .none kV dc pm an cd ct), sl⟩ := by k_is)
    (c : PySem.W.codeIn K cd x = true := by k_is) (k : PySem.W.keepIn K (.ref f) = true := by k_is) (b : BindP x x st ps := by first | exact (fun _ _ _ _ _ _ us hl => match us, hl with | [_], _ => rfl) | exact (fun _ _ _ _ _ _ us hl => match us, hl with | [_, _], _ => rfl) | exact (fun _ _ _ _ _ _ us hl => match us, hl with | [_, _, _], _ => rfl)) : Df K mg x st ps := ⟨⟨f, _, fun_mk (st := st) l c k, PySem.W.mg_of X G a, (fun_mk (st := st) l c k).binds b⟩⟩
structure Dm0 (K : PySem.W.Frag) (C : Addr) (m qual : Str) (st : Stmt) : Prop where
  ex : ∃ f fd, Fun K m qual st f fd ∧ Meth K C m f ∧ Binds K fd ["self"] []
theorem dm_mk (a : PySem.W.findIn K (.ref C) m = some (some (.ref f)) := by k_is) (l : K.lookup f = some ⟨oc, od, .func (PySem.W.fnOf m qual (defArgs st) (defBody st) (defScope st) .none kV dc pm an cd ct), sl⟩ := by k_is)
    (c : PySem.W.codeIn K cd qual = true := by k_is) (k : PySem.W.keepIn K (.ref f) = true := by k_is) (n : PySem.W.isFn K (.ref f) = true := by k_is) (b : BindP m qual st ["self"] := by exact (fun _ _ _ _ _ _ us hl => match us, hl with | [_], _ => rfl)) : Dm0 K C m qual st := ⟨⟨f, _, fun_mk (st := st) l c k, ⟨a, n, k⟩, (fun_mk (st := st) l c k).binds b⟩⟩
theorem Dm0.dm (d : Dm0 K C m qual st) (c : Cls K C) : Dm K C m qual st ["self"] := let ⟨f, fd, F, M, b⟩ := d.ex; ⟨⟨f, fd, F, M, c, b⟩⟩
theorem di_mk (X : K.In h) (G : h.Ns mainGlobals mg) (hc : PySem.W.nsIn K mainGlobals x = some (some (.ref C)) := by k_is) (mk : PySem.W.makesIn K C = true := by k_is) (ini : PySem.W.findIn K (.ref C) "__init__" = some (some (.ref f)) := by k_is) (fn : PySem.W.isFn K (.ref f) = true := by k_is) (kp : PySem.W.keepIn K (.ref C) = true := by k_is)
    (l : K.lookup f = some ⟨oc, od, .func (PySem.W.fnOf "__init__" qual (defArgs st) (defBody st) (defScope st) .none kV dc pm an cd ct), sl⟩ := by k_is) (c : PySem.W.codeIn K cd qual = true := by k_is) (k : PySem.W.keepIn K (.ref f) = true := by k_is)
    (b : BindP "__init__" qual st ps := by first | exact (fun _ _ _ _ _ _ us hl => match us, hl with | [_, _], _ => rfl) | exact (fun _ _ _ _ _ _ us hl => match us, hl with | [_, _, _], _ => rfl) | exact (fun _ _ _ _ _ _ us hl => match us, hl with | [_, _, _, _], _ => rfl)) : Di K mg x C qual st ps [] :=
  ⟨⟨f, _, [], [], ⟨⟨oc, od, .none, kV, dc, pm, an, cd, ct, sl, rfl, l, c⟩, k⟩, ⟨mk, ini, fn, kp⟩, PySem.W.mg_of X G hc, (fun_mk (st := st) l c k).binds b, .nil, fun _ => .nil⟩⟩
def BindD (x qual : Str) (st : Stmt) (ps : List Str) : Prop := ∀ (K : PySem.W.Frag) (T : Addr) (ob : Obj) (v : Value) (n : Nat), K.lookup T = some ob → ob.data = .seq #[v] n → ∀ (kV doc pm : Value) (an : Option Addr) (cdv ct : Value), Binds K (PySem.W.fnOf x qual (defArgs st) (defBody st) (defScope st) (.ref T) kV doc pm an cdv ct) ps []
theorem di_mkD {Ta : Addr} {tc v : Value} {td : Option Addr} {tn : Nat} {tsl : Array (Option Value)} (X : K.In h) (G : h.Ns mainGlobals mg) (b : BindD "__init__" qual st ps) (hc : PySem.W.nsIn K mainGlobals x = some (some (.ref C)) := by k_is) (mk : PySem.W.makesIn K C = true := by k_is) (ini : PySem.W.findIn K (.ref C) "__init__" = some (some (.ref f)) := by k_is)
    (fn : PySem.W.isFn K (.ref f) = true := by k_is) (kp : PySem.W.keepIn K (.ref C) = true := by k_is) (l : K.lookup f = some ⟨oc, od, .func (PySem.W.fnOf "__init__" qual (defArgs st) (defBody st) (defScope st) (.ref Ta) kV dc pm an cd ct), sl⟩ := by k_is) (c : PySem.W.codeIn K cd qual = true := by k_is) (k : PySem.W.keepIn K (.ref f) = true := by k_is)
    (lt : K.lookup Ta = some ⟨tc, td, .seq #[v] tn, tsl⟩ := by k_is) : Di K mg x C qual st ps [] :=
  ⟨⟨f, _, [], [], ⟨⟨oc, od, .ref Ta, kV, dc, pm, an, cd, ct, sl, rfl, l, c⟩, k⟩, ⟨mk, ini, fn, kp⟩, PySem.W.mg_of X G hc, b K Ta _ v tn lt rfl kV dc pm an cd ct, .nil, fun _ => .nil⟩⟩
theorem own_mk (a : PySem.W.plainGet K C Str.empty = true := by k_is) (b : PySem.W.hasDictIn K C = true := by k_is) (c : PySem.W.plainOver K C = true := by k_is) (d : PySem.W.findIn K (.ref C) "__setattr__" = some (some (.builtin "object.__setattr__")) := by k_is)
    (e : PySem.W.findIn K (.ref C) "__class__" = some (some (.builtin "object.__class__")) := by k_is) (f : PySem.W.specialIn K (.builtin "object.__class__") "__get__" = some (some (.builtin "getset_descriptor.__get__")) := by k_is) (g : PySem.W.takesIn K (.builtin "object.__class__") = some true := by k_is) (h : PySem.W.mroIn K C (.type "object") = some true := by k_is) : OwnTy K C := ⟨⟨a, b, c, d⟩, e, f, g, h⟩
def NoF (K : PySem.W.Frag) (C : Addr) : Prop := ∀ f ∈ (["value", "name", "part", "sign", "one", "other", "truth", "first", "head", "rest"] : List Str), NoAttr K C f
theorem nof_mk (h0 : PySem.W.findIn K (.ref C) "value" = some none := by k_is) (h1 : PySem.W.findIn K (.ref C) "name" = some none := by k_is) (h2 : PySem.W.findIn K (.ref C) "part" = some none := by k_is) (h3 : PySem.W.findIn K (.ref C) "sign" = some none := by k_is) (h4 : PySem.W.findIn K (.ref C) "one" = some none := by k_is) (h5 : PySem.W.findIn K (.ref C) "other" = some none := by k_is) (h6 : PySem.W.findIn K (.ref C) "truth" = some none := by k_is) (h7 : PySem.W.findIn K (.ref C) "first" = some none := by k_is) (h8 : PySem.W.findIn K (.ref C) "head" = some none := by k_is) (h9 : PySem.W.findIn K (.ref C) "rest" = some none := by k_is) : NoF K C := by
  unfold NoF
  simp only [List.mem_cons, List.not_mem_nil, or_false, forall_eq_or_imp, forall_eq]
  exact ⟨h0, h1, h2, h3, h4, h5, h6, h7, h8, h9⟩
def KitR (K : PySem.W.Frag) (C : Addr) (cs : List (Addr × Bool)) : Prop := ∀ p ∈ cs, PySem.W.kitOne K (.ref C) (.ref p.1) = some p.2
theorem kr_nil : KitR K C [] := fun p h => nomatch h
theorem kr_cons {c : Addr} {b : Bool} {cs : List (Addr × Bool)} (r : KitR K C cs) (e : PySem.W.kitOne K (.ref C) (.ref c) = some b := by kit_is) : KitR K C ((c, b) :: cs) := fun p m => by
  rcases List.mem_cons.mp m with rfl | m
  · exact e
  · exact r p m
theorem gi_mk {i : Int} {t : Tok} (X : K.In h) (G : h.Ns mainGlobals mg) (e : PySem.W.nsIn K mainGlobals x = some (some (.int i t))) : GI mg x i := ⟨⟨t, PySem.W.mg_of X G e⟩⟩
theorem gs_mk {y : Str} {t : Tok} (X : K.In h) (G : h.Ns mainGlobals mg) (e : PySem.W.nsIn K mainGlobals x = some (some (.str y t))) : GD K mg x (.str y) := ⟨⟨.str y, .str y t, PySem.W.mg_of X G e, ⟨_, rfl⟩, fun _ => .str y⟩⟩
def TupK (K : PySem.W.Frag) (t : Addr) (ds : List D) : Prop := ∀ H, Dv K H (.ref t) (.tup ds)
theorem tup_mk {t : Addr} {its : Array Value} {n : Nat} (vs : List V) {ds : List D} (l : K.lookup t = some ⟨.type "tuple", od, .seq its n, sl⟩) (z : its.size ≤ 1000) (v : Vals vs its.toList) (d : ∀ H, Dvs K H vs ds) : TupK K t ds :=
  fun H => .tup (.inr ⟨_, its, n, l, rfl, rfl, Nat.le_of_lt (small1000 z), v⟩) (d H)
theorem gt_mk {t : Addr} {ds : List D} (X : K.In h) (G : h.Ns mainGlobals mg) (e : PySem.W.nsIn K mainGlobals x = some (some (.ref t))) (l : TupK K t ds) : GD K mg x (.tup ds) := ⟨⟨.ref t, .ref t, PySem.W.mg_of X G e, rfl, l⟩⟩
theorem kt_mk {s : Addr} {es : Array DictEntry} {n : Nat} {kvs : List (Str × V)} {tab : List (Str × D)} (X : K.In h) (G : h.Ns mainGlobals mg) (e : PySem.W.nsIn K mainGlobals x = some (some (.ref s))) (l : K.lookup s = some ⟨.type "dict", none, .dict es n, #[]⟩) (hk : PySem.W.KeysLit w.params es.toList)
    (he : Ents kvs es.toList) (sys : (s == sysModules) = false) (t : Tb K kvs tab) : KTd w K mg x s tab := ⟨PySem.W.mg_of X G e, kvs, ⟨⟨es, n, l, hk, he⟩, sys⟩, t⟩
theorem ents_ref {y : Str} {t : Tok} {r : Addr} {en : DictEntry} {kvs : List (Str × V)} {es : List DictEntry} (hk : en.key = .str y t) (hv : en.val = .ref r) (q : Ents kvs es) : Ents ((y, .ref r) :: kvs) (en :: es) := .cons hk hv q
theorem dvs_strs' (ws : List Str) : ∀ H, Dvs K H (ws.map V.str) (ws.map D.str) := fun _ => dvs_strs ws
end
theorem b_Before___init__ : BindD "__init__" "Before.__init__" s_Before___init__ ["self", "part", "first"] := fun K T ob v n ho hs _ _ _ _ _ _ s us X hl => match us, hl with | [_, _, _], _ => PySem.W.binds_K X rfl ho hs rfl rfl
theorem b_Held___init__ : BindD "__init__" "Held.__init__" s_Held___init__ ["self", "part", "name", "first"] := fun K T ob v n ho hs _ _ _ _ _ _ s us X hl => match us, hl with | [_, _, _, _], _ => PySem.W.binds_K X rfl ho hs rfl rfl
/-- the law's promise over values -/
def spLaw (K : PySem.W.Frag) : Sp := fun vs H Q _ => ∃ (q : Addr) (ns : List Int), vs = [.ref q] ∧ SqL K H q (ns.map V.int) ∧ ns.length ≤ 63 ∧ ∀ H', Q (.bl true) H'
theorem dvs_ints {K : PySem.W.Frag} {H : Hp} : ∀ ns : List Int, Dvs K H (ns.map V.int) (ns.map D.int)
  | [] => .nil
  | n :: ns => .cons (.int n) (dvs_ints ns)
section
variable {P : Program} {w : World} {K : PySem.W.Frag} {mg : Str → Option Value} {base : Heap} {A : Adr}
theorem part_all {sb : Addr} (d : Df K mg "part_of" s_part_of ["told"]) (kd : Cal P w K mg base 2 "many_within" ["told"] (sdTd Pt.ok fun p => .int p.inner.length)) (c1 : Cal P w K mg base 1 "has_shape" ["told"] (sdTd Pt.ok fun p => .bl (!p.isPair)))
    (c2 : Cal P w K mg base 15 "plain_by" ["told", "inner"] (sdBy A 10 true)) (c3 : Cal P w K mg base 15 "timed_by" ["told", "inner"] (sdBy A 10 false))
    (k : Mkr P w K mg base 13 "Pair" A.pair (fun ds Q => ∃ (g : Str) (x y : Pt), ds = [.str g, x.d A, y.d A] ∧ g ∈ signL ∧ (Pt.pair g x y).depth ≤ 10 ∧ okB (.pair g x y) ∧ Q [("sign", .str g), ("one", x.d A), ("other", y.d A)]) []) :
    ∀ n, n ≤ 10 → Cal P w K mg base (n + 15) "part_of" ["told"] (sdOf A n)
  | 0, _ => Df.never d fun ds Q ⟨p, _, h, _⟩ => absurd p.depth_pos (by omega)
  | n + 1, h => part_step (m := n) (N := 10) (by omega) h d (kd.up (by omega)) (c1.up (by omega)) (part_all (sb := sb) d kd c1 c2 c3 k n (by omega)) (by omega) (c2.up (by omega)) (c3.up (by omega)) k
end
theorem all_ok {w : World} {K : PySem.W.Frag} {h : Heap} {mg : Str → Option Value} {a1 a2 a3 a4 a5 a6 a7 a8 a9 pa sa sb : Addr} (X : K.In h) (G : h.Ns mainGlobals mg)
    (e1 : PySem.W.nsIn K mainGlobals "Given" = some (some (.ref a1)))
    (e2 : PySem.W.nsIn K mainGlobals "Named" = some (some (.ref a2)))
    (e3 : PySem.W.nsIn K mainGlobals "Turned" = some (some (.ref a3)))
    (e4 : PySem.W.nsIn K mainGlobals "Pair" = some (some (.ref a4)))
    (e5 : PySem.W.nsIn K mainGlobals "Choice" = some (some (.ref a5)))
    (e6 : PySem.W.nsIn K mainGlobals "Before" = some (some (.ref a6)))
    (e7 : PySem.W.nsIn K mainGlobals "Led" = some (some (.ref a7)))
    (e8 : PySem.W.nsIn K mainGlobals "When" = some (some (.ref a8)))
    (e9 : PySem.W.nsIn K mainGlobals "Held" = some (some (.ref a9)))
    (e10 : PySem.W.nsIn K mainGlobals "Part" = some (some (.ref pa)))
    (nd : [a1, a2, a3, a4, a5, a6, a7, a8, a9].Nodup)
    (o1 : OwnTy K a1)
    (n1 : NoF K a1)
    (t1 : KitR K a1 [(a1, true), (a2, false), (a3, false), (a4, false), (a5, false), (a6, false), (a7, false), (a8, false), (a9, false), (pa, true)])
    (m1_told : Dm0 K a1 "told" "Given.told" s_Given_told)
    (m1_text : Dm0 K a1 "text" "Given.text" s_Given_text)
    (m1_inner : Dm0 K a1 "inner" "Part.inner" s_Part_inner)
    (m1_own_names : Dm0 K a1 "own_names" "Part.own_names" s_Part_own_names)
    (m1_size : Dm0 K a1 "size" "Part.size" s_Part_size)
    (m1_depth : Dm0 K a1 "depth" "Part.depth" s_Part_depth)
    (m1_need_bounds : Dm0 K a1 "need_bounds" "Part.need_bounds" s_Part_need_bounds)
    (m1_names : Dm0 K a1 "names" "Part.names" s_Part_names)
    (m1_needs : Dm0 K a1 "needs" "Part.needs" s_Part_needs)
    (i1 : Di K mg "Given" a1 "Given.__init__" s_Given___init__ ["self", "value"] [])
    (o2 : OwnTy K a2)
    (n2 : NoF K a2)
    (t2 : KitR K a2 [(a1, false), (a2, true), (a3, false), (a4, false), (a5, false), (a6, false), (a7, false), (a8, false), (a9, false), (pa, true)])
    (m2_told : Dm0 K a2 "told" "Named.told" s_Named_told)
    (m2_text : Dm0 K a2 "text" "Named.text" s_Named_text)
    (m2_inner : Dm0 K a2 "inner" "Part.inner" s_Part_inner)
    (m2_own_names : Dm0 K a2 "own_names" "Named.own_names" s_Named_own_names)
    (m2_size : Dm0 K a2 "size" "Part.size" s_Part_size)
    (m2_depth : Dm0 K a2 "depth" "Part.depth" s_Part_depth)
    (m2_need_bounds : Dm0 K a2 "need_bounds" "Part.need_bounds" s_Part_need_bounds)
    (m2_names : Dm0 K a2 "names" "Part.names" s_Part_names)
    (m2_needs : Dm0 K a2 "needs" "Part.needs" s_Part_needs)
    (i2 : Di K mg "Named" a2 "Named.__init__" s_Named___init__ ["self", "name"] [])
    (o3 : OwnTy K a3)
    (n3 : NoF K a3)
    (t3 : KitR K a3 [(a1, false), (a2, false), (a3, true), (a4, false), (a5, false), (a6, false), (a7, false), (a8, false), (a9, false), (pa, true)])
    (m3_told : Dm0 K a3 "told" "Turned.told" s_Turned_told)
    (m3_text : Dm0 K a3 "text" "Turned.text" s_Turned_text)
    (m3_inner : Dm0 K a3 "inner" "Turned.inner" s_Turned_inner)
    (m3_own_names : Dm0 K a3 "own_names" "Part.own_names" s_Part_own_names)
    (m3_size : Dm0 K a3 "size" "Part.size" s_Part_size)
    (m3_depth : Dm0 K a3 "depth" "Part.depth" s_Part_depth)
    (m3_need_bounds : Dm0 K a3 "need_bounds" "Part.need_bounds" s_Part_need_bounds)
    (m3_names : Dm0 K a3 "names" "Part.names" s_Part_names)
    (m3_needs : Dm0 K a3 "needs" "Part.needs" s_Part_needs)
    (i3 : Di K mg "Turned" a3 "Turned.__init__" s_Turned___init__ ["self", "part"] [])
    (o4 : OwnTy K a4)
    (n4 : NoF K a4)
    (t4 : KitR K a4 [(a1, false), (a2, false), (a3, false), (a4, true), (a5, false), (a6, false), (a7, false), (a8, false), (a9, false), (pa, true)])
    (m4_told : Dm0 K a4 "told" "Pair.told" s_Pair_told)
    (m4_text : Dm0 K a4 "text" "Pair.text" s_Pair_text)
    (m4_inner : Dm0 K a4 "inner" "Pair.inner" s_Pair_inner)
    (m4_own_names : Dm0 K a4 "own_names" "Part.own_names" s_Part_own_names)
    (m4_size : Dm0 K a4 "size" "Part.size" s_Part_size)
    (m4_depth : Dm0 K a4 "depth" "Part.depth" s_Part_depth)
    (m4_need_bounds : Dm0 K a4 "need_bounds" "Part.need_bounds" s_Part_need_bounds)
    (m4_names : Dm0 K a4 "names" "Part.names" s_Part_names)
    (m4_needs : Dm0 K a4 "needs" "Part.needs" s_Part_needs)
    (i4 : Di K mg "Pair" a4 "Pair.__init__" s_Pair___init__ ["self", "sign", "one", "other"] [])
    (o5 : OwnTy K a5)
    (n5 : NoF K a5)
    (t5 : KitR K a5 [(a1, false), (a2, false), (a3, false), (a4, false), (a5, true), (a6, false), (a7, false), (a8, false), (a9, false), (pa, true)])
    (m5_told : Dm0 K a5 "told" "Choice.told" s_Choice_told)
    (m5_text : Dm0 K a5 "text" "Choice.text" s_Choice_text)
    (m5_inner : Dm0 K a5 "inner" "Choice.inner" s_Choice_inner)
    (m5_own_names : Dm0 K a5 "own_names" "Part.own_names" s_Part_own_names)
    (m5_size : Dm0 K a5 "size" "Part.size" s_Part_size)
    (m5_depth : Dm0 K a5 "depth" "Part.depth" s_Part_depth)
    (m5_need_bounds : Dm0 K a5 "need_bounds" "Part.need_bounds" s_Part_need_bounds)
    (m5_names : Dm0 K a5 "names" "Part.names" s_Part_names)
    (m5_needs : Dm0 K a5 "needs" "Part.needs" s_Part_needs)
    (i5 : Di K mg "Choice" a5 "Choice.__init__" s_Choice___init__ ["self", "truth", "one", "other"] [])
    (o6 : OwnTy K a6)
    (n6 : NoF K a6)
    (t6 : KitR K a6 [(a1, false), (a2, false), (a3, false), (a4, false), (a5, false), (a6, true), (a7, false), (a8, false), (a9, false), (pa, true)])
    (m6_told : Dm0 K a6 "told" "Before.told" s_Before_told)
    (m6_text : Dm0 K a6 "text" "Before.text" s_Before_text)
    (m6_inner : Dm0 K a6 "inner" "Before.inner" s_Before_inner)
    (m6_own_names : Dm0 K a6 "own_names" "Part.own_names" s_Part_own_names)
    (m6_size : Dm0 K a6 "size" "Part.size" s_Part_size)
    (m6_depth : Dm0 K a6 "depth" "Part.depth" s_Part_depth)
    (m6_need_bounds : Dm0 K a6 "need_bounds" "Part.need_bounds" s_Part_need_bounds)
    (m6_names : Dm0 K a6 "names" "Part.names" s_Part_names)
    (m6_needs : Dm0 K a6 "needs" "Before.needs" s_Before_needs)
    (i6 : Di K mg "Before" a6 "Before.__init__" s_Before___init__ ["self", "part", "first"] [])
    (o7 : OwnTy K a7)
    (n7 : NoF K a7)
    (t7 : KitR K a7 [(a1, false), (a2, false), (a3, false), (a4, false), (a5, false), (a6, false), (a7, true), (a8, false), (a9, false), (pa, true)])
    (m7_told : Dm0 K a7 "told" "Led.told" s_Led_told)
    (m7_text : Dm0 K a7 "text" "Led.text" s_Led_text)
    (m7_inner : Dm0 K a7 "inner" "Led.inner" s_Led_inner)
    (m7_own_names : Dm0 K a7 "own_names" "Part.own_names" s_Part_own_names)
    (m7_size : Dm0 K a7 "size" "Part.size" s_Part_size)
    (m7_depth : Dm0 K a7 "depth" "Part.depth" s_Part_depth)
    (m7_need_bounds : Dm0 K a7 "need_bounds" "Part.need_bounds" s_Part_need_bounds)
    (m7_names : Dm0 K a7 "names" "Part.names" s_Part_names)
    (m7_needs : Dm0 K a7 "needs" "Part.needs" s_Part_needs)
    (i7 : Di K mg "Led" a7 "Led.__init__" s_Led___init__ ["self", "head", "rest"] [])
    (o8 : OwnTy K a8)
    (n8 : NoF K a8)
    (t8 : KitR K a8 [(a1, false), (a2, false), (a3, false), (a4, false), (a5, false), (a6, false), (a7, false), (a8, true), (a9, false), (pa, true)])
    (m8_told : Dm0 K a8 "told" "When.told" s_When_told)
    (m8_text : Dm0 K a8 "text" "When.text" s_When_text)
    (m8_inner : Dm0 K a8 "inner" "When.inner" s_When_inner)
    (m8_own_names : Dm0 K a8 "own_names" "When.own_names" s_When_own_names)
    (m8_size : Dm0 K a8 "size" "Part.size" s_Part_size)
    (m8_depth : Dm0 K a8 "depth" "Part.depth" s_Part_depth)
    (m8_need_bounds : Dm0 K a8 "need_bounds" "Part.need_bounds" s_Part_need_bounds)
    (m8_names : Dm0 K a8 "names" "Part.names" s_Part_names)
    (m8_needs : Dm0 K a8 "needs" "Part.needs" s_Part_needs)
    (i8 : Di K mg "When" a8 "When.__init__" s_When___init__ ["self", "part", "name"] [])
    (o9 : OwnTy K a9)
    (n9 : NoF K a9)
    (t9 : KitR K a9 [(a1, false), (a2, false), (a3, false), (a4, false), (a5, false), (a6, false), (a7, false), (a8, false), (a9, true), (pa, true)])
    (m9_told : Dm0 K a9 "told" "Held.told" s_Held_told)
    (m9_text : Dm0 K a9 "text" "Held.text" s_Held_text)
    (m9_inner : Dm0 K a9 "inner" "Held.inner" s_Held_inner)
    (m9_own_names : Dm0 K a9 "own_names" "Held.own_names" s_Held_own_names)
    (m9_size : Dm0 K a9 "size" "Part.size" s_Part_size)
    (m9_depth : Dm0 K a9 "depth" "Part.depth" s_Part_depth)
    (m9_need_bounds : Dm0 K a9 "need_bounds" "Part.need_bounds" s_Part_need_bounds)
    (m9_names : Dm0 K a9 "names" "Part.names" s_Part_names)
    (m9_needs : Dm0 K a9 "needs" "Part.needs" s_Part_needs)
    (i9 : Di K mg "Held" a9 "Held.__init__" s_Held___init__ ["self", "part", "name", "first"] [])
    (d_has_letters : Df K mg "has_letters" s_has_letters ["text"])
    (d_has_word_form : Df K mg "has_word_form" s_has_word_form ["text"])
    (d_is_word : Df K mg "is_word" s_is_word ["thing"])
    (d_is_name : Df K mg "is_name" s_is_name ["thing"])
    (d_is_number : Df K mg "is_number" s_is_number ["thing"])
    (d_is_value : Df K mg "is_value" s_is_value ["thing"])
    (d_value_text : Df K mg "value_text" s_value_text ["value"])
    (d_need_name : Df K mg "need_name" s_need_name ["name"])
    (d_once : Df K mg "once" s_once ["lists"])
    (d_need_first : Df K mg "need_first" s_need_first ["first"])
    (d_first_text : Df K mg "first_text" s_first_text ["first"])
    (d_has_shape : Df K mg "has_shape" s_has_shape ["told"])
    (d_many_within : Df K mg "many_within" s_many_within ["told"])
    (d_plain_by : Df K mg "plain_by" s_plain_by ["told", "inner"])
    (d_timed_by : Df K mg "timed_by" s_timed_by ["told", "inner"])
    (d_part_of : Df K mg "part_of" s_part_of ["told"])
    (d_part_at : Df K mg "part_at" s_part_at ["part", "place"])
    (d__law_cell_at : Df K mg "_law_cell_at" s__law_cell_at ["_law_script", "_law_k"])
    (d__law_mixed : Df K mg "_law_mixed" s__law_mixed ["_law_cell", "_law_k"])
    (d__law_names : Df K mg "_law_names" s__law_names ["_law_cell", "_law_many"])
    (d__law_number : Df K mg "_law_number" s__law_number ["_law_mix"])
    (d__law_value : Df K mg "_law_value" s__law_value ["_law_mix", "_law_kind"])
    (d__law_whole : Df K mg "_law_whole" s__law_whole ["_law_found"])
    (d__law_same : Df K mg "_law_same" s__law_same ["_law_found", "_law_due"])
    (d__law_tree : Df K mg "_law_tree" s__law_tree ["_law_cell", "_law_names_here", "_law_deep"])
    (d__law_inner : Df K mg "_law_inner" s__law_inner ["_law_told"])
    (d__law_value_text : Df K mg "_law_value_text" s__law_value_text ["_law_value_here"])
    (d__law_text : Df K mg "_law_text" s__law_text ["_law_told"])
    (d__law_size : Df K mg "_law_size" s__law_size ["_law_told"])
    (d__law_depth : Df K mg "_law_depth" s__law_depth ["_law_told"])
    (d__law_names_in : Df K mg "_law_names_in" s__law_names_in ["_law_told", "_law_all_of_them"])
    (d__law_by_fields : Df K mg "_law_by_fields" s__law_by_fields ["_law_part"])
    (d__law_chain : Df K mg "_law_chain" s__law_chain ["_law_cell", "_law_names_here", "_law_size_here"])
    (d__law_some : Df K mg "_law_some" s__law_some ["_law_script"])
    (d__law_right : Df K mg "_law_right" s__law_right ["_law_part", "_law_told"])
    (g_LONGEST_WORD : GI mg "LONGEST_WORD" 8)
    (g_MOST_WORDS : GI mg "MOST_WORDS" 4)
    (g_LOWEST : GI mg "LOWEST" (-128))
    (g_HIGHEST : GI mg "HIGHEST" 127)
    (g_DEEPEST : GI mg "DEEPEST" 10)
    (g_LARGEST : GI mg "LARGEST" 40)
    (g_LETTERS : GD K mg "LETTERS" (.str letters))
    (g_KEPT : GD K mg "KEPT_WORDS" (.tup (keptL.map D.str)))
    (k_SHAPES : KTd w K mg "SHAPES" sa shapesT)
    (k_SIGNS : KTd w K mg "SIGNS" sb signsT)
    (z_isinstance : PySem.W.nsIn K mainGlobals "isinstance" = some none)
    (z_bool : PySem.W.nsIn K mainGlobals "bool" = some none)
    (z_int : PySem.W.nsIn K mainGlobals "int" = some none)
    (z_str : PySem.W.nsIn K mainGlobals "str" = some none)
    (z_len : PySem.W.nsIn K mainGlobals "len" = some none)
    (z_all : PySem.W.nsIn K mainGlobals "all" = some none)
    (z_sum : PySem.W.nsIn K mainGlobals "sum" = some none)
    (z_max : PySem.W.nsIn K mainGlobals "max" = some none)
    (z_range : PySem.W.nsIn K mainGlobals "range" = some none)
    (z_zip : PySem.W.nsIn K mainGlobals "zip" = some none)
    (z_tuple : PySem.W.nsIn K mainGlobals "tuple" = some none)
    (z_list : PySem.W.nsIn K mainGlobals "list" = some none)
    (P : Program) (base : Heap) (f : Addr) (fd : FuncData) (F : Fun K "law" "law" s_law f fd) : FnOk P w K mg base CX0 26 f fd ["_law_script"] (spLaw K) := by
  have c1 := o1.cl
  have c2 := o2.cl
  have c3 := o3.cl
  have c4 := o4.cl
  have c5 := o5.cl
  have c6 := o6.cl
  have c7 := o7.cl
  have c8 := o8.cl
  have c9 := o9.cl
  have y_isinstance := PySem.W.mg_none_of X G z_isinstance
  have y_bool := PySem.W.mg_none_of X G z_bool
  have y_int := PySem.W.mg_none_of X G z_int
  have y_str := PySem.W.mg_none_of X G z_str
  have y_len := PySem.W.mg_none_of X G z_len
  have y_all := PySem.W.mg_none_of X G z_all
  have y_sum := PySem.W.mg_none_of X G z_sum
  have y_max := PySem.W.mg_none_of X G z_max
  have y_range := PySem.W.mg_none_of X G z_range
  have y_zip := PySem.W.mg_none_of X G z_zip
  have y_tuple := PySem.W.mg_none_of X G z_tuple
  have y_list := PySem.W.mg_none_of X G z_list
  have hA : AOk K (Adr.mk a1 a2 a3 a4 a5 a6 a7 a8 a9) := ⟨nd, ?_, ?_⟩
  rotate_left
  · simp only [List.mem_cons, List.not_mem_nil, or_false, forall_eq_or_imp, forall_eq]
    exact ⟨c1, c2, c3, c4, c5, c6, c7, c8, c9⟩
  · intro C hC f hf
    simp only [List.mem_cons, List.not_mem_nil, or_false] at hC
    rcases hC with rfl | rfl | rfl | rfl | rfl | rfl | rfl | rfl | rfl
    · exact n1 f hf
    · exact n2 f hf
    · exact n3 f hf
    · exact n4 f hf
    · exact n5 f hf
    · exact n6 f hf
    · exact n7 f hf
    · exact n8 f hf
    · exact n9 f hf
  have kA : Kit K (Adr.mk a1 a2 a3 a4 a5 a6 a7 a8 a9) pa := ⟨fun i => ?_, fun i k => ?_, fun i => ?_⟩
  rotate_left
  · match i with
    | 0 => exact o1
    | 1 => exact o2
    | 2 => exact o3
    | 3 => exact o4
    | 4 => exact o5
    | 5 => exact o6
    | 6 => exact o7
    | 7 => exact o8
    | 8 => exact o9
  · match i, k with
    | 0, 0 => exact t1 (a1, true) (by simp)
    | 0, 1 => exact t1 (a2, false) (by simp)
    | 0, 2 => exact t1 (a3, false) (by simp)
    | 0, 3 => exact t1 (a4, false) (by simp)
    | 0, 4 => exact t1 (a5, false) (by simp)
    | 0, 5 => exact t1 (a6, false) (by simp)
    | 0, 6 => exact t1 (a7, false) (by simp)
    | 0, 7 => exact t1 (a8, false) (by simp)
    | 0, 8 => exact t1 (a9, false) (by simp)
    | 1, 0 => exact t2 (a1, false) (by simp)
    | 1, 1 => exact t2 (a2, true) (by simp)
    | 1, 2 => exact t2 (a3, false) (by simp)
    | 1, 3 => exact t2 (a4, false) (by simp)
    | 1, 4 => exact t2 (a5, false) (by simp)
    | 1, 5 => exact t2 (a6, false) (by simp)
    | 1, 6 => exact t2 (a7, false) (by simp)
    | 1, 7 => exact t2 (a8, false) (by simp)
    | 1, 8 => exact t2 (a9, false) (by simp)
    | 2, 0 => exact t3 (a1, false) (by simp)
    | 2, 1 => exact t3 (a2, false) (by simp)
    | 2, 2 => exact t3 (a3, true) (by simp)
    | 2, 3 => exact t3 (a4, false) (by simp)
    | 2, 4 => exact t3 (a5, false) (by simp)
    | 2, 5 => exact t3 (a6, false) (by simp)
    | 2, 6 => exact t3 (a7, false) (by simp)
    | 2, 7 => exact t3 (a8, false) (by simp)
    | 2, 8 => exact t3 (a9, false) (by simp)
    | 3, 0 => exact t4 (a1, false) (by simp)
    | 3, 1 => exact t4 (a2, false) (by simp)
    | 3, 2 => exact t4 (a3, false) (by simp)
    | 3, 3 => exact t4 (a4, true) (by simp)
    | 3, 4 => exact t4 (a5, false) (by simp)
    | 3, 5 => exact t4 (a6, false) (by simp)
    | 3, 6 => exact t4 (a7, false) (by simp)
    | 3, 7 => exact t4 (a8, false) (by simp)
    | 3, 8 => exact t4 (a9, false) (by simp)
    | 4, 0 => exact t5 (a1, false) (by simp)
    | 4, 1 => exact t5 (a2, false) (by simp)
    | 4, 2 => exact t5 (a3, false) (by simp)
    | 4, 3 => exact t5 (a4, false) (by simp)
    | 4, 4 => exact t5 (a5, true) (by simp)
    | 4, 5 => exact t5 (a6, false) (by simp)
    | 4, 6 => exact t5 (a7, false) (by simp)
    | 4, 7 => exact t5 (a8, false) (by simp)
    | 4, 8 => exact t5 (a9, false) (by simp)
    | 5, 0 => exact t6 (a1, false) (by simp)
    | 5, 1 => exact t6 (a2, false) (by simp)
    | 5, 2 => exact t6 (a3, false) (by simp)
    | 5, 3 => exact t6 (a4, false) (by simp)
    | 5, 4 => exact t6 (a5, false) (by simp)
    | 5, 5 => exact t6 (a6, true) (by simp)
    | 5, 6 => exact t6 (a7, false) (by simp)
    | 5, 7 => exact t6 (a8, false) (by simp)
    | 5, 8 => exact t6 (a9, false) (by simp)
    | 6, 0 => exact t7 (a1, false) (by simp)
    | 6, 1 => exact t7 (a2, false) (by simp)
    | 6, 2 => exact t7 (a3, false) (by simp)
    | 6, 3 => exact t7 (a4, false) (by simp)
    | 6, 4 => exact t7 (a5, false) (by simp)
    | 6, 5 => exact t7 (a6, false) (by simp)
    | 6, 6 => exact t7 (a7, true) (by simp)
    | 6, 7 => exact t7 (a8, false) (by simp)
    | 6, 8 => exact t7 (a9, false) (by simp)
    | 7, 0 => exact t8 (a1, false) (by simp)
    | 7, 1 => exact t8 (a2, false) (by simp)
    | 7, 2 => exact t8 (a3, false) (by simp)
    | 7, 3 => exact t8 (a4, false) (by simp)
    | 7, 4 => exact t8 (a5, false) (by simp)
    | 7, 5 => exact t8 (a6, false) (by simp)
    | 7, 6 => exact t8 (a7, false) (by simp)
    | 7, 7 => exact t8 (a8, true) (by simp)
    | 7, 8 => exact t8 (a9, false) (by simp)
    | 8, 0 => exact t9 (a1, false) (by simp)
    | 8, 1 => exact t9 (a2, false) (by simp)
    | 8, 2 => exact t9 (a3, false) (by simp)
    | 8, 3 => exact t9 (a4, false) (by simp)
    | 8, 4 => exact t9 (a5, false) (by simp)
    | 8, 5 => exact t9 (a6, false) (by simp)
    | 8, 6 => exact t9 (a7, false) (by simp)
    | 8, 7 => exact t9 (a8, false) (by simp)
    | 8, 8 => exact t9 (a9, true) (by simp)
  · match i with
    | 0 => exact t1 (pa, true) (by simp)
    | 1 => exact t2 (pa, true) (by simp)
    | 2 => exact t3 (pa, true) (by simp)
    | 3 => exact t4 (pa, true) (by simp)
    | 4 => exact t5 (pa, true) (by simp)
    | 5 => exact t6 (pa, true) (by simp)
    | 6 => exact t7 (pa, true) (by simp)
    | 7 => exact t8 (pa, true) (by simp)
    | 8 => exact t9 (pa, true) (by simp)
  have ic : IsC mg (Adr.mk a1 a2 a3 a4 a5 a6 a7 a8 a9) pa := ⟨PySem.W.mg_of X G e1, PySem.W.mg_of X G e2, PySem.W.mg_of X G e3, PySem.W.mg_of X G e4, PySem.W.mg_of X G e5, PySem.W.mg_of X G e6, PySem.W.mg_of X G e7, PySem.W.mg_of X G e8, PySem.W.mg_of X G e9, PySem.W.mg_of X G e10⟩
  have D_told : DTold K (Adr.mk a1 a2 a3 a4 a5 a6 a7 a8 a9) := ⟨m1_told.dm c1, m2_told.dm c2, m3_told.dm c3, m4_told.dm c4, m5_told.dm c5, m6_told.dm c6, m7_told.dm c7, m8_told.dm c8, m9_told.dm c9⟩
  have D_text : DText K (Adr.mk a1 a2 a3 a4 a5 a6 a7 a8 a9) := ⟨m1_text.dm c1, m2_text.dm c2, m3_text.dm c3, m4_text.dm c4, m5_text.dm c5, m6_text.dm c6, m7_text.dm c7, m8_text.dm c8, m9_text.dm c9⟩
  have D_inner : DInner K (Adr.mk a1 a2 a3 a4 a5 a6 a7 a8 a9) := ⟨m1_inner.dm c1, m2_inner.dm c2, m3_inner.dm c3, m4_inner.dm c4, m5_inner.dm c5, m6_inner.dm c6, m7_inner.dm c7, m8_inner.dm c8, m9_inner.dm c9⟩
  have D_own_names : DOwn K (Adr.mk a1 a2 a3 a4 a5 a6 a7 a8 a9) := ⟨m1_own_names.dm c1, m2_own_names.dm c2, m3_own_names.dm c3, m4_own_names.dm c4, m5_own_names.dm c5, m6_own_names.dm c6, m7_own_names.dm c7, m8_own_names.dm c8, m9_own_names.dm c9⟩
  have D_size : ∀ C, isP (Adr.mk a1 a2 a3 a4 a5 a6 a7 a8 a9) C → Dm K C "size" "Part.size" s_Part_size ["self"] := fun C ⟨p, e⟩ => by
    subst e
    cases p
    · exact m1_size.dm c1
    · exact m2_size.dm c2
    · exact m3_size.dm c3
    · exact m4_size.dm c4
    · exact m5_size.dm c5
    · exact m6_size.dm c6
    · exact m7_size.dm c7
    · exact m8_size.dm c8
    · exact m9_size.dm c9
  have D_depth : ∀ C, isP (Adr.mk a1 a2 a3 a4 a5 a6 a7 a8 a9) C → Dm K C "depth" "Part.depth" s_Part_depth ["self"] := fun C ⟨p, e⟩ => by
    subst e
    cases p
    · exact m1_depth.dm c1
    · exact m2_depth.dm c2
    · exact m3_depth.dm c3
    · exact m4_depth.dm c4
    · exact m5_depth.dm c5
    · exact m6_depth.dm c6
    · exact m7_depth.dm c7
    · exact m8_depth.dm c8
    · exact m9_depth.dm c9
  have D_need_bounds : ∀ C, isP (Adr.mk a1 a2 a3 a4 a5 a6 a7 a8 a9) C → Dm K C "need_bounds" "Part.need_bounds" s_Part_need_bounds ["self"] := fun C ⟨p, e⟩ => by
    subst e
    cases p
    · exact m1_need_bounds.dm c1
    · exact m2_need_bounds.dm c2
    · exact m3_need_bounds.dm c3
    · exact m4_need_bounds.dm c4
    · exact m5_need_bounds.dm c5
    · exact m6_need_bounds.dm c6
    · exact m7_need_bounds.dm c7
    · exact m8_need_bounds.dm c8
    · exact m9_need_bounds.dm c9
  have D_names : ∀ C, isP (Adr.mk a1 a2 a3 a4 a5 a6 a7 a8 a9) C → Dm K C "names" "Part.names" s_Part_names ["self"] := fun C ⟨p, e⟩ => by
    subst e
    cases p
    · exact m1_names.dm c1
    · exact m2_names.dm c2
    · exact m3_names.dm c3
    · exact m4_names.dm c4
    · exact m5_names.dm c5
    · exact m6_names.dm c6
    · exact m7_names.dm c7
    · exact m8_names.dm c8
    · exact m9_names.dm c9
  have D_needs : DNeeds K (Adr.mk a1 a2 a3 a4 a5 a6 a7 a8 a9) := ⟨fun C ⟨p, e⟩ hne => by
    subst e
    cases p
    · exact m1_needs.dm c1
    · exact m2_needs.dm c2
    · exact m3_needs.dm c3
    · exact m4_needs.dm c4
    · exact m5_needs.dm c5
    · exact absurd rfl hne
    · exact m7_needs.dm c7
    · exact m8_needs.dm c8
    · exact m9_needs.dm c9
    , m6_needs.dm c6⟩
  have s1 := c_is_number (P := P) (w := w) (base := base) (j := 0) d_is_number y_isinstance y_bool y_int g_LOWEST g_HIGHEST
  have s2 := c_is_value d_is_value y_isinstance y_bool s1
  have s3 := c_need_first d_need_first s2
  have w1 := c_has_letters (P := P) (w := w) (base := base) (j := 0) d_has_letters y_len y_all g_LETTERS
  have w2 := c_has_word_form d_has_word_form y_len g_LONGEST_WORD w1
  have w3 := c_is_word d_is_word g_KEPT w2
  have w4 := c_is_name d_is_name y_len y_all g_MOST_WORDS w3 (w2.up (by omega))
  have w5 := c_need_name d_need_name w4
  have v1 := c_value_text (P := P) (w := w) (base := base) (j := 0) d_value_text y_isinstance y_bool y_str
  have v2 := c_first_text d_first_text v1
  have on := c_once (P := P) (w := w) (base := base) (j := 0) d_once
  have mTold := told_all (P := P) (w := w) (mg := mg) (base := base) hA D_told 10
  have mText := text_all hA D_text v1 v2 10
  have mInner := fun j n => inner_all (P := P) (w := w) (mg := mg) (base := base) (j := j) hA D_inner n
  have mSize := size_all (P := P) (w := w) (base := base) hA D_inner D_size y_sum 10
  have mDepth := depth_all (P := P) (w := w) (base := base) hA D_inner D_depth y_max 10
  have mNames := names_all hA D_inner D_own_names on D_names 10
  have mNeeds := needs_all hA D_inner D_own_names on D_needs 10
  have mBounds := bounds_of D_need_bounds mDepth mSize g_DEEPEST g_LARGEST
  have up : ∀ {m : Str} {ok : Pt → Prop} {gg : Pt → D} {i j : Nat}, i ≤ j → MQ P w K mg base (Adr.mk a1 a2 a3 a4 a5 a6 a7 a8 a9) i m 10 ok gg → MQ P w K mg base (Adr.mk a1 a2 a3 a4 a5 a6 a7 a8 a9) j m 10 ok gg := fun h k C hC => (k C hC).up h
  have upP : ∀ {m : Str} {gg : Pt → D} {i j : Nat}, i ≤ j → MP P w K mg base (Adr.mk a1 a2 a3 a4 a5 a6 a7 a8 a9) i m 10 gg → MP P w K mg base (Adr.mk a1 a2 a3 a4 a5 a6 a7 a8 a9) j m 10 gg := fun h k C hC => (k C hC).up h
  have upF : ∀ {m : Str} {ok : Pt → Prop} {gg : Pt → List Str} {i j : Nat}, i ≤ j → MF P w K mg base (Adr.mk a1 a2 a3 a4 a5 a6 a7 a8 a9) i m 10 ok gg → MF P w K mg base (Adr.mk a1 a2 a3 a4 a5 a6 a7 a8 a9) j m 10 ok gg := fun h k C hC => let ⟨f, fd, ps, c, M, F, b⟩ := (k C hC).ex; ⟨⟨f, fd, ps, c, M, F.mono h, b⟩, (k C hC).ms⟩
  have k1 := init_given (j := 12) (A := (Adr.mk a1 a2 a3 a4 a5 a6 a7 a8 a9)) c1 (hA.nof a1 (by simp) "value" (by decide)) i1 (s2.up (by omega))
  have k2 := init_named (j := 12) hA i2 (w5.up (by omega))
  have k3 := init_turned (j := 12) hA i3 mBounds
  have k4 := init_pair (j := 12) hA i4 k_SIGNS mBounds
  have k5 := init_choice (j := 12) hA i5 mBounds
  have k6 := init_before (j := 12) hA i6 (s3.up (by omega)) mBounds
  have k7 := init_led (j := 12) hA i7 mBounds
  have k8 := init_when (j := 12) hA i8 (w5.up (by omega)) mBounds
  have k9 := init_held (j := 12) hA i9 (w5.up (by omega)) (s3.up (by omega)) mBounds
  have p1 := c_has_shape (P := P) (base := base) (j := 0) d_has_shape y_len k_SHAPES
  have p2 := c_plain_by (j := 14) d_plain_by (by omega) k1 k2 k3 k5
  have p3 := c_timed_by (j := 14) d_timed_by (by omega) k6 k7 k8 k9
  have p0 := c_many_within d_many_within k_SHAPES p1
  have p4 := part_all (sb := sb) d_part_of p0 p1 p2 p3 k4 10 (by omega)
  have p5 := c_part_at d_part_at (mInner 0 10)
  have l1 := c_mixed (P := P) (w := w) (base := base) (j := 0) d__law_mixed
  have l2 := c_cell (P := P) (w := w) (base := base) (j := 0) d__law_cell_at y_len
  have l3 := c_number (P := P) (w := w) (base := base) (j := 0) d__law_number
  have l4 := c_value d__law_value l3
  have l5 := c_names d__law_names y_range l1
  have l6 := tree_all d__law_tree y_len l1 l3 l4
  have l7 := c_chain d__law_chain y_len y_range (l1.up (by omega)) (l6 1)
  have l8 := c_some d__law_some (l1.up (by omega)) (l2.up (by omega)) (l5.up (by omega)) (l7.up (by omega)) (l6 4)
  have l9 := c_inner (P := P) (w := w) (base := base) (j := 0) d__law_inner y_isinstance y_tuple
  have l10 := size_law d__law_size y_sum l9 10
  have l11 := depth_law d__law_depth y_max l9 10
  have l12 := c_vtext (P := P) (w := w) (base := base) (j := 0) d__law_value_text y_isinstance y_bool y_int y_str
  have l13 := text_law d__law_text l12 10
  have l14 := names_law d__law_names_in l9 10
  have l15 := by_fields_all (P := P) (w := w) (base := base) hA kA ic d__law_by_fields y_isinstance 10
  have l16 := same_all (P := P) (w := w) (base := base) d__law_same y_isinstance y_tuple y_list y_len y_all y_zip y_bool 13
  have l17 := c_whole (P := P) (w := w) (base := base) (j := 0) d__law_whole y_isinstance y_int y_bool
  have l18 := c_right (j := 13) kA ic d__law_right y_isinstance y_str y_tuple y_range l16 (l13.up (by omega)) (l17.up (by omega)) (l10.up (by omega)) (l11.up (by omega)) (l9.up (by omega)) (l14.up (by omega)) (upP (by omega) mTold) (up (by omega) mText) (upP (by omega) mSize) (upP (by omega) mDepth) (mInner 12 10) (upF (by omega) mNames) (upF (by omega) mNeeds)
  have R := ok_law (P := P) (w := w) (base := base) (j := 25) F y_range y_len (l8.up (by omega)) p4 (l18.up (by omega)) (l2.up (by omega)) (l9.up (by omega)) (l1.up (by omega)) (l16.up (by omega)) (l15.up (by omega)) (p5.up (by omega)) (upP (by omega) mTold)
  exact R.imp fun vs H Q E ⟨q, ns, e, hS, hl, k⟩ => ⟨[.lst (ns.map D.int)], e ▸ .cons (.lst hS (dvs_ints ns)) .nil, ns, rfl, fun v H' s dv => by cases dv; exact k H'⟩
theorem all_mk {l : PySem.W.OpenLaw} {w : World} {K : PySem.W.Frag} {h : Heap} {mg : Str → Option Value} {fa f1 : Addr} (X : K.In h) (G : h.Ns mainGlobals mg) (hfa : mg "law" = some (.ref fa))
    {od1 an1 : Option Addr} {sl1 : Array (Option Value)} {oc1 kV1 dc1 pm1 cd1 ct1 : Value}
    (la : PySem.W.nsIn K mainGlobals "law" = some (some (.ref f1))) (ll : K.lookup f1 = some ⟨oc1, od1, .func (PySem.W.fnOf "law" "law" (defArgs s_law) (defBody s_law) (defScope s_law) .none kV1 dc1 pm1 an1 cd1 ct1), sl1⟩) (lc : PySem.W.codeIn K cd1 "law" = true) (lk : PySem.W.keepIn K (.ref f1) = true)
    (R : ∀ (P : Program) (base : Heap) (f : Addr) (fd : FuncData), Fun K "law" "law" s_law f fd → FnOk P w K mg base CX0 26 f fd ["_law_script"] (spLaw K))
    : ∃ fd : FuncData, (∀ (s : Shared) (v : Value), BindsTo s fd ⟨[v], []⟩ [("_law_script", v)]) ∧ ∀ base : Heap, K.In base → base.Ns mainGlobals mg → FnOk l.prog w K mg base CX0 26 fa fd ["_law_script"] (spLaw K) := by
  have e := hfa.symm.trans (PySem.W.mg_of X G la)
  cases e
  exact ⟨PySem.W.fnOf "law" "law" (defArgs s_law) (defBody s_law) (defScope s_law) .none kV1 dc1 pm1 an1 cd1 ct1, fun s v => .of_eq rfl, fun base _ _ => R _ base _ _ (fun_mk (st := s_law) ll lc lk)⟩
theorem walk {l : PySem.W.OpenLaw} {q : Program} {loose : List Str} {XP : (Str → Option Value) → Heap → Prop} {YP : World → Heap → Prop} {d : DefRec} {K : Params → PySem.W.Frag} (hn : l.most = some 63) (hdf : d.params.defaults = [])
    (hY : ∀ (w : World) (h : Heap), YP w h → (K w.params).In h)
    (F : ∀ (w : World) (mg : Str → Option Value) (fa : Addr) (h : Heap), (K w.params).In h → h.Ns mainGlobals mg → mg d.name = some (.ref fa) →
      ∃ fd : FuncData, (∀ (s : Shared) (u : Value), BindsTo s fd ⟨[u], []⟩ [("_law_script", u)]) ∧ ∀ base : Heap, (K w.params).In base → base.Ns mainGlobals mg → FnOk l.prog w (K w.params) mg base CX0 26 fa fd ["_law_script"] (spLaw (K w.params))) :
    PySem.W.WalkO q loose XP YP l.row.toRowW d [] (fun f vs => PySem.call f vs) :=
  L2.walk_of (n := 63) (k := 26) (x := "_law_script") (CX := fun _ => CX0) (sp := fun w => spLaw (K w.params)) hn (by decide) hdf ⟨rfl, by decide, by decide⟩ hY F (fun _ _ a ns hl _ hS => ⟨a, ns, rfl, hS, hl, fun _ => rfl⟩) fun _ _ _ _ _ z => z
end K03
open PySem PySem.W PyProof.Rows
namespace PySem.W.Fast
def tw1034900875059872038 := 0
def tw10439226607980945048 := 0
def tw10603551691272297689 := 0
def tw1065727356983302903 := 0
def tw10668234869522633108 := 0
def tw10677749399879398609 := 0
def tw10699842913695643427 := 0
def tw10829274083410240046 := 0
def tw10832592605281562124 := 0
def tw10952654132472564770 := 0
def tw11025903318146273239 := 0
def tw11149106030898349834 := 0
def tw11169947157690873494 := 0
def tw11428191283909599042 := 0
def tw1156386772571599936 := 0
def tw11646237608504634995 := 0
def tw11689536784715463541 := 0
def tw11703617022094489945 := 0
def tw11768956286943285131 := 0
def tw11922574503200503748 := 0
def tw11985329514279683791 := 0
def tw12066778328379560284 := 0
def tw1217036094965215135 := 0
def tw12627511626080038877 := 0
def tw12684052247296817727 := 0
def tw12795385840025722751 := 0
def tw1285755744872162017 := 0
def tw12886583550608749540 := 0
def tw13087031646618748694 := 0
def tw13345288007697728740 := 0
def tw13539964929823688100 := 0
def tw13667185730310012805 := 0
def tw13742835387858807181 := 0
def tw13935684748122775693 := 0
def tw13966910088412191708 := 0
def tw14062725363334217461 := 0
def tw14072978197589839047 := 0
def tw1408462527805820786 := 0
def tw14181349788505069461 := 0
def tw14443342271133816366 := 0
def tw14469019912079408138 := 0
def tw14499437686965447982 := 0
def tw14534802635455798888 := 0
def tw14679883363096632630 := 0
def tw14699759358508949786 := 0
def tw14724282435640046405 := 0
def tw14743752174727815649 := 0
def tw14753184927117141687 := 0
def tw14916878593397034913 := 0
def tw15129725910038350868 := 0
def tw15485841352175293843 := 0
def tw15670304312944705147 := 0
def tw15853511334911700652 := 0
def tw16142384881807212568 := 0
def tw16323566820669886307 := 0
def tw16420795775987228944 := 0
def tw16686926854425281890 := 0
def tw16804321781039189445 := 0
def tw16826174031371349912 := 0
def tw16839291361123985007 := 0
def tw16891814533365868816 := 0
def tw16905398942913871283 := 0
def tw17064958029343592524 := 0
def tw17245340449053414483 := 0
def tw1727651209507677242 := 0
def tw1740422046133929058 := 0
def tw17439108190415264693 := 0
def tw17465508976852845821 := 0
def tw17554248319161027355 := 0
def tw17725348040411313683 := 0
def tw17784044817064678078 := 0
def tw17969616286839645897 := 0
def tw18077623387773935649 := 0
def tw18123086431222352093 := 0
def tw18220275470184423183 := 0
def tw18268240014887845894 := 0
def tw18365113196084227012 := 0
def tw18382339609269534381 := 0
def tw1866571757978977537 := 0
def tw1999283683683458997 := 0
def tw2068451888920497877 := 0
def tw2169468901331494107 := 0
def tw2296475652321724727 := 0
def tw2310540731534632088 := 0
def tw2620899111948306402 := 0
def tw2721850364596089196 := 0
def tw283760442404360307 := 0
def tw2837858756408995995 := 0
def tw2925026033804191895 := 0
def tw318633287112780518 := 0
def tw3284518755355185147 := 0
def tw3386979283855716126 := 0
def tw3618717637727930102 := 0
def tw3869412720119836381 := 0
def tw3929281056793817347 := 0
def tw4008140452084799242 := 0
def tw407013812850907371 := 0
def tw4293433891294040482 := 0
def tw46932580165574631 := 0
def tw4842380923516527483 := 0
def tw4874790392856408810 := 0
def tw4957626202567873494 := 0
def tw5099415115333924349 := 0
def tw5116870342128106584 := 0
def tw5158661508086833255 := 0
def tw5257113510379503698 := 0
def tw5322514102398670751 := 0
def tw5334632156723420523 := 0
def tw5438118219327750168 := 0
def tw545749619051027904 := 0
def tw5480708605358203980 := 0
def tw5520293131177764108 := 0
def tw5690192610502296723 := 0
def tw5742399789396275734 := 0
def tw5938980916745854304 := 0
def tw6050952370256682537 := 0
def tw6067748131298861346 := 0
def tw6160584245517201201 := 0
def tw619543442725329233 := 0
def tw621137925747664024 := 0
def tw6455421739153598017 := 0
def tw6735298650440494855 := 0
def tw6903074650870307606 := 0
def tw6917858806487860491 := 0
def tw6971915701406702630 := 0
def tw7068679153829677170 := 0
def tw715243246449970405 := 0
def tw7167154472786566748 := 0
def tw7175762784278114819 := 0
def tw7280169039246642259 := 0
def tw7495040064159197738 := 0
def tw7559817952662583273 := 0
def tw7677327156735499720 := 0
def tw7717360856966287116 := 0
def tw7933899919923783302 := 0
def tw8207373511690141026 := 0
def tw8303164445728530105 := 0
def tw832385841185629024 := 0
def tw8428465046543909347 := 0
def tw8478618330546366227 := 0
def tw8561157383844258064 := 0
def tw8579827856547236859 := 0
def tw8933563906080783201 := 0
def tw8992778499787331473 := 0
def tw903287107457676580 := 0
def tw9043063420199717773 := 0
def tw9094286035887536469 := 0
def tw9099213411927393077 := 0
def tw9249209104037512334 := 0
def tw9576276585108541596 := 0
end PySem.W.Fast
set_option maxRecDepth 100000 in
set_option maxHeartbeats 0 in
theorem PySem.Challenge.cw_runrows_k03_told_and_written_holds : PySem.Challenge.rw_runrows_k03_told_and_written.Holds := by
  w_on; o_law; k_head; (case hw => w_witness2)
  k_fill
  refine K03.walk (l := PySem.Challenge.rw_runrows_k03_told_and_written) rfl rfl (fun w h Y => PySem.W.kIn_of Y) ?F
  case F =>
    intro w mg fa h KX G hmg
    refine' K03.all_mk KX G hmg ?la ?ll ?lc ?lk (K03.all_ok KX G ?e1 ?e2 ?e3 ?e4 ?e5 ?e6 ?e7 ?e8 ?e9 ?e10 ?nd ?o1 ?n1 ?t1 ?m1_told ?m1_text ?m1_inner ?m1_own_names ?m1_size ?m1_depth ?m1_need_bounds ?m1_names ?m1_needs ?i1 ?o2 ?n2 ?t2 ?m2_told ?m2_text ?m2_inner ?m2_own_names ?m2_size ?m2_depth ?m2_need_bounds ?m2_names ?m2_needs ?i2 ?o3 ?n3 ?t3 ?m3_told ?m3_text ?m3_inner ?m3_own_names ?m3_size ?m3_depth ?m3_need_bounds ?m3_names ?m3_needs ?i3 ?o4 ?n4 ?t4 ?m4_told ?m4_text ?m4_inner ?m4_own_names ?m4_size ?m4_depth ?m4_need_bounds ?m4_names ?m4_needs ?i4 ?o5 ?n5 ?t5 ?m5_told ?m5_text ?m5_inner ?m5_own_names ?m5_size ?m5_depth ?m5_need_bounds ?m5_names ?m5_needs ?i5 ?o6 ?n6 ?t6 ?m6_told ?m6_text ?m6_inner ?m6_own_names ?m6_size ?m6_depth ?m6_need_bounds ?m6_names ?m6_needs ?i6 ?o7 ?n7 ?t7 ?m7_told ?m7_text ?m7_inner ?m7_own_names ?m7_size ?m7_depth ?m7_need_bounds ?m7_names ?m7_needs ?i7 ?o8 ?n8 ?t8 ?m8_told ?m8_text ?m8_inner ?m8_own_names ?m8_size ?m8_depth ?m8_need_bounds ?m8_names ?m8_needs ?i8 ?o9 ?n9 ?t9 ?m9_told ?m9_text ?m9_inner ?m9_own_names ?m9_size ?m9_depth ?m9_need_bounds ?m9_names ?m9_needs ?i9 ?d_has_letters ?d_has_word_form ?d_is_word ?d_is_name ?d_is_number ?d_is_value ?d_value_text ?d_need_name ?d_once ?d_need_first ?d_first_text ?d_has_shape ?d_many_within ?d_plain_by ?d_timed_by ?d_part_of ?d_part_at ?d__law_cell_at ?d__law_mixed ?d__law_names ?d__law_number ?d__law_value ?d__law_whole ?d__law_same ?d__law_tree ?d__law_inner ?d__law_value_text ?d__law_text ?d__law_size ?d__law_depth ?d__law_names_in ?d__law_by_fields ?d__law_chain ?d__law_some ?d__law_right ?g_LONGEST_WORD ?g_MOST_WORDS ?g_LOWEST ?g_HIGHEST ?g_DEEPEST ?g_LARGEST ?g_LETTERS ?g_KEPT ?k_SHAPES ?k_SIGNS ?z_isinstance ?z_bool ?z_int ?z_str ?z_len ?z_all ?z_sum ?z_max ?z_range ?z_zip ?z_tuple ?z_list)
    (case la => k_is)
    (case ll => k_is)
    (case lc => k_is)
    (case lk => k_is)
    (case e1 => k_is)
    (case e2 => k_is)
    (case e3 => k_is)
    (case e4 => k_is)
    (case e5 => k_is)
    (case e6 => k_is)
    (case e7 => k_is)
    (case e8 => k_is)
    (case e9 => k_is)
    (case e10 => k_is)
    (case nd => decide)
    (case o1 => exact K03.own_mk)
    (case n1 => exact K03.nof_mk)
    (case t1 => exact K03.kr_cons (K03.kr_cons (K03.kr_cons (K03.kr_cons (K03.kr_cons (K03.kr_cons (K03.kr_cons (K03.kr_cons (K03.kr_cons (K03.kr_cons (K03.kr_nil)))))))))))
    (case m1_told => exact K03.dm_mk)
    (case m1_text => exact K03.dm_mk)
    (case m1_inner => exact K03.dm_mk)
    (case m1_own_names => exact K03.dm_mk)
    (case m1_size => exact K03.dm_mk)
    (case m1_depth => exact K03.dm_mk)
    (case m1_need_bounds => exact K03.dm_mk)
    (case m1_names => exact K03.dm_mk)
    (case m1_needs => exact K03.dm_mk)
    (case i1 => exact K03.di_mk KX G)
    (case o2 => exact K03.own_mk)
    (case n2 => exact K03.nof_mk)
    (case t2 => exact K03.kr_cons (K03.kr_cons (K03.kr_cons (K03.kr_cons (K03.kr_cons (K03.kr_cons (K03.kr_cons (K03.kr_cons (K03.kr_cons (K03.kr_cons (K03.kr_nil)))))))))))
    (case m2_told => exact K03.dm_mk)
    (case m2_text => exact K03.dm_mk)
    (case m2_inner => exact K03.dm_mk)
    (case m2_own_names => exact K03.dm_mk)
    (case m2_size => exact K03.dm_mk)
    (case m2_depth => exact K03.dm_mk)
    (case m2_need_bounds => exact K03.dm_mk)
    (case m2_names => exact K03.dm_mk)
    (case m2_needs => exact K03.dm_mk)
    (case i2 => exact K03.di_mk KX G)
    (case o3 => exact K03.own_mk)
    (case n3 => exact K03.nof_mk)
    (case t3 => exact K03.kr_cons (K03.kr_cons (K03.kr_cons (K03.kr_cons (K03.kr_cons (K03.kr_cons (K03.kr_cons (K03.kr_cons (K03.kr_cons (K03.kr_cons (K03.kr_nil)))))))))))
    (case m3_told => exact K03.dm_mk)
    (case m3_text => exact K03.dm_mk)
    (case m3_inner => exact K03.dm_mk)
    (case m3_own_names => exact K03.dm_mk)
    (case m3_size => exact K03.dm_mk)
    (case m3_depth => exact K03.dm_mk)
    (case m3_need_bounds => exact K03.dm_mk)
    (case m3_names => exact K03.dm_mk)
    (case m3_needs => exact K03.dm_mk)
    (case i3 => exact K03.di_mk KX G)
    (case o4 => exact K03.own_mk)
    (case n4 => exact K03.nof_mk)
    (case t4 => exact K03.kr_cons (K03.kr_cons (K03.kr_cons (K03.kr_cons (K03.kr_cons (K03.kr_cons (K03.kr_cons (K03.kr_cons (K03.kr_cons (K03.kr_cons (K03.kr_nil)))))))))))
    (case m4_told => exact K03.dm_mk)
    (case m4_text => exact K03.dm_mk)
    (case m4_inner => exact K03.dm_mk)
    (case m4_own_names => exact K03.dm_mk)
    (case m4_size => exact K03.dm_mk)
    (case m4_depth => exact K03.dm_mk)
    (case m4_need_bounds => exact K03.dm_mk)
    (case m4_names => exact K03.dm_mk)
    (case m4_needs => exact K03.dm_mk)
    (case i4 => exact K03.di_mk KX G)
    (case o5 => exact K03.own_mk)
    (case n5 => exact K03.nof_mk)
    (case t5 => exact K03.kr_cons (K03.kr_cons (K03.kr_cons (K03.kr_cons (K03.kr_cons (K03.kr_cons (K03.kr_cons (K03.kr_cons (K03.kr_cons (K03.kr_cons (K03.kr_nil)))))))))))
    (case m5_told => exact K03.dm_mk)
    (case m5_text => exact K03.dm_mk)
    (case m5_inner => exact K03.dm_mk)
    (case m5_own_names => exact K03.dm_mk)
    (case m5_size => exact K03.dm_mk)
    (case m5_depth => exact K03.dm_mk)
    (case m5_need_bounds => exact K03.dm_mk)
    (case m5_names => exact K03.dm_mk)
    (case m5_needs => exact K03.dm_mk)
    (case i5 => exact K03.di_mk KX G)
    (case o6 => exact K03.own_mk)
    (case n6 => exact K03.nof_mk)
    (case t6 => exact K03.kr_cons (K03.kr_cons (K03.kr_cons (K03.kr_cons (K03.kr_cons (K03.kr_cons (K03.kr_cons (K03.kr_cons (K03.kr_cons (K03.kr_cons (K03.kr_nil)))))))))))
    (case m6_told => exact K03.dm_mk)
    (case m6_text => exact K03.dm_mk)
    (case m6_inner => exact K03.dm_mk)
    (case m6_own_names => exact K03.dm_mk)
    (case m6_size => exact K03.dm_mk)
    (case m6_depth => exact K03.dm_mk)
    (case m6_need_bounds => exact K03.dm_mk)
    (case m6_names => exact K03.dm_mk)
    (case m6_needs => exact K03.dm_mk)
    (case i6 => exact K03.di_mkD KX G K03.b_Before___init__)
    (case o7 => exact K03.own_mk)
    (case n7 => exact K03.nof_mk)
    (case t7 => exact K03.kr_cons (K03.kr_cons (K03.kr_cons (K03.kr_cons (K03.kr_cons (K03.kr_cons (K03.kr_cons (K03.kr_cons (K03.kr_cons (K03.kr_cons (K03.kr_nil)))))))))))
    (case m7_told => exact K03.dm_mk)
    (case m7_text => exact K03.dm_mk)
    (case m7_inner => exact K03.dm_mk)
    (case m7_own_names => exact K03.dm_mk)
    (case m7_size => exact K03.dm_mk)
    (case m7_depth => exact K03.dm_mk)
    (case m7_need_bounds => exact K03.dm_mk)
    (case m7_names => exact K03.dm_mk)
    (case m7_needs => exact K03.dm_mk)
    (case i7 => exact K03.di_mk KX G)
    (case o8 => exact K03.own_mk)
    (case n8 => exact K03.nof_mk)
    (case t8 => exact K03.kr_cons (K03.kr_cons (K03.kr_cons (K03.kr_cons (K03.kr_cons (K03.kr_cons (K03.kr_cons (K03.kr_cons (K03.kr_cons (K03.kr_cons (K03.kr_nil)))))))))))
    (case m8_told => exact K03.dm_mk)
    (case m8_text => exact K03.dm_mk)
    (case m8_inner => exact K03.dm_mk)
    (case m8_own_names => exact K03.dm_mk)
    (case m8_size => exact K03.dm_mk)
    (case m8_depth => exact K03.dm_mk)
    (case m8_need_bounds => exact K03.dm_mk)
    (case m8_names => exact K03.dm_mk)
    (case m8_needs => exact K03.dm_mk)
    (case i8 => exact K03.di_mk KX G)
    (case o9 => exact K03.own_mk)
    (case n9 => exact K03.nof_mk)
    (case t9 => exact K03.kr_cons (K03.kr_cons (K03.kr_cons (K03.kr_cons (K03.kr_cons (K03.kr_cons (K03.kr_cons (K03.kr_cons (K03.kr_cons (K03.kr_cons (K03.kr_nil)))))))))))
    (case m9_told => exact K03.dm_mk)
    (case m9_text => exact K03.dm_mk)
    (case m9_inner => exact K03.dm_mk)
    (case m9_own_names => exact K03.dm_mk)
    (case m9_size => exact K03.dm_mk)
    (case m9_depth => exact K03.dm_mk)
    (case m9_need_bounds => exact K03.dm_mk)
    (case m9_names => exact K03.dm_mk)
    (case m9_needs => exact K03.dm_mk)
    (case i9 => exact K03.di_mkD KX G K03.b_Held___init__)
    (case d_has_letters => exact K03.df_mk KX G)
    (case d_has_word_form => exact K03.df_mk KX G)
    (case d_is_word => exact K03.df_mk KX G)
    (case d_is_name => exact K03.df_mk KX G)
    (case d_is_number => exact K03.df_mk KX G)
    (case d_is_value => exact K03.df_mk KX G)
    (case d_value_text => exact K03.df_mk KX G)
    (case d_need_name => exact K03.df_mk KX G)
    (case d_once => exact K03.df_mk KX G)
    (case d_need_first => exact K03.df_mk KX G)
    (case d_first_text => exact K03.df_mk KX G)
    (case d_has_shape => exact K03.df_mk KX G)
    (case d_many_within => exact K03.df_mk KX G)
    (case d_plain_by => exact K03.df_mk KX G)
    (case d_timed_by => exact K03.df_mk KX G)
    (case d_part_of => exact K03.df_mk KX G)
    (case d_part_at => exact K03.df_mk KX G)
    (case d__law_cell_at => exact K03.df_mk KX G)
    (case d__law_mixed => exact K03.df_mk KX G)
    (case d__law_names => exact K03.df_mk KX G)
    (case d__law_number => exact K03.df_mk KX G)
    (case d__law_value => exact K03.df_mk KX G)
    (case d__law_whole => exact K03.df_mk KX G)
    (case d__law_same => exact K03.df_mk KX G)
    (case d__law_tree => exact K03.df_mk KX G)
    (case d__law_inner => exact K03.df_mk KX G)
    (case d__law_value_text => exact K03.df_mk KX G)
    (case d__law_text => exact K03.df_mk KX G)
    (case d__law_size => exact K03.df_mk KX G)
    (case d__law_depth => exact K03.df_mk KX G)
    (case d__law_names_in => exact K03.df_mk KX G)
    (case d__law_by_fields => exact K03.df_mk KX G)
    (case d__law_chain => exact K03.df_mk KX G)
    (case d__law_some => exact K03.df_mk KX G)
    (case d__law_right => exact K03.df_mk KX G)
    (case g_LONGEST_WORD => exact K03.gi_mk KX G (by k_is))
    (case g_MOST_WORDS => exact K03.gi_mk KX G (by k_is))
    (case g_LOWEST => exact K03.gi_mk KX G (by k_is))
    (case g_HIGHEST => exact K03.gi_mk KX G (by k_is))
    (case g_DEEPEST => exact K03.gi_mk KX G (by k_is))
    (case g_LARGEST => exact K03.gi_mk KX G (by k_is))
    (case g_LETTERS => exact K03.gs_mk KX G (by k_is))
    (case g_KEPT => refine' K03.gt_mk KX G ?e (K03.tup_mk (K03.keptL.map L2.V.str) ?l ?z ?v (K03.dvs_strs' K03.keptL)); (case e => k_is); (case l => k_is); (case z => exact Nat.le_of_ble_eq_true rfl); (case v => exact (.cons ⟨_, rfl⟩ (.cons ⟨_, rfl⟩ (.cons ⟨_, rfl⟩ (.cons ⟨_, rfl⟩ (.cons ⟨_, rfl⟩ (.cons ⟨_, rfl⟩ (.cons ⟨_, rfl⟩ (.cons ⟨_, rfl⟩ (.cons ⟨_, rfl⟩ (.cons ⟨_, rfl⟩ (.cons ⟨_, rfl⟩ (.cons ⟨_, rfl⟩ (.cons ⟨_, rfl⟩ (.cons ⟨_, rfl⟩ (.cons ⟨_, rfl⟩ (.cons ⟨_, rfl⟩ (.cons ⟨_, rfl⟩ (.cons ⟨_, rfl⟩ (.cons ⟨_, rfl⟩ (.nil))))))))))))))))))))))
    (case k_SHAPES => refine' K03.kt_mk KX G ?e ?l ?k ?h ?s ?t; (case e => k_is); (case l => k_is); (case k => k_keys); (case h => exact (K03.ents_ref rfl rfl (K03.ents_ref rfl rfl (K03.ents_ref rfl rfl (K03.ents_ref rfl rfl (K03.ents_ref rfl rfl (K03.ents_ref rfl rfl (K03.ents_ref rfl rfl (K03.ents_ref rfl rfl (.nil)))))))))); (case s => exact rfl); (case t => refine' (.cons ?q0 (.cons ?q1 (.cons ?q2 (.cons ?q3 (.cons ?q4 (.cons ?q5 (.cons ?q6 (.cons ?q7 (.nil))))))))); (case q0 => refine' K03.tup_mk [(.int 2), (.int 0)] ?l ?z ?v ?d; (case l => k_is); (case z => exact Nat.le_of_ble_eq_true rfl); (case v => exact .cons ⟨_, rfl⟩ (.cons ⟨_, rfl⟩ .nil)); (case d => exact fun _ => .cons (.int _) (.cons (.int _) .nil))); (case q1 => refine' K03.tup_mk [(.int 2), (.int 0)] ?l ?z ?v ?d; (case l => k_is); (case z => exact Nat.le_of_ble_eq_true rfl); (case v => exact .cons ⟨_, rfl⟩ (.cons ⟨_, rfl⟩ .nil)); (case d => exact fun _ => .cons (.int _) (.cons (.int _) .nil))); (case q2 => refine' K03.tup_mk [(.int 2), (.int 1)] ?l ?z ?v ?d; (case l => k_is); (case z => exact Nat.le_of_ble_eq_true rfl); (case v => exact .cons ⟨_, rfl⟩ (.cons ⟨_, rfl⟩ .nil)); (case d => exact fun _ => .cons (.int _) (.cons (.int _) .nil))); (case q3 => refine' K03.tup_mk [(.int 4), (.int 3)] ?l ?z ?v ?d; (case l => k_is); (case z => exact Nat.le_of_ble_eq_true rfl); (case v => exact .cons ⟨_, rfl⟩ (.cons ⟨_, rfl⟩ .nil)); (case d => exact fun _ => .cons (.int _) (.cons (.int _) .nil))); (case q4 => refine' K03.tup_mk [(.int 3), (.int 1)] ?l ?z ?v ?d; (case l => k_is); (case z => exact Nat.le_of_ble_eq_true rfl); (case v => exact .cons ⟨_, rfl⟩ (.cons ⟨_, rfl⟩ .nil)); (case d => exact fun _ => .cons (.int _) (.cons (.int _) .nil))); (case q5 => refine' K03.tup_mk [(.int 3), (.int 2)] ?l ?z ?v ?d; (case l => k_is); (case z => exact Nat.le_of_ble_eq_true rfl); (case v => exact .cons ⟨_, rfl⟩ (.cons ⟨_, rfl⟩ .nil)); (case d => exact fun _ => .cons (.int _) (.cons (.int _) .nil))); (case q6 => refine' K03.tup_mk [(.int 3), (.int 1)] ?l ?z ?v ?d; (case l => k_is); (case z => exact Nat.le_of_ble_eq_true rfl); (case v => exact .cons ⟨_, rfl⟩ (.cons ⟨_, rfl⟩ .nil)); (case d => exact fun _ => .cons (.int _) (.cons (.int _) .nil))); (case q7 => refine' K03.tup_mk [(.int 4), (.int 1)] ?l ?z ?v ?d; (case l => k_is); (case z => exact Nat.le_of_ble_eq_true rfl); (case v => exact .cons ⟨_, rfl⟩ (.cons ⟨_, rfl⟩ .nil)); (case d => exact fun _ => .cons (.int _) (.cons (.int _) .nil)))))
    (case k_SIGNS => refine' K03.kt_mk KX G ?e ?l ?k ?h ?s ?t; (case e => k_is); (case l => k_is); (case k => k_keys); (case h => exact (K03.ents_ref rfl rfl (K03.ents_ref rfl rfl (K03.ents_ref rfl rfl (K03.ents_ref rfl rfl (K03.ents_ref rfl rfl (K03.ents_ref rfl rfl (K03.ents_ref rfl rfl (K03.ents_ref rfl rfl (.nil)))))))))); (case s => exact rfl); (case t => refine' (.cons ?q0 (.cons ?q1 (.cons ?q2 (.cons ?q3 (.cons ?q4 (.cons ?q5 (.cons ?q6 (.cons ?q7 (.nil))))))))); (case q0 => refine' K03.tup_mk [(.str "number"), (.str "number")] ?l ?z ?v ?d; (case l => k_is); (case z => exact Nat.le_of_ble_eq_true rfl); (case v => exact .cons ⟨_, rfl⟩ (.cons ⟨_, rfl⟩ .nil)); (case d => exact fun _ => .cons (.str _) (.cons (.str _) .nil))); (case q1 => refine' K03.tup_mk [(.str "number"), (.str "number")] ?l ?z ?v ?d; (case l => k_is); (case z => exact Nat.le_of_ble_eq_true rfl); (case v => exact .cons ⟨_, rfl⟩ (.cons ⟨_, rfl⟩ .nil)); (case d => exact fun _ => .cons (.str _) (.cons (.str _) .nil))); (case q2 => refine' K03.tup_mk [(.str "number"), (.str "number")] ?l ?z ?v ?d; (case l => k_is); (case z => exact Nat.le_of_ble_eq_true rfl); (case v => exact .cons ⟨_, rfl⟩ (.cons ⟨_, rfl⟩ .nil)); (case d => exact fun _ => .cons (.str _) (.cons (.str _) .nil))); (case q3 => refine' K03.tup_mk [.non, (.str "truth")] ?l ?z ?v ?d; (case l => k_is); (case z => exact Nat.le_of_ble_eq_true rfl); (case v => exact .cons rfl (.cons ⟨_, rfl⟩ .nil)); (case d => exact fun _ => .cons .non (.cons (.str _) .nil))); (case q4 => refine' K03.tup_mk [(.str "number"), (.str "truth")] ?l ?z ?v ?d; (case l => k_is); (case z => exact Nat.le_of_ble_eq_true rfl); (case v => exact .cons ⟨_, rfl⟩ (.cons ⟨_, rfl⟩ .nil)); (case d => exact fun _ => .cons (.str _) (.cons (.str _) .nil))); (case q5 => refine' K03.tup_mk [(.str "number"), (.str "truth")] ?l ?z ?v ?d; (case l => k_is); (case z => exact Nat.le_of_ble_eq_true rfl); (case v => exact .cons ⟨_, rfl⟩ (.cons ⟨_, rfl⟩ .nil)); (case d => exact fun _ => .cons (.str _) (.cons (.str _) .nil))); (case q6 => refine' K03.tup_mk [(.str "truth"), (.str "truth")] ?l ?z ?v ?d; (case l => k_is); (case z => exact Nat.le_of_ble_eq_true rfl); (case v => exact .cons ⟨_, rfl⟩ (.cons ⟨_, rfl⟩ .nil)); (case d => exact fun _ => .cons (.str _) (.cons (.str _) .nil))); (case q7 => refine' K03.tup_mk [(.str "truth"), (.str "truth")] ?l ?z ?v ?d; (case l => k_is); (case z => exact Nat.le_of_ble_eq_true rfl); (case v => exact .cons ⟨_, rfl⟩ (.cons ⟨_, rfl⟩ .nil)); (case d => exact fun _ => .cons (.str _) (.cons (.str _) .nil)))))
    (case z_isinstance => k_is)
    (case z_bool => k_is)
    (case z_int => k_is)
    (case z_str => k_is)
    (case z_len => k_is)
    (case z_all => k_is)
    (case z_sum => k_is)
    (case z_max => k_is)
    (case z_range => k_is)
    (case z_zip => k_is)
    (case z_tuple => k_is)
    (case z_list => k_is)
#print axioms PySem.Challenge.cw_runrows_k03_told_and_written_holds

import PyProof.Rows.All
import Wide.All
import OpenK.AllK
import Wide.FinOn
import Lean
import PyProof.EqAt
import PyProof.EqKinds
import PyProof.TupleCall
import PyProof.ExcAttrAll.ValueError
import PySem.Challenge.RW_runrows_k04_what_makes_none
set_option Elab.async false
set_option linter.all false
set_option maxRecDepth 100000
namespace L2
open PySem PySem.Spec PyProof.Rows
abbrev Key := Sum Int Str
def keyIs : Key → Value → Bool
  | .inl k, v => Value.isInt k v
  | .inr x, v => Value.isStrOf x v
def keyH (w : World) : Key → Int
  | .inl k => hashInt k
  | .inr x => hashStr w x
theorem keyIs_shape : ∀ {k : Key} {v : Value}, keyIs k v = true → (∃ i t, k = Sum.inl i ∧ v = Value.int i t) ∨ (∃ x t, k = Sum.inr x ∧ v = Value.str x t)
  | .inl i, v, h => by
    obtain ⟨t, e⟩ := Value.isInt_shape (k := i) (v := v) h
    exact .inl ⟨i, t, rfl, e⟩
  | .inr x, v, h => by
    obtain ⟨t, e⟩ := Value.isStrOf_shape (x := x) (v := v) h
    exact .inr ⟨x, t, rfl, e⟩
theorem key_ll (a b : Int) : decide ((Sum.inl a : Key) = Sum.inl b) = (a == b) := by
  by_cases e : a = b
  · subst e; simp
  · have h : ¬ (Sum.inl a : Key) = Sum.inl b := fun q => e (Sum.inl.inj q)
    rw [decide_eq_false h]
    exact (beq_eq_false_iff_ne.mpr e).symm
theorem key_rr (a b : Str) : decide ((Sum.inr a : Key) = Sum.inr b) = decide (a = b) := by
  by_cases e : a = b
  · subst e; simp
  · have h : ¬ (Sum.inr a : Key) = Sum.inr b := fun q => e (Sum.inr.inj q)
    rw [decide_eq_false h, decide_eq_false e]
theorem key_lr (a : Int) (b : Str) : decide ((Sum.inl a : Key) = Sum.inr b) = false := decide_eq_false (fun q => nomatch q)
theorem key_rl (a : Str) (b : Int) : decide ((Sum.inr a : Key) = Sum.inl b) = false := decide_eq_false (fun q => nomatch q)
def mixKind (prog : Program) (w : World) : PySem.KeyKind prog w Key where
  is := keyIs
  hash := keyH w
  inj := fun v a b ha hb => by
    rcases keyIs_shape ha with ⟨i, t, rfl, rfl⟩ | ⟨x, t, rfl, rfl⟩
    · rcases keyIs_shape hb with ⟨j, u, rfl, e⟩ | ⟨y, u, rfl, e⟩
      · injection e with e1 _; rw [e1]
      · exact nomatch e
    · rcases keyIs_shape hb with ⟨j, u, rfl, e⟩ | ⟨y, u, rfl, e⟩
      · exact nomatch e
      · injection e with e1 _; rw [e1]
  byValue := fun k v h => by
    rcases keyIs_shape h with ⟨i, t, rfl, rfl⟩ | ⟨x, t, rfl, rfl⟩ <;> rfl
  pyHash := fun hv h => by
    rcases keyIs_shape hv with ⟨i, t, rfl, rfl⟩ | ⟨x, t, rfl, rfl⟩
    · exact wpAny_pyHash_int h
    · exact wpAny_pyHash_str h
  eqBool := fun hu hv h => by
    rcases keyIs_shape hu with ⟨i, t, rfl, rfl⟩ | ⟨x, t, rfl, rfl⟩
    · rcases keyIs_shape hv with ⟨j, u, rfl, rfl⟩ | ⟨y, u, rfl, rfl⟩
      · rw [key_ll] at h; exact wpAny_eqBool_int h
      · rw [key_lr] at h; exact SeqAt.EqAt.int_str i t y u _ _ _ _ h
    · rcases keyIs_shape hv with ⟨j, u, rfl, rfl⟩ | ⟨y, u, rfl, rfl⟩
      · rw [key_rl] at h; exact SeqAt.EqAt.str_int x t j u _ _ _ _ h
      · rw [key_rr] at h; exact wpAny_eqBool_str h
  «strs» := fun k x t v h => by
    rcases keyIs_shape h with ⟨i, u, rfl, e⟩ | ⟨y, u, rfl, e⟩
    · exact nomatch e
    · injection e with e1 _
      subst e1
      cases v <;> rfl
end L2
namespace L2
open PySem PySem.Spec PyProof.Rows
inductive V where
  | non | bl (b : Bool) | int (i : Int) | str (x : Str) | byt (b : Array UInt8) | flt (b : UInt64) | ref (a : Addr) | ty (n : String)
  deriving DecidableEq
def RelV : V → Value → Prop
  | .non, u => u = Value.none
  | .bl b, u => u = Value.bool b
  | .int i, u => ∃ t, u = Value.int i t
  | .str x, u => ∃ t, u = Value.str x t
  | .byt b, u => ∃ t, u = Value.bytes b t
  | .flt b, u => ∃ t, u = Value.float b t
  | .ref a, u => u = Value.ref a
  | .ty n, u => u = Value.type n
abbrev Vals : List V → List Value → Prop := Paired RelV
theorem Vals.length {xs : List V} {us : List Value} (r : Vals xs us) : xs.length = us.length := Paired.length r
theorem Vals.get : ∀ {xs : List V} {us : List Value} {i : Nat} {x : V}, Vals xs us → xs[i]? = some x → ∃ u, us[i]? = some u ∧ RelV x u
  | _, _, _, _, .nil, e => by simp at e
  | _, _, 0, _, .cons r _, e => by simp at e; subst e; exact ⟨_, rfl, r⟩
  | _, _, i + 1, x, .cons _ t, e => by
    obtain ⟨u, h1, h2⟩ := Vals.get (i := i) (x := x) t (by simpa using e)
    exact ⟨u, by simpa using h1, h2⟩
theorem Vals.append : ∀ {xs ys : List V} {us ws : List Value}, Vals xs us → Vals ys ws → Vals (xs ++ ys) (us ++ ws)
  | _, _, _, _, .nil, s => s
  | _, _, _, _, .cons r t, s => .cons r (Vals.append t s)
theorem Vals.take : ∀ {xs : List V} {us : List Value} (n : Nat), Vals xs us → Vals (xs.take n) (us.take n)
  | _, _, 0, _ => .nil
  | _, _, _ + 1, .nil => .nil
  | _, _, n + 1, .cons r t => .cons r (Vals.take n t)
theorem Vals.drop : ∀ {xs : List V} {us : List Value} (n : Nat), Vals xs us → Vals (xs.drop n) (us.drop n)
  | _, _, 0, r => r
  | _, _, _ + 1, .nil => .nil
  | _, _, n + 1, .cons _ t => Vals.drop n t
def RelO : Option V → Option Value → Prop
  | some v, some u => RelV v u
  | none, none => True
  | _, _ => False
def KV {κ : Type} : List (κ × V) → List (κ × Value) → Prop := Paired fun (p : κ × V) (q : κ × Value) => p.1 = q.1 ∧ RelV p.2 q.2
def kV : Key → V
  | .inl i => .int i
  | .inr x => .str x
inductive HO where
  /-- a list -/
  | lst (xs : List V)
  /-- a tuple (never changes) -/
  | tup (xs : List V)
  /-- a dict whose keys are ints and texts; one whose keys are tuples of ints and texts (the empty one is both) -/
  | dK (kvs : List (Key × V)) | dT (kvs : List (List Key × V))
  /-- a set of ints: its members, its size -/
  | set (S : Int → Bool) (n : Nat)
  /-- an instance of the class at C, its dict at dx, its attributes -/
  | ins (C dx : Addr) (fs : List (Str × V))
  /-- the dict of the instance at x -/
  | own (x : Addr)
  /-- the dict of an exception -/
  | xd (fs : List (Str × V))
  /-- a bound method, f of x -/
  | met (f x : Addr)
  /-- a range object lo, lo + 1, .. below hi -/
  | rng (lo hi : Int)
  /-- a thing that is known to the object (the script; a dict while a loop walks it): read, never written while it is so -/
  | frz (o : Obj) (u : HO)
  /-- a code object's table -/
  | tbl (ps : Array Value)
  /-- any other thing, by what is true of its one object (a def of one's own: SetO a S n := HO.ext fun h => ..) -/
  | ext (φ : Heap → Prop)
abbrev Hp := Addr → Option HO
def upd (H : Hp) (a : Addr) (o : HO) : Hp := fun b => if b = a then some o else H b
theorem upd_same {H : Hp} {a : Addr} {o : HO} : upd H a o a = some o := by unfold upd; rw [if_pos rfl]
theorem upd_ne {H : Hp} {a b : Addr} {o : HO} (h : b ≠ a) : upd H a o b = H b := by unfold upd; rw [if_neg h]
theorem upd_upd {H : Hp} {a : Addr} {o u : HO} : upd (upd H a o) a u = upd H a u := by
  funext b; unfold upd; split <;> rfl
theorem ne_of_none {H : Hp} {a b : Addr} {o : HO} (h : H a = some o) (h' : H b = none) : a ≠ b := by
  intro e; subst e; rw [h] at h'; cases h'
section
variable (P : Program) (w : World)
def ObjOk (H : Hp) (h : Heap) (a : Addr) : HO → Prop
  | .lst xs => xs.length ≤ sizeLine ∧ ∃ (its : List Value) (n : Nat), Vals xs its ∧ h.get? a = some { cls := .type "list", data := .seq its.toArray n }
  | .tup xs => xs.length ≤ sizeLine ∧ ∃ its : List Value, Vals xs its ∧ IsTup h a its.toArray
  | .dK kvs => kvs.length ≤ sizeLine ∧ (a == sysModules) = false ∧ ∃ vs, KV kvs vs ∧ h.DictOf (mixKind P w) a vs
  | .dT kvs => kvs.length ≤ sizeLine ∧ (a == sysModules) = false ∧ ∃ xs : List (List Key × Addr × Value),
      Paired (fun (p : List Key × V) (q : List Key × Addr × Value) => p.1 = q.1 ∧ H q.2.1 = some (.tup (p.1.map kV)) ∧ RelV p.2 q.2.2) kvs xs ∧
      ∃ o es ep, h.get? a = some o ∧ o.ExactDict ∧ o.data = .dict es ep ∧ es.toList = xs.map (entryOfKey (tupleKind (mixKind P w))) ∧ (xs.map (·.1)).Nodup
  | .set S n => h.SetOf (intKind P w) a S n
  | .ins C dx fs => H dx = some (.own a) ∧ fs.length ≤ 1000 ∧ dx ≠ a ∧ h.get? a = some (PySem.W.instObj C dx) ∧
      ∃ mA, h.Ns1 dx mA ∧ (∀ f, RelO (fs.lookup f) (mA f)) ∧ PySem.Within mA (fs.map (·.1))
  | .own _ => ∃ o, h.get? a = some o
  | .xd fs => ∃ mA, h.Ns1 a mA ∧ ∀ f, RelO (fs.lookup f) (mA f)
  | .rng lo hi => ∃ t u v, h.get? a = some { cls := .type "range", data := .fields #[.int lo t, .int hi u, .int 1 v] }
  | .frz o u => h.get? a = some o ∧ ObjOk H h a u
  | .tbl ps => h.get? a = some { cls := .none, data := .fields ps }
  | .met f x => h.get? a = some (PySem.W.methodObj (.ref f) (.ref x))
  | .ext φ => φ h ∧ (∃ o, h.get? a = some o) ∧ ∀ h1 h2 : Heap, φ h1 → (∀ o, h1.get? a = some o → h2.get? a = some o) → φ h2
def HOk (H : Hp) (h : Heap) : Prop := ∀ a o, H a = some o → ObjOk P w H h a o
end
section
variable {P : Program} {w : World} {H H' : Hp} {h h' : Heap} {a : Addr} {o : HO}
theorem ObjOk.lt (x : ObjOk P w H h a o) : a < h.objs.size := by
  cases o with
  | lst xs => obtain ⟨_, _, _, _, e⟩ := x; exact Heap.lt_size e
  | tup xs => obtain ⟨_, _, _, p⟩ := x; exact p.lt
  | dK kvs => obtain ⟨_, _, _, _, o, _, _, e, _⟩ := x; exact Heap.lt_size e
  | dT kvs => obtain ⟨_, _, _, _, o, _, _, e, _⟩ := x; exact Heap.lt_size e
  | set S n => obtain ⟨o, _, _, _, e, _⟩ := x; exact Heap.lt_size e
  | ins C dx fs => obtain ⟨_, _, _, e, _⟩ := x; exact Heap.lt_size e
  | own y => obtain ⟨_, e⟩ := x; exact Heap.lt_size e
  | xd fs => obtain ⟨_, ⟨_, _, _, e, _⟩, _⟩ := x; exact Heap.lt_size e
  | rng lo hi => obtain ⟨_, _, _, e⟩ := x; exact Heap.lt_size e
  | frz ob u => obtain ⟨e, _⟩ := x; exact Heap.lt_size e
  | tbl ps => exact Heap.lt_size (show h.get? a = some _ from x)
  | met f y => exact Heap.lt_size (show h.get? a = some _ from x)
  | ext φ => obtain ⟨_, ⟨_, e⟩, _⟩ := x; exact Heap.lt_size e
theorem Paired.mapP {α β : Type} {F G : α → β → Prop} : ∀ {l₁ : List α} {l₂ : List β}, Paired F l₁ l₂ → (∀ a b, F a b → G a b) → Paired G l₁ l₂
  | _, _, .nil, _ => .nil
  | _, _, .cons r t, f => .cons (f _ _ r) (Paired.mapP t f)
theorem Paired.imp' {α β : Type} {F G : α → β → Prop} (f : ∀ a b, F a b → G a b) {l₁ : List α} {l₂ : List β} (r : Paired F l₁ l₂) : Paired G l₁ l₂ := Paired.mapP r f
theorem ObjOk.stay (x : ObjOk P w H h a o) (k : ∀ b u, (b = a ∨ H b = some (.own a)) → h.get? b = some u → h'.get? b = some u)
    (ho : ∀ b, H b = some (.own a) → H' b = some (.own a)) (ht : ∀ b xs, H b = some (.tup xs) → H' b = some (.tup xs)) : ObjOk P w H' h' a o := by
  induction o with
  | lst xs => obtain ⟨z, its, n, r, e⟩ := x; exact ⟨z, its, n, r, k _ _ (.inl rfl) e⟩
  | tup xs => obtain ⟨z, its, r, ob, e, c⟩ := x; exact ⟨z, its, r, ob, k _ _ (.inl rfl) e, c⟩
  | dK kvs => obtain ⟨z, y, vs, r, ob, es, ep, e, c⟩ := x; exact ⟨z, y, vs, r, ob, es, ep, k _ _ (.inl rfl) e, c⟩
  | dT kvs =>
    obtain ⟨z, y, xs, r, ob, es, ep, e, c⟩ := x
    exact ⟨z, y, xs, Paired.mapP r fun p q z => ⟨z.1, ht _ _ z.2.1, z.2.2⟩, ob, es, ep, k _ _ (.inl rfl) e, c⟩
  | set S n => obtain ⟨ob, es, ep, t, e, c⟩ := x; exact ⟨ob, es, ep, t, k _ _ (.inl rfl) e, c⟩
  | ins C dx fs =>
    obtain ⟨d, z, ne, e, mA, ⟨od, es, ep, e2, c⟩, r⟩ := x
    exact ⟨ho _ d, z, ne, k _ _ (.inl rfl) e, mA, ⟨od, es, ep, k _ _ (.inr d) e2, c⟩, r⟩
  | own y => obtain ⟨ob, e⟩ := x; exact ⟨ob, k _ _ (.inl rfl) e⟩
  | xd fs => obtain ⟨mA, ⟨od, es, ep, e, c⟩, r⟩ := x; exact ⟨mA, ⟨od, es, ep, k _ _ (.inl rfl) e, c⟩, r⟩
  | rng lo hi => obtain ⟨t, u, v, e⟩ := x; exact ⟨t, u, v, k _ _ (.inl rfl) e⟩
  | frz ob u ih => obtain ⟨e, q⟩ := x; exact ⟨k _ _ (.inl rfl) e, ih q⟩
  | tbl ps =>
    have e : h.get? a = some { cls := .none, data := .fields ps } := x
    show h'.get? a = some { cls := .none, data := .fields ps }
    exact k a _ (.inl rfl) e
  | met f y =>
    have e : h.get? a = some (PySem.W.methodObj (.ref f) (.ref y)) := x
    show h'.get? a = some (PySem.W.methodObj (.ref f) (.ref y))
    exact k a _ (.inl rfl) e
  | ext φ => obtain ⟨p, ⟨o, e⟩, st⟩ := x; exact ⟨st _ _ p fun o q => k _ _ (.inl rfl) q, ⟨o, k _ _ (.inl rfl) e⟩, st⟩
theorem HOk.lt (x : HOk P w H h) (e : H a = some o) : a < h.objs.size := (x a o e).lt
theorem HOk.fresh (x : HOk P w H h) (e : h.objs.size ≤ a) : H a = none := by
  cases q : H a with
  | none => rfl
  | some u => exact absurd (Nat.lt_of_lt_of_le (x.lt q) e) (Nat.lt_irrefl _)
theorem HOk.kept (x : HOk P w H h) (k : ∀ b u, h.get? b = some u → h'.get? b = some u) : HOk P w H h' := fun a o e =>
  (x a o e).stay (fun b u _ q => k b u q) (fun _ q => q) fun _ _ q => q
theorem HOk.laid (x : HOk P w H h) (k : ∀ b u, h.get? b = some u → h'.get? b = some u) (hp : h.objs.size ≤ a) (new : ObjOk P w (upd H a o) h' a o) : HOk P w (upd H a o) h' := fun b u e => by
  have hn := x.fresh hp
  by_cases hb : b = a
  · subst hb; rw [upd_same] at e; cases e; exact new
  · rw [upd_ne hb] at e
    exact (x b u e).stay (fun c v _ q => k c v q) (fun c q => by rw [upd_ne (ne_of_none q hn)]; exact q) fun c xs q => by rw [upd_ne (ne_of_none q hn)]; exact q
end
def Rd (H : Hp) (a : Addr) (u : HO) : Prop := H a = some u ∨ ∃ o, H a = some (.frz o u)
theorem Rd.of {H : Hp} {a : Addr} {u : HO} (h : H a = some u) : Rd H a u := .inl h
theorem Rd.ok {P : Program} {w : World} {H : Hp} {h : Heap} {a : Addr} {u : HO} (r : Rd H a u) (x : HOk P w H h) : ObjOk P w H h a u := by
  rcases r with r | ⟨o, r⟩
  · exact x a u r
  · obtain ⟨_, q⟩ := x a _ r
    exact q
def Mut : Option HO → Prop
  | some (.lst _) => True
  | some (.dK _) => True
  | some (.dT _) => True
  | some (.set _ _) => True
  | some (.ins _ _ _) => True
  | some (.ext _) => True
  | _ => False
section
variable {P : Program} {w : World} {H : Hp} {h h' : Heap} {x e : Addr} {o' : HO}
theorem HOk.write (ok : HOk P w H h) (mu : Mut (H x)) (he : e = x ∨ H e = some (.own x)) (k : ∀ b u, b ≠ e → h.get? b = some u → h'.get? b = some u) (heo : ∃ u, h'.get? e = some u)
    (new : ObjOk P w (upd H x o') h' x o') : HOk P w (upd H x o') h' := fun b u q => by
  have nown : ∀ c y, H c = some (.own y) → c ≠ x := fun c y r z => by subst z; rw [r] at mu; exact mu
  have ntup : ∀ c xs, H c = some (.tup xs) → c ≠ x := fun c xs r z => by subst z; rw [r] at mu; exact mu
  by_cases hb : b = x
  · subst hb; rw [upd_same] at q; cases q; exact new
  · rw [upd_ne hb] at q
    by_cases hbe : b = e
    · have q' : H b = some (.own x) := by
        rcases he with z | z
        · exact absurd (hbe.trans z) hb
        · rw [hbe]; exact z
      rw [q] at q'; cases q'
      obtain ⟨v, hv⟩ := heo
      exact ⟨v, by rw [hbe]; exact hv⟩
    · refine (ok b u q).stay (fun c v hc r => k c v ?_ r) (fun c r => by rw [upd_ne (nown c b r)]; exact r) fun c xs r => by rw [upd_ne (ntup c xs r)]; exact r
      rcases hc with rfl | hc
      · exact hbe
      · rintro rfl
        rcases he with z | z
        · exact nown c b hc z
        · rw [hc] at z; cases z; exact hb rfl
end
structure Un (fs ex : List Addr) (H H' : Hp) (h h' : Heap) : Prop where
  keep : ∀ b o, h.get? b = some o → H b = none → b ∉ fs → b ∉ ex → h'.get? b = some o
  slot : ∀ b o, h.get? b = some o → H b = none → b ∈ fs → b ∉ ex → ∃ sl, h'.get? b = some { o with slots := sl }
  free : ∀ b o, h.get? b = some o → H b = none → b ∉ ex → H' b = none
  there : ∀ b o, h.get? b = some o → b ∉ ex → ∃ o', h'.get? b = some o'
  tups : ∀ b xs, H b = some (.tup xs) → H' b = some (.tup xs)
  frzs : ∀ b o u, H b = some (.frz o u) → H' b = some (.frz o u)
  tbls : ∀ b ps, H b = some (.tbl ps) → ∃ more, H' b = some (.tbl (ps ++ more))
section
variable {fs fs' ex ex' : List Addr} {H H1 H2 : Hp} {h h1 h2 h' : Heap} {a x e : Addr} {o : HO}
theorem Un.any (u : Un fs ex H H1 h h1) {b : Addr} {ob : Obj} (q : h.get? b = some ob) (n : H b = none) (hx : b ∉ ex) : ∃ sl, h1.get? b = some { ob with slots := sl } := by
  by_cases hb : b ∈ fs
  · exact u.slot b ob q n hb hx
  · exact ⟨ob.slots, u.keep b ob q n hb hx⟩
theorem Un.trans (a : Un fs ex H H1 h h1) (b : Un fs ex H1 H2 h1 h2) : Un fs ex H H2 h h2 where
  keep := fun c ob q n hc hx => b.keep c ob (a.keep c ob q n hc hx) (a.free c ob q n hx) hc hx
  slot := fun c ob q n hc hx => by
    obtain ⟨sl, e1⟩ := a.slot c ob q n hc hx
    obtain ⟨sl', e2⟩ := b.slot c _ e1 (a.free c ob q n hx) hc hx
    exact ⟨sl', e2⟩
  free := fun c ob q n hx => by
    obtain ⟨o', e1⟩ := a.there c ob q hx
    exact b.free c o' e1 (a.free c ob q n hx) hx
  there := fun c ob q hx => by
    obtain ⟨o', e1⟩ := a.there c ob q hx
    exact b.there c o' e1 hx
  tups := fun c xs q => b.tups c xs (a.tups c xs q)
  frzs := fun c ob xs q => b.frzs c ob xs (a.frzs c ob xs q)
  tbls := fun c ps q => by
    obtain ⟨m1, e1⟩ := a.tbls c ps q
    obtain ⟨m2, e2⟩ := b.tbls c _ e1
    exact ⟨m1 ++ m2, by rw [e2, Array.append_assoc]⟩
theorem Un.kept (k : ∀ b u, h.get? b = some u → h'.get? b = some u) : Un fs ex H H h h' :=
  ⟨fun b ob q _ _ _ => k b ob q, fun b ob q _ _ _ => ⟨ob.slots, k b ob q⟩, fun _ _ _ n _ => n, fun b ob q _ => ⟨ob, k b ob q⟩, fun _ _ q => q, fun _ _ _ q => q, fun _ ps q => ⟨#[], by rw [q]; simp⟩⟩
theorem Un.refl : Un fs ex H H h h := Un.kept fun _ _ q => q
theorem Un.laid (k : ∀ b u, h.get? b = some u → h'.get? b = some u) (hp : h.objs.size ≤ a) (hn : H a = none) : Un fs ex H (upd H a o) h h' where
  keep := fun b u q _ _ _ => k b u q
  slot := fun b u q _ _ _ => ⟨u.slots, k b u q⟩
  free := fun b u q n _ => by rw [upd_ne (Nat.ne_of_lt (Nat.lt_of_lt_of_le (Heap.lt_size q) hp))]; exact n
  there := fun b u q _ => ⟨u, k b u q⟩
  tups := fun b xs q => by rw [upd_ne (ne_of_none q hn)]; exact q
  frzs := fun b u xs q => by rw [upd_ne (ne_of_none q hn)]; exact q
  tbls := fun b ps q => ⟨#[], by rw [upd_ne (ne_of_none q hn), q]; simp⟩
theorem Un.write (mu : Mut (H x)) (he : e = x ∨ H e = some (.own x)) (k : ∀ b u, b ≠ e → h.get? b = some u → h'.get? b = some u) (heo : ∃ u, h'.get? e = some u) : Un fs ex H (upd H x o) h h' := by
  have hx : ∀ b, H b = none → b ≠ x := fun b n z => by subst z; rw [n] at mu; exact mu
  have hb : ∀ b, H b = none → b ≠ e := fun b n z => by
    subst z
    rcases he with r | r
    · exact hx b n r
    · rw [n] at r; cases r
  have hm : ∀ b u, H b = some u → ¬ Mut (some u) → b ≠ x := fun b u q nm z => by subst z; rw [q] at mu; exact nm mu
  refine ⟨fun b u q n _ _ => k b u (hb b n) q, fun b u q n _ _ => ⟨u.slots, k b u (hb b n) q⟩, fun b u q n _ => by rw [upd_ne (hx b n)]; exact n, fun b u q _ => ?_,
    fun b xs q => by rw [upd_ne (hm b _ q fun z => z)]; exact q, fun b u xs q => by rw [upd_ne (hm b _ q fun z => z)]; exact q, fun b ps q => ⟨#[], by rw [upd_ne (hm b _ q fun z => z), q]; simp⟩⟩
  by_cases hbe : b = e
  · subst hbe; exact heo
  · exact ⟨u, k b u hbe q⟩
end
def trk (h : Heap) (H : Hp) : List Addr := (List.range h.objs.size).filter fun a => (H a).isSome
def hidT (h : Heap) (H : Hp) : Heap := PySem.W.hideAll h (trk h H)
theorem hidT_size (h : Heap) (H : Hp) : (hidT h H).objs.size = h.objs.size := PySem.W.hideAll_size _ _
theorem hidT_get {h : Heap} {H : Hp} {b : Addr} {o : Obj} (e : h.get? b = some o) (n : H b = none) : (hidT h H).get? b = some o :=
  PySem.W.hideAll_get _ e fun hm => by
    have q : (H b).isSome = true := (List.mem_filter.mp hm).2
    rw [n] at q; simp at q
theorem of_hidT {h : Heap} {H : Hp} {b : Addr} {o : Obj} (e : (hidT h H).get? b = some o) : h.get? b = some o ∧ H b = none := by
  have e' : h.get? b = some o := PySem.W.of_hideAll (trk h H) e
  refine ⟨e', ?_⟩
  cases q : H b with
  | none => rfl
  | some x =>
    have hm : b ∈ trk h H := List.mem_filter.mpr ⟨List.mem_range.mpr (Heap.lt_size e'), by simp [q]⟩
    have z : (hidT h H).get? b = none := PySem.W.hideAll_none (trk h H) hm
    rw [z] at e; cases e
end L2
namespace L2
open PySem PySem.Spec PyProof.Rows
structure Mod (K : PySem.W.Frag) (mg : Str → Option Value) (base : Heap) : Prop where
  kin : K.In base
  glob : base.Ns mainGlobals mg
  blt : ∃ mb, base.Ns builtinsNs mb ∧ ∀ x : Str, x ≠ "__name__" → mb x = bootBuiltins x
  nolimit : base.NoLimit
structure Cx where
  prog : Program
  w : World
  K : PySem.W.Frag
  mg : Str → Option Value
  base : Heap
  A : Around
  N : List Str
  s₀ : Shared
  H₀ : Hp
  env : Env
  outer : List Env
  stack : List Env
  ex : List Addr
  fn : Str → Bool
  calm : Bool
  pn : List (Addr × Obj)
  xe : Value → Shared → Prop
def frs (l : List Env) : List Addr := l.filterMap (·.frame)
abbrev Cx.fs (X : Cx) : List Addr := frs X.outer
def Vis (sc : Scope) (x : Str) : Prop := sc.names.lookup x = some .local ∨ sc.names.lookup x = some .cell ∨ sc.names.lookup x = some .free
def Loc (sc : Scope) (x : Str) : Prop := sc.names.lookup x = some .local ∨ sc.names.lookup x = some .cell
def Look (env : Env) (h : Heap) (m : Str → Option Value) (x : Str) (u : Value) : Prop :=
  (env.kindOf x = some .local ∧ m x = some u) ∨ ((env.kindOf x = some .cell ∨ env.kindOf x = some .free) ∧ ∃ c, env.cells.lookup x = some c ∧ h.IsCell c (some u))
structure Cx.Ok (X : Cx) : Prop where
  mod : Mod X.K X.mg X.base
  kind : X.env.scope.kind = .function
  glob : X.env.globals = mainGlobals
  blt : X.env.builtins = builtinsNs
  above : X.s₀.heap.objs.size ≤ X.env.locals
  inj : ∀ x y c, X.env.cells.lookup x = some c → X.env.cells.lookup y = some c → x = y
  has : ∀ x, (X.env.kindOf x = some .cell ∨ X.env.kindOf x = some .free) → ∃ c, X.env.cells.lookup x = some c
  cab : ∀ x c, X.fn x = true → X.env.cells.lookup x = some c → X.s₀.heap.objs.size ≤ c
  hd : X.calm = true → X.A.handled = none
  frames : X.A.frames = some X.stack
  stk : X.stack = X.outer ∨ (X.stack = X.env :: X.outer ∧ X.env.frame = some X.env.locals)
  exf : ∀ b ∈ X.ex, b ≠ X.env.locals ∧ ∀ x c, X.env.cells.lookup x = some c → c ≠ b
  bs : ∀ b o, X.base.get? b = some o → X.s₀.heap.get? b = some o ∧ X.H₀ b = none
  bsz : X.base.objs.size ≤ X.s₀.heap.objs.size
  noex : ∀ b o, X.base.get? b = some o → b ∉ X.ex
  exfs : ∀ b ∈ X.ex, b ∉ X.fs
  funs : X.s₀.heap.FunFrames X.base X.outer
  frf : ∀ b ∈ X.fs, X.H₀ b = none
structure Inv (X : Cx) (pins : List (Addr × Obj)) (σ : List (Option V)) (H : Hp) (s : Shared) : Prop where
  ok : X.Ok
  os : s.os = X.s₀.os
  bare : AllBare s.gens
  base : Un X.fs X.ex X.H₀ H X.s₀.heap s.heap
  loc : ∃ m, s.heap.Ns X.env.locals m ∧ ∀ (i : Nat) (x : Str) (v : V), X.N[i]? = some x → σ[i]? = some (some v) → Vis X.env.scope x → ∃ u, RelV v u ∧ Look X.env s.heap m x u
  cell : ∀ x c, X.env.cells.lookup x = some c → ∃ v, s.heap.IsCell c v
  free : H X.env.locals = none
  freeC : ∀ x c, X.env.cells.lookup x = some c → H c = none
  pin : ∀ p ∈ X.pn ++ pins, s.heap.get? p.1 = some p.2 ∧ H p.1 = none ∧ p.1 ≠ X.env.locals ∧ p.1 ∉ X.fs ∧ ∀ v, p.2.data ≠ .cell v
  hok : HOk X.prog X.w H s.heap
  len : σ.length = X.N.length
section
variable {X : Cx} {pins : List (Addr × Obj)} {σ : List (Option V)} {H H' : Hp} {s : Shared} {h' : Heap}
theorem Cx.Ok.nofr (ok : X.Ok) {b : Addr} {o : Obj} (e : X.base.get? b = some o) : b ∉ X.fs := fun hb => by
  have := (ok.funs.mem hb).1
  rw [e] at this; cases this
theorem Inv.bs (I : Inv X pins σ H s) : ∀ b o, X.base.get? b = some o → s.heap.get? b = some o ∧ H b = none := fun b o e =>
  ⟨I.base.keep b o (I.ok.bs b o e).1 (I.ok.bs b o e).2 (I.ok.nofr e) (I.ok.noex b o e), I.base.free b o (I.ok.bs b o e).1 (I.ok.bs b o e).2 (I.ok.noex b o e)⟩
theorem Inv.bk (I : Inv X pins σ H s) : ∀ b o, X.base.get? b = some o → s.heap.get? b = some o := fun b o e => (I.bs b o e).1
theorem Inv.mod (I : Inv X pins σ H s) : Mod X.K X.mg X.base := I.ok.mod
theorem Inv.kIn (I : Inv X pins σ H s) : X.K.In s.heap := I.ok.mod.kin.keeps I.bk
theorem Inv.lt (I : Inv X pins σ H s) : X.env.locals < s.heap.objs.size := let ⟨_, hn, _⟩ := I.loc; hn.lt
theorem Inv.sz (I : Inv X pins σ H s) : X.s₀.heap.objs.size ≤ s.heap.objs.size := Nat.le_trans I.ok.above (Nat.le_of_lt I.lt)
theorem Inv.nofs (I : Inv X pins σ H s) {a : Addr} (h : s.heap.objs.size ≤ a) : a ∉ X.fs := fun hb => by
  obtain ⟨_, o, ho, _⟩ := I.ok.funs.mem hb
  exact absurd (Nat.lt_of_lt_of_le (Heap.lt_size ho) (Nat.le_trans I.sz h)) (Nat.lt_irrefl _)
theorem Inv.cne (I : Inv X pins σ H s) : ∀ x c, X.env.cells.lookup x = some c → c ≠ X.env.locals := fun x c e z => by
  obtain ⟨v, o, ho, hd⟩ := I.cell x c e
  obtain ⟨m, ⟨o', es, ep, ho', hd', _⟩, _⟩ := I.loc
  rw [z, ho'] at ho; cases ho; rw [hd'] at hd; cases hd
theorem Inv.funs (I : Inv X pins σ H s) : s.heap.FunFrames X.base X.outer := by
  have all : ∀ (l : List Env), (∀ b ∈ frs l, b ∈ X.fs) → X.s₀.heap.FunFrames X.base l → s.heap.FunFrames X.base l := by
    intro l
    induction l with
    | nil => intro _ _; trivial
    | cons env r ih =>
      intro hs hl
      obtain ⟨hk, ⟨L, o, hf, hn, ho, hd⟩, hr⟩ := hl
      have hL : L ∈ X.fs := hs L (by unfold frs; rw [List.filterMap_cons, hf]; exact List.mem_cons_self)
      obtain ⟨sl, e⟩ := I.base.slot L o ho (I.ok.frf L hL) hL fun z => I.ok.exfs L z hL
      exact ⟨hk, ⟨L, _, hf, hn, e, hd⟩, ih (fun b hb => hs b (by unfold frs; rw [List.filterMap_cons, hf]; exact List.mem_cons_of_mem _ hb)) hr⟩
  exact all X.outer (fun _ hb => hb) I.ok.funs
theorem Inv.stack (I : Inv X pins σ H s) : s.heap.FunFrames X.base X.stack := by
  rcases I.ok.stk with e | ⟨e, hf⟩
  · rw [e]; exact I.funs
  · rw [e]
    obtain ⟨m, hn, _⟩ := I.loc
    refine .cons (by rw [I.ok.kind]; decide) hf hn ?_ I.funs
    exact Heap.get?_none_of_le (Nat.le_trans I.ok.bsz I.ok.above)
theorem Inv.stkSub (I : Inv X pins σ H s) : ∀ b ∈ frs X.stack, b ∈ X.env.locals :: X.fs := fun b hb => by
  rcases I.ok.stk with e | ⟨e, hf⟩
  · rw [e] at hb; exact List.mem_cons_of_mem _ hb
  · rw [e] at hb
    unfold frs at hb
    rw [List.filterMap_cons, hf] at hb
    exact hb
theorem Inv.stkFree (I : Inv X pins σ H s) : ∀ b ∈ frs X.stack, H b = none := fun b hb => by
  rcases List.mem_cons.mp (I.stkSub b hb) with e | hb
  · rw [e]; exact I.free
  · obtain ⟨_, o, ho, _⟩ := I.ok.funs.mem hb
    exact I.base.free b o ho (I.ok.frf b hb) fun z => I.ok.exfs b z hb
theorem Inv.step {g' : Array GenState} {t' : Nat} {d' : Drawn} {ch : List Addr} (I : Inv X pins σ H s)
    (hch : ∀ b ∈ ch, (b ∈ X.ex ∨ X.s₀.heap.objs.size ≤ b) ∧ b ≠ X.env.locals ∧ (∀ x c, X.env.cells.lookup x = some c → c ≠ b) ∧ ∀ p ∈ X.pn ++ pins, p.1 ≠ b)
    (keep : ∀ b o, b ≠ X.env.locals → b ∉ X.fs → b ∉ ch → s.heap.get? b = some o → H b = none → h'.get? b = some o)
    (slot : ∀ b o, b ≠ X.env.locals → b ∈ X.fs → b ∉ ch → s.heap.get? b = some o → H b = none → ∃ sl, h'.get? b = some { o with slots := sl }) (free : ∀ b o, b ∉ ch → s.heap.get? b = some o → H b = none → H' b = none)
    (there : ∀ b o, b ∉ ch → s.heap.get? b = some o → ∃ o', h'.get? b = some o')
    (tups : ∀ b xs, H b = some (.tup xs) → H' b = some (.tup xs)) (frzs : ∀ b o u, H b = some (.frz o u) → H' b = some (.frz o u)) (tbls : ∀ b ps, H b = some (.tbl ps) → ∃ more, H' b = some (.tbl (ps ++ more)))
    (ns : ∀ m, s.heap.Ns X.env.locals m → h'.Ns X.env.locals m) (hok : HOk X.prog X.w H' h') (hg : AllBare g') :
    Inv X pins σ H' { s with heap := h', gens := g', drawn := d', toks := t' } := by
  have neL : ∀ b o, X.s₀.heap.get? b = some o → b ≠ X.env.locals := fun b o e => Nat.ne_of_lt (Nat.lt_of_lt_of_le (Heap.lt_size e) I.ok.above)
  have neC : ∀ b o, X.s₀.heap.get? b = some o → b ∉ X.ex → b ∉ ch := fun b o e hx hb => by
    rcases (hch b hb).1 with z | z
    · exact hx z
    · exact absurd (Nat.lt_of_lt_of_le (Heap.lt_size e) z) (Nat.lt_irrefl _)
  have cellK : ∀ x c, X.env.cells.lookup x = some c → ∀ v, s.heap.IsCell c v → h'.IsCell c v := fun x c e v ⟨o, ho, hd⟩ => by
    have nch : c ∉ ch := fun z => (hch c z).2.2.1 x c e rfl
    by_cases hc : c ∈ X.fs
    · obtain ⟨sl, q⟩ := slot c o (I.cne x c e) hc nch ho (I.freeC x c e)
      exact ⟨_, q, hd⟩
    · exact ⟨o, keep c o (I.cne x c e) hc nch ho (I.freeC x c e), hd⟩
  refine ⟨I.ok, I.os, hg, ⟨fun b o e n hb hx => ?_, fun b o e n hb hx => ?_, fun b o e n hx => ?_, fun b o e hx => ?_, fun b xs e => tups b xs (I.base.tups b xs e), fun b o xs e => frzs b o xs (I.base.frzs b o xs e), fun b ps e => ?_⟩, ?_, fun x c e => ?_, ?_, fun x c e => ?_, fun p hp => ?_, hok, I.len⟩
  · exact keep b o (neL b o e) hb (neC b o e hx) (I.base.keep b o e n hb hx) (I.base.free b o e n hx)
  · obtain ⟨sl, e1⟩ := I.base.slot b o e n hb hx
    obtain ⟨sl', e2⟩ := slot b _ (neL b o e) hb (neC b o e hx) e1 (I.base.free b o e n hx)
    exact ⟨sl', e2⟩
  · obtain ⟨o', e1⟩ := I.base.there b o e hx
    exact free b o' (neC b o e hx) e1 (I.base.free b o e n hx)
  · obtain ⟨o', e1⟩ := I.base.there b o e hx
    exact there b o' (neC b o e hx) e1
  · obtain ⟨m1, e1⟩ := I.base.tbls b ps e
    obtain ⟨m2, e2⟩ := tbls b _ e1
    exact ⟨m1 ++ m2, by rw [e2, Array.append_assoc]⟩
  · obtain ⟨m, hn, hl⟩ := I.loc
    refine ⟨m, ns m hn, fun i x v e1 e2 e3 => ?_⟩
    obtain ⟨u, r, l⟩ := hl i x v e1 e2 e3
    refine ⟨u, r, ?_⟩
    rcases l with l | ⟨k, c, e, z⟩
    · exact .inl l
    · exact .inr ⟨k, c, e, cellK x c e _ z⟩
  · obtain ⟨v, z⟩ := I.cell x c e
    exact ⟨v, cellK x c e v z⟩
  · obtain ⟨m, ⟨o, _, _, ho, _⟩, _⟩ := I.loc
    exact free _ o (fun z => (hch _ z).2.1 rfl) ho I.free
  · obtain ⟨v, o, ho, hd⟩ := I.cell x c e
    exact free c o (fun z => (hch c z).2.2.1 x c e rfl) ho (I.freeC x c e)
  · obtain ⟨e, n, ne, nf, d⟩ := I.pin p hp
    have nch : p.1 ∉ ch := fun z => (hch p.1 z).2.2.2 p hp rfl
    exact ⟨keep p.1 p.2 ne nf nch e n, free p.1 p.2 nch e n, ne, nf, d⟩
theorem Inv.un {t' : Nat} (I : Inv X pins σ H s) (u : Un X.fs [] H H' s.heap h') (hok : HOk X.prog X.w H' h') : Inv X pins σ H' { s with heap := h', toks := t' } := by
  obtain ⟨m, ⟨o, es, ep, ho, r⟩, _⟩ := id I.loc
  obtain ⟨sl, hL⟩ := u.any ho I.free (by simp)
  exact I.step (g' := s.gens) (d' := s.drawn) (ch := []) (fun _ z => nomatch z) (fun b o _ hb _ e n => u.keep b o e n hb (by simp)) (fun b o _ hb _ e n => u.slot b o e n hb (by simp)) (fun b o _ e n => u.free b o e n (by simp)) (fun b o _ e => u.there b o e (by simp)) u.tups u.frzs u.tbls (fun m' hm => by
    obtain ⟨o', es', ep', ho', r'⟩ := hm
    rw [ho] at ho'; cases ho'
    exact ⟨_, es', ep', hL, r'⟩) hok I.bare
theorem Inv.call {g' : Array GenState} {t' : Nat} {d' : Drawn} {ch : List Addr} (I : Inv X pins σ H s) (u : Un (frs X.stack) ch H H' s.heap h') (hok : HOk X.prog X.w H' h') (hg : AllBare g')
    (hch : ∀ b ∈ ch, (b ∈ X.ex ∨ X.s₀.heap.objs.size ≤ b) ∧ b ≠ X.env.locals ∧ (∀ x c, X.env.cells.lookup x = some c → c ≠ b) ∧ ∀ p ∈ X.pn ++ pins, p.1 ≠ b) :
    Inv X pins σ H' { s with heap := h', gens := g', drawn := d', toks := t' } := by
  obtain ⟨m, ⟨o, es, ep, ho, r⟩, _⟩ := id I.loc
  obtain ⟨sl, hL⟩ := u.any ho I.free fun z => (hch _ z).2.1 rfl
  exact I.step (ch := ch) hch (fun b o hL hb hc e n => u.keep b o e n (fun z => (List.mem_cons.mp (I.stkSub b z)).elim hL hb) hc) (fun b o _ _ hc e n => u.any e n hc) (fun b o hc e n => u.free b o e n hc) (fun b o hc e => u.there b o e hc) u.tups u.frzs u.tbls (fun m' hm => by
    obtain ⟨o', es', ep', ho', r'⟩ := hm
    rw [ho] at ho'; cases ho'
    exact ⟨_, es', ep', hL, r'⟩) hok hg
theorem Inv.turned {t' : Nat} {it : Addr} (I : Inv X pins σ H s) (k : ∀ b o, b ≠ it → s.heap.get? b = some o → h'.get? b = some o) (hn : H it = none) (hL : it ≠ X.env.locals)
    (h1 : it ∈ X.ex ∨ X.s₀.heap.objs.size ≤ it) (h2 : ∀ x c, X.env.cells.lookup x = some c → c ≠ it) (h3 : ∀ p ∈ X.pn ++ pins, p.1 ≠ it) : Inv X pins σ H { s with heap := h', toks := t' } := by
  have nit : ∀ b u, H b = some u → b ≠ it := fun b u e z => by rw [z, hn] at e; cases e
  refine I.step (g' := s.gens) (d' := s.drawn) (ch := [it]) (fun b hb => ?_) (fun b o _ _ hc e _ => k b o (fun z => hc (by simp [z])) e) (fun b o _ _ hc e _ => ⟨o.slots, k b o (fun z => hc (by simp [z])) e⟩) (fun _ _ _ _ n => n)
    (fun b o hc e => ⟨o, k b o (fun z => hc (by simp [z])) e⟩) (fun _ _ e => e) (fun _ _ _ e => e) (fun b ps e => ⟨#[], by rw [e]; simp⟩) (fun m hm => ?_) (fun b u e => ?_) I.bare
  · have e : b = it := by simpa using hb
    subst e
    exact ⟨h1, hL, h2, h3⟩
  · obtain ⟨o, es, ep, ho, r⟩ := hm
    exact ⟨o, es, ep, k _ o (Ne.symm hL) ho, r⟩
  · refine (I.hok b u e).stay (fun c v hc q => k c v ?_ q) (fun _ q => q) fun _ _ q => q
    rcases hc with z | z
    · rw [z]; exact nit b u e
    · exact nit c _ z
theorem Inv.tok (I : Inv X pins σ H s) (t : Nat) : Inv X pins σ H { s with toks := t } := I.un (h' := s.heap) (t' := t) Un.refl I.hok
theorem Inv.kept {t' : Nat} (I : Inv X pins σ H s) (k : ∀ b u, s.heap.get? b = some u → h'.get? b = some u) : Inv X pins σ H { s with heap := h', toks := t' } := I.un (Un.kept k) (I.hok.kept k)
theorem Inv.laid {a : Addr} {o : HO} {t' : Nat} (I : Inv X pins σ H s) (k : ∀ b u, s.heap.get? b = some u → h'.get? b = some u) (hp : s.heap.objs.size ≤ a) (new : ObjOk X.prog X.w (upd H a o) h' a o) :
    Inv X pins σ (upd H a o) { s with heap := h', toks := t' } := I.un (Un.laid k hp (I.hok.fresh hp)) (I.hok.laid k hp new)
theorem Inv.write {x e : Addr} {o : HO} {t' : Nat} (I : Inv X pins σ H s) (mu : Mut (H x)) (he : e = x ∨ H e = some (.own x)) (k : ∀ b u, b ≠ e → s.heap.get? b = some u → h'.get? b = some u) (heo : ∃ u, h'.get? e = some u)
    (new : ObjOk X.prog X.w (upd H x o) h' x o) : Inv X pins σ (upd H x o) { s with heap := h', toks := t' } := I.un (Un.write mu he k heo) (I.hok.write mu he k heo new)
theorem Inv.weak {σ' : List (Option V)} (I : Inv X pins σ H s) (hl : σ'.length = σ.length) (w : ∀ (i : Nat) v, σ'[i]? = some (some v) → σ[i]? = some (some v)) : Inv X pins σ' H s :=
  ⟨I.ok, I.os, I.bare, I.base, let ⟨m, hn, hl'⟩ := I.loc; ⟨m, hn, fun i x v e1 e2 e3 => hl' i x v e1 (w i v e2) e3⟩, I.cell, I.free, I.freeC, I.pin, I.hok, hl.trans I.len⟩
theorem Inv.pins_of {pins' : List (Addr × Obj)} (I : Inv X pins σ H s) (h : ∀ p ∈ pins', s.heap.get? p.1 = some p.2 ∧ H p.1 = none ∧ p.1 ≠ X.env.locals ∧ p.1 ∉ X.fs ∧ ∀ v, p.2.data ≠ .cell v) : Inv X pins' σ H s :=
  ⟨I.ok, I.os, I.bare, I.base, I.loc, I.cell, I.free, I.freeC, fun p hp => (List.mem_append.mp hp).elim (fun z => I.pin p (List.mem_append_left _ z)) (h p), I.hok, I.len⟩
theorem nodup_ix {N : List Str} (hN : N.Nodup) {i j : Nat} {x : Str} (a : N[i]? = some x) (b : N[j]? = some x) : i = j := by
  obtain ⟨h1, e1⟩ := List.getElem?_eq_some_iff.mp a
  obtain ⟨h2, e2⟩ := List.getElem?_eq_some_iff.mp b
  exact (List.getElem_inj hN).mp (e1.trans e2.symm)
theorem store_ok2 {M : Model} {A : Around} {E : Value → Shared → Prop} {i : Nat} {x : Str} {v : V} {u : Value} {Q : Unit → Shared → Prop} (I : Inv X pins σ H s) (hN : X.N.Nodup) (hi : X.N[i]? = some x) (hx : Loc X.env.scope x) (r : RelV v u)
    (h : ∀ s', Inv X pins (σ.set i (some v)) H s' → (∃ a, Heap.SameBut a s.heap s'.heap ∧ (a = X.env.locals ∨ X.env.cells.lookup x = some a)) → Q () s') (hf : X.fn x = true ∨ X.env.scope.names.lookup x = some .local := by first | exact .inl rfl | exact .inr rfl | assumption) : wpAny M A (storeName X.env x u) Q E s := by
  obtain ⟨m, hn, hl⟩ := id I.loc
  have hcls : (X.env.scope.kind == .class || (X.env.scope.kind == .module && X.env.locals != X.env.globals)) = false := by rw [I.ok.kind]; rfl
  have hiσ : i < σ.length := by rw [I.len]; exact (List.getElem?_eq_some_iff.mp hi).1
  have cne := I.cne
  have tracked : ∀ {a : Addr} {h' : Heap}, (∃ o, s.heap.get? a = some o ∧ H a = none) → Heap.SameBut a s.heap h' → HOk X.prog X.w H h' := fun {a h'} ha hs b ob e => by
    obtain ⟨_, _, hfree⟩ := ha
    refine (I.hok b ob e).stay (fun c w' hc q => (hs.2 c ?_).trans q) (fun _ q => q) fun _ _ q => q
    rintro rfl
    rcases hc with rfl | hc
    · rw [hfree] at e; cases e
    · rw [hfree] at hc; cases hc
  rcases hx with hk | hk
  · refine wpAny_storeName_local hk hn (fun h' hn' hs => ?_) hcls
    obtain ⟨oL, _, _, hoL, _⟩ := id hn
    refine h _ ⟨I.ok, I.os, I.bare, ⟨fun b o e n hb hx => ?_, fun b o e n hb hx => ?_, I.base.free, fun b o e hx => ?_, I.base.tups, I.base.frzs, I.base.tbls⟩, ⟨_, hn', fun j y v' e1 e2 e3 => ?_⟩, fun y c e => ?_, I.free, I.freeC, fun p hp => ?_, tracked ⟨oL, hoL, I.free⟩ hs, by simpa using I.len⟩ ⟨_, hs, .inl rfl⟩
    · exact (hs.2 b (Nat.ne_of_lt (Nat.lt_of_lt_of_le (Heap.lt_size e) I.ok.above))).trans (I.base.keep b o e n hb hx)
    · obtain ⟨sl, e1⟩ := I.base.slot b o e n hb hx
      exact ⟨sl, (hs.2 b (Nat.ne_of_lt (Nat.lt_of_lt_of_le (Heap.lt_size e) I.ok.above))).trans e1⟩
    · obtain ⟨o', e1⟩ := I.base.there b o e hx
      exact ⟨o', (hs.2 b (Nat.ne_of_lt (Nat.lt_of_lt_of_le (Heap.lt_size e) I.ok.above))).trans e1⟩
    · by_cases hj : j = i
      · subst hj
        rw [hi] at e1; cases e1
        rw [List.getElem?_set_self hiσ] at e2
        cases e2
        exact ⟨u, r, .inl ⟨hk, by simp⟩⟩
      · rw [List.getElem?_set_ne (Ne.symm hj)] at e2
        obtain ⟨u', r', q⟩ := hl j y v' e1 e2 e3
        refine ⟨u', r', ?_⟩
        rcases q with ⟨k, e⟩ | ⟨k, c, e, z⟩
        · refine .inl ⟨k, ?_⟩
          have : y ≠ x := fun e => hj (nodup_ix hN e1 (e ▸ hi))
          simp [this, e]
        · exact .inr ⟨k, c, e, z.sameBut hs (cne y c e)⟩
    · obtain ⟨w', z⟩ := I.cell y c e
      exact ⟨w', z.sameBut hs (cne y c e)⟩
    · obtain ⟨e, n, ne, nf, d⟩ := I.pin p hp
      exact ⟨(hs.2 p.1 ne).trans e, n, ne, nf, d⟩
  · have hfn : X.fn x = true := by
      rcases hf with z | z
      · exact z
      · rw [z] at hk; cases hk
    obtain ⟨c, hc⟩ := I.ok.has x (.inl hk)
    obtain ⟨w', z⟩ := I.cell x c hc
    refine wpAny_storeName_cell I.ok.kind hk hc z (fun h' hc' hs => ?_)
    obtain ⟨oc, hoc, hocd⟩ := id z
    refine h { s with heap := h' } ⟨I.ok, I.os, I.bare, ⟨fun b o e n hb hx => ?_, fun b o e n hb hx => ?_, I.base.free, fun b o e hx => ?_, I.base.tups, I.base.frzs, I.base.tbls⟩, ⟨m, hn.sameBut hs (Ne.symm (cne x c hc)), fun j y v' e1 e2 e3 => ?_⟩, fun y c' e => ?_, I.free, I.freeC, fun p hp => ?_, tracked ⟨oc, hoc, I.freeC x c hc⟩ hs, by simpa using I.len⟩ ⟨c, hs, .inr hc⟩
    · exact (hs.2 b (Nat.ne_of_lt (Nat.lt_of_lt_of_le (Heap.lt_size e) (I.ok.cab x c hfn hc)))).trans (I.base.keep b o e n hb hx)
    · obtain ⟨sl, e1⟩ := I.base.slot b o e n hb hx
      exact ⟨sl, (hs.2 b (Nat.ne_of_lt (Nat.lt_of_lt_of_le (Heap.lt_size e) (I.ok.cab x c hfn hc)))).trans e1⟩
    · obtain ⟨o', e1⟩ := I.base.there b o e hx
      exact ⟨o', (hs.2 b (Nat.ne_of_lt (Nat.lt_of_lt_of_le (Heap.lt_size e) (I.ok.cab x c hfn hc)))).trans e1⟩
    · by_cases hj : j = i
      · subst hj
        rw [hi] at e1; cases e1
        rw [List.getElem?_set_self hiσ] at e2
        cases e2
        exact ⟨u, r, .inr ⟨.inl hk, c, hc, hc'⟩⟩
      · rw [List.getElem?_set_ne (Ne.symm hj)] at e2
        obtain ⟨u', r', q⟩ := hl j y v' e1 e2 e3
        refine ⟨u', r', ?_⟩
        rcases q with q | ⟨k, c', e, z'⟩
        · exact .inl q
        · refine .inr ⟨k, c', e, z'.sameBut hs ?_⟩
          rintro rfl
          exact hj (nodup_ix hN e1 (I.ok.inj _ _ _ e hc ▸ hi))
    · by_cases hcc : c' = c
      · subst hcc; exact ⟨_, hc'⟩
      · obtain ⟨w2, z2⟩ := I.cell y c' e
        exact ⟨w2, z2.sameBut hs hcc⟩
    · obtain ⟨e, n, ne, nf, d⟩ := I.pin p hp
      refine ⟨(hs.2 p.1 ?_).trans e, n, ne, nf, d⟩
      intro q
      rw [q, hoc] at e
      have q' : oc = p.2 := Option.some.inj e
      exact d w' (by rw [← q']; exact hocd)
theorem store_ok {M : Model} {A : Around} {E : Value → Shared → Prop} {i : Nat} {x : Str} {v : V} {u : Value} {Q : Unit → Shared → Prop} (I : Inv X pins σ H s) (hN : X.N.Nodup) (hi : X.N[i]? = some x) (hx : Loc X.env.scope x) (r : RelV v u)
    (h : ∀ s', Inv X pins (σ.set i (some v)) H s' → Q () s') (hf : X.fn x = true ∨ X.env.scope.names.lookup x = some .local := by first | exact .inl rfl | exact .inr rfl | assumption) : wpAny M A (storeName X.env x u) Q E s :=
  store_ok2 I hN hi hx r (fun s' I' _ => h s' I') hf
theorem Inv.call' {s' : Shared} {ch : List Addr} (I : Inv X pins σ H s) (ho : s'.os = s.os) (u : Un (frs X.stack) ch H H' s.heap s'.heap) (hok : HOk X.prog X.w H' s'.heap) (hg : AllBare s'.gens)
    (hch : ∀ b ∈ ch, (b ∈ X.ex ∨ X.s₀.heap.objs.size ≤ b) ∧ b ≠ X.env.locals ∧ (∀ x c, X.env.cells.lookup x = some c → c ≠ b) ∧ ∀ p ∈ X.pn ++ pins, p.1 ≠ b) : Inv X pins σ H' s' := by
  obtain ⟨h', g', d', t', o'⟩ := s'
  have e : o' = s.os := ho
  subst e
  exact I.call (g' := g') (t' := t') (d' := d') u hok hg hch
end
abbrev XK := Value → Option Addr → Hp → Prop
abbrev St := List (Option V)
abbrev VK := V → Hp → Prop
abbrev TE := St → Hp → VK → Prop
abbrev TT := St → Hp → (Bool → Hp → Prop) → Prop
abbrev TA := St → Hp → (List V → Hp → Prop) → Prop
structure Ends where
  nx : St → Hp → Prop
  rt : VK
  bk : St → Hp → Prop := fun _ _ => False
  ct : St → Hp → Prop := fun _ _ => False
abbrev TS := Ends → St → Hp → Prop
def EP (X : Cx) (pins : List (Addr × Obj)) (σ : St) (Q : VK) (u : Value) (s' : Shared) : Prop := ∃ v H', Inv X pins σ H' s' ∧ RelV v u ∧ Q v H'
def TP (X : Cx) (pins : List (Addr × Obj)) (σ : St) (Q : Bool → Hp → Prop) (b : Bool) (s' : Shared) : Prop := ∃ H', Inv X pins σ H' s' ∧ Q b H'
def AP (X : Cx) (pins : List (Addr × Obj)) (σ : St) (Q : List V → Hp → Prop) (us : List Value) (s' : Shared) : Prop := ∃ vs H', Inv X pins σ H' s' ∧ Vals vs us ∧ Q vs H'
def SP (X : Cx) (pins : List (Addr × Obj)) (D : Ends) (f : Flow) (s' : Shared) : Prop :=
  match f with
  | .next => ∃ σ' H', Inv X pins σ' H' s' ∧ D.nx σ' H'
  | .brk => ∃ σ' H', Inv X pins σ' H' s' ∧ D.bk σ' H'
  | .cont => ∃ σ' H', Inv X pins σ' H' s' ∧ D.ct σ' H'
  | .ret u => ∃ v σ' H', Inv X pins σ' H' s' ∧ RelV v u ∧ D.rt v H'
def PE (X : Cx) (e : Expr) (t : TE) : Prop :=
  ∀ (pins : List (Addr × Obj)) (s : Shared) (σ : St) (H : Hp) (Q : VK), Inv X pins σ H s → t σ H Q → wpAny (model X.prog X.w) X.A (eval e X.env) (EP X pins σ Q) X.xe s
def PT (X : Cx) (e : Expr) (t : TT) : Prop :=
  ∀ (pins : List (Addr × Obj)) (s : Shared) (σ : St) (H : Hp) (Q : Bool → Hp → Prop), Inv X pins σ H s → t σ H Q → wpAny (model X.prog X.w) X.A (isTrue e X.env (eval e X.env)) (TP X pins σ Q) X.xe s
def PW (X : Cx) (e : Expr) (t : TT) : Prop :=
  ∀ (whole : Sem Value) (pins : List (Addr × Obj)) (s : Shared) (σ : St) (H : Hp) (Q : Bool → Hp → Prop), Inv X pins σ H s → t σ H Q → wpAny (model X.prog X.w) X.A (isTrue e X.env whole) (TP X pins σ Q) X.xe s
theorem PW.pt {X : Cx} {e : Expr} {t : TT} (h : PW X e t) : PT X e t := h _
def PA (X : Cx) (es : List Expr) (t : TA) : Prop :=
  ∀ (pos : Pos) (pins : List (Addr × Obj)) (s : Shared) (σ : St) (H : Hp) (Q : List V → Hp → Prop), Inv X pins σ H s → t σ H Q → wpAny (model X.prog X.w) X.A (spliced (backTo pos (starEach es X.env))) (AP X pins σ Q) X.xe s
def PS (X : Cx) (st : Stmt) (t : TS) : Prop :=
  ∀ (pins : List (Addr × Obj)) (s : Shared) (σ : St) (H : Hp) (D : Ends), Inv X pins σ H s → t D σ H → wpAny (model X.prog X.w) X.A (exec st X.env) (SP X pins D) X.xe s
def PSs (X : Cx) (st : List Stmt) (t : TS) : Prop :=
  ∀ (pins : List (Addr × Obj)) (s : Shared) (σ : St) (H : Hp) (D : Ends), Inv X pins σ H s → t D σ H → wpAny (model X.prog X.w) X.A (execs st X.env) (SP X pins D) X.xe s
theorem thn {α : Type} {t : Sem α} {Q Q' : α → Shared → Prop} {M : Model} {A : Around} {E : Value → Shared → Prop} {s : Shared} (h : wpAny M A t Q E s) (hQ : ∀ a s, Q a s → Q' a s) : wpAny M A t Q' E s := wpAny_mono h hQ fun _ _ x => x
end L2
namespace L2
open PySem PySem.Spec PyProof.Rows
section
variable {X : Cx}
def tVar (i : Nat) : TE := fun σ H Q => ∃ v, σ[i]? = some (some v) ∧ Q v H
def tC (v : V) : TE := fun _ H Q => Q v H
theorem pe_var {i : Nat} {x : Str} {pos : Pos} (hN : X.N[i]? = some x) (hv : Vis X.env.scope x) (hd : (x == ("__debug__" : Str)) = false := by decide) (hcd : (x == ("__classdict__" : Str)) = false := by decide) : PE X (.Name x pos) (tVar i) := by
  intro pins s σ H Q I h
  obtain ⟨v, e, h⟩ := h
  obtain ⟨m, hn, hl⟩ := I.loc
  obtain ⟨u, r, l⟩ := hl i x v hN e hv
  have fin : EP X pins σ Q u s := ⟨v, H, I, r, h⟩
  rcases l with ⟨hk, hm⟩ | ⟨hk, c, hc, hcell⟩
  · exact wpAny_Name (wpAny_loadName_local I.ok.kind hk hn hm fin) hd
  · rcases hk with hk | hk
    · exact wpAny_Name (wpAny_loadName_cell I.ok.kind hk hc hcell fin) hd
    · exact wpAny_Name (wpAny_loadName_free I.ok.kind hk hc hcell fin hcd) hd
theorem pe_int {i j pos} : PE X (.Constant (.int i) j pos) (tC (.int i)) := fun _ _ _ H _ I h => wpAny_Constant_int ⟨.int i, H, I.tok _, ⟨_, rfl⟩, h⟩
theorem pe_bl {b j pos} : PE X (.Constant (.bool b) j pos) (tC (.bl b)) := fun _ _ _ H _ I h => Constant_bool ⟨.bl b, H, I, rfl, h⟩
theorem pe_non {j pos} : PE X (.Constant .none j pos) (tC .non) := fun _ _ _ H _ I h => Constant_none ⟨.non, H, I, rfl, h⟩
theorem pe_str {x j pos} : PE X (.Constant (.str x) j pos) (tC (.str x)) := fun _ _ _ H _ I h => Calls.Constant_str ⟨.str x, H, I.tok _, ⟨_, rfl⟩, h⟩
def Gl (X : Cx) (x : Str) : Prop := X.env.kindOf x = some .globalImplicit
theorem ld_glob {E : Value → Shared → Prop} {pins : List (Addr × Obj)} {s : Shared} {σ : St} {H : Hp} {x : Str} {u : Value} {pos : Pos} {Q : Value → Shared → Prop} (I : Inv X pins σ H s) (hg : Gl X x) (hm : X.mg x = some u) (h : Q u s)
    (hd : (x == ("__debug__" : Str)) = false := by decide) : wpAny (model X.prog X.w) X.A (eval (.Name x pos) X.env) Q E s :=
  Calls.Name_function_global I.ok.kind hg (Calls.loadGlobal_global (by rw [I.ok.glob]; exact I.mod.glob.keeps I.bk) hm h) hd
theorem ld_blt {E : Value → Shared → Prop} {pins : List (Addr × Obj)} {s : Shared} {σ : St} {H : Hp} {x : Str} {u : Value} {pos : Pos} {Q : Value → Shared → Prop} (I : Inv X pins σ H s) (hg : Gl X x) (hm : X.mg x = none) (hv : bootBuiltins x = some u) (h : Q u s)
    (hn : x ≠ "__name__" := by decide) (hd : (x == ("__debug__" : Str)) = false := by decide) : wpAny (model X.prog X.w) X.A (eval (.Name x pos) X.env) Q E s := by
  obtain ⟨mb, h1, h2⟩ := I.mod.blt
  exact Calls.Name_function_global I.ok.kind hg (Calls.loadGlobal_builtin (by rw [I.ok.glob]; exact I.mod.glob.keeps I.bk) hm (by rw [I.ok.blt]; exact h1.keeps I.bk) ((h2 x hn).trans hv) h) hd
theorem pe_glob {x : Str} {v : V} {u : Value} {pos : Pos} (hg : Gl X x) (hm : X.mg x = some u) (r : RelV v u) (hd : (x == ("__debug__" : Str)) = false := by decide) : PE X (.Name x pos) (tC v) :=
  fun _ _ _ H _ I h => ld_glob I hg hm ⟨v, H, I, r, h⟩ hd
theorem pe_bltn {x : Str} {v : V} {u : Value} {pos : Pos} (hg : Gl X x) (hm : X.mg x = none) (hv : bootBuiltins x = some u) (r : RelV v u) (hn : x ≠ "__name__" := by decide) (hd : (x == ("__debug__" : Str)) = false := by decide) : PE X (.Name x pos) (tC v) :=
  fun _ _ _ H _ I h => ld_blt I hg hm hv ⟨v, H, I, r, h⟩ hn hd
variable {a b : Expr} {ta tb : TE} {pos : Pos}
variable {tA tB' : TT} {rest : List Expr}
def tAnd (t u : TT) : TT := fun σ H Q => t σ H fun c H1 => if c = true then u σ H1 Q else Q false H1
def tOr (t u : TT) : TT := fun σ H Q => t σ H fun c H1 => if c = true then Q true H1 else u σ H1 Q
def tNot (t : TT) : TT := fun σ H Q => t σ H fun c H1 => Q (!c) H1
theorem pw_and1 (ha : PT X a tA) : PW X (.BoolOp .And [a] pos) tA := by
  intro wh pins s σ H Q I h
  refine isTrue_and (thn (ha pins s σ H Q I h) fun c s1 e => ?_)
  cases c with
  | true => exact isTrue_and_nil e
  | false => exact e
theorem pw_or1 (ha : PT X a tA) : PW X (.BoolOp .Or [a] pos) tA := by
  intro wh pins s σ H Q I h
  refine isTrue_or (thn (ha pins s σ H Q I h) fun c s1 e => ?_)
  cases c with
  | false => exact isTrue_or_nil e
  | true => exact e
theorem pw_and (ha : PT X a tA) (hb : PW X (.BoolOp .And (b :: rest) pos) tB') : PW X (.BoolOp .And (a :: b :: rest) pos) (tAnd tA tB') := by
  intro wh pins s σ H Q I h
  refine isTrue_and (thn (ha pins s σ H _ I h) fun c s1 ⟨H1, I1, q1⟩ => ?_)
  cases c with
  | true => exact hb wh pins s1 σ H1 Q I1 q1
  | false => exact ⟨H1, I1, q1⟩
theorem pw_or (ha : PT X a tA) (hb : PW X (.BoolOp .Or (b :: rest) pos) tB') : PW X (.BoolOp .Or (a :: b :: rest) pos) (tOr tA tB') := by
  intro wh pins s σ H Q I h
  refine isTrue_or (thn (ha pins s σ H _ I h) fun c s1 ⟨H1, I1, q1⟩ => ?_)
  cases c with
  | true => exact ⟨H1, I1, q1⟩
  | false => exact hb wh pins s1 σ H1 Q I1 q1
theorem pt_not (ha : PT X a tA) : PT X (.UnaryOp .Not a pos) (tNot tA) := by
  intro pins s σ H Q I h
  exact isTrue_not (ha pins s σ H (fun c H1 => Q (!c) H1) I h)
def tAndV (ta tb : TE) : TE := fun σ H Q => ta σ H fun x H1 => ∃ c, x = .bl c ∧ if c = true then tb σ H1 Q else Q (.bl false) H1
def tOrV (ta tb : TE) : TE := fun σ H Q => ta σ H fun x H1 => ∃ c, x = .bl c ∧ if c = true then Q (.bl true) H1 else tb σ H1 Q
def tNotV (ta : TE) : TE := fun σ H Q => ta σ H fun x H1 => ∃ c, x = .bl c ∧ Q (.bl (!c)) H1
theorem pe_one {op} {t : TE} (h : PE X a t) : PE X (.BoolOp op [a] pos) t := fun pins s σ H Q I hw => BoolOp_one (h pins s σ H Q I hw)
theorem pe_and (ha : PE X a ta) (hb : PE X (.BoolOp .And (b :: rest) pos) tb) : PE X (.BoolOp .And (a :: b :: rest) pos) (tAndV ta tb) := by
  intro pins s σ H Q I h
  refine BoolOp_and (thn (ha pins s σ H _ I h) fun v s1 ⟨x, H1, I1, r1, q1⟩ => ?_)
  obtain ⟨c, rfl, q1⟩ := q1
  cases r1
  refine wpAny_truthy_bool ?_
  cases c with
  | true => exact hb pins s1 σ H1 Q I1 q1
  | false => exact ⟨.bl false, H1, I1, rfl, q1⟩
theorem pe_or (ha : PE X a ta) (hb : PE X (.BoolOp .Or (b :: rest) pos) tb) : PE X (.BoolOp .Or (a :: b :: rest) pos) (tOrV ta tb) := by
  intro pins s σ H Q I h
  refine BoolOp_or (thn (ha pins s σ H _ I h) fun v s1 ⟨x, H1, I1, r1, q1⟩ => ?_)
  obtain ⟨c, rfl, q1⟩ := q1
  cases r1
  refine wpAny_truthy_bool ?_
  cases c with
  | false => exact hb pins s1 σ H1 Q I1 q1
  | true => exact ⟨.bl true, H1, I1, rfl, q1⟩
theorem pe_not (ha : PE X a ta) : PE X (.UnaryOp .Not a pos) (tNotV ta) := by
  intro pins s σ H Q I h
  refine UnaryOp_ (thn (ha pins s σ H _ I h) fun v s1 ⟨x, H1, I1, r1, q1⟩ => ?_)
  obtain ⟨c, rfl, q1⟩ := q1
  cases r1
  exact not_of (wpAny_truthy_bool ⟨.bl (!c), H1, I1, rfl, q1⟩)
def tIf (t : TT) (ta tb : TE) : TE := fun σ H Q => t σ H fun c H1 => if c = true then ta σ H1 Q else tb σ H1 Q
theorem pe_ifExp {c : Expr} (hc : PT X c tA) (ha : PE X a ta) (hb : PE X b tb) : PE X (.IfExp c a b pos) (tIf tA ta tb) := by
  intro pins s σ H Q I h
  refine wpAny_IfExp (thn (hc pins s σ H _ I h) fun d s1 ⟨H1, I1, q1⟩ => ?_)
  cases d with
  | true => exact ha pins s1 σ H1 Q I1 q1
  | false => exact hb pins s1 σ H1 Q I1 q1
end
end L2
namespace L2
open PySem PySem.Spec PyProof.Rows
def SqL (K : PySem.W.Frag) (H : Hp) (a : Addr) (xs : List V) : Prop :=
  Rd H a (.lst xs) ∨
    ∃ (o : Obj) (its : Array Value) (n : Nat), K.lookup a = some o ∧ o.cls = .type "list" ∧ o.dict = none ∧ o.data = .seq its n ∧ its.size ≤ sizeLine ∧ Vals xs its.toList
def SqT (K : PySem.W.Frag) (H : Hp) (a : Addr) (xs : List V) : Prop :=
  Rd H a (.tup xs) ∨
    ∃ (o : Obj) (its : Array Value) (n : Nat), K.lookup a = some o ∧ o.cls = .type "tuple" ∧ o.data = .seq its n ∧ its.size ≤ sizeLine ∧ Vals xs its.toList
def absV : Value → Option V
  | .none => some .non
  | .bool b => some (.bl b)
  | .int i _ => some (.int i)
  | .str x _ => some (.str x)
  | .bytes b _ => some (.byt b)
  | .float b _ => some (.flt b)
  | .ref a => some (.ref a)
  | .type n => some (.ty n)
  | _ => none
theorem RelV.abs {x : V} {u : Value} (r : RelV x u) : absV u = some x := by
  cases x with
  | non => cases r; rfl
  | bl _ => cases r; rfl
  | int _ => obtain ⟨t, rfl⟩ := r; rfl
  | str _ => obtain ⟨t, rfl⟩ := r; rfl
  | byt _ => obtain ⟨t, rfl⟩ := r; rfl
  | flt _ => obtain ⟨t, rfl⟩ := r; rfl
  | ref _ => cases r; rfl
  | ty _ => cases r; rfl
theorem RelV.inj {x y : V} {u : Value} (r : RelV x u) (q : RelV y u) : x = y := Option.some.inj (r.abs.symm.trans q.abs)
theorem Vals.inj : ∀ {xs ys : List V} {us : List Value}, Vals xs us → Vals ys us → xs = ys
  | _, _, _, .nil, .nil => rfl
  | _, _, _, .cons r t, .cons r' t' => by rw [r.inj r', Vals.inj t t']
section
variable {X : Cx} {pins : List (Addr × Obj)} {σ : St} {H : Hp} {s : Shared} {a : Addr} {xs ys : List V}
theorem SqL.of {K : PySem.W.Frag} (h : H a = some (.lst xs)) : SqL K H a xs := .inl (.inl h)
theorem SqT.of {K : PySem.W.Frag} (h : H a = some (.tup xs)) : SqT K H a xs := .inl (.inl h)
theorem Inv.list (I : Inv X pins σ H s) (h : SqL X.K H a xs) : ∃ its : List Value, Vals xs its ∧ PlainL s.heap a its.toArray ∧ xs.length ≤ sizeLine := by
  rcases h with h | ⟨o, its, n, hk, hc, hd, hs, hz, r⟩
  · obtain ⟨z, its, n, r, e⟩ := h.ok I.hok
    exact ⟨its, r, ⟨_, n, e, rfl, rfl, rfl⟩, z⟩
  · refine ⟨its.toList, r, ⟨o, n, I.kIn a o hk, hc, hd, by simpa using hs⟩, ?_⟩
    have e := r.length
    simp only [Array.length_toList] at e
    omega
theorem Inv.tuple (I : Inv X pins σ H s) (h : SqT X.K H a xs) : ∃ its : List Value, Vals xs its ∧ IsTup s.heap a its.toArray ∧ xs.length ≤ sizeLine := by
  rcases h with h | ⟨o, its, n, hk, hc, hs, hz, r⟩
  · obtain ⟨z, its, r, p⟩ := h.ok I.hok
    exact ⟨its, r, p, z⟩
  · refine ⟨its.toList, r, ⟨o, I.kIn a o hk, hc, n, by simpa using hs⟩, ?_⟩
    have e := r.length
    simp only [Array.length_toList] at e
    omega
theorem Inv.list_inj (I : Inv X pins σ H s) (h : SqL X.K H a xs) (h' : SqL X.K H a ys) : xs = ys := by
  obtain ⟨its, r, ⟨o, n, e, _, _, d⟩, _⟩ := I.list h
  obtain ⟨its', r', ⟨o', n', e', _, _, d'⟩, _⟩ := I.list h'
  rw [e] at e'; cases e'
  rw [d] at d'
  injection d' with d1 _
  have : its = its' := by simpa using congrArg Array.toList d1
  subst this
  exact r.inj r'
theorem Inv.tuple_inj (I : Inv X pins σ H s) (h : SqT X.K H a xs) (h' : SqT X.K H a ys) : xs = ys := by
  obtain ⟨its, r, ⟨o, e, _, n, d⟩, _⟩ := I.tuple h
  obtain ⟨its', r', ⟨o', e', _, n', d'⟩, _⟩ := I.tuple h'
  rw [e] at e'; cases e'
  rw [d] at d'
  injection d' with d1 _
  have : its = its' := by simpa using congrArg Array.toList d1
  subst this
  exact r.inj r'
end
abbrev Cx.wish (X : Cx) (E : Value → Shared → Prop) : Cx := { X with xe := E }
abbrev Cx.nox (X : Cx) : Cx := X.wish fun _ _ => False
theorem Cx.Ok.wish {X : Cx} (ok : X.Ok) (E : Value → Shared → Prop) : (X.wish E).Ok :=
  ⟨ok.mod, ok.kind, ok.glob, ok.blt, ok.above, ok.inj, ok.has, ok.cab, ok.hd, ok.frames, ok.stk, ok.exf, ok.bs, ok.bsz, ok.noex, ok.exfs, ok.funs, ok.frf⟩
theorem Cx.Ok.unwish {X : Cx} {E : Value → Shared → Prop} (ok : (X.wish E).Ok) : X.Ok :=
  ⟨ok.mod, ok.kind, ok.glob, ok.blt, ok.above, ok.inj, ok.has, ok.cab, ok.hd, ok.frames, ok.stk, ok.exf, ok.bs, ok.bsz, ok.noex, ok.exfs, ok.funs, ok.frf⟩
section
variable {X : Cx} {pins : List (Addr × Obj)} {σ : St} {H : Hp} {s : Shared} {E : Value → Shared → Prop}
theorem Inv.wish (I : Inv X pins σ H s) (E : Value → Shared → Prop) : Inv (X.wish E) pins σ H s := ⟨I.ok.wish E, I.os, I.bare, I.base, I.loc, I.cell, I.free, I.freeC, I.pin, I.hok, I.len⟩
theorem Inv.unwish (I : Inv (X.wish E) pins σ H s) : Inv X pins σ H s := ⟨I.ok.unwish, I.os, I.bare, I.base, I.loc, I.cell, I.free, I.freeC, I.pin, I.hok, I.len⟩
theorem SP.unwish {D : Ends} {f : Flow} {s' : Shared} (h : SP (X.wish E) pins D f s') : SP X pins D f s' := by
  cases f with
  | next => obtain ⟨σ', H', I, q⟩ := h; exact ⟨σ', H', I.unwish, q⟩
  | brk => obtain ⟨σ', H', I, q⟩ := h; exact ⟨σ', H', I.unwish, q⟩
  | cont => obtain ⟨σ', H', I, q⟩ := h; exact ⟨σ', H', I.unwish, q⟩
  | ret u => obtain ⟨v, σ', H', I, r, q⟩ := h; exact ⟨v, σ', H', I.unwish, r, q⟩
theorem PSs.nox {st : List Stmt} {t : TS} (h : PSs X.nox st t) : PSs X st t := fun pins s σ H D I hw =>
  wpAny_mono (h pins s σ H D (I.wish _) hw) (fun _ _ q => q.unwish) fun _ _ z => False.elim z
end
section
variable {X : Cx} {st : Stmt} {rest : List Stmt} {t u : TS} {e : Expr} {te : TE} {pos : Pos}
def tNext : TS := fun D σ H => D.nx σ H
def tSeq (t u : TS) : TS := fun D σ H => t { D with nx := u D } σ H
theorem pss_nil : PSs X [] tNext := fun _ _ σ H _ I h => wpAny_execs_nil ⟨σ, H, I, h⟩
theorem pss_cons (h1 : PS X st t) (h2 : PSs X rest u) : PSs X (st :: rest) (tSeq t u) := by
  intro pins s σ H D I h
  refine wpAny_execs_cons (thn (h1 pins s σ H { D with nx := u D } I h) fun f s1 q => ?_)
  cases f with
  | next =>
    obtain ⟨σ', H', I', q⟩ := q
    exact h2 pins s1 σ' H' D I' q
  | ret v => exact q
  | brk => exact q
  | cont => exact q
theorem pss_one (h1 : PS X st t) : PSs X [st] t := by
  intro pins s σ H D I h
  refine wpAny_execs_cons (thn (h1 pins s σ H D I h) fun f s1 q => ?_)
  cases f with
  | next => exact wpAny_execs_nil q
  | ret v => exact q
  | brk => exact q
  | cont => exact q
theorem Inv.quiet {pins : List (Addr × Obj)} {σ : St} {H : Hp} {s : Shared} (I : Inv X pins σ H s) : interactive X.env = false := by simp [interactive, I.ok.kind]
def tDrop (te : TE) : TS := fun D σ H => te σ H fun _ H1 => D.nx σ H1
theorem ps_expr (he : PE X e te) (hs : swapsWith e none pos.line X.env = pure false := by rfl) : PS X (.Expr e pos) (tDrop te) := by
  intro pins s σ H D I h
  exact wpAny_Expr_any (thn (he pins s σ H _ I h) fun v s1 ⟨x, H1, I1, r1, q1⟩ => ⟨σ, H1, I1, q1⟩) I.quiet hs
def tRet (te : TE) : TS := fun D σ H => te σ H D.rt
theorem ps_ret (he : PE X e te) : PS X (.Return (some e) pos) (tRet te) := by
  intro pins s σ H D I h
  exact wpAny_Return_some (thn (he pins s σ H _ I h) fun v s1 ⟨x, H1, I1, r1, q1⟩ => ⟨x, σ, H1, I1, r1, q1⟩)
def tIfS (c : TT) (t u : TS) : TS := fun D σ H => c σ H fun b H1 => if b = true then t D σ H1 else u D σ H1
theorem ps_if {c : Expr} {a b : List Stmt} {tc : TT} (hc : PT X c tc) (ha : PSs X a t) (hb : PSs X b u) : PS X (.If c a b pos) (tIfS tc t u) := by
  intro pins s σ H D I h
  refine wpAny_If (thn (hc pins s σ H _ I h) fun d s1 ⟨H1, I1, q1⟩ => ?_)
  cases d with
  | true => exact ha pins s1 σ H1 D I1 q1
  | false => exact hb pins s1 σ H1 D I1 q1
end
abbrev TG := V → St → Hp → (St → Hp → Prop) → Prop
abbrev TGs := List V → St → Hp → (St → Hp → Prop) → Prop
def PG (X : Cx) (target : Expr) (t : TG) : Prop :=
  ∀ (pins : List (Addr × Obj)) (s : Shared) (σ : St) (H : Hp) (v : V) (u : Value) (Q : St → Hp → Prop), Inv X pins σ H s → RelV v u → t v σ H Q →
    wpAny (model X.prog X.w) X.A (assign target X.env u) (fun _ s' => ∃ σ' H', Inv X pins σ' H' s' ∧ Q σ' H') X.xe s
def PGs (X : Cx) (ts : List Expr) (t : TGs) : Prop :=
  ∀ (pins : List (Addr × Obj)) (s : Shared) (σ : St) (H : Hp) (vs : List V) (us : List Value) (Q : St → Hp → Prop), Inv X pins σ H s → Vals vs us → t vs σ H Q →
    wpAny (model X.prog X.w) X.A (assignInOrder ((assignEach ts X.env).map (·.2)) us) (fun _ s' => ∃ σ' H', Inv X pins σ' H' s' ∧ Q σ' H') X.xe s
section
variable {X : Cx} {pos : Pos}
def gName (i : Nat) : TG := fun v σ H Q => Q (σ.set i (some v)) H
theorem pg_name {i : Nat} {x : Str} (hN : X.N.Nodup) (hi : X.N[i]? = some x) (hx : Loc X.env.scope x) (hf : X.fn x = true ∨ X.env.scope.names.lookup x = some .local := by first | exact .inl rfl | exact .inr rfl | assumption) : PG X (.Name x pos) (gName i) := by
  intro pins s σ H v u Q I r h
  exact wpAny_assign_Name (store_ok I hN hi hx r (fun s' I' => ⟨_, H, I', h⟩) hf)
def gNil : TGs := fun vs σ H Q => vs = [] ∧ Q σ H
def gCons (t : TG) (u : TGs) : TGs := fun vs σ H Q => ∃ v r, vs = v :: r ∧ t v σ H fun σ' H' => u r σ' H' Q
theorem pgs_nil : PGs X [] gNil := by
  intro pins s σ H vs us Q I r h
  obtain ⟨e, h⟩ := h
  subst e
  cases r
  exact assignInOrder_nil ⟨σ, H, I, h⟩
theorem pgs_cons {e : Expr} {es : List Expr} {t : TG} {u : TGs} (h1 : PG X e t) (h2 : PGs X es u)
    (hs : (assignEach (e :: es) X.env).map (·.2) = assign e X.env :: (assignEach es X.env).map (·.2) := by rfl) : PGs X (e :: es) (gCons t u) := by
  intro pins s σ H vs us Q I r h
  obtain ⟨v, vr, e1, h⟩ := h
  subst e1
  cases r with
  | cons r rr =>
    rw [hs]
    refine assignInOrder_cons (thn (h1 pins s σ H _ _ _ I r h) fun _ s1 ⟨σ1, H1, I1, q1⟩ => ?_)
    exact h2 pins s1 σ1 H1 _ _ Q I1 rr q1
def gTup (K : PySem.W.Frag) (n : Nat) (t : TGs) : TG := fun v σ H Q => ∃ a xs, v = .ref a ∧ SqT K H a xs ∧ xs.length = n ∧ t xs σ H Q
theorem pg_tup {es : List Expr} {k : Nat} {t : TGs} {n : Nat} (hc : X.calm = true) (h : PGs X es t)
    (hn : (assignEach es X.env).length = n := by rfl) (hst : (assignEach es X.env).findIdx? (·.1) = none := by rfl) : PG X (.Tuple es k pos) (gTup X.K n t) := by
  intro pins s σ H v u Q I r hw
  obtain ⟨a, xs, e1, hq, hl, hw⟩ := hw
  subst e1
  cases r
  obtain ⟨its, rv, ht, hz⟩ := I.tuple hq
  refine assign_Tuple_tuple (I.ok.hd hc) ht (by simp [hn, ← hl, rv.length]) hst fun h' hx => ?_
  have I1 : Inv X pins σ H { s with heap := h' } := I.kept (t' := s.toks) fun b o e => hx b o (Nat.ne_of_lt (Heap.lt_size e)) e
  exact h pins _ σ H xs _ Q I1 (by simpa using rv) hw
def tAsg (te : TE) (g : TG) : TS := fun D σ H => te σ H fun x H1 => g x σ H1 D.nx
theorem ps_set {i : Nat} {x : Str} {e : Expr} {te : TE} {pos' : Pos} (hN : X.N.Nodup) (hi : X.N[i]? = some x) (hx : Loc X.env.scope x) (he : PE X e te) (hs : swapsWith e (some (.Name x pos')) pos.line X.env = pure false := by rfl) (hf : X.fn x = true ∨ X.env.scope.names.lookup x = some .local := by first | exact .inl rfl | exact .inr rfl | assumption) :
    PS X (.Assign [.Name x pos'] e pos) (tAsg te (gName i)) := by
  intro pins s σ H D I h
  refine wpAny_Assign_Name (thn (he pins s σ H _ I h) fun v s1 ⟨y, H1, I1, r1, q1⟩ => ?_) hs
  exact store_ok I1 hN hi hx r1 (fun s2 I2 => ⟨_, H1, I2, q1⟩) hf
end
section
variable {X : Cx} {pos : Pos}
def tWhile (c : TT) (tb : TS) : TS := fun D σ H => ∃ W : Nat → St → Hp → Prop, (∃ m, W m σ H) ∧ ∀ m σ H, W m σ H →
  c σ H fun b H1 => if b = true then ∃ N : St → Hp → Prop, (∀ σ' H', N σ' H' → ∃ m', m' < m ∧ W m' σ' H') ∧ tb { D with nx := N, ct := N, bk := D.nx } σ H1 else D.nx σ H1
theorem ps_while {c : Expr} {body : List Stmt} {tc : TT} {tb : TS} (hp : PassesOwn (model X.prog X.w) X.A X.env X.xe) (hc : PT X c tc) (hb : PSs X body tb) : PS X (.While c body [] pos) (tWhile tc tb) := by
  intro pins s σ H D I h
  obtain ⟨W, ⟨m0, w0⟩, turn⟩ := h
  refine wpAny_While (codeAny_whileLoop (fun n s' => ∃ σ' H', Inv X pins σ' H' s' ∧ W n σ' H') ?_ m0 ⟨σ, H, I, w0⟩)
  rintro n s1 ⟨σ1, H1, I1, w1⟩
  refine wpAny_passesOwn hp (thn (hc pins s1 σ1 H1 _ I1 (turn n σ1 H1 w1)) fun b s2 ⟨H2, I2, q2⟩ => ?_)
  cases b with
  | true =>
    obtain ⟨N, hN, q2⟩ := q2
    rw [if_pos rfl]
    refine wpAny_passesOwn hp (thn (hb pins s2 σ1 H2 _ I2 q2) fun f s3 q3 => ?_)
    cases f with
    | next =>
      obtain ⟨σ3, H3, I3, n3⟩ := q3
      obtain ⟨m', hm, w3⟩ := hN σ3 H3 n3
      exact ⟨m', hm, σ3, H3, I3, w3⟩
    | cont =>
      obtain ⟨σ3, H3, I3, n3⟩ := q3
      obtain ⟨m', hm, w3⟩ := hN σ3 H3 n3
      exact ⟨m', hm, σ3, H3, I3, w3⟩
    | brk => exact q3
    | ret v => exact q3
  | false =>
    rw [if_neg Bool.false_ne_true]
    exact wpAny_execs_nil ⟨σ1, H2, I2, q2⟩
end
structure It where
  go : Nat → Hp → Prop
  yld : Nat → Hp → V → Hp → Prop
  stop : Nat → Hp → Prop
def FpOk (X : Cx) (pins : List (Addr × Obj)) (H : Hp) (b : Addr) : Prop :=
  H b = none ∧ b ≠ X.env.locals ∧ b ∉ X.fs ∧ (b ∈ X.ex ∨ X.s₀.heap.objs.size ≤ b) ∧ (∀ x c, X.env.cells.lookup x = some c → c ≠ b) ∧ ∀ p ∈ X.pn ++ pins, p.1 ≠ b
theorem Inv.fpOk {X : Cx} {pins : List (Addr × Obj)} {σ : St} {H H' : Hp} {s : Shared} {b : Addr} (I : Inv X pins σ H s) (hb : s.heap.objs.size ≤ b) (hn : H' b = none) : FpOk X pins H' b := by
  refine ⟨hn, Nat.ne_of_gt (Nat.lt_of_lt_of_le I.lt hb), I.nofs hb, .inr (Nat.le_trans I.sz hb), fun x c e z => ?_, fun p hp z => ?_⟩
  · obtain ⟨v, q⟩ := I.cell x c e
    exact absurd (Nat.lt_of_lt_of_le q.lt (by rw [z]; exact hb)) (Nat.lt_irrefl _)
  · exact absurd (Nat.lt_of_lt_of_le (Heap.lt_size (I.pin p hp).1) (by rw [z]; exact hb)) (Nat.lt_irrefl _)
structure Turn (P : Program) (w : World) (K : PySem.W.Frag) (tg : Expr) (J : It) (fp : List Addr) (it : Addr) (tn : Nat → Heap → Prop) : Prop where
  mem : it ∈ fp
  obj : ∀ i h, tn i h → ∀ b ∈ fp, ∃ o, h.get? b = some o ∧ ∀ v, o.data ≠ .cell v
  keep : ∀ i h h', tn i h → (∀ b ∈ fp, ∀ o, h.get? b = some o → h'.get? b = some o) → tn i h'
  item : ∀ (X : Cx), X.prog = P → X.w = w → X.K = K → X.calm = true → ∀ (i : Nat) (pins : List (Addr × Obj)) (s : Shared) (σ : St) (H : Hp) (E : Value → Shared → Prop), Inv X pins σ H s → (∀ b ∈ fp, FpOk X pins H b) → tn i s.heap → J.go i H →
    wpAny (model P w) X.A (pyNext (.ref it)) (fun r s1 => ∃ u, r = some u ∧
      wpAny (model P w) X.A (letOwnedTupleGo tg (.ref it) u) (fun _ s2 => ∃ x H', Inv X pins σ H' s2 ∧ RelV x u ∧ J.yld i H x H' ∧ tn (i + 1) s2.heap ∧ ∀ b ∈ fp, H' b = none) E s1) E s
  done : ∀ (X : Cx), X.prog = P → X.w = w → X.K = K → X.calm = true → ∀ (i : Nat) (pins : List (Addr × Obj)) (s : Shared) (σ : St) (H : Hp) (E : Value → Shared → Prop), Inv X pins σ H s → (∀ b ∈ fp, FpOk X pins H b) → tn i s.heap → J.stop i H →
    wpAny (model P w) X.A (pyNext (.ref it)) (fun r s1 => r = none ∧ Inv X pins σ H s1) E s
  self : ∀ (A : Around) (i : Nat) (s : Shared) (Q : Value → Shared → Prop) (E : Value → Shared → Prop), tn i s.heap → Q (.ref it) s → wpAny (model P w) A (pyIter (.ref it)) Q E s
abbrev TI := St → Hp → (It → Hp → Prop) → Prop
def PIE (X : Cx) (pins : List (Addr × Obj)) (σ : St) (tg : Expr) (R : It → Hp → Prop) (itv : Value) (s2 : Shared) : Prop :=
  ∃ (it : Addr) (fp : List Addr) (tn : Nat → Heap → Prop) (J : It) (H' : Hp), itv = .ref it ∧ Inv X pins σ H' s2 ∧ Turn X.prog X.w X.K tg J fp it tn ∧ tn 0 s2.heap ∧ (∀ b ∈ fp, FpOk X pins H' b) ∧ R J H'
def PI (X : Cx) (tg iter : Expr) (wi : TI) : Prop :=
  ∀ (pins : List (Addr × Obj)) (s : Shared) (σ : St) (H : Hp) (R : It → Hp → Prop), Inv X pins σ H s → wi σ H R →
    wpAny (model X.prog X.w) X.A (eval iter X.env) (fun v s1 => wpAny (model X.prog X.w) X.A (pyIter v) (PIE X pins σ tg R) X.xe s1) X.xe s
theorem go_of {M : Model} {A : Around} {E : Value → Shared → Prop} {s : Shared} {tg : Expr} {it : Addr} {u : Value} {o : Obj} {n : String} {vs : Array Value} {Q : Unit → Shared → Prop} (ho : s.heap.get? it = some o) (hc : o.cls = .type n) (hd : o.data = .fields vs)
    (hn : ["enumerate", "zip", "dict_itemiterator", "dict_reverseitemiterator", "odict_iterator", "itertools.zip_longest", "itertools.pairwise"].contains n = false) (hQ : Q () s) : wpAny M A (letOwnedTupleGo tg (.ref it) u) Q E s := by
  unfold letOwnedTupleGo
  cases tg <;> first
    | exact wpAny_pure hQ
    | (cases u <;> first
        | exact wpAny_pure hQ
        | (refine wpAny_bind (wpAny_load ho ?_)
           rw [hc, hd]
           show wpAny M A (if (["enumerate", "zip", "dict_itemiterator", "dict_reverseitemiterator", "odict_iterator", "itertools.zip_longest", "itertools.pairwise"].contains n && vs[0]? == some (rawInt _)) = true then _ else _) Q E s
           rw [if_neg (by intro h; rw [hn, Bool.false_and] at h; cases h)]
           exact wpAny_pure hQ))
def Itl (K : PySem.W.Frag) (a : Addr) : It :=
  ⟨fun i H => ∃ xs x, SqL K H a xs ∧ xs[i]? = some x, fun i H x H' => H' = H ∧ ∀ xs, SqL K H a xs → xs[i]? = some x, fun i H => ∃ xs, SqL K H a xs ∧ xs.length ≤ i⟩
def Itt (K : PySem.W.Frag) (a : Addr) : It :=
  ⟨fun i H => ∃ xs x, SqT K H a xs ∧ xs[i]? = some x, fun i H x H' => H' = H ∧ ∀ xs, SqT K H a xs → xs[i]? = some x, fun i H => ∃ xs, SqT K H a xs ∧ xs.length ≤ i⟩
def Itr (lo : Int) (n : Nat) : It := ⟨fun i _ => i < n, fun i H x H' => H' = H ∧ x = .int (lo + i), fun i _ => n ≤ i⟩
theorem turn_list {P : Program} {w : World} {K : PySem.W.Frag} {tg : Expr} (a it : Addr) : Turn P w K tg (Itl K a) [it] it (fun i h => h.IsListIter it a i) where
  mem := by simp
  obj := fun i h st b hb => by
    have e : b = it := by simpa using hb
    subst e
    obtain ⟨o, e, c, d⟩ := st
    exact ⟨o, e, fun v z => by rw [d] at z; cases z⟩
  keep := fun i h h' st k => st.at fun o e => k it (by simp) o e
  item := by
    intro X hP hw hK hc i pins s σ H E I hf st hg
    subst hP hw hK
    obtain ⟨xs, x, hq, hx⟩ := hg
    obtain ⟨its, rv, p, hz⟩ := I.list hq
    obtain ⟨u, hu, ru⟩ := rv.get hx
    obtain ⟨f0, f1, f2, f3, f4, f5⟩ := hf it (by simp)
    refine wpAny_pyNext_list_item st p.isList (x := u) (by simpa using hu) fun h' st' sb => ?_
    have I1 : Inv X pins σ H { s with heap := h' } := I.turned (t' := s.toks) (fun b o hb e => (sb.2 b hb).trans e) f0 f1 f3 f4 f5
    obtain ⟨o, e, c, d⟩ := id st'
    exact ⟨u, rfl, go_of (s := { s with heap := h' }) e c d (by decide) ⟨x, H, I1, ru, ⟨rfl, fun ys hy => by rw [I.list_inj hy hq]; exact hx⟩, st', fun b hb => (hf b hb).1⟩⟩
  done := by
    intro X hP hw hK hc i pins s σ H E I hf st hg
    subst hP hw hK
    obtain ⟨xs, hq, hx⟩ := hg
    obtain ⟨its, rv, p, hz⟩ := I.list hq
    obtain ⟨f0, f1, f2, f3, f4, f5⟩ := hf it (by simp)
    have hl := rv.length
    exact wpAny_pyNext_list_end (I.ok.hd hc) st p.isList (by simp; omega) fun h' eb => ⟨rfl, I.turned (t' := s.toks) (fun b o hb e => eb b o hb e) f0 f1 f3 f4 f5⟩
  self := fun _ _ _ _ _ st h => wpAny_pyIter_listiter st h
theorem turn_tuple {P : Program} {w : World} {K : PySem.W.Frag} {tg : Expr} (a it : Addr) : Turn P w K tg (Itt K a) [it] it (fun i h => h.IsTupleIter it a i) where
  mem := by simp
  obj := fun i h st b hb => by
    have e : b = it := by simpa using hb
    subst e
    obtain ⟨o, e, c, d⟩ := st
    exact ⟨o, e, fun v z => by rw [d] at z; cases z⟩
  keep := fun i h h' st k => st.at fun o e => k it (by simp) o e
  item := by
    intro X hP hw hK hc i pins s σ H E I hf st hg
    subst hP hw hK
    obtain ⟨xs, x, hq, hx⟩ := hg
    obtain ⟨its, rv, p, hz⟩ := I.tuple hq
    obtain ⟨u, hu, ru⟩ := rv.get hx
    obtain ⟨f0, f1, f2, f3, f4, f5⟩ := hf it (by simp)
    refine wpAny_pyNext_tuple_item st (show s.heap.IsTuple a its.toArray from p) (x := u) (by simpa using hu) fun h' st' sb => ?_
    have I1 : Inv X pins σ H { s with heap := h' } := I.turned (t' := s.toks) (fun b o hb e => (sb.2 b hb).trans e) f0 f1 f3 f4 f5
    obtain ⟨o, e, c, d⟩ := id st'
    exact ⟨u, rfl, go_of (s := { s with heap := h' }) e c d (by decide) ⟨x, H, I1, ru, ⟨rfl, fun ys hy => by rw [I.tuple_inj hy hq]; exact hx⟩, st', fun b hb => (hf b hb).1⟩⟩
  done := by
    intro X hP hw hK hc i pins s σ H E I hf st hg
    subst hP hw hK
    obtain ⟨xs, hq, hx⟩ := hg
    obtain ⟨its, rv, p, hz⟩ := I.tuple hq
    obtain ⟨f0, f1, f2, f3, f4, f5⟩ := hf it (by simp)
    have hl := rv.length
    exact wpAny_pyNext_tuple_end (I.ok.hd hc) st (show s.heap.IsTuple a its.toArray from p) (by simp; omega) fun h' eb => ⟨rfl, I.turned (t' := s.toks) (fun b o hb e => eb b o hb e) f0 f1 f3 f4 f5⟩
  self := fun _ _ _ _ _ st h => wpAny_pyIter_tupleiter st h
theorem turn_range {P : Program} {w : World} {K : PySem.W.Frag} {tg : Expr} (it : Addr) (lo : Int) (n : Nat) : Turn P w K tg (Itr lo n) [it] it (fun i h => IsRangeIter h it (lo + (i : Nat) * 1) ((n : Int) - (i : Nat)) 1) where
  mem := by simp
  obj := fun i h st b hb => by
    have e : b = it := by simpa using hb
    subst e
    exact ⟨_, st, fun v z => by
      have z' : Data.fields _ = Data.cell v := z
      cases z'⟩
  keep := fun i h h' st k => k it (by simp) _ st
  item := by
    intro X hP hw hK hc i pins s σ H E I hf st hg
    subst hP hw hK
    obtain ⟨f0, f1, f2, f3, f4, f5⟩ := hf it (by simp)
    have W := Walks.range (prog := X.prog) (w := X.w) (I.ok.hd hc) it lo 1 n
    refine W.item i s _ _ hg st fun v h' tk hv st' kk => ?_
    obtain ⟨t, rfl⟩ := hv
    have I1 : Inv X pins σ H { s with heap := h', toks := tk } := I.turned (fun b o hb e => kk b o (by simpa using hb) e) f0 f1 f3 f4 f5
    refine ⟨_, rfl, go_of (s := { s with heap := h', toks := tk }) (n := "range_iterator") st' rfl rfl (by decide) ⟨.int (lo + i), H, I1, ⟨t, ?_⟩, ⟨rfl, rfl⟩, st', fun b hb => (hf b hb).1⟩⟩
    rw [Int.mul_one]
  done := by
    intro X hP hw hK hc i pins s σ H E I hf st hg
    subst hP hw hK
    obtain ⟨f0, f1, f2, f3, f4, f5⟩ := hf it (by simp)
    exact wpAny_pyNext_range_end (I.ok.hd hc) st (by have : n ≤ i := hg; omega) fun h' eb => ⟨rfl, I.turned (t' := s.toks) (fun b o hb e => eb b o hb e) f0 f1 f3 f4 f5⟩
  self := fun _ _ _ _ _ st h => wpAny_pyIter_rangeiter st h
end L2
namespace L2
open PySem PySem.Spec PyProof.Rows
section
variable {X : Cx} {tg : Expr}
theorem range_it {pins : List (Addr × Obj)} {σ : St} {H : Hp} {s : Shared} {R : It → Hp → Prop} {E : Value → Shared → Prop} {lo hi : Int} {t u v : Tok} {tk : Nat} (I : Inv X pins σ H s) (h1 : -(2 ^ 62) ≤ lo) (h2 : lo < 2 ^ 62) (h3 : -(2 ^ 62) ≤ hi) (h4 : hi < 2 ^ 62)
    (q : R (Itr lo (hi - lo).toNat) H) : wpAny (model X.prog X.w) X.A (pyIter (.ref s.heap.objs.size)) (PIE X pins σ tg R) E { s with heap := s.heap.push { cls := .type "range", data := .fields #[.int lo t, .int hi u, .int 1 v] }, toks := tk } := by
  refine wpAny_pyIter_range (IsRange.new ..) (small_one h1 h2 h3 h4) ?_
  have I1 : Inv X pins σ H { s with heap := s.heap.push { cls := .type "range", data := .fields #[.int lo t, .int hi u, .int 1 v] }, toks := tk } := I.kept fun b o e => Heap.get?_push_of_some _ e
  refine ⟨(s.heap.push { cls := .type "range", data := .fields #[.int lo t, .int hi u, .int 1 v] }).objs.size, [(s.heap.push { cls := .type "range", data := .fields #[.int lo t, .int hi u, .int 1 v] }).objs.size], _, _, H, rfl,
    I1.kept (t' := tk) fun b o e => Heap.get?_push_of_some _ e, turn_range _ lo (hi - lo).toNat, ?_, fun b hb => ?_, q⟩
  · have e1 : lo + ((0 : Nat) : Int) * 1 = lo := by simp
    have e2 : (((hi - lo).toNat : Nat) : Int) - ((0 : Nat) : Int) = Builtin.Range.rangeSize lo hi 1 := by rw [rangeSize_one]; split <;> omega
    show IsRangeIter _ _ (lo + ((0 : Nat) : Int) * 1) ((((hi - lo).toNat : Nat) : Int) - ((0 : Nat) : Int)) 1
    rw [e1, e2]
    exact Heap.get?_push_size _ rfl
  · have e : b = (s.heap.push { cls := .type "range", data := .fields #[.int lo t, .int hi u, .int 1 v] }).objs.size := by simpa using hb
    subst e
    exact I1.fpOk (Nat.le_refl _) (I1.hok.fresh (Nat.le_refl _))
def iRng1 (ta : TA) : TI := fun σ H R => ta σ H fun vs H1 => ∃ j : Int, vs = [.int j] ∧ -(2 ^ 62) ≤ j ∧ j < 2 ^ 62 ∧ R (Itr 0 j.toNat) H1
theorem pi_range1 {a : Expr} {ta : TA} {p pos : Pos} (hg : Gl X "range") (hm : X.mg "range" = none) (ha : PA X [a] ta) (hs : starEach [a] X.env = [(false, eval a X.env)] := by rfl) : PI X tg (.Call (.Name "range" p) [a] [] pos) (iRng1 ta) := by
  intro pins s σ H R I h
  refine Call_ (ld_blt I hg hm boot_range (PyProof.Rows.callWith_type1 (thn (ha pos pins s σ H _ I h) fun us s1 ⟨vs, H1, I1, r1, q1⟩ => ?_) hs rfl))
  obtain ⟨j, e, q1, q2, q⟩ := q1
  subst e
  cases r1 with
  | cons r rr =>
    cases rr
    obtain ⟨t, rfl⟩ := r
    exact call_range_1 (range_it I1 (by omega) (by omega) q1 q2 (by simpa using q))
def tFor (wi : TI) (g : TG) (tb : TS) : TS := fun D σ H => wi σ H fun J H1 => ∃ W : Nat → Nat → St → Hp → Prop, (∃ m, W 0 m σ H1) ∧ ∀ i m σ H, W i m σ H →
  (J.stop i H ∧ D.nx σ H) ∨ (J.go i H ∧ ∃ N : St → Hp → Prop, (∀ σ' H', N σ' H' → ∃ m', m' < m ∧ W (i + 1) m' σ' H') ∧ ∀ x H', J.yld i H x H' → g x σ H' fun σ2 H2 => tb { D with nx := N, ct := N, bk := D.nx } σ2 H2)
def pinsAt (fp : List Addr) (h : Heap) : List (Addr × Obj) := fp.filterMap fun b => (h.get? b).map fun o => (b, o)
theorem mem_pinsAt {fp : List Addr} {h : Heap} {b : Addr} {o : Obj} (hb : b ∈ fp) (e : h.get? b = some o) : (b, o) ∈ pinsAt fp h := List.mem_filterMap.mpr ⟨b, hb, by rw [e]; rfl⟩
theorem of_pinsAt {fp : List Addr} {h : Heap} {p : Addr × Obj} (hp : p ∈ pinsAt fp h) : p.1 ∈ fp ∧ h.get? p.1 = some p.2 := by
  obtain ⟨b, hb, e⟩ := List.mem_filterMap.mp hp
  cases q : h.get? b with
  | none => rw [q] at e; cases e
  | some o =>
    rw [q] at e
    have e' : (b, o) = p := Option.some.inj e
    subst e'
    exact ⟨hb, q⟩
theorem Inv.pinned {pins : List (Addr × Obj)} {σ : St} {H : Hp} {s : Shared} {fp : List Addr} (I : Inv X pins σ H s) (hf : ∀ b ∈ fp, FpOk X pins H b) (ho : ∀ b ∈ fp, ∃ o, s.heap.get? b = some o ∧ ∀ v, o.data ≠ .cell v) : Inv X (pins ++ pinsAt fp s.heap) σ H s :=
  I.pins_of fun p hp => (List.mem_append.mp hp).elim (fun z => I.pin p (List.mem_append_right _ z)) fun z => by
    obtain ⟨hb, e⟩ := of_pinsAt z
    obtain ⟨f0, f1, f2, _⟩ := hf p.1 hb
    obtain ⟨o, e', d⟩ := ho p.1 hb
    rw [e] at e'; cases e'
    exact ⟨e, f0, f1, f2, d⟩
theorem Inv.unpinned {pins pl : List (Addr × Obj)} {σ : St} {H : Hp} {s : Shared} (I : Inv X (pins ++ pl) σ H s) : Inv X pins σ H s := I.pins_of fun p hp => I.pin p (List.mem_append_right _ (List.mem_append_left _ hp))
theorem ps_for {iter : Expr} {body : List Stmt} {wi : TI} {g : TG} {tb : TS} {pos : Pos} (hp : PassesOwn (model X.prog X.w) X.A X.env X.xe) (hc : X.calm = true) (hi : PI X tg iter wi) (hg : PG X tg g) (hb : PSs X body tb)
    (hs : ∀ x, foldedSetIterable iter X.env x = pure x := by intro _; rfl) : PS X (.For tg iter body [] pos) (tFor wi g tb) := by
  intro pins s σ H D I h
  refine wpAny_For (thn (hi pins s σ H _ I h) fun v s1 h1 => thn h1 fun itv s2 h2 => ?_) hs
  obtain ⟨it, fp, tn, J, H2, e, I2, T, st2, f2, W, ⟨m0, w0⟩, turn⟩ := h2
  subst e
  -- what stays true of the iterator's objects through the loop
  have stat : ∀ {H' : Hp}, (∀ b ∈ fp, H' b = none) → ∀ b ∈ fp, FpOk X pins H' b := fun hn b hb => ⟨hn b hb, (f2 b hb).2⟩
  refine codeAny_forLoop_any (fun n s' => ∃ i σ' H', Inv X pins σ' H' s' ∧ tn i s'.heap ∧ (∀ b ∈ fp, H' b = none) ∧ W i n σ' H') ?_ m0 ⟨0, σ, H2, I2, st2, fun b hb => (f2 b hb).1, w0⟩
  rintro n s3 ⟨i, σ3, H3, I3, st3, fr3, w3⟩
  rcases turn i n σ3 H3 w3 with ⟨stop, qn⟩ | ⟨go, N, hN, step⟩
  · refine wpAny_passesOwn hp (thn (T.done X rfl rfl rfl hc i pins s3 σ3 H3 X.xe I3 (stat fr3) st3 stop) fun r s4 ⟨hr, I4⟩ => ?_)
    subst hr
    exact wpAny_execs_nil ⟨σ3, H3, I4, qn⟩
  · refine wpAny_passesOwn hp (thn (T.item X rfl rfl rfl hc i pins s3 σ3 H3 X.xe I3 (stat fr3) st3 go) fun r s4 ⟨u, hr, h4⟩ => ?_)
    subst hr
    refine wpAny_passesOwn hp (thn h4 fun _ s5 ⟨x, H5, I5, r5, y5, st5, fr5⟩ => ?_)
    have I5' := I5.pinned (stat fr5) (T.obj _ _ st5)
    refine wpAny_passesOwn hp (thn (hg _ s5 σ3 H5 x u _ I5' r5 (step x H5 y5)) fun _ s6 ⟨σ6, H6, I6, q6⟩ => ?_)
    refine wpAny_passesOwn hp (thn (hb _ s6 σ6 H6 _ I6 q6) fun f s7 q7 => ?_)
    have again : ∀ {σ7 : St} {H7 : Hp}, Inv X (pins ++ pinsAt fp s5.heap) σ7 H7 s7 → N σ7 H7 → ∃ m, m < n ∧ ∃ i σ' H', Inv X pins σ' H' s7 ∧ tn i s7.heap ∧ (∀ b ∈ fp, H' b = none) ∧ W i m σ' H' := fun {σ7 H7} I7 n7 => by
      obtain ⟨m', hm, w7⟩ := hN σ7 H7 n7
      refine ⟨m', hm, i + 1, σ7, H7, I7.unpinned, T.keep _ _ _ st5 fun b hb o e => (I7.pin (b, o) (List.mem_append_right _ (List.mem_append_right _ (mem_pinsAt hb e)))).1, fun b hb => ?_, w7⟩
      obtain ⟨o, e, d⟩ := T.obj _ _ st5 b hb
      exact (I7.pin (b, o) (List.mem_append_right _ (List.mem_append_right _ (mem_pinsAt hb e)))).2.1
    cases f with
    | next => obtain ⟨σ7, H7, I7, n7⟩ := q7; exact again I7 n7
    | cont => obtain ⟨σ7, H7, I7, n7⟩ := q7; exact again I7 n7
    | brk => obtain ⟨σ7, H7, I7, q7⟩ := q7; exact ⟨σ7, H7, I7.unpinned, q7⟩
    | ret v => obtain ⟨x7, σ7, H7, I7, r7, q7⟩ := q7; exact ⟨x7, σ7, H7, I7.unpinned, r7, q7⟩
end
end L2
namespace L2
open PySem PySem.Spec PyProof.Rows
abbrev R2 := V → V → Hp → VK → Prop
def OpR (X : Cx) (f : Value → Value → Sem Value) (r : R2) : Prop :=
  ∀ (pins : List (Addr × Obj)) (s : Shared) (σ : St) (H : Hp) (x y : V) (v u : Value) (Q : VK), Inv X pins σ H s → RelV x v → RelV y u → r x y H Q →
    wpAny (model X.prog X.w) X.A (f v u) (EP X pins σ Q) X.xe s
def UnR (X : Cx) (f : Value → Sem Value) (r : V → Hp → VK → Prop) : Prop :=
  ∀ (pins : List (Addr × Obj)) (s : Shared) (σ : St) (H : Hp) (x : V) (v : Value) (Q : VK), Inv X pins σ H s → RelV x v → r x H Q →
    wpAny (model X.prog X.w) X.A (f v) (EP X pins σ Q) X.xe s
def CallR (X : Cx) (f : Value) (r : List V → Hp → VK → Prop) : Prop :=
  ∀ (pins : List (Addr × Obj)) (s : Shared) (σ : St) (H : Hp) (xs : List V) (us : List Value) (Q : VK), Inv X pins σ H s → Vals xs us → r xs H Q →
    wpAny (model X.prog X.w) X.A (call f us) (EP X pins σ Q) X.xe s
def TruR (X : Cx) (r : V → Hp → (Bool → Hp → Prop) → Prop) : Prop :=
  ∀ (pins : List (Addr × Obj)) (s : Shared) (σ : St) (H : Hp) (x : V) (v : Value) (Q : Bool → Hp → Prop), Inv X pins σ H s → RelV x v → r x H Q →
    wpAny (model X.prog X.w) X.A (truthy v) (TP X pins σ Q) X.xe s
def tOp (r : R2) (ta tb : TE) : TE := fun σ H Q => ta σ H fun x H1 => tb σ H1 fun y H2 => r x y H2 Q
def tUn (r : V → Hp → VK → Prop) (ta : TE) : TE := fun σ H Q => ta σ H fun x H1 => r x H1 Q
def rI (C : Int → Int → Prop) (g : Int → Int → V) : R2 := fun x y H Q => ∃ i j, x = .int i ∧ y = .int j ∧ C i j ∧ Q (g i j) H
def rI0 (g : Int → Int → V) : R2 := fun x y H Q => ∃ i j, x = .int i ∧ y = .int j ∧ Q (g i j) H
def rU (g : Int → V) : V → Hp → VK → Prop := fun x H Q => ∃ i, x = .int i ∧ Q (g i) H
section
variable {X : Cx} {a b c : Expr} {ta tb tc : TE} {pos : Pos}
theorem binT (ha : PE X a ta) (hb : PE X b tb) {pins : List (Addr × Obj)} {s : Shared} {σ : St} {H : Hp} {R : V → V → Hp → Prop} (I : Inv X pins σ H s)
    (h : ta σ H fun x H1 => tb σ H1 fun y H2 => R x y H2) {Q : Value → Shared → Prop} {f : Value → Value → Sem Value}
    (hf : ∀ v u s2 x y H2, Inv X pins σ H2 s2 → RelV x v → RelV y u → R x y H2 → wpAny (model X.prog X.w) X.A (f v u) Q X.xe s2) :
    wpAny (model X.prog X.w) X.A (eval a X.env) (fun v s₁ => wpAny (model X.prog X.w) X.A (eval b X.env) (fun u s₂ => wpAny (model X.prog X.w) X.A (f v u) Q X.xe s₂) X.xe s₁) X.xe s := by
  refine thn (ha pins s σ H _ I h) fun v s1 ⟨x, H1, I1, r1, q1⟩ => ?_
  refine thn (hb pins s1 σ H1 _ I1 q1) fun u s2 ⟨y, H2, I2, r2, q2⟩ => ?_
  exact hf v u s2 x y H2 I2 r1 r2 q2
theorem pe_op {op : Operator} {r : R2} (ho : OpR X (binaryOp op) r) (ha : PE X a ta) (hb : PE X b tb) : PE X (.BinOp a op b pos) (tOp r ta tb) := by
  intro pins s σ H Q I h
  exact wpAny_BinOp (binT ha hb I h fun v u s2 x y H2 I2 rx ry q => ho pins s2 σ H2 x y v u Q I2 rx ry q)
theorem pe_un {op : UnaryOp} {r : V → Hp → VK → Prop} (ho : UnR X (unaryOp op) r) (ha : PE X a ta) : PE X (.UnaryOp op a pos) (tUn r ta) := by
  intro pins s σ H Q I h
  exact UnaryOp_ (thn (ha pins s σ H _ I h) fun v s1 ⟨x, H1, I1, r1, q1⟩ => ho pins s1 σ H1 x v Q I1 r1 q1)
theorem opI {f : Value → Value → Sem Value} {C : Int → Int → Prop} {g : Int → Int → Int}
    (rule : ∀ (i j : Int) (t u : Tok) (s : Shared) (Q : Value → Shared → Prop) (E : Value → Shared → Prop), C i j → Q (.int (g i j) s.toks) { s with toks := s.toks + 1 } → wpAny (model X.prog X.w) X.A (f (.int i t) (.int j u)) Q E s) :
    OpR X f (rI C fun i j => .int (g i j)) := by
  intro pins s σ H x y v u Q I rx ry h
  obtain ⟨i, j, rfl, rfl, hc, q⟩ := h
  obtain ⟨t, rfl⟩ := rx
  obtain ⟨t', rfl⟩ := ry
  exact rule i j t t' s _ _ hc ⟨.int (g i j), H, I.tok _, ⟨_, rfl⟩, q⟩
theorem opI0 {f : Value → Value → Sem Value} {g : Int → Int → Int}
    (rule : ∀ (i j : Int) (t u : Tok) (s : Shared) (Q : Value → Shared → Prop) (E : Value → Shared → Prop), Q (.int (g i j) s.toks) { s with toks := s.toks + 1 } → wpAny (model X.prog X.w) X.A (f (.int i t) (.int j u)) Q E s) :
    OpR X f (rI0 fun i j => .int (g i j)) := by
  intro pins s σ H x y v u Q I rx ry h
  obtain ⟨i, j, rfl, rfl, q⟩ := h
  obtain ⟨t, rfl⟩ := rx
  obtain ⟨t', rfl⟩ := ry
  exact rule i j t t' s _ _ ⟨.int (g i j), H, I.tok _, ⟨_, rfl⟩, q⟩
theorem opB0 {f : Value → Value → Sem Value} {g : Int → Int → Bool}
    (rule : ∀ (i j : Int) (t u : Tok) (s : Shared) (Q : Value → Shared → Prop) (E : Value → Shared → Prop), Q (.bool (g i j)) s → wpAny (model X.prog X.w) X.A (f (.int i t) (.int j u)) Q E s) :
    OpR X f (rI0 fun i j => .bl (g i j)) := by
  intro pins s σ H x y v u Q I rx ry h
  obtain ⟨i, j, rfl, rfl, q⟩ := h
  obtain ⟨t, rfl⟩ := rx
  obtain ⟨t', rfl⟩ := ry
  exact rule i j t t' s _ _ ⟨.bl (g i j), H, I, rfl, q⟩
def CDiv (i j : Int) : Prop := 0 < j ∧ j < 1073741824
def CMul (i j : Int) : Prop := (-(2 ^ 64) < i ∧ i < 2 ^ 64) ∨ (-(2 ^ 64) < j ∧ j < 2 ^ 64)
theorem CMul.ok {i j : Int} (h : CMul i j) : IntMulOk i j := by
  rcases h with ⟨h1, h2⟩ | ⟨h1, h2⟩
  · exact .of_left (intBits_le_64 h1 h2)
  · exact .of_right (intBits_le_64 h1 h2)
theorem op_add : OpR X (binaryOp .Add) (rI0 fun i j => .int (i + j)) := opI0 fun _ _ _ _ _ _ _ q => add_int q
theorem op_sub : OpR X (binaryOp .Sub) (rI0 fun i j => .int (i - j)) := opI0 fun _ _ _ _ _ _ _ q => sub_int q
theorem op_fdiv : OpR X (binaryOp .FloorDiv) (rI CDiv fun i j => .int (i / j)) := opI fun i j _ _ _ _ _ hc q => by
  have h1 : (0 : Int) < j := hc.1
  have h2 : j < 1073741824 := hc.2
  exact floordiv_int (by omega) (by rw [Int.fdiv_eq_ediv_of_nonneg i (by omega)]; exact q) (.inl (PyProof.noPylong_small (by omega)))
theorem op_mod : OpR X (binaryOp .Mod) (rI (fun _ j => 0 < j) fun i j => .int (i % j)) := opI fun i j _ _ _ _ _ hc q => by
  have h1 : (0 : Int) < j := hc
  exact mod_int' (by omega) (by rw [Int.fmod_eq_emod_of_nonneg i (by omega)]; exact q)
theorem unI {f : Value → Sem Value} {g : Int → Int}
    (rule : ∀ (i : Int) (t : Tok) (s : Shared) (Q : Value → Shared → Prop) (E : Value → Shared → Prop), Q (.int (g i) s.toks) { s with toks := s.toks + 1 } → wpAny (model X.prog X.w) X.A (f (.int i t)) Q E s) :
    UnR X f (rU fun i => .int (g i)) := by
  intro pins s σ H x v Q I rx h
  obtain ⟨i, rfl, q⟩ := h
  obtain ⟨t, rfl⟩ := rx
  exact rule i t s _ _ ⟨.int (g i), H, I.tok _, ⟨_, rfl⟩, q⟩
theorem un_neg : UnR X (unaryOp .USub) (rU fun i => .int (-i)) := unI fun _ _ _ _ _ q => neg_int q
end
def scal : V → V → Bool
  | .non, .non => true | .non, .int _ => true | .int _, .non => true | .non, .bl _ => true | .bl _, .non => true | .non, .str _ => true | .str _, .non => true
  | .int _, .int _ => true | .bl _, .bl _ => true | .str _, .str _ => true | .byt _, .byt _ => true
  | .int _, .str _ => true | .str _, .int _ => true | .bl _, .str _ => true | .str _, .bl _ => true
  | _, _ => false
def rEq : R2 := fun x y H Q => scal x y = true ∧ Q (.bl (decide (x = y))) H
def rNe : R2 := fun x y H Q => scal x y = true ∧ Q (.bl (!decide (x = y))) H
theorem dec_int {i j : Int} : decide (V.int i = V.int j) = (i == j) := by
  rw [Bool.eq_iff_iff]
  simp
theorem dec_bl {i j : Bool} : decide (V.bl i = V.bl j) = (i == j) := by
  rw [Bool.eq_iff_iff]
  simp
theorem dec_str {i j : Str} : decide (V.str i = V.str j) = (i == j) := by
  rw [Bool.eq_iff_iff]
  simp
theorem dec_byt {i j : Array UInt8} : decide (V.byt i = V.byt j) = (i.toList == j.toList) := by
  rw [Bool.eq_iff_iff]
  cases i
  cases j
  simp
section
variable {X : Cx} {a b c : Expr} {ta tb tc : TE} {pos : Pos}
theorem fin_bl {pins : List (Addr × Obj)} {σ : St} {H : Hp} {s : Shared} {Q : VK} {k k' : Bool} (I : Inv X pins σ H s) (q : Q (.bl k) H) (e : k = k') : EP X pins σ Q (.bool k') s := by
  subst e
  exact ⟨.bl k, H, I, rfl, q⟩
theorem op_eq : OpR X (compareOp .Eq) rEq := by
  intro pins s σ H x y v u Q I rx ry h
  obtain ⟨hs, q⟩ := h
  cases x with
  | non =>
    cases rx
    cases y with
    | non => cases ry; exact PySem.EqNone.eq_none_none (fin_bl I q (by simp))
    | bl j => cases ry; exact PySem.EqNone.eq_none_bool (fin_bl I q (by simp))
    | int j => obtain ⟨t', rfl⟩ := ry; exact PySem.EqNone.eq_none_int (fin_bl I q (by simp))
    | str j => obtain ⟨t', rfl⟩ := ry; exact PySem.EqNone.eq_none_str (fin_bl I q (by simp))
    | _ => exact absurd (show false = true from hs) Bool.false_ne_true
  | bl i =>
    cases rx
    cases y with
    | non => cases ry; exact PySem.EqNone.eq_bool_none (fin_bl I q (by simp))
    | bl j => cases ry; exact eq_bool (fin_bl I q dec_bl)
    | str j => obtain ⟨t', rfl⟩ := ry; exact PySem.EqMixed.eq_bool_str (fin_bl I q (by simp))
    | _ => exact absurd (show false = true from hs) Bool.false_ne_true
  | int i =>
    obtain ⟨t, rfl⟩ := rx
    cases y with
    | non => cases ry; exact PySem.EqNone.eq_int_none (fin_bl I q (by simp))
    | int j => obtain ⟨t', rfl⟩ := ry; exact eq_int (fin_bl I q dec_int)
    | str j => obtain ⟨t', rfl⟩ := ry; exact PySem.EqMixed.eq_int_str (fin_bl I q (by simp))
    | _ => exact absurd (show false = true from hs) Bool.false_ne_true
  | str i =>
    obtain ⟨t, rfl⟩ := rx
    cases y with
    | non => cases ry; exact PySem.EqNone.eq_str_none (fin_bl I q (by simp))
    | bl j => cases ry; exact PySem.EqMixed.eq_str_bool (fin_bl I q (by simp))
    | int j => obtain ⟨t', rfl⟩ := ry; exact PySem.EqMixed.eq_str_int (fin_bl I q (by simp))
    | str j => obtain ⟨t', rfl⟩ := ry; exact eq_str (fin_bl I q dec_str)
    | _ => exact absurd (show false = true from hs) Bool.false_ne_true
  | byt i =>
    obtain ⟨t, rfl⟩ := rx
    cases y with
    | byt j => obtain ⟨t', rfl⟩ := ry; exact PySem.W.eq_bytes (fin_bl I q dec_byt)
    | _ => exact absurd (show false = true from hs) Bool.false_ne_true
  | _ => cases y <;> exact absurd (show false = true from hs) Bool.false_ne_true
theorem op_ne : OpR X (compareOp .NotEq) rNe := by
  intro pins s σ H x y v u Q I rx ry h
  obtain ⟨hs, q⟩ := h
  cases x with
  | non =>
    cases rx
    cases y with
    | non => cases ry; exact PySem.EqNone.ne_none_none (fin_bl I q (by simp))
    | bl j => cases ry; exact PySem.EqNone.ne_none_bool (fin_bl I q (by simp))
    | int j => obtain ⟨t', rfl⟩ := ry; exact PySem.EqNone.ne_none_int (fin_bl I q (by simp))
    | str j => obtain ⟨t', rfl⟩ := ry; exact PySem.EqNone.ne_none_str (fin_bl I q (by simp))
    | _ => exact absurd (show false = true from hs) Bool.false_ne_true
  | bl i =>
    cases rx
    cases y with
    | non => cases ry; exact PySem.EqNone.ne_bool_none (fin_bl I q (by simp))
    | bl j => cases ry; exact ne_bool (fin_bl I q (congrArg not dec_bl))
    | str j => obtain ⟨t', rfl⟩ := ry; exact PySem.EqMixed.ne_bool_str (fin_bl I q (by simp))
    | _ => exact absurd (show false = true from hs) Bool.false_ne_true
  | int i =>
    obtain ⟨t, rfl⟩ := rx
    cases y with
    | non => cases ry; exact PySem.EqNone.ne_int_none (fin_bl I q (by simp))
    | int j => obtain ⟨t', rfl⟩ := ry; exact ne_int (fin_bl I q (congrArg not dec_int))
    | str j => obtain ⟨t', rfl⟩ := ry; exact PySem.EqMixed.ne_int_str (fin_bl I q (by simp))
    | _ => exact absurd (show false = true from hs) Bool.false_ne_true
  | str i =>
    obtain ⟨t, rfl⟩ := rx
    cases y with
    | non => cases ry; exact PySem.EqNone.ne_str_none (fin_bl I q (by simp))
    | bl j => cases ry; exact PySem.EqMixed.ne_str_bool (fin_bl I q (by simp))
    | int j => obtain ⟨t', rfl⟩ := ry; exact PySem.EqMixed.ne_str_int (fin_bl I q (by simp))
    | str j => obtain ⟨t', rfl⟩ := ry; exact ne_str (fin_bl I q (congrArg not dec_str))
    | _ => exact absurd (show false = true from hs) Bool.false_ne_true
  | byt i =>
    obtain ⟨t, rfl⟩ := rx
    cases y with
    | byt j => obtain ⟨t', rfl⟩ := ry; exact PySem.W.ne_bytes (fin_bl I q (congrArg not dec_byt))
    | _ => exact absurd (show false = true from hs) Bool.false_ne_true
  | _ => cases y <;> exact absurd (show false = true from hs) Bool.false_ne_true
theorem op_lt : OpR X (compareOp .Lt) (rI0 fun i j => .bl (decide (i < j))) := opB0 fun _ _ _ _ _ _ _ q => lt_int q
theorem op_le : OpR X (compareOp .LtE) (rI0 fun i j => .bl (decide (i ≤ j))) := opB0 fun _ _ _ _ _ _ _ q => le_int q
theorem op_gt : OpR X (compareOp .Gt) (rI0 fun i j => .bl (decide (j < i))) := opB0 fun _ _ _ _ _ _ _ q => gt_int q
theorem op_in_str : OpR X (compareOp .In) (fun x y H Q => ∃ i j, x = .str i ∧ y = .str j ∧ Q (.bl (!(Builtin.Str.occurrences j i 0 j.length 1).isEmpty)) H) := by
  intro pins s σ H x y v u Q I rx ry h
  obtain ⟨i, j, rfl, rfl, q⟩ := h
  obtain ⟨t, rfl⟩ := rx
  obtain ⟨t', rfl⟩ := ry
  exact in_str (fin_bl I q rfl)
theorem op_isN : OpR X (compareOp .Is) (fun x y H Q => y = .non ∧ Q (.bl (decide (x = .non))) H) := by
  intro pins s σ H x y v u Q I rx ry h
  obtain ⟨rfl, q⟩ := h
  cases ry
  refine is_none_gen (fin_bl I q ?_)
  cases x <;> first
    | (cases rx; rfl)
    | (obtain ⟨t, rfl⟩ := rx; rfl)
theorem op_notN : OpR X (compareOp .IsNot) (fun x y H Q => y = .non ∧ Q (.bl (!decide (x = .non))) H) := by
  intro pins s σ H x y v u Q I rx ry h
  obtain ⟨rfl, q⟩ := h
  cases ry
  refine isnot_none_gen (fin_bl I q ?_)
  cases x <;> first
    | (cases rx; rfl)
    | (obtain ⟨t, rfl⟩ := rx; rfl)
theorem op_notin_str : OpR X (compareOp .NotIn) (fun x y H Q => ∃ i j, x = .str i ∧ y = .str j ∧ Q (.bl (!(!(Builtin.Str.occurrences j i 0 j.length 1).isEmpty))) H) := by
  intro pins s σ H x y v u Q I rx ry h
  obtain ⟨i, j, rfl, rfl, q⟩ := h
  obtain ⟨t, rfl⟩ := rx
  obtain ⟨t', rfl⟩ := ry
  exact notIn_str (fin_bl I q rfl)
theorem OpR.or {f : Value → Value → Sem Value} {r r' : R2} (h : OpR X f r) (h' : OpR X f r') : OpR X f (fun x y H Q => r x y H Q ∨ r' x y H Q) := by
  intro pins s σ H x y v u Q I rx ry q
  rcases q with q | q
  · exact h pins s σ H x y v u Q I rx ry q
  · exact h' pins s σ H x y v u Q I rx ry q
theorem nomark (b : Expr) {op : CmpOp} (h : op ≠ .In := by decide) (h2 : op ≠ .NotIn := by decide) : behindInMarks op b = false := by
  have e1 : (op == CmpOp.In) = false := by cases op <;> first | rfl | exact absurd rfl h
  have e2 : (op == CmpOp.NotIn) = false := by cases op <;> first | rfl | exact absurd rfl h2
  cases b <;> simp [behindInMarks, e1, e2]
theorem pe_cmpR {op : CmpOp} {r : R2} (ho : OpR X (compareOp op) r) (ha : PE X a ta) (hb : PE X b tb) (hm : behindInMarks op b = false) : PE X (.Compare a [op] [b] pos) (tOp r ta tb) := by
  intro pins s σ H Q I h
  exact wpAny_Compare1 (binT ha hb I h fun v u s2 x y H2 I2 rx ry q => ho pins s2 σ H2 x y v u Q I2 rx ry q) hm
def tTest (t : TE) : TT := fun σ H Q => t σ H fun x H' => ∃ k, x = .bl k ∧ Q k H'
theorem pt_cmpR {op : CmpOp} {r : R2} (ho : OpR X (compareOp op) r) (ha : PE X a ta) (hb : PE X b tb) (hm : behindInMarks op b = false) : PT X (.Compare a [op] [b] pos) (tTest (tOp r ta tb)) := by
  intro pins s σ H Q I h
  refine wpAny_isTrue_Compare1 (thn (ha pins s σ H _ I h) fun v s1 ⟨x, H1, I1, r1, q1⟩ => thn (hb pins s1 σ H1 _ I1 q1) fun u s2 ⟨y, H2, I2, r2, q2⟩ =>
    thn (ho pins s2 σ H2 x y v u _ I2 r1 r2 q2) fun c s3 ⟨z, H3, I3, r3, k, e, q3⟩ => ?_) hm
  subst e
  cases r3
  exact wpAny_truthy_bool ⟨H3, I3, q3⟩
def tChain (r r' : R2) (ta tb tc : TE) : TE := fun σ H Q => ta σ H fun x H1 => tb σ H1 fun y H2 => r x y H2 fun z H3 => ∃ k, z = .bl k ∧
  (if k = true then tc σ H3 fun w' H4 => r' y w' H4 Q else Q (.bl false) H3)
theorem pe_chain {op op' : CmpOp} {r r' : R2} (ho : OpR X (compareOp op) r) (ho' : OpR X (compareOp op') r') (ha : PE X a ta) (hb : PE X b tb) (hc : PE X c tc)
    (hm : lastMarks [op, op'] [b, c] = false := by with_unfolding_all rfl) : PE X (.Compare a [op, op'] [b, c] pos) (tChain r r' ta tb tc) := by
  intro pins s σ H Q I h
  refine Compare_chain (thn (ha pins s σ H _ I h) fun v s1 ⟨x, H1, I1, r1, q1⟩ => chain_link (thn (hb pins s1 σ H1 _ I1 q1) fun u s2 ⟨y, H2, I2, r2, q2⟩ =>
    thn (ho pins s2 σ H2 x y v u _ I2 r1 r2 q2) fun d s3 ⟨z, H3, I3, r3, k, e, q3⟩ => ?_)) hm
  subst e
  cases r3
  refine wpAny_truthy_bool ?_
  cases k with
  | false => exact ite_ff ⟨.bl false, H3, I3, rfl, q3⟩
  | true => exact ite_tt (chain_last (thn (hc pins s3 σ H3 _ I3 q3) fun w' s4 ⟨z', H4, I4, r4, q4⟩ => ho' pins s4 σ H4 y z' u w' Q I4 r2 r4 q4))
def TruV (K : PySem.W.Frag) (x : V) (H : Hp) (k : Bool) : Prop :=
  match x with
  | .non => k = false
  | .bl b => k = b
  | .int i => k = (i != 0)
  | .str y => y.length ≤ sizeLine ∧ k = ((y.length : Int) != 0)
  | .byt y => y.size ≤ sizeLine ∧ k = ((y.size : Int) != 0)
  | .ref p => (∃ xs, SqL K H p xs ∧ k = !xs.isEmpty) ∨ (∃ xs, SqT K H p xs ∧ k = !xs.isEmpty) ∨ ∃ kvs, H p = some (.dK kvs) ∧ k = !kvs.isEmpty
  | _ => False
theorem isEmpty_kv {κ : Type} {kvs : List (κ × V)} {vs : List (κ × Value)} (r : KV kvs vs) : (!vs.isEmpty) = !kvs.isEmpty := by
  cases r <;> rfl
theorem isEmpty_of {xs : List V} {its : List Value} (r : Vals xs its) : (!its.toArray.isEmpty) = !xs.isEmpty := by
  cases r <;> simp
theorem line63 : (sizeLine : Nat) < 2 ^ 63 := by rw [sizeLine_eq]; decide
theorem tru_ok : TruR X (fun x H Q => ∃ k, TruV X.K x H k ∧ Q k H) := by
  intro pins s σ H x v Q I rx h
  obtain ⟨k, e, q⟩ := h
  have hl := line63
  have hs : sizeLine = 16777216 := sizeLine_eq
  cases x with
  | non =>
    cases rx
    have e' : k = false := e
    subst e'
    exact truthy_none ⟨H, I, q⟩
  | bl b =>
    cases rx
    have e' : k = b := e
    subst e'
    exact wpAny_truthy_bool ⟨H, I, q⟩
  | int i =>
    obtain ⟨t, rfl⟩ := rx
    have e' : k = (i != 0) := e
    subst e'
    exact PySem.P.truthy_int ⟨H, I, q⟩
  | str y =>
    obtain ⟨t, rfl⟩ := rx
    obtain ⟨hy, e'⟩ : y.length ≤ sizeLine ∧ k = ((y.length : Int) != 0) := e
    subst e'
    exact PySem.P.truthy_str (by omega) ⟨H, I.tok _, q⟩
  | byt y =>
    obtain ⟨t, rfl⟩ := rx
    obtain ⟨hy, e'⟩ : y.size ≤ sizeLine ∧ k = ((y.size : Int) != 0) := e
    subst e'
    exact PySem.W.truthy_bytes (by omega) ⟨H, I.tok _, q⟩
  | ref p =>
    cases rx
    have e' : (∃ xs, SqL X.K H p xs ∧ k = !xs.isEmpty) ∨ (∃ xs, SqT X.K H p xs ∧ k = !xs.isEmpty) ∨ ∃ kvs, H p = some (.dK kvs) ∧ k = !kvs.isEmpty := e
    rcases e' with ⟨xs, hx, e'⟩ | ⟨xs, hx, e'⟩ | ⟨kvs, hx, e'⟩
    · subst e'
      obtain ⟨its, r, pl, hz⟩ := I.list hx
      have hlen := r.length
      exact wpAny_truthy_list pl.isList (by simp only [List.size_toArray]; omega) ⟨H, I.tok _, by rw [isEmpty_of r]; exact q⟩
    · subst e'
      obtain ⟨its, r, pl, hz⟩ := I.tuple hx
      have hlen := r.length
      exact truthy_tuple pl (by simp only [List.size_toArray]; omega) ⟨H, I.tok _, by rw [isEmpty_of r]; exact q⟩
    · subst e'
      obtain ⟨hz, hS, vs, r, m⟩ : kvs.length ≤ sizeLine ∧ (p == sysModules) = false ∧ ∃ vs, KV kvs vs ∧ s.heap.DictOf (mixKind X.prog X.w) p vs := I.hok p _ hx
      have hlen : kvs.length = vs.length := Paired.length r
      exact wpAny_truthy_dict hS m (by omega) ⟨H, I.tok _, by rw [isEmpty_kv r]; exact q⟩
  | _ => exact (show False from e).elim
theorem pt_truth (ha : PE X a ta) (he : ∀ whole, isTrue a X.env whole = (do let v ← whole; standAt a.pos; holding [v] (truthy v))) :
    PT X a (fun σ H Q => ta σ H fun x H' => ∃ k, TruV X.K x H' k ∧ Q k H') := by
  intro pins s σ H Q I h
  exact isTrue_plain (thn (ha pins s σ H _ I h) fun v s1 ⟨x, H1, I1, r1, q1⟩ => tru_ok pins s1 σ H1 x v Q I1 r1 q1) (he _)
theorem op_add_str : OpR X (binaryOp .Add) (fun x y H Q => ∃ i j, x = .str i ∧ y = .str j ∧ i.length + j.length ≤ sizeLine ∧ Q (.str (i ++ j)) H) := by
  intro pins s σ H x y v u Q I rx ry h
  obtain ⟨i, j, rfl, rfl, hz, q⟩ := h
  obtain ⟨t, rfl⟩ := rx
  obtain ⟨t', rfl⟩ := ry
  exact add_str (fun t' tk => ⟨.str (i ++ j), H, I.tok _, ⟨_, rfl⟩, q⟩) hz
theorem vals1 {x : V} {us : List Value} (r : Vals [x] us) : ∃ u, us = [u] ∧ RelV x u := by
  cases r with
  | cons r1 r2 => cases r2; exact ⟨_, rfl, r1⟩
theorem vals2 {x y : V} {us : List Value} (r : Vals [x, y] us) : ∃ u w', us = [u, w'] ∧ RelV x u ∧ RelV y w' := by
  cases r with
  | cons r1 r2 =>
    cases r2 with
    | cons r3 r4 => cases r4; exact ⟨_, _, rfl, r1, r3⟩
theorem call_int1 : CallR X (.type "int") (fun xs H Q => (∃ i, xs = [.int i] ∧ Q (.int i) H) ∨ ∃ k, xs = [.bl k] ∧ Q (.int (if k then 1 else 0)) H) := by
  intro pins s σ H xs us Q I r h
  rcases h with ⟨i, rfl, q⟩ | ⟨k, rfl, q⟩
  · obtain ⟨u, rfl, t, rfl⟩ := vals1 r
    exact call_int_int ⟨.int i, H, I, ⟨_, rfl⟩, q⟩
  · obtain ⟨u, rfl, r1⟩ := vals1 r
    cases r1
    exact call_int_bool ⟨.int (if k then 1 else 0), H, I.tok _, ⟨_, rfl⟩, q⟩
def LenV (K : PySem.W.Frag) (x : V) (H : Hp) (n : Nat) : Prop :=
  match x with
  | .str y => y.length ≤ sizeLine ∧ n = y.length
  | .byt y => y.size ≤ sizeLine ∧ n = y.size
  | .ref p => (∃ xs, SqL K H p xs ∧ n = xs.length) ∨ ∃ xs, SqT K H p xs ∧ n = xs.length
  | _ => False
theorem call_len : CallR X (.builtin "len") (fun xs H Q => ∃ x n, xs = [x] ∧ LenV X.K x H n ∧ Q (.int n) H) := by
  intro pins s σ H xs us Q I r h
  obtain ⟨x, n, rfl, e, q⟩ := h
  obtain ⟨u, rfl, rx⟩ := vals1 r
  have hl := line63
  have hs : sizeLine = 16777216 := sizeLine_eq
  cases x with
  | str y =>
    obtain ⟨t, rfl⟩ := rx
    obtain ⟨hy, e'⟩ : y.length ≤ sizeLine ∧ n = y.length := e
    subst e'
    exact len_str (by omega) ⟨.int _, H, I.tok _, ⟨_, rfl⟩, q⟩
  | byt y =>
    obtain ⟨t, rfl⟩ := rx
    obtain ⟨hy, e'⟩ : y.size ≤ sizeLine ∧ n = y.size := e
    subst e'
    exact PySem.W.len_bytes (by omega) ⟨.int _, H, I.tok _, ⟨_, rfl⟩, q⟩
  | ref p =>
    cases rx
    have e' : (∃ xs, SqL X.K H p xs ∧ n = xs.length) ∨ ∃ xs, SqT X.K H p xs ∧ n = xs.length := e
    rcases e' with ⟨xs, hx, e'⟩ | ⟨xs, hx, e'⟩
    · subst e'
      obtain ⟨its, r', pl, hz⟩ := I.list hx
      have hlen := r'.length
      exact Calls.call_len_list pl.isList (by simp only [List.size_toArray]; omega) ⟨.int xs.length, H, I.tok _, ⟨_, by simp only [List.size_toArray]; rw [hlen]⟩, q⟩
    · subst e'
      obtain ⟨its, r', pl, hz⟩ := I.tuple hx
      have hlen := r'.length
      exact len_tuple pl (by simp only [List.size_toArray]; omega) ⟨.int xs.length, H, I.tok _, ⟨_, by simp only [List.size_toArray]; rw [hlen]⟩, q⟩
  | _ => exact (show False from e).elim
end
end L2
namespace L2
open PySem PySem.Spec PyProof.Rows
structure ObjM (h : Heap) (x dx C : Addr) (mA : Str → Option Value) : Prop where
  obj : h.get? x = some (PySem.W.instObj C dx)
  ns : h.Ns1 dx mA
  ne : dx ≠ x
theorem lookIn_ns {h : Heap} {dx : Addr} {mA : Str → Option Value} (n : h.Ns1 dx mA) : ∃ od, h.get? dx = some od ∧ ∀ name, PySem.W.lookIn name od = some (mA name) := by
  obtain ⟨o, es, ep, ho, hd, hk, _, hm⟩ := n
  refine ⟨o, ho, fun name => ?_⟩
  have e := hm name
  unfold nsFind findBy at e
  rw [← Array.find?_toList] at e
  unfold PySem.W.lookIn
  rw [hd]
  dsimp only
  split
  · rename_i y q
    rw [q] at e
    exact congrArg some e
  · rename_i q
    rw [q] at e
    have a : es.toList.any (·.refKey) = false := by
      rw [List.any_eq_false]
      intro y hy
      obtain ⟨z, t, hkey⟩ := hk y (Array.mem_toList_iff.mp hy)
      simp [DictEntry.refKey, hkey]
    have a' : ¬ es.toList.any (·.refKey) = true := by rw [a]; exact Bool.false_ne_true
    rw [if_neg a']
    exact congrArg some e
theorem ObjM.look {h : Heap} {x dx C : Addr} {mA : Str → Option Value} (I : ObjM h x dx C mA) : ∃ od, PySem.W.InstAt h x (PySem.W.instObj C dx) C (some od) ∧ ∀ name, PySem.W.lookIn name od = some (mA name) :=
  let ⟨od, ho, hl⟩ := lookIn_ns I.ns
  ⟨od, ⟨I.obj, rfl, rfl, ho⟩, hl⟩
section
variable {prog : Program} {w : World} {A : Around} {E : Value → Shared → Prop} {s : Shared} {K : PySem.W.Frag} {x dx C f : Addr} {mA : Str → Option Value} {name : Str} {v : Value}
theorem get_map {expr : Bool} {Q : Value → Shared → Prop} (X : K.In s.heap) (I : ObjM s.heap x dx C mA) (hg : PySem.W.plainGet K C name = true) (hh : PySem.W.hasDictIn K C = true)
    (ha : PySem.W.findIn K (.ref C) name = some none) (hv : mA name = some v) (hv' : PySem.W.handedIn v = true) (h : Q v { s with toks := s.toks + 1 }) :
    wpAny (model prog w) A (getAttr (.ref x) name expr) Q E s := by
  obtain ⟨od, J, hl⟩ := I.look
  exact PySem.W.get_value X J (PySem.W.plainGet_of hg).1 (PySem.W.findObj_own hh ha rfl (by rw [hl, hv])) hv' h
theorem get_meth {pl : Sem Bool} {Q : Value × List Value → Shared → Prop} (X : K.In s.heap) (I : ObjM s.heap x dx C mA) (hg : PySem.W.plainGet K C name = true)
    (hf : PySem.W.findIn K (.ref C) name = some (some (.ref f))) (ht : PySem.W.isFn K (.ref f) = true) (hv : mA name = none) (h : Q (.ref f, [.ref x]) s) :
    wpAny (model prog w) A (getMethod (.ref x) name pl) Q E s := by
  obtain ⟨od, J, hl⟩ := I.look
  exact PySem.W.method_fn X J (PySem.W.plainGet_of hg).1 (PySem.W.plainGet_of hg).2 hf (beq_iff_eq.mp ht) (by show (PySem.W.lookIn name od).map (·.isSome) = some false; rw [hl, hv]; rfl) h
theorem set_map {ns : List Str} {Q : Unit → Shared → Prop} (X : K.In s.heap) (I : ObjM s.heap x dx C mA)
    (hs : PySem.W.findIn K (.ref C) "__setattr__" = some (some (.builtin "object.__setattr__"))) (hp : PySem.W.plainOver K C = true) (ht : PySem.W.takerIn K C name = some none) (hh : PySem.W.hasDictIn K C = true)
    (hw : PySem.Within mA ns) (hsz : ns.length ≤ sizeLine)
    (h : ∀ h', ObjM h' x dx C (fun y => if y = name then some v else mA y) → Heap.SameBut dx s.heap h' → Q () { s with heap := h', toks := s.toks + 2 }) :
    wpAny (model prog w) A (setAttr (.ref x) name v) Q E s := by
  obtain ⟨od, J, hl⟩ := I.look
  refine PySem.W.set_plain X J hs (PySem.W.osa_open (s := { s with toks := s.toks + 1 }) (r := none) X J hp ht fun b => ?_)
  obtain ⟨cd, hc, hd'⟩ := PySem.W.any_some hh
  have hx : s.heap.get? x = some ⟨.ref C, some dx, .plain, #[]⟩ := I.obj
  refine wpAny_bind (wpAny_pure (wpAny_bind (wpAny_bind (wpAny_loadPart hx (wpAny_bind (PySem.W.Looks.here (s := { s with toks := s.toks + 1 }) (PySem.W.looks_clsIn X hc) ?_))))))
  rw [hd']
  refine wpAny_pure (a := some dx) (wpAny_bind (wpAny_pure (wpAny_bind ?_)))
  refine wpAny_nsSet1 (s := { s with toks := s.toks + 1 }) I.ns fun h' hn2 hs2 => ?_
  obtain ⟨oD, esD, epD, hoD, hdD, hcD⟩ := hn2.count (PySem.Within.cons name v hw)
  refine wpAny_bind (wpAny_lookBehind hoD (by rw [hdD]; exact pastItsLine_dict (Nat.le_trans hcD (by rw [List.length_cons]; omega))) ?_)
  exact wpAny_pure (h _ ⟨(hs2.2 _ (Ne.symm I.ne)).trans I.obj, hn2, I.ne⟩ hs2)
theorem make_map {R : Result → Shared → Prop} {vs : List Value} {kw : List (Str × Value)} (X : K.In s.heap) (hm : PySem.W.makesIn K C = true)
    (hi : PySem.W.findIn K (.ref C) "__init__" = some (some (.ref f))) (hf : PySem.W.typeIn K (.ref f) = some (.type "function"))
    (h : codeAny (model prog w) (A.under (.builtin "type.__call__" ⟨.ref C :: vs, kw⟩)) (.call (.ref f) ⟨.ref (s.heap.objs.size + 1) :: vs, kw⟩) (PySem.W.InitBack (s.heap.objs.size + 1) R)
      { s with heap := (s.heap.push PySem.W.emptyDict).push (PySem.W.instObj C s.heap.objs.size) }) :
    codeAny (model prog w) A (.call (.ref C) ⟨vs, kw⟩) R s := by
  obtain ⟨hh, g, d, t, os⟩ := s
  exact PySem.W.make_core (PySem.W.makes_of X hm) (PySem.W.looks_findIn X hi) (fun self => PySem.W.bind_fn X self hf) (.inl rfl) h
end
def putF (f : Str) (v : V) : List (Str × V) → List (Str × V)
  | [] => [(f, v)]
  | (g, x) :: r => if g = f then (g, v) :: r else (g, x) :: putF f v r
theorem lookup_putF (f g : Str) (v : V) : ∀ fs : List (Str × V), (putF f v fs).lookup g = if g = f then some v else fs.lookup g
  | [] => by
    show List.lookup g [(f, v)] = _
    by_cases h : g = f
    · have hb : (g == f) = true := beq_iff_eq.mpr h
      simp only [List.lookup, hb, if_pos h]
    · have hb : (g == f) = false := beq_eq_false_iff_ne.mpr h
      simp only [List.lookup, hb, if_neg h]
  | (k, x) :: r => by
    have ih := lookup_putF f g v r
    rw [show putF f v ((k, x) :: r) = (if k = f then (k, v) :: r else (k, x) :: putF f v r) from rfl]
    by_cases hk : k = f
    · rw [if_pos hk]
      by_cases h : g = k
      · have hb : (g == k) = true := beq_iff_eq.mpr h
        simp only [List.lookup, hb, if_pos (h.trans hk)]
      · have hb : (g == k) = false := beq_eq_false_iff_ne.mpr h
        simp only [List.lookup, hb, if_neg (fun e : g = f => h (e.trans hk.symm))]
    · rw [if_neg hk]
      by_cases h : g = k
      · have hb : (g == k) = true := beq_iff_eq.mpr h
        simp only [List.lookup, hb, if_neg (fun e : g = f => hk (h.symm.trans e))]
      · have hb : (g == k) = false := beq_eq_false_iff_ne.mpr h
        simp only [List.lookup, hb]
        exact ih
theorem keys_putF (f : Str) (v : V) : ∀ fs : List (Str × V), f ∈ (putF f v fs).map (·.1) ∧ ∀ g, g ∈ fs.map (·.1) → g ∈ (putF f v fs).map (·.1)
  | [] => ⟨by simp [putF], fun g h => by simp at h⟩
  | (k, x) :: r => by
    obtain ⟨i1, i2⟩ := keys_putF f v r
    rw [show putF f v ((k, x) :: r) = (if k = f then (k, v) :: r else (k, x) :: putF f v r) from rfl]
    by_cases hk : k = f
    · rw [if_pos hk]
      subst hk
      exact ⟨by simp, fun g h => by simpa using h⟩
    · rw [if_neg hk]
      refine ⟨?_, fun g h => ?_⟩
      · rw [List.map_cons]
        exact List.mem_cons_of_mem _ i1
      · rw [List.map_cons] at h ⊢
        rcases List.mem_cons.mp h with e | e
        · exact List.mem_cons.mpr (.inl e)
        · exact List.mem_cons_of_mem _ (i2 g e)
theorem length_putF (f : Str) (v : V) : ∀ fs : List (Str × V), (putF f v fs).length ≤ fs.length + 1
  | [] => by simp [putF]
  | (k, x) :: r => by
    have ih := length_putF f v r
    rw [show putF f v ((k, x) :: r) = (if k = f then (k, v) :: r else (k, x) :: putF f v r) from rfl]
    by_cases hk : k = f
    · rw [if_pos hk, List.length_cons, List.length_cons]; omega
    · rw [if_neg hk, List.length_cons, List.length_cons]; omega
theorem RelO.some_of {v : V} {o : Option Value} (r : RelO (some v) o) : ∃ u, o = some u ∧ RelV v u := by
  cases o with
  | none => exact (show False from r).elim
  | some u => exact ⟨u, rfl, r⟩
theorem RelO.none_of {o : Option Value} (r : RelO none o) : o = none := by
  cases o with
  | none => rfl
  | some u => exact (show False from r).elim
theorem handed_of {v : V} {u : Value} (r : RelV v u) : PySem.W.handedIn u = true := by
  cases v with
  | non => cases (show u = Value.none from r); rfl
  | bl b => cases (show u = Value.bool b from r); rfl
  | int i => obtain ⟨t, e⟩ := (show ∃ t, u = Value.int i t from r); cases e; rfl
  | str x => obtain ⟨t, e⟩ := (show ∃ t, u = Value.str x t from r); cases e; rfl
  | byt b => obtain ⟨t, e⟩ := (show ∃ t, u = Value.bytes b t from r); cases e; rfl
  | flt b => obtain ⟨t, e⟩ := (show ∃ t, u = Value.float b t from r); cases e; rfl
  | ref a => cases (show u = Value.ref a from r); rfl
  | ty n => cases (show u = Value.type n from r); rfl
section
variable {P : Program} {w : World} {H H' : Hp} {h h' : Heap} {a C dx : Addr} {fs fs' : List (Str × V)}
theorem ins_get (hok : HOk P w H h) (e : H a = some (.ins C dx fs)) : ∃ mA, ObjM h a dx C mA ∧ (∀ f, RelO (fs.lookup f) (mA f)) ∧ PySem.Within mA (fs.map (·.1)) ∧ fs.length ≤ 1000 ∧ H dx = some (.own a) := by
  obtain ⟨d, z, ne, ob, mA, n, r, q⟩ := (show ObjOk P w H h a (.ins C dx fs) from hok a _ e)
  exact ⟨mA, ⟨ob, n, ne⟩, r, q, z, d⟩
end
structure Cls (K : PySem.W.Frag) (C : Addr) : Prop where
  pg : PySem.W.plainGet K C Str.empty = true
  hd : PySem.W.hasDictIn K C = true
  po : PySem.W.plainOver K C = true
  sa : PySem.W.findIn K (.ref C) "__setattr__" = some (some (.builtin "object.__setattr__"))
theorem Cls.get {K : PySem.W.Frag} {C : Addr} (c : Cls K C) (f : Str) : PySem.W.plainGet K C f = true := c.pg
def NoAttr (K : PySem.W.Frag) (C : Addr) (f : Str) : Prop := PySem.W.findIn K (.ref C) f = some none
theorem NoAttr.taker {K : PySem.W.Frag} {C : Addr} {f : Str} (n : NoAttr K C f) : PySem.W.takerIn K C f = some none := by
  unfold PySem.W.takerIn
  rw [show PySem.W.findIn K (.ref C) f = some none from n]
  rfl
structure Meth (K : PySem.W.Frag) (C : Addr) (m : Str) (f : Addr) : Prop where
  at_ : PySem.W.findIn K (.ref C) m = some (some (.ref f))
  fn : PySem.W.isFn K (.ref f) = true
  kp : PySem.W.keepIn K (.ref f) = true
section
variable {X : Cx} {pins : List (Addr × Obj)} {σ : St} {H : Hp} {s : Shared} {a C dx : Addr} {fs : List (Str × V)} {f : Str} {v : V} {A : Around} {E : Value → Shared → Prop}
theorem setattr_ok {y : V} {u : Value} {Q : Unit → Shared → Prop} (I : Inv X pins σ H s) (e : H a = some (.ins C dx fs)) (c : Cls X.K C) (n : NoAttr X.K C f) (hl : fs.length < 1000) (ry : RelV y u)
    (h : ∀ s', Inv X pins σ (upd H a (.ins C dx (putF f y fs))) s' → Q () s') : wpAny (model X.prog X.w) A (setAttr (.ref a) f u) Q E s := by
  obtain ⟨mA, O, r, wi, _, ho⟩ := ins_get I.hok e
  have hz : (fs.map (·.1)).length ≤ sizeLine := by rw [List.length_map, sizeLine_eq]; omega
  refine set_map I.kIn O c.sa c.po n.taker c.hd wi hz fun h' O' sb => h _ ?_
  have hd : ∃ o, h'.get? dx = some o := let ⟨o, _, _, e', _⟩ := O'.ns; ⟨o, e'⟩
  refine I.write (x := a) (e := dx) (by rw [e]; exact True.intro) (.inr ho) (fun b q hb z => (sb.2 b hb).trans z) hd ?_
  refine ⟨by rw [upd_ne O.ne]; exact ho, ?_, O.ne, O'.obj, _, O'.ns, fun g => ?_, fun g hg => ?_⟩
  · have := length_putF f y fs; omega
  · show RelO ((putF f y fs).lookup g) (if g = f then some u else mA g)
    rw [lookup_putF]
    by_cases q : g = f
    · rw [if_pos q, if_pos q]; exact ry
    · rw [if_neg q, if_neg q]; exact r g
  · by_cases q : g = f
    · rw [q]; exact (keys_putF f y fs).1
    · refine (keys_putF f y fs).2 g (wi g fun z => hg ?_)
      show (if g = f then some u else mA g) = none
      rw [if_neg q]; exact z
theorem Inv.made (I : Inv X pins σ H s) : Inv X pins σ (upd (upd H s.heap.objs.size (.own (s.heap.objs.size + 1))) (s.heap.objs.size + 1) (.ins C s.heap.objs.size []))
    { s with heap := (s.heap.push PySem.W.emptyDict).push (PySem.W.instObj C s.heap.objs.size) } := by
  have e1 : (s.heap.push PySem.W.emptyDict).get? s.heap.objs.size = some PySem.W.emptyDict := Heap.get?_push_size s.heap rfl
  have e2 : ((s.heap.push PySem.W.emptyDict).push (PySem.W.instObj C s.heap.objs.size)).get? (s.heap.objs.size + 1) = some (PySem.W.instObj C s.heap.objs.size) := by
    have := Heap.get?_push_size (s.heap.push PySem.W.emptyDict) (o := PySem.W.instObj C s.heap.objs.size) rfl
    rwa [Heap.size_push] at this
  have e3 : (s.heap.push PySem.W.emptyDict).Ns s.heap.objs.size (fun _ => none) := ⟨PySem.W.emptyDict, #[], _, e1, rfl, (fun e he => absurd he (by simp)), fun _ => rfl⟩
  have I1 := I.laid (a := s.heap.objs.size) (o := .own (s.heap.objs.size + 1)) (h' := s.heap.push PySem.W.emptyDict) (t' := s.toks) (fun b u q => Heap.get?_push_of_some _ q) (Nat.le_refl _) ⟨_, e1⟩
  refine I1.laid (a := s.heap.objs.size + 1) (o := .ins C s.heap.objs.size []) (t' := s.toks) (fun b u q => Heap.get?_push_of_some _ q) (Nat.le_of_eq (Heap.size_push _ _)) ?_
  have ne : s.heap.objs.size ≠ s.heap.objs.size + 1 := Nat.ne_of_lt (Nat.lt_succ_self _)
  refine ⟨by rw [upd_ne ne, upd_same], Nat.zero_le _, ne, e2, fun _ => none, (Heap.Ns1.of_empty e3).at fun o q => Heap.get?_push_of_some _ q, fun _ => True.intro, fun y hy => absurd rfl hy⟩
theorem attr_of {prog : Program} {w : World} {env : Env} {e : Expr} {f : Str} {pos : Pos} {s : Shared} {Q : Value → Shared → Prop} (hb : attributeBase e f env (eval e env) = eval e env)
    (h : wpAny (model prog w) A (eval e env) (fun o s₁ => wpAny (model prog w) A (getAttr o f true) Q E s₁) E s) : wpAny (model prog w) A (eval (.Attribute e f pos) env) Q E s :=
  Attribute_any_ h (by rw [arm_eval_Attribute, hb])
end
def sFld (K : PySem.W.Frag) (ta tv : TE) (f : Str) : TS := fun D σ H => tv σ H fun y H1 => ta σ H1 fun x H2 => ∃ a C dx fs, x = .ref a ∧ H2 a = some (.ins C dx fs) ∧ Cls K C ∧ NoAttr K C f ∧ fs.length < 1000 ∧
  D.nx σ (upd H2 a (.ins C dx (putF f y fs)))
section
variable {X : Cx} {o e value : Expr} {f : Str} {pos pos' tpos : Pos} {ta tv : TE}
theorem ps_fld (ha : PE X o ta) (hv : PE X value tv) (hs : swapsWith value (some (.Attribute o f pos')) pos.line X.env = pure false) : PS X (.Assign [.Attribute o f pos'] value pos) (sFld X.K ta tv f) := by
  intro pins s σ H D I h
  refine plainObj_wpAny_Assign_Attribute (thn (hv pins s σ H _ I h) fun u s1 ⟨y, H1, I1, ry, q⟩ => thn (ha pins s1 σ H1 _ I1 q) fun ov s2 ⟨x, H2, I2, rx, a, C, dx, fs, ex, ea, c, n, l, q2⟩ => ?_) hs
  subst ex
  obtain rfl : ov = Value.ref a := rx
  exact setattr_ok I2 ea c n l ry fun s3 I3 => ⟨σ, _, I3, q2⟩
end
section
variable {X : Cx} {pins : List (Addr × Obj)} {σ : St} {H : Hp} {s : Shared} {A : Around} {E : Value → Shared → Prop} {Q : Value → Shared → Prop} {c : Value} {b : Bool}
end
end L2
namespace L2
open PySem PySem.Spec PyProof.Rows
structure Room (k : Nat) (A : Around) : Prop where
  hd : A.handled = none
  dp : A.depth + 3 * k + 5 < recursionLimit
  un : A.units + 16 * k + 200 < cLine
theorem Room.mono {j k : Nat} {A : Around} (r : Room k A) (h : j ≤ k) : Room j A := ⟨r.hd, by have := r.dp; omega, by have := r.un; omega⟩
theorem Room.deeper {k : Nat} {A : Around} (r : Room (k + 1) A) (env : Env) : Room k (A.deeper env) :=
  ⟨r.hd, by have := r.dp; show A.depth + 1 + 3 * k + 5 < _; omega, by have := r.un; show A.units + 3 + 16 * k + 200 < _; omega⟩
theorem make_depth {A : Around} {C : Addr} {us : List Value} {kw : List (Str × Value)} : (A.under (.builtin "type.__call__" ⟨.ref C :: us, kw⟩)).depth = A.depth + 1 := by
  first | rfl | simp [Around.under, Code.weight, Code.isCreation, Code.isGuard, Code.isCaller, Code.frames, Code.isFrame, guardIds]
theorem make_units {A : Around} {C : Addr} {us : List Value} {kw : List (Str × Value)} : (A.under (.builtin "type.__call__" ⟨.ref C :: us, kw⟩)).units = A.units + 1 := by
  first | rfl | simp [Around.under, Code.cUnits, Code.frames, Code.isFrame]
theorem Room.make {k : Nat} {A : Around} (r : Room (k + 1) A) (C : Addr) (us : List Value) (kw : List (Str × Value)) : Room k (A.under (.builtin "type.__call__" ⟨.ref C :: us, kw⟩)) :=
  ⟨r.hd, by have := r.dp; rw [make_depth]; omega, by have := r.un; rw [make_units]; omega⟩
theorem Room.depth {k : Nat} {A : Around} (r : Room k A) : A.depth < recursionLimit := by have := r.dp; omega
theorem Room.units {k : Nat} {A : Around} (r : Room k A) : A.units + 64 < cLine := by have := r.un; omega
def tNil : TA := fun _ H Q => Q [] H
def tCons (ta : TE) (tr : TA) : TA := fun σ H Q => ta σ H fun x H1 => tr σ H1 fun xs H2 => Q (x :: xs) H2
section
variable {X : Cx} {e : Expr} {es : List Expr} {te : TE} {t : TA} {pos : Pos}
theorem pa_nil : PA X [] tNil := fun _ _ _ _ H Q I h => Calls.spliced_nil ⟨[], H, I, .nil, h⟩
theorem pa_cons (ha : PE X e te) (hr : PA X es t) (hs : starEach (e :: es) X.env = (false, eval e X.env) :: starEach es X.env := by rfl) : PA X (e :: es) (tCons te t) := by
  intro pos pins s σ H Q I h
  rw [hs]
  show wpAny _ _ (spliced ((false, eval e X.env) :: backTo pos (starEach es X.env))) _ _ s
  refine Calls.spliced_cons (thn (ha pins s σ H _ I h) fun u s1 ⟨x, H1, I1, r1, q1⟩ => ?_)
  exact thn (hr pos pins s1 σ H1 _ I1 q1) fun us s2 ⟨xs, H2, I2, r2, q2⟩ => ⟨x :: xs, H2, I2, .cons r1 r2, q2⟩
def tTup (t : TA) : TE := fun σ H Q => t σ H fun xs H1 => xs.length ≤ sizeLine ∧ ∀ p, H1 p = none → Q (.ref p) (upd H1 p (.tup xs))
def tLst (t : TA) : TE := fun σ H Q => t σ H fun xs H1 => xs.length ≤ sizeLine ∧ ∀ p, H1 p = none → Q (.ref p) (upd H1 p (.lst xs))
theorem pe_tup {x1} (h : PA X es t) : PE X (.Tuple es x1 pos) (tTup t) := by
  intro pins s σ H Q I hq
  refine wpAny_Tuple_spliced (thn (h pos pins s σ H _ I hq) fun us s1 ⟨xs, H1, I1, r, z, q⟩ => ⟨by rw [← r.length]; exact z, ?_⟩)
  have hf : H1 s1.heap.objs.size = none := I1.hok.fresh (Nat.le_refl _)
  refine ⟨.ref s1.heap.objs.size, upd H1 s1.heap.objs.size (.tup xs), I1.laid (t' := s1.toks) (fun b u e => Heap.get?_push_of_some _ e) (Nat.le_refl _) ?_, rfl, q _ hf⟩
  exact ⟨z, us, r, ⟨_, Heap.get?_push_size _ rfl, rfl, _, rfl⟩⟩
theorem pe_lst (h : PA X es t) : PE X (.List es pos) (tLst t) := by
  intro pins s σ H Q I hq
  refine wpAny_List_spliced (thn (h pos pins s σ H _ I hq) fun us s1 ⟨xs, H1, I1, r, z, q⟩ => ⟨by rw [← r.length]; exact z, ?_⟩)
  have hf : H1 s1.heap.objs.size = none := I1.hok.fresh (Nat.le_refl _)
  refine ⟨.ref s1.heap.objs.size, upd H1 s1.heap.objs.size (.lst xs), I1.laid (t' := s1.toks) (fun b u e => Heap.get?_push_of_some _ e) (Nat.le_refl _) ?_, rfl, q _ hf⟩
  exact ⟨z, us, 0, r, Heap.get?_push_size _ rfl⟩
end
abbrev Sp := List V → Hp → VK → XK → Prop
abbrev CXT := List Env → Hp → Shared → XK → Value → Shared → Prop
structure Env0 (P : Program) (w : World) (K : PySem.W.Frag) (mg : Str → Option Value) (base : Heap) (A : Around) (outer : List Env) (s : Shared) (H : Hp) : Prop where
  frames : A.frames = some outer
  mod : Mod K mg base
  bs : ∀ b o, base.get? b = some o → s.heap.get? b = some o ∧ H b = none
  bsz : base.objs.size ≤ s.heap.objs.size
  funs : s.heap.FunFrames base outer
  frf : ∀ b ∈ frs outer, H b = none
  hok : HOk P w H s.heap
  bare : AllBare s.gens
def CE (outer : List Env) (P : Program) (w : World) (H : Hp) (s : Shared) (Q : VK) (u : Value) (s' : Shared) : Prop :=
  ∃ v H', s'.os = s.os ∧ AllBare s'.gens ∧ Un (frs outer) [] H H' s.heap s'.heap ∧ HOk P w H' s'.heap ∧ RelV v u ∧ Q v H'
def CR (CX : CXT) (outer : List Env) (P : Program) (w : World) (H : Hp) (s : Shared) (Q : VK) (E : XK) (r : Result) (s' : Shared) : Prop :=
  match r with
  | .ok (.ret u) => CE outer P w H s Q u s'
  | .ok _ => False
  | .error e => CX outer H s E e s'
structure FnOk (P : Program) (w : World) (K : PySem.W.Frag) (mg : Str → Option Value) (base : Heap) (CX : CXT) (k : Nat) (f : Addr) (fd : FuncData) (ps : List Str) (sp : Sp) : Prop where
  len : ∀ vs H Q E, sp vs H Q E → vs.length = ps.length
  run : ∀ (A : Around) (outer : List Env) (s : Shared) (H : Hp) (args : Args) (us : List Value) (vs : List V) (Q : VK) (E : XK), Room k A → Env0 P w K mg base A outer s H → BindsTo s fd args (ps.zip us) → Vals vs us → sp vs H Q E →
    codeAny (model P w) A (.call (.ref f) args) (CR CX outer P w H s Q E) s
theorem FnOk.mono {P : Program} {w : World} {K : PySem.W.Frag} {mg : Str → Option Value} {base : Heap} {CX : CXT} {j k : Nat} {f : Addr} {fd : FuncData} {ps : List Str} {sp : Sp} (F : FnOk P w K mg base CX j f fd ps sp) (h : j ≤ k) :
    FnOk P w K mg base CX k f fd ps sp := ⟨F.len, fun A outer s H args us vs Q E hr => F.run A outer s H args us vs Q E (hr.mono h)⟩
theorem Env0.make {P : Program} {w : World} {K : PySem.W.Frag} {mg : Str → Option Value} {base : Heap} {A : Around} {outer : List Env} {s : Shared} {H : Hp} (e : Env0 P w K mg base A outer s H) (C : Addr) (us : List Value) (kw : List (Str × Value)) :
    Env0 P w K mg base (A.under (.builtin "type.__call__" ⟨.ref C :: us, kw⟩)) outer s H := ⟨by first | exact e.frames | (simpa [Around.under, Code.envs, Code.isFrame, pushEnvs] using e.frames), e.mod, e.bs, e.bsz, e.funs, e.frf, e.hok, e.bare⟩
section
variable {X : Cx} {pins : List (Addr × Obj)} {σ : St} {H : Hp} {s s' : Shared}
theorem Inv.env0 (I : Inv X pins σ H s) : Env0 X.prog X.w X.K X.mg X.base X.A X.stack s H :=
  ⟨I.ok.frames, I.ok.mod, I.bs, Nat.le_trans I.ok.bsz I.sz, I.stack, I.stkFree, I.hok, I.bare⟩
theorem Inv.after {Q : VK} {u : Value} (I : Inv X pins σ H s) (h : CE X.stack X.prog X.w H s Q u s') : EP X pins σ Q u s' := by
  obtain ⟨v, H', os, bare, un, hok, r, q⟩ := h
  obtain ⟨hh, g, d, t, os'⟩ := s'
  obtain rfl : os' = s.os := os
  exact ⟨v, H', I.call (h' := hh) (g' := g) (d' := d) (t' := t) (ch := []) un hok bare (fun b z => absurd z (by simp)), r, q⟩
end
def tCall (sp : Sp) (dvs : List V) (E : XK) (t : TA) : TE := fun σ H Q => t σ H fun vs H1 => sp (vs ++ dvs) H1 Q E
def Binds (K : PySem.W.Frag) (fd : FuncData) (ps : List Str) (ds : List Value) : Prop :=
  ∀ (s : Shared) (us : List Value), K.In s.heap → (us ++ ds).length = ps.length → BindsTo s fd ⟨us, []⟩ (ps.zip (us ++ ds))
theorem Binds.all {K : PySem.W.Frag} {fd : FuncData} {ps : List Str} (h : ∀ us : List Value, us.length = ps.length → bindArgs fd ⟨us, []⟩ = pure (ps.zip us)) : Binds K fd ps [] := fun s us _ hl => by
  rw [List.append_nil] at hl ⊢
  exact .of_eq (h us hl)
def Passes (CX : CXT) (X : Cx) (E : XK) : Prop := ∀ (pins : List (Addr × Obj)) (σ : St) (H : Hp) (s : Shared) (e : Value) (s' : Shared), Inv X pins σ H s → CX X.stack H s E e s' → X.xe e s'
section
variable {X : Cx} {CX : CXT} {k : Nat} {f C : Addr} {fd : FuncData} {ps : List Str} {sp : Sp} {dvs : List V} {ds : List Value} {E : XK} {x m : Str} {p pos apos : Pos} {e o : Expr} {es : List Expr} {ta : TE} {t : TA}
theorem run_fn {pins : List (Addr × Obj)} {σ : St} {H : Hp} {s : Shared} {Q : VK} {us : List Value} {vs : List V} (F : FnOk X.prog X.w X.K X.mg X.base CX k f fd ps sp) (hr : Room k X.A) (hb : Binds X.K fd ps ds) (hd : Vals dvs ds) (hx : Passes CX X E)
    (I : Inv X pins σ H s) (r : Vals vs us) (h : sp (vs ++ dvs) H Q E) : wpAny (model X.prog X.w) X.A (call (.ref f) us) (EP X pins σ Q) X.xe s := by
  have r2 : Vals (vs ++ dvs) (us ++ ds) := r.append hd
  have hl : (us ++ ds).length = ps.length := by rw [← r2.length]; exact F.len _ _ _ _ h
  refine wpAny_call (codeAny_mono (F.run X.A X.stack s H ⟨us, []⟩ (us ++ ds) (vs ++ dvs) Q E hr I.env0 (hb s us I.kIn hl) r2 h) fun r s' hq => ?_)
  cases r with
  | error e => exact hx pins σ H s e s' I hq
  | ok fl =>
    cases fl with
    | ret u => exact I.after hq
    | next => exact False.elim hq
    | brk => exact False.elim hq
    | cont => exact False.elim hq
theorem pe_call (F : FnOk X.prog X.w X.K X.mg X.base CX k f fd ps sp) (hr : Room k X.A) (hg : Gl X x) (hm : X.mg x = some (.ref f)) (hk : PySem.W.keepIn X.K (.ref f) = true) (hb : Binds X.K fd ps ds) (hd : Vals dvs ds) (hx : Passes CX X E)
    (ha : PA X (e :: es) t) (hdb : (x == ("__debug__" : Str)) = false := by decide) (he : starEach (e :: es) X.env = (false, eval e X.env) :: starEach es X.env := by rfl) (hpl : (backTo pos (starEach es X.env)).any (·.1) = false := by rfl) :
    PE X (.Call (.Name x p) (e :: es) [] pos) (tCall sp dvs E t) := by
  intro pins s σ H Q I h
  refine wpAny_Call_Name_kw (ld_glob I hg hm ?_ hdb)
  refine PySem.W.callWith_K (h₀ := X.base) I.ok.mod.kin hk (thn (ha pos pins s σ H _ I h) fun us s1 ⟨vs, H1, I1, r, q⟩ => ⟨I1.kIn, ?_⟩) he hpl
  exact run_fn F hr hb hd hx I1 r q
structure Mk (K : PySem.W.Frag) (C f : Addr) : Prop where
  makes : PySem.W.makesIn K C = true
  init : PySem.W.findIn K (.ref C) "__init__" = some (some (.ref f))
  fn : PySem.W.isFn K (.ref f) = true
  kp : PySem.W.keepIn K (.ref C) = true
end
def PK (X : Cx) (kws : List Keyword) (t : TA) : Prop :=
  ∀ (pos : Pos) (pins : List (Addr × Obj)) (s : Shared) (σ : St) (H : Hp) (Q : List V → Hp → Prop), Inv X pins σ H s → t σ H Q → wpAny (model X.prog X.w) X.A (evalAll ((backToKw pos (keywordEach kws X.env)).map (·.2))) (AP X pins σ Q) X.xe s
section
variable {X : Cx} {CX : CXT} {k : Nat} {f C : Addr} {fd : FuncData} {ps ks : List Str} {sp : Sp} {E : XK} {x m : Str} {p pos apos kpos : Pos} {e o : Expr} {es : List Expr} {kws : List Keyword} {te ta : TE} {t tk : TA} {nm : Option Str}
theorem pk_nil : PK X [] tNil := fun _ _ _ _ H Q I h => wpAny_evalAll_nil ⟨[], H, I, .nil, h⟩
theorem pk_cons (ha : PE X e te) (hr : PK X kws t) : PK X (⟨nm, e, kpos⟩ :: kws) (tCons te t) := by
  intro pos pins s σ H Q I h
  show wpAny _ _ (evalAll ((do let v ← eval e X.env; standAt pos; pure v) :: (backToKw pos (keywordEach kws X.env)).map (·.2))) _ _ s
  refine wpAny_evalAll_cons (wpAny_bind (thn (ha pins s σ H _ I h) fun u s1 ⟨x, H1, I1, r1, q1⟩ => wpAny_bind (wpAny_standAt (wpAny_pure ?_))))
  exact thn (hr pos pins s1 σ H1 _ I1 q1) fun us s2 ⟨xs, H2, I2, r2, q2⟩ => ⟨x :: xs, H2, I2, .cons r1 r2, q2⟩
variable {g : List Value → List Value → List Value} {gV : List V → List V → List V}
end
structure FnScope (N P : List Str) (sc : Scope) : Prop where
  kind : sc.kind = .function
  co : sc.isCoroutine = false
  gen : sc.isGenerator = false
  nd : N.Nodup
  pre : N.take P.length = P
  par : ∀ x ∈ P, sc.names.lookup x = some .local ∨ sc.names.lookup x = some .cell
  nofree : ∀ y ∈ sc.names, y.2 ≠ .free
theorem bindL_out {kindOf : Str → Option NameKind} {x : Str} : ∀ {binds : List (Str × Value)} {m : Str → Option Value}, (∀ v, (x, v) ∉ binds) → bindL kindOf binds m x = m x
  | [], _, _ => rfl
  | (n, v) :: r, m, h => by
    unfold bindL
    rw [bindL_out fun w hw => h w (List.mem_cons_of_mem _ hw)]
    split
    · have : x ≠ n := by rintro rfl; exact h v List.mem_cons_self
      simp [this]
    · rfl
theorem bindC_out {kindOf : Str → Option NameKind} {x : Str} : ∀ {binds : List (Str × Value)} {m : Str → Option Value}, (∀ v, (x, v) ∉ binds) → bindC kindOf binds m x = m x
  | [], _, _ => rfl
  | (n, v) :: r, m, h => by
    unfold bindC
    rw [bindC_out fun w hw => h w (List.mem_cons_of_mem _ hw)]
    split
    · rfl
    · have : x ≠ n := by rintro rfl; exact h v List.mem_cons_self
      simp [this]
theorem bindL_get {kindOf : Str → Option NameKind} {x : Str} {v : Value} : ∀ {P : List Str} {vs : List Value} {i : Nat} {m : Str → Option Value}, P.Nodup → P[i]? = some x → vs[i]? = some v → kindOf x = some .local →
    bindL kindOf (P.zip vs) m x = some v
  | [], _, _, _, _, h, _, _ => by simp at h
  | _ :: _, [], _, _, _, _, h, _ => by simp at h
  | p :: P, w :: vs, 0, m, nd, h1, h2, hk => by
    simp at h1 h2; subst h1; subst h2
    show bindL kindOf ((p, w) :: P.zip vs) m p = _
    unfold bindL
    rw [bindL_out fun v hv => (List.nodup_cons.mp nd).1 (List.of_mem_zip hv).1, if_pos hk]
    simp
  | p :: P, w :: vs, i + 1, m, nd, h1, h2, hk => by
    show bindL kindOf ((p, w) :: P.zip vs) m x = _
    unfold bindL
    exact bindL_get (i := i) (List.nodup_cons.mp nd).2 (by simpa using h1) (by simpa using h2) hk
theorem bindC_get {kindOf : Str → Option NameKind} {x : Str} {v : Value} : ∀ {P : List Str} {vs : List Value} {i : Nat} {m : Str → Option Value}, P.Nodup → P[i]? = some x → vs[i]? = some v → kindOf x ≠ some .local →
    bindC kindOf (P.zip vs) m x = some v
  | [], _, _, _, _, h, _, _ => by simp at h
  | _ :: _, [], _, _, _, _, h, _ => by simp at h
  | p :: P, w :: vs, 0, m, nd, h1, h2, hk => by
    simp at h1 h2; subst h1; subst h2
    show bindC kindOf ((p, w) :: P.zip vs) m p = _
    unfold bindC
    rw [bindC_out fun v hv => (List.nodup_cons.mp nd).1 (List.of_mem_zip hv).1, if_neg hk]
    simp
  | p :: P, w :: vs, i + 1, m, nd, h1, h2, hk => by
    show bindC kindOf ((p, w) :: P.zip vs) m x = _
    unfold bindC
    exact bindC_get (i := i) (List.nodup_cons.mp nd).2 (by simpa using h1) (by simpa using h2) hk
def start (N : List Str) (vs : List V) : St := vs.map some ++ List.replicate (N.length - vs.length) none
def cxOf (CX : CXT) (P : Program) (w : World) (K : PySem.W.Frag) (mg : Str → Option Value) (base : Heap) (N : List Str) (qual : Str) (scope : Scope) (f : Addr) (cd : Value) (A : Around) (outer : List Env) (s : Shared) (H : Hp) (E : XK) : Cx where
  prog := P
  w := w
  K := K
  mg := mg
  base := base
  A := A.deeper (envOfC qual scope s.heap.objs.size f cd)
  N := N
  s₀ := s
  H₀ := H
  env := envOfC qual scope s.heap.objs.size f cd
  outer := outer
  stack := envOfC qual scope s.heap.objs.size f cd :: outer
  ex := []
  calm := true
  fn := fun _ => true
  pn := []
  xe := fun e s' => wpAny (model P w) (A.deeper (envOfC qual scope s.heap.objs.size f cd)) (leaving (envOfC qual scope s.heap.objs.size f cd) e) (fun _ s'' => CX outer H s E e s'') (fun e' s'' => CX outer H s E e' s'') s'
theorem cell_has {sc : Scope} {n : Nat} {x : Str} (h : sc.names.lookup x = some .cell) : ∃ c, (cellsFrom n sc.names []).lookup x = some c := by
  have q := PySem.W.cellsFrom_some sc.names n [] (.inl h)
  exact Option.isSome_iff_exists.mp q
theorem inv_start {CX : CXT} {P : Program} {w : World} {K : PySem.W.Frag} {mg : Str → Option Value} {base : Heap} {N ps : List Str} {qual : Str} {scope : Scope} {f : Addr} {cd : Value} {A : Around} {outer : List Env} {s s1 : Shared} {H : Hp} {E : XK} {us : List Value} {vs : List V}
    (S : FnScope N ps scope) (hd : A.handled = none) (e0 : Env0 P w K mg base A outer s H) (hl : vs.length = ps.length) (r : Vals vs us)
    (x : InCallC s s.heap.objs.size (bindL (envOfC qual scope s.heap.objs.size f cd).kindOf (ps.zip us) fun _ => none) (cellsFrom (s.heap.objs.size + 1) scope.names []) (bindC (envOfC qual scope s.heap.objs.size f cd).kindOf (ps.zip us) fun _ => none) s1) :
    Inv (cxOf CX P w K mg base N qual scope f cd A outer s H E) [] (start N vs) H s1 := by
  have hpl : ps.length ≤ N.length := by have := congrArg List.length S.pre; rw [List.length_take] at this; omega
  obtain ⟨h1, tk, rfl, hk⟩ := x.done
  have noA : ∀ b : Addr, b ∉ (cxOf CX P w K mg base N qual scope f cd A outer s H E).ex := fun b z => absurd (show b ∈ ([] : List Addr) from z) (by simp)
  refine ⟨⟨e0.mod, S.kind, rfl, rfl, Nat.le_refl _, fun y z c h1 h2 => ?_, fun y hy => ?_, fun y c _ h => ?_, fun _ => hd, Around.frames_deeper e0.frames, .inr ⟨rfl, rfl⟩, fun b z => absurd z (noA b), e0.bs, e0.bsz, fun b _ _ => noA b, fun b z => absurd z (noA b), e0.funs, e0.frf⟩,
    rfl, e0.bare, Un.kept hk, ⟨_, x.toInCall.ns, fun i y v h1 h2 h3 => ?_⟩, fun y c h => ⟨_, x.cell y c h⟩, e0.hok.fresh (Nat.le_refl _), fun y c h => ?_, fun p hp => absurd (show p ∈ ([] : List (Addr × Obj)) from hp) (by simp), e0.hok.kept hk, ?_⟩
  · exact name_of_addr x.apart (PySem.mem_of_lookup h1) (PySem.mem_of_lookup h2)
  · have hy : scope.names.lookup y = some .cell ∨ scope.names.lookup y = some .free := hy
    rcases hy with hy | hy
    · exact cell_has hy
    · exact absurd rfl (S.nofree _ (PySem.mem_of_lookup hy))
  · exact Nat.le_of_lt (x.above y c (PySem.mem_of_lookup h))
  · have hi : i < vs.length := by
      unfold start at h2
      by_cases hi : i < vs.length
      · exact hi
      · rw [List.getElem?_append_right (by simpa using hi)] at h2
        rw [List.getElem?_replicate] at h2
        split at h2 <;> cases h2
    have ha : vs[i]? = some v := by
      unfold start at h2
      rw [List.getElem?_append_left (by simpa using hi), List.getElem?_map] at h2
      cases e : vs[i]? with
      | none => rw [e] at h2; cases h2
      | some a => rw [e] at h2; cases h2; rfl
    obtain ⟨u, hu, rv⟩ := r.get ha
    have hp : ps[i]? = some y := by
      rw [← S.pre, List.getElem?_take_of_lt (by omega)]; exact h1
    have ndP : ps.Nodup := by rw [← S.pre]; exact S.nd.sublist (List.take_sublist _ _)
    refine ⟨u, rv, ?_⟩
    rcases S.par y (List.mem_of_getElem? hp) with k | k
    · exact .inl ⟨k, bindL_get ndP hp hu k⟩
    · obtain ⟨c, e⟩ := cell_has (n := s.heap.objs.size + 1) k
      refine .inr ⟨.inl k, c, e, ?_⟩
      have q := x.cell y c e
      rw [bindC_get ndP hp hu (by show scope.names.lookup y ≠ _; rw [k]; decide)] at q
      exact q
  · exact e0.hok.fresh (Nat.le_of_lt (x.above y c (PySem.mem_of_lookup h)))
  · unfold start
    show _ = N.length
    rw [List.length_append, List.length_map, List.length_replicate]
    omega
theorem fn_of {CX : CXT} {P : Program} {w : World} {K : PySem.W.Frag} {mg : Str → Option Value} {base : Heap} {k : Nat} {f : Addr} {name qual : Str} {params : Arguments} {body : List Stmt} {scope : Scope} {dV kV doc pm cdv ct oc : Value} {an od : Option Addr}
    {osl : Array (Option Value)} {N ps : List Str} {sp : Sp} (lk : K.lookup f = some ⟨oc, od, .func (PySem.W.fnOf name qual params body scope dV kV doc pm an cdv ct), osl⟩) (hcd : PySem.W.codeIn K cdv qual = true) (S : FnScope N ps scope)
    (len : ∀ vs H Q E, sp vs H Q E → vs.length = ps.length)
    (hbody : ∀ (A : Around) (outer : List Env) (s : Shared) (H : Hp) (vs : List V) (Q : VK) (E : XK), Room k (A.deeper (envOfC qual scope s.heap.objs.size f cdv)) → sp vs H Q E →
      ∃ t, PSs (cxOf CX P w K mg base N qual scope f cdv A outer s H E) body t ∧ t { nx := fun _ H' => Q .non H', rt := Q } (start N vs) H) :
    FnOk P w K mg base CX (k + 1) f (PySem.W.fnOf name qual params body scope dV kV doc pm an cdv ct) ps sp := by
  refine ⟨len, fun A outer s H args us vs Q E hr e0 hb r hsp => ?_⟩
  have hl := len _ _ _ _ hsp
  have KX : K.In s.heap := e0.mod.kin.keeps fun b o e => (e0.bs b o e).1
  have lim : s.heap.NoLimit := e0.mod.nolimit.keeps fun b o e => (e0.bs b o e).1
  have hkind : ∀ y ∈ ps.zip us, scope.names.lookup y.1 = some .local ∨ (scope.names.lookup y.1 = some .cell ∧ ((cellsFrom (s.heap.objs.size + 1) scope.names []).lookup y.1).isSome = true) := fun ⟨n, v⟩ hy => by
    rcases S.par n (List.of_mem_zip hy).1 with q | q
    · exact .inl q
    · exact .inr ⟨q, PySem.W.cellsFrom_some _ _ _ (.inl q)⟩
  refine codeAny_call_function hr.depth (KX _ _ lk) rfl S.co S.gen rfl (PySem.W.codeRec_of KX hcd) (hb _ _ _ _ ?_)
  refine wpAny_newFunctionEnv_cells S.kind hkind fun env he s1 x => ?_
  subst he
  refine ⟨lim.keeps x.toInCall.keep, codeAny_func ?_⟩
  obtain ⟨t, ht, hq⟩ := hbody A outer s H vs Q E (hr.deeper _) hsp
  have I : Inv (cxOf CX P w K mg base N qual scope f cdv A outer s H E) [] (start N vs) H s1 := inv_start S hr.hd e0 hl r x
  refine wpAny_mono (ht [] s1 (start N vs) H _ I hq) (fun fl s' hs => ?_) fun e s' hs => hs
  have fin : ∀ {σ' : St} {H' : Hp} {v : V} {u : Value}, Inv (cxOf CX P w K mg base N qual scope f cdv A outer s H E) [] σ' H' s' → RelV v u → Q v H' → CE outer P w H s Q u s' :=
    fun {σ' H' v u} J rv q => ⟨v, H', J.os, J.bare, J.base, J.hok, rv, q⟩
  cases fl with
  | ret u =>
    obtain ⟨v, σ', H', J, rv, q⟩ := hs
    exact fin J rv q
  | next =>
    obtain ⟨σ', H', J, q⟩ := hs
    exact fin (v := V.non) (u := Value.none) J rfl q
  | brk =>
    obtain ⟨_, _, _, q⟩ := hs
    exact False.elim q
  | cont =>
    obtain ⟨_, _, _, q⟩ := hs
    exact False.elim q
end L2
namespace L2
open PySem PySem.Spec PyProof.Rows
section
variable {X : Cx} {x : Str} {p pos : Pos} {e : Expr} {es : List Expr} {t : TA} {id T : String} {r : List V → Hp → VK → Prop}
def tCB (r : List V → Hp → VK → Prop) (t : TA) : TE := fun σ H Q => t σ H fun vs H1 => r vs H1 Q
theorem pe_callB (hc : CallR X (.builtin id) r) (hg : Gl X x) (hm : X.mg x = none) (hv : bootBuiltins x = some (.builtin id)) (ha : PA X (e :: es) t) (hn : x ≠ "__name__" := by decide) (hdb : (x == ("__debug__" : Str)) = false := by decide)
    (he : starEach (e :: es) X.env = (false, eval e X.env) :: starEach es X.env := by rfl) (hpl : (backTo pos (starEach es X.env)).any (·.1) = false := by rfl) : PE X (.Call (.Name x p) (e :: es) [] pos) (tCB r t) := by
  intro pins s σ H Q I h
  refine wpAny_Call_Name_kw (ld_blt I hg hm hv ?_ hn hdb)
  exact PyProof.Rows.callWith_builtin1 (thn (ha pos pins s σ H _ I h) fun us s1 ⟨vs, H1, I1, r1, q1⟩ => hc pins s1 σ H1 vs us Q I1 r1 q1) he hpl
theorem pe_callTy (hc : CallR X (.type T) r) (hg : Gl X x) (hm : X.mg x = none) (hv : bootBuiltins x = some (.type T)) (ha : PA X (e :: es) t) (hn : x ≠ "__name__" := by decide) (hdb : (x == ("__debug__" : Str)) = false := by decide)
    (he : starEach (e :: es) X.env = (false, eval e X.env) :: starEach es X.env := by rfl) (hpl : (backTo pos (starEach es X.env)).any (·.1) = false := by rfl) : PE X (.Call (.Name x p) (e :: es) [] pos) (tCB r t) := by
  intro pins s σ H Q I h
  refine wpAny_Call_Name_kw (ld_blt I hg hm hv ?_ hn hdb)
  exact PyProof.Rows.callWith_type1 (thn (ha pos pins s σ H _ I h) fun us s1 ⟨vs, H1, I1, r1, q1⟩ => hc pins s1 σ H1 vs us Q I1 r1 q1) he hpl
end
end L2
namespace HT
open PySem PyProof.Rows
section
open PySem.SeqAt
open PySem.AutoSeq1 (wpAny_loadPart')
open PySem.MeetsSeq PySem.MeetsSeq2 PySem.MeetsSeq3
end
section
variable {prog : Program} {w : World} {A : Around} {E : Value → Shared → Prop} {s : Shared}
theorem cat_tup {t b : Addr} {vs ws : List Value} {Q : Value → Shared → Prop} (ht : IsTup s.heap t vs.toArray) (hb : IsTup s.heap b ws.toArray) (hv : vs ≠ [])
    (h1 : ws = [] → Q (.ref t) s) (h2 : ws ≠ [] → Q (.ref s.heap.objs.size) { s with heap := s.heap.push { cls := .type "tuple", data := .seq (vs ++ ws).toArray } })
    (hsz : vs.length + ws.length ≤ sizeLine) : wpAny (model prog w) A (binaryOp .Add (.ref t) (.ref b)) Q E s := by
  obtain ⟨⟨cls, dd, data, sl⟩, ho, hc, n, hd⟩ := id ht
  obtain ⟨⟨cls2, dd2, data2, sl2⟩, ho2, hc2, n2, hd2⟩ := id hb
  simp only at hc hd hc2 hd2
  subst hc hd hc2 hd2
  have e : vs.toArray ++ ws.toArray = (vs ++ ws).toArray := by simp
  by_cases hw : ws = []
  · exact concat_meets ⟨_, ho, rfl⟩ ⟨_, ho2, rfl⟩ noFill_tuple_add seq_tuple_add PySem.F.slot_tuple_add PySem.F.entry_tuple_add (PySem.F.args_tuple_add_2 _ _)
      (tuple_addW1 t b vs.toArray ws.toArray n n2 dd dd2 sl sl2 (by simpa using hv) (by simp [hw])) ⟨ho, ho2, h1 hw⟩
  · refine concat_meets ⟨_, ho, rfl⟩ ⟨_, ho2, rfl⟩ noFill_tuple_add seq_tuple_add PySem.F.slot_tuple_add PySem.F.entry_tuple_add (PySem.F.args_tuple_add_2 _ _)
      (tuple_addW2 t b vs.toArray ws.toArray n n2 dd dd2 sl sl2 (by simpa using hv) (by simpa using hw) (by rw [List.size_toArray, List.size_toArray]; exact hsz)) ⟨ho, ho2, ?_⟩
    rw [e]
    exact h2 hw
def sIx (n d : Nat) : Option Int → Nat
  | none => d
  | some v => if v < 0 then (v + (n : Int)).toNat else min v.toNat n
theorem sIx_nat (n d k : Nat) : sIx n d (some (k : Int)) = min k n := by
  show (if (k : Int) < 0 then ((k : Int) + (n : Int)).toNat else min (k : Int).toNat n) = min k n
  rw [if_neg (by omega), Int.toNat_natCast]
theorem sIx_le (n d : Nat) (hd : d ≤ n) (o : Option Int) : sIx n d o ≤ n := by
  cases o with
  | none => exact hd
  | some v =>
    show (if v < 0 then (v + (n : Int)).toNat else min v.toNat n) ≤ n
    by_cases hv : v < 0
    · rw [if_pos hv]; omega
    · rw [if_neg hv]; exact Nat.min_le_right _ _
theorem clip_eq (v : Int) (n d : Nat) : (if v < 0 then max (v + (n : Int)) 0 else min v (n : Int)) = ((sIx n d (some v) : Nat) : Int) := by
  show (if v < 0 then max (v + (n : Int)) 0 else min v (n : Int)) = (((if v < 0 then (v + (n : Int)).toNat else min v.toNat n) : Nat) : Int)
  by_cases hv : v < 0
  · simp only [if_pos hv]; omega
  · simp only [if_neg hv]; omega
theorem adjust_gen (lo hi : Option Int) (n : Nat) : Builtin.Slice.sliceAdjust lo hi 1 (n : Int) = (((sIx n 0 lo : Nat) : Int), ((sIx n n hi : Nat) : Int)) := by
  have h1 : ¬ ((1 : Int) < 0) := by omega
  unfold Builtin.Slice.sliceAdjust
  simp only [h1, if_false]
  refine Prod.ext ?_ ?_
  · cases lo with
    | none => rfl
    | some v => exact clip_eq v n 0
  · cases hi with
    | none => rfl
    | some v => exact clip_eq v n n
theorem places_gen (i j : Nat) : Builtin.Slice.slicePlaces (i : Int) (j : Int) 1 = j - i := by
  unfold Builtin.Slice.slicePlaces
  have h1 : (1 : Int) > 0 := by omega
  simp only [h1, if_true, Int.ediv_one]
  split <;> omega
theorem slicePart_ {v : Value} {o : Option Int} {Q : Option Int → Shared → Prop} (p : IsPart v o) (h : Q o s) : wpAny (model prog w) A (Builtin.Slice.slicePartIndex v) Q E s := by
  cases p with
  | none => exact slicePart_none h
  | int i t => exact slicePart_int h
theorem sliceApplied_gen {sl : Addr} {vl vu : Value} {lo hi : Option Int} {n : Nat} {Q : Int × Int × Nat → Shared → Prop} (hs : s.heap.IsSliceOf sl vl vu .none) (pl : IsPart vl lo) (pu : IsPart vu hi)
    (h : Q (((sIx n 0 lo : Nat) : Int), 1, sIx n n hi - sIx n 0 lo) s) : wpAny (model prog w) A (Builtin.Slice.sliceApplied (.ref sl) (pure (n : Int))) Q E s := by
  obtain ⟨os, hos, hcs, hds⟩ := id hs
  unfold Builtin.Slice.sliceApplied Builtin.Slice.sliceFields
  refine wpAny_bind (wpAny_bind (wpAny_field hos hds (x := vl) rfl (wpAny_bind (wpAny_field hos hds (x := vu) rfl (wpAny_bind (wpAny_field hos hds (x := .none) rfl (wpAny_pure ?_)))))))
  refine wpAny_bind (slicePart_none ?_)
  show wpAny _ _ (if ((1 : Int) == 0) = true then _ else _) _ _ s
  rw [if_neg (by decide)]
  refine wpAny_bind (slicePart_ pl (wpAny_bind (slicePart_ pu (wpAny_bind (wpAny_pure ?_)))))
  show wpAny _ _ (match Builtin.Slice.sliceAdjust lo hi 1 (n : Int) with | (lo, hi) => pure (lo, (1 : Int), Builtin.Slice.slicePlaces lo hi 1)) _ _ s
  rw [adjust_gen lo hi n]
  show wpAny _ _ (pure (((sIx n 0 lo : Nat) : Int), (1 : Int), Builtin.Slice.slicePlaces ((sIx n 0 lo : Nat) : Int) ((sIx n n hi : Nat) : Int) 1)) _ _ s
  rw [places_gen]
  exact wpAny_pure h
theorem pick_gen (xs : Array Value) (i k : Nat) : ((List.range k).filterMap fun (m : Nat) => xs[((i : Int) + (m : Int) * 1).toNat]?).toArray = ((xs.toList.drop i).take k).toArray := by
  have e : (fun (m : Nat) => xs[((i : Int) + (m : Int) * 1).toNat]?) = fun m => xs[i + m]? := by
    funext m
    have : ((i : Int) + (m : Int) * 1).toNat = i + m := by omega
    rw [this]
  rw [e]
  have := pick_run xs i k
  rw [List.filterMap_map] at this
  have e2 : ((fun x => xs[x]?) ∘ fun x => i + x) = fun m => xs[i + m]? := rfl
  rw [e2] at this
  rw [this]
theorem getItem_tuple_cut {t sl : Addr} {items : Array Value} {vl vu : Value} {lo hi : Option Int} {Q : Value → Shared → Prop} (ht : IsTup s.heap t items) (hs : s.heap.IsSliceOf sl vl vu .none) (pl : IsPart vl lo) (pu : IsPart vu hi)
    (hw : ¬ (sIx items.size 0 lo = 0 ∧ sIx items.size items.size hi = items.size))
    (h : Q (.ref s.heap.objs.size) { s with heap := s.heap.push { cls := .type "tuple", data := .seq ((items.toList.drop (sIx items.size 0 lo)).take (sIx items.size items.size hi - sIx items.size 0 lo)).toArray } })
    (hsz : items.size ≤ sizeLine) : wpAny (model prog w) A (getItem (.ref t) (.ref sl)) Q E s := by
  have htake : sizeOk (.seq ((items.toList.drop (sIx items.size 0 lo)).take (sIx items.size items.size hi - sIx items.size 0 lo)).toArray) := by
    show ((items.toList.drop (sIx items.size 0 lo)).take (sIx items.size items.size hi - sIx items.size 0 lo)).toArray.size ≤ sizeLine
    rw [List.size_toArray, List.length_take, List.length_drop, Array.length_toList]
    omega
  have hj : sIx items.size items.size hi ≤ items.size := sIx_le _ _ (Nat.le_refl _) hi
  obtain ⟨os, hos, hcs, hds⟩ := id hs
  have hTs : s.TypeIs (.ref sl) "slice" := ⟨os, hos, hcs⟩
  unfold getItem
  try with_reducible refine wpAny_holding ?_
  first | refine wpAny_bind (wpAny_pure ?_) | skip
  refine wpAny_bind (wpAny_sequenceKey ht.typeIs (by decide) ?_)
  refine wpAny_bind (wpAny_callSpecial?_slot (name := Str.ofString "__getitem__") ht.typeIs PyProof.Rows.slot_tuple_getitem
    (wpAny_call_entry PyProof.Rows.slot_tuple_getitem ht.typeIs entry_tuple_getitem ?_ (args_tuple_getitem _ _)))
  show wpAny _ _ (Builtin.Tuple.tupleItemsOf (.ref t) >>= _) _ _ s
  refine wpAny_bind (tupleItemsOf_ ht ?_)
  refine wpAny_bind (wpAny_typeOf hTs ?_)
  rw [if_pos (by decide)]
  refine wpAny_bind (sliceApplied_gen hs pl pu ?_)
  have hno : ¬ ((((sIx items.size 0 lo : Nat) : Int) == 0 && (1 : Int) == 1 && (sIx items.size items.size hi - sIx items.size 0 lo) == items.size) = true) := by
    intro q
    rw [Bool.and_eq_true, Bool.and_eq_true] at q
    have q1 : ((sIx items.size 0 lo : Nat) : Int) = 0 := eq_of_beq q.1.1
    have q2 : sIx items.size items.size hi - sIx items.size 0 lo = items.size := eq_of_beq q.2
    exact hw ⟨by omega, by omega⟩
  show wpAny _ _ (if (((sIx items.size 0 lo : Nat) : Int) == 0 && (1 : Int) == 1 && (sIx items.size items.size hi - sIx items.size 0 lo) == items.size) = true then _ else _) _ _ s
  rw [if_neg hno, pick_gen]
  first
    | exact wpAny_bind (m := Builtin.Tuple.tupleExact _) (wpAny_newObj_type (wpAny_pure ⟨_, rfl, wpAny_pure h⟩) htake)
    | exact wpAny_bind (m := Builtin.Tuple.tupleExact _) (wpAny_newObj_type (wpAny_bind (wpAny_pure (wpAny_pure ⟨_, rfl, wpAny_pure h⟩))) htake)
    | exact wpAny_bind (wpAny_bind (m := Builtin.Tuple.tupleExact _) (wpAny_newObj_type (wpAny_pure (wpAny_pure ⟨_, rfl, wpAny_pure h⟩)) htake))
    | exact wpAny_bind (wpAny_bind (m := Builtin.Tuple.tupleExact _) (wpAny_newObj_type (wpAny_pure ⟨_, rfl, wpAny_pure h⟩) htake))
end
end HT
namespace L2
open PySem PySem.Spec PyProof.Rows
abbrev TO := St → Hp → (Option Int → Hp → Prop) → Prop
def PO (X : Cx) (e : Option Expr) (t : TO) : Prop :=
  ∀ (pins : List (Addr × Obj)) (s : Shared) (σ : St) (H : Hp) (Q : Option Int → Hp → Prop), Inv X pins σ H s → t σ H Q →
    wpAny (model X.prog X.w) X.A (evalPart e X.env) (fun u s' => ∃ o H', Inv X pins σ H' s' ∧ IsPart u o ∧ Q o H') X.xe s
def tNoPart : TO := fun _ H Q => Q none H
def tPart (t : TE) : TO := fun σ H Q => t σ H fun x H1 => ∃ i, x = .int i ∧ Q (some i) H1
section
variable {X : Cx} {e : Expr} {te : TE} {lo hi : Option Expr} {tl th : TO} {pos p2 : Pos}
theorem po_none : PO X none tNoPart := by
  intro pins s σ H Q I h
  rw [evalPart_none]
  exact wpAny_pure ⟨none, H, I, .none, h⟩
theorem po_some (h : PE X e te) : PO X (some e) (tPart te) := by
  intro pins s σ H Q I hw
  rw [evalPart_some]
  refine thn (h pins s σ H _ I hw) fun u s1 ⟨x, H1, I1, r1, q1⟩ => ?_
  obtain ⟨i, rfl, q⟩ := q1
  obtain ⟨t, rfl⟩ := r1
  exact ⟨some i, H1, I1, .int i t, q⟩
def SlR (X : Cx) (r : V → Option Int → Option Int → Hp → VK → Prop) : Prop :=
  ∀ (pins : List (Addr × Obj)) (s : Shared) (σ : St) (H : Hp) (x : V) (v vl vu : Value) (lo hi : Option Int) (sl : Addr) (Q : VK), Inv X pins σ H s → RelV x v → s.heap.IsSliceOf sl vl vu .none → IsPart vl lo → IsPart vu hi → r x lo hi H Q →
    ∃ T id, typeLookup (.type T) "__getitem__" = pure (some (.builtin id)) ∧ s.TypeIs v T ∧ wpAny (model X.prog X.w) X.A (getItem v (.ref sl)) (EP X pins σ Q) X.xe s
theorem SlR.or {r r' : V → Option Int → Option Int → Hp → VK → Prop} (h : SlR X r) (h' : SlR X r') : SlR X (fun x lo hi H Q => r x lo hi H Q ∨ r' x lo hi H Q) := by
  intro pins s σ H x v vl vu lo hi sl Q I rx hs pl pu q
  rcases q with q | q
  · exact h pins s σ H x v vl vu lo hi sl Q I rx hs pl pu q
  · exact h' pins s σ H x v vl vu lo hi sl Q I rx hs pl pu q
def tSl (r : V → Option Int → Option Int → Hp → VK → Prop) (te : TE) (tl th : TO) : TE := fun σ H Q => te σ H fun x H1 => tl σ H1 fun l H2 => th σ H2 fun u H3 => r x l u H3 Q
theorem pe_slice {r : V → Option Int → Option Int → Hp → VK → Prop} (hr : SlR X r) (he : PE X e te) (hl : PO X lo tl) (hu : PO X hi th) : PE X (.Subscript e (.Slice lo hi none p2) pos) (tSl r te tl th) := by
  intro pins s σ H Q I h
  refine Subscript_ (thn (he pins s σ H _ I h) fun v s1 ⟨x, H1, I1, r1, q1⟩ => ?_)
  refine wpAny_Slice (thn (hl pins s1 σ H1 _ I1 q1) fun vl s2 ⟨l, H2, I2, pl, q2⟩ => thn (hu pins s2 σ H2 _ I2 q2) fun vu s3 ⟨u, H3, I3, pu, q3⟩ => ?_)
  rw [evalPart_none]
  refine wpAny_pure ?_
  have I4 : Inv X pins σ H3 { s3 with heap := s3.heap.push { cls := .type "slice", data := .fields #[vl, vu, .none] } } := I3.kept (t' := s3.toks) fun b ob q => Heap.get?_push_of_some _ q
  obtain ⟨T, id, hT, ht, hg⟩ := hr pins { s3 with heap := s3.heap.push { cls := .type "slice", data := .fields #[vl, vu, .none] } } σ H3 x v vl vu l u s3.heap.objs.size Q I4 r1 (Heap.IsSliceOf.new ..) pl pu q3
  show wpAny (model X.prog X.w) X.A (subscriptTail e (.Slice lo hi none p2) v (.ref s3.heap.objs.size)) (EP X pins σ Q) X.xe { s3 with heap := s3.heap.push { cls := .type "slice", data := .fields #[vl, vu, .none] } }
  exact tail_any (ops := [.ref s3.heap.objs.size, v]) ht hT hg (by with_unfolding_all rfl)
def cutV (xs : List V) (lo hi : Option Int) : List V := (xs.drop (HT.sIx xs.length 0 lo)).take (HT.sIx xs.length xs.length hi - HT.sIx xs.length 0 lo)
theorem cutV_length (xs : List V) (lo hi : Option Int) : (cutV xs lo hi).length ≤ xs.length := by
  unfold cutV
  rw [List.length_take, List.length_drop]
  omega
def rSlT (K : PySem.W.Frag) : V → Option Int → Option Int → Hp → VK → Prop := fun x lo hi H Q => ∃ a xs, x = .ref a ∧ SqT K H a xs ∧
  ¬ (HT.sIx xs.length 0 lo = 0 ∧ HT.sIx xs.length xs.length hi = xs.length) ∧ ∀ p, H p = none → Q (.ref p) (upd H p (.tup (cutV xs lo hi)))
theorem sl_tup : SlR X (rSlT X.K) := by
  intro pins s σ H x v vl vu lo hi sl Q I rx hs pl pu h
  obtain ⟨a, xs, rfl, hx, hw, q⟩ := h
  cases rx
  obtain ⟨its, r, ht, hz⟩ := I.tuple hx
  have hlen : its.toArray.size = xs.length := by rw [List.size_toArray]; exact r.length.symm
  refine ⟨"tuple", _, PyProof.Rows.slot_tuple_getitem.lookup, ht.typeIs, ?_⟩
  refine HT.getItem_tuple_cut ht hs pl pu (by rw [hlen]; exact hw) ?_ (by rw [hlen]; exact hz)
  rw [hlen]
  refine ⟨.ref s.heap.objs.size, _, I.laid (t' := s.toks) (o := .tup (cutV xs lo hi)) (fun b ob q => Heap.get?_push_of_some _ q) (Nat.le_refl _) ?_, rfl, q _ (I.hok.fresh (Nat.le_refl _))⟩
  exact ⟨Nat.le_trans (cutV_length xs lo hi) hz, _, (r.drop (HT.sIx xs.length 0 lo)).take (HT.sIx xs.length xs.length hi - HT.sIx xs.length 0 lo), IsTup.new _ _⟩
def rCatT (K : PySem.W.Frag) : R2 := fun x y H Q => ∃ a b xs ys, x = .ref a ∧ y = .ref b ∧ SqT K H a xs ∧ SqT K H b ys ∧ xs ≠ [] ∧ xs.length + ys.length ≤ sizeLine ∧
  (ys = [] → Q (.ref a) H) ∧ (ys ≠ [] → ∀ p, H p = none → Q (.ref p) (upd H p (.tup (xs ++ ys))))
theorem Vals.nil_iff {xs : List V} {us : List Value} (r : Vals xs us) : us = [] ↔ xs = [] := by
  cases r with
  | nil => simp
  | cons _ _ => simp
theorem op_catT : OpR X (binaryOp .Add) (rCatT X.K) := by
  intro pins s σ H x y v u Q I rx ry h
  obtain ⟨a, b, xs, ys, rfl, rfl, ha, hb, hx, hz, q1, q2⟩ := h
  cases rx
  cases ry
  obtain ⟨its, r1, p1, _⟩ := I.tuple ha
  obtain ⟨its2, r2, p2, _⟩ := I.tuple hb
  refine HT.cat_tup p1 p2 (fun z => hx (r1.nil_iff.mp z)) (fun z => ⟨.ref a, H, I, rfl, q1 (r2.nil_iff.mp z)⟩) (fun z => ?_) (by rw [← r1.length, ← r2.length]; exact hz)
  refine ⟨.ref s.heap.objs.size, _, I.laid (t' := s.toks) (o := .tup (xs ++ ys)) (fun b ob q => Heap.get?_push_of_some _ q) (Nat.le_refl _) ?_, rfl, q2 (fun w => z (r2.nil_iff.mpr w)) _ (I.hok.fresh (Nat.le_refl _))⟩
  exact ⟨by rw [List.length_append]; exact hz, _, r1.append r2, IsTup.new _ _⟩
end
end L2
namespace L2
open PySem PySem.Spec PyProof.Rows
def ixN (n : Nat) (i : Int) : Option Nat := if 0 ≤ i then (if i < n then some i.toNat else none) else if -(n : Int) ≤ i then some (i + n).toNat else none
def atI {α : Type} (xs : List α) (i : Int) : Option α := (ixN xs.length i).bind fun j => xs[j]?
theorem ixN_seq {n : Nat} {i : Int} {j : Nat} (h : ixN n i = some j) : seqIndex? i n = some j ∧ j < n ∧ -(n : Int) ≤ i ∧ i < n := by
  unfold ixN at h
  by_cases h0 : 0 ≤ i
  · rw [if_pos h0] at h
    by_cases h1 : i < n
    · rw [if_pos h1] at h
      have e : i.toNat = j := Option.some.inj h
      exact ⟨by rw [seqIndex_of h0 h1, e], by omega, by omega, h1⟩
    · rw [if_neg h1] at h; cases h
  · rw [if_neg h0] at h
    by_cases h1 : -(n : Int) ≤ i
    · rw [if_pos h1] at h
      have e : (i + n).toNat = j := Option.some.inj h
      exact ⟨by rw [seqIndex_neg (by omega) h1, e], by omega, h1, by omega⟩
    · rw [if_neg h1] at h; cases h
theorem atI_get {α : Type} {xs : List α} {i : Int} {v : α} (h : atI xs i = some v) : ∃ j, seqIndex? i xs.length = some j ∧ xs[j]? = some v ∧ j < xs.length ∧ -(xs.length : Int) ≤ i ∧ i < xs.length := by
  unfold atI at h
  cases e : ixN xs.length i with
  | none => rw [e] at h; cases h
  | some j =>
    rw [e] at h
    obtain ⟨h1, h2, h3, h4⟩ := ixN_seq e
    exact ⟨j, h1, h, h2, h3, h4⟩
theorem atI_nat {α : Type} {xs : List α} {j : Nat} {v : α} (h : xs[j]? = some v) : atI xs (j : Int) = some v := by
  have hj : j < xs.length := (List.getElem?_eq_some_iff.mp h).1
  have e : ixN xs.length (j : Int) = some j := by
    unfold ixN
    rw [if_pos (by omega), if_pos (by omega)]; simp
  unfold atI; rw [e]; exact h
def PlainIx (b : Expr) : Prop := ∀ o i, subscripted b false o i = operate [o, i] (getItem o i)
def IxR (X : Cx) (r : R2) : Prop :=
  ∀ (value slice : Expr) (pins : List (Addr × Obj)) (s : Shared) (σ : St) (H : Hp) (x y : V) (v u : Value) (Q : VK), Inv X pins σ H s → RelV x v → RelV y u → r x y H Q →
    subscripted slice false v u = operate [v, u] (getItem v u) → wpAny (model X.prog X.w) X.A (subscriptTail value slice v u) (EP X pins σ Q) X.xe s
def MtR (X : Cx) (id : String) (r : V → List V → Hp → VK → Prop) : Prop :=
  ∀ (pins : List (Addr × Obj)) (s : Shared) (σ : St) (H : Hp) (x : V) (xs : List V) (v : Value) (us : List Value) (Q : VK), Inv X pins σ H s → RelV x v → Vals xs us → r x xs H Q →
    wpAny (model X.prog X.w) X.A (call (.builtin id) (v :: us)) (EP X pins σ Q) X.xe s
section
variable {X : Cx} {a b : Expr} {ta tb : TE} {pos : Pos}
theorem IxR.or {r r' : R2} (h : IxR X r) (h' : IxR X r') : IxR X (fun x y H Q => r x y H Q ∨ r' x y H Q) := by
  intro value slice pins s σ H x y v u Q I rx ry q hs
  rcases q with q | q
  · exact h value slice pins s σ H x y v u Q I rx ry q hs
  · exact h' value slice pins s σ H x y v u Q I rx ry q hs
theorem pe_ix {r : R2} (hr : IxR X r) (ha : PE X a ta) (hb : PE X b tb) (hs : PlainIx b) : PE X (.Subscript a b pos) (tOp r ta tb) := by
  intro pins s σ H Q I h
  exact Subscript_ (binT ha hb I h fun v u s2 x y H2 I2 rx ry q => hr a b pins s2 σ H2 x y v u Q I2 rx ry q (hs _ _))
def rIxL (K : PySem.W.Frag) : R2 := fun x y H Q => ∃ p xs i v, x = .ref p ∧ y = .int i ∧ SqL K H p xs ∧ atI xs i = some v ∧ Q v H
def rIxT (K : PySem.W.Frag) : R2 := fun x y H Q => ∃ p xs i v, x = .ref p ∧ y = .int i ∧ SqT K H p xs ∧ atI xs i = some v ∧ Q v H
def rIxS : R2 := fun x y H Q => ∃ z i c, x = .str z ∧ y = .int i ∧ z.length ≤ sizeLine ∧ atI z.cps.toList i = some c ∧ Q (.str ⟨#[c]⟩) H
theorem ix_list : IxR X (rIxL X.K) := by
  intro value slice pins s σ H x y v u Q I rx ry h hs
  obtain ⟨p, xs, i, z, rfl, rfl, hq, he, q⟩ := h
  cases rx
  obtain ⟨t, rfl⟩ := ry
  obtain ⟨its, r, pl, hz⟩ := I.list hq
  obtain ⟨j, h1, h2, h3, h4, h5⟩ := atI_get he
  obtain ⟨w, ew, rw'⟩ := r.get h2
  have hl := r.length
  have hn := line63
  have fin : EP X pins σ Q w s := ⟨z, H, I, rw', q⟩
  by_cases h0 : 0 ≤ i
  · have hj : i.toNat = j := by
      rw [seqIndex_of h0 h5] at h1
      exact Option.some.inj h1
    exact item_listR pl.isList h0 (by omega) (by rw [hj]; simpa using ew) fin hs
  · have hj : (i + (its.toArray.size : Int)).toNat = j := by
      rw [seqIndex_neg (by omega) h4] at h1
      rw [List.size_toArray, ← hl]
      exact Option.some.inj h1
    exact subscriptTail_builtinR (x := w) pl.isList.typeIs slot_list_getitem.lookup
      (wpAny_getItem_list_neg (Q := fun r s' => r = w ∧ EP X pins σ Q r s') pl.isList (by omega) (by rw [List.size_toArray] <;> omega) (by omega) (by rw [hj]; simpa using ew) ⟨rfl, fin⟩) hs
theorem ix_tup : IxR X (rIxT X.K) := by
  intro value slice pins s σ H x y v u Q I rx ry h hs
  obtain ⟨p, xs, i, z, rfl, rfl, hq, he, q⟩ := h
  cases rx
  obtain ⟨t, rfl⟩ := ry
  obtain ⟨its, r, pl, hz⟩ := I.tuple hq
  obtain ⟨j, h1, h2, h3, h4, h5⟩ := atI_get he
  obtain ⟨w, ew, rw'⟩ := r.get h2
  have hl := r.length
  have hn := line63
  have fin : EP X pins σ Q w s := ⟨z, H, I, rw', q⟩
  exact subscriptTail_builtinR (x := w) pl.typeIs slot_tuple_getitem.lookup
    (getItem_tuple (j := j) (Q := fun r s' => r = w ∧ EP X pins σ Q r s') pl (by omega) (by omega) (by rw [List.size_toArray, ← hl]; exact h1) (by simpa using ew) ⟨rfl, fin⟩) hs
theorem ix_str : IxR X rIxS := by
  intro value slice pins s σ H x y v u Q I rx ry h hs
  obtain ⟨z, i, c, rfl, rfl, hz, he, q⟩ := h
  obtain ⟨t, rfl⟩ := rx
  obtain ⟨t', rfl⟩ := ry
  obtain ⟨j, h1, h2, h3, h4, h5⟩ := atI_get he
  have hl : z.cps.toList.length = z.length := by simp [Str.length]
  rw [hl] at h1 h4 h5
  have hn := line63
  exact tail_any (typeIs_str s z t) slot_str_getitem.lookup (getItem_str (c := c) (by
    have e1 : decide (i < -(2 ^ 63 : Int)) = false := decide_eq_false (by omega)
    have e2 : decide (i ≥ 2 ^ 63) = false := decide_eq_false (by omega)
    rw [e1, e2, Bool.or_false]) (by rw [h1]; simpa using h2) ⟨.str ⟨#[c]⟩, H, I.tok _, ⟨_, rfl⟩, q⟩) hs
def rIx (K : PySem.W.Frag) : R2 := fun x y H Q => rIxL K x y H Q ∨ rIxT K x y H Q ∨ rIxS x y H Q
theorem ix_seq : IxR X (rIx X.K) := ix_list.or (ix_tup.or ix_str)
theorem slice_bounds (lo hi : Option Int) (n : Nat) : (sliceBounds lo hi none n).1 = ((HT.sIx n 0 lo : Nat) : Int) ∧ (sliceBounds lo hi none n).2.1 = ((HT.sIx n n hi : Nat) : Int) ∧ (sliceBounds lo hi none n).2.2 = 1 := by
  refine ⟨?_, ?_, rfl⟩
  · cases lo with
    | none => simp [sliceBounds, HT.sIx]
    | some i =>
      simp only [sliceBounds, HT.sIx, Option.getD_none, show (1 : Int) > 0 by decide, if_true]
      by_cases h : i < 0
      · simp only [h, if_true] <;> omega
      · simp only [h, if_false] <;> omega
  · cases hi with
    | none => simp [sliceBounds, HT.sIx]
    | some i =>
      simp only [sliceBounds, HT.sIx, Option.getD_none, show (1 : Int) > 0 by decide, if_true]
      by_cases h : i < 0
      · simp only [h, if_true] <;> omega
      · simp only [h, if_false] <;> omega
theorem slicePick_cut (its : List Value) (lo hi : Option Int) : slicePick its.toArray lo hi none = ((its.drop (HT.sIx its.length 0 lo)).take (HT.sIx its.length its.length hi - HT.sIx its.length 0 lo)).toArray := by
  obtain ⟨h1, h2, h3⟩ := slice_bounds lo hi its.toArray.size
  unfold slicePick
  rw [h1, h2, h3]
  simp only [sliceRange_one, pick_run, List.size_toArray] <;> rfl
def rSlL (K : PySem.W.Frag) : V → Option Int → Option Int → Hp → VK → Prop := fun x lo hi H Q => ∃ a xs, x = .ref a ∧ SqL K H a xs ∧ ∀ p, H p = none → Q (.ref p) (upd H p (.lst (cutV xs lo hi)))
theorem sl_list : SlR X (rSlL X.K) := by
  intro pins s σ H x v vl vu lo hi sl Q I rx hs pl pu h
  obtain ⟨a, xs, rfl, hx, q⟩ := h
  cases rx
  obtain ⟨its, r, ht, hz⟩ := I.list hx
  have hlen := r.length
  refine ⟨"list", _, slot_list_getitem.lookup, ht.isList.typeIs, ?_⟩
  refine wpAny_getItem_list_slice ht.isList hs pl pu .none (by simp) ?_ (by rw [List.size_toArray] <;> omega)
  rw [slicePick_cut, ← hlen]
  refine ⟨.ref s.heap.objs.size, _, I.laid (t' := s.toks) (o := .lst (cutV xs lo hi)) (fun b ob q => Heap.get?_push_of_some _ q) (Nat.le_refl _) ?_, rfl, q _ (I.hok.fresh (Nat.le_refl _))⟩
  exact ⟨Nat.le_trans (cutV_length xs lo hi) hz, _, 0, (r.drop (HT.sIx xs.length 0 lo)).take (HT.sIx xs.length xs.length hi - HT.sIx xs.length 0 lo), Heap.get?_push_size _ rfl⟩
def flatV : V → Bool
  | .non => true
  | .bl _ => true
  | .int _ => true
  | .str _ => true
  | _ => false
def eqV : V → V → Bool
  | .non, .non => true
  | .bl a, .bl b => a == b
  | .bl a, .int b => (if a then 1 else 0) == b
  | .int a, .bl b => a == (if b then 1 else 0)
  | .int a, .int b => a == b
  | .str a, .str b => a == b
  | _, _ => false
theorem eqAt_V {A : Around} {s : Shared} {y x : V} {u v : Value} (ry : RelV y u) (rx : RelV x v) (fy : flatV y = true) (fx : flatV x = true) : SeqAt.EqAt A s u v (eqV y x) := by
  cases y with
  | non =>
    cases ry
    cases x with
    | non => cases rx; exact SeqAt.EqAt.same _
    | bl b => cases rx; exact SeqAt.EqAt.none_bool b
    | int b => obtain ⟨t, rfl⟩ := rx; exact SeqAt.EqAt.none_int b t
    | str b => obtain ⟨t, rfl⟩ := rx; exact SeqAt.EqAt.none_str b t
    | _ => exact absurd (show false = true from fx) Bool.false_ne_true
  | bl a =>
    cases ry
    cases x with
    | non => cases rx; exact SeqAt.EqAt.bool_none a
    | bl b => cases rx; exact SeqAt.EqAt.bool_bool a b
    | int b => obtain ⟨t, rfl⟩ := rx; exact SeqAt.EqAt.bool_int a b t
    | str b => obtain ⟨t, rfl⟩ := rx; exact SeqAt.EqAt.bool_str a b t
    | _ => exact absurd (show false = true from fx) Bool.false_ne_true
  | int a =>
    obtain ⟨t', rfl⟩ := ry
    cases x with
    | non => cases rx; exact SeqAt.EqAt.int_none a t'
    | bl b => cases rx; exact SeqAt.EqAt.int_bool a t' b
    | int b => obtain ⟨t, rfl⟩ := rx; exact SeqAt.EqAt.int_int a t' b t
    | str b => obtain ⟨t, rfl⟩ := rx; exact SeqAt.EqAt.int_str a t' b t
    | _ => exact absurd (show false = true from fx) Bool.false_ne_true
  | str a =>
    obtain ⟨t', rfl⟩ := ry
    cases x with
    | non => cases rx; exact SeqAt.EqAt.str_none a t'
    | bl b => cases rx; exact SeqAt.EqAt.str_bool a t' b
    | int b => obtain ⟨t, rfl⟩ := rx; exact SeqAt.EqAt.str_int a t' b t
    | str b => obtain ⟨t, rfl⟩ := rx; exact SeqAt.EqAt.str_str a t' b t
    | _ => exact absurd (show false = true from fx) Bool.false_ne_true
  | _ => exact absurd (show false = true from fy) Bool.false_ne_true
def eqU (x : V) (u : Value) : Bool := match u with
  | .none => eqV .non x
  | .bool b => eqV (.bl b) x
  | .int i _ => eqV (.int i) x
  | .str z _ => eqV (.str z) x
  | _ => false
theorem eqU_of {x y : V} {u : Value} (r : RelV y u) (f : flatV y = true) : eqU x u = eqV y x := by
  cases y with
  | non => cases r; rfl
  | bl b => cases r; rfl
  | int i => obtain ⟨t, rfl⟩ := r; rfl
  | str z => obtain ⟨t, rfl⟩ := r; rfl
  | _ => exact absurd (show false = true from f) Bool.false_ne_true
theorem any_eqU {x : V} : ∀ {xs : List V} {us : List Value}, Vals xs us → xs.all flatV = true → us.any (eqU x) = xs.any fun y => eqV y x
  | _, _, .nil, _ => rfl
  | y :: xs, u :: us, .cons r t, f => by
    rw [List.all_cons, Bool.and_eq_true] at f
    rw [List.any_cons, List.any_cons, eqU_of r f.1, any_eqU t f.2]
theorem mem_eqAt {A : Around} {s : Shared} {x : V} {v : Value} (rx : RelV x v) (fx : flatV x = true) : ∀ {xs : List V} {us : List Value}, Vals xs us → xs.all flatV = true → ∀ u ∈ us, SeqAt.EqAt A s u v (eqU x u)
  | _, _, .nil, _ => fun u hu => by cases hu
  | y :: xs, u :: us, .cons r t, f => fun u' hu => by
    rw [List.all_cons, Bool.and_eq_true] at f
    rcases List.mem_cons.mp hu with rfl | hu
    · rw [eqU_of r f.1]; exact eqAt_V r rx f.1 fx
    · exact mem_eqAt rx fx t f.2 u' hu
def inV (x : V) (xs : List V) : Bool := xs.any fun y => eqV y x
def rIn (K : PySem.W.Frag) (neg : Bool) : R2 := fun x y H Q => ∃ p xs, y = .ref p ∧ (SqL K H p xs ∨ SqT K H p xs) ∧ flatV x = true ∧ xs.all flatV = true ∧ Q (.bl (if neg then !inV x xs else inV x xs)) H
theorem op_in_seq : OpR X (compareOp .In) (rIn X.K false) := by
  intro pins s σ H x y v u Q I rx ry h
  obtain ⟨p, xs, rfl, hq, fx, fs, q⟩ := h
  cases ry
  rcases hq with hq | hq
  · obtain ⟨its, r, pl, hz⟩ := I.list hq
    refine SeqAt.in_listAt (eqU x) pl.isList (fun w hw => mem_eqAt rx fx r fs w (by simpa using hw)) ⟨.bl _, H, I, rfl, ?_⟩
    rw [show its.toArray.any (eqU x) = its.any (eqU x) by simp, any_eqU r fs]
    exact q
  · obtain ⟨its, r, pl, hz⟩ := I.tuple hq
    refine SeqAt.in_tupleAt (eqU x) pl (fun w hw => mem_eqAt rx fx r fs w (by simpa using hw)) ⟨.bl _, H, I, rfl, ?_⟩
    rw [show its.toArray.any (eqU x) = its.any (eqU x) by simp, any_eqU r fs]
    exact q
theorem op_notIn_seq : OpR X (compareOp .NotIn) (rIn X.K true) := by
  intro pins s σ H x y v u Q I rx ry h
  obtain ⟨p, xs, rfl, hq, fx, fs, q⟩ := h
  cases ry
  rcases hq with hq | hq
  · obtain ⟨its, r, pl, hz⟩ := I.list hq
    refine SeqAt.notIn_listAt (eqU x) pl.isList (fun w hw => mem_eqAt rx fx r fs w (by simpa using hw)) ⟨.bl _, H, I, rfl, ?_⟩
    rw [show its.toArray.any (eqU x) = its.any (eqU x) by simp, any_eqU r fs]
    exact q
  · obtain ⟨its, r, pl, hz⟩ := I.tuple hq
    refine SeqAt.notIn_tupleAt (eqU x) pl (fun w hw => mem_eqAt rx fx r fs w (by simpa using hw)) ⟨.bl _, H, I, rfl, ?_⟩
    rw [show its.toArray.any (eqU x) = its.any (eqU x) by simp, any_eqU r fs]
    exact q
def tyV (K : PySem.W.Frag) (T : String) (x : V) (H : Hp) : Prop := match x with
  | .str _ => T = "str"
  | .int _ => T = "int"
  | .ref p => (T = "list" ∧ ∃ xs, SqL K H p xs) ∨ (T = "tuple" ∧ ∃ o, K.lookup p = some o ∧ o.cls = .type "tuple" ∧ o.dict = none) ∨
      (T = "dict" ∧ ((∃ kvs, H p = some (.dK kvs)) ∨ ∃ kvs, H p = some (.dT kvs))) ∨ (T = "set" ∧ ∃ S n, H p = some (.set S n))
  | _ => False
theorem tyV_is {pins : List (Addr × Obj)} {σ : St} {H : Hp} {s : Shared} {T : String} {x : V} {v : Value} (I : Inv X pins σ H s) (r : RelV x v) (ty : tyV X.K T x H) :
    s.TypeIs v T ∧ ∀ a, v = .ref a → ∃ ob, s.heap.get? a = some ob ∧ ob.dict = none := by
  cases x with
  | str z =>
    obtain ⟨t, rfl⟩ := r
    cases (show T = "str" from ty)
    exact ⟨typeIs_str s z t, fun _ e => nomatch e⟩
  | int i =>
    obtain ⟨t, rfl⟩ := r
    cases (show T = "int" from ty)
    exact ⟨typeIs_int s i t, fun _ e => nomatch e⟩
  | ref p =>
    cases r
    rcases ty with ⟨rfl, xs, hq⟩ | ⟨rfl, o, hk, hc, hd⟩ | ⟨rfl, hk⟩ | ⟨rfl, S, n, hk⟩
    · obtain ⟨its, _, pl, _⟩ := I.list hq
      refine ⟨pl.isList.typeIs, fun a e => ?_⟩
      cases e
      obtain ⟨o, n, e, c, hd, _⟩ := pl
      exact ⟨o, e, hd⟩
    · refine ⟨⟨o, I.kIn p o hk, hc⟩, fun a e => ?_⟩
      cases e
      exact ⟨o, I.kIn _ o hk, hd⟩
    · have z : ∃ o, s.heap.get? p = some o ∧ o.ExactDict := by
        rcases hk with ⟨kvs, hk⟩ | ⟨kvs, hk⟩
        · obtain ⟨_, _, _, _, o, _, _, e, ex, _⟩ := I.hok p _ hk
          exact ⟨o, e, ex⟩
        · obtain ⟨_, _, _, _, o, _, _, e, ex, _⟩ := I.hok p _ hk
          exact ⟨o, e, ex⟩
      obtain ⟨o, e, ex⟩ := z
      refine ⟨⟨o, e, ex.1⟩, fun a e2 => ?_⟩
      cases e2
      exact ⟨o, e, ex.2.1⟩
    · obtain ⟨o, _, _, _, e, ex, _⟩ := I.hok p _ hk
      refine ⟨⟨o, e, ex.1⟩, fun a e2 => ?_⟩
      cases e2
      exact ⟨o, e, ex.2.1⟩
  | _ => exact False.elim ty
def tBM (K : PySem.W.Frag) (T : String) (r : V → List V → Hp → VK → Prop) (to : TE) (t : TA) : TE := fun σ H Q => to σ H fun x H1 => tyV K T x H1 ∧ t σ H1 fun xs H2 => r x xs H2 Q
variable {o e : Expr} {es : List Expr} {to : TE} {t : TA} {name : Str} {apos cpos : Pos} {T id : String} {r : V → List V → Hp → VK → Prop}
theorem pe_bm (pa : PlainAttrs T) (slot : Slot T name id) (hty : typeOf (.builtin id) = pure (.type "method_descriptor")) (hm : MtR X id r) (ho : PE X o to) (ha : PA X (e :: es) t)
    (hbase : attributeBase o name X.env (eval o X.env) = eval o X.env := by rfl)
    (hfew : ((backTo cpos (starEach (e :: es) X.env)).all (fun x => !x.1) && (backToKw cpos (keywordEach [] X.env)).all (fun x => x.1.isSome)
      && decide ((e :: es).length + ([] : List Keyword).length + (if ([] : List Keyword).isEmpty then 0 else 1) < 30)) = true := by rfl)
    (hline : (apos.endLine == cpos.line) = true := by rfl) (hs : starEach (e :: es) X.env = (false, eval e X.env) :: starEach es X.env := by rfl) (hplain : (backTo cpos (starEach es X.env)).any (·.1) = false := by rfl) :
    PE X (.Call (.Attribute o name apos) (e :: es) [] cpos) (tBM X.K T r to t) := by
  intro pins s σ H Q I h
  refine wpAny_Call_method_late hbase hfew hline rfl (thn (ho pins s σ H _ I h) fun v s1 ⟨x, H1, I1, r1, ty, q1⟩ => ?_)
  obtain ⟨h1, h2⟩ := tyV_is I1 r1 ty
  refine ⟨T, id, pa, slot, hty, h1, h2, ?_⟩
  have hA := ha cpos pins s1 σ H1 _ I1 q1
  rw [hs] at hA ⊢
  refine Calls.callWith_builtin (by show (false || (backTo cpos (starEach es X.env)).any (·.1)) = false; rw [hplain] <;> rfl) (Calls.evalArgs_plain ?_)
  exact thn hA fun us s2 ⟨vs, H2, I2, r2, q2⟩ => hm pins s2 σ H2 x vs v us Q I2 r1 r2 q2
end
end L2
namespace L2
open PySem PySem.Spec PyProof.Rows
def MtM (X : Cx) (id : String) (r : V → List V → Hp → VK → Prop) : Prop :=
  ∀ (pins : List (Addr × Obj)) (s : Shared) (σ : St) (H : Hp) (x : V) (xs : List V) (v : Value) (us : List Value) (Q : VK), Inv X pins σ H s → RelV x v → Vals xs us → r x xs H Q →
    wpAny (model X.prog X.w) X.A (call (.builtin id) (v :: us)) (EP X pins σ Q) X.xe s
theorem Vals.one : ∀ {x : V} {us : List Value}, Vals [x] us → ∃ u, us = [u] ∧ RelV x u
  | _, _, .cons r .nil => ⟨_, rfl, r⟩
theorem Vals.zero : ∀ {us : List Value}, Vals [] us → us = []
  | _, .nil => rfl
section
variable {X : Cx} {pins : List (Addr × Obj)} {σ : St} {H : Hp} {s : Shared} {l b : Addr} {xs ys zs : List V}
theorem Inv.lset {its its' : List Value} {n : Nat} {f : Array Value → Array Value} {t' : Nat} (I : Inv X pins σ H s) (hH : H l = some (.lst xs))
    (e : s.heap.get? l = some { cls := .type "list", data := .seq its.toArray n }) (hf : f its.toArray = its'.toArray) (hv : Vals ys its') (hz : ys.length ≤ sizeLine) :
    Inv X pins σ (upd H l (.lst ys)) { s with heap := s.heap.update l (Obj.mapSeq f), toks := t' } := by
  have q := PySem.IsL.update e f
  rw [hf] at q
  refine I.write (x := l) (e := l) (by rw [hH]; exact trivial) (.inl rfl) (fun b' u hb hu => (Heap.get?_update_other s.heap (Obj.mapSeq f) (Ne.symm hb)).trans hu) ⟨_, q⟩ ?_
  exact ⟨hz, its', _, hv, q⟩
theorem Inv.lnew {its : List Value} {t' : Nat} (I : Inv X pins σ H s) (hv : Vals ys its) (hz : ys.length ≤ sizeLine) :
    Inv X pins σ (upd H s.heap.objs.size (.lst ys)) { s with heap := s.heap.push { cls := .type "list", data := .seq its.toArray }, toks := t' } :=
  I.laid (fun _ _ q => Heap.get?_push_of_some _ q) (Nat.le_refl _) ⟨hz, its, 0, hv, Heap.get?_push_size _ rfl⟩
theorem Inv.fresh (I : Inv X pins σ H s) : H s.heap.objs.size = none := I.hok.fresh (Nat.le_refl _)
theorem Inv.lstM (I : Inv X pins σ H s) (hH : H l = some (.lst xs)) : xs.length ≤ sizeLine ∧ ∃ (its : List Value) (n : Nat), Vals xs its ∧ xs.length = its.length ∧ s.heap.get? l = some { cls := .type "list", data := .seq its.toArray n } := by
  obtain ⟨z, its, n, r, e⟩ := I.hok l _ hH
  exact ⟨z, its, n, r, r.length, e⟩
end
section
variable {X : Cx}
def rAppend : V → List V → Hp → VK → Prop := fun x vs H Q => ∃ l xs y, x = .ref l ∧ vs = [y] ∧ H l = some (.lst xs) ∧ xs.length < sizeLine ∧ Q .non (upd H l (.lst (xs ++ [y])))
theorem mt_append : MtM X "list.append" rAppend := by
  intro pins s σ H x vs v us Q I rx rv h
  obtain ⟨l, xs, y, rfl, rfl, hH, hz, q⟩ := h
  cases rx
  obtain ⟨u, rfl, ru⟩ := rv.one
  obtain ⟨z, its, n, r, hl, e⟩ := I.lstM hH
  refine call_meets F.slot_list_append ⟨_, e, rfl⟩ F.entry_list_append (F.args_list_append_2 _ _) (PySem.list_append l its.toArray n u (by rw [List.size_toArray]; omega)) ⟨e, ?_⟩
  refine ⟨.non, _, I.lset (its' := its ++ [u]) hH e (by simp) (r.append (.cons ru .nil)) ?_, rfl, q⟩
  rw [List.length_append, List.length_singleton]
  omega
end
section
variable {prog : Program} {w : World} {A : Around} {E : Value → Shared → Prop} {s : Shared}
end
section
variable {X : Cx}
end
end L2
namespace Att
open PySem PySem.W PySem.Calls PyProof.Rows
theorem ints_of_wellAll {P : Params} {h : Heap} : ∀ (ns : List Int) (vs : List Value), WellAll P h vs (ns.map WData.int) → IntsAre vs ns := by
  intro ns
  induction ns with
  | nil =>
    intro vs w
    rw [List.map_nil] at w
    cases w
    exact .nil
  | cons n ns ih =>
    intro vs w
    rw [List.map_cons] at w
    cases w with
    | cons a b =>
      cases a
      exact .cons _ _ (ih _ b)
theorem script_of {l : OpenLaw} {n : Nat} (hn : l.most = some n) {P : Params} {h : Heap} {args : List WData} {vals : List Value}
    (hpre : l.row.toRowW.claim.pre args = true) (hwl : WellAll P h vals args) :
    ∃ a vs ns, vals = [Value.ref a] ∧ args = [WData.list (ns.map WData.int)] ∧ h.get? a = some { cls := .type "list", data := .seq vs.toArray } ∧ IntsAre vs ns ∧ ns.length ≤ n := by
  have hsh : WShape.hasAll [] args [.list .int] = true := (pre_splitW hpre).1
  have hc : l.pre.holds [] { args := args } = true := (pre_splitW hpre).2
  obtain ⟨d, r, rfl, h1, h2⟩ := hasAllW_cons hsh
  obtain rfl := hasAllW_nil h2
  obtain ⟨xs, rfl, h3⟩ := hasW_list h1
  obtain ⟨ns, rfl⟩ := items_int h3
  have hlen : ns.length ≤ n := by
    unfold OpenLaw.pre at hc
    have h4 : (WTm.not (.lt (.lit (.int (n : Int))) (.len (.arg 0)))).holds [] { args := [.list (ns.map .int)] } = true := by
      have h4 := (holds_andW hc).1
      rw [hn] at h4
      exact h4
    have h5 := condW_of h4 (w_not (w_lt w_lit (w_len_list (w_arg rfl))))
    rw [List.length_map] at h5
    refine Nat.le_of_not_lt fun q => ?_
    have q' : (n : Int) < ((ns.length : Nat) : Int) := by omega
    first
      | (rw [decide_eq_true q'] at h5; exact absurd h5 (by decide))
      | (simp at h5; omega)
  cases hwl with
  | cons w1 w2 =>
    cases w2
    cases w1 with
    | list ho hall => exact ⟨_, _, ns, rfl, rfl, ho, ints_of_wellAll ns _ hall, hlen⟩
theorem post_true (l : OpenLaw) (args : List WData) : l.row.toRowW.claim.post args (.bool true) args = true :=
  postW_of (r := l.row.toRowW) (X := (true == true))
    (show WShape.has [] (.bool true) .bool = true by first | rfl | decide | simp [WShape.has, WShape.arms, WShape.armsAll])
    (show (WTm.eq .res (.lit (.bool true))).value [] { args := args, res := some (.bool true), after := args } = some (.bool (true == true)) from w_eq_bool (w_res rfl) w_lit) rfl
theorem attach_call {l : OpenLaw} {n : Nat} {q : Program} {loose : List Str} {XP : (Str → Option Value) → Heap → Prop} {YP : World → Heap → Prop} {d : DefRec}
    (hn : l.most = some n) (hdf : d.params.defaults = [])
    (call : ∀ (w : World) (s₀ s₁ : Shared) (mg mb : Str → Option Value) (fa : Addr) (o : Obj) (pm cd doc : Value) (a : Addr) (vs : List Value) (ns : List Int),
      Ground q loose [] XP w s₀ mg mb s₁.heap → YP w s₁.heap →
      s₁.heap.get? fa = some o → o.data = .func (docDef d.name d.params d.body d.scope pm cd doc) → s₁.heap.CodeRec cd d.name → mg d.name = some (.ref fa) →
      s₁.heap.get? a = some { cls := .type "list", data := .seq vs.toArray } → IntsAre vs ns → ns.length ≤ n → s₁.gens = #[] →
      codeAny (model l.prog w) callerA (.call (.ref fa) ⟨[.ref a], []⟩) (fun r s' => r = .ok (.ret (.bool true)) ∧ OldK s₁.heap s'.heap ∧ s'.os = s₁.os ∧ AllBare s'.gens) s₁) :
    WalkO q loose XP YP l.row.toRowW d [] (fun f vs => PySem.call f vs) := by
  intro w s₀ s₁ mg mb G Y fa o pm cd doc dV kV ho hd hcd hD hmg hg args vals as hpre hlay hrd hwl hlo
  obtain rfl : dV = .none := Dflts.none hD hdf
  obtain rfl : kV = .none := Dflts.noKw hD
  obtain ⟨a, vs, ns, rfl, rfl, hobj, hints, hlen⟩ := script_of hn hpre hwl
  refine enter_call (codeAny_mono (call w s₀ s₁ mg mb fa o pm cd doc a vs ns G Y ho (fd_plain hd) hcd hmg hobj hints hlen hg) fun r s' hq => ?_)
  obtain ⟨rfl, h2, h3, h4⟩ := hq
  exact ⟨.inl ⟨.bool true, .bool true, [], rfl, fun _ => rfl, .bool true, post_true l _, fun _ => ⟨List.Pairwise.nil, fun _ hm => (nomatch hm)⟩⟩, h2, h3, h4⟩
section
variable {prog : Program} {w : World} {A : Around} {E : Value → Shared → Prop} {s : Shared} {K : Frag}
end
end Att
namespace L2
open PySem PySem.Spec PyProof.Rows
theorem vals_ints : ∀ {vs : List Value} {ns : List Int}, IntsAre vs ns → Vals (ns.map V.int) vs
  | _, _, .nil => .nil
  | _, _, .cons n t h => .cons ⟨t, rfl⟩ (vals_ints h)
def Only (H : Hp) : Prop := ∀ b, H b = none ∨ ∃ o xs, H b = some (.frz o (.lst xs))
theorem law_call {P : Program} {w : World} {K : PySem.W.Frag} {mg mb : Str → Option Value} {CX : CXT} {k : Nat} {fa a : Addr} {fd : FuncData} {x : Str} {sp : Sp} {s₁ : Shared} {vs : List Value} {ns : List Int}
    (KX : K.In s₁.heap) (hns : s₁.heap.Ns mainGlobals mg) (hb : s₁.heap.Ns builtinsNs mb) (hbb : ∀ x : Str, x ≠ "__name__" → mb x = bootBuiltins x) (hlim : s₁.heap.NoLimit) (hg : s₁.gens = #[])
    (ha : s₁.heap.get? a = some { cls := .type "list", data := .seq vs.toArray }) (hi : IntsAre vs ns) (hl : ns.length ≤ sizeLine) (hr : Room k callerA)
    (F : ∀ base : Heap, K.In base → base.Ns mainGlobals mg → FnOk P w K mg base CX k fa fd [x] sp) (hbind : ∀ (s : Shared) (u : Value), BindsTo s fd ⟨[u], []⟩ [(x, u)])
    (hsp : ∀ H : Hp, Only H → SqL K H a (ns.map V.int) → sp [.ref a] H (fun v _ => v = .bl true) fun _ _ _ => False)
    (hCX : ∀ H e s', CX [] H s₁ (fun _ _ _ => False) e s' → False) :
    codeAny (model P w) callerA (.call (.ref fa) ⟨[.ref a], []⟩) (fun r s' => r = .ok (.ret (.bool true)) ∧ OldK s₁.heap s'.heap ∧ s'.os = s₁.os ∧ AllBare s'.gens) s₁ := by
  have rv := vals_ints hi
  have lenV := hi.length
  -- from an abstract heap in which nothing but the script may be tracked
  have core : ∀ H : Hp, Only H → SqL K H a (ns.map V.int) → HOk P w H s₁.heap → (∀ b, H b ≠ none → b = a) → (H a ≠ none → K.lookup a = none) →
      codeAny (model P w) callerA (.call (.ref fa) ⟨[.ref a], []⟩) (fun r s' => r = .ok (.ret (.bool true)) ∧ OldK s₁.heap s'.heap ∧ s'.os = s₁.os ∧ AllBare s'.gens) s₁ := by
    intro H hO hS hok hA hK
    have base_of : ∀ {b : Addr} {o : Obj}, s₁.heap.get? b = some o → H b = none → (hidT s₁.heap H).get? b = some o := fun e n => hidT_get e n
    have noA : ∀ {b : Addr} {o : Obj} {es : Array DictEntry} {ep : Nat}, s₁.heap.get? b = some o → o.data = .dict es ep → H b = none := fun {b o es ep} e d => by
      cases q : H b with
      | none => rfl
      | some u =>
        have e' : b = a := hA b (by rw [q]; simp)
        subst e'
        rw [ha] at e; cases e
        have d' : Data.seq vs.toArray _ = Data.dict es ep := d
        cases d'
    have nsK : ∀ {b : Addr} {m : Str → Option Value}, s₁.heap.Ns b m → (hidT s₁.heap H).Ns b m := fun {b m} ⟨o, es, ep, e, d, r⟩ => ⟨o, es, ep, base_of e (noA e d), d, r⟩
    have hKb : K.In (hidT s₁.heap H) := fun b o e => base_of (KX b o e) (by
      cases q : H b with
      | none => rfl
      | some u =>
        have e' : b = a := hA b (by rw [q]; simp)
        subst e'
        rw [hK (by rw [q]; simp)] at e; cases e)
    have hM : Mod K mg (hidT s₁.heap H) := ⟨hKb, nsK hns, ⟨mb, nsK hb, hbb⟩, let ⟨mc, h1, h2⟩ := hlim; ⟨mc, nsK h1, h2⟩⟩
    have e0 : Env0 P w K mg (hidT s₁.heap H) callerA [] s₁ H := ⟨rfl, hM, fun b o e => of_hidT e, Nat.le_of_eq (hidT_size _ _), trivial, fun b hb => absurd (show b ∈ ([] : List Addr) from hb) (by simp), hok, .of_eq hg⟩
    refine codeAny_mono ((F _ hKb (nsK hns)).run callerA [] s₁ H ⟨[.ref a], []⟩ [.ref a] [.ref a] _ _ hr e0 (hbind s₁ (.ref a)) (.cons rfl .nil) (hsp H hO hS)) fun r s' h => ?_
    cases r with
    | error e => exact (hCX H e s' h).elim
    | ok fl =>
      cases fl with
      | next => exact False.elim h
      | brk => exact False.elim h
      | cont => exact False.elim h
      | ret u =>
        obtain ⟨v, H', os, bare, un, hok', r', q⟩ := h
        have q' : v = .bl true := q
        subst q'
        obtain rfl : u = Value.bool true := r'
        refine ⟨rfl, OldK.of_keep fun b o e => ?_, os, bare⟩
        cases q : H b with
        | none => exact un.keep b o e q (by intro z; exact absurd (show b ∈ ([] : List Addr) from z) (by simp)) (by simp)
        | some u =>
          rcases hO b with z | ⟨ob, xs, z⟩
          · rw [q] at z; cases z
          · have z2 := un.frzs b ob _ z
            obtain ⟨e1, _⟩ := hok b _ z
            obtain ⟨e2, _⟩ := hok' b _ z2
            rw [e] at e1; cases e1
            exact e2
  cases hk : K.lookup a with
  | some o =>
    -- the script is one of the module's own objects
    have e := KX a o hk
    rw [ha] at e
    cases e
    refine core (fun _ => none) (fun _ => .inl rfl) (.inr ⟨_, vs.toArray, _, hk, rfl, rfl, rfl, by rw [List.size_toArray, lenV]; exact hl, by simpa using rv⟩) (fun b u z => by have z' : (none : Option HO) = some u := z; cases z') (fun b z => absurd rfl z) fun z => absurd rfl z
  | none =>
    refine core (fun b => if b = a then some (.frz { cls := .type "list", data := .seq vs.toArray } (.lst (ns.map V.int))) else none) (fun b => ?_) (.inl (.inr ⟨{ cls := .type "list", data := .seq vs.toArray }, if_pos rfl⟩)) (fun b u z => ?_) (fun b z => ?_) fun _ => hk
    · by_cases hb : b = a
      · exact .inr ⟨_, _, if_pos hb⟩
      · exact .inl (if_neg hb)
    · by_cases hb : b = a
      · have z' := (if_pos hb).symm.trans z
        cases z'
        subst hb
        exact ⟨ha, by rw [List.length_map]; exact hl, vs, _, rv, ha⟩
      · have z' := (if_neg hb).symm.trans z
        cases z'
    · by_cases hb : b = a
      · exact hb
      · exact absurd (if_neg hb) z
end L2
namespace L2
open PySem PySem.Spec PyProof.Rows
theorem walk_of {l : PySem.W.OpenLaw} {n k : Nat} {q : Program} {loose : List Str} {XP : (Str → Option Value) → Heap → Prop} {YP : World → Heap → Prop} {d : DefRec} {K : Params → PySem.W.Frag} {CX : World → CXT} {sp : World → Sp} {x : Str}
    (hn : l.most = some n) (hn2 : n ≤ sizeLine) (hdf : d.params.defaults = []) (hr : Room k callerA)
    (hY : ∀ (w : World) (h : Heap), YP w h → (K w.params).In h)
    (F : ∀ (w : World) (mg : Str → Option Value) (fa : Addr) (h : Heap), (K w.params).In h → h.Ns mainGlobals mg → mg d.name = some (.ref fa) →
      ∃ fd : FuncData, (∀ (s : Shared) (u : Value), BindsTo s fd ⟨[u], []⟩ [(x, u)]) ∧
        ∀ base : Heap, (K w.params).In base → base.Ns mainGlobals mg → FnOk l.prog w (K w.params) mg base (CX w) k fa fd [x] (sp w))
    (hsp : ∀ (w : World) (H : Hp) (a : Addr) (ns : List Int), ns.length ≤ n → Only H → SqL (K w.params) H a (ns.map V.int) → sp w [.ref a] H (fun v _ => v = .bl true) fun _ _ _ => False)
    (hCX : ∀ (w : World) (H : Hp) (s : Shared) (e : Value) (s' : Shared), CX w [] H s (fun _ _ _ => False) e s' → False) :
    PySem.W.WalkO q loose XP YP l.row.toRowW d [] (fun f vs => PySem.call f vs) := by
  refine Att.attach_call hn hdf fun w s₀ s₁ mg mb fa o pm cd doc a vs ns G Y ho hd hcd hmg hobj hints hlen hg => ?_
  have KX := hY w _ Y
  obtain ⟨fd, hb, hF⟩ := F w mg fa _ KX G.T.g hmg
  exact law_call KX G.T.g G.T.b G.T.builtins G.T.nolimit hg hobj hints (Nat.le_trans hlen hn2) hr hF hb (fun H hO hS => hsp w H a ns hlen hO hS) fun H e s' => hCX w H s₁ e s'
end L2
namespace L2
open PySem PySem.Spec PyProof.Rows
def defArgs (s : Stmt) : Arguments := match s with
  | .FunctionDef _ a _ _ _ _ _ _ _ _ => a
  | _ => { posonlyargs := [], args := [], vararg := none, kwonlyargs := [], kw_defaults := [], kwarg := none, defaults := [] }
def defBody (s : Stmt) : List Stmt := match s with
  | .FunctionDef _ _ b _ _ _ _ _ _ _ => b
  | _ => []
def defScope (s : Stmt) : Scope := match s with
  | .FunctionDef _ _ _ _ _ _ sc _ _ _ => sc
  | _ => { kind := .function, names := [], isGenerator := false, isCoroutine := false }
abbrev CX0 : CXT := fun _ _ _ _ _ _ => False
abbrev E0 : XK := fun _ _ _ => False
theorem pass0 {X : Cx} : Passes CX0 X E0 := fun _ _ _ _ _ _ _ h => h.elim
structure Fun (K : PySem.W.Frag) (x qual : Str) (st : Stmt) (f : Addr) (fd : FuncData) : Prop where
  ex : ∃ (oc : Value) (od : Option Addr) (kV doc pm : Value) (an : Option Addr) (cdv ct : Value) (osl : Array (Option Value)),
    fd = PySem.W.fnOf x qual (defArgs st) (defBody st) (defScope st) .none kV doc pm an cdv ct ∧ K.lookup f = some ⟨oc, od, .func fd, osl⟩ ∧ PySem.W.codeIn K cdv qual = true
  kp : PySem.W.keepIn K (.ref f) = true
section
variable {P : Program} {w : World} {K : PySem.W.Frag} {mg : Str → Option Value} {base : Heap}
theorem Fun.ok {x qual : Str} {st : Stmt} {f : Addr} {fd : FuncData} {N ps : List Str} {k : Nat} {sp : Sp} (F : Fun K x qual st f fd) (S : FnScope N ps (defScope st)) (len : ∀ vs H Q E, sp vs H Q E → vs.length = ps.length)
    (hbody : ∀ (cdv : Value) (A : Around) (outer : List Env) (s : Shared) (H : Hp) (vs : List V) (Q : VK) (E : XK), Room k (A.deeper (envOfC qual (defScope st) s.heap.objs.size f cdv)) → sp vs H Q E →
      ∃ t, PSs (cxOf CX0 P w K mg base N qual (defScope st) f cdv A outer s H E).nox (defBody st) t ∧ t { nx := fun _ H' => Q .non H', rt := Q } (start N vs) H) : FnOk P w K mg base CX0 (k + 1) f fd ps sp := by
  obtain ⟨oc, od, kV, doc, pm, an, cdv, ct, osl, rfl, lk, hcd⟩ := F.ex
  refine fn_of lk hcd S len fun A outer s H vs Q E hr hsp => ?_
  obtain ⟨t, h, q⟩ := hbody cdv A outer s H vs Q E hr hsp
  exact ⟨t, h.nox, q⟩
theorem Fun.binds {x qual : Str} {st : Stmt} {f : Addr} {fd : FuncData} {ps : List Str} (F : Fun K x qual st f fd)
    (h : ∀ (kV doc pm : Value) (an : Option Addr) (cdv ct : Value) (us : List Value), us.length = ps.length → bindArgs (PySem.W.fnOf x qual (defArgs st) (defBody st) (defScope st) .none kV doc pm an cdv ct) ⟨us, []⟩ = pure (ps.zip us)) : Binds K fd ps [] := by
  obtain ⟨oc, od, kV, doc, pm, an, cdv, ct, osl, rfl, lk, hcd⟩ := F.ex
  exact .all (h kV doc pm an cdv ct)
theorem fun_mk {x qual : Str} {st : Stmt} {f : Addr} {oc : Value} {od an : Option Addr} {osl : Array (Option Value)} {kV doc pm cdv ct : Value} (l : K.lookup f = some ⟨oc, od, .func (PySem.W.fnOf x qual (defArgs st) (defBody st) (defScope st) .none kV doc pm an cdv ct), osl⟩)
    (c : PySem.W.codeIn K cdv qual = true) (k : PySem.W.keepIn K (.ref f) = true) : Fun K x qual st f (PySem.W.fnOf x qual (defArgs st) (defBody st) (defScope st) .none kV doc pm an cdv ct) := ⟨⟨oc, od, kV, doc, pm, an, cdv, ct, osl, rfl, l, c⟩, k⟩
end
theorem small1000 {n : Nat} (h : n ≤ 1000) : n < sizeLine := Nat.lt_of_le_of_lt h (by decide)
section
variable {X : Cx}
theorem pv (i : Nat) {x : Str} {pos : Pos} (hN : X.N[i]? = some x := by rfl) (hv : Vis X.env.scope x := by first | exact Or.inl rfl | exact Or.inr (Or.inl rfl) | exact Or.inr (Or.inr rfl)) (hd : (x == ("__debug__" : Str)) = false := by decide)
    (hcd : (x == ("__classdict__" : Str)) = false := by decide) : PE X (.Name x pos) (tVar i) := pe_var hN hv hd hcd
end
theorem iteF {A B : Prop} (h : B) : if false = true then A else B := by
  rw [if_neg Bool.false_ne_true]
  exact h
theorem iteT {A B : Prop} (h : A) : if true = true then A else B := by
  rw [if_pos rfl]
  exact h
def Same (H H' : Hp) : Prop := ∀ b o, H b = some o → H' b = some o
theorem Same.refl (H : Hp) : Same H H := fun _ _ h => h
theorem Same.trans {H H1 H2 : Hp} (a : Same H H1) (b : Same H1 H2) : Same H H2 := fun c o h => b c o (a c o h)
theorem Same.seq {K : PySem.W.Frag} {H H' : Hp} {a : Addr} {xs : List V} (e : Same H H') (h : SqL K H a xs) : SqL K H' a xs := by
  rcases h with (h | ⟨o, h⟩) | h
  · exact .inl (.inl (e _ _ h))
  · exact .inl (.inr ⟨o, e _ _ h⟩)
  · exact .inr h
end L2

set_option maxHeartbeats 4000000
namespace L2
open PySem PySem.Spec PyProof.Rows
section
variable {κ : Type} [DecidableEq κ]
end
section
variable {P : Program} {w : World} {H : Hp} {h : Heap} {a : Addr}
end
section
variable {X : Cx} {pins : List (Addr × Obj)} {σ : St} {H : Hp} {s : Shared} {a : Addr} {y v : V} {u r : Value} {o : Option V} {A : Around} {E : Value → Shared → Prop}
theorem Inv.big (I : Inv X pins σ H s) : sysModules < s.heap.objs.size := by
  have h : mainGlobals < s.heap.objs.size := (I.mod.glob.keeps I.bk).lt
  exact Nat.lt_trans (by decide) h
end
section
variable {X : Cx} {pins : List (Addr × Obj)} {σ : St} {H : Hp} {s : Shared} {a : Addr} {kvs : List (Key × V)} {k : Key} {u : Value} {A : Around} {E : Value → Shared → Prop}
end
section
variable {X : Cx} {o i e value : Expr} {pos pos' tpos : Pos} {td ty tv : TE}
end
theorem dk_empty {P : Program} {w : World} {H : Hp} (h : Heap) (hb : sysModules < h.objs.size) : ObjOk P w H (h.push { cls := .type "dict", data := .dict #[] }) h.objs.size (.dK []) :=
  ⟨Nat.zero_le _, beq_eq_false_iff_ne.mpr (Ne.symm (Nat.ne_of_lt hb)), [], .nil, Heap.DictOf.new h⟩
def tDNewK : TE := fun _ H Q => ∀ p, H p = none → Q (.ref p) (upd H p (.dK []))
section
variable {X : Cx} {pos : Pos}
theorem pe_dnewK : PE X (.Dict [] [] pos) tDNewK := fun pins s σ H Q I h =>
  wpAny_Dict_empty ⟨.ref s.heap.objs.size, _, I.laid (a := s.heap.objs.size) (o := .dK []) (t' := s.toks) (fun _ _ q => Heap.get?_push_of_some _ q) (Nat.le_refl _) (dk_empty s.heap I.big), rfl, h _ (I.hok.fresh (Nat.le_refl _))⟩
end
section
variable {X : Cx} {pins : List (Addr × Obj)} {σ : St} {H : Hp} {s : Shared} {a : Addr} {y d : V} {u r : Value} {o : Option V} {A : Around} {E : Value → Shared → Prop}
end
section
variable {X : Cx} {o e f : Expr} {apos cpos : Pos} {td ty tx : TE}
end
section
variable {X : Cx} {pins : List (Addr × Obj)} {σ : St} {H : Hp} {s : Shared} {a : Addr} {kvs : List (Key × V)} {A : Around} {E : Value → Shared → Prop}
end
section
variable {X : Cx} {pins : List (Addr × Obj)} {σ : St} {H : Hp} {s : Shared} {a : Addr} {y : V} {u : Value} {A : Around} {E : Value → Shared → Prop}
end
end L2
namespace L2
open PySem PySem.Spec PyProof.Rows
section
variable {X : Cx}
end
section
variable {κ : Type} [DecidableEq κ]
end
end L2

set_option maxHeartbeats 4000000
namespace L2
open PySem PySem.Spec PyProof.Rows
def cxComp (X : Cx) (scope : Scope) (cl : List (Str × Addr)) (C : Addr) (N : List Str) (fp : List Addr) (s₂ : Shared) (H₂ : Hp) : Cx where
  prog := X.prog
  w := X.w
  K := X.K
  mg := X.mg
  base := X.base
  A := X.A
  N := N
  s₀ := s₂
  H₀ := H₂
  env := compEnvC scope cl C X.env
  outer := X.stack
  stack := X.stack
  ex := fp
  fn := fun _ => false
  calm := X.calm
  pn := []
  xe := fun _ _ => False
theorem relabel_free {scope : Scope} {env : Env} {y : Str} (nc : ∀ z ∈ scope.names, z.2 ≠ .cell) (h : (relabel scope env).names.lookup y = some .cell ∨ (relabel scope env).names.lookup y = some .free) : scope.names.lookup y = some .free := by
  have key : ∀ (l : List (Str × NameKind)), (∀ z ∈ l, z.2 ≠ .cell) → ((l.map fun (n, k) => if (k == NameKind.free && env.scope.kind == .function && env.kindOf n == some .cell) then (n, NameKind.cell) else (n, k)).lookup y = some .cell ∨
      (l.map fun (n, k) => if (k == NameKind.free && env.scope.kind == .function && env.kindOf n == some .cell) then (n, NameKind.cell) else (n, k)).lookup y = some .free) → l.lookup y = some .free := by
    intro l
    induction l with
    | nil => intro _ h; rcases h with h | h <;> simp at h
    | cons p r ih =>
      obtain ⟨n, k⟩ := p
      intro hn h
      have hr := ih (fun z hz => hn z (List.mem_cons_of_mem _ hz))
      have hk : k ≠ .cell := hn (n, k) List.mem_cons_self
      by_cases hc : (k == NameKind.free && env.scope.kind == .function && env.kindOf n == some .cell) = true
      · have kf : k = .free := by
          rw [Bool.and_eq_true, Bool.and_eq_true] at hc
          exact eq_of_beq hc.1.1
        subst kf
        simp only [List.map_cons, if_pos hc] at h
        cases hx : y == n with
        | true => simp only [List.lookup_cons, hx]
        | false =>
          simp only [List.lookup_cons, hx] at h ⊢
          exact hr h
      · simp only [List.map_cons, if_neg hc] at h
        cases hx : y == n with
        | true =>
          simp only [List.lookup_cons, hx] at h ⊢
          rcases h with h | h
          · cases h; exact absurd rfl hk
          · exact h
        | false =>
          simp only [List.lookup_cons, hx] at h ⊢
          exact hr h
  exact key scope.names nc h
theorem free_relabel {scope : Scope} {env : Env} {y : Str} (h : scope.names.lookup y = some .free) : (relabel scope env).names.lookup y = some .cell ∨ (relabel scope env).names.lookup y = some .free := by
  have key : ∀ (l : List (Str × NameKind)), l.lookup y = some .free → ((l.map fun (n, k) => if (k == NameKind.free && env.scope.kind == .function && env.kindOf n == some .cell) then (n, NameKind.cell) else (n, k)).lookup y = some .cell ∨
      (l.map fun (n, k) => if (k == NameKind.free && env.scope.kind == .function && env.kindOf n == some .cell) then (n, NameKind.cell) else (n, k)).lookup y = some .free) := by
    intro l
    induction l with
    | nil => intro h; simp at h
    | cons p r ih =>
      obtain ⟨n, k⟩ := p
      intro h
      by_cases hc : (k == NameKind.free && env.scope.kind == .function && env.kindOf n == some .cell) = true
      · simp only [List.map_cons, if_pos hc]
        cases hx : y == n with
        | true => simp only [List.lookup_cons, hx]; exact .inl trivial
        | false =>
          simp only [List.lookup_cons, hx] at h ⊢
          exact ih h
      · simp only [List.map_cons, if_neg hc]
        cases hx : y == n with
        | true => simp only [List.lookup_cons, hx] at h ⊢; exact .inr h
        | false =>
          simp only [List.lookup_cons, hx] at h ⊢
          exact ih h
  exact key scope.names h
structure CompScope (X : Cx) (scope : Scope) (cl : List (Str × Addr)) (T : List Str) (caps : List Nat) (cn : List Str) : Prop where
  kind : scope.kind = .function
  clos : closureFor scope X.env = pure cl
  ncell : ∀ y ∈ scope.names, y.2 ≠ .cell
  names : ∀ y ∈ scope.names, y.2 = .local → scope.names.lookup y.1 = some .local
  sub : ∀ y c, cl.lookup y = some c → X.env.cells.lookup y = some c
  has : ∀ y, scope.names.lookup y = some .free → ∃ c, cl.lookup y = some c
  cap : Paired (fun (j : Nat) (y : Str) => X.N[j]? = some y ∧ (X.env.kindOf y = some .cell ∨ X.env.kindOf y = some .free) ∧ scope.names.lookup y = some .free) caps cn
def st0 (n : Nat) (caps : List Nat) (σ : St) : St := List.replicate n none ++ caps.map fun j => (σ[j]?).getD none
def Le (σ σ' : St) : Prop := σ.length = σ'.length ∧ ∀ (i : Nat) v, σ[i]? = some (some v) → σ'[i]? = some (some v)
theorem Le.one {r : St} {x : Option V} : Le (none :: r) (x :: r) := ⟨rfl, fun i v h => by
  cases i with
  | zero => simp at h
  | succ i => simpa using h⟩
def PTs (X : Cx) (ifs : List Expr) (t : TT) : Prop :=
  ∀ (pins : List (Addr × Obj)) (s : Shared) (σ : St) (H : Hp) (Q : Bool → Hp → Prop), Inv X pins σ H s → t σ H Q →
    wpAny (model X.prog X.w) X.A (forIn ifs true fun c r => if r = true then do let ok ← isTrue c X.env (eval c X.env); pure (ForInStep.yield ok) else pure (ForInStep.yield r)) (TP X pins σ Q) X.xe s
def tYes : TT := fun _ H Q => Q true H
theorem pts_nil {X : Cx} : PTs X [] tYes := fun pins s σ H Q I h => wpAny_tests_nil ⟨H, I, h⟩
theorem compLoop_all {prog : Program} {w : World} {A : Around} {R : Result → Shared → Prop} {s : Shared} {elt target iter : Expr} {ifs : List Expr} {scope : Scope} {pos : Pos} {it acc : Value} {env : Env} (I : Nat → Shared → Prop)
    (turn : ∀ n s, I n s → wpAny (model prog w) A (pyNext it) (fun r s₁ => match r with
      | none => R (.ok .next) s₁
      | some v => wpAny (model prog w) A (letOwnedTupleGo target it v) (fun _ s₀ => wpAny (model prog w) A (assign target env v) (fun _ s₂ =>
          wpAny (model prog w) A (forIn ifs true fun c r => if r = true then do let ok ← isTrue c env (eval c env); pure (ForInStep.yield ok) else pure (ForInStep.yield r)) (fun ok s₃ =>
            if ok = true then wpAny (model prog w) A (eval elt env) (fun x s₄ =>
              wpAny (model prog w) A (call (.builtin "list.append") [acc, x]) (fun _ s₅ => ∃ m, m < n ∧ I m s₅) (fun _ _ => False) s₄) (fun _ _ => False) s₃
            else ∃ m, m < n ∧ I m s₃) (fun _ _ => False) s₂) (fun _ _ => False) s₀) (fun _ _ => False) s₁) (fun _ _ => False) s)
    (n : Nat) (h : I n s) :
    codeAny (model prog w) A (.compLoop (.ListComp elt [⟨target, iter, ifs, 0⟩] scope pos) 0 it acc env) R s := by
  refine codeAny_loop rfl I (fun n s hI => ?_) n h
  show wpAny _ A ((compTurn (.ListComp elt [⟨target, iter, ifs, 0⟩] scope pos) 0 it acc env).onRaise (fun x => do noteFrame x env; theTreesLotGoes x)) _ _ s
  refine wpAny_noted ?_
  rw [compTurn_list]
  refine wpAny_bind (wpAny_standAt (wpAny_bind (wpAny_mono (turn n s hI) (fun r s₁ h₁ => ?_) fun _ _ h' => h'.elim)))
  cases r with
  | none => exact wpAny_pure h₁
  | some v =>
    refine wpAny_bind (wpAny_mono h₁ (fun _ s₀ h₀ => ?_) fun _ _ h' => h'.elim)
    refine wpAny_bind (wpAny_mono h₀ (fun _ s₂ h₂ => wpAny_bind (wpAny_mono h₂ (fun ok s₃ h₃ => ?_) fun _ _ h' => h'.elim)) fun _ _ h' => h'.elim)
    cases ok with
    | false => exact wpAny_pure ⟨rfl, h₃⟩
    | true =>
      exact wpAny_bind (wpAny_bind (wpAny_mono h₃ (fun x s₄ h₄ => wpAny_bind (wpAny_mono h₄ (fun _ s₅ h₅ => wpAny_pure (wpAny_pure ⟨rfl, h₅⟩)) fun _ _ h' => h'.elim)) fun _ _ h' => h'.elim))
section
variable {X : Cx} {scope : Scope} {cl : List (Str × Addr)} {T cn : List Str} {caps : List Nat} {pins : List (Addr × Obj)} {σ : St} {H2 : Hp} {s2 : Shared} {C : Addr} {h₁ : Heap} {tk : Nat} {fp : List Addr} {ix : Addr}
theorem comp_start (S : CompScope X scope cl T caps cn) (I2 : Inv X pins σ H2 s2) (f2 : ∀ b ∈ fp, FpOk X pins H2 b) (fo : ∀ b ∈ fp, b < s2.heap.objs.size)
    (hC : C = s2.heap.objs.size + 1) (old : ∀ b o, s2.heap.get? b = some o → h₁.get? b = some o) (hacc : ∃ n, h₁.get? s2.heap.objs.size = some { cls := .type "list", data := .seq #[] n }) (hns : h₁.Ns C fun _ => none) :
    Inv (cxComp X scope cl C (T ++ cn) fp s2 H2) [] (st0 T.length caps σ) (upd H2 s2.heap.objs.size (.lst [])) { s2 with heap := h₁, toks := tk } := by
  have hfr : H2 s2.heap.objs.size = none := I2.fresh
  have lt_of : ∀ y c, cl.lookup y = some c → c < s2.heap.objs.size := fun y c e => by
    obtain ⟨v, o, ho, _⟩ := I2.cell y c (S.sub y c e)
    exact Heap.lt_size ho
  refine ⟨⟨I2.ok.mod, S.kind, I2.ok.glob, I2.ok.blt, by show s2.heap.objs.size ≤ C; rw [hC]; exact Nat.le_succ _, fun y z c h1 h2 => I2.ok.inj y z c (S.sub y c h1) (S.sub z c h2), fun y hy => S.has y (relabel_free S.ncell hy), fun y c hf _ => (Bool.false_ne_true hf).elim,
    I2.ok.hd, I2.ok.frames, .inl rfl, fun b hb => ⟨?_, fun y c e => ?_⟩, I2.bs, Nat.le_trans I2.ok.bsz I2.sz, fun b o e hb => ?_, fun b hb hs => ?_, I2.stack, I2.stkFree⟩, rfl, I2.bare, Un.laid old (Nat.le_refl _) hfr, ⟨_, hns, fun i y v e1 e2 e3 => ?_⟩, fun y c e => ?_, ?_, fun y c e => ?_, fun p hp => ?_, I2.hok.laid old (Nat.le_refl _) ?_, ?_⟩
  · show b ≠ C
    rw [hC]
    exact Nat.ne_of_lt (Nat.lt_succ_of_lt (fo b hb))
  · exact (f2 b hb).2.2.2.2.1 y c (S.sub y c e)
  · have h0 := I2.ok.bs b o e
    rcases (f2 b hb).2.2.2.1 with z | z
    · exact I2.ok.noex b o e z
    · exact absurd (Nat.lt_of_lt_of_le (Heap.lt_size h0.1) z) (Nat.lt_irrefl _)
  · rcases List.mem_cons.mp (I2.stkSub b hs) with z | z
    · exact (f2 b hb).2.1 z
    · exact (f2 b hb).2.2.1 z
  · -- the slots
    have hT : T.length ≤ i := by
      by_cases hi : i < T.length
      · unfold st0 at e2
        rw [List.getElem?_append_left (by simpa using hi), List.getElem?_replicate] at e2
        split at e2 <;> cases e2
      · omega
    obtain ⟨k, rfl⟩ : ∃ k, i = T.length + k := ⟨i - T.length, by omega⟩
    have e1' : cn[k]? = some y := by
      have q : (T ++ cn)[T.length + k]? = some y := e1
      rw [List.getElem?_append_right (by omega)] at q
      simpa using q
    have e2' : (caps.map fun j => (σ[j]?).getD none)[k]? = some (some v) := by
      unfold st0 at e2
      rw [List.getElem?_append_right (by simp)] at e2
      simpa using e2
    have pr : ∀ {cs : List Nat} {ns : List Str} {k : Nat}, Paired (fun (j : Nat) (y : Str) => X.N[j]? = some y ∧ (X.env.kindOf y = some .cell ∨ X.env.kindOf y = some .free) ∧ scope.names.lookup y = some .free) cs ns →
        ns[k]? = some y → (cs.map fun j => (σ[j]?).getD none)[k]? = some (some v) → ∃ (j : Nat), X.N[j]? = some y ∧ (X.env.kindOf y = some .cell ∨ X.env.kindOf y = some .free) ∧ scope.names.lookup y = some .free ∧ σ[j]? = some (some v) := by
      intro cs ns k p
      induction p generalizing k with
      | nil => intro q; simp at q
      | cons a t ih =>
        rename_i j0 y0 l1 l2
        cases k with
        | zero =>
          intro q1 q2
          simp at q1 q2
          subst q1
          refine ⟨j0, a.1, a.2.1, a.2.2, ?_⟩
          cases e : σ[j0]? with
          | none => rw [e] at q2; simp at q2
          | some z => rw [e] at q2; simp at q2; rw [q2]
        | succ k => intro q1 q2; exact ih (by simpa using q1) (by simpa using q2)
    obtain ⟨j, n1, kd, fr, sv⟩ := pr S.cap e1' e2'
    obtain ⟨m, hn, hl⟩ := I2.loc
    obtain ⟨u, r, lk⟩ := hl j y v n1 sv (by rcases kd with z | z; exact .inr (.inl z); exact .inr (.inr z))
    refine ⟨u, r, .inr ⟨free_relabel fr, ?_⟩⟩
    obtain ⟨c, hc⟩ := S.has y fr
    rcases lk with ⟨z, _⟩ | ⟨_, c', hc', hcell⟩
    · rcases kd with q | q <;> (rw [z] at q; cases q)
    · have : c = c' := by
        have := S.sub y c hc
        rw [hc'] at this
        exact (Option.some.inj this).symm
      subst this
      obtain ⟨o, ho, hd⟩ := hcell
      exact ⟨c, hc, o, old c o ho, hd⟩
  · obtain ⟨v, o, ho, hd⟩ := I2.cell y c (S.sub y c e)
    exact ⟨v, o, old c o ho, hd⟩
  · show upd H2 s2.heap.objs.size (.lst []) C = none
    rw [upd_ne (by rw [hC]; exact Nat.succ_ne_self _)]
    exact I2.hok.fresh (by rw [hC]; exact Nat.le_succ _)
  · rw [upd_ne (Nat.ne_of_lt (lt_of y c e))]
    exact I2.freeC y c (S.sub y c e)
  · exact absurd (show p ∈ ([] : List (Addr × Obj)) from hp) (by simp)
  · obtain ⟨n, e⟩ := hacc
    exact ⟨Nat.zero_le _, [], n, .nil, e⟩
  · have hp : ∀ {cs : List Nat} {ns : List Str} {F : Nat → Str → Prop}, Paired F cs ns → cs.length = ns.length := fun p => Paired.length p
    show (st0 T.length caps σ).length = (T ++ cn).length
    unfold st0
    rw [List.length_append, List.length_replicate, List.length_map, List.length_append, hp S.cap]
theorem comp_end (I2 : Inv X pins σ H2 s2) (f2 : ∀ b ∈ fp, FpOk X pins H2 b) (hC : s2.heap.objs.size ≤ C) {N : List Str} {σ' : St} {H' : Hp} {s' : Shared} (J : Inv (cxComp X scope cl C N fp s2 H2) [] σ' H' s') :
    ∃ oC m, s'.heap.get? C = some oC ∧ s'.heap.Ns C m ∧ Inv X (pins ++ [(C, oC)]) σ H' s' ∧ FpOk X pins H' C := by
  obtain ⟨m, hn, _⟩ := J.loc
  obtain ⟨oC, es, ep, ho, hd, hrest⟩ := id hn
  have I3 : Inv X pins σ H' s' := I2.call' (ch := fp) J.os J.base J.hok J.bare fun b hb => ⟨(f2 b hb).2.2.2.1, (f2 b hb).2.1, (f2 b hb).2.2.2.2.1, (f2 b hb).2.2.2.2.2⟩
  have fC : FpOk X pins H' C := I2.fpOk hC J.free
  refine ⟨oC, m, ho, hn, I3.pins_of fun p hp => ?_, fC⟩
  rcases List.mem_append.mp hp with z | z
  · exact I3.pin p (List.mem_append_right _ z)
  · have e : p = (C, oC) := by simpa using z
    subst e
    exact ⟨ho, fC.1, fC.2.1, fC.2.2.1, fun v q => by rw [hd] at q; cases q⟩
end
def CompW (J : It) (D : Addr) (H1 : Hp) (σ0 : St) (g : TG) (tt : TT) (te : TE) (Q : VK) : Prop := ∃ W : Nat → Nat → List V → Hp → Prop, (∃ m, W 0 m [] (upd H1 D (.lst []))) ∧
  ∀ i m ys H, W i m ys H → H D = some (.lst ys) ∧ ((J.stop i H ∧ Q (.ref D) H) ∨ (J.go i H ∧ ∀ x H', J.yld i H x H' → g x σ0 H' fun σ2 H2 => Le σ0 σ2 ∧ tt σ2 H2 fun b H3 =>
    if b = true then te σ2 H3 fun y H4 => H4 D = some (.lst ys) ∧ ys.length < sizeLine ∧ ∃ m', m' < m ∧ W (i + 1) m' (ys ++ [y]) (upd H4 D (.lst (ys ++ [y]))) else ∃ m', m' < m ∧ W (i + 1) m' ys H3))
def rComp (n : Nat) (caps : List Nat) (wi : TI) (g : TG) (tt : TT) (te : TE) : TE := fun σ H Q => wi σ H fun J H1 => ∀ D, H1 D = none → CompW J D H1 (st0 n caps σ) g tt te Q
section
variable {X : Cx} {scope : Scope} {cl : List (Str × Addr)} {T cn : List Str} {caps : List Nat} {elt tg iter : Expr} {ifs : List Expr} {wi : TI} {g : TG} {tt : TT} {te : TE} {pos : Pos}
theorem comp_block (S : CompScope X scope cl T caps cn) (hc : X.calm = true) (hg : ∀ C fp s₂ H₂, PG (cxComp X scope cl C (T ++ cn) fp s₂ H₂) tg g) (ht : ∀ C fp s₂ H₂, PTs (cxComp X scope cl C (T ++ cn) fp s₂ H₂) ifs tt)
    (he : ∀ C fp s₂ H₂, PE (cxComp X scope cl C (T ++ cn) fp s₂ H₂) elt te) {pins : List (Addr × Obj)} {σ : St} {H2 : Hp} {s2 : Shared} {it : Addr} {fp : List Addr} {tn : Nat → Heap → Prop} {J : It} {E : Value → Shared → Prop} {Q : VK}
    {RR : Value → Addr → Result → Shared → Prop} (I2 : Inv X pins σ H2 s2) (Tn : Turn X.prog X.w X.K tg J fp it tn) (st2 : tn 0 s2.heap) (f2 : ∀ b ∈ fp, FpOk X pins H2 b)
    (q : ∀ D, H2 D = none → CompW J D H2 (st0 T.length caps σ) g tt te Q)
    (fin : ∀ D C oC m H' s', Inv X (pins ++ [(C, oC)]) σ H' s' → s'.heap.get? C = some oC → s'.heap.Ns C m → FpOk X pins H' C → Q (.ref D) H' → RR (.ref D) C (.ok .next) s') :
    wpAny (model X.prog X.w) X.A (newList []) (fun acc s₃ => wpAny (model X.prog X.w) X.A (newFunctionEnv scope X.env.globals cl [] X.env.qual none .none (some X.env)) (fun cenv s₄ =>
      codeAny (model X.prog X.w) X.A (.compStart (.ListComp elt [⟨tg, iter, ifs, 0⟩] scope pos) 0 (.ref it) acc { cenv with scope := relabel scope X.env }) (RR acc cenv.locals) s₄) E s₃) E s2 := by
  refine wpAny_newObj_type (wpAny_newFunctionEnv S.ncell (by intro y hy; simp at hy) (fun h₁ hns₁ hsb₁ => ?_) S.kind)
  dsimp only at hns₁ hsb₁ ⊢
  generalize hH2 : s2.heap.push { cls := .type "list", dict := none, data := .seq ([] : List Value).toArray } = G2 at hns₁ hsb₁ ⊢
  have hC : G2.objs.size = s2.heap.objs.size + 1 := by rw [← hH2, Heap.size_push]
  have hDC : s2.heap.objs.size ≠ G2.objs.size := by omega
  have old : ∀ b o, s2.heap.get? b = some o → h₁.get? b = some o := fun b o e => hsb₁.extBut b o (by rw [hC]; exact Nat.ne_of_lt (Nat.lt_succ_of_lt (Heap.lt_size e))) (Heap.get?_push_of_some _ (hH2 ▸ Heap.get?_push_of_some _ e))
  have hacc : ∃ n, h₁.get? s2.heap.objs.size = some { cls := .type "list", data := .seq #[] n } := ⟨_, hsb₁.extBut _ _ hDC (Heap.get?_push_of_some _ (hH2 ▸ Heap.get?_push_size _ rfl))⟩
  have fo : ∀ b ∈ fp, b < s2.heap.objs.size := fun b hb => by
    obtain ⟨o, e, _⟩ := Tn.obj 0 _ st2 b hb
    exact Heap.lt_size e
  obtain ⟨W, ⟨m0, w0⟩, turn⟩ := q s2.heap.objs.size I2.fresh
  have st1 : tn 0 h₁ := Tn.keep 0 _ _ st2 fun b hb o e => old b o e
  have fr0 : ∀ b ∈ fp, upd H2 s2.heap.objs.size (.lst []) b = none := fun b hb => by rw [upd_ne (Nat.ne_of_lt (fo b hb))]; exact (f2 b hb).1
  have loop : ∀ s₃ : Shared, s₃ = { s2 with heap := h₁, toks := s2.toks + ([] : List (Str × Value)).length } →
      codeAny (model X.prog X.w) X.A (.compLoop (.ListComp elt [⟨tg, iter, ifs, 0⟩] scope pos) 0 (.ref it) (.ref s2.heap.objs.size) (compEnvC scope cl G2.objs.size X.env)) (RR (.ref s2.heap.objs.size) G2.objs.size) s₃ := by
    intro s₃ hs3
    have I0 : Inv (cxComp X scope cl G2.objs.size (T ++ cn) fp s2 H2) [] (st0 T.length caps σ) (upd H2 s2.heap.objs.size (.lst [])) s₃ := by
      rw [hs3]
      exact comp_start S I2 f2 fo hC old hacc (by simpa using hns₁)
    have st3 : tn 0 s₃.heap := by rw [hs3]; exact st1
    have stat : ∀ {H' : Hp}, (∀ b ∈ fp, H' b = none) → ∀ b ∈ fp, FpOk (cxComp X scope cl G2.objs.size (T ++ cn) fp s2 H2) [] H' b := fun {H'} hn b hb => by
      refine ⟨hn b hb, ?_, fun hs => ?_, .inl hb, fun y c e => (f2 b hb).2.2.2.2.1 y c (S.sub y c e), fun p hp => absurd (show p ∈ ([] : List (Addr × Obj)) from hp) (by simp)⟩
      · show b ≠ G2.objs.size
        rw [hC]
        exact Nat.ne_of_lt (Nat.lt_succ_of_lt (fo b hb))
      · rcases List.mem_cons.mp (I2.stkSub b hs) with z | z
        · exact (f2 b hb).2.1 z
        · exact (f2 b hb).2.2.1 z
    refine compLoop_all (fun n s' => ∃ i ys H', Inv (cxComp X scope cl G2.objs.size (T ++ cn) fp s2 H2) [] (st0 T.length caps σ) H' s' ∧ tn i s'.heap ∧ (∀ b ∈ fp, H' b = none) ∧ W i n ys H') ?_ m0 ⟨0, [], _, I0, st3, fr0, w0⟩
    rintro n s4 ⟨i, ys, H4, I4, st4, fr4, w4⟩
    obtain ⟨hD, tr⟩ := turn i n ys H4 w4
    rcases tr with ⟨stop, qn⟩ | ⟨go, step⟩
    · refine thn (Tn.done (cxComp X scope cl G2.objs.size (T ++ cn) fp s2 H2) rfl rfl rfl hc i [] s4 (st0 T.length caps σ) H4 (fun _ _ => False) I4 (stat fr4) st4 stop) fun r s5 ⟨hr, I5⟩ => ?_
      subst hr
      obtain ⟨oC, m, a1, a2, a3, a4⟩ := comp_end I2 f2 (by omega) I5
      exact fin _ _ oC m H4 s5 a3 a1 a2 a4 qn
    · refine thn (Tn.item (cxComp X scope cl G2.objs.size (T ++ cn) fp s2 H2) rfl rfl rfl hc i [] s4 (st0 T.length caps σ) H4 (fun _ _ => False) I4 (stat fr4) st4 go) fun r s5 ⟨u, hr, h5⟩ => ?_
      subst hr
      refine thn h5 fun _ s6 ⟨x, H6, I6, r6, y6, st6, fr6⟩ => ?_
      have I6' := I6.pinned (stat fr6) (Tn.obj _ _ st6)
      refine thn (hg _ fp s2 H2 _ s6 _ H6 x u _ I6' r6 (step x H6 y6)) fun _ s7 ⟨σ7, H7, I7, le7, q7⟩ => ?_
      have again : ∀ {σ8 : St} {H8 : Hp} {s8 : Shared} {zs : List V} {m' : Nat}, Le (st0 T.length caps σ) σ8 → Inv (cxComp X scope cl G2.objs.size (T ++ cn) fp s2 H2) ([] ++ pinsAt fp s6.heap) σ8 H8 s8 → m' < n → W (i + 1) m' zs H8 →
          ∃ m, m < n ∧ ∃ i ys H', Inv (cxComp X scope cl G2.objs.size (T ++ cn) fp s2 H2) [] (st0 T.length caps σ) H' s8 ∧ tn i s8.heap ∧ (∀ b ∈ fp, H' b = none) ∧ W i m ys H' := fun {σ8 H8 s8 zs m'} le I8 hm w8 => by
        refine ⟨m', hm, i + 1, zs, H8, I8.unpinned.weak le.1 le.2, Tn.keep _ _ _ st6 fun b hb o e => (I8.pin (b, o) (List.mem_append_right _ (List.mem_append_right _ (mem_pinsAt hb e)))).1, fun b hb => ?_, w8⟩
        obtain ⟨o, e, d⟩ := Tn.obj _ _ st6 b hb
        exact (I8.pin (b, o) (List.mem_append_right _ (List.mem_append_right _ (mem_pinsAt hb e)))).2.1
      refine thn (ht _ fp s2 H2 _ s7 σ7 H7 _ I7 q7) fun ok s8 ⟨H8, I8, q8⟩ => ?_
      cases ok with
      | false =>
        rw [if_neg Bool.false_ne_true] at q8 ⊢
        obtain ⟨m', hm, w8⟩ := q8
        exact again le7 I8 hm w8
      | true =>
        rw [if_pos rfl] at q8 ⊢
        refine thn (he _ fp s2 H2 _ s8 σ7 H8 _ I8 q8) fun v9 s9 ⟨y, H9, I9, r9, hD9, hz9, m', hm, w9⟩ => ?_
        refine thn (mt_append _ s9 σ7 H9 (.ref s2.heap.objs.size) [y] (.ref s2.heap.objs.size) [v9] (fun _ H => H = upd H9 s2.heap.objs.size (.lst (ys ++ [y]))) I9 rfl (.cons r9 .nil) ⟨_, ys, y, rfl, rfl, hD9, hz9, rfl⟩) fun _ s10 ⟨_, H10, I10, _, e10⟩ => ?_
        subst e10
        exact again le7 I10 hm w9
  exact codeAny_compStart_list (loop _ rfl) (Tn.self X.A 0 _ _ _ st1 (loop _ rfl))
theorem pe_comp (S : CompScope X scope cl T caps cn) (hc : X.calm = true) (hi : PI X tg iter wi) (hg : ∀ C fp s₂ H₂, PG (cxComp X scope cl C (T ++ cn) fp s₂ H₂) tg g) (ht : ∀ C fp s₂ H₂, PTs (cxComp X scope cl C (T ++ cn) fp s₂ H₂) ifs tt)
    (he : ∀ C fp s₂ H₂, PE (cxComp X scope cl C (T ++ cn) fp s₂ H₂) elt te) (hs : ∀ x, foldedSetIterable iter X.env x = pure x := by intro _; rfl) :
    PE X (.ListComp elt [⟨tg, iter, ifs, 0⟩] scope pos) (rComp T.length caps wi g tt te) := by
  intro pins s σ H Q I h
  rw [eval_ListComp]
  refine wpAny_comprehension_free (use := none) rfl hs S.clos S.kind S.names (thn (hi pins s σ H _ I h) fun v s1 h1 => thn h1 fun itv s2 h2 => ?_)
  obtain ⟨it, fp, tn, J, H2, e, I2, Tn, st2, f2, q⟩ := h2
  subst e
  refine comp_block (RR := fun acc C => compPost (model X.prog X.w) X.A X.xe none (EP X pins σ Q) acc C) S hc hg ht he I2 Tn st2 f2 q fun D C oC m H' s' I' ho hn fC qD => ?_
  refine ⟨m, hn, fun h' hs' => ⟨.ref D, H', ?_, rfl, qD⟩⟩
  obtain ⟨hp, g, d, t, os⟩ := s'
  exact I'.unpinned.turned (fun b o hb e => (hs'.2 b hb).trans e) fC.1 fC.2.1 fC.2.2.2.1 fC.2.2.2.2.1 fC.2.2.2.2.2
def sComp (i : Nat) (t : TE) : TS := fun D σ H => t σ H fun x H1 => D.nx (σ.set i (some x)) H1
end
end L2

set_option maxHeartbeats 4000000
namespace L2
open PySem PySem.Spec PyProof.Rows
section
variable {X : Cx}
theorem op_is_bl : OpR X (compareOp .Is) (fun x y H Q => ∃ a b, x = .bl a ∧ y = .bl b ∧ Q (.bl (a == b)) H) := by
  intro pins s σ H x y v u Q I rx ry h
  obtain ⟨a, b, rfl, rfl, q⟩ := h
  cases rx
  cases ry
  exact is_bool (fin_bl I q rfl)
theorem op_isnot_bl : OpR X (compareOp .IsNot) (fun x y H Q => ∃ a b, x = .bl a ∧ y = .bl b ∧ Q (.bl (a != b)) H) := by
  intro pins s σ H x y v u Q I rx ry h
  obtain ⟨a, b, rfl, rfl, q⟩ := h
  cases rx
  cases ry
  exact isnot_bool (fin_bl I q rfl)
theorem op_mulB : OpR X (binaryOp .Mult) (rI IntMulOk fun i j => .int (i * j)) := opI fun _ _ _ _ _ _ _ hc q => mul_int q hc
end
mutual
inductive DatV (K : PySem.W.Frag) (H : Hp) : V → PyData → Prop
  | non : DatV K H .non .none
  | bl (b : Bool) : DatV K H (.bl b) (.bool b)
  | int (i : Int) : DatV K H (.int i) (.int i)
  | str (x : Str) : DatV K H (.str x) (.str x)
  | lst {a : Addr} {xs : List V} {ds : List PyData} : SqL K H a xs → DatVs K H xs ds → DatV K H (.ref a) (.list ds)
  | tup {a : Addr} {xs : List V} {ds : List PyData} : SqT K H a xs → DatVs K H xs ds → DatV K H (.ref a) (.tuple ds)
inductive DatVs (K : PySem.W.Frag) (H : Hp) : List V → List PyData → Prop
  | nil : DatVs K H [] []
  | cons {x : V} {d : PyData} {xs : List V} {ds : List PyData} : DatV K H x d → DatVs K H xs ds → DatVs K H (x :: xs) (d :: ds)
end
theorem IsTup.of_get {h : Heap} {a : Addr} {its : Array Value} (p : IsTup h a its) : ∃ o n, h.get? a = some o ∧ o.cls = .type "tuple" ∧ o.data = .seq its n := by
  obtain ⟨o, h1, h2, n, h3⟩ := p
  exact ⟨o, n, h1, h2, h3⟩
mutual
theorem DatV.reads {X : Cx} {pins : List (Addr × Obj)} {σ : St} {H : Hp} {s : Shared} (I : Inv X pins σ H s) : ∀ {v : V} {d : PyData} {u : Value}, DatV X.K H v d → RelV v u → ∃ as, Reads s.heap u d as
  | _, _, u, .non, r => by cases (show u = Value.none from r); exact ⟨_, .none⟩
  | _, _, u, .bl b, r => by cases (show u = Value.bool b from r); exact ⟨_, .bool b⟩
  | _, _, u, .int i, r => by obtain ⟨t, q⟩ := (show ∃ t, u = Value.int i t from r); cases q; exact ⟨_, .int i t⟩
  | _, _, u, .str x, r => by obtain ⟨t, q⟩ := (show ∃ t, u = Value.str x t from r); cases q; exact ⟨_, .str x t⟩
  | _, _, u, @DatV.lst _ _ a xs ds h1 h2, r => by
    cases (show u = Value.ref a from r)
    obtain ⟨its, rv, pl, _⟩ := I.list h1
    obtain ⟨as, q⟩ := DatVs.reads I h2 rv
    obtain ⟨o, n, e1, e2, _, e3⟩ := pl
    exact ⟨_, reads_list_at e1 e2 e3 (by simpa using q)⟩
  | _, _, u, @DatV.tup _ _ a xs ds h1 h2, r => by
    cases (show u = Value.ref a from r)
    obtain ⟨its, rv, pl, _⟩ := I.tuple h1
    obtain ⟨as, q⟩ := DatVs.reads I h2 rv
    obtain ⟨o, n, e1, e2, e3⟩ := IsTup.of_get pl
    exact ⟨_, reads_tuple_at e1 e2 e3 (by simpa using q)⟩
theorem DatVs.reads {X : Cx} {pins : List (Addr × Obj)} {σ : St} {H : Hp} {s : Shared} (I : Inv X pins σ H s) : ∀ {vs : List V} {ds : List PyData} {us : List Value}, DatVs X.K H vs ds → Vals vs us → ∃ as, ReadsAll s.heap us ds as
  | _, _, us, .nil, r => by cases r; exact ⟨_, .nil⟩
  | _, _, us, .cons h1 h2, r => by
    cases r with
    | cons r1 r2 =>
      obtain ⟨as, q⟩ := DatV.reads I h1 r1
      obtain ⟨bs, p⟩ := DatVs.reads I h2 r2
      exact ⟨_, .cons q p⟩
end
def rEqD (K : PySem.W.Frag) (neg : Bool) : R2 := fun x y H Q => ∃ d e, DatV K H x d ∧ DatV K H y e ∧ SeqAt.shaped d = true ∧ SeqAt.shaped e = true ∧ Q (.bl (if neg then !PyData.eqv d e else PyData.eqv d e)) H
section
variable {X : Cx}
theorem op_eqD (hu : X.A.units + 64 < cLine) : OpR X (compareOp .Eq) (rEqD X.K false) := by
  intro pins s σ H x y v u Q I rx ry h
  obtain ⟨d, e, hx, hy, sx, sy, q⟩ := h
  obtain ⟨as, p1⟩ := hx.reads I rx
  obtain ⟨bs, p2⟩ := hy.reads I ry
  exact eq_dataH p1 p2 sx sy hu ⟨.bl _, H, I, rfl, q⟩
theorem op_neD (hu : X.A.units + 64 < cLine) : OpR X (compareOp .NotEq) (rEqD X.K true) := by
  intro pins s σ H x y v u Q I rx ry h
  obtain ⟨d, e, hx, hy, sx, sy, q⟩ := h
  obtain ⟨as, p1⟩ := hx.reads I rx
  obtain ⟨bs, p2⟩ := hy.reads I ry
  exact ne_dataH p1 p2 sx sy hu ⟨.bl _, H, I, rfl, q⟩
theorem bools_get {bs : List Bool} : ∀ {us : List Value}, Vals (bs.map V.bl) us → ∀ (i : Nat) (v : Value), us[i]? = some v → ∃ b, bs[i]? = some b ∧ v = .bool b := by
  intro us r i v e
  have hl := r.length
  rw [List.length_map] at hl
  have hi : i < us.length := (List.getElem?_eq_some_iff.mp e).1
  have hb : bs[i]? = some bs[i] := List.getElem?_eq_getElem (by omega)
  obtain ⟨u, h1, h2⟩ := r.get (i := i) (x := V.bl bs[i]) (by rw [List.getElem?_map, hb]; rfl)
  rw [e] at h1
  cases h1
  exact ⟨_, hb, h2⟩
theorem range_allB (bs : List Bool) : ((List.range bs.length).all fun i => (bs[i]?).getD true) = bs.all id := PyProof.Rows.LSm.range_all bs
theorem call_all : CallR X (.builtin "all") (fun xs H Q => ∃ (p : Addr) (bs : List Bool), xs = [.ref p] ∧ X.A.handled = none ∧ SqL X.K H p (bs.map V.bl) ∧ Q (.bl (bs.all id)) H) := by
  intro pins s σ H xs us Q I r h
  obtain ⟨p, bs, rfl, hh, hS, q⟩ := h
  obtain ⟨u, rfl, ru⟩ := vals1 r
  cases (show u = Value.ref p from ru)
  obtain ⟨its, rv, pl, _⟩ := I.list hS
  have hl := pl.isList
  have hlt : p < s.heap.objs.size := pl.lt
  have hb := bools_get rv
  have hlen : its.length = bs.length := by have := rv.length; rw [List.length_map] at this; exact this.symm
  refine call_all_walk (wpAny_pyIter_list hl ?_)
  refine ⟨s.heap.objs.size, [s.heap.objs.size, p], [s.heap.objs.size], its.toArray.size, _, _, fun i => (bs[i]?).getD true, rfl, Walks.list (A := X.A.in1) hh _ p (Nat.ne_of_lt hlt) its.toArray,
    ⟨⟨_, Heap.get?_push_size _ rfl, rfl, rfl⟩, hl.push _⟩, fun i v s' Q' E' hP hQ => ?_, fun h' tk hk => ?_⟩
  · obtain ⟨b, e, rfl⟩ := hb i v (by simpa using hP)
    simp only [e, Option.getD_some] at hQ
    exact wpAny_truthy_bool hQ
  · have e : ((List.range its.toArray.size).all fun i => (bs[i]?).getD true) = bs.all id := by
      rw [List.size_toArray, hlen]; exact range_allB bs
    rw [e]
    exact ⟨.bl (bs.all id), H, I.kept (PyProof.Rows.LSm.kept_iter hk), rfl, q⟩
end
end L2
namespace L2
open PySem PySem.Spec PyProof.Rows
section
variable {X : Cx} {a b c : Expr} {ta tb : TE} {pos : Pos} {k : Int} {op op' : CmpOp} {p p' : Int → Int → Bool}
end
theorem same_upd {H : Hp} {p : Addr} {o : HO} (h : H p = none) : Same H (upd H p o) := fun b u e => by
  rw [upd_ne (ne_of_none e h)]
  exact e
theorem PE.imp {X : Cx} {e : Expr} {t t' : TE} (h : PE X e t) (f : ∀ σ H Q, t' σ H Q → t σ H Q) : PE X e t' := fun pins s σ H Q I q => h pins s σ H Q I (f σ H Q q)
end L2

set_option maxHeartbeats 4000000
namespace L2
open PySem PySem.Spec PyProof.Rows
def Its (x : Str) : It := ⟨fun i _ => i < x.cps.size, fun i H v H' => H' = H ∧ ∃ c, x.cps[i]? = some c ∧ v = .str ⟨#[c]⟩, fun i _ => x.cps.size ≤ i⟩
theorem turn_strA {P : Program} {w : World} {K : PySem.W.Frag} {tg : Expr} (x : Str) (t : Tok) (it : Addr) : Turn P w K tg (Its x) [it] it (fun i h => h.IsStrIter it "str_ascii_iterator" x t i) where
  mem := by simp
  obj := fun i h st b hb => by
    have e : b = it := by simpa using hb
    subst e
    obtain ⟨o, e, c, d⟩ := st
    exact ⟨o, e, fun v z => by rw [d] at z; cases z⟩
  keep := fun i h h' st k => by
    obtain ⟨o, e, r⟩ := st
    exact ⟨o, k it (by simp) o e, r⟩
  item := by
    intro X hP hw hK hc i pins s σ H E I hf st hg
    subst hP hw hK
    obtain ⟨f0, f1, f2, f3, f4, f5⟩ := hf it (by simp)
    have hi : i < x.cps.size := hg
    refine wpAny_pyNext_ascii_item st (c := x.cps[i]) (by simp [hi]) fun h' st' sb => ?_
    have I1 : Inv X pins σ H { s with heap := h', toks := s.toks + 1 } := I.turned (fun b o hb e => (sb.2 b hb).trans e) f0 f1 f3 f4 f5
    obtain ⟨o, e, c, d⟩ := id st'
    exact ⟨_, rfl, go_of (s := { s with heap := h', toks := s.toks + 1 }) e c d (by decide) ⟨.str ⟨#[x.cps[i]]⟩, H, I1, ⟨_, rfl⟩, ⟨rfl, _, by simp [hi], rfl⟩, st', fun b hb => (hf b hb).1⟩⟩
  done := by
    intro X hP hw hK hc i pins s σ H E I hf st hg
    subst hP hw hK
    obtain ⟨f0, f1, f2, f3, f4, f5⟩ := hf it (by simp)
    have hi : x.cps.size ≤ i := hg
    exact wpAny_pyNext_ascii_end (I.ok.hd hc) st (by simp [hi]) fun h' eb => ⟨rfl, I.turned (t' := s.toks) (fun b o hb e => eb b o hb e) f0 f1 f3 f4 f5⟩
  self := fun _ _ _ _ _ st h => wpAny_pyIter_striter_ascii st h
theorem turn_strW {P : Program} {w : World} {K : PySem.W.Frag} {tg : Expr} (x : Str) (t : Tok) (it : Addr) : Turn P w K tg (Its x) [it] it (fun i h => h.IsStrIter it "str_iterator" x t i) where
  mem := by simp
  obj := fun i h st b hb => by
    have e : b = it := by simpa using hb
    subst e
    obtain ⟨o, e, c, d⟩ := st
    exact ⟨o, e, fun v z => by rw [d] at z; cases z⟩
  keep := fun i h h' st k => by
    obtain ⟨o, e, r⟩ := st
    exact ⟨o, k it (by simp) o e, r⟩
  item := by
    intro X hP hw hK hc i pins s σ H E I hf st hg
    subst hP hw hK
    obtain ⟨f0, f1, f2, f3, f4, f5⟩ := hf it (by simp)
    have hi : i < x.cps.size := hg
    refine wpAny_pyNext_wide_item st (c := x.cps[i]) (by simp [hi]) fun h' st' sb => ?_
    have I1 : Inv X pins σ H { s with heap := h', toks := s.toks + 1 } := I.turned (fun b o hb e => (sb.2 b hb).trans e) f0 f1 f3 f4 f5
    obtain ⟨o, e, c, d⟩ := id st'
    exact ⟨_, rfl, go_of (s := { s with heap := h', toks := s.toks + 1 }) e c d (by decide) ⟨.str ⟨#[x.cps[i]]⟩, H, I1, ⟨_, rfl⟩, ⟨rfl, _, by simp [hi], rfl⟩, st', fun b hb => (hf b hb).1⟩⟩
  done := by
    intro X hP hw hK hc i pins s σ H E I hf st hg
    subst hP hw hK
    obtain ⟨f0, f1, f2, f3, f4, f5⟩ := hf it (by simp)
    have hi : x.cps.size ≤ i := hg
    exact wpAny_pyNext_wide_end (I.ok.hd hc) st (by simp [hi]) fun h' eb => ⟨rfl, I.turned (t' := s.toks) (fun b o hb e => eb b o hb e) f0 f1 f3 f4 f5⟩
  self := fun _ _ _ _ _ st h => wpAny_pyIter_striter_wide st h
section
variable {X : Cx} {tg : Expr}
end
theorem vals_strs : ∀ l : List (Str × Tok), Vals ((l.map (·.1)).map V.str) (strValues l)
  | [] => .nil
  | (x, t) :: r => .cons ⟨t, rfl⟩ (vals_strs r)
theorem vals_from (tk : Nat) (ws : List Str) : Vals (ws.map V.str) (strsFrom tk ws) := by
  have h := vals_strs (numbered tk ws)
  rw [numbered_texts, ← strsFrom_eq] at h
  exact h
section
variable {X : Cx}
open Builtin Builtin.Str in
theorem mt_split : MtM X "str.split" (fun x vs H Q => ∃ z y, x = .str z ∧ vs = [.str y] ∧ (y.length == 0) = false ∧ z.length + 2 ≤ sizeLine ∧ ∀ p, H p = none → Q (.ref p) (upd H p (.lst ((Txt.split z y).map V.str)))) := by
  intro pins s σ H x vs v us Q I rx rv h
  obtain ⟨z, y, rfl, rfl, hy, hz, q⟩ := h
  obtain ⟨t, rfl⟩ := rx
  obtain ⟨w', rfl, u, rfl⟩ := rv.one
  have hle : (Txt.split z y).length ≤ sizeLine := Nat.le_trans (split_le z y) hz
  have hz0 : z.length ≤ sizeLine := by omega
  have q := q s.heap.objs.size I.fresh
  cases h1 : (decide (z.length < y.length) || decide (strKind z < strKind y)) with
  | true =>
    have e : Txt.split z y = [z] := if_pos h1
    rw [e] at q
    refine call_meets F.slot_str_split (typeIs_str _ _ _) F.entry_str_split (F.args_str_split_2 _ _) (meets_str_split_cannot_occur z y t u h1) ?_
    exact ⟨.ref s.heap.objs.size, _, I.laid (t' := s.toks) (o := .lst [.str z]) (fun b ob q => Heap.get?_push_of_some _ q) (Nat.le_refl _) ⟨by show 1 ≤ sizeLine; decide, _, 0, .cons ⟨t, rfl⟩ .nil, Heap.get?_push_size _ rfl⟩, rfl, q⟩
  | false =>
    cases hf : (occurrences z y 0 z.length (z.length + 1)).isEmpty with
    | true =>
      have e : Txt.split z y = [z] := (if_neg (ne_true_of_eq_false h1)).trans (if_pos hf)
      rw [e] at q
      refine call_meets F.slot_str_split (typeIs_str _ _ _) F.entry_str_split (F.args_str_split_2 _ _) (meets_str_split_not_found z y t u h1 hy hf) ?_
      exact ⟨.ref s.heap.objs.size, _, I.laid (t' := s.toks) (o := .lst [.str z]) (fun b ob q => Heap.get?_push_of_some _ q) (Nat.le_refl _) ⟨by show 1 ≤ sizeLine; decide, _, 0, .cons ⟨t, rfl⟩ .nil, Heap.get?_push_size _ rfl⟩, rfl, q⟩
    | false =>
      have e : Txt.split z y = partsBetween z (occurrences z y 0 z.length (z.length + 1)) y.length := (if_neg (ne_true_of_eq_false h1)).trans (if_neg (ne_true_of_eq_false hf))
      rw [e] at q hle
      refine call_meets F.slot_str_split (typeIs_str _ _ _) F.entry_str_split (F.args_str_split_2 _ _) (meets_str_split_sep z y t u h1 hy hf hz0 hle) ?_
      exact ⟨.ref s.heap.objs.size, _, I.laid (o := .lst ((partsBetween z (occurrences z y 0 z.length (z.length + 1)) y.length).map V.str)) (fun b ob q => Heap.get?_push_of_some _ q) (Nat.le_refl _)
        ⟨by rw [List.length_map]; exact hle, _, 0, vals_from _ _, Heap.get?_push_size _ rfl⟩, rfl, q⟩
theorem isPart_opt {v : Value} {o : Option Int} (p : IsPart v o) : ∃ l : Option (Int × Tok), v = partValue l ∧ o = l.map (·.1) := by
  cases p with
  | none => exact ⟨none, rfl, rfl⟩
  | int i t => exact ⟨some (i, t), rfl, rfl⟩
theorem sl_str : SlR X (fun x lo hi H Q => ∃ z, x = .str z ∧ z.length ≤ sizeLine ∧ Q (.str (Txt.slice z lo hi)) H) := by
  intro pins s σ H x v vl vu lo hi sl Q I rx hs pl pu h
  obtain ⟨z, rfl, hz, q⟩ := h
  obtain ⟨t, rfl⟩ := rx
  obtain ⟨l, rfl, rfl⟩ := isPart_opt pl
  obtain ⟨u, rfl, rfl⟩ := isPart_opt pu
  refine ⟨"str", _, F.slot_str_getitem.lookup, typeIs_str _ _ _, wpAny_getItem_str_slice (l := l) (u := u) (st := none) hs rfl ?_⟩
  exact post_val_or_str ⟨Nat.le_trans (Txt.slice_le z _ _) hz, fun t' k => ⟨.str (Txt.slice z _ _), H, I.tok _, ⟨t', rfl⟩, q⟩⟩
end
theorem mem_of_lookup {β : Type} {y : Str} {v : β} : ∀ {l : List (Str × β)}, l.lookup y = some v → (y, v) ∈ l
  | [], h => by simp at h
  | (x, u) :: r, h => by
    rw [List.lookup_cons] at h
    cases e : y == x with
    | true =>
      rw [e] at h
      have h1 := Option.some.inj h
      have h2 := eq_of_beq e
      subst h1 h2
      exact List.mem_cons_self
    | false =>
      rw [e] at h
      exact List.mem_cons_of_mem _ (mem_of_lookup h)
theorem comp0 {X : Cx} {scope : Scope} {T : List Str} (hk : scope.kind = .function) (hc : closureFor scope X.env = pure []) (h1 : ∀ y ∈ scope.names, y.2 ≠ .cell) (h2 : ∀ y ∈ scope.names, y.2 ≠ .free)
    (h3 : ∀ y ∈ scope.names, y.2 = .local → scope.names.lookup y.1 = some .local) : CompScope X scope [] T [] [] :=
  ⟨hk, hc, h1, h3, fun y c h => by simp at h, fun y h => absurd rfl (h2 _ (mem_of_lookup h)), .nil⟩
end L2

set_option maxHeartbeats 4000000
namespace L2
open PySem PySem.Spec PyProof.Rows
def del (H : Hp) (a : Addr) : Hp := fun b => if b = a then none else H b
theorem del_same {H : Hp} {a : Addr} : del H a a = none := if_pos rfl
theorem del_ne {H : Hp} {a b : Addr} (h : b ≠ a) : del H a b = H b := if_neg h
section
variable {X : Cx} {pins : List (Addr × Obj)} {σ : St} {H : Hp} {s : Shared} {a : Addr} {ys : List V}
theorem ObjOk.hide {P : Program} {w : World} {h : Heap} {b : Addr} : ∀ {o : HO}, ObjOk P w H h b o → H a = some (.lst ys) → ObjOk P w (del H a) h b o
  | .lst _, x, _ => x
  | .tup _, x, _ => x
  | .dK _, x, _ => x
  | .dT kvs, x, e => by
    obtain ⟨h1, h2, xs, hp, r⟩ := x
    refine ⟨h1, h2, xs, Paired.imp' (fun p q ⟨z1, z2, z3⟩ => ⟨z1, ?_, z3⟩) hp, r⟩
    rw [del_ne (fun z => by rw [z, e] at z2; cases z2)]
    exact z2
  | .set _ _, x, _ => x
  | .ins C dx fs, x, e => by
    obtain ⟨h1, r⟩ := x
    refine ⟨?_, r⟩
    rw [del_ne (fun z => by rw [z, e] at h1; cases h1)]
    exact h1
  | .own _, x, _ => x
  | .xd _, x, _ => x
  | .met _ _, x, _ => x
  | .rng _ _, x, _ => x
  | .frz o u, x, e => ⟨x.1, ObjOk.hide x.2 e⟩
  | .tbl _, x, _ => x
  | .ext _, x, _ => x
theorem ObjOk.more {P : Program} {w : World} {h : Heap} {b : Addr} {u : HO} (n : H a = none) : ∀ {o : HO}, ObjOk P w H h b o → ObjOk P w (upd H a u) h b o
  | .lst _, x => x
  | .tup _, x => x
  | .dK _, x => x
  | .dT kvs, x => by
    obtain ⟨h1, h2, xs, hp, r⟩ := x
    refine ⟨h1, h2, xs, Paired.imp' (fun p q ⟨z1, z2, z3⟩ => ⟨z1, ?_, z3⟩) hp, r⟩
    rw [upd_ne (ne_of_none z2 n)]
    exact z2
  | .set _ _, x => x
  | .ins C dx fs, x => by
    obtain ⟨h1, r⟩ := x
    refine ⟨?_, r⟩
    rw [upd_ne (ne_of_none h1 n)]
    exact h1
  | .own _, x => x
  | .xd _, x => x
  | .met _ _, x => x
  | .rng _ _, x => x
  | .frz o u, x => ⟨x.1, ObjOk.more n x.2⟩
  | .tbl _, x => x
  | .ext _, x => x
theorem Inv.hide (I : Inv X pins σ H s) (e : H a = some (.lst ys)) (hfs : a ∉ X.fs) : ∃ ob, (∃ (its : List Value) (n : Nat), Vals ys its ∧ ob = { cls := .type "list", data := .seq its.toArray n }) ∧ s.heap.get? a = some ob ∧ Inv X (pins ++ [(a, ob)]) σ (del H a) s := by
  obtain ⟨hz, its, n, hv, ho⟩ := (show ObjOk X.prog X.w H s.heap a (.lst ys) from I.hok a _ e)
  refine ⟨_, ⟨its, n, hv, rfl⟩, ho, ⟨I.ok, I.os, I.bare, ⟨I.base.keep, I.base.slot, fun b o q n hx => ?_, I.base.there, fun b xs q => ?_, fun b o u q => ?_, fun b ps q => ?_⟩, I.loc, I.cell, ?_, fun x c q => ?_, fun p hp => ?_, fun b o q => ?_, I.len⟩⟩
  · have z := I.base.free b o q n hx
    unfold del
    split
    · rfl
    · exact z
  · have z := I.base.tups b xs q
    rw [del_ne (fun w => by rw [w, e] at z; cases z)]
    exact z
  · have z := I.base.frzs b o u q
    rw [del_ne (fun w => by rw [w, e] at z; cases z)]
    exact z
  · obtain ⟨more, z⟩ := I.base.tbls b ps q
    exact ⟨more, by rw [del_ne (fun w => by rw [w, e] at z; cases z)]; exact z⟩
  · unfold del
    split
    · rfl
    · exact I.free
  · unfold del
    split
    · rfl
    · exact I.freeC x c q
  · rw [← List.append_assoc] at hp
    rcases List.mem_append.mp hp with z | z
    · obtain ⟨p1, p2, p3, p4, p5⟩ := I.pin p z
      refine ⟨p1, ?_, p3, p4, p5⟩
      unfold del
      split
      · rfl
      · exact p2
    · rw [List.mem_singleton.mp z]
      refine ⟨ho, del_same, fun w => ?_, hfs, fun v q => by cases q⟩
      have f := I.free
      rw [← w, e] at f
      cases f
  · by_cases hb : b = a
    · rw [hb, del_same] at q
      cases q
    · rw [del_ne hb] at q
      exact (I.hok b o q).hide e
theorem Inv.unhide {ob : Obj} {its : List Value} {n : Nat} (I : Inv X (pins ++ [(a, ob)]) σ H s) (hv : Vals ys its) (ho : ob = { cls := .type "list", data := .seq its.toArray n }) (hz : ys.length ≤ sizeLine)
    (hne : ∀ b o, X.s₀.heap.get? b = some o → X.H₀ b = none → b ∉ X.ex → b ≠ a) (hp0 : ∀ p ∈ X.pn ++ pins, p.1 ≠ a) (hc : ∀ x c, X.env.cells.lookup x = some c → c ≠ a) : H a = none ∧ Inv X pins σ (upd H a (.lst ys)) s := by
  obtain ⟨g1, g2, g3, g4, g5⟩ := I.pin (a, ob) (List.mem_append_right _ (List.mem_append_right _ (List.mem_singleton.mpr rfl)))
  have g2' : H a = none := g2
  refine ⟨g2', ⟨I.ok, I.os, I.bare, ⟨I.base.keep, I.base.slot, fun b o q n hx => ?_, I.base.there, fun b xs q => ?_, fun b o u q => ?_, fun b ps q => ?_⟩, I.loc, I.cell, ?_, fun x c q => ?_, fun p hp => ?_, fun b o q => ?_, I.len⟩⟩
  · rw [upd_ne (hne b o q n hx)]
    exact I.base.free b o q n hx
  · have z := I.base.tups b xs q
    rw [upd_ne (ne_of_none z g2')]
    exact z
  · have z := I.base.frzs b o u q
    rw [upd_ne (ne_of_none z g2')]
    exact z
  · obtain ⟨more, z⟩ := I.base.tbls b ps q
    exact ⟨more, by rw [upd_ne (ne_of_none z g2')]; exact z⟩
  · rw [upd_ne (Ne.symm g3)]
    exact I.free
  · rw [upd_ne (hc x c q)]
    exact I.freeC x c q
  · obtain ⟨p1, p2, p3, p4, p5⟩ := I.pin p (by rw [← List.append_assoc]; exact List.mem_append_left _ hp)
    refine ⟨p1, ?_, p3, p4, p5⟩
    rw [upd_ne (hp0 p hp)]
    exact p2
  · by_cases hb : b = a
    · rw [hb, upd_same] at q
      cases q
      subst ho
      exact ⟨hz, its, n, hv, hb ▸ g1⟩
    · rw [upd_ne hb] at q
      exact (I.hok b o q).more g2'
theorem Inv.hidden (I : Inv X pins σ H s) (e : H a = some (.lst ys)) : a ∉ X.fs ∧ (∀ b o, X.s₀.heap.get? b = some o → X.H₀ b = none → b ∉ X.ex → b ≠ a) ∧ (∀ p ∈ X.pn ++ pins, p.1 ≠ a) ∧ ∀ x c, X.env.cells.lookup x = some c → c ≠ a := by
  refine ⟨fun hb => ?_, fun b o q n hx z => ?_, fun p hp z => ?_, fun x c q z => ?_⟩
  · have h1 := I.ok.frf a hb
    obtain ⟨_, o, ho, _⟩ := I.ok.funs.mem hb
    have hx : a ∉ X.ex := fun hx => I.ok.exfs a hx hb
    have := I.base.free a o ho h1 hx
    rw [e] at this
    cases this
  · have := I.base.free b o q n hx
    rw [z, e] at this
    cases this
  · have := (I.pin p hp).2.1
    rw [z, e] at this
    cases this
  · have := I.freeC x c q
    rw [z, e] at this
    cases this
end
section
variable {X : Cx} {e : Expr} {te : TE} {tt : TT}
def tFrame (te : TE) : TE := fun σ H Q => ∃ D ys, H D = some (.lst ys) ∧ te σ (del H D) fun y H4 => H4 D = none → Q y (upd H4 D (.lst ys))
theorem pe_frame (he : PE X e te) : PE X e (tFrame te) := by
  intro pins s σ H Q I h
  obtain ⟨D, ys, hD, q⟩ := h
  obtain ⟨k1, k2, k3, k4⟩ := I.hidden hD
  have hz : ys.length ≤ sizeLine := (show ObjOk X.prog X.w H s.heap D (.lst ys) from I.hok D _ hD).1
  obtain ⟨ob, ⟨its, n, hv, hob⟩, _, I'⟩ := I.hide hD k1
  refine thn (he (pins ++ [(D, ob)]) s σ (del H D) _ I' q) fun v s1 ⟨y, H4, I4, r, k⟩ => ?_
  obtain ⟨h0, I5⟩ := I4.unhide hv hob hz k2 k3 k4
  exact ⟨y, _, I5, r, k h0⟩
def uFrame (tt : TT) : TT := fun σ H Q => ∃ D ys, H D = some (.lst ys) ∧ tt σ (del H D) fun b H4 => H4 D = none → Q b (upd H4 D (.lst ys))
theorem pts_frame {ifs : List Expr} (he : PTs X ifs tt) : PTs X ifs (uFrame tt) := by
  intro pins s σ H Q I h
  obtain ⟨D, ys, hD, q⟩ := h
  obtain ⟨k1, k2, k3, k4⟩ := I.hidden hD
  have hz : ys.length ≤ sizeLine := (show ObjOk X.prog X.w H s.heap D (.lst ys) from I.hok D _ hD).1
  obtain ⟨ob, ⟨its, n, hv, hob⟩, _, I'⟩ := I.hide hD k1
  refine thn (he (pins ++ [(D, ob)]) s σ (del H D) _ I' q) fun v s1 ⟨H4, I4, k⟩ => ?_
  obtain ⟨h0, I5⟩ := I4.unhide hv hob hz k2 k3 k4
  exact ⟨_, I5, k h0⟩
end
theorem del_upd {H : Hp} {a : Addr} {o : HO} (h : H a = none) : del (upd H a o) a = H := by
  funext b
  unfold del upd
  by_cases hb : b = a
  · rw [if_pos hb, hb, h]
  · rw [if_neg hb, if_neg hb]
end L2

set_option maxHeartbeats 4000000
namespace L2
open PySem PySem.Spec PyProof.Rows
def hid (H : Hp) (a dx : Addr) : Hp := fun b => if b = a ∨ b = dx then none else H b
def shown (H : Hp) (a dx C : Addr) (fs : List (Str × V)) : Hp := upd (upd H dx (.own a)) a (.ins C dx fs)
theorem hid_l {H : Hp} {a dx : Addr} : hid H a dx a = none := if_pos (.inl rfl)
theorem hid_r {H : Hp} {a dx : Addr} : hid H a dx dx = none := if_pos (.inr rfl)
theorem hid_ne {H : Hp} {a dx b : Addr} (h : b ≠ a) (h' : b ≠ dx) : hid H a dx b = H b := if_neg (fun z => z.elim h h')
theorem hid_none {H : Hp} {a dx b : Addr} (h : H b = none) : hid H a dx b = none := by unfold hid; split <;> first | rfl | exact h
section
variable {X : Cx} {pins : List (Addr × Obj)} {σ : St} {H : Hp} {s : Shared} {a dx C : Addr} {fs : List (Str × V)}
theorem Inv.hideO (I : Inv X pins σ H s) (e : H a = some (.ins C dx fs)) (hfs : a ∉ X.fs) (hfd : dx ∉ X.fs) :
    ∃ od, (∃ mA es ep, od.data = .dict es ep ∧ (∀ h : Heap, h.get? dx = some od → h.Ns1 dx mA) ∧ (∀ f, RelO (fs.lookup f) (mA f)) ∧ PySem.Within mA (fs.map (·.1))) ∧ dx ≠ a ∧ fs.length ≤ 1000 ∧ Inv X (pins ++ [(a, PySem.W.instObj C dx), (dx, od)]) σ (hid H a dx) s := by
  obtain ⟨d, z, ne, ea, mA, ⟨od, es, ep, e2, c⟩, r⟩ := (show ObjOk X.prog X.w H s.heap a (.ins C dx fs) from I.hok a _ e)
  have nc : ∀ v, od.data ≠ .cell v := fun v q => by rw [c.1] at q; cases q
  refine ⟨od, ⟨mA, es, ep, c.1, fun h q => ⟨od, es, ep, q, c⟩, r⟩, ne, z, ⟨I.ok, I.os, I.bare, ⟨I.base.keep, I.base.slot, fun b o q n hx => hid_none (I.base.free b o q n hx), I.base.there, fun b xs q => ?_, fun b o u q => ?_, fun b ps q => ?_⟩, I.loc, I.cell, hid_none I.free, fun x c q => hid_none (I.freeC x c q), fun p hp => ?_, fun b o q => ?_, I.len⟩⟩
  · have z := I.base.tups b xs q
    rw [hid_ne (fun w => by rw [w, e] at z; cases z) (fun w => by rw [w, d] at z; cases z)]
    exact z
  · have z := I.base.frzs b o u q
    rw [hid_ne (fun w => by rw [w, e] at z; cases z) (fun w => by rw [w, d] at z; cases z)]
    exact z
  · obtain ⟨more, z⟩ := I.base.tbls b ps q
    exact ⟨more, by rw [hid_ne (fun w => by rw [w, e] at z; cases z) (fun w => by rw [w, d] at z; cases z)]; exact z⟩
  · rw [← List.append_assoc] at hp
    rcases List.mem_append.mp hp with z | z
    · obtain ⟨p1, p2, p3, p4, p5⟩ := I.pin p z
      exact ⟨p1, hid_none p2, p3, p4, p5⟩
    · rcases List.mem_cons.mp z with z | z
      · rw [z]
        refine ⟨ea, hid_l, fun w => ?_, hfs, fun v q => by cases q⟩
        have f := I.free
        rw [← w, e] at f
        cases f
      · rw [List.mem_singleton.mp z]
        refine ⟨e2, hid_r, fun w => ?_, hfd, nc⟩
        have f := I.free
        rw [← w, d] at f
        cases f
  · by_cases hb : b = a
    · rw [hb, hid_l] at q
      cases q
    · by_cases hb2 : b = dx
      · rw [hb2, hid_r] at q
        cases q
      · rw [hid_ne hb hb2] at q
        refine (I.hok b o q).stay (fun _ _ _ z => z) (fun c hc => ?_) (fun c xs hc => ?_)
        · rw [hid_ne (fun w => by rw [w, e] at hc; cases hc) (fun w => by rw [w, d] at hc; cases hc; exact hb rfl)]
          exact hc
        · rw [hid_ne (fun w => by rw [w, e] at hc; cases hc) (fun w => by rw [w, d] at hc; cases hc)]
          exact hc
theorem Inv.unhideO {od : Obj} {mA : Str → Option Value} (I : Inv X (pins ++ [(a, PySem.W.instObj C dx), (dx, od)]) σ H s) (hm : ∀ h : Heap, h.get? dx = some od → h.Ns1 dx mA) (hr : ∀ f, RelO (fs.lookup f) (mA f)) (hw : PySem.Within mA (fs.map (·.1)))
    (ne : dx ≠ a) (hz : fs.length ≤ 1000) (hne : ∀ b o, X.s₀.heap.get? b = some o → X.H₀ b = none → b ∉ X.ex → b ≠ a ∧ b ≠ dx) (hp0 : ∀ p ∈ X.pn ++ pins, p.1 ≠ a ∧ p.1 ≠ dx) (hc : ∀ x c, X.env.cells.lookup x = some c → c ≠ a ∧ c ≠ dx) :
    H a = none ∧ H dx = none ∧ Inv X pins σ (shown H a dx C fs) s := by
  obtain ⟨g1, g2, g3, g4, g5⟩ := I.pin (a, PySem.W.instObj C dx) (List.mem_append_right _ (List.mem_append_right _ (List.mem_cons_self)))
  obtain ⟨k1, k2, k3, k4, k5⟩ := I.pin (dx, od) (List.mem_append_right _ (List.mem_append_right _ (List.mem_cons_of_mem _ (List.mem_singleton.mpr rfl))))
  have g2' : H a = none := g2
  have k2' : H dx = none := k2
  have sn : ∀ {b : Addr}, b ≠ a → b ≠ dx → shown H a dx C fs b = H b := fun h1 h2 => by unfold shown; rw [upd_ne h1, upd_ne h2]
  have sa : shown H a dx C fs a = some (.ins C dx fs) := upd_same
  have sd : shown H a dx C fs dx = some (.own a) := by unfold shown; rw [upd_ne ne, upd_same]
  refine ⟨g2', k2', ⟨I.ok, I.os, I.bare, ⟨I.base.keep, I.base.slot, fun b o q n hx => ?_, I.base.there, fun b xs q => ?_, fun b o u q => ?_, fun b ps q => ?_⟩, I.loc, I.cell, ?_, fun x c q => ?_, fun p hp => ?_, fun b o q => ?_, I.len⟩⟩
  · obtain ⟨n1, n2⟩ := hne b o q n hx
    rw [sn n1 n2]
    exact I.base.free b o q n hx
  · have z := I.base.tups b xs q
    rw [sn (ne_of_none z g2') (ne_of_none z k2')]
    exact z
  · have z := I.base.frzs b o u q
    rw [sn (ne_of_none z g2') (ne_of_none z k2')]
    exact z
  · obtain ⟨more, z⟩ := I.base.tbls b ps q
    exact ⟨more, by rw [sn (ne_of_none z g2') (ne_of_none z k2')]; exact z⟩
  · rw [sn (Ne.symm g3) (Ne.symm k3)]
    exact I.free
  · obtain ⟨n1, n2⟩ := hc x c q
    rw [sn n1 n2]
    exact I.freeC x c q
  · obtain ⟨p1, p2, p3, p4, p5⟩ := I.pin p (by rw [← List.append_assoc]; exact List.mem_append_left _ hp)
    obtain ⟨n1, n2⟩ := hp0 p hp
    refine ⟨p1, ?_, p3, p4, p5⟩
    rw [sn n1 n2]
    exact p2
  · by_cases hb : b = a
    · rw [hb, sa] at q
      cases q
      rw [hb]
      exact ⟨sd, hz, ne, g1, mA, hm _ k1, hr, hw⟩
    · by_cases hb2 : b = dx
      · rw [hb2, sd] at q
        cases q
        rw [hb2]
        exact ⟨_, k1⟩
      · rw [sn hb hb2] at q
        refine (I.hok b o q).stay (fun _ _ _ z => z) (fun c hc => ?_) (fun c xs hc => ?_)
        · rw [sn (ne_of_none hc g2') (ne_of_none hc k2')]
          exact hc
        · rw [sn (ne_of_none hc g2') (ne_of_none hc k2')]
          exact hc
theorem Inv.notfs {o : HO} (I : Inv X pins σ H s) (e : H a = some o) : a ∉ X.fs ∧ (∀ b o, X.s₀.heap.get? b = some o → X.H₀ b = none → b ∉ X.ex → b ≠ a) ∧ (∀ p ∈ X.pn ++ pins, p.1 ≠ a) ∧ ∀ x c, X.env.cells.lookup x = some c → c ≠ a := by
  refine ⟨fun hb => ?_, fun b o q n hx z => ?_, fun p hp z => ?_, fun x c q z => ?_⟩
  · have h1 := I.ok.frf a hb
    obtain ⟨_, o, ho, _⟩ := I.ok.funs.mem hb
    have hx : a ∉ X.ex := fun hx => I.ok.exfs a hx hb
    have := I.base.free a o ho h1 hx
    rw [e] at this
    cases this
  · have := I.base.free b o q n hx
    rw [z, e] at this
    cases this
  · have := (I.pin p hp).2.1
    rw [z, e] at this
    cases this
  · have := I.freeC x c q
    rw [z, e] at this
    cases this
theorem frameO {G : Prop} (I : Inv X pins σ H s) (e : H a = some (.ins C dx fs))
    (h : ∀ pl : List (Addr × Obj), Inv X (pins ++ pl) σ (hid H a dx) s → (∀ (σ' : St) (H' : Hp) (s' : Shared), Inv X (pins ++ pl) σ' H' s' → H' a = none ∧ H' dx = none ∧ dx ≠ a ∧ Inv X pins σ' (shown H' a dx C fs) s') → G) : G := by
  obtain ⟨k1, k2, k3, k4⟩ := I.notfs e
  obtain ⟨d, _⟩ := (show ObjOk X.prog X.w H s.heap a (.ins C dx fs) from I.hok a _ e)
  obtain ⟨m1, m2, m3, m4⟩ := I.notfs d
  obtain ⟨od, ⟨mA, es, ep, _, hm, hr, hw⟩, ne, hz, I'⟩ := I.hideO e k1 m1
  refine h _ I' fun σ' H' s' J => ?_
  obtain ⟨z1, z2, J'⟩ := J.unhideO hm hr hw ne hz (fun b o q n hx => ⟨k2 b o q n hx, m2 b o q n hx⟩) (fun p hp => ⟨k3 p hp, m3 p hp⟩) (fun x c q => ⟨k4 x c q, m4 x c q⟩)
  exact ⟨z1, z2, ne, J'⟩
end
section
variable {X : Cx} {e : Expr} {te : TE} {st : Stmt} {ts : TS}
def tFrameO (te : TE) : TE := fun σ H Q => ∃ a dx C fs, H a = some (.ins C dx fs) ∧ te σ (hid H a dx) fun y H4 => H4 a = none → H4 dx = none → dx ≠ a → Q y (shown H4 a dx C fs)
theorem pe_frameO (he : PE X e te) : PE X e (tFrameO te) := by
  intro pins s σ H Q I ⟨a, dx, C, fs, ha, q⟩
  refine frameO I ha fun pl I' back => ?_
  refine thn (he (pins ++ pl) s σ _ _ I' q) fun v s1 ⟨y, H4, I4, r, k⟩ => ?_
  obtain ⟨z1, z2, ne, J⟩ := back _ _ _ I4
  exact ⟨y, _, J, r, k z1 z2 ne⟩
def sFrameO (ts : TS) : TS := fun D σ H => ∃ a dx C fs, H a = some (.ins C dx fs) ∧
  ts ⟨fun σ' H4 => H4 a = none → H4 dx = none → dx ≠ a → D.nx σ' (shown H4 a dx C fs), fun v H4 => H4 a = none → H4 dx = none → dx ≠ a → D.rt v (shown H4 a dx C fs),
    fun σ' H4 => H4 a = none → H4 dx = none → dx ≠ a → D.bk σ' (shown H4 a dx C fs), fun σ' H4 => H4 a = none → H4 dx = none → dx ≠ a → D.ct σ' (shown H4 a dx C fs)⟩ σ (hid H a dx)
theorem ps_frameO (he : PS X st ts) : PS X st (sFrameO ts) := by
  intro pins s σ H D I ⟨a, dx, C, fs, ha, q⟩
  refine frameO I ha fun pl I' back => ?_
  refine thn (he (pins ++ pl) s σ _ _ I' q) fun f s1 hq => ?_
  cases f with
  | next =>
    obtain ⟨σ', H', J, k⟩ := hq
    obtain ⟨z1, z2, ne, J'⟩ := back _ _ _ J
    exact ⟨σ', _, J', k z1 z2 ne⟩
  | brk =>
    obtain ⟨σ', H', J, k⟩ := hq
    obtain ⟨z1, z2, ne, J'⟩ := back _ _ _ J
    exact ⟨σ', _, J', k z1 z2 ne⟩
  | cont =>
    obtain ⟨σ', H', J, k⟩ := hq
    obtain ⟨z1, z2, ne, J'⟩ := back _ _ _ J
    exact ⟨σ', _, J', k z1 z2 ne⟩
  | ret u =>
    obtain ⟨v, σ', H', J, r, k⟩ := hq
    obtain ⟨z1, z2, ne, J'⟩ := back _ _ _ J
    exact ⟨v, σ', _, J', r, k z1 z2 ne⟩
theorem hid_shown {H : Hp} {a dx C : Addr} {fs : List (Str × V)} (h1 : H a = none) (h2 : H dx = none) : hid (shown H a dx C fs) a dx = H := by
  funext b
  unfold hid shown upd
  by_cases hb : b = a
  · rw [if_pos (.inl hb), hb, h1]
  · by_cases hb2 : b = dx
    · rw [if_pos (.inr hb2), hb2, h2]
    · rw [if_neg (fun z => z.elim hb hb2), if_neg hb, if_neg hb2]
theorem upd_shown {H : Hp} {a dx C : Addr} {fs fs' : List (Str × V)} : upd (shown H a dx C fs) a (.ins C dx fs') = shown H a dx C fs' := upd_upd
theorem shown_a {H : Hp} {a dx C : Addr} {fs : List (Str × V)} : shown H a dx C fs a = some (.ins C dx fs) := upd_same
end
end L2

set_option maxHeartbeats 4000000
namespace L2
open PySem PySem.Spec PyProof.Rows
section
variable {X : Cx} {pins : List (Addr × Obj)} {σ : St} {H : Hp} {s : Shared} {L : List Addr}
end
section
variable {X : Cx} {e : Expr} {te : TE} {tt : TT} {st : Stmt} {ts : TS} {tg iter : Expr} {wi : TI}
end
end L2

set_option maxHeartbeats 4000000
namespace DC
open PySem PySem.Spec PyProof.Rows L2
inductive D where
  | non | bl (b : Bool) | int (i : Int) | str (x : Str)
  | lst (xs : List D) | tup (xs : List D)
  | obj (C : Addr) (fs : List (Str × D))
  | dK (kvs : List (Key × D)) | dT (kvs : List (List Key × D))
  | adr (a : Addr)
  | exc (a C : Addr) (fs : List (Str × D))
def ExcO (a C : Addr) (dx : Option Addr) : HO := .ext fun h => ∃ oe vs, h.get? a = some oe ∧ oe.cls = .ref C ∧ oe.dict = dx ∧ oe.data = .fields vs ∧ vs[2]? = some .none
def XdO (d : Addr) (fs : List (Str × V)) : HO := .ext fun h => ∃ mA, h.Ns1 d mA ∧ (∀ f, RelO (fs.lookup f) (mA f)) ∧ PySem.Within mA (fs.map (·.1))
def XDict (H : Hp) (dx : Option Addr) (fs : List (Str × V)) : Prop := match dx with
  | none => fs = []
  | some d => Rd H d (XdO d fs)
theorem rd_same {H H' : Hp} {a : Addr} {u : HO} (s : Same H H') (r : Rd H a u) : Rd H' a u := by
  rcases r with r | ⟨o, r⟩
  · exact .inl (s _ _ r)
  · exact .inr ⟨o, s _ _ r⟩
theorem XDict.same {H H' : Hp} {dx : Option Addr} {fs : List (Str × V)} (s : Same H H') (h : XDict H dx fs) : XDict H' dx fs := by
  cases dx with
  | none => exact h
  | some d => exact rd_same s h
mutual
inductive Dv (K : PySem.W.Frag) (H : Hp) : V → D → Prop
  | non : Dv K H .non .non
  | bl (b : Bool) : Dv K H (.bl b) (.bl b)
  | int (i : Int) : Dv K H (.int i) (.int i)
  | str (x : Str) : Dv K H (.str x) (.str x)
  | lst {a : Addr} {xs : List V} {ds : List D} : SqL K H a xs → Dvs K H xs ds → Dv K H (.ref a) (.lst ds)
  | tup {a : Addr} {xs : List V} {ds : List D} : SqT K H a xs → Dvs K H xs ds → Dv K H (.ref a) (.tup ds)
  | obj {a C dx : Addr} {fs : List (Str × V)} {gs : List (Str × D)} : Rd H a (.ins C dx fs) → Dvf K H fs gs → Dv K H (.ref a) (.obj C gs)
  | dK {a : Addr} {kvs : List (Key × V)} {gs : List (Key × D)} : Rd H a (.dK kvs) → Dvk K H kvs gs → Dv K H (.ref a) (.dK gs)
  | dT {a : Addr} {kvs : List (List Key × V)} {gs : List (List Key × D)} : Rd H a (.dT kvs) → Dvt K H kvs gs → Dv K H (.ref a) (.dT gs)
  | adr (a : Addr) : Dv K H (.ref a) (.adr a)
  | exc {a C : Addr} {dx : Option Addr} {fs : List (Str × V)} {gs : List (Str × D)} : Rd H a (ExcO a C dx) → XDict H dx fs → Dvf K H fs gs → Dv K H (.ref a) (.exc a C gs)
inductive Dvs (K : PySem.W.Frag) (H : Hp) : List V → List D → Prop
  | nil : Dvs K H [] []
  | cons {x : V} {d : D} {xs : List V} {ds : List D} : Dv K H x d → Dvs K H xs ds → Dvs K H (x :: xs) (d :: ds)
inductive Dvf (K : PySem.W.Frag) (H : Hp) : List (Str × V) → List (Str × D) → Prop
  | nil : Dvf K H [] []
  | cons {k : Str} {x : V} {d : D} {xs : List (Str × V)} {ds : List (Str × D)} : Dv K H x d → Dvf K H xs ds → Dvf K H ((k, x) :: xs) ((k, d) :: ds)
inductive Dvk (K : PySem.W.Frag) (H : Hp) : List (Key × V) → List (Key × D) → Prop
  | nil : Dvk K H [] []
  | cons {k : Key} {x : V} {d : D} {xs : List (Key × V)} {ds : List (Key × D)} : Dv K H x d → Dvk K H xs ds → Dvk K H ((k, x) :: xs) ((k, d) :: ds)
inductive Dvt (K : PySem.W.Frag) (H : Hp) : List (List Key × V) → List (List Key × D) → Prop
  | nil : Dvt K H [] []
  | cons {k : List Key} {x : V} {d : D} {xs : List (List Key × V)} {ds : List (List Key × D)} : Dv K H x d → Dvt K H xs ds → Dvt K H ((k, x) :: xs) ((k, d) :: ds)
end
theorem sameT {K : PySem.W.Frag} {H H' : Hp} {a : Addr} {xs : List V} (e : Same H H') (h : SqT K H a xs) : SqT K H' a xs := by
  rcases h with (h | ⟨o, h⟩) | h
  · exact .inl (.inl (e _ _ h))
  · exact .inl (.inr ⟨o, e _ _ h⟩)
  · exact .inr h
section
variable {K : PySem.W.Frag} {H H' : Hp}
mutual
theorem Dv.same (s : Same H H') : ∀ {v : V} {d : D}, Dv K H v d → Dv K H' v d
  | _, _, .non => .non
  | _, _, .bl b => .bl b
  | _, _, .int i => .int i
  | _, _, .str x => .str x
  | _, _, .lst h1 h2 => .lst (s.seq h1) (Dvs.same s h2)
  | _, _, .tup h1 h2 => .tup (sameT s h1) (Dvs.same s h2)
  | _, _, .obj h1 h2 => .obj (rd_same s h1) (Dvf.same s h2)
  | _, _, .dK h1 h2 => .dK (rd_same s h1) (Dvk.same s h2)
  | _, _, .dT h1 h2 => .dT (rd_same s h1) (Dvt.same s h2)
  | _, _, .adr a => .adr a
  | _, _, .exc h1 h2 h3 => .exc (rd_same s h1) (h2.same s) (Dvf.same s h3)
theorem Dvs.same (s : Same H H') : ∀ {vs : List V} {ds : List D}, Dvs K H vs ds → Dvs K H' vs ds
  | _, _, .nil => .nil
  | _, _, .cons h1 h2 => .cons (Dv.same s h1) (Dvs.same s h2)
theorem Dvf.same (s : Same H H') : ∀ {vs : List (Str × V)} {ds : List (Str × D)}, Dvf K H vs ds → Dvf K H' vs ds
  | _, _, .nil => .nil
  | _, _, .cons h1 h2 => .cons (Dv.same s h1) (Dvf.same s h2)
theorem Dvk.same (s : Same H H') : ∀ {vs : List (Key × V)} {ds : List (Key × D)}, Dvk K H vs ds → Dvk K H' vs ds
  | _, _, .nil => .nil
  | _, _, .cons h1 h2 => .cons (Dv.same s h1) (Dvk.same s h2)
theorem Dvt.same (s : Same H H') : ∀ {vs : List (List Key × V)} {ds : List (List Key × D)}, Dvt K H vs ds → Dvt K H' vs ds
  | _, _, .nil => .nil
  | _, _, .cons h1 h2 => .cons (Dv.same s h1) (Dvt.same s h2)
end
theorem Dvs.length : ∀ {vs : List V} {ds : List D}, Dvs K H vs ds → vs.length = ds.length
  | _, _, .nil => rfl
  | _, _, .cons _ h => congrArg (· + 1) (Dvs.length h)
theorem Dvs.get : ∀ {vs : List V} {ds : List D} {i : Nat} {d : D}, Dvs K H vs ds → ds[i]? = some d → ∃ v, vs[i]? = some v ∧ Dv K H v d
  | _, _, _, _, .nil, e => by simp at e
  | _, _, 0, _, .cons h _, e => by simp at e; subst e; exact ⟨_, rfl, h⟩
  | _, _, i + 1, d, .cons _ h, e => by
    obtain ⟨v, h1, h2⟩ := Dvs.get (i := i) (d := d) h (by simpa using e)
    exact ⟨v, by simpa using h1, h2⟩
theorem Dvs.getV : ∀ {vs : List V} {ds : List D} {i : Nat} {v : V}, Dvs K H vs ds → vs[i]? = some v → ∃ d, ds[i]? = some d ∧ Dv K H v d
  | _, _, _, _, .nil, e => by simp at e
  | _, _, 0, _, .cons h _, e => by simp at e; subst e; exact ⟨_, rfl, h⟩
  | _, _, i + 1, v, .cons _ h, e => by
    obtain ⟨d, h1, h2⟩ := Dvs.getV (i := i) (v := v) h (by simpa using e)
    exact ⟨d, by simpa using h1, h2⟩
theorem Dvs.append : ∀ {vs ws : List V} {ds es : List D}, Dvs K H vs ds → Dvs K H ws es → Dvs K H (vs ++ ws) (ds ++ es)
  | _, _, _, _, .nil, h => h
  | _, _, _, _, .cons a r, h => .cons a (Dvs.append r h)
theorem Dvs.take : ∀ {vs : List V} {ds : List D} (n : Nat), Dvs K H vs ds → Dvs K H (vs.take n) (ds.take n)
  | _, _, 0, _ => .nil
  | _, _, _ + 1, .nil => .nil
  | _, _, n + 1, .cons r t => .cons r (Dvs.take n t)
theorem Dvs.drop : ∀ {vs : List V} {ds : List D} (n : Nat), Dvs K H vs ds → Dvs K H (vs.drop n) (ds.drop n)
  | _, _, 0, r => r
  | _, _, _ + 1, .nil => .nil
  | _, _, n + 1, .cons _ t => Dvs.drop n t
theorem Dvf.look : ∀ {fs : List (Str × V)} {gs : List (Str × D)} {f : Str} {d : D}, Dvf K H fs gs → gs.lookup f = some d → ∃ v, fs.lookup f = some v ∧ Dv K H v d
  | _, _, _, _, .nil, e => by simp at e
  | _, _, f, d, .cons (k := k) h r, e => by
    rw [List.lookup_cons] at e ⊢
    cases q : f == k with
    | true =>
      rw [q] at e
      cases e
      exact ⟨_, rfl, h⟩
    | false =>
      rw [q] at e
      exact Dvf.look r e
theorem Dvf.none : ∀ {fs : List (Str × V)} {gs : List (Str × D)} {f : Str}, Dvf K H fs gs → gs.lookup f = Option.none → fs.lookup f = Option.none
  | _, _, _, .nil, _ => rfl
  | _, _, f, .cons (k := k) h r, e => by
    rw [List.lookup_cons] at e ⊢
    cases q : f == k with
    | true => rw [q] at e; cases e
    | false =>
      rw [q] at e
      exact Dvf.none r e
end
section
variable {X : Cx} {pins : List (Addr × Obj)} {σ : L2.St} {H : Hp} {s : Shared} {a C dx : Addr} {fs : List (Str × V)} {f : Str} {v : V} {A : Around} {E : Value → Shared → Prop}
theorem ins_getR {P : Program} {w : World} {h : Heap} (hok : HOk P w H h) (e : Rd H a (.ins C dx fs)) : ∃ mA, ObjM h a dx C mA ∧ (∀ f, RelO (fs.lookup f) (mA f)) ∧ PySem.Within mA (fs.map (·.1)) ∧ fs.length ≤ 1000 ∧ H dx = some (.own a) := by
  obtain ⟨d, z, ne, ob, mA, n, r, q⟩ := (show ObjOk P w H h a (.ins C dx fs) from e.ok hok)
  exact ⟨mA, ⟨ob, n, ne⟩, r, q, z, d⟩
theorem getattr_okR {b : Bool} {Q : Value → Shared → Prop} (I : Inv X pins σ H s) (e : Rd H a (.ins C dx fs)) (c : Cls X.K C) (n : NoAttr X.K C f) (l : fs.lookup f = some v)
    (h : ∀ u s', Inv X pins σ H s' → RelV v u → Q u s') : wpAny (model X.prog X.w) A (getAttr (.ref a) f b) Q E s := by
  obtain ⟨mA, O, r, _, _, _⟩ := ins_getR I.hok e
  obtain ⟨u, hu, ru⟩ := RelO.some_of (v := v) (o := mA f) (by rw [← l]; exact r f)
  exact get_map I.kIn O (c.get f) c.hd n hu (handed_of ru) (h u _ (I.tok _) ru)
theorem getmeth_okR {m : Str} {g : Addr} {pl : Sem Bool} {Q : Value × List Value → Shared → Prop} (I : Inv X pins σ H s) (e : Rd H a (.ins C dx fs)) (c : Cls X.K C) (k : Meth X.K C m g) (l : fs.lookup m = none)
    (h : Q (.ref g, [.ref a]) s) : wpAny (model X.prog X.w) A (getMethod (.ref a) m pl) Q E s := by
  obtain ⟨mA, O, r, _, _, _⟩ := ins_getR I.hok e
  have hn : mA m = none := RelO.none_of (by rw [← l]; exact r m)
  exact get_meth I.kIn O (c.get m) k.at_ k.fn hn h
def tFldR (K : PySem.W.Frag) (ta : TE) (f : Str) : TE := fun σ H Q => ta σ H fun x H1 => ∃ a C dx fs v, x = .ref a ∧ Rd H1 a (.ins C dx fs) ∧ Cls K C ∧ NoAttr K C f ∧ fs.lookup f = some v ∧ Q v H1
theorem pe_fldR {e : Expr} {ta : TE} {pos : Pos} (he : PE X e ta) (hb : attributeBase e f X.env (eval e X.env) = eval e X.env) : PE X (.Attribute e f pos) (tFldR X.K ta f) := by
  intro pins s σ H Q I h
  refine attr_of hb (thn (he pins s σ H _ I h) fun u s1 ⟨x, H1, I1, rx, a, C, dx, fs, v, ex, ea, c, n, l, q⟩ => ?_)
  subst ex
  obtain rfl : u = Value.ref a := rx
  exact getattr_okR I1 ea c n l fun u' s2 I2 ru => ⟨v, H1, I2, ru, q⟩
end
abbrev SD := List (Option D)
abbrev ED := SD → (D → Prop) → Prop
abbrev TD := SD → (Bool → Prop) → Prop
abbrev AD := SD → (List D → Prop) → Prop
structure RelS (K : PySem.W.Frag) (H : Hp) (σ : L2.St) (δ : SD) : Prop where
  len : σ.length = δ.length
  get : ∀ (i : Nat) (d : D), δ[i]? = some (some d) → ∃ v, σ[i]? = some (some v) ∧ Dv K H v d
theorem RelS.same {K : PySem.W.Frag} {H H' : Hp} {σ : L2.St} {δ : SD} (r : RelS K H σ δ) (s : Same H H') : RelS K H' σ δ :=
  ⟨r.len, fun i d h => let ⟨v, h1, h2⟩ := r.get i d h; ⟨v, h1, h2.same s⟩⟩
theorem RelS.set {K : PySem.W.Frag} {H : Hp} {σ : L2.St} {δ : SD} (r : RelS K H σ δ) {v : V} {d : D} (i : Nat) (h : Dv K H v d) : RelS K H (σ.set i (some v)) (δ.set i (some d)) := by
  refine ⟨by rw [List.length_set, List.length_set]; exact r.len, fun j e hj => ?_⟩
  rw [List.getElem?_set] at hj ⊢
  split at hj
  · rename_i q
    subst q
    have hl := r.len
    split at hj
    · rename_i q2
      cases hj
      exact ⟨v, by rw [if_pos rfl, if_pos (by omega)], h⟩
    · cases hj
  · rename_i q
    rw [if_neg q]
    exact r.get j e hj
def kD (K : PySem.W.Frag) (H : Hp) (Q : VK) : D → Prop := fun d => ∀ v H', Same H H' → Dv K H' v d → Q v H'
def kB (H : Hp) (Q : Bool → Hp → Prop) : Bool → Prop := fun b => ∀ H', Same H H' → Q b H'
def kA (K : PySem.W.Frag) (H : Hp) (Q : List V → Hp → Prop) : List D → Prop := fun ds => ∀ vs H', Same H H' → Dvs K H' vs ds → Q vs H'
theorem kD.on {K : PySem.W.Frag} {H H1 : Hp} {Q : VK} {d : D} (s : Same H H1) (h : kD K H Q d) : kD K H1 Q d := fun v H' s' dv => h v H' (s.trans s') dv
theorem kB.on {H H1 : Hp} {Q : Bool → Hp → Prop} {b : Bool} (s : Same H H1) (h : kB H Q b) : kB H1 Q b := fun H' s' => h H' (s.trans s')
def oE (K : PySem.W.Frag) (t : ED) : TE := fun σ H Q => ∃ δ, RelS K H σ δ ∧ t δ (kD K H Q)
def oT (K : PySem.W.Frag) (t : TD) : TT := fun σ H Q => ∃ δ, RelS K H σ δ ∧ t δ (kB H Q)
def oA (K : PySem.W.Frag) (t : AD) : TA := fun σ H Q => ∃ δ, RelS K H σ δ ∧ t δ (kA K H Q)
abbrev MonoE (t : ED) : Prop := ∀ δ (P P' : D → Prop), (∀ d, P d → P' d) → t δ P → t δ P'
structure PD (X : Cx) (e : Expr) (t : ED) : Prop where
  pe : PE X e (oE X.K t)
  mono : MonoE t
structure PTd (X : Cx) (e : Expr) (t : TD) : Prop where
  pt : PT X e (oT X.K t)
  mono : ∀ δ (P P' : Bool → Prop), (∀ d, P d → P' d) → t δ P → t δ P'
structure PWd (X : Cx) (e : Expr) (t : TD) : Prop where
  pw : PW X e (oT X.K t)
  mono : ∀ δ (P P' : Bool → Prop), (∀ d, P d → P' d) → t δ P → t δ P'
structure PAd (X : Cx) (es : List Expr) (t : AD) : Prop where
  pa : PA X es (oA X.K t)
  mono : ∀ δ (P P' : List D → Prop), (∀ d, P d → P' d) → t δ P → t δ P'
theorem PT.imp {X : Cx} {e : Expr} {t t' : TT} (h : PT X e t) (f : ∀ σ H Q, t' σ H Q → t σ H Q) : PT X e t' := fun pins s σ H Q I q => h pins s σ H Q I (f σ H Q q)
theorem PW.imp {X : Cx} {e : Expr} {t t' : TT} (h : PW X e t) (f : ∀ σ H Q, t' σ H Q → t σ H Q) : PW X e t' := fun wh pins s σ H Q I q => h wh pins s σ H Q I (f σ H Q q)
theorem PA.imp {X : Cx} {es : List Expr} {t t' : TA} (h : PA X es t) (f : ∀ σ H Q, t' σ H Q → t σ H Q) : PA X es t' := fun p pins s σ H Q I q => h p pins s σ H Q I (f σ H Q q)
section
variable {X : Cx} {e a b c : Expr} {es rest : List Expr} {pos : Pos} {ta tb tc : ED}
def vVar (i : Nat) : ED := fun δ Q => ∃ d, δ[i]? = some (some d) ∧ Q d
def vC (d : D) : ED := fun _ Q => Q d
theorem d_pe {i : Nat} (h : PE X e (tVar i)) : PD X e (vVar i) :=
  ⟨h.imp fun σ H Q ⟨δ, r, d, hd, k⟩ => let ⟨v, hv, dv⟩ := r.get i d hd; ⟨v, hv, k v H (Same.refl _) dv⟩, fun δ P P' f ⟨d, hd, k⟩ => ⟨d, hd, f d k⟩⟩
theorem dv (i : Nat) {x : Str} {pos : Pos} (hN : X.N[i]? = some x := by rfl) (hv : Vis X.env.scope x := by first | exact Or.inl rfl | exact Or.inr (Or.inl rfl) | exact Or.inr (Or.inr rfl)) (hd : (x == ("__debug__" : Str)) = false := by decide)
    (hcd : (x == ("__classdict__" : Str)) = false := by decide) : PD X (.Name x pos) (vVar i) := d_pe (pv i hN hv hd hcd)
theorem d_c {v : V} {d : D} (h : PE X e (tC v)) (hv : ∀ H, Dv X.K H v d) : PD X e (vC d) :=
  ⟨h.imp fun σ H Q ⟨δ, r, k⟩ => k v H (Same.refl _) (hv H), fun δ P P' f k => f d k⟩
theorem d_int {i j pos} : PD X (.Constant (.int i) j pos) (vC (.int i)) := d_c pe_int fun _ => .int i
theorem d_bl {i j pos} : PD X (.Constant (.bool i) j pos) (vC (.bl i)) := d_c pe_bl fun _ => .bl i
theorem d_str {i j pos} : PD X (.Constant (.str i) j pos) (vC (.str i)) := d_c pe_str fun _ => .str i
theorem d_non {j pos} : PD X (.Constant .none j pos) (vC .non) := d_c pe_non fun _ => .non
theorem d_glob {x : Str} {v : V} {u : Value} {d : D} {pos : Pos} (hg : Gl X x) (hm : X.mg x = some u) (r : RelV v u) (hv : ∀ H, Dv X.K H v d) (hd : (x == ("__debug__" : Str)) = false := by decide) : PD X (.Name x pos) (vC d) := d_c (pe_glob hg hm r hd) hv
abbrev F2 := D → D → (D → Prop) → Prop
abbrev MonoF (f : F2) : Prop := ∀ d e (P P' : D → Prop), (∀ r, P r → P' r) → f d e P → f d e P'
def vOp (f : F2) (ta tb : ED) : ED := fun δ Q => ta δ fun d => tb δ fun e => f d e Q
def Does (K : PySem.W.Frag) (r : R2) (f : F2) : Prop := ∀ H x y d e Q, Dv K H x d → Dv K H y e → f d e (kD K H Q) → r x y H Q
theorem d_bin {t : TE} {r : R2} {f : F2} (hp : PE X e (tOp r (oE X.K ta) (oE X.K tb))) (ma : MonoE ta) (mb : MonoE tb) (hd : Does X.K r f) (hf : MonoF f) : PD X e (vOp f ta tb) := by
  refine ⟨hp.imp fun σ H Q ⟨δ, r, h⟩ => ⟨δ, r, ma _ _ _ (fun d hd' v H1 s1 dv => ⟨δ, r.same s1, mb _ _ _ (fun e he w H2 s2 ew => hd H2 v w d e Q (dv.same s2) ew (hf d e _ _ (fun z hz => hz.on (s1.trans s2)) he)) hd'⟩) h⟩, ?_⟩
  exact fun δ P P' g h => ma _ _ _ (fun d h' => mb _ _ _ (fun e h'' => hf d e _ _ g h'') h') h
theorem d_op {op : Operator} {r : R2} {f : F2} (ho : OpR X (binaryOp op) r) (hd : Does X.K r f) (hf : MonoF f) (ha : PD X a ta) (hb : PD X b tb) : PD X (.BinOp a op b pos) (vOp f ta tb) :=
  d_bin (t := oE X.K ta) (pe_op ho ha.pe hb.pe) ha.mono hb.mono hd hf
theorem d_cmp {op : CmpOp} {r : R2} {f : F2} (ho : OpR X (compareOp op) r) (hd : Does X.K r f) (hf : MonoF f) (ha : PD X a ta) (hb : PD X b tb) (hm : behindInMarks op b = false) : PD X (.Compare a [op] [b] pos) (vOp f ta tb) :=
  d_bin (t := oE X.K ta) (pe_cmpR ho ha.pe hb.pe hm) ha.mono hb.mono hd hf
end
end DC

set_option maxHeartbeats 4000000
namespace DC
open PySem PySem.Spec PyProof.Rows L2
section
variable {X : Cx}
theorem op_catL : OpR X (binaryOp .Add) (fun x y H Q => ∃ a b xs ys, x = .ref a ∧ y = .ref b ∧ SqL X.K H a xs ∧ SqL X.K H b ys ∧ xs.length + ys.length ≤ sizeLine ∧ ∀ p, H p = none → Q (.ref p) (upd H p (.lst (xs ++ ys)))) := by
  intro pins s σ H x y v u Q I rx ry h
  obtain ⟨a, b, xs, ys, rfl, rfl, ha, hb, hz, q⟩ := h
  cases (show v = Value.ref a from rx)
  cases (show u = Value.ref b from ry)
  obtain ⟨its, r1, p1, _⟩ := I.list ha
  obtain ⟨its2, r2, p2, _⟩ := I.list hb
  have hl1 := r1.length
  have hl2 := r2.length
  obtain ⟨⟨cls, dd, data, sl⟩, ho, hc, n, hd⟩ := id p1.isList
  obtain ⟨⟨cls2, dd2, data2, sl2⟩, ho2, hc2, n2, hd2⟩ := id p2.isList
  simp only at hc hd hc2 hd2
  subst hc hd hc2 hd2
  have e : its.toArray ++ its2.toArray = (its ++ its2).toArray := by simp
  refine concat_meets ⟨_, ho, rfl⟩ ⟨_, ho2, rfl⟩ noFill_list_add seq_list_add PySem.F.slot_list_add PySem.F.entry_list_add (PySem.F.args_list_add_2 _ _)
    (list_addW a b its.toArray its2.toArray n n2 dd dd2 sl sl2 (by rw [List.size_toArray, List.size_toArray]; omega)) ⟨ho, ho2, ?_⟩
  rw [e]
  exact ⟨.ref _, _, I.lnew (t' := s.toks) (r1.append r2) (by rw [List.length_append]; omega), rfl, q _ I.fresh⟩
theorem op_catN : OpR X (binaryOp .Add) (fun x y H Q => ∃ a b ys, x = .ref a ∧ y = .ref b ∧ SqT X.K H a [] ∧ SqT X.K H b ys ∧ Q (.ref b) H) := by
  intro pins s σ H x y v u Q I rx ry h
  obtain ⟨a, b, ys, rfl, rfl, ha, hb, q⟩ := h
  cases (show v = Value.ref a from rx)
  cases (show u = Value.ref b from ry)
  obtain ⟨its, r1, p1, _⟩ := I.tuple ha
  obtain ⟨its2, r2, p2, _⟩ := I.tuple hb
  have e1 : its = [] := r1.zero
  subst e1
  obtain ⟨⟨cls, dd, data, sl⟩, ho, hc, n, hd⟩ := id p1
  obtain ⟨⟨cls2, dd2, data2, sl2⟩, ho2, hc2, n2, hd2⟩ := id p2
  simp only at hc hd hc2 hd2
  subst hc hd hc2 hd2
  exact concat_meets ⟨_, ho, rfl⟩ ⟨_, ho2, rfl⟩ noFill_tuple_add seq_tuple_add PySem.F.slot_tuple_add PySem.F.entry_tuple_add (PySem.F.args_tuple_add_2 _ _)
    (tuple_addW0 a b #[] its2.toArray n n2 dd dd2 sl sl2 rfl) ⟨ho, ho2, ⟨.ref b, H, I, rfl, q⟩⟩
end
section
variable {K : PySem.W.Frag}
def fAdd : F2 := fun d e Q => match d, e with
  | .int i, .int j => Q (.int (i + j))
  | .str x, .str y => x.length + y.length ≤ sizeLine ∧ Q (.str (x ++ y))
  | .lst xs, .lst ys => xs.length + ys.length ≤ sizeLine ∧ Q (.lst (xs ++ ys))
  | .tup xs, .tup ys => xs.length + ys.length ≤ sizeLine ∧ Q (.tup (xs ++ ys))
  | _, _ => False
theorem m_add : MonoF fAdd := by
  intro d e P P' g h
  unfold fAdd at h ⊢
  split at h
  · exact g _ h
  · exact ⟨h.1, g _ h.2⟩
  · exact ⟨h.1, g _ h.2⟩
  · exact ⟨h.1, g _ h.2⟩
  · exact h.elim
def rAddU (K : PySem.W.Frag) : R2 := fun x y H Q => (∃ i j, x = .int i ∧ y = .int j ∧ Q (.int (i + j)) H) ∨ (∃ i j, x = .str i ∧ y = .str j ∧ i.length + j.length ≤ sizeLine ∧ Q (.str (i ++ j)) H) ∨
  (∃ a b xs ys, x = .ref a ∧ y = .ref b ∧ SqL K H a xs ∧ SqL K H b ys ∧ xs.length + ys.length ≤ sizeLine ∧ ∀ p, H p = none → Q (.ref p) (upd H p (.lst (xs ++ ys)))) ∨
  rCatT K x y H Q ∨ (∃ a b ys, x = .ref a ∧ y = .ref b ∧ SqT K H a [] ∧ SqT K H b ys ∧ Q (.ref b) H)
theorem op_addU {X : Cx} : OpR X (binaryOp .Add) (rAddU X.K) := op_add.or (op_add_str.or (op_catL.or (op_catT.or op_catN)))
theorem does_add : Does K (rAddU K) fAdd := by
  intro H x y d e Q hx hy h
  cases hx with
  | int i => cases hy with
    | int j => exact .inl ⟨i, j, rfl, rfl, h _ H (Same.refl _) (.int _)⟩
    | _ => exact h.elim
  | str i => cases hy with
    | str j => exact .inr (.inl ⟨i, j, rfl, rfl, h.1, h.2 _ H (Same.refl _) (.str _)⟩)
    | _ => exact h.elim
  | lst h1 h2 => cases hy with
    | lst g1 g2 =>
      refine .inr (.inr (.inl ⟨_, _, _, _, rfl, rfl, h1, g1, ?_, fun p hp => ?_⟩))
      · rw [h2.length, g2.length]; exact h.1
      · exact h.2 _ _ (same_upd hp) (.lst (SqL.of upd_same) ((h2.append g2).same (same_upd hp)))
    | _ => exact h.elim
  | tup h1 h2 => cases hy with
    | tup g1 g2 =>
      have z := h.1
      rw [← h2.length, ← g2.length] at z
      cases h2 with
      | nil => exact .inr (.inr (.inr (.inr ⟨_, _, _, rfl, rfl, h1, g1, h.2 _ H (Same.refl _) (.tup g1 g2)⟩)))
      | cons a r =>
        refine .inr (.inr (.inr (.inl ⟨_, _, _, _, rfl, rfl, h1, g1, (fun q => nomatch q), z, fun e => ?_, fun e p hp => ?_⟩)))
        · subst e
          cases g2
          have q := h.2
          rw [List.append_nil] at q
          exact q _ H (Same.refl _) (.tup h1 (.cons a r))
        · exact h.2 _ _ (same_upd hp) (.tup (SqT.of upd_same) (((Dvs.cons a r).append g2).same (same_upd hp)))
    | _ => exact h.elim
  | _ => exact h.elim
def fI (C : Int → Int → Prop) (g : Int → Int → D) : F2 := fun d e Q => match d, e with
  | .int i, .int j => C i j ∧ Q (g i j)
  | _, _ => False
theorem m_I {C : Int → Int → Prop} {g : Int → Int → D} : MonoF (fI C g) := by
  intro d e P P' f h
  unfold fI at h ⊢
  split at h
  · exact ⟨h.1, f _ h.2⟩
  · exact h.elim
theorem does_I {C : Int → Int → Prop} {g : Int → Int → V} {g' : Int → Int → D} (hg : ∀ H i j, Dv K H (g i j) (g' i j)) : Does K (rI C g) (fI C g') := by
  intro H x y d e Q hx hy h
  cases hx with
  | int i => cases hy with
    | int j => exact ⟨i, j, rfl, rfl, h.1, h.2 _ H (Same.refl _) (hg H i j)⟩
    | _ => exact h.elim
  | _ => exact h.elim
def fI0 (g : Int → Int → D) : F2 := fun d e Q => match d, e with
  | .int i, .int j => Q (g i j)
  | _, _ => False
theorem m_I0 {g : Int → Int → D} : MonoF (fI0 g) := by
  intro d e P P' f h
  unfold fI0 at h ⊢
  split at h
  · exact f _ h
  · exact h.elim
theorem does_I0 {g : Int → Int → V} {g' : Int → Int → D} (hg : ∀ H i j, Dv K H (g i j) (g' i j)) : Does K (rI0 g) (fI0 g') := by
  intro H x y d e Q hx hy h
  cases hx with
  | int i => cases hy with
    | int j => exact ⟨i, j, rfl, rfl, h _ H (Same.refl _) (hg H i j)⟩
    | _ => exact h.elim
  | _ => exact h.elim
end
section
variable {X : Cx} {a b c : Expr} {es rest : List Expr} {pos : Pos} {ta tb tc : ED}
def vAdd : ED → ED → ED := vOp fAdd
def vSub : ED → ED → ED := vOp (fI0 fun i j => .int (i - j))
def vMul : ED → ED → ED := vOp (fI IntMulOk fun i j => .int (i * j))
def vMod : ED → ED → ED := vOp (fI (fun _ j => 0 < j) fun i j => .int (i % j))
def vDiv : ED → ED → ED := vOp (fI CDiv fun i j => .int (i / j))
theorem d_add (ha : PD X a ta) (hb : PD X b tb) : PD X (.BinOp a .Add b pos) (vAdd ta tb) := d_op op_addU does_add m_add ha hb
theorem d_sub (ha : PD X a ta) (hb : PD X b tb) : PD X (.BinOp a .Sub b pos) (vSub ta tb) := d_op op_sub (does_I0 fun _ _ _ => .int _) m_I0 ha hb
theorem d_mul (ha : PD X a ta) (hb : PD X b tb) : PD X (.BinOp a .Mult b pos) (vMul ta tb) := d_op op_mulB (does_I fun _ _ _ => .int _) m_I ha hb
theorem d_mod (ha : PD X a ta) (hb : PD X b tb) : PD X (.BinOp a .Mod b pos) (vMod ta tb) := d_op op_mod (does_I fun _ _ _ => .int _) m_I ha hb
theorem d_div (ha : PD X a ta) (hb : PD X b tb) : PD X (.BinOp a .FloorDiv b pos) (vDiv ta tb) := d_op op_fdiv (does_I fun _ _ _ => .int _) m_I ha hb
def vNeg (ta : ED) : ED := fun δ Q => ta δ fun d => ∃ i, d = .int i ∧ Q (.int (-i))
theorem d_neg (ha : PD X a ta) : PD X (.UnaryOp .USub a pos) (vNeg ta) :=
  ⟨(pe_un un_neg ha.pe).imp fun σ H Q ⟨δ, r, h⟩ => ⟨δ, r, ha.mono _ _ _ (fun d ⟨i, e, k⟩ v H1 s1 dv => by subst e; cases dv; exact ⟨i, rfl, k _ H1 s1 (.int _)⟩) h⟩,
   fun δ P P' g h => ha.mono _ _ _ (fun d ⟨i, e, k⟩ => ⟨i, e, g _ k⟩) h⟩
def vLt : ED → ED → ED := vOp (fI0 fun i j => .bl (decide (i < j)))
def vLe : ED → ED → ED := vOp (fI0 fun i j => .bl (decide (i ≤ j)))
def vGt : ED → ED → ED := vOp (fI0 fun i j => .bl (decide (j < i)))
theorem d_lt (ha : PD X a ta) (hb : PD X b tb) : PD X (.Compare a [.Lt] [b] pos) (vLt ta tb) := d_cmp op_lt (does_I0 fun _ _ _ => .bl _) m_I0 ha hb (nomark _)
theorem d_le (ha : PD X a ta) (hb : PD X b tb) : PD X (.Compare a [.LtE] [b] pos) (vLe ta tb) := d_cmp op_le (does_I0 fun _ _ _ => .bl _) m_I0 ha hb (nomark _)
theorem d_gt (ha : PD X a ta) (hb : PD X b tb) : PD X (.Compare a [.Gt] [b] pos) (vGt ta tb) := d_cmp op_gt (does_I0 fun _ _ _ => .bl _) m_I0 ha hb (nomark _)
end
end DC

set_option maxHeartbeats 4000000
namespace DC
open PySem PySem.Spec PyProof.Rows L2
mutual
def toP : D → PyData
  | .non => .none
  | .bl b => .bool b
  | .int i => .int i
  | .str x => .str x
  | .lst xs => .list (toPs xs)
  | .tup xs => .tuple (toPs xs)
  | .obj _ _ => .none
  | .dK _ => .none
  | .dT _ => .none
  | .adr _ => .none
  | .exc _ _ _ => .none
def toPs : List D → List PyData
  | [] => []
  | d :: ds => toP d :: toPs ds
end
mutual
def plain : D → Bool
  | .lst xs => plains xs
  | .tup xs => plains xs
  | .obj _ _ => false
  | .dK _ => false
  | .dT _ => false
  | .adr _ => false
  | .exc _ _ _ => false
  | _ => true
def plains : List D → Bool
  | [] => true
  | d :: ds => plain d && plains ds
end
section
variable {K : PySem.W.Frag} {H : Hp}
mutual
theorem Dv.dat : ∀ {v : V} {d : D}, plain d = true → Dv K H v d → DatV K H v (toP d)
  | _, _, _, .non => by rw [toP]; exact .non
  | _, _, _, .bl b => by rw [toP]; exact .bl b
  | _, _, _, .int i => by rw [toP]; exact .int i
  | _, _, _, .str x => by rw [toP]; exact .str x
  | _, _, p, .lst h1 h2 => by rw [toP]; rw [plain] at p; exact .lst h1 (Dvs.dat p h2)
  | _, _, p, .tup h1 h2 => by rw [toP]; rw [plain] at p; exact .tup h1 (Dvs.dat p h2)
  | _, _, p, .obj _ _ => by rw [plain] at p; cases p
  | _, _, p, .dK _ _ => by rw [plain] at p; cases p
  | _, _, p, .dT _ _ => by rw [plain] at p; cases p
  | _, _, p, .adr _ => by rw [plain] at p; cases p
  | _, _, p, .exc _ _ _ => by rw [plain] at p; cases p
theorem Dvs.dat : ∀ {vs : List V} {ds : List D}, plains ds = true → Dvs K H vs ds → DatVs K H vs (toPs ds)
  | _, _, _, .nil => by rw [toPs]; exact .nil
  | _, _, p, .cons h1 h2 => by
    rw [toPs]
    rw [plains, Bool.and_eq_true] at p
    exact .cons (Dv.dat p.1 h1) (Dvs.dat p.2 h2)
end
end
def eqScal : D → D → Option Bool
  | .non, .non => some true
  | .bl a, .bl b => some (decide (a = b))
  | .int i, .int j => some (decide (i = j))
  | .str x, .str y => some (decide (x = y))
  | .non, .bl _ => some false
  | .non, .int _ => some false
  | .non, .str _ => some false
  | .bl _, .non => some false
  | .bl _, .str _ => some false
  | .int _, .non => some false
  | .int _, .str _ => some false
  | .str _, .non => some false
  | .str _, .bl _ => some false
  | .str _, .int _ => some false
  | _, _ => none
def fEq (neg : Bool) : F2 := fun d e Q => match eqScal d e with
  | some b => Q (.bl (if neg then !b else b))
  | none => plain d = true ∧ plain e = true ∧ SeqAt.shaped (toP d) = true ∧ SeqAt.shaped (toP e) = true ∧ Q (.bl (if neg then !PyData.eqv (toP d) (toP e) else PyData.eqv (toP d) (toP e)))
theorem m_eq {neg : Bool} : MonoF (fEq neg) := by
  intro d e P P' f h
  unfold fEq at h ⊢
  split at h
  · exact f _ h
  · exact ⟨h.1, h.2.1, h.2.2.1, h.2.2.2.1, f _ h.2.2.2.2⟩
theorem does_eq {K : PySem.W.Frag} : Does K (fun x y H Q => rEq x y H Q ∨ rEqD K false x y H Q) (fEq false) := by
  intro H x y d e Q hx hy h
  unfold fEq at h
  split at h
  · rename_i b hb
    left
    have q := h _ H (Same.refl _) (.bl _)
    cases hx <;> cases hy <;> simp only [eqScal, Option.some.injEq, reduceCtorEq] at hb <;> subst hb <;> refine ⟨rfl, ?_⟩ <;> simpa using q
  · obtain ⟨p1, p2, s1, s2, q⟩ := h
    exact .inr ⟨_, _, hx.dat p1, hy.dat p2, s1, s2, q _ H (Same.refl _) (.bl _)⟩
theorem does_ne {K : PySem.W.Frag} : Does K (fun x y H Q => rNe x y H Q ∨ rEqD K true x y H Q) (fEq true) := by
  intro H x y d e Q hx hy h
  unfold fEq at h
  split at h
  · rename_i b hb
    left
    have q := h _ H (Same.refl _) (.bl _)
    cases hx <;> cases hy <;> simp only [eqScal, Option.some.injEq, reduceCtorEq] at hb <;> subst hb <;> refine ⟨rfl, ?_⟩ <;> simpa using q
  · obtain ⟨p1, p2, s1, s2, q⟩ := h
    exact .inr ⟨_, _, hx.dat p1, hy.dat p2, s1, s2, q _ H (Same.refl _) (.bl _)⟩
def fIs (neg : Bool) : F2 := fun d e Q => match e with
  | .non => Q (.bl (match d with | .non => !neg | _ => neg))
  | .bl b => ∃ a, d = .bl a ∧ Q (.bl (if neg then a != b else a == b))
  | _ => False
theorem m_is {neg : Bool} : MonoF (fIs neg) := by
  intro d e P P' f h
  unfold fIs at h ⊢
  split at h
  · exact f _ h
  · obtain ⟨a, ha, q⟩ := h; exact ⟨a, ha, f _ q⟩
  · exact h.elim
theorem does_is {K : PySem.W.Frag} : Does K (fun x y H Q => (y = .non ∧ Q (.bl (decide (x = .non))) H) ∨ ∃ a b, x = .bl a ∧ y = .bl b ∧ Q (.bl (a == b)) H) (fIs false) := by
  intro H x y d e Q hx hy h
  cases hy with
  | non =>
    refine .inl ⟨rfl, ?_⟩
    have q := h _ H (Same.refl _) (.bl _)
    cases hx <;> exact q
  | bl b =>
    obtain ⟨a, rfl, q⟩ := h
    cases hx
    exact .inr ⟨a, b, rfl, rfl, q _ H (Same.refl _) (.bl _)⟩
  | _ => exact h.elim
theorem does_isnot {K : PySem.W.Frag} : Does K (fun x y H Q => (y = .non ∧ Q (.bl (!decide (x = .non))) H) ∨ ∃ a b, x = .bl a ∧ y = .bl b ∧ Q (.bl (a != b)) H) (fIs true) := by
  intro H x y d e Q hx hy h
  cases hy with
  | non =>
    refine .inl ⟨rfl, ?_⟩
    have q := h _ H (Same.refl _) (.bl _)
    cases hx <;> exact q
  | bl b =>
    obtain ⟨a, rfl, q⟩ := h
    cases hx
    exact .inr ⟨a, b, rfl, rfl, q _ H (Same.refl _) (.bl _)⟩
  | _ => exact h.elim
def flatD : D → Bool
  | .non => true
  | .bl _ => true
  | .int _ => true
  | .str _ => true
  | _ => false
def eqFlat : D → D → Bool
  | .non, .non => true
  | .bl a, .bl b => a == b
  | .bl a, .int j => (if a then 1 else 0) == j
  | .int i, .bl b => i == (if b then 1 else 0)
  | .int i, .int j => i == j
  | .str x, .str y => x == y
  | _, _ => false
def inD (x : D) (xs : List D) : Bool := xs.any fun y => eqFlat y x
def subStr (x y : Str) : Bool := !(Builtin.Str.occurrences y x 0 y.length 1).isEmpty
def fIn (neg : Bool) : F2 := fun d e Q => match e with
  | .lst xs => flatD d = true ∧ xs.all flatD = true ∧ Q (.bl (if neg then !inD d xs else inD d xs))
  | .tup xs => flatD d = true ∧ xs.all flatD = true ∧ Q (.bl (if neg then !inD d xs else inD d xs))
  | .str y => ∃ x, d = .str x ∧ Q (.bl (if neg then !subStr x y else subStr x y))
  | _ => False
theorem m_in {neg : Bool} : MonoF (fIn neg) := by
  intro d e P P' f h
  unfold fIn at h ⊢
  split at h
  · exact ⟨h.1, h.2.1, f _ h.2.2⟩
  · exact ⟨h.1, h.2.1, f _ h.2.2⟩
  · obtain ⟨a, ha, q⟩ := h; exact ⟨a, ha, f _ q⟩
  · exact h.elim
section
variable {K : PySem.W.Frag} {H : Hp}
theorem Dv.flat {v : V} {d : D} (h : Dv K H v d) (f : flatD d = true) : flatV v = true := by
  cases h <;> first | rfl | cases f
theorem Dv.eqFlat {v w : V} {d e : D} (h : Dv K H v d) (g : Dv K H w e) (f : flatD d = true) (f' : flatD e = true) : eqV v w = DC.eqFlat d e := by
  cases h <;> cases g <;> first | rfl | cases f | cases f'
theorem Dvs.flat : ∀ {vs : List V} {ds : List D}, Dvs K H vs ds → ds.all flatD = true → vs.all flatV = true
  | _, _, .nil, _ => rfl
  | _, _, .cons h r, f => by
    rw [List.all_cons, Bool.and_eq_true] at f ⊢
    exact ⟨h.flat f.1, Dvs.flat r f.2⟩
theorem Dvs.inV {w : V} {e : D} (g : Dv K H w e) (f' : flatD e = true) : ∀ {vs : List V} {ds : List D}, Dvs K H vs ds → ds.all flatD = true → L2.inV w vs = inD e ds
  | _, _, .nil, _ => rfl
  | _, _, .cons h r, f => by
    rw [List.all_cons, Bool.and_eq_true] at f
    have q := Dvs.inV g f' r f.2
    unfold L2.inV inD at q ⊢
    rw [List.any_cons, List.any_cons, q, h.eqFlat g f.1 f']
end
theorem does_in {K : PySem.W.Frag} : Does K (fun x y H Q => rIn K false x y H Q ∨ ∃ i j, x = .str i ∧ y = .str j ∧ Q (.bl (!(Builtin.Str.occurrences j i 0 j.length 1).isEmpty)) H) (fIn false) := by
  intro H x y d e Q hx hy h
  cases hy with
  | lst g1 g2 => exact .inl ⟨_, _, rfl, .inl g1, hx.flat h.1, g2.flat h.2.1, by rw [Dvs.inV hx h.1 g2 h.2.1]; exact h.2.2 _ H (Same.refl _) (.bl _)⟩
  | tup g1 g2 => exact .inl ⟨_, _, rfl, .inr g1, hx.flat h.1, g2.flat h.2.1, by rw [Dvs.inV hx h.1 g2 h.2.1]; exact h.2.2 _ H (Same.refl _) (.bl _)⟩
  | str j =>
    obtain ⟨i, rfl, q⟩ := h
    cases hx
    exact .inr ⟨i, j, rfl, rfl, q _ H (Same.refl _) (.bl _)⟩
  | _ => exact h.elim
theorem does_notIn {K : PySem.W.Frag} : Does K (fun x y H Q => rIn K true x y H Q ∨ ∃ i j, x = .str i ∧ y = .str j ∧ Q (.bl (!(!(Builtin.Str.occurrences j i 0 j.length 1).isEmpty))) H) (fIn true) := by
  intro H x y d e Q hx hy h
  cases hy with
  | lst g1 g2 => exact .inl ⟨_, _, rfl, .inl g1, hx.flat h.1, g2.flat h.2.1, by rw [Dvs.inV hx h.1 g2 h.2.1]; exact h.2.2 _ H (Same.refl _) (.bl _)⟩
  | tup g1 g2 => exact .inl ⟨_, _, rfl, .inr g1, hx.flat h.1, g2.flat h.2.1, by rw [Dvs.inV hx h.1 g2 h.2.1]; exact h.2.2 _ H (Same.refl _) (.bl _)⟩
  | str j =>
    obtain ⟨i, rfl, q⟩ := h
    cases hx
    exact .inr ⟨i, j, rfl, rfl, q _ H (Same.refl _) (.bl _)⟩
  | _ => exact h.elim
section
variable {X : Cx} {a b c : Expr} {es rest : List Expr} {pos : Pos} {ta tb tc : ED}
def vEq : ED → ED → ED := vOp (fEq false)
def vNe : ED → ED → ED := vOp (fEq true)
def vIs : ED → ED → ED := vOp (fIs false)
def vIsNot : ED → ED → ED := vOp (fIs true)
def vIn : ED → ED → ED := vOp (fIn false)
def vNotIn : ED → ED → ED := vOp (fIn true)
theorem d_eq (hu : X.A.units + 64 < cLine) (ha : PD X a ta) (hb : PD X b tb) : PD X (.Compare a [.Eq] [b] pos) (vEq ta tb) := d_cmp (op_eq.or (op_eqD hu)) does_eq m_eq ha hb (nomark _)
theorem d_is (ha : PD X a ta) (hb : PD X b tb) : PD X (.Compare a [.Is] [b] pos) (vIs ta tb) := d_cmp (op_isN.or op_is_bl) does_is m_is ha hb (nomark _)
theorem d_in (ha : PD X a ta) (hb : PD X b tb) (hm : behindInMarks .In b = false) : PD X (.Compare a [.In] [b] pos) (vIn ta tb) := d_cmp (op_in_seq.or op_in_str) does_in m_in ha hb hm
theorem d_notin (ha : PD X a ta) (hb : PD X b tb) (hm : behindInMarks .NotIn b = false) : PD X (.Compare a [.NotIn] [b] pos) (vNotIn ta tb) := d_cmp (op_notIn_seq.or op_notin_str) does_notIn m_in ha hb hm
end
end DC

set_option maxHeartbeats 4000000
namespace DC
open PySem PySem.Spec PyProof.Rows L2
abbrev MonoT (t : TD) : Prop := ∀ δ (P P' : Bool → Prop), (∀ d, P d → P' d) → t δ P → t δ P'
abbrev MonoA (t : AD) : Prop := ∀ δ (P P' : List D → Prop), (∀ d, P d → P' d) → t δ P → t δ P'
def vTest (t : ED) : TD := fun δ Q => t δ fun d => ∃ b, d = .bl b ∧ Q b
theorem m_test {t : ED} (m : MonoE t) : MonoT (vTest t) := fun δ P P' g h => m _ _ _ (fun d ⟨b, e, q⟩ => ⟨b, e, g b q⟩) h
theorem test_of {K : PySem.W.Frag} {t : ED} (m : MonoE t) {δ : SD} {H : Hp} {Q : Bool → Hp → Prop} (h : vTest t δ (kB H Q)) : t δ (kD K H fun x H' => ∃ k, x = .bl k ∧ Q k H') :=
  m _ _ _ (fun d ⟨b, e, q⟩ v H' s dv => by subst e; cases dv; exact ⟨b, rfl, q H' s⟩) h
section
variable {X : Cx} {a b c e : Expr} {es rest : List Expr} {pos : Pos} {ta tb tc : ED} {ua ub : TD}
theorem PTd.of {t : TE} {v : ED} (h : PT X e (tTest t)) (p : ∀ σ H Q, oE X.K v σ H Q → t σ H Q) (m : MonoE v) : PTd X e (vTest v) :=
  ⟨PT.imp h fun σ H Q ⟨δ, r, q⟩ => p σ H _ ⟨δ, r, test_of m q⟩, m_test m⟩
theorem bin_of {r : R2} {f : F2} (ma : MonoE ta) (mb : MonoE tb) (hd : Does X.K r f) (hf : MonoF f) : (∀ σ H Q, oE X.K (vOp f ta tb) σ H Q → tOp r (oE X.K ta) (oE X.K tb) σ H Q) ∧ MonoE (vOp f ta tb) := by
  refine ⟨fun σ H Q ⟨δ, r, h⟩ => ⟨δ, r, ma _ _ _ (fun d hd' v H1 s1 dv => ⟨δ, r.same s1, mb _ _ _ (fun e he w H2 s2 ew => hd H2 v w d e Q (dv.same s2) ew (hf d e _ _ (fun z hz => hz.on (s1.trans s2)) he)) hd'⟩) h⟩, ?_⟩
  exact fun δ P P' g h => ma _ _ _ (fun d h' => mb _ _ _ (fun e h'' => hf d e _ _ g h'') h') h
theorem t_cmp {op : CmpOp} {r : R2} {f : F2} (ho : OpR X (compareOp op) r) (hd : Does X.K r f) (hf : MonoF f) (ha : PD X a ta) (hb : PD X b tb) (hm : behindInMarks op b = false) : PTd X (.Compare a [op] [b] pos) (vTest (vOp f ta tb)) :=
  let q := bin_of ha.mono hb.mono hd hf
  PTd.of (pt_cmpR ho ha.pe hb.pe hm) q.1 q.2
theorem t_lt (ha : PD X a ta) (hb : PD X b tb) : PTd X (.Compare a [.Lt] [b] pos) (vTest (vLt ta tb)) := t_cmp op_lt (does_I0 fun _ _ _ => .bl _) m_I0 ha hb (nomark _)
theorem t_gt (ha : PD X a ta) (hb : PD X b tb) : PTd X (.Compare a [.Gt] [b] pos) (vTest (vGt ta tb)) := t_cmp op_gt (does_I0 fun _ _ _ => .bl _) m_I0 ha hb (nomark _)
theorem t_eq (hu : X.A.units + 64 < cLine) (ha : PD X a ta) (hb : PD X b tb) : PTd X (.Compare a [.Eq] [b] pos) (vTest (vEq ta tb)) := t_cmp (op_eq.or (op_eqD hu)) does_eq m_eq ha hb (nomark _)
theorem t_ne (hu : X.A.units + 64 < cLine) (ha : PD X a ta) (hb : PD X b tb) : PTd X (.Compare a [.NotEq] [b] pos) (vTest (vNe ta tb)) := t_cmp (op_ne.or (op_neD hu)) does_ne m_eq ha hb (nomark _)
theorem t_isnot (ha : PD X a ta) (hb : PD X b tb) : PTd X (.Compare a [.IsNot] [b] pos) (vTest (vIsNot ta tb)) := t_cmp (op_notN.or op_isnot_bl) does_isnot m_is ha hb (nomark _)
theorem t_in (ha : PD X a ta) (hb : PD X b tb) (hm : behindInMarks .In b = false) : PTd X (.Compare a [.In] [b] pos) (vTest (vIn ta tb)) := t_cmp (op_in_seq.or op_in_str) does_in m_in ha hb hm
def truD : D → Option Bool
  | .non => some false
  | .bl b => some b
  | .int i => some (i != 0)
  | .str y => if y.length ≤ sizeLine then some ((y.length : Int) != 0) else none
  | .lst xs => some (!xs.isEmpty)
  | .tup xs => some (!xs.isEmpty)
  | _ => none
def vTru (t : ED) : TD := fun δ Q => t δ fun d => ∃ b, truD d = some b ∧ Q b
theorem Dvs.isEmpty {K : PySem.W.Frag} {H : Hp} {vs : List V} {ds : List D} (h : Dvs K H vs ds) : vs.isEmpty = ds.isEmpty := by cases h <;> rfl
theorem Dv.tru {K : PySem.W.Frag} {H : Hp} {v : V} {d : D} {b : Bool} (h : Dv K H v d) (e : truD d = some b) : TruV K v H b := by
  cases h with
  | non => cases e; rfl
  | bl x => cases e; rfl
  | int i => cases e; rfl
  | str x =>
    have e' : (if x.length ≤ sizeLine then some ((x.length : Int) != 0) else none) = some b := e
    by_cases hz : x.length ≤ sizeLine
    · rw [if_pos hz] at e'
      exact ⟨hz, (Option.some.inj e').symm⟩
    · rw [if_neg hz] at e'
      cases e'
  | lst h1 h2 => cases e; exact .inl ⟨_, h1, by rw [h2.isEmpty]⟩
  | tup h1 h2 => cases e; exact .inr (.inl ⟨_, h1, by rw [h2.isEmpty]⟩)
  | dK _ _ => cases e
  | exc _ _ _ => cases e
  | obj _ _ => cases e
  | dT _ _ => cases e
  | adr _ => cases e
theorem t_tru (ha : PD X a ta) (he : ∀ whole, isTrue a X.env whole = (do let v ← whole; standAt a.pos; holding [v] (truthy v)) := by intro _; rfl) : PTd X a (vTru ta) :=
  ⟨PT.imp (pt_truth ha.pe he) fun σ H Q ⟨δ, r, h⟩ => ⟨δ, r, ha.mono _ _ _ (fun d ⟨b, e, q⟩ v H1 s1 dv => ⟨b, dv.tru e, q H1 s1⟩) h⟩, fun δ P P' g h => ha.mono _ _ _ (fun d ⟨b, e, q⟩ => ⟨b, e, g b q⟩) h⟩
def uNot (t : TD) : TD := fun δ Q => t δ fun b => Q (!b)
def uAnd (t u : TD) : TD := fun δ Q => t δ fun b => if b = true then u δ Q else Q false
def uOr (t u : TD) : TD := fun δ Q => t δ fun b => if b = true then Q true else u δ Q
theorem t_not (ha : PTd X a ua) : PTd X (.UnaryOp .Not a pos) (uNot ua) :=
  ⟨PT.imp (pt_not ha.pt) fun σ H Q ⟨δ, r, h⟩ => ⟨δ, r, ha.mono _ _ _ (fun b q H' s => q H' s) h⟩, fun δ P P' g h => ha.mono _ _ _ (fun b q => g _ q) h⟩
theorem m_and (ma : MonoT ua) (mb : MonoT ub) : MonoT (uAnd ua ub) := fun δ P P' g h => ma _ _ _ (fun b q => by
  cases b with
  | true => rw [if_pos rfl] at q ⊢; exact mb _ _ _ g q
  | false => rw [if_neg Bool.false_ne_true] at q ⊢; exact g _ q) h
theorem m_or (ma : MonoT ua) (mb : MonoT ub) : MonoT (uOr ua ub) := fun δ P P' g h => ma _ _ _ (fun b q => by
  cases b with
  | true => rw [if_pos rfl] at q ⊢; exact g _ q
  | false => rw [if_neg Bool.false_ne_true] at q ⊢; exact mb _ _ _ g q) h
theorem PWd.td (h : PWd X e ua) : PTd X e ua := ⟨h.pw.pt, h.mono⟩
theorem w_and1 (ha : PTd X a ua) : PWd X (.BoolOp .And [a] pos) ua := ⟨pw_and1 ha.pt, ha.mono⟩
theorem w_or1 (ha : PTd X a ua) : PWd X (.BoolOp .Or [a] pos) ua := ⟨pw_or1 ha.pt, ha.mono⟩
theorem w_and (ha : PTd X a ua) (hb : PWd X (.BoolOp .And (b :: rest) pos) ub) : PWd X (.BoolOp .And (a :: b :: rest) pos) (uAnd ua ub) := by
  refine ⟨PW.imp (pw_and ha.pt hb.pw) fun σ H Q ⟨δ, r, h⟩ => ⟨δ, r, ha.mono _ _ _ (fun b q H' s => ?_) h⟩, m_and ha.mono hb.mono⟩
  cases b with
  | true => rw [if_pos rfl] at q ⊢; exact ⟨δ, r.same s, hb.mono _ _ _ (fun b k => k.on s) q⟩
  | false => rw [if_neg Bool.false_ne_true] at q ⊢; exact q H' s
theorem w_or (ha : PTd X a ua) (hb : PWd X (.BoolOp .Or (b :: rest) pos) ub) : PWd X (.BoolOp .Or (a :: b :: rest) pos) (uOr ua ub) := by
  refine ⟨PW.imp (pw_or ha.pt hb.pw) fun σ H Q ⟨δ, r, h⟩ => ⟨δ, r, ha.mono _ _ _ (fun b q H' s => ?_) h⟩, m_or ha.mono hb.mono⟩
  cases b with
  | true => rw [if_pos rfl] at q ⊢; exact q H' s
  | false => rw [if_neg Bool.false_ne_true] at q ⊢; exact ⟨δ, r.same s, hb.mono _ _ _ (fun b k => k.on s) q⟩
def vAnd (ta tb : ED) : ED := fun δ Q => ta δ fun d => ∃ b, d = .bl b ∧ if b = true then tb δ Q else Q (.bl false)
def vOr (ta tb : ED) : ED := fun δ Q => ta δ fun d => ∃ b, d = .bl b ∧ if b = true then Q (.bl true) else tb δ Q
def vNot (ta : ED) : ED := fun δ Q => ta δ fun d => ∃ b, d = .bl b ∧ Q (.bl (!b))
theorem d_one {op} (h : PD X a ta) : PD X (.BoolOp op [a] pos) ta := ⟨pe_one h.pe, h.mono⟩
theorem d_and (ha : PD X a ta) (hb : PD X (.BoolOp .And (b :: rest) pos) tb) : PD X (.BoolOp .And (a :: b :: rest) pos) (vAnd ta tb) := by
  refine ⟨(pe_and ha.pe hb.pe).imp fun σ H Q ⟨δ, r, h⟩ => ⟨δ, r, ha.mono _ _ _ (fun d ⟨b, e, q⟩ v H1 s1 dv => ?_) h⟩, fun δ P P' g h => ha.mono _ _ _ (fun d ⟨b, e, q⟩ => ⟨b, e, ?_⟩) h⟩
  · subst e
    cases dv
    refine ⟨b, rfl, ?_⟩
    cases b with
    | true => rw [if_pos rfl] at q ⊢; exact ⟨δ, r.same s1, hb.mono _ _ _ (fun b k => k.on s1) q⟩
    | false => rw [if_neg Bool.false_ne_true] at q ⊢; exact q _ H1 s1 (.bl _)
  · cases b with
    | true => rw [if_pos rfl] at q ⊢; exact hb.mono _ _ _ g q
    | false => rw [if_neg Bool.false_ne_true] at q ⊢; exact g _ q
theorem d_or (ha : PD X a ta) (hb : PD X (.BoolOp .Or (b :: rest) pos) tb) : PD X (.BoolOp .Or (a :: b :: rest) pos) (vOr ta tb) := by
  refine ⟨(pe_or ha.pe hb.pe).imp fun σ H Q ⟨δ, r, h⟩ => ⟨δ, r, ha.mono _ _ _ (fun d ⟨b, e, q⟩ v H1 s1 dv => ?_) h⟩, fun δ P P' g h => ha.mono _ _ _ (fun d ⟨b, e, q⟩ => ⟨b, e, ?_⟩) h⟩
  · subst e
    cases dv
    refine ⟨b, rfl, ?_⟩
    cases b with
    | true => rw [if_pos rfl] at q ⊢; exact q _ H1 s1 (.bl _)
    | false => rw [if_neg Bool.false_ne_true] at q ⊢; exact ⟨δ, r.same s1, hb.mono _ _ _ (fun b k => k.on s1) q⟩
  · cases b with
    | true => rw [if_pos rfl] at q ⊢; exact g _ q
    | false => rw [if_neg Bool.false_ne_true] at q ⊢; exact hb.mono _ _ _ g q
theorem d_not (ha : PD X a ta) : PD X (.UnaryOp .Not a pos) (vNot ta) :=
  ⟨(pe_not ha.pe).imp fun σ H Q ⟨δ, r, h⟩ => ⟨δ, r, ha.mono _ _ _ (fun d ⟨b, e, q⟩ v H1 s1 dv => by subst e; cases dv; exact ⟨b, rfl, q _ H1 s1 (.bl _)⟩) h⟩,
   fun δ P P' g h => ha.mono _ _ _ (fun d ⟨b, e, q⟩ => ⟨b, e, g _ q⟩) h⟩
def vIf (u : TD) (ta tb : ED) : ED := fun δ Q => u δ fun b => if b = true then ta δ Q else tb δ Q
theorem d_if (hc : PTd X c ua) (ha : PD X a ta) (hb : PD X b tb) : PD X (.IfExp c a b pos) (vIf ua ta tb) := by
  refine ⟨(pe_ifExp hc.pt ha.pe hb.pe).imp fun σ H Q ⟨δ, r, h⟩ => ⟨δ, r, hc.mono _ _ _ (fun k q H1 s1 => ?_) h⟩, fun δ P P' g h => hc.mono _ _ _ (fun k q => ?_) h⟩
  · cases k with
    | true => rw [if_pos rfl] at q ⊢; exact ⟨δ, r.same s1, ha.mono _ _ _ (fun b k => k.on s1) q⟩
    | false => rw [if_neg Bool.false_ne_true] at q ⊢; exact ⟨δ, r.same s1, hb.mono _ _ _ (fun b k => k.on s1) q⟩
  · cases k with
    | true => rw [if_pos rfl] at q ⊢; exact ha.mono _ _ _ g q
    | false => rw [if_neg Bool.false_ne_true] at q ⊢; exact hb.mono _ _ _ g q
def vChain (f f' : F2) (ta tb tc : ED) : ED := fun δ Q => ta δ fun x => tb δ fun y => f x y fun z => ∃ k, z = .bl k ∧ if k = true then tc δ fun w => f' y w Q else Q (.bl false)
theorem chain_of {r r' : R2} {f f' : F2} (ma : MonoE ta) (mb : MonoE tb) (mc : MonoE tc) (hd : Does X.K r f) (hf : MonoF f) (hd' : Does X.K r' f') (hf' : MonoF f') :
    (∀ σ H Q, oE X.K (vChain f f' ta tb tc) σ H Q → tChain r r' (oE X.K ta) (oE X.K tb) (oE X.K tc) σ H Q) ∧ MonoE (vChain f f' ta tb tc) := by
  refine ⟨fun σ H Q ⟨δ, r, h⟩ => ⟨δ, r, ma _ _ _ (fun d h1 v H1 s1 dv => ⟨δ, r.same s1, mb _ _ _ (fun e h2 w H2 s2 ew => hd H2 v w d e _ (dv.same s2) ew (hf d e _ _ (fun z hz u H3 s3 du => ?_) h2)) h1⟩) h⟩, ?_⟩
  · obtain ⟨k, rfl, q⟩ := hz
    cases du
    refine ⟨k, rfl, ?_⟩
    have s := s1.trans (s2.trans s3)
    cases k with
    | true =>
      rw [if_pos rfl] at q ⊢
      exact ⟨δ, r.same s, mc _ _ _ (fun d h3 u H4 s4 du => hd' H4 w u e d Q (ew.same (s3.trans s4)) du (hf' _ _ _ _ (fun z hz => hz.on (s.trans s4)) h3)) q⟩
    | false =>
      rw [if_neg Bool.false_ne_true] at q ⊢
      exact q _ H3 s (.bl _)
  · intro δ P P' g h
    refine ma _ _ _ (fun d h1 => mb _ _ _ (fun e h2 => hf _ _ _ _ (fun z ⟨k, ez, q⟩ => ⟨k, ez, ?_⟩) h2) h1) h
    cases k with
    | true => rw [if_pos rfl] at q ⊢; exact mc _ _ _ (fun d h3 => hf' _ _ _ _ g h3) q
    | false => rw [if_neg Bool.false_ne_true] at q ⊢; exact g _ q
def fLe : F2 := fI0 fun i j => .bl (decide (i ≤ j))
theorem d_lele (ha : PD X a ta) (hb : PD X b tb) (hc : PD X c tc) (hm : lastMarks [.LtE, .LtE] [b, c] = false := by with_unfolding_all rfl) : PD X (.Compare a [.LtE, .LtE] [b, c] pos) (vChain fLe fLe ta tb tc) :=
  let q := chain_of (X := X) ha.mono hb.mono hc.mono (r := rI0 fun i j => .bl (decide (i ≤ j))) (r' := rI0 fun i j => .bl (decide (i ≤ j))) (f := fLe) (f' := fLe) (does_I0 fun _ _ _ => .bl _) m_I0 (does_I0 fun _ _ _ => .bl _) m_I0
  ⟨(pe_chain op_le op_le ha.pe hb.pe hc.pe hm).imp q.1, q.2⟩
end
end DC

set_option maxHeartbeats 4000000
namespace DC
open PySem PySem.Spec PyProof.Rows L2
section
variable {X : Cx} {a b c e : Expr} {es rest : List Expr} {pos : Pos} {ta tb tc : ED} {ua ub : TD} {t : AD}
def aNil : AD := fun _ Q => Q []
def aCons (ta : ED) (t : AD) : AD := fun δ Q => ta δ fun d => t δ fun ds => Q (d :: ds)
theorem a_nil : PAd X [] aNil := ⟨PA.imp pa_nil fun σ H Q ⟨δ, r, h⟩ => h [] H (Same.refl _) .nil, fun δ P P' g h => g _ h⟩
theorem a_cons (ha : PD X e ta) (hr : PAd X es t) (hs : starEach (e :: es) X.env = (false, eval e X.env) :: starEach es X.env := by rfl) : PAd X (e :: es) (aCons ta t) :=
  ⟨PA.imp (pa_cons ha.pe hr.pa hs) fun σ H Q ⟨δ, r, h⟩ => ⟨δ, r, ha.mono _ _ _ (fun d h1 v H1 s1 dv => ⟨δ, r.same s1, hr.mono _ _ _ (fun ds h2 vs H2 s2 dvs => h2 (v :: vs) H2 (s1.trans s2) (.cons (dv.same s2) dvs)) h1⟩) h⟩,
   fun δ P P' g h => ha.mono _ _ _ (fun d h1 => hr.mono _ _ _ (fun ds h2 => g _ h2) h1) h⟩
def vTup (t : AD) : ED := fun δ Q => t δ fun ds => ds.length ≤ sizeLine ∧ Q (.tup ds)
def vLst (t : AD) : ED := fun δ Q => t δ fun ds => ds.length ≤ sizeLine ∧ Q (.lst ds)
theorem d_tup {x1} (h : PAd X es t) : PD X (.Tuple es x1 pos) (vTup t) :=
  ⟨(pe_tup h.pa).imp fun σ H Q ⟨δ, r, q⟩ => ⟨δ, r, h.mono _ _ _ (fun ds ⟨hl, k⟩ vs H1 s1 dvs => ⟨by rw [dvs.length]; exact hl, fun p hp => k _ _ (s1.trans (same_upd hp)) (.tup (SqT.of upd_same) (dvs.same (same_upd hp)))⟩) q⟩,
   fun δ P P' g q => h.mono _ _ _ (fun ds ⟨hl, k⟩ => ⟨hl, g _ k⟩) q⟩
theorem d_lst (h : PAd X es t) : PD X (.List es pos) (vLst t) :=
  ⟨(pe_lst h.pa).imp fun σ H Q ⟨δ, r, q⟩ => ⟨δ, r, h.mono _ _ _ (fun ds ⟨hl, k⟩ vs H1 s1 dvs => ⟨by rw [dvs.length]; exact hl, fun p hp => k _ _ (s1.trans (same_upd hp)) (.lst (SqL.of upd_same) (dvs.same (same_upd hp)))⟩) q⟩,
   fun δ P P' g q => h.mono _ _ _ (fun ds ⟨hl, k⟩ => ⟨hl, g _ k⟩) q⟩
def constD : Expr → Option D
  | .Constant (.str x) _ _ => some (.str x)
  | .Constant (.int i) _ _ => some (.int i)
  | .Constant (.bool b) _ _ => some (.bl b)
  | .Constant .none _ _ => some .non
  | .UnaryOp .USub (.Constant (.int i) _ _) _ => some (.int (-i))
  | _ => none
def constDs : List Expr → List D
  | [] => []
  | e :: es => (constD e).getD .non :: constDs es
def aVals (ds : List D) : AD := fun _ Q => Q ds
theorem a_ck : ∀ {es : List Expr} (_ : es.all (fun e => (constD e).isSome) = true), PAd X es (aVals (constDs es))
  | [], _ => ⟨a_nil.pa, fun δ P P' g h => g _ h⟩
  | e :: es, h => by
    rw [List.all_cons, Bool.and_eq_true] at h
    have ih := a_ck h.2
    obtain ⟨v, hv⟩ := Option.isSome_iff_exists.mp h.1
    have e1 : constDs (e :: es) = v :: constDs es := by
      show (constD e).getD .non :: constDs es = _
      rw [hv]
      rfl
    rw [e1]
    refine ⟨?_, fun δ P P' g h => g _ h⟩
    have one : PAd X (e :: es) (aCons (vC v) (aVals (constDs es))) := by
      unfold constD at hv
      split at hv
      · cases hv; exact a_cons d_str ih rfl
      · cases hv; exact a_cons d_int ih rfl
      · cases hv; exact a_cons d_bl ih rfl
      · cases hv; exact a_cons d_non ih rfl
      · cases hv
        refine a_cons ⟨(d_neg d_int).pe.imp ?_, fun δ P P' g h => g _ h⟩ ih rfl
        exact fun σ H Q ⟨δ, r, q⟩ => ⟨δ, r, _, rfl, q⟩
      · cases hv
    exact one.pa
def fIx : F2 := fun d e Q => match d, e with
  | .lst xs, .int i => ∃ r, atI xs i = some r ∧ Q r
  | .tup xs, .int i => ∃ r, atI xs i = some r ∧ Q r
  | .str z, .int i => z.length ≤ sizeLine ∧ ∃ c, atI z.cps.toList i = some c ∧ Q (.str ⟨#[c]⟩)
  | _, _ => False
theorem m_ix : MonoF fIx := by
  intro d e P P' f h
  unfold fIx at h ⊢
  split at h
  · obtain ⟨r, hr, q⟩ := h; exact ⟨r, hr, f _ q⟩
  · obtain ⟨r, hr, q⟩ := h; exact ⟨r, hr, f _ q⟩
  · obtain ⟨hz, r, hr, q⟩ := h; exact ⟨hz, r, hr, f _ q⟩
  · exact h.elim
theorem Dvs.atI {K : PySem.W.Frag} {H : Hp} {vs : List V} {ds : List D} {i : Int} {d : D} (h : Dvs K H vs ds) (e : L2.atI ds i = some d) : ∃ v, L2.atI vs i = some v ∧ Dv K H v d := by
  unfold L2.atI at e ⊢
  rw [h.length]
  cases q : ixN ds.length i with
  | none => rw [q] at e; cases e
  | some j =>
    rw [q] at e
    exact h.get e
theorem does_ix {K : PySem.W.Frag} : Does K (rIx K) fIx := by
  intro H x y d e Q hx hy h
  cases hy with
  | int i => cases hx with
    | lst h1 h2 =>
      obtain ⟨r, hr, q⟩ := h
      obtain ⟨v, hv, dv⟩ := h2.atI hr
      exact .inl ⟨_, _, i, v, rfl, rfl, h1, hv, q _ H (Same.refl _) dv⟩
    | tup h1 h2 =>
      obtain ⟨r, hr, q⟩ := h
      obtain ⟨v, hv, dv⟩ := h2.atI hr
      exact .inr (.inl ⟨_, _, i, v, rfl, rfl, h1, hv, q _ H (Same.refl _) dv⟩)
    | str z =>
      obtain ⟨hz, c, hc, q⟩ := h
      exact .inr (.inr ⟨z, i, c, rfl, rfl, hz, hc, q _ H (Same.refl _) (.str _)⟩)
    | _ => exact h.elim
  | _ => cases hx <;> exact h.elim
def vIx : ED → ED → ED := vOp fIx
theorem d_ix (ha : PD X a ta) (hb : PD X b tb) (hs : PlainIx b) : PD X (.Subscript a b pos) (vIx ta tb) := d_bin (t := oE X.K ta) (pe_ix ix_seq ha.pe hb.pe hs) ha.mono hb.mono does_ix m_ix
def cutD (xs : List D) (lo hi : Option Int) : List D := (xs.drop (HT.sIx xs.length 0 lo)).take (HT.sIx xs.length xs.length hi - HT.sIx xs.length 0 lo)
theorem Dvs.cut {K : PySem.W.Frag} {H : Hp} {vs : List V} {ds : List D} (h : Dvs K H vs ds) (lo hi : Option Int) : Dvs K H (cutV vs lo hi) (cutD ds lo hi) := by
  unfold cutV cutD
  rw [h.length]
  exact (h.drop _).take _
def fSl (d : D) (lo hi : Option Int) (Q : D → Prop) : Prop := match d with
  | .lst xs => Q (.lst (cutD xs lo hi))
  | .tup xs => ¬ (HT.sIx xs.length 0 lo = 0 ∧ HT.sIx xs.length xs.length hi = xs.length) ∧ Q (.tup (cutD xs lo hi))
  | .str z => z.length ≤ sizeLine ∧ Q (.str (Txt.slice z lo hi))
  | _ => False
theorem m_sl {d : D} {lo hi : Option Int} {P P' : D → Prop} (f : ∀ r, P r → P' r) (h : fSl d lo hi P) : fSl d lo hi P' := by
  unfold fSl at h ⊢
  split at h
  · exact f _ h
  · exact ⟨h.1, f _ h.2⟩
  · exact ⟨h.1, f _ h.2⟩
  · exact h.elim
theorem sl_U : SlR X (fun x lo hi H Q => rSlL X.K x lo hi H Q ∨ rSlT X.K x lo hi H Q ∨ ∃ z, x = .str z ∧ z.length ≤ sizeLine ∧ Q (.str (Txt.slice z lo hi)) H) := sl_list.or (sl_tup.or sl_str)
abbrev OD := SD → (Option Int → Prop) → Prop
structure POd (X : Cx) (e : Option Expr) (t : OD) : Prop where
  po : PO X e (fun σ H Q => ∃ δ, RelS X.K H σ δ ∧ t δ fun o => ∀ H', Same H H' → Q o H')
  mono : ∀ δ (P P' : Option Int → Prop), (∀ d, P d → P' d) → t δ P → t δ P'
def oNone : OD := fun _ Q => Q none
def oSome (t : ED) : OD := fun δ Q => t δ fun d => ∃ i, d = .int i ∧ Q (some i)
theorem PO.imp {e : Option Expr} {t t' : TO} (h : PO X e t) (f : ∀ σ H Q, t' σ H Q → t σ H Q) : PO X e t' := fun pins s σ H Q I q => h pins s σ H Q I (f σ H Q q)
theorem o_none : POd X none oNone := ⟨PO.imp po_none fun σ H Q ⟨δ, r, h⟩ => h H (Same.refl _), fun δ P P' g h => g _ h⟩
theorem o_some (h : PD X e ta) : POd X (some e) (oSome ta) :=
  ⟨PO.imp (po_some h.pe) fun σ H Q ⟨δ, r, q⟩ => ⟨δ, r, h.mono _ _ _ (fun d ⟨i, ed, k⟩ v H1 s1 dv => by subst ed; cases dv; exact ⟨i, rfl, k H1 s1⟩) q⟩, fun δ P P' g q => h.mono _ _ _ (fun d ⟨i, ed, k⟩ => ⟨i, ed, g _ k⟩) q⟩
def vSl (ta : ED) (tl th : OD) : ED := fun δ Q => ta δ fun d => tl δ fun lo => th δ fun hi => fSl d lo hi Q
theorem d_slice {lo hi : Option Expr} {tl th : OD} {p2 : Pos} (he : PD X e ta) (hl : POd X lo tl) (hh : POd X hi th) : PD X (.Subscript e (.Slice lo hi none p2) pos) (vSl ta tl th) := by
  refine ⟨(pe_slice sl_U he.pe hl.po hh.po).imp fun σ H Q ⟨δ, r, h⟩ => ⟨δ, r, he.mono _ _ _ (fun d h1 v H1 s1 dv => ⟨δ, r.same s1, hl.mono _ _ _ (fun lo h2 H2 s2 => ⟨δ, r.same (s1.trans s2), hh.mono _ _ _ (fun hi h3 H3 s3 => ?_) h2⟩) h1⟩) h⟩,
    fun δ P P' g h => he.mono _ _ _ (fun d h1 => hl.mono _ _ _ (fun lo h2 => hh.mono _ _ _ (fun hi h3 => m_sl g h3) h2) h1) h⟩
  have s := s1.trans (s2.trans s3)
  have dv3 := dv.same (s2.trans s3)
  clear h1 h2 dv
  cases dv3 with
  | lst h1 h2 => exact .inl ⟨_, _, rfl, h1, fun p hp => h3 _ _ (s.trans (same_upd hp)) (.lst (SqL.of upd_same) ((h2.cut lo hi).same (same_upd hp)))⟩
  | tup h1 h2 => exact .inr (.inl ⟨_, _, rfl, h1, by rw [h2.length]; exact h3.1, fun p hp => h3.2 _ _ (s.trans (same_upd hp)) (.tup (SqT.of upd_same) ((h2.cut lo hi).same (same_upd hp)))⟩)
  | str z => exact .inr (.inr ⟨z, rfl, h3.1, h3.2 _ H3 s (.str _)⟩)
  | _ => exact h3.elim
def vFld (K : PySem.W.Frag) (ta : ED) (f : Str) : ED := fun δ Q => ta δ fun d => ∃ C gs r, d = .obj C gs ∧ Cls K C ∧ NoAttr K C f ∧ gs.lookup f = some r ∧ Q r
theorem d_fld {f : Str} (he : PD X e ta) (hb : attributeBase e f X.env (eval e X.env) = eval e X.env) : PD X (.Attribute e f pos) (vFld X.K ta f) :=
  ⟨(pe_fldR he.pe hb).imp fun σ H Q ⟨δ, r, h⟩ => ⟨δ, r, he.mono _ _ _ (fun d ⟨C, gs, r, ed, hc, hn, hl, k⟩ v H1 s1 dv => by
      subst ed
      cases dv with
      | obj h1 h2 =>
        obtain ⟨w, hw, dw⟩ := h2.look hl
        exact ⟨_, _, _, _, w, rfl, h1, hc, hn, hw, k _ H1 s1 dw⟩) h⟩,
   fun δ P P' g h => he.mono _ _ _ (fun d ⟨C, gs, r, ed, hc, hn, hl, k⟩ => ⟨C, gs, r, ed, hc, hn, hl, g _ k⟩) h⟩
abbrev SpD := List D → (D → Prop) → Prop
abbrev MonoS (sd : SpD) : Prop := ∀ ds (P P' : D → Prop), (∀ d, P d → P' d) → sd ds P → sd ds P'
def spOf (K : PySem.W.Frag) (sd : SpD) : Sp := fun vs H Q _ => ∃ ds, Dvs K H vs ds ∧ sd ds (kD K H Q)
def vCall (sd : SpD) (t : AD) : ED := fun δ Q => t δ fun ds => sd ds Q
theorem d_call {k : Nat} {f : Addr} {fd : FuncData} {ps : List Str} {x : Str} {p : Pos} {sd : SpD} (F : FnOk X.prog X.w X.K X.mg X.base CX0 k f fd ps (spOf X.K sd)) (ms : MonoS sd) (hr : Room k X.A) (hg : Gl X x) (hm : X.mg x = some (.ref f))
    (hk : PySem.W.keepIn X.K (.ref f) = true) (hb : Binds X.K fd ps []) (ha : PAd X (e :: es) t) (hdb : (x == ("__debug__" : Str)) = false := by decide)
    (hp : PE X (.Call (.Name x p) (e :: es) [] pos) (tCall (spOf X.K sd) [] E0 (oA X.K t)) := by exact pe_call F hr hg hm hk hb .nil pass0 ha.pa) : PD X (.Call (.Name x p) (e :: es) [] pos) (vCall sd t) :=
  ⟨hp.imp fun σ H Q ⟨δ, r, h⟩ => ⟨δ, r, ha.mono _ _ _ (fun ds h1 vs H1 s1 dvs => ⟨ds, by rw [List.append_nil]; exact dvs, ms _ _ _ (fun d k => k.on s1) h1⟩) h⟩, fun δ P P' g h => ha.mono _ _ _ (fun ds h1 => ms _ _ _ g h1) h⟩
def vB (sd : SpD) (t : AD) : ED := fun δ Q => t δ fun ds => sd ds Q
def DoesB (K : PySem.W.Frag) (r : List V → Hp → VK → Prop) (sd : SpD) : Prop := ∀ H vs ds Q, Dvs K H vs ds → sd ds (kD K H Q) → r vs H Q
theorem d_cb {r : List V → Hp → VK → Prop} {sd : SpD} (hp : PE X e (tCB r (oA X.K t))) (ha : MonoA t) (hd : DoesB X.K r sd) (ms : MonoS sd) : PD X e (vB sd t) :=
  ⟨hp.imp fun σ H Q ⟨δ, r, h⟩ => ⟨δ, r, ha _ _ _ (fun ds h1 vs H1 s1 dvs => hd H1 vs ds Q dvs (ms _ _ _ (fun d k => k.on s1) h1)) h⟩, fun δ P P' g h => ha _ _ _ (fun ds h1 => ms _ _ _ g h1) h⟩
end
end DC

set_option maxHeartbeats 4000000
namespace DC
open PySem PySem.Spec PyProof.Rows L2
structure EndsD where
  nx : SD → Prop
  rt : D → Prop
  bk : SD → Prop := fun _ => False
  ct : SD → Prop := fun _ => False
abbrev TSD := EndsD → SD → Prop
structure EndsD.Le (E E' : EndsD) : Prop where
  nx : ∀ δ, E.nx δ → E'.nx δ
  rt : ∀ d, E.rt d → E'.rt d
  bk : ∀ δ, E.bk δ → E'.bk δ
  ct : ∀ δ, E.ct δ → E'.ct δ
abbrev MonoQ (t : TSD) : Prop := ∀ E E' δ, EndsD.Le E E' → t E δ → t E' δ
def kS (K : PySem.W.Frag) (H : Hp) (Q : L2.St → Hp → Prop) : SD → Prop := fun δ => ∀ σ H', Same H H' → RelS K H' σ δ → Q σ H'
def endsOf (K : PySem.W.Frag) (H : Hp) (D : Ends) : EndsD := ⟨kS K H D.nx, kD K H D.rt, kS K H D.bk, kS K H D.ct⟩
theorem kS.on {K : PySem.W.Frag} {H H1 : Hp} {Q : L2.St → Hp → Prop} {δ : SD} (s : Same H H1) (h : kS K H Q δ) : kS K H1 Q δ := fun σ H' s' r => h σ H' (s.trans s') r
theorem ends_on {K : PySem.W.Frag} {H H1 : Hp} {D : Ends} (s : Same H H1) : EndsD.Le (endsOf K H D) (endsOf K H1 D) := ⟨fun _ h => h.on s, fun _ h => h.on s, fun _ h => h.on s, fun _ h => h.on s⟩
def oS (K : PySem.W.Frag) (t : TSD) : TS := fun D σ H => ∃ δ, RelS K H σ δ ∧ t (endsOf K H D) δ
structure PSd (X : Cx) (st : Stmt) (t : TSD) : Prop where
  ps : PS X st (oS X.K t)
  mono : MonoQ t
structure PSsd (X : Cx) (st : List Stmt) (t : TSD) : Prop where
  ps : PSs X st (oS X.K t)
  mono : MonoQ t
section
variable {X : Cx} {st : Stmt} {rest body els : List Stmt} {t u : TSD} {e c : Expr} {te : ED} {uc : TD} {pos : Pos}
theorem PS.imp {t t' : TS} (h : PS X st t) (f : ∀ D σ H, t' D σ H → t D σ H) : PS X st t' := fun pins s σ H D I q => h pins s σ H D I (f D σ H q)
theorem PSs.imp {t t' : TS} (h : PSs X rest t) (f : ∀ D σ H, t' D σ H → t D σ H) : PSs X rest t' := fun pins s σ H D I q => h pins s σ H D I (f D σ H q)
def qNext : TSD := fun E δ => E.nx δ
def qSeq (t u : TSD) : TSD := fun E δ => t { E with nx := u E } δ
theorem ss_nil : PSsd X [] qNext := ⟨PSs.imp pss_nil fun D σ H ⟨δ, r, h⟩ => h σ H (Same.refl _) r, fun E E' δ l h => l.nx _ h⟩
theorem ss_cons (h1 : PSd X st t) (h2 : PSsd X rest u) : PSsd X (st :: rest) (qSeq t u) :=
  ⟨PSs.imp (pss_cons h1.ps h2.ps) fun D σ H ⟨δ, r, h⟩ => ⟨δ, r, h1.mono { endsOf X.K H D with nx := u (endsOf X.K H D) } _ _ ⟨fun δ' q σ' H' s' r' => ⟨δ', r', h2.mono _ _ _ (ends_on s') q⟩, fun _ q => q, fun _ q => q, fun _ q => q⟩ h⟩,
   fun E E' δ l h => h1.mono { E with nx := u E } _ _ ⟨fun δ' q => h2.mono _ _ _ l q, l.rt, l.bk, l.ct⟩ h⟩
theorem ss_one (h1 : PSd X st t) : PSsd X [st] t := ⟨pss_one h1.ps, h1.mono⟩
def qRet (te : ED) : TSD := fun E δ => te δ E.rt
theorem s_ret (he : PD X e te) : PSd X (.Return (some e) pos) (qRet te) := ⟨PS.imp (ps_ret he.pe) fun D σ H ⟨δ, r, h⟩ => ⟨δ, r, h⟩, fun E E' δ l h => he.mono _ _ _ l.rt h⟩
def qDrop (te : ED) : TSD := fun E δ => te δ fun _ => E.nx δ
theorem s_expr (he : PD X e te) (hs : swapsWith e none pos.line X.env = pure false := by rfl) : PSd X (.Expr e pos) (qDrop te) :=
  ⟨PS.imp (ps_expr he.pe hs) fun D σ H ⟨δ, r, h⟩ => ⟨δ, r, he.mono _ _ _ (fun d q v H1 s1 dv => q σ H1 s1 (r.same s1)) h⟩, fun E E' δ l h => he.mono _ _ _ (fun d q => l.nx _ q) h⟩
def qSet (i : Nat) (te : ED) : TSD := fun E δ => te δ fun d => E.nx (δ.set i (some d))
theorem s_set {i : Nat} {x : Str} {pos' : Pos} (hN : X.N.Nodup) (hi : X.N[i]? = some x) (hx : Loc X.env.scope x) (he : PD X e te) (hs : swapsWith e (some (.Name x pos')) pos.line X.env = pure false := by rfl)
    (hf : X.fn x = true ∨ X.env.scope.names.lookup x = some .local := by first | exact .inl rfl | exact .inr rfl | assumption) : PSd X (.Assign [.Name x pos'] e pos) (qSet i te) :=
  ⟨PS.imp (ps_set hN hi hx he.pe hs hf) fun D σ H ⟨δ, r, h⟩ => ⟨δ, r, he.mono _ _ _ (fun d q v H1 s1 dv => q _ H1 s1 ((r.same s1).set i dv)) h⟩, fun E E' δ l h => he.mono _ _ _ (fun d q => l.nx _ q) h⟩
def qIf (uc : TD) (t u : TSD) : TSD := fun E δ => uc δ fun b => if b = true then t E δ else u E δ
theorem s_if (hc : PTd X c uc) (ha : PSsd X body t) (hb : PSsd X els u) : PSd X (.If c body els pos) (qIf uc t u) := by
  refine ⟨PS.imp (ps_if hc.pt ha.ps hb.ps) fun D σ H ⟨δ, r, h⟩ => ⟨δ, r, hc.mono _ _ _ (fun k q H1 s1 => ?_) h⟩, fun E E' δ l h => hc.mono _ _ _ (fun k q => ?_) h⟩
  · cases k with
    | true => rw [if_pos rfl] at q ⊢; exact ⟨δ, r.same s1, ha.mono _ _ _ (ends_on s1) q⟩
    | false => rw [if_neg Bool.false_ne_true] at q ⊢; exact ⟨δ, r.same s1, hb.mono _ _ _ (ends_on s1) q⟩
  · cases k with
    | true => rw [if_pos rfl] at q ⊢; exact ha.mono _ _ _ l q
    | false => rw [if_neg Bool.false_ne_true] at q ⊢; exact hb.mono _ _ _ l q
end
def startD (N : List Str) (ds : List D) : SD := ds.map some ++ List.replicate (N.length - ds.length) none
theorem start_rel {K : PySem.W.Frag} {H : Hp} {N : List Str} {vs : List V} {ds : List D} (h : Dvs K H vs ds) : RelS K H (L2.start N vs) (startD N ds) := by
  unfold L2.start startD
  have hl := h.length
  refine ⟨by rw [List.length_append, List.length_append, List.length_map, List.length_map, List.length_replicate, List.length_replicate, hl], fun i d e => ?_⟩
  by_cases hi : i < ds.length
  · rw [List.getElem?_append_left (by rw [List.length_map]; exact hi), List.getElem?_map] at e
    cases q : ds[i]? with
    | none => rw [q] at e; cases e
    | some d' =>
      rw [q] at e
      cases e
      obtain ⟨v, hv, dv⟩ := h.get q
      exact ⟨v, by rw [List.getElem?_append_left (by rw [List.length_map]; omega), List.getElem?_map, hv]; rfl, dv⟩
  · rw [List.getElem?_append_right (by rw [List.length_map]; omega), List.getElem?_replicate] at e
    split at e <;> cases e
section
variable {P : Program} {w : World} {K : PySem.W.Frag} {mg : Str → Option Value} {base : Heap}
abbrev Bx (P : Program) (w : World) (K : PySem.W.Frag) (mg : Str → Option Value) (base : Heap) (N : List Str) (qual : Str) (st : Stmt) (f : Addr) (cdv : Value) (A : Around) (outer : List Env) (s : Shared) (H : Hp) (E : XK) : Cx := (cxOf CX0 P w K mg base N qual (defScope st) f cdv A outer s H E).nox
theorem okD {x qual : Str} {st : Stmt} {f : Addr} {fd : FuncData} {N ps : List Str} {k : Nat} {sd : SpD} {t : TSD} (F : Fun K x qual st f fd) (S : FnScope N ps (defScope st)) (len : ∀ ds Q, sd ds Q → ds.length = ps.length)
    (hb : ∀ (cdv : Value) (A : Around) (outer : List Env) (s : Shared) (H : Hp) (E : XK), Room k (A.deeper (envOfC qual (defScope st) s.heap.objs.size f cdv)) → PSsd (Bx P w K mg base N qual st f cdv A outer s H E) (defBody st) t)
    (hr : ∀ ds Q, sd ds Q → t { nx := fun _ => Q .non, rt := Q } (startD N ds)) : FnOk P w K mg base CX0 (k + 1) f fd ps (spOf K sd) := by
  refine F.ok S (fun vs H Q E ⟨ds, dvs, h⟩ => by rw [dvs.length]; exact len ds _ h) (fun cdv A outer s H vs Q E hroom ⟨ds, dvs, h⟩ => ?_)
  have B := hb cdv A outer s H E hroom
  refine ⟨_, B.ps, startD N ds, start_rel dvs, ?_⟩
  refine B.mono { nx := fun _ => kD K H Q .non, rt := kD K H Q } _ _ ⟨fun δ q σ H' s' r => q _ H' s' .non, fun d q => q, fun _ q => q.elim, fun _ q => q.elim⟩ (hr ds _ h)
end
end DC

set_option maxHeartbeats 4000000
namespace DC
open PySem PySem.Spec PyProof.Rows L2
structure ItD (K : PySem.W.Frag) (J : It) (H1 : Hp) (ds : List D) : Prop where
  go : ∀ i H', Same H1 H' → i < ds.length → J.go i H'
  stop : ∀ H', Same H1 H' → J.stop ds.length H'
  yld : ∀ i H' x H'', Same H1 H' → i < ds.length → J.yld i H' x H'' → Same H' H'' ∧ ∃ d, ds[i]? = some d ∧ ∃ Hx, Same H1 Hx ∧ Dv K Hx x d ∧ (∀ a o, Hx a = some o → H1 a = some o ∨ H' a = none) ∧ Same Hx H''
structure PId (X : Cx) (tg iter : Expr) (ti : AD) : Prop where
  pi : PI X tg iter (fun σ H R => ∃ δ, RelS X.K H σ δ ∧ ti δ fun ds => ∀ J H1, Same H H1 → ItD X.K J H1 ds → R J H1)
  mono : MonoA ti
def itemsD : D → Option (List D)
  | .lst xs => some xs
  | .tup xs => some xs
  | .str y => some (y.cps.toList.map fun c => .str ⟨#[c]⟩)
  | _ => none
def aItems (te : ED) : AD := fun δ Q => te δ fun d => ∃ ds, itemsD d = some ds ∧ Q ds
section
variable {X : Cx} {tg : Expr} {l : Expr} {te : ED}
theorem PI.imp {wi wi' : TI} (h : PI X tg l wi) (f : ∀ σ H R, wi' σ H R → wi σ H R) : PI X tg l wi' := fun pins s σ H R I q => h pins s σ H R I (f σ H R q)
theorem pi_any {tl : TE} (hl : PE X l tl) : PI X tg l (fun σ H R => tl σ H fun x H1 => (∃ a, x = .ref a ∧ (∃ xs, SqL X.K H1 a xs) ∧ R (Itl X.K a) H1) ∨ (∃ a, x = .ref a ∧ (∃ xs, SqT X.K H1 a xs) ∧ R (Itt X.K a) H1) ∨ ∃ y, x = .str y ∧ R (Its y) H1) := by
  intro pins s σ H R I h
  refine thn (hl pins s σ H _ I h) fun v s1 ⟨x, H1, I1, r1, q1⟩ => ?_
  have hf : ∀ b ∈ [s1.heap.objs.size], FpOk X pins H1 b := fun b hb => by
    have e : b = s1.heap.objs.size := by simpa using hb
    subst e
    exact I1.fpOk (Nat.le_refl _) (I1.hok.fresh (Nat.le_refl _))
  rcases q1 with ⟨a, e, ⟨xs, hq⟩, q⟩ | ⟨a, e, ⟨xs, hq⟩, q⟩ | ⟨y, e, q⟩
  · subst e
    cases (show v = Value.ref a from r1)
    obtain ⟨its, rv, p, hz⟩ := I1.list hq
    exact wpAny_pyIter_list p.isList ⟨s1.heap.objs.size, [s1.heap.objs.size], _, _, H1, rfl, I1.kept (t' := s1.toks) fun b o e => Heap.get?_push_of_some _ e, turn_list a _, ⟨_, Heap.get?_push_size _ rfl, rfl, rfl⟩, hf, q⟩
  · subst e
    cases (show v = Value.ref a from r1)
    obtain ⟨its, rv, p, hz⟩ := I1.tuple hq
    exact wpAny_pyIter_tuple (show s1.heap.IsTuple a its.toArray from p) ⟨s1.heap.objs.size, [s1.heap.objs.size], _, _, H1, rfl, I1.kept (t' := s1.toks) fun b o e => Heap.get?_push_of_some _ e, turn_tuple a _, ⟨_, Heap.get?_push_size _ rfl, rfl, rfl⟩, hf, q⟩
  · subst e
    obtain ⟨t, rfl⟩ := r1
    cases ha : y.cps.all (· < 128)
    · exact wpAny_pyIter_wide ha ⟨s1.heap.objs.size, [s1.heap.objs.size], _, _, H1, rfl, I1.kept (t' := s1.toks) fun b o e => Heap.get?_push_of_some _ e, turn_strW y t _, ⟨_, Heap.get?_push_size _ rfl, rfl, rfl⟩, hf, q⟩
    · exact wpAny_pyIter_ascii ha ⟨s1.heap.objs.size, [s1.heap.objs.size], _, _, H1, rfl, I1.kept (t' := s1.toks) fun b o e => Heap.get?_push_of_some _ e, turn_strA y t _, ⟨_, Heap.get?_push_size _ rfl, rfl, rfl⟩, hf, q⟩
theorem i_any (he : PD X l te) : PId X tg l (aItems te) := by
  refine ⟨PI.imp (pi_any he.pe) fun σ H R ⟨δ, r, h⟩ => ⟨δ, r, he.mono _ _ _ (fun d ⟨ds, e, q⟩ v H1 s1 dv => ?_) h⟩, fun δ P P' g h => he.mono _ _ _ (fun d ⟨ds, e, q⟩ => ⟨ds, e, g _ q⟩) h⟩
  cases dv with
  | lst h1 h2 =>
    cases e
    refine .inl ⟨_, rfl, ⟨_, h1⟩, q _ H1 s1 ⟨fun i H' s' hi => ?_, fun H' s' => ⟨_, s'.seq h1, by rw [h2.length]; exact Nat.le_refl _⟩, fun i H' x H'' s' hi y => ?_⟩⟩
    · obtain ⟨v, hv, _⟩ := h2.get (List.getElem?_eq_getElem hi)
      exact ⟨_, v, s'.seq h1, hv⟩
    · obtain ⟨rfl, y2⟩ := y
      obtain ⟨d, hd, dv⟩ := h2.getV (y2 _ (s'.seq h1))
      exact ⟨Same.refl _, d, hd, H1, Same.refl _, dv, fun _ _ z => .inl z, s'⟩
  | tup h1 h2 =>
    cases e
    refine .inr (.inl ⟨_, rfl, ⟨_, h1⟩, q _ H1 s1 ⟨fun i H' s' hi => ?_, fun H' s' => ⟨_, sameT s' h1, by rw [h2.length]; exact Nat.le_refl _⟩, fun i H' x H'' s' hi y => ?_⟩⟩)
    · obtain ⟨v, hv, _⟩ := h2.get (List.getElem?_eq_getElem hi)
      exact ⟨_, v, sameT s' h1, hv⟩
    · obtain ⟨rfl, y2⟩ := y
      obtain ⟨d, hd, dv⟩ := h2.getV (y2 _ (sameT s' h1))
      exact ⟨Same.refl _, d, hd, H1, Same.refl _, dv, fun _ _ z => .inl z, s'⟩
  | str y =>
    cases e
    refine .inr (.inr ⟨_, rfl, q _ H1 s1 ⟨fun i H' s' hi => ?_, fun H' s' => ?_, fun i H' x H'' s' hi y => ?_⟩⟩)
    · have hi' : i < y.cps.size := by simpa using hi
      exact hi'
    · show y.cps.size ≤ _
      simp
    · obtain ⟨rfl, c, hc, rfl⟩ := y
      refine ⟨Same.refl _, .str ⟨#[c]⟩, ?_, H1, Same.refl _, .str _, fun _ _ z => .inl z, s'⟩
      rw [List.getElem?_map, Array.getElem?_toList, hc]
      rfl
  | _ => cases e
def aRange1 (t : AD) : AD := fun δ Q => t δ fun ds => ∃ n : Int, ds = [.int n] ∧ -(2 ^ 62) ≤ n ∧ n < 2 ^ 62 ∧ Q ((List.range n.toNat).map fun i : Nat => .int (0 + (i : Int)))
theorem it_range {K : PySem.W.Frag} {H : Hp} (lo : Int) (n : Nat) : ItD K (Itr lo n) H ((List.range n).map fun i : Nat => .int (lo + (i : Int))) := by
  refine ⟨fun i H' s' hi => ?_, fun H' s' => ?_, fun i H' x H'' s' hi y => ?_⟩
  · have hi' : i < n := by simpa using hi
    exact hi'
  · show n ≤ _
    simp
  · obtain ⟨rfl, rfl⟩ := y
    have hi' : i < n := by simpa using hi
    exact ⟨Same.refl _, .int (lo + i), by rw [List.getElem?_map, List.getElem?_range hi']; rfl, H, Same.refl _, .int _, fun _ _ z => .inl z, s'⟩
theorem i_range1 {a : Expr} {ta : AD} {p pos : Pos} (hg : Gl X "range") (hm : X.mg "range" = none) (ha : PAd X [a] ta) (hs : starEach [a] X.env = [(false, eval a X.env)] := by rfl) : PId X tg (.Call (.Name "range" p) [a] [] pos) (aRange1 ta) := by
  refine ⟨PI.imp (pi_range1 hg hm ha.pa hs) fun σ H R ⟨δ, r, h⟩ => ⟨δ, r, ha.mono _ _ _ (fun ds ⟨n, e, h1, h2, q⟩ vs H1 s1 dvs => ?_) h⟩, fun δ P P' g h => ha.mono _ _ _ (fun ds ⟨n, e, h1, h2, q⟩ => ⟨n, e, h1, h2, g _ q⟩) h⟩
  subst e
  cases dvs with
  | cons a b =>
    cases a
    cases b
    exact ⟨n, rfl, h1, h2, q _ H1 s1 (it_range 0 n.toNat)⟩
end
abbrev TGD := D → SD → (SD → Prop) → Prop
structure PGd (X : Cx) (tg : Expr) (g : TGD) : Prop where
  pg : PG X tg (fun v σ H Q => ∃ d δ, Dv X.K H v d ∧ RelS X.K H σ δ ∧ g d δ (kS X.K H Q))
  mono : ∀ d δ (P P' : SD → Prop), (∀ δ, P δ → P' δ) → g d δ P → g d δ P'
def hName (i : Nat) : TGD := fun d δ Q => Q (δ.set i (some d))
section
variable {X : Cx} {tg iter : Expr} {body : List Stmt} {ti : AD} {g : TGD} {tb : TSD} {pos : Pos}
theorem PG.imp {t t' : TG} (h : PG X tg t) (f : ∀ v σ H Q, t' v σ H Q → t v σ H Q) : PG X tg t' := fun pins s σ H v u Q I r q => h pins s σ H v u Q I r (f v σ H Q q)
theorem g_name {i : Nat} {x : Str} (hN : X.N.Nodup) (hi : X.N[i]? = some x) (hx : Loc X.env.scope x) (hf : X.fn x = true ∨ X.env.scope.names.lookup x = some .local := by first | exact .inl rfl | exact .inr rfl | assumption) : PGd X (.Name x pos) (hName i) :=
  ⟨PG.imp (pg_name hN hi hx hf) fun v σ H Q ⟨d, δ, dv, r, q⟩ => q _ H (Same.refl _) (r.set i dv), fun d δ P P' f q => f _ q⟩
def qFor (ti : AD) (g : TGD) (tb : TSD) : TSD := fun E δ => ti δ fun ds => ∃ inv : Nat → SD → Prop, inv 0 δ ∧
  (∀ i d δ', ds[i]? = some d → inv i δ' → g d δ' fun δ2 => tb { E with nx := inv (i + 1), ct := inv (i + 1), bk := E.nx } δ2) ∧ ∀ δ', inv ds.length δ' → E.nx δ'
theorem s_for (hp : PassesOwn (model X.prog X.w) X.A X.env X.xe) (hc : X.calm = true) (hi : PId X tg iter ti) (hg : PGd X tg g) (hb : PSsd X body tb) (hs : ∀ x, foldedSetIterable iter X.env x = pure x := by intro _; rfl) :
    PSd X (.For tg iter body [] pos) (qFor ti g tb) := by
  refine ⟨PS.imp (ps_for hp hc hi.pi hg.pg hb.ps hs) fun D σ H ⟨δ, r, h⟩ => ⟨δ, r, hi.mono _ _ _ (fun ds ⟨inv, i0, step, fin⟩ J H1 s1 it => ?_) h⟩, fun E E' δ l h => hi.mono _ _ _ (fun ds ⟨inv, i0, step, fin⟩ => ⟨inv, i0, fun i d δ' hd hin => hg.mono _ _ _ _ (fun δ2 q => hb.mono { E with nx := inv (i + 1), ct := inv (i + 1), bk := E.nx } _ _ ⟨fun _ q => q, l.rt, l.nx, fun _ q => q⟩ q) (step i d δ' hd hin), fun δ' q => l.nx _ (fin δ' q)⟩) h⟩
  refine ⟨fun i m σ' H' => m = ds.length - i ∧ i ≤ ds.length ∧ Same H1 H' ∧ ∃ δ', RelS X.K H' σ' δ' ∧ inv i δ', ⟨ds.length, rfl, Nat.zero_le _, Same.refl _, δ, r.same s1, i0⟩, ?_⟩
  rintro i m σ' H' ⟨rfl, hle, s', δ', r', hin⟩
  by_cases hlt : i < ds.length
  · refine .inr ⟨it.go i H' s' hlt, fun σ2 H2 => Same H1 H2 ∧ ∃ δ2, RelS X.K H2 σ2 δ2 ∧ inv (i + 1) δ2, fun σ2 H2 ⟨s2, δ2, r2, h2⟩ => ⟨ds.length - (i + 1), by omega, rfl, hlt, s2, δ2, r2, h2⟩, fun x H'' y => ?_⟩
    obtain ⟨s2, d, hd, Hx, _, dvx, _, sx⟩ := it.yld i H' x H'' s' hlt y
    have dv := dvx.same sx
    have sA := s'.trans s2
    refine ⟨d, δ', dv, r'.same s2, hg.mono _ _ _ _ (fun δ2 q σ3 H3 s3 r3 => ⟨δ2, r3, hb.mono { endsOf X.K H D with nx := inv (i + 1), ct := inv (i + 1), bk := (endsOf X.K H D).nx } _ _ ?_ q⟩) (step i d δ' hd hin)⟩
    have sB := s1.trans (sA.trans s3)
    exact ⟨fun δ3 q3 σ4 H4 s4 r4 => ⟨sA.trans (s3.trans s4), δ3, r4, q3⟩, fun _ q3 => q3.on sB, fun _ q3 => q3.on sB, fun δ3 q3 σ4 H4 s4 r4 => ⟨sA.trans (s3.trans s4), δ3, r4, q3⟩⟩
  · have e : i = ds.length := by omega
    subst e
    exact .inl ⟨it.stop H' s', fin δ' hin σ' H' (s1.trans s') r'⟩
end
end DC

set_option maxHeartbeats 4000000
namespace DC
open PySem PySem.Spec PyProof.Rows L2
structure PTsd (X : Cx) (ifs : List Expr) (t : TD) : Prop where
  pts : PTs X ifs (oT X.K t)
  mono : MonoT t
def uYes : TD := fun _ Q => Q true
section
variable {X : Cx} {c : Expr} {ut : TD}
theorem PTs.imp {ifs : List Expr} {t t' : TT} (h : PTs X ifs t) (f : ∀ σ H Q, t' σ H Q → t σ H Q) : PTs X ifs t' := fun pins s σ H Q I q => h pins s σ H Q I (f σ H Q q)
theorem ts_nil : PTsd X [] uYes := ⟨PTs.imp pts_nil fun σ H Q ⟨δ, r, h⟩ => h H (Same.refl _), fun δ P P' g h => g _ h⟩
end
def capD (caps : List Nat) (δ : SD) : SD := caps.map fun j => (δ[j]?).getD none
def vComp (caps : List Nat) (ti : AD) (tt : TD) (te : ED) : ED := fun δ Q => ti δ fun ds => ∃ outs : List (Option D), outs.length = ds.length ∧
  (∀ (i : Nat) (d : D) (o : Option D), ds[i]? = some d → outs[i]? = some o → tt (some d :: capD caps δ) fun b => b = o.isSome ∧ (b = true → te (some d :: capD caps δ) fun y => o = some y)) ∧ ds.length < sizeLine ∧ Q (.lst (outs.filterMap id))
theorem cap_rel {K : PySem.W.Frag} {H : Hp} {σ : L2.St} {δ : SD} (r : RelS K H σ δ) {x : V} {d : D} (dv : Dv K H x d) (caps : List Nat) : RelS K H (some x :: caps.map fun j => (σ[j]?).getD none) (some d :: capD caps δ) := by
  refine ⟨by unfold capD; simp, fun i e h => ?_⟩
  cases i with
  | zero => simp at h; subst h; exact ⟨x, rfl, dv⟩
  | succ i =>
    unfold capD at h
    simp only [List.getElem?_cons_succ, List.getElem?_map] at h ⊢
    cases q : caps[i]? with
    | none => rw [q] at h; cases h
    | some j =>
      rw [q] at h
      have h' : (δ[j]?).getD none = some e := by simpa using h
      have h2 : δ[j]? = some (some e) := by
        cases z : δ[j]? with
        | none => rw [z] at h'; cases h'
        | some o => rw [z] at h'; exact congrArg some h'
      obtain ⟨v, hv, dv⟩ := r.get j e h2
      exact ⟨v, by simp [hv], dv⟩
theorem comp_imp {K : PySem.W.Frag} {caps : List Nat} {ti : AD} {tt : TD} {te : ED} (mi : MonoA ti) (mt : MonoT tt) (me : MonoE te) {σ : L2.St} {H : Hp} {Q : VK} (h : oE K (vComp caps ti tt te) σ H Q) :
    rComp 1 caps (fun σ H R => ∃ δ, RelS K H σ δ ∧ ti δ fun ds => ∀ J H1, Same H H1 → ItD K J H1 ds → R J H1) (gName 0) (uFrame (oT K tt)) (tFrame (oE K te)) σ H Q := by
  obtain ⟨δ, r, h⟩ := h
  refine ⟨δ, r, mi _ _ _ (fun ds ⟨outs, hol, each, hlen, q⟩ J H1 s1 it D hD => ?_) h⟩
  refine ⟨fun i m ys H' => m = ds.length - i ∧ i ≤ ds.length ∧ ∃ H0, H0 D = none ∧ Same H1 H0 ∧ Dvs K H0 ys ((outs.take i).filterMap id) ∧ H' = upd H0 D (.lst ys), ⟨ds.length, rfl, Nat.zero_le _, H1, hD, Same.refl _, .nil, rfl⟩, ?_⟩
  rintro i m ys H' ⟨rfl, hle, H0, h0, s0, dys, rfl⟩
  refine ⟨upd_same, ?_⟩
  have sU : Same H1 (upd H0 D (.lst ys)) := s0.trans (same_upd h0)
  by_cases hlt : i < ds.length
  · refine .inr ⟨it.go i _ sU hlt, fun x H'' y => ?_⟩
    obtain ⟨s2, d, hd, Hx, sx1, dvx, only, sx⟩ := it.yld i _ x H'' sU hlt y
    have hD2 : H'' D = some (.lst ys) := s2 _ _ upd_same
    have ne1 : ∀ a o, H1 a = some o → a ≠ D := fun a o z => ne_of_none z hD
    have nex : ∀ a o, Hx a = some o → a ≠ D := fun a o z w => by
      rcases only a o z with z1 | z1
      · exact ne1 a o z1 w
      · rw [w, upd_same] at z1; cases z1
    have sd1 : Same H0 (del H'' D) := fun a o z => by
      rw [del_ne (ne_of_none z h0)]
      exact s2 a o (same_upd h0 a o z)
    have sdx : Same Hx (del H'' D) := fun a o z => by
      rw [del_ne (nex a o z)]
      exact sx a o z
    obtain ⟨o, ho⟩ : ∃ o, outs[i]? = some o := ⟨_, List.getElem?_eq_getElem (show i < outs.length by omega)⟩
    have rel : RelS K (del H'' D) (some x :: caps.map fun j => (σ[j]?).getD none) (some d :: capD caps δ) := cap_rel (r.same (s1.trans (s0.trans sd1))) (dvx.same sdx) caps
    refine ⟨Le.one, D, ys, hD2, _, rel, mt _ _ _ (fun b ⟨eb, hb⟩ H3 s3 h3 => ?_) (each i d o hd ho)⟩
    have ht : outs.take (i + 1) = outs.take i ++ [o] := by rw [List.take_succ, ho]; rfl
    have s03 : Same H0 H3 := sd1.trans s3
    cases b with
    | false =>
      refine iteF ?_
      refine ⟨ds.length - (i + 1), by omega, rfl, hlt, H3, h3, s0.trans s03, ?_, rfl⟩
      have on : o = none := by cases o with | none => rfl | some z => cases eb
      rw [ht, on, List.filterMap_append]
      simpa using dys.same s03
    | true =>
      refine iteT ?_
      refine ⟨D, ys, upd_same, ?_⟩
      rw [del_upd h3]
      refine ⟨_, rel.same s3, me _ _ _ (fun y ey v H4 s4 dv h4 => ⟨upd_same, ?_, ds.length - (i + 1), by omega, rfl, hlt, H4, h4, s0.trans (s03.trans s4), ?_, upd_upd⟩) (hb rfl)⟩
      · rw [dys.length]
        exact Nat.lt_of_le_of_lt (Nat.le_trans (List.length_filterMap_le _ _) (List.length_take_le' _ _)) (by rw [hol]; exact hlen)
      · rw [ht, ey, List.filterMap_append]
        exact (dys.same (s03.trans s4)).append (.cons dv .nil)
  · have e : i = ds.length := by omega
    subst e
    refine .inl ⟨it.stop _ sU, ?_⟩
    rw [← hol, List.take_length] at dys
    exact q _ _ (s1.trans sU) (.lst (SqL.of upd_same) (dys.same (same_upd h0)))
section
variable {X : Cx} {scope : Scope} {cl : List (Str × Addr)} {x : Str} {cn : List Str} {caps : List Nat} {elt tg iter : Expr} {ifs : List Expr} {ti : AD} {tt : TD} {te : ED} {pos : Pos}
theorem m_comp (mi : MonoA ti) : MonoE (vComp caps ti tt te) := fun δ P P' g h => mi _ _ _ (fun ds ⟨outs, hol, each, hlen, q⟩ => ⟨outs, hol, each, hlen, g _ q⟩) h
theorem d_comp (S : CompScope X scope cl [x] caps cn) (hc : X.calm = true) (hi : PId X tg iter ti) (hg : ∀ C fp s₂ H₂, PG (cxComp X scope cl C ([x] ++ cn) fp s₂ H₂) tg (gName 0)) (ht : ∀ C fp s₂ H₂, PTsd (cxComp X scope cl C ([x] ++ cn) fp s₂ H₂) ifs tt)
    (he : ∀ C fp s₂ H₂, PD (cxComp X scope cl C ([x] ++ cn) fp s₂ H₂) elt te) (mt : MonoT tt) (me : MonoE te) (hs : ∀ x, foldedSetIterable iter X.env x = pure x := by intro _; rfl) : PD X (.ListComp elt [⟨tg, iter, ifs, 0⟩] scope pos) (vComp caps ti tt te) :=
  ⟨(pe_comp S hc hi.pi hg (fun C fp s₂ H₂ => pts_frame (ht C fp s₂ H₂).pts) (fun C fp s₂ H₂ => pe_frame (he C fp s₂ H₂).pe) hs).imp fun σ H Q h => comp_imp hi.mono mt me h, m_comp hi.mono⟩
end
end DC

set_option maxHeartbeats 4000000
namespace DC
open PySem PySem.Spec PyProof.Rows L2
def kindD : D → Option String
  | .non => some "NoneType"
  | .bl _ => some "bool"
  | .int _ => some "int"
  | .str _ => some "str"
  | .lst _ => some "list"
  | .tup _ => some "tuple"
  | .dK _ => some "dict"
  | .dT _ => some "dict"
  | .obj _ _ => none
  | .adr _ => none
  | .exc _ _ _ => none
structure OwnTy (K : PySem.W.Frag) (C : Addr) : Prop where
  cl : Cls K C
  ha : PySem.W.findIn K (.ref C) "__class__" = some (some (.builtin "object.__class__"))
  hn : PySem.W.specialIn K (.builtin "object.__class__") "__get__" = some (some (.builtin "getset_descriptor.__get__"))
  htk : PySem.W.takesIn K (.builtin "object.__class__") = some true
  hm : PySem.W.mroIn K C (.type "object") = some true
inductive TyD (K : PySem.W.Frag) : D → Value → Prop
  | k {d : D} {T : String} (h : kindD d = some T) : TyD K d (.type T)
  | o {C : Addr} {gs : List (Str × D)} (h : OwnTy K C) : TyD K (.obj C gs) (.ref C)
section
variable {X : Cx} {pins : List (Addr × Obj)} {σ : L2.St} {H : Hp} {s : Shared}
theorem isi_run {x : V} {u t : Value} {d : D} (I : Inv X pins σ H s) (rx : RelV x u) (dv : Dv X.K H x d) (ty : TyD X.K d t) : ∃ Hh, PySem.W.KitX X.K u t Hh ∧ Hh s.heap ∧ u ≠ .builtin "__main__.__loader__#opaque" := by
  cases ty with
  | k h =>
    cases dv with
    | non => cases h; cases (show u = Value.none from rx); exact ⟨_, PySem.W.kitx_none, True.intro, fun z => nomatch z⟩
    | bl y => cases h; cases (show u = Value.bool y from rx); exact ⟨_, PySem.W.kitx_bool, True.intro, fun z => nomatch z⟩
    | int i => cases h; obtain ⟨t, q⟩ := (show ∃ t, u = Value.int i t from rx); cases q; exact ⟨_, PySem.W.kitx_int, True.intro, fun z => nomatch z⟩
    | str y => cases h; obtain ⟨t, q⟩ := (show ∃ t, u = Value.str y t from rx); cases q; exact ⟨_, PySem.W.kitx_str, True.intro, fun z => nomatch z⟩
    | @lst a xs ds h1 h2 =>
      cases h
      cases (show u = Value.ref a from rx)
      obtain ⟨its, _, pl, _⟩ := I.list h1
      obtain ⟨o, n, e1, e2, _⟩ := pl
      exact ⟨_, PySem.W.kitx_list, ⟨o, e1, e2⟩, fun z => nomatch z⟩
    | @tup a xs ds h1 h2 =>
      cases h
      cases (show u = Value.ref a from rx)
      obtain ⟨its, _, pl, _⟩ := I.tuple h1
      obtain ⟨o, n, e1, e2, _⟩ := IsTup.of_get pl
      exact ⟨_, PySem.W.kitx_tuple, ⟨o, e1, e2⟩, fun z => nomatch z⟩
    | @dK a kvs gs h1 h2 =>
      cases h
      cases (show u = Value.ref a from rx)
      obtain ⟨_, _, vs, _, p⟩ := (show ObjOk X.prog X.w H s.heap a (.dK kvs) from h1.ok I.hok)
      obtain ⟨o, es, ep, g1, g2, _⟩ := p
      exact ⟨_, PySem.W.kitx_dict, ⟨o, g1, g2.1⟩, fun z => nomatch z⟩
    | @dT a kvs gs h1 h2 =>
      cases h
      cases (show u = Value.ref a from rx)
      obtain ⟨_, _, xs, _, o, es, ep, g1, g2, _⟩ := (show ObjOk X.prog X.w H s.heap a (.dT kvs) from h1.ok I.hok)
      exact ⟨_, PySem.W.kitx_dict, ⟨o, g1, g2.1⟩, fun z => nomatch z⟩
    | obj h1 h2 => cases h
    | adr _ => cases h
    | exc _ _ _ => cases h
  | o h =>
    cases dv with
    | @obj a C dx fs gs h1 h2 =>
      cases (show u = Value.ref a from rx)
      obtain ⟨mA, O, _⟩ := ins_getR I.hok h1
      obtain ⟨od, J, _⟩ := O.look
      exact ⟨_, PySem.W.kitx_own (h.cl.get _) h.cl.hd h.ha h.hn h.htk h.hm, J, fun z => nomatch z⟩
end
section
variable {X : Cx} {e : Expr} {te : ED} {pos p p2 : Pos}
theorem call_isiD {c : Value} {vc : V} (rc : ∀ u, RelV vc u → u = c) : CallR X (.builtin "isinstance") (fun xs H Q => ∃ x d t b, xs = [x, vc] ∧ Dv X.K H x d ∧ TyD X.K d t ∧ PySem.W.kitOne X.K t c = some b ∧ Q (.bl b) H) := by
  intro pins s σ H xs us Q I r h
  obtain ⟨x, d, t, b, rfl, dv, ty, e, q⟩ := h
  obtain ⟨u, w', rfl, r1, r2⟩ := vals2 r
  obtain rfl := rc w' r2
  obtain ⟨Hh, Z, hh, hx⟩ := isi_run I r1 dv ty
  exact PySem.W.kia_one Z I.kIn hh e hx fun tk => ⟨.bl b, H, I.tok _, rfl, q⟩
def vIsi (K : PySem.W.Frag) (c : Value) (te : ED) : ED := fun δ Q => te δ fun d => ∃ t b, TyD K d t ∧ PySem.W.kitOne K t c = some b ∧ Q (.bl b)
theorem d_isi_of {c : Value} {vc : V} (he : PD X e te) {ec : Expr} (hp : PE X (.Call (.Name "isinstance" p) [e, ec] [] pos) (tCB (fun xs H Q => ∃ x d t b, xs = [x, vc] ∧ Dv X.K H x d ∧ TyD X.K d t ∧ PySem.W.kitOne X.K t c = some b ∧ Q (.bl b) H) (tCons (oE X.K te) (tCons (tC vc) tNil)))) :
    PD X (.Call (.Name "isinstance" p) [e, ec] [] pos) (vIsi X.K c te) :=
  ⟨hp.imp fun σ H Q ⟨δ, r, h⟩ => ⟨δ, r, he.mono _ _ _ (fun d ⟨t, b, ty, ek, k⟩ v H1 s1 dv => ⟨v, d, t, b, rfl, dv, ty, ek, k _ H1 s1 (.bl _)⟩) h⟩, fun δ P P' g h => he.mono _ _ _ (fun d ⟨t, b, ty, ek, k⟩ => ⟨t, b, ty, ek, g _ k⟩) h⟩
theorem d_isiT {T : String} {x : Str} (he : PD X e te) (hg : Gl X "isinstance") (hm : X.mg "isinstance" = none) (hg2 : Gl X x) (hm2 : X.mg x = none) (hv2 : bootBuiltins x = some (.type T)) (hn : x ≠ "__name__" := by decide) (hd : (x == ("__debug__" : Str)) = false := by decide)
    (hs : starEach [e, .Name x p2] X.env = (false, eval e X.env) :: starEach [.Name x p2] X.env := by rfl) : PD X (.Call (.Name "isinstance" p) [e, .Name x p2] [] pos) (vIsi X.K (.type T) te) :=
  d_isi_of (vc := .ty T) he (pe_callB (call_isiD fun u z => z) hg hm boot_isinstance (pa_cons he.pe (pa_cons (pe_bltn (v := .ty T) hg2 hm2 hv2 rfl hn hd) pa_nil) hs) (he := hs))
end
def isiT (T : String) (d : D) : Option Bool := (kindD d).map fun k => k == T || (k == "bool" && T == "int")
theorem kit_tbl {K : PySem.W.Frag} {d : D} {k T : String} (hk : kindD d = some k) (hT : T ∈ ["bool", "int", "str", "list", "tuple", "dict"]) : PySem.W.kitOne K (.type k) (.type T) = some (k == T || (k == "bool" && T == "int")) := by
  have hk' : k ∈ ["NoneType", "bool", "int", "str", "list", "tuple", "dict"] := by cases d <;> cases hk <;> simp
  simp only [List.mem_cons, List.not_mem_nil, or_false] at hk' hT
  rcases hk' with rfl | rfl | rfl | rfl | rfl | rfl | rfl <;> rcases hT with rfl | rfl | rfl | rfl | rfl | rfl <;> kernel_rfl
def vIsiT (T : String) (te : ED) : ED := fun δ Q => te δ fun d => ∃ b, isiT T d = some b ∧ Q (.bl b)
theorem PD.isiT {X : Cx} {e : Expr} {te : ED} {T : String} (h : PD X e (vIsi X.K (.type T) te)) (m : MonoE te) (hT : T ∈ ["bool", "int", "str", "list", "tuple", "dict"]) : PD X e (vIsiT T te) :=
  ⟨h.pe.imp fun σ H Q ⟨δ, r, q⟩ => ⟨δ, r, m _ _ _ (fun d ⟨b, eb, k⟩ => by
      unfold DC.isiT at eb
      cases hk : kindD d with
      | none => rw [hk] at eb; cases eb
      | some kk =>
        rw [hk] at eb
        have e1 : (kk == T || (kk == "bool" && T == "int")) = b := by simpa using eb
        exact ⟨_, b, .k hk, by rw [kit_tbl hk hT, e1], k⟩) q⟩, fun δ P P' g q => m _ _ _ (fun d ⟨b, eb, k⟩ => ⟨b, eb, g _ k⟩) q⟩
def lenD : D → Option Int
  | .str x => if x.length ≤ sizeLine then some x.length else none
  | .lst xs => some xs.length
  | .tup xs => some xs.length
  | _ => none
def sdLen : SpD := fun ds Q => ∃ d n, ds = [d] ∧ lenD d = some n ∧ Q (.int n)
theorem m_len : MonoS sdLen := fun ds P P' g ⟨d, n, e, h, q⟩ => ⟨d, n, e, h, g _ q⟩
theorem does_len {K : PySem.W.Frag} : DoesB K (fun xs H Q => ∃ x n, xs = [x] ∧ LenV K x H n ∧ Q (.int n) H) sdLen := by
  intro H vs ds Q dvs ⟨d, n, e, h, q⟩
  subst e
  cases dvs with
  | cons dv r =>
    cases r
    cases dv with
    | str x =>
      have h' : (if x.length ≤ sizeLine then some (x.length : Int) else none) = some n := h
      by_cases hz : x.length ≤ sizeLine
      · rw [if_pos hz] at h'
        cases h'
        exact ⟨_, x.length, rfl, ⟨hz, rfl⟩, q _ H (Same.refl _) (.int _)⟩
      · rw [if_neg hz] at h'
        cases h'
    | lst h1 h2 => cases h; exact ⟨_, _, rfl, .inl ⟨_, h1, rfl⟩, by rw [h2.length]; exact q _ H (Same.refl _) (.int _)⟩
    | tup h1 h2 => cases h; exact ⟨_, _, rfl, .inr ⟨_, h1, rfl⟩, by rw [h2.length]; exact q _ H (Same.refl _) (.int _)⟩
    | _ => cases h
section
variable {X : Cx} {e : Expr} {es : List Expr} {t : AD} {pos p : Pos}
theorem d_len (hg : Gl X "len") (hm : X.mg "len" = none) (ha : PAd X (e :: es) t) (h1 : starEach (e :: es) X.env = (false, eval e X.env) :: starEach es X.env := by rfl) (h2 : (backTo pos (starEach es X.env)).any (·.1) = false := by rfl) :
    PD X (.Call (.Name "len" p) (e :: es) [] pos) (vB sdLen t) := d_cb (pe_callB call_len hg hm PySem.boot_len ha.pa (he := h1) (hpl := h2)) ha.mono does_len m_len
theorem boot_intT : bootBuiltins "int" = some (.type "int") := by decide +kernel
theorem boot_boolT : bootBuiltins "bool" = some (.type "bool") := by decide +kernel
theorem boot_allB : bootBuiltins "all" = some (.builtin "all") := by decide +kernel
def sdInt : SpD := fun ds Q => (∃ i, ds = [.int i] ∧ Q (.int i)) ∨ ∃ k : Bool, ds = [.bl k] ∧ Q (.int (if k then 1 else 0))
theorem m_int : MonoS sdInt := fun ds P P' g h => h.elim (fun ⟨i, e, q⟩ => .inl ⟨i, e, g _ q⟩) fun ⟨k, e, q⟩ => .inr ⟨k, e, g _ q⟩
theorem does_int {K : PySem.W.Frag} : DoesB K (fun xs H Q => (∃ i, xs = [.int i] ∧ Q (.int i) H) ∨ ∃ k, xs = [.bl k] ∧ Q (.int (if k then 1 else 0)) H) sdInt := by
  intro H vs ds Q dvs h
  rcases h with ⟨i, e, q⟩ | ⟨k, e, q⟩
  · subst e
    cases dvs with
    | cons dv r => cases r; cases dv; exact .inl ⟨i, rfl, q _ H (Same.refl _) (.int _)⟩
  · subst e
    cases dvs with
    | cons dv r => cases r; cases dv; exact .inr ⟨k, rfl, q _ H (Same.refl _) (.int _)⟩
theorem d_int_of (hg : Gl X "int") (hm : X.mg "int" = none) (ha : PAd X (e :: es) t) (h1 : starEach (e :: es) X.env = (false, eval e X.env) :: starEach es X.env := by rfl) (h2 : (backTo pos (starEach es X.env)).any (·.1) = false := by rfl) : PD X (.Call (.Name "int" p) (e :: es) [] pos) (vB sdInt t) := d_cb (pe_callTy call_int1 hg hm boot_intT ha.pa (he := h1) (hpl := h2)) ha.mono does_int m_int
def sdAll : SpD := fun ds Q => ∃ (bs : List Bool), ds = [.lst (bs.map D.bl)] ∧ Q (.bl (bs.all id))
theorem m_all : MonoS sdAll := fun ds P P' g ⟨bs, e, q⟩ => ⟨bs, e, g _ q⟩
theorem vals_bl {K : PySem.W.Frag} {H : Hp} : ∀ {vs : List V} {bs : List Bool}, Dvs K H vs (bs.map D.bl) → vs = bs.map V.bl
  | [], [], _ => rfl
  | _, _ :: _, .cons (.bl _) r => by rw [vals_bl r]; rfl
theorem does_all {K : PySem.W.Frag} {A : Around} (hh : A.handled = none) : DoesB K (fun xs H Q => ∃ (p : Addr) (bs : List Bool), xs = [.ref p] ∧ A.handled = none ∧ SqL K H p (bs.map V.bl) ∧ Q (.bl (bs.all id)) H) sdAll := by
  intro H vs ds Q dvs ⟨bs, e, q⟩
  subst e
  cases dvs with
  | cons dv r =>
    cases r
    cases dv with
    | lst h1 h2 =>
      rw [vals_bl h2] at h1
      exact ⟨_, bs, rfl, hh, h1, q _ H (Same.refl _) (.bl _)⟩
theorem d_all (hh : X.A.handled = none) (hg : Gl X "all") (hm : X.mg "all" = none) (ha : PAd X (e :: es) t) (h1 : starEach (e :: es) X.env = (false, eval e X.env) :: starEach es X.env := by rfl) (h2 : (backTo pos (starEach es X.env)).any (·.1) = false := by rfl) : PD X (.Call (.Name "all" p) (e :: es) [] pos) (vB sdAll t) := d_cb (pe_callB call_all hg hm boot_allB ha.pa (he := h1) (hpl := h2)) ha.mono (does_all hh) m_all
end
end DC

set_option maxHeartbeats 4000000
namespace DC
open PySem PySem.Spec PyProof.Rows L2
structure MOk (X : Cx) (C : Addr) (m : Str) (sd : SpD) (dd : List D) (k : Nat) (f : Addr) (fd : FuncData) (ps : List Str) (dvs : List V) (ds : List Value) : Prop where
  cls : Cls X.K C
  meth : Meth X.K C m f
  fn : FnOk X.prog X.w X.K X.mg X.base CX0 k f fd ps (spOf X.K sd)
  mono : MonoS sd
  room : Room k X.A
  binds : Binds X.K fd ps ds
  vals : Vals dvs ds
  dflt : ∀ H, Dvs X.K H dvs dd
structure MH (X : Cx) (C : Addr) (m : Str) (sd : SpD) (dd : List D) : Prop where
  ex : ∃ k f fd ps dvs ds, MOk X C m sd dd k f fd ps dvs ds
def vMeth (ok : Addr → Prop) (m : Str) (sd : Addr → SpD) (dd : List D) (ta : ED) (t : AD) : ED := fun δ Q => ta δ fun d => ∃ C gs, d = .obj C gs ∧ gs.lookup m = none ∧ ok C ∧ t δ fun ds => sd C (d :: (ds ++ dd)) Q
section
variable {X : Cx} {ok : Addr → Prop} {o e : Expr} {es : List Expr} {m : Str} {sd : Addr → SpD} {dd : List D} {ta : ED} {t : AD} {pos apos : Pos}
def tMethD (X : Cx) (m : Str) (sd : Addr → SpD) (dd : List D) (ta : TE) (t : TA) : TE := fun σ H Q => ta σ H fun x H1 => ∃ a C dx fs, x = .ref a ∧ Rd H1 a (.ins C dx fs) ∧ fs.lookup m = none ∧ MH X C m (sd C) dd ∧
  ∀ dvs, (∀ H, Dvs X.K H dvs dd) → t σ H1 fun vs H2 => spOf X.K (sd C) (x :: (vs ++ dvs)) H2 Q E0
theorem pe_methD0 {ta : TE} {pl : Sem Bool} (he : PE X o ta)
    (ht : eval (.Call (.Attribute o m apos) [] [] pos) X.env = (do
      let ov ← eval o X.env
      standAt apos.atName
      let (f, first) ← holding [ov] (getMethod ov m pl)
      callWith pos f first (backTo pos (starEach [] X.env)) (backToKw pos (keywordEach [] X.env))) := by rfl) :
    PE X (.Call (.Attribute o m apos) [] [] pos) (tMethD X m sd dd ta tNil) := by
  intro pins s σ H Q I h
  refine PySem.W.methodCall_KW (pl := pl) (thn (he pins s σ H _ I h) fun u s1 ⟨x, H1, I1, rx, a, C, dx, fs, ex, ea, l, ⟨k, f, fd, ps, dvs, ds, M⟩, q⟩ => ?_) ht
  subst ex
  obtain rfl : u = Value.ref a := rx
  refine getmeth_okR I1 ea M.cls M.meth l ?_
  exact PySem.W.callWith_K0 (first := [.ref a]) I1.kIn M.meth.kp (run_fn (us := [.ref a]) (vs := [.ref a]) M.fn M.room M.binds M.vals pass0 I1 (.cons rfl .nil) (q dvs M.dflt))
theorem m_meth (hM : ∀ C, ok C → MH X C m (sd C) dd) (ma : MonoE ta) (mt : MonoA t) : MonoE (vMeth ok m sd dd ta t) := fun δ P P' g h => ma _ _ _ (fun d ⟨C, gs, e, l, M, q⟩ => ⟨C, gs, e, l, M, mt _ _ _ (fun ds k => by
  obtain ⟨_, _, _, _, _, _, M'⟩ := hM C M
  exact M'.mono _ _ _ g k) q⟩) h
theorem meth_of (hM : ∀ C, ok C → MH X C m (sd C) dd) (ma : MonoE ta) (mt : MonoA t) {σ : L2.St} {H : Hp} {Q : VK} (h : oE X.K (vMeth ok m sd dd ta t) σ H Q) : tMethD X m sd dd (oE X.K ta) (oA X.K t) σ H Q := by
  obtain ⟨δ, r, h⟩ := h
  refine ⟨δ, r, ma _ _ _ (fun d ⟨C, gs, ed, l, M, q⟩ v H1 s1 dv => ?_) h⟩
  subst ed
  cases dv with
  | @obj a C dx fs gs h1 h2 =>
    refine ⟨_, C, dx, fs, rfl, h1, h2.none l, hM C M, fun dvs hd => ⟨δ, r.same s1, mt _ _ _ (fun ds k vs H2 s2 dvs' => ?_) q⟩⟩
    obtain ⟨_, _, _, _, _, _, M'⟩ := hM C M
    exact ⟨_, .cons (Dv.same s2 (.obj h1 h2)) (dvs'.append (hd H2)), M'.mono _ _ _ (fun d k => k.on (s1.trans s2)) k⟩
theorem d_meth0 {pl : Sem Bool} (hM : ∀ C, ok C → MH X C m (sd C) dd) (he : PD X o ta)
    (ht : eval (.Call (.Attribute o m apos) [] [] pos) X.env = (do
      let ov ← eval o X.env
      standAt apos.atName
      let (f, first) ← holding [ov] (getMethod ov m pl)
      callWith pos f first (backTo pos (starEach [] X.env)) (backToKw pos (keywordEach [] X.env))) := by rfl) :
    PD X (.Call (.Attribute o m apos) [] [] pos) (vMeth ok m sd dd ta aNil) :=
  ⟨(pe_methD0 he.pe ht).imp fun σ H Q h => by
      have q := meth_of (t := aNil) hM he.mono (fun δ P P' g h => g _ h) h
      obtain ⟨δ, r, h'⟩ := q
      refine ⟨δ, r, he.mono _ _ _ (fun d k v H1 s1 dv => ?_) h'⟩
      obtain ⟨a, C, dx, fs, e1, e2, l, M, z⟩ := k v H1 s1 dv
      refine ⟨a, C, dx, fs, e1, e2, l, M, fun dvs hd => ?_⟩
      obtain ⟨δ', r', z'⟩ := z dvs hd
      exact z' [] H1 (Same.refl _) .nil, m_meth hM he.mono fun δ P P' g h => g _ h⟩
end
end DC

set_option maxHeartbeats 4000000
namespace DC
open PySem PySem.Spec PyProof.Rows L2
abbrev FD := List (Str × D)
structure EndsI where
  nx : SD → FD → Prop
  rt : FD → Prop
  fin : FD → Prop
abbrev TID := EndsI → SD → FD → Prop
structure EndsI.Le (E E' : EndsI) : Prop where
  nx : ∀ δ gs, E.nx δ gs → E'.nx δ gs
  rt : ∀ gs, E.rt gs → E'.rt gs
  fin : ∀ gs, E.fin gs → E'.fin gs
abbrev MonoI (t : TID) : Prop := ∀ E E' δ gs, EndsI.Le E E' → t E δ gs → t E' δ gs
def putD (f : Str) (d : D) : FD → FD
  | [] => [(f, d)]
  | (g, e) :: r => if g = f then (g, d) :: r else (g, e) :: putD f d r
structure AtI (K : PySem.W.Frag) (C a dx : Addr) (H : Hp) (gs : FD) : Prop where
  ex : ∃ fs, H a = some (.ins C dx fs) ∧ Dvf K (hid H a dx) fs gs
  ne : dx ≠ a
def endI (K : PySem.W.Frag) (C a dx : Addr) (H : Hp) (D : Ends) : EndsI :=
  ⟨fun δ gs => ∀ σ H', Same (hid H a dx) (hid H' a dx) → RelS K (hid H' a dx) σ δ → AtI K C a dx H' gs → D.nx σ H', fun gs => ∀ H', Same (hid H a dx) (hid H' a dx) → AtI K C a dx H' gs → D.rt .non H', fun gs => ∀ σ H', Same (hid H a dx) (hid H' a dx) → AtI K C a dx H' gs → D.nx σ H'⟩
def oI (K : PySem.W.Frag) (C : Addr) (t : Addr → TID) : TS := fun D σ H => ∃ a dx δ gs, RelS K (hid H a dx) σ δ ∧ AtI K C a dx H gs ∧ t a (endI K C a dx H D) δ gs
structure PIs (X : Cx) (C : Addr) (st : List Stmt) (t : Addr → TID) : Prop where
  ps : PSs X st (oI X.K C t)
  mono : ∀ a, MonoI (t a)
structure PIn (X : Cx) (C : Addr) (st : Stmt) (t : Addr → TID) : Prop where
  ps : PS X st (oI X.K C t)
  mono : ∀ a, MonoI (t a)
section
variable {X : Cx} {C : Addr} {st : Stmt} {rest : List Stmt} {t u : Addr → TID} {e : Expr} {te : ED} {pos pos' p : Pos} {f : Str}
theorem endI_on {K : PySem.W.Frag} {a dx : Addr} {H H1 : Hp} {D : Ends} (s : Same (hid H a dx) (hid H1 a dx)) : EndsI.Le (endI K C a dx H D) (endI K C a dx H1 D) :=
  ⟨fun _ _ h σ H' s' r g => h σ H' (s.trans s') r g, fun _ h H' s' g => h H' (s.trans s') g, fun _ h σ H' s' g => h σ H' (s.trans s') g⟩
def iSeq (t u : Addr → TID) : Addr → TID := fun a E δ gs => t a { nx := u a E, rt := E.rt, fin := fun _ => False } δ gs
theorem i_cons (h1 : PIn X C st t) (h2 : PIs X C rest u) : PIs X C (st :: rest) (iSeq t u) :=
  ⟨PSs.imp (pss_cons h1.ps h2.ps) fun D σ H ⟨a, dx, δ, gs, r, g, h⟩ => ⟨a, dx, δ, gs, r, g, h1.mono a { nx := u a (endI X.K C a dx H D), rt := (endI X.K C a dx H D).rt, fin := fun _ => False } _ _ _
     ⟨fun δ' gs' q σ' H' s' r' g' => ⟨a, dx, δ', gs', r', g', h2.mono a _ _ _ _ (endI_on s') q⟩, fun gs' q => q, fun gs' q => q.elim⟩ h⟩,
   fun a E E' δ gs l h => h1.mono a { nx := u a E, rt := E.rt, fin := fun _ => False } _ _ _ ⟨fun δ' gs' q => h2.mono a _ _ _ _ l q, l.rt, fun _ q => q.elim⟩ h⟩
def iRest (C : Addr) (t : TSD) : Addr → TID := fun a E δ gs => t { nx := fun _ => E.fin gs, rt := fun d => d = .non ∧ E.rt gs } (δ.set 0 (some (.obj C gs)))
def iEnd : Addr → TID := fun a E δ gs => E.fin gs
theorem i_nil : PIs X C [] iEnd := ⟨PSs.imp pss_nil fun D σ H ⟨a, dx, δ, gs, r, g, h⟩ => h σ H (Same.refl _) g, fun a E E' δ gs l h => l.fin _ h⟩
def iFree (t : TSD) : Addr → TID := fun a E δ gs => t { nx := fun δ' => E.nx δ' gs, rt := fun d => d = .non ∧ E.rt gs } δ
theorem i_free {t : TSD} (h : PSd X st t) : PIn X C st (iFree t) := by
  refine ⟨PS.imp (ps_frameO h.ps) fun D σ H ⟨a, dx, δ, gs, r, ⟨⟨fs, ha, hf⟩, ne⟩, q⟩ => ⟨a, dx, C, fs, ha, δ, r, ?_⟩, fun a E E' δ gs l q => h.mono { nx := fun δ' => E.nx δ' gs, rt := fun d => d = .non ∧ E.rt gs } _ _ ⟨fun δ' k => l.nx _ _ k, fun d k => ⟨k.1, l.rt _ k.2⟩, fun _ k => k, fun _ k => k⟩ q⟩
  refine h.mono { nx := fun δ' => (endI X.K C a dx H D).nx δ' gs, rt := fun d => d = .non ∧ (endI X.K C a dx H D).rt gs } _ _ ⟨fun δ' k σ' H' s' r' z1 z2 _ => ?_, fun d k v H' s' dv z1 z2 _ => ?_, fun _ k => k.elim, fun _ k => k.elim⟩ q
  · have hs : hid (shown H' a dx C fs) a dx = H' := hid_shown z1 z2
    exact k σ' _ (by rw [hs]; exact s') (by rw [hs]; exact r') ⟨⟨fs, shown_a, by rw [hs]; exact Dvf.same s' hf⟩, ne⟩
  · have hs : hid (shown H' a dx C fs) a dx = H' := hid_shown z1 z2
    obtain ⟨e, k⟩ := k
    subst e
    cases dv
    exact k _ (by rw [hs]; exact s') ⟨⟨fs, shown_a, by rw [hs]; exact Dvf.same s' hf⟩, ne⟩
theorem Dvf.put {K : PySem.W.Frag} {H : Hp} {v : V} {d : D} (dv : Dv K H v d) : ∀ {fs : List (Str × V)} {gs : FD}, Dvf K H fs gs → Dvf K H (putF f v fs) (putD f d gs)
  | _, _, .nil => .cons dv .nil
  | _, _, .cons (k := k) h r => by
    unfold putF putD
    by_cases q : k = f
    · rw [if_pos q, if_pos q]; exact .cons dv r
    · rw [if_neg q, if_neg q]; exact .cons h (Dvf.put dv r)
theorem Dvf.length {K : PySem.W.Frag} {H : Hp} : ∀ {fs : List (Str × V)} {gs : FD}, Dvf K H fs gs → fs.length = gs.length
  | _, _, .nil => rfl
  | _, _, .cons _ r => congrArg (· + 1) (Dvf.length r)
def iSet (K : PySem.W.Frag) (C : Addr) (f : Str) (te : ED) : Addr → TID := fun a E δ gs => te δ fun d => δ[0]? = some (some (.adr a)) ∧ Cls K C ∧ NoAttr K C f ∧ gs.length < 1000 ∧ E.nx δ (putD f d gs)
theorem i_set {x : Str} (hN : X.N[0]? = some x) (hv : Vis X.env.scope x) (he : PD X e te) (hs : swapsWith e (some (.Attribute (.Name x p) f pos')) pos.line X.env = pure false := by rfl) (hd : (x == ("__debug__" : Str)) = false := by decide)
    (hcd : (x == ("__classdict__" : Str)) = false := by decide) : PIn X C (.Assign [.Attribute (.Name x p) f pos'] e pos) (iSet X.K C f te) := by
  refine ⟨PS.imp (ps_fld (pe_var hN hv hd hcd) (pe_frameO he.pe) hs) fun D σ H ⟨a, dx, δ, gs, r, ⟨⟨fs, ha, hf⟩, ne⟩, q⟩ => ⟨a, dx, C, fs, ha, δ, r, ?_⟩, fun a E E' δ gs l q => he.mono _ _ _ (fun d ⟨k0, k1, k2, k3, k⟩ => ⟨k0, k1, k2, k3, l.nx _ _ k⟩) q⟩
  refine he.mono _ _ _ (fun d ⟨k0, k1, k2, k3, k⟩ v H' s' dv z1 z2 _ => ?_) q
  obtain ⟨w, hw, dw⟩ := r.get 0 _ k0
  cases dw
  refine ⟨_, hw, a, C, dx, fs, rfl, shown_a, k1, k2, by rw [hf.length]; exact k3, ?_⟩
  rw [upd_shown]
  have hs : hid (shown H' a dx C (putF f v fs)) a dx = H' := hid_shown z1 z2
  exact k σ _ (by rw [hs]; exact s') (by rw [hs]; exact r.same s') ⟨⟨_, shown_a, by rw [hs]; exact (Dvf.same s' hf).put dv⟩, ne⟩
theorem hid_same {H : Hp} {a dx : Addr} : Same (hid H a dx) H := fun b o h => by
  unfold hid at h
  split at h
  · cases h
  · exact h
theorem AtI.dv {K : PySem.W.Frag} {a dx : Addr} {H : Hp} {gs : FD} (g : AtI K C a dx H gs) : Dv K H (.ref a) (.obj C gs) := by
  obtain ⟨⟨fs, h, hf⟩, _⟩ := g
  exact .obj (.of h) (Dvf.same hid_same hf)
theorem AtI.on {K : PySem.W.Frag} {a dx : Addr} {H H' : Hp} {gs : FD} (g : AtI K C a dx H gs) (s : Same H H') : AtI K C a dx H' gs := by
  obtain ⟨⟨fs, h, hf⟩, ne⟩ := g
  refine ⟨⟨fs, s _ _ h, Dvf.same (fun b o q => ?_) hf⟩, ne⟩
  unfold hid at q ⊢
  split at q
  · cases q
  · rename_i z; rw [if_neg z]; exact s _ _ q
theorem same_hid {H H' : Hp} {a dx : Addr} (s : Same H H') : Same (hid H a dx) (hid H' a dx) := fun b o q => by
  unfold hid at q ⊢
  split at q
  · cases q
  · rename_i z; rw [if_neg z]; exact s _ _ q
theorem i_rest {t : TSD} (h : PSsd X rest t) : PIs X C rest (fun a E δ gs => δ[0]? = some (some (.adr a)) ∧ iRest C t a E δ gs) := by
  refine ⟨PSs.imp h.ps fun D σ H ⟨a, dx, δ, gs, r, g, k0, q⟩ => ⟨δ.set 0 (some (.obj C gs)), ?_, ?_⟩, fun a E E' δ gs l ⟨k0, q⟩ => ⟨k0, h.mono { nx := fun _ => E.fin gs, rt := fun d => d = .non ∧ E.rt gs } _ _ ⟨fun δ' k => l.fin _ k, fun d k => ⟨k.1, l.rt _ k.2⟩, fun _ k => k, fun _ k => k⟩ q⟩⟩
  · obtain ⟨w, hw, dw⟩ := r.get 0 _ k0
    cases dw
    have z := (r.same hid_same).set 0 g.dv
    rw [show σ.set 0 (some (.ref a)) = σ from by
      refine List.ext_getElem? fun i => ?_
      rw [List.getElem?_set]
      split
      · rename_i q2
        subst q2
        split
        · exact hw.symm
        · rename_i q3
          rw [List.getElem?_eq_none (by omega)] at hw
          cases hw
      · rfl] at z
    exact z
  · refine h.mono { nx := fun _ => (endI X.K C a dx H D).fin gs, rt := fun d => d = .non ∧ (endI X.K C a dx H D).rt gs } _ _ ⟨fun δ' k σ' H' s' r' => k σ' H' (same_hid s') (g.on s'), fun d k v H' s' dv => ?_, fun _ k => k.elim, fun _ k => k.elim⟩ q
    obtain ⟨e, k⟩ := k
    subst e
    cases dv
    exact k H' (same_hid s') (g.on s')
end
section
variable {P : Program} {w : World} {K : PySem.W.Frag} {mg : Str → Option Value} {base : Heap}
structure FunV (K : PySem.W.Frag) (x qual : Str) (st : Stmt) (f : Addr) (fd : FuncData) : Prop where
  ex : ∃ (oc : Value) (od : Option Addr) (dV kV doc pm : Value) (an : Option Addr) (cdv ct : Value) (osl : Array (Option Value)),
    fd = PySem.W.fnOf x qual (defArgs st) (defBody st) (defScope st) dV kV doc pm an cdv ct ∧ K.lookup f = some ⟨oc, od, .func fd, osl⟩ ∧ PySem.W.codeIn K cdv qual = true
  kp : PySem.W.keepIn K (.ref f) = true
theorem FunV.ok {P : Program} {w : World} {K : PySem.W.Frag} {mg : Str → Option Value} {base : Heap} {x qual : Str} {st : Stmt} {f : Addr} {fd : FuncData} {N ps : List Str} {k : Nat} {sp : Sp} (F : FunV K x qual st f fd) (S : FnScope N ps (defScope st)) (len : ∀ vs H Q E, sp vs H Q E → vs.length = ps.length)
    (hbody : ∀ (cdv : Value) (A : Around) (outer : List Env) (s : Shared) (H : Hp) (vs : List V) (Q : VK) (E : XK), Room k (A.deeper (envOfC qual (defScope st) s.heap.objs.size f cdv)) → sp vs H Q E →
      ∃ t, PSs (cxOf CX0 P w K mg base N qual (defScope st) f cdv A outer s H E).nox (defBody st) t ∧ t { nx := fun _ H' => Q .non H', rt := Q } (L2.start N vs) H) : FnOk P w K mg base CX0 (k + 1) f fd ps sp := by
  obtain ⟨oc, od, dV, kV, doc, pm, an, cdv, ct, osl, rfl, lk, hcd⟩ := F.ex
  refine fn_of lk hcd S len fun A outer s H vs Q E hr hsp => ?_
  obtain ⟨t, h, q⟩ := hbody cdv A outer s H vs Q E hr hsp
  exact ⟨t, h.nox, q⟩
end
section
variable {X : Cx} {C f : Addr} {fd : FuncData} {ps : List Str} {sd : SpI} {dd : List D} {dvs : List V} {dls : List Value} {k : Nat} {x : Str} {e : Expr} {es : List Expr} {t : AD} {p pos : Pos}
end
end DC

set_option maxHeartbeats 4000000
namespace L2
open PySem PySem.Spec PyProof.Rows
section
variable {X : Cx}
theorem ints_are {ns : List Int} : ∀ {us : List Value}, Vals (ns.map V.int) us → IntsAre us ns := by
  induction ns with
  | nil => intro us r; cases r; exact .nil
  | cons n ns ih =>
    intro us r
    cases r with
    | cons a r =>
      obtain ⟨t, e⟩ := a
      subst e
      exact .cons _ _ (ih r)
theorem call_sum : CallR X (.builtin "sum") (fun xs H Q => ∃ (p : Addr) (ns : List Int), xs = [.ref p] ∧ X.A.handled = none ∧ SqL X.K H p (ns.map V.int) ∧ Q (.int ns.sum) H) := by
  intro pins s σ H xs us Q I r h
  obtain ⟨p, ns, rfl, hh, hS, q⟩ := h
  obtain ⟨u, rfl, ru⟩ := vals1 r
  cases (show u = Value.ref p from ru)
  obtain ⟨its, rv, pl, _⟩ := I.list hS
  have hl := pl.isList
  have hi := ints_are rv
  obtain ⟨xs, hx⟩ := hi.allInts.items
  have hl' : s.heap.IsList p (intItems xs) := hx ▸ hl
  refine sum_intListG hh hl' fun h' tk t' hk => ?_
  have e1 : ns = xs.toList.map (·.1) := by
    rw [← nums_intItems, ← hx]
    exact (show numsOf its.toArray.toList = ns from hi.numsOf).symm
  have e2 : preSum (numAt xs) xs.size = ns.sum := by
    rw [preSum_eq, List.take_of_length_le (by simp), e1]
  rw [e2]
  exact ⟨.int ns.sum, H, I.kept hk, ⟨_, rfl⟩, q⟩
end
section
variable {prog : Program} {w : World} {A : Around} {R : Result → Shared → Prop} {I : Addr} {fp wr : List Addr} {n : Nat} {P : Nat → Value → Prop} {St : Nat → Heap → Prop} {E : Value → Shared → Prop} {s : Shared} {Q : Value → Shared → Prop}
abbrev bestAt (S : Addr) (items : Array Value) (h : Heap) : Prop := ∃ c, h.get? S = some { cls := .type "list", dict := none, data := .seq items c, slots := #[] }
theorem maxLoopK {kw : List (Str × Value)} (W : Walks prog w A.in1 I fp wr n P St) (bt : Nat → Nat → Bool) (hcmp : CmpOf prog w A.in1 .Gt P bt) (S : Addr) (hSf : S ∉ fp) :
    ∀ (k j : Nat) (s : Shared) (vb : Value), j + 1 + k = n → St (j + 1) s.heap → P (argBest bt j) vb → bestAt S #[vb, vb] s.heap →
    (∀ v h' tk, P (argBest bt (n - 1)) v → (∀ b o, b ∉ wr → b ≠ S → s.heap.get? b = some o → h'.get? b = some o) → R (.ok (.ret v)) { s with heap := h', toks := tk }) →
    codeAny (model prog w) A (.builtin "max.loop" ⟨[.ref I, .none, .ref S], kw⟩) R s := by
  have hSw : S ∉ wr := fun h => hSf (W.sub _ h)
  have hname : (toString "max" ++ toString ".loop" : String) = "max.loop" := by decide
  intro k
  induction k with
  | zero =>
    intro j s vb hj hst hP ⟨c, hS⟩ hR
    refine codeAny_builtin F.entry_max_loop ?_
    rw [Around.under_plainId F.plain_max_loop _]
    show wpAny _ A.in1 (seqItems? (.ref S) >>= _) _ _ s
    refine wpAny_bind (wpAny_seqItems hS rfl ?_)
    show wpAny _ A.in1 (tryCatch (pyNext (.ref I)) _ >>= _) _ _ s
    refine wpAny_bind (wpAny_tryCatch (W.done s _ _ ((show j + 1 = n by omega) ▸ hst) fun h' tk hk => ?_))
    show wpAny _ A.in1 (updateSeq S (fun _ => #[]) >>= _) _ _ _
    refine wpAny_bind (wpAny_updateSeq (hk S _ hSw hS) rfl (wpAny_bind (wpAny_letGo (wpAny_pure ?_))))
    exact hR vb _ tk (by rw [show n - 1 = j by omega]; exact hP) fun b o h1 h2 e => (Heap.get?_update_other _ _ (Ne.symm h2)).trans (hk b o h1 e)
  | succ k ih =>
    intro j s vb hj hst hP ⟨c, hS⟩ hR
    refine codeAny_builtin F.entry_max_loop ?_
    rw [Around.under_plainId F.plain_max_loop _]
    show wpAny _ A.in1 (seqItems? (.ref S) >>= _) _ _ s
    refine wpAny_bind (wpAny_seqItems hS rfl ?_)
    show wpAny _ A.in1 (tryCatch (pyNext (.ref I)) _ >>= _) _ _ s
    refine wpAny_bind (wpAny_tryCatch (W.item (j + 1) s _ _ (by omega) hst fun v h' tk hv hst' hk => ?_))
    have hS' := hk S _ hSw hS
    show wpAny _ A.in1 (tryCatch (holding [v, v] (richCompare .Gt v vb >>= _)) _ >>= _) _ _ _
    refine wpAny_bind (wpAny_tryCatch (wpAny_holding (wpAny_bind (hcmp (j + 1) (argBest bt j) v vb _ _ _ hv hP ?_))))
    refine wpAny_bind (wpAny_holding (wpAny_truthy_bool (wpAny_bind (wpAny_letGo (wpAny_pure ?_)))))
    cases hb : bt (j + 1) (argBest bt j) with
    | true =>
      simp only [if_true]
      refine wpAny_bind (wpAny_updateSeq hS' rfl (wpAny_bind (wpAny_letGo ?_)))
      rw [hname]
      refine wpAny_pure ⟨plainId_quiet F.plain_max_loop _, ih (j + 1) _ v (by omega) (W.frame _ _ _ hst' fun b hbf o e => ?_) (by simp only [argBest, hb, if_true]; exact hv) ⟨_, Heap.get?_update_self _ hS' rfl⟩ fun v' h2 tk2 hp2 hk2 => ?_⟩
      · exact (Heap.get?_update_other _ _ (fun h : S = b => hSf (by rw [h]; exact hbf))).trans e
      · exact hR v' h2 tk2 hp2 fun b o h1 h3 e => hk2 b o h1 h3 ((Heap.get?_update_other _ _ (Ne.symm h3)).trans (hk b o h1 e))
    | false =>
      simp only [Bool.false_eq_true, if_false]
      refine wpAny_bind (wpAny_letGo ?_)
      rw [hname]
      refine wpAny_pure ⟨plainId_quiet F.plain_max_loop _, ih (j + 1) _ vb (by omega) hst' (by simp only [argBest, hb, Bool.false_eq_true, if_false]; exact hP) ⟨c, hS'⟩ fun v' h2 tk2 hp2 hk2 => ?_⟩
      exact hR v' h2 tk2 hp2 fun b o h1 h3 e => hk2 b o h1 h3 (hk b o h1 e)
theorem maxLoop0 {d : Value} (W : Walks prog w A.in1 I fp wr n P St) (bt : Nat → Nat → Bool) (hcmp : CmpOf prog w A.in1 .Gt P bt) (S : Addr) (hSf : S ∉ fp) {s : Shared} (hst : St 0 s.heap) (hS : bestAt S #[] s.heap)
    (hR : ∀ v h' tk, (if n = 0 then v = d else P (argBest bt (n - 1)) v) → (∀ b o, b ∉ wr → b ≠ S → s.heap.get? b = some o → h'.get? b = some o) → R (.ok (.ret v)) { s with heap := h', toks := tk }) :
    codeAny (model prog w) A (.builtin "max.loop" ⟨[.ref I, .none, .ref S], [("default", d)]⟩) R s := by
  have hSw : S ∉ wr := fun h => hSf (W.sub _ h)
  have hname : (toString "max" ++ toString ".loop" : String) = "max.loop" := by decide
  obtain ⟨c, hS⟩ := hS
  refine codeAny_builtin F.entry_max_loop ?_
  rw [Around.under_plainId F.plain_max_loop _]
  show wpAny _ A.in1 (seqItems? (.ref S) >>= _) _ _ s
  refine wpAny_bind (wpAny_seqItems hS rfl ?_)
  show wpAny _ A.in1 (tryCatch (pyNext (.ref I)) _ >>= _) _ _ s
  by_cases hn : n = 0
  · refine wpAny_bind (wpAny_tryCatch (W.done s _ _ (hn ▸ hst) fun h' tk hk => ?_))
    refine wpAny_bind (wpAny_rule (wpAny_pure ?_))
    exact hR d h' tk (by rw [if_pos hn]) fun b o h1 _ e => hk b o h1 e
  · refine wpAny_bind (wpAny_tryCatch (W.item 0 s _ _ (by omega) hst fun v h' tk hv hst' hk => ?_))
    have hS' := hk S _ hSw hS
    show wpAny _ A.in1 (updateSeq S (fun _ => #[v, v]) >>= _) _ _ _
    refine wpAny_bind (wpAny_updateSeq hS' rfl ?_)
    rw [hname]
    refine wpAny_pure ⟨plainId_quiet F.plain_max_loop _, maxLoopK W bt hcmp S hSf (n - 1) 0 _ v (by omega) (W.frame _ _ _ hst' fun b hbf o e => ?_) hv ⟨_, Heap.get?_update_self _ hS' rfl⟩ fun v' h2 tk2 hp2 hk2 => ?_⟩
    · exact (Heap.get?_update_other _ _ (fun h : S = b => hSf (by rw [h]; exact hbf))).trans e
    · exact hR v' h2 tk2 (by rw [if_neg hn]; exact hp2) fun b o h1 h3 e => hk2 b o h1 h3 ((Heap.get?_update_other _ _ (Ne.symm h3)).trans (hk b o h1 e))
end
end L2

set_option maxHeartbeats 4000000
namespace L2
open PySem PySem.Spec PyProof.Rows
def maxI (d : Int) : List Int → Int
  | [] => d
  | x :: xs => xs.foldl max x
theorem foldl_max_ge : ∀ (xs : List Int) (a : Int), a ≤ xs.foldl max a ∧ ∀ x ∈ xs, x ≤ xs.foldl max a
  | [], a => ⟨Int.le_refl _, fun x h => nomatch h⟩
  | y :: ys, a => by
    obtain ⟨h1, h2⟩ := foldl_max_ge ys (max a y)
    refine ⟨Int.le_trans (Int.le_max_left _ _) h1, fun x h => ?_⟩
    rcases List.mem_cons.mp h with rfl | h
    · exact Int.le_trans (Int.le_max_right _ _) h1
    · exact h2 x h
theorem foldl_max_mem : ∀ (xs : List Int) (a : Int), xs.foldl max a = a ∨ xs.foldl max a ∈ xs
  | [], a => .inl rfl
  | y :: ys, a => by
    rcases foldl_max_mem ys (max a y) with h | h
    · rw [List.foldl_cons, h]
      rcases Int.le_total a y with q | q
      · rw [Int.max_eq_right q]; exact .inr (List.mem_cons_self)
      · rw [Int.max_eq_left q]; exact .inl rfl
    · exact .inr (List.mem_cons_of_mem _ h)
theorem maxI_is {d m : Int} {ns : List Int} (h : m ∈ ns) (g : ∀ x ∈ ns, x ≤ m) : maxI d ns = m := by
  cases ns with
  | nil => cases h
  | cons x xs =>
    obtain ⟨h1, h2⟩ := foldl_max_ge xs x
    have a1 : m ≤ maxI d (x :: xs) := by
      rcases List.mem_cons.mp h with rfl | h
      · exact h1
      · exact h2 m h
    have a2 : maxI d (x :: xs) ≤ m := by
      rcases foldl_max_mem xs x with q | q
      · show xs.foldl max x ≤ m
        rw [q]; exact g x List.mem_cons_self
      · exact g _ (List.mem_cons_of_mem _ q)
    exact Int.le_antisymm a2 a1
theorem argBest_max (val : Nat → Int) : ∀ k, argBest (fun i j => decide (val i > val j)) k ≤ k ∧ ∀ i, i ≤ k → val i ≤ val (argBest (fun i j => decide (val i > val j)) k)
  | 0 => ⟨Nat.le_refl _, fun i h => by cases Nat.le_zero.mp h; exact Int.le_refl _⟩
  | k + 1 => by
    obtain ⟨h1, h2⟩ := argBest_max val k
    rw [argBest]
    by_cases q : val (k + 1) > val (argBest (fun i j => decide (val i > val j)) k)
    · rw [if_pos (decide_eq_true q)]
      refine ⟨Nat.le_refl _, fun i h => ?_⟩
      rcases Nat.lt_or_ge i (k + 1) with z | z
      · exact Int.le_trans (h2 i (by omega)) (Int.le_of_lt q)
      · rw [show i = k + 1 by omega]; exact Int.le_refl _
    · rw [if_neg (by simpa using q)]
      refine ⟨Nat.le_succ_of_le h1, fun i h => ?_⟩
      rcases Nat.lt_or_ge i (k + 1) with z | z
      · exact h2 i (by omega)
      · rw [show i = k + 1 by omega]; exact Int.not_lt.mp q
section
variable {X : Cx}
theorem args_maxD (a d : Value) : argsOk "max" ⟨[a], [("default", d)]⟩ := by unfold argsOk; kernel_rfl
theorem max_of {pins : List (Addr × Obj)} {s : Shared} {σ : St} {H : Hp} {Q : VK} {p : Addr} {ns : List Int} {d : Int} {t : Tok} (I : Inv X pins σ H s) (hh : X.A.handled = none) (hS : SqL X.K H p (ns.map V.int)) (q : Q (.int (maxI d ns)) H) :
    wpAny (model X.prog X.w) X.A (call (.builtin "max") [.ref p] [("default", .int d t)]) (EP X pins σ Q) X.xe s := by
  obtain ⟨its, rv, pl, _⟩ := I.list hS
  have hl := pl.isList
  have hi := ints_are rv
  have hlt : p < s.heap.objs.size := pl.lt
  have hlen : its.length = ns.length := by have := rv.length; rw [List.length_map] at this; exact this.symm
  have hname : (toString "max" ++ toString ".loop" : String) = "max.loop" := by decide
  have hval : ∀ (i : Nat) (v : Value), its.toArray[i]? = some v → ∃ t, v = .int (ns.getD i 0) t := fun i v e => by
    have e' : its[i]? = some v := by simpa using e
    have hb : i < ns.length := by have := (List.getElem?_eq_some_iff.mp e').1; omega
    obtain ⟨u, h1, h2⟩ := rv.get (i := i) (x := V.int ns[i]) (by rw [List.getElem?_map, List.getElem?_eq_getElem hb]; rfl)
    rw [e'] at h1
    cases h1
    obtain ⟨t, ht⟩ := (show ∃ t, v = Value.int ns[i] t from h2)
    exact ⟨t, by rw [ht, List.getD_eq_getElem?_getD, List.getElem?_eq_getElem hb]; rfl⟩
  refine wpAny_call (codeAny_call_builtin F.plain_max F.entry_max ?_)
  simp only [checkBuiltinCall, F.kind_max]
  have ha : argsOk "max" ⟨[.ref p], [("default", .int d t)]⟩ := args_maxD _ _
  have body : wpAny (model X.prog X.w) X.A.in1 (Builtin.«max» ⟨[.ref p], [("default", .int d t)]⟩) (fun fin s' => match fin with
      | .done f => (match (Except.ok f : Result) with | .ok (.ret v) => EP X pins σ Q v s' | .ok _ => False | .error e => X.xe e s')
      | .again c' => c'.quiet = true ∧ codeAny (model X.prog X.w) X.A c' (fun r s' => match r with | .ok (.ret v) => EP X pins σ Q v s' | .ok _ => False | .error e => X.xe e s') s') X.xe s := by
    show wpAny _ X.A.in1 (Builtin.Builtins.bindParams "max" ["key", "default"] 0 ⟨[], [("default", .int d t)]⟩ >>= _) _ _ s
    refine wpAny_bind (wpAny_of_eq (show Builtin.Builtins.bindParams "max" ["key", "default"] 0 ⟨[], [("default", .int d t)]⟩ = pure [none, some (.int d t)] from rfl) ?_)
    refine wpAny_bind (wpAny_pure ?_)
    refine wpAny_bind (wpAny_pyIter_list hl ?_)
    refine wpAny_bind (wpAny_newObj_type ?_)
    rw [hname]
    have W := Walks.list (prog := X.prog) (w := X.w) (A := X.A.in1) hh s.heap.objs.size p (Nat.ne_of_lt hlt) its.toArray
    refine wpAny_pure ⟨plainId_quiet F.plain_max_loop _, maxLoop0 W _ (CmpOf.ints_gt (fun i => ns.getD i 0) hval) ((s.heap.push _).objs.size) (fun hm => ?_) (W.frame _ _ _ ⟨⟨_, Heap.get?_push_size _ rfl, rfl, rfl⟩, hl.push _⟩ fun b _ o e => Heap.get?_push_of_some _ e) ⟨_, Heap.get?_push_size _ rfl⟩ fun v h' tk hv hk => ?_⟩
    · have hsz : (s.heap.push { cls := .type "list_iterator", data := .fields #[.ref p, .int 0 0] }).objs.size = s.heap.objs.size + 1 := Heap.size_push ..
      rcases List.mem_cons.mp hm with z | z
      · exact absurd (hsz.symm.trans z) (Nat.succ_ne_self _)
      · exact absurd (hsz.symm.trans (List.mem_singleton.mp z)) (Nat.ne_of_gt (Nat.lt_succ_of_lt hlt))
    · have hkept : ∀ b o, s.heap.get? b = some o → h'.get? b = some o := fun b o e => hk b o (fun hm => by
        exact absurd (List.mem_singleton.mp hm) (Nat.ne_of_lt (Heap.lt_size e))) (fun hm => by
        rw [Heap.size_push] at hm
        exact absurd hm (Nat.ne_of_lt (Nat.lt_succ_of_lt (Heap.lt_size e)))) (Heap.get?_push_of_some _ (Heap.get?_push_of_some _ e))
      have ev : ∃ t, v = .int (maxI d ns) t := by
        by_cases hn : its.toArray.size = 0
        · rw [if_pos hn] at hv
          have hz : ns = [] := List.length_eq_zero_iff.mp (by rw [← hlen]; simpa using hn)
          rw [hz]
          exact ⟨_, hv⟩
        · rw [if_neg hn] at hv
          obtain ⟨b1, b2⟩ := argBest_max (fun i => ns.getD i 0) (its.toArray.size - 1)
          have hsz : its.toArray.size = ns.length := by rw [List.size_toArray, hlen]
          obtain ⟨t', e⟩ := hval _ v hv
          refine ⟨t', ?_⟩
          rw [e, maxI_is (m := ns.getD (argBest (fun i j => decide (ns.getD i 0 > ns.getD j 0)) (its.toArray.size - 1)) 0) ?_ fun x hx => ?_]
          · rw [List.getD_eq_getElem?_getD, List.getElem?_eq_getElem (by omega)]
            exact List.getElem_mem _
          · obtain ⟨i, hi', rfl⟩ := List.getElem_of_mem hx
            have z := b2 i (by omega)
            simp only [List.getD_eq_getElem?_getD, List.getElem?_eq_getElem hi', Option.getD_some] at z
            simpa only [List.getD_eq_getElem?_getD] using z
      obtain ⟨t', rfl⟩ := ev
      exact ⟨.int (maxI d ns), H, I.kept hkept, ⟨_, rfl⟩, q⟩
  cases hsig : Manifest.signature? "max" with
  | none => exact wpAny_pure body
  | some sig =>
    simp only [argsOk, hsig] at ha
    have h2 : Bind.checkArgs "max" sig ⟨[.ref p], [("default", .int d t)]⟩ = pure () := ha
    show wpAny _ X.A.in1 (Bind.checkArgs "max" sig ⟨[.ref p], [("default", .int d t)]⟩) _ _ s
    rw [h2]; exact wpAny_pure body
end
end L2

set_option maxHeartbeats 4000000
namespace L2
open PySem PySem.Spec PyProof.Rows
section
variable {X : Cx} {e c : Expr} {te tc : TE} {p pos kp : Pos}
def rMaxD (X : Cx) (x y : V) (H : Hp) (Q : VK) : Prop := ∃ (l : Addr) (ns : List Int) (d : Int), x = .ref l ∧ y = .int d ∧ X.A.handled = none ∧ SqL X.K H l (ns.map V.int) ∧ Q (.int (maxI d ns)) H
def one (F : V → Hp → Prop) (vs : List V) (H : Hp) : Prop := match vs with
  | [x] => F x H
  | _ => False
theorem pe_maxD (hg : Gl X "max") (hm : X.mg "max" = none) (he : PE X e te) (hc : PE X c tc) (h1 : starEach [e] X.env = (false, eval e X.env) :: starEach [] X.env := by rfl) (hv : bootBuiltins "max" = some (.builtin "max") := by decide +kernel) :
    PE X (.Call (.Name "max" p) [e] [⟨some "default", c, kp⟩] pos) (tOp (rMaxD X) te tc) := by
  intro pins s σ H Q I h
  refine wpAny_Call_Name_kw (ld_blt I hg hm hv ?_)
  refine callWith_kw (env := X.env) ?_ (by rw [h1]; rfl) (by rw [h1]; rfl) rfl rfl
  refine thn ((pa_cons he pa_nil h1) pos pins s σ H (one fun x H1 => tc σ H1 fun y H2 => rMaxD X x y H2 Q) I h) fun us s1 ⟨vs, H1, I1, r1, q⟩ => ?_
  match vs, r1, q with
  | [x], r1, q =>
    obtain ⟨u, rfl, ru⟩ := vals1 r1
    refine thn ((pk_cons (nm := some "default") (kpos := kp) hc pk_nil) pos pins s1 σ H1 (one fun y H2 => rMaxD X x y H2 Q) I1 q) fun ws s2 ⟨zs, H2, I2, r2, k⟩ => ?_
    match zs, r2, k with
    | [y], r2, k =>
      obtain ⟨l, ns, d, e1, e2, hh, hS, kk⟩ := k
      subst e1 e2
      obtain ⟨w, rfl, rw'⟩ := vals1 r2
      obtain ⟨t, rfl⟩ := (show ∃ t, w = Value.int d t from rw')
      cases (show u = Value.ref l from ru)
      exact max_of I2 hh hS kk
end
end L2
namespace DC
open PySem PySem.Spec PyProof.Rows L2
section
variable {X : Cx} {e c : Expr} {te tc : ED} {p pos kp : Pos} {es : List Expr} {t : AD}
theorem boot_sum : bootBuiltins "sum" = some (.builtin "sum") := by decide +kernel
def sdSum : SpD := fun ds Q => ∃ (ns : List Int), ds = [.lst (ns.map D.int)] ∧ Q (.int ns.sum)
theorem m_sum : MonoS sdSum := fun ds P P' g ⟨bs, e, q⟩ => ⟨bs, e, g _ q⟩
theorem vals_int {K : PySem.W.Frag} {H : Hp} : ∀ {vs : List V} {bs : List Int}, Dvs K H vs (bs.map D.int) → vs = bs.map V.int
  | [], [], _ => rfl
  | _, _ :: _, .cons (.int _) r => by rw [vals_int r]; rfl
theorem does_sum {K : PySem.W.Frag} {A : Around} (hh : A.handled = none) : DoesB K (fun xs H Q => ∃ (p : Addr) (ns : List Int), xs = [.ref p] ∧ A.handled = none ∧ SqL K H p (ns.map V.int) ∧ Q (.int ns.sum) H) sdSum := by
  intro H vs ds Q dvs ⟨bs, e, q⟩
  subst e
  cases dvs with
  | cons dv r =>
    cases r
    cases dv with
    | lst h1 h2 =>
      rw [vals_int h2] at h1
      exact ⟨_, bs, rfl, hh, h1, q _ H (Same.refl _) (.int _)⟩
theorem d_sum (hh : X.A.handled = none) (hg : Gl X "sum") (hm : X.mg "sum" = none) (ha : PAd X (e :: es) t) (h1 : starEach (e :: es) X.env = (false, eval e X.env) :: starEach es X.env := by rfl) (h2 : (backTo pos (starEach es X.env)).any (·.1) = false := by rfl) : PD X (.Call (.Name "sum" p) (e :: es) [] pos) (vB sdSum t) := d_cb (pe_callB call_sum hg hm boot_sum ha.pa (he := h1) (hpl := h2)) ha.mono (does_sum hh) m_sum
def fMaxD : F2 := fun d e Q => ∃ (ns : List Int) (i : Int), d = .lst (ns.map D.int) ∧ e = .int i ∧ Q (.int (maxI i ns))
theorem m_maxD : MonoF fMaxD := fun d e P P' g ⟨ns, i, e1, e2, q⟩ => ⟨ns, i, e1, e2, g _ q⟩
def vMaxD : ED → ED → ED := vOp fMaxD
theorem d_maxD (hh : X.A.handled = none) (hg : Gl X "max") (hm : X.mg "max" = none) (he : PD X e te) (hc : PD X c tc) (h1 : starEach [e] X.env = (false, eval e X.env) :: starEach [] X.env := by rfl) : PD X (.Call (.Name "max" p) [e] [⟨some "default", c, kp⟩] pos) (vMaxD te tc) := by
  refine d_bin (t := oE X.K te) (pe_maxD hg hm he.pe hc.pe h1) he.mono hc.mono ?_ m_maxD
  intro H x y d e Q hx hy ⟨ns, i, e1, e2, q⟩
  subst e1 e2
  cases hy
  cases hx with
  | lst g1 g2 =>
    rw [vals_int g2] at g1
    exact ⟨_, ns, i, rfl, rfl, hh, g1, q _ H (Same.refl _) (.int _)⟩
end
end DC

set_option maxHeartbeats 4000000
namespace DC
open PySem PySem.Spec PyProof.Rows L2
section
variable {K : PySem.W.Frag} {H H1 H4 : Hp} {μ : Mu} {L : List Addr}
end
section
variable {X : Cx} {st : Stmt} {rest body els : List Stmt} {t u : TMD} {e c : Expr} {te : ED} {uc : TD} {pos : Pos}
end
end DC

set_option maxHeartbeats 4000000
namespace DC
open PySem PySem.Spec PyProof.Rows L2
section
variable {K : PySem.W.Frag} {H : Hp} {μ : Mu} {L : List Addr} {a : Addr} {vs ys : List V} {ds : List D}
end
section
variable {X : Cx} {e : Expr} {te : ED} {es : List Expr} {t : AD} {i : Nat} {x : Str} {p pos pos' apos cpos : Pos}
end
end DC

set_option maxHeartbeats 4000000
namespace L2
open PySem PySem.Spec PyProof.Rows
section
variable {X : Cx} {tg : Expr} {g : TG}
end
end L2
namespace DC
open PySem PySem.Spec PyProof.Rows L2
section
variable {X : Cx} {tg iter : Expr} {body : List Stmt} {ti : AD} {g : TGD} {tb : TMD} {pos : Pos}
abbrev TGDs := List D → SD → (SD → Prop) → Prop
structure PGsd (X : Cx) (ts : List Expr) (g : TGDs) : Prop where
  pg : PGs X ts (fun vs σ H Q => ∃ ds δ, Dvs X.K H vs ds ∧ RelS X.K H σ δ ∧ g ds δ (kS X.K H Q))
  mono : ∀ ds δ (P P' : SD → Prop), (∀ δ, P δ → P' δ) → g ds δ P → g ds δ P'
def hNil : TGDs := fun ds δ Q => ds = [] ∧ Q δ
def hCons (t : TGD) (u : TGDs) : TGDs := fun ds δ Q => ∃ d r, ds = d :: r ∧ t d δ fun δ' => u r δ' Q
theorem PGs.imp {ts : List Expr} {t t' : TGs} (h : PGs X ts t) (f : ∀ v σ H Q, t' v σ H Q → t v σ H Q) : PGs X ts t' := fun pins s σ H v u Q I r q => h pins s σ H v u Q I r (f v σ H Q q)
theorem gs_nil : PGsd X [] hNil := ⟨PGs.imp pgs_nil fun vs σ H Q ⟨ds, δ, dv, r, e, q⟩ => by subst e; cases dv; exact ⟨rfl, q σ H (Same.refl _) r⟩, fun ds δ P P' f ⟨e, q⟩ => ⟨e, f _ q⟩⟩
theorem gs_cons {e : Expr} {es : List Expr} {t : TGD} {u : TGDs} (h1 : PGd X e t) (h2 : PGsd X es u) (hs : (assignEach (e :: es) X.env).map (·.2) = assign e X.env :: (assignEach es X.env).map (·.2) := by rfl) : PGsd X (e :: es) (hCons t u) := by
  refine ⟨PGs.imp (pgs_cons h1.pg h2.pg hs) fun vs σ H Q ⟨ds, δ, dv, r, d, dr, e, q⟩ => ?_, fun ds δ P P' f ⟨d, r, e, q⟩ => ⟨d, r, e, h1.mono _ _ _ _ (fun δ' k => h2.mono _ _ _ _ f k) q⟩⟩
  subst e
  cases dv with
  | cons a b => exact ⟨_, _, rfl, d, δ, a, r, h1.mono _ _ _ _ (fun δ' k σ' H' s' r' => ⟨dr, δ', Dvs.same s' b, r', h2.mono _ _ _ _ (fun δ'' z => z.on s') k⟩) q⟩
def hTup (n : Nat) (u : TGDs) : TGD := fun d δ Q => ∃ ds, d = .tup ds ∧ ds.length = n ∧ u ds δ Q
theorem g_tup {es : List Expr} {k : Nat} {u : TGDs} {n : Nat} (hc : X.calm = true) (h : PGsd X es u) (hn : (assignEach es X.env).length = n := by rfl) (hst : (assignEach es X.env).findIdx? (·.1) = none := by rfl) : PGd X (.Tuple es k pos) (hTup n u) := by
  refine ⟨PG.imp (pg_tup hc h.pg hn hst) fun v σ H Q ⟨d, δ, dv, r, ds, e, hl, q⟩ => ?_, fun d δ P P' f ⟨ds, e, hl, q⟩ => ⟨ds, e, hl, h.mono _ _ _ _ f q⟩⟩
  subst e
  cases dv with
  | tup h1 h2 => exact ⟨_, _, rfl, h1, by rw [h2.length]; exact hl, ds, δ, h2, r, q⟩
end
section
variable {P : Program} {w : World} {K : PySem.W.Frag} {mg : Str → Option Value} {base : Heap}
end
end DC

set_option maxHeartbeats 4000000
namespace DC
open PySem PySem.Spec PyProof.Rows L2
structure Cal (P : Program) (w : World) (K : PySem.W.Frag) (mg : Str → Option Value) (base : Heap) (k : Nat) (x : Str) (ps : List Str) (sd : SpD) : Prop where
  ex : ∃ f fd, FnOk P w K mg base CX0 k f fd ps (spOf K sd) ∧ mg x = some (.ref f) ∧ PySem.W.keepIn K (.ref f) = true ∧ Binds K fd ps []
  ms : MonoS sd
section
variable {P : Program} {w : World} {K : PySem.W.Frag} {mg : Str → Option Value} {base : Heap}
theorem Cal.up {j k : Nat} {x : Str} {ps : List Str} {sd : SpD} (c : Cal P w K mg base j x ps sd) (h : j ≤ k) : Cal P w K mg base k x ps sd :=
  ⟨let ⟨f, fd, F, r⟩ := c.ex; ⟨f, fd, F.mono h, r⟩, c.ms⟩
structure Df (K : PySem.W.Frag) (mg : Str → Option Value) (x : Str) (st : Stmt) (ps : List Str) : Prop where
  ex : ∃ f fd, Fun K x x st f fd ∧ mg x = some (.ref f) ∧ Binds K fd ps []
theorem Df.cal {k : Nat} {x : Str} {st : Stmt} {ps N : List Str} {sd : SpD} {t : TSD} (d : Df K mg x st ps) (S : FnScope N ps (defScope st)) (ms : MonoS sd) (len : ∀ ds Q, sd ds Q → ds.length = ps.length)
    (hb : ∀ (f : Addr) (cdv : Value) (A : Around) (outer : List Env) (s : Shared) (H : Hp) (E : XK), Room k (A.deeper (envOfC x (defScope st) s.heap.objs.size f cdv)) → PSsd (Bx P w K mg base N x st f cdv A outer s H E) (defBody st) t)
    (hr : ∀ ds Q, sd ds Q → t { nx := fun _ => Q .non, rt := Q } (startD N ds)) : Cal P w K mg base (k + 1) x ps sd := by
  obtain ⟨f, fd, F, m, b⟩ := d.ex
  exact ⟨⟨f, fd, okD F S len (hb f) hr, m, F.kp, b⟩, ms⟩
end
section
variable {X : Cx} {e : Expr} {es : List Expr} {t : AD} {j k : Nat} {x : Str} {ps : List Str} {sd : SpD} {p pos : Pos}
theorem d_cal (c : Cal X.prog X.w X.K X.mg X.base j x ps sd) (hr : Room k X.A) (hj : j ≤ k) (hg : Gl X x) (ha : PAd X (e :: es) t) (hdb : (x == ("__debug__" : Str)) = false := by decide)
    (h1 : starEach (e :: es) X.env = (false, eval e X.env) :: starEach es X.env := by rfl) (h2 : (backTo pos (starEach es X.env)).any (·.1) = false := by rfl) : PD X (.Call (.Name x p) (e :: es) [] pos) (vCall sd t) := by
  obtain ⟨f, fd, F, m, kp, b⟩ := c.ex
  exact d_call F c.ms (hr.mono hj) hg m kp b ha hdb (pe_call F (hr.mono hj) hg m kp b .nil pass0 ha.pa hdb h1 h2)
end
end DC

set_option maxHeartbeats 4000000
namespace DC
open PySem PySem.Spec PyProof.Rows L2
section
variable {X : Cx} {scope : Scope} {cl : List (Str × Addr)} {x : Str} {caps : List Nat} {cn : List Str} {tg iter elt : Expr} {ifs : List Expr} {ti : AD} {tt : TD} {te : ED} {pos : Pos}
theorem d_lc (S : CompScope X scope cl [x] caps cn) (hc : X.calm = true) (hi : PId X tg iter ti) (hg : ∀ C fp s₂ H₂, PG (cxComp X scope cl C ([x] ++ cn) fp s₂ H₂) tg (gName 0)) (ht : ∀ C fp s₂ H₂, PTsd (cxComp X scope cl C ([x] ++ cn) fp s₂ H₂) ifs tt)
    (he : ∀ C fp s₂ H₂, PD (cxComp X scope cl C ([x] ++ cn) fp s₂ H₂) elt te) (hs : ∀ x, foldedSetIterable iter X.env x = pure x := by intro _; rfl) : PD X (.ListComp elt [⟨tg, iter, ifs, 0⟩] scope pos) (vComp caps ti tt te) :=
  d_comp S hc hi hg ht he (ht 0 [] X.s₀ X.H₀).mono (he 0 [] X.s₀ X.H₀).mono hs
end
section
variable {X : Cx} {e : Expr} {te : ED} {p p2 pos : Pos}
theorem isi_bool (hg : Gl X "isinstance") (hm : X.mg "isinstance" = none) (hg2 : Gl X "bool") (hm2 : X.mg "bool" = none) (he : PD X e te) (hs : starEach [e, .Name "bool" p2] X.env = (false, eval e X.env) :: starEach [.Name "bool" p2] X.env := by rfl) : PD X (.Call (.Name "isinstance" p) [e, .Name "bool" p2] [] pos) (vIsiT "bool" te) := (d_isiT he hg hm hg2 hm2 boot_boolT (by decide) (by decide) hs).isiT he.mono (by decide)
theorem isi_int (hg : Gl X "isinstance") (hm : X.mg "isinstance" = none) (hg2 : Gl X "int") (hm2 : X.mg "int" = none) (he : PD X e te) (hs : starEach [e, .Name "int" p2] X.env = (false, eval e X.env) :: starEach [.Name "int" p2] X.env := by rfl) : PD X (.Call (.Name "isinstance" p) [e, .Name "int" p2] [] pos) (vIsiT "int" te) := (d_isiT he hg hm hg2 hm2 boot_intT (by decide) (by decide) hs).isiT he.mono (by decide)
end
end DC

set_option maxHeartbeats 4000000
namespace DC
open PySem PySem.Spec PyProof.Rows L2
structure Mcal (P : Program) (w : World) (K : PySem.W.Frag) (mg : Str → Option Value) (base : Heap) (j : Nat) (C : Addr) (m : Str) (sd : SpD) (dd : List D) : Prop where
  ex : ∃ f fd ps dvs ds, Cls K C ∧ Meth K C m f ∧ FnOk P w K mg base CX0 j f fd ps (spOf K sd) ∧ Binds K fd ps ds ∧ Vals dvs ds ∧ ∀ H, Dvs K H dvs dd
  ms : MonoS sd
theorem Mcal.mh {X : Cx} {j k : Nat} {C : Addr} {m : Str} {sd : SpD} {dd : List D} (c : Mcal X.prog X.w X.K X.mg X.base j C m sd dd) (hr : Room k X.A) (hj : j ≤ k) : MH X C m sd dd :=
  let ⟨f, fd, ps, dvs, ds, h1, h2, h3, h4, h5, h6⟩ := c.ex
  ⟨j, f, fd, ps, dvs, ds, h1, h2, h3, c.ms, hr.mono hj, h4, h5, h6⟩
theorem Mcal.up {P : Program} {w : World} {K : PySem.W.Frag} {mg : Str → Option Value} {base : Heap} {i j : Nat} {C : Addr} {m : Str} {sd : SpD} {dd : List D} (c : Mcal P w K mg base i C m sd dd) (h : i ≤ j) : Mcal P w K mg base j C m sd dd :=
  ⟨let ⟨f, fd, ps, dvs, ds, h1, h2, h3, r⟩ := c.ex; ⟨f, fd, ps, dvs, ds, h1, h2, h3.mono h, r⟩, c.ms⟩
structure Dm (K : PySem.W.Frag) (C : Addr) (m qual : Str) (st : Stmt) (ps : List Str) : Prop where
  ex : ∃ f fd, Fun K m qual st f fd ∧ Meth K C m f ∧ Cls K C ∧ Binds K fd ps []
section
variable {P : Program} {w : World} {K : PySem.W.Frag} {mg : Str → Option Value} {base : Heap}
theorem Dm.cal {k : Nat} {C : Addr} {m qual : Str} {st : Stmt} {ps N : List Str} {sd : SpD} {t : TSD} (d : Dm K C m qual st ps) (S : FnScope N ps (defScope st)) (ms : MonoS sd) (len : ∀ ds Q, sd ds Q → ds.length = ps.length)
    (hb : ∀ (f : Addr) (cdv : Value) (A : Around) (outer : List Env) (s : Shared) (H : Hp) (E : XK), Room k (A.deeper (envOfC qual (defScope st) s.heap.objs.size f cdv)) → PSsd (Bx P w K mg base N qual st f cdv A outer s H E) (defBody st) t)
    (hr : ∀ ds Q, sd ds Q → t { nx := fun _ => Q .non, rt := Q } (startD N ds)) : Mcal P w K mg base (k + 1) C m sd [] := by
  obtain ⟨f, fd, F, M, c, b⟩ := d.ex
  exact ⟨⟨f, fd, ps, [], [], c, M, okD F S len (hb f) hr, b, .nil, fun _ => .nil⟩, ms⟩
structure Di (K : PySem.W.Frag) (mg : Str → Option Value) (x : Str) (C : Addr) (qual : Str) (st : Stmt) (ps : List Str) (dd : List D) : Prop where
  ex : ∃ f fd dvs ds, FunV K "__init__" qual st f fd ∧ Mk K C f ∧ mg x = some (.ref C) ∧ Binds K fd ps ds ∧ Vals dvs ds ∧ ∀ H, Dvs K H dvs dd
end
section
variable {X : Cx} {ok : Addr → Prop} {o e : Expr} {es : List Expr} {m x : Str} {sd : Addr → SpD} {dd : List D} {ta : ED} {t : AD} {pos apos p : Pos} {j k : Nat} {C : Addr} {si : SpI}
theorem d_m0 {pl : Sem Bool} (hM : ∀ C, ok C → Mcal X.prog X.w X.K X.mg X.base j C m (sd C) dd) (hr : Room k X.A) (hj : j ≤ k) (he : PD X o ta)
    (ht : eval (.Call (.Attribute o m apos) [] [] pos) X.env = (do
      let ov ← eval o X.env
      standAt apos.atName
      let (f, first) ← holding [ov] (getMethod ov m pl)
      callWith pos f first (backTo pos (starEach [] X.env)) (backToKw pos (keywordEach [] X.env))) := by rfl) :
    PD X (.Call (.Attribute o m apos) [] [] pos) (vMeth ok m sd dd ta aNil) := d_meth0 (fun C h => (hM C h).mh hr hj) he ht
end
section
variable {X : Cx} {e : Expr} {te : ED} {p p2 pos pos' : Pos} {f x : Str} {C : Addr}
theorem d_fldK (K : PySem.W.Frag) (hK : X.K = K) (he : PD X e te) (hb : attributeBase e f X.env (eval e X.env) = eval e X.env) : PD X (.Attribute e f pos) (vFld K te f) := by subst hK; exact d_fld he hb
theorem i_setK (K : PySem.W.Frag) (hK : X.K = K) (hN : X.N[0]? = some x) (hv : Vis X.env.scope x) (he : PD X e te) (hs : swapsWith e (some (.Attribute (.Name x p) f pos')) pos.line X.env = pure false := by rfl) (hd : (x == ("__debug__" : Str)) = false := by decide)
    (hcd : (x == ("__classdict__" : Str)) = false := by decide) : PIn X C (.Assign [.Attribute (.Name x p) f pos'] e pos) (iSet K C f te) := by subst hK; exact i_set hN hv he hs hd hcd
end
end DC

set_option maxHeartbeats 4000000
namespace DC
open PySem PySem.Spec PyProof.Rows L2
section
variable {X : Cx} {o e : Expr} {es : List Expr} {to te : ED} {t : AD} {p p1 p2 tp pos apos cpos : Pos}
def sdSplit (z : D) : SpD := fun ds Q => ∃ x y, z = .str x ∧ ds = [.str y] ∧ (y.length == 0) = false ∧ x.length + 2 ≤ sizeLine ∧ Q (.lst ((Txt.split x y).map D.str))
theorem dvs_strs {K : PySem.W.Frag} {H : Hp} : ∀ (ws : List Str), Dvs K H (ws.map V.str) (ws.map D.str)
  | [] => .nil
  | w :: ws => .cons (.str w) (dvs_strs ws)
def isStr : D → Prop := fun d => ∃ x, d = .str x
def vBmS (sd : D → SpD) (to : ED) (t : AD) : ED := fun δ Q => to δ fun z => isStr z ∧ t δ fun ds => sd z ds Q
theorem d_split (ho : PD X o to) (ha : PAd X (e :: es) t) (hbase : attributeBase o "split" X.env (eval o X.env) = eval o X.env := by rfl)
    (hfew : ((backTo cpos (starEach (e :: es) X.env)).all (fun x => !x.1) && (backToKw cpos (keywordEach [] X.env)).all (fun x => x.1.isSome) && decide ((e :: es).length + ([] : List Keyword).length + (if ([] : List Keyword).isEmpty then 0 else 1) < 30)) = true := by rfl)
    (hline : (apos.endLine == cpos.line) = true := by rfl) (hs : starEach (e :: es) X.env = (false, eval e X.env) :: starEach es X.env := by rfl) (hplain : (backTo cpos (starEach es X.env)).any (·.1) = false := by rfl) :
    PD X (.Call (.Attribute o "split" apos) (e :: es) [] cpos) (vBmS sdSplit to t) := by
  refine ⟨(pe_bm PySem.F.plainAttrs_str PySem.F.slot_str_split PySem.F.type_str_split mt_split ho.pe ha.pa hbase hfew hline hs hplain).imp fun σ H Q ⟨δ, r, h⟩ => ⟨δ, r, ho.mono _ _ _ (fun z ⟨⟨x, ez⟩, q⟩ v H1 s1 dv => ?_) h⟩,
    fun δ P P' g h => ho.mono _ _ _ (fun z ⟨i, q⟩ => ⟨i, ha.mono _ _ _ (fun ds ⟨x, y, e1, e2, c1, c2, k⟩ => ⟨x, y, e1, e2, c1, c2, g _ k⟩) q⟩) h⟩
  subst ez
  cases dv
  refine ⟨rfl, δ, r.same s1, ha.mono _ _ _ (fun ds ⟨x', y, e1, e2, c1, c2, k⟩ vs H2 s2 dvs => ?_) q⟩
  cases e1
  subst e2
  cases dvs with
  | cons a b =>
    cases a
    cases b
    exact ⟨_, y, rfl, rfl, c1, c2, fun p hp => k _ _ ((s1.trans s2).trans (same_upd hp)) (.lst (SqL.of upd_same) (dvs_strs _))⟩
end
end DC

set_option maxHeartbeats 4000000
namespace L2
open PySem PySem.Spec PyProof.Rows
section
variable {X : Cx}
end
end L2
namespace DC
open PySem PySem.Spec PyProof.Rows L2
section
variable {X : Cx} {e : Expr} {es : List Expr} {t : AD} {p pos : Pos}
end
end DC

set_option maxHeartbeats 4000000
namespace L2
open PySem PySem.Spec PyProof.Rows
section
variable {prog : Program} {w : World} {A : Around} {E : Value → Shared → Prop} {s : Shared}
end
section
variable {prog : Program} {w : World} {A : Around}
end
section
variable {prog : Program} {w : World} {A : Around} {E : Value → Shared → Prop} {s : Shared} {z TI TO i1 i2 l1 l2 : Addr} {k1 k2 : Nat} {xs ys : Array Value} {x y a b : Value} {S1 S2 : Nat → Heap → Prop}
end
end L2

set_option maxHeartbeats 4000000
namespace L2
open PySem PySem.Spec PyProof.Rows
section
variable {prog : Program} {w : World} {A : Around} {E : Value → Shared → Prop} {s : Shared} {z TI TO i1 i2 l1 l2 : Addr} {k1 k2 : Nat} {xs ys : Array Value} {x y a b : Value} {S1 S2 : Nat → Heap → Prop}
end
end L2

set_option maxHeartbeats 4000000
namespace L2
open PySem PySem.Spec PyProof.Rows
section
variable {X : Cx} {pins : List (Addr × Obj)} {σ : St} {H : Hp} {s : Shared} {a : Addr} {xs ys : List V}
end
end L2

set_option maxHeartbeats 4000000
namespace L2
open PySem PySem.Spec PyProof.Rows
section
variable {X : Cx} {e1 e2 : Expr} {ta : TA} {p pos tp : Pos} {elts : List Expr} {c : Nat}
end
end L2
namespace DC
open PySem PySem.Spec PyProof.Rows L2
section
variable {X : Cx} {e1 e2 : Expr} {ta : AD} {p pos tp : Pos} {elts : List Expr} {c : Nat}
end
end DC

set_option maxHeartbeats 4000000
namespace DC
open PySem PySem.Spec PyProof.Rows L2
section
variable {X : Cx} {scope : Scope} {cl : List (Str × Addr)} {x y : Str} {cn : List Str} {caps : List Nat} {elt tg iter : Expr} {ifs : List Expr} {ti : AD} {tt : TD} {te : ED} {pos px py tp : Pos} {c : Nat}
end
end DC

set_option maxHeartbeats 4000000
namespace DC
open PySem PySem.Spec PyProof.Rows L2
section
variable {K : PySem.W.Frag} {H H' : Hp} {μ μ' : Mu} {L L' : List Addr}
end
section
variable {P : Program} {w : World} {K : PySem.W.Frag} {mg : Str → Option Value} {base : Heap}
end
section
variable {X : Cx} {o e : Expr} {es : List Expr} {ta : ED} {t : AD} {tf : EF} {j k : Nat} {x m : Str} {ps : List Str} {sd : SpF} {sm : Addr → SpF} {ok : Addr → Prop} {p pos pos' apos : Pos} {i : Nat}
end
end DC

set_option maxHeartbeats 4000000
namespace DC
open PySem PySem.Spec PyProof.Rows L2
inductive Ents : List (Str × V) → List DictEntry → Prop
  | nil : Ents [] []
  | cons {x : Str} {t : Tok} {v : V} {e : DictEntry} {kvs : List (Str × V)} {es : List DictEntry} : e.key = .str x t → RelV v e.val → Ents kvs es → Ents ((x, v) :: kvs) (e :: es)
structure KTab (w : World) (K : PySem.W.Frag) (a : Addr) (kvs : List (Str × V)) : Prop where
  ex : ∃ (es : Array DictEntry) (n : Nat), K.lookup a = some ⟨.type "dict", none, .dict es n, #[]⟩ ∧ PySem.W.KeysLit w.params es.toList ∧ Ents kvs es.toList
  sys : (a == sysModules) = false
theorem Ents.has {x : Str} : ∀ {kvs : List (Str × V)} {es : List DictEntry}, Ents kvs es → ((es.find? fun d => Value.isStrOf x d.key).map (·.val)).isSome = kvs.any fun p => p.1 == x
  | _, _, .nil => rfl
  | _, _, .cons (x := y) (e := e) hk hv r => by
    have ih := Ents.has (x := x) r
    rw [List.find?_cons, hk, List.any_cons]
    show (Option.map (·.val) (match (y == x) with | true => some e | false => _)).isSome = (y == x || _)
    cases h : (y == x) with
    | true => rfl
    | false => exact ih
theorem Ents.get {x : Str} {v : V} : ∀ {kvs : List (Str × V)} {es : List DictEntry}, Ents kvs es → kvs.lookup x = some v → ∃ u, (es.find? fun d => Value.isStrOf x d.key).map (·.val) = some u ∧ RelV v u
  | _, _, .nil, h => by cases h
  | _, _, .cons (x := y) (e := e) hk hv r, h => by
    rw [List.lookup_cons] at h
    rw [List.find?_cons, hk]
    show ∃ u, Option.map (·.val) (match (y == x) with | true => some e | false => _) = some u ∧ RelV v u
    rw [show (y == x) = (x == y) from Bool.beq_comm]
    cases q : (x == y) with
    | true => rw [q] at h; cases h; exact ⟨_, rfl, hv⟩
    | false => rw [q] at h; exact Ents.get r h
section
variable {X : Cx} {a : Addr} {kvs : List (Str × V)}
theorem op_inK (T : KTab X.w X.K a kvs) : OpR X (compareOp .In) (fun x y H Q => ∃ z, x = .str z ∧ y = .ref a ∧ Q (.bl (kvs.any fun p => p.1 == z)) H) := by
  intro pins s σ H x y v u Q I rx ry h
  obtain ⟨z, rfl, rfl, q⟩ := h
  obtain ⟨t, rfl⟩ := (show ∃ t, v = Value.str z t from rx)
  cases (show u = Value.ref a from ry)
  obtain ⟨es, n, hl, hk, he⟩ := T.ex
  refine wpAny_in_of (strKind_is X.prog X.w z t) T.sys (PySem.W.mapOf_K (prog := X.prog) I.kIn hl hk) ?_
  have e : (findBy Value.isStrOf es z).isSome = kvs.any fun p => p.1 == z := by
    unfold findBy
    obtain ⟨l⟩ := es
    rw [List.find?_toArray]
    exact he.has
  rw [e]
  exact ⟨.bl _, H, I.tok _, rfl, q⟩
theorem op_notInK (T : KTab X.w X.K a kvs) : OpR X (compareOp .NotIn) (fun x y H Q => ∃ z, x = .str z ∧ y = .ref a ∧ Q (.bl (!kvs.any fun p => p.1 == z)) H) := by
  intro pins s σ H x y v u Q I rx ry h
  obtain ⟨z, rfl, rfl, q⟩ := h
  obtain ⟨t, rfl⟩ := (show ∃ t, v = Value.str z t from rx)
  cases (show u = Value.ref a from ry)
  obtain ⟨es, n, hl, hk, he⟩ := T.ex
  refine wpAny_notIn_of (strKind_is X.prog X.w z t) T.sys (PySem.W.mapOf_K (prog := X.prog) I.kIn hl hk) ?_
  have e : (findBy Value.isStrOf es z).isSome = kvs.any fun p => p.1 == z := by
    unfold findBy
    obtain ⟨l⟩ := es
    rw [List.find?_toArray]
    exact he.has
  rw [e]
  exact ⟨.bl _, H, I.tok _, rfl, q⟩
theorem ix_getK (T : KTab X.w X.K a kvs) : IxR X (fun x y H Q => ∃ z r, x = .ref a ∧ y = .str z ∧ kvs.lookup z = some r ∧ Q r H) := by
  intro value slice pins s σ H x y v u Q I rx ry h hs
  obtain ⟨z, r, rfl, rfl, hr, q⟩ := h
  obtain ⟨t, rfl⟩ := (show ∃ t, u = Value.str z t from ry)
  cases (show v = Value.ref a from rx)
  obtain ⟨es, n, hl, hk, he⟩ := T.ex
  have hm := PySem.W.mapOf_K (prog := X.prog) (w := X.w) I.kIn hl hk
  obtain ⟨b, hb, rb⟩ := he.get hr
  have e : findBy Value.isStrOf es z = some b := by
    unfold findBy
    obtain ⟨l⟩ := es
    rw [List.find?_toArray]
    exact hb
  exact tail_any hm.typeIs slot_dict_getitem.lookup (wpAny_getItem_of (strKind_is X.prog X.w z t) hm e ⟨r, H, I.tok _, rb, q⟩) hs
end
inductive Tb (K : PySem.W.Frag) : List (Str × V) → List (Str × D) → Prop
  | nil : Tb K [] []
  | cons {x : Str} {v : V} {d : D} {kvs : List (Str × V)} {tab : List (Str × D)} : (∀ H, Dv K H v d) → Tb K kvs tab → Tb K ((x, v) :: kvs) ((x, d) :: tab)
structure KTd (w : World) (K : PySem.W.Frag) (mg : Str → Option Value) (x : Str) (a : Addr) (tab : List (Str × D)) : Prop where
  at_ : mg x = some (.ref a)
  ex : ∃ kvs, KTab w K a kvs ∧ Tb K kvs tab
theorem Tb.any {K : PySem.W.Frag} {z : Str} : ∀ {kvs : List (Str × V)} {tab : List (Str × D)}, Tb K kvs tab → (kvs.any fun p => p.1 == z) = tab.any fun p => p.1 == z
  | _, _, .nil => rfl
  | _, _, .cons h r => by rw [List.any_cons, List.any_cons, Tb.any r]
theorem Tb.look {K : PySem.W.Frag} {z : Str} {d : D} : ∀ {kvs : List (Str × V)} {tab : List (Str × D)}, Tb K kvs tab → tab.lookup z = some d → ∃ v, kvs.lookup z = some v ∧ ∀ H, Dv K H v d
  | _, _, .nil, h => by cases h
  | _, _, .cons (x := x) h r, e => by
    rw [List.lookup_cons] at e ⊢
    cases q : z == x with
    | true => rw [q] at e; cases e; exact ⟨_, rfl, h⟩
    | false => rw [q] at e; exact Tb.look r e
theorem PD.weak {X : Cx} {e : Expr} {t t' : ED} (h : PD X e t) (m : MonoE t') (f : ∀ δ Q, t' δ Q → t δ Q) : PD X e t' := ⟨h.pe.imp fun σ H Q ⟨δ, r, q⟩ => ⟨δ, r, f _ _ q⟩, m⟩
theorem PTd.weak {X : Cx} {e : Expr} {t t' : TD} (h : PTd X e t) (m : MonoT t') (f : ∀ δ Q, t' δ Q → t δ Q) : PTd X e t' := ⟨PT.imp h.pt fun σ H Q ⟨δ, r, q⟩ => ⟨δ, r, f _ _ q⟩, m⟩
def vInK (neg : Bool) (tab : List (Str × D)) (te : ED) : ED := fun δ Q => te δ fun d => ∃ z, d = .str z ∧ Q (.bl (if neg then !tab.any fun p => p.1 == z else tab.any fun p => p.1 == z))
theorem m_inK {neg : Bool} {tab : List (Str × D)} {te : ED} (m : MonoE te) : MonoE (vInK neg tab te) := fun δ P P' g h => m _ _ _ (fun d ⟨z, e, q⟩ => ⟨z, e, g _ q⟩) h
def fInK (neg : Bool) (a : Addr) (tab : List (Str × D)) : F2 := fun d e Q => ∃ z, d = .str z ∧ e = .adr a ∧ Q (.bl (if neg then !tab.any fun p => p.1 == z else tab.any fun p => p.1 == z))
theorem m_fInK {neg : Bool} {a : Addr} {tab : List (Str × D)} : MonoF (fInK neg a tab) := fun d e P P' g ⟨z, e1, e2, q⟩ => ⟨z, e1, e2, g _ q⟩
def vGetK (tab : List (Str × D)) (te : ED) : ED := fun δ Q => te δ fun d => ∃ z r, d = .str z ∧ tab.lookup z = some r ∧ Q r
def fGetK (a : Addr) (tab : List (Str × D)) : F2 := fun e d Q => ∃ z r, e = .adr a ∧ d = .str z ∧ tab.lookup z = some r ∧ Q r
theorem m_fGetK {a : Addr} {tab : List (Str × D)} : MonoF (fGetK a tab) := fun d e P P' g ⟨z, r, e1, e2, l, q⟩ => ⟨z, r, e1, e2, l, g _ q⟩
section
variable {X : Cx} {a : Addr} {tab : List (Str × D)} {kvs : List (Str × V)} {x : Str} {p pos : Pos} {e : Expr} {te : ED}
theorem does_inK (t : Tb X.K kvs tab) : Does X.K (fun x y H Q => ∃ z, x = .str z ∧ y = .ref a ∧ Q (.bl (kvs.any fun p => p.1 == z)) H) (fInK false a tab) := by
  rintro H v u d e Q hv hu ⟨z, rfl, rfl, q⟩
  cases hv
  cases hu
  exact ⟨z, rfl, rfl, by rw [t.any]; exact q _ H (Same.refl _) (.bl _)⟩
theorem does_notInK (t : Tb X.K kvs tab) : Does X.K (fun x y H Q => ∃ z, x = .str z ∧ y = .ref a ∧ Q (.bl (!kvs.any fun p => p.1 == z)) H) (fInK true a tab) := by
  rintro H v u d e Q hv hu ⟨z, rfl, rfl, q⟩
  cases hv
  cases hu
  exact ⟨z, rfl, rfl, by rw [t.any]; exact q _ H (Same.refl _) (.bl _)⟩
theorem does_getK (t : Tb X.K kvs tab) : Does X.K (fun x y H Q => ∃ z r, x = .ref a ∧ y = .str z ∧ kvs.lookup z = some r ∧ Q r H) (fGetK a tab) := by
  rintro H v u d e Q hv hu ⟨z, r, rfl, rfl, l, q⟩
  cases hv
  cases hu
  obtain ⟨b, hb, db⟩ := t.look l
  exact ⟨z, b, rfl, rfl, hb, q _ H (Same.refl _) (db H)⟩
theorem d_inK (T : KTd X.w X.K X.mg x a tab) (hg : Gl X x) (he : PD X e te) (hm : behindInMarks .In (.Name x p) = false := by rfl) (hd : (x == ("__debug__" : Str)) = false := by decide) : PD X (.Compare e [.In] [.Name x p] pos) (vInK false tab te) := by
  obtain ⟨kvs, k, t⟩ := T.ex
  exact (d_cmp (op_inK k) (does_inK t) m_fInK he (d_glob (v := .ref a) hg T.at_ rfl (fun _ => .adr a) hd) hm).weak (m_inK he.mono) fun δ Q h => he.mono _ _ _ (fun d ⟨z, e1, q⟩ => ⟨z, e1, rfl, q⟩) h
theorem t_notinK (T : KTd X.w X.K X.mg x a tab) (hg : Gl X x) (he : PD X e te) (hm : behindInMarks .NotIn (.Name x p) = false := by rfl) (hd : (x == ("__debug__" : Str)) = false := by decide) : PTd X (.Compare e [.NotIn] [.Name x p] pos) (vTest (vInK true tab te)) := by
  obtain ⟨kvs, k, t⟩ := T.ex
  exact (t_cmp (op_notInK k) (does_notInK t) m_fInK he (d_glob (v := .ref a) hg T.at_ rfl (fun _ => .adr a) hd) hm).weak (m_test (m_inK he.mono)) fun δ Q h => he.mono _ _ _ (fun d ⟨z, e1, q⟩ => ⟨z, e1, rfl, q⟩) h
theorem d_getK (T : KTd X.w X.K X.mg x a tab) (hg : Gl X x) (he : PD X e te) (hs : PlainIx e) (hd : (x == ("__debug__" : Str)) = false := by decide) : PD X (.Subscript (.Name x p) e pos) (vGetK tab te) := by
  obtain ⟨kvs, k, t⟩ := T.ex
  have q := d_glob (X := X) (pos := p) (v := .ref a) hg T.at_ rfl (fun _ => .adr a) hd
  exact (d_bin (t := oE X.K (vC (.adr a))) (pe_ix (ix_getK k) q.pe he.pe hs) q.mono he.mono (does_getK t) m_fGetK).weak (fun δ P P' g h => he.mono _ _ _ (fun d ⟨z, r, e, l, q⟩ => ⟨z, r, e, l, g _ q⟩) h) fun δ Q h => he.mono _ _ _ (fun d ⟨z, r, e1, l, q⟩ => ⟨z, r, rfl, e1, l, q⟩) h
end
def mO (g : D → D) (ds : List D) : List (Option D) := ds.map fun d => some (g d)
theorem mO_len {g : D → D} {ds : List D} : (mO g ds).length = ds.length := by simp [mO]
theorem mO_at {g : D → D} {ds : List D} {i : Nat} {d : D} {o : Option D} (h1 : ds[i]? = some d) (h2 : (mO g ds)[i]? = some o) : d ∈ ds ∧ o = some (g d) := by
  unfold mO at h2
  rw [List.getElem?_map, h1] at h2
  exact ⟨List.mem_of_getElem? h1, by simpa using h2.symm⟩
theorem mO_out {g : D → D} : ∀ {ds : List D}, (mO g ds).filterMap id = ds.map g
  | [] => rfl
  | d :: ds => by
    have ih := mO_out (g := g) (ds := ds)
    unfold mO at ih ⊢
    rw [List.map_cons, List.map_cons, ← ih]
    rfl
end DC
namespace DC
open PySem PySem.Spec PyProof.Rows L2
section
variable {X : Cx} {e : Expr} {tf : EF} {x : Str} {pos pos' : Pos} {i : Nat}
end
end DC

set_option maxHeartbeats 4000000
namespace L2
open PySem PySem.Spec PyProof.Rows
section
variable {X : Cx} {es : List Expr} {t : TA}
end
end L2
namespace DC
open PySem PySem.Spec PyProof.Rows L2
section
variable {P : Program} {w : World} {K : PySem.W.Frag} {mg : Str → Option Value} {base : Heap}
end
section
variable {P : Program} {w : World} {K : PySem.W.Frag} {mg : Str → Option Value} {base : Heap}
end
section
variable {X : Cx} {o e : Expr} {es : List Expr} {ta : ED} {t : AD} {j k : Nat} {x y m : Str} {ps : List Str} {sd : SpM} {sm : Addr → SpM} {ok : Addr → Prop} {p pos pos' pos2 apos : Pos} {i : Nat}
end
end DC

set_option maxHeartbeats 4000000
namespace L2
open PySem PySem.Spec PyProof.Rows
def ExAt (B : Heap) (e C : Addr) (dx : Option Addr) (fl : Option Value) (h : Heap) : Prop := ∃ oe vs, h.get? e = some oe ∧ oe.cls = .ref C ∧ oe.dict = dx ∧ oe.data = .fields vs ∧ 1 < vs.size ∧ vs[2]? = some .none ∧
  match fl with
  | none => vs[1]? = some .none
  | some v => ∃ T oT ts, vs[1]? = some (.ref T) ∧ B.get? T = none ∧ T ≠ e ∧ h.get? T = some oT ∧ oT.data = .fields ts ∧ ts[3]? = some v
structure Air (B : Heap) (l : List Env) (e : Addr) (h : Heap) : Prop where
  st : B.StaysIn h
  ne : B.get? e = none
  fr : h.FunFrames B l
theorem dict_mapFields (o : Obj) (f : Array Value → Array Value) : (o.mapFields f).dict = o.dict := by
  obtain ⟨c, d, dt, sl⟩ := o
  cases dt <;> rfl
section
variable {M : Model} {A : Around} {E : Value → Shared → Prop} {s : Shared} {B : Heap} {env : Env} {outer : List Env} {L e C : Addr} {dx : Option Addr} {Q : Unit → Shared → Prop}
theorem entry_x {oe : Obj} {vs : Array Value} {head : Value} {b : Bool} (hfr : A.frames = some (env :: outer)) (hf : env.frame = some L) (a : Air B (env :: outer) e s.heap) (he : s.heap.get? e = some oe) (hc : oe.cls = .ref C)
    (hdx : oe.dict = dx) (hd : oe.data = .fields vs) (hz : 1 < vs.size) (hy : vs[2]? = some .none) (h : ∀ h', Air B (env :: outer) e h' → s.heap.UpToSlots h' → ExAt B e C dx (some (rawInt L)) h' → Q () { s with heap := h' }) :
    wpAny M A (do let a ← frameOf env; let pl ← entryPlaceOf L b; let z ← EntryCells.newEntry head a .none (rawInt L) .none pl; setField (.ref e) 1 z) Q E s := by
  have nfr : e ∉ (env :: outer).filterMap (·.frame) := fun hm => by
    obtain ⟨_, o, ho, hn⟩ := a.fr.mem hm
    rw [he] at ho
    cases ho
    exact hn vs hd
  refine wpAny_bind (wpAny_frameOf_fun hfr a.fr hf fun h1 s1 => wpAny_bind (wpAny_entryPlaceOf fun pl hpl => ?_))
  unfold EntryCells.newEntry newFields
  refine wpAny_bind (wpAny_newObj_type ?_ (hpl.sizeOk5 _ _ _ _ _))
  have e1 : h1.get? e = some oe := (s1.2.1 e nfr).trans he
  have b1 : B.StaysIn h1 := fun c o q => (s1.2.1 c fun hm => by rw [(a.fr.mem hm).1] at q; cases q).trans (a.st c o q)
  generalize hob : ({ cls := .type "traceback", dict := none, data := .fields ([head, .ref L, .none, rawInt L, .none] ++ (if pl.isEmpty then List.replicate 6 Value.none else pl)).toArray } : Obj) = ob
  have e2 := Heap.get?_push_of_some (h := h1) ob e1
  have hTe : h1.objs.size ≠ e := Nat.ne_of_gt (Heap.lt_size e1)
  have d3 := Obj.data_mapFields hd (·.setIfInBounds 1 (Value.ref h1.objs.size))
  have e3 := Heap.get?_update_self (Obj.mapFields (·.setIfInBounds 1 (Value.ref h1.objs.size))) e2 (Obj.isFreed_of_fields d3)
  have t3 := (Heap.get?_update_other (h1.push ob) (Obj.mapFields (·.setIfInBounds 1 (Value.ref h1.objs.size))) (Ne.symm hTe)).trans (Heap.get?_push_size h1 (by rw [← hob]; rfl))
  have kp : ∀ c o, c ≠ e → h1.get? c = some o → ((h1.push ob).update e (Obj.mapFields (·.setIfInBounds 1 (Value.ref h1.objs.size)))).get? c = some o := fun c o n q => by
    rw [Heap.get?_update_other _ _ (Ne.symm n)]
    exact Heap.get?_push_of_some _ q
  have nr : ∀ c o, s.heap.get? c = some o → (∀ ws, o.data ≠ .fields ws) → c ≠ e := fun c o q n z => by
    rw [z, he] at q
    cases q
    exact n vs hd
  refine wpAny_setField e2 hd hz (h _ ⟨fun c o q => kp c o (fun z => by rw [z, a.ne] at q; cases q) (b1 c o q), a.ne, a.fr.of_keeps fun c o q n => ?_⟩ (fun c o q n => ?_) ⟨_, _, e3, ?_, ?_, d3, ?_, ?_, ?_⟩)
  · obtain ⟨sl, z⟩ := s1.2.2 c o q
    exact ⟨_, kp c _ (nr c o q n) z, rfl⟩
  · obtain ⟨sl, z⟩ := s1.2.2 c o q
    exact ⟨sl, kp c _ (nr c o q n) z⟩
  · rw [Obj.cls_mapFields]; exact hc
  · rw [dict_mapFields]; exact hdx
  · rw [Array.size_setIfInBounds]; exact hz
  · rw [Array.getElem?_setIfInBounds_ne (by decide)]; exact hy
  · refine ⟨h1.objs.size, ob, _, by simp [hz], b1.fresh, hTe, t3, by rw [← hob], ?_⟩
    first | (simp; done) | (rcases hpl with rfl | ⟨_, _, _, _, _, _, _, rfl⟩ <;> simp)
theorem upd_T {T : Addr} {oT : Obj} {ts : Array Value} {k : Nat} {v : Value} {h : Heap} {l : List Env} (a : Air B l e h) (hT : h.get? T = some oT) (hd : oT.data = .fields ts) (hn : B.get? T = none) :
    Air B l e (h.update T (Obj.mapFields (·.setIfInBounds k v))) ∧ h.UpToSlots (h.update T (Obj.mapFields (·.setIfInBounds k v))) := by
  have other : ∀ b, b ≠ T → (h.update T (Obj.mapFields (·.setIfInBounds k v))).get? b = h.get? b := fun b n => Heap.get?_update_other _ _ (Ne.symm n)
  have nr : ∀ c o, h.get? c = some o → (∀ ws, o.data ≠ .fields ws) → c ≠ T := fun c o q n z => by
    rw [z, hT] at q
    cases q
    exact n ts hd
  exact ⟨⟨fun b o q => (other b fun z => by rw [z, hn] at q; cases q).trans (a.st b o q), a.ne, a.fr.of_keeps fun c o q n => ⟨o, (other c (nr c o q n)).trans q, rfl⟩⟩, fun c o q n => ⟨o.slots, (other c (nr c o q n)).trans q⟩⟩
theorem note_x {fl : Option Value} (hfr : A.frames = some (env :: outer)) (hf : env.frame = some L) (a : Air B (env :: outer) e s.heap) (x : ExAt B e C dx fl s.heap)
    (h : ∀ h', Air B (env :: outer) e h' → s.heap.UpToSlots h' → ExAt B e C dx (some (rawInt L)) h' → Q () { s with heap := h' }) : wpAny M A (noteFrame (.ref e) env) Q E s := by
  obtain ⟨oe, vs, he, hc, hdx, hd, hz, hy, x⟩ := x
  unfold noteFrame
  simp only [hf]
  cases fl with
  | none =>
    refine wpAny_bind (wpAny_field he hd x ?_)
    rw [if_neg (by decide)]
    exact entry_x hfr hf a he hc hdx hd hz hy h
  | some v =>
    obtain ⟨T, oT, ts, h1, hn, hTe, hT, hdT, h3⟩ := x
    refine wpAny_bind (wpAny_field he hd h1 ?_)
    rw [if_pos (show (Value.ref T != Value.none) = true from by simp)]
    refine wpAny_bind (wpAny_field hT hdT h3 ?_)
    by_cases q : (v == rawInt L) = true
    · rw [if_pos q]
      have ev : v = rawInt L := eq_of_beq q
      subst ev
      exact wpAny_pure (h _ a (.refl _) ⟨oe, vs, he, hc, hdx, hd, hz, hy, T, oT, ts, h1, hn, hTe, hT, hdT, h3⟩)
    · rw [if_neg q]
      refine wpAny_bind (wpAny_setField hT hdT (Array.getElem?_eq_some_iff.mp h3).1 ?_)
      obtain ⟨a2, u2⟩ := upd_T (k := 3) (v := Value.none) a hT hdT hn
      have e2 : (s.heap.update T (Obj.mapFields (·.setIfInBounds 3 Value.none))).get? e = some oe := (Heap.get?_update_other _ _ hTe).trans he
      exact entry_x (s := { s with heap := s.heap.update T (Obj.mapFields (·.setIfInBounds 3 Value.none)) }) hfr hf a2 e2 hc hdx hd hz hy fun h' a' u' x' => h h' a' (u2.trans u') x'
theorem flight_x {v : Value} {f : Option Addr} {l : List Env} (a : Air B l e s.heap) (x : ExAt B e C dx (some v) s.heap)
    (h : ∀ h', Air B l e h' → s.heap.UpToSlots h' → ExAt B e C dx (some (f.elim .none fun f => rawInt f)) h' → Q () { s with heap := h' }) : wpAny M A (setFlight (.ref e) f) Q E s := by
  obtain ⟨oe, vs, he, hc, hdx, hd, hz, hy, T, oT, ts, h1, hn, hTe, hT, hdT, h3⟩ := x
  unfold setFlight
  refine wpAny_bind (wpAny_field he hd h1 ?_)
  rw [if_pos (show (Value.ref T != Value.none) = true from by simp)]
  have hz3 : 3 < ts.size := (Array.getElem?_eq_some_iff.mp h3).1
  obtain ⟨a2, u2⟩ := upd_T (k := 3) (v := f.elim Value.none fun f => rawInt f) a hT hdT hn
  refine wpAny_setField hT hdT hz3 (h _ a2 u2 ⟨oe, vs, (Heap.get?_update_other _ _ hTe).trans he, hc, hdx, hd, hz, hy, T, _, _, h1, hn, hTe, Heap.get?_update_self _ hT (Obj.isFreed_of_fields (Obj.data_mapFields hdT _)), Obj.data_mapFields hdT _, by simp [hz3]⟩)
theorem leave_x {fl : Option Value} (hfr : A.frames = some (env :: outer)) (hf : env.frame = some L) (a : Air B (env :: outer) e s.heap) (x : ExAt B e C dx fl s.heap)
    (h : ∀ h', Air B outer e h' → s.heap.UpToSlots h' → ExAt B e C dx (some .none) h' → Q () { s with heap := h' }) : wpAny M A (leaving env (.ref e)) Q E s := by
  unfold leaving
  refine wpAny_bind (note_x hfr hf a x fun h1 a1 u1 x1 => ?_)
  refine flight_x (s := { s with heap := h1 }) a1 x1 fun h2 a2 u2 x2 => h h2 ⟨a2.st, a2.ne, a2.fr.2.2⟩ (u1.trans u2) x2
end
theorem note_eq {a b : Env} {e : Value} (h : a.frame = b.frame) : noteFrame e a = noteFrame e b := by
  unfold noteFrame PySem.frameOf
  rw [h]
end L2

set_option maxHeartbeats 4000000
namespace L2
open PySem PySem.Spec PyProof.Rows
def HO.dx? : HO → Option Addr
  | .ins _ dx _ => some dx
  | .frz _ u => u.dx?
  | _ => none
section
variable {P : Program} {w : World} {H H' : Hp} {h h' : Heap} {a d : Addr} {u : HO}
theorem ObjOk.there (x : ObjOk P w H h a u) : ∃ o, h.get? a = some o := by
  cases u with
  | lst xs => obtain ⟨_, _, _, _, e⟩ := x; exact ⟨_, e⟩
  | tup xs => obtain ⟨_, _, _, o, e, _⟩ := x; exact ⟨_, e⟩
  | dK kvs => obtain ⟨_, _, _, _, o, _, _, e, _⟩ := x; exact ⟨_, e⟩
  | dT kvs => obtain ⟨_, _, _, _, o, _, _, e, _⟩ := x; exact ⟨_, e⟩
  | set S n => obtain ⟨o, _, _, _, e, _⟩ := x; exact ⟨_, e⟩
  | ins C dx fs => obtain ⟨_, _, _, e, _⟩ := x; exact ⟨_, e⟩
  | own y => exact x
  | xd fs => obtain ⟨_, ⟨o, _, _, e, _⟩, _⟩ := x; exact ⟨_, e⟩
  | rng lo hi => obtain ⟨_, _, _, e⟩ := x; exact ⟨_, e⟩
  | frz ob u => obtain ⟨e, _⟩ := x; exact ⟨_, e⟩
  | tbl ps => exact ⟨_, x⟩
  | met f y => exact ⟨_, x⟩
  | ext φ => obtain ⟨_, e, _⟩ := x; exact e
theorem ObjOk.own_of (x : ObjOk P w H h a u) (e : u.dx? = some d) : H d = some (.own a) := by
  induction u with
  | ins C dx fs => cases e; exact x.1
  | frz o u ih => exact ih x.2 e
  | _ => cases e
theorem ObjOk.swap (ht : ∀ b xs, H b = some (.tup xs) → H' b = some (.tup xs)) (ho : ∀ d, u.dx? = some d → H' d = some (.own a)) (x : ObjOk P w H h a u) : ObjOk P w H' h a u := by
  induction u with
  | dT _ =>
    obtain ⟨z, y, xs, r, c⟩ := x
    exact ⟨z, y, xs, Paired.mapP r fun p q z => ⟨z.1, ht _ _ z.2.1, z.2.2⟩, c⟩
  | ins _ dx _ => exact ⟨ho dx rfl, x.2⟩
  | frz _ u ih => exact ⟨x.1, ih ho x.2⟩
  | _ => exact x
end
open Classical in
noncomputable def frzH (h : Heap) (H : Hp) : Hp := fun b => match H b with
  | none => none
  | some (.tup xs) => some (.tup xs)
  | some (.frz o u) => some (.frz o u)
  | some (.own x) => if ∃ u, H x = some u ∧ u.dx? = some b then some (.own x) else (h.get? b).map fun o => .frz o (.own x)
  | some u => (h.get? b).map fun o => .frz o u
def thaw (H H' : Hp) : Hp := fun b => match H b with
  | some u => some u
  | none => H' b
theorem thaw_same (H H' : Hp) : Same H (thaw H H') := fun b o e => by unfold thaw; rw [e]
theorem thaw_none {H H' : Hp} {b : Addr} (e : H b = none) : thaw H H' b = H' b := by unfold thaw; rw [e]
theorem thaw_some {H H' : Hp} {b : Addr} {u : HO} (e : H b = some u) : thaw H H' b = some u := by unfold thaw; rw [e]
section
variable {P : Program} {w : World} {H H' : Hp} {h h' : Heap} {b : Addr} {u : HO} {fs : List Addr}
theorem frz_none (e : H b = none) : frzH h H b = none := by unfold frzH; rw [e]
theorem frz_tup {xs : List V} (e : H b = some (.tup xs)) : frzH h H b = some (.tup xs) := by unfold frzH; rw [e]
theorem frz_frz {o : Obj} {u : HO} (e : H b = some (.frz o u)) : frzH h H b = some (.frz o u) := by unfold frzH; rw [e]
theorem frz_own {x : Addr} {u : HO} (e : H b = some (.own x)) (hu : H x = some u) (hd : u.dx? = some b) : frzH h H b = some (.own x) := by
  unfold frzH
  rw [e]
  exact if_pos ⟨u, hu, hd⟩
theorem frz_cases (ok : HOk P w H h) (e : H b = some u) : (frzH h H b = some u ∧ ((∃ xs, u = .tup xs) ∨ (∃ o v, u = .frz o v) ∨ ∃ x v, u = .own x ∧ H x = some v ∧ v.dx? = some b)) ∨ ∃ o, h.get? b = some o ∧ frzH h H b = some (.frz o u) := by
  obtain ⟨o, ho⟩ := (ok b u e).there
  cases u with
  | tup xs => exact .inl ⟨frz_tup e, .inl ⟨xs, rfl⟩⟩
  | frz o v => exact .inl ⟨frz_frz e, .inr (.inl ⟨o, v, rfl⟩)⟩
  | own x =>
    by_cases q : ∃ u, H x = some u ∧ u.dx? = some b
    · obtain ⟨v, hv, hd⟩ := q
      exact .inl ⟨frz_own e hv hd, .inr (.inr ⟨x, v, rfl, hv, hd⟩)⟩
    · refine .inr ⟨o, ho, ?_⟩
      unfold frzH
      rw [e]
      show (if _ then _ else _) = _
      rw [if_neg q, ho]
      rfl
  | _ => exact .inr ⟨o, ho, by unfold frzH; rw [e]; show (h.get? b).map _ = _; rw [ho]; rfl⟩
theorem frz_owned (ok : HOk P w H h) {a d : Addr} (ea : H a = some u) (hd : u.dx? = some d) : frzH h H d = some (.own a) ∧ H d = some (.own a) := by
  have z := ObjOk.own_of (ok a u ea) hd
  exact ⟨frz_own z ea hd, z⟩
theorem HOk.frz (ok : HOk P w H h) : HOk P w (frzH h H) h := fun b v e => by
  have ht : ∀ b xs, H b = some (.tup xs) → frzH h H b = some (.tup xs) := fun b xs q => frz_tup q
  cases q : H b with
  | none => rw [frz_none q] at e; cases e
  | some y =>
    have own : ∀ d, y.dx? = some d → frzH h H d = some (.own b) := fun d hd => (frz_owned ok q hd).1
    rcases frz_cases ok q with ⟨z, _⟩ | ⟨o, ho, z⟩
    · rw [z] at e
      cases e
      exact ObjOk.swap ht own (ok b _ q)
    · rw [z] at e
      cases e
      exact ⟨ho, ObjOk.swap ht own (ok b _ q)⟩
structure Thw (h : Heap) (H H' : Hp) : Prop where
  tups : ∀ b xs, frzH h H b = some (.tup xs) → H' b = some (.tup xs)
  frzs : ∀ b o u, frzH h H b = some (.frz o u) → H' b = some (.frz o u)
theorem thaw_cases (ok : HOk P w H h) (un : Thw h H H') (ok' : HOk P w H' h') (e : H b = some u) : ((∃ xs, u = .tup xs) ∧ H' b = some u) ∨ ((∃ o v, u = .frz o v) ∧ H' b = some u) ∨ ((∃ x v, u = .own x ∧ H x = some v ∧ v.dx? = some b) ∧ H' b = some u) ∨ ∃ o, H' b = some (.frz o u) := by
  rcases frz_cases ok e with ⟨z, q⟩ | ⟨o, ho, z⟩
  · rcases q with ⟨xs, rfl⟩ | ⟨o, v, rfl⟩ | ⟨x, v, rfl, hx, hd⟩
    · exact .inl ⟨⟨xs, rfl⟩, un.tups _ _ z⟩
    · exact .inr (.inl ⟨⟨o, v, rfl⟩, un.frzs _ _ _ z⟩)
    · refine .inr (.inr (.inl ⟨⟨x, v, rfl, hx, hd⟩, ?_⟩))
      rcases frz_cases ok hx with ⟨y, r⟩ | ⟨o', _, y⟩
      · rcases r with ⟨xs, rfl⟩ | ⟨o, v', rfl⟩ | ⟨x', v', rfl, _⟩
        · cases hd
        · exact ObjOk.own_of (ok' x _ (un.frzs _ _ _ y)) hd
        · cases hd
      · exact ObjOk.own_of (u := .frz o' v) (ok' x _ (un.frzs _ _ _ y)) hd
  · exact .inr (.inr (.inr ⟨o, un.frzs _ _ _ z⟩))
theorem thaw_tup (ok : HOk P w H h) (un : Thw h H H') (ok' : HOk P w H' h') {xs : List V} (e : H' b = some (.tup xs)) : thaw H H' b = some (.tup xs) := by
  cases q : H b with
  | none => rw [thaw_none q]; exact e
  | some u =>
    rw [thaw_some q]
    rcases thaw_cases ok un ok' q with ⟨_, z⟩ | ⟨⟨o, v, rfl⟩, z⟩ | ⟨⟨x, v, rfl, _⟩, z⟩ | ⟨o, z⟩
    · rw [z] at e; exact e
    · rw [z] at e; cases e
    · rw [z] at e; cases e
    · rw [z] at e; cases e
theorem HOk.thaw (ok : HOk P w H h) (un : Thw h H H') (ok' : HOk P w H' h') : HOk P w (thaw H H') h' := fun b v e => by
  have ht : ∀ b xs, H' b = some (.tup xs) → L2.thaw H H' b = some (.tup xs) := fun b xs q => thaw_tup ok un ok' q
  cases q : H b with
  | some y =>
    rw [thaw_some q] at e
    cases e
    have own : ∀ d, v.dx? = some d → L2.thaw H H' d = some (.own b) := fun d hd => thaw_some (frz_owned ok q hd).2
    rcases thaw_cases ok un ok' q with ⟨_, z⟩ | ⟨_, z⟩ | ⟨⟨x, v, rfl, _⟩, z⟩ | ⟨o, z⟩
    · exact ObjOk.swap ht own (ok' b _ z)
    · exact ObjOk.swap ht own (ok' b _ z)
    · exact ok' b _ z
    · exact ObjOk.swap ht own (ok' b _ z).2
  | none =>
    rw [thaw_none q] at e
    refine ObjOk.swap ht (fun d hd => ?_) (ok' b v e)
    have hd' := ObjOk.own_of (ok' b v e) hd
    cases r : H d with
    | none => rw [thaw_none r]; exact hd'
    | some u =>
      exfalso
      rcases thaw_cases ok un ok' r with ⟨⟨xs, rfl⟩, z⟩ | ⟨⟨o, v, rfl⟩, z⟩ | ⟨⟨x, v, rfl, hx, _⟩, z⟩ | ⟨o, z⟩
      · rw [z] at hd'; cases hd'
      · rw [z] at hd'; cases hd'
      · rw [z] at hd'
        cases hd'
        rw [q] at hx
        cases hx
      · rw [z] at hd'; cases hd'
theorem Un.thaw (ok : HOk P w H h) (un : Un fs [] (frzH h H) H' h h') : Un fs [] H (thaw H H') h h' where
  keep := fun b o e n hb hx => un.keep b o e (frz_none n) hb hx
  slot := fun b o e n hb hx => un.slot b o e (frz_none n) hb hx
  free := fun b o e n hx => by rw [thaw_none n]; exact un.free b o e (frz_none n) hx
  there := un.there
  tups := fun b xs e => thaw_some e
  frzs := fun b o u e => thaw_some e
  tbls := fun b ps e => ⟨#[], by rw [thaw_some e]; simp⟩
def HO.data : HO → Prop
  | .own _ => False
  | .frz _ _ => False
  | _ => True
theorem Rd.frz (ok : HOk P w H h) (hu : u.data) (r : Rd H b u) : Rd (frzH h H) b u := by
  rcases r with r | ⟨o, r⟩
  · rcases frz_cases ok r with ⟨z, _⟩ | ⟨o, _, z⟩
    · exact .inl z
    · exact .inr ⟨o, z⟩
  · exact .inr ⟨o, frz_frz r⟩
theorem Rd.thaw (ok : HOk P w H h) (un : Thw h H H') (ok' : HOk P w H' h') (hu : u.data) (r : Rd H' b u) : Rd (thaw H H') b u := by
  cases q : H b with
  | none => unfold Rd; rw [thaw_none q]; exact r
  | some v =>
    unfold Rd
    rw [thaw_some q]
    rcases thaw_cases ok un ok' q with ⟨_, z⟩ | ⟨⟨o, v', rfl⟩, z⟩ | ⟨⟨x, v', rfl, _⟩, z⟩ | ⟨o, z⟩
    · rcases r with r | ⟨o, r⟩
      · rw [z] at r; exact .inl r
      · rw [z] at r; exact .inr ⟨o, r⟩
    · rcases r with r | ⟨o, r⟩
      · rw [z] at r; cases r; exact hu.elim
      · rw [z] at r; exact .inr ⟨o, r⟩
    · rcases r with r | ⟨o, r⟩
      · rw [z] at r; cases r; exact hu.elim
      · rw [z] at r; cases r
    · rcases r with r | ⟨o, r⟩
      · rw [z] at r; cases r; exact hu.elim
      · rw [z] at r; cases r; exact .inl rfl
end
end L2

set_option maxHeartbeats 1000000
namespace L2
open PySem PySem.Spec PyProof.Rows
structure Beneath (fs ex : List Addr) (H : Hp) (h B : Heap) : Prop where
  kp : ∀ b o, h.get? b = some o → H b = none → b ∉ fs → b ∉ ex → B.get? b = some o
  th : ∀ b o, h.get? b = some o → b ∉ fs → b ∉ ex → ∃ o', B.get? b = some o'
def CXD (P : Program) (w : World) : CXT := fun outer H s E e s' => ∃ ea C dx H' B, e = .ref ea ∧ s'.os = s.os ∧ AllBare s'.gens ∧ Un (frs outer) [] H H' s.heap s'.heap ∧ Air B outer ea s'.heap ∧ HOk P w H' B ∧ Beneath (frs outer) [] H s.heap B ∧
  ExAt B ea C dx (some .none) s'.heap ∧ E (.ref C) dx H'
def InAir (X : Cx) (H : Hp) (s : Shared) (ea C : Addr) (dx : Option Addr) : Prop := ∃ B fl, Air B X.stack ea s.heap ∧ HOk X.prog X.w H B ∧ Beneath X.fs X.ex X.H₀ X.s₀.heap B ∧ ExAt B ea C dx fl s.heap ∧ ∀ p ∈ X.pn, B.get? p.1 = some p.2
section
variable {X : Cx} {pins : List (Addr × Obj)} {σ : St} {H : Hp} {s s' : Shared} {E : XK} {e : Value}
theorem Inv.nost (I : Inv X pins σ H s) {b : Addr} {o : Obj} (q : X.s₀.heap.get? b = some o) (hb : b ∉ X.fs) : b ∉ frs X.stack := fun z => by
  rcases List.mem_cons.mp (I.stkSub b z) with y | y
  · exact absurd (Heap.lt_size q) (by rw [y]; exact Nat.not_lt.mpr I.ok.above)
  · exact hb y
theorem Inv.pinOut (I : Inv X pins σ H s) {p : Addr × Obj} (hp : p ∈ X.pn) : p.1 ∉ frs X.stack := fun z => by
  obtain ⟨_, _, n1, n2, _⟩ := I.pin p (List.mem_append_left _ hp)
  rcases List.mem_cons.mp (I.stkSub _ z) with y | y
  · exact n1 y
  · exact n2 y
theorem Inv.beneath (I : Inv X pins σ H s) {B : Heap} (b : Beneath (frs X.stack) [] H s.heap B) : Beneath X.fs X.ex X.H₀ X.s₀.heap B :=
  ⟨fun c o q n hb hx => b.kp c o (I.base.keep c o q n hb hx) (I.base.free c o q n hx) (I.nost q hb) (by simp), fun c o q hb hx => let ⟨o', z⟩ := I.base.there c o q hx; b.th c o' z (I.nost q hb) (by simp)⟩
theorem flown_in (I : Inv X pins σ H s) (h : CXD X.prog X.w X.stack H s E e s') : ∃ ea C dx H', e = .ref ea ∧ Inv X pins σ H' s' ∧ InAir X H' s' ea C dx ∧ E (.ref C) dx H' := by
  obtain ⟨ea, C, dx, H', B, rfl, os, bare, un, a, ok, bn, x, hE⟩ := h
  exact ⟨ea, C, dx, H', rfl, I.call' (ch := []) os un (ok.kept a.st) bare (fun b z => absurd z (by simp)), ⟨B, some .none, a, ok, I.beneath bn, x, fun p hp => bn.kp p.1 p.2 (I.pin p (List.mem_append_left _ hp)).1 (I.pin p (List.mem_append_left _ hp)).2.1 (I.pinOut hp) (by simp)⟩, hE⟩
theorem raised_in {ea C : Addr} {dx : Option Addr} {oe : Obj} {vs : Array Value} (I : Inv X pins σ H s) (he : s.heap.get? ea = some oe) (hc : oe.cls = .ref C) (hd : oe.dict = dx) (hv : oe.data = .fields vs) (hz : 1 < vs.size) (h2 : vs[2]? = some .none) (h1 : vs[1]? = some .none)
    (hn : H ea = none) (h0 : X.s₀.heap.get? ea = none) (hp0 : ∀ p ∈ X.pn, p.1 ≠ ea) : InAir X H s ea C dx := by
  have nin : ∀ b u, H b = some u → b ∉ ea :: frs X.stack := fun b u q z => by
    rcases List.mem_cons.mp z with y | y
    · rw [y, hn] at q; cases q
    · rw [I.stkFree b y] at q; cases q
  refine ⟨PySem.W.hideAll s.heap (ea :: frs X.stack), none, ⟨fun b o q => PySem.W.of_hideAll _ q, PySem.W.hideAll_none _ (List.mem_cons_self ..), ?_⟩, fun a o q => ?_, ⟨fun b o q n hb hx => ?_, fun b o q hb hx => ?_⟩, ⟨oe, vs, he, hc, hd, hv, hz, h2, h1⟩, fun p hp => PySem.W.hideAll_get _ (I.pin p (List.mem_append_left _ hp)).1 fun z => ?_⟩
  · exact PySem.W.funFrames_hide I.stack fun env hm b q => List.mem_cons_of_mem _ (List.mem_filterMap.mpr ⟨env, hm, q⟩)
  · refine (I.hok a o q).stay (fun b u hb z => PySem.W.hideAll_get _ z ?_) (fun _ z => z) fun _ _ z => z
    rcases hb with rfl | hb
    · exact nin _ _ q
    · exact nin _ _ hb
  · refine PySem.W.hideAll_get _ (I.base.keep b o q n hb hx) fun z => ?_
    rcases List.mem_cons.mp z with y | y
    · rw [y, h0] at q; cases q
    · exact I.nost q hb y
  · obtain ⟨o', z⟩ := I.base.there b o q hx
    refine ⟨o', PySem.W.hideAll_get _ z fun y => ?_⟩
    rcases List.mem_cons.mp y with y | y
    · rw [y, h0] at q; cases q
    · exact I.nost q hb y
  · rcases List.mem_cons.mp z with y | y
    · exact hp0 p hp y
    · exact I.pinOut hp y
end
theorem acc_def {P : Program} {w : World} {K : PySem.W.Frag} {mg : Str → Option Value} {base : Heap} {N : List Str} {qual : Str} {scope : Scope} {f : Addr} {cd : Value} {A : Around} {outer : List Env} {s s1 : Shared} {H H1 : Hp} {E : XK} {pins : List (Addr × Obj)} {σ : St} {ea C : Addr} {dx : Option Addr}
    (I : Inv (cxOf (CXD P w) P w K mg base N qual scope f cd A outer s H E) pins σ H1 s1) (a : InAir (cxOf (CXD P w) P w K mg base N qual scope f cd A outer s H E) H1 s1 ea C dx) (h : E (.ref C) dx H1) :
    (cxOf (CXD P w) P w K mg base N qual scope f cd A outer s H E).xe (.ref ea) s1 := by
  obtain ⟨B, fl, a, ok, bn, x, _⟩ := a
  have fr := a.fr
  refine leave_x (env := envOfC qual scope s.heap.objs.size f cd) (outer := outer) (L := s.heap.objs.size) I.ok.frames rfl a x fun h' a' u' x' => ?_
  have noA : ∀ b : Addr, b ∉ ([] : List Addr) := fun b z => absurd z (by simp)
  have up : ∀ b o, b ∈ frs outer → s1.heap.get? b = some o → ∃ sl, h'.get? b = some { o with slots := sl } := fun b o hb q => by
    have hm : b ∈ ((envOfC qual scope s.heap.objs.size f cd) :: outer).filterMap (·.frame) := by
      obtain ⟨env, hm, hf⟩ := List.mem_filterMap.mp hb
      exact List.mem_filterMap.mpr ⟨env, List.mem_cons_of_mem _ hm, hf⟩
    obtain ⟨_, o', ho', nf⟩ := fr.mem hm
    rw [q] at ho'
    cases ho'
    exact u' b o q nf
  refine ⟨ea, C, dx, H1, B, rfl, I.os, I.bare, ⟨fun b o q n hb hx => a'.st b o (bn.kp b o q n hb hx), fun b o q n hb hx => ?_, I.base.free, fun b o q hx => ?_, I.base.tups, I.base.frzs, I.base.tbls⟩, a', ok, bn, x', h⟩
  · obtain ⟨sl, z⟩ := I.base.slot b o q n hb hx
    obtain ⟨sl', z'⟩ := up b _ hb z
    exact ⟨sl', z'⟩
  · by_cases hb : b ∈ frs outer
    · obtain ⟨o', z⟩ := I.base.there b o q hx
      obtain ⟨sl', z'⟩ := up b _ hb z
      exact ⟨_, z'⟩
    · obtain ⟨o', z⟩ := bn.th b o q hb hx
      exact ⟨o', a'.st b o' z⟩
theorem CXD.thaw {P : Program} {w : World} {l : List Env} {H : Hp} {s s' : Shared} {E : XK} {e : Value} (ok : HOk P w H s.heap) (h : CXD P w l (frzH s.heap H) s E e s') :
    CXD P w l H s (fun cls dx H'' => ∃ H', H'' = L2.thaw H H' ∧ (∀ b u, HO.data u → Rd H' b u → Rd (L2.thaw H H') b u) ∧ E cls dx H') e s' := by
  obtain ⟨ea, C, dx, H', B, rfl, os, bare, un, a, ok', bn, x, hE⟩ := h
  have t : Thw s.heap H H' := ⟨un.tups, un.frzs⟩
  exact ⟨ea, C, dx, L2.thaw H H', B, rfl, os, bare, un.thaw ok, a, ok.thaw t ok', ⟨fun b o q n hb hx => bn.kp b o q (frz_none n) hb hx, bn.th⟩, x, H', rfl, fun b u hu r => r.thaw ok t ok' hu, hE⟩
theorem Env0.frz {P : Program} {w : World} {K : PySem.W.Frag} {mg : Str → Option Value} {base : Heap} {A : Around} {outer : List Env} {s : Shared} {H : Hp} (e : Env0 P w K mg base A outer s H) : Env0 P w K mg base A outer s (frzH s.heap H) :=
  ⟨e.frames, e.mod, fun b o q => ⟨(e.bs b o q).1, frz_none (e.bs b o q).2⟩, e.bsz, e.funs, fun b hb => frz_none (e.frf b hb), e.hok.frz, e.bare⟩
section
variable {X : Cx} {k : Nat} {f C : Addr} {fd : FuncData} {ps : List Str} {sp : Sp} {dvs : List V} {ds : List Value}
theorem run_fnX {pins : List (Addr × Obj)} {σ : St} {H : Hp} {s : Shared} {Q Q' : VK} {E : XK} {us : List Value} {vs : List V} (F : FnOk X.prog X.w X.K X.mg X.base (CXD X.prog X.w) k f fd ps sp) (hr : Room k X.A) (hb : Binds X.K fd ps ds) (hd : Vals dvs ds)
    (I : Inv X pins σ H s) (r : Vals vs us) (h : sp (vs ++ dvs) (frzH s.heap H) Q' E) (hQ : ∀ v H', (∀ b u, HO.data u → Rd H' b u → Rd (thaw H H') b u) → Q' v H' → Q v (thaw H H'))
    (hE : ∀ ea C dx H' s', Inv X pins σ (thaw H H') s' → InAir X (thaw H H') s' ea C dx → (∀ b u, HO.data u → Rd H' b u → Rd (thaw H H') b u) → E (.ref C) dx H' → X.xe (.ref ea) s') : wpAny (model X.prog X.w) X.A (call (.ref f) us) (EP X pins σ Q) X.xe s := by
  have r2 : Vals (vs ++ dvs) (us ++ ds) := r.append hd
  have hl : (us ++ ds).length = ps.length := by rw [← r2.length]; exact F.len _ _ _ _ h
  refine wpAny_call (codeAny_mono (F.run X.A X.stack s _ ⟨us, []⟩ (us ++ ds) (vs ++ dvs) Q' E hr I.env0.frz (hb s us I.kIn hl) r2 h) fun r s' hq => ?_)
  cases r with
  | error e =>
    obtain ⟨ea, C, dx, H'', rfl, I', a', H', rfl, rd, he⟩ := flown_in I (CXD.thaw I.hok hq)
    exact hE ea C dx H' s' I' a' rd he
  | ok fl =>
    cases fl with
    | ret u =>
      obtain ⟨v, H', os, bare, un, hok, rv, q⟩ := (show CE X.stack X.prog X.w (frzH s.heap H) s Q' u s' from hq)
      have t : Thw s.heap H H' := ⟨un.tups, un.frzs⟩
      exact ⟨v, thaw H H', I.call' (ch := []) os (un.thaw I.hok) (I.hok.thaw t hok) bare (fun b z => absurd z (by simp)), rv, hQ v H' (fun b u hu r => r.thaw I.hok t hok hu) q⟩
    | next => exact False.elim hq
    | brk => exact False.elim hq
    | cont => exact False.elim hq
end
end L2

set_option maxHeartbeats 1000000
namespace L2
open PySem PySem.Spec PyProof.Rows
theorem exc_open {K : PySem.W.Frag} {h : Heap} {C : Addr} {bmB : List Value} {newId : String} (X : K.In h) (q : PySem.W.excIn K C bmB newId = true) :
    ∃ bm N nm qn bs hdct sn sub ab col dd k0 k1 k2 k3 k5 mN, h.get? C = some (excClassObj nm qn C N bs bm hdct sn sub ab col dd k0 k1 k2 k3 k5 newId) ∧ h.Ns N mN ∧ mN "__init__" = none ∧ OwnTail h bmB bm := by
  unfold PySem.W.excIn at q
  split at q
  · rename_i dd cd sl ho
    split at q
    · rename_i C2 bm k0 k1 k2 k3 n k5 hm hs
      simp only [Bool.and_eq_true, beq_iff_eq, Bool.not_eq_true'] at q
      obtain ⟨⟨⟨⟨⟨e1, e2⟩, hdel⟩, ht⟩, hok⟩, hni⟩ := q
      subst e1 e2
      obtain ⟨nm, bs, mro, ns, qn, hd, sn, sub, ab, col, del⟩ := cd
      have hm' : mro = .ref C2 :: bm := hm
      have hdel' : del = false := hdel
      subst hm' hdel'
      obtain ⟨l⟩ := sl
      have hl : l = [k0, k1, k2, k3, some (.builtin n), k5] := hs
      subst hl
      exact ⟨bm, ns, nm, qn, bs, hd, sn, sub, ab, col, dd, k0, k1, k2, k3, k5, _, X _ _ ho, .of_isNs (PySem.W.isNs_of_in X hok), PySem.W.nsMap_none_of_in X hok hni, PySem.W.tail_of_in X ht⟩
    · cases q
  · cases q
theorem SqL.rd {K : PySem.W.Frag} {H H' : Hp} {a : Addr} {xs : List V} (f : ∀ b u, HO.data u → Rd H b u → Rd H' b u) (h : SqL K H a xs) : SqL K H' a xs := by
  rcases h with h | h
  · exact .inl (f _ _ True.intro h)
  · exact .inr h
theorem SqT.rd {K : PySem.W.Frag} {H H' : Hp} {a : Addr} {xs : List V} (f : ∀ b u, HO.data u → Rd H b u → Rd H' b u) (h : SqT K H a xs) : SqT K H' a xs := by
  rcases h with h | h
  · exact .inl (f _ _ True.intro h)
  · exact .inr h
end L2
namespace DC
open PySem PySem.Spec PyProof.Rows L2
section
variable {K : PySem.W.Frag} {H H' : Hp}
theorem XDict.rd (f : ∀ b u, HO.data u → Rd H b u → Rd H' b u) {dx : Option Addr} {fs : List (Str × V)} (h : XDict H dx fs) : XDict H' dx fs := by
  cases dx with
  | none => exact h
  | some d => exact f _ _ True.intro h
mutual
theorem Dv.rd (f : ∀ b u, HO.data u → Rd H b u → Rd H' b u) : ∀ {v : V} {d : D}, Dv K H v d → Dv K H' v d
  | _, _, .non => .non
  | _, _, .bl b => .bl b
  | _, _, .int i => .int i
  | _, _, .str x => .str x
  | _, _, .lst h1 h2 => .lst (h1.rd f) (Dvs.rd f h2)
  | _, _, .tup h1 h2 => .tup (h1.rd f) (Dvs.rd f h2)
  | _, _, .obj h1 h2 => .obj (f _ _ True.intro h1) (Dvf.rd f h2)
  | _, _, .dK h1 h2 => .dK (f _ _ True.intro h1) (Dvk.rd f h2)
  | _, _, .dT h1 h2 => .dT (f _ _ True.intro h1) (Dvt.rd f h2)
  | _, _, .adr a => .adr a
  | _, _, .exc h1 h2 h3 => .exc (f _ _ True.intro h1) (XDict.rd f h2) (Dvf.rd f h3)
theorem Dvs.rd (f : ∀ b u, HO.data u → Rd H b u → Rd H' b u) : ∀ {vs : List V} {ds : List D}, Dvs K H vs ds → Dvs K H' vs ds
  | _, _, .nil => .nil
  | _, _, .cons h1 h2 => .cons (Dv.rd f h1) (Dvs.rd f h2)
theorem Dvf.rd (f : ∀ b u, HO.data u → Rd H b u → Rd H' b u) : ∀ {vs : List (Str × V)} {ds : List (Str × D)}, Dvf K H vs ds → Dvf K H' vs ds
  | _, _, .nil => .nil
  | _, _, .cons h1 h2 => .cons (Dv.rd f h1) (Dvf.rd f h2)
theorem Dvk.rd (f : ∀ b u, HO.data u → Rd H b u → Rd H' b u) : ∀ {vs : List (Key × V)} {ds : List (Key × D)}, Dvk K H vs ds → Dvk K H' vs ds
  | _, _, .nil => .nil
  | _, _, .cons h1 h2 => .cons (Dv.rd f h1) (Dvk.rd f h2)
theorem Dvt.rd (f : ∀ b u, HO.data u → Rd H b u → Rd H' b u) : ∀ {vs : List (List Key × V)} {ds : List (List Key × D)}, Dvt K H vs ds → Dvt K H' vs ds
  | _, _, .nil => .nil
  | _, _, .cons h1 h2 => .cons (Dv.rd f h1) (Dvt.rd f h2)
end
end
abbrev XR := Addr → List (Str × D) → Prop
abbrev SpX := List D → (D → Prop) → XR → Prop
abbrev MonoX (sx : SpX) : Prop := ∀ ds (P P' : D → Prop) (R R' : XR), (∀ d, P d → P' d) → (∀ C g, R C g → R' C g) → sx ds P R → sx ds P' R'
def kX (K : PySem.W.Frag) (E : XK) : XR := fun C gs => ∀ dx fs H', XDict H' dx fs → Dvf K H' fs gs → E (.ref C) dx H'
def spX (K : PySem.W.Frag) (sx : SpX) : Sp := fun vs H Q E => ∃ ds, Dvs K H vs ds ∧ sx ds (fun d => ∀ v H', Dv K H' v d → Q v H') (kX K E)
def XAcc (X : Cx) (xk : SD → XR) : Prop := ∀ pins σ δ H s ea C dx fs gs, Inv X pins σ H s → RelS X.K H σ δ → InAir X H s ea C dx → XDict H dx fs → Dvf X.K H fs gs → xk δ C gs → X.xe (.ref ea) s
def wishX (K : PySem.W.Frag) (R : XR) : XK := fun cls dx H' => ∃ C gs fs, cls = .ref C ∧ XDict H' dx fs ∧ Dvf K H' fs gs ∧ R C gs
theorem kX_wish {K : PySem.W.Frag} {R : XR} {C : Addr} {gs : List (Str × D)} (h : R C gs) : kX K (wishX K R) C gs := fun dx fs H' xd df => ⟨C, gs, fs, rfl, xd, df, h⟩
def backX (K : PySem.W.Frag) (P : D → Prop) : VK := fun v H' => ∃ d, Dv K H' v d ∧ P d
section
variable {X : Cx} {e : Expr} {es : List Expr} {t : AD} {pos p : Pos} {x : Str} {k : Nat} {f : Addr} {fd : FuncData} {ps : List Str} {sx : SpX} {xk : SD → XR} {dvs : List V} {dls : List Value} {dd : List D}
theorem run_X {pins : List (Addr × Obj)} {σ : L2.St} {δ : SD} {H H1 : Hp} {s : Shared} {Q : VK} {us : List Value} {vs : List V} {ds : List D} (hx : XAcc X xk) (F : FnOk X.prog X.w X.K X.mg X.base (CXD X.prog X.w) k f fd ps (spX X.K sx)) (ms : MonoX sx) (hr : Room k X.A) (hb : Binds X.K fd ps dls) (hd : Vals dvs dls) (hdd : ∀ H, Dvs X.K H dvs dd)
    (I : Inv X pins σ H1 s) (rs : RelS X.K H σ δ) (s1 : Same H H1) (r : Vals vs us) (dv : Dvs X.K H1 vs ds) (h : sx (ds ++ dd) (kD X.K H Q) (xk δ)) : wpAny (model X.prog X.w) X.A (call (.ref f) us) (EP X pins σ Q) X.xe s := by
  refine run_fnX (Q' := backX X.K (kD X.K H Q)) (E := wishX X.K (xk δ)) F hr hb hd I r ⟨ds ++ dd, ((dv.append (hdd H1)).rd fun b u hu z => z.frz I.hok hu), ms _ _ _ _ _ (fun d q v H' dv => ⟨d, dv, q⟩) (fun C g q => kX_wish q) h⟩ ?_ ?_
  · rintro v H' rd ⟨d, dv, q⟩
    exact q v _ (s1.trans (thaw_same _ _)) (dv.rd rd)
  · rintro ea C dx H' s' I' a rd ⟨C', gs, fs, e, xd, df, q⟩
    cases e
    exact hx pins σ δ _ s' ea C dx fs gs I' (rs.same (s1.trans (thaw_same _ _))) a (XDict.rd rd xd) (Dvf.rd rd df) q
def vCallX (xk : SD → XR) (sx : SpX) (dd : List D) (t : AD) : ED := fun δ Q => t δ fun ds => sx (ds ++ dd) Q (xk δ)
theorem d_callX (hx : XAcc X xk) (F : FnOk X.prog X.w X.K X.mg X.base (CXD X.prog X.w) k f fd ps (spX X.K sx)) (ms : MonoX sx) (hr : Room k X.A) (hg : Gl X x) (hm : X.mg x = some (.ref f)) (hk : PySem.W.keepIn X.K (.ref f) = true) (hb : Binds X.K fd ps dls) (hv : Vals dvs dls) (hdd : ∀ H, Dvs X.K H dvs dd)
    (ha : PAd X (e :: es) t) (hdb : (x == ("__debug__" : Str)) = false := by decide) (he : starEach (e :: es) X.env = (false, eval e X.env) :: starEach es X.env := by rfl) (hpl : (backTo pos (starEach es X.env)).any (·.1) = false := by rfl) :
    PD X (.Call (.Name x p) (e :: es) [] pos) (vCallX xk sx dd t) := by
  refine ⟨fun pins s σ H Q I ⟨δ, r, h⟩ => ?_, fun δ P P' g h => ha.mono _ _ _ (fun ds q => ms _ _ _ _ _ g (fun _ _ z => z) q) h⟩
  refine wpAny_Call_Name_kw (ld_glob I hg hm ?_ hdb)
  refine PySem.W.callWith_K (h₀ := X.base) I.ok.mod.kin hk (thn (ha.pa pos pins s σ H (fun vs H1 => Same H H1 ∧ ∃ ds, Dvs X.K H1 vs ds ∧ sx (ds ++ dd) (kD X.K H Q) (xk δ)) I ⟨δ, r, ha.mono _ _ _ (fun ds q vs H1 s1 dv => ⟨s1, ds, dv, q⟩) h⟩) fun us s1 ⟨vs, H1, I1, r1, sm, ds, dv, q⟩ => ⟨I1.kIn, ?_⟩) he hpl
  exact run_X hx F ms hr hb hv hdd I1 r sm r1 dv q
def qRaise (xk : SD → XR) (C : Addr) (t : AD) : TSD := fun _ δ => t δ fun ds => ds.length ≤ sizeLine ∧ xk δ C []
theorem s_raise {C : Addr} {np cpos : Pos} (hx : XAcc X xk) (hc : X.calm = true) (hex : X.ex = []) (hg : Gl X x) (hm : X.mg x = some (.ref C)) (hq : PySem.W.excIn X.K C [.type "ValueError", .type "Exception", .type "BaseException", .type "object"] "ValueError.__new__" = true)
    (ha : PAd X (e :: es) t) (hdb : (x == ("__debug__" : Str)) = false := by decide) (he : starEach (e :: es) X.env = (false, eval e X.env) :: starEach es X.env := by rfl) (hpl : (backTo cpos (starEach es X.env)).any (·.1) = false := by rfl) :
    PSd X (.Raise (some (.Call (.Name x np) (e :: es) [] cpos)) none pos) (qRaise xk C t) := by
  refine ⟨fun pins s σ H D I ⟨δ, r, h⟩ => ?_, fun E E' δ l h => h⟩
  have FB := PySem.F.excBase_ValueError
  obtain ⟨bm, N, nm, qn, bs, hdct, sn, sub, ab, col, dd, k0, k1, k2, k3, k5, mN, hC, hN, hni, T⟩ := exc_open I.ok.mod.kin hq
  refine wpAny_Raise_call_subT (C := C) (nm := nm) (q := qn) (N := N) (bs := bs) (bm := bm) (hdct := hdct) (sn := sn) (sub := sub) (ab := ab) (col := col) (dd := dd) (k0 := k0) (k1 := k1) (k2 := k2) (k3 := k3) (k5 := k5) FB (mN := mN) (T.hasType FB.hasBase) (I.ok.hd hc) (by rw [he]; show (false || (backTo cpos (starEach es X.env)).any (·.1)) = false; rw [hpl]; rfl) hni (ld_glob I hg hm ⟨rfl, ?_⟩ hdb)
  have z := ha.pa cpos pins s σ H (fun vs H1 => Same H H1 ∧ vs.length ≤ sizeLine ∧ xk δ C []) I ⟨δ, r, ha.mono _ _ _ (fun ds q vs H1 s1 dv => ⟨s1, by rw [dv.length]; exact q.1, q.2⟩) h⟩
  rw [he] at z ⊢
  refine Calls.evalArgs_plain (wpAny_mono z (fun us s2 ⟨vs, H1, I1, rv, sm, hl, q⟩ => ⟨rfl, by rw [← rv.length]; exact hl, I1.bk _ _ hC, hN.keeps I1.bk, T.keeps I1.bk, fun h' ea me => ?_⟩) fun _ _ y => y)
  obtain ⟨tt, ho, _, _⟩ := me.there
  obtain ⟨hh, gg, d2, tk, os⟩ := s2
  have I2 := I1.kept (t' := tk) (h' := h') me.keeps
  have none_of : H1 ea = none := by
    cases q2 : H1 ea with
    | none => rfl
    | some u =>
      obtain ⟨o, z⟩ := (I1.hok ea u q2).there
      have := me.new
      rw [z] at this
      cases this
  have h0 : X.s₀.heap.get? ea = none := by
    cases q2 : X.s₀.heap.get? ea with
    | none => rfl
    | some o =>
      obtain ⟨o', z⟩ := I1.base.there ea o q2 (by rw [hex]; simp)
      have := me.new
      rw [z] at this
      cases this
  exact hx pins σ δ H1 _ ea C none [] [] I2 (r.same sm) (raised_in I2 ho rfl rfl rfl (show 1 < 6 by decide) rfl rfl none_of h0 fun p hp z => by
    have y := (I1.pin p (List.mem_append_left _ hp)).1
    rw [z, me.new] at y
    cases y) rfl .nil q
end
section
variable {P : Program} {w : World} {K : PySem.W.Frag} {mg : Str → Option Value} {base : Heap}
abbrev BxX (P : Program) (w : World) (K : PySem.W.Frag) (mg : Str → Option Value) (base : Heap) (N : List Str) (qual : Str) (st : Stmt) (f : Addr) (cdv : Value) (A : Around) (outer : List Env) (s : Shared) (H : Hp) (E : XK) : Cx := cxOf (CXD P w) P w K mg base N qual (defScope st) f cdv A outer s H E
theorem acc_X {N : List Str} {qual : Str} {st : Stmt} {f : Addr} {cdv : Value} {A : Around} {outer : List Env} {s : Shared} {H : Hp} {E : XK} : XAcc (BxX P w K mg base N qual st f cdv A outer s H E) (fun _ => kX K E) :=
  fun pins σ δ H1 s1 ea C dx fs gs I r a xd df hk => acc_def I a (hk dx fs H1 xd df)
theorem okX {x qual : Str} {st : Stmt} {f : Addr} {fd : FuncData} {N ps : List Str} {k : Nat} {sx : SpX} {t : XR → TSD} (F : FunV K x qual st f fd) (S : FnScope N ps (defScope st)) (len : ∀ ds Q R, sx ds Q R → ds.length = ps.length)
    (hb : ∀ (cdv : Value) (A : Around) (outer : List Env) (s : Shared) (H : Hp) (E : XK) (R : XR), Room k (A.deeper (envOfC qual (defScope st) s.heap.objs.size f cdv)) → XAcc (BxX P w K mg base N qual st f cdv A outer s H E) (fun _ => R) → PSsd (BxX P w K mg base N qual st f cdv A outer s H E) (defBody st) (t R))
    (hr : ∀ ds Q R, sx ds Q R → t R { nx := fun _ => Q .non, rt := Q } (startD N ds)) : FnOk P w K mg base (CXD P w) (k + 1) f fd ps (spX K sx) := by
  obtain ⟨oc, od, dV, kV, doc, pm, an, cdv, ct, osl, rfl, lk, hcd⟩ := F.ex
  refine fn_of lk hcd S (fun vs H Q E ⟨ds, dvs, h⟩ => by rw [dvs.length]; exact len ds _ _ h) fun A outer s H vs Q E hroom ⟨ds, dvs, h⟩ => ?_
  have B := hb cdv A outer s H E (kX K E) hroom acc_X
  refine ⟨_, B.ps, startD N ds, start_rel dvs, ?_⟩
  let Q' : D → Prop := fun d => ∀ v H', Dv K H' v d → Q v H'
  exact B.mono { nx := fun _ => Q' .non, rt := Q' } _ _ ⟨fun δ q σ H' s' r => q _ H' .non, fun d q v H' s' dv => q v H' dv, fun _ q => q.elim, fun _ q => q.elim⟩ (hr ds _ _ h)
structure CalX (P : Program) (w : World) (K : PySem.W.Frag) (mg : Str → Option Value) (base : Heap) (k : Nat) (x : Str) (ps : List Str) (sx : SpX) : Prop where
  ex : ∃ f fd, FnOk P w K mg base (CXD P w) k f fd ps (spX K sx) ∧ mg x = some (.ref f) ∧ PySem.W.keepIn K (.ref f) = true ∧ Binds K fd ps []
  ms : MonoX sx
end
end DC

set_option maxHeartbeats 1000000
namespace L2
open PySem PySem.Spec PyProof.Rows
section
variable {P : Program} {w : World} {H : Hp} {h : Heap} {C : Addr} {fs ex : List Addr}
abbrev madeH (H : Hp) (h : Heap) (C : Addr) : Hp := upd (upd H h.objs.size (.own (h.objs.size + 1))) (h.objs.size + 1) (.ins C h.objs.size [])
abbrev madeIn (h : Heap) (C : Addr) : Heap := (h.push PySem.W.emptyDict).push (PySem.W.instObj C h.objs.size)
theorem HOk.made1 (ok : HOk P w H h) : HOk P w (upd H h.objs.size (.own (h.objs.size + 1))) (h.push PySem.W.emptyDict) :=
  ok.laid (fun b u q => Heap.get?_push_of_some _ q) (Nat.le_refl _) ⟨_, Heap.get?_push_size h rfl⟩
theorem HOk.made (ok : HOk P w H h) : HOk P w (madeH H h C) (madeIn h C) := by
  have g1 : (h.push PySem.W.emptyDict).get? h.objs.size = some PySem.W.emptyDict := Heap.get?_push_size h rfl
  have g2 : (madeIn h C).get? (h.objs.size + 1) = some (PySem.W.instObj C h.objs.size) := by
    have z := Heap.get?_push_size (h.push PySem.W.emptyDict) (o := PySem.W.instObj C h.objs.size) rfl
    rwa [Heap.size_push] at z
  have g3 : (h.push PySem.W.emptyDict).Ns h.objs.size (fun _ => none) := ⟨PySem.W.emptyDict, #[], _, g1, rfl, (fun e he => absurd he (by simp)), fun _ => rfl⟩
  have n : h.objs.size ≠ h.objs.size + 1 := Nat.ne_of_lt (Nat.lt_succ_self _)
  refine ok.made1.laid (fun b u q => Heap.get?_push_of_some _ q) (Nat.le_of_eq (Heap.size_push _ _)) ?_
  exact ⟨by rw [upd_ne n, upd_same], Nat.zero_le _, n, g2, fun _ => none, (Heap.Ns1.of_empty g3).at fun o q => Heap.get?_push_of_some _ q, fun _ => True.intro, fun y hy => absurd rfl hy⟩
theorem Un.made (ok : HOk P w H h) : Un fs ex H (madeH H h C) h (madeIn h C) :=
  (Un.laid (fun b u q => Heap.get?_push_of_some _ q) (Nat.le_refl _) (ok.fresh (Nat.le_refl _))).trans (Un.laid (fun b u q => Heap.get?_push_of_some _ q) (Nat.le_of_eq (Heap.size_push _ _)) (ok.made1.fresh (Nat.le_of_eq (Heap.size_push _ _))))
theorem made_in {b : Addr} (h1 : b ≠ h.objs.size + 1) (h2 : b ≠ h.objs.size) : madeH H h C b = H b := by
  show upd _ _ _ b = _
  rw [upd_ne h1, upd_ne h2]
theorem made_out {b : Addr} (e : madeH H h C b = none) : b ≠ h.objs.size + 1 ∧ b ≠ h.objs.size := by
  refine ⟨fun z => ?_, fun z => ?_⟩
  · subst z
    have e' : upd (upd H h.objs.size (.own (h.objs.size + 1))) (h.objs.size + 1) (.ins C h.objs.size []) (h.objs.size + 1) = none := e
    rw [upd_same] at e'
    cases e'
  · subst z
    have e' : upd (upd H h.objs.size (.own (h.objs.size + 1))) (h.objs.size + 1) (.ins C h.objs.size []) h.objs.size = none := e
    rw [upd_ne (Nat.ne_of_lt (Nat.lt_succ_self _)), upd_same] at e'
    cases e'
theorem made_of {b : Addr} {o : Obj} (q : h.get? b = some o) : madeH H h C b = H b := by
  have z := Heap.lt_size q
  exact made_in (Nat.ne_of_lt (Nat.lt_succ_of_lt z)) (Nat.ne_of_lt z)
theorem made_at {b : Addr} {o : Obj} (q : h.get? b = some o) : (madeIn h C).get? b = some o := Heap.get?_push_of_some _ (Heap.get?_push_of_some _ q)
end
section
variable {X : Cx} {k : Nat} {f C : Addr} {fd : FuncData} {ps : List Str} {sp : Sp} {dvs : List V} {ds : List Value}
theorem run_makeX {pins : List (Addr × Obj)} {σ : St} {H : Hp} {s : Shared} {Q Q' : VK} {E : XK} {us : List Value} {vs : List V} (M : Mk X.K C f) (F : FnOk X.prog X.w X.K X.mg X.base (CXD X.prog X.w) k f fd ps sp) (hr : Room (k + 1) X.A) (hb : Binds X.K fd ps ds) (hd : Vals dvs ds)
    (I : Inv X pins σ H s) (r : Vals vs us) (h : ∀ x dx, H x = none → H dx = none → dx ≠ x → sp (.ref x :: (vs ++ dvs)) (upd (upd (frzH s.heap H) dx (.own x)) x (.ins C dx [])) (fun v H2 => v = .non ∧ Q' (.ref x) H2) E)
    (hQ : ∀ v H', (∀ b u, HO.data u → Rd H' b u → Rd (thaw H H') b u) → Q' v H' → Q v (thaw H H'))
    (hE : ∀ ea C dx H' s', Inv X pins σ (thaw H H') s' → InAir X (thaw H H') s' ea C dx → (∀ b u, HO.data u → Rd H' b u → Rd (thaw H H') b u) → E (.ref C) dx H' → X.xe (.ref ea) s') : wpAny (model X.prog X.w) X.A (call (.ref C) us) (EP X pins σ Q) X.xe s := by
  have hq := h (s.heap.objs.size + 1) s.heap.objs.size (I.hok.fresh (Nat.le_succ _)) (I.hok.fresh (Nat.le_refl _)) (Nat.ne_of_lt (Nat.lt_succ_self _))
  have I2 := Inv.made (C := C) I
  have ok2 : HOk X.prog X.w (madeH (frzH s.heap H) s.heap C) (madeIn s.heap C) := I.hok.frz.made
  have un1 : Un (frs X.stack) [] (frzH s.heap H) (madeH (frzH s.heap H) s.heap C) s.heap (madeIn s.heap C) := Un.made I.hok.frz
  have nn : ∀ b, madeH H s.heap C b = none → madeH (frzH s.heap H) s.heap C b = none := fun b e => by
    obtain ⟨h1, h2⟩ := made_out e
    rw [made_in h1 h2] at e ⊢
    exact frz_none e
  have e0 := I2.env0
  have e2 : Env0 X.prog X.w X.K X.mg X.base X.A X.stack { s with heap := madeIn s.heap C } (madeH (frzH s.heap H) s.heap C) :=
    ⟨e0.frames, e0.mod, fun b o q => ⟨(e0.bs b o q).1, nn b (e0.bs b o q).2⟩, e0.bsz, e0.funs, fun b hb => nn b (e0.frf b hb), ok2, e0.bare⟩
  have r2 : Vals (V.ref (s.heap.objs.size + 1) :: (vs ++ dvs)) (Value.ref (s.heap.objs.size + 1) :: (us ++ ds)) := .cons rfl (r.append hd)
  have hl : (Value.ref (s.heap.objs.size + 1) :: us ++ ds).length = ps.length := by
    have e := r2.length
    rw [F.len _ _ _ _ hq] at e
    exact e.symm
  refine wpAny_call (make_map (f := f) I.kIn M.makes M.init (beq_iff_eq.mp M.fn) (codeAny_mono (F.run _ X.stack _ _ ⟨Value.ref (s.heap.objs.size + 1) :: us, []⟩ (Value.ref (s.heap.objs.size + 1) :: (us ++ ds)) _ _ E (hr.make C us [])
    (e2.make C us []) (hb _ (Value.ref (s.heap.objs.size + 1) :: us) I2.kIn hl) r2 hq) fun r s' hq' => ?_))
  cases r with
  | error e =>
    have hc : CXD X.prog X.w X.stack (frzH s.heap H) s E e s' := by
      obtain ⟨ea, C', dx, H', B, rfl, os, bare, un, a, ok', bn, x, hE'⟩ := (show CXD X.prog X.w X.stack (madeH (frzH s.heap H) s.heap C) { s with heap := madeIn s.heap C } E e s' from hq')
      exact ⟨ea, C', dx, H', B, rfl, os, bare, un1.trans un, a, ok', ⟨fun b o q n hb hx => bn.kp b o (made_at q) (by rw [made_of q]; exact n) hb hx, fun b o q hb hx => bn.th b o (made_at q) hb hx⟩, x, hE'⟩
    obtain ⟨ea, C', dx, H'', rfl, I', a', H', rfl, rd, he⟩ := flown_in I (CXD.thaw I.hok hc)
    exact hE ea C' dx H' s' I' a' rd he
  | ok fl =>
    cases fl with
    | ret u =>
      obtain ⟨v, H', os, bare, un, hok, rv, ev, q⟩ := (show CE X.stack X.prog X.w (madeH (frzH s.heap H) s.heap C) { s with heap := madeIn s.heap C } (fun v H2 => v = .non ∧ Q' (.ref (s.heap.objs.size + 1)) H2) u s' from hq')
      subst ev
      have un2 := un1.trans un
      have t : Thw s.heap H H' := ⟨un2.tups, un2.frzs⟩
      exact ⟨rv, ⟨V.ref (s.heap.objs.size + 1), thaw H H', I.call' (ch := []) os (un2.thaw I.hok) (I.hok.thaw t hok) bare (fun b z => absurd z (by simp)), rfl, hQ _ H' (fun b u hu r => r.thaw I.hok t hok hu) q⟩⟩
    | next => exact False.elim hq'
    | brk => exact False.elim hq'
    | cont => exact False.elim hq'
end
end L2
namespace DC
open PySem PySem.Spec PyProof.Rows L2
abbrev SpIX := List D → (FD → Prop) → XR → Prop
abbrev MonoIX (sx : SpIX) : Prop := ∀ ds (P P' : FD → Prop) (R R' : XR), (∀ g, P g → P' g) → (∀ C g, R C g → R' C g) → sx ds P R → sx ds P' R'
def spIX (K : PySem.W.Frag) (C : Addr) (sx : SpIX) : Sp := fun vs H Q E => ∃ a dx vs' ds, vs = .ref a :: vs' ∧ AtI K C a dx H [] ∧ Dvs K (hid H a dx) vs' ds ∧ sx ds (fun gs => ∀ H', Same (hid H a dx) (hid H' a dx) → AtI K C a dx H' gs → Q .non H') (kX K E)
section
variable {X : Cx} {o e : Expr} {es : List Expr} {ta : ED} {t : AD} {pos p apos : Pos} {x m : Str} {j k : Nat} {f C : Addr} {fd : FuncData} {ps : List Str} {sx : SpIX} {sm : Addr → SpX} {ok : Addr → Prop} {xk : SD → XR} {dvs : List V} {dls : List Value} {dd : List D}
theorem run_mkX {pins : List (Addr × Obj)} {σ : L2.St} {δ : SD} {H H1 : Hp} {s : Shared} {Q : VK} {us : List Value} {vs : List V} {ds : List D} (hx : XAcc X xk) (M : Mk X.K C f) (F : FnOk X.prog X.w X.K X.mg X.base (CXD X.prog X.w) k f fd ps (spIX X.K C sx)) (ms : MonoIX sx) (hr : Room (k + 1) X.A) (hb : Binds X.K fd ps dls) (hd : Vals dvs dls) (hdd : ∀ H, Dvs X.K H dvs dd)
    (I : Inv X pins σ H1 s) (rs : RelS X.K H σ δ) (s1 : Same H H1) (r : Vals vs us) (dv : Dvs X.K H1 vs ds) (h : sx (ds ++ dd) (fun gs => kD X.K H Q (.obj C gs)) (xk δ)) : wpAny (model X.prog X.w) X.A (call (.ref C) us) (EP X pins σ Q) X.xe s := by
  refine run_makeX (Q' := backX X.K (kD X.K H Q)) (E := wishX X.K (xk δ)) M F hr hb hd I r (fun y dx hy hdx ne => ?_) ?_ ?_
  · have hs : hid (shown (frzH s.heap H1) y dx C []) y dx = frzH s.heap H1 := hid_shown (frz_none hy) (frz_none hdx)
    refine ⟨y, dx, vs ++ dvs, ds ++ dd, rfl, ⟨⟨[], shown_a, .nil⟩, ne⟩, ?_, ms _ _ _ _ _ (fun gs z H' s' g' => ⟨rfl, .obj C gs, g'.dv, z⟩) (fun C g q => kX_wish q) h⟩
    show Dvs X.K (hid (shown (frzH s.heap H1) y dx C []) y dx) _ _
    rw [hs]
    exact ((dv.append (hdd H1)).rd fun b u hu z => z.frz I.hok hu)
  · rintro v H' rd ⟨d, dv, q⟩
    exact q v _ (s1.trans (thaw_same _ _)) (dv.rd rd)
  · rintro ea C dx H' s' I' a rd ⟨C', gs, fs, e, xd, df, q⟩
    cases e
    exact hx pins σ δ _ s' ea C dx fs gs I' (rs.same (s1.trans (thaw_same _ _))) a (XDict.rd rd xd) (Dvf.rd rd df) q
def vMakeX (xk : SD → XR) (C : Addr) (sx : SpIX) (dd : List D) (t : AD) : ED := fun δ Q => t δ fun ds => sx (ds ++ dd) (fun gs => Q (.obj C gs)) (xk δ)
theorem d_makeX (hx : XAcc X xk) (M : Mk X.K C f) (F : FnOk X.prog X.w X.K X.mg X.base (CXD X.prog X.w) k f fd ps (spIX X.K C sx)) (ms : MonoIX sx) (hr : Room (k + 1) X.A) (hg : Gl X x) (hm : X.mg x = some (.ref C)) (hb : Binds X.K fd ps dls) (hv : Vals dvs dls) (hdd : ∀ H, Dvs X.K H dvs dd)
    (ha : PAd X (e :: es) t) (hdb : (x == ("__debug__" : Str)) = false := by decide) (he : starEach (e :: es) X.env = (false, eval e X.env) :: starEach es X.env := by rfl) (hpl : (backTo pos (starEach es X.env)).any (·.1) = false := by rfl) :
    PD X (.Call (.Name x p) (e :: es) [] pos) (vMakeX xk C sx dd t) := by
  refine ⟨fun pins s σ H Q I ⟨δ, r, h⟩ => ?_, fun δ P P' g h => ha.mono _ _ _ (fun ds q => ms _ _ _ _ _ (fun gs z => g _ z) (fun _ _ z => z) q) h⟩
  refine wpAny_Call_Name_kw (ld_glob I hg hm ?_ hdb)
  refine PySem.W.callWith_K (h₀ := X.base) I.ok.mod.kin M.kp (thn (ha.pa pos pins s σ H (fun vs H1 => Same H H1 ∧ ∃ ds, Dvs X.K H1 vs ds ∧ sx (ds ++ dd) (fun gs => kD X.K H Q (.obj C gs)) (xk δ)) I ⟨δ, r, ha.mono _ _ _ (fun ds q vs H1 s1 dv => ⟨s1, ds, dv, q⟩) h⟩) fun us s1 ⟨vs, H1, I1, r1, sm, ds, dv, q⟩ => ⟨I1.kIn, ?_⟩) he hpl
  exact run_mkX hx M F ms hr hb hv hdd I1 r sm r1 dv q
structure MkrX (P : Program) (w : World) (K : PySem.W.Frag) (mg : Str → Option Value) (base : Heap) (j : Nat) (x : Str) (C : Addr) (sx : SpIX) (dd : List D) : Prop where
  ex : ∃ f fd ps dvs ds, Mk K C f ∧ FnOk P w K mg base (CXD P w) j f fd ps (spIX K C sx) ∧ mg x = some (.ref C) ∧ Binds K fd ps ds ∧ Vals dvs ds ∧ ∀ H, Dvs K H dvs dd
  ms : MonoIX sx
theorem d_mkX (hx : XAcc X xk) (c : MkrX X.prog X.w X.K X.mg X.base j x C sx dd) (hr : Room k X.A) (hj : j + 1 ≤ k) (hg : Gl X x) (ha : PAd X (e :: es) t) (hdb : (x == ("__debug__" : Str)) = false := by decide)
    (h1 : starEach (e :: es) X.env = (false, eval e X.env) :: starEach es X.env := by rfl) (h2 : (backTo pos (starEach es X.env)).any (·.1) = false := by rfl) : PD X (.Call (.Name x p) (e :: es) [] pos) (vMakeX xk C sx dd t) := by
  obtain ⟨f, fd, ps, dvs, ds, M, F, m, b, v, h⟩ := c.ex
  exact d_makeX hx M F c.ms (hr.mono hj) hg m b v h ha hdb h1 h2
structure McalX (P : Program) (w : World) (K : PySem.W.Frag) (mg : Str → Option Value) (base : Heap) (j : Nat) (C : Addr) (m : Str) (sx : SpX) : Prop where
  ex : ∃ f fd ps, Cls K C ∧ Meth K C m f ∧ FnOk P w K mg base (CXD P w) j f fd ps (spX K sx) ∧ Binds K fd ps []
  ms : MonoX sx
def vMethX (xk : SD → XR) (ok : Addr → Prop) (m : Str) (sm : Addr → SpX) (ta : ED) (t : AD) : ED := fun δ Q => ta δ fun d => ∃ C gs, d = .obj C gs ∧ gs.lookup m = none ∧ ok C ∧ t δ fun ds => sm C (d :: ds) Q (xk δ)
theorem d_mX0 {pl : Sem Bool} (hx : XAcc X xk) (hM : ∀ C, ok C → McalX X.prog X.w X.K X.mg X.base j C m (sm C)) (hr : Room k X.A) (hj : j ≤ k) (he : PD X o ta)
    (ht : eval (.Call (.Attribute o m apos) [] [] pos) X.env = (do
      let ov ← eval o X.env
      standAt apos.atName
      let (f, first) ← holding [ov] (getMethod ov m pl)
      callWith pos f first (backTo pos (starEach [] X.env)) (backToKw pos (keywordEach [] X.env))) := by rfl) :
    PD X (.Call (.Attribute o m apos) [] [] pos) (vMethX xk ok m sm ta aNil) := by
  refine ⟨fun pins s σ H Q I ⟨δ, r, h⟩ => ?_, fun δ P P' g h => he.mono _ _ _ (fun d ⟨C, gs, e, l, M, q⟩ => ⟨C, gs, e, l, M, (hM C M).ms _ _ _ _ _ g (fun _ _ z => z) q⟩) h⟩
  refine PySem.W.methodCall_KW (pl := pl) (thn (he.pe pins s σ H (fun v H1 => Same H H1 ∧ ∃ C gs dx fs a, v = .ref a ∧ Rd H1 a (.ins C dx fs) ∧ Dvf X.K H1 fs gs ∧ gs.lookup m = none ∧ ok C ∧ sm C [.obj C gs] (kD X.K H Q) (xk δ)) I ⟨δ, r, he.mono _ _ _ (fun d k v H1 s1 dv => ?_) h⟩)
    fun u s1 ⟨v, H1, I1, rx, sa, C, gs, dx, fs, a, ev, ha, hf, l, M, q⟩ => ?_) ht
  · obtain ⟨C, gs, ed, l, M, q⟩ := k
    subst ed
    cases dv with
    | obj h1 h2 => exact ⟨s1, _, _, _, _, _, rfl, h1, h2, l, M, q⟩
  · subst ev
    obtain rfl : u = Value.ref a := rx
    obtain ⟨f, fd, ps, c, mt, F, b⟩ := (hM C M).ex
    refine getmeth_okR I1 ha c mt (hf.none l) ?_
    exact PySem.W.callWith_K0 (first := [.ref a]) I1.kIn mt.kp (run_X (us := [.ref a]) (vs := [.ref a]) (ds := [.obj C gs]) (dd := []) hx F (hM C M).ms (hr.mono hj) b .nil (fun _ => .nil) I1 r sa (.cons rfl .nil) (.cons (.obj ha hf) .nil) q)
theorem d_calX (hx : XAcc X xk) {sx : SpX} (c : CalX X.prog X.w X.K X.mg X.base j x ps sx) (hr : Room k X.A) (hj : j ≤ k) (hg : Gl X x) (ha : PAd X (e :: es) t) (hdb : (x == ("__debug__" : Str)) = false := by decide)
    (h1 : starEach (e :: es) X.env = (false, eval e X.env) :: starEach es X.env := by rfl) (h2 : (backTo pos (starEach es X.env)).any (·.1) = false := by rfl) : PD X (.Call (.Name x p) (e :: es) [] pos) (vCallX xk sx [] t) := by
  obtain ⟨f, fd, F, m, kp, b⟩ := c.ex
  exact d_callX (dvs := []) (dls := []) hx F c.ms (hr.mono hj) hg m kp b .nil (fun _ => .nil) ha hdb h1 h2
end
section
variable {P : Program} {w : World} {K : PySem.W.Frag} {mg : Str → Option Value} {base : Heap}
theorem fun_v {x qual : Str} {st : Stmt} {f : Addr} {fd : FuncData} (F : Fun K x qual st f fd) : FunV K x qual st f fd :=
  let ⟨oc, od, kV, doc, pm, an, cdv, ct, osl, h1, h2, h3⟩ := F.ex
  ⟨⟨oc, od, .none, kV, doc, pm, an, cdv, ct, osl, h1, h2, h3⟩, F.kp⟩
theorem Df.calX {k : Nat} {x : Str} {st : Stmt} {ps N : List Str} {sx : SpX} {t : XR → TSD} (d : Df K mg x st ps) (S : FnScope N ps (defScope st)) (ms : MonoX sx) (len : ∀ ds Q R, sx ds Q R → ds.length = ps.length)
    (hb : ∀ (f : Addr) (cdv : Value) (A : Around) (outer : List Env) (s : Shared) (H : Hp) (E : XK) (R : XR), Room k (A.deeper (envOfC x (defScope st) s.heap.objs.size f cdv)) → XAcc (BxX P w K mg base N x st f cdv A outer s H E) (fun _ => R) → PSsd (BxX P w K mg base N x st f cdv A outer s H E) (defBody st) (t R))
    (hr : ∀ ds Q R, sx ds Q R → t R { nx := fun _ => Q .non, rt := Q } (startD N ds)) : CalX P w K mg base (k + 1) x ps sx := by
  obtain ⟨f, fd, F, m, b⟩ := d.ex
  exact ⟨⟨f, fd, okX (fun_v F) S len (hb f) hr, m, F.kp, b⟩, ms⟩
theorem Dm.calX {k : Nat} {C : Addr} {m qual : Str} {st : Stmt} {ps N : List Str} {sx : SpX} {t : XR → TSD} (d : Dm K C m qual st ps) (S : FnScope N ps (defScope st)) (ms : MonoX sx) (len : ∀ ds Q R, sx ds Q R → ds.length = ps.length)
    (hb : ∀ (f : Addr) (cdv : Value) (A : Around) (outer : List Env) (s : Shared) (H : Hp) (E : XK) (R : XR), Room k (A.deeper (envOfC qual (defScope st) s.heap.objs.size f cdv)) → XAcc (BxX P w K mg base N qual st f cdv A outer s H E) (fun _ => R) → PSsd (BxX P w K mg base N qual st f cdv A outer s H E) (defBody st) (t R))
    (hr : ∀ ds Q R, sx ds Q R → t R { nx := fun _ => Q .non, rt := Q } (startD N ds)) : McalX P w K mg base (k + 1) C m sx := by
  obtain ⟨f, fd, F, M, c, b⟩ := d.ex
  exact ⟨⟨f, fd, ps, c, M, okX (fun_v F) S len (hb f) hr, b⟩, ms⟩
theorem okIX {x qual : Str} {st : Stmt} {f C : Addr} {fd : FuncData} {N ps : List Str} {k : Nat} {sx : SpIX} {t : XR → Addr → TID} (F : FunV K x qual st f fd) (S : FnScope N ps (defScope st)) (len : ∀ ds Q R, sx ds Q R → ds.length + 1 = ps.length)
    (hb : ∀ (cdv : Value) (A : Around) (outer : List Env) (s : Shared) (H : Hp) (E : XK) (R : XR), Room k (A.deeper (envOfC qual (defScope st) s.heap.objs.size f cdv)) → XAcc (BxX P w K mg base N qual st f cdv A outer s H E) (fun _ => R) → PIs (BxX P w K mg base N qual st f cdv A outer s H E) C (defBody st) (t R))
    (hr : ∀ a ds Q R, sx ds Q R → t R a { nx := fun _ => Q, rt := Q, fin := Q } (startD N (.adr a :: ds)) []) : FnOk P w K mg base (CXD P w) (k + 1) f fd ps (spIX K C sx) := by
  obtain ⟨oc, od, dV, kV, doc, pm, an, cdv, ct, osl, rfl, lk, hcd⟩ := F.ex
  refine fn_of lk hcd S (fun vs H Q E ⟨a, dx, vs', ds, e, g, dvs, h⟩ => by rw [e, List.length_cons, dvs.length]; exact len ds _ _ h) fun A outer s H vs Q E hroom ⟨a, dx, vs', ds, e, g, dvs, h⟩ => ?_
  have B := hb cdv A outer s H E (kX K E) hroom acc_X
  subst e
  refine ⟨_, B.ps, a, dx, startD N (.adr a :: ds), [], start_rel (.cons (.adr a) dvs), g, ?_⟩
  let Q' : FD → Prop := fun gs => ∀ H', Same (hid H a dx) (hid H' a dx) → AtI K C a dx H' gs → Q .non H'
  exact B.mono a { nx := fun _ => Q', rt := Q', fin := Q' } _ _ _ ⟨fun δ gs q σ H' s' r' g' => q H' s' g', fun gs q H' s' g' => q H' s' g', fun gs q σ H' s' g' => q H' s' g'⟩ (hr a ds _ _ h)
theorem Di.mkrX {k : Nat} {x : Str} {C : Addr} {qual : Str} {st : Stmt} {ps N : List Str} {dd : List D} {sx : SpIX} {t : XR → Addr → TID} (d : Di K mg x C qual st ps dd) (S : FnScope N ps (defScope st)) (ms : MonoIX sx) (len : ∀ ds Q R, sx ds Q R → ds.length + 1 = ps.length)
    (hb : ∀ (f : Addr) (cdv : Value) (A : Around) (outer : List Env) (s : Shared) (H : Hp) (E : XK) (R : XR), Room k (A.deeper (envOfC qual (defScope st) s.heap.objs.size f cdv)) → XAcc (BxX P w K mg base N qual st f cdv A outer s H E) (fun _ => R) → PIs (BxX P w K mg base N qual st f cdv A outer s H E) C (defBody st) (t R))
    (hr : ∀ a ds Q R, sx ds Q R → t R a { nx := fun _ => Q, rt := Q, fin := Q } (startD N (.adr a :: ds)) []) : MkrX P w K mg base (k + 1) x C sx dd := by
  obtain ⟨f, fd, dvs, ds, F, M, m, b, v, h⟩ := d.ex
  exact ⟨⟨f, fd, ps, dvs, ds, M, okIX F S len (hb f) hr, m, b, v, h⟩, ms⟩
end
end DC

set_option maxHeartbeats 1000000
namespace L2
open PySem PySem.Spec PyProof.Rows
theorem compLoop_allE {prog : Program} {w : World} {A : Around} {R : Result → Shared → Prop} {s : Shared} {elt target iter : Expr} {ifs : List Expr} {scope : Scope} {pos : Pos} {it acc : Value} {env : Env} {E' : Value → Shared → Prop} (hE : ∀ x s, E' x s → notedBy (model prog w) A env (fun e s' => R (.error e) s') x s) (I : Nat → Shared → Prop)
    (turn : ∀ n s, I n s → wpAny (model prog w) A (pyNext it) (fun r s₁ => match r with
      | none => R (.ok .next) s₁
      | some v => wpAny (model prog w) A (letOwnedTupleGo target it v) (fun _ s₀ => wpAny (model prog w) A (assign target env v) (fun _ s₂ =>
          wpAny (model prog w) A (forIn ifs true fun c r => if r = true then do let ok ← isTrue c env (eval c env); pure (ForInStep.yield ok) else pure (ForInStep.yield r)) (fun ok s₃ =>
            if ok = true then wpAny (model prog w) A (eval elt env) (fun x s₄ =>
              wpAny (model prog w) A (call (.builtin "list.append") [acc, x]) (fun _ s₅ => ∃ m, m < n ∧ I m s₅) E' s₄) E' s₃
            else ∃ m, m < n ∧ I m s₃) E' s₂) E' s₀) (fun _ _ => False) s₁) (fun _ _ => False) s)
    (n : Nat) (h : I n s) :
    codeAny (model prog w) A (.compLoop (.ListComp elt [⟨target, iter, ifs, 0⟩] scope pos) 0 it acc env) R s := by
  refine codeAny_loop rfl I (fun n s hI => ?_) n h
  show wpAny _ A ((compTurn (.ListComp elt [⟨target, iter, ifs, 0⟩] scope pos) 0 it acc env).onRaise (fun x => do noteFrame x env; theTreesLotGoes x)) _ _ s
  refine wpAny_noted ?_
  rw [compTurn_list]
  refine wpAny_bind (wpAny_standAt (wpAny_bind (wpAny_mono (turn n s hI) (fun r s₁ h₁ => ?_) fun _ _ h' => h'.elim)))
  cases r with
  | none => exact wpAny_pure h₁
  | some v =>
    refine wpAny_bind (wpAny_mono h₁ (fun _ s₀ h₀ => ?_) fun _ _ h' => h'.elim)
    refine wpAny_bind (wpAny_mono h₀ (fun _ s₂ h₂ => wpAny_bind (wpAny_mono h₂ (fun ok s₃ h₃ => ?_) hE)) hE)
    cases ok with
    | false => exact wpAny_pure ⟨rfl, h₃⟩
    | true =>
      exact wpAny_bind (wpAny_bind (wpAny_mono h₃ (fun x s₄ h₄ => wpAny_bind (wpAny_mono h₄ (fun _ s₅ h₅ => wpAny_pure (wpAny_pure ⟨rfl, h₅⟩)) hE)) hE))
theorem funFrames_to {h h' B B' : Heap} : ∀ {l : List Env}, h.FunFrames B l → (∀ L ∈ frs l, ∀ o, B.get? L = none → h.get? L = some o → (∀ vs, o.data ≠ .fields vs) → B'.get? L = none ∧ ∃ o', h'.get? L = some o' ∧ o'.data = o.data) → h'.FunFrames B' l
  | [], _, _ => trivial
  | env :: rest, ⟨hk, ⟨L, o, hf, hn, ho, hd⟩, hr⟩, k => by
    obtain ⟨n', o', ho', e⟩ := k L (List.mem_filterMap.mpr ⟨env, List.mem_cons_self, hf⟩) o hn ho hd
    exact ⟨hk, ⟨L, o', hf, n', ho', fun vs => by rw [e]; exact hd vs⟩, funFrames_to hr fun L' hm => k L' (by
      obtain ⟨e, he, hfe⟩ := List.mem_filterMap.mp hm
      exact List.mem_filterMap.mpr ⟨e, List.mem_cons_of_mem _ he, hfe⟩)⟩
end L2
namespace DC
open PySem PySem.Spec PyProof.Rows L2
def compE (X : Cx) (scope : Scope) (cl : List (Str × Addr)) (N : List Str) (R : XR) (C : Addr) (fp : List Addr) (s₂ : Shared) (H₂ : Hp) : Value → Shared → Prop := fun e s =>
  ∃ ea C' dx fs gs pins σ' H', e = .ref ea ∧ Inv (cxComp X scope cl C N fp s₂ H₂) pins σ' H' s ∧ InAir (cxComp X scope cl C N fp s₂ H₂) H' s ea C' dx ∧ XDict H' dx fs ∧ Dvf X.K H' fs gs ∧ R C' gs
abbrev cxCompR (X : Cx) (scope : Scope) (cl : List (Str × Addr)) (C : Addr) (N : List Str) (fp : List Addr) (s₂ : Shared) (H₂ : Hp) (R : XR) : Cx := (cxComp X scope cl C N fp s₂ H₂).wish (compE X scope cl N R C fp s₂ H₂)
theorem acc_comp {X : Cx} {scope : Scope} {cl : List (Str × Addr)} {C : Addr} {N : List Str} {fp : List Addr} {s₂ : Shared} {H₂ : Hp} {R : XR} : XAcc (cxCompR X scope cl C N fp s₂ H₂ R) (fun _ => R) :=
  fun pins σ δ H s ea C' dx fs gs I r a xd df hR => ⟨ea, C', dx, fs, gs, pins, σ, H, rfl, I.unwish, a, xd, df, hR⟩
theorem rel_none {K : PySem.W.Frag} {H : Hp} {σ : L2.St} : RelS K H σ (List.replicate σ.length none) :=
  ⟨by simp, fun i d h => by rw [List.getElem?_replicate] at h; split at h <;> cases h⟩
section
variable {X : Cx} {scope : Scope} {cl : List (Str × Addr)} {N : List Str} {R : XR} {C : Addr} {fp : List Addr} {pins : List (Addr × Obj)} {σ : L2.St} {H2 : Hp} {s s2 : Shared}
theorem comp_err (hst : X.stack = X.env :: X.outer) (hfr : X.env.frame = some X.env.locals) (hx : XAcc X (fun _ => R)) (I2 : Inv X pins σ H2 s2) (f2 : ∀ b ∈ fp, FpOk X pins H2 b) (hC : s2.heap.objs.size ≤ C) {e : Value} (ce : compE X scope cl N R C fp s2 H2 e s)
    {use : Option (Value → Sem Unit)} {Q : Value → Shared → Prop} {acc : Value} : notedBy (model X.prog X.w) X.A (compEnvC scope cl C X.env) (fun x s' => compPost (model X.prog X.w) X.A X.xe use Q acc C (.error x) s') e s := by
  obtain ⟨ea, C', dx, fs, gs, pins', σ', H', rfl, J, ⟨B, fl, a, ok, bn, x, _⟩, xd, df, hR⟩ := ce
  unfold notedBy
  rw [note_eq (show (compEnvC scope cl C X.env).frame = X.env.frame from rfl)]
  have a0 : Air B (X.env :: X.outer) ea s.heap := hst ▸ a
  refine note_x (env := X.env) (outer := X.outer) (L := X.env.locals) (by rw [← hst]; exact I2.ok.frames) hfr a0 x fun h1 a1 u1 x1 => ?_
  obtain ⟨m, hn, _⟩ := J.loc
  obtain ⟨oC, es, ep, ho, hd, hrest⟩ := id hn
  have hoC : s.heap.get? C = some oC := ho
  obtain ⟨sl, ho1⟩ := u1 C oC hoC (fun ws q => by rw [hd] at q; cases q)
  refine (show ∃ m, h1.Ns C m ∧ _ from ⟨m, ⟨{ oC with slots := sl }, es, ep, ho1, hd, hrest⟩, fun h2 hs2 cenv hcenv => ?_⟩)
  obtain ⟨oe, vs, he, hc, hdx, hdv, hz, hy, T, oT, ts, hv1, hnT, hTe, hT, hdT, h3⟩ := x1
  have neC : ∀ b o, h1.get? b = some o → (∃ ws, o.data = .fields ws) → b ≠ C := fun b o q ⟨ws, hw⟩ z => by
    rw [z, ho1] at q
    cases q
    have hd' : oC.data = .fields ws := hw
    rw [hd] at hd'
    cases hd'
  have eaC := neC ea oe he ⟨vs, hdv⟩
  have TC := neC T oT hT ⟨ts, hdT⟩
  have ltC : ∀ b o, s2.heap.get? b = some o → b ≠ C := fun b o q => Nat.ne_of_lt (Nat.lt_of_lt_of_le (Heap.lt_size q) hC)
  have stC : ∀ b ∈ frs X.stack, b ≠ C := fun b hb => by
    obtain ⟨_, o, q, _⟩ := I2.stack.mem hb
    exact ltC b o q
  have in_B : ∀ b o, B.get? b = some o → b ≠ C → (PySem.W.hideAll B [C]).get? b = some o := fun b o q n => PySem.W.hideAll_get _ q (by simpa using n)
  have out_B : ∀ b o, (PySem.W.hideAll B [C]).get? b = some o → B.get? b = some o ∧ b ≠ C := fun b o q => ⟨PySem.W.of_hideAll _ q, fun z => by rw [z, PySem.W.hideAll_none _ (List.mem_singleton.mpr rfl)] at q; cases q⟩
  have no_B : ∀ b, B.get? b = none → (PySem.W.hideAll B [C]).get? b = none := fun b n => by
    cases q : (PySem.W.hideAll B [C]).get? b with
    | none => rfl
    | some o => rw [(out_B b o q).1] at n; cases n
  have a2 : Air (PySem.W.hideAll B [C]) (X.env :: X.outer) ea h2 := by
    refine ⟨fun b o q => (hs2.2 b (out_B b o q).2).trans (a1.st b o (out_B b o q).1), no_B _ a1.ne, funFrames_to a1.fr fun L hL o hnL hoL hdL => ⟨no_B L hnL, o, ?_, rfl⟩⟩
    exact (hs2.2 L (stC L (by rw [hst]; exact hL))).trans hoL
  have x2 : ExAt (PySem.W.hideAll B [C]) ea C' dx (some (rawInt X.env.locals)) h2 :=
    ⟨oe, vs, (hs2.2 ea eaC).trans he, hc, hdx, hdv, hz, hy, T, oT, ts, hv1, no_B T hnT, hTe, (hs2.2 T TC).trans hT, hdT, h3⟩
  unfold PySem.passOn
  refine wpAny_bind (wpAny_field ((hs2.2 ea eaC).trans he) hdv hv1 ?_)
  rw [if_neg (by simp)]
  refine wpAny_bind (flight_x (s := { s with heap := h2 }) a2 x2 fun h4 a4 u4 x4 => wpAny_throw ?_)
  have fC : H' C = none := J.free
  have okB : HOk X.prog X.w H' (PySem.W.hideAll B [C]) := fun b u q => (ok b u q).stay (fun c v hcc z => in_B c v z (fun y => by
    rcases hcc with rfl | hcc
    · rw [y, fC] at q; cases q
    · rw [y, fC] at hcc; cases hcc)) (fun _ z => z) fun _ _ z => z
  have up : ∀ b o, b ∈ frs X.stack → s.heap.get? b = some o → ∃ sl, h4.get? b = some { o with slots := sl } := fun b o hb q => by
    obtain ⟨_, o', q', nf⟩ := a.fr.mem hb
    rw [q] at q'
    cases q'
    obtain ⟨sl1, z1⟩ := u1 b o q nf
    obtain ⟨sl2, z2⟩ := u4 b _ ((hs2.2 b (stC b hb)).trans z1) nf
    exact ⟨sl2, z2⟩
  have nofp : ∀ b o, X.s₀.heap.get? b = some o → b ∉ X.ex → b ∉ fp := fun b o q hx' hb => by
    rcases (f2 b hb).2.2.2.1 with z | z
    · exact hx' z
    · exact absurd (Heap.lt_size q) (Nat.not_lt.mpr z)
  have I3 : Inv X pins σ H' { s with heap := h4 } := by
    refine I2.call' (ch := fp) J.os ⟨fun b o q n hb hxx => a4.st b o (in_B b o (bn.kp b o q n hb hxx) (ltC b o q)), fun b o q n hb hxx => ?_, J.base.free, fun b o q hxx => ?_, J.base.tups, J.base.frzs, J.base.tbls⟩ (okB.kept a4.st) J.bare
      fun b hb => ⟨(f2 b hb).2.2.2.1, (f2 b hb).2.1, (f2 b hb).2.2.2.2.1, (f2 b hb).2.2.2.2.2⟩
    · obtain ⟨sl1, z⟩ := J.base.slot b o q n hb hxx
      obtain ⟨sl2, z2⟩ := up b _ hb z
      exact ⟨sl2, z2⟩
    · by_cases hb : b ∈ frs X.stack
      · obtain ⟨o', z⟩ := J.base.there b o q hxx
        obtain ⟨sl2, z2⟩ := up b _ hb z
        exact ⟨_, z2⟩
      · obtain ⟨o', z⟩ := bn.th b o q hb hxx
        exact ⟨o', a4.st b o' (in_B b o' z (ltC b o q))⟩
  refine hx pins σ (List.replicate σ.length none) H' { s with heap := h4 } ea C' dx fs gs I3 rel_none ⟨PySem.W.hideAll B [C], _, hst ▸ a4, okB, ⟨fun b o q n hb hxx => ?_, fun b o q hb hxx => ?_⟩, x4, fun p hp => ?_⟩ xd df hR
  · have q2 := I2.base.keep b o q n hb hxx
    exact in_B b o (bn.kp b o q2 (I2.base.free b o q n hxx) (I2.nost q hb) (nofp b o q hxx)) (ltC b o q2)
  · obtain ⟨o', q2⟩ := I2.base.there b o q hxx
    obtain ⟨o2, z⟩ := bn.th b o' q2 (I2.nost q hb) (nofp b o q hxx)
    exact ⟨o2, in_B b o2 z (ltC b o' q2)⟩
  · obtain ⟨y1, y2, _⟩ := I2.pin p (List.mem_append_left _ hp)
    exact in_B _ _ (bn.kp p.1 p.2 y1 y2 (I2.pinOut hp) fun hb => (f2 _ hb).2.2.2.2.2 p (List.mem_append_left _ hp) rfl) (ltC _ _ y1)
end
section
variable {X : Cx} {scope : Scope} {cl : List (Str × Addr)} {T cn : List Str} {caps : List Nat} {elt tg iter : Expr} {ifs : List Expr} {wi : TI} {g : TG} {tt : TT} {te : TE} {pos : Pos} {R : XR}
theorem comp_blockX (S : CompScope X scope cl T caps cn) (hc : X.calm = true) (hg : ∀ C fp s₂ H₂, PG (cxCompR X scope cl C (T ++ cn) fp s₂ H₂ R) tg g) (ht : ∀ C fp s₂ H₂, PTs (cxCompR X scope cl C (T ++ cn) fp s₂ H₂ R) ifs tt)
    (he : ∀ C fp s₂ H₂, PE (cxCompR X scope cl C (T ++ cn) fp s₂ H₂ R) elt te) {pins : List (Addr × Obj)} {σ : L2.St} {H2 : Hp} {s2 : Shared} {it : Addr} {fp : List Addr} {tn : Nat → Heap → Prop} {J : It} {E : Value → Shared → Prop} {Q : VK}
    {RR : Value → Addr → Result → Shared → Prop} (I2 : Inv X pins σ H2 s2) (Tn : Turn X.prog X.w X.K tg J fp it tn) (st2 : tn 0 s2.heap) (f2 : ∀ b ∈ fp, FpOk X pins H2 b)
    (q : ∀ D, H2 D = none → CompW J D H2 (st0 T.length caps σ) g tt te Q)
    (fin : ∀ D C oC m H' s', Inv X (pins ++ [(C, oC)]) σ H' s' → s'.heap.get? C = some oC → s'.heap.Ns C m → FpOk X pins H' C → Q (.ref D) H' → RR (.ref D) C (.ok .next) s')
    (err : ∀ acc C e s, s2.heap.objs.size ≤ C → compE X scope cl (T ++ cn) R C fp s2 H2 e s → notedBy (model X.prog X.w) X.A (compEnvC scope cl C X.env) (fun x s' => RR acc C (.error x) s') e s) :
    wpAny (model X.prog X.w) X.A (newList []) (fun acc s₃ => wpAny (model X.prog X.w) X.A (newFunctionEnv scope X.env.globals cl [] X.env.qual none .none (some X.env)) (fun cenv s₄ =>
      codeAny (model X.prog X.w) X.A (.compStart (.ListComp elt [⟨tg, iter, ifs, 0⟩] scope pos) 0 (.ref it) acc { cenv with scope := relabel scope X.env }) (RR acc cenv.locals) s₄) E s₃) E s2 := by
  refine wpAny_newObj_type (wpAny_newFunctionEnv S.ncell (by intro y hy; simp at hy) (fun h₁ hns₁ hsb₁ => ?_) S.kind)
  dsimp only at hns₁ hsb₁ ⊢
  generalize hH2 : s2.heap.push { cls := .type "list", dict := none, data := .seq ([] : List Value).toArray } = G2 at hns₁ hsb₁ ⊢
  have hC : G2.objs.size = s2.heap.objs.size + 1 := by rw [← hH2, Heap.size_push]
  have hDC : s2.heap.objs.size ≠ G2.objs.size := by omega
  have old : ∀ b o, s2.heap.get? b = some o → h₁.get? b = some o := fun b o e => hsb₁.extBut b o (by rw [hC]; exact Nat.ne_of_lt (Nat.lt_succ_of_lt (Heap.lt_size e))) (Heap.get?_push_of_some _ (hH2 ▸ Heap.get?_push_of_some _ e))
  have hacc : ∃ n, h₁.get? s2.heap.objs.size = some { cls := .type "list", data := .seq #[] n } := ⟨_, hsb₁.extBut _ _ hDC (Heap.get?_push_of_some _ (hH2 ▸ Heap.get?_push_size _ rfl))⟩
  have fo : ∀ b ∈ fp, b < s2.heap.objs.size := fun b hb => by
    obtain ⟨o, e, _⟩ := Tn.obj 0 _ st2 b hb
    exact Heap.lt_size e
  obtain ⟨W, ⟨m0, w0⟩, turn⟩ := q s2.heap.objs.size I2.fresh
  have st1 : tn 0 h₁ := Tn.keep 0 _ _ st2 fun b hb o e => old b o e
  have fr0 : ∀ b ∈ fp, upd H2 s2.heap.objs.size (.lst []) b = none := fun b hb => by rw [upd_ne (Nat.ne_of_lt (fo b hb))]; exact (f2 b hb).1
  have loop : ∀ s₃ : Shared, s₃ = { s2 with heap := h₁, toks := s2.toks + ([] : List (Str × Value)).length } →
      codeAny (model X.prog X.w) X.A (.compLoop (.ListComp elt [⟨tg, iter, ifs, 0⟩] scope pos) 0 (.ref it) (.ref s2.heap.objs.size) (compEnvC scope cl G2.objs.size X.env)) (RR (.ref s2.heap.objs.size) G2.objs.size) s₃ := by
    intro s₃ hs3
    have I0 : Inv (cxCompR X scope cl G2.objs.size (T ++ cn) fp s2 H2 R) [] (st0 T.length caps σ) (upd H2 s2.heap.objs.size (.lst [])) s₃ := by
      rw [hs3]
      exact (comp_start S I2 f2 fo hC old hacc (by simpa using hns₁)).wish _
    have st3 : tn 0 s₃.heap := by rw [hs3]; exact st1
    have stat : ∀ {H' : Hp}, (∀ b ∈ fp, H' b = none) → ∀ b ∈ fp, FpOk (cxCompR X scope cl G2.objs.size (T ++ cn) fp s2 H2 R) [] H' b := fun {H'} hn b hb => by
      refine ⟨hn b hb, ?_, fun hs => ?_, .inl hb, fun y c e => (f2 b hb).2.2.2.2.1 y c (S.sub y c e), fun p hp => absurd (show p ∈ ([] : List (Addr × Obj)) from hp) (by simp)⟩
      · show b ≠ G2.objs.size
        rw [hC]
        exact Nat.ne_of_lt (Nat.lt_succ_of_lt (fo b hb))
      · rcases List.mem_cons.mp (I2.stkSub b hs) with z | z
        · exact (f2 b hb).2.1 z
        · exact (f2 b hb).2.2.1 z
    refine compLoop_allE (E' := compE X scope cl (T ++ cn) R G2.objs.size fp s2 H2) (fun x s' ce => err _ _ x s' (by omega) ce) (fun n s' => ∃ i ys H', Inv (cxCompR X scope cl G2.objs.size (T ++ cn) fp s2 H2 R) [] (st0 T.length caps σ) H' s' ∧ tn i s'.heap ∧ (∀ b ∈ fp, H' b = none) ∧ W i n ys H') ?_ m0 ⟨0, [], _, I0, st3, fr0, w0⟩
    rintro n s4 ⟨i, ys, H4, I4, st4, fr4, w4⟩
    obtain ⟨hD, tr⟩ := turn i n ys H4 w4
    rcases tr with ⟨stop, qn⟩ | ⟨go, step⟩
    · refine thn (Tn.done (cxCompR X scope cl G2.objs.size (T ++ cn) fp s2 H2 R) rfl rfl rfl hc i [] s4 (st0 T.length caps σ) H4 (fun _ _ => False) I4 (stat fr4) st4 stop) fun r s5 ⟨hr, I5⟩ => ?_
      subst hr
      obtain ⟨oC, m, a1, a2, a3, a4⟩ := comp_end I2 f2 (by omega) I5.unwish
      exact fin _ _ oC m H4 s5 a3 a1 a2 a4 qn
    · refine thn (Tn.item (cxCompR X scope cl G2.objs.size (T ++ cn) fp s2 H2 R) rfl rfl rfl hc i [] s4 (st0 T.length caps σ) H4 (fun _ _ => False) I4 (stat fr4) st4 go) fun r s5 ⟨u, hr, h5⟩ => ?_
      subst hr
      refine thn h5 fun _ s6 ⟨x, H6, I6, r6, y6, st6, fr6⟩ => ?_
      have I6' := I6.pinned (stat fr6) (Tn.obj _ _ st6)
      refine thn (hg _ fp s2 H2 _ s6 _ H6 x u _ I6' r6 (step x H6 y6)) fun _ s7 ⟨σ7, H7, I7, le7, q7⟩ => ?_
      have again : ∀ {σ8 : L2.St} {H8 : Hp} {s8 : Shared} {zs : List V} {m' : Nat}, Le (st0 T.length caps σ) σ8 → Inv (cxCompR X scope cl G2.objs.size (T ++ cn) fp s2 H2 R) ([] ++ pinsAt fp s6.heap) σ8 H8 s8 → m' < n → W (i + 1) m' zs H8 →
          ∃ m, m < n ∧ ∃ i ys H', Inv (cxCompR X scope cl G2.objs.size (T ++ cn) fp s2 H2 R) [] (st0 T.length caps σ) H' s8 ∧ tn i s8.heap ∧ (∀ b ∈ fp, H' b = none) ∧ W i m ys H' := fun {σ8 H8 s8 zs m'} le I8 hm w8 => by
        refine ⟨m', hm, i + 1, zs, H8, I8.unpinned.weak le.1 le.2, Tn.keep _ _ _ st6 fun b hb o e => (I8.pin (b, o) (List.mem_append_right _ (List.mem_append_right _ (mem_pinsAt hb e)))).1, fun b hb => ?_, w8⟩
        obtain ⟨o, e, d⟩ := Tn.obj _ _ st6 b hb
        exact (I8.pin (b, o) (List.mem_append_right _ (List.mem_append_right _ (mem_pinsAt hb e)))).2.1
      refine thn (ht _ fp s2 H2 _ s7 σ7 H7 _ I7 q7) fun ok s8 ⟨H8, I8, q8⟩ => ?_
      cases ok with
      | false =>
        rw [if_neg Bool.false_ne_true] at q8 ⊢
        obtain ⟨m', hm, w8⟩ := q8
        exact again le7 I8 hm w8
      | true =>
        rw [if_pos rfl] at q8 ⊢
        refine thn (he _ fp s2 H2 _ s8 σ7 H8 _ I8 q8) fun v9 s9 ⟨y, H9, I9, r9, hD9, hz9, m', hm, w9⟩ => ?_
        refine thn (mt_append _ s9 σ7 H9 (.ref s2.heap.objs.size) [y] (.ref s2.heap.objs.size) [v9] (fun _ H => H = upd H9 s2.heap.objs.size (.lst (ys ++ [y]))) I9 rfl (.cons r9 .nil) ⟨_, ys, y, rfl, rfl, hD9, hz9, rfl⟩) fun _ s10 ⟨_, H10, I10, _, e10⟩ => ?_
        subst e10
        exact again le7 I10 hm w9
  exact codeAny_compStart_list (loop _ rfl) (Tn.self X.A 0 _ _ _ st1 (loop _ rfl))
theorem ps_compX {i : Nat} {y : Str} {py spos : Pos} (hst : X.stack = X.env :: X.outer) (hfr : X.env.frame = some X.env.locals) (hx : XAcc X (fun _ => R)) (hN : X.N.Nodup) (hi' : X.N[i]? = some y) (hy : Loc X.env.scope y) (S : CompScope X scope cl T caps cn) (hc : X.calm = true) (hi : PI X tg iter wi)
    (hg : ∀ C fp s₂ H₂, PG (cxCompR X scope cl C (T ++ cn) fp s₂ H₂ R) tg g) (ht : ∀ C fp s₂ H₂, PTs (cxCompR X scope cl C (T ++ cn) fp s₂ H₂ R) ifs tt)
    (he : ∀ C fp s₂ H₂, PE (cxCompR X scope cl C (T ++ cn) fp s₂ H₂ R) elt te) (hsw : swapsWith (.ListComp elt [⟨tg, iter, ifs, 0⟩] scope pos) (some (.Name y py)) spos.line X.env = pure true := by rfl)
    (hf : X.fn y = true ∨ X.env.scope.names.lookup y = some .local := by first | exact .inl rfl | exact .inr rfl | assumption)
    (hs : ∀ x, foldedSetIterable iter X.env x = pure x := by intro _; rfl) :
    PS X (.Assign [.Name y py] (.ListComp elt [⟨tg, iter, ifs, 0⟩] scope pos) spos) (sComp i (rComp T.length caps wi g tt te)) := by
  intro pins s σ H D I h
  rw [exec_Assign_Name_used _ _ _ _ hsw]
  refine wpAny_bind (wpAny_standAt (wpAny_bind ?_))
  show wpAny _ X.A (do let _ ← comprehension (.ListComp elt [⟨tg, iter, ifs, 0⟩] scope pos) scope X.env _ (newList []) false (eval iter X.env) (some (assign (.Name y py) X.env))) _ _ s
  refine wpAny_bind (wpAny_mono (wpAny_comprehension_free (use := some (assign (.Name y py) X.env)) (Q := fun _ s' => SP X pins D .next s') rfl hs S.clos S.kind S.names
    (thn (hi pins s σ H _ I h) fun v s1 h1 => thn h1 fun itv s2 h2 => ?_)) (fun _ s' hq => wpAny_pure (wpAny_pure hq)) fun _ _ e => e)
  obtain ⟨it, fp, tn, J, H2, e, I2, Tn, st2, f2, q⟩ := h2
  subst e
  refine comp_blockX (Q := fun x H1 => D.nx (σ.set i (some x)) H1) (RR := fun acc C => compPost (model X.prog X.w) X.A X.xe (some (assign (.Name y py) X.env)) (fun _ s' => SP X pins D .next s') acc C) S hc hg ht he I2 Tn st2 f2 q (fun Dd C oC m H' s' I' ho hn fC qD => ?_) fun acc C e s hC ce => comp_err hst hfr hx I2 f2 hC ce
  show wpAny _ X.A (assign (.Name y py) X.env (.ref Dd)) _ _ s'
  refine thn (pg_name (i := i) hN hi' hy hf (pins ++ [(C, oC)]) s' σ H' (.ref Dd) (.ref Dd) (fun σ' H1 => σ' = σ.set i (some (.ref Dd)) ∧ H1 = H') I' rfl ⟨rfl, rfl⟩) fun _ s'' ⟨σ'', H'', I'', e1, e2⟩ => ?_
  subst e1 e2
  have hoC : s''.heap.get? C = some oC := (I''.pin (C, oC) (List.mem_append_right _ (List.mem_append_right _ (List.mem_singleton.mpr rfl)))).1
  obtain ⟨oC', es, ep, ho', r⟩ := hn
  rw [ho] at ho'
  cases ho'
  refine ⟨m, ⟨oC, es, ep, hoC, r⟩, fun h' hs' => ⟨σ.set i (some (.ref Dd)), H'', ?_, qD⟩⟩
  obtain ⟨hp, g, d, t, os⟩ := s''
  exact I''.unpinned.turned (fun b o hb e => (hs'.2 b hb).trans e) fC.1 fC.2.1 fC.2.2.2.1 fC.2.2.2.2.1 fC.2.2.2.2.2
end
def goX (tt : TD) (te : ED) (δ0 : SD) : List D → List D → (D → Prop) → Prop
  | [], acc, Q => Q (.lst acc)
  | d :: ds, acc, Q => tt (some d :: δ0) fun b => (b = true → te (some d :: δ0) fun y => goX tt te δ0 ds (acc ++ [y]) Q) ∧ (b = false → goX tt te δ0 ds acc Q)
def vCompX (caps : List Nat) (ti : AD) (tt : TD) (te : ED) : ED := fun δ Q => ti δ fun ds => ds.length < sizeLine ∧ goX tt te (capD caps δ) ds [] Q
theorem m_goX {tt : TD} {te : ED} (mt : MonoT tt) (me : MonoE te) {δ0 : SD} : ∀ (ds acc : List D) (P P' : D → Prop), (∀ d, P d → P' d) → goX tt te δ0 ds acc P → goX tt te δ0 ds acc P'
  | [], acc, P, P', g, h => g _ h
  | d :: ds, acc, P, P', g, h => mt _ _ _ (fun b ⟨h1, h2⟩ => ⟨fun e => me _ _ _ (fun y q => m_goX mt me ds _ P P' g q) (h1 e), fun e => m_goX mt me ds acc P P' g (h2 e)⟩) h
theorem comp_impX {K : PySem.W.Frag} {caps : List Nat} {ti : AD} {tt : TD} {te : ED} (mi : MonoA ti) (mt : MonoT tt) (me : MonoE te) {σ : L2.St} {H : Hp} {Q : VK} (h : oE K (vCompX caps ti tt te) σ H Q) :
    rComp 1 caps (fun σ H R => ∃ δ, RelS K H σ δ ∧ ti δ fun ds => ∀ J H1, Same H H1 → ItD K J H1 ds → R J H1) (gName 0) (uFrame (oT K tt)) (tFrame (oE K te)) σ H Q := by
  obtain ⟨δ, r, h⟩ := h
  refine ⟨δ, r, mi _ _ _ (fun ds ⟨hlen, go⟩ J H1 s1 it D hD => ?_) h⟩
  refine ⟨fun i m ys H' => m = ds.length - i ∧ i ≤ ds.length ∧ ys.length ≤ i ∧ ∃ H0 acc, H0 D = none ∧ Same H1 H0 ∧ Dvs K H0 ys acc ∧ H' = upd H0 D (.lst ys) ∧ goX tt te (capD caps δ) (ds.drop i) acc (kD K H Q), ⟨ds.length, rfl, Nat.zero_le _, Nat.zero_le _, H1, [], hD, Same.refl _, .nil, rfl, go⟩, ?_⟩
  rintro i m ys H' ⟨rfl, hle, hys, H0, acc, h0, s0, dys, rfl, gx⟩
  refine ⟨upd_same, ?_⟩
  have sU : Same H1 (upd H0 D (.lst ys)) := s0.trans (same_upd h0)
  by_cases hlt : i < ds.length
  · refine .inr ⟨it.go i _ sU hlt, fun x H'' y => ?_⟩
    obtain ⟨s2, d, hd, Hx, sx1, dvx, only, sx⟩ := it.yld i _ x H'' sU hlt y
    have hD2 : H'' D = some (.lst ys) := s2 _ _ upd_same
    have ne1 : ∀ a o, H1 a = some o → a ≠ D := fun a o z => ne_of_none z hD
    have nex : ∀ a o, Hx a = some o → a ≠ D := fun a o z w => by
      rcases only a o z with z1 | z1
      · exact ne1 a o z1 w
      · rw [w, upd_same] at z1; cases z1
    have sd1 : Same H0 (del H'' D) := fun a o z => by
      rw [del_ne (ne_of_none z h0)]
      exact s2 a o (same_upd h0 a o z)
    have sdx : Same Hx (del H'' D) := fun a o z => by
      rw [del_ne (nex a o z)]
      exact sx a o z
    have rel : RelS K (del H'' D) (some x :: caps.map fun j => (σ[j]?).getD none) (some d :: capD caps δ) := cap_rel (r.same (s1.trans (s0.trans sd1))) (dvx.same sdx) caps
    have ed : ds.drop i = d :: ds.drop (i + 1) := by
      have hi := (List.getElem?_eq_some_iff.mp hd)
      rw [List.drop_eq_getElem_cons hi.1, hi.2]
    rw [ed] at gx
    refine ⟨Le.one, D, ys, hD2, _, rel, mt _ _ _ (fun b ⟨hb1, hb2⟩ H3 s3 h3 => ?_) gx⟩
    have s03 : Same H0 H3 := sd1.trans s3
    cases b with
    | false =>
      refine iteF ?_
      exact ⟨ds.length - (i + 1), by omega, rfl, hlt, by omega, H3, acc, h3, s0.trans s03, dys.same s03, rfl, hb2 rfl⟩
    | true =>
      refine iteT ?_
      refine ⟨D, ys, upd_same, ?_⟩
      rw [del_upd h3]
      refine ⟨_, rel.same s3, me _ _ _ (fun y gy v H4 s4 dv h4 => ⟨upd_same, ?_, ds.length - (i + 1), by omega, rfl, hlt, ?_, H4, acc ++ [y], h4, s0.trans (s03.trans s4), ?_, upd_upd, gy⟩) (hb1 rfl)⟩
      · omega
      · rw [List.length_append, List.length_singleton]; omega
      · exact (dys.same (s03.trans s4)).append (.cons dv .nil)
  · have e : i = ds.length := by omega
    subst e
    refine .inl ⟨it.stop _ sU, ?_⟩
    rw [List.drop_length] at gx
    exact gx _ _ (s1.trans sU) (.lst (SqL.of upd_same) (dys.same (same_upd h0)))
section
variable {X : Cx} {scope : Scope} {cl : List (Str × Addr)} {x : Str} {cn : List Str} {caps : List Nat} {elt tg iter : Expr} {ifs : List Expr} {ti : AD} {tt : TD} {te : ED} {pos : Pos} {R : XR}
theorem m_compX (mi : MonoA ti) (mt : MonoT tt) (me : MonoE te) : MonoE (vCompX caps ti tt te) := fun δ P P' g h => mi _ _ _ (fun ds ⟨hl, q⟩ => ⟨hl, m_goX mt me _ _ P P' g q⟩) h
theorem s_lcX {i : Nat} {y : Str} {py spos : Pos} (hst : X.stack = X.env :: X.outer) (hfr : X.env.frame = some X.env.locals) (hx : XAcc X (fun _ => R)) (hN : X.N.Nodup) (hi' : X.N[i]? = some y) (hy : Loc X.env.scope y) (S : CompScope X scope cl [x] caps cn) (hc : X.calm = true) (hi : PId X tg iter ti)
    (hg : ∀ C fp s₂ H₂, PG (cxCompR X scope cl C ([x] ++ cn) fp s₂ H₂ R) tg (gName 0)) (ht : ∀ C fp s₂ H₂, PTsd (cxCompR X scope cl C ([x] ++ cn) fp s₂ H₂ R) ifs tt) (he : ∀ C fp s₂ H₂, PD (cxCompR X scope cl C ([x] ++ cn) fp s₂ H₂ R) elt te)
    (hsw : swapsWith (.ListComp elt [⟨tg, iter, ifs, 0⟩] scope pos) (some (.Name y py)) spos.line X.env = pure true := by rfl) (hf : X.fn y = true ∨ X.env.scope.names.lookup y = some .local := by first | exact .inl rfl | exact .inr rfl | assumption)
    (hs : ∀ x, foldedSetIterable iter X.env x = pure x := by intro _; rfl) : PSd X (.Assign [.Name y py] (.ListComp elt [⟨tg, iter, ifs, 0⟩] scope pos) spos) (qSet i (vCompX caps ti tt te)) :=
  have mt : MonoT tt := (ht 0 [] X.s₀ X.H₀).mono
  have me : MonoE te := (he 0 [] X.s₀ X.H₀).mono
  ⟨PS.imp (ps_compX hst hfr hx hN hi' hy S hc hi.pi hg (fun C fp s₂ H₂ => pts_frame (ht C fp s₂ H₂).pts) (fun C fp s₂ H₂ => pe_frame (he C fp s₂ H₂).pe) hsw hf hs) fun D σ H ⟨δ, r, h⟩ =>
     comp_impX hi.mono mt me ⟨δ, r, m_compX hi.mono mt me _ _ _ (fun d q v H1 s1 dv => q _ H1 s1 ((r.same s1).set i dv)) h⟩,
   fun E E' δ l h => m_compX hi.mono mt me _ _ _ (fun d q => l.nx _ q) h⟩
end
end DC

set_option maxHeartbeats 1000000
namespace L2
open PySem PySem.Spec PyProof.Rows
abbrev Cx.hush (X : Cx) (A : Around) : Cx := { X with A := A, calm := false, xe := fun _ _ => False }
abbrev Cx.pinIn (X : Cx) (pins : List (Addr × Obj)) (E : Value → Shared → Prop) : Cx := { X with pn := X.pn ++ pins, xe := E }
section
variable {X : Cx} {pins : List (Addr × Obj)} {σ : St} {H : Hp} {s : Shared} {A : Around} {E : Value → Shared → Prop}
theorem Inv.hush (I : Inv X pins σ H s) (hf : A.frames = X.A.frames) : Inv (X.hush A) pins σ H s :=
  ⟨⟨I.ok.mod, I.ok.kind, I.ok.glob, I.ok.blt, I.ok.above, I.ok.inj, I.ok.has, I.ok.cab, (fun h => Bool.noConfusion h), hf.trans I.ok.frames, I.ok.stk, I.ok.exf, I.ok.bs, I.ok.bsz, I.ok.noex, I.ok.exfs, I.ok.funs, I.ok.frf⟩, I.os, I.bare, I.base, I.loc, I.cell, I.free, I.freeC, I.pin, I.hok, I.len⟩
theorem Inv.unhush (ok : X.Ok) (I : Inv (X.hush A) pins σ H s) : Inv X pins σ H s := ⟨ok, I.os, I.bare, I.base, I.loc, I.cell, I.free, I.freeC, I.pin, I.hok, I.len⟩
theorem Inv.pinIn (I : Inv X pins σ H s) : Inv (X.pinIn pins E) [] σ H s :=
  ⟨⟨I.ok.mod, I.ok.kind, I.ok.glob, I.ok.blt, I.ok.above, I.ok.inj, I.ok.has, I.ok.cab, I.ok.hd, I.ok.frames, I.ok.stk, I.ok.exf, I.ok.bs, I.ok.bsz, I.ok.noex, I.ok.exfs, I.ok.funs, I.ok.frf⟩, I.os, I.bare, I.base, I.loc, I.cell, I.free, I.freeC,
    fun p hp => I.pin p (by simpa using hp), I.hok, I.len⟩
theorem Inv.pinBack {l : List (Addr × Obj)} (I : Inv (X.pinIn pins E) l σ H s) : Inv X pins σ H s :=
  ⟨⟨I.ok.mod, I.ok.kind, I.ok.glob, I.ok.blt, I.ok.above, I.ok.inj, I.ok.has, I.ok.cab, I.ok.hd, I.ok.frames, I.ok.stk, I.ok.exf, I.ok.bs, I.ok.bsz, I.ok.noex, I.ok.exfs, I.ok.funs, I.ok.frf⟩, I.os, I.bare, I.base, I.loc, I.cell, I.free, I.freeC,
    fun p hp => I.pin p (List.mem_append_left _ hp), I.hok, I.len⟩
theorem ns_up {h h' : Heap} {a : Addr} {m : Str → Option Value} (u : h.UpToSlots h') (hn : h.Ns a m) : h'.Ns a m := by
  obtain ⟨o, es, ep, ho, hd, r⟩ := hn
  obtain ⟨sl, z⟩ := u a o ho (fun vs q => by rw [hd] at q; cases q)
  exact ⟨_, es, ep, z, hd, r⟩
theorem cell_up {h h' : Heap} {a : Addr} {v : Option Value} (u : h.UpToSlots h') (hn : h.IsCell a v) : h'.IsCell a v := by
  obtain ⟨o, ho, hd⟩ := hn
  obtain ⟨sl, z⟩ := u a o ho (fun vs q => by rw [hd] at q; cases q)
  exact ⟨_, z, hd⟩
theorem look_up {env : Env} {h h' : Heap} {m : Str → Option Value} {x : Str} {v : Value} (u : h.UpToSlots h') (l : Look env h m x v) : Look env h' m x v := by
  rcases l with l | ⟨k, c, e, i⟩
  · exact .inl l
  · exact .inr ⟨k, c, e, cell_up u i⟩
theorem Inv.air {l : List (Addr × Obj)} {B h1 : Heap} {ea : Addr} (I : Inv X l σ H s) (u : s.heap.UpToSlots h1) (a : Air B X.stack ea h1) (ok : HOk X.prog X.w H B) (bn : Beneath X.fs X.ex X.H₀ X.s₀.heap B) (pn : ∀ p ∈ X.pn, B.get? p.1 = some p.2) : Inv X [] σ H { s with heap := h1 } := by
  obtain ⟨m, hn, lk⟩ := I.loc
  have up : ∀ b o, b ∈ X.fs → s.heap.get? b = some o → ∃ sl, h1.get? b = some { o with slots := sl } := fun b o hb q => by
    obtain ⟨_, o', q', nf⟩ := I.funs.mem hb
    rw [q] at q'
    cases q'
    exact u b o q nf
  refine ⟨I.ok, I.os, I.bare, ⟨fun b o q n hb hx => a.st b o (bn.kp b o q n hb hx), fun b o q n hb hx => ?_, I.base.free, fun b o q hx => ?_, I.base.tups, I.base.frzs, I.base.tbls⟩,
    ⟨m, ns_up u hn, fun i x v e1 e2 e3 => let ⟨w, r, k⟩ := lk i x v e1 e2 e3; ⟨w, r, look_up u k⟩⟩, fun x c e => let ⟨v, k⟩ := I.cell x c e; ⟨v, cell_up u k⟩, I.free, I.freeC, fun p hp => ?_, ok.kept a.st, I.len⟩
  · obtain ⟨sl, z⟩ := I.base.slot b o q n hb hx
    obtain ⟨sl2, z2⟩ := up b _ hb z
    exact ⟨sl2, z2⟩
  · by_cases hb : b ∈ X.fs
    · obtain ⟨o', z⟩ := I.base.there b o q hx
      obtain ⟨sl2, z2⟩ := up b _ hb z
      exact ⟨_, z2⟩
    · obtain ⟨o', z⟩ := bn.th b o q hb hx
      exact ⟨o', a.st b o' z⟩
  · have hp' : p ∈ X.pn := by simpa using hp
    exact ⟨a.st _ _ (pn p hp'), (I.pin p (List.mem_append_left _ hp')).2⟩
theorem HOk.track {P : Program} {w : World} {h : Heap} {a : Addr} {o : HO} (x : HOk P w H h) (hn : H a = none) (new : ObjOk P w (upd H a o) h a o) : HOk P w (upd H a o) h := fun b u e => by
  by_cases hb : b = a
  · subst hb; rw [upd_same] at e; cases e; exact new
  · rw [upd_ne hb] at e
    exact (x b u e).stay (fun c v _ q => q) (fun c q => by rw [upd_ne (ne_of_none q hn)]; exact q) fun c xs q => by rw [upd_ne (ne_of_none q hn)]; exact q
theorem Inv.track {ea : Addr} {u : HO} (I : Inv X pins σ H s) (hn : H ea = none) (h0 : X.s₀.heap.get? ea = none) (hl : ea ≠ X.env.locals) (hc : ∀ x c, X.env.cells.lookup x = some c → c ≠ ea) (hp : ∀ p ∈ X.pn ++ pins, p.1 ≠ ea) (new : ObjOk X.prog X.w (upd H ea u) s.heap ea u) : Inv X pins σ (upd H ea u) s := by
  have ne : ∀ b v, H b = some v → b ≠ ea := fun b v q => ne_of_none q hn
  refine ⟨I.ok, I.os, I.bare, ⟨I.base.keep, I.base.slot, fun b o q n hx => ?_, I.base.there, fun b xs q => ?_, fun b o v q => ?_, fun b ps q => ?_⟩, I.loc, I.cell, by rw [upd_ne (Ne.symm hl)]; exact I.free, fun x c e => by rw [upd_ne (hc x c e)]; exact I.freeC x c e, fun p hp' => ?_, I.hok.track hn new, I.len⟩
  · rw [upd_ne (fun z => by rw [z, h0] at q; cases q)]
    exact I.base.free b o q n hx
  · have z := I.base.tups b xs q
    rw [upd_ne (ne _ _ z)]; exact z
  · have z := I.base.frzs b o v q
    rw [upd_ne (ne _ _ z)]; exact z
  · obtain ⟨more, z⟩ := I.base.tbls b ps q
    exact ⟨more, by rw [upd_ne (ne _ _ z)]; exact z⟩
  · obtain ⟨y1, y2, y3⟩ := I.pin p hp'
    exact ⟨y1, by rw [upd_ne (hp p hp')]; exact y2, y3⟩
theorem Inv.goes {i : Nat} {n : Str} {pos : Pos} {M : Model} {A : Around} {Q : Unit → Shared → Prop} (I : Inv X pins σ H s) (hN : X.N.Nodup) (hi : X.N[i]? = some n) (hl : X.env.kindOf n = some .local) (h : ∀ s', Inv X pins (σ.set i none) H s' → Q () s') : wpAny M A (do bindName X.env n .none; unbindBehindTheSuite X.env n pos) Q E s := by
  obtain ⟨m, hn, lk⟩ := I.loc
  refine wpAny_nameGoes_keeps hl hn (by rw [I.ok.kind]; rfl) fun h' v hn' sb => h _ ?_
  have cne := I.cne
  have ho := hn
  obtain ⟨o, es, ep, go, gd, _⟩ := ho
  have keep : ∀ b ob, b ≠ X.env.locals → s.heap.get? b = some ob → h'.get? b = some ob := fun b ob nb q => (sb.2 b nb).trans q
  obtain ⟨o', es', ep', go', _⟩ := id hn'
  have above := I.ok.above
  refine ⟨I.ok, I.os, I.bare, ⟨fun b ob q nb hb hx => ?_, fun b ob q nb hb hx => ?_, I.base.free, fun b ob q hx => ?_, I.base.tups, I.base.frzs, I.base.tbls⟩, ⟨_, hn', fun j x w e1 e2 e3 => ?_⟩, fun x c e => ?_, I.free, I.freeC, fun p hp => ?_, fun b u q => ?_, by rw [List.length_set]; exact I.len⟩
  · exact keep b ob (fun z => by have y := Heap.lt_size q; rw [z] at y; exact absurd above (Nat.not_le.mpr y)) (I.base.keep b ob q nb hb hx)
  · obtain ⟨sl, z⟩ := I.base.slot b ob q nb hb hx
    exact ⟨sl, keep b _ (fun y => by have y2 := Heap.lt_size q; rw [y] at y2; exact absurd above (Nat.not_le.mpr y2)) z⟩
  · obtain ⟨o2, z⟩ := I.base.there b ob q hx
    exact ⟨o2, keep b _ (fun y => by have y2 := Heap.lt_size q; rw [y] at y2; exact absurd above (Nat.not_le.mpr y2)) z⟩
  · rw [List.getElem?_set] at e2
    split at e2
    · split at e2 <;> cases e2
    · rename_i ji
      obtain ⟨w', r, k⟩ := lk j x w e1 e2 e3
      have xn : x ≠ n := fun z => ji (by
        subst z
        exact (List.getElem?_inj (List.getElem?_eq_some_iff.mp hi).1 hN).mp (hi.trans e1.symm))
      refine ⟨w', r, ?_⟩
      rcases k with ⟨k1, k2⟩ | ⟨k1, c, k2, k3⟩
      · exact .inl ⟨k1, by show (if x = n then v else m x) = _; rw [if_neg xn]; exact k2⟩
      · exact .inr ⟨k1, c, k2, k3.sameBut sb (cne x c k2)⟩
  · obtain ⟨v, k⟩ := I.cell x c e
    exact ⟨v, k.sameBut sb (cne x c e)⟩
  · obtain ⟨y1, y2, y3, y4⟩ := I.pin p hp
    exact ⟨keep _ _ y3 y1, y2, y3, y4⟩
  · refine (I.hok b u q).stay (fun c w hc z => keep c w (fun y => ?_) z) (fun _ z => z) fun _ _ z => z
    rcases hc with rfl | hc
    · rw [y, I.free] at q; cases q
    · rw [y, I.free] at hc; cases hc
end
theorem exc_hit {prog : Program} {w : World} {A : Around} {E : Value → Shared → Prop} {K : PySem.W.Frag} {e C Cx : Addr} {oe : Obj} {Q : Bool → Shared → Prop} {s : Shared} (X : K.In s.heap) (hk : PySem.W.kitCls K (.ref C) (.ref Cx) = some true) (hb : PySem.W.mroIn K Cx (.type "BaseException") = some true)
    (he : s.heap.get? e = some oe) (hc : oe.cls = .ref C) (hq : Q true s) : wpAny (model prog w) A (excMatches (.ref e) (.ref Cx)) Q E s := by
  obtain ⟨h, g, d, tk, os⟩ := s
  obtain ⟨LY, LT, LS⟩ := PySem.W.kit_cls (M := model prog w) X hk
  have LB := PySem.W.looks_mroIn (M := model prog w) X hb
  have LE : PySem.W.Looks (model prog w) h (typeOf (.ref e)) (.ref C) := hc ▸ (PySem.W.Looks.ld he).andThen .now
  have LI : PySem.W.Looks (model prog w) h (isInstance (.ref Cx) (.type "tuple")) false := LY.andThen (.of_pure tc_notTuple)
  unfold excMatches
  repeat (first | with_reducible refine LI.at ?_ | with_reducible refine LT.at ?_ | with_reducible refine LB.at ?_ | with_reducible refine LE.at ?_ | with_reducible refine LS.at ?_ | wp_step)
  exact hq
end L2
namespace DC
open PySem PySem.Spec PyProof.Rows L2
def endsF (K : PySem.W.Frag) (D : Ends) : EndsD := ⟨fun δ => ∀ σ H', RelS K H' σ δ → D.nx σ H', fun d => ∀ v H', Dv K H' v d → D.rt v H', fun δ => ∀ σ H', RelS K H' σ δ → D.bk σ H', fun δ => ∀ σ H', RelS K H' σ δ → D.ct σ H'⟩
theorem endsF_le {K : PySem.W.Frag} {H : Hp} {D : Ends} : EndsD.Le (endsF K D) (endsOf K H D) := ⟨fun δ q σ H' _ r => q σ H' r, fun d q v H' _ dv => q v H' dv, fun δ q σ H' _ r => q σ H' r, fun δ q σ H' _ r => q σ H' r⟩
def oF (K : PySem.W.Frag) (t : TSD) : TS := fun D σ H => ∃ δ, RelS K H σ δ ∧ t (endsF K D) δ
structure PFd (X : Cx) (st : Stmt) (t : TSD) : Prop where
  ps : PS X st (oF X.K t)
  mono : MonoQ t
structure PFs (X : Cx) (st : List Stmt) (t : TSD) : Prop where
  ps : PSs X st (oF X.K t)
  mono : MonoQ t
section
variable {X : Cx} {st : Stmt} {rest : List Stmt} {t u : TSD}
theorem ff_lift (h : PSd X st t) : PFd X st t := ⟨PS.imp h.ps fun D σ H ⟨δ, r, q⟩ => ⟨δ, r, h.mono _ _ _ endsF_le q⟩, h.mono⟩
theorem ff_all (h : PSsd X rest t) : PFs X rest t := ⟨PSs.imp h.ps fun D σ H ⟨δ, r, q⟩ => ⟨δ, r, h.mono _ _ _ endsF_le q⟩, h.mono⟩
theorem ff_cons (h1 : PFd X st t) (h2 : PFs X rest u) : PFs X (st :: rest) (qSeq t u) :=
  ⟨PSs.imp (pss_cons h1.ps h2.ps) fun D σ H ⟨δ, r, q⟩ => ⟨δ, r, h1.mono { endsF X.K D with nx := u (endsF X.K D) } _ _ ⟨fun δ' q σ' H' r' => ⟨δ', r', q⟩, fun _ q => q, fun _ q => q, fun _ q => q⟩ q⟩,
   fun E E' δ l q => h1.mono { E with nx := u E } _ _ ⟨fun δ' q => h2.mono _ _ _ l q, l.rt, l.bk, l.ct⟩ q⟩
theorem RelS.unset {K : PySem.W.Frag} {H : Hp} {σ : L2.St} {δ : SD} {i : Nat} (r : RelS K H σ δ) : RelS K H (σ.set i none) (δ.set i none) := by
  refine ⟨by rw [List.length_set, List.length_set]; exact r.len, fun j d h => ?_⟩
  rw [List.getElem?_set] at h ⊢
  split at h
  · split at h <;> cases h
  · rename_i n
    rw [if_neg n]
    exact r.get j d h
def qTry (i : Nat) (hit : Addr → Prop) (tb : (SD → XR) → TSD) (th : Addr → TSD) : TSD := fun E δ => ∃ xk : SD → XR, (∀ δ' C gs, xk δ' C gs → hit C ∧ ∀ a, th a { nx := fun δ'' => E.nx (δ''.set i none), rt := E.rt } (δ'.set i (some (.exc a C gs)))) ∧ tb xk E δ
theorem ff_try {i : Nat} {n cx : Str} {cp hp pos : Pos} {b₀ : Stmt} {suite body : List Stmt} {Cx : Addr} {tb : (SD → XR) → TSD} {th : Addr → TSD} {hit : Addr → Prop} (hst : X.stack = X.env :: X.outer) (hfr : X.env.frame = some X.env.locals) (hex : X.ex = []) (hN : X.N.Nodup) (hi : X.N[i]? = some n) (hl : X.env.scope.names.lookup n = some .local)
    (hg : Gl X cx) (hm : X.mg cx = some (.ref Cx)) (hhit : ∀ C, hit C → PySem.W.kitCls X.K (.ref C) (.ref Cx) = some true) (hbe : PySem.W.mroIn X.K Cx (.type "BaseException") = some true)
    (hb : ∀ pins E' xk, XAcc (X.pinIn pins E') xk → PSsd (X.pinIn pins E') body (tb xk)) (hs : ∀ ea, PSsd (X.hush (X.A.mark (some (.ref ea)))) (b₀ :: suite) (th ea)) (hd : (cx == ("__debug__" : Str)) = false := by decide) :
    PFd X (.Try body [.ExceptHandler (some (.Name cx cp)) (some n) (b₀ :: suite) hp] [] [] pos) (qTry i hit tb th) := by
  refine ⟨fun pins s σ H D I ⟨δ, r, xk, himp, hq⟩ => ?_, fun E E' δ l ⟨xk, h1, h2⟩ => ⟨xk, fun δ' C gs q => ⟨(h1 δ' C gs q).1, fun a => (hs a).mono { nx := fun δ'' => E.nx (δ''.set i none), rt := E.rt } _ _ ⟨fun _ z => l.nx _ z, l.rt, fun _ z => z, fun _ z => z⟩ ((h1 δ' C gs q).2 a)⟩,
    (hb [] (fun _ _ => True) xk (fun _ _ _ _ _ _ _ _ _ _ _ _ _ _ _ _ => True.intro)).mono _ _ _ l h2⟩⟩
  refine wpAny_Try_except ?_
  have hx : XAcc (X.pinIn pins (fun e s₁ => wpAny (model X.prog X.w) X.A (noteFrame e X.env) (fun _ s₂ => wpAny (model X.prog X.w) X.A (setFlight e none) (fun _ s₃ => wpAny (model X.prog X.w) X.A (handleBy e X.env [.ExceptHandler (some (.Name cx cp)) (some n) (b₀ :: suite) hp]) (SP X pins D) X.xe s₃) X.xe s₂) X.xe s₁)) xk := by
    intro l σ1 δ1 H1 s1 ea C dx fs gs I1 r1 ⟨B, fl, a, ok, bn, x, pn⟩ xd df k
    obtain ⟨hitC, hth⟩ := himp δ1 C gs k
    have a0 : Air B (X.env :: X.outer) ea s1.heap := hst ▸ (show Air B X.stack ea s1.heap from a)
    refine note_x (env := X.env) (outer := X.outer) (L := X.env.locals) (by rw [← hst]; exact I.ok.frames) hfr a0 x fun h2 a2 u2 x2 => ?_
    refine flight_x (s := { s1 with heap := h2 }) (f := none) a2 x2 fun h3 a3 u3 x3 => ?_
    have I3 : Inv X pins σ1 H1 { s1 with heap := h3 } := (I1.air (u2.trans u3) (hst ▸ a3) ok bn pn).pinBack
    have he3 := x3
    obtain ⟨oe, vs, he, hc, _⟩ := he3
    have I3h := I3.hush (A := X.A.mark (some (.ref ea))) rfl
    refine wpAny_handleBy_cons (codeAny_handlers_test (ld_glob I3h hg hm ?_ hd)) (by intro q; cases q)
    refine exc_hit I3.kIn (hhit C hitC) hbe he hc ?_
    refine codeAny_handlers_suite_as (flight_x (s := { s1 with heap := h3 }) (f := none) a3 x3 fun h4 a4 u4 x4 => ?_)
    have I4 := I1.air (h1 := h4) (u2.trans (u3.trans u4)) (hst ▸ a4) ok bn pn
    obtain ⟨oe, vs, he, hc, hdx, hdv, hz, hy, _⟩ := x4
    have hn : H1 ea = none := by
      cases q : H1 ea with
      | none => rfl
      | some u =>
        obtain ⟨o, z⟩ := (ok ea u q).there
        rw [a.ne] at z
        cases z
    have h0 : X.s₀.heap.get? ea = none := by
      cases q : X.s₀.heap.get? ea with
      | none => rfl
      | some o =>
        by_cases hb' : ea ∈ X.fs
        · obtain ⟨_, o', q', nf⟩ := I4.funs.mem hb'
          have q2 : h4.get? ea = some o' := q'
          rw [he] at q2
          cases q2
          exact absurd hdv (nf vs)
        · obtain ⟨o', z⟩ := bn.th ea o q hb' (by show ea ∉ X.ex; rw [hex]; simp)
          rw [a.ne] at z
          cases z
    have hlo : ea ≠ X.env.locals := fun z => by
      obtain ⟨m, ⟨o, es, ep, go, gd, _⟩, _⟩ := I4.loc
      have go2 : h4.get? X.env.locals = some o := go
      rw [← z, he] at go2
      cases go2
      rw [hdv] at gd
      cases gd
    have hce : ∀ x c, X.env.cells.lookup x = some c → c ≠ ea := fun x c e z => by
      obtain ⟨v, o, go, gd⟩ := I4.cell x c e
      have go2 : h4.get? c = some o := go
      rw [z, he] at go2
      cases go2
      rw [hdv] at gd
      cases gd
    have hpn : ∀ p ∈ X.pn ++ pins, p.1 ≠ ea := fun p hp z => by
      have y := pn p hp
      rw [z, a.ne] at y
      cases y
    have new : ObjOk X.prog X.w (upd H1 ea (ExcO ea C dx)) h4 ea (ExcO ea C dx) := by
      unfold ExcO
      exact ⟨⟨oe, vs, he, hc, hdx, hdv, hy⟩, ⟨oe, he⟩, fun g1 g2 ⟨oe', vs', e1, rr⟩ kk => ⟨oe', vs', kk _ e1, rr⟩⟩
    have I5 : Inv X pins σ1 (upd H1 ea (ExcO ea C dx)) { s1 with heap := h4 } := (I4.track hn h0 hlo hce (fun p hp => hpn p (by simpa using hp)) new).pinBack
    have sm : Same H1 (upd H1 ea (ExcO ea C dx)) := same_upd hn
    have dv : Dv X.K (upd H1 ea (ExcO ea C dx)) (.ref ea) (.exc ea C gs) := .exc (.of upd_same) (xd.same sm) (Dvf.same sm df)
    have I5h := I5.hush (A := X.A.mark (some (.ref ea))) rfl
    refine store_ok (X := X.hush (X.A.mark (some (.ref ea)))) (v := .ref ea) I5h hN hi (.inl hl) rfl (fun s6 I6 => ?_) (.inr hl)
    have r6 := (RelS.same r1 sm).set i dv
    refine wpAny_mono ((hs ea).ps pins s6 _ _ { nx := fun σ'' H'' => D.nx (σ''.set i none) H'', rt := D.rt } I6 ⟨_, r6, (hs ea).mono { nx := fun δ'' => (endsF X.K D).nx (δ''.set i none), rt := (endsF X.K D).rt } _ _ ⟨fun δ'' q σ'' H'' _ r'' => q _ _ r''.unset, fun d q v H'' _ dv => q v H'' dv, fun _ q => q.elim, fun _ q => q.elim⟩ (hth ea)⟩) (fun f s7 h7 => ?_) fun _ _ z => z.elim
    cases f with
    | next =>
      obtain ⟨σ', H', I', q⟩ := h7
      exact (I'.unhush I.ok).goes hN hi hl fun s8 I8 => ⟨_, H', I8, q⟩
    | ret w =>
      obtain ⟨v, σ', H', I', rv, q⟩ := h7
      exact (I'.unhush I.ok).goes hN hi hl fun s8 I8 => ⟨v, _, H', I8, rv, q⟩
    | brk =>
      obtain ⟨σ', H', I', q⟩ := h7
      exact q.elim
    | cont =>
      obtain ⟨σ', H', I', q⟩ := h7
      exact q.elim
  have B := hb pins _ xk hx
  refine wpAny_mono (B.ps [] s σ H D I.pinIn ⟨δ, r, B.mono _ _ _ endsF_le hq⟩) (fun f s1 h1 => ?_) fun e s1 h => h
  cases f with
  | next =>
    obtain ⟨σ', H', I', q⟩ := h1
    exact wpAny_execs_nil ⟨σ', H', I'.pinBack, q⟩
  | ret w =>
    obtain ⟨v, σ', H', I', rv, q⟩ := h1
    exact ⟨v, σ', H', I'.pinBack, rv, q⟩
  | brk =>
    obtain ⟨σ', H', I', q⟩ := h1
    exact ⟨σ', H', I'.pinBack, q⟩
  | cont =>
    obtain ⟨σ', H', I', q⟩ := h1
    exact ⟨σ', H', I'.pinBack, q⟩
end
end DC

set_option maxHeartbeats 1000000
namespace L2
open PySem PySem.Spec PyProof.Rows
structure RoomU (k : Nat) (A : Around) : Prop where
  dp : A.depth + 3 * k + 5 < recursionLimit
  un : A.units + 16 * k + 200 < cLine
theorem RoomU.deeper {k : Nat} {A : Around} (r : RoomU (k + 1) A) (env : Env) : RoomU k (A.deeper env) :=
  ⟨by have := r.dp; show A.depth + 1 + 3 * k + 5 < _; omega, by have := r.un; show A.units + 3 + 16 * k + 200 < _; omega⟩
theorem RoomU.mono {j k : Nat} {A : Around} (r : RoomU k A) (h : j ≤ k) : RoomU j A := ⟨by have := r.dp; omega, by have := r.un; omega⟩
theorem Room.mark {k : Nat} {A : Around} (r : Room k A) (v : Option Value) : RoomU k (A.mark v) := ⟨r.dp, r.un⟩
def HandOk (A : Around) (H : Hp) : Prop := A.handled = none ∨ ∃ ea o u vs, A.handled = some (.ref ea) ∧ H ea = some (.frz o u) ∧ o.data = .fields vs ∧ vs[2]? = some .none
def HandAt (A : Around) (h : Heap) : Prop := A.handled = none ∨ ∃ ea o vs, A.handled = some (.ref ea) ∧ h.get? ea = some o ∧ o.data = .fields vs ∧ vs[2]? = some .none
structure FnOkU (P : Program) (w : World) (K : PySem.W.Frag) (mg : Str → Option Value) (base : Heap) (k : Nat) (f : Addr) (fd : FuncData) (ps : List Str) (sp : Sp) : Prop where
  len : ∀ vs H Q E, sp vs H Q E → vs.length = ps.length
  run : ∀ (A : Around) (outer : List Env) (s : Shared) (H : Hp) (args : Args) (us : List Value) (vs : List V) (Q : VK) (E : XK), RoomU k A → HandOk A H → Env0 P w K mg base A outer s H → BindsTo s fd args (ps.zip us) → Vals vs us → sp vs H Q E →
    codeAny (model P w) A (.call (.ref f) args) (CR CX0 outer P w H s Q E) s
abbrev cxU (P : Program) (w : World) (K : PySem.W.Frag) (mg : Str → Option Value) (base : Heap) (N : List Str) (qual : Str) (scope : Scope) (f : Addr) (cd : Value) (A : Around) (outer : List Env) (s : Shared) (H : Hp) (E : XK) : Cx :=
  (cxOf CX0 P w K mg base N qual scope f cd { A with handled := none } outer s H E).hush (A.deeper (envOfC qual scope s.heap.objs.size f cd))
theorem hand_of {X : Cx} {pins : List (Addr × Obj)} {σ : St} {H : Hp} {s : Shared} (h : HandOk X.A X.H₀) (I : Inv X pins σ H s) : HandAt X.A s.heap := by
  rcases h with h | ⟨ea, o, u, vs, h1, h2, h3, h4⟩
  · exact .inl h
  · exact .inr ⟨ea, o, vs, h1, (I.hok ea _ (I.base.frzs ea o u h2)).1, h3, h4⟩
theorem fn_ofU {P : Program} {w : World} {K : PySem.W.Frag} {mg : Str → Option Value} {base : Heap} {k : Nat} {f : Addr} {name qual : Str} {params : Arguments} {body : List Stmt} {scope : Scope} {dV kV doc pm cdv ct oc : Value} {an od : Option Addr}
    {osl : Array (Option Value)} {N ps : List Str} {sp : Sp} (lk : K.lookup f = some ⟨oc, od, .func (PySem.W.fnOf name qual params body scope dV kV doc pm an cdv ct), osl⟩) (hcd : PySem.W.codeIn K cdv qual = true) (S : FnScope N ps scope)
    (len : ∀ vs H Q E, sp vs H Q E → vs.length = ps.length)
    (hbody : ∀ (A : Around) (outer : List Env) (s : Shared) (H : Hp) (vs : List V) (Q : VK) (E : XK), RoomU k (A.deeper (envOfC qual scope s.heap.objs.size f cdv)) → HandOk A H → sp vs H Q E →
      ∃ t, PSs (cxU P w K mg base N qual scope f cdv A outer s H E) body t ∧ t { nx := fun _ H' => Q .non H', rt := Q } (start N vs) H) :
    FnOkU P w K mg base (k + 1) f (PySem.W.fnOf name qual params body scope dV kV doc pm an cdv ct) ps sp := by
  refine ⟨len, fun A outer s H args us vs Q E hr hh e0 hb r hsp => ?_⟩
  have hl := len _ _ _ _ hsp
  have KX : K.In s.heap := e0.mod.kin.keeps fun b o e => (e0.bs b o e).1
  have lim : s.heap.NoLimit := e0.mod.nolimit.keeps fun b o e => (e0.bs b o e).1
  have hkind : ∀ y ∈ ps.zip us, scope.names.lookup y.1 = some .local ∨ (scope.names.lookup y.1 = some .cell ∧ ((cellsFrom (s.heap.objs.size + 1) scope.names []).lookup y.1).isSome = true) := fun ⟨n, v⟩ hy => by
    rcases S.par n (List.of_mem_zip hy).1 with q | q
    · exact .inl q
    · exact .inr ⟨q, PySem.W.cellsFrom_some _ _ _ (.inl q)⟩
  refine codeAny_call_function (by have := hr.dp; omega) (KX _ _ lk) rfl S.co S.gen rfl (PySem.W.codeRec_of KX hcd) (hb _ _ _ _ ?_)
  refine wpAny_newFunctionEnv_cells S.kind hkind fun env he s1 x => ?_
  subst he
  refine ⟨lim.keeps x.toInCall.keep, codeAny_func ?_⟩
  obtain ⟨t, ht, hq⟩ := hbody A outer s H vs Q E (hr.deeper _) hh hsp
  have e1 : Env0 P w K mg base { A with handled := none } outer s H := ⟨e0.frames, e0.mod, e0.bs, e0.bsz, e0.funs, e0.frf, e0.hok, e0.bare⟩
  have I0 : Inv (cxOf CX0 P w K mg base N qual scope f cdv { A with handled := none } outer s H E) [] (start N vs) H s1 := inv_start S rfl e1 hl r x
  have I : Inv (cxU P w K mg base N qual scope f cdv A outer s H E) [] (start N vs) H s1 := I0.hush (by first | rfl | (show (A.deeper _).frames = ({ A with handled := none }.deeper _).frames; rfl))
  refine wpAny_mono (ht [] s1 (start N vs) H _ I hq) (fun fl s' hs => ?_) fun e s' hs => False.elim hs
  have fin : ∀ {σ' : St} {H' : Hp} {v : V} {u : Value}, Inv (cxU P w K mg base N qual scope f cdv A outer s H E) [] σ' H' s' → RelV v u → Q v H' → CE outer P w H s Q u s' :=
    fun {σ' H' v u} J rv q => ⟨v, H', J.os, J.bare, J.base, J.hok, rv, q⟩
  cases fl with
  | ret u =>
    obtain ⟨v, σ', H', J, rv, q⟩ := hs
    exact fin J rv q
  | next =>
    obtain ⟨σ', H', J, q⟩ := hs
    exact fin (v := V.non) (u := Value.none) J rfl q
  | brk =>
    obtain ⟨σ', H', J, q⟩ := hs
    exact False.elim q
  | cont =>
    obtain ⟨σ', H', J, q⟩ := hs
    exact False.elim q
section
variable {X : Cx} {k : Nat} {f : Addr} {fd : FuncData} {ps : List Str} {sp : Sp}
theorem run_fnU {pins : List (Addr × Obj)} {σ : St} {H : Hp} {s : Shared} {Q Q' : VK} {us : List Value} {vs : List V} (F : FnOkU X.prog X.w X.K X.mg X.base k f fd ps sp) (hr : RoomU k X.A) (hh : HandOk X.A (frzH s.heap H)) (hb : Binds X.K fd ps [])
    (I : Inv X pins σ H s) (r : Vals vs us) (h : sp vs (frzH s.heap H) Q' E0) (hQ : ∀ v H', (∀ b u, HO.data u → Rd H' b u → Rd (thaw H H') b u) → Q' v H' → Q v (thaw H H')) : wpAny (model X.prog X.w) X.A (call (.ref f) us) (EP X pins σ Q) X.xe s := by
  have hl : us.length = ps.length := by rw [← r.length]; exact F.len _ _ _ _ h
  have hb' := hb s us I.kIn (by rw [List.append_nil]; exact hl)
  rw [List.append_nil] at hb'
  refine wpAny_call (codeAny_mono (F.run X.A X.stack s _ ⟨us, []⟩ us vs Q' E0 hr hh I.env0.frz hb' r h) fun r s' hq => ?_)
  cases r with
  | error e => exact False.elim hq
  | ok fl =>
    cases fl with
    | ret u =>
      obtain ⟨v, H', os, bare, un, hok, rv, q⟩ := (show CE X.stack X.prog X.w (frzH s.heap H) s Q' u s' from hq)
      have t : Thw s.heap H H' := ⟨un.tups, un.frzs⟩
      exact ⟨v, thaw H H', I.call' (ch := []) os (un.thaw I.hok) (I.hok.thaw t hok) bare (fun b z => absurd z (by simp)), rv, hQ v H' (fun b u hu r => r.thaw I.hok t hok hu) q⟩
    | next => exact False.elim hq
    | brk => exact False.elim hq
    | cont => exact False.elim hq
end
end L2
namespace DC
open PySem PySem.Spec PyProof.Rows L2
def spU (K : PySem.W.Frag) (sd : SpD) : Sp := fun vs H Q _ => ∃ ds, Dvs K H vs ds ∧ sd ds (fun d => ∀ v H', Dv K H' v d → Q v H')
abbrev BxU (P : Program) (w : World) (K : PySem.W.Frag) (mg : Str → Option Value) (base : Heap) (N : List Str) (qual : Str) (st : Stmt) (f : Addr) (cdv : Value) (A : Around) (outer : List Env) (s : Shared) (H : Hp) (E : XK) : Cx := cxU P w K mg base N qual (defScope st) f cdv A outer s H E
section
variable {P : Program} {w : World} {K : PySem.W.Frag} {mg : Str → Option Value} {base : Heap}
theorem okU {x qual : Str} {st : Stmt} {f : Addr} {fd : FuncData} {N ps : List Str} {k : Nat} {sd : SpD} {t : TSD} (F : FunV K x qual st f fd) (S : FnScope N ps (defScope st)) (len : ∀ ds Q, sd ds Q → ds.length = ps.length)
    (hb : ∀ (cdv : Value) (A : Around) (outer : List Env) (s : Shared) (H : Hp) (E : XK), RoomU k (A.deeper (envOfC qual (defScope st) s.heap.objs.size f cdv)) → HandOk (BxU P w K mg base N qual st f cdv A outer s H E).A (BxU P w K mg base N qual st f cdv A outer s H E).H₀ → PSsd (BxU P w K mg base N qual st f cdv A outer s H E) (defBody st) t)
    (hr : ∀ ds Q, sd ds Q → t { nx := fun _ => Q .non, rt := Q } (startD N ds)) : FnOkU P w K mg base (k + 1) f fd ps (spU K sd) := by
  obtain ⟨oc, od, dV, kV, doc, pm, an, cdv, ct, osl, rfl, lk, hcd⟩ := F.ex
  refine fn_ofU lk hcd S (fun vs H Q E ⟨ds, dvs, h⟩ => by rw [dvs.length]; exact len ds _ h) fun A outer s H vs Q E hroom hh ⟨ds, dvs, h⟩ => ?_
  have B := hb cdv A outer s H E hroom hh
  refine ⟨_, B.ps, startD N ds, start_rel dvs, ?_⟩
  let Q' : D → Prop := fun d => ∀ v H', Dv K H' v d → Q v H'
  exact B.mono { nx := fun _ => Q' .non, rt := Q' } _ _ ⟨fun δ q σ H' s' r => q _ H' .non, fun d q v H' s' dv => q v H' dv, fun _ q => q.elim, fun _ q => q.elim⟩ (hr ds _ h)
structure CalU (P : Program) (w : World) (K : PySem.W.Frag) (mg : Str → Option Value) (base : Heap) (k : Nat) (x : Str) (ps : List Str) (sd : SpD) : Prop where
  ex : ∃ f fd, FnOkU P w K mg base k f fd ps (spU K sd) ∧ mg x = some (.ref f) ∧ PySem.W.keepIn K (.ref f) = true ∧ Binds K fd ps []
  ms : MonoS sd
theorem Df.calU {k : Nat} {x : Str} {st : Stmt} {ps N : List Str} {sd : SpD} {t : TSD} (d : Df K mg x st ps) (S : FnScope N ps (defScope st)) (ms : MonoS sd) (len : ∀ ds Q, sd ds Q → ds.length = ps.length)
    (hb : ∀ (f : Addr) (cdv : Value) (A : Around) (outer : List Env) (s : Shared) (H : Hp) (E : XK), RoomU k (A.deeper (envOfC x (defScope st) s.heap.objs.size f cdv)) → HandOk (BxU P w K mg base N x st f cdv A outer s H E).A (BxU P w K mg base N x st f cdv A outer s H E).H₀ → PSsd (BxU P w K mg base N x st f cdv A outer s H E) (defBody st) t)
    (hr : ∀ ds Q, sd ds Q → t { nx := fun _ => Q .non, rt := Q } (startD N ds)) : CalU P w K mg base (k + 1) x ps sd := by
  obtain ⟨f, fd, F, m, b⟩ := d.ex
  exact ⟨⟨f, fd, okU (fun_v F) S len (hb f) hr, m, F.kp, b⟩, ms⟩
theorem okXF {x qual : Str} {st : Stmt} {f : Addr} {fd : FuncData} {N ps : List Str} {k : Nat} {sx : SpX} {t : XR → TSD} (F : FunV K x qual st f fd) (S : FnScope N ps (defScope st)) (len : ∀ ds Q R, sx ds Q R → ds.length = ps.length)
    (hb : ∀ (cdv : Value) (A : Around) (outer : List Env) (s : Shared) (H : Hp) (E : XK) (R : XR), Room k (A.deeper (envOfC qual (defScope st) s.heap.objs.size f cdv)) → XAcc (BxX P w K mg base N qual st f cdv A outer s H E) (fun _ => R) → PFs (BxX P w K mg base N qual st f cdv A outer s H E) (defBody st) (t R))
    (hr : ∀ ds Q R, sx ds Q R → t R { nx := fun _ => Q .non, rt := Q } (startD N ds)) : FnOk P w K mg base (CXD P w) (k + 1) f fd ps (spX K sx) := by
  obtain ⟨oc, od, dV, kV, doc, pm, an, cdv, ct, osl, rfl, lk, hcd⟩ := F.ex
  refine fn_of lk hcd S (fun vs H Q E ⟨ds, dvs, h⟩ => by rw [dvs.length]; exact len ds _ _ h) fun A outer s H vs Q E hroom ⟨ds, dvs, h⟩ => ?_
  have B := hb cdv A outer s H E (kX K E) hroom acc_X
  refine ⟨_, B.ps, startD N ds, start_rel dvs, ?_⟩
  let Q' : D → Prop := fun d => ∀ v H', Dv K H' v d → Q v H'
  exact B.mono { nx := fun _ => Q' .non, rt := Q' } _ _ ⟨fun δ q σ H' r => q _ H' .non, fun d q v H' dv => q v H' dv, fun _ q => q.elim, fun _ q => q.elim⟩ (hr ds _ _ h)
theorem Df.calXF {k : Nat} {x : Str} {st : Stmt} {ps N : List Str} {sx : SpX} {t : XR → TSD} (d : Df K mg x st ps) (S : FnScope N ps (defScope st)) (ms : MonoX sx) (len : ∀ ds Q R, sx ds Q R → ds.length = ps.length)
    (hb : ∀ (f : Addr) (cdv : Value) (A : Around) (outer : List Env) (s : Shared) (H : Hp) (E : XK) (R : XR), Room k (A.deeper (envOfC x (defScope st) s.heap.objs.size f cdv)) → XAcc (BxX P w K mg base N x st f cdv A outer s H E) (fun _ => R) → PFs (BxX P w K mg base N x st f cdv A outer s H E) (defBody st) (t R))
    (hr : ∀ ds Q R, sx ds Q R → t R { nx := fun _ => Q .non, rt := Q } (startD N ds)) : CalX P w K mg base (k + 1) x ps sx := by
  obtain ⟨f, fd, F, m, b⟩ := d.ex
  exact ⟨⟨f, fd, okXF (fun_v F) S len (hb f) hr, m, F.kp, b⟩, ms⟩
end
section
variable {X : Cx} {e : Expr} {es : List Expr} {t : AD} {pos p : Pos} {x : Str} {j k : Nat} {ps : List Str} {sd : SpD} {ea : Addr}
def vCallU (ea : Addr) (sd : SpD) (t : AD) : ED := fun δ Q => t δ fun ds => (∃ C gs, D.exc ea C gs ∈ ds) ∧ sd ds Q
theorem exc_in {K : PySem.W.Frag} {H : Hp} {C : Addr} {gs : List (Str × D)} : ∀ {vs : List V} {ds : List D}, Dvs K H vs ds → D.exc ea C gs ∈ ds → ∃ dx, Rd H ea (ExcO ea C dx)
  | _, _, .cons dv r, h => by
    rcases List.mem_cons.mp h with h | h
    · subst h
      cases dv with
      | exc h1 _ _ => exact ⟨_, h1⟩
    · exact exc_in r h
theorem hand_frz {P : Program} {w : World} {A : Around} {H : Hp} {h : Heap} {C : Addr} {dx : Option Addr} (hA : A.handled = some (.ref ea)) (ok : HOk P w H h) (r : Rd H ea (ExcO ea C dx)) : HandOk A (frzH h H) := by
  have z := r.frz ok (show HO.data (ExcO ea C dx) from True.intro)
  obtain ⟨⟨oe, vs, e1, _, _, e2, e3⟩, _⟩ := (show ObjOk P w (frzH h H) h ea (ExcO ea C dx) from z.ok ok.frz)
  rcases z with z | ⟨o, z⟩
  · exfalso
    rcases r with r | ⟨o, r⟩
    · rcases frz_cases ok r with ⟨_, q⟩ | ⟨o, _, q⟩
      · rcases q with ⟨_, q⟩ | ⟨_, _, q⟩ | ⟨_, _, q, _⟩ <;> cases q
      · rw [q] at z; cases z
    · rw [frz_frz r] at z; cases z
  · have g := (ok.frz ea _ z).1
    rw [e1] at g
    cases g
    exact .inr ⟨ea, oe, _, vs, hA, z, e2, e3⟩
theorem d_calU (hA : X.A.handled = some (.ref ea)) (c : CalU X.prog X.w X.K X.mg X.base j x ps sd) (hr : RoomU k X.A) (hj : j ≤ k) (hg : Gl X x) (ha : PAd X (e :: es) t) (hdb : (x == ("__debug__" : Str)) = false := by decide)
    (he : starEach (e :: es) X.env = (false, eval e X.env) :: starEach es X.env := by rfl) (hpl : (backTo pos (starEach es X.env)).any (·.1) = false := by rfl) : PD X (.Call (.Name x p) (e :: es) [] pos) (vCallU ea sd t) := by
  obtain ⟨f, fd, F, hm, hk, hb⟩ := c.ex
  refine ⟨fun pins s σ H Q I ⟨δ, r, h⟩ => ?_, fun δ P P' g h => ha.mono _ _ _ (fun ds ⟨q0, q⟩ => ⟨q0, c.ms _ _ _ g q⟩) h⟩
  refine wpAny_Call_Name_kw (ld_glob I hg hm ?_ hdb)
  refine PySem.W.callWith_K (h₀ := X.base) I.ok.mod.kin hk (thn (ha.pa pos pins s σ H (fun vs H1 => Same H H1 ∧ ∃ ds, Dvs X.K H1 vs ds ∧ (∃ C gs, D.exc ea C gs ∈ ds) ∧ sd ds (kD X.K H Q)) I ⟨δ, r, ha.mono _ _ _ (fun ds q vs H1 s1 dv => ⟨s1, ds, dv, q⟩) h⟩) fun us s1 ⟨vs, H1, I1, r1, sm, ds, dv, ⟨C, gs, q0⟩, q⟩ => ⟨I1.kIn, ?_⟩) he hpl
  obtain ⟨dx, rd⟩ := exc_in dv q0
  refine run_fnU (Q' := backX X.K (kD X.K H Q)) F (hr.mono hj) (hand_frz hA I1.hok rd) hb I1 r1 ⟨ds, (dv.rd fun b u hu z => z.frz I1.hok hu), c.ms _ _ _ (fun d q v H' dv => ⟨d, dv, q⟩) q⟩ ?_
  rintro v H' rd ⟨d, dv, q⟩
  exact q v _ (sm.trans (thaw_same _ _)) (dv.rd rd)
end
end DC

set_option maxHeartbeats 1000000
namespace L2
open PySem PySem.Spec PyProof.Rows
theorem entry_unchain : entryFor table "proto.unchain" = some Builtin.«proto.unchain» := entryFor_of_tree (by kernel_rfl)
section
variable {prog : Program} {w : World} {A : Around} {E : Value → Shared → Prop} {s : Shared}
theorem raiseNew_h {α : Type} {ea e : Addr} {oe on : Obj} {vs ws : Array Value} {Q : α → Shared → Prop} (hA : A.handled = some (.ref ea)) (ne : ea ≠ e) (he : s.heap.get? ea = some oe) (hd : oe.data = .fields vs) (h2 : vs[2]? = some .none) (hn : s.heap.get? e = some on) (hnd : on.data = .fields ws) (hz : 2 < ws.size)
    (h : E (.ref e) { s with heap := s.heap.update e (Obj.mapFields (·.setIfInBounds 2 (.ref ea))) }) : wpAny (model prog w) A (raiseNew (.ref e) : Sem α) Q E s := by
  unfold raiseNew
  refine wpAny_bind (wpAny_handled ?_)
  rw [hA]
  have hne : (Value.ref ea != Value.ref e) = true := by simpa using ne
  dsimp only
  rw [if_pos hne]
  refine wpAny_bind (wpAny_holding (wpAny_runValue (codeAny_builtin entry_unchain ?_)))
  unfold Builtin.«proto.unchain»
  refine wpAny_bind (wpAny_field he hd h2 ?_)
  rw [if_pos (show (Value.none == Value.none) = true from rfl)]
  refine wpAny_pure ?_
  show wpAny _ _ (do setField (Value.ref e) 2 (Value.ref ea); throw (Value.ref e)) _ _ _
  exact wpAny_bind (wpAny_setField hn hnd hz (wpAny_throw h))
theorem tup_endU {it t : Addr} {i : Nat} {items : Array Value} {Q : Option Value → Shared → Prop} (hh : HandAt A s.heap) (hit : s.heap.IsTupleIter it t i) (ht : s.heap.IsTuple t items) (hx : items[i]? = none) (hf : ∀ ea, A.handled = some (.ref ea) → ea ≠ it)
    (hQ : ∀ h', Heap.ExtBut it s.heap h' → Q none { s with heap := h' }) : wpAny (model prog w) A (pyNext (.ref it)) Q E s := by
  rcases hh with hh | ⟨ea, oe, vs, hA, he, hd0, h2⟩
  · exact wpAny_pyNext_tuple_end hh hit ht hx hQ
  have hne := hf ea hA
  obtain ⟨o, ho, hc, hd⟩ := id hit; obtain ⟨ol, hol, _, nl, hdl⟩ := ht
  unfold pyNext
  refine wpAny_bind (wpAny_attempt (wpAny_callSpecial?_slot (name := Str.ofString "__next__") hit.typeIs F.slot_tuple_iterator_next (wpAny_call_entry F.slot_tuple_iterator_next hit.typeIs F.entry_tuple_iterator_next ?_ (F.args_tuple_iterator_next_1 _))))
  show wpAny _ _ (field (.ref it) 0 >>= _) _ _ s; refine wpAny_bind (wpAny_field ho hd (x := .ref t) rfl ?_)
  show wpAny _ _ (if (Value.ref t == Value.none) = true then _ else _) _ _ s; rw [if_neg (show ¬ ((Value.ref t == Value.none) = true) from Bool.false_ne_true)]
  show wpAny _ _ (field (.ref it) 1 >>= _) _ _ s; refine wpAny_bind (wpAny_field ho hd (x := .int i 0) rfl ?_)
  show wpAny _ _ (seqItems? (.ref t) >>= _) _ _ s; refine wpAny_bind (wpAny_seqItems hol hdl ?_); simp only [Int.toNat_natCast, hx]
  refine wpAny_bind (wpAny_rule (wpAny_bind (wpAny_setField ho hd (by simp) ?_))); show wpAny _ _ (newExc (.type "StopIteration") [] >>= _) _ _ _
  refine wpAny_bind ?_; simp only [newExc, newTuple]; refine wpAny_bind (wpAny_newObj_type ?_ (by size_fits))
  refine wpAny_bind (m := firstArgMember _ _) (wpAny_of_eq (a := Value.none) (by first | rfl | (simp only [firstArgMember]; rfl)) ?_); refine wpAny_newObj_type ?_ (by size_fits)
  generalize hh0 : s.heap.update it (Obj.mapFields (·.setIfInBounds 0 Value.none)) = G0
  have k0 : Heap.ExtBut it s.heap G0 := by rw [← hh0]; exact (Heap.SameBut.update ..).extBut
  generalize hh1 : G0.push _ = G1
  have k1 : Heap.ExtBut it s.heap G1 := by rw [← hh1]; exact k0.push _
  have e1 := k1 ea oe hne he
  refine raiseNew_h (A := A.in1) hA (Nat.ne_of_lt (Heap.lt_size e1)) (Heap.get?_push_of_some _ e1) hd0 h2 (Heap.get?_push_size _ rfl) rfl (by rw [Array.size_append]; show 2 < 6 + _; omega) ?_
  generalize hh2 : G1.push _ = G2
  have k2 : Heap.ExtBut it s.heap G2 := by rw [← hh2]; exact k1.push _
  have n2 : ∃ on ws, G2.get? G1.objs.size = some on ∧ on.cls = .type "StopIteration" ∧ on.data = .fields ws := by rw [← hh2]; exact ⟨_, _, Heap.get?_push_size _ rfl, rfl, rfl⟩
  obtain ⟨on, ws, n3, n4, n6⟩ := n2
  have n5 : (G2.update G1.objs.size (Obj.mapFields (·.setIfInBounds 2 (Value.ref ea)))).get? G1.objs.size = some (on.mapFields (·.setIfInBounds 2 (Value.ref ea))) := Heap.get?_update_self _ n3 (Obj.isFreed_of_fields (Obj.data_mapFields n6 _))
  refine wpAny_bind (wpAny_isInstance (T := "StopIteration") (b := true) ⟨_, n5, by rw [Obj.cls_mapFields]; exact n4⟩ isSubtype_stop ?_)
  refine wpAny_pure (hQ _ fun b ob nb q => ?_)
  exact (Heap.get?_update_other _ _ (Nat.ne_of_gt (Heap.lt_size (k1 b ob nb q)))).trans (k2 b ob nb q)
theorem walks_tupU {I ax : Addr} (hne : ax ≠ I) (items : Array Value) (fp : List Addr) (P : Heap → Prop) (hP : ∀ h h', P h → (∀ b ∈ fp, ∀ o, h.get? b = some o → h'.get? b = some o) → P h') (hI : I ∉ fp) (hA : ∀ h, P h → HandAt A h) (hE : ∀ ea, A.handled = some (.ref ea) → ea ≠ I) :
    Walks prog w A I (I :: ax :: fp) [I] items.size (fun i v => items[i]? = some v) (fun i h => h.IsTupleIter I ax i ∧ h.IsTuple ax items ∧ P h) where
  sub := fun b hb => by simp at hb; simp [hb]
  frame := fun _ _ _ st hk => ⟨st.1.at fun o e => hk I (by simp) o e, st.2.1.at fun o e => hk ax (by simp) o e, hP _ _ st.2.2 fun b hb o e => hk b (by simp [hb]) o e⟩
  item := fun i s Q E hi st hQ => by
    refine wpAny_pyNext_tuple_item st.1 st.2.1 (x := items[i]) (by simp [hi]) fun h' hit' hs' => hQ _ h' s.toks (by simp [hi]) ⟨hit', st.2.1.extBut hs'.extBut hne, hP _ _ st.2.2 fun b hb o e => hs'.extBut b o (fun z => hI (z ▸ hb)) e⟩ fun b o hb e => hs'.extBut b o (fun z => hb (by simp [z])) e
  done := fun s Q E st hQ => tup_endU (hA _ st.2.2) st.1 st.2.1 (by simp) hE fun h' he' => hQ h' s.toks fun b o hb e => he' b o (fun z => hb (by simp [z])) e
  self := fun _ _ _ _ st hQ => wpAny_pyIter_tupleiter st.1 hQ
theorem min_twoU {a b : Int} {t u : Tok} {Q : Value → Shared → Prop} (hh : HandAt A s.heap) (h : ∀ h' tk, (∀ c o, s.heap.get? c = some o → h'.get? c = some o) → Q (if b < a then .int b u else .int a t) { s with heap := h', toks := tk }) : wpAny (model prog w) A (call (.builtin "min") [.int a t, .int b u]) Q E s := by
  rcases hh with hh | ⟨ea, oe, vs, hA, he, hd, h2⟩
  · exact min_two_ints hh h
  generalize hits : intItems #[(a, t), (b, u)] = its
  have tup : (s.heap.push { cls := .type "tuple", data := .seq #[.int a t, .int b u] }).IsTuple s.heap.objs.size its := by rw [← hits]; exact ⟨_, Heap.get?_push_size _ rfl, rfl, 0, by simp [intItems]⟩
  have size1 : (s.heap.push { cls := .type "tuple", data := .seq #[.int a t, .int b u] }).objs.size = s.heap.objs.size + 1 := Heap.size_push ..
  have small := Heap.lt_size he
  refine call_min_two (wpAny_pyIter_tuple tup ?_)
  refine ⟨_, [_, s.heap.objs.size, ea], [_], _, _, _, fun i j => decide (numAt #[(a, t), (b, u)] i < numAt #[(a, t), (b, u)] j), rfl, walks_tupU (A := A.in1) (ax := s.heap.objs.size) (by rw [size1]; exact Nat.ne_of_lt (Nat.lt_succ_self _)) its [ea] (fun h => h.get? ea = some oe) (fun h h' p k => k ea (List.mem_singleton.mpr rfl) oe p) (fun z => by rw [List.mem_singleton, size1] at z; rw [← z] at small; exact Nat.lt_irrefl _ (Nat.lt_of_succ_lt small)) (fun h p => .inr ⟨ea, oe, vs, hA, p, hd, h2⟩) (fun e q z => by rw [show A.in1.handled = some (.ref ea) from hA] at q; cases q; rw [z, size1] at small; exact Nat.lt_irrefl _ (Nat.lt_of_succ_lt small)),
    ⟨⟨_, Heap.get?_push_size _ rfl, rfl, rfl⟩, tup.push _, Heap.get?_push_of_some _ (Heap.get?_push_of_some _ he)⟩, fun c hc => ?_, by rw [← hits]; simp [intItems], by rw [← hits]; exact CmpOf.ints_lt (numAt #[(a, t), (b, u)]) (fun _ _ => intItems_at), fun v h' tk hv hk => ?_⟩
  · show c < ((s.heap.push _).push _).objs.size
    rw [Heap.size_push, size1]
    simp only [List.mem_cons, List.not_mem_nil, or_false] at hc
    rcases hc with rfl | rfl | rfl
    · rw [size1]; exact Nat.lt_succ_self _
    · exact Nat.lt_succ_of_lt (Nat.lt_succ_self _)
    · exact Nat.lt_succ_of_lt (Nat.lt_succ_of_lt small)
  · have hold : ∀ c o, s.heap.get? c = some o → h'.get? c = some o := fun c o e => hk c o (fun hm => by
      have z := Heap.lt_size e
      rw [List.mem_singleton.mp hm, size1] at z
      exact Nat.lt_irrefl _ (Nat.lt_of_succ_lt z)) (Heap.get?_push_of_some _ (Heap.get?_push_of_some _ e))
    have fin := h h' tk hold
    have two : its.size - 1 = 1 := by rw [← hits]; simp [intItems]
    rw [two, ← hits] at hv
    have ev : v = if b < a then Value.int b u else Value.int a t := by
      by_cases hba : b < a
      · rw [show argBest (fun i j => decide (numAt #[(a, t), (b, u)] i < numAt #[(a, t), (b, u)] j)) 1 = 1 by simp [argBest, numAt, hba]] at hv
        simpa [intItems, hba] using hv.symm
      · rw [show argBest (fun i j => decide (numAt #[(a, t), (b, u)] i < numAt #[(a, t), (b, u)] j)) 1 = 0 by simp [argBest, numAt, hba]] at hv
        simpa [intItems, hba] using hv.symm
    rw [ev]; exact fin
end
end L2

set_option maxHeartbeats 4000000
namespace L2
open PySem PySem.Spec PyProof.Rows
structure ExcGet (K : PySem.W.Frag) (C : Addr) : Prop where
  ga : PySem.W.findIn K (.ref C) "__getattribute__" = some (some (.builtin "BaseException.__getattribute__"))
  na : PySem.W.findIn K (.ref C) "__getattr__" = some none
  be : PySem.W.mroIn K C (.type "BaseException") = some true
section
variable {prog : Program} {w : World} {A : Around} {E : Value → Shared → Prop} {s : Shared} {K : PySem.W.Frag} {x C : Addr} {ox : Obj} {od : Option Obj} {name : Str} {tk : Tok}
theorem check_ga {Q : Unit → Shared → Prop} {nv : Value} (X : K.In s.heap) (I : PySem.W.InstAt s.heap x ox C od) (g : ExcGet K C) (hq : Q () s) : wpAny (model prog w) A (checkBuiltinCall "BaseException.__getattribute__" ⟨[.ref x, nv], []⟩) Q E s := by
  have hk : builtinKind "BaseException.__getattribute__" = some .slot := by decide +kernel
  have hsplit : splitId "BaseException.__getattribute__" = some ("BaseException", "__getattribute__") := by decide +kernel
  have ha := PySem.F.args_bexc_ga (.ref x) nv
  have L0 := I.type (M := model prog w)
  have L1 := PySem.W.looks_mroIn (M := model prog w) X g.be
  simp only [checkBuiltinCall, hk, hsplit]
  unfold isInstance
  refine wpAny_bind (wpAny_bind (L0.at (L1.at ?_)))
  unfold argsOk at ha
  simp only [Bool.not_true, Bool.false_eq_true, if_false]
  generalize Manifest.signature? "BaseException.__getattribute__" = o at ha ⊢
  cases o with
  | none => exact wpAny_pure hq
  | some sig =>
    have ha' : Bind.checkArgs "BaseException.__getattribute__" sig { pos := [Value.ref x, nv] } = pure () := ha
    show wpAny _ _ (Bind.checkArgs "BaseException.__getattribute__" sig { pos := [Value.ref x, nv] }) _ _ _
    rw [ha']
    exact wpAny_pure hq
theorem own_find {fin : Fin → Shared → Prop} {v : Value} (X : K.In s.heap) (I : PySem.W.InstAt s.heap x ox C od) (hf : PySem.W.findObj K C od name = some (.value v)) (h : fin (.done (.ret v)) s) : wpAny (model prog w) A (Builtin.«object.__getattribute__» ⟨[.ref x, .str name tk], []⟩) fin E s := by
  have L0 := I.type (M := model prog w)
  have L1 := PySem.W.looks_find (M := model prog w) X I hf
  refine wpAny_bind (wpAny_pure (wpAny_bind (wpAny_pure (wpAny_bind (L0.at (wpAny_bind (L1.at (wpAny_pure h))))))))
theorem own_bind {fin : Fin → Shared → Prop} {g a : Value} (X : K.In s.heap) (I : PySem.W.InstAt s.heap x ox C od) (hf : PySem.W.findObj K C od name = some (.bind g a)) (h : wpAny (model prog w) A (call g [a, .ref x, .ref C]) (fun v s' => fin (.done (.ret v)) s') E s) : wpAny (model prog w) A (Builtin.«object.__getattribute__» ⟨[.ref x, .str name tk], []⟩) fin E s := by
  have L0 := I.type (M := model prog w)
  have L1 := PySem.W.looks_find (M := model prog w) X I hf
  refine wpAny_bind (wpAny_pure (wpAny_bind (wpAny_pure (wpAny_bind (L0.at (wpAny_bind (L1.at ?_)))))))
  show wpAny _ _ (holding [a] (call g [a, .ref x, .ref C]) >>= ret) _ _ _
  exact wpAny_bind (wpAny_holding (wpAny_mono h (fun v s' z => wpAny_pure z) fun _ _ z => z))
theorem by_exc {fill expr : Bool} {Q : Value → Shared → Prop} (X : K.In s.heap) (I : PySem.W.InstAt s.heap x ox C od) (g : ExcGet K C)
    (h : wpAny (model prog w) A.in1 (Builtin.«object.__getattribute__» ⟨[.ref x, .str name tk], []⟩) (fun fin s' => match fin with | .done (.ret v) => wpAny (model prog w) A (handedOut v) Q E s' | _ => False) (fun _ _ => False) s) :
    wpAny (model prog w) A (getAttrBy (.ref x) (.str name tk) fill expr) Q E s := by
  have L0 := I.type (M := model prog w)
  have L1 := PySem.W.looks_findIn (M := model prog w) X g.ga
  have L2 := PySem.W.looks_findIn (M := model prog w) X g.na
  have f3 := PySem.F.attr_ValueError.ga.bind (.ref x)
  have hx0 : (expr && onTheHeap (Value.builtin "BaseException.__getattribute__")) = false := by cases expr <;> rfl
  have hx2 : (Value.builtin "BaseException.__getattribute__" == Value.builtin "object.__getattribute__") = false := by decide +kernel
  have hx1 : (onTheHeap (Value.ref C) && Value.builtin "BaseException.__getattribute__" == Value.builtin "object.__getattribute__") = false := by rw [hx2]; rfl
  unfold getAttrBy
  refine wpAny_holding (wpAny_bind (L0.at (wpAny_bind (L1.at ?_))))
  simp only [hx1]
  show wpAny _ _ (getAttrByItsOwn (.ref x) (.str name tk) (.ref C) (.builtin "BaseException.__getattribute__") fill expr) _ _ _
  unfold getAttrByItsOwn hookBefore
  refine wpAny_bind (L2.at (wpAny_bind (wpAny_attempt (wpAny_holding ?_))))
  unfold callGetattribute
  rw [hx0]
  show wpAny _ _ (boundAndCalled _ _ _) _ _ _
  unfold boundAndCalled
  rw [f3]
  refine wpAny_bind (wpAny_pure (wpAny_call (codeAny_call_builtin PySem.F.attr_ValueError.ga.plain PySem.F.entry_bexc_ga (check_ga X I g (wpAny_mono h (fun fin s' z => ?_) fun _ _ z => z.elim)))))
  rcases fin with (_ | _ | _ | _) | _ <;> first | exact z | exact z.elim
theorem get_exc {expr : Bool} {Q : Value → Shared → Prop} {v : Value} (X : K.In s.heap) (I : PySem.W.InstAt s.heap x ox C od) (g : ExcGet K C) (hf : PySem.W.findObj K C od name = some (.value v)) (hh : PySem.W.handedIn v = true) (h : Q v { s with toks := s.toks + 1 }) : wpAny (model prog w) A (getAttr (.ref x) name expr) Q E s := by
  obtain ⟨hp, gg, d, t, os⟩ := s
  unfold getAttr
  exact wpAny_bind (wpAny_mkText (by_exc (s := ⟨hp, gg, d, t + 1, os⟩) X I g (own_find (s := ⟨hp, gg, d, t + 1, os⟩) X I hf (PySem.W.handed_on hh h))))
theorem cls_exc {Q : Option Value → Shared → Prop} (X : K.In s.heap) (I : PySem.W.InstAt s.heap x ox C od) (g : ExcGet K C) (hf : PySem.W.findObj K C od "__class__" = some (.bind (.builtin "getset_descriptor.__get__") (.builtin "object.__class__"))) (hm : PySem.W.mroIn K C (.type "object") = some true) (h : Q (some (.ref C)) { s with toks := s.toks + 1 }) : wpAny (model prog w) A (getAttr? (.ref x) "__class__") Q E s := by
  obtain ⟨hp, gg, d, t, os⟩ := s
  unfold getAttr? getAttrBy?
  refine wpAny_bind (wpAny_mkText (wpAny_bind (wpAny_attempt (by_exc (s := ⟨hp, gg, d, t + 1, os⟩) X I g (own_bind (s := ⟨hp, gg, d, t + 1, os⟩) X I hf (wpAny_call (PySem.W.class_get (s := ⟨hp, gg, d, t + 1, os⟩) (ox := ox) (od := od) X I hm ?_)))))))
  exact PySem.W.handed_on rfl (wpAny_pure h)
end
end L2

set_option maxHeartbeats 1000000
namespace L2
open PySem PySem.Spec PyProof.Rows
structure ExcTy (K : PySem.W.Frag) (C : Addr) : Prop where
  pg : ExcGet K C
  cl : (PySem.W.clsIn K C).isSome = true
  ha : PySem.W.findIn K (.ref C) "__class__" = some (some (.builtin "object.__class__"))
  hn : PySem.W.specialIn K (.builtin "object.__class__") "__get__" = some (some (.builtin "getset_descriptor.__get__"))
  htk : PySem.W.takesIn K (.builtin "object.__class__") = some true
  hm : PySem.W.mroIn K C (.type "object") = some true
theorem ExcTy.look {K : PySem.W.Frag} {C : Addr} (t : ExcTy K C) : ∃ c d cd sl, K.lookup C = some ⟨c, d, .cls cd, sl⟩ := by
  obtain ⟨cd, a⟩ := Option.isSome_iff_exists.mp t.cl
  unfold PySem.W.clsIn at a
  split at a
  · exact ⟨_, _, _, _, by assumption⟩
  · cases a
theorem kitx_exc {K : PySem.W.Frag} {x C : Addr} {ox : Obj} {od : Option Obj} (t : ExcTy K C) : PySem.W.KitX K (.ref x) (.ref C) (fun h => PySem.W.InstAt h x ox C od) where
  ty := fun _ _ _ I => I.type
  it := fun _ _ X _ A' Q' E' s' k q => by
    obtain ⟨c, d, cd, sl, ho⟩ := t.look
    unfold isType loadHead; exact wpAny_bind (wpAny_loadPart (k _ _ (X _ _ ho)) (wpAny_pure q))
  ne := fun h tp dd its n sl X htp => by
    obtain ⟨c, d, cd, sl', ho⟩ := t.look
    refine Bool.eq_false_iff.mpr fun q => ?_
    rw [← Value.ref.inj (beq_iff_eq.mp q), X _ _ ho] at htp
    cases htp
  ca := fun {prog w A E Q s} X I k => by
    obtain ⟨cd, hcd⟩ := Option.isSome_iff_exists.mp t.cl
    have hf : PySem.W.findObj K C od "__class__" = some (.bind (.builtin "getset_descriptor.__get__") (.builtin "object.__class__")) := by
      unfold PySem.W.findObj; rw [hcd, Option.bind_some, t.ha, Option.bind_some]; simp [t.hn, t.htk]
    exact cls_exc X I t.pg hf t.hm k
theorem exc_inst {P : Program} {w : World} {H : Hp} {h : Heap} {a C : Addr} {dx : Option Addr} {fs : List (Str × V)} (ok : HOk P w H h) (r : Rd H a (DC.ExcO a C dx)) (xd : DC.XDict H dx fs) : ∃ ox od, PySem.W.InstAt h a ox C od := by
  obtain ⟨⟨oe, vs, e1, hc, hdx, hd, _⟩, _⟩ := (show ObjOk P w H h a (DC.ExcO a C dx) from r.ok ok)
  cases dx with
  | none => exact ⟨oe, none, e1, hc, by unfold PySem.W.notCls; rw [hd], by rw [hdx]; exact True.intro⟩
  | some d =>
    obtain ⟨⟨mA, ⟨od, es, ep, e, c⟩, rr⟩, _⟩ := (show ObjOk P w H h d (DC.XdO d fs) from Rd.ok xd ok)
    exact ⟨oe, some od, e1, hc, by unfold PySem.W.notCls; rw [hd], by rw [hdx]; exact e⟩
theorem bools_of : ∀ {bs : List Bool} {us : List Value}, Vals (bs.map V.bl) us → us = bs.map Value.bool
  | [], _, .nil => rfl
  | b :: bs, _, .cons h r => by
    rw [List.map_cons, ← bools_of r]
    exact congrArg (· :: _) h
section
variable {X : Cx}
theorem mt_countT : MtR X "list.count" (fun x xs H Q => ∃ (a : Addr) (bs : List Bool), x = .ref a ∧ xs = [.bl true] ∧ SqL X.K H a (bs.map V.bl) ∧ Q (.int ((bs.countP id : Nat) : Int)) H) := by
  intro pins s σ H x xs v us Q I rx rs h
  obtain ⟨a, bs, rfl, rfl, hS, q⟩ := h
  cases rx
  obtain ⟨u, rfl, ru⟩ := rs.one
  cases (show u = Value.bool true from ru)
  obtain ⟨its, rv, ⟨o, n, e, ec, _, d⟩, _⟩ := I.list hS
  obtain ⟨oc, od, oda, osl⟩ := o
  cases (show oc = Value.type "list" from ec)
  cases (show oda = Data.seq its.toArray n from d)
  have ei := bools_of rv
  refine call_meets F.slot_list_count ⟨_, e, rfl⟩ F.entry_list_count (F.args_list_count_2 _ _) (SeqAt.list_countAt a its.toArray n od osl (.bool true) (fun y => y == Value.bool true)) ⟨e, fun y hy => ?_, ?_⟩
  · rw [ei] at hy
    obtain ⟨b, _, rfl⟩ := List.mem_map.mp (List.mem_toArray.mp hy)
    cases b <;> exact SeqAt.EqAt.bool_bool _ _
  · refine ⟨.int ((bs.countP id : Nat) : Int), H, I.tok _, ⟨s.toks, ?_⟩, q⟩
    rw [ei]
    congr 2
    rw [show (List.map Value.bool bs).toArray.toList = List.map Value.bool bs from rfl, List.countP_map]
    congr 1
    funext b
    cases b <;> rfl
theorem mt_indexT : MtR X "list.index" (fun x xs H Q => ∃ (a : Addr) (bs : List Bool) (j : Nat), x = .ref a ∧ xs = [.bl true] ∧ SqL X.K H a (bs.map V.bl) ∧ bs[j]? = some true ∧ (∀ m, m < j → bs[m]? = some false) ∧ j < 1000 ∧ Q (.int (j : Int)) H) := by
  intro pins s σ H x xs v us Q I rx rs h
  obtain ⟨a, bs, j, rfl, rfl, hS, h1, h2, h3, q⟩ := h
  cases rx
  obtain ⟨u, rfl, ru⟩ := rs.one
  cases (show u = Value.bool true from ru)
  obtain ⟨its, rv, ⟨o, n, e, ec, _, d⟩, _⟩ := I.list hS
  obtain ⟨oc, od, oda, osl⟩ := o
  cases (show oc = Value.type "list" from ec)
  cases (show oda = Data.seq its.toArray n from d)
  have ei := bools_of rv
  subst ei
  have hj : j < bs.length := (List.getElem?_eq_some_iff.mp h1).1
  refine call_meets F.slot_list_index ⟨_, e, rfl⟩ F.entry_list_index (F.args_list_index_2 _ _) (SeqAt.list_indexAt a _ n od osl (.bool true) (fun y => y == Value.bool true) j (by simpa using hj) (by omega) ?_ ?_) ⟨e, fun y hy => ?_, ?_⟩
  · have z := (List.getElem?_eq_some_iff.mp h1).2
    simp [z]
  · intro m hm hmj
    have z := (List.getElem?_eq_some_iff.mp (h2 m hmj)).2
    simp [z]
  · obtain ⟨b, _, rfl⟩ := List.mem_map.mp (List.mem_toArray.mp hy)
    cases b <;> exact SeqAt.EqAt.bool_bool _ _
  · exact ⟨.int (j : Int), H, I.tok _, ⟨s.toks, rfl⟩, q⟩
theorem call_min2U (hh : HandOk X.A X.H₀) : CallR X (.builtin "min") (fun xs H Q => ∃ i j, xs = [.int i, .int j] ∧ Q (.int (if j < i then j else i)) H) := by
  intro pins s σ H xs us Q I r h
  obtain ⟨i, j, rfl, q⟩ := h
  obtain ⟨u, w', rfl, ⟨t, rfl⟩, ⟨t', rfl⟩⟩ := vals2 r
  refine min_twoU (hand_of hh I) fun h' tk k => ⟨_, H, I.kept k, ?_, q⟩
  by_cases hj : j < i
  · rw [if_pos hj, if_pos hj]; exact ⟨_, rfl⟩
  · rw [if_neg hj, if_neg hj]; exact ⟨_, rfl⟩
end
end L2
namespace DC
open PySem PySem.Spec PyProof.Rows L2
section
variable {X : Cx} {o e : Expr} {es : List Expr} {te to : ED} {t : AD} {pos p p2 apos cpos : Pos}
theorem call_isiE {c : Value} {vc : V} (rc : ∀ u, RelV vc u → u = c) : CallR X (.builtin "isinstance") (fun xs H Q => ∃ x a C gs b, xs = [x, vc] ∧ Dv X.K H x (.exc a C gs) ∧ ExcTy X.K C ∧ PySem.W.kitOne X.K (.ref C) c = some b ∧ Q (.bl b) H) := by
  intro pins s σ H xs us Q I r h
  obtain ⟨x, a, C, gs, b, rfl, dv, ty, e, q⟩ := h
  obtain ⟨u, w', rfl, r1, r2⟩ := vals2 r
  obtain rfl := rc w' r2
  cases dv with
  | exc h1 h2 h3 =>
    cases (show u = Value.ref a from r1)
    obtain ⟨ox, od, J⟩ := exc_inst I.hok h1 h2
    exact PySem.W.kia_one (kitx_exc (ox := ox) (od := od) ty) I.kIn J e (fun z => nomatch z) fun tk => ⟨.bl b, H, I.tok _, rfl, q⟩
def vIsiE (K : PySem.W.Frag) (c : Value) (te : ED) : ED := fun δ Q => te δ fun d => ∃ a C gs b, d = .exc a C gs ∧ ExcTy K C ∧ PySem.W.kitOne K (.ref C) c = some b ∧ Q (.bl b)
theorem d_isiE_of {c : Value} {vc : V} (he : PD X e te) {ec : Expr} (hp : PE X (.Call (.Name "isinstance" p) [e, ec] [] pos) (tCB (fun xs H Q => ∃ x a C gs b, xs = [x, vc] ∧ Dv X.K H x (.exc a C gs) ∧ ExcTy X.K C ∧ PySem.W.kitOne X.K (.ref C) c = some b ∧ Q (.bl b) H) (tCons (oE X.K te) (tCons (tC vc) tNil)))) :
    PD X (.Call (.Name "isinstance" p) [e, ec] [] pos) (vIsiE X.K c te) :=
  ⟨hp.imp fun σ H Q ⟨δ, r, h⟩ => ⟨δ, r, he.mono _ _ _ (fun d ⟨a, C, gs, b, ed, ty, ek, k⟩ v H1 s1 dv => ⟨v, a, C, gs, b, rfl, ed ▸ dv, ty, ek, k _ H1 s1 (.bl _)⟩) h⟩, fun δ P P' g h => he.mono _ _ _ (fun d ⟨a, C, gs, b, ed, ty, ek, k⟩ => ⟨a, C, gs, b, ed, ty, ek, g _ k⟩) h⟩
theorem d_isiEC (K : PySem.W.Frag) (hK : X.K = K) {C : Addr} {x : Str} (he : PD X e te) (hg : Gl X "isinstance") (hm : X.mg "isinstance" = none) (hg2 : Gl X x) (hm2 : X.mg x = some (.ref C)) (hd : (x == ("__debug__" : Str)) = false := by decide)
    (hs : starEach [e, .Name x p2] X.env = (false, eval e X.env) :: starEach [.Name x p2] X.env := by rfl) : PD X (.Call (.Name "isinstance" p) [e, .Name x p2] [] pos) (vIsiE K (.ref C) te) := by
  subst hK
  exact d_isiE_of (vc := .ref C) he (pe_callB (call_isiE fun u z => z) hg hm boot_isinstance (pa_cons he.pe (pa_cons (pe_glob (v := .ref C) hg2 hm2 rfl hd) pa_nil) hs) (he := hs))
theorem d_isiET (K : PySem.W.Frag) (hK : X.K = K) {T : String} {x : Str} (he : PD X e te) (hg : Gl X "isinstance") (hm : X.mg "isinstance" = none) (hg2 : Gl X x) (hm2 : X.mg x = none) (hv2 : bootBuiltins x = some (.type T)) (hn : x ≠ "__name__" := by decide) (hd : (x == ("__debug__" : Str)) = false := by decide)
    (hs : starEach [e, .Name x p2] X.env = (false, eval e X.env) :: starEach [.Name x p2] X.env := by rfl) : PD X (.Call (.Name "isinstance" p) [e, .Name x p2] [] pos) (vIsiE K (.type T) te) := by
  subst hK
  exact d_isiE_of (vc := .ty T) he (pe_callB (call_isiE fun u z => z) hg hm boot_isinstance (pa_cons he.pe (pa_cons (pe_bltn (v := .ty T) hg2 hm2 hv2 rfl hn hd) pa_nil) hs) (he := hs))
theorem vals_blx {K : PySem.W.Frag} {H : Hp} : ∀ {vs : List V} {bs : List Bool}, Dvs K H vs (bs.map D.bl) → vs = bs.map V.bl
  | [], [], _ => rfl
  | _, _ :: _, .cons (.bl _) r => by rw [vals_blx r]; rfl
def vCountT (to : ED) (t : AD) : ED := fun δ Q => to δ fun d => ∃ bs : List Bool, d = .lst (bs.map D.bl) ∧ t δ fun ds => ds = [.bl true] ∧ Q (.int ((bs.countP id : Nat) : Int))
theorem d_countT (ho : PD X o to) (ha : PAd X (e :: es) t) (hbase : attributeBase o "count" X.env (eval o X.env) = eval o X.env := by rfl)
    (hfew : ((backTo cpos (starEach (e :: es) X.env)).all (fun x => !x.1) && (backToKw cpos (keywordEach [] X.env)).all (fun x => x.1.isSome) && decide ((e :: es).length + ([] : List Keyword).length + (if ([] : List Keyword).isEmpty then 0 else 1) < 30)) = true := by rfl)
    (hline : (apos.endLine == cpos.line) = true := by rfl) (hs : starEach (e :: es) X.env = (false, eval e X.env) :: starEach es X.env := by rfl) (hplain : (backTo cpos (starEach es X.env)).any (·.1) = false := by rfl) :
    PD X (.Call (.Attribute o "count" apos) (e :: es) [] cpos) (vCountT to t) := by
  refine ⟨(pe_bm PySem.F.plainAttrs_list PySem.F.slot_list_count PySem.F.type_list_count mt_countT ho.pe ha.pa hbase hfew hline hs hplain).imp fun σ H Q ⟨δ, r, h⟩ => ⟨δ, r, ho.mono _ _ _ (fun z ⟨bs, ez, q⟩ v H1 s1 dv => ?_) h⟩,
    fun δ P P' g h => ho.mono _ _ _ (fun z ⟨bs, ez, q⟩ => ⟨bs, ez, ha.mono _ _ _ (fun ds ⟨e1, k⟩ => ⟨e1, g _ k⟩) q⟩) h⟩
  subst ez
  cases dv with
  | lst h1 h2 =>
    rw [vals_blx h2] at h1
    refine ⟨.inl ⟨rfl, _, h1⟩, δ, r.same s1, ha.mono _ _ _ (fun ds ⟨e1, k⟩ vs H2 s2 dvs => ?_) q⟩
    subst e1
    cases dvs with
    | cons a b =>
      cases a
      cases b
      exact ⟨_, bs, rfl, rfl, s2.seq h1, k _ _ (s1.trans s2) (.int _)⟩
def vIndexT (to : ED) (t : AD) : ED := fun δ Q => to δ fun d => ∃ bs : List Bool, d = .lst (bs.map D.bl) ∧ t δ fun ds => ds = [.bl true] ∧ ∃ j : Nat, bs[j]? = some true ∧ (∀ m, m < j → bs[m]? = some false) ∧ j < 1000 ∧ Q (.int (j : Int))
theorem d_indexT (ho : PD X o to) (ha : PAd X (e :: es) t) (hbase : attributeBase o "index" X.env (eval o X.env) = eval o X.env := by rfl)
    (hfew : ((backTo cpos (starEach (e :: es) X.env)).all (fun x => !x.1) && (backToKw cpos (keywordEach [] X.env)).all (fun x => x.1.isSome) && decide ((e :: es).length + ([] : List Keyword).length + (if ([] : List Keyword).isEmpty then 0 else 1) < 30)) = true := by rfl)
    (hline : (apos.endLine == cpos.line) = true := by rfl) (hs : starEach (e :: es) X.env = (false, eval e X.env) :: starEach es X.env := by rfl) (hplain : (backTo cpos (starEach es X.env)).any (·.1) = false := by rfl) :
    PD X (.Call (.Attribute o "index" apos) (e :: es) [] cpos) (vIndexT to t) := by
  refine ⟨(pe_bm PySem.F.plainAttrs_list PySem.F.slot_list_index PySem.F.type_list_index mt_indexT ho.pe ha.pa hbase hfew hline hs hplain).imp fun σ H Q ⟨δ, r, h⟩ => ⟨δ, r, ho.mono _ _ _ (fun z ⟨bs, ez, q⟩ v H1 s1 dv => ?_) h⟩,
    fun δ P P' g h => ho.mono _ _ _ (fun z ⟨bs, ez, q⟩ => ⟨bs, ez, ha.mono _ _ _ (fun ds ⟨e1, j, k1, k2, k3, k⟩ => ⟨e1, j, k1, k2, k3, g _ k⟩) q⟩) h⟩
  subst ez
  cases dv with
  | lst h1 h2 =>
    rw [vals_blx h2] at h1
    refine ⟨.inl ⟨rfl, _, h1⟩, δ, r.same s1, ha.mono _ _ _ (fun ds ⟨e1, j, k1, k2, k3, k⟩ vs H2 s2 dvs => ?_) q⟩
    subst e1
    cases dvs with
    | cons a b =>
      cases a
      cases b
      exact ⟨_, bs, j, rfl, rfl, s2.seq h1, k1, k2, k3, k _ _ (s1.trans s2) (.int _)⟩
def sdMin : SpD := fun ds Q => ∃ i j : Int, ds = [.int i, .int j] ∧ Q (.int (if j < i then j else i))
theorem m_min : MonoS sdMin := fun ds P P' g ⟨i, j, e, q⟩ => ⟨i, j, e, g _ q⟩
theorem does_min {K : PySem.W.Frag} : DoesB K (fun xs H Q => ∃ i j, xs = [.int i, .int j] ∧ Q (.int (if j < i then j else i)) H) sdMin := by
  intro H vs ds Q dvs ⟨i, j, e, q⟩
  subst e
  cases dvs with
  | cons a r =>
    cases r with
    | cons b r =>
      cases r
      cases a
      cases b
      exact ⟨i, j, rfl, q _ H (Same.refl _) (.int _)⟩
theorem d_min2U (hh : HandOk X.A X.H₀) (hg : Gl X "min") (hm : X.mg "min" = none) (ha : PAd X (e :: es) t) (h1 : starEach (e :: es) X.env = (false, eval e X.env) :: starEach es X.env := by rfl) (h2 : (backTo pos (starEach es X.env)).any (·.1) = false := by rfl) :
    PD X (.Call (.Name "min" p) (e :: es) [] pos) (vB sdMin t) := d_cb (pe_callB (call_min2U hh) hg hm boot_min ha.pa (he := h1) (hpl := h2)) ha.mono does_min m_min
end
end DC

set_option maxHeartbeats 1000000
namespace L2
open PySem PySem.Spec PyProof.Rows
open Builtin Builtin.ObjectAttr
def excOver : List Value → Bool
  | .ref _ :: r => excOver r
  | [.type a, .type b, .type c, .type d] => a == "ValueError" && b == "Exception" && c == "BaseException" && d == "object"
  | _ => false
theorem over_eq : ∀ {l : List Value}, excOver l = true → ∃ rs : List Addr, l = rs.map Value.ref ++ [.type "ValueError", .type "Exception", .type "BaseException", .type "object"]
  | .ref a :: r, e => by
    obtain ⟨rs, h⟩ := over_eq (l := r) (by unfold excOver at e; exact e)
    exact ⟨a :: rs, by rw [h]; rfl⟩
  | [.type a, .type b, .type c, .type d], e => by
    unfold excOver at e
    simp only [Bool.and_eq_true, beq_iff_eq] at e
    obtain ⟨⟨⟨rfl, rfl⟩, rfl⟩, rfl⟩ := e
    exact ⟨[], rfl⟩
theorem refuse_exc (self : Value) {l : List Value} (e : excOver l = true) : refuseLoop self "__setattr__" l = pure () := by
  obtain ⟨rs, rfl⟩ := over_eq e
  induction rs with
  | nil => exact PySem.F.store_ValueError.passes self
  | cons a r ih => rw [List.map_cons, List.cons_append, refuseLoop_ref]; exact ih (by unfold excOver at e; exact e)
theorem over_has {l : List Value} (e : excOver l = true) : l.contains (.type "object") = true := by
  obtain ⟨rs, rfl⟩ := over_eq e
  simp
structure ExcSet (K : PySem.W.Frag) (C : Addr) : Prop where
  sa : PySem.W.findIn K (.ref C) "__setattr__" = some (some (.builtin "object.__setattr__"))
  ov : ((PySem.W.clsIn K C).any fun cd => excOver cd.mro) = true
  hd : PySem.W.hasDictIn K C = true
section
variable {prog : Program} {w : World} {A : Around} {E : Value → Shared → Prop} {s : Shared} {K : PySem.W.Frag} {x C : Addr} {R : Result → Shared → Prop} {name : Str} {v : Value} {o : Obj}
theorem osa_exc {ox : Obj} {od : Option Obj} {tk : Tok} (X : K.In s.heap) (I : PySem.W.InstAt s.heap x ox C od) (g : ExcSet K C) (na : PySem.W.findIn K (.ref C) name = some none)
    (h : wpAny (model prog w) A.in1 (storeInOwnDict (.ref x) (.ref C) (.str name tk) name v false) (fun fin s' => match fin with | .done f => R (.ok f) s' | .again c' => c'.quiet = true ∧ codeAny (model prog w) A c' R s') (fun e s' => R (.error e) s') s) :
    codeAny (model prog w) A (.call (.builtin "object.__setattr__") ⟨[.ref x, .str name tk, v], []⟩) R s := by
  have SF := PySem.F.store_object
  obtain ⟨cd, hc, ho⟩ := PySem.W.any_some g.ov
  have ne : cd.mro.isEmpty = false := by
    obtain ⟨rs, z⟩ := over_eq ho
    rw [z]; cases rs <;> rfl
  have sub : PySem.W.Looks (model prog w) s.heap (isInstance (.ref x) (.type "object")) true := I.type.andThen (PySem.W.looks_mroIn X (by unfold PySem.W.mroIn; rw [hc, Option.bind_some, if_neg (by rw [ne]; decide), over_has ho]))
  refine codeAny_call_builtin SF.slot.plain SF.entry (@PySem.W.check_slot (model prog w) _ _ s "object.__setattr__" "object" "__setattr__" (.ref x) [.str name tk, v] [] _ SF.kind SF.split sub (SF.args (.ref x) (.str name tk) v) ?_)
  have hm : PySem.W.Looks (model prog w) s.heap (mroOf (.ref C)) cd.mro := (PySem.W.looks_clsIn X hc).andThen .now
  rw [PySem.W.osa_eq, refuse_eq]
  refine wpAny_bind (wpAny_bind (I.type.here (wpAny_bind (hm.here ?_))))
  rw [refuse_exc _ ho]
  refine wpAny_pure (wpAny_bind (I.type.here (wpAny_bind ((PySem.W.looks_findIn X na).here (wpAny_bind (wpAny_pure ?_))))))
  exact h
theorem exc_set0 {vs : Array Value} {Q : Unit → Shared → Prop} (X : K.In s.heap) (g : ExcSet K C) (na : PySem.W.findIn K (.ref C) name = some none) (he : s.heap.get? x = some o) (hc : o.cls = .ref C) (hn : o.dict = none) (hd : o.data = .fields vs)
    (h : ∀ h' tk, h'.get? x = some { o with dict := some s.heap.objs.size } → h'.Ns1 s.heap.objs.size (fun y => if y = name then some v else none) → (∀ b ob, b ≠ x → s.heap.get? b = some ob → h'.get? b = some ob) → Q () { s with heap := h', toks := tk }) : wpAny (model prog w) A (setAttr (.ref x) name v) Q E s := by
  have J : PySem.W.InstAt s.heap x o C none := ⟨he, hc, by unfold PySem.W.notCls; rw [hd], by rw [hn]; exact True.intro⟩
  refine PySem.W.set_plain X J g.sa (osa_exc (s := { s with toks := s.toks + 1 }) X J g na ?_)
  obtain ⟨cd, hcd, hd'⟩ := PySem.W.any_some g.hd
  obtain ⟨oc, odi, oda, osl⟩ := o
  cases hc; cases hn; cases hd
  refine wpAny_bind (wpAny_pure (wpAny_bind (wpAny_bind (wpAny_loadPart he (wpAny_bind (PySem.W.Looks.here (s := { s with toks := s.toks + 1 }) (PySem.W.looks_clsIn X hcd) ?_))))))
  rw [hd']
  show wpAny _ _ (do let d ← alloc { cls := .type "dict", data := .dict #[] }; update x (fun o => { o with dict := some d }); dictMade (.ref C) x d) _ _ _
  have xs : x ≠ s.heap.objs.size := Nat.ne_of_lt (Heap.lt_size he)
  have he1 := Heap.get?_push_of_some (h := s.heap) { cls := .type "dict", data := .dict #[] } he
  refine wpAny_bind (wpAny_alloc' (wpAny_bind (wpAny_update' he1 (wpAny_pure ?_))))
  generalize hG : (s.heap.push { cls := .type "dict", data := .dict #[] }).update x (fun o => { o with dict := some s.heap.objs.size }) = G
  have gx : G.get? x = some ⟨.ref C, some s.heap.objs.size, .fields vs, osl⟩ := by rw [← hG]; exact Heap.get?_update_self _ he1 rfl
  have gd : G.get? s.heap.objs.size = some { cls := .type "dict", data := .dict #[] } := by rw [← hG]; exact (Heap.get?_update_ne _ _ _ _ (Ne.symm xs)).trans (Heap.get?_push_at rfl rfl)
  have gk : ∀ b ob, b ≠ x → s.heap.get? b = some ob → G.get? b = some ob := fun b ob nb q => by rw [← hG]; exact (Heap.get?_update_ne _ _ _ _ nb).trans (Heap.get?_push_of_some _ q)
  have gn : G.Ns s.heap.objs.size (fun _ => none) := ⟨_, #[], _, gd, rfl, fun e he => absurd he (by simp), fun _ => rfl⟩
  show wpAny _ _ (storeInDict s.heap.objs.size (.str name s.toks) name v) _ _ _
  unfold storeInDict newKeyGuard
  refine wpAny_bind (wpAny_pure (wpAny_bind (wpAny_nsSet1 (Heap.Ns1.of_empty gn) fun h' hn' hs => ?_)))
  obtain ⟨oD, esD, epD, hoD, hdD, hcD⟩ := hn'.count (Within.cons name v Within.nil)
  refine wpAny_bind (wpAny_lookBehind hoD (by rw [hdD]; exact pastItsLine_dict (Nat.le_trans hcD (by rw [List.length_cons, List.length_nil, sizeLine_eq]; omega))) ?_)
  refine wpAny_pure (h h' _ ((hs.2 x xs).trans gx) hn' fun b ob nb q => (hs.2 b (Nat.ne_of_lt (Heap.lt_size q))).trans (gk b ob nb q))
theorem exc_set1 {vs : Array Value} {dx : Addr} {ns : List Str} {mA : Str → Option Value} {Q : Unit → Shared → Prop} (X : K.In s.heap) (g : ExcSet K C) (na : PySem.W.findIn K (.ref C) name = some none) (he : s.heap.get? x = some o) (hc : o.cls = .ref C) (hdx : o.dict = some dx) (hd : o.data = .fields vs)
    (hns : s.heap.Ns1 dx mA) (hw : PySem.Within mA ns) (hsz : ns.length < 1000) (h : ∀ h' tk, h'.Ns1 dx (fun y => if y = name then some v else mA y) → Heap.SameBut dx s.heap h' → Q () { s with heap := h', toks := tk }) : wpAny (model prog w) A (setAttr (.ref x) name v) Q E s := by
  obtain ⟨od, ho, _⟩ := lookIn_ns hns
  have J : PySem.W.InstAt s.heap x o C (some od) := ⟨he, hc, by unfold PySem.W.notCls; rw [hd], by rw [hdx]; exact ho⟩
  refine PySem.W.set_plain X J g.sa (osa_exc (s := { s with toks := s.toks + 1 }) X J g na ?_)
  obtain ⟨cd, hcd, hd'⟩ := PySem.W.any_some g.hd
  obtain ⟨oc, odi, oda, osl⟩ := o
  cases hc; cases hdx; cases hd
  refine wpAny_bind (wpAny_pure (wpAny_bind (wpAny_bind (wpAny_loadPart he (wpAny_bind (PySem.W.Looks.here (s := { s with toks := s.toks + 1 }) (PySem.W.looks_clsIn X hcd) ?_))))))
  rw [hd']
  refine wpAny_pure (a := some dx) (wpAny_bind (wpAny_pure (wpAny_bind ?_)))
  refine wpAny_nsSet1 (s := { s with toks := s.toks + 1 }) hns fun h' hn' hs => ?_
  obtain ⟨oD, esD, epD, hoD, hdD, hcD⟩ := hn'.count (Within.cons name v hw)
  refine wpAny_bind (wpAny_lookBehind hoD (by rw [hdD]; exact pastItsLine_dict (Nat.le_trans hcD (by rw [List.length_cons, sizeLine_eq]; omega))) ?_)
  exact wpAny_pure (h h' _ hn' hs)
theorem exc_get {vs : Array Value} {dx : Addr} {mA : Str → Option Value} {b : Bool} {Q : Value → Shared → Prop} (X : K.In s.heap) (hg : ExcGet K C) (hh : PySem.W.hasDictIn K C = true) (na : PySem.W.findIn K (.ref C) name = some none) (he : s.heap.get? x = some o) (hc : o.cls = .ref C) (hdx : o.dict = some dx) (hd : o.data = .fields vs)
    (hns : s.heap.Ns1 dx mA) (hv : mA name = some v) (hv' : PySem.W.handedIn v = true) (h : Q v { s with toks := s.toks + 1 }) : wpAny (model prog w) A (getAttr (.ref x) name b) Q E s := by
  obtain ⟨od, ho, hl⟩ := lookIn_ns hns
  have J : PySem.W.InstAt s.heap x o C (some od) := ⟨he, hc, by unfold PySem.W.notCls; rw [hd], by rw [hdx]; exact ho⟩
  exact get_exc X J hg (PySem.W.findObj_own hh na rfl (by rw [hl, hv])) hv' h
end
end L2

set_option maxHeartbeats 1000000
namespace L2
open PySem PySem.Spec PyProof.Rows
open DC (ExcO XdO)
def ExcP (p : Array Value → Prop) (a C : Addr) (dx : Option Addr) : HO := .ext fun h => ∃ oe vs, h.get? a = some oe ∧ oe.cls = .ref C ∧ oe.dict = dx ∧ oe.data = .fields vs ∧ p vs
def pOld : Array Value → Prop := fun vs => vs[2]? = some .none
section
variable {X : Cx} {pins : List (Addr × Obj)} {σ : St} {H : Hp} {s : Shared} {a C d : Addr} {f : Str} {v : V} {u : Value} {Q : Unit → Shared → Prop} {E : Value → Shared → Prop} {A : Around} {fs : List (Str × V)} {p : Array Value → Prop}
theorem ObjOk.exc {P : Program} {w : World} {H' : Hp} {h : Heap} {dx : Option Addr} {oe : Obj} {vs : Array Value} (he : h.get? a = some oe) (hc : oe.cls = .ref C) (hdx : oe.dict = dx) (hd : oe.data = .fields vs) (hy : p vs) : ObjOk P w H' h a (ExcP p a C dx) := by
  unfold ExcP
  exact ⟨⟨oe, vs, he, hc, hdx, hd, hy⟩, ⟨oe, he⟩, fun g1 g2 ⟨oe', vs', e1, rr⟩ kk => ⟨oe', vs', kk _ e1, rr⟩⟩
theorem ObjOk.xdo {P : Program} {w : World} {H' : Hp} {h : Heap} {mA : Str → Option Value} (hn : h.Ns1 d mA) (hr : ∀ f, RelO (fs.lookup f) (mA f)) (hw : PySem.Within mA (fs.map (·.1))) : ObjOk P w H' h d (XdO d fs) := by
  unfold XdO
  refine ⟨⟨mA, hn, hr, hw⟩, let ⟨o, _, _, e, _⟩ := hn; ⟨o, e⟩, fun g1 g2 ⟨mB, hB, r1, r2⟩ kk => ⟨mB, ?_, r1, r2⟩⟩
  exact hB.at fun o q => kk o q
theorem xset0 (I : Inv X pins σ H s) (e : H a = some (ExcP p a C none)) (g : ExcSet X.K C) (na : PySem.W.findIn X.K (.ref C) f = some none) (ru : RelV v u)
    (h : ∀ d s', H d = none → d ≠ a → Inv X pins σ (upd (upd H a (ExcP p a C (some d))) d (XdO d [(f, v)])) s' → Q () s') : wpAny (model X.prog X.w) A (setAttr (.ref a) f u) Q E s := by
  obtain ⟨⟨oe, vs, he, hc, hdx, hd, hy⟩, _⟩ := (show ObjOk X.prog X.w H s.heap a (ExcP p a C none) from I.hok a _ e)
  refine exc_set0 I.kIn g na he hc hdx hd fun h' tk gx gn gk => ?_
  have hne : s.heap.objs.size ≠ a := Nat.ne_of_gt (Heap.lt_size he)
  have hn : H s.heap.objs.size = none := I.hok.fresh (Nat.le_refl _)
  have I1 : Inv X pins σ (upd H a (ExcP p a C (some s.heap.objs.size))) { s with heap := h', toks := tk } :=
    I.write (x := a) (e := a) (by rw [e]; exact True.intro) (.inl rfl) (fun b ob nb q => gk b ob nb q) ⟨_, gx⟩ (ObjOk.exc gx hc rfl hd hy)
  refine h s.heap.objs.size _ hn hne (I1.track (by rw [upd_ne hne]; exact hn) ?_ ?_ ?_ ?_ (ObjOk.xdo gn (fun y => ?_) fun y hy' => ?_))
  · cases q : X.s₀.heap.get? s.heap.objs.size with
    | none => rfl
    | some o => exact absurd (Heap.lt_size q) (Nat.not_lt.mpr I.sz)
  · exact Nat.ne_of_gt I.lt
  · intro x c q z
    obtain ⟨v', k⟩ := I.cell x c q
    exact absurd k.lt (by rw [z]; exact Nat.lt_irrefl _)
  · intro p hp z
    exact absurd (Heap.lt_size (I.pin p hp).1) (by rw [z]; exact Nat.lt_irrefl _)
  · show RelO (List.lookup y [(f, v)]) (if y = f then some u else none)
    by_cases q : y = f
    · subst q; rw [if_pos rfl]; simp [RelO]; exact ru
    · rw [if_neg q]
      rw [List.lookup_cons, beq_eq_false_iff_ne.mpr q]
      exact True.intro
  · by_cases q : y = f
    · subst q; simp
    · exact absurd (show (if y = f then some u else none) = none by rw [if_neg q]) hy'
theorem xset1 (I : Inv X pins σ H s) (e : H a = some (ExcP p a C (some d))) (ed : H d = some (XdO d fs)) (g : ExcSet X.K C) (na : PySem.W.findIn X.K (.ref C) f = some none) (hl : fs.length < 1000) (ru : RelV v u)
    (h : ∀ s', Inv X pins σ (upd H d (XdO d (putF f v fs))) s' → Q () s') : wpAny (model X.prog X.w) A (setAttr (.ref a) f u) Q E s := by
  obtain ⟨⟨oe, vs, he, hc, hdx, hd, hy⟩, _⟩ := (show ObjOk X.prog X.w H s.heap a (ExcP p a C (some d)) from I.hok a _ e)
  obtain ⟨⟨mA, hn, hr, hw⟩, _⟩ := (show ObjOk X.prog X.w H s.heap d (XdO d fs) from I.hok d _ ed)
  refine exc_set1 I.kIn g na he hc hdx hd hn hw (by rw [List.length_map]; exact hl) fun h' tk gn sb => h _ ?_
  refine I.write (x := d) (e := d) (by rw [ed]; exact True.intro) (.inl rfl) (fun b ob nb q => (sb.2 b nb).trans q) (let ⟨o, _, _, e', _⟩ := gn; ⟨o, e'⟩) (ObjOk.xdo gn (fun y => ?_) fun y hy' => ?_)
  · show RelO ((putF f v fs).lookup y) (if y = f then some u else mA y)
    rw [lookup_putF]
    by_cases q : y = f
    · rw [if_pos q, if_pos q]; exact ru
    · rw [if_neg q, if_neg q]; exact hr y
  · by_cases q : y = f
    · rw [q]; exact (keys_putF f v fs).1
    · refine (keys_putF f v fs).2 y (hw y fun z => hy' ?_)
      show (if y = f then some u else mA y) = none
      rw [if_neg q]; exact z
end
end L2

set_option maxHeartbeats 1000000
namespace L2
open PySem PySem.Spec PyProof.Rows
open DC (ExcO XdO)
abbrev bmV : List Value := [.type "ValueError", .type "Exception", .type "BaseException", .type "object"]
def excOwnIn (K : PySem.W.Frag) (C f : Addr) : Bool := match K.lookup C with
  | some ⟨.type "type", _, .cls cd, sl⟩ => (match cd.mro, sl.toList with
    | .ref D :: bm, [_, _, _, _, some (.builtin n), _] => (D == C) && ((n == "ValueError.__new__") && ((!cd.hasDel) && (PySem.W.tailIn K bmV bm && (PySem.W.nsOkIn K cd.ns && (PySem.W.nsIn K cd.ns "__init__" == some (some (.ref f)))))))
    | _, _ => false)
  | _ => false
theorem nsome_of {K : PySem.W.Frag} {h : Heap} {N : Addr} {m : Str → Option Value} {n : Str} {v : Value} (X : K.In h) (G : h.Ns N m) (e : PySem.W.nsIn K N n = some (some v)) : m n = some v := by
  obtain ⟨o, es, ep, ho, hd, _, hf⟩ := G
  unfold PySem.W.nsIn at e
  split at e
  · rename_i q
    have z := X _ _ q
    rw [ho] at z
    cases z
    cases hd
    split at e
    · rename_i en he
      cases e
      rw [← hf]; unfold nsFind findBy
      rw [← Array.find?_toList, he]; rfl
    · split at e <;> cases e
  · cases e
theorem exc_open2 {K : PySem.W.Frag} {h : Heap} {C f : Addr} (X : K.In h) (q : excOwnIn K C f = true) :
    ∃ bm N nm qn bs hdct sn sub ab col dd k0 k1 k2 k3 k5 mN, h.get? C = some (excClassObj nm qn C N bs bm hdct sn sub ab col dd k0 k1 k2 k3 k5 "ValueError.__new__") ∧ h.Ns N mN ∧ mN "__init__" = some (.ref f) ∧ OwnTail h bmV bm := by
  unfold excOwnIn at q
  split at q
  · rename_i dd cd sl ho
    split at q
    · rename_i C2 bm k0 k1 k2 k3 n k5 hm hs
      simp only [Bool.and_eq_true, beq_iff_eq, Bool.not_eq_true'] at q
      obtain ⟨e1, e2, hdel, ht, hok, hni⟩ := q
      subst e1 e2
      obtain ⟨nm, bs, mro, ns, qn, hd, sn, sub, ab, col, del⟩ := cd
      have hm' : mro = .ref C2 :: bm := hm
      have hdel' : del = false := hdel
      subst hm' hdel'
      obtain ⟨l⟩ := sl
      have hl : l = [k0, k1, k2, k3, some (.builtin "ValueError.__new__"), k5] := hs
      subst hl
      have G : h.Ns ns (h.nsMap ns) := .of_isNs (PySem.W.isNs_of_in X hok)
      exact ⟨bm, ns, nm, qn, bs, hd, sn, sub, ab, col, dd, k0, k1, k2, k3, k5, _, X _ _ ho, G, nsome_of X G hni, PySem.W.tail_of_in X ht⟩
    · cases q
  · cases q
section
variable {prog : Program} {w : World} {A : Around} {E : Value → Shared → Prop} {h : Heap} {g : Array GenState} {d : Drawn} {t : Nat} {os : OsState}
variable {nm q : Str} {C N : Addr} {bs bm : List Value} {hdct : Bool} {sn : List Str} {sub : List Value} {ab : Bool} {col : Option Bool} {dd : Option Addr} {k0 k1 k2 k3 k5 : Option Value}
theorem exc_type_call {mN : Str → Option Value} {rest : List Value} {fI : Addr} {oI : Obj} {Q : PySem.Fin → Shared → Prop} (T : OwnTail h bmV bm)
    (hC : h.get? C = some (excClassObj nm q C N bs bm hdct sn sub ab col dd k0 k1 k2 k3 k5 "ValueError.__new__")) (hn : h.Ns N mN) (hi : mN "__init__" = some (.ref fI)) (hfI : h.get? fI = some oI) (hfc : oI.cls = .type "function") (hrest : rest.length ≤ sizeLine)
    (hq : ∀ h' e, Heap.MadeExcOf h h' e (.ref C) rest → wpAny (model prog w) A (call (.ref fI) (.ref e :: rest)) (fun r s' => r = .none ∧ Q (.done (.ret (.ref e))) s') E ⟨h', g, d, t, os⟩) :
    wpAny (model prog w) A (Builtin.«type.__call__» ⟨.ref C :: rest, []⟩) Q E ⟨h, g, d, t, os⟩ := by
  have F := PySem.F.excBase_ValueError
  repeat (first | with_reducible refine wpAny_loadPart_at hC ?_ | with_reducible refine wpAny_madeBy_exc hC ?_ | wp_step)
  refine codeAny_call_builtin_code (Code.quiet_builtin _ F.quiet) (wpAny_check_new_subT F T hC (codeAny_exc_new_subT F T hC ?_ hrest))
  show wpAny _ _ _ _ _ _
  generalize hO : ({ cls := .ref C, data := .fields #[.ref h.objs.size, .none, .none, .none, .bool false, .none] } : Obj) = O
  generalize hT : ({ cls := .type "tuple", data := .seq rest.toArray } : Obj) = TT
  have kk : ∀ b o, h.get? b = some o → ((h.push TT).push O).get? b = some o := fun b o e => Heap.get?_push_of_some _ (Heap.get?_push_of_some _ e)
  have C1 := kk _ _ hC
  have f1 := kk _ _ hfI
  have n1 : ((h.push TT).push O).Ns N mN := hn.keeps kk
  have T1 : OwnTail ((h.push TT).push O) bmV bm := T.keeps kk
  have g1 : ((h.push TT).push O).get? (h.objs.size + 1) = some O := by
    have z := Heap.get?_push_size (h.push TT) (o := O) (by rw [← hO]; rfl)
    rwa [Heap.size_push] at z
  have oc : O.cls = .ref C := by rw [← hO]
  have self : (Value.ref C :: bm).contains (.ref C) = true := by simp
  unfold isInstance
  repeat (first | (with_reducible refine wpAny_loadPart_at g1 ?_; rw [oc]) | (with_reducible refine wpAny_isSubtype_exc C1 ?_; rw [self]) | wp_step)
  show wpAny _ _ (typeLookup (.ref C) _) _ _ _
  refine wpAny_typeLookup_tail C1 n1 T1 F.mroIs F.init.lookup ?_
  rw [hi]
  refine wpAny_holding (wpAny_bind ?_)
  unfold bindSpecial
  refine wpAny_bind (wpAny_typeOf (T := "function") ⟨_, f1, hfc⟩ ?_)
  rw [if_pos (by decide)]
  refine wpAny_pure (wpAny_bind (wpAny_mono (hq _ (h.objs.size + 1) ⟨kk, Heap.get?_none_of_le (Nat.le_succ _), h.objs.size, by rw [g1, ← hO], Heap.get?_none_of_le (Nat.le_refl _), by rw [← hT]; exact Heap.get?_push_of_some _ (Heap.get?_push_at rfl rfl)⟩) (fun r s' hr => ?_) fun _ _ x => x))
  obtain ⟨rfl, hQ⟩ := hr
  wp_walk
  exact hQ
theorem exc_call {mN : Str → Option Value} {rest : List Value} {fI : Addr} {oI : Obj} {Q : Value → Shared → Prop} (T : OwnTail h bmV bm)
    (hC : h.get? C = some (excClassObj nm q C N bs bm hdct sn sub ab col dd k0 k1 k2 k3 k5 "ValueError.__new__")) (hn : h.Ns N mN) (hi : mN "__init__" = some (.ref fI)) (hfI : h.get? fI = some oI) (hfc : oI.cls = .type "function") (hrest : rest.length ≤ sizeLine)
    (hq : ∀ h' e, Heap.MadeExcOf h h' e (.ref C) rest → wpAny (model prog w) (A.under (.builtin "type.__call__" ⟨.ref C :: rest, []⟩)) (call (.ref fI) (.ref e :: rest)) (fun r s' => r = .none ∧ Q (.ref e) s') E ⟨h', g, d, t, os⟩) :
    wpAny (model prog w) A (call (.ref C) rest) Q E ⟨h, g, d, t, os⟩ := by
  have f1 := tc_lookup; have f2 := tc_bind (.ref C)
  have hT : (⟨h, g, d, t, os⟩ : Shared).TypeIs (.ref C) "type" := ⟨_, hC, rfl⟩
  refine wpAny_call (codeAny_of_tree ?_); show wpAny _ _ (callAny (.ref C) _) _ _ _
  repeat (any_goals (first | assumption | with_reducible refine wpAny_loadPart_at hC ?_ | wp_step))
  exact ⟨rfl, codeAny_call_builtin_at (Code.quiet_builtin _ (by decide +kernel)) entry_typeCall (wpAny_check_type_call_sub hC (exc_type_call T hC hn hi hfI hfc hrest fun h' e hm => hq h' e hm))⟩
end
end L2

set_option maxHeartbeats 1000000
namespace DC
open PySem PySem.Spec PyProof.Rows L2
def tX (K : PySem.W.Frag) (j : Nat) (f : Str) : TS := fun D σ H => ∃ (pr : Array Value → Prop) (a C : Addr) (v : V), σ[0]? = some (some (.ref a)) ∧ σ[j]? = some (some v) ∧ ExcSet K C ∧ PySem.W.findIn K (.ref C) f = some none ∧
  ((H a = some (ExcP pr a C none) ∧ ∀ d, H d = none → d ≠ a → D.nx σ (upd (upd H a (ExcP pr a C (some d))) d (XdO d [(f, v)]))) ∨ ∃ d fs, H a = some (ExcP pr a C (some d)) ∧ H d = some (XdO d fs) ∧ fs.length < 1000 ∧ D.nx σ (upd H d (XdO d (putF f v fs))))
section
variable {X : Cx} {x p f : Str} {j : Nat} {pa pv pos pos' : Pos}
theorem ps_x (h0 : X.N[0]? = some x) (hv0 : Vis X.env.scope x) (hj : X.N[j]? = some p) (hvj : Vis X.env.scope p) (hs : swapsWith (.Name p pv) (some (.Attribute (.Name x pa) f pos')) pos.line X.env = pure false := by rfl) (hd : (x == ("__debug__" : Str)) = false := by decide) (hd' : (p == ("__debug__" : Str)) = false := by decide)
    (hcd : (x == ("__classdict__" : Str)) = false := by decide) (hcd' : (p == ("__classdict__" : Str)) = false := by decide) : PS X (.Assign [.Attribute (.Name x pa) f pos'] (.Name p pv) pos) (tX X.K j f) := by
  intro pins s σ H D I ⟨pr, a, C, v, s0, sj, g, na, h⟩
  refine plainObj_wpAny_Assign_Attribute (thn (pe_var hj hvj hd' hcd' pins s σ H (fun y H1 => y = v ∧ H1 = H) I ⟨v, sj, rfl, rfl⟩) fun u s1 ⟨y, H1, I1, ru, e1, e2⟩ => ?_) hs
  subst e1 e2
  refine thn (pe_var h0 hv0 hd hcd pins s1 σ H1 (fun y H2 => y = .ref a ∧ H2 = H1) I1 ⟨.ref a, s0, rfl, rfl⟩) fun ov s2 ⟨z, H2, I2, rz, e1, e2⟩ => ?_
  subst e1 e2
  cases (show ov = Value.ref a from rz)
  rcases h with ⟨e, q⟩ | ⟨d, fs, e, ed, hl, q⟩
  · exact xset0 I2 e g na ru fun d s3 hdn hda I3 => ⟨σ, _, I3, q d hdn hda⟩
  · exact xset1 I2 e ed g na hl ru fun s3 I3 => ⟨σ, _, I3, q⟩
end
def spE (C : Addr) (fl : List Str) : Sp := fun vs H Q _ => ∃ (pr : Array Value → Prop) (a : Addr) (vs' : List V), vs = .ref a :: vs' ∧ vs'.length = fl.length ∧ H a = some (ExcP pr a C none) ∧ ∀ d, H d = none → d ≠ a → Q .non (upd (upd H a (ExcP pr a C (some d))) d (XdO d (fl.zip vs')))
section
variable {P : Program} {w : World} {K : PySem.W.Frag} {mg : Str → Option Value} {base : Heap}
theorem okE {x qual : Str} {st : Stmt} {f C : Addr} {fd : FuncData} {N ps fl : List Str} {k : Nat} {t : TS} (F : FunV K x qual st f fd) (S : FnScope N ps (defScope st)) (len : fl.length + 1 = ps.length)
    (hb : ∀ (cdv : Value) (A : Around) (outer : List Env) (s : Shared) (H : Hp) (E : XK), PSs (Bx P w K mg base N qual st f cdv A outer s H E) (defBody st) t)
    (hr : ∀ pr a vs' H (Q : VK), vs'.length = fl.length → H a = some (ExcP pr a C none) → (∀ d, H d = none → d ≠ a → Q .non (upd (upd H a (ExcP pr a C (some d))) d (XdO d (fl.zip vs')))) → t { nx := fun _ H' => Q .non H', rt := Q } (L2.start N (.ref a :: vs')) H) : FnOk P w K mg base CX0 (k + 1) f fd ps (spE C fl) := by
  refine F.ok S (fun vs H Q E ⟨pr, a, vs', e, hl, _⟩ => by rw [e, List.length_cons, hl]; exact len) (fun cdv A outer s H vs Q E hroom ⟨pr, a, vs', e, hl, ha, h⟩ => ?_)
  subst e
  exact ⟨t, hb cdv A outer s H E, hr pr a vs' H Q hl ha h⟩
end
structure MkE (P : Program) (w : World) (K : PySem.W.Frag) (mg : Str → Option Value) (base : Heap) (j : Nat) (x : Str) (C : Addr) (fl : List Str) : Prop where
  ex : ∃ f fd ps oI, excOwnIn K C f = true ∧ K.lookup f = some oI ∧ oI.cls = .type "function" ∧ FnOk P w K mg base CX0 j f fd ps (spE C fl) ∧ mg x = some (.ref C) ∧ PySem.W.keepIn K (.ref C) = true ∧ Binds K fd ps []
  few : fl.length < 100
section
variable {X : Cx} {e : Expr} {es : List Expr} {t : AD} {pos p : Pos} {x : Str} {j k : Nat} {C : Addr} {fl : List Str}
theorem run_mkP {pr : Array Value → Prop} {pins : List (Addr × Obj)} {σ : L2.St} {H : Hp} {s : Shared} {Q : VK} {us : List Value} {vs : List V} (c : MkE X.prog X.w X.K X.mg X.base j x C fl) (hex : X.ex = []) (hr : Room (j + 1) X.A) (I : Inv X pins σ H s) (r : Vals vs us) (hl : vs.length = fl.length) (h0p : ∀ t : Addr, pr #[.ref t, .none, .none, .none, .bool false, .none])
    (h : ∀ a d H', Same H H' → H a = none → X.s₀.heap.get? a = none → (∀ p ∈ X.pn, p.1 ≠ a) → d ≠ a → H' a = some (ExcP pr a C (some d)) → H' d = some (XdO d (fl.zip vs)) → Q (.ref a) H') : wpAny (model X.prog X.w) X.A (call (.ref C) us) (EP X pins σ Q) X.xe s := by
  obtain ⟨f, fd, ps, oI, q, lk, oc, F, _, _, hb⟩ := c.ex
  obtain ⟨bm, N, nm, qn, bs, hdct, sn, sub, ab, col, dd, k0, k1, k2, k3, k5, mN, hC, hN, hni, T⟩ := exc_open2 I.kIn q
  have few := c.few
  have hlu : us.length ≤ sizeLine := by rw [← r.length, hl, sizeLine_eq]; omega
  obtain ⟨hh, gg, dr, tk, os⟩ := s
  refine exc_call T hC hN hni (I.kIn _ _ lk) oc hlu fun h' ea me => ?_
  obtain ⟨tt, ho, _, _⟩ := me.there
  have I1 := I.kept (t' := tk) (h' := h') me.keeps
  have hn : H ea = none := by
    cases q2 : H ea with
    | none => rfl
    | some u =>
      obtain ⟨o, z⟩ := (I.hok ea u q2).there
      rw [me.new] at z
      cases z
  have notin : ∀ b o, hh.get? b = some o → b ≠ ea := fun b o z y => by rw [y, me.new] at z; cases z
  have h0 : X.s₀.heap.get? ea = none := by
    cases q2 : X.s₀.heap.get? ea with
    | none => rfl
    | some o =>
      obtain ⟨o', z⟩ := I.base.there ea o q2 (by rw [hex]; simp)
      exact absurd rfl (notin ea o' z)
  have hlo : ea ≠ X.env.locals := fun z => by
    obtain ⟨m, ⟨o, _, _, go, _⟩, _⟩ := I.loc
    exact notin _ o go z.symm
  have hce : ∀ x c, X.env.cells.lookup x = some c → c ≠ ea := fun x c e => by
    obtain ⟨v, o, go, _⟩ := I.cell x c e
    exact notin c o go
  have I2 := I1.track hn h0 hlo hce (fun p hp => notin _ _ (I.pin p hp).1) (ObjOk.exc (p := pr) (C := C) (dx := none) ho rfl rfl rfl (h0p _))
  have r2 : Vals (V.ref ea :: vs) (Value.ref ea :: us) := .cons rfl r
  let Q' : VK := fun v H' => v = .non ∧ ∃ d, upd H ea (ExcP pr ea C none) d = none ∧ d ≠ ea ∧ H' = upd (upd (upd H ea (ExcP pr ea C none)) ea (ExcP pr ea C (some d))) d (XdO d (fl.zip vs))
  have hq : spE C fl (.ref ea :: vs) (upd H ea (ExcP pr ea C none)) Q' E0 := ⟨pr, ea, vs, rfl, hl, upd_same, fun d h1 h2 => ⟨rfl, d, h1, h2, rfl⟩⟩
  have hlen : (Value.ref ea :: us).length = ps.length := by rw [← r2.length]; exact F.len _ _ _ _ hq
  have hb' := hb ⟨h', gg, dr, tk, os⟩ (.ref ea :: us) I2.kIn (by rw [List.append_nil]; exact hlen)
  rw [List.append_nil] at hb'
  refine wpAny_call (codeAny_mono (F.run _ X.stack _ _ ⟨.ref ea :: us, []⟩ (.ref ea :: us) _ Q' E0 (hr.make C us []) (I2.env0.make C us []) hb' r2 hq) fun r s' z => ?_)
  cases r with
  | error e => exact False.elim z
  | ok fl' =>
    cases fl' with
    | ret u =>
      obtain ⟨v, H', I3, rv, ev, d, h1, h2, eH⟩ := I2.after z
      subst ev
      have hd : H d = none := by rw [upd_ne h2] at h1; exact h1
      refine ⟨rv, ⟨.ref ea, H', I3, rfl, h ea d H' (fun b o q => ?_) hn h0 (fun p hp => notin _ _ (I.pin p (List.mem_append_left _ hp)).1) h2 ?_ ?_⟩⟩
      · rw [eH, upd_ne (ne_of_none q hd), upd_ne (ne_of_none q hn), upd_ne (ne_of_none q hn)]
        exact q
      · rw [eH, upd_ne (Ne.symm h2), upd_same]
      · rw [eH, upd_same]
    | next => exact False.elim z
    | brk => exact False.elim z
    | cont => exact False.elim z
theorem run_mkE {pins : List (Addr × Obj)} {σ : L2.St} {H : Hp} {s : Shared} {Q : VK} {us : List Value} {vs : List V} (c : MkE X.prog X.w X.K X.mg X.base j x C fl) (hex : X.ex = []) (hr : Room (j + 1) X.A) (I : Inv X pins σ H s) (r : Vals vs us) (hl : vs.length = fl.length)
    (h : ∀ a d H', Same H H' → H' a = some (ExcO a C (some d)) → H' d = some (XdO d (fl.zip vs)) → Q (.ref a) H') : wpAny (model X.prog X.w) X.A (call (.ref C) us) (EP X pins σ Q) X.xe s :=
  run_mkP (pr := pOld) c hex hr I r hl (fun _ => rfl) fun a d H' s' _ _ _ _ e1 e2 => h a d H' s' e1 e2
theorem dvf_zip {K : PySem.W.Frag} {H : Hp} : ∀ {fl : List Str} {vs : List V} {ds : List D}, Dvs K H vs ds → Dvf K H (fl.zip vs) (fl.zip ds)
  | [], _, _, _ => .nil
  | _ :: _, _, _, .nil => .nil
  | _ :: _, _, _, .cons h r => .cons h (dvf_zip r)
def vMakeE (C : Addr) (fl : List Str) (t : AD) : ED := fun δ Q => t δ fun ds => ds.length = fl.length ∧ ∀ a, Q (.exc a C (fl.zip ds))
theorem d_mkE (c : MkE X.prog X.w X.K X.mg X.base j x C fl) (hex : X.ex = []) (hr : Room k X.A) (hj : j + 1 ≤ k) (hg : Gl X x) (ha : PAd X (e :: es) t) (hdb : (x == ("__debug__" : Str)) = false := by decide)
    (h1 : starEach (e :: es) X.env = (false, eval e X.env) :: starEach es X.env := by rfl) (h2 : (backTo pos (starEach es X.env)).any (·.1) = false := by rfl) : PD X (.Call (.Name x p) (e :: es) [] pos) (vMakeE C fl t) := by
  obtain ⟨_, _, _, _, _, _, _, _, hm, kp, _⟩ := c.ex
  refine ⟨fun pins s σ H Q I ⟨δ, r, h⟩ => ?_, fun δ P P' g h => ha.mono _ _ _ (fun ds ⟨q0, q⟩ => ⟨q0, fun a => g _ (q a)⟩) h⟩
  refine wpAny_Call_Name_kw (ld_glob I hg hm ?_ hdb)
  refine PySem.W.callWith_K (h₀ := X.base) I.ok.mod.kin kp (thn (ha.pa pos pins s σ H (fun vs H1 => Same H H1 ∧ ∃ ds, Dvs X.K H1 vs ds ∧ ds.length = fl.length ∧ ∀ a, kD X.K H Q (.exc a C (fl.zip ds))) I ⟨δ, r, ha.mono _ _ _ (fun ds q vs H1 s1 dv => ⟨s1, ds, dv, q⟩) h⟩) fun us s1 ⟨vs, H1, I1, r1, sm, ds, dv, q0, q⟩ => ⟨I1.kIn, ?_⟩) h1 h2
  refine run_mkE c hex (hr.mono hj) I1 r1 (by rw [dv.length]; exact q0) fun a d H' s' ea ed => q a _ H' (sm.trans s') (.exc (.of ea) (.of ed) (dvf_zip (dv.same s')))
def vFldE (K : PySem.W.Frag) (ta : ED) (f : Str) : ED := fun δ Q => ta δ fun d => ∃ a C gs r, d = .exc a C gs ∧ ExcGet K C ∧ PySem.W.hasDictIn K C = true ∧ PySem.W.findIn K (.ref C) f = some none ∧ gs.lookup f = some r ∧ Q r
theorem d_fldE (K : PySem.W.Frag) (hK : X.K = K) {f : Str} {ta : ED} (he : PD X e ta) (hb : attributeBase e f X.env (eval e X.env) = eval e X.env) : PD X (.Attribute e f pos) (vFldE K ta f) := by
  subst hK
  refine ⟨fun pins s σ H Q I ⟨δ, r, h⟩ => ?_, fun δ P P' g h => he.mono _ _ _ (fun d ⟨a, C, gs, r, ed, k1, k2, k3, k4, k⟩ => ⟨a, C, gs, r, ed, k1, k2, k3, k4, g _ k⟩) h⟩
  refine attr_of hb (thn (he.pe pins s σ H (fun v H1 => ∃ a C dx fs y, v = .ref a ∧ Rd H1 a (ExcO a C dx) ∧ XDict H1 dx fs ∧ ExcGet X.K C ∧ PySem.W.hasDictIn X.K C = true ∧ PySem.W.findIn X.K (.ref C) f = some none ∧ fs.lookup f = some y ∧ Q y H1) I ⟨δ, r, he.mono _ _ _ (fun d k v H1 s1 dv => ?_) h⟩) fun u s1 k => ?_)
  · obtain ⟨a, C, gs, r, ed, k1, k2, k3, k4, k⟩ := k
    subst ed
    cases dv with
    | exc g1 g2 g3 =>
      obtain ⟨y, ly, dy⟩ := g3.look k4
      exact ⟨_, _, _, _, y, rfl, g1, g2, k1, k2, k3, ly, k _ H1 s1 dy⟩
  · obtain ⟨v, H1, I1, rv, a, C, dx, fs, y, ev, g1, g2, k1, k2, k3, ly, q⟩ := k
    subst ev
    cases (show u = Value.ref a from rv)
    obtain ⟨⟨oe, vs, e1, hc, hdx, hd, _⟩, _⟩ := (show ObjOk X.prog X.w H1 s1.heap a (ExcO a C dx) from g1.ok I1.hok)
    cases dx with
    | none =>
      rw [show fs = [] from g2] at ly
      cases ly
    | some d =>
      obtain ⟨⟨mA, hn, hr, hw⟩, _⟩ := (show ObjOk X.prog X.w H1 s1.heap d (XdO d fs) from Rd.ok g2 I1.hok)
      obtain ⟨u2, hu, ru⟩ := RelO.some_of (v := y) (o := mA f) (by rw [← ly]; exact hr f)
      exact exc_get I1.kIn k1 k2 k3 e1 hc hdx hd hn hu (handed_of ru) ⟨y, H1, I1.tok _, ru, q⟩
end
end DC

set_option maxHeartbeats 1000000
namespace DC
open PySem PySem.Spec PyProof.Rows L2
section
variable {X : Cx} {c e : Expr} {es : List Expr} {body : List Stmt} {uc : TD} {te : ED} {tb : TSD} {g : TGD} {pos tp : Pos} {k : Nat}
def qWhile (uc : TD) (tb : TSD) : TSD := fun E δ => ∃ inv : Nat → SD → Prop, (∃ m, inv m δ) ∧ ∀ m δ', inv m δ' → uc δ' fun b => if b = true then tb { E with nx := fun δ2 => ∃ m', m' < m ∧ inv m' δ2, ct := fun δ2 => ∃ m', m' < m ∧ inv m' δ2, bk := E.nx } δ' else E.nx δ'
theorem s_while (hp : PassesOwn (model X.prog X.w) X.A X.env X.xe) (hc : PTd X c uc) (hb : PSsd X body tb) : PSd X (.While c body [] pos) (qWhile uc tb) := by
  refine ⟨PS.imp (ps_while hp hc.pt hb.ps) fun D σ H ⟨δ, r, inv, ⟨m0, i0⟩, step⟩ => ⟨fun m σ' H' => Same H H' ∧ ∃ δ', RelS X.K H' σ' δ' ∧ inv m δ', ⟨m0, Same.refl _, δ, r, i0⟩, ?_⟩, fun E E' δ l ⟨inv, i0, step⟩ => ⟨inv, i0, fun m δ' hi => hc.mono _ _ _ (fun b q => ?_) (step m δ' hi)⟩⟩
  · rintro m σ' H' ⟨s', δ', r', hi⟩
    refine ⟨δ', r', hc.mono _ _ _ (fun b q H1 s1 => ?_) (step m δ' hi)⟩
    cases b with
    | false =>
      rw [if_neg Bool.false_ne_true] at q ⊢
      exact q σ' H1 (s'.trans s1) (r'.same s1)
    | true =>
      rw [if_pos rfl] at q ⊢
      refine ⟨fun σ2 H2 => Same H H2 ∧ ∃ δ2, RelS X.K H2 σ2 δ2 ∧ ∃ m', m' < m ∧ inv m' δ2, fun σ2 H2 ⟨s2, δ2, r2, m', hm, h2⟩ => ⟨m', hm, s2, δ2, r2, h2⟩, δ', r'.same s1, hb.mono { endsOf X.K H D with nx := fun δ2 => ∃ m', m' < m ∧ inv m' δ2, ct := fun δ2 => ∃ m', m' < m ∧ inv m' δ2, bk := (endsOf X.K H D).nx } _ _ ⟨?_, ?_, ?_, ?_⟩ q⟩
      · exact fun δ2 h2 σ2 H2 s2 r2 => ⟨(s'.trans s1).trans s2, δ2, r2, h2⟩
      · exact fun d h2 v H2 s2 dv => h2 v H2 ((s'.trans s1).trans s2) dv
      · exact fun δ2 h2 σ2 H2 s2 r2 => h2 σ2 H2 ((s'.trans s1).trans s2) r2
      · exact fun δ2 h2 σ2 H2 s2 r2 => ⟨(s'.trans s1).trans s2, δ2, r2, h2⟩
  · cases b with
    | false =>
      rw [if_neg Bool.false_ne_true] at q ⊢
      exact l.nx _ q
    | true =>
      rw [if_pos rfl] at q ⊢
      exact hb.mono { E with nx := fun δ2 => ∃ m', m' < m ∧ inv m' δ2, ct := fun δ2 => ∃ m', m' < m ∧ inv m' δ2, bk := E.nx } _ _ ⟨fun _ z => z, l.rt, fun _ z => l.nx _ z, fun _ z => z⟩ q
def qSetT (te : ED) (g : TGD) : TSD := fun E δ => te δ fun d => g d δ E.nx
theorem s_setT (he : PD X e te) (hg : PGd X (.Tuple es k tp) g) (hs : swapsWithSole [.Tuple es k tp] e pos.line X.env = pure false := by rfl) (hw : swappedStores [.Tuple es k tp] e X.env = pure none := by rfl) : PSd X (.Assign [.Tuple es k tp] e pos) (qSetT te g) := by
  refine ⟨fun pins s σ H D I ⟨δ, r, h⟩ => ?_, fun E E' δ l h => he.mono _ _ _ (fun d q => hg.mono _ _ _ _ l.nx q) h⟩
  refine PyProof.Rows.Assign_Tuple (thn (he.pe pins s σ H (fun y H1 => Same H H1 ∧ ∃ d, Dv X.K H1 y d ∧ g d δ (endsOf X.K H D).nx) I ⟨δ, r, he.mono _ _ _ (fun d q v H1 s1 dv => ⟨s1, d, dv, q⟩) h⟩) fun v s1 ⟨y, H1, I1, ry, sm, d, dv, q⟩ => ?_) hs hw
  exact thn (hg.pg pins s1 σ H1 y v D.nx I1 ry ⟨d, δ, dv, r.same sm, hg.mono _ _ _ _ (fun δ' z σ' H' s' r' => z σ' H' (sm.trans s') r') q⟩) fun _ s2 ⟨σ2, H2, I2, q2⟩ => ⟨σ2, H2, I2, q2⟩
def vDict0 : ED := fun _ Q => Q (.dK [])
theorem d_dict0 : PD X (.Dict [] [] pos) vDict0 := ⟨pe_dnewK.imp fun σ H Q ⟨δ, r, h⟩ p hp => h _ _ (same_upd hp) (.dK (.of upd_same) .nil), fun δ P P' g h => g _ h⟩
end
theorem roomU_units {k : Nat} {A : Around} (r : RoomU k A) : A.units + 64 < cLine := by have := r.un; omega
end DC

set_option maxHeartbeats 4000000
namespace DC
open PySem PySem.Spec PyProof.Rows L2
section
variable {X : Cx} {a b : Expr} {rest : List Expr} {pos : Pos} {ta tb : TE}
def tOrS (ta tb : TE) : TE := fun σ H Q => ta σ H fun x H1 => ∃ y, x = .str y ∧ y.length ≤ sizeLine ∧ if ((y.length : Int) != 0) = true then Q (.str y) H1 else tb σ H1 Q
theorem pe_orS (ha : PE X a ta) (hb : PE X (.BoolOp .Or (b :: rest) pos) tb) : PE X (.BoolOp .Or (a :: b :: rest) pos) (tOrS ta tb) := by
  intro pins s σ H Q I h
  have hl := line63
  have hs : sizeLine = 16777216 := sizeLine_eq
  refine BoolOp_or (thn (ha pins s σ H _ I h) fun v s1 ⟨x, H1, I1, r1, q1⟩ => ?_)
  obtain ⟨y, rfl, hy, q1⟩ := q1
  obtain ⟨t, rfl⟩ := r1
  refine PySem.P.truthy_str (by omega) ?_
  cases hc : ((y.length : Int) != 0) with
  | false => rw [hc, if_neg Bool.false_ne_true] at q1; exact hb pins _ σ H1 Q (I1.tok _) q1
  | true => rw [hc, if_pos rfl] at q1; exact ⟨.str y, H1, I1.tok _, ⟨t, rfl⟩, q1⟩
end
section
variable {X : Cx} {a b : Expr} {rest : List Expr} {pos : Pos} {ta tb : ED}
def vOrS (ta tb : ED) : ED := fun δ Q => ta δ fun d => ∃ y, d = .str y ∧ y.length ≤ sizeLine ∧ if ((y.length : Int) != 0) = true then Q (.str y) else tb δ Q
theorem d_orS (ha : PD X a ta) (hb : PD X (.BoolOp .Or (b :: rest) pos) tb) : PD X (.BoolOp .Or (a :: b :: rest) pos) (vOrS ta tb) := by
  refine ⟨(pe_orS ha.pe hb.pe).imp fun σ H Q ⟨δ, r, h⟩ => ⟨δ, r, ha.mono _ _ _ (fun d ⟨y, e, hy, q⟩ v H1 s1 dv => ?_) h⟩, fun δ P P' g h => ha.mono _ _ _ (fun d ⟨y, e, hy, q⟩ => ⟨y, e, hy, ?_⟩) h⟩
  · subst e
    cases dv
    refine ⟨y, rfl, hy, ?_⟩
    cases hc : ((y.length : Int) != 0) with
    | true => rw [hc, if_pos rfl] at q; rw [if_pos rfl]; exact q _ H1 s1 (.str _)
    | false => rw [hc, if_neg Bool.false_ne_true] at q; rw [if_neg Bool.false_ne_true]; exact ⟨δ, r.same s1, hb.mono _ _ _ (fun b k => k.on s1) q⟩
  · cases hc : ((y.length : Int) != 0) with
    | true => rw [hc, if_pos rfl] at q; rw [if_pos rfl]; exact g _ q
    | false => rw [hc, if_neg Bool.false_ne_true] at q; rw [if_neg Bool.false_ne_true]; exact hb.mono _ _ _ g q
end
end DC

set_option maxHeartbeats 4000000
namespace K04
open PySem PySem.Spec PyProof.Rows L2 DC
def top (i : Nat) : Stmt := PySem.Challenge.pw_runrows_k04_what_makes_none.main.body.getD i (.Pass ⟨0, 0, 0, 0⟩)
def cbody : Stmt → List Stmt
  | .ClassDef _ _ _ b _ _ _ _ _ _ _ => b
  | _ => []
theorem scM {N P : List Str} {sc : Scope} (a : sc.kind = .function := by rfl) (b : sc.isCoroutine = false := by rfl) (c : sc.isGenerator = false := by rfl) (d : N.Nodup := by decide +kernel) (e : N.take P.length = P := by rfl)
    (f : ∀ x ∈ P, sc.names.lookup x = some .local ∨ sc.names.lookup x = some .cell := by decide +kernel) (g : ∀ y ∈ sc.names, y.2 ≠ .free := by decide +kernel) : FnScope N P sc := ⟨a, b, c, d, e, f, g⟩
abbrev s_has_letters : Stmt := top 21
theorem sc_has_letters : FnScope ["text"] ["text"] (defScope s_has_letters) := scM
abbrev s_has_word_form : Stmt := top 22
theorem sc_has_word_form : FnScope ["text"] ["text"] (defScope s_has_word_form) := scM
abbrev s_is_word : Stmt := top 23
theorem sc_is_word : FnScope ["thing"] ["thing"] (defScope s_is_word) := scM
abbrev s_is_name : Stmt := top 24
theorem sc_is_name : FnScope ["thing", "words"] ["thing"] (defScope s_is_name) := scM
abbrev s_is_number : Stmt := top 25
theorem sc_is_number : FnScope ["thing"] ["thing"] (defScope s_is_number) := scM
abbrev s_is_value : Stmt := top 26
theorem sc_is_value : FnScope ["thing"] ["thing"] (defScope s_is_value) := scM
abbrev s_need_name : Stmt := top 32
theorem sc_need_name : FnScope ["name"] ["name"] (defScope s_need_name) := scM
abbrev s_need_first : Stmt := top 40
theorem sc_need_first : FnScope ["first"] ["first"] (defScope s_need_first) := scM
abbrev s_has_shape : Stmt := top 48
theorem sc_has_shape : FnScope ["told"] ["told"] (defScope s_has_shape) := scM
abbrev s_plain_by : Stmt := top 49
theorem sc_plain_by : FnScope ["told", "inner", "word"] ["told", "inner"] (defScope s_plain_by) := scM
abbrev s_timed_by : Stmt := top 50
theorem sc_timed_by : FnScope ["told", "inner", "word"] ["told", "inner"] (defScope s_timed_by) := scM
abbrev s_many_within : Stmt := top 51
theorem sc_many_within : FnScope ["told"] ["told"] (defScope s_many_within) := scM
abbrev s_part_of : Stmt := top 52
theorem sc_part_of : FnScope ["told", "inner"] ["told"] (defScope s_part_of) := scM
abbrev s__law_cell_at : Stmt := top 54
theorem sc__law_cell_at : FnScope ["_law_script", "_law_k"] ["_law_script", "_law_k"] (defScope s__law_cell_at) := scM
abbrev s__law_mixed : Stmt := top 55
theorem sc__law_mixed : FnScope ["_law_cell", "_law_k", "_law_mix"] ["_law_cell", "_law_k"] (defScope s__law_mixed) := scM
abbrev s__law_whole : Stmt := top 56
theorem sc__law_whole : FnScope ["_law_found"] ["_law_found"] (defScope s__law_whole) := scM
abbrev s__law_kinds : Stmt := top 57
theorem sc__law_kinds : FnScope ["_law_e", "_law_some"] ["_law_e"] (defScope s__law_kinds) := scM
abbrev s__law_chain : Stmt := top 58
theorem sc__law_chain : FnScope ["_law_size", "_law_part", "_law_k"] ["_law_size"] (defScope s__law_chain) := scM
abbrev s__law_wide : Stmt := top 59
theorem sc__law_wide : FnScope ["_law_size", "_law_row"] ["_law_size"] (defScope s__law_wide) := scM
abbrev s__law_made : Stmt := top 60
theorem sc__law_made : FnScope ["_law_way", "_law_thing_here", "_law_cell", "_law_part"] ["_law_way", "_law_thing_here", "_law_cell"] (defScope s__law_made) := scM
abbrev s__law_thing : Stmt := top 61
theorem sc__law_thing : FnScope ["_law_way", "_law_mix", "_law_names", "_law_some"] ["_law_way", "_law_mix"] (defScope s__law_thing) := scM
abbrev s__law_value : Stmt := top 62
theorem sc__law_value : FnScope ["_law_thing_here"] ["_law_thing_here"] (defScope s__law_value) := scM
abbrev s__law_due : Stmt := top 63
theorem sc__law_due : FnScope ["_law_way", "_law_thing_here", "_law_cell", "_law_good"] ["_law_way", "_law_thing_here", "_law_cell"] (defScope s__law_due) := scM
abbrev s__law_leaf : Stmt := top 64
theorem sc__law_leaf : FnScope ["_law_cell", "_law_some"] ["_law_cell"] (defScope s__law_leaf) := scM
abbrev s__law_two : Stmt := top 65
theorem sc__law_two : FnScope ["_law_cell", "_law_name", "_law_value_here", "_law_one", "_law_first", "_law_other", "_law_second", "_law_own"] ["_law_cell"] (defScope s__law_two) := scM
abbrev s__law_two_right : Stmt := top 66
theorem sc__law_two_right : FnScope ["_law_cell", "_law_told", "_law_due_here", "_law_e"] ["_law_cell"] (defScope s__law_two_right) := scM
abbrev s__law_deep_right : Stmt := top 67
theorem sc__law_deep_right : FnScope ["_law_cell", "_law_e"] ["_law_cell"] (defScope s__law_deep_right) := scM
abbrev s__law_tried : Stmt := top 68
theorem sc__law_tried : FnScope ["_law_way", "_law_thing_here", "_law_cell", "_law_e"] ["_law_way", "_law_thing_here", "_law_cell"] (defScope s__law_tried) := scM
abbrev s_law : Stmt := top 69
theorem sc_law : FnScope ["_law_script", "_law_k", "_law_mix", "_law_one", "_law_two_here", "_law_told", "_law_cell", "_law_way", "_law_thing_here", "_law_side"] ["_law_script"] (defScope s_law) := scM
abbrev s_NoText___init__ : Stmt := (cbody (top 5)).getD 0 (.Pass ⟨0, 0, 0, 0⟩)
theorem sc_NoText___init__ : FnScope ["self", "row"] ["self", "row"] (defScope s_NoText___init__) := scM
abbrev s_NoKind___init__ : Stmt := (cbody (top 7)).getD 0 (.Pass ⟨0, 0, 0, 0⟩)
theorem sc_NoKind___init__ : FnScope ["self", "row", "place"] ["self", "row", "place"] (defScope s_NoKind___init__) := scM
abbrev s_NoBeat___init__ : Stmt := (cbody (top 8)).getD 0 (.Pass ⟨0, 0, 0, 0⟩)
theorem sc_NoBeat___init__ : FnScope ["self", "row", "place", "one", "other"] ["self", "row", "place", "one", "other"] (defScope s_NoBeat___init__) := scM
abbrev s_Ring___init__ : Stmt := (cbody (top 9)).getD 0 (.Pass ⟨0, 0, 0, 0⟩)
theorem sc_Ring___init__ : FnScope ["self", "ring"] ["self", "ring"] (defScope s_Ring___init__) := scM
abbrev s_Part_inner : Stmt := (cbody (top 33)).getD 0 (.Pass ⟨0, 0, 0, 0⟩)
theorem sc_Part_inner : FnScope ["self"] ["self"] (defScope s_Part_inner) := scM
abbrev s_Part_size : Stmt := (cbody (top 33)).getD 2 (.Pass ⟨0, 0, 0, 0⟩)
theorem sc_Part_size : FnScope ["self"] ["self"] (defScope s_Part_size) := scM
abbrev s_Part_depth : Stmt := (cbody (top 33)).getD 3 (.Pass ⟨0, 0, 0, 0⟩)
theorem sc_Part_depth : FnScope ["self"] ["self"] (defScope s_Part_depth) := scM
abbrev s_Part_need_bounds : Stmt := (cbody (top 33)).getD 4 (.Pass ⟨0, 0, 0, 0⟩)
theorem sc_Part_need_bounds : FnScope ["self"] ["self"] (defScope s_Part_need_bounds) := scM
abbrev s_Given___init__ : Stmt := (cbody (top 34)).getD 0 (.Pass ⟨0, 0, 0, 0⟩)
theorem sc_Given___init__ : FnScope ["self", "value"] ["self", "value"] (defScope s_Given___init__) := scM
abbrev s_Named___init__ : Stmt := (cbody (top 35)).getD 0 (.Pass ⟨0, 0, 0, 0⟩)
theorem sc_Named___init__ : FnScope ["self", "name"] ["self", "name"] (defScope s_Named___init__) := scM
abbrev s_Named_told : Stmt := (cbody (top 35)).getD 4 (.Pass ⟨0, 0, 0, 0⟩)
theorem sc_Named_told : FnScope ["self"] ["self"] (defScope s_Named_told) := scM
abbrev s_Turned___init__ : Stmt := (cbody (top 36)).getD 0 (.Pass ⟨0, 0, 0, 0⟩)
theorem sc_Turned___init__ : FnScope ["self", "part"] ["self", "part"] (defScope s_Turned___init__) := scM
abbrev s_Turned_inner : Stmt := (cbody (top 36)).getD 1 (.Pass ⟨0, 0, 0, 0⟩)
theorem sc_Turned_inner : FnScope ["self"] ["self"] (defScope s_Turned_inner) := scM
abbrev s_Pair___init__ : Stmt := (cbody (top 37)).getD 0 (.Pass ⟨0, 0, 0, 0⟩)
theorem sc_Pair___init__ : FnScope ["self", "sign", "one", "other"] ["self", "sign", "one", "other"] (defScope s_Pair___init__) := scM
abbrev s_Pair_inner : Stmt := (cbody (top 37)).getD 1 (.Pass ⟨0, 0, 0, 0⟩)
theorem sc_Pair_inner : FnScope ["self"] ["self"] (defScope s_Pair_inner) := scM
abbrev s_Choice___init__ : Stmt := (cbody (top 38)).getD 0 (.Pass ⟨0, 0, 0, 0⟩)
theorem sc_Choice___init__ : FnScope ["self", "truth", "one", "other"] ["self", "truth", "one", "other"] (defScope s_Choice___init__) := scM
abbrev s_Choice_inner : Stmt := (cbody (top 38)).getD 1 (.Pass ⟨0, 0, 0, 0⟩)
theorem sc_Choice_inner : FnScope ["self"] ["self"] (defScope s_Choice_inner) := scM
abbrev s_Before___init__ : Stmt := (cbody (top 42)).getD 0 (.Pass ⟨0, 0, 0, 0⟩)
theorem sc_Before___init__ : FnScope ["self", "part", "first"] ["self", "part", "first"] (defScope s_Before___init__) := scM
abbrev s_Before_inner : Stmt := (cbody (top 42)).getD 1 (.Pass ⟨0, 0, 0, 0⟩)
theorem sc_Before_inner : FnScope ["self"] ["self"] (defScope s_Before_inner) := scM
abbrev s_Led___init__ : Stmt := (cbody (top 43)).getD 0 (.Pass ⟨0, 0, 0, 0⟩)
theorem sc_Led___init__ : FnScope ["self", "head", "rest"] ["self", "head", "rest"] (defScope s_Led___init__) := scM
abbrev s_Led_inner : Stmt := (cbody (top 43)).getD 1 (.Pass ⟨0, 0, 0, 0⟩)
theorem sc_Led_inner : FnScope ["self"] ["self"] (defScope s_Led_inner) := scM
abbrev s_When___init__ : Stmt := (cbody (top 44)).getD 0 (.Pass ⟨0, 0, 0, 0⟩)
theorem sc_When___init__ : FnScope ["self", "part", "name"] ["self", "part", "name"] (defScope s_When___init__) := scM
abbrev s_When_inner : Stmt := (cbody (top 44)).getD 1 (.Pass ⟨0, 0, 0, 0⟩)
theorem sc_When_inner : FnScope ["self"] ["self"] (defScope s_When_inner) := scM
abbrev s_Held___init__ : Stmt := (cbody (top 45)).getD 0 (.Pass ⟨0, 0, 0, 0⟩)
theorem sc_Held___init__ : FnScope ["self", "part", "name", "first"] ["self", "part", "name", "first"] (defScope s_Held___init__) := scM
abbrev s_Held_inner : Stmt := (cbody (top 45)).getD 1 (.Pass ⟨0, 0, 0, 0⟩)
theorem sc_Held_inner : FnScope ["self"] ["self"] (defScope s_Held_inner) := scM
end K04

set_option maxHeartbeats 4000000
namespace K04
open PySem PySem.Spec PyProof.Rows L2 DC
inductive Pt where
  | given (v : D) | named (n : Str) | turned (p : Pt) | pair (g : Str) (a b : Pt) | choice (t a b : Pt)
  | before (p : Pt) (f : D) | led (h r : Pt) | whn (p : Pt) (n : Str) | held (p : Pt) (n : Str) (f : D)
structure Adr where
  given : Addr
  named : Addr
  turned : Addr
  pair : Addr
  choice : Addr
  before : Addr
  led : Addr
  whn : Addr
  held : Addr
def Pt.cls (A : Adr) : Pt → Addr
  | .given _ => A.given | .named _ => A.named | .turned _ => A.turned | .pair _ _ _ => A.pair | .choice _ _ _ => A.choice
  | .before _ _ => A.before | .led _ _ => A.led | .whn _ _ => A.whn | .held _ _ _ => A.held
def Pt.d (A : Adr) : Pt → D
  | .given v => .obj A.given [("value", v)]
  | .named n => .obj A.named [("name", .str n)]
  | .turned p => .obj A.turned [("part", p.d A)]
  | .pair g a b => .obj A.pair [("sign", .str g), ("one", a.d A), ("other", b.d A)]
  | .choice t a b => .obj A.choice [("truth", t.d A), ("one", a.d A), ("other", b.d A)]
  | .before p f => .obj A.before [("part", p.d A), ("first", f)]
  | .led h r => .obj A.led [("head", h.d A), ("rest", r.d A)]
  | .whn p n => .obj A.whn [("part", p.d A), ("name", .str n)]
  | .held p n f => .obj A.held [("part", p.d A), ("name", .str n), ("first", f)]
def Pt.depth : Pt → Nat
  | .given _ => 1 | .named _ => 1 | .turned p => p.depth + 1 | .pair _ a b => max a.depth b.depth + 1 | .choice t a b => max t.depth (max a.depth b.depth) + 1
  | .before p _ => p.depth + 1 | .led h r => max h.depth r.depth + 1 | .whn p _ => p.depth + 1 | .held p _ _ => p.depth + 1
def Pt.inner : Pt → List Pt
  | .given _ => [] | .named _ => [] | .turned p => [p] | .pair _ a b => [a, b] | .choice t a b => [t, a, b]
  | .before p _ => [p] | .led h r => [h, r] | .whn p _ => [p] | .held p _ _ => [p]
def Pt.told : Pt → D
  | .given v => .tup [.str "given", v]
  | .named n => .tup [.str "named", .str n]
  | .turned p => .tup [.str "not", p.told]
  | .pair g a b => .tup [.str g, a.told, b.told]
  | .choice t a b => .tup [.str "if", t.told, a.told, b.told]
  | .before p f => .tup [.str "before", p.told, f]
  | .led h r => .tup [.str "then", h.told, r.told]
  | .whn p n => .tup [.str "when", p.told, .str n]
  | .held p n f => .tup [.str "held", p.told, .str n, f]
structure AOk (K : PySem.W.Frag) (A : Adr) : Prop where
  nd : [A.given, A.named, A.turned, A.pair, A.choice, A.before, A.led, A.whn, A.held].Nodup
  cl : ∀ C ∈ [A.given, A.named, A.turned, A.pair, A.choice, A.before, A.led, A.whn, A.held], Cls K C
  nof : ∀ C ∈ [A.given, A.named, A.turned, A.pair, A.choice, A.before, A.led, A.whn, A.held], ∀ f ∈ (["value", "name", "part", "sign", "one", "other", "truth", "first", "head", "rest"] : List Str), NoAttr K C f
theorem Pt.cls_in (A : Adr) (p : Pt) : p.cls A ∈ [A.given, A.named, A.turned, A.pair, A.choice, A.before, A.led, A.whn, A.held] := by cases p <;> simp [Pt.cls]
def Pt.ix : Pt → Nat
  | .given _ => 0 | .named _ => 1 | .turned _ => 2 | .pair _ _ _ => 3 | .choice _ _ _ => 4 | .before _ _ => 5 | .led _ _ => 6 | .whn _ _ => 7 | .held _ _ _ => 8
theorem Pt.at_ (A : Adr) (p : Pt) : [A.given, A.named, A.turned, A.pair, A.choice, A.before, A.led, A.whn, A.held][p.ix]? = some (p.cls A) := by cases p <;> rfl
theorem nodup_at {α : Type} : ∀ {l : List α} {i j : Nat} {x : α}, l.Nodup → l[i]? = some x → l[j]? = some x → i = j := fun {l i j x} nd a b => by
  have hi : i < l.length := (List.getElem?_eq_some_iff.mp a).1
  exact (List.getElem?_inj hi nd).mp (a.trans b.symm)
theorem cls_ix {K : PySem.W.Frag} {A : Adr} (hA : AOk K A) {p q : Pt} (h : p.cls A = q.cls A) : p.ix = q.ix := nodup_at hA.nd (p.at_ A) (by rw [h]; exact q.at_ A)
theorem is_given {K : PySem.W.Frag} {A : Adr} (hA : AOk K A) {p : Pt} (h : p.cls A = A.given) : ∃ v, p = .given v := by
  have i := cls_ix hA (q := .given .non) h
  cases p with
  | given v => exact ⟨v, rfl⟩
  | _ => exact absurd i (by simp only [Pt.ix]; decide)
theorem is_named {K : PySem.W.Frag} {A : Adr} (hA : AOk K A) {p : Pt} (h : p.cls A = A.named) : ∃ n, p = .named n := by
  have i := cls_ix hA (q := .named "") h
  cases p with
  | named n => exact ⟨n, rfl⟩
  | _ => exact absurd i (by simp only [Pt.ix]; decide)
theorem is_turned {K : PySem.W.Frag} {A : Adr} (hA : AOk K A) {p : Pt} (h : p.cls A = A.turned) : ∃ x, p = .turned x := by
  have i := cls_ix hA (q := .turned (.given .non)) h
  cases p with
  | turned x => exact ⟨x, rfl⟩
  | _ => exact absurd i (by simp only [Pt.ix]; decide)
theorem is_pair {K : PySem.W.Frag} {A : Adr} (hA : AOk K A) {p : Pt} (h : p.cls A = A.pair) : ∃ g x y, p = .pair g x y := by
  have i := cls_ix hA (q := .pair "" (.given .non) (.given .non)) h
  cases p with
  | pair g x y => exact ⟨g, x, y, rfl⟩
  | _ => exact absurd i (by simp only [Pt.ix]; decide)
theorem is_choice {K : PySem.W.Frag} {A : Adr} (hA : AOk K A) {p : Pt} (h : p.cls A = A.choice) : ∃ t x y, p = .choice t x y := by
  have i := cls_ix hA (q := .choice (.given .non) (.given .non) (.given .non)) h
  cases p with
  | choice t x y => exact ⟨t, x, y, rfl⟩
  | _ => exact absurd i (by simp only [Pt.ix]; decide)
theorem is_before {K : PySem.W.Frag} {A : Adr} (hA : AOk K A) {p : Pt} (h : p.cls A = A.before) : ∃ x f, p = .before x f := by
  have i := cls_ix hA (q := .before (.given .non) .non) h
  cases p with
  | before x f => exact ⟨x, f, rfl⟩
  | _ => exact absurd i (by simp only [Pt.ix]; decide)
theorem is_led {K : PySem.W.Frag} {A : Adr} (hA : AOk K A) {p : Pt} (h : p.cls A = A.led) : ∃ x y, p = .led x y := by
  have i := cls_ix hA (q := .led (.given .non) (.given .non)) h
  cases p with
  | led x y => exact ⟨x, y, rfl⟩
  | _ => exact absurd i (by simp only [Pt.ix]; decide)
theorem is_whn {K : PySem.W.Frag} {A : Adr} (hA : AOk K A) {p : Pt} (h : p.cls A = A.whn) : ∃ x n, p = .whn x n := by
  have i := cls_ix hA (q := .whn (.given .non) "") h
  cases p with
  | whn x n => exact ⟨x, n, rfl⟩
  | _ => exact absurd i (by simp only [Pt.ix]; decide)
theorem is_held {K : PySem.W.Frag} {A : Adr} (hA : AOk K A) {p : Pt} (h : p.cls A = A.held) : ∃ x n f, p = .held x n f := by
  have i := cls_ix hA (q := .held (.given .non) "" .non) h
  cases p with
  | held x n f => exact ⟨x, n, f, rfl⟩
  | _ => exact absurd i (by simp only [Pt.ix]; decide)
def sdP (A : Adr) (n : Nat) (g : Pt → D) (C : Addr) : SpD := fun ds Q => ∃ p : Pt, ds = [p.d A] ∧ p.cls A = C ∧ p.depth ≤ n ∧ Q (g p)
theorem m_P {A : Adr} {n : Nat} {g : Pt → D} {C : Addr} : MonoS (sdP A n g C) := fun ds P P' f ⟨p, e, c, h, q⟩ => ⟨p, e, c, h, f _ q⟩
theorem l_P {A : Adr} {n : Nat} {g : Pt → D} {C : Addr} (ds : List D) (Q : D → Prop) (h : sdP A n g C ds Q) : ds.length = 1 := by obtain ⟨p, e, _⟩ := h; rw [e]; rfl
def isP (A : Adr) (C : Addr) : Prop := ∃ p : Pt, p.cls A = C
def noM (m : Str) : Prop := ∀ f ∈ (["value", "name", "part", "sign", "one", "other", "truth", "first", "head", "rest"] : List Str), (m == f) = false
theorem no_meth (A : Adr) {m : Str} (h : noM m) (p : Pt) : ∃ gs, p.d A = .obj (p.cls A) gs ∧ gs.lookup m = none := by
  have l : ∀ {f : Str} {d : D} {r : List (Str × D)}, f ∈ (["value", "name", "part", "sign", "one", "other", "truth", "first", "head", "rest"] : List Str) → r.lookup m = none → ((f, d) :: r).lookup m = none := fun hf hr => by
    rw [List.lookup_cons, h _ hf]
    exact hr
  cases p <;> refine ⟨_, rfl, ?_⟩ <;> repeat (first | rfl | refine l (by decide) ?_)
theorem vFld_of {K : PySem.W.Frag} {δ : SD} {i : Nat} {C : Addr} {gs : List (Str × D)} {f : Str} {r : D} {Q : D → Prop} (h : δ[i]? = some (some (.obj C gs))) (c : Cls K C) (n : NoAttr K C f) (l : gs.lookup f = some r) (q : Q r) : vFld K (vVar i) f δ Q := ⟨_, h, C, gs, r, rfl, c, n, l, q⟩
theorem vMeth_of {A : Adr} {n : Nat} {g : Pt → D} {m : Str} {ta : ED} {δ : SD} {p : Pt} {Q : D → Prop} (mt : MonoE ta) (hm : noM m) (h : ta δ fun d => d = p.d A) (hd : p.depth ≤ n) (q : Q (g p)) :
    vMeth (isP A) m (sdP A n g) [] ta aNil δ Q := mt _ _ _ (fun d e => by
  obtain ⟨gs, e1, e2⟩ := no_meth A hm p
  exact ⟨p.cls A, gs, e.trans e1, e2, ⟨p, rfl⟩, p, by rw [List.append_nil, e], rfl, hd, q⟩) h
theorem noM_inner : noM "inner" := by unfold noM; decide +kernel
section
seal wpAny
variable {P : Program} {w : World} {K : PySem.W.Frag} {mg : Str → Option Value} {base : Heap} {A : Adr} {n j : Nat}
abbrev MP (P : Program) (w : World) (K : PySem.W.Frag) (mg : Str → Option Value) (base : Heap) (A : Adr) (j : Nat) (m : Str) (n : Nat) (g : Pt → D) : Prop := ∀ C, isP A C → Mcal P w K mg base j C m (sdP A n g C) []
theorem told_named (hA : AOk K A) (d : Dm K A.named "told" "Named.told" s_Named_told ["self"]) : Mcal P w K mg base (j + 1) A.named "told" (sdP A (n + 1) Pt.told A.named) [] := by
  refine d.cal sc_Named_told m_P l_P (fun f cdv A outer s H E hr => have hu := hr.units; have hh := hr.hd; have sc := sc_Named_told
    (ss_one (s_ret (d_tup (a_cons d_str (a_cons (d_fldK K rfl (dv 0) (by rfl)) a_nil)))))) ?_
  rintro ds Q ⟨p, rfl, hc, hd, q⟩
  have c := hA.cl _ (Pt.cls_in A p)
  have no := hA.nof _ (Pt.cls_in A p)
  obtain ⟨s, rfl⟩ := is_named hA hc
  simp only [Pt.depth] at hd
  exact (vFld_of rfl c (no _ (by decide)) (by kernel_rfl) ⟨(show 2 ≤ sizeLine by decide), q⟩)
theorem Pt.depth_pos (p : Pt) : 0 < p.depth := by cases p <;> simp only [Pt.depth] <;> omega
theorem Dm.never {C : Addr} {m qual : Str} {st : Stmt} {ps : List Str} {sd : SpD} (d : Dm K C m qual st ps) (ms : MonoS sd) (h : ∀ ds Q, ¬ sd ds Q) : Mcal P w K mg base j C m sd [] := by
  obtain ⟨f, fd, F, M, c, b⟩ := d.ex
  exact ⟨⟨f, fd, ps, [], [], c, M, ⟨fun vs H Q E ⟨ds, _, q⟩ => (h _ _ q).elim, fun A outer s H args us vs Q E _ _ _ _ ⟨ds, _, q⟩ => (h _ _ q).elim⟩, b, .nil, fun _ => .nil⟩, ms⟩
theorem zero_P {g : Pt → D} {C : Addr} (ds : List D) (Q : D → Prop) : ¬ sdP A 0 g C ds Q := fun ⟨p, _, _, h, _⟩ => absurd p.depth_pos (by omega)
end
end K04

set_option maxHeartbeats 4000000
namespace K04
open PySem PySem.Spec PyProof.Rows L2 DC
mutual
def Pt.size : Pt → Nat
  | .given _ => 1 | .named _ => 1 | .turned p => p.size + 1 | .pair _ a b => a.size + b.size + 1 | .choice t a b => t.size + a.size + b.size + 1
  | .before p _ => p.size + 1 | .led h r => h.size + r.size + 1 | .whn p _ => p.size + 1 | .held p _ _ => p.size + 1
end
theorem Pt.size_inner (p : Pt) : (p.size : Int) = 1 + (p.inner.map fun q => (q.size : Int)).sum := by
  cases p <;> simp only [Pt.size, Pt.inner, List.map_cons, List.map_nil, List.sum_cons, List.sum_nil] <;> omega
theorem Pt.depth_inner (p : Pt) : (p.depth : Int) = 1 + maxI 0 (p.inner.map fun q => (q.depth : Int)) := by
  cases p <;> simp only [Pt.depth, Pt.inner, List.map_cons, List.map_nil, maxI, List.foldl_cons, List.foldl_nil] <;> omega
theorem Pt.in_depth {p q : Pt} (h : q ∈ p.inner) {n : Nat} (hd : p.depth ≤ n + 1) : q.depth ≤ n := by
  cases p <;> simp only [Pt.inner, Pt.depth, List.mem_cons, List.not_mem_nil, or_false] at h hd
  case turned => subst h; omega
  case pair => rcases h with rfl | rfl <;> omega
  case choice => rcases h with rfl | rfl | rfl <;> omega
  case before => subst h; omega
  case led => rcases h with rfl | rfl <;> omega
  case whn => subst h; omega
  case held => subst h; omega
theorem Pt.inner_len (p : Pt) : p.inner.length ≤ 3 := by cases p <;> simp [Pt.inner]
def gInner (A : Adr) (p : Pt) : D := .tup (p.inner.map (Pt.d A))
theorem noM_size : noM "size" := by unfold noM; decide +kernel
theorem noM_depth : noM "depth" := by unfold noM; decide +kernel
theorem m_var {i : Nat} : MonoE (vVar i) := fun δ P P' f ⟨d, hd, k⟩ => ⟨d, hd, f d k⟩
theorem inner_at {A : Adr} {g : Pt → D} {ps : List Pt} {i : Nat} {d : D} {o : Option D} (h1 : (ps.map (Pt.d A))[i]? = some d) (h2 : (ps.map fun q => some (g q))[i]? = some o) : ∃ q ∈ ps, q.d A = d ∧ some (g q) = o := by
  rw [List.getElem?_map] at h1 h2
  cases e : ps[i]? with
  | none => rw [e] at h1; cases h1
  | some q =>
    rw [e] at h1 h2
    exact ⟨q, List.mem_of_getElem? e, by simpa using h1, by simpa using h2⟩
theorem filterMap_some {α β : Type} (f : α → β) : ∀ l : List α, l.filterMap (id ∘ fun q => some (f q)) = l.map f
  | [] => rfl
  | a :: l => by rw [List.map_cons, ← filterMap_some f l]; rfl
section
seal wpAny
variable {P : Program} {w : World} {K : PySem.W.Frag} {mg : Str → Option Value} {base : Heap} {A : Adr} {n j : Nat}
theorem size_of (d : ∀ C, isP A C → Dm K C "size" "Part.size" s_Part_size ["self"]) (n_sum : mg "sum" = none) (m_inner : MP P w K mg base A j "inner" (n + 1) (gInner A)) (m_size : MP P w K mg base A j "size" n fun p => .int p.size) : MP P w K mg base A (j + 1) "size" (n + 1) fun p => .int p.size := by
  intro C hC
  refine (d C hC).cal sc_Part_size m_P l_P (fun f cdv A outer s H E hr => have hu := hr.units; have hh := hr.hd; have sc := sc_Part_size
    (ss_one (s_ret (d_add d_int (d_sum hh (by rfl) n_sum (a_cons (d_lc (x := "part") (caps := []) (cn := []) (cl := []) (comp0 (by rfl) (by rfl) (by decide +kernel) (by decide +kernel) (by decide +kernel)) rfl (i_any (d_m0 m_inner hr (by omega) (dv 0))) (fun C fp s₂ H₂ => pg_name (i := 0) (show (["part"] : List Str).Nodup by decide +kernel) rfl (Or.inl rfl) (.inr rfl)) (fun C fp s₂ H₂ => ts_nil) (fun C fp s₂ H₂ => (d_m0 m_size hr (by omega) (dv 0)))) a_nil)))))) ?_
  rintro ds Q ⟨p, rfl, hc, hd, q⟩
  refine vMeth_of m_var noM_inner ⟨_, rfl, rfl⟩ hd ?_
  refine ⟨p.inner.map (Pt.d A), rfl, p.inner.map fun q => some (.int q.size), by simp, fun i d o hd' ho => ?_, ?_, ?_⟩
  · obtain ⟨r, hr, e1, e2⟩ := inner_at hd' ho
    subst e1 e2
    exact ⟨rfl, fun _ => vMeth_of m_var noM_size ⟨_, rfl, rfl⟩ (p.in_depth hr hd) rfl⟩
  · rw [List.length_map]; exact Nat.lt_of_le_of_lt p.inner_len (by decide)
  · refine ⟨p.inner.map fun q => (q.size : Int), ?_, ?_⟩
    · rw [List.filterMap_map, List.map_map]
      congr 2
      exact filterMap_some _ _
    · have q' : Q (.int (p.size : Int)) := q
      rw [Pt.size_inner] at q'
      exact q'
theorem depth_of (d : ∀ C, isP A C → Dm K C "depth" "Part.depth" s_Part_depth ["self"]) (n_max : mg "max" = none) (m_inner : MP P w K mg base A j "inner" (n + 1) (gInner A)) (m_depth : MP P w K mg base A j "depth" n fun p => .int p.depth) : MP P w K mg base A (j + 1) "depth" (n + 1) fun p => .int p.depth := by
  intro C hC
  refine (d C hC).cal sc_Part_depth m_P l_P (fun f cdv A outer s H E hr => have hu := hr.units; have hh := hr.hd; have sc := sc_Part_depth
    (ss_one (s_ret (d_add d_int (d_maxD hh (by rfl) n_max (d_lc (x := "part") (caps := []) (cn := []) (cl := []) (comp0 (by rfl) (by rfl) (by decide +kernel) (by decide +kernel) (by decide +kernel)) rfl (i_any (d_m0 m_inner hr (by omega) (dv 0))) (fun C fp s₂ H₂ => pg_name (i := 0) (show (["part"] : List Str).Nodup by decide +kernel) rfl (Or.inl rfl) (.inr rfl)) (fun C fp s₂ H₂ => ts_nil) (fun C fp s₂ H₂ => (d_m0 m_depth hr (by omega) (dv 0)))) d_int))))) ?_
  rintro ds Q ⟨p, rfl, hc, hd, q⟩
  refine vMeth_of m_var noM_inner ⟨_, rfl, rfl⟩ hd ?_
  refine ⟨p.inner.map (Pt.d A), rfl, p.inner.map fun q => some (.int q.depth), by simp, fun i d o hd' ho => ?_, ?_, ?_⟩
  · obtain ⟨r, hr, e1, e2⟩ := inner_at hd' ho
    subst e1 e2
    exact ⟨rfl, fun _ => vMeth_of m_var noM_depth ⟨_, rfl, rfl⟩ (p.in_depth hr hd) rfl⟩
  · rw [List.length_map]; exact Nat.lt_of_le_of_lt p.inner_len (by decide)
  · refine ⟨p.inner.map fun q => (q.depth : Int), 0, ?_, rfl, ?_⟩
    · rw [List.filterMap_map, List.map_map]
      congr 1
      exact filterMap_some _ _
    · have q' : Q (.int (p.depth : Int)) := q
      rw [Pt.depth_inner] at q'
      exact q'
end
end K04

set_option maxHeartbeats 4000000
namespace K04
open PySem PySem.Spec PyProof.Rows L2 DC
section
seal wpAny
variable {P : Program} {w : World} {K : PySem.W.Frag} {mg : Str → Option Value} {base : Heap} {A : Adr} {n j : Nat}
structure DInner (K : PySem.W.Frag) (A : Adr) : Prop where
  given : Dm K A.given "inner" "Part.inner" s_Part_inner ["self"]
  named : Dm K A.named "inner" "Part.inner" s_Part_inner ["self"]
  turned : Dm K A.turned "inner" "Turned.inner" s_Turned_inner ["self"]
  pair : Dm K A.pair "inner" "Pair.inner" s_Pair_inner ["self"]
  choice : Dm K A.choice "inner" "Choice.inner" s_Choice_inner ["self"]
  before : Dm K A.before "inner" "Before.inner" s_Before_inner ["self"]
  led : Dm K A.led "inner" "Led.inner" s_Led_inner ["self"]
  whn : Dm K A.whn "inner" "When.inner" s_When_inner ["self"]
  held : Dm K A.held "inner" "Held.inner" s_Held_inner ["self"]
theorem inner_given (hA : AOk K A) (d : Dm K A.given "inner" "Part.inner" s_Part_inner ["self"]) : Mcal P w K mg base (j + 1) A.given "inner" (sdP A n (gInner A) A.given) [] := by
  refine d.cal sc_Part_inner m_P l_P (fun f cdv A outer s H E hr => have hu := hr.units; have hh := hr.hd; have sc := sc_Part_inner
    (ss_one (s_ret (d_tup a_nil)))) ?_
  rintro ds Q ⟨p, rfl, hc, hd, q⟩
  have c := hA.cl _ (Pt.cls_in A p)
  have no := hA.nof _ (Pt.cls_in A p)
  obtain ⟨v, rfl⟩ := is_given hA hc
  exact ⟨(show 0 ≤ sizeLine by decide), q⟩
theorem inner_named (hA : AOk K A) (d : Dm K A.named "inner" "Part.inner" s_Part_inner ["self"]) : Mcal P w K mg base (j + 1) A.named "inner" (sdP A n (gInner A) A.named) [] := by
  refine d.cal sc_Part_inner m_P l_P (fun f cdv A outer s H E hr => have hu := hr.units; have hh := hr.hd; have sc := sc_Part_inner
    (ss_one (s_ret (d_tup a_nil)))) ?_
  rintro ds Q ⟨p, rfl, hc, hd, q⟩
  have c := hA.cl _ (Pt.cls_in A p)
  have no := hA.nof _ (Pt.cls_in A p)
  obtain ⟨s, rfl⟩ := is_named hA hc
  exact ⟨(show 0 ≤ sizeLine by decide), q⟩
theorem inner_turned (hA : AOk K A) (d : Dm K A.turned "inner" "Turned.inner" s_Turned_inner ["self"]) : Mcal P w K mg base (j + 1) A.turned "inner" (sdP A n (gInner A) A.turned) [] := by
  refine d.cal sc_Turned_inner m_P l_P (fun f cdv A outer s H E hr => have hu := hr.units; have hh := hr.hd; have sc := sc_Turned_inner
    (ss_one (s_ret (d_tup (a_cons (d_fldK K rfl (dv 0) (by rfl)) a_nil))))) ?_
  rintro ds Q ⟨p, rfl, hc, hd, q⟩
  have c := hA.cl _ (Pt.cls_in A p)
  have no := hA.nof _ (Pt.cls_in A p)
  obtain ⟨x, rfl⟩ := is_turned hA hc
  exact (vFld_of rfl c (no _ (by decide)) (by kernel_rfl) ⟨(show 1 ≤ sizeLine by decide), q⟩)
theorem inner_pair (hA : AOk K A) (d : Dm K A.pair "inner" "Pair.inner" s_Pair_inner ["self"]) : Mcal P w K mg base (j + 1) A.pair "inner" (sdP A n (gInner A) A.pair) [] := by
  refine d.cal sc_Pair_inner m_P l_P (fun f cdv A outer s H E hr => have hu := hr.units; have hh := hr.hd; have sc := sc_Pair_inner
    (ss_one (s_ret (d_tup (a_cons (d_fldK K rfl (dv 0) (by rfl)) (a_cons (d_fldK K rfl (dv 0) (by rfl)) a_nil)))))) ?_
  rintro ds Q ⟨p, rfl, hc, hd, q⟩
  have c := hA.cl _ (Pt.cls_in A p)
  have no := hA.nof _ (Pt.cls_in A p)
  obtain ⟨g, x, y, rfl⟩ := is_pair hA hc
  exact (vFld_of rfl c (no _ (by decide)) (by kernel_rfl) (vFld_of rfl c (no _ (by decide)) (by kernel_rfl) ⟨(show 2 ≤ sizeLine by decide), q⟩))
theorem inner_choice (hA : AOk K A) (d : Dm K A.choice "inner" "Choice.inner" s_Choice_inner ["self"]) : Mcal P w K mg base (j + 1) A.choice "inner" (sdP A n (gInner A) A.choice) [] := by
  refine d.cal sc_Choice_inner m_P l_P (fun f cdv A outer s H E hr => have hu := hr.units; have hh := hr.hd; have sc := sc_Choice_inner
    (ss_one (s_ret (d_tup (a_cons (d_fldK K rfl (dv 0) (by rfl)) (a_cons (d_fldK K rfl (dv 0) (by rfl)) (a_cons (d_fldK K rfl (dv 0) (by rfl)) a_nil))))))) ?_
  rintro ds Q ⟨p, rfl, hc, hd, q⟩
  have c := hA.cl _ (Pt.cls_in A p)
  have no := hA.nof _ (Pt.cls_in A p)
  obtain ⟨x, y, z, rfl⟩ := is_choice hA hc
  exact (vFld_of rfl c (no _ (by decide)) (by kernel_rfl) (vFld_of rfl c (no _ (by decide)) (by kernel_rfl) (vFld_of rfl c (no _ (by decide)) (by kernel_rfl) ⟨(show 3 ≤ sizeLine by decide), q⟩)))
theorem inner_before (hA : AOk K A) (d : Dm K A.before "inner" "Before.inner" s_Before_inner ["self"]) : Mcal P w K mg base (j + 1) A.before "inner" (sdP A n (gInner A) A.before) [] := by
  refine d.cal sc_Before_inner m_P l_P (fun f cdv A outer s H E hr => have hu := hr.units; have hh := hr.hd; have sc := sc_Before_inner
    (ss_one (s_ret (d_tup (a_cons (d_fldK K rfl (dv 0) (by rfl)) a_nil))))) ?_
  rintro ds Q ⟨p, rfl, hc, hd, q⟩
  have c := hA.cl _ (Pt.cls_in A p)
  have no := hA.nof _ (Pt.cls_in A p)
  obtain ⟨x, f, rfl⟩ := is_before hA hc
  exact (vFld_of rfl c (no _ (by decide)) (by kernel_rfl) ⟨(show 1 ≤ sizeLine by decide), q⟩)
theorem inner_led (hA : AOk K A) (d : Dm K A.led "inner" "Led.inner" s_Led_inner ["self"]) : Mcal P w K mg base (j + 1) A.led "inner" (sdP A n (gInner A) A.led) [] := by
  refine d.cal sc_Led_inner m_P l_P (fun f cdv A outer s H E hr => have hu := hr.units; have hh := hr.hd; have sc := sc_Led_inner
    (ss_one (s_ret (d_tup (a_cons (d_fldK K rfl (dv 0) (by rfl)) (a_cons (d_fldK K rfl (dv 0) (by rfl)) a_nil)))))) ?_
  rintro ds Q ⟨p, rfl, hc, hd, q⟩
  have c := hA.cl _ (Pt.cls_in A p)
  have no := hA.nof _ (Pt.cls_in A p)
  obtain ⟨x, y, rfl⟩ := is_led hA hc
  exact (vFld_of rfl c (no _ (by decide)) (by kernel_rfl) (vFld_of rfl c (no _ (by decide)) (by kernel_rfl) ⟨(show 2 ≤ sizeLine by decide), q⟩))
theorem inner_whn (hA : AOk K A) (d : Dm K A.whn "inner" "When.inner" s_When_inner ["self"]) : Mcal P w K mg base (j + 1) A.whn "inner" (sdP A n (gInner A) A.whn) [] := by
  refine d.cal sc_When_inner m_P l_P (fun f cdv A outer s H E hr => have hu := hr.units; have hh := hr.hd; have sc := sc_When_inner
    (ss_one (s_ret (d_tup (a_cons (d_fldK K rfl (dv 0) (by rfl)) a_nil))))) ?_
  rintro ds Q ⟨p, rfl, hc, hd, q⟩
  have c := hA.cl _ (Pt.cls_in A p)
  have no := hA.nof _ (Pt.cls_in A p)
  obtain ⟨x, s, rfl⟩ := is_whn hA hc
  exact (vFld_of rfl c (no _ (by decide)) (by kernel_rfl) ⟨(show 1 ≤ sizeLine by decide), q⟩)
theorem inner_held (hA : AOk K A) (d : Dm K A.held "inner" "Held.inner" s_Held_inner ["self"]) : Mcal P w K mg base (j + 1) A.held "inner" (sdP A n (gInner A) A.held) [] := by
  refine d.cal sc_Held_inner m_P l_P (fun f cdv A outer s H E hr => have hu := hr.units; have hh := hr.hd; have sc := sc_Held_inner
    (ss_one (s_ret (d_tup (a_cons (d_fldK K rfl (dv 0) (by rfl)) a_nil))))) ?_
  rintro ds Q ⟨p, rfl, hc, hd, q⟩
  have c := hA.cl _ (Pt.cls_in A p)
  have no := hA.nof _ (Pt.cls_in A p)
  obtain ⟨x, s, f, rfl⟩ := is_held hA hc
  exact (vFld_of rfl c (no _ (by decide)) (by kernel_rfl) ⟨(show 1 ≤ sizeLine by decide), q⟩)
theorem inner_all (hA : AOk K A) (d : DInner K A) (n : Nat) : MP P w K mg base A (j + 1) "inner" n (gInner A) := fun C ⟨p, e⟩ => by
  subst e
  cases p
  · exact inner_given hA d.given
  · exact inner_named hA d.named
  · exact inner_turned hA d.turned
  · exact inner_pair hA d.pair
  · exact inner_choice hA d.choice
  · exact inner_before hA d.before
  · exact inner_led hA d.led
  · exact inner_whn hA d.whn
  · exact inner_held hA d.held
theorem by_depth {m qual : Str} {st : Stmt} {ps : List Str} {g : Pt → D} (d : ∀ C, isP A C → Dm K C m qual st ps) (h : ∀ n j, MP P w K mg base A (j + 1) m n g → MP P w K mg base A (j + 2) m (n + 1) g) : ∀ n, MP P w K mg base A (n + 1) m n g
  | 0 => fun C hC => (Dm.never (j := 1) (d C hC) m_P zero_P)
  | n + 1 => h n n (by_depth d h n)
theorem size_all (hA : AOk K A) (dI : DInner K A) (d : ∀ C, isP A C → Dm K C "size" "Part.size" s_Part_size ["self"]) (n_sum : mg "sum" = none) (n : Nat) : MP P w K mg base A (n + 1) "size" n fun p => .int p.size :=
  by_depth d (fun n j h => size_of d n_sum (inner_all (j := j) hA dI _) h) n
theorem depth_all (hA : AOk K A) (dI : DInner K A) (d : ∀ C, isP A C → Dm K C "depth" "Part.depth" s_Part_depth ["self"]) (n_max : mg "max" = none) (n : Nat) : MP P w K mg base A (n + 1) "depth" n fun p => .int p.depth :=
  by_depth d (fun n j h => depth_of d n_max (inner_all (j := j) hA dI _) h) n
end
end K04

set_option maxHeartbeats 4000000
namespace K04
open PySem PySem.Spec PyProof.Rows L2 DC
structure GI (mg : Str → Option Value) (x : Str) (i : Int) : Prop where
  ex : ∃ t, mg x = some (.int i t)
theorem in_strs (n : Str) (l : List Str) : inD (.str n) (l.map D.str) = l.contains n := by
  unfold inD
  rw [List.any_map, List.contains_eq_any_beq]
  congr 1
  funext x
  show (x == n) = (n == x)
  exact Bool.beq_comm
theorem flat_strs (l : List Str) : (l.map D.str).all flatD = true := by
  rw [List.all_eq_true]
  intro d hd
  obtain ⟨x, _, rfl⟩ := List.mem_map.mp hd
  rfl
def letters : Str := "abcdefghijklmnopqrstuvwxyz"
def signs (x : Str) : List Str := x.cps.toList.map fun c => ⟨#[c]⟩
def inL (c : Str) : Bool := subStr c letters
def letB (x : Str) : Bool := decide ((0 : Int) < (x.length : Int)) && (signs x).all inL
def formB (x : Str) : Bool := decide ((x.length : Int) ≤ 8) && letB x
def keptL : List Str := ["module", "in", "out", "row", "use", "end", "number", "truth", "on", "yes", "no", "not", "and", "or", "if", "before", "then", "when", "held"]
def wordB (x : Str) : Bool := formB x && !keptL.contains x
def dot : Str := "."
def nameB (x : Str) : Bool := if decide (((Txt.split x dot).length : Int) = 1) = true then wordB x else decide (((Txt.split x dot).length : Int) ≤ 4) && (Txt.split x dot).all formB
structure GD (K : PySem.W.Frag) (mg : Str → Option Value) (x : Str) (d : D) : Prop where
  ex : ∃ v u, mg x = some u ∧ RelV v u ∧ ∀ H, Dv K H v d
def sdS (g : Str → D) : SpD := fun ds Q => ∃ x : Str, ds = [.str x] ∧ x.length ≤ 100000 ∧ Q (g x)
theorem m_S {g : Str → D} : MonoS (sdS g) := fun ds P P' f ⟨x, e, h, q⟩ => ⟨x, e, h, f _ q⟩
theorem l_S {g : Str → D} (ds : List D) (Q : D → Prop) (h : sdS g ds Q) : ds.length = 1 := by obtain ⟨x, e, _⟩ := h; rw [e]; rfl
theorem str_len {x : Str} (h : x.length ≤ 100000) : x.length ≤ sizeLine := Nat.le_trans h (by decide)
theorem castB {Q : D → Prop} {a b : Bool} (e : a = b) (q : Q (.bl a)) : Q (.bl b) := e ▸ q
theorem le_sum : ∀ {l : List Nat} {a : Nat}, a ∈ l → a ≤ l.sum
  | b :: l, a, h => by
    rw [List.sum_cons]
    rcases List.mem_cons.mp h with rfl | h
    · exact Nat.le_add_right _ _
    · exact Nat.le_trans (le_sum h) (Nat.le_add_left _ _)
def gLet : D → D
  | .str z => .bl (inL z)
  | _ => .non
def gForm : D → D
  | .str z => .bl (formB z)
  | _ => .non
section
seal wpAny
variable {P : Program} {w : World} {K : PySem.W.Frag} {mg : Str → Option Value} {base : Heap} {A : Adr} {n j : Nat}
theorem c_has_letters (d : Df K mg "has_letters" s_has_letters ["text"]) (n_len : mg "len" = none) (n_all : mg "all" = none) (gl : GD K mg "LETTERS" (.str letters)) : Cal P w K mg base (j + 1) "has_letters" ["text"] (sdS fun x => .bl (letB x)) := by
  obtain ⟨y_LETTERS, u_LETTERS, q_LETTERS, r_LETTERS, v_LETTERS⟩ := gl.ex
  refine d.cal sc_has_letters m_S l_S (fun f cdv A outer s H E hr => have hu := hr.units; have hh := hr.hd; have sc := sc_has_letters
    (ss_one (s_ret (d_and (d_gt (d_len (by rfl) n_len (a_cons (dv 0) a_nil)) d_int) (d_one (d_all hh (by rfl) n_all (a_cons (d_lc (x := "sign") (caps := []) (cn := []) (cl := []) (comp0 (by rfl) (by rfl) (by decide +kernel) (by decide +kernel) (by decide +kernel)) rfl (i_any (dv 0)) (fun C fp s₂ H₂ => pg_name (i := 0) (show (["sign"] : List Str).Nodup by decide +kernel) rfl (Or.inl rfl) (.inr rfl)) (fun C fp s₂ H₂ => ts_nil) (fun C fp s₂ H₂ => (d_in (dv 0) (d_glob (by rfl) q_LETTERS r_LETTERS v_LETTERS) (by rfl)))) a_nil))))))) ?_
  rintro ds Q ⟨x, rfl, hx, q⟩
  refine ⟨_, rfl, _, _, rfl, if_pos (str_len hx), _, rfl, ?_⟩
  cases h : decide ((0 : Int) < (x.length : Int)) with
  | false =>
    have e : letB x = false := by unfold letB; rw [h]; rfl
    exact iteF (castB e q)
  | true =>
    have e : letB x = ((signs x).map inL).all id := by unfold letB; rw [h, List.all_map]; rfl
    refine iteT ⟨_, rfl, _, rfl, mO gLet (x.cps.toList.map fun c => .str ⟨#[c]⟩), mO_len, fun i d o h1 h2 => ?_, ?_, ?_⟩
    · obtain ⟨hd, rfl⟩ := mO_at h1 h2
      obtain ⟨c, _, rfl⟩ := List.mem_map.mp hd
      exact ⟨rfl, fun _ => ⟨_, rfl, _, rfl, rfl⟩⟩
    · rw [List.length_map, Array.length_toList]
      exact Nat.lt_of_le_of_lt hx (by decide)
    · rw [mO_out]
      refine ⟨(signs x).map inL, ?_, castB e q⟩
      unfold signs
      rw [List.map_map, List.map_map, List.map_map]
      rfl
theorem c_has_word_form (d : Df K mg "has_word_form" s_has_word_form ["text"]) (n_len : mg "len" = none) (g : GI mg "LONGEST_WORD" 8) (c_has_letters : Cal P w K mg base j "has_letters" ["text"] (sdS fun x => .bl (letB x))) :
    Cal P w K mg base (j + 1) "has_word_form" ["text"] (sdS fun x => .bl (formB x)) := by
  obtain ⟨t1, q_LONGEST_WORD⟩ := g.ex
  have r_LONGEST_WORD : RelV (.int 8) (.int 8 t1) := ⟨_, rfl⟩
  have v_LONGEST_WORD : ∀ H, Dv K H (.int 8) (.int 8) := fun _ => .int _
  refine d.cal sc_has_word_form m_S l_S (fun f cdv A outer s H E hr => have hu := hr.units; have hh := hr.hd; have sc := sc_has_word_form
    (ss_one (s_ret (d_and (d_le (d_len (by rfl) n_len (a_cons (dv 0) a_nil)) (d_glob (by rfl) q_LONGEST_WORD r_LONGEST_WORD v_LONGEST_WORD)) (d_one (d_cal c_has_letters hr (by omega) (by rfl) (a_cons (dv 0) a_nil))))))) ?_
  rintro ds Q ⟨x, rfl, hx, q⟩
  refine ⟨_, rfl, _, _, rfl, if_pos (str_len hx), _, rfl, ?_⟩
  cases h : decide ((x.length : Int) ≤ 8) with
  | false =>
    have e : formB x = false := by unfold formB; rw [h]; rfl
    exact iteF (castB e q)
  | true =>
    have e : formB x = letB x := by unfold formB; rw [h]; rfl
    exact iteT ⟨_, rfl, x, rfl, hx, castB e q⟩
theorem c_is_word (d : Df K mg "is_word" s_is_word ["thing"]) (gk : GD K mg "KEPT_WORDS" (.tup (keptL.map D.str))) (c_has_word_form : Cal P w K mg base j "has_word_form" ["text"] (sdS fun x => .bl (formB x))) :
    Cal P w K mg base (j + 1) "is_word" ["thing"] (sdS fun x => .bl (wordB x)) := by
  obtain ⟨y_KEPT_WORDS, u_KEPT_WORDS, q_KEPT_WORDS, r_KEPT_WORDS, v_KEPT_WORDS⟩ := gk.ex
  refine d.cal sc_is_word m_S l_S (fun f cdv A outer s H E hr => have hu := hr.units; have hh := hr.hd; have sc := sc_is_word
    (ss_one (s_ret (d_and (d_cal c_has_word_form hr (by omega) (by rfl) (a_cons (dv 0) a_nil)) (d_one (d_notin (dv 0) (d_glob (by rfl) q_KEPT_WORDS r_KEPT_WORDS v_KEPT_WORDS) (by rfl))))))) ?_
  rintro ds Q ⟨x, rfl, hx, q⟩
  refine ⟨_, rfl, x, rfl, hx, _, rfl, ?_⟩
  cases h : formB x with
  | false =>
    have e : wordB x = false := by unfold wordB; rw [h]; rfl
    exact iteF (castB e q)
  | true =>
    have e : wordB x = !inD (.str x) (keptL.map D.str) := by unfold wordB; rw [h, in_strs]; rfl
    exact iteT ⟨_, rfl, rfl, flat_strs _, castB e q⟩
theorem c_is_name (d : Df K mg "is_name" s_is_name ["thing"]) (n_len : mg "len" = none) (n_all : mg "all" = none) (g : GI mg "MOST_WORDS" 4) (c_is_word : Cal P w K mg base j "is_word" ["thing"] (sdS fun x => .bl (wordB x)))
    (c_has_word_form : Cal P w K mg base j "has_word_form" ["text"] (sdS fun x => .bl (formB x))) : Cal P w K mg base (j + 1) "is_name" ["thing"] (sdS fun x => .bl (nameB x)) := by
  obtain ⟨t1, q_MOST_WORDS⟩ := g.ex
  have r_MOST_WORDS : RelV (.int 4) (.int 4 t1) := ⟨_, rfl⟩
  have v_MOST_WORDS : ∀ H, Dv K H (.int 4) (.int 4) := fun _ => .int _
  refine d.cal sc_is_name m_S l_S (fun f cdv A outer s H E hr => have hu := hr.units; have hh := hr.hd; have sc := sc_is_name
    (ss_cons (s_set (i := 1) sc.nd rfl (Or.inl rfl) (d_split (dv 0) (a_cons d_str a_nil)))
  (ss_cons (s_if (t_eq hu (d_len (by rfl) n_len (a_cons (dv 1) a_nil)) d_int) (ss_one (s_ret (d_cal c_is_word hr (by omega) (by rfl) (a_cons (dv 0) a_nil)))) ss_nil)
  (ss_one (s_ret (d_and (d_le (d_len (by rfl) n_len (a_cons (dv 1) a_nil)) (d_glob (by rfl) q_MOST_WORDS r_MOST_WORDS v_MOST_WORDS)) (d_one (d_all hh (by rfl) n_all (a_cons (d_lc (x := "word") (caps := []) (cn := []) (cl := []) (comp0 (by rfl) (by rfl) (by decide +kernel) (by decide +kernel) (by decide +kernel)) rfl (i_any (dv 1)) (fun C fp s₂ H₂ => pg_name (i := 0) (show (["word"] : List Str).Nodup by decide +kernel) rfl (Or.inl rfl) (.inr rfl)) (fun C fp s₂ H₂ => ts_nil) (fun C fp s₂ H₂ => (d_cal c_has_word_form hr (by omega) (by rfl) (a_cons (dv 0) a_nil)))) a_nil))))))))) ?_
  rintro ds Q ⟨x, rfl, hx, q⟩
  have hs := split_le x dot
  refine ⟨_, rfl, ⟨x, rfl⟩, x, dot, rfl, rfl, rfl, Nat.le_trans (Nat.add_le_add_right hx 2) (by decide), ?_⟩
  refine ⟨_, rfl, _, _, rfl, rfl, _, rfl, ?_⟩
  show if decide ((((Txt.split x dot).map D.str).length : Int) = 1) = true then _ else _
  rw [List.length_map]
  cases h : decide (((Txt.split x dot).length : Int) = 1) with
  | true =>
    have e : nameB x = wordB x := by unfold nameB; rw [h]; rfl
    exact iteT ⟨_, rfl, x, rfl, hx, castB e q⟩
  | false =>
    refine iteF ⟨_, rfl, _, _, rfl, rfl, _, rfl, ?_⟩
    show if decide ((((Txt.split x dot).map D.str).length : Int) ≤ 4) = true then _ else _
    rw [List.length_map]
    cases h2 : decide (((Txt.split x dot).length : Int) ≤ 4) with
    | false =>
      have e : nameB x = false := by unfold nameB; rw [h, h2]; rfl
      exact iteF (castB e q)
    | true =>
      have e : nameB x = ((Txt.split x dot).map formB).all id := by unfold nameB; rw [h, h2, List.all_map]; rfl
      refine iteT ⟨_, rfl, _, rfl, mO gForm ((Txt.split x dot).map D.str), mO_len, fun i d o h1 h2 => ?_, ?_, ?_⟩
      · obtain ⟨hd, rfl⟩ := mO_at h1 h2
        obtain ⟨c, hc, rfl⟩ := List.mem_map.mp hd
        refine ⟨rfl, fun _ => ⟨_, rfl, c, rfl, ?_, rfl⟩⟩
        have hw := split_weight x dot (by decide)
        have hc2 : c.length ∈ (Txt.split x dot).map (·.length) := List.mem_map.mpr ⟨c, hc, rfl⟩
        have := le_sum hc2
        have hp := split_pos x dot
        omega
      · rw [List.length_map]
        exact Nat.lt_of_le_of_lt hs (Nat.lt_of_le_of_lt (Nat.add_le_add_right hx 2) (by decide))
      · rw [mO_out]
        refine ⟨(Txt.split x dot).map formB, ?_, castB e q⟩
        rw [List.map_map, List.map_map]
        rfl
def numD : D → Bool
  | .int i => decide (-128 ≤ i) && decide (i ≤ 127)
  | _ => false
def valD : D → Bool
  | .bl _ => true
  | d => numD d
def sdA (g : D → D) : SpD := fun ds Q => ∃ d, ds = [d] ∧ (kindD d).isSome = true ∧ Q (g d)
theorem m_A {g : D → D} : MonoS (sdA g) := fun ds P P' f ⟨x, e, h, q⟩ => ⟨x, e, h, f _ q⟩
theorem l_A {g : D → D} (ds : List D) (Q : D → Prop) (h : sdA g ds Q) : ds.length = 1 := by obtain ⟨x, e, _⟩ := h; rw [e]; rfl
theorem c_is_number (d : Df K mg "is_number" s_is_number ["thing"]) (n_isinstance : mg "isinstance" = none) (n_bool : mg "bool" = none) (n_int : mg "int" = none) (g1 : GI mg "LOWEST" (-128)) (g2 : GI mg "HIGHEST" 127) : Cal P w K mg base (j + 1) "is_number" ["thing"] (sdA fun d => .bl (numD d)) := by
  obtain ⟨t1, q_LOWEST⟩ := g1.ex
  obtain ⟨t2, q_HIGHEST⟩ := g2.ex
  have r_LOWEST : RelV (.int (-128)) (.int (-128) t1) := ⟨_, rfl⟩
  have r_HIGHEST : RelV (.int 127) (.int 127 t2) := ⟨_, rfl⟩
  have v_LOWEST : ∀ H, Dv K H (.int (-128)) (.int (-128)) := fun _ => .int _
  have v_HIGHEST : ∀ H, Dv K H (.int 127) (.int 127) := fun _ => .int _
  refine d.cal sc_is_number m_A l_A (fun f cdv A outer s H E hr => have hu := hr.units; have hh := hr.hd; have sc := sc_is_number
    (ss_cons (s_if (PWd.td (w_or (t_tru (isi_bool (by rfl) n_isinstance (by rfl) n_bool (dv 0))) (w_or1 (t_not (t_tru (isi_int (by rfl) n_isinstance (by rfl) n_int (dv 0))))))) (ss_one (s_ret d_bl)) ss_nil)
  (ss_one (s_ret (d_lele (d_glob (by rfl) q_LOWEST r_LOWEST v_LOWEST) (dv 0) (d_glob (by rfl) q_HIGHEST r_HIGHEST v_HIGHEST)))))) ?_
  rintro ds Q ⟨x, rfl, hk, q⟩
  cases x with
  | bl b => exact ⟨_, rfl, true, rfl, _, rfl, iteT q⟩
  | int i =>
    refine ⟨_, rfl, false, rfl, _, rfl, iteF ⟨_, rfl, true, rfl, _, rfl, iteF ⟨_, rfl, _, rfl, ?_⟩⟩⟩
    have q' : Q (.bl (decide (-128 ≤ i) && decide (i ≤ 127))) := q
    by_cases h : (-128 : Int) ≤ i
    · rw [decide_eq_true h] at q' ⊢
      exact iteT q'
    · rw [decide_eq_false h] at q' ⊢
      exact iteF q'
  | obj _ _ => cases hk
  | adr _ => cases hk
  | exc _ _ _ => cases hk
  | _ => exact ⟨_, rfl, false, rfl, _, rfl, iteF ⟨_, rfl, false, rfl, _, rfl, iteT q⟩⟩
theorem c_is_value (d : Df K mg "is_value" s_is_value ["thing"]) (n_isinstance : mg "isinstance" = none) (n_bool : mg "bool" = none) (c_is_number : Cal P w K mg base j "is_number" ["thing"] (sdA fun d => .bl (numD d))) : Cal P w K mg base (j + 1) "is_value" ["thing"] (sdA fun d => .bl (valD d)) := by
  refine d.cal sc_is_value m_A l_A (fun f cdv A outer s H E hr => have hu := hr.units; have hh := hr.hd; have sc := sc_is_value
    (ss_one (s_ret (d_or (isi_bool (by rfl) n_isinstance (by rfl) n_bool (dv 0)) (d_one (d_cal c_is_number hr (by omega) (by rfl) (a_cons (dv 0) a_nil))))))) ?_
  rintro ds Q ⟨x, rfl, hk, q⟩
  cases x with
  | bl b => exact ⟨_, rfl, true, rfl, _, rfl, iteT q⟩
  | obj _ _ => cases hk
  | adr _ => cases hk
  | exc _ _ _ => cases hk
  | _ => exact ⟨_, rfl, false, rfl, _, rfl, iteF ⟨_, rfl, _, rfl, rfl, q⟩⟩
end
end K04

-- gen set Xf need_name need_first part_of plain_by timed_by _law_chain _law_wide _law_made _law_two_right _law_deep_right _law_tried
-- gen set Xc Given Named Turned Pair Choice Before Led When Held
-- gen set Xm need_bounds
set_option maxHeartbeats 4000000
namespace K04
open PySem PySem.Spec PyProof.Rows L2 DC
structure EA where
  noPart : Addr
  noName : Addr
inductive Er where
  | part | name
def EA.r (e : EA) (R : XR) : Er → Prop
  | .part => R e.noPart []
  | .name => R e.noName []
theorem EA.mono {e : EA} {R R' : XR} (g : ∀ C gs, R C gs → R' C gs) {k : Er} (h : e.r R k) : e.r R' k := by cases k <;> exact g _ _ h
structure EOk (K : PySem.W.Frag) (mg : Str → Option Value) (e : EA) : Prop where
  iP : mg "NoPart" = some (.ref e.noPart)
  iN : mg "NoName" = some (.ref e.noName)
  eP : PySem.W.excIn K e.noPart [.type "ValueError", .type "Exception", .type "BaseException", .type "object"] "ValueError.__new__" = true
  eN : PySem.W.excIn K e.noName [.type "ValueError", .type "Exception", .type "BaseException", .type "object"] "ValueError.__new__" = true
theorem ifM {b : Bool} {A A' B B' : Prop} (h : if b = true then A else B) (f : A → A') (g : B → B') : if b = true then A' else B' := by
  cases b with
  | true => exact iteT (f (by simpa using h))
  | false => exact iteF (g (by simpa using h))
theorem ofT {A B : Prop} (h : if true = true then A else B) : A := by simpa using h
theorem ofF {A B : Prop} (h : if false = true then A else B) : B := by simpa using h
def bB (p : Pt) : Bool := decide (p.depth ≤ 10) && decide (p.size ≤ 40)
def isNon : D → Bool
  | .non => true
  | _ => false
def firstB (d : D) : Bool := isNon d || valD d
theorem noM_bounds : noM "need_bounds" := by unfold noM; decide +kernel
def sxB (A : Adr) (ea : EA) (n : Nat) (C : Addr) : SpX := fun ds Q R => ∃ p : Pt, ds = [p.d A] ∧ p.cls A = C ∧ p.depth ≤ n ∧ if bB p = true then Q .non else ea.r R .part
theorem vMethX_of {A : Adr} {xk : SD → XR} {sm : Addr → SpX} {m : Str} {ta : ED} {δ : SD} {p : Pt} {Q : D → Prop} (mt : MonoE ta) (hm : noM m) (h : ta δ fun d => d = p.d A) (q : sm (p.cls A) [p.d A] Q (xk δ)) : vMethX xk (isP A) m sm ta aNil δ Q := mt _ _ _ (fun d e => by
  obtain ⟨gs, e1, e2⟩ := no_meth A hm p
  exact ⟨p.cls A, gs, e.trans e1, e2, ⟨p, rfl⟩, by rw [e]; exact q⟩) h
theorem putD_len (f : Str) (d : D) : ∀ gs : FD, (putD f d gs).length ≤ gs.length + 1
  | [] => Nat.le_refl _
  | (g, e) :: r => by
    unfold putD
    split
    · exact Nat.le_succ _
    · exact Nat.succ_le_succ (putD_len f d r)
theorem pl0 : ([] : FD).length < 1000 := by decide
theorem pl1 {f : Str} {d : D} : (putD f d []).length < 1000 := Nat.lt_of_le_of_lt (putD_len f d []) (by decide)
theorem pl2 {f g : Str} {d e : D} : (putD f d (putD g e [])).length < 1000 := Nat.lt_of_le_of_lt (Nat.le_trans (putD_len f d _) (Nat.succ_le_succ (putD_len g e []))) (by decide)
def sxNm (ea : EA) : SpX := fun ds Q R => ∃ x : Str, ds = [.str x] ∧ x.length ≤ 100000 ∧ if nameB x = true then Q .non else ea.r R .name
def sxFirst (ea : EA) : SpX := fun ds Q R => ∃ d : D, ds = [d] ∧ (kindD d).isSome = true ∧ if firstB d = true then Q .non else ea.r R .part
theorem m_sxNm {ea : EA} : MonoX (sxNm ea) := fun ds P P' R R' f g ⟨x, e, hx, h⟩ => ⟨x, e, hx, ifM h (f _) (EA.mono g)⟩
theorem m_sxFirst {ea : EA} : MonoX (sxFirst ea) := fun ds P P' R R' f g ⟨x, e, hx, h⟩ => ⟨x, e, hx, ifM h (f _) (EA.mono g)⟩
theorem m_sxB {A : Adr} {ea : EA} {n : Nat} {C : Addr} : MonoX (sxB A ea n C) := fun ds P P' R R' f g ⟨x, e, c, hx, h⟩ => ⟨x, e, c, hx, ifM h (f _) (EA.mono g)⟩
section
seal wpAny
variable {P : Program} {w : World} {K : PySem.W.Frag} {mg : Str → Option Value} {base : Heap} {A : Adr} {n j : Nat} {ea : EA}
theorem cx_need_name (d : Df K mg "need_name" s_need_name ["name"]) (eo : EOk K mg ea) (c_is_name : Cal P w K mg base j "is_name" ["thing"] (sdS fun x => .bl (nameB x))) : CalX P w K mg base (j + 1) "need_name" ["name"] (sxNm ea) := by
  have i_NoName := eo.iN
  have e_NoName := eo.eN
  refine d.calX sc_need_name m_sxNm (fun ds Q R ⟨x, e, _⟩ => by rw [e]; rfl) (fun f cdv A outer s H E R hr hx => have hu := hr.units; have hh := hr.hd; have sc := sc_need_name
    (ss_one (s_if (t_not (t_tru (d_cal c_is_name hr (by omega) (by rfl) (a_cons (dv 0) a_nil)))) (ss_one (s_raise hx rfl rfl (by rfl) i_NoName e_NoName (a_cons d_str a_nil))) ss_nil))) ?_
  rintro ds Q R ⟨x, rfl, hx, h⟩
  cases hn : nameB x with
  | true => rw [hn] at h; exact ⟨_, rfl, x, rfl, hx, true, congrArg some hn, iteF (ofT h)⟩
  | false => rw [hn] at h; exact ⟨_, rfl, x, rfl, hx, false, congrArg some hn, iteT ⟨(show 1 ≤ sizeLine by decide), ofF h⟩⟩
theorem cx_need_first (d : Df K mg "need_first" s_need_first ["first"]) (eo : EOk K mg ea) (c_is_value : Cal P w K mg base j "is_value" ["thing"] (sdA fun d => .bl (valD d))) : CalX P w K mg base (j + 1) "need_first" ["first"] (sxFirst ea) := by
  have i_NoPart := eo.iP
  have e_NoPart := eo.eP
  refine d.calX sc_need_first m_sxFirst (fun ds Q R ⟨x, e, _⟩ => by rw [e]; rfl) (fun f cdv A outer s H E R hr hx => have hu := hr.units; have hh := hr.hd; have sc := sc_need_first
    (ss_one (s_if (PWd.td (w_and (t_isnot (dv 0) d_non) (w_and1 (t_not (t_tru (d_cal c_is_value hr (by omega) (by rfl) (a_cons (dv 0) a_nil))))))) (ss_one (s_raise hx rfl rfl (by rfl) i_NoPart e_NoPart (a_cons d_str a_nil))) ss_nil))) ?_
  rintro ds Q R ⟨x, rfl, hk, h⟩
  cases x with
  | non => exact ⟨_, rfl, _, rfl, iteF (ofT h)⟩
  | obj _ _ => cases hk
  | adr _ => cases hk
  | exc _ _ _ => cases hk
  | bl b => exact ⟨_, rfl, true, rfl, iteT ⟨_, rfl, _, rfl, hk, true, rfl, iteF (ofT h)⟩⟩
  | int i =>
    have h' : if valD (.int i) = true then Q .non else ea.r R .part := h
    cases hv : valD (.int i) with
    | true => rw [hv] at h'; exact ⟨_, rfl, true, rfl, iteT ⟨_, rfl, _, rfl, hk, true, congrArg some hv, iteF (ofT h')⟩⟩
    | false => rw [hv] at h'; exact ⟨_, rfl, true, rfl, iteT ⟨_, rfl, _, rfl, hk, false, congrArg some hv, iteT ⟨(show 1 ≤ sizeLine by decide), ofF h'⟩⟩⟩
  | _ => exact ⟨_, rfl, true, rfl, iteT ⟨_, rfl, _, rfl, hk, false, rfl, iteT ⟨(show 1 ≤ sizeLine by decide), ofF h⟩⟩⟩
theorem bounds_X (d : ∀ C, isP A C → Dm K C "need_bounds" "Part.need_bounds" s_Part_need_bounds ["self"]) (eo : EOk K mg ea) (m_depth : MP P w K mg base A j "depth" n fun p => .int p.depth) (m_size : MP P w K mg base A j "size" n fun p => .int p.size) (g1 : GI mg "DEEPEST" 10) (g2 : GI mg "LARGEST" 40) :
    ∀ C, isP A C → McalX P w K mg base (j + 1) C "need_bounds" (sxB A ea n C) := by
  have i_NoPart := eo.iP
  have e_NoPart := eo.eP
  obtain ⟨t1, q_DEEPEST⟩ := g1.ex
  obtain ⟨t2, q_LARGEST⟩ := g2.ex
  have r_DEEPEST : RelV (.int 10) (.int 10 t1) := ⟨_, rfl⟩
  have r_LARGEST : RelV (.int 40) (.int 40 t2) := ⟨_, rfl⟩
  have v_DEEPEST : ∀ H, Dv K H (.int 10) (.int 10) := fun _ => .int _
  have v_LARGEST : ∀ H, Dv K H (.int 40) (.int 40) := fun _ => .int _
  intro C hC
  refine (d C hC).calX sc_Part_need_bounds m_sxB (fun ds Q R ⟨x, e, _⟩ => by rw [e]; rfl) (fun f cdv A outer s H E R hr hx => have hu := hr.units; have hh := hr.hd; have sc := sc_Part_need_bounds
    (ss_one (s_if (PWd.td (w_or (t_gt (d_m0 m_depth hr (by omega) (dv 0)) (d_glob (by rfl) q_DEEPEST r_DEEPEST v_DEEPEST)) (w_or1 (t_gt (d_m0 m_size hr (by omega) (dv 0)) (d_glob (by rfl) q_LARGEST r_LARGEST v_LARGEST))))) (ss_one (s_raise hx rfl rfl (by rfl) i_NoPart e_NoPart (a_cons d_str a_nil))) ss_nil))) ?_
  rintro ds Q R ⟨p, rfl, hc, hd, h⟩
  refine vMeth_of (p := p) m_var noM_depth ⟨_, rfl, rfl⟩ hd ⟨_, rfl, ?_⟩
  show if decide ((10 : Int) < p.depth) = true then _ else _
  by_cases h1 : p.depth ≤ 10
  · rw [decide_eq_false (show ¬ (10 : Int) < p.depth by omega)]
    refine iteF (vMeth_of (p := p) m_var noM_size ⟨_, rfl, rfl⟩ hd ⟨_, rfl, ?_⟩)
    show if decide ((40 : Int) < p.size) = true then _ else _
    by_cases h2 : p.size ≤ 40
    · rw [decide_eq_false (show ¬ (40 : Int) < p.size by omega)]
      rw [show bB p = true by simp [bB, h1, h2]] at h
      exact iteF (ofT h)
    · rw [decide_eq_true (show (40 : Int) < p.size by omega)]
      rw [show bB p = false by simp [bB, h1]; omega] at h
      exact iteT ⟨(show 1 ≤ sizeLine by decide), ofF h⟩
  · rw [decide_eq_true (show (10 : Int) < p.depth by omega)]
    rw [show bB p = false by simp [bB]; omega] at h
    exact iteT ⟨(show 1 ≤ sizeLine by decide), ofF h⟩
abbrev MB (P : Program) (w : World) (K : PySem.W.Frag) (mg : Str → Option Value) (base : Heap) (A : Adr) (ea : EA) (j n : Nat) : Prop := ∀ C, isP A C → McalX P w K mg base j C "need_bounds" (sxB A ea n C)
def sxGiven (ea : EA) : SpIX := fun ds Q R => ∃ d : D, ds = [d] ∧ (kindD d).isSome = true ∧ if valD d = true then Q [("value", d)] else ea.r R .part
theorem kx_given (hA : AOk K A) (eo : EOk K mg ea) (d : Di K mg "Given" A.given "Given.__init__" s_Given___init__ ["self", "value"] []) (c_is_value : Cal P w K mg base j "is_value" ["thing"] (sdA fun d => .bl (valD d))) : MkrX P w K mg base (j + 1) "Given" A.given (sxGiven ea) [] := by
  have i_NoPart := eo.iP
  have e_NoPart := eo.eP
  have hc := hA.cl A.given (by simp)
  have hn := hA.nof A.given (by simp)
  refine d.mkrX sc_Given___init__ (fun ds P P' R R' f g ⟨v, e, k, h⟩ => ⟨v, e, k, ifM h (f _) (EA.mono g)⟩) (fun ds Q R ⟨v, e, _⟩ => by rw [e]; rfl) (fun f cdv A outer s H E R hr hx => have hu := hr.units; have hh := hr.hd; have sc := sc_Given___init__
    (i_cons (i_free (s_if (t_not (t_tru (d_cal c_is_value hr (by omega) (by rfl) (a_cons (dv 1) a_nil)))) (ss_one (s_raise hx rfl rfl (by rfl) i_NoPart e_NoPart (a_cons d_str a_nil))) ss_nil))
  (i_cons (i_setK K rfl rfl (Or.inl rfl) (dv 1))
  i_nil))) ?_
  rintro a ds Q R ⟨v, rfl, hk, h⟩
  refine ⟨_, rfl, v, rfl, hk, valD v, rfl, ?_⟩
  cases hv : valD v with
  | true => rw [hv] at h; exact iteF ⟨_, rfl, rfl, hc, hn _ (by decide), pl0, ofT h⟩
  | false => rw [hv] at h; exact iteT ⟨(show 1 ≤ sizeLine by decide), ofF h⟩
def sxNamed (ea : EA) : SpIX := fun ds Q R => ∃ x : Str, ds = [.str x] ∧ x.length ≤ 100000 ∧ if nameB x = true then Q [("name", .str x)] else ea.r R .name
theorem kx_named (hA : AOk K A) (d : Di K mg "Named" A.named "Named.__init__" s_Named___init__ ["self", "name"] []) (cx_need_name : CalX P w K mg base j "need_name" ["name"] (sxNm ea)) : MkrX P w K mg base (j + 1) "Named" A.named (sxNamed ea) [] := by
  have hc := hA.cl A.named (by simp)
  have hn := hA.nof A.named (by simp)
  refine d.mkrX sc_Named___init__ (fun ds P P' R R' f g ⟨v, e, k, h⟩ => ⟨v, e, k, ifM h (f _) (EA.mono g)⟩) (fun ds Q R ⟨v, e, _⟩ => by rw [e]; rfl) (fun f cdv A outer s H E R hr hx => have hu := hr.units; have hh := hr.hd; have sc := sc_Named___init__
    (i_cons (i_free (s_expr (d_calX hx cx_need_name hr (by omega) (by rfl) (a_cons (dv 1) a_nil))))
  (i_cons (i_setK K rfl rfl (Or.inl rfl) (dv 1))
  i_nil))) ?_
  rintro a ds Q R ⟨x, rfl, hx, h⟩
  exact ⟨_, rfl, x, rfl, hx, ifM h (fun q => ⟨_, rfl, rfl, hc, hn _ (by decide), pl0, q⟩) fun z => z⟩
end
end K04

-- gen set Xf need_name need_first part_of plain_by timed_by _law_chain _law_wide _law_made _law_two_right _law_deep_right _law_tried
-- gen set Xc Given Named Turned Pair Choice Before Led When Held
-- gen set Xm need_bounds
set_option maxHeartbeats 4000000
namespace K04
open PySem PySem.Spec PyProof.Rows L2 DC
def nn : D := .tup [.str "number", .str "number"]
def nt : D := .tup [.str "number", .str "truth"]
def tt : D := .tup [.str "truth", .str "truth"]
def signsT : List (Str × D) := [("+", nn), ("-", nn), ("*", nn), ("=", .tup [.non, .str "truth"]), ("<", nt), ("<=", nt), ("and", tt), ("or", tt)]
def signB (g : Str) : Bool := signsT.any fun p => p.1 == g
theorem iRest_of {A : Adr} {xk : SD → XR} {sm : Addr → SpX} {m : Str} {C a : Addr} {E : EndsI} {δ : SD} {gs : FD} (p : Pt) (hm : noM m) (h : (δ.set 0 (some (.obj C gs)))[0]? = some (some (p.d A))) (q : sm (p.cls A) [p.d A] (fun _ => E.fin gs) (xk (δ.set 0 (some (.obj C gs))))) : iRest C (qDrop (vMethX xk (isP A) m sm (vVar 0) aNil)) a E δ gs := by
  show vMethX xk (isP A) m sm (vVar 0) aNil (δ.set 0 (some (.obj C gs))) (fun _ => E.fin gs)
  exact vMethX_of (p := p) m_var hm ⟨_, h, rfl⟩ q
section
seal wpAny
variable {P : Program} {w : World} {K : PySem.W.Frag} {mg : Str → Option Value} {base : Heap} {A : Adr} {n j : Nat} {ea : EA}
def sxTurned (A : Adr) (ea : EA) (n : Nat) : SpIX := fun ds Q R => ∃ p : Pt, ds = [p.d A] ∧ (Pt.turned p).depth ≤ n ∧ if bB (.turned p) = true then Q [("part", p.d A)] else ea.r R .part
theorem kx_turned (hA : AOk K A) (d : Di K mg "Turned" A.turned "Turned.__init__" s_Turned___init__ ["self", "part"] []) (mx_need_bounds : MB P w K mg base A ea j n) : MkrX P w K mg base (j + 1) "Turned" A.turned (sxTurned A ea n) [] := by
  have hc := hA.cl A.turned (by simp)
  have hn := hA.nof A.turned (by simp)
  refine d.mkrX sc_Turned___init__ (fun ds P P' R R' f g ⟨p, e, k, h⟩ => ⟨p, e, k, ifM h (f _) (EA.mono g)⟩) (fun ds Q R ⟨p, e, _⟩ => by rw [e]; rfl) (fun f cdv A outer s H E R hr hx => have hu := hr.units; have hh := hr.hd; have sc := sc_Turned___init__
    (i_cons (i_setK K rfl rfl (Or.inl rfl) (dv 1))
  (i_rest (ss_one (s_expr (d_mX0 hx mx_need_bounds hr (by omega) (dv 0))))))) ?_
  rintro a ds Q R ⟨p, rfl, hd, h⟩
  exact ⟨_, rfl, rfl, hc, hn _ (by decide), pl0, rfl, iRest_of (.turned p) noM_bounds rfl ⟨_, rfl, rfl, hd, h⟩⟩
def sxChoice (A : Adr) (ea : EA) (n : Nat) : SpIX := fun ds Q R => ∃ t x y : Pt, ds = [t.d A, x.d A, y.d A] ∧ (Pt.choice t x y).depth ≤ n ∧ if bB (.choice t x y) = true then Q [("truth", t.d A), ("one", x.d A), ("other", y.d A)] else ea.r R .part
theorem kx_choice (hA : AOk K A) (d : Di K mg "Choice" A.choice "Choice.__init__" s_Choice___init__ ["self", "truth", "one", "other"] []) (mx_need_bounds : MB P w K mg base A ea j n) : MkrX P w K mg base (j + 1) "Choice" A.choice (sxChoice A ea n) [] := by
  have hc := hA.cl A.choice (by simp)
  have hn := hA.nof A.choice (by simp)
  refine d.mkrX sc_Choice___init__ (fun ds P P' R R' f g ⟨t, x, y, e, k, h⟩ => ⟨t, x, y, e, k, ifM h (f _) (EA.mono g)⟩) (fun ds Q R ⟨t, x, y, e, _⟩ => by rw [e]; rfl) (fun f cdv A outer s H E R hr hx => have hu := hr.units; have hh := hr.hd; have sc := sc_Choice___init__
    (i_cons (i_setK K rfl rfl (Or.inl rfl) (dv 1))
  (i_cons (i_setK K rfl rfl (Or.inl rfl) (dv 2))
  (i_cons (i_setK K rfl rfl (Or.inl rfl) (dv 3))
  (i_rest (ss_one (s_expr (d_mX0 hx mx_need_bounds hr (by omega) (dv 0))))))))) ?_
  rintro a ds Q R ⟨t, x, y, rfl, hd, h⟩
  exact ⟨_, rfl, rfl, hc, hn _ (by decide), pl0, _, rfl, rfl, hc, hn _ (by decide), pl1, _, rfl, rfl, hc, hn _ (by decide), pl2, rfl, iRest_of (.choice t x y) noM_bounds rfl ⟨_, rfl, rfl, hd, h⟩⟩
def sxLed (A : Adr) (ea : EA) (n : Nat) : SpIX := fun ds Q R => ∃ x y : Pt, ds = [x.d A, y.d A] ∧ (Pt.led x y).depth ≤ n ∧ if bB (.led x y) = true then Q [("head", x.d A), ("rest", y.d A)] else ea.r R .part
theorem kx_led (hA : AOk K A) (d : Di K mg "Led" A.led "Led.__init__" s_Led___init__ ["self", "head", "rest"] []) (mx_need_bounds : MB P w K mg base A ea j n) : MkrX P w K mg base (j + 1) "Led" A.led (sxLed A ea n) [] := by
  have hc := hA.cl A.led (by simp)
  have hn := hA.nof A.led (by simp)
  refine d.mkrX sc_Led___init__ (fun ds P P' R R' f g ⟨x, y, e, k, h⟩ => ⟨x, y, e, k, ifM h (f _) (EA.mono g)⟩) (fun ds Q R ⟨x, y, e, _⟩ => by rw [e]; rfl) (fun f cdv A outer s H E R hr hx => have hu := hr.units; have hh := hr.hd; have sc := sc_Led___init__
    (i_cons (i_setK K rfl rfl (Or.inl rfl) (dv 1))
  (i_cons (i_setK K rfl rfl (Or.inl rfl) (dv 2))
  (i_rest (ss_one (s_expr (d_mX0 hx mx_need_bounds hr (by omega) (dv 0)))))))) ?_
  rintro a ds Q R ⟨x, y, rfl, hd, h⟩
  exact ⟨_, rfl, rfl, hc, hn _ (by decide), pl0, _, rfl, rfl, hc, hn _ (by decide), pl1, rfl, iRest_of (.led x y) noM_bounds rfl ⟨_, rfl, rfl, hd, h⟩⟩
def sxBefore (A : Adr) (ea : EA) (n : Nat) : SpIX := fun ds Q R => ∃ (p : Pt) (f : D), ds = [p.d A, f] ∧ (kindD f).isSome = true ∧ (Pt.before p f).depth ≤ n ∧ if firstB f = true then (if bB (.before p f) = true then Q [("part", p.d A), ("first", f)] else ea.r R .part) else ea.r R .part
theorem kx_before {dd : List D} (hA : AOk K A) (d : Di K mg "Before" A.before "Before.__init__" s_Before___init__ ["self", "part", "first"] dd) (cx_need_first : CalX P w K mg base j "need_first" ["first"] (sxFirst ea)) (mx_need_bounds : MB P w K mg base A ea j n) : MkrX P w K mg base (j + 1) "Before" A.before (sxBefore A ea n) dd := by
  have hc := hA.cl A.before (by simp)
  have hn := hA.nof A.before (by simp)
  refine d.mkrX sc_Before___init__ (fun ds P P' R R' f g ⟨p, z, e, k, k2, h⟩ => ⟨p, z, e, k, k2, ifM h (fun h => ifM h (f _) (EA.mono g)) (EA.mono g)⟩) (fun ds Q R ⟨p, f, e, _⟩ => by rw [e]; rfl) (fun f cdv A outer s H E R hr hx => have hu := hr.units; have hh := hr.hd; have sc := sc_Before___init__
    (i_cons (i_free (s_expr (d_calX hx cx_need_first hr (by omega) (by rfl) (a_cons (dv 2) a_nil))))
  (i_cons (i_setK K rfl rfl (Or.inl rfl) (dv 1))
  (i_cons (i_setK K rfl rfl (Or.inl rfl) (dv 2))
  (i_rest (ss_one (s_expr (d_mX0 hx mx_need_bounds hr (by omega) (dv 0))))))))) ?_
  rintro a ds Q R ⟨p, f, rfl, hk, hd, h⟩
  exact ⟨_, rfl, f, rfl, hk, ifM h (fun h => ⟨_, rfl, rfl, hc, hn _ (by decide), pl0, _, rfl, rfl, hc, hn _ (by decide), pl1, rfl, iRest_of (.before p f) noM_bounds rfl ⟨_, rfl, rfl, hd, h⟩⟩) fun z => z⟩
def sxWhen (A : Adr) (ea : EA) (n : Nat) : SpIX := fun ds Q R => ∃ (p : Pt) (x : Str), ds = [p.d A, .str x] ∧ x.length ≤ 100000 ∧ (Pt.whn p x).depth ≤ n ∧ if nameB x = true then (if bB (.whn p x) = true then Q [("part", p.d A), ("name", .str x)] else ea.r R .part) else ea.r R .name
theorem kx_when (hA : AOk K A) (d : Di K mg "When" A.whn "When.__init__" s_When___init__ ["self", "part", "name"] []) (cx_need_name : CalX P w K mg base j "need_name" ["name"] (sxNm ea)) (mx_need_bounds : MB P w K mg base A ea j n) : MkrX P w K mg base (j + 1) "When" A.whn (sxWhen A ea n) [] := by
  have hc := hA.cl A.whn (by simp)
  have hn := hA.nof A.whn (by simp)
  refine d.mkrX sc_When___init__ (fun ds P P' R R' f g ⟨p, z, e, k, k2, h⟩ => ⟨p, z, e, k, k2, ifM h (fun h => ifM h (f _) (EA.mono g)) (EA.mono g)⟩) (fun ds Q R ⟨p, f, e, _⟩ => by rw [e]; rfl) (fun f cdv A outer s H E R hr hx => have hu := hr.units; have hh := hr.hd; have sc := sc_When___init__
    (i_cons (i_free (s_expr (d_calX hx cx_need_name hr (by omega) (by rfl) (a_cons (dv 2) a_nil))))
  (i_cons (i_setK K rfl rfl (Or.inl rfl) (dv 1))
  (i_cons (i_setK K rfl rfl (Or.inl rfl) (dv 2))
  (i_rest (ss_one (s_expr (d_mX0 hx mx_need_bounds hr (by omega) (dv 0))))))))) ?_
  rintro a ds Q R ⟨p, x, rfl, hx, hd, h⟩
  exact ⟨_, rfl, x, rfl, hx, ifM h (fun h => ⟨_, rfl, rfl, hc, hn _ (by decide), pl0, _, rfl, rfl, hc, hn _ (by decide), pl1, rfl, iRest_of (.whn p x) noM_bounds rfl ⟨_, rfl, rfl, hd, h⟩⟩) fun z => z⟩
def sxHeld (A : Adr) (ea : EA) (n : Nat) : SpIX := fun ds Q R => ∃ (p : Pt) (x : Str) (f : D), ds = [p.d A, .str x, f] ∧ x.length ≤ 100000 ∧ (kindD f).isSome = true ∧ (Pt.held p x f).depth ≤ n ∧ if nameB x = true then (if firstB f = true then (if bB (.held p x f) = true then Q [("part", p.d A), ("name", .str x), ("first", f)] else ea.r R .part) else ea.r R .part) else ea.r R .name
theorem kx_held {dd : List D} (hA : AOk K A) (d : Di K mg "Held" A.held "Held.__init__" s_Held___init__ ["self", "part", "name", "first"] dd) (cx_need_name : CalX P w K mg base j "need_name" ["name"] (sxNm ea)) (cx_need_first : CalX P w K mg base j "need_first" ["first"] (sxFirst ea)) (mx_need_bounds : MB P w K mg base A ea j n) : MkrX P w K mg base (j + 1) "Held" A.held (sxHeld A ea n) dd := by
  have hc := hA.cl A.held (by simp)
  have hn := hA.nof A.held (by simp)
  refine d.mkrX sc_Held___init__ (fun ds P P' R R' f g ⟨p, z, v, e, k, k1, k2, h⟩ => ⟨p, z, v, e, k, k1, k2, ifM h (fun h => ifM h (fun h => ifM h (f _) (EA.mono g)) (EA.mono g)) (EA.mono g)⟩) (fun ds Q R ⟨p, f, v, e, _⟩ => by rw [e]; rfl) (fun f cdv A outer s H E R hr hx => have hu := hr.units; have hh := hr.hd; have sc := sc_Held___init__
    (i_cons (i_free (s_expr (d_calX hx cx_need_name hr (by omega) (by rfl) (a_cons (dv 2) a_nil))))
  (i_cons (i_free (s_expr (d_calX hx cx_need_first hr (by omega) (by rfl) (a_cons (dv 3) a_nil))))
  (i_cons (i_setK K rfl rfl (Or.inl rfl) (dv 1))
  (i_cons (i_setK K rfl rfl (Or.inl rfl) (dv 2))
  (i_cons (i_setK K rfl rfl (Or.inl rfl) (dv 3))
  (i_rest (ss_one (s_expr (d_mX0 hx mx_need_bounds hr (by omega) (dv 0))))))))))) ?_
  rintro a ds Q R ⟨p, x, f, rfl, hx, hk, hd, h⟩
  exact ⟨_, rfl, x, rfl, hx, ifM h (fun h => ⟨_, rfl, f, rfl, hk, ifM h (fun h => ⟨_, rfl, rfl, hc, hn _ (by decide), pl0, _, rfl, rfl, hc, hn _ (by decide), pl1, _, rfl, rfl, hc, hn _ (by decide), pl2, rfl, iRest_of (.held p x f) noM_bounds rfl ⟨_, rfl, rfl, hd, h⟩⟩) fun z => z⟩) fun z => z⟩
def sxPair (A : Adr) (ea : EA) (n : Nat) : SpIX := fun ds Q R => ∃ (g : Str) (x y : Pt), ds = [.str g, x.d A, y.d A] ∧ (Pt.pair g x y).depth ≤ n ∧ if signB g = true then (if bB (.pair g x y) = true then Q [("sign", .str g), ("one", x.d A), ("other", y.d A)] else ea.r R .part) else ea.r R .part
theorem kx_pair {sa : Addr} (hA : AOk K A) (eo : EOk K mg ea) (d : Di K mg "Pair" A.pair "Pair.__init__" s_Pair___init__ ["self", "sign", "one", "other"] []) (kd_SIGNS : KTd w K mg "SIGNS" sa signsT) (mx_need_bounds : MB P w K mg base A ea j n) : MkrX P w K mg base (j + 1) "Pair" A.pair (sxPair A ea n) [] := by
  have i_NoPart := eo.iP
  have e_NoPart := eo.eP
  have hc := hA.cl A.pair (by simp)
  have hn := hA.nof A.pair (by simp)
  refine d.mkrX sc_Pair___init__ (fun ds P P' R R' f g ⟨p, z, v, e, k, h⟩ => ⟨p, z, v, e, k, ifM h (fun h => ifM h (f _) (EA.mono g)) (EA.mono g)⟩) (fun ds Q R ⟨p, f, v, e, _⟩ => by rw [e]; rfl) (fun f cdv A outer s H E R hr hx => have hu := hr.units; have hh := hr.hd; have sc := sc_Pair___init__
    (i_cons (i_free (s_if (t_notinK kd_SIGNS (by rfl) (dv 1)) (ss_one (s_raise hx rfl rfl (by rfl) i_NoPart e_NoPart (a_cons d_str a_nil))) ss_nil))
  (i_cons (i_setK K rfl rfl (Or.inl rfl) (dv 1))
  (i_cons (i_setK K rfl rfl (Or.inl rfl) (dv 2))
  (i_cons (i_setK K rfl rfl (Or.inl rfl) (dv 3))
  (i_rest (ss_one (s_expr (d_mX0 hx mx_need_bounds hr (by omega) (dv 0)))))))))) ?_
  rintro a ds Q R ⟨g, x, y, rfl, hd, h⟩
  cases hs : signB g with
  | true =>
    rw [hs] at h
    have e1 : (if true = true then !signsT.any fun p => p.1 == g else signsT.any fun p => p.1 == g) = false := by rw [if_pos rfl, show (signsT.any fun p => p.1 == g) = true from hs]; rfl
    exact ⟨_, rfl, g, rfl, false, congrArg D.bl e1, iteF ⟨_, rfl, rfl, hc, hn _ (by decide), pl0, _, rfl, rfl, hc, hn _ (by decide), pl1, _, rfl, rfl, hc, hn _ (by decide), pl2, rfl, iRest_of (.pair g x y) noM_bounds rfl ⟨_, rfl, rfl, hd, ofT h⟩⟩⟩
  | false =>
    rw [hs] at h
    have e1 : (if true = true then !signsT.any fun p => p.1 == g else signsT.any fun p => p.1 == g) = true := by rw [if_pos rfl, show (signsT.any fun p => p.1 == g) = false from hs]; rfl
    exact ⟨_, rfl, g, rfl, true, congrArg D.bl e1, iteT ⟨(show 1 ≤ sizeLine by decide), ofF h⟩⟩
end
end K04

-- gen set Xf need_name need_first part_of plain_by timed_by _law_chain _law_wide _law_made _law_two_right _law_deep_right _law_tried
-- gen set Xc Given Named Turned Pair Choice Before Led When Held
-- gen set Xm need_bounds
set_option maxHeartbeats 4000000
namespace K04
open PySem PySem.Spec PyProof.Rows L2 DC
inductive Tl where
  | given (v : D) | named (n : Str) | turned (p : Tl) | pair (g : Str) (a b : Tl) | choice (t a b : Tl)
  | before (p : Tl) (f : D) | led (h r : Tl) | whn (p : Tl) (n : Str) | held (p : Tl) (n : Str) (f : D)
def Tl.d : Tl → D
  | .given v => .tup [.str "given", v]
  | .named n => .tup [.str "named", .str n]
  | .turned p => .tup [.str "not", p.d]
  | .pair g a b => .tup [.str g, a.d, b.d]
  | .choice t a b => .tup [.str "if", t.d, a.d, b.d]
  | .before p f => .tup [.str "before", p.d, f]
  | .led h r => .tup [.str "then", h.d, r.d]
  | .whn p n => .tup [.str "when", p.d, .str n]
  | .held p n f => .tup [.str "held", p.d, .str n, f]
def Tl.kids : Tl → List Tl
  | .given _ => [] | .named _ => [] | .turned p => [p] | .pair _ a b => [a, b] | .choice t a b => [t, a, b]
  | .before p _ => [p] | .led h r => [h, r] | .whn p _ => [p] | .held p _ _ => [p]
def Tl.depth : Tl → Nat
  | .given _ => 1 | .named _ => 1 | .turned p => p.depth + 1 | .pair _ a b => max a.depth b.depth + 1 | .choice t a b => max t.depth (max a.depth b.depth) + 1
  | .before p _ => p.depth + 1 | .led h r => max h.depth r.depth + 1 | .whn p _ => p.depth + 1 | .held p _ _ => p.depth + 1
def sh (a b : Int) : D := .tup [.int a, .int b]
def shapesT : List (Str × D) := [("given", sh 2 0), ("named", sh 2 0), ("not", sh 2 1), ("if", sh 4 3), ("before", sh 3 1), ("then", sh 3 2), ("when", sh 3 1), ("held", sh 4 1)]
def Tl.ok1 : Tl → Prop
  | .given v => (kindD v).isSome = true
  | .named s => s.length ≤ 100000
  | .turned _ => True
  | .pair g _ _ => (shapesT.any fun p => p.1 == g) = false
  | .choice _ _ _ => True
  | .before _ f => (kindD f).isSome = true
  | .led _ _ => True
  | .whn _ s => s.length ≤ 100000
  | .held _ s f => s.length ≤ 100000 ∧ (kindD f).isSome = true
def Tl.ok : Tl → Prop
  | .given v => (kindD v).isSome = true
  | .named s => s.length ≤ 100000
  | .turned p => p.ok
  | .pair g a b => (shapesT.any fun p => p.1 == g) = false ∧ a.ok ∧ b.ok
  | .choice t a b => t.ok ∧ a.ok ∧ b.ok
  | .before p f => (kindD f).isSome = true ∧ p.ok
  | .led h r => h.ok ∧ r.ok
  | .whn p s => s.length ≤ 100000 ∧ p.ok
  | .held p s f => s.length ≤ 100000 ∧ (kindD f).isSome = true ∧ p.ok
def Tl.isPair : Tl → Bool
  | .pair _ _ _ => true
  | _ => false
def Tl.isPlain : Tl → Bool
  | .given _ => true | .named _ => true | .turned _ => true | .choice _ _ _ => true | _ => false
theorem Tl.ok_1 {t : Tl} (o : t.ok) : t.ok1 := by
  cases t <;> simp only [Tl.ok, Tl.ok1] at o ⊢ <;> simp only [o] <;> simp
theorem Tl.ok_in {p q : Tl} (h : q ∈ p.kids) (o : p.ok) : q.ok := by
  cases p <;> simp only [Tl.kids, Tl.ok, List.mem_cons, List.not_mem_nil, or_false] at h o
  case turned => subst h; exact o
  case pair => rcases h with rfl | rfl <;> simp only [o]
  case choice => rcases h with rfl | rfl | rfl <;> simp only [o]
  case before => subst h; exact o.2
  case led => rcases h with rfl | rfl <;> simp only [o]
  case whn => subst h; exact o.2
  case held => subst h; exact o.2.2
theorem Tl.in_depth {p q : Tl} (h : q ∈ p.kids) {n : Nat} (hd : p.depth ≤ n + 1) : q.depth ≤ n := by
  cases p <;> simp only [Tl.kids, Tl.depth, List.mem_cons, List.not_mem_nil, or_false] at h hd
  case turned => subst h; omega
  case pair => rcases h with rfl | rfl <;> omega
  case choice => rcases h with rfl | rfl | rfl <;> omega
  case before => subst h; omega
  case led => rcases h with rfl | rfl <;> omega
  case whn => subst h; omega
  case held => subst h; omega
theorem Tl.kids_len (p : Tl) : p.kids.length ≤ 3 := by cases p <;> simp [Tl.kids]
theorem Tl.depth_pos (p : Tl) : 0 < p.depth := by cases p <;> simp only [Tl.depth] <;> omega
def bnd (p : Pt) : Except Er Pt := if bB p = true then .ok p else .error .part
def top4 : Tl → List Pt → Except Er Pt
  | .given d, _ => if valD d = true then .ok (.given d) else .error .part
  | .named x, _ => if nameB x = true then .ok (.named x) else .error .name
  | .turned _, [p] => bnd (.turned p)
  | .pair g _ _, [p, q] => if signB g = true then bnd (.pair g p q) else .error .part
  | .choice _ _ _, [p, q, r] => bnd (.choice p q r)
  | .before _ f, [p] => if firstB f = true then bnd (.before p f) else .error .part
  | .led _ _, [p, q] => bnd (.led p q)
  | .whn _ x, [p] => if nameB x = true then bnd (.whn p x) else .error .name
  | .held _ x f, [p] => if nameB x = true then (if firstB f = true then bnd (.held p x f) else .error .part) else .error .name
  | _, _ => .error .part
def Tl.made : Tl → Except Er Pt
  | .given d => top4 (.given d) []
  | .named x => top4 (.named x) []
  | .turned t => match t.made with | .ok p => top4 (.turned t) [p] | .error e => .error e
  | .pair g a b => match a.made with | .ok p => (match b.made with | .ok q => top4 (.pair g a b) [p, q] | .error e => .error e) | .error e => .error e
  | .choice t a b => match t.made with | .ok p => (match a.made with | .ok q => (match b.made with | .ok r => top4 (.choice t a b) [p, q, r] | .error e => .error e) | .error e => .error e) | .error e => .error e
  | .before t f => match t.made with | .ok p => top4 (.before t f) [p] | .error e => .error e
  | .led a b => match a.made with | .ok p => (match b.made with | .ok q => top4 (.led a b) [p, q] | .error e => .error e) | .error e => .error e
  | .whn t x => match t.made with | .ok p => top4 (.whn t x) [p] | .error e => .error e
  | .held t x f => match t.made with | .ok p => top4 (.held t x f) [p] | .error e => .error e
def madeL : List Tl → Except Er (List Pt)
  | [] => .ok []
  | t :: ts => match t.made with
    | .error e => .error e
    | .ok p => match madeL ts with
      | .error e => .error e
      | .ok ps => .ok (p :: ps)
theorem made_eq (T : Tl) : T.made = match madeL T.kids with | .ok ps => top4 T ps | .error e => .error e := by
  cases T with
  | given d => rfl
  | named x => rfl
  | turned t => rw [Tl.made, Tl.kids, madeL, madeL]; cases t.made <;> rfl
  | pair g a b => rw [Tl.made, Tl.kids, madeL, madeL, madeL]; cases a.made <;> cases b.made <;> rfl
  | choice t a b => rw [Tl.made, Tl.kids, madeL, madeL, madeL, madeL]; cases t.made <;> cases a.made <;> cases b.made <;> rfl
  | before t f => rw [Tl.made, Tl.kids, madeL, madeL]; cases t.made <;> rfl
  | led a b => rw [Tl.made, Tl.kids, madeL, madeL, madeL]; cases a.made <;> cases b.made <;> rfl
  | whn t x => rw [Tl.made, Tl.kids, madeL, madeL]; cases t.made <;> rfl
  | held t x f => rw [Tl.made, Tl.kids, madeL, madeL]; cases t.made <;> rfl
theorem bnd_depth {p q : Pt} (h : bnd p = .ok q) : q.depth ≤ 10 := by
  unfold bnd at h
  cases hb : bB p with
  | true =>
    rw [hb, if_pos rfl] at h
    cases h
    unfold bB at hb
    simp only [Bool.and_eq_true, decide_eq_true_eq] at hb
    exact hb.1
  | false => rw [hb] at h; cases h
theorem ite_ok {b : Bool} {x : Except Er Pt} {e : Er} {q : Pt} (h : (if b = true then x else .error e) = .ok q) : x = .ok q := by
  cases b with
  | true => simpa using h
  | false => cases h
theorem top_depth {T : Tl} {ps : List Pt} {q : Pt} (h : top4 T ps = .ok q) : q.depth ≤ 10 := by
  unfold top4 at h
  split at h
  · have z := ite_ok h; cases z; simp only [Pt.depth]; omega
  · have z := ite_ok h; cases z; simp only [Pt.depth]; omega
  · exact bnd_depth h
  · exact bnd_depth (ite_ok h)
  · exact bnd_depth h
  · exact bnd_depth (ite_ok h)
  · exact bnd_depth h
  · exact bnd_depth (ite_ok h)
  · exact bnd_depth (ite_ok (ite_ok h))
  · cases h
theorem made_depth {T : Tl} {q : Pt} (h : T.made = .ok q) : q.depth ≤ 10 := by
  rw [made_eq] at h
  split at h
  · exact top_depth h
  · cases h
theorem madeL_all : ∀ {ts : List Tl} {ps : List Pt}, madeL ts = .ok ps → ps.length = ts.length ∧ ∀ p ∈ ps, p.depth ≤ 10
  | [], ps, h => by cases h; exact ⟨rfl, fun p hp => nomatch hp⟩
  | t :: ts, ps, h => by
    rw [madeL] at h
    cases ht : t.made with
    | error e => rw [ht] at h; cases h
    | ok p =>
      rw [ht] at h
      cases hs : madeL ts with
      | error e => rw [hs] at h; cases h
      | ok qs =>
        rw [hs] at h
        cases h
        obtain ⟨h1, h2⟩ := madeL_all hs
        refine ⟨by rw [List.length_cons, h1, List.length_cons], fun r hr => ?_⟩
        rcases List.mem_cons.mp hr with rfl | hr
        · exact made_depth ht
        · exact h2 r hr
def out (A : Adr) (ea : EA) (r : Except Er Pt) (Q : D → Prop) (R : XR) : Prop := match r with
  | .ok p => Q (p.d A)
  | .error e => ea.r R e
theorem out_mono {A : Adr} {ea : EA} {r : Except Er Pt} {Q Q' : D → Prop} {R R' : XR} (f : ∀ d, Q d → Q' d) (g : ∀ C gs, R C gs → R' C gs) (h : out A ea r Q R) : out A ea r Q' R' := by
  cases r with
  | ok p => exact f _ h
  | error e => exact EA.mono g h
theorem outI {A : Adr} {ea : EA} {b : Bool} {x : Except Er Pt} {e : Er} {Q : D → Prop} {R : XR} (h : out A ea (if b = true then x else .error e) Q R) : if b = true then out A ea x Q R else ea.r R e := by
  cases b with
  | true => exact iteT (by simpa using h)
  | false => exact iteF (by simpa [out] using h)
theorem outB {A : Adr} {ea : EA} {p : Pt} {Q : D → Prop} {R : XR} (h : out A ea (bnd p) Q R) : if bB p = true then Q (p.d A) else ea.r R .part := outI h
def sdT (g : Tl → D) : SpD := fun ds Q => ∃ t : Tl, ds = [t.d] ∧ t.ok1 ∧ Q (g t)
theorem m_T {g : Tl → D} : MonoS (sdT g) := fun ds P P' f ⟨p, e, h, q⟩ => ⟨p, e, h, f _ q⟩
theorem l_T {g : Tl → D} (ds : List D) (Q : D → Prop) (h : sdT g ds Q) : ds.length = 1 := by obtain ⟨x, e, _⟩ := h; rw [e]; rfl
def sxBy (A : Adr) (ea : EA) (b : Bool) : SpX := fun ds Q R => ∃ (T : Tl) (ps : List Pt), ds = [T.d, .lst (ps.map (Pt.d A))] ∧ T.isPair = false ∧ T.isPlain = b ∧ T.ok1 ∧ ps.length = T.kids.length ∧ (∀ p ∈ ps, p.depth ≤ 10) ∧ out A ea (top4 T ps) Q R
theorem m_sxBy {A : Adr} {ea : EA} {b : Bool} : MonoX (sxBy A ea b) := fun ds P P' R R' f g ⟨T, ps, e, k1, k2, k3, k4, k5, h⟩ => ⟨T, ps, e, k1, k2, k3, k4, k5, out_mono f g h⟩
def sxPart (A : Adr) (ea : EA) (n : Nat) : SpX := fun ds Q R => ∃ T : Tl, ds = [T.d] ∧ T.ok ∧ T.depth ≤ n ∧ out A ea T.made Q R
theorem m_sxPart {A : Adr} {ea : EA} {n : Nat} : MonoX (sxPart A ea n) := fun ds P P' R R' f g ⟨T, e, k1, k2, h⟩ => ⟨T, e, k1, k2, out_mono f g h⟩
theorem one_of {ps : List Pt} (h : ps.length = 1) : ∃ p, ps = [p] := by
  match ps, h with
  | [p], _ => exact ⟨p, rfl⟩
theorem two_of {ps : List Pt} (h : ps.length = 2) : ∃ p q, ps = [p, q] := by
  match ps, h with
  | [p, q], _ => exact ⟨p, q, rfl⟩
theorem three_of {ps : List Pt} (h : ps.length = 3) : ∃ p q r, ps = [p, q, r] := by
  match ps, h with
  | [p, q, r], _ => exact ⟨p, q, r, rfl⟩
theorem six1 (x : D) (xs : List D) : HT.sIx (x :: xs).length 0 (some 1) = 1 := by
  rw [show (1 : Int) = ((1 : Nat) : Int) from rfl, HT.sIx_nat, List.length_cons]
  omega
theorem nwhole {x : D} {xs : List D} {R : Prop} : ¬ (HT.sIx (x :: xs).length 0 (some 1) = 0 ∧ R) := fun z => by
  rw [six1] at z
  exact absurd z.1 (by decide)
def doneL (A : Adr) (ea : EA) (R : XR) (ts : List Tl) (acc : List Pt) (k : D → Prop) : Prop := match madeL ts with
  | .ok ps => k (.lst ((acc ++ ps).map (Pt.d A)))
  | .error e => ea.r R e
theorem go_of {A : Adr} {ea : EA} {m : Nat} {R : XR} {k : D → Prop} {δ0 : SD} : ∀ (ts : List Tl) (acc : List Pt), (∀ t ∈ ts, t.depth ≤ m) → (∀ t ∈ ts, t.ok) → doneL A ea R ts acc k →
    goX uYes (vCallX (fun _ => R) (sxPart A ea m) [] (aCons (vVar 0) aNil)) δ0 (ts.map Tl.d) (acc.map (Pt.d A)) k
  | [], acc, _, _, h => by
    have h' : k (.lst ((acc ++ []).map (Pt.d A))) := h
    rw [List.append_nil] at h'
    exact h'
  | t :: ts, acc, hd, ho, h => by
    refine ⟨fun _ => ⟨_, rfl, t, rfl, ho t List.mem_cons_self, hd t List.mem_cons_self, ?_⟩, fun z => by cases z⟩
    unfold doneL at h
    rw [madeL] at h
    cases ht : t.made with
    | error e => rw [ht] at h; exact h
    | ok p =>
      rw [ht] at h
      show goX _ _ _ (ts.map Tl.d) (acc.map (Pt.d A) ++ [p.d A]) k
      rw [show acc.map (Pt.d A) ++ [p.d A] = (acc ++ [p]).map (Pt.d A) by simp]
      refine go_of ts (acc ++ [p]) (fun t h => hd t (List.mem_cons_of_mem _ h)) (fun t h => ho t (List.mem_cons_of_mem _ h)) ?_
      unfold doneL
      cases hs : madeL ts with
      | error e => rw [hs] at h; exact h
      | ok qs =>
        rw [hs] at h
        have h' : k (.lst ((acc ++ (p :: qs)).map (Pt.d A))) := h
        show k (.lst (((acc ++ [p]) ++ qs).map (Pt.d A)))
        rw [List.append_assoc]
        exact h'
section
seal wpAny
variable {P : Program} {w : World} {K : PySem.W.Frag} {mg : Str → Option Value} {base : Heap} {A : Adr} {j : Nat} {ea : EA}
theorem c_has_shape {sa : Addr} (d : Df K mg "has_shape" s_has_shape ["told"]) (n_len : mg "len" = none) (kd_SHAPES : KTd w K mg "SHAPES" sa shapesT) : Cal P w K mg base (j + 1) "has_shape" ["told"] (sdT fun p => .bl (!p.isPair)) := by
  refine d.cal sc_has_shape m_T l_T (fun f cdv A outer s H E hr => have hu := hr.units; have hh := hr.hd; have sc := sc_has_shape
    (ss_one (s_ret (d_and (d_inK kd_SHAPES (by rfl) (d_ix (dv 0) d_int (fun _ _ => rfl))) (d_one (d_eq hu (d_len (by rfl) n_len (a_cons (dv 0) a_nil)) (d_ix (d_getK kd_SHAPES (by rfl) (d_ix (dv 0) d_int (fun _ _ => rfl)) (fun _ _ => rfl)) d_int (fun _ _ => rfl)))))))) ?_
  rintro ds Q ⟨p, rfl, ho, q⟩
  cases p with
  | given v => exact ⟨_, rfl, _, rfl, "given", rfl, true, congrArg D.bl (by decide +kernel), iteT ⟨_, rfl, _, _, rfl, rfl, _, rfl, _, rfl, "given", sh 2 0, rfl, (by kernel_rfl), _, rfl, q⟩⟩
  | named s => exact ⟨_, rfl, _, rfl, "named", rfl, true, congrArg D.bl (by decide +kernel), iteT ⟨_, rfl, _, _, rfl, rfl, _, rfl, _, rfl, "named", sh 2 0, rfl, (by kernel_rfl), _, rfl, q⟩⟩
  | turned x => exact ⟨_, rfl, _, rfl, "not", rfl, true, congrArg D.bl (by decide +kernel), iteT ⟨_, rfl, _, _, rfl, rfl, _, rfl, _, rfl, "not", sh 2 1, rfl, (by kernel_rfl), _, rfl, q⟩⟩
  | pair g x y => exact ⟨_, rfl, _, rfl, g, rfl, false, congrArg D.bl (show (if false = true then !shapesT.any fun p => p.1 == g else shapesT.any fun p => p.1 == g) = false by rw [if_neg Bool.false_ne_true]; exact ho), iteF q⟩
  | choice x y z => exact ⟨_, rfl, _, rfl, "if", rfl, true, congrArg D.bl (by decide +kernel), iteT ⟨_, rfl, _, _, rfl, rfl, _, rfl, _, rfl, "if", sh 4 3, rfl, (by kernel_rfl), _, rfl, q⟩⟩
  | before x f => exact ⟨_, rfl, _, rfl, "before", rfl, true, congrArg D.bl (by decide +kernel), iteT ⟨_, rfl, _, _, rfl, rfl, _, rfl, _, rfl, "before", sh 3 1, rfl, (by kernel_rfl), _, rfl, q⟩⟩
  | led x y => exact ⟨_, rfl, _, rfl, "then", rfl, true, congrArg D.bl (by decide +kernel), iteT ⟨_, rfl, _, _, rfl, rfl, _, rfl, _, rfl, "then", sh 3 2, rfl, (by kernel_rfl), _, rfl, q⟩⟩
  | whn x s => exact ⟨_, rfl, _, rfl, "when", rfl, true, congrArg D.bl (by decide +kernel), iteT ⟨_, rfl, _, _, rfl, rfl, _, rfl, _, rfl, "when", sh 3 1, rfl, (by kernel_rfl), _, rfl, q⟩⟩
  | held x s f => exact ⟨_, rfl, _, rfl, "held", rfl, true, congrArg D.bl (by decide +kernel), iteT ⟨_, rfl, _, _, rfl, rfl, _, rfl, _, rfl, "held", sh 4 1, rfl, (by kernel_rfl), _, rfl, q⟩⟩
theorem cx_plain_by (d : Df K mg "plain_by" s_plain_by ["told", "inner"]) {i : Nat} (hi : i + 1 ≤ j) (kx_Given_1 : MkrX P w K mg base i "Given" A.given (sxGiven ea) []) (kx_Named_1 : MkrX P w K mg base i "Named" A.named (sxNamed ea) []) (kx_Turned_1 : MkrX P w K mg base i "Turned" A.turned (sxTurned A ea 11) []) (kx_Choice_3 : MkrX P w K mg base i "Choice" A.choice (sxChoice A ea 11) []) : CalX P w K mg base (j + 1) "plain_by" ["told", "inner"] (sxBy A ea true) := by
  refine d.calX sc_plain_by m_sxBy (fun ds Q R ⟨x, y, e, _⟩ => by rw [e]; rfl) (fun f cdv A outer s H E R hr hx => have hu := hr.units; have hh := hr.hd; have sc := sc_plain_by
    (ss_cons (s_set (i := 2) sc.nd rfl (Or.inl rfl) (d_ix (dv 0) d_int (fun _ _ => rfl)))
  (ss_cons (s_if (t_eq hu (dv 2) d_str) (ss_one (s_ret (d_mkX hx kx_Given_1 hr (by omega) (by rfl) (a_cons (d_ix (dv 0) d_int (fun _ _ => rfl)) a_nil)))) ss_nil)
  (ss_cons (s_if (t_eq hu (dv 2) d_str) (ss_one (s_ret (d_mkX hx kx_Named_1 hr (by omega) (by rfl) (a_cons (d_ix (dv 0) d_int (fun _ _ => rfl)) a_nil)))) ss_nil)
  (ss_cons (s_if (t_eq hu (dv 2) d_str) (ss_one (s_ret (d_mkX hx kx_Turned_1 hr (by omega) (by rfl) (a_cons (d_ix (dv 1) d_int (fun _ _ => rfl)) a_nil)))) ss_nil)
  (ss_one (s_ret (d_mkX hx kx_Choice_3 hr (by omega) (by rfl) (a_cons (d_ix (dv 1) d_int (fun _ _ => rfl)) (a_cons (d_ix (dv 1) d_int (fun _ _ => rfl)) (a_cons (d_ix (dv 1) d_int (fun _ _ => rfl)) a_nil))))))))))) ?_
  rintro ds Q R ⟨T, ps, rfl, hp, hl, ho, hn, hd, h⟩
  cases T with
  | given v => exact ⟨_, rfl, _, rfl, ⟨_, rfl, true, congrArg D.bl (by decide +kernel), iteT ⟨_, rfl, _, rfl, v, rfl, ho, outI h⟩⟩⟩
  | named s => exact ⟨_, rfl, _, rfl, ⟨_, rfl, false, congrArg D.bl (by decide +kernel), iteF ⟨_, rfl, true, congrArg D.bl (by decide +kernel), iteT ⟨_, rfl, _, rfl, s, rfl, ho, outI h⟩⟩⟩⟩
  | turned x =>
    obtain ⟨p, rfl⟩ := one_of hn
    have d1 := hd p (by simp)
    exact ⟨_, rfl, _, rfl, ⟨_, rfl, false, congrArg D.bl (by decide +kernel), iteF ⟨_, rfl, false, congrArg D.bl (by decide +kernel), iteF ⟨_, rfl, true, congrArg D.bl (by decide +kernel), iteT ⟨_, rfl, _, rfl, p, rfl, (by simp only [Pt.depth]; omega), outB h⟩⟩⟩⟩⟩
  | choice x y z =>
    obtain ⟨p, q, r, rfl⟩ := three_of hn
    have d1 := hd p (by simp)
    have d2 := hd q (by simp)
    have d3 := hd r (by simp)
    exact ⟨_, rfl, _, rfl, ⟨_, rfl, false, congrArg D.bl (by decide +kernel), iteF ⟨_, rfl, false, congrArg D.bl (by decide +kernel), iteF ⟨_, rfl, false, congrArg D.bl (by decide +kernel), iteF ⟨_, rfl, _, rfl, _, rfl, _, rfl, _, rfl, _, rfl, p, q, r, rfl, (by simp only [Pt.depth]; omega), outB h⟩⟩⟩⟩⟩
  | pair g x y => cases hp
  | before x f => cases hl
  | led x y => cases hl
  | whn x s => cases hl
  | held x s f => cases hl
theorem cx_timed_by (d : Df K mg "timed_by" s_timed_by ["told", "inner"]) {i : Nat} (hi : i + 1 ≤ j) (kx_Before_2 : MkrX P w K mg base i "Before" A.before (sxBefore A ea 11) []) (kx_Led_2 : MkrX P w K mg base i "Led" A.led (sxLed A ea 11) []) (kx_When_2 : MkrX P w K mg base i "When" A.whn (sxWhen A ea 11) []) (kx_Held_3 : MkrX P w K mg base i "Held" A.held (sxHeld A ea 11) []) : CalX P w K mg base (j + 1) "timed_by" ["told", "inner"] (sxBy A ea false) := by
  refine d.calX sc_timed_by m_sxBy (fun ds Q R ⟨x, y, e, _⟩ => by rw [e]; rfl) (fun f cdv A outer s H E R hr hx => have hu := hr.units; have hh := hr.hd; have sc := sc_timed_by
    (ss_cons (s_set (i := 2) sc.nd rfl (Or.inl rfl) (d_ix (dv 0) d_int (fun _ _ => rfl)))
  (ss_cons (s_if (t_eq hu (dv 2) d_str) (ss_one (s_ret (d_mkX hx kx_Before_2 hr (by omega) (by rfl) (a_cons (d_ix (dv 1) d_int (fun _ _ => rfl)) (a_cons (d_ix (dv 0) d_int (fun _ _ => rfl)) a_nil))))) ss_nil)
  (ss_cons (s_if (t_eq hu (dv 2) d_str) (ss_one (s_ret (d_mkX hx kx_Led_2 hr (by omega) (by rfl) (a_cons (d_ix (dv 1) d_int (fun _ _ => rfl)) (a_cons (d_ix (dv 1) d_int (fun _ _ => rfl)) a_nil))))) ss_nil)
  (ss_cons (s_if (t_eq hu (dv 2) d_str) (ss_one (s_ret (d_mkX hx kx_When_2 hr (by omega) (by rfl) (a_cons (d_ix (dv 1) d_int (fun _ _ => rfl)) (a_cons (d_ix (dv 0) d_int (fun _ _ => rfl)) a_nil))))) ss_nil)
  (ss_one (s_ret (d_mkX hx kx_Held_3 hr (by omega) (by rfl) (a_cons (d_ix (dv 1) d_int (fun _ _ => rfl)) (a_cons (d_ix (dv 0) d_int (fun _ _ => rfl)) (a_cons (d_ix (dv 0) d_int (fun _ _ => rfl)) a_nil))))))))))) ?_
  rintro ds Q R ⟨T, ps, rfl, hp, hl, ho, hn, hd, h⟩
  cases T with
  | before x f =>
    obtain ⟨p, rfl⟩ := one_of hn
    have d1 := hd p (by simp)
    exact ⟨_, rfl, _, rfl, ⟨_, rfl, true, congrArg D.bl (by decide +kernel), iteT ⟨_, rfl, _, rfl, _, rfl, _, rfl, p, f, rfl, ho, (by simp only [Pt.depth]; omega), ifM (outI h) outB fun z => z⟩⟩⟩
  | led x y =>
    obtain ⟨p, q, rfl⟩ := two_of hn
    have d1 := hd p (by simp)
    have d2 := hd q (by simp)
    exact ⟨_, rfl, _, rfl, ⟨_, rfl, false, congrArg D.bl (by decide +kernel), iteF ⟨_, rfl, true, congrArg D.bl (by decide +kernel), iteT ⟨_, rfl, _, rfl, _, rfl, _, rfl, p, q, rfl, (by simp only [Pt.depth]; omega), outB h⟩⟩⟩⟩
  | whn x s =>
    obtain ⟨p, rfl⟩ := one_of hn
    have d1 := hd p (by simp)
    exact ⟨_, rfl, _, rfl, ⟨_, rfl, false, congrArg D.bl (by decide +kernel), iteF ⟨_, rfl, false, congrArg D.bl (by decide +kernel), iteF ⟨_, rfl, true, congrArg D.bl (by decide +kernel), iteT ⟨_, rfl, _, rfl, _, rfl, _, rfl, p, s, rfl, ho, (by simp only [Pt.depth]; omega), ifM (outI h) outB fun z => z⟩⟩⟩⟩⟩
  | held x s f =>
    obtain ⟨p, rfl⟩ := one_of hn
    have d1 := hd p (by simp)
    exact ⟨_, rfl, _, rfl, ⟨_, rfl, false, congrArg D.bl (by decide +kernel), iteF ⟨_, rfl, false, congrArg D.bl (by decide +kernel), iteF ⟨_, rfl, false, congrArg D.bl (by decide +kernel), iteF ⟨_, rfl, _, rfl, _, rfl, _, rfl, _, rfl, _, rfl, p, s, f, rfl, ho.1, ho.2, (by simp only [Pt.depth]; omega), ifM (outI h) (fun h => ifM (outI h) outB fun z => z) fun z => z⟩⟩⟩⟩⟩
  | given v => cases hl
  | named s => cases hl
  | turned x => cases hl
  | pair g x y => cases hp
  | choice x y z => cases hl
theorem of_lt (p : Tl) : (p.kids.map Tl.d).length < sizeLine := by rw [List.length_map]; exact Nat.lt_of_le_of_lt p.kids_len (by decide)
theorem c_many_within {sa : Addr} (d : Df K mg "many_within" s_many_within ["told"]) (kd_SHAPES : KTd w K mg "SHAPES" sa shapesT) (c_has_shape : Cal P w K mg base j "has_shape" ["told"] (sdT fun p => .bl (!p.isPair))) : Cal P w K mg base (j + 1) "many_within" ["told"] (sdT fun p => .int p.kids.length) := by
  refine d.cal sc_many_within m_T l_T (fun f cdv A outer s H E hr => have hu := hr.units; have hh := hr.hd; have sc := sc_many_within
    (ss_one (s_ret (d_if (t_tru (d_cal c_has_shape hr (by omega) (by rfl) (a_cons (dv 0) a_nil))) (d_ix (d_getK kd_SHAPES (by rfl) (d_ix (dv 0) d_int (fun _ _ => rfl)) (fun _ _ => rfl)) d_int (fun _ _ => rfl)) d_int)))) ?_
  rintro ds Q ⟨p, rfl, ho, q⟩
  cases p with
  | given v => exact ⟨_, rfl, .given v, rfl, ho, _, rfl, iteT ⟨_, rfl, _, rfl, "given", sh 2 0, rfl, (by kernel_rfl), _, rfl, q⟩⟩
  | named s => exact ⟨_, rfl, .named s, rfl, ho, _, rfl, iteT ⟨_, rfl, _, rfl, "named", sh 2 0, rfl, (by kernel_rfl), _, rfl, q⟩⟩
  | turned x => exact ⟨_, rfl, .turned x, rfl, ho, _, rfl, iteT ⟨_, rfl, _, rfl, "not", sh 2 1, rfl, (by kernel_rfl), _, rfl, q⟩⟩
  | pair g x y => exact ⟨_, rfl, .pair g x y, rfl, ho, _, rfl, iteF q⟩
  | choice x y z => exact ⟨_, rfl, .choice x y z, rfl, ho, _, rfl, iteT ⟨_, rfl, _, rfl, "if", sh 4 3, rfl, (by kernel_rfl), _, rfl, q⟩⟩
  | before x f => exact ⟨_, rfl, .before x f, rfl, ho, _, rfl, iteT ⟨_, rfl, _, rfl, "before", sh 3 1, rfl, (by kernel_rfl), _, rfl, q⟩⟩
  | led x y => exact ⟨_, rfl, .led x y, rfl, ho, _, rfl, iteT ⟨_, rfl, _, rfl, "then", sh 3 2, rfl, (by kernel_rfl), _, rfl, q⟩⟩
  | whn x s => exact ⟨_, rfl, .whn x s, rfl, ho, _, rfl, iteT ⟨_, rfl, _, rfl, "when", sh 3 1, rfl, (by kernel_rfl), _, rfl, q⟩⟩
  | held x s f => exact ⟨_, rfl, .held x s f, rfl, ho, _, rfl, iteT ⟨_, rfl, _, rfl, "held", sh 4 1, rfl, (by kernel_rfl), _, rfl, q⟩⟩
theorem part_step {i m n : Nat} (hi : i + 1 ≤ j) (d : Df K mg "part_of" s_part_of ["told"]) (c_many_within : Cal P w K mg base j "many_within" ["told"] (sdT fun p => .int p.kids.length)) (c_has_shape : Cal P w K mg base j "has_shape" ["told"] (sdT fun p => .bl (!p.isPair)))
    (cx_part_of : CalX P w K mg base j "part_of" ["told"] (sxPart A ea m)) (hm : n ≤ m + 1) (cx_plain_by : CalX P w K mg base j "plain_by" ["told", "inner"] (sxBy A ea true)) (cx_timed_by : CalX P w K mg base j "timed_by" ["told", "inner"] (sxBy A ea false)) (kx_Pair_3 : MkrX P w K mg base i "Pair" A.pair (sxPair A ea 11) []) : CalX P w K mg base (j + 1) "part_of" ["told"] (sxPart A ea n) := by
  refine d.calX sc_part_of m_sxPart (fun ds Q R ⟨x, e, _⟩ => by rw [e]; rfl) (fun f cdv A outer s H E R hr hx => have hu := hr.units; have hh := hr.hd; have sc := sc_part_of
    (ss_cons (s_lcX (i := 1) rfl rfl hx sc.nd rfl (Or.inl rfl) (x := "one") (caps := []) (cn := []) (cl := []) (comp0 (by rfl) (by rfl) (by decide +kernel) (by decide +kernel) (by decide +kernel)) rfl (i_any (d_slice (dv 0) (o_some d_int) (o_some (d_add d_int (d_cal c_many_within hr (by omega) (by rfl) (a_cons (dv 0) a_nil)))))) (fun C fp s₂ H₂ => pg_name (i := 0) (show (["one"] : List Str).Nodup by decide +kernel) rfl (Or.inl rfl) (.inr rfl)) (fun C fp s₂ H₂ => ts_nil) (fun C fp s₂ H₂ => (d_calX acc_comp cx_part_of hr (by omega) (by rfl) (a_cons (dv 0) a_nil))))
  (ss_cons (s_if (t_not (t_tru (d_cal c_has_shape hr (by omega) (by rfl) (a_cons (dv 0) a_nil)))) (ss_one (s_ret (d_mkX hx kx_Pair_3 hr (by omega) (by rfl) (a_cons (d_ix (dv 0) d_int (fun _ _ => rfl)) (a_cons (d_ix (dv 1) d_int (fun _ _ => rfl)) (a_cons (d_ix (dv 1) d_int (fun _ _ => rfl)) a_nil)))))) ss_nil)
  (ss_cons (s_if (t_in (d_ix (dv 0) d_int (fun _ _ => rfl)) (d_tup (a_ck (by rfl))) (by rfl)) (ss_one (s_ret (d_calX hx cx_plain_by hr (by omega) (by rfl) (a_cons (dv 0) (a_cons (dv 1) a_nil))))) ss_nil)
  (ss_one (s_ret (d_calX hx cx_timed_by hr (by omega) (by rfl) (a_cons (dv 0) (a_cons (dv 1) a_nil))))))))) ?_
  rintro ds Q R ⟨T, rfl, ho, hd, h⟩
  have hd1 : ∀ t ∈ T.kids, t.depth ≤ m := fun t ht => T.in_depth ht (Nat.le_trans hd hm)
  have ho1 : ∀ t ∈ T.kids, t.ok := fun t ht => Tl.ok_in ht ho
  have o1 := Tl.ok_1 ho
  rw [made_eq] at h
  have fin : ∀ {k : D → Prop}, (∀ ps, ps.length = T.kids.length → (∀ p ∈ ps, p.depth ≤ 10) → out A ea (top4 T ps) Q R → k (.lst (ps.map (Pt.d A)))) → doneL A ea R T.kids [] k := fun {k} f => by
    unfold doneL
    cases hs : madeL T.kids with
    | error e => rw [hs] at h; exact h
    | ok ps =>
      rw [hs] at h
      obtain ⟨h1, h2⟩ := madeL_all hs
      exact f ps h1 h2 h
  cases T with
  | given v =>
    refine ⟨_, rfl, _, rfl, _, rfl, (.given v), rfl, o1, _, rfl, nwhole, (Tl.given v).kids.map Tl.d, rfl, of_lt (.given v), go_of (Tl.given v).kids [] hd1 ho1 (fin fun ps hl hp h => ?_)⟩
    exact ⟨_, rfl, (.given v), rfl, o1, _, rfl, iteF ⟨_, rfl, _, rfl, (by decide), rfl, (by decide), true, congrArg D.bl (by decide +kernel), iteT ⟨_, rfl, _, rfl, (.given v), ps, rfl, rfl, rfl, o1, hl, hp, h⟩⟩⟩
  | named s =>
    refine ⟨_, rfl, _, rfl, _, rfl, (.named s), rfl, o1, _, rfl, nwhole, (Tl.named s).kids.map Tl.d, rfl, of_lt (.named s), go_of (Tl.named s).kids [] hd1 ho1 (fin fun ps hl hp h => ?_)⟩
    exact ⟨_, rfl, (.named s), rfl, o1, _, rfl, iteF ⟨_, rfl, _, rfl, (by decide), rfl, (by decide), true, congrArg D.bl (by decide +kernel), iteT ⟨_, rfl, _, rfl, (.named s), ps, rfl, rfl, rfl, o1, hl, hp, h⟩⟩⟩
  | turned x =>
    refine ⟨_, rfl, _, rfl, _, rfl, (.turned x), rfl, o1, _, rfl, nwhole, (Tl.turned x).kids.map Tl.d, rfl, of_lt (.turned x), go_of (Tl.turned x).kids [] hd1 ho1 (fin fun ps hl hp h => ?_)⟩
    exact ⟨_, rfl, (.turned x), rfl, o1, _, rfl, iteF ⟨_, rfl, _, rfl, (by decide), rfl, (by decide), true, congrArg D.bl (by decide +kernel), iteT ⟨_, rfl, _, rfl, (.turned x), ps, rfl, rfl, rfl, o1, hl, hp, h⟩⟩⟩
  | pair g x y =>
    refine ⟨_, rfl, _, rfl, _, rfl, .pair g x y, rfl, o1, _, rfl, nwhole, (Tl.pair g x y).kids.map Tl.d, rfl, of_lt (.pair g x y), go_of (Tl.pair g x y).kids [] hd1 ho1 (fin fun ps hl hp h => ?_)⟩
    obtain ⟨p, q, rfl⟩ := two_of hl
    have d1 := hp p (by simp)
    have d2 := hp q (by simp)
    exact ⟨_, rfl, .pair g x y, rfl, o1, _, rfl, iteT ⟨_, rfl, _, rfl, _, rfl, _, rfl, _, rfl, _, rfl, g, p, q, rfl, (by simp only [Pt.depth]; omega), ifM (outI h) outB fun z => z⟩⟩
  | choice x y z =>
    refine ⟨_, rfl, _, rfl, _, rfl, (.choice x y z), rfl, o1, _, rfl, nwhole, (Tl.choice x y z).kids.map Tl.d, rfl, of_lt (.choice x y z), go_of (Tl.choice x y z).kids [] hd1 ho1 (fin fun ps hl hp h => ?_)⟩
    exact ⟨_, rfl, (.choice x y z), rfl, o1, _, rfl, iteF ⟨_, rfl, _, rfl, (by decide), rfl, (by decide), true, congrArg D.bl (by decide +kernel), iteT ⟨_, rfl, _, rfl, (.choice x y z), ps, rfl, rfl, rfl, o1, hl, hp, h⟩⟩⟩
  | before x f =>
    refine ⟨_, rfl, _, rfl, _, rfl, (.before x f), rfl, o1, _, rfl, nwhole, (Tl.before x f).kids.map Tl.d, rfl, of_lt (.before x f), go_of (Tl.before x f).kids [] hd1 ho1 (fin fun ps hl hp h => ?_)⟩
    exact ⟨_, rfl, (.before x f), rfl, o1, _, rfl, iteF ⟨_, rfl, _, rfl, (by decide), rfl, (by decide), false, congrArg D.bl (by decide +kernel), iteF ⟨_, rfl, _, rfl, (.before x f), ps, rfl, rfl, rfl, o1, hl, hp, h⟩⟩⟩
  | led x y =>
    refine ⟨_, rfl, _, rfl, _, rfl, (.led x y), rfl, o1, _, rfl, nwhole, (Tl.led x y).kids.map Tl.d, rfl, of_lt (.led x y), go_of (Tl.led x y).kids [] hd1 ho1 (fin fun ps hl hp h => ?_)⟩
    exact ⟨_, rfl, (.led x y), rfl, o1, _, rfl, iteF ⟨_, rfl, _, rfl, (by decide), rfl, (by decide), false, congrArg D.bl (by decide +kernel), iteF ⟨_, rfl, _, rfl, (.led x y), ps, rfl, rfl, rfl, o1, hl, hp, h⟩⟩⟩
  | whn x s =>
    refine ⟨_, rfl, _, rfl, _, rfl, (.whn x s), rfl, o1, _, rfl, nwhole, (Tl.whn x s).kids.map Tl.d, rfl, of_lt (.whn x s), go_of (Tl.whn x s).kids [] hd1 ho1 (fin fun ps hl hp h => ?_)⟩
    exact ⟨_, rfl, (.whn x s), rfl, o1, _, rfl, iteF ⟨_, rfl, _, rfl, (by decide), rfl, (by decide), false, congrArg D.bl (by decide +kernel), iteF ⟨_, rfl, _, rfl, (.whn x s), ps, rfl, rfl, rfl, o1, hl, hp, h⟩⟩⟩
  | held x s f =>
    refine ⟨_, rfl, _, rfl, _, rfl, (.held x s f), rfl, o1, _, rfl, nwhole, (Tl.held x s f).kids.map Tl.d, rfl, of_lt (.held x s f), go_of (Tl.held x s f).kids [] hd1 ho1 (fin fun ps hl hp h => ?_)⟩
    exact ⟨_, rfl, (.held x s f), rfl, o1, _, rfl, iteF ⟨_, rfl, _, rfl, (by decide), rfl, (by decide), false, congrArg D.bl (by decide +kernel), iteF ⟨_, rfl, _, rfl, (.held x s f), ps, rfl, rfl, rfl, o1, hl, hp, h⟩⟩⟩
end
end K04

-- gen set U _law_kinds
set_option maxHeartbeats 4000000
namespace K04
open PySem PySem.Spec PyProof.Rows L2 DC
def mix1 (c k : Int) : Int := (c + 7919 * k + 11) * 48271 % 2147483647
def mixed (c k : Int) : Int := (mix1 c k * mix1 c k + 40692 * mix1 c k) % 2147483399
theorem mix1_lt (c k : Int) : 0 ≤ mix1 c k ∧ mix1 c k < 2147483647 := ⟨Int.emod_nonneg _ (by decide), Int.emod_lt_of_pos _ (by decide)⟩
theorem mixed_lt (c k : Int) : 0 ≤ mixed c k ∧ mixed c k < 2147483399 := ⟨Int.emod_nonneg _ (by decide), Int.emod_lt_of_pos _ (by decide)⟩
def sdMix : SpD := fun ds Q => ∃ c k : Int, ds = [.int c, .int k] ∧ ∀ m : Int, 0 ≤ m → m < 2147483399 → Q (.int m)
theorem m_Mix : MonoS sdMix := fun ds P P' f ⟨c, k, e, q⟩ => ⟨c, k, e, fun m h1 h2 => f _ (q m h1 h2)⟩
def sdCell : SpD := fun ds Q => ∃ (ns : List Int) (k : Nat), ds = [.lst (ns.map D.int), .int (k : Int)] ∧ k ≤ 10 ∧ ∀ c : Int, Q (.int c)
theorem cd {i j : Int} (h : 0 < j) (h2 : j < 1073741824) : CDiv i j := ⟨h, h2⟩
theorem mod_lo (a : Int) {b : Int} (h : 0 < b) : 0 ≤ a % b := Int.emod_nonneg _ (by omega)
theorem mod_hi (a : Int) {b : Int} (h : 0 < b) : a % b < b := Int.emod_lt_of_pos _ h
def wholeD : D → Bool
  | .int _ => true
  | _ => false
structure KindOf (K : PySem.W.Frag) (C : Addr) (cs : List Addr) (bs : List Bool) : Prop where
  ty : ExcTy K C
  at_ : ∀ (i : Nat) (c : Addr) (b : Bool), cs[i]? = some c → bs[i]? = some b → PySem.W.kitOne K (.ref C) (.ref c) = some b
  ve : PySem.W.kitOne K (.ref C) (.type "ValueError") = some true
def partBs : List Bool := [true, false, false, false, false, false, false, false, false, false, false]
def nameBs : List Bool := [false, true, false, false, false, false, false, false, false, false, false]
def erStr : Er → Str
  | .part => "part"
  | .name => "name"
def EA.c (e : EA) : Er → Addr
  | .part => e.noPart
  | .name => e.noName
theorem EA.r_eq {e : EA} {R : XR} {k : Er} : e.r R k = R (e.c k) [] := by cases k <;> rfl
def sdKinds (ea : EA) : SpD := fun ds Q => ∃ (a : Addr) (k : Er), ds = [.exc a (ea.c k) []] ∧ Q (.str (erStr k))
theorem m_kinds {ea : EA} : MonoS (sdKinds ea) := fun ds P P' f ⟨a, k, e, q⟩ => ⟨a, k, e, f _ q⟩
structure K11 (K : PySem.W.Frag) (mg : Str → Option Value) (ea : EA) : Prop where
  ex : ∃ c3 c4 c5 c6 c7 c8 c9 c10 c11 : Addr, mg "NoText" = some (.ref c3) ∧ mg "NoSheet" = some (.ref c4) ∧ mg "NoKind" = some (.ref c5) ∧ mg "NoBeat" = some (.ref c6) ∧ mg "Ring" = some (.ref c7) ∧ mg "NoInput" = some (.ref c8) ∧ mg "NoState" = some (.ref c9) ∧ mg "NoClaim" = some (.ref c10) ∧ mg "TooMany" = some (.ref c11) ∧
    KindOf K ea.noPart [ea.noPart, ea.noName, c3, c4, c5, c6, c7, c8, c9, c10, c11] partBs ∧ KindOf K ea.noName [ea.noPart, ea.noName, c3, c4, c5, c6, c7, c8, c9, c10, c11] nameBs
theorem boot_ValueError : bootBuiltins "ValueError" = some (.type "ValueError") := by kernel_rfl
section
seal wpAny
variable {P : Program} {w : World} {K : PySem.W.Frag} {mg : Str → Option Value} {base : Heap} {A : Adr} {n j : Nat} {ea : EA}
theorem c_mixed (d : Df K mg "_law_mixed" s__law_mixed ["_law_cell", "_law_k"]) : Cal P w K mg base (j + 1) "_law_mixed" ["_law_cell", "_law_k"] sdMix := by
  refine d.cal sc__law_mixed m_Mix (fun ds Q ⟨c, k, e, _⟩ => by rw [e]; rfl) (fun f cdv A outer s H E hr => have hu := hr.units; have hh := hr.hd; have sc := sc__law_mixed
    (ss_cons (s_set (i := 2) sc.nd rfl (Or.inl rfl) (d_mod (d_mul (d_add (d_add (dv 0) (d_mul d_int (dv 1))) d_int) d_int) d_int))
  (ss_one (s_ret (d_mod (d_add (d_mul (dv 2) (dv 2)) (d_mul d_int (dv 2))) d_int))))) ?_
  rintro ds Q ⟨c, k, rfl, q⟩
  have hb := mix1_lt c k
  have hm := mixed_lt c k
  refine ⟨_, rfl, _, rfl, CMul.ok (.inl ⟨by decide, by decide⟩), CMul.ok (.inr ⟨by decide, by decide⟩), (show (0 : Int) < 2147483647 by decide), ?_⟩
  exact ⟨_, rfl, _, rfl, CMul.ok (i := mix1 c k) (j := mix1 c k) (.inl ⟨by omega, by omega⟩), _, rfl, CMul.ok (.inl ⟨by decide, by decide⟩), (show (0 : Int) < 2147483399 by decide), q (mixed c k) hm.1 hm.2⟩
theorem c_cell (d : Df K mg "_law_cell_at" s__law_cell_at ["_law_script", "_law_k"]) (n_len : mg "len" = none) : Cal P w K mg base (j + 1) "_law_cell_at" ["_law_script", "_law_k"] sdCell := by
  refine d.cal sc__law_cell_at (fun ds P P' f ⟨c, k, e, h, q⟩ => ⟨c, k, e, h, fun c => f _ (q c)⟩) (fun ds Q ⟨c, k, e, _⟩ => by rw [e]; rfl) (fun f cdv A outer s H E hr => have hu := hr.units; have hh := hr.hd; have sc := sc__law_cell_at
    (ss_cons (s_if (t_lt (dv 1) (d_len (by rfl) n_len (a_cons (dv 0) a_nil))) (ss_one (s_ret (d_ix (dv 0) (dv 1) (fun _ _ => rfl)))) ss_nil)
  (ss_one (s_ret (d_mul (d_mul (d_add (dv 1) d_int) (d_add (dv 1) d_int)) d_int))))) ?_
  rintro ds Q ⟨ns, k, rfl, hk, q⟩
  refine ⟨_, rfl, _, rfl, _, _, rfl, rfl, _, rfl, ?_⟩
  show if decide ((k : Int) < ((ns.map D.int).length : Int)) = true then _ else _
  rw [List.length_map]
  cases h : decide ((k : Int) < (ns.length : Int)) with
  | true =>
    have hk' : k < ns.length := by have := of_decide_eq_true h; omega
    exact iteT ⟨_, rfl, _, rfl, .int ns[k], atI_nat (by rw [List.getElem?_map, List.getElem?_eq_getElem hk']; rfl), q _⟩
  | false =>
    exact iteF ⟨_, rfl, _, rfl, CMul.ok (i := (k : Int) + 3) (.inl ⟨by omega, by omega⟩), CMul.ok (.inr ⟨by decide, by decide⟩), q _⟩
theorem c_whole (d : Df K mg "_law_whole" s__law_whole ["_law_found"]) (n_isinstance : mg "isinstance" = none) (n_bool : mg "bool" = none) (n_int : mg "int" = none) : Cal P w K mg base (j + 1) "_law_whole" ["_law_found"] (sdA fun d => .bl (wholeD d)) := by
  refine d.cal sc__law_whole m_A l_A (fun f cdv A outer s H E hr => have hu := hr.units; have hh := hr.hd; have sc := sc__law_whole
    (ss_one (s_ret (d_and (isi_int (by rfl) n_isinstance (by rfl) n_int (dv 0)) (d_one (d_not (isi_bool (by rfl) n_isinstance (by rfl) n_bool (dv 0)))))))) ?_
  rintro ds Q ⟨x, rfl, hk, q⟩
  cases x with
  | bl b => exact ⟨_, rfl, true, rfl, true, rfl, iteT ⟨_, rfl, true, rfl, true, rfl, q⟩⟩
  | int i => exact ⟨_, rfl, true, rfl, true, rfl, iteT ⟨_, rfl, false, rfl, false, rfl, q⟩⟩
  | obj _ _ => cases hk
  | adr _ => cases hk
  | exc _ _ _ => cases hk
  | _ => exact ⟨_, rfl, false, rfl, false, rfl, iteF q⟩
theorem c_lawvalue (d : Df K mg "_law_value" s__law_value ["_law_thing_here"]) (n_isinstance : mg "isinstance" = none) (n_bool : mg "bool" = none) (c__law_whole : Cal P w K mg base j "_law_whole" ["_law_found"] (sdA fun d => .bl (wholeD d))) : Cal P w K mg base (j + 1) "_law_value" ["_law_thing_here"] (sdA fun d => .bl (valD d)) := by
  refine d.cal sc__law_value m_A l_A (fun f cdv A outer s H E hr => have hu := hr.units; have hh := hr.hd; have sc := sc__law_value
    (ss_one (s_ret (d_or (isi_bool (by rfl) n_isinstance (by rfl) n_bool (dv 0)) (d_one (d_and (d_cal c__law_whole hr (by omega) (by rfl) (a_cons (dv 0) a_nil)) (d_one (d_lele (d_neg d_int) (dv 0) d_int)))))))) ?_
  rintro ds Q ⟨x, rfl, hk, q⟩
  cases x with
  | bl b => exact ⟨_, rfl, true, rfl, true, rfl, iteT q⟩
  | int i =>
    refine ⟨_, rfl, false, rfl, false, rfl, iteF ⟨_, rfl, _, rfl, rfl, true, rfl, iteT ⟨_, rfl, _, rfl, ⟨_, rfl, ?_⟩⟩⟩⟩
    have q' : Q (.bl (decide (-128 ≤ i) && decide (i ≤ 127))) := q
    by_cases h : (-128 : Int) ≤ i
    · rw [decide_eq_true h] at q' ⊢
      exact iteT q'
    · rw [decide_eq_false h] at q' ⊢
      exact iteF q'
  | obj _ _ => cases hk
  | adr _ => cases hk
  | exc _ _ _ => cases hk
  | _ => exact ⟨_, rfl, false, rfl, false, rfl, iteF ⟨_, rfl, _, rfl, rfl, false, rfl, iteF q⟩⟩
theorem cu_kinds (d : Df K mg "_law_kinds" s__law_kinds ["_law_e"]) (n_isinstance : mg "isinstance" = none) (n_min : mg "min" = none) (n_ValueError : mg "ValueError" = none) (eo : EOk K mg ea) (k11 : K11 K mg ea) : CalU P w K mg base (j + 1) "_law_kinds" ["_law_e"] (sdKinds ea) := by
  have i_NoPart := eo.iP
  have i_NoName := eo.iN
  obtain ⟨c3, c4, c5, c6, c7, c8, c9, c10, c11, i_NoText, i_NoSheet, i_NoKind, i_NoBeat, i_Ring, i_NoInput, i_NoState, i_NoClaim, i_TooMany, kp, kn⟩ := k11.ex
  refine d.calU sc__law_kinds m_kinds (fun ds Q ⟨a, k, e, _⟩ => by rw [e]; rfl) (fun f cdv A outer s H E hr hho => have hu := roomU_units hr; have sc := sc__law_kinds
    (ss_cons (s_set (i := 1) sc.nd rfl (Or.inl rfl) (d_lst (a_cons (d_isiEC K rfl (dv 0) (by rfl) n_isinstance (by rfl) i_NoPart) (a_cons (d_isiEC K rfl (dv 0) (by rfl) n_isinstance (by rfl) i_NoName) (a_cons (d_isiEC K rfl (dv 0) (by rfl) n_isinstance (by rfl) i_NoText) (a_cons (d_isiEC K rfl (dv 0) (by rfl) n_isinstance (by rfl) i_NoSheet) a_nil))))))
  (ss_cons (s_set (i := 1) sc.nd rfl (Or.inl rfl) (d_add (dv 1) (d_lst (a_cons (d_isiEC K rfl (dv 0) (by rfl) n_isinstance (by rfl) i_NoKind) (a_cons (d_isiEC K rfl (dv 0) (by rfl) n_isinstance (by rfl) i_NoBeat) (a_cons (d_isiEC K rfl (dv 0) (by rfl) n_isinstance (by rfl) i_Ring) (a_cons (d_isiEC K rfl (dv 0) (by rfl) n_isinstance (by rfl) i_NoInput) a_nil)))))))
  (ss_cons (s_set (i := 1) sc.nd rfl (Or.inl rfl) (d_add (dv 1) (d_lst (a_cons (d_isiEC K rfl (dv 0) (by rfl) n_isinstance (by rfl) i_NoState) (a_cons (d_isiEC K rfl (dv 0) (by rfl) n_isinstance (by rfl) i_NoClaim) (a_cons (d_isiEC K rfl (dv 0) (by rfl) n_isinstance (by rfl) i_TooMany) a_nil))))))
  (ss_cons (s_if (PWd.td (w_or (t_ne hu (d_countT (dv 1) (a_ck (by rfl))) d_int) (w_or1 (t_not (t_tru (d_isiET K rfl (dv 0) (by rfl) n_isinstance (by rfl) n_ValueError boot_ValueError)))))) (ss_one (s_ret d_str)) ss_nil)
  (ss_one (s_ret (d_ix (d_lst (a_ck (by rfl))) (d_min2U hho (by rfl) n_min (a_cons d_int (a_cons (d_indexT (dv 1) (a_ck (by rfl))) a_nil))) (fun _ _ => rfl))))))))) ?_
  rintro ds Q ⟨a, k, rfl, q⟩
  cases k with
  | part =>
    refine ⟨_, rfl, a, _, _, true, rfl, kp.ty, kp.at_ 0 _ _ rfl rfl, _, rfl, a, _, _, false, rfl, kp.ty, kp.at_ 1 _ _ rfl rfl, _, rfl, a, _, _, false, rfl, kp.ty, kp.at_ 2 _ _ rfl rfl, _, rfl, a, _, _, false, rfl, kp.ty, kp.at_ 3 _ _ rfl rfl, (show 4 ≤ sizeLine by decide), ?_⟩
    refine ⟨_, rfl, _, rfl, a, _, _, false, rfl, kp.ty, kp.at_ 4 _ _ rfl rfl, _, rfl, a, _, _, false, rfl, kp.ty, kp.at_ 5 _ _ rfl rfl, _, rfl, a, _, _, false, rfl, kp.ty, kp.at_ 6 _ _ rfl rfl, _, rfl, a, _, _, false, rfl, kp.ty, kp.at_ 7 _ _ rfl rfl, (show 4 ≤ sizeLine by decide), (show 8 ≤ sizeLine by decide), ?_⟩
    refine ⟨_, rfl, _, rfl, a, _, _, false, rfl, kp.ty, kp.at_ 8 _ _ rfl rfl, _, rfl, a, _, _, false, rfl, kp.ty, kp.at_ 9 _ _ rfl rfl, _, rfl, a, _, _, false, rfl, kp.ty, kp.at_ 10 _ _ rfl rfl, (show 3 ≤ sizeLine by decide), (show 11 ≤ sizeLine by decide), ?_⟩
    refine ⟨_, rfl, [true, false, false, false, false, false, false, false, false, false, false], rfl, rfl, _, rfl, iteF ⟨_, rfl, a, _, _, true, rfl, kp.ty, kp.ve, true, rfl, iteF ?_⟩⟩
    exact ⟨(show 3 ≤ sizeLine by decide), _, rfl, [true, false, false, false, false, false, false, false, false, false, false], rfl, rfl, 0, rfl, (fun m hm => by omega), (by decide), _, _, rfl, _, rfl, q⟩
  | name =>
    refine ⟨_, rfl, a, _, _, false, rfl, kn.ty, kn.at_ 0 _ _ rfl rfl, _, rfl, a, _, _, true, rfl, kn.ty, kn.at_ 1 _ _ rfl rfl, _, rfl, a, _, _, false, rfl, kn.ty, kn.at_ 2 _ _ rfl rfl, _, rfl, a, _, _, false, rfl, kn.ty, kn.at_ 3 _ _ rfl rfl, (show 4 ≤ sizeLine by decide), ?_⟩
    refine ⟨_, rfl, _, rfl, a, _, _, false, rfl, kn.ty, kn.at_ 4 _ _ rfl rfl, _, rfl, a, _, _, false, rfl, kn.ty, kn.at_ 5 _ _ rfl rfl, _, rfl, a, _, _, false, rfl, kn.ty, kn.at_ 6 _ _ rfl rfl, _, rfl, a, _, _, false, rfl, kn.ty, kn.at_ 7 _ _ rfl rfl, (show 4 ≤ sizeLine by decide), (show 8 ≤ sizeLine by decide), ?_⟩
    refine ⟨_, rfl, _, rfl, a, _, _, false, rfl, kn.ty, kn.at_ 8 _ _ rfl rfl, _, rfl, a, _, _, false, rfl, kn.ty, kn.at_ 9 _ _ rfl rfl, _, rfl, a, _, _, false, rfl, kn.ty, kn.at_ 10 _ _ rfl rfl, (show 3 ≤ sizeLine by decide), (show 11 ≤ sizeLine by decide), ?_⟩
    refine ⟨_, rfl, [false, true, false, false, false, false, false, false, false, false, false], rfl, rfl, _, rfl, iteF ⟨_, rfl, a, _, _, true, rfl, kn.ty, kn.ve, true, rfl, iteF ?_⟩⟩
    exact ⟨(show 3 ≤ sizeLine by decide), _, rfl, [false, true, false, false, false, false, false, false, false, false, false], rfl, rfl, 1, rfl, (fun m hm => by cases (show m = 0 by omega); rfl), (by decide), _, _, rfl, _, rfl, q⟩
end
end K04

-- gen set Xf need_name need_first part_of plain_by timed_by _law_chain _law_wide _law_made _law_two_right _law_deep_right _law_tried
-- gen set Xc Given Named Turned Pair Choice Before Led When Held
-- gen set Xm need_bounds
set_option maxHeartbeats 4000000
namespace K04
open PySem PySem.Spec PyProof.Rows L2 DC
def cstep (k : Nat) (p : Pt) : Except Er Pt :=
  match bnd (.turned p) with
  | .error e => .error e
  | .ok a => match bnd (.before p .non) with
    | .error e => .error e
    | .ok b => match bnd (.whn p "c") with
      | .error e => .error e
      | .ok c => match bnd (.held p "c" (.int 0)) with
        | .error e => .error e
        | .ok d => .ok (([a, b, c, d] : List Pt).getD (k % 4) a)
def chainFrom : Nat → Nat → Pt → Except Er Pt
  | _, 0, p => .ok p
  | i, c + 1, p => match cstep i p with
    | .error e => .error e
    | .ok q => chainFrom (i + 1) c q
def chainP (n : Nat) : Except Er Pt := chainFrom 0 (n - 1) (.given (.int 1))
theorem stepB {α : Type} {ea : EA} {R : XR} {p : Pt} {k : Pt → Except Er α} {F : Except Er α → Prop} {G : Prop} (h : F (match bnd p with | .error e => .error e | .ok a => k a)) (he : F (.error .part) → ea.r R .part) (f : p.depth ≤ 10 → F (k p) → G) : if bB p = true then G else ea.r R .part := by
  unfold bnd at h
  cases hb : bB p with
  | true =>
    rw [hb, if_pos rfl] at h
    have hd : p.depth ≤ 10 := by
      unfold bB at hb
      simp only [Bool.and_eq_true, decide_eq_true_eq] at hb
      exact hb.1
    exact iteT (f hd h)
  | false => rw [hb] at h; exact iteF (he h)
def sxChain (A : Adr) (ea : EA) : SpX := fun ds Q R => ∃ n : Nat, ds = [.int (n : Int)] ∧ 1 ≤ n ∧ n ≤ 11 ∧ out A ea (chainP n) Q R
theorem m_sxChain {A : Adr} {ea : EA} : MonoX (sxChain A ea) := fun ds P P' R R' f g ⟨T, e, k1, k2, h⟩ => ⟨T, e, k1, k2, out_mono f g h⟩
theorem nameB_c : nameB "c" = true := by decide +kernel
theorem four_at (a b c d : Pt) (A : Adr) (i : Nat) : L2.atI ([a, b, c, d].map (Pt.d A)) (((i : Int)) % 4) = some ((([a, b, c, d] : List Pt).getD (i % 4) a).d A) := by
  have h : i % 4 < 4 := Nat.mod_lt _ (by decide)
  rw [show ((i : Int)) % 4 = ((i % 4 : Nat) : Int) from rfl]
  rcases (show i % 4 = 0 ∨ i % 4 = 1 ∨ i % 4 = 2 ∨ i % 4 = 3 by omega) with e | e | e | e <;> rw [e] <;> rfl
theorem rng_at {m i : Nat} {d : D} (h : (List.map (fun i : Nat => D.int (0 + (i : Int))) (List.range m))[i]? = some d) : i < m ∧ d = .int (i : Int) := by
  rw [List.getElem?_map] at h
  cases e : (List.range m)[i]? with
  | none => rw [e] at h; cases h
  | some r =>
    rw [e] at h
    have z := List.getElem?_eq_some_iff.mp e
    have hl : i < m := by have := z.1; rwa [List.length_range] at this
    have hr : i = r := by have := z.2; rwa [List.getElem_range] at this
    subst hr
    refine ⟨hl, ?_⟩
    have h' : some (D.int (0 + (i : Int))) = some d := h
    rw [Int.zero_add] at h'
    exact (Option.some.inj h').symm
section
seal wpAny
variable {P : Program} {w : World} {K : PySem.W.Frag} {mg : Str → Option Value} {base : Heap} {A : Adr} {n j : Nat} {ea : EA}
theorem cx_chain {i : Nat} (hi : i + 1 ≤ j) (d : Df K mg "_law_chain" s__law_chain ["_law_size"]) (n_range : mg "range" = none) (kx_Given_1 : MkrX P w K mg base i "Given" A.given (sxGiven ea) []) (kx_Turned_1 : MkrX P w K mg base i "Turned" A.turned (sxTurned A ea 11) []) (kx_Before_1 : MkrX P w K mg base i "Before" A.before (sxBefore A ea 11) [.non]) (kx_When_2 : MkrX P w K mg base i "When" A.whn (sxWhen A ea 11) []) (kx_Held_3 : MkrX P w K mg base i "Held" A.held (sxHeld A ea 11) []) :
    CalX P w K mg base (j + 1) "_law_chain" ["_law_size"] (sxChain A ea) := by
  refine d.calX sc__law_chain m_sxChain (fun ds Q R ⟨x, e, _⟩ => by rw [e]; rfl) (fun f cdv A outer s H E R hr hx => have hu := hr.units; have hh := hr.hd; have sc := sc__law_chain
    (ss_cons (s_set (i := 1) sc.nd rfl (Or.inl rfl) (d_mkX hx kx_Given_1 hr (by omega) (by rfl) (a_cons d_int a_nil)))
  (ss_cons (s_for PassesOwn.leaving rfl (i_range1 (by rfl) n_range (a_cons (d_sub (dv 0) d_int) a_nil)) (g_name (i := 2) sc.nd rfl (Or.inl rfl)) (ss_one (s_set (i := 1) sc.nd rfl (Or.inl rfl) (d_ix (d_lst (a_cons (d_mkX hx kx_Turned_1 hr (by omega) (by rfl) (a_cons (dv 1) a_nil)) (a_cons (d_mkX hx kx_Before_1 hr (by omega) (by rfl) (a_cons (dv 1) a_nil)) (a_cons (d_mkX hx kx_When_2 hr (by omega) (by rfl) (a_cons (dv 1) (a_cons d_str a_nil))) (a_cons (d_mkX hx kx_Held_3 hr (by omega) (by rfl) (a_cons (dv 1) (a_cons d_str (a_cons d_int a_nil)))) a_nil))))) (d_mod (dv 2) d_int) (fun _ _ => rfl)))))
  (ss_one (s_ret (dv 1)))))) ?_
  rintro ds Q R ⟨n, rfl, h1, h11, h⟩
  refine ⟨_, rfl, rfl, iteT ?_⟩
  refine ⟨_, rfl, _, rfl, (by show -(2 ^ 62 : Int) ≤ (n : Int) - 1; omega), (by show (n : Int) - 1 < (2 ^ 62 : Int); omega), fun i δ => ∃ (p : Pt) (c : Nat) (k : Option D), i + c = n - 1 ∧ p.depth ≤ 10 ∧ δ = [some (.int (n : Int)), some (p.d A), k] ∧ out A ea (chainFrom i c p) Q R, ?_, ?_, ?_⟩
  · exact ⟨.given (.int 1), n - 1, none, by omega, by decide, rfl, h⟩
  · intro i d δ' hd hin
    obtain ⟨p, c, k, hc, hp, rfl, ho⟩ := hin
    obtain ⟨hlt, rfl⟩ := rng_at hd
    obtain ⟨c, rfl⟩ : ∃ c', c = c' + 1 := ⟨c - 1, by omega⟩
    let F : Except Er Pt → Prop := fun r => out A ea (match r with | .error e => .error e | .ok q => chainFrom (i + 1) c q) Q R
    have ho : F (cstep i p) := ho
    have he : F (.error .part) → ea.r R .part := fun z => z
    refine ⟨_, rfl, p, rfl, (by simp only [Pt.depth]; omega), stepB (F := F) ho he fun d1 ho => ?_⟩
    refine ⟨_, rfl, p, .non, rfl, rfl, (by simp only [Pt.depth]; omega), iteT (stepB (F := F) ho he fun d2 ho => ?_)⟩
    refine ⟨_, rfl, p, "c", rfl, (by decide), (by simp only [Pt.depth]; omega), ?_⟩
    rw [nameB_c]
    refine iteT (stepB (F := F) ho he fun d3 ho => ?_)
    refine ⟨_, rfl, p, "c", .int 0, rfl, (by decide), rfl, (by simp only [Pt.depth]; omega), ?_⟩
    rw [nameB_c]
    refine iteT (iteT (stepB (F := F) ho he fun d4 ho => ?_))
    refine ⟨(show 4 ≤ sizeLine by decide), _, rfl, (show (0 : Int) < 4 by decide), _, four_at (.turned p) (.before p .non) (.whn p "c") (.held p "c" (.int 0)) A i, _, c, some (.int (i : Int)), by omega, ?_, rfl, ho⟩
    have hm : i % 4 < 4 := Nat.mod_lt _ (by decide)
    rcases (show i % 4 = 0 ∨ i % 4 = 1 ∨ i % 4 = 2 ∨ i % 4 = 3 by omega) with e | e | e | e <;> rw [e] <;> assumption
  · intro δ' hin
    obtain ⟨p, c, k, hc, hp, rfl, ho⟩ := hin
    rw [List.length_map, List.length_range] at hc ho
    have hc0 : c = 0 := by omega
    subst hc0
    exact ⟨_, rfl, ho⟩
end
end K04

-- gen set Xf need_name need_first part_of plain_by timed_by _law_chain _law_wide _law_made _law_two_right _law_deep_right _law_tried
-- gen set Xc Given Named Turned Pair Choice Before Led When Held
-- gen set Xm need_bounds
set_option maxHeartbeats 4000000
namespace K04
open PySem PySem.Spec PyProof.Rows L2 DC
def wfrom : Nat → List Pt → Except Er Pt
  | _, [] => .error .part
  | _, [p] => .ok p
  | 0, _ => .error .part
  | f + 1, a :: b :: r => match bnd (.pair "+" a b) with
    | .error e => .error e
    | .ok p => wfrom f (r ++ [p])
def leaves (m : Nat) : List Pt := (List.range m).map fun k : Nat => .given (.int (k : Int))
def wend (n : Nat) (r : Except Er Pt) : Except Er Pt := match r with
  | .error e => .error e
  | .ok p => if decide (n % 2 = 0) = true then bnd (.turned p) else .ok p
def wide (n : Nat) : Except Er Pt := wend n (wfrom ((n + 1) / 2) (leaves ((n + 1) / 2)))
def sxWide (A : Adr) (ea : EA) : SpX := fun ds Q R => ∃ n : Nat, ds = [.int (n : Int)] ∧ 1 ≤ n ∧ n ≤ 41 ∧ out A ea (wide n) Q R
theorem m_sxWide {A : Adr} {ea : EA} : MonoX (sxWide A ea) := fun ds P P' R R' f g ⟨T, e, k1, k2, h⟩ => ⟨T, e, k1, k2, out_mono f g h⟩
theorem signB_plus : signB "+" = true := by decide +kernel
theorem go_given {A : Adr} {ea : EA} {R : XR} {k : D → Prop} {δ0 : SD} : ∀ (ns acc : List Int), (∀ i ∈ ns, -128 ≤ i ∧ i ≤ 127) → k (.lst ((acc ++ ns).map fun i => (Pt.given (.int i)).d A)) →
    goX uYes (vMakeX (fun _ => R) A.given (sxGiven ea) [] (aCons (vVar 0) aNil)) δ0 (ns.map D.int) (acc.map fun i => (Pt.given (.int i)).d A) k
  | [], acc, _, h => by rw [List.append_nil] at h; exact h
  | i :: ns, acc, hb, h => by
    obtain ⟨h1, h2⟩ := hb i List.mem_cons_self
    refine ⟨fun _ => ⟨_, rfl, .int i, rfl, rfl, ?_⟩, fun z => by cases z⟩
    rw [show valD (.int i) = true by simp [valD, numD, h1, h2]]
    refine iteT ?_
    have z := go_given (k := k) (δ0 := δ0) (ea := ea) (R := R) ns (acc ++ [i]) (fun i hi => hb i (List.mem_cons_of_mem _ hi)) (by rw [List.append_assoc]; exact h)
    rw [List.map_append] at z
    exact z
theorem cut2 (x y : D) (xs : List D) : DC.cutD (x :: y :: xs) (some 2) none = xs := by
  unfold DC.cutD
  rw [show HT.sIx (x :: y :: xs).length 0 (some (2 : Int)) = 2 by rw [show (2 : Int) = ((2 : Nat) : Int) from rfl, HT.sIx_nat, List.length_cons, List.length_cons]; omega, show HT.sIx (x :: y :: xs).length (x :: y :: xs).length none = (x :: y :: xs).length from rfl]
  rw [show List.drop 2 (x :: y :: xs) = xs from rfl]
  exact List.take_of_length_le (by rw [List.length_cons, List.length_cons]; omega)
theorem sl2 {x y : D} {xs : List D} {Q : D → Prop} (h : Q (.lst xs)) : fSl (.lst (x :: y :: xs)) (some 2) none Q := by
  show Q (.lst (DC.cutD (x :: y :: xs) (some 2) none))
  rw [cut2]
  exact h
theorem leaves_len (m : Nat) : (leaves m).length = m := by simp [leaves]
section
seal wpAny
variable {P : Program} {w : World} {K : PySem.W.Frag} {mg : Str → Option Value} {base : Heap} {A : Adr} {n j : Nat} {ea : EA}
theorem cx_wide {i : Nat} (hi : i + 1 ≤ j) (d : Df K mg "_law_wide" s__law_wide ["_law_size"]) (n_range : mg "range" = none) (n_len : mg "len" = none) (kx_Given_1 : MkrX P w K mg base i "Given" A.given (sxGiven ea) []) (kx_Turned_1 : MkrX P w K mg base i "Turned" A.turned (sxTurned A ea 11) []) (kx_Pair_3 : MkrX P w K mg base i "Pair" A.pair (sxPair A ea 11) []) :
    CalX P w K mg base (j + 1) "_law_wide" ["_law_size"] (sxWide A ea) := by
  refine d.calX sc__law_wide m_sxWide (fun ds Q R ⟨x, e, _⟩ => by rw [e]; rfl) (fun f cdv A outer s H E R hr hx => have hu := hr.units; have hh := hr.hd; have sc := sc__law_wide
    (ss_cons (s_lcX (i := 1) rfl rfl hx sc.nd rfl (Or.inl rfl) (x := "_law_k") (caps := []) (cn := []) (cl := []) (comp0 (by rfl) (by rfl) (by decide +kernel) (by decide +kernel) (by decide +kernel)) rfl (i_range1 (by rfl) n_range (a_cons (d_div (d_add (dv 0) d_int) d_int) a_nil)) (fun C fp s₂ H₂ => pg_name (i := 0) (show (["_law_k"] : List Str).Nodup by decide +kernel) rfl (Or.inl rfl) (.inr rfl)) (fun C fp s₂ H₂ => ts_nil) (fun C fp s₂ H₂ => (d_mkX acc_comp kx_Given_1 hr (by omega) (by rfl) (a_cons (dv 0) a_nil))))
  (ss_cons (s_while PassesOwn.leaving (t_gt (d_len (by rfl) n_len (a_cons (dv 1) a_nil)) d_int) (ss_one (s_set (i := 1) sc.nd rfl (Or.inl rfl) (d_add (d_slice (dv 1) (o_some d_int) o_none) (d_lst (a_cons (d_mkX hx kx_Pair_3 hr (by omega) (by rfl) (a_cons d_str (a_cons (d_ix (dv 1) d_int (fun _ _ => rfl)) (a_cons (d_ix (dv 1) d_int (fun _ _ => rfl)) a_nil)))) a_nil))))))
  (ss_cons (s_if (t_eq hu (d_mod (dv 0) d_int) d_int) (ss_one (s_ret (d_mkX hx kx_Turned_1 hr (by omega) (by rfl) (a_cons (d_ix (dv 1) d_int (fun _ _ => rfl)) a_nil)))) ss_nil)
  (ss_one (s_ret (d_ix (dv 1) d_int (fun _ _ => rfl)))))))) ?_
  rintro ds Q R ⟨n, rfl, h1, h41, h⟩
  refine ⟨_, rfl, cd (by decide) (by decide), _, rfl, ?_⟩
  have eM : (((n : Int) + 1) / 2).toNat = (n + 1) / 2 := by omega
  have eL : (List.range ((n + 1) / 2)).map (fun i : Nat => D.int (0 + (i : Int))) = ((List.range ((n + 1) / 2)).map fun i : Nat => (i : Int)).map D.int := by
    rw [List.map_map]
    refine List.map_congr_left fun i _ => ?_
    show D.int (0 + (i : Int)) = D.int (i : Int)
    rw [Int.zero_add]
  refine ⟨by omega, by omega, ?_⟩
  rw [eM, eL]
  refine ⟨?_, go_given _ [] (fun i hi => ?_) ?_⟩
  · rw [List.length_map, List.length_map, List.length_range, sizeLine_eq]; omega
  · obtain ⟨k, hk, rfl⟩ := List.mem_map.mp hi
    have := List.mem_range.mp hk
    omega
  rw [List.nil_append, List.map_map]
  refine ⟨fun m δ => ∃ l : List Pt, m = l.length ∧ 1 ≤ l.length ∧ l.length ≤ 21 ∧ (∀ p ∈ l, p.depth ≤ 10) ∧ δ = [some (.int (n : Int)), some (.lst (l.map (Pt.d A)))] ∧ out A ea (wend n (wfrom l.length l)) Q R, ⟨_, leaves ((n + 1) / 2), rfl, ?_, ?_, ?_, ?_, ?_⟩, ?_⟩
  · rw [leaves_len]; omega
  · rw [leaves_len]; omega
  · intro p hp
    obtain ⟨k, _, rfl⟩ := List.mem_map.mp hp
    exact (by decide : (1 : Nat) ≤ 10)
  · show _ = [some (D.int (n : Int)), some (.lst ((leaves ((n + 1) / 2)).map (Pt.d A)))]
    unfold leaves
    rw [List.map_map]
    rfl
  · rw [leaves_len]; exact h
  rintro m δ' ⟨l, rfl, l1, l2, hd, rfl, ho⟩
  refine ⟨_, rfl, _, _, rfl, rfl, _, rfl, ?_⟩
  show if decide ((1 : Int) < ((l.map (Pt.d A)).length : Int)) = true then _ else _
  rw [List.length_map]
  match l, l1, l2, hd, ho with
  | [p], _, _, hd, ho =>
    refine iteF ⟨_, rfl, (show (0 : Int) < 2 by decide), _, rfl, ?_⟩
    show if decide ((n : Int) % 2 = 0) = true then _ else _
    have d1 := hd p (by simp)
    have ho' : out A ea (if decide (n % 2 = 0) = true then bnd (.turned p) else .ok p) Q R := ho
    by_cases e : n % 2 = 0
    · rw [decide_eq_true (show (n : Int) % 2 = 0 by omega)]
      rw [decide_eq_true e, if_pos rfl] at ho'
      exact iteT ⟨_, rfl, _, rfl, p, rfl, (by simp only [Pt.depth]; omega), outB ho'⟩
    · rw [decide_eq_false (show ¬ (n : Int) % 2 = 0 by omega)]
      rw [decide_eq_false e, if_neg Bool.false_ne_true] at ho'
      exact iteF ⟨_, rfl, _, rfl, ho'⟩
  | a :: b :: r, _, l2, hd, ho =>
    rw [decide_eq_true (by rw [List.length_cons, List.length_cons]; omega)]
    have d1 := hd a (by simp)
    have d2 := hd b (by simp)
    refine iteT ⟨_, rfl, 2, rfl, ?_⟩
    simp only [oNone, List.map_cons]
    refine sl2 ?_
    let F : Except Er Pt → Prop := fun x => out A ea (wend n x) Q R
    have ho : F (match bnd (.pair "+" a b) with | .error e => .error e | .ok p => wfrom (r.length + 1) (r ++ [p])) := ho
    have he : F (.error .part) → ea.r R .part := fun z => z
    refine ⟨_, rfl, _, atI_nat (j := 0) rfl, _, rfl, _, atI_nat (j := 1) rfl, "+", a, b, rfl, (by simp only [Pt.depth]; omega), ?_⟩
    rw [signB_plus]
    refine iteT (stepB (F := F) ho he fun d3 ho => ⟨(show 1 ≤ sizeLine by decide), ?_, r.length + 1, by rw [List.length_cons, List.length_cons]; omega, r ++ [.pair "+" a b], by simp, by simp, ?_, ?_, ?_, ?_⟩)
    · rw [List.length_map, sizeLine_eq]
      rw [List.length_cons, List.length_cons] at l2
      show r.length + 1 ≤ _
      omega
    · rw [List.length_append, List.length_singleton]
      rw [List.length_cons, List.length_cons] at l2
      omega
    · intro p hp
      rcases List.mem_append.mp hp with hp | hp
      · exact hd p (List.mem_cons_of_mem _ (List.mem_cons_of_mem _ hp))
      · rw [List.mem_singleton.mp hp]; exact d3
    · rw [List.map_append]; rfl
    · rw [List.length_append, List.length_singleton]; exact ho
end
end K04

-- gen set Xf need_name need_first part_of plain_by timed_by _law_chain _law_wide _law_made _law_two_right _law_deep_right _law_tried
-- gen set Xc Given Named Turned Pair Choice Before Led When Held
-- gen set Xm need_bounds
set_option maxHeartbeats 4000000
namespace K04
open PySem PySem.Spec PyProof.Rows L2 DC
def p5 (c : Int) : Pt := .given (.int (c % 5))
def seqM (r : Except Er Pt) (k : Pt → Except Er Pt) : Except Er Pt := match r with
  | .error e => .error e
  | .ok p => k p
theorem outM {A : Adr} {ea : EA} {r : Except Er Pt} {k : Pt → Except Er Pt} {Q G : D → Prop} {R : XR} (h : out A ea (seqM r k) Q R) (f : ∀ p, r = .ok p → out A ea (k p) Q R → G (p.d A)) : out A ea r G R := by
  cases r with
  | error e => exact h
  | ok p => exact f p rfl h
theorem wfrom_depth : ∀ {f : Nat} {l : List Pt} {p : Pt}, (∀ q ∈ l, q.depth ≤ 10) → wfrom f l = .ok p → p.depth ≤ 10
  | f, [], p, _, h => by rw [wfrom] at h; cases h
  | f, [q], p, hl, h => by rw [wfrom] at h; cases h; exact hl _ (by simp)
  | 0, a :: b :: r, p, _, h => by simp [wfrom] at h
  | f + 1, a :: b :: r, p, hl, h => by
    rw [wfrom] at h
    cases hb : bnd (.pair "+" a b) with
    | error e => rw [hb] at h; cases h
    | ok x =>
      rw [hb] at h
      refine wfrom_depth (fun q hq => ?_) h
      rcases List.mem_append.mp hq with hq | hq
      · exact hl q (List.mem_cons_of_mem _ (List.mem_cons_of_mem _ hq))
      · rw [List.mem_singleton.mp hq]; exact bnd_depth hb
theorem wide_depth {n : Nat} {p : Pt} (h : wide n = .ok p) : p.depth ≤ 10 := by
  unfold wide wend at h
  cases hw : wfrom ((n + 1) / 2) (leaves ((n + 1) / 2)) with
  | error e => rw [hw] at h; cases h
  | ok q =>
    rw [hw] at h
    have hq : q.depth ≤ 10 := wfrom_depth (fun x hx => by
      obtain ⟨k, _, rfl⟩ := List.mem_map.mp hx
      exact (by decide : (1 : Nat) ≤ 10)) hw
    have h' : (if decide (n % 2 = 0) = true then bnd (.turned q) else .ok q) = .ok p := h
    cases e : decide (n % 2 = 0) with
    | true => rw [e, if_pos rfl] at h'; exact bnd_depth h'
    | false => rw [e, if_neg Bool.false_ne_true] at h'; cases h'; exact hq
inductive Way : Int → D → Int → Except Er Pt → Prop
  | w0 {d : D} {c : Int} (k : (kindD d).isSome = true) : Way 0 d c (if valD d = true then .ok (.given d) else .error .part)
  | w1 {x : Str} {c : Int} (k : x.length ≤ 100000) : Way 1 (.str x) c (if nameB x = true then .ok (.named x) else .error .name)
  | w2 {x : Str} {c : Int} (k : x.length ≤ 100000) : Way 2 (.str x) c (if nameB x = true then bnd (.whn (p5 c) x) else .error .name)
  | w3 {x : Str} {c : Int} (k : x.length ≤ 100000) : Way 3 (.str x) c (if nameB x = true then bnd (.held (p5 c) x .non) else .error .name)
  | w4 {g : Str} {c : Int} : Way 4 (.str g) c (if signB g = true then bnd (.pair g (p5 c) (.given (.bl true))) else .error .part)
  | w5 {d : D} {c : Int} (k : (kindD d).isSome = true) : Way 5 d c (if firstB d = true then bnd (.before (p5 c) d) else .error .part)
  | w6 {d : D} {c : Int} (k : (kindD d).isSome = true) : Way 6 d c (if firstB d = true then bnd (.held (p5 c) "c" d) else .error .part)
  | w7 {n : Nat} {c : Int} (k1 : 1 ≤ n) (k2 : n ≤ 11) : Way 7 (.int (n : Int)) c (chainP n)
  | w8 {n : Nat} {c : Int} (k1 : 1 ≤ n) (k2 : n ≤ 41) : Way 8 (.int (n : Int)) c (wide n)
  | w9 {n : Nat} {c : Int} (k1 : 1 ≤ n) (k2 : n ≤ 41) (h : c % 2 = 0) : Way 9 (.int (n : Int)) c (seqM (wide 13) fun p => seqM (wide 13) fun q => seqM (wide n) fun r => bnd (.choice p q r))
  | w9' {n : Nat} {c : Int} (k1 : 1 ≤ n) (k2 : n ≤ 41) (h : c % 2 ≠ 0) : Way 9 (.int (n : Int)) c (seqM (wide 20) fun p => seqM (wide n) fun q => bnd (.led p q))
def sxMade (A : Adr) (ea : EA) : SpX := fun ds Q R => ∃ (w : Int) (th : D) (c : Int) (r : Except Er Pt), ds = [.int w, th, .int c] ∧ Way w th c r ∧ out A ea r Q R
theorem m_sxMade {A : Adr} {ea : EA} : MonoX (sxMade A ea) := fun ds P P' R R' f g ⟨w, th, c, r, e, k, h⟩ => ⟨w, th, c, r, e, k, out_mono f g h⟩
section
seal wpAny
variable {P : Program} {w : World} {K : PySem.W.Frag} {mg : Str → Option Value} {base : Heap} {A : Adr} {n j : Nat} {ea : EA}
theorem cx_made {i : Nat} (hi : i + 1 ≤ j) (d : Df K mg "_law_made" s__law_made ["_law_way", "_law_thing_here", "_law_cell"]) (kx_Given_1 : MkrX P w K mg base i "Given" A.given (sxGiven ea) []) (kx_Named_1 : MkrX P w K mg base i "Named" A.named (sxNamed ea) []) (kx_Choice_3 : MkrX P w K mg base i "Choice" A.choice (sxChoice A ea 11) []) (kx_Before_2 : MkrX P w K mg base i "Before" A.before (sxBefore A ea 11) []) (kx_Led_2 : MkrX P w K mg base i "Led" A.led (sxLed A ea 11) []) (kx_When_2 : MkrX P w K mg base i "When" A.whn (sxWhen A ea 11) []) (kx_Held_3 : MkrX P w K mg base i "Held" A.held (sxHeld A ea 11) []) (kx_Held_2 : MkrX P w K mg base i "Held" A.held (sxHeld A ea 11) [.non]) (kx_Pair_3 : MkrX P w K mg base i "Pair" A.pair (sxPair A ea 11) []) (cx__law_chain : CalX P w K mg base j "_law_chain" ["_law_size"] (sxChain A ea)) (cx__law_wide : CalX P w K mg base j "_law_wide" ["_law_size"] (sxWide A ea)) :
    CalX P w K mg base (j + 1) "_law_made" ["_law_way", "_law_thing_here", "_law_cell"] (sxMade A ea) := by
  refine d.calX sc__law_made m_sxMade (fun ds Q R ⟨_, _, _, _, e, _⟩ => by rw [e]; rfl) (fun f cdv A outer s H E R hr hx => have hu := hr.units; have hh := hr.hd; have sc := sc__law_made
    (ss_cons (s_set (i := 3) sc.nd rfl (Or.inl rfl) (d_mkX hx kx_Given_1 hr (by omega) (by rfl) (a_cons (d_mod (dv 2) d_int) a_nil)))
  (ss_cons (s_if (t_eq hu (dv 0) d_int) (ss_one (s_ret (d_mkX hx kx_Given_1 hr (by omega) (by rfl) (a_cons (dv 1) a_nil)))) ss_nil)
  (ss_cons (s_if (t_eq hu (dv 0) d_int) (ss_one (s_ret (d_mkX hx kx_Named_1 hr (by omega) (by rfl) (a_cons (dv 1) a_nil)))) ss_nil)
  (ss_cons (s_if (t_eq hu (dv 0) d_int) (ss_one (s_ret (d_mkX hx kx_When_2 hr (by omega) (by rfl) (a_cons (dv 3) (a_cons (dv 1) a_nil))))) ss_nil)
  (ss_cons (s_if (t_eq hu (dv 0) d_int) (ss_one (s_ret (d_mkX hx kx_Held_2 hr (by omega) (by rfl) (a_cons (dv 3) (a_cons (dv 1) a_nil))))) ss_nil)
  (ss_cons (s_if (t_eq hu (dv 0) d_int) (ss_one (s_ret (d_mkX hx kx_Pair_3 hr (by omega) (by rfl) (a_cons (dv 1) (a_cons (dv 3) (a_cons (d_mkX hx kx_Given_1 hr (by omega) (by rfl) (a_cons d_bl a_nil)) a_nil)))))) ss_nil)
  (ss_cons (s_if (t_eq hu (dv 0) d_int) (ss_one (s_ret (d_mkX hx kx_Before_2 hr (by omega) (by rfl) (a_cons (dv 3) (a_cons (dv 1) a_nil))))) ss_nil)
  (ss_cons (s_if (t_eq hu (dv 0) d_int) (ss_one (s_ret (d_mkX hx kx_Held_3 hr (by omega) (by rfl) (a_cons (dv 3) (a_cons d_str (a_cons (dv 1) a_nil)))))) ss_nil)
  (ss_cons (s_if (t_eq hu (dv 0) d_int) (ss_one (s_ret (d_calX hx cx__law_chain hr (by omega) (by rfl) (a_cons (dv 1) a_nil)))) ss_nil)
  (ss_cons (s_if (t_eq hu (dv 0) d_int) (ss_one (s_ret (d_calX hx cx__law_wide hr (by omega) (by rfl) (a_cons (dv 1) a_nil)))) ss_nil)
  (ss_cons (s_if (t_eq hu (d_mod (dv 2) d_int) d_int) (ss_one (s_ret (d_mkX hx kx_Choice_3 hr (by omega) (by rfl) (a_cons (d_calX hx cx__law_wide hr (by omega) (by rfl) (a_cons d_int a_nil)) (a_cons (d_calX hx cx__law_wide hr (by omega) (by rfl) (a_cons d_int a_nil)) (a_cons (d_calX hx cx__law_wide hr (by omega) (by rfl) (a_cons (dv 1) a_nil)) a_nil)))))) ss_nil)
  (ss_one (s_ret (d_mkX hx kx_Led_2 hr (by omega) (by rfl) (a_cons (d_calX hx cx__law_wide hr (by omega) (by rfl) (a_cons d_int a_nil)) (a_cons (d_calX hx cx__law_wide hr (by omega) (by rfl) (a_cons (dv 1) a_nil)) a_nil))))))))))))))))) ?_
  rintro ds Q R ⟨w, th, c, r, rfl, hw, h⟩
  have c0 := mod_lo c (show (0 : Int) < 5 by decide)
  have c1 := mod_hi c (show (0 : Int) < 5 by decide)
  have hv : valD (.int (c % 5)) = true := by simp [valD, numD]; omega
  have hp : (p5 c).depth = 1 := rfl
  refine ⟨_, rfl, (show (0 : Int) < 5 by decide), .int (c % 5), rfl, rfl, ?_⟩
  rw [hv]
  refine iteT ?_
  cases hw with
  | w0 k => exact ⟨_, rfl, true, congrArg D.bl (by decide), iteT ⟨_, rfl, _, rfl, k, outI h⟩⟩
  | w1 k => exact ⟨_, rfl, false, congrArg D.bl (by decide), iteF ⟨_, rfl, true, congrArg D.bl (by decide), iteT ⟨_, rfl, _, rfl, k, outI h⟩⟩⟩
  | w2 k => exact ⟨_, rfl, false, congrArg D.bl (by decide), iteF ⟨_, rfl, false, congrArg D.bl (by decide), iteF ⟨_, rfl, true, congrArg D.bl (by decide), iteT ⟨_, rfl, _, rfl, p5 c, _, rfl, k, (by simp only [Pt.depth]; omega), ifM (outI h) outB fun z => z⟩⟩⟩⟩
  | w3 k => exact ⟨_, rfl, false, congrArg D.bl (by decide), iteF ⟨_, rfl, false, congrArg D.bl (by decide), iteF ⟨_, rfl, false, congrArg D.bl (by decide), iteF ⟨_, rfl, true, congrArg D.bl (by decide), iteT ⟨_, rfl, _, rfl, p5 c, _, .non, rfl, k, rfl, (by simp only [Pt.depth]; omega), ifM (outI h) (fun h => iteT (outB h)) fun z => z⟩⟩⟩⟩⟩
  | w4 => exact ⟨_, rfl, false, congrArg D.bl (by decide), iteF ⟨_, rfl, false, congrArg D.bl (by decide), iteF ⟨_, rfl, false, congrArg D.bl (by decide), iteF ⟨_, rfl, false, congrArg D.bl (by decide), iteF ⟨_, rfl, true, congrArg D.bl (by decide), iteT ⟨_, rfl, _, rfl, .bl true, rfl, rfl, iteT ⟨_, p5 c, .given (.bl true), rfl, (by simp only [Pt.depth]; omega), ifM (outI h) outB fun z => z⟩⟩⟩⟩⟩⟩⟩
  | w5 k => exact ⟨_, rfl, false, congrArg D.bl (by decide), iteF ⟨_, rfl, false, congrArg D.bl (by decide), iteF ⟨_, rfl, false, congrArg D.bl (by decide), iteF ⟨_, rfl, false, congrArg D.bl (by decide), iteF ⟨_, rfl, false, congrArg D.bl (by decide), iteF ⟨_, rfl, true, congrArg D.bl (by decide), iteT ⟨_, rfl, _, rfl, p5 c, _, rfl, k, (by simp only [Pt.depth]; omega), ifM (outI h) outB fun z => z⟩⟩⟩⟩⟩⟩⟩
  | w6 k => exact ⟨_, rfl, false, congrArg D.bl (by decide), iteF ⟨_, rfl, false, congrArg D.bl (by decide), iteF ⟨_, rfl, false, congrArg D.bl (by decide), iteF ⟨_, rfl, false, congrArg D.bl (by decide), iteF ⟨_, rfl, false, congrArg D.bl (by decide), iteF ⟨_, rfl, false, congrArg D.bl (by decide), iteF ⟨_, rfl, true, congrArg D.bl (by decide), iteT ⟨_, rfl, _, rfl, p5 c, "c", _, rfl, (by decide), k, (by simp only [Pt.depth]; omega), (by rw [nameB_c]; exact iteT (ifM (outI h) outB fun z => z))⟩⟩⟩⟩⟩⟩⟩⟩
  | w7 k1 k2 => exact ⟨_, rfl, false, congrArg D.bl (by decide), iteF ⟨_, rfl, false, congrArg D.bl (by decide), iteF ⟨_, rfl, false, congrArg D.bl (by decide), iteF ⟨_, rfl, false, congrArg D.bl (by decide), iteF ⟨_, rfl, false, congrArg D.bl (by decide), iteF ⟨_, rfl, false, congrArg D.bl (by decide), iteF ⟨_, rfl, false, congrArg D.bl (by decide), iteF ⟨_, rfl, true, congrArg D.bl (by decide), iteT ⟨_, rfl, _, rfl, k1, k2, h⟩⟩⟩⟩⟩⟩⟩⟩⟩
  | w8 k1 k2 => exact ⟨_, rfl, false, congrArg D.bl (by decide), iteF ⟨_, rfl, false, congrArg D.bl (by decide), iteF ⟨_, rfl, false, congrArg D.bl (by decide), iteF ⟨_, rfl, false, congrArg D.bl (by decide), iteF ⟨_, rfl, false, congrArg D.bl (by decide), iteF ⟨_, rfl, false, congrArg D.bl (by decide), iteF ⟨_, rfl, false, congrArg D.bl (by decide), iteF ⟨_, rfl, false, congrArg D.bl (by decide), iteF ⟨_, rfl, true, congrArg D.bl (by decide), iteT ⟨_, rfl, _, rfl, k1, k2, h⟩⟩⟩⟩⟩⟩⟩⟩⟩⟩
  | w9 k1 k2 hc =>
    refine ⟨_, rfl, false, congrArg D.bl (by decide), iteF ⟨_, rfl, false, congrArg D.bl (by decide), iteF ⟨_, rfl, false, congrArg D.bl (by decide), iteF ⟨_, rfl, false, congrArg D.bl (by decide), iteF ⟨_, rfl, false, congrArg D.bl (by decide), iteF ⟨_, rfl, false, congrArg D.bl (by decide), iteF ⟨_, rfl, false, congrArg D.bl (by decide), iteF ⟨_, rfl, false, congrArg D.bl (by decide), iteF ⟨_, rfl, false, congrArg D.bl (by decide), iteF ⟨_, rfl, (show (0 : Int) < 2 by decide), true, congrArg D.bl (decide_eq_true hc), iteT ?_⟩⟩⟩⟩⟩⟩⟩⟩⟩⟩
    refine ⟨13, rfl, by decide, by decide, outM h fun p e1 h => ⟨13, rfl, by decide, by decide, outM h fun q e2 h => ⟨_, rfl, _, rfl, k1, k2, outM h fun r e3 h => ⟨p, q, r, rfl, ?_, outB h⟩⟩⟩⟩
    have d1 := wide_depth e1
    have d2 := wide_depth e2
    have d3 := wide_depth e3
    simp only [Pt.depth]
    omega
  | w9' k1 k2 hc =>
    refine ⟨_, rfl, false, congrArg D.bl (by decide), iteF ⟨_, rfl, false, congrArg D.bl (by decide), iteF ⟨_, rfl, false, congrArg D.bl (by decide), iteF ⟨_, rfl, false, congrArg D.bl (by decide), iteF ⟨_, rfl, false, congrArg D.bl (by decide), iteF ⟨_, rfl, false, congrArg D.bl (by decide), iteF ⟨_, rfl, false, congrArg D.bl (by decide), iteF ⟨_, rfl, false, congrArg D.bl (by decide), iteF ⟨_, rfl, false, congrArg D.bl (by decide), iteF ⟨_, rfl, (show (0 : Int) < 2 by decide), false, congrArg D.bl (decide_eq_false hc), iteF ?_⟩⟩⟩⟩⟩⟩⟩⟩⟩⟩
    refine ⟨20, rfl, by decide, by decide, outM h fun p e1 h => ⟨_, rfl, _, rfl, k1, k2, outM h fun q e2 h => ⟨p, q, rfl, ?_, outB h⟩⟩⟩
    have d1 := wide_depth e1
    have d2 := wide_depth e2
    simp only [Pt.depth]
    omega
end
end K04

-- gen set Xf need_name need_first part_of plain_by timed_by _law_chain _law_wide _law_made _law_two_right _law_deep_right _law_tried
-- gen set Xc Given Named Turned Pair Choice Before Led When Held
-- gen set Xm need_bounds
-- gen set U _law_kinds
set_option maxHeartbeats 4000000
namespace K04
open PySem PySem.Spec PyProof.Rows L2 DC
def strR : Except Er Pt → Str
  | .ok _ => ""
  | .error e => erStr e
structure ROk (K : PySem.W.Frag) (mg : Str → Option Value) (ea : EA) : Prop where
  ex : ∃ c, mg "RowError" = some (.ref c) ∧ (∀ k, PySem.W.kitCls K (.ref (ea.c k)) (.ref c) = some true) ∧ PySem.W.mroIn K c (.type "BaseException") = some true
def hitE (ea : EA) (C : Addr) : Prop := ∃ k, C = ea.c k
def sxTried (ea : EA) : SpX := fun ds Q _ => ∃ (w : Int) (th : D) (c : Int) (r : Except Er Pt), ds = [.int w, th, .int c] ∧ Way w th c r ∧ Q (.str (strR r))
theorem m_sxTried {ea : EA} : MonoX (sxTried ea) := fun ds P P' R R' f g ⟨w, th, c, r, e, k, h⟩ => ⟨w, th, c, r, e, k, f _ h⟩
theorem atI_in {α : Type} {xs : List α} {i : Int} (h0 : 0 ≤ i) (h1 : i < xs.length) : ∃ r, r ∈ xs ∧ L2.atI xs i = some r := by
  unfold L2.atI L2.ixN
  rw [if_pos h0, if_pos h1]
  have h : i.toNat < xs.length := by omega
  exact ⟨xs[i.toNat], List.getElem_mem h, by simp [List.getElem?_eq_getElem h]⟩
theorem out_err {A : Adr} {ea : EA} {e : Er} {Q : D → Prop} {R : XR} (h : R (ea.c e) []) : out A ea (.error e) Q R := by
  show ea.r R e
  rw [EA.r_eq]
  exact h
def someL (m : Int) : List D := [.int 0, .int 5, .int (-128), .int 127, .bl true, .bl false, .int 128, .int (-129), .non, .str "1", .lst [.int 1], .tup [.int 1], .int (m + 128), .dK []]
theorem some_kind {m : Int} {r : D} (h : r ∈ someL m) : (kindD r).isSome = true := by
  simp only [someL, List.mem_cons, List.not_mem_nil, or_false] at h
  rcases h with rfl | rfl | rfl | rfl | rfl | rfl | rfl | rfl | rfl | rfl | rfl | rfl | rfl | rfl <;> rfl
def nameL : List Str := ["a", "on", "a.on", "", "a.", "abcdefgh", "abcdefghi", "a b", "a1", "a.b.c.d", "a.b.c.d.e", "held", "heldx"]
theorem name_len : ∀ x ∈ nameL, x.length ≤ 100000 := by decide +kernel
def signsL : List Str := ["+", "-", "*", "=", "<", "<=", "and", "or", ">", "", "not", "==", "+ ", "AND"]
def sdThing : SpD := fun ds Q => ∃ w m : Int, ds = [.int w, .int m] ∧ 0 ≤ w ∧ w ≤ 9 ∧ 0 ≤ m ∧ ∀ th, (∀ c : Int, ∃ r, Way w th c r) → Q th
theorem m_sdThing : MonoS sdThing := fun ds P P' f ⟨w, m, e, h1, h2, h3, q⟩ => ⟨w, m, e, h1, h2, h3, fun th h => f _ (q th h)⟩
theorem way9 {n : Nat} (k1 : 1 ≤ n) (k2 : n ≤ 41) (c : Int) : ∃ r, Way 9 (.int (n : Int)) c r := by
  by_cases h : c % 2 = 0
  · exact ⟨_, .w9 k1 k2 h⟩
  · exact ⟨_, .w9' k1 k2 h⟩
section
seal wpAny
variable {P : Program} {w : World} {K : PySem.W.Frag} {mg : Str → Option Value} {base : Heap} {A : Adr} {n j : Nat} {ea : EA}
theorem cx_tried (d : Df K mg "_law_tried" s__law_tried ["_law_way", "_law_thing_here", "_law_cell"]) (ro : ROk K mg ea) (cx__law_made : CalX P w K mg base j "_law_made" ["_law_way", "_law_thing_here", "_law_cell"] (sxMade A ea)) (cu__law_kinds : CalU P w K mg base j "_law_kinds" ["_law_e"] (sdKinds ea)) :
    CalX P w K mg base (j + 1) "_law_tried" ["_law_way", "_law_thing_here", "_law_cell"] (sxTried ea) := by
  obtain ⟨cR, i_RowError, hk, be_RowError⟩ := ro.ex
  have hit_RowError : ∀ C, hitE ea C → PySem.W.kitCls K (.ref C) (.ref cR) = some true := fun C ⟨k, e⟩ => e ▸ hk k
  refine d.calXF sc__law_tried m_sxTried (fun ds Q R ⟨_, _, _, _, e, _⟩ => by rw [e]; rfl) (fun f cdv A outer s H E R hr hx => have hu := hr.units; have hh := hr.hd; have sc := sc__law_tried
    (ff_cons (ff_try (i := 3) rfl rfl rfl sc.nd rfl rfl (by rfl) i_RowError hit_RowError be_RowError (fun pins E' xk hx => (ss_one (s_expr (d_calX hx cx__law_made hr (by omega) (by rfl) (a_cons (dv 0) (a_cons (dv 1) (a_cons (dv 2) a_nil)))))))
  (fun ea => (ss_one (s_ret (d_calU rfl cu__law_kinds (hr.mark _) (by omega) (by rfl) (a_cons (dv 3) a_nil))))))
  (ff_all (ss_one (s_ret d_str))))) ?_
  rintro ds Q R ⟨w, th, c, r, rfl, hw, q⟩
  refine ⟨fun δ C gs => δ = [some (.int w), some th, some (.int c), none] ∧ gs = [] ∧ ∃ e, r = .error e ∧ C = ea.c e, ?_, ?_⟩
  · rintro δ' C gs ⟨rfl, rfl, e, rfl, rfl⟩
    exact ⟨⟨e, rfl⟩, fun a => ⟨_, rfl, ⟨_, _, List.mem_singleton.mpr rfl⟩, a, e, rfl, q⟩⟩
  · refine ⟨_, rfl, _, rfl, _, rfl, w, th, c, r, rfl, hw, ?_⟩
    cases r with
    | ok p => exact q
    | error e => exact out_err ⟨rfl, rfl, e, rfl, rfl⟩
theorem c_thing (d : Df K mg "_law_thing" s__law_thing ["_law_way", "_law_mix"]) (n_len : mg "len" = none) : Cal P w K mg base (j + 1) "_law_thing" ["_law_way", "_law_mix"] sdThing := by
  refine d.cal sc__law_thing m_sdThing (fun ds Q ⟨_, _, e, _⟩ => by rw [e]; rfl) (fun f cdv A outer s H E hr => have hu := hr.units; have hh := hr.hd; have sc := sc__law_thing
    (ss_cons (s_set (i := 2) sc.nd rfl (Or.inl rfl) (d_lst (a_ck (by rfl))))
  (ss_cons (s_if (t_in (dv 0) (d_tup (a_ck (by rfl))) (by rfl)) (ss_one (s_ret (d_ix (dv 2) (d_mod (dv 1) (d_len (by rfl) n_len (a_cons (dv 2) a_nil))) (fun _ _ => rfl)))) ss_nil)
  (ss_cons (s_if (t_eq hu (dv 0) d_int) (ss_one (s_ret (d_ix (d_lst (a_ck (by rfl))) (d_mod (dv 1) d_int) (fun _ _ => rfl)))) ss_nil)
  (ss_cons (s_if (t_eq hu (dv 0) d_int) (ss_one (s_ret (d_add d_int (d_mod (dv 1) d_int)))) ss_nil)
  (ss_cons (s_if (t_eq hu (dv 0) d_int) (ss_one (s_ret (d_add d_int (d_mod (dv 1) d_int)))) ss_nil)
  (ss_cons (s_if (t_eq hu (dv 0) d_int) (ss_one (s_ret (d_add d_int (d_mod (dv 1) d_int)))) ss_nil)
  (ss_cons (s_set (i := 3) sc.nd rfl (Or.inl rfl) (d_lst (a_cons d_int (a_cons d_int (a_cons (d_neg d_int) (a_cons d_int (a_cons d_bl (a_cons d_bl (a_cons d_int (a_cons (d_neg d_int) (a_cons d_non (a_cons d_str (a_cons (d_lst (a_ck (by rfl))) (a_cons (d_tup (a_ck (by rfl))) (a_cons (d_add (dv 1) d_int) (a_cons d_dict0 a_nil))))))))))))))))
  (ss_one (s_ret (d_ix (dv 3) (d_mod (dv 1) d_int) (fun _ _ => rfl)))))))))))) ?_
  rintro ds Q ⟨w, m, rfl, h0, h9, hm, q⟩
  refine ⟨(show 13 ≤ sizeLine by decide), ?_⟩
  rcases (show w = 0 ∨ w = 1 ∨ w = 2 ∨ w = 3 ∨ w = 4 ∨ w = 5 ∨ w = 6 ∨ w = 7 ∨ w = 8 ∨ w = 9 by omega) with rfl | rfl | rfl | rfl | rfl | rfl | rfl | rfl | rfl | rfl
  · obtain ⟨r, hr, er⟩ := atI_in (xs := someL m) (mod_lo m (show (0 : Int) < 14 by decide)) (mod_hi m (show (0 : Int) < 14 by decide))
    exact ⟨_, rfl, (show 3 ≤ sizeLine by decide), rfl, (by decide), false, congrArg D.bl (by decide), iteF ⟨_, rfl, false, congrArg D.bl (by decide), iteF ⟨_, rfl, false, congrArg D.bl (by decide), iteF ⟨_, rfl, false, congrArg D.bl (by decide), iteF ⟨_, rfl, false, congrArg D.bl (by decide), iteF ⟨128, rfl, 129, rfl, (show 1 ≤ sizeLine by decide), (show 1 ≤ sizeLine by decide), _, rfl, (show 14 ≤ sizeLine by decide), _, rfl, _, rfl, (show (0 : Int) < 14 by decide), r, er, q r fun c => ⟨_, .w0 (some_kind hr)⟩⟩⟩⟩⟩⟩⟩
  · obtain ⟨r, hr, er⟩ := atI_in (xs := nameL.map D.str) (mod_lo m (show (0 : Int) < 13 by decide)) (mod_hi m (show (0 : Int) < 13 by decide))
    obtain ⟨x, hx, rfl⟩ := List.mem_map.mp hr
    exact ⟨_, rfl, (show 3 ≤ sizeLine by decide), rfl, (by decide), true, congrArg D.bl (by decide), iteT ⟨_, rfl, _, rfl, _, rfl, _, _, rfl, rfl, (show (0 : Int) < 13 by decide), _, er, q _ fun c => ⟨_, .w1 (name_len x hx)⟩⟩⟩
  · obtain ⟨r, hr, er⟩ := atI_in (xs := nameL.map D.str) (mod_lo m (show (0 : Int) < 13 by decide)) (mod_hi m (show (0 : Int) < 13 by decide))
    obtain ⟨x, hx, rfl⟩ := List.mem_map.mp hr
    exact ⟨_, rfl, (show 3 ≤ sizeLine by decide), rfl, (by decide), true, congrArg D.bl (by decide), iteT ⟨_, rfl, _, rfl, _, rfl, _, _, rfl, rfl, (show (0 : Int) < 13 by decide), _, er, q _ fun c => ⟨_, .w2 (name_len x hx)⟩⟩⟩
  · obtain ⟨r, hr, er⟩ := atI_in (xs := nameL.map D.str) (mod_lo m (show (0 : Int) < 13 by decide)) (mod_hi m (show (0 : Int) < 13 by decide))
    obtain ⟨x, hx, rfl⟩ := List.mem_map.mp hr
    exact ⟨_, rfl, (show 3 ≤ sizeLine by decide), rfl, (by decide), true, congrArg D.bl (by decide), iteT ⟨_, rfl, _, rfl, _, rfl, _, _, rfl, rfl, (show (0 : Int) < 13 by decide), _, er, q _ fun c => ⟨_, .w3 (name_len x hx)⟩⟩⟩
  · obtain ⟨r, hr, er⟩ := atI_in (xs := signsL.map D.str) (mod_lo m (show (0 : Int) < 14 by decide)) (mod_hi m (show (0 : Int) < 14 by decide))
    obtain ⟨x, hx, rfl⟩ := List.mem_map.mp hr
    exact ⟨_, rfl, (show 3 ≤ sizeLine by decide), rfl, (by decide), false, congrArg D.bl (by decide), iteF ⟨_, rfl, true, congrArg D.bl (by decide), iteT ⟨(show 14 ≤ sizeLine by decide), _, rfl, (show (0 : Int) < 14 by decide), _, er, q _ fun c => ⟨_, .w4⟩⟩⟩⟩
  · obtain ⟨r, hr, er⟩ := atI_in (xs := someL m) (mod_lo m (show (0 : Int) < 14 by decide)) (mod_hi m (show (0 : Int) < 14 by decide))
    exact ⟨_, rfl, (show 3 ≤ sizeLine by decide), rfl, (by decide), false, congrArg D.bl (by decide), iteF ⟨_, rfl, false, congrArg D.bl (by decide), iteF ⟨_, rfl, false, congrArg D.bl (by decide), iteF ⟨_, rfl, false, congrArg D.bl (by decide), iteF ⟨_, rfl, false, congrArg D.bl (by decide), iteF ⟨128, rfl, 129, rfl, (show 1 ≤ sizeLine by decide), (show 1 ≤ sizeLine by decide), _, rfl, (show 14 ≤ sizeLine by decide), _, rfl, _, rfl, (show (0 : Int) < 14 by decide), r, er, q r fun c => ⟨_, .w5 (some_kind hr)⟩⟩⟩⟩⟩⟩⟩
  · obtain ⟨r, hr, er⟩ := atI_in (xs := someL m) (mod_lo m (show (0 : Int) < 14 by decide)) (mod_hi m (show (0 : Int) < 14 by decide))
    exact ⟨_, rfl, (show 3 ≤ sizeLine by decide), rfl, (by decide), false, congrArg D.bl (by decide), iteF ⟨_, rfl, false, congrArg D.bl (by decide), iteF ⟨_, rfl, false, congrArg D.bl (by decide), iteF ⟨_, rfl, false, congrArg D.bl (by decide), iteF ⟨_, rfl, false, congrArg D.bl (by decide), iteF ⟨128, rfl, 129, rfl, (show 1 ≤ sizeLine by decide), (show 1 ≤ sizeLine by decide), _, rfl, (show 14 ≤ sizeLine by decide), _, rfl, _, rfl, (show (0 : Int) < 14 by decide), r, er, q r fun c => ⟨_, .w6 (some_kind hr)⟩⟩⟩⟩⟩⟩⟩
  · have h1 := mod_lo m (show (0 : Int) < 11 by decide)
    have h2 := mod_hi m (show (0 : Int) < 11 by decide)
    have e : (1 : Int) + m % 11 = ((((1 : Int) + m % 11).toNat : Nat) : Int) := by omega
    have z := q (.int ((((1 : Int) + m % 11).toNat : Nat) : Int)) fun c => ⟨_, .w7 (by omega) (by omega)⟩
    rw [← e] at z
    exact ⟨_, rfl, (show 3 ≤ sizeLine by decide), rfl, (by decide), false, congrArg D.bl (by decide), iteF ⟨_, rfl, false, congrArg D.bl (by decide), iteF ⟨_, rfl, true, congrArg D.bl (by decide), iteT ⟨_, rfl, (show (0 : Int) < 11 by decide), z⟩⟩⟩⟩
  · have h1 := mod_lo m (show (0 : Int) < 41 by decide)
    have h2 := mod_hi m (show (0 : Int) < 41 by decide)
    have e : (1 : Int) + m % 41 = ((((1 : Int) + m % 41).toNat : Nat) : Int) := by omega
    have z := q (.int ((((1 : Int) + m % 41).toNat : Nat) : Int)) fun c => ⟨_, .w8 (by omega) (by omega)⟩
    rw [← e] at z
    exact ⟨_, rfl, (show 3 ≤ sizeLine by decide), rfl, (by decide), false, congrArg D.bl (by decide), iteF ⟨_, rfl, false, congrArg D.bl (by decide), iteF ⟨_, rfl, false, congrArg D.bl (by decide), iteF ⟨_, rfl, true, congrArg D.bl (by decide), iteT ⟨_, rfl, (show (0 : Int) < 41 by decide), z⟩⟩⟩⟩⟩
  · have h1 := mod_lo m (show (0 : Int) < 10 by decide)
    have h2 := mod_hi m (show (0 : Int) < 10 by decide)
    have e : (12 : Int) + m % 10 = ((((12 : Int) + m % 10).toNat : Nat) : Int) := by omega
    have z := q (.int ((((12 : Int) + m % 10).toNat : Nat) : Int)) fun c => way9 (by omega) (by omega) c
    rw [← e] at z
    exact ⟨_, rfl, (show 3 ≤ sizeLine by decide), rfl, (by decide), false, congrArg D.bl (by decide), iteF ⟨_, rfl, false, congrArg D.bl (by decide), iteF ⟨_, rfl, false, congrArg D.bl (by decide), iteF ⟨_, rfl, false, congrArg D.bl (by decide), iteF ⟨_, rfl, true, congrArg D.bl (by decide), iteT ⟨_, rfl, (show (0 : Int) < 10 by decide), z⟩⟩⟩⟩⟩⟩
end
end K04

-- gen set Xf need_name need_first part_of plain_by timed_by _law_chain _law_wide _law_made _law_two_right _law_deep_right _law_tried
-- gen set Xc Given Named Turned Pair Choice Before Led When Held
-- gen set Xm need_bounds
-- gen set U _law_kinds
set_option maxHeartbeats 4000000
namespace K04
open PySem PySem.Spec PyProof.Rows L2 DC
def sdDue : SpD := fun ds Q => ∃ (w : Int) (th : D) (c : Int) (r : Except Er Pt), ds = [.int w, th, .int c] ∧ Way w th c r ∧ Q (.str (strR r))
theorem m_sdDue : MonoS sdDue := fun ds P P' f ⟨w, th, c, r, e, k, h⟩ => ⟨w, th, c, r, e, k, f _ h⟩
def dueS (b : Bool) : Str := if b = true then "" else "part"
def dueN (b : Bool) : Str := if b = true then "" else "name"
theorem st_part {b : Bool} {p : Pt} : strR (if b = true then .ok p else .error .part) = dueS b := by cases b <;> rfl
theorem st_name {b : Bool} {p : Pt} : strR (if b = true then .ok p else .error .name) = dueN b := by cases b <;> rfl
theorem fin_due {b : Bool} {Q : D → Prop} (q : Q (.str (dueS b))) : ∃ r, L2.atI [D.str "part", D.str ""] (if b = true then 1 else 0) = some r ∧ Q r := by cases b <;> exact ⟨_, rfl, q⟩
theorem fin_name {b : Bool} {Q : D → Prop} (q : Q (.str (dueN b))) : ∃ r, L2.atI [D.str "name", D.str ""] (if b = true then 1 else 0) = some r ∧ Q r := by cases b <;> exact ⟨_, rfl, q⟩
theorem bnd2 {c : Int} {x : Str} : bnd (.whn (p5 c) x) = .ok (.whn (p5 c) x) := rfl
theorem bnd3 {c : Int} {x : Str} {d : D} : bnd (.held (p5 c) x d) = .ok (.held (p5 c) x d) := rfl
theorem bnd4 {c : Int} {g : Str} {d : D} : bnd (.pair g (p5 c) (.given d)) = .ok (.pair g (p5 c) (.given d)) := rfl
theorem bnd5 {c : Int} {d : D} : bnd (.before (p5 c) d) = .ok (.before (p5 c) d) := rfl
theorem due7 : ∀ n < 12, 1 ≤ n → strR (chainP n) = dueS (decide ((n : Int) < 11)) := by decide +kernel
theorem due8 : ∀ n < 42, 1 ≤ n → strR (wide n) = dueS (decide ((n : Int) < 41)) := by decide +kernel
theorem due9 : ∀ n < 42, 1 ≤ n → strR (seqM (wide 13) fun p => seqM (wide 13) fun q => seqM (wide n) fun r => bnd (.choice p q r)) = dueS (decide ((n : Int) + 27 < 41)) := by decide +kernel
theorem due9' : ∀ n < 42, 1 ≤ n → strR (seqM (wide 20) fun p => seqM (wide n) fun q => bnd (.led p q)) = dueS (decide ((n : Int) + 21 < 41)) := by decide +kernel
theorem sign_in (g : Str) : inD (.str g) [.str "+", .str "-", .str "*", .str "=", .str "<", .str "<=", .str "and", .str "or"] = signB g := by
  simp [inD, signB, signsT]
  rfl
theorem or_non {th : D} {a c : Int} {Q : D → Prop} (q : Q (.bl (firstB th))) : vOr (vVar 3) (vIs (vVar 1) (vC D.non)) [some (.int a), some th, some (.int c), some (.bl (valD th))] Q := by
  refine ⟨_, rfl, _, rfl, ?_⟩
  cases hv : valD th with
  | true => rw [firstB, hv, Bool.or_true] at q; exact iteT q
  | false =>
    rw [firstB, hv, Bool.or_false] at q
    refine iteF ⟨_, rfl, ?_⟩
    cases th <;> exact q
section
seal wpAny
variable {P : Program} {w : World} {K : PySem.W.Frag} {mg : Str → Option Value} {base : Heap} {A : Adr} {n j : Nat} {ea : EA}
theorem c_due (d : Df K mg "_law_due" s__law_due ["_law_way", "_law_thing_here", "_law_cell"]) (n_int : mg "int" = none) (c_is_name : Cal P w K mg base j "is_name" ["thing"] (sdS fun x => .bl (nameB x))) (c__law_value : Cal P w K mg base j "_law_value" ["_law_thing_here"] (sdA fun d => .bl (valD d))) :
    Cal P w K mg base (j + 1) "_law_due" ["_law_way", "_law_thing_here", "_law_cell"] sdDue := by
  refine d.cal sc__law_due m_sdDue (fun ds Q ⟨_, _, _, _, e, _⟩ => by rw [e]; rfl) (fun f cdv A outer s H E hr => have hu := hr.units; have hh := hr.hd; have sc := sc__law_due
    (ss_cons (s_if (t_in (dv 0) (d_tup (a_ck (by rfl))) (by rfl)) (ss_one (s_ret (d_ix (d_lst (a_ck (by rfl))) (d_int_of (by rfl) n_int (a_cons (d_cal c_is_name hr (by omega) (by rfl) (a_cons (dv 1) a_nil)) a_nil)) (fun _ _ => rfl)))) ss_nil)
  (ss_cons (s_set (i := 3) sc.nd rfl (Or.inl rfl) (d_cal c__law_value hr (by omega) (by rfl) (a_cons (dv 1) a_nil)))
  (ss_cons (s_if (t_eq hu (dv 0) d_int) (ss_one (s_set (i := 3) sc.nd rfl (Or.inl rfl) (d_in (dv 1) (d_tup (a_ck (by rfl))) (by rfl)))) ss_nil)
  (ss_cons (s_if (PWd.td (w_or (t_eq hu (dv 0) d_int) (w_or1 (t_eq hu (dv 0) d_int)))) (ss_one (s_set (i := 3) sc.nd rfl (Or.inl rfl) (d_or (dv 3) (d_one (d_is (dv 1) d_non))))) ss_nil)
  (ss_cons (s_if (t_eq hu (dv 0) d_int) (ss_one (s_set (i := 3) sc.nd rfl (Or.inl rfl) (d_lt (dv 1) d_int))) ss_nil)
  (ss_cons (s_if (t_eq hu (dv 0) d_int) (ss_one (s_set (i := 3) sc.nd rfl (Or.inl rfl) (d_lt (dv 1) d_int))) ss_nil)
  (ss_cons (s_if (t_eq hu (dv 0) d_int) (ss_one (s_set (i := 3) sc.nd rfl (Or.inl rfl) (d_lt (d_add (dv 1) (d_ix (d_lst (a_ck (by rfl))) (d_mod (dv 2) d_int) (fun _ _ => rfl))) d_int))) ss_nil)
  (ss_one (s_ret (d_ix (d_lst (a_ck (by rfl))) (d_int_of (by rfl) n_int (a_cons (dv 3) a_nil)) (fun _ _ => rfl)))))))))))) ?_
  rintro ds Q ⟨w, th, c, r, rfl, hw, q⟩
  cases hw with
  | w0 k =>
    rw [st_part] at q
    refine ⟨_, rfl, (show 3 ≤ sizeLine by decide), rfl, (by decide), false, congrArg D.bl (by decide), iteF ?_⟩
    refine ⟨_, rfl, th, rfl, k, ?_⟩
    refine ⟨_, rfl, false, congrArg D.bl (by decide), iteF ?_⟩
    refine ⟨_, rfl, false, congrArg D.bl (by decide), iteF ⟨_, rfl, false, congrArg D.bl (by decide), iteF ?_⟩⟩
    refine ⟨_, rfl, false, congrArg D.bl (by decide), iteF ?_⟩
    refine ⟨_, rfl, false, congrArg D.bl (by decide), iteF ?_⟩
    refine ⟨_, rfl, false, congrArg D.bl (by decide), iteF ?_⟩
    exact ⟨(show 2 ≤ sizeLine by decide), _, rfl, .inr ⟨_, rfl, fin_due q⟩⟩
  | w1 k =>
    rename_i x
    rw [st_name] at q
    refine ⟨_, rfl, (show 3 ≤ sizeLine by decide), rfl, (by decide), true, congrArg D.bl (by decide), iteT ?_⟩
    exact ⟨(show 2 ≤ sizeLine by decide), _, rfl, x, rfl, k, .inr ⟨nameB x, rfl, fin_name q⟩⟩
  | w2 k =>
    rename_i x
    rw [bnd2, st_name] at q
    refine ⟨_, rfl, (show 3 ≤ sizeLine by decide), rfl, (by decide), true, congrArg D.bl (by decide), iteT ?_⟩
    exact ⟨(show 2 ≤ sizeLine by decide), _, rfl, x, rfl, k, .inr ⟨nameB x, rfl, fin_name q⟩⟩
  | w3 k =>
    rename_i x
    rw [bnd3, st_name] at q
    refine ⟨_, rfl, (show 3 ≤ sizeLine by decide), rfl, (by decide), true, congrArg D.bl (by decide), iteT ?_⟩
    exact ⟨(show 2 ≤ sizeLine by decide), _, rfl, x, rfl, k, .inr ⟨nameB x, rfl, fin_name q⟩⟩
  | w4 =>
    rename_i g
    rw [bnd4, st_part, ← sign_in] at q
    refine ⟨_, rfl, (show 3 ≤ sizeLine by decide), rfl, (by decide), false, congrArg D.bl (by decide), iteF ?_⟩
    refine ⟨_, rfl, .str g, rfl, rfl, ?_⟩
    refine ⟨_, rfl, true, congrArg D.bl (by decide), iteT ⟨_, rfl, (show 8 ≤ sizeLine by decide), rfl, (by decide), ?_⟩⟩
    refine ⟨_, rfl, false, congrArg D.bl (by decide), iteF ⟨_, rfl, false, congrArg D.bl (by decide), iteF ?_⟩⟩
    refine ⟨_, rfl, false, congrArg D.bl (by decide), iteF ?_⟩
    refine ⟨_, rfl, false, congrArg D.bl (by decide), iteF ?_⟩
    refine ⟨_, rfl, false, congrArg D.bl (by decide), iteF ?_⟩
    exact ⟨(show 2 ≤ sizeLine by decide), _, rfl, .inr ⟨_, rfl, fin_due q⟩⟩
  | w5 k =>
    rw [bnd5, st_part] at q
    refine ⟨_, rfl, (show 3 ≤ sizeLine by decide), rfl, (by decide), false, congrArg D.bl (by decide), iteF ?_⟩
    refine ⟨_, rfl, th, rfl, k, ?_⟩
    refine ⟨_, rfl, false, congrArg D.bl (by decide), iteF ?_⟩
    refine ⟨_, rfl, true, congrArg D.bl (by decide), iteT (iteT ?_)⟩
    refine or_non ?_
    refine ⟨_, rfl, false, congrArg D.bl (by decide), iteF ?_⟩
    refine ⟨_, rfl, false, congrArg D.bl (by decide), iteF ?_⟩
    refine ⟨_, rfl, false, congrArg D.bl (by decide), iteF ?_⟩
    exact ⟨(show 2 ≤ sizeLine by decide), _, rfl, .inr ⟨_, rfl, fin_due q⟩⟩
  | w6 k =>
    rw [bnd3, st_part] at q
    refine ⟨_, rfl, (show 3 ≤ sizeLine by decide), rfl, (by decide), false, congrArg D.bl (by decide), iteF ?_⟩
    refine ⟨_, rfl, th, rfl, k, ?_⟩
    refine ⟨_, rfl, false, congrArg D.bl (by decide), iteF ?_⟩
    refine ⟨_, rfl, false, congrArg D.bl (by decide), iteF ⟨_, rfl, true, congrArg D.bl (by decide), iteT ?_⟩⟩
    refine or_non ?_
    refine ⟨_, rfl, false, congrArg D.bl (by decide), iteF ?_⟩
    refine ⟨_, rfl, false, congrArg D.bl (by decide), iteF ?_⟩
    refine ⟨_, rfl, false, congrArg D.bl (by decide), iteF ?_⟩
    exact ⟨(show 2 ≤ sizeLine by decide), _, rfl, .inr ⟨_, rfl, fin_due q⟩⟩
  | w7 k1 k2 =>
    rename_i m
    rw [due7 m (by omega) k1] at q
    refine ⟨_, rfl, (show 3 ≤ sizeLine by decide), rfl, (by decide), false, congrArg D.bl (by decide), iteF ?_⟩
    refine ⟨_, rfl, .int (m : Int), rfl, rfl, ?_⟩
    refine ⟨_, rfl, false, congrArg D.bl (by decide), iteF ?_⟩
    refine ⟨_, rfl, false, congrArg D.bl (by decide), iteF ⟨_, rfl, false, congrArg D.bl (by decide), iteF ?_⟩⟩
    refine ⟨_, rfl, true, congrArg D.bl (by decide), iteT ⟨_, rfl, ?_⟩⟩
    refine ⟨_, rfl, false, congrArg D.bl (by decide), iteF ?_⟩
    refine ⟨_, rfl, false, congrArg D.bl (by decide), iteF ?_⟩
    exact ⟨(show 2 ≤ sizeLine by decide), _, rfl, .inr ⟨_, rfl, fin_due q⟩⟩
  | w8 k1 k2 =>
    rename_i m
    rw [due8 m (by omega) k1] at q
    refine ⟨_, rfl, (show 3 ≤ sizeLine by decide), rfl, (by decide), false, congrArg D.bl (by decide), iteF ?_⟩
    refine ⟨_, rfl, .int (m : Int), rfl, rfl, ?_⟩
    refine ⟨_, rfl, false, congrArg D.bl (by decide), iteF ?_⟩
    refine ⟨_, rfl, false, congrArg D.bl (by decide), iteF ⟨_, rfl, false, congrArg D.bl (by decide), iteF ?_⟩⟩
    refine ⟨_, rfl, false, congrArg D.bl (by decide), iteF ?_⟩
    refine ⟨_, rfl, true, congrArg D.bl (by decide), iteT ⟨_, rfl, ?_⟩⟩
    refine ⟨_, rfl, false, congrArg D.bl (by decide), iteF ?_⟩
    exact ⟨(show 2 ≤ sizeLine by decide), _, rfl, .inr ⟨_, rfl, fin_due q⟩⟩
  | w9 k1 k2 h =>
    rename_i m
    rw [due9 m (by omega) k1] at q
    refine ⟨_, rfl, (show 3 ≤ sizeLine by decide), rfl, (by decide), false, congrArg D.bl (by decide), iteF ?_⟩
    refine ⟨_, rfl, .int (m : Int), rfl, rfl, ?_⟩
    refine ⟨_, rfl, false, congrArg D.bl (by decide), iteF ?_⟩
    refine ⟨_, rfl, false, congrArg D.bl (by decide), iteF ⟨_, rfl, false, congrArg D.bl (by decide), iteF ?_⟩⟩
    refine ⟨_, rfl, false, congrArg D.bl (by decide), iteF ?_⟩
    refine ⟨_, rfl, false, congrArg D.bl (by decide), iteF ?_⟩
    refine ⟨_, rfl, true, congrArg D.bl (by decide), iteT ⟨_, rfl, (show 2 ≤ sizeLine by decide), _, rfl, (show (0 : Int) < 2 by decide), .int 27, (by rw [h]; rfl), ?_⟩⟩
    exact ⟨(show 2 ≤ sizeLine by decide), _, rfl, .inr ⟨_, rfl, fin_due q⟩⟩
  | w9' k1 k2 h =>
    rename_i m
    rw [due9' m (by omega) k1] at q
    refine ⟨_, rfl, (show 3 ≤ sizeLine by decide), rfl, (by decide), false, congrArg D.bl (by decide), iteF ?_⟩
    refine ⟨_, rfl, .int (m : Int), rfl, rfl, ?_⟩
    refine ⟨_, rfl, false, congrArg D.bl (by decide), iteF ?_⟩
    refine ⟨_, rfl, false, congrArg D.bl (by decide), iteF ⟨_, rfl, false, congrArg D.bl (by decide), iteF ?_⟩⟩
    refine ⟨_, rfl, false, congrArg D.bl (by decide), iteF ?_⟩
    refine ⟨_, rfl, false, congrArg D.bl (by decide), iteF ?_⟩
    refine ⟨_, rfl, true, congrArg D.bl (by decide), iteT ⟨_, rfl, (show 2 ≤ sizeLine by decide), _, rfl, (show (0 : Int) < 2 by decide), .int 21, (by rw [show c % 2 = 1 by omega]; rfl), ?_⟩⟩
    exact ⟨(show 2 ≤ sizeLine by decide), _, rfl, .inr ⟨_, rfl, fin_due q⟩⟩
end
end K04

-- gen set Xf need_name need_first part_of plain_by timed_by _law_chain _law_wide _law_made _law_two_right _law_deep_right _law_tried
-- gen set Xc Given Named Turned Pair Choice Before Led When Held
-- gen set Xm need_bounds
-- gen set U _law_kinds
-- gen set orS _law_first
set_option maxHeartbeats 4000000
namespace K04
open PySem PySem.Spec PyProof.Rows L2 DC
def leafT : Nat → Tl
  | 0 => .given (.int 5)
  | 1 => .given (.int 128)
  | 2 => .named "on"
  | _ => .named "a"
def leafS : Nat → Str
  | 0 => ""
  | 1 => "part"
  | 2 => "name"
  | _ => ""
def sdLeaf : SpD := fun ds Q => ∃ (c : Int) (k : Nat), ds = [.int c] ∧ k < 4 ∧ c % 4 = (k : Int) ∧ Q (.tup [(leafT k).d, .str (leafS k)])
theorem m_sdLeaf : MonoS sdLeaf := fun ds P P' f ⟨c, k, e, h1, h2, h⟩ => ⟨c, k, e, h1, h2, f _ h⟩
def nmB : Nat → Str
  | 0 => "a"
  | _ => "on"
def vlB : Nat → D
  | 0 => .non
  | 1 => .int 7
  | _ => .int 200
def ownB : Nat → Str
  | 2 => "part"
  | _ => ""
def whB : Nat → Str
  | 1 => "name"
  | _ => ""
def orS (x y : Str) : Str := if ((x.length : Int) != 0) = true then x else y
theorem or_or {x : Str} {A B : Prop} (h : ((x.length : Int) != 0) = true → A) (g : ((x.length : Int) != 0) = false → B) : if ((x.length : Int) != 0) = true then A else B := by
  cases e : ((x.length : Int) != 0) with
  | true => exact iteT (h e)
  | false => exact iteF (g e)
theorem leaf_ok (k : Nat) : (leafT k).ok := by
  unfold leafT
  split <;> simp only [Tl.ok] <;> decide +kernel
theorem leaf_depth (k : Nat) : (leafT k).depth = 1 := by
  unfold leafT
  split <;> rfl
theorem leaf_len (k : Nat) : (leafS k).length ≤ sizeLine := by
  unfold leafS
  split <;> decide +kernel
theorem own_len (k : Nat) : (ownB k).length ≤ sizeLine := by
  unfold ownB
  split <;> decide +kernel
theorem wh_len (k : Nat) : (whB k).length ≤ sizeLine := by
  unfold whB
  split <;> decide +kernel
theorem nm_len (k : Nat) : (nmB k).length ≤ 100000 := by
  unfold nmB
  split <;> decide +kernel
theorem vl_kind (k : Nat) : (kindD (vlB k)).isSome = true := by
  unfold vlB
  split <;> rfl
def heldS (b v : Nat) : Str := if b = 1 then "name" else ownB v
theorem tab1 : ∀ k < 4, ∀ l < 4, strR (Tl.pair "+" (leafT k) (leafT l)).made = orS (leafS k) (leafS l) := by decide +kernel
theorem tab2 : ∀ k < 4, ∀ b < 2, ∀ v < 3, strR (Tl.held (leafT k) (nmB b) (vlB v)).made = orS (leafS k) (heldS b v) := by decide +kernel
theorem tab3 : ∀ k < 4, ∀ v < 3, strR (Tl.before (leafT k) (vlB v)).made = orS (leafS k) (ownB v) := by decide +kernel
theorem tab4 : ∀ k < 4, ∀ l < 4, ∀ b < 2, strR (Tl.choice (.whn (leafT k) (nmB b)) (leafT l) (.given (.int 1))).made = orS (leafS k) (orS (whB b) (leafS l)) := by decide +kernel
def sdTwo : SpD := fun ds Q => ∃ c : Int, ds = [.int c] ∧ ∀ T : Tl, T.ok → T.depth ≤ 3 → Q (.tup [T.d, .str (strR T.made)])
theorem m_sdTwo : MonoS sdTwo := fun ds P P' f ⟨c, e, h⟩ => ⟨c, e, fun T h1 h2 => f _ (h T h1 h2)⟩
theorem mod_nat (a : Int) {b : Nat} (h : 0 < b) : ∃ k : Nat, k < b ∧ a % (b : Int) = (k : Int) := ⟨(a % (b : Int)).toNat, by have := Int.emod_lt_of_pos a (show (0 : Int) < (b : Int) by omega); have := Int.emod_nonneg a (show (b : Int) ≠ 0 by omega); omega, by have := Int.emod_nonneg a (show (b : Int) ≠ 0 by omega); omega⟩
theorem at_leaf {k : Nat} (h : k < 4) : L2.atI [D.tup [(leafT 0).d, .str (leafS 0)], D.tup [(leafT 1).d, .str (leafS 1)], D.tup [(leafT 2).d, .str (leafS 2)], D.tup [(leafT 3).d, .str (leafS 3)]] (k : Int) = some (.tup [(leafT k).d, .str (leafS k)]) := by
  match k, h with
  | 0, _ => rfl
  | 1, _ => rfl
  | 2, _ => rfl
  | 3, _ => rfl
theorem at_nm {k : Nat} (h : k < 2) : L2.atI [D.str "a", D.str "on"] (k : Int) = some (.str (nmB k)) := by
  match k, h with
  | 0, _ => rfl
  | 1, _ => rfl
theorem at_vl {k : Nat} (h : k < 3) : L2.atI [D.non, D.int 7, D.int 200] (k : Int) = some (vlB k) := by
  match k, h with
  | 0, _ => rfl
  | 1, _ => rfl
  | 2, _ => rfl
theorem at_own {k : Nat} (h : k < 3) : L2.atI [D.str "", D.str "", D.str "part"] (k : Int) = some (.str (ownB k)) := by
  match k, h with
  | 0, _ => rfl
  | 1, _ => rfl
  | 2, _ => rfl
theorem at_wh {k : Nat} (h : k < 2) : L2.atI [D.str "", D.str "name"] (k : Int) = some (.str (whB k)) := by
  match k, h with
  | 0, _ => rfl
  | 1, _ => rfl
section
seal wpAny
variable {P : Program} {w : World} {K : PySem.W.Frag} {mg : Str → Option Value} {base : Heap} {A : Adr} {n j : Nat} {ea : EA}
theorem c_leaf (d : Df K mg "_law_leaf" s__law_leaf ["_law_cell"]) :
    Cal P w K mg base (j + 1) "_law_leaf" ["_law_cell"] sdLeaf := by
  refine d.cal sc__law_leaf m_sdLeaf (fun ds Q ⟨_, _, e, _⟩ => by rw [e]; rfl) (fun f cdv A outer s H E hr => have hu := hr.units; have hh := hr.hd; have sc := sc__law_leaf
    (ss_cons (s_set (i := 1) sc.nd rfl (Or.inl rfl) (d_lst (a_cons (d_tup (a_cons (d_tup (a_ck (by rfl))) (a_cons d_str a_nil))) (a_cons (d_tup (a_cons (d_tup (a_ck (by rfl))) (a_cons d_str a_nil))) (a_cons (d_tup (a_cons (d_tup (a_ck (by rfl))) (a_cons d_str a_nil))) (a_cons (d_tup (a_cons (d_tup (a_ck (by rfl))) (a_cons d_str a_nil))) a_nil))))))
  (ss_one (s_ret (d_ix (dv 1) (d_mod (dv 0) d_int) (fun _ _ => rfl)))))) ?_
  rintro ds Q ⟨c, k, rfl, hk, hc, q⟩
  have h2 : 2 ≤ sizeLine := by decide
  exact ⟨h2, h2, h2, h2, h2, h2, h2, h2, (show 4 ≤ sizeLine by decide), _, rfl, _, rfl, (show (0 : Int) < 4 by decide), _, (by rw [hc]; exact at_leaf hk), q⟩
theorem c_two (d : Df K mg "_law_two" s__law_two ["_law_cell"]) (c__law_leaf : Cal P w K mg base j "_law_leaf" ["_law_cell"] sdLeaf) :
    Cal P w K mg base (j + 1) "_law_two" ["_law_cell"] sdTwo := by
  refine d.cal sc__law_two m_sdTwo (fun ds Q ⟨_, e, _⟩ => by rw [e]; rfl) (fun f cdv A outer s H E hr => have hu := hr.units; have hh := hr.hd; have sc := sc__law_two
    (ss_cons (s_setT (d_cal c__law_leaf hr (by omega) (by rfl) (a_cons (d_div (dv 0) d_int) a_nil)) (g_tup (n := 2) rfl (gs_cons (g_name (i := 3) sc.nd rfl (Or.inl rfl)) (gs_cons (g_name (i := 4) sc.nd rfl (Or.inl rfl)) gs_nil))))
  (ss_cons (s_setT (d_cal c__law_leaf hr (by omega) (by rfl) (a_cons (d_div (dv 0) d_int) a_nil)) (g_tup (n := 2) rfl (gs_cons (g_name (i := 5) sc.nd rfl (Or.inl rfl)) (gs_cons (g_name (i := 6) sc.nd rfl (Or.inl rfl)) gs_nil))))
  (ss_cons (s_set (i := 1) sc.nd rfl (Or.inl rfl) (d_ix (d_lst (a_ck (by rfl))) (d_mod (d_div (dv 0) d_int) d_int) (fun _ _ => rfl)))
  (ss_cons (s_set (i := 2) sc.nd rfl (Or.inl rfl) (d_ix (d_lst (a_ck (by rfl))) (d_mod (d_div (dv 0) d_int) d_int) (fun _ _ => rfl)))
  (ss_cons (s_if (t_lt (d_mod (dv 0) d_int) d_int) (ss_one (s_ret (d_tup (a_cons (d_tup (a_cons d_str (a_cons (dv 3) (a_cons (dv 5) a_nil)))) (a_cons (d_orS (dv 4) (d_one (dv 6))) a_nil))))) ss_nil)
  (ss_cons (s_if (t_lt (d_mod (dv 0) d_int) d_int) (ss_cons (s_set (i := 7) sc.nd rfl (Or.inl rfl) (d_if (t_eq hu (dv 1) d_str) d_str (d_ix (d_lst (a_ck (by rfl))) (d_mod (d_div (dv 0) d_int) d_int) (fun _ _ => rfl))))
  (ss_one (s_ret (d_tup (a_cons (d_tup (a_cons d_str (a_cons (dv 3) (a_cons (dv 1) (a_cons (dv 2) a_nil))))) (a_cons (d_orS (dv 4) (d_one (dv 7))) a_nil)))))) ss_nil)
  (ss_cons (s_if (t_lt (d_mod (dv 0) d_int) d_int) (ss_one (s_ret (d_tup (a_cons (d_tup (a_cons d_str (a_cons (dv 3) (a_cons (dv 2) a_nil)))) (a_cons (d_orS (dv 4) (d_one (d_ix (d_lst (a_ck (by rfl))) (d_mod (d_div (dv 0) d_int) d_int) (fun _ _ => rfl)))) a_nil))))) ss_nil)
  (ss_one (s_ret (d_tup (a_cons (d_tup (a_cons d_str (a_cons (d_tup (a_cons d_str (a_cons (dv 3) (a_cons (dv 1) a_nil)))) (a_cons (dv 5) (a_cons (d_tup (a_ck (by rfl))) a_nil))))) (a_cons (d_orS (dv 4) (d_orS (d_ix (d_lst (a_ck (by rfl))) (d_mod (d_div (dv 0) d_int) d_int) (fun _ _ => rfl)) (d_one (dv 6)))) a_nil))))))))))))) ?_
  rintro ds Q ⟨c, rfl, q⟩
  have h2 : 2 ≤ sizeLine := by decide
  have h3 : 3 ≤ sizeLine := by decide
  have h4 : 4 ≤ sizeLine := by decide
  obtain ⟨k, hk, ek⟩ := mod_nat (c / 8) (show 0 < 4 by decide)
  obtain ⟨l, hl, el⟩ := mod_nat (c / 32) (show 0 < 4 by decide)
  obtain ⟨b, hb, eb⟩ := mod_nat (c / 128) (show 0 < 2 by decide)
  obtain ⟨v, hv, ev⟩ := mod_nat (c / 256) (show 0 < 3 by decide)
  refine ⟨_, rfl, cd (by decide) (by decide), _, k, rfl, hk, ek, _, rfl, rfl, _, _, rfl, _, _, rfl, rfl, ?_⟩
  refine ⟨_, rfl, cd (by decide) (by decide), _, l, rfl, hl, el, _, rfl, rfl, _, _, rfl, _, _, rfl, rfl, ?_⟩
  refine ⟨h2, _, rfl, cd (by decide) (by decide), (show (0 : Int) < 2 by decide), _, (by rw [show c / 128 % 2 = (b : Int) from eb]; exact at_nm hb), ?_⟩
  refine ⟨h3, _, rfl, cd (by decide) (by decide), (show (0 : Int) < 3 by decide), _, (by rw [show c / 256 % 3 = (v : Int) from ev]; exact at_vl hv), ?_⟩
  refine ⟨_, rfl, (show (0 : Int) < 8 by decide), _, rfl, ?_⟩
  cases e1 : decide (c % 8 < 2) with
  | true =>
    refine iteT ?_
    have z := q (.pair "+" (leafT k) (leafT l)) (by refine ⟨by decide +kernel, leaf_ok k, leaf_ok l⟩) (by simp only [Tl.depth, leaf_depth]; decide)
    rw [tab1 k hk l hl] at z
    exact ⟨_, rfl, _, rfl, h3, _, rfl, leafS k, rfl, leaf_len k, or_or (fun e => ⟨h2, by rw [orS, if_pos e] at z; exact z⟩) fun e => ⟨_, rfl, h2, by rw [orS, if_neg (by rw [e]; exact Bool.false_ne_true)] at z; exact z⟩⟩
  | false =>
    refine iteF ⟨_, rfl, (show (0 : Int) < 8 by decide), _, rfl, ?_⟩
    cases e2 : decide (c % 8 < 4) with
    | true =>
      refine iteT ?_
      have z := q (.held (leafT k) (nmB b) (vlB v)) ⟨nm_len b, vl_kind v, leaf_ok k⟩ (by simp only [Tl.depth, leaf_depth]; decide)
      rw [tab2 k hk b hb v hv] at z
      have fin : ∀ {G : D → Prop}, (∀ x : Str, x = heldS b v → x.length ≤ sizeLine → G (.str x)) → vIf (vTest (vEq (vVar 1) (vC (D.str "on")))) (vC (D.str "name")) (vIx (vLst (aVals [.str "", .str "", .str "part"])) (vMod (vDiv (vVar 0) (vC (D.int 256))) (vC (D.int 3)))) [some (.int c), some (.str (nmB b)), some (vlB v), some (leafT k).d, some (.str (leafS k)), some (leafT l).d, some (.str (leafS l)), none] G := fun {G} g => by
        refine ⟨_, rfl, _, rfl, ?_⟩
        match b, hb with
        | 0, _ => exact iteF ⟨h3, _, rfl, cd (by decide) (by decide), (show (0 : Int) < 3 by decide), _, (by rw [show c / 256 % 3 = (v : Int) from ev]; exact at_own hv), g _ rfl (own_len v)⟩
        | 1, _ => exact iteT (g _ rfl (by decide))
      refine fin fun x ex hx => ?_
      subst ex
      exact ⟨_, rfl, _, rfl, _, rfl, h4, _, rfl, leafS k, rfl, leaf_len k, or_or (fun e => ⟨h2, by rw [orS, if_pos e] at z; exact z⟩) fun e => ⟨_, rfl, h2, by rw [orS, if_neg (by rw [e]; exact Bool.false_ne_true)] at z; exact z⟩⟩
    | false =>
      refine iteF ⟨_, rfl, (show (0 : Int) < 8 by decide), _, rfl, ?_⟩
      cases e3 : decide (c % 8 < 6) with
      | true =>
        refine iteT ?_
        have z := q (.before (leafT k) (vlB v)) ⟨vl_kind v, leaf_ok k⟩ (by simp only [Tl.depth, leaf_depth]; decide)
        rw [tab3 k hk v hv] at z
        exact ⟨_, rfl, _, rfl, h3, _, rfl, leafS k, rfl, leaf_len k, or_or (fun e => ⟨h2, by rw [orS, if_pos e] at z; exact z⟩) fun e => ⟨h3, _, rfl, cd (by decide) (by decide), (show (0 : Int) < 3 by decide), _, (by rw [show c / 256 % 3 = (v : Int) from ev]; exact at_own hv), h2, by rw [orS, if_neg (by rw [e]; exact Bool.false_ne_true)] at z; exact z⟩⟩
      | false =>
        refine iteF ?_
        have z := q (.choice (.whn (leafT k) (nmB b)) (leafT l) (.given (.int 1))) ⟨⟨nm_len b, leaf_ok k⟩, leaf_ok l, rfl⟩ (by simp only [Tl.depth, leaf_depth]; decide)
        rw [tab4 k hk l hl b hb] at z
        exact ⟨_, rfl, _, rfl, h3, _, rfl, h2, h4, _, rfl, leafS k, rfl, leaf_len k, or_or (fun e => ⟨h2, by rw [orS, if_pos e] at z; exact z⟩) fun e => ⟨h2, _, rfl, cd (by decide) (by decide), (show (0 : Int) < 2 by decide), _, (by rw [show c / 128 % 2 = (b : Int) from eb]; exact at_wh hb), whB b, rfl, wh_len b, or_or (fun e' => ⟨h2, by rw [orS, if_neg (by rw [e]; exact Bool.false_ne_true), orS, if_pos e'] at z; exact z⟩) fun e' => ⟨_, rfl, h2, by rw [orS, if_neg (by rw [e]; exact Bool.false_ne_true), orS, if_neg (by rw [e']; exact Bool.false_ne_true)] at z; exact z⟩⟩⟩
end
end K04

-- gen set Xf need_name need_first part_of plain_by timed_by _law_chain _law_wide _law_made _law_two_right _law_deep_right _law_tried
-- gen set Xc Given Named Turned Pair Choice Before Led When Held
-- gen set Xm need_bounds
-- gen set U _law_kinds
set_option maxHeartbeats 4000000
namespace K04
open PySem PySem.Spec PyProof.Rows L2 DC
def sxRight : SpX := fun ds Q _ => ∃ c : Int, ds = [.int c] ∧ Q (.bl true)
theorem m_sxRight : MonoX sxRight := fun ds P P' R R' f g ⟨c, e, h⟩ => ⟨c, e, f _ h⟩
def onB : Nat → Str
  | 0 => "on"
  | _ => "a"
def onE : Nat → Er
  | 0 => .name
  | _ => .part
def f128 : Nat → D
  | 0 => .non
  | _ => .int 128
theorem at_on {k : Nat} (h : k < 2) : L2.atI [D.str "on", D.str "a"] (k : Int) = some (.str (onB k)) := by
  match k, h with
  | 0, _ => rfl
  | 1, _ => rfl
theorem at_f {k : Nat} (h : k < 2) : L2.atI [D.non, D.int 128] (k : Int) = some (f128 k) := by
  match k, h with
  | 0, _ => rfl
  | 1, _ => rfl
theorem at_e {k : Nat} (h : k < 2) : L2.atI [D.str "name", D.str "part"] (k : Int) = some (.str (erStr (onE k))) := by
  match k, h with
  | 0, _ => rfl
  | 1, _ => rfl
theorem on_name : nameB "on" = false := by decide +kernel
theorem a_name : nameB "a" = true := by decide +kernel
theorem on_len {k : Nat} (h : k < 2) : (onB k).length ≤ 100000 := by
  match k, h with
  | 0, _ => decide +kernel
  | 1, _ => decide +kernel
theorem f_kind {k : Nat} (h : k < 2) : (kindD (f128 k)).isSome = true := by
  match k, h with
  | 0, _ => rfl
  | 1, _ => rfl
theorem deep_when {p : Pt} (hp : p.depth = 10) {k : Nat} (h : k < 2) {Z : Prop} {ea : EA} {R : XR} (q : ea.r R (onE k)) : if nameB (onB k) = true then (if bB (.whn p (onB k)) = true then Z else ea.r R .part) else ea.r R .name := by
  match k, h with
  | 0, _ => rw [show onB 0 = "on" from rfl, on_name]; exact iteF q
  | 1, _ =>
    rw [show onB 1 = "a" from rfl, a_name]
    refine iteT ?_
    rw [show bB (.whn p "a") = false by unfold bB; simp only [Pt.depth, hp]; rfl]
    exact iteF q
theorem deep_held {p : Pt} (hp : p.depth = 10) {k v : Nat} (h : k < 2) (hv : v < 2) {Z : Prop} {ea : EA} {R : XR} (q : ea.r R (onE k)) : if nameB (onB k) = true then (if firstB (f128 v) = true then (if bB (.held p (onB k) (f128 v)) = true then Z else ea.r R .part) else ea.r R .part) else ea.r R .name := by
  match k, h with
  | 0, _ => rw [show onB 0 = "on" from rfl, on_name]; exact iteF q
  | 1, _ =>
    rw [show onB 1 = "a" from rfl, a_name]
    refine iteT ?_
    match v, hv with
    | 0, _ =>
      refine iteT ?_
      rw [show bB (.held p "a" (f128 0)) = false by unfold bB; simp only [Pt.depth, hp]; rfl]
      exact iteF q
    | 1, _ =>
      rw [show firstB (f128 1) = false by decide +kernel]
      exact iteF q
theorem chain10 : ∃ p, chainP 10 = .ok p ∧ p.depth = 10 := ⟨_, rfl, rfl⟩
section
seal wpAny
variable {P : Program} {w : World} {K : PySem.W.Frag} {mg : Str → Option Value} {base : Heap} {A : Adr} {n j : Nat} {ea : EA}
theorem cx_two_right (d : Df K mg "_law_two_right" s__law_two_right ["_law_cell"]) (ro : ROk K mg ea) (c__law_two : Cal P w K mg base j "_law_two" ["_law_cell"] sdTwo) (cx_part_of : CalX P w K mg base j "part_of" ["told"] (sxPart A ea 3)) (cu__law_kinds : CalU P w K mg base j "_law_kinds" ["_law_e"] (sdKinds ea)) :
    CalX P w K mg base (j + 1) "_law_two_right" ["_law_cell"] sxRight := by
  obtain ⟨cR, i_RowError, hk, be_RowError⟩ := ro.ex
  have hit_RowError : ∀ C, hitE ea C → PySem.W.kitCls K (.ref C) (.ref cR) = some true := fun C ⟨k, e⟩ => e ▸ hk k
  refine d.calXF sc__law_two_right m_sxRight (fun ds Q R ⟨_, e, _⟩ => by rw [e]; rfl) (fun f cdv A outer s H E R hr hx => have hu := hr.units; have hh := hr.hd; have sc := sc__law_two_right
    (ff_cons (ff_lift (s_setT (d_cal c__law_two hr (by omega) (by rfl) (a_cons (dv 0) a_nil)) (g_tup (n := 2) rfl (gs_cons (g_name (i := 1) sc.nd rfl (Or.inl rfl)) (gs_cons (g_name (i := 2) sc.nd rfl (Or.inl rfl)) gs_nil)))))
  (ff_cons (ff_try (i := 3) rfl rfl rfl sc.nd rfl rfl (by rfl) i_RowError hit_RowError be_RowError (fun pins E' xk hx => (ss_one (s_expr (d_calX hx cx_part_of hr (by omega) (by rfl) (a_cons (dv 1) a_nil)))))
  (fun ea => (ss_one (s_ret (d_eq hu (d_calU rfl cu__law_kinds (hr.mark _) (by omega) (by rfl) (a_cons (dv 3) a_nil)) (dv 2))))))
  (ff_all (ss_one (s_ret (d_eq hu (dv 2) d_str))))))) ?_
  rintro ds Q R ⟨c, rfl, q⟩
  refine ⟨_, rfl, _, rfl, fun T ho hd => ⟨_, rfl, rfl, _, _, rfl, _, _, rfl, rfl, ?_⟩⟩
  refine ⟨fun δ C gs => δ = [some (.int c), some T.d, some (.str (strR T.made)), none] ∧ gs = [] ∧ ∃ e, T.made = .error e ∧ C = ea.c e, ?_, ?_⟩
  · rintro δ' C gs ⟨rfl, rfl, e, he, rfl⟩
    refine ⟨⟨e, rfl⟩, fun a => ⟨_, rfl, ⟨_, _, List.mem_singleton.mpr rfl⟩, a, e, rfl, _, rfl, ?_⟩⟩
    show Q (.bl (erStr e == strR T.made))
    rw [he]
    show Q (.bl (erStr e == erStr e))
    rw [beq_self_eq_true]
    exact q
  · refine ⟨_, rfl, T, rfl, ho, hd, ?_⟩
    cases h : T.made with
    | ok p =>
      refine ⟨_, rfl, ?_⟩
      show Q (.bl (strR (.ok p) == ""))
      exact q
    | error e => exact out_err ⟨rfl, rfl, e, rfl, rfl⟩
theorem cx_deep_right {i : Nat} (hi : i + 1 ≤ j) (d : Df K mg "_law_deep_right" s__law_deep_right ["_law_cell"]) (ro : ROk K mg ea) (kx_Held_3 : MkrX P w K mg base i "Held" A.held (sxHeld A ea 11) []) (kx_When_2 : MkrX P w K mg base i "When" A.whn (sxWhen A ea 11) []) (cx__law_chain : CalX P w K mg base j "_law_chain" ["_law_size"] (sxChain A ea)) (cu__law_kinds : CalU P w K mg base j "_law_kinds" ["_law_e"] (sdKinds ea)) :
    CalX P w K mg base (j + 1) "_law_deep_right" ["_law_cell"] sxRight := by
  obtain ⟨cR, i_RowError, hk, be_RowError⟩ := ro.ex
  have hit_RowError : ∀ C, hitE ea C → PySem.W.kitCls K (.ref C) (.ref cR) = some true := fun C ⟨k, e⟩ => e ▸ hk k
  refine d.calXF sc__law_deep_right m_sxRight (fun ds Q R ⟨_, e, _⟩ => by rw [e]; rfl) (fun f cdv A outer s H E R hr hx => have hu := hr.units; have hh := hr.hd; have sc := sc__law_deep_right
    (ff_cons (ff_try (i := 1) rfl rfl rfl sc.nd rfl rfl (by rfl) i_RowError hit_RowError be_RowError (fun pins E' xk hx => (ss_cons (s_if (t_eq hu (d_mod (d_div (dv 0) d_int) d_int) d_int) (ss_one (s_expr (d_mkX hx kx_Held_3 hr (by omega) (by rfl) (a_cons (d_calX hx cx__law_chain hr (by omega) (by rfl) (a_cons d_int a_nil)) (a_cons (d_ix (d_lst (a_ck (by rfl))) (d_mod (dv 0) d_int) (fun _ _ => rfl)) (a_cons (d_ix (d_lst (a_ck (by rfl))) (d_mod (d_div (dv 0) d_int) d_int) (fun _ _ => rfl)) a_nil)))))) ss_nil)
  (ss_one (s_expr (d_mkX hx kx_When_2 hr (by omega) (by rfl) (a_cons (d_calX hx cx__law_chain hr (by omega) (by rfl) (a_cons d_int a_nil)) (a_cons (d_ix (d_lst (a_ck (by rfl))) (d_mod (dv 0) d_int) (fun _ _ => rfl)) a_nil)))))))
  (fun ea => (ss_one (s_ret (d_eq hu (d_calU rfl cu__law_kinds (hr.mark _) (by omega) (by rfl) (a_cons (dv 1) a_nil)) (d_ix (d_lst (a_ck (by rfl))) (d_mod (dv 0) d_int) (fun _ _ => rfl)))))))
  (ff_all (ss_one (s_ret d_bl))))) ?_
  rintro ds Q R ⟨c, rfl, q⟩
  have h2 : 2 ≤ sizeLine := by decide
  obtain ⟨k, hk', ek⟩ := mod_nat c (show 0 < 2 by decide)
  obtain ⟨v, hv, ev⟩ := mod_nat (c / 2) (show 0 < 2 by decide)
  obtain ⟨p, ep, hp⟩ := chain10
  refine ⟨fun δ C gs => δ = [some (.int c), none] ∧ gs = [] ∧ C = ea.c (onE k), ?_, ?_⟩
  · rintro δ' C gs ⟨rfl, rfl, rfl⟩
    refine ⟨⟨onE k, rfl⟩, fun a => ⟨_, rfl, ⟨_, _, List.mem_singleton.mpr rfl⟩, a, onE k, rfl, h2, _, rfl, (show (0 : Int) < 2 by decide), _, (by rw [show c % 2 = (k : Int) from ek]; exact at_e hk'), ?_⟩⟩
    show Q (.bl (erStr (onE k) == erStr (onE k)))
    rw [beq_self_eq_true]
    exact q
  · refine ⟨_, rfl, cd (by decide) (by decide), (show (0 : Int) < 2 by decide), (c / 4 % 2 == 0), rfl, ?_⟩
    cases e1 : (c / 4 % 2 == 0) with
    | true =>
      refine iteT ⟨10, rfl, by decide, by decide, ?_⟩
      rw [ep]
      refine ⟨h2, _, rfl, (show (0 : Int) < 2 by decide), _, (by rw [show c % 2 = (k : Int) from ek]; exact at_on hk'), h2, _, rfl, cd (by decide) (by decide), (show (0 : Int) < 2 by decide), _, (by rw [show c / 2 % 2 = (v : Int) from ev]; exact at_f hv), p, onB k, f128 v, rfl, on_len hk', f_kind hv, (by simp only [Pt.depth]; omega), deep_held hp hk' hv ?_⟩
      rw [EA.r_eq]
      exact ⟨rfl, rfl, rfl⟩
    | false =>
      refine iteF ⟨10, rfl, by decide, by decide, ?_⟩
      rw [ep]
      refine ⟨h2, _, rfl, (show (0 : Int) < 2 by decide), _, (by rw [show c % 2 = (k : Int) from ek]; exact at_on hk'), p, onB k, rfl, on_len hk', (by simp only [Pt.depth]; omega), deep_when hp hk' ?_⟩
      rw [EA.r_eq]
      exact ⟨rfl, rfl, rfl⟩
end
end K04

-- gen set Xf need_name need_first part_of plain_by timed_by _law_chain _law_wide _law_made _law_two_right _law_deep_right _law_tried
-- gen set Xc Given Named Turned Pair Choice Before Led When Held
-- gen set Xm need_bounds
-- gen set U _law_kinds
-- gen set EX NoText NoKind NoBeat Ring
-- gen set efld law
set_option maxHeartbeats 4000000
namespace K04
open PySem PySem.Spec PyProof.Rows L2 DC
def sxLaw : SpX := fun ds Q _ => ∃ ns : List Int, ds = [.lst (ns.map D.int)] ∧ Q (.bl true)
structure EC where
  noText : Addr
  noKind : Addr
  noBeat : Addr
  ring : Addr
structure FldE (K : PySem.W.Frag) (C : Addr) (f : Str) : Prop where
  pg : ExcGet K C
  hd : PySem.W.hasDictIn K C = true
  nf : PySem.W.findIn K (.ref C) f = some none
structure FE (K : PySem.W.Frag) (ec : EC) : Prop where
  t : FldE K ec.noText "row"
  k1 : FldE K ec.noKind "row"
  k2 : FldE K ec.noKind "place"
  b1 : FldE K ec.noBeat "row"
  b2 : FldE K ec.noBeat "place"
  b3 : FldE K ec.noBeat "one"
  b4 : FldE K ec.noBeat "other"
  r : FldE K ec.ring "ring"
theorem self_eq {neg : Bool} {d : D} {Q : D → Prop} (e : eqScal d d = none) (p : DC.plain d = true) (c : (toP d).canLay0 = true) (hs : Nat.ble (toP d).depth 64 = true) (q : Q (.bl (!neg))) : fEq neg d d Q := by
  have s : SeqAt.shaped (toP d) = true := by unfold SeqAt.shaped; rw [c, decide_eq_true (Nat.le_of_ble_eq_true hs)]; rfl
  have ev : PyData.eqv (toP d) (toP d) = true := SeqAt.eqv_refl _ c
  unfold fEq
  rw [e]
  refine ⟨p, p, s, s, ?_⟩
  rw [ev]
  cases neg <;> exact q
theorem str_ne {x : Str} : D.bl (if true = true then !(x == x) else (x == x)) = D.bl false := by rw [beq_self_eq_true]; rfl
theorem int_ne {x : Int} : D.bl (if true = true then !(x == x) else (x == x)) = D.bl false := by rw [beq_self_eq_true]; rfl
section
seal wpAny
variable {P : Program} {w : World} {K : PySem.W.Frag} {mg : Str → Option Value} {base : Heap} {A : Adr} {n j : Nat} {ea : EA} {ec : EC}
theorem okX1 {k : Nat} {x : Str} {st : Stmt} {f : Addr} {fd : FuncData} {ps N : List Str} {sx : SpX} {t : XR → TSD} (F : Fun K x x st f fd) (S : FnScope N ps (defScope st)) (len : ∀ ds Q R, sx ds Q R → ds.length = ps.length)
    (hb : ∀ (f : Addr) (cdv : Value) (A : Around) (outer : List Env) (s : Shared) (H : Hp) (E : XK) (R : XR), Room k (A.deeper (envOfC x (defScope st) s.heap.objs.size f cdv)) → XAcc (BxX P w K mg base N x st f cdv A outer s H E) (fun _ => R) → PSsd (BxX P w K mg base N x st f cdv A outer s H E) (defBody st) (t R))
    (hr : ∀ ds Q R, sx ds Q R → t R { nx := fun _ => Q .non, rt := Q } (startD N ds)) : FnOk P w K mg base (CXD P w) (k + 1) f fd ps (spX K sx) := okX (fun_v F) S len (hb f) hr
theorem ok_law {i : Nat} {f : Addr} {fd : FuncData} (hi : i + 1 ≤ j) (F : Fun K "law" "law" s_law f fd) (n_range : mg "range" = none) (c__law_cell_at : Cal P w K mg base j "_law_cell_at" ["_law_script", "_law_k"] sdCell) (c__law_mixed : Cal P w K mg base j "_law_mixed" ["_law_cell", "_law_k"] sdMix) (c__law_thing : Cal P w K mg base j "_law_thing" ["_law_way", "_law_mix"] sdThing) (c__law_due : Cal P w K mg base j "_law_due" ["_law_way", "_law_thing_here", "_law_cell"] sdDue) (cx__law_tried : CalX P w K mg base j "_law_tried" ["_law_way", "_law_thing_here", "_law_cell"] (sxTried ea)) (cx__law_two_right : CalX P w K mg base j "_law_two_right" ["_law_cell"] sxRight) (cx__law_deep_right : CalX P w K mg base j "_law_deep_right" ["_law_cell"] sxRight) (kx_Named_1 : MkrX P w K mg base i "Named" A.named (sxNamed ea) []) (ke_NoText : MkE P w K mg base i "NoText" ec.noText ["row"]) (ke_NoKind : MkE P w K mg base i "NoKind" ec.noKind ["row", "place"]) (ke_NoBeat : MkE P w K mg base i "NoBeat" ec.noBeat ["row", "place", "one", "other"]) (ke_Ring : MkE P w K mg base i "Ring" ec.ring ["ring"]) (fe : FE K ec) (m_told : ∀ C, C = A.named → Mcal P w K mg base j C "told" (sdP A 1 Pt.told C) []) :
    FnOk P w K mg base (CXD P w) (j + 1) f fd ["_law_script"] (spX K sxLaw) := by
  refine okX1 F sc_law (fun ds Q R ⟨x, e, _⟩ => by rw [e]; rfl) (fun f cdv A outer s H E R hr hx => have hu := hr.units; have hh := hr.hd; have sc := sc_law
    (ss_cons (s_for PassesOwn.leaving rfl (i_range1 (by rfl) n_range (a_cons d_int a_nil)) (g_name (i := 1) sc.nd rfl (Or.inl rfl)) (ss_cons (s_set (i := 6) sc.nd rfl (Or.inl rfl) (d_cal c__law_cell_at hr (by omega) (by rfl) (a_cons (dv 0) (a_cons (dv 1) a_nil))))
  (ss_cons (s_set (i := 7) sc.nd rfl (Or.inl rfl) (d_mod (d_div (d_cal c__law_mixed hr (by omega) (by rfl) (a_cons (dv 6) (a_cons (dv 1) a_nil))) d_int) d_int))
  (ss_cons (s_set (i := 8) sc.nd rfl (Or.inl rfl) (d_cal c__law_thing hr (by omega) (by rfl) (a_cons (dv 7) (a_cons (d_div (d_cal c__law_mixed hr (by omega) (by rfl) (a_cons (dv 6) (a_cons (d_add d_int (dv 1)) a_nil))) d_int) a_nil))))
  (ss_cons (s_set (i := 9) sc.nd rfl (Or.inl rfl) (d_div (d_cal c__law_mixed hr (by omega) (by rfl) (a_cons (dv 6) (a_cons (d_add d_int (dv 1)) a_nil))) d_int))
  (ss_cons (s_if (t_ne hu (d_calX hx cx__law_tried hr (by omega) (by rfl) (a_cons (dv 7) (a_cons (dv 8) (a_cons (dv 9) a_nil)))) (d_cal c__law_due hr (by omega) (by rfl) (a_cons (dv 7) (a_cons (dv 8) (a_cons (dv 9) a_nil))))) (ss_one (s_ret d_bl)) ss_nil)
  (ss_one (s_if (PWd.td (w_or (t_not (t_tru (d_calX hx cx__law_two_right hr (by omega) (by rfl) (a_cons (d_div (d_cal c__law_mixed hr (by omega) (by rfl) (a_cons (dv 6) (a_cons (d_add d_int (dv 1)) a_nil))) d_int) a_nil)))) (w_or1 (t_not (t_tru (d_calX hx cx__law_deep_right hr (by omega) (by rfl) (a_cons (d_div (dv 9) d_int) a_nil))))))) (ss_one (s_ret d_bl)) ss_nil))))))))
  (ss_cons (s_set (i := 2) sc.nd rfl (Or.inl rfl) (d_mod (d_cal c__law_cell_at hr (by omega) (by rfl) (a_cons (dv 0) (a_cons d_int a_nil))) d_int))
  (ss_cons (s_set (i := 3) sc.nd rfl (Or.inl rfl) (d_mkE ke_NoBeat rfl hr (by omega) (by rfl) (a_cons d_str (a_cons (d_tup (a_cons (dv 2) a_nil)) (a_cons (d_tup (a_ck (by rfl))) (a_cons (d_tup a_nil) a_nil))))))
  (ss_cons (s_if (PWd.td (w_or (t_ne hu (d_lst (a_cons (d_fldE K rfl (dv 3) (by rfl)) (a_cons (d_fldE K rfl (dv 3) (by rfl)) (a_cons (d_fldE K rfl (dv 3) (by rfl)) (a_cons (d_fldE K rfl (dv 3) (by rfl)) a_nil))))) (d_lst (a_cons d_str (a_cons (d_tup (a_cons (dv 2) a_nil)) (a_cons (d_tup (a_ck (by rfl))) (a_cons (d_tup a_nil) a_nil)))))) (w_or1 (t_ne hu (d_fldE K rfl (d_mkE ke_NoText rfl hr (by omega) (by rfl) (a_cons (dv 2) a_nil)) (by rfl)) (dv 2))))) (ss_one (s_ret d_bl)) ss_nil)
  (ss_cons (s_set (i := 4) sc.nd rfl (Or.inl rfl) (d_mkE ke_NoKind rfl hr (by omega) (by rfl) (a_cons d_non (a_cons (d_tup (a_cons d_int (a_cons (dv 2) a_nil))) a_nil))))
  (ss_cons (s_set (i := 5) sc.nd rfl (Or.inl rfl) (d_tup (a_cons (d_tup (a_ck (by rfl))) (a_cons (d_tup (a_cons d_str (a_cons (d_tup (a_cons (dv 2) a_nil)) a_nil))) a_nil))))
  (ss_cons (s_if (PWd.td (w_or (t_isnot (d_fldE K rfl (dv 4) (by rfl)) d_non) (w_or (t_ne hu (d_fldE K rfl (dv 4) (by rfl)) (d_tup (a_cons d_int (a_cons (dv 2) a_nil)))) (w_or1 (t_ne hu (d_fldE K rfl (d_mkE ke_Ring rfl hr (by omega) (by rfl) (a_cons (dv 5) a_nil)) (by rfl)) (dv 5)))))) (ss_one (s_ret d_bl)) ss_nil)
  (ss_one (s_ret (d_eq hu (d_m0 m_told hr (by omega) (d_mkX hx kx_Named_1 hr (by omega) (by rfl) (a_cons d_str a_nil))) (d_tup (a_ck (by rfl)))))))))))))) ?_
  rintro ds Q R ⟨ns, rfl, q⟩
  have h0 : 0 ≤ sizeLine := by decide
  have h1 : 1 ≤ sizeLine := by decide
  have h2 : 2 ≤ sizeLine := by decide
  have h4 : 4 ≤ sizeLine := by decide
  refine ⟨_, rfl, (by decide), (by decide), fun i δ => ∃ k c w t s : Option D, δ = [some (.lst (ns.map D.int)), k, none, none, none, none, c, w, t, s], ⟨none, none, none, none, none, rfl⟩, ?_, ?_⟩
  · intro i d δ' hd hin
    obtain ⟨k, c, w, t, s, rfl⟩ := hin
    obtain ⟨hlt, rfl⟩ := rng_at hd
    have hlt : i < 6 := hlt
    refine ⟨_, rfl, _, rfl, ns, i, rfl, by omega, fun c => ?_⟩
    refine ⟨_, rfl, _, rfl, c, _, rfl, fun m1 l1 u1 => ⟨cd (by decide) (by decide), (show (0 : Int) < 10 by decide), ?_⟩⟩
    have w0 := mod_lo (m1 / 7) (show (0 : Int) < 10 by decide)
    have w1 := mod_hi (m1 / 7) (show (0 : Int) < 10 by decide)
    refine ⟨_, rfl, _, rfl, _, rfl, c, _, rfl, fun m2 l2 u2 => ⟨cd (by decide) (by decide), _, _, rfl, w0, by omega, by omega, fun th hw => ?_⟩⟩
    refine ⟨_, rfl, _, rfl, c, _, rfl, fun m3 l3 u3 => ⟨cd (by decide) (by decide), ?_⟩⟩
    obtain ⟨r, hr⟩ := hw (m3 / 7)
    refine ⟨_, rfl, _, rfl, _, rfl, _, th, _, r, rfl, hr, _, rfl, _, rfl, _, rfl, _, th, _, r, rfl, hr, false, str_ne, iteF ?_⟩
    refine ⟨_, rfl, _, rfl, c, _, rfl, fun m4 l4 u4 => ⟨cd (by decide) (by decide), _, rfl, true, rfl, iteF ⟨_, rfl, cd (by decide) (by decide), _, rfl, true, rfl, iteF ⟨_, _, _, _, _, rfl⟩⟩⟩⟩
  · intro δ' hin
    obtain ⟨k, c, w, t, s, rfl⟩ := hin
    refine ⟨_, rfl, ns, 6, rfl, by decide, fun c6 => ⟨(show (0 : Int) < 1000 by decide), ?_⟩⟩
    generalize c6 % 1000 = m
    refine ⟨_, rfl, h1, h1, h0, rfl, fun a1 => ?_⟩
    refine ⟨_, rfl, a1, ec.noBeat, _, _, rfl, fe.b1.pg, fe.b1.hd, fe.b1.nf, rfl, _, rfl, a1, ec.noBeat, _, _, rfl, fe.b2.pg, fe.b2.hd, fe.b2.nf, rfl, _, rfl, a1, ec.noBeat, _, _, rfl, fe.b3.pg, fe.b3.hd, fe.b3.nf, rfl, _, rfl, a1, ec.noBeat, _, _, rfl, fe.b4.pg, fe.b4.hd, fe.b4.nf, rfl, h4, ?_⟩
    refine ⟨_, rfl, h1, h1, h0, h4, self_eq rfl rfl (by kernel_rfl) rfl ⟨false, rfl, iteF ?_⟩⟩
    refine ⟨_, rfl, rfl, fun a2 => ⟨a2, ec.noText, _, _, rfl, fe.t.pg, fe.t.hd, fe.t.nf, rfl, _, rfl, false, int_ne, iteF ?_⟩⟩
    refine ⟨_, rfl, h2, rfl, fun a3 => ?_⟩
    refine ⟨h2, _, rfl, h1, h2, h2, ?_⟩
    refine ⟨_, rfl, a3, ec.noKind, _, _, rfl, fe.k1.pg, fe.k1.hd, fe.k1.nf, rfl, false, rfl, iteF ?_⟩
    refine ⟨_, rfl, a3, ec.noKind, _, _, rfl, fe.k2.pg, fe.k2.hd, fe.k2.nf, rfl, _, rfl, h2, self_eq rfl rfl (by kernel_rfl) rfl ⟨false, rfl, iteF ?_⟩⟩
    refine ⟨_, rfl, rfl, fun a4 => ⟨a4, ec.ring, _, _, rfl, fe.r.pg, fe.r.hd, fe.r.nf, rfl, _, rfl, self_eq rfl rfl (by kernel_rfl) rfl ⟨false, rfl, iteF ?_⟩⟩⟩
    refine ⟨"a", rfl, (by decide), ?_⟩
    rw [a_name]
    exact iteT ⟨A.named, _, rfl, rfl, rfl, .named "a", rfl, rfl, (by decide), h2, self_eq rfl rfl (by kernel_rfl) rfl q⟩
end
end K04

set_option maxHeartbeats 4000000
namespace K04
open PySem PySem.Spec PyProof.Rows L2 DC
structure DE (K : PySem.W.Frag) (mg : Str → Option Value) (x : Str) (C : Addr) (qual : Str) (st : Stmt) (ps : List Str) : Prop where
  ex : ∃ f fd oI, FunV K "__init__" qual st f fd ∧ excOwnIn K C f = true ∧ K.lookup f = some oI ∧ oI.cls = .type "function" ∧ mg x = some (.ref C) ∧ PySem.W.keepIn K (.ref C) = true ∧ Binds K fd ps []
  g : ExcSet K C
section
variable {P : Program} {w : World} {K : PySem.W.Frag} {mg : Str → Option Value} {base : Heap} {C : Addr} {k : Nat}
theorem one_of_len {α : Type} {xs : List α} (h : xs.length = 1) : ∃ x, xs = [x] := match xs, h with | [x], _ => ⟨x, rfl⟩
theorem two_of_len {α : Type} {xs : List α} (h : xs.length = 2) : ∃ x y, xs = [x, y] := match xs, h with | [x, y], _ => ⟨x, y, rfl⟩
theorem four_of_len {α : Type} {xs : List α} (h : xs.length = 4) : ∃ x y z u, xs = [x, y, z, u] := match xs, h with | [x, y, z, u], _ => ⟨x, y, z, u, rfl⟩
theorem ke_text (d : DE K mg "NoText" C "NoText.__init__" s_NoText___init__ ["self", "row"]) (n1 : FldE K C "row") : MkE P w K mg base (k + 1) "NoText" C ["row"] := by
  obtain ⟨f, fd, oI, F, ow, l, oc, m, kp, b⟩ := d.ex
  refine ⟨⟨f, fd, _, oI, ow, l, oc, okE (t := tX K 1 "row") F sc_NoText___init__ rfl (fun cdv A outer s H E => pss_one (ps_x (x := "self") (p := "row") (j := 1) rfl (Or.inl rfl) rfl (Or.inl rfl))) ?_, m, kp, b⟩, by decide⟩
  intro pr a vs' H Q hl ha q
  obtain ⟨v, rfl⟩ := one_of_len hl
  exact ⟨pr, a, C, v, rfl, rfl, d.g, n1.nf, .inl ⟨ha, fun x h1 h2 => q x h1 h2⟩⟩
theorem ke_ring (d : DE K mg "Ring" C "Ring.__init__" s_Ring___init__ ["self", "ring"]) (n1 : FldE K C "ring") : MkE P w K mg base (k + 1) "Ring" C ["ring"] := by
  obtain ⟨f, fd, oI, F, ow, l, oc, m, kp, b⟩ := d.ex
  refine ⟨⟨f, fd, _, oI, ow, l, oc, okE (t := tX K 1 "ring") F sc_Ring___init__ rfl (fun cdv A outer s H E => pss_one (ps_x (x := "self") (p := "ring") (j := 1) rfl (Or.inl rfl) rfl (Or.inl rfl))) ?_, m, kp, b⟩, by decide⟩
  intro pr a vs' H Q hl ha q
  obtain ⟨v, rfl⟩ := one_of_len hl
  exact ⟨pr, a, C, v, rfl, rfl, d.g, n1.nf, .inl ⟨ha, fun x h1 h2 => q x h1 h2⟩⟩
theorem x_next {pr : Array Value → Prop} {H : Hp} {a d : Addr} {fs : List (Str × V)} (h : d ≠ a) : upd (upd H a (ExcP pr a C (some d))) d (XdO d fs) a = some (ExcP pr a C (some d)) := by rw [upd_ne (Ne.symm h), upd_same]
theorem ke_kind (d : DE K mg "NoKind" C "NoKind.__init__" s_NoKind___init__ ["self", "row", "place"]) (n1 : FldE K C "row") (n2 : FldE K C "place") : MkE P w K mg base (k + 1) "NoKind" C ["row", "place"] := by
  obtain ⟨f, fd, oI, F, ow, l, oc, m, kp, b⟩ := d.ex
  refine ⟨⟨f, fd, _, oI, ow, l, oc, okE (t := tSeq (tX K 1 "row") (tX K 2 "place")) F sc_NoKind___init__ rfl (fun cdv A outer s H E => pss_cons (ps_x (x := "self") (p := "row") (j := 1) rfl (Or.inl rfl) rfl (Or.inl rfl)) (pss_one (ps_x (x := "self") (p := "place") (j := 2) rfl (Or.inl rfl) rfl (Or.inl rfl)))) ?_, m, kp, b⟩, by decide⟩
  intro pr a vs' H Q hl ha q
  obtain ⟨v, u, rfl⟩ := two_of_len hl
  refine ⟨pr, a, C, v, rfl, rfl, d.g, n1.nf, .inl ⟨ha, fun x h1 h2 => ⟨pr, a, C, u, rfl, rfl, d.g, n2.nf, .inr ⟨x, _, x_next h2, upd_same, (Nat.le_of_ble_eq_true rfl), ?_⟩⟩⟩⟩
  rw [upd_upd]
  exact q x h1 h2
theorem ke_beat (d : DE K mg "NoBeat" C "NoBeat.__init__" s_NoBeat___init__ ["self", "row", "place", "one", "other"]) (n1 : FldE K C "row") (n2 : FldE K C "place") (n3 : FldE K C "one") (n4 : FldE K C "other") : MkE P w K mg base (k + 1) "NoBeat" C ["row", "place", "one", "other"] := by
  obtain ⟨f, fd, oI, F, ow, l, oc, m, kp, b⟩ := d.ex
  refine ⟨⟨f, fd, _, oI, ow, l, oc, okE (t := tSeq (tX K 1 "row") (tSeq (tX K 2 "place") (tSeq (tX K 3 "one") (tX K 4 "other")))) F sc_NoBeat___init__ rfl (fun cdv A outer s H E => pss_cons (ps_x (x := "self") (p := "row") (j := 1) rfl (Or.inl rfl) rfl (Or.inl rfl)) (pss_cons (ps_x (x := "self") (p := "place") (j := 2) rfl (Or.inl rfl) rfl (Or.inl rfl)) (pss_cons (ps_x (x := "self") (p := "one") (j := 3) rfl (Or.inl rfl) rfl (Or.inl rfl)) (pss_one (ps_x (x := "self") (p := "other") (j := 4) rfl (Or.inl rfl) rfl (Or.inl rfl)))))) ?_, m, kp, b⟩, by decide⟩
  intro pr a vs' H Q hl ha q
  obtain ⟨v, u, y, z, rfl⟩ := four_of_len hl
  refine ⟨pr, a, C, v, rfl, rfl, d.g, n1.nf, .inl ⟨ha, fun x h1 h2 => ⟨pr, a, C, u, rfl, rfl, d.g, n2.nf, .inr ⟨x, _, x_next h2, upd_same, (Nat.le_of_ble_eq_true rfl), ?_⟩⟩⟩⟩
  rw [upd_upd]
  refine ⟨pr, a, C, y, rfl, rfl, d.g, n3.nf, .inr ⟨x, _, x_next h2, upd_same, (Nat.le_of_ble_eq_true rfl), ?_⟩⟩
  rw [upd_upd]
  refine ⟨pr, a, C, z, rfl, rfl, d.g, n4.nf, .inr ⟨x, _, x_next h2, upd_same, (Nat.le_of_ble_eq_true rfl), ?_⟩⟩
  rw [upd_upd]
  exact q x h1 h2
end
end K04

set_option maxHeartbeats 4000000
namespace K04
open PySem PySem.Spec PyProof.Rows L2 DC
/-! ### where things lie -/
def BindP (x qual : Str) (st : Stmt) (ps : List Str) : Prop := ∀ (kV doc pm : Value) (an : Option Addr) (cdv ct : Value) (us : List Value), us.length = ps.length → bindArgs (PySem.W.fnOf x qual (defArgs st) (defBody st) (defScope st) .none kV doc pm an cdv ct) ⟨us, []⟩ = pure (ps.zip us)
section
variable {w : World} {K : PySem.W.Frag} {h : Heap} {mg : Str → Option Value} {x m qual : Str} {st : Stmt} {ps : List Str} {f C : Addr} {od an : Option Addr} {sl : Array (Option Value)} {oc kV dc pm cd ct dV : Value}
theorem df_mk (X : K.In h) (G : h.Ns mainGlobals mg) (a : PySem.W.nsIn K mainGlobals x = some (some (.ref f)) := by k_is) (l : K.lookup f = some ⟨oc, od, .func (PySem.W.fnOf x x (defArgs st) (defBody st) (defScope st) .none kV dc pm an cd ct), sl⟩ := by k_is)
    (c : PySem.W.codeIn K cd x = true := by k_is) (k : PySem.W.keepIn K (.ref f) = true := by k_is) (b : BindP x x st ps := by first | exact (fun _ _ _ _ _ _ us hl => match us, hl with | [_], _ => rfl) | exact (fun _ _ _ _ _ _ us hl => match us, hl with | [_, _], _ => rfl) | exact (fun _ _ _ _ _ _ us hl => match us, hl with | [_, _, _], _ => rfl)) : Df K mg x st ps := ⟨⟨f, _, fun_mk (st := st) l c k, PySem.W.mg_of X G a, (fun_mk (st := st) l c k).binds b⟩⟩
structure Dm0 (K : PySem.W.Frag) (C : Addr) (m qual : Str) (st : Stmt) : Prop where
  ex : ∃ f fd, Fun K m qual st f fd ∧ Meth K C m f ∧ Binds K fd ["self"] []
theorem dm_mk (a : PySem.W.findIn K (.ref C) m = some (some (.ref f)) := by k_is) (l : K.lookup f = some ⟨oc, od, .func (PySem.W.fnOf m qual (defArgs st) (defBody st) (defScope st) .none kV dc pm an cd ct), sl⟩ := by k_is)
    (c : PySem.W.codeIn K cd qual = true := by k_is) (k : PySem.W.keepIn K (.ref f) = true := by k_is) (n : PySem.W.isFn K (.ref f) = true := by k_is) (b : BindP m qual st ["self"] := by exact (fun _ _ _ _ _ _ us hl => match us, hl with | [_], _ => rfl)) : Dm0 K C m qual st := ⟨⟨f, _, fun_mk (st := st) l c k, ⟨a, n, k⟩, (fun_mk (st := st) l c k).binds b⟩⟩
theorem Dm0.dm (d : Dm0 K C m qual st) (c : Cls K C) : Dm K C m qual st ["self"] := let ⟨f, fd, F, M, b⟩ := d.ex; ⟨⟨f, fd, F, M, c, b⟩⟩
theorem di_mk (X : K.In h) (G : h.Ns mainGlobals mg) (hc : PySem.W.nsIn K mainGlobals x = some (some (.ref C)) := by k_is) (mk : PySem.W.makesIn K C = true := by k_is) (ini : PySem.W.findIn K (.ref C) "__init__" = some (some (.ref f)) := by k_is) (fn : PySem.W.isFn K (.ref f) = true := by k_is) (kp : PySem.W.keepIn K (.ref C) = true := by k_is)
    (l : K.lookup f = some ⟨oc, od, .func (PySem.W.fnOf "__init__" qual (defArgs st) (defBody st) (defScope st) .none kV dc pm an cd ct), sl⟩ := by k_is) (c : PySem.W.codeIn K cd qual = true := by k_is) (k : PySem.W.keepIn K (.ref f) = true := by k_is)
    (b : BindP "__init__" qual st ps := by first | exact (fun _ _ _ _ _ _ us hl => match us, hl with | [_, _], _ => rfl) | exact (fun _ _ _ _ _ _ us hl => match us, hl with | [_, _, _], _ => rfl) | exact (fun _ _ _ _ _ _ us hl => match us, hl with | [_, _, _, _], _ => rfl)) : Di K mg x C qual st ps [] :=
  ⟨⟨f, _, [], [], ⟨⟨oc, od, .none, kV, dc, pm, an, cd, ct, sl, rfl, l, c⟩, k⟩, ⟨mk, ini, fn, kp⟩, PySem.W.mg_of X G hc, (fun_mk (st := st) l c k).binds b, .nil, fun _ => .nil⟩⟩
def BindD (x qual : Str) (st : Stmt) (ps : List Str) : Prop := ∀ (K : PySem.W.Frag) (T : Addr) (ob : Obj) (v : Value) (n : Nat), K.lookup T = some ob → ob.data = .seq #[v] n → ∀ (kV doc pm : Value) (an : Option Addr) (cdv ct : Value), Binds K (PySem.W.fnOf x qual (defArgs st) (defBody st) (defScope st) (.ref T) kV doc pm an cdv ct) ps []
theorem di_mkD {Ta : Addr} {tc v : Value} {td : Option Addr} {tn : Nat} {tsl : Array (Option Value)} (X : K.In h) (G : h.Ns mainGlobals mg) (b : BindD "__init__" qual st ps) (hc : PySem.W.nsIn K mainGlobals x = some (some (.ref C)) := by k_is) (mk : PySem.W.makesIn K C = true := by k_is) (ini : PySem.W.findIn K (.ref C) "__init__" = some (some (.ref f)) := by k_is)
    (fn : PySem.W.isFn K (.ref f) = true := by k_is) (kp : PySem.W.keepIn K (.ref C) = true := by k_is) (l : K.lookup f = some ⟨oc, od, .func (PySem.W.fnOf "__init__" qual (defArgs st) (defBody st) (defScope st) (.ref Ta) kV dc pm an cd ct), sl⟩ := by k_is) (c : PySem.W.codeIn K cd qual = true := by k_is) (k : PySem.W.keepIn K (.ref f) = true := by k_is)
    (lt : K.lookup Ta = some ⟨tc, td, .seq #[v] tn, tsl⟩ := by k_is) : Di K mg x C qual st ps [] :=
  ⟨⟨f, _, [], [], ⟨⟨oc, od, .ref Ta, kV, dc, pm, an, cd, ct, sl, rfl, l, c⟩, k⟩, ⟨mk, ini, fn, kp⟩, PySem.W.mg_of X G hc, b K Ta _ v tn lt rfl kV dc pm an cd ct, .nil, fun _ => .nil⟩⟩
def BindD1 (x qual : Str) (st : Stmt) (ps : List Str) : Prop := ∀ (K : PySem.W.Frag) (T : Addr) (ob : Obj) (v : Value) (n : Nat), K.lookup T = some ob → ob.data = .seq #[v] n → ∀ (kV doc pm : Value) (an : Option Addr) (cdv ct : Value), Binds K (PySem.W.fnOf x qual (defArgs st) (defBody st) (defScope st) (.ref T) kV doc pm an cdv ct) ps [v]
theorem di_mkN {Ta : Addr} {tc : Value} {td : Option Addr} {tn : Nat} {tsl : Array (Option Value)} (X : K.In h) (G : h.Ns mainGlobals mg) (b : BindD1 "__init__" qual st ps) (hc : PySem.W.nsIn K mainGlobals x = some (some (.ref C)) := by k_is) (mk : PySem.W.makesIn K C = true := by k_is) (ini : PySem.W.findIn K (.ref C) "__init__" = some (some (.ref f)) := by k_is)
    (fn : PySem.W.isFn K (.ref f) = true := by k_is) (kp : PySem.W.keepIn K (.ref C) = true := by k_is) (l : K.lookup f = some ⟨oc, od, .func (PySem.W.fnOf "__init__" qual (defArgs st) (defBody st) (defScope st) (.ref Ta) kV dc pm an cd ct), sl⟩ := by k_is) (c : PySem.W.codeIn K cd qual = true := by k_is) (k : PySem.W.keepIn K (.ref f) = true := by k_is)
    (lt : K.lookup Ta = some ⟨tc, td, .seq #[.none] tn, tsl⟩ := by k_is) : Di K mg x C qual st ps [.non] :=
  ⟨⟨f, _, [.non], [.none], ⟨⟨oc, od, .ref Ta, kV, dc, pm, an, cd, ct, sl, rfl, l, c⟩, k⟩, ⟨mk, ini, fn, kp⟩, PySem.W.mg_of X G hc, b K Ta _ .none tn lt rfl kV dc pm an cd ct, .cons rfl .nil, fun _ => .cons .non .nil⟩⟩
theorem de_mk (X : K.In h) (G : h.Ns mainGlobals mg) (hc : PySem.W.nsIn K mainGlobals x = some (some (.ref C)) := by k_is) (ini : PySem.W.findIn K (.ref C) "__init__" = some (some (.ref f)) := by k_is) (kp : PySem.W.keepIn K (.ref C) = true := by k_is)
    (l : K.lookup f = some ⟨.type "function", od, .func (PySem.W.fnOf "__init__" qual (defArgs st) (defBody st) (defScope st) .none kV dc pm an cd ct), sl⟩ := by k_is) (c : PySem.W.codeIn K cd qual = true := by k_is) (k : PySem.W.keepIn K (.ref f) = true := by k_is)
    (ow : excOwnIn K C f = true := by kernel_rfl) (sa : PySem.W.findIn K (.ref C) "__setattr__" = some (some (.builtin "object.__setattr__")) := by k_is) (ov : ((PySem.W.clsIn K C).any fun cd => excOver cd.mro) = true := by kernel_rfl) (hd : PySem.W.hasDictIn K C = true := by k_is)
    (b : BindP "__init__" qual st ps := by first | exact (fun _ _ _ _ _ _ us hl => match us, hl with | [_, _], _ => rfl) | exact (fun _ _ _ _ _ _ us hl => match us, hl with | [_, _, _], _ => rfl) | exact (fun _ _ _ _ _ _ us hl => match us, hl with | [_, _, _, _, _], _ => rfl)) : DE K mg x C qual st ps :=
  ⟨⟨f, _, _, ⟨⟨.type "function", od, .none, kV, dc, pm, an, cd, ct, sl, rfl, l, c⟩, k⟩, ow, l, rfl, PySem.W.mg_of X G hc, kp, (fun_mk (st := st) l c k).binds b⟩, ⟨sa, ov, hd⟩⟩
theorem cl_of {v : Value} {b : Bool} (h : PySem.W.mroIn K C v = some b) : (PySem.W.clsIn K C).isSome = true := by
  unfold PySem.W.mroIn at h
  cases e : PySem.W.clsIn K C with
  | none => rw [e] at h; cases h
  | some _ => rfl
theorem ety_mk (g1 : PySem.W.findIn K (.ref C) "__getattribute__" = some (some (.builtin "BaseException.__getattribute__")) := by k_is) (g2 : PySem.W.findIn K (.ref C) "__getattr__" = some none := by k_is) (g3 : PySem.W.mroIn K C (.type "BaseException") = some true := by k_is) (ha : PySem.W.findIn K (.ref C) "__class__" = some (some (.builtin "object.__class__")) := by k_is) (hn : PySem.W.specialIn K (.builtin "object.__class__") "__get__" = some (some (.builtin "getset_descriptor.__get__")) := by k_is) (ht : PySem.W.takesIn K (.builtin "object.__class__") = some true := by k_is) (hm : PySem.W.mroIn K C (.type "object") = some true := by k_is) : ExcTy K C := ⟨⟨g1, g2, g3⟩, cl_of hm, ha, hn, ht, hm⟩
theorem fld_mk {f : Str} (g1 : PySem.W.findIn K (.ref C) "__getattribute__" = some (some (.builtin "BaseException.__getattribute__")) := by k_is) (g2 : PySem.W.findIn K (.ref C) "__getattr__" = some none := by k_is) (g3 : PySem.W.mroIn K C (.type "BaseException") = some true := by k_is) (hd : PySem.W.hasDictIn K C = true := by k_is) (nf : PySem.W.findIn K (.ref C) f = some none := by k_is) : FldE K C f := ⟨⟨g1, g2, g3⟩, hd, nf⟩
theorem cls_of {c : Addr} (h : PySem.W.kitOne K (.ref C) (.ref c) = some true) (ne : C ≠ c) : PySem.W.kitCls K (.ref C) (.ref c) = some true := by
  unfold PySem.W.kitOne at h
  rw [if_neg (fun e => ne (by have := eq_of_beq e; cases this; rfl))] at h
  exact h
theorem own_mk (a : PySem.W.plainGet K C Str.empty = true := by k_is) (b : PySem.W.hasDictIn K C = true := by k_is) (c : PySem.W.plainOver K C = true := by k_is) (d : PySem.W.findIn K (.ref C) "__setattr__" = some (some (.builtin "object.__setattr__")) := by k_is)
    (e : PySem.W.findIn K (.ref C) "__class__" = some (some (.builtin "object.__class__")) := by k_is) (f : PySem.W.specialIn K (.builtin "object.__class__") "__get__" = some (some (.builtin "getset_descriptor.__get__")) := by k_is) (g : PySem.W.takesIn K (.builtin "object.__class__") = some true := by k_is) (h : PySem.W.mroIn K C (.type "object") = some true := by k_is) : OwnTy K C := ⟨⟨a, b, c, d⟩, e, f, g, h⟩
def KitR0 (K : PySem.W.Frag) (C : Addr) (cs : List (Addr × Bool)) : Prop := ∀ p ∈ cs, PySem.W.kitOne K (.ref C) (.ref p.1) = some p.2
theorem kind_of {cs : List Addr} {bs : List Bool} (h : KitR0 K C (cs.zip bs)) : ∀ (i : Nat) (c : Addr) (b : Bool), cs[i]? = some c → bs[i]? = some b → PySem.W.kitOne K (.ref C) (.ref c) = some b := fun i c b h1 h2 => h (c, b) (by
  have : (cs.zip bs)[i]? = some (c, b) := by rw [List.getElem?_zip_eq_some]; exact ⟨h1, h2⟩
  exact List.mem_of_getElem? this)
def NoF (K : PySem.W.Frag) (C : Addr) : Prop := ∀ f ∈ (["value", "name", "part", "sign", "one", "other", "truth", "first", "head", "rest"] : List Str), NoAttr K C f
theorem nof_mk (h0 : PySem.W.findIn K (.ref C) "value" = some none := by k_is) (h1 : PySem.W.findIn K (.ref C) "name" = some none := by k_is) (h2 : PySem.W.findIn K (.ref C) "part" = some none := by k_is) (h3 : PySem.W.findIn K (.ref C) "sign" = some none := by k_is) (h4 : PySem.W.findIn K (.ref C) "one" = some none := by k_is) (h5 : PySem.W.findIn K (.ref C) "other" = some none := by k_is) (h6 : PySem.W.findIn K (.ref C) "truth" = some none := by k_is) (h7 : PySem.W.findIn K (.ref C) "first" = some none := by k_is) (h8 : PySem.W.findIn K (.ref C) "head" = some none := by k_is) (h9 : PySem.W.findIn K (.ref C) "rest" = some none := by k_is) : NoF K C := by
  unfold NoF
  simp only [List.mem_cons, List.not_mem_nil, or_false, forall_eq_or_imp, forall_eq]
  exact ⟨h0, h1, h2, h3, h4, h5, h6, h7, h8, h9⟩
def KitR (K : PySem.W.Frag) (C : Addr) (cs : List (Addr × Bool)) : Prop := ∀ p ∈ cs, PySem.W.kitOne K (.ref C) (.ref p.1) = some p.2
theorem kr_nil : KitR K C [] := fun p h => nomatch h
theorem kr_cons {c : Addr} {b : Bool} {cs : List (Addr × Bool)} (r : KitR K C cs) (e : PySem.W.kitOne K (.ref C) (.ref c) = some b := by kit_is) : KitR K C ((c, b) :: cs) := fun p m => by
  rcases List.mem_cons.mp m with rfl | m
  · exact e
  · exact r p m
theorem gi_mk {i : Int} {t : Tok} (X : K.In h) (G : h.Ns mainGlobals mg) (e : PySem.W.nsIn K mainGlobals x = some (some (.int i t))) : GI mg x i := ⟨⟨t, PySem.W.mg_of X G e⟩⟩
theorem gs_mk {y : Str} {t : Tok} (X : K.In h) (G : h.Ns mainGlobals mg) (e : PySem.W.nsIn K mainGlobals x = some (some (.str y t))) : GD K mg x (.str y) := ⟨⟨.str y, .str y t, PySem.W.mg_of X G e, ⟨_, rfl⟩, fun _ => .str y⟩⟩
def TupK (K : PySem.W.Frag) (t : Addr) (ds : List D) : Prop := ∀ H, Dv K H (.ref t) (.tup ds)
theorem tup_mk {t : Addr} {its : Array Value} {n : Nat} (vs : List V) {ds : List D} (l : K.lookup t = some ⟨.type "tuple", od, .seq its n, sl⟩) (z : its.size ≤ 1000) (v : Vals vs its.toList) (d : ∀ H, Dvs K H vs ds) : TupK K t ds :=
  fun H => .tup (.inr ⟨_, its, n, l, rfl, rfl, Nat.le_of_lt (small1000 z), v⟩) (d H)
theorem gt_mk {t : Addr} {ds : List D} (X : K.In h) (G : h.Ns mainGlobals mg) (e : PySem.W.nsIn K mainGlobals x = some (some (.ref t))) (l : TupK K t ds) : GD K mg x (.tup ds) := ⟨⟨.ref t, .ref t, PySem.W.mg_of X G e, rfl, l⟩⟩
theorem kt_mk {s : Addr} {es : Array DictEntry} {n : Nat} {kvs : List (Str × V)} {tab : List (Str × D)} (X : K.In h) (G : h.Ns mainGlobals mg) (e : PySem.W.nsIn K mainGlobals x = some (some (.ref s))) (l : K.lookup s = some ⟨.type "dict", none, .dict es n, #[]⟩) (hk : PySem.W.KeysLit w.params es.toList)
    (he : Ents kvs es.toList) (sys : (s == sysModules) = false) (t : Tb K kvs tab) : KTd w K mg x s tab := ⟨PySem.W.mg_of X G e, kvs, ⟨⟨es, n, l, hk, he⟩, sys⟩, t⟩
theorem ents_ref {y : Str} {t : Tok} {r : Addr} {en : DictEntry} {kvs : List (Str × V)} {es : List DictEntry} (hk : en.key = .str y t) (hv : en.val = .ref r) (q : Ents kvs es) : Ents ((y, .ref r) :: kvs) (en :: es) := .cons hk hv q
theorem dvs_strs' (ws : List Str) : ∀ H, Dvs K H (ws.map V.str) (ws.map D.str) := fun _ => dvs_strs ws
end
theorem b_Before___init__ : BindD "__init__" "Before.__init__" s_Before___init__ ["self", "part", "first"] := fun K T ob v n ho hs _ _ _ _ _ _ s us X hl => match us, hl with | [_, _, _], _ => PySem.W.binds_K X rfl ho hs rfl rfl
theorem bn_Before___init__ : BindD1 "__init__" "Before.__init__" s_Before___init__ ["self", "part", "first"] := fun K T ob v n ho hs _ _ _ _ _ _ s us X hl => match us, (show us.length = 2 by simp only [List.length_append, List.length_cons, List.length_nil] at hl; omega) with | [_, _], _ => PySem.W.binds_K X rfl ho hs rfl rfl
theorem b_Held___init__ : BindD "__init__" "Held.__init__" s_Held___init__ ["self", "part", "name", "first"] := fun K T ob v n ho hs _ _ _ _ _ _ s us X hl => match us, hl with | [_, _, _, _], _ => PySem.W.binds_K X rfl ho hs rfl rfl
theorem bn_Held___init__ : BindD1 "__init__" "Held.__init__" s_Held___init__ ["self", "part", "name", "first"] := fun K T ob v n ho hs _ _ _ _ _ _ s us X hl => match us, (show us.length = 3 by simp only [List.length_append, List.length_cons, List.length_nil] at hl; omega) with | [_, _, _], _ => PySem.W.binds_K X rfl ho hs rfl rfl
/-- the law's promise over values -/
def spLaw (K : PySem.W.Frag) : Sp := fun vs H Q _ => ∃ (q : Addr) (ns : List Int), vs = [.ref q] ∧ SqL K H q (ns.map V.int) ∧ ns.length ≤ 63 ∧ ∀ H', Q (.bl true) H'
theorem dvs_ints {K : PySem.W.Frag} {H : Hp} : ∀ ns : List Int, Dvs K H (ns.map V.int) (ns.map D.int)
  | [] => .nil
  | n :: ns => .cons (.int n) (dvs_ints ns)
section
variable {P : Program} {w : World} {K : PySem.W.Frag} {mg : Str → Option Value} {base : Heap} {A : Adr} {ea : EA} {j k : Nat} {x : Str} {ps : List Str}
theorem CalX_up {sx : SpX} (c : CalX P w K mg base j x ps sx) (h : j ≤ k) : CalX P w K mg base k x ps sx := ⟨let ⟨f, fd, F, r⟩ := c.ex; ⟨f, fd, F.mono h, r⟩, c.ms⟩
theorem CalU_up {sd : SpD} (c : CalU P w K mg base j x ps sd) (h : j ≤ k) : CalU P w K mg base k x ps sd := ⟨let ⟨f, fd, F, r⟩ := c.ex; ⟨f, fd, ⟨F.len, fun A outer s H args us vs Q E hr => F.run A outer s H args us vs Q E (hr.mono h)⟩, r⟩, c.ms⟩
theorem neverX {st : Stmt} {sx : SpX} (d : Df K mg x st ps) (h : ∀ ds Q R, ¬ sx ds Q R) : CalX P w K mg base j x ps sx := by
  obtain ⟨f, fd, F, m, b⟩ := d.ex
  exact ⟨⟨f, fd, ⟨fun vs H Q E ⟨ds, _, q⟩ => (h _ _ _ q).elim, fun A outer s H args us vs Q E _ _ _ _ ⟨ds, _, q⟩ => (h _ _ _ q).elim⟩, m, F.kp, b⟩, fun ds P P' R R' g _ q => (h _ _ _ q).elim⟩
theorem to0 {f : Addr} {fd : FuncData} {sp sp' : Sp} (F : FnOk P w K mg base (CXD P w) k f fd ps sp) (h : ∀ vs H Q E, sp' vs H Q E → sp vs H Q fun _ _ _ => False) : FnOk P w K mg base CX0 k f fd ps sp' := by
  refine ⟨fun vs H Q E q => F.len _ _ _ _ (h _ _ _ _ q), fun A outer s H args us vs Q E hr he hb hv q => codeAny_mono (F.run A outer s H args us vs Q _ hr he hb hv (h _ _ _ _ q)) fun r s' z => ?_⟩
  cases r with
  | error e => obtain ⟨_, _, _, _, _, _, _, _, _, _, _, _, _, z⟩ := z; exact z
  | ok fl =>
    cases fl with
    | ret u => exact z
    | next => exact z
    | brk => exact z
    | cont => exact z
theorem part_all (d : Df K mg "part_of" s_part_of ["told"]) (kd : Cal P w K mg base 2 "many_within" ["told"] (sdT fun p => .int p.kids.length)) (c1 : Cal P w K mg base 1 "has_shape" ["told"] (sdT fun p => .bl (!p.isPair)))
    (c2 : CalX P w K mg base 16 "plain_by" ["told", "inner"] (sxBy A ea true)) (c3 : CalX P w K mg base 16 "timed_by" ["told", "inner"] (sxBy A ea false))
    (k : MkrX P w K mg base 14 "Pair" A.pair (sxPair A ea 11) []) :
    ∀ n, CalX P w K mg base (n + 16) "part_of" ["told"] (sxPart A ea n)
  | 0 => neverX d fun ds Q R ⟨p, _, _, h, _⟩ => absurd p.depth_pos (by omega)
  | n + 1 => part_step (m := n) (by omega) d (kd.up (by omega)) (c1.up (by omega)) (part_all d kd c1 c2 c3 k n) (by omega) (CalX_up c2 (by omega)) (CalX_up c3 (by omega)) k
end
theorem all_ok {w : World} {K : PySem.W.Frag} {h : Heap} {mg : Str → Option Value} {a1 a2 a3 a4 a5 a6 a7 a8 a9 b1 b2 b3 b4 b5 b6 b7 b8 b9 b10 b11 br sa sb : Addr} (X : K.In h) (G : h.Ns mainGlobals mg)
    (e1 : PySem.W.nsIn K mainGlobals "Given" = some (some (.ref a1)))
    (e2 : PySem.W.nsIn K mainGlobals "Named" = some (some (.ref a2)))
    (e3 : PySem.W.nsIn K mainGlobals "Turned" = some (some (.ref a3)))
    (e4 : PySem.W.nsIn K mainGlobals "Pair" = some (some (.ref a4)))
    (e5 : PySem.W.nsIn K mainGlobals "Choice" = some (some (.ref a5)))
    (e6 : PySem.W.nsIn K mainGlobals "Before" = some (some (.ref a6)))
    (e7 : PySem.W.nsIn K mainGlobals "Led" = some (some (.ref a7)))
    (e8 : PySem.W.nsIn K mainGlobals "When" = some (some (.ref a8)))
    (e9 : PySem.W.nsIn K mainGlobals "Held" = some (some (.ref a9)))
    (x1 : PySem.W.nsIn K mainGlobals "NoPart" = some (some (.ref b1)))
    (x2 : PySem.W.nsIn K mainGlobals "NoName" = some (some (.ref b2)))
    (x3 : PySem.W.nsIn K mainGlobals "NoText" = some (some (.ref b3)))
    (x4 : PySem.W.nsIn K mainGlobals "NoSheet" = some (some (.ref b4)))
    (x5 : PySem.W.nsIn K mainGlobals "NoKind" = some (some (.ref b5)))
    (x6 : PySem.W.nsIn K mainGlobals "NoBeat" = some (some (.ref b6)))
    (x7 : PySem.W.nsIn K mainGlobals "Ring" = some (some (.ref b7)))
    (x8 : PySem.W.nsIn K mainGlobals "NoInput" = some (some (.ref b8)))
    (x9 : PySem.W.nsIn K mainGlobals "NoState" = some (some (.ref b9)))
    (x10 : PySem.W.nsIn K mainGlobals "NoClaim" = some (some (.ref b10)))
    (x11 : PySem.W.nsIn K mainGlobals "TooMany" = some (some (.ref b11)))
    (xr : PySem.W.nsIn K mainGlobals "RowError" = some (some (.ref br)))
    (nd : [a1, a2, a3, a4, a5, a6, a7, a8, a9].Nodup)
    (o1 : OwnTy K a1)
    (n1 : NoF K a1)
    (m1_inner : Dm0 K a1 "inner" "Part.inner" s_Part_inner)
    (m1_size : Dm0 K a1 "size" "Part.size" s_Part_size)
    (m1_depth : Dm0 K a1 "depth" "Part.depth" s_Part_depth)
    (m1_need_bounds : Dm0 K a1 "need_bounds" "Part.need_bounds" s_Part_need_bounds)
    (i1 : Di K mg "Given" a1 "Given.__init__" s_Given___init__ ["self", "value"] [])
    (o2 : OwnTy K a2)
    (n2 : NoF K a2)
    (m2_inner : Dm0 K a2 "inner" "Part.inner" s_Part_inner)
    (m2_size : Dm0 K a2 "size" "Part.size" s_Part_size)
    (m2_depth : Dm0 K a2 "depth" "Part.depth" s_Part_depth)
    (m2_need_bounds : Dm0 K a2 "need_bounds" "Part.need_bounds" s_Part_need_bounds)
    (i2 : Di K mg "Named" a2 "Named.__init__" s_Named___init__ ["self", "name"] [])
    (o3 : OwnTy K a3)
    (n3 : NoF K a3)
    (m3_inner : Dm0 K a3 "inner" "Turned.inner" s_Turned_inner)
    (m3_size : Dm0 K a3 "size" "Part.size" s_Part_size)
    (m3_depth : Dm0 K a3 "depth" "Part.depth" s_Part_depth)
    (m3_need_bounds : Dm0 K a3 "need_bounds" "Part.need_bounds" s_Part_need_bounds)
    (i3 : Di K mg "Turned" a3 "Turned.__init__" s_Turned___init__ ["self", "part"] [])
    (o4 : OwnTy K a4)
    (n4 : NoF K a4)
    (m4_inner : Dm0 K a4 "inner" "Pair.inner" s_Pair_inner)
    (m4_size : Dm0 K a4 "size" "Part.size" s_Part_size)
    (m4_depth : Dm0 K a4 "depth" "Part.depth" s_Part_depth)
    (m4_need_bounds : Dm0 K a4 "need_bounds" "Part.need_bounds" s_Part_need_bounds)
    (i4 : Di K mg "Pair" a4 "Pair.__init__" s_Pair___init__ ["self", "sign", "one", "other"] [])
    (o5 : OwnTy K a5)
    (n5 : NoF K a5)
    (m5_inner : Dm0 K a5 "inner" "Choice.inner" s_Choice_inner)
    (m5_size : Dm0 K a5 "size" "Part.size" s_Part_size)
    (m5_depth : Dm0 K a5 "depth" "Part.depth" s_Part_depth)
    (m5_need_bounds : Dm0 K a5 "need_bounds" "Part.need_bounds" s_Part_need_bounds)
    (i5 : Di K mg "Choice" a5 "Choice.__init__" s_Choice___init__ ["self", "truth", "one", "other"] [])
    (o6 : OwnTy K a6)
    (n6 : NoF K a6)
    (m6_inner : Dm0 K a6 "inner" "Before.inner" s_Before_inner)
    (m6_size : Dm0 K a6 "size" "Part.size" s_Part_size)
    (m6_depth : Dm0 K a6 "depth" "Part.depth" s_Part_depth)
    (m6_need_bounds : Dm0 K a6 "need_bounds" "Part.need_bounds" s_Part_need_bounds)
    (i6 : Di K mg "Before" a6 "Before.__init__" s_Before___init__ ["self", "part", "first"] [])
    (j6 : Di K mg "Before" a6 "Before.__init__" s_Before___init__ ["self", "part", "first"] [.non])
    (o7 : OwnTy K a7)
    (n7 : NoF K a7)
    (m7_inner : Dm0 K a7 "inner" "Led.inner" s_Led_inner)
    (m7_size : Dm0 K a7 "size" "Part.size" s_Part_size)
    (m7_depth : Dm0 K a7 "depth" "Part.depth" s_Part_depth)
    (m7_need_bounds : Dm0 K a7 "need_bounds" "Part.need_bounds" s_Part_need_bounds)
    (i7 : Di K mg "Led" a7 "Led.__init__" s_Led___init__ ["self", "head", "rest"] [])
    (o8 : OwnTy K a8)
    (n8 : NoF K a8)
    (m8_inner : Dm0 K a8 "inner" "When.inner" s_When_inner)
    (m8_size : Dm0 K a8 "size" "Part.size" s_Part_size)
    (m8_depth : Dm0 K a8 "depth" "Part.depth" s_Part_depth)
    (m8_need_bounds : Dm0 K a8 "need_bounds" "Part.need_bounds" s_Part_need_bounds)
    (i8 : Di K mg "When" a8 "When.__init__" s_When___init__ ["self", "part", "name"] [])
    (o9 : OwnTy K a9)
    (n9 : NoF K a9)
    (m9_inner : Dm0 K a9 "inner" "Held.inner" s_Held_inner)
    (m9_size : Dm0 K a9 "size" "Part.size" s_Part_size)
    (m9_depth : Dm0 K a9 "depth" "Part.depth" s_Part_depth)
    (m9_need_bounds : Dm0 K a9 "need_bounds" "Part.need_bounds" s_Part_need_bounds)
    (i9 : Di K mg "Held" a9 "Held.__init__" s_Held___init__ ["self", "part", "name", "first"] [])
    (j9 : Di K mg "Held" a9 "Held.__init__" s_Held___init__ ["self", "part", "name", "first"] [.non])
    (m2_told : Dm0 K a2 "told" "Named.told" s_Named_told)
    (ee1 : PySem.W.excIn K b1 [.type "ValueError", .type "Exception", .type "BaseException", .type "object"] "ValueError.__new__" = true)
    (ty1 : ExcTy K b1)
    (kt1 : KitR K b1 [(b1, true), (b2, false), (b3, false), (b4, false), (b5, false), (b6, false), (b7, false), (b8, false), (b9, false), (b10, false), (b11, false)])
    (ve1 : PySem.W.kitOne K (.ref b1) (.type "ValueError") = some true)
    (re1 : PySem.W.kitOne K (.ref b1) (.ref br) = some true)
    (ne1 : b1 ≠ br)
    (ee2 : PySem.W.excIn K b2 [.type "ValueError", .type "Exception", .type "BaseException", .type "object"] "ValueError.__new__" = true)
    (ty2 : ExcTy K b2)
    (kt2 : KitR K b2 [(b1, false), (b2, true), (b3, false), (b4, false), (b5, false), (b6, false), (b7, false), (b8, false), (b9, false), (b10, false), (b11, false)])
    (ve2 : PySem.W.kitOne K (.ref b2) (.type "ValueError") = some true)
    (re2 : PySem.W.kitOne K (.ref b2) (.ref br) = some true)
    (ne2 : b2 ≠ br)
    (be : PySem.W.mroIn K br (.type "BaseException") = some true)
    (de3 : DE K mg "NoText" b3 "NoText.__init__" s_NoText___init__ ["self", "row"])
    (fe3_row : FldE K b3 "row")
    (de5 : DE K mg "NoKind" b5 "NoKind.__init__" s_NoKind___init__ ["self", "row", "place"])
    (fe5_row : FldE K b5 "row")
    (fe5_place : FldE K b5 "place")
    (de6 : DE K mg "NoBeat" b6 "NoBeat.__init__" s_NoBeat___init__ ["self", "row", "place", "one", "other"])
    (fe6_row : FldE K b6 "row")
    (fe6_place : FldE K b6 "place")
    (fe6_one : FldE K b6 "one")
    (fe6_other : FldE K b6 "other")
    (de7 : DE K mg "Ring" b7 "Ring.__init__" s_Ring___init__ ["self", "ring"])
    (fe7_ring : FldE K b7 "ring")
    (d_has_letters : Df K mg "has_letters" s_has_letters ["text"])
    (d_has_word_form : Df K mg "has_word_form" s_has_word_form ["text"])
    (d_is_word : Df K mg "is_word" s_is_word ["thing"])
    (d_is_name : Df K mg "is_name" s_is_name ["thing"])
    (d_is_number : Df K mg "is_number" s_is_number ["thing"])
    (d_is_value : Df K mg "is_value" s_is_value ["thing"])
    (d_need_name : Df K mg "need_name" s_need_name ["name"])
    (d_need_first : Df K mg "need_first" s_need_first ["first"])
    (d_has_shape : Df K mg "has_shape" s_has_shape ["told"])
    (d_many_within : Df K mg "many_within" s_many_within ["told"])
    (d_plain_by : Df K mg "plain_by" s_plain_by ["told", "inner"])
    (d_timed_by : Df K mg "timed_by" s_timed_by ["told", "inner"])
    (d_part_of : Df K mg "part_of" s_part_of ["told"])
    (d__law_cell_at : Df K mg "_law_cell_at" s__law_cell_at ["_law_script", "_law_k"])
    (d__law_mixed : Df K mg "_law_mixed" s__law_mixed ["_law_cell", "_law_k"])
    (d__law_whole : Df K mg "_law_whole" s__law_whole ["_law_found"])
    (d__law_kinds : Df K mg "_law_kinds" s__law_kinds ["_law_e"])
    (d__law_chain : Df K mg "_law_chain" s__law_chain ["_law_size"])
    (d__law_wide : Df K mg "_law_wide" s__law_wide ["_law_size"])
    (d__law_made : Df K mg "_law_made" s__law_made ["_law_way", "_law_thing_here", "_law_cell"])
    (d__law_thing : Df K mg "_law_thing" s__law_thing ["_law_way", "_law_mix"])
    (d__law_value : Df K mg "_law_value" s__law_value ["_law_thing_here"])
    (d__law_due : Df K mg "_law_due" s__law_due ["_law_way", "_law_thing_here", "_law_cell"])
    (d__law_leaf : Df K mg "_law_leaf" s__law_leaf ["_law_cell"])
    (d__law_two : Df K mg "_law_two" s__law_two ["_law_cell"])
    (d__law_two_right : Df K mg "_law_two_right" s__law_two_right ["_law_cell"])
    (d__law_deep_right : Df K mg "_law_deep_right" s__law_deep_right ["_law_cell"])
    (d__law_tried : Df K mg "_law_tried" s__law_tried ["_law_way", "_law_thing_here", "_law_cell"])
    (g_LONGEST_WORD : GI mg "LONGEST_WORD" 8)
    (g_MOST_WORDS : GI mg "MOST_WORDS" 4)
    (g_LOWEST : GI mg "LOWEST" (-128))
    (g_HIGHEST : GI mg "HIGHEST" 127)
    (g_DEEPEST : GI mg "DEEPEST" 10)
    (g_LARGEST : GI mg "LARGEST" 40)
    (g_LETTERS : GD K mg "LETTERS" (.str letters))
    (g_KEPT : GD K mg "KEPT_WORDS" (.tup (keptL.map D.str)))
    (k_SHAPES : KTd w K mg "SHAPES" sa shapesT)
    (k_SIGNS : KTd w K mg "SIGNS" sb signsT)
    (z_isinstance : PySem.W.nsIn K mainGlobals "isinstance" = some none)
    (z_bool : PySem.W.nsIn K mainGlobals "bool" = some none)
    (z_int : PySem.W.nsIn K mainGlobals "int" = some none)
    (z_len : PySem.W.nsIn K mainGlobals "len" = some none)
    (z_all : PySem.W.nsIn K mainGlobals "all" = some none)
    (z_sum : PySem.W.nsIn K mainGlobals "sum" = some none)
    (z_max : PySem.W.nsIn K mainGlobals "max" = some none)
    (z_range : PySem.W.nsIn K mainGlobals "range" = some none)
    (z_min : PySem.W.nsIn K mainGlobals "min" = some none)
    (z_ValueError : PySem.W.nsIn K mainGlobals "ValueError" = some none)
    (P : Program) (base : Heap) (f : Addr) (fd : FuncData) (F : Fun K "law" "law" s_law f fd) : FnOk P w K mg base CX0 26 f fd ["_law_script"] (spLaw K) := by
  have c1 := o1.cl
  have c2 := o2.cl
  have c3 := o3.cl
  have c4 := o4.cl
  have c5 := o5.cl
  have c6 := o6.cl
  have c7 := o7.cl
  have c8 := o8.cl
  have c9 := o9.cl
  have y_isinstance := PySem.W.mg_none_of X G z_isinstance
  have y_bool := PySem.W.mg_none_of X G z_bool
  have y_int := PySem.W.mg_none_of X G z_int
  have y_len := PySem.W.mg_none_of X G z_len
  have y_all := PySem.W.mg_none_of X G z_all
  have y_sum := PySem.W.mg_none_of X G z_sum
  have y_max := PySem.W.mg_none_of X G z_max
  have y_range := PySem.W.mg_none_of X G z_range
  have y_min := PySem.W.mg_none_of X G z_min
  have y_ValueError := PySem.W.mg_none_of X G z_ValueError
  have hA : AOk K (Adr.mk a1 a2 a3 a4 a5 a6 a7 a8 a9) := ⟨nd, ?_, ?_⟩
  rotate_left
  · simp only [List.mem_cons, List.not_mem_nil, or_false, forall_eq_or_imp, forall_eq]
    exact ⟨c1, c2, c3, c4, c5, c6, c7, c8, c9⟩
  · intro C hC f hf
    simp only [List.mem_cons, List.not_mem_nil, or_false] at hC
    rcases hC with rfl | rfl | rfl | rfl | rfl | rfl | rfl | rfl | rfl
    · exact n1 f hf
    · exact n2 f hf
    · exact n3 f hf
    · exact n4 f hf
    · exact n5 f hf
    · exact n6 f hf
    · exact n7 f hf
    · exact n8 f hf
    · exact n9 f hf
  have D_inner : DInner K (Adr.mk a1 a2 a3 a4 a5 a6 a7 a8 a9) := ⟨m1_inner.dm c1, m2_inner.dm c2, m3_inner.dm c3, m4_inner.dm c4, m5_inner.dm c5, m6_inner.dm c6, m7_inner.dm c7, m8_inner.dm c8, m9_inner.dm c9⟩
  have D_size : ∀ C, isP (Adr.mk a1 a2 a3 a4 a5 a6 a7 a8 a9) C → Dm K C "size" "Part.size" s_Part_size ["self"] := fun C ⟨p, e⟩ => by
    subst e
    cases p
    · exact m1_size.dm c1
    · exact m2_size.dm c2
    · exact m3_size.dm c3
    · exact m4_size.dm c4
    · exact m5_size.dm c5
    · exact m6_size.dm c6
    · exact m7_size.dm c7
    · exact m8_size.dm c8
    · exact m9_size.dm c9
  have D_depth : ∀ C, isP (Adr.mk a1 a2 a3 a4 a5 a6 a7 a8 a9) C → Dm K C "depth" "Part.depth" s_Part_depth ["self"] := fun C ⟨p, e⟩ => by
    subst e
    cases p
    · exact m1_depth.dm c1
    · exact m2_depth.dm c2
    · exact m3_depth.dm c3
    · exact m4_depth.dm c4
    · exact m5_depth.dm c5
    · exact m6_depth.dm c6
    · exact m7_depth.dm c7
    · exact m8_depth.dm c8
    · exact m9_depth.dm c9
  have D_need_bounds : ∀ C, isP (Adr.mk a1 a2 a3 a4 a5 a6 a7 a8 a9) C → Dm K C "need_bounds" "Part.need_bounds" s_Part_need_bounds ["self"] := fun C ⟨p, e⟩ => by
    subst e
    cases p
    · exact m1_need_bounds.dm c1
    · exact m2_need_bounds.dm c2
    · exact m3_need_bounds.dm c3
    · exact m4_need_bounds.dm c4
    · exact m5_need_bounds.dm c5
    · exact m6_need_bounds.dm c6
    · exact m7_need_bounds.dm c7
    · exact m8_need_bounds.dm c8
    · exact m9_need_bounds.dm c9
  have eo : EOk K mg (EA.mk b1 b2) := ⟨PySem.W.mg_of X G x1, PySem.W.mg_of X G x2, ee1, ee2⟩
  have ro : ROk K mg (EA.mk b1 b2) := ⟨⟨br, PySem.W.mg_of X G xr, fun k => by cases k; exact cls_of re1 ne1; exact cls_of re2 ne2, be⟩⟩
  have k11 : K11 K mg (EA.mk b1 b2) := ⟨⟨b3, b4, b5, b6, b7, b8, b9, b10, b11, PySem.W.mg_of X G x3, PySem.W.mg_of X G x4, PySem.W.mg_of X G x5, PySem.W.mg_of X G x6, PySem.W.mg_of X G x7, PySem.W.mg_of X G x8, PySem.W.mg_of X G x9, PySem.W.mg_of X G x10, PySem.W.mg_of X G x11, ⟨ty1, kind_of (cs := [b1, b2, b3, b4, b5, b6, b7, b8, b9, b10, b11]) (bs := partBs) kt1, ve1⟩, ⟨ty2, kind_of (cs := [b1, b2, b3, b4, b5, b6, b7, b8, b9, b10, b11]) (bs := nameBs) kt2, ve2⟩⟩⟩
  have fe : FE K (EC.mk b3 b5 b6 b7) := ⟨fe3_row, fe5_row, fe5_place, fe6_row, fe6_place, fe6_one, fe6_other, fe7_ring⟩
  have s1 := c_is_number (P := P) (w := w) (base := base) (j := 0) d_is_number y_isinstance y_bool y_int g_LOWEST g_HIGHEST
  have s2 := c_is_value d_is_value y_isinstance y_bool s1
  have s3 := cx_need_first d_need_first eo s2
  have w1 := c_has_letters (P := P) (w := w) (base := base) (j := 0) d_has_letters y_len y_all g_LETTERS
  have w2 := c_has_word_form d_has_word_form y_len g_LONGEST_WORD w1
  have w3 := c_is_word d_is_word g_KEPT w2
  have w4 := c_is_name d_is_name y_len y_all g_MOST_WORDS w3 (w2.up (by omega))
  have w5 := cx_need_name d_need_name eo w4
  have mSize := size_all (P := P) (w := w) (base := base) hA D_inner D_size y_sum 11
  have mDepth := depth_all (P := P) (w := w) (base := base) hA D_inner D_depth y_max 11
  have mB := bounds_X D_need_bounds eo mDepth mSize g_DEEPEST g_LARGEST
  have k1 := kx_given (j := 13) hA eo i1 (s2.up (by omega))
  have k2 := kx_named (j := 13) hA i2 (CalX_up w5 (by omega))
  have k3 := kx_turned (j := 13) hA i3 mB
  have k4 := kx_pair (j := 13) hA eo i4 k_SIGNS mB
  have k5 := kx_choice (j := 13) hA i5 mB
  have k6 := kx_before (j := 13) hA i6 (CalX_up s3 (by omega)) mB
  have k6n := kx_before (j := 13) hA j6 (CalX_up s3 (by omega)) mB
  have k7 := kx_led (j := 13) hA i7 mB
  have k8 := kx_when (j := 13) hA i8 (CalX_up w5 (by omega)) mB
  have k9 := kx_held (j := 13) hA i9 (CalX_up w5 (by omega)) (CalX_up s3 (by omega)) mB
  have k9n := kx_held (j := 13) hA j9 (CalX_up w5 (by omega)) (CalX_up s3 (by omega)) mB
  have p1 := c_has_shape (P := P) (base := base) (j := 0) d_has_shape y_len k_SHAPES
  have p2 := cx_plain_by (j := 15) d_plain_by (by omega) k1 k2 k3 k5
  have p3 := cx_timed_by (j := 15) d_timed_by (by omega) k6 k7 k8 k9
  have p0 := c_many_within d_many_within k_SHAPES p1
  have p4 := part_all d_part_of p0 p1 p2 p3 k4 3
  have l1 := c_mixed (P := P) (w := w) (base := base) (j := 0) d__law_mixed
  have l2 := c_cell (P := P) (w := w) (base := base) (j := 0) d__law_cell_at y_len
  have l3 := c_whole (P := P) (w := w) (base := base) (j := 0) d__law_whole y_isinstance y_bool y_int
  have l4 := c_lawvalue d__law_value y_isinstance y_bool l3
  have l5 := cu_kinds (P := P) (w := w) (base := base) (j := 0) d__law_kinds y_isinstance y_min y_ValueError eo k11
  have l6 := cx_chain (j := 15) (by omega) d__law_chain y_range k1 k3 k6n k8 k9
  have l7 := cx_wide (j := 15) (by omega) d__law_wide y_range y_len k1 k3 k4
  have l8 := cx_made (by omega) d__law_made k1 k2 k5 k6 k7 k8 k9 k9n k4 l6 l7
  have l9 := cx_tried d__law_tried ro l8 (CalU_up l5 (by omega))
  have l10 := c_thing (P := P) (w := w) (base := base) (j := 0) d__law_thing y_len
  have l11 := c_due (j := 4) d__law_due y_int w4 (l4.up (by omega))
  have l12 := c_leaf (P := P) (w := w) (base := base) (j := 0) d__law_leaf
  have l13 := c_two d__law_two l12
  have l14 := cx_two_right d__law_two_right ro (l13.up (by omega)) p4 (CalU_up l5 (by omega))
  have l15 := cx_deep_right (by omega) d__law_deep_right ro k9 k8 l6 (CalU_up l5 (by omega))
  have t2 := told_named (P := P) (w := w) (mg := mg) (base := base) (j := 0) (n := 0) hA (m2_told.dm c2)
  have R := ok_law (j := 25) (i := 14) (ec := EC.mk b3 b5 b6 b7) (by omega) F y_range (l2.up (by omega)) (l1.up (by omega)) (l10.up (by omega)) (l11.up (by omega)) (CalX_up l9 (by omega)) (CalX_up l14 (by omega)) (CalX_up l15 (by omega)) k2 (ke_text de3 fe3_row) (ke_kind de5 fe5_row fe5_place) (ke_beat de6 fe6_row fe6_place fe6_one fe6_other) (ke_ring de7 fe7_ring) fe (fun C e => by subst e; exact t2.up (by omega))
  exact to0 R fun vs H Q E ⟨q, ns, e, hS, hl, k⟩ => ⟨[.lst (ns.map D.int)], e ▸ .cons (.lst hS (dvs_ints ns)) .nil, ns, rfl, fun v H' dv => by cases dv; exact k H'⟩
theorem all_mk {l : PySem.W.OpenLaw} {w : World} {K : PySem.W.Frag} {h : Heap} {mg : Str → Option Value} {fa f1 : Addr} (X : K.In h) (G : h.Ns mainGlobals mg) (hfa : mg "law" = some (.ref fa))
    {od1 an1 : Option Addr} {sl1 : Array (Option Value)} {oc1 kV1 dc1 pm1 cd1 ct1 : Value}
    (la : PySem.W.nsIn K mainGlobals "law" = some (some (.ref f1))) (ll : K.lookup f1 = some ⟨oc1, od1, .func (PySem.W.fnOf "law" "law" (defArgs s_law) (defBody s_law) (defScope s_law) .none kV1 dc1 pm1 an1 cd1 ct1), sl1⟩) (lc : PySem.W.codeIn K cd1 "law" = true) (lk : PySem.W.keepIn K (.ref f1) = true)
    (R : ∀ (P : Program) (base : Heap) (f : Addr) (fd : FuncData), Fun K "law" "law" s_law f fd → FnOk P w K mg base CX0 26 f fd ["_law_script"] (spLaw K))
    : ∃ fd : FuncData, (∀ (s : Shared) (v : Value), BindsTo s fd ⟨[v], []⟩ [("_law_script", v)]) ∧ ∀ base : Heap, K.In base → base.Ns mainGlobals mg → FnOk l.prog w K mg base CX0 26 fa fd ["_law_script"] (spLaw K) := by
  have e := hfa.symm.trans (PySem.W.mg_of X G la)
  cases e
  exact ⟨PySem.W.fnOf "law" "law" (defArgs s_law) (defBody s_law) (defScope s_law) .none kV1 dc1 pm1 an1 cd1 ct1, fun s v => .of_eq rfl, fun base _ _ => R _ base _ _ (fun_mk (st := s_law) ll lc lk)⟩
theorem walk {l : PySem.W.OpenLaw} {q : Program} {loose : List Str} {XP : (Str → Option Value) → Heap → Prop} {YP : World → Heap → Prop} {d : DefRec} {K : Params → PySem.W.Frag} (hn : l.most = some 63) (hdf : d.params.defaults = [])
    (hY : ∀ (w : World) (h : Heap), YP w h → (K w.params).In h)
    (F : ∀ (w : World) (mg : Str → Option Value) (fa : Addr) (h : Heap), (K w.params).In h → h.Ns mainGlobals mg → mg d.name = some (.ref fa) →
      ∃ fd : FuncData, (∀ (s : Shared) (u : Value), BindsTo s fd ⟨[u], []⟩ [("_law_script", u)]) ∧ ∀ base : Heap, (K w.params).In base → base.Ns mainGlobals mg → FnOk l.prog w (K w.params) mg base CX0 26 fa fd ["_law_script"] (spLaw (K w.params))) :
    PySem.W.WalkO q loose XP YP l.row.toRowW d [] (fun f vs => PySem.call f vs) :=
  L2.walk_of (n := 63) (k := 26) (x := "_law_script") (CX := fun _ => CX0) (sp := fun w => spLaw (K w.params)) hn (by decide) hdf ⟨rfl, by decide, by decide⟩ hY F (fun _ _ a ns hl _ hS => ⟨a, ns, rfl, hS, hl, fun _ => rfl⟩) fun _ _ _ _ _ z => z
end K04
open PySem PySem.W PyProof.Rows
namespace PySem.W.Fast
def tw10030316920926597970 := 0
def tw10048227874064770895 := 0
def tw10067727168143697024 := 0
def tw10077632574483174028 := 0
def tw10087892306666787187 := 0
def tw10089092007941415197 := 0
def tw10098972355668289521 := 0
def tw10101270456081998226 := 0
def tw10110928955146028410 := 0
def tw10111139015677559127 := 0
def tw1011352249852997284 := 0
def tw10147185899109612469 := 0
def tw10159730306589404277 := 0
def tw1016952777751787257 := 0
def tw10185262238707522600 := 0
def tw10219842039104284018 := 0
def tw10233275563201503499 := 0
def tw10249516004619999663 := 0
def tw10271218657112216601 := 0
def tw10283363532706087821 := 0
def tw10387368359966720745 := 0
def tw10401824776383567311 := 0
def tw1041307386195740660 := 0
def tw10478667124465322682 := 0
def tw10479996081112049729 := 0
def tw10544444584294584852 := 0
def tw10546623029057580889 := 0
def tw10561203697048625703 := 0
def tw10571238027255331285 := 0
def tw1058561888309889631 := 0
def tw10627325718986381609 := 0
def tw10635427867738527316 := 0
def tw10635846649567930173 := 0
def tw10639258106897718758 := 0
def tw1064839110322792223 := 0
def tw10696113827616275353 := 0
def tw1070015044236381098 := 0
def tw10708053453719690056 := 0
def tw10714114944629380347 := 0
def tw1073944711764013101 := 0
def tw10749317565521375796 := 0
def tw10792649801867002013 := 0
def tw10814337649069342017 := 0
def tw10825290652083975554 := 0
def tw10844784680208166078 := 0
def tw10862596255702414702 := 0
def tw10874194843210784523 := 0
def tw10940153771847706824 := 0
def tw10943492456777844072 := 0
def tw10954117686467722490 := 0
def tw10967061208785271967 := 0
def tw10980619297203893327 := 0
def tw10981932434337523887 := 0
def tw10993984329387546696 := 0
def tw11055679890242919689 := 0
def tw11058277558448548095 := 0
def tw11093773250643359258 := 0
def tw11095294849243882601 := 0
def tw1109776068598128973 := 0
def tw11103435860790069137 := 0
def tw11119442654563354208 := 0
def tw11156520850578338509 := 0
def tw11163888958076744382 := 0
def tw11175465190252639305 := 0
def tw11179983113733590033 := 0
def tw11226549271824129171 := 0
def tw11231162466053394926 := 0
def tw11261157266660411845 := 0
def tw11265319824014818542 := 0
def tw11297176657225531650 := 0
def tw11304873546051986366 := 0
def tw11315849072948909394 := 0
def tw11319169497062144550 := 0
def tw11320540800650200719 := 0
def tw11369249091107005208 := 0
def tw1137007530599604861 := 0
def tw11397517264870615289 := 0
def tw11403428012498766522 := 0
def tw11414947481515957382 := 0
def tw11419557624502699994 := 0
def tw11437340360652397232 := 0
def tw11438443692027890412 := 0
def tw11438634037696120404 := 0
def tw11446354805599077157 := 0
def tw11459496238612376089 := 0
def tw11473987001351209608 := 0
def tw11500305623527612383 := 0
def tw11502494534610084421 := 0
def tw11516384412899103253 := 0
def tw11516526142407578991 := 0
def tw11517217283210647924 := 0
def tw11537441467263751509 := 0
def tw11539329688710839069 := 0
def tw11539372609948439328 := 0
def tw11574623586259338962 := 0
def tw11584847425412678734 := 0
def tw11600417602759429258 := 0
def tw11610895486175137780 := 0
def tw11615511967379496657 := 0
def tw1162429810875081399 := 0
def tw11640182873327085596 := 0
def tw11643233206018397061 := 0
def tw11650013125248882662 := 0
def tw11654129340534473671 := 0
def tw11773050323121788634 := 0
def tw11781147757031495 := 0
def tw11808017372259907831 := 0
def tw1181544467077649477 := 0
def tw11824942350639031087 := 0
def tw11845754260035414844 := 0
def tw1186597124004453277 := 0
def tw11876595546043717062 := 0
def tw11879976918507955828 := 0
def tw11881472772622838702 := 0
def tw11883555595294382222 := 0
def tw11921211246032557289 := 0
def tw11934721485813227776 := 0
def tw11964546558429465005 := 0
def tw11977060834409428599 := 0
def tw11985646238112725156 := 0
def tw11991562502228984591 := 0
def tw1202446199913495008 := 0
def tw12026552761662493460 := 0
def tw12029243347858461099 := 0
def tw12055181717058883098 := 0
def tw12073443927200117249 := 0
def tw12077272269936794361 := 0
def tw1208560839784527195 := 0
def tw12099783025538024729 := 0
def tw12126840568525364157 := 0
def tw12137682546642715721 := 0
def tw12138361604557276217 := 0
def tw12151591320534391128 := 0
def tw12207144092416052474 := 0
def tw12209938453916726335 := 0
def tw12249590761863040655 := 0
def tw12258415563393778214 := 0
def tw12264027020335416456 := 0
def tw12266324437093308772 := 0
def tw12282095727566367676 := 0
def tw12291468586492658262 := 0
def tw12291503592178277498 := 0
def tw12338571970473198779 := 0
def tw1234021288778614741 := 0
def tw12340215047280926101 := 0
def tw12358812605894851438 := 0
def tw12389621843427084474 := 0
def tw12412077463773442915 := 0
def tw12434701887658497885 := 0
def tw12443630483167156268 := 0
def tw12448774661978735149 := 0
def tw12463850566405903271 := 0
def tw12500377040319059838 := 0
def tw12521597109649235861 := 0
def tw12523347599987398908 := 0
def tw12554790820562085120 := 0
def tw12597372152864492214 := 0
def tw126317939762578478 := 0
def tw12661476934126773815 := 0
def tw12688711581708542208 := 0
def tw12690240338643152404 := 0
def tw12734336434295802883 := 0
def tw12738421631010467644 := 0
def tw1273939964759249155 := 0
def tw12755401692245082773 := 0
def tw12782423005137065831 := 0
def tw12802179622798431547 := 0
def tw12807348167014602569 := 0
def tw12817059864321274854 := 0
def tw12819386400200370142 := 0
def tw12827240714178680499 := 0
def tw12912995224703924409 := 0
def tw12947618924258061416 := 0
def tw12949115717653169674 := 0
def tw1296389918089346474 := 0
def tw12968371971042606346 := 0
def tw1298834598638497846 := 0
def tw1302279421859402740 := 0
def tw13025817391850360886 := 0
def tw13044362133264247321 := 0
def tw13049621244551230413 := 0
def tw13084048059266027634 := 0
def tw1308646565507426344 := 0
def tw13089127574267169312 := 0
def tw13090831258250928154 := 0
def tw13101138982077050771 := 0
def tw1312992541134213027 := 0
def tw13136348158966724318 := 0
def tw13153173206473269861 := 0
def tw13168124721643838121 := 0
def tw13178723308194114215 := 0
def tw13214734410055146973 := 0
def tw13257481132014436542 := 0
def tw13281368379624759442 := 0
def tw1329554442610032516 := 0
def tw13296139676085578686 := 0
def tw13307444213710154075 := 0
def tw13315506904303988551 := 0
def tw13338696990296338422 := 0
def tw13339395122951608025 := 0
def tw13405106911123537286 := 0
def tw13411548682392337280 := 0
def tw13437333928735945491 := 0
def tw13456058270601917868 := 0
def tw13519889346527548433 := 0
def tw13528687651023596122 := 0
def tw1356391139356676339 := 0
def tw13572579714299185501 := 0
def tw13582486815723452827 := 0
def tw13589828074416902523 := 0
def tw13628905886858803618 := 0
def tw1364240601650881648 := 0
def tw136450567718573710 := 0
def tw13645986361801865337 := 0
def tw13669670723128473687 := 0
def tw13674727004136985668 := 0
def tw13676247251803058993 := 0
def tw13705567865433147323 := 0
def tw13726697614900802756 := 0
def tw13749695398560373540 := 0
def tw13772687496578947921 := 0
def tw1377806729937951549 := 0
def tw13833043748867035816 := 0
def tw13833543199428976864 := 0
def tw13864696083408155894 := 0
def tw13897258459009720681 := 0
def tw13944673423071942121 := 0
def tw13958896496067993845 := 0
def tw13981504743993706382 := 0
def tw14016409675048789876 := 0
def tw14026760328566186619 := 0
def tw1402761959650185495 := 0
def tw14038293400664021037 := 0
def tw14044171627933983187 := 0
def tw14047522890813151181 := 0
def tw14050539849808955038 := 0
def tw14067221844717077770 := 0
def tw14075703378469183556 := 0
def tw14087121249263518670 := 0
def tw14151858619002376904 := 0
def tw14206925591584296426 := 0
def tw14221283041321248294 := 0
def tw1425707000954894436 := 0
def tw14274811662358525365 := 0
def tw14288026888129055786 := 0
def tw14320483726091656081 := 0
def tw14340020157899644399 := 0
def tw14379544181258500881 := 0
def tw14385121686867239811 := 0
def tw14391854980119850890 := 0
def tw14396301829108655706 := 0
def tw14405637553536224386 := 0
def tw14416164897469250742 := 0
def tw1442889185511734668 := 0
def tw14437664167818669002 := 0
def tw14450914031053498913 := 0
def tw1446087044751139150 := 0
def tw14465404675335646961 := 0
def tw14474280479163214058 := 0
def tw14484983033957901316 := 0
def tw14532390536568395262 := 0
def tw14569048795895419016 := 0
def tw14598591876140240239 := 0
def tw14605631934247747199 := 0
def tw1461177351023976560 := 0
def tw14614977414926703133 := 0
def tw14616079141645701199 := 0
def tw14660809013379529844 := 0
def tw14667523328783420914 := 0
def tw14695399063116589402 := 0
def tw14697937040060415132 := 0
def tw14698436409896228120 := 0
def tw14701916620521174314 := 0
def tw14702309973540942416 := 0
def tw14730991816057611625 := 0
def tw14737138607347544582 := 0
def tw14753470255525226277 := 0
def tw14769018358887134618 := 0
def tw14776373191611379103 := 0
def tw1478851843171626391 := 0
def tw14826889068514511543 := 0
def tw1483339669676465344 := 0
def tw14850761944839096804 := 0
def tw14853179277982868536 := 0
def tw14921446667919237150 := 0
def tw14940314685598796154 := 0
def tw14954285385502339939 := 0
def tw14967837695735027919 := 0
def tw14981205558821093409 := 0
def tw14987201306505810552 := 0
def tw14989356330693631998 := 0
def tw14989551288197046805 := 0
def tw15039396984310034630 := 0
def tw15043052976947822389 := 0
def tw15044353521696097023 := 0
def tw15054104273977077837 := 0
def tw15102229757335974864 := 0
def tw15119508173519699867 := 0
def tw15159749667845118596 := 0
def tw15163436996984970292 := 0
def tw15187159063707165877 := 0
def tw15201663743993772751 := 0
def tw15217886436209627097 := 0
def tw15236528819707852461 := 0
def tw152471930929721012 := 0
def tw15260575715712372451 := 0
def tw1526360853566790245 := 0
def tw15322547717063161814 := 0
def tw15335081062688343247 := 0
def tw15340820142082678823 := 0
def tw15378972091998008702 := 0
def tw15415720696911250236 := 0
def tw15440028407789169137 := 0
def tw15440070093483267099 := 0
def tw15450437906830943292 := 0
def tw15515850620289177971 := 0
def tw15564643141184598584 := 0
def tw15587762452835977883 := 0
def tw15622299693027825959 := 0
def tw15654969174932617982 := 0
def tw15700153954917388960 := 0
def tw15719889967018248104 := 0
def tw15731698455699478042 := 0
def tw15741413127810168811 := 0
def tw15747420305107087382 := 0
def tw15750039057842830342 := 0
def tw15761162682586841590 := 0
def tw15765691570456143867 := 0
def tw15766988501337023551 := 0
def tw15779754932646686806 := 0
def tw15794729806517005899 := 0
def tw15796456650310370953 := 0
def tw1579811405942840796 := 0
def tw1580553557337040240 := 0
def tw15821530442641383523 := 0
def tw1586276615164046954 := 0
def tw15878727763797193818 := 0
def tw15885382780845174942 := 0
def tw1588641531621220346 := 0
def tw15887613533682210380 := 0
def tw15897981802370336417 := 0
def tw15903436879238932176 := 0
def tw15909100212321350752 := 0
def tw15912749167635060540 := 0
def tw15927798659006061515 := 0
def tw15945781589956165 := 0
def tw15946121977755108748 := 0
def tw15959832894521005309 := 0
def tw15981730406621729978 := 0
def tw1598253343305575930 := 0
def tw15986272275055572157 := 0
def tw15988514634742958931 := 0
def tw16001913823299105618 := 0
def tw1601385352406436281 := 0
def tw16025509304290026963 := 0
def tw16026503118055750451 := 0
def tw1603169301171795500 := 0
def tw16044373587411513058 := 0
def tw1605051827510346583 := 0
def tw16057261161834953351 := 0
def tw16070665992132985232 := 0
def tw16182420235755068246 := 0
def tw16207727332492587663 := 0
def tw16208064818412930255 := 0
def tw16227401255183079773 := 0
def tw16278001545999361111 := 0
def tw16294986353195720207 := 0
def tw16299945394017993241 := 0
def tw16309648546310683031 := 0
def tw16328746108366728693 := 0
def tw1635212987582112167 := 0
def tw16376730568164407881 := 0
def tw1637977058227862123 := 0
def tw16382606836354981540 := 0
def tw16401332850648150965 := 0
def tw16406436157618553475 := 0
def tw16406855034794262335 := 0
def tw16410316303004291044 := 0
def tw16410819317006481403 := 0
def tw16433362188697043587 := 0
def tw16449961515293736502 := 0
def tw16475587958506255097 := 0
def tw16516786244289387322 := 0
def tw16537792443499481857 := 0
def tw16543089362523496737 := 0
def tw16554693750876414422 := 0
def tw16566224913500901921 := 0
def tw16575193014455518940 := 0
def tw16586034708250793347 := 0
def tw16590743497705317549 := 0
def tw16606879133600251988 := 0
def tw16614484020774131317 := 0
def tw16657408534204146406 := 0
def tw1667137671303912857 := 0
def tw16674613248048265617 := 0
def tw16679614968969543842 := 0
def tw16687605513407384325 := 0
def tw16702683877267879235 := 0
def tw16704166887792631176 := 0
def tw16728013874682039064 := 0
def tw16732371594049656318 := 0
def tw16739148388550375634 := 0
def tw16740743548114295023 := 0
def tw16772573294695069611 := 0
def tw16793823561806976816 := 0
def tw16825408062131916136 := 0
def tw16833602731803240845 := 0
def tw16841819129964835255 := 0
def tw16862166190282285592 := 0
def tw16867780242406494020 := 0
def tw16870611607782225915 := 0
def tw16876038946749691390 := 0
def tw1690105562409789578 := 0
def tw16904026801483437396 := 0
def tw16974863951025430468 := 0
def tw16985490491342137785 := 0
def tw17002346613992995663 := 0
def tw17006775327627295120 := 0
def tw17027280215897783558 := 0
def tw17040948619855430739 := 0
def tw17108963510468331322 := 0
def tw17113607061392526885 := 0
def tw17168688792952947831 := 0
def tw17177541070402429697 := 0
def tw17207554601001893762 := 0
def tw17208381683021644344 := 0
def tw17246087056953075543 := 0
def tw17260494406048206050 := 0
def tw17272105856419897813 := 0
def tw17283504559259332296 := 0
def tw17287460240358408521 := 0
def tw17297208554240194616 := 0
def tw17307943435880153129 := 0
def tw17331462905622474176 := 0
def tw1733408771203695527 := 0
def tw17351930015676704089 := 0
def tw1737164326587116130 := 0
def tw17373993566887989846 := 0
def tw17428310169617724081 := 0
def tw17447804336792832216 := 0
def tw17453562328653304974 := 0
def tw17456665148517061639 := 0
def tw17472226241205731630 := 0
def tw17489289851555647912 := 0
def tw17490847385496565189 := 0
def tw17498645874716515329 := 0
def tw17504107209814903508 := 0
def tw17569859768317662056 := 0
def tw17596883309489796137 := 0
def tw17604855059404247408 := 0
def tw17623210531249486782 := 0
def tw17631034955121204854 := 0
def tw1763692552370667184 := 0
def tw17640479363099357855 := 0
def tw17653707353137600459 := 0
def tw17706228445827144313 := 0
def tw17710804468272046119 := 0
def tw17714633229474151898 := 0
def tw1771660376841564848 := 0
def tw1774851702881628950 := 0
def tw17762925195283331286 := 0
def tw17780228136423376155 := 0
def tw17805623167045744699 := 0
def tw17810538107846189931 := 0
def tw17819663012008595908 := 0
def tw17842947322623466730 := 0
def tw17881338978631787507 := 0
def tw17950359881797700843 := 0
def tw17963592194702572940 := 0
def tw17977792466920637579 := 0
def tw17992542882422956905 := 0
def tw18013542005140858681 := 0
def tw18028196851336740929 := 0
def tw18045295234175506936 := 0
def tw18046799570262441168 := 0
def tw18050631262193842624 := 0
def tw18057017198583438662 := 0
def tw18061934084179209537 := 0
def tw18062469430327818984 := 0
def tw18079267586076200528 := 0
def tw18098728790069503726 := 0
def tw18103754957196541366 := 0
def tw18122402775056153115 := 0
def tw18122914711506181953 := 0
def tw18169829660143256395 := 0
def tw18204968139697918941 := 0
def tw18207523552323692249 := 0
def tw18212874128079984782 := 0
def tw18242920503488419590 := 0
def tw18250454739357434223 := 0
def tw18252779529820150984 := 0
def tw18276664181978648887 := 0
def tw18322252837372584 := 0
def tw1832773824157752565 := 0
def tw1834553011500431462 := 0
def tw18366081538359648993 := 0
def tw18370219914190522785 := 0
def tw18372502020567530497 := 0
def tw18380863349129365423 := 0
def tw1838513618812705556 := 0
def tw18396252410844740649 := 0
def tw18418891615981085490 := 0
def tw18423655399658824479 := 0
def tw1849112584513172199 := 0
def tw1887182520046674351 := 0
def tw1944085689930444947 := 0
def tw1959474122847711953 := 0
def tw1972304868216824707 := 0
def tw1994191878162915420 := 0
def tw2001014136895818192 := 0
def tw2031504078375514269 := 0
def tw2046854742841219136 := 0
def tw2049778977862011031 := 0
def tw2058309224672546013 := 0
def tw2112306940303254511 := 0
def tw2117697583169368061 := 0
def tw2130718817174579925 := 0
def tw2140409084186963193 := 0
def tw2159035036676938122 := 0
def tw2160644050035426936 := 0
def tw2175904938896766186 := 0
def tw2188489680223648818 := 0
def tw2202712062183565604 := 0
def tw2252657959609600386 := 0
def tw2286382987015644910 := 0
def tw2295052362304006967 := 0
def tw2320069275388191736 := 0
def tw2339493715063266458 := 0
def tw2357453417056557979 := 0
def tw2362303526172759040 := 0
def tw2378402206187868652 := 0
def tw2386096759491349721 := 0
def tw2426170057281024577 := 0
def tw2429619622147546973 := 0
def tw2473341972201957316 := 0
def tw2475842768062655191 := 0
def tw2504883038943792634 := 0
def tw2539744728248214748 := 0
def tw2555430836695460172 := 0
def tw2558799857262131483 := 0
def tw2558819927868257765 := 0
def tw2604796569995163240 := 0
def tw2626139834054591307 := 0
def tw2634913148383461826 := 0
def tw2655293957585427565 := 0
def tw2685875966694644515 := 0
def tw2689186838339828030 := 0
def tw2693154113184826099 := 0
def tw2706397805886053656 := 0
def tw2707684788867105756 := 0
def tw275525125288140663 := 0
def tw2762097251014201925 := 0
def tw2790971728244830014 := 0
def tw2837211504643905831 := 0
def tw2848219918055150309 := 0
def tw2921808226151635065 := 0
def tw2922604920040545795 := 0
def tw2925148040571799048 := 0
def tw2928393270805530487 := 0
def tw2930143163278246505 := 0
def tw2940535765543515655 := 0
def tw2947971631965669759 := 0
def tw2960405826274394747 := 0
def tw297807589590675957 := 0
def tw2987590005939413528 := 0
def tw3004642659477611212 := 0
def tw3006843612572949548 := 0
def tw3014516246983973741 := 0
def tw3022613362197808366 := 0
def tw3049746135533616645 := 0
def tw3056338609377886346 := 0
def tw3057402954844936078 := 0
def tw3076317260840716568 := 0
def tw3118946065975884010 := 0
def tw3145995870149498288 := 0
def tw3147612324394741821 := 0
def tw3160091260664882671 := 0
def tw3184147887237406961 := 0
def tw3194776484609129353 := 0
def tw3194790930280676534 := 0
def tw3217960831590591803 := 0
def tw3222828126913502523 := 0
def tw3234461441513193405 := 0
def tw3234779820891409408 := 0
def tw3247593590415921422 := 0
def tw3278380595702927187 := 0
def tw3279563317945093030 := 0
def tw3285947505480321596 := 0
def tw3295406745163779784 := 0
def tw3332835071326300616 := 0
def tw3354219216859948362 := 0
def tw3361866063081725093 := 0
def tw3374284486660989326 := 0
def tw33801918761380248 := 0
def tw3383291605523040017 := 0
def tw3402122050754789376 := 0
def tw3408789118197461890 := 0
def tw3426162342867710527 := 0
def tw3446180599661919389 := 0
def tw3474959783356011041 := 0
def tw3502673274273803444 := 0
def tw3508674190014226499 := 0
def tw3510349802291790880 := 0
def tw3548272915007040376 := 0
def tw3558055109144466364 := 0
def tw3571457837689335299 := 0
def tw3592556281233031803 := 0
def tw3607610787067863005 := 0
def tw3630977376589662533 := 0
def tw3642807901659780962 := 0
def tw3646607688939092630 := 0
def tw3649337048802994986 := 0
def tw3656481818044834082 := 0
def tw3688414610178327294 := 0
def tw3695272701008705137 := 0
def tw3702333583905553086 := 0
def tw3703749906654195202 := 0
def tw3728657503028104077 := 0
def tw3731132719128728547 := 0
def tw3733018152613438948 := 0
def tw3741819979004271307 := 0
def tw3759314638009157411 := 0
def tw378088209957672602 := 0
def tw3801534553009313880 := 0
def tw3813309885235813734 := 0
def tw381549581529068512 := 0
def tw383176949603682947 := 0
def tw3869841191221540865 := 0
def tw3902996448356319348 := 0
def tw3911022668559591328 := 0
def tw394758766165326189 := 0
def tw3949550734995119066 := 0
def tw3973487141493111698 := 0
def tw3978752557020169351 := 0
def tw3983621806046386894 := 0
def tw3990050871532953240 := 0
def tw3992447187987872750 := 0
def tw4076874619231342140 := 0
def tw4100567280179522427 := 0
def tw4109807610686257375 := 0
def tw4142893069504583242 := 0
def tw4146044767879136731 := 0
def tw417132674001496749 := 0
def tw4171369667175382083 := 0
def tw4175061074052835119 := 0
def tw4214874038240284677 := 0
def tw4245191494224102302 := 0
def tw4255997519019840721 := 0
def tw4266004271383285276 := 0
def tw4278902040039958235 := 0
def tw4295926999469833886 := 0
def tw4311329514426847076 := 0
def tw433223388467894684 := 0
def tw4350415061233459359 := 0
def tw4356933727149174444 := 0
def tw4357981484141145768 := 0
def tw4359885130229837558 := 0
def tw4403007381898653567 := 0
def tw4404870030437899867 := 0
def tw4409585983689112925 := 0
def tw4448521739670031075 := 0
def tw4490441477736554506 := 0
def tw4503474727226373519 := 0
def tw4504829384257613580 := 0
def tw4517159944284341865 := 0
def tw4519317209293973620 := 0
def tw4550225947686684114 := 0
def tw4565829117430169901 := 0
def tw4569888405807108176 := 0
def tw457115474829622550 := 0
def tw4574198368313082602 := 0
def tw4589642009404170734 := 0
def tw4628082528361672299 := 0
def tw4644142857154596802 := 0
def tw4667290138049369682 := 0
def tw4672147119443668579 := 0
def tw4705297786523307159 := 0
def tw4713022843248697737 := 0
def tw4742664469626119383 := 0
def tw4753362350734862716 := 0
def tw4775148500238137484 := 0
def tw4799827518795425768 := 0
def tw4810341580104445517 := 0
def tw4823453396239412106 := 0
def tw482734050467142063 := 0
def tw4842138707544022390 := 0
def tw4859324727712880084 := 0
def tw4886507685923198659 := 0
def tw4906244916517371384 := 0
def tw4913964819892332980 := 0
def tw4920198002896317442 := 0
def tw4927154955897591260 := 0
def tw4949657166457453370 := 0
def tw4958538681496005731 := 0
def tw4978858431274086585 := 0
def tw4986218292583787515 := 0
def tw503157443102436487 := 0
def tw5057446586506890851 := 0
def tw5073794249911468607 := 0
def tw5098051122074963113 := 0
def tw5111220771094684005 := 0
def tw5119089986780059916 := 0
def tw511980859016671199 := 0
def tw5124278549470587417 := 0
def tw5160788652200744583 := 0
def tw5161694105144417312 := 0
def tw5162258811852648992 := 0
def tw5164560748483198111 := 0
def tw5166448617821475268 := 0
def tw5171822495934583881 := 0
def tw5181215202791298571 := 0
def tw5202829463797913649 := 0
def tw5207433724992013079 := 0
def tw5217264843509238881 := 0
def tw5217274482587505252 := 0
def tw5225962546229318600 := 0
def tw5232128669082573557 := 0
def tw5263063047713475425 := 0
def tw5265041592980242551 := 0
def tw5277528056790070185 := 0
def tw5281608007595089818 := 0
def tw530101620379383360 := 0
def tw5303155929040126426 := 0
def tw5324781350126839677 := 0
def tw5332263986407695939 := 0
def tw5337907236016410959 := 0
def tw5347168607123962506 := 0
def tw5357138649112332249 := 0
def tw5377518314193892243 := 0
def tw5424134795147562319 := 0
def tw5475401174947576015 := 0
def tw5476197750256550256 := 0
def tw5481531569322015092 := 0
def tw5529584022870984746 := 0
def tw5533546813242665691 := 0
def tw555142760938865216 := 0
def tw5560248223568033777 := 0
def tw5572396329368636218 := 0
def tw5575009234455753866 := 0
def tw5576381598131105913 := 0
def tw558704348796308199 := 0
def tw5596242785775810308 := 0
def tw5602420652262758201 := 0
def tw5607838722896634736 := 0
def tw5627355963649913997 := 0
def tw5651957216180143313 := 0
def tw567213045926426342 := 0
def tw5720908394659234566 := 0
def tw572718858870307642 := 0
def tw5752515011611001565 := 0
def tw5762339003723318057 := 0
def tw5762646540699325629 := 0
def tw5763217208651795455 := 0
def tw5765108274290572086 := 0
def tw5802184109463263867 := 0
def tw5854953508647401250 := 0
def tw5918706457188708385 := 0
def tw5928577207806736855 := 0
def tw5949971343528030699 := 0
def tw5959412649599717052 := 0
def tw5984255382093783785 := 0
def tw5995058254563267417 := 0
def tw6012348788113147282 := 0
def tw6013869568072924009 := 0
def tw6028328975466894934 := 0
def tw6088255471845402810 := 0
def tw6090608167559776111 := 0
def tw6129726980488716475 := 0
def tw6131746657872573359 := 0
def tw6138607249566702620 := 0
def tw6147250088767571055 := 0
def tw6152834655778521153 := 0
def tw6155592127079024006 := 0
def tw6161242583743229297 := 0
def tw6202723423233008120 := 0
def tw6209533230575160459 := 0
def tw6216374849469138064 := 0
def tw6221663760200978251 := 0
def tw6228274149557437760 := 0
def tw6229702190243277684 := 0
def tw6231662458541470315 := 0
def tw62396193103520846 := 0
def tw6260108774184555512 := 0
def tw6291636594362283828 := 0
def tw6313429336144616099 := 0
def tw6314199234823471674 := 0
def tw6340466807204499729 := 0
def tw6349245703863694747 := 0
def tw6359778141281013928 := 0
def tw6368756456005827098 := 0
def tw6374742083066184983 := 0
def tw6395574682791374749 := 0
def tw6423873184957897588 := 0
def tw6432434981682131704 := 0
def tw6459142437986177702 := 0
def tw6466673073072701823 := 0
def tw6471282445356307182 := 0
def tw6474195676741163195 := 0
def tw6477372105584757736 := 0
def tw6509351865999839654 := 0
def tw6521685560748785619 := 0
def tw6522477227776021999 := 0
def tw6524364931159190081 := 0
def tw6527004907168098026 := 0
def tw6564093326958785120 := 0
def tw6579784087383163949 := 0
def tw6590427752321691621 := 0
def tw6591621655234197562 := 0
def tw6619180794452841569 := 0
def tw6659601331347965693 := 0
def tw6664273676305385990 := 0
def tw6675750714886855143 := 0
def tw6689368561551407179 := 0
def tw6707245179157289299 := 0
def tw6709790290477754936 := 0
def tw6727966944197766402 := 0
def tw6734295960204246434 := 0
def tw6774295560802228948 := 0
def tw6774549142091854850 := 0
def tw6791039339898063295 := 0
def tw679441105887847109 := 0
def tw6799852378917258855 := 0
def tw6800669294706608195 := 0
def tw680918813158340194 := 0
def tw6813103069099094296 := 0
def tw6814290663246360913 := 0
def tw6828849894704958888 := 0
def tw6857915852504757956 := 0
def tw6860421466379719460 := 0
def tw6873442223665151090 := 0
def tw6880573866392979182 := 0
def tw6897952989767849592 := 0
def tw6916134345546560478 := 0
def tw6917035889272983042 := 0
def tw6922580343946014819 := 0
def tw6923274171788722679 := 0
def tw6924173134299797771 := 0
def tw6978732734250768816 := 0
def tw6997364256168299087 := 0
def tw701183197288856974 := 0
def tw7044227039231986045 := 0
def tw7048555071907741775 := 0
def tw7055260637072308520 := 0
def tw7075776446496673856 := 0
def tw7103779627316291961 := 0
def tw7115805033489869945 := 0
def tw712213125506565605 := 0
def tw7127058457047361160 := 0
def tw7129163261266124515 := 0
def tw7135379500251255861 := 0
def tw7147369158506037766 := 0
def tw7149097023142351567 := 0
def tw71506799432432835 := 0
def tw7157337207665230881 := 0
def tw7194588312234094239 := 0
def tw7212414218459241873 := 0
def tw7223613917919191295 := 0
def tw7227571497414091091 := 0
def tw7236250505585625413 := 0
def tw7261680564967214889 := 0
def tw7264260100215901792 := 0
def tw7305748364583385195 := 0
def tw733275988358704308 := 0
def tw7336127646001429769 := 0
def tw7351410987708697193 := 0
def tw7355856350306413184 := 0
def tw7358224700405234767 := 0
def tw7366629221315919756 := 0
def tw7370679435238210141 := 0
def tw737334372146018263 := 0
def tw7379292706455525982 := 0
def tw7387905295826621317 := 0
def tw7397598957058416632 := 0
def tw7430200113039660172 := 0
def tw7445769186316351455 := 0
def tw7457457627779446350 := 0
def tw7491201990200276047 := 0
def tw7509158626931450655 := 0
def tw7536180878405630132 := 0
def tw7550302440098570124 := 0
def tw7612559940295311154 := 0
def tw7631914691433873689 := 0
def tw7633539545891893000 := 0
def tw7685486391557057928 := 0
def tw7688555675930628796 := 0
def tw770209550949168149 := 0
def tw7751878397957908675 := 0
def tw7761634561422933412 := 0
def tw7769523068722444721 := 0
def tw7826957172601092670 := 0
def tw7834791908006896064 := 0
def tw7848234391493030627 := 0
def tw7860430481347287598 := 0
def tw7863815292371248304 := 0
def tw7869750075275910022 := 0
def tw7871932010568257911 := 0
def tw7943422085000409264 := 0
def tw7948225196378328895 := 0
def tw7964820715353343026 := 0
def tw7970617133525835367 := 0
def tw7992556781673242876 := 0
def tw8014938446665136879 := 0
def tw8046658010198817293 := 0
def tw8099103998757607264 := 0
def tw8117253735510981988 := 0
def tw8118171461546411143 := 0
def tw812400865263438910 := 0
def tw813891164649614984 := 0
def tw8140980939267887780 := 0
def tw8172767303986143728 := 0
def tw817422994505227449 := 0
def tw818073242127514788 := 0
def tw8190368960169577090 := 0
def tw8197536204967909316 := 0
def tw8198550822331210745 := 0
def tw8202916836483899199 := 0
def tw8226775710488515342 := 0
def tw822679554228032480 := 0
def tw8231870488747154159 := 0
def tw8238174684111962960 := 0
def tw8241836815061823921 := 0
def tw8243422322463985524 := 0
def tw824777998221939092 := 0
def tw8255141898607534072 := 0
def tw82679282754547181 := 0
def tw8268370842902328734 := 0
def tw8274838166731841902 := 0
def tw828619652356398265 := 0
def tw8324982583973582954 := 0
def tw8340021064199520817 := 0
def tw834055606838082429 := 0
def tw8381031838818700952 := 0
def tw8393294486803892897 := 0
def tw8402765187440868184 := 0
def tw8461093071078210057 := 0
def tw8522122895028395305 := 0
def tw8572433913374580948 := 0
def tw8573019866509961880 := 0
def tw8636632454615167778 := 0
def tw8654100507099905521 := 0
def tw8659180309780163745 := 0
def tw8660189350179365339 := 0
def tw866571981223550461 := 0
def tw8667065940845934597 := 0
def tw8668323205135093763 := 0
def tw8669167688041997164 := 0
def tw8672074942899191426 := 0
def tw8701538916159093071 := 0
def tw8717616352850055214 := 0
def tw8717672411562238217 := 0
def tw8724769441645448909 := 0
def tw8737533699974605816 := 0
def tw8748147455676982791 := 0
def tw8773343433135663861 := 0
def tw8773515853649928375 := 0
def tw8857194814010215437 := 0
def tw8868250670726740458 := 0
def tw889577964193569918 := 0
def tw8907924423191912759 := 0
def tw8926148479828241442 := 0
def tw8931406061438198006 := 0
def tw8945736109537765120 := 0
def tw8954614744238019016 := 0
def tw895686580907889938 := 0
def tw8965584844150837933 := 0
def tw8969637262617690846 := 0
def tw8983824634194283477 := 0
def tw899616811402978700 := 0
def tw8999693627280027333 := 0
def tw9011159971472848860 := 0
def tw9024768815933233786 := 0
def tw9030811880302854319 := 0
def tw9036088337316584712 := 0
def tw9054710000429579900 := 0
def tw9061758879659382073 := 0
def tw9074829207311018167 := 0
def tw9081417361163630266 := 0
def tw9086039135259808172 := 0
def tw9103812146829265348 := 0
def tw9107297162426682315 := 0
def tw9109735853993572797 := 0
def tw9120212428853746821 := 0
def tw9136071273149820174 := 0
def tw9142023888885579722 := 0
def tw9148245569415977720 := 0
def tw9168617196104549280 := 0
def tw9179359749338743988 := 0
def tw9237423184197502416 := 0
def tw9263498082064432290 := 0
def tw9302230148974429758 := 0
def tw9309119880467225661 := 0
def tw9336149894970363311 := 0
def tw9338885433584360253 := 0
def tw9339750088369231785 := 0
def tw9345656827567322753 := 0
def tw9388723341048164426 := 0
def tw9388780823492593838 := 0
def tw9404620461117243205 := 0
def tw9440430790771475281 := 0
def tw9446487173667532209 := 0
def tw9448453440388031489 := 0
def tw9455949762529705921 := 0
def tw9459137150337475855 := 0
def tw9468803135761780794 := 0
def tw9481998316991262013 := 0
def tw9545229055790748227 := 0
def tw9552283556330383218 := 0
def tw9615511296474016159 := 0
def tw961668035718768057 := 0
def tw9618290889130072970 := 0
def tw9619379793883786883 := 0
def tw9624429270603819698 := 0
def tw9647224932702325611 := 0
def tw967283391381704546 := 0
def tw968274543493013455 := 0
def tw968489585871673191 := 0
def tw9698833352823708141 := 0
def tw972443177827242198 := 0
def tw9731140749894068056 := 0
def tw9735359183547964864 := 0
def tw9773922078492254499 := 0
def tw9775116829989084953 := 0
def tw9788544429048468374 := 0
def tw9816210282968535695 := 0
def tw9840155527443979284 := 0
def tw9882445894048156213 := 0
def tw9898224743854976850 := 0
def tw9903956554417439312 := 0
def tw9936226785151651799 := 0
def tw9961435040786806833 := 0
def tw9970307387332933160 := 0
def tw9976406326092464872 := 0
end PySem.W.Fast
set_option maxRecDepth 100000 in
set_option maxHeartbeats 0 in
theorem PySem.Challenge.cw_runrows_k04_what_makes_none_holds : PySem.Challenge.rw_runrows_k04_what_makes_none.Holds := by
  w_on; o_law; k_head; (case hw => w_witness2)
  k_fill
  refine K04.walk (l := PySem.Challenge.rw_runrows_k04_what_makes_none) rfl rfl (fun w h Y => PySem.W.kIn_of Y) ?F
  case F =>
    intro w mg fa h KX G hmg
    refine' K04.all_mk KX G hmg ?la ?ll ?lc ?lk (K04.all_ok KX G ?e1 ?e2 ?e3 ?e4 ?e5 ?e6 ?e7 ?e8 ?e9 ?x1 ?x2 ?x3 ?x4 ?x5 ?x6 ?x7 ?x8 ?x9 ?x10 ?x11 ?xr ?nd ?o1 ?n1 ?m1_inner ?m1_size ?m1_depth ?m1_need_bounds ?i1 ?o2 ?n2 ?m2_inner ?m2_size ?m2_depth ?m2_need_bounds ?i2 ?o3 ?n3 ?m3_inner ?m3_size ?m3_depth ?m3_need_bounds ?i3 ?o4 ?n4 ?m4_inner ?m4_size ?m4_depth ?m4_need_bounds ?i4 ?o5 ?n5 ?m5_inner ?m5_size ?m5_depth ?m5_need_bounds ?i5 ?o6 ?n6 ?m6_inner ?m6_size ?m6_depth ?m6_need_bounds ?i6 ?j6 ?o7 ?n7 ?m7_inner ?m7_size ?m7_depth ?m7_need_bounds ?i7 ?o8 ?n8 ?m8_inner ?m8_size ?m8_depth ?m8_need_bounds ?i8 ?o9 ?n9 ?m9_inner ?m9_size ?m9_depth ?m9_need_bounds ?i9 ?j9 ?m2_told ?ee1 ?ty1 ?kt1 ?ve1 ?re1 ?ne1 ?ee2 ?ty2 ?kt2 ?ve2 ?re2 ?ne2 ?be ?de3 ?fe3_row ?de5 ?fe5_row ?fe5_place ?de6 ?fe6_row ?fe6_place ?fe6_one ?fe6_other ?de7 ?fe7_ring ?d_has_letters ?d_has_word_form ?d_is_word ?d_is_name ?d_is_number ?d_is_value ?d_need_name ?d_need_first ?d_has_shape ?d_many_within ?d_plain_by ?d_timed_by ?d_part_of ?d__law_cell_at ?d__law_mixed ?d__law_whole ?d__law_kinds ?d__law_chain ?d__law_wide ?d__law_made ?d__law_thing ?d__law_value ?d__law_due ?d__law_leaf ?d__law_two ?d__law_two_right ?d__law_deep_right ?d__law_tried ?g_LONGEST_WORD ?g_MOST_WORDS ?g_LOWEST ?g_HIGHEST ?g_DEEPEST ?g_LARGEST ?g_LETTERS ?g_KEPT ?k_SHAPES ?k_SIGNS ?z_isinstance ?z_bool ?z_int ?z_len ?z_all ?z_sum ?z_max ?z_range ?z_min ?z_ValueError)
    (case la => k_is)
    (case ll => k_is)
    (case lc => k_is)
    (case lk => k_is)
    (case e1 => k_is)
    (case e2 => k_is)
    (case e3 => k_is)
    (case e4 => k_is)
    (case e5 => k_is)
    (case e6 => k_is)
    (case e7 => k_is)
    (case e8 => k_is)
    (case e9 => k_is)
    (case x1 => k_is)
    (case x2 => k_is)
    (case x3 => k_is)
    (case x4 => k_is)
    (case x5 => k_is)
    (case x6 => k_is)
    (case x7 => k_is)
    (case x8 => k_is)
    (case x9 => k_is)
    (case x10 => k_is)
    (case x11 => k_is)
    (case xr => k_is)
    (case nd => decide)
    (case o1 => exact K04.own_mk)
    (case n1 => exact K04.nof_mk)
    (case m1_inner => exact K04.dm_mk)
    (case m1_size => exact K04.dm_mk)
    (case m1_depth => exact K04.dm_mk)
    (case m1_need_bounds => exact K04.dm_mk)
    (case i1 => exact K04.di_mk KX G)
    (case o2 => exact K04.own_mk)
    (case n2 => exact K04.nof_mk)
    (case m2_inner => exact K04.dm_mk)
    (case m2_size => exact K04.dm_mk)
    (case m2_depth => exact K04.dm_mk)
    (case m2_need_bounds => exact K04.dm_mk)
    (case i2 => exact K04.di_mk KX G)
    (case o3 => exact K04.own_mk)
    (case n3 => exact K04.nof_mk)
    (case m3_inner => exact K04.dm_mk)
    (case m3_size => exact K04.dm_mk)
    (case m3_depth => exact K04.dm_mk)
    (case m3_need_bounds => exact K04.dm_mk)
    (case i3 => exact K04.di_mk KX G)
    (case o4 => exact K04.own_mk)
    (case n4 => exact K04.nof_mk)
    (case m4_inner => exact K04.dm_mk)
    (case m4_size => exact K04.dm_mk)
    (case m4_depth => exact K04.dm_mk)
    (case m4_need_bounds => exact K04.dm_mk)
    (case i4 => exact K04.di_mk KX G)
    (case o5 => exact K04.own_mk)
    (case n5 => exact K04.nof_mk)
    (case m5_inner => exact K04.dm_mk)
    (case m5_size => exact K04.dm_mk)
    (case m5_depth => exact K04.dm_mk)
    (case m5_need_bounds => exact K04.dm_mk)
    (case i5 => exact K04.di_mk KX G)
    (case o6 => exact K04.own_mk)
    (case n6 => exact K04.nof_mk)
    (case m6_inner => exact K04.dm_mk)
    (case m6_size => exact K04.dm_mk)
    (case m6_depth => exact K04.dm_mk)
    (case m6_need_bounds => exact K04.dm_mk)
    (case i6 => exact K04.di_mkD KX G K04.b_Before___init__)
    (case j6 => exact K04.di_mkN KX G K04.bn_Before___init__)
    (case o7 => exact K04.own_mk)
    (case n7 => exact K04.nof_mk)
    (case m7_inner => exact K04.dm_mk)
    (case m7_size => exact K04.dm_mk)
    (case m7_depth => exact K04.dm_mk)
    (case m7_need_bounds => exact K04.dm_mk)
    (case i7 => exact K04.di_mk KX G)
    (case o8 => exact K04.own_mk)
    (case n8 => exact K04.nof_mk)
    (case m8_inner => exact K04.dm_mk)
    (case m8_size => exact K04.dm_mk)
    (case m8_depth => exact K04.dm_mk)
    (case m8_need_bounds => exact K04.dm_mk)
    (case i8 => exact K04.di_mk KX G)
    (case o9 => exact K04.own_mk)
    (case n9 => exact K04.nof_mk)
    (case m9_inner => exact K04.dm_mk)
    (case m9_size => exact K04.dm_mk)
    (case m9_depth => exact K04.dm_mk)
    (case m9_need_bounds => exact K04.dm_mk)
    (case i9 => exact K04.di_mkD KX G K04.b_Held___init__)
    (case j9 => exact K04.di_mkN KX G K04.bn_Held___init__)
    (case m2_told => exact K04.dm_mk)
    (case ee1 => k_exc)
    (case ty1 => exact K04.ety_mk)
    (case kt1 => exact K04.kr_cons (K04.kr_cons (K04.kr_cons (K04.kr_cons (K04.kr_cons (K04.kr_cons (K04.kr_cons (K04.kr_cons (K04.kr_cons (K04.kr_cons (K04.kr_cons (K04.kr_nil))))))))))))
    (case ve1 => kit_is)
    (case re1 => kit_is)
    (case ne1 => decide)
    (case ee2 => k_exc)
    (case ty2 => exact K04.ety_mk)
    (case kt2 => exact K04.kr_cons (K04.kr_cons (K04.kr_cons (K04.kr_cons (K04.kr_cons (K04.kr_cons (K04.kr_cons (K04.kr_cons (K04.kr_cons (K04.kr_cons (K04.kr_cons (K04.kr_nil))))))))))))
    (case ve2 => kit_is)
    (case re2 => kit_is)
    (case ne2 => decide)
    (case be => k_is)
    (case de3 => exact K04.de_mk KX G)
    (case fe3_row => exact K04.fld_mk)
    (case de5 => exact K04.de_mk KX G)
    (case fe5_row => exact K04.fld_mk)
    (case fe5_place => exact K04.fld_mk)
    (case de6 => exact K04.de_mk KX G)
    (case fe6_row => exact K04.fld_mk)
    (case fe6_place => exact K04.fld_mk)
    (case fe6_one => exact K04.fld_mk)
    (case fe6_other => exact K04.fld_mk)
    (case de7 => exact K04.de_mk KX G)
    (case fe7_ring => exact K04.fld_mk)
    (case d_has_letters => exact K04.df_mk KX G)
    (case d_has_word_form => exact K04.df_mk KX G)
    (case d_is_word => exact K04.df_mk KX G)
    (case d_is_name => exact K04.df_mk KX G)
    (case d_is_number => exact K04.df_mk KX G)
    (case d_is_value => exact K04.df_mk KX G)
    (case d_need_name => exact K04.df_mk KX G)
    (case d_need_first => exact K04.df_mk KX G)
    (case d_has_shape => exact K04.df_mk KX G)
    (case d_many_within => exact K04.df_mk KX G)
    (case d_plain_by => exact K04.df_mk KX G)
    (case d_timed_by => exact K04.df_mk KX G)
    (case d_part_of => exact K04.df_mk KX G)
    (case d__law_cell_at => exact K04.df_mk KX G)
    (case d__law_mixed => exact K04.df_mk KX G)
    (case d__law_whole => exact K04.df_mk KX G)
    (case d__law_kinds => exact K04.df_mk KX G)
    (case d__law_chain => exact K04.df_mk KX G)
    (case d__law_wide => exact K04.df_mk KX G)
    (case d__law_made => exact K04.df_mk KX G)
    (case d__law_thing => exact K04.df_mk KX G)
    (case d__law_value => exact K04.df_mk KX G)
    (case d__law_due => exact K04.df_mk KX G)
    (case d__law_leaf => exact K04.df_mk KX G)
    (case d__law_two => exact K04.df_mk KX G)
    (case d__law_two_right => exact K04.df_mk KX G)
    (case d__law_deep_right => exact K04.df_mk KX G)
    (case d__law_tried => exact K04.df_mk KX G)
    (case g_LONGEST_WORD => exact K04.gi_mk KX G (by k_is))
    (case g_MOST_WORDS => exact K04.gi_mk KX G (by k_is))
    (case g_LOWEST => exact K04.gi_mk KX G (by k_is))
    (case g_HIGHEST => exact K04.gi_mk KX G (by k_is))
    (case g_DEEPEST => exact K04.gi_mk KX G (by k_is))
    (case g_LARGEST => exact K04.gi_mk KX G (by k_is))
    (case g_LETTERS => exact K04.gs_mk KX G (by k_is))
    (case g_KEPT => refine' K04.gt_mk KX G ?e (K04.tup_mk (K04.keptL.map L2.V.str) ?l ?z ?v (K04.dvs_strs' K04.keptL)); (case e => k_is); (case l => k_is); (case z => exact Nat.le_of_ble_eq_true rfl); (case v => exact (.cons ⟨_, rfl⟩ (.cons ⟨_, rfl⟩ (.cons ⟨_, rfl⟩ (.cons ⟨_, rfl⟩ (.cons ⟨_, rfl⟩ (.cons ⟨_, rfl⟩ (.cons ⟨_, rfl⟩ (.cons ⟨_, rfl⟩ (.cons ⟨_, rfl⟩ (.cons ⟨_, rfl⟩ (.cons ⟨_, rfl⟩ (.cons ⟨_, rfl⟩ (.cons ⟨_, rfl⟩ (.cons ⟨_, rfl⟩ (.cons ⟨_, rfl⟩ (.cons ⟨_, rfl⟩ (.cons ⟨_, rfl⟩ (.cons ⟨_, rfl⟩ (.cons ⟨_, rfl⟩ (.nil))))))))))))))))))))))
    (case k_SHAPES => refine' K04.kt_mk KX G ?e ?l ?k ?h ?s ?t; (case e => k_is); (case l => k_is); (case k => k_keys); (case h => exact (K04.ents_ref rfl rfl (K04.ents_ref rfl rfl (K04.ents_ref rfl rfl (K04.ents_ref rfl rfl (K04.ents_ref rfl rfl (K04.ents_ref rfl rfl (K04.ents_ref rfl rfl (K04.ents_ref rfl rfl (.nil)))))))))); (case s => exact rfl); (case t => refine' (.cons ?q0 (.cons ?q1 (.cons ?q2 (.cons ?q3 (.cons ?q4 (.cons ?q5 (.cons ?q6 (.cons ?q7 (.nil))))))))); (case q0 => refine' K04.tup_mk [(.int 2), (.int 0)] ?l ?z ?v ?d; (case l => k_is); (case z => exact Nat.le_of_ble_eq_true rfl); (case v => exact .cons ⟨_, rfl⟩ (.cons ⟨_, rfl⟩ .nil)); (case d => exact fun _ => .cons (.int _) (.cons (.int _) .nil))); (case q1 => refine' K04.tup_mk [(.int 2), (.int 0)] ?l ?z ?v ?d; (case l => k_is); (case z => exact Nat.le_of_ble_eq_true rfl); (case v => exact .cons ⟨_, rfl⟩ (.cons ⟨_, rfl⟩ .nil)); (case d => exact fun _ => .cons (.int _) (.cons (.int _) .nil))); (case q2 => refine' K04.tup_mk [(.int 2), (.int 1)] ?l ?z ?v ?d; (case l => k_is); (case z => exact Nat.le_of_ble_eq_true rfl); (case v => exact .cons ⟨_, rfl⟩ (.cons ⟨_, rfl⟩ .nil)); (case d => exact fun _ => .cons (.int _) (.cons (.int _) .nil))); (case q3 => refine' K04.tup_mk [(.int 4), (.int 3)] ?l ?z ?v ?d; (case l => k_is); (case z => exact Nat.le_of_ble_eq_true rfl); (case v => exact .cons ⟨_, rfl⟩ (.cons ⟨_, rfl⟩ .nil)); (case d => exact fun _ => .cons (.int _) (.cons (.int _) .nil))); (case q4 => refine' K04.tup_mk [(.int 3), (.int 1)] ?l ?z ?v ?d; (case l => k_is); (case z => exact Nat.le_of_ble_eq_true rfl); (case v => exact .cons ⟨_, rfl⟩ (.cons ⟨_, rfl⟩ .nil)); (case d => exact fun _ => .cons (.int _) (.cons (.int _) .nil))); (case q5 => refine' K04.tup_mk [(.int 3), (.int 2)] ?l ?z ?v ?d; (case l => k_is); (case z => exact Nat.le_of_ble_eq_true rfl); (case v => exact .cons ⟨_, rfl⟩ (.cons ⟨_, rfl⟩ .nil)); (case d => exact fun _ => .cons (.int _) (.cons (.int _) .nil))); (case q6 => refine' K04.tup_mk [(.int 3), (.int 1)] ?l ?z ?v ?d; (case l => k_is); (case z => exact Nat.le_of_ble_eq_true rfl); (case v => exact .cons ⟨_, rfl⟩ (.cons ⟨_, rfl⟩ .nil)); (case d => exact fun _ => .cons (.int _) (.cons (.int _) .nil))); (case q7 => refine' K04.tup_mk [(.int 4), (.int 1)] ?l ?z ?v ?d; (case l => k_is); (case z => exact Nat.le_of_ble_eq_true rfl); (case v => exact .cons ⟨_, rfl⟩ (.cons ⟨_, rfl⟩ .nil)); (case d => exact fun _ => .cons (.int _) (.cons (.int _) .nil)))))
    (case k_SIGNS => refine' K04.kt_mk KX G ?e ?l ?k ?h ?s ?t; (case e => k_is); (case l => k_is); (case k => k_keys); (case h => exact (K04.ents_ref rfl rfl (K04.ents_ref rfl rfl (K04.ents_ref rfl rfl (K04.ents_ref rfl rfl (K04.ents_ref rfl rfl (K04.ents_ref rfl rfl (K04.ents_ref rfl rfl (K04.ents_ref rfl rfl (.nil)))))))))); (case s => exact rfl); (case t => refine' (.cons ?q0 (.cons ?q1 (.cons ?q2 (.cons ?q3 (.cons ?q4 (.cons ?q5 (.cons ?q6 (.cons ?q7 (.nil))))))))); (case q0 => refine' K04.tup_mk [(.str "number"), (.str "number")] ?l ?z ?v ?d; (case l => k_is); (case z => exact Nat.le_of_ble_eq_true rfl); (case v => exact .cons ⟨_, rfl⟩ (.cons ⟨_, rfl⟩ .nil)); (case d => exact fun _ => .cons (.str _) (.cons (.str _) .nil))); (case q1 => refine' K04.tup_mk [(.str "number"), (.str "number")] ?l ?z ?v ?d; (case l => k_is); (case z => exact Nat.le_of_ble_eq_true rfl); (case v => exact .cons ⟨_, rfl⟩ (.cons ⟨_, rfl⟩ .nil)); (case d => exact fun _ => .cons (.str _) (.cons (.str _) .nil))); (case q2 => refine' K04.tup_mk [(.str "number"), (.str "number")] ?l ?z ?v ?d; (case l => k_is); (case z => exact Nat.le_of_ble_eq_true rfl); (case v => exact .cons ⟨_, rfl⟩ (.cons ⟨_, rfl⟩ .nil)); (case d => exact fun _ => .cons (.str _) (.cons (.str _) .nil))); (case q3 => refine' K04.tup_mk [.non, (.str "truth")] ?l ?z ?v ?d; (case l => k_is); (case z => exact Nat.le_of_ble_eq_true rfl); (case v => exact .cons rfl (.cons ⟨_, rfl⟩ .nil)); (case d => exact fun _ => .cons .non (.cons (.str _) .nil))); (case q4 => refine' K04.tup_mk [(.str "number"), (.str "truth")] ?l ?z ?v ?d; (case l => k_is); (case z => exact Nat.le_of_ble_eq_true rfl); (case v => exact .cons ⟨_, rfl⟩ (.cons ⟨_, rfl⟩ .nil)); (case d => exact fun _ => .cons (.str _) (.cons (.str _) .nil))); (case q5 => refine' K04.tup_mk [(.str "number"), (.str "truth")] ?l ?z ?v ?d; (case l => k_is); (case z => exact Nat.le_of_ble_eq_true rfl); (case v => exact .cons ⟨_, rfl⟩ (.cons ⟨_, rfl⟩ .nil)); (case d => exact fun _ => .cons (.str _) (.cons (.str _) .nil))); (case q6 => refine' K04.tup_mk [(.str "truth"), (.str "truth")] ?l ?z ?v ?d; (case l => k_is); (case z => exact Nat.le_of_ble_eq_true rfl); (case v => exact .cons ⟨_, rfl⟩ (.cons ⟨_, rfl⟩ .nil)); (case d => exact fun _ => .cons (.str _) (.cons (.str _) .nil))); (case q7 => refine' K04.tup_mk [(.str "truth"), (.str "truth")] ?l ?z ?v ?d; (case l => k_is); (case z => exact Nat.le_of_ble_eq_true rfl); (case v => exact .cons ⟨_, rfl⟩ (.cons ⟨_, rfl⟩ .nil)); (case d => exact fun _ => .cons (.str _) (.cons (.str _) .nil)))))
    (case z_isinstance => k_is)
    (case z_bool => k_is)
    (case z_int => k_is)
    (case z_len => k_is)
    (case z_all => k_is)
    (case z_sum => k_is)
    (case z_max => k_is)
    (case z_range => k_is)
    (case z_min => k_is)
    (case z_ValueError => k_is)
#print axioms PySem.Challenge.cw_runrows_k04_what_makes_none_holds

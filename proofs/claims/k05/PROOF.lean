import PyProof.Rows.All
import Wide.All
import OpenK.AllK
import Wide.FinOn
import Lean
import PyProof.EqAt
import PyProof.EqKinds
import PyProof.TupleCall
import PyProof.ExcAttrAll.ValueError
import PyProof.EnumMake
import PyProof.EnumStmt
import PyProof.Rows.EnumRows
import KE.KDictOf
import KE.KEqDict
import PyProof.Draws
import PySem.Challenge.RW_runrows_k05_kinds
set_option Elab.async false
set_option linter.all false
set_option maxRecDepth 100000
set_option maxHeartbeats 4000000
namespace L2
open PySem PySem.Spec PyProof.Rows
abbrev Key := Sum Int Str
def nJ : Key -> Value -> Bool
 | .inl k, v => Value.isInt k v
 | .inr x, v => Value.isStrOf x v
def HE (w : World) : Key -> Int
 | .inl k => hashInt k
 | .inr x => hashStr w x
theorem bO : ∀ {k : Key} {v : Value}, nJ k v = true -> (∃ i t, k = Sum.inl i /\ v = Value.int i t) \/ (∃ x t, k = Sum.inr x /\ v = Value.str x t)
 | .inl i, v, h => by
  obtain ⟨t, e⟩ := Value.isInt_shape (k := i) (v := v) h
  exact .inl ⟨i, t, rfl, e⟩
 | .inr x, v, h => by
  obtain ⟨t, e⟩ := Value.isStrOf_shape (x := x) (v := v) h
  exact .inr ⟨x, t, rfl, e⟩
theorem vI (i : Int) (t : Tok) : nJ (.inl i) (.int i t) = true := by simp [nJ, Value.isInt]
theorem vJ (x : Str) (t : Tok) : nJ (.inr x) (.str x t) = true := by simp [nJ, Value.isStrOf]
theorem C5 (a b : Int) : decide ((Sum.inl a : Key) = Sum.inl b) = (a == b) := by
 by_cases e : a = b
 ·subst e; simp
 ·have h : ¬ (Sum.inl a : Key) = Sum.inl b := fun q => e (Sum.inl.inj q)
  rw [decide_eq_false h]
  exact (beq_eq_false_iff_ne.mpr e).symm
theorem C8 (a b : Str) : decide ((Sum.inr a : Key) = Sum.inr b) = decide (a = b) := by
 by_cases e : a = b
 ·subst e; simp
 ·have h : ¬ (Sum.inr a : Key) = Sum.inr b := fun q => e (Sum.inr.inj q)
  rw [decide_eq_false h, decide_eq_false e]
theorem C6 (a : Int) (b : Str) : decide ((Sum.inl a : Key) = Sum.inr b) = false := decide_eq_false (fun q => nomatch q)
theorem C7 (a : Str) (b : Int) : decide ((Sum.inr a : Key) = Sum.inl b) = false := decide_eq_false (fun q => nomatch q)
def bu (prog : Program) (w : World) : PySem.KeyKind prog w Key where
 is := nJ
 hash := HE w
 inj := fun v a b ha hb => by
  rcases bO ha with ⟨i, t, rfl, rfl⟩ | ⟨x, t, rfl, rfl⟩
  ·rcases bO hb with ⟨j, u, rfl, e⟩ | ⟨y, u, rfl, e⟩
   ·injection e with e1 _; rw [e1]
   ·exact nomatch e
  ·rcases bO hb with ⟨j, u, rfl, e⟩ | ⟨y, u, rfl, e⟩
   ·exact nomatch e
   ·injection e with e1 _; rw [e1]
 byValue := fun k v h => by
  rcases bO h with ⟨i, t, rfl, rfl⟩ | ⟨x, t, rfl, rfl⟩ <;> rfl
 pyHash := fun hv h => by
  rcases bO hv with ⟨i, t, rfl, rfl⟩ | ⟨x, t, rfl, rfl⟩
  ·exact wpAny_pyHash_int h
  ·exact wpAny_pyHash_str h
 eqBool := fun hu hv h => by
  rcases bO hu with ⟨i, t, rfl, rfl⟩ | ⟨x, t, rfl, rfl⟩
  ·rcases bO hv with ⟨j, u, rfl, rfl⟩ | ⟨y, u, rfl, rfl⟩
   ·rw [C5] at h; exact wpAny_eqBool_int h
   ·rw [C6] at h; exact SeqAt.EqAt.int_str i t y u _ _ _ _ h
  ·rcases bO hv with ⟨j, u, rfl, rfl⟩ | ⟨y, u, rfl, rfl⟩
   ·rw [C7] at h; exact SeqAt.EqAt.str_int x t j u _ _ _ _ h
   ·rw [C8] at h; exact wpAny_eqBool_str h
 «strs» := fun k x t v h => by
  rcases bO h with ⟨i, u, rfl, e⟩ | ⟨y, u, rfl, e⟩
  ·exact nomatch e
  ·injection e with e1 _
   subst e1
   cases v <;> rfl
theorem qb (prog : Program) (w : World) (i : Int) (t : Tok) : (bu prog w).is (.inl i) (.int i t) = true := vI i t
theorem qc (prog : Program) (w : World) (x : Str) (t : Tok) : (bu prog w).is (.inr x) (.str x t) = true := vJ x t
inductive V where
 | aW | bl (b : Bool) | int (i : Int) | str (x : Str) | rF (b : Array UInt8) | Gj (b : UInt64) | ref (a : Addr) | ty (n : String)
 deriving DecidableEq
def RelV : V -> Value -> Prop
 | .aW, u => u = Value.none
 | .bl b, u => u = Value.bool b
 | .int i, u => ∃ t, u = Value.int i t
 | .str x, u => ∃ t, u = Value.str x t
 | .rF b, u => ∃ t, u = Value.bytes b t
 | .Gj b, u => ∃ t, u = Value.float b t
 | .ref a, u => u = Value.ref a
 | .ty n, u => u = Value.type n
abbrev Vals : List V -> List Value -> Prop := Paired RelV
theorem Vals.length {xs : List V} {us : List Value} (r : Vals xs us) : xs.length = us.length := Paired.length r
theorem Vals.get : ∀ {xs : List V} {us : List Value} {i : Nat} {x : V}, Vals xs us -> xs[i]? = some x -> ∃ u, us[i]? = some u /\ RelV x u
 | _, _, _, _, .nil, e => by simp at e
 | _, _, 0, _, .cons r _, e => by simp at e; subst e; exact ⟨_, rfl, r⟩
 | _, _, i + 1, x, .cons _ t, e => by
  obtain ⟨u, h1, h2⟩ := Vals.get (i := i) (x := x) t (by simpa using e)
  exact ⟨u, by simpa using h1, h2⟩
theorem Vals.set {x : V} {u : Value} (r : RelV x u) : ∀ {xs : List V} {us : List Value} (i : Nat), Vals xs us -> Vals (xs.set i x) (us.set i u)
 | _, _, _, .nil => .nil
 | _, _, 0, .cons _ t => .cons r t
 | _, _, i + 1, .cons q t => .cons q (Vals.set r i t)
theorem Vals.append : ∀ {xs ys : List V} {us ws : List Value}, Vals xs us -> Vals ys ws -> Vals (xs ++ ys) (us ++ ws)
 | _, _, _, _, .nil, s => s
 | _, _, _, _, .cons r t, s => .cons r (Vals.append t s)
theorem Vals.take : ∀ {xs : List V} {us : List Value} (n : Nat), Vals xs us -> Vals (xs.take n) (us.take n)
 | _, _, 0, _ => .nil
 | _, _, _ + 1, .nil => .nil
 | _, _, n + 1, .cons r t => .cons r (Vals.take n t)
theorem Vals.drop : ∀ {xs : List V} {us : List Value} (n : Nat), Vals xs us -> Vals (xs.drop n) (us.drop n)
 | _, _, 0, r => r
 | _, _, _ + 1, .nil => .nil
 | _, _, n + 1, .cons _ t => Vals.drop n t
def d0 : Option V -> Option Value -> Prop
 | some v, some u => RelV v u
 | none, none => True
 | _, _ => False
def KV {κ : Type} : List (κ × V) -> List (κ × Value) -> Prop := Paired fun (p : κ × V) (q : κ × Value) => p.1 = q.1 /\ RelV p.2 q.2
def kV : Key -> V
 | .inl i => .int i
 | .inr x => .str x
inductive HO where
 /-- a list -/
 | lst (xs : List V)
 /-- a tuple (never changes) -/
 | tup (xs : List V)
 /-- a dict whose keys are ints and texts; one whose keys are tuples of ints and texts (the empty one is both) -/
 | dK (kvs : List (Key × V)) | dT (kvs : List (List Key × V))
 /-- a set of ints: its members, its size -/
 | set (S : Int -> Bool) (n : Nat)
 /-- an instance of the class at C, its dict at dx, its attributes -/
 | ins (C dx : Addr) (fs : List (Str × V))
 /-- the dict of the instance at x -/
 | own (x : Addr)
 /-- the dict of an exception -/
 | xd (fs : List (Str × V))
 /-- a bound method, f of x -/
 | met (f x : Addr)
 /-- a range object lo, lo + 1, .. below hi -/
 | Gp (lo hi : Int)
 /-- a thing that is known to the object (the script; a dict while a loop walks it): read, never written while it is so -/
 | gQ (o : Obj) (u : HO)
 /-- a code object's table -/
 | BU (ps : Array Value)
 /-- any other thing, by what is true of its one object (a def of one's own: SetO a S n := HO.ext fun h => ..) -/
 | ext (φ : Heap -> Prop)
abbrev Hp := Addr -> Option HO
def upd (H : Hp) (a : Addr) (o : HO) : Hp := fun b => if b = a then some o else H b
theorem aI {H : Hp} {a : Addr} {o : HO} : upd H a o a = some o := by unfold upd; rw [if_pos rfl]
theorem aH {H : Hp} {a b : Addr} {o : HO} (h : b ≠ a) : upd H a o b = H b := by unfold upd; rw [if_neg h]
theorem jr {H : Hp} {a : Addr} {o u : HO} : upd (upd H a o) a u = upd H a u := by
 funext b; unfold upd; split <;> rfl
theorem Fd {H : Hp} {a b : Addr} {o u : HO} (h : H a = some o) (h' : H b = some u) (d : o ≠ u) : a ≠ b := by
 intro e; subst e; rw [h] at h'; exact d (Option.some.inj h')
theorem aS {H : Hp} {a b : Addr} {o : HO} (h : H a = some o) (h' : H b = none) : a ≠ b := by
 intro e; subst e; rw [h] at h'; cases h'
section
variable (P : Program) (w : World)
def aQ (H : Hp) (h : Heap) (a : Addr) : HO -> Prop
 | .lst xs => xs.length <= sizeLine /\ ∃ (its : List Value) (n : Nat), Vals xs its /\ h.get? a = some { cls := .type "list", data := .seq its.toArray n }
 | .tup xs => xs.length <= sizeLine /\ ∃ its : List Value, Vals xs its /\ IsTup h a its.toArray
 | .dK kvs => kvs.length <= sizeLine /\ (a == sysModules) = false /\ ∃ vs, KV kvs vs /\ h.DictOf (bu P w) a vs
 | .dT kvs => kvs.length <= sizeLine /\ (a == sysModules) = false /\ ∃ xs : List (List Key × Addr × Value),
   Paired (fun (p : List Key × V) (q : List Key × Addr × Value) => p.1 = q.1 /\ H q.2.1 = some (.tup (p.1.map kV)) /\ RelV p.2 q.2.2) kvs xs /\
   ∃ o es ep, h.get? a = some o /\ o.ExactDict /\ o.data = .dict es ep /\ es.toList = xs.map (entryOfKey (tupleKind (bu P w))) /\ (xs.map (·.1)).Nodup
 | .set S n => h.SetOf (intKind P w) a S n
 | .ins C dx fs => H dx = some (.own a) /\ fs.length <= 1000 /\ dx ≠ a /\ h.get? a = some (PySem.W.instObj C dx) /\
   ∃ mA, h.Ns1 dx mA /\ (∀ f, d0 (fs.lookup f) (mA f)) /\ PySem.Within mA (fs.map (·.1))
 | .own _ => ∃ o, h.get? a = some o
 | .xd fs => ∃ mA, h.Ns1 a mA /\ ∀ f, d0 (fs.lookup f) (mA f)
 | .Gp lo hi => ∃ t u v, h.get? a = some { cls := .type "range", data := .fields #[.int lo t, .int hi u, .int 1 v] }
 | .gQ o u => h.get? a = some o /\ aQ H h a u
 | .BU ps => h.get? a = some { cls := .none, data := .fields ps }
 | .met f x => h.get? a = some (PySem.W.methodObj (.ref f) (.ref x))
 | .ext φ => φ h /\ (∃ o, h.get? a = some o) /\ ∀ h1 h2 : Heap, φ h1 -> (∀ o, h1.get? a = some o -> h2.get? a = some o) -> φ h2
def cf (H : Hp) (h : Heap) : Prop := ∀ a o, H a = some o -> aQ P w H h a o
end
section
variable {P : Program} {w : World} {H H' : Hp} {h h' : Heap} {a : Addr} {o : HO}
theorem aQ.lt (x : aQ P w H h a o) : a < h.objs.size := by
 cases o with
 | lst xs => obtain ⟨_, _, _, _, e⟩ := x; exact Heap.lt_size e
 | tup xs => obtain ⟨_, _, _, p⟩ := x; exact p.lt
 | dK kvs => obtain ⟨_, _, _, _, o, _, _, e, _⟩ := x; exact Heap.lt_size e
 | dT kvs => obtain ⟨_, _, _, _, o, _, _, e, _⟩ := x; exact Heap.lt_size e
 | set S n => obtain ⟨o, _, _, _, e, _⟩ := x; exact Heap.lt_size e
 | ins C dx fs => obtain ⟨_, _, _, e, _⟩ := x; exact Heap.lt_size e
 | own y => obtain ⟨_, e⟩ := x; exact Heap.lt_size e
 | xd fs => obtain ⟨_, ⟨_, _, _, e, _⟩, _⟩ := x; exact Heap.lt_size e
 | Gp lo hi => obtain ⟨_, _, _, e⟩ := x; exact Heap.lt_size e
 | gQ ob u => obtain ⟨e, _⟩ := x; exact Heap.lt_size e
 | BU ps => exact Heap.lt_size (show h.get? a = some _ from x)
 | met f y => exact Heap.lt_size (show h.get? a = some _ from x)
 | ext φ => obtain ⟨_, ⟨_, e⟩, _⟩ := x; exact Heap.lt_size e
theorem Paired.xy {α β : Type} {F G : α -> β -> Prop} : ∀ {l₁ : List α} {l₂ : List β}, Paired F l₁ l₂ -> (∀ a b, F a b -> G a b) -> Paired G l₁ l₂
 | _, _, .nil, _ => .nil
 | _, _, .cons r t, f => .cons (f _ _ r) (Paired.xy t f)
theorem Paired.imp' {α β : Type} {F G : α -> β -> Prop} (f : ∀ a b, F a b -> G a b) {l₁ : List α} {l₂ : List β} (r : Paired F l₁ l₂) : Paired G l₁ l₂ := Paired.xy r f
theorem aQ.kH (x : aQ P w H h a o) (k : ∀ b u, (b = a \/ H b = some (.own a)) -> h.get? b = some u -> h'.get? b = some u)
  (ho : ∀ b, H b = some (.own a) -> H' b = some (.own a)) (ht : ∀ b xs, H b = some (.tup xs) -> H' b = some (.tup xs)) : aQ P w H' h' a o := by
 induction o with
 | lst xs => obtain ⟨z, its, n, r, e⟩ := x; exact ⟨z, its, n, r, k _ _ (.inl rfl) e⟩
 | tup xs => obtain ⟨z, its, r, ob, e, c⟩ := x; exact ⟨z, its, r, ob, k _ _ (.inl rfl) e, c⟩
 | dK kvs => obtain ⟨z, y, vs, r, ob, es, ep, e, c⟩ := x; exact ⟨z, y, vs, r, ob, es, ep, k _ _ (.inl rfl) e, c⟩
 | dT kvs =>
  obtain ⟨z, y, xs, r, ob, es, ep, e, c⟩ := x
  exact ⟨z, y, xs, Paired.xy r fun p q z => ⟨z.1, ht _ _ z.2.1, z.2.2⟩, ob, es, ep, k _ _ (.inl rfl) e, c⟩
 | set S n => obtain ⟨ob, es, ep, t, e, c⟩ := x; exact ⟨ob, es, ep, t, k _ _ (.inl rfl) e, c⟩
 | ins C dx fs =>
  obtain ⟨d, z, ne, e, mA, ⟨od, es, ep, e2, c⟩, r⟩ := x
  exact ⟨ho _ d, z, ne, k _ _ (.inl rfl) e, mA, ⟨od, es, ep, k _ _ (.inr d) e2, c⟩, r⟩
 | own y => obtain ⟨ob, e⟩ := x; exact ⟨ob, k _ _ (.inl rfl) e⟩
 | xd fs => obtain ⟨mA, ⟨od, es, ep, e, c⟩, r⟩ := x; exact ⟨mA, ⟨od, es, ep, k _ _ (.inl rfl) e, c⟩, r⟩
 | Gp lo hi => obtain ⟨t, u, v, e⟩ := x; exact ⟨t, u, v, k _ _ (.inl rfl) e⟩
 | gQ ob u ih => obtain ⟨e, q⟩ := x; exact ⟨k _ _ (.inl rfl) e, ih q⟩
 | BU ps =>
  have e : h.get? a = some { cls := .none, data := .fields ps } := x
  show h'.get? a = some { cls := .none, data := .fields ps }
  exact k a _ (.inl rfl) e
 | met f y =>
  have e : h.get? a = some (PySem.W.methodObj (.ref f) (.ref y)) := x
  show h'.get? a = some (PySem.W.methodObj (.ref f) (.ref y))
  exact k a _ (.inl rfl) e
 | ext φ => obtain ⟨p, ⟨o, e⟩, st⟩ := x; exact ⟨st _ _ p fun o q => k _ _ (.inl rfl) q, ⟨o, k _ _ (.inl rfl) e⟩, st⟩
theorem cf.lt (x : cf P w H h) (e : H a = some o) : a < h.objs.size := (x a o e).lt
theorem cf.fresh (x : cf P w H h) (e : h.objs.size <= a) : H a = none := by
 cases q : H a with
 | none => rfl
 | some u => exact absurd (Nat.lt_of_lt_of_le (x.lt q) e) (Nat.lt_irrefl _)
theorem cf.kept (x : cf P w H h) (k : ∀ b u, h.get? b = some u -> h'.get? b = some u) : cf P w H h' := fun a o e =>
 (x a o e).kH (fun b u _ q => k b u q) (fun _ q => q) fun _ _ q => q
theorem cf.laid (x : cf P w H h) (k : ∀ b u, h.get? b = some u -> h'.get? b = some u) (hp : h.objs.size <= a) (new : aQ P w (upd H a o) h' a o) : cf P w (upd H a o) h' := fun b u e => by
 have hn := x.fresh hp
 by_cases hb : b = a
 ·subst hb; rw [aI] at e; cases e; exact new
 ·rw [aH hb] at e
  exact (x b u e).kH (fun c v _ q => k c v q) (fun c q => by rw [aH (aS q hn)]; exact q) fun c xs q => by rw [aH (aS q hn)]; exact q
end
def Rd (H : Hp) (a : Addr) (u : HO) : Prop := H a = some u \/ ∃ o, H a = some (.gQ o u)
theorem Rd.of {H : Hp} {a : Addr} {u : HO} (h : H a = some u) : Rd H a u := .inl h
theorem Rd.ok {P : Program} {w : World} {H : Hp} {h : Heap} {a : Addr} {u : HO} (r : Rd H a u) (x : cf P w H h) : aQ P w H h a u := by
 rcases r with r | ⟨o, r⟩
 ·exact x a u r
 ·obtain ⟨_, q⟩ := x a _ r
  exact q
def Ed : Option HO -> Prop
 | some (.lst _) => True
 | some (.dK _) => True
 | some (.dT _) => True
 | some (.set _ _) => True
 | some (.ins _ _ _) => True
 | some (.ext _) => True
 | _ => False
section
variable {P : Program} {w : World} {H : Hp} {h h' : Heap} {x e : Addr} {o' : HO}
theorem cf.write (ok : cf P w H h) (mu : Ed (H x)) (he : e = x \/ H e = some (.own x)) (k : ∀ b u, b ≠ e -> h.get? b = some u -> h'.get? b = some u) (heo : ∃ u, h'.get? e = some u)
  (new : aQ P w (upd H x o') h' x o') : cf P w (upd H x o') h' := fun b u q => by
 have nown : ∀ c y, H c = some (.own y) -> c ≠ x := fun c y r z => by subst z; rw [r] at mu; exact mu
 have ntup : ∀ c xs, H c = some (.tup xs) -> c ≠ x := fun c xs r z => by subst z; rw [r] at mu; exact mu
 by_cases hb : b = x
 ·subst hb; rw [aI] at q; cases q; exact new
 ·rw [aH hb] at q
  by_cases hbe : b = e
  ·have q' : H b = some (.own x) := by
    rcases he with z | z
    ·exact absurd (hbe.trans z) hb
    ·rw [hbe]; exact z
   rw [q] at q'; cases q'
   obtain ⟨v, hv⟩ := heo
   exact ⟨v, by rw [hbe]; exact hv⟩
  ·refine (ok b u q).kH (fun c v hc r => k c v ?_ r) (fun c r => by rw [aH (nown c b r)]; exact r) fun c xs r => by rw [aH (ntup c xs r)]; exact r
   rcases hc with rfl | hc
   ·exact hbe
   ·rintro rfl
    rcases he with z | z
    ·exact nown c b hc z
    ·rw [hc] at z; cases z; exact hb rfl
end
structure Un (fs ex : List Addr) (H H' : Hp) (h h' : Heap) : Prop where
 keep : ∀ b o, h.get? b = some o -> H b = none -> b ∉ fs -> b ∉ ex -> h'.get? b = some o
 slot : ∀ b o, h.get? b = some o -> H b = none -> b ∈ fs -> b ∉ ex -> ∃ sl, h'.get? b = some { o with slots := sl }
 free : ∀ b o, h.get? b = some o -> H b = none -> b ∉ ex -> H' b = none
 there : ∀ b o, h.get? b = some o -> b ∉ ex -> ∃ o', h'.get? b = some o'
 fN : ∀ b xs, H b = some (.tup xs) -> H' b = some (.tup xs)
 dH : ∀ b o u, H b = some (.gQ o u) -> H' b = some (.gQ o u)
 hW : ∀ b ps, H b = some (.BU ps) -> ∃ more, H' b = some (.BU (ps ++ more))
section
variable {fs fs' ex ex' : List Addr} {H H1 H2 : Hp} {h h1 h2 h' : Heap} {a x e : Addr} {o : HO}
theorem Un.any (u : Un fs ex H H1 h h1) {b : Addr} {ob : Obj} (q : h.get? b = some ob) (n : H b = none) (hx : b ∉ ex) : ∃ sl, h1.get? b = some { ob with slots := sl } := by
 by_cases hb : b ∈ fs
 ·exact u.slot b ob q n hb hx
 ·exact ⟨ob.slots, u.keep b ob q n hb hx⟩
theorem Un.kept (k : ∀ b u, h.get? b = some u -> h'.get? b = some u) : Un fs ex H H h h' :=
 ⟨fun b ob q _ _ _ => k b ob q, fun b ob q _ _ _ => ⟨ob.slots, k b ob q⟩, fun _ _ _ n _ => n, fun b ob q _ => ⟨ob, k b ob q⟩, fun _ _ q => q, fun _ _ _ q => q, fun _ ps q => ⟨#[], by rw [q]; simp⟩⟩
theorem Un.refl : Un fs ex H H h h := Un.kept fun _ _ q => q
theorem Un.laid (k : ∀ b u, h.get? b = some u -> h'.get? b = some u) (hp : h.objs.size <= a) (hn : H a = none) : Un fs ex H (upd H a o) h h' where
 keep := fun b u q _ _ _ => k b u q
 slot := fun b u q _ _ _ => ⟨u.slots, k b u q⟩
 free := fun b u q n _ => by rw [aH (Nat.ne_of_lt (Nat.lt_of_lt_of_le (Heap.lt_size q) hp))]; exact n
 there := fun b u q _ => ⟨u, k b u q⟩
 fN := fun b xs q => by rw [aH (aS q hn)]; exact q
 dH := fun b u xs q => by rw [aH (aS q hn)]; exact q
 hW := fun b ps q => ⟨#[], by rw [aH (aS q hn), q]; simp⟩
theorem Un.write (mu : Ed (H x)) (he : e = x \/ H e = some (.own x)) (k : ∀ b u, b ≠ e -> h.get? b = some u -> h'.get? b = some u) (heo : ∃ u, h'.get? e = some u) : Un fs ex H (upd H x o) h h' := by
 have hx : ∀ b, H b = none -> b ≠ x := fun b n z => by subst z; rw [n] at mu; exact mu
 have hb : ∀ b, H b = none -> b ≠ e := fun b n z => by
  subst z
  rcases he with r | r
  ·exact hx b n r
  ·rw [n] at r; cases r
 have hm : ∀ b u, H b = some u -> ¬ Ed (some u) -> b ≠ x := fun b u q nm z => by subst z; rw [q] at mu; exact nm mu
 refine ⟨fun b u q n _ _ => k b u (hb b n) q, fun b u q n _ _ => ⟨u.slots, k b u (hb b n) q⟩, fun b u q n _ => by rw [aH (hx b n)]; exact n, fun b u q _ => ?_,
  fun b xs q => by rw [aH (hm b _ q fun z => z)]; exact q, fun b u xs q => by rw [aH (hm b _ q fun z => z)]; exact q, fun b ps q => ⟨#[], by rw [aH (hm b _ q fun z => z), q]; simp⟩⟩
 by_cases hbe : b = e
 ·subst hbe; exact heo
 ·exact ⟨u, k b u hbe q⟩
end
def Gr (h : Heap) (H : Hp) : List Addr := (List.range h.objs.size).filter fun a => (H a).isSome
def oZ (h : Heap) (H : Hp) : Heap := PySem.W.hideAll h (Gr h H)
theorem u6 (h : Heap) (H : Hp) : (oZ h H).objs.size = h.objs.size := PySem.W.hideAll_size _ _
theorem xV {h : Heap} {H : Hp} {b : Addr} {o : Obj} (e : h.get? b = some o) (n : H b = none) : (oZ h H).get? b = some o :=
 PySem.W.hideAll_get _ e fun hm => by
  have q : (H b).isSome = true := (List.mem_filter.mp hm).2
  rw [n] at q; simp at q
theorem Al {h : Heap} {H : Hp} {b : Addr} {o : Obj} (e : (oZ h H).get? b = some o) : h.get? b = some o /\ H b = none := by
 have e' : h.get? b = some o := PySem.W.of_hideAll (Gr h H) e
 refine ⟨e', ?_⟩
 cases q : H b with
 | none => rfl
 | some x =>
  have hm : b ∈ Gr h H := List.mem_filter.mpr ⟨List.mem_range.mpr (Heap.lt_size e'), by simp [q]⟩
  have z : (oZ h H).get? b = none := PySem.W.hideAll_none (Gr h H) hm
  rw [z] at e; cases e
structure Mod (K : PySem.W.Frag) (mg : Str -> Option Value) (base : Heap) : Prop where
 Bo : K.In base
 glob : base.Ns mainGlobals mg
 blt : ∃ mb, base.Ns builtinsNs mb /\ ∀ x : Str, x ≠ "__name__" -> mb x = bootBuiltins x
 nolimit : base.NoLimit
structure Cx where
 prog : Program
 w : World
 K : PySem.W.Frag
 mg : Str -> Option Value
 base : Heap
 A : Around
 N : List Str
 s₀ : Shared
 H₀ : Hp
 env : Env
 outer : List Env
 stack : List Env
 ex : List Addr
 fn : Str -> Bool
 calm : Bool
 pn : List (Addr × Obj)
 xe : Value -> Shared -> Prop
def lB (l : List Env) : List Addr := l.filterMap (·.frame)
abbrev Cx.fs (X : Cx) : List Addr := lB X.outer
def wO (sc : Scope) (x : Str) : Prop := sc.names.lookup x = some .local \/ sc.names.lookup x = some .cell \/ sc.names.lookup x = some .free
def Loc (sc : Scope) (x : Str) : Prop := sc.names.lookup x = some .local \/ sc.names.lookup x = some .cell
def Look (env : Env) (h : Heap) (m : Str -> Option Value) (x : Str) (u : Value) : Prop :=
 (env.kindOf x = some .local /\ m x = some u) \/ ((env.kindOf x = some .cell \/ env.kindOf x = some .free) /\ ∃ c, env.cells.lookup x = some c /\ h.IsCell c (some u))
structure Cx.Ok (X : Cx) : Prop where
 mod : Mod X.K X.mg X.base
 kind : X.env.scope.kind = .function
 glob : X.env.globals = mainGlobals
 blt : X.env.builtins = builtinsNs
 above : X.s₀.heap.objs.size <= X.env.locals
 inj : ∀ x y c, X.env.cells.lookup x = some c -> X.env.cells.lookup y = some c -> x = y
 has : ∀ x, (X.env.kindOf x = some .cell \/ X.env.kindOf x = some .free) -> ∃ c, X.env.cells.lookup x = some c
 Bg : ∀ x c, X.fn x = true -> X.env.cells.lookup x = some c -> X.s₀.heap.objs.size <= c
 hd : X.calm = true -> X.A.handled = none
 frames : X.A.frames = some X.stack
 D8 : X.stack = X.outer \/ (X.stack = X.env :: X.outer /\ X.env.frame = some X.env.locals)
 E2 : ∀ b ∈ X.ex, b ≠ X.env.locals /\ ∀ x c, X.env.cells.lookup x = some c -> c ≠ b
 bs : ∀ b o, X.base.get? b = some o -> X.s₀.heap.get? b = some o /\ X.H₀ b = none
 wC : X.base.objs.size <= X.s₀.heap.objs.size
 qg : ∀ b o, X.base.get? b = some o -> b ∉ X.ex
 qE : ∀ b ∈ X.ex, b ∉ X.fs
 fu : X.s₀.heap.FunFrames X.base X.outer
 wG : ∀ b ∈ X.fs, X.H₀ b = none
structure Inv (X : Cx) (pins : List (Addr × Obj)) (σ : List (Option V)) (H : Hp) (s : Shared) : Prop where
 ok : X.Ok
 os : s.os = X.s₀.os
 bare : AllBare s.gens
 base : Un X.fs X.ex X.H₀ H X.s₀.heap s.heap
 loc : ∃ m, s.heap.Ns X.env.locals m /\ ∀ (i : Nat) (x : Str) (v : V), X.N[i]? = some x -> σ[i]? = some (some v) -> wO X.env.scope x -> ∃ u, RelV v u /\ Look X.env s.heap m x u
 cell : ∀ x c, X.env.cells.lookup x = some c -> ∃ v, s.heap.IsCell c v
 free : H X.env.locals = none
 b7 : ∀ x c, X.env.cells.lookup x = some c -> H c = none
 pin : ∀ p ∈ X.pn ++ pins, s.heap.get? p.1 = some p.2 /\ H p.1 = none /\ p.1 ≠ X.env.locals /\ p.1 ∉ X.fs /\ ∀ v, p.2.data ≠ .cell v
 ao : cf X.prog X.w H s.heap
 len : σ.length = X.N.length
section
variable {X : Cx} {pins : List (Addr × Obj)} {σ : List (Option V)} {H H' : Hp} {s : Shared} {h' : Heap}
theorem Cx.Ok.HV (ok : X.Ok) {b : Addr} {o : Obj} (e : X.base.get? b = some o) : b ∉ X.fs := fun hb => by
 have := (ok.fu.mem hb).1
 rw [e] at this; cases this
theorem Inv.bs (I : Inv X pins σ H s) : ∀ b o, X.base.get? b = some o -> s.heap.get? b = some o /\ H b = none := fun b o e =>
 ⟨I.base.keep b o (I.ok.bs b o e).1 (I.ok.bs b o e).2 (I.ok.HV e) (I.ok.qg b o e), I.base.free b o (I.ok.bs b o e).1 (I.ok.bs b o e).2 (I.ok.qg b o e)⟩
theorem Inv.bk (I : Inv X pins σ H s) : ∀ b o, X.base.get? b = some o -> s.heap.get? b = some o := fun b o e => (I.bs b o e).1
theorem Inv.mod (I : Inv X pins σ H s) : Mod X.K X.mg X.base := I.ok.mod
theorem Inv.iN (I : Inv X pins σ H s) : X.K.In s.heap := I.ok.mod.Bo.keeps I.bk
theorem Inv.lt (I : Inv X pins σ H s) : X.env.locals < s.heap.objs.size := let ⟨_, hn, _⟩ := I.loc; hn.lt
theorem Inv.sz (I : Inv X pins σ H s) : X.s₀.heap.objs.size <= s.heap.objs.size := Nat.le_trans I.ok.above (Nat.le_of_lt I.lt)
theorem Inv.HW (I : Inv X pins σ H s) {a : Addr} (h : s.heap.objs.size <= a) : a ∉ X.fs := fun hb => by
 obtain ⟨_, o, ho, _⟩ := I.ok.fu.mem hb
 exact absurd (Nat.lt_of_lt_of_le (Heap.lt_size ho) (Nat.le_trans I.sz h)) (Nat.lt_irrefl _)
theorem Inv.wg (I : Inv X pins σ H s) : ∀ x c, X.env.cells.lookup x = some c -> c ≠ X.env.locals := fun x c e z => by
 obtain ⟨v, o, ho, hd⟩ := I.cell x c e
 obtain ⟨m, ⟨o', es, ep, ho', hd', _⟩, _⟩ := I.loc
 rw [z, ho'] at ho; cases ho; rw [hd'] at hd; cases hd
theorem Inv.fu (I : Inv X pins σ H s) : s.heap.FunFrames X.base X.outer := by
 have all : ∀ (l : List Env), (∀ b ∈ lB l, b ∈ X.fs) -> X.s₀.heap.FunFrames X.base l -> s.heap.FunFrames X.base l := by
  intro l
  induction l with
  | nil => intro _ _; trivial
  | cons env r ih =>
   intro hs hl
   obtain ⟨hk, ⟨L, o, hf, hn, ho, hd⟩, hr⟩ := hl
   have hL : L ∈ X.fs := hs L (by unfold lB; rw [List.filterMap_cons, hf]; exact List.mem_cons_self)
   obtain ⟨sl, e⟩ := I.base.slot L o ho (I.ok.wG L hL) hL fun z => I.ok.qE L z hL
   exact ⟨hk, ⟨L, _, hf, hn, e, hd⟩, ih (fun b hb => hs b (by unfold lB; rw [List.filterMap_cons, hf]; exact List.mem_cons_of_mem _ hb)) hr⟩
 exact all X.outer (fun _ hb => hb) I.ok.fu
theorem Inv.stack (I : Inv X pins σ H s) : s.heap.FunFrames X.base X.stack := by
 rcases I.ok.D8 with e | ⟨e, hf⟩
 ·rw [e]; exact I.fu
 ·rw [e]
  obtain ⟨m, hn, _⟩ := I.loc
  refine .cons (by rw [I.ok.kind]; decide) hf hn ?_ I.fu
  exact Heap.get?_none_of_le (Nat.le_trans I.ok.wC I.ok.above)
theorem Inv.kI (I : Inv X pins σ H s) : ∀ b ∈ lB X.stack, b ∈ X.env.locals :: X.fs := fun b hb => by
 rcases I.ok.D8 with e | ⟨e, hf⟩
 ·rw [e] at hb; exact List.mem_cons_of_mem _ hb
 ·rw [e] at hb
  unfold lB at hb
  rw [List.filterMap_cons, hf] at hb
  exact hb
theorem Inv.pR (I : Inv X pins σ H s) : ∀ b ∈ lB X.stack, H b = none := fun b hb => by
 rcases List.mem_cons.mp (I.kI b hb) with e | hb
 ·rw [e]; exact I.free
 ·obtain ⟨_, o, ho, _⟩ := I.ok.fu.mem hb
  exact I.base.free b o ho (I.ok.wG b hb) fun z => I.ok.qE b z hb
theorem Inv.step {g' : Array GenState} {t' : Nat} {d' : Drawn} {ch : List Addr} (I : Inv X pins σ H s)
  (hch : ∀ b ∈ ch, (b ∈ X.ex \/ X.s₀.heap.objs.size <= b) /\ b ≠ X.env.locals /\ (∀ x c, X.env.cells.lookup x = some c -> c ≠ b) /\ ∀ p ∈ X.pn ++ pins, p.1 ≠ b)
  (keep : ∀ b o, b ≠ X.env.locals -> b ∉ X.fs -> b ∉ ch -> s.heap.get? b = some o -> H b = none -> h'.get? b = some o)
  (slot : ∀ b o, b ≠ X.env.locals -> b ∈ X.fs -> b ∉ ch -> s.heap.get? b = some o -> H b = none -> ∃ sl, h'.get? b = some { o with slots := sl }) (free : ∀ b o, b ∉ ch -> s.heap.get? b = some o -> H b = none -> H' b = none)
  (there : ∀ b o, b ∉ ch -> s.heap.get? b = some o -> ∃ o', h'.get? b = some o')
  (fN : ∀ b xs, H b = some (.tup xs) -> H' b = some (.tup xs)) (dH : ∀ b o u, H b = some (.gQ o u) -> H' b = some (.gQ o u)) (hW : ∀ b ps, H b = some (.BU ps) -> ∃ more, H' b = some (.BU (ps ++ more)))
  (ns : ∀ m, s.heap.Ns X.env.locals m -> h'.Ns X.env.locals m) (ao : cf X.prog X.w H' h') (hg : AllBare g') :
  Inv X pins σ H' { s with heap := h', gens := g', drawn := d', toks := t' } := by
 have neL : ∀ b o, X.s₀.heap.get? b = some o -> b ≠ X.env.locals := fun b o e => Nat.ne_of_lt (Nat.lt_of_lt_of_le (Heap.lt_size e) I.ok.above)
 have neC : ∀ b o, X.s₀.heap.get? b = some o -> b ∉ X.ex -> b ∉ ch := fun b o e hx hb => by
  rcases (hch b hb).1 with z | z
  ·exact hx z
  ·exact absurd (Nat.lt_of_lt_of_le (Heap.lt_size e) z) (Nat.lt_irrefl _)
 have cellK : ∀ x c, X.env.cells.lookup x = some c -> ∀ v, s.heap.IsCell c v -> h'.IsCell c v := fun x c e v ⟨o, ho, hd⟩ => by
  have nch : c ∉ ch := fun z => (hch c z).2.2.1 x c e rfl
  by_cases hc : c ∈ X.fs
  ·obtain ⟨sl, q⟩ := slot c o (I.wg x c e) hc nch ho (I.b7 x c e)
   exact ⟨_, q, hd⟩
  ·exact ⟨o, keep c o (I.wg x c e) hc nch ho (I.b7 x c e), hd⟩
 refine ⟨I.ok, I.os, hg, ⟨fun b o e n hb hx => ?_, fun b o e n hb hx => ?_, fun b o e n hx => ?_, fun b o e hx => ?_, fun b xs e => fN b xs (I.base.fN b xs e), fun b o xs e => dH b o xs (I.base.dH b o xs e), fun b ps e => ?_⟩, ?_, fun x c e => ?_, ?_, fun x c e => ?_, fun p hp => ?_, ao, I.len⟩
 ·exact keep b o (neL b o e) hb (neC b o e hx) (I.base.keep b o e n hb hx) (I.base.free b o e n hx)
 ·obtain ⟨sl, e1⟩ := I.base.slot b o e n hb hx
  obtain ⟨sl', e2⟩ := slot b _ (neL b o e) hb (neC b o e hx) e1 (I.base.free b o e n hx)
  exact ⟨sl', e2⟩
 ·obtain ⟨o', e1⟩ := I.base.there b o e hx
  exact free b o' (neC b o e hx) e1 (I.base.free b o e n hx)
 ·obtain ⟨o', e1⟩ := I.base.there b o e hx
  exact there b o' (neC b o e hx) e1
 ·obtain ⟨m1, e1⟩ := I.base.hW b ps e
  obtain ⟨m2, e2⟩ := hW b _ e1
  exact ⟨m1 ++ m2, by rw [e2, Array.append_assoc]⟩
 ·obtain ⟨m, hn, hl⟩ := I.loc
  refine ⟨m, ns m hn, fun i x v e1 e2 e3 => ?_⟩
  obtain ⟨u, r, l⟩ := hl i x v e1 e2 e3
  refine ⟨u, r, ?_⟩
  rcases l with l | ⟨k, c, e, z⟩
  ·exact .inl l
  ·exact .inr ⟨k, c, e, cellK x c e _ z⟩
 ·obtain ⟨v, z⟩ := I.cell x c e
  exact ⟨v, cellK x c e v z⟩
 ·obtain ⟨m, ⟨o, _, _, ho, _⟩, _⟩ := I.loc
  exact free _ o (fun z => (hch _ z).2.1 rfl) ho I.free
 ·obtain ⟨v, o, ho, hd⟩ := I.cell x c e
  exact free c o (fun z => (hch c z).2.2.1 x c e rfl) ho (I.b7 x c e)
 ·obtain ⟨e, n, ne, nf, d⟩ := I.pin p hp
  have nch : p.1 ∉ ch := fun z => (hch p.1 z).2.2.2 p hp rfl
  exact ⟨keep p.1 p.2 ne nf nch e n, free p.1 p.2 nch e n, ne, nf, d⟩
theorem Inv.un {t' : Nat} (I : Inv X pins σ H s) (u : Un X.fs [] H H' s.heap h') (ao : cf X.prog X.w H' h') : Inv X pins σ H' { s with heap := h', toks := t' } := by
 obtain ⟨m, ⟨o, es, ep, ho, r⟩, _⟩ := id I.loc
 obtain ⟨sl, hL⟩ := u.any ho I.free (by simp)
 exact I.step (g' := s.gens) (d' := s.drawn) (ch := []) (fun _ z => nomatch z) (fun b o _ hb _ e n => u.keep b o e n hb (by simp)) (fun b o _ hb _ e n => u.slot b o e n hb (by simp)) (fun b o _ e n => u.free b o e n (by simp)) (fun b o _ e => u.there b o e (by simp)) u.fN u.dH u.hW (fun m' hm => by
  obtain ⟨o', es', ep', ho', r'⟩ := hm
  rw [ho] at ho'; cases ho'
  exact ⟨_, es', ep', hL, r'⟩) ao I.bare
theorem Inv.call {g' : Array GenState} {t' : Nat} {d' : Drawn} {ch : List Addr} (I : Inv X pins σ H s) (u : Un (lB X.stack) ch H H' s.heap h') (ao : cf X.prog X.w H' h') (hg : AllBare g')
  (hch : ∀ b ∈ ch, (b ∈ X.ex \/ X.s₀.heap.objs.size <= b) /\ b ≠ X.env.locals /\ (∀ x c, X.env.cells.lookup x = some c -> c ≠ b) /\ ∀ p ∈ X.pn ++ pins, p.1 ≠ b) :
  Inv X pins σ H' { s with heap := h', gens := g', drawn := d', toks := t' } := by
 obtain ⟨m, ⟨o, es, ep, ho, r⟩, _⟩ := id I.loc
 obtain ⟨sl, hL⟩ := u.any ho I.free fun z => (hch _ z).2.1 rfl
 exact I.step (ch := ch) hch (fun b o hL hb hc e n => u.keep b o e n (fun z => (List.mem_cons.mp (I.kI b z)).elim hL hb) hc) (fun b o _ _ hc e n => u.any e n hc) (fun b o hc e n => u.free b o e n hc) (fun b o hc e => u.there b o e hc) u.fN u.dH u.hW (fun m' hm => by
  obtain ⟨o', es', ep', ho', r'⟩ := hm
  rw [ho] at ho'; cases ho'
  exact ⟨_, es', ep', hL, r'⟩) ao hg
theorem Inv.turned {t' : Nat} {it : Addr} (I : Inv X pins σ H s) (k : ∀ b o, b ≠ it -> s.heap.get? b = some o -> h'.get? b = some o) (hn : H it = none) (hL : it ≠ X.env.locals)
  (h1 : it ∈ X.ex \/ X.s₀.heap.objs.size <= it) (h2 : ∀ x c, X.env.cells.lookup x = some c -> c ≠ it) (h3 : ∀ p ∈ X.pn ++ pins, p.1 ≠ it) : Inv X pins σ H { s with heap := h', toks := t' } := by
 have nit : ∀ b u, H b = some u -> b ≠ it := fun b u e z => by rw [z, hn] at e; cases e
 refine I.step (g' := s.gens) (d' := s.drawn) (ch := [it]) (fun b hb => ?_) (fun b o _ _ hc e _ => k b o (fun z => hc (by simp [z])) e) (fun b o _ _ hc e _ => ⟨o.slots, k b o (fun z => hc (by simp [z])) e⟩) (fun _ _ _ _ n => n)
  (fun b o hc e => ⟨o, k b o (fun z => hc (by simp [z])) e⟩) (fun _ _ e => e) (fun _ _ _ e => e) (fun b ps e => ⟨#[], by rw [e]; simp⟩) (fun m hm => ?_) (fun b u e => ?_) I.bare
 ·have e : b = it := by simpa using hb
  subst e
  exact ⟨h1, hL, h2, h3⟩
 ·obtain ⟨o, es, ep, ho, r⟩ := hm
  exact ⟨o, es, ep, k _ o (Ne.symm hL) ho, r⟩
 ·refine (I.ao b u e).kH (fun c v hc q => k c v ?_ q) (fun _ q => q) fun _ _ q => q
  rcases hc with z | z
  ·rw [z]; exact nit b u e
  ·exact nit c _ z
theorem Inv.tok (I : Inv X pins σ H s) (t : Nat) : Inv X pins σ H { s with toks := t } := I.un (h' := s.heap) (t' := t) Un.refl I.ao
theorem Inv.kept {t' : Nat} (I : Inv X pins σ H s) (k : ∀ b u, s.heap.get? b = some u -> h'.get? b = some u) : Inv X pins σ H { s with heap := h', toks := t' } := I.un (Un.kept k) (I.ao.kept k)
theorem Inv.laid {a : Addr} {o : HO} {t' : Nat} (I : Inv X pins σ H s) (k : ∀ b u, s.heap.get? b = some u -> h'.get? b = some u) (hp : s.heap.objs.size <= a) (new : aQ X.prog X.w (upd H a o) h' a o) :
  Inv X pins σ (upd H a o) { s with heap := h', toks := t' } := I.un (Un.laid k hp (I.ao.fresh hp)) (I.ao.laid k hp new)
theorem Inv.write {x e : Addr} {o : HO} {t' : Nat} (I : Inv X pins σ H s) (mu : Ed (H x)) (he : e = x \/ H e = some (.own x)) (k : ∀ b u, b ≠ e -> s.heap.get? b = some u -> h'.get? b = some u) (heo : ∃ u, h'.get? e = some u)
  (new : aQ X.prog X.w (upd H x o) h' x o) : Inv X pins σ (upd H x o) { s with heap := h', toks := t' } := I.un (Un.write mu he k heo) (I.ao.write mu he k heo new)
theorem Inv.weak {σ' : List (Option V)} (I : Inv X pins σ H s) (hl : σ'.length = σ.length) (w : ∀ (i : Nat) v, σ'[i]? = some (some v) -> σ[i]? = some (some v)) : Inv X pins σ' H s :=
 ⟨I.ok, I.os, I.bare, I.base, let ⟨m, hn, hl'⟩ := I.loc; ⟨m, hn, fun i x v e1 e2 e3 => hl' i x v e1 (w i v e2) e3⟩, I.cell, I.free, I.b7, I.pin, I.ao, hl.trans I.len⟩
theorem Inv.pF {pins' : List (Addr × Obj)} (I : Inv X pins σ H s) (h : ∀ p ∈ pins', s.heap.get? p.1 = some p.2 /\ H p.1 = none /\ p.1 ≠ X.env.locals /\ p.1 ∉ X.fs /\ ∀ v, p.2.data ≠ .cell v) : Inv X pins' σ H s :=
 ⟨I.ok, I.os, I.bare, I.base, I.loc, I.cell, I.free, I.b7, fun p hp => (List.mem_append.mp hp).elim (fun z => I.pin p (List.mem_append_left _ z)) (h p), I.ao, I.len⟩
theorem qf {N : List Str} (hN : N.Nodup) {i j : Nat} {x : Str} (a : N[i]? = some x) (b : N[j]? = some x) : i = j := by
 obtain ⟨h1, e1⟩ := List.getElem?_eq_some_iff.mp a
 obtain ⟨h2, e2⟩ := List.getElem?_eq_some_iff.mp b
 exact (List.getElem_inj hN).mp (e1.trans e2.symm)
theorem vo {M : Model} {A : Around} {E : Value -> Shared -> Prop} {i : Nat} {x : Str} {v : V} {u : Value} {Q : Unit -> Shared -> Prop} (I : Inv X pins σ H s) (hN : X.N.Nodup) (hi : X.N[i]? = some x) (hx : Loc X.env.scope x) (r : RelV v u)
  (h : ∀ s', Inv X pins (σ.set i (some v)) H s' -> (∃ a, Heap.SameBut a s.heap s'.heap /\ (a = X.env.locals \/ X.env.cells.lookup x = some a)) -> Q () s') (hf : X.fn x = true \/ X.env.scope.names.lookup x = some .local := by first | exact .inl rfl | exact .inr rfl | assumption) : wpAny M A (storeName X.env x u) Q E s := by
 obtain ⟨m, hn, hl⟩ := id I.loc
 have hcls : (X.env.scope.kind == .class || (X.env.scope.kind == .module && X.env.locals != X.env.globals)) = false := by rw [I.ok.kind]; rfl
 have hiσ : i < σ.length := by rw [I.len]; exact (List.getElem?_eq_some_iff.mp hi).1
 have wg := I.wg
 have tracked : ∀ {a : Addr} {h' : Heap}, (∃ o, s.heap.get? a = some o /\ H a = none) -> Heap.SameBut a s.heap h' -> cf X.prog X.w H h' := fun {a h'} ha hs b ob e => by
  obtain ⟨_, _, hfree⟩ := ha
  refine (I.ao b ob e).kH (fun c w' hc q => (hs.2 c ?_).trans q) (fun _ q => q) fun _ _ q => q
  rintro rfl
  rcases hc with rfl | hc
  ·rw [hfree] at e; cases e
  ·rw [hfree] at hc; cases hc
 rcases hx with hk | hk
 ·refine wpAny_storeName_local hk hn (fun h' hn' hs => ?_) hcls
  obtain ⟨oL, _, _, hoL, _⟩ := id hn
  refine h _ ⟨I.ok, I.os, I.bare, ⟨fun b o e n hb hx => ?_, fun b o e n hb hx => ?_, I.base.free, fun b o e hx => ?_, I.base.fN, I.base.dH, I.base.hW⟩, ⟨_, hn', fun j y v' e1 e2 e3 => ?_⟩, fun y c e => ?_, I.free, I.b7, fun p hp => ?_, tracked ⟨oL, hoL, I.free⟩ hs, by simpa using I.len⟩ ⟨_, hs, .inl rfl⟩
  ·exact (hs.2 b (Nat.ne_of_lt (Nat.lt_of_lt_of_le (Heap.lt_size e) I.ok.above))).trans (I.base.keep b o e n hb hx)
  ·obtain ⟨sl, e1⟩ := I.base.slot b o e n hb hx
   exact ⟨sl, (hs.2 b (Nat.ne_of_lt (Nat.lt_of_lt_of_le (Heap.lt_size e) I.ok.above))).trans e1⟩
  ·obtain ⟨o', e1⟩ := I.base.there b o e hx
   exact ⟨o', (hs.2 b (Nat.ne_of_lt (Nat.lt_of_lt_of_le (Heap.lt_size e) I.ok.above))).trans e1⟩
  ·by_cases hj : j = i
   ·subst hj
    rw [hi] at e1; cases e1
    rw [List.getElem?_set_self hiσ] at e2
    cases e2
    exact ⟨u, r, .inl ⟨hk, by simp⟩⟩
   ·rw [List.getElem?_set_ne (Ne.symm hj)] at e2
    obtain ⟨u', r', q⟩ := hl j y v' e1 e2 e3
    refine ⟨u', r', ?_⟩
    rcases q with ⟨k, e⟩ | ⟨k, c, e, z⟩
    ·refine .inl ⟨k, ?_⟩
     have : y ≠ x := fun e => hj (qf hN e1 (e ▸ hi))
     simp [this, e]
    ·exact .inr ⟨k, c, e, z.sameBut hs (wg y c e)⟩
  ·obtain ⟨w', z⟩ := I.cell y c e
   exact ⟨w', z.sameBut hs (wg y c e)⟩
  ·obtain ⟨e, n, ne, nf, d⟩ := I.pin p hp
   exact ⟨(hs.2 p.1 ne).trans e, n, ne, nf, d⟩
 ·have hfn : X.fn x = true := by
   rcases hf with z | z
   ·exact z
   ·rw [z] at hk; cases hk
  obtain ⟨c, hc⟩ := I.ok.has x (.inl hk)
  obtain ⟨w', z⟩ := I.cell x c hc
  refine wpAny_storeName_cell I.ok.kind hk hc z (fun h' hc' hs => ?_)
  obtain ⟨oc, hoc, hocd⟩ := id z
  refine h { s with heap := h' } ⟨I.ok, I.os, I.bare, ⟨fun b o e n hb hx => ?_, fun b o e n hb hx => ?_, I.base.free, fun b o e hx => ?_, I.base.fN, I.base.dH, I.base.hW⟩, ⟨m, hn.sameBut hs (Ne.symm (wg x c hc)), fun j y v' e1 e2 e3 => ?_⟩, fun y c' e => ?_, I.free, I.b7, fun p hp => ?_, tracked ⟨oc, hoc, I.b7 x c hc⟩ hs, by simpa using I.len⟩ ⟨c, hs, .inr hc⟩
  ·exact (hs.2 b (Nat.ne_of_lt (Nat.lt_of_lt_of_le (Heap.lt_size e) (I.ok.Bg x c hfn hc)))).trans (I.base.keep b o e n hb hx)
  ·obtain ⟨sl, e1⟩ := I.base.slot b o e n hb hx
   exact ⟨sl, (hs.2 b (Nat.ne_of_lt (Nat.lt_of_lt_of_le (Heap.lt_size e) (I.ok.Bg x c hfn hc)))).trans e1⟩
  ·obtain ⟨o', e1⟩ := I.base.there b o e hx
   exact ⟨o', (hs.2 b (Nat.ne_of_lt (Nat.lt_of_lt_of_le (Heap.lt_size e) (I.ok.Bg x c hfn hc)))).trans e1⟩
  ·by_cases hj : j = i
   ·subst hj
    rw [hi] at e1; cases e1
    rw [List.getElem?_set_self hiσ] at e2
    cases e2
    exact ⟨u, r, .inr ⟨.inl hk, c, hc, hc'⟩⟩
   ·rw [List.getElem?_set_ne (Ne.symm hj)] at e2
    obtain ⟨u', r', q⟩ := hl j y v' e1 e2 e3
    refine ⟨u', r', ?_⟩
    rcases q with q | ⟨k, c', e, z'⟩
    ·exact .inl q
    ·refine .inr ⟨k, c', e, z'.sameBut hs ?_⟩
     rintro rfl
     exact hj (qf hN e1 (I.ok.inj _ _ _ e hc ▸ hi))
  ·by_cases hcc : c' = c
   ·subst hcc; exact ⟨_, hc'⟩
   ·obtain ⟨w2, z2⟩ := I.cell y c' e
    exact ⟨w2, z2.sameBut hs hcc⟩
  ·obtain ⟨e, n, ne, nf, d⟩ := I.pin p hp
   refine ⟨(hs.2 p.1 ?_).trans e, n, ne, nf, d⟩
   intro q
   rw [q, hoc] at e
   have q' : oc = p.2 := Option.some.inj e
   exact d w' (by rw [<- q']; exact hocd)
theorem mK {M : Model} {A : Around} {E : Value -> Shared -> Prop} {i : Nat} {x : Str} {v : V} {u : Value} {Q : Unit -> Shared -> Prop} (I : Inv X pins σ H s) (hN : X.N.Nodup) (hi : X.N[i]? = some x) (hx : Loc X.env.scope x) (r : RelV v u)
  (h : ∀ s', Inv X pins (σ.set i (some v)) H s' -> Q () s') (hf : X.fn x = true \/ X.env.scope.names.lookup x = some .local := by first | exact .inl rfl | exact .inr rfl | assumption) : wpAny M A (storeName X.env x u) Q E s :=
 vo I hN hi hx r (fun s' I' _ => h s' I') hf
theorem Inv.m7 {s' : Shared} {ch : List Addr} (I : Inv X pins σ H s) (ho : s'.os = s.os) (u : Un (lB X.stack) ch H H' s.heap s'.heap) (ao : cf X.prog X.w H' s'.heap) (hg : AllBare s'.gens)
  (hch : ∀ b ∈ ch, (b ∈ X.ex \/ X.s₀.heap.objs.size <= b) /\ b ≠ X.env.locals /\ (∀ x c, X.env.cells.lookup x = some c -> c ≠ b) /\ ∀ p ∈ X.pn ++ pins, p.1 ≠ b) : Inv X pins σ H' s' := by
 obtain ⟨h', g', d', t', o'⟩ := s'
 have e : o' = s.os := ho
 subst e
 exact I.call (g' := g') (t' := t') (d' := d') u ao hg hch
end
abbrev XK := Value -> Option Addr -> Hp -> Prop
abbrev St := List (Option V)
abbrev VK := V -> Hp -> Prop
abbrev TE := St -> Hp -> VK -> Prop
abbrev TT := St -> Hp -> (Bool -> Hp -> Prop) -> Prop
abbrev TA := St -> Hp -> (List V -> Hp -> Prop) -> Prop
structure Ends where
 nx : St -> Hp -> Prop
 rt : VK
 bk : St -> Hp -> Prop := fun _ _ => False
 ct : St -> Hp -> Prop := fun _ _ => False
abbrev TS := Ends -> St -> Hp -> Prop
def EP (X : Cx) (pins : List (Addr × Obj)) (σ : St) (Q : VK) (u : Value) (s' : Shared) : Prop := ∃ v H', Inv X pins σ H' s' /\ RelV v u /\ Q v H'
def TP (X : Cx) (pins : List (Addr × Obj)) (σ : St) (Q : Bool -> Hp -> Prop) (b : Bool) (s' : Shared) : Prop := ∃ H', Inv X pins σ H' s' /\ Q b H'
def AP (X : Cx) (pins : List (Addr × Obj)) (σ : St) (Q : List V -> Hp -> Prop) (us : List Value) (s' : Shared) : Prop := ∃ vs H', Inv X pins σ H' s' /\ Vals vs us /\ Q vs H'
def SP (X : Cx) (pins : List (Addr × Obj)) (D : Ends) (f : Flow) (s' : Shared) : Prop :=
 match f with
 | .next => ∃ σ' H', Inv X pins σ' H' s' /\ D.nx σ' H'
 | .brk => ∃ σ' H', Inv X pins σ' H' s' /\ D.bk σ' H'
 | .cont => ∃ σ' H', Inv X pins σ' H' s' /\ D.ct σ' H'
 | .ret u => ∃ v σ' H', Inv X pins σ' H' s' /\ RelV v u /\ D.rt v H'
def PE (X : Cx) (e : Expr) (t : TE) : Prop :=
 ∀ (pins : List (Addr × Obj)) (s : Shared) (σ : St) (H : Hp) (Q : VK), Inv X pins σ H s -> t σ H Q -> wpAny (model X.prog X.w) X.A (eval e X.env) (EP X pins σ Q) X.xe s
def PT (X : Cx) (e : Expr) (t : TT) : Prop :=
 ∀ (pins : List (Addr × Obj)) (s : Shared) (σ : St) (H : Hp) (Q : Bool -> Hp -> Prop), Inv X pins σ H s -> t σ H Q -> wpAny (model X.prog X.w) X.A (isTrue e X.env (eval e X.env)) (TP X pins σ Q) X.xe s
def PW (X : Cx) (e : Expr) (t : TT) : Prop :=
 ∀ (whole : Sem Value) (pins : List (Addr × Obj)) (s : Shared) (σ : St) (H : Hp) (Q : Bool -> Hp -> Prop), Inv X pins σ H s -> t σ H Q -> wpAny (model X.prog X.w) X.A (isTrue e X.env whole) (TP X pins σ Q) X.xe s
theorem PW.pt {X : Cx} {e : Expr} {t : TT} (h : PW X e t) : PT X e t := h _
def PA (X : Cx) (es : List Expr) (t : TA) : Prop :=
 ∀ (pos : Pos) (pins : List (Addr × Obj)) (s : Shared) (σ : St) (H : Hp) (Q : List V -> Hp -> Prop), Inv X pins σ H s -> t σ H Q -> wpAny (model X.prog X.w) X.A (spliced (backTo pos (starEach es X.env))) (AP X pins σ Q) X.xe s
def PS (X : Cx) (st : Stmt) (t : TS) : Prop :=
 ∀ (pins : List (Addr × Obj)) (s : Shared) (σ : St) (H : Hp) (D : Ends), Inv X pins σ H s -> t D σ H -> wpAny (model X.prog X.w) X.A (exec st X.env) (SP X pins D) X.xe s
def hX (X : Cx) (st : List Stmt) (t : TS) : Prop :=
 ∀ (pins : List (Addr × Obj)) (s : Shared) (σ : St) (H : Hp) (D : Ends), Inv X pins σ H s -> t D σ H -> wpAny (model X.prog X.w) X.A (execs st X.env) (SP X pins D) X.xe s
theorem bE {α : Type} {t : Sem α} {Q Q' : α -> Shared -> Prop} {M : Model} {A : Around} {E : Value -> Shared -> Prop} {s : Shared} (h : wpAny M A t Q E s) (hQ : ∀ a s, Q a s -> Q' a s) : wpAny M A t Q' E s := wpAny_mono h hQ fun _ _ x => x
section
variable {X : Cx}
def EC (i : Nat) : TE := fun σ H Q => ∃ v, σ[i]? = some (some v) /\ Q v H
def tC (v : V) : TE := fun _ H Q => Q v H
theorem iu {i : Nat} {x : Str} {pos : Pos} (hN : X.N[i]? = some x) (hv : wO X.env.scope x) (hd : (x == ("__debug__" : Str)) = false := by decide) (hcd : (x == ("__classdict__" : Str)) = false := by decide) : PE X (.Name x pos) (EC i) := by
 intro pins s σ H Q I h
 obtain ⟨v, e, h⟩ := h
 obtain ⟨m, hn, hl⟩ := I.loc
 obtain ⟨u, r, l⟩ := hl i x v hN e hv
 have fin : EP X pins σ Q u s := ⟨v, H, I, r, h⟩
 rcases l with ⟨hk, hm⟩ | ⟨hk, c, hc, hcell⟩
 ·exact wpAny_Name (wpAny_loadName_local I.ok.kind hk hn hm fin) hd
 ·rcases hk with hk | hk
  ·exact wpAny_Name (wpAny_loadName_cell I.ok.kind hk hc hcell fin) hd
  ·exact wpAny_Name (wpAny_loadName_free I.ok.kind hk hc hcell fin hcd) hd
theorem Dk {i j pos} : PE X (.Constant (.int i) j pos) (tC (.int i)) := fun _ _ _ H _ I h => wpAny_Constant_int ⟨.int i, H, I.tok _, ⟨_, rfl⟩, h⟩
theorem Fn {b j pos} : PE X (.Constant (.bool b) j pos) (tC (.bl b)) := fun _ _ _ H _ I h => Constant_bool ⟨.bl b, H, I, rfl, h⟩
theorem Dl {j pos} : PE X (.Constant .none j pos) (tC .aW) := fun _ _ _ H _ I h => Constant_none ⟨.aW, H, I, rfl, h⟩
theorem Dp {x j pos} : PE X (.Constant (.str x) j pos) (tC (.str x)) := fun _ _ _ H _ I h => Calls.Constant_str ⟨.str x, H, I.tok _, ⟨_, rfl⟩, h⟩
def Gl (X : Cx) (x : Str) : Prop := X.env.kindOf x = some .globalImplicit
theorem iE {E : Value -> Shared -> Prop} {pins : List (Addr × Obj)} {s : Shared} {σ : St} {H : Hp} {x : Str} {u : Value} {pos : Pos} {Q : Value -> Shared -> Prop} (I : Inv X pins σ H s) (hg : Gl X x) (hm : X.mg x = some u) (h : Q u s)
  (hd : (x == ("__debug__" : Str)) = false := by decide) : wpAny (model X.prog X.w) X.A (eval (.Name x pos) X.env) Q E s :=
 Calls.Name_function_global I.ok.kind hg (Calls.loadGlobal_global (by rw [I.ok.glob]; exact I.mod.glob.keeps I.bk) hm h) hd
theorem ip {E : Value -> Shared -> Prop} {pins : List (Addr × Obj)} {s : Shared} {σ : St} {H : Hp} {x : Str} {u : Value} {pos : Pos} {Q : Value -> Shared -> Prop} (I : Inv X pins σ H s) (hg : Gl X x) (hm : X.mg x = none) (hv : bootBuiltins x = some u) (h : Q u s)
  (hn : x ≠ "__name__" := by decide) (hd : (x == ("__debug__" : Str)) = false := by decide) : wpAny (model X.prog X.w) X.A (eval (.Name x pos) X.env) Q E s := by
 obtain ⟨mb, h1, h2⟩ := I.mod.blt
 exact Calls.Name_function_global I.ok.kind hg (Calls.loadGlobal_builtin (by rw [I.ok.glob]; exact I.mod.glob.keeps I.bk) hm (by rw [I.ok.blt]; exact h1.keeps I.bk) ((h2 x hn).trans hv) h) hd
theorem lG {x : Str} {v : V} {u : Value} {pos : Pos} (hg : Gl X x) (hm : X.mg x = some u) (r : RelV v u) (hd : (x == ("__debug__" : Str)) = false := by decide) : PE X (.Name x pos) (tC v) :=
 fun _ _ _ H _ I h => iE I hg hm ⟨v, H, I, r, h⟩ hd
theorem uJ {x : Str} {v : V} {u : Value} {pos : Pos} (hg : Gl X x) (hm : X.mg x = none) (hv : bootBuiltins x = some u) (r : RelV v u) (hn : x ≠ "__name__" := by decide) (hd : (x == ("__debug__" : Str)) = false := by decide) : PE X (.Name x pos) (tC v) :=
 fun _ _ _ H _ I h => ip I hg hm hv ⟨v, H, I, r, h⟩ hn hd
variable {a b : Expr} {ta tb : TE} {pos : Pos}
variable {tA tB' : TT} {rest : List Expr}
def Hj (t u : TT) : TT := fun σ H Q => t σ H fun c H1 => if c = true then u σ H1 Q else Q false H1
def JC (t u : TT) : TT := fun σ H Q => t σ H fun c H1 => if c = true then Q true H1 else u σ H1 Q
def Hn (t : TT) : TT := fun σ H Q => t σ H fun c H1 => Q (!c) H1
theorem A_ (ha : PT X a tA) : PW X (.BoolOp .And [a] pos) tA := by
 intro wh pins s σ H Q I h
 refine isTrue_and (bE (ha pins s σ H Q I h) fun c s1 e => ?_)
 cases c with
 | true => exact isTrue_and_nil e
 | false => exact e
theorem D1 (ha : PT X a tA) : PW X (.BoolOp .Or [a] pos) tA := by
 intro wh pins s σ H Q I h
 refine isTrue_or (bE (ha pins s σ H Q I h) fun c s1 e => ?_)
 cases c with
 | false => exact isTrue_or_nil e
 | true => exact e
theorem D0 (ha : PT X a tA) (hb : PW X (.BoolOp .And (b :: rest) pos) tB') : PW X (.BoolOp .And (a :: b :: rest) pos) (Hj tA tB') := by
 intro wh pins s σ H Q I h
 refine isTrue_and (bE (ha pins s σ H _ I h) fun c s1 ⟨H1, I1, q1⟩ => ?_)
 cases c with
 | true => exact hb wh pins s1 σ H1 Q I1 q1
 | false => exact ⟨H1, I1, q1⟩
theorem Fu (ha : PT X a tA) (hb : PW X (.BoolOp .Or (b :: rest) pos) tB') : PW X (.BoolOp .Or (a :: b :: rest) pos) (JC tA tB') := by
 intro wh pins s σ H Q I h
 refine isTrue_or (bE (ha pins s σ H _ I h) fun c s1 ⟨H1, I1, q1⟩ => ?_)
 cases c with
 | true => exact ⟨H1, I1, q1⟩
 | false => exact hb wh pins s1 σ H1 Q I1 q1
theorem Dz (ha : PT X a tA) : PT X (.UnaryOp .Not a pos) (Hn tA) := by
 intro pins s σ H Q I h
 exact isTrue_not (ha pins s σ H (fun c H1 => Q (!c) H1) I h)
def GB (ta tb : TE) : TE := fun σ H Q => ta σ H fun x H1 => ∃ c, x = .bl c /\ if c = true then tb σ H1 Q else Q (.bl false) H1
def Ho (ta tb : TE) : TE := fun σ H Q => ta σ H fun x H1 => ∃ c, x = .bl c /\ if c = true then Q (.bl true) H1 else tb σ H1 Q
theorem Dn {op} {t : TE} (h : PE X a t) : PE X (.BoolOp op [a] pos) t := fun pins s σ H Q I hw => BoolOp_one (h pins s σ H Q I hw)
theorem Dj (ha : PE X a ta) (hb : PE X (.BoolOp .And (b :: rest) pos) tb) : PE X (.BoolOp .And (a :: b :: rest) pos) (GB ta tb) := by
 intro pins s σ H Q I h
 refine BoolOp_and (bE (ha pins s σ H _ I h) fun v s1 ⟨x, H1, I1, r1, q1⟩ => ?_)
 obtain ⟨c, rfl, q1⟩ := q1
 cases r1
 refine wpAny_truthy_bool ?_
 cases c with
 | true => exact hb pins s1 σ H1 Q I1 q1
 | false => exact ⟨.bl false, H1, I1, rfl, q1⟩
theorem Fp (ha : PE X a ta) (hb : PE X (.BoolOp .Or (b :: rest) pos) tb) : PE X (.BoolOp .Or (a :: b :: rest) pos) (Ho ta tb) := by
 intro pins s σ H Q I h
 refine BoolOp_or (bE (ha pins s σ H _ I h) fun v s1 ⟨x, H1, I1, r1, q1⟩ => ?_)
 obtain ⟨c, rfl, q1⟩ := q1
 cases r1
 refine wpAny_truthy_bool ?_
 cases c with
 | false => exact hb pins s1 σ H1 Q I1 q1
 | true => exact ⟨.bl true, H1, I1, rfl, q1⟩
def JB (t : TT) (ta tb : TE) : TE := fun σ H Q => t σ H fun c H1 => if c = true then ta σ H1 Q else tb σ H1 Q
theorem yT {c : Expr} (hc : PT X c tA) (ha : PE X a ta) (hb : PE X b tb) : PE X (.IfExp c a b pos) (JB tA ta tb) := by
 intro pins s σ H Q I h
 refine wpAny_IfExp (bE (hc pins s σ H _ I h) fun d s1 ⟨H1, I1, q1⟩ => ?_)
 cases d with
 | true => exact ha pins s1 σ H1 Q I1 q1
 | false => exact hb pins s1 σ H1 Q I1 q1
end
def ck (K : PySem.W.Frag) (H : Hp) (a : Addr) (xs : List V) : Prop :=
 Rd H a (.lst xs) \/
  ∃ (o : Obj) (its : Array Value) (n : Nat), K.lookup a = some o /\ o.cls = .type "list" /\ o.dict = none /\ o.data = .seq its n /\ its.size <= sizeLine /\ Vals xs its.toList
def eT (K : PySem.W.Frag) (H : Hp) (a : Addr) (xs : List V) : Prop :=
 Rd H a (.tup xs) \/
  ∃ (o : Obj) (its : Array Value) (n : Nat), K.lookup a = some o /\ o.cls = .type "tuple" /\ o.data = .seq its n /\ its.size <= sizeLine /\ Vals xs its.toList
def Gx : Value -> Option V
 | .none => some .aW
 | .bool b => some (.bl b)
 | .int i _ => some (.int i)
 | .str x _ => some (.str x)
 | .bytes b _ => some (.rF b)
 | .float b _ => some (.Gj b)
 | .ref a => some (.ref a)
 | .type n => some (.ty n)
 | _ => none
theorem RelV.abs {x : V} {u : Value} (r : RelV x u) : Gx u = some x := by
 cases x with
 | aW => cases r; rfl
 | bl _ => cases r; rfl
 | int _ => obtain ⟨t, rfl⟩ := r; rfl
 | str _ => obtain ⟨t, rfl⟩ := r; rfl
 | rF _ => obtain ⟨t, rfl⟩ := r; rfl
 | Gj _ => obtain ⟨t, rfl⟩ := r; rfl
 | ref _ => cases r; rfl
 | ty _ => cases r; rfl
theorem RelV.inj {x y : V} {u : Value} (r : RelV x u) (q : RelV y u) : x = y := Option.some.inj (r.abs.symm.trans q.abs)
theorem Vals.inj : ∀ {xs ys : List V} {us : List Value}, Vals xs us -> Vals ys us -> xs = ys
 | _, _, _, .nil, .nil => rfl
 | _, _, _, .cons r t, .cons r' t' => by rw [r.inj r', Vals.inj t t']
section
variable {X : Cx} {pins : List (Addr × Obj)} {σ : St} {H : Hp} {s : Shared} {a : Addr} {xs ys : List V}
theorem ck.of {K : PySem.W.Frag} (h : H a = some (.lst xs)) : ck K H a xs := .inl (.inl h)
theorem eT.of {K : PySem.W.Frag} (h : H a = some (.tup xs)) : eT K H a xs := .inl (.inl h)
theorem Inv.list (I : Inv X pins σ H s) (h : ck X.K H a xs) : ∃ its : List Value, Vals xs its /\ PlainL s.heap a its.toArray /\ xs.length <= sizeLine := by
 rcases h with h | ⟨o, its, n, hk, hc, hd, hs, hz, r⟩
 ·obtain ⟨z, its, n, r, e⟩ := h.ok I.ao
  exact ⟨its, r, ⟨_, n, e, rfl, rfl, rfl⟩, z⟩
 ·refine ⟨its.toList, r, ⟨o, n, I.iN a o hk, hc, hd, by simpa using hs⟩, ?_⟩
  have e := r.length
  simp only [Array.length_toList] at e
  omega
theorem Inv.tuple (I : Inv X pins σ H s) (h : eT X.K H a xs) : ∃ its : List Value, Vals xs its /\ IsTup s.heap a its.toArray /\ xs.length <= sizeLine := by
 rcases h with h | ⟨o, its, n, hk, hc, hs, hz, r⟩
 ·obtain ⟨z, its, r, p⟩ := h.ok I.ao
  exact ⟨its, r, p, z⟩
 ·refine ⟨its.toList, r, ⟨o, I.iN a o hk, hc, n, by simpa using hs⟩, ?_⟩
  have e := r.length
  simp only [Array.length_toList] at e
  omega
theorem Inv.qZ (I : Inv X pins σ H s) (h : ck X.K H a xs) (h' : ck X.K H a ys) : xs = ys := by
 obtain ⟨its, r, ⟨o, n, e, _, _, d⟩, _⟩ := I.list h
 obtain ⟨its', r', ⟨o', n', e', _, _, d'⟩, _⟩ := I.list h'
 rw [e] at e'; cases e'
 rw [d] at d'
 injection d' with d1 _
 have : its = its' := by simpa using congrArg Array.toList d1
 subst this
 exact r.inj r'
theorem Inv.nh (I : Inv X pins σ H s) (h : eT X.K H a xs) (h' : eT X.K H a ys) : xs = ys := by
 obtain ⟨its, r, ⟨o, e, _, n, d⟩, _⟩ := I.tuple h
 obtain ⟨its', r', ⟨o', e', _, n', d'⟩, _⟩ := I.tuple h'
 rw [e] at e'; cases e'
 rw [d] at d'
 injection d' with d1 _
 have : its = its' := by simpa using congrArg Array.toList d1
 subst this
 exact r.inj r'
end
abbrev Cx.k_ (X : Cx) (E : Value -> Shared -> Prop) : Cx := { X with xe := E }
abbrev Cx.DS (X : Cx) : Cx := X.k_ fun _ _ => False
theorem Cx.Ok.k_ {X : Cx} (ok : X.Ok) (E : Value -> Shared -> Prop) : (X.k_ E).Ok :=
 ⟨ok.mod, ok.kind, ok.glob, ok.blt, ok.above, ok.inj, ok.has, ok.Bg, ok.hd, ok.frames, ok.D8, ok.E2, ok.bs, ok.wC, ok.qg, ok.qE, ok.fu, ok.wG⟩
theorem Cx.Ok.fP {X : Cx} {E : Value -> Shared -> Prop} (ok : (X.k_ E).Ok) : X.Ok :=
 ⟨ok.mod, ok.kind, ok.glob, ok.blt, ok.above, ok.inj, ok.has, ok.Bg, ok.hd, ok.frames, ok.D8, ok.E2, ok.bs, ok.wC, ok.qg, ok.qE, ok.fu, ok.wG⟩
section
variable {X : Cx} {pins : List (Addr × Obj)} {σ : St} {H : Hp} {s : Shared} {E : Value -> Shared -> Prop}
theorem Inv.k_ (I : Inv X pins σ H s) (E : Value -> Shared -> Prop) : Inv (X.k_ E) pins σ H s := ⟨I.ok.k_ E, I.os, I.bare, I.base, I.loc, I.cell, I.free, I.b7, I.pin, I.ao, I.len⟩
theorem Inv.fP (I : Inv (X.k_ E) pins σ H s) : Inv X pins σ H s := ⟨I.ok.fP, I.os, I.bare, I.base, I.loc, I.cell, I.free, I.b7, I.pin, I.ao, I.len⟩
theorem SP.fP {D : Ends} {f : Flow} {s' : Shared} (h : SP (X.k_ E) pins D f s') : SP X pins D f s' := by
 cases f with
 | next => obtain ⟨σ', H', I, q⟩ := h; exact ⟨σ', H', I.fP, q⟩
 | brk => obtain ⟨σ', H', I, q⟩ := h; exact ⟨σ', H', I.fP, q⟩
 | cont => obtain ⟨σ', H', I, q⟩ := h; exact ⟨σ', H', I.fP, q⟩
 | ret u => obtain ⟨v, σ', H', I, r, q⟩ := h; exact ⟨v, σ', H', I.fP, r, q⟩
theorem hX.DS {st : List Stmt} {t : TS} (h : hX X.DS st t) : hX X st t := fun pins s σ H D I hw =>
 wpAny_mono (h pins s σ H D (I.k_ _) hw) (fun _ _ q => q.fP) fun _ _ z => False.elim z
end
section
variable {X : Cx} {st : Stmt} {rest : List Stmt} {t u : TS} {e : Expr} {te : TE} {pos : Pos}
def GL : TS := fun D σ H => D.nx σ H
def GO (t u : TS) : TS := fun D σ H => t { D with nx := u D } σ H
theorem pG : hX X [] GL := fun _ _ σ H _ I h => wpAny_execs_nil ⟨σ, H, I, h⟩
theorem gv (h1 : PS X st t) (h2 : hX X rest u) : hX X (st :: rest) (GO t u) := by
 intro pins s σ H D I h
 refine wpAny_execs_cons (bE (h1 pins s σ H { D with nx := u D } I h) fun f s1 q => ?_)
 cases f with
 | next =>
  obtain ⟨σ', H', I', q⟩ := q
  exact h2 pins s1 σ' H' D I' q
 | ret v => exact q
 | brk => exact q
 | cont => exact q
theorem pH (h1 : PS X st t) : hX X [st] t := by
 intro pins s σ H D I h
 refine wpAny_execs_cons (bE (h1 pins s σ H D I h) fun f s1 q => ?_)
 cases f with
 | next => exact wpAny_execs_nil q
 | ret v => exact q
 | brk => exact q
 | cont => exact q
theorem Inv.quiet {pins : List (Addr × Obj)} {σ : St} {H : Hp} {s : Shared} (I : Inv X pins σ H s) : interactive X.env = false := by simp [interactive, I.ok.kind]
def GH (te : TE) : TS := fun D σ H => te σ H fun _ H1 => D.nx σ H1
theorem uN (he : PE X e te) (hs : swapsWith e none pos.line X.env = pure false := by rfl) : PS X (.Expr e pos) (GH te) := by
 intro pins s σ H D I h
 exact wpAny_Expr_any (bE (he pins s σ H _ I h) fun v s1 ⟨x, H1, I1, r1, q1⟩ => ⟨σ, H1, I1, q1⟩) I.quiet hs
def Hq (te : TE) : TS := fun D σ H => te σ H D.rt
theorem Dy (he : PE X e te) : PS X (.Return (some e) pos) (Hq te) := by
 intro pins s σ H D I h
 exact wpAny_Return_some (bE (he pins s σ H _ I h) fun v s1 ⟨x, H1, I1, r1, q1⟩ => ⟨x, σ, H1, I1, r1, q1⟩)
def Hl (c : TT) (t u : TS) : TS := fun D σ H => c σ H fun b H1 => if b = true then t D σ H1 else u D σ H1
theorem Bz {c : Expr} {a b : List Stmt} {tc : TT} (hc : PT X c tc) (ha : hX X a t) (hb : hX X b u) : PS X (.If c a b pos) (Hl tc t u) := by
 intro pins s σ H D I h
 refine wpAny_If (bE (hc pins s σ H _ I h) fun d s1 ⟨H1, I1, q1⟩ => ?_)
 cases d with
 | true => exact ha pins s1 σ H1 D I1 q1
 | false => exact hb pins s1 σ H1 D I1 q1
def EA : TS := fun _ _ _ => False
theorem yd : PS X st EA := fun _ _ _ _ _ _ h => h.elim
end
abbrev TG := V -> St -> Hp -> (St -> Hp -> Prop) -> Prop
abbrev Be := List V -> St -> Hp -> (St -> Hp -> Prop) -> Prop
def PG (X : Cx) (target : Expr) (t : TG) : Prop :=
 ∀ (pins : List (Addr × Obj)) (s : Shared) (σ : St) (H : Hp) (v : V) (u : Value) (Q : St -> Hp -> Prop), Inv X pins σ H s -> RelV v u -> t v σ H Q ->
  wpAny (model X.prog X.w) X.A (assign target X.env u) (fun _ s' => ∃ σ' H', Inv X pins σ' H' s' /\ Q σ' H') X.xe s
def zK (X : Cx) (ts : List Expr) (t : Be) : Prop :=
 ∀ (pins : List (Addr × Obj)) (s : Shared) (σ : St) (H : Hp) (vs : List V) (us : List Value) (Q : St -> Hp -> Prop), Inv X pins σ H s -> Vals vs us -> t vs σ H Q ->
  wpAny (model X.prog X.w) X.A (assignInOrder ((assignEach ts X.env).map (·.2)) us) (fun _ s' => ∃ σ' H', Inv X pins σ' H' s' /\ Q σ' H') X.xe s
abbrev CK := V -> V -> V -> Hp -> (Hp -> Prop) -> Prop
def Eg (X : Cx) (t : CK) : Prop :=
 ∀ (pins : List (Addr × Obj)) (s : Shared) (σ : St) (H : Hp) (o i v : V) (ov iv u : Value) (Q : Hp -> Prop), Inv X pins σ H s -> RelV o ov -> RelV i iv -> RelV v u -> t o i v H Q ->
  wpAny (model X.prog X.w) X.A (setItem ov iv u) (fun _ s' => ∃ H', Inv X pins σ H' s' /\ Q H') X.xe s
section
variable {X : Cx} {pos : Pos}
def gJ (i : Nat) : TG := fun v σ H Q => Q (σ.set i (some v)) H
theorem bw {i : Nat} {x : Str} (hN : X.N.Nodup) (hi : X.N[i]? = some x) (hx : Loc X.env.scope x) (hf : X.fn x = true \/ X.env.scope.names.lookup x = some .local := by first | exact .inl rfl | exact .inr rfl | assumption) : PG X (.Name x pos) (gJ i) := by
 intro pins s σ H v u Q I r h
 exact wpAny_assign_Name (mK I hN hi hx r (fun s' I' => ⟨_, H, I', h⟩) hf)
def Cq : Be := fun vs σ H Q => vs = [] /\ Q σ H
def qG (t : TG) (u : Be) : Be := fun vs σ H Q => ∃ v r, vs = v :: r /\ t v σ H fun σ' H' => u r σ' H' Q
theorem uL : zK X [] Cq := by
 intro pins s σ H vs us Q I r h
 obtain ⟨e, h⟩ := h
 subst e
 cases r
 exact assignInOrder_nil ⟨σ, H, I, h⟩
theorem l_ {e : Expr} {es : List Expr} {t : TG} {u : Be} (h1 : PG X e t) (h2 : zK X es u)
  (hs : (assignEach (e :: es) X.env).map (·.2) = assign e X.env :: (assignEach es X.env).map (·.2) := by rfl) : zK X (e :: es) (qG t u) := by
 intro pins s σ H vs us Q I r h
 obtain ⟨v, vr, e1, h⟩ := h
 subst e1
 cases r with
 | cons r rr =>
  rw [hs]
  refine assignInOrder_cons (bE (h1 pins s σ H _ _ _ I r h) fun _ s1 ⟨σ1, H1, I1, q1⟩ => ?_)
  exact h2 pins s1 σ1 H1 _ _ Q I1 rr q1
def Cr (K : PySem.W.Frag) (n : Nat) (t : Be) : TG := fun v σ H Q => ∃ a xs, v = .ref a /\ eT K H a xs /\ xs.length = n /\ t xs σ H Q
theorem yY {es : List Expr} {k : Nat} {t : Be} {n : Nat} (hc : X.calm = true) (h : zK X es t)
  (hn : (assignEach es X.env).length = n := by rfl) (hst : (assignEach es X.env).findIdx? (·.1) = none := by rfl) : PG X (.Tuple es k pos) (Cr X.K n t) := by
 intro pins s σ H v u Q I r hw
 obtain ⟨a, xs, e1, hq, hl, hw⟩ := hw
 subst e1
 cases r
 obtain ⟨its, rv, ht, hz⟩ := I.tuple hq
 refine assign_Tuple_tuple (I.ok.hd hc) ht (by simp [hn, <- hl, rv.length]) hst fun h' hx => ?_
 have I1 : Inv X pins σ H { s with heap := h' } := I.kept (t' := s.toks) fun b o e => hx b o (Nat.ne_of_lt (Heap.lt_size e)) e
 exact h pins _ σ H xs _ Q I1 (by simpa using rv) hw
def G9 (to ti : TE) (t : CK) : TG := fun v σ H Q => to σ H fun o H1 => ti σ H1 fun i H2 => t o i v H2 fun H3 => Q σ H3
theorem Dr {o i : Expr} {to ti : TE} {t : CK} (ho : PE X o to) (hi : PE X i ti) (hs : Eg X t)
  (ha : ∀ v, assign (.Subscript o i pos) X.env v = (do
   let ov <- holding [v] (eval o X.env)
   let iv <- holding [v, ov] (eval i X.env)
   standAt pos
   holding [v, ov, iv] (setItem ov iv v)
   release [v, ov, iv] []) := by intro _; rfl) : PG X (.Subscript o i pos) (G9 to ti t) := by
 intro pins s σ H v u Q I r h
 rw [ha]
 refine wpAny_bind (wpAny_holding (bE (ho pins s σ H _ I h) fun ov s1 ⟨x, H1, I1, r1, q1⟩ => ?_))
 refine wpAny_bind (wpAny_holding (bE (hi pins s1 σ H1 _ I1 q1) fun iv s2 ⟨y, H2, I2, r2, q2⟩ => ?_))
 refine wpAny_bind (wpAny_standAt (wpAny_bind (wpAny_holding (bE (hs pins s2 σ H2 x y v ov iv u _ I2 r1 r2 r q2) fun _ s3 ⟨H3, I3, q3⟩ => ?_))))
 exact wpAny_release ⟨σ, H3, I3, q3⟩
def GC (te : TE) (g : TG) : TS := fun D σ H => te σ H fun x H1 => g x σ H1 D.nx
theorem Dw {tg e : Expr} {te : TE} {g : TG} (he : PE X e te) (hg : PG X tg g) (hs : swapsWithSole [tg] e pos.line X.env = pure false := by rfl) (hw : swappedStores [tg] e X.env = pure none := by rfl)
  (h1 : (assignEach [tg] X.env).map (·.2) = [assign tg X.env] := by rfl) : PS X (.Assign [tg] e pos) (GC te g) := by
 intro pins s σ H D I h
 refine wpAny_Assign_stores (bE (he pins s σ H _ I h) fun v s1 ⟨x, H1, I1, r1, q1⟩ => ?_) hs hw
 rw [h1]
 exact bE (hg pins s1 σ H1 x v _ I1 r1 q1) fun _ s2 q => q
theorem sQ {i : Nat} {x : Str} {e : Expr} {te : TE} {pos' : Pos} (hN : X.N.Nodup) (hi : X.N[i]? = some x) (hx : Loc X.env.scope x) (he : PE X e te) (hs : swapsWith e (some (.Name x pos')) pos.line X.env = pure false := by rfl) (hf : X.fn x = true \/ X.env.scope.names.lookup x = some .local := by first | exact .inl rfl | exact .inr rfl | assumption) :
  PS X (.Assign [.Name x pos'] e pos) (GC te (gJ i)) := by
 intro pins s σ H D I h
 refine wpAny_Assign_Name (bE (he pins s σ H _ I h) fun v s1 ⟨y, H1, I1, r1, q1⟩ => ?_) hs
 exact mK I1 hN hi hx r1 (fun s2 I2 => ⟨_, H1, I2, q1⟩) hf
end
section
variable {X : Cx} {pos : Pos}
end
structure It where
 go : Nat -> Hp -> Prop
 wI : Nat -> Hp -> V -> Hp -> Prop
 stop : Nat -> Hp -> Prop
def gW (X : Cx) (pins : List (Addr × Obj)) (H : Hp) (b : Addr) : Prop :=
 H b = none /\ b ≠ X.env.locals /\ b ∉ X.fs /\ (b ∈ X.ex \/ X.s₀.heap.objs.size <= b) /\ (∀ x c, X.env.cells.lookup x = some c -> c ≠ b) /\ ∀ p ∈ X.pn ++ pins, p.1 ≠ b
theorem Inv.xQ {X : Cx} {pins : List (Addr × Obj)} {σ : St} {H H' : Hp} {s : Shared} {b : Addr} (I : Inv X pins σ H s) (hb : s.heap.objs.size <= b) (hn : H' b = none) : gW X pins H' b := by
 refine ⟨hn, Nat.ne_of_gt (Nat.lt_of_lt_of_le I.lt hb), I.HW hb, .inr (Nat.le_trans I.sz hb), fun x c e z => ?_, fun p hp z => ?_⟩
 ·obtain ⟨v, q⟩ := I.cell x c e
  exact absurd (Nat.lt_of_lt_of_le q.lt (by rw [z]; exact hb)) (Nat.lt_irrefl _)
 ·exact absurd (Nat.lt_of_lt_of_le (Heap.lt_size (I.pin p hp).1) (by rw [z]; exact hb)) (Nat.lt_irrefl _)
structure Turn (P : Program) (w : World) (K : PySem.W.Frag) (tg : Expr) (J : It) (fp : List Addr) (it : Addr) (tn : Nat -> Heap -> Prop) : Prop where
 mem : it ∈ fp
 obj : ∀ i h, tn i h -> ∀ b ∈ fp, ∃ o, h.get? b = some o /\ ∀ v, o.data ≠ .cell v
 keep : ∀ i h h', tn i h -> (∀ b ∈ fp, ∀ o, h.get? b = some o -> h'.get? b = some o) -> tn i h'
 item : ∀ (X : Cx), X.prog = P -> X.w = w -> X.K = K -> X.calm = true -> ∀ (i : Nat) (pins : List (Addr × Obj)) (s : Shared) (σ : St) (H : Hp) (E : Value -> Shared -> Prop), Inv X pins σ H s -> (∀ b ∈ fp, gW X pins H b) -> tn i s.heap -> J.go i H ->
  wpAny (model P w) X.A (pyNext (.ref it)) (fun r s1 => ∃ u, r = some u /\
   wpAny (model P w) X.A (letOwnedTupleGo tg (.ref it) u) (fun _ s2 => ∃ x H', Inv X pins σ H' s2 /\ RelV x u /\ J.wI i H x H' /\ tn (i + 1) s2.heap /\ ∀ b ∈ fp, H' b = none) E s1) E s
 done : ∀ (X : Cx), X.prog = P -> X.w = w -> X.K = K -> X.calm = true -> ∀ (i : Nat) (pins : List (Addr × Obj)) (s : Shared) (σ : St) (H : Hp) (E : Value -> Shared -> Prop), Inv X pins σ H s -> (∀ b ∈ fp, gW X pins H b) -> tn i s.heap -> J.stop i H ->
  wpAny (model P w) X.A (pyNext (.ref it)) (fun r s1 => r = none /\ Inv X pins σ H s1) E s
 self : ∀ (A : Around) (i : Nat) (s : Shared) (Q : Value -> Shared -> Prop) (E : Value -> Shared -> Prop), tn i s.heap -> Q (.ref it) s -> wpAny (model P w) A (pyIter (.ref it)) Q E s
abbrev TI := St -> Hp -> (It -> Hp -> Prop) -> Prop
def IL (X : Cx) (pins : List (Addr × Obj)) (σ : St) (tg : Expr) (R : It -> Hp -> Prop) (itv : Value) (s2 : Shared) : Prop :=
 ∃ (it : Addr) (fp : List Addr) (tn : Nat -> Heap -> Prop) (J : It) (H' : Hp), itv = .ref it /\ Inv X pins σ H' s2 /\ Turn X.prog X.w X.K tg J fp it tn /\ tn 0 s2.heap /\ (∀ b ∈ fp, gW X pins H' b) /\ R J H'
def PI (X : Cx) (tg iter : Expr) (wi : TI) : Prop :=
 ∀ (pins : List (Addr × Obj)) (s : Shared) (σ : St) (H : Hp) (R : It -> Hp -> Prop), Inv X pins σ H s -> wi σ H R ->
  wpAny (model X.prog X.w) X.A (eval iter X.env) (fun v s1 => wpAny (model X.prog X.w) X.A (pyIter v) (IL X pins σ tg R) X.xe s1) X.xe s
theorem qJ {M : Model} {A : Around} {E : Value -> Shared -> Prop} {s : Shared} {tg : Expr} {it : Addr} {u : Value} {o : Obj} {n : String} {vs : Array Value} {Q : Unit -> Shared -> Prop} (ho : s.heap.get? it = some o) (hc : o.cls = .type n) (hd : o.data = .fields vs)
    (hn : ["enumerate", "zip", "dict_itemiterator", "dict_reverseitemiterator", "odict_iterator", "itertools.zip_longest", "itertools.pairwise"].contains n = false) (hQ : Q () s) : wpAny M A (letOwnedTupleGo tg (.ref it) u) Q E s := by
  unfold letOwnedTupleGo
  cases tg <;> first
    | exact wpAny_pure hQ
    | (cases u <;> first
        | exact wpAny_pure hQ
        | (refine wpAny_bind (wpAny_load ho ?_)
           rw [hc, hd]
           show wpAny M A (if (["enumerate", "zip", "dict_itemiterator", "dict_reverseitemiterator", "odict_iterator", "itertools.zip_longest", "itertools.pairwise"].contains n && vs[0]? == some (rawInt _)) = true then _ else _) Q E s
           rw [if_neg (by intro h; rw [hn, Bool.false_and] at h; cases h)]
           exact wpAny_pure hQ))
def IF (K : PySem.W.Frag) (a : Addr) : It :=
 ⟨fun i H => ∃ xs x, ck K H a xs /\ xs[i]? = some x, fun i H x H' => H' = H /\ ∀ xs, ck K H a xs -> xs[i]? = some x, fun i H => ∃ xs, ck K H a xs /\ xs.length <= i⟩
def IG (K : PySem.W.Frag) (a : Addr) : It :=
 ⟨fun i H => ∃ xs x, eT K H a xs /\ xs[i]? = some x, fun i H x H' => H' = H /\ ∀ xs, eT K H a xs -> xs[i]? = some x, fun i H => ∃ xs, eT K H a xs /\ xs.length <= i⟩
def Gd (lo : Int) (n : Nat) : It := ⟨fun i _ => i < n, fun i H x H' => H' = H /\ x = .int (lo + i), fun i _ => n <= i⟩
theorem vx {P : Program} {w : World} {K : PySem.W.Frag} {tg : Expr} (a it : Addr) : Turn P w K tg (IF K a) [it] it (fun i h => h.IsListIter it a i) where
 mem := by simp
 obj := fun i h st b hb => by
  have e : b = it := by simpa using hb
  subst e
  obtain ⟨o, e, c, d⟩ := st
  exact ⟨o, e, fun v z => by rw [d] at z; cases z⟩
 keep := fun i h h' st k => st.at fun o e => k it (by simp) o e
 item := by
  intro X hP hw hK hc i pins s σ H E I hf st hg
  subst hP hw hK
  obtain ⟨xs, x, hq, hx⟩ := hg
  obtain ⟨its, rv, p, hz⟩ := I.list hq
  obtain ⟨u, hu, ru⟩ := rv.get hx
  obtain ⟨f0, f1, f2, f3, f4, f5⟩ := hf it (by simp)
  refine wpAny_pyNext_list_item st p.isList (x := u) (by simpa using hu) fun h' st' sb => ?_
  have I1 : Inv X pins σ H { s with heap := h' } := I.turned (t' := s.toks) (fun b o hb e => (sb.2 b hb).trans e) f0 f1 f3 f4 f5
  obtain ⟨o, e, c, d⟩ := id st'
  exact ⟨u, rfl, qJ (s := { s with heap := h' }) e c d (by decide) ⟨x, H, I1, ru, ⟨rfl, fun ys hy => by rw [I.qZ hy hq]; exact hx⟩, st', fun b hb => (hf b hb).1⟩⟩
 done := by
  intro X hP hw hK hc i pins s σ H E I hf st hg
  subst hP hw hK
  obtain ⟨xs, hq, hx⟩ := hg
  obtain ⟨its, rv, p, hz⟩ := I.list hq
  obtain ⟨f0, f1, f2, f3, f4, f5⟩ := hf it (by simp)
  have hl := rv.length
  exact wpAny_pyNext_list_end (I.ok.hd hc) st p.isList (by simp; omega) fun h' eb => ⟨rfl, I.turned (t' := s.toks) (fun b o hb e => eb b o hb e) f0 f1 f3 f4 f5⟩
 self := fun _ _ _ _ _ st h => wpAny_pyIter_listiter st h
theorem tE {P : Program} {w : World} {K : PySem.W.Frag} {tg : Expr} (a it : Addr) : Turn P w K tg (IG K a) [it] it (fun i h => h.IsTupleIter it a i) where
 mem := by simp
 obj := fun i h st b hb => by
  have e : b = it := by simpa using hb
  subst e
  obtain ⟨o, e, c, d⟩ := st
  exact ⟨o, e, fun v z => by rw [d] at z; cases z⟩
 keep := fun i h h' st k => st.at fun o e => k it (by simp) o e
 item := by
  intro X hP hw hK hc i pins s σ H E I hf st hg
  subst hP hw hK
  obtain ⟨xs, x, hq, hx⟩ := hg
  obtain ⟨its, rv, p, hz⟩ := I.tuple hq
  obtain ⟨u, hu, ru⟩ := rv.get hx
  obtain ⟨f0, f1, f2, f3, f4, f5⟩ := hf it (by simp)
  refine wpAny_pyNext_tuple_item st (show s.heap.IsTuple a its.toArray from p) (x := u) (by simpa using hu) fun h' st' sb => ?_
  have I1 : Inv X pins σ H { s with heap := h' } := I.turned (t' := s.toks) (fun b o hb e => (sb.2 b hb).trans e) f0 f1 f3 f4 f5
  obtain ⟨o, e, c, d⟩ := id st'
  exact ⟨u, rfl, qJ (s := { s with heap := h' }) e c d (by decide) ⟨x, H, I1, ru, ⟨rfl, fun ys hy => by rw [I.nh hy hq]; exact hx⟩, st', fun b hb => (hf b hb).1⟩⟩
 done := by
  intro X hP hw hK hc i pins s σ H E I hf st hg
  subst hP hw hK
  obtain ⟨xs, hq, hx⟩ := hg
  obtain ⟨its, rv, p, hz⟩ := I.tuple hq
  obtain ⟨f0, f1, f2, f3, f4, f5⟩ := hf it (by simp)
  have hl := rv.length
  exact wpAny_pyNext_tuple_end (I.ok.hd hc) st (show s.heap.IsTuple a its.toArray from p) (by simp; omega) fun h' eb => ⟨rfl, I.turned (t' := s.toks) (fun b o hb e => eb b o hb e) f0 f1 f3 f4 f5⟩
 self := fun _ _ _ _ _ st h => wpAny_pyIter_tupleiter st h
theorem tD {P : Program} {w : World} {K : PySem.W.Frag} {tg : Expr} (it : Addr) (lo : Int) (n : Nat) : Turn P w K tg (Gd lo n) [it] it (fun i h => IsRangeIter h it (lo + (i : Nat) * 1) ((n : Int) - (i : Nat)) 1) where
 mem := by simp
 obj := fun i h st b hb => by
  have e : b = it := by simpa using hb
  subst e
  exact ⟨_, st, fun v z => by
   have z' : Data.fields _ = Data.cell v := z
   cases z'⟩
 keep := fun i h h' st k => k it (by simp) _ st
 item := by
  intro X hP hw hK hc i pins s σ H E I hf st hg
  subst hP hw hK
  obtain ⟨f0, f1, f2, f3, f4, f5⟩ := hf it (by simp)
  have W := Walks.range (prog := X.prog) (w := X.w) (I.ok.hd hc) it lo 1 n
  refine W.item i s _ _ hg st fun v h' tk hv st' kk => ?_
  obtain ⟨t, rfl⟩ := hv
  have I1 : Inv X pins σ H { s with heap := h', toks := tk } := I.turned (fun b o hb e => kk b o (by simpa using hb) e) f0 f1 f3 f4 f5
  refine ⟨_, rfl, qJ (s := { s with heap := h', toks := tk }) (n := "range_iterator") st' rfl rfl (by decide) ⟨.int (lo + i), H, I1, ⟨t, ?_⟩, ⟨rfl, rfl⟩, st', fun b hb => (hf b hb).1⟩⟩
  rw [Int.mul_one]
 done := by
  intro X hP hw hK hc i pins s σ H E I hf st hg
  subst hP hw hK
  obtain ⟨f0, f1, f2, f3, f4, f5⟩ := hf it (by simp)
  exact wpAny_pyNext_range_end (I.ok.hd hc) st (by have : n <= i := hg; omega) fun h' eb => ⟨rfl, I.turned (t' := s.toks) (fun b o hb e => eb b o hb e) f0 f1 f3 f4 f5⟩
 self := fun _ _ _ _ _ st h => wpAny_pyIter_rangeiter st h
section
variable {X : Cx} {tg : Expr}
theorem yg {pins : List (Addr × Obj)} {σ : St} {H : Hp} {s : Shared} {R : It -> Hp -> Prop} {E : Value -> Shared -> Prop} {lo hi : Int} {t u v : Tok} {tk : Nat} (I : Inv X pins σ H s) (h1 : -(2 ^ 62) <= lo) (h2 : lo < 2 ^ 62) (h3 : -(2 ^ 62) <= hi) (h4 : hi < 2 ^ 62)
  (q : R (Gd lo (hi - lo).toNat) H) : wpAny (model X.prog X.w) X.A (pyIter (.ref s.heap.objs.size)) (IL X pins σ tg R) E { s with heap := s.heap.push { cls := .type "range", data := .fields #[.int lo t, .int hi u, .int 1 v] }, toks := tk } := by
 refine wpAny_pyIter_range (IsRange.new ..) (small_one h1 h2 h3 h4) ?_
 have I1 : Inv X pins σ H { s with heap := s.heap.push { cls := .type "range", data := .fields #[.int lo t, .int hi u, .int 1 v] }, toks := tk } := I.kept fun b o e => Heap.get?_push_of_some _ e
 refine ⟨(s.heap.push { cls := .type "range", data := .fields #[.int lo t, .int hi u, .int 1 v] }).objs.size, [(s.heap.push { cls := .type "range", data := .fields #[.int lo t, .int hi u, .int 1 v] }).objs.size], _, _, H, rfl,
  I1.kept (t' := tk) fun b o e => Heap.get?_push_of_some _ e, tD _ lo (hi - lo).toNat, ?_, fun b hb => ?_, q⟩
 ·have e1 : lo + ((0 : Nat) : Int) * 1 = lo := by simp
  have e2 : (((hi - lo).toNat : Nat) : Int) - ((0 : Nat) : Int) = Builtin.Range.rangeSize lo hi 1 := by rw [rangeSize_one]; split <;> omega
  show IsRangeIter _ _ (lo + ((0 : Nat) : Int) * 1) ((((hi - lo).toNat : Nat) : Int) - ((0 : Nat) : Int)) 1
  rw [e1, e2]
  exact Heap.get?_push_size _ rfl
 ·have e : b = (s.heap.push { cls := .type "range", data := .fields #[.int lo t, .int hi u, .int 1 v] }).objs.size := by simpa using hb
  subst e
  exact I1.xQ (Nat.le_refl _) (I1.ao.fresh (Nat.le_refl _))
def FG (ta : TA) : TI := fun σ H R => ta σ H fun vs H1 => ∃ j : Int, vs = [.int j] /\ -(2 ^ 62) <= j /\ j < 2 ^ 62 /\ R (Gd 0 j.toNat) H1
theorem vX {a : Expr} {ta : TA} {p pos : Pos} (hg : Gl X "range") (hm : X.mg "range" = none) (ha : PA X [a] ta) (hs : starEach [a] X.env = [(false, eval a X.env)] := by rfl) : PI X tg (.Call (.Name "range" p) [a] [] pos) (FG ta) := by
 intro pins s σ H R I h
 refine Call_ (ip I hg hm boot_range (PyProof.Rows.callWith_type1 (bE (ha pos pins s σ H _ I h) fun us s1 ⟨vs, H1, I1, r1, q1⟩ => ?_) hs rfl))
 obtain ⟨j, e, q1, q2, q⟩ := q1
 subst e
 cases r1 with
 | cons r rr =>
  cases rr
  obtain ⟨t, rfl⟩ := r
  exact call_range_1 (yg I1 (by omega) (by omega) q1 q2 (by simpa using q))
def Hk (wi : TI) (g : TG) (tb : TS) : TS := fun D σ H => wi σ H fun J H1 => ∃ W : Nat -> Nat -> St -> Hp -> Prop, (∃ m, W 0 m σ H1) /\ ∀ i m σ H, W i m σ H ->
 (J.stop i H /\ D.nx σ H) \/ (J.go i H /\ ∃ N : St -> Hp -> Prop, (∀ σ' H', N σ' H' -> ∃ m', m' < m /\ W (i + 1) m' σ' H') /\ ∀ x H', J.wI i H x H' -> g x σ H' fun σ2 H2 => tb { D with nx := N, ct := N, bk := D.nx } σ2 H2)
def iw (fp : List Addr) (h : Heap) : List (Addr × Obj) := fp.filterMap fun b => (h.get? b).map fun o => (b, o)
theorem d8 {fp : List Addr} {h : Heap} {b : Addr} {o : Obj} (hb : b ∈ fp) (e : h.get? b = some o) : (b, o) ∈ iw fp h := List.mem_filterMap.mpr ⟨b, hb, by rw [e]; rfl⟩
theorem j8 {fp : List Addr} {h : Heap} {p : Addr × Obj} (hp : p ∈ iw fp h) : p.1 ∈ fp /\ h.get? p.1 = some p.2 := by
 obtain ⟨b, hb, e⟩ := List.mem_filterMap.mp hp
 cases q : h.get? b with
 | none => rw [q] at e; cases e
 | some o =>
  rw [q] at e
  have e' : (b, o) = p := Option.some.inj e
  subst e'
  exact ⟨hb, q⟩
theorem Inv.pinned {pins : List (Addr × Obj)} {σ : St} {H : Hp} {s : Shared} {fp : List Addr} (I : Inv X pins σ H s) (hf : ∀ b ∈ fp, gW X pins H b) (ho : ∀ b ∈ fp, ∃ o, s.heap.get? b = some o /\ ∀ v, o.data ≠ .cell v) : Inv X (pins ++ iw fp s.heap) σ H s :=
 I.pF fun p hp => (List.mem_append.mp hp).elim (fun z => I.pin p (List.mem_append_right _ z)) fun z => by
  obtain ⟨hb, e⟩ := j8 z
  obtain ⟨f0, f1, f2, _⟩ := hf p.1 hb
  obtain ⟨o, e', d⟩ := ho p.1 hb
  rw [e] at e'; cases e'
  exact ⟨e, f0, f1, f2, d⟩
theorem Inv.fi {pins pl : List (Addr × Obj)} {σ : St} {H : Hp} {s : Shared} (I : Inv X (pins ++ pl) σ H s) : Inv X pins σ H s := I.pF fun p hp => I.pin p (List.mem_append_right _ (List.mem_append_left _ hp))
theorem yb {iter : Expr} {body : List Stmt} {wi : TI} {g : TG} {tb : TS} {pos : Pos} (hp : PassesOwn (model X.prog X.w) X.A X.env X.xe) (hc : X.calm = true) (hi : PI X tg iter wi) (hg : PG X tg g) (hb : hX X body tb)
  (hs : ∀ x, foldedSetIterable iter X.env x = pure x := by intro _; rfl) : PS X (.For tg iter body [] pos) (Hk wi g tb) := by
 intro pins s σ H D I h
 refine wpAny_For (bE (hi pins s σ H _ I h) fun v s1 h1 => bE h1 fun itv s2 h2 => ?_) hs
 obtain ⟨it, fp, tn, J, H2, e, I2, T, st2, f2, W, ⟨m0, w0⟩, turn⟩ := h2
 subst e
 -- what stays true of the iterator's objects through the loop
 have stat : ∀ {H' : Hp}, (∀ b ∈ fp, H' b = none) -> ∀ b ∈ fp, gW X pins H' b := fun hn b hb => ⟨hn b hb, (f2 b hb).2⟩
 refine codeAny_forLoop_any (fun n s' => ∃ i σ' H', Inv X pins σ' H' s' /\ tn i s'.heap /\ (∀ b ∈ fp, H' b = none) /\ W i n σ' H') ?_ m0 ⟨0, σ, H2, I2, st2, fun b hb => (f2 b hb).1, w0⟩
 rintro n s3 ⟨i, σ3, H3, I3, st3, fr3, w3⟩
 rcases turn i n σ3 H3 w3 with ⟨stop, qn⟩ | ⟨go, N, hN, step⟩
 ·refine wpAny_passesOwn hp (bE (T.done X rfl rfl rfl hc i pins s3 σ3 H3 X.xe I3 (stat fr3) st3 stop) fun r s4 ⟨hr, I4⟩ => ?_)
  subst hr
  exact wpAny_execs_nil ⟨σ3, H3, I4, qn⟩
 ·refine wpAny_passesOwn hp (bE (T.item X rfl rfl rfl hc i pins s3 σ3 H3 X.xe I3 (stat fr3) st3 go) fun r s4 ⟨u, hr, h4⟩ => ?_)
  subst hr
  refine wpAny_passesOwn hp (bE h4 fun _ s5 ⟨x, H5, I5, r5, y5, st5, fr5⟩ => ?_)
  have I5' := I5.pinned (stat fr5) (T.obj _ _ st5)
  refine wpAny_passesOwn hp (bE (hg _ s5 σ3 H5 x u _ I5' r5 (step x H5 y5)) fun _ s6 ⟨σ6, H6, I6, q6⟩ => ?_)
  refine wpAny_passesOwn hp (bE (hb _ s6 σ6 H6 _ I6 q6) fun f s7 q7 => ?_)
  have again : ∀ {σ7 : St} {H7 : Hp}, Inv X (pins ++ iw fp s5.heap) σ7 H7 s7 -> N σ7 H7 -> ∃ m, m < n /\ ∃ i σ' H', Inv X pins σ' H' s7 /\ tn i s7.heap /\ (∀ b ∈ fp, H' b = none) /\ W i m σ' H' := fun {σ7 H7} I7 n7 => by
   obtain ⟨m', hm, w7⟩ := hN σ7 H7 n7
   refine ⟨m', hm, i + 1, σ7, H7, I7.fi, T.keep _ _ _ st5 fun b hb o e => (I7.pin (b, o) (List.mem_append_right _ (List.mem_append_right _ (d8 hb e)))).1, fun b hb => ?_, w7⟩
   obtain ⟨o, e, d⟩ := T.obj _ _ st5 b hb
   exact (I7.pin (b, o) (List.mem_append_right _ (List.mem_append_right _ (d8 hb e)))).2.1
  cases f with
  | next => obtain ⟨σ7, H7, I7, n7⟩ := q7; exact again I7 n7
  | cont => obtain ⟨σ7, H7, I7, n7⟩ := q7; exact again I7 n7
  | brk => obtain ⟨σ7, H7, I7, q7⟩ := q7; exact ⟨σ7, H7, I7.fi, q7⟩
  | ret v => obtain ⟨x7, σ7, H7, I7, r7, q7⟩ := q7; exact ⟨x7, σ7, H7, I7.fi, r7, q7⟩
end
abbrev R2 := V -> V -> Hp -> VK -> Prop
def fB (X : Cx) (f : Value -> Value -> Sem Value) (r : R2) : Prop :=
 ∀ (pins : List (Addr × Obj)) (s : Shared) (σ : St) (H : Hp) (x y : V) (v u : Value) (Q : VK), Inv X pins σ H s -> RelV x v -> RelV y u -> r x y H Q ->
  wpAny (model X.prog X.w) X.A (f v u) (EP X pins σ Q) X.xe s
def Gw (X : Cx) (f : Value -> Sem Value) (r : V -> Hp -> VK -> Prop) : Prop :=
 ∀ (pins : List (Addr × Obj)) (s : Shared) (σ : St) (H : Hp) (x : V) (v : Value) (Q : VK), Inv X pins σ H s -> RelV x v -> r x H Q ->
  wpAny (model X.prog X.w) X.A (f v) (EP X pins σ Q) X.xe s
def gS (X : Cx) (f : Value) (r : List V -> Hp -> VK -> Prop) : Prop :=
 ∀ (pins : List (Addr × Obj)) (s : Shared) (σ : St) (H : Hp) (xs : List V) (us : List Value) (Q : VK), Inv X pins σ H s -> Vals xs us -> r xs H Q ->
  wpAny (model X.prog X.w) X.A (call f us) (EP X pins σ Q) X.xe s
def Gv (X : Cx) (r : V -> Hp -> (Bool -> Hp -> Prop) -> Prop) : Prop :=
 ∀ (pins : List (Addr × Obj)) (s : Shared) (σ : St) (H : Hp) (x : V) (v : Value) (Q : Bool -> Hp -> Prop), Inv X pins σ H s -> RelV x v -> r x H Q ->
  wpAny (model X.prog X.w) X.A (truthy v) (TP X pins σ Q) X.xe s
def EB (r : R2) (ta tb : TE) : TE := fun σ H Q => ta σ H fun x H1 => tb σ H1 fun y H2 => r x y H2 Q
def JE (r : V -> Hp -> VK -> Prop) (ta : TE) : TE := fun σ H Q => ta σ H fun x H1 => r x H1 Q
def rI (C : Int -> Int -> Prop) (g : Int -> Int -> V) : R2 := fun x y H Q => ∃ i j, x = .int i /\ y = .int j /\ C i j /\ Q (g i j) H
def zQ (g : Int -> Int -> V) : R2 := fun x y H Q => ∃ i j, x = .int i /\ y = .int j /\ Q (g i j) H
def rU (g : Int -> V) : V -> Hp -> VK -> Prop := fun x H Q => ∃ i, x = .int i /\ Q (g i) H
section
variable {X : Cx} {a b c : Expr} {ta tb tc : TE} {pos : Pos}
theorem CP (ha : PE X a ta) (hb : PE X b tb) {pins : List (Addr × Obj)} {s : Shared} {σ : St} {H : Hp} {R : V -> V -> Hp -> Prop} (I : Inv X pins σ H s)
  (h : ta σ H fun x H1 => tb σ H1 fun y H2 => R x y H2) {Q : Value -> Shared -> Prop} {f : Value -> Value -> Sem Value}
  (hf : ∀ v u s2 x y H2, Inv X pins σ H2 s2 -> RelV x v -> RelV y u -> R x y H2 -> wpAny (model X.prog X.w) X.A (f v u) Q X.xe s2) :
  wpAny (model X.prog X.w) X.A (eval a X.env) (fun v s₁ => wpAny (model X.prog X.w) X.A (eval b X.env) (fun u s₂ => wpAny (model X.prog X.w) X.A (f v u) Q X.xe s₂) X.xe s₁) X.xe s := by
 refine bE (ha pins s σ H _ I h) fun v s1 ⟨x, H1, I1, r1, q1⟩ => ?_
 refine bE (hb pins s1 σ H1 _ I1 q1) fun u s2 ⟨y, H2, I2, r2, q2⟩ => ?_
 exact hf v u s2 x y H2 I2 r1 r2 q2
theorem Fo {op : Operator} {r : R2} (ho : fB X (binaryOp op) r) (ha : PE X a ta) (hb : PE X b tb) : PE X (.BinOp a op b pos) (EB r ta tb) := by
 intro pins s σ H Q I h
 exact wpAny_BinOp (CP ha hb I h fun v u s2 x y H2 I2 rx ry q => ho pins s2 σ H2 x y v u Q I2 rx ry q)
theorem Fq {op : UnaryOp} {r : V -> Hp -> VK -> Prop} (ho : Gw X (unaryOp op) r) (ha : PE X a ta) : PE X (.UnaryOp op a pos) (JE r ta) := by
 intro pins s σ H Q I h
 exact UnaryOp_ (bE (ha pins s σ H _ I h) fun v s1 ⟨x, H1, I1, r1, q1⟩ => ho pins s1 σ H1 x v Q I1 r1 q1)
theorem HZ {f : Value -> Value -> Sem Value} {C : Int -> Int -> Prop} {g : Int -> Int -> Int}
  (rule : ∀ (i j : Int) (t u : Tok) (s : Shared) (Q : Value -> Shared -> Prop) (E : Value -> Shared -> Prop), C i j -> Q (.int (g i j) s.toks) { s with toks := s.toks + 1 } -> wpAny (model X.prog X.w) X.A (f (.int i t) (.int j u)) Q E s) :
  fB X f (rI C fun i j => .int (g i j)) := by
 intro pins s σ H x y v u Q I rx ry h
 obtain ⟨i, j, rfl, rfl, hc, q⟩ := h
 obtain ⟨t, rfl⟩ := rx
 obtain ⟨t', rfl⟩ := ry
 exact rule i j t t' s _ _ hc ⟨.int (g i j), H, I.tok _, ⟨_, rfl⟩, q⟩
theorem Fj {f : Value -> Value -> Sem Value} {g : Int -> Int -> Int}
  (rule : ∀ (i j : Int) (t u : Tok) (s : Shared) (Q : Value -> Shared -> Prop) (E : Value -> Shared -> Prop), Q (.int (g i j) s.toks) { s with toks := s.toks + 1 } -> wpAny (model X.prog X.w) X.A (f (.int i t) (.int j u)) Q E s) :
  fB X f (zQ fun i j => .int (g i j)) := by
 intro pins s σ H x y v u Q I rx ry h
 obtain ⟨i, j, rfl, rfl, q⟩ := h
 obtain ⟨t, rfl⟩ := rx
 obtain ⟨t', rfl⟩ := ry
 exact rule i j t t' s _ _ ⟨.int (g i j), H, I.tok _, ⟨_, rfl⟩, q⟩
theorem DV {f : Value -> Value -> Sem Value} {g : Int -> Int -> Bool}
  (rule : ∀ (i j : Int) (t u : Tok) (s : Shared) (Q : Value -> Shared -> Prop) (E : Value -> Shared -> Prop), Q (.bool (g i j)) s -> wpAny (model X.prog X.w) X.A (f (.int i t) (.int j u)) Q E s) :
  fB X f (zQ fun i j => .bl (g i j)) := by
 intro pins s σ H x y v u Q I rx ry h
 obtain ⟨i, j, rfl, rfl, q⟩ := h
 obtain ⟨t, rfl⟩ := rx
 obtain ⟨t', rfl⟩ := ry
 exact rule i j t t' s _ _ ⟨.bl (g i j), H, I, rfl, q⟩
def CC (i j : Int) : Prop := 0 < j /\ j < 1073741824
def ny (i j : Int) : Prop := (-(2 ^ 64) < i /\ i < 2 ^ 64) \/ (-(2 ^ 64) < j /\ j < 2 ^ 64)
theorem ny.ok {i j : Int} (h : ny i j) : IntMulOk i j := by
 rcases h with ⟨h1, h2⟩ | ⟨h1, h2⟩
 ·exact .of_left (intBits_le_64 h1 h2)
 ·exact .of_right (intBits_le_64 h1 h2)
theorem DW : fB X (binaryOp .Add) (zQ fun i j => .int (i + j)) := Fj fun _ _ _ _ _ _ _ q => add_int q
theorem De : fB X (binaryOp .Sub) (zQ fun i j => .int (i - j)) := Fj fun _ _ _ _ _ _ _ q => sub_int q
theorem Aq : fB X (binaryOp .FloorDiv) (rI CC fun i j => .int (i / j)) := HZ fun i j _ _ _ _ _ hc q => by
 have h1 : (0 : Int) < j := hc.1
 have h2 : j < 1073741824 := hc.2
 exact floordiv_int (by omega) (by rw [Int.fdiv_eq_ediv_of_nonneg i (by omega)]; exact q) (.inl (PyProof.noPylong_small (by omega)))
theorem DY : fB X (binaryOp .Mod) (rI (fun _ j => 0 < j) fun i j => .int (i % j)) := HZ fun i j _ _ _ _ _ hc q => by
 have h1 : (0 : Int) < j := hc
 exact mod_int' (by omega) (by rw [Int.fmod_eq_emod_of_nonneg i (by omega)]; exact q)
theorem JH {f : Value -> Sem Value} {g : Int -> Int}
  (rule : ∀ (i : Int) (t : Tok) (s : Shared) (Q : Value -> Shared -> Prop) (E : Value -> Shared -> Prop), Q (.int (g i) s.toks) { s with toks := s.toks + 1 } -> wpAny (model X.prog X.w) X.A (f (.int i t)) Q E s) :
  Gw X f (rU fun i => .int (g i)) := by
 intro pins s σ H x v Q I rx h
 obtain ⟨i, rfl, q⟩ := h
 obtain ⟨t, rfl⟩ := rx
 exact rule i t s _ _ ⟨.int (g i), H, I.tok _, ⟨_, rfl⟩, q⟩
theorem EK : Gw X (unaryOp .USub) (rU fun i => .int (-i)) := JH fun _ _ _ _ _ q => neg_int q
end
def F9 : V -> V -> Bool
 | .aW, .aW => true | .aW, .int _ => true | .int _, .aW => true | .aW, .bl _ => true | .bl _, .aW => true | .aW, .str _ => true | .str _, .aW => true
 | .int _, .int _ => true | .bl _, .bl _ => true | .str _, .str _ => true | .rF _, .rF _ => true
 | .int _, .str _ => true | .str _, .int _ => true | .bl _, .str _ => true | .str _, .bl _ => true
 | _, _ => false
def IU : R2 := fun x y H Q => F9 x y = true /\ Q (.bl (decide (x = y))) H
def IW : R2 := fun x y H Q => F9 x y = true /\ Q (.bl (!decide (x = y))) H
theorem tV {i j : Int} : decide (V.int i = V.int j) = (i == j) := by
 rw [Bool.eq_iff_iff]
 simp
theorem wx {i j : Bool} : decide (V.bl i = V.bl j) = (i == j) := by
 rw [Bool.eq_iff_iff]
 simp
theorem tW {i j : Str} : decide (V.str i = V.str j) = (i == j) := by
 rw [Bool.eq_iff_iff]
 simp
theorem tU {i j : Array UInt8} : decide (V.rF i = V.rF j) = (i.toList == j.toList) := by
 rw [Bool.eq_iff_iff]
 cases i
 cases j
 simp
section
variable {X : Cx} {a b c : Expr} {ta tb tc : TE} {pos : Pos}
theorem ah {pins : List (Addr × Obj)} {σ : St} {H : Hp} {s : Shared} {Q : VK} {k k' : Bool} (I : Inv X pins σ H s) (q : Q (.bl k) H) (e : k = k') : EP X pins σ Q (.bool k') s := by
 subst e
 exact ⟨.bl k, H, I, rfl, q⟩
theorem Bv : fB X (compareOp .Eq) IU := by
 intro pins s σ H x y v u Q I rx ry h
 obtain ⟨hs, q⟩ := h
 cases x with
 | aW =>
  cases rx
  cases y with
  | aW => cases ry; exact PySem.EqNone.eq_none_none (ah I q (by simp))
  | bl j => cases ry; exact PySem.EqNone.eq_none_bool (ah I q (by simp))
  | int j => obtain ⟨t', rfl⟩ := ry; exact PySem.EqNone.eq_none_int (ah I q (by simp))
  | str j => obtain ⟨t', rfl⟩ := ry; exact PySem.EqNone.eq_none_str (ah I q (by simp))
  | _ => exact absurd (show false = true from hs) Bool.false_ne_true
 | bl i =>
  cases rx
  cases y with
  | aW => cases ry; exact PySem.EqNone.eq_bool_none (ah I q (by simp))
  | bl j => cases ry; exact eq_bool (ah I q wx)
  | str j => obtain ⟨t', rfl⟩ := ry; exact PySem.EqMixed.eq_bool_str (ah I q (by simp))
  | _ => exact absurd (show false = true from hs) Bool.false_ne_true
 | int i =>
  obtain ⟨t, rfl⟩ := rx
  cases y with
  | aW => cases ry; exact PySem.EqNone.eq_int_none (ah I q (by simp))
  | int j => obtain ⟨t', rfl⟩ := ry; exact eq_int (ah I q tV)
  | str j => obtain ⟨t', rfl⟩ := ry; exact PySem.EqMixed.eq_int_str (ah I q (by simp))
  | _ => exact absurd (show false = true from hs) Bool.false_ne_true
 | str i =>
  obtain ⟨t, rfl⟩ := rx
  cases y with
  | aW => cases ry; exact PySem.EqNone.eq_str_none (ah I q (by simp))
  | bl j => cases ry; exact PySem.EqMixed.eq_str_bool (ah I q (by simp))
  | int j => obtain ⟨t', rfl⟩ := ry; exact PySem.EqMixed.eq_str_int (ah I q (by simp))
  | str j => obtain ⟨t', rfl⟩ := ry; exact eq_str (ah I q tW)
  | _ => exact absurd (show false = true from hs) Bool.false_ne_true
 | rF i =>
  obtain ⟨t, rfl⟩ := rx
  cases y with
  | rF j => obtain ⟨t', rfl⟩ := ry; exact PySem.W.eq_bytes (ah I q tU)
  | _ => exact absurd (show false = true from hs) Bool.false_ne_true
 | _ => cases y <;> exact absurd (show false = true from hs) Bool.false_ne_true
theorem Fm : fB X (compareOp .NotEq) IW := by
 intro pins s σ H x y v u Q I rx ry h
 obtain ⟨hs, q⟩ := h
 cases x with
 | aW =>
  cases rx
  cases y with
  | aW => cases ry; exact PySem.EqNone.ne_none_none (ah I q (by simp))
  | bl j => cases ry; exact PySem.EqNone.ne_none_bool (ah I q (by simp))
  | int j => obtain ⟨t', rfl⟩ := ry; exact PySem.EqNone.ne_none_int (ah I q (by simp))
  | str j => obtain ⟨t', rfl⟩ := ry; exact PySem.EqNone.ne_none_str (ah I q (by simp))
  | _ => exact absurd (show false = true from hs) Bool.false_ne_true
 | bl i =>
  cases rx
  cases y with
  | aW => cases ry; exact PySem.EqNone.ne_bool_none (ah I q (by simp))
  | bl j => cases ry; exact ne_bool (ah I q (congrArg not wx))
  | str j => obtain ⟨t', rfl⟩ := ry; exact PySem.EqMixed.ne_bool_str (ah I q (by simp))
  | _ => exact absurd (show false = true from hs) Bool.false_ne_true
 | int i =>
  obtain ⟨t, rfl⟩ := rx
  cases y with
  | aW => cases ry; exact PySem.EqNone.ne_int_none (ah I q (by simp))
  | int j => obtain ⟨t', rfl⟩ := ry; exact ne_int (ah I q (congrArg not tV))
  | str j => obtain ⟨t', rfl⟩ := ry; exact PySem.EqMixed.ne_int_str (ah I q (by simp))
  | _ => exact absurd (show false = true from hs) Bool.false_ne_true
 | str i =>
  obtain ⟨t, rfl⟩ := rx
  cases y with
  | aW => cases ry; exact PySem.EqNone.ne_str_none (ah I q (by simp))
  | bl j => cases ry; exact PySem.EqMixed.ne_str_bool (ah I q (by simp))
  | int j => obtain ⟨t', rfl⟩ := ry; exact PySem.EqMixed.ne_str_int (ah I q (by simp))
  | str j => obtain ⟨t', rfl⟩ := ry; exact ne_str (ah I q (congrArg not tW))
  | _ => exact absurd (show false = true from hs) Bool.false_ne_true
 | rF i =>
  obtain ⟨t, rfl⟩ := rx
  cases y with
  | rF j => obtain ⟨t', rfl⟩ := ry; exact PySem.W.ne_bytes (ah I q (congrArg not tU))
  | _ => exact absurd (show false = true from hs) Bool.false_ne_true
 | _ => cases y <;> exact absurd (show false = true from hs) Bool.false_ne_true
theorem Fl : fB X (compareOp .Lt) (zQ fun i j => .bl (decide (i < j))) := DV fun _ _ _ _ _ _ _ q => lt_int q
theorem yK : fB X (compareOp .LtE) (zQ fun i j => .bl (decide (i <= j))) := DV fun _ _ _ _ _ _ _ q => le_int q
theorem Bw : fB X (compareOp .Gt) (zQ fun i j => .bl (decide (j < i))) := DV fun _ _ _ _ _ _ _ q => gt_int q
theorem nQ : fB X (compareOp .In) (fun x y H Q => ∃ i j, x = .str i /\ y = .str j /\ Q (.bl (!(Builtin.Str.occurrences j i 0 j.length 1).isEmpty)) H) := by
 intro pins s σ H x y v u Q I rx ry h
 obtain ⟨i, j, rfl, rfl, q⟩ := h
 obtain ⟨t, rfl⟩ := rx
 obtain ⟨t', rfl⟩ := ry
 exact in_str (ah I q rfl)
theorem yJ : fB X (compareOp .Is) (fun x y H Q => y = .aW /\ Q (.bl (decide (x = .aW))) H) := by
 intro pins s σ H x y v u Q I rx ry h
 obtain ⟨rfl, q⟩ := h
 cases ry
 refine is_none_gen (ah I q ?_)
 cases x <;> first
  | (cases rx; rfl)
  | (obtain ⟨t, rfl⟩ := rx; rfl)
theorem As : fB X (compareOp .IsNot) (fun x y H Q => y = .aW /\ Q (.bl (!decide (x = .aW))) H) := by
 intro pins s σ H x y v u Q I rx ry h
 obtain ⟨rfl, q⟩ := h
 cases ry
 refine isnot_none_gen (ah I q ?_)
 cases x <;> first
  | (cases rx; rfl)
  | (obtain ⟨t, rfl⟩ := rx; rfl)
theorem pB : fB X (compareOp .NotIn) (fun x y H Q => ∃ i j, x = .str i /\ y = .str j /\ Q (.bl (!(!(Builtin.Str.occurrences j i 0 j.length 1).isEmpty))) H) := by
 intro pins s σ H x y v u Q I rx ry h
 obtain ⟨i, j, rfl, rfl, q⟩ := h
 obtain ⟨t, rfl⟩ := rx
 obtain ⟨t', rfl⟩ := ry
 exact notIn_str (ah I q rfl)
theorem fB.or {f : Value -> Value -> Sem Value} {r r' : R2} (h : fB X f r) (h' : fB X f r') : fB X f (fun x y H Q => r x y H Q \/ r' x y H Q) := by
 intro pins s σ H x y v u Q I rx ry q
 rcases q with q | q
 ·exact h pins s σ H x y v u Q I rx ry q
 ·exact h' pins s σ H x y v u Q I rx ry q
theorem eA (b : Expr) {op : CmpOp} (h : op ≠ .In := by decide) (h2 : op ≠ .NotIn := by decide) : behindInMarks op b = false := by
 have e1 : (op == CmpOp.In) = false := by cases op <;> first | rfl | exact absurd rfl h
 have e2 : (op == CmpOp.NotIn) = false := by cases op <;> first | rfl | exact absurd rfl h2
 cases b <;> simp [behindInMarks, e1, e2]
theorem Av {op : CmpOp} {r : R2} (ho : fB X (compareOp op) r) (ha : PE X a ta) (hb : PE X b tb) (hm : behindInMarks op b = false) : PE X (.Compare a [op] [b] pos) (EB r ta tb) := by
 intro pins s σ H Q I h
 exact wpAny_Compare1 (CP ha hb I h fun v u s2 x y H2 I2 rx ry q => ho pins s2 σ H2 x y v u Q I2 rx ry q) hm
def B8 (t : TE) : TT := fun σ H Q => t σ H fun x H' => ∃ k, x = .bl k /\ Q k H'
theorem A6 {op : CmpOp} {r : R2} (ho : fB X (compareOp op) r) (ha : PE X a ta) (hb : PE X b tb) (hm : behindInMarks op b = false) : PT X (.Compare a [op] [b] pos) (B8 (EB r ta tb)) := by
 intro pins s σ H Q I h
 refine wpAny_isTrue_Compare1 (bE (ha pins s σ H _ I h) fun v s1 ⟨x, H1, I1, r1, q1⟩ => bE (hb pins s1 σ H1 _ I1 q1) fun u s2 ⟨y, H2, I2, r2, q2⟩ =>
  bE (ho pins s2 σ H2 x y v u _ I2 r1 r2 q2) fun c s3 ⟨z, H3, I3, r3, k, e, q3⟩ => ?_) hm
 subst e
 cases r3
 exact wpAny_truthy_bool ⟨H3, I3, q3⟩
def yy (r r' : R2) (ta tb tc : TE) : TE := fun σ H Q => ta σ H fun x H1 => tb σ H1 fun y H2 => r x y H2 fun z H3 => ∃ k, z = .bl k /\
 (if k = true then tc σ H3 fun w' H4 => r' y w' H4 Q else Q (.bl false) H3)
theorem yR {op op' : CmpOp} {r r' : R2} (ho : fB X (compareOp op) r) (ho' : fB X (compareOp op') r') (ha : PE X a ta) (hb : PE X b tb) (hc : PE X c tc)
  (hm : lastMarks [op, op'] [b, c] = false := by with_unfolding_all rfl) : PE X (.Compare a [op, op'] [b, c] pos) (yy r r' ta tb tc) := by
 intro pins s σ H Q I h
 refine Compare_chain (bE (ha pins s σ H _ I h) fun v s1 ⟨x, H1, I1, r1, q1⟩ => chain_link (bE (hb pins s1 σ H1 _ I1 q1) fun u s2 ⟨y, H2, I2, r2, q2⟩ =>
  bE (ho pins s2 σ H2 x y v u _ I2 r1 r2 q2) fun d s3 ⟨z, H3, I3, r3, k, e, q3⟩ => ?_)) hm
 subst e
 cases r3
 refine wpAny_truthy_bool ?_
 cases k with
 | false => exact ite_ff ⟨.bl false, H3, I3, rfl, q3⟩
 | true => exact ite_tt (chain_last (bE (hc pins s3 σ H3 _ I3 q3) fun w' s4 ⟨z', H4, I4, r4, q4⟩ => ho' pins s4 σ H4 y z' u w' Q I4 r2 r4 q4))
def CL (K : PySem.W.Frag) (x : V) (H : Hp) (k : Bool) : Prop :=
 match x with
 | .aW => k = false
 | .bl b => k = b
 | .int i => k = (i != 0)
 | .str y => y.length <= sizeLine /\ k = ((y.length : Int) != 0)
 | .rF y => y.size <= sizeLine /\ k = ((y.size : Int) != 0)
 | .ref p => (∃ xs, ck K H p xs /\ k = !xs.isEmpty) \/ (∃ xs, eT K H p xs /\ k = !xs.isEmpty) \/ ∃ kvs, H p = some (.dK kvs) /\ k = !kvs.isEmpty
 | _ => False
theorem rk {κ : Type} {kvs : List (κ × V)} {vs : List (κ × Value)} (r : KV kvs vs) : (!vs.isEmpty) = !kvs.isEmpty := by
 cases r <;> rfl
theorem lq {xs : List V} {its : List Value} (r : Vals xs its) : (!its.toArray.isEmpty) = !xs.isEmpty := by
 cases r <;> simp
theorem j4 : (sizeLine : Nat) < 2 ^ 63 := by rw [sizeLine_eq]; decide
theorem EG : Gv X (fun x H Q => ∃ k, CL X.K x H k /\ Q k H) := by
 intro pins s σ H x v Q I rx h
 obtain ⟨k, e, q⟩ := h
 have hl := j4
 have hs : sizeLine = 16777216 := sizeLine_eq
 cases x with
 | aW =>
  cases rx
  have e' : k = false := e
  subst e'
  exact truthy_none ⟨H, I, q⟩
 | bl b =>
  cases rx
  have e' : k = b := e
  subst e'
  exact wpAny_truthy_bool ⟨H, I, q⟩
 | int i =>
  obtain ⟨t, rfl⟩ := rx
  have e' : k = (i != 0) := e
  subst e'
  exact PySem.P.truthy_int ⟨H, I, q⟩
 | str y =>
  obtain ⟨t, rfl⟩ := rx
  obtain ⟨hy, e'⟩ : y.length <= sizeLine /\ k = ((y.length : Int) != 0) := e
  subst e'
  exact PySem.P.truthy_str (by omega) ⟨H, I.tok _, q⟩
 | rF y =>
  obtain ⟨t, rfl⟩ := rx
  obtain ⟨hy, e'⟩ : y.size <= sizeLine /\ k = ((y.size : Int) != 0) := e
  subst e'
  exact PySem.W.truthy_bytes (by omega) ⟨H, I.tok _, q⟩
 | ref p =>
  cases rx
  have e' : (∃ xs, ck X.K H p xs /\ k = !xs.isEmpty) \/ (∃ xs, eT X.K H p xs /\ k = !xs.isEmpty) \/ ∃ kvs, H p = some (.dK kvs) /\ k = !kvs.isEmpty := e
  rcases e' with ⟨xs, hx, e'⟩ | ⟨xs, hx, e'⟩ | ⟨kvs, hx, e'⟩
  ·subst e'
   obtain ⟨its, r, pl, hz⟩ := I.list hx
   have hlen := r.length
   exact wpAny_truthy_list pl.isList (by simp only [List.size_toArray]; omega) ⟨H, I.tok _, by rw [lq r]; exact q⟩
  ·subst e'
   obtain ⟨its, r, pl, hz⟩ := I.tuple hx
   have hlen := r.length
   exact truthy_tuple pl (by simp only [List.size_toArray]; omega) ⟨H, I.tok _, by rw [lq r]; exact q⟩
  ·subst e'
   obtain ⟨hz, hS, vs, r, m⟩ : kvs.length <= sizeLine /\ (p == sysModules) = false /\ ∃ vs, KV kvs vs /\ s.heap.DictOf (bu X.prog X.w) p vs := I.ao p _ hx
   have hlen : kvs.length = vs.length := Paired.length r
   exact wpAny_truthy_dict hS m (by omega) ⟨H, I.tok _, by rw [rk r]; exact q⟩
 | _ => exact (show False from e).elim
theorem ye (ha : PE X a ta) (he : ∀ whole, isTrue a X.env whole = (do let v <- whole; standAt a.pos; holding [v] (truthy v))) :
  PT X a (fun σ H Q => ta σ H fun x H' => ∃ k, CL X.K x H' k /\ Q k H') := by
 intro pins s σ H Q I h
 exact isTrue_plain (bE (ha pins s σ H _ I h) fun v s1 ⟨x, H1, I1, r1, q1⟩ => EG pins s1 σ H1 x v Q I1 r1 q1) (he _)
theorem sL : fB X (binaryOp .Add) (fun x y H Q => ∃ i j, x = .str i /\ y = .str j /\ i.length + j.length <= sizeLine /\ Q (.str (i ++ j)) H) := by
 intro pins s σ H x y v u Q I rx ry h
 obtain ⟨i, j, rfl, rfl, hz, q⟩ := h
 obtain ⟨t, rfl⟩ := rx
 obtain ⟨t', rfl⟩ := ry
 exact add_str (fun t' tk => ⟨.str (i ++ j), H, I.tok _, ⟨_, rfl⟩, q⟩) hz
theorem vals1 {x : V} {us : List Value} (r : Vals [x] us) : ∃ u, us = [u] /\ RelV x u := by
 cases r with
 | cons r1 r2 => cases r2; exact ⟨_, rfl, r1⟩
theorem vals2 {x y : V} {us : List Value} (r : Vals [x, y] us) : ∃ u w', us = [u, w'] /\ RelV x u /\ RelV y w' := by
 cases r with
 | cons r1 r2 =>
  cases r2 with
  | cons r3 r4 => cases r4; exact ⟨_, _, rfl, r1, r3⟩
theorem uj : gS X (.type "int") (fun xs H Q => (∃ i, xs = [.int i] /\ Q (.int i) H) \/ ∃ k, xs = [.bl k] /\ Q (.int (if k then 1 else 0)) H) := by
 intro pins s σ H xs us Q I r h
 rcases h with ⟨i, rfl, q⟩ | ⟨k, rfl, q⟩
 ·obtain ⟨u, rfl, t, rfl⟩ := vals1 r
  exact call_int_int ⟨.int i, H, I, ⟨_, rfl⟩, q⟩
 ·obtain ⟨u, rfl, r1⟩ := vals1 r
  cases r1
  exact call_int_bool ⟨.int (if k then 1 else 0), H, I.tok _, ⟨_, rfl⟩, q⟩
def Eb (K : PySem.W.Frag) (x : V) (H : Hp) (n : Nat) : Prop :=
 match x with
 | .str y => y.length <= sizeLine /\ n = y.length
 | .rF y => y.size <= sizeLine /\ n = y.size
 | .ref p => (∃ xs, ck K H p xs /\ n = xs.length) \/ ∃ xs, eT K H p xs /\ n = xs.length
 | _ => False
theorem wZ : gS X (.builtin "len") (fun xs H Q => ∃ x n, xs = [x] /\ Eb X.K x H n /\ Q (.int n) H) := by
 intro pins s σ H xs us Q I r h
 obtain ⟨x, n, rfl, e, q⟩ := h
 obtain ⟨u, rfl, rx⟩ := vals1 r
 have hl := j4
 have hs : sizeLine = 16777216 := sizeLine_eq
 cases x with
 | str y =>
  obtain ⟨t, rfl⟩ := rx
  obtain ⟨hy, e'⟩ : y.length <= sizeLine /\ n = y.length := e
  subst e'
  exact len_str (by omega) ⟨.int _, H, I.tok _, ⟨_, rfl⟩, q⟩
 | rF y =>
  obtain ⟨t, rfl⟩ := rx
  obtain ⟨hy, e'⟩ : y.size <= sizeLine /\ n = y.size := e
  subst e'
  exact PySem.W.len_bytes (by omega) ⟨.int _, H, I.tok _, ⟨_, rfl⟩, q⟩
 | ref p =>
  cases rx
  have e' : (∃ xs, ck X.K H p xs /\ n = xs.length) \/ ∃ xs, eT X.K H p xs /\ n = xs.length := e
  rcases e' with ⟨xs, hx, e'⟩ | ⟨xs, hx, e'⟩
  ·subst e'
   obtain ⟨its, r', pl, hz⟩ := I.list hx
   have hlen := r'.length
   exact Calls.call_len_list pl.isList (by simp only [List.size_toArray]; omega) ⟨.int xs.length, H, I.tok _, ⟨_, by simp only [List.size_toArray]; rw [hlen]⟩, q⟩
  ·subst e'
   obtain ⟨its, r', pl, hz⟩ := I.tuple hx
   have hlen := r'.length
   exact len_tuple pl (by simp only [List.size_toArray]; omega) ⟨.int xs.length, H, I.tok _, ⟨_, by simp only [List.size_toArray]; rw [hlen]⟩, q⟩
 | _ => exact (show False from e).elim
end
structure pX (h : Heap) (x dx C : Addr) (mA : Str -> Option Value) : Prop where
 obj : h.get? x = some (PySem.W.instObj C dx)
 ns : h.Ns1 dx mA
 ne : dx ≠ x
theorem j5 {h : Heap} {dx : Addr} {mA : Str -> Option Value} (n : h.Ns1 dx mA) : ∃ od, h.get? dx = some od /\ ∀ name, PySem.W.lookIn name od = some (mA name) := by
 obtain ⟨o, es, ep, ho, hd, hk, _, hm⟩ := n
 refine ⟨o, ho, fun name => ?_⟩
 have e := hm name
 unfold nsFind findBy at e
 rw [<- Array.find?_toList] at e
 unfold PySem.W.lookIn
 rw [hd]
 dsimp only
 split
 ·rename_i y q
  rw [q] at e
  exact congrArg some e
 ·rename_i q
  rw [q] at e
  have a : es.toList.any (·.refKey) = false := by
   rw [List.any_eq_false]
   intro y hy
   obtain ⟨z, t, hkey⟩ := hk y (Array.mem_toList_iff.mp hy)
   simp [DictEntry.refKey, hkey]
  have a' : ¬ es.toList.any (·.refKey) = true := by rw [a]; exact Bool.false_ne_true
  rw [if_neg a']
  exact congrArg some e
theorem pX.look {h : Heap} {x dx C : Addr} {mA : Str -> Option Value} (I : pX h x dx C mA) : ∃ od, PySem.W.InstAt h x (PySem.W.instObj C dx) C (some od) /\ ∀ name, PySem.W.lookIn name od = some (mA name) :=
 let ⟨od, ho, hl⟩ := j5 I.ns
 ⟨od, ⟨I.obj, rfl, rfl, ho⟩, hl⟩
section
variable {prog : Program} {w : World} {A : Around} {E : Value -> Shared -> Prop} {s : Shared} {K : PySem.W.Frag} {x dx C f : Addr} {mA : Str -> Option Value} {name : Str} {v : Value}
theorem get_map {expr : Bool} {Q : Value -> Shared -> Prop} (X : K.In s.heap) (I : pX s.heap x dx C mA) (hg : PySem.W.plainGet K C name = true) (hh : PySem.W.hasDictIn K C = true)
  (ha : PySem.W.findIn K (.ref C) name = some none) (hv : mA name = some v) (hv' : PySem.W.handedIn v = true) (h : Q v { s with toks := s.toks + 1 }) :
  wpAny (model prog w) A (getAttr (.ref x) name expr) Q E s := by
 obtain ⟨od, J, hl⟩ := I.look
 exact PySem.W.get_value X J (PySem.W.plainGet_of hg).1 (PySem.W.findObj_own hh ha rfl (by rw [hl, hv])) hv' h
theorem xU {pl : Sem Bool} {Q : Value × List Value -> Shared -> Prop} (X : K.In s.heap) (I : pX s.heap x dx C mA) (hg : PySem.W.plainGet K C name = true)
  (hf : PySem.W.findIn K (.ref C) name = some (some (.ref f))) (ht : PySem.W.isFn K (.ref f) = true) (hv : mA name = none) (h : Q (.ref f, [.ref x]) s) :
  wpAny (model prog w) A (getMethod (.ref x) name pl) Q E s := by
 obtain ⟨od, J, hl⟩ := I.look
 exact PySem.W.method_fn X J (PySem.W.plainGet_of hg).1 (PySem.W.plainGet_of hg).2 hf (beq_iff_eq.mp ht) (by show (PySem.W.lookIn name od).map (·.isSome) = some false; rw [hl, hv]; rfl) h
theorem BM {ns : List Str} {Q : Unit -> Shared -> Prop} (X : K.In s.heap) (I : pX s.heap x dx C mA)
  (hs : PySem.W.findIn K (.ref C) "__setattr__" = some (some (.builtin "object.__setattr__"))) (hp : PySem.W.plainOver K C = true) (ht : PySem.W.takerIn K C name = some none) (hh : PySem.W.hasDictIn K C = true)
  (hw : PySem.Within mA ns) (hsz : ns.length <= sizeLine)
  (h : ∀ h', pX h' x dx C (fun y => if y = name then some v else mA y) -> Heap.SameBut dx s.heap h' -> Q () { s with heap := h', toks := s.toks + 2 }) :
  wpAny (model prog w) A (setAttr (.ref x) name v) Q E s := by
 obtain ⟨od, J, hl⟩ := I.look
 refine PySem.W.set_plain X J hs (PySem.W.osa_open (s := { s with toks := s.toks + 1 }) (r := none) X J hp ht fun b => ?_)
 obtain ⟨cd, hc, hd'⟩ := PySem.W.any_some hh
 have hx : s.heap.get? x = some ⟨.ref C, some dx, .plain, #[]⟩ := I.obj
 refine wpAny_bind (wpAny_pure (wpAny_bind (wpAny_bind (wpAny_loadPart hx (wpAny_bind (PySem.W.Looks.here (s := { s with toks := s.toks + 1 }) (PySem.W.looks_clsIn X hc) ?_))))))
 rw [hd']
 refine wpAny_pure (a := some dx) (wpAny_bind (wpAny_pure (wpAny_bind ?_)))
 refine wpAny_nsSet1 (s := { s with toks := s.toks + 1 }) I.ns fun h' hn2 hs2 => ?_
 obtain ⟨oD, esD, epD, hoD, hdD, hcD⟩ := hn2.count (PySem.Within.cons name v hw)
 refine wpAny_bind (wpAny_lookBehind hoD (by rw [hdD]; exact pastItsLine_dict (Nat.le_trans hcD (by rw [List.length_cons]; omega))) ?_)
 exact wpAny_pure (h _ ⟨(hs2.2 _ (Ne.symm I.ne)).trans I.obj, hn2, I.ne⟩ hs2)
theorem xx {R : Result -> Shared -> Prop} {vs : List Value} {kw : List (Str × Value)} (X : K.In s.heap) (hm : PySem.W.makesIn K C = true)
  (hi : PySem.W.findIn K (.ref C) "__init__" = some (some (.ref f))) (hf : PySem.W.typeIn K (.ref f) = some (.type "function"))
  (h : codeAny (model prog w) (A.under (.builtin "type.__call__" ⟨.ref C :: vs, kw⟩)) (.call (.ref f) ⟨.ref (s.heap.objs.size + 1) :: vs, kw⟩) (PySem.W.InitBack (s.heap.objs.size + 1) R)
   { s with heap := (s.heap.push PySem.W.emptyDict).push (PySem.W.instObj C s.heap.objs.size) }) :
  codeAny (model prog w) A (.call (.ref C) ⟨vs, kw⟩) R s := by
 obtain ⟨hh, g, d, t, os⟩ := s
 exact PySem.W.make_core (PySem.W.makes_of X hm) (PySem.W.looks_findIn X hi) (fun self => PySem.W.bind_fn X self hf) (.inl rfl) h
end
def eR (f : Str) (v : V) : List (Str × V) -> List (Str × V)
 | [] => [(f, v)]
 | (g, x) :: r => if g = f then (g, v) :: r else (g, x) :: eR f v r
theorem gp (f g : Str) (v : V) : ∀ fs : List (Str × V), (eR f v fs).lookup g = if g = f then some v else fs.lookup g
 | [] => by
  show List.lookup g [(f, v)] = _
  by_cases h : g = f
  ·have hb : (g == f) = true := beq_iff_eq.mpr h
   simp only [List.lookup, hb, if_pos h]
  ·have hb : (g == f) = false := beq_eq_false_iff_ne.mpr h
   simp only [List.lookup, hb, if_neg h]
 | (k, x) :: r => by
  have ih := gp f g v r
  rw [show eR f v ((k, x) :: r) = (if k = f then (k, v) :: r else (k, x) :: eR f v r) from rfl]
  by_cases hk : k = f
  ·rw [if_pos hk]
   by_cases h : g = k
   ·have hb : (g == k) = true := beq_iff_eq.mpr h
    simp only [List.lookup, hb, if_pos (h.trans hk)]
   ·have hb : (g == k) = false := beq_eq_false_iff_ne.mpr h
    simp only [List.lookup, hb, if_neg (fun e : g = f => h (e.trans hk.symm))]
  ·rw [if_neg hk]
   by_cases h : g = k
   ·have hb : (g == k) = true := beq_iff_eq.mpr h
    simp only [List.lookup, hb, if_neg (fun e : g = f => hk (h.symm.trans e))]
   ·have hb : (g == k) = false := beq_eq_false_iff_ne.mpr h
    simp only [List.lookup, hb]
    exact ih
theorem fX (f : Str) (v : V) : ∀ fs : List (Str × V), f ∈ (eR f v fs).map (·.1) /\ ∀ g, g ∈ fs.map (·.1) -> g ∈ (eR f v fs).map (·.1)
 | [] => ⟨by simp [eR], fun g h => by simp at h⟩
 | (k, x) :: r => by
  obtain ⟨i1, i2⟩ := fX f v r
  rw [show eR f v ((k, x) :: r) = (if k = f then (k, v) :: r else (k, x) :: eR f v r) from rfl]
  by_cases hk : k = f
  ·rw [if_pos hk]
   subst hk
   exact ⟨by simp, fun g h => by simpa using h⟩
  ·rw [if_neg hk]
   refine ⟨?_, fun g h => ?_⟩
   ·rw [List.map_cons]
    exact List.mem_cons_of_mem _ i1
   ·rw [List.map_cons] at h ⊢
    rcases List.mem_cons.mp h with e | e
    ·exact List.mem_cons.mpr (.inl e)
    ·exact List.mem_cons_of_mem _ (i2 g e)
theorem kY (f : Str) (v : V) : ∀ fs : List (Str × V), (eR f v fs).length <= fs.length + 1
 | [] => by simp [eR]
 | (k, x) :: r => by
  have ih := kY f v r
  rw [show eR f v ((k, x) :: r) = (if k = f then (k, v) :: r else (k, x) :: eR f v r) from rfl]
  by_cases hk : k = f
  ·rw [if_pos hk, List.length_cons, List.length_cons]; omega
  ·rw [if_neg hk, List.length_cons, List.length_cons]; omega
theorem d0.some_of {v : V} {o : Option Value} (r : d0 (some v) o) : ∃ u, o = some u /\ RelV v u := by
 cases o with
 | none => exact (show False from r).elim
 | some u => exact ⟨u, rfl, r⟩
theorem d0.none_of {o : Option Value} (r : d0 none o) : o = none := by
 cases o with
 | none => rfl
 | some u => exact (show False from r).elim
theorem nE {v : V} {u : Value} (r : RelV v u) : PySem.W.handedIn u = true := by
 cases v with
 | aW => cases (show u = Value.none from r); rfl
 | bl b => cases (show u = Value.bool b from r); rfl
 | int i => obtain ⟨t, e⟩ := (show ∃ t, u = Value.int i t from r); cases e; rfl
 | str x => obtain ⟨t, e⟩ := (show ∃ t, u = Value.str x t from r); cases e; rfl
 | rF b => obtain ⟨t, e⟩ := (show ∃ t, u = Value.bytes b t from r); cases e; rfl
 | Gj b => obtain ⟨t, e⟩ := (show ∃ t, u = Value.float b t from r); cases e; rfl
 | ref a => cases (show u = Value.ref a from r); rfl
 | ty n => cases (show u = Value.type n from r); rfl
section
variable {P : Program} {w : World} {H H' : Hp} {h h' : Heap} {a C dx : Addr} {fs fs' : List (Str × V)}
theorem z7 (ao : cf P w H h) (e : H a = some (.ins C dx fs)) : ∃ mA, pX h a dx C mA /\ (∀ f, d0 (fs.lookup f) (mA f)) /\ PySem.Within mA (fs.map (·.1)) /\ fs.length <= 1000 /\ H dx = some (.own a) := by
 obtain ⟨d, z, ne, ob, mA, n, r, q⟩ := (show aQ P w H h a (.ins C dx fs) from ao a _ e)
 exact ⟨mA, ⟨ob, n, ne⟩, r, q, z, d⟩
end
structure pV (K : PySem.W.Frag) (C : Addr) : Prop where
 pg : PySem.W.plainGet K C Str.empty = true
 hd : PySem.W.hasDictIn K C = true
 po : PySem.W.plainOver K C = true
 sa : PySem.W.findIn K (.ref C) "__setattr__" = some (some (.builtin "object.__setattr__"))
theorem pV.get {K : PySem.W.Frag} {C : Addr} (c : pV K C) (f : Str) : PySem.W.plainGet K C f = true := c.pg
def dG (K : PySem.W.Frag) (C : Addr) (f : Str) : Prop := PySem.W.findIn K (.ref C) f = some none
theorem dG.GR {K : PySem.W.Frag} {C : Addr} {f : Str} (n : dG K C f) : PySem.W.takerIn K C f = some none := by
 unfold PySem.W.takerIn
 rw [show PySem.W.findIn K (.ref C) f = some none from n]
 rfl
structure Meth (K : PySem.W.Frag) (C : Addr) (m : Str) (f : Addr) : Prop where
 at_ : PySem.W.findIn K (.ref C) m = some (some (.ref f))
 fn : PySem.W.isFn K (.ref f) = true
 kp : PySem.W.keepIn K (.ref f) = true
section
variable {X : Cx} {pins : List (Addr × Obj)} {σ : St} {H : Hp} {s : Shared} {a C dx : Addr} {fs : List (Str × V)} {f : Str} {v : V} {A : Around} {E : Value -> Shared -> Prop}
theorem sq {y : V} {u : Value} {Q : Unit -> Shared -> Prop} (I : Inv X pins σ H s) (e : H a = some (.ins C dx fs)) (c : pV X.K C) (n : dG X.K C f) (hl : fs.length < 1000) (ry : RelV y u)
  (h : ∀ s', Inv X pins σ (upd H a (.ins C dx (eR f y fs))) s' -> Q () s') : wpAny (model X.prog X.w) A (setAttr (.ref a) f u) Q E s := by
 obtain ⟨mA, O, r, wi, _, ho⟩ := z7 I.ao e
 have hz : (fs.map (·.1)).length <= sizeLine := by rw [List.length_map, sizeLine_eq]; omega
 refine BM I.iN O c.sa c.po n.GR c.hd wi hz fun h' O' sb => h _ ?_
 have hd : ∃ o, h'.get? dx = some o := let ⟨o, _, _, e', _⟩ := O'.ns; ⟨o, e'⟩
 refine I.write (x := a) (e := dx) (by rw [e]; exact True.intro) (.inr ho) (fun b q hb z => (sb.2 b hb).trans z) hd ?_
 refine ⟨by rw [aH O.ne]; exact ho, ?_, O.ne, O'.obj, _, O'.ns, fun g => ?_, fun g hg => ?_⟩
 ·have := kY f y fs; omega
 ·show d0 ((eR f y fs).lookup g) (if g = f then some u else mA g)
  rw [gp]
  by_cases q : g = f
  ·rw [if_pos q, if_pos q]; exact ry
  ·rw [if_neg q, if_neg q]; exact r g
 ·by_cases q : g = f
  ·rw [q]; exact (fX f y fs).1
  ·refine (fX f y fs).2 g (wi g fun z => hg ?_)
   show (if g = f then some u else mA g) = none
   rw [if_neg q]; exact z
theorem Inv.made (I : Inv X pins σ H s) : Inv X pins σ (upd (upd H s.heap.objs.size (.own (s.heap.objs.size + 1))) (s.heap.objs.size + 1) (.ins C s.heap.objs.size []))
  { s with heap := (s.heap.push PySem.W.emptyDict).push (PySem.W.instObj C s.heap.objs.size) } := by
 have e1 : (s.heap.push PySem.W.emptyDict).get? s.heap.objs.size = some PySem.W.emptyDict := Heap.get?_push_size s.heap rfl
 have e2 : ((s.heap.push PySem.W.emptyDict).push (PySem.W.instObj C s.heap.objs.size)).get? (s.heap.objs.size + 1) = some (PySem.W.instObj C s.heap.objs.size) := by
  have := Heap.get?_push_size (s.heap.push PySem.W.emptyDict) (o := PySem.W.instObj C s.heap.objs.size) rfl
  rwa [Heap.size_push] at this
 have e3 : (s.heap.push PySem.W.emptyDict).Ns s.heap.objs.size (fun _ => none) := ⟨PySem.W.emptyDict, #[], _, e1, rfl, (fun e he => absurd he (by simp)), fun _ => rfl⟩
 have I1 := I.laid (a := s.heap.objs.size) (o := .own (s.heap.objs.size + 1)) (h' := s.heap.push PySem.W.emptyDict) (t' := s.toks) (fun b u q => Heap.get?_push_of_some _ q) (Nat.le_refl _) ⟨_, e1⟩
 refine I1.laid (a := s.heap.objs.size + 1) (o := .ins C s.heap.objs.size []) (t' := s.toks) (fun b u q => Heap.get?_push_of_some _ q) (Nat.le_of_eq (Heap.size_push _ _)) ?_
 have ne : s.heap.objs.size ≠ s.heap.objs.size + 1 := Nat.ne_of_lt (Nat.lt_succ_self _)
 refine ⟨by rw [aH ne, aI], Nat.zero_le _, ne, e2, fun _ => none, (Heap.Ns1.of_empty e3).at fun o q => Heap.get?_push_of_some _ q, fun _ => True.intro, fun y hy => absurd rfl hy⟩
theorem tP {prog : Program} {w : World} {env : Env} {e : Expr} {f : Str} {pos : Pos} {s : Shared} {Q : Value -> Shared -> Prop} (hb : attributeBase e f env (eval e env) = eval e env)
  (h : wpAny (model prog w) A (eval e env) (fun o s₁ => wpAny (model prog w) A (getAttr o f true) Q E s₁) E s) : wpAny (model prog w) A (eval (.Attribute e f pos) env) Q E s :=
 Attribute_any_ h (by rw [arm_eval_Attribute, hb])
end
def He (K : PySem.W.Frag) (ta tv : TE) (f : Str) : TS := fun D σ H => tv σ H fun y H1 => ta σ H1 fun x H2 => ∃ a C dx fs, x = .ref a /\ H2 a = some (.ins C dx fs) /\ pV K C /\ dG K C f /\ fs.length < 1000 /\
 D.nx σ (upd H2 a (.ins C dx (eR f y fs)))
section
variable {X : Cx} {o e value : Expr} {f : Str} {pos pos' tpos : Pos} {ta tv : TE}
theorem Dx (ha : PE X o ta) (hv : PE X value tv) (hs : swapsWith value (some (.Attribute o f pos')) pos.line X.env = pure false) : PS X (.Assign [.Attribute o f pos'] value pos) (He X.K ta tv f) := by
 intro pins s σ H D I h
 refine plainObj_wpAny_Assign_Attribute (bE (hv pins s σ H _ I h) fun u s1 ⟨y, H1, I1, ry, q⟩ => bE (ha pins s1 σ H1 _ I1 q) fun ov s2 ⟨x, H2, I2, rx, a, C, dx, fs, ex, ea, c, n, l, q2⟩ => ?_) hs
 subst ex
 obtain rfl : ov = Value.ref a := rx
 exact sq I2 ea c n l ry fun s3 I3 => ⟨σ, _, I3, q2⟩
end
section
variable {X : Cx} {pins : List (Addr × Obj)} {σ : St} {H : Hp} {s : Shared} {A : Around} {E : Value -> Shared -> Prop} {Q : Value -> Shared -> Prop} {c : Value} {b : Bool}
end
structure az (k : Nat) (A : Around) : Prop where
 hd : A.handled = none
 dp : A.depth + 3 * k + 5 < recursionLimit
 un : A.units + 16 * k + 200 < cLine
theorem az.mono {j k : Nat} {A : Around} (r : az k A) (h : j <= k) : az j A := ⟨r.hd, by have := r.dp; omega, by have := r.un; omega⟩
theorem az.deeper {k : Nat} {A : Around} (r : az (k + 1) A) (env : Env) : az k (A.deeper env) :=
 ⟨r.hd, by have := r.dp; show A.depth + 1 + 3 * k + 5 < _; omega, by have := r.un; show A.units + 3 + 16 * k + 200 < _; omega⟩
theorem r_ {A : Around} {C : Addr} {us : List Value} {kw : List (Str × Value)} : (A.under (.builtin "type.__call__" ⟨.ref C :: us, kw⟩)).depth = A.depth + 1 := by
 first | rfl | simp [Around.under, Code.weight, Code.isCreation, Code.isGuard, Code.isCaller, Code.frames, Code.isFrame, guardIds]
theorem sD {A : Around} {C : Addr} {us : List Value} {kw : List (Str × Value)} : (A.under (.builtin "type.__call__" ⟨.ref C :: us, kw⟩)).units = A.units + 1 := by
 first | rfl | simp [Around.under, Code.cUnits, Code.frames, Code.isFrame]
theorem az.make {k : Nat} {A : Around} (r : az (k + 1) A) (C : Addr) (us : List Value) (kw : List (Str × Value)) : az k (A.under (.builtin "type.__call__" ⟨.ref C :: us, kw⟩)) :=
 ⟨r.hd, by have := r.dp; rw [r_]; omega, by have := r.un; rw [sD]; omega⟩
theorem az.depth {k : Nat} {A : Around} (r : az k A) : A.depth < recursionLimit := by have := r.dp; omega
theorem az.units {k : Nat} {A : Around} (r : az k A) : A.units + 64 < cLine := by have := r.un; omega
def yz : TA := fun _ H Q => Q [] H
def nZ (ta : TE) (tr : TA) : TA := fun σ H Q => ta σ H fun x H1 => tr σ H1 fun xs H2 => Q (x :: xs) H2
section
variable {X : Cx} {e : Expr} {es : List Expr} {te : TE} {t : TA} {pos : Pos}
theorem gu : PA X [] yz := fun _ _ _ _ H Q I h => Calls.spliced_nil ⟨[], H, I, .nil, h⟩
theorem b_ (ha : PE X e te) (hr : PA X es t) (hs : starEach (e :: es) X.env = (false, eval e X.env) :: starEach es X.env := by rfl) : PA X (e :: es) (nZ te t) := by
 intro pos pins s σ H Q I h
 rw [hs]
 show wpAny _ _ (spliced ((false, eval e X.env) :: backTo pos (starEach es X.env))) _ _ s
 refine Calls.spliced_cons (bE (ha pins s σ H _ I h) fun u s1 ⟨x, H1, I1, r1, q1⟩ => ?_)
 exact bE (hr pos pins s1 σ H1 _ I1 q1) fun us s2 ⟨xs, H2, I2, r2, q2⟩ => ⟨x :: xs, H2, I2, .cons r1 r2, q2⟩
def Hr (t : TA) : TE := fun σ H Q => t σ H fun xs H1 => xs.length <= sizeLine /\ ∀ p, H1 p = none -> Q (.ref p) (upd H1 p (.tup xs))
def Hm (t : TA) : TE := fun σ H Q => t σ H fun xs H1 => xs.length <= sizeLine /\ ∀ p, H1 p = none -> Q (.ref p) (upd H1 p (.lst xs))
theorem yX {x1} (h : PA X es t) : PE X (.Tuple es x1 pos) (Hr t) := by
 intro pins s σ H Q I hq
 refine wpAny_Tuple_spliced (bE (h pos pins s σ H _ I hq) fun us s1 ⟨xs, H1, I1, r, z, q⟩ => ⟨by rw [<- r.length]; exact z, ?_⟩)
 have hf : H1 s1.heap.objs.size = none := I1.ao.fresh (Nat.le_refl _)
 refine ⟨.ref s1.heap.objs.size, upd H1 s1.heap.objs.size (.tup xs), I1.laid (t' := s1.toks) (fun b u e => Heap.get?_push_of_some _ e) (Nat.le_refl _) ?_, rfl, q _ hf⟩
 exact ⟨z, us, r, ⟨_, Heap.get?_push_size _ rfl, rfl, _, rfl⟩⟩
theorem yU (h : PA X es t) : PE X (.List es pos) (Hm t) := by
 intro pins s σ H Q I hq
 refine wpAny_List_spliced (bE (h pos pins s σ H _ I hq) fun us s1 ⟨xs, H1, I1, r, z, q⟩ => ⟨by rw [<- r.length]; exact z, ?_⟩)
 have hf : H1 s1.heap.objs.size = none := I1.ao.fresh (Nat.le_refl _)
 refine ⟨.ref s1.heap.objs.size, upd H1 s1.heap.objs.size (.lst xs), I1.laid (t' := s1.toks) (fun b u e => Heap.get?_push_of_some _ e) (Nat.le_refl _) ?_, rfl, q _ hf⟩
 exact ⟨z, us, 0, r, Heap.get?_push_size _ rfl⟩
end
abbrev Sp := List V -> Hp -> VK -> XK -> Prop
abbrev uZ := List Env -> Hp -> Shared -> XK -> Value -> Shared -> Prop
structure mU (P : Program) (w : World) (K : PySem.W.Frag) (mg : Str -> Option Value) (base : Heap) (A : Around) (outer : List Env) (s : Shared) (H : Hp) : Prop where
 frames : A.frames = some outer
 mod : Mod K mg base
 bs : ∀ b o, base.get? b = some o -> s.heap.get? b = some o /\ H b = none
 wC : base.objs.size <= s.heap.objs.size
 fu : s.heap.FunFrames base outer
 wG : ∀ b ∈ lB outer, H b = none
 ao : cf P w H s.heap
 bare : AllBare s.gens
def CE (outer : List Env) (P : Program) (w : World) (H : Hp) (s : Shared) (Q : VK) (u : Value) (s' : Shared) : Prop :=
 ∃ v H', s'.os = s.os /\ AllBare s'.gens /\ Un (lB outer) [] H H' s.heap s'.heap /\ cf P w H' s'.heap /\ RelV v u /\ Q v H'
def CR (CX : uZ) (outer : List Env) (P : Program) (w : World) (H : Hp) (s : Shared) (Q : VK) (E : XK) (r : Result) (s' : Shared) : Prop :=
 match r with
 | .ok (.ret u) => CE outer P w H s Q u s'
 | .ok _ => False
 | .error e => CX outer H s E e s'
structure bX (P : Program) (w : World) (K : PySem.W.Frag) (mg : Str -> Option Value) (base : Heap) (CX : uZ) (k : Nat) (f : Addr) (fd : FuncData) (ps : List Str) (sp : Sp) : Prop where
 len : ∀ vs H Q E, sp vs H Q E -> vs.length = ps.length
 run : ∀ (A : Around) (outer : List Env) (s : Shared) (H : Hp) (args : Args) (us : List Value) (vs : List V) (Q : VK) (E : XK), az k A -> mU P w K mg base A outer s H -> BindsTo s fd args (ps.zip us) -> Vals vs us -> sp vs H Q E ->
  codeAny (model P w) A (.call (.ref f) args) (CR CX outer P w H s Q E) s
theorem bX.mono {P : Program} {w : World} {K : PySem.W.Frag} {mg : Str -> Option Value} {base : Heap} {CX : uZ} {j k : Nat} {f : Addr} {fd : FuncData} {ps : List Str} {sp : Sp} (F : bX P w K mg base CX j f fd ps sp) (h : j <= k) :
  bX P w K mg base CX k f fd ps sp := ⟨F.len, fun A outer s H args us vs Q E hr => F.run A outer s H args us vs Q E (hr.mono h)⟩
theorem mU.make {P : Program} {w : World} {K : PySem.W.Frag} {mg : Str -> Option Value} {base : Heap} {A : Around} {outer : List Env} {s : Shared} {H : Hp} (e : mU P w K mg base A outer s H) (C : Addr) (us : List Value) (kw : List (Str × Value)) :
  mU P w K mg base (A.under (.builtin "type.__call__" ⟨.ref C :: us, kw⟩)) outer s H := ⟨by first | exact e.frames | (simpa [Around.under, Code.envs, Code.isFrame, pushEnvs] using e.frames), e.mod, e.bs, e.wC, e.fu, e.wG, e.ao, e.bare⟩
section
variable {X : Cx} {pins : List (Addr × Obj)} {σ : St} {H : Hp} {s s' : Shared}
theorem Inv.zm (I : Inv X pins σ H s) : mU X.prog X.w X.K X.mg X.base X.A X.stack s H :=
 ⟨I.ok.frames, I.ok.mod, I.bs, Nat.le_trans I.ok.wC I.sz, I.stack, I.pR, I.ao, I.bare⟩
theorem Inv.after {Q : VK} {u : Value} (I : Inv X pins σ H s) (h : CE X.stack X.prog X.w H s Q u s') : EP X pins σ Q u s' := by
 obtain ⟨v, H', os, bare, un, ao, r, q⟩ := h
 obtain ⟨hh, g, d, t, os'⟩ := s'
 obtain rfl : os' = s.os := os
 exact ⟨v, H', I.call (h' := hh) (g' := g) (d' := d) (t' := t) (ch := []) un ao bare (fun b z => absurd z (by simp)), r, q⟩
end
def B7 (sp : Sp) (dvs : List V) (E : XK) (t : TA) : TE := fun σ H Q => t σ H fun vs H1 => sp (vs ++ dvs) H1 Q E
def GK (C : Addr) (sp : Sp) (dvs : List V) (E : XK) (t : TA) : TE := fun σ H Q => t σ H fun vs H1 => ∀ x dx, H1 x = none -> H1 dx = none -> dx ≠ x ->
 sp (.ref x :: (vs ++ dvs)) (upd (upd H1 dx (.own x)) x (.ins C dx [])) (fun v H2 => v = .aW /\ Q (.ref x) H2) E
def Binds (K : PySem.W.Frag) (fd : FuncData) (ps : List Str) (ds : List Value) : Prop :=
 ∀ (s : Shared) (us : List Value), K.In s.heap -> (us ++ ds).length = ps.length -> BindsTo s fd ⟨us, []⟩ (ps.zip (us ++ ds))
theorem Binds.all {K : PySem.W.Frag} {fd : FuncData} {ps : List Str} (h : ∀ us : List Value, us.length = ps.length -> bindArgs fd ⟨us, []⟩ = pure (ps.zip us)) : Binds K fd ps [] := fun s us _ hl => by
 rw [List.append_nil] at hl ⊢
 exact .of_eq (h us hl)
def Passes (CX : uZ) (X : Cx) (E : XK) : Prop := ∀ (pins : List (Addr × Obj)) (σ : St) (H : Hp) (s : Shared) (e : Value) (s' : Shared), Inv X pins σ H s -> CX X.stack H s E e s' -> X.xe e s'
section
variable {X : Cx} {CX : uZ} {k : Nat} {f C : Addr} {fd : FuncData} {ps : List Str} {sp : Sp} {dvs : List V} {ds : List Value} {E : XK} {x m : Str} {p pos apos : Pos} {e o : Expr} {es : List Expr} {ta : TE} {t : TA}
theorem sY {pins : List (Addr × Obj)} {σ : St} {H : Hp} {s : Shared} {Q : VK} {us : List Value} {vs : List V} (F : bX X.prog X.w X.K X.mg X.base CX k f fd ps sp) (hr : az k X.A) (hb : Binds X.K fd ps ds) (hd : Vals dvs ds) (hx : Passes CX X E)
  (I : Inv X pins σ H s) (r : Vals vs us) (h : sp (vs ++ dvs) H Q E) : wpAny (model X.prog X.w) X.A (call (.ref f) us) (EP X pins σ Q) X.xe s := by
 have r2 : Vals (vs ++ dvs) (us ++ ds) := r.append hd
 have hl : (us ++ ds).length = ps.length := by rw [<- r2.length]; exact F.len _ _ _ _ h
 refine wpAny_call (codeAny_mono (F.run X.A X.stack s H ⟨us, []⟩ (us ++ ds) (vs ++ dvs) Q E hr I.zm (hb s us I.iN hl) r2 h) fun r s' hq => ?_)
 cases r with
 | error e => exact hx pins σ H s e s' I hq
 | ok fl =>
  cases fl with
  | ret u => exact I.after hq
  | next => exact False.elim hq
  | brk => exact False.elim hq
  | cont => exact False.elim hq
theorem uK (F : bX X.prog X.w X.K X.mg X.base CX k f fd ps sp) (hr : az k X.A) (hg : Gl X x) (hm : X.mg x = some (.ref f)) (hk : PySem.W.keepIn X.K (.ref f) = true) (hb : Binds X.K fd ps ds) (hd : Vals dvs ds) (hx : Passes CX X E)
  (ha : PA X (e :: es) t) (hdb : (x == ("__debug__" : Str)) = false := by decide) (he : starEach (e :: es) X.env = (false, eval e X.env) :: starEach es X.env := by rfl) (hpl : (backTo pos (starEach es X.env)).any (·.1) = false := by rfl) :
  PE X (.Call (.Name x p) (e :: es) [] pos) (B7 sp dvs E t) := by
 intro pins s σ H Q I h
 refine wpAny_Call_Name_kw (iE I hg hm ?_ hdb)
 refine PySem.W.callWith_K (h₀ := X.base) I.ok.mod.Bo hk (bE (ha pos pins s σ H _ I h) fun us s1 ⟨vs, H1, I1, r, q⟩ => ⟨I1.iN, ?_⟩) he hpl
 exact sY F hr hb hd hx I1 r q
structure Mk (K : PySem.W.Frag) (C f : Addr) : Prop where
 makes : PySem.W.makesIn K C = true
 init : PySem.W.findIn K (.ref C) "__init__" = some (some (.ref f))
 fn : PySem.W.isFn K (.ref f) = true
 kp : PySem.W.keepIn K (.ref C) = true
theorem yk {pins : List (Addr × Obj)} {σ : St} {H : Hp} {s : Shared} {Q : VK} {us : List Value} {vs : List V} (M : Mk X.K C f) (F : bX X.prog X.w X.K X.mg X.base CX k f fd ps sp) (hr : az (k + 1) X.A) (hb : Binds X.K fd ps ds) (hd : Vals dvs ds)
  (hx : Passes CX X E) (I : Inv X pins σ H s) (r : Vals vs us)
  (h : ∀ x dx, H x = none -> H dx = none -> dx ≠ x -> sp (.ref x :: (vs ++ dvs)) (upd (upd H dx (.own x)) x (.ins C dx [])) (fun v H2 => v = .aW /\ Q (.ref x) H2) E) :
  wpAny (model X.prog X.w) X.A (call (.ref C) us) (EP X pins σ Q) X.xe s := by
 have hq := h (s.heap.objs.size + 1) s.heap.objs.size (I.ao.fresh (Nat.le_succ _)) (I.ao.fresh (Nat.le_refl _)) (Nat.ne_of_lt (Nat.lt_succ_self _))
 have I2 := Inv.made (C := C) I
 have r2 : Vals (V.ref (s.heap.objs.size + 1) :: (vs ++ dvs)) (Value.ref (s.heap.objs.size + 1) :: (us ++ ds)) := .cons rfl (r.append hd)
 have hl : (Value.ref (s.heap.objs.size + 1) :: us ++ ds).length = ps.length := by
  have e := r2.length
  rw [F.len _ _ _ _ hq] at e
  exact e.symm
 refine wpAny_call (xx (f := f) I.iN M.makes M.init (beq_iff_eq.mp M.fn) (codeAny_mono (F.run _ X.stack _ _ ⟨Value.ref (s.heap.objs.size + 1) :: us, []⟩ (Value.ref (s.heap.objs.size + 1) :: (us ++ ds)) _ _ E (hr.make C us [])
  (I2.zm.make C us []) (hb _ (Value.ref (s.heap.objs.size + 1) :: us) I2.iN hl) r2 hq) fun r s' hq' => ?_))
 cases r with
 | error e => exact hx pins σ _ _ e s' I2 hq'
 | ok fl =>
  cases fl with
  | ret u =>
   obtain ⟨v, H', I3, rv, ev, q3⟩ := I2.after hq'
   subst ev
   exact ⟨rv, ⟨V.ref (s.heap.objs.size + 1), H', I3, rfl, q3⟩⟩
  | next => exact False.elim hq'
  | brk => exact False.elim hq'
  | cont => exact False.elim hq'
theorem Ay (M : Mk X.K C f) (F : bX X.prog X.w X.K X.mg X.base CX k f fd ps sp) (hr : az (k + 1) X.A) (hg : Gl X x) (hm : X.mg x = some (.ref C)) (hb : Binds X.K fd ps ds) (hd : Vals dvs ds) (hx : Passes CX X E)
  (ha : PA X (e :: es) t) (hdb : (x == ("__debug__" : Str)) = false := by decide) (he : starEach (e :: es) X.env = (false, eval e X.env) :: starEach es X.env := by rfl) (hpl : (backTo pos (starEach es X.env)).any (·.1) = false := by rfl) :
  PE X (.Call (.Name x p) (e :: es) [] pos) (GK C sp dvs E t) := by
 intro pins s σ H Q I h
 refine wpAny_Call_Name_kw (iE I hg hm ?_ hdb)
 refine PySem.W.callWith_K (h₀ := X.base) I.ok.mod.Bo M.kp (bE (ha pos pins s σ H _ I h) fun us s1 ⟨vs, H1, I1, r, q⟩ => ⟨I1.iN, ?_⟩) he hpl
 exact yk M F hr hb hd hx I1 r q
end
def PK (X : Cx) (kws : List Keyword) (t : TA) : Prop :=
 ∀ (pos : Pos) (pins : List (Addr × Obj)) (s : Shared) (σ : St) (H : Hp) (Q : List V -> Hp -> Prop), Inv X pins σ H s -> t σ H Q -> wpAny (model X.prog X.w) X.A (evalAll ((backToKw pos (keywordEach kws X.env)).map (·.2))) (AP X pins σ Q) X.xe s
section
variable {X : Cx} {CX : uZ} {k : Nat} {f C : Addr} {fd : FuncData} {ps ks : List Str} {sp : Sp} {E : XK} {x m : Str} {p pos apos kpos : Pos} {e o : Expr} {es : List Expr} {kws : List Keyword} {te ta : TE} {t tk : TA} {nm : Option Str}
theorem Du : PK X [] yz := fun _ _ _ _ H Q I h => wpAny_evalAll_nil ⟨[], H, I, .nil, h⟩
theorem A1 (ha : PE X e te) (hr : PK X kws t) : PK X (⟨nm, e, kpos⟩ :: kws) (nZ te t) := by
 intro pos pins s σ H Q I h
 show wpAny _ _ (evalAll ((do let v <- eval e X.env; standAt pos; pure v) :: (backToKw pos (keywordEach kws X.env)).map (·.2))) _ _ s
 refine wpAny_evalAll_cons (wpAny_bind (bE (ha pins s σ H _ I h) fun u s1 ⟨x, H1, I1, r1, q1⟩ => wpAny_bind (wpAny_standAt (wpAny_pure ?_))))
 exact bE (hr pos pins s1 σ H1 _ I1 q1) fun us s2 ⟨xs, H2, I2, r2, q2⟩ => ⟨x :: xs, H2, I2, .cons r1 r2, q2⟩
variable {g : List Value -> List Value -> List Value} {gV : List V -> List V -> List V}
end
structure aF (N P : List Str) (sc : Scope) : Prop where
 kind : sc.kind = .function
 co : sc.isCoroutine = false
 gen : sc.isGenerator = false
 nd : N.Nodup
 pre : N.take P.length = P
 par : ∀ x ∈ P, sc.names.lookup x = some .local \/ sc.names.lookup x = some .cell
 DR : ∀ y ∈ sc.names, y.2 ≠ .free
theorem m5 {kindOf : Str -> Option NameKind} {x : Str} : ∀ {binds : List (Str × Value)} {m : Str -> Option Value}, (∀ v, (x, v) ∉ binds) -> bindL kindOf binds m x = m x
 | [], _, _ => rfl
 | (n, v) :: r, m, h => by
  unfold bindL
  rw [m5 fun w hw => h w (List.mem_cons_of_mem _ hw)]
  split
  ·have : x ≠ n := by rintro rfl; exact h v List.mem_cons_self
   simp [this]
  ·rfl
theorem m3 {kindOf : Str -> Option NameKind} {x : Str} : ∀ {binds : List (Str × Value)} {m : Str -> Option Value}, (∀ v, (x, v) ∉ binds) -> bindC kindOf binds m x = m x
 | [], _, _ => rfl
 | (n, v) :: r, m, h => by
  unfold bindC
  rw [m3 fun w hw => h w (List.mem_cons_of_mem _ hw)]
  split
  ·rfl
  ·have : x ≠ n := by rintro rfl; exact h v List.mem_cons_self
   simp [this]
theorem m4 {kindOf : Str -> Option NameKind} {x : Str} {v : Value} : ∀ {P : List Str} {vs : List Value} {i : Nat} {m : Str -> Option Value}, P.Nodup -> P[i]? = some x -> vs[i]? = some v -> kindOf x = some .local ->
  bindL kindOf (P.zip vs) m x = some v
 | [], _, _, _, _, h, _, _ => by simp at h
 | _ :: _, [], _, _, _, _, h, _ => by simp at h
 | p :: P, w :: vs, 0, m, nd, h1, h2, hk => by
  simp at h1 h2; subst h1; subst h2
  show bindL kindOf ((p, w) :: P.zip vs) m p = _
  unfold bindL
  rw [m5 fun v hv => (List.nodup_cons.mp nd).1 (List.of_mem_zip hv).1, if_pos hk]
  simp
 | p :: P, w :: vs, i + 1, m, nd, h1, h2, hk => by
  show bindL kindOf ((p, w) :: P.zip vs) m x = _
  unfold bindL
  exact m4 (i := i) (List.nodup_cons.mp nd).2 (by simpa using h1) (by simpa using h2) hk
theorem mz {kindOf : Str -> Option NameKind} {x : Str} {v : Value} : ∀ {P : List Str} {vs : List Value} {i : Nat} {m : Str -> Option Value}, P.Nodup -> P[i]? = some x -> vs[i]? = some v -> kindOf x ≠ some .local ->
  bindC kindOf (P.zip vs) m x = some v
 | [], _, _, _, _, h, _, _ => by simp at h
 | _ :: _, [], _, _, _, _, h, _ => by simp at h
 | p :: P, w :: vs, 0, m, nd, h1, h2, hk => by
  simp at h1 h2; subst h1; subst h2
  show bindC kindOf ((p, w) :: P.zip vs) m p = _
  unfold bindC
  rw [m3 fun v hv => (List.nodup_cons.mp nd).1 (List.of_mem_zip hv).1, if_neg hk]
  simp
 | p :: P, w :: vs, i + 1, m, nd, h1, h2, hk => by
  show bindC kindOf ((p, w) :: P.zip vs) m x = _
  unfold bindC
  exact mz (i := i) (List.nodup_cons.mp nd).2 (by simpa using h1) (by simpa using h2) hk
def start (N : List Str) (vs : List V) : St := vs.map some ++ List.replicate (N.length - vs.length) none
def kr (CX : uZ) (P : Program) (w : World) (K : PySem.W.Frag) (mg : Str -> Option Value) (base : Heap) (N : List Str) (qual : Str) (scope : Scope) (f : Addr) (cd : Value) (A : Around) (outer : List Env) (s : Shared) (H : Hp) (E : XK) : Cx where
 prog := P
 w := w
 K := K
 mg := mg
 base := base
 A := A.deeper (envOfC qual scope s.heap.objs.size f cd)
 N := N
 s₀ := s
 H₀ := H
 env := envOfC qual scope s.heap.objs.size f cd
 outer := outer
 stack := envOfC qual scope s.heap.objs.size f cd :: outer
 ex := []
 calm := true
 fn := fun _ => true
 pn := []
 xe := fun e s' => wpAny (model P w) (A.deeper (envOfC qual scope s.heap.objs.size f cd)) (leaving (envOfC qual scope s.heap.objs.size f cd) e) (fun _ s'' => CX outer H s E e s'') (fun e' s'' => CX outer H s E e' s'') s'
theorem pd {sc : Scope} {n : Nat} {x : Str} (h : sc.names.lookup x = some .cell) : ∃ c, (cellsFrom n sc.names []).lookup x = some c := by
 have q := PySem.W.cellsFrom_some sc.names n [] (.inl h)
 exact Option.isSome_iff_exists.mp q
theorem vF {CX : uZ} {P : Program} {w : World} {K : PySem.W.Frag} {mg : Str -> Option Value} {base : Heap} {N ps : List Str} {qual : Str} {scope : Scope} {f : Addr} {cd : Value} {A : Around} {outer : List Env} {s s1 : Shared} {H : Hp} {E : XK} {us : List Value} {vs : List V}
  (S : aF N ps scope) (hd : A.handled = none) (e0 : mU P w K mg base A outer s H) (hl : vs.length = ps.length) (r : Vals vs us)
  (x : InCallC s s.heap.objs.size (bindL (envOfC qual scope s.heap.objs.size f cd).kindOf (ps.zip us) fun _ => none) (cellsFrom (s.heap.objs.size + 1) scope.names []) (bindC (envOfC qual scope s.heap.objs.size f cd).kindOf (ps.zip us) fun _ => none) s1) :
  Inv (kr CX P w K mg base N qual scope f cd A outer s H E) [] (start N vs) H s1 := by
 have hpl : ps.length <= N.length := by have := congrArg List.length S.pre; rw [List.length_take] at this; omega
 obtain ⟨h1, tk, rfl, hk⟩ := x.done
 have noA : ∀ b : Addr, b ∉ (kr CX P w K mg base N qual scope f cd A outer s H E).ex := fun b z => absurd (show b ∈ ([] : List Addr) from z) (by simp)
 refine ⟨⟨e0.mod, S.kind, rfl, rfl, Nat.le_refl _, fun y z c h1 h2 => ?_, fun y hy => ?_, fun y c _ h => ?_, fun _ => hd, Around.frames_deeper e0.frames, .inr ⟨rfl, rfl⟩, fun b z => absurd z (noA b), e0.bs, e0.wC, fun b _ _ => noA b, fun b z => absurd z (noA b), e0.fu, e0.wG⟩,
  rfl, e0.bare, Un.kept hk, ⟨_, x.toInCall.ns, fun i y v h1 h2 h3 => ?_⟩, fun y c h => ⟨_, x.cell y c h⟩, e0.ao.fresh (Nat.le_refl _), fun y c h => ?_, fun p hp => absurd (show p ∈ ([] : List (Addr × Obj)) from hp) (by simp), e0.ao.kept hk, ?_⟩
 ·exact name_of_addr x.apart (PySem.mem_of_lookup h1) (PySem.mem_of_lookup h2)
 ·have hy : scope.names.lookup y = some .cell \/ scope.names.lookup y = some .free := hy
  rcases hy with hy | hy
  ·exact pd hy
  ·exact absurd rfl (S.DR _ (PySem.mem_of_lookup hy))
 ·exact Nat.le_of_lt (x.above y c (PySem.mem_of_lookup h))
 ·have hi : i < vs.length := by
   unfold start at h2
   by_cases hi : i < vs.length
   ·exact hi
   ·rw [List.getElem?_append_right (by simpa using hi)] at h2
    rw [List.getElem?_replicate] at h2
    split at h2 <;> cases h2
  have ha : vs[i]? = some v := by
   unfold start at h2
   rw [List.getElem?_append_left (by simpa using hi), List.getElem?_map] at h2
   cases e : vs[i]? with
   | none => rw [e] at h2; cases h2
   | some a => rw [e] at h2; cases h2; rfl
  obtain ⟨u, hu, rv⟩ := r.get ha
  have hp : ps[i]? = some y := by
   rw [<- S.pre, List.getElem?_take_of_lt (by omega)]; exact h1
  have ndP : ps.Nodup := by rw [<- S.pre]; exact S.nd.sublist (List.take_sublist _ _)
  refine ⟨u, rv, ?_⟩
  rcases S.par y (List.mem_of_getElem? hp) with k | k
  ·exact .inl ⟨k, m4 ndP hp hu k⟩
  ·obtain ⟨c, e⟩ := pd (n := s.heap.objs.size + 1) k
   refine .inr ⟨.inl k, c, e, ?_⟩
   have q := x.cell y c e
   rw [mz ndP hp hu (by show scope.names.lookup y ≠ _; rw [k]; decide)] at q
   exact q
 ·exact e0.ao.fresh (Nat.le_of_lt (x.above y c (PySem.mem_of_lookup h)))
 ·unfold start
  show _ = N.length
  rw [List.length_append, List.length_map, List.length_replicate]
  omega
theorem qF {CX : uZ} {P : Program} {w : World} {K : PySem.W.Frag} {mg : Str -> Option Value} {base : Heap} {k : Nat} {f : Addr} {name qual : Str} {params : Arguments} {body : List Stmt} {scope : Scope} {dV kV doc pm cdv ct oc : Value} {an od : Option Addr}
  {osl : Array (Option Value)} {N ps : List Str} {sp : Sp} (lk : K.lookup f = some ⟨oc, od, .func (PySem.W.fnOf name qual params body scope dV kV doc pm an cdv ct), osl⟩) (hcd : PySem.W.codeIn K cdv qual = true) (S : aF N ps scope)
  (len : ∀ vs H Q E, sp vs H Q E -> vs.length = ps.length)
  (hbody : ∀ (A : Around) (outer : List Env) (s : Shared) (H : Hp) (vs : List V) (Q : VK) (E : XK), az k (A.deeper (envOfC qual scope s.heap.objs.size f cdv)) -> sp vs H Q E ->
   ∃ t, hX (kr CX P w K mg base N qual scope f cdv A outer s H E) body t /\ t { nx := fun _ H' => Q .aW H', rt := Q } (start N vs) H) :
  bX P w K mg base CX (k + 1) f (PySem.W.fnOf name qual params body scope dV kV doc pm an cdv ct) ps sp := by
 refine ⟨len, fun A outer s H args us vs Q E hr e0 hb r hsp => ?_⟩
 have hl := len _ _ _ _ hsp
 have KX : K.In s.heap := e0.mod.Bo.keeps fun b o e => (e0.bs b o e).1
 have lim : s.heap.NoLimit := e0.mod.nolimit.keeps fun b o e => (e0.bs b o e).1
 have hkind : ∀ y ∈ ps.zip us, scope.names.lookup y.1 = some .local \/ (scope.names.lookup y.1 = some .cell /\ ((cellsFrom (s.heap.objs.size + 1) scope.names []).lookup y.1).isSome = true) := fun ⟨n, v⟩ hy => by
  rcases S.par n (List.of_mem_zip hy).1 with q | q
  ·exact .inl q
  ·exact .inr ⟨q, PySem.W.cellsFrom_some _ _ _ (.inl q)⟩
 refine codeAny_call_function hr.depth (KX _ _ lk) rfl S.co S.gen rfl (PySem.W.codeRec_of KX hcd) (hb _ _ _ _ ?_)
 refine wpAny_newFunctionEnv_cells S.kind hkind fun env he s1 x => ?_
 subst he
 refine ⟨lim.keeps x.toInCall.keep, codeAny_func ?_⟩
 obtain ⟨t, ht, hq⟩ := hbody A outer s H vs Q E (hr.deeper _) hsp
 have I : Inv (kr CX P w K mg base N qual scope f cdv A outer s H E) [] (start N vs) H s1 := vF S hr.hd e0 hl r x
 refine wpAny_mono (ht [] s1 (start N vs) H _ I hq) (fun fl s' hs => ?_) fun e s' hs => hs
 have fin : ∀ {σ' : St} {H' : Hp} {v : V} {u : Value}, Inv (kr CX P w K mg base N qual scope f cdv A outer s H E) [] σ' H' s' -> RelV v u -> Q v H' -> CE outer P w H s Q u s' :=
  fun {σ' H' v u} J rv q => ⟨v, H', J.os, J.bare, J.base, J.ao, rv, q⟩
 cases fl with
 | ret u =>
  obtain ⟨v, σ', H', J, rv, q⟩ := hs
  exact fin J rv q
 | next =>
  obtain ⟨σ', H', J, q⟩ := hs
  exact fin (v := V.aW) (u := Value.none) J rfl q
 | brk =>
  obtain ⟨_, _, _, q⟩ := hs
  exact False.elim q
 | cont =>
  obtain ⟨_, _, _, q⟩ := hs
  exact False.elim q
section
variable {X : Cx} {x : Str} {p pos : Pos} {e : Expr} {es : List Expr} {t : TA} {id T : String} {r : List V -> Hp -> VK -> Prop}
def GF (r : List V -> Hp -> VK -> Prop) (t : TA) : TE := fun σ H Q => t σ H fun vs H1 => r vs H1 Q
theorem eC (hc : gS X (.builtin id) r) (hg : Gl X x) (hm : X.mg x = none) (hv : bootBuiltins x = some (.builtin id)) (ha : PA X (e :: es) t) (hn : x ≠ "__name__" := by decide) (hdb : (x == ("__debug__" : Str)) = false := by decide)
  (he : starEach (e :: es) X.env = (false, eval e X.env) :: starEach es X.env := by rfl) (hpl : (backTo pos (starEach es X.env)).any (·.1) = false := by rfl) : PE X (.Call (.Name x p) (e :: es) [] pos) (GF r t) := by
 intro pins s σ H Q I h
 refine wpAny_Call_Name_kw (ip I hg hm hv ?_ hn hdb)
 exact PyProof.Rows.callWith_builtin1 (bE (ha pos pins s σ H _ I h) fun us s1 ⟨vs, H1, I1, r1, q1⟩ => hc pins s1 σ H1 vs us Q I1 r1 q1) he hpl
theorem j9 (hc : gS X (.type T) r) (hg : Gl X x) (hm : X.mg x = none) (hv : bootBuiltins x = some (.type T)) (ha : PA X (e :: es) t) (hn : x ≠ "__name__" := by decide) (hdb : (x == ("__debug__" : Str)) = false := by decide)
  (he : starEach (e :: es) X.env = (false, eval e X.env) :: starEach es X.env := by rfl) (hpl : (backTo pos (starEach es X.env)).any (·.1) = false := by rfl) : PE X (.Call (.Name x p) (e :: es) [] pos) (GF r t) := by
 intro pins s σ H Q I h
 refine wpAny_Call_Name_kw (ip I hg hm hv ?_ hn hdb)
 exact PyProof.Rows.callWith_type1 (bE (ha pos pins s σ H _ I h) fun us s1 ⟨vs, H1, I1, r1, q1⟩ => hc pins s1 σ H1 vs us Q I1 r1 q1) he hpl
end
end L2
namespace HT
open PySem PyProof.Rows
section
open PySem.SeqAt
open PySem.AutoSeq1 (wpAny_loadPart')
open PySem.MeetsSeq PySem.MeetsSeq2 PySem.MeetsSeq3
end
section
variable {prog : Program} {w : World} {A : Around} {E : Value -> Shared -> Prop} {s : Shared}
theorem za {t b : Addr} {vs ws : List Value} {Q : Value -> Shared -> Prop} (ht : IsTup s.heap t vs.toArray) (hb : IsTup s.heap b ws.toArray) (hv : vs ≠ [])
  (h1 : ws = [] -> Q (.ref t) s) (h2 : ws ≠ [] -> Q (.ref s.heap.objs.size) { s with heap := s.heap.push { cls := .type "tuple", data := .seq (vs ++ ws).toArray } })
  (hsz : vs.length + ws.length <= sizeLine) : wpAny (model prog w) A (binaryOp .Add (.ref t) (.ref b)) Q E s := by
 obtain ⟨⟨cls, dd, data, sl⟩, ho, hc, n, hd⟩ := id ht
 obtain ⟨⟨cls2, dd2, data2, sl2⟩, ho2, hc2, n2, hd2⟩ := id hb
 simp only at hc hd hc2 hd2
 subst hc hd hc2 hd2
 have e : vs.toArray ++ ws.toArray = (vs ++ ws).toArray := by simp
 by_cases hw : ws = []
 ·exact concat_meets ⟨_, ho, rfl⟩ ⟨_, ho2, rfl⟩ noFill_tuple_add seq_tuple_add PySem.F.slot_tuple_add PySem.F.entry_tuple_add (PySem.F.args_tuple_add_2 _ _)
   (tuple_addW1 t b vs.toArray ws.toArray n n2 dd dd2 sl sl2 (by simpa using hv) (by simp [hw])) ⟨ho, ho2, h1 hw⟩
 ·refine concat_meets ⟨_, ho, rfl⟩ ⟨_, ho2, rfl⟩ noFill_tuple_add seq_tuple_add PySem.F.slot_tuple_add PySem.F.entry_tuple_add (PySem.F.args_tuple_add_2 _ _)
   (tuple_addW2 t b vs.toArray ws.toArray n n2 dd dd2 sl sl2 (by simpa using hv) (by simpa using hw) (by rw [List.size_toArray, List.size_toArray]; exact hsz)) ⟨ho, ho2, ?_⟩
  rw [e]
  exact h2 hw
def cM (n d : Nat) : Option Int -> Nat
 | none => d
 | some v => if v < 0 then (v + (n : Int)).toNat else min v.toNat n
theorem BH (n d k : Nat) : cM n d (some (k : Int)) = min k n := by
 show (if (k : Int) < 0 then ((k : Int) + (n : Int)).toNat else min (k : Int).toNat n) = min k n
 rw [if_neg (by omega), Int.toNat_natCast]
theorem D4 (n d : Nat) (hd : d <= n) (o : Option Int) : cM n d o <= n := by
 cases o with
 | none => exact hd
 | some v =>
  show (if v < 0 then (v + (n : Int)).toNat else min v.toNat n) <= n
  by_cases hv : v < 0
  ·rw [if_pos hv]; omega
  ·rw [if_neg hv]; exact Nat.min_le_right _ _
theorem tR (v : Int) (n d : Nat) : (if v < 0 then max (v + (n : Int)) 0 else min v (n : Int)) = ((cM n d (some v) : Nat) : Int) := by
 show (if v < 0 then max (v + (n : Int)) 0 else min v (n : Int)) = (((if v < 0 then (v + (n : Int)).toNat else min v.toNat n) : Nat) : Int)
 by_cases hv : v < 0
 ·simp only [if_pos hv]; omega
 ·simp only [if_neg hv]; omega
theorem rL (lo hi : Option Int) (n : Nat) : Builtin.Slice.sliceAdjust lo hi 1 (n : Int) = (((cM n 0 lo : Nat) : Int), ((cM n n hi : Nat) : Int)) := by
 have h1 : ¬ ((1 : Int) < 0) := by omega
 unfold Builtin.Slice.sliceAdjust
 simp only [h1, if_false]
 refine Prod.ext ?_ ?_
 ·cases lo with
  | none => rfl
  | some v => exact tR v n 0
 ·cases hi with
  | none => rfl
  | some v => exact tR v n n
theorem sO (i j : Nat) : Builtin.Slice.slicePlaces (i : Int) (j : Int) 1 = j - i := by
 unfold Builtin.Slice.slicePlaces
 have h1 : (1 : Int) > 0 := by omega
 simp only [h1, if_true, Int.ediv_one]
 split <;> omega
theorem mJ {v : Value} {o : Option Int} {Q : Option Int -> Shared -> Prop} (p : IsPart v o) (h : Q o s) : wpAny (model prog w) A (Builtin.Slice.slicePartIndex v) Q E s := by
 cases p with
 | none => exact slicePart_none h
 | int i t => exact slicePart_int h
theorem kG {sl : Addr} {vl vu : Value} {lo hi : Option Int} {n : Nat} {Q : Int × Int × Nat -> Shared -> Prop} (hs : s.heap.IsSliceOf sl vl vu .none) (pl : IsPart vl lo) (pu : IsPart vu hi)
  (h : Q (((cM n 0 lo : Nat) : Int), 1, cM n n hi - cM n 0 lo) s) : wpAny (model prog w) A (Builtin.Slice.sliceApplied (.ref sl) (pure (n : Int))) Q E s := by
 obtain ⟨os, hos, hcs, hds⟩ := id hs
 unfold Builtin.Slice.sliceApplied Builtin.Slice.sliceFields
 refine wpAny_bind (wpAny_bind (wpAny_field hos hds (x := vl) rfl (wpAny_bind (wpAny_field hos hds (x := vu) rfl (wpAny_bind (wpAny_field hos hds (x := .none) rfl (wpAny_pure ?_)))))))
 refine wpAny_bind (slicePart_none ?_)
 show wpAny _ _ (if ((1 : Int) == 0) = true then _ else _) _ _ s
 rw [if_neg (by decide)]
 refine wpAny_bind (mJ pl (wpAny_bind (mJ pu (wpAny_bind (wpAny_pure ?_)))))
 show wpAny _ _ (match Builtin.Slice.sliceAdjust lo hi 1 (n : Int) with | (lo, hi) => pure (lo, (1 : Int), Builtin.Slice.slicePlaces lo hi 1)) _ _ s
 rw [rL lo hi n]
 show wpAny _ _ (pure (((cM n 0 lo : Nat) : Int), (1 : Int), Builtin.Slice.slicePlaces ((cM n 0 lo : Nat) : Int) ((cM n n hi : Nat) : Int) 1)) _ _ s
 rw [sO]
 exact wpAny_pure h
theorem ya (xs : Array Value) (i k : Nat) : ((List.range k).filterMap fun (m : Nat) => xs[((i : Int) + (m : Int) * 1).toNat]?).toArray = ((xs.toList.drop i).take k).toArray := by
 have e : (fun (m : Nat) => xs[((i : Int) + (m : Int) * 1).toNat]?) = fun m => xs[i + m]? := by
  funext m
  have : ((i : Int) + (m : Int) * 1).toNat = i + m := by omega
  rw [this]
 rw [e]
 have := pick_run xs i k
 rw [List.filterMap_map] at this
 have e2 : ((fun x => xs[x]?) ∘ fun x => i + x) = fun m => xs[i + m]? := rfl
 rw [e2] at this
 rw [this]
theorem jR {t sl : Addr} {items : Array Value} {vl vu : Value} {lo hi : Option Int} {Q : Value -> Shared -> Prop} (ht : IsTup s.heap t items) (hs : s.heap.IsSliceOf sl vl vu .none) (pl : IsPart vl lo) (pu : IsPart vu hi)
  (hw : ¬ (cM items.size 0 lo = 0 /\ cM items.size items.size hi = items.size))
  (h : Q (.ref s.heap.objs.size) { s with heap := s.heap.push { cls := .type "tuple", data := .seq ((items.toList.drop (cM items.size 0 lo)).take (cM items.size items.size hi - cM items.size 0 lo)).toArray } })
  (hsz : items.size <= sizeLine) : wpAny (model prog w) A (getItem (.ref t) (.ref sl)) Q E s := by
 have htake : sizeOk (.seq ((items.toList.drop (cM items.size 0 lo)).take (cM items.size items.size hi - cM items.size 0 lo)).toArray) := by
  show ((items.toList.drop (cM items.size 0 lo)).take (cM items.size items.size hi - cM items.size 0 lo)).toArray.size <= sizeLine
  rw [List.size_toArray, List.length_take, List.length_drop, Array.length_toList]
  omega
 have hj : cM items.size items.size hi <= items.size := D4 _ _ (Nat.le_refl _) hi
 obtain ⟨os, hos, hcs, hds⟩ := id hs
 have hTs : s.TypeIs (.ref sl) "slice" := ⟨os, hos, hcs⟩
 unfold getItem
 try with_reducible refine wpAny_holding ?_
 first | refine wpAny_bind (wpAny_pure ?_) | skip
 refine wpAny_bind (wpAny_sequenceKey ht.typeIs (by decide) ?_)
 refine wpAny_bind (wpAny_callSpecial?_slot (name := Str.ofString "__getitem__") ht.typeIs PyProof.Rows.slot_tuple_getitem
  (wpAny_call_entry PyProof.Rows.slot_tuple_getitem ht.typeIs entry_tuple_getitem ?_ (args_tuple_getitem _ _)))
 show wpAny _ _ (Builtin.Tuple.tupleItemsOf (.ref t) >>= _) _ _ s
 refine wpAny_bind (tupleItemsOf_ ht ?_)
 refine wpAny_bind (wpAny_typeOf hTs ?_)
 rw [if_pos (by decide)]
 refine wpAny_bind (kG hs pl pu ?_)
 have hno : ¬ ((((cM items.size 0 lo : Nat) : Int) == 0 && (1 : Int) == 1 && (cM items.size items.size hi - cM items.size 0 lo) == items.size) = true) := by
  intro q
  rw [Bool.and_eq_true, Bool.and_eq_true] at q
  have q1 : ((cM items.size 0 lo : Nat) : Int) = 0 := eq_of_beq q.1.1
  have q2 : cM items.size items.size hi - cM items.size 0 lo = items.size := eq_of_beq q.2
  exact hw ⟨by omega, by omega⟩
 show wpAny _ _ (if (((cM items.size 0 lo : Nat) : Int) == 0 && (1 : Int) == 1 && (cM items.size items.size hi - cM items.size 0 lo) == items.size) = true then _ else _) _ _ s
 rw [if_neg hno, ya]
 first
  | exact wpAny_bind (m := Builtin.Tuple.tupleExact _) (wpAny_newObj_type (wpAny_pure ⟨_, rfl, wpAny_pure h⟩) htake)
  | exact wpAny_bind (m := Builtin.Tuple.tupleExact _) (wpAny_newObj_type (wpAny_bind (wpAny_pure (wpAny_pure ⟨_, rfl, wpAny_pure h⟩))) htake)
  | exact wpAny_bind (wpAny_bind (m := Builtin.Tuple.tupleExact _) (wpAny_newObj_type (wpAny_pure (wpAny_pure ⟨_, rfl, wpAny_pure h⟩)) htake))
  | exact wpAny_bind (wpAny_bind (m := Builtin.Tuple.tupleExact _) (wpAny_newObj_type (wpAny_pure ⟨_, rfl, wpAny_pure h⟩) htake))
end
end HT
namespace L2
open PySem PySem.Spec PyProof.Rows
abbrev TO := St -> Hp -> (Option Int -> Hp -> Prop) -> Prop
def PO (X : Cx) (e : Option Expr) (t : TO) : Prop :=
 ∀ (pins : List (Addr × Obj)) (s : Shared) (σ : St) (H : Hp) (Q : Option Int -> Hp -> Prop), Inv X pins σ H s -> t σ H Q ->
  wpAny (model X.prog X.w) X.A (evalPart e X.env) (fun u s' => ∃ o H', Inv X pins σ H' s' /\ IsPart u o /\ Q o H') X.xe s
def BS : TO := fun _ H Q => Q none H
def GN (t : TE) : TO := fun σ H Q => t σ H fun x H1 => ∃ i, x = .int i /\ Q (some i) H1
section
variable {X : Cx} {e : Expr} {te : TE} {lo hi : Option Expr} {tl th : TO} {pos p2 : Pos}
theorem A2 : PO X none BS := by
 intro pins s σ H Q I h
 rw [evalPart_none]
 exact wpAny_pure ⟨none, H, I, .none, h⟩
theorem A3 (h : PE X e te) : PO X (some e) (GN te) := by
 intro pins s σ H Q I hw
 rw [evalPart_some]
 refine bE (h pins s σ H _ I hw) fun u s1 ⟨x, H1, I1, r1, q1⟩ => ?_
 obtain ⟨i, rfl, q⟩ := q1
 obtain ⟨t, rfl⟩ := r1
 exact ⟨some i, H1, I1, .int i t, q⟩
def zT (X : Cx) (r : V -> Option Int -> Option Int -> Hp -> VK -> Prop) : Prop :=
 ∀ (pins : List (Addr × Obj)) (s : Shared) (σ : St) (H : Hp) (x : V) (v vl vu : Value) (lo hi : Option Int) (sl : Addr) (Q : VK), Inv X pins σ H s -> RelV x v -> s.heap.IsSliceOf sl vl vu .none -> IsPart vl lo -> IsPart vu hi -> r x lo hi H Q ->
  ∃ T id, typeLookup (.type T) "__getitem__" = pure (some (.builtin id)) /\ s.TypeIs v T /\ wpAny (model X.prog X.w) X.A (getItem v (.ref sl)) (EP X pins σ Q) X.xe s
theorem zT.or {r r' : V -> Option Int -> Option Int -> Hp -> VK -> Prop} (h : zT X r) (h' : zT X r') : zT X (fun x lo hi H Q => r x lo hi H Q \/ r' x lo hi H Q) := by
 intro pins s σ H x v vl vu lo hi sl Q I rx hs pl pu q
 rcases q with q | q
 ·exact h pins s σ H x v vl vu lo hi sl Q I rx hs pl pu q
 ·exact h' pins s σ H x v vl vu lo hi sl Q I rx hs pl pu q
def JD (r : V -> Option Int -> Option Int -> Hp -> VK -> Prop) (te : TE) (tl th : TO) : TE := fun σ H Q => te σ H fun x H1 => tl σ H1 fun l H2 => th σ H2 fun u H3 => r x l u H3 Q
theorem yW {r : V -> Option Int -> Option Int -> Hp -> VK -> Prop} (hr : zT X r) (he : PE X e te) (hl : PO X lo tl) (hu : PO X hi th) : PE X (.Subscript e (.Slice lo hi none p2) pos) (JD r te tl th) := by
 intro pins s σ H Q I h
 refine Subscript_ (bE (he pins s σ H _ I h) fun v s1 ⟨x, H1, I1, r1, q1⟩ => ?_)
 refine wpAny_Slice (bE (hl pins s1 σ H1 _ I1 q1) fun vl s2 ⟨l, H2, I2, pl, q2⟩ => bE (hu pins s2 σ H2 _ I2 q2) fun vu s3 ⟨u, H3, I3, pu, q3⟩ => ?_)
 rw [evalPart_none]
 refine wpAny_pure ?_
 have I4 : Inv X pins σ H3 { s3 with heap := s3.heap.push { cls := .type "slice", data := .fields #[vl, vu, .none] } } := I3.kept (t' := s3.toks) fun b ob q => Heap.get?_push_of_some _ q
 obtain ⟨T, id, hT, ht, hg⟩ := hr pins { s3 with heap := s3.heap.push { cls := .type "slice", data := .fields #[vl, vu, .none] } } σ H3 x v vl vu l u s3.heap.objs.size Q I4 r1 (Heap.IsSliceOf.new ..) pl pu q3
 show wpAny (model X.prog X.w) X.A (subscriptTail e (.Slice lo hi none p2) v (.ref s3.heap.objs.size)) (EP X pins σ Q) X.xe { s3 with heap := s3.heap.push { cls := .type "slice", data := .fields #[vl, vu, .none] } }
 exact tail_any (ops := [.ref s3.heap.objs.size, v]) ht hT hg (by with_unfolding_all rfl)
def pj (xs : List V) (lo hi : Option Int) : List V := (xs.drop (HT.cM xs.length 0 lo)).take (HT.cM xs.length xs.length hi - HT.cM xs.length 0 lo)
theorem kQ (xs : List V) (lo hi : Option Int) : (pj xs lo hi).length <= xs.length := by
 unfold pj
 rw [List.length_take, List.length_drop]
 omega
def F5 (K : PySem.W.Frag) : V -> Option Int -> Option Int -> Hp -> VK -> Prop := fun x lo hi H Q => ∃ a xs, x = .ref a /\ eT K H a xs /\
 ¬ (HT.cM xs.length 0 lo = 0 /\ HT.cM xs.length xs.length hi = xs.length) /\ ∀ p, H p = none -> Q (.ref p) (upd H p (.tup (pj xs lo hi)))
theorem D7 : zT X (F5 X.K) := by
 intro pins s σ H x v vl vu lo hi sl Q I rx hs pl pu h
 obtain ⟨a, xs, rfl, hx, hw, q⟩ := h
 cases rx
 obtain ⟨its, r, ht, hz⟩ := I.tuple hx
 have hlen : its.toArray.size = xs.length := by rw [List.size_toArray]; exact r.length.symm
 refine ⟨"tuple", _, PyProof.Rows.slot_tuple_getitem.lookup, ht.typeIs, ?_⟩
 refine HT.jR ht hs pl pu (by rw [hlen]; exact hw) ?_ (by rw [hlen]; exact hz)
 rw [hlen]
 refine ⟨.ref s.heap.objs.size, _, I.laid (t' := s.toks) (o := .tup (pj xs lo hi)) (fun b ob q => Heap.get?_push_of_some _ q) (Nat.le_refl _) ?_, rfl, q _ (I.ao.fresh (Nat.le_refl _))⟩
 exact ⟨Nat.le_trans (kQ xs lo hi) hz, _, (r.drop (HT.cM xs.length 0 lo)).take (HT.cM xs.length xs.length hi - HT.cM xs.length 0 lo), IsTup.new _ _⟩
def B1 (K : PySem.W.Frag) : R2 := fun x y H Q => ∃ a b xs ys, x = .ref a /\ y = .ref b /\ eT K H a xs /\ eT K H b ys /\ xs ≠ [] /\ xs.length + ys.length <= sizeLine /\
 (ys = [] -> Q (.ref a) H) /\ (ys ≠ [] -> ∀ p, H p = none -> Q (.ref p) (upd H p (.tup (xs ++ ys))))
theorem Vals.o_ {xs : List V} {us : List Value} (r : Vals xs us) : us = [] ↔ xs = [] := by
 cases r with
 | nil => simp
 | cons _ _ => simp
theorem Ap : fB X (binaryOp .Add) (B1 X.K) := by
 intro pins s σ H x y v u Q I rx ry h
 obtain ⟨a, b, xs, ys, rfl, rfl, ha, hb, hx, hz, q1, q2⟩ := h
 cases rx
 cases ry
 obtain ⟨its, r1, p1, _⟩ := I.tuple ha
 obtain ⟨its2, r2, p2, _⟩ := I.tuple hb
 refine HT.za p1 p2 (fun z => hx (r1.o_.mp z)) (fun z => ⟨.ref a, H, I, rfl, q1 (r2.o_.mp z)⟩) (fun z => ?_) (by rw [<- r1.length, <- r2.length]; exact hz)
 refine ⟨.ref s.heap.objs.size, _, I.laid (t' := s.toks) (o := .tup (xs ++ ys)) (fun b ob q => Heap.get?_push_of_some _ q) (Nat.le_refl _) ?_, rfl, q2 (fun w => z (r2.o_.mpr w)) _ (I.ao.fresh (Nat.le_refl _))⟩
 exact ⟨by rw [List.length_append]; exact hz, _, r1.append r2, IsTup.new _ _⟩
end
def AE (n : Nat) (i : Int) : Option Nat := if 0 <= i then (if i < n then some i.toNat else none) else if -(n : Int) <= i then some (i + n).toNat else none
def hZ {α : Type} (xs : List α) (i : Int) : Option α := (AE xs.length i).bind fun j => xs[j]?
theorem t_ {n : Nat} {i : Int} {j : Nat} (h : AE n i = some j) : seqIndex? i n = some j /\ j < n /\ -(n : Int) <= i /\ i < n := by
 unfold AE at h
 by_cases h0 : 0 <= i
 ·rw [if_pos h0] at h
  by_cases h1 : i < n
  ·rw [if_pos h1] at h
   have e : i.toNat = j := Option.some.inj h
   exact ⟨by rw [seqIndex_of h0 h1, e], by omega, by omega, h1⟩
  ·rw [if_neg h1] at h; cases h
 ·rw [if_neg h0] at h
  by_cases h1 : -(n : Int) <= i
  ·rw [if_pos h1] at h
   have e : (i + n).toNat = j := Option.some.inj h
   exact ⟨by rw [seqIndex_neg (by omega) h1, e], by omega, h1, by omega⟩
  ·rw [if_neg h1] at h; cases h
theorem oG {α : Type} {xs : List α} {i : Int} {v : α} (h : hZ xs i = some v) : ∃ j, seqIndex? i xs.length = some j /\ xs[j]? = some v /\ j < xs.length /\ -(xs.length : Int) <= i /\ i < xs.length := by
 unfold hZ at h
 cases e : AE xs.length i with
 | none => rw [e] at h; cases h
 | some j =>
  rw [e] at h
  obtain ⟨h1, h2, h3, h4⟩ := t_ e
  exact ⟨j, h1, h, h2, h3, h4⟩
def n_ (b : Expr) : Prop := ∀ o i, subscripted b false o i = operate [o, i] (getItem o i)
def zI (X : Cx) (r : R2) : Prop :=
 ∀ (value slice : Expr) (pins : List (Addr × Obj)) (s : Shared) (σ : St) (H : Hp) (x y : V) (v u : Value) (Q : VK), Inv X pins σ H s -> RelV x v -> RelV y u -> r x y H Q ->
  subscripted slice false v u = operate [v, u] (getItem v u) -> wpAny (model X.prog X.w) X.A (subscriptTail value slice v u) (EP X pins σ Q) X.xe s
def IJ (X : Cx) (id : String) (r : V -> List V -> Hp -> VK -> Prop) : Prop :=
 ∀ (pins : List (Addr × Obj)) (s : Shared) (σ : St) (H : Hp) (x : V) (xs : List V) (v : Value) (us : List Value) (Q : VK), Inv X pins σ H s -> RelV x v -> Vals xs us -> r x xs H Q ->
  wpAny (model X.prog X.w) X.A (call (.builtin id) (v :: us)) (EP X pins σ Q) X.xe s
section
variable {X : Cx} {a b : Expr} {ta tb : TE} {pos : Pos}
theorem zI.or {r r' : R2} (h : zI X r) (h' : zI X r') : zI X (fun x y H Q => r x y H Q \/ r' x y H Q) := by
 intro value slice pins s σ H x y v u Q I rx ry q hs
 rcases q with q | q
 ·exact h value slice pins s σ H x y v u Q I rx ry q hs
 ·exact h' value slice pins s σ H x y v u Q I rx ry q hs
theorem By {r : R2} (hr : zI X r) (ha : PE X a ta) (hb : PE X b tb) (hs : n_ b) : PE X (.Subscript a b pos) (EB r ta tb) := by
 intro pins s σ H Q I h
 exact Subscript_ (CP ha hb I h fun v u s2 x y H2 I2 rx ry q => hr a b pins s2 σ H2 x y v u Q I2 rx ry q (hs _ _))
def Fy (K : PySem.W.Frag) : R2 := fun x y H Q => ∃ p xs i v, x = .ref p /\ y = .int i /\ ck K H p xs /\ hZ xs i = some v /\ Q v H
def F0 (K : PySem.W.Frag) : R2 := fun x y H Q => ∃ p xs i v, x = .ref p /\ y = .int i /\ eT K H p xs /\ hZ xs i = some v /\ Q v H
def Fz : R2 := fun x y H Q => ∃ z i c, x = .str z /\ y = .int i /\ z.length <= sizeLine /\ hZ z.cps.toList i = some c /\ Q (.str ⟨#[c]⟩) H
theorem AG : zI X (Fy X.K) := by
 intro value slice pins s σ H x y v u Q I rx ry h hs
 obtain ⟨p, xs, i, z, rfl, rfl, hq, he, q⟩ := h
 cases rx
 obtain ⟨t, rfl⟩ := ry
 obtain ⟨its, r, pl, hz⟩ := I.list hq
 obtain ⟨j, h1, h2, h3, h4, h5⟩ := oG he
 obtain ⟨w, ew, rw'⟩ := r.get h2
 have hl := r.length
 have hn := j4
 have fin : EP X pins σ Q w s := ⟨z, H, I, rw', q⟩
 by_cases h0 : 0 <= i
 ·have hj : i.toNat = j := by
   rw [seqIndex_of h0 h5] at h1
   exact Option.some.inj h1
  exact item_listR pl.isList h0 (by omega) (by rw [hj]; simpa using ew) fin hs
 ·have hj : (i + (its.toArray.size : Int)).toNat = j := by
   rw [seqIndex_neg (by omega) h4] at h1
   rw [List.size_toArray, <- hl]
   exact Option.some.inj h1
  exact subscriptTail_builtinR (x := w) pl.isList.typeIs slot_list_getitem.lookup
   (wpAny_getItem_list_neg (Q := fun r s' => r = w /\ EP X pins σ Q r s') pl.isList (by omega) (by rw [List.size_toArray] <;> omega) (by omega) (by rw [hj]; simpa using ew) ⟨rfl, fin⟩) hs
theorem C0 : zI X (F0 X.K) := by
 intro value slice pins s σ H x y v u Q I rx ry h hs
 obtain ⟨p, xs, i, z, rfl, rfl, hq, he, q⟩ := h
 cases rx
 obtain ⟨t, rfl⟩ := ry
 obtain ⟨its, r, pl, hz⟩ := I.tuple hq
 obtain ⟨j, h1, h2, h3, h4, h5⟩ := oG he
 obtain ⟨w, ew, rw'⟩ := r.get h2
 have hl := r.length
 have hn := j4
 have fin : EP X pins σ Q w s := ⟨z, H, I, rw', q⟩
 exact subscriptTail_builtinR (x := w) pl.typeIs slot_tuple_getitem.lookup
  (getItem_tuple (j := j) (Q := fun r s' => r = w /\ EP X pins σ Q r s') pl (by omega) (by omega) (by rw [List.size_toArray, <- hl]; exact h1) (by simpa using ew) ⟨rfl, fin⟩) hs
theorem Cz : zI X Fz := by
 intro value slice pins s σ H x y v u Q I rx ry h hs
 obtain ⟨z, i, c, rfl, rfl, hz, he, q⟩ := h
 obtain ⟨t, rfl⟩ := rx
 obtain ⟨t', rfl⟩ := ry
 obtain ⟨j, h1, h2, h3, h4, h5⟩ := oG he
 have hl : z.cps.toList.length = z.length := by simp [Str.length]
 rw [hl] at h1 h4 h5
 have hn := j4
 exact tail_any (typeIs_str s z t) slot_str_getitem.lookup (getItem_str (c := c) (by
  have e1 : decide (i < -(2 ^ 63 : Int)) = false := decide_eq_false (by omega)
  have e2 : decide (i ≥ 2 ^ 63) = false := decide_eq_false (by omega)
  rw [e1, e2, Bool.or_false]) (by rw [h1]; simpa using h2) ⟨.str ⟨#[c]⟩, H, I.tok _, ⟨_, rfl⟩, q⟩) hs
def IV (K : PySem.W.Frag) : R2 := fun x y H Q => Fy K x y H Q \/ F0 K x y H Q \/ Fz x y H Q
theorem Cy : zI X (IV X.K) := AG.or (C0.or Cz)
theorem sF (its : List Value) (n j : Nat) (u : Value) : Obj.mapSeq (·.setIfInBounds j u) { cls := .type "list", data := .seq its.toArray n } = { cls := .type "list", data := .seq (its.set j u).toArray n } := by
 simp [Obj.mapSeq]
theorem Inv.lst {pins : List (Addr × Obj)} {σ : St} {H : Hp} {s : Shared} {p : Addr} {xs : List V} (I : Inv X pins σ H s) (h : H p = some (.lst xs)) :
  ∃ (its : List Value) (n : Nat), Vals xs its /\ s.heap.get? p = some { cls := .type "list", data := .seq its.toArray n } /\ xs.length <= sizeLine := by
 obtain ⟨z, its, n, r, e⟩ := I.ao p _ h
 exact ⟨its, n, r, e, z⟩
theorem Inv.DD {pins : List (Addr × Obj)} {σ : St} {H : Hp} {s : Shared} {p : Addr} {xs ys : List V} {its its' : List Value} {n n' : Nat} {f : Obj -> Obj} (I : Inv X pins σ H s) (h : H p = some (.lst xs))
  (ho : s.heap.get? p = some { cls := .type "list", data := .seq its.toArray n }) (hf : f { cls := .type "list", data := .seq its.toArray n } = { cls := .type "list", data := .seq its'.toArray n' }) (r : Vals ys its') (hz : ys.length <= sizeLine) (t : Nat) :
  Inv X pins σ (upd H p (.lst ys)) { s with heap := s.heap.update p f, toks := t } := by
 have e : (s.heap.update p f).get? p = some { cls := .type "list", data := .seq its'.toArray n' } := by
  rw [Heap.get?_update_self f ho (by rw [hf] <;> rfl), hf]
 refine I.write (x := p) (e := p) (by rw [h]; trivial) (.inl rfl) (fun b u hb q => (Heap.get?_update_other _ _ (Ne.symm hb)).trans q) ⟨_, e⟩ ?_
 exact ⟨hz, its', n', r, e⟩
def F3 : V -> V -> V -> Hp -> (Hp -> Prop) -> Prop := fun o i v H Q => ∃ p xs k j, o = .ref p /\ i = .int k /\ H p = some (.lst xs) /\ AE xs.length k = some j /\ Q (upd H p (.lst (xs.set j v)))
theorem set_list : Eg X F3 := by
 intro pins s σ H o i v ov iv u Q I ro ri rv h
 obtain ⟨p, xs, k, j, rfl, rfl, hp, hj, q⟩ := h
 cases ro
 obtain ⟨t, rfl⟩ := ri
 obtain ⟨its, n, r, ho, hz⟩ := I.lst hp
 obtain ⟨h1, h2, h3, h4⟩ := t_ hj
 have hl := r.length
 have hn := j4
 have I' : Inv X pins σ (upd H p (.lst (xs.set j v))) { s with heap := s.heap.update p (Obj.mapSeq (·.setIfInBounds j u)) } :=
  I.DD hp ho (sF its n j u) (r.set rv j) (by rw [List.length_set]; exact hz) s.toks
 by_cases h0 : 0 <= k
 ·have hk : k.toNat = j := by
   rw [seqIndex_of h0 h4] at h1
   exact Option.some.inj h1
  exact PySem.W.ki_setAt ho h0 (by omega) (by rw [List.size_toArray, <- hl]; exact h4) (by rw [hk]; exact ⟨_, I', q⟩)
 ·have hk : (k + (its.toArray.size : Int)).toNat = j := by
   rw [seqIndex_neg (by omega) h3] at h1
   rw [List.size_toArray, <- hl]
   exact Option.some.inj h1
  exact PySem.W.ki_setBack ho (by omega) (by rw [List.size_toArray, <- hl]; exact h3) (by omega) (by rw [hk]; exact ⟨_, I', q⟩)
theorem pQ (lo hi : Option Int) (n : Nat) : (sliceBounds lo hi none n).1 = ((HT.cM n 0 lo : Nat) : Int) /\ (sliceBounds lo hi none n).2.1 = ((HT.cM n n hi : Nat) : Int) /\ (sliceBounds lo hi none n).2.2 = 1 := by
 refine ⟨?_, ?_, rfl⟩
 ·cases lo with
  | none => simp [sliceBounds, HT.cM]
  | some i =>
   simp only [sliceBounds, HT.cM, Option.getD_none, show (1 : Int) > 0 by decide, if_true]
   by_cases h : i < 0
   ·simp only [h, if_true] <;> omega
   ·simp only [h, if_false] <;> omega
 ·cases hi with
  | none => simp [sliceBounds, HT.cM]
  | some i =>
   simp only [sliceBounds, HT.cM, Option.getD_none, show (1 : Int) > 0 by decide, if_true]
   by_cases h : i < 0
   ·simp only [h, if_true] <;> omega
   ·simp only [h, if_false] <;> omega
theorem mm (its : List Value) (lo hi : Option Int) : slicePick its.toArray lo hi none = ((its.drop (HT.cM its.length 0 lo)).take (HT.cM its.length its.length hi - HT.cM its.length 0 lo)).toArray := by
 obtain ⟨h1, h2, h3⟩ := pQ lo hi its.toArray.size
 unfold slicePick
 rw [h1, h2, h3]
 simp only [sliceRange_one, pick_run, List.size_toArray] <;> rfl
def F4 (K : PySem.W.Frag) : V -> Option Int -> Option Int -> Hp -> VK -> Prop := fun x lo hi H Q => ∃ a xs, x = .ref a /\ ck K H a xs /\ ∀ p, H p = none -> Q (.ref p) (upd H p (.lst (pj xs lo hi)))
theorem BO : zT X (F4 X.K) := by
 intro pins s σ H x v vl vu lo hi sl Q I rx hs pl pu h
 obtain ⟨a, xs, rfl, hx, q⟩ := h
 cases rx
 obtain ⟨its, r, ht, hz⟩ := I.list hx
 have hlen := r.length
 refine ⟨"list", _, slot_list_getitem.lookup, ht.isList.typeIs, ?_⟩
 refine wpAny_getItem_list_slice ht.isList hs pl pu .none (by simp) ?_ (by rw [List.size_toArray] <;> omega)
 rw [mm, <- hlen]
 refine ⟨.ref s.heap.objs.size, _, I.laid (t' := s.toks) (o := .lst (pj xs lo hi)) (fun b ob q => Heap.get?_push_of_some _ q) (Nat.le_refl _) ?_, rfl, q _ (I.ao.fresh (Nat.le_refl _))⟩
 exact ⟨Nat.le_trans (kQ xs lo hi) hz, _, 0, (r.drop (HT.cM xs.length 0 lo)).take (HT.cM xs.length xs.length hi - HT.cM xs.length 0 lo), Heap.get?_push_size _ rfl⟩
def iL : V -> Bool
 | .aW => true
 | .bl _ => true
 | .int _ => true
 | .str _ => true
 | _ => false
def zo : V -> V -> Bool
 | .aW, .aW => true
 | .bl a, .bl b => a == b
 | .bl a, .int b => (if a then 1 else 0) == b
 | .int a, .bl b => a == (if b then 1 else 0)
 | .int a, .int b => a == b
 | .str a, .str b => a == b
 | _, _ => false
theorem Ce {A : Around} {s : Shared} {y x : V} {u v : Value} (ry : RelV y u) (rx : RelV x v) (fy : iL y = true) (fx : iL x = true) : SeqAt.EqAt A s u v (zo y x) := by
 cases y with
 | aW =>
  cases ry
  cases x with
  | aW => cases rx; exact SeqAt.EqAt.same _
  | bl b => cases rx; exact SeqAt.EqAt.none_bool b
  | int b => obtain ⟨t, rfl⟩ := rx; exact SeqAt.EqAt.none_int b t
  | str b => obtain ⟨t, rfl⟩ := rx; exact SeqAt.EqAt.none_str b t
  | _ => exact absurd (show false = true from fx) Bool.false_ne_true
 | bl a =>
  cases ry
  cases x with
  | aW => cases rx; exact SeqAt.EqAt.bool_none a
  | bl b => cases rx; exact SeqAt.EqAt.bool_bool a b
  | int b => obtain ⟨t, rfl⟩ := rx; exact SeqAt.EqAt.bool_int a b t
  | str b => obtain ⟨t, rfl⟩ := rx; exact SeqAt.EqAt.bool_str a b t
  | _ => exact absurd (show false = true from fx) Bool.false_ne_true
 | int a =>
  obtain ⟨t', rfl⟩ := ry
  cases x with
  | aW => cases rx; exact SeqAt.EqAt.int_none a t'
  | bl b => cases rx; exact SeqAt.EqAt.int_bool a t' b
  | int b => obtain ⟨t, rfl⟩ := rx; exact SeqAt.EqAt.int_int a t' b t
  | str b => obtain ⟨t, rfl⟩ := rx; exact SeqAt.EqAt.int_str a t' b t
  | _ => exact absurd (show false = true from fx) Bool.false_ne_true
 | str a =>
  obtain ⟨t', rfl⟩ := ry
  cases x with
  | aW => cases rx; exact SeqAt.EqAt.str_none a t'
  | bl b => cases rx; exact SeqAt.EqAt.str_bool a t' b
  | int b => obtain ⟨t, rfl⟩ := rx; exact SeqAt.EqAt.str_int a t' b t
  | str b => obtain ⟨t, rfl⟩ := rx; exact SeqAt.EqAt.str_str a t' b t
  | _ => exact absurd (show false = true from fx) Bool.false_ne_true
 | _ => exact absurd (show false = true from fy) Bool.false_ne_true
def rX (x : V) (u : Value) : Bool := match u with
 | .none => zo .aW x
 | .bool b => zo (.bl b) x
 | .int i _ => zo (.int i) x
 | .str z _ => zo (.str z) x
 | _ => false
theorem xJ {x y : V} {u : Value} (r : RelV y u) (f : iL y = true) : rX x u = zo y x := by
 cases y with
 | aW => cases r; rfl
 | bl b => cases r; rfl
 | int i => obtain ⟨t, rfl⟩ := r; rfl
 | str z => obtain ⟨t, rfl⟩ := r; rfl
 | _ => exact absurd (show false = true from f) Bool.false_ne_true
theorem jF {x : V} : ∀ {xs : List V} {us : List Value}, Vals xs us -> xs.all iL = true -> us.any (rX x) = xs.any fun y => zo y x
 | _, _, .nil, _ => rfl
 | y :: xs, u :: us, .cons r t, f => by
  rw [List.all_cons, Bool.and_eq_true] at f
  rw [List.any_cons, List.any_cons, xJ r f.1, jF t f.2]
theorem gr {A : Around} {s : Shared} {x : V} {v : Value} (rx : RelV x v) (fx : iL x = true) : ∀ {xs : List V} {us : List Value}, Vals xs us -> xs.all iL = true -> ∀ u ∈ us, SeqAt.EqAt A s u v (rX x u)
 | _, _, .nil, _ => fun u hu => by cases hu
 | y :: xs, u :: us, .cons r t, f => fun u' hu => by
  rw [List.all_cons, Bool.and_eq_true] at f
  rcases List.mem_cons.mp hu with rfl | hu
  ·rw [xJ r f.1]; exact Ce r rx f.1 fx
  ·exact gr rx fx t f.2 u' hu
def zO (x : V) (xs : List V) : Bool := xs.any fun y => zo y x
def Gn (K : PySem.W.Frag) (neg : Bool) : R2 := fun x y H Q => ∃ p xs, y = .ref p /\ (ck K H p xs \/ eT K H p xs) /\ iL x = true /\ xs.all iL = true /\ Q (.bl (if neg then !zO x xs else zO x xs)) H
theorem nP : fB X (compareOp .In) (Gn X.K false) := by
 intro pins s σ H x y v u Q I rx ry h
 obtain ⟨p, xs, rfl, hq, fx, fs, q⟩ := h
 cases ry
 rcases hq with hq | hq
 ·obtain ⟨its, r, pl, hz⟩ := I.list hq
  refine SeqAt.in_listAt (rX x) pl.isList (fun w hw => gr rx fx r fs w (by simpa using hw)) ⟨.bl _, H, I, rfl, ?_⟩
  rw [show its.toArray.any (rX x) = its.any (rX x) by simp, jF r fs]
  exact q
 ·obtain ⟨its, r, pl, hz⟩ := I.tuple hq
  refine SeqAt.in_tupleAt (rX x) pl (fun w hw => gr rx fx r fs w (by simpa using hw)) ⟨.bl _, H, I, rfl, ?_⟩
  rw [show its.toArray.any (rX x) = its.any (rX x) by simp, jF r fs]
  exact q
theorem pA : fB X (compareOp .NotIn) (Gn X.K true) := by
 intro pins s σ H x y v u Q I rx ry h
 obtain ⟨p, xs, rfl, hq, fx, fs, q⟩ := h
 cases ry
 rcases hq with hq | hq
 ·obtain ⟨its, r, pl, hz⟩ := I.list hq
  refine SeqAt.notIn_listAt (rX x) pl.isList (fun w hw => gr rx fx r fs w (by simpa using hw)) ⟨.bl _, H, I, rfl, ?_⟩
  rw [show its.toArray.any (rX x) = its.any (rX x) by simp, jF r fs]
  exact q
 ·obtain ⟨its, r, pl, hz⟩ := I.tuple hq
  refine SeqAt.notIn_tupleAt (rX x) pl (fun w hw => gr rx fx r fs w (by simpa using hw)) ⟨.bl _, H, I, rfl, ?_⟩
  rw [show its.toArray.any (rX x) = its.any (rX x) by simp, jF r fs]
  exact q
theorem mY : gS X (.type "tuple") (fun xs H Q => ∃ p ys, xs = [.ref p] /\ ((ck X.K H p ys /\ ∀ l, H l = none -> Q (.ref l) (upd H l (.tup ys))) \/ (eT X.K H p ys /\ Q (.ref p) H))) := by
 intro pins s σ H xs us Q I r h
 obtain ⟨p, ys, rfl, h⟩ := h
 obtain ⟨u, rfl, rx⟩ := vals1 r
 cases rx
 rcases h with ⟨hq, q⟩ | ⟨hq, q⟩
 ·obtain ⟨its, r', pl, hz⟩ := I.list hq
  have hlen := r'.length
  refine call_tuple_list pl.isList (fun h' kp => ?_) (by simp only [List.size_toArray] <;> omega)
  have I1 : Inv X pins σ H { s with heap := h' } := I.kept (t' := s.toks) kp
  have I2 : Inv X pins σ (upd H h'.objs.size (.tup ys)) { s with heap := h'.push { cls := .type "tuple", data := .seq its.toArray } } :=
   I1.laid (t' := s.toks) (fun b o e => Heap.get?_push_of_some _ e) (Nat.le_refl _) (show aQ X.prog X.w _ _ _ (.tup ys) from ⟨hz, its, r', IsTup.new _ _⟩)
  exact ⟨.ref h'.objs.size, _, I2, rfl, q _ (I1.ao.fresh (Nat.le_refl _))⟩
 ·obtain ⟨its, r', pl, hz⟩ := I.tuple hq
  exact call_tuple_same pl ⟨.ref p, H, I, rfl, q⟩
def IX (K : PySem.W.Frag) (T : String) (x : V) (H : Hp) : Prop := match x with
 | .str _ => T = "str"
 | .int _ => T = "int"
 | .ref p => (T = "list" /\ ∃ xs, ck K H p xs) \/ (T = "tuple" /\ ∃ o, K.lookup p = some o /\ o.cls = .type "tuple" /\ o.dict = none) \/
   (T = "dict" /\ ((∃ kvs, H p = some (.dK kvs)) \/ ∃ kvs, H p = some (.dT kvs))) \/ (T = "set" /\ ∃ S n, H p = some (.set S n))
 | _ => False
theorem EI {pins : List (Addr × Obj)} {σ : St} {H : Hp} {s : Shared} {T : String} {x : V} {v : Value} (I : Inv X pins σ H s) (r : RelV x v) (ty : IX X.K T x H) :
  s.TypeIs v T /\ ∀ a, v = .ref a -> ∃ ob, s.heap.get? a = some ob /\ ob.dict = none := by
 cases x with
 | str z =>
  obtain ⟨t, rfl⟩ := r
  cases (show T = "str" from ty)
  exact ⟨typeIs_str s z t, fun _ e => nomatch e⟩
 | int i =>
  obtain ⟨t, rfl⟩ := r
  cases (show T = "int" from ty)
  exact ⟨typeIs_int s i t, fun _ e => nomatch e⟩
 | ref p =>
  cases r
  rcases ty with ⟨rfl, xs, hq⟩ | ⟨rfl, o, hk, hc, hd⟩ | ⟨rfl, hk⟩ | ⟨rfl, S, n, hk⟩
  ·obtain ⟨its, _, pl, _⟩ := I.list hq
   refine ⟨pl.isList.typeIs, fun a e => ?_⟩
   cases e
   obtain ⟨o, n, e, c, hd, _⟩ := pl
   exact ⟨o, e, hd⟩
  ·refine ⟨⟨o, I.iN p o hk, hc⟩, fun a e => ?_⟩
   cases e
   exact ⟨o, I.iN _ o hk, hd⟩
  ·have z : ∃ o, s.heap.get? p = some o /\ o.ExactDict := by
    rcases hk with ⟨kvs, hk⟩ | ⟨kvs, hk⟩
    ·obtain ⟨_, _, _, _, o, _, _, e, ex, _⟩ := I.ao p _ hk
     exact ⟨o, e, ex⟩
    ·obtain ⟨_, _, _, _, o, _, _, e, ex, _⟩ := I.ao p _ hk
     exact ⟨o, e, ex⟩
   obtain ⟨o, e, ex⟩ := z
   refine ⟨⟨o, e, ex.1⟩, fun a e2 => ?_⟩
   cases e2
   exact ⟨o, e, ex.2.1⟩
  ·obtain ⟨o, _, _, _, e, ex, _⟩ := I.ao p _ hk
   refine ⟨⟨o, e, ex.1⟩, fun a e2 => ?_⟩
   cases e2
   exact ⟨o, e, ex.2.1⟩
 | _ => exact False.elim ty
def JA (K : PySem.W.Frag) (T : String) (r : V -> List V -> Hp -> VK -> Prop) (to : TE) (t : TA) : TE := fun σ H Q => to σ H fun x H1 => IX K T x H1 /\ t σ H1 fun xs H2 => r x xs H2 Q
variable {o e : Expr} {es : List Expr} {to : TE} {t : TA} {name : Str} {apos cpos : Pos} {T id : String} {r : V -> List V -> Hp -> VK -> Prop}
theorem yQ (pa : PlainAttrs T) (slot : Slot T name id) (hty : typeOf (.builtin id) = pure (.type "method_descriptor")) (hm : IJ X id r) (ho : PE X o to) (ha : PA X (e :: es) t)
  (hbase : attributeBase o name X.env (eval o X.env) = eval o X.env := by rfl)
  (hfew : ((backTo cpos (starEach (e :: es) X.env)).all (fun x => !x.1) && (backToKw cpos (keywordEach [] X.env)).all (fun x => x.1.isSome)
   && decide ((e :: es).length + ([] : List Keyword).length + (if ([] : List Keyword).isEmpty then 0 else 1) < 30)) = true := by rfl)
  (hline : (apos.endLine == cpos.line) = true := by rfl) (hs : starEach (e :: es) X.env = (false, eval e X.env) :: starEach es X.env := by rfl) (hplain : (backTo cpos (starEach es X.env)).any (·.1) = false := by rfl) :
  PE X (.Call (.Attribute o name apos) (e :: es) [] cpos) (JA X.K T r to t) := by
 intro pins s σ H Q I h
 refine wpAny_Call_method_late hbase hfew hline rfl (bE (ho pins s σ H _ I h) fun v s1 ⟨x, H1, I1, r1, ty, q1⟩ => ?_)
 obtain ⟨h1, h2⟩ := EI I1 r1 ty
 refine ⟨T, id, pa, slot, hty, h1, h2, ?_⟩
 have hA := ha cpos pins s1 σ H1 _ I1 q1
 rw [hs] at hA ⊢
 refine Calls.callWith_builtin (by show (false || (backTo cpos (starEach es X.env)).any (·.1)) = false; rw [hplain] <;> rfl) (Calls.evalArgs_plain ?_)
 exact bE hA fun us s2 ⟨vs, H2, I2, r2, q2⟩ => hm pins s2 σ H2 x vs v us Q I2 r1 r2 q2
end
def II (X : Cx) (id : String) (r : V -> List V -> Hp -> VK -> Prop) : Prop :=
 ∀ (pins : List (Addr × Obj)) (s : Shared) (σ : St) (H : Hp) (x : V) (xs : List V) (v : Value) (us : List Value) (Q : VK), Inv X pins σ H s -> RelV x v -> Vals xs us -> r x xs H Q ->
  wpAny (model X.prog X.w) X.A (call (.builtin id) (v :: us)) (EP X pins σ Q) X.xe s
theorem Vals.one : ∀ {x : V} {us : List Value}, Vals [x] us -> ∃ u, us = [u] /\ RelV x u
 | _, _, .cons r .nil => ⟨_, rfl, r⟩
theorem Vals.zero : ∀ {us : List Value}, Vals [] us -> us = []
 | _, .nil => rfl
section
variable {X : Cx} {pins : List (Addr × Obj)} {σ : St} {H : Hp} {s : Shared} {l b : Addr} {xs ys zs : List V}
theorem Inv.HH {its its' : List Value} {n : Nat} {f : Array Value -> Array Value} {t' : Nat} (I : Inv X pins σ H s) (hH : H l = some (.lst xs))
  (e : s.heap.get? l = some { cls := .type "list", data := .seq its.toArray n }) (hf : f its.toArray = its'.toArray) (hv : Vals ys its') (hz : ys.length <= sizeLine) :
  Inv X pins σ (upd H l (.lst ys)) { s with heap := s.heap.update l (Obj.mapSeq f), toks := t' } := by
 have q := PySem.IsL.update e f
 rw [hf] at q
 refine I.write (x := l) (e := l) (by rw [hH]; exact trivial) (.inl rfl) (fun b' u hb hu => (Heap.get?_update_other s.heap (Obj.mapSeq f) (Ne.symm hb)).trans hu) ⟨_, q⟩ ?_
 exact ⟨hz, its', _, hv, q⟩
theorem Inv.HG {its : List Value} {t' : Nat} (I : Inv X pins σ H s) (hv : Vals ys its) (hz : ys.length <= sizeLine) :
  Inv X pins σ (upd H s.heap.objs.size (.lst ys)) { s with heap := s.heap.push { cls := .type "list", data := .seq its.toArray }, toks := t' } :=
 I.laid (fun _ _ q => Heap.get?_push_of_some _ q) (Nat.le_refl _) ⟨hz, its, 0, hv, Heap.get?_push_size _ rfl⟩
theorem Inv.fresh (I : Inv X pins σ H s) : H s.heap.objs.size = none := I.ao.fresh (Nat.le_refl _)
theorem Inv.HI (I : Inv X pins σ H s) (hH : H l = some (.lst xs)) : xs.length <= sizeLine /\ ∃ (its : List Value) (n : Nat), Vals xs its /\ xs.length = its.length /\ s.heap.get? l = some { cls := .type "list", data := .seq its.toArray n } := by
 obtain ⟨z, its, n, r, e⟩ := I.ao l _ hH
 exact ⟨z, its, n, r, r.length, e⟩
end
section
variable {X : Cx}
def BC : V -> List V -> Hp -> VK -> Prop := fun x vs H Q => ∃ l xs y, x = .ref l /\ vs = [y] /\ H l = some (.lst xs) /\ xs.length < sizeLine /\ Q .aW (upd H l (.lst (xs ++ [y])))
theorem nN : II X "list.append" BC := by
 intro pins s σ H x vs v us Q I rx rv h
 obtain ⟨l, xs, y, rfl, rfl, hH, hz, q⟩ := h
 cases rx
 obtain ⟨u, rfl, ru⟩ := rv.one
 obtain ⟨z, its, n, r, hl, e⟩ := I.HI hH
 refine call_meets F.slot_list_append ⟨_, e, rfl⟩ F.entry_list_append (F.args_list_append_2 _ _) (PySem.list_append l its.toArray n u (by rw [List.size_toArray]; omega)) ⟨e, ?_⟩
 refine ⟨.aW, _, I.HH (its' := its ++ [u]) hH e (by simp) (r.append (.cons ru .nil)) ?_, rfl, q⟩
 rw [List.length_append, List.length_singleton]
 omega
end
section
variable {prog : Program} {w : World} {A : Around} {E : Value -> Shared -> Prop} {s : Shared}
end
section
variable {X : Cx}
end
end L2
namespace ID
open PySem PySem.W PySem.Calls PyProof.Rows
theorem ku {P : Params} {h : Heap} : ∀ (ns : List Int) (vs : List Value), WellAll P h vs (ns.map WData.int) -> IntsAre vs ns := by
 intro ns
 induction ns with
 | nil =>
  intro vs w
  rw [List.map_nil] at w
  cases w
  exact .nil
 | cons n ns ih =>
  intro vs w
  rw [List.map_cons] at w
  cases w with
  | cons a b =>
   cases a
   exact .cons _ _ (ih _ b)
theorem vf {l : OpenLaw} {n : Nat} (hn : l.most = some n) {P : Params} {h : Heap} {args : List WData} {vals : List Value}
  (hpre : l.row.toRowW.claim.pre args = true) (hwl : WellAll P h vals args) :
  ∃ a vs ns, vals = [Value.ref a] /\ args = [WData.list (ns.map WData.int)] /\ h.get? a = some { cls := .type "list", data := .seq vs.toArray } /\ IntsAre vs ns /\ ns.length <= n := by
 have hsh : WShape.hasAll [] args [.list .int] = true := (pre_splitW hpre).1
 have hc : l.pre.holds [] { args := args } = true := (pre_splitW hpre).2
 obtain ⟨d, r, rfl, h1, h2⟩ := hasAllW_cons hsh
 obtain rfl := hasAllW_nil h2
 obtain ⟨xs, rfl, h3⟩ := hasW_list h1
 obtain ⟨ns, rfl⟩ := items_int h3
 have hlen : ns.length <= n := by
  unfold OpenLaw.pre at hc
  have h4 : (WTm.not (.lt (.lit (.int (n : Int))) (.len (.arg 0)))).holds [] { args := [.list (ns.map .int)] } = true := by
   have h4 := (holds_andW hc).1
   rw [hn] at h4
   exact h4
  have h5 := condW_of h4 (w_not (w_lt w_lit (w_len_list (w_arg rfl))))
  rw [List.length_map] at h5
  refine Nat.le_of_not_lt fun q => ?_
  have q' : (n : Int) < ((ns.length : Nat) : Int) := by omega
  first
   | (rw [decide_eq_true q'] at h5; exact absurd h5 (by decide))
   | (simp at h5; omega)
 cases hwl with
 | cons w1 w2 =>
  cases w2
  cases w1 with
  | list ho hall => exact ⟨_, _, ns, rfl, rfl, ho, ku ns _ hall, hlen⟩
theorem vY (l : OpenLaw) (args : List WData) : l.row.toRowW.claim.post args (.bool true) args = true :=
 postW_of (r := l.row.toRowW) (X := (true == true))
  (show WShape.has [] (.bool true) .bool = true by first | rfl | decide | simp [WShape.has, WShape.arms, WShape.armsAll])
  (show (WTm.eq .res (.lit (.bool true))).value [] { args := args, res := some (.bool true), after := args } = some (.bool (true == true)) from w_eq_bool (w_res rfl) w_lit) rfl
theorem pb {l : OpenLaw} {n : Nat} {q : Program} {loose : List Str} {XP : (Str -> Option Value) -> Heap -> Prop} {YP : World -> Heap -> Prop} {d : DefRec}
  (hn : l.most = some n) (hdf : d.params.defaults = [])
  (call : ∀ (w : World) (s₀ s₁ : Shared) (mg mb : Str -> Option Value) (fa : Addr) (o : Obj) (pm cd doc : Value) (a : Addr) (vs : List Value) (ns : List Int),
   Ground q loose [] XP w s₀ mg mb s₁.heap -> YP w s₁.heap ->
   s₁.heap.get? fa = some o -> o.data = .func (docDef d.name d.params d.body d.scope pm cd doc) -> s₁.heap.CodeRec cd d.name -> mg d.name = some (.ref fa) ->
   s₁.heap.get? a = some { cls := .type "list", data := .seq vs.toArray } -> IntsAre vs ns -> ns.length <= n -> s₁.gens = #[] ->
   codeAny (model l.prog w) callerA (.call (.ref fa) ⟨[.ref a], []⟩) (fun r s' => r = .ok (.ret (.bool true)) /\ OldK s₁.heap s'.heap /\ s'.os = s₁.os /\ AllBare s'.gens) s₁) :
  WalkO q loose XP YP l.row.toRowW d [] (fun f vs => PySem.call f vs) := by
 intro w s₀ s₁ mg mb G Y fa o pm cd doc dV kV ho hd hcd hD hmg hg args vals as hpre hlay hrd hwl hlo
 obtain rfl : dV = .none := Dflts.none hD hdf
 obtain rfl : kV = .none := Dflts.noKw hD
 obtain ⟨a, vs, ns, rfl, rfl, hobj, hints, hlen⟩ := vf hn hpre hwl
 refine enter_call (codeAny_mono (call w s₀ s₁ mg mb fa o pm cd doc a vs ns G Y ho (fd_plain hd) hcd hmg hobj hints hlen hg) fun r s' hq => ?_)
 obtain ⟨rfl, h2, h3, h4⟩ := hq
 exact ⟨.inl ⟨.bool true, .bool true, [], rfl, fun _ => rfl, .bool true, vY l _, fun _ => ⟨List.Pairwise.nil, fun _ hm => (nomatch hm)⟩⟩, h2, h3, h4⟩
section
variable {prog : Program} {w : World} {A : Around} {E : Value -> Shared -> Prop} {s : Shared} {K : Frag}
end
end ID
namespace L2
open PySem PySem.Spec PyProof.Rows
theorem nj : ∀ {vs : List Value} {ns : List Int}, IntsAre vs ns -> Vals (ns.map V.int) vs
 | _, _, .nil => .nil
 | _, _, .cons n t h => .cons ⟨t, rfl⟩ (nj h)
def CJ (H : Hp) : Prop := ∀ b, H b = none \/ ∃ o xs, H b = some (.gQ o (.lst xs))
theorem xj {P : Program} {w : World} {K : PySem.W.Frag} {mg mb : Str -> Option Value} {CX : uZ} {k : Nat} {fa a : Addr} {fd : FuncData} {x : Str} {sp : Sp} {s₁ : Shared} {vs : List Value} {ns : List Int}
  (KX : K.In s₁.heap) (hns : s₁.heap.Ns mainGlobals mg) (hb : s₁.heap.Ns builtinsNs mb) (hbb : ∀ x : Str, x ≠ "__name__" -> mb x = bootBuiltins x) (hlim : s₁.heap.NoLimit) (hg : s₁.gens = #[])
  (ha : s₁.heap.get? a = some { cls := .type "list", data := .seq vs.toArray }) (hi : IntsAre vs ns) (hl : ns.length <= sizeLine) (hr : az k callerA)
  (F : ∀ base : Heap, K.In base -> base.Ns mainGlobals mg -> bX P w K mg base CX k fa fd [x] sp) (hbind : ∀ (s : Shared) (u : Value), BindsTo s fd ⟨[u], []⟩ [(x, u)])
  (hsp : ∀ H : Hp, CJ H -> ck K H a (ns.map V.int) -> sp [.ref a] H (fun v _ => v = .bl true) fun _ _ _ => False)
  (hCX : ∀ H e s', CX [] H s₁ (fun _ _ _ => False) e s' -> False) :
  codeAny (model P w) callerA (.call (.ref fa) ⟨[.ref a], []⟩) (fun r s' => r = .ok (.ret (.bool true)) /\ OldK s₁.heap s'.heap /\ s'.os = s₁.os /\ AllBare s'.gens) s₁ := by
 have rv := nj hi
 have lenV := hi.length
 -- from an abstract heap in which nothing but the script may be tracked
 have core : ∀ H : Hp, CJ H -> ck K H a (ns.map V.int) -> cf P w H s₁.heap -> (∀ b, H b ≠ none -> b = a) -> (H a ≠ none -> K.lookup a = none) ->
   codeAny (model P w) callerA (.call (.ref fa) ⟨[.ref a], []⟩) (fun r s' => r = .ok (.ret (.bool true)) /\ OldK s₁.heap s'.heap /\ s'.os = s₁.os /\ AllBare s'.gens) s₁ := by
  intro H hO hS ao hA hK
  have base_of : ∀ {b : Addr} {o : Obj}, s₁.heap.get? b = some o -> H b = none -> (oZ s₁.heap H).get? b = some o := fun e n => xV e n
  have noA : ∀ {b : Addr} {o : Obj} {es : Array DictEntry} {ep : Nat}, s₁.heap.get? b = some o -> o.data = .dict es ep -> H b = none := fun {b o es ep} e d => by
   cases q : H b with
   | none => rfl
   | some u =>
    have e' : b = a := hA b (by rw [q]; simp)
    subst e'
    rw [ha] at e; cases e
    have d' : Data.seq vs.toArray _ = Data.dict es ep := d
    cases d'
  have nsK : ∀ {b : Addr} {m : Str -> Option Value}, s₁.heap.Ns b m -> (oZ s₁.heap H).Ns b m := fun {b m} ⟨o, es, ep, e, d, r⟩ => ⟨o, es, ep, base_of e (noA e d), d, r⟩
  have hKb : K.In (oZ s₁.heap H) := fun b o e => base_of (KX b o e) (by
   cases q : H b with
   | none => rfl
   | some u =>
    have e' : b = a := hA b (by rw [q]; simp)
    subst e'
    rw [hK (by rw [q]; simp)] at e; cases e)
  have hM : Mod K mg (oZ s₁.heap H) := ⟨hKb, nsK hns, ⟨mb, nsK hb, hbb⟩, let ⟨mc, h1, h2⟩ := hlim; ⟨mc, nsK h1, h2⟩⟩
  have e0 : mU P w K mg (oZ s₁.heap H) callerA [] s₁ H := ⟨rfl, hM, fun b o e => Al e, Nat.le_of_eq (u6 _ _), trivial, fun b hb => absurd (show b ∈ ([] : List Addr) from hb) (by simp), ao, .of_eq hg⟩
  refine codeAny_mono ((F _ hKb (nsK hns)).run callerA [] s₁ H ⟨[.ref a], []⟩ [.ref a] [.ref a] _ _ hr e0 (hbind s₁ (.ref a)) (.cons rfl .nil) (hsp H hO hS)) fun r s' h => ?_
  cases r with
  | error e => exact (hCX H e s' h).elim
  | ok fl =>
   cases fl with
   | next => exact False.elim h
   | brk => exact False.elim h
   | cont => exact False.elim h
   | ret u =>
    obtain ⟨v, H', os, bare, un, hok', r', q⟩ := h
    have q' : v = .bl true := q
    subst q'
    obtain rfl : u = Value.bool true := r'
    refine ⟨rfl, OldK.of_keep fun b o e => ?_, os, bare⟩
    cases q : H b with
    | none => exact un.keep b o e q (by intro z; exact absurd (show b ∈ ([] : List Addr) from z) (by simp)) (by simp)
    | some u =>
     rcases hO b with z | ⟨ob, xs, z⟩
     ·rw [q] at z; cases z
     ·have z2 := un.dH b ob _ z
      obtain ⟨e1, _⟩ := ao b _ z
      obtain ⟨e2, _⟩ := hok' b _ z2
      rw [e] at e1; cases e1
      exact e2
 cases hk : K.lookup a with
 | some o =>
  -- the script is one of the module's own objects
  have e := KX a o hk
  rw [ha] at e
  cases e
  refine core (fun _ => none) (fun _ => .inl rfl) (.inr ⟨_, vs.toArray, _, hk, rfl, rfl, rfl, by rw [List.size_toArray, lenV]; exact hl, by simpa using rv⟩) (fun b u z => by have z' : (none : Option HO) = some u := z; cases z') (fun b z => absurd rfl z) fun z => absurd rfl z
 | none =>
  refine core (fun b => if b = a then some (.gQ { cls := .type "list", data := .seq vs.toArray } (.lst (ns.map V.int))) else none) (fun b => ?_) (.inl (.inr ⟨{ cls := .type "list", data := .seq vs.toArray }, if_pos rfl⟩)) (fun b u z => ?_) (fun b z => ?_) fun _ => hk
  ·by_cases hb : b = a
   ·exact .inr ⟨_, _, if_pos hb⟩
   ·exact .inl (if_neg hb)
  ·by_cases hb : b = a
   ·have z' := (if_pos hb).symm.trans z
    cases z'
    subst hb
    exact ⟨ha, by rw [List.length_map]; exact hl, vs, _, rv, ha⟩
   ·have z' := (if_neg hb).symm.trans z
    cases z'
  ·by_cases hb : b = a
   ·exact hb
   ·exact absurd (if_neg hb) z
theorem BZ {l : PySem.W.OpenLaw} {n k : Nat} {q : Program} {loose : List Str} {XP : (Str -> Option Value) -> Heap -> Prop} {YP : World -> Heap -> Prop} {d : DefRec} {K : Params -> PySem.W.Frag} {CX : World -> uZ} {sp : World -> Sp} {x : Str}
  (hn : l.most = some n) (hn2 : n <= sizeLine) (hdf : d.params.defaults = []) (hr : az k callerA)
  (hY : ∀ (w : World) (h : Heap), YP w h -> (K w.params).In h)
  (F : ∀ (w : World) (mg : Str -> Option Value) (fa : Addr) (h : Heap), (K w.params).In h -> h.Ns mainGlobals mg -> mg d.name = some (.ref fa) ->
   ∃ fd : FuncData, (∀ (s : Shared) (u : Value), BindsTo s fd ⟨[u], []⟩ [(x, u)]) /\
    ∀ base : Heap, (K w.params).In base -> base.Ns mainGlobals mg -> bX l.prog w (K w.params) mg base (CX w) k fa fd [x] (sp w))
  (hsp : ∀ (w : World) (H : Hp) (a : Addr) (ns : List Int), ns.length <= n -> CJ H -> ck (K w.params) H a (ns.map V.int) -> sp w [.ref a] H (fun v _ => v = .bl true) fun _ _ _ => False)
  (hCX : ∀ (w : World) (H : Hp) (s : Shared) (e : Value) (s' : Shared), CX w [] H s (fun _ _ _ => False) e s' -> False) :
  PySem.W.WalkO q loose XP YP l.row.toRowW d [] (fun f vs => PySem.call f vs) := by
 refine ID.pb hn hdf fun w s₀ s₁ mg mb fa o pm cd doc a vs ns G Y ho hd hcd hmg hobj hints hlen hg => ?_
 have KX := hY w _ Y
 obtain ⟨fd, hb, hF⟩ := F w mg fa _ KX G.T.g hmg
 exact xj KX G.T.g G.T.b G.T.builtins G.T.nolimit hg hobj hints (Nat.le_trans hlen hn2) hr hF hb (fun H hO hS => hsp w H a ns hlen hO hS) fun H e s' => hCX w H s₁ e s'
def bq (s : Stmt) : Arguments := match s with
 | .FunctionDef _ a _ _ _ _ _ _ _ _ => a
 | _ => { posonlyargs := [], args := [], vararg := none, kwonlyargs := [], kw_defaults := [], kwarg := none, defaults := [] }
def af (s : Stmt) : List Stmt := match s with
 | .FunctionDef _ _ b _ _ _ _ _ _ _ => b
 | _ => []
def aC (s : Stmt) : Scope := match s with
 | .FunctionDef _ _ _ _ _ _ sc _ _ _ => sc
 | _ => { kind := .function, names := [], isGenerator := false, isCoroutine := false }
abbrev lJ : uZ := fun _ _ _ _ _ _ => False
abbrev E0 : XK := fun _ _ _ => False
theorem qm {X : Cx} : Passes lJ X E0 := fun _ _ _ _ _ _ _ h => h.elim
structure rG (K : PySem.W.Frag) (x qual : Str) (st : Stmt) (f : Addr) (fd : FuncData) : Prop where
 ex : ∃ (oc : Value) (od : Option Addr) (kV doc pm : Value) (an : Option Addr) (cdv ct : Value) (osl : Array (Option Value)),
  fd = PySem.W.fnOf x qual (bq st) (af st) (aC st) .none kV doc pm an cdv ct /\ K.lookup f = some ⟨oc, od, .func fd, osl⟩ /\ PySem.W.codeIn K cdv qual = true
 kp : PySem.W.keepIn K (.ref f) = true
section
variable {P : Program} {w : World} {K : PySem.W.Frag} {mg : Str -> Option Value} {base : Heap}
theorem rG.ok {x qual : Str} {st : Stmt} {f : Addr} {fd : FuncData} {N ps : List Str} {k : Nat} {sp : Sp} (F : rG K x qual st f fd) (S : aF N ps (aC st)) (len : ∀ vs H Q E, sp vs H Q E -> vs.length = ps.length)
  (hbody : ∀ (cdv : Value) (A : Around) (outer : List Env) (s : Shared) (H : Hp) (vs : List V) (Q : VK) (E : XK), az k (A.deeper (envOfC qual (aC st) s.heap.objs.size f cdv)) -> sp vs H Q E ->
   ∃ t, hX (kr lJ P w K mg base N qual (aC st) f cdv A outer s H E).DS (af st) t /\ t { nx := fun _ H' => Q .aW H', rt := Q } (start N vs) H) : bX P w K mg base lJ (k + 1) f fd ps sp := by
 obtain ⟨oc, od, kV, doc, pm, an, cdv, ct, osl, rfl, lk, hcd⟩ := F.ex
 refine qF lk hcd S len fun A outer s H vs Q E hr hsp => ?_
 obtain ⟨t, h, q⟩ := hbody cdv A outer s H vs Q E hr hsp
 exact ⟨t, h.DS, q⟩
theorem rG.binds {x qual : Str} {st : Stmt} {f : Addr} {fd : FuncData} {ps : List Str} (F : rG K x qual st f fd)
  (h : ∀ (kV doc pm : Value) (an : Option Addr) (cdv ct : Value) (us : List Value), us.length = ps.length -> bindArgs (PySem.W.fnOf x qual (bq st) (af st) (aC st) .none kV doc pm an cdv ct) ⟨us, []⟩ = pure (ps.zip us)) : Binds K fd ps [] := by
 obtain ⟨oc, od, kV, doc, pm, an, cdv, ct, osl, rfl, lk, hcd⟩ := F.ex
 exact .all (h kV doc pm an cdv ct)
theorem ij {x qual : Str} {st : Stmt} {f : Addr} {oc : Value} {od an : Option Addr} {osl : Array (Option Value)} {kV doc pm cdv ct : Value} (l : K.lookup f = some ⟨oc, od, .func (PySem.W.fnOf x qual (bq st) (af st) (aC st) .none kV doc pm an cdv ct), osl⟩)
  (c : PySem.W.codeIn K cdv qual = true) (k : PySem.W.keepIn K (.ref f) = true) : rG K x qual st f (PySem.W.fnOf x qual (bq st) (af st) (aC st) .none kV doc pm an cdv ct) := ⟨⟨oc, od, kV, doc, pm, an, cdv, ct, osl, rfl, l, c⟩, k⟩
end
theorem vm {n : Nat} (h : n <= 1000) : n < sizeLine := Nat.lt_of_le_of_lt h (by decide)
section
variable {X : Cx}
theorem pv (i : Nat) {x : Str} {pos : Pos} (hN : X.N[i]? = some x := by rfl) (hv : wO X.env.scope x := by first | exact Or.inl rfl | exact Or.inr (Or.inl rfl) | exact Or.inr (Or.inr rfl)) (hd : (x == ("__debug__" : Str)) = false := by decide)
  (hcd : (x == ("__classdict__" : Str)) = false := by decide) : PE X (.Name x pos) (EC i) := iu hN hv hd hcd
end
theorem aK {A B : Prop} (h : B) : if false = true then A else B := by
 rw [if_neg Bool.false_ne_true]
 exact h
theorem aO {A B : Prop} (h : A) : if true = true then A else B := by
 rw [if_pos rfl]
 exact h
def aJ (H H' : Hp) : Prop := ∀ b o, H b = some o -> H' b = some o
theorem aJ.refl (H : Hp) : aJ H H := fun _ _ h => h
theorem aJ.trans {H H1 H2 : Hp} (a : aJ H H1) (b : aJ H1 H2) : aJ H H2 := fun c o h => b c o (a c o h)
theorem aJ.free {H H' : Hp} (e : aJ H H') {l : Addr} (h : H' l = Option.none) : H l = Option.none := by
 cases q : H l with
 | none => rfl
 | some o =>
  rw [e l o q] at h
  cases h
theorem aJ.seq {K : PySem.W.Frag} {H H' : Hp} {a : Addr} {xs : List V} (e : aJ H H') (h : ck K H a xs) : ck K H' a xs := by
 rcases h with (h | ⟨o, h⟩) | h
 ·exact .inl (.inl (e _ _ h))
 ·exact .inl (.inr ⟨o, e _ _ h⟩)
 ·exact .inr h
section
variable {κ : Type} [DecidableEq κ]
def kz (kvs : List (κ × V)) (k : κ) : Option V := (kvs.find? fun kv => decide (kv.1 = k)).map (·.2)
def putK (kvs : List (κ × V)) (k : κ) (v : V) : List (κ × V) :=
 if (kvs.any fun kv => decide (kv.1 = k)) = true then kvs.map (fun kv => if kv.1 = k then (kv.1, v) else kv) else kvs ++ [(k, v)]
theorem mR {p : κ × V} {r : List (κ × V)} {k : κ} (e : p.1 = k) : kz (p :: r) k = some p.2 := by simp [kz, List.find?_cons, e]
theorem mQ {p : κ × V} {r : List (κ × V)} {k : κ} (e : ¬ p.1 = k) : kz (p :: r) k = kz r k := by simp [kz, List.find?_cons, e]
theorem rC (k : κ) : ∀ kvs : List (κ × V), (kvs.any fun kv => decide (kv.1 = k)) = (kz kvs k).isSome
 | [] => rfl
 | p :: r => by
  rw [List.any_cons]
  by_cases e : p.1 = k
  ·simp only [mR e, decide_eq_true e, Bool.true_or, Option.isSome_some]
  ·rw [mQ e, decide_eq_false e, Bool.false_or]; exact rC k r
theorem kZ (kvs : List (κ × V)) (k : κ) (v : V) : (putK kvs k v).length <= kvs.length + 1 := by
 unfold putK
 split
 ·rw [List.length_map]; omega
 ·rw [List.length_append, List.length_cons, List.length_nil]; omega
theorem d0.vG {o : Option V} {u : Option Value} (r : d0 o u) : o.isSome = u.isSome := by
 cases o with
 | none => cases u with
  | none => rfl
  | some _ => exact (show False from r).elim
 | some _ => cases u with
  | none => exact (show False from r).elim
  | some _ => rfl
theorem KV.val {kvs : List (κ × V)} {vs : List (κ × Value)} (r : KV kvs vs) (k : κ) : d0 (kz kvs k) (valueAt vs k) := by
 unfold KV at r
 induction r with
 | nil => exact True.intro
 | @cons p q ps qs h t ih =>
  obtain ⟨h1, h2⟩ := h
  by_cases e : p.1 = k
  ·have e' : q.1 = k := h1.symm.trans e
   have b : valueAt (q :: qs) k = some q.2 := by simp [valueAt, List.find?_cons, e']
   rw [mR e, b]; exact h2
  ·have e' : ¬ q.1 = k := fun z => e (h1.trans z)
   have b : valueAt (q :: qs) k = valueAt qs k := by simp [valueAt, List.find?_cons, e']
   rw [mQ e, b]; exact ih
theorem KV.any {kvs : List (κ × V)} {vs : List (κ × Value)} (r : KV kvs vs) (k : κ) : (kvs.any fun kv => decide (kv.1 = k)) = vs.any fun kv => decide (kv.1 = k) := by
 unfold KV at r
 induction r with
 | nil => rfl
 | cons h t ih => rw [List.any_cons, List.any_cons, ih, h.1]
theorem KV.D3 {kvs : List (κ × V)} {vs : List (κ × Value)} (r : KV kvs vs) (k : κ) {y : V} {u : Value} (ry : RelV y u) :
  KV (kvs.map fun kv => if kv.1 = k then (kv.1, y) else kv) (vs.map fun kv => if kv.1 = k then (kv.1, u) else kv) := by
 unfold KV at r ⊢
 induction r with
 | nil => exact .nil
 | @cons p q ps qs h t ih =>
  rw [List.map_cons, List.map_cons]
  refine .cons ?_ ih
  obtain ⟨h1, h2⟩ := h
  by_cases e : p.1 = k
  ·rw [if_pos e, if_pos (h1.symm.trans e)]; exact ⟨h1, ry⟩
  ·rw [if_neg e, if_neg (fun z => e (h1.trans z))]; exact ⟨h1, h2⟩
theorem KV.put {kvs : List (κ × V)} {vs : List (κ × Value)} (r : KV kvs vs) (k : κ) {y : V} {u : Value} (ry : RelV y u) : KV (putK kvs k y) (stored vs k u) := by
 unfold putK stored
 rw [r.any k]
 by_cases e : (vs.any fun kv => decide (kv.1 = k)) = true
 ·rw [if_pos e, if_pos e]; exact r.D3 k ry
 ·rw [if_neg e, if_neg e]; exact Paired.snoc r ⟨rfl, ry⟩
theorem KV.length {kvs : List (κ × V)} {vs : List (κ × Value)} (r : KV kvs vs) : kvs.length = vs.length := Paired.length r
end
theorem xc {P : Program} {w : World} {k : Key} {u : Value} (r : RelV (kV k) u) : (bu P w).is k u = true := by
 cases k with
 | inl i => obtain ⟨t, e⟩ := (show ∃ t, u = Value.int i t from r); subst e; exact qb P w i t
 | inr x => obtain ⟨t, e⟩ := (show ∃ t, u = Value.str x t from r); subst e; exact qc P w x t
theorem nI {P : Program} {w : World} : ∀ {ks : List Key} {us : List Value}, Vals (ks.map kV) us -> ItemsAre (bu P w) ks us
 | [], _, r => by rw [List.map_nil] at r; cases r; exact .nil
 | k :: ks, _, r => by
  rw [List.map_cons] at r
  cases r with
  | cons h t => exact .cons (xc h) (nI t)
abbrev KT (H : Hp) : List (List Key × V) -> List (List Key × Addr × Value) -> Prop := Paired fun p q => p.1 = q.1 /\ H q.2.1 = some (.tup (p.1.map kV)) /\ RelV p.2 q.2.2
theorem KT.val {H : Hp} {kvs : List (List Key × V)} {xs : List (List Key × Addr × Value)} (r : KT H kvs xs) (k : List Key) : d0 (kz kvs k) ((atKey xs k).map (·.2)) := by
 induction r with
 | nil => exact True.intro
 | @cons p q ps qs h t ih =>
  obtain ⟨h1, _, h2⟩ := h
  by_cases e : p.1 = k
  ·have e' : q.1 = k := h1.symm.trans e
   have b : atKey (q :: qs) k = some q.2 := by simp [atKey, List.find?_cons, e']
   rw [mR e, b]; exact h2
  ·have e' : ¬ q.1 = k := fun z => e (h1.trans z)
   have b : atKey (q :: qs) k = atKey qs k := by simp [atKey, List.find?_cons, e']
   rw [mQ e, b]; exact ih
theorem KT.D3 {H : Hp} {kvs : List (List Key × V)} {xs : List (List Key × Addr × Value)} (r : KT H kvs xs) (k : List Key) {y : V} {u : Value} (ry : RelV y u) :
  KT H (kvs.map fun kv => if kv.1 = k then (kv.1, y) else kv) (xs.map (putAt k u)) := by
 induction r with
 | nil => exact .nil
 | @cons p q ps qs h t ih =>
  rw [List.map_cons, List.map_cons]
  refine .cons ?_ ih
  obtain ⟨h1, h2, h3⟩ := h
  unfold putAt
  by_cases e : p.1 = k
  ·rw [if_pos e, if_pos (h1.symm.trans e)]; exact ⟨h1, h2, ry⟩
  ·rw [if_neg e, if_neg (fun z => e (h1.trans z))]; exact ⟨h1, h2, h3⟩
theorem KT.put {H : Hp} {kvs : List (List Key × V)} {xs : List (List Key × Addr × Value)} (r : KT H kvs xs) (k : List Key) {b : Addr} {y : V} {u : Value} (hb : H b = some (.tup (k.map kV))) (ry : RelV y u) :
  KT H (putK kvs k y) (storedH xs k b u) := by
 have e : (kvs.any fun kv => decide (kv.1 = k)) = (atKey xs k).isSome := by
  rw [rC, (r.val k).vG, Option.isSome_map]
 unfold putK storedH
 rw [e]
 by_cases q : (atKey xs k).isSome = true
 ·rw [if_pos q, if_pos q]; exact r.D3 k ry
 ·rw [if_neg q, if_neg q]; exact Paired.snoc r ⟨rfl, hb, ry⟩
theorem KT.keeps {H H' : Hp} {kvs : List (List Key × V)} {xs : List (List Key × Addr × Value)} (r : KT H kvs xs) (ht : ∀ b ys, H b = some (.tup ys) -> H' b = some (.tup ys)) : KT H' kvs xs :=
 Paired.xy r fun _ _ z => ⟨z.1, ht _ _ z.2.1, z.2.2⟩
section
variable {P : Program} {w : World} {H : Hp} {h : Heap} {a : Addr}
theorem B2 {u : HO} (ok : cf P w H h) (e : Rd H a u) : aQ P w H h a u := e.ok ok
theorem nB {kvs : List (Key × V)} (ok : cf P w H h) (e : Rd H a (.dK kvs)) : kvs.length <= sizeLine /\ (a == sysModules) = false /\ ∃ vs, KV kvs vs /\ h.DictOf (bu P w) a vs :=
 show aQ P w H h a (.dK kvs) from B2 ok e
theorem Ez {kvs : List (Key × V)} (ok : cf P w H h) (e : H a = some (.dK kvs)) : kvs.length <= sizeLine /\ (a == sysModules) = false /\ ∃ vs, KV kvs vs /\ h.DictOf (bu P w) a vs := nB ok (.inl e)
theorem rm {ks : List Key} (ok : cf P w H h) (e : H a = some (.tup (ks.map kV))) : (tupleKind (bu P w)).is h ks a := by
 obtain ⟨_, its, r, o, h1, h2, n, h3⟩ := (show aQ P w H h a (.tup (ks.map kV)) from ok a _ e)
 exact ⟨o, its.toArray, n, h1, h2, h3, by simpa using nI r⟩
theorem xI {kvs : List (List Key × V)} (ok : cf P w H h) (e : Rd H a (.dT kvs)) : kvs.length <= sizeLine /\ (a == sysModules) = false /\
  ∃ xs, KT H kvs xs /\ h.DictOfH (tupleKind (bu P w)) a xs := by
 obtain ⟨z, y, xs, r, o, es, ep, h1, h2, h3, h4, h5⟩ := (show aQ P w H h a (.dT kvs) from B2 ok e)
 refine ⟨z, y, xs, r, o, es, ep, h1, h2, h3, h4, fun x hx => ?_, h5⟩
 have all : ∀ {l : List (List Key × V)} {m : List (List Key × Addr × Value)}, KT H l m -> ∀ x ∈ m, (tupleKind (bu P w)).is h x.1 x.2.1 := by
  intro l m q
  induction q with
  | nil => intro x hx; exact nomatch hx
  | @cons p q ps qs hq t ih =>
   intro x hx
   rcases List.mem_cons.mp hx with e | hx
   ·subst e
    exact rm ok (by rw [<- hq.1]; exact hq.2.1)
   ·exact ih x hx
 exact all r x hx
theorem E1 {kvs : List (List Key × V)} (ok : cf P w H h) (e : H a = some (.dT kvs)) : kvs.length <= sizeLine /\ (a == sysModules) = false /\
  ∃ xs, KT H kvs xs /\ h.DictOfH (tupleKind (bu P w)) a xs := xI ok (.inl e)
end
def CD (H : Hp) (a : Addr) (y : V) (r : Option V) : Prop :=
 (∃ kvs k, Rd H a (.dK kvs) /\ y = kV k /\ r = kz kvs k) \/ ∃ kvs k b, Rd H a (.dT kvs) /\ y = .ref b /\ H b = some (.tup (k.map kV)) /\ r = kz kvs k
def wK (H : Hp) (a : Addr) (y v : V) (H' : Hp) : Prop :=
 (∃ kvs k, H a = some (.dK kvs) /\ y = kV k /\ kvs.length < sizeLine /\ H' = upd H a (.dK (putK kvs k v))) \/
 ∃ kvs k b, H a = some (.dT kvs) /\ y = .ref b /\ H b = some (.tup (k.map kV)) /\ kvs.length < sizeLine /\ H' = upd H a (.dT (putK kvs k v))
theorem wK.k {H : Hp} {a : Addr} {kvs : List (Key × V)} {k : Key} {v : V} (e : H a = some (.dK kvs)) (hl : kvs.length < sizeLine) : wK H a (kV k) v (upd H a (.dK (putK kvs k v))) := .inl ⟨kvs, k, e, rfl, hl, rfl⟩
section
variable {X : Cx} {pins : List (Addr × Obj)} {σ : St} {H : Hp} {s : Shared} {a : Addr} {y v : V} {u r : Value} {o : Option V} {A : Around} {E : Value -> Shared -> Prop}
theorem Inv.big (I : Inv X pins σ H s) : sysModules < s.heap.objs.size := by
 have h : mainGlobals < s.heap.objs.size := (I.mod.glob.keeps I.bk).lt
 exact Nat.lt_trans (by decide) h
theorem ur {Q : Value -> Shared -> Prop} (hu : A.units + 1 < cLine) (I : Inv X pins σ H s) (g : CD H a y (some v)) (ry : RelV y u) (h : ∀ w' s', Inv X pins σ H s' -> RelV v w' -> Q w' s') :
  wpAny (model X.prog X.w) A (getItem (.ref a) u) Q E s := by
 rcases g with ⟨kvs, k, e, ey, l⟩ | ⟨kvs, k, b, e, ey, eb, l⟩
 ·subst ey
  obtain ⟨z, hd, vs, rel, dd⟩ := nB I.ao e
  obtain ⟨w', hw, rw'⟩ := d0.some_of (v := v) (o := valueAt vs k) (by rw [l]; exact rel.val k)
  exact wpAny_getItem_of (xc ry) dd.mapOf hw (h w' _ (I.tok _) rw')
 ·subst ey
  cases (show u = Value.ref b from ry)
  obtain ⟨z, hd, xs, rel, dd⟩ := xI I.ao e
  obtain ⟨w', hw, rw'⟩ := d0.some_of (v := v) (o := (atKey xs k).map (·.2)) (by rw [l]; exact rel.val k)
  obtain ⟨p, hp, hp2⟩ := Option.map_eq_some_iff.mp hw
  refine wpAny_getItem_heap (tupleKind_room_in1 hu) (rm I.ao eb) dd hp ?_
  rw [hp2]
  exact h w' _ (I.tok _) rw'
theorem tT {h' : Heap} {t' : Nat} {ob : HO} (I : Inv X pins σ H s) (mu : Ed (H a)) (hs : Heap.SameBut a s.heap h') (he : ∃ q, h'.get? a = some q) (new : aQ X.prog X.w (upd H a ob) h' a ob) :
  Inv X pins σ (upd H a ob) { s with heap := h', toks := t' } :=
 I.write (x := a) (e := a) mu (.inl rfl) (fun b q hb z => (hs.2 b hb).trans z) he new
theorem w_ {P : Program} {w : World} {H' : Hp} {h' : Heap} {kvs : List (Key × V)} {vs : List (Key × Value)} (z : kvs.length <= sizeLine) (hd : (a == sysModules) = false) (rel : KV kvs vs) (dd : h'.DictOf (bu P w) a vs) :
  aQ P w H' h' a (.dK kvs) := ⟨z, hd, vs, rel, dd⟩
theorem uu {H' : Hp} {Q : Unit -> Shared -> Prop} (hu : A.units + 1 < cLine) (I : Inv X pins σ H s) (g : wK H a y v H') (ry : RelV y u) (rv : RelV v r) (h : ∀ s', Inv X pins σ H' s' -> Q () s') :
  wpAny (model X.prog X.w) A (setItem (.ref a) u r) Q E s := by
 rcases g with ⟨kvs, k, e, ey, l, eH⟩ | ⟨kvs, k, b, e, ey, eb, l, eH⟩
 ·subst ey eH
  obtain ⟨z, hd, vs, rel, dd⟩ := Ez I.ao e
  have hz : vs.length <= sizeLine := by rw [<- rel.length]; exact z
  have hl : (putK kvs k v).length <= sizeLine := by have := kZ kvs k v; omega
  refine wpAny_setItem_pairs (hsz := hz) (xc ry) dd fun h' dd' hs => h _ ?_
  have he : ∃ q, h'.get? a = some q := let ⟨q, _, _, hq, _⟩ := dd'; ⟨q, hq⟩
  exact tT I (by rw [e]; exact True.intro) hs he (w_ hl hd (rel.put k rv) dd')
 ·subst ey eH
  cases (show u = Value.ref b from ry)
  obtain ⟨z, hd, xs, rel, dd⟩ := E1 I.ao e
  have hz : xs.length <= sizeLine := by rw [<- Paired.length rel]; exact z
  have hl : (putK kvs k v).length <= sizeLine := by have := kZ kvs k v; omega
  refine wpAny_setItem_heap (hsz := hz) (tupleKind_room_in1 hu) (rm I.ao eb) dd fun h' dd' hs => h _ ?_
  obtain ⟨q, es, ep, hq, h2, h3, h4, _, h5⟩ := dd'
  refine tT I (by rw [e]; exact True.intro) hs ⟨q, hq⟩ ⟨hl, hd, _, (rel.put k eb rv).keeps fun c ys ec => ?_, q, es, ep, hq, h2, h3, h4, h5⟩
  rw [aH (Fd ec e (fun z => nomatch z))]
  exact ec
end
section
variable {X : Cx} {pins : List (Addr × Obj)} {σ : St} {H : Hp} {s : Shared} {a : Addr} {kvs : List (Key × V)} {k : Key} {u : Value} {A : Around} {E : Value -> Shared -> Prop}
end
def CI (i : Expr) : Prop := ∀ ov iv, subscripted i false ov iv = operate [ov, iv] (getItem ov iv)
theorem BQ {prog : Program} {w : World} {A : Around} {E : Value -> Shared -> Prop} {s : Shared} {env : Env} {value slice : Expr} {pos : Pos} {T id : String} {Q : Value -> Shared -> Prop}
  (hl : typeLookup (.type T) "__getitem__" = pure (some (.builtin id))) (hs : CI slice)
  (h : wpAny (model prog w) A (eval value env) (fun o s₁ => wpAny (model prog w) A (eval slice env) (fun i s₂ => s₂.TypeIs o T /\ wpAny (model prog w) A (getItem o i) Q E s₂) E s₁) E s) :
  wpAny (model prog w) A (eval (.Subscript value slice pos) env) Q E s := by
 refine Subscript_ (wpAny_mono h (fun o s₁ h₁ => wpAny_mono h₁ (fun i s₂ h₂ => ?_) fun _ _ x => x) fun _ _ x => x)
 obtain ⟨hT, h₂⟩ := h₂
 unfold subscriptTail
 refine wpAny_bind ?_
 rw [getitemInPython_of_ne hT.not_modules]
 refine wpAny_bind (wpAny_specialOf hT hl ?_)
 have fin : wpAny (model prog w) A (subscripted slice false o i) (fun r s₃ => wpAny (model prog w) A (letTemporaryGo value o r >>= fun _ => pure r) Q E s₃) E s₂ := by
  rw [hs o i]
  exact wpAny_operating (wpAny_mono h₂ (fun r s₃ h₃ => wpAny_bind (wpAny_letTemporaryGo (wpAny_pure h₃))) fun _ _ x => x)
 first
  | exact wpAny_pure (wpAny_bind fin)
  | exact wpAny_bind (wpAny_pure (wpAny_bind fin))
  | exact wpAny_bind fin
theorem p8 {X : Cx} {pins : List (Addr × Obj)} {σ : St} {H : Hp} {s : Shared} {a : Addr} {y : V} {o : Option V} (I : Inv X pins σ H s) (g : CD H a y o) : s.TypeIs (.ref a) "dict" := by
 rcases g with ⟨kvs, k, e, _, _⟩ | ⟨kvs, k, b, e, _, _, _⟩
 ·obtain ⟨_, _, vs, _, dd⟩ := nB I.ao e
  exact dd.typeIs
 ·obtain ⟨_, _, xs, _, dd⟩ := xI I.ao e
  exact dd.typeIs
def GG (td ty : TE) : TE := fun σ H Q => td σ H fun x H1 => ty σ H1 fun y H2 => ∃ a v, x = .ref a /\ CD H2 a y (some v) /\ Q v H2
def F7 (td ty tv : TE) : TS := fun D σ H => tv σ H fun v H1 => td σ H1 fun x H2 => ty σ H2 fun y H3 => ∃ a H4, x = .ref a /\ wK H3 a y v H4 /\ D.nx σ H4
section
variable {X : Cx} {o i e value : Expr} {pos pos' tpos : Pos} {td ty tv : TE}
theorem Aw (hu : X.A.units + 1 < cLine) (ho : PE X o td) (hi : PE X i ty) (hs : CI i) : PE X (.Subscript o i pos) (GG td ty) := by
 intro pins s σ H Q I h
 refine BQ PySem.F.slot_dict_getitem.lookup hs (bE (ho pins s σ H _ I h) fun u s1 ⟨x, H1, I1, rx, q1⟩ => bE (hi pins s1 σ H1 _ I1 q1) fun iv s2 ⟨y, H2, I2, ry, a, v, ex, g, q2⟩ => ?_)
 subst ex
 obtain rfl : u = Value.ref a := rx
 exact ⟨p8 I2 g, ur hu I2 g ry fun w' s3 I3 rw' => ⟨v, H2, I3, rw', q2⟩⟩
theorem A4 (hu : X.A.units + 1 < cLine) (ho : PE X o td) (hi : PE X i ty) (hv : PE X value tv) (hs : swapsWith value (some (.Subscript o i pos')) pos.line X.env = pure false) :
  PS X (.Assign [.Subscript o i pos'] value pos) (F7 td ty tv) := by
 intro pins s σ H D I h
 refine wpAny_Assign_Subscript (bE (hv pins s σ H _ I h) fun r s1 ⟨v, H1, I1, rv, q1⟩ => bE (ho pins s1 σ H1 _ I1 q1) fun u s2 ⟨x, H2, I2, rx, q2⟩ => bE (hi pins s2 σ H2 _ I2 q2) fun iv s3 ⟨y, H3, I3, ry, a, H4, ex, g, q3⟩ => ?_) hs
 subst ex
 obtain rfl : u = Value.ref a := rx
 exact uu hu I3 g ry rv fun s4 I4 => ⟨σ, H4, I4, q3⟩
end
theorem w6 {P : Program} {w : World} {H : Hp} (h : Heap) (hb : sysModules < h.objs.size) : aQ P w H (h.push { cls := .type "dict", data := .dict #[] }) h.objs.size (.dK []) :=
 ⟨Nat.zero_le _, beq_eq_false_iff_ne.mpr (Ne.symm (Nat.ne_of_lt hb)), [], .nil, Heap.DictOf.new h⟩
def D_ : TE := fun _ H Q => ∀ p, H p = none -> Q (.ref p) (upd H p (.dK []))
section
variable {X : Cx} {pos : Pos}
theorem yS : PE X (.Dict [] [] pos) D_ := fun pins s σ H Q I h =>
 wpAny_Dict_empty ⟨.ref s.heap.objs.size, _, I.laid (a := s.heap.objs.size) (o := .dK []) (t' := s.toks) (fun _ _ q => Heap.get?_push_of_some _ q) (Nat.le_refl _) (w6 s.heap I.big), rfl, h _ (I.ao.fresh (Nat.le_refl _))⟩
end
section
variable {X : Cx} {pins : List (Addr × Obj)} {σ : St} {H : Hp} {s : Shared} {a : Addr} {y d : V} {u r : Value} {o : Option V} {A : Around} {E : Value -> Shared -> Prop}
end
section
variable {X : Cx} {o e f : Expr} {apos cpos : Pos} {td ty tx : TE}
end
section
variable {X : Cx} {pins : List (Addr × Obj)} {σ : St} {H : Hp} {s : Shared} {a : Addr} {kvs : List (Key × V)} {A : Around} {E : Value -> Shared -> Prop}
end
section
variable {X : Cx} {pins : List (Addr × Obj)} {σ : St} {H : Hp} {s : Shared} {a : Addr} {y : V} {u : Value} {A : Around} {E : Value -> Shared -> Prop}
end
section
variable {X : Cx}
end
section
variable {κ : Type} [DecidableEq κ]
end
def lQ (X : Cx) (scope : Scope) (cl : List (Str × Addr)) (C : Addr) (N : List Str) (fp : List Addr) (s₂ : Shared) (H₂ : Hp) : Cx where
 prog := X.prog
 w := X.w
 K := X.K
 mg := X.mg
 base := X.base
 A := X.A
 N := N
 s₀ := s₂
 H₀ := H₂
 env := compEnvC scope cl C X.env
 outer := X.stack
 stack := X.stack
 ex := fp
 fn := fun _ => false
 calm := X.calm
 pn := []
 xe := fun _ _ => False
theorem pI {scope : Scope} {env : Env} {y : Str} (nc : ∀ z ∈ scope.names, z.2 ≠ .cell) (h : (relabel scope env).names.lookup y = some .cell \/ (relabel scope env).names.lookup y = some .free) : scope.names.lookup y = some .free := by
 have key : ∀ (l : List (Str × NameKind)), (∀ z ∈ l, z.2 ≠ .cell) -> ((l.map fun (n, k) => if (k == NameKind.free && env.scope.kind == .function && env.kindOf n == some .cell) then (n, NameKind.cell) else (n, k)).lookup y = some .cell \/
   (l.map fun (n, k) => if (k == NameKind.free && env.scope.kind == .function && env.kindOf n == some .cell) then (n, NameKind.cell) else (n, k)).lookup y = some .free) -> l.lookup y = some .free := by
  intro l
  induction l with
  | nil => intro _ h; rcases h with h | h <;> simp at h
  | cons p r ih =>
   obtain ⟨n, k⟩ := p
   intro hn h
   have hr := ih (fun z hz => hn z (List.mem_cons_of_mem _ hz))
   have hk : k ≠ .cell := hn (n, k) List.mem_cons_self
   by_cases hc : (k == NameKind.free && env.scope.kind == .function && env.kindOf n == some .cell) = true
   ·have kf : k = .free := by
     rw [Bool.and_eq_true, Bool.and_eq_true] at hc
     exact eq_of_beq hc.1.1
    subst kf
    simp only [List.map_cons, if_pos hc] at h
    cases hx : y == n with
    | true => simp only [List.lookup_cons, hx]
    | false =>
     simp only [List.lookup_cons, hx] at h ⊢
     exact hr h
   ·simp only [List.map_cons, if_neg hc] at h
    cases hx : y == n with
    | true =>
     simp only [List.lookup_cons, hx] at h ⊢
     rcases h with h | h
     ·cases h; exact absurd rfl hk
     ·exact h
    | false =>
     simp only [List.lookup_cons, hx] at h ⊢
     exact hr h
 exact key scope.names nc h
theorem oY {scope : Scope} {env : Env} {y : Str} (h : scope.names.lookup y = some .free) : (relabel scope env).names.lookup y = some .cell \/ (relabel scope env).names.lookup y = some .free := by
 have key : ∀ (l : List (Str × NameKind)), l.lookup y = some .free -> ((l.map fun (n, k) => if (k == NameKind.free && env.scope.kind == .function && env.kindOf n == some .cell) then (n, NameKind.cell) else (n, k)).lookup y = some .cell \/
   (l.map fun (n, k) => if (k == NameKind.free && env.scope.kind == .function && env.kindOf n == some .cell) then (n, NameKind.cell) else (n, k)).lookup y = some .free) := by
  intro l
  induction l with
  | nil => intro h; simp at h
  | cons p r ih =>
   obtain ⟨n, k⟩ := p
   intro h
   by_cases hc : (k == NameKind.free && env.scope.kind == .function && env.kindOf n == some .cell) = true
   ·simp only [List.map_cons, if_pos hc]
    cases hx : y == n with
    | true => simp only [List.lookup_cons, hx]; exact .inl trivial
    | false =>
     simp only [List.lookup_cons, hx] at h ⊢
     exact ih h
   ·simp only [List.map_cons, if_neg hc]
    cases hx : y == n with
    | true => simp only [List.lookup_cons, hx] at h ⊢; exact .inr h
    | false =>
     simp only [List.lookup_cons, hx] at h ⊢
     exact ih h
 exact key scope.names h
structure bV (X : Cx) (scope : Scope) (cl : List (Str × Addr)) (T : List Str) (caps : List Nat) (cn : List Str) : Prop where
 kind : scope.kind = .function
 En : closureFor scope X.env = pure cl
 Bs : ∀ y ∈ scope.names, y.2 ≠ .cell
 names : ∀ y ∈ scope.names, y.2 = .local -> scope.names.lookup y.1 = some .local
 sub : ∀ y c, cl.lookup y = some c -> X.env.cells.lookup y = some c
 has : ∀ y, scope.names.lookup y = some .free -> ∃ c, cl.lookup y = some c
 IP : Paired (fun (j : Nat) (y : Str) => X.N[j]? = some y /\ (X.env.kindOf y = some .cell \/ X.env.kindOf y = some .free) /\ scope.names.lookup y = some .free) caps cn
def vn (n : Nat) (caps : List Nat) (σ : St) : St := List.replicate n none ++ caps.map fun j => (σ[j]?).getD none
def Le (σ σ' : St) : Prop := σ.length = σ'.length /\ ∀ (i : Nat) v, σ[i]? = some (some v) -> σ'[i]? = some (some v)
theorem Le.one {r : St} {x : Option V} : Le (none :: r) (x :: r) := ⟨rfl, fun i v h => by
 cases i with
 | zero => simp at h
 | succ i => simpa using h⟩
def tO (X : Cx) (ifs : List Expr) (t : TT) : Prop :=
 ∀ (pins : List (Addr × Obj)) (s : Shared) (σ : St) (H : Hp) (Q : Bool -> Hp -> Prop), Inv X pins σ H s -> t σ H Q ->
  wpAny (model X.prog X.w) X.A (forIn ifs true fun c r => if r = true then do let ok <- isTrue c X.env (eval c X.env); pure (ForInStep.yield ok) else pure (ForInStep.yield r)) (TP X pins σ Q) X.xe s
def Hs : TT := fun _ H Q => Q true H
theorem A8 {X : Cx} : tO X [] Hs := fun pins s σ H Q I h => wpAny_tests_nil ⟨H, I, h⟩
theorem A9 {X : Cx} {c : Expr} {t : TT} (h : PT X c t) : tO X [c] t := fun pins s σ H Q I q => wpAny_tests_one (h pins s σ H Q I q)
section
variable {X : Cx} {scope : Scope} {cl : List (Str × Addr)} {T cn : List Str} {caps : List Nat} {pins : List (Addr × Obj)} {σ : St} {H2 : Hp} {s2 : Shared} {C : Addr} {h₁ : Heap} {tk : Nat} {fp : List Addr} {ix : Addr}
theorem rP (S : bV X scope cl T caps cn) (I2 : Inv X pins σ H2 s2) (f2 : ∀ b ∈ fp, gW X pins H2 b) (fo : ∀ b ∈ fp, b < s2.heap.objs.size)
  (hC : C = s2.heap.objs.size + 1) (old : ∀ b o, s2.heap.get? b = some o -> h₁.get? b = some o) (hacc : ∃ n, h₁.get? s2.heap.objs.size = some { cls := .type "list", data := .seq #[] n }) (hns : h₁.Ns C fun _ => none) :
  Inv (lQ X scope cl C (T ++ cn) fp s2 H2) [] (vn T.length caps σ) (upd H2 s2.heap.objs.size (.lst [])) { s2 with heap := h₁, toks := tk } := by
 have hfr : H2 s2.heap.objs.size = none := I2.fresh
 have lt_of : ∀ y c, cl.lookup y = some c -> c < s2.heap.objs.size := fun y c e => by
  obtain ⟨v, o, ho, _⟩ := I2.cell y c (S.sub y c e)
  exact Heap.lt_size ho
 refine ⟨⟨I2.ok.mod, S.kind, I2.ok.glob, I2.ok.blt, by show s2.heap.objs.size <= C; rw [hC]; exact Nat.le_succ _, fun y z c h1 h2 => I2.ok.inj y z c (S.sub y c h1) (S.sub z c h2), fun y hy => S.has y (pI S.Bs hy), fun y c hf _ => (Bool.false_ne_true hf).elim,
  I2.ok.hd, I2.ok.frames, .inl rfl, fun b hb => ⟨?_, fun y c e => ?_⟩, I2.bs, Nat.le_trans I2.ok.wC I2.sz, fun b o e hb => ?_, fun b hb hs => ?_, I2.stack, I2.pR⟩, rfl, I2.bare, Un.laid old (Nat.le_refl _) hfr, ⟨_, hns, fun i y v e1 e2 e3 => ?_⟩, fun y c e => ?_, ?_, fun y c e => ?_, fun p hp => ?_, I2.ao.laid old (Nat.le_refl _) ?_, ?_⟩
 ·show b ≠ C
  rw [hC]
  exact Nat.ne_of_lt (Nat.lt_succ_of_lt (fo b hb))
 ·exact (f2 b hb).2.2.2.2.1 y c (S.sub y c e)
 ·have h0 := I2.ok.bs b o e
  rcases (f2 b hb).2.2.2.1 with z | z
  ·exact I2.ok.qg b o e z
  ·exact absurd (Nat.lt_of_lt_of_le (Heap.lt_size h0.1) z) (Nat.lt_irrefl _)
 ·rcases List.mem_cons.mp (I2.kI b hs) with z | z
  ·exact (f2 b hb).2.1 z
  ·exact (f2 b hb).2.2.1 z
 ·-- the slots
  have hT : T.length <= i := by
   by_cases hi : i < T.length
   ·unfold vn at e2
    rw [List.getElem?_append_left (by simpa using hi), List.getElem?_replicate] at e2
    split at e2 <;> cases e2
   ·omega
  obtain ⟨k, rfl⟩ : ∃ k, i = T.length + k := ⟨i - T.length, by omega⟩
  have e1' : cn[k]? = some y := by
   have q : (T ++ cn)[T.length + k]? = some y := e1
   rw [List.getElem?_append_right (by omega)] at q
   simpa using q
  have e2' : (caps.map fun j => (σ[j]?).getD none)[k]? = some (some v) := by
   unfold vn at e2
   rw [List.getElem?_append_right (by simp)] at e2
   simpa using e2
  have pr : ∀ {cs : List Nat} {ns : List Str} {k : Nat}, Paired (fun (j : Nat) (y : Str) => X.N[j]? = some y /\ (X.env.kindOf y = some .cell \/ X.env.kindOf y = some .free) /\ scope.names.lookup y = some .free) cs ns ->
    ns[k]? = some y -> (cs.map fun j => (σ[j]?).getD none)[k]? = some (some v) -> ∃ (j : Nat), X.N[j]? = some y /\ (X.env.kindOf y = some .cell \/ X.env.kindOf y = some .free) /\ scope.names.lookup y = some .free /\ σ[j]? = some (some v) := by
   intro cs ns k p
   induction p generalizing k with
   | nil => intro q; simp at q
   | cons a t ih =>
    rename_i j0 y0 l1 l2
    cases k with
    | zero =>
     intro q1 q2
     simp at q1 q2
     subst q1
     refine ⟨j0, a.1, a.2.1, a.2.2, ?_⟩
     cases e : σ[j0]? with
     | none => rw [e] at q2; simp at q2
     | some z => rw [e] at q2; simp at q2; rw [q2]
    | succ k => intro q1 q2; exact ih (by simpa using q1) (by simpa using q2)
  obtain ⟨j, n1, kd, fr, sv⟩ := pr S.IP e1' e2'
  obtain ⟨m, hn, hl⟩ := I2.loc
  obtain ⟨u, r, lk⟩ := hl j y v n1 sv (by rcases kd with z | z; exact .inr (.inl z); exact .inr (.inr z))
  refine ⟨u, r, .inr ⟨oY fr, ?_⟩⟩
  obtain ⟨c, hc⟩ := S.has y fr
  rcases lk with ⟨z, _⟩ | ⟨_, c', hc', hcell⟩
  ·rcases kd with q | q <;> (rw [z] at q; cases q)
  ·have : c = c' := by
    have := S.sub y c hc
    rw [hc'] at this
    exact (Option.some.inj this).symm
   subst this
   obtain ⟨o, ho, hd⟩ := hcell
   exact ⟨c, hc, o, old c o ho, hd⟩
 ·obtain ⟨v, o, ho, hd⟩ := I2.cell y c (S.sub y c e)
  exact ⟨v, o, old c o ho, hd⟩
 ·show upd H2 s2.heap.objs.size (.lst []) C = none
  rw [aH (by rw [hC]; exact Nat.succ_ne_self _)]
  exact I2.ao.fresh (by rw [hC]; exact Nat.le_succ _)
 ·rw [aH (Nat.ne_of_lt (lt_of y c e))]
  exact I2.b7 y c (S.sub y c e)
 ·exact absurd (show p ∈ ([] : List (Addr × Obj)) from hp) (by simp)
 ·obtain ⟨n, e⟩ := hacc
  exact ⟨Nat.zero_le _, [], n, .nil, e⟩
 ·have hp : ∀ {cs : List Nat} {ns : List Str} {F : Nat -> Str -> Prop}, Paired F cs ns -> cs.length = ns.length := fun p => Paired.length p
  show (vn T.length caps σ).length = (T ++ cn).length
  unfold vn
  rw [List.length_append, List.length_replicate, List.length_map, List.length_append, hp S.IP]
theorem wj (I2 : Inv X pins σ H2 s2) (f2 : ∀ b ∈ fp, gW X pins H2 b) (hC : s2.heap.objs.size <= C) {N : List Str} {σ' : St} {H' : Hp} {s' : Shared} (J : Inv (lQ X scope cl C N fp s2 H2) [] σ' H' s') :
  ∃ oC m, s'.heap.get? C = some oC /\ s'.heap.Ns C m /\ Inv X (pins ++ [(C, oC)]) σ H' s' /\ gW X pins H' C := by
 obtain ⟨m, hn, _⟩ := J.loc
 obtain ⟨oC, es, ep, ho, hd, hrest⟩ := id hn
 have I3 : Inv X pins σ H' s' := I2.m7 (ch := fp) J.os J.base J.ao J.bare fun b hb => ⟨(f2 b hb).2.2.2.1, (f2 b hb).2.1, (f2 b hb).2.2.2.2.1, (f2 b hb).2.2.2.2.2⟩
 have fC : gW X pins H' C := I2.xQ hC J.free
 refine ⟨oC, m, ho, hn, I3.pF fun p hp => ?_, fC⟩
 rcases List.mem_append.mp hp with z | z
 ·exact I3.pin p (List.mem_append_right _ z)
 ·have e : p = (C, oC) := by simpa using z
  subst e
  exact ⟨ho, fC.1, fC.2.1, fC.2.2.1, fun v q => by rw [hd] at q; cases q⟩
end
def Bb (J : It) (D : Addr) (H1 : Hp) (σ0 : St) (g : TG) (tt : TT) (te : TE) (Q : VK) : Prop := ∃ W : Nat -> Nat -> List V -> Hp -> Prop, (∃ m, W 0 m [] (upd H1 D (.lst []))) /\
 ∀ i m ys H, W i m ys H -> H D = some (.lst ys) /\ ((J.stop i H /\ Q (.ref D) H) \/ (J.go i H /\ ∀ x H', J.wI i H x H' -> g x σ0 H' fun σ2 H2 => Le σ0 σ2 /\ tt σ2 H2 fun b H3 =>
  if b = true then te σ2 H3 fun y H4 => H4 D = some (.lst ys) /\ ys.length < sizeLine /\ ∃ m', m' < m /\ W (i + 1) m' (ys ++ [y]) (upd H4 D (.lst (ys ++ [y]))) else ∃ m', m' < m /\ W (i + 1) m' ys H3))
def qt (n : Nat) (caps : List Nat) (wi : TI) (g : TG) (tt : TT) (te : TE) : TE := fun σ H Q => wi σ H fun J H1 => ∀ D, H1 D = none -> Bb J D H1 (vn n caps σ) g tt te Q
section
variable {X : Cx} {scope : Scope} {cl : List (Str × Addr)} {T cn : List Str} {caps : List Nat} {elt tg iter : Expr} {ifs : List Expr} {wi : TI} {g : TG} {tt : TT} {te : TE} {pos : Pos}
def F6 (i : Nat) (t : TE) : TS := fun D σ H => t σ H fun x H1 => D.nx (σ.set i (some x)) H1
end
section
variable {X : Cx}
theorem qj : fB X (compareOp .Is) (fun x y H Q => ∃ a b, x = .bl a /\ y = .bl b /\ Q (.bl (a == b)) H) := by
 intro pins s σ H x y v u Q I rx ry h
 obtain ⟨a, b, rfl, rfl, q⟩ := h
 cases rx
 cases ry
 exact is_bool (ah I q rfl)
theorem qk : fB X (compareOp .IsNot) (fun x y H Q => ∃ a b, x = .bl a /\ y = .bl b /\ Q (.bl (a != b)) H) := by
 intro pins s σ H x y v u Q I rx ry h
 obtain ⟨a, b, rfl, rfl, q⟩ := h
 cases rx
 cases ry
 exact isnot_bool (ah I q rfl)
theorem Ar : fB X (binaryOp .Mult) (rI IntMulOk fun i j => .int (i * j)) := HZ fun _ _ _ _ _ _ _ hc q => mul_int q hc
end
mutual
inductive iZ (K : PySem.W.Frag) (H : Hp) : V -> PyData -> Prop
 | aW : iZ K H .aW .none
 | bl (b : Bool) : iZ K H (.bl b) (.bool b)
 | int (i : Int) : iZ K H (.int i) (.int i)
 | str (x : Str) : iZ K H (.str x) (.str x)
 | lst {a : Addr} {xs : List V} {ds : List PyData} : ck K H a xs -> gT K H xs ds -> iZ K H (.ref a) (.list ds)
 | tup {a : Addr} {xs : List V} {ds : List PyData} : eT K H a xs -> gT K H xs ds -> iZ K H (.ref a) (.tuple ds)
inductive gT (K : PySem.W.Frag) (H : Hp) : List V -> List PyData -> Prop
 | nil : gT K H [] []
 | cons {x : V} {d : PyData} {xs : List V} {ds : List PyData} : iZ K H x d -> gT K H xs ds -> gT K H (x :: xs) (d :: ds)
end
theorem IsTup.of_get {h : Heap} {a : Addr} {its : Array Value} (p : IsTup h a its) : ∃ o n, h.get? a = some o /\ o.cls = .type "tuple" /\ o.data = .seq its n := by
 obtain ⟨o, h1, h2, n, h3⟩ := p
 exact ⟨o, n, h1, h2, h3⟩
mutual
theorem iZ.reads {X : Cx} {pins : List (Addr × Obj)} {σ : St} {H : Hp} {s : Shared} (I : Inv X pins σ H s) : ∀ {v : V} {d : PyData} {u : Value}, iZ X.K H v d -> RelV v u -> ∃ as, Reads s.heap u d as
 | _, _, u, .aW, r => by cases (show u = Value.none from r); exact ⟨_, .none⟩
 | _, _, u, .bl b, r => by cases (show u = Value.bool b from r); exact ⟨_, .bool b⟩
 | _, _, u, .int i, r => by obtain ⟨t, q⟩ := (show ∃ t, u = Value.int i t from r); cases q; exact ⟨_, .int i t⟩
 | _, _, u, .str x, r => by obtain ⟨t, q⟩ := (show ∃ t, u = Value.str x t from r); cases q; exact ⟨_, .str x t⟩
 | _, _, u, @iZ.lst _ _ a xs ds h1 h2, r => by
  cases (show u = Value.ref a from r)
  obtain ⟨its, rv, pl, _⟩ := I.list h1
  obtain ⟨as, q⟩ := gT.reads I h2 rv
  obtain ⟨o, n, e1, e2, _, e3⟩ := pl
  exact ⟨_, reads_list_at e1 e2 e3 (by simpa using q)⟩
 | _, _, u, @iZ.tup _ _ a xs ds h1 h2, r => by
  cases (show u = Value.ref a from r)
  obtain ⟨its, rv, pl, _⟩ := I.tuple h1
  obtain ⟨as, q⟩ := gT.reads I h2 rv
  obtain ⟨o, n, e1, e2, e3⟩ := IsTup.of_get pl
  exact ⟨_, reads_tuple_at e1 e2 e3 (by simpa using q)⟩
theorem gT.reads {X : Cx} {pins : List (Addr × Obj)} {σ : St} {H : Hp} {s : Shared} (I : Inv X pins σ H s) : ∀ {vs : List V} {ds : List PyData} {us : List Value}, gT X.K H vs ds -> Vals vs us -> ∃ as, ReadsAll s.heap us ds as
 | _, _, us, .nil, r => by cases r; exact ⟨_, .nil⟩
 | _, _, us, .cons h1 h2, r => by
  cases r with
  | cons r1 r2 =>
   obtain ⟨as, q⟩ := iZ.reads I h1 r1
   obtain ⟨bs, p⟩ := gT.reads I h2 r2
   exact ⟨_, .cons q p⟩
end
def BD (K : PySem.W.Frag) (neg : Bool) : R2 := fun x y H Q => ∃ d e, iZ K H x d /\ iZ K H y e /\ SeqAt.shaped d = true /\ SeqAt.shaped e = true /\ Q (.bl (if neg then !PyData.eqv d e else PyData.eqv d e)) H
section
variable {X : Cx}
theorem yI (hu : X.A.units + 64 < cLine) : fB X (compareOp .Eq) (BD X.K false) := by
 intro pins s σ H x y v u Q I rx ry h
 obtain ⟨d, e, hx, hy, sx, sy, q⟩ := h
 obtain ⟨as, p1⟩ := hx.reads I rx
 obtain ⟨bs, p2⟩ := hy.reads I ry
 exact eq_dataH p1 p2 sx sy hu ⟨.bl _, H, I, rfl, q⟩
theorem DZ (hu : X.A.units + 64 < cLine) : fB X (compareOp .NotEq) (BD X.K true) := by
 intro pins s σ H x y v u Q I rx ry h
 obtain ⟨d, e, hx, hy, sx, sy, q⟩ := h
 obtain ⟨as, p1⟩ := hx.reads I rx
 obtain ⟨bs, p2⟩ := hy.reads I ry
 exact ne_dataH p1 p2 sx sy hu ⟨.bl _, H, I, rfl, q⟩
theorem ug {bs : List Bool} : ∀ {us : List Value}, Vals (bs.map V.bl) us -> ∀ (i : Nat) (v : Value), us[i]? = some v -> ∃ b, bs[i]? = some b /\ v = .bool b := by
 intro us r i v e
 have hl := r.length
 rw [List.length_map] at hl
 have hi : i < us.length := (List.getElem?_eq_some_iff.mp e).1
 have hb : bs[i]? = some bs[i] := List.getElem?_eq_getElem (by omega)
 obtain ⟨u, h1, h2⟩ := r.get (i := i) (x := V.bl bs[i]) (by rw [List.getElem?_map, hb]; rfl)
 rw [e] at h1
 cases h1
 exact ⟨_, hb, h2⟩
theorem sS (bs : List Bool) : ((List.range bs.length).all fun i => (bs[i]?).getD true) = bs.all id := PyProof.Rows.LSm.range_all bs
theorem wY : gS X (.builtin "all") (fun xs H Q => ∃ (p : Addr) (bs : List Bool), xs = [.ref p] /\ X.A.handled = none /\ ck X.K H p (bs.map V.bl) /\ Q (.bl (bs.all id)) H) := by
 intro pins s σ H xs us Q I r h
 obtain ⟨p, bs, rfl, hh, hS, q⟩ := h
 obtain ⟨u, rfl, ru⟩ := vals1 r
 cases (show u = Value.ref p from ru)
 obtain ⟨its, rv, pl, _⟩ := I.list hS
 have hl := pl.isList
 have hlt : p < s.heap.objs.size := pl.lt
 have hb := ug rv
 have hlen : its.length = bs.length := by have := rv.length; rw [List.length_map] at this; exact this.symm
 refine call_all_walk (wpAny_pyIter_list hl ?_)
 refine ⟨s.heap.objs.size, [s.heap.objs.size, p], [s.heap.objs.size], its.toArray.size, _, _, fun i => (bs[i]?).getD true, rfl, Walks.list (A := X.A.in1) hh _ p (Nat.ne_of_lt hlt) its.toArray,
  ⟨⟨_, Heap.get?_push_size _ rfl, rfl, rfl⟩, hl.push _⟩, fun i v s' Q' E' hP hQ => ?_, fun h' tk hk => ?_⟩
 ·obtain ⟨b, e, rfl⟩ := hb i v (by simpa using hP)
  simp only [e, Option.getD_some] at hQ
  exact wpAny_truthy_bool hQ
 ·have e : ((List.range its.toArray.size).all fun i => (bs[i]?).getD true) = bs.all id := by
   rw [List.size_toArray, hlen]; exact sS bs
  rw [e]
  exact ⟨.bl (bs.all id), H, I.kept (PyProof.Rows.LSm.kept_iter hk), rfl, q⟩
end
section
variable {X : Cx} {a b c : Expr} {ta tb : TE} {pos : Pos} {k : Int} {op op' : CmpOp} {p p' : Int -> Int -> Bool}
end
theorem aN {H : Hp} {p : Addr} {o : HO} (h : H p = none) : aJ H (upd H p o) := fun b u e => by
 rw [aH (aS e h)]
 exact e
theorem PE.imp {X : Cx} {e : Expr} {t t' : TE} (h : PE X e t) (f : ∀ σ H Q, t' σ H Q -> t σ H Q) : PE X e t' := fun pins s σ H Q I q => h pins s σ H Q I (f σ H Q q)
def Gu (x : Str) : It := ⟨fun i _ => i < x.cps.size, fun i H v H' => H' = H /\ ∃ c, x.cps[i]? = some c /\ v = .str ⟨#[c]⟩, fun i _ => x.cps.size <= i⟩
theorem vy {P : Program} {w : World} {K : PySem.W.Frag} {tg : Expr} (x : Str) (t : Tok) (it : Addr) : Turn P w K tg (Gu x) [it] it (fun i h => h.IsStrIter it "str_ascii_iterator" x t i) where
 mem := by simp
 obj := fun i h st b hb => by
  have e : b = it := by simpa using hb
  subst e
  obtain ⟨o, e, c, d⟩ := st
  exact ⟨o, e, fun v z => by rw [d] at z; cases z⟩
 keep := fun i h h' st k => by
  obtain ⟨o, e, r⟩ := st
  exact ⟨o, k it (by simp) o e, r⟩
 item := by
  intro X hP hw hK hc i pins s σ H E I hf st hg
  subst hP hw hK
  obtain ⟨f0, f1, f2, f3, f4, f5⟩ := hf it (by simp)
  have hi : i < x.cps.size := hg
  refine wpAny_pyNext_ascii_item st (c := x.cps[i]) (by simp [hi]) fun h' st' sb => ?_
  have I1 : Inv X pins σ H { s with heap := h', toks := s.toks + 1 } := I.turned (fun b o hb e => (sb.2 b hb).trans e) f0 f1 f3 f4 f5
  obtain ⟨o, e, c, d⟩ := id st'
  exact ⟨_, rfl, qJ (s := { s with heap := h', toks := s.toks + 1 }) e c d (by decide) ⟨.str ⟨#[x.cps[i]]⟩, H, I1, ⟨_, rfl⟩, ⟨rfl, _, by simp [hi], rfl⟩, st', fun b hb => (hf b hb).1⟩⟩
 done := by
  intro X hP hw hK hc i pins s σ H E I hf st hg
  subst hP hw hK
  obtain ⟨f0, f1, f2, f3, f4, f5⟩ := hf it (by simp)
  have hi : x.cps.size <= i := hg
  exact wpAny_pyNext_ascii_end (I.ok.hd hc) st (by simp [hi]) fun h' eb => ⟨rfl, I.turned (t' := s.toks) (fun b o hb e => eb b o hb e) f0 f1 f3 f4 f5⟩
 self := fun _ _ _ _ _ st h => wpAny_pyIter_striter_ascii st h
theorem vz {P : Program} {w : World} {K : PySem.W.Frag} {tg : Expr} (x : Str) (t : Tok) (it : Addr) : Turn P w K tg (Gu x) [it] it (fun i h => h.IsStrIter it "str_iterator" x t i) where
 mem := by simp
 obj := fun i h st b hb => by
  have e : b = it := by simpa using hb
  subst e
  obtain ⟨o, e, c, d⟩ := st
  exact ⟨o, e, fun v z => by rw [d] at z; cases z⟩
 keep := fun i h h' st k => by
  obtain ⟨o, e, r⟩ := st
  exact ⟨o, k it (by simp) o e, r⟩
 item := by
  intro X hP hw hK hc i pins s σ H E I hf st hg
  subst hP hw hK
  obtain ⟨f0, f1, f2, f3, f4, f5⟩ := hf it (by simp)
  have hi : i < x.cps.size := hg
  refine wpAny_pyNext_wide_item st (c := x.cps[i]) (by simp [hi]) fun h' st' sb => ?_
  have I1 : Inv X pins σ H { s with heap := h', toks := s.toks + 1 } := I.turned (fun b o hb e => (sb.2 b hb).trans e) f0 f1 f3 f4 f5
  obtain ⟨o, e, c, d⟩ := id st'
  exact ⟨_, rfl, qJ (s := { s with heap := h', toks := s.toks + 1 }) e c d (by decide) ⟨.str ⟨#[x.cps[i]]⟩, H, I1, ⟨_, rfl⟩, ⟨rfl, _, by simp [hi], rfl⟩, st', fun b hb => (hf b hb).1⟩⟩
 done := by
  intro X hP hw hK hc i pins s σ H E I hf st hg
  subst hP hw hK
  obtain ⟨f0, f1, f2, f3, f4, f5⟩ := hf it (by simp)
  have hi : x.cps.size <= i := hg
  exact wpAny_pyNext_wide_end (I.ok.hd hc) st (by simp [hi]) fun h' eb => ⟨rfl, I.turned (t' := s.toks) (fun b o hb e => eb b o hb e) f0 f1 f3 f4 f5⟩
 self := fun _ _ _ _ _ st h => wpAny_pyIter_striter_wide st h
section
variable {X : Cx} {tg : Expr}
end
theorem nq : ∀ l : List (Str × Tok), Vals ((l.map (·.1)).map V.str) (strValues l)
 | [] => .nil
 | (x, t) :: r => .cons ⟨t, rfl⟩ (nq r)
theorem v_ (tk : Nat) (ws : List Str) : Vals (ws.map V.str) (strsFrom tk ws) := by
 have h := nq (numbered tk ws)
 rw [numbered_texts, <- strsFrom_eq] at h
 exact h
section
variable {X : Cx}
open Builtin Builtin.Str in
theorem yC : II X "str.split" (fun x vs H Q => ∃ z y, x = .str z /\ vs = [.str y] /\ (y.length == 0) = false /\ z.length + 2 <= sizeLine /\ ∀ p, H p = none -> Q (.ref p) (upd H p (.lst ((Txt.split z y).map V.str)))) := by
 intro pins s σ H x vs v us Q I rx rv h
 obtain ⟨z, y, rfl, rfl, hy, hz, q⟩ := h
 obtain ⟨t, rfl⟩ := rx
 obtain ⟨w', rfl, u, rfl⟩ := rv.one
 have hle : (Txt.split z y).length <= sizeLine := Nat.le_trans (split_le z y) hz
 have hz0 : z.length <= sizeLine := by omega
 have q := q s.heap.objs.size I.fresh
 cases h1 : (decide (z.length < y.length) || decide (strKind z < strKind y)) with
 | true =>
  have e : Txt.split z y = [z] := if_pos h1
  rw [e] at q
  refine call_meets F.slot_str_split (typeIs_str _ _ _) F.entry_str_split (F.args_str_split_2 _ _) (meets_str_split_cannot_occur z y t u h1) ?_
  exact ⟨.ref s.heap.objs.size, _, I.laid (t' := s.toks) (o := .lst [.str z]) (fun b ob q => Heap.get?_push_of_some _ q) (Nat.le_refl _) ⟨by show 1 <= sizeLine; decide, _, 0, .cons ⟨t, rfl⟩ .nil, Heap.get?_push_size _ rfl⟩, rfl, q⟩
 | false =>
  cases hf : (occurrences z y 0 z.length (z.length + 1)).isEmpty with
  | true =>
   have e : Txt.split z y = [z] := (if_neg (ne_true_of_eq_false h1)).trans (if_pos hf)
   rw [e] at q
   refine call_meets F.slot_str_split (typeIs_str _ _ _) F.entry_str_split (F.args_str_split_2 _ _) (meets_str_split_not_found z y t u h1 hy hf) ?_
   exact ⟨.ref s.heap.objs.size, _, I.laid (t' := s.toks) (o := .lst [.str z]) (fun b ob q => Heap.get?_push_of_some _ q) (Nat.le_refl _) ⟨by show 1 <= sizeLine; decide, _, 0, .cons ⟨t, rfl⟩ .nil, Heap.get?_push_size _ rfl⟩, rfl, q⟩
  | false =>
   have e : Txt.split z y = partsBetween z (occurrences z y 0 z.length (z.length + 1)) y.length := (if_neg (ne_true_of_eq_false h1)).trans (if_neg (ne_true_of_eq_false hf))
   rw [e] at q hle
   refine call_meets F.slot_str_split (typeIs_str _ _ _) F.entry_str_split (F.args_str_split_2 _ _) (meets_str_split_sep z y t u h1 hy hf hz0 hle) ?_
   exact ⟨.ref s.heap.objs.size, _, I.laid (o := .lst ((partsBetween z (occurrences z y 0 z.length (z.length + 1)) y.length).map V.str)) (fun b ob q => Heap.get?_push_of_some _ q) (Nat.le_refl _)
    ⟨by rw [List.length_map]; exact hle, _, 0, v_ _ _, Heap.get?_push_size _ rfl⟩, rfl, q⟩
theorem lu {v : Value} {o : Option Int} (p : IsPart v o) : ∃ l : Option (Int × Tok), v = partValue l /\ o = l.map (·.1) := by
 cases p with
 | none => exact ⟨none, rfl, rfl⟩
 | int i t => exact ⟨some (i, t), rfl, rfl⟩
theorem D6 : zT X (fun x lo hi H Q => ∃ z, x = .str z /\ z.length <= sizeLine /\ Q (.str (Txt.slice z lo hi)) H) := by
 intro pins s σ H x v vl vu lo hi sl Q I rx hs pl pu h
 obtain ⟨z, rfl, hz, q⟩ := h
 obtain ⟨t, rfl⟩ := rx
 obtain ⟨l, rfl, rfl⟩ := lu pl
 obtain ⟨u, rfl, rfl⟩ := lu pu
 refine ⟨"str", _, F.slot_str_getitem.lookup, typeIs_str _ _ _, wpAny_getItem_str_slice (l := l) (u := u) (st := none) hs rfl ?_⟩
 exact post_val_or_str ⟨Nat.le_trans (Txt.slice_le z _ _) hz, fun t' k => ⟨.str (Txt.slice z _ _), H, I.tok _, ⟨t', rfl⟩, q⟩⟩
end
theorem mem_of_lookup {β : Type} {y : Str} {v : β} : ∀ {l : List (Str × β)}, l.lookup y = some v -> (y, v) ∈ l
 | [], h => by simp at h
 | (x, u) :: r, h => by
  rw [List.lookup_cons] at h
  cases e : y == x with
  | true =>
   rw [e] at h
   have h1 := Option.some.inj h
   have h2 := eq_of_beq e
   subst h1 h2
   exact List.mem_cons_self
  | false =>
   rw [e] at h
   exact List.mem_cons_of_mem _ (mem_of_lookup h)
theorem m9 {X : Cx} {scope : Scope} {T : List Str} (hk : scope.kind = .function) (hc : closureFor scope X.env = pure []) (h1 : ∀ y ∈ scope.names, y.2 ≠ .cell) (h2 : ∀ y ∈ scope.names, y.2 ≠ .free)
  (h3 : ∀ y ∈ scope.names, y.2 = .local -> scope.names.lookup y.1 = some .local) : bV X scope [] T [] [] :=
 ⟨hk, hc, h1, h3, fun y c h => by simp at h, fun y h => absurd rfl (h2 _ (mem_of_lookup h)), .nil⟩
theorem pf {X : Cx} {scope : Scope} {T cn : List Str} {caps : List Nat} {cl : List (Str × Addr)} (hk : scope.kind = .function) (hc : closureFor scope X.env = pure cl) (h1 : ∀ y ∈ scope.names, y.2 ≠ .cell)
  (h2 : ∀ y ∈ scope.names, y.2 = .free -> (cl.lookup y.1).isSome = true) (h3 : ∀ y ∈ scope.names, y.2 = .local -> scope.names.lookup y.1 = some .local) (hs : ∀ p ∈ cl, X.env.cells.lookup p.1 = some p.2)
  (hp : Paired (fun (j : Nat) (y : Str) => X.N[j]? = some y /\ (X.env.kindOf y = some .cell \/ X.env.kindOf y = some .free) /\ scope.names.lookup y = some .free) caps cn) : bV X scope cl T caps cn :=
 ⟨hk, hc, h1, h3, fun y c h => hs (y, c) (mem_of_lookup h), fun y h => Option.isSome_iff_exists.mp (h2 _ (mem_of_lookup h) rfl), hp⟩
def del (H : Hp) (a : Addr) : Hp := fun b => if b = a then none else H b
theorem lV {H : Hp} {a : Addr} : del H a a = none := if_pos rfl
theorem cK {H : Hp} {a b : Addr} (h : b ≠ a) : del H a b = H b := if_neg h
section
variable {X : Cx} {pins : List (Addr × Obj)} {σ : St} {H : Hp} {s : Shared} {a : Addr} {ys : List V}
end
section
variable {X : Cx} {e : Expr} {te : TE} {tt : TT}
def pS (te : TE) : TE := fun σ H Q => ∃ D ys, H D = some (.lst ys) /\ te σ (del H D) fun y H4 => H4 D = none -> Q y (upd H4 D (.lst ys))
def pT (tt : TT) : TT := fun σ H Q => ∃ D ys, H D = some (.lst ys) /\ tt σ (del H D) fun b H4 => H4 D = none -> Q b (upd H4 D (.lst ys))
end
theorem oQ {H : Hp} {a : Addr} {o : HO} (h : H a = none) : del (upd H a o) a = H := by
 funext b
 unfold del upd
 by_cases hb : b = a
 ·rw [if_pos hb, hb, h]
 ·rw [if_neg hb, if_neg hb]
def cz (H : Hp) (a dx : Addr) : Hp := fun b => if b = a \/ b = dx then none else H b
def shown (H : Hp) (a dx C : Addr) (fs : List (Str × V)) : Hp := upd (upd H dx (.own a)) a (.ins C dx fs)
section
variable {X : Cx} {pins : List (Addr × Obj)} {σ : St} {H : Hp} {s : Shared} {a dx C : Addr} {fs : List (Str × V)}
theorem Inv.yF {o : HO} (I : Inv X pins σ H s) (e : H a = some o) : a ∉ X.fs /\ (∀ b o, X.s₀.heap.get? b = some o -> X.H₀ b = none -> b ∉ X.ex -> b ≠ a) /\ (∀ p ∈ X.pn ++ pins, p.1 ≠ a) /\ ∀ x c, X.env.cells.lookup x = some c -> c ≠ a := by
 refine ⟨fun hb => ?_, fun b o q n hx z => ?_, fun p hp z => ?_, fun x c q z => ?_⟩
 ·have h1 := I.ok.wG a hb
  obtain ⟨_, o, ho, _⟩ := I.ok.fu.mem hb
  have hx : a ∉ X.ex := fun hx => I.ok.qE a hx hb
  have := I.base.free a o ho h1 hx
  rw [e] at this
  cases this
 ·have := I.base.free b o q n hx
  rw [z, e] at this
  cases this
 ·have := (I.pin p hp).2.1
  rw [z, e] at this
  cases this
 ·have := I.b7 x c q
  rw [z, e] at this
  cases this
end
section
variable {X : Cx} {e : Expr} {te : TE} {st : Stmt} {ts : TS}
def BR (te : TE) : TE := fun σ H Q => ∃ a dx C fs, H a = some (.ins C dx fs) /\ te σ (cz H a dx) fun y H4 => H4 a = none -> H4 dx = none -> dx ≠ a -> Q y (shown H4 a dx C fs)
def BG (ts : TS) : TS := fun D σ H => ∃ a dx C fs, H a = some (.ins C dx fs) /\
 ts ⟨fun σ' H4 => H4 a = none -> H4 dx = none -> dx ≠ a -> D.nx σ' (shown H4 a dx C fs), fun v H4 => H4 a = none -> H4 dx = none -> dx ≠ a -> D.rt v (shown H4 a dx C fs),
  fun σ' H4 => H4 a = none -> H4 dx = none -> dx ≠ a -> D.bk σ' (shown H4 a dx C fs), fun σ' H4 => H4 a = none -> H4 dx = none -> dx ≠ a -> D.ct σ' (shown H4 a dx C fs)⟩ σ (cz H a dx)
theorem iD {H : Hp} {a dx C : Addr} {fs : List (Str × V)} (h1 : H a = none) (h2 : H dx = none) : cz (shown H a dx C fs) a dx = H := by
 funext b
 unfold cz shown upd
 by_cases hb : b = a
 ·rw [if_pos (.inl hb), hb, h1]
 ·by_cases hb2 : b = dx
  ·rw [if_pos (.inr hb2), hb2, h2]
  ·rw [if_neg (fun z => z.elim hb hb2), if_neg hb, if_neg hb2]
theorem v8 {H : Hp} {a dx C : Addr} {fs fs' : List (Str × V)} : upd (shown H a dx C fs) a (.ins C dx fs') = shown H a dx C fs' := jr
theorem jn {H : Hp} {a dx C : Addr} {fs : List (Str × V)} : shown H a dx C fs a = some (.ins C dx fs) := aI
end
def aY (H : Hp) (L : List Addr) : Hp := fun b => if b ∈ L then none else H b
def ai (H' H : Hp) (L : List Addr) : Hp := fun b => if b ∈ L then H b else H' b
theorem b9 {H : Hp} {L : List Addr} {b : Addr} (h : b ∈ L) : aY H L b = none := if_pos h
theorem ax {H : Hp} {L : List Addr} {b : Addr} (h : b ∉ L) : aY H L b = H b := if_neg h
theorem fT {H : Hp} {L : List Addr} {b : Addr} (h : H b = none) : aY H L b = none := by unfold aY; split <;> first | rfl | exact h
theorem j2 {H : Hp} {L : List Addr} {b : Addr} {o : HO} (h : aY H L b = some o) : b ∉ L /\ H b = some o := by
 unfold aY at h
 split at h
 ·cases h
 ·rename_i z; exact ⟨z, h⟩
theorem bD {H : Hp} {L : List Addr} : aJ (aY H L) H := fun b o h => (j2 h).2
theorem dF {H : Hp} : aY H [] = H := by funext b; exact if_neg (fun h => nomatch h)
theorem aX {H H' : Hp} {L : List Addr} {b : Addr} (h : b ∈ L) : ai H' H L b = H b := if_pos h
theorem aU {H H' : Hp} {L : List Addr} {b : Addr} (h : b ∉ L) : ai H' H L b = H' b := if_neg h
theorem bH {H H' : Hp} {L : List Addr} (h : ∀ b ∈ L, H' b = none) : aY (ai H' H L) L = H' := by
 funext b
 by_cases hb : b ∈ L
 ·rw [b9 hb, h b hb]
 ·rw [ax hb, aU hb]
inductive dR (H : Hp) (L : List Addr) (a : Addr) : Prop
 | lst (xs : List V) (h : H a = some (.lst xs))
 | dK (kvs : List (Key × V)) (h : H a = some (.dK kvs))
 | ins (C dx : Addr) (fs : List (Str × V)) (h : H a = some (.ins C dx fs)) (hd : dx ∈ L)
 | own (C b : Addr) (fs : List (Str × V)) (h : H a = some (.own b)) (hb : b ∈ L) (hi : H b = some (.ins C a fs))
section
variable {X : Cx} {pins : List (Addr × Obj)} {σ : St} {H : Hp} {s : Shared} {L : List Addr}
theorem dR.there {a : Addr} (h : dR H L a) : ∃ o, H a = some o := by cases h <;> exact ⟨_, by assumption⟩
theorem dR.qi {a : Addr} (h : dR H L a) : (∀ xs, H a ≠ some (.tup xs)) /\ (∀ o u, H a ≠ some (.gQ o u)) /\ (∀ ps, H a ≠ some (.BU ps)) /\ ∀ b, H a = some (.own b) -> b ∈ L := by
 cases h with
 | lst xs h => rw [h]; exact ⟨fun _ q => (nomatch q), fun _ _ q => (nomatch q), fun _ q => (nomatch q), fun _ q => (nomatch q)⟩
 | dK xs h => rw [h]; exact ⟨fun _ q => (nomatch q), fun _ _ q => (nomatch q), fun _ q => (nomatch q), fun _ q => (nomatch q)⟩
 | ins C dx fs h hd => rw [h]; exact ⟨fun _ q => (nomatch q), fun _ _ q => (nomatch q), fun _ q => (nomatch q), fun _ q => (nomatch q)⟩
 | own C b fs h hb hi => rw [h]; exact ⟨fun _ q => (nomatch q), fun _ _ q => (nomatch q), fun _ q => (nomatch q), fun c q => by cases q; exact hb⟩
theorem dR.obj {a : Addr} (h : dR H L a) (I : Inv X pins σ H s) : ∃ o, s.heap.get? a = some o /\ ∀ v, o.data ≠ .cell v := by
 cases h with
 | lst xs h =>
  obtain ⟨_, its, n, _, ho⟩ := (show aQ X.prog X.w H s.heap a (.lst xs) from I.ao a _ h)
  exact ⟨_, ho, fun v q => by cases q⟩
 | dK kvs h =>
  obtain ⟨_, _, vs, _, ob, es, ep, e, c⟩ := (show aQ X.prog X.w H s.heap a (.dK kvs) from I.ao a _ h)
  exact ⟨_, e, fun v q => by rw [c.2.1] at q; cases q⟩
 | ins C dx fs h hd =>
  obtain ⟨_, _, _, e, _⟩ := (show aQ X.prog X.w H s.heap a (.ins C dx fs) from I.ao a _ h)
  exact ⟨_, e, fun v q => by cases q⟩
 | own C b fs h hb hi =>
  obtain ⟨_, _, _, _, mA, ⟨od, es, ep, e2, c⟩, r⟩ := (show aQ X.prog X.w H s.heap b (.ins C a fs) from I.ao b _ hi)
  exact ⟨_, e2, fun v q => by rw [c.1] at q; cases q⟩
theorem j1 {G : Prop} (I : Inv X pins σ H s) (hL : ∀ a ∈ L, dR H L a)
  (h : ∀ pl : List (Addr × Obj), Inv X (pins ++ pl) σ (aY H L) s -> (∀ b ∈ L, ∃ o, (b, o) ∈ pl) -> (∀ (σ' : St) (H' : Hp) (s' : Shared), Inv X (pins ++ pl) σ' H' s' -> (∀ b ∈ L, H' b = none) /\ Inv X pins σ' (ai H' H L) s') -> G) : G := by
 have memL : ∀ {b : Addr} {o : Obj}, (b, o) ∈ iw L s.heap ↔ b ∈ L /\ s.heap.get? b = some o := fun {b o} => ⟨fun q => j8 q, fun q => d8 q.1 q.2⟩
 refine h (iw L s.heap) ?_ (fun b hb => let ⟨o, e, _⟩ := (hL b hb).obj I; ⟨o, memL.mpr ⟨hb, e⟩⟩) fun σ' H' s' J => ?_
 ·refine ⟨I.ok, I.os, I.bare, ⟨I.base.keep, I.base.slot, fun b o q n hx => fT (I.base.free b o q n hx), I.base.there, fun b xs q => ?_, fun b o u q => ?_, fun b ps q => ?_⟩, I.loc, I.cell, fT I.free, fun x c q => fT (I.b7 x c q), fun p hp => ?_, fun b o q => ?_, I.len⟩
  ·have z := I.base.fN b xs q
   rw [ax (fun w => (hL b w).qi.1 _ z)]; exact z
  ·have z := I.base.dH b o u q
   rw [ax (fun w => (hL b w).qi.2.1 _ _ z)]; exact z
  ·obtain ⟨more, z⟩ := I.base.hW b ps q
   exact ⟨more, by rw [ax (fun w => (hL b w).qi.2.2.1 _ z)]; exact z⟩
  ·rw [<- List.append_assoc] at hp
   rcases List.mem_append.mp hp with z | z
   ·obtain ⟨p1, p2, p3, p4, p5⟩ := I.pin p z
    exact ⟨p1, fT p2, p3, p4, p5⟩
   ·obtain ⟨z1, z2⟩ := j8 z
    obtain ⟨o, e⟩ := (hL p.1 z1).there
    refine ⟨z2, b9 z1, fun w => ?_, (I.yF e).1, fun v q => ?_⟩
    ·have f := I.free
     rw [<- w, e] at f
     cases f
    ·obtain ⟨ob, e2, nc⟩ := (hL p.1 z1).obj I
     rw [z2] at e2
     cases e2
     exact nc v q
  ·obtain ⟨hb, q⟩ := j2 q
   refine (I.ao b o q).kH (fun _ _ _ z => z) (fun c hc => ?_) (fun c xs hc => ?_)
   ·rw [ax (fun w => hb ((hL c w).qi.2.2.2 _ hc))]; exact hc
   ·rw [ax (fun w => (hL c w).qi.1 _ hc)]; exact hc
 ·have pin : ∀ b ∈ L, H' b = none /\ ∀ o, s.heap.get? b = some o -> s'.heap.get? b = some o := fun b hb => by
   obtain ⟨o, e, _⟩ := (hL b hb).obj I
   obtain ⟨g1, g2, _⟩ := J.pin (b, o) (List.mem_append_right _ (List.mem_append_right _ (memL.mpr ⟨hb, e⟩)))
   exact ⟨g2, fun o' e' => by rw [e] at e'; cases e'; exact g1⟩
  refine ⟨fun b hb => (pin b hb).1, ⟨J.ok, J.os, J.bare, ⟨J.base.keep, J.base.slot, fun b o q n hx => ?_, J.base.there, fun b xs q => ?_, fun b o u q => ?_, fun b ps q => ?_⟩, J.loc, J.cell, ?_, fun x c q => ?_, fun p hp => ?_, fun b o q => ?_, J.len⟩⟩
  ·rw [aU (fun w => let ⟨o', e⟩ := (hL b w).there; (I.yF e).2.1 b o q n hx rfl)]
   exact J.base.free b o q n hx
  ·have z := J.base.fN b xs q
   rw [aU (fun w => by rw [(pin b w).1] at z; cases z)]; exact z
  ·have z := J.base.dH b o u q
   rw [aU (fun w => by rw [(pin b w).1] at z; cases z)]; exact z
  ·obtain ⟨more, z⟩ := J.base.hW b ps q
   exact ⟨more, by rw [aU (fun w => by rw [(pin b w).1] at z; cases z)]; exact z⟩
  ·rw [aU (fun w => let ⟨o', e⟩ := (hL _ w).there; by rw [I.free] at e; cases e)]
   exact J.free
  ·rw [aU (fun w => let ⟨o', e⟩ := (hL _ w).there; by rw [I.b7 x c q] at e; cases e)]
   exact J.b7 x c q
  ·obtain ⟨p1, p2, p3, p4, p5⟩ := J.pin p (by rw [<- List.append_assoc]; exact List.mem_append_left _ hp)
   refine ⟨p1, ?_, p3, p4, p5⟩
   rw [aU (fun w => let ⟨o', e⟩ := (hL _ w).there; (I.yF e).2.2.1 p hp rfl)]
   exact p2
  ·by_cases hb : b ∈ L
   ·rw [aX hb] at q
    have k := (pin b hb).2
    have w := hL b hb
    cases w with
    | lst xs h =>
     rw [h] at q; cases q
     obtain ⟨hz, its, n, hv, ho⟩ := (show aQ X.prog X.w H s.heap b (.lst xs) from I.ao b _ h)
     exact ⟨hz, its, n, hv, k _ ho⟩
    | dK kvs h =>
     rw [h] at q; cases q
     obtain ⟨z1, z2, vs, hv, ob, es, ep, e, c⟩ := (show aQ X.prog X.w H s.heap b (.dK kvs) from I.ao b _ h)
     exact ⟨z1, z2, vs, hv, ob, es, ep, k _ e, c⟩
    | ins C dx fs h hd =>
     rw [h] at q; cases q
     obtain ⟨d, z, ne, ea, mA, ⟨od, es, ep, e2, c⟩, r⟩ := (show aQ X.prog X.w H s.heap b (.ins C dx fs) from I.ao b _ h)
     exact ⟨by rw [aX hd]; exact d, z, ne, k _ ea, mA, ⟨od, es, ep, (pin dx hd).2 _ e2, c⟩, r⟩
    | own C a fs h ha hi =>
     rw [h] at q; cases q
     obtain ⟨o, e⟩ := (show aQ X.prog X.w H s.heap b (.own a) from I.ao b _ h)
     exact ⟨o, k _ e⟩
   ·rw [aU hb] at q
    refine (J.ao b o q).kH (fun _ _ _ z => z) (fun c hc => ?_) (fun c xs hc => ?_)
    ·rw [aU (fun w => by rw [(pin c w).1] at hc; cases hc)]; exact hc
    ·rw [aU (fun w => by rw [(pin c w).1] at hc; cases hc)]; exact hc
end
section
variable {X : Cx} {e : Expr} {te : TE} {tt : TT} {st : Stmt} {ts : TS} {tg iter : Expr} {wi : TI}
def Il (te : TE) : TE := fun σ H Q => ∃ L, (∀ a ∈ L, dR H L a) /\ te σ (aY H L) fun y H4 => (∀ b ∈ L, H4 b = none) -> Q y (ai H4 H L)
theorem ir (he : PE X e te) : PE X e (Il te) := by
 intro pins s σ H Q I ⟨L, hL, q⟩
 refine j1 I hL fun pl I' _ back => ?_
 refine bE (he (pins ++ pl) s σ _ _ I' q) fun v s1 ⟨y, H4, I4, r, k⟩ => ?_
 obtain ⟨z, J⟩ := back _ _ _ I4
 exact ⟨y, _, J, r, k z⟩
def Ip (tt : TT) : TT := fun σ H Q => ∃ L, (∀ a ∈ L, dR H L a) /\ tt σ (aY H L) fun y H4 => (∀ b ∈ L, H4 b = none) -> Q y (ai H4 H L)
def oX (D : Ends) (H : Hp) (L : List Addr) : Ends := ⟨fun σ' H4 => (∀ b ∈ L, H4 b = none) -> D.nx σ' (ai H4 H L), fun v H4 => (∀ b ∈ L, H4 b = none) -> D.rt v (ai H4 H L),
 fun σ' H4 => (∀ b ∈ L, H4 b = none) -> D.bk σ' (ai H4 H L), fun σ' H4 => (∀ b ∈ L, H4 b = none) -> D.ct σ' (ai H4 H L)⟩
def G7 (ts : TS) : TS := fun D σ H => ∃ L, (∀ a ∈ L, dR H L a) /\ ts (oX D H L) σ (aY H L)
theorem uS {pins pl : List (Addr × Obj)} {D : Ends} {H : Hp} {L : List Addr} {f : Flow} {s1 : Shared} (back : ∀ (σ' : St) (H' : Hp) (s' : Shared), Inv X (pins ++ pl) σ' H' s' -> (∀ b ∈ L, H' b = none) /\ Inv X pins σ' (ai H' H L) s')
  (hq : SP X (pins ++ pl) (oX D H L) f s1) : SP X pins D f s1 := by
 cases f with
 | next => obtain ⟨σ', H', J, k⟩ := hq; obtain ⟨z, J'⟩ := back _ _ _ J; exact ⟨σ', _, J', k z⟩
 | brk => obtain ⟨σ', H', J, k⟩ := hq; obtain ⟨z, J'⟩ := back _ _ _ J; exact ⟨σ', _, J', k z⟩
 | cont => obtain ⟨σ', H', J, k⟩ := hq; obtain ⟨z, J'⟩ := back _ _ _ J; exact ⟨σ', _, J', k z⟩
 | ret u => obtain ⟨v, σ', H', J, r, k⟩ := hq; obtain ⟨z, J'⟩ := back _ _ _ J; exact ⟨v, σ', _, J', r, k z⟩
theorem yc (he : PS X st ts) : PS X st (G7 ts) := by
 intro pins s σ H D I ⟨L, hL, q⟩
 refine j1 I hL fun pl I' _ back => ?_
 exact bE (he (pins ++ pl) s σ _ _ I' q) fun f s1 hq => uS back hq
theorem A5 {rest : List Stmt} (he : hX X rest ts) : hX X rest (G7 ts) := by
 intro pins s σ H D I ⟨L, hL, q⟩
 refine j1 I hL fun pl I' _ back => ?_
 exact bE (he (pins ++ pl) s σ _ _ I' q) fun f s1 hq => uS back hq
def Io (wi : TI) : TI := fun σ H R => ∃ L, (∀ a ∈ L, dR H L a) /\ wi σ (aY H L) fun J H4 => (∀ b ∈ L, H4 b = none) -> R J (ai H4 H L)
theorem Dt (he : PI X tg iter wi) : PI X tg iter (Io wi) := by
 intro pins s σ H R I ⟨L, hL, q⟩
 refine j1 I hL fun pl I' hpl back => ?_
 refine bE (he (pins ++ pl) s σ _ _ I' q) fun v s1 h1 => bE h1 fun itv s2 ⟨it, fp, tn, J, H', e1, I2, T, t0, hf, k⟩ => ?_
 obtain ⟨z, J2⟩ := back _ _ _ I2
 have hn : ∀ b ∈ fp, b ∉ L := fun b hb hl => let ⟨o, ho⟩ := hpl b hl; (hf b hb).2.2.2.2.2 (b, o) (List.mem_append_right _ (List.mem_append_right _ ho)) rfl
 refine ⟨it, fp, tn, J, _, e1, J2, T, t0, fun b hb => ?_, k z⟩
 obtain ⟨f1, f2, f3, f4, f5, f6⟩ := hf b hb
 exact ⟨by rw [aU (hn b hb)]; exact f1, f2, f3, f4, f5, fun p hp => f6 p (by rw [<- List.append_assoc]; exact List.mem_append_left _ hp)⟩
end
theorem qK {H : Hp} {a : Addr} : aY H [a] = del H a := by
 funext b
 by_cases h : b = a
 ·rw [h, b9 List.mem_cons_self, lV]
 ·rw [ax (fun z => h (List.mem_singleton.mp z)), cK h]
theorem nS {H H' : Hp} {a : Addr} {o : HO} (e : H a = some o) : ai H' H [a] = upd H' a o := by
 funext b
 by_cases h : b = a
 ·rw [h, aX List.mem_cons_self, aI, e]
 ·rw [aU (fun z => h (List.mem_singleton.mp z)), aH h]
theorem qL {H : Hp} {a dx : Addr} : aY H [a, dx] = cz H a dx := by
 funext b
 unfold aY cz
 simp
theorem nU {H H' : Hp} {a dx C : Addr} {fs : List (Str × V)} (ea : H a = some (.ins C dx fs)) (ed : H dx = some (.own a)) : ai H' H [a, dx] = shown H' a dx C fs := by
 funext b
 unfold shown
 by_cases h : b = a
 ·rw [h, aX List.mem_cons_self, aI, ea]
 ·rw [aH h]
  by_cases h2 : b = dx
  ·rw [h2, aX (List.mem_cons_of_mem _ List.mem_cons_self), aI, ed]
  ·rw [aU (fun z => by simp at z; exact z.elim h h2), aH h2]
section
variable {X : Cx} {e : Expr} {te : TE} {tt : TT} {st : Stmt} {ts : TS}
theorem fY (he : PE X e te) : PE X e (pS te) := fun pins s σ H Q I ⟨D, ys, hD, q⟩ =>
 ir he pins s σ H Q I ⟨[D], fun a ha => by rw [List.mem_singleton.mp ha]; exact .lst ys hD, by rw [qK]; simpa only [nS hD, List.mem_singleton, forall_eq] using q⟩
theorem A7 {ifs : List Expr} (he : tO X ifs tt) : tO X ifs (Ip tt) := by
 intro pins s σ H Q I ⟨L, hL, q⟩
 refine j1 I hL fun pl I' _ back => ?_
 refine bE (he (pins ++ pl) s σ _ _ I' q) fun v s1 ⟨H4, I4, k⟩ => ?_
 obtain ⟨z, J⟩ := back _ _ _ I4
 exact ⟨_, J, k z⟩
theorem eD {ifs : List Expr} (he : tO X ifs tt) : tO X ifs (pT tt) := fun pins s σ H Q I ⟨D, ys, hD, q⟩ =>
 A7 he pins s σ H Q I ⟨[D], fun a ha => by rw [List.mem_singleton.mp ha]; exact .lst ys hD, by rw [qK]; simpa only [nS hD, List.mem_singleton, forall_eq] using q⟩
theorem zB {pins : List (Addr × Obj)} {σ : St} {H : Hp} {s : Shared} {a dx C : Addr} {fs : List (Str × V)} (I : Inv X pins σ H s) (ha : H a = some (.ins C dx fs)) : H dx = some (.own a) /\ dx ≠ a /\ ∀ b ∈ [a, dx], dR H [a, dx] b := by
 obtain ⟨d, _, ne, _⟩ := (show aQ X.prog X.w H s.heap a (.ins C dx fs) from I.ao a _ ha)
 refine ⟨d, ne, fun b hb => ?_⟩
 rcases List.mem_cons.mp hb with rfl | hb
 ·exact .ins C dx fs ha (by simp)
 ·rw [List.mem_singleton.mp hb]; exact .own C a fs d (by simp) ha
theorem sM (he : PE X e te) : PE X e (BR te) := fun pins s σ H Q I ⟨a, dx, C, fs, ha, q⟩ => by
 obtain ⟨d, ne, ok⟩ := zB I ha
 refine ir he pins s σ H Q I ⟨[a, dx], ok, ?_⟩
 rw [qL]
 simp only [nU ha d, List.mem_cons, List.not_mem_nil, or_false, forall_eq_or_imp, forall_eq]
 exact (show (fun y H4 => H4 a = none -> H4 dx = none -> dx ≠ a -> Q y (shown H4 a dx C fs)) = fun y H4 => H4 a = none /\ H4 dx = none -> Q y (shown H4 a dx C fs) by funext y H4; simp [ne]) ▸ q
theorem sP (he : PS X st ts) : PS X st (BG ts) := fun pins s σ H D I ⟨a, dx, C, fs, ha, q⟩ => by
 obtain ⟨d, ne, ok⟩ := zB I ha
 refine yc he pins s σ H D I ⟨[a, dx], ok, ?_⟩
 rw [qL]
 have e : oX D H [a, dx] = ⟨fun σ' H4 => H4 a = none -> H4 dx = none -> dx ≠ a -> D.nx σ' (shown H4 a dx C fs), fun v H4 => H4 a = none -> H4 dx = none -> dx ≠ a -> D.rt v (shown H4 a dx C fs),
  fun σ' H4 => H4 a = none -> H4 dx = none -> dx ≠ a -> D.bk σ' (shown H4 a dx C fs), fun σ' H4 => H4 a = none -> H4 dx = none -> dx ≠ a -> D.ct σ' (shown H4 a dx C fs)⟩ := by
  unfold oX
  simp [nU ha d, ne]
 rw [e]
 exact q
end
end L2
namespace DC
open PySem PySem.Spec PyProof.Rows L2
inductive D where
 | aW | bl (b : Bool) | int (i : Int) | str (x : Str)
 | lst (xs : List D) | tup (xs : List D)
 | obj (C : Addr) (fs : List (Str × D))
 | dK (kvs : List (Key × D)) | dT (kvs : List (List Key × D))
 | adr (a : Addr)
 | exc (a C : Addr) (fs : List (Str × D))
def jv (a C : Addr) (dx : Option Addr) : HO := .ext fun h => ∃ oe vs, h.get? a = some oe /\ oe.cls = .ref C /\ oe.dict = dx /\ oe.data = .fields vs /\ vs[2]? = some .none
def mx (d : Addr) (fs : List (Str × V)) : HO := .ext fun h => ∃ mA, h.Ns1 d mA /\ (∀ f, d0 (fs.lookup f) (mA f)) /\ PySem.Within mA (fs.map (·.1))
def d4 (H : Hp) (dx : Option Addr) (fs : List (Str × V)) : Prop := match dx with
 | none => fs = []
 | some d => Rd H d (mx d fs)
theorem gB {H H' : Hp} {a : Addr} {u : HO} (s : aJ H H') (r : Rd H a u) : Rd H' a u := by
 rcases r with r | ⟨o, r⟩
 ·exact .inl (s _ _ r)
 ·exact .inr ⟨o, s _ _ r⟩
theorem d4.same {H H' : Hp} {dx : Option Addr} {fs : List (Str × V)} (s : aJ H H') (h : d4 H dx fs) : d4 H' dx fs := by
 cases dx with
 | none => exact h
 | some d => exact gB s h
mutual
inductive Dv (K : PySem.W.Frag) (H : Hp) : V -> D -> Prop
 | aW : Dv K H .aW .aW
 | bl (b : Bool) : Dv K H (.bl b) (.bl b)
 | int (i : Int) : Dv K H (.int i) (.int i)
 | str (x : Str) : Dv K H (.str x) (.str x)
 | lst {a : Addr} {xs : List V} {ds : List D} : ck K H a xs -> au K H xs ds -> Dv K H (.ref a) (.lst ds)
 | tup {a : Addr} {xs : List V} {ds : List D} : eT K H a xs -> au K H xs ds -> Dv K H (.ref a) (.tup ds)
 | obj {a C dx : Addr} {fs : List (Str × V)} {gs : List (Str × D)} : Rd H a (.ins C dx fs) -> dQ K H fs gs -> Dv K H (.ref a) (.obj C gs)
 | dK {a : Addr} {kvs : List (Key × V)} {gs : List (Key × D)} : Rd H a (.dK kvs) -> dz K H kvs gs -> Dv K H (.ref a) (.dK gs)
 | dT {a : Addr} {kvs : List (List Key × V)} {gs : List (List Key × D)} : Rd H a (.dT kvs) -> tK K H kvs gs -> Dv K H (.ref a) (.dT gs)
 | adr (a : Addr) : Dv K H (.ref a) (.adr a)
 | exc {a C : Addr} {dx : Option Addr} {fs : List (Str × V)} {gs : List (Str × D)} : Rd H a (jv a C dx) -> d4 H dx fs -> dQ K H fs gs -> Dv K H (.ref a) (.exc a C gs)
inductive au (K : PySem.W.Frag) (H : Hp) : List V -> List D -> Prop
 | nil : au K H [] []
 | cons {x : V} {d : D} {xs : List V} {ds : List D} : Dv K H x d -> au K H xs ds -> au K H (x :: xs) (d :: ds)
inductive dQ (K : PySem.W.Frag) (H : Hp) : List (Str × V) -> List (Str × D) -> Prop
 | nil : dQ K H [] []
 | cons {k : Str} {x : V} {d : D} {xs : List (Str × V)} {ds : List (Str × D)} : Dv K H x d -> dQ K H xs ds -> dQ K H ((k, x) :: xs) ((k, d) :: ds)
inductive dz (K : PySem.W.Frag) (H : Hp) : List (Key × V) -> List (Key × D) -> Prop
 | nil : dz K H [] []
 | cons {k : Key} {x : V} {d : D} {xs : List (Key × V)} {ds : List (Key × D)} : Dv K H x d -> dz K H xs ds -> dz K H ((k, x) :: xs) ((k, d) :: ds)
inductive tK (K : PySem.W.Frag) (H : Hp) : List (List Key × V) -> List (List Key × D) -> Prop
 | nil : tK K H [] []
 | cons {k : List Key} {x : V} {d : D} {xs : List (List Key × V)} {ds : List (List Key × D)} : Dv K H x d -> tK K H xs ds -> tK K H ((k, x) :: xs) ((k, d) :: ds)
end
theorem kh {K : PySem.W.Frag} {H H' : Hp} {a : Addr} {xs : List V} (e : aJ H H') (h : eT K H a xs) : eT K H' a xs := by
 rcases h with (h | ⟨o, h⟩) | h
 ·exact .inl (.inl (e _ _ h))
 ·exact .inl (.inr ⟨o, e _ _ h⟩)
 ·exact .inr h
section
variable {K : PySem.W.Frag} {H H' : Hp}
mutual
theorem Dv.same (s : aJ H H') : ∀ {v : V} {d : D}, Dv K H v d -> Dv K H' v d
 | _, _, .aW => .aW
 | _, _, .bl b => .bl b
 | _, _, .int i => .int i
 | _, _, .str x => .str x
 | _, _, .lst h1 h2 => .lst (s.seq h1) (au.same s h2)
 | _, _, .tup h1 h2 => .tup (kh s h1) (au.same s h2)
 | _, _, .obj h1 h2 => .obj (gB s h1) (dQ.same s h2)
 | _, _, .dK h1 h2 => .dK (gB s h1) (dz.same s h2)
 | _, _, .dT h1 h2 => .dT (gB s h1) (tK.same s h2)
 | _, _, .adr a => .adr a
 | _, _, .exc h1 h2 h3 => .exc (gB s h1) (h2.same s) (dQ.same s h3)
theorem au.same (s : aJ H H') : ∀ {vs : List V} {ds : List D}, au K H vs ds -> au K H' vs ds
 | _, _, .nil => .nil
 | _, _, .cons h1 h2 => .cons (Dv.same s h1) (au.same s h2)
theorem dQ.same (s : aJ H H') : ∀ {vs : List (Str × V)} {ds : List (Str × D)}, dQ K H vs ds -> dQ K H' vs ds
 | _, _, .nil => .nil
 | _, _, .cons h1 h2 => .cons (Dv.same s h1) (dQ.same s h2)
theorem dz.same (s : aJ H H') : ∀ {vs : List (Key × V)} {ds : List (Key × D)}, dz K H vs ds -> dz K H' vs ds
 | _, _, .nil => .nil
 | _, _, .cons h1 h2 => .cons (Dv.same s h1) (dz.same s h2)
theorem tK.same (s : aJ H H') : ∀ {vs : List (List Key × V)} {ds : List (List Key × D)}, tK K H vs ds -> tK K H' vs ds
 | _, _, .nil => .nil
 | _, _, .cons h1 h2 => .cons (Dv.same s h1) (tK.same s h2)
end
theorem au.length : ∀ {vs : List V} {ds : List D}, au K H vs ds -> vs.length = ds.length
 | _, _, .nil => rfl
 | _, _, .cons _ h => congrArg (· + 1) (au.length h)
theorem au.get : ∀ {vs : List V} {ds : List D} {i : Nat} {d : D}, au K H vs ds -> ds[i]? = some d -> ∃ v, vs[i]? = some v /\ Dv K H v d
 | _, _, _, _, .nil, e => by simp at e
 | _, _, 0, _, .cons h _, e => by simp at e; subst e; exact ⟨_, rfl, h⟩
 | _, _, i + 1, d, .cons _ h, e => by
  obtain ⟨v, h1, h2⟩ := au.get (i := i) (d := d) h (by simpa using e)
  exact ⟨v, by simpa using h1, h2⟩
theorem au.xT : ∀ {vs : List V} {ds : List D} {i : Nat} {v : V}, au K H vs ds -> vs[i]? = some v -> ∃ d, ds[i]? = some d /\ Dv K H v d
 | _, _, _, _, .nil, e => by simp at e
 | _, _, 0, _, .cons h _, e => by simp at e; subst e; exact ⟨_, rfl, h⟩
 | _, _, i + 1, v, .cons _ h, e => by
  obtain ⟨d, h1, h2⟩ := au.xT (i := i) (v := v) h (by simpa using e)
  exact ⟨d, by simpa using h1, h2⟩
theorem au.append : ∀ {vs ws : List V} {ds es : List D}, au K H vs ds -> au K H ws es -> au K H (vs ++ ws) (ds ++ es)
 | _, _, _, _, .nil, h => h
 | _, _, _, _, .cons a r, h => .cons a (au.append r h)
theorem au.take : ∀ {vs : List V} {ds : List D} (n : Nat), au K H vs ds -> au K H (vs.take n) (ds.take n)
 | _, _, 0, _ => .nil
 | _, _, _ + 1, .nil => .nil
 | _, _, n + 1, .cons r t => .cons r (au.take n t)
theorem au.drop : ∀ {vs : List V} {ds : List D} (n : Nat), au K H vs ds -> au K H (vs.drop n) (ds.drop n)
 | _, _, 0, r => r
 | _, _, _ + 1, .nil => .nil
 | _, _, n + 1, .cons _ t => au.drop n t
theorem dQ.look : ∀ {fs : List (Str × V)} {gs : List (Str × D)} {f : Str} {d : D}, dQ K H fs gs -> gs.lookup f = some d -> ∃ v, fs.lookup f = some v /\ Dv K H v d
 | _, _, _, _, .nil, e => by simp at e
 | _, _, f, d, .cons (k := k) h r, e => by
  rw [List.lookup_cons] at e ⊢
  cases q : f == k with
  | true =>
   rw [q] at e
   cases e
   exact ⟨_, rfl, h⟩
  | false =>
   rw [q] at e
   exact dQ.look r e
theorem dQ.none : ∀ {fs : List (Str × V)} {gs : List (Str × D)} {f : Str}, dQ K H fs gs -> gs.lookup f = Option.none -> fs.lookup f = Option.none
 | _, _, _, .nil, _ => rfl
 | _, _, f, .cons (k := k) h r, e => by
  rw [List.lookup_cons] at e ⊢
  cases q : f == k with
  | true => rw [q] at e; cases e
  | false =>
   rw [q] at e
   exact dQ.none r e
end
section
variable {X : Cx} {pins : List (Addr × Obj)} {σ : L2.St} {H : Hp} {s : Shared} {a C dx : Addr} {fs : List (Str × V)} {f : Str} {v : V} {A : Around} {E : Value -> Shared -> Prop}
theorem lp {P : Program} {w : World} {h : Heap} (ao : cf P w H h) (e : Rd H a (.ins C dx fs)) : ∃ mA, pX h a dx C mA /\ (∀ f, d0 (fs.lookup f) (mA f)) /\ PySem.Within mA (fs.map (·.1)) /\ fs.length <= 1000 /\ H dx = some (.own a) := by
 obtain ⟨d, z, ne, ob, mA, n, r, q⟩ := (show aQ P w H h a (.ins C dx fs) from e.ok ao)
 exact ⟨mA, ⟨ob, n, ne⟩, r, q, z, d⟩
theorem qH {b : Bool} {Q : Value -> Shared -> Prop} (I : Inv X pins σ H s) (e : Rd H a (.ins C dx fs)) (c : pV X.K C) (n : dG X.K C f) (l : fs.lookup f = some v)
  (h : ∀ u s', Inv X pins σ H s' -> RelV v u -> Q u s') : wpAny (model X.prog X.w) A (getAttr (.ref a) f b) Q E s := by
 obtain ⟨mA, O, r, _, _, _⟩ := lp I.ao e
 obtain ⟨u, hu, ru⟩ := d0.some_of (v := v) (o := mA f) (by rw [<- l]; exact r f)
 exact get_map I.iN O (c.get f) c.hd n hu (nE ru) (h u _ (I.tok _) ru)
theorem gi {m : Str} {g : Addr} {pl : Sem Bool} {Q : Value × List Value -> Shared -> Prop} (I : Inv X pins σ H s) (e : Rd H a (.ins C dx fs)) (c : pV X.K C) (k : Meth X.K C m g) (l : fs.lookup m = none)
  (h : Q (.ref g, [.ref a]) s) : wpAny (model X.prog X.w) A (getMethod (.ref a) m pl) Q E s := by
 obtain ⟨mA, O, r, _, _, _⟩ := lp I.ao e
 have hn : mA m = none := d0.none_of (by rw [<- l]; exact r m)
 exact xU I.iN O (c.get m) k.at_ k.fn hn h
def GJ (K : PySem.W.Frag) (ta : TE) (f : Str) : TE := fun σ H Q => ta σ H fun x H1 => ∃ a C dx fs v, x = .ref a /\ Rd H1 a (.ins C dx fs) /\ pV K C /\ dG K C f /\ fs.lookup f = some v /\ Q v H1
theorem Ax {e : Expr} {ta : TE} {pos : Pos} (he : PE X e ta) (hb : attributeBase e f X.env (eval e X.env) = eval e X.env) : PE X (.Attribute e f pos) (GJ X.K ta f) := by
 intro pins s σ H Q I h
 refine tP hb (bE (he pins s σ H _ I h) fun u s1 ⟨x, H1, I1, rx, a, C, dx, fs, v, ex, ea, c, n, l, q⟩ => ?_)
 subst ex
 obtain rfl : u = Value.ref a := rx
 exact qH I1 ea c n l fun u' s2 I2 ru => ⟨v, H1, I2, ru, q⟩
end
abbrev SD := List (Option D)
abbrev ED := SD -> (D -> Prop) -> Prop
abbrev TD := SD -> (Bool -> Prop) -> Prop
abbrev AD := SD -> (List D -> Prop) -> Prop
structure ay (K : PySem.W.Frag) (H : Hp) (σ : L2.St) (δ : SD) : Prop where
 len : σ.length = δ.length
 get : ∀ (i : Nat) (d : D), δ[i]? = some (some d) -> ∃ v, σ[i]? = some (some v) /\ Dv K H v d
theorem ay.same {K : PySem.W.Frag} {H H' : Hp} {σ : L2.St} {δ : SD} (r : ay K H σ δ) (s : aJ H H') : ay K H' σ δ :=
 ⟨r.len, fun i d h => let ⟨v, h1, h2⟩ := r.get i d h; ⟨v, h1, h2.same s⟩⟩
theorem ay.set {K : PySem.W.Frag} {H : Hp} {σ : L2.St} {δ : SD} (r : ay K H σ δ) {v : V} {d : D} (i : Nat) (h : Dv K H v d) : ay K H (σ.set i (some v)) (δ.set i (some d)) := by
 refine ⟨by rw [List.length_set, List.length_set]; exact r.len, fun j e hj => ?_⟩
 rw [List.getElem?_set] at hj ⊢
 split at hj
 ·rename_i q
  subst q
  have hl := r.len
  split at hj
  ·rename_i q2
   cases hj
   exact ⟨v, by rw [if_pos rfl, if_pos (by omega)], h⟩
  ·cases hj
 ·rename_i q
  rw [if_neg q]
  exact r.get j e hj
def kD (K : PySem.W.Frag) (H : Hp) (Q : VK) : D -> Prop := fun d => ∀ v H', aJ H H' -> Dv K H' v d -> Q v H'
def kB (H : Hp) (Q : Bool -> Hp -> Prop) : Bool -> Prop := fun b => ∀ H', aJ H H' -> Q b H'
def kA (K : PySem.W.Frag) (H : Hp) (Q : List V -> Hp -> Prop) : List D -> Prop := fun ds => ∀ vs H', aJ H H' -> au K H' vs ds -> Q vs H'
theorem kD.on {K : PySem.W.Frag} {H H1 : Hp} {Q : VK} {d : D} (s : aJ H H1) (h : kD K H Q d) : kD K H1 Q d := fun v H' s' dv => h v H' (s.trans s') dv
theorem kB.on {H H1 : Hp} {Q : Bool -> Hp -> Prop} {b : Bool} (s : aJ H H1) (h : kB H Q b) : kB H1 Q b := fun H' s' => h H' (s.trans s')
def oE (K : PySem.W.Frag) (t : ED) : TE := fun σ H Q => ∃ δ, ay K H σ δ /\ t δ (kD K H Q)
def oT (K : PySem.W.Frag) (t : TD) : TT := fun σ H Q => ∃ δ, ay K H σ δ /\ t δ (kB H Q)
def oA (K : PySem.W.Frag) (t : AD) : TA := fun σ H Q => ∃ δ, ay K H σ δ /\ t δ (kA K H Q)
abbrev aw (t : ED) : Prop := ∀ δ (P P' : D -> Prop), (∀ d, P d -> P' d) -> t δ P -> t δ P'
structure PD (X : Cx) (e : Expr) (t : ED) : Prop where
 pe : PE X e (oE X.K t)
 mono : aw t
structure jt (X : Cx) (e : Expr) (t : TD) : Prop where
 pt : PT X e (oT X.K t)
 mono : ∀ δ (P P' : Bool -> Prop), (∀ d, P d -> P' d) -> t δ P -> t δ P'
structure kN (X : Cx) (e : Expr) (t : TD) : Prop where
 pw : PW X e (oT X.K t)
 mono : ∀ δ (P P' : Bool -> Prop), (∀ d, P d -> P' d) -> t δ P -> t δ P'
structure jE (X : Cx) (es : List Expr) (t : AD) : Prop where
 pa : PA X es (oA X.K t)
 mono : ∀ δ (P P' : List D -> Prop), (∀ d, P d -> P' d) -> t δ P -> t δ P'
theorem PT.imp {X : Cx} {e : Expr} {t t' : TT} (h : PT X e t) (f : ∀ σ H Q, t' σ H Q -> t σ H Q) : PT X e t' := fun pins s σ H Q I q => h pins s σ H Q I (f σ H Q q)
theorem PW.imp {X : Cx} {e : Expr} {t t' : TT} (h : PW X e t) (f : ∀ σ H Q, t' σ H Q -> t σ H Q) : PW X e t' := fun wh pins s σ H Q I q => h wh pins s σ H Q I (f σ H Q q)
theorem PA.imp {X : Cx} {es : List Expr} {t t' : TA} (h : PA X es t) (f : ∀ σ H Q, t' σ H Q -> t σ H Q) : PA X es t' := fun p pins s σ H Q I q => h p pins s σ H Q I (f σ H Q q)
section
variable {X : Cx} {e a b c : Expr} {es rest : List Expr} {pos : Pos} {ta tb tc : ED}
def mP (i : Nat) : ED := fun δ Q => ∃ d, δ[i]? = some (some d) /\ Q d
def vC (d : D) : ED := fun _ Q => Q d
theorem G6 {i : Nat} (h : PE X e (EC i)) : PD X e (mP i) :=
 ⟨h.imp fun σ H Q ⟨δ, r, d, hd, k⟩ => let ⟨v, hv, dv⟩ := r.get i d hd; ⟨v, hv, k v H (aJ.refl _) dv⟩, fun δ P P' f ⟨d, hd, k⟩ => ⟨d, hd, f d k⟩⟩
theorem dv (i : Nat) {x : Str} {pos : Pos} (hN : X.N[i]? = some x := by rfl) (hv : wO X.env.scope x := by first | exact Or.inl rfl | exact Or.inr (Or.inl rfl) | exact Or.inr (Or.inr rfl)) (hd : (x == ("__debug__" : Str)) = false := by decide)
  (hcd : (x == ("__classdict__" : Str)) = false := by decide) : PD X (.Name x pos) (mP i) := G6 (pv i hN hv hd hcd)
theorem Ep {v : V} {d : D} (h : PE X e (tC v)) (hv : ∀ H, Dv X.K H v d) : PD X e (vC d) :=
 ⟨h.imp fun σ H Q ⟨δ, r, k⟩ => k v H (aJ.refl _) (hv H), fun δ P P' f k => f d k⟩
theorem aB {i j pos} : PD X (.Constant (.int i) j pos) (vC (.int i)) := Ep Dk fun _ => .int i
theorem CY {i j pos} : PD X (.Constant (.bool i) j pos) (vC (.bl i)) := Ep Fn fun _ => .bl i
theorem aZ {i j pos} : PD X (.Constant (.str i) j pos) (vC (.str i)) := Ep Dp fun _ => .str i
theorem bC {j pos} : PD X (.Constant .none j pos) (vC .aW) := Ep Dl fun _ => .aW
theorem d6 {x : Str} {v : V} {u : Value} {d : D} {pos : Pos} (hg : Gl X x) (hm : X.mg x = some u) (r : RelV v u) (hv : ∀ H, Dv X.K H v d) (hd : (x == ("__debug__" : Str)) = false := by decide) : PD X (.Name x pos) (vC d) := Ep (lG hg hm r hd) hv
abbrev F2 := D -> D -> (D -> Prop) -> Prop
abbrev cg (f : F2) : Prop := ∀ d e (P P' : D -> Prop), (∀ r, P r -> P' r) -> f d e P -> f d e P'
def mM (f : F2) (ta tb : ED) : ED := fun δ Q => ta δ fun d => tb δ fun e => f d e Q
def e_ (K : PySem.W.Frag) (r : R2) (f : F2) : Prop := ∀ H x y d e Q, Dv K H x d -> Dv K H y e -> f d e (kD K H Q) -> r x y H Q
theorem pq {t : TE} {r : R2} {f : F2} (hp : PE X e (EB r (oE X.K ta) (oE X.K tb))) (ma : aw ta) (mb : aw tb) (hd : e_ X.K r f) (hf : cg f) : PD X e (mM f ta tb) := by
 refine ⟨hp.imp fun σ H Q ⟨δ, r, h⟩ => ⟨δ, r, ma _ _ _ (fun d hd' v H1 s1 dv => ⟨δ, r.same s1, mb _ _ _ (fun e he w H2 s2 ew => hd H2 v w d e Q (dv.same s2) ew (hf d e _ _ (fun z hz => hz.on (s1.trans s2)) he)) hd'⟩) h⟩, ?_⟩
 exact fun δ P P' g h => ma _ _ _ (fun d h' => mb _ _ _ (fun e h'' => hf d e _ _ g h'') h') h
theorem wu {op : Operator} {r : R2} {f : F2} (ho : fB X (binaryOp op) r) (hd : e_ X.K r f) (hf : cg f) (ha : PD X a ta) (hb : PD X b tb) : PD X (.BinOp a op b pos) (mM f ta tb) :=
 pq (t := oE X.K ta) (Fo ho ha.pe hb.pe) ha.mono hb.mono hd hf
theorem lR {op : CmpOp} {r : R2} {f : F2} (ho : fB X (compareOp op) r) (hd : e_ X.K r f) (hf : cg f) (ha : PD X a ta) (hb : PD X b tb) (hm : behindInMarks op b = false) : PD X (.Compare a [op] [b] pos) (mM f ta tb) :=
 pq (t := oE X.K ta) (Av ho ha.pe hb.pe hm) ha.mono hb.mono hd hf
end
section
variable {X : Cx}
theorem An : fB X (binaryOp .Add) (fun x y H Q => ∃ a b xs ys, x = .ref a /\ y = .ref b /\ ck X.K H a xs /\ ck X.K H b ys /\ xs.length + ys.length <= sizeLine /\ ∀ p, H p = none -> Q (.ref p) (upd H p (.lst (xs ++ ys)))) := by
 intro pins s σ H x y v u Q I rx ry h
 obtain ⟨a, b, xs, ys, rfl, rfl, ha, hb, hz, q⟩ := h
 cases (show v = Value.ref a from rx)
 cases (show u = Value.ref b from ry)
 obtain ⟨its, r1, p1, _⟩ := I.list ha
 obtain ⟨its2, r2, p2, _⟩ := I.list hb
 have hl1 := r1.length
 have hl2 := r2.length
 obtain ⟨⟨cls, dd, data, sl⟩, ho, hc, n, hd⟩ := id p1.isList
 obtain ⟨⟨cls2, dd2, data2, sl2⟩, ho2, hc2, n2, hd2⟩ := id p2.isList
 simp only at hc hd hc2 hd2
 subst hc hd hc2 hd2
 have e : its.toArray ++ its2.toArray = (its ++ its2).toArray := by simp
 refine concat_meets ⟨_, ho, rfl⟩ ⟨_, ho2, rfl⟩ noFill_list_add seq_list_add PySem.F.slot_list_add PySem.F.entry_list_add (PySem.F.args_list_add_2 _ _)
  (list_addW a b its.toArray its2.toArray n n2 dd dd2 sl sl2 (by rw [List.size_toArray, List.size_toArray]; omega)) ⟨ho, ho2, ?_⟩
 rw [e]
 exact ⟨.ref _, _, I.HG (t' := s.toks) (r1.append r2) (by rw [List.length_append]; omega), rfl, q _ I.fresh⟩
theorem Ao : fB X (binaryOp .Add) (fun x y H Q => ∃ a b ys, x = .ref a /\ y = .ref b /\ eT X.K H a [] /\ eT X.K H b ys /\ Q (.ref b) H) := by
 intro pins s σ H x y v u Q I rx ry h
 obtain ⟨a, b, ys, rfl, rfl, ha, hb, q⟩ := h
 cases (show v = Value.ref a from rx)
 cases (show u = Value.ref b from ry)
 obtain ⟨its, r1, p1, _⟩ := I.tuple ha
 obtain ⟨its2, r2, p2, _⟩ := I.tuple hb
 have e1 : its = [] := r1.zero
 subst e1
 obtain ⟨⟨cls, dd, data, sl⟩, ho, hc, n, hd⟩ := id p1
 obtain ⟨⟨cls2, dd2, data2, sl2⟩, ho2, hc2, n2, hd2⟩ := id p2
 simp only at hc hd hc2 hd2
 subst hc hd hc2 hd2
 exact concat_meets ⟨_, ho, rfl⟩ ⟨_, ho2, rfl⟩ noFill_tuple_add seq_tuple_add PySem.F.slot_tuple_add PySem.F.entry_tuple_add (PySem.F.args_tuple_add_2 _ _)
  (tuple_addW0 a b #[] its2.toArray n n2 dd dd2 sl sl2 rfl) ⟨ho, ho2, ⟨.ref b, H, I, rfl, q⟩⟩
end
section
variable {K : PySem.W.Frag}
def zr : F2 := fun d e Q => match d, e with
 | .int i, .int j => Q (.int (i + j))
 | .str x, .str y => x.length + y.length <= sizeLine /\ Q (.str (x ++ y))
 | .lst xs, .lst ys => xs.length + ys.length <= sizeLine /\ Q (.lst (xs ++ ys))
 | .tup xs, .tup ys => xs.length + ys.length <= sizeLine /\ Q (.tup (xs ++ ys))
 | _, _ => False
theorem FV : cg zr := by
 intro d e P P' g h
 unfold zr at h ⊢
 split at h
 ·exact g _ h
 ·exact ⟨h.1, g _ h.2⟩
 ·exact ⟨h.1, g _ h.2⟩
 ·exact ⟨h.1, g _ h.2⟩
 ·exact h.elim
def B0 (K : PySem.W.Frag) : R2 := fun x y H Q => (∃ i j, x = .int i /\ y = .int j /\ Q (.int (i + j)) H) \/ (∃ i j, x = .str i /\ y = .str j /\ i.length + j.length <= sizeLine /\ Q (.str (i ++ j)) H) \/
 (∃ a b xs ys, x = .ref a /\ y = .ref b /\ ck K H a xs /\ ck K H b ys /\ xs.length + ys.length <= sizeLine /\ ∀ p, H p = none -> Q (.ref p) (upd H p (.lst (xs ++ ys)))) \/
 B1 K x y H Q \/ (∃ a b ys, x = .ref a /\ y = .ref b /\ eT K H a [] /\ eT K H b ys /\ Q (.ref b) H)
theorem Am {X : Cx} : fB X (binaryOp .Add) (B0 X.K) := DW.or (sL.or (An.or (Ap.or Ao)))
theorem xA : e_ K (B0 K) zr := by
 intro H x y d e Q hx hy h
 cases hx with
 | int i => cases hy with
  | int j => exact .inl ⟨i, j, rfl, rfl, h _ H (aJ.refl _) (.int _)⟩
  | _ => exact h.elim
 | str i => cases hy with
  | str j => exact .inr (.inl ⟨i, j, rfl, rfl, h.1, h.2 _ H (aJ.refl _) (.str _)⟩)
  | _ => exact h.elim
 | lst h1 h2 => cases hy with
  | lst g1 g2 =>
   refine .inr (.inr (.inl ⟨_, _, _, _, rfl, rfl, h1, g1, ?_, fun p hp => ?_⟩))
   ·rw [h2.length, g2.length]; exact h.1
   ·exact h.2 _ _ (aN hp) (.lst (ck.of aI) ((h2.append g2).same (aN hp)))
  | _ => exact h.elim
 | tup h1 h2 => cases hy with
  | tup g1 g2 =>
   have z := h.1
   rw [<- h2.length, <- g2.length] at z
   cases h2 with
   | nil => exact .inr (.inr (.inr (.inr ⟨_, _, _, rfl, rfl, h1, g1, h.2 _ H (aJ.refl _) (.tup g1 g2)⟩)))
   | cons a r =>
    refine .inr (.inr (.inr (.inl ⟨_, _, _, _, rfl, rfl, h1, g1, (fun q => nomatch q), z, fun e => ?_, fun e p hp => ?_⟩)))
    ·subst e
     cases g2
     have q := h.2
     rw [List.append_nil] at q
     exact q _ H (aJ.refl _) (.tup h1 (.cons a r))
    ·exact h.2 _ _ (aN hp) (.tup (eT.of aI) (((au.cons a r).append g2).same (aN hp)))
  | _ => exact h.elim
 | _ => exact h.elim
def fI (C : Int -> Int -> Prop) (g : Int -> Int -> D) : F2 := fun d e Q => match d, e with
 | .int i, .int j => C i j /\ Q (g i j)
 | _, _ => False
theorem HK {C : Int -> Int -> Prop} {g : Int -> Int -> D} : cg (fI C g) := by
 intro d e P P' f h
 unfold fI at h ⊢
 split at h
 ·exact ⟨h.1, f _ h.2⟩
 ·exact h.elim
theorem rS {C : Int -> Int -> Prop} {g : Int -> Int -> V} {g' : Int -> Int -> D} (hg : ∀ H i j, Dv K H (g i j) (g' i j)) : e_ K (rI C g) (fI C g') := by
 intro H x y d e Q hx hy h
 cases hx with
 | int i => cases hy with
  | int j => exact ⟨i, j, rfl, rfl, h.1, h.2 _ H (aJ.refl _) (hg H i j)⟩
  | _ => exact h.elim
 | _ => exact h.elim
def Bk (g : Int -> Int -> D) : F2 := fun d e Q => match d, e with
 | .int i, .int j => Q (g i j)
 | _, _ => False
theorem rp {g : Int -> Int -> D} : cg (Bk g) := by
 intro d e P P' f h
 unfold Bk at h ⊢
 split at h
 ·exact f _ h
 ·exact h.elim
theorem fq {g : Int -> Int -> V} {g' : Int -> Int -> D} (hg : ∀ H i j, Dv K H (g i j) (g' i j)) : e_ K (zQ g) (Bk g') := by
 intro H x y d e Q hx hy h
 cases hx with
 | int i => cases hy with
  | int j => exact ⟨i, j, rfl, rfl, h _ H (aJ.refl _) (hg H i j)⟩
  | _ => exact h.elim
 | _ => exact h.elim
end
section
variable {X : Cx} {a b c : Expr} {es rest : List Expr} {pos : Pos} {ta tb tc : ED}
def GU : ED -> ED -> ED := mM zr
def IB : ED -> ED -> ED := mM (Bk fun i j => .int (i - j))
def H_ : ED -> ED -> ED := mM (fI IntMulOk fun i j => .int (i * j))
def Hz : ED -> ED -> ED := mM (fI (fun _ j => 0 < j) fun i j => .int (i % j))
def Hw : ED -> ED -> ED := mM (fI CC fun i j => .int (i / j))
theorem bp (ha : PD X a ta) (hb : PD X b tb) : PD X (.BinOp a .Add b pos) (GU ta tb) := wu Am xA FV ha hb
theorem dD (ha : PD X a ta) (hb : PD X b tb) : PD X (.BinOp a .Sub b pos) (IB ta tb) := wu De (fq fun _ _ _ => .int _) rp ha hb
theorem lT (ha : PD X a ta) (hb : PD X b tb) : PD X (.BinOp a .Mult b pos) (H_ ta tb) := wu Ar (rS fun _ _ _ => .int _) HK ha hb
theorem av (ha : PD X a ta) (hb : PD X b tb) : PD X (.BinOp a .Mod b pos) (Hz ta tb) := wu DY (rS fun _ _ _ => .int _) HK ha hb
theorem bG (ha : PD X a ta) (hb : PD X b tb) : PD X (.BinOp a .FloorDiv b pos) (Hw ta tb) := wu Aq (rS fun _ _ _ => .int _) HK ha hb
def IA (ta : ED) : ED := fun δ Q => ta δ fun d => ∃ i, d = .int i /\ Q (.int (-i))
theorem Bi (ha : PD X a ta) : PD X (.UnaryOp .USub a pos) (IA ta) :=
 ⟨(Fq EK ha.pe).imp fun σ H Q ⟨δ, r, h⟩ => ⟨δ, r, ha.mono _ _ _ (fun d ⟨i, e, k⟩ v H1 s1 dv => by subst e; cases dv; exact ⟨i, rfl, k _ H1 s1 (.int _)⟩) h⟩,
  fun δ P P' g h => ha.mono _ _ _ (fun d ⟨i, e, k⟩ => ⟨i, e, g _ k⟩) h⟩
def JK : ED -> ED -> ED := mM (Bk fun i j => .bl (decide (i < j)))
def JJ : ED -> ED -> ED := mM (Bk fun i j => .bl (decide (i <= j)))
def IZ : ED -> ED -> ED := mM (Bk fun i j => .bl (decide (j < i)))
theorem Et (ha : PD X a ta) (hb : PD X b tb) : PD X (.Compare a [.LtE] [b] pos) (JJ ta tb) := lR yK (fq fun _ _ _ => .bl _) rp ha hb (eA _)
theorem G3 (ha : PD X a ta) (hb : PD X b tb) : PD X (.Compare a [.Gt] [b] pos) (IZ ta tb) := lR Bw (fq fun _ _ _ => .bl _) rp ha hb (eA _)
end
mutual
def kJ : D -> PyData
 | .aW => .none
 | .bl b => .bool b
 | .int i => .int i
 | .str x => .str x
 | .lst xs => .list (kK xs)
 | .tup xs => .tuple (kK xs)
 | .obj _ _ => .none
 | .dK _ => .none
 | .dT _ => .none
 | .adr _ => .none
 | .exc _ _ _ => .none
def kK : List D -> List PyData
 | [] => []
 | d :: ds => kJ d :: kK ds
end
mutual
def plain : D -> Bool
 | .lst xs => fG xs
 | .tup xs => fG xs
 | .obj _ _ => false
 | .dK _ => false
 | .dT _ => false
 | .adr _ => false
 | .exc _ _ _ => false
 | _ => true
def fG : List D -> Bool
 | [] => true
 | d :: ds => plain d && fG ds
end
section
variable {K : PySem.W.Frag} {H : Hp}
mutual
theorem Dv.dat : ∀ {v : V} {d : D}, plain d = true -> Dv K H v d -> iZ K H v (kJ d)
 | _, _, _, .aW => by rw [kJ]; exact .aW
 | _, _, _, .bl b => by rw [kJ]; exact .bl b
 | _, _, _, .int i => by rw [kJ]; exact .int i
 | _, _, _, .str x => by rw [kJ]; exact .str x
 | _, _, p, .lst h1 h2 => by rw [kJ]; rw [plain] at p; exact .lst h1 (au.dat p h2)
 | _, _, p, .tup h1 h2 => by rw [kJ]; rw [plain] at p; exact .tup h1 (au.dat p h2)
 | _, _, p, .obj _ _ => by rw [plain] at p; cases p
 | _, _, p, .dK _ _ => by rw [plain] at p; cases p
 | _, _, p, .dT _ _ => by rw [plain] at p; cases p
 | _, _, p, .adr _ => by rw [plain] at p; cases p
 | _, _, p, .exc _ _ _ => by rw [plain] at p; cases p
theorem au.dat : ∀ {vs : List V} {ds : List D}, fG ds = true -> au K H vs ds -> gT K H vs (kK ds)
 | _, _, _, .nil => by rw [kK]; exact .nil
 | _, _, p, .cons h1 h2 => by
  rw [kK]
  rw [fG, Bool.and_eq_true] at p
  exact .cons (Dv.dat p.1 h1) (au.dat p.2 h2)
end
end
def oW : D -> D -> Option Bool
 | .aW, .aW => some true
 | .bl a, .bl b => some (decide (a = b))
 | .int i, .int j => some (decide (i = j))
 | .str x, .str y => some (decide (x = y))
 | .aW, .bl _ => some false
 | .aW, .int _ => some false
 | .aW, .str _ => some false
 | .bl _, .aW => some false
 | .bl _, .str _ => some false
 | .int _, .aW => some false
 | .int _, .str _ => some false
 | .str _, .aW => some false
 | .str _, .bl _ => some false
 | .str _, .int _ => some false
 | _, _ => none
def wF (neg : Bool) : F2 := fun d e Q => match oW d e with
 | some b => Q (.bl (if neg then !b else b))
 | none => plain d = true /\ plain e = true /\ SeqAt.shaped (kJ d) = true /\ SeqAt.shaped (kJ e) = true /\ Q (.bl (if neg then !PyData.eqv (kJ d) (kJ e) else PyData.eqv (kJ d) (kJ e)))
theorem DJ {neg : Bool} : cg (wF neg) := by
 intro d e P P' f h
 unfold wF at h ⊢
 split at h
 ·exact f _ h
 ·exact ⟨h.1, h.2.1, h.2.2.1, h.2.2.2.1, f _ h.2.2.2.2⟩
theorem tY {K : PySem.W.Frag} : e_ K (fun x y H Q => IU x y H Q \/ BD K false x y H Q) (wF false) := by
 intro H x y d e Q hx hy h
 unfold wF at h
 split at h
 ·rename_i b hb
  left
  have q := h _ H (aJ.refl _) (.bl _)
  cases hx <;> cases hy <;> simp only [oW, Option.some.injEq, reduceCtorEq] at hb <;> subst hb <;> refine ⟨rfl, ?_⟩ <;> simpa using q
 ·obtain ⟨p1, p2, s1, s2, q⟩ := h
  exact .inr ⟨_, _, hx.dat p1, hy.dat p2, s1, s2, q _ H (aJ.refl _) (.bl _)⟩
theorem zk {K : PySem.W.Frag} : e_ K (fun x y H Q => IW x y H Q \/ BD K true x y H Q) (wF true) := by
 intro H x y d e Q hx hy h
 unfold wF at h
 split at h
 ·rename_i b hb
  left
  have q := h _ H (aJ.refl _) (.bl _)
  cases hx <;> cases hy <;> simp only [oW, Option.some.injEq, reduceCtorEq] at hb <;> subst hb <;> refine ⟨rfl, ?_⟩ <;> simpa using q
 ·obtain ⟨p1, p2, s1, s2, q⟩ := h
  exact .inr ⟨_, _, hx.dat p1, hy.dat p2, s1, s2, q _ H (aJ.refl _) (.bl _)⟩
def EY (neg : Bool) : F2 := fun d e Q => match e with
 | .aW => Q (.bl (match d with | .aW => !neg | _ => neg))
 | .bl b => ∃ a, d = .bl a /\ Q (.bl (if neg then a != b else a == b))
 | _ => False
theorem DL {neg : Bool} : cg (EY neg) := by
 intro d e P P' f h
 unfold EY at h ⊢
 split at h
 ·exact f _ h
 ·obtain ⟨a, ha, q⟩ := h; exact ⟨a, ha, f _ q⟩
 ·exact h.elim
theorem tj {K : PySem.W.Frag} : e_ K (fun x y H Q => (y = .aW /\ Q (.bl (decide (x = .aW))) H) \/ ∃ a b, x = .bl a /\ y = .bl b /\ Q (.bl (a == b)) H) (EY false) := by
 intro H x y d e Q hx hy h
 cases hy with
 | aW =>
  refine .inl ⟨rfl, ?_⟩
  have q := h _ H (aJ.refl _) (.bl _)
  cases hx <;> exact q
 | bl b =>
  obtain ⟨a, rfl, q⟩ := h
  cases hx
  exact .inr ⟨a, b, rfl, rfl, q _ H (aJ.refl _) (.bl _)⟩
 | _ => exact h.elim
theorem rT {K : PySem.W.Frag} : e_ K (fun x y H Q => (y = .aW /\ Q (.bl (!decide (x = .aW))) H) \/ ∃ a b, x = .bl a /\ y = .bl b /\ Q (.bl (a != b)) H) (EY true) := by
 intro H x y d e Q hx hy h
 cases hy with
 | aW =>
  refine .inl ⟨rfl, ?_⟩
  have q := h _ H (aJ.refl _) (.bl _)
  cases hx <;> exact q
 | bl b =>
  obtain ⟨a, rfl, q⟩ := h
  cases hx
  exact .inr ⟨a, b, rfl, rfl, q _ H (aJ.refl _) (.bl _)⟩
 | _ => exact h.elim
def fS : D -> Bool
 | .aW => true
 | .bl _ => true
 | .int _ => true
 | .str _ => true
 | _ => false
def oV : D -> D -> Bool
 | .aW, .aW => true
 | .bl a, .bl b => a == b
 | .bl a, .int j => (if a then 1 else 0) == j
 | .int i, .bl b => i == (if b then 1 else 0)
 | .int i, .int j => i == j
 | .str x, .str y => x == y
 | _, _ => false
def inD (x : D) (xs : List D) : Bool := xs.any fun y => oV y x
def sr (x y : Str) : Bool := !(Builtin.Str.occurrences y x 0 y.length 1).isEmpty
def EX (neg : Bool) : F2 := fun d e Q => match e with
 | .lst xs => fS d = true /\ xs.all fS = true /\ Q (.bl (if neg then !inD d xs else inD d xs))
 | .tup xs => fS d = true /\ xs.all fS = true /\ Q (.bl (if neg then !inD d xs else inD d xs))
 | .str y => ∃ x, d = .str x /\ Q (.bl (if neg then !sr x y else sr x y))
 | _ => False
theorem DK {neg : Bool} : cg (EX neg) := by
 intro d e P P' f h
 unfold EX at h ⊢
 split at h
 ·exact ⟨h.1, h.2.1, f _ h.2.2⟩
 ·exact ⟨h.1, h.2.1, f _ h.2.2⟩
 ·obtain ⟨a, ha, q⟩ := h; exact ⟨a, ha, f _ q⟩
 ·exact h.elim
section
variable {K : PySem.W.Frag} {H : Hp}
theorem Dv.flat {v : V} {d : D} (h : Dv K H v d) (f : fS d = true) : iL v = true := by
 cases h <;> first | rfl | cases f
theorem Dv.oV {v w : V} {d e : D} (h : Dv K H v d) (g : Dv K H w e) (f : fS d = true) (f' : fS e = true) : zo v w = DC.oV d e := by
 cases h <;> cases g <;> first | rfl | cases f | cases f'
theorem au.flat : ∀ {vs : List V} {ds : List D}, au K H vs ds -> ds.all fS = true -> vs.all iL = true
 | _, _, .nil, _ => rfl
 | _, _, .cons h r, f => by
  rw [List.all_cons, Bool.and_eq_true] at f ⊢
  exact ⟨h.flat f.1, au.flat r f.2⟩
theorem au.zO {w : V} {e : D} (g : Dv K H w e) (f' : fS e = true) : ∀ {vs : List V} {ds : List D}, au K H vs ds -> ds.all fS = true -> L2.zO w vs = inD e ds
 | _, _, .nil, _ => rfl
 | _, _, .cons h r, f => by
  rw [List.all_cons, Bool.and_eq_true] at f
  have q := au.zO g f' r f.2
  unfold L2.zO inD at q ⊢
  rw [List.any_cons, List.any_cons, q, h.oV g f.1 f']
end
theorem tZ {K : PySem.W.Frag} : e_ K (fun x y H Q => Gn K false x y H Q \/ ∃ i j, x = .str i /\ y = .str j /\ Q (.bl (!(Builtin.Str.occurrences j i 0 j.length 1).isEmpty)) H) (EX false) := by
 intro H x y d e Q hx hy h
 cases hy with
 | lst g1 g2 => exact .inl ⟨_, _, rfl, .inl g1, hx.flat h.1, g2.flat h.2.1, by rw [au.zO hx h.1 g2 h.2.1]; exact h.2.2 _ H (aJ.refl _) (.bl _)⟩
 | tup g1 g2 => exact .inl ⟨_, _, rfl, .inr g1, hx.flat h.1, g2.flat h.2.1, by rw [au.zO hx h.1 g2 h.2.1]; exact h.2.2 _ H (aJ.refl _) (.bl _)⟩
 | str j =>
  obtain ⟨i, rfl, q⟩ := h
  cases hx
  exact .inr ⟨i, j, rfl, rfl, q _ H (aJ.refl _) (.bl _)⟩
 | _ => exact h.elim
theorem rV {K : PySem.W.Frag} : e_ K (fun x y H Q => Gn K true x y H Q \/ ∃ i j, x = .str i /\ y = .str j /\ Q (.bl (!(!(Builtin.Str.occurrences j i 0 j.length 1).isEmpty))) H) (EX true) := by
 intro H x y d e Q hx hy h
 cases hy with
 | lst g1 g2 => exact .inl ⟨_, _, rfl, .inl g1, hx.flat h.1, g2.flat h.2.1, by rw [au.zO hx h.1 g2 h.2.1]; exact h.2.2 _ H (aJ.refl _) (.bl _)⟩
 | tup g1 g2 => exact .inl ⟨_, _, rfl, .inr g1, hx.flat h.1, g2.flat h.2.1, by rw [au.zO hx h.1 g2 h.2.1]; exact h.2.2 _ H (aJ.refl _) (.bl _)⟩
 | str j =>
  obtain ⟨i, rfl, q⟩ := h
  cases hx
  exact .inr ⟨i, j, rfl, rfl, q _ H (aJ.refl _) (.bl _)⟩
 | _ => exact h.elim
section
variable {X : Cx} {a b c : Expr} {es rest : List Expr} {pos : Pos} {ta tb tc : ED}
def vEq : ED -> ED -> ED := mM (wF false)
def JL : ED -> ED -> ED := mM (wF true)
def Ib : ED -> ED -> ED := mM (EY false)
def EM : ED -> ED -> ED := mM (EY true)
def Ia : ED -> ED -> ED := mM (EX false)
def ER : ED -> ED -> ED := mM (EX true)
theorem rQ (hu : X.A.units + 64 < cLine) (ha : PD X a ta) (hb : PD X b tb) : PD X (.Compare a [.Eq] [b] pos) (vEq ta tb) := lR (Bv.or (yI hu)) tY DJ ha hb (eA _)
theorem G5 (ha : PD X a ta) (hb : PD X b tb) : PD X (.Compare a [.Is] [b] pos) (Ib ta tb) := lR (yJ.or qj) tj DL ha hb (eA _)
theorem G4 (ha : PD X a ta) (hb : PD X b tb) (hm : behindInMarks .In b = false) : PD X (.Compare a [.In] [b] pos) (Ia ta tb) := lR (nP.or nQ) tZ DK ha hb hm
theorem zh (ha : PD X a ta) (hb : PD X b tb) (hm : behindInMarks .NotIn b = false) : PD X (.Compare a [.NotIn] [b] pos) (ER ta tb) := lR (pA.or pB) rV DK ha hb hm
end
abbrev cj (t : TD) : Prop := ∀ δ (P P' : Bool -> Prop), (∀ d, P d -> P' d) -> t δ P -> t δ P'
abbrev iK (t : AD) : Prop := ∀ δ (P P' : List D -> Prop), (∀ d, P d -> P' d) -> t δ P -> t δ P'
def fj (t : ED) : TD := fun δ Q => t δ fun d => ∃ b, d = .bl b /\ Q b
theorem xw {t : ED} (m : aw t) : cj (fj t) := fun δ P P' g h => m _ _ _ (fun d ⟨b, e, q⟩ => ⟨b, e, g b q⟩) h
theorem BV {K : PySem.W.Frag} {t : ED} (m : aw t) {δ : SD} {H : Hp} {Q : Bool -> Hp -> Prop} (h : fj t δ (kB H Q)) : t δ (kD K H fun x H' => ∃ k, x = .bl k /\ Q k H') :=
 m _ _ _ (fun d ⟨b, e, q⟩ v H' s dv => by subst e; cases dv; exact ⟨b, rfl, q H' s⟩) h
section
variable {X : Cx} {a b c e : Expr} {es rest : List Expr} {pos : Pos} {ta tb tc : ED} {ua ub : TD}
theorem jt.of {t : TE} {v : ED} (h : PT X e (B8 t)) (p : ∀ σ H Q, oE X.K v σ H Q -> t σ H Q) (m : aw v) : jt X e (fj v) :=
 ⟨PT.imp h fun σ H Q ⟨δ, r, q⟩ => p σ H _ ⟨δ, r, BV m q⟩, xw m⟩
theorem CQ {r : R2} {f : F2} (ma : aw ta) (mb : aw tb) (hd : e_ X.K r f) (hf : cg f) : (∀ σ H Q, oE X.K (mM f ta tb) σ H Q -> EB r (oE X.K ta) (oE X.K tb) σ H Q) /\ aw (mM f ta tb) := by
 refine ⟨fun σ H Q ⟨δ, r, h⟩ => ⟨δ, r, ma _ _ _ (fun d hd' v H1 s1 dv => ⟨δ, r.same s1, mb _ _ _ (fun e he w H2 s2 ew => hd H2 v w d e Q (dv.same s2) ew (hf d e _ _ (fun z hz => hz.on (s1.trans s2)) he)) hd'⟩) h⟩, ?_⟩
 exact fun δ P P' g h => ma _ _ _ (fun d h' => mb _ _ _ (fun e h'' => hf d e _ _ g h'') h') h
theorem jq {op : CmpOp} {r : R2} {f : F2} (ho : fB X (compareOp op) r) (hd : e_ X.K r f) (hf : cg f) (ha : PD X a ta) (hb : PD X b tb) (hm : behindInMarks op b = false) : jt X (.Compare a [op] [b] pos) (fj (mM f ta tb)) :=
 let q := CQ ha.mono hb.mono hd hf
 jt.of (A6 ho ha.pe hb.pe hm) q.1 q.2
theorem y8 (ha : PD X a ta) (hb : PD X b tb) : jt X (.Compare a [.Lt] [b] pos) (fj (JK ta tb)) := jq Fl (fq fun _ _ _ => .bl _) rp ha hb (eA _)
theorem y7 (ha : PD X a ta) (hb : PD X b tb) : jt X (.Compare a [.Gt] [b] pos) (fj (IZ ta tb)) := jq Bw (fq fun _ _ _ => .bl _) rp ha hb (eA _)
theorem bR (hu : X.A.units + 64 < cLine) (ha : PD X a ta) (hb : PD X b tb) : jt X (.Compare a [.Eq] [b] pos) (fj (vEq ta tb)) := jq (Bv.or (yI hu)) tY DJ ha hb (eA _)
theorem y9 (hu : X.A.units + 64 < cLine) (ha : PD X a ta) (hb : PD X b tb) : jt X (.Compare a [.NotEq] [b] pos) (fj (JL ta tb)) := jq (Fm.or (DZ hu)) zk DJ ha hb (eA _)
theorem EE (ha : PD X a ta) (hb : PD X b tb) : jt X (.Compare a [.Is] [b] pos) (fj (Ib ta tb)) := jq (yJ.or qj) tj DL ha hb (eA _)
theorem lH (ha : PD X a ta) (hb : PD X b tb) : jt X (.Compare a [.IsNot] [b] pos) (fj (EM ta tb)) := jq (As.or qk) rT DL ha hb (eA _)
theorem vq (ha : PD X a ta) (hb : PD X b tb) (hm : behindInMarks .In b = false) : jt X (.Compare a [.In] [b] pos) (fj (Ia ta tb)) := jq (nP.or nQ) tZ DK ha hb hm
def BW : D -> Option Bool
 | .aW => some false
 | .bl b => some b
 | .int i => some (i != 0)
 | .str y => if y.length <= sizeLine then some ((y.length : Int) != 0) else none
 | .lst xs => some (!xs.isEmpty)
 | .tup xs => some (!xs.isEmpty)
 | _ => none
def IC (t : ED) : TD := fun δ Q => t δ fun d => ∃ b, BW d = some b /\ Q b
theorem au.isEmpty {K : PySem.W.Frag} {H : Hp} {vs : List V} {ds : List D} (h : au K H vs ds) : vs.isEmpty = ds.isEmpty := by cases h <;> rfl
theorem Dv.JG {K : PySem.W.Frag} {H : Hp} {v : V} {d : D} {b : Bool} (h : Dv K H v d) (e : BW d = some b) : CL K v H b := by
 cases h with
 | aW => cases e; rfl
 | bl x => cases e; rfl
 | int i => cases e; rfl
 | str x =>
  have e' : (if x.length <= sizeLine then some ((x.length : Int) != 0) else none) = some b := e
  by_cases hz : x.length <= sizeLine
  ·rw [if_pos hz] at e'
   exact ⟨hz, (Option.some.inj e').symm⟩
  ·rw [if_neg hz] at e'
   cases e'
 | lst h1 h2 => cases e; exact .inl ⟨_, h1, by rw [h2.isEmpty]⟩
 | tup h1 h2 => cases e; exact .inr (.inl ⟨_, h1, by rw [h2.isEmpty]⟩)
 | dK _ _ => cases e
 | exc _ _ _ => cases e
 | obj _ _ => cases e
 | dT _ _ => cases e
 | adr _ => cases e
theorem eN (ha : PD X a ta) (he : ∀ whole, isTrue a X.env whole = (do let v <- whole; standAt a.pos; holding [v] (truthy v)) := by intro _; rfl) : jt X a (IC ta) :=
 ⟨PT.imp (ye ha.pe he) fun σ H Q ⟨δ, r, h⟩ => ⟨δ, r, ha.mono _ _ _ (fun d ⟨b, e, q⟩ v H1 s1 dv => ⟨b, dv.JG e, q H1 s1⟩) h⟩, fun δ P P' g h => ha.mono _ _ _ (fun d ⟨b, e, q⟩ => ⟨b, e, g b q⟩) h⟩
def Ht (t : TD) : TD := fun δ Q => t δ fun b => Q (!b)
def GS (t u : TD) : TD := fun δ Q => t δ fun b => if b = true then u δ Q else Q false
def IY (t u : TD) : TD := fun δ Q => t δ fun b => if b = true then Q true else u δ Q
theorem mL (ha : jt X a ua) : jt X (.UnaryOp .Not a pos) (Ht ua) :=
 ⟨PT.imp (Dz ha.pt) fun σ H Q ⟨δ, r, h⟩ => ⟨δ, r, ha.mono _ _ _ (fun b q H' s => q H' s) h⟩, fun δ P P' g h => ha.mono _ _ _ (fun b q => g _ q) h⟩
theorem FX (ma : cj ua) (mb : cj ub) : cj (GS ua ub) := fun δ P P' g h => ma _ _ _ (fun b q => by
 cases b with
 | true => rw [if_pos rfl] at q ⊢; exact mb _ _ _ g q
 | false => rw [if_neg Bool.false_ne_true] at q ⊢; exact g _ q) h
theorem HR (ma : cj ua) (mb : cj ub) : cj (IY ua ub) := fun δ P P' g h => ma _ _ _ (fun b q => by
 cases b with
 | true => rw [if_pos rfl] at q ⊢; exact g _ q
 | false => rw [if_neg Bool.false_ne_true] at q ⊢; exact mb _ _ _ g q) h
theorem kN.td (h : kN X e ua) : jt X e ua := ⟨h.pw.pt, h.mono⟩
theorem gI (ha : jt X a ua) : kN X (.BoolOp .And [a] pos) ua := ⟨A_ ha.pt, ha.mono⟩
theorem js (ha : jt X a ua) : kN X (.BoolOp .Or [a] pos) ua := ⟨D1 ha.pt, ha.mono⟩
theorem w_and (ha : jt X a ua) (hb : kN X (.BoolOp .And (b :: rest) pos) ub) : kN X (.BoolOp .And (a :: b :: rest) pos) (GS ua ub) := by
 refine ⟨PW.imp (D0 ha.pt hb.pw) fun σ H Q ⟨δ, r, h⟩ => ⟨δ, r, ha.mono _ _ _ (fun b q H' s => ?_) h⟩, FX ha.mono hb.mono⟩
 cases b with
 | true => rw [if_pos rfl] at q ⊢; exact ⟨δ, r.same s, hb.mono _ _ _ (fun b k => k.on s) q⟩
 | false => rw [if_neg Bool.false_ne_true] at q ⊢; exact q H' s
theorem w_or (ha : jt X a ua) (hb : kN X (.BoolOp .Or (b :: rest) pos) ub) : kN X (.BoolOp .Or (a :: b :: rest) pos) (IY ua ub) := by
 refine ⟨PW.imp (Fu ha.pt hb.pw) fun σ H Q ⟨δ, r, h⟩ => ⟨δ, r, ha.mono _ _ _ (fun b q H' s => ?_) h⟩, HR ha.mono hb.mono⟩
 cases b with
 | true => rw [if_pos rfl] at q ⊢; exact q H' s
 | false => rw [if_neg Bool.false_ne_true] at q ⊢; exact ⟨δ, r.same s, hb.mono _ _ _ (fun b k => k.on s) q⟩
def Hu (ta tb : ED) : ED := fun δ Q => ta δ fun d => ∃ b, d = .bl b /\ if b = true then tb δ Q else Q (.bl false)
def JM (ta tb : ED) : ED := fun δ Q => ta δ fun d => ∃ b, d = .bl b /\ if b = true then Q (.bl true) else tb δ Q
theorem lU {op} (h : PD X a ta) : PD X (.BoolOp op [a] pos) ta := ⟨Dn h.pe, h.mono⟩
theorem pk (ha : PD X a ta) (hb : PD X (.BoolOp .And (b :: rest) pos) tb) : PD X (.BoolOp .And (a :: b :: rest) pos) (Hu ta tb) := by
 refine ⟨(Dj ha.pe hb.pe).imp fun σ H Q ⟨δ, r, h⟩ => ⟨δ, r, ha.mono _ _ _ (fun d ⟨b, e, q⟩ v H1 s1 dv => ?_) h⟩, fun δ P P' g h => ha.mono _ _ _ (fun d ⟨b, e, q⟩ => ⟨b, e, ?_⟩) h⟩
 ·subst e
  cases dv
  refine ⟨b, rfl, ?_⟩
  cases b with
  | true => rw [if_pos rfl] at q ⊢; exact ⟨δ, r.same s1, hb.mono _ _ _ (fun b k => k.on s1) q⟩
  | false => rw [if_neg Bool.false_ne_true] at q ⊢; exact q _ H1 s1 (.bl _)
 ·cases b with
  | true => rw [if_pos rfl] at q ⊢; exact hb.mono _ _ _ g q
  | false => rw [if_neg Bool.false_ne_true] at q ⊢; exact g _ q
theorem Ew (ha : PD X a ta) (hb : PD X (.BoolOp .Or (b :: rest) pos) tb) : PD X (.BoolOp .Or (a :: b :: rest) pos) (JM ta tb) := by
 refine ⟨(Fp ha.pe hb.pe).imp fun σ H Q ⟨δ, r, h⟩ => ⟨δ, r, ha.mono _ _ _ (fun d ⟨b, e, q⟩ v H1 s1 dv => ?_) h⟩, fun δ P P' g h => ha.mono _ _ _ (fun d ⟨b, e, q⟩ => ⟨b, e, ?_⟩) h⟩
 ·subst e
  cases dv
  refine ⟨b, rfl, ?_⟩
  cases b with
  | true => rw [if_pos rfl] at q ⊢; exact q _ H1 s1 (.bl _)
  | false => rw [if_neg Bool.false_ne_true] at q ⊢; exact ⟨δ, r.same s1, hb.mono _ _ _ (fun b k => k.on s1) q⟩
 ·cases b with
  | true => rw [if_pos rfl] at q ⊢; exact g _ q
  | false => rw [if_neg Bool.false_ne_true] at q ⊢; exact hb.mono _ _ _ g q
def JI (u : TD) (ta tb : ED) : ED := fun δ Q => u δ fun b => if b = true then ta δ Q else tb δ Q
theorem gc (hc : jt X c ua) (ha : PD X a ta) (hb : PD X b tb) : PD X (.IfExp c a b pos) (JI ua ta tb) := by
 refine ⟨(yT hc.pt ha.pe hb.pe).imp fun σ H Q ⟨δ, r, h⟩ => ⟨δ, r, hc.mono _ _ _ (fun k q H1 s1 => ?_) h⟩, fun δ P P' g h => hc.mono _ _ _ (fun k q => ?_) h⟩
 ·cases k with
  | true => rw [if_pos rfl] at q ⊢; exact ⟨δ, r.same s1, ha.mono _ _ _ (fun b k => k.on s1) q⟩
  | false => rw [if_neg Bool.false_ne_true] at q ⊢; exact ⟨δ, r.same s1, hb.mono _ _ _ (fun b k => k.on s1) q⟩
 ·cases k with
  | true => rw [if_pos rfl] at q ⊢; exact ha.mono _ _ _ g q
  | false => rw [if_neg Bool.false_ne_true] at q ⊢; exact hb.mono _ _ _ g q
def tH (f f' : F2) (ta tb tc : ED) : ED := fun δ Q => ta δ fun x => tb δ fun y => f x y fun z => ∃ k, z = .bl k /\ if k = true then tc δ fun w => f' y w Q else Q (.bl false)
theorem wc {r r' : R2} {f f' : F2} (ma : aw ta) (mb : aw tb) (mc : aw tc) (hd : e_ X.K r f) (hf : cg f) (hd' : e_ X.K r' f') (hf' : cg f') :
  (∀ σ H Q, oE X.K (tH f f' ta tb tc) σ H Q -> yy r r' (oE X.K ta) (oE X.K tb) (oE X.K tc) σ H Q) /\ aw (tH f f' ta tb tc) := by
 refine ⟨fun σ H Q ⟨δ, r, h⟩ => ⟨δ, r, ma _ _ _ (fun d h1 v H1 s1 dv => ⟨δ, r.same s1, mb _ _ _ (fun e h2 w H2 s2 ew => hd H2 v w d e _ (dv.same s2) ew (hf d e _ _ (fun z hz u H3 s3 du => ?_) h2)) h1⟩) h⟩, ?_⟩
 ·obtain ⟨k, rfl, q⟩ := hz
  cases du
  refine ⟨k, rfl, ?_⟩
  have s := s1.trans (s2.trans s3)
  cases k with
  | true =>
   rw [if_pos rfl] at q ⊢
   exact ⟨δ, r.same s, mc _ _ _ (fun d h3 u H4 s4 du => hd' H4 w u e d Q (ew.same (s3.trans s4)) du (hf' _ _ _ _ (fun z hz => hz.on (s.trans s4)) h3)) q⟩
  | false =>
   rw [if_neg Bool.false_ne_true] at q ⊢
   exact q _ H3 s (.bl _)
 ·intro δ P P' g h
  refine ma _ _ _ (fun d h1 => mb _ _ _ (fun e h2 => hf _ _ _ _ (fun z ⟨k, ez, q⟩ => ⟨k, ez, ?_⟩) h2) h1) h
  cases k with
  | true => rw [if_pos rfl] at q ⊢; exact mc _ _ _ (fun d h3 => hf' _ _ _ _ g h3) q
  | false => rw [if_neg Bool.false_ne_true] at q ⊢; exact g _ q
def Gh : F2 := Bk fun i j => .bl (decide (i <= j))
theorem Ca (ha : PD X a ta) (hb : PD X b tb) (hc : PD X c tc) (hm : lastMarks [.LtE, .LtE] [b, c] = false := by with_unfolding_all rfl) : PD X (.Compare a [.LtE, .LtE] [b, c] pos) (tH Gh Gh ta tb tc) :=
 let q := wc (X := X) ha.mono hb.mono hc.mono (r := zQ fun i j => .bl (decide (i <= j))) (r' := zQ fun i j => .bl (decide (i <= j))) (f := Gh) (f' := Gh) (fq fun _ _ _ => .bl _) rp (fq fun _ _ _ => .bl _) rp
 ⟨(yR yK yK ha.pe hb.pe hc.pe hm).imp q.1, q.2⟩
end
section
variable {X : Cx} {a b c e : Expr} {es rest : List Expr} {pos : Pos} {ta tb tc : ED} {ua ub : TD} {t : AD}
def oB : AD := fun _ Q => Q []
def my (ta : ED) (t : AD) : AD := fun δ Q => ta δ fun d => t δ fun ds => Q (d :: ds)
theorem aD : jE X [] oB := ⟨PA.imp gu fun σ H Q ⟨δ, r, h⟩ => h [] H (aJ.refl _) .nil, fun δ P P' g h => g _ h⟩
theorem aA (ha : PD X e ta) (hr : jE X es t) (hs : starEach (e :: es) X.env = (false, eval e X.env) :: starEach es X.env := by rfl) : jE X (e :: es) (my ta t) :=
 ⟨PA.imp (b_ ha.pe hr.pa hs) fun σ H Q ⟨δ, r, h⟩ => ⟨δ, r, ha.mono _ _ _ (fun d h1 v H1 s1 dv => ⟨δ, r.same s1, hr.mono _ _ _ (fun ds h2 vs H2 s2 dvs => h2 (v :: vs) H2 (s1.trans s2) (.cons (dv.same s2) dvs)) h1⟩) h⟩,
  fun δ P P' g h => ha.mono _ _ _ (fun d h1 => hr.mono _ _ _ (fun ds h2 => g _ h2) h1) h⟩
def GY (t : AD) : ED := fun δ Q => t δ fun ds => ds.length <= sizeLine /\ Q (.tup ds)
def Hy (t : AD) : ED := fun δ Q => t δ fun ds => ds.length <= sizeLine /\ Q (.lst ds)
theorem ag {x1} (h : jE X es t) : PD X (.Tuple es x1 pos) (GY t) :=
 ⟨(yX h.pa).imp fun σ H Q ⟨δ, r, q⟩ => ⟨δ, r, h.mono _ _ _ (fun ds ⟨hl, k⟩ vs H1 s1 dvs => ⟨by rw [dvs.length]; exact hl, fun p hp => k _ _ (s1.trans (aN hp)) (.tup (eT.of aI) (dvs.same (aN hp)))⟩) q⟩,
  fun δ P P' g q => h.mono _ _ _ (fun ds ⟨hl, k⟩ => ⟨hl, g _ k⟩) q⟩
theorem bh (h : jE X es t) : PD X (.List es pos) (Hy t) :=
 ⟨(yU h.pa).imp fun σ H Q ⟨δ, r, q⟩ => ⟨δ, r, h.mono _ _ _ (fun ds ⟨hl, k⟩ vs H1 s1 dvs => ⟨by rw [dvs.length]; exact hl, fun p hp => k _ _ (s1.trans (aN hp)) (.lst (ck.of aI) (dvs.same (aN hp)))⟩) q⟩,
  fun δ P P' g q => h.mono _ _ _ (fun ds ⟨hl, k⟩ => ⟨hl, g _ k⟩) q⟩
def oN : Expr -> Option D
 | .Constant (.str x) _ _ => some (.str x)
 | .Constant (.int i) _ _ => some (.int i)
 | .Constant (.bool b) _ _ => some (.bl b)
 | .Constant .none _ _ => some .aW
 | .UnaryOp .USub (.Constant (.int i) _ _) _ => some (.int (-i))
 | _ => none
def h_ : List Expr -> List D
 | [] => []
 | e :: es => (oN e).getD .aW :: h_ es
def Bf (ds : List D) : AD := fun _ Q => Q ds
theorem cF : ∀ {es : List Expr} (_ : es.all (fun e => (oN e).isSome) = true), jE X es (Bf (h_ es))
 | [], _ => ⟨aD.pa, fun δ P P' g h => g _ h⟩
 | e :: es, h => by
  rw [List.all_cons, Bool.and_eq_true] at h
  have ih := cF h.2
  obtain ⟨v, hv⟩ := Option.isSome_iff_exists.mp h.1
  have e1 : h_ (e :: es) = v :: h_ es := by
   show (oN e).getD .aW :: h_ es = _
   rw [hv]
   rfl
  rw [e1]
  refine ⟨?_, fun δ P P' g h => g _ h⟩
  have one : jE X (e :: es) (my (vC v) (Bf (h_ es))) := by
   unfold oN at hv
   split at hv
   ·cases hv; exact aA aZ ih rfl
   ·cases hv; exact aA aB ih rfl
   ·cases hv; exact aA CY ih rfl
   ·cases hv; exact aA bC ih rfl
   ·cases hv
    refine aA ⟨(Bi aB).pe.imp ?_, fun δ P P' g h => g _ h⟩ ih rfl
    exact fun σ H Q ⟨δ, r, q⟩ => ⟨δ, r, _, rfl, q⟩
   ·cases hv
  exact one.pa
def Gg : F2 := fun d e Q => match d, e with
 | .lst xs, .int i => ∃ r, hZ xs i = some r /\ Q r
 | .tup xs, .int i => ∃ r, hZ xs i = some r /\ Q r
 | .str z, .int i => z.length <= sizeLine /\ ∃ c, hZ z.cps.toList i = some c /\ Q (.str ⟨#[c]⟩)
 | _, _ => False
theorem HQ : cg Gg := by
 intro d e P P' f h
 unfold Gg at h ⊢
 split at h
 ·obtain ⟨r, hr, q⟩ := h; exact ⟨r, hr, f _ q⟩
 ·obtain ⟨r, hr, q⟩ := h; exact ⟨r, hr, f _ q⟩
 ·obtain ⟨hz, r, hr, q⟩ := h; exact ⟨hz, r, hr, f _ q⟩
 ·exact h.elim
theorem au.hZ {K : PySem.W.Frag} {H : Hp} {vs : List V} {ds : List D} {i : Int} {d : D} (h : au K H vs ds) (e : L2.hZ ds i = some d) : ∃ v, L2.hZ vs i = some v /\ Dv K H v d := by
 unfold L2.hZ at e ⊢
 rw [h.length]
 cases q : AE ds.length i with
 | none => rw [q] at e; cases e
 | some j =>
  rw [q] at e
  exact h.get e
theorem zj {K : PySem.W.Frag} : e_ K (IV K) Gg := by
 intro H x y d e Q hx hy h
 cases hy with
 | int i => cases hx with
  | lst h1 h2 =>
   obtain ⟨r, hr, q⟩ := h
   obtain ⟨v, hv, dv⟩ := h2.hZ hr
   exact .inl ⟨_, _, i, v, rfl, rfl, h1, hv, q _ H (aJ.refl _) dv⟩
  | tup h1 h2 =>
   obtain ⟨r, hr, q⟩ := h
   obtain ⟨v, hv, dv⟩ := h2.hZ hr
   exact .inr (.inl ⟨_, _, i, v, rfl, rfl, h1, hv, q _ H (aJ.refl _) dv⟩)
  | str z =>
   obtain ⟨hz, c, hc, q⟩ := h
   exact .inr (.inr ⟨z, i, c, rfl, rfl, hz, hc, q _ H (aJ.refl _) (.str _)⟩)
  | _ => exact h.elim
 | _ => cases hx <;> exact h.elim
def Ic : ED -> ED -> ED := mM Gg
theorem aR (ha : PD X a ta) (hb : PD X b tb) (hs : n_ b) : PD X (.Subscript a b pos) (Ic ta tb) := pq (t := oE X.K ta) (By Cy ha.pe hb.pe hs) ha.mono hb.mono zj HQ
def cutD (xs : List D) (lo hi : Option Int) : List D := (xs.drop (HT.cM xs.length 0 lo)).take (HT.cM xs.length xs.length hi - HT.cM xs.length 0 lo)
theorem au.cut {K : PySem.W.Frag} {H : Hp} {vs : List V} {ds : List D} (h : au K H vs ds) (lo hi : Option Int) : au K H (pj vs lo hi) (cutD ds lo hi) := by
 unfold pj cutD
 rw [h.length]
 exact (h.drop _).take _
def Gi (d : D) (lo hi : Option Int) (Q : D -> Prop) : Prop := match d with
 | .lst xs => Q (.lst (cutD xs lo hi))
 | .tup xs => ¬ (HT.cM xs.length 0 lo = 0 /\ HT.cM xs.length xs.length hi = xs.length) /\ Q (.tup (cutD xs lo hi))
 | .str z => z.length <= sizeLine /\ Q (.str (Txt.slice z lo hi))
 | _ => False
theorem HS {d : D} {lo hi : Option Int} {P P' : D -> Prop} (f : ∀ r, P r -> P' r) (h : Gi d lo hi P) : Gi d lo hi P' := by
 unfold Gi at h ⊢
 split at h
 ·exact f _ h
 ·exact ⟨h.1, f _ h.2⟩
 ·exact ⟨h.1, f _ h.2⟩
 ·exact h.elim
theorem Hf : zT X (fun x lo hi H Q => F4 X.K x lo hi H Q \/ F5 X.K x lo hi H Q \/ ∃ z, x = .str z /\ z.length <= sizeLine /\ Q (.str (Txt.slice z lo hi)) H) := BO.or (D7.or D6)
abbrev OD := SD -> (Option Int -> Prop) -> Prop
structure Gf (X : Cx) (e : Option Expr) (t : OD) : Prop where
 po : PO X e (fun σ H Q => ∃ δ, ay X.K H σ δ /\ t δ fun o => ∀ H', aJ H H' -> Q o H')
 mono : ∀ δ (P P' : Option Int -> Prop), (∀ d, P d -> P' d) -> t δ P -> t δ P'
def Fg : OD := fun _ Q => Q none
def Fh (t : ED) : OD := fun δ Q => t δ fun d => ∃ i, d = .int i /\ Q (some i)
theorem PO.imp {e : Option Expr} {t t' : TO} (h : PO X e t) (f : ∀ σ H Q, t' σ H Q -> t σ H Q) : PO X e t' := fun pins s σ H Q I q => h pins s σ H Q I (f σ H Q q)
theorem l0 : Gf X none Fg := ⟨PO.imp A2 fun σ H Q ⟨δ, r, h⟩ => h H (aJ.refl _), fun δ P P' g h => g _ h⟩
theorem iq (h : PD X e ta) : Gf X (some e) (Fh ta) :=
 ⟨PO.imp (A3 h.pe) fun σ H Q ⟨δ, r, q⟩ => ⟨δ, r, h.mono _ _ _ (fun d ⟨i, ed, k⟩ v H1 s1 dv => by subst ed; cases dv; exact ⟨i, rfl, k H1 s1⟩) q⟩, fun δ P P' g q => h.mono _ _ _ (fun d ⟨i, ed, k⟩ => ⟨i, ed, g _ k⟩) q⟩
def JN (ta : ED) (tl th : OD) : ED := fun δ Q => ta δ fun d => tl δ fun lo => th δ fun hi => Gi d lo hi Q
theorem iA {lo hi : Option Expr} {tl th : OD} {p2 : Pos} (he : PD X e ta) (hl : Gf X lo tl) (hh : Gf X hi th) : PD X (.Subscript e (.Slice lo hi none p2) pos) (JN ta tl th) := by
 refine ⟨(yW Hf he.pe hl.po hh.po).imp fun σ H Q ⟨δ, r, h⟩ => ⟨δ, r, he.mono _ _ _ (fun d h1 v H1 s1 dv => ⟨δ, r.same s1, hl.mono _ _ _ (fun lo h2 H2 s2 => ⟨δ, r.same (s1.trans s2), hh.mono _ _ _ (fun hi h3 H3 s3 => ?_) h2⟩) h1⟩) h⟩,
  fun δ P P' g h => he.mono _ _ _ (fun d h1 => hl.mono _ _ _ (fun lo h2 => hh.mono _ _ _ (fun hi h3 => HS g h3) h2) h1) h⟩
 have s := s1.trans (s2.trans s3)
 have dv3 := dv.same (s2.trans s3)
 clear h1 h2 dv
 cases dv3 with
 | lst h1 h2 => exact .inl ⟨_, _, rfl, h1, fun p hp => h3 _ _ (s.trans (aN hp)) (.lst (ck.of aI) ((h2.cut lo hi).same (aN hp)))⟩
 | tup h1 h2 => exact .inr (.inl ⟨_, _, rfl, h1, by rw [h2.length]; exact h3.1, fun p hp => h3.2 _ _ (s.trans (aN hp)) (.tup (eT.of aI) ((h2.cut lo hi).same (aN hp)))⟩)
 | str z => exact .inr (.inr ⟨z, rfl, h3.1, h3.2 _ H3 s (.str _)⟩)
 | _ => exact h3.elim
def BY (K : PySem.W.Frag) (ta : ED) (f : Str) : ED := fun δ Q => ta δ fun d => ∃ C gs r, d = .obj C gs /\ pV K C /\ dG K C f /\ gs.lookup f = some r /\ Q r
theorem Er {f : Str} (he : PD X e ta) (hb : attributeBase e f X.env (eval e X.env) = eval e X.env) : PD X (.Attribute e f pos) (BY X.K ta f) :=
 ⟨(Ax he.pe hb).imp fun σ H Q ⟨δ, r, h⟩ => ⟨δ, r, he.mono _ _ _ (fun d ⟨C, gs, r, ed, hc, hn, hl, k⟩ v H1 s1 dv => by
   subst ed
   cases dv with
   | obj h1 h2 =>
    obtain ⟨w, hw, dw⟩ := h2.look hl
    exact ⟨_, _, _, _, w, rfl, h1, hc, hn, hw, k _ H1 s1 dw⟩) h⟩,
  fun δ P P' g h => he.mono _ _ _ (fun d ⟨C, gs, r, ed, hc, hn, hl, k⟩ => ⟨C, gs, r, ed, hc, hn, hl, g _ k⟩) h⟩
abbrev cY := List D -> (D -> Prop) -> Prop
abbrev bS (sd : cY) : Prop := ∀ ds (P P' : D -> Prop), (∀ d, P d -> P' d) -> sd ds P -> sd ds P'
def qy (K : PySem.W.Frag) (sd : cY) : Sp := fun vs H Q _ => ∃ ds, au K H vs ds /\ sd ds (kD K H Q)
def zD (sd : cY) (t : AD) : ED := fun δ Q => t δ fun ds => sd ds Q
theorem CZ {k : Nat} {f : Addr} {fd : FuncData} {ps : List Str} {x : Str} {p : Pos} {sd : cY} (F : bX X.prog X.w X.K X.mg X.base lJ k f fd ps (qy X.K sd)) (ms : bS sd) (hr : az k X.A) (hg : Gl X x) (hm : X.mg x = some (.ref f))
  (hk : PySem.W.keepIn X.K (.ref f) = true) (hb : Binds X.K fd ps []) (ha : jE X (e :: es) t) (hdb : (x == ("__debug__" : Str)) = false := by decide)
  (hp : PE X (.Call (.Name x p) (e :: es) [] pos) (B7 (qy X.K sd) [] E0 (oA X.K t)) := by exact uK F hr hg hm hk hb .nil qm ha.pa) : PD X (.Call (.Name x p) (e :: es) [] pos) (zD sd t) :=
 ⟨hp.imp fun σ H Q ⟨δ, r, h⟩ => ⟨δ, r, ha.mono _ _ _ (fun ds h1 vs H1 s1 dvs => ⟨ds, by rw [List.append_nil]; exact dvs, ms _ _ _ (fun d k => k.on s1) h1⟩) h⟩, fun δ P P' g h => ha.mono _ _ _ (fun ds h1 => ms _ _ _ g h1) h⟩
def vB (sd : cY) (t : AD) : ED := fun δ Q => t δ fun ds => sd ds Q
def lK (K : PySem.W.Frag) (r : List V -> Hp -> VK -> Prop) (sd : cY) : Prop := ∀ H vs ds Q, au K H vs ds -> sd ds (kD K H Q) -> r vs H Q
theorem uo {r : List V -> Hp -> VK -> Prop} {sd : cY} (hp : PE X e (GF r (oA X.K t))) (ha : iK t) (hd : lK X.K r sd) (ms : bS sd) : PD X e (vB sd t) :=
 ⟨hp.imp fun σ H Q ⟨δ, r, h⟩ => ⟨δ, r, ha _ _ _ (fun ds h1 vs H1 s1 dvs => hd H1 vs ds Q dvs (ms _ _ _ (fun d k => k.on s1) h1)) h⟩, fun δ P P' g h => ha _ _ _ (fun ds h1 => ms _ _ _ g h1) h⟩
end
structure kL where
 nx : SD -> Prop
 rt : D -> Prop
 bk : SD -> Prop := fun _ => False
 ct : SD -> Prop := fun _ => False
abbrev eV := kL -> SD -> Prop
structure kL.Le (E E' : kL) : Prop where
 nx : ∀ δ, E.nx δ -> E'.nx δ
 rt : ∀ d, E.rt d -> E'.rt d
 bk : ∀ δ, E.bk δ -> E'.bk δ
 ct : ∀ δ, E.ct δ -> E'.ct δ
abbrev mv (t : eV) : Prop := ∀ E E' δ, kL.Le E E' -> t E δ -> t E' δ
def kS (K : PySem.W.Frag) (H : Hp) (Q : L2.St -> Hp -> Prop) : SD -> Prop := fun δ => ∀ σ H', aJ H H' -> ay K H' σ δ -> Q σ H'
def gf (K : PySem.W.Frag) (H : Hp) (D : Ends) : kL := ⟨kS K H D.nx, kD K H D.rt, kS K H D.bk, kS K H D.ct⟩
theorem kS.on {K : PySem.W.Frag} {H H1 : Hp} {Q : L2.St -> Hp -> Prop} {δ : SD} (s : aJ H H1) (h : kS K H Q δ) : kS K H1 Q δ := fun σ H' s' r => h σ H' (s.trans s') r
theorem oU {K : PySem.W.Frag} {H H1 : Hp} {D : Ends} (s : aJ H H1) : kL.Le (gf K H D) (gf K H1 D) := ⟨fun _ h => h.on s, fun _ h => h.on s, fun _ h => h.on s, fun _ h => h.on s⟩
def oS (K : PySem.W.Frag) (t : eV) : TS := fun D σ H => ∃ δ, ay K H σ δ /\ t (gf K H D) δ
structure tN (X : Cx) (st : Stmt) (t : eV) : Prop where
 ps : PS X st (oS X.K t)
 mono : mv t
structure gY (X : Cx) (st : List Stmt) (t : eV) : Prop where
 ps : hX X st (oS X.K t)
 mono : mv t
section
variable {X : Cx} {st : Stmt} {rest body els : List Stmt} {t u : eV} {e c : Expr} {te : ED} {uc : TD} {pos : Pos}
theorem PS.imp {t t' : TS} (h : PS X st t) (f : ∀ D σ H, t' D σ H -> t D σ H) : PS X st t' := fun pins s σ H D I q => h pins s σ H D I (f D σ H q)
theorem hX.imp {t t' : TS} (h : hX X rest t) (f : ∀ D σ H, t' D σ H -> t D σ H) : hX X rest t' := fun pins s σ H D I q => h pins s σ H D I (f D σ H q)
def Fw : eV := fun E δ => E.nx δ
def Fx (t u : eV) : eV := fun E δ => t { E with nx := u E } δ
theorem aV : gY X [] Fw := ⟨hX.imp pG fun D σ H ⟨δ, r, h⟩ => h σ H (aJ.refl _) r, fun E E' δ l h => l.nx _ h⟩
theorem aG (h1 : tN X st t) (h2 : gY X rest u) : gY X (st :: rest) (Fx t u) :=
 ⟨hX.imp (gv h1.ps h2.ps) fun D σ H ⟨δ, r, h⟩ => ⟨δ, r, h1.mono { gf X.K H D with nx := u (gf X.K H D) } _ _ ⟨fun δ' q σ' H' s' r' => ⟨δ', r', h2.mono _ _ _ (oU s') q⟩, fun _ q => q, fun _ q => q, fun _ q => q⟩ h⟩,
  fun E E' δ l h => h1.mono { E with nx := u E } _ _ ⟨fun δ' q => h2.mono _ _ _ l q, l.rt, l.bk, l.ct⟩ h⟩
theorem aE (h1 : tN X st t) : gY X [st] t := ⟨pH h1.ps, h1.mono⟩
def Hc (te : ED) : eV := fun E δ => te δ E.rt
theorem aM (he : PD X e te) : tN X (.Return (some e) pos) (Hc te) := ⟨PS.imp (Dy he.pe) fun D σ H ⟨δ, r, h⟩ => ⟨δ, r, h⟩, fun E E' δ l h => he.mono _ _ _ l.rt h⟩
def Fv (te : ED) : eV := fun E δ => te δ fun _ => E.nx δ
theorem dO (he : PD X e te) (hs : swapsWith e none pos.line X.env = pure false := by rfl) : tN X (.Expr e pos) (Fv te) :=
 ⟨PS.imp (uN he.pe hs) fun D σ H ⟨δ, r, h⟩ => ⟨δ, r, he.mono _ _ _ (fun d q v H1 s1 dv => q σ H1 s1 (r.same s1)) h⟩, fun E E' δ l h => he.mono _ _ _ (fun d q => l.nx _ q) h⟩
def BB (i : Nat) (te : ED) : eV := fun E δ => te δ fun d => E.nx (δ.set i (some d))
theorem ar {i : Nat} {x : Str} {pos' : Pos} (hN : X.N.Nodup) (hi : X.N[i]? = some x) (hx : Loc X.env.scope x) (he : PD X e te) (hs : swapsWith e (some (.Name x pos')) pos.line X.env = pure false := by rfl)
  (hf : X.fn x = true \/ X.env.scope.names.lookup x = some .local := by first | exact .inl rfl | exact .inr rfl | assumption) : tN X (.Assign [.Name x pos'] e pos) (BB i te) :=
 ⟨PS.imp (sQ hN hi hx he.pe hs hf) fun D σ H ⟨δ, r, h⟩ => ⟨δ, r, he.mono _ _ _ (fun d q v H1 s1 dv => q _ H1 s1 ((r.same s1).set i dv)) h⟩, fun E E' δ l h => he.mono _ _ _ (fun d q => l.nx _ q) h⟩
def I_ (uc : TD) (t u : eV) : eV := fun E δ => uc δ fun b => if b = true then t E δ else u E δ
theorem bP (hc : jt X c uc) (ha : gY X body t) (hb : gY X els u) : tN X (.If c body els pos) (I_ uc t u) := by
 refine ⟨PS.imp (Bz hc.pt ha.ps hb.ps) fun D σ H ⟨δ, r, h⟩ => ⟨δ, r, hc.mono _ _ _ (fun k q H1 s1 => ?_) h⟩, fun E E' δ l h => hc.mono _ _ _ (fun k q => ?_) h⟩
 ·cases k with
  | true => rw [if_pos rfl] at q ⊢; exact ⟨δ, r.same s1, ha.mono _ _ _ (oU s1) q⟩
  | false => rw [if_neg Bool.false_ne_true] at q ⊢; exact ⟨δ, r.same s1, hb.mono _ _ _ (oU s1) q⟩
 ·cases k with
  | true => rw [if_pos rfl] at q ⊢; exact ha.mono _ _ _ l q
  | false => rw [if_neg Bool.false_ne_true] at q ⊢; exact hb.mono _ _ _ l q
def D2 : eV := fun _ _ => False
theorem jX : tN X st D2 := ⟨PS.imp yd fun D σ H ⟨δ, r, h⟩ => h, fun E E' δ l h => h⟩
end
def bM (N : List Str) (ds : List D) : SD := ds.map some ++ List.replicate (N.length - ds.length) none
theorem dq {K : PySem.W.Frag} {H : Hp} {N : List Str} {vs : List V} {ds : List D} (h : au K H vs ds) : ay K H (L2.start N vs) (bM N ds) := by
 unfold L2.start bM
 have hl := h.length
 refine ⟨by rw [List.length_append, List.length_append, List.length_map, List.length_map, List.length_replicate, List.length_replicate, hl], fun i d e => ?_⟩
 by_cases hi : i < ds.length
 ·rw [List.getElem?_append_left (by rw [List.length_map]; exact hi), List.getElem?_map] at e
  cases q : ds[i]? with
  | none => rw [q] at e; cases e
  | some d' =>
   rw [q] at e
   cases e
   obtain ⟨v, hv, dv⟩ := h.get q
   exact ⟨v, by rw [List.getElem?_append_left (by rw [List.length_map]; omega), List.getElem?_map, hv]; rfl, dv⟩
 ·rw [List.getElem?_append_right (by rw [List.length_map]; omega), List.getElem?_replicate] at e
  split at e <;> cases e
section
variable {P : Program} {w : World} {K : PySem.W.Frag} {mg : Str -> Option Value} {base : Heap}
abbrev Bx (P : Program) (w : World) (K : PySem.W.Frag) (mg : Str -> Option Value) (base : Heap) (N : List Str) (qual : Str) (st : Stmt) (f : Addr) (cdv : Value) (A : Around) (outer : List Env) (s : Shared) (H : Hp) (E : XK) : Cx := (kr lJ P w K mg base N qual (aC st) f cdv A outer s H E).DS
theorem IT {x qual : Str} {st : Stmt} {f : Addr} {fd : FuncData} {N ps : List Str} {k : Nat} {sd : cY} {t : eV} (F : rG K x qual st f fd) (S : aF N ps (aC st)) (len : ∀ ds Q, sd ds Q -> ds.length = ps.length)
  (hb : ∀ (cdv : Value) (A : Around) (outer : List Env) (s : Shared) (H : Hp) (E : XK), az k (A.deeper (envOfC qual (aC st) s.heap.objs.size f cdv)) -> gY (Bx P w K mg base N qual st f cdv A outer s H E) (af st) t)
  (hr : ∀ ds Q, sd ds Q -> t { nx := fun _ => Q .aW, rt := Q } (bM N ds)) : bX P w K mg base lJ (k + 1) f fd ps (qy K sd) := by
 refine F.ok S (fun vs H Q E ⟨ds, dvs, h⟩ => by rw [dvs.length]; exact len ds _ h) (fun cdv A outer s H vs Q E hroom ⟨ds, dvs, h⟩ => ?_)
 have B := hb cdv A outer s H E hroom
 refine ⟨_, B.ps, bM N ds, dq dvs, ?_⟩
 refine B.mono { nx := fun _ => kD K H Q .aW, rt := kD K H Q } _ _ ⟨fun δ q σ H' s' r => q _ H' s' .aW, fun d q => q, fun _ q => q.elim, fun _ q => q.elim⟩ (hr ds _ h)
end
structure CF (K : PySem.W.Frag) (J : It) (H1 : Hp) (ds : List D) : Prop where
 go : ∀ i H', aJ H1 H' -> i < ds.length -> J.go i H'
 stop : ∀ H', aJ H1 H' -> J.stop ds.length H'
 wI : ∀ i H' x H'', aJ H1 H' -> i < ds.length -> J.wI i H' x H'' -> aJ H' H'' /\ ∃ d, ds[i]? = some d /\ ∃ Hx, aJ H1 Hx /\ Dv K Hx x d /\ (∀ a o, Hx a = some o -> H1 a = some o \/ H' a = none) /\ aJ Hx H''
structure PId (X : Cx) (tg iter : Expr) (ti : AD) : Prop where
 pi : PI X tg iter (fun σ H R => ∃ δ, ay X.K H σ δ /\ ti δ fun ds => ∀ J H1, aJ H H1 -> CF X.K J H1 ds -> R J H1)
 mono : iK ti
def Cw : D -> Option (List D)
 | .lst xs => some xs
 | .tup xs => some xs
 | .str y => some (y.cps.toList.map fun c => .str ⟨#[c]⟩)
 | _ => none
def CN (te : ED) : AD := fun δ Q => te δ fun d => ∃ ds, Cw d = some ds /\ Q ds
section
variable {X : Cx} {tg : Expr} {l : Expr} {te : ED}
theorem PI.imp {wi wi' : TI} (h : PI X tg l wi) (f : ∀ σ H R, wi' σ H R -> wi σ H R) : PI X tg l wi' := fun pins s σ H R I q => h pins s σ H R I (f σ H R q)
theorem Ds {tl : TE} (hl : PE X l tl) : PI X tg l (fun σ H R => tl σ H fun x H1 => (∃ a, x = .ref a /\ (∃ xs, ck X.K H1 a xs) /\ R (IF X.K a) H1) \/ (∃ a, x = .ref a /\ (∃ xs, eT X.K H1 a xs) /\ R (IG X.K a) H1) \/ ∃ y, x = .str y /\ R (Gu y) H1) := by
 intro pins s σ H R I h
 refine bE (hl pins s σ H _ I h) fun v s1 ⟨x, H1, I1, r1, q1⟩ => ?_
 have hf : ∀ b ∈ [s1.heap.objs.size], gW X pins H1 b := fun b hb => by
  have e : b = s1.heap.objs.size := by simpa using hb
  subst e
  exact I1.xQ (Nat.le_refl _) (I1.ao.fresh (Nat.le_refl _))
 rcases q1 with ⟨a, e, ⟨xs, hq⟩, q⟩ | ⟨a, e, ⟨xs, hq⟩, q⟩ | ⟨y, e, q⟩
 ·subst e
  cases (show v = Value.ref a from r1)
  obtain ⟨its, rv, p, hz⟩ := I1.list hq
  exact wpAny_pyIter_list p.isList ⟨s1.heap.objs.size, [s1.heap.objs.size], _, _, H1, rfl, I1.kept (t' := s1.toks) fun b o e => Heap.get?_push_of_some _ e, vx a _, ⟨_, Heap.get?_push_size _ rfl, rfl, rfl⟩, hf, q⟩
 ·subst e
  cases (show v = Value.ref a from r1)
  obtain ⟨its, rv, p, hz⟩ := I1.tuple hq
  exact wpAny_pyIter_tuple (show s1.heap.IsTuple a its.toArray from p) ⟨s1.heap.objs.size, [s1.heap.objs.size], _, _, H1, rfl, I1.kept (t' := s1.toks) fun b o e => Heap.get?_push_of_some _ e, tE a _, ⟨_, Heap.get?_push_size _ rfl, rfl, rfl⟩, hf, q⟩
 ·subst e
  obtain ⟨t, rfl⟩ := r1
  cases ha : y.cps.all (· < 128)
  ·exact wpAny_pyIter_wide ha ⟨s1.heap.objs.size, [s1.heap.objs.size], _, _, H1, rfl, I1.kept (t' := s1.toks) fun b o e => Heap.get?_push_of_some _ e, vz y t _, ⟨_, Heap.get?_push_size _ rfl, rfl, rfl⟩, hf, q⟩
  ·exact wpAny_pyIter_ascii ha ⟨s1.heap.objs.size, [s1.heap.objs.size], _, _, H1, rfl, I1.kept (t' := s1.toks) fun b o e => Heap.get?_push_of_some _ e, vy y t _, ⟨_, Heap.get?_push_size _ rfl, rfl, rfl⟩, hf, q⟩
theorem lj (he : PD X l te) : PId X tg l (CN te) := by
 refine ⟨PI.imp (Ds he.pe) fun σ H R ⟨δ, r, h⟩ => ⟨δ, r, he.mono _ _ _ (fun d ⟨ds, e, q⟩ v H1 s1 dv => ?_) h⟩, fun δ P P' g h => he.mono _ _ _ (fun d ⟨ds, e, q⟩ => ⟨ds, e, g _ q⟩) h⟩
 cases dv with
 | lst h1 h2 =>
  cases e
  refine .inl ⟨_, rfl, ⟨_, h1⟩, q _ H1 s1 ⟨fun i H' s' hi => ?_, fun H' s' => ⟨_, s'.seq h1, by rw [h2.length]; exact Nat.le_refl _⟩, fun i H' x H'' s' hi y => ?_⟩⟩
  ·obtain ⟨v, hv, _⟩ := h2.get (List.getElem?_eq_getElem hi)
   exact ⟨_, v, s'.seq h1, hv⟩
  ·obtain ⟨rfl, y2⟩ := y
   obtain ⟨d, hd, dv⟩ := h2.xT (y2 _ (s'.seq h1))
   exact ⟨aJ.refl _, d, hd, H1, aJ.refl _, dv, fun _ _ z => .inl z, s'⟩
 | tup h1 h2 =>
  cases e
  refine .inr (.inl ⟨_, rfl, ⟨_, h1⟩, q _ H1 s1 ⟨fun i H' s' hi => ?_, fun H' s' => ⟨_, kh s' h1, by rw [h2.length]; exact Nat.le_refl _⟩, fun i H' x H'' s' hi y => ?_⟩⟩)
  ·obtain ⟨v, hv, _⟩ := h2.get (List.getElem?_eq_getElem hi)
   exact ⟨_, v, kh s' h1, hv⟩
  ·obtain ⟨rfl, y2⟩ := y
   obtain ⟨d, hd, dv⟩ := h2.xT (y2 _ (kh s' h1))
   exact ⟨aJ.refl _, d, hd, H1, aJ.refl _, dv, fun _ _ z => .inl z, s'⟩
 | str y =>
  cases e
  refine .inr (.inr ⟨_, rfl, q _ H1 s1 ⟨fun i H' s' hi => ?_, fun H' s' => ?_, fun i H' x H'' s' hi y => ?_⟩⟩)
  ·have hi' : i < y.cps.size := by simpa using hi
   exact hi'
  ·show y.cps.size <= _
   simp
  ·obtain ⟨rfl, c, hc, rfl⟩ := y
   refine ⟨aJ.refl _, .str ⟨#[c]⟩, ?_, H1, aJ.refl _, .str _, fun _ _ z => .inl z, s'⟩
   rw [List.getElem?_map, Array.getElem?_toList, hc]
   rfl
 | _ => cases e
def zU (t : AD) : AD := fun δ Q => t δ fun ds => ∃ n : Int, ds = [.int n] /\ -(2 ^ 62) <= n /\ n < 2 ^ 62 /\ Q ((List.range n.toNat).map fun i : Nat => .int (0 + (i : Int)))
theorem xa {K : PySem.W.Frag} {H : Hp} (lo : Int) (n : Nat) : CF K (Gd lo n) H ((List.range n).map fun i : Nat => .int (lo + (i : Int))) := by
 refine ⟨fun i H' s' hi => ?_, fun H' s' => ?_, fun i H' x H'' s' hi y => ?_⟩
 ·have hi' : i < n := by simpa using hi
  exact hi'
 ·show n <= _
  simp
 ·obtain ⟨rfl, rfl⟩ := y
  have hi' : i < n := by simpa using hi
  exact ⟨aJ.refl _, .int (lo + i), by rw [List.getElem?_map, List.getElem?_range hi']; rfl, H, aJ.refl _, .int _, fun _ _ z => .inl z, s'⟩
theorem fU {a : Expr} {ta : AD} {p pos : Pos} (hg : Gl X "range") (hm : X.mg "range" = none) (ha : jE X [a] ta) (hs : starEach [a] X.env = [(false, eval a X.env)] := by rfl) : PId X tg (.Call (.Name "range" p) [a] [] pos) (zU ta) := by
 refine ⟨PI.imp (vX hg hm ha.pa hs) fun σ H R ⟨δ, r, h⟩ => ⟨δ, r, ha.mono _ _ _ (fun ds ⟨n, e, h1, h2, q⟩ vs H1 s1 dvs => ?_) h⟩, fun δ P P' g h => ha.mono _ _ _ (fun ds ⟨n, e, h1, h2, q⟩ => ⟨n, e, h1, h2, g _ q⟩) h⟩
 subst e
 cases dvs with
 | cons a b =>
  cases a
  cases b
  exact ⟨n, rfl, h1, h2, q _ H1 s1 (xa 0 n.toNat)⟩
end
abbrev zM := D -> SD -> (SD -> Prop) -> Prop
structure Ef (X : Cx) (tg : Expr) (g : zM) : Prop where
 pg : PG X tg (fun v σ H Q => ∃ d δ, Dv X.K H v d /\ ay X.K H σ δ /\ g d δ (kS X.K H Q))
 mono : ∀ d δ (P P' : SD -> Prop), (∀ δ, P δ -> P' δ) -> g d δ P -> g d δ P'
def hName (i : Nat) : zM := fun d δ Q => Q (δ.set i (some d))
section
variable {X : Cx} {tg iter : Expr} {body : List Stmt} {ti : AD} {g : zM} {tb : eV} {pos : Pos}
theorem PG.imp {t t' : TG} (h : PG X tg t) (f : ∀ v σ H Q, t' v σ H Q -> t v σ H Q) : PG X tg t' := fun pins s σ H v u Q I r q => h pins s σ H v u Q I r (f v σ H Q q)
theorem lg {i : Nat} {x : Str} (hN : X.N.Nodup) (hi : X.N[i]? = some x) (hx : Loc X.env.scope x) (hf : X.fn x = true \/ X.env.scope.names.lookup x = some .local := by first | exact .inl rfl | exact .inr rfl | assumption) : Ef X (.Name x pos) (hName i) :=
 ⟨PG.imp (bw hN hi hx hf) fun v σ H Q ⟨d, δ, dv, r, q⟩ => q _ H (aJ.refl _) (r.set i dv), fun d δ P P' f q => f _ q⟩
def Hb (ti : AD) (g : zM) (tb : eV) : eV := fun E δ => ti δ fun ds => ∃ inv : Nat -> SD -> Prop, inv 0 δ /\
 (∀ i d δ', ds[i]? = some d -> inv i δ' -> g d δ' fun δ2 => tb { E with nx := inv (i + 1), ct := inv (i + 1), bk := E.nx } δ2) /\ ∀ δ', inv ds.length δ' -> E.nx δ'
theorem B4 (hp : PassesOwn (model X.prog X.w) X.A X.env X.xe) (hc : X.calm = true) (hi : PId X tg iter ti) (hg : Ef X tg g) (hb : gY X body tb) (hs : ∀ x, foldedSetIterable iter X.env x = pure x := by intro _; rfl) :
  tN X (.For tg iter body [] pos) (Hb ti g tb) := by
 refine ⟨PS.imp (yb hp hc hi.pi hg.pg hb.ps hs) fun D σ H ⟨δ, r, h⟩ => ⟨δ, r, hi.mono _ _ _ (fun ds ⟨inv, i0, step, fin⟩ J H1 s1 it => ?_) h⟩, fun E E' δ l h => hi.mono _ _ _ (fun ds ⟨inv, i0, step, fin⟩ => ⟨inv, i0, fun i d δ' hd hin => hg.mono _ _ _ _ (fun δ2 q => hb.mono { E with nx := inv (i + 1), ct := inv (i + 1), bk := E.nx } _ _ ⟨fun _ q => q, l.rt, l.nx, fun _ q => q⟩ q) (step i d δ' hd hin), fun δ' q => l.nx _ (fin δ' q)⟩) h⟩
 refine ⟨fun i m σ' H' => m = ds.length - i /\ i <= ds.length /\ aJ H1 H' /\ ∃ δ', ay X.K H' σ' δ' /\ inv i δ', ⟨ds.length, rfl, Nat.zero_le _, aJ.refl _, δ, r.same s1, i0⟩, ?_⟩
 rintro i m σ' H' ⟨rfl, hle, s', δ', r', hin⟩
 by_cases hlt : i < ds.length
 ·refine .inr ⟨it.go i H' s' hlt, fun σ2 H2 => aJ H1 H2 /\ ∃ δ2, ay X.K H2 σ2 δ2 /\ inv (i + 1) δ2, fun σ2 H2 ⟨s2, δ2, r2, h2⟩ => ⟨ds.length - (i + 1), by omega, rfl, hlt, s2, δ2, r2, h2⟩, fun x H'' y => ?_⟩
  obtain ⟨s2, d, hd, Hx, _, dvx, _, sx⟩ := it.wI i H' x H'' s' hlt y
  have dv := dvx.same sx
  have sA := s'.trans s2
  refine ⟨d, δ', dv, r'.same s2, hg.mono _ _ _ _ (fun δ2 q σ3 H3 s3 r3 => ⟨δ2, r3, hb.mono { gf X.K H D with nx := inv (i + 1), ct := inv (i + 1), bk := (gf X.K H D).nx } _ _ ?_ q⟩) (step i d δ' hd hin)⟩
  have sB := s1.trans (sA.trans s3)
  exact ⟨fun δ3 q3 σ4 H4 s4 r4 => ⟨sA.trans (s3.trans s4), δ3, r4, q3⟩, fun _ q3 => q3.on sB, fun _ q3 => q3.on sB, fun δ3 q3 σ4 H4 s4 r4 => ⟨sA.trans (s3.trans s4), δ3, r4, q3⟩⟩
 ·have e : i = ds.length := by omega
  subst e
  exact .inl ⟨it.stop H' s', fin δ' hin σ' H' (s1.trans s') r'⟩
end
structure rJ (X : Cx) (ifs : List Expr) (t : TD) : Prop where
 Ft : tO X ifs (oT X.K t)
 mono : cj t
def EJ : TD := fun _ Q => Q true
section
variable {X : Cx} {c : Expr} {ut : TD}
theorem tO.imp {ifs : List Expr} {t t' : TT} (h : tO X ifs t) (f : ∀ σ H Q, t' σ H Q -> t σ H Q) : tO X ifs t' := fun pins s σ H Q I q => h pins s σ H Q I (f σ H Q q)
theorem fM : rJ X [] EJ := ⟨tO.imp A8 fun σ H Q ⟨δ, r, h⟩ => h H (aJ.refl _), fun δ P P' g h => g _ h⟩
theorem EH (h : jt X c ut) : rJ X [c] ut := ⟨A9 h.pt, h.mono⟩
end
def ie (caps : List Nat) (δ : SD) : SD := caps.map fun j => (δ[j]?).getD none
def rB (caps : List Nat) (ti : AD) (tt : TD) (te : ED) : ED := fun δ Q => ti δ fun ds => ∃ outs : List (Option D), outs.length = ds.length /\
 (∀ (i : Nat) (d : D) (o : Option D), ds[i]? = some d -> outs[i]? = some o -> tt (some d :: ie caps δ) fun b => b = o.isSome /\ (b = true -> te (some d :: ie caps δ) fun y => o = some y)) /\ ds.length < sizeLine /\ Q (.lst (outs.filterMap id))
theorem pD (p : D -> Bool) (gg : D -> D) : ∀ ds : List D, (ds.map fun d => if p d = true then some (gg d) else none).filterMap id = (ds.filter p).map gg
 | [] => rfl
 | d :: ds => by
  rw [List.map_cons, List.filter_cons]
  cases hp : p d with
  | true =>
   rw [if_pos rfl, if_pos rfl, List.map_cons, <- pD p gg ds]
   rfl
  | false =>
   rw [if_neg Bool.false_ne_true, if_neg Bool.false_ne_true, <- pD p gg ds]
   rfl
theorem oK {K : PySem.W.Frag} {H : Hp} {σ : L2.St} {δ : SD} (r : ay K H σ δ) {x : V} {d : D} (dv : Dv K H x d) (caps : List Nat) : ay K H (some x :: caps.map fun j => (σ[j]?).getD none) (some d :: ie caps δ) := by
 refine ⟨by unfold ie; simp, fun i e h => ?_⟩
 cases i with
 | zero => simp at h; subst h; exact ⟨x, rfl, dv⟩
 | succ i =>
  unfold ie at h
  simp only [List.getElem?_cons_succ, List.getElem?_map] at h ⊢
  cases q : caps[i]? with
  | none => rw [q] at h; cases h
  | some j =>
   rw [q] at h
   have h' : (δ[j]?).getD none = some e := by simpa using h
   have h2 : δ[j]? = some (some e) := by
    cases z : δ[j]? with
    | none => rw [z] at h'; cases h'
    | some o => rw [z] at h'; exact congrArg some h'
   obtain ⟨v, hv, dv⟩ := r.get j e h2
   exact ⟨v, by simp [hv], dv⟩
section
variable {X : Cx} {scope : Scope} {cl : List (Str × Addr)} {x : Str} {cn : List Str} {caps : List Nat} {elt tg iter : Expr} {ifs : List Expr} {ti : AD} {tt : TD} {te : ED} {pos : Pos}
theorem rq (mi : iK ti) : aw (rB caps ti tt te) := fun δ P P' g h => mi _ _ _ (fun ds ⟨outs, hol, each, hlen, q⟩ => ⟨outs, hol, each, hlen, g _ q⟩) h
end
def jS : D -> Option String
 | .aW => some "NoneType"
 | .bl _ => some "bool"
 | .int _ => some "int"
 | .str _ => some "str"
 | .lst _ => some "list"
 | .tup _ => some "tuple"
 | .dK _ => some "dict"
 | .dT _ => some "dict"
 | .obj _ _ => none
 | .adr _ => none
 | .exc _ _ _ => none
structure gX (K : PySem.W.Frag) (C : Addr) : Prop where
 cl : pV K C
 ha : PySem.W.findIn K (.ref C) "__class__" = some (some (.builtin "object.__class__"))
 hn : PySem.W.specialIn K (.builtin "object.__class__") "__get__" = some (some (.builtin "getset_descriptor.__get__"))
 HB : PySem.W.takesIn K (.builtin "object.__class__") = some true
 hm : PySem.W.mroIn K C (.type "object") = some true
inductive EW (K : PySem.W.Frag) : D -> Value -> Prop
 | k {d : D} {T : String} (h : jS d = some T) : EW K d (.type T)
 | o {C : Addr} {gs : List (Str × D)} (h : gX K C) : EW K (.obj C gs) (.ref C)
section
variable {X : Cx} {pins : List (Addr × Obj)} {σ : L2.St} {H : Hp} {s : Shared}
theorem z_ {x : V} {u t : Value} {d : D} (I : Inv X pins σ H s) (rx : RelV x u) (dv : Dv X.K H x d) (ty : EW X.K d t) : ∃ Hh, PySem.W.KitX X.K u t Hh /\ Hh s.heap /\ u ≠ .builtin "__main__.__loader__#opaque" := by
 cases ty with
 | k h =>
  cases dv with
  | aW => cases h; cases (show u = Value.none from rx); exact ⟨_, PySem.W.kitx_none, True.intro, fun z => nomatch z⟩
  | bl y => cases h; cases (show u = Value.bool y from rx); exact ⟨_, PySem.W.kitx_bool, True.intro, fun z => nomatch z⟩
  | int i => cases h; obtain ⟨t, q⟩ := (show ∃ t, u = Value.int i t from rx); cases q; exact ⟨_, PySem.W.kitx_int, True.intro, fun z => nomatch z⟩
  | str y => cases h; obtain ⟨t, q⟩ := (show ∃ t, u = Value.str y t from rx); cases q; exact ⟨_, PySem.W.kitx_str, True.intro, fun z => nomatch z⟩
  | @lst a xs ds h1 h2 =>
   cases h
   cases (show u = Value.ref a from rx)
   obtain ⟨its, _, pl, _⟩ := I.list h1
   obtain ⟨o, n, e1, e2, _⟩ := pl
   exact ⟨_, PySem.W.kitx_list, ⟨o, e1, e2⟩, fun z => nomatch z⟩
  | @tup a xs ds h1 h2 =>
   cases h
   cases (show u = Value.ref a from rx)
   obtain ⟨its, _, pl, _⟩ := I.tuple h1
   obtain ⟨o, n, e1, e2, _⟩ := IsTup.of_get pl
   exact ⟨_, PySem.W.kitx_tuple, ⟨o, e1, e2⟩, fun z => nomatch z⟩
  | @dK a kvs gs h1 h2 =>
   cases h
   cases (show u = Value.ref a from rx)
   obtain ⟨_, _, vs, _, p⟩ := (show aQ X.prog X.w H s.heap a (.dK kvs) from h1.ok I.ao)
   obtain ⟨o, es, ep, g1, g2, _⟩ := p
   exact ⟨_, PySem.W.kitx_dict, ⟨o, g1, g2.1⟩, fun z => nomatch z⟩
  | @dT a kvs gs h1 h2 =>
   cases h
   cases (show u = Value.ref a from rx)
   obtain ⟨_, _, xs, _, o, es, ep, g1, g2, _⟩ := (show aQ X.prog X.w H s.heap a (.dT kvs) from h1.ok I.ao)
   exact ⟨_, PySem.W.kitx_dict, ⟨o, g1, g2.1⟩, fun z => nomatch z⟩
  | obj h1 h2 => cases h
  | adr _ => cases h
  | exc _ _ _ => cases h
 | o h =>
  cases dv with
  | @obj a C dx fs gs h1 h2 =>
   cases (show u = Value.ref a from rx)
   obtain ⟨mA, O, _⟩ := lp I.ao h1
   obtain ⟨od, J, _⟩ := O.look
   exact ⟨_, PySem.W.kitx_own (h.cl.get _) h.cl.hd h.ha h.hn h.HB h.hm, J, fun z => nomatch z⟩
end
section
variable {X : Cx} {e : Expr} {te : ED} {pos p p2 : Pos}
theorem uk {c : Value} {vc : V} (rc : ∀ u, RelV vc u -> u = c) : gS X (.builtin "isinstance") (fun xs H Q => ∃ x d t b, xs = [x, vc] /\ Dv X.K H x d /\ EW X.K d t /\ PySem.W.kitOne X.K t c = some b /\ Q (.bl b) H) := by
 intro pins s σ H xs us Q I r h
 obtain ⟨x, d, t, b, rfl, dv, ty, e, q⟩ := h
 obtain ⟨u, w', rfl, r1, r2⟩ := vals2 r
 obtain rfl := rc w' r2
 obtain ⟨Hh, Z, hh, hx⟩ := z_ I r1 dv ty
 exact PySem.W.kia_one Z I.iN hh e hx fun tk => ⟨.bl b, H, I.tok _, rfl, q⟩
def EN (K : PySem.W.Frag) (c : Value) (te : ED) : ED := fun δ Q => te δ fun d => ∃ t b, EW K d t /\ PySem.W.kitOne K t c = some b /\ Q (.bl b)
theorem wt {c : Value} {vc : V} (he : PD X e te) {ec : Expr} (hp : PE X (.Call (.Name "isinstance" p) [e, ec] [] pos) (GF (fun xs H Q => ∃ x d t b, xs = [x, vc] /\ Dv X.K H x d /\ EW X.K d t /\ PySem.W.kitOne X.K t c = some b /\ Q (.bl b) H) (nZ (oE X.K te) (nZ (tC vc) yz)))) :
  PD X (.Call (.Name "isinstance" p) [e, ec] [] pos) (EN X.K c te) :=
 ⟨hp.imp fun σ H Q ⟨δ, r, h⟩ => ⟨δ, r, he.mono _ _ _ (fun d ⟨t, b, ty, ek, k⟩ v H1 s1 dv => ⟨v, d, t, b, rfl, dv, ty, ek, k _ H1 s1 (.bl _)⟩) h⟩, fun δ P P' g h => he.mono _ _ _ (fun d ⟨t, b, ty, ek, k⟩ => ⟨t, b, ty, ek, g _ k⟩) h⟩
theorem rR {T : String} {x : Str} (he : PD X e te) (hg : Gl X "isinstance") (hm : X.mg "isinstance" = none) (hg2 : Gl X x) (hm2 : X.mg x = none) (hv2 : bootBuiltins x = some (.type T)) (hn : x ≠ "__name__" := by decide) (hd : (x == ("__debug__" : Str)) = false := by decide)
  (hs : starEach [e, .Name x p2] X.env = (false, eval e X.env) :: starEach [.Name x p2] X.env := by rfl) : PD X (.Call (.Name "isinstance" p) [e, .Name x p2] [] pos) (EN X.K (.type T) te) :=
 wt (vc := .ty T) he (eC (uk fun u z => z) hg hm boot_isinstance (b_ he.pe (b_ (uJ (v := .ty T) hg2 hm2 hv2 rfl hn hd) gu) hs) (he := hs))
end
def rl (T : String) (d : D) : Option Bool := (jS d).map fun k => k == T || (k == "bool" && T == "int")
theorem AO {K : PySem.W.Frag} {d : D} {k T : String} (hk : jS d = some k) (hT : T ∈ ["bool", "int", "str", "list", "tuple", "dict"]) : PySem.W.kitOne K (.type k) (.type T) = some (k == T || (k == "bool" && T == "int")) := by
 have hk' : k ∈ ["NoneType", "bool", "int", "str", "list", "tuple", "dict"] := by cases d <;> cases hk <;> simp
 simp only [List.mem_cons, List.not_mem_nil, or_false] at hk' hT
 rcases hk' with rfl | rfl | rfl | rfl | rfl | rfl | rfl <;> rcases hT with rfl | rfl | rfl | rfl | rfl | rfl <;> kernel_rfl
def uW (T : String) (te : ED) : ED := fun δ Q => te δ fun d => ∃ b, rl T d = some b /\ Q (.bl b)
theorem PD.rl {X : Cx} {e : Expr} {te : ED} {T : String} (h : PD X e (EN X.K (.type T) te)) (m : aw te) (hT : T ∈ ["bool", "int", "str", "list", "tuple", "dict"]) : PD X e (uW T te) :=
 ⟨h.pe.imp fun σ H Q ⟨δ, r, q⟩ => ⟨δ, r, m _ _ _ (fun d ⟨b, eb, k⟩ => by
   unfold DC.rl at eb
   cases hk : jS d with
   | none => rw [hk] at eb; cases eb
   | some kk =>
    rw [hk] at eb
    have e1 : (kk == T || (kk == "bool" && T == "int")) = b := by simpa using eb
    exact ⟨_, b, .k hk, by rw [AO hk hT, e1], k⟩) q⟩, fun δ P P' g q => m _ _ _ (fun d ⟨b, eb, k⟩ => ⟨b, eb, g _ k⟩) q⟩
def HF : D -> Option Int
 | .str x => if x.length <= sizeLine then some x.length else none
 | .lst xs => some xs.length
 | .tup xs => some xs.length
 | _ => none
def yq : cY := fun ds Q => ∃ d n, ds = [d] /\ HF d = some n /\ Q (.int n)
theorem FZ : bS yq := fun ds P P' g ⟨d, n, e, h, q⟩ => ⟨d, n, e, h, g _ q⟩
theorem xE {K : PySem.W.Frag} : lK K (fun xs H Q => ∃ x n, xs = [x] /\ Eb K x H n /\ Q (.int n) H) yq := by
 intro H vs ds Q dvs ⟨d, n, e, h, q⟩
 subst e
 cases dvs with
 | cons dv r =>
  cases r
  cases dv with
  | str x =>
   have h' : (if x.length <= sizeLine then some (x.length : Int) else none) = some n := h
   by_cases hz : x.length <= sizeLine
   ·rw [if_pos hz] at h'
    cases h'
    exact ⟨_, x.length, rfl, ⟨hz, rfl⟩, q _ H (aJ.refl _) (.int _)⟩
   ·rw [if_neg hz] at h'
    cases h'
  | lst h1 h2 => cases h; exact ⟨_, _, rfl, .inl ⟨_, h1, rfl⟩, by rw [h2.length]; exact q _ H (aJ.refl _) (.int _)⟩
  | tup h1 h2 => cases h; exact ⟨_, _, rfl, .inr ⟨_, h1, rfl⟩, by rw [h2.length]; exact q _ H (aJ.refl _) (.int _)⟩
  | _ => cases h
section
variable {X : Cx} {e : Expr} {es : List Expr} {t : AD} {pos p : Pos}
theorem jI (hg : Gl X "len") (hm : X.mg "len" = none) (ha : jE X (e :: es) t) (h1 : starEach (e :: es) X.env = (false, eval e X.env) :: starEach es X.env := by rfl) (h2 : (backTo pos (starEach es X.env)).any (·.1) = false := by rfl) :
  PD X (.Call (.Name "len" p) (e :: es) [] pos) (vB yq t) := uo (eC wZ hg hm PySem.boot_len ha.pa (he := h1) (hpl := h2)) ha.mono xE FZ
theorem m6 : bootBuiltins "int" = some (.type "int") := by decide +kernel
theorem rM : bootBuiltins "bool" = some (.type "bool") := by decide +kernel
theorem boot_tuple : bootBuiltins "tuple" = some (.type "tuple") := by decide +kernel
theorem uh : bootBuiltins "all" = some (.builtin "all") := by decide +kernel
def yp : cY := fun ds Q => (∃ i, ds = [.int i] /\ Q (.int i)) \/ ∃ k : Bool, ds = [.bl k] /\ Q (.int (if k then 1 else 0))
theorem FY : bS yp := fun ds P P' g h => h.elim (fun ⟨i, e, q⟩ => .inl ⟨i, e, g _ q⟩) fun ⟨k, e, q⟩ => .inr ⟨k, e, g _ q⟩
theorem xD {K : PySem.W.Frag} : lK K (fun xs H Q => (∃ i, xs = [.int i] /\ Q (.int i) H) \/ ∃ k, xs = [.bl k] /\ Q (.int (if k then 1 else 0)) H) yp := by
 intro H vs ds Q dvs h
 rcases h with ⟨i, e, q⟩ | ⟨k, e, q⟩
 ·subst e
  cases dvs with
  | cons dv r => cases r; cases dv; exact .inl ⟨i, rfl, q _ H (aJ.refl _) (.int _)⟩
 ·subst e
  cases dvs with
  | cons dv r => cases r; cases dv; exact .inr ⟨k, rfl, q _ H (aJ.refl _) (.int _)⟩
theorem p6 (hg : Gl X "int") (hm : X.mg "int" = none) (ha : jE X (e :: es) t) (h1 : starEach (e :: es) X.env = (false, eval e X.env) :: starEach es X.env := by rfl) (h2 : (backTo pos (starEach es X.env)).any (·.1) = false := by rfl) : PD X (.Call (.Name "int" p) (e :: es) [] pos) (vB yp t) := uo (j9 uj hg hm m6 ha.pa (he := h1) (hpl := h2)) ha.mono xD FY
def yn : cY := fun ds Q => ∃ (bs : List Bool), ds = [.lst (bs.map D.bl)] /\ Q (.bl (bs.all id))
theorem FW : bS yn := fun ds P P' g ⟨bs, e, q⟩ => ⟨bs, e, g _ q⟩
theorem uX {K : PySem.W.Frag} {H : Hp} : ∀ {vs : List V} {bs : List Bool}, au K H vs (bs.map D.bl) -> vs = bs.map V.bl
 | [], [], _ => rfl
 | _, _ :: _, .cons (.bl _) r => by rw [uX r]; rfl
theorem xB {K : PySem.W.Frag} {A : Around} (hh : A.handled = none) : lK K (fun xs H Q => ∃ (p : Addr) (bs : List Bool), xs = [.ref p] /\ A.handled = none /\ ck K H p (bs.map V.bl) /\ Q (.bl (bs.all id)) H) yn := by
 intro H vs ds Q dvs ⟨bs, e, q⟩
 subst e
 cases dvs with
 | cons dv r =>
  cases r
  cases dv with
  | lst h1 h2 =>
   rw [uX h2] at h1
   exact ⟨_, bs, rfl, hh, h1, q _ H (aJ.refl _) (.bl _)⟩
theorem Bh (hh : X.A.handled = none) (hg : Gl X "all") (hm : X.mg "all" = none) (ha : jE X (e :: es) t) (h1 : starEach (e :: es) X.env = (false, eval e X.env) :: starEach es X.env := by rfl) (h2 : (backTo pos (starEach es X.env)).any (·.1) = false := by rfl) : PD X (.Call (.Name "all" p) (e :: es) [] pos) (vB yn t) := uo (eC wY hg hm uh ha.pa (he := h1) (hpl := h2)) ha.mono (xB hh) FW
end
structure Ig (X : Cx) (C : Addr) (m : Str) (sd : cY) (dd : List D) (k : Nat) (f : Addr) (fd : FuncData) (ps : List Str) (dvs : List V) (ds : List Value) : Prop where
 cls : pV X.K C
 Ad : Meth X.K C m f
 fn : bX X.prog X.w X.K X.mg X.base lJ k f fd ps (qy X.K sd)
 mono : bS sd
 room : az k X.A
 binds : Binds X.K fd ps ds
 vals : Vals dvs ds
 dflt : ∀ H, au X.K H dvs dd
structure MH (X : Cx) (C : Addr) (m : Str) (sd : cY) (dd : List D) : Prop where
 ex : ∃ k f fd ps dvs ds, Ig X C m sd dd k f fd ps dvs ds
def km (ok : Addr -> Prop) (m : Str) (sd : Addr -> cY) (dd : List D) (ta : ED) (t : AD) : ED := fun δ Q => ta δ fun d => ∃ C gs, d = .obj C gs /\ gs.lookup m = none /\ ok C /\ t δ fun ds => sd C (d :: (ds ++ dd)) Q
section
variable {X : Cx} {ok : Addr -> Prop} {o e : Expr} {es : List Expr} {m : Str} {sd : Addr -> cY} {dd : List D} {ta : ED} {t : AD} {pos apos : Pos}
def su (X : Cx) (m : Str) (sd : Addr -> cY) (dd : List D) (ta : TE) (t : TA) : TE := fun σ H Q => ta σ H fun x H1 => ∃ a C dx fs, x = .ref a /\ Rd H1 a (.ins C dx fs) /\ fs.lookup m = none /\ MH X C m (sd C) dd /\
 ∀ dvs, (∀ H, au X.K H dvs dd) -> t σ H1 fun vs H2 => qy X.K (sd C) (x :: (vs ++ dvs)) H2 Q E0
theorem yV {ta : TE} {t : TA} {pl : Sem Bool} (he : PE X o ta) (ha : PA X (e :: es) t)
  (hst : starEach (e :: es) X.env = (false, eval e X.env) :: starEach es X.env := by rfl) (hpl : (backTo pos (starEach es X.env)).any (·.1) = false := by rfl)
  (ht : eval (.Call (.Attribute o m apos) (e :: es) [] pos) X.env = (do
   let ov <- eval o X.env
   standAt apos.atName
   let (f, first) <- holding [ov] (getMethod ov m pl)
   callWith pos f first (backTo pos (starEach (e :: es) X.env)) (backToKw pos (keywordEach [] X.env))) := by rfl) :
  PE X (.Call (.Attribute o m apos) (e :: es) [] pos) (su X m sd dd ta t) := by
 intro pins s σ H Q I h
 refine PySem.W.methodCall_KW (pl := pl) (bE (he pins s σ H _ I h) fun u s1 ⟨x, H1, I1, rx, a, C, dx, fs, ex, ea, l, ⟨k, f, fd, ps, dvs, ds, M⟩, q⟩ => ?_) ht
 subst ex
 obtain rfl : u = Value.ref a := rx
 refine gi I1 ea M.cls M.Ad l ?_
 refine PySem.W.callWith_K (first := [.ref a]) (h₀ := X.base) I.ok.mod.Bo M.Ad.kp (bE (ha pos pins s1 σ H1 _ I1 (q dvs M.dflt)) fun us s2 ⟨vs, H2, I2, r, q2⟩ => ⟨I2.iN, ?_⟩) hst hpl
 exact sY (us := .ref a :: us) (vs := .ref a :: vs) M.fn M.room M.binds M.vals qm I2 (.cons rfl r) q2
theorem vW {ta : TE} {pl : Sem Bool} (he : PE X o ta)
  (ht : eval (.Call (.Attribute o m apos) [] [] pos) X.env = (do
   let ov <- eval o X.env
   standAt apos.atName
   let (f, first) <- holding [ov] (getMethod ov m pl)
   callWith pos f first (backTo pos (starEach [] X.env)) (backToKw pos (keywordEach [] X.env))) := by rfl) :
  PE X (.Call (.Attribute o m apos) [] [] pos) (su X m sd dd ta yz) := by
 intro pins s σ H Q I h
 refine PySem.W.methodCall_KW (pl := pl) (bE (he pins s σ H _ I h) fun u s1 ⟨x, H1, I1, rx, a, C, dx, fs, ex, ea, l, ⟨k, f, fd, ps, dvs, ds, M⟩, q⟩ => ?_) ht
 subst ex
 obtain rfl : u = Value.ref a := rx
 refine gi I1 ea M.cls M.Ad l ?_
 exact PySem.W.callWith_K0 (first := [.ref a]) I1.iN M.Ad.kp (sY (us := [.ref a]) (vs := [.ref a]) M.fn M.room M.binds M.vals qm I1 (.cons rfl .nil) (q dvs M.dflt))
theorem xv (hM : ∀ C, ok C -> MH X C m (sd C) dd) (ma : aw ta) (mt : iK t) : aw (km ok m sd dd ta t) := fun δ P P' g h => ma _ _ _ (fun d ⟨C, gs, e, l, M, q⟩ => ⟨C, gs, e, l, M, mt _ _ _ (fun ds k => by
 obtain ⟨_, _, _, _, _, _, M'⟩ := hM C M
 exact M'.mono _ _ _ g k) q⟩) h
theorem uF (hM : ∀ C, ok C -> MH X C m (sd C) dd) (ma : aw ta) (mt : iK t) {σ : L2.St} {H : Hp} {Q : VK} (h : oE X.K (km ok m sd dd ta t) σ H Q) : su X m sd dd (oE X.K ta) (oA X.K t) σ H Q := by
 obtain ⟨δ, r, h⟩ := h
 refine ⟨δ, r, ma _ _ _ (fun d ⟨C, gs, ed, l, M, q⟩ v H1 s1 dv => ?_) h⟩
 subst ed
 cases dv with
 | @obj a C dx fs gs h1 h2 =>
  refine ⟨_, C, dx, fs, rfl, h1, h2.none l, hM C M, fun dvs hd => ⟨δ, r.same s1, mt _ _ _ (fun ds k vs H2 s2 dvs' => ?_) q⟩⟩
  obtain ⟨_, _, _, _, _, _, M'⟩ := hM C M
  exact ⟨_, .cons (Dv.same s2 (.obj h1 h2)) (dvs'.append (hd H2)), M'.mono _ _ _ (fun d k => k.on (s1.trans s2)) k⟩
theorem Cd {pl : Sem Bool} (hM : ∀ C, ok C -> MH X C m (sd C) dd) (he : PD X o ta) (ha : jE X (e :: es) t)
  (hst : starEach (e :: es) X.env = (false, eval e X.env) :: starEach es X.env := by rfl) (hpl : (backTo pos (starEach es X.env)).any (·.1) = false := by rfl)
  (ht : eval (.Call (.Attribute o m apos) (e :: es) [] pos) X.env = (do
   let ov <- eval o X.env
   standAt apos.atName
   let (f, first) <- holding [ov] (getMethod ov m pl)
   callWith pos f first (backTo pos (starEach (e :: es) X.env)) (backToKw pos (keywordEach [] X.env))) := by rfl) :
  PD X (.Call (.Attribute o m apos) (e :: es) [] pos) (km ok m sd dd ta t) :=
 ⟨(yV he.pe ha.pa hst hpl ht).imp fun σ H Q h => uF hM he.mono ha.mono h, xv hM he.mono ha.mono⟩
theorem zg {pl : Sem Bool} (hM : ∀ C, ok C -> MH X C m (sd C) dd) (he : PD X o ta)
  (ht : eval (.Call (.Attribute o m apos) [] [] pos) X.env = (do
   let ov <- eval o X.env
   standAt apos.atName
   let (f, first) <- holding [ov] (getMethod ov m pl)
   callWith pos f first (backTo pos (starEach [] X.env)) (backToKw pos (keywordEach [] X.env))) := by rfl) :
  PD X (.Call (.Attribute o m apos) [] [] pos) (km ok m sd dd ta oB) :=
 ⟨(vW he.pe ht).imp fun σ H Q h => by
   have q := uF (t := oB) hM he.mono (fun δ P P' g h => g _ h) h
   obtain ⟨δ, r, h'⟩ := q
   refine ⟨δ, r, he.mono _ _ _ (fun d k v H1 s1 dv => ?_) h'⟩
   obtain ⟨a, C, dx, fs, e1, e2, l, M, z⟩ := k v H1 s1 dv
   refine ⟨a, C, dx, fs, e1, e2, l, M, fun dvs hd => ?_⟩
   obtain ⟨δ', r', z'⟩ := z dvs hd
   exact z' [] H1 (aJ.refl _) .nil, xv hM he.mono fun δ P P' g h => g _ h⟩
end
abbrev FD := List (Str × D)
structure mq where
 nx : SD -> FD -> Prop
 rt : FD -> Prop
 fin : FD -> Prop
abbrev ue := mq -> SD -> FD -> Prop
structure mq.Le (E E' : mq) : Prop where
 nx : ∀ δ gs, E.nx δ gs -> E'.nx δ gs
 rt : ∀ gs, E.rt gs -> E'.rt gs
 fin : ∀ gs, E.fin gs -> E'.fin gs
abbrev Bc (t : ue) : Prop := ∀ E E' δ gs, mq.Le E E' -> t E δ gs -> t E' δ gs
def putD (f : Str) (d : D) : FD -> FD
 | [] => [(f, d)]
 | (g, e) :: r => if g = f then (g, d) :: r else (g, e) :: putD f d r
structure wB (K : PySem.W.Frag) (C a dx : Addr) (H : Hp) (gs : FD) : Prop where
 ex : ∃ fs, H a = some (.ins C dx fs) /\ dQ K (cz H a dx) fs gs
 ne : dx ≠ a
def oR (K : PySem.W.Frag) (C a dx : Addr) (H : Hp) (D : Ends) : mq :=
 ⟨fun δ gs => ∀ σ H', aJ (cz H a dx) (cz H' a dx) -> ay K (cz H' a dx) σ δ -> wB K C a dx H' gs -> D.nx σ H', fun gs => ∀ H', aJ (cz H a dx) (cz H' a dx) -> wB K C a dx H' gs -> D.rt .aW H', fun gs => ∀ σ H', aJ (cz H a dx) (cz H' a dx) -> wB K C a dx H' gs -> D.nx σ H'⟩
def oI (K : PySem.W.Frag) (C : Addr) (t : Addr -> ue) : TS := fun D σ H => ∃ a dx δ gs, ay K (cz H a dx) σ δ /\ wB K C a dx H gs /\ t a (oR K C a dx H D) δ gs
structure EU (X : Cx) (C : Addr) (st : List Stmt) (t : Addr -> ue) : Prop where
 ps : hX X st (oI X.K C t)
 mono : ∀ a, Bc (t a)
structure Ge (X : Cx) (C : Addr) (st : Stmt) (t : Addr -> ue) : Prop where
 ps : PS X st (oI X.K C t)
 mono : ∀ a, Bc (t a)
section
variable {X : Cx} {C : Addr} {st : Stmt} {rest : List Stmt} {t u : Addr -> ue} {e : Expr} {te : ED} {pos pos' p : Pos} {f : Str}
theorem zl {K : PySem.W.Frag} {a dx : Addr} {H H1 : Hp} {D : Ends} (s : aJ (cz H a dx) (cz H1 a dx)) : mq.Le (oR K C a dx H D) (oR K C a dx H1 D) :=
 ⟨fun _ _ h σ H' s' r g => h σ H' (s.trans s') r g, fun _ h H' s' g => h H' (s.trans s') g, fun _ h σ H' s' g => h σ H' (s.trans s') g⟩
def HD (t u : Addr -> ue) : Addr -> ue := fun a E δ gs => t a { nx := u a E, rt := E.rt, fin := fun _ => False } δ gs
theorem a_ (h1 : Ge X C st t) (h2 : EU X C rest u) : EU X C (st :: rest) (HD t u) :=
 ⟨hX.imp (gv h1.ps h2.ps) fun D σ H ⟨a, dx, δ, gs, r, g, h⟩ => ⟨a, dx, δ, gs, r, g, h1.mono a { nx := u a (oR X.K C a dx H D), rt := (oR X.K C a dx H D).rt, fin := fun _ => False } _ _ _
   ⟨fun δ' gs' q σ' H' s' r' g' => ⟨a, dx, δ', gs', r', g', h2.mono a _ _ _ _ (zl s') q⟩, fun gs' q => q, fun gs' q => q.elim⟩ h⟩,
  fun a E E' δ gs l h => h1.mono a { nx := u a E, rt := E.rt, fin := fun _ => False } _ _ _ ⟨fun δ' gs' q => h2.mono a _ _ _ _ l q, l.rt, fun _ q => q.elim⟩ h⟩
def FF (C : Addr) (t : eV) : Addr -> ue := fun a E δ gs => t { nx := fun _ => E.fin gs, rt := fun d => d = .aW /\ E.rt gs } (δ.set 0 (some (.obj C gs)))
def HC : Addr -> ue := fun a E δ gs => E.fin gs
theorem Bn : EU X C [] HC := ⟨hX.imp pG fun D σ H ⟨a, dx, δ, gs, r, g, h⟩ => h σ H (aJ.refl _) g, fun a E E' δ gs l h => l.fin _ h⟩
def FE (t : eV) : Addr -> ue := fun a E δ gs => t { nx := fun δ' => E.nx δ' gs, rt := fun d => d = .aW /\ E.rt gs } δ
theorem ik {t : eV} (h : tN X st t) : Ge X C st (FE t) := by
 refine ⟨PS.imp (sP h.ps) fun D σ H ⟨a, dx, δ, gs, r, ⟨⟨fs, ha, hf⟩, ne⟩, q⟩ => ⟨a, dx, C, fs, ha, δ, r, ?_⟩, fun a E E' δ gs l q => h.mono { nx := fun δ' => E.nx δ' gs, rt := fun d => d = .aW /\ E.rt gs } _ _ ⟨fun δ' k => l.nx _ _ k, fun d k => ⟨k.1, l.rt _ k.2⟩, fun _ k => k, fun _ k => k⟩ q⟩
 refine h.mono { nx := fun δ' => (oR X.K C a dx H D).nx δ' gs, rt := fun d => d = .aW /\ (oR X.K C a dx H D).rt gs } _ _ ⟨fun δ' k σ' H' s' r' z1 z2 _ => ?_, fun d k v H' s' dv z1 z2 _ => ?_, fun _ k => k.elim, fun _ k => k.elim⟩ q
 ·have hs : cz (shown H' a dx C fs) a dx = H' := iD z1 z2
  exact k σ' _ (by rw [hs]; exact s') (by rw [hs]; exact r') ⟨⟨fs, jn, by rw [hs]; exact dQ.same s' hf⟩, ne⟩
 ·have hs : cz (shown H' a dx C fs) a dx = H' := iD z1 z2
  obtain ⟨e, k⟩ := k
  subst e
  cases dv
  exact k _ (by rw [hs]; exact s') ⟨⟨fs, jn, by rw [hs]; exact dQ.same s' hf⟩, ne⟩
theorem dQ.put {K : PySem.W.Frag} {H : Hp} {v : V} {d : D} (dv : Dv K H v d) : ∀ {fs : List (Str × V)} {gs : FD}, dQ K H fs gs -> dQ K H (eR f v fs) (putD f d gs)
 | _, _, .nil => .cons dv .nil
 | _, _, .cons (k := k) h r => by
  unfold eR putD
  by_cases q : k = f
  ·rw [if_pos q, if_pos q]; exact .cons dv r
  ·rw [if_neg q, if_neg q]; exact .cons h (dQ.put dv r)
theorem dQ.length {K : PySem.W.Frag} {H : Hp} : ∀ {fs : List (Str × V)} {gs : FD}, dQ K H fs gs -> fs.length = gs.length
 | _, _, .nil => rfl
 | _, _, .cons _ r => congrArg (· + 1) (dQ.length r)
def FH (K : PySem.W.Frag) (C : Addr) (f : Str) (te : ED) : Addr -> ue := fun a E δ gs => te δ fun d => δ[0]? = some (some (.adr a)) /\ pV K C /\ dG K C f /\ gs.length < 1000 /\ E.nx δ (putD f d gs)
theorem FI {x : Str} (hN : X.N[0]? = some x) (hv : wO X.env.scope x) (he : PD X e te) (hs : swapsWith e (some (.Attribute (.Name x p) f pos')) pos.line X.env = pure false := by rfl) (hd : (x == ("__debug__" : Str)) = false := by decide)
  (hcd : (x == ("__classdict__" : Str)) = false := by decide) : Ge X C (.Assign [.Attribute (.Name x p) f pos'] e pos) (FH X.K C f te) := by
 refine ⟨PS.imp (Dx (iu hN hv hd hcd) (sM he.pe) hs) fun D σ H ⟨a, dx, δ, gs, r, ⟨⟨fs, ha, hf⟩, ne⟩, q⟩ => ⟨a, dx, C, fs, ha, δ, r, ?_⟩, fun a E E' δ gs l q => he.mono _ _ _ (fun d ⟨k0, k1, k2, k3, k⟩ => ⟨k0, k1, k2, k3, l.nx _ _ k⟩) q⟩
 refine he.mono _ _ _ (fun d ⟨k0, k1, k2, k3, k⟩ v H' s' dv z1 z2 _ => ?_) q
 obtain ⟨w, hw, dw⟩ := r.get 0 _ k0
 cases dw
 refine ⟨_, hw, a, C, dx, fs, rfl, jn, k1, k2, by rw [hf.length]; exact k3, ?_⟩
 rw [v8]
 have hs : cz (shown H' a dx C (eR f v fs)) a dx = H' := iD z1 z2
 exact k σ _ (by rw [hs]; exact s') (by rw [hs]; exact r.same s') ⟨⟨_, jn, by rw [hs]; exact (dQ.same s' hf).put dv⟩, ne⟩
theorem lh {H : Hp} {a dx : Addr} : aJ (cz H a dx) H := fun b o h => by
 unfold cz at h
 split at h
 ·cases h
 ·exact h
theorem wB.dv {K : PySem.W.Frag} {a dx : Addr} {H : Hp} {gs : FD} (g : wB K C a dx H gs) : Dv K H (.ref a) (.obj C gs) := by
 obtain ⟨⟨fs, h, hf⟩, _⟩ := g
 exact .obj (.of h) (dQ.same lh hf)
theorem wB.on {K : PySem.W.Frag} {a dx : Addr} {H H' : Hp} {gs : FD} (g : wB K C a dx H gs) (s : aJ H H') : wB K C a dx H' gs := by
 obtain ⟨⟨fs, h, hf⟩, ne⟩ := g
 refine ⟨⟨fs, s _ _ h, dQ.same (fun b o q => ?_) hf⟩, ne⟩
 unfold cz at q ⊢
 split at q
 ·cases q
 ·rename_i z; rw [if_neg z]; exact s _ _ q
theorem qv {H H' : Hp} {a dx : Addr} (s : aJ H H') : aJ (cz H a dx) (cz H' a dx) := fun b o q => by
 unfold cz at q ⊢
 split at q
 ·cases q
 ·rename_i z; rw [if_neg z]; exact s _ _ q
theorem il {t : eV} (h : gY X rest t) : EU X C rest (fun a E δ gs => δ[0]? = some (some (.adr a)) /\ FF C t a E δ gs) := by
 refine ⟨hX.imp h.ps fun D σ H ⟨a, dx, δ, gs, r, g, k0, q⟩ => ⟨δ.set 0 (some (.obj C gs)), ?_, ?_⟩, fun a E E' δ gs l ⟨k0, q⟩ => ⟨k0, h.mono { nx := fun _ => E.fin gs, rt := fun d => d = .aW /\ E.rt gs } _ _ ⟨fun δ' k => l.fin _ k, fun d k => ⟨k.1, l.rt _ k.2⟩, fun _ k => k, fun _ k => k⟩ q⟩⟩
 ·obtain ⟨w, hw, dw⟩ := r.get 0 _ k0
  cases dw
  have z := (r.same lh).set 0 g.dv
  rw [show σ.set 0 (some (.ref a)) = σ from by
   refine List.ext_getElem? fun i => ?_
   rw [List.getElem?_set]
   split
   ·rename_i q2
    subst q2
    split
    ·exact hw.symm
    ·rename_i q3
     rw [List.getElem?_eq_none (by omega)] at hw
     cases hw
   ·rfl] at z
  exact z
 ·refine h.mono { nx := fun _ => (oR X.K C a dx H D).fin gs, rt := fun d => d = .aW /\ (oR X.K C a dx H D).rt gs } _ _ ⟨fun δ' k σ' H' s' r' => k σ' H' (qv s') (g.on s'), fun d k v H' s' dv => ?_, fun _ k => k.elim, fun _ k => k.elim⟩ q
  obtain ⟨e, k⟩ := k
  subst e
  cases dv
  exact k H' (qv s') (g.on s')
end
abbrev Bd := List D -> (FD -> Prop) -> Prop
abbrev rH (sd : Bd) : Prop := ∀ ds (P P' : FD -> Prop), (∀ d, P d -> P' d) -> sd ds P -> sd ds P'
def Hi (K : PySem.W.Frag) (C : Addr) (sd : Bd) : Sp := fun vs H Q _ => ∃ a dx vs' ds, vs = .ref a :: vs' /\ wB K C a dx H [] /\ au K (cz H a dx) vs' ds /\ sd ds fun gs => ∀ H', aJ (cz H a dx) (cz H' a dx) -> wB K C a dx H' gs -> Q .aW H'
section
variable {P : Program} {w : World} {K : PySem.W.Frag} {mg : Str -> Option Value} {base : Heap}
structure mW (K : PySem.W.Frag) (x qual : Str) (st : Stmt) (f : Addr) (fd : FuncData) : Prop where
 ex : ∃ (oc : Value) (od : Option Addr) (dV kV doc pm : Value) (an : Option Addr) (cdv ct : Value) (osl : Array (Option Value)),
  fd = PySem.W.fnOf x qual (bq st) (af st) (aC st) dV kV doc pm an cdv ct /\ K.lookup f = some ⟨oc, od, .func fd, osl⟩ /\ PySem.W.codeIn K cdv qual = true
 kp : PySem.W.keepIn K (.ref f) = true
theorem mW.ok {P : Program} {w : World} {K : PySem.W.Frag} {mg : Str -> Option Value} {base : Heap} {x qual : Str} {st : Stmt} {f : Addr} {fd : FuncData} {N ps : List Str} {k : Nat} {sp : Sp} (F : mW K x qual st f fd) (S : aF N ps (aC st)) (len : ∀ vs H Q E, sp vs H Q E -> vs.length = ps.length)
  (hbody : ∀ (cdv : Value) (A : Around) (outer : List Env) (s : Shared) (H : Hp) (vs : List V) (Q : VK) (E : XK), az k (A.deeper (envOfC qual (aC st) s.heap.objs.size f cdv)) -> sp vs H Q E ->
   ∃ t, hX (kr lJ P w K mg base N qual (aC st) f cdv A outer s H E).DS (af st) t /\ t { nx := fun _ H' => Q .aW H', rt := Q } (L2.start N vs) H) : bX P w K mg base lJ (k + 1) f fd ps sp := by
 obtain ⟨oc, od, dV, kV, doc, pm, an, cdv, ct, osl, rfl, lk, hcd⟩ := F.ex
 refine qF lk hcd S len fun A outer s H vs Q E hr hsp => ?_
 obtain ⟨t, h, q⟩ := hbody cdv A outer s H vs Q E hr hsp
 exact ⟨t, h.DS, q⟩
theorem Iw {x qual : Str} {st : Stmt} {f C : Addr} {fd : FuncData} {N ps : List Str} {k : Nat} {sd : Bd} {t : Addr -> ue} (F : mW K x qual st f fd) (S : aF N ps (aC st)) (len : ∀ ds Q, sd ds Q -> ds.length + 1 = ps.length)
  (hb : ∀ (cdv : Value) (A : Around) (outer : List Env) (s : Shared) (H : Hp) (E : XK), az k (A.deeper (envOfC qual (aC st) s.heap.objs.size f cdv)) -> EU (Bx P w K mg base N qual st f cdv A outer s H E) C (af st) t)
  (hr : ∀ a ds Q, sd ds Q -> t a { nx := fun _ => Q, rt := Q, fin := Q } (bM N (.adr a :: ds)) []) : bX P w K mg base lJ (k + 1) f fd ps (Hi K C sd) := by
 refine F.ok S (fun vs H Q E ⟨a, dx, vs', ds, e, g, dvs, h⟩ => by rw [e, List.length_cons, dvs.length]; exact len ds _ h) (fun cdv A outer s H vs Q E hroom ⟨a, dx, vs', ds, e, g, dvs, h⟩ => ?_)
 have B := hb cdv A outer s H E hroom
 subst e
 refine ⟨_, B.ps, a, dx, bM N (.adr a :: ds), [], dq (.cons (.adr a) dvs), g, ?_⟩
 let Q' : FD -> Prop := fun gs => ∀ H', aJ (cz H a dx) (cz H' a dx) -> wB K C a dx H' gs -> Q .aW H'
 exact B.mono a { nx := fun _ => Q', rt := Q', fin := Q' } _ _ _ ⟨fun δ gs q σ H' s' r' g' => q H' s' g', fun gs q H' s' g' => q H' s' g', fun gs q σ H' s' g' => q H' s' g'⟩ (hr a ds _ h)
end
section
variable {X : Cx} {C f : Addr} {fd : FuncData} {ps : List Str} {sd : Bd} {dd : List D} {dvs : List V} {dls : List Value} {k : Nat} {x : Str} {e : Expr} {es : List Expr} {t : AD} {p pos : Pos}
def CA (C : Addr) (sd : Bd) (dd : List D) (t : AD) : ED := fun δ Q => t δ fun ds => sd (ds ++ dd) fun gs => Q (.obj C gs)
theorem Cb (M : Mk X.K C f) (F : bX X.prog X.w X.K X.mg X.base lJ k f fd ps (Hi X.K C sd)) (ms : rH sd) (hr : az (k + 1) X.A) (hg : Gl X x) (hm : X.mg x = some (.ref C)) (hb : Binds X.K fd ps dls) (hv : Vals dvs dls) (hd : ∀ H, au X.K H dvs dd)
  (ha : jE X (e :: es) t) (hdb : (x == ("__debug__" : Str)) = false := by decide) (he : starEach (e :: es) X.env = (false, eval e X.env) :: starEach es X.env := by rfl) (hpl : (backTo pos (starEach es X.env)).any (·.1) = false := by rfl) :
  PD X (.Call (.Name x p) (e :: es) [] pos) (CA C sd dd t) := by
 refine ⟨(Ay M F hr hg hm hb hv qm ha.pa hdb he hpl).imp fun σ H Q ⟨δ, r, h⟩ => ⟨δ, r, ha.mono _ _ _ (fun ds q vs H1 s1 dvs' y dx hy hdx ne => ?_) h⟩, fun δ P P' g h => ha.mono _ _ _ (fun ds q => ms _ _ _ (fun gs z => g _ z) q) h⟩
 have hs : cz (shown H1 y dx C []) y dx = H1 := iD hy hdx
 refine ⟨y, dx, _, _, rfl, ⟨⟨[], jn, .nil⟩, ne⟩, ?_, ms _ _ _ (fun gs z H' s' g' => ⟨rfl, z _ H' ?_ g'.dv⟩) q⟩
 ·show au X.K (cz (shown H1 y dx C []) y dx) _ _
  rw [hs]
  exact dvs'.append (hd H1)
 ·have s2 : aJ (cz (shown H1 y dx C []) y dx) (cz H' y dx) := s'
  rw [hs] at s2
  exact s1.trans (s2.trans lh)
end
end DC
namespace L2
open PySem PySem.Spec PyProof.Rows
section
variable {X : Cx}
theorem qS {ns : List Int} : ∀ {us : List Value}, Vals (ns.map V.int) us -> IntsAre us ns := by
 induction ns with
 | nil => intro us r; cases r; exact .nil
 | cons n ns ih =>
  intro us r
  cases r with
  | cons a r =>
   obtain ⟨t, e⟩ := a
   subst e
   exact .cons _ _ (ih r)
theorem wa : gS X (.builtin "sum") (fun xs H Q => ∃ (p : Addr) (ns : List Int), xs = [.ref p] /\ X.A.handled = none /\ ck X.K H p (ns.map V.int) /\ Q (.int ns.sum) H) := by
 intro pins s σ H xs us Q I r h
 obtain ⟨p, ns, rfl, hh, hS, q⟩ := h
 obtain ⟨u, rfl, ru⟩ := vals1 r
 cases (show u = Value.ref p from ru)
 obtain ⟨its, rv, pl, _⟩ := I.list hS
 have hl := pl.isList
 have hi := qS rv
 obtain ⟨xs, hx⟩ := hi.allInts.items
 have hl' : s.heap.IsList p (intItems xs) := hx ▸ hl
 refine sum_intListG hh hl' fun h' tk t' hk => ?_
 have e1 : ns = xs.toList.map (·.1) := by
  rw [<- nums_intItems, <- hx]
  exact (show numsOf its.toArray.toList = ns from hi.numsOf).symm
 have e2 : preSum (numAt xs) xs.size = ns.sum := by
  rw [preSum_eq, List.take_of_length_le (by simp), e1]
 rw [e2]
 exact ⟨.int ns.sum, H, I.kept hk, ⟨_, rfl⟩, q⟩
end
section
variable {prog : Program} {w : World} {A : Around} {R : Result -> Shared -> Prop} {I : Addr} {fp wr : List Addr} {n : Nat} {P : Nat -> Value -> Prop} {St : Nat -> Heap -> Prop} {E : Value -> Shared -> Prop} {s : Shared} {Q : Value -> Shared -> Prop}
abbrev bestAt (S : Addr) (items : Array Value) (h : Heap) : Prop := ∃ c, h.get? S = some { cls := .type "list", dict := none, data := .seq items c, slots := #[] }
theorem yA {kw : List (Str × Value)} (W : Walks prog w A.in1 I fp wr n P St) (bt : Nat -> Nat -> Bool) (hcmp : CmpOf prog w A.in1 .Gt P bt) (S : Addr) (hSf : S ∉ fp) :
  ∀ (k j : Nat) (s : Shared) (vb : Value), j + 1 + k = n -> St (j + 1) s.heap -> P (argBest bt j) vb -> bestAt S #[vb, vb] s.heap ->
  (∀ v h' tk, P (argBest bt (n - 1)) v -> (∀ b o, b ∉ wr -> b ≠ S -> s.heap.get? b = some o -> h'.get? b = some o) -> R (.ok (.ret v)) { s with heap := h', toks := tk }) ->
  codeAny (model prog w) A (.builtin "max.loop" ⟨[.ref I, .none, .ref S], kw⟩) R s := by
 have hSw : S ∉ wr := fun h => hSf (W.sub _ h)
 have hname : (toString "max" ++ toString ".loop" : String) = "max.loop" := by decide
 intro k
 induction k with
 | zero =>
  intro j s vb hj hst hP ⟨c, hS⟩ hR
  refine codeAny_builtin F.entry_max_loop ?_
  rw [Around.under_plainId F.plain_max_loop _]
  show wpAny _ A.in1 (seqItems? (.ref S) >>= _) _ _ s
  refine wpAny_bind (wpAny_seqItems hS rfl ?_)
  show wpAny _ A.in1 (tryCatch (pyNext (.ref I)) _ >>= _) _ _ s
  refine wpAny_bind (wpAny_tryCatch (W.done s _ _ ((show j + 1 = n by omega) ▸ hst) fun h' tk hk => ?_))
  show wpAny _ A.in1 (updateSeq S (fun _ => #[]) >>= _) _ _ _
  refine wpAny_bind (wpAny_updateSeq (hk S _ hSw hS) rfl (wpAny_bind (wpAny_letGo (wpAny_pure ?_))))
  exact hR vb _ tk (by rw [show n - 1 = j by omega]; exact hP) fun b o h1 h2 e => (Heap.get?_update_other _ _ (Ne.symm h2)).trans (hk b o h1 e)
 | succ k ih =>
  intro j s vb hj hst hP ⟨c, hS⟩ hR
  refine codeAny_builtin F.entry_max_loop ?_
  rw [Around.under_plainId F.plain_max_loop _]
  show wpAny _ A.in1 (seqItems? (.ref S) >>= _) _ _ s
  refine wpAny_bind (wpAny_seqItems hS rfl ?_)
  show wpAny _ A.in1 (tryCatch (pyNext (.ref I)) _ >>= _) _ _ s
  refine wpAny_bind (wpAny_tryCatch (W.item (j + 1) s _ _ (by omega) hst fun v h' tk hv hst' hk => ?_))
  have hS' := hk S _ hSw hS
  show wpAny _ A.in1 (tryCatch (holding [v, v] (richCompare .Gt v vb >>= _)) _ >>= _) _ _ _
  refine wpAny_bind (wpAny_tryCatch (wpAny_holding (wpAny_bind (hcmp (j + 1) (argBest bt j) v vb _ _ _ hv hP ?_))))
  refine wpAny_bind (wpAny_holding (wpAny_truthy_bool (wpAny_bind (wpAny_letGo (wpAny_pure ?_)))))
  cases hb : bt (j + 1) (argBest bt j) with
  | true =>
   simp only [if_true]
   refine wpAny_bind (wpAny_updateSeq hS' rfl (wpAny_bind (wpAny_letGo ?_)))
   rw [hname]
   refine wpAny_pure ⟨plainId_quiet F.plain_max_loop _, ih (j + 1) _ v (by omega) (W.frame _ _ _ hst' fun b hbf o e => ?_) (by simp only [argBest, hb, if_true]; exact hv) ⟨_, Heap.get?_update_self _ hS' rfl⟩ fun v' h2 tk2 hp2 hk2 => ?_⟩
   ·exact (Heap.get?_update_other _ _ (fun h : S = b => hSf (by rw [h]; exact hbf))).trans e
   ·exact hR v' h2 tk2 hp2 fun b o h1 h3 e => hk2 b o h1 h3 ((Heap.get?_update_other _ _ (Ne.symm h3)).trans (hk b o h1 e))
  | false =>
   simp only [Bool.false_eq_true, if_false]
   refine wpAny_bind (wpAny_letGo ?_)
   rw [hname]
   refine wpAny_pure ⟨plainId_quiet F.plain_max_loop _, ih (j + 1) _ vb (by omega) hst' (by simp only [argBest, hb, Bool.false_eq_true, if_false]; exact hP) ⟨c, hS'⟩ fun v' h2 tk2 hp2 hk2 => ?_⟩
   exact hR v' h2 tk2 hp2 fun b o h1 h3 e => hk2 b o h1 h3 (hk b o h1 e)
theorem x_ {d : Value} (W : Walks prog w A.in1 I fp wr n P St) (bt : Nat -> Nat -> Bool) (hcmp : CmpOf prog w A.in1 .Gt P bt) (S : Addr) (hSf : S ∉ fp) {s : Shared} (hst : St 0 s.heap) (hS : bestAt S #[] s.heap)
  (hR : ∀ v h' tk, (if n = 0 then v = d else P (argBest bt (n - 1)) v) -> (∀ b o, b ∉ wr -> b ≠ S -> s.heap.get? b = some o -> h'.get? b = some o) -> R (.ok (.ret v)) { s with heap := h', toks := tk }) :
  codeAny (model prog w) A (.builtin "max.loop" ⟨[.ref I, .none, .ref S], [("default", d)]⟩) R s := by
 have hSw : S ∉ wr := fun h => hSf (W.sub _ h)
 have hname : (toString "max" ++ toString ".loop" : String) = "max.loop" := by decide
 obtain ⟨c, hS⟩ := hS
 refine codeAny_builtin F.entry_max_loop ?_
 rw [Around.under_plainId F.plain_max_loop _]
 show wpAny _ A.in1 (seqItems? (.ref S) >>= _) _ _ s
 refine wpAny_bind (wpAny_seqItems hS rfl ?_)
 show wpAny _ A.in1 (tryCatch (pyNext (.ref I)) _ >>= _) _ _ s
 by_cases hn : n = 0
 ·refine wpAny_bind (wpAny_tryCatch (W.done s _ _ (hn ▸ hst) fun h' tk hk => ?_))
  refine wpAny_bind (wpAny_rule (wpAny_pure ?_))
  exact hR d h' tk (by rw [if_pos hn]) fun b o h1 _ e => hk b o h1 e
 ·refine wpAny_bind (wpAny_tryCatch (W.item 0 s _ _ (by omega) hst fun v h' tk hv hst' hk => ?_))
  have hS' := hk S _ hSw hS
  show wpAny _ A.in1 (updateSeq S (fun _ => #[v, v]) >>= _) _ _ _
  refine wpAny_bind (wpAny_updateSeq hS' rfl ?_)
  rw [hname]
  refine wpAny_pure ⟨plainId_quiet F.plain_max_loop _, yA W bt hcmp S hSf (n - 1) 0 _ v (by omega) (W.frame _ _ _ hst' fun b hbf o e => ?_) hv ⟨_, Heap.get?_update_self _ hS' rfl⟩ fun v' h2 tk2 hp2 hk2 => ?_⟩
  ·exact (Heap.get?_update_other _ _ (fun h : S = b => hSf (by rw [h]; exact hbf))).trans e
  ·exact hR v' h2 tk2 (by rw [if_neg hn]; exact hp2) fun b o h1 h3 e => hk2 b o h1 h3 ((Heap.get?_update_other _ _ (Ne.symm h3)).trans (hk b o h1 e))
end
def ml (d : Int) : List Int -> Int
 | [] => d
 | x :: xs => xs.foldl max x
theorem jO : ∀ (xs : List Int) (a : Int), a <= xs.foldl max a /\ ∀ x ∈ xs, x <= xs.foldl max a
 | [], a => ⟨Int.le_refl _, fun x h => nomatch h⟩
 | y :: ys, a => by
  obtain ⟨h1, h2⟩ := jO ys (max a y)
  refine ⟨Int.le_trans (Int.le_max_left _ _) h1, fun x h => ?_⟩
  rcases List.mem_cons.mp h with rfl | h
  ·exact Int.le_trans (Int.le_max_right _ _) h1
  ·exact h2 x h
theorem iM : ∀ (xs : List Int) (a : Int), xs.foldl max a = a \/ xs.foldl max a ∈ xs
 | [], a => .inl rfl
 | y :: ys, a => by
  rcases iM ys (max a y) with h | h
  ·rw [List.foldl_cons, h]
   rcases Int.le_total a y with q | q
   ·rw [Int.max_eq_right q]; exact .inr (List.mem_cons_self)
   ·rw [Int.max_eq_left q]; exact .inl rfl
  ·exact .inr (List.mem_cons_of_mem _ h)
theorem Ab {d m : Int} {ns : List Int} (h : m ∈ ns) (g : ∀ x ∈ ns, x <= m) : ml d ns = m := by
 cases ns with
 | nil => cases h
 | cons x xs =>
  obtain ⟨h1, h2⟩ := jO xs x
  have a1 : m <= ml d (x :: xs) := by
   rcases List.mem_cons.mp h with rfl | h
   ·exact h1
   ·exact h2 m h
  have a2 : ml d (x :: xs) <= m := by
   rcases iM xs x with q | q
   ·show xs.foldl max x <= m
    rw [q]; exact g x List.mem_cons_self
   ·exact g _ (List.mem_cons_of_mem _ q)
  exact Int.le_antisymm a2 a1
theorem kO (val : Nat -> Int) : ∀ k, argBest (fun i j => decide (val i > val j)) k <= k /\ ∀ i, i <= k -> val i <= val (argBest (fun i j => decide (val i > val j)) k)
 | 0 => ⟨Nat.le_refl _, fun i h => by cases Nat.le_zero.mp h; exact Int.le_refl _⟩
 | k + 1 => by
  obtain ⟨h1, h2⟩ := kO val k
  rw [argBest]
  by_cases q : val (k + 1) > val (argBest (fun i j => decide (val i > val j)) k)
  ·rw [if_pos (decide_eq_true q)]
   refine ⟨Nat.le_refl _, fun i h => ?_⟩
   rcases Nat.lt_or_ge i (k + 1) with z | z
   ·exact Int.le_trans (h2 i (by omega)) (Int.le_of_lt q)
   ·rw [show i = k + 1 by omega]; exact Int.le_refl _
  ·rw [if_neg (by simpa using q)]
   refine ⟨Nat.le_succ_of_le h1, fun i h => ?_⟩
   rcases Nat.lt_or_ge i (k + 1) with z | z
   ·exact h2 i (by omega)
   ·rw [show i = k + 1 by omega]; exact Int.not_lt.mp q
section
variable {X : Cx}
theorem uf (a d : Value) : argsOk "max" ⟨[a], [("default", d)]⟩ := by unfold argsOk; kernel_rfl
theorem DO {pins : List (Addr × Obj)} {s : Shared} {σ : St} {H : Hp} {Q : VK} {p : Addr} {ns : List Int} {d : Int} {t : Tok} (I : Inv X pins σ H s) (hh : X.A.handled = none) (hS : ck X.K H p (ns.map V.int)) (q : Q (.int (ml d ns)) H) :
  wpAny (model X.prog X.w) X.A (call (.builtin "max") [.ref p] [("default", .int d t)]) (EP X pins σ Q) X.xe s := by
 obtain ⟨its, rv, pl, _⟩ := I.list hS
 have hl := pl.isList
 have hi := qS rv
 have hlt : p < s.heap.objs.size := pl.lt
 have hlen : its.length = ns.length := by have := rv.length; rw [List.length_map] at this; exact this.symm
 have hname : (toString "max" ++ toString ".loop" : String) = "max.loop" := by decide
 have hval : ∀ (i : Nat) (v : Value), its.toArray[i]? = some v -> ∃ t, v = .int (ns.getD i 0) t := fun i v e => by
  have e' : its[i]? = some v := by simpa using e
  have hb : i < ns.length := by have := (List.getElem?_eq_some_iff.mp e').1; omega
  obtain ⟨u, h1, h2⟩ := rv.get (i := i) (x := V.int ns[i]) (by rw [List.getElem?_map, List.getElem?_eq_getElem hb]; rfl)
  rw [e'] at h1
  cases h1
  obtain ⟨t, ht⟩ := (show ∃ t, v = Value.int ns[i] t from h2)
  exact ⟨t, by rw [ht, List.getD_eq_getElem?_getD, List.getElem?_eq_getElem hb]; rfl⟩
 refine wpAny_call (codeAny_call_builtin F.plain_max F.entry_max ?_)
 simp only [checkBuiltinCall, F.kind_max]
 have ha : argsOk "max" ⟨[.ref p], [("default", .int d t)]⟩ := uf _ _
 have body : wpAny (model X.prog X.w) X.A.in1 (Builtin.«max» ⟨[.ref p], [("default", .int d t)]⟩) (fun fin s' => match fin with
   | .done f => (match (Except.ok f : Result) with | .ok (.ret v) => EP X pins σ Q v s' | .ok _ => False | .error e => X.xe e s')
   | .again c' => c'.quiet = true /\ codeAny (model X.prog X.w) X.A c' (fun r s' => match r with | .ok (.ret v) => EP X pins σ Q v s' | .ok _ => False | .error e => X.xe e s') s') X.xe s := by
  show wpAny _ X.A.in1 (Builtin.Builtins.bindParams "max" ["key", "default"] 0 ⟨[], [("default", .int d t)]⟩ >>= _) _ _ s
  refine wpAny_bind (wpAny_of_eq (show Builtin.Builtins.bindParams "max" ["key", "default"] 0 ⟨[], [("default", .int d t)]⟩ = pure [none, some (.int d t)] from rfl) ?_)
  refine wpAny_bind (wpAny_pure ?_)
  refine wpAny_bind (wpAny_pyIter_list hl ?_)
  refine wpAny_bind (wpAny_newObj_type ?_)
  rw [hname]
  have W := Walks.list (prog := X.prog) (w := X.w) (A := X.A.in1) hh s.heap.objs.size p (Nat.ne_of_lt hlt) its.toArray
  refine wpAny_pure ⟨plainId_quiet F.plain_max_loop _, x_ W _ (CmpOf.ints_gt (fun i => ns.getD i 0) hval) ((s.heap.push _).objs.size) (fun hm => ?_) (W.frame _ _ _ ⟨⟨_, Heap.get?_push_size _ rfl, rfl, rfl⟩, hl.push _⟩ fun b _ o e => Heap.get?_push_of_some _ e) ⟨_, Heap.get?_push_size _ rfl⟩ fun v h' tk hv hk => ?_⟩
  ·have hsz : (s.heap.push { cls := .type "list_iterator", data := .fields #[.ref p, .int 0 0] }).objs.size = s.heap.objs.size + 1 := Heap.size_push ..
   rcases List.mem_cons.mp hm with z | z
   ·exact absurd (hsz.symm.trans z) (Nat.succ_ne_self _)
   ·exact absurd (hsz.symm.trans (List.mem_singleton.mp z)) (Nat.ne_of_gt (Nat.lt_succ_of_lt hlt))
  ·have hkept : ∀ b o, s.heap.get? b = some o -> h'.get? b = some o := fun b o e => hk b o (fun hm => by
    exact absurd (List.mem_singleton.mp hm) (Nat.ne_of_lt (Heap.lt_size e))) (fun hm => by
    rw [Heap.size_push] at hm
    exact absurd hm (Nat.ne_of_lt (Nat.lt_succ_of_lt (Heap.lt_size e)))) (Heap.get?_push_of_some _ (Heap.get?_push_of_some _ e))
   have ev : ∃ t, v = .int (ml d ns) t := by
    by_cases hn : its.toArray.size = 0
    ·rw [if_pos hn] at hv
     have hz : ns = [] := List.length_eq_zero_iff.mp (by rw [<- hlen]; simpa using hn)
     rw [hz]
     exact ⟨_, hv⟩
    ·rw [if_neg hn] at hv
     obtain ⟨b1, b2⟩ := kO (fun i => ns.getD i 0) (its.toArray.size - 1)
     have hsz : its.toArray.size = ns.length := by rw [List.size_toArray, hlen]
     obtain ⟨t', e⟩ := hval _ v hv
     refine ⟨t', ?_⟩
     rw [e, Ab (m := ns.getD (argBest (fun i j => decide (ns.getD i 0 > ns.getD j 0)) (its.toArray.size - 1)) 0) ?_ fun x hx => ?_]
     ·rw [List.getD_eq_getElem?_getD, List.getElem?_eq_getElem (by omega)]
      exact List.getElem_mem _
     ·obtain ⟨i, hi', rfl⟩ := List.getElem_of_mem hx
      have z := b2 i (by omega)
      simp only [List.getD_eq_getElem?_getD, List.getElem?_eq_getElem hi', Option.getD_some] at z
      simpa only [List.getD_eq_getElem?_getD] using z
   obtain ⟨t', rfl⟩ := ev
   exact ⟨.int (ml d ns), H, I.kept hkept, ⟨_, rfl⟩, q⟩
 cases hsig : Manifest.signature? "max" with
 | none => exact wpAny_pure body
 | some sig =>
  simp only [argsOk, hsig] at ha
  have h2 : Bind.checkArgs "max" sig ⟨[.ref p], [("default", .int d t)]⟩ = pure () := ha
  show wpAny _ X.A.in1 (Bind.checkArgs "max" sig ⟨[.ref p], [("default", .int d t)]⟩) _ _ s
  rw [h2]; exact wpAny_pure body
end
section
variable {X : Cx} {e c : Expr} {te tc : TE} {p pos kp : Pos}
def yf (X : Cx) (x y : V) (H : Hp) (Q : VK) : Prop := ∃ (l : Addr) (ns : List Int) (d : Int), x = .ref l /\ y = .int d /\ X.A.handled = none /\ ck X.K H l (ns.map V.int) /\ Q (.int (ml d ns)) H
def one (F : V -> Hp -> Prop) (vs : List V) (H : Hp) : Prop := match vs with
 | [x] => F x H
 | _ => False
theorem Az (hg : Gl X "max") (hm : X.mg "max" = none) (he : PE X e te) (hc : PE X c tc) (h1 : starEach [e] X.env = (false, eval e X.env) :: starEach [] X.env := by rfl) (hv : bootBuiltins "max" = some (.builtin "max") := by decide +kernel) :
  PE X (.Call (.Name "max" p) [e] [⟨some "default", c, kp⟩] pos) (EB (yf X) te tc) := by
 intro pins s σ H Q I h
 refine wpAny_Call_Name_kw (ip I hg hm hv ?_)
 refine callWith_kw (env := X.env) ?_ (by rw [h1]; rfl) (by rw [h1]; rfl) rfl rfl
 refine bE ((b_ he gu h1) pos pins s σ H (one fun x H1 => tc σ H1 fun y H2 => yf X x y H2 Q) I h) fun us s1 ⟨vs, H1, I1, r1, q⟩ => ?_
 match vs, r1, q with
 | [x], r1, q =>
  obtain ⟨u, rfl, ru⟩ := vals1 r1
  refine bE ((A1 (nm := some "default") (kpos := kp) hc Du) pos pins s1 σ H1 (one fun y H2 => yf X x y H2 Q) I1 q) fun ws s2 ⟨zs, H2, I2, r2, k⟩ => ?_
  match zs, r2, k with
  | [y], r2, k =>
   obtain ⟨l, ns, d, e1, e2, hh, hS, kk⟩ := k
   subst e1 e2
   obtain ⟨w, rfl, rw'⟩ := vals1 r2
   obtain ⟨t, rfl⟩ := (show ∃ t, w = Value.int d t from rw')
   cases (show u = Value.ref l from ru)
   exact DO I2 hh hS kk
end
end L2
namespace DC
open PySem PySem.Spec PyProof.Rows L2
section
variable {X : Cx} {e c : Expr} {te tc : ED} {p pos kp : Pos} {es : List Expr} {t : AD}
theorem boot_sum : bootBuiltins "sum" = some (.builtin "sum") := by decide +kernel
def yu : cY := fun ds Q => ∃ (ns : List Int), ds = [.lst (ns.map D.int)] /\ Q (.int ns.sum)
theorem Fc : bS yu := fun ds P P' g ⟨bs, e, q⟩ => ⟨bs, e, g _ q⟩
theorem mT {K : PySem.W.Frag} {H : Hp} : ∀ {vs : List V} {bs : List Int}, au K H vs (bs.map D.int) -> vs = bs.map V.int
 | [], [], _ => rfl
 | _, _ :: _, .cons (.int _) r => by rw [mT r]; rfl
theorem xG {K : PySem.W.Frag} {A : Around} (hh : A.handled = none) : lK K (fun xs H Q => ∃ (p : Addr) (ns : List Int), xs = [.ref p] /\ A.handled = none /\ ck K H p (ns.map V.int) /\ Q (.int ns.sum) H) yu := by
 intro H vs ds Q dvs ⟨bs, e, q⟩
 subst e
 cases dvs with
 | cons dv r =>
  cases r
  cases dv with
  | lst h1 h2 =>
   rw [mT h2] at h1
   exact ⟨_, bs, rfl, hh, h1, q _ H (aJ.refl _) (.int _)⟩
theorem Ex (hh : X.A.handled = none) (hg : Gl X "sum") (hm : X.mg "sum" = none) (ha : jE X (e :: es) t) (h1 : starEach (e :: es) X.env = (false, eval e X.env) :: starEach es X.env := by rfl) (h2 : (backTo pos (starEach es X.env)).any (·.1) = false := by rfl) : PD X (.Call (.Name "sum" p) (e :: es) [] pos) (vB yu t) := uo (eC wa hg hm boot_sum ha.pa (he := h1) (hpl := h2)) ha.mono (xG hh) Fc
def Bl : F2 := fun d e Q => ∃ (ns : List Int) (i : Int), d = .lst (ns.map D.int) /\ e = .int i /\ Q (.int (ml i ns))
theorem DM : cg Bl := fun d e P P' g ⟨ns, i, e1, e2, q⟩ => ⟨ns, i, e1, e2, g _ q⟩
def GX : ED -> ED -> ED := mM Bl
theorem Cc (hh : X.A.handled = none) (hg : Gl X "max") (hm : X.mg "max" = none) (he : PD X e te) (hc : PD X c tc) (h1 : starEach [e] X.env = (false, eval e X.env) :: starEach [] X.env := by rfl) : PD X (.Call (.Name "max" p) [e] [⟨some "default", c, kp⟩] pos) (GX te tc) := by
 refine pq (t := oE X.K te) (Az hg hm he.pe hc.pe h1) he.mono hc.mono ?_ DM
 intro H x y d e Q hx hy ⟨ns, i, e1, e2, q⟩
 subst e1 e2
 cases hy
 cases hx with
 | lst g1 g2 =>
  rw [mT g2] at g1
  exact ⟨_, ns, i, rfl, rfl, hh, g1, q _ H (aJ.refl _) (.int _)⟩
end
inductive MD where
 | lst (ds : List D) | ins (C : Addr) (gs : FD) | dK (kvs : List (Key × D))
abbrev Mu := List (Addr × MD)
def Gb (K : PySem.W.Frag) (H : Hp) (L : List Addr) (a : Addr) : MD -> Prop
 | .lst ds => ∃ vs, H a = some (.lst vs) /\ au K (aY H L) vs ds
 | .ins C gs => ∃ dx fs, H a = some (.ins C dx fs) /\ H dx = some (.own a) /\ dx ∈ L /\ dQ K (aY H L) fs gs
 | .dK kvs => ∃ ws, H a = some (.dK ws) /\ dz K (aY H L) ws kvs
structure eU (K : PySem.W.Frag) (H : Hp) (μ : Mu) (L : List Addr) : Prop where
 at_ : ∀ p ∈ μ, p.1 ∈ L /\ Gb K H L p.1 p.2
 Bu : (μ.map (·.1)).Nodup
 cz : ∀ b ∈ L, dR H L b
 CW : ∀ b ∈ L, (∃ m, (b, m) ∈ μ) \/ ∃ a, H b = some (.own a)
section
variable {K : PySem.W.Frag} {H H1 H4 : Hp} {μ : Mu} {L : List Addr}
theorem eW (s : aJ H H1) : aJ (aY H L) (aY H1 L) := fun b o h => by
 obtain ⟨h1, h2⟩ := j2 h
 rw [ax h1]
 exact s _ _ h2
theorem Gb.on {a : Addr} (s : aJ H H1) : ∀ {m : MD}, Gb K H L a m -> Gb K H1 L a m
 | .lst _, ⟨vs, h, d⟩ => ⟨vs, s _ _ h, au.same (eW s) d⟩
 | .ins _ _, ⟨dx, fs, h, h2, h3, d⟩ => ⟨dx, fs, s _ _ h, s _ _ h2, h3, dQ.same (eW s) d⟩
 | .dK _, ⟨ws, h, d⟩ => ⟨ws, s _ _ h, dz.same (eW s) d⟩
theorem Ct {a : Addr} (s : aJ H H1) (h : dR H L a) : dR H1 L a := by
 cases h with
 | lst xs h => exact .lst xs (s _ _ h)
 | dK xs h => exact .dK xs (s _ _ h)
 | ins C dx fs h hd => exact .ins C dx fs (s _ _ h) hd
 | own C b fs h hb hi => exact .own C b fs (s _ _ h) hb (s _ _ hi)
theorem eU.on (g : eU K H μ L) (s : aJ H H1) : eU K H1 μ L :=
 ⟨fun p hp => ⟨(g.at_ p hp).1, (g.at_ p hp).2.on s⟩, g.Bu, fun b hb => Ct s (g.cz b hb), fun b hb => (g.CW b hb).imp id fun ⟨a, q⟩ => ⟨a, s _ _ q⟩⟩
theorem eU.show (g : eU K H μ L) (z : ∀ b ∈ L, H4 b = none) (s : aJ (aY H L) H4) : eU K (ai H4 H L) μ L := by
 have e : aY (ai H4 H L) L = H4 := bH z
 refine ⟨fun p hp => ⟨(g.at_ p hp).1, ?_⟩, g.Bu, fun b hb => ?_, fun b hb => (g.CW b hb).imp id fun ⟨a, q⟩ => ⟨a, by rw [aX hb]; exact q⟩⟩
 ·obtain ⟨hp1, ha⟩ := g.at_ p hp
  obtain ⟨a, m⟩ := p
  cases m with
  | lst ds => obtain ⟨vs, h, d⟩ := ha; exact ⟨vs, by rw [aX hp1]; exact h, by rw [e]; exact au.same s d⟩
  | ins C gs => obtain ⟨dx, fs, h, h2, h3, d⟩ := ha; exact ⟨dx, fs, by rw [aX hp1]; exact h, by rw [aX h3]; exact h2, h3, by rw [e]; exact dQ.same s d⟩
  | dK kvs => obtain ⟨ws, h, d⟩ := ha; exact ⟨ws, by rw [aX hp1]; exact h, by rw [e]; exact dz.same s d⟩
 ·have w := g.cz b hb
  cases w with
  | lst xs h => exact .lst xs (by rw [aX hb]; exact h)
  | dK xs h => exact .dK xs (by rw [aX hb]; exact h)
  | ins C dx fs h hd => exact .ins C dx fs (by rw [aX hb]; exact h) hd
  | own C c fs h hc hi => exact .own C c fs (by rw [aX hb]; exact h) hc (by rw [aX hc]; exact hi)
theorem eU.nil : eU K H [] [] := ⟨fun p hp => (nomatch hp), List.nodup_nil, fun b hb => (nomatch hb), fun b hb => (nomatch hb)⟩
def MD.d : MD -> D
 | .lst ds => .lst ds
 | .ins C gs => .obj C gs
 | .dK kvs => .dK kvs
def bT (μ : Mu) : D -> D
 | .adr a => ((μ.lookup a).map MD.d).getD (.adr a)
 | d => d
def cX (μ : Mu) (δ : SD) : SD := δ.map (Option.map (bT μ))
theorem mem_of_lookup {a : Addr} {m : MD} : ∀ {μ : Mu}, μ.lookup a = some m -> (a, m) ∈ μ
 | [], h => by cases h
 | (b, n) :: r, h => by
  rw [List.lookup_cons] at h
  cases q : a == b with
  | true => rw [q] at h; cases h; rw [beq_iff_eq.mp q]; exact List.mem_cons_self
  | false => rw [q] at h; exact List.mem_cons_of_mem _ (mem_of_lookup h)
theorem eU.view (g : eU K H μ L) {v : V} {d : D} (h : Dv K (aY H L) v d) : Dv K H v (bT μ d) := by
 cases h with
 | adr a =>
  show Dv K H (.ref a) (((μ.lookup a).map MD.d).getD (.adr a))
  cases q : μ.lookup a with
  | none => exact .adr a
  | some m =>
   show Dv K H (.ref a) m.d
   obtain ⟨_, ha⟩ := g.at_ _ (mem_of_lookup q)
   cases m with
   | lst ds => obtain ⟨vs, h, d⟩ := ha; exact .lst (ck.of h) (au.same bD d)
   | ins C gs => obtain ⟨dx, fs, h, h2, h3, d⟩ := ha; exact .obj (.of h) (dQ.same bD d)
   | dK kvs => obtain ⟨ws, h, d⟩ := ha; exact .dK (.of h) (dz.same bD d)
 | aW => exact .aW
 | bl b => exact .bl b
 | int i => exact .int i
 | str x => exact .str x
 | lst h1 h2 => exact Dv.same bD (.lst h1 h2)
 | tup h1 h2 => exact Dv.same bD (.tup h1 h2)
 | obj h1 h2 => exact Dv.same bD (.obj h1 h2)
 | dK h1 h2 => exact Dv.same bD (.dK h1 h2)
 | dT h1 h2 => exact Dv.same bD (.dT h1 h2)
 | exc h1 h2 h3 => exact Dv.same bD (.exc h1 h2 h3)
theorem eU.cX (g : eU K H μ L) {σ : L2.St} {δ : SD} (r : ay K (aY H L) σ δ) : ay K H σ (cX μ δ) := by
 refine ⟨by unfold DC.cX; rw [List.length_map]; exact r.len, fun i d h => ?_⟩
 unfold DC.cX at h
 rw [List.getElem?_map] at h
 cases q : δ[i]? with
 | none => rw [q] at h; cases h
 | some o =>
  rw [q] at h
  cases o with
  | none => cases h
  | some d' =>
   cases h
   obtain ⟨v, hv, dv⟩ := r.get i d' q
   exact ⟨v, hv, g.view dv⟩
end
structure lL where
 nx : SD -> Mu -> Prop
 rt : D -> Mu -> Prop
 bk : SD -> Mu -> Prop := fun _ _ => False
 ct : SD -> Mu -> Prop := fun _ _ => False
abbrev jw := lL -> SD -> Mu -> Prop
structure lL.Le (E E' : lL) : Prop where
 nx : ∀ δ μ, E.nx δ μ -> E'.nx δ μ
 rt : ∀ d μ, E.rt d μ -> E'.rt d μ
 bk : ∀ δ μ, E.bk δ μ -> E'.bk δ μ
 ct : ∀ δ μ, E.ct δ μ -> E'.ct δ μ
abbrev tL (t : jw) : Prop := ∀ E E' δ μ, lL.Le E E' -> t E δ μ -> t E' δ μ
def kM (K : PySem.W.Frag) (H : Hp) (L : List Addr) (Q : L2.St -> Hp -> Prop) : SD -> Mu -> Prop := fun δ μ => ∀ σ H' L', aJ (aY H L) (aY H' L') -> ay K (aY H' L') σ δ -> eU K H' μ L' -> Q σ H'
def kR (K : PySem.W.Frag) (H : Hp) (L : List Addr) (Q : VK) : D -> Mu -> Prop := fun d μ => ∀ v H' L', aJ (aY H L) (aY H' L') -> eU K H' μ L' -> Dv K (aY H' L') v d -> Q v H'
def lZ (K : PySem.W.Frag) (H : Hp) (L : List Addr) (D : Ends) : lL := ⟨kM K H L D.nx, kR K H L D.rt, kM K H L D.bk, kM K H L D.ct⟩
theorem jM {K : PySem.W.Frag} {H H1 : Hp} {L L1 : List Addr} {D : Ends} (s : aJ (aY H L) (aY H1 L1)) : lL.Le (lZ K H L D) (lZ K H1 L1 D) :=
 ⟨fun _ _ h σ H' L' s' r g => h σ H' L' (s.trans s') r g, fun _ _ h v H' L' s' g d => h v H' L' (s.trans s') g d, fun _ _ h σ H' L' s' r g => h σ H' L' (s.trans s') r g, fun _ _ h σ H' L' s' r g => h σ H' L' (s.trans s') r g⟩
def oM (K : PySem.W.Frag) (t : jw) : TS := fun D σ H => ∃ δ μ L, ay K (aY H L) σ δ /\ eU K H μ L /\ t (lZ K H L D) δ μ
structure zL (X : Cx) (st : Stmt) (t : jw) : Prop where
 ps : PS X st (oM X.K t)
 mono : tL t
structure tM (X : Cx) (st : List Stmt) (t : jw) : Prop where
 ps : hX X st (oM X.K t)
 mono : tL t
section
variable {X : Cx} {st : Stmt} {rest body els : List Stmt} {t u : jw} {e c : Expr} {te : ED} {uc : TD} {pos : Pos}
def FO : jw := fun E δ μ => E.nx δ μ
def DF (t u : jw) : jw := fun E δ μ => t { E with nx := u E } δ μ
theorem j6 : tM X [] FO := ⟨hX.imp pG fun D σ H ⟨δ, μ, L, r, g, h⟩ => h σ H L (aJ.refl _) r g, fun E E' δ μ l h => l.nx _ _ h⟩
theorem bU (h1 : zL X st t) (h2 : tM X rest u) : tM X (st :: rest) (DF t u) :=
 ⟨hX.imp (gv h1.ps h2.ps) fun D σ H ⟨δ, μ, L, r, g, h⟩ => ⟨δ, μ, L, r, g, h1.mono { lZ X.K H L D with nx := u (lZ X.K H L D) } _ _ _ ⟨fun δ' μ' q σ' H' L' s' r' g' => ⟨δ', μ', L', r', g', h2.mono _ _ _ _ (jM s') q⟩, fun _ _ q => q, fun _ _ q => q, fun _ _ q => q⟩ h⟩,
  fun E E' δ μ l h => h1.mono { E with nx := u E } _ _ _ ⟨fun δ' μ' q => h2.mono _ _ _ _ l q, l.rt, l.bk, l.ct⟩ h⟩
theorem sH (h1 : zL X st t) : tM X [st] t := ⟨pH h1.ps, h1.mono⟩
def uD (t : eV) : jw := fun E δ μ => t { nx := fun δ' => E.nx δ' μ, rt := fun d => E.rt d μ, bk := fun δ' => E.bk δ' μ, ct := fun δ' => E.ct δ' μ } δ
theorem uA {t : eV} (m : mv t) {D : Ends} {σ : L2.St} {H : Hp} (h : oM X.K (uD t) D σ H) : G7 (oS X.K t) D σ H := by
 obtain ⟨δ, μ, L, r, g, h⟩ := h
 refine ⟨L, g.cz, δ, r, ?_⟩
 refine m { nx := fun δ' => (lZ X.K H L D).nx δ' μ, rt := fun d => (lZ X.K H L D).rt d μ, bk := fun δ' => (lZ X.K H L D).bk δ' μ, ct := fun δ' => (lZ X.K H L D).ct δ' μ } _ _ ⟨fun δ' q σ' H' s' r' z => ?_, fun d q v H' s' dv z => ?_, fun δ' q σ' H' s' r' z => ?_, fun δ' q σ' H' s' r' z => ?_⟩ h
 ·have e : aY (ai H' H L) L = H' := bH z
  exact q σ' _ L (by rw [e]; exact s') (by rw [e]; exact r') (g.show z s')
 ·have e : aY (ai H' H L) L = H' := bH z
  exact q v _ L (by rw [e]; exact s') (g.show z s') (by rw [e]; exact dv)
 ·have e : aY (ai H' H L) L = H' := bH z
  exact q σ' _ L (by rw [e]; exact s') (by rw [e]; exact r') (g.show z s')
 ·have e : aY (ai H' H L) L = H' := bH z
  exact q σ' _ L (by rw [e]; exact s') (by rw [e]; exact r') (g.show z s')
theorem xu {t : eV} (m : mv t) : tL (uD t) := fun E E' δ μ l h => m { nx := fun δ' => E.nx δ' μ, rt := fun d => E.rt d μ, bk := fun δ' => E.bk δ' μ, ct := fun δ' => E.ct δ' μ } _ _ ⟨fun _ q => l.nx _ _ q, fun _ q => l.rt _ _ q, fun _ q => l.bk _ _ q, fun _ q => l.ct _ _ q⟩ h
theorem lD {t : eV} (h : tN X st t) : zL X st (uD t) := ⟨PS.imp (yc h.ps) fun D σ H q => uA h.mono q, xu h.mono⟩
theorem d9 {t : eV} (h : gY X rest t) : tM X rest (uD t) := ⟨hX.imp (A5 h.ps) fun D σ H q => uA h.mono q, xu h.mono⟩
def Ir (uc : TD) (t u : jw) : jw := fun E δ μ => uc (cX μ δ) fun b => if b = true then t E δ μ else u E δ μ
theorem nM (hc : jt X c uc) (ha : tM X body t) (hb : tM X els u) : zL X (.If c body els pos) (Ir uc t u) := by
 refine ⟨PS.imp (Bz hc.pt ha.ps hb.ps) fun D σ H ⟨δ, μ, L, r, g, h⟩ => ⟨_, g.cX r, hc.mono _ _ _ (fun k q H1 s1 => ?_) h⟩, fun E E' δ μ l h => hc.mono _ _ _ (fun k q => ?_) h⟩
 ·have s2 : aJ (aY H L) (aY H1 L) := eW s1
  cases k with
  | true =>
   show if true = true then _ else _
   rw [if_pos rfl] at q ⊢; exact ⟨δ, μ, L, r.same s2, g.on s1, ha.mono _ _ _ _ (jM s2) q⟩
  | false =>
   show if false = true then _ else _
   rw [if_neg Bool.false_ne_true] at q ⊢; exact ⟨δ, μ, L, r.same s2, g.on s1, hb.mono _ _ _ _ (jM s2) q⟩
 ·cases k with
  | true => rw [if_pos rfl] at q ⊢; exact ha.mono _ _ _ _ l q
  | false => rw [if_neg Bool.false_ne_true] at q ⊢; exact hb.mono _ _ _ _ l q
theorem Dv.zw {K : PySem.W.Frag} {H H' : Hp} {v : V} {d : D} (h : Dv K H v d) (f : fS d = true) : Dv K H' v d := by
 cases h with
 | aW => exact .aW
 | bl b => exact .bl b
 | int i => exact .int i
 | str x => exact .str x
 | _ => cases f
end
def ky (a : Addr) (m : MD) (μ : Mu) : Mu := μ.map fun p => if p.1 = a then (a, m) else p
theorem nR (a : Addr) (m : MD) (μ : Mu) : (ky a m μ).map (·.1) = μ.map (·.1) := by
 unfold ky
 rw [List.map_map]
 refine List.map_congr_left fun p _ => ?_
 show (if p.1 = a then (a, m) else p).1 = p.1
 split
 ·rename_i h; exact h.symm
 ·rfl
section
variable {K : PySem.W.Frag} {H : Hp} {μ : Mu} {L : List Addr} {a : Addr} {vs ys : List V} {ds : List D}
theorem gj {o : HO} (h : a ∈ L) : aY (upd H a o) L = aY H L := by
 funext b
 by_cases hb : b ∈ L
 ·rw [b9 hb, b9 hb]
 ·rw [ax hb, ax hb, aH (fun z => hb (by rw [z]; exact h))]
theorem eU.putL (g : eU K H μ L) (ha : a ∈ L) (hv : H a = some (.lst vs)) (d : au K (aY H L) ys ds) : eU K (upd H a (.lst ys)) (ky a (.lst ds) μ) L := by
 have e : aY (upd H a (.lst ys)) L = aY H L := gj ha
 refine ⟨fun p hp => ?_, by rw [nR]; exact g.Bu, fun b hb => ?_, fun b hb => ?_⟩
 ·obtain ⟨q, hq, rfl⟩ := List.mem_map.mp hp
  by_cases hqa : q.1 = a
  ·rw [if_pos hqa]
   exact ⟨ha, ys, aI, by rw [e]; exact d⟩
  ·rw [if_neg hqa]
   obtain ⟨h1, h2⟩ := g.at_ q hq
   refine ⟨h1, ?_⟩
   obtain ⟨b, m⟩ := q
   cases m with
   | lst ds => obtain ⟨ws, h, d⟩ := h2; exact ⟨ws, by rw [aH hqa]; exact h, by rw [e]; exact d⟩
   | ins C gs => obtain ⟨dx, fs, h, h2, h3, d⟩ := h2; exact ⟨dx, fs, by rw [aH hqa]; exact h, by rw [aH (fun z => by rw [z, hv] at h2; cases h2)]; exact h2, h3, by rw [e]; exact d⟩
   | dK kvs => obtain ⟨ws, h, d⟩ := h2; exact ⟨ws, by rw [aH hqa]; exact h, by rw [e]; exact d⟩
 ·by_cases hba : b = a
  ·rw [hba]; exact .lst ys aI
  ·have w := g.cz b hb
   cases w with
   | lst xs h => exact .lst xs (by rw [aH hba]; exact h)
   | dK xs h => exact .dK xs (by rw [aH hba]; exact h)
   | ins C dx fs h hd => exact .ins C dx fs (by rw [aH hba]; exact h) hd
   | own C c fs h hc hi => exact .own C c fs (by rw [aH hba]; exact h) hc (by rw [aH (fun z => by rw [z, hv] at hi; cases hi)]; exact hi)
 ·rcases g.CW b hb with ⟨m, h⟩ | ⟨c, h⟩
  ·by_cases hba : b = a
   ·exact .inl ⟨.lst ds, List.mem_map.mpr ⟨_, h, by rw [if_pos hba, hba]⟩⟩
   ·exact .inl ⟨m, List.mem_map.mpr ⟨_, h, if_neg hba⟩⟩
  ·exact .inr ⟨c, by rw [aH (fun z => by rw [z, hv] at h; cases h)]; exact h⟩
theorem eU.Fe (g : eU K H μ L) (hn : H a = none) (d : au K (aY H L) ys ds) : eU K (upd H a (.lst ys)) ((a, .lst ds) :: μ) (a :: L) /\ aY (upd H a (.lst ys)) (a :: L) = aY H L := by
 have haL : a ∉ L := fun h => by obtain ⟨o, q⟩ := (g.cz a h).there; rw [hn] at q; cases q
 have e : aY (upd H a (.lst ys)) (a :: L) = aY H L := by
  funext b
  by_cases hb : b = a
  ·rw [hb, b9 List.mem_cons_self, fT hn]
  ·by_cases hb2 : b ∈ L
   ·rw [b9 (List.mem_cons_of_mem _ hb2), b9 hb2]
   ·rw [ax (fun z => (List.mem_cons.mp z).elim hb hb2), ax hb2, aH hb]
 have ne : ∀ {b : Addr} {o : HO}, H b = some o -> b ≠ a := fun h => aS h hn
 refine ⟨⟨fun p hp => ?_, ?_, fun b hb => ?_, fun b hb => ?_⟩, e⟩
 ·rcases List.mem_cons.mp hp with rfl | hp
  ·exact ⟨List.mem_cons_self, ys, aI, by rw [e]; exact d⟩
  ·obtain ⟨h1, h2⟩ := g.at_ p hp
   refine ⟨List.mem_cons_of_mem _ h1, ?_⟩
   obtain ⟨b, m⟩ := p
   cases m with
   | lst ds => obtain ⟨ws, h, d⟩ := h2; exact ⟨ws, by rw [aH (ne h)]; exact h, by rw [e]; exact d⟩
   | ins C gs => obtain ⟨dx, fs, h, h2, h3, d⟩ := h2; exact ⟨dx, fs, by rw [aH (ne h)]; exact h, by rw [aH (ne h2)]; exact h2, List.mem_cons_of_mem _ h3, by rw [e]; exact d⟩
   | dK kvs => obtain ⟨ws, h, d⟩ := h2; exact ⟨ws, by rw [aH (ne h)]; exact h, by rw [e]; exact d⟩
 ·rw [List.map_cons, List.nodup_cons]
  refine ⟨fun h => ?_, g.Bu⟩
  obtain ⟨p, hp, hpa⟩ := List.mem_map.mp h
  have : p.1 = a := hpa
  exact haL (this ▸ (g.at_ p hp).1)
 ·rcases List.mem_cons.mp hb with rfl | hb
  ·exact .lst ys aI
  ·have w := g.cz b hb
   cases w with
   | lst xs h => exact .lst xs (by rw [aH (ne h)]; exact h)
   | dK xs h => exact .dK xs (by rw [aH (ne h)]; exact h)
   | ins C dx fs h hd => exact .ins C dx fs (by rw [aH (ne h)]; exact h) (List.mem_cons_of_mem _ hd)
   | own C c fs h hc hi => exact .own C c fs (by rw [aH (ne h)]; exact h) (List.mem_cons_of_mem _ hc) (by rw [aH (ne hi)]; exact hi)
 ·rcases List.mem_cons.mp hb with rfl | hb
  ·exact .inl ⟨_, List.mem_cons_self⟩
  ·rcases g.CW b hb with ⟨m, h⟩ | ⟨c, h⟩
   ·exact .inl ⟨m, List.mem_cons_of_mem _ h⟩
   ·exact .inr ⟨c, by rw [aH (ne h)]; exact h⟩
end
section
variable {X : Cx} {e : Expr} {te : ED} {es : List Expr} {t : AD} {i : Nat} {x : Str} {p pos pos' apos cpos : Pos}
def FN (i : Nat) (t : AD) : jw := fun E δ μ => t δ fun ds => ds.length <= sizeLine /\ ∀ a, (∀ m, (a, m) ∉ μ) -> E.nx (δ.set i (some (.adr a))) ((a, .lst ds) :: μ)
theorem Ah (hN : X.N.Nodup) (hi : X.N[i]? = some x) (hx : Loc X.env.scope x) (h : jE X es t) (hs : swapsWith (.List es p) (some (.Name x pos')) pos.line X.env = pure false := by rfl)
  (hf : X.fn x = true \/ X.env.scope.names.lookup x = some .local := by first | exact .inl rfl | exact .inr rfl | assumption) : zL X (.Assign [.Name x pos'] (.List es p) pos) (FN i t) := by
 refine ⟨PS.imp (sQ hN hi hx (ir (yU h.pa)) hs hf) fun D σ H ⟨δ, μ, L, r, g, q⟩ => ⟨L, g.cz, δ, r, h.mono _ _ _ (fun ds ⟨hz, k⟩ vs H1 s1 dvs => ⟨by rw [dvs.length]; exact hz, fun a ha z => ?_⟩) q⟩,
  fun E E' δ μ l q => h.mono _ _ _ (fun ds ⟨hz, k⟩ => ⟨hz, fun a ha => l.nx _ _ (k a ha)⟩) q⟩
 have haL : a ∉ L := fun hl => by have := z a hl; rw [aI] at this; cases this
 have nb : ∀ {b : Addr}, b ∈ L -> b ≠ a := fun hb w => haL (by rw [<- w]; exact hb)
 have z1 : ∀ b ∈ L, H1 b = none := fun b hb => by have := z b hb; rwa [aH (nb hb)] at this
 have eS : ai (upd H1 a (.lst vs)) H L = upd (ai H1 H L) a (.lst vs) := by
  funext b
  by_cases hb : b ∈ L
  ·rw [aX hb, aH (nb hb), aX hb]
  ·rw [aU hb]
   by_cases hba : b = a
   ·rw [hba, aI, aI]
   ·rw [aH hba, aH hba, aU hb]
 have e1 : aY (ai H1 H L) L = H1 := bH z1
 have g1 : eU X.K (ai H1 H L) μ L := g.show z1 s1
 have hn : ai H1 H L a = none := by rw [aU haL]; exact ha
 obtain ⟨g2, e2⟩ := g1.Fe hn (ys := vs) (ds := ds) (by rw [e1]; exact dvs)
 rw [eS]
 refine k a (fun m hm => haL (g.at_ _ hm).1) _ _ (a :: L) (by rw [e2, e1]; exact s1) ?_ g2
 rw [e2, e1]
 exact (r.same s1).set i (.adr a)
def AX (i : Nat) (te : ED) : jw := fun E δ μ => ∃ a ds, δ[i]? = some (some (.adr a)) /\ μ.lookup a = some (.lst ds) /\ ds.length < sizeLine /\ te δ fun d => E.nx δ (ky a (.lst (ds ++ [d])) μ)
theorem vN (hi : X.N[i]? = some x) (hv : wO X.env.scope x) (he : PD X e te) (hd : (x == ("__debug__" : Str)) = false := by decide) (hcd : (x == ("__classdict__" : Str)) = false := by decide)
  (hst : starEach [e] X.env = (false, eval e X.env) :: starEach [] X.env := by rfl) (hline : (apos.endLine == cpos.line) = true := by rfl)
  (hfew : ((backTo cpos (starEach [e] X.env)).all (fun x => !x.1) && (backToKw cpos (keywordEach [] X.env)).all (fun x => x.1.isSome) && decide ([e].length + ([] : List Keyword).length + (if ([] : List Keyword).isEmpty then 0 else 1) < 30)) = true := by rfl)
  (hs : swapsWith (.Call (.Attribute (.Name x p) "append" apos) [e] [] cpos) none pos.line X.env = pure false := by rfl)
  (hb : attributeBase (.Name x p) "append" X.env (eval (.Name x p) X.env) = eval (.Name x p) X.env := by rfl) :
  zL X (.Expr (.Call (.Attribute (.Name x p) "append" apos) [e] [] cpos) pos) (AX i te) := by
 refine ⟨PS.imp (uN (yQ PySem.F.plainAttrs_list PySem.F.slot_list_append PySem.F.type_list_append nN (iu hi hv hd hcd) (b_ (ir he.pe) gu hst) hb hfew hline hst) hs) fun D σ H ⟨δ, μ, L, r, g, q⟩ => ?_,
  fun E E' δ μ l ⟨a, ds, k1, k2, k3, q⟩ => ⟨a, ds, k1, k2, k3, he.mono _ _ _ (fun d k => l.nx _ _ k) q⟩⟩
 obtain ⟨a, ds, k1, k2, k3, q⟩ := q
 obtain ⟨v, hv1, dv⟩ := r.get i _ k1
 cases dv
 have hm := mem_of_lookup k2
 obtain ⟨haL, vs, hH, dvs⟩ := g.at_ _ hm
 refine ⟨_, hv1, .inl ⟨rfl, _, ck.of hH⟩, L, g.cz, δ, r, he.mono _ _ _ (fun d k w H1 s1 dw z => ?_) q⟩
 have e1 : aY (ai H1 H L) L = H1 := bH z
 have g1 : eU X.K (ai H1 H L) μ L := g.show z s1
 have hH1 : ai H1 H L a = some (.lst vs) := by rw [aX haL]; exact hH
 refine ⟨a, vs, w, rfl, rfl, hH1, by rw [dvs.length]; exact k3, ?_⟩
 have g2 := g1.putL haL hH1 (ys := vs ++ [w]) (ds := ds ++ [d]) (by rw [e1]; exact (au.same s1 dvs).append (.cons dw .nil))
 have e2 : aY (upd (ai H1 H L) a (.lst (vs ++ [w]))) L = H1 := by rw [gj haL, e1]
 exact k σ _ L (by rw [e2]; exact s1) (by rw [e2]; exact r.same s1) g2
end
end DC
namespace L2
open PySem PySem.Spec PyProof.Rows
section
variable {X : Cx} {tg : Expr} {g : TG}
def Im (g : TG) : TG := fun v σ H Q => ∃ L, (∀ a ∈ L, dR H L a) /\ g v σ (aY H L) fun σ' H4 => (∀ b ∈ L, H4 b = none) -> Q σ' (ai H4 H L)
theorem Dq (h : PG X tg g) : PG X tg (Im g) := by
 intro pins s σ H v u Q I r ⟨L, hL, q⟩
 refine j1 I hL fun pl I' _ back => ?_
 refine bE (h (pins ++ pl) s σ _ v u _ I' r q) fun _ s1 ⟨σ', H4, I4, k⟩ => ?_
 obtain ⟨z, J⟩ := back _ _ _ I4
 exact ⟨σ', _, J, k z⟩
end
end L2
namespace DC
open PySem PySem.Spec PyProof.Rows L2
section
variable {X : Cx} {tg iter : Expr} {body : List Stmt} {ti : AD} {g : zM} {tb : jw} {pos : Pos}
abbrev rK := List D -> SD -> (SD -> Prop) -> Prop
structure zS (X : Cx) (ts : List Expr) (g : rK) : Prop where
 pg : zK X ts (fun vs σ H Q => ∃ ds δ, au X.K H vs ds /\ ay X.K H σ δ /\ g ds δ (kS X.K H Q))
 mono : ∀ ds δ (P P' : SD -> Prop), (∀ δ, P δ -> P' δ) -> g ds δ P -> g ds δ P'
def G_ : rK := fun ds δ Q => ds = [] /\ Q δ
def FA (t : zM) (u : rK) : rK := fun ds δ Q => ∃ d r, ds = d :: r /\ t d δ fun δ' => u r δ' Q
theorem zK.imp {ts : List Expr} {t t' : Be} (h : zK X ts t) (f : ∀ v σ H Q, t' v σ H Q -> t v σ H Q) : zK X ts t' := fun pins s σ H v u Q I r q => h pins s σ H v u Q I r (f v σ H Q q)
theorem Cs : zS X [] G_ := ⟨zK.imp uL fun vs σ H Q ⟨ds, δ, dv, r, e, q⟩ => by subst e; cases dv; exact ⟨rfl, q σ H (aJ.refl _) r⟩, fun ds δ P P' f ⟨e, q⟩ => ⟨e, f _ q⟩⟩
theorem t7 {e : Expr} {es : List Expr} {t : zM} {u : rK} (h1 : Ef X e t) (h2 : zS X es u) (hs : (assignEach (e :: es) X.env).map (·.2) = assign e X.env :: (assignEach es X.env).map (·.2) := by rfl) : zS X (e :: es) (FA t u) := by
 refine ⟨zK.imp (l_ h1.pg h2.pg hs) fun vs σ H Q ⟨ds, δ, dv, r, d, dr, e, q⟩ => ?_, fun ds δ P P' f ⟨d, r, e, q⟩ => ⟨d, r, e, h1.mono _ _ _ _ (fun δ' k => h2.mono _ _ _ _ f k) q⟩⟩
 subst e
 cases dv with
 | cons a b => exact ⟨_, _, rfl, d, δ, a, r, h1.mono _ _ _ _ (fun δ' k σ' H' s' r' => ⟨dr, δ', au.same s' b, r', h2.mono _ _ _ _ (fun δ'' z => z.on s') k⟩) q⟩
def HA (n : Nat) (u : rK) : zM := fun d δ Q => ∃ ds, d = .tup ds /\ ds.length = n /\ u ds δ Q
theorem E7 {es : List Expr} {k : Nat} {u : rK} {n : Nat} (hc : X.calm = true) (h : zS X es u) (hn : (assignEach es X.env).length = n := by rfl) (hst : (assignEach es X.env).findIdx? (·.1) = none := by rfl) : Ef X (.Tuple es k pos) (HA n u) := by
 refine ⟨PG.imp (yY hc h.pg hn hst) fun v σ H Q ⟨d, δ, dv, r, ds, e, hl, q⟩ => ?_, fun d δ P P' f ⟨ds, e, hl, q⟩ => ⟨ds, e, hl, h.mono _ _ _ _ f q⟩⟩
 subst e
 cases dv with
 | tup h1 h2 => exact ⟨_, _, rfl, h1, by rw [h2.length]; exact hl, ds, δ, h2, r, q⟩
def HJ (ti : AD) (g : zM) (tb : jw) : jw := fun E δ μ => ti δ fun ds => ∃ inv : Nat -> SD -> Mu -> Prop, inv 0 δ μ /\
 (∀ i d δ' μ', ds[i]? = some d -> inv i δ' μ' -> g d δ' fun δ2 => tb { E with nx := inv (i + 1), ct := inv (i + 1), bk := E.nx } δ2 μ') /\ ∀ δ' μ', inv ds.length δ' μ' -> E.nx δ' μ'
theorem yB (hp : PassesOwn (model X.prog X.w) X.A X.env X.xe) (hc : X.calm = true) (hi : PId X tg iter ti) (hg : Ef X tg g) (hb : tM X body tb) (hs : ∀ x, foldedSetIterable iter X.env x = pure x := by intro _; rfl) :
  zL X (.For tg iter body [] pos) (HJ ti g tb) := by
 refine ⟨PS.imp (yb hp hc (Dt hi.pi) (Dq hg.pg) hb.ps hs) fun D σ H ⟨δ, μ, L, r, st, h⟩ => ⟨L, st.cz, δ, r, hi.mono _ _ _ (fun ds ⟨inv, i0, step, fin⟩ J H1 s1 it z => ?_) h⟩, fun E E' δ μ l h => hi.mono _ _ _ (fun ds ⟨inv, i0, step, fin⟩ => ⟨inv, i0, fun i d δ' μ' hd hin => hg.mono _ _ _ _ (fun δ2 q => hb.mono { E with nx := inv (i + 1), ct := inv (i + 1), bk := E.nx } _ _ _ ⟨fun _ _ q => q, l.rt, l.nx, fun _ _ q => q⟩ q) (step i d δ' μ' hd hin), fun δ' μ' q => l.nx _ _ (fin δ' μ' q)⟩) h⟩
 have e1 : aY (ai H1 H L) L = H1 := bH z
 refine ⟨fun i m σ' H' => m = ds.length - i /\ i <= ds.length /\ ∃ δ' μ' L', aJ H1 (aY H' L') /\ ay X.K (aY H' L') σ' δ' /\ eU X.K H' μ' L' /\ inv i δ' μ', ⟨ds.length, rfl, Nat.zero_le _, δ, μ, L, by rw [e1]; exact aJ.refl _, by rw [e1]; exact r.same s1, st.show z s1, i0⟩, ?_⟩
 rintro i m σ' H' ⟨rfl, hle, δ', μ', L', s', r', st', hin⟩
 have sf : aJ H1 H' := s'.trans bD
 by_cases hlt : i < ds.length
 ·refine .inr ⟨it.go i H' sf hlt, fun σ2 H2 => ∃ δ2 μ2 L2, aJ H1 (aY H2 L2) /\ ay X.K (aY H2 L2) σ2 δ2 /\ eU X.K H2 μ2 L2 /\ inv (i + 1) δ2 μ2, fun σ2 H2 ⟨δ2, μ2, L2, q⟩ => ⟨ds.length - (i + 1), by omega, rfl, hlt, δ2, μ2, L2, q⟩, fun x H'' y => ?_⟩
  obtain ⟨s2, d, hd, Hx, _, dvx, hx, sx⟩ := it.wI i H' x H'' sf hlt y
  have sA : aJ (aY H' L') (aY H'' L') := eW s2
  have sX : aJ Hx (aY H'' L') := fun b o hb => by
   have nb : b ∉ L' := by
    intro hbL
    rcases hx b o hb with q | q
    ·have := s' _ _ q
     rw [b9 hbL] at this
     cases this
    ·obtain ⟨o', q'⟩ := (st'.cz b hbL).there
     rw [q] at q'
     cases q'
   rw [ax nb]
   exact sx _ _ hb
  have st2 : eU X.K H'' μ' L' := st'.on s2
  refine ⟨L', st2.cz, d, δ', dvx.same sX, r'.same sA, hg.mono _ _ _ _ (fun δ2 q σ3 H3 s3 r3 z3 => ?_) (step i d δ' μ' hd hin)⟩
  have e3 : aY (ai H3 H'' L') L' = H3 := bH z3
  have st3 : eU X.K (ai H3 H'' L') μ' L' := st2.show z3 s3
  have sB : aJ H1 H3 := s'.trans (sA.trans s3)
  refine ⟨δ2, μ', L', by rw [e3]; exact r3, st3, hb.mono { lZ X.K H L D with nx := inv (i + 1), ct := inv (i + 1), bk := (lZ X.K H L D).nx } _ _ _ ?_ q⟩
  have sC : aJ (aY H L) (aY (ai H3 H'' L') L') := by rw [e3]; exact s1.trans sB
  have l := jM (K := X.K) (D := D) sC
  refine ⟨fun δ4 μ4 q4 σ4 H4 L4 s4 r4 st4 => ⟨δ4, μ4, L4, ?_, r4, st4, q4⟩, fun _ _ q4 => l.rt _ _ q4, fun _ _ q4 => l.nx _ _ q4, fun δ4 μ4 q4 σ4 H4 L4 s4 r4 st4 => ⟨δ4, μ4, L4, ?_, r4, st4, q4⟩⟩
  ·rw [e3] at s4; exact sB.trans s4
  ·rw [e3] at s4; exact sB.trans s4
 ·have e : i = ds.length := by omega
  subst e
  exact .inl ⟨it.stop H' sf, fin δ' μ' hin σ' H' L' (s1.trans s') r' st'⟩
end
section
variable {P : Program} {w : World} {K : PySem.W.Frag} {mg : Str -> Option Value} {base : Heap}
theorem Iy {x qual : Str} {st : Stmt} {f : Addr} {fd : FuncData} {N ps : List Str} {k : Nat} {sd : cY} {t : jw} (F : rG K x qual st f fd) (S : aF N ps (aC st)) (len : ∀ ds Q, sd ds Q -> ds.length = ps.length)
  (hb : ∀ (cdv : Value) (A : Around) (outer : List Env) (s : Shared) (H : Hp) (E : XK), az k (A.deeper (envOfC qual (aC st) s.heap.objs.size f cdv)) -> tM (Bx P w K mg base N qual st f cdv A outer s H E) (af st) t)
  (hr : ∀ ds Q, sd ds Q -> t { nx := fun _ _ => Q .aW, rt := fun d μ => Q (bT μ d) } (bM N ds) []) : bX P w K mg base lJ (k + 1) f fd ps (qy K sd) := by
 refine F.ok S (fun vs H Q E ⟨ds, dvs, h⟩ => by rw [dvs.length]; exact len ds _ h) (fun cdv A outer s H vs Q E hroom ⟨ds, dvs, h⟩ => ?_)
 have B := hb cdv A outer s H E hroom
 refine ⟨_, B.ps, bM N ds, [], [], by rw [dF]; exact dq dvs, eU.nil, ?_⟩
 refine B.mono { nx := fun _ _ => kD K H Q .aW, rt := fun d μ => kD K H Q (bT μ d) } _ _ _ ⟨fun δ μ q σ H' L' s' r g => ?_, fun d μ q v H' L' s' g dv => ?_, fun _ _ q => q.elim, fun _ _ q => q.elim⟩ (hr ds _ h)
 ·rw [dF] at s'
  exact q _ H' (s'.trans bD) .aW
 ·rw [dF] at s'
  exact q _ H' (s'.trans bD) (g.view dv)
end
structure bK (P : Program) (w : World) (K : PySem.W.Frag) (mg : Str -> Option Value) (base : Heap) (k : Nat) (x : Str) (ps : List Str) (sd : cY) : Prop where
 ex : ∃ f fd, bX P w K mg base lJ k f fd ps (qy K sd) /\ mg x = some (.ref f) /\ PySem.W.keepIn K (.ref f) = true /\ Binds K fd ps []
 ms : bS sd
section
variable {P : Program} {w : World} {K : PySem.W.Frag} {mg : Str -> Option Value} {base : Heap}
theorem bK.up {j k : Nat} {x : Str} {ps : List Str} {sd : cY} (c : bK P w K mg base j x ps sd) (h : j <= k) : bK P w K mg base k x ps sd :=
 ⟨let ⟨f, fd, F, r⟩ := c.ex; ⟨f, fd, F.mono h, r⟩, c.ms⟩
structure Df (K : PySem.W.Frag) (mg : Str -> Option Value) (x : Str) (st : Stmt) (ps : List Str) : Prop where
 ex : ∃ f fd, rG K x x st f fd /\ mg x = some (.ref f) /\ Binds K fd ps []
theorem Df.eQ {k : Nat} {x : Str} {st : Stmt} {ps N : List Str} {sd : cY} {t : eV} (d : Df K mg x st ps) (S : aF N ps (aC st)) (ms : bS sd) (len : ∀ ds Q, sd ds Q -> ds.length = ps.length)
  (hb : ∀ (f : Addr) (cdv : Value) (A : Around) (outer : List Env) (s : Shared) (H : Hp) (E : XK), az k (A.deeper (envOfC x (aC st) s.heap.objs.size f cdv)) -> gY (Bx P w K mg base N x st f cdv A outer s H E) (af st) t)
  (hr : ∀ ds Q, sd ds Q -> t { nx := fun _ => Q .aW, rt := Q } (bM N ds)) : bK P w K mg base (k + 1) x ps sd := by
 obtain ⟨f, fd, F, m, b⟩ := d.ex
 exact ⟨⟨f, fd, IT F S len (hb f) hr, m, F.kp, b⟩, ms⟩
theorem Df.Gy {k : Nat} {x : Str} {st : Stmt} {ps N : List Str} {sd : cY} {t : jw} (d : Df K mg x st ps) (S : aF N ps (aC st)) (ms : bS sd) (len : ∀ ds Q, sd ds Q -> ds.length = ps.length)
  (hb : ∀ (f : Addr) (cdv : Value) (A : Around) (outer : List Env) (s : Shared) (H : Hp) (E : XK), az k (A.deeper (envOfC x (aC st) s.heap.objs.size f cdv)) -> tM (Bx P w K mg base N x st f cdv A outer s H E) (af st) t)
  (hr : ∀ ds Q, sd ds Q -> t { nx := fun _ _ => Q .aW, rt := fun d μ => Q (bT μ d) } (bM N ds) []) : bK P w K mg base (k + 1) x ps sd := by
 obtain ⟨f, fd, F, m, b⟩ := d.ex
 exact ⟨⟨f, fd, Iy F S len (hb f) hr, m, F.kp, b⟩, ms⟩
end
section
variable {X : Cx} {e : Expr} {es : List Expr} {t : AD} {j k : Nat} {x : Str} {ps : List Str} {sd : cY} {p pos : Pos}
theorem aL (c : bK X.prog X.w X.K X.mg X.base j x ps sd) (hr : az k X.A) (hj : j <= k) (hg : Gl X x) (ha : jE X (e :: es) t) (hdb : (x == ("__debug__" : Str)) = false := by decide)
  (h1 : starEach (e :: es) X.env = (false, eval e X.env) :: starEach es X.env := by rfl) (h2 : (backTo pos (starEach es X.env)).any (·.1) = false := by rfl) : PD X (.Call (.Name x p) (e :: es) [] pos) (zD sd t) := by
 obtain ⟨f, fd, F, m, kp, b⟩ := c.ex
 exact CZ F c.ms (hr.mono hj) hg m kp b ha hdb (uK F (hr.mono hj) hg m kp b .nil qm ha.pa hdb h1 h2)
end
section
variable {X : Cx} {scope : Scope} {cl : List (Str × Addr)} {x : Str} {caps : List Nat} {cn : List Str} {tg iter elt : Expr} {ifs : List Expr} {ti : AD} {tt : TD} {te : ED} {pos : Pos}
theorem isSome_of {cl : List (Str × Addr)} {y : Str} : y ∈ cl.map (·.1) -> (cl.lookup y).isSome = true := by
 induction cl with
 | nil => intro h; cases h
 | cons p r ih =>
  intro h
  rw [List.lookup_cons]
  cases q : y == p.1 with
  | true => rfl
  | false =>
   rw [List.map_cons, List.mem_cons] at h
   rcases h with h | h
   ·rw [h] at q; simp at q
   ·exact ih h
theorem jP {cl : List (Str × Addr)} (ks : List Str) (hk : cl.map (·.1) = ks) (h : ∀ y ∈ scope.names, y.2 = .free -> y.1 ∈ ks) : ∀ y ∈ scope.names, y.2 = .free -> (cl.lookup y.1).isSome = true := fun y hy e => isSome_of (by rw [hk]; exact h y hy e)
theorem fR {f : Str × Addr -> Prop} : ∀ p ∈ ([] : List (Str × Addr)), f p := fun p h => nomatch h
theorem bQ {f : Str × Addr -> Prop} {a : Str × Addr} {r : List (Str × Addr)} (h : f a) (hr : ∀ p ∈ r, f p) : ∀ p ∈ a :: r, f p := List.forall_mem_cons.mpr ⟨h, hr⟩
end
section
variable {X : Cx} {e : Expr} {te : ED} {p p2 pos : Pos}
theorem gm (hg : Gl X "isinstance") (hm : X.mg "isinstance" = none) (hg2 : Gl X "bool") (hm2 : X.mg "bool" = none) (he : PD X e te) (hs : starEach [e, .Name "bool" p2] X.env = (false, eval e X.env) :: starEach [.Name "bool" p2] X.env := by rfl) : PD X (.Call (.Name "isinstance" p) [e, .Name "bool" p2] [] pos) (uW "bool" te) := (rR he hg hm hg2 hm2 rM (by decide) (by decide) hs).rl he.mono (by decide)
theorem z8 (hg : Gl X "isinstance") (hm : X.mg "isinstance" = none) (hg2 : Gl X "int") (hm2 : X.mg "int" = none) (he : PD X e te) (hs : starEach [e, .Name "int" p2] X.env = (false, eval e X.env) :: starEach [.Name "int" p2] X.env := by rfl) : PD X (.Call (.Name "isinstance" p) [e, .Name "int" p2] [] pos) (uW "int" te) := (rR he hg hm hg2 hm2 m6 (by decide) (by decide) hs).rl he.mono (by decide)
theorem vH (hg : Gl X "isinstance") (hm : X.mg "isinstance" = none) (hg2 : Gl X "tuple") (hm2 : X.mg "tuple" = none) (he : PD X e te) (hs : starEach [e, .Name "tuple" p2] X.env = (false, eval e X.env) :: starEach [.Name "tuple" p2] X.env := by rfl) : PD X (.Call (.Name "isinstance" p) [e, .Name "tuple" p2] [] pos) (uW "tuple" te) := (rR he hg hm hg2 hm2 boot_tuple (by decide) (by decide) hs).rl he.mono (by decide)
end
structure cE (P : Program) (w : World) (K : PySem.W.Frag) (mg : Str -> Option Value) (base : Heap) (j : Nat) (C : Addr) (m : Str) (sd : cY) (dd : List D) : Prop where
 ex : ∃ f fd ps dvs ds, pV K C /\ Meth K C m f /\ bX P w K mg base lJ j f fd ps (qy K sd) /\ Binds K fd ps ds /\ Vals dvs ds /\ ∀ H, au K H dvs dd
 ms : bS sd
theorem cE.mh {X : Cx} {j k : Nat} {C : Addr} {m : Str} {sd : cY} {dd : List D} (c : cE X.prog X.w X.K X.mg X.base j C m sd dd) (hr : az k X.A) (hj : j <= k) : MH X C m sd dd :=
 let ⟨f, fd, ps, dvs, ds, h1, h2, h3, h4, h5, h6⟩ := c.ex
 ⟨j, f, fd, ps, dvs, ds, h1, h2, h3, c.ms, hr.mono hj, h4, h5, h6⟩
theorem cE.up {P : Program} {w : World} {K : PySem.W.Frag} {mg : Str -> Option Value} {base : Heap} {i j : Nat} {C : Addr} {m : Str} {sd : cY} {dd : List D} (c : cE P w K mg base i C m sd dd) (h : i <= j) : cE P w K mg base j C m sd dd :=
 ⟨let ⟨f, fd, ps, dvs, ds, h1, h2, h3, r⟩ := c.ex; ⟨f, fd, ps, dvs, ds, h1, h2, h3.mono h, r⟩, c.ms⟩
structure Dm (K : PySem.W.Frag) (C : Addr) (m qual : Str) (st : Stmt) (ps : List Str) : Prop where
 ex : ∃ f fd, rG K m qual st f fd /\ Meth K C m f /\ pV K C /\ Binds K fd ps []
section
variable {P : Program} {w : World} {K : PySem.W.Frag} {mg : Str -> Option Value} {base : Heap}
theorem Dm.eQ {k : Nat} {C : Addr} {m qual : Str} {st : Stmt} {ps N : List Str} {sd : cY} {t : eV} (d : Dm K C m qual st ps) (S : aF N ps (aC st)) (ms : bS sd) (len : ∀ ds Q, sd ds Q -> ds.length = ps.length)
  (hb : ∀ (f : Addr) (cdv : Value) (A : Around) (outer : List Env) (s : Shared) (H : Hp) (E : XK), az k (A.deeper (envOfC qual (aC st) s.heap.objs.size f cdv)) -> gY (Bx P w K mg base N qual st f cdv A outer s H E) (af st) t)
  (hr : ∀ ds Q, sd ds Q -> t { nx := fun _ => Q .aW, rt := Q } (bM N ds)) : cE P w K mg base (k + 1) C m sd [] := by
 obtain ⟨f, fd, F, M, c, b⟩ := d.ex
 exact ⟨⟨f, fd, ps, [], [], c, M, IT F S len (hb f) hr, b, .nil, fun _ => .nil⟩, ms⟩
structure mX (P : Program) (w : World) (K : PySem.W.Frag) (mg : Str -> Option Value) (base : Heap) (j : Nat) (x : Str) (C : Addr) (sd : Bd) (dd : List D) : Prop where
 ex : ∃ f fd ps dvs ds, Mk K C f /\ bX P w K mg base lJ j f fd ps (Hi K C sd) /\ mg x = some (.ref C) /\ Binds K fd ps ds /\ Vals dvs ds /\ ∀ H, au K H dvs dd
 ms : rH sd
structure Di (K : PySem.W.Frag) (mg : Str -> Option Value) (x : Str) (C : Addr) (qual : Str) (st : Stmt) (ps : List Str) (dd : List D) : Prop where
 ex : ∃ f fd dvs ds, mW K "__init__" qual st f fd /\ Mk K C f /\ mg x = some (.ref C) /\ Binds K fd ps ds /\ Vals dvs ds /\ ∀ H, au K H dvs dd
theorem Di.Af {k : Nat} {x : Str} {C : Addr} {qual : Str} {st : Stmt} {ps N : List Str} {dd : List D} {sd : Bd} {t : Addr -> ue} (d : Di K mg x C qual st ps dd) (S : aF N ps (aC st)) (ms : rH sd) (len : ∀ ds Q, sd ds Q -> ds.length + 1 = ps.length)
  (hb : ∀ (f : Addr) (cdv : Value) (A : Around) (outer : List Env) (s : Shared) (H : Hp) (E : XK), az k (A.deeper (envOfC qual (aC st) s.heap.objs.size f cdv)) -> EU (Bx P w K mg base N qual st f cdv A outer s H E) C (af st) t)
  (hr : ∀ a ds Q, sd ds Q -> t a { nx := fun _ => Q, rt := Q, fin := Q } (bM N (.adr a :: ds)) []) : mX P w K mg base (k + 1) x C sd dd := by
 obtain ⟨f, fd, dvs, ds, F, M, m, b, v, h⟩ := d.ex
 exact ⟨⟨f, fd, ps, dvs, ds, M, Iw F S len (hb f) hr, m, b, v, h⟩, ms⟩
end
section
variable {X : Cx} {ok : Addr -> Prop} {o e : Expr} {es : List Expr} {m x : Str} {sd : Addr -> cY} {dd : List D} {ta : ED} {t : AD} {pos apos p : Pos} {j k : Nat} {C : Addr} {si : Bd}
theorem jJ {pl : Sem Bool} (hM : ∀ C, ok C -> cE X.prog X.w X.K X.mg X.base j C m (sd C) dd) (hr : az k X.A) (hj : j <= k) (he : PD X o ta)
  (ht : eval (.Call (.Attribute o m apos) [] [] pos) X.env = (do
   let ov <- eval o X.env
   standAt apos.atName
   let (f, first) <- holding [ov] (getMethod ov m pl)
   callWith pos f first (backTo pos (starEach [] X.env)) (backToKw pos (keywordEach [] X.env))) := by rfl) :
  PD X (.Call (.Attribute o m apos) [] [] pos) (km ok m sd dd ta oB) := zg (fun C h => (hM C h).mh hr hj) he ht
theorem Ik {pl : Sem Bool} (hM : ∀ C, ok C -> cE X.prog X.w X.K X.mg X.base j C m (sd C) dd) (hr : az k X.A) (hj : j <= k) (he : PD X o ta) (ha : jE X (e :: es) t)
  (hst : starEach (e :: es) X.env = (false, eval e X.env) :: starEach es X.env := by rfl) (hpl : (backTo pos (starEach es X.env)).any (·.1) = false := by rfl)
  (ht : eval (.Call (.Attribute o m apos) (e :: es) [] pos) X.env = (do
   let ov <- eval o X.env
   standAt apos.atName
   let (f, first) <- holding [ov] (getMethod ov m pl)
   callWith pos f first (backTo pos (starEach (e :: es) X.env)) (backToKw pos (keywordEach [] X.env))) := by rfl) :
  PD X (.Call (.Attribute o m apos) (e :: es) [] pos) (km ok m sd dd ta t) := Cd (fun C h => (hM C h).mh hr hj) he ha hst hpl ht
theorem oP (c : mX X.prog X.w X.K X.mg X.base j x C si dd) (hr : az k X.A) (hj : j + 1 <= k) (hg : Gl X x) (ha : jE X (e :: es) t) (hdb : (x == ("__debug__" : Str)) = false := by decide)
  (h1 : starEach (e :: es) X.env = (false, eval e X.env) :: starEach es X.env := by rfl) (h2 : (backTo pos (starEach es X.env)).any (·.1) = false := by rfl) : PD X (.Call (.Name x p) (e :: es) [] pos) (CA C si dd t) := by
 obtain ⟨f, fd, ps, dvs, ds, M, F, m, b, v, h⟩ := c.ex
 exact Cb M F c.ms (hr.mono hj) hg m b v h ha hdb h1 h2
end
section
variable {X : Cx} {e : Expr} {te : ED} {p p2 pos pos' : Pos} {f x : Str} {C : Addr}
theorem bY (K : PySem.W.Frag) (hK : X.K = K) (he : PD X e te) (hb : attributeBase e f X.env (eval e X.env) = eval e X.env) : PD X (.Attribute e f pos) (BY K te f) := by subst hK; exact Er he hb
theorem bj (K : PySem.W.Frag) (hK : X.K = K) (hN : X.N[0]? = some x) (hv : wO X.env.scope x) (he : PD X e te) (hs : swapsWith e (some (.Attribute (.Name x p) f pos')) pos.line X.env = pure false := by rfl) (hd : (x == ("__debug__" : Str)) = false := by decide)
  (hcd : (x == ("__classdict__" : Str)) = false := by decide) : Ge X C (.Assign [.Attribute (.Name x p) f pos'] e pos) (FH K C f te) := by subst hK; exact FI hN hv he hs hd hcd
end
section
variable {X : Cx} {o e : Expr} {es : List Expr} {to te : ED} {t : AD} {p p1 p2 tp pos apos cpos : Pos}
def BJ (z : D) : cY := fun ds Q => ∃ x y, z = .str x /\ ds = [.str y] /\ (y.length == 0) = false /\ x.length + 2 <= sizeLine /\ Q (.lst ((Txt.split x y).map D.str))
theorem lY {K : PySem.W.Frag} {H : Hp} : ∀ (ws : List Str), au K H (ws.map V.str) (ws.map D.str)
 | [] => .nil
 | w :: ws => .cons (.str w) (lY ws)
theorem rD {K : PySem.W.Frag} {H : Hp} : ∀ {vs : List V} {ws : List Str}, au K H vs (ws.map D.str) -> vs = ws.map V.str
 | [], [], _ => rfl
 | _, _ :: _, .cons (.str _) r => by rw [rD r]; rfl
def isStr : D -> Prop := fun d => ∃ x, d = .str x
def Hv (sd : D -> cY) (to : ED) (t : AD) : ED := fun δ Q => to δ fun z => isStr z /\ t δ fun ds => sd z ds Q
theorem zi (ho : PD X o to) (ha : jE X (e :: es) t) (hbase : attributeBase o "split" X.env (eval o X.env) = eval o X.env := by rfl)
  (hfew : ((backTo cpos (starEach (e :: es) X.env)).all (fun x => !x.1) && (backToKw cpos (keywordEach [] X.env)).all (fun x => x.1.isSome) && decide ((e :: es).length + ([] : List Keyword).length + (if ([] : List Keyword).isEmpty then 0 else 1) < 30)) = true := by rfl)
  (hline : (apos.endLine == cpos.line) = true := by rfl) (hs : starEach (e :: es) X.env = (false, eval e X.env) :: starEach es X.env := by rfl) (hplain : (backTo cpos (starEach es X.env)).any (·.1) = false := by rfl) :
  PD X (.Call (.Attribute o "split" apos) (e :: es) [] cpos) (Hv BJ to t) := by
 refine ⟨(yQ PySem.F.plainAttrs_str PySem.F.slot_str_split PySem.F.type_str_split yC ho.pe ha.pa hbase hfew hline hs hplain).imp fun σ H Q ⟨δ, r, h⟩ => ⟨δ, r, ho.mono _ _ _ (fun z ⟨⟨x, ez⟩, q⟩ v H1 s1 dv => ?_) h⟩,
  fun δ P P' g h => ho.mono _ _ _ (fun z ⟨i, q⟩ => ⟨i, ha.mono _ _ _ (fun ds ⟨x, y, e1, e2, c1, c2, k⟩ => ⟨x, y, e1, e2, c1, c2, g _ k⟩) q⟩) h⟩
 subst ez
 cases dv
 refine ⟨rfl, δ, r.same s1, ha.mono _ _ _ (fun ds ⟨x', y, e1, e2, c1, c2, k⟩ vs H2 s2 dvs => ?_) q⟩
 cases e1
 subst e2
 cases dvs with
 | cons a b =>
  cases a
  cases b
  exact ⟨_, y, rfl, rfl, c1, c2, fun p hp => k _ _ ((s1.trans s2).trans (aN hp)) (.lst (ck.of aI) (lY _))⟩
end
end DC
namespace L2
open PySem PySem.Spec PyProof.Rows
section
variable {X : Cx}
end
end L2
namespace DC
open PySem PySem.Spec PyProof.Rows L2
section
variable {X : Cx} {e : Expr} {es : List Expr} {t : AD} {p pos : Pos}
end
end DC
namespace L2
open PySem PySem.Spec PyProof.Rows
section
variable {prog : Program} {w : World} {A : Around} {E : Value -> Shared -> Prop} {s : Shared}
theorem oz {it t : Addr} {i : Nat} {items : Array Value} {x : Value} {Q : Value -> Shared -> Prop} (hit : s.heap.IsTupleIter it t i) (ht : s.heap.IsTuple t items) (hx : items[i]? = some x)
  (hQ : ∀ h', h'.IsTupleIter it t (i + 1) -> Heap.SameBut it s.heap h' -> Q x { s with heap := h' }) : wpAny (model prog w) A (Builtin.SmallTypes.nextOf (.ref it)) Q E s := by
 obtain ⟨o, ho, hc, hd⟩ := id hit
 obtain ⟨ol, hol, _, nl, hdl⟩ := ht
 unfold Builtin.SmallTypes.nextOf
 refine wpAny_bind (wpAny_callSpecial?_slot (name := Str.ofString "__next__") hit.typeIs F.slot_tuple_iterator_next (wpAny_call_entry F.slot_tuple_iterator_next hit.typeIs F.entry_tuple_iterator_next ?_ (F.args_tuple_iterator_next_1 _)))
 show wpAny _ _ (field (.ref it) 0 >>= _) _ _ s
 refine wpAny_bind (wpAny_field ho hd (x := .ref t) rfl ?_)
 show wpAny _ _ (if (Value.ref t == Value.none) = true then _ else _) _ _ s
 rw [if_neg (show ¬ ((Value.ref t == Value.none) = true) from Bool.false_ne_true)]
 show wpAny _ _ (field (.ref it) 1 >>= _) _ _ s
 refine wpAny_bind (wpAny_field ho hd (x := .int i 0) rfl ?_)
 show wpAny _ _ (seqItems? (.ref t) >>= _) _ _ s
 refine wpAny_bind (wpAny_seqItems hol hdl ?_)
 simp only [Int.toNat_natCast, hx]
 refine wpAny_bind (wpAny_setField ho hd (by simp) (wpAny_pure ⟨x, rfl, wpAny_pure (hQ _ ?_ (Heap.SameBut.update ..))⟩))
 exact ⟨_, Heap.get?_update_self _ ho (Obj.isFreed_of_fields (Obj.data_mapFields hd _)), (Obj.cls_mapFields ..).trans hc, by rw [Obj.data_mapFields hd]; simp [rawInt]⟩
theorem kg {it t : Addr} {i : Nat} {items : Array Value} {Q : Value -> Shared -> Prop} (hh : A.handled = none) (hit : s.heap.IsTupleIter it t i) (ht : s.heap.IsTuple t items) (hx : items[i]? = none)
  (hE : ∀ h' e, Heap.ExtBut it s.heap h' -> (∃ o, h'.get? e = some o /\ o.cls = .type "StopIteration") -> E (.ref e) { s with heap := h' }) : wpAny (model prog w) A (Builtin.SmallTypes.nextOf (.ref it)) Q E s := by
 obtain ⟨o, ho, hc, hd⟩ := id hit
 obtain ⟨ol, hol, _, nl, hdl⟩ := ht
 unfold Builtin.SmallTypes.nextOf
 refine wpAny_bind (wpAny_callSpecial?_slot (name := Str.ofString "__next__") hit.typeIs F.slot_tuple_iterator_next (wpAny_call_entry F.slot_tuple_iterator_next hit.typeIs F.entry_tuple_iterator_next ?_ (F.args_tuple_iterator_next_1 _)))
 show wpAny _ _ (field (.ref it) 0 >>= _) _ _ s
 refine wpAny_bind (wpAny_field ho hd (x := .ref t) rfl ?_)
 show wpAny _ _ (if (Value.ref t == Value.none) = true then _ else _) _ _ s
 rw [if_neg (show ¬ ((Value.ref t == Value.none) = true) from Bool.false_ne_true)]
 show wpAny _ _ (field (.ref it) 1 >>= _) _ _ s
 refine wpAny_bind (wpAny_field ho hd (x := .int i 0) rfl ?_)
 show wpAny _ _ (seqItems? (.ref t) >>= _) _ _ s
 refine wpAny_bind (wpAny_seqItems hol hdl ?_)
 simp only [Int.toNat_natCast, hx]
 refine wpAny_bind (wpAny_rule (wpAny_bind (wpAny_setField ho hd (by simp) ?_)))
 show wpAny _ _ (newExc (.type "StopIteration") [] >>= _) _ _ _
 refine wpAny_bind ?_
 simp only [newExc, newTuple]
 refine wpAny_bind (wpAny_newObj_type ?_ (by size_fits))
 refine wpAny_bind (m := firstArgMember _ _) (wpAny_of_eq (a := Value.none) (by first | rfl | (simp only [firstArgMember]; rfl)) ?_)
 refine wpAny_newObj_type ?_ (by size_fits)
 simp only [raiseNew]
 refine wpAny_bind (wpAny_handled ?_)
 first | rw [show A.in1.handled = none from hh] | rw [hh]
 refine wpAny_bind (wpAny_pure (wpAny_throw ?_))
 exact hE _ _ (((Heap.SameBut.update ..).extBut.push _).push _) ⟨_, Heap.get?_push_size _ rfl, rfl⟩
end
section
variable {prog : Program} {w : World} {A : Around}
end
section
variable {prog : Program} {w : World} {A : Around} {E : Value -> Shared -> Prop} {s : Shared} {z TI TO i1 i2 l1 l2 : Addr} {k1 k2 : Nat} {xs ys : Array Value} {x y a b : Value} {S1 S2 : Nat -> Heap -> Prop}
end
section
variable {prog : Program} {w : World} {A : Around} {E : Value -> Shared -> Prop} {s : Shared} {z TI TO i1 i2 l1 l2 : Addr} {k1 k2 : Nat} {xs ys : Array Value} {x y a b : Value} {S1 S2 : Nat -> Heap -> Prop}
end
section
variable {X : Cx} {pins : List (Addr × Obj)} {σ : St} {H : Hp} {s : Shared} {a : Addr} {xs ys : List V}
theorem Inv.uV {h' : Heap} {t' : Nat} {ch : List Addr} {T : Addr} {u1 u2 : Value} {x y : V} (I : Inv X pins σ H s) (hk : ∀ b o, b ∉ ch -> s.heap.get? b = some o -> h'.get? b = some o) (hf : ∀ b ∈ ch, gW X pins H b)
  (hT : s.heap.objs.size <= T) (hp : IsPair h' T u1 u2) (r1 : RelV x u1) (r2 : RelV y u2) : Inv X pins σ (upd H T (.tup [x, y])) { s with heap := h', toks := t' } := by
 have hn : H T = none := I.ao.fresh hT
 have nT : ∀ {b : Addr} {o : Obj}, s.heap.get? b = some o -> b ≠ T := fun e => Nat.ne_of_lt (Nat.lt_of_lt_of_le (Heap.lt_size e) hT)
 have nch : ∀ {b : Addr} {o : HO}, H b = some o -> b ∉ ch := fun e hb => by rw [(hf _ hb).1] at e; cases e
 refine I.m7 (ch := ch) rfl ⟨fun b o e n hb hc => hk b o hc e, fun b o e n hb hc => ⟨o.slots, hk b o hc e⟩, fun b o e n hc => by rw [aH (nT e)]; exact n, fun b o e hc => ⟨o, hk b o hc e⟩,
  fun b zs e => by rw [aH (aS e hn)]; exact e, fun b o u e => by rw [aH (aS e hn)]; exact e, fun b ps e => ⟨#[], by rw [aH (aS e hn), e]; simp⟩⟩ (fun b o e => ?_) I.bare fun b hb => ?_
 ·by_cases hb : b = T
  ·rw [hb, aI] at e
   cases e
   rw [hb]
   exact ⟨(show 2 <= sizeLine by decide), [u1, u2], .cons r1 (.cons r2 .nil), _, hp, rfl, _, rfl⟩
  ·rw [aH hb] at e
   refine (I.ao b o e).kH (fun c u hc q => hk c u ?_ q) (fun c hc => by rw [aH (aS hc hn)]; exact hc) (fun c zs hc => by rw [aH (aS hc hn)]; exact hc)
   rcases hc with rfl | hc
   ·exact nch e
   ·exact nch hc
 ·obtain ⟨_, f2, f3, f4, f5, f6⟩ := hf b hb
  exact ⟨f4, f2, f5, f6⟩
theorem Inv.uU {h' : Heap} {t' : Nat} {ch : List Addr} (I : Inv X pins σ H s) (hk : ∀ b o, b ∉ ch -> s.heap.get? b = some o -> h'.get? b = some o) (hf : ∀ b ∈ ch, gW X pins H b) : Inv X pins σ H { s with heap := h', toks := t' } := by
 have nch : ∀ {b : Addr} {o : HO}, H b = some o -> b ∉ ch := fun e hb => by rw [(hf _ hb).1] at e; cases e
 refine I.m7 (ch := ch) rfl ⟨fun b o e n hb hc => hk b o hc e, fun b o e n hb hc => ⟨o.slots, hk b o hc e⟩, fun b o e n hc => n, fun b o e hc => ⟨o, hk b o hc e⟩, fun b zs e => e, fun b o u e => e, fun b ps e => ⟨#[], by rw [e]; simp⟩⟩ (fun b o e => ?_) I.bare fun b hb => ?_
 ·refine (I.ao b o e).kH (fun c u hc q => hk c u ?_ q) (fun c hc => hc) (fun c zs hc => hc)
  rcases hc with rfl | hc
  ·exact nch e
  ·exact nch hc
 ·obtain ⟨_, f2, f3, f4, f5, f6⟩ := hf b hb
  exact ⟨f4, f2, f5, f6⟩
end
section
variable {X : Cx} {e1 e2 : Expr} {ta : TA} {p pos tp : Pos} {elts : List Expr} {c : Nat}
end
end L2
namespace DC
open PySem PySem.Spec PyProof.Rows L2
section
variable {X : Cx} {e1 e2 : Expr} {ta : AD} {p pos tp : Pos} {elts : List Expr} {c : Nat}
end
theorem DA {r : L2.St} {x y : Option V} : Le (none :: none :: r) (x :: y :: r) := ⟨rfl, fun i v h => by
 cases i with
 | zero => cases h
 | succ i =>
  cases i with
  | zero => cases h
  | succ i => exact h⟩
theorem qu {K : PySem.W.Frag} {H : Hp} {σ : L2.St} {δ : SD} (r : ay K H σ δ) {x : V} {d : D} (dv : Dv K H x d) : ay K H (some x :: σ) (some d :: δ) := by
 refine ⟨by rw [List.length_cons, List.length_cons, r.len], fun i e h => ?_⟩
 cases i with
 | zero => simp at h; subst h; exact ⟨x, rfl, dv⟩
 | succ i => simpa using r.get i e (by simpa using h)
theorem wb {K : PySem.W.Frag} {H : Hp} {σ : L2.St} {δ : SD} (r : ay K H σ δ) (caps : List Nat) : ay K H (caps.map fun j => (σ[j]?).getD none) (ie caps δ) := by
 have q := oK r (Dv.aW) caps
 refine ⟨by simpa using q.len, fun i d h => ?_⟩
 simpa using q.get (i + 1) d (by simpa using h)
section
variable {X : Cx} {scope : Scope} {cl : List (Str × Addr)} {x y : Str} {cn : List Str} {caps : List Nat} {elt tg iter : Expr} {ifs : List Expr} {ti : AD} {tt : TD} {te : ED} {pos px py tp : Pos} {c : Nat}
end
section
variable {K : PySem.W.Frag} {H H' : Hp} {μ μ' : Mu} {L L' : List Addr}
theorem eU.join (g : eU K H μ L) (g' : eU K H' μ' L') (z : ∀ b ∈ L, H' b = none) (s : aJ (aY H L) (aY H' L')) : eU K (ai H' H L) (μ' ++ μ) (L' ++ L) /\ aY (ai H' H L) (L' ++ L) = aY H' L' := by
 have nL : ∀ {b : Addr} {o : HO}, H' b = some o -> b ∉ L := fun e hb => by rw [z _ hb] at e; cases e
 have e : aY (ai H' H L) (L' ++ L) = aY H' L' := by
  funext b
  by_cases h1 : b ∈ L'
  ·rw [b9 (List.mem_append_left _ h1), b9 h1]
  ·by_cases h2 : b ∈ L
   ·rw [b9 (List.mem_append_right _ h2), ax h1, z b h2]
   ·rw [ax (fun q => (List.mem_append.mp q).elim h1 h2), ax h1, aU h2]
 refine ⟨⟨fun p hp => ?_, ?_, fun b hb => ?_, fun b hb => ?_⟩, e⟩
 ·rcases List.mem_append.mp hp with hp | hp
  ·obtain ⟨h1, h2⟩ := g'.at_ p hp
   refine ⟨List.mem_append_left _ h1, ?_⟩
   obtain ⟨b, m⟩ := p
   cases m with
   | lst ds => obtain ⟨ws, h, d⟩ := h2; exact ⟨ws, by rw [aU (nL h)]; exact h, by rw [e]; exact d⟩
   | ins C gs => obtain ⟨dx, fs, h, h2, h3, d⟩ := h2; exact ⟨dx, fs, by rw [aU (nL h)]; exact h, by rw [aU (nL h2)]; exact h2, List.mem_append_left _ h3, by rw [e]; exact d⟩
   | dK kvs => obtain ⟨ws, h, d⟩ := h2; exact ⟨ws, by rw [aU (nL h)]; exact h, by rw [e]; exact d⟩
  ·obtain ⟨h1, h2⟩ := g.at_ p hp
   refine ⟨List.mem_append_right _ h1, ?_⟩
   obtain ⟨b, m⟩ := p
   cases m with
   | lst ds => obtain ⟨ws, h, d⟩ := h2; exact ⟨ws, by rw [aX h1]; exact h, by rw [e]; exact au.same s d⟩
   | ins C gs => obtain ⟨dx, fs, h, h2, h3, d⟩ := h2; exact ⟨dx, fs, by rw [aX h1]; exact h, by rw [aX h3]; exact h2, List.mem_append_right _ h3, by rw [e]; exact dQ.same s d⟩
   | dK kvs => obtain ⟨ws, h, d⟩ := h2; exact ⟨ws, by rw [aX h1]; exact h, by rw [e]; exact dz.same s d⟩
 ·rw [List.map_append, List.nodup_append]
  refine ⟨g'.Bu, g.Bu, fun a ha b hb hab => ?_⟩
  obtain ⟨p, hp, rfl⟩ := List.mem_map.mp ha
  obtain ⟨q, hq, rfl⟩ := List.mem_map.mp hb
  obtain ⟨o, ho⟩ := (g'.cz _ (g'.at_ p hp).1).there
  rw [show p.1 = q.1 from hab, z _ (g.at_ q hq).1] at ho
  cases ho
 ·rcases List.mem_append.mp hb with hb | hb
  ·have w := g'.cz b hb
   cases w with
   | lst xs h => exact .lst xs (by rw [aU (nL h)]; exact h)
   | dK xs h => exact .dK xs (by rw [aU (nL h)]; exact h)
   | ins C dx fs h hd => exact .ins C dx fs (by rw [aU (nL h)]; exact h) (List.mem_append_left _ hd)
   | own C c fs h hc hi => exact .own C c fs (by rw [aU (nL h)]; exact h) (List.mem_append_left _ hc) (by rw [aU (nL hi)]; exact hi)
  ·have w := g.cz b hb
   cases w with
   | lst xs h => exact .lst xs (by rw [aX hb]; exact h)
   | dK xs h => exact .dK xs (by rw [aX hb]; exact h)
   | ins C dx fs h hd => exact .ins C dx fs (by rw [aX hb]; exact h) (List.mem_append_right _ hd)
   | own C c fs h hc hi => exact .own C c fs (by rw [aX hb]; exact h) (List.mem_append_right _ hc) (by rw [aX hc]; exact hi)
 ·rcases List.mem_append.mp hb with hb | hb
  ·rcases g'.CW b hb with ⟨m, h⟩ | ⟨c, h⟩
   ·exact .inl ⟨m, List.mem_append_left _ h⟩
   ·exact .inr ⟨c, by rw [aU (nL h)]; exact h⟩
  ·rcases g.CW b hb with ⟨m, h⟩ | ⟨c, h⟩
   ·exact .inl ⟨m, List.mem_append_right _ h⟩
   ·exact .inr ⟨c, by rw [aX hb]; exact h⟩
end
abbrev EF := SD -> (D -> Mu -> Prop) -> Prop
def kF (K : PySem.W.Frag) (H : Hp) (Q : VK) : D -> Mu -> Prop := fun d μ => ∀ v H' L', aJ H (aY H' L') -> eU K H' μ L' -> Dv K (aY H' L') v d -> Q v H'
structure PF (X : Cx) (e : Expr) (t : EF) : Prop where
 pe : PE X e (fun σ H Q => ∃ δ, ay X.K H σ δ /\ t δ (kF X.K H Q))
 mono : ∀ δ (P P' : D -> Mu -> Prop), (∀ d μ, P d μ -> P' d μ) -> t δ P -> t δ P'
section
variable {P : Program} {w : World} {K : PySem.W.Frag} {mg : Str -> Option Value} {base : Heap}
end
section
variable {X : Cx} {o e : Expr} {es : List Expr} {ta : ED} {t : AD} {tf : EF} {j k : Nat} {x m : Str} {ps : List Str} {sd : Ih} {sm : Addr -> Ih} {ok : Addr -> Prop} {p pos pos' apos : Pos} {i : Nat}
end
inductive ju : List (Str × V) -> List DictEntry -> Prop
 | nil : ju [] []
 | cons {x : Str} {t : Tok} {v : V} {e : DictEntry} {kvs : List (Str × V)} {es : List DictEntry} : e.key = .str x t -> RelV v e.val -> ju kvs es -> ju ((x, v) :: kvs) (e :: es)
structure KTab (w : World) (K : PySem.W.Frag) (a : Addr) (kvs : List (Str × V)) : Prop where
 ex : ∃ (es : Array DictEntry) (n : Nat), K.lookup a = some ⟨.type "dict", none, .dict es n, #[]⟩ /\ PySem.W.KeysLit w.params es.toList /\ ju kvs es.toList
 sys : (a == sysModules) = false
theorem ju.has {x : Str} : ∀ {kvs : List (Str × V)} {es : List DictEntry}, ju kvs es -> ((es.find? fun d => Value.isStrOf x d.key).map (·.val)).isSome = kvs.any fun p => p.1 == x
 | _, _, .nil => rfl
 | _, _, .cons (x := y) (e := e) hk hv r => by
  have ih := ju.has (x := x) r
  rw [List.find?_cons, hk, List.any_cons]
  show (Option.map (·.val) (match (y == x) with | true => some e | false => _)).isSome = (y == x || _)
  cases h : (y == x) with
  | true => rfl
  | false => exact ih
theorem ju.get {x : Str} {v : V} : ∀ {kvs : List (Str × V)} {es : List DictEntry}, ju kvs es -> kvs.lookup x = some v -> ∃ u, (es.find? fun d => Value.isStrOf x d.key).map (·.val) = some u /\ RelV v u
 | _, _, .nil, h => by cases h
 | _, _, .cons (x := y) (e := e) hk hv r, h => by
  rw [List.lookup_cons] at h
  rw [List.find?_cons, hk]
  show ∃ u, Option.map (·.val) (match (y == x) with | true => some e | false => _) = some u /\ RelV v u
  rw [show (y == x) = (x == y) from Bool.beq_comm]
  cases q : (x == y) with
  | true => rw [q] at h; cases h; exact ⟨_, rfl, hv⟩
  | false => rw [q] at h; exact ju.get r h
section
variable {X : Cx} {a : Addr} {kvs : List (Str × V)}
theorem DX (T : KTab X.w X.K a kvs) : fB X (compareOp .In) (fun x y H Q => ∃ z, x = .str z /\ y = .ref a /\ Q (.bl (kvs.any fun p => p.1 == z)) H) := by
 intro pins s σ H x y v u Q I rx ry h
 obtain ⟨z, rfl, rfl, q⟩ := h
 obtain ⟨t, rfl⟩ := (show ∃ t, v = Value.str z t from rx)
 cases (show u = Value.ref a from ry)
 obtain ⟨es, n, hl, hk, he⟩ := T.ex
 refine wpAny_in_of (strKind_is X.prog X.w z t) T.sys (PySem.W.mapOf_K (prog := X.prog) I.iN hl hk) ?_
 have e : (findBy Value.isStrOf es z).isSome = kvs.any fun p => p.1 == z := by
  unfold findBy
  obtain ⟨l⟩ := es
  rw [List.find?_toArray]
  exact he.has
 rw [e]
 exact ⟨.bl _, H, I.tok _, rfl, q⟩
theorem vU (T : KTab X.w X.K a kvs) : fB X (compareOp .NotIn) (fun x y H Q => ∃ z, x = .str z /\ y = .ref a /\ Q (.bl (!kvs.any fun p => p.1 == z)) H) := by
 intro pins s σ H x y v u Q I rx ry h
 obtain ⟨z, rfl, rfl, q⟩ := h
 obtain ⟨t, rfl⟩ := (show ∃ t, v = Value.str z t from rx)
 cases (show u = Value.ref a from ry)
 obtain ⟨es, n, hl, hk, he⟩ := T.ex
 refine wpAny_notIn_of (strKind_is X.prog X.w z t) T.sys (PySem.W.mapOf_K (prog := X.prog) I.iN hl hk) ?_
 have e : (findBy Value.isStrOf es z).isSome = kvs.any fun p => p.1 == z := by
  unfold findBy
  obtain ⟨l⟩ := es
  rw [List.find?_toArray]
  exact he.has
 rw [e]
 exact ⟨.bl _, H, I.tok _, rfl, q⟩
theorem AF (T : KTab X.w X.K a kvs) : zI X (fun x y H Q => ∃ z r, x = .ref a /\ y = .str z /\ kvs.lookup z = some r /\ Q r H) := by
 intro value slice pins s σ H x y v u Q I rx ry h hs
 obtain ⟨z, r, rfl, rfl, hr, q⟩ := h
 obtain ⟨t, rfl⟩ := (show ∃ t, u = Value.str z t from ry)
 cases (show v = Value.ref a from rx)
 obtain ⟨es, n, hl, hk, he⟩ := T.ex
 have hm := PySem.W.mapOf_K (prog := X.prog) (w := X.w) I.iN hl hk
 obtain ⟨b, hb, rb⟩ := he.get hr
 have e : findBy Value.isStrOf es z = some b := by
  unfold findBy
  obtain ⟨l⟩ := es
  rw [List.find?_toArray]
  exact hb
 exact tail_any hm.typeIs slot_dict_getitem.lookup (wpAny_getItem_of (strKind_is X.prog X.w z t) hm e ⟨r, H, I.tok _, rb, q⟩) hs
end
inductive Tb (K : PySem.W.Frag) : List (Str × V) -> List (Str × D) -> Prop
 | nil : Tb K [] []
 | cons {x : Str} {v : V} {d : D} {kvs : List (Str × V)} {tab : List (Str × D)} : (∀ H, Dv K H v d) -> Tb K kvs tab -> Tb K ((x, v) :: kvs) ((x, d) :: tab)
structure wM (w : World) (K : PySem.W.Frag) (mg : Str -> Option Value) (x : Str) (a : Addr) (tab : List (Str × D)) : Prop where
 at_ : mg x = some (.ref a)
 ex : ∃ kvs, KTab w K a kvs /\ Tb K kvs tab
theorem Tb.any {K : PySem.W.Frag} {z : Str} : ∀ {kvs : List (Str × V)} {tab : List (Str × D)}, Tb K kvs tab -> (kvs.any fun p => p.1 == z) = tab.any fun p => p.1 == z
 | _, _, .nil => rfl
 | _, _, .cons h r => by rw [List.any_cons, List.any_cons, Tb.any r]
theorem Tb.look {K : PySem.W.Frag} {z : Str} {d : D} : ∀ {kvs : List (Str × V)} {tab : List (Str × D)}, Tb K kvs tab -> tab.lookup z = some d -> ∃ v, kvs.lookup z = some v /\ ∀ H, Dv K H v d
 | _, _, .nil, h => by cases h
 | _, _, .cons (x := x) h r, e => by
  rw [List.lookup_cons] at e ⊢
  cases q : z == x with
  | true => rw [q] at e; cases e; exact ⟨_, rfl, h⟩
  | false => rw [q] at e; exact Tb.look r e
theorem PD.weak {X : Cx} {e : Expr} {t t' : ED} (h : PD X e t) (m : aw t') (f : ∀ δ Q, t' δ Q -> t δ Q) : PD X e t' := ⟨h.pe.imp fun σ H Q ⟨δ, r, q⟩ => ⟨δ, r, f _ _ q⟩, m⟩
theorem jt.weak {X : Cx} {e : Expr} {t t' : TD} (h : jt X e t) (m : cj t') (f : ∀ δ Q, t' δ Q -> t δ Q) : jt X e t' := ⟨PT.imp h.pt fun σ H Q ⟨δ, r, q⟩ => ⟨δ, r, f _ _ q⟩, m⟩
def EL (neg : Bool) (tab : List (Str × D)) (te : ED) : ED := fun δ Q => te δ fun d => ∃ z, d = .str z /\ Q (.bl (if neg then !tab.any fun p => p.1 == z else tab.any fun p => p.1 == z))
theorem Br {neg : Bool} {tab : List (Str × D)} {te : ED} (m : aw te) : aw (EL neg tab te) := fun δ P P' g h => m _ _ _ (fun d ⟨z, e, q⟩ => ⟨z, e, g _ q⟩) h
def Ci (neg : Bool) (a : Addr) (tab : List (Str × D)) : F2 := fun d e Q => ∃ z, d = .str z /\ e = .adr a /\ Q (.bl (if neg then !tab.any fun p => p.1 == z else tab.any fun p => p.1 == z))
theorem xq {neg : Bool} {a : Addr} {tab : List (Str × D)} : cg (Ci neg a tab) := fun d e P P' g ⟨z, e1, e2, q⟩ => ⟨z, e1, e2, g _ q⟩
def B_ (tab : List (Str × D)) (te : ED) : ED := fun δ Q => te δ fun d => ∃ z r, d = .str z /\ tab.lookup z = some r /\ Q r
def Bj (a : Addr) (tab : List (Str × D)) : F2 := fun e d Q => ∃ z r, e = .adr a /\ d = .str z /\ tab.lookup z = some r /\ Q r
theorem AZ {a : Addr} {tab : List (Str × D)} : cg (Bj a tab) := fun d e P P' g ⟨z, r, e1, e2, l, q⟩ => ⟨z, r, e1, e2, l, g _ q⟩
section
variable {X : Cx} {a : Addr} {tab : List (Str × D)} {kvs : List (Str × V)} {x : Str} {p pos : Pos} {e : Expr} {te : ED}
theorem xC (t : Tb X.K kvs tab) : e_ X.K (fun x y H Q => ∃ z, x = .str z /\ y = .ref a /\ Q (.bl (kvs.any fun p => p.1 == z)) H) (Ci false a tab) := by
 rintro H v u d e Q hv hu ⟨z, rfl, rfl, q⟩
 cases hv
 cases hu
 exact ⟨z, rfl, rfl, by rw [t.any]; exact q _ H (aJ.refl _) (.bl _)⟩
theorem p9 (t : Tb X.K kvs tab) : e_ X.K (fun x y H Q => ∃ z, x = .str z /\ y = .ref a /\ Q (.bl (!kvs.any fun p => p.1 == z)) H) (Ci true a tab) := by
 rintro H v u d e Q hv hu ⟨z, rfl, rfl, q⟩
 cases hv
 cases hu
 exact ⟨z, rfl, rfl, by rw [t.any]; exact q _ H (aJ.refl _) (.bl _)⟩
theorem ux (t : Tb X.K kvs tab) : e_ X.K (fun x y H Q => ∃ z r, x = .ref a /\ y = .str z /\ kvs.lookup z = some r /\ Q r H) (Bj a tab) := by
 rintro H v u d e Q hv hu ⟨z, r, rfl, rfl, l, q⟩
 cases hv
 cases hu
 obtain ⟨b, hb, db⟩ := t.look l
 exact ⟨z, b, rfl, rfl, hb, q _ H (aJ.refl _) (db H)⟩
theorem Es (T : wM X.w X.K X.mg x a tab) (hg : Gl X x) (he : PD X e te) (hm : behindInMarks .In (.Name x p) = false := by rfl) (hd : (x == ("__debug__" : Str)) = false := by decide) : PD X (.Compare e [.In] [.Name x p] pos) (EL false tab te) := by
 obtain ⟨kvs, k, t⟩ := T.ex
 exact (lR (DX k) (xC t) xq he (d6 (v := .ref a) hg T.at_ rfl (fun _ => .adr a) hd) hm).weak (Br he.mono) fun δ Q h => he.mono _ _ _ (fun d ⟨z, e1, q⟩ => ⟨z, e1, rfl, q⟩) h
theorem y_ (T : wM X.w X.K X.mg x a tab) (hg : Gl X x) (he : PD X e te) (hm : behindInMarks .NotIn (.Name x p) = false := by rfl) (hd : (x == ("__debug__" : Str)) = false := by decide) : jt X (.Compare e [.NotIn] [.Name x p] pos) (fj (EL true tab te)) := by
 obtain ⟨kvs, k, t⟩ := T.ex
 exact (jq (vU k) (p9 t) xq he (d6 (v := .ref a) hg T.at_ rfl (fun _ => .adr a) hd) hm).weak (xw (Br he.mono)) fun δ Q h => he.mono _ _ _ (fun d ⟨z, e1, q⟩ => ⟨z, e1, rfl, q⟩) h
theorem oO (T : wM X.w X.K X.mg x a tab) (hg : Gl X x) (he : PD X e te) (hs : n_ e) (hd : (x == ("__debug__" : Str)) = false := by decide) : PD X (.Subscript (.Name x p) e pos) (B_ tab te) := by
 obtain ⟨kvs, k, t⟩ := T.ex
 have q := d6 (X := X) (pos := p) (v := .ref a) hg T.at_ rfl (fun _ => .adr a) hd
 exact (pq (t := oE X.K (vC (.adr a))) (By (AF k) q.pe he.pe hs) q.mono he.mono (ux t) AZ).weak (fun δ P P' g h => he.mono _ _ _ (fun d ⟨z, r, e, l, q⟩ => ⟨z, r, e, l, g _ q⟩) h) fun δ Q h => he.mono _ _ _ (fun d ⟨z, r, e1, l, q⟩ => ⟨z, r, rfl, e1, l, q⟩) h
end
def mO (g : D -> D) (ds : List D) : List (Option D) := ds.map fun d => some (g d)
def fO (p : D -> Bool) (g : D -> D) (ds : List D) : List (Option D) := ds.map fun d => if p d = true then some (g d) else none
theorem rn {g : D -> D} {ds : List D} : (mO g ds).length = ds.length := by simp [mO]
theorem Ck {p : D -> Bool} {g : D -> D} {ds : List D} : (fO p g ds).length = ds.length := by simp [fO]
theorem xp {g : D -> D} {ds : List D} {i : Nat} {d : D} {o : Option D} (h1 : ds[i]? = some d) (h2 : (mO g ds)[i]? = some o) : d ∈ ds /\ o = some (g d) := by
 unfold mO at h2
 rw [List.getElem?_map, h1] at h2
 exact ⟨List.mem_of_getElem? h1, by simpa using h2.symm⟩
theorem E4 {p : D -> Bool} {g : D -> D} {ds : List D} {i : Nat} {d : D} {o : Option D} (h1 : ds[i]? = some d) (h2 : (fO p g ds)[i]? = some o) : d ∈ ds /\ o = if p d = true then some (g d) else none := by
 unfold fO at h2
 rw [List.getElem?_map, h1] at h2
 exact ⟨List.mem_of_getElem? h1, by simpa using h2.symm⟩
theorem ot {g : D -> D} : ∀ {ds : List D}, (mO g ds).filterMap id = ds.map g
 | [] => rfl
 | d :: ds => by
  have ih := ot (g := g) (ds := ds)
  unfold mO at ih ⊢
  rw [List.map_cons, List.map_cons, <- ih]
  rfl
theorem Cn {p : D -> Bool} {g : D -> D} {ds : List D} : (fO p g ds).filterMap id = (ds.filter p).map g := pD p g ds
theorem Cm {p : D -> Bool} {g : D -> D} {d : D} {o : Option D} {R : (D -> Prop) -> Prop} (h : o = if p d = true then some (g d) else none) (r : R fun y => some (g d) = some y) : p d = o.isSome /\ (p d = true -> R fun y => o = some y) := by
 cases hp : p d with
 | true => rw [hp, if_pos rfl] at h; subst h; exact ⟨rfl, fun _ => r⟩
 | false => rw [hp, if_neg Bool.false_ne_true] at h; subst h; exact ⟨rfl, fun z => by cases z⟩
section
variable {X : Cx} {e : Expr} {tf : EF} {x : Str} {pos pos' : Pos} {i : Nat}
def FP (i : Nat) (tf : EF) : jw := fun E δ μ => tf δ fun d μ' => ((μ' ++ μ).map (·.1)).Nodup -> E.nx (δ.set i (some d)) (μ' ++ μ)
theorem uH (hN : X.N.Nodup) (hi : X.N[i]? = some x) (hx : Loc X.env.scope x) (he : PF X e tf) (hs : swapsWith e (some (.Name x pos')) pos.line X.env = pure false := by rfl)
  (hf : X.fn x = true \/ X.env.scope.names.lookup x = some .local := by first | exact .inl rfl | exact .inr rfl | assumption) : zL X (.Assign [.Name x pos'] e pos) (FP i tf) := by
 refine ⟨PS.imp (sQ hN hi hx (ir he.pe) hs hf) fun D σ H ⟨δ, μ, L, r, g, h⟩ => ⟨L, g.cz, δ, r, he.mono _ _ _ (fun d μ' k v H' L' s' g' dv z => ?_) h⟩, fun E E' δ μ l h => he.mono _ _ _ (fun d μ' q n => l.nx _ _ (q n)) h⟩
 obtain ⟨g2, e2⟩ := g.join g' z s'
 refine k g2.Bu _ _ (L' ++ L) (by rw [e2]; exact s') ?_ g2
 rw [e2]
 exact (r.same s').set i dv
end
end DC
namespace L2
open PySem PySem.Spec PyProof.Rows
section
variable {X : Cx} {es : List Expr} {t : TA}
end
end L2
namespace DC
open PySem PySem.Spec PyProof.Rows L2
section
variable {P : Program} {w : World} {K : PySem.W.Frag} {mg : Str -> Option Value} {base : Heap}
end
section
variable {P : Program} {w : World} {K : PySem.W.Frag} {mg : Str -> Option Value} {base : Heap}
end
section
variable {X : Cx} {o e : Expr} {es : List Expr} {ta : ED} {t : AD} {j k : Nat} {x y m : Str} {ps : List Str} {sd : Ij} {sm : Addr -> Ij} {ok : Addr -> Prop} {p pos pos' pos2 apos : Pos} {i : Nat}
end
end DC
namespace L2
open PySem PySem.Spec PyProof.Rows
def mV (B : Heap) (e C : Addr) (dx : Option Addr) (fl : Option Value) (h : Heap) : Prop := ∃ oe vs, h.get? e = some oe /\ oe.cls = .ref C /\ oe.dict = dx /\ oe.data = .fields vs /\ 1 < vs.size /\ vs[2]? = some .none /\
 match fl with
 | none => vs[1]? = some .none
 | some v => ∃ T oT ts, vs[1]? = some (.ref T) /\ B.get? T = none /\ T ≠ e /\ h.get? T = some oT /\ oT.data = .fields ts /\ ts[3]? = some v
structure pW (B : Heap) (l : List Env) (e : Addr) (h : Heap) : Prop where
 st : B.StaysIn h
 ne : B.get? e = none
 fr : h.FunFrames B l
theorem lX (o : Obj) (f : Array Value -> Array Value) : (o.mapFields f).dict = o.dict := by
 obtain ⟨c, d, dt, sl⟩ := o
 cases dt <;> rfl
section
variable {M : Model} {A : Around} {E : Value -> Shared -> Prop} {s : Shared} {B : Heap} {env : Env} {outer : List Env} {L e C : Addr} {dx : Option Addr} {Q : Unit -> Shared -> Prop}
theorem tw {oe : Obj} {vs : Array Value} {head : Value} {b : Bool} (hfr : A.frames = some (env :: outer)) (hf : env.frame = some L) (a : pW B (env :: outer) e s.heap) (he : s.heap.get? e = some oe) (hc : oe.cls = .ref C)
  (hdx : oe.dict = dx) (hd : oe.data = .fields vs) (hz : 1 < vs.size) (hy : vs[2]? = some .none) (h : ∀ h', pW B (env :: outer) e h' -> s.heap.UpToSlots h' -> mV B e C dx (some (rawInt L)) h' -> Q () { s with heap := h' }) :
  wpAny M A (do let a <- frameOf env; let pl <- entryPlaceOf L b; let z <- EntryCells.newEntry head a .none (rawInt L) .none pl; setField (.ref e) 1 z) Q E s := by
 have nfr : e ∉ (env :: outer).filterMap (·.frame) := fun hm => by
  obtain ⟨_, o, ho, hn⟩ := a.fr.mem hm
  rw [he] at ho
  cases ho
  exact hn vs hd
 refine wpAny_bind (wpAny_frameOf_fun hfr a.fr hf fun h1 s1 => wpAny_bind (wpAny_entryPlaceOf fun pl hpl => ?_))
 unfold EntryCells.newEntry newFields
 refine wpAny_bind (wpAny_newObj_type ?_ (hpl.sizeOk5 _ _ _ _ _))
 have e1 : h1.get? e = some oe := (s1.2.1 e nfr).trans he
 have b1 : B.StaysIn h1 := fun c o q => (s1.2.1 c fun hm => by rw [(a.fr.mem hm).1] at q; cases q).trans (a.st c o q)
 generalize hob : ({ cls := .type "traceback", dict := none, data := .fields ([head, .ref L, .none, rawInt L, .none] ++ (if pl.isEmpty then List.replicate 6 Value.none else pl)).toArray } : Obj) = ob
 have e2 := Heap.get?_push_of_some (h := h1) ob e1
 have hTe : h1.objs.size ≠ e := Nat.ne_of_gt (Heap.lt_size e1)
 have d3 := Obj.data_mapFields hd (·.setIfInBounds 1 (Value.ref h1.objs.size))
 have e3 := Heap.get?_update_self (Obj.mapFields (·.setIfInBounds 1 (Value.ref h1.objs.size))) e2 (Obj.isFreed_of_fields d3)
 have t3 := (Heap.get?_update_other (h1.push ob) (Obj.mapFields (·.setIfInBounds 1 (Value.ref h1.objs.size))) (Ne.symm hTe)).trans (Heap.get?_push_size h1 (by rw [<- hob]; rfl))
 have kp : ∀ c o, c ≠ e -> h1.get? c = some o -> ((h1.push ob).update e (Obj.mapFields (·.setIfInBounds 1 (Value.ref h1.objs.size)))).get? c = some o := fun c o n q => by
  rw [Heap.get?_update_other _ _ (Ne.symm n)]
  exact Heap.get?_push_of_some _ q
 have nr : ∀ c o, s.heap.get? c = some o -> (∀ ws, o.data ≠ .fields ws) -> c ≠ e := fun c o q n z => by
  rw [z, he] at q
  cases q
  exact n vs hd
 refine wpAny_setField e2 hd hz (h _ ⟨fun c o q => kp c o (fun z => by rw [z, a.ne] at q; cases q) (b1 c o q), a.ne, a.fr.of_keeps fun c o q n => ?_⟩ (fun c o q n => ?_) ⟨_, _, e3, ?_, ?_, d3, ?_, ?_, ?_⟩)
 ·obtain ⟨sl, z⟩ := s1.2.2 c o q
  exact ⟨_, kp c _ (nr c o q n) z, rfl⟩
 ·obtain ⟨sl, z⟩ := s1.2.2 c o q
  exact ⟨sl, kp c _ (nr c o q n) z⟩
 ·rw [Obj.cls_mapFields]; exact hc
 ·rw [lX]; exact hdx
 ·rw [Array.size_setIfInBounds]; exact hz
 ·rw [Array.getElem?_setIfInBounds_ne (by decide)]; exact hy
 ·refine ⟨h1.objs.size, ob, _, by simp [hz], b1.fresh, hTe, t3, by rw [<- hob], ?_⟩
  first | (simp; done) | (rcases hpl with rfl | ⟨_, _, _, _, _, _, _, rfl⟩ <;> simp)
theorem B9 {T : Addr} {oT : Obj} {ts : Array Value} {k : Nat} {v : Value} {h : Heap} {l : List Env} (a : pW B l e h) (hT : h.get? T = some oT) (hd : oT.data = .fields ts) (hn : B.get? T = none) :
  pW B l e (h.update T (Obj.mapFields (·.setIfInBounds k v))) /\ h.UpToSlots (h.update T (Obj.mapFields (·.setIfInBounds k v))) := by
 have other : ∀ b, b ≠ T -> (h.update T (Obj.mapFields (·.setIfInBounds k v))).get? b = h.get? b := fun b n => Heap.get?_update_other _ _ (Ne.symm n)
 have nr : ∀ c o, h.get? c = some o -> (∀ ws, o.data ≠ .fields ws) -> c ≠ T := fun c o q n z => by
  rw [z, hT] at q
  cases q
  exact n ts hd
 exact ⟨⟨fun b o q => (other b fun z => by rw [z, hn] at q; cases q).trans (a.st b o q), a.ne, a.fr.of_keeps fun c o q n => ⟨o, (other c (nr c o q n)).trans q, rfl⟩⟩, fun c o q n => ⟨o.slots, (other c (nr c o q n)).trans q⟩⟩
theorem sJ {fl : Option Value} (hfr : A.frames = some (env :: outer)) (hf : env.frame = some L) (a : pW B (env :: outer) e s.heap) (x : mV B e C dx fl s.heap)
  (h : ∀ h', pW B (env :: outer) e h' -> s.heap.UpToSlots h' -> mV B e C dx (some (rawInt L)) h' -> Q () { s with heap := h' }) : wpAny M A (noteFrame (.ref e) env) Q E s := by
 obtain ⟨oe, vs, he, hc, hdx, hd, hz, hy, x⟩ := x
 unfold noteFrame
 simp only [hf]
 cases fl with
 | none =>
  refine wpAny_bind (wpAny_field he hd x ?_)
  rw [if_neg (by decide)]
  exact tw hfr hf a he hc hdx hd hz hy h
 | some v =>
  obtain ⟨T, oT, ts, h1, hn, hTe, hT, hdT, h3⟩ := x
  refine wpAny_bind (wpAny_field he hd h1 ?_)
  rw [if_pos (show (Value.ref T != Value.none) = true from by simp)]
  refine wpAny_bind (wpAny_field hT hdT h3 ?_)
  by_cases q : (v == rawInt L) = true
  ·rw [if_pos q]
   have ev : v = rawInt L := eq_of_beq q
   subst ev
   exact wpAny_pure (h _ a (.refl _) ⟨oe, vs, he, hc, hdx, hd, hz, hy, T, oT, ts, h1, hn, hTe, hT, hdT, h3⟩)
  ·rw [if_neg q]
   refine wpAny_bind (wpAny_setField hT hdT (Array.getElem?_eq_some_iff.mp h3).1 ?_)
   obtain ⟨a2, u2⟩ := B9 (k := 3) (v := Value.none) a hT hdT hn
   have e2 : (s.heap.update T (Obj.mapFields (·.setIfInBounds 3 Value.none))).get? e = some oe := (Heap.get?_update_other _ _ hTe).trans he
   exact tw (s := { s with heap := s.heap.update T (Obj.mapFields (·.setIfInBounds 3 Value.none)) }) hfr hf a2 e2 hc hdx hd hz hy fun h' a' u' x' => h h' a' (u2.trans u') x'
theorem jN {v : Value} {f : Option Addr} {l : List Env} (a : pW B l e s.heap) (x : mV B e C dx (some v) s.heap)
  (h : ∀ h', pW B l e h' -> s.heap.UpToSlots h' -> mV B e C dx (some (f.elim .none fun f => rawInt f)) h' -> Q () { s with heap := h' }) : wpAny M A (setFlight (.ref e) f) Q E s := by
 obtain ⟨oe, vs, he, hc, hdx, hd, hz, hy, T, oT, ts, h1, hn, hTe, hT, hdT, h3⟩ := x
 unfold setFlight
 refine wpAny_bind (wpAny_field he hd h1 ?_)
 rw [if_pos (show (Value.ref T != Value.none) = true from by simp)]
 have hz3 : 3 < ts.size := (Array.getElem?_eq_some_iff.mp h3).1
 obtain ⟨a2, u2⟩ := B9 (k := 3) (v := f.elim Value.none fun f => rawInt f) a hT hdT hn
 refine wpAny_setField hT hdT hz3 (h _ a2 u2 ⟨oe, vs, (Heap.get?_update_other _ _ hTe).trans he, hc, hdx, hd, hz, hy, T, _, _, h1, hn, hTe, Heap.get?_update_self _ hT (Obj.isFreed_of_fields (Obj.data_mapFields hdT _)), Obj.data_mapFields hdT _, by simp [hz3]⟩)
theorem AQ {fl : Option Value} (hfr : A.frames = some (env :: outer)) (hf : env.frame = some L) (a : pW B (env :: outer) e s.heap) (x : mV B e C dx fl s.heap)
  (h : ∀ h', pW B outer e h' -> s.heap.UpToSlots h' -> mV B e C dx (some .none) h' -> Q () { s with heap := h' }) : wpAny M A (leaving env (.ref e)) Q E s := by
 unfold leaving
 refine wpAny_bind (sJ hfr hf a x fun h1 a1 u1 x1 => ?_)
 refine jN (s := { s with heap := h1 }) a1 x1 fun h2 a2 u2 x2 => h h2 ⟨a2.st, a2.ne, a2.fr.2.2⟩ (u1.trans u2) x2
end
theorem Aj {a b : Env} {e : Value} (h : a.frame = b.frame) : noteFrame e a = noteFrame e b := by
 unfold noteFrame PySem.frameOf
 rw [h]
def HO.dx? : HO -> Option Addr
 | .ins _ dx _ => some dx
 | .gQ _ u => u.dx?
 | _ => none
section
variable {P : Program} {w : World} {H H' : Hp} {h h' : Heap} {a d : Addr} {u : HO}
theorem aQ.there (x : aQ P w H h a u) : ∃ o, h.get? a = some o := by
 cases u with
 | lst xs => obtain ⟨_, _, _, _, e⟩ := x; exact ⟨_, e⟩
 | tup xs => obtain ⟨_, _, _, o, e, _⟩ := x; exact ⟨_, e⟩
 | dK kvs => obtain ⟨_, _, _, _, o, _, _, e, _⟩ := x; exact ⟨_, e⟩
 | dT kvs => obtain ⟨_, _, _, _, o, _, _, e, _⟩ := x; exact ⟨_, e⟩
 | set S n => obtain ⟨o, _, _, _, e, _⟩ := x; exact ⟨_, e⟩
 | ins C dx fs => obtain ⟨_, _, _, e, _⟩ := x; exact ⟨_, e⟩
 | own y => exact x
 | xd fs => obtain ⟨_, ⟨o, _, _, e, _⟩, _⟩ := x; exact ⟨_, e⟩
 | Gp lo hi => obtain ⟨_, _, _, e⟩ := x; exact ⟨_, e⟩
 | gQ ob u => obtain ⟨e, _⟩ := x; exact ⟨_, e⟩
 | BU ps => exact ⟨_, x⟩
 | met f y => exact ⟨_, x⟩
 | ext φ => obtain ⟨_, e, _⟩ := x; exact e
theorem aQ.pE (x : aQ P w H h a u) (e : u.dx? = some d) : H d = some (.own a) := by
 induction u with
 | ins C dx fs => cases e; exact x.1
 | gQ o u ih => exact ih x.2 e
 | _ => cases e
theorem aQ.swap (ht : ∀ b xs, H b = some (.tup xs) -> H' b = some (.tup xs)) (ho : ∀ d, u.dx? = some d -> H' d = some (.own a)) (x : aQ P w H h a u) : aQ P w H' h a u := by
 induction u with
 | dT _ =>
  obtain ⟨z, y, xs, r, c⟩ := x
  exact ⟨z, y, xs, Paired.xy r fun p q z => ⟨z.1, ht _ _ z.2.1, z.2.2⟩, c⟩
 | ins _ dx _ => exact ⟨ho dx rfl, x.2⟩
 | gQ _ u ih => exact ⟨x.1, ih ho x.2⟩
 | _ => exact x
end
open Classical in
noncomputable def dg (h : Heap) (H : Hp) : Hp := fun b => match H b with
 | none => none
 | some (.tup xs) => some (.tup xs)
 | some (.gQ o u) => some (.gQ o u)
 | some (.own x) => if ∃ u, H x = some u /\ u.dx? = some b then some (.own x) else (h.get? b).map fun o => .gQ o (.own x)
 | some u => (h.get? b).map fun o => .gQ o u
def cG (H H' : Hp) : Hp := fun b => match H b with
 | some u => some u
 | none => H' b
theorem ng (H H' : Hp) : aJ H (cG H H') := fun b o e => by unfold cG; rw [e]
theorem fh {H H' : Hp} {b : Addr} (e : H b = none) : cG H H' b = H' b := by unfold cG; rw [e]
theorem cu {H H' : Hp} {b : Addr} {u : HO} (e : H b = some u) : cG H H' b = some u := by unfold cG; rw [e]
section
variable {P : Program} {w : World} {H H' : Hp} {h h' : Heap} {b : Addr} {u : HO} {fs : List Addr}
theorem d7 (e : H b = none) : dg h H b = none := by unfold dg; rw [e]
theorem t6 {xs : List V} (e : H b = some (.tup xs)) : dg h H b = some (.tup xs) := by unfold dg; rw [e]
theorem t4 {o : Obj} {u : HO} (e : H b = some (.gQ o u)) : dg h H b = some (.gQ o u) := by unfold dg; rw [e]
theorem t5 {x : Addr} {u : HO} (e : H b = some (.own x)) (hu : H x = some u) (hd : u.dx? = some b) : dg h H b = some (.own x) := by
 unfold dg
 rw [e]
 exact if_pos ⟨u, hu, hd⟩
theorem iC (ok : cf P w H h) (e : H b = some u) : (dg h H b = some u /\ ((∃ xs, u = .tup xs) \/ (∃ o v, u = .gQ o v) \/ ∃ x v, u = .own x /\ H x = some v /\ v.dx? = some b)) \/ ∃ o, h.get? b = some o /\ dg h H b = some (.gQ o u) := by
 obtain ⟨o, ho⟩ := (ok b u e).there
 cases u with
 | tup xs => exact .inl ⟨t6 e, .inl ⟨xs, rfl⟩⟩
 | gQ o v => exact .inl ⟨t4 e, .inr (.inl ⟨o, v, rfl⟩)⟩
 | own x =>
  by_cases q : ∃ u, H x = some u /\ u.dx? = some b
  ·obtain ⟨v, hv, hd⟩ := q
   exact .inl ⟨t5 e hv hd, .inr (.inr ⟨x, v, rfl, hv, hd⟩)⟩
  ·refine .inr ⟨o, ho, ?_⟩
   unfold dg
   rw [e]
   show (if _ then _ else _) = _
   rw [if_neg q, ho]
   rfl
 | _ => exact .inr ⟨o, ho, by unfold dg; rw [e]; show (h.get? b).map _ = _; rw [ho]; rfl⟩
theorem nC (ok : cf P w H h) {a d : Addr} (ea : H a = some u) (hd : u.dx? = some d) : dg h H d = some (.own a) /\ H d = some (.own a) := by
 have z := aQ.pE (ok a u ea) hd
 exact ⟨t5 z ea hd, z⟩
theorem cf.gQ (ok : cf P w H h) : cf P w (dg h H) h := fun b v e => by
 have ht : ∀ b xs, H b = some (.tup xs) -> dg h H b = some (.tup xs) := fun b xs q => t6 q
 cases q : H b with
 | none => rw [d7 q] at e; cases e
 | some y =>
  have own : ∀ d, y.dx? = some d -> dg h H d = some (.own b) := fun d hd => (nC ok q hd).1
  rcases iC ok q with ⟨z, _⟩ | ⟨o, ho, z⟩
  ·rw [z] at e
   cases e
   exact aQ.swap ht own (ok b _ q)
  ·rw [z] at e
   cases e
   exact ⟨ho, aQ.swap ht own (ok b _ q)⟩
structure EV (h : Heap) (H H' : Hp) : Prop where
 fN : ∀ b xs, dg h H b = some (.tup xs) -> H' b = some (.tup xs)
 dH : ∀ b o u, dg h H b = some (.gQ o u) -> H' b = some (.gQ o u)
theorem gH (ok : cf P w H h) (un : EV h H H') (ok' : cf P w H' h') (e : H b = some u) : ((∃ xs, u = .tup xs) /\ H' b = some u) \/ ((∃ o v, u = .gQ o v) /\ H' b = some u) \/ ((∃ x v, u = .own x /\ H x = some v /\ v.dx? = some b) /\ H' b = some u) \/ ∃ o, H' b = some (.gQ o u) := by
 rcases iC ok e with ⟨z, q⟩ | ⟨o, ho, z⟩
 ·rcases q with ⟨xs, rfl⟩ | ⟨o, v, rfl⟩ | ⟨x, v, rfl, hx, hd⟩
  ·exact .inl ⟨⟨xs, rfl⟩, un.fN _ _ z⟩
  ·exact .inr (.inl ⟨⟨o, v, rfl⟩, un.dH _ _ _ z⟩)
  ·refine .inr (.inr (.inl ⟨⟨x, v, rfl, hx, hd⟩, ?_⟩))
   rcases iC ok hx with ⟨y, r⟩ | ⟨o', _, y⟩
   ·rcases r with ⟨xs, rfl⟩ | ⟨o, v', rfl⟩ | ⟨x', v', rfl, _⟩
    ·cases hd
    ·exact aQ.pE (ok' x _ (un.dH _ _ _ y)) hd
    ·cases hd
   ·exact aQ.pE (u := .gQ o' v) (ok' x _ (un.dH _ _ _ y)) hd
 ·exact .inr (.inr (.inr ⟨o, un.dH _ _ _ z⟩))
theorem zA (ok : cf P w H h) (un : EV h H H') (ok' : cf P w H' h') {xs : List V} (e : H' b = some (.tup xs)) : cG H H' b = some (.tup xs) := by
 cases q : H b with
 | none => rw [fh q]; exact e
 | some u =>
  rw [cu q]
  rcases gH ok un ok' q with ⟨_, z⟩ | ⟨⟨o, v, rfl⟩, z⟩ | ⟨⟨x, v, rfl, _⟩, z⟩ | ⟨o, z⟩
  ·rw [z] at e; exact e
  ·rw [z] at e; cases e
  ·rw [z] at e; cases e
  ·rw [z] at e; cases e
theorem cf.cG (ok : cf P w H h) (un : EV h H H') (ok' : cf P w H' h') : cf P w (cG H H') h' := fun b v e => by
 have ht : ∀ b xs, H' b = some (.tup xs) -> L2.cG H H' b = some (.tup xs) := fun b xs q => zA ok un ok' q
 cases q : H b with
 | some y =>
  rw [cu q] at e
  cases e
  have own : ∀ d, v.dx? = some d -> L2.cG H H' d = some (.own b) := fun d hd => cu (nC ok q hd).2
  rcases gH ok un ok' q with ⟨_, z⟩ | ⟨_, z⟩ | ⟨⟨x, v, rfl, _⟩, z⟩ | ⟨o, z⟩
  ·exact aQ.swap ht own (ok' b _ z)
  ·exact aQ.swap ht own (ok' b _ z)
  ·exact ok' b _ z
  ·exact aQ.swap ht own (ok' b _ z).2
 | none =>
  rw [fh q] at e
  refine aQ.swap ht (fun d hd => ?_) (ok' b v e)
  have hd' := aQ.pE (ok' b v e) hd
  cases r : H d with
  | none => rw [fh r]; exact hd'
  | some u =>
   exfalso
   rcases gH ok un ok' r with ⟨⟨xs, rfl⟩, z⟩ | ⟨⟨o, v, rfl⟩, z⟩ | ⟨⟨x, v, rfl, hx, _⟩, z⟩ | ⟨o, z⟩
   ·rw [z] at hd'; cases hd'
   ·rw [z] at hd'; cases hd'
   ·rw [z] at hd'
    cases hd'
    rw [q] at hx
    cases hx
   ·rw [z] at hd'; cases hd'
theorem Un.cG (ok : cf P w H h) (un : Un fs [] (dg h H) H' h h') : Un fs [] H (cG H H') h h' where
 keep := fun b o e n hb hx => un.keep b o e (d7 n) hb hx
 slot := fun b o e n hb hx => un.slot b o e (d7 n) hb hx
 free := fun b o e n hx => by rw [fh n]; exact un.free b o e (d7 n) hx
 there := un.there
 fN := fun b xs e => cu e
 dH := fun b o u e => cu e
 hW := fun b ps e => ⟨#[], by rw [cu e]; simp⟩
def HO.data : HO -> Prop
 | .own _ => False
 | .gQ _ _ => False
 | _ => True
theorem Rd.gQ (ok : cf P w H h) (hu : u.data) (r : Rd H b u) : Rd (dg h H) b u := by
 rcases r with r | ⟨o, r⟩
 ·rcases iC ok r with ⟨z, _⟩ | ⟨o, _, z⟩
  ·exact .inl z
  ·exact .inr ⟨o, z⟩
 ·exact .inr ⟨o, t4 r⟩
theorem Rd.cG (ok : cf P w H h) (un : EV h H H') (ok' : cf P w H' h') (hu : u.data) (r : Rd H' b u) : Rd (cG H H') b u := by
 cases q : H b with
 | none => unfold Rd; rw [fh q]; exact r
 | some v =>
  unfold Rd
  rw [cu q]
  rcases gH ok un ok' q with ⟨_, z⟩ | ⟨⟨o, v', rfl⟩, z⟩ | ⟨⟨x, v', rfl, _⟩, z⟩ | ⟨o, z⟩
  ·rcases r with r | ⟨o, r⟩
   ·rw [z] at r; exact .inl r
   ·rw [z] at r; exact .inr ⟨o, r⟩
  ·rcases r with r | ⟨o, r⟩
   ·rw [z] at r; cases r; exact hu.elim
   ·rw [z] at r; exact .inr ⟨o, r⟩
  ·rcases r with r | ⟨o, r⟩
   ·rw [z] at r; cases r; exact hu.elim
   ·rw [z] at r; cases r
  ·rcases r with r | ⟨o, r⟩
   ·rw [z] at r; cases r; exact hu.elim
   ·rw [z] at r; cases r; exact .inl rfl
end
structure jC (fs ex : List Addr) (H : Hp) (h B : Heap) : Prop where
 kp : ∀ b o, h.get? b = some o -> H b = none -> b ∉ fs -> b ∉ ex -> B.get? b = some o
 th : ∀ b o, h.get? b = some o -> b ∉ fs -> b ∉ ex -> ∃ o', B.get? b = some o'
def mn (P : Program) (w : World) : uZ := fun outer H s E e s' => ∃ ea C dx H' B, e = .ref ea /\ s'.os = s.os /\ AllBare s'.gens /\ Un (lB outer) [] H H' s.heap s'.heap /\ pW B outer ea s'.heap /\ cf P w H' B /\ jC (lB outer) [] H s.heap B /\
 mV B ea C dx (some .none) s'.heap /\ E (.ref C) dx H'
def mr (X : Cx) (H : Hp) (s : Shared) (ea C : Addr) (dx : Option Addr) : Prop := ∃ B fl, pW B X.stack ea s.heap /\ cf X.prog X.w H B /\ jC X.fs X.ex X.H₀ X.s₀.heap B /\ mV B ea C dx fl s.heap /\ ∀ p ∈ X.pn, B.get? p.1 = some p.2
section
variable {X : Cx} {pins : List (Addr × Obj)} {σ : St} {H : Hp} {s s' : Shared} {E : XK} {e : Value}
theorem Inv.vQ (I : Inv X pins σ H s) {b : Addr} {o : Obj} (q : X.s₀.heap.get? b = some o) (hb : b ∉ X.fs) : b ∉ lB X.stack := fun z => by
 rcases List.mem_cons.mp (I.kI b z) with y | y
 ·exact absurd (Heap.lt_size q) (by rw [y]; exact Nat.not_lt.mpr I.ok.above)
 ·exact hb y
theorem Inv.sN (I : Inv X pins σ H s) {p : Addr × Obj} (hp : p ∈ X.pn) : p.1 ∉ lB X.stack := fun z => by
 obtain ⟨_, _, n1, n2, _⟩ := I.pin p (List.mem_append_left _ hp)
 rcases List.mem_cons.mp (I.kI _ z) with y | y
 ·exact n1 y
 ·exact n2 y
theorem Inv.beneath (I : Inv X pins σ H s) {B : Heap} (b : jC (lB X.stack) [] H s.heap B) : jC X.fs X.ex X.H₀ X.s₀.heap B :=
 ⟨fun c o q n hb hx => b.kp c o (I.base.keep c o q n hb hx) (I.base.free c o q n hx) (I.vQ q hb) (by simp), fun c o q hb hx => let ⟨o', z⟩ := I.base.there c o q hx; b.th c o' z (I.vQ q hb) (by simp)⟩
theorem xP (I : Inv X pins σ H s) (h : mn X.prog X.w X.stack H s E e s') : ∃ ea C dx H', e = .ref ea /\ Inv X pins σ H' s' /\ mr X H' s' ea C dx /\ E (.ref C) dx H' := by
 obtain ⟨ea, C, dx, H', B, rfl, os, bare, un, a, ok, bn, x, hE⟩ := h
 exact ⟨ea, C, dx, H', rfl, I.m7 (ch := []) os un (ok.kept a.st) bare (fun b z => absurd z (by simp)), ⟨B, some .none, a, ok, I.beneath bn, x, fun p hp => bn.kp p.1 p.2 (I.pin p (List.mem_append_left _ hp)).1 (I.pin p (List.mem_append_left _ hp)).2.1 (I.sN hp) (by simp)⟩, hE⟩
theorem vZ {ea C : Addr} {dx : Option Addr} {oe : Obj} {vs : Array Value} (I : Inv X pins σ H s) (he : s.heap.get? ea = some oe) (hc : oe.cls = .ref C) (hd : oe.dict = dx) (hv : oe.data = .fields vs) (hz : 1 < vs.size) (h2 : vs[2]? = some .none) (h1 : vs[1]? = some .none)
  (hn : H ea = none) (h0 : X.s₀.heap.get? ea = none) (hp0 : ∀ p ∈ X.pn, p.1 ≠ ea) : mr X H s ea C dx := by
 have nin : ∀ b u, H b = some u -> b ∉ ea :: lB X.stack := fun b u q z => by
  rcases List.mem_cons.mp z with y | y
  ·rw [y, hn] at q; cases q
  ·rw [I.pR b y] at q; cases q
 refine ⟨PySem.W.hideAll s.heap (ea :: lB X.stack), none, ⟨fun b o q => PySem.W.of_hideAll _ q, PySem.W.hideAll_none _ (List.mem_cons_self ..), ?_⟩, fun a o q => ?_, ⟨fun b o q n hb hx => ?_, fun b o q hb hx => ?_⟩, ⟨oe, vs, he, hc, hd, hv, hz, h2, h1⟩, fun p hp => PySem.W.hideAll_get _ (I.pin p (List.mem_append_left _ hp)).1 fun z => ?_⟩
 ·exact PySem.W.funFrames_hide I.stack fun env hm b q => List.mem_cons_of_mem _ (List.mem_filterMap.mpr ⟨env, hm, q⟩)
 ·refine (I.ao a o q).kH (fun b u hb z => PySem.W.hideAll_get _ z ?_) (fun _ z => z) fun _ _ z => z
  rcases hb with rfl | hb
  ·exact nin _ _ q
  ·exact nin _ _ hb
 ·refine PySem.W.hideAll_get _ (I.base.keep b o q n hb hx) fun z => ?_
  rcases List.mem_cons.mp z with y | y
  ·rw [y, h0] at q; cases q
  ·exact I.vQ q hb y
 ·obtain ⟨o', z⟩ := I.base.there b o q hx
  refine ⟨o', PySem.W.hideAll_get _ z fun y => ?_⟩
  rcases List.mem_cons.mp y with y | y
  ·rw [y, h0] at q; cases q
  ·exact I.vQ q hb y
 ·rcases List.mem_cons.mp z with y | y
  ·exact hp0 p hp y
  ·exact I.sN hp y
end
theorem zV {P : Program} {w : World} {K : PySem.W.Frag} {mg : Str -> Option Value} {base : Heap} {N : List Str} {qual : Str} {scope : Scope} {f : Addr} {cd : Value} {A : Around} {outer : List Env} {s s1 : Shared} {H H1 : Hp} {E : XK} {pins : List (Addr × Obj)} {σ : St} {ea C : Addr} {dx : Option Addr}
  (I : Inv (kr (mn P w) P w K mg base N qual scope f cd A outer s H E) pins σ H1 s1) (a : mr (kr (mn P w) P w K mg base N qual scope f cd A outer s H E) H1 s1 ea C dx) (h : E (.ref C) dx H1) :
  (kr (mn P w) P w K mg base N qual scope f cd A outer s H E).xe (.ref ea) s1 := by
 obtain ⟨B, fl, a, ok, bn, x, _⟩ := a
 have fr := a.fr
 refine AQ (env := envOfC qual scope s.heap.objs.size f cd) (outer := outer) (L := s.heap.objs.size) I.ok.frames rfl a x fun h' a' u' x' => ?_
 have noA : ∀ b : Addr, b ∉ ([] : List Addr) := fun b z => absurd z (by simp)
 have up : ∀ b o, b ∈ lB outer -> s1.heap.get? b = some o -> ∃ sl, h'.get? b = some { o with slots := sl } := fun b o hb q => by
  have hm : b ∈ ((envOfC qual scope s.heap.objs.size f cd) :: outer).filterMap (·.frame) := by
   obtain ⟨env, hm, hf⟩ := List.mem_filterMap.mp hb
   exact List.mem_filterMap.mpr ⟨env, List.mem_cons_of_mem _ hm, hf⟩
  obtain ⟨_, o', ho', nf⟩ := fr.mem hm
  rw [q] at ho'
  cases ho'
  exact u' b o q nf
 refine ⟨ea, C, dx, H1, B, rfl, I.os, I.bare, ⟨fun b o q n hb hx => a'.st b o (bn.kp b o q n hb hx), fun b o q n hb hx => ?_, I.base.free, fun b o q hx => ?_, I.base.fN, I.base.dH, I.base.hW⟩, a', ok, bn, x', h⟩
 ·obtain ⟨sl, z⟩ := I.base.slot b o q n hb hx
  obtain ⟨sl', z'⟩ := up b _ hb z
  exact ⟨sl', z'⟩
 ·by_cases hb : b ∈ lB outer
  ·obtain ⟨o', z⟩ := I.base.there b o q hx
   obtain ⟨sl', z'⟩ := up b _ hb z
   exact ⟨_, z'⟩
  ·obtain ⟨o', z⟩ := bn.th b o q hb hx
   exact ⟨o', a'.st b o' z⟩
theorem mn.cG {P : Program} {w : World} {l : List Env} {H : Hp} {s s' : Shared} {E : XK} {e : Value} (ok : cf P w H s.heap) (h : mn P w l (dg s.heap H) s E e s') :
  mn P w l H s (fun cls dx H'' => ∃ H', H'' = L2.cG H H' /\ (∀ b u, HO.data u -> Rd H' b u -> Rd (L2.cG H H') b u) /\ E cls dx H') e s' := by
 obtain ⟨ea, C, dx, H', B, rfl, os, bare, un, a, ok', bn, x, hE⟩ := h
 have t : EV s.heap H H' := ⟨un.fN, un.dH⟩
 exact ⟨ea, C, dx, L2.cG H H', B, rfl, os, bare, un.cG ok, a, ok.cG t ok', ⟨fun b o q n hb hx => bn.kp b o q (d7 n) hb hx, bn.th⟩, x, H', rfl, fun b u hu r => r.cG ok t ok' hu, hE⟩
theorem mU.gQ {P : Program} {w : World} {K : PySem.W.Frag} {mg : Str -> Option Value} {base : Heap} {A : Around} {outer : List Env} {s : Shared} {H : Hp} (e : mU P w K mg base A outer s H) : mU P w K mg base A outer s (dg s.heap H) :=
 ⟨e.frames, e.mod, fun b o q => ⟨(e.bs b o q).1, d7 (e.bs b o q).2⟩, e.wC, e.fu, fun b hb => d7 (e.wG b hb), e.ao.gQ, e.bare⟩
section
variable {X : Cx} {k : Nat} {f C : Addr} {fd : FuncData} {ps : List Str} {sp : Sp} {dvs : List V} {ds : List Value}
theorem BE {pins : List (Addr × Obj)} {σ : St} {H : Hp} {s : Shared} {Q Q' : VK} {E : XK} {us : List Value} {vs : List V} (F : bX X.prog X.w X.K X.mg X.base (mn X.prog X.w) k f fd ps sp) (hr : az k X.A) (hb : Binds X.K fd ps ds) (hd : Vals dvs ds)
  (I : Inv X pins σ H s) (r : Vals vs us) (h : sp (vs ++ dvs) (dg s.heap H) Q' E) (hQ : ∀ v H', (∀ b u, HO.data u -> Rd H' b u -> Rd (cG H H') b u) -> Q' v H' -> Q v (cG H H'))
  (hE : ∀ ea C dx H' s', Inv X pins σ (cG H H') s' -> mr X (cG H H') s' ea C dx -> (∀ b u, HO.data u -> Rd H' b u -> Rd (cG H H') b u) -> E (.ref C) dx H' -> X.xe (.ref ea) s') : wpAny (model X.prog X.w) X.A (call (.ref f) us) (EP X pins σ Q) X.xe s := by
 have r2 : Vals (vs ++ dvs) (us ++ ds) := r.append hd
 have hl : (us ++ ds).length = ps.length := by rw [<- r2.length]; exact F.len _ _ _ _ h
 refine wpAny_call (codeAny_mono (F.run X.A X.stack s _ ⟨us, []⟩ (us ++ ds) (vs ++ dvs) Q' E hr I.zm.gQ (hb s us I.iN hl) r2 h) fun r s' hq => ?_)
 cases r with
 | error e =>
  obtain ⟨ea, C, dx, H'', rfl, I', a', H', rfl, rd, he⟩ := xP I (mn.cG I.ao hq)
  exact hE ea C dx H' s' I' a' rd he
 | ok fl =>
  cases fl with
  | ret u =>
   obtain ⟨v, H', os, bare, un, ao, rv, q⟩ := (show CE X.stack X.prog X.w (dg s.heap H) s Q' u s' from hq)
   have t : EV s.heap H H' := ⟨un.fN, un.dH⟩
   exact ⟨v, cG H H', I.m7 (ch := []) os (un.cG I.ao) (I.ao.cG t ao) bare (fun b z => absurd z (by simp)), rv, hQ v H' (fun b u hu r => r.cG I.ao t ao hu) q⟩
  | next => exact False.elim hq
  | brk => exact False.elim hq
  | cont => exact False.elim hq
end
theorem ck.rd {K : PySem.W.Frag} {H H' : Hp} {a : Addr} {xs : List V} (f : ∀ b u, HO.data u -> Rd H b u -> Rd H' b u) (h : ck K H a xs) : ck K H' a xs := by
 rcases h with h | h
 ·exact .inl (f _ _ True.intro h)
 ·exact .inr h
theorem eT.rd {K : PySem.W.Frag} {H H' : Hp} {a : Addr} {xs : List V} (f : ∀ b u, HO.data u -> Rd H b u -> Rd H' b u) (h : eT K H a xs) : eT K H' a xs := by
 rcases h with h | h
 ·exact .inl (f _ _ True.intro h)
 ·exact .inr h
end L2
namespace DC
open PySem PySem.Spec PyProof.Rows L2
section
variable {K : PySem.W.Frag} {H H' : Hp}
theorem d4.rd (f : ∀ b u, HO.data u -> Rd H b u -> Rd H' b u) {dx : Option Addr} {fs : List (Str × V)} (h : d4 H dx fs) : d4 H' dx fs := by
 cases dx with
 | none => exact h
 | some d => exact f _ _ True.intro h
mutual
theorem Dv.rd (f : ∀ b u, HO.data u -> Rd H b u -> Rd H' b u) : ∀ {v : V} {d : D}, Dv K H v d -> Dv K H' v d
 | _, _, .aW => .aW
 | _, _, .bl b => .bl b
 | _, _, .int i => .int i
 | _, _, .str x => .str x
 | _, _, .lst h1 h2 => .lst (h1.rd f) (au.rd f h2)
 | _, _, .tup h1 h2 => .tup (h1.rd f) (au.rd f h2)
 | _, _, .obj h1 h2 => .obj (f _ _ True.intro h1) (dQ.rd f h2)
 | _, _, .dK h1 h2 => .dK (f _ _ True.intro h1) (dz.rd f h2)
 | _, _, .dT h1 h2 => .dT (f _ _ True.intro h1) (tK.rd f h2)
 | _, _, .adr a => .adr a
 | _, _, .exc h1 h2 h3 => .exc (f _ _ True.intro h1) (d4.rd f h2) (dQ.rd f h3)
theorem au.rd (f : ∀ b u, HO.data u -> Rd H b u -> Rd H' b u) : ∀ {vs : List V} {ds : List D}, au K H vs ds -> au K H' vs ds
 | _, _, .nil => .nil
 | _, _, .cons h1 h2 => .cons (Dv.rd f h1) (au.rd f h2)
theorem dQ.rd (f : ∀ b u, HO.data u -> Rd H b u -> Rd H' b u) : ∀ {vs : List (Str × V)} {ds : List (Str × D)}, dQ K H vs ds -> dQ K H' vs ds
 | _, _, .nil => .nil
 | _, _, .cons h1 h2 => .cons (Dv.rd f h1) (dQ.rd f h2)
theorem dz.rd (f : ∀ b u, HO.data u -> Rd H b u -> Rd H' b u) : ∀ {vs : List (Key × V)} {ds : List (Key × D)}, dz K H vs ds -> dz K H' vs ds
 | _, _, .nil => .nil
 | _, _, .cons h1 h2 => .cons (Dv.rd f h1) (dz.rd f h2)
theorem tK.rd (f : ∀ b u, HO.data u -> Rd H b u -> Rd H' b u) : ∀ {vs : List (List Key × V)} {ds : List (List Key × D)}, tK K H vs ds -> tK K H' vs ds
 | _, _, .nil => .nil
 | _, _, .cons h1 h2 => .cons (Dv.rd f h1) (tK.rd f h2)
end
end
abbrev XR := Addr -> List (Str × D) -> Prop
abbrev mw := List D -> (D -> Prop) -> XR -> Prop
abbrev jD (sx : mw) : Prop := ∀ ds (P P' : D -> Prop) (R R' : XR), (∀ d, P d -> P' d) -> (∀ C g, R C g -> R' C g) -> sx ds P R -> sx ds P' R'
def kX (K : PySem.W.Frag) (E : XK) : XR := fun C gs => ∀ dx fs H', d4 H' dx fs -> dQ K H' fs gs -> E (.ref C) dx H'
def BP (K : PySem.W.Frag) (sx : mw) : Sp := fun vs H Q E => ∃ ds, au K H vs ds /\ sx ds (fun d => ∀ v H', Dv K H' v d -> Q v H') (kX K E)
def fD (X : Cx) (xk : SD -> XR) : Prop := ∀ pins σ δ H s ea C dx fs gs, Inv X pins σ H s -> ay X.K H σ δ -> mr X H s ea C dx -> d4 H dx fs -> dQ X.K H fs gs -> xk δ C gs -> X.xe (.ref ea) s
def CB (K : PySem.W.Frag) (R : XR) : XK := fun cls dx H' => ∃ C gs fs, cls = .ref C /\ d4 H' dx fs /\ dQ K H' fs gs /\ R C gs
theorem AH {K : PySem.W.Frag} {R : XR} {C : Addr} {gs : List (Str × D)} (h : R C gs) : kX K (CB K R) C gs := fun dx fs H' xd df => ⟨C, gs, fs, rfl, xd, df, h⟩
def Ej (K : PySem.W.Frag) (P : D -> Prop) : VK := fun v H' => ∃ d, Dv K H' v d /\ P d
section
variable {X : Cx} {e : Expr} {es : List Expr} {t : AD} {pos p : Pos} {x : Str} {k : Nat} {f : Addr} {fd : FuncData} {ps : List Str} {sx : mw} {xk : SD -> XR} {dvs : List V} {dls : List Value} {dd : List D}
theorem B3 {pins : List (Addr × Obj)} {σ : L2.St} {δ : SD} {H H1 : Hp} {s : Shared} {Q : VK} {us : List Value} {vs : List V} {ds : List D} (hx : fD X xk) (F : bX X.prog X.w X.K X.mg X.base (mn X.prog X.w) k f fd ps (BP X.K sx)) (ms : jD sx) (hr : az k X.A) (hb : Binds X.K fd ps dls) (hd : Vals dvs dls) (hdd : ∀ H, au X.K H dvs dd)
  (I : Inv X pins σ H1 s) (rs : ay X.K H σ δ) (s1 : aJ H H1) (r : Vals vs us) (dv : au X.K H1 vs ds) (h : sx (ds ++ dd) (kD X.K H Q) (xk δ)) : wpAny (model X.prog X.w) X.A (call (.ref f) us) (EP X pins σ Q) X.xe s := by
 refine BE (Q' := Ej X.K (kD X.K H Q)) (E := CB X.K (xk δ)) F hr hb hd I r ⟨ds ++ dd, ((dv.append (hdd H1)).rd fun b u hu z => z.gQ I.ao hu), ms _ _ _ _ _ (fun d q v H' dv => ⟨d, dv, q⟩) (fun C g q => AH q) h⟩ ?_ ?_
 ·rintro v H' rd ⟨d, dv, q⟩
  exact q v _ (s1.trans (ng _ _)) (dv.rd rd)
 ·rintro ea C dx H' s' I' a rd ⟨C', gs, fs, e, xd, df, q⟩
  cases e
  exact hx pins σ δ _ s' ea C dx fs gs I' (rs.same (s1.trans (ng _ _))) a (d4.rd rd xd) (dQ.rd rd df) q
def zE (xk : SD -> XR) (sx : mw) (dd : List D) (t : AD) : ED := fun δ Q => t δ fun ds => sx (ds ++ dd) Q (xk δ)
theorem zc (hx : fD X xk) (F : bX X.prog X.w X.K X.mg X.base (mn X.prog X.w) k f fd ps (BP X.K sx)) (ms : jD sx) (hr : az k X.A) (hg : Gl X x) (hm : X.mg x = some (.ref f)) (hk : PySem.W.keepIn X.K (.ref f) = true) (hb : Binds X.K fd ps dls) (hv : Vals dvs dls) (hdd : ∀ H, au X.K H dvs dd)
  (ha : jE X (e :: es) t) (hdb : (x == ("__debug__" : Str)) = false := by decide) (he : starEach (e :: es) X.env = (false, eval e X.env) :: starEach es X.env := by rfl) (hpl : (backTo pos (starEach es X.env)).any (·.1) = false := by rfl) :
  PD X (.Call (.Name x p) (e :: es) [] pos) (zE xk sx dd t) := by
 refine ⟨fun pins s σ H Q I ⟨δ, r, h⟩ => ?_, fun δ P P' g h => ha.mono _ _ _ (fun ds q => ms _ _ _ _ _ g (fun _ _ z => z) q) h⟩
 refine wpAny_Call_Name_kw (iE I hg hm ?_ hdb)
 refine PySem.W.callWith_K (h₀ := X.base) I.ok.mod.Bo hk (bE (ha.pa pos pins s σ H (fun vs H1 => aJ H H1 /\ ∃ ds, au X.K H1 vs ds /\ sx (ds ++ dd) (kD X.K H Q) (xk δ)) I ⟨δ, r, ha.mono _ _ _ (fun ds q vs H1 s1 dv => ⟨s1, ds, dv, q⟩) h⟩) fun us s1 ⟨vs, H1, I1, r1, sm, ds, dv, q⟩ => ⟨I1.iN, ?_⟩) he hpl
 exact B3 hx F ms hr hb hv hdd I1 r sm r1 dv q
end
section
variable {P : Program} {w : World} {K : PySem.W.Frag} {mg : Str -> Option Value} {base : Heap}
abbrev uY (P : Program) (w : World) (K : PySem.W.Frag) (mg : Str -> Option Value) (base : Heap) (N : List Str) (qual : Str) (st : Stmt) (f : Addr) (cdv : Value) (A : Around) (outer : List Env) (s : Shared) (H : Hp) (E : XK) : Cx := kr (mn P w) P w K mg base N qual (aC st) f cdv A outer s H E
theorem wQ {N : List Str} {qual : Str} {st : Stmt} {f : Addr} {cdv : Value} {A : Around} {outer : List Env} {s : Shared} {H : Hp} {E : XK} : fD (uY P w K mg base N qual st f cdv A outer s H E) (fun _ => kX K E) :=
 fun pins σ δ H1 s1 ea C dx fs gs I r a xd df hk => zV I a (hk dx fs H1 xd df)
theorem Iz {x qual : Str} {st : Stmt} {f : Addr} {fd : FuncData} {N ps : List Str} {k : Nat} {sx : mw} {t : XR -> eV} (F : mW K x qual st f fd) (S : aF N ps (aC st)) (len : ∀ ds Q R, sx ds Q R -> ds.length = ps.length)
  (hb : ∀ (cdv : Value) (A : Around) (outer : List Env) (s : Shared) (H : Hp) (E : XK) (R : XR), az k (A.deeper (envOfC qual (aC st) s.heap.objs.size f cdv)) -> fD (uY P w K mg base N qual st f cdv A outer s H E) (fun _ => R) -> gY (uY P w K mg base N qual st f cdv A outer s H E) (af st) (t R))
  (hr : ∀ ds Q R, sx ds Q R -> t R { nx := fun _ => Q .aW, rt := Q } (bM N ds)) : bX P w K mg base (mn P w) (k + 1) f fd ps (BP K sx) := by
 obtain ⟨oc, od, dV, kV, doc, pm, an, cdv, ct, osl, rfl, lk, hcd⟩ := F.ex
 refine qF lk hcd S (fun vs H Q E ⟨ds, dvs, h⟩ => by rw [dvs.length]; exact len ds _ _ h) fun A outer s H vs Q E hroom ⟨ds, dvs, h⟩ => ?_
 have B := hb cdv A outer s H E (kX K E) hroom wQ
 refine ⟨_, B.ps, bM N ds, dq dvs, ?_⟩
 let Q' : D -> Prop := fun d => ∀ v H', Dv K H' v d -> Q v H'
 exact B.mono { nx := fun _ => Q' .aW, rt := Q' } _ _ ⟨fun δ q σ H' s' r => q _ H' .aW, fun d q v H' s' dv => q v H' dv, fun _ q => q.elim, fun _ q => q.elim⟩ (hr ds _ _ h)
structure ud (P : Program) (w : World) (K : PySem.W.Frag) (mg : Str -> Option Value) (base : Heap) (k : Nat) (x : Str) (ps : List Str) (sx : mw) : Prop where
 ex : ∃ f fd, bX P w K mg base (mn P w) k f fd ps (BP K sx) /\ mg x = some (.ref f) /\ PySem.W.keepIn K (.ref f) = true /\ Binds K fd ps []
 ms : jD sx
end
end DC
namespace L2
open PySem PySem.Spec PyProof.Rows
section
variable {P : Program} {w : World} {H : Hp} {h : Heap} {C : Addr} {fs ex : List Addr}
end
section
variable {X : Cx} {k : Nat} {f C : Addr} {fd : FuncData} {ps : List Str} {sp : Sp} {dvs : List V} {ds : List Value}
end
end L2
namespace DC
open PySem PySem.Spec PyProof.Rows L2
section
variable {X : Cx} {o e : Expr} {es : List Expr} {ta : ED} {t : AD} {pos p apos : Pos} {x m : Str} {j k : Nat} {f C : Addr} {fd : FuncData} {ps : List Str} {sx : Ii} {sm : Addr -> mw} {ok : Addr -> Prop} {xk : SD -> XR} {dvs : List V} {dls : List Value} {dd : List D}
structure lM (P : Program) (w : World) (K : PySem.W.Frag) (mg : Str -> Option Value) (base : Heap) (j : Nat) (C : Addr) (m : Str) (sx : mw) : Prop where
 ex : ∃ f fd ps, pV K C /\ Meth K C m f /\ bX P w K mg base (mn P w) j f fd ps (BP K sx) /\ Binds K fd ps []
 ms : jD sx
def zG (xk : SD -> XR) (ok : Addr -> Prop) (m : Str) (sm : Addr -> mw) (ta : ED) (t : AD) : ED := fun δ Q => ta δ fun d => ∃ C gs, d = .obj C gs /\ gs.lookup m = none /\ ok C /\ t δ fun ds => sm C (d :: ds) Q (xk δ)
theorem Eu {pl : Sem Bool} (hx : fD X xk) (hM : ∀ C, ok C -> lM X.prog X.w X.K X.mg X.base j C m (sm C)) (hr : az k X.A) (hj : j <= k) (he : PD X o ta) (hp : jE X (e :: es) t)
  (hst : starEach (e :: es) X.env = (false, eval e X.env) :: starEach es X.env := by rfl) (hpl : (backTo pos (starEach es X.env)).any (·.1) = false := by rfl)
  (ht : eval (.Call (.Attribute o m apos) (e :: es) [] pos) X.env = (do
   let ov <- eval o X.env
   standAt apos.atName
   let (f, first) <- holding [ov] (getMethod ov m pl)
   callWith pos f first (backTo pos (starEach (e :: es) X.env)) (backToKw pos (keywordEach [] X.env))) := by rfl) :
  PD X (.Call (.Attribute o m apos) (e :: es) [] pos) (zG xk ok m sm ta t) := by
 refine ⟨fun pins s σ H Q I ⟨δ, r, h⟩ => ?_, fun δ P P' g h => he.mono _ _ _ (fun d ⟨C, gs, e, l, M, q⟩ => ⟨C, gs, e, l, M, hp.mono _ _ _ (fun ds q => (hM C M).ms _ _ _ _ _ g (fun _ _ z => z) q) q⟩) h⟩
 refine PySem.W.methodCall_KW (pl := pl) (bE (he.pe pins s σ H (fun v H1 => aJ H H1 /\ ∃ C gs dx fs a, v = .ref a /\ Rd H1 a (.ins C dx fs) /\ dQ X.K H1 fs gs /\ gs.lookup m = none /\ ok C /\ t δ fun ds => sm C (.obj C gs :: ds) (kD X.K H Q) (xk δ)) I ⟨δ, r, he.mono _ _ _ (fun d k v H1 s1 dv => ?_) h⟩)
  fun u s1 ⟨v, H1, I1, rx, sa, C, gs, dx, fs, a, ev, ha, hf, l, M, q⟩ => ?_) ht
 ·obtain ⟨C, gs, ed, l, M, q⟩ := k
  subst ed
  cases dv with
  | obj h1 h2 => exact ⟨s1, _, _, _, _, _, rfl, h1, h2, l, M, q⟩
 ·subst ev
  obtain rfl : u = Value.ref a := rx
  obtain ⟨f, fd, ps, c, mt, F, b⟩ := (hM C M).ex
  refine gi I1 ha c mt (hf.none l) ?_
  refine PySem.W.callWith_K (first := [.ref a]) (h₀ := X.base) I.ok.mod.Bo mt.kp (bE (hp.pa pos pins s1 σ H1 (fun vs H2 => aJ H1 H2 /\ ∃ ds, au X.K H2 vs ds /\ sm C (.obj C gs :: ds) (kD X.K H Q) (xk δ)) I1 ⟨δ, r.same sa, hp.mono _ _ _ (fun ds q vs H2 s2 dv => ⟨s2, ds, dv, q⟩) q⟩) fun us s2 ⟨vs, H2, I2, r2, sb, ds, dv, q2⟩ => ⟨I2.iN, ?_⟩) hst hpl
  exact B3 (us := .ref a :: us) (vs := .ref a :: vs) (ds := .obj C gs :: ds) (dd := []) hx F (hM C M).ms (hr.mono hj) b .nil (fun _ => .nil) I2 r (sa.trans sb) (.cons rfl r2) (.cons (.obj (gB sb ha) (dQ.same sb hf)) dv) (by rw [List.append_nil]; exact q2)
theorem wm (hx : fD X xk) {sx : mw} (c : ud X.prog X.w X.K X.mg X.base j x ps sx) (hr : az k X.A) (hj : j <= k) (hg : Gl X x) (ha : jE X (e :: es) t) (hdb : (x == ("__debug__" : Str)) = false := by decide)
  (h1 : starEach (e :: es) X.env = (false, eval e X.env) :: starEach es X.env := by rfl) (h2 : (backTo pos (starEach es X.env)).any (·.1) = false := by rfl) : PD X (.Call (.Name x p) (e :: es) [] pos) (zE xk sx [] t) := by
 obtain ⟨f, fd, F, m, kp, b⟩ := c.ex
 exact zc (dvs := []) (dls := []) hx F c.ms (hr.mono hj) hg m kp b .nil (fun _ => .nil) ha hdb h1 h2
end
section
variable {P : Program} {w : World} {K : PySem.W.Frag} {mg : Str -> Option Value} {base : Heap}
theorem xR {x qual : Str} {st : Stmt} {f : Addr} {fd : FuncData} (F : rG K x qual st f fd) : mW K x qual st f fd :=
 let ⟨oc, od, kV, doc, pm, an, cdv, ct, osl, h1, h2, h3⟩ := F.ex
 ⟨⟨oc, od, .none, kV, doc, pm, an, cdv, ct, osl, h1, h2, h3⟩, F.kp⟩
theorem Dm.Gz {k : Nat} {C : Addr} {m qual : Str} {st : Stmt} {ps N : List Str} {sx : mw} {t : XR -> eV} (d : Dm K C m qual st ps) (S : aF N ps (aC st)) (ms : jD sx) (len : ∀ ds Q R, sx ds Q R -> ds.length = ps.length)
  (hb : ∀ (f : Addr) (cdv : Value) (A : Around) (outer : List Env) (s : Shared) (H : Hp) (E : XK) (R : XR), az k (A.deeper (envOfC qual (aC st) s.heap.objs.size f cdv)) -> fD (uY P w K mg base N qual st f cdv A outer s H E) (fun _ => R) -> gY (uY P w K mg base N qual st f cdv A outer s H E) (af st) (t R))
  (hr : ∀ ds Q R, sx ds Q R -> t R { nx := fun _ => Q .aW, rt := Q } (bM N ds)) : lM P w K mg base (k + 1) C m sx := by
 obtain ⟨f, fd, F, M, c, b⟩ := d.ex
 exact ⟨⟨f, fd, ps, c, M, Iz (xR F) S len (hb f) hr, b⟩, ms⟩
end
end DC
namespace L2
open PySem PySem.Spec PyProof.Rows
theorem mZ {prog : Program} {w : World} {A : Around} {R : Result -> Shared -> Prop} {s : Shared} {elt target iter : Expr} {ifs : List Expr} {scope : Scope} {pos : Pos} {it acc : Value} {env : Env} {E' : Value -> Shared -> Prop} (hE : ∀ x s, E' x s -> notedBy (model prog w) A env (fun e s' => R (.error e) s') x s) (I : Nat -> Shared -> Prop)
  (turn : ∀ n s, I n s -> wpAny (model prog w) A (pyNext it) (fun r s₁ => match r with
   | none => R (.ok .next) s₁
   | some v => wpAny (model prog w) A (letOwnedTupleGo target it v) (fun _ s₀ => wpAny (model prog w) A (assign target env v) (fun _ s₂ =>
     wpAny (model prog w) A (forIn ifs true fun c r => if r = true then do let ok <- isTrue c env (eval c env); pure (ForInStep.yield ok) else pure (ForInStep.yield r)) (fun ok s₃ =>
      if ok = true then wpAny (model prog w) A (eval elt env) (fun x s₄ =>
       wpAny (model prog w) A (call (.builtin "list.append") [acc, x]) (fun _ s₅ => ∃ m, m < n /\ I m s₅) E' s₄) E' s₃
      else ∃ m, m < n /\ I m s₃) E' s₂) E' s₀) (fun _ _ => False) s₁) (fun _ _ => False) s)
  (n : Nat) (h : I n s) :
  codeAny (model prog w) A (.compLoop (.ListComp elt [⟨target, iter, ifs, 0⟩] scope pos) 0 it acc env) R s := by
 refine codeAny_loop rfl I (fun n s hI => ?_) n h
 show wpAny _ A ((compTurn (.ListComp elt [⟨target, iter, ifs, 0⟩] scope pos) 0 it acc env).onRaise (fun x => do noteFrame x env; theTreesLotGoes x)) _ _ s
 refine wpAny_noted ?_
 rw [compTurn_list]
 refine wpAny_bind (wpAny_standAt (wpAny_bind (wpAny_mono (turn n s hI) (fun r s₁ h₁ => ?_) fun _ _ h' => h'.elim)))
 cases r with
 | none => exact wpAny_pure h₁
 | some v =>
  refine wpAny_bind (wpAny_mono h₁ (fun _ s₀ h₀ => ?_) fun _ _ h' => h'.elim)
  refine wpAny_bind (wpAny_mono h₀ (fun _ s₂ h₂ => wpAny_bind (wpAny_mono h₂ (fun ok s₃ h₃ => ?_) hE)) hE)
  cases ok with
  | false => exact wpAny_pure ⟨rfl, h₃⟩
  | true =>
   exact wpAny_bind (wpAny_bind (wpAny_mono h₃ (fun x s₄ h₄ => wpAny_bind (wpAny_mono h₄ (fun _ s₅ h₅ => wpAny_pure (wpAny_pure ⟨rfl, h₅⟩)) hE)) hE))
theorem jQ {h h' B B' : Heap} : ∀ {l : List Env}, h.FunFrames B l -> (∀ L ∈ lB l, ∀ o, B.get? L = none -> h.get? L = some o -> (∀ vs, o.data ≠ .fields vs) -> B'.get? L = none /\ ∃ o', h'.get? L = some o' /\ o'.data = o.data) -> h'.FunFrames B' l
 | [], _, _ => trivial
 | env :: rest, ⟨hk, ⟨L, o, hf, hn, ho, hd⟩, hr⟩, k => by
  obtain ⟨n', o', ho', e⟩ := k L (List.mem_filterMap.mpr ⟨env, List.mem_cons_self, hf⟩) o hn ho hd
  exact ⟨hk, ⟨L, o', hf, n', ho', fun vs => by rw [e]; exact hd vs⟩, jQ hr fun L' hm => k L' (by
   obtain ⟨e, he, hfe⟩ := List.mem_filterMap.mp hm
   exact List.mem_filterMap.mpr ⟨e, List.mem_cons_of_mem _ he, hfe⟩)⟩
end L2
namespace DC
open PySem PySem.Spec PyProof.Rows L2
def tS (X : Cx) (scope : Scope) (cl : List (Str × Addr)) (N : List Str) (R : XR) (C : Addr) (fp : List Addr) (s₂ : Shared) (H₂ : Hp) : Value -> Shared -> Prop := fun e s =>
 ∃ ea C' dx fs gs pins σ' H', e = .ref ea /\ Inv (lQ X scope cl C N fp s₂ H₂) pins σ' H' s /\ mr (lQ X scope cl C N fp s₂ H₂) H' s ea C' dx /\ d4 H' dx fs /\ dQ X.K H' fs gs /\ R C' gs
abbrev ae (X : Cx) (scope : Scope) (cl : List (Str × Addr)) (C : Addr) (N : List Str) (fp : List Addr) (s₂ : Shared) (H₂ : Hp) (R : XR) : Cx := (lQ X scope cl C N fp s₂ H₂).k_ (tS X scope cl N R C fp s₂ H₂)
theorem wR {X : Cx} {scope : Scope} {cl : List (Str × Addr)} {C : Addr} {N : List Str} {fp : List Addr} {s₂ : Shared} {H₂ : Hp} {R : XR} : fD (ae X scope cl C N fp s₂ H₂ R) (fun _ => R) :=
 fun pins σ δ H s ea C' dx fs gs I r a xd df hR => ⟨ea, C', dx, fs, gs, pins, σ, H, rfl, I.fP, a, xd, df, hR⟩
theorem yh {K : PySem.W.Frag} {H : Hp} {σ : L2.St} : ay K H σ (List.replicate σ.length none) :=
 ⟨by simp, fun i d h => by rw [List.getElem?_replicate] at h; split at h <;> cases h⟩
section
variable {X : Cx} {scope : Scope} {cl : List (Str × Addr)} {N : List Str} {R : XR} {C : Addr} {fp : List Addr} {pins : List (Addr × Obj)} {σ : L2.St} {H2 : Hp} {s s2 : Shared}
theorem ph (hst : X.stack = X.env :: X.outer) (hfr : X.env.frame = some X.env.locals) (hx : fD X (fun _ => R)) (I2 : Inv X pins σ H2 s2) (f2 : ∀ b ∈ fp, gW X pins H2 b) (hC : s2.heap.objs.size <= C) {e : Value} (ce : tS X scope cl N R C fp s2 H2 e s)
  {use : Option (Value -> Sem Unit)} {Q : Value -> Shared -> Prop} {acc : Value} : notedBy (model X.prog X.w) X.A (compEnvC scope cl C X.env) (fun x s' => compPost (model X.prog X.w) X.A X.xe use Q acc C (.error x) s') e s := by
 obtain ⟨ea, C', dx, fs, gs, pins', σ', H', rfl, J, ⟨B, fl, a, ok, bn, x, _⟩, xd, df, hR⟩ := ce
 unfold notedBy
 rw [Aj (show (compEnvC scope cl C X.env).frame = X.env.frame from rfl)]
 have a0 : pW B (X.env :: X.outer) ea s.heap := hst ▸ a
 refine sJ (env := X.env) (outer := X.outer) (L := X.env.locals) (by rw [<- hst]; exact I2.ok.frames) hfr a0 x fun h1 a1 u1 x1 => ?_
 obtain ⟨m, hn, _⟩ := J.loc
 obtain ⟨oC, es, ep, ho, hd, hrest⟩ := id hn
 have hoC : s.heap.get? C = some oC := ho
 obtain ⟨sl, ho1⟩ := u1 C oC hoC (fun ws q => by rw [hd] at q; cases q)
 refine (show ∃ m, h1.Ns C m /\ _ from ⟨m, ⟨{ oC with slots := sl }, es, ep, ho1, hd, hrest⟩, fun h2 hs2 cenv hcenv => ?_⟩)
 obtain ⟨oe, vs, he, hc, hdx, hdv, hz, hy, T, oT, ts, hv1, hnT, hTe, hT, hdT, h3⟩ := x1
 have neC : ∀ b o, h1.get? b = some o -> (∃ ws, o.data = .fields ws) -> b ≠ C := fun b o q ⟨ws, hw⟩ z => by
  rw [z, ho1] at q
  cases q
  have hd' : oC.data = .fields ws := hw
  rw [hd] at hd'
  cases hd'
 have eaC := neC ea oe he ⟨vs, hdv⟩
 have TC := neC T oT hT ⟨ts, hdT⟩
 have ltC : ∀ b o, s2.heap.get? b = some o -> b ≠ C := fun b o q => Nat.ne_of_lt (Nat.lt_of_lt_of_le (Heap.lt_size q) hC)
 have stC : ∀ b ∈ lB X.stack, b ≠ C := fun b hb => by
  obtain ⟨_, o, q, _⟩ := I2.stack.mem hb
  exact ltC b o q
 have in_B : ∀ b o, B.get? b = some o -> b ≠ C -> (PySem.W.hideAll B [C]).get? b = some o := fun b o q n => PySem.W.hideAll_get _ q (by simpa using n)
 have out_B : ∀ b o, (PySem.W.hideAll B [C]).get? b = some o -> B.get? b = some o /\ b ≠ C := fun b o q => ⟨PySem.W.of_hideAll _ q, fun z => by rw [z, PySem.W.hideAll_none _ (List.mem_singleton.mpr rfl)] at q; cases q⟩
 have no_B : ∀ b, B.get? b = none -> (PySem.W.hideAll B [C]).get? b = none := fun b n => by
  cases q : (PySem.W.hideAll B [C]).get? b with
  | none => rfl
  | some o => rw [(out_B b o q).1] at n; cases n
 have a2 : pW (PySem.W.hideAll B [C]) (X.env :: X.outer) ea h2 := by
  refine ⟨fun b o q => (hs2.2 b (out_B b o q).2).trans (a1.st b o (out_B b o q).1), no_B _ a1.ne, jQ a1.fr fun L hL o hnL hoL hdL => ⟨no_B L hnL, o, ?_, rfl⟩⟩
  exact (hs2.2 L (stC L (by rw [hst]; exact hL))).trans hoL
 have x2 : mV (PySem.W.hideAll B [C]) ea C' dx (some (rawInt X.env.locals)) h2 :=
  ⟨oe, vs, (hs2.2 ea eaC).trans he, hc, hdx, hdv, hz, hy, T, oT, ts, hv1, no_B T hnT, hTe, (hs2.2 T TC).trans hT, hdT, h3⟩
 unfold PySem.passOn
 refine wpAny_bind (wpAny_field ((hs2.2 ea eaC).trans he) hdv hv1 ?_)
 rw [if_neg (by simp)]
 refine wpAny_bind (jN (s := { s with heap := h2 }) a2 x2 fun h4 a4 u4 x4 => wpAny_throw ?_)
 have fC : H' C = none := J.free
 have jB : cf X.prog X.w H' (PySem.W.hideAll B [C]) := fun b u q => (ok b u q).kH (fun c v hcc z => in_B c v z (fun y => by
  rcases hcc with rfl | hcc
  ·rw [y, fC] at q; cases q
  ·rw [y, fC] at hcc; cases hcc)) (fun _ z => z) fun _ _ z => z
 have up : ∀ b o, b ∈ lB X.stack -> s.heap.get? b = some o -> ∃ sl, h4.get? b = some { o with slots := sl } := fun b o hb q => by
  obtain ⟨_, o', q', nf⟩ := a.fr.mem hb
  rw [q] at q'
  cases q'
  obtain ⟨sl1, z1⟩ := u1 b o q nf
  obtain ⟨sl2, z2⟩ := u4 b _ ((hs2.2 b (stC b hb)).trans z1) nf
  exact ⟨sl2, z2⟩
 have nofp : ∀ b o, X.s₀.heap.get? b = some o -> b ∉ X.ex -> b ∉ fp := fun b o q hx' hb => by
  rcases (f2 b hb).2.2.2.1 with z | z
  ·exact hx' z
  ·exact absurd (Heap.lt_size q) (Nat.not_lt.mpr z)
 have I3 : Inv X pins σ H' { s with heap := h4 } := by
  refine I2.m7 (ch := fp) J.os ⟨fun b o q n hb hxx => a4.st b o (in_B b o (bn.kp b o q n hb hxx) (ltC b o q)), fun b o q n hb hxx => ?_, J.base.free, fun b o q hxx => ?_, J.base.fN, J.base.dH, J.base.hW⟩ (jB.kept a4.st) J.bare
   fun b hb => ⟨(f2 b hb).2.2.2.1, (f2 b hb).2.1, (f2 b hb).2.2.2.2.1, (f2 b hb).2.2.2.2.2⟩
  ·obtain ⟨sl1, z⟩ := J.base.slot b o q n hb hxx
   obtain ⟨sl2, z2⟩ := up b _ hb z
   exact ⟨sl2, z2⟩
  ·by_cases hb : b ∈ lB X.stack
   ·obtain ⟨o', z⟩ := J.base.there b o q hxx
    obtain ⟨sl2, z2⟩ := up b _ hb z
    exact ⟨_, z2⟩
   ·obtain ⟨o', z⟩ := bn.th b o q hb hxx
    exact ⟨o', a4.st b o' (in_B b o' z (ltC b o q))⟩
 refine hx pins σ (List.replicate σ.length none) H' { s with heap := h4 } ea C' dx fs gs I3 yh ⟨PySem.W.hideAll B [C], _, hst ▸ a4, jB, ⟨fun b o q n hb hxx => ?_, fun b o q hb hxx => ?_⟩, x4, fun p hp => ?_⟩ xd df hR
 ·have q2 := I2.base.keep b o q n hb hxx
  exact in_B b o (bn.kp b o q2 (I2.base.free b o q n hxx) (I2.vQ q hb) (nofp b o q hxx)) (ltC b o q2)
 ·obtain ⟨o', q2⟩ := I2.base.there b o q hxx
  obtain ⟨o2, z⟩ := bn.th b o' q2 (I2.vQ q hb) (nofp b o q hxx)
  exact ⟨o2, in_B b o2 z (ltC b o' q2)⟩
 ·obtain ⟨y1, y2, _⟩ := I2.pin p (List.mem_append_left _ hp)
  exact in_B _ _ (bn.kp p.1 p.2 y1 y2 (I2.sN hp) fun hb => (f2 _ hb).2.2.2.2.2 p (List.mem_append_left _ hp) rfl) (ltC _ _ y1)
end
section
variable {X : Cx} {scope : Scope} {cl : List (Str × Addr)} {T cn : List Str} {caps : List Nat} {elt tg iter : Expr} {ifs : List Expr} {wi : TI} {g : TG} {tt : TT} {te : TE} {pos : Pos} {R : XR}
theorem kP (S : bV X scope cl T caps cn) (hc : X.calm = true) (hg : ∀ C fp s₂ H₂, PG (ae X scope cl C (T ++ cn) fp s₂ H₂ R) tg g) (ht : ∀ C fp s₂ H₂, tO (ae X scope cl C (T ++ cn) fp s₂ H₂ R) ifs tt)
  (he : ∀ C fp s₂ H₂, PE (ae X scope cl C (T ++ cn) fp s₂ H₂ R) elt te) {pins : List (Addr × Obj)} {σ : L2.St} {H2 : Hp} {s2 : Shared} {it : Addr} {fp : List Addr} {tn : Nat -> Heap -> Prop} {J : It} {E : Value -> Shared -> Prop} {Q : VK}
  {RR : Value -> Addr -> Result -> Shared -> Prop} (I2 : Inv X pins σ H2 s2) (Tn : Turn X.prog X.w X.K tg J fp it tn) (st2 : tn 0 s2.heap) (f2 : ∀ b ∈ fp, gW X pins H2 b)
  (q : ∀ D, H2 D = none -> Bb J D H2 (vn T.length caps σ) g tt te Q)
  (fin : ∀ D C oC m H' s', Inv X (pins ++ [(C, oC)]) σ H' s' -> s'.heap.get? C = some oC -> s'.heap.Ns C m -> gW X pins H' C -> Q (.ref D) H' -> RR (.ref D) C (.ok .next) s')
  (err : ∀ acc C e s, s2.heap.objs.size <= C -> tS X scope cl (T ++ cn) R C fp s2 H2 e s -> notedBy (model X.prog X.w) X.A (compEnvC scope cl C X.env) (fun x s' => RR acc C (.error x) s') e s) :
  wpAny (model X.prog X.w) X.A (newList []) (fun acc s₃ => wpAny (model X.prog X.w) X.A (newFunctionEnv scope X.env.globals cl [] X.env.qual none .none (some X.env)) (fun cenv s₄ =>
   codeAny (model X.prog X.w) X.A (.compStart (.ListComp elt [⟨tg, iter, ifs, 0⟩] scope pos) 0 (.ref it) acc { cenv with scope := relabel scope X.env }) (RR acc cenv.locals) s₄) E s₃) E s2 := by
 refine wpAny_newObj_type (wpAny_newFunctionEnv S.Bs (by intro y hy; simp at hy) (fun h₁ hns₁ hsb₁ => ?_) S.kind)
 dsimp only at hns₁ hsb₁ ⊢
 generalize hH2 : s2.heap.push { cls := .type "list", dict := none, data := .seq ([] : List Value).toArray } = G2 at hns₁ hsb₁ ⊢
 have hC : G2.objs.size = s2.heap.objs.size + 1 := by rw [<- hH2, Heap.size_push]
 have hDC : s2.heap.objs.size ≠ G2.objs.size := by omega
 have old : ∀ b o, s2.heap.get? b = some o -> h₁.get? b = some o := fun b o e => hsb₁.extBut b o (by rw [hC]; exact Nat.ne_of_lt (Nat.lt_succ_of_lt (Heap.lt_size e))) (Heap.get?_push_of_some _ (hH2 ▸ Heap.get?_push_of_some _ e))
 have hacc : ∃ n, h₁.get? s2.heap.objs.size = some { cls := .type "list", data := .seq #[] n } := ⟨_, hsb₁.extBut _ _ hDC (Heap.get?_push_of_some _ (hH2 ▸ Heap.get?_push_size _ rfl))⟩
 have fo : ∀ b ∈ fp, b < s2.heap.objs.size := fun b hb => by
  obtain ⟨o, e, _⟩ := Tn.obj 0 _ st2 b hb
  exact Heap.lt_size e
 obtain ⟨W, ⟨m0, w0⟩, turn⟩ := q s2.heap.objs.size I2.fresh
 have st1 : tn 0 h₁ := Tn.keep 0 _ _ st2 fun b hb o e => old b o e
 have fr0 : ∀ b ∈ fp, upd H2 s2.heap.objs.size (.lst []) b = none := fun b hb => by rw [aH (Nat.ne_of_lt (fo b hb))]; exact (f2 b hb).1
 have loop : ∀ s₃ : Shared, s₃ = { s2 with heap := h₁, toks := s2.toks + ([] : List (Str × Value)).length } ->
   codeAny (model X.prog X.w) X.A (.compLoop (.ListComp elt [⟨tg, iter, ifs, 0⟩] scope pos) 0 (.ref it) (.ref s2.heap.objs.size) (compEnvC scope cl G2.objs.size X.env)) (RR (.ref s2.heap.objs.size) G2.objs.size) s₃ := by
  intro s₃ hs3
  have I0 : Inv (ae X scope cl G2.objs.size (T ++ cn) fp s2 H2 R) [] (vn T.length caps σ) (upd H2 s2.heap.objs.size (.lst [])) s₃ := by
   rw [hs3]
   exact (rP S I2 f2 fo hC old hacc (by simpa using hns₁)).k_ _
  have st3 : tn 0 s₃.heap := by rw [hs3]; exact st1
  have stat : ∀ {H' : Hp}, (∀ b ∈ fp, H' b = none) -> ∀ b ∈ fp, gW (ae X scope cl G2.objs.size (T ++ cn) fp s2 H2 R) [] H' b := fun {H'} hn b hb => by
   refine ⟨hn b hb, ?_, fun hs => ?_, .inl hb, fun y c e => (f2 b hb).2.2.2.2.1 y c (S.sub y c e), fun p hp => absurd (show p ∈ ([] : List (Addr × Obj)) from hp) (by simp)⟩
   ·show b ≠ G2.objs.size
    rw [hC]
    exact Nat.ne_of_lt (Nat.lt_succ_of_lt (fo b hb))
   ·rcases List.mem_cons.mp (I2.kI b hs) with z | z
    ·exact (f2 b hb).2.1 z
    ·exact (f2 b hb).2.2.1 z
  refine mZ (E' := tS X scope cl (T ++ cn) R G2.objs.size fp s2 H2) (fun x s' ce => err _ _ x s' (by omega) ce) (fun n s' => ∃ i ys H', Inv (ae X scope cl G2.objs.size (T ++ cn) fp s2 H2 R) [] (vn T.length caps σ) H' s' /\ tn i s'.heap /\ (∀ b ∈ fp, H' b = none) /\ W i n ys H') ?_ m0 ⟨0, [], _, I0, st3, fr0, w0⟩
  rintro n s4 ⟨i, ys, H4, I4, st4, fr4, w4⟩
  obtain ⟨hD, tr⟩ := turn i n ys H4 w4
  rcases tr with ⟨stop, qn⟩ | ⟨go, step⟩
  ·refine bE (Tn.done (ae X scope cl G2.objs.size (T ++ cn) fp s2 H2 R) rfl rfl rfl hc i [] s4 (vn T.length caps σ) H4 (fun _ _ => False) I4 (stat fr4) st4 stop) fun r s5 ⟨hr, I5⟩ => ?_
   subst hr
   obtain ⟨oC, m, a1, a2, a3, a4⟩ := wj I2 f2 (by omega) I5.fP
   exact fin _ _ oC m H4 s5 a3 a1 a2 a4 qn
  ·refine bE (Tn.item (ae X scope cl G2.objs.size (T ++ cn) fp s2 H2 R) rfl rfl rfl hc i [] s4 (vn T.length caps σ) H4 (fun _ _ => False) I4 (stat fr4) st4 go) fun r s5 ⟨u, hr, h5⟩ => ?_
   subst hr
   refine bE h5 fun _ s6 ⟨x, H6, I6, r6, y6, st6, fr6⟩ => ?_
   have I6' := I6.pinned (stat fr6) (Tn.obj _ _ st6)
   refine bE (hg _ fp s2 H2 _ s6 _ H6 x u _ I6' r6 (step x H6 y6)) fun _ s7 ⟨σ7, H7, I7, le7, q7⟩ => ?_
   have again : ∀ {σ8 : L2.St} {H8 : Hp} {s8 : Shared} {zs : List V} {m' : Nat}, Le (vn T.length caps σ) σ8 -> Inv (ae X scope cl G2.objs.size (T ++ cn) fp s2 H2 R) ([] ++ iw fp s6.heap) σ8 H8 s8 -> m' < n -> W (i + 1) m' zs H8 ->
     ∃ m, m < n /\ ∃ i ys H', Inv (ae X scope cl G2.objs.size (T ++ cn) fp s2 H2 R) [] (vn T.length caps σ) H' s8 /\ tn i s8.heap /\ (∀ b ∈ fp, H' b = none) /\ W i m ys H' := fun {σ8 H8 s8 zs m'} le I8 hm w8 => by
    refine ⟨m', hm, i + 1, zs, H8, I8.fi.weak le.1 le.2, Tn.keep _ _ _ st6 fun b hb o e => (I8.pin (b, o) (List.mem_append_right _ (List.mem_append_right _ (d8 hb e)))).1, fun b hb => ?_, w8⟩
    obtain ⟨o, e, d⟩ := Tn.obj _ _ st6 b hb
    exact (I8.pin (b, o) (List.mem_append_right _ (List.mem_append_right _ (d8 hb e)))).2.1
   refine bE (ht _ fp s2 H2 _ s7 σ7 H7 _ I7 q7) fun ok s8 ⟨H8, I8, q8⟩ => ?_
   cases ok with
   | false =>
    rw [if_neg Bool.false_ne_true] at q8 ⊢
    obtain ⟨m', hm, w8⟩ := q8
    exact again le7 I8 hm w8
   | true =>
    rw [if_pos rfl] at q8 ⊢
    refine bE (he _ fp s2 H2 _ s8 σ7 H8 _ I8 q8) fun v9 s9 ⟨y, H9, I9, r9, hD9, hz9, m', hm, w9⟩ => ?_
    refine bE (nN _ s9 σ7 H9 (.ref s2.heap.objs.size) [y] (.ref s2.heap.objs.size) [v9] (fun _ H => H = upd H9 s2.heap.objs.size (.lst (ys ++ [y]))) I9 rfl (.cons r9 .nil) ⟨_, ys, y, rfl, rfl, hD9, hz9, rfl⟩) fun _ s10 ⟨_, H10, I10, _, e10⟩ => ?_
    subst e10
    exact again le7 I10 hm w9
 exact codeAny_compStart_list (loop _ rfl) (Tn.self X.A 0 _ _ _ st1 (loop _ rfl))
theorem qo (hst : X.stack = X.env :: X.outer) (hfr : X.env.frame = some X.env.locals) (hx : fD X (fun _ => R)) (S : bV X scope cl T caps cn) (hc : X.calm = true) (hi : PI X tg iter wi) (hg : ∀ C fp s₂ H₂, PG (ae X scope cl C (T ++ cn) fp s₂ H₂ R) tg g) (ht : ∀ C fp s₂ H₂, tO (ae X scope cl C (T ++ cn) fp s₂ H₂ R) ifs tt)
  (he : ∀ C fp s₂ H₂, PE (ae X scope cl C (T ++ cn) fp s₂ H₂ R) elt te) (hs : ∀ x, foldedSetIterable iter X.env x = pure x := by intro _; rfl) :
  PE X (.ListComp elt [⟨tg, iter, ifs, 0⟩] scope pos) (qt T.length caps wi g tt te) := by
 intro pins s σ H Q I h
 rw [eval_ListComp]
 refine wpAny_comprehension_free (use := none) rfl hs S.En S.kind S.names (bE (hi pins s σ H _ I h) fun v s1 h1 => bE h1 fun itv s2 h2 => ?_)
 obtain ⟨it, fp, tn, J, H2, e, I2, Tn, st2, f2, q⟩ := h2
 subst e
 refine kP (RR := fun acc C => compPost (model X.prog X.w) X.A X.xe none (EP X pins σ Q) acc C) S hc hg ht he I2 Tn st2 f2 q (fun D C oC m H' s' I' ho hn fC qD => ?_) fun acc C e s hC ce => ph hst hfr hx I2 f2 hC ce
 refine ⟨m, hn, fun h' hs' => ⟨.ref D, H', ?_, rfl, qD⟩⟩
 obtain ⟨hp, g, d, t, os⟩ := s'
 exact I'.fi.turned (fun b o hb e => (hs'.2 b hb).trans e) fC.1 fC.2.1 fC.2.2.2.1 fC.2.2.2.2.1 fC.2.2.2.2.2
theorem mE {i : Nat} {y : Str} {py spos : Pos} (hst : X.stack = X.env :: X.outer) (hfr : X.env.frame = some X.env.locals) (hx : fD X (fun _ => R)) (hN : X.N.Nodup) (hi' : X.N[i]? = some y) (hy : Loc X.env.scope y) (S : bV X scope cl T caps cn) (hc : X.calm = true) (hi : PI X tg iter wi)
  (hg : ∀ C fp s₂ H₂, PG (ae X scope cl C (T ++ cn) fp s₂ H₂ R) tg g) (ht : ∀ C fp s₂ H₂, tO (ae X scope cl C (T ++ cn) fp s₂ H₂ R) ifs tt)
  (he : ∀ C fp s₂ H₂, PE (ae X scope cl C (T ++ cn) fp s₂ H₂ R) elt te) (hsw : swapsWith (.ListComp elt [⟨tg, iter, ifs, 0⟩] scope pos) (some (.Name y py)) spos.line X.env = pure true := by rfl)
  (hf : X.fn y = true \/ X.env.scope.names.lookup y = some .local := by first | exact .inl rfl | exact .inr rfl | assumption)
  (hs : ∀ x, foldedSetIterable iter X.env x = pure x := by intro _; rfl) :
  PS X (.Assign [.Name y py] (.ListComp elt [⟨tg, iter, ifs, 0⟩] scope pos) spos) (F6 i (qt T.length caps wi g tt te)) := by
 intro pins s σ H D I h
 rw [exec_Assign_Name_used _ _ _ _ hsw]
 refine wpAny_bind (wpAny_standAt (wpAny_bind ?_))
 show wpAny _ X.A (do let _ <- comprehension (.ListComp elt [⟨tg, iter, ifs, 0⟩] scope pos) scope X.env _ (newList []) false (eval iter X.env) (some (assign (.Name y py) X.env))) _ _ s
 refine wpAny_bind (wpAny_mono (wpAny_comprehension_free (use := some (assign (.Name y py) X.env)) (Q := fun _ s' => SP X pins D .next s') rfl hs S.En S.kind S.names
  (bE (hi pins s σ H _ I h) fun v s1 h1 => bE h1 fun itv s2 h2 => ?_)) (fun _ s' hq => wpAny_pure (wpAny_pure hq)) fun _ _ e => e)
 obtain ⟨it, fp, tn, J, H2, e, I2, Tn, st2, f2, q⟩ := h2
 subst e
 refine kP (Q := fun x H1 => D.nx (σ.set i (some x)) H1) (RR := fun acc C => compPost (model X.prog X.w) X.A X.xe (some (assign (.Name y py) X.env)) (fun _ s' => SP X pins D .next s') acc C) S hc hg ht he I2 Tn st2 f2 q (fun Dd C oC m H' s' I' ho hn fC qD => ?_) fun acc C e s hC ce => ph hst hfr hx I2 f2 hC ce
 show wpAny _ X.A (assign (.Name y py) X.env (.ref Dd)) _ _ s'
 refine bE (bw (i := i) hN hi' hy hf (pins ++ [(C, oC)]) s' σ H' (.ref Dd) (.ref Dd) (fun σ' H1 => σ' = σ.set i (some (.ref Dd)) /\ H1 = H') I' rfl ⟨rfl, rfl⟩) fun _ s'' ⟨σ'', H'', I'', e1, e2⟩ => ?_
 subst e1 e2
 have hoC : s''.heap.get? C = some oC := (I''.pin (C, oC) (List.mem_append_right _ (List.mem_append_right _ (List.mem_singleton.mpr rfl)))).1
 obtain ⟨oC', es, ep, ho', r⟩ := hn
 rw [ho] at ho'
 cases ho'
 refine ⟨m, ⟨oC, es, ep, hoC, r⟩, fun h' hs' => ⟨σ.set i (some (.ref Dd)), H'', ?_, qD⟩⟩
 obtain ⟨hp, g, d, t, os⟩ := s''
 exact I''.fi.turned (fun b o hb e => (hs'.2 b hb).trans e) fC.1 fC.2.1 fC.2.2.2.1 fC.2.2.2.2.1 fC.2.2.2.2.2
end
def EZ (tt : TD) (te : ED) (δ0 : SD) : List D -> List D -> (D -> Prop) -> Prop
 | [], acc, Q => Q (.lst acc)
 | d :: ds, acc, Q => tt (some d :: δ0) fun b => (b = true -> te (some d :: δ0) fun y => EZ tt te δ0 ds (acc ++ [y]) Q) /\ (b = false -> EZ tt te δ0 ds acc Q)
def tI (caps : List Nat) (ti : AD) (tt : TD) (te : ED) : ED := fun δ Q => ti δ fun ds => ds.length < sizeLine /\ EZ tt te (ie caps δ) ds [] Q
theorem xt {tt : TD} {te : ED} (mt : cj tt) (me : aw te) {δ0 : SD} : ∀ (ds acc : List D) (P P' : D -> Prop), (∀ d, P d -> P' d) -> EZ tt te δ0 ds acc P -> EZ tt te δ0 ds acc P'
 | [], acc, P, P', g, h => g _ h
 | d :: ds, acc, P, P', g, h => mt _ _ _ (fun b ⟨h1, h2⟩ => ⟨fun e => me _ _ _ (fun y q => xt mt me ds _ P P' g q) (h1 e), fun e => xt mt me ds acc P P' g (h2 e)⟩) h
theorem um {K : PySem.W.Frag} {caps : List Nat} {ti : AD} {tt : TD} {te : ED} (mi : iK ti) (mt : cj tt) (me : aw te) {σ : L2.St} {H : Hp} {Q : VK} (h : oE K (tI caps ti tt te) σ H Q) :
  qt 1 caps (fun σ H R => ∃ δ, ay K H σ δ /\ ti δ fun ds => ∀ J H1, aJ H H1 -> CF K J H1 ds -> R J H1) (gJ 0) (pT (oT K tt)) (pS (oE K te)) σ H Q := by
 obtain ⟨δ, r, h⟩ := h
 refine ⟨δ, r, mi _ _ _ (fun ds ⟨hlen, go⟩ J H1 s1 it D hD => ?_) h⟩
 refine ⟨fun i m ys H' => m = ds.length - i /\ i <= ds.length /\ ys.length <= i /\ ∃ H0 acc, H0 D = none /\ aJ H1 H0 /\ au K H0 ys acc /\ H' = upd H0 D (.lst ys) /\ EZ tt te (ie caps δ) (ds.drop i) acc (kD K H Q), ⟨ds.length, rfl, Nat.zero_le _, Nat.zero_le _, H1, [], hD, aJ.refl _, .nil, rfl, go⟩, ?_⟩
 rintro i m ys H' ⟨rfl, hle, hys, H0, acc, h0, s0, dys, rfl, gx⟩
 refine ⟨aI, ?_⟩
 have sU : aJ H1 (upd H0 D (.lst ys)) := s0.trans (aN h0)
 by_cases hlt : i < ds.length
 ·refine .inr ⟨it.go i _ sU hlt, fun x H'' y => ?_⟩
  obtain ⟨s2, d, hd, Hx, sx1, dvx, only, sx⟩ := it.wI i _ x H'' sU hlt y
  have hD2 : H'' D = some (.lst ys) := s2 _ _ aI
  have ne1 : ∀ a o, H1 a = some o -> a ≠ D := fun a o z => aS z hD
  have nex : ∀ a o, Hx a = some o -> a ≠ D := fun a o z w => by
   rcases only a o z with z1 | z1
   ·exact ne1 a o z1 w
   ·rw [w, aI] at z1; cases z1
  have sd1 : aJ H0 (del H'' D) := fun a o z => by
   rw [cK (aS z h0)]
   exact s2 a o (aN h0 a o z)
  have sdx : aJ Hx (del H'' D) := fun a o z => by
   rw [cK (nex a o z)]
   exact sx a o z
  have rel : ay K (del H'' D) (some x :: caps.map fun j => (σ[j]?).getD none) (some d :: ie caps δ) := oK (r.same (s1.trans (s0.trans sd1))) (dvx.same sdx) caps
  have ed : ds.drop i = d :: ds.drop (i + 1) := by
   have hi := (List.getElem?_eq_some_iff.mp hd)
   rw [List.drop_eq_getElem_cons hi.1, hi.2]
  rw [ed] at gx
  refine ⟨Le.one, D, ys, hD2, _, rel, mt _ _ _ (fun b ⟨hb1, hb2⟩ H3 s3 h3 => ?_) gx⟩
  have s03 : aJ H0 H3 := sd1.trans s3
  cases b with
  | false =>
   refine aK ?_
   exact ⟨ds.length - (i + 1), by omega, rfl, hlt, by omega, H3, acc, h3, s0.trans s03, dys.same s03, rfl, hb2 rfl⟩
  | true =>
   refine aO ?_
   refine ⟨D, ys, aI, ?_⟩
   rw [oQ h3]
   refine ⟨_, rel.same s3, me _ _ _ (fun y gy v H4 s4 dv h4 => ⟨aI, ?_, ds.length - (i + 1), by omega, rfl, hlt, ?_, H4, acc ++ [y], h4, s0.trans (s03.trans s4), ?_, jr, gy⟩) (hb1 rfl)⟩
   ·omega
   ·rw [List.length_append, List.length_singleton]; omega
   ·exact (dys.same (s03.trans s4)).append (.cons dv .nil)
 ·have e : i = ds.length := by omega
  subst e
  refine .inl ⟨it.stop _ sU, ?_⟩
  rw [List.drop_length] at gx
  exact gx _ _ (s1.trans sU) (.lst (ck.of aI) (dys.same (aN h0)))
section
variable {X : Cx} {scope : Scope} {cl : List (Str × Addr)} {x : Str} {cn : List Str} {caps : List Nat} {elt tg iter : Expr} {ifs : List Expr} {ti : AD} {tt : TD} {te : ED} {pos : Pos} {R : XR}
theorem uE (mi : iK ti) (mt : cj tt) (me : aw te) : aw (tI caps ti tt te) := fun δ P P' g h => mi _ _ _ (fun ds ⟨hl, q⟩ => ⟨hl, xt mt me _ _ P P' g q⟩) h
theorem F8 {i : Nat} {y : Str} {py spos : Pos} (hst : X.stack = X.env :: X.outer) (hfr : X.env.frame = some X.env.locals) (hx : fD X (fun _ => R)) (hN : X.N.Nodup) (hi' : X.N[i]? = some y) (hy : Loc X.env.scope y) (S : bV X scope cl [x] caps cn) (hc : X.calm = true) (hi : PId X tg iter ti)
  (hg : ∀ C fp s₂ H₂, PG (ae X scope cl C ([x] ++ cn) fp s₂ H₂ R) tg (gJ 0)) (ht : ∀ C fp s₂ H₂, rJ (ae X scope cl C ([x] ++ cn) fp s₂ H₂ R) ifs tt) (he : ∀ C fp s₂ H₂, PD (ae X scope cl C ([x] ++ cn) fp s₂ H₂ R) elt te)
  (hsw : swapsWith (.ListComp elt [⟨tg, iter, ifs, 0⟩] scope pos) (some (.Name y py)) spos.line X.env = pure true := by rfl) (hf : X.fn y = true \/ X.env.scope.names.lookup y = some .local := by first | exact .inl rfl | exact .inr rfl | assumption)
  (hs : ∀ x, foldedSetIterable iter X.env x = pure x := by intro _; rfl) : tN X (.Assign [.Name y py] (.ListComp elt [⟨tg, iter, ifs, 0⟩] scope pos) spos) (BB i (tI caps ti tt te)) :=
 have mt : cj tt := (ht 0 [] X.s₀ X.H₀).mono
 have me : aw te := (he 0 [] X.s₀ X.H₀).mono
 ⟨PS.imp (mE hst hfr hx hN hi' hy S hc hi.pi hg (fun C fp s₂ H₂ => eD (ht C fp s₂ H₂).Ft) (fun C fp s₂ H₂ => fY (he C fp s₂ H₂).pe) hsw hf hs) fun D σ H ⟨δ, r, h⟩ =>
   um hi.mono mt me ⟨δ, r, uE hi.mono mt me _ _ _ (fun d q v H1 s1 dv => q _ H1 s1 ((r.same s1).set i dv)) h⟩,
  fun E E' δ l h => uE hi.mono mt me _ _ _ (fun d q => l.nx _ q) h⟩
end
end DC
namespace L2
open PySem PySem.Spec PyProof.Rows
abbrev Cx.rZ (X : Cx) (A : Around) : Cx := { X with A := A, calm := false, xe := fun _ _ => False }
abbrev Cx.mC (X : Cx) (pins : List (Addr × Obj)) (E : Value -> Shared -> Prop) : Cx := { X with pn := X.pn ++ pins, xe := E }
section
variable {X : Cx} {pins : List (Addr × Obj)} {σ : St} {H : Hp} {s : Shared} {A : Around} {E : Value -> Shared -> Prop}
theorem Inv.rZ (I : Inv X pins σ H s) (hf : A.frames = X.A.frames) : Inv (X.rZ A) pins σ H s :=
 ⟨⟨I.ok.mod, I.ok.kind, I.ok.glob, I.ok.blt, I.ok.above, I.ok.inj, I.ok.has, I.ok.Bg, (fun h => Bool.noConfusion h), hf.trans I.ok.frames, I.ok.D8, I.ok.E2, I.ok.bs, I.ok.wC, I.ok.qg, I.ok.qE, I.ok.fu, I.ok.wG⟩, I.os, I.bare, I.base, I.loc, I.cell, I.free, I.b7, I.pin, I.ao, I.len⟩
theorem Inv.zC (ok : X.Ok) (I : Inv (X.rZ A) pins σ H s) : Inv X pins σ H s := ⟨ok, I.os, I.bare, I.base, I.loc, I.cell, I.free, I.b7, I.pin, I.ao, I.len⟩
theorem Inv.mC (I : Inv X pins σ H s) : Inv (X.mC pins E) [] σ H s :=
 ⟨⟨I.ok.mod, I.ok.kind, I.ok.glob, I.ok.blt, I.ok.above, I.ok.inj, I.ok.has, I.ok.Bg, I.ok.hd, I.ok.frames, I.ok.D8, I.ok.E2, I.ok.bs, I.ok.wC, I.ok.qg, I.ok.qE, I.ok.fu, I.ok.wG⟩, I.os, I.bare, I.base, I.loc, I.cell, I.free, I.b7,
  fun p hp => I.pin p (by simpa using hp), I.ao, I.len⟩
theorem Inv.iF {l : List (Addr × Obj)} (I : Inv (X.mC pins E) l σ H s) : Inv X pins σ H s :=
 ⟨⟨I.ok.mod, I.ok.kind, I.ok.glob, I.ok.blt, I.ok.above, I.ok.inj, I.ok.has, I.ok.Bg, I.ok.hd, I.ok.frames, I.ok.D8, I.ok.E2, I.ok.bs, I.ok.wC, I.ok.qg, I.ok.qE, I.ok.fu, I.ok.wG⟩, I.os, I.bare, I.base, I.loc, I.cell, I.free, I.b7,
  fun p hp => I.pin p (List.mem_append_left _ hp), I.ao, I.len⟩
theorem Ff {h h' : Heap} {a : Addr} {m : Str -> Option Value} (u : h.UpToSlots h') (hn : h.Ns a m) : h'.Ns a m := by
 obtain ⟨o, es, ep, ho, hd, r⟩ := hn
 obtain ⟨sl, z⟩ := u a o ho (fun vs q => by rw [hd] at q; cases q)
 exact ⟨_, es, ep, z, hd, r⟩
theorem tQ {h h' : Heap} {a : Addr} {v : Option Value} (u : h.UpToSlots h') (hn : h.IsCell a v) : h'.IsCell a v := by
 obtain ⟨o, ho, hd⟩ := hn
 obtain ⟨sl, z⟩ := u a o ho (fun vs q => by rw [hd] at q; cases q)
 exact ⟨_, z, hd⟩
theorem AU {env : Env} {h h' : Heap} {m : Str -> Option Value} {x : Str} {v : Value} (u : h.UpToSlots h') (l : Look env h m x v) : Look env h' m x v := by
 rcases l with l | ⟨k, c, e, i⟩
 ·exact .inl l
 ·exact .inr ⟨k, c, e, tQ u i⟩
theorem Inv.IM {l : List (Addr × Obj)} {B h1 : Heap} {ea : Addr} (I : Inv X l σ H s) (u : s.heap.UpToSlots h1) (a : pW B X.stack ea h1) (ok : cf X.prog X.w H B) (bn : jC X.fs X.ex X.H₀ X.s₀.heap B) (pn : ∀ p ∈ X.pn, B.get? p.1 = some p.2) : Inv X [] σ H { s with heap := h1 } := by
 obtain ⟨m, hn, lk⟩ := I.loc
 have up : ∀ b o, b ∈ X.fs -> s.heap.get? b = some o -> ∃ sl, h1.get? b = some { o with slots := sl } := fun b o hb q => by
  obtain ⟨_, o', q', nf⟩ := I.fu.mem hb
  rw [q] at q'
  cases q'
  exact u b o q nf
 refine ⟨I.ok, I.os, I.bare, ⟨fun b o q n hb hx => a.st b o (bn.kp b o q n hb hx), fun b o q n hb hx => ?_, I.base.free, fun b o q hx => ?_, I.base.fN, I.base.dH, I.base.hW⟩,
  ⟨m, Ff u hn, fun i x v e1 e2 e3 => let ⟨w, r, k⟩ := lk i x v e1 e2 e3; ⟨w, r, AU u k⟩⟩, fun x c e => let ⟨v, k⟩ := I.cell x c e; ⟨v, tQ u k⟩, I.free, I.b7, fun p hp => ?_, ok.kept a.st, I.len⟩
 ·obtain ⟨sl, z⟩ := I.base.slot b o q n hb hx
  obtain ⟨sl2, z2⟩ := up b _ hb z
  exact ⟨sl2, z2⟩
 ·by_cases hb : b ∈ X.fs
  ·obtain ⟨o', z⟩ := I.base.there b o q hx
   obtain ⟨sl2, z2⟩ := up b _ hb z
   exact ⟨_, z2⟩
  ·obtain ⟨o', z⟩ := bn.th b o q hb hx
   exact ⟨o', a.st b o' z⟩
 ·have hp' : p ∈ X.pn := by simpa using hp
  exact ⟨a.st _ _ (pn p hp'), (I.pin p (List.mem_append_left _ hp')).2⟩
theorem cf.q_ {P : Program} {w : World} {h : Heap} {a : Addr} {o : HO} (x : cf P w H h) (hn : H a = none) (new : aQ P w (upd H a o) h a o) : cf P w (upd H a o) h := fun b u e => by
 by_cases hb : b = a
 ·subst hb; rw [aI] at e; cases e; exact new
 ·rw [aH hb] at e
  exact (x b u e).kH (fun c v _ q => q) (fun c q => by rw [aH (aS q hn)]; exact q) fun c xs q => by rw [aH (aS q hn)]; exact q
theorem Inv.q_ {ea : Addr} {u : HO} (I : Inv X pins σ H s) (hn : H ea = none) (h0 : X.s₀.heap.get? ea = none) (hl : ea ≠ X.env.locals) (hc : ∀ x c, X.env.cells.lookup x = some c -> c ≠ ea) (hp : ∀ p ∈ X.pn ++ pins, p.1 ≠ ea) (new : aQ X.prog X.w (upd H ea u) s.heap ea u) : Inv X pins σ (upd H ea u) s := by
 have ne : ∀ b v, H b = some v -> b ≠ ea := fun b v q => aS q hn
 refine ⟨I.ok, I.os, I.bare, ⟨I.base.keep, I.base.slot, fun b o q n hx => ?_, I.base.there, fun b xs q => ?_, fun b o v q => ?_, fun b ps q => ?_⟩, I.loc, I.cell, by rw [aH (Ne.symm hl)]; exact I.free, fun x c e => by rw [aH (hc x c e)]; exact I.b7 x c e, fun p hp' => ?_, I.ao.q_ hn new, I.len⟩
 ·rw [aH (fun z => by rw [z, h0] at q; cases q)]
  exact I.base.free b o q n hx
 ·have z := I.base.fN b xs q
  rw [aH (ne _ _ z)]; exact z
 ·have z := I.base.dH b o v q
  rw [aH (ne _ _ z)]; exact z
 ·obtain ⟨more, z⟩ := I.base.hW b ps q
  exact ⟨more, by rw [aH (ne _ _ z)]; exact z⟩
 ·obtain ⟨y1, y2, y3⟩ := I.pin p hp'
  exact ⟨y1, by rw [aH (hp p hp')]; exact y2, y3⟩
theorem Inv.E8 {i : Nat} {n : Str} {pos : Pos} {M : Model} {A : Around} {Q : Unit -> Shared -> Prop} (I : Inv X pins σ H s) (hN : X.N.Nodup) (hi : X.N[i]? = some n) (hl : X.env.kindOf n = some .local) (h : ∀ s', Inv X pins (σ.set i none) H s' -> Q () s') : wpAny M A (do bindName X.env n .none; unbindBehindTheSuite X.env n pos) Q E s := by
 obtain ⟨m, hn, lk⟩ := I.loc
 refine wpAny_nameGoes_keeps hl hn (by rw [I.ok.kind]; rfl) fun h' v hn' sb => h _ ?_
 have wg := I.wg
 have ho := hn
 obtain ⟨o, es, ep, go, gd, _⟩ := ho
 have keep : ∀ b ob, b ≠ X.env.locals -> s.heap.get? b = some ob -> h'.get? b = some ob := fun b ob nb q => (sb.2 b nb).trans q
 obtain ⟨o', es', ep', go', _⟩ := id hn'
 have above := I.ok.above
 refine ⟨I.ok, I.os, I.bare, ⟨fun b ob q nb hb hx => ?_, fun b ob q nb hb hx => ?_, I.base.free, fun b ob q hx => ?_, I.base.fN, I.base.dH, I.base.hW⟩, ⟨_, hn', fun j x w e1 e2 e3 => ?_⟩, fun x c e => ?_, I.free, I.b7, fun p hp => ?_, fun b u q => ?_, by rw [List.length_set]; exact I.len⟩
 ·exact keep b ob (fun z => by have y := Heap.lt_size q; rw [z] at y; exact absurd above (Nat.not_le.mpr y)) (I.base.keep b ob q nb hb hx)
 ·obtain ⟨sl, z⟩ := I.base.slot b ob q nb hb hx
  exact ⟨sl, keep b _ (fun y => by have y2 := Heap.lt_size q; rw [y] at y2; exact absurd above (Nat.not_le.mpr y2)) z⟩
 ·obtain ⟨o2, z⟩ := I.base.there b ob q hx
  exact ⟨o2, keep b _ (fun y => by have y2 := Heap.lt_size q; rw [y] at y2; exact absurd above (Nat.not_le.mpr y2)) z⟩
 ·rw [List.getElem?_set] at e2
  split at e2
  ·split at e2 <;> cases e2
  ·rename_i ji
   obtain ⟨w', r, k⟩ := lk j x w e1 e2 e3
   have xn : x ≠ n := fun z => ji (by
    subst z
    exact (List.getElem?_inj (List.getElem?_eq_some_iff.mp hi).1 hN).mp (hi.trans e1.symm))
   refine ⟨w', r, ?_⟩
   rcases k with ⟨k1, k2⟩ | ⟨k1, c, k2, k3⟩
   ·exact .inl ⟨k1, by show (if x = n then v else m x) = _; rw [if_neg xn]; exact k2⟩
   ·exact .inr ⟨k1, c, k2, k3.sameBut sb (wg x c k2)⟩
 ·obtain ⟨v, k⟩ := I.cell x c e
  exact ⟨v, k.sameBut sb (wg x c e)⟩
 ·obtain ⟨y1, y2, y3, y4⟩ := I.pin p hp
  exact ⟨keep _ _ y3 y1, y2, y3, y4⟩
 ·refine (I.ao b u q).kH (fun c w hc z => keep c w (fun y => ?_) z) (fun _ z => z) fun _ _ z => z
  rcases hc with rfl | hc
  ·rw [y, I.free] at q; cases q
  ·rw [y, I.free] at hc; cases hc
end
theorem zq {prog : Program} {w : World} {A : Around} {E : Value -> Shared -> Prop} {K : PySem.W.Frag} {e C Cx : Addr} {oe : Obj} {Q : Bool -> Shared -> Prop} {s : Shared} (X : K.In s.heap) (hk : PySem.W.kitCls K (.ref C) (.ref Cx) = some true) (hb : PySem.W.mroIn K Cx (.type "BaseException") = some true)
  (he : s.heap.get? e = some oe) (hc : oe.cls = .ref C) (hq : Q true s) : wpAny (model prog w) A (excMatches (.ref e) (.ref Cx)) Q E s := by
 obtain ⟨h, g, d, tk, os⟩ := s
 obtain ⟨LY, LT, LS⟩ := PySem.W.kit_cls (M := model prog w) X hk
 have LB := PySem.W.looks_mroIn (M := model prog w) X hb
 have LE : PySem.W.Looks (model prog w) h (typeOf (.ref e)) (.ref C) := hc ▸ (PySem.W.Looks.ld he).andThen .now
 have LI : PySem.W.Looks (model prog w) h (isInstance (.ref Cx) (.type "tuple")) false := LY.andThen (.of_pure tc_notTuple)
 unfold excMatches
 repeat (first | with_reducible refine LI.at ?_ | with_reducible refine LT.at ?_ | with_reducible refine LB.at ?_ | with_reducible refine LE.at ?_ | with_reducible refine LS.at ?_ | wp_step)
 exact hq
end L2
namespace DC
open PySem PySem.Spec PyProof.Rows L2
def endsF (K : PySem.W.Frag) (D : Ends) : kL := ⟨fun δ => ∀ σ H', ay K H' σ δ -> D.nx σ H', fun d => ∀ v H', Dv K H' v d -> D.rt v H', fun δ => ∀ σ H', ay K H' σ δ -> D.bk σ H', fun δ => ∀ σ H', ay K H' σ δ -> D.ct σ H'⟩
theorem qA {K : PySem.W.Frag} {H : Hp} {D : Ends} : kL.Le (endsF K D) (gf K H D) := ⟨fun δ q σ H' _ r => q σ H' r, fun d q v H' _ dv => q v H' dv, fun δ q σ H' _ r => q σ H' r, fun δ q σ H' _ r => q σ H' r⟩
def oF (K : PySem.W.Frag) (t : eV) : TS := fun D σ H => ∃ δ, ay K H σ δ /\ t (endsF K D) δ
structure IK (X : Cx) (st : Stmt) (t : eV) : Prop where
 ps : PS X st (oF X.K t)
 mono : mv t
structure Ee (X : Cx) (st : List Stmt) (t : eV) : Prop where
 ps : hX X st (oF X.K t)
 mono : mv t
section
variable {X : Cx} {st : Stmt} {rest : List Stmt} {t u : eV}
theorem Co (h : gY X rest t) : Ee X rest t := ⟨hX.imp h.ps fun D σ H ⟨δ, r, q⟩ => ⟨δ, r, h.mono _ _ _ qA q⟩, h.mono⟩
theorem zu (h1 : IK X st t) (h2 : Ee X rest u) : Ee X (st :: rest) (Fx t u) :=
 ⟨hX.imp (gv h1.ps h2.ps) fun D σ H ⟨δ, r, q⟩ => ⟨δ, r, h1.mono { endsF X.K D with nx := u (endsF X.K D) } _ _ ⟨fun δ' q σ' H' r' => ⟨δ', r', q⟩, fun _ q => q, fun _ q => q, fun _ q => q⟩ q⟩,
  fun E E' δ l q => h1.mono { E with nx := u E } _ _ ⟨fun δ' q => h2.mono _ _ _ l q, l.rt, l.bk, l.ct⟩ q⟩
theorem ay.unset {K : PySem.W.Frag} {H : Hp} {σ : L2.St} {δ : SD} {i : Nat} (r : ay K H σ δ) : ay K H (σ.set i none) (δ.set i none) := by
 refine ⟨by rw [List.length_set, List.length_set]; exact r.len, fun j d h => ?_⟩
 rw [List.getElem?_set] at h ⊢
 split at h
 ·split at h <;> cases h
 ·rename_i n
  rw [if_neg n]
  exact r.get j d h
def Hd (i : Nat) (hit : Addr -> Prop) (tb : (SD -> XR) -> eV) (th : Addr -> eV) : eV := fun E δ => ∃ xk : SD -> XR, (∀ δ' C gs, xk δ' C gs -> hit C /\ ∀ a, th a { nx := fun δ'' => E.nx (δ''.set i none), rt := E.rt } (δ'.set i (some (.exc a C gs)))) /\ tb xk E δ
theorem Cp {i : Nat} {n cx : Str} {cp hp pos : Pos} {b₀ : Stmt} {suite body : List Stmt} {Cx : Addr} {tb : (SD -> XR) -> eV} {th : Addr -> eV} {hit : Addr -> Prop} (hst : X.stack = X.env :: X.outer) (hfr : X.env.frame = some X.env.locals) (hex : X.ex = []) (hN : X.N.Nodup) (hi : X.N[i]? = some n) (hl : X.env.scope.names.lookup n = some .local)
  (hg : Gl X cx) (hm : X.mg cx = some (.ref Cx)) (hhit : ∀ C, hit C -> PySem.W.kitCls X.K (.ref C) (.ref Cx) = some true) (hbe : PySem.W.mroIn X.K Cx (.type "BaseException") = some true)
  (hb : ∀ pins E' xk, fD (X.mC pins E') xk -> gY (X.mC pins E') body (tb xk)) (hs : ∀ ea, gY (X.rZ (X.A.mark (some (.ref ea)))) (b₀ :: suite) (th ea)) (hd : (cx == ("__debug__" : Str)) = false := by decide) :
  IK X (.Try body [.ExceptHandler (some (.Name cx cp)) (some n) (b₀ :: suite) hp] [] [] pos) (Hd i hit tb th) := by
 refine ⟨fun pins s σ H D I ⟨δ, r, xk, himp, hq⟩ => ?_, fun E E' δ l ⟨xk, h1, h2⟩ => ⟨xk, fun δ' C gs q => ⟨(h1 δ' C gs q).1, fun a => (hs a).mono { nx := fun δ'' => E.nx (δ''.set i none), rt := E.rt } _ _ ⟨fun _ z => l.nx _ z, l.rt, fun _ z => z, fun _ z => z⟩ ((h1 δ' C gs q).2 a)⟩,
  (hb [] (fun _ _ => True) xk (fun _ _ _ _ _ _ _ _ _ _ _ _ _ _ _ _ => True.intro)).mono _ _ _ l h2⟩⟩
 refine wpAny_Try_except ?_
 have hx : fD (X.mC pins (fun e s₁ => wpAny (model X.prog X.w) X.A (noteFrame e X.env) (fun _ s₂ => wpAny (model X.prog X.w) X.A (setFlight e none) (fun _ s₃ => wpAny (model X.prog X.w) X.A (handleBy e X.env [.ExceptHandler (some (.Name cx cp)) (some n) (b₀ :: suite) hp]) (SP X pins D) X.xe s₃) X.xe s₂) X.xe s₁)) xk := by
  intro l σ1 δ1 H1 s1 ea C dx fs gs I1 r1 ⟨B, fl, a, ok, bn, x, pn⟩ xd df k
  obtain ⟨hitC, hth⟩ := himp δ1 C gs k
  have a0 : pW B (X.env :: X.outer) ea s1.heap := hst ▸ (show pW B X.stack ea s1.heap from a)
  refine sJ (env := X.env) (outer := X.outer) (L := X.env.locals) (by rw [<- hst]; exact I.ok.frames) hfr a0 x fun h2 a2 u2 x2 => ?_
  refine jN (s := { s1 with heap := h2 }) (f := none) a2 x2 fun h3 a3 u3 x3 => ?_
  have I3 : Inv X pins σ1 H1 { s1 with heap := h3 } := (I1.IM (u2.trans u3) (hst ▸ a3) ok bn pn).iF
  have he3 := x3
  obtain ⟨oe, vs, he, hc, _⟩ := he3
  have I3h := I3.rZ (A := X.A.mark (some (.ref ea))) rfl
  refine wpAny_handleBy_cons (codeAny_handlers_test (iE I3h hg hm ?_ hd)) (by intro q; cases q)
  refine zq I3.iN (hhit C hitC) hbe he hc ?_
  refine codeAny_handlers_suite_as (jN (s := { s1 with heap := h3 }) (f := none) a3 x3 fun h4 a4 u4 x4 => ?_)
  have I4 := I1.IM (h1 := h4) (u2.trans (u3.trans u4)) (hst ▸ a4) ok bn pn
  obtain ⟨oe, vs, he, hc, hdx, hdv, hz, hy, _⟩ := x4
  have hn : H1 ea = none := by
   cases q : H1 ea with
   | none => rfl
   | some u =>
    obtain ⟨o, z⟩ := (ok ea u q).there
    rw [a.ne] at z
    cases z
  have h0 : X.s₀.heap.get? ea = none := by
   cases q : X.s₀.heap.get? ea with
   | none => rfl
   | some o =>
    by_cases hb' : ea ∈ X.fs
    ·obtain ⟨_, o', q', nf⟩ := I4.fu.mem hb'
     have q2 : h4.get? ea = some o' := q'
     rw [he] at q2
     cases q2
     exact absurd hdv (nf vs)
    ·obtain ⟨o', z⟩ := bn.th ea o q hb' (by show ea ∉ X.ex; rw [hex]; simp)
     rw [a.ne] at z
     cases z
  have hlo : ea ≠ X.env.locals := fun z => by
   obtain ⟨m, ⟨o, es, ep, go, gd, _⟩, _⟩ := I4.loc
   have go2 : h4.get? X.env.locals = some o := go
   rw [<- z, he] at go2
   cases go2
   rw [hdv] at gd
   cases gd
  have hce : ∀ x c, X.env.cells.lookup x = some c -> c ≠ ea := fun x c e z => by
   obtain ⟨v, o, go, gd⟩ := I4.cell x c e
   have go2 : h4.get? c = some o := go
   rw [z, he] at go2
   cases go2
   rw [hdv] at gd
   cases gd
  have hpn : ∀ p ∈ X.pn ++ pins, p.1 ≠ ea := fun p hp z => by
   have y := pn p hp
   rw [z, a.ne] at y
   cases y
  have new : aQ X.prog X.w (upd H1 ea (jv ea C dx)) h4 ea (jv ea C dx) := by
   unfold jv
   exact ⟨⟨oe, vs, he, hc, hdx, hdv, hy⟩, ⟨oe, he⟩, fun g1 g2 ⟨oe', vs', e1, rr⟩ kk => ⟨oe', vs', kk _ e1, rr⟩⟩
  have I5 : Inv X pins σ1 (upd H1 ea (jv ea C dx)) { s1 with heap := h4 } := (I4.q_ hn h0 hlo hce (fun p hp => hpn p (by simpa using hp)) new).iF
  have sm : aJ H1 (upd H1 ea (jv ea C dx)) := aN hn
  have dv : Dv X.K (upd H1 ea (jv ea C dx)) (.ref ea) (.exc ea C gs) := .exc (.of aI) (xd.same sm) (dQ.same sm df)
  have I5h := I5.rZ (A := X.A.mark (some (.ref ea))) rfl
  refine mK (X := X.rZ (X.A.mark (some (.ref ea)))) (v := .ref ea) I5h hN hi (.inl hl) rfl (fun s6 I6 => ?_) (.inr hl)
  have r6 := (ay.same r1 sm).set i dv
  refine wpAny_mono ((hs ea).ps pins s6 _ _ { nx := fun σ'' H'' => D.nx (σ''.set i none) H'', rt := D.rt } I6 ⟨_, r6, (hs ea).mono { nx := fun δ'' => (endsF X.K D).nx (δ''.set i none), rt := (endsF X.K D).rt } _ _ ⟨fun δ'' q σ'' H'' _ r'' => q _ _ r''.unset, fun d q v H'' _ dv => q v H'' dv, fun _ q => q.elim, fun _ q => q.elim⟩ (hth ea)⟩) (fun f s7 h7 => ?_) fun _ _ z => z.elim
  cases f with
  | next =>
   obtain ⟨σ', H', I', q⟩ := h7
   exact (I'.zC I.ok).E8 hN hi hl fun s8 I8 => ⟨_, H', I8, q⟩
  | ret w =>
   obtain ⟨v, σ', H', I', rv, q⟩ := h7
   exact (I'.zC I.ok).E8 hN hi hl fun s8 I8 => ⟨v, _, H', I8, rv, q⟩
  | brk =>
   obtain ⟨σ', H', I', q⟩ := h7
   exact q.elim
  | cont =>
   obtain ⟨σ', H', I', q⟩ := h7
   exact q.elim
 have B := hb pins _ xk hx
 refine wpAny_mono (B.ps [] s σ H D I.mC ⟨δ, r, B.mono _ _ _ qA hq⟩) (fun f s1 h1 => ?_) fun e s1 h => h
 cases f with
 | next =>
  obtain ⟨σ', H', I', q⟩ := h1
  exact wpAny_execs_nil ⟨σ', H', I'.iF, q⟩
 | ret w =>
  obtain ⟨v, σ', H', I', rv, q⟩ := h1
  exact ⟨v, σ', H', I'.iF, rv, q⟩
 | brk =>
  obtain ⟨σ', H', I', q⟩ := h1
  exact ⟨σ', H', I'.iF, q⟩
 | cont =>
  obtain ⟨σ', H', I', q⟩ := h1
  exact ⟨σ', H', I'.iF, q⟩
end
end DC
namespace L2
open PySem PySem.Spec PyProof.Rows
section
variable {X : Cx} {k : Nat} {f : Addr} {fd : FuncData} {ps : List Str} {sp : Sp}
end
end L2
namespace DC
open PySem PySem.Spec PyProof.Rows L2
section
variable {P : Program} {w : World} {K : PySem.W.Frag} {mg : Str -> Option Value} {base : Heap}
theorem HY {x qual : Str} {st : Stmt} {f : Addr} {fd : FuncData} {N ps : List Str} {k : Nat} {sx : mw} {t : XR -> eV} (F : mW K x qual st f fd) (S : aF N ps (aC st)) (len : ∀ ds Q R, sx ds Q R -> ds.length = ps.length)
  (hb : ∀ (cdv : Value) (A : Around) (outer : List Env) (s : Shared) (H : Hp) (E : XK) (R : XR), az k (A.deeper (envOfC qual (aC st) s.heap.objs.size f cdv)) -> fD (uY P w K mg base N qual st f cdv A outer s H E) (fun _ => R) -> Ee (uY P w K mg base N qual st f cdv A outer s H E) (af st) (t R))
  (hr : ∀ ds Q R, sx ds Q R -> t R { nx := fun _ => Q .aW, rt := Q } (bM N ds)) : bX P w K mg base (mn P w) (k + 1) f fd ps (BP K sx) := by
 obtain ⟨oc, od, dV, kV, doc, pm, an, cdv, ct, osl, rfl, lk, hcd⟩ := F.ex
 refine qF lk hcd S (fun vs H Q E ⟨ds, dvs, h⟩ => by rw [dvs.length]; exact len ds _ _ h) fun A outer s H vs Q E hroom ⟨ds, dvs, h⟩ => ?_
 have B := hb cdv A outer s H E (kX K E) hroom wQ
 refine ⟨_, B.ps, bM N ds, dq dvs, ?_⟩
 let Q' : D -> Prop := fun d => ∀ v H', Dv K H' v d -> Q v H'
 exact B.mono { nx := fun _ => Q' .aW, rt := Q' } _ _ ⟨fun δ q σ H' r => q _ H' .aW, fun d q v H' dv => q v H' dv, fun _ q => q.elim, fun _ q => q.elim⟩ (hr ds _ _ h)
theorem Df.El {k : Nat} {x : Str} {st : Stmt} {ps N : List Str} {sx : mw} {t : XR -> eV} (d : Df K mg x st ps) (S : aF N ps (aC st)) (ms : jD sx) (len : ∀ ds Q R, sx ds Q R -> ds.length = ps.length)
  (hb : ∀ (f : Addr) (cdv : Value) (A : Around) (outer : List Env) (s : Shared) (H : Hp) (E : XK) (R : XR), az k (A.deeper (envOfC x (aC st) s.heap.objs.size f cdv)) -> fD (uY P w K mg base N x st f cdv A outer s H E) (fun _ => R) -> Ee (uY P w K mg base N x st f cdv A outer s H E) (af st) (t R))
  (hr : ∀ ds Q R, sx ds Q R -> t R { nx := fun _ => Q .aW, rt := Q } (bM N ds)) : ud P w K mg base (k + 1) x ps sx := by
 obtain ⟨f, fd, F, m, b⟩ := d.ex
 exact ⟨⟨f, fd, HY (xR F) S len (hb f) hr, m, F.kp, b⟩, ms⟩
end
section
variable {X : Cx} {e : Expr} {es : List Expr} {t : AD} {pos p : Pos} {x : Str} {j k : Nat} {ps : List Str} {sd : cY} {ea : Addr}
end
end DC
namespace L2
open PySem PySem.Spec PyProof.Rows
section
variable {prog : Program} {w : World} {A : Around} {E : Value -> Shared -> Prop} {s : Shared}
end
structure fA (K : PySem.W.Frag) (C : Addr) : Prop where
 ga : PySem.W.findIn K (.ref C) "__getattribute__" = some (some (.builtin "BaseException.__getattribute__"))
 na : PySem.W.findIn K (.ref C) "__getattr__" = some none
 be : PySem.W.mroIn K C (.type "BaseException") = some true
section
variable {prog : Program} {w : World} {A : Around} {E : Value -> Shared -> Prop} {s : Shared} {K : PySem.W.Frag} {x C : Addr} {ox : Obj} {od : Option Obj} {name : Str} {tk : Tok}
theorem we {Q : Unit -> Shared -> Prop} {nv : Value} (X : K.In s.heap) (I : PySem.W.InstAt s.heap x ox C od) (g : fA K C) (hq : Q () s) : wpAny (model prog w) A (checkBuiltinCall "BaseException.__getattribute__" ⟨[.ref x, nv], []⟩) Q E s := by
 have hk : builtinKind "BaseException.__getattribute__" = some .slot := by decide +kernel
 have hsplit : splitId "BaseException.__getattribute__" = some ("BaseException", "__getattribute__") := by decide +kernel
 have ha := PySem.F.args_bexc_ga (.ref x) nv
 have L0 := I.type (M := model prog w)
 have L1 := PySem.W.looks_mroIn (M := model prog w) X g.be
 simp only [checkBuiltinCall, hk, hsplit]
 unfold isInstance
 refine wpAny_bind (wpAny_bind (L0.at (L1.at ?_)))
 unfold argsOk at ha
 simp only [Bool.not_true, Bool.false_eq_true, if_false]
 generalize Manifest.signature? "BaseException.__getattribute__" = o at ha ⊢
 cases o with
 | none => exact wpAny_pure hq
 | some sig =>
  have ha' : Bind.checkArgs "BaseException.__getattribute__" sig { pos := [Value.ref x, nv] } = pure () := ha
  show wpAny _ _ (Bind.checkArgs "BaseException.__getattribute__" sig { pos := [Value.ref x, nv] }) _ _ _
  rw [ha']
  exact wpAny_pure hq
theorem yN {fin : Fin -> Shared -> Prop} {v : Value} (X : K.In s.heap) (I : PySem.W.InstAt s.heap x ox C od) (hf : PySem.W.findObj K C od name = some (.value v)) (h : fin (.done (.ret v)) s) : wpAny (model prog w) A (Builtin.«object.__getattribute__» ⟨[.ref x, .str name tk], []⟩) fin E s := by
 have L0 := I.type (M := model prog w)
 have L1 := PySem.W.looks_find (M := model prog w) X I hf
 refine wpAny_bind (wpAny_pure (wpAny_bind (wpAny_pure (wpAny_bind (L0.at (wpAny_bind (L1.at (wpAny_pure h))))))))
theorem yM {fin : Fin -> Shared -> Prop} {g a : Value} (X : K.In s.heap) (I : PySem.W.InstAt s.heap x ox C od) (hf : PySem.W.findObj K C od name = some (.bind g a)) (h : wpAny (model prog w) A (call g [a, .ref x, .ref C]) (fun v s' => fin (.done (.ret v)) s') E s) : wpAny (model prog w) A (Builtin.«object.__getattribute__» ⟨[.ref x, .str name tk], []⟩) fin E s := by
 have L0 := I.type (M := model prog w)
 have L1 := PySem.W.looks_find (M := model prog w) X I hf
 refine wpAny_bind (wpAny_pure (wpAny_bind (wpAny_pure (wpAny_bind (L0.at (wpAny_bind (L1.at ?_)))))))
 show wpAny _ _ (holding [a] (call g [a, .ref x, .ref C]) >>= ret) _ _ _
 exact wpAny_bind (wpAny_holding (wpAny_mono h (fun v s' z => wpAny_pure z) fun _ _ z => z))
theorem wV {fill expr : Bool} {Q : Value -> Shared -> Prop} (X : K.In s.heap) (I : PySem.W.InstAt s.heap x ox C od) (g : fA K C)
  (h : wpAny (model prog w) A.in1 (Builtin.«object.__getattribute__» ⟨[.ref x, .str name tk], []⟩) (fun fin s' => match fin with | .done (.ret v) => wpAny (model prog w) A (handedOut v) Q E s' | _ => False) (fun _ _ => False) s) :
  wpAny (model prog w) A (getAttrBy (.ref x) (.str name tk) fill expr) Q E s := by
 have L0 := I.type (M := model prog w)
 have L1 := PySem.W.looks_findIn (M := model prog w) X g.ga
 have L2 := PySem.W.looks_findIn (M := model prog w) X g.na
 have f3 := PySem.F.attr_ValueError.ga.bind (.ref x)
 have hx0 : (expr && onTheHeap (Value.builtin "BaseException.__getattribute__")) = false := by cases expr <;> rfl
 have hx2 : (Value.builtin "BaseException.__getattribute__" == Value.builtin "object.__getattribute__") = false := by decide +kernel
 have hx1 : (onTheHeap (Value.ref C) && Value.builtin "BaseException.__getattribute__" == Value.builtin "object.__getattribute__") = false := by rw [hx2]; rfl
 unfold getAttrBy
 refine wpAny_holding (wpAny_bind (L0.at (wpAny_bind (L1.at ?_))))
 simp only [hx1]
 show wpAny _ _ (getAttrByItsOwn (.ref x) (.str name tk) (.ref C) (.builtin "BaseException.__getattribute__") fill expr) _ _ _
 unfold getAttrByItsOwn hookBefore
 refine wpAny_bind (L2.at (wpAny_bind (wpAny_attempt (wpAny_holding ?_))))
 unfold callGetattribute
 rw [hx0]
 show wpAny _ _ (boundAndCalled _ _ _) _ _ _
 unfold boundAndCalled
 rw [f3]
 refine wpAny_bind (wpAny_pure (wpAny_call (codeAny_call_builtin PySem.F.attr_ValueError.ga.plain PySem.F.entry_bexc_ga (we X I g (wpAny_mono h (fun fin s' z => ?_) fun _ _ z => z.elim)))))
 rcases fin with (_ | _ | _ | _) | _ <;> first | exact z | exact z.elim
theorem zx {expr : Bool} {Q : Value -> Shared -> Prop} {v : Value} (X : K.In s.heap) (I : PySem.W.InstAt s.heap x ox C od) (g : fA K C) (hf : PySem.W.findObj K C od name = some (.value v)) (hh : PySem.W.handedIn v = true) (h : Q v { s with toks := s.toks + 1 }) : wpAny (model prog w) A (getAttr (.ref x) name expr) Q E s := by
 obtain ⟨hp, gg, d, t, os⟩ := s
 unfold getAttr
 exact wpAny_bind (wpAny_mkText (wV (s := ⟨hp, gg, d, t + 1, os⟩) X I g (yN (s := ⟨hp, gg, d, t + 1, os⟩) X I hf (PySem.W.handed_on hh h))))
theorem zb {Q : Option Value -> Shared -> Prop} (X : K.In s.heap) (I : PySem.W.InstAt s.heap x ox C od) (g : fA K C) (hf : PySem.W.findObj K C od "__class__" = some (.bind (.builtin "getset_descriptor.__get__") (.builtin "object.__class__"))) (hm : PySem.W.mroIn K C (.type "object") = some true) (h : Q (some (.ref C)) { s with toks := s.toks + 1 }) : wpAny (model prog w) A (getAttr? (.ref x) "__class__") Q E s := by
 obtain ⟨hp, gg, d, t, os⟩ := s
 unfold getAttr? getAttrBy?
 refine wpAny_bind (wpAny_mkText (wpAny_bind (wpAny_attempt (wV (s := ⟨hp, gg, d, t + 1, os⟩) X I g (yM (s := ⟨hp, gg, d, t + 1, os⟩) X I hf (wpAny_call (PySem.W.class_get (s := ⟨hp, gg, d, t + 1, os⟩) (ox := ox) (od := od) X I hm ?_)))))))
 exact PySem.W.handed_on rfl (wpAny_pure h)
end
structure gU (K : PySem.W.Frag) (C : Addr) : Prop where
 pg : fA K C
 cl : (PySem.W.clsIn K C).isSome = true
 ha : PySem.W.findIn K (.ref C) "__class__" = some (some (.builtin "object.__class__"))
 hn : PySem.W.specialIn K (.builtin "object.__class__") "__get__" = some (some (.builtin "getset_descriptor.__get__"))
 HB : PySem.W.takesIn K (.builtin "object.__class__") = some true
 hm : PySem.W.mroIn K C (.type "object") = some true
theorem gU.look {K : PySem.W.Frag} {C : Addr} (t : gU K C) : ∃ c d cd sl, K.lookup C = some ⟨c, d, .cls cd, sl⟩ := by
 obtain ⟨cd, a⟩ := Option.isSome_iff_exists.mp t.cl
 unfold PySem.W.clsIn at a
 split at a
 ·exact ⟨_, _, _, _, by assumption⟩
 ·cases a
theorem qX {K : PySem.W.Frag} {x C : Addr} {ox : Obj} {od : Option Obj} (t : gU K C) : PySem.W.KitX K (.ref x) (.ref C) (fun h => PySem.W.InstAt h x ox C od) where
 ty := fun _ _ _ I => I.type
 it := fun _ _ X _ A' Q' E' s' k q => by
  obtain ⟨c, d, cd, sl, ho⟩ := t.look
  unfold isType loadHead; exact wpAny_bind (wpAny_loadPart (k _ _ (X _ _ ho)) (wpAny_pure q))
 ne := fun h tp dd its n sl X htp => by
  obtain ⟨c, d, cd, sl', ho⟩ := t.look
  refine Bool.eq_false_iff.mpr fun q => ?_
  rw [<- Value.ref.inj (beq_iff_eq.mp q), X _ _ ho] at htp
  cases htp
 ca := fun {prog w A E Q s} X I k => by
  obtain ⟨cd, hcd⟩ := Option.isSome_iff_exists.mp t.cl
  have hf : PySem.W.findObj K C od "__class__" = some (.bind (.builtin "getset_descriptor.__get__") (.builtin "object.__class__")) := by
   unfold PySem.W.findObj; rw [hcd, Option.bind_some, t.ha, Option.bind_some]; simp [t.hn, t.HB]
  exact zb X I t.pg hf t.hm k
theorem qC {P : Program} {w : World} {H : Hp} {h : Heap} {a C : Addr} {dx : Option Addr} {fs : List (Str × V)} (ok : cf P w H h) (r : Rd H a (DC.jv a C dx)) (xd : DC.d4 H dx fs) : ∃ ox od, PySem.W.InstAt h a ox C od := by
 obtain ⟨⟨oe, vs, e1, hc, hdx, hd, _⟩, _⟩ := (show aQ P w H h a (DC.jv a C dx) from r.ok ok)
 cases dx with
 | none => exact ⟨oe, none, e1, hc, by unfold PySem.W.notCls; rw [hd], by rw [hdx]; exact True.intro⟩
 | some d =>
  obtain ⟨⟨mA, ⟨od, es, ep, e, c⟩, rr⟩, _⟩ := (show aQ P w H h d (DC.mx d fs) from Rd.ok xd ok)
  exact ⟨oe, some od, e1, hc, by unfold PySem.W.notCls; rw [hd], by rw [hdx]; exact e⟩
section
variable {X : Cx}
end
end L2
namespace DC
open PySem PySem.Spec PyProof.Rows L2
section
variable {X : Cx} {o e : Expr} {es : List Expr} {te to : ED} {t : AD} {pos p p2 apos cpos : Pos}
theorem m8 {c : Value} {vc : V} (rc : ∀ u, RelV vc u -> u = c) : gS X (.builtin "isinstance") (fun xs H Q => ∃ x a C gs b, xs = [x, vc] /\ Dv X.K H x (.exc a C gs) /\ gU X.K C /\ PySem.W.kitOne X.K (.ref C) c = some b /\ Q (.bl b) H) := by
 intro pins s σ H xs us Q I r h
 obtain ⟨x, a, C, gs, b, rfl, dv, ty, e, q⟩ := h
 obtain ⟨u, w', rfl, r1, r2⟩ := vals2 r
 obtain rfl := rc w' r2
 cases dv with
 | exc h1 h2 h3 =>
  cases (show u = Value.ref a from r1)
  obtain ⟨ox, od, J⟩ := qC I.ao h1 h2
  exact PySem.W.kia_one (qX (ox := ox) (od := od) ty) I.iN J e (fun z => nomatch z) fun tk => ⟨.bl b, H, I.tok _, rfl, q⟩
def zF (K : PySem.W.Frag) (c : Value) (te : ED) : ED := fun δ Q => te δ fun d => ∃ a C gs b, d = .exc a C gs /\ gU K C /\ PySem.W.kitOne K (.ref C) c = some b /\ Q (.bl b)
theorem m_ {c : Value} {vc : V} (he : PD X e te) {ec : Expr} (hp : PE X (.Call (.Name "isinstance" p) [e, ec] [] pos) (GF (fun xs H Q => ∃ x a C gs b, xs = [x, vc] /\ Dv X.K H x (.exc a C gs) /\ gU X.K C /\ PySem.W.kitOne X.K (.ref C) c = some b /\ Q (.bl b) H) (nZ (oE X.K te) (nZ (tC vc) yz)))) :
  PD X (.Call (.Name "isinstance" p) [e, ec] [] pos) (zF X.K c te) :=
 ⟨hp.imp fun σ H Q ⟨δ, r, h⟩ => ⟨δ, r, he.mono _ _ _ (fun d ⟨a, C, gs, b, ed, ty, ek, k⟩ v H1 s1 dv => ⟨v, a, C, gs, b, rfl, ed ▸ dv, ty, ek, k _ H1 s1 (.bl _)⟩) h⟩, fun δ P P' g h => he.mono _ _ _ (fun d ⟨a, C, gs, b, ed, ty, ek, k⟩ => ⟨a, C, gs, b, ed, ty, ek, g _ k⟩) h⟩
theorem ze (K : PySem.W.Frag) (hK : X.K = K) {C : Addr} {x : Str} (he : PD X e te) (hg : Gl X "isinstance") (hm : X.mg "isinstance" = none) (hg2 : Gl X x) (hm2 : X.mg x = some (.ref C)) (hd : (x == ("__debug__" : Str)) = false := by decide)
  (hs : starEach [e, .Name x p2] X.env = (false, eval e X.env) :: starEach [.Name x p2] X.env := by rfl) : PD X (.Call (.Name "isinstance" p) [e, .Name x p2] [] pos) (zF K (.ref C) te) := by
 subst hK
 exact m_ (vc := .ref C) he (eC (m8 fun u z => z) hg hm boot_isinstance (b_ he.pe (b_ (lG (v := .ref C) hg2 hm2 rfl hd) gu) hs) (he := hs))
theorem zf (K : PySem.W.Frag) (hK : X.K = K) {T : String} {x : Str} (he : PD X e te) (hg : Gl X "isinstance") (hm : X.mg "isinstance" = none) (hg2 : Gl X x) (hm2 : X.mg x = none) (hv2 : bootBuiltins x = some (.type T)) (hn : x ≠ "__name__" := by decide) (hd : (x == ("__debug__" : Str)) = false := by decide)
  (hs : starEach [e, .Name x p2] X.env = (false, eval e X.env) :: starEach [.Name x p2] X.env := by rfl) : PD X (.Call (.Name "isinstance" p) [e, .Name x p2] [] pos) (zF K (.type T) te) := by
 subst hK
 exact m_ (vc := .ty T) he (eC (m8 fun u z => z) hg hm boot_isinstance (b_ he.pe (b_ (uJ (v := .ty T) hg2 hm2 hv2 rfl hn hd) gu) hs) (he := hs))
end
end DC
namespace L2
open PySem PySem.Spec PyProof.Rows
open Builtin Builtin.ObjectAttr
def dZ : List Value -> Bool
 | .ref _ :: r => dZ r
 | [.type a, .type b, .type c, .type d] => a == "ValueError" && b == "Exception" && c == "BaseException" && d == "object"
 | _ => false
theorem lF : ∀ {l : List Value}, dZ l = true -> ∃ rs : List Addr, l = rs.map Value.ref ++ [.type "ValueError", .type "Exception", .type "BaseException", .type "object"]
 | .ref a :: r, e => by
  obtain ⟨rs, h⟩ := lF (l := r) (by unfold dZ at e; exact e)
  exact ⟨a :: rs, by rw [h]; rfl⟩
 | [.type a, .type b, .type c, .type d], e => by
  unfold dZ at e
  simp only [Bool.and_eq_true, beq_iff_eq] at e
  obtain ⟨⟨⟨rfl, rfl⟩, rfl⟩, rfl⟩ := e
  exact ⟨[], rfl⟩
theorem sT (self : Value) {l : List Value} (e : dZ l = true) : refuseLoop self "__setattr__" l = pure () := by
 obtain ⟨rs, rfl⟩ := lF e
 induction rs with
 | nil => exact PySem.F.store_ValueError.passes self
 | cons a r ih => rw [List.map_cons, List.cons_append, refuseLoop_ref]; exact ih (by unfold dZ at e; exact e)
theorem yL {l : List Value} (e : dZ l = true) : l.contains (.type "object") = true := by
 obtain ⟨rs, rfl⟩ := lF e
 simp
structure ia (K : PySem.W.Frag) (C : Addr) : Prop where
 sa : PySem.W.findIn K (.ref C) "__setattr__" = some (some (.builtin "object.__setattr__"))
 ov : ((PySem.W.clsIn K C).any fun cd => dZ cd.mro) = true
 hd : PySem.W.hasDictIn K C = true
section
variable {prog : Program} {w : World} {A : Around} {E : Value -> Shared -> Prop} {s : Shared} {K : PySem.W.Frag} {x C : Addr} {R : Result -> Shared -> Prop} {name : Str} {v : Value} {o : Obj}
theorem uI {ox : Obj} {od : Option Obj} {tk : Tok} (X : K.In s.heap) (I : PySem.W.InstAt s.heap x ox C od) (g : ia K C) (na : PySem.W.findIn K (.ref C) name = some none)
  (h : wpAny (model prog w) A.in1 (storeInOwnDict (.ref x) (.ref C) (.str name tk) name v false) (fun fin s' => match fin with | .done f => R (.ok f) s' | .again c' => c'.quiet = true /\ codeAny (model prog w) A c' R s') (fun e s' => R (.error e) s') s) :
  codeAny (model prog w) A (.call (.builtin "object.__setattr__") ⟨[.ref x, .str name tk, v], []⟩) R s := by
 have SF := PySem.F.store_object
 obtain ⟨cd, hc, ho⟩ := PySem.W.any_some g.ov
 have ne : cd.mro.isEmpty = false := by
  obtain ⟨rs, z⟩ := lF ho
  rw [z]; cases rs <;> rfl
 have sub : PySem.W.Looks (model prog w) s.heap (isInstance (.ref x) (.type "object")) true := I.type.andThen (PySem.W.looks_mroIn X (by unfold PySem.W.mroIn; rw [hc, Option.bind_some, if_neg (by rw [ne]; decide), yL ho]))
 refine codeAny_call_builtin SF.slot.plain SF.entry (@PySem.W.check_slot (model prog w) _ _ s "object.__setattr__" "object" "__setattr__" (.ref x) [.str name tk, v] [] _ SF.kind SF.split sub (SF.args (.ref x) (.str name tk) v) ?_)
 have hm : PySem.W.Looks (model prog w) s.heap (mroOf (.ref C)) cd.mro := (PySem.W.looks_clsIn X hc).andThen .now
 rw [PySem.W.osa_eq, refuse_eq]
 refine wpAny_bind (wpAny_bind (I.type.here (wpAny_bind (hm.here ?_))))
 rw [sT _ ho]
 refine wpAny_pure (wpAny_bind (I.type.here (wpAny_bind ((PySem.W.looks_findIn X na).here (wpAny_bind (wpAny_pure ?_))))))
 exact h
theorem xM {vs : Array Value} {Q : Unit -> Shared -> Prop} (X : K.In s.heap) (g : ia K C) (na : PySem.W.findIn K (.ref C) name = some none) (he : s.heap.get? x = some o) (hc : o.cls = .ref C) (hn : o.dict = none) (hd : o.data = .fields vs)
  (h : ∀ h' tk, h'.get? x = some { o with dict := some s.heap.objs.size } -> h'.Ns1 s.heap.objs.size (fun y => if y = name then some v else none) -> (∀ b ob, b ≠ x -> s.heap.get? b = some ob -> h'.get? b = some ob) -> Q () { s with heap := h', toks := tk }) : wpAny (model prog w) A (setAttr (.ref x) name v) Q E s := by
 have J : PySem.W.InstAt s.heap x o C none := ⟨he, hc, by unfold PySem.W.notCls; rw [hd], by rw [hn]; exact True.intro⟩
 refine PySem.W.set_plain X J g.sa (uI (s := { s with toks := s.toks + 1 }) X J g na ?_)
 obtain ⟨cd, hcd, hd'⟩ := PySem.W.any_some g.hd
 obtain ⟨oc, odi, oda, osl⟩ := o
 cases hc; cases hn; cases hd
 refine wpAny_bind (wpAny_pure (wpAny_bind (wpAny_bind (wpAny_loadPart he (wpAny_bind (PySem.W.Looks.here (s := { s with toks := s.toks + 1 }) (PySem.W.looks_clsIn X hcd) ?_))))))
 rw [hd']
 show wpAny _ _ (do let d <- alloc { cls := .type "dict", data := .dict #[] }; update x (fun o => { o with dict := some d }); dictMade (.ref C) x d) _ _ _
 have xs : x ≠ s.heap.objs.size := Nat.ne_of_lt (Heap.lt_size he)
 have he1 := Heap.get?_push_of_some (h := s.heap) { cls := .type "dict", data := .dict #[] } he
 refine wpAny_bind (wpAny_alloc' (wpAny_bind (wpAny_update' he1 (wpAny_pure ?_))))
 generalize hG : (s.heap.push { cls := .type "dict", data := .dict #[] }).update x (fun o => { o with dict := some s.heap.objs.size }) = G
 have gx : G.get? x = some ⟨.ref C, some s.heap.objs.size, .fields vs, osl⟩ := by rw [<- hG]; exact Heap.get?_update_self _ he1 rfl
 have gd : G.get? s.heap.objs.size = some { cls := .type "dict", data := .dict #[] } := by rw [<- hG]; exact (Heap.get?_update_ne _ _ _ _ (Ne.symm xs)).trans (Heap.get?_push_at rfl rfl)
 have gk : ∀ b ob, b ≠ x -> s.heap.get? b = some ob -> G.get? b = some ob := fun b ob nb q => by rw [<- hG]; exact (Heap.get?_update_ne _ _ _ _ nb).trans (Heap.get?_push_of_some _ q)
 have gn : G.Ns s.heap.objs.size (fun _ => none) := ⟨_, #[], _, gd, rfl, fun e he => absurd he (by simp), fun _ => rfl⟩
 show wpAny _ _ (storeInDict s.heap.objs.size (.str name s.toks) name v) _ _ _
 unfold storeInDict newKeyGuard
 refine wpAny_bind (wpAny_pure (wpAny_bind (wpAny_nsSet1 (Heap.Ns1.of_empty gn) fun h' hn' hs => ?_)))
 obtain ⟨oD, esD, epD, hoD, hdD, hcD⟩ := hn'.count (Within.cons name v Within.nil)
 refine wpAny_bind (wpAny_lookBehind hoD (by rw [hdD]; exact pastItsLine_dict (Nat.le_trans hcD (by rw [List.length_cons, List.length_nil, sizeLine_eq]; omega))) ?_)
 refine wpAny_pure (h h' _ ((hs.2 x xs).trans gx) hn' fun b ob nb q => (hs.2 b (Nat.ne_of_lt (Heap.lt_size q))).trans (gk b ob nb q))
theorem xN {vs : Array Value} {dx : Addr} {ns : List Str} {mA : Str -> Option Value} {Q : Unit -> Shared -> Prop} (X : K.In s.heap) (g : ia K C) (na : PySem.W.findIn K (.ref C) name = some none) (he : s.heap.get? x = some o) (hc : o.cls = .ref C) (hdx : o.dict = some dx) (hd : o.data = .fields vs)
  (hns : s.heap.Ns1 dx mA) (hw : PySem.Within mA ns) (hsz : ns.length < 1000) (h : ∀ h' tk, h'.Ns1 dx (fun y => if y = name then some v else mA y) -> Heap.SameBut dx s.heap h' -> Q () { s with heap := h', toks := tk }) : wpAny (model prog w) A (setAttr (.ref x) name v) Q E s := by
 obtain ⟨od, ho, _⟩ := j5 hns
 have J : PySem.W.InstAt s.heap x o C (some od) := ⟨he, hc, by unfold PySem.W.notCls; rw [hd], by rw [hdx]; exact ho⟩
 refine PySem.W.set_plain X J g.sa (uI (s := { s with toks := s.toks + 1 }) X J g na ?_)
 obtain ⟨cd, hcd, hd'⟩ := PySem.W.any_some g.hd
 obtain ⟨oc, odi, oda, osl⟩ := o
 cases hc; cases hdx; cases hd
 refine wpAny_bind (wpAny_pure (wpAny_bind (wpAny_bind (wpAny_loadPart he (wpAny_bind (PySem.W.Looks.here (s := { s with toks := s.toks + 1 }) (PySem.W.looks_clsIn X hcd) ?_))))))
 rw [hd']
 refine wpAny_pure (a := some dx) (wpAny_bind (wpAny_pure (wpAny_bind ?_)))
 refine wpAny_nsSet1 (s := { s with toks := s.toks + 1 }) hns fun h' hn' hs => ?_
 obtain ⟨oD, esD, epD, hoD, hdD, hcD⟩ := hn'.count (Within.cons name v hw)
 refine wpAny_bind (wpAny_lookBehind hoD (by rw [hdD]; exact pastItsLine_dict (Nat.le_trans hcD (by rw [List.length_cons, sizeLine_eq]; omega))) ?_)
 exact wpAny_pure (h h' _ hn' hs)
theorem zp {vs : Array Value} {dx : Addr} {mA : Str -> Option Value} {b : Bool} {Q : Value -> Shared -> Prop} (X : K.In s.heap) (hg : fA K C) (hh : PySem.W.hasDictIn K C = true) (na : PySem.W.findIn K (.ref C) name = some none) (he : s.heap.get? x = some o) (hc : o.cls = .ref C) (hdx : o.dict = some dx) (hd : o.data = .fields vs)
  (hns : s.heap.Ns1 dx mA) (hv : mA name = some v) (hv' : PySem.W.handedIn v = true) (h : Q v { s with toks := s.toks + 1 }) : wpAny (model prog w) A (getAttr (.ref x) name b) Q E s := by
 obtain ⟨od, ho, hl⟩ := j5 hns
 have J : PySem.W.InstAt s.heap x o C (some od) := ⟨he, hc, by unfold PySem.W.notCls; rw [hd], by rw [hdx]; exact ho⟩
 exact zx X J hg (PySem.W.findObj_own hh na rfl (by rw [hl, hv])) hv' h
end
open DC (jv mx)
def dY (p : Array Value -> Prop) (a C : Addr) (dx : Option Addr) : HO := .ext fun h => ∃ oe vs, h.get? a = some oe /\ oe.cls = .ref C /\ oe.dict = dx /\ oe.data = .fields vs /\ p vs
def Dh : Array Value -> Prop := fun vs => vs[2]? = some .none /\ 1 < vs.size /\ vs[1]? = some .none
section
variable {X : Cx} {pins : List (Addr × Obj)} {σ : St} {H : Hp} {s : Shared} {a C d : Addr} {f : Str} {v : V} {u : Value} {Q : Unit -> Shared -> Prop} {E : Value -> Shared -> Prop} {A : Around} {fs : List (Str × V)} {p : Array Value -> Prop}
theorem aQ.exc {P : Program} {w : World} {H' : Hp} {h : Heap} {dx : Option Addr} {oe : Obj} {vs : Array Value} (he : h.get? a = some oe) (hc : oe.cls = .ref C) (hdx : oe.dict = dx) (hd : oe.data = .fields vs) (hy : p vs) : aQ P w H' h a (dY p a C dx) := by
 unfold dY
 exact ⟨⟨oe, vs, he, hc, hdx, hd, hy⟩, ⟨oe, he⟩, fun g1 g2 ⟨oe', vs', e1, rr⟩ kk => ⟨oe', vs', kk _ e1, rr⟩⟩
theorem aQ.Ie {P : Program} {w : World} {H' : Hp} {h : Heap} {mA : Str -> Option Value} (hn : h.Ns1 d mA) (hr : ∀ f, d0 (fs.lookup f) (mA f)) (hw : PySem.Within mA (fs.map (·.1))) : aQ P w H' h d (mx d fs) := by
 unfold mx
 refine ⟨⟨mA, hn, hr, hw⟩, let ⟨o, _, _, e, _⟩ := hn; ⟨o, e⟩, fun g1 g2 ⟨mB, hB, r1, r2⟩ kk => ⟨mB, ?_, r1, r2⟩⟩
 exact hB.at fun o q => kk o q
theorem GZ (I : Inv X pins σ H s) (e : H a = some (dY p a C none)) (g : ia X.K C) (na : PySem.W.findIn X.K (.ref C) f = some none) (ru : RelV v u)
  (h : ∀ d s', H d = none -> d ≠ a -> Inv X pins σ (upd (upd H a (dY p a C (some d))) d (mx d [(f, v)])) s' -> Q () s') : wpAny (model X.prog X.w) A (setAttr (.ref a) f u) Q E s := by
 obtain ⟨⟨oe, vs, he, hc, hdx, hd, hy⟩, _⟩ := (show aQ X.prog X.w H s.heap a (dY p a C none) from I.ao a _ e)
 refine xM I.iN g na he hc hdx hd fun h' tk gx gn gk => ?_
 have hne : s.heap.objs.size ≠ a := Nat.ne_of_gt (Heap.lt_size he)
 have hn : H s.heap.objs.size = none := I.ao.fresh (Nat.le_refl _)
 have I1 : Inv X pins σ (upd H a (dY p a C (some s.heap.objs.size))) { s with heap := h', toks := tk } :=
  I.write (x := a) (e := a) (by rw [e]; exact True.intro) (.inl rfl) (fun b ob nb q => gk b ob nb q) ⟨_, gx⟩ (aQ.exc gx hc rfl hd hy)
 refine h s.heap.objs.size _ hn hne (I1.q_ (by rw [aH hne]; exact hn) ?_ ?_ ?_ ?_ (aQ.Ie gn (fun y => ?_) fun y hy' => ?_))
 ·cases q : X.s₀.heap.get? s.heap.objs.size with
  | none => rfl
  | some o => exact absurd (Heap.lt_size q) (Nat.not_lt.mpr I.sz)
 ·exact Nat.ne_of_gt I.lt
 ·intro x c q z
  obtain ⟨v', k⟩ := I.cell x c q
  exact absurd k.lt (by rw [z]; exact Nat.lt_irrefl _)
 ·intro p hp z
  exact absurd (Heap.lt_size (I.pin p hp).1) (by rw [z]; exact Nat.lt_irrefl _)
 ·show d0 (List.lookup y [(f, v)]) (if y = f then some u else none)
  by_cases q : y = f
  ·subst q; rw [if_pos rfl]; simp [d0]; exact ru
  ·rw [if_neg q]
   rw [List.lookup_cons, beq_eq_false_iff_ne.mpr q]
   exact True.intro
 ·by_cases q : y = f
  ·subst q; simp
  ·exact absurd (show (if y = f then some u else none) = none by rw [if_neg q]) hy'
theorem Ga (I : Inv X pins σ H s) (e : H a = some (dY p a C (some d))) (ed : H d = some (mx d fs)) (g : ia X.K C) (na : PySem.W.findIn X.K (.ref C) f = some none) (hl : fs.length < 1000) (ru : RelV v u)
  (h : ∀ s', Inv X pins σ (upd H d (mx d (eR f v fs))) s' -> Q () s') : wpAny (model X.prog X.w) A (setAttr (.ref a) f u) Q E s := by
 obtain ⟨⟨oe, vs, he, hc, hdx, hd, hy⟩, _⟩ := (show aQ X.prog X.w H s.heap a (dY p a C (some d)) from I.ao a _ e)
 obtain ⟨⟨mA, hn, hr, hw⟩, _⟩ := (show aQ X.prog X.w H s.heap d (mx d fs) from I.ao d _ ed)
 refine xN I.iN g na he hc hdx hd hn hw (by rw [List.length_map]; exact hl) fun h' tk gn sb => h _ ?_
 refine I.write (x := d) (e := d) (by rw [ed]; exact True.intro) (.inl rfl) (fun b ob nb q => (sb.2 b nb).trans q) (let ⟨o, _, _, e', _⟩ := gn; ⟨o, e'⟩) (aQ.Ie gn (fun y => ?_) fun y hy' => ?_)
 ·show d0 ((eR f v fs).lookup y) (if y = f then some u else mA y)
  rw [gp]
  by_cases q : y = f
  ·rw [if_pos q, if_pos q]; exact ru
  ·rw [if_neg q, if_neg q]; exact hr y
 ·by_cases q : y = f
  ·rw [q]; exact (fX f v fs).1
  ·refine (fX f v fs).2 y (hw y fun z => hy' ?_)
   show (if y = f then some u else mA y) = none
   rw [if_neg q]; exact z
end
open DC (jv mx)
abbrev Ek : List Value := [.type "ValueError", .type "Exception", .type "BaseException", .type "object"]
def gh (K : PySem.W.Frag) (C f : Addr) : Bool := match K.lookup C with
 | some ⟨.type "type", _, .cls cd, sl⟩ => (match cd.mro, sl.toList with
  | .ref D :: bm, [_, _, _, _, some (.builtin n), _] => (D == C) && ((n == "ValueError.__new__") && ((!cd.hasDel) && (PySem.W.tailIn K Ek bm && (PySem.W.nsOkIn K cd.ns && (PySem.W.nsIn K cd.ns "__init__" == some (some (.ref f)))))))
  | _, _ => false)
 | _ => false
theorem yG {K : PySem.W.Frag} {h : Heap} {N : Addr} {m : Str -> Option Value} {n : Str} {v : Value} (X : K.In h) (G : h.Ns N m) (e : PySem.W.nsIn K N n = some (some v)) : m n = some v := by
 obtain ⟨o, es, ep, ho, hd, _, hf⟩ := G
 unfold PySem.W.nsIn at e
 split at e
 ·rename_i q
  have z := X _ _ q
  rw [ho] at z
  cases z
  cases hd
  split at e
  ·rename_i en he
   cases e
   rw [<- hf]; unfold nsFind findBy
   rw [<- Array.find?_toList, he]; rfl
  ·split at e <;> cases e
 ·cases e
theorem u0 {K : PySem.W.Frag} {h : Heap} {C f : Addr} (X : K.In h) (q : gh K C f = true) :
  ∃ bm N nm qn bs hdct sn sub ab col dd k0 k1 k2 k3 k5 mN, h.get? C = some (excClassObj nm qn C N bs bm hdct sn sub ab col dd k0 k1 k2 k3 k5 "ValueError.__new__") /\ h.Ns N mN /\ mN "__init__" = some (.ref f) /\ OwnTail h Ek bm := by
 unfold gh at q
 split at q
 ·rename_i dd cd sl ho
  split at q
  ·rename_i C2 bm k0 k1 k2 k3 n k5 hm hs
   simp only [Bool.and_eq_true, beq_iff_eq, Bool.not_eq_true'] at q
   obtain ⟨e1, e2, hdel, ht, ao, hni⟩ := q
   subst e1 e2
   obtain ⟨nm, bs, mro, ns, qn, hd, sn, sub, ab, col, del⟩ := cd
   have hm' : mro = .ref C2 :: bm := hm
   have hdel' : del = false := hdel
   subst hm' hdel'
   obtain ⟨l⟩ := sl
   have hl : l = [k0, k1, k2, k3, some (.builtin "ValueError.__new__"), k5] := hs
   subst hl
   have G : h.Ns ns (h.nsMap ns) := .of_isNs (PySem.W.isNs_of_in X ao)
   exact ⟨bm, ns, nm, qn, bs, hd, sn, sub, ab, col, dd, k0, k1, k2, k3, k5, _, X _ _ ho, G, yG X G hni, PySem.W.tail_of_in X ht⟩
  ·cases q
 ·cases q
section
variable {prog : Program} {w : World} {A : Around} {E : Value -> Shared -> Prop} {h : Heap} {g : Array GenState} {d : Drawn} {t : Nat} {os : OsState}
variable {nm q : Str} {C N : Addr} {bs bm : List Value} {hdct : Bool} {sn : List Str} {sub : List Value} {ab : Bool} {col : Option Bool} {dd : Option Addr} {k0 k1 k2 k3 k5 : Option Value}
theorem md {mN : Str -> Option Value} {rest : List Value} {fI : Addr} {oI : Obj} {Q : PySem.Fin -> Shared -> Prop} (T : OwnTail h Ek bm)
  (hC : h.get? C = some (excClassObj nm q C N bs bm hdct sn sub ab col dd k0 k1 k2 k3 k5 "ValueError.__new__")) (hn : h.Ns N mN) (hi : mN "__init__" = some (.ref fI)) (hfI : h.get? fI = some oI) (hfc : oI.cls = .type "function") (hrest : rest.length <= sizeLine)
  (hq : ∀ h' e, Heap.MadeExcOf h h' e (.ref C) rest -> wpAny (model prog w) A (call (.ref fI) (.ref e :: rest)) (fun r s' => r = .none /\ Q (.done (.ret (.ref e))) s') E ⟨h', g, d, t, os⟩) :
  wpAny (model prog w) A (Builtin.«type.__call__» ⟨.ref C :: rest, []⟩) Q E ⟨h, g, d, t, os⟩ := by
 have F := PySem.F.excBase_ValueError
 repeat (first | with_reducible refine wpAny_loadPart_at hC ?_ | with_reducible refine wpAny_madeBy_exc hC ?_ | wp_step)
 refine codeAny_call_builtin_code (Code.quiet_builtin _ F.quiet) (wpAny_check_new_subT F T hC (codeAny_exc_new_subT F T hC ?_ hrest))
 show wpAny _ _ _ _ _ _
 generalize hO : ({ cls := .ref C, data := .fields #[.ref h.objs.size, .none, .none, .none, .bool false, .none] } : Obj) = O
 generalize hT : ({ cls := .type "tuple", data := .seq rest.toArray } : Obj) = TT
 have kk : ∀ b o, h.get? b = some o -> ((h.push TT).push O).get? b = some o := fun b o e => Heap.get?_push_of_some _ (Heap.get?_push_of_some _ e)
 have C1 := kk _ _ hC
 have f1 := kk _ _ hfI
 have n1 : ((h.push TT).push O).Ns N mN := hn.keeps kk
 have T1 : OwnTail ((h.push TT).push O) Ek bm := T.keeps kk
 have g1 : ((h.push TT).push O).get? (h.objs.size + 1) = some O := by
  have z := Heap.get?_push_size (h.push TT) (o := O) (by rw [<- hO]; rfl)
  rwa [Heap.size_push] at z
 have oc : O.cls = .ref C := by rw [<- hO]
 have self : (Value.ref C :: bm).contains (.ref C) = true := by simp
 unfold isInstance
 repeat (first | (with_reducible refine wpAny_loadPart_at g1 ?_; rw [oc]) | (with_reducible refine wpAny_isSubtype_exc C1 ?_; rw [self]) | wp_step)
 show wpAny _ _ (typeLookup (.ref C) _) _ _ _
 refine wpAny_typeLookup_tail C1 n1 T1 F.mroIs F.init.lookup ?_
 rw [hi]
 refine wpAny_holding (wpAny_bind ?_)
 unfold bindSpecial
 refine wpAny_bind (wpAny_typeOf (T := "function") ⟨_, f1, hfc⟩ ?_)
 rw [if_pos (by decide)]
 refine wpAny_pure (wpAny_bind (wpAny_mono (hq _ (h.objs.size + 1) ⟨kk, Heap.get?_none_of_le (Nat.le_succ _), h.objs.size, by rw [g1, <- hO], Heap.get?_none_of_le (Nat.le_refl _), by rw [<- hT]; exact Heap.get?_push_of_some _ (Heap.get?_push_at rfl rfl)⟩) (fun r s' hr => ?_) fun _ _ x => x))
 obtain ⟨rfl, hQ⟩ := hr
 wp_walk
 exact hQ
theorem xK {mN : Str -> Option Value} {rest : List Value} {fI : Addr} {oI : Obj} {Q : Value -> Shared -> Prop} (T : OwnTail h Ek bm)
  (hC : h.get? C = some (excClassObj nm q C N bs bm hdct sn sub ab col dd k0 k1 k2 k3 k5 "ValueError.__new__")) (hn : h.Ns N mN) (hi : mN "__init__" = some (.ref fI)) (hfI : h.get? fI = some oI) (hfc : oI.cls = .type "function") (hrest : rest.length <= sizeLine)
  (hq : ∀ h' e, Heap.MadeExcOf h h' e (.ref C) rest -> wpAny (model prog w) (A.under (.builtin "type.__call__" ⟨.ref C :: rest, []⟩)) (call (.ref fI) (.ref e :: rest)) (fun r s' => r = .none /\ Q (.ref e) s') E ⟨h', g, d, t, os⟩) :
  wpAny (model prog w) A (call (.ref C) rest) Q E ⟨h, g, d, t, os⟩ := by
 have f1 := tc_lookup; have f2 := tc_bind (.ref C)
 have hT : (⟨h, g, d, t, os⟩ : Shared).TypeIs (.ref C) "type" := ⟨_, hC, rfl⟩
 refine wpAny_call (codeAny_of_tree ?_); show wpAny _ _ (callAny (.ref C) _) _ _ _
 repeat (any_goals (first | assumption | with_reducible refine wpAny_loadPart_at hC ?_ | wp_step))
 exact ⟨rfl, codeAny_call_builtin_at (Code.quiet_builtin _ (by decide +kernel)) entry_typeCall (wpAny_check_type_call_sub hC (md T hC hn hi hfI hfc hrest fun h' e hm => hq h' e hm))⟩
end
end L2
namespace DC
open PySem PySem.Spec PyProof.Rows L2
def tX (K : PySem.W.Frag) (j : Nat) (f : Str) : TS := fun D σ H => ∃ (pr : Array Value -> Prop) (a C : Addr) (v : V), σ[0]? = some (some (.ref a)) /\ σ[j]? = some (some v) /\ ia K C /\ PySem.W.findIn K (.ref C) f = some none /\
 ((H a = some (dY pr a C none) /\ ∀ d, H d = none -> d ≠ a -> D.nx σ (upd (upd H a (dY pr a C (some d))) d (mx d [(f, v)]))) \/ ∃ d fs, H a = some (dY pr a C (some d)) /\ H d = some (mx d fs) /\ fs.length < 1000 /\ D.nx σ (upd H d (mx d (eR f v fs))))
section
variable {X : Cx} {x p f : Str} {j : Nat} {pa pv pos pos' : Pos}
theorem Fs (h0 : X.N[0]? = some x) (hv0 : wO X.env.scope x) (hj : X.N[j]? = some p) (hvj : wO X.env.scope p) (hs : swapsWith (.Name p pv) (some (.Attribute (.Name x pa) f pos')) pos.line X.env = pure false := by rfl) (hd : (x == ("__debug__" : Str)) = false := by decide) (hd' : (p == ("__debug__" : Str)) = false := by decide)
  (hcd : (x == ("__classdict__" : Str)) = false := by decide) (hcd' : (p == ("__classdict__" : Str)) = false := by decide) : PS X (.Assign [.Attribute (.Name x pa) f pos'] (.Name p pv) pos) (tX X.K j f) := by
 intro pins s σ H D I ⟨pr, a, C, v, s0, sj, g, na, h⟩
 refine plainObj_wpAny_Assign_Attribute (bE (iu hj hvj hd' hcd' pins s σ H (fun y H1 => y = v /\ H1 = H) I ⟨v, sj, rfl, rfl⟩) fun u s1 ⟨y, H1, I1, ru, e1, e2⟩ => ?_) hs
 subst e1 e2
 refine bE (iu h0 hv0 hd hcd pins s1 σ H1 (fun y H2 => y = .ref a /\ H2 = H1) I1 ⟨.ref a, s0, rfl, rfl⟩) fun ov s2 ⟨z, H2, I2, rz, e1, e2⟩ => ?_
 subst e1 e2
 cases (show ov = Value.ref a from rz)
 rcases h with ⟨e, q⟩ | ⟨d, fs, e, ed, hl, q⟩
 ·exact GZ I2 e g na ru fun d s3 hdn hda I3 => ⟨σ, _, I3, q d hdn hda⟩
 ·exact Ga I2 e ed g na hl ru fun s3 I3 => ⟨σ, _, I3, q⟩
end
def Hg (C : Addr) (fl : List Str) : Sp := fun vs H Q _ => ∃ (pr : Array Value -> Prop) (a : Addr) (vs' : List V), vs = .ref a :: vs' /\ vs'.length = fl.length /\ H a = some (dY pr a C none) /\ ∀ d, H d = none -> d ≠ a -> Q .aW (upd (upd H a (dY pr a C (some d))) d (mx d (fl.zip vs')))
section
variable {P : Program} {w : World} {K : PySem.W.Frag} {mg : Str -> Option Value} {base : Heap}
theorem Iv {x qual : Str} {st : Stmt} {f C : Addr} {fd : FuncData} {N ps fl : List Str} {k : Nat} {t : TS} (F : mW K x qual st f fd) (S : aF N ps (aC st)) (len : fl.length + 1 = ps.length)
  (hb : ∀ (cdv : Value) (A : Around) (outer : List Env) (s : Shared) (H : Hp) (E : XK), hX (Bx P w K mg base N qual st f cdv A outer s H E) (af st) t)
  (hr : ∀ pr a vs' H (Q : VK), vs'.length = fl.length -> H a = some (dY pr a C none) -> (∀ d, H d = none -> d ≠ a -> Q .aW (upd (upd H a (dY pr a C (some d))) d (mx d (fl.zip vs')))) -> t { nx := fun _ H' => Q .aW H', rt := Q } (L2.start N (.ref a :: vs')) H) : bX P w K mg base lJ (k + 1) f fd ps (Hg C fl) := by
 refine F.ok S (fun vs H Q E ⟨pr, a, vs', e, hl, _⟩ => by rw [e, List.length_cons, hl]; exact len) (fun cdv A outer s H vs Q E hroom ⟨pr, a, vs', e, hl, ha, h⟩ => ?_)
 subst e
 exact ⟨t, hb cdv A outer s H E, hr pr a vs' H Q hl ha h⟩
end
structure Ec (P : Program) (w : World) (K : PySem.W.Frag) (mg : Str -> Option Value) (base : Heap) (j : Nat) (x : Str) (C : Addr) (fl : List Str) : Prop where
 ex : ∃ f fd ps oI, gh K C f = true /\ K.lookup f = some oI /\ oI.cls = .type "function" /\ bX P w K mg base lJ j f fd ps (Hg C fl) /\ mg x = some (.ref C) /\ PySem.W.keepIn K (.ref C) = true /\ Binds K fd ps []
 IQ : fl.length < 100
section
variable {X : Cx} {e : Expr} {es : List Expr} {t : AD} {pos p : Pos} {x : Str} {j k : Nat} {C : Addr} {fl : List Str}
theorem BF {pr : Array Value -> Prop} {pins : List (Addr × Obj)} {σ : L2.St} {H : Hp} {s : Shared} {Q : VK} {us : List Value} {vs : List V} (c : Ec X.prog X.w X.K X.mg X.base j x C fl) (hex : X.ex = []) (hr : az (j + 1) X.A) (I : Inv X pins σ H s) (r : Vals vs us) (hl : vs.length = fl.length) (h0p : ∀ t : Addr, pr #[.ref t, .none, .none, .none, .bool false, .none])
  (h : ∀ a d H', aJ H H' -> H a = none -> X.s₀.heap.get? a = none -> (∀ p ∈ X.pn, p.1 ≠ a) -> d ≠ a -> H' a = some (dY pr a C (some d)) -> H' d = some (mx d (fl.zip vs)) -> Q (.ref a) H') : wpAny (model X.prog X.w) X.A (call (.ref C) us) (EP X pins σ Q) X.xe s := by
 obtain ⟨f, fd, ps, oI, q, lk, oc, F, _, _, hb⟩ := c.ex
 obtain ⟨bm, N, nm, qn, bs, hdct, sn, sub, ab, col, dd, k0, k1, k2, k3, k5, mN, hC, hN, hni, T⟩ := u0 I.iN q
 have IQ := c.IQ
 have hlu : us.length <= sizeLine := by rw [<- r.length, hl, sizeLine_eq]; omega
 obtain ⟨hh, gg, dr, tk, os⟩ := s
 refine xK T hC hN hni (I.iN _ _ lk) oc hlu fun h' ea me => ?_
 obtain ⟨tt, ho, _, _⟩ := me.there
 have I1 := I.kept (t' := tk) (h' := h') me.keeps
 have hn : H ea = none := by
  cases q2 : H ea with
  | none => rfl
  | some u =>
   obtain ⟨o, z⟩ := (I.ao ea u q2).there
   rw [me.new] at z
   cases z
 have notin : ∀ b o, hh.get? b = some o -> b ≠ ea := fun b o z y => by rw [y, me.new] at z; cases z
 have h0 : X.s₀.heap.get? ea = none := by
  cases q2 : X.s₀.heap.get? ea with
  | none => rfl
  | some o =>
   obtain ⟨o', z⟩ := I.base.there ea o q2 (by rw [hex]; simp)
   exact absurd rfl (notin ea o' z)
 have hlo : ea ≠ X.env.locals := fun z => by
  obtain ⟨m, ⟨o, _, _, go, _⟩, _⟩ := I.loc
  exact notin _ o go z.symm
 have hce : ∀ x c, X.env.cells.lookup x = some c -> c ≠ ea := fun x c e => by
  obtain ⟨v, o, go, _⟩ := I.cell x c e
  exact notin c o go
 have I2 := I1.q_ hn h0 hlo hce (fun p hp => notin _ _ (I.pin p hp).1) (aQ.exc (p := pr) (C := C) (dx := none) ho rfl rfl rfl (h0p _))
 have r2 : Vals (V.ref ea :: vs) (Value.ref ea :: us) := .cons rfl r
 let Q' : VK := fun v H' => v = .aW /\ ∃ d, upd H ea (dY pr ea C none) d = none /\ d ≠ ea /\ H' = upd (upd (upd H ea (dY pr ea C none)) ea (dY pr ea C (some d))) d (mx d (fl.zip vs))
 have hq : Hg C fl (.ref ea :: vs) (upd H ea (dY pr ea C none)) Q' E0 := ⟨pr, ea, vs, rfl, hl, aI, fun d h1 h2 => ⟨rfl, d, h1, h2, rfl⟩⟩
 have hlen : (Value.ref ea :: us).length = ps.length := by rw [<- r2.length]; exact F.len _ _ _ _ hq
 have hb' := hb ⟨h', gg, dr, tk, os⟩ (.ref ea :: us) I2.iN (by rw [List.append_nil]; exact hlen)
 rw [List.append_nil] at hb'
 refine wpAny_call (codeAny_mono (F.run _ X.stack _ _ ⟨.ref ea :: us, []⟩ (.ref ea :: us) _ Q' E0 (hr.make C us []) (I2.zm.make C us []) hb' r2 hq) fun r s' z => ?_)
 cases r with
 | error e => exact False.elim z
 | ok fl' =>
  cases fl' with
  | ret u =>
   obtain ⟨v, H', I3, rv, ev, d, h1, h2, eH⟩ := I2.after z
   subst ev
   have hd : H d = none := by rw [aH h2] at h1; exact h1
   refine ⟨rv, ⟨.ref ea, H', I3, rfl, h ea d H' (fun b o q => ?_) hn h0 (fun p hp => notin _ _ (I.pin p (List.mem_append_left _ hp)).1) h2 ?_ ?_⟩⟩
   ·rw [eH, aH (aS q hd), aH (aS q hn), aH (aS q hn)]
    exact q
   ·rw [eH, aH (Ne.symm h2), aI]
   ·rw [eH, aI]
  | next => exact False.elim z
  | brk => exact False.elim z
  | cont => exact False.elim z
theorem tm {K : PySem.W.Frag} {H : Hp} : ∀ {fl : List Str} {vs : List V} {ds : List D}, au K H vs ds -> dQ K H (fl.zip vs) (fl.zip ds)
 | [], _, _, _ => .nil
 | _ :: _, _, _, .nil => .nil
 | _ :: _, _, _, .cons h r => .cons h (tm r)
def GW (K : PySem.W.Frag) (ta : ED) (f : Str) : ED := fun δ Q => ta δ fun d => ∃ a C gs r, d = .exc a C gs /\ fA K C /\ PySem.W.hasDictIn K C = true /\ PySem.W.findIn K (.ref C) f = some none /\ gs.lookup f = some r /\ Q r
theorem wq (K : PySem.W.Frag) (hK : X.K = K) {f : Str} {ta : ED} (he : PD X e ta) (hb : attributeBase e f X.env (eval e X.env) = eval e X.env) : PD X (.Attribute e f pos) (GW K ta f) := by
 subst hK
 refine ⟨fun pins s σ H Q I ⟨δ, r, h⟩ => ?_, fun δ P P' g h => he.mono _ _ _ (fun d ⟨a, C, gs, r, ed, k1, k2, k3, k4, k⟩ => ⟨a, C, gs, r, ed, k1, k2, k3, k4, g _ k⟩) h⟩
 refine tP hb (bE (he.pe pins s σ H (fun v H1 => ∃ a C dx fs y, v = .ref a /\ Rd H1 a (jv a C dx) /\ d4 H1 dx fs /\ fA X.K C /\ PySem.W.hasDictIn X.K C = true /\ PySem.W.findIn X.K (.ref C) f = some none /\ fs.lookup f = some y /\ Q y H1) I ⟨δ, r, he.mono _ _ _ (fun d k v H1 s1 dv => ?_) h⟩) fun u s1 k => ?_)
 ·obtain ⟨a, C, gs, r, ed, k1, k2, k3, k4, k⟩ := k
  subst ed
  cases dv with
  | exc g1 g2 g3 =>
   obtain ⟨y, ly, dy⟩ := g3.look k4
   exact ⟨_, _, _, _, y, rfl, g1, g2, k1, k2, k3, ly, k _ H1 s1 dy⟩
 ·obtain ⟨v, H1, I1, rv, a, C, dx, fs, y, ev, g1, g2, k1, k2, k3, ly, q⟩ := k
  subst ev
  cases (show u = Value.ref a from rv)
  obtain ⟨⟨oe, vs, e1, hc, hdx, hd, _⟩, _⟩ := (show aQ X.prog X.w H1 s1.heap a (jv a C dx) from g1.ok I1.ao)
  cases dx with
  | none =>
   rw [show fs = [] from g2] at ly
   cases ly
  | some d =>
   obtain ⟨⟨mA, hn, hr, hw⟩, _⟩ := (show aQ X.prog X.w H1 s1.heap d (mx d fs) from Rd.ok g2 I1.ao)
   obtain ⟨u2, hu, ru⟩ := d0.some_of (v := y) (o := mA f) (by rw [<- ly]; exact hr f)
   exact zp I1.iN k1 k2 k3 e1 hc hdx hd hn hu (nE ru) ⟨y, H1, I1.tok _, ru, q⟩
end
section
variable {X : Cx} {c e : Expr} {es : List Expr} {body : List Stmt} {uc : TD} {te : ED} {tb : eV} {g : zM} {pos tp : Pos} {k : Nat}
end
section
variable {X : Cx} {a b : Expr} {rest : List Expr} {pos : Pos} {ta tb : TE}
end
section
variable {X : Cx} {a b : Expr} {rest : List Expr} {pos : Pos} {ta tb : ED}
end
end DC
namespace L2
open PySem PySem.Spec PyProof.Rows
section
variable {X : Cx} {pins : List (Addr × Obj)} {σ : St} {H : Hp} {s : Shared} {a C d : Addr} {t : Heap -> Prop}
theorem aQ.drop {P : Program} {w : World} {h : Heap} {b : Addr} {u : HO} (e : H a = some u) (nt : ∀ ks, u ≠ .tup ks) (no : ∀ c, u ≠ .own c) : ∀ {o : HO}, aQ P w H h b o -> aQ P w (del H a) h b o := by
 intro o
 induction o with
 | dT kvs =>
  intro x
  obtain ⟨h1, h2, xs, hp, r⟩ := x
  refine ⟨h1, h2, xs, Paired.imp' (fun p q ⟨z1, z2, z3⟩ => ⟨z1, ?_, z3⟩) hp, r⟩
  rw [cK (fun z => by rw [z, e] at z2; exact nt _ (Option.some.inj z2))]
  exact z2
 | ins C dx fs =>
  intro x
  obtain ⟨h1, r⟩ := x
  refine ⟨?_, r⟩
  rw [cK (fun z => by rw [z, e] at h1; exact no _ (Option.some.inj h1))]
  exact h1
 | gQ o u ih => intro x; exact ⟨x.1, ih x.2⟩
 | _ => intro x; exact x
theorem jK {b : Addr} (h : H b = none) : del H a b = none := by
 unfold del
 split
 ·rfl
 ·exact h
theorem Inv.drop (I : Inv X pins σ H s) {f : Heap -> Prop} (e : H a = some (.ext f)) : Inv X pins σ (del H a) s := by
 refine ⟨I.ok, I.os, I.bare, ⟨I.base.keep, I.base.slot, fun b o q n hx => jK (I.base.free b o q n hx), I.base.there, fun b xs q => ?_, fun b o u q => ?_, fun b ps q => ?_⟩, I.loc, I.cell, jK I.free, fun x c q => jK (I.b7 x c q), fun p hp => ?_, fun b o q => ?_, I.len⟩
 ·have z := I.base.fN b xs q
  rw [cK (fun w => by rw [w, e] at z; cases z)]
  exact z
 ·have z := I.base.dH b o u q
  rw [cK (fun w => by rw [w, e] at z; cases z)]
  exact z
 ·obtain ⟨more, z⟩ := I.base.hW b ps q
  exact ⟨more, by rw [cK (fun w => by rw [w, e] at z; cases z)]; exact z⟩
 ·obtain ⟨p1, p2, p3, p4, p5⟩ := I.pin p hp
  exact ⟨p1, jK p2, p3, p4, p5⟩
 ·by_cases hb : b = a
  ·rw [hb, lV] at q
   cases q
  ·rw [cK hb] at q
   exact (I.ao b o q).drop e (fun _ z => by cases z) fun _ z => by cases z
end
section
variable {prog : Program} {w : World} {A : Around} {E : Value -> Shared -> Prop} {s : Shared} {K : PySem.W.Frag} {env : Env}
theorem sR {x : Sem Value} {Q : Flow -> Shared -> Prop} (hh : A.handled = none)
  (h : wpAny (model prog w) A x (fun v s1 => ∃ e C oe vs, v = .ref e /\ K.In s1.heap /\ s1.heap.get? e = some oe /\ oe.cls = .ref C /\ oe.data = .fields vs /\ vs[1]? = some .none /\ PySem.W.mroIn K C (.type "BaseException") = some true /\ PySem.W.typeIn K (.ref C) = some (.type "type") /\ E (.ref e) s1) E s) :
  wpAny (model prog w) A (raiseStmt env (some x) none) Q E s := by
 unfold raiseStmt
 refine wpAny_bind (wpAny_mono h (fun v s1 h1 => ?_) fun _ _ x => x)
 obtain ⟨e, C, oe, vs, rfl, X, he, hc, hd, h1, hm, ht, hE⟩ := h1
 obtain ⟨hp, g, d, tk, os⟩ := s1
 have L1 := PySem.W.looks_mroIn (M := model prog w) X hm
 obtain ⟨oc, od, oda, osl⟩ := oe
 cases hc
 cases hd
 obtain ⟨⟨cc, cdd, cda, csl⟩, kc, ec⟩ := Option.map_eq_some_iff.mp (show (K.lookup C).map (·.cls) = some (.type "type") from ht)
 cases (show cc = Value.type "type" from ec)
 have hC := X _ _ kc
 repeat (first | with_reducible refine wpAny_loadPart_at he ?_ | with_reducible refine wpAny_loadPart_at hC ?_ | with_reducible refine L1.at ?_ | with_reducible refine wpAny_field he rfl h1 ?_ | wp_step)
 exact wpAny_raiseNew_none hh hE
end
end L2
namespace DC
open PySem PySem.Spec PyProof.Rows L2
section
variable {X : Cx} {e : Expr} {es : List Expr} {t : AD} {pos cpos p : Pos} {x : Str} {j k : Nat} {C : Addr} {fl : List Str} {xk : SD -> XR}
def BA (xk : SD -> XR) (C : Addr) (fl : List Str) (t : AD) : eV := fun _ δ => t δ fun ds => ds.length = fl.length /\ xk δ C (fl.zip ds)
theorem yl (hx : fD X xk) (hc : X.calm = true) (hex : X.ex = []) (c : Ec X.prog X.w X.K X.mg X.base j x C fl) (hm : PySem.W.mroIn X.K C (.type "BaseException") = some true) (ht : PySem.W.typeIn X.K (.ref C) = some (.type "type")) (hr : az k X.A) (hj : j + 1 <= k) (hg : Gl X x) (ha : jE X (e :: es) t) (hdb : (x == ("__debug__" : Str)) = false := by decide)
  (h1 : starEach (e :: es) X.env = (false, eval e X.env) :: starEach es X.env := by rfl) (h2 : (backTo cpos (starEach es X.env)).any (·.1) = false := by rfl) : tN X (.Raise (some (.Call (.Name x p) (e :: es) [] cpos)) none pos) (BA xk C fl t) := by
 obtain ⟨_, _, _, _, _, _, _, _, hmg, kp, _⟩ := c.ex
 refine ⟨fun pins s σ H D I ⟨δ, r, h⟩ => ?_, fun E E' δ l h => h⟩
 rw [arm_exec_Raise]
 simp only [evalOpt, Option.map]
 refine wpAny_bind (wpAny_standAt (sR (K := X.K) (I.ok.hd hc) (wpAny_bind (wpAny_mono ?_ (fun v s3 h3 => wpAny_bind (wpAny_standAt (wpAny_pure h3))) fun _ _ y => y))))
 refine wpAny_Call_Name_kw (iE I hg hmg ?_ hdb)
 refine PySem.W.callWith_K (h₀ := X.base) I.ok.mod.Bo kp (bE (ha.pa cpos pins s σ H (fun vs H1 => aJ H H1 /\ ∃ ds, au X.K H1 vs ds /\ ds.length = fl.length /\ xk δ C (fl.zip ds)) I ⟨δ, r, ha.mono _ _ _ (fun ds q vs H1 s1 dv => ⟨s1, ds, dv, q⟩) h⟩) fun us s1 ⟨vs, H1, I1, r1, sm, ds, dv, q0, q⟩ => ⟨I1.iN, ?_⟩) h1 h2
 refine wpAny_mono (BF (pr := Dh) (Q := fun y H' => ∃ a d, y = .ref a /\ aJ H1 H' /\ H1 a = none /\ X.s₀.heap.get? a = none /\ (∀ p ∈ X.pn, p.1 ≠ a) /\ d ≠ a /\ H' a = some (dY Dh a C (some d)) /\ H' d = some (mx d (fl.zip vs))) c hex (hr.mono hj) I1 r1 (by rw [dv.length]; exact q0) (fun _ => ⟨rfl, Nat.le_of_ble_eq_true rfl, rfl⟩) fun a d H' s' n0 n1 n2 n3 ea ed => ⟨a, d, rfl, s', n0, n1, n2, n3, ea, ed⟩) (fun v s2 z => ?_) fun _ _ z => z
 obtain ⟨y, H2, I2, ry, a, d, rfl, sm2, n0, n1, n2, hda, ea, ed⟩ := z
 cases (show v = Value.ref a from ry)
 obtain ⟨⟨oe, ws, he, hcl, hdx, hd, p2, pz, p1⟩, _⟩ := (show aQ X.prog X.w H2 s2.heap a (dY Dh a C (some d)) from I2.ao a _ ea)
 refine ⟨a, C, oe, ws, rfl, I2.iN, he, hcl, hd, p1, hm, ht, ?_⟩
 have I3 := I2.drop (a := a) ea
 have s3 : aJ H1 (del H2 a) := fun b o q => by
  rw [cK (aS q n0)]
  exact sm2 b o q
 exact hx pins σ δ (del H2 a) s2 a C (some d) (fl.zip vs) (fl.zip ds) I3 (r.same (sm.trans s3)) (vZ I3 he hcl hdx hd pz p2 p1 lV n1 n2) (.of (by rw [cK hda]; exact ed)) (tm (dv.same s3)) q
end
end DC
namespace L2
open PySem PySem.Spec PyProof.Rows
def Gs (K : PySem.W.Frag) (l : Addr) : It where
 go := fun i H => ∃ xs x, ck K H l xs /\ xs[i]? = some x
 wI := fun i H v H' => ∃ p x, H p = none /\ v = .ref p /\ H' = upd H p (.tup [.int (i : Int), x]) /\ ∀ xs, ck K H l xs -> xs[i]? = some x
 stop := fun i H => ∃ xs, ck K H l xs /\ xs[i]? = none
theorem vv {P : Program} {w : World} {K : PySem.W.Frag} {elts : List Expr} {c : Nat} {tp : Pos} {e it l : Addr} (hei : e ≠ it) (hle : l ≠ e) (hli : l ≠ it) :
  Turn P w K (.Tuple elts c tp) (Gs K l) [e, it] e (fun i h => (∃ old, IsEnum h e it i old) /\ h.IsListIter it l i) where
 mem := by simp
 obj := fun i h ⟨⟨old, he⟩, hit⟩ q hq => by
  simp only [List.mem_cons, List.not_mem_nil, or_false] at hq
  rcases hq with rfl | rfl
  ·exact ⟨_, he, fun v z => by cases z⟩
  ·obtain ⟨o, z, _, d⟩ := hit
   exact ⟨o, z, fun v y => by rw [d] at y; cases y⟩
 keep := fun i h h' ⟨⟨old, he⟩, hit⟩ k => ⟨⟨old, k _ (by simp) _ he⟩, hit.at fun o z => k it (by simp) o z⟩
 item := by
  intro X hP hw hK hc i pins s σ H E I hf st hg
  subst hP hw hK
  obtain ⟨⟨old, he⟩, hit⟩ := st
  obtain ⟨xs, x, hq, hx⟩ := hg
  obtain ⟨its, rv, p, hz⟩ := I.list hq
  obtain ⟨u, hu, ru⟩ := rv.get hx
  refine wpAny_pyNext_enum_item he hit p.isList (x := u) (by simpa using hu) hei fun h' ho hit' hT hsz hk => ?_
  refine ⟨_, rfl, wpAny_letOwnedTupleGo_enum ho fun h'' he' sb => ?_⟩
  have elt : e < s.heap.objs.size := Heap.lt_size he
  have ilt : it < s.heap.objs.size := by obtain ⟨o, z, _⟩ := hit; exact Heap.lt_size z
  have up : ∀ b o, b ≠ e -> h'.get? b = some o -> h''.get? b = some o := fun b o nb q => (sb.2 b nb).trans q
  have I' := I.uV (h' := h'') (t' := s.toks + 1) (ch := [e, it]) (T := s.heap.objs.size) (u1 := .int (i : Int) s.toks) (u2 := u) (x := .int (i : Int)) (y := x)
   (fun b o hb q => by
    simp only [List.mem_cons, List.not_mem_nil, or_false, not_or] at hb
    exact up b o hb.1 (hk b o hb.1 hb.2 q)) hf (Nat.le_refl _) (up _ _ (Nat.ne_of_gt elt) hT) ⟨_, rfl⟩ ru
  refine ⟨.ref s.heap.objs.size, _, I', rfl, ⟨_, x, I.fresh, rfl, rfl, fun zs hz' => by rw [I.qZ hz' hq]; exact hx⟩, ⟨⟨_, he'⟩, hit'.at fun o z => up it o (Ne.symm hei) z⟩, fun b hb => ?_⟩
  have hfb := (hf b hb).1
  rw [aH]
  ·exact hfb
  ·intro z
   have lt : b < s.heap.objs.size := by
    simp only [List.mem_cons, List.not_mem_nil, or_false] at hb
    rcases hb with rfl | rfl
    ·exact elt
    ·exact ilt
   rw [z] at lt
   exact Nat.lt_irrefl _ lt
 done := by
  intro X hP hw hK hc i pins s σ H E I hf st hg
  subst hP hw hK
  obtain ⟨⟨old, he⟩, hit⟩ := st
  obtain ⟨xs, hq, hx⟩ := hg
  obtain ⟨its, rv, p, hz⟩ := I.list hq
  have hl := rv.length
  refine wpAny_pyNext_enum_end (I.ok.hd hc) he hit p.isList (by simp only [List.getElem?_toArray]; rw [List.getElem?_eq_none_iff] at hx ⊢; omega) fun h' eb => ⟨rfl, I.uU (t' := s.toks) (ch := [e, it]) (fun b o hb q => ?_) hf⟩
  simp only [List.mem_cons, List.not_mem_nil, or_false, not_or] at hb
  exact eb b o hb.2 q
 self := fun _ _ _ _ _ st h => let ⟨⟨_, he⟩, _⟩ := st; wpAny_pyIter_enum he h
section
variable {X : Cx} {e1 : Expr} {ta : TA} {p pos tp : Pos} {elts : List Expr} {c : Nat}
def FC (K : PySem.W.Frag) (ta : TA) : TI := fun σ H R => ta σ H fun vs H1 => ∃ l xs, vs = [.ref l] /\ ck K H1 l xs /\ R (Gs K l) H1
theorem A0 (hg : Gl X "enumerate") (hm : X.mg "enumerate" = none) (ha : PA X [e1] ta) (hs : starEach [e1] X.env = [(false, eval e1 X.env)] := by rfl) :
  PI X (.Tuple elts c tp) (.Call (.Name "enumerate" p) [e1] [] pos) (FC X.K ta) := by
 intro pins s σ H R I h
 refine Call_ (ip I hg hm boot_enumerate (PyProof.Rows.callWith_type1 (bE (ha pos pins s σ H _ I h) fun us s1 ⟨vs, H1, I1, r1, q1⟩ => ?_) (by rw [hs]; rfl) rfl))
 obtain ⟨l, xs, e, hq, q⟩ := q1
 subst e
 obtain ⟨u, rfl, ru⟩ := r1.one
 cases (show u = Value.ref l from ru)
 obtain ⟨its, rv, pl, hz⟩ := I1.list hq
 have llt : l < s1.heap.objs.size := by obtain ⟨o, n, z, _⟩ := pl; exact Heap.lt_size z
 refine call_enumerate_list pl.isList fun h' a1 a2 a3 a4 => wpAny_pyIter_enum a1 ?_
 have I2 : Inv X pins σ H1 { s1 with heap := h' } := I1.kept (t' := s1.toks) a4
 refine ⟨_, [s1.heap.objs.size + 1, s1.heap.objs.size], _, _, H1, rfl, I2, vv (l := l) (Nat.succ_ne_self _) (Nat.ne_of_lt (Nat.lt_succ_of_lt llt)) (Nat.ne_of_lt llt), ⟨⟨_, a1⟩, a2⟩, fun b hb => ?_, q⟩
 have hb' : s1.heap.objs.size <= b := by
  simp only [List.mem_cons, List.not_mem_nil, or_false] at hb
  rcases hb with rfl | rfl
  ·exact Nat.le_add_right _ _
  ·exact Nat.le_refl _
 exact I1.xQ hb' (I1.ao.fresh hb')
end
end L2
namespace DC
open PySem PySem.Spec PyProof.Rows L2
def zN : Nat -> List D -> List D
 | _, [] => []
 | k, x :: xs => .tup [.int (k : Int), x] :: zN (k + 1) xs
theorem jL : ∀ (k : Nat) (xs : List D), (zN k xs).length = xs.length
 | _, [] => rfl
 | k, _ :: xs => by rw [zN, List.length_cons, List.length_cons, jL (k + 1) xs]
theorem lA : ∀ (k i : Nat) (xs : List D), (zN k xs)[i]? = (xs[i]?).map fun x => .tup [.int ((k + i : Nat) : Int), x]
 | _, _, [] => rfl
 | k, 0, _ :: _ => rfl
 | k, i + 1, _ :: xs => by
  rw [zN, List.getElem?_cons_succ, List.getElem?_cons_succ, lA (k + 1) i xs, show k + 1 + i = k + (i + 1) by omega]
theorem AB {K : PySem.W.Frag} {H : Hp} {l : Addr} {xs : List V} {ds : List D} (h1 : ck K H l xs) (d1 : au K H xs ds) : CF K (Gs K l) H (zN 0 ds) := by
 have hl := jL 0 ds
 refine ⟨fun i H' s' hi => ?_, fun H' s' => ⟨xs, s'.seq h1, ?_⟩, fun i H' x H'' s' hi y => ?_⟩
 ·rw [hl] at hi
  obtain ⟨v1, g1, _⟩ := d1.get (List.getElem?_eq_getElem hi)
  exact ⟨xs, v1, s'.seq h1, g1⟩
 ·rw [hl, List.getElem?_eq_none_iff, d1.length]
  exact Nat.le_refl _
 ·obtain ⟨q, u, hn, rfl, rfl, y1⟩ := y
  obtain ⟨a1, g1, v1⟩ := d1.xT (y1 _ (s'.seq h1))
  have hnH : H q = none := s'.free hn
  refine ⟨aN hn, .tup [.int (i : Int), a1], by rw [lA, g1, Nat.zero_add]; rfl, upd H q (.tup [.int (i : Int), u]), aN hnH, .tup (eT.of aI) (.cons (.int _) (.cons (v1.same (aN hnH)) .nil)), fun a o z => ?_, fun a o z => ?_⟩
  ·by_cases ha : a = q
   ·rw [ha]; exact .inr hn
   ·rw [aH ha] at z; exact .inl z
  ·by_cases ha : a = q
   ·rw [ha] at z ⊢; rw [aI] at z ⊢; exact z
   ·rw [aH ha] at z ⊢; exact s' _ _ z
section
variable {X : Cx} {e1 : Expr} {ta : AD} {p pos tp : Pos} {elts : List Expr} {c : Nat}
def Ei (ta : AD) : AD := fun δ Q => ta δ fun ds => ∃ xs, ds = [.lst xs] /\ Q (zN 0 xs)
theorem Cv (hg : Gl X "enumerate") (hm : X.mg "enumerate" = none) (ha : jE X [e1] ta) (hs : starEach [e1] X.env = [(false, eval e1 X.env)] := by rfl) :
  PId X (.Tuple elts c tp) (.Call (.Name "enumerate" p) [e1] [] pos) (Ei ta) := by
 refine ⟨PI.imp (A0 hg hm ha.pa hs) fun σ H R ⟨δ, r, h⟩ => ⟨δ, r, ha.mono _ _ _ (fun ds ⟨xs, ed, q⟩ vs H1 sm dvs => ?_) h⟩, fun δ P P' g h => ha.mono _ _ _ (fun ds ⟨xs, ed, q⟩ => ⟨xs, ed, g _ q⟩) h⟩
 subst ed
 cases dvs with
 | cons a r =>
  cases r
  cases a with
  | lst g1 v1 => exact ⟨_, _, rfl, g1, q _ H1 sm (AB g1 v1)⟩
end
def rY (tt : TD) (te : ED) (δ0 : SD) : List D -> List D -> (D -> Prop) -> Prop
 | [], acc, Q => Q (.lst acc)
 | d :: ds, acc, Q => ∃ x y, d = .tup [x, y] /\ tt (some x :: some y :: δ0) fun b => (b = true -> te (some x :: some y :: δ0) fun r => rY tt te δ0 ds (acc ++ [r]) Q) /\ (b = false -> rY tt te δ0 ds acc Q)
def pU (caps : List Nat) (ti : AD) (tt : TD) (te : ED) : ED := fun δ Q => ti δ fun ds => ds.length < sizeLine /\ rY tt te (ie caps δ) ds [] Q
theorem r0 {tt : TD} {te : ED} (mt : cj tt) (me : aw te) {δ0 : SD} : ∀ (ds acc : List D) (P P' : D -> Prop), (∀ d, P d -> P' d) -> rY tt te δ0 ds acc P -> rY tt te δ0 ds acc P'
 | [], acc, P, P', g, h => g _ h
 | d :: ds, acc, P, P', g, ⟨x, y, e, h⟩ => ⟨x, y, e, mt _ _ _ (fun b ⟨h1, h2⟩ => ⟨fun e => me _ _ _ (fun y q => r0 mt me ds _ P P' g q) (h1 e), fun e => r0 mt me ds acc P P' g (h2 e)⟩) h⟩
theorem rO {K : PySem.W.Frag} {caps : List Nat} {ti : AD} {tt : TD} {te : ED} (mi : iK ti) (mt : cj tt) (me : aw te) {σ : L2.St} {H : Hp} {Q : VK} (h : oE K (pU caps ti tt te) σ H Q) :
  qt 2 caps (fun σ H R => ∃ δ, ay K H σ δ /\ ti δ fun ds => ∀ J H1, aJ H H1 -> CF K J H1 ds -> R J H1) (Cr K 2 (qG (gJ 0) (qG (gJ 1) Cq))) (pT (oT K tt)) (pS (oE K te)) σ H Q := by
 obtain ⟨δ, r, h⟩ := h
 refine ⟨δ, r, mi _ _ _ (fun ds ⟨hlen, go⟩ J H1 s1 it D hD => ?_) h⟩
 refine ⟨fun i m ys H' => m = ds.length - i /\ i <= ds.length /\ ys.length <= i /\ ∃ H0 acc, H0 D = none /\ aJ H1 H0 /\ au K H0 ys acc /\ H' = upd H0 D (.lst ys) /\ rY tt te (ie caps δ) (ds.drop i) acc (kD K H Q), ⟨ds.length, rfl, Nat.zero_le _, Nat.zero_le _, H1, [], hD, aJ.refl _, .nil, rfl, go⟩, ?_⟩
 rintro i m ys H' ⟨rfl, hle, hys, H0, acc, h0, s0, dys, rfl, gx⟩
 refine ⟨aI, ?_⟩
 have sU : aJ H1 (upd H0 D (.lst ys)) := s0.trans (aN h0)
 by_cases hlt : i < ds.length
 ·refine .inr ⟨it.go i _ sU hlt, fun x H'' y => ?_⟩
  obtain ⟨s2, d, hd, Hx, sx1, dvx, only, sx⟩ := it.wI i _ x H'' sU hlt y
  have hD2 : H'' D = some (.lst ys) := s2 _ _ aI
  have ne1 : ∀ a o, H1 a = some o -> a ≠ D := fun a o z => aS z hD
  have nex : ∀ a o, Hx a = some o -> a ≠ D := fun a o z w => by
   rcases only a o z with z1 | z1
   ·exact ne1 a o z1 w
   ·rw [w, aI] at z1; cases z1
  have sd1 : aJ H0 (del H'' D) := fun a o z => by
   rw [cK (aS z h0)]
   exact s2 a o (aN h0 a o z)
  have sdx : aJ Hx (del H'' D) := fun a o z => by
   rw [cK (nex a o z)]
   exact sx a o z
  have ed : ds.drop i = d :: ds.drop (i + 1) := by
   have hi := (List.getElem?_eq_some_iff.mp hd)
   rw [List.drop_eq_getElem_cons hi.1, hi.2]
  rw [ed] at gx
  obtain ⟨d1, d2, e12, eachd⟩ := gx
  have dvx' := e12 ▸ dvx
  cases dvx' with
  | tup g1 g2 =>
   cases g2 with
   | @cons v1 _ _ _ w1 g2 =>
    cases g2 with
    | @cons v2 _ _ _ w2 g2 =>
     cases g2
     have rel : ay K (del H'' D) (some v1 :: some v2 :: caps.map fun j => (σ[j]?).getD none) (some d1 :: some d2 :: ie caps δ) := qu (qu (wb (r.same (s1.trans (s0.trans sd1))) caps) (w2.same sdx)) (w1.same sdx)
     refine ⟨_, [v1, v2], rfl, kh sx g1, rfl, v1, [v2], rfl, v2, [], rfl, rfl, DA, D, ys, hD2, _, rel, mt _ _ _ (fun b ⟨hb1, hb2⟩ H3 s3 h3 => ?_) eachd⟩
     have s03 : aJ H0 H3 := sd1.trans s3
     cases b with
     | false =>
      refine aK ?_
      exact ⟨ds.length - (i + 1), by omega, rfl, hlt, by omega, H3, acc, h3, s0.trans s03, dys.same s03, rfl, hb2 rfl⟩
     | true =>
      refine aO ?_
      refine ⟨D, ys, aI, ?_⟩
      rw [oQ h3]
      refine ⟨_, rel.same s3, me _ _ _ (fun y gy v H4 s4 dv h4 => ⟨aI, ?_, ds.length - (i + 1), by omega, rfl, hlt, ?_, H4, acc ++ [y], h4, s0.trans (s03.trans s4), ?_, jr, gy⟩) (hb1 rfl)⟩
      ·omega
      ·rw [List.length_append, List.length_singleton]; omega
      ·exact (dys.same (s03.trans s4)).append (.cons dv .nil)
 ·have e : i = ds.length := by omega
  subst e
  refine .inl ⟨it.stop _ sU, ?_⟩
  rw [List.drop_length] at gx
  exact gx _ _ (s1.trans sU) (.lst (ck.of aI) (dys.same (aN h0)))
section
variable {X : Cx} {scope : Scope} {cl : List (Str × Addr)} {x y : Str} {cn : List Str} {caps : List Nat} {elt iter : Expr} {ifs : List Expr} {ti : AD} {tt : TD} {te : ED} {pos px py tp : Pos} {c : Nat} {R : XR}
theorem qa (mi : iK ti) (mt : cj tt) (me : aw te) : aw (pU caps ti tt te) := fun δ P P' g h => mi _ _ _ (fun ds ⟨hl, q⟩ => ⟨hl, r0 mt me _ _ P P' g q⟩) h
theorem D5 {i : Nat} {z : Str} {pz spos : Pos} (hst : X.stack = X.env :: X.outer) (hfr : X.env.frame = some X.env.locals) (hx : fD X (fun _ => R)) (hN : X.N.Nodup) (hi' : X.N[i]? = some z) (hz : Loc X.env.scope z) (S : bV X scope cl [x, y] caps cn) (hc : X.calm = true) (hi : PId X (.Tuple [.Name x px, .Name y py] c tp) iter ti)
  (hg : ∀ C fp s₂ H₂, PG (ae X scope cl C ([x, y] ++ cn) fp s₂ H₂ R) (.Tuple [.Name x px, .Name y py] c tp) (Cr X.K 2 (qG (gJ 0) (qG (gJ 1) Cq))))
  (ht : ∀ C fp s₂ H₂, rJ (ae X scope cl C ([x, y] ++ cn) fp s₂ H₂ R) ifs tt) (he : ∀ C fp s₂ H₂, PD (ae X scope cl C ([x, y] ++ cn) fp s₂ H₂ R) elt te)
  (hsw : swapsWith (.ListComp elt [⟨.Tuple [.Name x px, .Name y py] c tp, iter, ifs, 0⟩] scope pos) (some (.Name z pz)) spos.line X.env = pure true := by rfl) (hf : X.fn z = true \/ X.env.scope.names.lookup z = some .local := by first | exact .inl rfl | exact .inr rfl | assumption)
  (hs : ∀ x, foldedSetIterable iter X.env x = pure x := by intro _; rfl) : tN X (.Assign [.Name z pz] (.ListComp elt [⟨.Tuple [.Name x px, .Name y py] c tp, iter, ifs, 0⟩] scope pos) spos) (BB i (pU caps ti tt te)) :=
 have mt : cj tt := (ht 0 [] X.s₀ X.H₀).mono
 have me : aw te := (he 0 [] X.s₀ X.H₀).mono
 ⟨PS.imp (mE hst hfr hx hN hi' hz S hc hi.pi hg (fun C fp s₂ H₂ => eD (ht C fp s₂ H₂).Ft) (fun C fp s₂ H₂ => fY (he C fp s₂ H₂).pe) hsw hf hs) fun D σ H ⟨δ, r, h⟩ =>
   rO hi.mono mt me ⟨δ, r, qa hi.mono mt me _ _ _ (fun d q v H1 s1 dv => q _ H1 s1 ((r.same s1).set i dv)) h⟩,
  fun E E' δ l h => qa hi.mono mt me _ _ _ (fun d q => l.nx _ q) h⟩
end
def C3 : D -> Option Key
 | .int i => some (.inl i)
 | .str x => some (.inr x)
 | _ => none
def mf (kvs : List (Key × D)) (k : Key) : Option D := (kvs.find? fun kv => decide (kv.1 = k)).map (·.2)
def GV (td ty : ED) : ED := fun δ Q => td δ fun d => ty δ fun y => ∃ kvs k r, d = .dK kvs /\ C3 y = some k /\ mf kvs k = some r /\ Q r
theorem dz.look {K : PySem.W.Frag} {H : Hp} {k : Key} {r : D} : ∀ {vs : List (Key × V)} {ds : List (Key × D)}, dz K H vs ds -> mf ds k = some r -> ∃ v, kz vs k = some v /\ Dv K H v r
 | _, _, .nil, e => by cases e
 | _, _, .cons (k := k') (x := x) (d := d) (xs := xs) (ds := ds) h t, e => by
  unfold mf at e
  unfold kz
  rw [List.find?_cons] at e ⊢
  by_cases q : k' = k
  ·simp only [q, decide_true] at e ⊢
   cases e
   exact ⟨x, rfl, h⟩
  ·simp only [q, decide_false] at e ⊢
   exact dz.look t e
section
variable {X : Cx} {o i : Expr} {pos : Pos} {td ty : ED}
theorem lS (hu : X.A.units + 64 < cLine) (ho : PD X o td) (hi : PD X i ty) (hs : CI i) : PD X (.Subscript o i pos) (GV td ty) := by
 refine ⟨(Aw (by omega) ho.pe hi.pe hs).imp fun σ H Q ⟨δ, r, h⟩ => ⟨δ, r, ho.mono _ _ _ (fun d hd v H1 s1 dv => ⟨δ, r.same s1, hi.mono _ _ _ (fun y hy u H2 s2 du => ?_) hd⟩) h⟩, fun δ P P' g h => ho.mono _ _ _ (fun d h' => hi.mono _ _ _ (fun e ⟨kvs, k, z, h1, h2, h3, h4⟩ => ⟨kvs, k, z, h1, h2, h3, g _ h4⟩) h') h⟩
 obtain ⟨kvs, k, z, e1, e2, e3, q⟩ := hy
 subst e1
 cases dv with
 | dK g1 g2 =>
  obtain ⟨v, ev, dv'⟩ := (g2.same s2).look e3
  refine ⟨_, v, rfl, .inl ⟨_, k, gB s2 g1, ?_, ev.symm⟩, q v H2 (s1.trans s2) dv'⟩
  cases du <;> cases e2 <;> rfl
end
section
variable {X : Cx} {rest : List Stmt} {st : Stmt} {t : jw}
def uC (t : jw) : jw := fun E δ μ => t E (cX μ δ) []
theorem zy (m : tL t) {D : Ends} {σ : L2.St} {H : Hp} (h : oM X.K (uC t) D σ H) : oM X.K t D σ H := by
 obtain ⟨δ, μ, L, r, g, h⟩ := h
 exact ⟨cX μ δ, [], [], by rw [dF]; exact g.cX r, eU.nil, m _ _ _ _ (jM (by rw [dF]; exact bD)) h⟩
theorem jT (h : tM X rest t) : tM X rest (uC t) := ⟨hX.imp h.ps fun D σ H q => zy h.mono q, fun E E' δ μ l q => h.mono _ _ _ _ l q⟩
end
section
variable {K : PySem.W.Frag} {H : Hp} {μ : Mu} {L : List Addr} {a : Addr} {vs ys : List (Key × V)} {ds : List (Key × D)}
theorem eU.putK (g : eU K H μ L) (ha : a ∈ L) (hv : H a = some (.dK vs)) (d : dz K (aY H L) ys ds) : eU K (upd H a (.dK ys)) (ky a (.dK ds) μ) L := by
 have e : aY (upd H a (.dK ys)) L = aY H L := gj ha
 refine ⟨fun p hp => ?_, by rw [nR]; exact g.Bu, fun b hb => ?_, fun b hb => ?_⟩
 ·obtain ⟨q, hq, rfl⟩ := List.mem_map.mp hp
  by_cases hqa : q.1 = a
  ·rw [if_pos hqa]
   exact ⟨ha, ys, aI, by rw [e]; exact d⟩
  ·rw [if_neg hqa]
   obtain ⟨h1, h2⟩ := g.at_ q hq
   refine ⟨h1, ?_⟩
   obtain ⟨b, m⟩ := q
   cases m with
   | lst ds => obtain ⟨ws, h, d⟩ := h2; exact ⟨ws, by rw [aH hqa]; exact h, by rw [e]; exact d⟩
   | ins C gs => obtain ⟨dx, fs, h, h2, h3, d⟩ := h2; exact ⟨dx, fs, by rw [aH hqa]; exact h, by rw [aH (fun z => by rw [z, hv] at h2; cases h2)]; exact h2, h3, by rw [e]; exact d⟩
   | dK kvs => obtain ⟨ws, h, d⟩ := h2; exact ⟨ws, by rw [aH hqa]; exact h, by rw [e]; exact d⟩
 ·by_cases hba : b = a
  ·rw [hba]; exact .dK ys aI
  ·have w := g.cz b hb
   cases w with
   | lst xs h => exact .lst xs (by rw [aH hba]; exact h)
   | dK xs h => exact .dK xs (by rw [aH hba]; exact h)
   | ins C dx fs h hd => exact .ins C dx fs (by rw [aH hba]; exact h) hd
   | own C c fs h hc hi => exact .own C c fs (by rw [aH hba]; exact h) hc (by rw [aH (fun z => by rw [z, hv] at hi; cases hi)]; exact hi)
 ·rcases g.CW b hb with ⟨m, h⟩ | ⟨c, h⟩
  ·by_cases hba : b = a
   ·exact .inl ⟨.dK ds, List.mem_map.mpr ⟨_, h, by rw [if_pos hba, hba]⟩⟩
   ·exact .inl ⟨m, List.mem_map.mpr ⟨_, h, if_neg hba⟩⟩
  ·exact .inr ⟨c, by rw [aH (fun z => by rw [z, hv] at h; cases h)]; exact h⟩
theorem eU.HU (hn : H a = none) (d : dz K H ys ds) : eU K (upd H a (.dK ys)) [(a, .dK ds)] [a] /\ aY (upd H a (.dK ys)) [a] = H := by
 have e : aY (upd H a (.dK ys)) [a] = H := by
  funext b
  by_cases hb : b = a
  ·rw [hb, b9 List.mem_cons_self, hn]
  ·rw [ax (fun z => hb (List.mem_singleton.mp z)), aH hb]
 refine ⟨⟨fun p hp => ?_, ?_, fun b hb => ?_, fun b hb => ?_⟩, e⟩
 ·rw [List.mem_singleton.mp hp]
  exact ⟨List.mem_cons_self, ys, aI, by rw [e]; exact d⟩
 ·rw [List.map_cons, List.map_nil]; exact List.nodup_cons.mpr ⟨(fun h => nomatch h), List.nodup_nil⟩
 ·rw [List.mem_singleton.mp hb]; exact .dK ys aI
 ·rw [List.mem_singleton.mp hb]; exact .inl ⟨_, List.mem_cons_self⟩
end
def eE (kvs : List (Key × D)) (k : Key) (v : D) : List (Key × D) :=
 if (kvs.any fun kv => decide (kv.1 = k)) = true then kvs.map (fun kv => if kv.1 = k then (kv.1, v) else kv) else kvs ++ [(k, v)]
section
variable {K : PySem.W.Frag} {H : Hp}
theorem dz.length : ∀ {vs : List (Key × V)} {ds : List (Key × D)}, dz K H vs ds -> vs.length = ds.length
 | _, _, .nil => rfl
 | _, _, .cons _ h => congrArg (· + 1) (dz.length h)
theorem dz.any {k : Key} : ∀ {vs : List (Key × V)} {ds : List (Key × D)}, dz K H vs ds -> (vs.any fun kv => decide (kv.1 = k)) = ds.any fun kv => decide (kv.1 = k)
 | _, _, .nil => rfl
 | _, _, .cons _ h => by rw [List.any_cons, List.any_cons, dz.any h]
theorem dz.snoc {k : Key} {v : V} {d : D} (hv : Dv K H v d) : ∀ {vs : List (Key × V)} {ds : List (Key × D)}, dz K H vs ds -> dz K H (vs ++ [(k, v)]) (ds ++ [(k, d)])
 | _, _, .nil => .cons hv .nil
 | _, _, .cons h r => .cons h (dz.snoc hv r)
theorem dz.sE {k : Key} {v : V} {d : D} (hv : Dv K H v d) : ∀ {vs : List (Key × V)} {ds : List (Key × D)}, dz K H vs ds -> dz K H (vs.map fun kv => if kv.1 = k then (kv.1, v) else kv) (ds.map fun kv => if kv.1 = k then (kv.1, d) else kv)
 | _, _, .nil => .nil
 | _, _, .cons (k := j) (x := x) (d := y) h r => by
  rw [List.map_cons, List.map_cons]
  by_cases e : j = k
  ·rw [if_pos (show ((j, x) : Key × V).1 = k from e), if_pos (show ((j, y) : Key × D).1 = k from e)]
   exact .cons hv (dz.sE hv r)
  ·rw [if_neg (show ¬ ((j, x) : Key × V).1 = k from e), if_neg (show ¬ ((j, y) : Key × D).1 = k from e)]
   exact .cons h (dz.sE hv r)
theorem dz.put {k : Key} {v : V} {d : D} (hv : Dv K H v d) {vs : List (Key × V)} {ds : List (Key × D)} (h : dz K H vs ds) : dz K H (putK vs k v) (eE ds k d) := by
 unfold putK eE
 rw [h.any]
 split
 ·exact h.sE hv
 ·exact h.snoc hv
theorem C4 {y : V} {d : D} {k : Key} (h : Dv K H y d) (e : C3 d = some k) : y = kV k := by cases h <;> cases e <;> rfl
end
section
variable {X : Cx} {e ke : Expr} {te tk : ED} {i : Nat} {x : Str} {p pos pos' : Pos}
def Cg : EF := fun _ Q => ∀ a, Q (.adr a) [(a, .dK [])]
theorem zt : PF X (.Dict [] [] pos) Cg := by
 refine ⟨yS.imp fun σ H Q ⟨δ, r, q⟩ a hn => ?_, fun δ P P' g q a => g _ _ (q a)⟩
 obtain ⟨g2, e2⟩ := eU.HU (K := X.K) (ds := []) hn .nil
 exact q a (.ref a) _ [a] (by rw [e2]; exact aJ.refl _) g2 (.adr a)
def FL (i : Nat) (tk te : ED) : jw := fun E δ μ => te δ fun d => ∃ a kvs, δ[i]? = some (some (.adr a)) /\ μ.lookup a = some (.dK kvs) /\ kvs.length < sizeLine /\ tk δ fun y => ∃ k, C3 y = some k /\ E.nx δ (ky a (.dK (eE kvs k d)) μ)
theorem uG (hu : X.A.units + 64 < cLine) (hi : X.N[i]? = some x) (hv : wO X.env.scope x) (hk : PD X ke tk) (he : PD X e te) (hd : (x == ("__debug__" : Str)) = false := by decide) (hcd : (x == ("__classdict__" : Str)) = false := by decide)
  (hs : swapsWith e (some (.Subscript (.Name x p) ke pos')) pos.line X.env = pure false := by rfl) : zL X (.Assign [.Subscript (.Name x p) ke pos'] e pos) (FL i tk te) := by
 refine ⟨PS.imp (A4 (by omega) (iu hi hv hd hcd) (ir hk.pe) (ir he.pe) hs) fun D σ H ⟨δ, μ, L, r, g, q⟩ => ⟨L, g.cz, δ, r, he.mono _ _ _ (fun d ⟨a, kvs, k1, k2, k3, q⟩ v H1 s1 dv z => ?_) q⟩,
  fun E E' δ μ l q => he.mono _ _ _ (fun d ⟨a, kvs, k1, k2, k3, q⟩ => ⟨a, kvs, k1, k2, k3, hk.mono _ _ _ (fun y ⟨k, e1, q⟩ => ⟨k, e1, l.nx _ _ q⟩) q⟩) q⟩
 have e1 : aY (ai H1 H L) L = H1 := bH z
 have g1 : eU X.K (ai H1 H L) μ L := g.show z s1
 have r1 : ay X.K (aY (ai H1 H L) L) σ δ := by rw [e1]; exact r.same s1
 obtain ⟨w, hv1, dvw⟩ := r.get i _ k1
 cases dvw
 refine ⟨_, hv1, L, g1.cz, δ, r1, hk.mono _ _ _ (fun y ⟨k, ek, q⟩ u H2 s2 du z2 => ?_) q⟩
 have e2 : aY (ai H2 (ai H1 H L) L) L = H2 := bH z2
 have g2 : eU X.K (ai H2 (ai H1 H L) L) μ L := g1.show z2 s2
 obtain ⟨haL, ws, hH, dvk⟩ := g2.at_ _ (mem_of_lookup k2)
 rw [e1] at s2
 have dk2 : dz X.K H2 ws kvs := by rw [e2] at dvk; exact dvk
 rw [C4 du ek]
 refine ⟨a, _, rfl, wK.k hH (by rw [dk2.length]; exact k3), ?_⟩
 have e3 : aY (upd (ai H2 (ai H1 H L) L) a (.dK (L2.putK ws k v))) L = H2 := by rw [gj haL, e2]
 exact q σ _ L (by rw [e3]; exact s1.trans s2) (by rw [e3]; exact r.same (s1.trans s2)) (g2.putK haL hH (by rw [e2]; exact dk2.put (dv.same s2)))
end
theorem jz {K : PySem.W.Frag} {caps : List Nat} {ti : AD} {tt : TD} {te : ED} (mi : iK ti) (mt : cj tt) (me : aw te) {σ : L2.St} {δ : SD} {H : Hp} {P : D -> Prop} {Q : VK} (r : ay K H σ δ) (h : rB caps ti tt te δ P)
  (fin : ∀ H0 D ys ds, H0 D = none -> aJ H H0 -> au K H0 ys ds -> P (.lst ds) -> Q (.ref D) (upd H0 D (.lst ys))) :
  qt 1 caps (fun σ H R => ∃ δ, ay K H σ δ /\ ti δ fun ds => ∀ J H1, aJ H H1 -> CF K J H1 ds -> R J H1) (gJ 0) (pT (oT K tt)) (pS (oE K te)) σ H Q := by
 refine ⟨δ, r, mi _ _ _ (fun ds ⟨outs, hol, each, hlen, q⟩ J H1 s1 it D hD => ?_) h⟩
 refine ⟨fun i m ys H' => m = ds.length - i /\ i <= ds.length /\ ∃ H0, H0 D = none /\ aJ H1 H0 /\ au K H0 ys ((outs.take i).filterMap id) /\ H' = upd H0 D (.lst ys), ⟨ds.length, rfl, Nat.zero_le _, H1, hD, aJ.refl _, .nil, rfl⟩, ?_⟩
 rintro i m ys H' ⟨rfl, hle, H0, h0, s0, dys, rfl⟩
 refine ⟨aI, ?_⟩
 have sU : aJ H1 (upd H0 D (.lst ys)) := s0.trans (aN h0)
 by_cases hlt : i < ds.length
 ·refine .inr ⟨it.go i _ sU hlt, fun x H'' y => ?_⟩
  obtain ⟨s2, d, hd, Hx, sx1, dvx, only, sx⟩ := it.wI i _ x H'' sU hlt y
  have hD2 : H'' D = some (.lst ys) := s2 _ _ aI
  have ne1 : ∀ a o, H1 a = some o -> a ≠ D := fun a o z => aS z hD
  have nex : ∀ a o, Hx a = some o -> a ≠ D := fun a o z w => by
   rcases only a o z with z1 | z1
   ·exact ne1 a o z1 w
   ·rw [w, aI] at z1; cases z1
  have sd1 : aJ H0 (del H'' D) := fun a o z => by
   rw [cK (aS z h0)]
   exact s2 a o (aN h0 a o z)
  have sdx : aJ Hx (del H'' D) := fun a o z => by
   rw [cK (nex a o z)]
   exact sx a o z
  obtain ⟨o, ho⟩ : ∃ o, outs[i]? = some o := ⟨_, List.getElem?_eq_getElem (show i < outs.length by omega)⟩
  have rel : ay K (del H'' D) (some x :: caps.map fun j => (σ[j]?).getD none) (some d :: ie caps δ) := oK (r.same (s1.trans (s0.trans sd1))) (dvx.same sdx) caps
  refine ⟨Le.one, D, ys, hD2, _, rel, mt _ _ _ (fun b ⟨eb, hb⟩ H3 s3 h3 => ?_) (each i d o hd ho)⟩
  have ht : outs.take (i + 1) = outs.take i ++ [o] := by rw [List.take_succ, ho]; rfl
  have s03 : aJ H0 H3 := sd1.trans s3
  cases b with
  | false =>
   refine aK ?_
   refine ⟨ds.length - (i + 1), by omega, rfl, hlt, H3, h3, s0.trans s03, ?_, rfl⟩
   have on : o = none := by cases o with | none => rfl | some z => cases eb
   rw [ht, on, List.filterMap_append]
   simpa using dys.same s03
  | true =>
   refine aO ?_
   refine ⟨D, ys, aI, ?_⟩
   rw [oQ h3]
   refine ⟨_, rel.same s3, me _ _ _ (fun y ey v H4 s4 dv h4 => ⟨aI, ?_, ds.length - (i + 1), by omega, rfl, hlt, H4, h4, s0.trans (s03.trans s4), ?_, jr⟩) (hb rfl)⟩
   ·rw [dys.length]
    exact Nat.lt_of_le_of_lt (Nat.le_trans (List.length_filterMap_le _ _) (List.length_take_le' _ _)) (by rw [hol]; exact hlen)
   ·rw [ht, ey, List.filterMap_append]
    exact (dys.same (s03.trans s4)).append (.cons dv .nil)
 ·have e : i = ds.length := by omega
  subst e
  refine .inl ⟨it.stop _ sU, ?_⟩
  rw [<- hol, List.take_length] at dys
  exact fin H0 D ys _ h0 (s1.trans s0) dys q
section
variable {X : Cx} {scope : Scope} {cl : List (Str × Addr)} {x : Str} {cn : List Str} {caps : List Nat} {elt tg iter : Expr} {ifs : List Expr} {ti : AD} {tt : TD} {te : ED} {pos : Pos}
end
section
variable {X : Cx} {e ke : Expr} {te tk : ED} {i : Nat} {x : Str} {p pos pos' : Pos}
def Bq (i : Nat) (tk te : ED) : jw := fun E δ μ => te (cX μ δ) fun d => fS d = true /\ ∃ a ds, δ[i]? = some (some (.adr a)) /\ μ.lookup a = some (.lst ds) /\ tk (cX μ δ) fun y => ∃ k j, y = .int k /\ AE ds.length k = some j /\ E.nx δ (ky a (.lst (ds.set j d)) μ)
theorem au.setAt {K : PySem.W.Frag} {H : Hp} {v : V} {d : D} (hv : Dv K H v d) : ∀ {vs : List V} {ds : List D} (j : Nat), au K H vs ds -> au K H (vs.set j v) (ds.set j d)
 | _, _, _, .nil => .nil
 | _, _, 0, .cons _ r => .cons hv r
 | _, _, j + 1, .cons h r => .cons h (au.setAt hv j r)
theorem Ag (hi : X.N[i]? = some x) (hv : wO X.env.scope x) (hk : PD X ke tk) (he : PD X e te) (hd : (x == ("__debug__" : Str)) = false := by decide) (hcd : (x == ("__classdict__" : Str)) = false := by decide)
  (hs : swapsWithSole [.Subscript (.Name x p) ke pos'] e pos.line X.env = pure false := by rfl) (hw : swappedStores [.Subscript (.Name x p) ke pos'] e X.env = pure none := by rfl)
  (h1 : (assignEach [.Subscript (.Name x p) ke pos'] X.env).map (·.2) = [assign (.Subscript (.Name x p) ke pos') X.env] := by rfl)
  (ha : ∀ v, assign (.Subscript (.Name x p) ke pos') X.env v = (do
   let ov <- holding [v] (eval (.Name x p) X.env)
   let iv <- holding [v, ov] (eval ke X.env)
   standAt pos'
   holding [v, ov, iv] (setItem ov iv v)
   release [v, ov, iv] []) := by intro _; rfl) : zL X (.Assign [.Subscript (.Name x p) ke pos'] e pos) (Bq i tk te) := by
 refine ⟨PS.imp (Dw he.pe (Dr (iu hi hv hd hcd) hk.pe set_list ha) hs hw h1) fun D σ H ⟨δ, μ, L, r, g, q⟩ => ⟨_, g.cX r, he.mono _ _ _ (fun d ⟨fl, a, ds, k1, k2, q⟩ v H1 s1 dv => ?_) q⟩,
  fun E E' δ μ l q => he.mono _ _ _ (fun d ⟨fl, a, ds, k1, k2, q⟩ => ⟨fl, a, ds, k1, k2, hk.mono _ _ _ (fun y ⟨k, j, e1, e2, q⟩ => ⟨k, j, e1, e2, l.nx _ _ q⟩) q⟩) q⟩
 obtain ⟨w, hv1, dvw⟩ := r.get i _ k1
 cases dvw
 refine ⟨_, hv1, _, (g.on s1).cX (r.same (eW s1)), hk.mono _ _ _ (fun y ⟨k, j, ey, ej, q⟩ u H2 s2 du => ?_) q⟩
 subst ey
 cases du
 have s12 := s1.trans s2
 have g2 := g.on s12
 obtain ⟨haL, vs, hH, dvs⟩ := g2.at_ _ (mem_of_lookup k2)
 refine ⟨a, vs, k, j, rfl, rfl, hH, by rw [dvs.length]; exact ej, ?_⟩
 have e3 : aY (upd H2 a (.lst (vs.set j v))) L = aY H2 L := gj haL
 exact q σ _ L (by rw [e3]; exact eW s12) (by rw [e3]; exact r.same (eW s12)) (g2.putL haL hH (dvs.setAt (dv.zw fl) j))
end
def pO : cY := fun ds Q => ∃ xs, (ds = [.lst xs] \/ ds = [.tup xs]) /\ Q (.tup xs)
theorem Aa : bS pO := fun ds P P' g ⟨xs, e, q⟩ => ⟨xs, e, g _ q⟩
theorem rW {K : PySem.W.Frag} : lK K (fun xs H Q => ∃ p ys, xs = [.ref p] /\ ((ck K H p ys /\ ∀ l, H l = none -> Q (.ref l) (upd H l (.tup ys))) \/ (eT K H p ys /\ Q (.ref p) H))) pO := by
 intro H vs ds Q dvs ⟨xs, e, q⟩
 rcases e with e | e
 ·subst e
  cases dvs with
  | cons dv r =>
   cases r
   cases dv with
   | lst h1 h2 => exact ⟨_, _, rfl, .inl ⟨h1, fun l hl => q _ _ (aN hl) (.tup (eT.of aI) (h2.same (aN hl)))⟩⟩
 ·subst e
  cases dvs with
  | cons dv r =>
   cases r
   cases dv with
   | tup h1 h2 => exact ⟨_, _, rfl, .inr ⟨h1, q _ H (aJ.refl _) (.tup h1 h2)⟩⟩
theorem boot_dict : bootBuiltins "dict" = some (.type "dict") := by decide +kernel
def sk : cY := fun ds Q => ∃ kvs, ds = [.dK kvs] /\ Q (.dK kvs)
theorem DI : bS sk := fun ds P P' g ⟨xs, e, q⟩ => ⟨xs, e, g _ q⟩
theorem oJ {X : Cx} : gS X (.type "dict") (fun xs H Q => ∃ p kvs, xs = [.ref p] /\ Rd H p (.dK kvs) /\ ∀ l, H l = none -> Q (.ref l) (upd H l (.dK kvs))) := by
 intro pins s σ H xs us Q I r h
 obtain ⟨p, kvs, rfl, hq, q⟩ := h
 obtain ⟨u, rfl, rx⟩ := vals1 r
 cases rx
 obtain ⟨z, y, vs, rel, dd⟩ := nB I.ao hq
 refine kt_call_dict y dd (by rw [<- rel.length]; exact z) fun h' dd' hs => ?_
 have kp : ∀ b o, s.heap.get? b = some o -> h'.get? b = some o := fun b o e => (hs.2 b (Nat.ne_of_lt (Heap.lt_size e))).trans (Heap.get?_push_of_some _ e)
 exact ⟨.ref s.heap.objs.size, _, I.laid (t' := s.toks) kp (Nat.le_refl _) (w_ z (beq_eq_false_iff_ne.mpr (Ne.symm (Nat.ne_of_lt I.big))) rel dd'), rfl, q _ (I.ao.fresh (Nat.le_refl _))⟩
theorem uw {K : PySem.W.Frag} : lK K (fun xs H Q => ∃ p kvs, xs = [.ref p] /\ Rd H p (.dK kvs) /\ ∀ l, H l = none -> Q (.ref l) (upd H l (.dK kvs))) sk := by
 intro H vs ds Q dvs ⟨kvs, e, q⟩
 subst e
 cases dvs with
 | cons dv r =>
  cases r
  cases dv with
  | dK h1 h2 => exact ⟨_, _, rfl, h1, fun l hl => q _ _ (aN hl) (.dK (.of aI) (h2.same (aN hl)))⟩
section
variable {X : Cx} {o e : Expr} {es : List Expr} {t : AD} {to te : ED} {pos p p1 p2 tp apos cpos : Pos}
theorem ig (hg : Gl X "tuple") (hm : X.mg "tuple" = none) (ha : jE X (e :: es) t) (h1 : starEach (e :: es) X.env = (false, eval e X.env) :: starEach es X.env := by rfl) (h2 : (backTo pos (starEach es X.env)).any (·.1) = false := by rfl) : PD X (.Call (.Name "tuple" p) (e :: es) [] pos) (vB pO t) := uo (j9 mY hg hm boot_tuple ha.pa (he := h1) (hpl := h2)) ha.mono rW Aa
theorem uq (hg : Gl X "dict") (hm : X.mg "dict" = none) (ha : jE X (e :: es) t) (h1 : starEach (e :: es) X.env = (false, eval e X.env) :: starEach es X.env := by rfl) (h2 : (backTo pos (starEach es X.env)).any (·.1) = false := by rfl) : PD X (.Call (.Name "dict" p) (e :: es) [] pos) (vB sk t) := uo (j9 oJ hg hm boot_dict ha.pa (he := h1) (hpl := h2)) ha.mono uw DI
theorem uT : ∀ {ws : List Str} {us : List Value}, Vals (ws.map V.str) us -> us.countP (fun y => match y with | .str z _ => decide (z = w) | _ => false) = ws.countP (fun z => decide (z = w))
 | [], _, .nil => rfl
 | z :: ws, _, .cons h r => by
  obtain ⟨t, rfl⟩ := h
  rw [List.countP_cons, List.countP_cons, uT r]
theorem nX : ∀ {ws : List Str} {us : List Value}, Vals (ws.map V.str) us -> ∀ y ∈ us, ∃ z t, y = Value.str z t
 | [], _, .nil, y, h => nomatch h
 | z :: ws, _, .cons h r, y, hy => by
  obtain ⟨t, rfl⟩ := h
  rcases List.mem_cons.mp hy with rfl | hy
  ·exact ⟨z, t, rfl⟩
  ·exact nX r y hy
theorem vO : IJ X "list.count" (fun x xs H Q => ∃ (a : Addr) (ws : List Str) (z : Str), x = .ref a /\ xs = [.str z] /\ ck X.K H a (ws.map V.str) /\ Q (.int ((ws.countP (fun y => decide (y = z)) : Nat) : Int)) H) := by
 intro pins s σ H x xs v us Q I rx rs h
 obtain ⟨a, ws, z, rfl, rfl, hS, q⟩ := h
 cases rx
 obtain ⟨u, rfl, ru⟩ := rs.one
 obtain ⟨tu, rfl⟩ := (show ∃ t, u = Value.str z t from ru)
 obtain ⟨its, rv, ⟨o, n, e, ec, _, d⟩, _⟩ := I.list hS
 obtain ⟨oc, od, oda, osl⟩ := o
 cases (show oc = Value.type "list" from ec)
 cases (show oda = Data.seq its.toArray n from d)
 refine call_meets PySem.F.slot_list_count ⟨_, e, rfl⟩ PySem.F.entry_list_count (PySem.F.args_list_count_2 _ _) (SeqAt.list_countAt a its.toArray n od osl (.str z tu) (fun y => match y with | .str z' _ => decide (z' = z) | _ => false)) ⟨e, fun y hy => ?_, ?_⟩
 ·obtain ⟨z', t, rfl⟩ := nX rv y (List.mem_toArray.mp hy)
  exact SeqAt.EqAt.str_str z' t z tu
 ·refine ⟨.int ((ws.countP (fun y => decide (y = z)) : Nat) : Int), H, I.tok _, ⟨s.toks, ?_⟩, q⟩
  rw [<- uT rv]
def BX (to : ED) (t : AD) : ED := fun δ Q => to δ fun d => ∃ ws : List Str, d = .lst (ws.map D.str) /\ t δ fun ds => ∃ z, ds = [.str z] /\ Q (.int ((ws.countP (fun y => decide (y = z)) : Nat) : Int))
theorem wo (ho : PD X o to) (ha : jE X (e :: es) t) (hbase : attributeBase o "count" X.env (eval o X.env) = eval o X.env := by rfl)
  (hfew : ((backTo cpos (starEach (e :: es) X.env)).all (fun x => !x.1) && (backToKw cpos (keywordEach [] X.env)).all (fun x => x.1.isSome) && decide ((e :: es).length + ([] : List Keyword).length + (if ([] : List Keyword).isEmpty then 0 else 1) < 30)) = true := by rfl)
  (hline : (apos.endLine == cpos.line) = true := by rfl) (hs : starEach (e :: es) X.env = (false, eval e X.env) :: starEach es X.env := by rfl) (hplain : (backTo cpos (starEach es X.env)).any (·.1) = false := by rfl) :
  PD X (.Call (.Attribute o "count" apos) (e :: es) [] cpos) (BX to t) := by
 refine ⟨(yQ PySem.F.plainAttrs_list PySem.F.slot_list_count PySem.F.type_list_count vO ho.pe ha.pa hbase hfew hline hs hplain).imp fun σ H Q ⟨δ, r, h⟩ => ⟨δ, r, ho.mono _ _ _ (fun z ⟨bs, ez, q⟩ v H1 s1 dv => ?_) h⟩,
  fun δ P P' g h => ho.mono _ _ _ (fun z ⟨bs, ez, q⟩ => ⟨bs, ez, ha.mono _ _ _ (fun ds ⟨w, e1, k⟩ => ⟨w, e1, g _ k⟩) q⟩) h⟩
 subst ez
 cases dv with
 | lst h1 h2 =>
  rw [rD h2] at h1
  refine ⟨.inl ⟨rfl, _, h1⟩, δ, r.same s1, ha.mono _ _ _ (fun ds ⟨w, e1, k⟩ vs H2 s2 dvs => ?_) q⟩
  subst e1
  cases dvs with
  | cons a b =>
   cases a
   cases b
   exact ⟨_, bs, w, rfl, rfl, s2.seq h1, k _ _ (s1.trans s2) (.int _)⟩
theorem rN {C1 C2 : Addr} : gS X (.builtin "isinstance") (fun xs H Q => ∃ x q a C gs b, xs = [x, .ref q] /\ H q = some (.tup [.ref C1, .ref C2]) /\ Dv X.K H x (.exc a C gs) /\ gU X.K C /\ PySem.W.kitAny X.K (.ref C) [.ref C1, .ref C2] = some b /\ Q (.bl b) H) := by
 intro pins s σ H xs us Q I r h
 obtain ⟨x, q, a, C, gs, b, rfl, hq, dv, ty, e, k⟩ := h
 obtain ⟨u, w', rfl, r1, r2⟩ := vals2 r
 cases (show w' = Value.ref q from r2)
 obtain ⟨its, rv, ht, _⟩ := I.tuple (eT.of hq)
 obtain ⟨ob, ho, hc, n, hd⟩ := id ht
 obtain ⟨y1, y2, rfl, z1, z2⟩ := vals2 rv
 cases (show y1 = Value.ref C1 from z1)
 cases (show y2 = Value.ref C2 from z2)
 obtain ⟨cls, dd, data, sl⟩ := ob
 simp only at hc hd
 subst hc hd
 cases dv with
 | exc h1 h2 h3 =>
  cases (show u = Value.ref a from r1)
  obtain ⟨ox, od, J⟩ := qC I.ao h1 h2
  exact PySem.W.kia_tup (qX (ox := ox) (od := od) ty) I.iN J ho e (fun z => nomatch z) fun tk => ⟨.bl b, H, I.tok _, rfl, k⟩
def EO (K : PySem.W.Frag) (C1 C2 : Addr) (te : ED) : ED := fun δ Q => te δ fun d => ∃ a C gs b, d = .exc a C gs /\ gU K C /\ PySem.W.kitAny K (.ref C) [.ref C1, .ref C2] = some b /\ Q (.bl b)
theorem zd (K : PySem.W.Frag) (hK : X.K = K) {C1 C2 : Addr} {x y : Str} {c : Nat} (he : PD X e te) (hg : Gl X "isinstance") (hm : X.mg "isinstance" = none) (g1 : Gl X x) (m1 : X.mg x = some (.ref C1)) (g2 : Gl X y) (m2 : X.mg y = some (.ref C2))
  (d1 : (x == ("__debug__" : Str)) = false := by decide) (d2 : (y == ("__debug__" : Str)) = false := by decide)
  (hs : starEach [e, .Tuple [.Name x p1, .Name y p2] c tp] X.env = (false, eval e X.env) :: starEach [.Tuple [.Name x p1, .Name y p2] c tp] X.env := by rfl) :
  PD X (.Call (.Name "isinstance" p) [e, .Tuple [.Name x p1, .Name y p2] c tp] [] pos) (EO K C1 C2 te) := by
 subst hK
 refine ⟨(eC (rN (C1 := C1) (C2 := C2)) hg hm boot_isinstance (b_ he.pe (b_ (yX (b_ (lG (v := .ref C1) g1 m1 rfl d1) (b_ (lG (v := .ref C2) g2 m2 rfl d2) gu))) gu) hs) (he := hs)).imp
  fun σ H Q ⟨δ, r, h⟩ => ⟨δ, r, he.mono _ _ _ (fun d ⟨a, C, gs, b, ed, ty, ek, k⟩ v H1 s1 dv => ⟨(show 2 <= sizeLine by decide), fun q hq => ?_⟩) h⟩, fun δ P P' g h => he.mono _ _ _ (fun d ⟨a, C, gs, b, ed, ty, ek, k⟩ => ⟨a, C, gs, b, ed, ty, ek, g _ k⟩) h⟩
 exact ⟨v, q, a, C, gs, b, rfl, aI, (ed ▸ dv).same (aN hq), ty, ek, k _ _ (s1.trans (aN hq)) (.bl _)⟩
end
section
variable {X : Cx} {a b : Expr} {ta tb : ED} {pos : Pos} {k : Nat}
def valsOk (kvs : List (Key × D)) : Prop := ∀ p ∈ kvs, plain p.2 = true /\ SeqAt.shaped (kJ p.2) = true
theorem pZ {κ : Type} [DecidableEq κ] {y : Value} {k : κ} : ∀ {pre post : List (κ × Value)}, ((pre ++ (k, y) :: post).map (·.1)).Nodup -> valueAt (pre ++ (k, y) :: post) k = some y
 | [], _, _ => by unfold valueAt; rw [List.nil_append, List.find?_cons]; simp
 | q :: pre, post, nd => by
  rw [List.cons_append, List.map_cons, List.nodup_cons] at nd
  have ne : ¬ q.1 = k := fun e => nd.1 (by rw [e, List.map_append, List.map_cons]; exact List.mem_append_right _ List.mem_cons_self)
  have ih := pZ (pre := pre) nd.2
  unfold valueAt at ih ⊢
  rw [List.cons_append, List.find?_cons]
  simp only [ne, decide_false]
  exact ih
theorem u7 {pins : List (Addr × Obj)} {σ : L2.St} {H : Hp} {s : Shared} (I : Inv X pins σ H s) (hu : X.A.units + 65 < cLine) {whole : List (Key × Value)} (nd : (whole.map (·.1)).Nodup) : ∀ {ka kb : List (Key × V)} {va vb : List (Key × Value)} {kvs : List (Key × D)} {pre : List (Key × Value)},
  KV ka va -> KV kb vb -> dz X.K H ka kvs -> dz X.K H kb kvs -> valsOk kvs -> whole = pre ++ vb -> PySem.W.KeqHits X.A.in1 s whole va true := by
 intro ka kb va vb kvs
 induction kvs generalizing ka kb va vb with
 | nil =>
  intro pre r1 r2 d1 d2 ok e
  cases d1
  unfold KV at r1
  cases r1
  exact .nil
 | cons p kvs ih =>
  intro pre r1 r2 d1 d2 ok e
  cases d1 with
  | cons x1 d1 =>
   cases d2 with
   | cons x2 d2 =>
    unfold KV at r1 r2
    cases r1 with
    | @cons _ q1 _ qs1 h1 t1 =>
     cases r2 with
     | @cons _ q2 _ qs2 h2 t2 =>
      obtain ⟨k1, v1⟩ := q1
      obtain ⟨k2, v2⟩ := q2
      obtain ⟨e1, rv1⟩ := h1
      obtain ⟨e2, rv2⟩ := h2
      cases (show _ = k1 from e1)
      cases (show _ = k2 from e2)
      obtain ⟨pl, sh⟩ := ok _ List.mem_cons_self
      obtain ⟨as, p1⟩ := (x1.dat pl).reads I rv1
      obtain ⟨bs, p2⟩ := (x2.dat pl).reads I rv2
      have ev : PyData.eqv (kJ _) (kJ _) = true := SeqAt.eqv_refl _ (SeqAt.canLay_of_shaped sh)
      have q := PySem.W.keq_at (A := X.A) p1 p2 sh sh (by show X.A.units + 1 + 64 < cLine; omega)
      rw [ev] at q
      have rest := ih (pre := pre ++ [(_, v2)]) t1 t2 d1 d2 (fun p hp => ok p (List.mem_cons_of_mem _ hp)) (by rw [e, List.append_assoc]; rfl)
      refine PySem.W.KeqHits.hit (y := v2) ?_ q rest
      rw [e] at nd ⊢
      exact pZ nd
def Cj : F2 := fun d e Q => ∃ kvs, d = .dK kvs /\ e = .dK kvs /\ valsOk kvs /\ Q (.bl false)
theorem Fb : cg Cj := fun d e P P' g ⟨kvs, e1, e2, o, q⟩ => ⟨kvs, e1, e2, o, g _ q⟩
def F1 (K : PySem.W.Frag) : R2 := fun x y H Q => ∃ a b ka kb kvs, x = .ref a /\ y = .ref b /\ Rd H a (.dK ka) /\ Rd H b (.dK kb) /\ dz K H ka kvs /\ dz K H kb kvs /\ valsOk kvs /\ Q (.bl false) H
theorem Dc (hu : X.A.units + 65 < cLine) : fB X (compareOp .NotEq) (F1 X.K) := by
 intro pins s σ H x y v u Q I rx ry h
 obtain ⟨a, b, ka, kb, kvs, rfl, rfl, ra, rb, da, db, ok, q⟩ := h
 cases rx
 cases ry
 obtain ⟨z1, y1, va, rel1, dd1⟩ := nB I.ao ra
 obtain ⟨z2, y2, vb, rel2, dd2⟩ := nB I.ao rb
 have nd : (vb.map (·.1)).Nodup := let ⟨_, _, _, _, _, _, _, _, hn⟩ := dd2; hn
 have el : va.length = vb.length := by rw [<- rel1.length, <- rel2.length, da.length, db.length]
 refine PySem.W.keq_ne (r := true) y1 y2 dd1 dd2 (by omega) (fun _ => u7 (pre := []) I hu nd rel1 rel2 da db ok rfl) ⟨.bl false, H, I, ?_, q⟩
 show Value.bool _ = Value.bool false
 rw [el]
 simp
theorem xF {K : PySem.W.Frag} : e_ K (F1 K) Cj := by
 rintro H v u d e Q hv hu ⟨kvs, rfl, rfl, ok, q⟩
 cases hv with
 | dK h1 h2 =>
  cases hu with
  | dK g1 g2 => exact ⟨_, _, _, _, kvs, rfl, rfl, h1, g1, h2, g2, ok, q _ H (aJ.refl _) (.bl _)⟩
theorem GQ (hr : az k X.A) (ha : PD X a ta) (hb : PD X b tb) : jt X (.Compare a [.NotEq] [b] pos) (fj (mM Cj ta tb)) := jq (Dc (by have := hr.un; omega)) xF Fb ha hb (eA _)
end
end DC
namespace L2
open PySem PySem.Spec PyProof.Rows
open AutoSeq1 (wpAny_loadPart')
theorem gq (l : Addr) (items : Array Value) (n : Nat) (dct : Option Addr) (sl : Array (Option Value)) :
  Meets (Builtin.«enumerate.__new__» ⟨[.type "enumerate", .ref l], []⟩) (fun _ R s => s.heap.get? l = some { cls := .type "tuple", dict := dct, data := .seq items n, slots := sl } /\
   R (.ok (.ret (.ref (s.heap.push { cls := .type "tuple_iterator", data := .fields #[.ref l, .int 0 0] }).objs.size)))
    { s with heap := (s.heap.push { cls := .type "tuple_iterator", data := .fields #[.ref l, .int 0 0] }).push { cls := .type "enumerate", data := .fields #[.none, .bool false, .ref s.heap.objs.size, rawInt 0, .none, .none] } }) :=
 .of_wp fun prog w A R s h => by
  obtain ⟨hp, g, d, tk, os⟩ := s; obtain ⟨hl, h⟩ := h
  have hsub := sub_enumerate
  have hL : Heap.IsTuple (Shared.heap ⟨hp, g, d, tk, os⟩) l items := ⟨_, hl, rfl, n, rfl⟩
  wp_walk using wpAny_loadPart' hl
  refine wpAny_stack_any fun st => wpAny_pure ?_
  split
  ·rename_i c _ _ _ _ _
   cases (c == Value.type "enumerate")
   ·wp_walk using wpAny_loadPart' hl, wpAny_pyIter_tuple hL
    exact ⟨_, rfl, h⟩
   ·wp_walk using wpAny_loadPart' hl, wpAny_pyIter_tuple hL
    exact ⟨_, rfl, h⟩
  ·wp_walk using wpAny_loadPart' hl, wpAny_pyIter_tuple hL
   exact ⟨_, rfl, h⟩
section
variable {prog : Program} {w : World} {A : Around} {E : Value -> Shared -> Prop} {s : Shared}
theorem gb {l : Addr} {items : Array Value} {Q : Value -> Shared -> Prop} (hL : s.heap.IsTuple l items)
  (h : ∀ h', IsEnum h' (s.heap.objs.size + 1) s.heap.objs.size 0 .none -> h'.IsTupleIter s.heap.objs.size l 0 -> h'.objs.size = s.heap.objs.size + 2 ->
   (∀ b o, s.heap.get? b = some o -> h'.get? b = some o) -> Q (.ref (s.heap.objs.size + 1)) { s with heap := h' }) :
  wpAny (model prog w) A (call (.type "enumerate") [.ref l]) Q E s := by
 obtain ⟨⟨c, dct, dt, sl⟩, hl, hc, n, hd⟩ := hL
 replace hc : c = .type "tuple" := hc
 replace hd : dt = .seq items n := hd
 subst hc hd
 refine callType_new F.called_enumerate (by decide) (F.typeCall_enumerate_1 _) (F.newCall_enumerate_1 _) (fun obj => F.args_object_init_2 obj _) F.entry_enumerate_new
  (gq l items n dct sl) ⟨hl, ?_⟩
 have hz : (s.heap.push { cls := .type "tuple_iterator", data := .fields #[.ref l, .int 0 0] }).objs.size = s.heap.objs.size + 1 := Heap.size_push ..
 show _ /\ _
 rw [hz]
 have he : IsEnum ((s.heap.push { cls := .type "tuple_iterator", data := .fields #[.ref l, .int 0 0] }).push
   { cls := .type "enumerate", data := .fields #[.none, .bool false, .ref s.heap.objs.size, rawInt 0, .none, .none] }) (s.heap.objs.size + 1) s.heap.objs.size 0 .none := by
  have := Heap.get?_push_size (s.heap.push { cls := .type "tuple_iterator", data := .fields #[.ref l, .int 0 0] })
   (o := { cls := .type "enumerate", data := .fields #[.none, .bool false, .ref s.heap.objs.size, rawInt 0, .none, .none] }) rfl
  rw [hz] at this; exact this
 refine ⟨⟨_, he, rfl⟩, h _ he ⟨_, Heap.get?_push_of_some _ (Heap.get?_push_size _ rfl), rfl, rfl⟩ (by rw [Heap.size_push, hz]) fun b o x => Heap.get?_push_of_some _ (Heap.get?_push_of_some _ x)⟩
theorem uy {it l : Addr} (xs : Array Value) (hh : A.handled = none) (hne : l ≠ it) : Draws prog w A it [it, l] xs.size (fun i x => xs[i]? = some x) (fun k h => h.IsTupleIter it l k /\ h.IsTuple l xs) where
 live := fun i h ⟨⟨o, e, _⟩, _⟩ => ⟨o, e⟩
 frame := fun i h h' ⟨h1, h2⟩ k => ⟨h1.at fun o q => k it (by simp) o q, by obtain ⟨o, e, r⟩ := h2; exact ⟨o, k l (by simp) o e, r⟩⟩
 item := fun i s Q E hi ⟨h1, h2⟩ hQ => oz h1 h2 (x := xs[i]) (by simp [hi]) fun h' h1' sb => hQ _ h' s.toks (by simp [hi]) ⟨h1', by obtain ⟨o, e, r⟩ := h2; exact ⟨o, sb.extBut _ _ hne e, r⟩⟩ sb
 done := fun s Q E ⟨h1, h2⟩ hE => kg hh h1 h2 (by simp) hE
end
def CG (K : PySem.W.Frag) (l : Addr) : It where
 go := fun i H => ∃ xs x, eT K H l xs /\ xs[i]? = some x
 wI := fun i H v H' => ∃ p x, H p = none /\ v = .ref p /\ H' = upd H p (.tup [.int (i : Int), x]) /\ ∀ xs, eT K H l xs -> xs[i]? = some x
 stop := fun i H => ∃ xs, eT K H l xs /\ xs[i]? = none
theorem tB {P : Program} {w : World} {K : PySem.W.Frag} {elts : List Expr} {c : Nat} {tp : Pos} {e it l : Addr} (hei : e ≠ it) (hle : l ≠ e) (hli : l ≠ it) :
  Turn P w K (.Tuple elts c tp) (CG K l) [e, it] e (fun i h => (∃ old, IsEnum h e it i old) /\ h.IsTupleIter it l i) where
 mem := by simp
 obj := fun i h ⟨⟨old, he⟩, hit⟩ q hq => by
  simp only [List.mem_cons, List.not_mem_nil, or_false] at hq
  rcases hq with rfl | rfl
  ·exact ⟨_, he, fun v z => by cases z⟩
  ·obtain ⟨o, z, _, d⟩ := hit
   exact ⟨o, z, fun v y => by rw [d] at y; cases y⟩
 keep := fun i h h' ⟨⟨old, he⟩, hit⟩ k => ⟨⟨old, k _ (by simp) _ he⟩, hit.at fun o z => k it (by simp) o z⟩
 item := by
  intro X hP hw hK hc i pins s σ H E I hf st hg
  subst hP hw hK
  obtain ⟨⟨old, he⟩, hit⟩ := st
  obtain ⟨xs, x, hq, hx⟩ := hg
  obtain ⟨its, rv, p, hz⟩ := I.tuple hq
  obtain ⟨u, hu, ru⟩ := rv.get hx
  have hlt : i < its.toArray.size := by rw [List.size_toArray]; exact (List.getElem?_eq_some_iff.mp hu).1
  refine wpAny_pyNext_enum_itemD (uy (A := X.A.in1) its.toArray (I.ok.hd hc) hli) he ⟨hit, p⟩ hlt hei (by simp [hei, Ne.symm hle]) fun x' h' tk hP ho hs' hT hsz hk => ?_
  obtain ⟨hit', _⟩ := hs'
  have ex : x' = u := by
   have q : its[i]? = some x' := by simpa using hP
   rw [hu] at q
   exact (Option.some.inj q).symm
  subst ex
  refine ⟨_, rfl, wpAny_letOwnedTupleGo_enum ho fun h'' he' sb => ?_⟩
  have elt : e < s.heap.objs.size := Heap.lt_size he
  have ilt : it < s.heap.objs.size := by obtain ⟨o, z, _⟩ := hit; exact Heap.lt_size z
  have up : ∀ b o, b ≠ e -> h'.get? b = some o -> h''.get? b = some o := fun b o nb q => (sb.2 b nb).trans q
  have I' := I.uV (h' := h'') (t' := tk + 1) (ch := [e, it]) (T := s.heap.objs.size) (u1 := .int (i : Int) tk) (u2 := x') (x := .int (i : Int)) (y := x)
   (fun b o hb q => by
    simp only [List.mem_cons, List.not_mem_nil, or_false, not_or] at hb
    exact up b o hb.1 (hk b o hb.1 hb.2 q)) hf (Nat.le_refl _) (up _ _ (Nat.ne_of_gt elt) hT) ⟨_, rfl⟩ ru
  refine ⟨.ref s.heap.objs.size, _, I', rfl, ⟨_, x, I.fresh, rfl, rfl, fun zs hz' => by rw [I.nh hz' hq]; exact hx⟩, ⟨⟨_, he'⟩, hit'.at fun o z => up it o (Ne.symm hei) z⟩, fun b hb => ?_⟩
  have hfb := (hf b hb).1
  rw [aH]
  ·exact hfb
  ·intro z
   have lt : b < s.heap.objs.size := by
    simp only [List.mem_cons, List.not_mem_nil, or_false] at hb
    rcases hb with rfl | rfl
    ·exact elt
    ·exact ilt
   rw [z] at lt
   exact Nat.lt_irrefl _ lt
 done := by
  intro X hP hw hK hc i pins s σ H E I hf st hg
  subst hP hw hK
  obtain ⟨⟨old, he⟩, hit⟩ := st
  obtain ⟨xs, hq, hx⟩ := hg
  obtain ⟨its, rv, p, hz⟩ := I.tuple hq
  have hl := rv.length
  have hge : its.length <= i := by rw [List.getElem?_eq_none_iff] at hx; omega
  have D : Draws X.prog X.w X.A.in1 it [it, l] i (fun i x => its.toArray[i]? = some x) (fun k h => k = i /\ h.IsTupleIter it l k /\ h.IsTuple l its.toArray) := {
   live := fun i h ⟨_, ⟨o, e, _⟩, _⟩ => ⟨o, e⟩
   frame := fun i h h' ⟨h0, h1, h2⟩ k => ⟨h0, h1.at fun o q => k it (by simp) o q, by obtain ⟨o, e, r⟩ := h2; exact ⟨o, k l (by simp) o e, r⟩⟩
   item := fun k s Q E hi ⟨h0, _⟩ hQ => absurd hi (by omega)
   done := fun s Q E ⟨_, h1, h2⟩ hE => kg (I.ok.hd hc) h1 h2 (by simp; omega) hE }
  refine wpAny_pyNext_enum_endD D he ⟨rfl, hit, p⟩ fun h' eb => ⟨rfl, I.uU (t' := s.toks) (ch := [e, it]) (fun b o hb q => ?_) hf⟩
  simp only [List.mem_cons, List.not_mem_nil, or_false, not_or] at hb
  exact eb b o hb.2 q
 self := fun _ _ _ _ _ st h => let ⟨⟨_, he⟩, _⟩ := st; wpAny_pyIter_enum he h
section
variable {X : Cx} {e1 : Expr} {ta : TA} {p pos tp : Pos} {elts : List Expr} {c : Nat}
def Cu (K : PySem.W.Frag) (ta : TA) : TI := fun σ H R => ta σ H fun vs H1 => ∃ l xs, vs = [.ref l] /\ eT K H1 l xs /\ R (CG K l) H1
theorem yZ (hg : Gl X "enumerate") (hm : X.mg "enumerate" = none) (ha : PA X [e1] ta) (hs : starEach [e1] X.env = [(false, eval e1 X.env)] := by rfl) :
  PI X (.Tuple elts c tp) (.Call (.Name "enumerate" p) [e1] [] pos) (Cu X.K ta) := by
 intro pins s σ H R I h
 refine Call_ (ip I hg hm boot_enumerate (PyProof.Rows.callWith_type1 (bE (ha pos pins s σ H _ I h) fun us s1 ⟨vs, H1, I1, r1, q1⟩ => ?_) (by rw [hs]; rfl) rfl))
 obtain ⟨l, xs, e, hq, q⟩ := q1
 subst e
 obtain ⟨u, rfl, ru⟩ := r1.one
 cases (show u = Value.ref l from ru)
 obtain ⟨its, rv, pl, hz⟩ := I1.tuple hq
 have llt : l < s1.heap.objs.size := by obtain ⟨o, z, _⟩ := pl; exact Heap.lt_size z
 refine gb pl fun h' a1 a2 a3 a4 => wpAny_pyIter_enum a1 ?_
 have I2 : Inv X pins σ H1 { s1 with heap := h' } := I1.kept (t' := s1.toks) a4
 refine ⟨_, [s1.heap.objs.size + 1, s1.heap.objs.size], _, _, H1, rfl, I2, tB (l := l) (Nat.succ_ne_self _) (Nat.ne_of_lt (Nat.lt_succ_of_lt llt)) (Nat.ne_of_lt llt), ⟨⟨_, a1⟩, a2⟩, fun b hb => ?_, q⟩
 have hb' : s1.heap.objs.size <= b := by
  simp only [List.mem_cons, List.not_mem_nil, or_false] at hb
  rcases hb with rfl | rfl
  ·exact Nat.le_add_right _ _
  ·exact Nat.le_refl _
 exact I1.xQ hb' (I1.ao.fresh hb')
end
end L2
namespace DC
open PySem PySem.Spec PyProof.Rows L2
theorem xZ {K : PySem.W.Frag} {H : Hp} {l : Addr} {xs : List V} {ds : List D} (h1 : eT K H l xs) (d1 : au K H xs ds) : CF K (CG K l) H (zN 0 ds) := by
 have hl := jL 0 ds
 refine ⟨fun i H' s' hi => ?_, fun H' s' => ⟨xs, kh s' h1, ?_⟩, fun i H' x H'' s' hi y => ?_⟩
 ·rw [hl] at hi
  obtain ⟨v1, g1, _⟩ := d1.get (List.getElem?_eq_getElem hi)
  exact ⟨xs, v1, kh s' h1, g1⟩
 ·rw [hl, List.getElem?_eq_none_iff, d1.length]
  exact Nat.le_refl _
 ·obtain ⟨q, u, hn, rfl, rfl, y1⟩ := y
  obtain ⟨a1, g1, v1⟩ := d1.xT (y1 _ (kh s' h1))
  have hnH : H q = none := s'.free hn
  refine ⟨aN hn, .tup [.int (i : Int), a1], by rw [lA, g1, Nat.zero_add]; rfl, upd H q (.tup [.int (i : Int), u]), aN hnH, .tup (eT.of aI) (.cons (.int _) (.cons (v1.same (aN hnH)) .nil)), fun a o z => ?_, fun a o z => ?_⟩
  ·by_cases ha : a = q
   ·rw [ha]; exact .inr hn
   ·rw [aH ha] at z; exact .inl z
  ·by_cases ha : a = q
   ·rw [ha] at z ⊢; rw [aI] at z ⊢; exact z
   ·rw [aH ha] at z ⊢; exact s' _ _ z
section
variable {X : Cx} {e1 : Expr} {ta : AD} {p pos tp : Pos} {elts : List Expr} {c : Nat}
def CM (ta : AD) : AD := fun δ Q => ta δ fun ds => ∃ xs, ds = [.tup xs] /\ Q (zN 0 xs)
theorem zz (hg : Gl X "enumerate") (hm : X.mg "enumerate" = none) (ha : jE X [e1] ta) (hs : starEach [e1] X.env = [(false, eval e1 X.env)] := by rfl) :
  PId X (.Tuple elts c tp) (.Call (.Name "enumerate" p) [e1] [] pos) (CM ta) := by
 refine ⟨PI.imp (yZ hg hm ha.pa hs) fun σ H R ⟨δ, r, h⟩ => ⟨δ, r, ha.mono _ _ _ (fun ds ⟨xs, ed, q⟩ vs H1 sm dvs => ?_) h⟩, fun δ P P' g h => ha.mono _ _ _ (fun ds ⟨xs, ed, q⟩ => ⟨xs, ed, g _ q⟩) h⟩
 subst ed
 cases dvs with
 | cons a r =>
  cases r
  cases a with
  | tup g1 v1 => exact ⟨_, _, rfl, g1, q _ H1 sm (xZ g1 v1)⟩
end
section
variable {P : Program} {w : World} {K : PySem.W.Frag} {mg : Str -> Option Value} {base : Heap}
theorem HX {x qual : Str} {st : Stmt} {f : Addr} {fd : FuncData} {N ps : List Str} {k : Nat} {sx : mw} {t : XR -> jw} (F : mW K x qual st f fd) (S : aF N ps (aC st)) (len : ∀ ds Q R, sx ds Q R -> ds.length = ps.length)
  (hb : ∀ (cdv : Value) (A : Around) (outer : List Env) (s : Shared) (H : Hp) (E : XK) (R : XR), az k (A.deeper (envOfC qual (aC st) s.heap.objs.size f cdv)) -> fD (uY P w K mg base N qual st f cdv A outer s H E) (fun _ => R) -> tM (uY P w K mg base N qual st f cdv A outer s H E) (af st) (t R))
  (hr : ∀ ds Q R, sx ds Q R -> t R { nx := fun _ _ => Q .aW, rt := fun d μ => Q (bT μ d) } (bM N ds) []) : bX P w K mg base (mn P w) (k + 1) f fd ps (BP K sx) := by
 obtain ⟨oc, od, dV, kV, doc, pm, an, cdv, ct, osl, rfl, lk, hcd⟩ := F.ex
 refine qF lk hcd S (fun vs H Q E ⟨ds, dvs, h⟩ => by rw [dvs.length]; exact len ds _ _ h) fun A outer s H vs Q E hroom ⟨ds, dvs, h⟩ => ?_
 have B := hb cdv A outer s H E (kX K E) hroom wQ
 refine ⟨_, B.ps, bM N ds, [], [], by rw [dF]; exact dq dvs, eU.nil, ?_⟩
 let Q' : D -> Prop := fun d => ∀ v H', Dv K H' v d -> Q v H'
 exact B.mono { nx := fun _ _ => Q' .aW, rt := fun d μ => Q' (bT μ d) } _ _ _ ⟨fun δ μ q σ H' L' s' r g => q _ H' .aW, fun d μ q v H' L' s' g dv => q v H' (g.view dv), fun _ _ q => q.elim, fun _ _ q => q.elim⟩ (hr ds _ _ h)
theorem Fi {x qual : Str} {st : Stmt} {f : Addr} {fd : FuncData} {N ps : List Str} {k : Nat} {sx : mw} {t : XR -> jw} (F : rG K x qual st f fd) (S : aF N ps (aC st)) (len : ∀ ds Q R, sx ds Q R -> ds.length = ps.length)
  (hb : ∀ (f : Addr) (cdv : Value) (A : Around) (outer : List Env) (s : Shared) (H : Hp) (E : XK) (R : XR), az k (A.deeper (envOfC qual (aC st) s.heap.objs.size f cdv)) -> fD (uY P w K mg base N qual st f cdv A outer s H E) (fun _ => R) -> tM (uY P w K mg base N qual st f cdv A outer s H E) (af st) (t R))
  (hr : ∀ ds Q R, sx ds Q R -> t R { nx := fun _ _ => Q .aW, rt := fun d μ => Q (bT μ d) } (bM N ds) []) : bX P w K mg base (mn P w) (k + 1) f fd ps (BP K sx) := HX (xR F) S len (hb f) hr
end
section
variable {X : Cx} {scope : Scope} {cl : List (Str × Addr)} {x : Str} {cn : List Str} {caps : List Nat} {elt tg iter : Expr} {ifs : List Expr} {ti : AD} {tt : TD} {te : ED} {pos : Pos}
def E3 (caps : List Nat) (ti : AD) (tt : TD) (te : ED) : EF := fun δ Q => rB caps ti tt te δ fun d => ∃ ds, d = .lst ds /\ ∀ a, Q (.adr a) [(a, .lst ds)]
end
def zP : XR := fun _ _ => False
theorem lN {X : Cx} : fD X (fun _ => zP) := fun _ _ _ _ _ _ _ _ _ _ _ _ _ _ _ h => h.elim
section
variable {X : Cx} {scope : Scope} {cl : List (Str × Addr)} {x : Str} {cn : List Str} {caps : List Nat} {elt tg iter : Expr} {ifs : List Expr} {ti : AD} {tt : TD} {te : ED} {pos : Pos}
theorem zv {K : PySem.W.Frag} {H : Hp} {Q : D -> Prop} {P : VK} (h : ∀ d, Q d -> kD K H P d) : ∀ H0 D ys ds, H0 D = none -> aJ H H0 -> au K H0 ys ds -> Q (.lst ds) -> P (.ref D) (upd H0 D (.lst ys)) := fun H0 D ys ds hn s0 dvs q => h _ q _ _ (s0.trans (aN hn)) (.lst (ck.of aI) (dvs.same (aN hn)))
theorem nA (S : bV X scope cl [x] caps cn) (hc : X.calm = true) (hi : PId X tg iter ti) (hg : ∀ C fp s₂ H₂, PG (ae X scope cl C ([x] ++ cn) fp s₂ H₂ zP) tg (gJ 0)) (ht : ∀ C fp s₂ H₂, rJ (ae X scope cl C ([x] ++ cn) fp s₂ H₂ zP) ifs tt)
  (he : ∀ C fp s₂ H₂, PD (ae X scope cl C ([x] ++ cn) fp s₂ H₂ zP) elt te) (hs : ∀ x, foldedSetIterable iter X.env x = pure x := by intro _; rfl) (hst : X.stack = X.env :: X.outer := by rfl) (hfr : X.env.frame = some X.env.locals := by rfl) : PD X (.ListComp elt [⟨tg, iter, ifs, 0⟩] scope pos) (rB caps ti tt te) :=
 ⟨(qo hst hfr lN S hc hi.pi hg (fun C fp s₂ H₂ => eD (ht C fp s₂ H₂).Ft) (fun C fp s₂ H₂ => fY (he C fp s₂ H₂).pe) hs).imp fun σ H Q ⟨δ, r, h⟩ => jz hi.mono (ht 0 [] X.s₀ X.H₀).mono (he 0 [] X.s₀ X.H₀).mono r h (zv fun _ q => q), rq hi.mono⟩
theorem B5 {i : Nat} {y : Str} {py spos : Pos} (hN : X.N.Nodup) (hi' : X.N[i]? = some y) (hy : Loc X.env.scope y) (S : bV X scope cl [x] caps cn) (hc : X.calm = true) (hi : PId X tg iter ti)
  (hg : ∀ C fp s₂ H₂, PG (ae X scope cl C ([x] ++ cn) fp s₂ H₂ zP) tg (gJ 0)) (ht : ∀ C fp s₂ H₂, rJ (ae X scope cl C ([x] ++ cn) fp s₂ H₂ zP) ifs tt) (he : ∀ C fp s₂ H₂, PD (ae X scope cl C ([x] ++ cn) fp s₂ H₂ zP) elt te)
  (hsw : swapsWith (.ListComp elt [⟨tg, iter, ifs, 0⟩] scope pos) (some (.Name y py)) spos.line X.env = pure true := by rfl) (hf : X.fn y = true \/ X.env.scope.names.lookup y = some .local := by first | exact .inl rfl | exact .inr rfl | assumption)
  (hs : ∀ x, foldedSetIterable iter X.env x = pure x := by intro _; rfl) (hst : X.stack = X.env :: X.outer := by rfl) (hfr : X.env.frame = some X.env.locals := by rfl) : tN X (.Assign [.Name y py] (.ListComp elt [⟨tg, iter, ifs, 0⟩] scope pos) spos) (BB i (rB caps ti tt te)) :=
 ⟨PS.imp (mE hst hfr lN hN hi' hy S hc hi.pi hg (fun C fp s₂ H₂ => eD (ht C fp s₂ H₂).Ft) (fun C fp s₂ H₂ => fY (he C fp s₂ H₂).pe) hsw hf hs) fun D σ H ⟨δ, r, h⟩ =>
   jz hi.mono (ht 0 [] X.s₀ X.H₀).mono (he 0 [] X.s₀ X.H₀).mono r h fun H0 a ys ds hn s0 dvs q => q _ _ (s0.trans (aN hn)) ((r.same (s0.trans (aN hn))).set i (.lst (ck.of aI) (dvs.same (aN hn)))),
  fun E E' δ l h => rq hi.mono _ _ _ (fun d q => l.nx _ q) h⟩
theorem E5 (S : bV X scope cl [x] caps cn) (hc : X.calm = true) (hi : PId X tg iter ti) (hg : ∀ C fp s₂ H₂, PG (ae X scope cl C ([x] ++ cn) fp s₂ H₂ zP) tg (gJ 0)) (ht : ∀ C fp s₂ H₂, rJ (ae X scope cl C ([x] ++ cn) fp s₂ H₂ zP) ifs tt)
  (he : ∀ C fp s₂ H₂, PD (ae X scope cl C ([x] ++ cn) fp s₂ H₂ zP) elt te) (hs : ∀ x, foldedSetIterable iter X.env x = pure x := by intro _; rfl) (hst : X.stack = X.env :: X.outer := by rfl) (hfr : X.env.frame = some X.env.locals := by rfl) : PF X (.ListComp elt [⟨tg, iter, ifs, 0⟩] scope pos) (E3 caps ti tt te) :=
 ⟨(qo hst hfr lN S hc hi.pi hg (fun C fp s₂ H₂ => eD (ht C fp s₂ H₂).Ft) (fun C fp s₂ H₂ => fY (he C fp s₂ H₂).pe) hs).imp fun σ H Q ⟨δ, r, h⟩ => jz hi.mono (ht 0 [] X.s₀ X.H₀).mono (he 0 [] X.s₀ X.H₀).mono r h fun H0 a ys ds hn s0 dvs ⟨ds', ed, k⟩ => by
   cases ed
   obtain ⟨g2, e2⟩ := (eU.nil (K := X.K) (H := H0)).Fe hn (ds := ds) (by rw [dF]; exact dvs)
   exact k a (.ref a) _ [a] (by rw [e2, dF]; exact s0) g2 (.adr a),
  fun δ P P' g h => rq hi.mono _ _ _ (fun d ⟨ds, ed, k⟩ => ⟨ds, ed, fun a => g _ _ (k a)⟩) h⟩
end
end DC
namespace K05
open PySem PySem.Spec PyProof.Rows L2 DC
def top (i : Nat) : Stmt := PySem.Challenge.pw_runrows_k05_kinds.main.body.getD i (.Pass ⟨0, 0, 0, 0⟩)
def bF : Stmt -> List Stmt
 | .ClassDef _ _ _ b _ _ _ _ _ _ _ => b
 | _ => []
theorem cZ {N P : List Str} {sc : Scope} (a : sc.kind = .function := by rfl) (b : sc.isCoroutine = false := by rfl) (c : sc.isGenerator = false := by rfl) (d : N.Nodup := by decide +kernel) (e : N.take P.length = P := by rfl)
  (f : ∀ x ∈ P, sc.names.lookup x = some .local \/ sc.names.lookup x = some .cell := by decide +kernel) (g : ∀ y ∈ sc.names, y.2 ≠ .free := by decide +kernel) : aF N P sc := ⟨a, b, c, d, e, f, g⟩
abbrev fK : Stmt := top 14
theorem g9 : aF ["text"] ["text"] (aC fK) := cZ
abbrev dP : Stmt := top 15
theorem fg : aF ["text"] ["text"] (aC dP) := cZ
abbrev kC : Stmt := top 16
theorem mG : aF ["thing"] ["thing"] (aC kC) := cZ
abbrev j_ : Stmt := top 17
theorem mF : aF ["thing", "words"] ["thing"] (aC j_) := cZ
abbrev g4 : Stmt := top 18
theorem jf : aF ["thing"] ["thing"] (aC g4) := cZ
abbrev iy : Stmt := top 19
theorem ki : aF ["thing"] ["thing"] (aC iy) := cZ
abbrev gG : Stmt := top 20
theorem iX : aF ["value"] ["value"] (aC gG) := cZ
abbrev g6 : Stmt := top 26
theorem jg : aF ["name"] ["name"] (aC g6) := cZ
abbrev gF : Stmt := top 35
theorem iW : aF ["first"] ["first"] (aC gF) := cZ
abbrev sZ : Stmt := top 36
theorem uP : aF ["first", "kind"] ["first", "kind"] (aC sZ) := cZ
abbrev g0 : Stmt := top 44
theorem je : aF ["told"] ["told"] (aC g0) := cZ
abbrev iz : Stmt := top 45
theorem kj : aF ["told", "inner", "word"] ["told", "inner"] (aC iz) := cZ
abbrev i_ : Stmt := top 46
theorem kl : aF ["told", "inner", "word"] ["told", "inner"] (aC i_) := cZ
abbrev fL : Stmt := top 47
theorem g_ : aF ["told"] ["told"] (aC fL) := cZ
abbrev iG : Stmt := top 48
theorem mH : aF ["told", "inner"] ["told"] (aC iG) := cZ
abbrev eG : Stmt := top 50
theorem gP : aF ["_law_script", "_law_k"] ["_law_script", "_law_k"] (aC eG) := cZ
abbrev gC : Stmt := top 51
theorem iS : aF ["_law_cell", "_law_k", "_law_mix"] ["_law_cell", "_law_k"] (aC gC) := cZ
abbrev gD : Stmt := top 52
theorem iT : aF ["_law_cell", "_law_many", "_law_letters", "_law_base", "_law_k", "_law_at", "_law_ahead"] ["_law_cell", "_law_many"] (aC gD) := cZ
abbrev fH : Stmt := top 53
theorem g7 : aF ["_law_mix"] ["_law_mix"] (aC fH) := cZ
abbrev gE : Stmt := top 54
theorem iV : aF ["_law_mix", "_law_kind_here"] ["_law_mix", "_law_kind_here"] (aC gE) := cZ
abbrev ee : Stmt := top 55
theorem jd : aF ["_law_cell", "_law_names_here", "_law_deep", "_law_way", "_law_one", "_law_name", "_law_first", "_law_other"] ["_law_cell", "_law_names_here", "_law_deep"] (aC ee) := cZ
abbrev gw : Stmt := top 56
theorem jb : aF ["_law_cell", "_law_names_here", "_law_kind_here", "_law_beat", "_law_number_here"] ["_law_cell", "_law_names_here", "_law_kind_here", "_law_beat"] (aC gw) := cZ
abbrev dn : Stmt := top 57
theorem iU : aF ["_law_cell", "_law_names_here", "_law_kind_here", "_law_beat", "_law_deep", "_law_way", "_law_mixes", "_law_first", "_law_one", "_law_sign", "_law_within", "_law_other"] ["_law_cell", "_law_names_here", "_law_kind_here", "_law_beat", "_law_deep"] (aC dn) := cZ
abbrev fJ : Stmt := top 58
theorem g8 : aF ["_law_told_here", "_law_kinds", "_law_inner", "_law_word", "_law_first"] ["_law_told_here", "_law_kinds", "_law_inner"] (aC fJ) := cZ
abbrev eZ : Stmt := top 59
theorem ja : aF ["_law_told_here", "_law_kinds", "_law_place", "_law_inner", "_law_kind_here", "_law_k", "_law_one", "_law_found"] ["_law_told_here", "_law_kinds", "_law_place"] (aC eZ) := cZ
abbrev gz : Stmt := top 60
theorem jc : aF ["_law_part", "_law_kinds", "_law_place", "e"] ["_law_part", "_law_kinds", "_law_place"] (aC gz) := cZ
abbrev g5 : Stmt := top 61
theorem ym : aF ["_law_script", "_law_cell", "_law_names_here", "_law_kinds", "_law_k", "_law_told_here", "_law_handed", "_law_part", "_law_place", "_law_some", "_law_inner", "_law_way"] ["_law_script"] (aC g5) := cZ
abbrev cU : Stmt := (bF (top 5)).getD 0 (.Pass ⟨0, 0, 0, 0⟩)
theorem jA : aF ["self", "row", "place"] ["self", "row", "place"] (aC cU) := cZ
abbrev bc : Stmt := (bF (top 28)).getD 0 (.Pass ⟨0, 0, 0, 0⟩)
theorem dA : aF ["self"] ["self"] (aC bc) := cZ
abbrev ak : Stmt := (bF (top 28)).getD 2 (.Pass ⟨0, 0, 0, 0⟩)
theorem jZ : aF ["self"] ["self"] (aC ak) := cZ
abbrev aj : Stmt := (bF (top 28)).getD 3 (.Pass ⟨0, 0, 0, 0⟩)
theorem iQ : aF ["self"] ["self"] (aC aj) := cZ
abbrev aT : Stmt := (bF (top 28)).getD 4 (.Pass ⟨0, 0, 0, 0⟩)
theorem dW : aF ["self"] ["self"] (aC aT) := cZ
abbrev aa : Stmt := (bF (top 28)).getD 7 (.Pass ⟨0, 0, 0, 0⟩)
theorem gN : aF ["self", "kinds", "place", "within", "kind"] ["self", "kinds", "place"] (aC aa) := cZ
abbrev cm : Stmt := (bF (top 29)).getD 0 (.Pass ⟨0, 0, 0, 0⟩)
theorem eg : aF ["self", "value"] ["self", "value"] (aC cm) := cZ
abbrev bz : Stmt := (bF (top 29)).getD 1 (.Pass ⟨0, 0, 0, 0⟩)
theorem eK : aF ["self", "kinds", "within"] ["self", "kinds", "within"] (aC bz) := cZ
abbrev cq : Stmt := (bF (top 30)).getD 0 (.Pass ⟨0, 0, 0, 0⟩)
theorem ei : aF ["self", "name"] ["self", "name"] (aC cq) := cZ
abbrev b4 : Stmt := (bF (top 30)).getD 2 (.Pass ⟨0, 0, 0, 0⟩)
theorem eL : aF ["self", "kinds", "within"] ["self", "kinds", "within"] (aC b4) := cZ
abbrev cV : Stmt := (bF (top 31)).getD 0 (.Pass ⟨0, 0, 0, 0⟩)
theorem eM : aF ["self", "part"] ["self", "part"] (aC cV) := cZ
abbrev cW : Stmt := (bF (top 31)).getD 1 (.Pass ⟨0, 0, 0, 0⟩)
theorem gO : aF ["self"] ["self"] (aC cW) := cZ
abbrev bf : Stmt := (bF (top 31)).getD 2 (.Pass ⟨0, 0, 0, 0⟩)
theorem dX : aF ["self", "kinds", "within"] ["self", "kinds", "within"] (aC bf) := cZ
abbrev dM : Stmt := (bF (top 32)).getD 0 (.Pass ⟨0, 0, 0, 0⟩)
theorem fe : aF ["self", "sign", "one", "other"] ["self", "sign", "one", "other"] (aC dM) := cZ
abbrev dj : Stmt := (bF (top 32)).getD 1 (.Pass ⟨0, 0, 0, 0⟩)
theorem iP : aF ["self"] ["self"] (aC dj) := cZ
abbrev cB : Stmt := (bF (top 32)).getD 2 (.Pass ⟨0, 0, 0, 0⟩)
theorem eo : aF ["self", "kinds", "within", "wanted"] ["self", "kinds", "within"] (aC cB) := cZ
abbrev cS : Stmt := (bF (top 33)).getD 0 (.Pass ⟨0, 0, 0, 0⟩)
theorem eJ : aF ["self", "truth", "one", "other"] ["self", "truth", "one", "other"] (aC cS) := cZ
abbrev cT : Stmt := (bF (top 33)).getD 1 (.Pass ⟨0, 0, 0, 0⟩)
theorem gL : aF ["self"] ["self"] (aC cT) := cZ
abbrev bb : Stmt := (bF (top 33)).getD 2 (.Pass ⟨0, 0, 0, 0⟩)
theorem dU : aF ["self", "kinds", "within"] ["self", "kinds", "within"] (aC bb) := cZ
abbrev bx : Stmt := (bF (top 38)).getD 0 (.Pass ⟨0, 0, 0, 0⟩)
theorem eI : aF ["self", "part", "first"] ["self", "part", "first"] (aC bx) := cZ
abbrev cQ : Stmt := (bF (top 38)).getD 1 (.Pass ⟨0, 0, 0, 0⟩)
theorem gK : aF ["self"] ["self"] (aC cQ) := cZ
abbrev ba : Stmt := (bF (top 38)).getD 3 (.Pass ⟨0, 0, 0, 0⟩)
theorem dS : aF ["self", "kinds", "within"] ["self", "kinds", "within"] (aC ba) := cZ
abbrev eF : Stmt := (bF (top 39)).getD 0 (.Pass ⟨0, 0, 0, 0⟩)
theorem gM : aF ["self", "head", "rest"] ["self", "head", "rest"] (aC eF) := cZ
abbrev eY : Stmt := (bF (top 39)).getD 1 (.Pass ⟨0, 0, 0, 0⟩)
theorem jY : aF ["self"] ["self"] (aC eY) := cZ
abbrev cJ : Stmt := (bF (top 39)).getD 2 (.Pass ⟨0, 0, 0, 0⟩)
theorem fc : aF ["self", "kinds", "within"] ["self", "kinds", "within"] (aC cJ) := cZ
abbrev dN : Stmt := (bF (top 40)).getD 0 (.Pass ⟨0, 0, 0, 0⟩)
theorem ff : aF ["self", "part", "name"] ["self", "part", "name"] (aC dN) := cZ
abbrev dk : Stmt := (bF (top 40)).getD 1 (.Pass ⟨0, 0, 0, 0⟩)
theorem iR : aF ["self"] ["self"] (aC dk) := cZ
abbrev cC : Stmt := (bF (top 40)).getD 3 (.Pass ⟨0, 0, 0, 0⟩)
theorem eu : aF ["self", "kinds", "within"] ["self", "kinds", "within"] (aC cC) := cZ
abbrev cI : Stmt := (bF (top 41)).getD 0 (.Pass ⟨0, 0, 0, 0⟩)
theorem fZ : aF ["self", "part", "name", "first"] ["self", "part", "name", "first"] (aC cI) := cZ
abbrev di : Stmt := (bF (top 41)).getD 1 (.Pass ⟨0, 0, 0, 0⟩)
theorem iO : aF ["self"] ["self"] (aC di) := cZ
abbrev cA : Stmt := (bF (top 41)).getD 3 (.Pass ⟨0, 0, 0, 0⟩)
theorem eh : aF ["self", "kinds", "within"] ["self", "kinds", "within"] (aC cA) := cZ
inductive Pt where
 | given (v : D) | named (n : Str) | turned (p : Pt) | pair (g : Str) (a b : Pt) | choice (t a b : Pt)
 | before (p : Pt) (f : D) | led (h r : Pt) | bo (p : Pt) (n : Str) | held (p : Pt) (n : Str) (f : D)
structure b5 where
 given : Addr
 named : Addr
 turned : Addr
 pair : Addr
 choice : Addr
 before : Addr
 led : Addr
 bo : Addr
 held : Addr
def Pt.cls (A : b5) : Pt -> Addr
 | .given _ => A.given | .named _ => A.named | .turned _ => A.turned | .pair _ _ _ => A.pair | .choice _ _ _ => A.choice
 | .before _ _ => A.before | .led _ _ => A.led | .bo _ _ => A.bo | .held _ _ _ => A.held
def Pt.d (A : b5) : Pt -> D
 | .given v => .obj A.given [("value", v)]
 | .named n => .obj A.named [("name", .str n)]
 | .turned p => .obj A.turned [("part", p.d A)]
 | .pair g a b => .obj A.pair [("sign", .str g), ("one", a.d A), ("other", b.d A)]
 | .choice t a b => .obj A.choice [("truth", t.d A), ("one", a.d A), ("other", b.d A)]
 | .before p f => .obj A.before [("part", p.d A), ("first", f)]
 | .led h r => .obj A.led [("head", h.d A), ("rest", r.d A)]
 | .bo p n => .obj A.bo [("part", p.d A), ("name", .str n)]
 | .held p n f => .obj A.held [("part", p.d A), ("name", .str n), ("first", f)]
def Pt.depth : Pt -> Nat
 | .given _ => 1 | .named _ => 1 | .turned p => p.depth + 1 | .pair _ a b => max a.depth b.depth + 1 | .choice t a b => max t.depth (max a.depth b.depth) + 1
 | .before p _ => p.depth + 1 | .led h r => max h.depth r.depth + 1 | .bo p _ => p.depth + 1 | .held p _ _ => p.depth + 1
def Pt.inner : Pt -> List Pt
 | .given _ => [] | .named _ => [] | .turned p => [p] | .pair _ a b => [a, b] | .choice t a b => [t, a, b]
 | .before p _ => [p] | .led h r => [h, r] | .bo p _ => [p] | .held p _ _ => [p]
def Pt.told : Pt -> D
 | .given v => .tup [.str "given", v]
 | .named n => .tup [.str "named", .str n]
 | .turned p => .tup [.str "not", p.told]
 | .pair g a b => .tup [.str g, a.told, b.told]
 | .choice t a b => .tup [.str "if", t.told, a.told, b.told]
 | .before p f => .tup [.str "before", p.told, f]
 | .led h r => .tup [.str "then", h.told, r.told]
 | .bo p n => .tup [.str "when", p.told, .str n]
 | .held p n f => .tup [.str "held", p.told, .str n, f]
structure fQ (K : PySem.W.Frag) (A : b5) : Prop where
 nd : [A.given, A.named, A.turned, A.pair, A.choice, A.before, A.led, A.bo, A.held].Nodup
 cl : ∀ C ∈ [A.given, A.named, A.turned, A.pair, A.choice, A.before, A.led, A.bo, A.held], pV K C
 lE : ∀ C ∈ [A.given, A.named, A.turned, A.pair, A.choice, A.before, A.led, A.bo, A.held], ∀ f ∈ (["value", "name", "part", "sign", "one", "other", "truth", "first", "head", "rest"] : List Str), dG K C f
theorem Pt.aq (A : b5) (p : Pt) : p.cls A ∈ [A.given, A.named, A.turned, A.pair, A.choice, A.before, A.led, A.bo, A.held] := by cases p <;> simp [Pt.cls]
def Pt.ix : Pt -> Nat
 | .given _ => 0 | .named _ => 1 | .turned _ => 2 | .pair _ _ _ => 3 | .choice _ _ _ => 4 | .before _ _ => 5 | .led _ _ => 6 | .bo _ _ => 7 | .held _ _ _ => 8
theorem Pt.at_ (A : b5) (p : Pt) : [A.given, A.named, A.turned, A.pair, A.choice, A.before, A.led, A.bo, A.held][p.ix]? = some (p.cls A) := by cases p <;> rfl
theorem yE {α : Type} : ∀ {l : List α} {i j : Nat} {x : α}, l.Nodup -> l[i]? = some x -> l[j]? = some x -> i = j := fun {l i j x} nd a b => by
 have hi : i < l.length := (List.getElem?_eq_some_iff.mp a).1
 exact (List.getElem?_inj hi nd).mp (a.trans b.symm)
theorem fm {K : PySem.W.Frag} {A : b5} (hA : fQ K A) {p q : Pt} (h : p.cls A = q.cls A) : p.ix = q.ix := yE hA.nd (p.at_ A) (by rw [h]; exact q.at_ A)
theorem qU {K : PySem.W.Frag} {A : b5} (hA : fQ K A) {p : Pt} (h : p.cls A = A.given) : ∃ v, p = .given v := by
 have i := fm hA (q := .given .aW) h
 cases p with
 | given v => exact ⟨v, rfl⟩
 | _ => exact absurd i (by simp only [Pt.ix]; decide)
theorem qV {K : PySem.W.Frag} {A : b5} (hA : fQ K A) {p : Pt} (h : p.cls A = A.named) : ∃ n, p = .named n := by
 have i := fm hA (q := .named "") h
 cases p with
 | named n => exact ⟨n, rfl⟩
 | _ => exact absurd i (by simp only [Pt.ix]; decide)
theorem nH {K : PySem.W.Frag} {A : b5} (hA : fQ K A) {p : Pt} (h : p.cls A = A.turned) : ∃ x, p = .turned x := by
 have i := fm hA (q := .turned (.given .aW)) h
 cases p with
 | turned x => exact ⟨x, rfl⟩
 | _ => exact absurd i (by simp only [Pt.ix]; decide)
theorem t9 {K : PySem.W.Frag} {A : b5} (hA : fQ K A) {p : Pt} (h : p.cls A = A.pair) : ∃ g x y, p = .pair g x y := by
 have i := fm hA (q := .pair "" (.given .aW) (.given .aW)) h
 cases p with
 | pair g x y => exact ⟨g, x, y, rfl⟩
 | _ => exact absurd i (by simp only [Pt.ix]; decide)
theorem nG {K : PySem.W.Frag} {A : b5} (hA : fQ K A) {p : Pt} (h : p.cls A = A.choice) : ∃ t x y, p = .choice t x y := by
 have i := fm hA (q := .choice (.given .aW) (.given .aW) (.given .aW)) h
 cases p with
 | choice t x y => exact ⟨t, x, y, rfl⟩
 | _ => exact absurd i (by simp only [Pt.ix]; decide)
theorem nF {K : PySem.W.Frag} {A : b5} (hA : fQ K A) {p : Pt} (h : p.cls A = A.before) : ∃ x f, p = .before x f := by
 have i := fm hA (q := .before (.given .aW) .aW) h
 cases p with
 | before x f => exact ⟨x, f, rfl⟩
 | _ => exact absurd i (by simp only [Pt.ix]; decide)
theorem xX {K : PySem.W.Frag} {A : b5} (hA : fQ K A) {p : Pt} (h : p.cls A = A.led) : ∃ x y, p = .led x y := by
 have i := fm hA (q := .led (.given .aW) (.given .aW)) h
 cases p with
 | led x y => exact ⟨x, y, rfl⟩
 | _ => exact absurd i (by simp only [Pt.ix]; decide)
theorem xY {K : PySem.W.Frag} {A : b5} (hA : fQ K A) {p : Pt} (h : p.cls A = A.bo) : ∃ x n, p = .bo x n := by
 have i := fm hA (q := .bo (.given .aW) "") h
 cases p with
 | bo x n => exact ⟨x, n, rfl⟩
 | _ => exact absurd i (by simp only [Pt.ix]; decide)
theorem t8 {K : PySem.W.Frag} {A : b5} (hA : fQ K A) {p : Pt} (h : p.cls A = A.held) : ∃ x n f, p = .held x n f := by
 have i := fm hA (q := .held (.given .aW) "" .aW) h
 cases p with
 | held x n f => exact ⟨x, n, f, rfl⟩
 | _ => exact absurd i (by simp only [Pt.ix]; decide)
def uR (A : b5) (n : Nat) (g : Pt -> D) (C : Addr) : cY := fun ds Q => ∃ p : Pt, ds = [p.d A] /\ p.cls A = C /\ p.depth <= n /\ Q (g p)
theorem wH {A : b5} {n : Nat} {g : Pt -> D} {C : Addr} : bS (uR A n g C) := fun ds P P' f ⟨p, e, c, h, q⟩ => ⟨p, e, c, h, f _ q⟩
theorem xi {A : b5} {n : Nat} {g : Pt -> D} {C : Addr} (ds : List D) (Q : D -> Prop) (h : uR A n g C ds Q) : ds.length = 1 := by obtain ⟨p, e, _⟩ := h; rw [e]; rfl
def lC (A : b5) (C : Addr) : Prop := ∃ p : Pt, p.cls A = C
def sI (m : Str) : Prop := ∀ f ∈ (["value", "name", "part", "sign", "one", "other", "truth", "first", "head", "rest"] : List Str), (m == f) = false
theorem jU (A : b5) {m : Str} (h : sI m) (p : Pt) : ∃ gs, p.d A = .obj (p.cls A) gs /\ gs.lookup m = none := by
 have l : ∀ {f : Str} {d : D} {r : List (Str × D)}, f ∈ (["value", "name", "part", "sign", "one", "other", "truth", "first", "head", "rest"] : List Str) -> r.lookup m = none -> ((f, d) :: r).lookup m = none := fun hf hr => by
  rw [List.lookup_cons, h _ hf]
  exact hr
 cases p <;> refine ⟨_, rfl, ?_⟩ <;> repeat (first | rfl | refine l (by decide) ?_)
theorem bB {K : PySem.W.Frag} {δ : SD} {i : Nat} {C : Addr} {gs : List (Str × D)} {f : Str} {r : D} {Q : D -> Prop} (h : δ[i]? = some (some (.obj C gs))) (c : pV K C) (n : dG K C f) (l : gs.lookup f = some r) (q : Q r) : BY K (mP i) f δ Q := ⟨_, h, C, gs, r, rfl, c, n, l, q⟩
theorem eP {A : b5} {n : Nat} {g : Pt -> D} {m : Str} {ta : ED} {δ : SD} {p : Pt} {Q : D -> Prop} (mt : aw ta) (hm : sI m) (h : ta δ fun d => d = p.d A) (hd : p.depth <= n) (q : Q (g p)) :
  km (lC A) m (uR A n g) [] ta oB δ Q := mt _ _ _ (fun d e => by
 obtain ⟨gs, e1, e2⟩ := jU A hm p
 exact ⟨p.cls A, gs, e.trans e1, e2, ⟨p, rfl⟩, p, by rw [List.append_nil, e], rfl, hd, q⟩) h
theorem j7 : sI "inner" := by unfold sI; decide +kernel
def isVal (d : D) : Prop := (∃ b, d = .bl b) \/ ∃ i : Int, d = .int i /\ -128 <= i /\ i <= 127
def cH (d : D) : Prop := d = .aW \/ isVal d
def Gq (A : b5) (n : Nat) (ok : Pt -> Prop) (g : Pt -> D) (C : Addr) : cY := fun ds Q => ∃ p : Pt, ds = [p.d A] /\ p.cls A = C /\ p.depth <= n /\ ok p /\ Q (g p)
theorem Iu {A : b5} {n : Nat} {ok : Pt -> Prop} {g : Pt -> D} {C : Addr} : bS (Gq A n ok g C) := fun ds P P' f ⟨p, e, c, h, o, q⟩ => ⟨p, e, c, h, o, f _ q⟩
theorem Iq {A : b5} {n : Nat} {ok : Pt -> Prop} {g : Pt -> D} {C : Addr} (ds : List D) (Q : D -> Prop) (h : Gq A n ok g C ds Q) : ds.length = 1 := by obtain ⟨p, e, _⟩ := h; rw [e]; rfl
theorem cy {A : b5} {n : Nat} {ok : Pt -> Prop} {g : Pt -> D} {m : Str} {ta : ED} {δ : SD} {p : Pt} {Q : D -> Prop} (mt : aw ta) (hm : sI m) (h : ta δ fun d => d = p.d A) (hd : p.depth <= n) (ho : ok p) (q : Q (g p)) :
  km (lC A) m (Gq A n ok g) [] ta oB δ Q := mt _ _ _ (fun d e => by
 obtain ⟨gs, e1, e2⟩ := jU A hm p
 exact ⟨p.cls A, gs, e.trans e1, e2, ⟨p, rfl⟩, p, by rw [List.append_nil, e], rfl, hd, ho, q⟩) h
abbrev MQ (P : Program) (w : World) (K : PySem.W.Frag) (mg : Str -> Option Value) (base : Heap) (A : b5) (j : Nat) (m : Str) (n : Nat) (ok : Pt -> Prop) (g : Pt -> D) : Prop := ∀ C, lC A C -> cE P w K mg base j C m (Gq A n ok g C) []
section
seal wpAny
variable {P : Program} {w : World} {K : PySem.W.Frag} {mg : Str -> Option Value} {base : Heap} {A : b5} {n j : Nat}
abbrev MP (P : Program) (w : World) (K : PySem.W.Frag) (mg : Str -> Option Value) (base : Heap) (A : b5) (j : Nat) (m : Str) (n : Nat) (g : Pt -> D) : Prop := ∀ C, lC A C -> cE P w K mg base j C m (uR A n g C) []
theorem Pt.iB (p : Pt) : 0 < p.depth := by cases p <;> simp only [Pt.depth] <;> omega
theorem Dm.never {C : Addr} {m qual : Str} {st : Stmt} {ps : List Str} {sd : cY} (d : Dm K C m qual st ps) (ms : bS sd) (h : ∀ ds Q, ¬ sd ds Q) : cE P w K mg base j C m sd [] := by
 obtain ⟨f, fd, F, M, c, b⟩ := d.ex
 exact ⟨⟨f, fd, ps, [], [], c, M, ⟨fun vs H Q E ⟨ds, _, q⟩ => (h _ _ q).elim, fun A outer s H args us vs Q E _ _ _ _ ⟨ds, _, q⟩ => (h _ _ q).elim⟩, b, .nil, fun _ => .nil⟩, ms⟩
theorem ET {g : Pt -> D} {C : Addr} (ds : List D) (Q : D -> Prop) : ¬ uR A 0 g C ds Q := fun ⟨p, _, _, h, _⟩ => absurd p.iB (by omega)
end
mutual
def Pt.size : Pt -> Nat
 | .given _ => 1 | .named _ => 1 | .turned p => p.size + 1 | .pair _ a b => a.size + b.size + 1 | .choice t a b => t.size + a.size + b.size + 1
 | .before p _ => p.size + 1 | .led h r => h.size + r.size + 1 | .bo p _ => p.size + 1 | .held p _ _ => p.size + 1
end
theorem Pt.size_inner (p : Pt) : (p.size : Int) = 1 + (p.inner.map fun q => (q.size : Int)).sum := by
 cases p <;> simp only [Pt.size, Pt.inner, List.map_cons, List.map_nil, List.sum_cons, List.sum_nil] <;> omega
theorem Pt.p7 (p : Pt) : (p.depth : Int) = 1 + ml 0 (p.inner.map fun q => (q.depth : Int)) := by
 cases p <;> simp only [Pt.depth, Pt.inner, List.map_cons, List.map_nil, ml, List.foldl_cons, List.foldl_nil] <;> omega
theorem Pt.fV {p q : Pt} (h : q ∈ p.inner) {n : Nat} (hd : p.depth <= n + 1) : q.depth <= n := by
 cases p <;> simp only [Pt.inner, Pt.depth, List.mem_cons, List.not_mem_nil, or_false] at h hd
 case turned => subst h; omega
 case pair => rcases h with rfl | rfl <;> omega
 case choice => rcases h with rfl | rfl | rfl <;> omega
 case before => subst h; omega
 case led => rcases h with rfl | rfl <;> omega
 case bo => subst h; omega
 case held => subst h; omega
theorem Pt.fW (p : Pt) : p.inner.length <= 3 := by cases p <;> simp [Pt.inner]
def cP (A : b5) (p : Pt) : D := .tup (p.inner.map (Pt.d A))
theorem qe : sI "size" := by unfold sI; decide +kernel
theorem nO : sI "depth" := by unfold sI; decide +kernel
theorem eX {i : Nat} : aw (mP i) := fun δ P P' f ⟨d, hd, k⟩ => ⟨d, hd, f d k⟩
theorem qP {A : b5} {g : Pt -> D} {ps : List Pt} {i : Nat} {d : D} {o : Option D} (h1 : (ps.map (Pt.d A))[i]? = some d) (h2 : (ps.map fun q => some (g q))[i]? = some o) : ∃ q ∈ ps, q.d A = d /\ some (g q) = o := by
 rw [List.getElem?_map] at h1 h2
 cases e : ps[i]? with
 | none => rw [e] at h1; cases h1
 | some q =>
  rw [e] at h1 h2
  exact ⟨q, List.mem_of_getElem? e, by simpa using h1, by simpa using h2⟩
theorem filterMap_some {α β : Type} (f : α -> β) : ∀ l : List α, l.filterMap (id ∘ fun q => some (f q)) = l.map f
 | [] => rfl
 | a :: l => by rw [List.map_cons, <- filterMap_some f l]; rfl
section
seal wpAny
variable {P : Program} {w : World} {K : PySem.W.Frag} {mg : Str -> Option Value} {base : Heap} {A : b5} {n j : Nat}
theorem size_of (d : ∀ C, lC A C -> Dm K C "size" "Part.size" ak ["self"]) (n_sum : mg "sum" = none) (m_inner : MP P w K mg base A j "inner" (n + 1) (cP A)) (m_size : MP P w K mg base A j "size" n fun p => .int p.size) : MP P w K mg base A (j + 1) "size" (n + 1) fun p => .int p.size := by
 intro C hC
 refine (d C hC).eQ jZ wH xi (fun f cdv A outer s H E hr => have hu := hr.units; have hh := hr.hd; have sc := jZ
  (aE (aM (bp aB (Ex hh (by rfl) n_sum (aA (nA (x := "part") (caps := []) (cn := []) (cl := []) (m9 (by rfl) (by rfl) (by decide +kernel) (by decide +kernel) (by decide +kernel)) rfl (lj (jJ m_inner hr (by omega) (dv 0))) (fun C fp s₂ H₂ => bw (i := 0) (show (["part"] : List Str).Nodup by decide +kernel) rfl (Or.inl rfl) (.inr rfl)) (fun C fp s₂ H₂ => fM) (fun C fp s₂ H₂ => (jJ m_size hr (by omega) (dv 0)))) aD)))))) ?_
 rintro ds Q ⟨p, rfl, hc, hd, q⟩
 refine eP eX j7 ⟨_, rfl, rfl⟩ hd ?_
 refine ⟨p.inner.map (Pt.d A), rfl, p.inner.map fun q => some (.int q.size), by simp, fun i d o hd' ho => ?_, ?_, ?_⟩
 ·obtain ⟨r, hr, e1, e2⟩ := qP hd' ho
  subst e1 e2
  exact ⟨rfl, fun _ => eP eX qe ⟨_, rfl, rfl⟩ (p.fV hr hd) rfl⟩
 ·rw [List.length_map]; exact Nat.lt_of_le_of_lt p.fW (by decide)
 ·refine ⟨p.inner.map fun q => (q.size : Int), ?_, ?_⟩
  ·rw [List.filterMap_map, List.map_map]
   congr 2
   exact filterMap_some _ _
  ·have q' : Q (.int (p.size : Int)) := q
   rw [Pt.size_inner] at q'
   exact q'
theorem wy (d : ∀ C, lC A C -> Dm K C "depth" "Part.depth" aj ["self"]) (n_max : mg "max" = none) (m_inner : MP P w K mg base A j "inner" (n + 1) (cP A)) (m_depth : MP P w K mg base A j "depth" n fun p => .int p.depth) : MP P w K mg base A (j + 1) "depth" (n + 1) fun p => .int p.depth := by
 intro C hC
 refine (d C hC).eQ iQ wH xi (fun f cdv A outer s H E hr => have hu := hr.units; have hh := hr.hd; have sc := iQ
  (aE (aM (bp aB (Cc hh (by rfl) n_max (nA (x := "part") (caps := []) (cn := []) (cl := []) (m9 (by rfl) (by rfl) (by decide +kernel) (by decide +kernel) (by decide +kernel)) rfl (lj (jJ m_inner hr (by omega) (dv 0))) (fun C fp s₂ H₂ => bw (i := 0) (show (["part"] : List Str).Nodup by decide +kernel) rfl (Or.inl rfl) (.inr rfl)) (fun C fp s₂ H₂ => fM) (fun C fp s₂ H₂ => (jJ m_depth hr (by omega) (dv 0)))) aB))))) ?_
 rintro ds Q ⟨p, rfl, hc, hd, q⟩
 refine eP eX j7 ⟨_, rfl, rfl⟩ hd ?_
 refine ⟨p.inner.map (Pt.d A), rfl, p.inner.map fun q => some (.int q.depth), by simp, fun i d o hd' ho => ?_, ?_, ?_⟩
 ·obtain ⟨r, hr, e1, e2⟩ := qP hd' ho
  subst e1 e2
  exact ⟨rfl, fun _ => eP eX nO ⟨_, rfl, rfl⟩ (p.fV hr hd) rfl⟩
 ·rw [List.length_map]; exact Nat.lt_of_le_of_lt p.fW (by decide)
 ·refine ⟨p.inner.map fun q => (q.depth : Int), 0, ?_, rfl, ?_⟩
  ·rw [List.filterMap_map, List.map_map]
   congr 1
   exact filterMap_some _ _
  ·have q' : Q (.int (p.depth : Int)) := q
   rw [Pt.p7] at q'
   exact q'
end
theorem Pt.z5 {p q : Pt} (h : q ∈ p.inner) : q.size <= p.size := by
 cases p <;> simp only [Pt.inner, Pt.size, List.mem_cons, List.not_mem_nil, or_false] at h ⊢
 case turned => subst h; omega
 case pair => rcases h with rfl | rfl <;> omega
 case choice => rcases h with rfl | rfl | rfl <;> omega
 case before => subst h; omega
 case led => rcases h with rfl | rfl <;> omega
 case bo => subst h; omega
 case held => subst h; omega
section
seal wpAny
variable {P : Program} {w : World} {K : PySem.W.Frag} {mg : Str -> Option Value} {base : Heap} {A : b5} {n j : Nat}
structure nz (K : PySem.W.Frag) (A : b5) : Prop where
 given : Dm K A.given "inner" "Part.inner" bc ["self"]
 named : Dm K A.named "inner" "Part.inner" bc ["self"]
 turned : Dm K A.turned "inner" "Turned.inner" cW ["self"]
 pair : Dm K A.pair "inner" "Pair.inner" dj ["self"]
 choice : Dm K A.choice "inner" "Choice.inner" cT ["self"]
 before : Dm K A.before "inner" "Before.inner" cQ ["self"]
 led : Dm K A.led "inner" "Led.inner" eY ["self"]
 bo : Dm K A.bo "inner" "When.inner" dk ["self"]
 held : Dm K A.held "inner" "Held.inner" di ["self"]
theorem qQ (hA : fQ K A) (d : Dm K A.given "inner" "Part.inner" bc ["self"]) : cE P w K mg base (j + 1) A.given "inner" (uR A n (cP A) A.given) [] := by
 refine d.eQ dA wH xi (fun f cdv A outer s H E hr => have hu := hr.units; have hh := hr.hd; have sc := dA
  (aE (aM (ag aD)))) ?_
 rintro ds Q ⟨p, rfl, hc, hd, q⟩
 have c := hA.cl _ (Pt.aq A p)
 have no := hA.lE _ (Pt.aq A p)
 obtain ⟨v, rfl⟩ := qU hA hc
 exact ⟨(show 0 <= sizeLine by decide), q⟩
theorem qR (hA : fQ K A) (d : Dm K A.named "inner" "Part.inner" bc ["self"]) : cE P w K mg base (j + 1) A.named "inner" (uR A n (cP A) A.named) [] := by
 refine d.eQ dA wH xi (fun f cdv A outer s H E hr => have hu := hr.units; have hh := hr.hd; have sc := dA
  (aE (aM (ag aD)))) ?_
 rintro ds Q ⟨p, rfl, hc, hd, q⟩
 have c := hA.cl _ (Pt.aq A p)
 have no := hA.lE _ (Pt.aq A p)
 obtain ⟨s, rfl⟩ := qV hA hc
 exact ⟨(show 0 <= sizeLine by decide), q⟩
theorem oh (hA : fQ K A) (d : Dm K A.turned "inner" "Turned.inner" cW ["self"]) : cE P w K mg base (j + 1) A.turned "inner" (uR A n (cP A) A.turned) [] := by
 refine d.eQ gO wH xi (fun f cdv A outer s H E hr => have hu := hr.units; have hh := hr.hd; have sc := gO
  (aE (aM (ag (aA (bY K rfl (dv 0) (by rfl)) aD))))) ?_
 rintro ds Q ⟨p, rfl, hc, hd, q⟩
 have c := hA.cl _ (Pt.aq A p)
 have no := hA.lE _ (Pt.aq A p)
 obtain ⟨x, rfl⟩ := nH hA hc
 exact (bB rfl c (no _ (by decide)) (by kernel_rfl) ⟨(show 1 <= sizeLine by decide), q⟩)
theorem rj (hA : fQ K A) (d : Dm K A.pair "inner" "Pair.inner" dj ["self"]) : cE P w K mg base (j + 1) A.pair "inner" (uR A n (cP A) A.pair) [] := by
 refine d.eQ iP wH xi (fun f cdv A outer s H E hr => have hu := hr.units; have hh := hr.hd; have sc := iP
  (aE (aM (ag (aA (bY K rfl (dv 0) (by rfl)) (aA (bY K rfl (dv 0) (by rfl)) aD)))))) ?_
 rintro ds Q ⟨p, rfl, hc, hd, q⟩
 have c := hA.cl _ (Pt.aq A p)
 have no := hA.lE _ (Pt.aq A p)
 obtain ⟨g, x, y, rfl⟩ := t9 hA hc
 exact (bB rfl c (no _ (by decide)) (by kernel_rfl) (bB rfl c (no _ (by decide)) (by kernel_rfl) ⟨(show 2 <= sizeLine by decide), q⟩))
theorem og (hA : fQ K A) (d : Dm K A.choice "inner" "Choice.inner" cT ["self"]) : cE P w K mg base (j + 1) A.choice "inner" (uR A n (cP A) A.choice) [] := by
 refine d.eQ gL wH xi (fun f cdv A outer s H E hr => have hu := hr.units; have hh := hr.hd; have sc := gL
  (aE (aM (ag (aA (bY K rfl (dv 0) (by rfl)) (aA (bY K rfl (dv 0) (by rfl)) (aA (bY K rfl (dv 0) (by rfl)) aD))))))) ?_
 rintro ds Q ⟨p, rfl, hc, hd, q⟩
 have c := hA.cl _ (Pt.aq A p)
 have no := hA.lE _ (Pt.aq A p)
 obtain ⟨x, y, z, rfl⟩ := nG hA hc
 exact (bB rfl c (no _ (by decide)) (by kernel_rfl) (bB rfl c (no _ (by decide)) (by kernel_rfl) (bB rfl c (no _ (by decide)) (by kernel_rfl) ⟨(show 3 <= sizeLine by decide), q⟩)))
theorem oa (hA : fQ K A) (d : Dm K A.before "inner" "Before.inner" cQ ["self"]) : cE P w K mg base (j + 1) A.before "inner" (uR A n (cP A) A.before) [] := by
 refine d.eQ gK wH xi (fun f cdv A outer s H E hr => have hu := hr.units; have hh := hr.hd; have sc := gK
  (aE (aM (ag (aA (bY K rfl (dv 0) (by rfl)) aD))))) ?_
 rintro ds Q ⟨p, rfl, hc, hd, q⟩
 have c := hA.cl _ (Pt.aq A p)
 have no := hA.lE _ (Pt.aq A p)
 obtain ⟨x, f, rfl⟩ := nF hA hc
 exact (bB rfl c (no _ (by decide)) (by kernel_rfl) ⟨(show 1 <= sizeLine by decide), q⟩)
theorem vD (hA : fQ K A) (d : Dm K A.led "inner" "Led.inner" eY ["self"]) : cE P w K mg base (j + 1) A.led "inner" (uR A n (cP A) A.led) [] := by
 refine d.eQ jY wH xi (fun f cdv A outer s H E hr => have hu := hr.units; have hh := hr.hd; have sc := jY
  (aE (aM (ag (aA (bY K rfl (dv 0) (by rfl)) (aA (bY K rfl (dv 0) (by rfl)) aD)))))) ?_
 rintro ds Q ⟨p, rfl, hc, hd, q⟩
 have c := hA.cl _ (Pt.aq A p)
 have no := hA.lE _ (Pt.aq A p)
 obtain ⟨x, y, rfl⟩ := xX hA hc
 exact (bB rfl c (no _ (by decide)) (by kernel_rfl) (bB rfl c (no _ (by decide)) (by kernel_rfl) ⟨(show 2 <= sizeLine by decide), q⟩))
theorem vE (hA : fQ K A) (d : Dm K A.bo "inner" "When.inner" dk ["self"]) : cE P w K mg base (j + 1) A.bo "inner" (uR A n (cP A) A.bo) [] := by
 refine d.eQ iR wH xi (fun f cdv A outer s H E hr => have hu := hr.units; have hh := hr.hd; have sc := iR
  (aE (aM (ag (aA (bY K rfl (dv 0) (by rfl)) aD))))) ?_
 rintro ds Q ⟨p, rfl, hc, hd, q⟩
 have c := hA.cl _ (Pt.aq A p)
 have no := hA.lE _ (Pt.aq A p)
 obtain ⟨x, s, rfl⟩ := xY hA hc
 exact (bB rfl c (no _ (by decide)) (by kernel_rfl) ⟨(show 1 <= sizeLine by decide), q⟩)
theorem rh (hA : fQ K A) (d : Dm K A.held "inner" "Held.inner" di ["self"]) : cE P w K mg base (j + 1) A.held "inner" (uR A n (cP A) A.held) [] := by
 refine d.eQ iO wH xi (fun f cdv A outer s H E hr => have hu := hr.units; have hh := hr.hd; have sc := iO
  (aE (aM (ag (aA (bY K rfl (dv 0) (by rfl)) aD))))) ?_
 rintro ds Q ⟨p, rfl, hc, hd, q⟩
 have c := hA.cl _ (Pt.aq A p)
 have no := hA.lE _ (Pt.aq A p)
 obtain ⟨x, s, f, rfl⟩ := t8 hA hc
 exact (bB rfl c (no _ (by decide)) (by kernel_rfl) ⟨(show 1 <= sizeLine by decide), q⟩)
theorem j3 (hA : fQ K A) (d : nz K A) (n : Nat) : MP P w K mg base A (j + 1) "inner" n (cP A) := fun C ⟨p, e⟩ => by
 subst e
 cases p
 ·exact qQ hA d.given
 ·exact qR hA d.named
 ·exact oh hA d.turned
 ·exact rj hA d.pair
 ·exact og hA d.choice
 ·exact oa hA d.before
 ·exact vD hA d.led
 ·exact vE hA d.bo
 ·exact rh hA d.held
theorem lO {m qual : Str} {st : Stmt} {ps : List Str} {g : Pt -> D} (d : ∀ C, lC A C -> Dm K C m qual st ps) (h : ∀ n j, MP P w K mg base A (j + 1) m n g -> MP P w K mg base A (j + 2) m (n + 1) g) : ∀ n, MP P w K mg base A (n + 1) m n g
 | 0 => fun C hC => (Dm.never (j := 1) (d C hC) wH ET)
 | n + 1 => h n n (lO d h n)
theorem yw (hA : fQ K A) (dI : nz K A) (d : ∀ C, lC A C -> Dm K C "size" "Part.size" ak ["self"]) (n_sum : mg "sum" = none) (n : Nat) : MP P w K mg base A (n + 1) "size" n fun p => .int p.size :=
 lO d (fun n j h => size_of d n_sum (j3 (j := j) hA dI _) h) n
theorem uv (hA : fQ K A) (dI : nz K A) (d : ∀ C, lC A C -> Dm K C "depth" "Part.depth" aj ["self"]) (n_max : mg "max" = none) (n : Nat) : MP P w K mg base A (n + 1) "depth" n fun p => .int p.depth :=
 lO d (fun n j h => wy d n_max (j3 (j := j) hA dI _) h) n
end
structure GI (mg : Str -> Option Value) (x : Str) (i : Int) : Prop where
 ex : ∃ t, mg x = some (.int i t)
def B6 : cY := fun ds Q => ∃ i : Int, ds = [.int i] /\ Q (.bl (decide (-128 <= i) && decide (i <= 127)))
def yv : cY := fun ds Q => (∃ i : Int, ds = [.int i] /\ Q (.bl (decide (-128 <= i) && decide (i <= 127)))) \/ ∃ b, ds = [.bl b] /\ Q (.bl true)
theorem cL : sI "need_bounds" := by unfold sI; decide +kernel
def jB (p : Pt) : Prop := p.depth <= 10 /\ p.size <= 40
section
seal wpAny
variable {P : Program} {w : World} {K : PySem.W.Frag} {mg : Str -> Option Value} {base : Heap} {A : b5} {n j : Nat}
theorem gZ (d : Df K mg "is_number" g4 ["thing"]) (n_isinstance : mg "isinstance" = none) (n_bool : mg "bool" = none) (n_int : mg "int" = none) (g1 : GI mg "LOWEST" (-128)) (g2 : GI mg "HIGHEST" 127) : bK P w K mg base (j + 1) "is_number" ["thing"] B6 := by
 obtain ⟨t1, q_LOWEST⟩ := g1.ex
 obtain ⟨t2, q_HIGHEST⟩ := g2.ex
 have r_LOWEST : RelV (.int (-128)) (.int (-128) t1) := ⟨_, rfl⟩
 have r_HIGHEST : RelV (.int 127) (.int 127 t2) := ⟨_, rfl⟩
 have v_LOWEST : ∀ H, Dv K H (.int (-128)) (.int (-128)) := fun _ => .int _
 have v_HIGHEST : ∀ H, Dv K H (.int 127) (.int 127) := fun _ => .int _
 refine d.eQ jf (fun ds P P' g ⟨i, e, q⟩ => ⟨i, e, g _ q⟩) (fun ds Q ⟨d, e, _⟩ => by rw [e]; rfl) (fun f cdv A outer s H E hr => have hu := hr.units; have hh := hr.hd; have sc := jf
  (aG (bP (kN.td (w_or (eN (gm (by rfl) n_isinstance (by rfl) n_bool (dv 0))) (js (mL (eN (z8 (by rfl) n_isinstance (by rfl) n_int (dv 0))))))) (aE (aM CY)) aV)
 (aE (aM (Ca (d6 (by rfl) q_LOWEST r_LOWEST v_LOWEST) (dv 0) (d6 (by rfl) q_HIGHEST r_HIGHEST v_HIGHEST)))))) ?_
 rintro ds Q ⟨i, rfl, q⟩
 refine ⟨_, rfl, false, rfl, _, rfl, aK ⟨_, rfl, true, rfl, _, rfl, aK ⟨_, rfl, _, rfl, ?_⟩⟩⟩
 by_cases h : (-128 : Int) <= i
 ·rw [decide_eq_true h] at q ⊢
  exact aO q
 ·rw [decide_eq_false h] at q ⊢
  exact aK q
theorem d5 (d : Df K mg "is_value" iy ["thing"]) (n_isinstance : mg "isinstance" = none) (n_bool : mg "bool" = none) (gZ : bK P w K mg base j "is_number" ["thing"] B6) : bK P w K mg base (j + 1) "is_value" ["thing"] yv := by
 refine d.eQ ki (fun ds P P' g h => h.elim (fun ⟨i, e, q⟩ => .inl ⟨i, e, g _ q⟩) fun ⟨i, e, q⟩ => .inr ⟨i, e, g _ q⟩) (fun ds Q h => h.elim (fun ⟨d, e, _⟩ => by rw [e]; rfl) fun ⟨d, e, _⟩ => by rw [e]; rfl) (fun f cdv A outer s H E hr => have hu := hr.units; have hh := hr.hd; have sc := ki
  (aE (aM (Ew (gm (by rfl) n_isinstance (by rfl) n_bool (dv 0)) (lU (aL gZ hr (by omega) (by rfl) (aA (dv 0) aD))))))) ?_
 rintro ds Q (⟨i, rfl, q⟩ | ⟨b, rfl, q⟩)
 ·exact ⟨_, rfl, false, rfl, _, rfl, aK ⟨_, rfl, i, rfl, q⟩⟩
 ·exact ⟨_, rfl, true, rfl, _, rfl, aO q⟩
theorem ui (d : ∀ C, lC A C -> Dm K C "need_bounds" "Part.need_bounds" aT ["self"]) (m_depth : MP P w K mg base A j "depth" n fun p => .int p.depth) (m_size : MP P w K mg base A j "size" n fun p => .int p.size) (g1 : GI mg "DEEPEST" 10) (g2 : GI mg "LARGEST" 40) :
  MQ P w K mg base A (j + 1) "need_bounds" n jB fun _ => .aW := by
 obtain ⟨t1, q_DEEPEST⟩ := g1.ex
 obtain ⟨t2, q_LARGEST⟩ := g2.ex
 have r_DEEPEST : RelV (.int 10) (.int 10 t1) := ⟨_, rfl⟩
 have r_LARGEST : RelV (.int 40) (.int 40 t2) := ⟨_, rfl⟩
 have v_DEEPEST : ∀ H, Dv K H (.int 10) (.int 10) := fun _ => .int _
 have v_LARGEST : ∀ H, Dv K H (.int 40) (.int 40) := fun _ => .int _
 intro C hC
 refine (d C hC).eQ dW Iu Iq (fun f cdv A outer s H E hr => have hu := hr.units; have hh := hr.hd; have sc := dW
  (aE (bP (kN.td (w_or (y7 (jJ m_depth hr (by omega) (dv 0)) (d6 (by rfl) q_DEEPEST r_DEEPEST v_DEEPEST)) (js (y7 (jJ m_size hr (by omega) (dv 0)) (d6 (by rfl) q_LARGEST r_LARGEST v_LARGEST))))) (aE jX) aV))) ?_
 rintro ds Q ⟨p, rfl, hc, hd, ho, q⟩
 obtain ⟨h1, h2⟩ := ho
 have e1 : decide ((10 : Int) < p.depth) = false := decide_eq_false (by omega)
 have e2 : decide ((40 : Int) < p.size) = false := decide_eq_false (by omega)
 refine eP (p := p) eX nO ⟨_, rfl, rfl⟩ hd ⟨_, rfl, ?_⟩
 show if decide ((10 : Int) < p.depth) = true then _ else _
 rw [e1]
 refine aK (eP (p := p) eX qe ⟨_, rfl, rfl⟩ hd ⟨_, rfl, ?_⟩)
 show if decide ((40 : Int) < p.size) = true then _ else _
 rw [e2]
 exact aK q
theorem rf (hc : pV K A.given) (hn : dG K A.given "value") (d : Di K mg "Given" A.given "Given.__init__" cm ["self", "value"] []) (d5 : bK P w K mg base j "is_value" ["thing"] yv) :
  mX P w K mg base (j + 1) "Given" A.given (fun ds Q => ∃ v, ds = [v] /\ isVal v /\ Q [("value", v)]) [] := by
 refine d.Af eg (fun ds P P' g ⟨v, e, h, q⟩ => ⟨v, e, h, g _ q⟩) (fun ds Q ⟨v, e, _⟩ => by rw [e]; rfl) (fun f cdv A outer s H E hr => have hu := hr.units; have hh := hr.hd; have sc := eg
  (a_ (ik (bP (mL (eN (aL d5 hr (by omega) (by rfl) (aA (dv 1) aD)))) (aE jX) aV))
 (a_ (bj K rfl rfl (Or.inl rfl) (dv 1))
 Bn))) ?_
 rintro a ds Q ⟨v, rfl, hv, q⟩
 rcases hv with ⟨b, rfl⟩ | ⟨i, rfl, h1, h2⟩
 ·exact ⟨_, rfl, .inr ⟨b, rfl, _, rfl, ⟨_, rfl, rfl, hc, hn, (by decide), q⟩⟩⟩
 ·refine ⟨_, rfl, .inl ⟨i, rfl, true, by simp [BW, h1, h2], ⟨_, rfl, rfl, hc, hn, (by decide), q⟩⟩⟩
end
def pJ : cY := fun ds Q => ∃ f, ds = [f] /\ cH f /\ Q .aW
theorem jW (f : Str) (d : D) : ∀ gs : FD, (putD f d gs).length <= gs.length + 1
 | [] => Nat.le_refl _
 | (g, e) :: r => by
  unfold putD
  split
  ·exact Nat.le_succ _
  ·exact Nat.succ_le_succ (jW f d r)
theorem qp : ([] : FD).length < 1000 := by decide
theorem qq {f : Str} {d : D} : (putD f d []).length < 1000 := Nat.lt_of_le_of_lt (jW f d []) (by decide)
theorem qr {f g : Str} {d e : D} : (putD f d (putD g e [])).length < 1000 := Nat.lt_of_le_of_lt (Nat.le_trans (jW f d _) (Nat.succ_le_succ (jW g e []))) (by decide)
section
seal wpAny
variable {P : Program} {w : World} {K : PySem.W.Frag} {mg : Str -> Option Value} {base : Heap} {A : b5} {n j : Nat}
theorem qO (hA : fQ K A) (d : Di K mg "Turned" A.turned "Turned.__init__" cV ["self", "part"] []) (m_need_bounds : MQ P w K mg base A j "need_bounds" n jB fun _ => .aW) :
  mX P w K mg base (j + 1) "Turned" A.turned (fun ds Q => ∃ p : Pt, ds = [p.d A] /\ (Pt.turned p).depth <= n /\ jB (.turned p) /\ Q [("part", p.d A)]) [] := by
 have hc := hA.cl A.turned (by simp)
 have hn := hA.lE A.turned (by simp)
 refine d.Af eM (fun ds P P' g ⟨v, e, h, o, q⟩ => ⟨v, e, h, o, g _ q⟩) (fun ds Q ⟨v, e, _⟩ => by rw [e]; rfl) (fun f cdv A outer s H E hr => have hu := hr.units; have hh := hr.hd; have sc := eM
  (a_ (bj K rfl rfl (Or.inl rfl) (dv 1))
 (il (aE (dO (jJ m_need_bounds hr (by omega) (dv 0))))))) ?_
 rintro a ds Q ⟨p, rfl, hd, ho, q⟩
 exact ⟨_, rfl, rfl, hc, hn _ (by decide), (by first | exact qp | exact qq | exact qr), rfl, cy (p := .turned p) eX cL ⟨_, rfl, rfl⟩ hd ho q⟩
theorem qN (hA : fQ K A) (d : Di K mg "Choice" A.choice "Choice.__init__" cS ["self", "truth", "one", "other"] []) (m_need_bounds : MQ P w K mg base A j "need_bounds" n jB fun _ => .aW) :
  mX P w K mg base (j + 1) "Choice" A.choice (fun ds Q => ∃ t x y : Pt, ds = [t.d A, x.d A, y.d A] /\ (Pt.choice t x y).depth <= n /\ jB (.choice t x y) /\ Q [("truth", t.d A), ("one", x.d A), ("other", y.d A)]) [] := by
 have hc := hA.cl A.choice (by simp)
 have hn := hA.lE A.choice (by simp)
 refine d.Af eJ (fun ds P P' g ⟨t, v, u, e, h, o, q⟩ => ⟨t, v, u, e, h, o, g _ q⟩) (fun ds Q ⟨t, v, u, e, _⟩ => by rw [e]; rfl) (fun f cdv A outer s H E hr => have hu := hr.units; have hh := hr.hd; have sc := eJ
  (a_ (bj K rfl rfl (Or.inl rfl) (dv 1))
 (a_ (bj K rfl rfl (Or.inl rfl) (dv 2))
 (a_ (bj K rfl rfl (Or.inl rfl) (dv 3))
 (il (aE (dO (jJ m_need_bounds hr (by omega) (dv 0))))))))) ?_
 rintro a ds Q ⟨t, x, y, rfl, hd, ho, q⟩
 exact ⟨_, rfl, rfl, hc, hn _ (by decide), (by first | exact qp | exact qq | exact qr), _, rfl, rfl, hc, hn _ (by decide), (by first | exact qp | exact qq | exact qr), _, rfl, rfl, hc, hn _ (by decide), (by first | exact qp | exact qq | exact qr), rfl, cy (p := .choice t x y) eX cL ⟨_, rfl, rfl⟩ hd ho q⟩
theorem xW (hA : fQ K A) (d : Di K mg "Led" A.led "Led.__init__" eF ["self", "head", "rest"] []) (m_need_bounds : MQ P w K mg base A j "need_bounds" n jB fun _ => .aW) :
  mX P w K mg base (j + 1) "Led" A.led (fun ds Q => ∃ x y : Pt, ds = [x.d A, y.d A] /\ (Pt.led x y).depth <= n /\ jB (.led x y) /\ Q [("head", x.d A), ("rest", y.d A)]) [] := by
 have hc := hA.cl A.led (by simp)
 have hn := hA.lE A.led (by simp)
 refine d.Af gM (fun ds P P' g ⟨v, u, e, h, o, q⟩ => ⟨v, u, e, h, o, g _ q⟩) (fun ds Q ⟨v, u, e, _⟩ => by rw [e]; rfl) (fun f cdv A outer s H E hr => have hu := hr.units; have hh := hr.hd; have sc := gM
  (a_ (bj K rfl rfl (Or.inl rfl) (dv 1))
 (a_ (bj K rfl rfl (Or.inl rfl) (dv 2))
 (il (aE (dO (jJ m_need_bounds hr (by omega) (dv 0)))))))) ?_
 rintro a ds Q ⟨x, y, rfl, hd, ho, q⟩
 exact ⟨_, rfl, rfl, hc, hn _ (by decide), (by first | exact qp | exact qq | exact qr), _, rfl, rfl, hc, hn _ (by decide), (by first | exact qp | exact qq | exact qr), rfl, cy (p := .led x y) eX cL ⟨_, rfl, rfl⟩ hd ho q⟩
theorem cN (d : Df K mg "need_first" gF ["first"]) (d5 : bK P w K mg base j "is_value" ["thing"] yv) : bK P w K mg base (j + 1) "need_first" ["first"] pJ := by
 refine d.eQ iW (fun ds P P' g ⟨f, e, h, q⟩ => ⟨f, e, h, g _ q⟩) (fun ds Q ⟨f, e, _⟩ => by rw [e]; rfl) (fun f cdv A outer s H E hr => have hu := hr.units; have hh := hr.hd; have sc := iW
  (aE (bP (kN.td (w_and (lH (dv 0) bC) (gI (mL (eN (aL d5 hr (by omega) (by rfl) (aA (dv 0) aD))))))) (aE jX) aV))) ?_
 rintro ds Q ⟨f, rfl, hf, q⟩
 rcases hf with rfl | ⟨b, rfl⟩ | ⟨i, rfl, h1, h2⟩
 ·exact ⟨_, rfl, _, rfl, q⟩
 ·exact ⟨_, rfl, _, rfl, _, rfl, .inr ⟨b, rfl, _, rfl, q⟩⟩
 ·exact ⟨_, rfl, _, rfl, _, rfl, .inl ⟨i, rfl, true, by simp [BW, h1, h2], q⟩⟩
theorem qM (hA : fQ K A) (d : Di K mg "Before" A.before "Before.__init__" bx ["self", "part", "first"] []) (cN : bK P w K mg base j "need_first" ["first"] pJ) (m_need_bounds : MQ P w K mg base A j "need_bounds" n jB fun _ => .aW) :
  mX P w K mg base (j + 1) "Before" A.before (fun ds Q => ∃ (p : Pt) (f : D), ds = [p.d A, f] /\ cH f /\ (Pt.before p f).depth <= n /\ jB (.before p f) /\ Q [("part", p.d A), ("first", f)]) [] := by
 have hc := hA.cl A.before (by simp)
 have hn := hA.lE A.before (by simp)
 refine d.Af eI (fun ds P P' g ⟨v, u, e, k, h, o, q⟩ => ⟨v, u, e, k, h, o, g _ q⟩) (fun ds Q ⟨v, u, e, _⟩ => by rw [e]; rfl) (fun f cdv A outer s H E hr => have hu := hr.units; have hh := hr.hd; have sc := eI
  (a_ (ik (dO (aL cN hr (by omega) (by rfl) (aA (dv 2) aD))))
 (a_ (bj K rfl rfl (Or.inl rfl) (dv 1))
 (a_ (bj K rfl rfl (Or.inl rfl) (dv 2))
 (il (aE (dO (jJ m_need_bounds hr (by omega) (dv 0))))))))) ?_
 rintro a ds Q ⟨p, f, rfl, hf, hd, ho, q⟩
 exact ⟨_, rfl, _, rfl, hf, _, rfl, rfl, hc, hn _ (by decide), (by first | exact qp | exact qq | exact qr), _, rfl, rfl, hc, hn _ (by decide), (by first | exact qp | exact qq | exact qr), rfl, cy (p := .before p f) eX cL ⟨_, rfl, rfl⟩ hd ho q⟩
end
theorem z6 (n : Str) (l : List Str) : inD (.str n) (l.map D.str) = l.contains n := by
 unfold inD
 rw [List.any_map, List.contains_eq_any_beq]
 congr 1
 funext x
 show (x == n) = (n == x)
 exact Bool.beq_comm
theorem u5 (l : List Str) : (l.map D.str).all fS = true := by
 rw [List.all_eq_true]
 intro d hd
 obtain ⟨x, _, rfl⟩ := List.mem_map.mp hd
 rfl
def fv : Str := "abcdefghijklmnopqrstuvwxyz"
def signs (x : Str) : List Str := x.cps.toList.map fun c => ⟨#[c]⟩
def Ea (c : Str) : Bool := sr c fv
def mj (x : Str) : Bool := decide ((0 : Int) < (x.length : Int)) && (signs x).all Ea
def dE (x : Str) : Bool := decide ((x.length : Int) <= 8) && mj x
def kW : List Str := ["module", "in", "out", "row", "use", "end", "number", "truth", "on", "yes", "no", "not", "and", "or", "if", "before", "then", "when", "held"]
def iY (x : Str) : Bool := dE x && !kW.contains x
def dot : Str := "."
def d_ (x : Str) : Bool := if decide (((Txt.split x dot).length : Int) = 1) = true then iY x else decide (((Txt.split x dot).length : Int) <= 4) && (Txt.split x dot).all dE
structure GD (K : PySem.W.Frag) (mg : Str -> Option Value) (x : Str) (d : D) : Prop where
 ex : ∃ v u, mg x = some u /\ RelV v u /\ ∀ H, Dv K H v d
def yt (g : Str -> D) : cY := fun ds Q => ∃ x : Str, ds = [.str x] /\ x.length <= 100000 /\ Q (g x)
theorem Gm {g : Str -> D} : bS (yt g) := fun ds P P' f ⟨x, e, h, q⟩ => ⟨x, e, h, f _ q⟩
theorem Gk {g : Str -> D} (ds : List D) (Q : D -> Prop) (h : yt g ds Q) : ds.length = 1 := by obtain ⟨x, e, _⟩ := h; rw [e]; rfl
theorem str_len {x : Str} (h : x.length <= 100000) : x.length <= sizeLine := Nat.le_trans h (by decide)
theorem jH {Q : D -> Prop} {a b : Bool} (e : a = b) (q : Q (.bl a)) : Q (.bl b) := e ▸ q
theorem xl : ∀ {l : List Nat} {a : Nat}, a ∈ l -> a <= l.sum
 | b :: l, a, h => by
  rw [List.sum_cons]
  rcases List.mem_cons.mp h with rfl | h
  ·exact Nat.le_add_right _ _
  ·exact Nat.le_trans (xl h) (Nat.le_add_left _ _)
def G8 : D -> D
 | .str z => .bl (Ea z)
 | _ => .aW
def E6 : D -> D
 | .str z => .bl (dE z)
 | _ => .aW
section
seal wpAny
variable {P : Program} {w : World} {K : PySem.W.Frag} {mg : Str -> Option Value} {base : Heap} {A : b5} {n j : Nat}
theorem fE (d : Df K mg "has_letters" fK ["text"]) (n_len : mg "len" = none) (n_all : mg "all" = none) (gl : GD K mg "LETTERS" (.str fv)) : bK P w K mg base (j + 1) "has_letters" ["text"] (yt fun x => .bl (mj x)) := by
 obtain ⟨y_LETTERS, u_LETTERS, q_LETTERS, r_LETTERS, v_LETTERS⟩ := gl.ex
 refine d.eQ g9 Gm Gk (fun f cdv A outer s H E hr => have hu := hr.units; have hh := hr.hd; have sc := g9
  (aE (aM (pk (G3 (jI (by rfl) n_len (aA (dv 0) aD)) aB) (lU (Bh hh (by rfl) n_all (aA (nA (x := "sign") (caps := []) (cn := []) (cl := []) (m9 (by rfl) (by rfl) (by decide +kernel) (by decide +kernel) (by decide +kernel)) rfl (lj (dv 0)) (fun C fp s₂ H₂ => bw (i := 0) (show (["sign"] : List Str).Nodup by decide +kernel) rfl (Or.inl rfl) (.inr rfl)) (fun C fp s₂ H₂ => fM) (fun C fp s₂ H₂ => (G4 (dv 0) (d6 (by rfl) q_LETTERS r_LETTERS v_LETTERS) (by rfl)))) aD))))))) ?_
 rintro ds Q ⟨x, rfl, hx, q⟩
 refine ⟨_, rfl, _, _, rfl, if_pos (str_len hx), _, rfl, ?_⟩
 cases h : decide ((0 : Int) < (x.length : Int)) with
 | false =>
  have e : mj x = false := by unfold mj; rw [h]; rfl
  exact aK (jH e q)
 | true =>
  have e : mj x = ((signs x).map Ea).all id := by unfold mj; rw [h, List.all_map]; rfl
  refine aO ⟨_, rfl, _, rfl, mO G8 (x.cps.toList.map fun c => .str ⟨#[c]⟩), rn, fun i d o h1 h2 => ?_, ?_, ?_⟩
  ·obtain ⟨hd, rfl⟩ := xp h1 h2
   obtain ⟨c, _, rfl⟩ := List.mem_map.mp hd
   exact ⟨rfl, fun _ => ⟨_, rfl, _, rfl, rfl⟩⟩
  ·rw [List.length_map, Array.length_toList]
   exact Nat.lt_of_le_of_lt hx (by decide)
  ·rw [ot]
   refine ⟨(signs x).map Ea, ?_, jH e q⟩
   unfold signs
   rw [List.map_map, List.map_map, List.map_map]
   rfl
theorem bg (d : Df K mg "has_word_form" dP ["text"]) (n_len : mg "len" = none) (g : GI mg "LONGEST_WORD" 8) (fE : bK P w K mg base j "has_letters" ["text"] (yt fun x => .bl (mj x))) :
  bK P w K mg base (j + 1) "has_word_form" ["text"] (yt fun x => .bl (dE x)) := by
 obtain ⟨t1, q_LONGEST_WORD⟩ := g.ex
 have r_LONGEST_WORD : RelV (.int 8) (.int 8 t1) := ⟨_, rfl⟩
 have v_LONGEST_WORD : ∀ H, Dv K H (.int 8) (.int 8) := fun _ => .int _
 refine d.eQ fg Gm Gk (fun f cdv A outer s H E hr => have hu := hr.units; have hh := hr.hd; have sc := fg
  (aE (aM (pk (Et (jI (by rfl) n_len (aA (dv 0) aD)) (d6 (by rfl) q_LONGEST_WORD r_LONGEST_WORD v_LONGEST_WORD)) (lU (aL fE hr (by omega) (by rfl) (aA (dv 0) aD))))))) ?_
 rintro ds Q ⟨x, rfl, hx, q⟩
 refine ⟨_, rfl, _, _, rfl, if_pos (str_len hx), _, rfl, ?_⟩
 cases h : decide ((x.length : Int) <= 8) with
 | false =>
  have e : dE x = false := by unfold dE; rw [h]; rfl
  exact aK (jH e q)
 | true =>
  have e : dE x = mj x := by unfold dE; rw [h]; rfl
  exact aO ⟨_, rfl, x, rfl, hx, jH e q⟩
theorem jy (d : Df K mg "is_word" kC ["thing"]) (gk : GD K mg "KEPT_WORDS" (.tup (kW.map D.str))) (bg : bK P w K mg base j "has_word_form" ["text"] (yt fun x => .bl (dE x))) :
  bK P w K mg base (j + 1) "is_word" ["thing"] (yt fun x => .bl (iY x)) := by
 obtain ⟨y_KEPT_WORDS, u_KEPT_WORDS, q_KEPT_WORDS, r_KEPT_WORDS, v_KEPT_WORDS⟩ := gk.ex
 refine d.eQ mG Gm Gk (fun f cdv A outer s H E hr => have hu := hr.units; have hh := hr.hd; have sc := mG
  (aE (aM (pk (aL bg hr (by omega) (by rfl) (aA (dv 0) aD)) (lU (zh (dv 0) (d6 (by rfl) q_KEPT_WORDS r_KEPT_WORDS v_KEPT_WORDS) (by rfl))))))) ?_
 rintro ds Q ⟨x, rfl, hx, q⟩
 refine ⟨_, rfl, x, rfl, hx, _, rfl, ?_⟩
 cases h : dE x with
 | false =>
  have e : iY x = false := by unfold iY; rw [h]; rfl
  exact aK (jH e q)
 | true =>
  have e : iY x = !inD (.str x) (kW.map D.str) := by unfold iY; rw [h, z6]; rfl
  exact aO ⟨_, rfl, rfl, u5 _, jH e q⟩
theorem jx (d : Df K mg "is_name" j_ ["thing"]) (n_len : mg "len" = none) (n_all : mg "all" = none) (g : GI mg "MOST_WORDS" 4) (jy : bK P w K mg base j "is_word" ["thing"] (yt fun x => .bl (iY x)))
  (bg : bK P w K mg base j "has_word_form" ["text"] (yt fun x => .bl (dE x))) : bK P w K mg base (j + 1) "is_name" ["thing"] (yt fun x => .bl (d_ x)) := by
 obtain ⟨t1, q_MOST_WORDS⟩ := g.ex
 have r_MOST_WORDS : RelV (.int 4) (.int 4 t1) := ⟨_, rfl⟩
 have v_MOST_WORDS : ∀ H, Dv K H (.int 4) (.int 4) := fun _ => .int _
 refine d.eQ mF Gm Gk (fun f cdv A outer s H E hr => have hu := hr.units; have hh := hr.hd; have sc := mF
  (aG (ar (i := 1) sc.nd rfl (Or.inl rfl) (zi (dv 0) (aA aZ aD)))
 (aG (bP (bR hu (jI (by rfl) n_len (aA (dv 1) aD)) aB) (aE (aM (aL jy hr (by omega) (by rfl) (aA (dv 0) aD)))) aV)
 (aE (aM (pk (Et (jI (by rfl) n_len (aA (dv 1) aD)) (d6 (by rfl) q_MOST_WORDS r_MOST_WORDS v_MOST_WORDS)) (lU (Bh hh (by rfl) n_all (aA (nA (x := "word") (caps := []) (cn := []) (cl := []) (m9 (by rfl) (by rfl) (by decide +kernel) (by decide +kernel) (by decide +kernel)) rfl (lj (dv 1)) (fun C fp s₂ H₂ => bw (i := 0) (show (["word"] : List Str).Nodup by decide +kernel) rfl (Or.inl rfl) (.inr rfl)) (fun C fp s₂ H₂ => fM) (fun C fp s₂ H₂ => (aL bg hr (by omega) (by rfl) (aA (dv 0) aD)))) aD))))))))) ?_
 rintro ds Q ⟨x, rfl, hx, q⟩
 have hs := split_le x dot
 refine ⟨_, rfl, ⟨x, rfl⟩, x, dot, rfl, rfl, rfl, Nat.le_trans (Nat.add_le_add_right hx 2) (by decide), ?_⟩
 refine ⟨_, rfl, _, _, rfl, rfl, _, rfl, ?_⟩
 show if decide ((((Txt.split x dot).map D.str).length : Int) = 1) = true then _ else _
 rw [List.length_map]
 cases h : decide (((Txt.split x dot).length : Int) = 1) with
 | true =>
  have e : d_ x = iY x := by unfold d_; rw [h]; rfl
  exact aO ⟨_, rfl, x, rfl, hx, jH e q⟩
 | false =>
  refine aK ⟨_, rfl, _, _, rfl, rfl, _, rfl, ?_⟩
  show if decide ((((Txt.split x dot).map D.str).length : Int) <= 4) = true then _ else _
  rw [List.length_map]
  cases h2 : decide (((Txt.split x dot).length : Int) <= 4) with
  | false =>
   have e : d_ x = false := by unfold d_; rw [h, h2]; rfl
   exact aK (jH e q)
  | true =>
   have e : d_ x = ((Txt.split x dot).map dE).all id := by unfold d_; rw [h, h2, List.all_map]; rfl
   refine aO ⟨_, rfl, _, rfl, mO E6 ((Txt.split x dot).map D.str), rn, fun i d o h1 h2 => ?_, ?_, ?_⟩
   ·obtain ⟨hd, rfl⟩ := xp h1 h2
    obtain ⟨c, hc, rfl⟩ := List.mem_map.mp hd
    refine ⟨rfl, fun _ => ⟨_, rfl, c, rfl, ?_, rfl⟩⟩
    have hw := split_weight x dot (by decide)
    have hc2 : c.length ∈ (Txt.split x dot).map (·.length) := List.mem_map.mpr ⟨c, hc, rfl⟩
    have := xl hc2
    have hp := split_pos x dot
    omega
   ·rw [List.length_map]
    exact Nat.lt_of_le_of_lt hs (Nat.lt_of_le_of_lt (Nat.add_le_add_right hx 2) (by decide))
   ·rw [ot]
    refine ⟨(Txt.split x dot).map dE, ?_, jH e q⟩
    rw [List.map_map, List.map_map]
    rfl
def BI : cY := fun ds Q => ∃ x : Str, ds = [.str x] /\ x.length <= 100000 /\ d_ x = true /\ Q .aW
theorem b6 (d : Df K mg "need_name" g6 ["name"]) (jx : bK P w K mg base j "is_name" ["thing"] (yt fun x => .bl (d_ x))) : bK P w K mg base (j + 1) "need_name" ["name"] BI := by
 refine d.eQ jg (fun ds P P' f ⟨x, e, h, z, q⟩ => ⟨x, e, h, z, f _ q⟩) (fun ds Q ⟨x, e, _⟩ => by rw [e]; rfl) (fun f cdv A outer s H E hr => have hu := hr.units; have hh := hr.hd; have sc := jg
  (aE (bP (mL (eN (aL jx hr (by omega) (by rfl) (aA (dv 0) aD)))) (aE jX) aV))) ?_
 rintro ds Q ⟨x, rfl, hx, hn, q⟩
 exact ⟨_, rfl, x, rfl, hx, true, congrArg some hn, aK q⟩
end
def nn : D := .tup [.str "number", .str "number"]
def nt : D := .tup [.str "number", .str "truth"]
def tt : D := .tup [.str "truth", .str "truth"]
def hJ : List (Str × D) := [("+", nn), ("-", nn), ("*", nn), ("=", .tup [.aW, .str "truth"]), ("<", nt), ("<=", nt), ("and", tt), ("or", tt)]
def cD : List Str := ["+", "-", "*", "=", "<", "<=", "and", "or"]
theorem BN {g : Str} (h : g ∈ cD) : (if true = true then !hJ.any fun p => p.1 == g else hJ.any fun p => p.1 == g) = false := by
 simp only [cD, List.mem_cons, List.not_mem_nil, or_false] at h
 rcases h with rfl | rfl | rfl | rfl | rfl | rfl | rfl | rfl <;> decide +kernel
def eB (x : Str) : Prop := d_ x = true /\ x.length <= 100 /\ PyData.strOk x = true
section
seal wpAny
variable {P : Program} {w : World} {K : PySem.W.Frag} {mg : Str -> Option Value} {base : Heap} {A : b5} {n j : Nat}
theorem rg (hA : fQ K A) (d : Di K mg "Named" A.named "Named.__init__" cq ["self", "name"] []) (b6 : bK P w K mg base j "need_name" ["name"] BI) :
  mX P w K mg base (j + 1) "Named" A.named (fun ds Q => ∃ x : Str, ds = [.str x] /\ eB x /\ Q [("name", .str x)]) [] := by
 have hc := hA.cl A.named (by simp)
 have hn := hA.lE A.named (by simp)
 refine d.Af ei (fun ds P P' g ⟨v, e, h, q⟩ => ⟨v, e, h, g _ q⟩) (fun ds Q ⟨v, e, _⟩ => by rw [e]; rfl) (fun f cdv A outer s H E hr => have hu := hr.units; have hh := hr.hd; have sc := ei
  (a_ (ik (dO (aL b6 hr (by omega) (by rfl) (aA (dv 1) aD))))
 (a_ (bj K rfl rfl (Or.inl rfl) (dv 1))
 Bn))) ?_
 rintro a ds Q ⟨x, rfl, ⟨h1, h2, h3⟩, q⟩
 exact ⟨_, rfl, x, rfl, Nat.le_trans h2 (by decide), h1, _, rfl, rfl, hc, hn _ (by decide), (by first | exact qp | exact qq | exact qr), q⟩
theorem vA (hA : fQ K A) (d : Di K mg "When" A.bo "When.__init__" dN ["self", "part", "name"] []) (b6 : bK P w K mg base j "need_name" ["name"] BI) (m_need_bounds : MQ P w K mg base A j "need_bounds" n jB fun _ => .aW) :
  mX P w K mg base (j + 1) "When" A.bo (fun ds Q => ∃ (p : Pt) (x : Str), ds = [p.d A, .str x] /\ eB x /\ (Pt.bo p x).depth <= n /\ jB (.bo p x) /\ Q [("part", p.d A), ("name", .str x)]) [] := by
 have hc := hA.cl A.bo (by simp)
 have hn := hA.lE A.bo (by simp)
 refine d.Af ff (fun ds P P' g ⟨v, u, e, k, h, o, q⟩ => ⟨v, u, e, k, h, o, g _ q⟩) (fun ds Q ⟨v, u, e, _⟩ => by rw [e]; rfl) (fun f cdv A outer s H E hr => have hu := hr.units; have hh := hr.hd; have sc := ff
  (a_ (ik (dO (aL b6 hr (by omega) (by rfl) (aA (dv 2) aD))))
 (a_ (bj K rfl rfl (Or.inl rfl) (dv 1))
 (a_ (bj K rfl rfl (Or.inl rfl) (dv 2))
 (il (aE (dO (jJ m_need_bounds hr (by omega) (dv 0))))))))) ?_
 rintro a ds Q ⟨p, x, rfl, ⟨h1, h2, h3⟩, hd, ho, q⟩
 exact ⟨_, rfl, x, rfl, Nat.le_trans h2 (by decide), h1, _, rfl, rfl, hc, hn _ (by decide), (by first | exact qp | exact qq | exact qr), _, rfl, rfl, hc, hn _ (by decide), (by first | exact qp | exact qq | exact qr), rfl, cy (p := .bo p x) eX cL ⟨_, rfl, rfl⟩ hd ho q⟩
theorem u9 (hA : fQ K A) (d : Di K mg "Held" A.held "Held.__init__" cI ["self", "part", "name", "first"] []) (b6 : bK P w K mg base j "need_name" ["name"] BI) (cN : bK P w K mg base j "need_first" ["first"] pJ)
  (m_need_bounds : MQ P w K mg base A j "need_bounds" n jB fun _ => .aW) :
  mX P w K mg base (j + 1) "Held" A.held (fun ds Q => ∃ (p : Pt) (x : Str) (f : D), ds = [p.d A, .str x, f] /\ eB x /\ cH f /\ (Pt.held p x f).depth <= n /\ jB (.held p x f) /\ Q [("part", p.d A), ("name", .str x), ("first", f)]) [] := by
 have hc := hA.cl A.held (by simp)
 have hn := hA.lE A.held (by simp)
 refine d.Af fZ (fun ds P P' g ⟨v, u, f, e, k, l, h, o, q⟩ => ⟨v, u, f, e, k, l, h, o, g _ q⟩) (fun ds Q ⟨v, u, f, e, _⟩ => by rw [e]; rfl) (fun f cdv A outer s H E hr => have hu := hr.units; have hh := hr.hd; have sc := fZ
  (a_ (ik (dO (aL b6 hr (by omega) (by rfl) (aA (dv 2) aD))))
 (a_ (ik (dO (aL cN hr (by omega) (by rfl) (aA (dv 3) aD))))
 (a_ (bj K rfl rfl (Or.inl rfl) (dv 1))
 (a_ (bj K rfl rfl (Or.inl rfl) (dv 2))
 (a_ (bj K rfl rfl (Or.inl rfl) (dv 3))
 (il (aE (dO (jJ m_need_bounds hr (by omega) (dv 0))))))))))) ?_
 rintro a ds Q ⟨p, x, f, rfl, ⟨h1, h2, h3⟩, hf, hd, ho, q⟩
 exact ⟨_, rfl, x, rfl, Nat.le_trans h2 (by decide), h1, _, rfl, _, rfl, hf, _, rfl, rfl, hc, hn _ (by decide), (by first | exact qp | exact qq | exact qr), _, rfl, rfl, hc, hn _ (by decide), (by first | exact qp | exact qq | exact qr), _, rfl, rfl, hc, hn _ (by decide), (by first | exact qp | exact qq | exact qr), rfl, cy (p := .held p x f) eX cL ⟨_, rfl, rfl⟩ hd ho q⟩
theorem u_ {sa : Addr} (hA : fQ K A) (d : Di K mg "Pair" A.pair "Pair.__init__" dM ["self", "sign", "one", "other"] []) (kd_SIGNS : wM w K mg "SIGNS" sa hJ) (m_need_bounds : MQ P w K mg base A j "need_bounds" n jB fun _ => .aW) :
  mX P w K mg base (j + 1) "Pair" A.pair (fun ds Q => ∃ (g : Str) (x y : Pt), ds = [.str g, x.d A, y.d A] /\ g ∈ cD /\ (Pt.pair g x y).depth <= n /\ jB (.pair g x y) /\ Q [("sign", .str g), ("one", x.d A), ("other", y.d A)]) [] := by
 have hc := hA.cl A.pair (by simp)
 have hn := hA.lE A.pair (by simp)
 refine d.Af fe (fun ds P P' g ⟨v, u, f, e, k, h, o, q⟩ => ⟨v, u, f, e, k, h, o, g _ q⟩) (fun ds Q ⟨v, u, f, e, _⟩ => by rw [e]; rfl) (fun f cdv A outer s H E hr => have hu := hr.units; have hh := hr.hd; have sc := fe
  (a_ (ik (bP (y_ kd_SIGNS (by rfl) (dv 1)) (aE jX) aV))
 (a_ (bj K rfl rfl (Or.inl rfl) (dv 1))
 (a_ (bj K rfl rfl (Or.inl rfl) (dv 2))
 (a_ (bj K rfl rfl (Or.inl rfl) (dv 3))
 (il (aE (dO (jJ m_need_bounds hr (by omega) (dv 0)))))))))) ?_
 rintro a ds Q ⟨g, x, y, rfl, hg, hd, ho, q⟩
 exact ⟨_, rfl, g, rfl, false, congrArg D.bl (BN hg), aK ⟨_, rfl, rfl, hc, hn _ (by decide), (by first | exact qp | exact qq | exact qr), _, rfl, rfl, hc, hn _ (by decide), (by first | exact qp | exact qq | exact qr), _, rfl, rfl, hc, hn _ (by decide), (by first | exact qp | exact qq | exact qr), rfl, cy (p := .pair g x y) eX cL ⟨_, rfl, rfl⟩ hd ho q⟩⟩
end
def sh (a b : Int) : D := .tup [.int a, .int b]
def jm : List (Str × D) := [("given", sh 2 0), ("named", sh 2 0), ("not", sh 2 1), ("if", sh 4 3), ("before", sh 3 1), ("then", sh 3 2), ("when", sh 3 1), ("held", sh 4 1)]
def Pt.ok : Pt -> Prop
 | .given v => isVal v
 | .named s => eB s
 | .turned p => p.ok
 | .pair g a b => g ∈ cD /\ a.ok /\ b.ok
 | .choice t a b => t.ok /\ a.ok /\ b.ok
 | .before p f => p.ok /\ cH f
 | .led h r => h.ok /\ r.ok
 | .bo p s => p.ok /\ eB s
 | .held p s f => p.ok /\ eB s /\ cH f
def Pt.lr : Pt -> Bool
 | .pair _ _ _ => true
 | _ => false
def Pt.isPlain : Pt -> Bool
 | .given _ => true | .named _ => true | .turned _ => true | .choice _ _ _ => true | _ => false
theorem Pt.yH {p q : Pt} (h : q ∈ p.inner) (o : p.ok) : q.ok := by
 cases p <;> simp only [Pt.inner, Pt.ok, List.mem_cons, List.not_mem_nil, or_false] at h o
 case turned => subst h; exact o
 case pair => rcases h with rfl | rfl <;> simp only [o]
 case choice => rcases h with rfl | rfl | rfl <;> simp only [o]
 case before => subst h; exact o.1
 case led => rcases h with rfl | rfl <;> simp only [o]
 case bo => subst h; exact o.1
 case held => subst h; exact o.1
def pN (ok : Pt -> Prop) (g : Pt -> D) : cY := fun ds Q => ∃ p : Pt, ds = [p.told] /\ ok p /\ Q (g p)
theorem FU {ok : Pt -> Prop} {g : Pt -> D} : bS (pN ok g) := fun ds P P' f ⟨p, e, h, q⟩ => ⟨p, e, h, f _ q⟩
theorem FJ {ok : Pt -> Prop} {g : Pt -> D} (ds : List D) (Q : D -> Prop) (h : pN ok g ds Q) : ds.length = 1 := by obtain ⟨x, e, _⟩ := h; rw [e]; rfl
def se (A : b5) (n : Nat) (b : Bool) : cY := fun ds Q => ∃ p : Pt, ds = [p.told, .lst (p.inner.map (Pt.d A))] /\ p.lr = false /\ p.isPlain = b /\ p.ok /\ jB p /\ p.depth <= n /\ Q (p.d A)
def vg (A : b5) (n : Nat) : cY := fun ds Q => ∃ p : Pt, ds = [p.told] /\ p.depth <= n /\ p.ok /\ jB p /\ Q (p.d A)
theorem HN {A : b5} {n : Nat} : bS (vg A n) := fun ds P P' f ⟨p, e, h, o, b, q⟩ => ⟨p, e, h, o, b, f _ q⟩
theorem FQ {A : b5} {n : Nat} {b : Bool} : bS (se A n b) := fun ds P P' f ⟨p, e, h, o, b, i, d, q⟩ => ⟨p, e, h, o, b, i, d, f _ q⟩
theorem yD {g : Str} (h : g ∈ cD) : (if false = true then !jm.any fun p => p.1 == g else jm.any fun p => p.1 == g) = false := by
 simp only [cD, List.mem_cons, List.not_mem_nil, or_false] at h
 rcases h with rfl | rfl | rfl | rfl | rfl | rfl | rfl | rfl <;> decide +kernel
section
seal wpAny
variable {P : Program} {w : World} {K : PySem.W.Frag} {mg : Str -> Option Value} {base : Heap} {A : b5} {n j : Nat}
theorem dC {sa : Addr} (d : Df K mg "has_shape" g0 ["told"]) (n_len : mg "len" = none) (kd_SHAPES : wM w K mg "SHAPES" sa jm) : bK P w K mg base (j + 1) "has_shape" ["told"] (pN Pt.ok fun p => .bl (!p.lr)) := by
 refine d.eQ je FU FJ (fun f cdv A outer s H E hr => have hu := hr.units; have hh := hr.hd; have sc := je
  (aE (aM (pk (Es kd_SHAPES (by rfl) (aR (dv 0) aB (fun _ _ => rfl))) (lU (rQ hu (jI (by rfl) n_len (aA (dv 0) aD)) (aR (oO kd_SHAPES (by rfl) (aR (dv 0) aB (fun _ _ => rfl)) (fun _ _ => rfl)) aB (fun _ _ => rfl)))))))) ?_
 rintro ds Q ⟨p, rfl, ho, q⟩
 cases p with
 | given v => exact ⟨_, rfl, _, rfl, "given", rfl, true, congrArg D.bl (by decide +kernel), aO ⟨_, rfl, _, _, rfl, rfl, _, rfl, _, rfl, "given", sh 2 0, rfl, (by kernel_rfl), _, rfl, q⟩⟩
 | named s => exact ⟨_, rfl, _, rfl, "named", rfl, true, congrArg D.bl (by decide +kernel), aO ⟨_, rfl, _, _, rfl, rfl, _, rfl, _, rfl, "named", sh 2 0, rfl, (by kernel_rfl), _, rfl, q⟩⟩
 | turned x => exact ⟨_, rfl, _, rfl, "not", rfl, true, congrArg D.bl (by decide +kernel), aO ⟨_, rfl, _, _, rfl, rfl, _, rfl, _, rfl, "not", sh 2 1, rfl, (by kernel_rfl), _, rfl, q⟩⟩
 | pair g x y => exact ⟨_, rfl, _, rfl, g, rfl, false, congrArg D.bl (yD ho.1), aK q⟩
 | choice x y z => exact ⟨_, rfl, _, rfl, "if", rfl, true, congrArg D.bl (by decide +kernel), aO ⟨_, rfl, _, _, rfl, rfl, _, rfl, _, rfl, "if", sh 4 3, rfl, (by kernel_rfl), _, rfl, q⟩⟩
 | before x f => exact ⟨_, rfl, _, rfl, "before", rfl, true, congrArg D.bl (by decide +kernel), aO ⟨_, rfl, _, _, rfl, rfl, _, rfl, _, rfl, "before", sh 3 1, rfl, (by kernel_rfl), _, rfl, q⟩⟩
 | led x y => exact ⟨_, rfl, _, rfl, "then", rfl, true, congrArg D.bl (by decide +kernel), aO ⟨_, rfl, _, _, rfl, rfl, _, rfl, _, rfl, "then", sh 3 2, rfl, (by kernel_rfl), _, rfl, q⟩⟩
 | bo x s => exact ⟨_, rfl, _, rfl, "when", rfl, true, congrArg D.bl (by decide +kernel), aO ⟨_, rfl, _, _, rfl, rfl, _, rfl, _, rfl, "when", sh 3 1, rfl, (by kernel_rfl), _, rfl, q⟩⟩
 | held x s f => exact ⟨_, rfl, _, rfl, "held", rfl, true, congrArg D.bl (by decide +kernel), aO ⟨_, rfl, _, _, rfl, rfl, _, rfl, _, rfl, "held", sh 4 1, rfl, (by kernel_rfl), _, rfl, q⟩⟩
theorem ib (d : Df K mg "plain_by" iz ["told", "inner"])
  {i : Nat} (hi : i + 1 <= j)
  (k_Given_1 : mX P w K mg base i "Given" A.given (fun ds Q => ∃ v, ds = [v] /\ isVal v /\ Q [("value", v)]) [])
  (k_Named_1 : mX P w K mg base i "Named" A.named (fun ds Q => ∃ x : Str, ds = [.str x] /\ eB x /\ Q [("name", .str x)]) [])
  (k_Turned_1 : mX P w K mg base i "Turned" A.turned (fun ds Q => ∃ p : Pt, ds = [p.d A] /\ (Pt.turned p).depth <= n /\ jB (.turned p) /\ Q [("part", p.d A)]) [])
  (k_Choice_3 : mX P w K mg base i "Choice" A.choice (fun ds Q => ∃ t x y : Pt, ds = [t.d A, x.d A, y.d A] /\ (Pt.choice t x y).depth <= n /\ jB (.choice t x y) /\ Q [("truth", t.d A), ("one", x.d A), ("other", y.d A)]) [])
  : bK P w K mg base (j + 1) "plain_by" ["told", "inner"] (se A n true) := by
 refine d.eQ kj FQ (fun ds Q ⟨x, e, _⟩ => by rw [e]; rfl) (fun f cdv A outer s H E hr => have hu := hr.units; have hh := hr.hd; have sc := kj
  (aG (ar (i := 2) sc.nd rfl (Or.inl rfl) (aR (dv 0) aB (fun _ _ => rfl)))
 (aG (bP (bR hu (dv 2) aZ) (aE (aM (oP k_Given_1 hr (by omega) (by rfl) (aA (aR (dv 0) aB (fun _ _ => rfl)) aD)))) aV)
 (aG (bP (bR hu (dv 2) aZ) (aE (aM (oP k_Named_1 hr (by omega) (by rfl) (aA (aR (dv 0) aB (fun _ _ => rfl)) aD)))) aV)
 (aG (bP (bR hu (dv 2) aZ) (aE (aM (oP k_Turned_1 hr (by omega) (by rfl) (aA (aR (dv 1) aB (fun _ _ => rfl)) aD)))) aV)
 (aE (aM (oP k_Choice_3 hr (by omega) (by rfl) (aA (aR (dv 1) aB (fun _ _ => rfl)) (aA (aR (dv 1) aB (fun _ _ => rfl)) (aA (aR (dv 1) aB (fun _ _ => rfl)) aD))))))))))) ?_
 rintro ds Q ⟨p, rfl, hp, hl, ho, hb, hd, q⟩
 cases p with
 | given v => exact ⟨_, rfl, _, rfl, ⟨_, rfl, true, congrArg D.bl (by decide +kernel), aO ⟨_, rfl, _, rfl, v, rfl, ho, q⟩⟩⟩
 | named s => exact ⟨_, rfl, _, rfl, ⟨_, rfl, false, congrArg D.bl (by decide +kernel), aK ⟨_, rfl, true, congrArg D.bl (by decide +kernel), aO ⟨_, rfl, _, rfl, s, rfl, ho, q⟩⟩⟩⟩
 | turned x => exact ⟨_, rfl, _, rfl, ⟨_, rfl, false, congrArg D.bl (by decide +kernel), aK ⟨_, rfl, false, congrArg D.bl (by decide +kernel), aK ⟨_, rfl, true, congrArg D.bl (by decide +kernel), aO ⟨_, rfl, _, rfl, x, rfl, hd, hb, q⟩⟩⟩⟩⟩
 | pair g x y => cases hp
 | choice x y z => exact ⟨_, rfl, _, rfl, ⟨_, rfl, false, congrArg D.bl (by decide +kernel), aK ⟨_, rfl, false, congrArg D.bl (by decide +kernel), aK ⟨_, rfl, false, congrArg D.bl (by decide +kernel), aK ⟨_, rfl, _, rfl, _, rfl, _, rfl, _, rfl, _, rfl, x, y, z, rfl, hd, hb, q⟩⟩⟩⟩⟩
 | before x f => cases hl
 | led x y => cases hl
 | bo x s => cases hl
 | held x s f => cases hl
theorem ic (d : Df K mg "timed_by" i_ ["told", "inner"])
  {i : Nat} (hi : i + 1 <= j)
  (k_Before_2 : mX P w K mg base i "Before" A.before (fun ds Q => ∃ (p : Pt) (f : D), ds = [p.d A, f] /\ cH f /\ (Pt.before p f).depth <= n /\ jB (.before p f) /\ Q [("part", p.d A), ("first", f)]) [])
  (k_Led_2 : mX P w K mg base i "Led" A.led (fun ds Q => ∃ x y : Pt, ds = [x.d A, y.d A] /\ (Pt.led x y).depth <= n /\ jB (.led x y) /\ Q [("head", x.d A), ("rest", y.d A)]) [])
  (k_When_2 : mX P w K mg base i "When" A.bo (fun ds Q => ∃ (p : Pt) (x : Str), ds = [p.d A, .str x] /\ eB x /\ (Pt.bo p x).depth <= n /\ jB (.bo p x) /\ Q [("part", p.d A), ("name", .str x)]) [])
  (k_Held_3 : mX P w K mg base i "Held" A.held (fun ds Q => ∃ (p : Pt) (x : Str) (f : D), ds = [p.d A, .str x, f] /\ eB x /\ cH f /\ (Pt.held p x f).depth <= n /\ jB (.held p x f) /\ Q [("part", p.d A), ("name", .str x), ("first", f)]) [])
  : bK P w K mg base (j + 1) "timed_by" ["told", "inner"] (se A n false) := by
 refine d.eQ kl FQ (fun ds Q ⟨x, e, _⟩ => by rw [e]; rfl) (fun f cdv A outer s H E hr => have hu := hr.units; have hh := hr.hd; have sc := kl
  (aG (ar (i := 2) sc.nd rfl (Or.inl rfl) (aR (dv 0) aB (fun _ _ => rfl)))
 (aG (bP (bR hu (dv 2) aZ) (aE (aM (oP k_Before_2 hr (by omega) (by rfl) (aA (aR (dv 1) aB (fun _ _ => rfl)) (aA (aR (dv 0) aB (fun _ _ => rfl)) aD))))) aV)
 (aG (bP (bR hu (dv 2) aZ) (aE (aM (oP k_Led_2 hr (by omega) (by rfl) (aA (aR (dv 1) aB (fun _ _ => rfl)) (aA (aR (dv 1) aB (fun _ _ => rfl)) aD))))) aV)
 (aG (bP (bR hu (dv 2) aZ) (aE (aM (oP k_When_2 hr (by omega) (by rfl) (aA (aR (dv 1) aB (fun _ _ => rfl)) (aA (aR (dv 0) aB (fun _ _ => rfl)) aD))))) aV)
 (aE (aM (oP k_Held_3 hr (by omega) (by rfl) (aA (aR (dv 1) aB (fun _ _ => rfl)) (aA (aR (dv 0) aB (fun _ _ => rfl)) (aA (aR (dv 0) aB (fun _ _ => rfl)) aD))))))))))) ?_
 rintro ds Q ⟨p, rfl, hp, hl, ho, hb, hd, q⟩
 cases p with
 | given v => cases hl
 | named s => cases hl
 | turned x => cases hl
 | pair g x y => cases hp
 | choice x y z => cases hl
 | before x f => exact ⟨_, rfl, _, rfl, ⟨_, rfl, true, congrArg D.bl (by decide +kernel), aO ⟨_, rfl, _, rfl, _, rfl, _, rfl, x, f, rfl, ho.2, hd, hb, q⟩⟩⟩
 | led x y => exact ⟨_, rfl, _, rfl, ⟨_, rfl, false, congrArg D.bl (by decide +kernel), aK ⟨_, rfl, true, congrArg D.bl (by decide +kernel), aO ⟨_, rfl, _, rfl, _, rfl, _, rfl, x, y, rfl, hd, hb, q⟩⟩⟩⟩
 | bo x s => exact ⟨_, rfl, _, rfl, ⟨_, rfl, false, congrArg D.bl (by decide +kernel), aK ⟨_, rfl, false, congrArg D.bl (by decide +kernel), aK ⟨_, rfl, true, congrArg D.bl (by decide +kernel), aO ⟨_, rfl, _, rfl, _, rfl, _, rfl, x, s, rfl, ho.2, hd, hb, q⟩⟩⟩⟩⟩
 | held x s f => exact ⟨_, rfl, _, rfl, ⟨_, rfl, false, congrArg D.bl (by decide +kernel), aK ⟨_, rfl, false, congrArg D.bl (by decide +kernel), aK ⟨_, rfl, false, congrArg D.bl (by decide +kernel), aK ⟨_, rfl, _, rfl, _, rfl, _, rfl, _, rfl, _, rfl, x, s, f, rfl, ho.2.1, ho.2.2, hd, hb, q⟩⟩⟩⟩⟩
theorem F_ (x : D) (xs : List D) : HT.cM (x :: xs).length 0 (some 1) = 1 := by
 rw [show (1 : Int) = ((1 : Nat) : Int) from rfl, HT.BH, List.length_cons]
 omega
theorem f7 {x : D} {xs : List D} {R : Prop} : ¬ (HT.cM (x :: xs).length 0 (some 1) = 0 /\ R) := fun z => by
 rw [F_] at z
 exact absurd z.1 (by decide)
theorem f9 (p : Pt) : (p.inner.map fun q => some (q.d A)).length = (p.inner.map Pt.told).length := by simp
theorem dh {caps : List Nat} {δ : SD} (p : Pt) (hd : p.depth <= n + 1) (ho : p.ok) (hb : jB p) (i : Nat) (d : D) (o : Option D) (h1 : (p.inner.map Pt.told)[i]? = some d) (h2 : (p.inner.map fun q => some (q.d A))[i]? = some o) :
  EJ (some d :: ie caps δ) fun b => b = o.isSome /\ (b = true -> zD (vg A n) (my (mP 0) oB) (some d :: ie caps δ) fun y => o = some y) := by
 rw [List.getElem?_map] at h1 h2
 cases e : p.inner[i]? with
 | none => rw [e] at h1; cases h1
 | some r =>
  rw [e] at h1 h2
  cases h1
  cases h2
  have hr := List.mem_of_getElem? e
  have hs := Pt.z5 hr
  have hp := p.fV hr (n := p.depth - 1) (by omega)
  exact ⟨rfl, fun _ => ⟨_, rfl, r, rfl, p.fV hr hd, Pt.yH hr ho, ⟨by have := hb.1; omega, Nat.le_trans hs hb.2⟩, rfl⟩⟩
theorem of_lt (p : Pt) : (p.inner.map Pt.told).length < sizeLine := by rw [List.length_map]; exact Nat.lt_of_le_of_lt p.fW (by decide)
theorem f_ (p : Pt) : (p.inner.map fun q => some (q.d A)).filterMap id = p.inner.map (Pt.d A) := by rw [List.filterMap_map, filterMap_some]
theorem fF {sa : Addr} (d : Df K mg "many_within" fL ["told"]) (kd_SHAPES : wM w K mg "SHAPES" sa jm) (dC : bK P w K mg base j "has_shape" ["told"] (pN Pt.ok fun p => .bl (!p.lr))) : bK P w K mg base (j + 1) "many_within" ["told"] (pN Pt.ok fun p => .int p.inner.length) := by
 refine d.eQ g_ FU FJ (fun f cdv A outer s H E hr => have hu := hr.units; have hh := hr.hd; have sc := g_
  (aE (aM (gc (eN (aL dC hr (by omega) (by rfl) (aA (dv 0) aD))) (aR (oO kd_SHAPES (by rfl) (aR (dv 0) aB (fun _ _ => rfl)) (fun _ _ => rfl)) aB (fun _ _ => rfl)) aB)))) ?_
 rintro ds Q ⟨p, rfl, ho, q⟩
 cases p with
 | given v => exact ⟨_, rfl, .given v, rfl, ho, _, rfl, aO ⟨_, rfl, _, rfl, "given", sh 2 0, rfl, (by kernel_rfl), _, rfl, q⟩⟩
 | named s => exact ⟨_, rfl, .named s, rfl, ho, _, rfl, aO ⟨_, rfl, _, rfl, "named", sh 2 0, rfl, (by kernel_rfl), _, rfl, q⟩⟩
 | turned x => exact ⟨_, rfl, .turned x, rfl, ho, _, rfl, aO ⟨_, rfl, _, rfl, "not", sh 2 1, rfl, (by kernel_rfl), _, rfl, q⟩⟩
 | pair g x y => exact ⟨_, rfl, .pair g x y, rfl, ho, _, rfl, aK q⟩
 | choice x y z => exact ⟨_, rfl, .choice x y z, rfl, ho, _, rfl, aO ⟨_, rfl, _, rfl, "if", sh 4 3, rfl, (by kernel_rfl), _, rfl, q⟩⟩
 | before x f => exact ⟨_, rfl, .before x f, rfl, ho, _, rfl, aO ⟨_, rfl, _, rfl, "before", sh 3 1, rfl, (by kernel_rfl), _, rfl, q⟩⟩
 | led x y => exact ⟨_, rfl, .led x y, rfl, ho, _, rfl, aO ⟨_, rfl, _, rfl, "then", sh 3 2, rfl, (by kernel_rfl), _, rfl, q⟩⟩
 | bo x s => exact ⟨_, rfl, .bo x s, rfl, ho, _, rfl, aO ⟨_, rfl, _, rfl, "when", sh 3 1, rfl, (by kernel_rfl), _, rfl, q⟩⟩
 | held x s f => exact ⟨_, rfl, .held x s f, rfl, ho, _, rfl, aO ⟨_, rfl, _, rfl, "held", sh 4 1, rfl, (by kernel_rfl), _, rfl, q⟩⟩
theorem vV {i m N : Nat} (hi : i + 1 <= j) (hN : n <= N) (d : Df K mg "part_of" iG ["told"]) (fF : bK P w K mg base j "many_within" ["told"] (pN Pt.ok fun p => .int p.inner.length)) (dC : bK P w K mg base j "has_shape" ["told"] (pN Pt.ok fun p => .bl (!p.lr)))
  (c_part_of : bK P w K mg base j "part_of" ["told"] (vg A m)) (hm : n <= m + 1)
  (ib : bK P w K mg base j "plain_by" ["told", "inner"] (se A N true)) (ic : bK P w K mg base j "timed_by" ["told", "inner"] (se A N false))
  (k_Pair_3 : mX P w K mg base i "Pair" A.pair (fun ds Q => ∃ (g : Str) (x y : Pt), ds = [.str g, x.d A, y.d A] /\ g ∈ cD /\ (Pt.pair g x y).depth <= N /\ jB (.pair g x y) /\ Q [("sign", .str g), ("one", x.d A), ("other", y.d A)]) [])
  : bK P w K mg base (j + 1) "part_of" ["told"] (vg A n) := by
 refine d.eQ mH HN (fun ds Q ⟨x, e, _⟩ => by rw [e]; rfl) (fun f cdv A outer s H E hr => have hu := hr.units; have hh := hr.hd; have sc := mH
  (aG (B5 (i := 1) sc.nd rfl (Or.inl rfl) (x := "one") (caps := []) (cn := []) (cl := []) (m9 (by rfl) (by rfl) (by decide +kernel) (by decide +kernel) (by decide +kernel)) rfl (lj (iA (dv 0) (iq aB) (iq (bp aB (aL fF hr (by omega) (by rfl) (aA (dv 0) aD)))))) (fun C fp s₂ H₂ => bw (i := 0) (show (["one"] : List Str).Nodup by decide +kernel) rfl (Or.inl rfl) (.inr rfl)) (fun C fp s₂ H₂ => fM) (fun C fp s₂ H₂ => (aL c_part_of hr (by omega) (by rfl) (aA (dv 0) aD))))
 (aG (bP (mL (eN (aL dC hr (by omega) (by rfl) (aA (dv 0) aD)))) (aE (aM (oP k_Pair_3 hr (by omega) (by rfl) (aA (aR (dv 0) aB (fun _ _ => rfl)) (aA (aR (dv 1) aB (fun _ _ => rfl)) (aA (aR (dv 1) aB (fun _ _ => rfl)) aD)))))) aV)
 (aG (bP (vq (aR (dv 0) aB (fun _ _ => rfl)) (ag (cF (by rfl))) (by rfl)) (aE (aM (aL ib hr (by omega) (by rfl) (aA (dv 0) (aA (dv 1) aD))))) aV)
 (aE (aM (aL ic hr (by omega) (by rfl) (aA (dv 0) (aA (dv 1) aD))))))))) ?_
 rintro ds Q ⟨p, rfl, hd, ho, hb, q⟩
 have hdm : p.depth <= m + 1 := Nat.le_trans hd hm
 have hdN : p.depth <= N := Nat.le_trans hd hN
 cases p with
 | given v =>
  refine ⟨_, rfl, _, rfl, _, rfl, .given v, rfl, ho, _, rfl, f7, (Pt.given v).inner.map Pt.told, rfl, _, f9 (.given v), dh (.given v) hdm ho hb, of_lt (.given v), ?_⟩
  rw [f_]
  exact ⟨_, rfl, .given v, rfl, ho, _, rfl, aK ⟨_, rfl, _, rfl, (by decide), rfl, (by decide), true, congrArg D.bl (by decide +kernel), aO ⟨_, rfl, _, rfl, .given v, rfl, rfl, rfl, ho, hb, hdN, q⟩⟩⟩
 | named s =>
  refine ⟨_, rfl, _, rfl, _, rfl, .named s, rfl, ho, _, rfl, f7, (Pt.named s).inner.map Pt.told, rfl, _, f9 (.named s), dh (.named s) hdm ho hb, of_lt (.named s), ?_⟩
  rw [f_]
  exact ⟨_, rfl, .named s, rfl, ho, _, rfl, aK ⟨_, rfl, _, rfl, (by decide), rfl, (by decide), true, congrArg D.bl (by decide +kernel), aO ⟨_, rfl, _, rfl, .named s, rfl, rfl, rfl, ho, hb, hdN, q⟩⟩⟩
 | turned x =>
  refine ⟨_, rfl, _, rfl, _, rfl, .turned x, rfl, ho, _, rfl, f7, (Pt.turned x).inner.map Pt.told, rfl, _, f9 (.turned x), dh (.turned x) hdm ho hb, of_lt (.turned x), ?_⟩
  rw [f_]
  exact ⟨_, rfl, .turned x, rfl, ho, _, rfl, aK ⟨_, rfl, _, rfl, (by decide), rfl, (by decide), true, congrArg D.bl (by decide +kernel), aO ⟨_, rfl, _, rfl, .turned x, rfl, rfl, rfl, ho, hb, hdN, q⟩⟩⟩
 | pair g x y =>
  refine ⟨_, rfl, _, rfl, _, rfl, .pair g x y, rfl, ho, _, rfl, f7, (Pt.pair g x y).inner.map Pt.told, rfl, _, f9 (.pair g x y), dh (.pair g x y) hdm ho hb, of_lt (.pair g x y), ?_⟩
  rw [f_]
  exact ⟨_, rfl, .pair g x y, rfl, ho, _, rfl, aO ⟨_, rfl, _, rfl, _, rfl, _, rfl, _, rfl, _, rfl, g, x, y, rfl, ho.1, hdN, hb, q⟩⟩
 | choice x y z =>
  refine ⟨_, rfl, _, rfl, _, rfl, .choice x y z, rfl, ho, _, rfl, f7, (Pt.choice x y z).inner.map Pt.told, rfl, _, f9 (.choice x y z), dh (.choice x y z) hdm ho hb, of_lt (.choice x y z), ?_⟩
  rw [f_]
  exact ⟨_, rfl, .choice x y z, rfl, ho, _, rfl, aK ⟨_, rfl, _, rfl, (by decide), rfl, (by decide), true, congrArg D.bl (by decide +kernel), aO ⟨_, rfl, _, rfl, .choice x y z, rfl, rfl, rfl, ho, hb, hdN, q⟩⟩⟩
 | before x f =>
  refine ⟨_, rfl, _, rfl, _, rfl, .before x f, rfl, ho, _, rfl, f7, (Pt.before x f).inner.map Pt.told, rfl, _, f9 (.before x f), dh (.before x f) hdm ho hb, of_lt (.before x f), ?_⟩
  rw [f_]
  exact ⟨_, rfl, .before x f, rfl, ho, _, rfl, aK ⟨_, rfl, _, rfl, (by decide), rfl, (by decide), false, congrArg D.bl (by decide +kernel), aK ⟨_, rfl, _, rfl, .before x f, rfl, rfl, rfl, ho, hb, hdN, q⟩⟩⟩
 | led x y =>
  refine ⟨_, rfl, _, rfl, _, rfl, .led x y, rfl, ho, _, rfl, f7, (Pt.led x y).inner.map Pt.told, rfl, _, f9 (.led x y), dh (.led x y) hdm ho hb, of_lt (.led x y), ?_⟩
  rw [f_]
  exact ⟨_, rfl, .led x y, rfl, ho, _, rfl, aK ⟨_, rfl, _, rfl, (by decide), rfl, (by decide), false, congrArg D.bl (by decide +kernel), aK ⟨_, rfl, _, rfl, .led x y, rfl, rfl, rfl, ho, hb, hdN, q⟩⟩⟩
 | bo x s =>
  refine ⟨_, rfl, _, rfl, _, rfl, .bo x s, rfl, ho, _, rfl, f7, (Pt.bo x s).inner.map Pt.told, rfl, _, f9 (.bo x s), dh (.bo x s) hdm ho hb, of_lt (.bo x s), ?_⟩
  rw [f_]
  exact ⟨_, rfl, .bo x s, rfl, ho, _, rfl, aK ⟨_, rfl, _, rfl, (by decide), rfl, (by decide), false, congrArg D.bl (by decide +kernel), aK ⟨_, rfl, _, rfl, .bo x s, rfl, rfl, rfl, ho, hb, hdN, q⟩⟩⟩
 | held x s f =>
  refine ⟨_, rfl, _, rfl, _, rfl, .held x s f, rfl, ho, _, rfl, f7, (Pt.held x s f).inner.map Pt.told, rfl, _, f9 (.held x s f), dh (.held x s f) hdm ho hb, of_lt (.held x s f), ?_⟩
  rw [f_]
  exact ⟨_, rfl, .held x s f, rfl, ho, _, rfl, aK ⟨_, rfl, _, rfl, (by decide), rfl, (by decide), false, congrArg D.bl (by decide +kernel), aK ⟨_, rfl, _, rfl, .held x s f, rfl, rfl, rfl, ho, hb, hdN, q⟩⟩⟩
end
theorem jo {x y : Str} (h : x.cps.toList = y.cps.toList) : x = y := by
 obtain ⟨⟨a⟩⟩ := x
 obtain ⟨⟨b⟩⟩ := y
 have : a = b := h
 rw [this]
theorem bN (x y : Str) : (x ++ y).cps.toList = x.cps.toList ++ y.cps.toList := by
 show (x.cps ++ y.cps).toList = _
 exact Array.toList_append
theorem om (x : Str) : x.length = x.cps.toList.length := by
 show x.cps.size = _
 exact Array.length_toList.symm
theorem fk (x y : Str) : (x ++ y).length = x.length + y.length := by rw [om, bN, List.length_append, <- om, <- om]
theorem wk {c : Nat} : ∀ {a b r s : List Nat}, c ∉ a -> c ∉ b -> a ++ c :: r = b ++ c :: s -> a = b /\ r = s
 | [], [], r, s, _, _, h => ⟨rfl, by simpa using h⟩
 | [], y :: b, r, s, _, hb, h => by
  have : c = y := by simpa using (List.cons.inj h).1
  exact (hb (by rw [this]; exact List.mem_cons_self)).elim
 | x :: a, [], r, s, ha, _, h => by
  have : x = c := by simpa using (List.cons.inj h).1
  exact (ha (by rw [this]; exact List.mem_cons_self)).elim
 | x :: a, y :: b, r, s, ha, hb, h => by
  obtain ⟨e1, e2⟩ := List.cons.inj h
  obtain ⟨e3, e4⟩ := wk (fun m => ha (List.mem_cons_of_mem _ m)) (fun m => hb (List.mem_cons_of_mem _ m)) e2
  exact ⟨by rw [e1, e3], e4⟩
def jl (c : Nat) : List (List Nat) -> List Nat
 | [] => []
 | [a] => a
 | a :: b :: r => a ++ c :: jl c (b :: r)
theorem oi (c : Nat) : ∀ ws : List Str, (Str.join ⟨#[c]⟩ ws).cps.toList = jl c (ws.map fun w => w.cps.toList)
 | [] => rfl
 | [x] => rfl
 | x :: y :: r => by
  have ih := oi c (y :: r)
  show (x ++ ⟨#[c]⟩ ++ Str.join ⟨#[c]⟩ (y :: r)).cps.toList = _
  rw [bN, bN, ih]
  simp [jl]
theorem xb (c : Nat) : ∀ ws vs : List (List Nat), ws ≠ [] -> vs ≠ [] -> (∀ w ∈ ws, c ∉ w) -> (∀ v ∈ vs, c ∉ v) -> jl c ws = jl c vs -> ws = vs
 | [], _, h, _, _, _, _ => absurd rfl h
 | _ :: _, [], _, h, _, _, _ => absurd rfl h
 | [a], [b], _, _, _, _, h => by rw [show a = b from h]
 | [a], b :: b2 :: s, _, _, fa, _, h => by
  have e : a = b ++ c :: jl c (b2 :: s) := h
  exact (fa a List.mem_cons_self (by rw [e]; simp)).elim
 | a :: a2 :: r, [b], _, _, _, fb, h => by
  have e : a ++ c :: jl c (a2 :: r) = b := h
  exact (fb b List.mem_cons_self (by rw [<- e]; simp)).elim
 | a :: a2 :: r, b :: b2 :: s, _, _, fa, fb, h => by
  obtain ⟨e1, e2⟩ := wk (fa a List.mem_cons_self) (fb b List.mem_cons_self) (show a ++ c :: jl c (a2 :: r) = b ++ c :: jl c (b2 :: s) from h)
  rw [e1, xb c (a2 :: r) (b2 :: s) (by simp) (by simp) (fun w m => fa w (List.mem_cons_of_mem _ m)) (fun w m => fb w (List.mem_cons_of_mem _ m)) e2]
theorem qz (c : Nat) (ws : List Str) (hne : ws ≠ []) (free : ∀ w ∈ ws, c ∉ w.cps.toList) : Txt.split (Str.join ⟨#[c]⟩ ws) ⟨#[c]⟩ = ws := by
 have j := StrLaws.join_split (Str.join ⟨#[c]⟩ ws) ⟨#[c]⟩
 have f := StrLaws.split_free (Str.join ⟨#[c]⟩ ws) c
 have p := split_pos (Str.join ⟨#[c]⟩ ws) ⟨#[c]⟩
 generalize Txt.split (Str.join ⟨#[c]⟩ ws) ⟨#[c]⟩ = vs at j f p ⊢
 have e : jl c (vs.map fun w => w.cps.toList) = jl c (ws.map fun w => w.cps.toList) := by rw [<- oi, <- oi, j]
 have hv : vs ≠ [] := fun z => by rw [z] at p; simp at p
 have q := xb c _ _ (by simpa using hv) (by simpa using hne) (fun w m => ?_) (fun w m => ?_) e
 ·exact (List.map_inj_right fun x y h => jo h).mp q
 ·obtain ⟨x, hx, rfl⟩ := List.mem_map.mp m; exact f x hx
 ·obtain ⟨x, hx, rfl⟩ := List.mem_map.mp m; exact free x hx
theorem vj {x : Str} {l u : Option Int} {c : Nat} (h : c ∈ (Txt.slice x l u).cps.toList) : c ∈ x.cps.toList := by
 unfold Txt.slice at h
 split at h
 ·exact h
 ·obtain ⟨i, _, hi⟩ := List.mem_filterMap.mp (show c ∈ List.filterMap (x.cps[·]?) _ from by simpa using h)
  rw [<- Array.getElem?_toList] at hi
  exact List.mem_of_getElem? hi
theorem nV {x : Str} {l u : Option Int} : (Txt.slice x l u).length <= (Builtin.Str.strSliceIndices l u 1 x.length).length := by
 unfold Txt.slice
 split
 ·rename_i h
  have h2 : (Builtin.Str.strSliceIndices l u 1 x.length).length = x.length := by simpa using h
  exact Nat.le_of_eq h2.symm
 ·show (List.filterMap _ _).toArray.size <= _
  rw [List.size_toArray]
  exact List.length_filterMap_le _ _
theorem z0 : ∀ n : Fin 7, ∀ a : Fin 7, (Builtin.Str.strSliceIndices none (some (a.val : Int)) 1 n.val).length + (Builtin.Str.strSliceIndices (some (a.val : Int)) none 1 n.val).length <= n.val := by decide +kernel
theorem vk {x : Str} {a : Int} (hx : x.length <= 6) (h0 : 0 <= a) (h1 : a < 7) : (Txt.slice x none (some a)).length + (Txt.slice x (some a) none).length <= x.length := by
 have q := z0 ⟨x.length, by omega⟩ ⟨a.toNat, by omega⟩
 rw [show ((⟨a.toNat, by omega⟩ : Fin 7).val : Int) = a from Int.toNat_of_nonneg h0] at q
 have h2 := nV (x := x) (l := none) (u := some a)
 have h3 := nV (x := x) (l := some a) (u := none)
 have q' : (Builtin.Str.strSliceIndices none (some a) 1 x.length).length + (Builtin.Str.strSliceIndices (some a) none 1 x.length).length <= x.length := q
 omega
theorem bL {α : Type} {xs : List α} {i : Int} (h0 : 0 <= i) (h1 : i < xs.length) : ∃ r, r ∈ xs /\ L2.hZ xs i = some r := by
 unfold L2.hZ L2.AE
 rw [if_pos h0, if_pos h1]
 have h : i.toNat < xs.length := by omega
 exact ⟨xs[i.toNat], List.getElem_mem h, by simp [List.getElem?_eq_getElem h]⟩
theorem oH {α : Type} {xs : List α} {i : Nat} {x : α} (h : xs[i]? = some x) : L2.hZ xs (i : Int) = some x := by
 unfold L2.hZ L2.AE
 have hl : i < xs.length := (List.getElem?_eq_some_iff.mp h).1
 rw [if_pos (by omega), if_pos (by omega), Int.toNat_natCast]
 exact h
def low (x : Str) : Prop := ∀ c ∈ x.cps.toList, 97 <= c /\ c <= 122
def l9 : List Nat := [99, 103, 106, 107, 112, 113, 118, 120, 122]
theorem AV {c : Nat} (h1 : 97 <= c) (h2 : c <= 122) : Ea ⟨#[c]⟩ = true := by
 have all : ∀ k : Fin 26, Ea ⟨#[97 + k.val]⟩ = true := by decide +kernel
 have q := all ⟨c - 97, by omega⟩
 have e : 97 + (c - 97) = c := by omega
 rw [show (97 + (⟨c - 97, by omega⟩ : Fin 26).val) = c from e] at q
 exact q
theorem AW {x : Str} (h : low x) (h0 : 0 < x.length) : mj x = true := by
 unfold mj
 rw [decide_eq_true (by omega), Bool.true_and, List.all_eq_true]
 intro s hs
 unfold signs at hs
 obtain ⟨c, hc, rfl⟩ := List.mem_map.mp hs
 exact AV (h c hc).1 (h c hc).2
theorem xo {x : Str} (h : low x) (h0 : 0 < x.length) (h8 : x.length <= 8) : dE x = true := by
 unfold dE
 rw [AW h h0, decide_eq_true (by omega)]
 rfl
theorem oq {x : Str} (h : low x) : 46 ∉ x.cps.toList := fun m => by have := h 46 m; omega
theorem oo {x y : Str} (h : low x) (g : low y) : low (x ++ y) := fun c hc => by
 rw [bN] at hc
 exact (List.mem_append.mp hc).elim (h c) (g c)
theorem uB {c : Nat} (h : 97 <= c /\ c <= 122) : low ⟨#[c]⟩ := fun d hd => by
 have : d = c := by simpa using hd
 rw [this]; exact h
theorem nK {x : Str} {l u : Option Int} (h : low x) : low (Txt.slice x l u) := fun c hc => h c (vj hc)
theorem Ak {c : Nat} (h : c ∈ l9) : 97 <= c /\ c <= 122 := by
 have all : ∀ c ∈ l9, 97 <= c /\ c <= 122 := by decide
 exact all c h
theorem AK {x : Str} {c : Nat} (hc : c ∈ x.cps.toList) (hz : c ∈ l9) : kW.contains x = false := by
 have all : ∀ y ∈ kW, ∀ c ∈ l9, c ∉ y.cps.toList := by decide +kernel
 rw [Bool.eq_false_iff]
 intro h
 exact all x (List.contains_iff_mem.mp h) c hz hc
theorem xH : dot = ⟨#[46]⟩ := by decide +kernel
theorem vP {x : Str} (hf : 46 ∉ x.cps.toList) (hw : iY x = true) : d_ x = true := by
 have e : Txt.split x dot = [x] := by
  rw [xH]
  exact qz 46 [x] (by simp) (by simpa using hf)
 unfold d_
 rw [e]
 exact hw
theorem lz {ws : List Str} (h1 : 2 <= ws.length) (h2 : ws.length <= 4) (hf : ∀ w ∈ ws, dE w = true /\ 46 ∉ w.cps.toList) : d_ (Str.join ⟨#[46]⟩ ws) = true := by
 have e : Txt.split (Str.join ⟨#[46]⟩ ws) dot = ws := by
  rw [xH]
  exact qz 46 ws (fun z => by rw [z] at h1; simp at h1) fun w m => (hf w m).2
 unfold d_
 rw [e, decide_eq_false (by omega), if_neg Bool.false_ne_true, decide_eq_true (by omega), Bool.true_and, List.all_eq_true]
 exact fun w m => (hf w m).1
theorem yx {x : Str} (h : ∀ c ∈ x.cps.toList, c < 0x110000) : PyData.strOk x = true := by
 unfold PyData.strOk
 rw [<- Array.all_toList, List.all_eq_true]
 exact fun c hc => decide_eq_true (h c hc)
theorem DB {x : Str} (h : low x) : ∀ c ∈ x.cps.toList, c < 0x110000 := fun c hc => by have := h c hc; omega
def nm (ahead b : Str) (a : Int) (c : Nat) : Str := ahead ++ Txt.slice b none (some a) ++ ⟨#[c]⟩ ++ Txt.slice b (some a) none
theorem Ai {ahead b : Str} {a : Int} {c : Nat} (ha : ahead ∈ (["", "", "row.", "a.in."] : List Str)) (hb : b.length <= 6) (lb : low b) (h0 : 0 <= a) (h1 : a < 7) (hc : c ∈ l9) :
  eB (nm ahead b a c) := by
 have hs := vk hb h0 h1
 let wd : Str := Txt.slice b none (some a) ++ ⟨#[c]⟩ ++ Txt.slice b (some a) none
 have lw : low wd := oo (oo (nK lb) (uB (Ak hc))) (nK lb)
 have cw : c ∈ wd.cps.toList := by
  show c ∈ (Txt.slice b none (some a) ++ ⟨#[c]⟩ ++ Txt.slice b (some a) none).cps.toList
  rw [bN, bN]
  simp
 have nw : wd.length = (Txt.slice b none (some a)).length + 1 + (Txt.slice b (some a) none).length := by
  show (Txt.slice b none (some a) ++ ⟨#[c]⟩ ++ Txt.slice b (some a) none).length = _
  rw [fk, fk]
  rfl
 have fw : dE wd = true := xo lw (by omega) (by omega)
 have hnm : nm ahead b a c = ahead ++ wd := jo (by
  show (ahead ++ Txt.slice b none (some a) ++ ⟨#[c]⟩ ++ Txt.slice b (some a) none).cps.toList = (ahead ++ (Txt.slice b none (some a) ++ ⟨#[c]⟩ ++ Txt.slice b (some a) none)).cps.toList
  simp only [bN, List.append_assoc])
 rw [hnm]
 clear_value wd
 have hl : (ahead ++ wd).length <= 100 := by
  have : ahead.length <= 5 := by
   have all : ∀ y ∈ (["", "", "row.", "a.in."] : List Str), y.length <= 5 := by decide +kernel
   exact all _ ha
  rw [fk]
  omega
 refine ⟨?_, hl, ?_⟩
 ·have ha' := ha
  simp only [List.mem_cons, List.not_mem_nil, or_false] at ha'
  have e0 : ("" : Str) ++ wd = wd := jo (by rw [bN]; rfl)
  have one : d_ wd = true := vP (oq lw) (by unfold iY; rw [fw, AK cw hc]; rfl)
  rcases ha' with rfl | rfl | rfl | rfl
  ·rw [e0]; exact one
  ·rw [e0]; exact one
  ·have e : ("row." : Str) ++ wd = Str.join ⟨#[46]⟩ ["row", wd] := jo (by
    show _ = (("row" : Str) ++ ⟨#[46]⟩ ++ wd).cps.toList
    rw [bN, bN, bN]
    rfl)
   rw [e]
   refine lz (by simp) (by simp) fun w m => ?_
   simp only [List.mem_cons, List.not_mem_nil, or_false] at m
   rcases m with rfl | rfl
   ·exact ⟨by decide +kernel, by decide +kernel⟩
   ·exact ⟨fw, oq lw⟩
  ·have e : ("a.in." : Str) ++ wd = Str.join ⟨#[46]⟩ ["a", "in", wd] := jo (by
    show _ = (("a" : Str) ++ ⟨#[46]⟩ ++ (("in" : Str) ++ ⟨#[46]⟩ ++ wd)).cps.toList
    rw [bN, bN, bN, bN, bN]
    rfl)
   rw [e]
   refine lz (by simp) (by simp) fun w m => ?_
   simp only [List.mem_cons, List.not_mem_nil, or_false] at m
   rcases m with rfl | rfl | rfl
   ·exact ⟨by decide +kernel, by decide +kernel⟩
   ·exact ⟨by decide +kernel, by decide +kernel⟩
   ·exact ⟨fw, oq lw⟩
 ·refine yx fun d hd => ?_
  rw [bN] at hd
  rcases List.mem_append.mp hd with h | h
  ·have all : ∀ y ∈ (["", "", "row.", "a.in."] : List Str), ∀ d ∈ y.cps.toList, d < 0x110000 := by decide +kernel
   exact all _ ha d h
  ·exact DB lw d h
def sG (c k : Int) : Int := (c + 7919 * k + 11) * 48271 % 2147483647
def mixed (c k : Int) : Int := (sG c k * sG c k + 40692 * sG c k) % 2147483399
theorem Ae (c k : Int) : 0 <= sG c k /\ sG c k < 2147483647 := ⟨Int.emod_nonneg _ (by decide), Int.emod_lt_of_pos _ (by decide)⟩
def jj : cY := fun ds Q => ∃ c k : Int, ds = [.int c, .int k] /\ Q (.int (mixed c k))
theorem FT : bS jj := fun ds P P' f ⟨c, k, e, q⟩ => ⟨c, k, e, f _ q⟩
def yo : cY := fun ds Q => ∃ (ns : List Int) (k : Nat), ds = [.lst (ns.map D.int), .int (k : Int)] /\ k <= 10 /\ ∀ c : Int, Q (.int c)
def pM : cY := fun ds Q => ∃ m : Int, ds = [.int m] /\ ∀ i : Int, -128 <= i -> i <= 127 -> Q (.int i)
def kE : cY := fun ds Q => ∃ (m : Int) (k : Str), ds = [.int m, .str k] /\ ∀ v : D, isVal v -> Q v
def uQ : cY := fun ds Q => ∃ (c : Int) (m : Nat), ds = [.int c, .int (m : Int)] /\ 1 <= m /\ m <= 9 /\ ∀ l : List Str, l.length = m -> (∀ x ∈ l, eB x) -> Q (.lst (l.map D.str))
theorem cd {i j : Int} (h : 0 < j) (h2 : j < 1073741824) : CC i j := ⟨h, h2⟩
theorem bJ (a : Int) {b : Int} (h : 0 < b) : 0 <= a % b := Int.emod_nonneg _ (by omega)
theorem bI (a : Int) {b : Int} (h : 0 < b) : a % b < b := Int.emod_lt_of_pos _ h
def IS (ahead b : Str) (a : Int) : D -> D
 | .int i => .str (nm ahead b a (((L2.hZ l9 i)).getD 0))
 | _ => .aW
section
seal wpAny
variable {P : Program} {w : World} {K : PySem.W.Frag} {mg : Str -> Option Value} {base : Heap} {A : b5} {n j : Nat}
theorem zX (d : Df K mg "_law_mixed" gC ["_law_cell", "_law_k"]) : bK P w K mg base (j + 1) "_law_mixed" ["_law_cell", "_law_k"] jj := by
 refine d.eQ iS FT (fun ds Q ⟨c, k, e, _⟩ => by rw [e]; rfl) (fun f cdv A outer s H E hr => have hu := hr.units; have hh := hr.hd; have sc := iS
  (aG (ar (i := 2) sc.nd rfl (Or.inl rfl) (av (lT (bp (bp (dv 0) (lT aB (dv 1))) aB) aB) aB))
 (aE (aM (av (bp (lT (dv 2) (dv 2)) (lT aB (dv 2))) aB))))) ?_
 rintro ds Q ⟨c, k, rfl, q⟩
 have hb := Ae c k
 refine ⟨_, rfl, _, rfl, ny.ok (.inl ⟨by decide, by decide⟩), ny.ok (.inr ⟨by decide, by decide⟩), (show (0 : Int) < 2147483647 by decide), ?_⟩
 exact ⟨_, rfl, _, rfl, ny.ok (i := sG c k) (j := sG c k) (.inl ⟨by omega, by omega⟩), _, rfl, ny.ok (.inl ⟨by decide, by decide⟩), (show (0 : Int) < 2147483399 by decide), q⟩
seal mixed
theorem CS (d : Df K mg "_law_cell_at" eG ["_law_script", "_law_k"]) (n_len : mg "len" = none) : bK P w K mg base (j + 1) "_law_cell_at" ["_law_script", "_law_k"] yo := by
 refine d.eQ gP (fun ds P P' f ⟨c, k, e, h, q⟩ => ⟨c, k, e, h, fun c => f _ (q c)⟩) (fun ds Q ⟨c, k, e, _⟩ => by rw [e]; rfl) (fun f cdv A outer s H E hr => have hu := hr.units; have hh := hr.hd; have sc := gP
  (aG (bP (y8 (dv 1) (jI (by rfl) n_len (aA (dv 0) aD))) (aE (aM (aR (dv 0) (dv 1) (fun _ _ => rfl)))) aV)
 (aE (aM (lT (lT (bp (dv 1) aB) (bp (dv 1) aB)) aB))))) ?_
 rintro ds Q ⟨ns, k, rfl, hk, q⟩
 refine ⟨_, rfl, _, rfl, _, _, rfl, rfl, _, rfl, ?_⟩
 show if decide ((k : Int) < ((ns.map D.int).length : Int)) = true then _ else _
 rw [List.length_map]
 cases h : decide ((k : Int) < (ns.length : Int)) with
 | true =>
  have hk' : k < ns.length := by have := of_decide_eq_true h; omega
  exact aO ⟨_, rfl, _, rfl, .int ns[k], oH (by rw [List.getElem?_map, List.getElem?_eq_getElem hk']; rfl), q _⟩
 | false =>
  exact aK ⟨_, rfl, _, rfl, ny.ok (i := (k : Int) + 3) (.inl ⟨by omega, by omega⟩), ny.ok (.inr ⟨by decide, by decide⟩), q _⟩
theorem wW (d : Df K mg "_law_number" fH ["_law_mix"]) : bK P w K mg base (j + 1) "_law_number" ["_law_mix"] pM := by
 refine d.eQ g7 (fun ds P P' f ⟨c, e, q⟩ => ⟨c, e, fun i h1 h2 => f _ (q i h1 h2)⟩) (fun ds Q ⟨c, e, _⟩ => by rw [e]; rfl) (fun f cdv A outer s H E hr => have hu := hr.units; have hh := hr.hd; have sc := g7
  (aE (aM (aR (bh (aA (dD (av (bG (dv 0) aB) aB) aB) (aA (dD (av (bG (dv 0) aB) aB) aB) (aA (aR (bh (cF (by rfl))) (av (bG (dv 0) aB) aB) (fun _ _ => rfl)) (aA (av (bG (dv 0) aB) aB) aD))))) (av (dv 0) aB) (fun _ _ => rfl))))) ?_
 rintro ds Q ⟨m, rfl, q⟩
 obtain ⟨r, hr, er⟩ := bL (xs := [D.int (-128), .int 127, .int 0, .int 1]) (bJ (m / 8) (show (0 : Int) < 4 by decide)) (bI (m / 8) (show (0 : Int) < 4 by decide))
 obtain ⟨s, hs, es⟩ := bL (xs := [D.int (m / 8 % 256 - 128), .int (m / 8 % 5 - 2), r, .int (m / 8 % 9)]) (bJ m (show (0 : Int) < 4 by decide)) (bI m (show (0 : Int) < 4 by decide))
 refine ⟨_, rfl, cd (by decide) (by decide), (show (0 : Int) < 256 by decide), _, rfl, cd (by decide) (by decide), (show (0 : Int) < 5 by decide), (show 4 <= sizeLine by decide), _, rfl, cd (by decide) (by decide), (show (0 : Int) < 4 by decide), r, er, _, rfl, cd (by decide) (by decide), (show (0 : Int) < 9 by decide), (show 4 <= sizeLine by decide), _, rfl, (show (0 : Int) < 4 by decide), s, es, ?_⟩
 have ha := bJ (m / 8) (show (0 : Int) < 256 by decide)
 have hb := bI (m / 8) (show (0 : Int) < 256 by decide)
 have hc := bJ (m / 8) (show (0 : Int) < 5 by decide)
 have hd := bI (m / 8) (show (0 : Int) < 5 by decide)
 have he := bJ (m / 8) (show (0 : Int) < 9 by decide)
 have hf := bI (m / 8) (show (0 : Int) < 9 by decide)
 simp only [List.mem_cons, List.not_mem_nil, or_false] at hr hs
 rcases hs with rfl | rfl | rfl | rfl
 ·exact q _ (by omega) (by omega)
 ·exact q _ (by omega) (by omega)
 ·rcases hr with rfl | rfl | rfl | rfl <;> exact q _ (by decide) (by decide)
 ·exact q _ (by omega) (by omega)
theorem zZ (d : Df K mg "_law_value" gE ["_law_mix", "_law_kind_here"]) (c__law_number : bK P w K mg base j "_law_number" ["_law_mix"] pM) : bK P w K mg base (j + 1) "_law_value" ["_law_mix", "_law_kind_here"] kE := by
 refine d.eQ iV (fun ds P P' f ⟨c, k, e, q⟩ => ⟨c, k, e, fun i h1 => f _ (q i h1)⟩) (fun ds Q ⟨c, k, e, _⟩ => by rw [e]; rfl) (fun f cdv A outer s H E hr => have hu := hr.units; have hh := hr.hd; have sc := iV
  (aG (bP (bR hu (dv 1) aZ) (aE (aM (rQ hu (av (bG (dv 0) aB) aB) aB))) aV)
 (aE (aM (aL c__law_number hr (by omega) (by rfl) (aA (bG (dv 0) aB) aD)))))) ?_
 rintro ds Q ⟨m, k, rfl, q⟩
 refine ⟨_, rfl, _, rfl, ?_⟩
 cases h : decide (k = "truth") with
 | true => exact aO ⟨_, rfl, cd (by decide) (by decide), (show (0 : Int) < 2 by decide), q _ (.inl ⟨_, rfl⟩)⟩
 | false => exact aK ⟨_, rfl, cd (by decide) (by decide), _, rfl, fun i h1 h2 => q _ (.inr ⟨i, rfl, h1, h2⟩)⟩
theorem zY (d : Df K mg "_law_names" gD ["_law_cell", "_law_many"]) (n_range : mg "range" = none) (c__law_mixed : bK P w K mg base j "_law_mixed" ["_law_cell", "_law_k"] jj) : bK P w K mg base (j + 1) "_law_names" ["_law_cell", "_law_many"] uQ := by
 refine d.eQ iT (fun ds P P' f ⟨c, k, e, h1, h2, q⟩ => ⟨c, k, e, h1, h2, fun l h3 h4 => f _ (q l h3 h4)⟩) (fun ds Q ⟨c, k, e, _⟩ => by rw [e]; rfl) (fun f cdv A outer s H E hr => have hu := hr.units; have hh := hr.hd; have sc := iT
  (aG (ar (i := 2) sc.nd rfl (Or.inl rfl) aZ)
 (aG (ar (i := 3) sc.nd rfl (Or.inr rfl) aZ)
 (aG (B4 PassesOwn.never rfl (fU (by rfl) n_range (aA (av (dv 0) aB) aD)) (lg (i := 4) sc.nd rfl (Or.inl rfl)) (aE (ar (i := 3) sc.nd rfl (Or.inr rfl) (bp (dv 3) (aR (dv 2) (av (bG (aL c__law_mixed hr (by omega) (by rfl) (aA (dv 0) (aA (bp aB (dv 4)) aD))) aB) aB) (fun _ _ => rfl))))))
 (aG (ar (i := 5) sc.nd rfl (Or.inr rfl) (av (bG (aL c__law_mixed hr (by omega) (by rfl) (aA (dv 0) (aA aB aD))) aB) aB))
 (aG (ar (i := 6) sc.nd rfl (Or.inr rfl) (aR (bh (cF (by rfl))) (av (bG (aL c__law_mixed hr (by omega) (by rfl) (aA (dv 0) (aA aB aD))) aB) aB) (fun _ _ => rfl)))
 (aE (aM (nA (x := "_law_k") (caps := [3, 6, 5]) (cn := ["_law_base", "_law_ahead", "_law_at"]) (cl := [("_law_base", s.heap.objs.size + 1), ("_law_at", s.heap.objs.size + 2), ("_law_ahead", s.heap.objs.size + 3)]) (pf (by rfl) (by rfl) (by decide +kernel) (jP ["_law_base", "_law_at", "_law_ahead"] rfl (by decide +kernel)) (by decide +kernel) (bQ (by rfl) (bQ (by rfl) (bQ (by rfl) fR))) (.cons ⟨rfl, .inl rfl, rfl⟩ (.cons ⟨rfl, .inl rfl, rfl⟩ (.cons ⟨rfl, .inl rfl, rfl⟩ .nil)))) rfl (fU (by rfl) n_range (aA (dv 1) aD)) (fun C fp s₂ H₂ => bw (i := 0) (show (["_law_k", "_law_base", "_law_ahead", "_law_at"] : List Str).Nodup by decide +kernel) rfl (Or.inl rfl) (.inr rfl)) (fun C fp s₂ H₂ => fM) (fun C fp s₂ H₂ => (bp (bp (bp (dv 2) (iA (dv 1) l0 (iq (dv 3)))) (aR aZ (dv 0) (fun _ _ => rfl))) (iA (dv 1) (iq (dv 3)) l0)))))))))))) ?_
 rintro ds Q ⟨c, m, rfl, hm1, hm9, q⟩
 have h7 := bJ c (show (0 : Int) < 7 by decide)
 have h8 := bI c (show (0 : Int) < 7 by decide)
 refine ⟨_, rfl, (show (0 : Int) < 7 by decide), _, rfl, (by show -(2 ^ 62 : Int) <= c % 7; omega), (by show c % 7 < (2 ^ 62 : Int); omega), fun i δ => ∃ (b : Str) (k : Option D), δ = [some (.int c), some (.int (m : Int)), some (.str fv), some (.str b), k, none, none] /\ b.length <= i /\ low b /\ i <= 6, ?_, ?_, ?_⟩
 ·exact ⟨"", none, rfl, (by decide +kernel), (fun c hc => by cases hc), (by decide)⟩
 ·rintro i dd δ hd ⟨b, k, rfl, hb, lb, hi⟩
  have hlt : i < (c % 7).toNat := by
   have := (List.getElem?_eq_some_iff.mp hd).1
   simpa using this
  have hdd : D.int (0 + (i : Int)) = dd := by
   rw [List.getElem?_map, List.getElem?_range hlt] at hd
   simpa using hd
  subst hdd
  have e26 : fv.cps.toList.length = 26 := by decide +kernel
  have h26 := bI (mixed c (20 + (0 + (i : Int))) / 31) (show (0 : Int) < 26 by decide)
  obtain ⟨x, hx, ex⟩ := bL (xs := fv.cps.toList) (bJ (mixed c (20 + (0 + (i : Int))) / 31) (show (0 : Int) < 26 by decide)) (by rw [e26]; exact h26)
  have lx : 97 <= x /\ x <= 122 := by
   have all : ∀ x ∈ fv.cps.toList, 97 <= x /\ x <= 122 := by decide +kernel
   exact all x hx
  refine ⟨_, rfl, _, rfl, _, rfl, _, rfl, _, _, rfl, cd (by decide) (by decide), (show (0 : Int) < 26 by decide), (by decide +kernel), x, ex, ?_, ?_⟩
  ·show b.length + 1 <= sizeLine
   exact Nat.le_trans (show b.length + 1 <= 7 by omega) (by decide)
  ·refine ⟨b ++ ⟨#[x]⟩, _, rfl, ?_, oo lb (uB lx), by omega⟩
   rw [fk]
   exact Nat.add_le_add_right hb 1
 ·rintro δ ⟨b, k, rfl, hb, lb, hi⟩
  have hb6 : b.length <= 6 := Nat.le_trans hb hi
  refine ⟨_, rfl, _, _, rfl, cd (by decide) (by decide), (show (0 : Int) < 7 by decide), ?_⟩
  have a0 := bJ (mixed c 30 / 7) (show (0 : Int) < 7 by decide)
  have a1 := bI (mixed c 30 / 7) (show (0 : Int) < 7 by decide)
  obtain ⟨y, hy, ey⟩ := bL (xs := [D.str "", .str "", .str "row.", .str "a.in."]) (bJ (mixed c 31 / 7) (show (0 : Int) < 4 by decide)) (bI (mixed c 31 / 7) (show (0 : Int) < 4 by decide))
  have hz : ∃ z, y = .str z /\ z ∈ (["", "", "row.", "a.in."] : List Str) := by
   simp only [List.mem_cons, List.not_mem_nil, or_false] at hy
   rcases hy with rfl | rfl | rfl | rfl
   ·exact ⟨_, rfl, by simp⟩
   ·exact ⟨_, rfl, by simp⟩
   ·exact ⟨_, rfl, by simp⟩
   ·exact ⟨_, rfl, by simp⟩
  obtain ⟨z, rfl, hz⟩ := hz
  refine ⟨(show 4 <= sizeLine by decide), _, rfl, _, _, rfl, cd (by decide) (by decide), (show (0 : Int) < 4 by decide), _, ey, ?_⟩
  have ao : ∀ i : Nat, i < m -> ∃ x, L2.hZ l9 (0 + (i : Int)) = some x /\ x ∈ l9 := fun i hi => by
   obtain ⟨x, h1, h2⟩ := bL (xs := l9) (i := 0 + (i : Int)) (by omega) (by show 0 + (i : Int) < 9; omega)
   exact ⟨x, h2, h1⟩
  refine ⟨_, rfl, _, rfl, (by show -(2 ^ 62 : Int) <= (m : Int); omega), (by show (m : Int) < (2 ^ 62 : Int); omega), mO (IS z b (mixed c 30 / 7 % 7)) ((List.range (m : Int).toNat).map fun i : Nat => .int (0 + (i : Int))), rn, fun i0 d o g1 g2 => ?_, ?_, ?_⟩
  ·obtain ⟨hd, rfl⟩ := xp g1 g2
   obtain ⟨i, hi, rfl⟩ := List.mem_map.mp hd
   have hi' : i < m := by simpa using hi
   obtain ⟨x, e1, h1⟩ := ao i hi'
   have hs : ∀ l u : Option Int, (Txt.slice b l u).length <= 6 := fun l u => Nat.le_trans (Txt.slice_le b l u) hb6
   have hz5 : z.length <= 5 := by
    have all : ∀ y ∈ (["", "", "row.", "a.in."] : List Str), y.length <= 5 := by decide +kernel
    exact all _ hz
   have hsb : b.length <= sizeLine := Nat.le_trans hb6 (by decide)
   have l1 : z.length + (Txt.slice b none (some (mixed c 30 / 7 % 7))).length <= sizeLine := Nat.le_trans (Nat.add_le_add hz5 (hs _ _)) (by decide)
   have l2 : (z ++ Txt.slice b none (some (mixed c 30 / 7 % 7))).length + 1 <= sizeLine := by
    rw [fk]
    exact Nat.le_trans (Nat.add_le_add_right (Nat.add_le_add hz5 (hs _ _)) 1) (by decide)
   have l3 : (z ++ Txt.slice b none (some (mixed c 30 / 7 % 7)) ++ (⟨#[x]⟩ : Str)).length + (Txt.slice b (some (mixed c 30 / 7 % 7)) none).length <= sizeLine := by
    rw [fk, fk]
    exact Nat.le_trans (Nat.add_le_add (Nat.add_le_add_right (Nat.add_le_add hz5 (hs _ _)) 1) (hs _ _)) (by decide)
   refine ⟨rfl, fun _ => ⟨_, rfl, _, rfl, _, rfl, _, rfl, hsb, l1, _, rfl, (by decide +kernel), x, e1, l2, _, rfl, _, rfl, _, rfl, hsb, l3, ?_⟩⟩
   show some (D.str (nm z b (mixed c 30 / 7 % 7) ((L2.hZ l9 (0 + (i : Int))).getD 0))) = some (D.str (nm z b (mixed c 30 / 7 % 7) x))
   rw [e1]
   rfl
  ·rw [List.length_map, List.length_range]
   exact Nat.lt_of_le_of_lt (show (m : Int).toNat <= 9 by omega) (by decide)
  ·rw [ot]
   have e : (((List.range (m : Int).toNat).map fun i : Nat => D.int (0 + (i : Int))).map (IS z b (mixed c 30 / 7 % 7))) = ((List.range m).map fun i : Nat => nm z b (mixed c 30 / 7 % 7) ((L2.hZ l9 (0 + (i : Int))).getD 0)).map D.str := by
    rw [Int.toNat_natCast, List.map_map, List.map_map]
    rfl
   rw [e]
   refine q _ (by simp) fun x hx => ?_
   obtain ⟨i, hi, rfl⟩ := List.mem_map.mp hx
   obtain ⟨y, e1, h1⟩ := ao i (by simpa using hi)
   rw [e1]
   exact Ai hz hb6 lb a0 a1 h1
end
def nY : Nat -> Nat
 | 0 => 1
 | d + 1 => 3 * nY d + 1
theorem dB : ∀ k, 1 <= nY k
 | 0 => Nat.le_refl _
 | k + 1 => by unfold nY; omega
def Pt.nk (g : Str -> Prop) : Pt -> Prop
 | .given _ => True
 | .named n => g n
 | .turned p => p.nk g
 | .pair _ a b => a.nk g /\ b.nk g
 | .choice t a b => t.nk g /\ a.nk g /\ b.nk g
 | .before p _ => p.nk g
 | .led h r => h.nk g /\ r.nk g
 | .bo p n => p.nk g /\ g n
 | .held p n _ => p.nk g /\ g n
theorem Pt.Bt {g : Str -> Prop} {p q : Pt} (h : q ∈ p.inner) (o : p.nk g) : q.nk g := by
 cases p <;> simp only [Pt.inner, Pt.nk, List.mem_cons, List.not_mem_nil, or_false] at h o
 case turned => subst h; exact o
 case pair => rcases h with rfl | rfl <;> simp only [o]
 case choice => rcases h with rfl | rfl | rfl <;> simp only [o]
 case before => subst h; exact o
 case led => rcases h with rfl | rfl <;> simp only [o]
 case bo => subst h; exact o.1
 case held => subst h; exact o.1
structure GP (l : List Str) (k : Nat) (p : Pt) : Prop where
 ok : p.ok
 nk : p.nk (· ∈ l)
 dp : p.depth <= k + 1
 sz : p.size <= nY k
section
variable {l : List Str} {k m : Nat} {p a b c : Pt} {x g : Str} {f v : D}
theorem GP.named (h : x ∈ l) (o : eB x) : GP l k (.named x) := ⟨o, h, by show 1 <= k + 1; omega, dB k⟩
theorem GP.given (h : isVal v) : GP l k (.given v) := ⟨h, True.intro, by show 1 <= k + 1; omega, dB k⟩
theorem GP.turned (h : GP l m p) : GP l (m + 1) (.turned p) := ⟨h.ok, h.nk, by have := h.dp; simp only [Pt.depth]; omega, by have := h.sz; have := dB m; have e : nY (m + 1) = 3 * nY m + 1 := rfl; simp only [Pt.size]; omega⟩
theorem GP.before (h : GP l m p) (hf : cH f) : GP l (m + 1) (.before p f) := ⟨⟨h.ok, hf⟩, h.nk, by have := h.dp; simp only [Pt.depth]; omega, by have := h.sz; have := dB m; have e : nY (m + 1) = 3 * nY m + 1 := rfl; simp only [Pt.size]; omega⟩
theorem GP.bo (h : GP l m p) (hx : x ∈ l) (o : eB x) : GP l (m + 1) (.bo p x) := ⟨⟨h.ok, o⟩, ⟨h.nk, hx⟩, by have := h.dp; simp only [Pt.depth]; omega, by have := h.sz; have := dB m; have e : nY (m + 1) = 3 * nY m + 1 := rfl; simp only [Pt.size]; omega⟩
theorem GP.held (h : GP l m p) (hx : x ∈ l) (o : eB x) (hf : cH f) : GP l (m + 1) (.held p x f) := ⟨⟨h.ok, o, hf⟩, ⟨h.nk, hx⟩, by have := h.dp; simp only [Pt.depth]; omega, by have := h.sz; have := dB m; have e : nY (m + 1) = 3 * nY m + 1 := rfl; simp only [Pt.size]; omega⟩
theorem GP.choice (ha : GP l m a) (hb : GP l m b) (hc : GP l m c) : GP l (m + 1) (.choice a b c) := ⟨⟨ha.ok, hb.ok, hc.ok⟩, ⟨ha.nk, hb.nk, hc.nk⟩, by have := ha.dp; have := hb.dp; have := hc.dp; simp only [Pt.depth]; omega, by have := ha.sz; have := hb.sz; have := hc.sz; have e : nY (m + 1) = 3 * nY m + 1 := rfl; simp only [Pt.size]; omega⟩
theorem GP.led (ha : GP l m a) (hb : GP l m b) : GP l (m + 1) (.led a b) := ⟨⟨ha.ok, hb.ok⟩, ⟨ha.nk, hb.nk⟩, by have := ha.dp; have := hb.dp; simp only [Pt.depth]; omega, by have := ha.sz; have := hb.sz; have := dB m; have e : nY (m + 1) = 3 * nY m + 1 := rfl; simp only [Pt.size]; omega⟩
theorem GP.pair (hg : g ∈ cD) (ha : GP l m a) (hb : GP l m b) : GP l (m + 1) (.pair g a b) := ⟨⟨hg, ha.ok, hb.ok⟩, ⟨ha.nk, hb.nk⟩, by have := ha.dp; have := hb.dp; simp only [Pt.depth]; omega, by have := ha.sz; have := hb.sz; have := dB m; have e : nY (m + 1) = 3 * nY m + 1 := rfl; simp only [Pt.size]; omega⟩
end
def mI (n : Nat) : cY := fun ds Q => ∃ (c : Int) (l : List Str) (k : Nat), ds = [.int c, .lst (l.map D.str), .int (k : Int)] /\ k < n /\ l ≠ [] /\ (∀ x ∈ l, eB x) /\ ∀ p : Pt, GP l k p -> Q p.told
theorem DH {n : Nat} : bS (mI n) := fun ds P P' f ⟨c, l, k, e, h1, h2, h3, q⟩ => ⟨c, l, k, e, h1, h2, h3, fun p o => f _ (q p o)⟩
theorem pC {b1 b2 : Bool} {L R : Prop} {U : (Bool -> Prop) -> Prop} (hU : ∀ Q : Bool -> Prop, Q b2 -> U Q) (hl : L) (hr : b1 = false -> R) : if b1 = true then (if true = true then L else R) else U (fun b => if b = true then L else R) := by
 cases b1 with
 | true => exact aO (aO hl)
 | false =>
  refine aK (hU _ ?_)
  cases b2 with
  | true => exact aO hl
  | false => exact aK (hr rfl)
theorem wU {b1 b2 : Bool} {L R : Prop} {U : (Bool -> Prop) -> Prop} (hU : ∀ Q : Bool -> Prop, Q b2 -> U Q) (hl : b1 = true -> b2 = true -> L) (hr : R) : if b1 = true then U (fun b => if b = true then L else R) else (if false = true then L else R) := by
 cases b1 with
 | true =>
  refine aO (hU _ ?_)
  cases b2 with
  | true => exact aO (hl rfl rfl)
  | false => exact aK hr
 | false => exact aK (aK hr)
theorem vT {b1 b2 b3 : Bool} {L R : Prop} {U V : (Bool -> Prop) -> Prop} (hU : ∀ Q : Bool -> Prop, Q b2 -> U Q) (hV : ∀ Q : Bool -> Prop, Q b3 -> V Q) (hl : b3 = true -> L) (hr : R) :
  if b1 = true then (if true = true then V (fun b => if b = true then L else R) else (if false = true then L else R)) else U (fun b => if b = true then V (fun b => if b = true then L else R) else (if false = true then L else R)) := by
 have fin : V (fun b => if b = true then L else R) := by
  refine hV _ ?_
  cases b3 with
  | true => exact aO (hl rfl)
  | false => exact aK hr
 cases b1 with
 | true => exact aO (aO fin)
 | false =>
  refine aK (hU _ ?_)
  cases b2 with
  | true => exact aO fin
  | false => exact aK (aK hr)
theorem pick {l : List Str} (hl : l ≠ []) (ho : ∀ x ∈ l, eB x) (i : Int) : (0 : Int) < ((l.map D.str).length : Int) /\ ∃ x, x ∈ l /\ eB x /\ L2.hZ (l.map D.str) (i % ((l.map D.str).length : Int)) = some (.str x) := by
 have hp : (0 : Int) < ((l.map D.str).length : Int) := by
  rw [List.length_map]
  have : l.length ≠ 0 := fun z => hl (List.eq_nil_of_length_eq_zero z)
  omega
 refine ⟨hp, ?_⟩
 obtain ⟨r, hr, er⟩ := bL (xs := l.map D.str) (bJ i hp) (bI i hp)
 obtain ⟨x, hx, rfl⟩ := List.mem_map.mp hr
 exact ⟨x, hx, ho x hx, er⟩
theorem uM {l : List Str} (hl : l.length = 8) (ho : ∀ x ∈ l, eB x) {i : Int} (h0 : 0 <= i) (h1 : i < 8) : ∃ x, x ∈ l /\ eB x /\ L2.hZ (l.map D.str) i = some (.str x) := by
 obtain ⟨r, hr, er⟩ := bL (xs := l.map D.str) h0 (by rw [List.length_map, hl]; exact h1)
 obtain ⟨x, hx, rfl⟩ := List.mem_map.mp hr
 exact ⟨x, hx, ho x hx, er⟩
section
seal wpAny
variable {P : Program} {w : World} {K : PySem.W.Frag} {mg : Str -> Option Value} {base : Heap} {A : b5} {n j : Nat}
theorem Df.never {x : Str} {st : Stmt} {ps : List Str} {sd : cY} (d : Df K mg x st ps) (h : ∀ ds Q, ¬ sd ds Q) : bK P w K mg base j x ps sd := by
 obtain ⟨f, fd, F, m, b⟩ := d.ex
 exact ⟨⟨f, fd, ⟨fun vs H Q E ⟨ds, _, q⟩ => (h _ _ q).elim, fun A outer s H args us vs Q E _ _ _ _ ⟨ds, _, q⟩ => (h _ _ q).elim⟩, m, F.kp, b⟩, fun ds P P' g q => (h _ _ q).elim⟩
theorem vt (d : Df K mg "_law_tree" ee ["_law_cell", "_law_names_here", "_law_deep"]) (n_len : mg "len" = none) (c__law_mixed : bK P w K mg base j "_law_mixed" ["_law_cell", "_law_k"] jj)
  (c__law_number : bK P w K mg base j "_law_number" ["_law_mix"] pM) (c__law_value : bK P w K mg base j "_law_value" ["_law_mix", "_law_kind_here"] kE) (c__law_tree : bK P w K mg base j "_law_tree" ["_law_cell", "_law_names_here", "_law_deep"] (mI n)) :
  bK P w K mg base (j + 1) "_law_tree" ["_law_cell", "_law_names_here", "_law_deep"] (mI (n + 1)) := by
 refine d.eQ jd DH (fun ds Q ⟨c, l, k, e, _⟩ => by rw [e]; rfl) (fun f cdv A outer s H E hr => have hu := hr.units; have hh := hr.hd; have sc := jd
  (aG (ar (i := 3) sc.nd rfl (Or.inl rfl) (av (bG (aL c__law_mixed hr (by omega) (by rfl) (aA (dv 0) (aA aB aD))) aB) aB))
 (aG (bP (kN.td (w_or (bR hu (dv 2) aB) (js (y8 (dv 3) aB)))) (aG (bP (y7 (av (bG (aL c__law_mixed hr (by omega) (by rfl) (aA (dv 0) (aA aB aD))) aB) aB) aB) (aE (aM (ag (aA aZ (aA (aR (dv 1) (av (bG (aL c__law_mixed hr (by omega) (by rfl) (aA (dv 0) (aA aB aD))) aB) (jI (by rfl) n_len (aA (dv 1) aD))) (fun _ _ => rfl)) aD))))) aV)
 (aE (aM (ag (aA aZ (aA (aL c__law_value hr (by omega) (by rfl) (aA (bG (aL c__law_mixed hr (by omega) (by rfl) (aA (dv 0) (aA aB aD))) aB) (aA (aR (bh (cF (by rfl))) (av (bG (aL c__law_mixed hr (by omega) (by rfl) (aA (dv 0) (aA aB aD))) aB) aB) (fun _ _ => rfl)) aD))) aD)))))) aV)
 (aG (ar (i := 4) sc.nd rfl (Or.inl rfl) (aL c__law_tree hr (by omega) (by rfl) (aA (aL c__law_mixed hr (by omega) (by rfl) (aA (dv 0) (aA aB aD))) (aA (dv 1) (aA (dD (dv 2) aB) aD)))))
 (aG (ar (i := 5) sc.nd rfl (Or.inl rfl) (aR (dv 1) (av (bG (aL c__law_mixed hr (by omega) (by rfl) (aA (dv 0) (aA aB aD))) aB) (jI (by rfl) n_len (aA (dv 1) aD))) (fun _ _ => rfl)))
 (aG (ar (i := 6) sc.nd rfl (Or.inl rfl) (aR (bh (aA bC (aA bC (aA (aL c__law_number hr (by omega) (by rfl) (aA (aL c__law_mixed hr (by omega) (by rfl) (aA (dv 0) (aA aB aD))) aD)) (aA (rQ hu (av (aL c__law_mixed hr (by omega) (by rfl) (aA (dv 0) (aA aB aD))) aB) aB) aD))))) (av (bG (aL c__law_mixed hr (by omega) (by rfl) (aA (dv 0) (aA aB aD))) aB) aB) (fun _ _ => rfl)))
 (aG (bP (y8 (dv 3) aB) (aE (aM (aR (bh (aA (ag (aA aZ (aA (dv 4) aD))) (aA (ag (aA aZ (aA (dv 4) (aA (dv 6) aD)))) (aA (ag (aA aZ (aA (dv 4) (aA (dv 5) aD)))) (aA (ag (aA aZ (aA (dv 4) (aA (dv 5) (aA (dv 6) aD))))) aD))))) (av (dv 3) aB) (fun _ _ => rfl)))) aV)
 (aG (ar (i := 7) sc.nd rfl (Or.inl rfl) (aL c__law_tree hr (by omega) (by rfl) (aA (aL c__law_mixed hr (by omega) (by rfl) (aA (dv 0) (aA aB aD))) (aA (dv 1) (aA (dD (dv 2) aB) aD)))))
 (aG (bP (bR hu (dv 3) aB) (aE (aM (ag (aA aZ (aA (dv 4) (aA (dv 7) (aA (aL c__law_tree hr (by omega) (by rfl) (aA (aL c__law_mixed hr (by omega) (by rfl) (aA (dv 0) (aA aB aD))) (aA (dv 1) (aA (dD (dv 2) aB) aD)))) aD))))))) aV)
 (aG (bP (bR hu (dv 3) aB) (aE (aM (ag (aA aZ (aA (dv 4) (aA (dv 7) aD)))))) aV)
 (aE (aM (ag (aA (aR (bh (cF (by rfl))) (av (bG (aL c__law_mixed hr (by omega) (by rfl) (aA (dv 0) (aA aB aD))) aB) aB) (fun _ _ => rfl)) (aA (dv 4) (aA (dv 7) aD)))))))))))))))) ?_
 rintro ds Q ⟨c, l, k, rfl, hk, hl, ho, q⟩
 refine ⟨_, rfl, _, _, rfl, cd (by decide) (by decide), (show (0 : Int) < 15 by decide), ?_⟩
 have w0 := bJ (mixed c 1 / 7) (show (0 : Int) < 15 by decide)
 have w1 := bI (mixed c 1 / 7) (show (0 : Int) < 15 by decide)
 obtain ⟨hp, x, hin, hx, ex⟩ := pick hl ho (mixed c 3 / 7)
 refine ⟨_, rfl, _, rfl, pC (b2 := decide ((mixed c 1 / 7 % 15) < 2)) (fun Q q => ⟨_, rfl, _, rfl, q⟩) ?_ (fun hz => ?_)⟩
 ·refine ⟨_, rfl, _, _, rfl, cd (by decide) (by decide), (show (0 : Int) < 3 by decide), _, rfl, ?_⟩
  have hpos := dB k
  cases h : decide ((0 : Int) < mixed c 2 / 7 % 3) with
  | true => exact aO ⟨_, rfl, _, rfl, _, _, rfl, cd (by decide) (by decide), _, rfl, _, _, rfl, rfl, hp, .str x, ex, (show 2 <= sizeLine by decide), q (.named x) (.named hin hx)⟩
  | false =>
   obtain ⟨r, hr, er⟩ := bL (xs := [D.str "truth", .str "number"]) (bJ (mixed c 5 / 7) (show (0 : Int) < 2 by decide)) (bI (mixed c 5 / 7) (show (0 : Int) < 2 by decide))
   have hr' : ∃ z, r = .str z := by
    simp only [List.mem_cons, List.not_mem_nil, or_false] at hr
    rcases hr with rfl | rfl <;> exact ⟨_, rfl⟩
   obtain ⟨z, rfl⟩ := hr'
   exact aK ⟨_, rfl, _, _, rfl, cd (by decide) (by decide), (show 2 <= sizeLine by decide), _, rfl, _, _, rfl, cd (by decide) (by decide), (show (0 : Int) < 2 by decide), _, er, _, z, rfl, fun v hv => ⟨(show 2 <= sizeLine by decide), q (.given v) (.given hv)⟩⟩
 ·have hk0 : k ≠ 0 := fun z => by subst z; cases hz
  obtain ⟨m, rfl⟩ : ∃ m, k = m + 1 := ⟨k - 1, by omega⟩
  have hm : ((m + 1 : Nat) : Int) - 1 = (m : Int) := by omega
  have hn : m < n := by omega
  have es : nY (m + 1) = 3 * nY m + 1 := rfl
  have hsp := dB m
  refine ⟨_, rfl, _, _, rfl, _, rfl, _, rfl, mixed c 11, l, m, congrArg (fun z => [D.int (mixed c 11), D.lst (l.map D.str), D.int z]) hm, hn, hl, ho, fun p1 o1 => ?_⟩
  refine ⟨_, rfl, _, rfl, _, _, rfl, cd (by decide) (by decide), _, rfl, _, _, rfl, rfl, hp, .str x, ex, ?_⟩
  refine ⟨_, rfl, _, _, rfl, _, rfl, fun i i1 i2 => ?_⟩
  obtain ⟨f, hf, ef⟩ := bL (xs := [D.aW, .aW, .int i, .bl (decide (mixed c 4 % 2 = 0))]) (bJ (mixed c 6 / 7) (show (0 : Int) < 4 by decide)) (bI (mixed c 6 / 7) (show (0 : Int) < 4 by decide))
  have hf' : cH f := by
   simp only [List.mem_cons, List.not_mem_nil, or_false] at hf
   rcases hf with rfl | rfl | rfl | rfl
   ·exact .inl rfl
   ·exact .inl rfl
   ·exact .inr (.inr ⟨i, rfl, i1, i2⟩)
   ·exact .inr (.inl ⟨_, rfl⟩)
  refine ⟨_, rfl, _, _, rfl, (show (0 : Int) < 2 by decide), (show 4 <= sizeLine by decide), _, rfl, _, _, rfl, cd (by decide) (by decide), (show (0 : Int) < 4 by decide), f, ef, ?_⟩
  refine ⟨_, rfl, _, rfl, ?_⟩
  cases h8 : decide ((mixed c 1 / 7 % 15) < 8) with
  | true =>
   obtain ⟨r, hr, er⟩ := bL (xs := [(Pt.turned p1).told, (Pt.before p1 f).told, (Pt.bo p1 x).told, (Pt.held p1 x f).told]) (bJ (mixed c 1 / 7 % 15) (show (0 : Int) < 4 by decide)) (bI (mixed c 1 / 7 % 15) (show (0 : Int) < 4 by decide))
   refine aO ⟨_, rfl, (show 2 <= sizeLine by decide), _, rfl, _, rfl, (show 3 <= sizeLine by decide), _, rfl, _, rfl, (show 3 <= sizeLine by decide), _, rfl, _, rfl, _, rfl, (show 4 <= sizeLine by decide), (show 4 <= sizeLine by decide), _, rfl, (show (0 : Int) < 4 by decide), r, er, ?_⟩
   simp only [List.mem_cons, List.not_mem_nil, or_false] at hr
   rcases hr with rfl | rfl | rfl | rfl
   ·exact q (.turned p1) o1.turned
   ·exact q (.before p1 f) (o1.before hf')
   ·exact q (.bo p1 x) (o1.bo hin hx)
   ·exact q (.held p1 x f) (o1.held hin hx hf')
  | false =>
   refine aK ⟨_, rfl, _, _, rfl, _, rfl, _, rfl, mixed c 12, l, m, congrArg (fun z => [D.int (mixed c 12), D.lst (l.map D.str), D.int z]) hm, hn, hl, ho, fun p2 o2 => ?_⟩
   refine ⟨_, rfl, _, rfl, ?_⟩
   cases h9 : decide ((mixed c 1 / 7 % 15) = 8) with
   | true =>
    exact aO ⟨_, rfl, _, rfl, _, rfl, _, _, rfl, _, rfl, _, rfl, mixed c 13, l, m, congrArg (fun z => [D.int (mixed c 13), D.lst (l.map D.str), D.int z]) hm, hn, hl, ho, fun p3 o3 => ⟨(show 4 <= sizeLine by decide), q (.choice p1 p2 p3) (o1.choice o2 o3)⟩⟩
   | false =>
    refine aK ⟨_, rfl, _, rfl, ?_⟩
    cases h10 : decide ((mixed c 1 / 7 % 15) = 9) with
    | true => exact aO ⟨_, rfl, _, rfl, (show 3 <= sizeLine by decide), q (.led p1 p2) (o1.led o2)⟩
    | false =>
     obtain ⟨r, hr, er⟩ := bL (xs := [D.str "+", .str "-", .str "*", .str "=", .str "<", .str "<=", .str "and", .str "or"]) (bJ (mixed c 7 / 7) (show (0 : Int) < 8 by decide)) (bI (mixed c 7 / 7) (show (0 : Int) < 8 by decide))
     have hr' : ∃ g, r = .str g /\ g ∈ cD := by
      have : r ∈ cD.map D.str := hr
      obtain ⟨g, hg, rfl⟩ := List.mem_map.mp this
      exact ⟨g, rfl, hg⟩
     obtain ⟨g, rfl, hg⟩ := hr'
     exact aK ⟨(show 8 <= sizeLine by decide), _, rfl, _, _, rfl, cd (by decide) (by decide), (show (0 : Int) < 8 by decide), _, er, _, rfl, _, rfl, (show 3 <= sizeLine by decide), q (.pair g p1 p2) (.pair hg o1 o2)⟩
theorem rA (d : Df K mg "_law_tree" ee ["_law_cell", "_law_names_here", "_law_deep"]) (n_len : mg "len" = none) (c1 : bK P w K mg base 1 "_law_mixed" ["_law_cell", "_law_k"] jj)
  (c2 : bK P w K mg base 1 "_law_number" ["_law_mix"] pM) (c3 : bK P w K mg base 2 "_law_value" ["_law_mix", "_law_kind_here"] kE) : ∀ n, bK P w K mg base (n + 2) "_law_tree" ["_law_cell", "_law_names_here", "_law_deep"] (mI n)
 | 0 => Df.never d fun ds Q ⟨_, _, _, _, h, _⟩ => absurd h (by omega)
 | n + 1 => vt d n_len (c1.up (by omega)) (c2.up (by omega)) (c3.up (by omega)) (rA d n_len c1 c2 c3 n)
end
def iJ (b : Bool) : Str := if b then "truth" else "number"
def kD (b : Bool) : D := .str (iJ b)
def pL : cY := fun ds Q => ∃ (c : Int) (l : List Str) (kd : Bool) (b : Nat), ds = [.int c, .lst (l.map D.str), kD kd, .int (b : Int)] /\ b <= 2 /\ l.length = 8 /\ (∀ x ∈ l, eB x) /\ ∀ p : Pt, (∀ k, GP l k p) -> Q p.told
def jk (n : Nat) : cY := fun ds Q => ∃ (c : Int) (l : List Str) (kd : Bool) (b k : Nat), ds = [.int c, .lst (l.map D.str), kD kd, .int (b : Int), .int (k : Int)] /\ k < n /\ b <= 2 /\ l.length = 8 /\ (∀ x ∈ l, eB x) /\ ∀ p : Pt, GP l k p -> Q p.told
theorem DG : bS pL := fun ds P P' f ⟨c, l, kd, b, e, h1, h2, h3, q⟩ => ⟨c, l, kd, b, e, h1, h2, h3, fun p o => f _ (q p o)⟩
theorem AY {n : Nat} : bS (jk n) := fun ds P P' f ⟨c, l, kd, b, k, e, h1, h2, h3, h4, q⟩ => ⟨c, l, kd, b, k, e, h1, h2, h3, h4, fun p o => f _ (q p o)⟩
theorem qh {g : Str} (h : g ∈ cD) : decide (g = "not") = false := by
 simp only [cD, List.mem_cons, List.not_mem_nil, or_false] at h
 rcases h with rfl | rfl | rfl | rfl | rfl | rfl | rfl | rfl <;> decide +kernel
section
seal wpAny
variable {P : Program} {w : World} {K : PySem.W.Frag} {mg : Str -> Option Value} {base : Heap} {A : b5} {n j : Nat}
theorem CT (d : Df K mg "_law_leaf" gw ["_law_cell", "_law_names_here", "_law_kind_here", "_law_beat"]) (n_int : mg "int" = none) (c__law_mixed : bK P w K mg base j "_law_mixed" ["_law_cell", "_law_k"] jj) (c__law_value : bK P w K mg base j "_law_value" ["_law_mix", "_law_kind_here"] kE) :
  bK P w K mg base (j + 1) "_law_leaf" ["_law_cell", "_law_names_here", "_law_kind_here", "_law_beat"] pL := by
 refine d.eQ jb DG (fun ds Q ⟨c, l, kd, b, e, _⟩ => by rw [e]; rfl) (fun f cdv A outer s H E hr => have hu := hr.units; have hh := hr.hd; have sc := jb
  (aG (ar (i := 4) sc.nd rfl (Or.inl rfl) (rQ hu (dv 2) aZ))
 (aG (bP (bR hu (av (bG (aL c__law_mixed hr (by omega) (by rfl) (aA (dv 0) (aA aB aD))) aB) aB) aB) (aE (aM (ag (aA aZ (aA (aL c__law_value hr (by omega) (by rfl) (aA (aL c__law_mixed hr (by omega) (by rfl) (aA (dv 0) (aA aB aD))) (aA (dv 2) aD))) aD))))) aV)
 (aG (bP (bR hu (dv 3) aB) (aE (aM (ag (aA aZ (aA (aR (dv 1) (aR (bh (cF (by rfl))) (bp (av (bG (aL c__law_mixed hr (by omega) (by rfl) (aA (dv 0) (aA aB aD))) aB) aB) (lT aB (p6 (by rfl) n_int (aA (dv 4) aD)))) (fun _ _ => rfl)) (fun _ _ => rfl)) aD))))) aV)
 (aE (aM (ag (aA aZ (aA (aR (dv 1) (aR (aR (bh (aA (bh (cF (by rfl))) (aA (bh (cF (by rfl))) aD))) (dD (dv 3) aB) (fun _ _ => rfl)) (p6 (by rfl) n_int (aA (dv 4) aD)) (fun _ _ => rfl)) (fun _ _ => rfl)) aD))))))))) ?_
 rintro ds Q ⟨c, l, kd, b, rfl, hb, hl, ho, q⟩
 have m0 := bJ (mixed c 23 / 7) (show (0 : Int) < 2 by decide)
 have m1 := bI (mixed c 23 / 7) (show (0 : Int) < 2 by decide)
 refine ⟨_, rfl, _, rfl, _, _, rfl, cd (by decide) (by decide), (show (0 : Int) < 4 by decide), _, rfl, ?_⟩
 cases h : decide (mixed c 21 / 7 % 4 = 0) with
 | true => exact aO ⟨_, rfl, _, _, rfl, _, rfl, _, _, rfl, fun v hv => ⟨(show 2 <= sizeLine by decide), q (.given v) fun k => .given hv⟩⟩
 | false =>
  refine aK ⟨_, rfl, _, rfl, ?_⟩
  cases h0 : decide ((b : Int) = 0) with
  | true =>
   have key : ∀ z : Bool, ∃ r x : D, L2.hZ [D.int 0, .int 1, .int 3, .int 4] (mixed c 23 / 7 % 2 + 2 * (if z = true then 1 else 0)) = some r /\ ∃ i y, r = .int i /\ x = .str y /\ y ∈ l /\ eB y /\ L2.hZ (l.map D.str) i = some x := fun z => by
    obtain ⟨r, hr, er⟩ := bL (xs := [D.int 0, .int 1, .int 3, .int 4]) (i := mixed c 23 / 7 % 2 + 2 * (if z = true then 1 else 0)) (by split <;> omega) (by show _ < (4 : Int); split <;> omega)
    have hi : ∃ i : Int, r = .int i /\ 0 <= i /\ i < 8 := by
     simp only [List.mem_cons, List.not_mem_nil, or_false] at hr
     rcases hr with rfl | rfl | rfl | rfl <;> exact ⟨_, rfl, by decide, by decide⟩
    obtain ⟨i, rfl, i0, i1⟩ := hi
    obtain ⟨y, hy, oy, ey⟩ := uM hl ho i0 i1
    exact ⟨_, _, er, i, y, rfl, rfl, hy, oy, ey⟩
   obtain ⟨r, x, er, i, y, rfl, rfl, hy, oy, ey⟩ := key (decide (iJ kd = "number"))
   exact aO ⟨_, rfl, (show 4 <= sizeLine by decide), _, rfl, _, _, rfl, cd (by decide) (by decide), (show (0 : Int) < 2 by decide), _, rfl, .inr ⟨_, rfl, ny.ok (.inl ⟨by decide, by decide⟩), _, er, _, ey, (show 2 <= sizeLine by decide), q (.named y) fun k => .named hy oy⟩⟩
  | false =>
   have hb0 : ¬ (b : Int) = 0 := of_decide_eq_false h0
   have key : ∀ z : Bool, ∃ r1 r2 x : D, L2.hZ [D.lst [.int 2, .int 5], .lst [.int 7, .int 6]] ((b : Int) - 1) = some r1 /\ ∃ xs i y, r1 = .lst xs /\ r2 = .int i /\ x = .str y /\ y ∈ l /\ eB y /\ L2.hZ xs (if z = true then 1 else 0) = some r2 /\ L2.hZ (l.map D.str) i = some x := fun z => by
    obtain ⟨r, hr, er⟩ := bL (xs := [D.lst [.int 2, .int 5], .lst [.int 7, .int 6]]) (i := (b : Int) - 1) (by omega) (by show _ < (2 : Int); omega)
    have hi : ∃ xs : List D, r = .lst xs /\ xs.length = 2 /\ ∀ d ∈ xs, ∃ i : Int, d = .int i /\ 0 <= i /\ i < 8 := by
     simp only [List.mem_cons, List.not_mem_nil, or_false] at hr
     rcases hr with rfl | rfl
     ·refine ⟨_, rfl, rfl, fun d hd => ?_⟩
      simp only [List.mem_cons, List.not_mem_nil, or_false] at hd
      rcases hd with rfl | rfl <;> exact ⟨_, rfl, by decide, by decide⟩
     ·refine ⟨_, rfl, rfl, fun d hd => ?_⟩
      simp only [List.mem_cons, List.not_mem_nil, or_false] at hd
      rcases hd with rfl | rfl <;> exact ⟨_, rfl, by decide, by decide⟩
    obtain ⟨xs, rfl, hxs, hall⟩ := hi
    obtain ⟨r2, hr2, er2⟩ := bL (xs := xs) (i := if z = true then 1 else 0) (by split <;> omega) (by rw [hxs]; split <;> omega)
    obtain ⟨i, rfl, i0, i1⟩ := hall r2 hr2
    obtain ⟨y, hy, oy, ey⟩ := uM hl ho i0 i1
    exact ⟨_, _, _, er, xs, i, y, rfl, rfl, rfl, hy, oy, er2, ey⟩
   obtain ⟨r1, r2, x, er, xs, i, y, rfl, rfl, rfl, hy, oy, er2, ey⟩ := key (decide (iJ kd = "number"))
   exact aK ⟨_, rfl, (show 2 <= sizeLine by decide), (show 2 <= sizeLine by decide), (show 2 <= sizeLine by decide), _, rfl, _, er, _, rfl, .inr ⟨_, rfl, _, er2, _, ey, (show 2 <= sizeLine by decide), q (.named y) fun k => .named hy oy⟩⟩
theorem tG (d : Df K mg "_law_typed" dn ["_law_cell", "_law_names_here", "_law_kind_here", "_law_beat", "_law_deep"]) (n_range : mg "range" = none) (c__law_mixed : bK P w K mg base j "_law_mixed" ["_law_cell", "_law_k"] jj) (c__law_value : bK P w K mg base j "_law_value" ["_law_mix", "_law_kind_here"] kE)
  (c__law_leaf : bK P w K mg base j "_law_leaf" ["_law_cell", "_law_names_here", "_law_kind_here", "_law_beat"] pL) (c__law_typed : bK P w K mg base j "_law_typed" ["_law_cell", "_law_names_here", "_law_kind_here", "_law_beat", "_law_deep"] (jk n)) :
  bK P w K mg base (j + 1) "_law_typed" ["_law_cell", "_law_names_here", "_law_kind_here", "_law_beat", "_law_deep"] (jk (n + 1)) := by
 refine d.eQ iU AY (fun ds Q ⟨c, l, kd, b, k, e, _⟩ => by rw [e]; rfl) (fun f cdv A outer s H E hr => have hu := hr.units; have hh := hr.hd; have sc := iU
  (aG (ar (i := 5) sc.nd rfl (Or.inl rfl) (av (bG (aL c__law_mixed hr (by omega) (by rfl) (aA (dv 0) (aA aB aD))) aB) aB))
 (aG (bP (kN.td (w_or (bR hu (dv 4) aB) (js (y8 (dv 5) aB)))) (aE (aM (aL c__law_leaf hr (by omega) (by rfl) (aA (dv 0) (aA (dv 1) (aA (dv 2) (aA (dv 3) aD))))))) aV)
 (aG (B5 (i := 6) sc.nd rfl (Or.inl rfl) (x := "_law_k") (caps := [0]) (cn := ["_law_cell"]) (cl := [("_law_cell", s.heap.objs.size + 1)]) (pf (by rfl) (by rfl) (by decide +kernel) (jP ["_law_cell"] rfl (by decide +kernel)) (by decide +kernel) (bQ (by rfl) fR) (.cons ⟨rfl, .inl rfl, rfl⟩ .nil)) rfl (fU (by rfl) n_range (aA aB aD)) (fun C fp s₂ H₂ => bw (i := 0) (show (["_law_k", "_law_cell"] : List Str).Nodup by decide +kernel) rfl (Or.inl rfl) (.inr rfl)) (fun C fp s₂ H₂ => fM) (fun C fp s₂ H₂ => (aL c__law_mixed hr (by omega) (by rfl) (aA (dv 1) (aA (bp aB (dv 0)) aD)))))
 (aG (ar (i := 7) sc.nd rfl (Or.inl rfl) (aL c__law_value hr (by omega) (by rfl) (aA (aL c__law_mixed hr (by omega) (by rfl) (aA (dv 0) (aA aB aD))) (aA (dv 2) aD))))
 (aG (bP (kN.td (w_or (bR hu (dv 5) aB) (js (bR hu (dv 5) aB)))) (aE (aM (ag (aA aZ (aA (aL c__law_typed hr (by omega) (by rfl) (aA (aR (dv 6) aB (fun _ _ => rfl)) (aA (dv 1) (aA (dv 2) (aA (dv 3) (aA (dD (dv 4) aB) aD)))))) (aA (dv 7) aD)))))) aV)
 (aG (bP (kN.td (w_and (bR hu (dv 5) aB) (gI (y7 (dv 3) aB)))) (aE (aM (ag (aA aZ (aA (aL c__law_typed hr (by omega) (by rfl) (aA (aR (dv 6) aB (fun _ _ => rfl)) (aA (dv 1) (aA (dv 2) (aA (dD (dv 3) aB) (aA (dD (dv 4) aB) aD)))))) (aA (aR (dv 1) (aR (bh (cF (by rfl))) (dD (dv 3) aB) (fun _ _ => rfl)) (fun _ _ => rfl)) aD)))))) aV)
 (aG (bP (kN.td (w_and (kN.td (w_or (bR hu (dv 5) aB) (js (bR hu (dv 5) aB)))) (gI (y8 (dv 3) aB)))) (aE (aM (ag (aA aZ (aA (aL c__law_typed hr (by omega) (by rfl) (aA (aR (dv 6) aB (fun _ _ => rfl)) (aA (dv 1) (aA (dv 2) (aA (bp (dv 3) aB) (aA (dD (dv 4) aB) aD)))))) (aA (aR (dv 1) (aR (bh (cF (by rfl))) (dv 3) (fun _ _ => rfl)) (fun _ _ => rfl)) (aA (dv 7) aD))))))) aV)
 (aG (ar (i := 8) sc.nd rfl (Or.inl rfl) (aL c__law_typed hr (by omega) (by rfl) (aA (aR (dv 6) aB (fun _ _ => rfl)) (aA (dv 1) (aA (dv 2) (aA (dv 3) (aA (dD (dv 4) aB) aD)))))))
 (aG (bP (bR hu (dv 5) aB) (aE (aM (ag (aA aZ (aA (dv 8) (aA (aL c__law_typed hr (by omega) (by rfl) (aA (aR (dv 6) aB (fun _ _ => rfl)) (aA (dv 1) (aA (dv 2) (aA (dv 3) (aA (dD (dv 4) aB) aD)))))) aD)))))) aV)
 (aG (bP (bR hu (dv 5) aB) (aG (ar (i := 11) sc.nd rfl (Or.inl rfl) (aL c__law_typed hr (by omega) (by rfl) (aA (aR (dv 6) aB (fun _ _ => rfl)) (aA (dv 1) (aA (dv 2) (aA (dv 3) (aA (dD (dv 4) aB) aD)))))))
 (aE (aM (ag (aA aZ (aA (aL c__law_typed hr (by omega) (by rfl) (aA (aR (dv 6) aB (fun _ _ => rfl)) (aA (dv 1) (aA aZ (aA (dv 3) (aA (dD (dv 4) aB) aD)))))) (aA (dv 8) (aA (dv 11) aD)))))))) aV)
 (aG (ar (i := 9) sc.nd rfl (Or.inl rfl) (aR (bh (cF (by rfl))) (av (bG (aL c__law_mixed hr (by omega) (by rfl) (aA (dv 0) (aA aB aD))) aB) aB) (fun _ _ => rfl)))
 (aG (ar (i := 10) sc.nd rfl (Or.inl rfl) (dv 2))
 (aG (bP (bR hu (dv 2) aZ) (aG (ar (i := 9) sc.nd rfl (Or.inl rfl) (aR (bh (cF (by rfl))) (av (bG (aL c__law_mixed hr (by omega) (by rfl) (aA (dv 0) (aA aB aD))) aB) aB) (fun _ _ => rfl)))
 (aE (ar (i := 10) sc.nd rfl (Or.inl rfl) (aR (bh (cF (by rfl))) (av (bG (aL c__law_mixed hr (by omega) (by rfl) (aA (dv 0) (aA aB aD))) aB) aB) (fun _ _ => rfl))))) aV)
 (aG (ar (i := 8) sc.nd rfl (Or.inl rfl) (aL c__law_typed hr (by omega) (by rfl) (aA (aR (dv 6) aB (fun _ _ => rfl)) (aA (dv 1) (aA (dv 10) (aA (dv 3) (aA (dD (dv 4) aB) aD)))))))
 (aG (bP (bR hu (dv 9) aZ) (aE (aM (ag (aA aZ (aA (dv 8) aD))))) aV)
 (aE (aM (ag (aA (dv 9) (aA (dv 8) (aA (aL c__law_typed hr (by omega) (by rfl) (aA (aR (dv 6) aB (fun _ _ => rfl)) (aA (dv 1) (aA (dv 10) (aA (dv 3) (aA (dD (dv 4) aB) aD)))))) aD)))))))))))))))))))))) ?_
 rintro ds Q ⟨c, l, kd, b, k, rfl, hk, hb, hl, ho, q⟩
 refine ⟨_, rfl, _, _, rfl, cd (by decide) (by decide), (show (0 : Int) < 13 by decide), ?_⟩
 refine ⟨_, rfl, _, rfl, pC (b2 := decide (mixed c 1 / 7 % 13 < 2)) (fun Q q => ⟨_, rfl, _, rfl, q⟩) ?_ (fun hz => ?_)⟩
 ·exact ⟨_, rfl, _, rfl, _, rfl, _, rfl, c, l, kd, b, rfl, hb, hl, ho, fun p hp => q p (hp k)⟩
 ·have hk0 : k ≠ 0 := fun z => by subst z; cases hz
  obtain ⟨m, rfl⟩ : ∃ m, k = m + 1 := ⟨k - 1, by omega⟩
  have hm : ((m + 1 : Nat) : Int) - 1 = (m : Int) := by omega
  have hn : m < n := by omega
  have tq : ∀ (c' : Int) (kd' : Bool) (b' : Nat) (bi : Int), bi = (b' : Int) -> [D.int c', D.lst (l.map D.str), kD kd', D.int bi, D.int (((m + 1 : Nat) : Int) - 1)] = [D.int c', D.lst (l.map D.str), kD kd', D.int (b' : Int), D.int (m : Int)] := fun c' kd' b' bi e => by rw [e, hm]
  refine ⟨3, rfl, (by decide), (by decide), [some (.int (mixed c 11)), some (.int (mixed c 12)), some (.int (mixed c 13))], rfl, ?_, (show 3 < sizeLine by decide), ?_⟩
  ·intro i d o h1 h2
   match i, h1, h2 with
   | 0, h1, h2 => cases h1; cases h2; exact ⟨rfl, fun _ => ⟨_, rfl, _, rfl, _, _, rfl, congrArg (fun z => some (D.int (mixed c z))) (show (11 : Int) = 11 + (0 + ((0 : Nat) : Int)) by decide)⟩⟩
   | 1, h1, h2 => cases h1; cases h2; exact ⟨rfl, fun _ => ⟨_, rfl, _, rfl, _, _, rfl, congrArg (fun z => some (D.int (mixed c z))) (show (12 : Int) = 11 + (0 + ((1 : Nat) : Int)) by decide)⟩⟩
   | 2, h1, h2 => cases h1; cases h2; exact ⟨rfl, fun _ => ⟨_, rfl, _, rfl, _, _, rfl, congrArg (fun z => some (D.int (mixed c z))) (show (13 : Int) = 11 + (0 + ((2 : Nat) : Int)) by decide)⟩⟩
   | i + 3, h1, h2 => cases h2
  refine ⟨_, rfl, _, _, rfl, _, rfl, _, _, rfl, fun f hf => ?_⟩
  refine ⟨_, rfl, _, rfl, pC (b2 := decide (mixed c 1 / 7 % 13 = 3)) (fun Q q => ⟨_, rfl, _, rfl, q⟩) ?_ (fun _ => ?_)⟩
  ·exact ⟨_, rfl, _, rfl, _, rfl, _, rfl, _, rfl, _, rfl, _, l, kd, b, m, tq _ kd b _ rfl, hn, hb, hl, ho, fun p1 o1 => ⟨_, rfl, (show 3 <= sizeLine by decide), q (.before p1 f) (o1.before (.inr hf))⟩⟩
  refine ⟨_, rfl, _, rfl, wU (b2 := decide ((0 : Int) < (b : Int))) (fun Q q => ⟨_, rfl, _, rfl, q⟩) (fun _ hb0 => ?_) ?_⟩
  ·have hb1 : (0 : Int) < (b : Int) := of_decide_eq_true hb0
   obtain ⟨r, hr, er⟩ := bL (xs := [D.int 0, .int 2]) (i := (b : Int) - 1) (by omega) (by show _ < (2 : Int); omega)
   have hi : ∃ i : Int, r = .int i /\ 0 <= i /\ i < 8 := by
    simp only [List.mem_cons, List.not_mem_nil, or_false] at hr
    rcases hr with rfl | rfl <;> exact ⟨_, rfl, by decide, by decide⟩
   obtain ⟨i, rfl, i0, i1⟩ := hi
   obtain ⟨x, hx, ox, ex⟩ := uM hl ho i0 i1
   exact ⟨_, rfl, _, rfl, _, rfl, _, rfl, _, rfl, _, rfl, _, l, kd, (b - 1), m, tq _ kd (b - 1) _ (by omega), hn, (by omega), hl, ho, fun p1 o1 => ⟨_, rfl, (show 2 <= sizeLine by decide), _, rfl, _, er, _, ex, (show 3 <= sizeLine by decide), q (.bo p1 x) (o1.bo hx ox)⟩⟩
  refine ⟨_, rfl, _, rfl, vT (b2 := decide (mixed c 1 / 7 % 13 = 4)) (b3 := decide ((b : Int) < 2)) (fun Q q => ⟨_, rfl, _, rfl, q⟩) (fun Q q => ⟨_, rfl, _, rfl, q⟩) (fun hb2 => ?_) ?_⟩
  ·have hb1 : (b : Int) < 2 := of_decide_eq_true hb2
   obtain ⟨r, hr, er⟩ := bL (xs := [D.int 0, .int 2]) (i := (b : Int)) (by omega) (by show _ < (2 : Int); omega)
   have hi : ∃ i : Int, r = .int i /\ 0 <= i /\ i < 8 := by
    simp only [List.mem_cons, List.not_mem_nil, or_false] at hr
    rcases hr with rfl | rfl <;> exact ⟨_, rfl, by decide, by decide⟩
   obtain ⟨i, rfl, i0, i1⟩ := hi
   obtain ⟨x, hx, ox, ex⟩ := uM hl ho i0 i1
   exact ⟨_, rfl, _, rfl, _, rfl, _, rfl, _, rfl, _, rfl, _, l, kd, (b + 1), m, tq _ kd (b + 1) _ (by omega), hn, (by omega), hl, ho, fun p1 o1 => ⟨_, rfl, (show 2 <= sizeLine by decide), _, rfl, _, er, _, ex, _, rfl, (show 4 <= sizeLine by decide), q (.held p1 x f) (o1.held hx ox (.inr hf))⟩⟩
  refine ⟨_, rfl, _, rfl, _, rfl, _, rfl, _, rfl, _, rfl, _, l, kd, b, m, tq _ kd b _ rfl, hn, hb, hl, ho, fun p1 o1 => ?_⟩
  refine ⟨_, rfl, _, rfl, ?_⟩
  cases h6 : decide (mixed c 1 / 7 % 13 = 6) with
  | true => exact aO ⟨_, rfl, _, rfl, _, rfl, _, rfl, _, rfl, _, rfl, _, rfl, _, l, kd, b, m, tq _ kd b _ rfl, hn, hb, hl, ho, fun p2 o2 => ⟨(show 3 <= sizeLine by decide), q (.led p1 p2) (o1.led o2)⟩⟩
  | false =>
   refine aK ⟨_, rfl, _, rfl, ?_⟩
   cases h7 : decide (mixed c 1 / 7 % 13 = 7) with
   | true => exact aO ⟨_, rfl, _, rfl, _, rfl, _, rfl, _, rfl, _, rfl, _, l, kd, b, m, tq _ kd b _ rfl, hn, hb, hl, ho, fun p2 o2 => ⟨_, rfl, _, rfl, _, rfl, _, rfl, _, rfl, _, l, true, b, m, tq _ true b _ rfl, hn, hb, hl, ho, fun p3 o3 => ⟨_, rfl, _, rfl, (show 4 <= sizeLine by decide), q (.choice p3 p1 p2) (o3.choice o1 o2)⟩⟩⟩
   | false =>
    obtain ⟨r3, hr3, er3⟩ := bL (xs := [D.str "+", .str "-", .str "*"]) (bJ (mixed c 5 / 7) (show (0 : Int) < 3 by decide)) (bI (mixed c 5 / 7) (show (0 : Int) < 3 by decide))
    refine aK ⟨(show 3 <= sizeLine by decide), _, rfl, _, _, rfl, cd (by decide) (by decide), (show (0 : Int) < 3 by decide), _, er3, ?_⟩
    refine ⟨_, rfl, ?_⟩
    have hsg3 : ∃ sg, r3 = .str sg /\ (sg = "not" \/ sg ∈ cD) := by
     simp only [List.mem_cons, List.not_mem_nil, or_false] at hr3
     rcases hr3 with rfl | rfl | rfl <;> exact ⟨_, rfl, .inr (by decide +kernel)⟩
    obtain ⟨sg, rfl, hsg⟩ := hsg3
    cases kd with
    | false =>
     refine ⟨_, rfl, false, congrArg D.bl (by decide +kernel), aK ?_⟩
     refine ⟨_, rfl, _, rfl, _, rfl, _, rfl, _, rfl, _, rfl, _, l, false, b, m, tq _ false b _ rfl, hn, hb, hl, ho, fun p3 o3 => ?_⟩
     rcases hsg with rfl | hsg
     ·exact ⟨_, rfl, true, congrArg D.bl (by decide +kernel), aO ⟨_, rfl, (show 2 <= sizeLine by decide), q (.turned p3) o3.turned⟩⟩
     ·exact ⟨_, rfl, false, congrArg D.bl (qh hsg), aK ⟨_, rfl, _, rfl, _, rfl, _, rfl, _, rfl, _, rfl, _, rfl, _, rfl, _, l, false, b, m, tq _ false b _ rfl, hn, hb, hl, ho, fun p4 o4 => ⟨(show 3 <= sizeLine by decide), q (.pair sg p3 p4) (.pair hsg o3 o4)⟩⟩⟩
    | true =>
     clear hsg
     obtain ⟨r7, hr7, er7⟩ := bL (xs := [D.str "and", .str "or", .str "=", .str "=", .str "<", .str "<=", .str "not"]) (bJ (mixed c 5 / 7) (show (0 : Int) < 7 by decide)) (bI (mixed c 5 / 7) (show (0 : Int) < 7 by decide))
     obtain ⟨r8, hr8, er8⟩ := bL (xs := [D.str "truth", .str "truth", .str "truth", .str "number", .str "number", .str "number", .str "truth"]) (bJ (mixed c 5 / 7) (show (0 : Int) < 7 by decide)) (bI (mixed c 5 / 7) (show (0 : Int) < 7 by decide))
     have hsg7 : ∃ sg, r7 = .str sg /\ (sg = "not" \/ sg ∈ cD) := by
      simp only [List.mem_cons, List.not_mem_nil, or_false] at hr7
      rcases hr7 with rfl | rfl | rfl | rfl | rfl | rfl | rfl
      ·exact ⟨_, rfl, .inr (by decide +kernel)⟩
      ·exact ⟨_, rfl, .inr (by decide +kernel)⟩
      ·exact ⟨_, rfl, .inr (by decide +kernel)⟩
      ·exact ⟨_, rfl, .inr (by decide +kernel)⟩
      ·exact ⟨_, rfl, .inr (by decide +kernel)⟩
      ·exact ⟨_, rfl, .inr (by decide +kernel)⟩
      ·exact ⟨_, rfl, .inl rfl⟩
     have hkw : ∃ kw, r8 = kD kw := by
      simp only [List.mem_cons, List.not_mem_nil, or_false] at hr8
      rcases hr8 with rfl | rfl | rfl | rfl | rfl | rfl | rfl
      ·exact ⟨true, rfl⟩
      ·exact ⟨true, rfl⟩
      ·exact ⟨true, rfl⟩
      ·exact ⟨false, rfl⟩
      ·exact ⟨false, rfl⟩
      ·exact ⟨false, rfl⟩
      ·exact ⟨true, rfl⟩
     obtain ⟨sg7, rfl, hsg⟩ := hsg7
     obtain ⟨kw, rfl⟩ := hkw
     refine ⟨_, rfl, true, congrArg D.bl (by decide +kernel), aO ?_⟩
     refine ⟨(show 7 <= sizeLine by decide), _, rfl, _, _, rfl, cd (by decide) (by decide), (show (0 : Int) < 7 by decide), _, er7, ?_⟩
     refine ⟨(show 7 <= sizeLine by decide), _, rfl, _, _, rfl, cd (by decide) (by decide), (show (0 : Int) < 7 by decide), _, er8, ?_⟩
     refine ⟨_, rfl, _, rfl, _, rfl, _, rfl, _, rfl, _, rfl, _, l, kw, b, m, tq _ kw b _ rfl, hn, hb, hl, ho, fun p3 o3 => ?_⟩
     rcases hsg with rfl | hsg
     ·exact ⟨_, rfl, true, congrArg D.bl (by decide +kernel), aO ⟨_, rfl, (show 2 <= sizeLine by decide), q (.turned p3) o3.turned⟩⟩
     ·exact ⟨_, rfl, false, congrArg D.bl (qh hsg), aK ⟨_, rfl, _, rfl, _, rfl, _, rfl, _, rfl, _, rfl, _, rfl, _, rfl, _, l, kw, b, m, tq _ kw b _ rfl, hn, hb, hl, ho, fun p4 o4 => ⟨(show 3 <= sizeLine by decide), q (.pair sg7 p3 p4) (.pair hsg o3 o4)⟩⟩⟩
theorem ni (d : Df K mg "_law_typed" dn ["_law_cell", "_law_names_here", "_law_kind_here", "_law_beat", "_law_deep"]) (n_range : mg "range" = none) (c1 : bK P w K mg base 1 "_law_mixed" ["_law_cell", "_law_k"] jj) (c3 : bK P w K mg base 2 "_law_value" ["_law_mix", "_law_kind_here"] kE)
  (c4 : bK P w K mg base 3 "_law_leaf" ["_law_cell", "_law_names_here", "_law_kind_here", "_law_beat"] pL) : ∀ n, bK P w K mg base (n + 3) "_law_typed" ["_law_cell", "_law_names_here", "_law_kind_here", "_law_beat", "_law_deep"] (jk n)
 | 0 => Df.never d fun ds Q ⟨_, _, _, _, _, _, h, _⟩ => absurd h (by omega)
 | n + 1 => tG d n_range (c1.up (by omega)) (c3.up (by omega)) (c4.up (by omega)) (ni d n_range c1 c3 c4 n)
end
def iI : D -> Bool
 | .bl _ => true
 | _ => false
def fit (f : D) (a : Bool) : Bool := match f with
 | .aW => true
 | d => iI d == a
def nu (g : Str) : Option Bool := if g = "+" \/ g = "-" \/ g = "*" \/ g = "<" \/ g = "<=" then some false else if g = "=" then none else some true
def q9 (g : Str) : Bool := !(decide (g = "+") || decide (g = "-") || decide (g = "*"))
def wD : Option Bool -> D
 | none => .aW
 | some b => kD b
def jV (g : Str) (a b : Bool) : Option Bool := if (a == b && (match nu g with | none => true | some w => a == w)) = true then some (q9 g) else none
def Pt.own (kf : Str -> Bool) : Pt -> List Bool -> Option Bool
 | .given v, _ => some (iI v)
 | .named n, _ => some (kf n)
 | .turned _, [a] => if a then some true else none
 | .pair g _ _, [a, b] => jV g a b
 | .choice _ _ _, [t, a, b] => if (t && (a == b)) = true then some a else none
 | .before _ f, [a] => if fit f a = true then some a else none
 | .led _ _, [a, b] => if (a == b) = true then some a else none
 | .bo _ n, [a] => if kf n = true then some a else none
 | .held _ n f, [a] => if (kf n && fit f a) = true then some a else none
 | _, _ => none
def gR (f : Pt -> List Int -> Except (List Int) Bool) (pl : List Int) : Nat -> List Pt -> Except (List Int) (List Bool)
 | _, [] => .ok []
 | i, p :: ps => match f p (pl ++ [(i : Int)]) with
  | .error e => .error e
  | .ok b => match gR f pl (i + 1) ps with
   | .error e => .error e
   | .ok bs => .ok (b :: bs)
def kx (kf : Str -> Bool) : Nat -> Pt -> List Int -> Except (List Int) Bool
 | 0, _, _ => .ok false
 | n + 1, p, pl => match gR (kx kf n) pl 0 p.inner with
  | .error e => .error e
  | .ok bs => match p.own kf bs with
   | none => .error pl
   | some b => .ok b
theorem qw {f : Pt -> List Int -> Except (List Int) Bool} {pl : List Int} : ∀ {i : Nat} {ps : List Pt} {bs : List Bool}, gR f pl i ps = .ok bs -> bs.length = ps.length
 | i, [], bs, h => by cases h; rfl
 | i, p :: ps, bs, h => by
  unfold gR at h
  cases h1 : f p (pl ++ [(i : Int)]) with
  | error e => rw [h1] at h; cases h
  | ok b =>
   rw [h1] at h
   cases h2 : gR f pl (i + 1) ps with
   | error e => simp only [h2] at h; cases h
   | ok bs' =>
    simp only [h2] at h
    cases h
    rw [List.length_cons, List.length_cons, qw h2]
def zJ (kvs : List (Key × D)) (kf : Str -> Bool) (x : Str) : Prop := mf kvs (.inr x) = some (kD (kf x))
theorem vi {g : Str} (h : g ∈ cD) : hJ.lookup g = some (.tup [wD (nu g), kD (q9 g)]) := by
 simp only [cD, List.mem_cons, List.not_mem_nil, or_false] at h
 rcases h with rfl | rfl | rfl | rfl | rfl | rfl | rfl | rfl <;> kernel_rfl
def BK : cY := fun ds Q => ∃ v, ds = [v] /\ isVal v /\ Q (kD (iI v))
def pK : cY := fun ds Q => ∃ f b, ds = [f, kD b] /\ cH f /\ Q (.bl (fit f b))
theorem kU (a b : Bool) : decide (iJ a = iJ b) = (a == b) := by cases a <;> cases b <;> decide +kernel
theorem c_ (a : Bool) : decide (iJ a = "truth") = a := by cases a <;> decide +kernel
def jh (A : b5) (C : Addr) : cY := fun ds Q => ∃ (p : Pt) (kvs : List (Key × D)) (kf : Str -> Bool) (bs : List Bool), ds = [p.d A, .dK kvs, .lst (bs.map kD)] /\ p.cls A = C /\ p.ok /\ p.nk (zJ kvs kf) /\ bs.length = p.inner.length /\ Q (wD (p.own kf bs))
theorem ou {A : b5} {C : Addr} : bS (jh A C) := fun ds P P' f ⟨p, kvs, kf, bs, e, c, o, n, l, q⟩ => ⟨p, kvs, kf, bs, e, c, o, n, l, f _ q⟩
theorem oj {A : b5} {C : Addr} (ds : List D) (Q : D -> Prop) (h : jh A C ds Q) : ds.length = 3 := by obtain ⟨p, kvs, kf, bs, e, _⟩ := h; rw [e]; rfl
theorem qY {bs : List Bool} (h : bs.length = 1) : ∃ a, bs = [a] := by
 match bs, h with
 | [a], _ => exact ⟨a, rfl⟩
theorem AR {bs : List Bool} (h : bs.length = 2) : ∃ a b, bs = [a, b] := by
 match bs, h with
 | [a, b], _ => exact ⟨a, b, rfl⟩
theorem FK {bs : List Bool} (h : bs.length = 3) : ∃ a b c, bs = [a, b, c] := by
 match bs, h with
 | [a, b, c], _ => exact ⟨a, b, c, rfl⟩
section
seal wpAny
variable {P : Program} {w : World} {K : PySem.W.Frag} {mg : Str -> Option Value} {base : Heap} {A : b5} {n j : Nat}
theorem cO (d : Df K mg "value_kind" gG ["value"]) (n_isinstance : mg "isinstance" = none) (n_bool : mg "bool" = none) : bK P w K mg base (j + 1) "value_kind" ["value"] BK := by
 refine d.eQ iX (fun ds P P' g ⟨d, e, h, q⟩ => ⟨d, e, h, g _ q⟩) (fun ds Q ⟨d, e, _⟩ => by rw [e]; rfl) (fun f cdv A outer s H E hr => have hu := hr.units; have hh := hr.hd; have sc := iX
  (aE (aM (gc (eN (gm (by rfl) n_isinstance (by rfl) n_bool (dv 0))) aZ aZ)))) ?_
 rintro ds Q ⟨v, rfl, hv, q⟩
 rcases hv with ⟨b, rfl⟩ | ⟨i, rfl, h1, h2⟩
 ·exact ⟨_, rfl, true, rfl, _, rfl, aO q⟩
 ·exact ⟨_, rfl, false, rfl, _, rfl, aK q⟩
theorem lP (d : Df K mg "fits" sZ ["first", "kind"]) (cO : bK P w K mg base j "value_kind" ["value"] BK) : bK P w K mg base (j + 1) "fits" ["first", "kind"] pK := by
 refine d.eQ uP (fun ds P P' g ⟨f, b, e, h, q⟩ => ⟨f, b, e, h, g _ q⟩) (fun ds Q ⟨f, b, e, _⟩ => by rw [e]; rfl) (fun f cdv A outer s H E hr => have hu := hr.units; have hh := hr.hd; have sc := uP
  (aE (aM (Ew (G5 (dv 0) bC) (lU (rQ hu (aL cO hr (by omega) (by rfl) (aA (dv 0) aD)) (dv 1))))))) ?_
 rintro ds Q ⟨f, b, rfl, hf, q⟩
 rcases hf with rfl | hv
 ·exact ⟨_, rfl, true, rfl, aO q⟩
 ·have q' : Q (.bl (iI f == b)) := by
   rcases hv with ⟨c, rfl⟩ | ⟨i, rfl, _⟩ <;> exact q
  have nn : (match f with | .aW => true | _ => false) = false := by rcases hv with ⟨c, rfl⟩ | ⟨i, rfl, _⟩ <;> rfl
  refine ⟨_, rfl, false, ?_, aK ⟨_, rfl, f, rfl, hv, _, rfl, ?_⟩⟩
  ·rcases hv with ⟨c, rfl⟩ | ⟨i, rfl, _⟩ <;> rfl
  ·have e := kU (iI f) b
   show Q (.bl (decide (iJ (iI f) = iJ b)))
   rw [e]
   exact q'
end
theorem Au {g : Str} {a b : Bool} (h : (a == b) = false) : jV g a b = none := by unfold jV; rw [h]; rfl
theorem yO {g : Str} {a b : Bool} (h : (a == b) = true) (hw : nu g = none) : jV g a b = some (q9 g) := by unfold jV; rw [h, hw]; rfl
theorem yP {g : Str} {a b w : Bool} (h : (a == b) = true) (hw : nu g = some w) : jV g a b = if (a == w) = true then some (q9 g) else none := by unfold jV; rw [h, hw]; rfl
section
seal wpAny
variable {P : Program} {w : World} {K : PySem.W.Frag} {mg : Str -> Option Value} {base : Heap} {A : b5} {n j : Nat}
theorem xg (hA : fQ K A) (d : Dm K A.given "kind_from" "Given.kind_from" bz ["self", "kinds", "within"]) (cO : bK P w K mg base j "value_kind" ["value"] BK) : cE P w K mg base (j + 1) A.given "kind_from" (jh A A.given) [] := by
 refine d.eQ eK ou oj (fun f cdv A outer s H E hr => have hu := hr.units; have hh := hr.hd; have sc := eK
  (aE (aM (aL cO hr (by omega) (by rfl) (aA (bY K rfl (dv 0) (by rfl)) aD))))) ?_
 rintro ds Q ⟨p, kvs, kf, bs, rfl, hc, ok, nk, hl, q⟩
 have c := hA.cl _ (Pt.aq A p)
 have no := hA.lE _ (Pt.aq A p)
 obtain ⟨v, rfl⟩ := qU hA hc
 exact bB rfl c (no _ (by decide)) (by kernel_rfl) ⟨v, rfl, ok, q⟩
theorem xh (hA : fQ K A) (d : Dm K A.named "kind_from" "Named.kind_from" b4 ["self", "kinds", "within"]) : cE P w K mg base (j + 1) A.named "kind_from" (jh A A.named) [] := by
 refine d.eQ eL ou oj (fun f cdv A outer s H E hr => have hu := hr.units; have hh := hr.hd; have sc := eL
  (aE (aM (lS hu (dv 1) (bY K rfl (dv 0) (by rfl)) (fun _ _ => rfl))))) ?_
 rintro ds Q ⟨p, kvs, kf, bs, rfl, hc, ok, nk, hl, q⟩
 have c := hA.cl _ (Pt.aq A p)
 have no := hA.lE _ (Pt.aq A p)
 obtain ⟨x, rfl⟩ := qV hA hc
 exact ⟨_, rfl, bB (r := .str x) rfl c (no _ (by decide)) (by kernel_rfl) ⟨kvs, .inr x, kD (kf x), rfl, rfl, nk, q⟩⟩
theorem vM (hA : fQ K A) (d : Dm K A.turned "kind_from" "Turned.kind_from" bf ["self", "kinds", "within"]) : cE P w K mg base (j + 1) A.turned "kind_from" (jh A A.turned) [] := by
 refine d.eQ dX ou oj (fun f cdv A outer s H E hr => have hu := hr.units; have hh := hr.hd; have sc := dX
  (aE (aM (gc (bR hu (aR (dv 2) aB (fun _ _ => rfl)) aZ) aZ bC)))) ?_
 rintro ds Q ⟨p, kvs, kf, bs, rfl, hc, ok, nk, hl, q⟩
 obtain ⟨x, rfl⟩ := nH hA hc
 obtain ⟨a, rfl⟩ := qY hl
 refine ⟨_, rfl, kD a, rfl, a, congrArg D.bl (c_ a), ?_⟩
 cases a
 ·exact aK q
 ·exact aO q
theorem AM {sa : Addr} (hA : fQ K A) (d : Dm K A.pair "kind_from" "Pair.kind_from" cB ["self", "kinds", "within"]) (kd_SIGNS : wM w K mg "SIGNS" sa hJ) : cE P w K mg base (j + 1) A.pair "kind_from" (jh A A.pair) [] := by
 refine d.eQ eo ou oj (fun f cdv A outer s H E hr => have hu := hr.units; have hh := hr.hd; have sc := eo
  (aG (ar (i := 3) sc.nd rfl (Or.inl rfl) (aR (oO kd_SIGNS (by rfl) (bY K rfl (dv 0) (by rfl)) (fun _ _ => rfl)) aB (fun _ _ => rfl)))
 (aG (bP (kN.td (w_or (y9 hu (aR (dv 2) aB (fun _ _ => rfl)) (aR (dv 2) aB (fun _ _ => rfl))) (js (kN.td (w_and (lH (dv 3) bC) (gI (y9 hu (aR (dv 2) aB (fun _ _ => rfl)) (dv 3)))))))) (aE (aM bC)) aV)
 (aE (aM (aR (oO kd_SIGNS (by rfl) (bY K rfl (dv 0) (by rfl)) (fun _ _ => rfl)) aB (fun _ _ => rfl))))))) ?_
 rintro ds Q ⟨p, kvs, kf, bs, rfl, hc, ok, nk, hl, q⟩
 have c := hA.cl _ (Pt.aq A p)
 have no := hA.lE _ (Pt.aq A p)
 obtain ⟨g, x, y, rfl⟩ := t9 hA hc
 obtain ⟨a, b, rfl⟩ := AR hl
 have look := vi ok.1
 have e1 : decide (iJ a = iJ b) = (a == b) := kU a b
 have q' : Q (wD (jV g a b)) := q
 have back : Q (kD (q9 g)) -> Ic (B_ hJ (BY K (mP 0) "sign")) (vC (.int 1)) [some ((Pt.pair g x y).d A), some (.dK kvs), some (.lst ([a, b].map kD)), some (wD (nu g))] Q := fun k => bB rfl c (no _ (by decide)) (by kernel_rfl) ⟨g, _, rfl, look, _, rfl, k⟩
 refine bB rfl c (no _ (by decide)) (by kernel_rfl) ⟨g, _, rfl, look, _, rfl, ?_⟩
 refine ⟨_, rfl, kD a, rfl, _, rfl, kD b, rfl, !(a == b), congrArg D.bl (congrArg not e1), ?_⟩
 cases hab : (a == b) with
 | false =>
  rw [Au hab] at q'
  exact aO (aO q')
 | true =>
  refine aK ?_
  cases hw : nu g with
  | none =>
   rw [yO hab hw] at q'
   rw [hw] at back
   exact ⟨_, rfl, false, rfl, aK (aK (back q'))⟩
  | some v =>
   rw [yP hab hw] at q'
   rw [hw] at back
   refine ⟨_, rfl, true, rfl, aO ⟨_, rfl, kD a, rfl, _, rfl, !(a == v), congrArg D.bl (congrArg not (kU a v)), ?_⟩⟩
   cases hv : (a == v) with
   | false =>
    rw [hv] at q'
    exact aO q'
   | true =>
    rw [hv] at q'
    exact aK (back q')
theorem vL (hA : fQ K A) (d : Dm K A.choice "kind_from" "Choice.kind_from" bb ["self", "kinds", "within"]) : cE P w K mg base (j + 1) A.choice "kind_from" (jh A A.choice) [] := by
 refine d.eQ dU ou oj (fun f cdv A outer s H E hr => have hu := hr.units; have hh := hr.hd; have sc := dU
  (aE (aM (gc (kN.td (w_and (bR hu (aR (dv 2) aB (fun _ _ => rfl)) aZ) (gI (bR hu (aR (dv 2) aB (fun _ _ => rfl)) (aR (dv 2) aB (fun _ _ => rfl)))))) (aR (dv 2) aB (fun _ _ => rfl)) bC)))) ?_
 rintro ds Q ⟨p, kvs, kf, bs, rfl, hc, ok, nk, hl, q⟩
 obtain ⟨x, y, z, rfl⟩ := nG hA hc
 obtain ⟨t, a, b, rfl⟩ := FK hl
 have q' : Q (wD (if (t && (a == b)) = true then some a else none)) := q
 refine ⟨_, rfl, kD t, rfl, t, congrArg D.bl (c_ t), ?_⟩
 cases t with
 | false => exact aK (aK q')
 | true =>
  refine aO ⟨_, rfl, kD a, rfl, _, rfl, kD b, rfl, (a == b), congrArg D.bl (kU a b), ?_⟩
  rw [Bool.true_and] at q'
  cases hab : (a == b) with
  | false => rw [hab] at q'; exact aK q'
  | true => rw [hab] at q'; exact aO ⟨_, rfl, kD a, rfl, q'⟩
theorem vK (hA : fQ K A) (d : Dm K A.before "kind_from" "Before.kind_from" ba ["self", "kinds", "within"]) (lP : bK P w K mg base j "fits" ["first", "kind"] pK) : cE P w K mg base (j + 1) A.before "kind_from" (jh A A.before) [] := by
 refine d.eQ dS ou oj (fun f cdv A outer s H E hr => have hu := hr.units; have hh := hr.hd; have sc := dS
  (aE (aM (gc (eN (aL lP hr (by omega) (by rfl) (aA (bY K rfl (dv 0) (by rfl)) (aA (aR (dv 2) aB (fun _ _ => rfl)) aD)))) (aR (dv 2) aB (fun _ _ => rfl)) bC)))) ?_
 rintro ds Q ⟨p, kvs, kf, bs, rfl, hc, ok, nk, hl, q⟩
 have c := hA.cl _ (Pt.aq A p)
 have no := hA.lE _ (Pt.aq A p)
 obtain ⟨x, f, rfl⟩ := nF hA hc
 obtain ⟨a, rfl⟩ := qY hl
 have q' : Q (wD (if fit f a = true then some a else none)) := q
 refine bB rfl c (no _ (by decide)) (by kernel_rfl) ⟨_, rfl, kD a, rfl, f, a, rfl, ok.2, fit f a, rfl, ?_⟩
 cases hf : fit f a with
 | false => rw [hf] at q'; exact aK q'
 | true => rw [hf] at q'; exact aO ⟨_, rfl, kD a, rfl, q'⟩
theorem C_ (hA : fQ K A) (d : Dm K A.led "kind_from" "Led.kind_from" cJ ["self", "kinds", "within"]) : cE P w K mg base (j + 1) A.led "kind_from" (jh A A.led) [] := by
 refine d.eQ fc ou oj (fun f cdv A outer s H E hr => have hu := hr.units; have hh := hr.hd; have sc := fc
  (aE (aM (gc (bR hu (aR (dv 2) aB (fun _ _ => rfl)) (aR (dv 2) aB (fun _ _ => rfl))) (aR (dv 2) aB (fun _ _ => rfl)) bC)))) ?_
 rintro ds Q ⟨p, kvs, kf, bs, rfl, hc, ok, nk, hl, q⟩
 obtain ⟨x, y, rfl⟩ := xX hA hc
 obtain ⟨a, b, rfl⟩ := AR hl
 have q' : Q (wD (if (a == b) = true then some a else none)) := q
 refine ⟨_, rfl, kD a, rfl, _, rfl, kD b, rfl, (a == b), congrArg D.bl (kU a b), ?_⟩
 cases hab : (a == b) with
 | false => rw [hab] at q'; exact aK q'
 | true => rw [hab] at q'; exact aO ⟨_, rfl, kD a, rfl, q'⟩
theorem AN (hA : fQ K A) (d : Dm K A.bo "kind_from" "When.kind_from" cC ["self", "kinds", "within"]) : cE P w K mg base (j + 1) A.bo "kind_from" (jh A A.bo) [] := by
 refine d.eQ eu ou oj (fun f cdv A outer s H E hr => have hu := hr.units; have hh := hr.hd; have sc := eu
  (aE (aM (gc (bR hu (lS hu (dv 1) (bY K rfl (dv 0) (by rfl)) (fun _ _ => rfl)) aZ) (aR (dv 2) aB (fun _ _ => rfl)) bC)))) ?_
 rintro ds Q ⟨p, kvs, kf, bs, rfl, hc, ok, nk, hl, q⟩
 have c := hA.cl _ (Pt.aq A p)
 have no := hA.lE _ (Pt.aq A p)
 obtain ⟨x, s, rfl⟩ := xY hA hc
 obtain ⟨a, rfl⟩ := qY hl
 have q' : Q (wD (if kf s = true then some a else none)) := q
 refine ⟨_, rfl, bB (r := .str s) rfl c (no _ (by decide)) (by kernel_rfl) ⟨kvs, .inr s, kD (kf s), rfl, rfl, nk.2, kf s, congrArg D.bl (c_ _), ?_⟩⟩
 cases hf : kf s with
 | false => rw [hf] at q'; exact aK q'
 | true => rw [hf] at q'; exact aO ⟨_, rfl, kD a, rfl, q'⟩
theorem AL (hA : fQ K A) (d : Dm K A.held "kind_from" "Held.kind_from" cA ["self", "kinds", "within"]) (lP : bK P w K mg base j "fits" ["first", "kind"] pK) : cE P w K mg base (j + 1) A.held "kind_from" (jh A A.held) [] := by
 refine d.eQ eh ou oj (fun f cdv A outer s H E hr => have hu := hr.units; have hh := hr.hd; have sc := eh
  (aE (aM (gc (kN.td (w_and (bR hu (lS hu (dv 1) (bY K rfl (dv 0) (by rfl)) (fun _ _ => rfl)) aZ) (gI (eN (aL lP hr (by omega) (by rfl) (aA (bY K rfl (dv 0) (by rfl)) (aA (aR (dv 2) aB (fun _ _ => rfl)) aD))))))) (aR (dv 2) aB (fun _ _ => rfl)) bC)))) ?_
 rintro ds Q ⟨p, kvs, kf, bs, rfl, hc, ok, nk, hl, q⟩
 have c := hA.cl _ (Pt.aq A p)
 have no := hA.lE _ (Pt.aq A p)
 obtain ⟨x, s, f, rfl⟩ := t8 hA hc
 obtain ⟨a, rfl⟩ := qY hl
 have q' : Q (wD (if (kf s && fit f a) = true then some a else none)) := q
 refine ⟨_, rfl, bB (r := .str s) rfl c (no _ (by decide)) (by kernel_rfl) ⟨kvs, .inr s, kD (kf s), rfl, rfl, nk.2, kf s, congrArg D.bl (c_ _), ?_⟩⟩
 cases hk : kf s with
 | false => rw [hk] at q'; exact aK (aK q')
 | true =>
  rw [hk, Bool.true_and] at q'
  refine aO (bB rfl c (no _ (by decide)) (by kernel_rfl) ⟨_, rfl, kD a, rfl, f, a, rfl, ok.2.2, fit f a, rfl, ?_⟩)
  cases hf : fit f a with
  | false => rw [hf] at q'; exact aK q'
  | true => rw [hf] at q'; exact aO ⟨_, rfl, kD a, rfl, q'⟩
structure IE (K : PySem.W.Frag) (A : b5) : Prop where
 given : Dm K A.given "kind_from" "Given.kind_from" bz ["self", "kinds", "within"]
 named : Dm K A.named "kind_from" "Named.kind_from" b4 ["self", "kinds", "within"]
 turned : Dm K A.turned "kind_from" "Turned.kind_from" bf ["self", "kinds", "within"]
 pair : Dm K A.pair "kind_from" "Pair.kind_from" cB ["self", "kinds", "within"]
 choice : Dm K A.choice "kind_from" "Choice.kind_from" bb ["self", "kinds", "within"]
 before : Dm K A.before "kind_from" "Before.kind_from" ba ["self", "kinds", "within"]
 led : Dm K A.led "kind_from" "Led.kind_from" cJ ["self", "kinds", "within"]
 bo : Dm K A.bo "kind_from" "When.kind_from" cC ["self", "kinds", "within"]
 held : Dm K A.held "kind_from" "Held.kind_from" cA ["self", "kinds", "within"]
theorem C9 {sa : Addr} (hA : fQ K A) (d : IE K A) (c1 : bK P w K mg base j "value_kind" ["value"] BK) (c2 : bK P w K mg base j "fits" ["first", "kind"] pK) (kd : wM w K mg "SIGNS" sa hJ) : ∀ C, lC A C -> cE P w K mg base (j + 1) C "kind_from" (jh A C) [] := fun C ⟨p, e⟩ => by
 subst e
 cases p
 ·exact xg hA d.given c1
 ·exact xh hA d.named
 ·exact vM hA d.turned
 ·exact AM hA d.pair kd
 ·exact vL hA d.choice
 ·exact vK hA d.before c2
 ·exact C_ hA d.led
 ·exact AN hA d.bo
 ·exact AL hA d.held c2
end
def bZ (pl : List Int) : D := .tup (pl.map D.int)
def Dg (nk : Addr) (Q : D -> Prop) (R : XR) : Except (List Int) Bool -> Prop
 | .ok b => Q (kD b)
 | .error e => R nk [("row", .aW), ("place", bZ e)]
theorem DN {nk : Addr} {Q Q' : D -> Prop} {R R' : XR} (f : ∀ d, Q d -> Q' d) (g : ∀ C z, R C z -> R' C z) : ∀ {x : Except (List Int) Bool}, Dg nk Q R x -> Dg nk Q' R' x
 | .ok _, h => f _ h
 | .error _, h => g _ _ h
def vp (A : b5) (nk : Addr) (n : Nat) (C : Addr) : mw := fun ds Q R => ∃ (p : Pt) (kvs : List (Key × D)) (kf : Str -> Bool) (pl : List Int), ds = [p.d A, .dK kvs, bZ pl] /\ p.cls A = C /\ p.depth <= n /\ p.ok /\ p.nk (zJ kvs kf) /\ pl.length + n <= 100 /\ Dg nk Q R (kx kf n p pl)
theorem FR {A : b5} {nk : Addr} {n : Nat} {C : Addr} : jD (vp A nk n C) := fun ds P P' R R' f g ⟨p, kvs, kf, pl, e, c, d, o, k, l, q⟩ => ⟨p, kvs, kf, pl, e, c, d, o, k, l, DN f g q⟩
theorem qd : sI "kind_by" := by unfold sI; decide +kernel
theorem DQ : sI "kind_from" := by unfold sI; decide +kernel
theorem mD (pl : List Int) (i : Int) : D.tup (pl.map D.int ++ [.int i]) = bZ (pl ++ [i]) := by unfold bZ; rw [List.map_append]; rfl
def Ha (nk : Addr) (Q : D -> Prop) (R : XR) (acc : List D) : Except (List Int) (List Bool) -> Prop
 | .ok bs => Q (.lst (acc ++ bs.map kD))
 | .error e => R nk [("row", .aW), ("place", bZ e)]
theorem qI {A : b5} {nk : Addr} {n : Nat} {R : XR} {Q : D -> Prop} {kvs : List (Key × D)} {kf : Str -> Bool} {pl : List Int} (hl : pl.length + (n + 1) <= 100) : ∀ (ps : List Pt) (i : Nat) (acc : List D), (∀ q ∈ ps, q.depth <= n /\ q.ok /\ q.nk (zJ kvs kf)) -> Ha nk Q R acc (gR (kx kf n) pl i ps) ->
  rY EJ (zG (fun _ => R) (lC A) "kind_by" (vp A nk n) (mP 1) (my (mP 2) (my (GU (mP 3) (GY (my (mP 0) oB))) oB))) [some (.dK kvs), some (bZ pl)] (zN i (ps.map (Pt.d A))) acc Q
 | [], i, acc, _, h => by
  have h' : Q (.lst (acc ++ [])) := h
  rw [List.append_nil] at h'
  exact h'
 | p :: ps, i, acc, hp, h => by
  obtain ⟨hd, ho, hn⟩ := hp p List.mem_cons_self
  obtain ⟨gs, e1, e2⟩ := jU A qd p
  refine ⟨_, _, rfl, fun _ => ?_, fun z => by cases z⟩
  refine ⟨_, rfl, p.cls A, gs, e1, e2, ⟨p, rfl⟩, _, rfl, _, rfl, _, rfl, (show 1 <= sizeLine by decide), ?_, p, kvs, kf, pl ++ [(i : Int)], ?_, rfl, hd, ho, hn, ?_, ?_⟩
  ·rw [List.length_map]
   exact Nat.le_trans (show pl.length + 1 <= 101 by omega) (by decide)
  ·rw [mD]
  ·rw [List.length_append, List.length_singleton]; omega
  ·unfold gR at h
   cases h1 : kx kf n p (pl ++ [(i : Int)]) with
   | error e => rw [h1] at h; exact h
   | ok b =>
    rw [h1] at h
    refine qI hl ps (i + 1) (acc ++ [kD b]) (fun q hq => hp q (List.mem_cons_of_mem _ hq)) ?_
    cases h2 : gR (kx kf n) pl (i + 1) ps with
    | error e => simp only [h2] at h; exact h
    | ok bs =>
     simp only [h2] at h
     show Q (.lst (acc ++ [kD b] ++ bs.map kD))
     rw [List.append_assoc]
     exact h
section
seal wpAny
variable {P : Program} {w : World} {K : PySem.W.Frag} {mg : Str -> Option Value} {base : Heap} {A : b5} {n j : Nat} {nk : Addr}
theorem AI {i : Nat} (hi : i + 1 <= j) (d : ∀ C, lC A C -> Dm K C "kind_by" "Part.kind_by" aa ["self", "kinds", "place"]) (n_enumerate : mg "enumerate" = none) (m_inner : MP P w K mg base A j "inner" (n + 1) (cP A))
  (m_kind_from : ∀ C, lC A C -> cE P w K mg base j C "kind_from" (jh A C) []) (ke_NoKind : Ec P w K mg base i "NoKind" nk ["row", "place"]) (bm_NoKind : PySem.W.mroIn K nk (.type "BaseException") = some true) (bt_NoKind : PySem.W.typeIn K (.ref nk) = some (.type "type"))
  (mx_kind_by : ∀ C, lC A C -> lM P w K mg base j C "kind_by" (vp A nk n C)) : ∀ C, lC A C -> lM P w K mg base (j + 1) C "kind_by" (vp A nk (n + 1) C) := by
 intro C hC
 refine (d C hC).Gz gN FR (fun ds Q R ⟨p, kvs, kf, pl, e, _⟩ => by rw [e]; rfl) (fun f cdv A outer s H E R hr hx => have hu := hr.units; have hh := hr.hd; have sc := gN
  (aG (D5 (i := 3) rfl rfl hx sc.nd rfl (Or.inl rfl) (x := "at") (y := "part") (caps := [1, 2]) (cn := ["kinds", "place"]) (cl := [("place", s.heap.objs.size + 2), ("kinds", s.heap.objs.size + 1)]) (pf (by rfl) (by rfl) (by decide +kernel) (jP ["place", "kinds"] rfl (by decide +kernel)) (by decide +kernel) (bQ (by rfl) (bQ (by rfl) fR)) (.cons ⟨rfl, .inl rfl, rfl⟩ (.cons ⟨rfl, .inl rfl, rfl⟩ .nil))) rfl (zz (by rfl) n_enumerate (aA (jJ m_inner hr (by omega) (dv 0)) aD)) (fun C fp s₂ H₂ => yY rfl (l_ (bw (i := 0) (show (["at", "part", "kinds", "place"] : List Str).Nodup by decide +kernel) rfl (Or.inl rfl) (.inr rfl)) (l_ (bw (i := 1) (show (["at", "part", "kinds", "place"] : List Str).Nodup by decide +kernel) rfl (Or.inl rfl) (.inr rfl)) uL))) (fun C fp s₂ H₂ => fM) (fun C fp s₂ H₂ => (Eu wR mx_kind_by hr (by omega) (dv 1) (aA (dv 2) (aA (bp (dv 3) (ag (aA (dv 0) aD))) aD)))))
 (aG (ar (i := 4) sc.nd rfl (Or.inl rfl) (Ik m_kind_from hr (by omega) (dv 0) (aA (dv 1) (aA (dv 3) aD))))
 (aG (bP (EE (dv 4) bC) (aE (yl hx rfl rfl ke_NoKind bm_NoKind bt_NoKind hr (by omega) (by rfl) (aA bC (aA (dv 2) aD)))) aV)
 (aE (aM (dv 4))))))) ?_
 rintro ds Q R ⟨p, kvs, kf, pl, rfl, hc, hd, ho, hn, hl, q⟩
 refine eP eX j7 ⟨_, rfl, rfl⟩ hd ⟨p.inner.map (Pt.d A), rfl, ?_, qI hl p.inner 0 [] (fun q hq => ⟨p.fV hq hd, Pt.yH hq ho, Pt.Bt hq hn⟩) ?_⟩
 ·rw [jL, List.length_map]; exact Nat.lt_of_le_of_lt p.fW (by decide)
 ·unfold kx at q
  cases h1 : gR (kx kf n) pl 0 p.inner with
  | error e => rw [h1] at q; exact q
  | ok bs =>
   rw [h1] at q
   have hbl := qw h1
   show _
   obtain ⟨gs, e1, e2⟩ := jU A DQ p
   refine ⟨_, rfl, p.cls A, gs, e1, e2, ⟨p, rfl⟩, _, rfl, _, rfl, p, kvs, kf, bs, rfl, rfl, ho, hn, hbl, ?_⟩
   cases h2 : p.own kf bs with
   | none =>
    simp only [h2] at q
    exact ⟨_, rfl, true, rfl, aO ⟨_, rfl, rfl, q⟩⟩
   | some b =>
    simp only [h2] at q
    exact ⟨_, rfl, false, rfl, aK ⟨_, rfl, q⟩⟩
theorem Dm.DP {C : Addr} {m qual : Str} {st : Stmt} {ps : List Str} {sx : mw} (d : Dm K C m qual st ps) (ms : jD sx) (h : ∀ ds Q R, ¬ sx ds Q R) : lM P w K mg base j C m sx := by
 obtain ⟨f, fd, F, M, c, b⟩ := d.ex
 exact ⟨⟨f, fd, ps, c, M, ⟨fun vs H Q E ⟨ds, _, q⟩ => (h _ _ _ q).elim, fun A outer s H args us vs Q E _ _ _ _ ⟨ds, _, q⟩ => (h _ _ _ q).elim⟩, b⟩, ms⟩
theorem xf {i : Nat} (hi : i + 1 <= j) (d : ∀ C, lC A C -> Dm K C "kind_by" "Part.kind_by" aa ["self", "kinds", "place"]) (n_enumerate : mg "enumerate" = none) (m_inner : ∀ n, MP P w K mg base A j "inner" n (cP A))
  (m_kf : ∀ C, lC A C -> cE P w K mg base j C "kind_from" (jh A C) []) (ke : Ec P w K mg base i "NoKind" nk ["row", "place"]) (bm : PySem.W.mroIn K nk (.type "BaseException") = some true) (bt : PySem.W.typeIn K (.ref nk) = some (.type "type")) :
  ∀ n, ∀ C, lC A C -> lM P w K mg base (j + n) C "kind_by" (vp A nk n C)
 | 0 => fun C hC => Dm.DP (d C hC) FR fun ds Q R ⟨p, _, _, _, _, _, h, _⟩ => absurd p.iB (by omega)
 | n + 1 => AI (j := j + n) (i := i) (by omega) d n_enumerate (fun C hC => (m_inner (n + 1) C hC).up (by omega)) (fun C hC => (m_kf C hC).up (by omega)) ke bm bt (xf hi d n_enumerate m_inner m_kf ke bm bt n)
end
def Pt.word : Pt -> Str
 | .given _ => "given" | .named _ => "named" | .turned _ => "not" | .pair g _ _ => g | .choice _ _ _ => "if"
 | .before _ _ => "before" | .led _ _ => "then" | .bo _ _ => "when" | .held _ _ _ => "held"
def Pt.rest : Pt -> List D
 | .given v => [v] | .named s => [.str s] | .turned p => [p.told] | .pair _ a b => [a.told, b.told] | .choice t a b => [t.told, a.told, b.told]
 | .before p f => [p.told, f] | .led h r => [h.told, r.told] | .bo p s => [p.told, .str s] | .held p s f => [p.told, .str s, f]
theorem Pt.lI (p : Pt) : p.told = .tup (.str p.word :: p.rest) := by cases p <;> rfl
def s_ : D -> Bool
 | .tup _ => true
 | _ => false
theorem eO (p : Pt) : s_ p.told = true := by rw [p.lI]; rfl
theorem AA {d : D} (h : (jS d).isSome = true) : rl "tuple" d = some (s_ d) := by
 cases d <;> first | rfl | cases h
theorem G1 (x : D) (xs : List D) : HT.cM (x :: xs).length 0 (some 1) = 1 /\ DC.cutD (x :: xs) (some 1) none = xs := by
 have e : HT.cM (x :: xs).length 0 (some 1) = 1 := F_ x xs
 refine ⟨e, ?_⟩
 unfold DC.cutD
 rw [e]
 show List.take ((x :: xs).length - 1) xs = xs
 rw [List.length_cons, Nat.add_sub_cancel, List.take_length]
theorem mS {v : D} (h : isVal v) : (jS v).isSome = true /\ s_ v = false := by rcases h with ⟨b, rfl⟩ | ⟨i, rfl, _⟩ <;> exact ⟨rfl, rfl⟩
theorem ft {v : D} (h : cH v) : (jS v).isSome = true /\ s_ v = false := by
 rcases h with rfl | h
 ·exact ⟨rfl, rfl⟩
 ·exact mS h
theorem cv (p : Pt) : (jS p.told).isSome = true := by rw [p.lI]; rfl
theorem vd {p : Pt} (ho : p.ok) : ∀ d ∈ p.rest, (jS d).isSome = true := by
 intro d hd
 cases p <;> simp only [Pt.rest, Pt.ok, List.mem_cons, List.not_mem_nil, or_false] at hd ho
 case given => subst hd; exact (mS ho).1
 case named => subst hd; rfl
 case turned => subst hd; exact cv _
 case pair => rcases hd with rfl | rfl <;> exact cv _
 case choice => rcases hd with rfl | rfl | rfl <;> exact cv _
 case before => rcases hd with rfl | rfl; exact cv _; exact (ft ho.2).1
 case led => rcases hd with rfl | rfl <;> exact cv _
 case bo => rcases hd with rfl | rfl; exact cv _; rfl
 case held => rcases hd with rfl | rfl | rfl; exact cv _; rfl; exact (ft ho.2.2).1
theorem sW {p : Pt} (ho : p.ok) : (p.rest.filter s_).map id = p.inner.map Pt.told := by
 have s : ∀ s : Str, s_ (.str s) = false := fun _ => rfl
 cases p <;> simp only [Pt.rest, Pt.inner, Pt.ok] at ho ⊢
 case given => simp [(mS ho).2]
 case named => simp [s]
 case turned => simp [eO]
 case pair => simp [eO]
 case choice => simp [eO]
 case before => simp [eO, (ft ho.2).2]
 case led => simp [eO]
 case bo => simp [eO, s]
 case held => simp [eO, s, (ft ho.2.2).2]
theorem yj (p : Pt) : p.rest.length <= 3 := by cases p <;> simp [Pt.rest]
theorem qB {a b : Bool} {Q : D -> Prop} (q : Q (.bl (!a && !b))) : wF false (.lst ([a, b].map kD)) (.lst [.str "number", .str "number"]) Q := by
 cases a <;> cases b
 all_goals (refine ⟨rfl, rfl, by decide +kernel, by decide +kernel, ?_⟩; first | exact q)
def Pt.leaf : Pt -> Bool
 | .given _ => true
 | .named _ => true
 | _ => false
def BL : cY := fun ds Q => ∃ (p : Pt) (kvs : List (Key × D)) (kf : Str -> Bool) (bs : List Bool), ds = [p.told, .dK kvs, .lst (bs.map kD)] /\ p.leaf = false /\ p.ok /\ p.nk (zJ kvs kf) /\ bs.length = p.inner.length /\ Q (wD (p.own kf bs))
theorem HP : bS BL := fun ds P P' f ⟨p, kvs, kf, bs, e, c, o, n, l, q⟩ => ⟨p, kvs, kf, bs, e, c, o, n, l, f _ q⟩
theorem Eo (a b : Bool) : decide ((([a, b].map iJ).countP (fun y : Str => decide (y = "truth")) : Nat) = ((2 : Nat) : Int)) = (a && b) := by cases a <;> cases b <;> decide +kernel
theorem G0 (a : Bool) : decide ((([a].map iJ).countP (fun y : Str => decide (y = "truth")) : Nat) = ((1 : Nat) : Int)) = a := by cases a <;> decide +kernel
section
seal wpAny
variable {P : Program} {w : World} {K : PySem.W.Frag} {mg : Str -> Option Value} {base : Heap} {A : b5} {n j : Nat}
theorem wX (d : Df K mg "_law_wanted" fJ ["_law_told_here", "_law_kinds", "_law_inner"]) (n_len : mg "len" = none) (n_isinstance : mg "isinstance" = none) (n_bool : mg "bool" = none) : bK P w K mg base (j + 1) "_law_wanted" ["_law_told_here", "_law_kinds", "_law_inner"] BL := by
 refine d.eQ g8 HP (fun ds Q ⟨p, kvs, kf, bs, e, _⟩ => by rw [e]; rfl) (fun f cdv A outer s H E hr => have hu := hr.units; have hh := hr.hd; have sc := g8
  (aG (ar (i := 3) sc.nd rfl (Or.inl rfl) (aR (dv 0) aB (fun _ _ => rfl)))
 (aG (bP (vq (dv 3) (ag (cF (by rfl))) (by rfl)) (aE (aM (gc (bR hu (dv 2) (bh (cF (by rfl)))) aZ bC))) aV)
 (aG (bP (vq (dv 3) (ag (cF (by rfl))) (by rfl)) (aE (aM (gc (bR hu (dv 2) (bh (cF (by rfl)))) aZ bC))) aV)
 (aG (bP (vq (dv 3) (ag (cF (by rfl))) (by rfl)) (aE (aM (gc (bR hu (wo (dv 2) (cF (by rfl))) (jI (by rfl) n_len (aA (dv 2) aD))) aZ bC))) aV)
 (aG (bP (bR hu (dv 3) aZ) (aE (aM (gc (bR hu (aR (dv 2) aB (fun _ _ => rfl)) (aR (dv 2) aB (fun _ _ => rfl))) aZ bC))) aV)
 (aG (bP (bR hu (dv 3) aZ) (aE (aM (gc (kN.td (w_and (bR hu (aR (dv 2) aB (fun _ _ => rfl)) aZ) (gI (bR hu (aR (dv 2) aB (fun _ _ => rfl)) (aR (dv 2) aB (fun _ _ => rfl)))))) (aR (dv 2) aB (fun _ _ => rfl)) bC))) aV)
 (aG (bP (bR hu (dv 3) aZ) (aE (aM (gc (bR hu (aR (dv 2) aB (fun _ _ => rfl)) (aR (dv 2) aB (fun _ _ => rfl))) (aR (dv 2) aB (fun _ _ => rfl)) bC))) aV)
 (aG (bP (kN.td (w_and (vq (dv 3) (ag (cF (by rfl))) (by rfl)) (gI (y9 hu (lS hu (dv 1) (aR (dv 0) aB (fun _ _ => rfl)) (fun _ _ => rfl)) aZ)))) (aE (aM bC)) aV)
 (aG (ar (i := 4) sc.nd rfl (Or.inl rfl) (aR (dv 0) (Bi aB) (fun _ _ => rfl)))
 (aG (bP (kN.td (w_and (vq (dv 3) (ag (cF (by rfl))) (by rfl)) (w_and (lH (dv 4) bC) (gI (y9 hu (gm (by rfl) n_isinstance (by rfl) n_bool (dv 4)) (rQ hu (aR (dv 2) aB (fun _ _ => rfl)) aZ)))))) (aE (aM bC)) aV)
 (aE (aM (aR (dv 2) aB (fun _ _ => rfl))))))))))))))) ?_
 rintro ds Q ⟨p, kvs, kf, bs, rfl, hlf, ok, nk, hl, q⟩
 cases p with
 | given v => cases hlf
 | named s => cases hlf
 | turned x =>
  obtain ⟨a, rfl⟩ := qY hl
  have q' : Q (wD (if a = true then some true else none)) := by cases a <;> exact q
  refine ⟨_, rfl, _, rfl, ⟨_, rfl, (show 3 <= sizeLine by decide), rfl, (by decide), false, congrArg D.bl (by decide +kernel), aK ⟨_, rfl, (show 2 <= sizeLine by decide), rfl, (by decide), false, congrArg D.bl (by decide +kernel), aK ⟨_, rfl, (show 3 <= sizeLine by decide), rfl, (by decide), true, congrArg D.bl (by decide +kernel), aO ⟨_, rfl, [a].map iJ, rfl, _, rfl, _, rfl, _, _, rfl, rfl, a, congrArg D.bl (G0 a), ?_⟩⟩⟩⟩⟩
  cases a
  ·exact aK q'
  ·exact aO q'
 | pair g x y =>
  obtain ⟨a, b, rfl⟩ := AR hl
  have q' : Q (wD (jV g a b)) := q
  have hg := ok.1
  simp only [cD, List.mem_cons, List.not_mem_nil, or_false] at hg
  refine ⟨_, rfl, _, rfl, ?_⟩
  rcases hg with rfl | rfl | rfl | rfl | rfl | rfl | rfl | rfl
  ·refine ⟨_, rfl, (show 3 <= sizeLine by decide), rfl, (by decide), true, congrArg D.bl (by decide +kernel), aO ⟨_, rfl, (show 2 <= sizeLine by decide), qB ⟨_, rfl, ?_⟩⟩⟩
   cases a <;> cases b <;> first | exact aO q' | exact aK q'
  ·refine ⟨_, rfl, (show 3 <= sizeLine by decide), rfl, (by decide), true, congrArg D.bl (by decide +kernel), aO ⟨_, rfl, (show 2 <= sizeLine by decide), qB ⟨_, rfl, ?_⟩⟩⟩
   cases a <;> cases b <;> first | exact aO q' | exact aK q'
  ·refine ⟨_, rfl, (show 3 <= sizeLine by decide), rfl, (by decide), true, congrArg D.bl (by decide +kernel), aO ⟨_, rfl, (show 2 <= sizeLine by decide), qB ⟨_, rfl, ?_⟩⟩⟩
   cases a <;> cases b <;> first | exact aO q' | exact aK q'
  ·refine ⟨_, rfl, (show 3 <= sizeLine by decide), rfl, (by decide), false, congrArg D.bl (by decide +kernel), aK ⟨_, rfl, (show 2 <= sizeLine by decide), rfl, (by decide), false, congrArg D.bl (by decide +kernel), aK ⟨_, rfl, (show 3 <= sizeLine by decide), rfl, (by decide), false, congrArg D.bl (by decide +kernel), aK ⟨_, rfl, true, congrArg D.bl (by decide +kernel), aO ⟨_, rfl, kD a, rfl, _, rfl, kD b, rfl, (a == b), congrArg D.bl (kU a b), ?_⟩⟩⟩⟩⟩
   cases a <;> cases b <;> first | exact aO q' | exact aK q'
  ·refine ⟨_, rfl, (show 3 <= sizeLine by decide), rfl, (by decide), false, congrArg D.bl (by decide +kernel), aK ⟨_, rfl, (show 2 <= sizeLine by decide), rfl, (by decide), true, congrArg D.bl (by decide +kernel), aO ⟨_, rfl, (show 2 <= sizeLine by decide), qB ⟨_, rfl, ?_⟩⟩⟩⟩
   cases a <;> cases b <;> first | exact aO q' | exact aK q'
  ·refine ⟨_, rfl, (show 3 <= sizeLine by decide), rfl, (by decide), false, congrArg D.bl (by decide +kernel), aK ⟨_, rfl, (show 2 <= sizeLine by decide), rfl, (by decide), true, congrArg D.bl (by decide +kernel), aO ⟨_, rfl, (show 2 <= sizeLine by decide), qB ⟨_, rfl, ?_⟩⟩⟩⟩
   cases a <;> cases b <;> first | exact aO q' | exact aK q'
  ·refine ⟨_, rfl, (show 3 <= sizeLine by decide), rfl, (by decide), false, congrArg D.bl (by decide +kernel), aK ⟨_, rfl, (show 2 <= sizeLine by decide), rfl, (by decide), false, congrArg D.bl (by decide +kernel), aK ⟨_, rfl, (show 3 <= sizeLine by decide), rfl, (by decide), true, congrArg D.bl (by decide +kernel), aO ⟨_, rfl, [a, b].map iJ, rfl, _, rfl, _, rfl, _, _, rfl, rfl, (a && b), congrArg D.bl (Eo a b), ?_⟩⟩⟩⟩
   cases a <;> cases b <;> first | exact aO q' | exact aK q'
  ·refine ⟨_, rfl, (show 3 <= sizeLine by decide), rfl, (by decide), false, congrArg D.bl (by decide +kernel), aK ⟨_, rfl, (show 2 <= sizeLine by decide), rfl, (by decide), false, congrArg D.bl (by decide +kernel), aK ⟨_, rfl, (show 3 <= sizeLine by decide), rfl, (by decide), true, congrArg D.bl (by decide +kernel), aO ⟨_, rfl, [a, b].map iJ, rfl, _, rfl, _, rfl, _, _, rfl, rfl, (a && b), congrArg D.bl (Eo a b), ?_⟩⟩⟩⟩
   cases a <;> cases b <;> first | exact aO q' | exact aK q'
 | choice x y z =>
  obtain ⟨t, a, b, rfl⟩ := FK hl
  have q' : Q (wD (if (t && (a == b)) = true then some a else none)) := q
  refine ⟨_, rfl, _, rfl, ⟨_, rfl, (show 3 <= sizeLine by decide), rfl, (by decide), false, congrArg D.bl (by decide +kernel), aK ⟨_, rfl, (show 2 <= sizeLine by decide), rfl, (by decide), false, congrArg D.bl (by decide +kernel), aK ⟨_, rfl, (show 3 <= sizeLine by decide), rfl, (by decide), false, congrArg D.bl (by decide +kernel), aK ⟨_, rfl, false, congrArg D.bl (by decide +kernel), aK ⟨_, rfl, true, congrArg D.bl (by decide +kernel), aO ⟨_, rfl, kD t, rfl, t, congrArg D.bl (c_ t), ?_⟩⟩⟩⟩⟩⟩⟩
  cases t with
  | false => exact aK (aK q')
  | true =>
   refine aO ⟨_, rfl, kD a, rfl, _, rfl, kD b, rfl, (a == b), congrArg D.bl (kU a b), ?_⟩
   rw [Bool.true_and] at q'
   cases hab : (a == b) with
   | false => rw [hab] at q'; exact aK q'
   | true => rw [hab] at q'; exact aO ⟨_, rfl, kD a, rfl, q'⟩
 | before x f =>
  obtain ⟨a, rfl⟩ := qY hl
  have q' : Q (wD (if fit f a = true then some a else none)) := q
  refine ⟨_, rfl, _, rfl, ⟨_, rfl, (show 3 <= sizeLine by decide), rfl, (by decide), false, congrArg D.bl (by decide +kernel), aK ⟨_, rfl, (show 2 <= sizeLine by decide), rfl, (by decide), false, congrArg D.bl (by decide +kernel), aK ⟨_, rfl, (show 3 <= sizeLine by decide), rfl, (by decide), false, congrArg D.bl (by decide +kernel), aK ⟨_, rfl, false, congrArg D.bl (by decide +kernel), aK ⟨_, rfl, false, congrArg D.bl (by decide +kernel), aK ⟨_, rfl, false, congrArg D.bl (by decide +kernel), aK ⟨_, rfl, (show 2 <= sizeLine by decide), rfl, (by decide), false, congrArg D.bl (by decide +kernel), aK (aK ⟨_, rfl, _, rfl, _, rfl, ?_⟩)⟩⟩⟩⟩⟩⟩⟩⟩
  refine ⟨_, rfl, (show 2 <= sizeLine by decide), rfl, (by decide), true, congrArg D.bl (by decide +kernel), aO ?_⟩
  rcases ok.2 with rfl | hv
  ·exact ⟨_, rfl, false, rfl, aK (aK ⟨_, rfl, kD a, rfl, q'⟩)⟩
  ·have e1 : fit f a = (iI f == a) := by rcases hv with ⟨c, rfl⟩ | ⟨i, rfl, _⟩ <;> rfl
   rw [e1] at q'
   refine ⟨_, rfl, true, by rcases hv with ⟨c, rfl⟩ | ⟨i, rfl, _⟩ <;> rfl, aO ⟨_, rfl, iI f, by rcases hv with ⟨c, rfl⟩ | ⟨i, rfl, _⟩ <;> rfl, _, rfl, kD a, rfl, !(iI f == a), ?_, ?_⟩⟩
   ·refine congrArg D.bl (congrArg not ?_)
    rw [c_ a]
    cases iI f <;> cases a <;> rfl
   ·cases hb : (iI f == a) with
    | false => rw [hb] at q'; exact aO q'
    | true => rw [hb] at q'; exact aK ⟨_, rfl, kD a, rfl, q'⟩
 | led x y =>
  obtain ⟨a, b, rfl⟩ := AR hl
  have q' : Q (wD (if (a == b) = true then some a else none)) := q
  refine ⟨_, rfl, _, rfl, ⟨_, rfl, (show 3 <= sizeLine by decide), rfl, (by decide), false, congrArg D.bl (by decide +kernel), aK ⟨_, rfl, (show 2 <= sizeLine by decide), rfl, (by decide), false, congrArg D.bl (by decide +kernel), aK ⟨_, rfl, (show 3 <= sizeLine by decide), rfl, (by decide), false, congrArg D.bl (by decide +kernel), aK ⟨_, rfl, false, congrArg D.bl (by decide +kernel), aK ⟨_, rfl, false, congrArg D.bl (by decide +kernel), aK ⟨_, rfl, true, congrArg D.bl (by decide +kernel), aO ⟨_, rfl, kD a, rfl, _, rfl, kD b, rfl, (a == b), congrArg D.bl (kU a b), ?_⟩⟩⟩⟩⟩⟩⟩⟩
  cases hab : (a == b) with
  | false => rw [hab] at q'; exact aK q'
  | true => rw [hab] at q'; exact aO ⟨_, rfl, kD a, rfl, q'⟩
 | bo x s =>
  obtain ⟨a, rfl⟩ := qY hl
  have q' : Q (wD (if kf s = true then some a else none)) := q
  refine ⟨_, rfl, _, rfl, ⟨_, rfl, (show 3 <= sizeLine by decide), rfl, (by decide), false, congrArg D.bl (by decide +kernel), aK ⟨_, rfl, (show 2 <= sizeLine by decide), rfl, (by decide), false, congrArg D.bl (by decide +kernel), aK ⟨_, rfl, (show 3 <= sizeLine by decide), rfl, (by decide), false, congrArg D.bl (by decide +kernel), aK ⟨_, rfl, false, congrArg D.bl (by decide +kernel), aK ⟨_, rfl, false, congrArg D.bl (by decide +kernel), aK ⟨_, rfl, false, congrArg D.bl (by decide +kernel), aK ⟨_, rfl, (show 2 <= sizeLine by decide), rfl, (by decide), true, congrArg D.bl (by decide +kernel), aO ⟨_, rfl, _, rfl, _, rfl, kvs, .inr s, kD (kf s), rfl, rfl, nk.2, !(kf s), congrArg D.bl (congrArg not (c_ _)), ?_⟩⟩⟩⟩⟩⟩⟩⟩⟩
  cases hs : kf s with
  | false => rw [hs] at q'; exact aO q'
  | true =>
   rw [hs] at q'
   exact aK ⟨_, rfl, _, rfl, _, rfl, _, rfl, (show 2 <= sizeLine by decide), rfl, (by decide), false, congrArg D.bl (by decide +kernel), aK (aK ⟨_, rfl, kD a, rfl, q'⟩)⟩
 | held x s f =>
  obtain ⟨a, rfl⟩ := qY hl
  have q' : Q (wD (if (kf s && fit f a) = true then some a else none)) := q
  refine ⟨_, rfl, _, rfl, ⟨_, rfl, (show 3 <= sizeLine by decide), rfl, (by decide), false, congrArg D.bl (by decide +kernel), aK ⟨_, rfl, (show 2 <= sizeLine by decide), rfl, (by decide), false, congrArg D.bl (by decide +kernel), aK ⟨_, rfl, (show 3 <= sizeLine by decide), rfl, (by decide), false, congrArg D.bl (by decide +kernel), aK ⟨_, rfl, false, congrArg D.bl (by decide +kernel), aK ⟨_, rfl, false, congrArg D.bl (by decide +kernel), aK ⟨_, rfl, false, congrArg D.bl (by decide +kernel), aK ⟨_, rfl, (show 2 <= sizeLine by decide), rfl, (by decide), true, congrArg D.bl (by decide +kernel), aO ⟨_, rfl, _, rfl, _, rfl, kvs, .inr s, kD (kf s), rfl, rfl, nk.2, !(kf s), congrArg D.bl (congrArg not (c_ _)), ?_⟩⟩⟩⟩⟩⟩⟩⟩⟩
  cases hs : kf s with
  | false => rw [hs] at q'; exact aO q'
  | true =>
   rw [hs, Bool.true_and] at q'
   refine aK ⟨_, rfl, _, rfl, _, rfl, _, rfl, (show 2 <= sizeLine by decide), rfl, (by decide), true, congrArg D.bl (by decide +kernel), aO ?_⟩
   rcases ok.2.2 with rfl | hv
   ·exact ⟨_, rfl, false, rfl, aK (aK ⟨_, rfl, kD a, rfl, q'⟩)⟩
   ·have e1 : fit f a = (iI f == a) := by rcases hv with ⟨c, rfl⟩ | ⟨i, rfl, _⟩ <;> rfl
    rw [e1] at q'
    refine ⟨_, rfl, true, by rcases hv with ⟨c, rfl⟩ | ⟨i, rfl, _⟩ <;> rfl, aO ⟨_, rfl, iI f, by rcases hv with ⟨c, rfl⟩ | ⟨i, rfl, _⟩ <;> rfl, _, rfl, kD a, rfl, !(iI f == a), ?_, ?_⟩⟩
    ·refine congrArg D.bl (congrArg not ?_)
     rw [c_ a]
     cases iI f <;> cases a <;> rfl
    ·cases hb : (iI f == a) with
     | false => rw [hb] at q'; exact aO q'
     | true => rw [hb] at q'; exact aK ⟨_, rfl, kD a, rfl, q'⟩
end
theorem kq : bootBuiltins "ValueError" = some (.type "ValueError") := by decide +kernel
def sV : Except (List Int) Bool -> D
 | .ok b => .tup [kD b, .aW]
 | .error e => .tup [.aW, bZ e]
def yr (n : Nat) : cY := fun ds Q => ∃ (p : Pt) (kvs : List (Key × D)) (kf : Str -> Bool) (pl : List Int), ds = [p.told, .dK kvs, bZ pl] /\ p.depth <= n /\ p.ok /\ p.nk (zJ kvs kf) /\ pl.length + n <= 100 /\ Q (sV (kx kf n p pl))
theorem HL {n : Nat} : bS (yr n) := fun ds P P' f ⟨p, kvs, kf, pl, e, d, o, k, l, q⟩ => ⟨p, kvs, kf, pl, e, d, o, k, l, f _ q⟩
theorem vR {g : Str} (h : g ∈ cD) : decide (g = "given") = false := by
 simp only [cD, List.mem_cons, List.not_mem_nil, or_false] at h
 rcases h with rfl | rfl | rfl | rfl | rfl | rfl | rfl | rfl <;> decide +kernel
theorem vS {g : Str} (h : g ∈ cD) : decide (g = "named") = false := by
 simp only [cD, List.mem_cons, List.not_mem_nil, or_false] at h
 rcases h with rfl | rfl | rfl | rfl | rfl | rfl | rfl | rfl <;> decide +kernel
theorem Ba {p : Pt} (h : p.leaf = false) (ho : p.ok) : decide (p.word = "given") = false /\ decide (p.word = "named") = false := by
 cases p with
 | given v => cases h
 | named s => cases h
 | pair g x y => exact ⟨vR ho.1, vS ho.1⟩
 | turned x => exact ⟨(show decide (("not" : Str) = "given") = false by decide +kernel), (show decide (("not" : Str) = "named") = false by decide +kernel)⟩
 | choice x y z => exact ⟨(show decide (("if" : Str) = "given") = false by decide +kernel), (show decide (("if" : Str) = "named") = false by decide +kernel)⟩
 | before x f => exact ⟨(show decide (("before" : Str) = "given") = false by decide +kernel), (show decide (("before" : Str) = "named") = false by decide +kernel)⟩
 | led x y => exact ⟨(show decide (("then" : Str) = "given") = false by decide +kernel), (show decide (("then" : Str) = "named") = false by decide +kernel)⟩
 | bo x s => exact ⟨(show decide (("when" : Str) = "given") = false by decide +kernel), (show decide (("when" : Str) = "named") = false by decide +kernel)⟩
 | held x s f => exact ⟨(show decide (("held" : Str) = "given") = false by decide +kernel), (show decide (("held" : Str) = "named") = false by decide +kernel)⟩
theorem wA (μ : Mu) (p : Pt) : bT μ p.told = p.told := by rw [p.lI]; rfl
theorem zH {a : Addr} {ds : List D} {μ : Mu} (h : μ.lookup a = some (.lst ds)) : bT μ (.adr a) = .lst ds := by simp [bT, MD.d, h]
theorem vh {f : Pt -> List Int -> Except (List Int) Bool} {pl : List Int} {i : Nat} {p : Pt} {ps : List Pt} : gR f pl i (p :: ps) = (match f p (pl ++ [(i : Int)]) with
  | .error e => .error e
  | .ok b => match gR f pl (i + 1) ps with
   | .error e => .error e
   | .ok bs => .ok (b :: bs)) := rfl
def rE (bs : List Bool) : Except (List Int) (List Bool) -> Except (List Int) (List Bool)
 | .error e => .error e
 | .ok r => .ok (bs ++ r)
section
seal wpAny
variable {P : Program} {w : World} {K : PySem.W.Frag} {mg : Str -> Option Value} {base : Heap} {A : b5} {n j : Nat}
theorem AS (d : Df K mg "_law_kind" eZ ["_law_told_here", "_law_kinds", "_law_place"]) (n_isinstance : mg "isinstance" = none) (n_bool : mg "bool" = none) (n_tuple : mg "tuple" = none) (n_enumerate : mg "enumerate" = none)
  (c__law_wanted : bK P w K mg base j "_law_wanted" ["_law_told_here", "_law_kinds", "_law_inner"] BL) (c__law_kind : bK P w K mg base j "_law_kind" ["_law_told_here", "_law_kinds", "_law_place"] (yr n)) :
  bK P w K mg base (j + 1) "_law_kind" ["_law_told_here", "_law_kinds", "_law_place"] (yr (n + 1)) := by
 refine d.Gy ja HL (fun ds Q ⟨p, kvs, kf, pl, e, _⟩ => by rw [e]; rfl) (fun f cdv A outer s H E hr => have hu := hr.units; have hh := hr.hd; have sc := ja
  (bU (nM (bR hu (aR (dv 0) aB (fun _ _ => rfl)) aZ) (d9 (aE (aM (ag (aA (gc (eN (gm (by rfl) n_isinstance (by rfl) n_bool (aR (dv 0) aB (fun _ _ => rfl)))) aZ aZ) (aA bC aD)))))) j6)
 (bU (nM (bR hu (aR (dv 0) aB (fun _ _ => rfl)) aZ) (d9 (aE (aM (ag (aA (lS hu (dv 1) (aR (dv 0) aB (fun _ _ => rfl)) (fun _ _ => rfl)) (aA bC aD)))))) j6)
 (bU (Ah (i := 3) sc.nd rfl (Or.inl rfl) aD)
 (bU (yB PassesOwn.never rfl (Cv (by rfl) n_enumerate (aA (nA (x := "_law_one") (caps := []) (cn := []) (cl := []) (m9 (by rfl) (by rfl) (by decide +kernel) (by decide +kernel) (by decide +kernel)) rfl (lj (iA (dv 0) (iq aB) l0)) (fun C fp s₂ H₂ => bw (i := 0) (show (["_law_one"] : List Str).Nodup by decide +kernel) rfl (Or.inl rfl) (.inr rfl)) (fun C fp s₂ H₂ => (EH (eN (vH (by rfl) n_isinstance (by rfl) n_tuple (dv 0))))) (fun C fp s₂ H₂ => (dv 0))) aD)) (E7 (n := 2) rfl (t7 (lg (i := 5) sc.nd rfl (Or.inl rfl)) (t7 (lg (i := 6) sc.nd rfl (Or.inl rfl)) Cs))) (bU (lD (ar (i := 7) sc.nd rfl (Or.inl rfl) (aL c__law_kind hr (by omega) (by rfl) (aA (dv 6) (aA (dv 1) (aA (bp (dv 2) (ag (aA (dv 5) aD))) aD))))))
 (bU (nM (lH (aR (dv 7) aB (fun _ _ => rfl)) bC) (d9 (aE (aM (dv 7)))) j6)
 (sH (vN (i := 3) rfl (Or.inl rfl) (aR (dv 7) aB (fun _ _ => rfl)))))))
 (jT (d9 (aG (ar (i := 4) sc.nd rfl (Or.inl rfl) (aL c__law_wanted hr (by omega) (by rfl) (aA (dv 0) (aA (dv 1) (aA (dv 3) aD)))))
 (aE (aM (ag (aA (dv 4) (aA (gc (EE (dv 4) bC) (dv 2) bC) aD))))))))))))) ?_
 rintro ds Q ⟨p, kvs, kf, pl, rfl, hd, ok, nk, hl, q⟩
 cases hlf : p.leaf with
 | true =>
  cases p with
  | given v =>
   rcases ok with ⟨c, rfl⟩ | ⟨i, rfl, _⟩
   ·exact ⟨_, rfl, _, rfl, true, congrArg D.bl (by decide +kernel), aO ⟨_, rfl, _, rfl, true, rfl, _, rfl, aO ⟨(show 2 <= sizeLine by decide), q⟩⟩⟩
   ·exact ⟨_, rfl, _, rfl, true, congrArg D.bl (by decide +kernel), aO ⟨_, rfl, _, rfl, false, rfl, _, rfl, aK ⟨(show 2 <= sizeLine by decide), q⟩⟩⟩
  | named s =>
   exact ⟨_, rfl, _, rfl, false, congrArg D.bl (by decide +kernel), aK ⟨_, rfl, _, rfl, true, congrArg D.bl (by decide +kernel), aO ⟨_, rfl, _, rfl, _, rfl, kvs, .inr s, kD (kf s), rfl, rfl, nk, (show 2 <= sizeLine by decide), q⟩⟩⟩
  | _ => cases hlf
 | false =>
  have hw := Ba hlf ok
  have hc := G1 (.str p.word) p.rest
  have et := p.lI
  rw [et]
  have a0 : L2.hZ (D.str p.word :: p.rest) 0 = some (.str p.word) := oH (i := 0) rfl
  refine ⟨_, rfl, _, a0, false, congrArg D.bl hw.1, aK ⟨_, rfl, _, a0, false, congrArg D.bl hw.2, aK ⟨(show 0 <= sizeLine by decide), fun a _ => ?_⟩⟩⟩
  have fin : ∀ i, i = 0 -> gR (kx kf n) pl 0 p.inner = rE [] (gR (kx kf n) pl i (p.inner.drop i)) := fun i hi => by
   subst hi
   rw [List.drop_zero]
   cases gR (kx kf n) pl 0 p.inner <;> rfl
  refine ⟨_, rfl, _, rfl, fun z => by rw [hc.1] at z; exact absurd z.1 (by decide), p.rest, congrArg some hc.2, fO s_ id p.rest, Ck, fun i d o h1 h2 => ?_, ?_, ?_⟩
  ·obtain ⟨hd, e⟩ := E4 h1 h2
   exact ⟨_, rfl, _, AA (vd ok d hd), _, rfl, Cm (R := fun k => mP 0 _ k) e ⟨_, rfl, rfl⟩⟩
  ·exact Nat.lt_of_le_of_lt (yj p) (by decide)
  ·rw [Cn, sW ok]
   refine ⟨_, rfl, fun i δ μ => ∃ (bs : List Bool) (x5 x6 x7 : Option D), δ = [some (.tup (.str p.word :: p.rest)), some (.dK kvs), some (bZ pl), some (.adr a), none, x5, x6, x7] /\ μ = [(a, .lst (bs.map kD))] /\ bs.length = i /\ gR (kx kf n) pl 0 p.inner = rE bs (gR (kx kf n) pl i (p.inner.drop i)), ⟨[], none, none, none, rfl, rfl, rfl, fin 0 rfl⟩, ?_, ?_⟩
   ·rintro i dd δ μ hdd ⟨bs, x5, x6, x7, rfl, rfl, hbl, hseq⟩
    rw [lA, List.getElem?_map] at hdd
    cases hq : p.inner[i]? with
    | none => rw [hq] at hdd; cases hdd
    | some r =>
     rw [hq] at hdd
     have edd : D.tup [.int ((0 + i : Nat) : Int), r.told] = dd := by simpa using hdd
     subst edd
     have hr := List.mem_of_getElem? hq
     have ed : p.inner.drop i = r :: p.inner.drop (i + 1) := by
      have hi := List.getElem?_eq_some_iff.mp hq
      rw [List.drop_eq_getElem_cons hi.1, hi.2]
     rw [ed] at hseq
     have hi0 : ((0 + i : Nat) : Int) = (i : Int) := by omega
     rw [hi0]
     refine ⟨_, rfl, rfl, _, _, rfl, _, _, rfl, rfl, ?_⟩
     refine ⟨_, rfl, _, rfl, _, rfl, _, rfl, (show 1 <= sizeLine by decide), ?_, r, kvs, kf, pl ++ [(i : Int)], ?_, p.fV hr hd, Pt.yH hr ok, Pt.Bt hr nk, ?_, ?_⟩
     ·rw [List.length_map]
      exact Nat.le_trans (show pl.length + 1 <= 101 by omega) (by decide)
     ·rw [mD]
     ·rw [List.length_append, List.length_singleton]; omega
     ·rw [vh] at hseq
      cases h1 : kx kf n r (pl ++ [(i : Int)]) with
      | error e =>
       rw [h1] at hseq
       refine ⟨_, rfl, bZ e, rfl, true, rfl, aO ⟨_, rfl, ?_⟩⟩
       have eq : kx kf (n + 1) p pl = .error e := by unfold kx; rw [hseq]; rfl
       rw [eq] at q
       exact q
      | ok b =>
       rw [h1] at hseq
       refine ⟨_, rfl, .aW, rfl, false, rfl, aK ⟨a, bs.map kD, rfl, (by simp [List.lookup]), ?_, _, rfl, kD b, rfl, bs ++ [b], _, _, _, rfl, ?_, ?_, ?_⟩⟩
       ·rw [List.length_map, hbl]
        have := p.fW
        have hi := (List.getElem?_eq_some_iff.mp hq).1
        exact Nat.lt_of_lt_of_le (show i < 4 by omega) (by decide)
       ·simp [ky]
       ·rw [List.length_append, hbl]; rfl
       ·rw [hseq]
        cases h2 : gR (kx kf n) pl (i + 1) (p.inner.drop (i + 1)) with
        | error e => rfl
        | ok rs =>
         show rE bs (.ok (b :: rs)) = rE (bs ++ [b]) (.ok rs)
         unfold rE
         simp
   ·rintro δ μ ⟨bs, x5, x6, x7, rfl, rfl, hbl, hseq⟩
    rw [jL, List.length_map] at hbl hseq
    rw [List.drop_length] at hseq
    have hseq' : gR (kx kf n) pl 0 p.inner = .ok bs := by
     rw [hseq]
     show Except.ok (bs ++ []) = Except.ok bs
     rw [List.append_nil]
    have ev : cX [(a, .lst (bs.map kD))] [some (.tup (.str p.word :: p.rest)), some (.dK kvs), some (bZ pl), some (.adr a), none, x5, x6, x7] = [some (.tup (.str p.word :: p.rest)), some (.dK kvs), some (bZ pl), some (.lst (bs.map kD)), none, x5.map (bT [(a, .lst (bs.map kD))]), x6.map (bT [(a, .lst (bs.map kD))]), x7.map (bT [(a, .lst (bs.map kD))])] := by
     unfold cX
     simp only [List.map_cons, List.map_nil, Option.map_some, Option.map_none]
     rw [zH (ds := bs.map kD) (by simp [List.lookup])]
     rfl
    unfold uC
    dsimp only
    rw [ev]
    refine ⟨_, rfl, _, rfl, _, rfl, p, kvs, kf, bs, (by rw [et]), hlf, ok, nk, hbl, ?_⟩
    cases ho : p.own kf bs with
    | none =>
     have eq : kx kf (n + 1) p pl = .error pl := by unfold kx; rw [hseq']; dsimp only; rw [ho]
     rw [eq] at q
     exact ⟨_, rfl, _, rfl, true, rfl, aO ⟨_, rfl, (show 2 <= sizeLine by decide), q⟩⟩
    | some b =>
     have eq : kx kf (n + 1) p pl = .ok b := by unfold kx; rw [hseq']; dsimp only; rw [ho]
     rw [eq] at q
     exact ⟨_, rfl, _, rfl, false, rfl, aK ⟨(show 2 <= sizeLine by decide), q⟩⟩
theorem xm (d : Df K mg "_law_kind" eZ ["_law_told_here", "_law_kinds", "_law_place"]) (n_isinstance : mg "isinstance" = none) (n_bool : mg "bool" = none) (n_tuple : mg "tuple" = none) (n_enumerate : mg "enumerate" = none)
  (c1 : bK P w K mg base j "_law_wanted" ["_law_told_here", "_law_kinds", "_law_inner"] BL) : ∀ n, bK P w K mg base (j + n) "_law_kind" ["_law_told_here", "_law_kinds", "_law_place"] (yr n)
 | 0 => Df.never d fun ds Q ⟨p, _, _, _, _, h, _⟩ => absurd p.iB (by omega)
 | n + 1 => AS (j := j + n) d n_isinstance n_bool n_tuple n_enumerate (c1.up (by omega)) (xm d n_isinstance n_bool n_tuple n_enumerate c1 n)
end
structure IH (K : PySem.W.Frag) (nk nb np : Addr) : Prop where
 ty : gU K nk
 two : PySem.W.kitAny K (.ref nk) [.ref nb, .ref np] = some false
 one : PySem.W.kitOne K (.ref nk) (.ref nk) = some true
 ve : PySem.W.kitOne K (.ref nk) (.type "ValueError") = some true
 pg : fA K nk
 hd : PySem.W.hasDictIn K nk = true
 f1 : PySem.W.findIn K (.ref nk) "row" = some none
 f2 : PySem.W.findIn K (.ref nk) "place" = some none
def D9 (A : b5) (n : Nat) : mw := fun ds Q _ => ∃ (p : Pt) (kvs : List (Key × D)) (kf : Str -> Bool) (pl : List Int), ds = [p.d A, .dK kvs, bZ pl] /\ p.depth <= n /\ p.ok /\ p.nk (zJ kvs kf) /\ pl.length + n <= 100 /\ Q (sV (kx kf n p pl))
theorem HM {A : b5} {n : Nat} : jD (D9 A n) := fun ds P P' R R' f g ⟨p, kvs, kf, pl, e, d, o, k, l, q⟩ => ⟨p, kvs, kf, pl, e, d, o, k, l, f _ q⟩
section
seal wpAny
variable {P : Program} {w : World} {K : PySem.W.Frag} {mg : Str -> Option Value} {base : Heap} {A : b5} {n j : Nat} {nk nb np cR : Addr}
theorem CU (d : Df K mg "_law_told" gz ["_law_part", "_law_kinds", "_law_place"]) (i_RowError : mg "RowError" = some (.ref cR)) (hk : PySem.W.kitCls K (.ref nk) (.ref cR) = some true) (be_RowError : PySem.W.mroIn K cR (.type "BaseException") = some true)
  (n_isinstance : mg "isinstance" = none) (n_ValueError : mg "ValueError" = none) (i_NoBeat : mg "NoBeat" = some (.ref nb)) (i_NoPart : mg "NoPart" = some (.ref np)) (i_NoKind : mg "NoKind" = some (.ref nk)) (ex : IH K nk nb np)
  (mx_kind_by : ∀ C, lC A C -> lM P w K mg base j C "kind_by" (vp A nk n C)) : ud P w K mg base (j + 1) "_law_told" ["_law_part", "_law_kinds", "_law_place"] (D9 A n) := by
 have hit_RowError : ∀ C, C = nk -> PySem.W.kitCls K (.ref C) (.ref cR) = some true := fun C e => e ▸ hk
 refine d.El jc HM (fun ds Q R ⟨p, kvs, kf, pl, e, _⟩ => by rw [e]; rfl) (fun f cdv A outer s H E R hr hx => have hu := hr.units; have hh := hr.hd; have sc := jc
  (zu (Cp (i := 3) rfl rfl rfl sc.nd rfl rfl (by rfl) i_RowError hit_RowError be_RowError (fun pins E' xk hx => (aE (aM (ag (aA (Eu hx mx_kind_by hr (by omega) (dv 0) (aA (dv 1) (aA (dv 2) aD))) (aA bC aD))))))
 (fun ea => (aG (bP (kN.td (w_or (eN (zd K rfl (dv 3) (by rfl) n_isinstance (by rfl) i_NoBeat (by rfl) i_NoPart)) (w_or (mL (eN (ze K rfl (dv 3) (by rfl) n_isinstance (by rfl) i_NoKind))) (js (mL (eN (zf K rfl (dv 3) (by rfl) n_isinstance (by rfl) n_ValueError kq))))))) (aE (aM (ag (cF (by rfl))))) aV)
 (aE (aM (gc (EE (wq K rfl (dv 3) (by rfl)) bC) (ag (aA bC (aA (wq K rfl (dv 3) (by rfl)) aD))) (ag (cF (by rfl)))))))))
 (Co aV))) ?_
 rintro ds Q R ⟨p, kvs, kf, pl, rfl, hd, ok, nk', hl, q⟩
 obtain ⟨gs, e1, e2⟩ := jU A qd p
 refine ⟨fun δ C (gs : List (Str × D)) => C = nk /\ δ = bM ["_law_part", "_law_kinds", "_law_place", "e"] [p.d A, .dK kvs, bZ pl] /\ ∃ e, gs = ([("row", .aW), ("place", bZ e)] : List (Str × D)) /\ kx kf n p pl = .error e, ?_, ?_⟩
 ·rintro δ C gs ⟨rfl, rfl, e, rfl, he⟩
  refine ⟨rfl, fun a => ?_⟩
  rw [he] at q
  refine ⟨_, rfl, a, _, _, false, rfl, ex.ty, ex.two, false, rfl, aK ⟨_, rfl, a, _, _, true, rfl, ex.ty, ex.one, true, rfl, aK ⟨_, rfl, a, _, _, true, rfl, ex.ty, ex.ve, true, rfl, aK ?_⟩⟩⟩
  exact ⟨_, rfl, a, _, _, .aW, rfl, ex.pg, ex.hd, ex.f1, rfl, true, rfl, aO ⟨_, rfl, a, _, _, bZ e, rfl, ex.pg, ex.hd, ex.f2, rfl, (show 2 <= sizeLine by decide), q⟩⟩
 ·refine ⟨_, rfl, p.cls A, gs, e1, e2, ⟨p, rfl⟩, _, rfl, _, rfl, p, kvs, kf, pl, rfl, rfl, hd, ok, nk', hl, ?_⟩
  cases h : kx kf n p pl with
  | ok b =>
   rw [h] at q
   exact ⟨(show 2 <= sizeLine by decide), q⟩
  | error e => exact ⟨rfl, rfl, e, rfl, rfl⟩
end
theorem nW {t u : jw} {E : lL} {δ : SD} {μ : Mu} (I : SD -> Mu -> Prop) (hI : ∀ δ' μ', I δ' μ' -> u E δ' μ') (hA : ∀ N : SD -> Mu -> Prop, (∀ δ' μ', I δ' μ' -> N δ' μ') -> t { E with nx := N } δ μ) : DF t u E δ μ := hA (u E) hI
theorem pP {neg : Bool} {d : D} {Q : D -> Prop} (e : oW d d = none) (p : DC.plain d = true) (c : (kJ d).canLay0 = true) (hs : (kJ d).depth <= 64) (q : Q (.bl (!neg))) : wF neg d d Q := by
 have s : SeqAt.shaped (kJ d) = true := by unfold SeqAt.shaped; rw [c, decide_eq_true hs]; rfl
 have ev : PyData.eqv (kJ d) (kJ d) = true := SeqAt.eqv_refl _ c
 unfold wF
 rw [e]
 refine ⟨p, p, s, s, ?_⟩
 rw [ev]
 cases neg <;> exact q
def pY (kvs : List (Key × D)) : Prop := ∀ p ∈ kvs, ∃ b, p.2 = kD b
theorem Ac {kvs : List (Key × D)} {k : Key} {v : D} {p : Key × D} (h : p ∈ eE kvs k v) : p ∈ kvs \/ p.2 = v := by
 unfold eE at h
 split at h
 ·obtain ⟨q, hq, rfl⟩ := List.mem_map.mp h
  by_cases e : q.1 = k
  ·rw [if_pos e]; exact .inr rfl
  ·rw [if_neg e]; exact .inl hq
 ·rcases List.mem_append.mp h with h | h
  ·exact .inl h
  ·rw [List.mem_singleton.mp h]; exact .inr rfl
theorem pY.put {kvs : List (Key × D)} {k : Key} (h : pY kvs) (b : Bool) : pY (eE kvs k (kD b)) := fun p hp => by
 rcases Ac hp with hp | hp
 ·exact h p hp
 ·exact ⟨b, hp⟩
theorem uO (kvs : List (Key × D)) (k : Key) (v : D) : (eE kvs k v).length <= kvs.length + 1 := by
 unfold eE
 split
 ·rw [List.length_map]; omega
 ·rw [List.length_append, List.length_singleton]; omega
theorem xS {kvs : List (Key × D)} {k : Key} {r : D} (h : mf kvs k = some r) : ∃ p ∈ kvs, p.2 = r := by
 unfold mf at h
 cases e : kvs.find? (fun kv => decide (kv.1 = k)) with
 | none => rw [e] at h; cases h
 | some p => rw [e] at h; exact ⟨p, List.mem_of_find?_eq_some e, by simpa using h⟩
def iH (kvs : List (Key × D)) (x : Str) : Prop := (mf kvs (.inr x)).isSome = true
theorem kT (kvs : List (Key × D)) (k : Key) : (mf kvs k).isSome = kvs.any fun kv => decide (kv.1 = k) := by
 unfold mf
 rw [Option.isSome_map]
 cases h : kvs.any fun kv => decide (kv.1 = k) with
 | true =>
  obtain ⟨p, hp, e⟩ := List.any_eq_true.mp h
  rw [List.find?_isSome]
  exact ⟨p, hp, e⟩
 | false =>
  cases h2 : (kvs.find? fun kv => decide (kv.1 = k)) with
  | none => rfl
  | some p =>
   have := List.find?_some h2
   have hm := List.mem_of_find?_eq_some h2
   have : (kvs.any fun kv => decide (kv.1 = k)) = true := List.any_eq_true.mpr ⟨p, hm, this⟩
   rw [h] at this
   cases this
theorem any_put (kvs : List (Key × D)) (k j : Key) (v : D) (h : j = k \/ (kvs.any fun kv => decide (kv.1 = j)) = true) : ((eE kvs k v).any fun kv => decide (kv.1 = j)) = true := by
 unfold eE
 split
 ·rename_i hk
  have : (kvs.any fun kv => decide (kv.1 = j)) = true := by
   rcases h with h | h
   ·rw [h]; exact hk
   ·exact h
  obtain ⟨p, hp, e⟩ := List.any_eq_true.mp this
  refine List.any_eq_true.mpr ⟨if p.1 = k then (p.1, v) else p, List.mem_map.mpr ⟨p, hp, rfl⟩, ?_⟩
  split <;> exact e
 ·rw [List.any_append]
  rcases h with h | h
  ·rw [Bool.or_eq_true]
   refine .inr ?_
   subst h
   simp
  ·rw [h]; rfl
theorem iH.same (kvs : List (Key × D)) (x : Str) (v : D) : iH (eE kvs (.inr x) v) x := by
 unfold iH
 rw [kT]
 exact any_put _ _ _ _ (.inl rfl)
theorem iH.put {kvs : List (Key × D)} {x : Str} (h : iH kvs x) (k : Key) (v : D) : iH (eE kvs k v) x := by
 unfold iH at h ⊢
 rw [kT] at h ⊢
 exact any_put _ _ _ _ (.inr h)
def qW (kvs : List (Key × D)) (x : Str) : Bool := match mf kvs (.inr x) with
 | some (.str z) => decide (z = "truth")
 | _ => false
theorem CH {kvs : List (Key × D)} {x : Str} (h : pY kvs) (hx : iH kvs x) : zJ kvs (qW kvs) x := by
 unfold zJ qW
 unfold iH at hx
 obtain ⟨r, e⟩ := Option.isSome_iff_exists.mp hx
 obtain ⟨p, hp, rfl⟩ := xS e
 obtain ⟨b, hb⟩ := h p hp
 rw [e, hb]
 show some (kD b) = some (kD (decide (iJ b = "truth")))
 rw [c_]
theorem Pt.dJ {g g' : Str -> Prop} (f : ∀ x, g x -> g' x) : ∀ {p : Pt}, p.nk g -> p.nk g'
 | .given _, h => h
 | .named n, h => f n h
 | .turned p, h => Pt.dJ (p := p) f h
 | .pair _ a b, h => ⟨Pt.dJ (p := a) f h.1, Pt.dJ (p := b) f h.2⟩
 | .choice t a b, h => ⟨Pt.dJ (p := t) f h.1, Pt.dJ (p := a) f h.2.1, Pt.dJ (p := b) f h.2.2⟩
 | .before p _, h => Pt.dJ (p := p) f h
 | .led a b, h => ⟨Pt.dJ (p := a) f h.1, Pt.dJ (p := b) f h.2⟩
 | .bo p n, h => ⟨Pt.dJ (p := p) f h.1, f n h.2⟩
 | .held p n _, h => ⟨Pt.dJ (p := p) f h.1, f n h.2⟩
theorem zW {kvs : List (Key × D)} (h : pY kvs) : valsOk kvs := fun p hp => by
 obtain ⟨b, e⟩ := h p hp
 rw [e]
 cases b <;> exact ⟨rfl, by decide +kernel⟩
theorem kk (z : Int) : ∃ b, L2.hZ [D.str "truth", .str "number"] (z % 2) = some (kD b) := by
 obtain ⟨r, hr, er⟩ := bL (xs := [D.str "truth", .str "number"]) (bJ z (show (0 : Int) < 2 by decide)) (bI z (show (0 : Int) < 2 by decide))
 simp only [List.mem_cons, List.not_mem_nil, or_false] at hr
 rcases hr with rfl | rfl
 ·exact ⟨true, er⟩
 ·exact ⟨false, er⟩
theorem qT : ∀ (pl : List Int), PyData.canLayAll0 (kK (pl.map D.int)) = true /\ fG (pl.map D.int) = true /\ PyData.depthAll (kK (pl.map D.int)) = 0
 | [] => ⟨rfl, rfl, rfl⟩
 | i :: pl => by
  obtain ⟨h1, h2, h3⟩ := qT pl
  rw [List.map_cons, kK, kJ]
  refine ⟨?_, ?_, ?_⟩
  ·rw [PyData.canLayAll0, h1, PyData.canLay0]; rfl
  ·rw [fG, h2, show DC.plain (.int i) = true by simp [DC.plain]]; rfl
  ·rw [PyData.depthAll, h3, PyData.depth]; rfl
theorem yi {neg : Bool} {r : Except (List Int) Bool} {Q : D -> Prop} (q : Q (.bl (!neg))) : wF neg (sV r) (sV r) Q := by
 cases r with
 | ok b =>
  cases b
  ·exact pP rfl rfl (by decide +kernel) (by decide +kernel) q
  ·exact pP rfl rfl (by decide +kernel) (by decide +kernel) q
 | error e =>
  obtain ⟨h1, h2, h3⟩ := qT e
  have ep : kJ (sV (.error e)) = .tuple [.none, .tuple (kK (e.map D.int))] := by
   unfold sV bZ
   rw [kJ, kK, kK, kK, kJ, kJ]
  refine pP rfl ?_ ?_ ?_ q
  ·unfold sV bZ
   rw [DC.plain, fG, fG, fG, show DC.plain .aW = true by simp [DC.plain], DC.plain, h2]
   rfl
  ·rw [ep, PyData.canLay0, PyData.canLayAll0, PyData.canLayAll0, PyData.canLayAll0, PyData.canLay0, PyData.canLay0, h1]
   rfl
  ·rw [ep, PyData.depth, PyData.depthAll, PyData.depthAll, PyData.depthAll, PyData.depth, PyData.depth, h3]
   decide
def GA : mw := fun ds Q _ => ∃ ns : List Int, ds = [.lst (ns.map D.int)] /\ Q (.bl true)
section
seal wpAny
variable {P : Program} {w : World} {K : PySem.W.Frag} {mg : Str -> Option Value} {base : Heap} {A : b5} {n j : Nat}
theorem DT {f : Addr} {fd : FuncData} (F : rG K "law" "law" g5 f fd) (n_range : mg "range" = none) (n_tuple : mg "tuple" = none) (n_dict : mg "dict" = none) (c__law_mixed : bK P w K mg base j "_law_mixed" ["_law_cell", "_law_k"] jj) (c__law_cell_at : bK P w K mg base j "_law_cell_at" ["_law_script", "_law_k"] yo)
  (c__law_names : bK P w K mg base j "_law_names" ["_law_cell", "_law_many"] uQ) (c__law_tree : bK P w K mg base j "_law_tree" ["_law_cell", "_law_names_here", "_law_deep"] (mI 4))
  (c__law_typed : bK P w K mg base j "_law_typed" ["_law_cell", "_law_names_here", "_law_kind_here", "_law_beat", "_law_deep"] (jk 4)) (c_part_of : bK P w K mg base j "part_of" ["told"] (vg A 4))
  (cx__law_told : ud P w K mg base j "_law_told" ["_law_part", "_law_kinds", "_law_place"] (D9 A 4)) (c__law_kind : bK P w K mg base j "_law_kind" ["_law_told_here", "_law_kinds", "_law_place"] (yr 4)) :
  bX P w K mg base (mn P w) (j + 1) f fd ["_law_script"] (BP K GA) := by
 refine Fi F ym (fun ds Q R ⟨ns, e, _⟩ => by rw [e]; rfl) (fun f cdv A outer s H E R hr hx => have hu := hr.units; have hh := hr.hd; have sc := ym
  (bU (lD (ar (i := 1) sc.nd rfl (Or.inr rfl) (aL c__law_cell_at hr (by omega) (by rfl) (aA (dv 0) (aA aB aD)))))
 (bU (lD (ar (i := 2) sc.nd rfl (Or.inr rfl) (aL c__law_names hr (by omega) (by rfl) (aA (aL c__law_cell_at hr (by omega) (by rfl) (aA (dv 0) (aA aB aD))) (aA aB aD)))))
 (bU (uH (i := 3) sc.nd rfl (Or.inl rfl) zt)
 (bU (yB PassesOwn.leaving rfl (fU (by rfl) n_range (aA aB aD)) (lg (i := 4) sc.nd rfl (Or.inl rfl)) (bU (uG (i := 3) hu rfl (Or.inl rfl) (aR (dv 2) (dv 4) (fun _ _ => rfl)) (aR (bh (cF (by rfl))) (dv 4) (fun _ _ => rfl)))
 (sH (nM (bR hu (av (bG (aL c__law_mixed hr (by omega) (by rfl) (aA (aL c__law_cell_at hr (by omega) (by rfl) (aA (dv 0) (aA aB aD))) (aA (dv 4) aD))) aB) aB) aB) (sH (uG (i := 3) hu rfl (Or.inl rfl) (aR (dv 2) (dv 4) (fun _ _ => rfl)) (aR (bh (cF (by rfl))) (av (bG (aL c__law_mixed hr (by omega) (by rfl) (aA (aL c__law_cell_at hr (by omega) (by rfl) (aA (dv 0) (aA aB aD))) (aA (bp aB (dv 4)) aD))) aB) aB) (fun _ _ => rfl)))) j6))))
 (jT (bU (lD (ar (i := 5) sc.nd rfl (Or.inl rfl) (aL c__law_tree hr (by omega) (by rfl) (aA (dv 1) (aA (dv 2) (aA aB aD))))))
 (bU (nM (y7 (av (bG (aL c__law_mixed hr (by omega) (by rfl) (aA (dv 1) (aA aB aD))) aB) aB) aB) (d9 (aE (ar (i := 5) sc.nd rfl (Or.inl rfl) (aL c__law_typed hr (by omega) (by rfl) (aA (dv 1) (aA (dv 2) (aA (aR (bh (cF (by rfl))) (av (dv 1) aB) (fun _ _ => rfl)) (aA (av (bG (aL c__law_mixed hr (by omega) (by rfl) (aA (dv 1) (aA aB aD))) aB) aB) (aA aB aD))))))))) j6)
 (bU (nM (bR hu (av (bG (aL c__law_mixed hr (by omega) (by rfl) (aA (dv 1) (aA aB aD))) aB) aB) aB) (bU (uH (i := 9) sc.nd rfl (Or.inr rfl) (E5 (x := "_law_k") (caps := [1]) (cn := ["_law_cell"]) (cl := [("_law_cell", s.heap.objs.size + 1)]) (pf (by rfl) (by rfl) (by decide +kernel) (jP ["_law_cell"] rfl (by decide +kernel)) (by decide +kernel) (bQ (by rfl) fR) (.cons ⟨rfl, .inl rfl, rfl⟩ .nil)) rfl (fU (by rfl) n_range (aA aB aD)) (fun C fp s₂ H₂ => bw (i := 0) (show (["_law_k", "_law_cell"] : List Str).Nodup by decide +kernel) rfl (Or.inl rfl) (.inr rfl)) (fun C fp s₂ H₂ => fM) (fun C fp s₂ H₂ => (aR (bh (cF (by rfl))) (av (bG (aL c__law_mixed hr (by omega) (by rfl) (aA (dv 1) (aA (bp aB (dv 0)) aD))) aB) aB) (fun _ _ => rfl)))))
 (bU (Ag (i := 9) rfl (Or.inr (Or.inl rfl)) aB (aR (bh (aA aZ (aA (aR (dv 9) aB (fun _ _ => rfl)) aD))) (av (bG (aL c__law_mixed hr (by omega) (by rfl) (aA (dv 1) (aA aB aD))) aB) aB) (fun _ _ => rfl)))
 (jT (d9 (aG (F8 (i := 10) rfl rfl hx sc.nd rfl (Or.inl rfl) (x := "_law_k") (caps := [2, 1, 9]) (cn := ["_law_names_here", "_law_cell", "_law_some"]) (cl := [("_law_some", s.heap.objs.size + 3), ("_law_names_here", s.heap.objs.size + 2), ("_law_cell", s.heap.objs.size + 1)]) (pf (by rfl) (by rfl) (by decide +kernel) (jP ["_law_some", "_law_names_here", "_law_cell"] rfl (by decide +kernel)) (by decide +kernel) (bQ (by rfl) (bQ (by rfl) (bQ (by rfl) fR))) (.cons ⟨rfl, .inl rfl, rfl⟩ (.cons ⟨rfl, .inl rfl, rfl⟩ (.cons ⟨rfl, .inl rfl, rfl⟩ .nil)))) rfl (fU (by rfl) n_range (aA aB aD)) (fun C fp s₂ H₂ => bw (i := 0) (show (["_law_k", "_law_names_here", "_law_cell", "_law_some"] : List Str).Nodup by decide +kernel) rfl (Or.inl rfl) (.inr rfl)) (fun C fp s₂ H₂ => fM) (fun C fp s₂ H₂ => (aL c__law_typed hr (by omega) (by rfl) (aA (aL c__law_mixed hr (by omega) (by rfl) (aA (dv 2) (aA (bp aB (dv 0)) aD))) (aA (dv 1) (aA (aR (dv 3) (dv 0) (fun _ _ => rfl)) (aA aB (aA aB aD))))))))
 (aG (ar (i := 11) sc.nd rfl (Or.inl rfl) (av (bG (aL c__law_mixed hr (by omega) (by rfl) (aA (dv 1) (aA aB aD))) aB) aB))
 (aE (ar (i := 5) sc.nd rfl (Or.inl rfl) (aR (bh (aA (bp (ag (cF (by rfl))) (ig (by rfl) n_tuple (aA (dv 10) aD))) (aA (bp (ag (cF (by rfl))) (ig (by rfl) n_tuple (aA (iA (dv 10) l0 (iq aB)) aD))) (aA (bp (ag (cF (by rfl))) (ig (by rfl) n_tuple (aA (iA (dv 10) l0 (iq aB)) aD))) aD)))) (dv 11) (fun _ _ => rfl)))))))))) j6)
 (jT (d9 (aG (ar (i := 6) sc.nd rfl (Or.inl rfl) (uq (by rfl) n_dict (aA (dv 3) aD)))
 (aG (ar (i := 7) sc.nd rfl (Or.inl rfl) (aL c_part_of hr (by omega) (by rfl) (aA (dv 5) aD)))
 (aG (B4 PassesOwn.leaving rfl (lj (bh (aA (ag aD) (aA (ag (cF (by rfl))) aD)))) (lg (i := 8) sc.nd rfl (Or.inl rfl)) (aE (bP (kN.td (w_or (y9 hu (wm hx cx__law_told hr (by omega) (by rfl) (aA (dv 7) (aA (dv 6) (aA (dv 8) aD)))) (aL c__law_kind hr (by omega) (by rfl) (aA (dv 5) (aA (dv 3) (aA (dv 8) aD))))) (js (GQ hr (dv 6) (dv 3))))) (aE (aM CY)) aV)))
 (aE (aM (rQ hu (wm hx cx__law_told hr (by omega) (by rfl) (aA (dv 7) (aA (dv 6) (aA (ag aD) aD)))) (aL c__law_kind hr (by omega) (by rfl) (aA (dv 5) (aA (dv 3) (aA (ag aD) aD))))))))))))))))))))) ?_
 rintro ds Q R ⟨ns, rfl, q⟩
 refine ⟨_, rfl, ns, 1, rfl, (by decide), fun c => ?_⟩
 refine ⟨_, rfl, ns, 0, rfl, (by decide), fun c0 => ⟨c0, 8, rfl, (by decide), (by decide), fun l hl ho => fun a _ => ?_⟩⟩
 have hne : l ≠ [] := fun z => by rw [z] at hl; cases hl
 have at8 : ∀ i : Nat, i < 8 -> ∃ x, l[i]? = some x /\ x ∈ l /\ L2.hZ (l.map D.str) (0 + (i : Int)) = some (.str x) := fun i hi => by
  have hlt : i < l.length := by omega
  refine ⟨l[i], List.getElem?_eq_getElem hlt, List.getElem_mem hlt, ?_⟩
  rw [Int.zero_add]
  exact oH (by rw [List.getElem?_map, List.getElem?_eq_getElem hlt]; rfl)
 have k8 : ∀ i : Nat, i < 8 -> ∃ b, L2.hZ [D.str "truth", .str "truth", .str "truth", .str "number", .str "number", .str "number", .str "number", .str "truth"] (0 + (i : Int)) = some (kD b) := fun i hi => by
  match i, hi with
  | 0, _ => exact ⟨true, rfl⟩
  | 1, _ => exact ⟨true, rfl⟩
  | 2, _ => exact ⟨true, rfl⟩
  | 3, _ => exact ⟨false, rfl⟩
  | 4, _ => exact ⟨false, rfl⟩
  | 5, _ => exact ⟨false, rfl⟩
  | 6, _ => exact ⟨false, rfl⟩
  | 7, _ => exact ⟨true, rfl⟩
 refine ⟨8, rfl, (by decide), (by decide), fun i δ μ => ∃ (kvs : List (Key × D)) (x4 : Option D), δ = [some (.lst (ns.map D.int)), some (.int c), some (.lst (l.map D.str)), some (.adr a), x4, none, none, none, none, none, none, none] /\ μ = [(a, .dK kvs)] /\ kvs.length <= 2 * i /\ pY kvs /\ i <= 8 /\ ∀ (m : Nat) (x : Str), m < i -> l[m]? = some x -> iH kvs x, ?_, ?_, ?_⟩
 ·exact ⟨[], none, rfl, rfl, Nat.le_refl _, (fun p hp => nomatch hp), (by decide), fun m x hm => absurd hm (by omega)⟩
 ·rintro i dd δ μ hdd ⟨kvs, x4, rfl, rfl, hlen, hall, hi8, hhas⟩
  have hlt : i < 8 := by
   have := (List.getElem?_eq_some_iff.mp hdd).1
   simpa using this
  have hdd' : D.int (0 + (i : Int)) = dd := by
   rw [List.getElem?_map, show (8 : Int).toNat = 8 from rfl, List.getElem?_range hlt] at hdd
   simpa using hdd
  subst hdd'
  obtain ⟨x, ex, hx, eix⟩ := at8 i hlt
  obtain ⟨b, eb⟩ := k8 i hlt
  have hlk : ∀ (m : MD), List.lookup a [(a, m)] = some m := fun m => by simp [List.lookup]
  have hpt : ∀ (m m' : MD), ky a m' [(a, m)] = [(a, m')] := fun m m' => by simp [ky]
  have hl1 := uO kvs (.inr x) (kD b)
  refine ⟨(show 8 <= sizeLine by decide), _, rfl, _, eb, a, kvs, rfl, hlk _, Nat.lt_of_le_of_lt (show kvs.length <= 16 by omega) (by decide), _, rfl, _, rfl, .str x, eix, .inr x, rfl, ?_⟩
  rw [hpt]
  refine ⟨_, rfl, ns, 2, rfl, (by decide), fun c2 => ⟨_, rfl, _, _, rfl, cd (by decide) (by decide), (show (0 : Int) < 12 by decide), _, rfl, ?_⟩⟩
  have fin : ∀ kvs' : List (Key × D), kvs'.length <= kvs.length + 2 -> pY kvs' -> (∀ y, iH kvs y -> iH kvs' y) -> iH kvs' x -> ∃ (kvs2 : List (Key × D)) (x4 : Option D), [some (.lst (ns.map D.int)), some (.int c), some (.lst (l.map D.str)), some (.adr a), some (D.int (0 + (i : Int))), none, none, none, none, none, none, none] = [some (.lst (ns.map D.int)), some (.int c), some (.lst (l.map D.str)), some (.adr a), x4, none, none, none, none, none, none, none] /\ [(a, MD.dK kvs')] = [(a, .dK kvs2)] /\ kvs2.length <= 2 * (i + 1) /\ pY kvs2 /\ i + 1 <= 8 /\ ∀ (m : Nat) (x : Str), m < i + 1 -> l[m]? = some x -> iH kvs2 x := fun kvs' h1 h2 h3 h4 =>
   ⟨kvs', _, rfl, rfl, by omega, h2, by omega, fun m y hm hy => by
    by_cases hmi : m = i
    ·subst hmi
     rw [ex] at hy
     cases hy
     exact h4
    ·exact h3 y (hhas m y (by omega) hy)⟩
  cases h12 : decide (mixed c2 (0 + (i : Int)) / 7 % 12 = 0) with
  | true =>
   refine aO ?_
   refine ⟨(show 2 <= sizeLine by decide), _, rfl, ns, 2, rfl, (by decide), fun c3 => ?_⟩
   obtain ⟨b2, eb2⟩ := kk (mixed c3 (20 + (0 + (i : Int))) / 7)
   refine ⟨_, rfl, _, _, rfl, cd (by decide) (by decide), (show (0 : Int) < 2 by decide), _, eb2, a, eE kvs (.inr x) (kD b), rfl, hlk _, Nat.lt_of_le_of_lt (show (eE kvs (.inr x) (kD b)).length <= 17 by omega) (by decide), _, rfl, _, rfl, .str x, eix, .inr x, rfl, ?_⟩
   rw [hpt]
   have hl2 := uO (eE kvs (.inr x) (kD b)) (.inr x) (kD b2)
   exact fin _ (by omega) ((hall.put b).put b2) (fun y hy => (hy.put _ _).put _ _) (iH.same _ _ _)
  | false => exact aK (fin _ (by omega) (hall.put b) (fun y hy => hy.put _ _) (iH.same _ _ _))
 rintro δ μ ⟨kvs, x4, rfl, rfl, hlen, hall, hi8, hhas⟩
 have hk : ∀ x, x ∈ l -> zJ kvs (qW kvs) x := fun x hx => by
  obtain ⟨m, hm, e⟩ := List.getElem_of_mem hx
  refine CH hall (hhas m x ?_ (by rw [List.getElem?_eq_getElem hm, e]))
  show m < ((List.range (8 : Int).toNat).map fun i : Nat => D.int (0 + (i : Int))).length
  rw [List.length_map, List.length_range]
  show m < 8
  omega
 have ev : cX [(a, .dK kvs)] [some (.lst (ns.map D.int)), some (.int c), some (.lst (l.map D.str)), some (.adr a), x4, none, none, none, none, none, none, none] = [some (.lst (ns.map D.int)), some (.int c), some (.lst (l.map D.str)), some (.dK kvs), x4.map (bT [(a, .dK kvs)]), none, none, none, none, none, none, none] := by
  unfold cX
  simp only [List.map_cons, List.map_nil, Option.map_some, Option.map_none]
  rw [show bT [(a, MD.dK kvs)] (.adr a) = .dK kvs by simp [bT, MD.d, List.lookup]]
  rfl
 generalize x4.map (bT [(a, .dK kvs)]) = y4 at ev
 unfold uC
 dsimp only
 rw [ev]
 clear ev
 refine ⟨_, rfl, _, rfl, c, l, 3, rfl, (by decide), hne, ho, fun p1 g1 => ?_⟩
 have fin3 : ∀ (p : Pt) (x4 x9 x10 x11 : Option D) (μ : Mu), cX μ [some (.lst (ns.map D.int)), some (.int c), some (.lst (l.map D.str)), some (.dK kvs), x4, some p.told, none, none, none, x9, x10, x11] = [some (.lst (ns.map D.int)), some (.int c), some (.lst (l.map D.str)), some (.dK kvs), x4.map (bT μ), some p.told, none, none, none, x9.map (bT μ), x10.map (bT μ), x11.map (bT μ)] := fun p x4 x9 x10 x11 μ => by
  unfold cX
  simp only [List.map_cons, List.map_nil, Option.map_some, Option.map_none]
  rw [wA]
  rfl
 dsimp only
 refine nW (fun δ μ => μ = [] /\ ∃ p, GP l 3 p /\ δ = [some (.lst (ns.map D.int)), some (.int c), some (.lst (l.map D.str)), some (.dK kvs), y4, some p.told, none, none, none, none, none, none]) ?_ (fun N hN => ?_)
 rotate_left
 ·refine ⟨_, rfl, _, _, rfl, cd (by decide) (by decide), (show (0 : Int) < 4 by decide), _, rfl, ?_⟩
  cases h9 : decide ((0 : Int) < mixed c 9 / 7 % 4) with
  | false => exact aK (hN _ _ ⟨rfl, p1, g1, rfl⟩)
  | true =>
   obtain ⟨kd, ek⟩ := kk c
   have b0 := bJ (mixed c 8 / 7) (show (0 : Int) < 3 by decide)
   have b1 := bI (mixed c 8 / 7) (show (0 : Int) < 3 by decide)
   exact aO ⟨_, rfl, _, rfl, (show 2 <= sizeLine by decide), _, rfl, (show (0 : Int) < 2 by decide), _, ek, _, rfl, _, _, rfl, cd (by decide) (by decide), (show (0 : Int) < 3 by decide), c, l, kd, (mixed c 8 / 7 % 3).toNat, 3, congrArg (fun z => [D.int c, D.lst (l.map D.str), kD kd, D.int z, D.int 3]) (show mixed c 8 / 7 % 3 = (((mixed c 8 / 7 % 3).toNat : Nat) : Int) by omega), (by decide), (by omega), hl, ho, fun p g => hN _ _ ⟨rfl, p, g, rfl⟩⟩
 rintro δ μ ⟨rfl, p2, g2, rfl⟩
 refine nW (fun δ μ => μ = [] /\ ∃ p x4 x9 x10 x11, GP l 3 p /\ δ = [some (.lst (ns.map D.int)), some (.int c), some (.lst (l.map D.str)), some (.dK kvs), x4, some p.told, none, none, none, x9, x10, x11]) ?_ (fun N hN => ?_)
 rotate_left
 ·refine ⟨_, rfl, _, _, rfl, cd (by decide) (by decide), (show (0 : Int) < 3 by decide), _, rfl, ?_⟩
  cases h10 : decide (mixed c 10 / 7 % 3 = 0) with
  | false => exact aK (hN _ _ ⟨rfl, p2, _, _, _, _, g2, rfl⟩)
  | true =>
   obtain ⟨k0, e0⟩ := kk (mixed c (70 + (0 + ((0 : Nat) : Int))) / 7)
   obtain ⟨k1, e1⟩ := kk (mixed c (70 + (0 + ((1 : Nat) : Int))) / 7)
   obtain ⟨k2, e2⟩ := kk (mixed c (70 + (0 + ((2 : Nat) : Int))) / 7)
   refine aO ⟨3, rfl, (by decide), (by decide), [some (kD k0), some (kD k1), some (kD k2)], rfl, ?_, (show 3 < sizeLine by decide), [kD k0, kD k1, kD k2], rfl, fun a2 _ => ?_⟩
   ·intro i d o h1 h2
    match i, h1, h2 with
    | 0, h1, h2 => cases h1; cases h2; exact ⟨rfl, fun _ => ⟨(show 2 <= sizeLine by decide), _, rfl, _, rfl, _, _, rfl, cd (by decide) (by decide), (show (0 : Int) < 2 by decide), _, e0, rfl⟩⟩
    | 1, h1, h2 => cases h1; cases h2; exact ⟨rfl, fun _ => ⟨(show 2 <= sizeLine by decide), _, rfl, _, rfl, _, _, rfl, cd (by decide) (by decide), (show (0 : Int) < 2 by decide), _, e1, rfl⟩⟩
    | 2, h1, h2 => cases h1; cases h2; exact ⟨rfl, fun _ => ⟨(show 2 <= sizeLine by decide), _, rfl, _, rfl, _, _, rfl, cd (by decide) (by decide), (show (0 : Int) < 2 by decide), _, e2, rfl⟩⟩
    | i + 3, h1, h2 => cases h2
   have hlk : ∀ (m : MD), List.lookup a2 [(a2, m)] = some m := fun m => by simp [List.lookup]
   have hpt : ∀ (m m' : MD), ky a2 m' [(a2, m)] = [(a2, m')] := fun m m' => by simp [ky]
   have vw : ∀ ds : List D, bT [(a2, MD.lst ds)] (.adr a2) = .lst ds := fun ds => by simp [bT, MD.d, List.lookup]
   obtain ⟨kn, en⟩ : ∃ b, L2.hZ [D.str "truth", kD k0] (mixed c 74 / 7 % 2) = some (kD b) := by
    obtain ⟨r, hr, er⟩ := bL (xs := [D.str "truth", kD k0]) (bJ (mixed c 74 / 7) (show (0 : Int) < 2 by decide)) (bI (mixed c 74 / 7) (show (0 : Int) < 2 by decide))
    simp only [List.mem_cons, List.not_mem_nil, or_false] at hr
    rcases hr with rfl | rfl
    ·exact ⟨true, er⟩
    ·exact ⟨k0, er⟩
   unfold DF Bq
   dsimp only [List.set, List.cons_append, List.nil_append]
   have ev2 := fin3 p2 y4 (some (.adr a2)) none none [(a2, .lst [kD k0, kD k1, kD k2])]
   rw [Option.map_some, vw] at ev2
   erw [ev2]
   refine ⟨_, rfl, kD k0, rfl, (show 2 <= sizeLine by decide), _, rfl, _, _, rfl, cd (by decide) (by decide), (show (0 : Int) < 2 by decide), _, en, rfl, a2, _, rfl, hlk _, 0, 0, rfl, rfl, ?_⟩
   rw [hpt]
   dsimp only [List.set]
   have ev3 := fin3 p2 y4 (some (.adr a2)) none none [(a2, .lst [kD kn, kD k1, kD k2])]
   rw [Option.map_some, vw] at ev3
   erw [ev3]
   refine ⟨3, rfl, (by decide), (by decide), (show 3 < sizeLine by decide), ?_⟩
   refine ⟨fun _ => ⟨_, rfl, _, rfl, _, _, rfl, _, rfl, _, rfl, _, rfl, kD kn, rfl, _, l, kn, 0, 2, rfl, (by decide), (by decide), hl, ho, fun q0 h0 => ?_⟩, fun z => by cases z⟩
   refine ⟨fun _ => ⟨_, rfl, _, rfl, _, _, rfl, _, rfl, _, rfl, _, rfl, kD k1, rfl, _, l, k1, 0, 2, rfl, (by decide), (by decide), hl, ho, fun q1 h1 => ?_⟩, fun z => by cases z⟩
   refine ⟨fun _ => ⟨_, rfl, _, rfl, _, _, rfl, _, rfl, _, rfl, _, rfl, kD k2, rfl, _, l, k2, 0, 2, rfl, (by decide), (by decide), hl, ho, fun q2 h2 => ?_⟩, fun z => by cases z⟩
   refine ⟨_, rfl, _, _, rfl, cd (by decide) (by decide), (show (0 : Int) < 3 by decide), ?_⟩
   obtain ⟨r, hr, er⟩ := bL (xs := [(Pt.choice q0 q1 q2).told, (Pt.led q0 q1).told, (Pt.pair "=" q0 q1).told]) (bJ (mixed c 75 / 7) (show (0 : Int) < 3 by decide)) (bI (mixed c 75 / 7) (show (0 : Int) < 3 by decide))
   refine ⟨(show 1 <= sizeLine by decide), _, rfl, _, .inl rfl, (show 4 <= sizeLine by decide), (show 1 <= sizeLine by decide), _, rfl, _, rfl, _, .inl rfl, (show 3 <= sizeLine by decide), (show 1 <= sizeLine by decide), _, rfl, _, rfl, _, .inl rfl, (show 3 <= sizeLine by decide), (show 3 <= sizeLine by decide), _, rfl, r, er, ?_⟩
   simp only [List.mem_cons, List.not_mem_nil, or_false] at hr
   rcases hr with rfl | rfl | rfl
   ·exact hN _ _ ⟨rfl, .choice q0 q1 q2, _, _, _, _, h0.choice h1 h2, rfl⟩
   ·exact hN _ _ ⟨rfl, .led q0 q1, _, _, _, _, h0.led h1, rfl⟩
   ·exact hN _ _ ⟨rfl, .pair "=" q0 q1, _, _, _, _, .pair (by decide +kernel) h0 h1, rfl⟩
 rintro δ μ ⟨rfl, p, x4', x9, x10, x11, g, rfl⟩
 rw [fin3]
 generalize x4'.map (bT []) = z4
 generalize x9.map (bT []) = z9
 generalize x10.map (bT []) = z10
 generalize x11.map (bT []) = z11
 have nk : p.nk (zJ kvs (qW kvs)) := Pt.dJ hk g.nk
 have okb : jB p := ⟨by have := g.dp; omega, Nat.le_trans g.sz (by decide)⟩
 refine ⟨_, rfl, kvs, rfl, ?_⟩
 refine ⟨_, rfl, p, rfl, g.dp, g.ok, okb, ?_⟩
 refine ⟨(show 0 <= sizeLine by decide), (show 2 <= sizeLine by decide), (show 2 <= sizeLine by decide), _, rfl, fun i δ => ∃ x8, δ = [some (.lst (ns.map D.int)), some (.int c), some (.lst (l.map D.str)), some (.dK kvs), z4, some p.told, some (.dK kvs), some (p.d A), x8, z9, z10, z11], ⟨none, rfl⟩, ?_, ?_⟩
 ·rintro i d δ hd ⟨x8, rfl⟩
  have hp : ∃ pl, d = bZ pl /\ pl.length <= 2 := by
   match i, hd with
   | 0, hd => cases hd; exact ⟨[], rfl, by decide⟩
   | 1, hd => cases hd; exact ⟨[2, 0], rfl, by decide⟩
   | i + 2, hd => cases hd
  obtain ⟨pl, rfl, hpl⟩ := hp
  exact ⟨_, rfl, _, rfl, _, rfl, p, kvs, qW kvs, pl, rfl, g.dp, g.ok, nk, by omega, _, rfl, _, rfl, _, rfl, p, kvs, qW kvs, pl, rfl, g.dp, g.ok, nk, by omega, yi ⟨false, rfl, aK ⟨_, rfl, _, rfl, kvs, rfl, rfl, zW hall, false, rfl, aK ⟨_, rfl⟩⟩⟩⟩
 ·rintro δ ⟨x8, rfl⟩
  exact ⟨_, rfl, _, rfl, (show 0 <= sizeLine by decide), p, kvs, qW kvs, [], rfl, g.dp, g.ok, nk, by decide, _, rfl, _, rfl, (show 0 <= sizeLine by decide), p, kvs, qW kvs, [], rfl, g.dp, g.ok, nk, by decide, yi q⟩
end
/-! ### where things lie -/
def tJ (x qual : Str) (st : Stmt) (ps : List Str) : Prop := ∀ (kV doc pm : Value) (an : Option Addr) (cdv ct : Value) (us : List Value), us.length = ps.length -> bindArgs (PySem.W.fnOf x qual (bq st) (af st) (aC st) .none kV doc pm an cdv ct) ⟨us, []⟩ = pure (ps.zip us)
structure wL (K : PySem.W.Frag) (C : Addr) (f : Str) : Prop where
 pg : fA K C
 hd : PySem.W.hasDictIn K C = true
 nf : PySem.W.findIn K (.ref C) f = some none
structure DE (K : PySem.W.Frag) (mg : Str -> Option Value) (x : Str) (C : Addr) (qual : Str) (st : Stmt) (ps : List Str) : Prop where
 ex : ∃ f fd oI, mW K "__init__" qual st f fd /\ gh K C f = true /\ K.lookup f = some oI /\ oI.cls = .type "function" /\ mg x = some (.ref C) /\ PySem.W.keepIn K (.ref C) = true /\ Binds K fd ps []
 g : ia K C
section
variable {w : World} {K : PySem.W.Frag} {h : Heap} {mg : Str -> Option Value} {x m qual : Str} {st : Stmt} {ps : List Str} {f C : Addr} {od an : Option Addr} {sl : Array (Option Value)} {oc kV dc pm cd ct dV : Value}
theorem bW (X : K.In h) (G : h.Ns mainGlobals mg) (a : PySem.W.nsIn K mainGlobals x = some (some (.ref f)) := by k_is) (l : K.lookup f = some ⟨oc, od, .func (PySem.W.fnOf x x (bq st) (af st) (aC st) .none kV dc pm an cd ct), sl⟩ := by k_is)
  (c : PySem.W.codeIn K cd x = true := by k_is) (k : PySem.W.keepIn K (.ref f) = true := by k_is) (b : tJ x x st ps := by first | exact (fun _ _ _ _ _ _ us hl => match us, hl with | [_], _ => rfl) | exact (fun _ _ _ _ _ _ us hl => match us, hl with | [_, _], _ => rfl) | exact (fun _ _ _ _ _ _ us hl => match us, hl with | [_, _, _], _ => rfl) | exact (fun _ _ _ _ _ _ us hl => match us, hl with | [_, _, _, _], _ => rfl) | exact (fun _ _ _ _ _ _ us hl => match us, hl with | [_, _, _, _, _], _ => rfl)) : Df K mg x st ps := ⟨⟨f, _, ij (st := st) l c k, PySem.W.mg_of X G a, (ij (st := st) l c k).binds b⟩⟩
theorem lW (X : K.In h) (G : h.Ns mainGlobals mg) (hc : PySem.W.nsIn K mainGlobals x = some (some (.ref C)) := by k_is) (mk : PySem.W.makesIn K C = true := by k_is) (ini : PySem.W.findIn K (.ref C) "__init__" = some (some (.ref f)) := by k_is) (fn : PySem.W.isFn K (.ref f) = true := by k_is) (kp : PySem.W.keepIn K (.ref C) = true := by k_is)
  (l : K.lookup f = some ⟨oc, od, .func (PySem.W.fnOf "__init__" qual (bq st) (af st) (aC st) .none kV dc pm an cd ct), sl⟩ := by k_is) (c : PySem.W.codeIn K cd qual = true := by k_is) (k : PySem.W.keepIn K (.ref f) = true := by k_is)
  (b : tJ "__init__" qual st ps := by first | exact (fun _ _ _ _ _ _ us hl => match us, hl with | [_, _], _ => rfl) | exact (fun _ _ _ _ _ _ us hl => match us, hl with | [_, _, _], _ => rfl) | exact (fun _ _ _ _ _ _ us hl => match us, hl with | [_, _, _, _], _ => rfl)) : Di K mg x C qual st ps [] :=
 ⟨⟨f, _, [], [], ⟨⟨oc, od, .none, kV, dc, pm, an, cd, ct, sl, rfl, l, c⟩, k⟩, ⟨mk, ini, fn, kp⟩, PySem.W.mg_of X G hc, (ij (st := st) l c k).binds b, .nil, fun _ => .nil⟩⟩
def wJ (x qual : Str) (st : Stmt) (ps : List Str) : Prop := ∀ (K : PySem.W.Frag) (T : Addr) (ob : Obj) (v : Value) (n : Nat), K.lookup T = some ob -> ob.data = .seq #[v] n -> ∀ (kV doc pm : Value) (an : Option Addr) (cdv ct : Value), Binds K (PySem.W.fnOf x qual (bq st) (af st) (aC st) (.ref T) kV doc pm an cdv ct) ps []
theorem wz {Ta : Addr} {tc v : Value} {td : Option Addr} {tn : Nat} {tsl : Array (Option Value)} (X : K.In h) (G : h.Ns mainGlobals mg) (b : wJ "__init__" qual st ps) (hc : PySem.W.nsIn K mainGlobals x = some (some (.ref C)) := by k_is) (mk : PySem.W.makesIn K C = true := by k_is) (ini : PySem.W.findIn K (.ref C) "__init__" = some (some (.ref f)) := by k_is)
  (fn : PySem.W.isFn K (.ref f) = true := by k_is) (kp : PySem.W.keepIn K (.ref C) = true := by k_is) (l : K.lookup f = some ⟨oc, od, .func (PySem.W.fnOf "__init__" qual (bq st) (af st) (aC st) (.ref Ta) kV dc pm an cd ct), sl⟩ := by k_is) (c : PySem.W.codeIn K cd qual = true := by k_is) (k : PySem.W.keepIn K (.ref f) = true := by k_is)
  (lt : K.lookup Ta = some ⟨tc, td, .seq #[v] tn, tsl⟩ := by k_is) : Di K mg x C qual st ps [] :=
 ⟨⟨f, _, [], [], ⟨⟨oc, od, .ref Ta, kV, dc, pm, an, cd, ct, sl, rfl, l, c⟩, k⟩, ⟨mk, ini, fn, kp⟩, PySem.W.mg_of X G hc, b K Ta _ v tn lt rfl kV dc pm an cd ct, .nil, fun _ => .nil⟩⟩
theorem Ey (X : K.In h) (G : h.Ns mainGlobals mg) (hc : PySem.W.nsIn K mainGlobals x = some (some (.ref C)) := by k_is) (ini : PySem.W.findIn K (.ref C) "__init__" = some (some (.ref f)) := by k_is) (kp : PySem.W.keepIn K (.ref C) = true := by k_is)
  (l : K.lookup f = some ⟨.type "function", od, .func (PySem.W.fnOf "__init__" qual (bq st) (af st) (aC st) .none kV dc pm an cd ct), sl⟩ := by k_is) (c : PySem.W.codeIn K cd qual = true := by k_is) (k : PySem.W.keepIn K (.ref f) = true := by k_is)
  (ow : gh K C f = true := by kernel_rfl) (sa : PySem.W.findIn K (.ref C) "__setattr__" = some (some (.builtin "object.__setattr__")) := by k_is) (ov : ((PySem.W.clsIn K C).any fun cd => dZ cd.mro) = true := by kernel_rfl) (hd : PySem.W.hasDictIn K C = true := by k_is)
  (b : tJ "__init__" qual st ps := by first | exact (fun _ _ _ _ _ _ us hl => match us, hl with | [_, _], _ => rfl) | exact (fun _ _ _ _ _ _ us hl => match us, hl with | [_, _, _], _ => rfl) | exact (fun _ _ _ _ _ _ us hl => match us, hl with | [_, _, _, _, _], _ => rfl)) : DE K mg x C qual st ps :=
 ⟨⟨f, _, _, ⟨⟨.type "function", od, .none, kV, dc, pm, an, cd, ct, sl, rfl, l, c⟩, k⟩, ow, l, rfl, PySem.W.mg_of X G hc, kp, (ij (st := st) l c k).binds b⟩, ⟨sa, ov, hd⟩⟩
theorem Em {v : Value} {b : Bool} (h : PySem.W.mroIn K C v = some b) : (PySem.W.clsIn K C).isSome = true := by
 unfold PySem.W.mroIn at h
 cases e : PySem.W.clsIn K C with
 | none => rw [e] at h; cases h
 | some _ => rfl
theorem Cf (g1 : PySem.W.findIn K (.ref C) "__getattribute__" = some (some (.builtin "BaseException.__getattribute__")) := by k_is) (g2 : PySem.W.findIn K (.ref C) "__getattr__" = some none := by k_is) (g3 : PySem.W.mroIn K C (.type "BaseException") = some true := by k_is) (ha : PySem.W.findIn K (.ref C) "__class__" = some (some (.builtin "object.__class__")) := by k_is) (hn : PySem.W.specialIn K (.builtin "object.__class__") "__get__" = some (some (.builtin "getset_descriptor.__get__")) := by k_is) (ht : PySem.W.takesIn K (.builtin "object.__class__") = some true := by k_is) (hm : PySem.W.mroIn K C (.type "object") = some true := by k_is) : gU K C := ⟨⟨g1, g2, g3⟩, Em hm, ha, hn, ht, hm⟩
theorem xO {f : Str} (g1 : PySem.W.findIn K (.ref C) "__getattribute__" = some (some (.builtin "BaseException.__getattribute__")) := by k_is) (g2 : PySem.W.findIn K (.ref C) "__getattr__" = some none := by k_is) (g3 : PySem.W.mroIn K C (.type "BaseException") = some true := by k_is) (hd : PySem.W.hasDictIn K C = true := by k_is) (nf : PySem.W.findIn K (.ref C) f = some none := by k_is) : wL K C f := ⟨⟨g1, g2, g3⟩, hd, nf⟩
theorem CV {c : Addr} (h : PySem.W.kitOne K (.ref C) (.ref c) = some true) (ne : C ≠ c) : PySem.W.kitCls K (.ref C) (.ref c) = some true := by
 unfold PySem.W.kitOne at h
 rw [if_neg (fun e => ne (by have := eq_of_beq e; cases this; rfl))] at h
 exact h
theorem gA (a : PySem.W.plainGet K C Str.empty = true := by k_is) (b : PySem.W.hasDictIn K C = true := by k_is) (c : PySem.W.plainOver K C = true := by k_is) (d : PySem.W.findIn K (.ref C) "__setattr__" = some (some (.builtin "object.__setattr__")) := by k_is)
  (e : PySem.W.findIn K (.ref C) "__class__" = some (some (.builtin "object.__class__")) := by k_is) (f : PySem.W.specialIn K (.builtin "object.__class__") "__get__" = some (some (.builtin "getset_descriptor.__get__")) := by k_is) (g : PySem.W.takesIn K (.builtin "object.__class__") = some true := by k_is) (h : PySem.W.mroIn K C (.type "object") = some true := by k_is) : gX K C := ⟨⟨a, b, c, d⟩, e, f, g, h⟩
def wN (K : PySem.W.Frag) (C : Addr) : Prop := ∀ f ∈ (["value", "name", "part", "sign", "one", "other", "truth", "first", "head", "rest"] : List Str), dG K C f
theorem fz (h0 : PySem.W.findIn K (.ref C) "value" = some none := by k_is) (h1 : PySem.W.findIn K (.ref C) "name" = some none := by k_is) (h2 : PySem.W.findIn K (.ref C) "part" = some none := by k_is) (h3 : PySem.W.findIn K (.ref C) "sign" = some none := by k_is) (h4 : PySem.W.findIn K (.ref C) "one" = some none := by k_is) (h5 : PySem.W.findIn K (.ref C) "other" = some none := by k_is) (h6 : PySem.W.findIn K (.ref C) "truth" = some none := by k_is) (h7 : PySem.W.findIn K (.ref C) "first" = some none := by k_is) (h8 : PySem.W.findIn K (.ref C) "head" = some none := by k_is) (h9 : PySem.W.findIn K (.ref C) "rest" = some none := by k_is) : wN K C := by
 unfold wN
 simp only [List.mem_cons, List.not_mem_nil, or_false, forall_eq_or_imp, forall_eq]
 exact ⟨h0, h1, h2, h3, h4, h5, h6, h7, h8, h9⟩
theorem nD {i : Int} {t : Tok} (X : K.In h) (G : h.Ns mainGlobals mg) (e : PySem.W.nsIn K mainGlobals x = some (some (.int i t))) : GI mg x i := ⟨⟨t, PySem.W.mg_of X G e⟩⟩
theorem E9 {y : Str} {t : Tok} (X : K.In h) (G : h.Ns mainGlobals mg) (e : PySem.W.nsIn K mainGlobals x = some (some (.str y t))) : GD K mg x (.str y) := ⟨⟨.str y, .str y t, PySem.W.mg_of X G e, ⟨_, rfl⟩, fun _ => .str y⟩⟩
def Eh (K : PySem.W.Frag) (t : Addr) (ds : List D) : Prop := ∀ H, Dv K H (.ref t) (.tup ds)
theorem b8 {t : Addr} {its : Array Value} {n : Nat} (vs : List V) {ds : List D} (l : K.lookup t = some ⟨.type "tuple", od, .seq its n, sl⟩) (z : its.size <= 1000) (v : Vals vs its.toList) (d : ∀ H, au K H vs ds) : Eh K t ds :=
 fun H => .tup (.inr ⟨_, its, n, l, rfl, rfl, Nat.le_of_lt (vm z), v⟩) (d H)
theorem E_ {t : Addr} {ds : List D} (X : K.In h) (G : h.Ns mainGlobals mg) (e : PySem.W.nsIn K mainGlobals x = some (some (.ref t))) (l : Eh K t ds) : GD K mg x (.tup ds) := ⟨⟨.ref t, .ref t, PySem.W.mg_of X G e, rfl, l⟩⟩
theorem Bp {s : Addr} {es : Array DictEntry} {n : Nat} {kvs : List (Str × V)} {tab : List (Str × D)} (X : K.In h) (G : h.Ns mainGlobals mg) (e : PySem.W.nsIn K mainGlobals x = some (some (.ref s))) (l : K.lookup s = some ⟨.type "dict", none, .dict es n, #[]⟩) (hk : PySem.W.KeysLit w.params es.toList)
  (he : ju kvs es.toList) (sys : (s == sysModules) = false) (t : Tb K kvs tab) : wM w K mg x s tab := ⟨PySem.W.mg_of X G e, kvs, ⟨⟨es, n, l, hk, he⟩, sys⟩, t⟩
theorem bA {y : Str} {t : Tok} {r : Addr} {en : DictEntry} {kvs : List (Str × V)} {es : List DictEntry} (hk : en.key = .str y t) (hv : en.val = .ref r) (q : ju kvs es) : ju ((y, .ref r) :: kvs) (en :: es) := .cons hk hv q
theorem uz (ws : List Str) : ∀ H, au K H (ws.map V.str) (ws.map D.str) := fun _ => lY ws
structure cb (K : PySem.W.Frag) (C : Addr) (m qual : Str) (st : Stmt) (ps : List Str) : Prop where
 ex : ∃ f fd, rG K m qual st f fd /\ Meth K C m f /\ Binds K fd ps []
theorem aP (a : PySem.W.findIn K (.ref C) m = some (some (.ref f)) := by k_is) (l : K.lookup f = some ⟨oc, od, .func (PySem.W.fnOf m qual (bq st) (af st) (aC st) .none kV dc pm an cd ct), sl⟩ := by k_is)
  (c : PySem.W.codeIn K cd qual = true := by k_is) (k : PySem.W.keepIn K (.ref f) = true := by k_is) (n : PySem.W.isFn K (.ref f) = true := by k_is) (b : tJ m qual st ps := by first | exact (fun _ _ _ _ _ _ us hl => match us, hl with | [_], _ => rfl) | exact (fun _ _ _ _ _ _ us hl => match us, hl with | [_, _, _], _ => rfl) | exact (fun _ _ _ _ _ _ us hl => match us, hl with | [_, _, _, _], _ => rfl)) : cb K C m qual st ps := ⟨⟨f, _, ij (st := st) l c k, ⟨a, n, k⟩, (ij (st := st) l c k).binds b⟩⟩
theorem cb.dm (d : cb K C m qual st ps) (c : pV K C) : Dm K C m qual st ps := let ⟨f, fd, F, M, b⟩ := d.ex; ⟨⟨f, fd, F, M, c, b⟩⟩
end
/-! ### the exceptions that keep what they are made with -/
section
variable {P : Program} {w : World} {K : PySem.W.Frag} {mg : Str -> Option Value} {base : Heap} {C : Addr} {k : Nat}
theorem DU {α : Type} {xs : List α} (h : xs.length = 1) : ∃ x, xs = [x] := match xs, h with | [x], _ => ⟨x, rfl⟩
theorem tF {α : Type} {xs : List α} (h : xs.length = 2) : ∃ x y, xs = [x, y] := match xs, h with | [x, y], _ => ⟨x, y, rfl⟩
theorem Bm {α : Type} {xs : List α} (h : xs.length = 4) : ∃ x y z u, xs = [x, y, z, u] := match xs, h with | [x, y, z, u], _ => ⟨x, y, z, u, rfl⟩
theorem ES {pr : Array Value -> Prop} {H : Hp} {a d : Addr} {fs : List (Str × V)} (h : d ≠ a) : upd (upd H a (dY pr a C (some d))) d (mx d fs) a = some (dY pr a C (some d)) := by rw [aH (Ne.symm h), aI]
theorem AJ (d : DE K mg "NoKind" C "NoKind.__init__" cU ["self", "row", "place"]) (n1 : wL K C "row") (n2 : wL K C "place") : Ec P w K mg base (k + 1) "NoKind" C ["row", "place"] := by
 obtain ⟨f, fd, oI, F, ow, l, oc, m, kp, b⟩ := d.ex
 refine ⟨⟨f, fd, _, oI, ow, l, oc, Iv (t := GO (tX K 1 "row") (tX K 2 "place")) F jA rfl (fun cdv A outer s H E => gv (Fs (x := "self") (p := "row") (j := 1) rfl (Or.inl rfl) rfl (Or.inl rfl)) (pH (Fs (x := "self") (p := "place") (j := 2) rfl (Or.inl rfl) rfl (Or.inl rfl)))) ?_, m, kp, b⟩, by decide⟩
 intro pr a vs' H Q hl ha q
 obtain ⟨v, u, rfl⟩ := tF hl
 refine ⟨pr, a, C, v, rfl, rfl, d.g, n1.nf, .inl ⟨ha, fun x h1 h2 => ⟨pr, a, C, u, rfl, rfl, d.g, n2.nf, .inr ⟨x, _, ES h2, aI, (Nat.le_of_ble_eq_true rfl), ?_⟩⟩⟩⟩
 rw [jr]
 exact q x h1 h2
end
theorem jG : wJ "__init__" "Before.__init__" bx ["self", "part", "first"] := fun K T ob v n ho hs _ _ _ _ _ _ s us X hl => match us, hl with | [_, _, _], _ => PySem.W.binds_K X rfl ho hs rfl rfl
theorem ko : wJ "__init__" "Held.__init__" cI ["self", "part", "name", "first"] := fun K T ob v n ho hs _ _ _ _ _ _ s us X hl => match us, hl with | [_, _, _, _], _ => PySem.W.binds_K X rfl ho hs rfl rfl
/-- the law's promise over values -/
def qx (K : PySem.W.Frag) : Sp := fun vs H Q _ => ∃ (q : Addr) (ns : List Int), vs = [.ref q] /\ ck K H q (ns.map V.int) /\ ns.length <= 63 /\ ∀ H', Q (.bl true) H'
theorem p_ {K : PySem.W.Frag} {H : Hp} : ∀ ns : List Int, au K H (ns.map V.int) (ns.map D.int)
 | [] => .nil
 | n :: ns => .cons (.int n) (p_ ns)
section
variable {P : Program} {w : World} {K : PySem.W.Frag} {mg : Str -> Option Value} {base : Heap} {A : b5} {j k : Nat} {x : Str} {ps : List Str}
theorem zR {sx : mw} (c : ud P w K mg base j x ps sx) (h : j <= k) : ud P w K mg base k x ps sx := ⟨let ⟨f, fd, F, r⟩ := c.ex; ⟨f, fd, F.mono h, r⟩, c.ms⟩
theorem JF {f : Addr} {fd : FuncData} {sp sp' : Sp} (F : bX P w K mg base (mn P w) k f fd ps sp) (h : ∀ vs H Q E, sp' vs H Q E -> sp vs H Q fun _ _ _ => False) : bX P w K mg base lJ k f fd ps sp' := by
 refine ⟨fun vs H Q E q => F.len _ _ _ _ (h _ _ _ _ q), fun A outer s H args us vs Q E hr he hb hv q => codeAny_mono (F.run A outer s H args us vs Q _ hr he hb hv (h _ _ _ _ q)) fun r s' z => ?_⟩
 cases r with
 | error e => obtain ⟨_, _, _, _, _, _, _, _, _, _, _, _, _, z⟩ := z; exact z
 | ok fl =>
  cases fl with
  | ret u => exact z
  | next => exact z
  | brk => exact z
  | cont => exact z
theorem ql {sb : Addr} (d : Df K mg "part_of" iG ["told"]) (c0 : bK P w K mg base 2 "many_within" ["told"] (pN Pt.ok fun p => .int p.inner.length)) (c1 : bK P w K mg base 1 "has_shape" ["told"] (pN Pt.ok fun p => .bl (!p.lr)))
  (c2 : bK P w K mg base 15 "plain_by" ["told", "inner"] (se A 10 true)) (c3 : bK P w K mg base 15 "timed_by" ["told", "inner"] (se A 10 false))
  (k : mX P w K mg base 13 "Pair" A.pair (fun ds Q => ∃ (g : Str) (x y : Pt), ds = [.str g, x.d A, y.d A] /\ g ∈ cD /\ (Pt.pair g x y).depth <= 10 /\ jB (.pair g x y) /\ Q [("sign", .str g), ("one", x.d A), ("other", y.d A)]) []) :
  ∀ n, n <= 10 -> bK P w K mg base (n + 15) "part_of" ["told"] (vg A n)
 | 0, _ => Df.never d fun ds Q ⟨p, _, h, _⟩ => absurd p.iB (by omega)
 | n + 1, h => vV (m := n) (N := 10) (by omega) h d (c0.up (by omega)) (c1.up (by omega)) (ql (sb := sb) d c0 c1 c2 c3 k n (by omega)) (by omega) (c2.up (by omega)) (c3.up (by omega)) k
end
theorem CO {w : World} {K : PySem.W.Frag} {h : Heap} {mg : Str -> Option Value} {a1 a2 a3 a4 a5 a6 a7 a8 a9 b1 b2 b3 br sa sb : Addr} (X : K.In h) (G : h.Ns mainGlobals mg)
  (e1 : PySem.W.nsIn K mainGlobals "Given" = some (some (.ref a1)))
  (e2 : PySem.W.nsIn K mainGlobals "Named" = some (some (.ref a2)))
  (e3 : PySem.W.nsIn K mainGlobals "Turned" = some (some (.ref a3)))
  (e4 : PySem.W.nsIn K mainGlobals "Pair" = some (some (.ref a4)))
  (e5 : PySem.W.nsIn K mainGlobals "Choice" = some (some (.ref a5)))
  (e6 : PySem.W.nsIn K mainGlobals "Before" = some (some (.ref a6)))
  (e7 : PySem.W.nsIn K mainGlobals "Led" = some (some (.ref a7)))
  (e8 : PySem.W.nsIn K mainGlobals "When" = some (some (.ref a8)))
  (e9 : PySem.W.nsIn K mainGlobals "Held" = some (some (.ref a9)))
  (x1 : PySem.W.nsIn K mainGlobals "NoKind" = some (some (.ref b1)))
  (x2 : PySem.W.nsIn K mainGlobals "NoBeat" = some (some (.ref b2)))
  (x3 : PySem.W.nsIn K mainGlobals "NoPart" = some (some (.ref b3)))
  (xr : PySem.W.nsIn K mainGlobals "RowError" = some (some (.ref br)))
  (nd : [a1, a2, a3, a4, a5, a6, a7, a8, a9].Nodup)
  (o1 : gX K a1)
  (n1 : wN K a1)
  (m1_inner : cb K a1 "inner" "Part.inner" bc ["self"])
  (m1_size : cb K a1 "size" "Part.size" ak ["self"])
  (m1_depth : cb K a1 "depth" "Part.depth" aj ["self"])
  (m1_need_bounds : cb K a1 "need_bounds" "Part.need_bounds" aT ["self"])
  (m1_kind_by : cb K a1 "kind_by" "Part.kind_by" aa ["self", "kinds", "place"])
  (m1_kind_from : cb K a1 "kind_from" "Given.kind_from" bz ["self", "kinds", "within"])
  (i1 : Di K mg "Given" a1 "Given.__init__" cm ["self", "value"] [])
  (o2 : gX K a2)
  (n2 : wN K a2)
  (m2_inner : cb K a2 "inner" "Part.inner" bc ["self"])
  (m2_size : cb K a2 "size" "Part.size" ak ["self"])
  (m2_depth : cb K a2 "depth" "Part.depth" aj ["self"])
  (m2_need_bounds : cb K a2 "need_bounds" "Part.need_bounds" aT ["self"])
  (m2_kind_by : cb K a2 "kind_by" "Part.kind_by" aa ["self", "kinds", "place"])
  (m2_kind_from : cb K a2 "kind_from" "Named.kind_from" b4 ["self", "kinds", "within"])
  (i2 : Di K mg "Named" a2 "Named.__init__" cq ["self", "name"] [])
  (o3 : gX K a3)
  (n3 : wN K a3)
  (m3_inner : cb K a3 "inner" "Turned.inner" cW ["self"])
  (m3_size : cb K a3 "size" "Part.size" ak ["self"])
  (m3_depth : cb K a3 "depth" "Part.depth" aj ["self"])
  (m3_need_bounds : cb K a3 "need_bounds" "Part.need_bounds" aT ["self"])
  (m3_kind_by : cb K a3 "kind_by" "Part.kind_by" aa ["self", "kinds", "place"])
  (m3_kind_from : cb K a3 "kind_from" "Turned.kind_from" bf ["self", "kinds", "within"])
  (i3 : Di K mg "Turned" a3 "Turned.__init__" cV ["self", "part"] [])
  (o4 : gX K a4)
  (n4 : wN K a4)
  (m4_inner : cb K a4 "inner" "Pair.inner" dj ["self"])
  (m4_size : cb K a4 "size" "Part.size" ak ["self"])
  (m4_depth : cb K a4 "depth" "Part.depth" aj ["self"])
  (m4_need_bounds : cb K a4 "need_bounds" "Part.need_bounds" aT ["self"])
  (m4_kind_by : cb K a4 "kind_by" "Part.kind_by" aa ["self", "kinds", "place"])
  (m4_kind_from : cb K a4 "kind_from" "Pair.kind_from" cB ["self", "kinds", "within"])
  (i4 : Di K mg "Pair" a4 "Pair.__init__" dM ["self", "sign", "one", "other"] [])
  (o5 : gX K a5)
  (n5 : wN K a5)
  (m5_inner : cb K a5 "inner" "Choice.inner" cT ["self"])
  (m5_size : cb K a5 "size" "Part.size" ak ["self"])
  (m5_depth : cb K a5 "depth" "Part.depth" aj ["self"])
  (m5_need_bounds : cb K a5 "need_bounds" "Part.need_bounds" aT ["self"])
  (m5_kind_by : cb K a5 "kind_by" "Part.kind_by" aa ["self", "kinds", "place"])
  (m5_kind_from : cb K a5 "kind_from" "Choice.kind_from" bb ["self", "kinds", "within"])
  (i5 : Di K mg "Choice" a5 "Choice.__init__" cS ["self", "truth", "one", "other"] [])
  (o6 : gX K a6)
  (n6 : wN K a6)
  (m6_inner : cb K a6 "inner" "Before.inner" cQ ["self"])
  (m6_size : cb K a6 "size" "Part.size" ak ["self"])
  (m6_depth : cb K a6 "depth" "Part.depth" aj ["self"])
  (m6_need_bounds : cb K a6 "need_bounds" "Part.need_bounds" aT ["self"])
  (m6_kind_by : cb K a6 "kind_by" "Part.kind_by" aa ["self", "kinds", "place"])
  (m6_kind_from : cb K a6 "kind_from" "Before.kind_from" ba ["self", "kinds", "within"])
  (i6 : Di K mg "Before" a6 "Before.__init__" bx ["self", "part", "first"] [])
  (o7 : gX K a7)
  (n7 : wN K a7)
  (m7_inner : cb K a7 "inner" "Led.inner" eY ["self"])
  (m7_size : cb K a7 "size" "Part.size" ak ["self"])
  (m7_depth : cb K a7 "depth" "Part.depth" aj ["self"])
  (m7_need_bounds : cb K a7 "need_bounds" "Part.need_bounds" aT ["self"])
  (m7_kind_by : cb K a7 "kind_by" "Part.kind_by" aa ["self", "kinds", "place"])
  (m7_kind_from : cb K a7 "kind_from" "Led.kind_from" cJ ["self", "kinds", "within"])
  (i7 : Di K mg "Led" a7 "Led.__init__" eF ["self", "head", "rest"] [])
  (o8 : gX K a8)
  (n8 : wN K a8)
  (m8_inner : cb K a8 "inner" "When.inner" dk ["self"])
  (m8_size : cb K a8 "size" "Part.size" ak ["self"])
  (m8_depth : cb K a8 "depth" "Part.depth" aj ["self"])
  (m8_need_bounds : cb K a8 "need_bounds" "Part.need_bounds" aT ["self"])
  (m8_kind_by : cb K a8 "kind_by" "Part.kind_by" aa ["self", "kinds", "place"])
  (m8_kind_from : cb K a8 "kind_from" "When.kind_from" cC ["self", "kinds", "within"])
  (i8 : Di K mg "When" a8 "When.__init__" dN ["self", "part", "name"] [])
  (o9 : gX K a9)
  (n9 : wN K a9)
  (m9_inner : cb K a9 "inner" "Held.inner" di ["self"])
  (m9_size : cb K a9 "size" "Part.size" ak ["self"])
  (m9_depth : cb K a9 "depth" "Part.depth" aj ["self"])
  (m9_need_bounds : cb K a9 "need_bounds" "Part.need_bounds" aT ["self"])
  (m9_kind_by : cb K a9 "kind_by" "Part.kind_by" aa ["self", "kinds", "place"])
  (m9_kind_from : cb K a9 "kind_from" "Held.kind_from" cA ["self", "kinds", "within"])
  (i9 : Di K mg "Held" a9 "Held.__init__" cI ["self", "part", "name", "first"] [])
  (ty1 : gU K b1)
  (kt11 : PySem.W.kitOne K (.ref b1) (.ref b1) = some true)
  (kt12 : PySem.W.kitOne K (.ref b1) (.ref b2) = some false)
  (kt13 : PySem.W.kitOne K (.ref b1) (.ref b3) = some false)
  (ve1 : PySem.W.kitOne K (.ref b1) (.type "ValueError") = some true)
  (re1 : PySem.W.kitOne K (.ref b1) (.ref br) = some true)
  (ne1 : b1 ≠ br)
  (be : PySem.W.mroIn K br (.type "BaseException") = some true)
  (bm : PySem.W.mroIn K b1 (.type "BaseException") = some true)
  (bt : PySem.W.typeIn K (.ref b1) = some (.type "type"))
  (de : DE K mg "NoKind" b1 "NoKind.__init__" cU ["self", "row", "place"])
  (fe_row : wL K b1 "row")
  (fe_place : wL K b1 "place")
  (d_has_letters : Df K mg "has_letters" fK ["text"])
  (d_has_word_form : Df K mg "has_word_form" dP ["text"])
  (d_is_word : Df K mg "is_word" kC ["thing"])
  (d_is_name : Df K mg "is_name" j_ ["thing"])
  (d_is_number : Df K mg "is_number" g4 ["thing"])
  (d_is_value : Df K mg "is_value" iy ["thing"])
  (d_need_name : Df K mg "need_name" g6 ["name"])
  (d_need_first : Df K mg "need_first" gF ["first"])
  (d_has_shape : Df K mg "has_shape" g0 ["told"])
  (d_many_within : Df K mg "many_within" fL ["told"])
  (d_plain_by : Df K mg "plain_by" iz ["told", "inner"])
  (d_timed_by : Df K mg "timed_by" i_ ["told", "inner"])
  (d_part_of : Df K mg "part_of" iG ["told"])
  (d__law_cell_at : Df K mg "_law_cell_at" eG ["_law_script", "_law_k"])
  (d__law_mixed : Df K mg "_law_mixed" gC ["_law_cell", "_law_k"])
  (d__law_names : Df K mg "_law_names" gD ["_law_cell", "_law_many"])
  (d__law_number : Df K mg "_law_number" fH ["_law_mix"])
  (d__law_value : Df K mg "_law_value" gE ["_law_mix", "_law_kind_here"])
  (d__law_tree : Df K mg "_law_tree" ee ["_law_cell", "_law_names_here", "_law_deep"])
  (d__law_leaf : Df K mg "_law_leaf" gw ["_law_cell", "_law_names_here", "_law_kind_here", "_law_beat"])
  (d__law_typed : Df K mg "_law_typed" dn ["_law_cell", "_law_names_here", "_law_kind_here", "_law_beat", "_law_deep"])
  (d__law_told : Df K mg "_law_told" gz ["_law_part", "_law_kinds", "_law_place"])
  (d_value_kind : Df K mg "value_kind" gG ["value"])
  (d_fits : Df K mg "fits" sZ ["first", "kind"])
  (d__law_wanted : Df K mg "_law_wanted" fJ ["_law_told_here", "_law_kinds", "_law_inner"])
  (d__law_kind : Df K mg "_law_kind" eZ ["_law_told_here", "_law_kinds", "_law_place"])
  (g_LONGEST_WORD : GI mg "LONGEST_WORD" 8)
  (g_MOST_WORDS : GI mg "MOST_WORDS" 4)
  (g_LOWEST : GI mg "LOWEST" (-128))
  (g_HIGHEST : GI mg "HIGHEST" 127)
  (g_DEEPEST : GI mg "DEEPEST" 10)
  (g_LARGEST : GI mg "LARGEST" 40)
  (g_LETTERS : GD K mg "LETTERS" (.str fv))
  (g_KEPT : GD K mg "KEPT_WORDS" (.tup (kW.map D.str)))
  (k_SHAPES : wM w K mg "SHAPES" sa jm)
  (k_SIGNS : wM w K mg "SIGNS" sb hJ)
  (z_isinstance : PySem.W.nsIn K mainGlobals "isinstance" = some none)
  (z_bool : PySem.W.nsIn K mainGlobals "bool" = some none)
  (z_int : PySem.W.nsIn K mainGlobals "int" = some none)
  (z_len : PySem.W.nsIn K mainGlobals "len" = some none)
  (z_all : PySem.W.nsIn K mainGlobals "all" = some none)
  (z_sum : PySem.W.nsIn K mainGlobals "sum" = some none)
  (z_max : PySem.W.nsIn K mainGlobals "max" = some none)
  (z_range : PySem.W.nsIn K mainGlobals "range" = some none)
  (z_ValueError : PySem.W.nsIn K mainGlobals "ValueError" = some none)
  (z_enumerate : PySem.W.nsIn K mainGlobals "enumerate" = some none)
  (z_tuple : PySem.W.nsIn K mainGlobals "tuple" = some none)
  (z_dict : PySem.W.nsIn K mainGlobals "dict" = some none)
  (P : Program) (base : Heap) (f : Addr) (fd : FuncData) (F : rG K "law" "law" g5 f fd) : bX P w K mg base lJ 32 f fd ["_law_script"] (qx K) := by
 have c1 := o1.cl
 have c2 := o2.cl
 have c3 := o3.cl
 have c4 := o4.cl
 have c5 := o5.cl
 have c6 := o6.cl
 have c7 := o7.cl
 have c8 := o8.cl
 have c9 := o9.cl
 have y_isinstance := PySem.W.mg_none_of X G z_isinstance
 have y_bool := PySem.W.mg_none_of X G z_bool
 have y_int := PySem.W.mg_none_of X G z_int
 have y_len := PySem.W.mg_none_of X G z_len
 have y_all := PySem.W.mg_none_of X G z_all
 have y_sum := PySem.W.mg_none_of X G z_sum
 have y_max := PySem.W.mg_none_of X G z_max
 have y_range := PySem.W.mg_none_of X G z_range
 have y_ValueError := PySem.W.mg_none_of X G z_ValueError
 have y_enumerate := PySem.W.mg_none_of X G z_enumerate
 have y_tuple := PySem.W.mg_none_of X G z_tuple
 have y_dict := PySem.W.mg_none_of X G z_dict
 have hA : fQ K (b5.mk a1 a2 a3 a4 a5 a6 a7 a8 a9) := ⟨nd, ?_, ?_⟩
 rotate_left
 ·simp only [List.mem_cons, List.not_mem_nil, or_false, forall_eq_or_imp, forall_eq]
  exact ⟨c1, c2, c3, c4, c5, c6, c7, c8, c9⟩
 ·intro C hC f hf
  simp only [List.mem_cons, List.not_mem_nil, or_false] at hC
  rcases hC with rfl | rfl | rfl | rfl | rfl | rfl | rfl | rfl | rfl
  ·exact n1 f hf
  ·exact n2 f hf
  ·exact n3 f hf
  ·exact n4 f hf
  ·exact n5 f hf
  ·exact n6 f hf
  ·exact n7 f hf
  ·exact n8 f hf
  ·exact n9 f hf
 have D_inner : nz K (b5.mk a1 a2 a3 a4 a5 a6 a7 a8 a9) := ⟨m1_inner.dm c1, m2_inner.dm c2, m3_inner.dm c3, m4_inner.dm c4, m5_inner.dm c5, m6_inner.dm c6, m7_inner.dm c7, m8_inner.dm c8, m9_inner.dm c9⟩
 have D_from : IE K (b5.mk a1 a2 a3 a4 a5 a6 a7 a8 a9) := ⟨m1_kind_from.dm c1, m2_kind_from.dm c2, m3_kind_from.dm c3, m4_kind_from.dm c4, m5_kind_from.dm c5, m6_kind_from.dm c6, m7_kind_from.dm c7, m8_kind_from.dm c8, m9_kind_from.dm c9⟩
 have D_size : ∀ C, lC (b5.mk a1 a2 a3 a4 a5 a6 a7 a8 a9) C -> Dm K C "size" "Part.size" ak ["self"] := fun C ⟨p, e⟩ => by
  subst e
  cases p
  ·exact m1_size.dm c1
  ·exact m2_size.dm c2
  ·exact m3_size.dm c3
  ·exact m4_size.dm c4
  ·exact m5_size.dm c5
  ·exact m6_size.dm c6
  ·exact m7_size.dm c7
  ·exact m8_size.dm c8
  ·exact m9_size.dm c9
 have D_depth : ∀ C, lC (b5.mk a1 a2 a3 a4 a5 a6 a7 a8 a9) C -> Dm K C "depth" "Part.depth" aj ["self"] := fun C ⟨p, e⟩ => by
  subst e
  cases p
  ·exact m1_depth.dm c1
  ·exact m2_depth.dm c2
  ·exact m3_depth.dm c3
  ·exact m4_depth.dm c4
  ·exact m5_depth.dm c5
  ·exact m6_depth.dm c6
  ·exact m7_depth.dm c7
  ·exact m8_depth.dm c8
  ·exact m9_depth.dm c9
 have D_need_bounds : ∀ C, lC (b5.mk a1 a2 a3 a4 a5 a6 a7 a8 a9) C -> Dm K C "need_bounds" "Part.need_bounds" aT ["self"] := fun C ⟨p, e⟩ => by
  subst e
  cases p
  ·exact m1_need_bounds.dm c1
  ·exact m2_need_bounds.dm c2
  ·exact m3_need_bounds.dm c3
  ·exact m4_need_bounds.dm c4
  ·exact m5_need_bounds.dm c5
  ·exact m6_need_bounds.dm c6
  ·exact m7_need_bounds.dm c7
  ·exact m8_need_bounds.dm c8
  ·exact m9_need_bounds.dm c9
 have D_kind_by : ∀ C, lC (b5.mk a1 a2 a3 a4 a5 a6 a7 a8 a9) C -> Dm K C "kind_by" "Part.kind_by" aa ["self", "kinds", "place"] := fun C ⟨p, e⟩ => by
  subst e
  cases p
  ·exact m1_kind_by.dm c1
  ·exact m2_kind_by.dm c2
  ·exact m3_kind_by.dm c3
  ·exact m4_kind_by.dm c4
  ·exact m5_kind_by.dm c5
  ·exact m6_kind_by.dm c6
  ·exact m7_kind_by.dm c7
  ·exact m8_kind_by.dm c8
  ·exact m9_kind_by.dm c9
 have hk := CV re1 ne1
 have two : PySem.W.kitAny K (.ref b1) [.ref b2, .ref b3] = some false := by unfold PySem.W.kitAny; rw [kt12]; show PySem.W.kitAny K (.ref b1) [.ref b3] = some false; unfold PySem.W.kitAny; rw [kt13]; rfl
 have s1 := gZ (P := P) (w := w) (base := base) (j := 0) d_is_number y_isinstance y_bool y_int g_LOWEST g_HIGHEST
 have s2 := d5 d_is_value y_isinstance y_bool s1
 have s3 := cN d_need_first s2
 have w1 := fE (P := P) (w := w) (base := base) (j := 0) d_has_letters y_len y_all g_LETTERS
 have w2 := bg d_has_word_form y_len g_LONGEST_WORD w1
 have w3 := jy d_is_word g_KEPT w2
 have w4 := jx d_is_name y_len y_all g_MOST_WORDS w3 (w2.up (by omega))
 have w5 := b6 d_need_name w4
 have mSize := yw (P := P) (w := w) (base := base) hA D_inner D_size y_sum 10
 have mDepth := uv (P := P) (w := w) (base := base) hA D_inner D_depth y_max 10
 have mBounds := ui D_need_bounds mDepth mSize g_DEEPEST g_LARGEST
 have k1 := rf (j := 12) (A := (b5.mk a1 a2 a3 a4 a5 a6 a7 a8 a9)) c1 (hA.lE a1 (by simp) "value" (by decide)) i1 (s2.up (by omega))
 have k2 := rg (j := 12) hA i2 (w5.up (by omega))
 have k3 := qO (j := 12) hA i3 mBounds
 have k4 := u_ (j := 12) hA i4 k_SIGNS mBounds
 have k5 := qN (j := 12) hA i5 mBounds
 have k6 := qM (j := 12) hA i6 (s3.up (by omega)) mBounds
 have k7 := xW (j := 12) hA i7 mBounds
 have k8 := vA (j := 12) hA i8 (w5.up (by omega)) mBounds
 have k9 := u9 (j := 12) hA i9 (w5.up (by omega)) (s3.up (by omega)) mBounds
 have p1 := dC (P := P) (base := base) (j := 0) d_has_shape y_len k_SHAPES
 have p0 := fF d_many_within k_SHAPES p1
 have p2 := ib (j := 14) d_plain_by (by omega) k1 k2 k3 k5
 have p3 := ic (j := 14) d_timed_by (by omega) k6 k7 k8 k9
 have p4 := ql (sb := sb) d_part_of p0 p1 p2 p3 k4 4 (by omega)
 have l1 := zX (P := P) (w := w) (base := base) (j := 0) d__law_mixed
 have l2 := CS (P := P) (w := w) (base := base) (j := 0) d__law_cell_at y_len
 have l3 := wW (P := P) (w := w) (base := base) (j := 0) d__law_number
 have l4 := zZ d__law_value l3
 have l5 := zY d__law_names y_range l1
 have l6 := rA d__law_tree y_len l1 l3 l4 4
 have l7 := CT d__law_leaf y_int (l1.up (by omega)) l4
 have l8 := ni d__law_typed y_range l1 l4 l7 4
 have ex : IH K b1 b2 b3 := ⟨ty1, two, kt11, ve1, fe_row.pg, fe_row.hd, fe_row.nf, fe_place.nf⟩
 have v1 := cO (P := P) (w := w) (base := base) (j := 0) d_value_kind y_isinstance y_bool
 have v2 := lP d_fits v1
 have v3 := C9 hA D_from (v1.up (by omega)) v2 k_SIGNS
 have v4 := xf (P := P) (w := w) (base := base) (A := (b5.mk a1 a2 a3 a4 a5 a6 a7 a8 a9)) (i := 1) (j := 3) (by omega) D_kind_by y_enumerate (fun n C hC => (j3 (P := P) (w := w) (mg := mg) (base := base) (j := 2) hA D_inner n C hC)) v3 (AJ de fe_row fe_place) bm bt 4
 have v5 := CU d__law_told (PySem.W.mg_of X G xr) hk be y_isinstance y_ValueError (PySem.W.mg_of X G x2) (PySem.W.mg_of X G x3) (PySem.W.mg_of X G x1) ex v4
 have v6 := wX (P := P) (w := w) (base := base) (j := 0) d__law_wanted y_len y_isinstance y_bool
 have v7 := xm d__law_kind y_isinstance y_bool y_tuple y_enumerate v6 4
 have R := DT (j := 31) (A := (b5.mk a1 a2 a3 a4 a5 a6 a7 a8 a9)) F y_range y_tuple y_dict (l1.up (by omega)) (l2.up (by omega)) (l5.up (by omega)) (l6.up (by omega)) (l8.up (by omega)) (p4.up (by omega)) (zR v5 (by omega)) (v7.up (by omega))
 exact JF R fun vs H Q E ⟨q, ns, e, hS, hl, k⟩ => ⟨[.lst (ns.map D.int)], e ▸ .cons (.lst hS (p_ ns)) .nil, ns, rfl, fun v H' dv => by cases dv; exact k H'⟩
theorem all_mk {l : PySem.W.OpenLaw} {w : World} {K : PySem.W.Frag} {h : Heap} {mg : Str -> Option Value} {fa f1 : Addr} (X : K.In h) (G : h.Ns mainGlobals mg) (hfa : mg "law" = some (.ref fa))
  {od1 an1 : Option Addr} {sl1 : Array (Option Value)} {oc1 kV1 dc1 pm1 cd1 ct1 : Value}
  (la : PySem.W.nsIn K mainGlobals "law" = some (some (.ref f1))) (ll : K.lookup f1 = some ⟨oc1, od1, .func (PySem.W.fnOf "law" "law" (bq g5) (af g5) (aC g5) .none kV1 dc1 pm1 an1 cd1 ct1), sl1⟩) (lc : PySem.W.codeIn K cd1 "law" = true) (lk : PySem.W.keepIn K (.ref f1) = true)
  (R : ∀ (P : Program) (base : Heap) (f : Addr) (fd : FuncData), rG K "law" "law" g5 f fd -> bX P w K mg base lJ 32 f fd ["_law_script"] (qx K))
  : ∃ fd : FuncData, (∀ (s : Shared) (v : Value), BindsTo s fd ⟨[v], []⟩ [("_law_script", v)]) /\ ∀ base : Heap, K.In base -> base.Ns mainGlobals mg -> bX l.prog w K mg base lJ 32 fa fd ["_law_script"] (qx K) := by
 have e := hfa.symm.trans (PySem.W.mg_of X G la)
 cases e
 exact ⟨PySem.W.fnOf "law" "law" (bq g5) (af g5) (aC g5) .none kV1 dc1 pm1 an1 cd1 ct1, fun s v => .of_eq rfl, fun base _ _ => R _ base _ _ (ij (st := g5) ll lc lk)⟩
theorem walk {l : PySem.W.OpenLaw} {q : Program} {loose : List Str} {XP : (Str -> Option Value) -> Heap -> Prop} {YP : World -> Heap -> Prop} {d : DefRec} {K : Params -> PySem.W.Frag} (hn : l.most = some 63) (hdf : d.params.defaults = [])
  (hY : ∀ (w : World) (h : Heap), YP w h -> (K w.params).In h)
  (F : ∀ (w : World) (mg : Str -> Option Value) (fa : Addr) (h : Heap), (K w.params).In h -> h.Ns mainGlobals mg -> mg d.name = some (.ref fa) ->
   ∃ fd : FuncData, (∀ (s : Shared) (u : Value), BindsTo s fd ⟨[u], []⟩ [("_law_script", u)]) /\ ∀ base : Heap, (K w.params).In base -> base.Ns mainGlobals mg -> bX l.prog w (K w.params) mg base lJ 32 fa fd ["_law_script"] (qx (K w.params))) :
  PySem.W.WalkO q loose XP YP l.row.toRowW d [] (fun f vs => PySem.call f vs) :=
 L2.BZ (n := 63) (k := 32) (x := "_law_script") (CX := fun _ => lJ) (sp := fun w => qx (K w.params)) hn (by decide) hdf ⟨rfl, by decide, by decide⟩ hY F (fun _ _ a ns hl _ hS => ⟨a, ns, rfl, hS, hl, fun _ => rfl⟩) fun _ _ _ _ _ z => z
end K05
open PySem PySem.W PyProof.Rows
namespace PySem.W.Fast
def tw10103119506495257100 := 0
def tw10262959632193303481 := 0
def tw10294756737994174958 := 0
def tw10310279832706790021 := 0
def tw10400389974333757158 := 0
def tw10420096774239724482 := 0
def tw10452968790183948957 := 0
def tw10484334857787026957 := 0
def tw10514429059547433097 := 0
def tw10656005779460025886 := 0
def tw11015917963256127536 := 0
def tw11027426302072456686 := 0
def tw11225485861249699860 := 0
def tw11290932885801878440 := 0
def tw11364257778048639709 := 0
def tw11538176559763231040 := 0
def tw11674872373435650078 := 0
def tw11818281197604787161 := 0
def tw11852079115307602793 := 0
def tw12092355008455281663 := 0
def tw12384465337908332585 := 0
def tw1242550782368168785 := 0
def tw12948839647927777217 := 0
def tw12990096968060738589 := 0
def tw13057723461489724948 := 0
def tw13169346021813415424 := 0
def tw1328815040596282393 := 0
def tw13354050007536940838 := 0
def tw13519804169616579939 := 0
def tw13638872134497051563 := 0
def tw13674733497002462910 := 0
def tw1393920240904563569 := 0
def tw14145803364522560927 := 0
def tw14435002980409884887 := 0
def tw14524017039033298056 := 0
def tw14711077477783232670 := 0
def tw14799362899737547957 := 0
def tw14845420273156555632 := 0
def tw1486268436325256017 := 0
def tw14920398203146151547 := 0
def tw15126311660275756694 := 0
def tw15290266470401994890 := 0
def tw15321327707652894573 := 0
def tw15443738334249844481 := 0
def tw15452269257581967854 := 0
def tw1556480992498983594 := 0
def tw15831918502610287095 := 0
def tw15908872026032213721 := 0
def tw15915344468519600286 := 0
def tw15994440461721213404 := 0
def tw16001523060524400419 := 0
def tw16052888471754864549 := 0
def tw16127094134592630697 := 0
def tw16268390608801675541 := 0
def tw1627148592845106668 := 0
def tw16443186950511428218 := 0
def tw16511434333496254898 := 0
def tw16898874556745391168 := 0
def tw17119984382890731969 := 0
def tw17349439601384623972 := 0
def tw17465897777297144521 := 0
def tw17476842028278431536 := 0
def tw17539642659250329085 := 0
def tw17754494435803253097 := 0
def tw17820530793078429146 := 0
def tw17919648077698578704 := 0
def tw1990906153936531392 := 0
def tw2002329055837366296 := 0
def tw2004071404276325261 := 0
def tw2008354800442852633 := 0
def tw2181379600897078760 := 0
def tw2247997517482506006 := 0
def tw2514202397974441330 := 0
def tw2521021360259675121 := 0
def tw2558430079418750933 := 0
def tw2698279327582440720 := 0
def tw2990419407846878274 := 0
def tw3109145148883597588 := 0
def tw3193537718135405400 := 0
def tw3345373937015558895 := 0
def tw3478153556921652937 := 0
def tw3653867909623968012 := 0
def tw3807874290980981687 := 0
def tw3920605810897960446 := 0
def tw3985494912476820237 := 0
def tw404411352579278033 := 0
def tw4466241227756057294 := 0
def tw4484875881221371286 := 0
def tw4507663434342701373 := 0
def tw4674224226021654588 := 0
def tw4820189294018932227 := 0
def tw4821058511668895934 := 0
def tw4924542452925207432 := 0
def tw4925599340166559168 := 0
def tw4948120028168312650 := 0
def tw513632529535729165 := 0
def tw5422970789686071661 := 0
def tw5622181143713936858 := 0
def tw5662937841454808053 := 0
def tw5671388423080625235 := 0
def tw6051458725865208496 := 0
def tw6102911550980153497 := 0
def tw611530144063243704 := 0
def tw661007543958348676 := 0
def tw6674385089287008624 := 0
def tw6739180021184761491 := 0
def tw6834389471471713644 := 0
def tw6840713482358544939 := 0
def tw686242833827010176 := 0
def tw7034359673511980503 := 0
def tw7096854060354737400 := 0
def tw7203008038585353193 := 0
def tw785764280671615700 := 0
def tw7900420974498733500 := 0
def tw8168352130997947054 := 0
def tw8405653646678426756 := 0
def tw8656377684558672960 := 0
def tw8777238641763586044 := 0
def tw8833512080482414810 := 0
def tw9604106128889193739 := 0
end PySem.W.Fast
set_option maxRecDepth 100000 in
set_option maxHeartbeats 0 in
theorem PySem.Challenge.cw_runrows_k05_kinds_holds : PySem.Challenge.rw_runrows_k05_kinds.Holds := by
 w_on; o_law; k_head; (case hw => w_witness2)
 k_fill
 refine K05.walk (l := PySem.Challenge.rw_runrows_k05_kinds) rfl rfl (fun w h Y => PySem.W.kIn_of Y) ?F
 case F =>
  intro w mg fa h KX G hmg
  refine' K05.all_mk KX G hmg ?la ?ll ?lc ?lk (K05.CO KX G ?e1 ?e2 ?e3 ?e4 ?e5 ?e6 ?e7 ?e8 ?e9 ?x1 ?x2 ?x3 ?xr ?nd ?o1 ?n1 ?m1_inner ?m1_size ?m1_depth ?m1_need_bounds ?m1_kind_by ?m1_kind_from ?i1 ?o2 ?n2 ?m2_inner ?m2_size ?m2_depth ?m2_need_bounds ?m2_kind_by ?m2_kind_from ?i2 ?o3 ?n3 ?m3_inner ?m3_size ?m3_depth ?m3_need_bounds ?m3_kind_by ?m3_kind_from ?i3 ?o4 ?n4 ?m4_inner ?m4_size ?m4_depth ?m4_need_bounds ?m4_kind_by ?m4_kind_from ?i4 ?o5 ?n5 ?m5_inner ?m5_size ?m5_depth ?m5_need_bounds ?m5_kind_by ?m5_kind_from ?i5 ?o6 ?n6 ?m6_inner ?m6_size ?m6_depth ?m6_need_bounds ?m6_kind_by ?m6_kind_from ?i6 ?o7 ?n7 ?m7_inner ?m7_size ?m7_depth ?m7_need_bounds ?m7_kind_by ?m7_kind_from ?i7 ?o8 ?n8 ?m8_inner ?m8_size ?m8_depth ?m8_need_bounds ?m8_kind_by ?m8_kind_from ?i8 ?o9 ?n9 ?m9_inner ?m9_size ?m9_depth ?m9_need_bounds ?m9_kind_by ?m9_kind_from ?i9 ?ty1 ?kt11 ?kt12 ?kt13 ?ve1 ?re1 ?ne1 ?be ?bm ?bt ?de ?fe_row ?fe_place ?d_has_letters ?d_has_word_form ?d_is_word ?d_is_name ?d_is_number ?d_is_value ?d_need_name ?d_need_first ?d_has_shape ?d_many_within ?d_plain_by ?d_timed_by ?d_part_of ?d__law_cell_at ?d__law_mixed ?d__law_names ?d__law_number ?d__law_value ?d__law_tree ?d__law_leaf ?d__law_typed ?d__law_told ?d_value_kind ?d_fits ?d__law_wanted ?d__law_kind ?g_LONGEST_WORD ?g_MOST_WORDS ?g_LOWEST ?g_HIGHEST ?g_DEEPEST ?g_LARGEST ?g_LETTERS ?g_KEPT ?k_SHAPES ?k_SIGNS ?z_isinstance ?z_bool ?z_int ?z_len ?z_all ?z_sum ?z_max ?z_range ?z_ValueError ?z_enumerate ?z_tuple ?z_dict)
  (case la => k_is)
  (case ll => k_is)
  (case lc => k_is)
  (case lk => k_is)
  (case e1 => k_is)
  (case e2 => k_is)
  (case e3 => k_is)
  (case e4 => k_is)
  (case e5 => k_is)
  (case e6 => k_is)
  (case e7 => k_is)
  (case e8 => k_is)
  (case e9 => k_is)
  (case x1 => k_is)
  (case x2 => k_is)
  (case x3 => k_is)
  (case xr => k_is)
  (case nd => decide)
  (case o1 => exact K05.gA)
  (case n1 => exact K05.fz)
  (case m1_inner => exact K05.aP)
  (case m1_size => exact K05.aP)
  (case m1_depth => exact K05.aP)
  (case m1_need_bounds => exact K05.aP)
  (case m1_kind_by => exact K05.aP)
  (case m1_kind_from => exact K05.aP)
  (case i1 => exact K05.lW KX G)
  (case o2 => exact K05.gA)
  (case n2 => exact K05.fz)
  (case m2_inner => exact K05.aP)
  (case m2_size => exact K05.aP)
  (case m2_depth => exact K05.aP)
  (case m2_need_bounds => exact K05.aP)
  (case m2_kind_by => exact K05.aP)
  (case m2_kind_from => exact K05.aP)
  (case i2 => exact K05.lW KX G)
  (case o3 => exact K05.gA)
  (case n3 => exact K05.fz)
  (case m3_inner => exact K05.aP)
  (case m3_size => exact K05.aP)
  (case m3_depth => exact K05.aP)
  (case m3_need_bounds => exact K05.aP)
  (case m3_kind_by => exact K05.aP)
  (case m3_kind_from => exact K05.aP)
  (case i3 => exact K05.lW KX G)
  (case o4 => exact K05.gA)
  (case n4 => exact K05.fz)
  (case m4_inner => exact K05.aP)
  (case m4_size => exact K05.aP)
  (case m4_depth => exact K05.aP)
  (case m4_need_bounds => exact K05.aP)
  (case m4_kind_by => exact K05.aP)
  (case m4_kind_from => exact K05.aP)
  (case i4 => exact K05.lW KX G)
  (case o5 => exact K05.gA)
  (case n5 => exact K05.fz)
  (case m5_inner => exact K05.aP)
  (case m5_size => exact K05.aP)
  (case m5_depth => exact K05.aP)
  (case m5_need_bounds => exact K05.aP)
  (case m5_kind_by => exact K05.aP)
  (case m5_kind_from => exact K05.aP)
  (case i5 => exact K05.lW KX G)
  (case o6 => exact K05.gA)
  (case n6 => exact K05.fz)
  (case m6_inner => exact K05.aP)
  (case m6_size => exact K05.aP)
  (case m6_depth => exact K05.aP)
  (case m6_need_bounds => exact K05.aP)
  (case m6_kind_by => exact K05.aP)
  (case m6_kind_from => exact K05.aP)
  (case i6 => exact K05.wz KX G K05.jG)
  (case o7 => exact K05.gA)
  (case n7 => exact K05.fz)
  (case m7_inner => exact K05.aP)
  (case m7_size => exact K05.aP)
  (case m7_depth => exact K05.aP)
  (case m7_need_bounds => exact K05.aP)
  (case m7_kind_by => exact K05.aP)
  (case m7_kind_from => exact K05.aP)
  (case i7 => exact K05.lW KX G)
  (case o8 => exact K05.gA)
  (case n8 => exact K05.fz)
  (case m8_inner => exact K05.aP)
  (case m8_size => exact K05.aP)
  (case m8_depth => exact K05.aP)
  (case m8_need_bounds => exact K05.aP)
  (case m8_kind_by => exact K05.aP)
  (case m8_kind_from => exact K05.aP)
  (case i8 => exact K05.lW KX G)
  (case o9 => exact K05.gA)
  (case n9 => exact K05.fz)
  (case m9_inner => exact K05.aP)
  (case m9_size => exact K05.aP)
  (case m9_depth => exact K05.aP)
  (case m9_need_bounds => exact K05.aP)
  (case m9_kind_by => exact K05.aP)
  (case m9_kind_from => exact K05.aP)
  (case i9 => exact K05.wz KX G K05.ko)
  (case ty1 => exact K05.Cf)
  (case kt11 => kit_is)
  (case kt12 => kit_is)
  (case kt13 => kit_is)
  (case ve1 => kit_is)
  (case re1 => kit_is)
  (case ne1 => decide)
  (case be => k_is)
  (case bm => k_is)
  (case bt => k_is)
  (case de => exact K05.Ey KX G)
  (case fe_row => exact K05.xO)
  (case fe_place => exact K05.xO)
  (case d_has_letters => exact K05.bW KX G)
  (case d_has_word_form => exact K05.bW KX G)
  (case d_is_word => exact K05.bW KX G)
  (case d_is_name => exact K05.bW KX G)
  (case d_is_number => exact K05.bW KX G)
  (case d_is_value => exact K05.bW KX G)
  (case d_need_name => exact K05.bW KX G)
  (case d_need_first => exact K05.bW KX G)
  (case d_has_shape => exact K05.bW KX G)
  (case d_many_within => exact K05.bW KX G)
  (case d_plain_by => exact K05.bW KX G)
  (case d_timed_by => exact K05.bW KX G)
  (case d_part_of => exact K05.bW KX G)
  (case d__law_cell_at => exact K05.bW KX G)
  (case d__law_mixed => exact K05.bW KX G)
  (case d__law_names => exact K05.bW KX G)
  (case d__law_number => exact K05.bW KX G)
  (case d__law_value => exact K05.bW KX G)
  (case d__law_tree => exact K05.bW KX G)
  (case d__law_leaf => exact K05.bW KX G)
  (case d__law_typed => exact K05.bW KX G)
  (case d__law_told => exact K05.bW KX G)
  (case d_value_kind => exact K05.bW KX G)
  (case d_fits => exact K05.bW KX G)
  (case d__law_wanted => exact K05.bW KX G)
  (case d__law_kind => exact K05.bW KX G)
  (case g_LONGEST_WORD => exact K05.nD KX G (by k_is))
  (case g_MOST_WORDS => exact K05.nD KX G (by k_is))
  (case g_LOWEST => exact K05.nD KX G (by k_is))
  (case g_HIGHEST => exact K05.nD KX G (by k_is))
  (case g_DEEPEST => exact K05.nD KX G (by k_is))
  (case g_LARGEST => exact K05.nD KX G (by k_is))
  (case g_LETTERS => exact K05.E9 KX G (by k_is))
  (case g_KEPT => refine' K05.E_ KX G ?e (K05.b8 (K05.kW.map L2.V.str) ?l ?z ?v (K05.uz K05.kW)); (case e => k_is); (case l => k_is); (case z => exact Nat.le_of_ble_eq_true rfl); (case v => exact (.cons ⟨_, rfl⟩ (.cons ⟨_, rfl⟩ (.cons ⟨_, rfl⟩ (.cons ⟨_, rfl⟩ (.cons ⟨_, rfl⟩ (.cons ⟨_, rfl⟩ (.cons ⟨_, rfl⟩ (.cons ⟨_, rfl⟩ (.cons ⟨_, rfl⟩ (.cons ⟨_, rfl⟩ (.cons ⟨_, rfl⟩ (.cons ⟨_, rfl⟩ (.cons ⟨_, rfl⟩ (.cons ⟨_, rfl⟩ (.cons ⟨_, rfl⟩ (.cons ⟨_, rfl⟩ (.cons ⟨_, rfl⟩ (.cons ⟨_, rfl⟩ (.cons ⟨_, rfl⟩ (.nil))))))))))))))))))))))
  (case k_SHAPES => refine' K05.Bp KX G ?e ?l ?k ?h ?s ?t; (case e => k_is); (case l => k_is); (case k => k_keys); (case h => exact (K05.bA rfl rfl (K05.bA rfl rfl (K05.bA rfl rfl (K05.bA rfl rfl (K05.bA rfl rfl (K05.bA rfl rfl (K05.bA rfl rfl (K05.bA rfl rfl (.nil)))))))))); (case s => exact rfl); (case t => refine' (.cons ?q0 (.cons ?q1 (.cons ?q2 (.cons ?q3 (.cons ?q4 (.cons ?q5 (.cons ?q6 (.cons ?q7 (.nil))))))))); (case q0 => refine' K05.b8 [(.int 2), (.int 0)] ?l ?z ?v ?d; (case l => k_is); (case z => exact Nat.le_of_ble_eq_true rfl); (case v => exact .cons ⟨_, rfl⟩ (.cons ⟨_, rfl⟩ .nil)); (case d => exact fun _ => .cons (.int _) (.cons (.int _) .nil))); (case q1 => refine' K05.b8 [(.int 2), (.int 0)] ?l ?z ?v ?d; (case l => k_is); (case z => exact Nat.le_of_ble_eq_true rfl); (case v => exact .cons ⟨_, rfl⟩ (.cons ⟨_, rfl⟩ .nil)); (case d => exact fun _ => .cons (.int _) (.cons (.int _) .nil))); (case q2 => refine' K05.b8 [(.int 2), (.int 1)] ?l ?z ?v ?d; (case l => k_is); (case z => exact Nat.le_of_ble_eq_true rfl); (case v => exact .cons ⟨_, rfl⟩ (.cons ⟨_, rfl⟩ .nil)); (case d => exact fun _ => .cons (.int _) (.cons (.int _) .nil))); (case q3 => refine' K05.b8 [(.int 4), (.int 3)] ?l ?z ?v ?d; (case l => k_is); (case z => exact Nat.le_of_ble_eq_true rfl); (case v => exact .cons ⟨_, rfl⟩ (.cons ⟨_, rfl⟩ .nil)); (case d => exact fun _ => .cons (.int _) (.cons (.int _) .nil))); (case q4 => refine' K05.b8 [(.int 3), (.int 1)] ?l ?z ?v ?d; (case l => k_is); (case z => exact Nat.le_of_ble_eq_true rfl); (case v => exact .cons ⟨_, rfl⟩ (.cons ⟨_, rfl⟩ .nil)); (case d => exact fun _ => .cons (.int _) (.cons (.int _) .nil))); (case q5 => refine' K05.b8 [(.int 3), (.int 2)] ?l ?z ?v ?d; (case l => k_is); (case z => exact Nat.le_of_ble_eq_true rfl); (case v => exact .cons ⟨_, rfl⟩ (.cons ⟨_, rfl⟩ .nil)); (case d => exact fun _ => .cons (.int _) (.cons (.int _) .nil))); (case q6 => refine' K05.b8 [(.int 3), (.int 1)] ?l ?z ?v ?d; (case l => k_is); (case z => exact Nat.le_of_ble_eq_true rfl); (case v => exact .cons ⟨_, rfl⟩ (.cons ⟨_, rfl⟩ .nil)); (case d => exact fun _ => .cons (.int _) (.cons (.int _) .nil))); (case q7 => refine' K05.b8 [(.int 4), (.int 1)] ?l ?z ?v ?d; (case l => k_is); (case z => exact Nat.le_of_ble_eq_true rfl); (case v => exact .cons ⟨_, rfl⟩ (.cons ⟨_, rfl⟩ .nil)); (case d => exact fun _ => .cons (.int _) (.cons (.int _) .nil)))))
  (case k_SIGNS => refine' K05.Bp KX G ?e ?l ?k ?h ?s ?t; (case e => k_is); (case l => k_is); (case k => k_keys); (case h => exact (K05.bA rfl rfl (K05.bA rfl rfl (K05.bA rfl rfl (K05.bA rfl rfl (K05.bA rfl rfl (K05.bA rfl rfl (K05.bA rfl rfl (K05.bA rfl rfl (.nil)))))))))); (case s => exact rfl); (case t => refine' (.cons ?q0 (.cons ?q1 (.cons ?q2 (.cons ?q3 (.cons ?q4 (.cons ?q5 (.cons ?q6 (.cons ?q7 (.nil))))))))); (case q0 => refine' K05.b8 [(.str "number"), (.str "number")] ?l ?z ?v ?d; (case l => k_is); (case z => exact Nat.le_of_ble_eq_true rfl); (case v => exact .cons ⟨_, rfl⟩ (.cons ⟨_, rfl⟩ .nil)); (case d => exact fun _ => .cons (.str _) (.cons (.str _) .nil))); (case q1 => refine' K05.b8 [(.str "number"), (.str "number")] ?l ?z ?v ?d; (case l => k_is); (case z => exact Nat.le_of_ble_eq_true rfl); (case v => exact .cons ⟨_, rfl⟩ (.cons ⟨_, rfl⟩ .nil)); (case d => exact fun _ => .cons (.str _) (.cons (.str _) .nil))); (case q2 => refine' K05.b8 [(.str "number"), (.str "number")] ?l ?z ?v ?d; (case l => k_is); (case z => exact Nat.le_of_ble_eq_true rfl); (case v => exact .cons ⟨_, rfl⟩ (.cons ⟨_, rfl⟩ .nil)); (case d => exact fun _ => .cons (.str _) (.cons (.str _) .nil))); (case q3 => refine' K05.b8 [.aW, (.str "truth")] ?l ?z ?v ?d; (case l => k_is); (case z => exact Nat.le_of_ble_eq_true rfl); (case v => exact .cons rfl (.cons ⟨_, rfl⟩ .nil)); (case d => exact fun _ => .cons .aW (.cons (.str _) .nil))); (case q4 => refine' K05.b8 [(.str "number"), (.str "truth")] ?l ?z ?v ?d; (case l => k_is); (case z => exact Nat.le_of_ble_eq_true rfl); (case v => exact .cons ⟨_, rfl⟩ (.cons ⟨_, rfl⟩ .nil)); (case d => exact fun _ => .cons (.str _) (.cons (.str _) .nil))); (case q5 => refine' K05.b8 [(.str "number"), (.str "truth")] ?l ?z ?v ?d; (case l => k_is); (case z => exact Nat.le_of_ble_eq_true rfl); (case v => exact .cons ⟨_, rfl⟩ (.cons ⟨_, rfl⟩ .nil)); (case d => exact fun _ => .cons (.str _) (.cons (.str _) .nil))); (case q6 => refine' K05.b8 [(.str "truth"), (.str "truth")] ?l ?z ?v ?d; (case l => k_is); (case z => exact Nat.le_of_ble_eq_true rfl); (case v => exact .cons ⟨_, rfl⟩ (.cons ⟨_, rfl⟩ .nil)); (case d => exact fun _ => .cons (.str _) (.cons (.str _) .nil))); (case q7 => refine' K05.b8 [(.str "truth"), (.str "truth")] ?l ?z ?v ?d; (case l => k_is); (case z => exact Nat.le_of_ble_eq_true rfl); (case v => exact .cons ⟨_, rfl⟩ (.cons ⟨_, rfl⟩ .nil)); (case d => exact fun _ => .cons (.str _) (.cons (.str _) .nil)))))
  (case z_isinstance => k_is)
  (case z_bool => k_is)
  (case z_int => k_is)
  (case z_len => k_is)
  (case z_all => k_is)
  (case z_sum => k_is)
  (case z_max => k_is)
  (case z_range => k_is)
  (case z_ValueError => k_is)
  (case z_enumerate => k_is)
  (case z_tuple => k_is)
  (case z_dict => k_is)
#print axioms PySem.Challenge.cw_runrows_k05_kinds_holds